import PyProof.Rows.All
import Wide.All
import OpenK.AllK
import Wide.FinOn
import Lean
import PyProof.EqAt
import PyProof.EqKinds
import PyProof.TupleCall
import PyProof.StrLawsChain
import PyProof.StrLawsOccR
import PyProof.StrLawsReplace
import PyProof.NeKinds
import PyProof.EnumStmt
import PyProof.EnumMake
import PyProof.ListRange
import PyProof.StationsW
import PyProof.ExcClass2
import PyProof.ExcInit
import PyProof.InstStoreFacts
import OpenK.KRaise
import PyProof.NsDelKeeps
import PyProof.RulesAs
import PyProof.Rows.Catch
import OpenK.KOwn
import PyProof.ExcArgsOwn
import PyProof.ExcAttrAll.ValueError
import PyProof.IsiBase
import PyProof.MaxThree
import PyProof.SeqI3
import KE.KIsAll
import KE.IntTextLaws
import PyProof.StrLawsIdx
import PyProof.FitsInt
import PySem.Challenge.RW_holdlane_k33_rows_refused
set_option Elab.async false
set_option linter.all false
set_option maxRecDepth 100000
theorem Z {α:Sort u} {a:α}:a=a:=rfl
abbrev Fr:=PySem.W.Frag
open List (mem_map mem_append mem_cons map_map map_append mem_of_getElem? getElem?_map getElem?_eq_getElem mem_singleton map_cons length_cons size_toArray length_take length_singleton take_length length_map mem_cons_of_mem take_succ append_nil mem_flatMap mem_cons_self nodup_cons not_mem_nil mem_filter append_assoc mem_append_right length_append nodup_append map_nil flatMap_cons lookup_cons find?_cons map_congr_left all_eq_true length_drop take_append_drop find?_eq_none length_filter_le getElem?_cons_zero getElem?_eq_none any_eq_true filter_cons length_nil perm_append_comm mem_append_left mem_filterMap any_cons replicate_succ take_of_length_le length_range mem_iff_getElem filter_sublist mem_range getElem_inj flatten_cons range_succ sum_cons nodup_nil)
open Nat (le_refl ne_of_lt zero_le le_trans lt_of_lt_of_le lt_of_le_of_lt le_succ lt_irrefl lt_succ_of_lt succ_le_succ le_of_lt ne_of_gt)
open Int (emod_nonneg emod_lt_of_pos toNat_natCast)
open Option (map_eq_some_iff toList_some map_some isSome_iff_exists getD_some isSome_map)
open Bool (and_eq_true)
namespace L2
open PySem PySem.Spec PyProof.Rows
noncomputable abbrev Key:=Sum Int Str
noncomputable def zT:Key->Value->Bool
 | .inl k,v=>Value.isInt k v
 | .inr x,v=>Value.isStrOf x v
noncomputable def Zx (w:World):Key->Int
 | .inl k=>hashInt k
 | .inr x=>hashStr w x
theorem dw:∀{k:Key} {v:Value},zT k v=true->(∃i t,k=Sum.inl i/\v=Value.int i t)∨(∃x t,k=Sum.inr x/\v=Value.str x t)
 | .inl i,v,h=>by obtain⟨t,e⟩:=Value.isInt_shape (k:=i) (v:=v) h;exact .inl ⟨i,t,Z,e⟩
 | .inr x,v,h=>by obtain⟨t,e⟩:=Value.isStrOf_shape (x:=x) (v:=v) h;exact .inr ⟨x,t,Z,e⟩
theorem Qj (i:Int) (t:Tok):zT (.inl i) (.int i t)=true:=by simp [zT,Value.isInt]
theorem Py (x:Str) (t:Tok):zT (.inr x) (.str x t)=true:=by simp [zT,Value.isStrOf]
theorem Xn (a b:Int):decide ((Sum.inl a:Key)=Sum.inl b)=(a == b):=by
 by_cases e:a=b
 ·subst e;simp
 ·have h:¬(Sum.inl a:Key)=Sum.inl b:=λq=>e (Sum.inl.inj q);rw [decide_eq_false h];exact(beq_eq_false_iff_ne.mpr e).symm
theorem WW (a b:Str):decide ((Sum.inr a:Key)=Sum.inr b)=decide (a=b):=by
 by_cases e:a=b
 ·subst e;simp
 ·have h:¬(Sum.inr a:Key)=Sum.inr b:=λq=>e (Sum.inr.inj q);rw [decide_eq_false h,decide_eq_false e]
theorem Xy (a:Int) (b:Str):decide ((Sum.inl a:Key)=Sum.inr b)=false:=decide_eq_false (λq=>nomatch q)
theorem Yb (a:Str) (b:Int):decide ((Sum.inr a:Key)=Sum.inl b)=false:=decide_eq_false (λq=>nomatch q)
noncomputable def cj (prog:Program) (w:World):PySem.KeyKind prog w Key where
 is:=zT
 hash:=Zx w
 inj:=λv a b ha hb=>by
  rcases dw ha with ⟨i,t,rfl,rfl⟩ | ⟨x,t,rfl,rfl⟩
  ·rcases dw hb with ⟨j,u,rfl,e⟩ | ⟨y,u,rfl,e⟩
   ·injection e with e1 _;rw [e1]
   ·exact nomatch e
  ·rcases dw hb with ⟨j,u,rfl,e⟩ | ⟨y,u,rfl,e⟩
   ·exact nomatch e
   ·injection e with e1 _;rw [e1]
 byValue:=λk v h=>by rcases dw h with ⟨i,t,rfl,rfl⟩ | ⟨x,t,rfl,rfl⟩ <;> rfl
 pyHash:=λhv h=>by
  rcases dw hv with ⟨i,t,rfl,rfl⟩ | ⟨x,t,rfl,rfl⟩
  ·exact wpAny_pyHash_int h
  ·exact wpAny_pyHash_str h
 eqBool:=λhu hv h=>by
  rcases dw hu with ⟨i,t,rfl,rfl⟩ | ⟨x,t,rfl,rfl⟩
  ·rcases dw hv with ⟨j,u,rfl,rfl⟩ | ⟨y,u,rfl,rfl⟩
   ·rw [Xn] at h;exact wpAny_eqBool_int h
   ·rw [Xy] at h;exact SeqAt.EqAt.int_str i t y u _ _ _ _ h
  ·rcases dw hv with ⟨j,u,rfl,rfl⟩ | ⟨y,u,rfl,rfl⟩
   ·rw [Yb] at h;exact SeqAt.EqAt.str_int x t j u _ _ _ _ h
   ·rw [WW] at h;exact wpAny_eqBool_str h
 «strs» :=λk x t v h=>by
  rcases dw h with ⟨i,u,rfl,e⟩ | ⟨y,u,rfl,e⟩
  ·exact nomatch e
  ·injection e with e1 _;subst e1;cases v <;> rfl
theorem JP (prog:Program) (w:World) (i:Int) (t:Tok):(cj prog w).is (.inl i) (.int i t)=true:=Qj i t
theorem lF (prog:Program) (w:World) (x:Str) (t:Tok):(cj prog w).is (.inr x) (.str x t)=true:=Py x t
inductive V where
 | non | bl (b:Bool) | int (i:Int) | str (x:Str) | byt (b:Array UInt8) | flt (b:UInt64) | ref (a:Addr) | ty (n:String)
 deriving DecidableEq
noncomputable def RelV:V->Value->Prop
 | .non,u=>u=Value.none
 | .bl b,u=>u=Value.bool b
 | .int i,u=>∃t,u=Value.int i t
 | .str x,u=>∃t,u=Value.str x t
 | .byt b,u=>∃t,u=Value.bytes b t
 | .flt b,u=>∃t,u=Value.float b t
 | .ref a,u=>u=Value.ref a
 | .ty n,u=>u=Value.type n
noncomputable abbrev Vals:List V->List Value->Prop:=Paired RelV
theorem Vals.length {xs:List V} {us:List Value} (r:Vals xs us):xs.length=us.length:=Paired.length r
theorem Vals.get:∀{xs:List V} {us:List Value} {i:Nat} {x:V},Vals xs us->xs[i]?=some x->∃u,us[i]?=some u/\RelV x u
 | _,_,_,_,.nil,e=>by simp at e
 | _,_,0,_,.cons r _,e=>by simp at e;subst e;exact⟨_,rfl,r⟩
 | _,_,i+1,x,.cons _ t,e=>by obtain⟨u,h1,h2⟩:=Vals.get (i:=i) (x:=x) t (by simpa using e);exact⟨u,by simpa using h1,h2⟩
theorem Vals.set {x:V} {u:Value} (r:RelV x u):∀{xs:List V} {us:List Value} (i:Nat),Vals xs us->Vals (xs.set i x) (us.set i u)
 | _,_,_,.nil=>.nil
 | _,_,0,.cons _ t=>.cons r t
 | _,_,i+1,.cons q t=>.cons q (Vals.set r i t)
theorem Vals.append:∀{xs ys:List V} {us ws:List Value},Vals xs us->Vals ys ws->Vals (xs ++ ys) (us ++ ws)
 | _,_,_,_,.nil,s=>s
 | _,_,_,_,.cons r t,s=>.cons r (Vals.append t s)
theorem Vals.take:∀{xs:List V} {us:List Value} (n:Nat),Vals xs us->Vals (xs.take n) (us.take n)
 | _,_,0,_=>.nil
 | _,_,_+1,.nil=>.nil
 | _,_,n+1,.cons r t=>.cons r (Vals.take n t)
theorem Vals.drop:∀{xs:List V} {us:List Value} (n:Nat),Vals xs us->Vals (xs.drop n) (us.drop n)
 | _,_,0,r=>r
 | _,_,_+1,.nil=>.nil
 | _,_,n+1,.cons _ t=>Vals.drop n t
noncomputable def oE:Option V->Option Value->Prop
 | some v,some u=>RelV v u
 | none,none=>True
 | _,_=>False
noncomputable def KV {κ:Type}:List (κ×V)->List (κ×Value)->Prop:=Paired fun(p:κ×V) (q:κ×Value)=>p.1=q.1/\RelV p.2 q.2
noncomputable def kV:Key->V
 | .inl i=>.int i
 | .inr x=>.str x
inductive HO where
  | lst (xs:List V)
  | tup (xs:List V)
  | dK (kvs:List (Key×V)) | dT (kvs:List (List Key×V))
  | set (S:Int->Bool) (n:Nat)
  | ins (C dx:Addr) (fs:List (Str×V))
  | own (x:Addr)
  | xd (fs:List (Str×V))
  | met (f x:Addr)
  | rng (lo hi:Int)
  | frz (o:Obj) (u:HO)
  | tbl (ps:Array Value)
  | ext (φ:Heap->Prop)
noncomputable abbrev Hp:=Addr->Option HO
noncomputable def upd (H:Hp) (a:Addr) (o:HO):Hp:=λb=>if b=a then some o else H b
theorem az {H:Hp} {a:Addr} {o:HO}:upd H a o a=some o:=by unfold upd;rw [if_pos rfl]
theorem aH {H:Hp} {a b:Addr} {o:HO} (h:b≠a):upd H a o b=H b:=by unfold upd;rw [if_neg h]
theorem xJ {H:Hp} {a:Addr} {o u:HO}:upd (upd H a o) a u=upd H a u:=by funext b;unfold upd;split <;> rfl
theorem vO {H:Hp} {a b:Addr} {o u:HO} (h:H a=some o) (h':H b=some u) (d:o≠u):a≠b:=by intro e;subst e;rw [h] at h';exact d (Option.some.inj h')
theorem aF {H:Hp} {a b:Addr} {o:HO} (h:H a=some o) (h':H b=none):a≠b:=by intro e;subst e;rw [h] at h';cases h'
section
variable (P:Program) (w:World)
noncomputable def dg (H:Hp) (h:Heap) (a:Addr):HO->Prop
 | .lst xs=>xs.length<=sizeLine/\∃(its:List Value) (n:Nat),Vals xs its/\h.get? a=some { cls:=.type "list",data:=.seq its.toArray n }
 | .tup xs=>xs.length<=sizeLine/\∃its:List Value,Vals xs its/\IsTup h a its.toArray
 | .dK kvs=>kvs.length<=sizeLine/\(a == sysModules)=false/\∃vs,KV kvs vs/\h.DictOf (cj P w) a vs
 | .dT kvs=>kvs.length<=sizeLine/\(a == sysModules)=false/\∃xs:List (List Key×Addr×Value),
   Paired (fun(p:List Key×V) (q:List Key×Addr×Value)=>p.1=q.1/\H q.2.1=some (.tup (p.1.map kV))/\RelV p.2 q.2.2) kvs xs/\
   ∃o es ep,h.get? a=some o/\o.ExactDict/\o.data=.dict es ep/\es.toList=xs.map (entryOfKey (tupleKind (cj P w)))/\(xs.map (·.1)).Nodup
 | .set S n=>h.SetOf (intKind P w) a S n
 | .ins C dx fs=>H dx=some (.own a)/\fs.length<=1000/\dx≠a/\h.get? a=some (PySem.W.instObj C dx)/\
   ∃mA,h.Ns1 dx mA/\(∀f,oE (fs.lookup f) (mA f))/\PySem.Within mA (fs.map (·.1))
 | .own _=>∃o,h.get? a=some o
 | .xd fs=>∃mA,h.Ns1 a mA/\∀f,oE (fs.lookup f) (mA f)
 | .rng lo hi=>∃t u v,h.get? a=some { cls:=.type "range",data:=.fields #[.int lo t,.int hi u,.int 1 v] }
 | .frz o u=>h.get? a=some o/\dg H h a u
 | .tbl ps=>h.get? a=some { cls:=.none,data:=.fields ps }
 | .met f x=>h.get? a=some (PySem.W.methodObj (.ref f) (.ref x))
 | .ext φ=>φ h/\(∃o,h.get? a=some o)/\∀h1 h2:Heap,φ h1->(∀o,h1.get? a=some o->h2.get? a=some o)->φ h2
noncomputable def rT (H:Hp) (h:Heap):Prop:=∀a o,H a=some o->dg P w H h a o
end
section
variable {P:Program} {w:World} {H H':Hp} {h h':Heap} {a:Addr} {o:HO}
theorem dg.lt (x:dg P w H h a o):a <h.objs.size:=by
 cases o with
 | lst xs=>obtain⟨_,_,_,_,e⟩:=x;exact Heap.lt_size e
 | tup xs=>obtain⟨_,_,_,p⟩:=x;exact p.lt
 | dK kvs=>obtain⟨_,_,_,_,o,_,_,e,_⟩:=x;exact Heap.lt_size e
 | dT kvs=>obtain⟨_,_,_,_,o,_,_,e,_⟩:=x;exact Heap.lt_size e
 | set S n=>obtain⟨o,_,_,_,e,_⟩:=x;exact Heap.lt_size e
 | ins C dx fs=>obtain⟨_,_,_,e,_⟩:=x;exact Heap.lt_size e
 | own y=>obtain⟨_,e⟩:=x;exact Heap.lt_size e
 | xd fs=>obtain⟨_,⟨_,_,_,e,_⟩,_⟩:=x;exact Heap.lt_size e
 | rng lo hi=>obtain⟨_,_,_,e⟩:=x;exact Heap.lt_size e
 | frz ob u=>obtain⟨e,_⟩:=x;exact Heap.lt_size e
 | tbl ps=>exact Heap.lt_size (show h.get? a=some _ from x)
 | met f y=>exact Heap.lt_size (show h.get? a=some _ from x)
 | ext φ=>obtain⟨_,⟨_,e⟩,_⟩:=x;exact Heap.lt_size e
theorem Paired.mapP {α β:Type} {F G:α->β->Prop}:∀{l₁:List α} {l₂:List β},Paired F l₁ l₂->(∀a b,F a b->G a b)->Paired G l₁ l₂
 | _,_,.nil,_=>.nil
 | _,_,.cons r t,f=>.cons (f _ _ r) (Paired.mapP t f)
theorem dg.stay (x:dg P w H h a o) (k:∀b u,(b=a∨H b=some (.own a))->h.get? b=some u->h'.get? b=some u)
  (ho:∀b,H b=some (.own a)->H' b=some (.own a)) (ht:∀b xs,H b=some (.tup xs)->H' b=some (.tup xs)):dg P w H' h' a o:=by
 induction o with
 | lst xs=>obtain⟨z,its,n,r,e⟩:=x;exact⟨z,its,n,r,k _ _ (.inl rfl) e⟩
 | tup xs=>obtain⟨z,its,r,ob,e,c⟩:=x;exact⟨z,its,r,ob,k _ _ (.inl rfl) e,c⟩
 | dK kvs=>obtain⟨z,y,vs,r,ob,es,ep,e,c⟩:=x;exact⟨z,y,vs,r,ob,es,ep,k _ _ (.inl rfl) e,c⟩
 | dT kvs=>
  obtain⟨z,y,xs,r,ob,es,ep,e,c⟩:=x;exact⟨z,y,xs,Paired.mapP r λp q z=>⟨z.1,ht _ _ z.2.1,z.2.2⟩,ob,es,ep,k _ _ (.inl Z) e,c⟩
 | set S n=>obtain⟨ob,es,ep,t,e,c⟩:=x;exact⟨ob,es,ep,t,k _ _ (.inl rfl) e,c⟩
 | ins C dx fs=>
  obtain⟨d,z,ne,e,mA,⟨od,es,ep,e2,c⟩,r⟩:=x;exact⟨ho _ d,z,ne,k _ _ (.inl Z) e,mA,⟨od,es,ep,k _ _ (.inr d) e2,c⟩,r⟩
 | own y=>obtain⟨ob,e⟩:=x;exact⟨ob,k _ _ (.inl rfl) e⟩
 | xd fs=>obtain⟨mA,⟨od,es,ep,e,c⟩,r⟩:=x;exact⟨mA,⟨od,es,ep,k _ _ (.inl rfl) e,c⟩,r⟩
 | rng lo hi=>obtain⟨t,u,v,e⟩:=x;exact⟨t,u,v,k _ _ (.inl rfl) e⟩
 | frz ob u ih=>obtain⟨e,q⟩:=x;exact⟨k _ _ (.inl rfl) e,ih q⟩
 | tbl ps=>
  have e:h.get? a=some { cls:=.none,data:=.fields ps }:=x;show h'.get? a=some { cls:=.none,data:=.fields ps };exact k a _ (.inl Z) e
 | met f y=>
  have e:h.get? a=some (PySem.W.methodObj (.ref f) (.ref y)):=x;show h'.get? a=some (PySem.W.methodObj (.ref f) (.ref y));exact k a _ (.inl Z) e
 | ext φ=>obtain⟨p,⟨o,e⟩,st⟩:=x;exact⟨st _ _ p λo q=>k _ _ (.inl rfl) q,⟨o,k _ _ (.inl rfl) e⟩,st⟩
theorem rT.lt (x:rT P w H h) (e:H a=some o):a <h.objs.size:=(x a o e).lt
theorem rT.fresh (x:rT P w H h) (e:h.objs.size<=a):H a=none:=by
 cases q:H a with
 | none=>rfl
 | some u=>exact absurd (lt_of_lt_of_le (x.lt q) e) (lt_irrefl _)
theorem rT.kept (x:rT P w H h) (k:∀b u,h.get? b=some u->h'.get? b=some u):rT P w H h':=λa o e=>
 (x a o e).stay (λb u _ q=>k b u q) (λ_ q=>q) λ_ _ q=>q
theorem rT.laid (x:rT P w H h) (k:∀b u,h.get? b=some u->h'.get? b=some u) (hp:h.objs.size<=a) (new:dg P w (upd H a o) h' a o):rT P w (upd H a o) h':=λb u e=>by
 have hn:=x.fresh hp;by_cases hb:b=a
 ·subst hb;rw [az] at e;cases e;exact new
 ·rw [aH hb] at e;exact(x b u e).stay (λc v _ q=>k c v q) (λc q=>by rw [aH (aF q hn)];exact q) λc xs q=>by rw [aH (aF q hn)];exact q
end
noncomputable def Rd (H:Hp) (a:Addr) (u:HO):Prop:=H a=some u∨∃o,H a=some (.frz o u)
theorem Rd.ok {P:Program} {w:World} {H:Hp} {h:Heap} {a:Addr} {u:HO} (r:Rd H a u) (x:rT P w H h):dg P w H h a u:=by
 rcases r with r | ⟨o,r⟩
 ·exact x a u r
 ·obtain⟨_,q⟩:=x a _ r;exact q
noncomputable def Zm:Option HO->Prop
 | some (.lst _)=>True
 | some (.dK _)=>True
 | some (.dT _)=>True
 | some (.set _ _)=>True
 | some (.ins _ _ _)=>True
 | some (.ext _)=>True
 | _=>False
section
variable {P:Program} {w:World} {H:Hp} {h h':Heap} {x e:Addr} {o':HO}
theorem rT.write (ok:rT P w H h) (mu:Zm (H x)) (he:e=x∨H e=some (.own x)) (k:∀b u,b≠e->h.get? b=some u->h'.get? b=some u) (heo:∃u,h'.get? e=some u)
  (new:dg P w (upd H x o') h' x o'):rT P w (upd H x o') h':=λb u q=>by
 have nown:∀c y,H c=some (.own y)->c≠x:=λc y r z=>by subst z;rw [r] at mu;exact mu
 have ntup:∀c xs,H c=some (.tup xs)->c≠x:=λc xs r z=>by subst z;rw [r] at mu;exact mu
 by_cases hb:b=x
 ·subst hb;rw [az] at q;cases q;exact new
 ·rw [aH hb] at q;by_cases hbe:b=e
  ·have q':H b=some (.own x):=by
    rcases he with z | z
    ·exact absurd (hbe.trans z) hb
    ·rw [hbe];exact z
   rw [q] at q';cases q';obtain⟨v,hv⟩:=heo;exact⟨v,by rw [hbe];exact hv⟩
  ·refine(ok b u q).stay (λc v hc r=>k c v ?_ r) (λc r=>by rw [aH (nown c b r)];exact r) λc xs r=>by rw [aH (ntup c xs r)];exact r
   rcases hc with rfl | hc
   ·exact hbe
   ·rintro rfl;rcases he with z | z
    ·exact nown c b hc z
    ·rw [hc] at z;cases z;exact hb rfl
end
structure Un (fs ex:List Addr) (H H':Hp) (h h':Heap):Prop where
 keep:∀b o,h.get? b=some o->H b=none->b∉fs->b∉ex->h'.get? b=some o
 slot:∀b o,h.get? b=some o->H b=none->b∈fs->b∉ex->∃sl,h'.get? b=some { o with slots:=sl }
 free:∀b o,h.get? b=some o->H b=none->b∉ex->H' b=none
 there:∀b o,h.get? b=some o->b∉ex->∃o',h'.get? b=some o'
 tups:∀b xs,H b=some (.tup xs)->H' b=some (.tup xs)
 frzs:∀b o u,H b=some (.frz o u)->H' b=some (.frz o u)
 tbls:∀b ps,H b=some (.tbl ps)->∃more,H' b=some (.tbl (ps ++ more))
section
variable {fs fs' ex ex':List Addr} {H H1 H2:Hp} {h h1 h2 h':Heap} {a x e:Addr} {o:HO}
theorem Un.any (u:Un fs ex H H1 h h1) {b:Addr} {ob:Obj} (q:h.get? b=some ob) (n:H b=none) (hx:b∉ex):∃sl,h1.get? b=some { ob with slots:=sl }:=by
 by_cases hb:b∈fs
 ·exact u.slot b ob q n hb hx
 ·exact⟨ob.slots,u.keep b ob q n hb hx⟩
theorem Un.kept (k:∀b u,h.get? b=some u->h'.get? b=some u):Un fs ex H H h h':=
 ⟨λb ob q _ _ _=>k b ob q,λb ob q _ _ _=>⟨ob.slots,k b ob q⟩,λ_ _ _ n _=>n,λb ob q _=>⟨ob,k b ob q⟩,λ_ _ q=>q,λ_ _ _ q=>q,λ_ ps q=>⟨#[],by rw [q];simp⟩⟩
theorem Un.refl:Un fs ex H H h h:=Un.kept λ_ _ q=>q
theorem Un.laid (k:∀b u,h.get? b=some u->h'.get? b=some u) (hp:h.objs.size<=a) (hn:H a=none):Un fs ex H (upd H a o) h h' where
 keep:=λb u q _ _ _=>k b u q
 slot:=λb u q _ _ _=>⟨u.slots,k b u q⟩
 free:=λb u q n _=>by rw [aH (ne_of_lt (lt_of_lt_of_le (Heap.lt_size q) hp))];exact n
 there:=λb u q _=>⟨u,k b u q⟩
 tups:=λb xs q=>by rw [aH (aF q hn)];exact q
 frzs:=λb u xs q=>by rw [aH (aF q hn)];exact q
 tbls:=λb ps q=>⟨#[],by rw [aH (aF q hn),q];simp⟩
theorem Un.write (mu:Zm (H x)) (he:e=x∨H e=some (.own x)) (k:∀b u,b≠e->h.get? b=some u->h'.get? b=some u) (heo:∃u,h'.get? e=some u):Un fs ex H (upd H x o) h h':=by
 have hx:∀b,H b=none->b≠x:=λb n z=>by subst z;rw [n] at mu;exact mu
 have hb:∀b,H b=none->b≠e:=λb n z=>by
  subst z;rcases he with r | r
  ·exact hx b n r
  ·rw [n] at r;cases r
 have hm:∀b u,H b=some u->¬Zm (some u)->b≠x:=λb u q nm z=>by subst z;rw [q] at mu;exact nm mu
 refine⟨λb u q n _ _=>k b u (hb b n) q,λb u q n _ _=>⟨u.slots,k b u (hb b n) q⟩,λb u q n _=>by rw [aH (hx b n)];exact n,λb u q _=>?_,
  λb xs q=>by rw [aH (hm b _ q λz=>z)];exact q,λb u xs q=>by rw [aH (hm b _ q λz=>z)];exact q,λb ps q=>⟨#[],by rw [aH (hm b _ q λz=>z),q];simp⟩⟩
 by_cases hbe:b=e
 ·subst hbe;exact heo
 ·exact⟨u,k b u hbe q⟩
end
noncomputable def trk (h:Heap) (H:Hp):List Addr:=(List.range h.objs.size).filter λa=>(H a).isSome
noncomputable def GX (h:Heap) (H:Hp):Heap:=PySem.W.hideAll h (trk h H)
theorem O4 (h:Heap) (H:Hp):(GX h H).objs.size=h.objs.size:=PySem.W.hideAll_size _ _
theorem S8 {h:Heap} {H:Hp} {b:Addr} {o:Obj} (e:h.get? b=some o) (n:H b=none):(GX h H).get? b=some o:=
 PySem.W.hideAll_get _ e λhm=>by have q:(H b).isSome=true:=(mem_filter.mp hm).2;rw [n] at q;simp at q
theorem VF {h:Heap} {H:Hp} {b:Addr} {o:Obj} (e:(GX h H).get? b=some o):h.get? b=some o/\H b=none:=by
 have e':h.get? b=some o:=PySem.W.of_hideAll (trk h H) e;refine⟨e',?_⟩;cases q:H b with
 | none=>rfl
 | some x=>
  have hm:b∈trk h H:=mem_filter.mpr ⟨mem_range.mpr (Heap.lt_size e'),by simp [q]⟩;have z:(GX h H).get? b=none:=PySem.W.hideAll_none (trk h H) hm;rw [z] at e;cases e
structure Mod (K:Fr) (mg:Str->Option Value) (base:Heap):Prop where
 kin:K.In base
 glob:base.Ns mainGlobals mg
 blt:∃mb,base.Ns builtinsNs mb/\∀x:Str,x≠ "__name__" ->mb x=bootBuiltins x
 nolimit:base.NoLimit
structure Cx where
 prog:Program
 w:World
 K:Fr
 mg:Str->Option Value
 base:Heap
 A:Around
 N:List Str
 s₀:Shared
 H₀:Hp
 env:Env
 outer:List Env
 stack:List Env
 ex:List Addr
 fn:Str->Bool
 calm:Bool
 pn:List (Addr×Obj)
 xe:Value->Shared->Prop
noncomputable def frs (l:List Env):List Addr:=l.filterMap (·.frame)
noncomputable abbrev Cx.fs (X:Cx):List Addr:=frs X.outer
noncomputable def Zn (sc:Scope) (x:Str):Prop:=sc.names.lookup x=some .local∨sc.names.lookup x=some .cell∨sc.names.lookup x=some .free
noncomputable def Loc (sc:Scope) (x:Str):Prop:=sc.names.lookup x=some .local∨sc.names.lookup x=some .cell
noncomputable def Look (env:Env) (h:Heap) (m:Str->Option Value) (x:Str) (u:Value):Prop:=
 (env.kindOf x=some .local/\m x=some u)∨((env.kindOf x=some .cell∨env.kindOf x=some .free)/\∃c,env.cells.lookup x=some c/\h.IsCell c (some u))
structure Cx.Ok (X:Cx):Prop where
 mod:Mod X.K X.mg X.base
 kind:X.env.scope.kind=.function
 glob:X.env.globals=mainGlobals
 blt:X.env.builtins=builtinsNs
 above:X.s₀.heap.objs.size<=X.env.locals
 inj:∀x y c,X.env.cells.lookup x=some c->X.env.cells.lookup y=some c->x=y
 has:∀x,(X.env.kindOf x=some .cell∨X.env.kindOf x=some .free)->∃c,X.env.cells.lookup x=some c
 cab:∀x c,X.fn x=true->X.env.cells.lookup x=some c->X.s₀.heap.objs.size<=c
 hd:X.calm=true->X.A.handled=none
 frames:X.A.frames=some X.stack
 stk:X.stack=X.outer∨(X.stack=X.env:: X.outer/\X.env.frame=some X.env.locals)
 exf:∀b∈X.ex,b≠X.env.locals/\∀x c,X.env.cells.lookup x=some c->c≠b
 bs:∀b o,X.base.get? b=some o->X.s₀.heap.get? b=some o/\X.H₀ b=none
 bsz:X.base.objs.size<=X.s₀.heap.objs.size
 noex:∀b o,X.base.get? b=some o->b∉X.ex
 exfs:∀b∈X.ex,b∉X.fs
 funs:X.s₀.heap.FunFrames X.base X.outer
 frf:∀b∈X.fs,X.H₀ b=none
structure Inv (X:Cx) (pins:List (Addr×Obj)) (σ:List (Option V)) (H:Hp) (s:Shared):Prop where
 ok:X.Ok
 os:s.os=X.s₀.os
 bare:AllBare s.gens
 base:Un X.fs X.ex X.H₀ H X.s₀.heap s.heap
 loc:∃m,s.heap.Ns X.env.locals m/\∀(i:Nat) (x:Str) (v:V),X.N[i]?=some x->σ[i]?=some (some v)->Zn X.env.scope x->∃u,RelV v u/\Look X.env s.heap m x u
 cell:∀x c,X.env.cells.lookup x=some c->∃v,s.heap.IsCell c v
 free:H X.env.locals=none
 freeC:∀x c,X.env.cells.lookup x=some c->H c=none
 pin:∀p∈X.pn ++ pins,s.heap.get? p.1=some p.2/\H p.1=none/\p.1≠X.env.locals/\p.1∉X.fs/\∀v,p.2.data≠.cell v
 hok:rT X.prog X.w H s.heap
 len:σ.length=X.N.length
section
variable {X:Cx} {pins:List (Addr×Obj)} {σ:List (Option V)} {H H':Hp} {s:Shared} {h':Heap}
theorem Cx.Ok.nofr (ok:X.Ok) {b:Addr} {o:Obj} (e:X.base.get? b=some o):b∉X.fs:=λhb=>by have:=(ok.funs.mem hb).1;rw [e] at this;cases this
theorem Inv.bs (I:Inv X pins σ H s):∀b o,X.base.get? b=some o->s.heap.get? b=some o/\H b=none:=λb o e=>
 ⟨I.base.keep b o (I.ok.bs b o e).1 (I.ok.bs b o e).2 (I.ok.nofr e) (I.ok.noex b o e),I.base.free b o (I.ok.bs b o e).1 (I.ok.bs b o e).2 (I.ok.noex b o e)⟩
theorem Inv.bk (I:Inv X pins σ H s):∀b o,X.base.get? b=some o->s.heap.get? b=some o:=λb o e=>(I.bs b o e).1
theorem Inv.mod (I:Inv X pins σ H s):Mod X.K X.mg X.base:=I.ok.mod
theorem Inv.kIn (I:Inv X pins σ H s):X.K.In s.heap:=I.ok.mod.kin.keeps I.bk
theorem Inv.lt (I:Inv X pins σ H s):X.env.locals <s.heap.objs.size:=let ⟨_,hn,_⟩:=I.loc;hn.lt
theorem Inv.sz (I:Inv X pins σ H s):X.s₀.heap.objs.size<=s.heap.objs.size:=le_trans I.ok.above (le_of_lt I.lt)
theorem Inv.nofs (I:Inv X pins σ H s) {a:Addr} (h:s.heap.objs.size<=a):a∉X.fs:=λhb=>by obtain⟨_,o,ho,_⟩:=I.ok.funs.mem hb;exact absurd (lt_of_lt_of_le (Heap.lt_size ho) (le_trans I.sz h)) (lt_irrefl _)
theorem Inv.cne (I:Inv X pins σ H s):∀x c,X.env.cells.lookup x=some c->c≠X.env.locals:=λx c e z=>by obtain⟨v,o,ho,hd⟩:=I.cell x c e;obtain⟨m,⟨o',es,ep,ho',hd',_⟩,_⟩:=I.loc;rw [z,ho'] at ho;cases ho;rw [hd'] at hd;cases hd
theorem Inv.funs (I:Inv X pins σ H s):s.heap.FunFrames X.base X.outer:=by
 have all:∀(l:List Env),(∀b∈frs l,b∈X.fs)->X.s₀.heap.FunFrames X.base l->s.heap.FunFrames X.base l:=by
  intro l;induction l with
  | nil=>intro _ _;trivial
  | cons env r ih=>
   intro hs hl;obtain⟨hk,⟨L,o,hf,hn,ho,hd⟩,hr⟩:=hl;have hL:L∈X.fs:=hs L (by unfold frs;rw [List.filterMap_cons,hf];exact mem_cons_self);obtain⟨sl,e⟩:=I.base.slot L o ho (I.ok.frf L hL) hL λz=>I.ok.exfs L z hL;exact⟨hk,⟨L,_,hf,hn,e,hd⟩,ih (λb hb=>hs b (by unfold frs;rw [List.filterMap_cons,hf];exact mem_cons_of_mem _ hb)) hr⟩
 exact all X.outer (λ_ hb=>hb) I.ok.funs
theorem Inv.stack (I:Inv X pins σ H s):s.heap.FunFrames X.base X.stack:=by
 rcases I.ok.stk with e | ⟨e,hf⟩
 ·rw [e];exact I.funs
 ·rw [e];obtain⟨m,hn,_⟩:=I.loc;refine .cons (by rw [I.ok.kind];decide) hf hn ?_ I.funs;exact Heap.get?_none_of_le (le_trans I.ok.bsz I.ok.above)
theorem Inv.stkSub (I:Inv X pins σ H s):∀b∈frs X.stack,b∈X.env.locals:: X.fs:=λb hb=>by
 rcases I.ok.stk with e | ⟨e,hf⟩
 ·rw [e] at hb;exact mem_cons_of_mem _ hb
 ·rw [e] at hb;unfold frs at hb;rw [List.filterMap_cons,hf] at hb;exact hb
theorem Inv.stkFree (I:Inv X pins σ H s):∀b∈frs X.stack,H b=none:=λb hb=>by
 rcases mem_cons.mp (I.stkSub b hb) with e | hb
 ·rw [e];exact I.free
 ·obtain⟨_,o,ho,_⟩:=I.ok.funs.mem hb;exact I.base.free b o ho (I.ok.frf b hb) λz=>I.ok.exfs b z hb
theorem Inv.step {g':Array GenState} {t':Nat} {d':Drawn} {ch:List Addr} (I:Inv X pins σ H s)
  (hch:∀b∈ch,(b∈X.ex∨X.s₀.heap.objs.size<=b)/\b≠X.env.locals/\(∀x c,X.env.cells.lookup x=some c->c≠b)/\∀p∈X.pn ++ pins,p.1≠b)
  (keep:∀b o,b≠X.env.locals->b∉X.fs->b∉ch->s.heap.get? b=some o->H b=none->h'.get? b=some o)
  (slot:∀b o,b≠X.env.locals->b∈X.fs->b∉ch->s.heap.get? b=some o->H b=none->∃sl,h'.get? b=some { o with slots:=sl }) (free:∀b o,b∉ch->s.heap.get? b=some o->H b=none->H' b=none)
  (there:∀b o,b∉ch->s.heap.get? b=some o->∃o',h'.get? b=some o')
  (tups:∀b xs,H b=some (.tup xs)->H' b=some (.tup xs)) (frzs:∀b o u,H b=some (.frz o u)->H' b=some (.frz o u)) (tbls:∀b ps,H b=some (.tbl ps)->∃more,H' b=some (.tbl (ps ++ more)))
  (ns:∀m,s.heap.Ns X.env.locals m->h'.Ns X.env.locals m) (hok:rT X.prog X.w H' h') (hg:AllBare g'):
  Inv X pins σ H' { s with heap:=h',gens:=g',drawn:=d',toks:=t' }:=by
 have neL:∀b o,X.s₀.heap.get? b=some o->b≠X.env.locals:=λb o e=>ne_of_lt (lt_of_lt_of_le (Heap.lt_size e) I.ok.above);have neC:∀b o,X.s₀.heap.get? b=some o->b∉X.ex->b∉ch:=λb o e hx hb=>by
  rcases(hch b hb).1 with z | z
  ·exact hx z
  ·exact absurd (lt_of_lt_of_le (Heap.lt_size e) z) (lt_irrefl _)
 have cellK:∀x c,X.env.cells.lookup x=some c->∀v,s.heap.IsCell c v->h'.IsCell c v:=λx c e v ⟨o,ho,hd⟩=>by
  have nch:c∉ch:=λz=>(hch c z).2.2.1 x c e rfl;by_cases hc:c∈X.fs
  ·obtain⟨sl,q⟩:=slot c o (I.cne x c e) hc nch ho (I.freeC x c e);exact⟨_,q,hd⟩
  ·exact⟨o,keep c o (I.cne x c e) hc nch ho (I.freeC x c e),hd⟩
 refine⟨I.ok,I.os,hg,⟨λb o e n hb hx=>?_,λb o e n hb hx=>?_,λb o e n hx=>?_,λb o e hx=>?_,λb xs e=>tups b xs (I.base.tups b xs e),λb o xs e=>frzs b o xs (I.base.frzs b o xs e),λb ps e=>?_⟩,?_,λx c e=>?_,?_,λx c e=>?_,λp hp=>?_,hok,I.len⟩
 ·exact keep b o (neL b o e) hb (neC b o e hx) (I.base.keep b o e n hb hx) (I.base.free b o e n hx)
 ·obtain⟨sl,e1⟩:=I.base.slot b o e n hb hx;obtain⟨sl',e2⟩:=slot b _ (neL b o e) hb (neC b o e hx) e1 (I.base.free b o e n hx);exact⟨sl',e2⟩
 ·obtain⟨o',e1⟩:=I.base.there b o e hx;exact free b o' (neC b o e hx) e1 (I.base.free b o e n hx)
 ·obtain⟨o',e1⟩:=I.base.there b o e hx;exact there b o' (neC b o e hx) e1
 ·obtain⟨m1,e1⟩:=I.base.tbls b ps e;obtain⟨m2,e2⟩:=tbls b _ e1;exact⟨m1 ++ m2,by rw [e2,Array.append_assoc]⟩
 ·obtain⟨m,hn,hl⟩:=I.loc;refine⟨m,ns m hn,λi x v e1 e2 e3=>?_⟩;obtain⟨u,r,l⟩:=hl i x v e1 e2 e3;refine⟨u,r,?_⟩;rcases l with l | ⟨k,c,e,z⟩
  ·exact .inl l
  ·exact .inr ⟨k,c,e,cellK x c e _ z⟩
 ·obtain⟨v,z⟩:=I.cell x c e;exact⟨v,cellK x c e v z⟩
 ·obtain⟨m,⟨o,_,_,ho,_⟩,_⟩:=I.loc;exact free _ o (λz=>(hch _ z).2.1 Z) ho I.free
 ·obtain⟨v,o,ho,hd⟩:=I.cell x c e;exact free c o (λz=>(hch c z).2.2.1 x c e Z) ho (I.freeC x c e)
 ·obtain⟨e,n,ne,nf,d⟩:=I.pin p hp;have nch:p.1∉ch:=λz=>(hch p.1 z).2.2.2 p hp rfl;exact⟨keep p.1 p.2 ne nf nch e n,free p.1 p.2 nch e n,ne,nf,d⟩
theorem Inv.un {t':Nat} (I:Inv X pins σ H s) (u:Un X.fs [] H H' s.heap h') (hok:rT X.prog X.w H' h'):Inv X pins σ H' { s with heap:=h',toks:=t' }:=by obtain⟨m,⟨o,es,ep,ho,r⟩,_⟩:=id I.loc;obtain⟨sl,hL⟩:=u.any ho I.free (by simp);exact I.step (g':=s.gens) (d':=s.drawn) (ch:=[]) (λ_ z=>nomatch z) (λb o _ hb _ e n=>u.keep b o e n hb (by simp)) (λb o _ hb _ e n=>u.slot b o e n hb (by simp)) (λb o _ e n=>u.free b o e n (by simp)) (λb o _ e=>u.there b o e (by simp)) u.tups u.frzs u.tbls (λm' hm=>by obtain⟨o',es',ep',ho',r'⟩:=hm;rw [ho] at ho';cases ho';exact⟨_,es',ep',hL,r'⟩) hok I.bare
theorem Inv.call {g':Array GenState} {t':Nat} {d':Drawn} {ch:List Addr} (I:Inv X pins σ H s) (u:Un (frs X.stack) ch H H' s.heap h') (hok:rT X.prog X.w H' h') (hg:AllBare g')
  (hch:∀b∈ch,(b∈X.ex∨X.s₀.heap.objs.size<=b)/\b≠X.env.locals/\(∀x c,X.env.cells.lookup x=some c->c≠b)/\∀p∈X.pn ++ pins,p.1≠b):
  Inv X pins σ H' { s with heap:=h',gens:=g',drawn:=d',toks:=t' }:=by
 obtain⟨m,⟨o,es,ep,ho,r⟩,_⟩:=id I.loc;obtain⟨sl,hL⟩:=u.any ho I.free λz=>(hch _ z).2.1 rfl;exact I.step (ch:=ch) hch (λb o hL hb hc e n=>u.keep b o e n (λz=>(mem_cons.mp (I.stkSub b z)).elim hL hb) hc) (λb o _ _ hc e n=>u.any e n hc) (λb o hc e n=>u.free b o e n hc) (λb o hc e=>u.there b o e hc) u.tups u.frzs u.tbls (λm' hm=>by obtain⟨o',es',ep',ho',r'⟩:=hm;rw [ho] at ho';cases ho';exact⟨_,es',ep',hL,r'⟩) hok hg
theorem Inv.turned {t':Nat} {it:Addr} (I:Inv X pins σ H s) (k:∀b o,b≠it->s.heap.get? b=some o->h'.get? b=some o) (hn:H it=none) (hL:it≠X.env.locals)
  (h1:it∈X.ex∨X.s₀.heap.objs.size<=it) (h2:∀x c,X.env.cells.lookup x=some c->c≠it) (h3:∀p∈X.pn ++ pins,p.1≠it):Inv X pins σ H { s with heap:=h',toks:=t' }:=by
 have nit:∀b u,H b=some u->b≠it:=λb u e z=>by rw [z,hn] at e;cases e
 refine I.step (g':=s.gens) (d':=s.drawn) (ch:=[it]) (λb hb=>?_) (λb o _ _ hc e _=>k b o (λz=>hc (by simp [z])) e) (λb o _ _ hc e _=>⟨o.slots,k b o (λz=>hc (by simp [z])) e⟩) (λ_ _ _ _ n=>n)
  (λb o hc e=>⟨o,k b o (λz=>hc (by simp [z])) e⟩) (λ_ _ e=>e) (λ_ _ _ e=>e) (λb ps e=>⟨#[],by rw [e];simp⟩) (λm hm=>?_) (λb u e=>?_) I.bare
 ·have e:b=it:=by simpa using hb
  subst e;exact⟨h1,hL,h2,h3⟩
 ·obtain⟨o,es,ep,ho,r⟩:=hm;exact⟨o,es,ep,k _ o (Ne.symm hL) ho,r⟩
 ·refine(I.hok b u e).stay (λc v hc q=>k c v ?_ q) (λ_ q=>q) λ_ _ q=>q;rcases hc with z | z
  ·rw [z];exact nit b u e
  ·exact nit c _ z
theorem Inv.tok (I:Inv X pins σ H s) (t:Nat):Inv X pins σ H { s with toks:=t }:=I.un (h':=s.heap) (t':=t) Un.refl I.hok
theorem Inv.kept {t':Nat} (I:Inv X pins σ H s) (k:∀b u,s.heap.get? b=some u->h'.get? b=some u):Inv X pins σ H { s with heap:=h',toks:=t' }:=I.un (Un.kept k) (I.hok.kept k)
theorem Inv.laid {a:Addr} {o:HO} {t':Nat} (I:Inv X pins σ H s) (k:∀b u,s.heap.get? b=some u->h'.get? b=some u) (hp:s.heap.objs.size<=a) (new:dg X.prog X.w (upd H a o) h' a o):
  Inv X pins σ (upd H a o) { s with heap:=h',toks:=t' }:=I.un (Un.laid k hp (I.hok.fresh hp)) (I.hok.laid k hp new)
theorem Inv.write {x e:Addr} {o:HO} {t':Nat} (I:Inv X pins σ H s) (mu:Zm (H x)) (he:e=x∨H e=some (.own x)) (k:∀b u,b≠e->s.heap.get? b=some u->h'.get? b=some u) (heo:∃u,h'.get? e=some u)
  (new:dg X.prog X.w (upd H x o) h' x o):Inv X pins σ (upd H x o) { s with heap:=h',toks:=t' }:=I.un (Un.write mu he k heo) (I.hok.write mu he k heo new)
theorem Inv.weak {σ':List (Option V)} (I:Inv X pins σ H s) (hl:σ'.length=σ.length) (w:∀(i:Nat) v,σ'[i]?=some (some v)->σ[i]?=some (some v)):Inv X pins σ' H s:=
 ⟨I.ok,I.os,I.bare,I.base,let ⟨m,hn,hl'⟩:=I.loc;⟨m,hn,λi x v e1 e2 e3=>hl' i x v e1 (w i v e2) e3⟩,I.cell,I.free,I.freeC,I.pin,I.hok,hl.trans I.len⟩
theorem Inv.pins_of {pins':List (Addr×Obj)} (I:Inv X pins σ H s) (h:∀p∈pins',s.heap.get? p.1=some p.2/\H p.1=none/\p.1≠X.env.locals/\p.1∉X.fs/\∀v,p.2.data≠.cell v):Inv X pins' σ H s:=
 ⟨I.ok,I.os,I.bare,I.base,I.loc,I.cell,I.free,I.freeC,λp hp=>(mem_append.mp hp).elim (λz=>I.pin p (mem_append_left _ z)) (h p),I.hok,I.len⟩
theorem CT {N:List Str} (hN:N.Nodup) {i j:Nat} {x:Str} (a:N[i]?=some x) (b:N[j]?=some x):i=j:=by obtain⟨h1,e1⟩:=List.getElem?_eq_some_iff.mp a;obtain⟨h2,e2⟩:=List.getElem?_eq_some_iff.mp b;exact(getElem_inj hN).mp (e1.trans e2.symm)
theorem yH {M:Model} {A:Around} {E:Value->Shared->Prop} {i:Nat} {x:Str} {v:V} {u:Value} {Q:Unit->Shared->Prop} (I:Inv X pins σ H s) (hN:X.N.Nodup) (hi:X.N[i]?=some x) (hx:Loc X.env.scope x) (r:RelV v u)
  (h:∀s',Inv X pins (σ.set i (some v)) H s'->(∃a,Heap.SameBut a s.heap s'.heap/\(a=X.env.locals∨X.env.cells.lookup x=some a))->Q () s') (hf:X.fn x=true∨X.env.scope.names.lookup x=some .local:=by first | exact .inl rfl | exact .inr rfl | assumption):wpAny M A (storeName X.env x u) Q E s:=by
 obtain⟨m,hn,hl⟩:=id I.loc;have hcls:(X.env.scope.kind == .class || (X.env.scope.kind == .module && X.env.locals != X.env.globals))=false:=by rw [I.ok.kind];rfl
 have hiσ:i <σ.length:=by rw [I.len];exact(List.getElem?_eq_some_iff.mp hi).1
 have cne:=I.cne;have tracked:∀{a:Addr} {h':Heap},(∃o,s.heap.get? a=some o/\H a=none)->Heap.SameBut a s.heap h'->rT X.prog X.w H h':=λ{a h'} ha hs b ob e=>by
  obtain⟨_,_,hfree⟩:=ha;refine(I.hok b ob e).stay (λc w' hc q=>(hs.2 c ?_).trans q) (λ_ q=>q) λ_ _ q=>q;rintro rfl;rcases hc with rfl | hc
  ·rw [hfree] at e;cases e
  ·rw [hfree] at hc;cases hc
 rcases hx with hk | hk
 ·refine wpAny_storeName_local hk hn (λh' hn' hs=>?_) hcls;obtain⟨oL,_,_,hoL,_⟩:=id hn;refine h _ ⟨I.ok,I.os,I.bare,⟨λb o e n hb hx=>?_,λb o e n hb hx=>?_,I.base.free,λb o e hx=>?_,I.base.tups,I.base.frzs,I.base.tbls⟩,⟨_,hn',λj y v' e1 e2 e3=>?_⟩,λy c e=>?_,I.free,I.freeC,λp hp=>?_,tracked ⟨oL,hoL,I.free⟩ hs,by simpa using I.len⟩ ⟨_,hs,.inl Z⟩
  ·exact(hs.2 b (ne_of_lt (lt_of_lt_of_le (Heap.lt_size e) I.ok.above))).trans (I.base.keep b o e n hb hx)
  ·obtain⟨sl,e1⟩:=I.base.slot b o e n hb hx;exact⟨sl,(hs.2 b (ne_of_lt (lt_of_lt_of_le (Heap.lt_size e) I.ok.above))).trans e1⟩
  ·obtain⟨o',e1⟩:=I.base.there b o e hx;exact⟨o',(hs.2 b (ne_of_lt (lt_of_lt_of_le (Heap.lt_size e) I.ok.above))).trans e1⟩
  ·by_cases hj:j=i
   ·subst hj;rw [hi] at e1;cases e1;rw [List.getElem?_set_self hiσ] at e2;cases e2;exact⟨u,r,.inl ⟨hk,by simp⟩⟩
   ·rw [List.getElem?_set_ne (Ne.symm hj)] at e2;obtain⟨u',r',q⟩:=hl j y v' e1 e2 e3;refine⟨u',r',?_⟩;rcases q with ⟨k,e⟩ | ⟨k,c,e,z⟩
    ·refine .inl ⟨k,?_⟩;have:y≠x:=λe=>hj (CT hN e1 (e ▸ hi));simp [this,e]
    ·exact .inr ⟨k,c,e,z.sameBut hs (cne y c e)⟩
  ·obtain⟨w',z⟩:=I.cell y c e;exact⟨w',z.sameBut hs (cne y c e)⟩
  ·obtain⟨e,n,ne,nf,d⟩:=I.pin p hp;exact⟨(hs.2 p.1 ne).trans e,n,ne,nf,d⟩
 ·have hfn:X.fn x=true:=by
   rcases hf with z | z
   ·exact z
   ·rw [z] at hk;cases hk
  obtain⟨c,hc⟩:=I.ok.has x (.inl hk);obtain⟨w',z⟩:=I.cell x c hc;refine wpAny_storeName_cell I.ok.kind hk hc z (λh' hc' hs=>?_);obtain⟨oc,hoc,hocd⟩:=id z;refine h { s with heap:=h' } ⟨I.ok,I.os,I.bare,⟨λb o e n hb hx=>?_,λb o e n hb hx=>?_,I.base.free,λb o e hx=>?_,I.base.tups,I.base.frzs,I.base.tbls⟩,⟨m,hn.sameBut hs (Ne.symm (cne x c hc)),λj y v' e1 e2 e3=>?_⟩,λy c' e=>?_,I.free,I.freeC,λp hp=>?_,tracked ⟨oc,hoc,I.freeC x c hc⟩ hs,by simpa using I.len⟩ ⟨c,hs,.inr hc⟩
  ·exact(hs.2 b (ne_of_lt (lt_of_lt_of_le (Heap.lt_size e) (I.ok.cab x c hfn hc)))).trans (I.base.keep b o e n hb hx)
  ·obtain⟨sl,e1⟩:=I.base.slot b o e n hb hx;exact⟨sl,(hs.2 b (ne_of_lt (lt_of_lt_of_le (Heap.lt_size e) (I.ok.cab x c hfn hc)))).trans e1⟩
  ·obtain⟨o',e1⟩:=I.base.there b o e hx;exact⟨o',(hs.2 b (ne_of_lt (lt_of_lt_of_le (Heap.lt_size e) (I.ok.cab x c hfn hc)))).trans e1⟩
  ·by_cases hj:j=i
   ·subst hj;rw [hi] at e1;cases e1;rw [List.getElem?_set_self hiσ] at e2;cases e2;exact⟨u,r,.inr ⟨.inl hk,c,hc,hc'⟩⟩
   ·rw [List.getElem?_set_ne (Ne.symm hj)] at e2;obtain⟨u',r',q⟩:=hl j y v' e1 e2 e3;refine⟨u',r',?_⟩;rcases q with q | ⟨k,c',e,z'⟩
    ·exact .inl q
    ·refine .inr ⟨k,c',e,z'.sameBut hs ?_⟩;rintro rfl;exact hj (CT hN e1 (I.ok.inj _ _ _ e hc ▸ hi))
  ·by_cases hcc:c'=c
   ·subst hcc;exact⟨_,hc'⟩
   ·obtain⟨w2,z2⟩:=I.cell y c' e;exact⟨w2,z2.sameBut hs hcc⟩
  ·obtain⟨e,n,ne,nf,d⟩:=I.pin p hp;refine⟨(hs.2 p.1 ?_).trans e,n,ne,nf,d⟩;intro q;rw [q,hoc] at e;have q':oc=p.2:=Option.some.inj e;exact d w' (by rw [<-q'];exact hocd)
theorem xK {M:Model} {A:Around} {E:Value->Shared->Prop} {i:Nat} {x:Str} {v:V} {u:Value} {Q:Unit->Shared->Prop} (I:Inv X pins σ H s) (hN:X.N.Nodup) (hi:X.N[i]?=some x) (hx:Loc X.env.scope x) (r:RelV v u)
  (h:∀s',Inv X pins (σ.set i (some v)) H s'->Q () s') (hf:X.fn x=true∨X.env.scope.names.lookup x=some .local:=by first | exact .inl rfl | exact .inr rfl | assumption):wpAny M A (storeName X.env x u) Q E s:=
 yH I hN hi hx r (λs' I' _=>h s' I') hf
theorem Inv.call' {s':Shared} {ch:List Addr} (I:Inv X pins σ H s) (ho:s'.os=s.os) (u:Un (frs X.stack) ch H H' s.heap s'.heap) (hok:rT X.prog X.w H' s'.heap) (hg:AllBare s'.gens)
  (hch:∀b∈ch,(b∈X.ex∨X.s₀.heap.objs.size<=b)/\b≠X.env.locals/\(∀x c,X.env.cells.lookup x=some c->c≠b)/\∀p∈X.pn ++ pins,p.1≠b):Inv X pins σ H' s':=by
 obtain⟨h',g',d',t',o'⟩:=s';have e:o'=s.os:=ho;subst e;exact I.call (g':=g') (t':=t') (d':=d') u hok hg hch
end
noncomputable abbrev XK:=Value->Option Addr->Hp->Prop
noncomputable abbrev St:=List (Option V)
noncomputable abbrev VK:=V->Hp->Prop
noncomputable abbrev TE:=St->Hp->VK->Prop
noncomputable abbrev TT:=St->Hp->(Bool->Hp->Prop)->Prop
noncomputable abbrev TA:=St->Hp->(List V->Hp->Prop)->Prop
structure Ends where
 nx:St->Hp->Prop
 rt:VK
 bk:St->Hp->Prop:=λ_ _=>False
 ct:St->Hp->Prop:=λ_ _=>False
noncomputable abbrev TS:=Ends->St->Hp->Prop
noncomputable def EP (X:Cx) (pins:List (Addr×Obj)) (σ:St) (Q:VK) (u:Value) (s':Shared):Prop:=∃v H',Inv X pins σ H' s'/\RelV v u/\Q v H'
noncomputable def TP (X:Cx) (pins:List (Addr×Obj)) (σ:St) (Q:Bool->Hp->Prop) (b:Bool) (s':Shared):Prop:=∃H',Inv X pins σ H' s'/\Q b H'
noncomputable def AP (X:Cx) (pins:List (Addr×Obj)) (σ:St) (Q:List V->Hp->Prop) (us:List Value) (s':Shared):Prop:=∃vs H',Inv X pins σ H' s'/\Vals vs us/\Q vs H'
noncomputable def SP (X:Cx) (pins:List (Addr×Obj)) (D:Ends) (f:Flow) (s':Shared):Prop:=
 match f with
 | .next=>∃σ' H',Inv X pins σ' H' s'/\D.nx σ' H'
 | .brk=>∃σ' H',Inv X pins σ' H' s'/\D.bk σ' H'
 | .cont=>∃σ' H',Inv X pins σ' H' s'/\D.ct σ' H'
 | .ret u=>∃v σ' H',Inv X pins σ' H' s'/\RelV v u/\D.rt v H'
noncomputable def PE (X:Cx) (e:Expr) (t:TE):Prop:=
 ∀(pins:List (Addr×Obj)) (s:Shared) (σ:St) (H:Hp) (Q:VK),Inv X pins σ H s->t σ H Q->wpAny (model X.prog X.w) X.A (eval e X.env) (EP X pins σ Q) X.xe s
noncomputable def PT (X:Cx) (e:Expr) (t:TT):Prop:=
 ∀(pins:List (Addr×Obj)) (s:Shared) (σ:St) (H:Hp) (Q:Bool->Hp->Prop),Inv X pins σ H s->t σ H Q->wpAny (model X.prog X.w) X.A (isTrue e X.env (eval e X.env)) (TP X pins σ Q) X.xe s
noncomputable def PW (X:Cx) (e:Expr) (t:TT):Prop:=
 ∀(whole:Sem Value) (pins:List (Addr×Obj)) (s:Shared) (σ:St) (H:Hp) (Q:Bool->Hp->Prop),Inv X pins σ H s->t σ H Q->wpAny (model X.prog X.w) X.A (isTrue e X.env whole) (TP X pins σ Q) X.xe s
theorem PW.pt {X:Cx} {e:Expr} {t:TT} (h:PW X e t):PT X e t:=h _
noncomputable def PA (X:Cx) (es:List Expr) (t:TA):Prop:=
 ∀(pos:Pos) (pins:List (Addr×Obj)) (s:Shared) (σ:St) (H:Hp) (Q:List V->Hp->Prop),Inv X pins σ H s->t σ H Q->wpAny (model X.prog X.w) X.A (spliced (backTo pos (starEach es X.env))) (AP X pins σ Q) X.xe s
noncomputable def PS (X:Cx) (st:Stmt) (t:TS):Prop:=
 ∀(pins:List (Addr×Obj)) (s:Shared) (σ:St) (H:Hp) (D:Ends),Inv X pins σ H s->t D σ H->wpAny (model X.prog X.w) X.A (exec st X.env) (SP X pins D) X.xe s
noncomputable def Ku (X:Cx) (st:List Stmt) (t:TS):Prop:=
 ∀(pins:List (Addr×Obj)) (s:Shared) (σ:St) (H:Hp) (D:Ends),Inv X pins σ H s->t D σ H->wpAny (model X.prog X.w) X.A (execs st X.env) (SP X pins D) X.xe s
theorem dC {α:Type} {t:Sem α} {Q Q':α->Shared->Prop} {M:Model} {A:Around} {E:Value->Shared->Prop} {s:Shared} (h:wpAny M A t Q E s) (hQ:∀a s,Q a s->Q' a s):wpAny M A t Q' E s:=wpAny_mono h hQ λ_ _ x=>x
section
variable {X:Cx}
inductive V6 (i:Nat) (σ:St) (H:Hp) (Q:VK):Prop where
 | mk:∀v,σ[i]?=some (some v)->Q v H->V6 i σ H Q
noncomputable def wD (i:Nat):TE:=λσ H Q=>V6 i σ H Q
noncomputable def tC (v:V):TE:=λ_ H Q=>Q v H
theorem WT {i:Nat} {x:Str} {pos:Pos} (hN:X.N[i]?=some x) (hv:Zn X.env.scope x) (hd:(x == ("__debug__" :Str))=false:=by decide) (hcd:(x == ("__classdict__" :Str))=false:=by decide):PE X (.Name x pos) (wD i):=by
 intro pins s σ H Q I h;obtain⟨v,e,h⟩:=h;obtain⟨m,hn,hl⟩:=I.loc;obtain⟨u,r,l⟩:=hl i x v hN e hv;have fin:EP X pins σ Q u s:=⟨v,H,I,r,h⟩;rcases l with ⟨hk,hm⟩ | ⟨hk,c,hc,hcell⟩
 ·exact wpAny_Name (wpAny_loadName_local I.ok.kind hk hn hm fin) hd
 ·rcases hk with hk | hk
  ·exact wpAny_Name (wpAny_loadName_cell I.ok.kind hk hc hcell fin) hd
  ·exact wpAny_Name (wpAny_loadName_free I.ok.kind hk hc hcell fin hcd) hd
theorem aq {i j pos}:PE X (.Constant (.int i) j pos) (tC (.int i)):=λ_ _ _ H _ I h=>wpAny_Constant_int ⟨.int i,H,I.tok _,⟨_,rfl⟩,h⟩
theorem fB {b j pos}:PE X (.Constant (.bool b) j pos) (tC (.bl b)):=λ_ _ _ H _ I h=>Constant_bool ⟨.bl b,H,I,rfl,h⟩
theorem nZ {j pos}:PE X (.Constant .none j pos) (tC .non):=λ_ _ _ H _ I h=>Constant_none ⟨.non,H,I,rfl,h⟩
theorem bA {x j pos}:PE X (.Constant (.str x) j pos) (tC (.str x)):=λ_ _ _ H _ I h=>Calls.Constant_str ⟨.str x,H,I.tok _,⟨_,rfl⟩,h⟩
noncomputable def Gl (X:Cx) (x:Str):Prop:=X.env.kindOf x=some .globalImplicit
theorem qX {E:Value->Shared->Prop} {pins:List (Addr×Obj)} {s:Shared} {σ:St} {H:Hp} {x:Str} {u:Value} {pos:Pos} {Q:Value->Shared->Prop} (I:Inv X pins σ H s) (hg:Gl X x) (hm:X.mg x=some u) (h:Q u s)
  (hd:(x == ("__debug__" :Str))=false:=by decide):wpAny (model X.prog X.w) X.A (eval (.Name x pos) X.env) Q E s:=
 Calls.Name_function_global I.ok.kind hg (Calls.loadGlobal_global (by rw [I.ok.glob];exact I.mod.glob.keeps I.bk) hm h) hd
theorem GF {E:Value->Shared->Prop} {pins:List (Addr×Obj)} {s:Shared} {σ:St} {H:Hp} {x:Str} {u:Value} {pos:Pos} {Q:Value->Shared->Prop} (I:Inv X pins σ H s) (hg:Gl X x) (hm:X.mg x=none) (hv:bootBuiltins x=some u) (h:Q u s)
  (hn:x≠ "__name__" :=by decide) (hd:(x == ("__debug__" :Str))=false:=by decide):wpAny (model X.prog X.w) X.A (eval (.Name x pos) X.env) Q E s:=by
 obtain⟨mb,h1,h2⟩:=I.mod.blt;exact Calls.Name_function_global I.ok.kind hg (Calls.loadGlobal_builtin (by rw [I.ok.glob];exact I.mod.glob.keeps I.bk) hm (by rw [I.ok.blt];exact h1.keeps I.bk) ((h2 x hn).trans hv) h) hd
theorem rn {x:Str} {v:V} {u:Value} {pos:Pos} (hg:Gl X x) (hm:X.mg x=some u) (r:RelV v u) (hd:(x == ("__debug__" :Str))=false:=by decide):PE X (.Name x pos) (tC v):=
 λ_ _ _ H _ I h=>qX I hg hm ⟨v,H,I,r,h⟩ hd
theorem Up {x:Str} {v:V} {u:Value} {pos:Pos} (hg:Gl X x) (hm:X.mg x=none) (hv:bootBuiltins x=some u) (r:RelV v u) (hn:x≠ "__name__" :=by decide) (hd:(x == ("__debug__" :Str))=false:=by decide):PE X (.Name x pos) (tC v):=
 λ_ _ _ H _ I h=>GF I hg hm hv ⟨v,H,I,r,h⟩ hn hd
variable {a b:Expr} {ta tb:TE} {pos:Pos}
noncomputable def PC (X:Cx) (op:CmpOp) (a b:Expr) (t:TE):Prop:=
 ∀(pins:List (Addr×Obj)) (s:Shared) (σ:St) (H:Hp) (Q:VK),Inv X pins σ H s->t σ H Q->
  wpAny (model X.prog X.w) X.A (eval a X.env) (λv s₁=>wpAny (model X.prog X.w) X.A (eval b X.env) (λu s₂=>wpAny (model X.prog X.w) X.A (compareOp op v u) (EP X pins σ Q) X.xe s₂) X.xe s₁) X.xe s
theorem JF (b:Expr) {op:CmpOp} (h:op≠.In) (h2:op≠.NotIn):behindInMarks op b=false:=by
 have e1:(op == CmpOp.In)=false:=by cases op <;> first | rfl | exact absurd rfl h
 have e2:(op == CmpOp.NotIn)=false:=by cases op <;> first | rfl | exact absurd rfl h2
 cases b <;> simp [behindInMarks,e1,e2]
noncomputable def aaA (ta:TE):TE:=λσ H Q=>ta σ H λx H1=>Q (.bl (decide (x=.non))) H1
noncomputable def Wy (ta:TE):TE:=λσ H Q=>ta σ H λx H1=>Q (.bl (!decide (x=.non))) H1
theorem RelV.none_iff {x:V} {v:Value} (r:RelV x v):(v == Value.none)=decide (x=.non):=by
 cases x with
 | non=>cases r;rfl
 | bl _=>cases r;rfl
 | int _=>obtain⟨t,rfl⟩:=r;rfl
 | str _=>obtain⟨t,rfl⟩:=r;rfl
 | byt _=>obtain⟨t,rfl⟩:=r;rfl
 | flt _=>obtain⟨t,rfl⟩:=r;rfl
 | ref _=>cases r;rfl
 | ty _=>cases r;rfl
theorem Hd {j pos'} (ha:PE X a ta):PC X .Is a (.Constant .none j pos') (aaA ta):=by intro pins s σ H Q I h;refine dC (ha pins s σ H _ I h) λv s1 hpt=>?_;obtain⟨x,H1,I1,r1,q1⟩:=hpt;exact Constant_none (is_none_gen ⟨.bl _,H1,I1,by rw [r1.none_iff];rfl,q1⟩)
theorem Iu {j pos'} (ha:PE X a ta):PC X .IsNot a (.Constant .none j pos') (Wy ta):=by intro pins s σ H Q I h;refine dC (ha pins s σ H _ I h) λv s1 hpt=>?_;obtain⟨x,H1,I1,r1,q1⟩:=hpt;exact Constant_none (isnot_none_gen ⟨.bl _,H1,I1,by rw [r1.none_iff];rfl,q1⟩)
inductive tBI (Q:Bool->Hp->Prop) (x:V) (H1:Hp):Prop where
 | mk:∀c,x=.bl c->Q c H1->tBI Q x H1
noncomputable def tB (t:TE):TT:=λσ H Q=>t σ H λx H1=>tBI Q x H1
theorem BJ {op:CmpOp} {t:TE} (h:PC X op a b t) (h1:behindInMarks op b=false:=by first | exact JF _ (by decide) (by decide) | rfl):PE X (.Compare a [op] [b] pos) t:=λpins s σ H Q I hw=>wpAny_Compare1 (h pins s σ H Q I hw) h1
theorem j8 {op:CmpOp} {t:TE} (h:PC X op a b t) (h1:behindInMarks op b=false:=by first | exact JF _ (by decide) (by decide) | rfl):PT X (.Compare a [op] [b] pos) (tB t):=by intro pins s σ H Q I hw;refine wpAny_isTrue_Compare1 (dC (h pins s σ H _ I hw) λv s1 h1=>dC h1 λu s2 h2=>dC h2 λc s3 hpt=>?_) h1;obtain⟨x,H1,I1,r1,q1⟩:=hpt;obtain⟨d,rfl,q⟩:=q1;cases r1;exact wpAny_truthy_bool ⟨H1,I1,q⟩
theorem fU {e:Expr} {t:TE} (h:PE X e t) (he:∀whole,isTrue e X.env whole=(do let v <-whole;standAt e.pos;holding [v] (truthy v)):=by intro _;rfl):PT X e (tB t):=by intro pins s σ H Q I hw;refine isTrue_plain (dC (h pins s σ H _ I hw) λv s1 ⟨x,H1,I1,r1,q1⟩=>?_) (he _);obtain⟨d,rfl,q⟩:=q1;cases r1;exact wpAny_truthy_bool ⟨H1,I1,q⟩
variable {tA tB':TT} {rest:List Expr}
noncomputable def Z0 (t u:TT):TT:=λσ H Q=>t σ H λc H1=>if c=true then u σ H1 Q else Q false H1
noncomputable def tOr (t u:TT):TT:=λσ H Q=>t σ H λc H1=>if c=true then Q true H1 else u σ H1 Q
noncomputable def aaJ (t:TT):TT:=λσ H Q=>t σ H λc H1=>Q (!c) H1
theorem qR (ha:PT X a tA):PW X (.BoolOp .And [a] pos) tA:=by
 intro wh pins s σ H Q I h;refine isTrue_and (dC (ha pins s σ H Q I h) λc s1 e=>?_);cases c with
 | true=>exact isTrue_and_nil e
 | false=>exact e
theorem lW (ha:PT X a tA):PW X (.BoolOp .Or [a] pos) tA:=by
 intro wh pins s σ H Q I h;refine isTrue_or (dC (ha pins s σ H Q I h) λc s1 e=>?_);cases c with
 | false=>exact isTrue_or_nil e
 | true=>exact e
theorem uc (ha:PT X a tA) (hb:PW X (.BoolOp .And (b:: rest) pos) tB'):PW X (.BoolOp .And (a:: b:: rest) pos) (Z0 tA tB'):=by
 intro wh pins s σ H Q I h;refine isTrue_and (dC (ha pins s σ H _ I h) λc s1 hpt=>?_);obtain⟨H1,I1,q1⟩:=hpt;cases c with
 | true=>exact hb wh pins s1 σ H1 Q I1 q1
 | false=>exact⟨H1,I1,q1⟩
theorem o8 (ha:PT X a tA) (hb:PW X (.BoolOp .Or (b:: rest) pos) tB'):PW X (.BoolOp .Or (a:: b:: rest) pos) (tOr tA tB'):=by
 intro wh pins s σ H Q I h;refine isTrue_or (dC (ha pins s σ H _ I h) λc s1 hpt=>?_);obtain⟨H1,I1,q1⟩:=hpt;cases c with
 | true=>exact⟨H1,I1,q1⟩
 | false=>exact hb wh pins s1 σ H1 Q I1 q1
theorem iM (ha:PT X a tA):PT X (.UnaryOp .Not a pos) (aaJ tA):=by intro pins s σ H Q I h;exact isTrue_not (ha pins s σ H (λc H1=>Q (!c) H1) I h)
inductive Rm (tb:TE) (σ:St) (Q:VK) (x:V) (H1:Hp):Prop where
 | mk:∀c,x=.bl c->(if c=true then tb σ H1 Q else Q (.bl false) H1)->Rm tb σ Q x H1
noncomputable def Zv (ta tb:TE):TE:=λσ H Q=>ta σ H λx H1=>Rm tb σ Q x H1
inductive Wi (tb:TE) (σ:St) (Q:VK) (x:V) (H1:Hp):Prop where
 | mk:∀c,x=.bl c->(if c=true then Q (.bl true) H1 else tb σ H1 Q)->Wi tb σ Q x H1
noncomputable def aao (ta tb:TE):TE:=λσ H Q=>ta σ H λx H1=>Wi tb σ Q x H1
inductive Qv (Q:VK) (x:V) (H1:Hp):Prop where
 | mk:∀c,x=.bl c->Q (.bl (!c)) H1->Qv Q x H1
noncomputable def ZP (ta:TE):TE:=λσ H Q=>ta σ H λx H1=>Qv Q x H1
theorem yR {op} {t:TE} (h:PE X a t):PE X (.BoolOp op [a] pos) t:=λpins s σ H Q I hw=>BoolOp_one (h pins s σ H Q I hw)
theorem yU (ha:PE X a ta) (hb:PE X (.BoolOp .And (b:: rest) pos) tb):PE X (.BoolOp .And (a:: b:: rest) pos) (Zv ta tb):=by
 intro pins s σ H Q I h;refine BoolOp_and (dC (ha pins s σ H _ I h) λv s1 hpt=>?_);obtain⟨x,H1,I1,r1,q1⟩:=hpt;obtain⟨c,rfl,q1⟩:=q1;cases r1;refine wpAny_truthy_bool ?_;cases c with
 | true=>exact hb pins s1 σ H1 Q I1 q1
 | false=>exact⟨.bl false,H1,I1,rfl,q1⟩
theorem YS (ha:PE X a ta) (hb:PE X (.BoolOp .Or (b:: rest) pos) tb):PE X (.BoolOp .Or (a:: b:: rest) pos) (aao ta tb):=by
 intro pins s σ H Q I h;refine BoolOp_or (dC (ha pins s σ H _ I h) λv s1 hpt=>?_);obtain⟨x,H1,I1,r1,q1⟩:=hpt;obtain⟨c,rfl,q1⟩:=q1;cases r1;refine wpAny_truthy_bool ?_;cases c with
 | false=>exact hb pins s1 σ H1 Q I1 q1
 | true=>exact⟨.bl true,H1,I1,rfl,q1⟩
theorem RQ (ha:PE X a ta):PE X (.UnaryOp .Not a pos) (ZP ta):=by intro pins s σ H Q I h;refine UnaryOp_ (dC (ha pins s σ H _ I h) λv s1 hpt=>?_);obtain⟨x,H1,I1,r1,q1⟩:=hpt;obtain⟨c,rfl,q1⟩:=q1;cases r1;exact not_of (wpAny_truthy_bool ⟨.bl (!c),H1,I1,Z,q1⟩)
noncomputable def tIf (t:TT) (ta tb:TE):TE:=λσ H Q=>t σ H λc H1=>if c=true then ta σ H1 Q else tb σ H1 Q
theorem Cy {c:Expr} (hc:PT X c tA) (ha:PE X a ta) (hb:PE X b tb):PE X (.IfExp c a b pos) (tIf tA ta tb):=by
 intro pins s σ H Q I h;refine wpAny_IfExp (dC (hc pins s σ H _ I h) λd s1 hpt=>?_);obtain⟨H1,I1,q1⟩:=hpt;cases d with
 | true=>exact ha pins s1 σ H1 Q I1 q1
 | false=>exact hb pins s1 σ H1 Q I1 q1
end
noncomputable def bT (K:Fr) (H:Hp) (a:Addr) (xs:List V):Prop:=
 Rd H a (.lst xs)∨
  ∃(o:Obj) (its:Array Value) (n:Nat),K.lookup a=some o/\o.cls=.type "list" /\o.dict=none/\o.data=.seq its n/\its.size<=sizeLine/\Vals xs its.toList
noncomputable def fZ (K:Fr) (H:Hp) (a:Addr) (xs:List V):Prop:=
 Rd H a (.tup xs)∨
  ∃(o:Obj) (its:Array Value) (n:Nat),K.lookup a=some o/\o.cls=.type "tuple" /\o.data=.seq its n/\its.size<=sizeLine/\Vals xs its.toList
noncomputable def aaR:Value->Option V
 | .none=>some .non
 | .bool b=>some (.bl b)
 | .int i _=>some (.int i)
 | .str x _=>some (.str x)
 | .bytes b _=>some (.byt b)
 | .float b _=>some (.flt b)
 | .ref a=>some (.ref a)
 | .type n=>some (.ty n)
 | _=>none
theorem RelV.abs {x:V} {u:Value} (r:RelV x u):aaR u=some x:=by
 cases x with
 | non=>cases r;rfl
 | bl _=>cases r;rfl
 | int _=>obtain⟨t,rfl⟩:=r;rfl
 | str _=>obtain⟨t,rfl⟩:=r;rfl
 | byt _=>obtain⟨t,rfl⟩:=r;rfl
 | flt _=>obtain⟨t,rfl⟩:=r;rfl
 | ref _=>cases r;rfl
 | ty _=>cases r;rfl
theorem RelV.inj {x y:V} {u:Value} (r:RelV x u) (q:RelV y u):x=y:=Option.some.inj (r.abs.symm.trans q.abs)
theorem Vals.inj:∀{xs ys:List V} {us:List Value},Vals xs us->Vals ys us->xs=ys
 | _,_,_,.nil,.nil=>rfl
 | _,_,_,.cons r t,.cons r' t'=>by rw [r.inj r',Vals.inj t t']
section
variable {X:Cx} {pins:List (Addr×Obj)} {σ:St} {H:Hp} {s:Shared} {a:Addr} {xs ys:List V}
theorem bT.of {K:Fr} (h:H a=some (.lst xs)):bT K H a xs:=.inl (.inl h)
theorem fZ.of {K:Fr} (h:H a=some (.tup xs)):fZ K H a xs:=.inl (.inl h)
theorem Inv.list (I:Inv X pins σ H s) (h:bT X.K H a xs):∃its:List Value,Vals xs its/\PlainL s.heap a its.toArray/\xs.length<=sizeLine:=by
 rcases h with h | ⟨o,its,n,hk,hc,hd,hs,hz,r⟩
 ·obtain⟨z,its,n,r,e⟩:=h.ok I.hok;exact⟨its,r,⟨_,n,e,Z,Z,Z⟩,z⟩
 ·refine⟨its.toList,r,⟨o,n,I.kIn a o hk,hc,hd,by simpa using hs⟩,?_⟩;have e:=r.length;simp only [Array.length_toList] at e
  lia
theorem Inv.tuple (I:Inv X pins σ H s) (h:fZ X.K H a xs):∃its:List Value,Vals xs its/\IsTup s.heap a its.toArray/\xs.length<=sizeLine:=by
 rcases h with h | ⟨o,its,n,hk,hc,hs,hz,r⟩
 ·obtain⟨z,its,r,p⟩:=h.ok I.hok;exact⟨its,r,p,z⟩
 ·refine⟨its.toList,r,⟨o,I.kIn a o hk,hc,n,by simpa using hs⟩,?_⟩;have e:=r.length;simp only [Array.length_toList] at e
  lia
theorem Inv.list_inj (I:Inv X pins σ H s) (h:bT X.K H a xs) (h':bT X.K H a ys):xs=ys:=by
 obtain⟨its,r,⟨o,n,e,_,_,d⟩,_⟩:=I.list h;obtain⟨its',r',⟨o',n',e',_,_,d'⟩,_⟩:=I.list h';rw [e] at e';cases e';rw [d] at d';injection d' with d1 _;have:its=its':=by simpa using congrArg Array.toList d1
 subst this;exact r.inj r'
theorem Inv.tuple_inj (I:Inv X pins σ H s) (h:fZ X.K H a xs) (h':fZ X.K H a ys):xs=ys:=by
 obtain⟨its,r,⟨o,e,_,n,d⟩,_⟩:=I.tuple h;obtain⟨its',r',⟨o',e',_,n',d'⟩,_⟩:=I.tuple h';rw [e] at e';cases e';rw [d] at d';injection d' with d1 _;have:its=its':=by simpa using congrArg Array.toList d1
 subst this;exact r.inj r'
end
noncomputable abbrev Cx.wish (X:Cx) (E:Value->Shared->Prop):Cx:={ X with xe:=E }
noncomputable abbrev Cx.nox (X:Cx):Cx:=X.wish λ_ _=>False
theorem Cx.Ok.wish {X:Cx} (ok:X.Ok) (E:Value->Shared->Prop):(X.wish E).Ok:=
 ⟨ok.mod,ok.kind,ok.glob,ok.blt,ok.above,ok.inj,ok.has,ok.cab,ok.hd,ok.frames,ok.stk,ok.exf,ok.bs,ok.bsz,ok.noex,ok.exfs,ok.funs,ok.frf⟩
theorem Cx.Ok.unwish {X:Cx} {E:Value->Shared->Prop} (ok:(X.wish E).Ok):X.Ok:=
 ⟨ok.mod,ok.kind,ok.glob,ok.blt,ok.above,ok.inj,ok.has,ok.cab,ok.hd,ok.frames,ok.stk,ok.exf,ok.bs,ok.bsz,ok.noex,ok.exfs,ok.funs,ok.frf⟩
section
variable {X:Cx} {pins:List (Addr×Obj)} {σ:St} {H:Hp} {s:Shared} {E:Value->Shared->Prop}
theorem Inv.wish (I:Inv X pins σ H s) (E:Value->Shared->Prop):Inv (X.wish E) pins σ H s:=⟨I.ok.wish E,I.os,I.bare,I.base,I.loc,I.cell,I.free,I.freeC,I.pin,I.hok,I.len⟩
theorem Inv.unwish (I:Inv (X.wish E) pins σ H s):Inv X pins σ H s:=⟨I.ok.unwish,I.os,I.bare,I.base,I.loc,I.cell,I.free,I.freeC,I.pin,I.hok,I.len⟩
theorem SP.unwish {D:Ends} {f:Flow} {s':Shared} (h:SP (X.wish E) pins D f s'):SP X pins D f s':=by
 cases f with
 | next=>obtain⟨σ',H',I,q⟩:=h;exact⟨σ',H',I.unwish,q⟩
 | brk=>obtain⟨σ',H',I,q⟩:=h;exact⟨σ',H',I.unwish,q⟩
 | cont=>obtain⟨σ',H',I,q⟩:=h;exact⟨σ',H',I.unwish,q⟩
 | ret u=>obtain⟨v,σ',H',I,r,q⟩:=h;exact⟨v,σ',H',I.unwish,r,q⟩
theorem Ku.nox {st:List Stmt} {t:TS} (h:Ku X.nox st t):Ku X st t:=λpins s σ H D I hw=>
 wpAny_mono (h pins s σ H D (I.wish _) hw) (λ_ _ q=>q.unwish) λ_ _ z=>False.elim z
end
section
variable {X:Cx} {st:Stmt} {rest:List Stmt} {t u:TS} {e:Expr} {te:TE} {pos:Pos}
noncomputable def ZZ:TS:=λD σ H=>D.nx σ H
noncomputable def sW (t u:TS):TS:=λD σ H=>t { D with nx:=u D } σ H
theorem bw:Ku X [] ZZ:=λ_ _ σ H _ I h=>wpAny_execs_nil ⟨σ,H,I,h⟩
theorem au (h1:PS X st t) (h2:Ku X rest u):Ku X (st:: rest) (sW t u):=by
 intro pins s σ H D I h;refine wpAny_execs_cons (dC (h1 pins s σ H { D with nx:=u D } I h) λf s1 q=>?_);cases f with
 | next=>
  obtain⟨σ',H',I',q⟩:=q;exact h2 pins s1 σ' H' D I' q
 | ret v=>exact q
 | brk=>exact q
 | cont=>exact q
theorem aA (h1:PS X st t):Ku X [st] t:=by
 intro pins s σ H D I h;refine wpAny_execs_cons (dC (h1 pins s σ H D I h) λf s1 q=>?_);cases f with
 | next=>exact wpAny_execs_nil q
 | ret v=>exact q
 | brk=>exact q
 | cont=>exact q
theorem Inv.quiet {pins:List (Addr×Obj)} {σ:St} {H:Hp} {s:Shared} (I:Inv X pins σ H s):interactive X.env=false:=by simp [interactive,I.ok.kind]
noncomputable def VH (te:TE):TS:=λD σ H=>te σ H λ_ H1=>D.nx σ H1
theorem bK (he:PE X e te) (hs:swapsWith e none pos.line X.env=pure false:=by rfl):PS X (.Expr e pos) (VH te):=by intro pins s σ H D I h;exact wpAny_Expr_any (dC (he pins s σ H _ I h) λv s1 ⟨x,H1,I1,r1,q1⟩=>⟨σ,H1,I1,q1⟩) I.quiet hs
noncomputable def Zz (te:TE):TS:=λD σ H=>te σ H D.rt
theorem aQ (he:PE X e te):PS X (.Return (some e) pos) (Zz te):=by intro pins s σ H D I h;exact wpAny_Return_some (dC (he pins s σ H _ I h) λv s1 ⟨x,H1,I1,r1,q1⟩=>⟨x,σ,H1,I1,r1,q1⟩)
noncomputable def aaH (c:TT) (t u:TS):TS:=λD σ H=>c σ H λb H1=>if b=true then t D σ H1 else u D σ H1
theorem bQ {c:Expr} {a b:List Stmt} {tc:TT} (hc:PT X c tc) (ha:Ku X a t) (hb:Ku X b u):PS X (.If c a b pos) (aaH tc t u):=by
 intro pins s σ H D I h;refine wpAny_If (dC (hc pins s σ H _ I h) λd s1 hpt=>?_);obtain⟨H1,I1,q1⟩:=hpt;cases d with
 | true=>exact ha pins s1 σ H1 D I1 q1
 | false=>exact hb pins s1 σ H1 D I1 q1
noncomputable def W4:TS:=λ_ _ _=>False
theorem eY:PS X st W4:=λ_ _ _ _ _ _ h=>h.elim
end
noncomputable abbrev TG:=V->St->Hp->(St->Hp->Prop)->Prop
noncomputable abbrev Ue:=List V->St->Hp->(St->Hp->Prop)->Prop
noncomputable def PG (X:Cx) (target:Expr) (t:TG):Prop:=
 ∀(pins:List (Addr×Obj)) (s:Shared) (σ:St) (H:Hp) (v:V) (u:Value) (Q:St->Hp->Prop),Inv X pins σ H s->RelV v u->t v σ H Q->
  wpAny (model X.prog X.w) X.A (assign target X.env u) (λ_ s'=>∃σ' H',Inv X pins σ' H' s'/\Q σ' H') X.xe s
noncomputable def Z7 (X:Cx) (ts:List Expr) (t:Ue):Prop:=
 ∀(pins:List (Addr×Obj)) (s:Shared) (σ:St) (H:Hp) (vs:List V) (us:List Value) (Q:St->Hp->Prop),Inv X pins σ H s->Vals vs us->t vs σ H Q->
  wpAny (model X.prog X.w) X.A (assignInOrder ((assignEach ts X.env).map (·.2)) us) (λ_ s'=>∃σ' H',Inv X pins σ' H' s'/\Q σ' H') X.xe s
noncomputable abbrev WQ:=V->V->V->Hp->(Hp->Prop)->Prop
noncomputable def Zi (X:Cx) (t:WQ):Prop:=
 ∀(pins:List (Addr×Obj)) (s:Shared) (σ:St) (H:Hp) (o i v:V) (ov iv u:Value) (Q:Hp->Prop),Inv X pins σ H s->RelV o ov->RelV i iv->RelV v u->t o i v H Q->
  wpAny (model X.prog X.w) X.A (setItem ov iv u) (λ_ s'=>∃H',Inv X pins σ H' s'/\Q H') X.xe s
noncomputable abbrev Y7:=V->V->Hp->VK->Prop
noncomputable def PIp (X:Cx) (op:Operator) (t:Y7):Prop:=
 ∀(pins:List (Addr×Obj)) (s:Shared) (σ:St) (H:Hp) (x y:V) (v u:Value) (Q:VK),Inv X pins σ H s->RelV x v->RelV y u->t x y H Q->
  wpAny (model X.prog X.w) X.A (inplaceOp op v u) (EP X pins σ Q) X.xe s
section
variable {X:Cx} {pos:Pos}
noncomputable def vM (i:Nat):TG:=λv σ H Q=>Q (σ.set i (some v)) H
theorem Av {i:Nat} {x:Str} (hN:X.N.Nodup) (hi:X.N[i]?=some x) (hx:Loc X.env.scope x) (hf:X.fn x=true∨X.env.scope.names.lookup x=some .local:=by first | exact .inl rfl | exact .inr rfl | assumption):PG X (.Name x pos) (vM i):=by intro pins s σ H v u Q I r h;exact wpAny_assign_Name (xK I hN hi hx r (λs' I'=>⟨_,H,I',h⟩) hf)
noncomputable def aaw:Ue:=λvs σ H Q=>vs=[]/\Q σ H
inductive Tn (t:TG) (u:Ue) (vs:List V) (σ:St) (H:Hp) (Q:St->Hp->Prop):Prop where
 | mk:∀v r,vs=v:: r->(t v σ H λσ' H'=>u r σ' H' Q)->Tn t u vs σ H Q
noncomputable def ZS (t:TG) (u:Ue):Ue:=λvs σ H Q=>Tn t u vs σ H Q
theorem Ho:Z7 X [] aaw:=by intro pins s σ H vs us Q I r h;obtain⟨e,h⟩:=h;subst e;cases r;exact assignInOrder_nil ⟨σ,H,I,h⟩
theorem qe {e:Expr} {es:List Expr} {t:TG} {u:Ue} (h1:PG X e t) (h2:Z7 X es u)
  (hs:(assignEach (e:: es) X.env).map (·.2)=assign e X.env:: (assignEach es X.env).map (·.2):=by rfl):Z7 X (e:: es) (ZS t u):=by
 intro pins s σ H vs us Q I r h;obtain⟨v,vr,e1,h⟩:=h;subst e1;cases r with
 | cons r rr=>
  rw [hs];refine assignInOrder_cons (dC (h1 pins s σ H _ _ _ I r h) λ_ s1 hpt=>?_);obtain⟨σ1,H1,I1,q1⟩:=hpt;exact h2 pins s1 σ1 H1 _ _ Q I1 rr q1
inductive V8 (K:Fr) (n:Nat) (t:Ue) (v:V) (σ:St) (H:Hp) (Q:St->Hp->Prop):Prop where
 | mk:∀a xs,v=.ref a->fZ K H a xs->xs.length=n->t xs σ H Q->V8 K n t v σ H Q
noncomputable def Za (K:Fr) (n:Nat) (t:Ue):TG:=λv σ H Q=>V8 K n t v σ H Q
theorem LK {es:List Expr} {k:Nat} {t:Ue} {n:Nat} (hc:X.calm=true) (h:Z7 X es t)
  (hn:(assignEach es X.env).length=n:=by rfl) (hst:(assignEach es X.env).findIdx? (·.1)=none:=by rfl):PG X (.Tuple es k pos) (Za X.K n t):=by
 intro pins s σ H v u Q I r hw;obtain⟨a,xs,e1,hq,hl,hw⟩:=hw;subst e1;cases r;obtain⟨its,rv,ht,hz⟩:=I.tuple hq;refine assign_Tuple_tuple (I.ok.hd hc) ht (by simp [hn,<-hl,rv.length]) hst λh' hx=>?_;have I1:Inv X pins σ H { s with heap:=h' }:=I.kept (t':=s.toks) λb o e=>hx b o (ne_of_lt (Heap.lt_size e)) e;exact h pins _ σ H xs _ Q I1 (by simpa using rv) hw
noncomputable def aaF (to ti:TE) (t:WQ):TG:=λv σ H Q=>to σ H λo H1=>ti σ H1 λi H2=>t o i v H2 λH3=>Q σ H3
theorem Xb {o i:Expr} {to ti:TE} {t:WQ} (ho:PE X o to) (hi:PE X i ti) (hs:Zi X t)
  (ha:∀v,assign (.Subscript o i pos) X.env v=(do
   let ov <-holding [v] (eval o X.env)
   let iv <-holding [v,ov] (eval i X.env)
   standAt pos
   holding [v,ov,iv] (setItem ov iv v)
   release [v,ov,iv] []):=by intro _;rfl):PG X (.Subscript o i pos) (aaF to ti t):=by
 intro pins s σ H v u Q I r h;rw [ha];refine wpAny_bind (wpAny_holding (dC (ho pins s σ H _ I h) λov s1 hpt=>?_));obtain⟨x,H1,I1,r1,q1⟩:=hpt;refine wpAny_bind (wpAny_holding (dC (hi pins s1 σ H1 _ I1 q1) λiv s2 hpt=>?_));obtain⟨y,H2,I2,r2,q2⟩:=hpt;refine wpAny_bind (wpAny_standAt (wpAny_bind (wpAny_holding (dC (hs pins s2 σ H2 x y v ov iv u _ I2 r1 r2 r q2) λ_ s3 hpt=>?_))));obtain⟨H3,I3,q3⟩:=hpt;exact wpAny_release ⟨σ,H3,I3,q3⟩
noncomputable def PJ (te:TE) (g:TG):TS:=λD σ H=>te σ H λx H1=>g x σ H1 D.nx
theorem RC {tg e:Expr} {te:TE} {g:TG} (he:PE X e te) (hg:PG X tg g) (hs:swapsWithSole [tg] e pos.line X.env=pure false:=by rfl) (hw:swappedStores [tg] e X.env=pure none:=by rfl)
  (h1:(assignEach [tg] X.env).map (·.2)=[assign tg X.env]:=by rfl):PS X (.Assign [tg] e pos) (PJ te g):=by
 intro pins s σ H D I h;refine wpAny_Assign_stores (dC (he pins s σ H _ I h) λv s1 hpt=>?_) hs hw;obtain⟨x,H1,I1,r1,q1⟩:=hpt;rw [h1];exact dC (hg pins s1 σ H1 x v _ I1 r1 q1) λ_ s2 q=>q
theorem XM {i:Nat} {x:Str} {e:Expr} {te:TE} {pos':Pos} (hN:X.N.Nodup) (hi:X.N[i]?=some x) (hx:Loc X.env.scope x) (he:PE X e te) (hs:swapsWith e (some (.Name x pos')) pos.line X.env=pure false:=by rfl) (hf:X.fn x=true∨X.env.scope.names.lookup x=some .local:=by first | exact .inl rfl | exact .inr rfl | assumption):
  PS X (.Assign [.Name x pos'] e pos) (PJ te (vM i)):=by
 intro pins s σ H D I h;refine wpAny_Assign_Name (dC (he pins s σ H _ I h) λv s1 hpt=>?_) hs;obtain⟨y,H1,I1,r1,q1⟩:=hpt;exact xK I1 hN hi hx r1 (λs2 I2=>⟨_,H1,I2,q1⟩) hf
inductive We (i:Nat) (te:TE) (ti:Y7) (D:Ends) (σ:St) (H:Hp):Prop where
 | mk:∀x,σ[i]?=some (some x)->(te σ H λy H1=>ti x y H1 λz H2=>D.nx (σ.set i (some z)) H2)->We i te ti D σ H
noncomputable def YB (i:Nat) (te:TE) (ti:Y7):TS:=λD σ H=>We i te ti D σ H
theorem Yg {i:Nat} {x:Str} {e:Expr} {te:TE} {op:Operator} {ti:Y7} {pos':Pos} (hN:X.N.Nodup) (hi:X.N[i]?=some x) (hx:Loc X.env.scope x) (he:PE X e te) (ho:PIp X op ti) (hf:X.fn x=true∨X.env.scope.names.lookup x=some .local:=by first | exact .inl rfl | exact .inr rfl | assumption):
  PS X (.AugAssign (.Name x pos') op e pos) (YB i te ti):=by
 intro pins s σ H D I h;obtain⟨v,e1,h⟩:=h;obtain⟨m,hn,hl⟩:=I.loc;have vis:Zn X.env.scope x:=by rcases hx with k | k;exact .inl k;exact .inr (.inl k)
 obtain⟨u,r,l⟩:=hl i x v hi e1 vis;refine wpAny_AugAssign_Name ?_;have go:wpAny (model X.prog X.w) X.A (eval e X.env) (λw s₂=>wpAny (model X.prog X.w) X.A (inplaceOp op u w) (λr s₃=>wpAny (model X.prog X.w) X.A (storeName X.env x r) (λ_=>SP X pins D .next) X.xe s₃) X.xe s₂) X.xe s:=by refine dC (he pins s σ H _ I h) λw s1 hpt=>?_;obtain⟨y,H1,I1,r1,q1⟩:=hpt;refine dC (ho pins s1 σ H1 v y u w _ I1 r r1 q1) λz s2 hpt=>?_;obtain⟨zv,H2,I2,r2,q2⟩:=hpt;exact xK I2 hN hi hx r2 (λs3 I3=>⟨_,H2,I3,q2⟩) hf
 rcases l with ⟨hk,hm⟩ | ⟨hk,c,hc,hcell⟩
 ·exact wpAny_loadName_local I.ok.kind hk hn hm go
 ·rcases hk with hk | hk
  ·exact wpAny_loadName_cell I.ok.kind hk hc hcell go
  ·rcases hx with k | k
   ·have:X.env.scope.names.lookup x=some .free:=hk;rw [k] at this;cases this
   ·have:X.env.scope.names.lookup x=some .free:=hk;rw [k] at this;cases this
noncomputable def ipI (f:Int->Int->Int):Y7:=λx y H Q=>∃i j,x=.int i/\y=.int j/\Q (.int (f i j)) H
theorem Xu:PIp X .Add (ipI λi j=>i+j):=by intro pins s σ H x y v u Q I r1 r2 h;obtain⟨i,j,e1,e2,q⟩:=h;subst e1;subst e2;obtain⟨t,rfl⟩:=r1;obtain⟨t',rfl⟩:=r2;exact iadd_int ⟨.int _,H,I.tok _,⟨_,Z⟩,q⟩
end
section
variable {X:Cx} {pos:Pos}
inductive Nr (c:TT) (tb:TS) (D:Ends) (σ:St) (H:Hp):Prop where
 | mk:∀W:Nat->St->Hp->Prop,((∃m,W m σ H))->(∀m σ H,W m σ H->
 c σ H λb H1=>if b=true then ∃N:St->Hp->Prop,(∀σ' H',N σ' H'->∃m',m' <m/\W m' σ' H')/\tb { D with nx:=N,ct:=N,bk:=D.nx } σ H1 else D.nx σ H1)->Nr c tb D σ H
noncomputable def KJ (c:TT) (tb:TS):TS:=λD σ H=>Nr c tb D σ H
theorem xR {c:Expr} {body:List Stmt} {tc:TT} {tb:TS} (hp:PassesOwn (model X.prog X.w) X.A X.env X.xe) (hc:PT X c tc) (hb:Ku X body tb):PS X (.While c body [] pos) (KJ tc tb):=by
 intro pins s σ H D I h;obtain⟨W,⟨m0,w0⟩,turn⟩:=h;refine wpAny_While (codeAny_whileLoop (λn s'=>∃σ' H',Inv X pins σ' H' s'/\W n σ' H') ?_ m0 ⟨σ,H,I,w0⟩);rintro n s1 ⟨σ1,H1,I1,w1⟩;refine wpAny_passesOwn hp (dC (hc pins s1 σ1 H1 _ I1 (turn n σ1 H1 w1)) λb s2 hpt=>?_);obtain⟨H2,I2,q2⟩:=hpt;cases b with
 | true=>
  obtain⟨N,hN,q2⟩:=q2;rw [if_pos rfl];refine wpAny_passesOwn hp (dC (hb pins s2 σ1 H2 _ I2 q2) λf s3 q3=>?_);cases f with
  | next=>
   obtain⟨σ3,H3,I3,n3⟩:=q3;obtain⟨m',hm,w3⟩:=hN σ3 H3 n3;exact⟨m',hm,σ3,H3,I3,w3⟩
  | cont=>
   obtain⟨σ3,H3,I3,n3⟩:=q3;obtain⟨m',hm,w3⟩:=hN σ3 H3 n3;exact⟨m',hm,σ3,H3,I3,w3⟩
  | brk=>exact q3
  | ret v=>exact q3
 | false=>
  rw [if_neg Bool.false_ne_true];exact wpAny_execs_nil ⟨σ1,H2,I2,q2⟩
end
structure It where
 go:Nat->Hp->Prop
 yld:Nat->Hp->V->Hp->Prop
 stop:Nat->Hp->Prop
noncomputable def GK (X:Cx) (pins:List (Addr×Obj)) (H:Hp) (b:Addr):Prop:=
 H b=none/\b≠X.env.locals/\b∉X.fs/\(b∈X.ex∨X.s₀.heap.objs.size<=b)/\(∀x c,X.env.cells.lookup x=some c->c≠b)/\∀p∈X.pn ++ pins,p.1≠b
theorem Inv.fpOk {X:Cx} {pins:List (Addr×Obj)} {σ:St} {H H':Hp} {s:Shared} {b:Addr} (I:Inv X pins σ H s) (hb:s.heap.objs.size<=b) (hn:H' b=none):GK X pins H' b:=by
 refine⟨hn,ne_of_gt (lt_of_lt_of_le I.lt hb),I.nofs hb,.inr (le_trans I.sz hb),λx c e z=>?_,λp hp z=>?_⟩
 ·obtain⟨v,q⟩:=I.cell x c e;exact absurd (lt_of_lt_of_le q.lt (by rw [z];exact hb)) (lt_irrefl _)
 ·exact absurd (lt_of_lt_of_le (Heap.lt_size (I.pin p hp).1) (by rw [z];exact hb)) (lt_irrefl _)
structure Turn (P:Program) (w:World) (K:Fr) (tg:Expr) (J:It) (fp:List Addr) (it:Addr) (tn:Nat->Heap->Prop):Prop where
 mem:it∈fp
 obj:∀i h,tn i h->∀b∈fp,∃o,h.get? b=some o/\∀v,o.data≠.cell v
 keep:∀i h h',tn i h->(∀b∈fp,∀o,h.get? b=some o->h'.get? b=some o)->tn i h'
 item:∀(X:Cx),X.prog=P->X.w=w->X.K=K->X.calm=true->∀(i:Nat) (pins:List (Addr×Obj)) (s:Shared) (σ:St) (H:Hp) (E:Value->Shared->Prop),Inv X pins σ H s->(∀b∈fp,GK X pins H b)->tn i s.heap->J.go i H->
  wpAny (model P w) X.A (pyNext (.ref it)) (λr s1=>∃u,r=some u/\
   wpAny (model P w) X.A (letOwnedTupleGo tg (.ref it) u) (λ_ s2=>∃x H',Inv X pins σ H' s2/\RelV x u/\J.yld i H x H'/\tn (i+1) s2.heap/\∀b∈fp,H' b=none) E s1) E s
 done:∀(X:Cx),X.prog=P->X.w=w->X.K=K->X.calm=true->∀(i:Nat) (pins:List (Addr×Obj)) (s:Shared) (σ:St) (H:Hp) (E:Value->Shared->Prop),Inv X pins σ H s->(∀b∈fp,GK X pins H b)->tn i s.heap->J.stop i H->
  wpAny (model P w) X.A (pyNext (.ref it)) (λr s1=>r=none/\Inv X pins σ H s1) E s
 self:∀(A:Around) (i:Nat) (s:Shared) (Q:Value->Shared->Prop) (E:Value->Shared->Prop),tn i s.heap->Q (.ref it) s->wpAny (model P w) A (pyIter (.ref it)) Q E s
noncomputable abbrev TI:=St->Hp->(It->Hp->Prop)->Prop
noncomputable def PIE (X:Cx) (pins:List (Addr×Obj)) (σ:St) (tg:Expr) (R:It->Hp->Prop) (itv:Value) (s2:Shared):Prop:=
 ∃(it:Addr) (fp:List Addr) (tn:Nat->Heap->Prop) (J:It) (H':Hp),itv=.ref it/\Inv X pins σ H' s2/\Turn X.prog X.w X.K tg J fp it tn/\tn 0 s2.heap/\(∀b∈fp,GK X pins H' b)/\R J H'
noncomputable def PI (X:Cx) (tg iter:Expr) (wi:TI):Prop:=
 ∀(pins:List (Addr×Obj)) (s:Shared) (σ:St) (H:Hp) (R:It->Hp->Prop),Inv X pins σ H s->wi σ H R->
  wpAny (model X.prog X.w) X.A (eval iter X.env) (λv s1=>wpAny (model X.prog X.w) X.A (pyIter v) (PIE X pins σ tg R) X.xe s1) X.xe s
theorem Fw {M:Model} {A:Around} {E:Value->Shared->Prop} {s:Shared} {tg:Expr} {it:Addr} {u:Value} {o:Obj} {n:String} {vs:Array Value} {Q:Unit->Shared->Prop} (ho:s.heap.get? it=some o) (hc:o.cls=.type n) (hd:o.data=.fields vs)
  (hn:["enumerate", "zip", "dict_itemiterator", "dict_reverseitemiterator", "odict_iterator", "itertools.zip_longest", "itertools.pairwise"].contains n=false) (hQ:Q () s):wpAny M A (letOwnedTupleGo tg (.ref it) u) Q E s:=by
 unfold letOwnedTupleGo;cases tg <;> first
  | exact wpAny_pure hQ
  | (cases u <;> first
    | exact wpAny_pure hQ
    | (refine wpAny_bind (wpAny_load ho ?_)
       rw [hc,hd];show wpAny M A (if (["enumerate", "zip", "dict_itemiterator", "dict_reverseitemiterator", "odict_iterator", "itertools.zip_longest", "itertools.pairwise"].contains n && vs[0]? == some (rawInt _))=true then _ else _) Q E s;rw [if_neg (by intro h;rw [hn,Bool.false_and] at h;cases h)];exact wpAny_pure hQ))
noncomputable def Vu (K:Fr) (a:Addr):It:=
 ⟨λi H=>∃xs x,bT K H a xs/\xs[i]?=some x,λi H x H'=>H'=H/\∀xs,bT K H a xs->xs[i]?=some x,λi H=>∃xs,bT K H a xs/\xs.length<=i⟩
noncomputable def Yt (K:Fr) (a:Addr):It:=
 ⟨λi H=>∃xs x,fZ K H a xs/\xs[i]?=some x,λi H x H'=>H'=H/\∀xs,fZ K H a xs->xs[i]?=some x,λi H=>∃xs,fZ K H a xs/\xs.length<=i⟩
noncomputable def Xa (lo:Int) (n:Nat):It:=⟨λi _=>i <n,λi H x H'=>H'=H/\x=.int (lo+i),λi _=>n<=i⟩
theorem O6 {P:Program} {w:World} {K:Fr} {tg:Expr} (a it:Addr):Turn P w K tg (Vu K a) [it] it (λi h=>h.IsListIter it a i) where
 mem:=by simp
 obj:=λi h st b hb=>by
  have e:b=it:=by simpa using hb
  subst e;obtain⟨o,e,c,d⟩:=st;exact⟨o,e,λv z=>by rw [d] at z;cases z⟩
 keep:=λi h h' st k=>st.at λo e=>k it (by simp) o e
 item:=by intro X hP hw hK hc i pins s σ H E I hf st hg;subst hP hw hK;obtain⟨xs,x,hq,hx⟩:=hg;obtain⟨its,rv,p,hz⟩:=I.list hq;obtain⟨u,hu,ru⟩:=rv.get hx;obtain⟨f0,f1,f2,f3,f4,f5⟩:=hf it (by simp);refine wpAny_pyNext_list_item st p.isList (x:=u) (by simpa using hu) λh' st' sb=>?_;have I1:Inv X pins σ H { s with heap:=h' }:=I.turned (t':=s.toks) (λb o hb e=>(sb.2 b hb).trans e) f0 f1 f3 f4 f5;obtain⟨o,e,c,d⟩:=id st';exact⟨u,rfl,Fw (s:={ s with heap:=h' }) e c d (by decide) ⟨x,H,I1,ru,⟨rfl,λys hy=>by rw [I.list_inj hy hq];exact hx⟩,st',λb hb=>(hf b hb).1⟩⟩
 done:=by intro X hP hw hK hc i pins s σ H E I hf st hg;subst hP hw hK;obtain⟨xs,hq,hx⟩:=hg;obtain⟨its,rv,p,hz⟩:=I.list hq;obtain⟨f0,f1,f2,f3,f4,f5⟩:=hf it (by simp);have hl:=rv.length;exact wpAny_pyNext_list_end (I.ok.hd hc) st p.isList (by simp;lia) λh' eb=>⟨Z,I.turned (t':=s.toks) (λb o hb e=>eb b o hb e) f0 f1 f3 f4 f5⟩
 self:=λ_ _ _ _ _ st h=>wpAny_pyIter_listiter st h
theorem Lh {P:Program} {w:World} {K:Fr} {tg:Expr} (a it:Addr):Turn P w K tg (Yt K a) [it] it (λi h=>h.IsTupleIter it a i) where
 mem:=by simp
 obj:=λi h st b hb=>by
  have e:b=it:=by simpa using hb
  subst e;obtain⟨o,e,c,d⟩:=st;exact⟨o,e,λv z=>by rw [d] at z;cases z⟩
 keep:=λi h h' st k=>st.at λo e=>k it (by simp) o e
 item:=by intro X hP hw hK hc i pins s σ H E I hf st hg;subst hP hw hK;obtain⟨xs,x,hq,hx⟩:=hg;obtain⟨its,rv,p,hz⟩:=I.tuple hq;obtain⟨u,hu,ru⟩:=rv.get hx;obtain⟨f0,f1,f2,f3,f4,f5⟩:=hf it (by simp);refine wpAny_pyNext_tuple_item st (show s.heap.IsTuple a its.toArray from p) (x:=u) (by simpa using hu) λh' st' sb=>?_;have I1:Inv X pins σ H { s with heap:=h' }:=I.turned (t':=s.toks) (λb o hb e=>(sb.2 b hb).trans e) f0 f1 f3 f4 f5;obtain⟨o,e,c,d⟩:=id st';exact⟨u,rfl,Fw (s:={ s with heap:=h' }) e c d (by decide) ⟨x,H,I1,ru,⟨rfl,λys hy=>by rw [I.tuple_inj hy hq];exact hx⟩,st',λb hb=>(hf b hb).1⟩⟩
 done:=by intro X hP hw hK hc i pins s σ H E I hf st hg;subst hP hw hK;obtain⟨xs,hq,hx⟩:=hg;obtain⟨its,rv,p,hz⟩:=I.tuple hq;obtain⟨f0,f1,f2,f3,f4,f5⟩:=hf it (by simp);have hl:=rv.length;exact wpAny_pyNext_tuple_end (I.ok.hd hc) st (show s.heap.IsTuple a its.toArray from p) (by simp;lia) λh' eb=>⟨Z,I.turned (t':=s.toks) (λb o hb e=>eb b o hb e) f0 f1 f3 f4 f5⟩
 self:=λ_ _ _ _ _ st h=>wpAny_pyIter_tupleiter st h
theorem Mt {P:Program} {w:World} {K:Fr} {tg:Expr} (it:Addr) (lo:Int) (n:Nat):Turn P w K tg (Xa lo n) [it] it (λi h=>IsRangeIter h it (lo+(i:Nat) * 1) ((n:Int) - (i:Nat)) 1) where
 mem:=by simp
 obj:=λi h st b hb=>by
  have e:b=it:=by simpa using hb
  subst e;exact⟨_,st,λv z=>by have z':Data.fields _=Data.cell v:=z;cases z'⟩
 keep:=λi h h' st k=>k it (by simp) _ st
 item:=by intro X hP hw hK hc i pins s σ H E I hf st hg;subst hP hw hK;obtain⟨f0,f1,f2,f3,f4,f5⟩:=hf it (by simp);have W:=Walks.range (prog:=X.prog) (w:=X.w) (I.ok.hd hc) it lo 1 n;refine W.item i s _ _ hg st λv h' tk hv st' kk=>?_;obtain⟨t,rfl⟩:=hv;have I1:Inv X pins σ H { s with heap:=h',toks:=tk }:=I.turned (λb o hb e=>kk b o (by simpa using hb) e) f0 f1 f3 f4 f5;refine⟨_,rfl,Fw (s:={ s with heap:=h',toks:=tk }) (n:= "range_iterator") st' rfl rfl (by decide) ⟨.int (lo+i),H,I1,⟨t,?_⟩,⟨rfl,rfl⟩,st',λb hb=>(hf b hb).1⟩⟩;rw [Int.mul_one]
 done:=by intro X hP hw hK hc i pins s σ H E I hf st hg;subst hP hw hK;obtain⟨f0,f1,f2,f3,f4,f5⟩:=hf it (by simp);exact wpAny_pyNext_range_end (I.ok.hd hc) st (by have:n<=i:=hg;lia) λh' eb=>⟨Z,I.turned (t':=s.toks) (λb o hb e=>eb b o hb e) f0 f1 f3 f4 f5⟩
 self:=λ_ _ _ _ _ st h=>wpAny_pyIter_rangeiter st h
section
variable {X:Cx} {tg:Expr}
inductive RJ (K:Fr) (R:It->Hp->Prop) (x:V) (H1:Hp):Prop where
 | mk:∀a,x=.ref a->((∃xs,bT K H1 a xs))->R (Vu K a) H1->RJ K R x H1
noncomputable def VM (K:Fr) (tl:TE):TI:=λσ H R=>tl σ H λx H1=>RJ K R x H1
inductive Ws (K:Fr) (R:It->Hp->Prop) (x:V) (H1:Hp):Prop where
 | mk:∀a,x=.ref a->((∃xs,fZ K H1 a xs))->R (Yt K a) H1->Ws K R x H1
noncomputable def ZV (K:Fr) (tl:TE):TI:=λσ H R=>tl σ H λx H1=>Ws K R x H1
theorem cX {l:Expr} {tl:TE} (hl:PE X l tl):PI X tg l (VM X.K tl):=by
 intro pins s σ H R I h;refine dC (hl pins s σ H _ I h) λv s1 hpt=>?_;obtain⟨x,H1,I1,r1,q1⟩:=hpt;obtain⟨a,e,⟨xs,hq⟩,q⟩:=q1;subst e;cases r1;obtain⟨its,rv,p,hz⟩:=I1.list hq;refine wpAny_pyIter_list p.isList ?_;refine⟨s1.heap.objs.size,[s1.heap.objs.size],_,_,H1,Z,I1.kept (t':=s1.toks) λb o e=>Heap.get?_push_of_some _ e,O6 a _,⟨_,Heap.get?_push_size _ Z,Z,Z⟩,λb hb=>?_,q⟩;have e:b=s1.heap.objs.size:=by simpa using hb
 subst e;exact I1.fpOk (le_refl _) (I1.hok.fresh (le_refl _))
theorem Hy {l:Expr} {tl:TE} (hl:PE X l tl):PI X tg l (ZV X.K tl):=by
 intro pins s σ H R I h;refine dC (hl pins s σ H _ I h) λv s1 hpt=>?_;obtain⟨x,H1,I1,r1,q1⟩:=hpt;obtain⟨a,e,⟨xs,hq⟩,q⟩:=q1;subst e;cases r1;obtain⟨its,rv,p,hz⟩:=I1.tuple hq;refine wpAny_pyIter_tuple (show s1.heap.IsTuple a its.toArray from p) ?_;refine⟨s1.heap.objs.size,[s1.heap.objs.size],_,_,H1,Z,I1.kept (t':=s1.toks) λb o e=>Heap.get?_push_of_some _ e,Lh a _,⟨_,Heap.get?_push_size _ Z,Z,Z⟩,λb hb=>?_,q⟩;have e:b=s1.heap.objs.size:=by simpa using hb
 subst e;exact I1.fpOk (le_refl _) (I1.hok.fresh (le_refl _))
theorem QV {pins:List (Addr×Obj)} {σ:St} {H:Hp} {s:Shared} {R:It->Hp->Prop} {E:Value->Shared->Prop} {lo hi:Int} {t u v:Tok} {tk:Nat} (I:Inv X pins σ H s) (h1: -(2 ^ 62)<=lo) (h2:lo <2 ^ 62) (h3: -(2 ^ 62)<=hi) (h4:hi <2 ^ 62)
  (q:R (Xa lo (hi - lo).toNat) H):wpAny (model X.prog X.w) X.A (pyIter (.ref s.heap.objs.size)) (PIE X pins σ tg R) E { s with heap:=s.heap.push { cls:=.type "range",data:=.fields #[.int lo t,.int hi u,.int 1 v] },toks:=tk }:=by
 refine wpAny_pyIter_range (IsRange.new ..) (small_one h1 h2 h3 h4) ?_;have I1:Inv X pins σ H { s with heap:=s.heap.push { cls:=.type "range",data:=.fields #[.int lo t,.int hi u,.int 1 v] },toks:=tk }:=I.kept λb o e=>Heap.get?_push_of_some _ e;refine⟨(s.heap.push { cls:=.type "range",data:=.fields #[.int lo t,.int hi u,.int 1 v] }).objs.size,[(s.heap.push { cls:=.type "range",data:=.fields #[.int lo t,.int hi u,.int 1 v] }).objs.size],_,_,H,Z,
  I1.kept (t':=tk) λb o e=>Heap.get?_push_of_some _ e,Mt _ lo (hi - lo).toNat,?_,λb hb=>?_,q⟩
 ·have e1:lo+((0:Nat):Int) * 1=lo:=by simp
  have e2:(((hi - lo).toNat:Nat):Int) - ((0:Nat):Int)=Builtin.Range.rangeSize lo hi 1:=by rw [rangeSize_one];split <;> lia
  show IsRangeIter _ _ (lo+((0:Nat):Int) * 1) ((((hi - lo).toNat:Nat):Int) - ((0:Nat):Int)) 1;rw [e1,e2];exact Heap.get?_push_size _ Z
 ·have e:b=(s.heap.push { cls:=.type "range",data:=.fields #[.int lo t,.int hi u,.int 1 v] }).objs.size:=by simpa using hb
  subst e;exact I1.fpOk (le_refl _) (I1.hok.fresh (le_refl _))
inductive S9 (R:It->Hp->Prop) (vs:List V) (H1:Hp):Prop where
 | mk:∀j:Int,vs=[.int j]-> -(2 ^ 62)<=j->j <2 ^ 62->R (Xa 0 j.toNat) H1->S9 R vs H1
noncomputable def Z4 (ta:TA):TI:=λσ H R=>ta σ H λvs H1=>S9 R vs H1
theorem jB {a:Expr} {ta:TA} {p pos:Pos} (hg:Gl X "range") (hm:X.mg "range" =none) (ha:PA X [a] ta) (hs:starEach [a] X.env=[(false,eval a X.env)]:=by rfl):PI X tg (.Call (.Name "range" p) [a] [] pos) (Z4 ta):=by
 intro pins s σ H R I h;refine Call_ (GF I hg hm boot_range (PyProof.Rows.callWith_type1 (dC (ha pos pins s σ H _ I h) λus s1 ⟨vs,H1,I1,r1,q1⟩=>?_) hs Z));obtain⟨j,e,q1,q2,q⟩:=q1;subst e;cases r1 with
 | cons r rr=>
  cases rr;obtain⟨t,rfl⟩:=r;exact call_range_1 (QV I1 (by lia) (by lia) q1 q2 (by simpa using q))
noncomputable def aaP (wi:TI) (g:TG) (tb:TS):TS:=λD σ H=>wi σ H λJ H1=>∃W:Nat->Nat->St->Hp->Prop,(∃m,W 0 m σ H1)/\∀i m σ H,W i m σ H->
 (J.stop i H/\D.nx σ H)∨(J.go i H/\∃N:St->Hp->Prop,(∀σ' H',N σ' H'->∃m',m' <m/\W (i+1) m' σ' H')/\∀x H',J.yld i H x H'->g x σ H' λσ2 H2=>tb { D with nx:=N,ct:=N,bk:=D.nx } σ2 H2)
noncomputable def Ip (fp:List Addr) (h:Heap):List (Addr×Obj):=fp.filterMap λb=>(h.get? b).map λo=>(b,o)
theorem rE {fp:List Addr} {h:Heap} {b:Addr} {o:Obj} (hb:b∈fp) (e:h.get? b=some o):(b,o)∈Ip fp h:=mem_filterMap.mpr ⟨b,hb,by rw [e];rfl⟩
theorem Pb {fp:List Addr} {h:Heap} {p:Addr×Obj} (hp:p∈Ip fp h):p.1∈fp/\h.get? p.1=some p.2:=by
 obtain⟨b,hb,e⟩:=mem_filterMap.mp hp;cases q:h.get? b with
 | none=>rw [q] at e;cases e
 | some o=>
  rw [q] at e;have e':(b,o)=p:=Option.some.inj e;subst e';exact⟨hb,q⟩
theorem Inv.pinned {pins:List (Addr×Obj)} {σ:St} {H:Hp} {s:Shared} {fp:List Addr} (I:Inv X pins σ H s) (hf:∀b∈fp,GK X pins H b) (ho:∀b∈fp,∃o,s.heap.get? b=some o/\∀v,o.data≠.cell v):Inv X (pins ++ Ip fp s.heap) σ H s:=
 I.pins_of λp hp=>(mem_append.mp hp).elim (λz=>I.pin p (mem_append_right _ z)) λz=>by obtain⟨hb,e⟩:=Pb z;obtain⟨f0,f1,f2,_⟩:=hf p.1 hb;obtain⟨o,e',d⟩:=ho p.1 hb;rw [e] at e';cases e';exact⟨e,f0,f1,f2,d⟩
theorem Inv.unpinned {pins pl:List (Addr×Obj)} {σ:St} {H:Hp} {s:Shared} (I:Inv X (pins ++ pl) σ H s):Inv X pins σ H s:=I.pins_of λp hp=>I.pin p (mem_append_right _ (mem_append_left _ hp))
theorem fj {iter:Expr} {body:List Stmt} {wi:TI} {g:TG} {tb:TS} {pos:Pos} (hp:PassesOwn (model X.prog X.w) X.A X.env X.xe) (hc:X.calm=true) (hi:PI X tg iter wi) (hg:PG X tg g) (hb:Ku X body tb)
  (hs:∀x,foldedSetIterable iter X.env x=pure x:=by intro _;rfl):PS X (.For tg iter body [] pos) (aaP wi g tb):=by
 intro pins s σ H D I h;refine wpAny_For (dC (hi pins s σ H _ I h) λv s1 h1=>dC h1 λitv s2 h2=>?_) hs;obtain⟨it,fp,tn,J,H2,e,I2,T,st2,f2,W,⟨m0,w0⟩,turn⟩:=h2;subst e;have stat:∀{H':Hp},(∀b∈fp,H' b=none)->∀b∈fp,GK X pins H' b:=λhn b hb=>⟨hn b hb,(f2 b hb).2⟩;refine codeAny_forLoop_any (λn s'=>∃i σ' H',Inv X pins σ' H' s'/\tn i s'.heap/\(∀b∈fp,H' b=none)/\W i n σ' H') ?_ m0 ⟨0,σ,H2,I2,st2,λb hb=>(f2 b hb).1,w0⟩;rintro n s3 ⟨i,σ3,H3,I3,st3,fr3,w3⟩;rcases turn i n σ3 H3 w3 with ⟨stop,qn⟩ | ⟨go,N,hN,step⟩
 ·refine wpAny_passesOwn hp (dC (T.done X Z Z Z hc i pins s3 σ3 H3 X.xe I3 (stat fr3) st3 stop) λr s4 hpt=>?_);obtain⟨hr,I4⟩:=hpt;subst hr;exact wpAny_execs_nil ⟨σ3,H3,I4,qn⟩
 ·refine wpAny_passesOwn hp (dC (T.item X Z Z Z hc i pins s3 σ3 H3 X.xe I3 (stat fr3) st3 go) λr s4 hpt=>?_);obtain⟨u,hr,h4⟩:=hpt;subst hr;refine wpAny_passesOwn hp (dC h4 λ_ s5 hpt=>?_);obtain⟨x,H5,I5,r5,y5,st5,fr5⟩:=hpt;have I5':=I5.pinned (stat fr5) (T.obj _ _ st5);refine wpAny_passesOwn hp (dC (hg _ s5 σ3 H5 x u _ I5' r5 (step x H5 y5)) λ_ s6 hpt=>?_);obtain⟨σ6,H6,I6,q6⟩:=hpt;refine wpAny_passesOwn hp (dC (hb _ s6 σ6 H6 _ I6 q6) λf s7 q7=>?_);have again:∀{σ7:St} {H7:Hp},Inv X (pins ++ Ip fp s5.heap) σ7 H7 s7->N σ7 H7->∃m,m <n/\∃i σ' H',Inv X pins σ' H' s7/\tn i s7.heap/\(∀b∈fp,H' b=none)/\W i m σ' H':=λ{σ7 H7} I7 n7=>by obtain⟨m',hm,w7⟩:=hN σ7 H7 n7;refine⟨m',hm,i+1,σ7,H7,I7.unpinned,T.keep _ _ _ st5 λb hb o e=>(I7.pin (b,o) (mem_append_right _ (mem_append_right _ (rE hb e)))).1,λb hb=>?_,w7⟩;obtain⟨o,e,d⟩:=T.obj _ _ st5 b hb;exact(I7.pin (b,o) (mem_append_right _ (mem_append_right _ (rE hb e)))).2.1
  cases f with
  | next=>obtain⟨σ7,H7,I7,n7⟩:=q7;exact again I7 n7
  | cont=>obtain⟨σ7,H7,I7,n7⟩:=q7;exact again I7 n7
  | brk=>obtain⟨σ7,H7,I7,q7⟩:=q7;exact⟨σ7,H7,I7.unpinned,q7⟩
  | ret v=>obtain⟨x7,σ7,H7,I7,r7,q7⟩:=q7;exact⟨x7,σ7,H7,I7.unpinned,r7,q7⟩
end
theorem fK {K:Fr} {a:Addr} {xs:List V} {g:TG} {tb:TS} {D:Ends} {σ:St} {H:Hp} (Pv:Nat->St->Hp->Prop) (h0:Pv 0 σ H) (hl:∀i σ H,i<=xs.length->Pv i σ H->bT K H a xs)
  (hs:∀i x σ H,xs[i]?=some x->Pv i σ H->g x σ H λσ2 H2=>tb { D with nx:=Pv (i+1),ct:=Pv (i+1),bk:=D.nx } σ2 H2) (hd:∀σ H,Pv xs.length σ H->D.nx σ H):
  ∃W:Nat->Nat->St->Hp->Prop,(∃m,W 0 m σ H)/\∀i m σ H,W i m σ H->
   ((Vu K a).stop i H/\D.nx σ H)∨((Vu K a).go i H/\∃N:St->Hp->Prop,(∀σ' H',N σ' H'->∃m',m' <m/\W (i+1) m' σ' H')/\∀x H',(Vu K a).yld i H x H'->g x σ H' λσ2 H2=>tb { D with nx:=N,ct:=N,bk:=D.nx } σ2 H2):=by
 refine⟨λi m σ H=>m=xs.length - i/\i<=xs.length/\Pv i σ H,⟨xs.length,by simp,zero_le _,h0⟩,?_⟩;rintro i m σ H ⟨rfl,hi,p⟩;have q:=hl i σ H hi p;by_cases hlt:i <xs.length
 ·refine .inr ⟨⟨xs,xs[i],q,by simp [hlt]⟩,Pv (i+1),λσ' H' p'=>⟨xs.length - (i+1),by lia,Z,hlt,p'⟩,λx H' y=>?_⟩;obtain⟨e,y⟩:=y;subst e;exact hs i x σ _ (y xs q) p
 ·have e:i=xs.length:=by lia
  subst e;exact .inl ⟨⟨xs,q,le_refl _⟩,hd σ H p⟩
theorem Ui {K:Fr} {a:Addr} {xs:List V} {g:TG} {tb:TS} {D:Ends} {σ:St} {H:Hp} (Pv:Nat->St->Hp->Prop) (h0:Pv 0 σ H) (hl:∀i σ H,i<=xs.length->Pv i σ H->fZ K H a xs)
  (hs:∀i x σ H,xs[i]?=some x->Pv i σ H->g x σ H λσ2 H2=>tb { D with nx:=Pv (i+1),ct:=Pv (i+1),bk:=D.nx } σ2 H2) (hd:∀σ H,Pv xs.length σ H->D.nx σ H):
  ∃W:Nat->Nat->St->Hp->Prop,(∃m,W 0 m σ H)/\∀i m σ H,W i m σ H->
   ((Yt K a).stop i H/\D.nx σ H)∨((Yt K a).go i H/\∃N:St->Hp->Prop,(∀σ' H',N σ' H'->∃m',m' <m/\W (i+1) m' σ' H')/\∀x H',(Yt K a).yld i H x H'->g x σ H' λσ2 H2=>tb { D with nx:=N,ct:=N,bk:=D.nx } σ2 H2):=by
 refine⟨λi m σ H=>m=xs.length - i/\i<=xs.length/\Pv i σ H,⟨xs.length,by simp,zero_le _,h0⟩,?_⟩;rintro i m σ H ⟨rfl,hi,p⟩;have q:=hl i σ H hi p;by_cases hlt:i <xs.length
 ·refine .inr ⟨⟨xs,xs[i],q,by simp [hlt]⟩,Pv (i+1),λσ' H' p'=>⟨xs.length - (i+1),by lia,Z,hlt,p'⟩,λx H' y=>?_⟩;obtain⟨e,y⟩:=y;subst e;exact hs i x σ _ (y xs q) p
 ·have e:i=xs.length:=by lia
  subst e;exact .inl ⟨⟨xs,q,le_refl _⟩,hd σ H p⟩
theorem Gr {lo:Int} {n:Nat} {g:TG} {tb:TS} {D:Ends} {σ:St} {H:Hp} (Pv:Nat->St->Hp->Prop) (h0:Pv 0 σ H)
  (hs:∀i σ H,i <n->Pv i σ H->g (.int (lo+i)) σ H λσ2 H2=>tb { D with nx:=Pv (i+1),ct:=Pv (i+1),bk:=D.nx } σ2 H2) (hd:∀σ H,Pv n σ H->D.nx σ H):
  ∃W:Nat->Nat->St->Hp->Prop,(∃m,W 0 m σ H)/\∀i m σ H,W i m σ H->
   ((Xa lo n).stop i H/\D.nx σ H)∨((Xa lo n).go i H/\∃N:St->Hp->Prop,(∀σ' H',N σ' H'->∃m',m' <m/\W (i+1) m' σ' H')/\∀x H',(Xa lo n).yld i H x H'->g x σ H' λσ2 H2=>tb { D with nx:=N,ct:=N,bk:=D.nx } σ2 H2):=by
 refine⟨λi m σ H=>m=n - i/\i<=n/\Pv i σ H,⟨n,by simp,zero_le _,h0⟩,?_⟩;rintro i m σ H ⟨rfl,hi,p⟩;by_cases hlt:i <n
 ·refine .inr ⟨hlt,Pv (i+1),λσ' H' p'=>⟨n - (i+1),by lia,Z,hlt,p'⟩,λx H' y=>?_⟩;obtain⟨e,y⟩:=y;subst e y;exact hs i σ _ hlt p
 ·have e:i=n:=by lia
  subst e;exact .inl ⟨le_refl _,hd σ H p⟩
theorem wN {c:TT} {tb:TS} {D:Ends} {σ:St} {H:Hp} (Pv:St->Hp->Prop) (μ:St->Hp->Nat) (h0:Pv σ H)
  (hs:∀σ H,Pv σ H->c σ H λb H1=>if b=true then tb { D with nx:=λσ' H'=>Pv σ' H'/\μ σ' H' <μ σ H,ct:=λσ' H'=>Pv σ' H'/\μ σ' H' <μ σ H,bk:=D.nx } σ H1 else D.nx σ H1)
  (mono:∀σ H Q Q',(∀b H1,Q b H1->Q' b H1)->c σ H Q->c σ H Q'):KJ c tb D σ H:=by
 refine⟨λm σ H=>m=μ σ H/\Pv σ H,⟨_,Z,h0⟩,?_⟩;rintro m σ H ⟨rfl,p⟩;refine mono σ H _ _ (λb H1 q=>?_) (hs σ H p);cases b with
 | true=>exact⟨_,λσ' H' ⟨p',l⟩=>⟨_,l,rfl,p'⟩,q⟩
 | false=>exact q
noncomputable abbrev R2:=V->V->Hp->VK->Prop
noncomputable def vU (X:Cx) (f:Value->Value->Sem Value) (r:R2):Prop:=
 ∀(pins:List (Addr×Obj)) (s:Shared) (σ:St) (H:Hp) (x y:V) (v u:Value) (Q:VK),Inv X pins σ H s->RelV x v->RelV y u->r x y H Q->
  wpAny (model X.prog X.w) X.A (f v u) (EP X pins σ Q) X.xe s
noncomputable def UnR (X:Cx) (f:Value->Sem Value) (r:V->Hp->VK->Prop):Prop:=
 ∀(pins:List (Addr×Obj)) (s:Shared) (σ:St) (H:Hp) (x:V) (v:Value) (Q:VK),Inv X pins σ H s->RelV x v->r x H Q->
  wpAny (model X.prog X.w) X.A (f v) (EP X pins σ Q) X.xe s
noncomputable def jj (X:Cx) (f:Value) (r:List V->Hp->VK->Prop):Prop:=
 ∀(pins:List (Addr×Obj)) (s:Shared) (σ:St) (H:Hp) (xs:List V) (us:List Value) (Q:VK),Inv X pins σ H s->Vals xs us->r xs H Q->
  wpAny (model X.prog X.w) X.A (call f us) (EP X pins σ Q) X.xe s
noncomputable def TV (r:R2) (ta tb:TE):TE:=λσ H Q=>ta σ H λx H1=>tb σ H1 λy H2=>r x y H2 Q
noncomputable def tUn (r:V->Hp->VK->Prop) (ta:TE):TE:=λσ H Q=>ta σ H λx H1=>r x H1 Q
inductive rII (C:Int->Int->Prop) (g:Int->Int->V) (x:V) (y:V) (H:Hp) (Q:VK):Prop where
 | mk:∀i j,x=.int i->y=.int j->C i j->Q (g i j) H->rII C g x y H Q
noncomputable def rI (C:Int->Int->Prop) (g:Int->Int->V):R2:=λx y H Q=>rII C g x y H Q
inductive Y6 (g:Int->Int->V) (x:V) (y:V) (H:Hp) (Q:VK):Prop where
 | mk:∀i j,x=.int i->y=.int j->Q (g i j) H->Y6 g x y H Q
noncomputable def TY (g:Int->Int->V):R2:=λx y H Q=>Y6 g x y H Q
noncomputable def rU (g:Int->V):V->Hp->VK->Prop:=λx H Q=>∃i,x=.int i/\Q (g i) H
section
variable {X:Cx} {a b c:Expr} {ta tb tc:TE} {pos:Pos}
theorem XX (ha:PE X a ta) (hb:PE X b tb) {pins:List (Addr×Obj)} {s:Shared} {σ:St} {H:Hp} {R:V->V->Hp->Prop} (I:Inv X pins σ H s)
  (h:ta σ H λx H1=>tb σ H1 λy H2=>R x y H2) {Q:Value->Shared->Prop} {f:Value->Value->Sem Value}
  (hf:∀v u s2 x y H2,Inv X pins σ H2 s2->RelV x v->RelV y u->R x y H2->wpAny (model X.prog X.w) X.A (f v u) Q X.xe s2):
  wpAny (model X.prog X.w) X.A (eval a X.env) (λv s₁=>wpAny (model X.prog X.w) X.A (eval b X.env) (λu s₂=>wpAny (model X.prog X.w) X.A (f v u) Q X.xe s₂) X.xe s₁) X.xe s:=by
 refine dC (ha pins s σ H _ I h) λv s1 hpt=>?_;obtain⟨x,H1,I1,r1,q1⟩:=hpt;refine dC (hb pins s1 σ H1 _ I1 q1) λu s2 hpt=>?_;obtain⟨y,H2,I2,r2,q2⟩:=hpt;exact hf v u s2 x y H2 I2 r1 r2 q2
theorem aX {op:Operator} {r:R2} (ho:vU X (binaryOp op) r) (ha:PE X a ta) (hb:PE X b tb):PE X (.BinOp a op b pos) (TV r ta tb):=by intro pins s σ H Q I h;exact wpAny_BinOp (XX ha hb I h λv u s2 x y H2 I2 rx ry q=>ho pins s2 σ H2 x y v u Q I2 rx ry q)
theorem Wf {op:UnaryOp} {r:V->Hp->VK->Prop} (ho:UnR X (unaryOp op) r) (ha:PE X a ta):PE X (.UnaryOp op a pos) (tUn r ta):=by intro pins s σ H Q I h;exact UnaryOp_ (dC (ha pins s σ H _ I h) λv s1 ⟨x,H1,I1,r1,q1⟩=>ho pins s1 σ H1 x v Q I1 r1 q1)
theorem Z9 {f:Value->Value->Sem Value} {C:Int->Int->Prop} {g:Int->Int->Int}
  (rule:∀(i j:Int) (t u:Tok) (s:Shared) (Q:Value->Shared->Prop) (E:Value->Shared->Prop),C i j->Q (.int (g i j) s.toks) { s with toks:=s.toks+1 }->wpAny (model X.prog X.w) X.A (f (.int i t) (.int j u)) Q E s):
  vU X f (rI C λi j=>.int (g i j)):=by
 intro pins s σ H x y v u Q I rx ry h;obtain⟨i,j,rfl,rfl,hc,q⟩:=h;obtain⟨t,rfl⟩:=rx;obtain⟨t',rfl⟩:=ry;exact rule i j t t' s _ _ hc ⟨.int (g i j),H,I.tok _,⟨_,Z⟩,q⟩
theorem X3 {f:Value->Value->Sem Value} {g:Int->Int->Int}
  (rule:∀(i j:Int) (t u:Tok) (s:Shared) (Q:Value->Shared->Prop) (E:Value->Shared->Prop),Q (.int (g i j) s.toks) { s with toks:=s.toks+1 }->wpAny (model X.prog X.w) X.A (f (.int i t) (.int j u)) Q E s):
  vU X f (TY λi j=>.int (g i j)):=by
 intro pins s σ H x y v u Q I rx ry h;obtain⟨i,j,rfl,rfl,q⟩:=h;obtain⟨t,rfl⟩:=rx;obtain⟨t',rfl⟩:=ry;exact rule i j t t' s _ _ ⟨.int (g i j),H,I.tok _,⟨_,Z⟩,q⟩
theorem Vz {f:Value->Value->Sem Value} {g:Int->Int->Bool}
  (rule:∀(i j:Int) (t u:Tok) (s:Shared) (Q:Value->Shared->Prop) (E:Value->Shared->Prop),Q (.bool (g i j)) s->wpAny (model X.prog X.w) X.A (f (.int i t) (.int j u)) Q E s):
  vU X f (TY λi j=>.bl (g i j)):=by
 intro pins s σ H x y v u Q I rx ry h;obtain⟨i,j,rfl,rfl,q⟩:=h;obtain⟨t,rfl⟩:=rx;obtain⟨t',rfl⟩:=ry;exact rule i j t t' s _ _ ⟨.bl (g i j),H,I,Z,q⟩
noncomputable def aaW (i j:Int):Prop:=0<=j/\j<=1000000/\i.natAbs <2 ^ 64
theorem dG:vU X (binaryOp .Add) (TY λi j=>.int (i+j)):=X3 λ_ _ _ _ _ _ _ q=>add_int q
theorem CG:vU X (binaryOp .Sub) (TY λi j=>.int (i - j)):=X3 λ_ _ _ _ _ _ _ q=>sub_int q
theorem bR:vU X (binaryOp .Mod) (rI (λ_ j=>0 <j) λi j=>.int (i % j)):=Z9 λi j _ _ _ _ _ hc q=>by have h1:(0:Int) <j:=hc;exact mod_int' (by lia) (by rw [Int.fmod_eq_emod_of_nonneg i (by lia)];exact q)
theorem Iv:vU X (binaryOp .Pow) (rI aaW λi j=>.int (i ^ j.toNat)):=Z9 λ_ _ _ _ _ _ _ hc q=>pow_int_small hc.1 hc.2.1 hc.2.2 q
theorem Nz:vU X (inplaceOp .Add) (TY λi j=>.int (i+j)):=X3 λ_ _ _ _ _ _ _ q=>iadd_int q
theorem unI {f:Value->Sem Value} {g:Int->Int}
  (rule:∀(i:Int) (t:Tok) (s:Shared) (Q:Value->Shared->Prop) (E:Value->Shared->Prop),Q (.int (g i) s.toks) { s with toks:=s.toks+1 }->wpAny (model X.prog X.w) X.A (f (.int i t)) Q E s):
  UnR X f (rU λi=>.int (g i)):=by
 intro pins s σ H x v Q I rx h;obtain⟨i,rfl,q⟩:=h;obtain⟨t,rfl⟩:=rx;exact rule i t s _ _ ⟨.int (g i),H,I.tok _,⟨_,Z⟩,q⟩
theorem RN:UnR X (unaryOp .USub) (rU λi=>.int (-i)):=unI λ_ _ _ _ _ q=>neg_int q
end
noncomputable def Zk:V->V->Bool
 | .non,.non=>true | .non,.int _=>true | .int _,.non=>true | .non,.bl _=>true | .bl _,.non=>true | .non,.str _=>true | .str _,.non=>true
 | .int _,.int _=>true | .bl _,.bl _=>true | .str _,.str _=>true | .byt _,.byt _=>true
 | .int _,.str _=>true | .str _,.int _=>true | .bl _,.str _=>true | .str _,.bl _=>true
 | _,_=>false
noncomputable def rEq:R2:=λx y H Q=>Zk x y=true/\Q (.bl (decide (x=y))) H
noncomputable def rNe:R2:=λx y H Q=>Zk x y=true/\Q (.bl (!decide (x=y))) H
theorem Ol {i j:Int}:decide (V.int i=V.int j)=(i == j):=by rw [Bool.eq_iff_iff];simp
theorem Th {i j:Bool}:decide (V.bl i=V.bl j)=(i == j):=by rw [Bool.eq_iff_iff];simp
theorem Ob {i j:Str}:decide (V.str i=V.str j)=(i == j):=by rw [Bool.eq_iff_iff];simp
theorem N8 {i j:Array UInt8}:decide (V.byt i=V.byt j)=(i.toList == j.toList):=by rw [Bool.eq_iff_iff];cases i;cases j;simp
section
variable {X:Cx} {a b c:Expr} {ta tb tc:TE} {pos:Pos}
theorem cH {pins:List (Addr×Obj)} {σ:St} {H:Hp} {s:Shared} {Q:VK} {k k':Bool} (I:Inv X pins σ H s) (q:Q (.bl k) H) (e:k=k'):EP X pins σ Q (.bool k') s:=by subst e;exact⟨.bl k,H,I,Z,q⟩
theorem fO:vU X (compareOp .Eq) rEq:=by
 intro pins s σ H x y v u Q I rx ry h;obtain⟨hs,q⟩:=h;cases x with
 | non=>
  cases rx;cases y with
  | non=>cases ry;exact PySem.EqNone.eq_none_none (cH I q (by simp))
  | bl j=>cases ry;exact PySem.EqNone.eq_none_bool (cH I q (by simp))
  | int j=>obtain⟨t',rfl⟩:=ry;exact PySem.EqNone.eq_none_int (cH I q (by simp))
  | str j=>obtain⟨t',rfl⟩:=ry;exact PySem.EqNone.eq_none_str (cH I q (by simp))
  | _=>exact absurd (show false=true from hs) Bool.false_ne_true
 | bl i=>
  cases rx;cases y with
  | non=>cases ry;exact PySem.EqNone.eq_bool_none (cH I q (by simp))
  | bl j=>cases ry;exact eq_bool (cH I q Th)
  | str j=>obtain⟨t',rfl⟩:=ry;exact PySem.EqMixed.eq_bool_str (cH I q (by simp))
  | _=>exact absurd (show false=true from hs) Bool.false_ne_true
 | int i=>
  obtain⟨t,rfl⟩:=rx;cases y with
  | non=>cases ry;exact PySem.EqNone.eq_int_none (cH I q (by simp))
  | int j=>obtain⟨t',rfl⟩:=ry;exact eq_int (cH I q Ol)
  | str j=>obtain⟨t',rfl⟩:=ry;exact PySem.EqMixed.eq_int_str (cH I q (by simp))
  | _=>exact absurd (show false=true from hs) Bool.false_ne_true
 | str i=>
  obtain⟨t,rfl⟩:=rx;cases y with
  | non=>cases ry;exact PySem.EqNone.eq_str_none (cH I q (by simp))
  | bl j=>cases ry;exact PySem.EqMixed.eq_str_bool (cH I q (by simp))
  | int j=>obtain⟨t',rfl⟩:=ry;exact PySem.EqMixed.eq_str_int (cH I q (by simp))
  | str j=>obtain⟨t',rfl⟩:=ry;exact eq_str (cH I q Ob)
  | _=>exact absurd (show false=true from hs) Bool.false_ne_true
 | byt i=>
  obtain⟨t,rfl⟩:=rx;cases y with
  | byt j=>obtain⟨t',rfl⟩:=ry;exact PySem.W.eq_bytes (cH I q N8)
  | _=>exact absurd (show false=true from hs) Bool.false_ne_true
 | _=>cases y <;> exact absurd (show false=true from hs) Bool.false_ne_true
theorem JM:vU X (compareOp .NotEq) rNe:=by
 intro pins s σ H x y v u Q I rx ry h;obtain⟨hs,q⟩:=h;cases x with
 | non=>
  cases rx;cases y with
  | non=>cases ry;exact PySem.EqNone.ne_none_none (cH I q (by simp))
  | bl j=>cases ry;exact PySem.EqNone.ne_none_bool (cH I q (by simp))
  | int j=>obtain⟨t',rfl⟩:=ry;exact PySem.EqNone.ne_none_int (cH I q (by simp))
  | str j=>obtain⟨t',rfl⟩:=ry;exact PySem.EqNone.ne_none_str (cH I q (by simp))
  | _=>exact absurd (show false=true from hs) Bool.false_ne_true
 | bl i=>
  cases rx;cases y with
  | non=>cases ry;exact PySem.EqNone.ne_bool_none (cH I q (by simp))
  | bl j=>cases ry;exact ne_bool (cH I q (congrArg not Th))
  | str j=>obtain⟨t',rfl⟩:=ry;exact PySem.EqMixed.ne_bool_str (cH I q (by simp))
  | _=>exact absurd (show false=true from hs) Bool.false_ne_true
 | int i=>
  obtain⟨t,rfl⟩:=rx;cases y with
  | non=>cases ry;exact PySem.EqNone.ne_int_none (cH I q (by simp))
  | int j=>obtain⟨t',rfl⟩:=ry;exact ne_int (cH I q (congrArg not Ol))
  | str j=>obtain⟨t',rfl⟩:=ry;exact PySem.EqMixed.ne_int_str (cH I q (by simp))
  | _=>exact absurd (show false=true from hs) Bool.false_ne_true
 | str i=>
  obtain⟨t,rfl⟩:=rx;cases y with
  | non=>cases ry;exact PySem.EqNone.ne_str_none (cH I q (by simp))
  | bl j=>cases ry;exact PySem.EqMixed.ne_str_bool (cH I q (by simp))
  | int j=>obtain⟨t',rfl⟩:=ry;exact PySem.EqMixed.ne_str_int (cH I q (by simp))
  | str j=>obtain⟨t',rfl⟩:=ry;exact ne_str (cH I q (congrArg not Ob))
  | _=>exact absurd (show false=true from hs) Bool.false_ne_true
 | byt i=>
  obtain⟨t,rfl⟩:=rx;cases y with
  | byt j=>obtain⟨t',rfl⟩:=ry;exact PySem.W.ne_bytes (cH I q (congrArg not N8))
  | _=>exact absurd (show false=true from hs) Bool.false_ne_true
 | _=>cases y <;> exact absurd (show false=true from hs) Bool.false_ne_true
theorem rM:vU X (compareOp .Lt) (TY λi j=>.bl (decide (i <j))):=Vz λ_ _ _ _ _ _ _ q=>lt_int q
theorem rO:vU X (compareOp .LtE) (TY λi j=>.bl (decide (i<=j))):=Vz λ_ _ _ _ _ _ _ q=>le_int q
theorem Ca:vU X (compareOp .Gt) (TY λi j=>.bl (decide (j <i))):=Vz λ_ _ _ _ _ _ _ q=>gt_int q
theorem YW:vU X (compareOp .GtE) (TY λi j=>.bl (decide (j<=i))):=Vz λ_ _ _ _ _ _ _ q=>ge_int q
theorem yC:vU X (compareOp .In) (λx y H Q=>∃i j,x=.str i/\y=.str j/\Q (.bl (!(Builtin.Str.occurrences j i 0 j.length 1).isEmpty)) H):=by intro pins s σ H x y v u Q I rx ry h;obtain⟨i,j,rfl,rfl,q⟩:=h;obtain⟨t,rfl⟩:=rx;obtain⟨t',rfl⟩:=ry;exact in_str (cH I q Z)
theorem bH (b:Expr) {op:CmpOp} (h:op≠.In:=by decide) (h2:op≠.NotIn:=by decide):behindInMarks op b=false:=by
 have e1:(op == CmpOp.In)=false:=by cases op <;> first | rfl | exact absurd rfl h
 have e2:(op == CmpOp.NotIn)=false:=by cases op <;> first | rfl | exact absurd rfl h2
 cases b <;> simp [behindInMarks,e1,e2]
theorem qH {op:CmpOp} {r:R2} (ho:vU X (compareOp op) r) (ha:PE X a ta) (hb:PE X b tb) (hm:behindInMarks op b=false):PE X (.Compare a [op] [b] pos) (TV r ta tb):=by intro pins s σ H Q I h;exact wpAny_Compare1 (XX ha hb I h λv u s2 x y H2 I2 rx ry q=>ho pins s2 σ H2 x y v u Q I2 rx ry q) hm
inductive QW (Q:Bool->Hp->Prop) (x:V) (H':Hp):Prop where
 | mk:∀k,x=.bl k->Q k H'->QW Q x H'
noncomputable def Nu (t:TE):TT:=λσ H Q=>t σ H λx H'=>QW Q x H'
theorem bf {op:CmpOp} {r:R2} (ho:vU X (compareOp op) r) (ha:PE X a ta) (hb:PE X b tb) (hm:behindInMarks op b=false):PT X (.Compare a [op] [b] pos) (Nu (TV r ta tb)):=by
 intro pins s σ H Q I h;refine wpAny_isTrue_Compare1 (dC (ha pins s σ H _ I h) λv s1 ⟨x,H1,I1,r1,q1⟩=>dC (hb pins s1 σ H1 _ I1 q1) λu s2 ⟨y,H2,I2,r2,q2⟩=>
  dC (ho pins s2 σ H2 x y v u _ I2 r1 r2 q2) λc s3 ⟨z,H3,I3,r3,k,e,q3⟩=>?_) hm
 subst e;cases r3;exact wpAny_truthy_bool ⟨H3,I3,q3⟩
inductive Od (r':R2) (tc:TE) (σ:St) (Q:VK) (y:V) (z:V) (H3:Hp):Prop where
 | mk:∀k,z=.bl k->((if k=true then tc σ H3 λw' H4=>r' y w' H4 Q else Q (.bl false) H3))->Od r' tc σ Q y z H3
noncomputable def R1 (r r':R2) (ta tb tc:TE):TE:=λσ H Q=>ta σ H λx H1=>tb σ H1 λy H2=>r x y H2 λz H3=>Od r' tc σ Q y z H3
theorem Qs {op op':CmpOp} {r r':R2} (ho:vU X (compareOp op) r) (ho':vU X (compareOp op') r') (ha:PE X a ta) (hb:PE X b tb) (hc:PE X c tc)
  (hm:lastMarks [op,op'] [b,c]=false:=by with_unfolding_all rfl):PE X (.Compare a [op,op'] [b,c] pos) (R1 r r' ta tb tc):=by
 intro pins s σ H Q I h;refine Compare_chain (dC (ha pins s σ H _ I h) λv s1 ⟨x,H1,I1,r1,q1⟩=>chain_link (dC (hb pins s1 σ H1 _ I1 q1) λu s2 ⟨y,H2,I2,r2,q2⟩=>
  dC (ho pins s2 σ H2 x y v u _ I2 r1 r2 q2) λd s3 ⟨z,H3,I3,r3,k,e,q3⟩=>?_)) hm
 subst e;cases r3;refine wpAny_truthy_bool ?_;cases k with
 | false=>exact ite_ff ⟨.bl false,H3,I3,rfl,q3⟩
 | true=>exact ite_tt (chain_last (dC (hc pins s3 σ H3 _ I3 q3) λw' s4 ⟨z',H4,I4,r4,q4⟩=>ho' pins s4 σ H4 y z' u w' Q I4 r2 r4 q4))
theorem tH {op op':CmpOp} {r r':R2} (ho:vU X (compareOp op) r) (ho':vU X (compareOp op') r') (ha:PE X a ta) (hb:PE X b tb) (hc:PE X c tc)
  (hm:lastMarks [op,op'] [b,c]=false:=by with_unfolding_all rfl):PT X (.Compare a [op,op'] [b,c] pos) (Nu (R1 r r' ta tb tc)):=by
 intro pins s σ H Q I h;refine isTrue_chain (dC (ha pins s σ H _ I h) λv s1 ⟨x,H1,I1,r1,q1⟩=>test_link (dC (hb pins s1 σ H1 _ I1 q1) λu s2 ⟨y,H2,I2,r2,q2⟩=>
  dC (ho pins s2 σ H2 x y v u _ I2 r1 r2 q2) λd s3 ⟨z,H3,I3,r3,k,e,q3⟩=>?_)) hm
 subst e;cases r3;refine wpAny_truthy_bool ?_;cases k with
 | false=>
  obtain⟨k',e',q'⟩:=q3;cases e';exact ite_ff ⟨H3,I3,q'⟩
 | true=>
  refine ite_tt (test_last (dC (hc pins s3 σ H3 _ I3 q3) λw' s4 ⟨z',H4,I4,r4,q4⟩=>dC (ho' pins s4 σ H4 y z' u w' _ I4 r2 r4 q4) λd' s5 hpt=>?_));obtain⟨z2,H5,I5,r5,k2,e2,q5⟩:=hpt;subst e2;cases r5;exact wpAny_truthy_bool ⟨H5,I5,q5⟩
theorem Bu:(sizeLine:Nat) <2 ^ 63:=by rw [sizeLine_eq];decide
theorem ww:vU X (binaryOp .Add) (λx y H Q=>∃i j,x=.str i/\y=.str j/\i.length+j.length<=sizeLine/\Q (.str (i ++ j)) H):=by intro pins s σ H x y v u Q I rx ry h;obtain⟨i,j,rfl,rfl,hz,q⟩:=h;obtain⟨t,rfl⟩:=rx;obtain⟨t',rfl⟩:=ry;exact add_str (λt' tk=>⟨.str (i ++ j),H,I.tok _,⟨_,Z⟩,q⟩) hz
theorem vals1 {x:V} {us:List Value} (r:Vals [x] us):∃u,us=[u]/\RelV x u:=by
 cases r with
 | cons r1 r2=>cases r2;exact⟨_,rfl,r1⟩
theorem vals2 {x y:V} {us:List Value} (r:Vals [x,y] us):∃u w',us=[u,w']/\RelV x u/\RelV y w':=by
 cases r with
 | cons r1 r2=>
  cases r2 with
  | cons r3 r4=>cases r4;exact⟨_,_,rfl,r1,r3⟩
theorem Fv (hc:X.calm=true):jj X (.builtin "max") (λxs H Q=>∃i j,xs=[.int i,.int j]/\Q (.int (if j >i then j else i)) H):=by
 intro pins s σ H xs us Q I r h;obtain⟨i,j,rfl,q⟩:=h;obtain⟨u,w',rfl,⟨t,rfl⟩,⟨t',rfl⟩⟩:=vals2 r;refine max_two_ints (I.ok.hd hc) λh' tk k=>⟨_,H,I.kept k,?_,q⟩;by_cases hj:j >i
 ·rw [if_pos hj,if_pos hj];exact⟨_,rfl⟩
 ·rw [if_neg hj,if_neg hj];exact⟨_,rfl⟩
theorem PN:jj X (.type "int") (λxs H Q=>(∃i,xs=[.int i]/\Q (.int i) H)∨∃k,xs=[.bl k]/\Q (.int (if k then 1 else 0)) H):=by
 intro pins s σ H xs us Q I r h;rcases h with ⟨i,rfl,q⟩ | ⟨k,rfl,q⟩
 ·obtain⟨u,rfl,t,rfl⟩:=vals1 r;exact call_int_int ⟨.int i,H,I,⟨_,Z⟩,q⟩
 ·obtain⟨u,rfl,r1⟩:=vals1 r;cases r1;exact call_int_bool ⟨.int (if k then 1 else 0),H,I.tok _,⟨_,Z⟩,q⟩
theorem G8:jj X (.type "str") (λxs H Q=>∃i,xs=[.int i]/\i.natAbs.log2 <1920/\Q (.str (toString i)) H):=by intro pins s σ H xs us Q I r h;obtain⟨i,rfl,hz,q⟩:=h;obtain⟨u,rfl,t,rfl⟩:=vals1 r;exact PySem.P.str_of_int hz ⟨.str _,H,I.tok _,⟨_,Z⟩,q⟩
noncomputable def YL (K:Fr) (x:V) (H:Hp) (n:Nat):Prop:=
 match x with
 | .str y=>y.length<=sizeLine/\n=y.length
 | .byt y=>y.size<=sizeLine/\n=y.size
 | .ref p=>(∃xs,bT K H p xs/\n=xs.length)∨∃xs,fZ K H p xs/\n=xs.length
 | _=>False
theorem bN:jj X (.builtin "len") (λxs H Q=>∃x n,xs=[x]/\YL X.K x H n/\Q (.int n) H):=by
 intro pins s σ H xs us Q I r h;obtain⟨x,n,rfl,e,q⟩:=h;obtain⟨u,rfl,rx⟩:=vals1 r;have hl:=Bu;have hs:sizeLine=16777216:=sizeLine_eq;cases x with
 | str y=>
  obtain⟨t,rfl⟩:=rx;obtain⟨hy,e'⟩:y.length<=sizeLine/\n=y.length:=e;subst e';exact len_str (by lia) ⟨.int _,H,I.tok _,⟨_,Z⟩,q⟩
 | byt y=>
  obtain⟨t,rfl⟩:=rx;obtain⟨hy,e'⟩:y.size<=sizeLine/\n=y.size:=e;subst e';exact PySem.W.len_bytes (by lia) ⟨.int _,H,I.tok _,⟨_,Z⟩,q⟩
 | ref p=>
  cases rx;have e':(∃xs,bT X.K H p xs/\n=xs.length)∨∃xs,fZ X.K H p xs/\n=xs.length:=e;rcases e' with ⟨xs,hx,e'⟩ | ⟨xs,hx,e'⟩
  ·subst e';obtain⟨its,r',pl,hz⟩:=I.list hx;have hlen:=r'.length;exact Calls.call_len_list pl.isList (by simp only [size_toArray];lia) ⟨.int xs.length,H,I.tok _,⟨_,by simp only [size_toArray];rw [hlen]⟩,q⟩
  ·subst e';obtain⟨its,r',pl,hz⟩:=I.tuple hx;have hlen:=r'.length;exact len_tuple pl (by simp only [size_toArray];lia) ⟨.int xs.length,H,I.tok _,⟨_,by simp only [size_toArray];rw [hlen]⟩,q⟩
 | _=>exact(show False from e).elim
end
structure Mh (h:Heap) (x dx C:Addr) (mA:Str->Option Value):Prop where
 obj:h.get? x=some (PySem.W.instObj C dx)
 ns:h.Ns1 dx mA
 ne:dx≠x
theorem yZ {h:Heap} {dx:Addr} {mA:Str->Option Value} (n:h.Ns1 dx mA):∃od,h.get? dx=some od/\∀name,PySem.W.lookIn name od=some (mA name):=by
 obtain⟨o,es,ep,ho,hd,hk,_,hm⟩:=n;refine⟨o,ho,λname=>?_⟩;have e:=hm name;unfold nsFind findBy at e;rw [<-Array.find?_toList] at e;unfold PySem.W.lookIn;rw [hd];dsimp only;split
 ·rename_i y q;rw [q] at e;exact congrArg some e
 ·rename_i q;rw [q] at e;have a:es.toList.any (·.refKey)=false:=by rw [List.any_eq_false];intro y hy;obtain⟨z,t,hkey⟩:=hk y (Array.mem_toList_iff.mp hy);simp [DictEntry.refKey,hkey]
  have a':¬es.toList.any (·.refKey)=true:=by rw [a];exact Bool.false_ne_true
  rw [if_neg a'];exact congrArg some e
theorem Mh.look {h:Heap} {x dx C:Addr} {mA:Str->Option Value} (I:Mh h x dx C mA):∃od,PySem.W.InstAt h x (PySem.W.instObj C dx) C (some od)/\∀name,PySem.W.lookIn name od=some (mA name):=
 let ⟨od,ho,hl⟩:=yZ I.ns
 ⟨od,⟨I.obj,rfl,rfl,ho⟩,hl⟩
section
variable {prog:Program} {w:World} {A:Around} {E:Value->Shared->Prop} {s:Shared} {K:Fr} {x dx C f:Addr} {mA:Str->Option Value} {name:Str} {v:Value}
theorem Vk {expr:Bool} {Q:Value->Shared->Prop} (X:K.In s.heap) (I:Mh s.heap x dx C mA) (hg:PySem.W.plainGet K C name=true) (hh:PySem.W.hasDictIn K C=true)
  (ha:PySem.W.findIn K (.ref C) name=some none) (hv:mA name=some v) (hv':PySem.W.handedIn v=true) (h:Q v { s with toks:=s.toks+1 }):
  wpAny (model prog w) A (getAttr (.ref x) name expr) Q E s:=by
 obtain⟨od,J,hl⟩:=I.look;exact PySem.W.get_value X J (PySem.W.plainGet_of hg).1 (PySem.W.findObj_own hh ha Z (by rw [hl,hv])) hv' h
theorem RD {pl:Sem Bool} {Q:Value×List Value->Shared->Prop} (X:K.In s.heap) (I:Mh s.heap x dx C mA) (hg:PySem.W.plainGet K C name=true)
  (hf:PySem.W.findIn K (.ref C) name=some (some (.ref f))) (ht:PySem.W.isFn K (.ref f)=true) (hv:mA name=none) (h:Q (.ref f,[.ref x]) s):
  wpAny (model prog w) A (getMethod (.ref x) name pl) Q E s:=by
 obtain⟨od,J,hl⟩:=I.look;exact PySem.W.method_fn X J (PySem.W.plainGet_of hg).1 (PySem.W.plainGet_of hg).2 hf (beq_iff_eq.mp ht) (by show(PySem.W.lookIn name od).map (·.isSome)=some false;rw [hl,hv];rfl) h
theorem Vi {ns:List Str} {Q:Unit->Shared->Prop} (X:K.In s.heap) (I:Mh s.heap x dx C mA)
  (hs:PySem.W.findIn K (.ref C) "__setattr__" =some (some (.builtin "object.__setattr__"))) (hp:PySem.W.plainOver K C=true) (ht:PySem.W.takerIn K C name=some none) (hh:PySem.W.hasDictIn K C=true)
  (hw:PySem.Within mA ns) (hsz:ns.length<=sizeLine)
  (h:∀h',Mh h' x dx C (λy=>if y=name then some v else mA y)->Heap.SameBut dx s.heap h'->Q () { s with heap:=h',toks:=s.toks+2 }):
  wpAny (model prog w) A (setAttr (.ref x) name v) Q E s:=by
 obtain⟨od,J,hl⟩:=I.look;refine PySem.W.set_plain X J hs (PySem.W.osa_open (s:={ s with toks:=s.toks+1 }) (r:=none) X J hp ht λb=>?_);obtain⟨cd,hc,hd'⟩:=PySem.W.any_some hh;have hx:s.heap.get? x=some ⟨.ref C,some dx,.plain,#[]⟩:=I.obj;refine wpAny_bind (wpAny_pure (wpAny_bind (wpAny_bind (wpAny_loadPart hx (wpAny_bind (PySem.W.Looks.here (s:={ s with toks:=s.toks+1 }) (PySem.W.looks_clsIn X hc) ?_))))));rw [hd'];refine wpAny_pure (a:=some dx) (wpAny_bind (wpAny_pure (wpAny_bind ?_)));refine wpAny_nsSet1 (s:={ s with toks:=s.toks+1 }) I.ns λh' hn2 hs2=>?_;obtain⟨oD,esD,epD,hoD,hdD,hcD⟩:=hn2.count (PySem.Within.cons name v hw);refine wpAny_bind (wpAny_lookBehind hoD (by rw [hdD];exact pastItsLine_dict (le_trans hcD (by rw [length_cons];lia))) ?_);exact wpAny_pure (h _ ⟨(hs2.2 _ (Ne.symm I.ne)).trans I.obj,hn2,I.ne⟩ hs2)
theorem SM {R:Result->Shared->Prop} {vs:List Value} {kw:List (Str×Value)} (X:K.In s.heap) (hm:PySem.W.makesIn K C=true)
  (hi:PySem.W.findIn K (.ref C) "__init__" =some (some (.ref f))) (hf:PySem.W.typeIn K (.ref f)=some (.type "function"))
  (h:codeAny (model prog w) (A.under (.builtin "type.__call__" ⟨.ref C:: vs,kw⟩)) (.call (.ref f) ⟨.ref (s.heap.objs.size+1):: vs,kw⟩) (PySem.W.InitBack (s.heap.objs.size+1) R)
   { s with heap:=(s.heap.push PySem.W.emptyDict).push (PySem.W.instObj C s.heap.objs.size) }):
  codeAny (model prog w) A (.call (.ref C) ⟨vs,kw⟩) R s:=by
 obtain⟨hh,g,d,t,os⟩:=s;exact PySem.W.make_core (PySem.W.makes_of X hm) (PySem.W.looks_findIn X hi) (λself=>PySem.W.bind_fn X self hf) (.inl Z) h
end
noncomputable def aG (f:Str) (v:V):List (Str×V)->List (Str×V)
 | []=>[(f,v)]
 | (g,x):: r=>if g=f then(g,v):: r else(g,x):: aG f v r
theorem aD (f g:Str) (v:V):∀fs:List (Str×V),(aG f v fs).lookup g=if g=f then some v else fs.lookup g
 | []=>by
  show List.lookup g [(f,v)]=_;by_cases h:g=f
  ·have hb:(g == f)=true:=beq_iff_eq.mpr h;simp only [List.lookup,hb,if_pos h]
  ·have hb:(g == f)=false:=beq_eq_false_iff_ne.mpr h;simp only [List.lookup,hb,if_neg h]
 | (k,x):: r=>by
  have ih:=aD f g v r;rw [show aG f v ((k,x):: r)=(if k=f then(k,v):: r else(k,x):: aG f v r) from rfl];by_cases hk:k=f
  ·rw [if_pos hk];by_cases h:g=k
   ·have hb:(g == k)=true:=beq_iff_eq.mpr h;simp only [List.lookup,hb,if_pos (h.trans hk)]
   ·have hb:(g == k)=false:=beq_eq_false_iff_ne.mpr h;simp only [List.lookup,hb,if_neg (λe:g=f=>h (e.trans hk.symm))]
  ·rw [if_neg hk];by_cases h:g=k
   ·have hb:(g == k)=true:=beq_iff_eq.mpr h;simp only [List.lookup,hb,if_neg (λe:g=f=>hk (h.symm.trans e))]
   ·have hb:(g == k)=false:=beq_eq_false_iff_ne.mpr h;simp only [List.lookup,hb];exact ih
theorem yz (f:Str) (v:V):∀fs:List (Str×V),f∈(aG f v fs).map (·.1)/\∀g,g∈fs.map (·.1)->g∈(aG f v fs).map (·.1)
 | []=>⟨by simp [aG],λg h=>by simp at h⟩
 | (k,x):: r=>by
  obtain⟨i1,i2⟩:=yz f v r;rw [show aG f v ((k,x):: r)=(if k=f then(k,v):: r else(k,x):: aG f v r) from rfl];by_cases hk:k=f
  ·rw [if_pos hk];subst hk;exact⟨by simp,λg h=>by simpa using h⟩
  ·rw [if_neg hk];refine⟨?_,λg h=>?_⟩
   ·rw [map_cons];exact mem_cons_of_mem _ i1
   ·rw [map_cons] at h ⊢;rcases mem_cons.mp h with e | e
    ·exact mem_cons.mpr (.inl e)
    ·exact mem_cons_of_mem _ (i2 g e)
theorem ue (f:Str) (v:V):∀fs:List (Str×V),(aG f v fs).length<=fs.length+1
 | []=>by simp [aG]
 | (k,x):: r=>by
  have ih:=ue f v r;rw [show aG f v ((k,x):: r)=(if k=f then(k,v):: r else(k,x):: aG f v r) from rfl];by_cases hk:k=f
  ·rw [if_pos hk,length_cons,length_cons];lia
  ·rw [if_neg hk,length_cons,length_cons];lia
theorem oE.some_of {v:V} {o:Option Value} (r:oE (some v) o):∃u,o=some u/\RelV v u:=by
 cases o with
 | none=>exact(show False from r).elim
 | some u=>exact⟨u,rfl,r⟩
theorem oE.none_of {o:Option Value} (r:oE none o):o=none:=by
 cases o with
 | none=>rfl
 | some u=>exact(show False from r).elim
theorem Fz {v:V} {u:Value} (r:RelV v u):PySem.W.handedIn u=true:=by
 cases v with
 | non=>cases (show u=Value.none from r);rfl
 | bl b=>cases (show u=Value.bool b from r);rfl
 | int i=>obtain⟨t,e⟩:=(show ∃t,u=Value.int i t from r);cases e;rfl
 | str x=>obtain⟨t,e⟩:=(show ∃t,u=Value.str x t from r);cases e;rfl
 | byt b=>obtain⟨t,e⟩:=(show ∃t,u=Value.bytes b t from r);cases e;rfl
 | flt b=>obtain⟨t,e⟩:=(show ∃t,u=Value.float b t from r);cases e;rfl
 | ref a=>cases (show u=Value.ref a from r);rfl
 | ty n=>cases (show u=Value.type n from r);rfl
section
variable {P:Program} {w:World} {H H':Hp} {h h':Heap} {a C dx:Addr} {fs fs':List (Str×V)}
theorem Hf (hok:rT P w H h) (e:H a=some (.ins C dx fs)):∃mA,Mh h a dx C mA/\(∀f,oE (fs.lookup f) (mA f))/\PySem.Within mA (fs.map (·.1))/\fs.length<=1000/\H dx=some (.own a):=by obtain⟨d,z,ne,ob,mA,n,r,q⟩:=(show dg P w H h a (.ins C dx fs) from hok a _ e);exact⟨mA,⟨ob,n,ne⟩,r,q,z,d⟩
end
structure Ql (K:Fr) (C:Addr):Prop where
 pg:PySem.W.plainGet K C Str.empty=true
 hd:PySem.W.hasDictIn K C=true
 po:PySem.W.plainOver K C=true
 sa:PySem.W.findIn K (.ref C) "__setattr__" =some (some (.builtin "object.__setattr__"))
theorem Ql.get {K:Fr} {C:Addr} (c:Ql K C) (f:Str):PySem.W.plainGet K C f=true:=c.pg
noncomputable def gW (K:Fr) (C:Addr) (f:Str):Prop:=PySem.W.findIn K (.ref C) f=some none
theorem gW.taker {K:Fr} {C:Addr} {f:Str} (n:gW K C f):PySem.W.takerIn K C f=some none:=by unfold PySem.W.takerIn;rw [show PySem.W.findIn K (.ref C) f=some none from n];rfl
structure Meth (K:Fr) (C:Addr) (m:Str) (f:Addr):Prop where
 at_:PySem.W.findIn K (.ref C) m=some (some (.ref f))
 fn:PySem.W.isFn K (.ref f)=true
 kp:PySem.W.keepIn K (.ref f)=true
section
variable {X:Cx} {pins:List (Addr×Obj)} {σ:St} {H:Hp} {s:Shared} {a C dx:Addr} {fs:List (Str×V)} {f:Str} {v:V} {A:Around} {E:Value->Shared->Prop}
theorem Kz {b:Bool} {Q:Value->Shared->Prop} (I:Inv X pins σ H s) (e:H a=some (.ins C dx fs)) (c:Ql X.K C) (n:gW X.K C f) (l:fs.lookup f=some v)
  (h:∀u s',Inv X pins σ H s'->RelV v u->Q u s'):wpAny (model X.prog X.w) A (getAttr (.ref a) f b) Q E s:=by
 obtain⟨mA,O,r,_,_,_⟩:=Hf I.hok e;obtain⟨u,hu,ru⟩:=oE.some_of (v:=v) (o:=mA f) (by rw [<-l];exact r f);exact Vk I.kIn O (c.get f) c.hd n hu (Fz ru) (h u _ (I.tok _) ru)
theorem rH {m:Str} {g:Addr} {pl:Sem Bool} {Q:Value×List Value->Shared->Prop} (I:Inv X pins σ H s) (e:H a=some (.ins C dx fs)) (c:Ql X.K C) (k:Meth X.K C m g) (l:fs.lookup m=none)
  (h:Q (.ref g,[.ref a]) s):wpAny (model X.prog X.w) A (getMethod (.ref a) m pl) Q E s:=by
 obtain⟨mA,O,r,_,_,_⟩:=Hf I.hok e;have hn:mA m=none:=oE.none_of (by rw [<-l];exact r m);exact RD I.kIn O (c.get m) k.at_ k.fn hn h
theorem Le {y:V} {u:Value} {Q:Unit->Shared->Prop} (I:Inv X pins σ H s) (e:H a=some (.ins C dx fs)) (c:Ql X.K C) (n:gW X.K C f) (hl:fs.length <1000) (ry:RelV y u)
  (h:∀s',Inv X pins σ (upd H a (.ins C dx (aG f y fs))) s'->Q () s'):wpAny (model X.prog X.w) A (setAttr (.ref a) f u) Q E s:=by
 obtain⟨mA,O,r,wi,_,ho⟩:=Hf I.hok e;have hz:(fs.map (·.1)).length<=sizeLine:=by rw [length_map,sizeLine_eq];lia
 refine Vi I.kIn O c.sa c.po n.taker c.hd wi hz λh' O' sb=>h _ ?_;have hd:∃o,h'.get? dx=some o:=let ⟨o,_,_,e',_⟩:=O'.ns;⟨o,e'⟩
 refine I.write (x:=a) (e:=dx) (by rw [e];exact True.intro) (.inr ho) (λb q hb z=>(sb.2 b hb).trans z) hd ?_;refine⟨by rw [aH O.ne];exact ho,?_,O.ne,O'.obj,_,O'.ns,λg=>?_,λg hg=>?_⟩
 ·have:=ue f y fs;lia
 ·show oE ((aG f y fs).lookup g) (if g=f then some u else mA g);rw [aD];by_cases q:g=f
  ·rw [if_pos q,if_pos q];exact ry
  ·rw [if_neg q,if_neg q];exact r g
 ·by_cases q:g=f
  ·rw [q];exact(yz f y fs).1
  ·refine(yz f y fs).2 g (wi g λz=>hg ?_);show(if g=f then some u else mA g)=none;rw [if_neg q];exact z
theorem Inv.made (I:Inv X pins σ H s):Inv X pins σ (upd (upd H s.heap.objs.size (.own (s.heap.objs.size+1))) (s.heap.objs.size+1) (.ins C s.heap.objs.size []))
  { s with heap:=(s.heap.push PySem.W.emptyDict).push (PySem.W.instObj C s.heap.objs.size) }:=by
 have e1:(s.heap.push PySem.W.emptyDict).get? s.heap.objs.size=some PySem.W.emptyDict:=Heap.get?_push_size s.heap rfl;have e2:((s.heap.push PySem.W.emptyDict).push (PySem.W.instObj C s.heap.objs.size)).get? (s.heap.objs.size+1)=some (PySem.W.instObj C s.heap.objs.size):=by have:=Heap.get?_push_size (s.heap.push PySem.W.emptyDict) (o:=PySem.W.instObj C s.heap.objs.size) rfl;rwa [Heap.size_push] at this
 have e3:(s.heap.push PySem.W.emptyDict).Ns s.heap.objs.size (λ_=>none):=⟨PySem.W.emptyDict,#[],_,e1,rfl,(λe he=>absurd he (by simp)),λ_=>rfl⟩;have I1:=I.laid (a:=s.heap.objs.size) (o:=.own (s.heap.objs.size+1)) (h':=s.heap.push PySem.W.emptyDict) (t':=s.toks) (λb u q=>Heap.get?_push_of_some _ q) (le_refl _) ⟨_,e1⟩;refine I1.laid (a:=s.heap.objs.size+1) (o:=.ins C s.heap.objs.size []) (t':=s.toks) (λb u q=>Heap.get?_push_of_some _ q) (Nat.le_of_eq (Heap.size_push _ _)) ?_;have ne:s.heap.objs.size≠s.heap.objs.size+1:=ne_of_lt (Nat.lt_succ_self _);refine⟨by rw [aH ne,az],zero_le _,ne,e2,λ_=>none,(Heap.Ns1.of_empty e3).at λo q=>Heap.get?_push_of_some _ q,λ_=>True.intro,λy hy=>absurd rfl hy⟩
theorem Oq {prog:Program} {w:World} {env:Env} {e:Expr} {f:Str} {pos:Pos} {s:Shared} {Q:Value->Shared->Prop} (hb:attributeBase e f env (eval e env)=eval e env)
  (h:wpAny (model prog w) A (eval e env) (λo s₁=>wpAny (model prog w) A (getAttr o f true) Q E s₁) E s):wpAny (model prog w) A (eval (.Attribute e f pos) env) Q E s:=
 Attribute_any_ h (by rw [arm_eval_Attribute,hb])
end
inductive VG (K:Fr) (f:Str) (Q:VK) (x:V) (H1:Hp):Prop where
 | mk:∀a C dx fs v,x=.ref a->H1 a=some (.ins C dx fs)->Ql K C->gW K C f->fs.lookup f=some v->Q v H1->VG K f Q x H1
noncomputable def Xm (K:Fr) (ta:TE) (f:Str):TE:=λσ H Q=>ta σ H λx H1=>VG K f Q x H1
inductive V0 (K:Fr) (f:Str) (D:Ends) (σ:St) (y:V) (x:V) (H2:Hp):Prop where
 | mk:∀a C dx fs,x=.ref a->H2 a=some (.ins C dx fs)->Ql K C->gW K C f->fs.length <1000->D.nx σ (upd H2 a (.ins C dx (aG f y fs)))->V0 K f D σ y x H2
noncomputable def aaS (K:Fr) (ta tv:TE) (f:Str):TS:=λD σ H=>tv σ H λy H1=>ta σ H1 λx H2=>V0 K f D σ y x H2
noncomputable def aaC (X:Cx) (op:Operator) (rd:V->V->Hp->VK->Prop):Prop:=
 ∀(pins:List (Addr×Obj)) (s:Shared) (σ:St) (H:Hp) (x y:V) (u v:Value) (Q:VK),Inv X pins σ H s->RelV x u->RelV y v->rd x y H Q->wpAny (model X.prog X.w) X.A (inplaceOp op u v) (EP X pins σ Q) X.xe s
section
variable {X:Cx} {o e value:Expr} {f:Str} {pos pos' tpos:Pos} {ta tv:TE}
theorem bJ (he:PE X e ta) (hb:attributeBase e f X.env (eval e X.env)=eval e X.env):PE X (.Attribute e f pos) (Xm X.K ta f):=by intro pins s σ H Q I h;refine Oq hb (dC (he pins s σ H _ I h) λu s1 hpt=>?_);obtain⟨x,H1,I1,rx,a,C,dx,fs,v,ex,ea,c,n,l,q⟩:=hpt;subst ex;obtain rfl:u=Value.ref a:=rx;exact Kz I1 ea c n l λu' s2 I2 ru=>⟨v,H1,I2,ru,q⟩
theorem jz (ha:PE X o ta) (hv:PE X value tv) (hs:swapsWith value (some (.Attribute o f pos')) pos.line X.env=pure false):PS X (.Assign [.Attribute o f pos'] value pos) (aaS X.K ta tv f):=by intro pins s σ H D I h;refine plainObj_wpAny_Assign_Attribute (dC (hv pins s σ H _ I h) λu s1 ⟨y,H1,I1,ry,q⟩=>dC (ha pins s1 σ H1 _ I1 q) λov s2 hpt=>?_) hs;obtain⟨x,H2,I2,rx,a,C,dx,fs,ex,ea,c,n,l,q2⟩:=hpt;subst ex;obtain rfl:ov=Value.ref a:=rx;exact Le I2 ea c n l ry λs3 I3=>⟨σ,_,I3,q2⟩
end
section
variable {X:Cx} {pins:List (Addr×Obj)} {σ:St} {H:Hp} {s:Shared} {A:Around} {E:Value->Shared->Prop} {Q:Value->Shared->Prop} {c:Value} {b:Bool}
end
structure gJ (k:Nat) (A:Around):Prop where
 hd:A.handled=none
 dp:A.depth+3 * k+5 <recursionLimit
 un:A.units+16 * k+200 <cLine
theorem gJ.mono {j k:Nat} {A:Around} (r:gJ k A) (h:j<=k):gJ j A:=⟨r.hd,by have:=r.dp;lia,by have:=r.un;lia⟩
theorem gJ.deeper {k:Nat} {A:Around} (r:gJ (k+1) A) (env:Env):gJ k (A.deeper env):=
 ⟨r.hd,by have:=r.dp;show A.depth+1+3 * k+5 <_;lia,by have:=r.un;show A.units+3+16 * k+200 <_;lia⟩
theorem Lj {A:Around} {C:Addr} {us:List Value} {kw:List (Str×Value)}:(A.under (.builtin "type.__call__" ⟨.ref C:: us,kw⟩)).depth=A.depth+1:=by first | rfl | simp [Around.under,Code.weight,Code.isCreation,Code.isGuard,Code.isCaller,Code.frames,Code.isFrame,guardIds]
theorem K9 {A:Around} {C:Addr} {us:List Value} {kw:List (Str×Value)}:(A.under (.builtin "type.__call__" ⟨.ref C:: us,kw⟩)).units=A.units+1:=by first | rfl | simp [Around.under,Code.cUnits,Code.frames,Code.isFrame]
theorem gJ.make {k:Nat} {A:Around} (r:gJ (k+1) A) (C:Addr) (us:List Value) (kw:List (Str×Value)):gJ k (A.under (.builtin "type.__call__" ⟨.ref C:: us,kw⟩)):=
 ⟨r.hd,by have:=r.dp;rw [Lj];lia,by have:=r.un;rw [K9];lia⟩
theorem gJ.depth {k:Nat} {A:Around} (r:gJ k A):A.depth <recursionLimit:=by have:=r.dp;lia
theorem gJ.units {k:Nat} {A:Around} (r:gJ k A):A.units+64 <cLine:=by have:=r.un;lia
noncomputable def Lf:TA:=λ_ H Q=>Q [] H
noncomputable def Nb (ta:TE) (tr:TA):TA:=λσ H Q=>ta σ H λx H1=>tr σ H1 λxs H2=>Q (x:: xs) H2
section
variable {X:Cx} {e:Expr} {es:List Expr} {te:TE} {t:TA} {pos:Pos}
theorem ao:PA X [] Lf:=λ_ _ _ _ H Q I h=>Calls.spliced_nil ⟨[],H,I,.nil,h⟩
theorem aa (ha:PE X e te) (hr:PA X es t) (hs:starEach (e:: es) X.env=(false,eval e X.env):: starEach es X.env:=by rfl):PA X (e:: es) (Nb te t):=by intro pos pins s σ H Q I h;rw [hs];show wpAny _ _ (spliced ((false,eval e X.env):: backTo pos (starEach es X.env))) _ _ s;refine Calls.spliced_cons (dC (ha pins s σ H _ I h) λu s1 hpt=>?_);obtain⟨x,H1,I1,r1,q1⟩:=hpt;exact dC (hr pos pins s1 σ H1 _ I1 q1) λus s2 ⟨xs,H2,I2,r2,q2⟩=>⟨x:: xs,H2,I2,.cons r1 r2,q2⟩
noncomputable def aaN (t:TA):TE:=λσ H Q=>t σ H λxs H1=>xs.length<=sizeLine/\∀p,H1 p=none->Q (.ref p) (upd H1 p (.tup xs))
noncomputable def aas (t:TA):TE:=λσ H Q=>t σ H λxs H1=>xs.length<=sizeLine/\∀p,H1 p=none->Q (.ref p) (upd H1 p (.lst xs))
theorem bV {x1} (h:PA X es t):PE X (.Tuple es x1 pos) (aaN t):=by intro pins s σ H Q I hq;refine wpAny_Tuple_spliced (dC (h pos pins s σ H _ I hq) λus s1 ⟨xs,H1,I1,r,z,q⟩=>⟨by rw [<-r.length];exact z,?_⟩);have hf:H1 s1.heap.objs.size=none:=I1.hok.fresh (le_refl _);refine⟨.ref s1.heap.objs.size,upd H1 s1.heap.objs.size (.tup xs),I1.laid (t':=s1.toks) (λb u e=>Heap.get?_push_of_some _ e) (le_refl _) ?_,Z,q _ hf⟩;exact⟨z,us,r,⟨_,Heap.get?_push_size _ Z,Z,_,Z⟩⟩
theorem bj (h:PA X es t):PE X (.List es pos) (aas t):=by intro pins s σ H Q I hq;refine wpAny_List_spliced (dC (h pos pins s σ H _ I hq) λus s1 ⟨xs,H1,I1,r,z,q⟩=>⟨by rw [<-r.length];exact z,?_⟩);have hf:H1 s1.heap.objs.size=none:=I1.hok.fresh (le_refl _);refine⟨.ref s1.heap.objs.size,upd H1 s1.heap.objs.size (.lst xs),I1.laid (t':=s1.toks) (λb u e=>Heap.get?_push_of_some _ e) (le_refl _) ?_,Z,q _ hf⟩;exact⟨z,us,0,r,Heap.get?_push_size _ Z⟩
end
noncomputable abbrev Sp:=List V->Hp->VK->XK->Prop
noncomputable abbrev Dp:=List Env->Hp->Shared->XK->Value->Shared->Prop
structure Kw (P:Program) (w:World) (K:Fr) (mg:Str->Option Value) (base:Heap) (A:Around) (outer:List Env) (s:Shared) (H:Hp):Prop where
 frames:A.frames=some outer
 mod:Mod K mg base
 bs:∀b o,base.get? b=some o->s.heap.get? b=some o/\H b=none
 bsz:base.objs.size<=s.heap.objs.size
 funs:s.heap.FunFrames base outer
 frf:∀b∈frs outer,H b=none
 hok:rT P w H s.heap
 bare:AllBare s.gens
noncomputable def CE (outer:List Env) (P:Program) (w:World) (H:Hp) (s:Shared) (Q:VK) (u:Value) (s':Shared):Prop:=
 ∃v H',s'.os=s.os/\AllBare s'.gens/\Un (frs outer) [] H H' s.heap s'.heap/\rT P w H' s'.heap/\RelV v u/\Q v H'
noncomputable def CR (CX:Dp) (outer:List Env) (P:Program) (w:World) (H:Hp) (s:Shared) (Q:VK) (E:XK) (r:Result) (s':Shared):Prop:=
 match r with
 | .ok (.ret u)=>CE outer P w H s Q u s'
 | .ok _=>False
 | .error e=>CX outer H s E e s'
structure fY (P:Program) (w:World) (K:Fr) (mg:Str->Option Value) (base:Heap) (CX:Dp) (k:Nat) (f:Addr) (fd:FuncData) (ps:List Str) (sp:Sp):Prop where
 len:∀vs H Q E,sp vs H Q E->vs.length=ps.length
 run:∀(A:Around) (outer:List Env) (s:Shared) (H:Hp) (args:Args) (us:List Value) (vs:List V) (Q:VK) (E:XK),gJ k A->Kw P w K mg base A outer s H->BindsTo s fd args (ps.zip us)->Vals vs us->sp vs H Q E->
  codeAny (model P w) A (.call (.ref f) args) (CR CX outer P w H s Q E) s
theorem fY.mono {P:Program} {w:World} {K:Fr} {mg:Str->Option Value} {base:Heap} {CX:Dp} {j k:Nat} {f:Addr} {fd:FuncData} {ps:List Str} {sp:Sp} (F:fY P w K mg base CX j f fd ps sp) (h:j<=k):
  fY P w K mg base CX k f fd ps sp:=⟨F.len,λA outer s H args us vs Q E hr=>F.run A outer s H args us vs Q E (hr.mono h)⟩
theorem fY.imp {P:Program} {w:World} {K:Fr} {mg:Str->Option Value} {base:Heap} {CX:Dp} {k:Nat} {f:Addr} {fd:FuncData} {ps:List Str} {sp sp':Sp} (F:fY P w K mg base CX k f fd ps sp)
  (h:∀vs H Q E,sp' vs H Q E->sp vs H Q E):fY P w K mg base CX k f fd ps sp':=
 ⟨λvs H Q E q=>F.len vs H Q E (h _ _ _ _ q),λA outer s H args us vs Q E hr he hb hv hs=>F.run A outer s H args us vs Q E hr he hb hv (h _ _ _ _ hs)⟩
theorem Kw.make {P:Program} {w:World} {K:Fr} {mg:Str->Option Value} {base:Heap} {A:Around} {outer:List Env} {s:Shared} {H:Hp} (e:Kw P w K mg base A outer s H) (C:Addr) (us:List Value) (kw:List (Str×Value)):
  Kw P w K mg base (A.under (.builtin "type.__call__" ⟨.ref C:: us,kw⟩)) outer s H:=⟨by first | exact e.frames | (simpa [Around.under,Code.envs,Code.isFrame,pushEnvs] using e.frames),e.mod,e.bs,e.bsz,e.funs,e.frf,e.hok,e.bare⟩
section
variable {X:Cx} {pins:List (Addr×Obj)} {σ:St} {H:Hp} {s s':Shared}
theorem Inv.env0 (I:Inv X pins σ H s):Kw X.prog X.w X.K X.mg X.base X.A X.stack s H:=
 ⟨I.ok.frames,I.ok.mod,I.bs,le_trans I.ok.bsz I.sz,I.stack,I.stkFree,I.hok,I.bare⟩
theorem Inv.after {Q:VK} {u:Value} (I:Inv X pins σ H s) (h:CE X.stack X.prog X.w H s Q u s'):EP X pins σ Q u s':=by obtain⟨v,H',os,bare,un,hok,r,q⟩:=h;obtain⟨hh,g,d,t,os'⟩:=s';obtain rfl:os'=s.os:=os;exact⟨v,H',I.call (h':=hh) (g':=g) (d':=d) (t':=t) (ch:=[]) un hok bare (λb z=>absurd z (by simp)),r,q⟩
end
noncomputable def Wd (sp:Sp) (dvs:List V) (E:XK) (t:TA):TE:=λσ H Q=>t σ H λvs H1=>sp (vs ++ dvs) H1 Q E
inductive Sq (C:Addr) (m:Str) (sp:Sp) (dvs:List V) (E:XK) (t:TA) (σ:St) (Q:VK) (x:V) (H1:Hp):Prop where
 | mk:∀a dx fs,x=.ref a->H1 a=some (.ins C dx fs)->fs.lookup m=none->(t σ H1 λvs H2=>sp (x:: (vs ++ dvs)) H2 Q E)->Sq C m sp dvs E t σ Q x H1
noncomputable def Gm (C:Addr) (m:Str) (sp:Sp) (dvs:List V) (E:XK) (ta:TE) (t:TA):TE:=λσ H Q=>ta σ H λx H1=>Sq C m sp dvs E t σ Q x H1
noncomputable def YC (C:Addr) (sp:Sp) (dvs:List V) (E:XK) (t:TA):TE:=λσ H Q=>t σ H λvs H1=>∀x dx,H1 x=none->H1 dx=none->dx≠x->
 sp (.ref x:: (vs ++ dvs)) (upd (upd H1 dx (.own x)) x (.ins C dx [])) (λv H2=>v=.non/\Q (.ref x) H2) E
noncomputable def Binds (K:Fr) (fd:FuncData) (ps:List Str) (ds:List Value):Prop:=
 ∀(s:Shared) (us:List Value),K.In s.heap->(us ++ ds).length=ps.length->BindsTo s fd ⟨us,[]⟩ (ps.zip (us ++ ds))
theorem Binds.all {K:Fr} {fd:FuncData} {ps:List Str} (h:∀us:List Value,us.length=ps.length->bindArgs fd ⟨us,[]⟩=pure (ps.zip us)):Binds K fd ps []:=λs us _ hl=>by rw [append_nil] at hl ⊢;exact .of_eq (h us hl)
noncomputable def j7 (CX:Dp) (X:Cx) (E:XK):Prop:=∀(pins:List (Addr×Obj)) (σ:St) (H:Hp) (s:Shared) (e:Value) (s':Shared),Inv X pins σ H s->CX X.stack H s E e s'->X.xe e s'
section
variable {X:Cx} {CX:Dp} {k:Nat} {f C:Addr} {fd:FuncData} {ps:List Str} {sp:Sp} {dvs:List V} {ds:List Value} {E:XK} {x m:Str} {p pos apos:Pos} {e o:Expr} {es:List Expr} {ta:TE} {t:TA}
theorem Bw {pins:List (Addr×Obj)} {σ:St} {H:Hp} {s:Shared} {Q:VK} {us:List Value} {vs:List V} (F:fY X.prog X.w X.K X.mg X.base CX k f fd ps sp) (hr:gJ k X.A) (hb:Binds X.K fd ps ds) (hd:Vals dvs ds) (hx:j7 CX X E)
  (I:Inv X pins σ H s) (r:Vals vs us) (h:sp (vs ++ dvs) H Q E):wpAny (model X.prog X.w) X.A (call (.ref f) us) (EP X pins σ Q) X.xe s:=by
 have r2:Vals (vs ++ dvs) (us ++ ds):=r.append hd;have hl:(us ++ ds).length=ps.length:=by rw [<-r2.length];exact F.len _ _ _ _ h
 refine wpAny_call (codeAny_mono (F.run X.A X.stack s H ⟨us,[]⟩ (us ++ ds) (vs ++ dvs) Q E hr I.env0 (hb s us I.kIn hl) r2 h) λr s' hq=>?_);cases r with
 | error e=>exact hx pins σ H s e s' I hq
 | ok fl=>
  cases fl with
  | ret u=>exact I.after hq
  | next=>exact False.elim hq
  | brk=>exact False.elim hq
  | cont=>exact False.elim hq
theorem MT (F:fY X.prog X.w X.K X.mg X.base CX k f fd ps sp) (hr:gJ k X.A) (hg:Gl X x) (hm:X.mg x=some (.ref f)) (hk:PySem.W.keepIn X.K (.ref f)=true) (hb:Binds X.K fd ps ds) (hd:Vals dvs ds) (hx:j7 CX X E)
  (ha:PA X (e:: es) t) (hdb:(x == ("__debug__" :Str))=false:=by decide) (he:starEach (e:: es) X.env=(false,eval e X.env):: starEach es X.env:=by rfl) (hpl:(backTo pos (starEach es X.env)).any (·.1)=false:=by rfl):
  PE X (.Call (.Name x p) (e:: es) [] pos) (Wd sp dvs E t):=by
 intro pins s σ H Q I h;refine wpAny_Call_Name_kw (qX I hg hm ?_ hdb);refine PySem.W.callWith_K (h₀:=X.base) I.ok.mod.kin hk (dC (ha pos pins s σ H _ I h) λus s1 ⟨vs,H1,I1,r,q⟩=>⟨I1.kIn,?_⟩) he hpl;exact Bw F hr hb hd hx I1 r q
theorem VD {pl:Sem Bool} (he:PE X o ta) (c:Ql X.K C) (hm:Meth X.K C m f) (F:fY X.prog X.w X.K X.mg X.base CX k f fd ps sp) (hr:gJ k X.A) (hb:Binds X.K fd ps ds) (hd:Vals dvs ds) (hx:j7 CX X E) (ha:PA X (e:: es) t)
  (hst:starEach (e:: es) X.env=(false,eval e X.env):: starEach es X.env:=by rfl) (hpl:(backTo pos (starEach es X.env)).any (·.1)=false:=by rfl)
  (ht:eval (.Call (.Attribute o m apos) (e:: es) [] pos) X.env=(do
   let ov <-eval o X.env
   standAt apos.atName
   let (f,first) <-holding [ov] (getMethod ov m pl)
   callWith pos f first (backTo pos (starEach (e:: es) X.env)) (backToKw pos (keywordEach [] X.env))):=by rfl):
  PE X (.Call (.Attribute o m apos) (e:: es) [] pos) (Gm C m sp dvs E ta t):=by
 intro pins s σ H Q I h;refine PySem.W.methodCall_KW (pl:=pl) (dC (he pins s σ H _ I h) λu s1 hpt=>?_) ht;obtain⟨x,H1,I1,rx,a,dx,fs,ex,ea,l,q⟩:=hpt;subst ex;obtain rfl:u=Value.ref a:=rx;refine rH I1 ea c hm l ?_;refine PySem.W.callWith_K (first:=[.ref a]) (h₀:=X.base) I.ok.mod.kin hm.kp (dC (ha pos pins s1 σ H1 _ I1 q) λus s2 ⟨vs,H2,I2,r,q2⟩=>⟨I2.kIn,?_⟩) hst hpl;exact Bw (us:=.ref a:: us) (vs:=.ref a:: vs) F hr hb hd hx I2 (.cons Z r) q2
theorem Tt {pl:Sem Bool} (he:PE X o ta) (c:Ql X.K C) (hm:Meth X.K C m f) (F:fY X.prog X.w X.K X.mg X.base CX k f fd ps sp) (hr:gJ k X.A) (hb:Binds X.K fd ps ds) (hd:Vals dvs ds) (hx:j7 CX X E)
  (ht:eval (.Call (.Attribute o m apos) [] [] pos) X.env=(do
   let ov <-eval o X.env
   standAt apos.atName
   let (f,first) <-holding [ov] (getMethod ov m pl)
   callWith pos f first (backTo pos (starEach [] X.env)) (backToKw pos (keywordEach [] X.env))):=by rfl):
  PE X (.Call (.Attribute o m apos) [] [] pos) (Gm C m sp dvs E ta Lf):=by
 intro pins s σ H Q I h;refine PySem.W.methodCall_KW (pl:=pl) (dC (he pins s σ H _ I h) λu s1 hpt=>?_) ht;obtain⟨x,H1,I1,rx,a,dx,fs,ex,ea,l,q⟩:=hpt;subst ex;obtain rfl:u=Value.ref a:=rx;refine rH I1 ea c hm l ?_;exact PySem.W.callWith_K0 (first:=[.ref a]) I1.kIn hm.kp (Bw (us:=[.ref a]) (vs:=[.ref a]) F hr hb hd hx I1 (.cons Z .nil) q)
structure Mk (K:Fr) (C f:Addr):Prop where
 makes:PySem.W.makesIn K C=true
 init:PySem.W.findIn K (.ref C) "__init__" =some (some (.ref f))
 fn:PySem.W.isFn K (.ref f)=true
 kp:PySem.W.keepIn K (.ref C)=true
theorem QH {pins:List (Addr×Obj)} {σ:St} {H:Hp} {s:Shared} {Q:VK} {us:List Value} {vs:List V} (M:Mk X.K C f) (F:fY X.prog X.w X.K X.mg X.base CX k f fd ps sp) (hr:gJ (k+1) X.A) (hb:Binds X.K fd ps ds) (hd:Vals dvs ds)
  (hx:j7 CX X E) (I:Inv X pins σ H s) (r:Vals vs us)
  (h:∀x dx,H x=none->H dx=none->dx≠x->sp (.ref x:: (vs ++ dvs)) (upd (upd H dx (.own x)) x (.ins C dx [])) (λv H2=>v=.non/\Q (.ref x) H2) E):
  wpAny (model X.prog X.w) X.A (call (.ref C) us) (EP X pins σ Q) X.xe s:=by
 have hq:=h (s.heap.objs.size+1) s.heap.objs.size (I.hok.fresh (le_succ _)) (I.hok.fresh (le_refl _)) (ne_of_lt (Nat.lt_succ_self _));have I2:=Inv.made (C:=C) I;have r2:Vals (V.ref (s.heap.objs.size+1):: (vs ++ dvs)) (Value.ref (s.heap.objs.size+1):: (us ++ ds)):=.cons rfl (r.append hd);have hl:(Value.ref (s.heap.objs.size+1):: us ++ ds).length=ps.length:=by have e:=r2.length;rw [F.len _ _ _ _ hq] at e;exact e.symm
 refine wpAny_call (SM (f:=f) I.kIn M.makes M.init (beq_iff_eq.mp M.fn) (codeAny_mono (F.run _ X.stack _ _ ⟨Value.ref (s.heap.objs.size+1):: us,[]⟩ (Value.ref (s.heap.objs.size+1):: (us ++ ds)) _ _ E (hr.make C us [])
  (I2.env0.make C us []) (hb _ (Value.ref (s.heap.objs.size+1):: us) I2.kIn hl) r2 hq) λr s' hq'=>?_))
 cases r with
 | error e=>exact hx pins σ _ _ e s' I2 hq'
 | ok fl=>
  cases fl with
  | ret u=>
   obtain⟨v,H',I3,rv,ev,q3⟩:=I2.after hq';subst ev;exact⟨rv,⟨V.ref (s.heap.objs.size+1),H',I3,Z,q3⟩⟩
  | next=>exact False.elim hq'
  | brk=>exact False.elim hq'
  | cont=>exact False.elim hq'
theorem iT (M:Mk X.K C f) (F:fY X.prog X.w X.K X.mg X.base CX k f fd ps sp) (hr:gJ (k+1) X.A) (hg:Gl X x) (hm:X.mg x=some (.ref C)) (hb:Binds X.K fd ps ds) (hd:Vals dvs ds) (hx:j7 CX X E)
  (ha:PA X (e:: es) t) (hdb:(x == ("__debug__" :Str))=false:=by decide) (he:starEach (e:: es) X.env=(false,eval e X.env):: starEach es X.env:=by rfl) (hpl:(backTo pos (starEach es X.env)).any (·.1)=false:=by rfl):
  PE X (.Call (.Name x p) (e:: es) [] pos) (YC C sp dvs E t):=by
 intro pins s σ H Q I h;refine wpAny_Call_Name_kw (qX I hg hm ?_ hdb);refine PySem.W.callWith_K (h₀:=X.base) I.ok.mod.kin M.kp (dC (ha pos pins s σ H _ I h) λus s1 ⟨vs,H1,I1,r,q⟩=>⟨I1.kIn,?_⟩) he hpl;exact QH M F hr hb hd hx I1 r q
end
section
variable {X:Cx} {CX:Dp} {k:Nat} {f C:Addr} {fd:FuncData} {ps ks:List Str} {sp:Sp} {E:XK} {x m:Str} {p pos apos kpos:Pos} {e o:Expr} {es:List Expr} {kws:List Keyword} {te ta:TE} {t tk:TA} {nm:Option Str}
variable {g:List Value->List Value->List Value} {gV:List V->List V->List V}
end
structure gj (N P:List Str) (sc:Scope):Prop where
 kind:sc.kind=.function
 co:sc.isCoroutine=false
 gen:sc.isGenerator=false
 nd:N.Nodup
 pre:N.take P.length=P
 par:∀x∈P,sc.names.lookup x=some .local∨sc.names.lookup x=some .cell
 nofree:∀y∈sc.names,y.2≠.free
theorem Er {kindOf:Str->Option NameKind} {x:Str}:∀{binds:List (Str×Value)} {m:Str->Option Value},(∀v,(x,v)∉binds)->bindL kindOf binds m x=m x
 | [],_,_=>rfl
 | (n,v):: r,m,h=>by
  unfold bindL;rw [Er λw hw=>h w (mem_cons_of_mem _ hw)];split
  ·have:x≠n:=by rintro rfl;exact h v mem_cons_self
   simp [this]
  ·rfl
theorem Fg {kindOf:Str->Option NameKind} {x:Str}:∀{binds:List (Str×Value)} {m:Str->Option Value},(∀v,(x,v)∉binds)->bindC kindOf binds m x=m x
 | [],_,_=>rfl
 | (n,v):: r,m,h=>by
  unfold bindC;rw [Fg λw hw=>h w (mem_cons_of_mem _ hw)];split
  ·rfl
  ·have:x≠n:=by rintro rfl;exact h v mem_cons_self
   simp [this]
theorem Gj {kindOf:Str->Option NameKind} {x:Str} {v:Value}:∀{P:List Str} {vs:List Value} {i:Nat} {m:Str->Option Value},P.Nodup->P[i]?=some x->vs[i]?=some v->kindOf x=some .local->
  bindL kindOf (P.zip vs) m x=some v
 | [],_,_,_,_,h,_,_=>by simp at h
 | _:: _,[],_,_,_,_,h,_=>by simp at h
 | p:: P,w:: vs,0,m,nd,h1,h2,hk=>by simp at h1 h2;subst h1;subst h2;show bindL kindOf ((p,w):: P.zip vs) m p=_;unfold bindL;rw [Er λv hv=>(nodup_cons.mp nd).1 (List.of_mem_zip hv).1,if_pos hk];simp
 | p:: P,w:: vs,i+1,m,nd,h1,h2,hk=>by show bindL kindOf ((p,w):: P.zip vs) m x=_;unfold bindL;exact Gj (i:=i) (nodup_cons.mp nd).2 (by simpa using h1) (by simpa using h2) hk
theorem Fb {kindOf:Str->Option NameKind} {x:Str} {v:Value}:∀{P:List Str} {vs:List Value} {i:Nat} {m:Str->Option Value},P.Nodup->P[i]?=some x->vs[i]?=some v->kindOf x≠some .local->
  bindC kindOf (P.zip vs) m x=some v
 | [],_,_,_,_,h,_,_=>by simp at h
 | _:: _,[],_,_,_,_,h,_=>by simp at h
 | p:: P,w:: vs,0,m,nd,h1,h2,hk=>by simp at h1 h2;subst h1;subst h2;show bindC kindOf ((p,w):: P.zip vs) m p=_;unfold bindC;rw [Fg λv hv=>(nodup_cons.mp nd).1 (List.of_mem_zip hv).1,if_neg hk];simp
 | p:: P,w:: vs,i+1,m,nd,h1,h2,hk=>by show bindC kindOf ((p,w):: P.zip vs) m x=_;unfold bindC;exact Fb (i:=i) (nodup_cons.mp nd).2 (by simpa using h1) (by simpa using h2) hk
noncomputable def start (N:List Str) (vs:List V):St:=vs.map some ++ List.replicate (N.length - vs.length) none
noncomputable def jg (CX:Dp) (P:Program) (w:World) (K:Fr) (mg:Str->Option Value) (base:Heap) (N:List Str) (qual:Str) (scope:Scope) (f:Addr) (cd:Value) (A:Around) (outer:List Env) (s:Shared) (H:Hp) (E:XK):Cx where
 prog:=P
 w:=w
 K:=K
 mg:=mg
 base:=base
 A:=A.deeper (envOfC qual scope s.heap.objs.size f cd)
 N:=N
 s₀:=s
 H₀:=H
 env:=envOfC qual scope s.heap.objs.size f cd
 outer:=outer
 stack:=envOfC qual scope s.heap.objs.size f cd:: outer
 ex:=[]
 calm:=true
 fn:=λ_=>true
 pn:=[]
 xe:=λe s'=>wpAny (model P w) (A.deeper (envOfC qual scope s.heap.objs.size f cd)) (leaving (envOfC qual scope s.heap.objs.size f cd) e) (λ_ s''=>CX outer H s E e s'') (λe' s''=>CX outer H s E e' s'') s'
theorem JX {sc:Scope} {n:Nat} {x:Str} (h:sc.names.lookup x=some .cell):∃c,(cellsFrom n sc.names []).lookup x=some c:=by have q:=PySem.W.cellsFrom_some sc.names n [] (.inl h);exact isSome_iff_exists.mp q
theorem Qc {CX:Dp} {P:Program} {w:World} {K:Fr} {mg:Str->Option Value} {base:Heap} {N ps:List Str} {qual:Str} {scope:Scope} {f:Addr} {cd:Value} {A:Around} {outer:List Env} {s s1:Shared} {H:Hp} {E:XK} {us:List Value} {vs:List V}
  (S:gj N ps scope) (hd:A.handled=none) (e0:Kw P w K mg base A outer s H) (hl:vs.length=ps.length) (r:Vals vs us)
  (x:InCallC s s.heap.objs.size (bindL (envOfC qual scope s.heap.objs.size f cd).kindOf (ps.zip us) λ_=>none) (cellsFrom (s.heap.objs.size+1) scope.names []) (bindC (envOfC qual scope s.heap.objs.size f cd).kindOf (ps.zip us) λ_=>none) s1):
  Inv (jg CX P w K mg base N qual scope f cd A outer s H E) [] (start N vs) H s1:=by
 have hpl:ps.length<=N.length:=by have:=congrArg List.length S.pre;rw [length_take] at this;lia
 obtain⟨h1,tk,rfl,hk⟩:=x.done;have noA:∀b:Addr,b∉(jg CX P w K mg base N qual scope f cd A outer s H E).ex:=λb z=>absurd (show b∈([]:List Addr) from z) (by simp);refine⟨⟨e0.mod,S.kind,Z,Z,le_refl _,λy z c h1 h2=>?_,λy hy=>?_,λy c _ h=>?_,λ_=>hd,Around.frames_deeper e0.frames,.inr ⟨Z,Z⟩,λb z=>absurd z (noA b),e0.bs,e0.bsz,λb _ _=>noA b,λb z=>absurd z (noA b),e0.funs,e0.frf⟩,
  rfl,e0.bare,Un.kept hk,⟨_,x.toInCall.ns,λi y v h1 h2 h3=>?_⟩,λy c h=>⟨_,x.cell y c h⟩,e0.hok.fresh (le_refl _),λy c h=>?_,λp hp=>absurd (show p∈([]:List (Addr×Obj)) from hp) (by simp),e0.hok.kept hk,?_⟩
 ·exact name_of_addr x.apart (PySem.mem_of_lookup h1) (PySem.mem_of_lookup h2)
 ·have hy:scope.names.lookup y=some .cell∨scope.names.lookup y=some .free:=hy;rcases hy with hy | hy
  ·exact JX hy
  ·exact absurd Z (S.nofree _ (PySem.mem_of_lookup hy))
 ·exact le_of_lt (x.above y c (PySem.mem_of_lookup h))
 ·have hi:i <vs.length:=by
   unfold start at h2;by_cases hi:i <vs.length
   ·exact hi
   ·rw [List.getElem?_append_right (by simpa using hi)] at h2;rw [List.getElem?_replicate] at h2;split at h2 <;> cases h2
  have ha:vs[i]?=some v:=by
   unfold start at h2;rw [List.getElem?_append_left (by simpa using hi),getElem?_map] at h2;cases e:vs[i]? with
   | none=>rw [e] at h2;cases h2
   | some a=>rw [e] at h2;cases h2;rfl
  obtain⟨u,hu,rv⟩:=r.get ha;have hp:ps[i]?=some y:=by rw [<-S.pre,List.getElem?_take_of_lt (by lia)];exact h1
  have ndP:ps.Nodup:=by rw [<-S.pre];exact S.nd.sublist (List.take_sublist _ _)
  refine⟨u,rv,?_⟩;rcases S.par y (mem_of_getElem? hp) with k | k
  ·exact .inl ⟨k,Gj ndP hp hu k⟩
  ·obtain⟨c,e⟩:=JX (n:=s.heap.objs.size+1) k;refine .inr ⟨.inl k,c,e,?_⟩;have q:=x.cell y c e;rw [Fb ndP hp hu (by show scope.names.lookup y≠_;rw [k];decide)] at q;exact q
 ·exact e0.hok.fresh (le_of_lt (x.above y c (PySem.mem_of_lookup h)))
 ·unfold start;show _=N.length;rw [length_append,length_map,List.length_replicate]
  lia
theorem Wh {CX:Dp} {P:Program} {w:World} {K:Fr} {mg:Str->Option Value} {base:Heap} {k:Nat} {f:Addr} {name qual:Str} {params:Arguments} {body:List Stmt} {scope:Scope} {dV kV doc pm cdv ct oc:Value} {an od:Option Addr}
  {osl:Array (Option Value)} {N ps:List Str} {sp:Sp} (lk:K.lookup f=some ⟨oc,od,.func (PySem.W.fnOf name qual params body scope dV kV doc pm an cdv ct),osl⟩) (hcd:PySem.W.codeIn K cdv qual=true) (S:gj N ps scope)
  (len:∀vs H Q E,sp vs H Q E->vs.length=ps.length)
  (hbody:∀(A:Around) (outer:List Env) (s:Shared) (H:Hp) (vs:List V) (Q:VK) (E:XK),gJ k (A.deeper (envOfC qual scope s.heap.objs.size f cdv))->sp vs H Q E->
   ∃t,Ku (jg CX P w K mg base N qual scope f cdv A outer s H E) body t/\t { nx:=λ_ H'=>Q .non H',rt:=Q } (start N vs) H):
  fY P w K mg base CX (k+1) f (PySem.W.fnOf name qual params body scope dV kV doc pm an cdv ct) ps sp:=by
 refine⟨len,λA outer s H args us vs Q E hr e0 hb r hsp=>?_⟩;have hl:=len _ _ _ _ hsp;have KX:K.In s.heap:=e0.mod.kin.keeps λb o e=>(e0.bs b o e).1;have lim:s.heap.NoLimit:=e0.mod.nolimit.keeps λb o e=>(e0.bs b o e).1;have hkind:∀y∈ps.zip us,scope.names.lookup y.1=some .local∨(scope.names.lookup y.1=some .cell/\((cellsFrom (s.heap.objs.size+1) scope.names []).lookup y.1).isSome=true):=λ⟨n,v⟩ hy=>by
  rcases S.par n (List.of_mem_zip hy).1 with q | q
  ·exact .inl q
  ·exact .inr ⟨q,PySem.W.cellsFrom_some _ _ _ (.inl q)⟩
 refine codeAny_call_function hr.depth (KX _ _ lk) Z S.co S.gen Z (PySem.W.codeRec_of KX hcd) (hb _ _ _ _ ?_);refine wpAny_newFunctionEnv_cells S.kind hkind λenv he s1 x=>?_;subst he;refine⟨lim.keeps x.toInCall.keep,codeAny_func ?_⟩;obtain⟨t,ht,hq⟩:=hbody A outer s H vs Q E (hr.deeper _) hsp;have I:Inv (jg CX P w K mg base N qual scope f cdv A outer s H E) [] (start N vs) H s1:=Qc S hr.hd e0 hl r x;refine wpAny_mono (ht [] s1 (start N vs) H _ I hq) (λfl s' hs=>?_) λe s' hs=>hs;have fin:∀{σ':St} {H':Hp} {v:V} {u:Value},Inv (jg CX P w K mg base N qual scope f cdv A outer s H E) [] σ' H' s'->RelV v u->Q v H'->CE outer P w H s Q u s':=
  λ{σ' H' v u} J rv q=>⟨v,H',J.os,J.bare,J.base,J.hok,rv,q⟩
 cases fl with
 | ret u=>
  obtain⟨v,σ',H',J,rv,q⟩:=hs;exact fin J rv q
 | next=>
  obtain⟨σ',H',J,q⟩:=hs;exact fin (v:=V.non) (u:=Value.none) J Z q
 | brk=>
  obtain⟨_,_,_,q⟩:=hs;exact False.elim q
 | cont=>
  obtain⟨_,_,_,q⟩:=hs;exact False.elim q
section
variable {X:Cx} {x:Str} {p pos:Pos} {e:Expr} {es:List Expr} {t:TA} {id T:String} {r:List V->Hp->VK->Prop}
noncomputable def tCB (r:List V->Hp->VK->Prop) (t:TA):TE:=λσ H Q=>t σ H λvs H1=>r vs H1 Q
theorem aY (hc:jj X (.builtin id) r) (hg:Gl X x) (hm:X.mg x=none) (hv:bootBuiltins x=some (.builtin id)) (ha:PA X (e:: es) t) (hn:x≠ "__name__" :=by decide) (hdb:(x == ("__debug__" :Str))=false:=by decide)
  (he:starEach (e:: es) X.env=(false,eval e X.env):: starEach es X.env:=by rfl) (hpl:(backTo pos (starEach es X.env)).any (·.1)=false:=by rfl):PE X (.Call (.Name x p) (e:: es) [] pos) (tCB r t):=by
 intro pins s σ H Q I h;refine wpAny_Call_Name_kw (GF I hg hm hv ?_ hn hdb);exact PyProof.Rows.callWith_builtin1 (dC (ha pos pins s σ H _ I h) λus s1 ⟨vs,H1,I1,r1,q1⟩=>hc pins s1 σ H1 vs us Q I1 r1 q1) he hpl
theorem dM (hc:jj X (.type T) r) (hg:Gl X x) (hm:X.mg x=none) (hv:bootBuiltins x=some (.type T)) (ha:PA X (e:: es) t) (hn:x≠ "__name__" :=by decide) (hdb:(x == ("__debug__" :Str))=false:=by decide)
  (he:starEach (e:: es) X.env=(false,eval e X.env):: starEach es X.env:=by rfl) (hpl:(backTo pos (starEach es X.env)).any (·.1)=false:=by rfl):PE X (.Call (.Name x p) (e:: es) [] pos) (tCB r t):=by
 intro pins s σ H Q I h;refine wpAny_Call_Name_kw (GF I hg hm hv ?_ hn hdb);exact PyProof.Rows.callWith_type1 (dC (ha pos pins s σ H _ I h) λus s1 ⟨vs,H1,I1,r1,q1⟩=>hc pins s1 σ H1 vs us Q I1 r1 q1) he hpl
end
end L2
namespace HT
open PySem PyProof.Rows
section
open PySem.SeqAt
open PySem.AutoSeq1 (wpAny_loadPart')
open PySem.MeetsSeq PySem.MeetsSeq2 PySem.MeetsSeq3
end
section
variable {prog:Program} {w:World} {A:Around} {E:Value->Shared->Prop} {s:Shared}
noncomputable def Ks (n d:Nat):Option Int->Nat
 | none=>d
 | some v=>if v <0 then(v+(n:Int)).toNat else min v.toNat n
theorem Jz (n d:Nat):Ks n d none=d:=rfl
theorem Nh (n d k:Nat):Ks n d (some (k:Int))=min k n:=by show(if (k:Int) <0 then((k:Int)+(n:Int)).toNat else min (k:Int).toNat n)=min k n;rw [if_neg (by lia),toNat_natCast]
end
end HT
namespace L2
open PySem PySem.Spec PyProof.Rows
noncomputable abbrev TO:=St->Hp->(Option Int->Hp->Prop)->Prop
noncomputable def PO (X:Cx) (e:Option Expr) (t:TO):Prop:=
 ∀(pins:List (Addr×Obj)) (s:Shared) (σ:St) (H:Hp) (Q:Option Int->Hp->Prop),Inv X pins σ H s->t σ H Q->
  wpAny (model X.prog X.w) X.A (evalPart e X.env) (λu s'=>∃o H',Inv X pins σ H' s'/\IsPart u o/\Q o H') X.xe s
noncomputable def Vn:TO:=λ_ H Q=>Q none H
inductive Sx (Q:Option Int->Hp->Prop) (x:V) (H1:Hp):Prop where
 | mk:∀i,x=.int i->Q (some i) H1->Sx Q x H1
noncomputable def ZM (t:TE):TO:=λσ H Q=>t σ H λx H1=>Sx Q x H1
section
variable {X:Cx} {e:Expr} {te:TE} {lo hi:Option Expr} {tl th:TO} {pos p2:Pos}
theorem uP:PO X none Vn:=by intro pins s σ H Q I h;rw [evalPart_none];exact wpAny_pure ⟨none,H,I,.none,h⟩
theorem uV (h:PE X e te):PO X (some e) (ZM te):=by intro pins s σ H Q I hw;rw [evalPart_some];refine dC (h pins s σ H _ I hw) λu s1 hpt=>?_;obtain⟨x,H1,I1,r1,q1⟩:=hpt;obtain⟨i,rfl,q⟩:=q1;obtain⟨t,rfl⟩:=r1;exact⟨some i,H1,I1,.int i t,q⟩
noncomputable def SlR (X:Cx) (r:V->Option Int->Option Int->Hp->VK->Prop):Prop:=
 ∀(pins:List (Addr×Obj)) (s:Shared) (σ:St) (H:Hp) (x:V) (v vl vu:Value) (lo hi:Option Int) (sl:Addr) (Q:VK),Inv X pins σ H s->RelV x v->s.heap.IsSliceOf sl vl vu .none->IsPart vl lo->IsPart vu hi->r x lo hi H Q->
  ∃T id,typeLookup (.type T) "__getitem__" =pure (some (.builtin id))/\s.TypeIs v T/\wpAny (model X.prog X.w) X.A (getItem v (.ref sl)) (EP X pins σ Q) X.xe s
noncomputable def tSl (r:V->Option Int->Option Int->Hp->VK->Prop) (te:TE) (tl th:TO):TE:=λσ H Q=>te σ H λx H1=>tl σ H1 λl H2=>th σ H2 λu H3=>r x l u H3 Q
theorem qm {r:V->Option Int->Option Int->Hp->VK->Prop} (hr:SlR X r) (he:PE X e te) (hl:PO X lo tl) (hu:PO X hi th):PE X (.Subscript e (.Slice lo hi none p2) pos) (tSl r te tl th):=by intro pins s σ H Q I h;refine Subscript_ (dC (he pins s σ H _ I h) λv s1 hpt=>?_);obtain⟨x,H1,I1,r1,q1⟩:=hpt;refine wpAny_Slice (dC (hl pins s1 σ H1 _ I1 q1) λvl s2 ⟨l,H2,I2,pl,q2⟩=>dC (hu pins s2 σ H2 _ I2 q2) λvu s3 hpt=>?_);obtain⟨u,H3,I3,pu,q3⟩:=hpt;rw [evalPart_none];refine wpAny_pure ?_;have I4:Inv X pins σ H3 { s3 with heap:=s3.heap.push { cls:=.type "slice",data:=.fields #[vl,vu,.none] } }:=I3.kept (t':=s3.toks) λb ob q=>Heap.get?_push_of_some _ q;obtain⟨T,id,hT,ht,hg⟩:=hr pins { s3 with heap:=s3.heap.push { cls:=.type "slice",data:=.fields #[vl,vu,.none] } } σ H3 x v vl vu l u s3.heap.objs.size Q I4 r1 (Heap.IsSliceOf.new ..) pl pu q3;show wpAny (model X.prog X.w) X.A (subscriptTail e (.Slice lo hi none p2) v (.ref s3.heap.objs.size)) (EP X pins σ Q) X.xe { s3 with heap:=s3.heap.push { cls:=.type "slice",data:=.fields #[vl,vu,.none] } };exact tail_any (ops:=[.ref s3.heap.objs.size,v]) ht hT hg (by with_unfolding_all rfl)
noncomputable def qd (xs:List V) (lo hi:Option Int):List V:=(xs.drop (HT.Ks xs.length 0 lo)).take (HT.Ks xs.length xs.length hi - HT.Ks xs.length 0 lo)
theorem uo (xs:List V) (lo hi:Option Int):(qd xs lo hi).length<=xs.length:=by
 unfold qd;rw [length_take,length_drop]
 lia
end
noncomputable def Va (n:Nat) (i:Int):Option Nat:=if 0<=i then(if i <n then some i.toNat else none) else if -(n:Int)<=i then some (i+n).toNat else none
noncomputable def IW {α:Type} (xs:List α) (i:Int):Option α:=(Va xs.length i).bind λj=>xs[j]?
theorem Ny {n:Nat} {i:Int} {j:Nat} (h:Va n i=some j):seqIndex? i n=some j/\j <n/\ -(n:Int)<=i/\i <n:=by
 unfold Va at h;by_cases h0:0<=i
 ·rw [if_pos h0] at h;by_cases h1:i <n
  ·rw [if_pos h1] at h;have e:i.toNat=j:=Option.some.inj h;exact⟨by rw [seqIndex_of h0 h1,e],by lia,by lia,h1⟩
  ·rw [if_neg h1] at h;cases h
 ·rw [if_neg h0] at h;by_cases h1: -(n:Int)<=i
  ·rw [if_pos h1] at h;have e:(i+n).toNat=j:=Option.some.inj h;exact⟨by rw [seqIndex_neg (by lia) h1,e],by lia,h1,by lia⟩
  ·rw [if_neg h1] at h;cases h
theorem Io {α:Type} {xs:List α} {i:Int} {v:α} (h:IW xs i=some v):∃j,seqIndex? i xs.length=some j/\xs[j]?=some v/\j <xs.length/\ -(xs.length:Int)<=i/\i <xs.length:=by
 unfold IW at h;cases e:Va xs.length i with
 | none=>rw [e] at h;cases h
 | some j=>
  rw [e] at h;obtain⟨h1,h2,h3,h4⟩:=Ny e;exact⟨j,h1,h,h2,h3,h4⟩
theorem aJ {α:Type} {xs:List α} {j:Nat} {v:α} (h:xs[j]?=some v):IW xs (j:Int)=some v:=by
 have hj:j <xs.length:=(List.getElem?_eq_some_iff.mp h).1;have e:Va xs.length (j:Int)=some j:=by unfold Va;rw [if_pos (by lia),if_pos (by lia)];simp
 unfold IW;rw [e];exact h
noncomputable def Oe (b:Expr):Prop:=∀o i,subscripted b false o i=operate [o,i] (getItem o i)
noncomputable def Qm (X:Cx) (r:R2):Prop:=
 ∀(value slice:Expr) (pins:List (Addr×Obj)) (s:Shared) (σ:St) (H:Hp) (x y:V) (v u:Value) (Q:VK),Inv X pins σ H s->RelV x v->RelV y u->r x y H Q->
  subscripted slice false v u=operate [v,u] (getItem v u)->wpAny (model X.prog X.w) X.A (subscriptTail value slice v u) (EP X pins σ Q) X.xe s
noncomputable def MtR (X:Cx) (id:String) (r:V->List V->Hp->VK->Prop):Prop:=
 ∀(pins:List (Addr×Obj)) (s:Shared) (σ:St) (H:Hp) (x:V) (xs:List V) (v:Value) (us:List Value) (Q:VK),Inv X pins σ H s->RelV x v->Vals xs us->r x xs H Q->
  wpAny (model X.prog X.w) X.A (call (.builtin id) (v:: us)) (EP X pins σ Q) X.xe s
section
variable {X:Cx} {a b:Expr} {ta tb:TE} {pos:Pos}
theorem Qm.or {r r':R2} (h:Qm X r) (h':Qm X r'):Qm X (λx y H Q=>r x y H Q∨r' x y H Q):=by
 intro value slice pins s σ H x y v u Q I rx ry q hs;rcases q with q | q
 ·exact h value slice pins s σ H x y v u Q I rx ry q hs
 ·exact h' value slice pins s σ H x y v u Q I rx ry q hs
theorem aU {r:R2} (hr:Qm X r) (ha:PE X a ta) (hb:PE X b tb) (hs:Oe b):PE X (.Subscript a b pos) (TV r ta tb):=by intro pins s σ H Q I h;exact Subscript_ (XX ha hb I h λv u s2 x y H2 I2 rx ry q=>hr a b pins s2 σ H2 x y v u Q I2 rx ry q (hs _ _))
inductive V4 (K:Fr) (x:V) (y:V) (H:Hp) (Q:VK):Prop where
 | mk:∀p xs i v,x=.ref p->y=.int i->bT K H p xs->IW xs i=some v->Q v H->V4 K x y H Q
noncomputable def Yp (K:Fr):R2:=λx y H Q=>V4 K x y H Q
inductive VJ (K:Fr) (x:V) (y:V) (H:Hp) (Q:VK):Prop where
 | mk:∀p xs i v,x=.ref p->y=.int i->fZ K H p xs->IW xs i=some v->Q v H->VJ K x y H Q
noncomputable def PQ (K:Fr):R2:=λx y H Q=>VJ K x y H Q
inductive Wt (x:V) (y:V) (H:Hp) (Q:VK):Prop where
 | mk:∀z i c,x=.str z->y=.int i->z.length<=sizeLine->IW z.cps.toList i=some c->Q (.str ⟨#[c]⟩) H->Wt x y H Q
noncomputable def YX:R2:=λx y H Q=>Wt x y H Q
theorem aR:Qm X (Yp X.K):=by
 intro value slice pins s σ H x y v u Q I rx ry h hs;obtain⟨p,xs,i,z,rfl,rfl,hq,he,q⟩:=h;cases rx;obtain⟨t,rfl⟩:=ry;obtain⟨its,r,pl,hz⟩:=I.list hq;obtain⟨j,h1,h2,h3,h4,h5⟩:=Io he;obtain⟨w,ew,rw'⟩:=r.get h2;have hl:=r.length;have hn:=Bu;have fin:EP X pins σ Q w s:=⟨z,H,I,rw',q⟩;by_cases h0:0<=i
 ·have hj:i.toNat=j:=by rw [seqIndex_of h0 h5] at h1;exact Option.some.inj h1
  exact item_listR pl.isList h0 (by lia) (by rw [hj];simpa using ew) fin hs
 ·have hj:(i+(its.toArray.size:Int)).toNat=j:=by rw [seqIndex_neg (by lia) h4] at h1;rw [size_toArray,<-hl];exact Option.some.inj h1
  exact subscriptTail_builtinR (x:=w) pl.isList.typeIs slot_list_getitem.lookup
   (wpAny_getItem_list_neg (Q:=λr s'=>r=w/\EP X pins σ Q r s') pl.isList (by lia) (by rw [size_toArray] <;> lia) (by lia) (by rw [hj];simpa using ew) ⟨rfl,fin⟩) hs
theorem dI:Qm X (PQ X.K):=by
 intro value slice pins s σ H x y v u Q I rx ry h hs;obtain⟨p,xs,i,z,rfl,rfl,hq,he,q⟩:=h;cases rx;obtain⟨t,rfl⟩:=ry;obtain⟨its,r,pl,hz⟩:=I.tuple hq;obtain⟨j,h1,h2,h3,h4,h5⟩:=Io he;obtain⟨w,ew,rw'⟩:=r.get h2;have hl:=r.length;have hn:=Bu;have fin:EP X pins σ Q w s:=⟨z,H,I,rw',q⟩;exact subscriptTail_builtinR (x:=w) pl.typeIs slot_tuple_getitem.lookup
  (getItem_tuple (j:=j) (Q:=λr s'=>r=w/\EP X pins σ Q r s') pl (by lia) (by lia) (by rw [size_toArray,<-hl];exact h1) (by simpa using ew) ⟨rfl,fin⟩) hs
theorem BZ:Qm X YX:=by
 intro value slice pins s σ H x y v u Q I rx ry h hs;obtain⟨z,i,c,rfl,rfl,hz,he,q⟩:=h;obtain⟨t,rfl⟩:=rx;obtain⟨t',rfl⟩:=ry;obtain⟨j,h1,h2,h3,h4,h5⟩:=Io he;have hl:z.cps.toList.length=z.length:=by simp [Str.length]
 rw [hl] at h1 h4 h5;have hn:=Bu;exact tail_any (typeIs_str s z t) slot_str_getitem.lookup (getItem_str (c:=c) (by have e1:decide (i < -(2 ^ 63:Int))=false:=decide_eq_false (by lia);have e2:decide (i≥2 ^ 63)=false:=decide_eq_false (by lia);rw [e1,e2,Bool.or_false]) (by rw [h1];simpa using h2) ⟨.str ⟨#[c]⟩,H,I.tok _,⟨_,rfl⟩,q⟩) hs
noncomputable def rIx (K:Fr):R2:=λx y H Q=>Yp K x y H Q∨PQ K x y H Q∨YX x y H Q
theorem Lw:Qm X (rIx X.K):=aR.or (dI.or BZ)
theorem K7 (its:List Value) (n j:Nat) (u:Value):Obj.mapSeq (·.setIfInBounds j u) { cls:=.type "list",data:=.seq its.toArray n }={ cls:=.type "list",data:=.seq (its.set j u).toArray n }:=by simp [Obj.mapSeq]
theorem Inv.lst {pins:List (Addr×Obj)} {σ:St} {H:Hp} {s:Shared} {p:Addr} {xs:List V} (I:Inv X pins σ H s) (h:H p=some (.lst xs)):
  ∃(its:List Value) (n:Nat),Vals xs its/\s.heap.get? p=some { cls:=.type "list",data:=.seq its.toArray n }/\xs.length<=sizeLine:=by
 obtain⟨z,its,n,r,e⟩:=I.hok p _ h;exact⟨its,n,r,e,z⟩
theorem Inv.lstUpd {pins:List (Addr×Obj)} {σ:St} {H:Hp} {s:Shared} {p:Addr} {xs ys:List V} {its its':List Value} {n n':Nat} {f:Obj->Obj} (I:Inv X pins σ H s) (h:H p=some (.lst xs))
  (ho:s.heap.get? p=some { cls:=.type "list",data:=.seq its.toArray n }) (hf:f { cls:=.type "list",data:=.seq its.toArray n }={ cls:=.type "list",data:=.seq its'.toArray n' }) (r:Vals ys its') (hz:ys.length<=sizeLine) (t:Nat):
  Inv X pins σ (upd H p (.lst ys)) { s with heap:=s.heap.update p f,toks:=t }:=by
 have e:(s.heap.update p f).get? p=some { cls:=.type "list",data:=.seq its'.toArray n' }:=by rw [Heap.get?_update_self f ho (by rw [hf] <;> rfl),hf]
 refine I.write (x:=p) (e:=p) (by rw [h];trivial) (.inl rfl) (λb u hb q=>(Heap.get?_update_other _ _ (Ne.symm hb)).trans q) ⟨_,e⟩ ?_;exact⟨hz,its',n',r,e⟩
noncomputable def YG:V->V->V->Hp->(Hp->Prop)->Prop:=λo i v H Q=>∃p xs k j,o=.ref p/\i=.int k/\H p=some (.lst xs)/\Va xs.length k=some j/\Q (upd H p (.lst (xs.set j v)))
theorem set_list:Zi X YG:=by
 intro pins s σ H o i v ov iv u Q I ro ri rv h;obtain⟨p,xs,k,j,rfl,rfl,hp,hj,q⟩:=h;cases ro;obtain⟨t,rfl⟩:=ri;obtain⟨its,n,r,ho,hz⟩:=I.lst hp;obtain⟨h1,h2,h3,h4⟩:=Ny hj;have hl:=r.length;have hn:=Bu;have I':Inv X pins σ (upd H p (.lst (xs.set j v))) { s with heap:=s.heap.update p (Obj.mapSeq (·.setIfInBounds j u)) }:=
  I.lstUpd hp ho (K7 its n j u) (r.set rv j) (by rw [List.length_set];exact hz) s.toks
 by_cases h0:0<=k
 ·have hk:k.toNat=j:=by rw [seqIndex_of h0 h4] at h1;exact Option.some.inj h1
  exact PySem.W.ki_setAt ho h0 (by lia) (by rw [size_toArray,<-hl];exact h4) (by rw [hk];exact⟨_,I',q⟩)
 ·have hk:(k+(its.toArray.size:Int)).toNat=j:=by rw [seqIndex_neg (by lia) h3] at h1;rw [size_toArray,<-hl];exact Option.some.inj h1
  exact PySem.W.ki_setBack ho (by lia) (by rw [size_toArray,<-hl];exact h3) (by lia) (by rw [hk];exact⟨_,I',q⟩)
theorem GQ (lo hi:Option Int) (n:Nat):(sliceBounds lo hi none n).1=((HT.Ks n 0 lo:Nat):Int)/\(sliceBounds lo hi none n).2.1=((HT.Ks n n hi:Nat):Int)/\(sliceBounds lo hi none n).2.2=1:=by
 refine⟨?_,?_,Z⟩
 ·cases lo with
  | none=>simp [sliceBounds,HT.Ks]
  | some i=>
   simp only [sliceBounds,HT.Ks,Option.getD_none,show(1:Int) >0 by decide,if_true];by_cases h:i <0
   ·simp only [h,if_true] <;> lia
   ·simp only [h,if_false] <;> lia
 ·cases hi with
  | none=>simp [sliceBounds,HT.Ks]
  | some i=>
   simp only [sliceBounds,HT.Ks,Option.getD_none,show(1:Int) >0 by decide,if_true];by_cases h:i <0
   ·simp only [h,if_true] <;> lia
   ·simp only [h,if_false] <;> lia
theorem Eo (its:List Value) (lo hi:Option Int):slicePick its.toArray lo hi none=((its.drop (HT.Ks its.length 0 lo)).take (HT.Ks its.length its.length hi - HT.Ks its.length 0 lo)).toArray:=by obtain⟨h1,h2,h3⟩:=GQ lo hi its.toArray.size;unfold slicePick;rw [h1,h2,h3];simp only [sliceRange_one,pick_run,size_toArray] <;> rfl
inductive Wl (K:Fr) (x:V) (lo:Option Int) (hi:Option Int) (H:Hp) (Q:VK):Prop where
 | mk:∀a xs,x=.ref a->bT K H a xs->(∀p,H p=none->Q (.ref p) (upd H p (.lst (qd xs lo hi))))->Wl K x lo hi H Q
noncomputable def aai (K:Fr):V->Option Int->Option Int->Hp->VK->Prop:=λx lo hi H Q=>Wl K x lo hi H Q
theorem Ba:SlR X (aai X.K):=by intro pins s σ H x v vl vu lo hi sl Q I rx hs pl pu h;obtain⟨a,xs,rfl,hx,q⟩:=h;cases rx;obtain⟨its,r,ht,hz⟩:=I.list hx;have hlen:=r.length;refine⟨"list",_,slot_list_getitem.lookup,ht.isList.typeIs,?_⟩;refine wpAny_getItem_list_slice ht.isList hs pl pu .none (by simp) ?_ (by rw [size_toArray] <;> lia);rw [Eo,<-hlen];refine⟨.ref s.heap.objs.size,_,I.laid (t':=s.toks) (o:=.lst (qd xs lo hi)) (λb ob q=>Heap.get?_push_of_some _ q) (le_refl _) ?_,Z,q _ (I.hok.fresh (le_refl _))⟩;exact⟨le_trans (uo xs lo hi) hz,_,0,(r.drop (HT.Ks xs.length 0 lo)).take (HT.Ks xs.length xs.length hi - HT.Ks xs.length 0 lo),Heap.get?_push_size _ Z⟩
noncomputable def mU:V->Bool
 | .non=>true
 | .bl _=>true
 | .int _=>true
 | .str _=>true
 | _=>false
noncomputable def KY:V->V->Bool
 | .non,.non=>true
 | .bl a,.bl b=>a == b
 | .bl a,.int b=>(if a then 1 else 0) == b
 | .int a,.bl b=>a == (if b then 1 else 0)
 | .int a,.int b=>a == b
 | .str a,.str b=>a == b
 | _,_=>false
theorem Xe {A:Around} {s:Shared} {y x:V} {u v:Value} (ry:RelV y u) (rx:RelV x v) (fy:mU y=true) (fx:mU x=true):SeqAt.EqAt A s u v (KY y x):=by
 cases y with
 | non=>
  cases ry;cases x with
  | non=>cases rx;exact SeqAt.EqAt.same _
  | bl b=>cases rx;exact SeqAt.EqAt.none_bool b
  | int b=>obtain⟨t,rfl⟩:=rx;exact SeqAt.EqAt.none_int b t
  | str b=>obtain⟨t,rfl⟩:=rx;exact SeqAt.EqAt.none_str b t
  | _=>exact absurd (show false=true from fx) Bool.false_ne_true
 | bl a=>
  cases ry;cases x with
  | non=>cases rx;exact SeqAt.EqAt.bool_none a
  | bl b=>cases rx;exact SeqAt.EqAt.bool_bool a b
  | int b=>obtain⟨t,rfl⟩:=rx;exact SeqAt.EqAt.bool_int a b t
  | str b=>obtain⟨t,rfl⟩:=rx;exact SeqAt.EqAt.bool_str a b t
  | _=>exact absurd (show false=true from fx) Bool.false_ne_true
 | int a=>
  obtain⟨t',rfl⟩:=ry;cases x with
  | non=>cases rx;exact SeqAt.EqAt.int_none a t'
  | bl b=>cases rx;exact SeqAt.EqAt.int_bool a t' b
  | int b=>obtain⟨t,rfl⟩:=rx;exact SeqAt.EqAt.int_int a t' b t
  | str b=>obtain⟨t,rfl⟩:=rx;exact SeqAt.EqAt.int_str a t' b t
  | _=>exact absurd (show false=true from fx) Bool.false_ne_true
 | str a=>
  obtain⟨t',rfl⟩:=ry;cases x with
  | non=>cases rx;exact SeqAt.EqAt.str_none a t'
  | bl b=>cases rx;exact SeqAt.EqAt.str_bool a t' b
  | int b=>obtain⟨t,rfl⟩:=rx;exact SeqAt.EqAt.str_int a t' b t
  | str b=>obtain⟨t,rfl⟩:=rx;exact SeqAt.EqAt.str_str a t' b t
  | _=>exact absurd (show false=true from fx) Bool.false_ne_true
 | _=>exact absurd (show false=true from fy) Bool.false_ne_true
noncomputable def Vq (x:V) (u:Value):Bool:=match u with
 | .none=>KY .non x
 | .bool b=>KY (.bl b) x
 | .int i _=>KY (.int i) x
 | .str z _=>KY (.str z) x
 | _=>false
theorem Tu {x y:V} {u:Value} (r:RelV y u) (f:mU y=true):Vq x u=KY y x:=by
 cases y with
 | non=>cases r;rfl
 | bl b=>cases r;rfl
 | int i=>obtain⟨t,rfl⟩:=r;rfl
 | str z=>obtain⟨t,rfl⟩:=r;rfl
 | _=>exact absurd (show false=true from f) Bool.false_ne_true
theorem Gy {x:V}:∀{xs:List V} {us:List Value},Vals xs us->xs.all mU=true->us.any (Vq x)=xs.any λy=>KY y x
 | _,_,.nil,_=>rfl
 | y:: xs,u:: us,.cons r t,f=>by rw [List.all_cons,and_eq_true] at f;rw [any_cons,any_cons,Tu r f.1,Gy t f.2]
theorem DG {A:Around} {s:Shared} {x:V} {v:Value} (rx:RelV x v) (fx:mU x=true):∀{xs:List V} {us:List Value},Vals xs us->xs.all mU=true->∀u∈us,SeqAt.EqAt A s u v (Vq x u)
 | _,_,.nil,_=>λu hu=>by cases hu
 | y:: xs,u:: us,.cons r t,f=>λu' hu=>by
  rw [List.all_cons,and_eq_true] at f;rcases mem_cons.mp hu with rfl | hu
  ·rw [Tu r f.1];exact Xe r rx f.1 fx
  ·exact DG rx fx t f.2 u' hu
noncomputable def inV (x:V) (xs:List V):Bool:=xs.any λy=>KY y x
inductive ZF (K:Fr) (neg:Bool) (x:V) (y:V) (H:Hp) (Q:VK):Prop where
 | mk:∀p xs,y=.ref p->((bT K H p xs∨fZ K H p xs))->mU x=true->xs.all mU=true->(Q (.bl (if neg then !inV x xs else inV x xs)) H)->ZF K neg x y H Q
noncomputable def rIn (K:Fr) (neg:Bool):R2:=λx y H Q=>ZF K neg x y H Q
theorem jK:vU X (compareOp .NotIn) (rIn X.K true):=by
 intro pins s σ H x y v u Q I rx ry h;obtain⟨p,xs,rfl,hq,fx,fs,q⟩:=h;cases ry;rcases hq with hq | hq
 ·obtain⟨its,r,pl,hz⟩:=I.list hq;refine SeqAt.notIn_listAt (Vq x) pl.isList (λw hw=>DG rx fx r fs w (by simpa using hw)) ⟨.bl _,H,I,Z,?_⟩;rw [show its.toArray.any (Vq x)=its.any (Vq x) by simp,Gy r fs];exact q
 ·obtain⟨its,r,pl,hz⟩:=I.tuple hq;refine SeqAt.notIn_tupleAt (Vq x) pl (λw hw=>DG rx fx r fs w (by simpa using hw)) ⟨.bl _,H,I,Z,?_⟩;rw [show its.toArray.any (Vq x)=its.any (Vq x) by simp,Gy r fs];exact q
theorem xV:jj X (.type "list") (λxs H Q=>∃p ys,xs=[.ref p]/\(bT X.K H p ys∨fZ X.K H p ys)/\∀l,H l=none->Q (.ref l) (upd H l (.lst ys))):=by
 intro pins s σ H xs us Q I r h;obtain⟨p,ys,rfl,hq,q⟩:=h;obtain⟨u,rfl,rx⟩:=vals1 r;cases rx;have fin:∀(its:List Value),Vals ys its->ys.length<=sizeLine->∀(h':Heap) (c':Nat),(∀b o',s.heap.get? b=some o'->h'.get? b=some o')->
   h'.get? s.heap.objs.size=some { cls:=.type "list",dict:=none,data:=.seq its.toArray c',slots:=#[] }->EP X pins σ Q (.ref s.heap.objs.size) { s with heap:=h' }:=λits r' hz h' c' kp e=>
  ⟨.ref s.heap.objs.size,_,I.laid (t':=s.toks) kp (le_refl _) (show dg X.prog X.w _ h' _ (.lst ys) from⟨hz,its,c',r',e⟩),rfl,q _ (I.hok.fresh (le_refl _))⟩
 rcases hq with hq | hq
 ·obtain⟨its,r',pl,hz⟩:=I.list hq;have hlen:=r'.length;obtain⟨o,ho,hc,n,hd⟩:=pl.isList;exact call_list_seq p (.inl rfl) ho hc hd (λh' c' kp e=>fin its r' hz h' c' kp e) (by simp only [size_toArray] <;> lia)
 ·obtain⟨its,r',pl,hz⟩:=I.tuple hq;have hlen:=r'.length;obtain⟨o,ho,hc,n,hd⟩:=pl;exact call_list_seq p (.inr rfl) ho hc hd (λh' c' kp e=>fin its r' hz h' c' kp e) (by simp only [size_toArray] <;> lia)
theorem Eb:jj X (.type "tuple") (λxs H Q=>∃p ys,xs=[.ref p]/\((bT X.K H p ys/\∀l,H l=none->Q (.ref l) (upd H l (.tup ys)))∨(fZ X.K H p ys/\Q (.ref p) H))):=by
 intro pins s σ H xs us Q I r h;obtain⟨p,ys,rfl,h⟩:=h;obtain⟨u,rfl,rx⟩:=vals1 r;cases rx;rcases h with ⟨hq,q⟩ | ⟨hq,q⟩
 ·obtain⟨its,r',pl,hz⟩:=I.list hq;have hlen:=r'.length;refine call_tuple_list pl.isList (λh' kp=>?_) (by simp only [size_toArray] <;> lia);have I1:Inv X pins σ H { s with heap:=h' }:=I.kept (t':=s.toks) kp;have I2:Inv X pins σ (upd H h'.objs.size (.tup ys)) { s with heap:=h'.push { cls:=.type "tuple",data:=.seq its.toArray } }:=
   I1.laid (t':=s.toks) (λb o e=>Heap.get?_push_of_some _ e) (le_refl _) (show dg X.prog X.w _ _ _ (.tup ys) from⟨hz,its,r',IsTup.new _ _⟩)
  exact⟨.ref h'.objs.size,_,I2,Z,q _ (I1.hok.fresh (le_refl _))⟩
 ·obtain⟨its,r',pl,hz⟩:=I.tuple hq;exact call_tuple_same pl ⟨.ref p,H,I,Z,q⟩
noncomputable def tyV (K:Fr) (T:String) (x:V) (H:Hp):Prop:=match x with
 | .str _=>T= "str"
 | .int _=>T= "int"
 | .ref p=>(T= "list" /\∃xs,bT K H p xs)∨(T= "tuple" /\∃o,K.lookup p=some o/\o.cls=.type "tuple" /\o.dict=none)∨
   (T= "dict" /\((∃kvs,H p=some (.dK kvs))∨∃kvs,H p=some (.dT kvs)))∨(T= "set" /\∃S n,H p=some (.set S n))
 | _=>False
theorem Ry {pins:List (Addr×Obj)} {σ:St} {H:Hp} {s:Shared} {T:String} {x:V} {v:Value} (I:Inv X pins σ H s) (r:RelV x v) (ty:tyV X.K T x H):
  s.TypeIs v T/\∀a,v=.ref a->∃ob,s.heap.get? a=some ob/\ob.dict=none:=by
 cases x with
 | str z=>
  obtain⟨t,rfl⟩:=r;cases (show T= "str" from ty);exact⟨typeIs_str s z t,λ_ e=>nomatch e⟩
 | int i=>
  obtain⟨t,rfl⟩:=r;cases (show T= "int" from ty);exact⟨typeIs_int s i t,λ_ e=>nomatch e⟩
 | ref p=>
  cases r;rcases ty with ⟨rfl,xs,hq⟩ | ⟨rfl,o,hk,hc,hd⟩ | ⟨rfl,hk⟩ | ⟨rfl,S,n,hk⟩
  ·obtain⟨its,_,pl,_⟩:=I.list hq;refine⟨pl.isList.typeIs,λa e=>?_⟩;cases e;obtain⟨o,n,e,c,hd,_⟩:=pl;exact⟨o,e,hd⟩
  ·refine⟨⟨o,I.kIn p o hk,hc⟩,λa e=>?_⟩;cases e;exact⟨o,I.kIn _ o hk,hd⟩
  ·have z:∃o,s.heap.get? p=some o/\o.ExactDict:=by
    rcases hk with ⟨kvs,hk⟩ | ⟨kvs,hk⟩
    ·obtain⟨_,_,_,_,o,_,_,e,ex,_⟩:=I.hok p _ hk;exact⟨o,e,ex⟩
    ·obtain⟨_,_,_,_,o,_,_,e,ex,_⟩:=I.hok p _ hk;exact⟨o,e,ex⟩
   obtain⟨o,e,ex⟩:=z;refine⟨⟨o,e,ex.1⟩,λa e2=>?_⟩;cases e2;exact⟨o,e,ex.2.1⟩
  ·obtain⟨o,_,_,_,e,ex,_⟩:=I.hok p _ hk;refine⟨⟨o,e,ex.1⟩,λa e2=>?_⟩;cases e2;exact⟨o,e,ex.2.1⟩
 | _=>exact False.elim ty
noncomputable def aan (K:Fr) (T:String) (r:V->List V->Hp->VK->Prop) (to:TE):TE:=λσ H Q=>to σ H λx H1=>tyV K T x H1/\r x [] H1 Q
noncomputable def tBM (K:Fr) (T:String) (r:V->List V->Hp->VK->Prop) (to:TE) (t:TA):TE:=λσ H Q=>to σ H λx H1=>tyV K T x H1/\t σ H1 λxs H2=>r x xs H2 Q
variable {o e:Expr} {es:List Expr} {to:TE} {t:TA} {name:Str} {apos cpos:Pos} {T id:String} {r:V->List V->Hp->VK->Prop}
theorem Mq (pa:PlainAttrs T) (slot:Slot T name id) (hty:typeOf (.builtin id)=pure (.type "method_descriptor")) (hm:MtR X id r) (ho:PE X o to)
  (hbase:attributeBase o name X.env (eval o X.env)=eval o X.env:=by rfl) (hline:(apos.endLine == cpos.line)=true:=by rfl):PE X (.Call (.Attribute o name apos) [] [] cpos) (aan X.K T r to):=by
 intro pins s σ H Q I h;refine wpAny_Call_method0_late hbase hline (dC (ho pins s σ H _ I h) λv s1 hpt=>?_);obtain⟨x,H1,I1,r1,ty,q1⟩:=hpt;obtain⟨h1,h2⟩:=Ry I1 r1 ty;exact⟨T,id,pa,slot,hty,h1,h2,Calls.callWith_builtin Z (PySem.evalArgs_none (hm pins s1 σ H1 x [] v [] Q I1 r1 .nil q1))⟩
theorem z7 (pa:PlainAttrs T) (slot:Slot T name id) (hty:typeOf (.builtin id)=pure (.type "method_descriptor")) (hm:MtR X id r) (ho:PE X o to) (ha:PA X (e:: es) t)
  (hbase:attributeBase o name X.env (eval o X.env)=eval o X.env:=by rfl)
  (hfew:((backTo cpos (starEach (e:: es) X.env)).all (λx=>!x.1) && (backToKw cpos (keywordEach [] X.env)).all (λx=>x.1.isSome)
   && decide ((e:: es).length+([]:List Keyword).length+(if ([]:List Keyword).isEmpty then 0 else 1) <30))=true:=by rfl)
  (hline:(apos.endLine == cpos.line)=true:=by rfl) (hs:starEach (e:: es) X.env=(false,eval e X.env):: starEach es X.env:=by rfl) (hplain:(backTo cpos (starEach es X.env)).any (·.1)=false:=by rfl):
  PE X (.Call (.Attribute o name apos) (e:: es) [] cpos) (tBM X.K T r to t):=by
 intro pins s σ H Q I h;refine wpAny_Call_method_late hbase hfew hline Z (dC (ho pins s σ H _ I h) λv s1 hpt=>?_);obtain⟨x,H1,I1,r1,ty,q1⟩:=hpt;obtain⟨h1,h2⟩:=Ry I1 r1 ty;refine⟨T,id,pa,slot,hty,h1,h2,?_⟩;have hA:=ha cpos pins s1 σ H1 _ I1 q1;rw [hs] at hA ⊢;refine Calls.callWith_builtin (by show(false || (backTo cpos (starEach es X.env)).any (·.1))=false;rw [hplain] <;> rfl) (Calls.evalArgs_plain ?_);exact dC hA λus s2 ⟨vs,H2,I2,r2,q2⟩=>hm pins s2 σ H2 x vs v us Q I2 r1 r2 q2
end
noncomputable def Zg (X:Cx) (id:String) (r:V->List V->Hp->VK->Prop):Prop:=
 ∀(pins:List (Addr×Obj)) (s:Shared) (σ:St) (H:Hp) (x:V) (xs:List V) (v:Value) (us:List Value) (Q:VK),Inv X pins σ H s->RelV x v->Vals xs us->r x xs H Q->
  wpAny (model X.prog X.w) X.A (call (.builtin id) (v:: us)) (EP X pins σ Q) X.xe s
theorem Vals.one:∀{x:V} {us:List Value},Vals [x] us->∃u,us=[u]/\RelV x u
 | _,_,.cons r .nil=>⟨_,rfl,r⟩
theorem Vals.zero:∀{us:List Value},Vals [] us->us=[]
 | _,.nil=>rfl
theorem Vals.dropLast {xs:List V} {us:List Value} (h:Vals xs us):Vals xs.dropLast us.dropLast:=by
 induction h with
 | nil=>exact .nil
 | cons r t ih=>
  cases t with
  | nil=>exact .nil
  | cons q t'=>exact .cons r ih
theorem Vals.eraseIdx:∀{xs:List V} {us:List Value} (i:Nat),Vals xs us->Vals (xs.eraseIdx i) (us.eraseIdx i)
 | _,_,_,.nil=>.nil
 | _,_,0,.cons _ t=>t
 | _,_,i+1,.cons r t=>.cons r (Vals.eraseIdx i t)
theorem Vals.rep {xs:List V} {us:List Value} (h:Vals xs us):∀k:Nat,Vals (List.replicate k xs).flatten (List.replicate k us).flatten
 | 0=>.nil
 | k+1=>by rw [replicate_succ,replicate_succ,flatten_cons,flatten_cons];exact Vals.append h (Vals.rep h k)
theorem Lx {α:Type} (l:List α):l.eraseIdx (l.length - 1)=l.dropLast:=by
 induction l with
 | nil=>rfl
 | cons a r ih=>
  cases r with
  | nil=>rfl
  | cons b r=>
   have e:(a:: b:: r).length - 1=((b:: r).length - 1)+1:=by
    have h1:(a:: b:: r).length=r.length+2:=rfl;have h2:(b:: r).length=r.length+1:=rfl
    lia
   rw [e,List.eraseIdx_cons_succ,ih];all_goals rfl
theorem Fj {α:Type}:∀(l:List α) (i:Nat),(l.eraseIdx i).length<=l.length
 | [],_=>le_refl _
 | _:: _,0=>le_succ _
 | _:: r,i+1=>succ_le_succ (Fj r i)
theorem foldl_rep (its:List Value):∀(k:Nat) (acc:List Value),
  List.foldl (λx1 x2=>x1 ++ x2) acc.toArray (List.replicate k its.toArray)=(acc ++ (List.replicate k its).flatten).toArray
 | 0,acc=>by simp
 | k+1,acc=>by
  have e:acc.toArray ++ its.toArray=(acc ++ its).toArray:=by simp
  have e2:(acc ++ its) ++ (List.replicate k its).flatten=acc ++ (List.replicate (k+1) its).flatten:=by rw [replicate_succ,flatten_cons,append_assoc]
  rw [<-e2,<-foldl_rep its k (acc ++ its),<-e,replicate_succ,List.foldl_cons]
section
variable {X:Cx} {pins:List (Addr×Obj)} {σ:St} {H:Hp} {s:Shared} {l b:Addr} {xs ys zs:List V}
theorem Inv.lset {its its':List Value} {n:Nat} {f:Array Value->Array Value} {t':Nat} (I:Inv X pins σ H s) (hH:H l=some (.lst xs))
  (e:s.heap.get? l=some { cls:=.type "list",data:=.seq its.toArray n }) (hf:f its.toArray=its'.toArray) (hv:Vals ys its') (hz:ys.length<=sizeLine):
  Inv X pins σ (upd H l (.lst ys)) { s with heap:=s.heap.update l (Obj.mapSeq f),toks:=t' }:=by
 have q:=PySem.IsL.update e f;rw [hf] at q;refine I.write (x:=l) (e:=l) (by rw [hH];exact trivial) (.inl rfl) (λb' u hb hu=>(Heap.get?_update_other s.heap (Obj.mapSeq f) (Ne.symm hb)).trans hu) ⟨_,q⟩ ?_;exact⟨hz,its',_,hv,q⟩
theorem Inv.lnew {its:List Value} {t':Nat} (I:Inv X pins σ H s) (hv:Vals ys its) (hz:ys.length<=sizeLine):
  Inv X pins σ (upd H s.heap.objs.size (.lst ys)) { s with heap:=s.heap.push { cls:=.type "list",data:=.seq its.toArray },toks:=t' }:=
 I.laid (λ_ _ q=>Heap.get?_push_of_some _ q) (le_refl _) ⟨hz,its,0,hv,Heap.get?_push_size _ rfl⟩
theorem Inv.fresh (I:Inv X pins σ H s):H s.heap.objs.size=none:=I.hok.fresh (le_refl _)
theorem Inv.lstM (I:Inv X pins σ H s) (hH:H l=some (.lst xs)):xs.length<=sizeLine/\∃(its:List Value) (n:Nat),Vals xs its/\xs.length=its.length/\s.heap.get? l=some { cls:=.type "list",data:=.seq its.toArray n }:=by obtain⟨z,its,n,r,e⟩:=I.hok l _ hH;exact⟨z,its,n,r,r.length,e⟩
theorem J0 {n:Nat} (h:n<=sizeLine):Builtin.List.listTooLong n=false:=by unfold Builtin.List.listTooLong;exact decide_eq_false (by lia)
end
section
variable {X:Cx}
inductive Jb (x:V) (vs:List V) (H:Hp) (Q:VK):Prop where
 | mk:∀l xs y,x=.ref l->vs=[y]->H l=some (.lst xs)->xs.length <sizeLine->Q .non (upd H l (.lst (xs ++ [y])))->Jb x vs H Q
noncomputable def Oh:V->List V->Hp->VK->Prop:=λx vs H Q=>Jb x vs H Q
theorem O8:Zg X "list.append" Oh:=by
 intro pins s σ H x vs v us Q I rx rv h;obtain⟨l,xs,y,rfl,rfl,hH,hz,q⟩:=h;cases rx;obtain⟨u,rfl,ru⟩:=rv.one;obtain⟨z,its,n,r,hl,e⟩:=I.lstM hH;refine call_meets F.slot_list_append ⟨_,e,Z⟩ F.entry_list_append (F.args_list_append_2 _ _) (PySem.list_append l its.toArray n u (by rw [size_toArray];lia)) ⟨e,?_⟩;refine⟨.non,_,I.lset (its':=its ++ [u]) hH e (by simp) (r.append (.cons ru .nil)) ?_,Z,q⟩;rw [length_append,length_singleton]
 lia
inductive Kg (x:V) (vs:List V) (H:Hp) (Q:VK):Prop where
 | mk:∀l b xs zs,x=.ref l->vs=[.ref b]->H l=some (.lst xs)->H b=some (.lst zs)->xs.length+zs.length<=sizeLine->Q .non (upd H l (.lst (xs ++ zs)))->Kg x vs H Q
noncomputable def U7:V->List V->Hp->VK->Prop:=λx vs H Q=>Kg x vs H Q
theorem Et:Zg X "list.extend" U7:=by
 intro pins s σ H x vs v us Q I rx rv h;obtain⟨l,b,xs,zs,rfl,rfl,hH,hB,hz,q⟩:=h;cases rx;obtain⟨u,rfl,ru⟩:=rv.one;cases ru;obtain⟨z,its,n,r,hl,e⟩:=I.lstM hH;obtain⟨z2,its2,n2,r2,hl2,e2⟩:=I.lstM hB;have hsz:its.toArray.size+its2.toArray.size<=sizeLine:=by rw [size_toArray,size_toArray];lia
 have hlong:¬(!its.toArray.isEmpty && Builtin.List.listTooLong (its.toArray.size+its2.toArray.size))=true:=by rw [J0 hsz,Bool.and_false];exact Bool.false_ne_true
 refine call_meets F.slot_list_extend ⟨_,e,Z⟩ F.entry_list_extend (F.args_list_extend_2 _ _)
  (AutoSeq1.list_extend_list_list_0 l its.toArray n b its2.toArray n2 hlong (by rw [size_toArray];lia) (by lia)) ⟨e,e2,?_⟩
 refine⟨.non,_,I.lset (its':=its ++ its2) hH e (by simp) (r.append r2) ?_,Z,q⟩;rw [length_append]
 lia
inductive Ww (x:V) (vs:List V) (H:Hp) (Q:VK):Prop where
 | mk:∀l xs y,x=.ref l->vs=[]->H l=some (.lst xs)->xs[xs.length - 1]?=some y->Q y (upd H l (.lst xs.dropLast))->Ww x vs H Q
noncomputable def aaD:V->List V->Hp->VK->Prop:=λx vs H Q=>Ww x vs H Q
theorem Ld:Zg X "list.pop" aaD:=by
 intro pins s σ H x vs v us Q I rx rv h;obtain⟨l,xs,y,rfl,rfl,hH,hy,q⟩:=h;cases rx;have hus:=rv.zero;subst hus;obtain⟨z,its,n,r,hl,e⟩:=I.lstM hH;obtain⟨u,hu,ru⟩:=r.get hy;have hy':its.toArray[its.toArray.size - 1]?=some u:=by show its.toArray[its.length - 1]?=some u;rw [<-Array.getElem?_toList,<-hl];exact hu
 refine call_meets F.slot_list_pop ⟨_,e,Z⟩ F.entry_list_pop (F.args_list_pop_1 _) (MeetsSeq.list_pop_last l its.toArray n u hy' (by rw [size_toArray];lia)) ⟨e,?_⟩;refine⟨y,_,I.lset (its':=its.dropLast) hH e ?_ r.dropLast ?_,ru,q⟩
 ·show its.toArray.eraseIdxIfInBounds (its.toArray.size - 1)=its.dropLast.toArray;rw [size_toArray,List.eraseIdxIfInBounds_toArray,Lx]
 ·rw [List.length_dropLast]
  lia
inductive M5 (x:V) (vs:List V) (H:Hp) (Q:VK):Prop where
 | mk:∀l xs i k y,x=.ref l->vs=[.int i]->H l=some (.lst xs)-> -(2 ^ 63)<=i->i <2 ^ 63->seqIndex? i xs.length=some k->xs[k]?=some y->Q y (upd H l (.lst (xs.eraseIdx k)))->M5 x vs H Q
noncomputable def Xf:V->List V->Hp->VK->Prop:=λx vs H Q=>M5 x vs H Q
theorem Cm:Zg X "list.pop" Xf:=by
 intro pins s σ H x vs v us Q I rx rv h;obtain⟨l,xs,i,k,y,rfl,rfl,hH,h1,h2,hk,hy,q⟩:=h;cases rx;obtain⟨u,rfl,ru⟩:=rv.one;obtain⟨t,rfl⟩:=ru;obtain⟨z,its,n,r,hl,e⟩:=I.lstM hH;obtain⟨w,hw,rw'⟩:=r.get hy;refine call_meets F.slot_list_pop ⟨_,e,Z⟩ F.entry_list_pop (F.args_list_pop_2 _ _)
  (MeetsSeq.list_pop_at l its.toArray n i t k w (fitsIndex_both h1 h2) (by rw [size_toArray,<-hl];exact hk) (by rw [<-Array.getElem?_toList];exact hw) (by rw [size_toArray];lia)) ⟨e,?_⟩
 refine⟨y,_,I.lset (its':=its.eraseIdx k) hH e ?_ (r.eraseIdx k) ?_,rw',q⟩
 ·show its.toArray.eraseIdxIfInBounds k=(its.eraseIdx k).toArray;rw [List.eraseIdxIfInBounds_toArray]
 ·have:=Fj xs k
  lia
inductive V3 (x:V) (y:V) (H:Hp) (Q:VK):Prop where
 | mk:∀l b xs zs,x=.ref l->y=.ref b->H l=some (.lst xs)->H b=some (.lst zs)->xs.length+zs.length<=sizeLine->(∀p,H p=none->Q (.ref p) (upd H p (.lst (xs ++ zs))))->V3 x y H Q
noncomputable def aaM:R2:=λx y H Q=>V3 x y H Q
theorem CV:vU X (binaryOp .Add) aaM:=by
 intro pins s σ H x y v u Q I rx ry h;obtain⟨l,b,xs,zs,rfl,rfl,hH,hB,hz,q⟩:=h;cases rx;cases ry;obtain⟨z,its,n,r,hl,e⟩:=I.lstM hH;obtain⟨z2,its2,n2,r2,hl2,e2⟩:=I.lstM hB;refine PySem.P.add_list e e2 ?_ (by rw [size_toArray,size_toArray];lia);have ea:its.toArray ++ its2.toArray=(its ++ its2).toArray:=by simp
 rw [ea];exact⟨.ref _,_,I.lnew (t':=s.toks) (r.append r2) (by rw [length_append];lia),rfl,q _ I.fresh⟩
inductive Wu (x:V) (y:V) (H:Hp) (Q:VK):Prop where
 | mk:∀l k xs,x=.ref l->y=.int k->H l=some (.lst xs)-> -(2 ^ 63)<=k->k <2 ^ 63->xs.length * k.toNat<=sizeLine->(∀p,H p=none->Q (.ref p) (upd H p (.lst (List.replicate k.toNat xs).flatten)))->Wu x y H Q
noncomputable def aaL:R2:=λx y H Q=>Wu x y H Q
theorem len_rep {α:Type} (xs:List α) (k:Nat):(List.replicate k xs).flatten.length=k * xs.length:=by
 induction k with
 | zero=>simp
 | succ k ih=>rw [replicate_succ,flatten_cons,length_append,ih,Nat.succ_mul,Nat.add_comm]
theorem Yl:vU X (binaryOp .Mult) aaL:=by
 intro pins s σ H x y v u Q I rx ry h;obtain⟨l,k,xs,rfl,rfl,hH,h1,h2,hz,q⟩:=h;cases rx;obtain⟨t,rfl⟩:=ry;obtain⟨z,its,n,r,hl,e⟩:=I.lstM hH;have hlen:its.toArray.size * k.toNat<=sizeLine:=by rw [size_toArray,<-hl];exact hz
 have hcap:¬its.toArray.size * k.toNat >(2 ^ 63 - 1) / 8:=by
  have:(sizeLine:Nat)<=(2 ^ 63 - 1) / 8:=by decide
  lia
 have hfit:¬(!Builtin.List.listFitsIndex k)=true:=by rw [fitsIndex_both h1 h2];exact Bool.false_ne_true
 have hlong:¬Builtin.List.listTooLong (its.toArray.size * k.toNat)=true:=by rw [J0 hlen];exact Bool.false_ne_true
 have hnew:List.foldl (λx1 x2=>x1 ++ x2) #[] (List.replicate (if its.toArray.isEmpty=true then 0 else k.toNat) its.toArray)=(List.replicate k.toNat its).flatten.toArray:=by
  have f0:∀m:Nat,List.foldl (λx1 x2=>x1 ++ x2) #[] (List.replicate m its.toArray)=(List.replicate m its).flatten.toArray:=λm=>by have:=foldl_rep its m [];rw [List.nil_append] at this;exact this
  rw [f0];cases its with
  | nil=>simp
  | cons a r'=>rw [if_neg (by simp)]
 refine wpAny_binaryOp_repeat_ref (T:= "list") (U:= "int") (by decide) ⟨_,e,Z⟩ (λs'=>typeIs_int s' k t) noFill_list_mul F.fills_int_mul F.slot_int_rmul repeat_list F.slot_int_index.lookup
  (call_meets F.slot_int_rmul (typeIs_int s k t) F.entry_int_rmul (F.args_int_rmul_2 _ _) (int___rmul___int_list k t l its.toArray n)
   ⟨e,rfl,⟨_,e,rfl⟩,call_meets F.slot_list_mul ⟨_,e,rfl⟩ F.entry_list_mul (F.args_list_mul_2 _ _) (AutoListH.list___mul___list_int_3 l its.toArray n k t hfit hcap hlong) ⟨e,?_⟩⟩)
 rw [hnew];exact⟨.ref _,_,I.lnew (t':=s.toks) (r.rep k.toNat) (by rw [len_rep,Nat.mul_comm];exact hz),rfl,q _ I.fresh⟩
end
section
variable {prog:Program} {w:World} {A:Around} {E:Value->Shared->Prop} {s:Shared}
end
section
variable {X:Cx}
end
end L2
namespace Att
open PySem PySem.W PySem.Calls PyProof.Rows
theorem Am {P:Params} {h:Heap}:∀(ns:List Int) (vs:List Value),WellAll P h vs (ns.map WData.int)->IntsAre vs ns:=by
 intro ns;induction ns with
 | nil=>
  intro vs w;rw [map_nil] at w;cases w;exact .nil
 | cons n ns ih=>
  intro vs w;rw [map_cons] at w;cases w with
  | cons a b=>
   cases a;exact .cons _ _ (ih _ b)
theorem Ph {l:OpenLaw} {n:Nat} (hn:l.most=some n) {P:Params} {h:Heap} {args:List WData} {vals:List Value}
  (hpre:l.row.toRowW.claim.pre args=true) (hwl:WellAll P h vals args):
  ∃a vs ns,vals=[Value.ref a]/\args=[WData.list (ns.map WData.int)]/\h.get? a=some { cls:=.type "list",data:=.seq vs.toArray }/\IntsAre vs ns/\ns.length<=n:=by
 have hsh:WShape.hasAll [] args [.list .int]=true:=(pre_splitW hpre).1;have hc:l.pre.holds [] { args:=args }=true:=(pre_splitW hpre).2;obtain⟨d,r,rfl,h1,h2⟩:=hasAllW_cons hsh;obtain rfl:=hasAllW_nil h2;obtain⟨xs,rfl,h3⟩:=hasW_list h1;obtain⟨ns,rfl⟩:=items_int h3;have hlen:ns.length<=n:=by
  unfold OpenLaw.pre at hc;have h4:(WTm.not (.lt (.lit (.int (n:Int))) (.len (.arg 0)))).holds [] { args:=[.list (ns.map .int)] }=true:=by have h4:=(holds_andW hc).1;rw [hn] at h4;exact h4
  have h5:=condW_of h4 (w_not (w_lt w_lit (w_len_list (w_arg rfl))));rw [length_map] at h5;refine Nat.le_of_not_lt λq=>?_;have q':(n:Int) <((ns.length:Nat):Int):=by lia
  first
   | (rw [decide_eq_true q'] at h5;exact absurd h5 (by decide))
   | (simp at h5;lia)
 cases hwl with
 | cons w1 w2=>
  cases w2;cases w1 with
  | list ho hall=>exact⟨_,_,ns,rfl,rfl,ho,Am ns _ hall,hlen⟩
theorem OJ (l:OpenLaw) (args:List WData):l.row.toRowW.claim.post args (.bool true) args=true:=
 postW_of (r:=l.row.toRowW) (X:=(true == true))
  (show WShape.has [] (.bool true) .bool=true by first | rfl | decide | simp [WShape.has,WShape.arms,WShape.armsAll])
  (show(WTm.eq .res (.lit (.bool true))).value [] { args:=args,res:=some (.bool true),after:=args }=some (.bool (true == true)) from w_eq_bool (w_res rfl) w_lit) rfl
theorem JV {l:OpenLaw} {n:Nat} {q:Program} {loose:List Str} {XP:(Str->Option Value)->Heap->Prop} {YP:World->Heap->Prop} {d:DefRec}
  (hn:l.most=some n) (hdf:d.params.defaults=[])
  (call:∀(w:World) (s₀ s₁:Shared) (mg mb:Str->Option Value) (fa:Addr) (o:Obj) (pm cd doc:Value) (a:Addr) (vs:List Value) (ns:List Int),
   Ground q loose [] XP w s₀ mg mb s₁.heap->YP w s₁.heap->
   s₁.heap.get? fa=some o->o.data=.func (docDef d.name d.params d.body d.scope pm cd doc)->s₁.heap.CodeRec cd d.name->mg d.name=some (.ref fa)->
   s₁.heap.get? a=some { cls:=.type "list",data:=.seq vs.toArray }->IntsAre vs ns->ns.length<=n->s₁.gens= #[]->
   codeAny (model l.prog w) callerA (.call (.ref fa) ⟨[.ref a],[]⟩) (λr s'=>r=.ok (.ret (.bool true))/\OldK s₁.heap s'.heap/\s'.os=s₁.os/\AllBare s'.gens) s₁):
  WalkO q loose XP YP l.row.toRowW d [] (λf vs=>PySem.call f vs):=by
 intro w s₀ s₁ mg mb G Y fa o pm cd doc dV kV ho hd hcd hD hmg hg args vals as hpre hlay hrd hwl hlo;obtain rfl:dV=.none:=Dflts.none hD hdf;obtain rfl:kV=.none:=Dflts.noKw hD;obtain⟨a,vs,ns,rfl,rfl,hobj,hints,hlen⟩:=Ph hn hpre hwl;refine enter_call (codeAny_mono (call w s₀ s₁ mg mb fa o pm cd doc a vs ns G Y ho (fd_plain hd) hcd hmg hobj hints hlen hg) λr s' hq=>?_);obtain⟨rfl,h2,h3,h4⟩:=hq;exact⟨.inl ⟨.bool true,.bool true,[],Z,λ_=>Z,.bool true,OJ l _,λ_=>⟨List.Pairwise.nil,λ_ hm=>(nomatch hm)⟩⟩,h2,h3,h4⟩
section
variable {prog:Program} {w:World} {A:Around} {E:Value->Shared->Prop} {s:Shared} {K:Frag}
end
end Att
namespace L2
open PySem PySem.Spec PyProof.Rows
theorem qC:∀{vs:List Value} {ns:List Int},IntsAre vs ns->Vals (ns.map V.int) vs
 | _,_,.nil=>.nil
 | _,_,.cons n t h=>.cons ⟨t,rfl⟩ (qC h)
noncomputable def Only (H:Hp):Prop:=∀b,H b=none∨∃o xs,H b=some (.frz o (.lst xs))
theorem SQ {P:Program} {w:World} {K:Fr} {mg mb:Str->Option Value} {CX:Dp} {k:Nat} {fa a:Addr} {fd:FuncData} {x:Str} {sp:Sp} {s₁:Shared} {vs:List Value} {ns:List Int}
  (KX:K.In s₁.heap) (hns:s₁.heap.Ns mainGlobals mg) (hb:s₁.heap.Ns builtinsNs mb) (hbb:∀x:Str,x≠ "__name__" ->mb x=bootBuiltins x) (hlim:s₁.heap.NoLimit) (hg:s₁.gens= #[])
  (ha:s₁.heap.get? a=some { cls:=.type "list",data:=.seq vs.toArray }) (hi:IntsAre vs ns) (hl:ns.length<=sizeLine) (hr:gJ k callerA)
  (F:∀base:Heap,K.In base->base.Ns mainGlobals mg->fY P w K mg base CX k fa fd [x] sp) (hbind:∀(s:Shared) (u:Value),BindsTo s fd ⟨[u],[]⟩ [(x,u)])
  (hsp:∀H:Hp,Only H->bT K H a (ns.map V.int)->sp [.ref a] H (λv _=>v=.bl true) λ_ _ _=>False)
  (hCX:∀H e s',CX [] H s₁ (λ_ _ _=>False) e s'->False):
  codeAny (model P w) callerA (.call (.ref fa) ⟨[.ref a],[]⟩) (λr s'=>r=.ok (.ret (.bool true))/\OldK s₁.heap s'.heap/\s'.os=s₁.os/\AllBare s'.gens) s₁:=by
 have rv:=qC hi;have lenV:=hi.length;have core:∀H:Hp,Only H->bT K H a (ns.map V.int)->rT P w H s₁.heap->(∀b,H b≠none->b=a)->(H a≠none->K.lookup a=none)->
   codeAny (model P w) callerA (.call (.ref fa) ⟨[.ref a],[]⟩) (λr s'=>r=.ok (.ret (.bool true))/\OldK s₁.heap s'.heap/\s'.os=s₁.os/\AllBare s'.gens) s₁:=by
  intro H hO hS hok hA hK;have base_of:∀{b:Addr} {o:Obj},s₁.heap.get? b=some o->H b=none->(GX s₁.heap H).get? b=some o:=λe n=>S8 e n;have noA:∀{b:Addr} {o:Obj} {es:Array DictEntry} {ep:Nat},s₁.heap.get? b=some o->o.data=.dict es ep->H b=none:=λ{b o es ep} e d=>by
   cases q:H b with
   | none=>rfl
   | some u=>
    have e':b=a:=hA b (by rw [q];simp);subst e';rw [ha] at e;cases e;have d':Data.seq vs.toArray _=Data.dict es ep:=d;cases d'
  have Qo:∀{b:Addr} {m:Str->Option Value},s₁.heap.Ns b m->(GX s₁.heap H).Ns b m:=λ{b m} ⟨o,es,ep,e,d,r⟩=>⟨o,es,ep,base_of e (noA e d),d,r⟩;have hKb:K.In (GX s₁.heap H):=λb o e=>base_of (KX b o e) (by
   cases q:H b with
   | none=>rfl
   | some u=>
    have e':b=a:=hA b (by rw [q];simp);subst e';rw [hK (by rw [q];simp)] at e;cases e)
  have hM:Mod K mg (GX s₁.heap H):=⟨hKb,Qo hns,⟨mb,Qo hb,hbb⟩,let ⟨mc,h1,h2⟩:=hlim;⟨mc,Qo h1,h2⟩⟩;have e0:Kw P w K mg (GX s₁.heap H) callerA [] s₁ H:=⟨rfl,hM,λb o e=>VF e,Nat.le_of_eq (O4 _ _),trivial,λb hb=>absurd (show b∈([]:List Addr) from hb) (by simp),hok,.of_eq hg⟩;refine codeAny_mono ((F _ hKb (Qo hns)).run callerA [] s₁ H ⟨[.ref a],[]⟩ [.ref a] [.ref a] _ _ hr e0 (hbind s₁ (.ref a)) (.cons Z .nil) (hsp H hO hS)) λr s' h=>?_;cases r with
  | error e=>exact(hCX H e s' h).elim
  | ok fl=>
   cases fl with
   | next=>exact False.elim h
   | brk=>exact False.elim h
   | cont=>exact False.elim h
   | ret u=>
    obtain⟨v,H',os,bare,un,hok',r',q⟩:=h;have q':v=.bl true:=q;subst q';obtain rfl:u=Value.bool true:=r';refine⟨Z,OldK.of_keep λb o e=>?_,os,bare⟩;cases q:H b with
    | none=>exact un.keep b o e q (by intro z;exact absurd (show b∈([]:List Addr) from z) (by simp)) (by simp)
    | some u=>
     rcases hO b with z | ⟨ob,xs,z⟩
     ·rw [q] at z;cases z
     ·have z2:=un.frzs b ob _ z;obtain⟨e1,_⟩:=hok b _ z;obtain⟨e2,_⟩:=hok' b _ z2;rw [e] at e1;cases e1;exact e2
 cases hk:K.lookup a with
 | some o=>
  have e:=KX a o hk;rw [ha] at e;cases e;refine core (λ_=>none) (λ_=>.inl rfl) (.inr ⟨_,vs.toArray,_,hk,rfl,rfl,rfl,by rw [size_toArray,lenV];exact hl,by simpa using rv⟩) (λb u z=>by have z':(none:Option HO)=some u:=z;cases z') (λb z=>absurd rfl z) λz=>absurd rfl z
 | none=>
  refine core (λb=>if b=a then some (.frz { cls:=.type "list",data:=.seq vs.toArray } (.lst (ns.map V.int))) else none) (λb=>?_) (.inl (.inr ⟨{ cls:=.type "list",data:=.seq vs.toArray },if_pos Z⟩)) (λb u z=>?_) (λb z=>?_) λ_=>hk
  ·by_cases hb:b=a
   ·exact .inr ⟨_,_,if_pos hb⟩
   ·exact .inl (if_neg hb)
  ·by_cases hb:b=a
   ·have z':=(if_pos hb).symm.trans z;cases z';subst hb;exact⟨ha,by rw [length_map];exact hl,vs,_,rv,ha⟩
   ·have z':=(if_neg hb).symm.trans z;cases z'
  ·by_cases hb:b=a
   ·exact hb
   ·exact absurd (if_neg hb) z
theorem VB {l:PySem.W.OpenLaw} {n k:Nat} {q:Program} {loose:List Str} {XP:(Str->Option Value)->Heap->Prop} {YP:World->Heap->Prop} {d:DefRec} {K:Params->Fr} {CX:World->Dp} {sp:World->Sp} {x:Str}
  (hn:l.most=some n) (hn2:n<=sizeLine) (hdf:d.params.defaults=[]) (hr:gJ k callerA)
  (hY:∀(w:World) (h:Heap),YP w h->(K w.params).In h)
  (F:∀(w:World) (mg:Str->Option Value) (fa:Addr) (h:Heap),(K w.params).In h->h.Ns mainGlobals mg->mg d.name=some (.ref fa)->
   ∃fd:FuncData,(∀(s:Shared) (u:Value),BindsTo s fd ⟨[u],[]⟩ [(x,u)])/\
    ∀base:Heap,(K w.params).In base->base.Ns mainGlobals mg->fY l.prog w (K w.params) mg base (CX w) k fa fd [x] (sp w))
  (hsp:∀(w:World) (H:Hp) (a:Addr) (ns:List Int),ns.length<=n->Only H->bT (K w.params) H a (ns.map V.int)->sp w [.ref a] H (λv _=>v=.bl true) λ_ _ _=>False)
  (hCX:∀(w:World) (H:Hp) (s:Shared) (e:Value) (s':Shared),CX w [] H s (λ_ _ _=>False) e s'->False):
  PySem.W.WalkO q loose XP YP l.row.toRowW d [] (λf vs=>PySem.call f vs):=by
 refine Att.JV hn hdf λw s₀ s₁ mg mb fa o pm cd doc a vs ns G Y ho hd hcd hmg hobj hints hlen hg=>?_;have KX:=hY w _ Y;obtain⟨fd,hb,hF⟩:=F w mg fa _ KX G.T.g hmg;exact SQ KX G.T.g G.T.b G.T.builtins G.T.nolimit hg hobj hints (le_trans hlen hn2) hr hF hb (λH hO hS=>hsp w H a ns hlen hO hS) λH e s'=>hCX w H s₁ e s'
noncomputable def inClass (s:Stmt) (j:Nat):Stmt:=match s with
 | .ClassDef _ _ _ body _ _ _ _ _ _ _=>body.getD j (.Pass ⟨0,0,0,0⟩)
 | _=>.Pass ⟨0,0,0,0⟩
noncomputable def iU (s:Stmt):Arguments:=match s with
 | .FunctionDef _ a _ _ _ _ _ _ _ _=>a
 | _=>{ posonlyargs:=[],args:=[],vararg:=none,kwonlyargs:=[],kw_defaults:=[],kwarg:=none,defaults:=[] }
noncomputable def gw (s:Stmt):List Stmt:=match s with
 | .FunctionDef _ _ b _ _ _ _ _ _ _=>b
 | _=>[]
noncomputable def bh (s:Stmt):Scope:=match s with
 | .FunctionDef _ _ _ _ _ _ sc _ _ _=>sc
 | _=>{ kind:=.function,names:=[],isGenerator:=false,isCoroutine:=false }
noncomputable abbrev Eh:Dp:=λ_ _ _ _ _ _=>False
noncomputable abbrev E0:XK:=λ_ _ _=>False
theorem gY {X:Cx}:j7 Eh X E0:=λ_ _ _ _ _ _ _ h=>h.elim
structure Ub (K:Fr) (x qual:Str) (st:Stmt) (f:Addr) (fd:FuncData):Prop where
 ex:∃(oc:Value) (od:Option Addr) (kV doc pm:Value) (an:Option Addr) (cdv ct:Value) (osl:Array (Option Value)),
  fd=PySem.W.fnOf x qual (iU st) (gw st) (bh st) .none kV doc pm an cdv ct/\K.lookup f=some ⟨oc,od,.func fd,osl⟩/\PySem.W.codeIn K cdv qual=true
 kp:PySem.W.keepIn K (.ref f)=true
section
variable {P:Program} {w:World} {K:Fr} {mg:Str->Option Value} {base:Heap}
theorem Ub.ok {x qual:Str} {st:Stmt} {f:Addr} {fd:FuncData} {N ps:List Str} {k:Nat} {sp:Sp} (F:Ub K x qual st f fd) (S:gj N ps (bh st)) (len:∀vs H Q E,sp vs H Q E->vs.length=ps.length)
  (hbody:∀(cdv:Value) (A:Around) (outer:List Env) (s:Shared) (H:Hp) (vs:List V) (Q:VK) (E:XK),gJ k (A.deeper (envOfC qual (bh st) s.heap.objs.size f cdv))->sp vs H Q E->
   ∃t,Ku (jg Eh P w K mg base N qual (bh st) f cdv A outer s H E).nox (gw st) t/\t { nx:=λ_ H'=>Q .non H',rt:=Q } (start N vs) H):fY P w K mg base Eh (k+1) f fd ps sp:=by
 obtain⟨oc,od,kV,doc,pm,an,cdv,ct,osl,rfl,lk,hcd⟩:=F.ex;refine Wh lk hcd S len λA outer s H vs Q E hr hsp=>?_;obtain⟨t,h,q⟩:=hbody cdv A outer s H vs Q E hr hsp;exact⟨t,h.nox,q⟩
theorem Ub.binds {x qual:Str} {st:Stmt} {f:Addr} {fd:FuncData} {ps:List Str} (F:Ub K x qual st f fd)
  (h:∀(kV doc pm:Value) (an:Option Addr) (cdv ct:Value) (us:List Value),us.length=ps.length->bindArgs (PySem.W.fnOf x qual (iU st) (gw st) (bh st) .none kV doc pm an cdv ct) ⟨us,[]⟩=pure (ps.zip us)):Binds K fd ps []:=by
 obtain⟨oc,od,kV,doc,pm,an,cdv,ct,osl,rfl,lk,hcd⟩:=F.ex;exact .all (h kV doc pm an cdv ct)
theorem W0 {x qual:Str} {st:Stmt} {f:Addr} {oc:Value} {od an:Option Addr} {osl:Array (Option Value)} {kV doc pm cdv ct:Value} (l:K.lookup f=some ⟨oc,od,.func (PySem.W.fnOf x qual (iU st) (gw st) (bh st) .none kV doc pm an cdv ct),osl⟩)
  (c:PySem.W.codeIn K cdv qual=true) (k:PySem.W.keepIn K (.ref f)=true):Ub K x qual st f (PySem.W.fnOf x qual (iU st) (gw st) (bh st) .none kV doc pm an cdv ct):=⟨⟨oc,od,kV,doc,pm,an,cdv,ct,osl,rfl,l,c⟩,k⟩
end
section
variable {X:Cx}
theorem pv (i:Nat) {x:Str} {pos:Pos} (hN:X.N[i]?=some x:=by rfl) (hv:Zn X.env.scope x:=by first | exact Or.inl rfl | exact Or.inr (Or.inl rfl) | exact Or.inr (Or.inr rfl)) (hd:(x == ("__debug__" :Str))=false:=by decide)
  (hcd:(x == ("__classdict__" :Str))=false:=by decide):PE X (.Name x pos) (wD i):=WT hN hv hd hcd
end
theorem cQ {A B:Prop} (h:B):if false=true then A else B:=by rw [if_neg Bool.false_ne_true];exact h
theorem fc {A B:Prop} (h:A):if true=true then A else B:=by rw [if_pos rfl];exact h
theorem iD {c A B:Prop} [Decidable c] (h1:c->A) (h2:¬c->B):if c then A else B:=by
 by_cases h:c
 ·rw [if_pos h];exact h1 h
 ·rw [if_neg h];exact h2 h
noncomputable def aO (H H':Hp):Prop:=∀b o,H b=some o->H' b=some o
theorem aO.refl (H:Hp):aO H H:=λ_ _ h=>h
theorem aO.trans {H H1 H2:Hp} (a:aO H H1) (b:aO H1 H2):aO H H2:=λc o h=>b c o (a c o h)
theorem aO.free {H H':Hp} (e:aO H H') {l:Addr} (h:H' l=Option.none):H l=Option.none:=by
 cases q:H l with
 | none=>rfl
 | some o=>
  rw [e l o q] at h;cases h
theorem aO.seq {K:Fr} {H H':Hp} {a:Addr} {xs:List V} (e:aO H H') (h:bT K H a xs):bT K H' a xs:=by
 rcases h with (h | ⟨o,h⟩) | h
 ·exact .inl (.inl (e _ _ h))
 ·exact .inl (.inr ⟨o,e _ _ h⟩)
 ·exact .inr h
end L2
set_option maxHeartbeats 4000000
namespace L2
open PySem PySem.Spec PyProof.Rows
theorem FQ {P:Program} {w:World} {H:Hp} {h:Heap} {a:Addr} {o:HO} (x:rT P w H h) (hn:H a=none) (new:dg P w (upd H a o) h a o):rT P w (upd H a o) h:=λb u e=>by
 by_cases hb:b=a
 ·subst hb;rw [az] at e;cases e;exact new
 ·rw [aH hb] at e;exact(x b u e).stay (λc v _ q=>q) (λc q=>by rw [aH (aF q hn)];exact q) λc xs q=>by rw [aH (aF q hn)];exact q
theorem Dr {α β:Type} {f:α->β->Sem (ForInStep β)} (g:α->β->β):∀(l:List α) (c:β),(∀x∈l,∀c,f x c=pure (.yield (g x c)))->forIn l c f=pure (l.foldl (λc x=>g x c) c)
 | [],_,_=>rfl
 | x:: l,c,h=>by rw [List.forIn_cons,h x mem_cons_self,pure_bind];exact Dr g l (g x c) λy hy=>h y (mem_cons_of_mem _ hy)
noncomputable def vf (env:Env) (x:Str×NameKind) (cs:List (Str×Addr)):List (Str×Addr):=
 if x.2=.free then(match env.cells.lookup x.1 with | some c=>(x.1,c):: cs | none=>cs) else cs
noncomputable def clos (env:Env) (l:List (Str×NameKind)) (c:List (Str×Addr)):List (Str×Addr):=l.foldl (λc x=>vf env x c) c
theorem pK {env:Env} {scope:Scope} (h:∀y∈scope.names,y.2=.free->∃c,env.cells.lookup y.1=some c):closureFor scope env=pure (clos env scope.names []):=by
 simp only [closureFor];rw [Dr (vf env) scope.names [] λx hx c=>?_]
 ·rfl
 ·obtain⟨n,k⟩:=x;by_cases hk:k=.free
  ·subst hk;obtain⟨a,ha⟩:=h _ hx rfl;have ha':env.cells.lookup n=some a:=ha;simp [cellOf,ha',vf]
  ·have:(k == NameKind.free)=false:=by simpa using hk
   simp [this,vf,hk]
theorem Kl {env:Env}:∀(l:List (Str×NameKind)) (c:List (Str×Addr)),(∀y a,c.lookup y=some a->env.cells.lookup y=some a)->∀y a,(clos env l c).lookup y=some a->env.cells.lookup y=some a
 | [],_,h=>h
 | x:: l,c,h=>by
  refine Kl l (vf env x c) λy a e=>?_;unfold vf at e;by_cases hk:x.2=.free
  ·rw [if_pos hk] at e;cases q:env.cells.lookup x.1 with
   | none=>rw [q] at e;exact h y a e
   | some b=>
    rw [q] at e;by_cases hy:(y == x.1)=true
    ·have:y=x.1:=by simpa using hy
     subst this;have e':((x.1,b):: c).lookup x.1=some a:=e;simp [lookup_cons] at e';rw [q,e']
    ·have hy':(y == x.1)=false:=by simpa using hy
     have e':((x.1,b):: c).lookup y=some a:=e;rw [lookup_cons,hy'] at e';exact h y a e'
  ·rw [if_neg hk] at e;exact h y a e
theorem CK {env:Env}:∀(l:List (Str×NameKind)) (c:List (Str×Addr)) (y:Str),((∃a,c.lookup y=some a)∨∃k∈l,k.1=y/\k.2=.free/\∃a,env.cells.lookup y=some a)->∃a,(clos env l c).lookup y=some a
 | [],_,_,h=>by
  rcases h with h | ⟨k,hk,_⟩
  ·exact h
  ·cases hk
 | x:: l,c,y,h=>by
  refine CK l (vf env x c) y ?_;have up:(∃a,c.lookup y=some a)->∃a,(vf env x c).lookup y=some a:=λ⟨a,e⟩=>by
   unfold vf;split
   ·split
    ·rename_i b q;by_cases hy:(y == x.1)=true
     ·exact⟨b,by rw [lookup_cons,hy]⟩
     ·have hy':(y == x.1)=false:=by simpa using hy
      exact⟨a,by rw [lookup_cons,hy'];exact e⟩
    ·exact⟨a,e⟩
   ·exact⟨a,e⟩
  rcases h with h | ⟨k,hk,h1,h2,a,h3⟩
  ·exact .inl (up h)
  ·rcases mem_cons.mp hk with e | hk
   ·subst e;left
    unfold vf;rw [if_pos h2,h1,h3];exact⟨a,by simp [lookup_cons]⟩
   ·exact .inr ⟨k,hk,h1,h2,a,h3⟩
theorem uq (scope:Scope) (env:Env) (y:Str):(relabel scope env).names.lookup y=(scope.names.lookup y).map λk=>if (k == NameKind.free && env.scope.kind == .function && env.kindOf y == some .cell)=true then .cell else k:=by
 show(scope.names.map _).lookup y=_;induction scope.names with
 | nil=>rfl
 | cons p l ih=>
  obtain⟨n,k⟩:=p;rw [map_cons];show List.lookup y ((if (k == NameKind.free && env.scope.kind == .function && env.kindOf n == some .cell)=true then(n,NameKind.cell) else(n,k)):: _)=_;by_cases hy:(y == n)=true
  ·have:y=n:=by simpa using hy
   subst this;by_cases hc:(k == NameKind.free && env.scope.kind == .function && env.kindOf y == some .cell)=true
   ·rw [if_pos hc];simp only [lookup_cons,beq_self_eq_true,map_some];rw [if_pos hc]
   ·rw [if_neg hc];simp only [lookup_cons,beq_self_eq_true,map_some];rw [if_neg hc]
  ·have hy':(y == n)=false:=by simpa using hy
   by_cases hc:(k == NameKind.free && env.scope.kind == .function && env.kindOf n == some .cell)=true
   ·rw [if_pos hc];simp only [lookup_cons,hy'];exact ih
   ·rw [if_neg hc];simp only [lookup_cons,hy'];exact ih
noncomputable def dR (N:List Str) (js:List Nat):List Str:=js.map λj=>(N[j]?).getD Str.empty
noncomputable def dW (σ:St) (js:List Nat):St:=js.map λj=>(σ[j]?).join
noncomputable def yM (X:Cx) (scope:Scope) (x:Str) (js:List Nat) (cl:List (Str×Addr)) (C:Addr) (s:Shared) (H:Hp) (ex:List Addr):Cx where
 prog:=X.prog
 w:=X.w
 K:=X.K
 mg:=X.mg
 base:=X.base
 A:=X.A
 N:=x:: dR X.N js
 s₀:=s
 H₀:=H
 env:=compEnvC scope cl C X.env
 outer:=X.stack
 stack:=X.stack
 ex:=ex
 fn:=λ_=>false
 calm:=X.calm
 pn:=[]
 xe:=λ_ _=>False
noncomputable def PF (X:Cx) (ifs:List Expr) (t:TT):Prop:=
 ∀(pins:List (Addr×Obj)) (s:Shared) (σ:St) (H:Hp) (Q:Bool->Hp->Prop),Inv X pins σ H s->t σ H Q->
  wpAny (model X.prog X.w) X.A (forIn ifs true λc r=>if r=true then do let ok <-isTrue c X.env (eval c X.env);pure (ForInStep.yield ok) else pure (ForInStep.yield r)) (TP X pins σ Q) X.xe s
noncomputable def X5:TT:=λ_ H Q=>Q true H
theorem jw {X:Cx}:PF X [] X5:=λ_ _ _ H _ I h=>wpAny_pure ⟨H,I,h⟩
theorem CP {X:Cx} {c:Expr} {t:TT} (hc:PT X c t):PF X [c] t:=by intro pins s σ H Q I h;rw [List.forIn_cons,if_pos rfl];refine wpAny_bind (wpAny_bind (dC (hc pins s σ H Q I h) λb s1 q=>wpAny_pure ?_));show wpAny (model X.prog X.w) X.A (pure b) (TP X pins σ Q) X.xe s1;exact wpAny_pure q
inductive CompEnd (js:List Nat) (tt:TT) (te:TE) (σ:St) (Qd:List V->Hp->Prop) (J:It) (H1:Hp):Prop where
 | mk:∀W:Nat->Nat->List V->Hp->Prop,((∃m,W 0 m [] H1))->(∀i m ys H2,W i m ys H2->
 (J.stop i H2/\ys.length<=sizeLine/\Qd ys H2)∨
 (J.go i H2/\ys.length <sizeLine/\∃N:List V->Hp->Prop,(∀ys' H',N ys' H'->∃m',m' <m/\W (i+1) m' ys' H')/\∀x H3,J.yld i H2 x H3->tt (some x:: dW σ js) H3 λb H4=>
  if b=true then te (some x:: dW σ js) H4 λy H5=>N (ys ++ [y]) H5 else N ys H4))->CompEnd js tt te σ Qd J H1
noncomputable def V9 (js:List Nat) (wi:TI) (tt:TT) (te:TE):TE:=λσ H Q=>wi σ H (CompEnd js tt te σ λys H2=>∀D,H2 D=none->Q (.ref D) (upd H2 D (.lst ys)))
section
variable {X:Cx} {x:Str} {px pos:Pos} {iter elt:Expr} {ifs:List Expr} {scope:Scope} {wi:TI} {tt:TT} {te:TE}
end
section
variable {X:Cx}
theorem pA:vU X (binaryOp .Mult) (rI IntMulOk λi j=>.int (i * j)):=Z9 λ_ _ _ _ _ _ _ hc q=>mul_int q hc
noncomputable def Wa (_ j:Int):Prop:=0 <j/\j.natAbs.log2 <9000
theorem Q0:vU X (binaryOp .FloorDiv) (rI Wa λi j=>.int (i / j)):=Z9 λi j _ _ _ _ _ hc q=>by have h1:(0:Int) <j:=hc.1;exact floordiv_int (by lia) (by rw [Int.fdiv_eq_ediv_of_nonneg i (by lia)];exact q) (.inl (PyProof.noPylong_of_log2 hc.2))
theorem Y8 {i j:Int} (h0:0 <j) (h:j.natAbs <2 ^ 9000):Wa i j:=⟨h0,(Nat.log2_lt (by lia)).mpr h⟩
noncomputable def V7 (K:Fr) (H:Hp) (x:V) (T:String):Prop:=match x with
 | .non=>T= "NoneType"
 | .bl _=>T= "bool"
 | .int _=>T= "int"
 | .str _=>T= "str"
 | .ref p=>(T= "list" /\∃xs,bT K H p xs)∨(T= "tuple" /\∃xs,fZ K H p xs)∨(T= "dict" /\∃kvs,H p=some (.dK kvs))
 | _=>False
noncomputable def Hg (a b:String):Bool:=a == b || (a == "bool" && b == "int")
noncomputable def Nm:List String:=["int", "bool", "str", "list", "tuple", "dict"]
noncomputable def iW:List String:=["NoneType", "bool", "int", "str", "list", "tuple", "dict"]
theorem Qy:∀T∈Nm,PySem.W.kitMeta T=true:=by decide +kernel
theorem UG:∀a∈iW,∀b∈Nm,(PySem.fastBuiltinMro a).map (·.contains (.type b))=some (Hg a b):=by decide +kernel
theorem U4 (K:Fr) {a b:String} (ha:a∈iW) (hb:b∈Nm):PySem.W.kitOne K (.type a) (.type b)=some (Hg a b):=by
 unfold PySem.W.kitOne;by_cases h:(Value.type a == Value.type b)=true
 ·rw [if_pos h];have e:a=b:=by have:=beq_iff_eq.mp h;injection this
  subst e;simp [Hg]
 ·rw [if_neg h];show(if PySem.W.kitMeta b=true then PySem.W.subIn K (.type a) (.type b) else none)=_;rw [if_pos (Qy b hb)];exact UG a ha b hb
theorem oA:jj X (.builtin "isinstance") (λxs H Q=>∃x Tx T b,xs=[x,.ty T]/\V7 X.K H x Tx/\T∈Nm/\Hg Tx T=b/\Q (.bl b) H):=by
 intro pins s σ H xs us Q I r h;obtain⟨x,Tx,T,b,rfl,ty,hT,rfl,q⟩:=h;obtain⟨u,w',rfl,rx,ry⟩:=vals2 r;cases ry;have fin:∀{b:Bool},b=Hg Tx T->∀tk,EP X pins σ Q (.bool b) { s with toks:=tk }:=λe tk=>⟨.bl (Hg Tx T),H,I.tok tk,by rw [e];rfl,q⟩;have go:∀{P:Heap->Prop},PySem.W.KitX X.K u (.type Tx) P->P s.heap->Tx∈iW->u≠.builtin "__main__.__loader__#opaque" ->wpAny (model X.prog X.w) X.A (call (.builtin "isinstance") [u,.type T]) (EP X pins σ Q) X.xe s:=λY1 p hm hx=>
  PySem.W.kia_one Y1 I.kIn p (U4 X.K hm hT) hx λtk=>fin rfl tk
 cases x with
 | non=>cases rx;cases (show Tx= "NoneType" from ty);exact go PySem.W.kitx_none trivial (by decide) (by intro e;cases e)
 | bl b=>cases rx;cases (show Tx= "bool" from ty);exact go PySem.W.kitx_bool trivial (by decide) (by intro e;cases e)
 | int i=>obtain⟨t,rfl⟩:=rx;cases (show Tx= "int" from ty);exact go PySem.W.kitx_int trivial (by decide) (by intro e;cases e)
 | str z=>obtain⟨t,rfl⟩:=rx;cases (show Tx= "str" from ty);exact go PySem.W.kitx_str trivial (by decide) (by intro e;cases e)
 | ref p=>
  cases rx;rcases ty with ⟨rfl,ys,hq⟩ | ⟨rfl,ys,hq⟩ | ⟨rfl,kvs,hq⟩
  ·obtain⟨its,_,pl,_⟩:=I.list hq;obtain⟨o,n,e,c,_,_⟩:=pl;exact go PySem.W.kitx_list ⟨o,e,c⟩ (by decide) (by intro e;cases e)
  ·obtain⟨its,_,⟨o,e,c,_⟩,_⟩:=I.tuple hq;exact go PySem.W.kitx_tuple ⟨o,e,c⟩ (by decide) (by intro e;cases e)
  ·obtain⟨_,_,_,_,o,_,_,e,ex,_⟩:=I.hok p _ hq;exact go PySem.W.kitx_dict ⟨o,e,ex.1⟩ (by decide) (by intro e;cases e)
 | _=>exact(show False from ty).elim
inductive Rh (K:Fr) (x:V) (xs:List V) (H:Hp) (Q:VK):Prop where
 | mk:∀z p ys,x=.str z->xs=[.ref p]->bT K H p (ys.map V.str)->(ys.map (·.length)).sum+ys.length * z.length<=16777216->Q (.str (Txt.join z ys)) H->Rh K x xs H Q
noncomputable def rJoin (K:Fr):V->List V->Hp->VK->Prop:=λx xs H Q=>Rh K x xs H Q
theorem Du:∀{ys:List Str} {us:List Value},Vals (ys.map V.str) us->StrsAre us ys
 | [],us,r=>by rw [map_nil] at r;cases r;exact .nil
 | y:: ys,us,r=>by
  rw [map_cons] at r;cases r with
  | cons r1 r2=>
   obtain⟨t,e⟩:=r1;subst e;exact .cons y t (Du r2)
theorem Vl:MtR X "str.join" (rJoin X.K):=by intro pins s σ H x xs v us Q I rx rs h;obtain⟨z,p,ys,rfl,rfl,hq,hz,q⟩:=h;obtain⟨t,rfl⟩:=rx;obtain⟨u,rfl,ru⟩:=vals1 rs;cases ru;obtain⟨its,rv,pl,_⟩:=I.list hq;exact join_list (items:=its.toArray) pl.isList (by simpa using Du rv) hz λt' k=>⟨.str (Txt.join z ys),H,I.tok k,⟨_,Z⟩,q⟩
end
theorem Mp:bootBuiltins "int" =some (.type "int"):=by decide +kernel
theorem M3:bootBuiltins "bool" =some (.type "bool"):=by decide +kernel
theorem RP:bootBuiltins "str" =some (.type "str"):=by decide +kernel
theorem oZ:bootBuiltins "list" =some (.type "list"):=by decide +kernel
theorem sH:bootBuiltins "tuple" =some (.type "tuple"):=by decide +kernel
theorem cL:bootBuiltins "len" =some (.builtin "len"):=by decide +kernel
theorem dD:bootBuiltins "isinstance" =some (.builtin "isinstance"):=by decide +kernel
theorem Yk:bootBuiltins "min" =some (.builtin "min"):=by decide +kernel
theorem Ly:bootBuiltins "max" =some (.builtin "max"):=by decide +kernel
theorem Hx:bootBuiltins "all" =some (.builtin "all"):=by decide +kernel
section
variable {X:Cx} {pos:Pos}
theorem il {x:Str} {v:V} (hg:Gl X x) (hm:∃u,X.mg x=some u/\RelV v u) (hd:(x == ("__debug__" :Str))=false:=by decide):PE X (.Name x pos) (tC v):=by obtain⟨u,h1,h2⟩:=hm;exact rn hg h1 h2 hd
theorem rC {x:Str} {T:String} (hg:Gl X x) (hm:X.mg x=none) (hv:bootBuiltins x=some (.type T)) (hn:x≠ "__name__" :=by decide) (hd:(x == ("__debug__" :Str))=false:=by decide):PE X (.Name x pos) (tC (.ty T)):=
 Up hg hm hv rfl hn hd
end
theorem ph {a b:Int} (h: -(2 ^ 64) <a/\a <2 ^ 64:=by decide):IntMulOk a b:=.of_left (intBits_le_64 h.1 h.2)
theorem HR {a b:Int} (h: -(2 ^ 64) <b/\b <2 ^ 64:=by decide):IntMulOk a b:=.of_right (intBits_le_64 h.1 h.2)
inductive QC (t:TS) (D:Ends) (σ:St) (H:Hp):Prop where
 | mk:∀J:St->Hp->Prop,t { D with nx:=J } σ H->(∀σ' H',J σ' H'->D.nx σ' H')->QC t D σ H
noncomputable def ZD (t:TS):TS:=λD σ H=>QC t D σ H
theorem eO {X:Cx} {st:Stmt} {t:TS} (h:PS X st t):PS X st (ZD t):=by
 intro pins s σ H D I hw;obtain⟨J,h1,h2⟩:=hw;refine dC (h pins s σ H { D with nx:=J } I h1) λf s1 q=>?_;cases f with
 | next=>obtain⟨σ',H',I',q⟩:=q;exact⟨σ',H',I',h2 _ _ q⟩
 | ret v=>exact q
 | brk=>exact q
 | cont=>exact q
theorem dU {c A B:Prop} [Decidable c] (hc:¬c) (h:B):if decide c=true then A else B:=by rw [decide_eq_false hc];exact cQ h
theorem wg {c A B:Prop} [Decidable c] (hc:c) (h:A):if decide c=true then A else B:=by rw [decide_eq_true hc];exact fc h
mutual
inductive Dt (K:Fr) (H:Hp):V->PyData->Prop
 | non:Dt K H .non .none
 | bl (b:Bool):Dt K H (.bl b) (.bool b)
 | int (i:Int):Dt K H (.int i) (.int i)
 | str (x:Str):Dt K H (.str x) (.str x)
 | list {p:Addr} {xs:List V} {ds:List PyData}:bT K H p xs->Ua K H xs ds->Dt K H (.ref p) (.list ds)
 | tuple {p:Addr} {xs:List V} {ds:List PyData}:fZ K H p xs->Ua K H xs ds->Dt K H (.ref p) (.tuple ds)
inductive Ua (K:Fr) (H:Hp):List V->List PyData->Prop
 | nil:Ua K H [] []
 | cons {x:V} {xs:List V} {d:PyData} {ds:List PyData}:Dt K H x d->Ua K H xs ds->Ua K H (x:: xs) (d:: ds)
end
section
variable {X:Cx} {pins:List (Addr×Obj)} {σ:St} {H:Hp} {s:Shared}
mutual
theorem Dt.reads (I:Inv X pins σ H s):∀{x:V} {d:PyData},Dt X.K H x d->∀{u:Value},RelV x u->∃as,Reads s.heap u d as
 | _,_,.non,_,r=>by cases r;exact⟨_,.none⟩
 | _,_,.bl b,_,r=>by cases r;exact⟨_,.bool b⟩
 | _,_,.int i,_,r=>by obtain⟨t,rfl⟩:=r;exact⟨_,.int i t⟩
 | _,_,.str x,_,r=>by obtain⟨t,rfl⟩:=r;exact⟨_,.str x t⟩
 | _,_,.list hq hd,_,r=>by cases r;obtain⟨its,rv,⟨o,n,e,c,_,d⟩,_⟩:=I.list hq;obtain⟨as,q⟩:=Ua.reads I hd rv;exact⟨_,.list e c d (by simpa using q)⟩
 | _,_,.tuple hq hd,_,r=>by cases r;obtain⟨its,rv,⟨o,e,c,n,d⟩,_⟩:=I.tuple hq;obtain⟨as,q⟩:=Ua.reads I hd rv;exact⟨_,.tuple e c d (by simpa using q)⟩
theorem Ua.reads (I:Inv X pins σ H s):∀{xs:List V} {ds:List PyData},Ua X.K H xs ds->∀{us:List Value},Vals xs us->∃as,ReadsAll s.heap us ds as
 | _,_,.nil,_,r=>by cases r;exact⟨_,.nil⟩
 | _,_,.cons h t,_,r=>by
  cases r with
  | cons r1 r2=>
   obtain⟨as,q⟩:=Dt.reads I h r1;obtain⟨bs,q'⟩:=Ua.reads I t r2;exact⟨_,.cons q q'⟩
end
inductive WM (K:Fr) (x:V) (y:V) (H:Hp) (Q:VK):Prop where
 | mk:∀da db,Dt K H x da->Dt K H y db->SeqAt.shaped da=true->SeqAt.shaped db=true->Q (.bl (!PyData.eqv da db)) H->WM K x y H Q
noncomputable def aam (K:Fr):R2:=λx y H Q=>WM K x y H Q
theorem K3 (hu:X.A.units+64 <cLine):vU X (compareOp .NotEq) (aam X.K):=by intro pins s σ H x y v u Q I rx ry h;obtain⟨da,db,h1,h2,s1,s2,q⟩:=h;obtain⟨as,r1⟩:=h1.reads I rx;obtain⟨bs,r2⟩:=h2.reads I ry;exact ne_dataH r1 r2 s1 s2 hu (cH I q Z)
end
noncomputable def Its (x:Str):It:=⟨λi _=>i <x.cps.size,λi H v H'=>H'=H/\∃c,x.cps[i]?=some c/\v=.str ⟨#[c]⟩,λi _=>x.cps.size<=i⟩
theorem Js {P:Program} {w:World} {K:Fr} {tg:Expr} (it:Addr) (x:Str) (t:Tok) {ty:String} (hty:ty= "str_ascii_iterator" ∨ty= "str_iterator"):Turn P w K tg (Its x) [it] it (λi h=>h.IsStrIter it ty x t i) where
 mem:=by simp
 obj:=λi h st b hb=>by
  have e:b=it:=by simpa using hb
  subst e;obtain⟨o,e,c,d⟩:=st;exact⟨o,e,λv z=>by rw [d] at z;cases z⟩
 keep:=λi h h' st k=>by obtain⟨o,e,r⟩:=st;exact⟨o,k it (by simp) o e,r⟩
 item:=by
  intro X hP hw hK hc i pins s σ H E I hf st hg;subst hP hw hK;obtain⟨f0,f1,f2,f3,f4,f5⟩:=hf it (by simp);have fin:∀(v:Value) (h':Heap) (tk:Nat),SignAt x i v->h'.IsStrIter it ty x t (i+1)->(∀b o,b∉[it]->s.heap.get? b=some o->h'.get? b=some o)->
    ∃u,some v=some u/\wpAny (model X.prog X.w) X.A (letOwnedTupleGo tg (.ref it) u) (λ_ s2=>∃x' H',Inv X pins σ H' s2/\RelV x' u/\(Its x).yld i H x' H'/\s2.heap.IsStrIter it ty x t (i+1)/\∀b∈[it],H' b=none) E { s with heap:=h',toks:=tk }:=by
   intro v h' tk hv st' kk;obtain⟨c,u,hcc,rfl⟩:=hv;have I1:Inv X pins σ H { s with heap:=h',toks:=tk }:=I.turned (λb o hb e=>kk b o (by simpa using hb) e) f0 f1 f3 f4 f5;obtain⟨o,e,c',d⟩:=id st';refine⟨_,rfl,Fw (s:={ s with heap:=h',toks:=tk }) (n:=ty) e c' d (by rcases hty with rfl | rfl <;> decide) ⟨.str ⟨#[c]⟩,H,I1,⟨u,rfl⟩,⟨rfl,c,hcc,rfl⟩,st',λb hb=>(hf b hb).1⟩⟩
  rcases hty with rfl | rfl
  ·exact(Walks.strAscii (prog:=X.prog) (w:=X.w) (I.ok.hd hc) it x t).item i s _ _ hg st λv h' tk hv st' kk=>fin v h' tk hv st' kk
  ·exact(Walks.strWide (prog:=X.prog) (w:=X.w) (I.ok.hd hc) it x t).item i s _ _ hg st λv h' tk hv st' kk=>fin v h' tk hv st' kk
 done:=by
  intro X hP hw hK hc i pins s σ H E I hf st hg;subst hP hw hK;obtain⟨f0,f1,f2,f3,f4,f5⟩:=hf it (by simp);have hx:x.cps[i]?=none:=by have hg':x.cps.size<=i:=hg;simp;lia
  rcases hty with rfl | rfl
  ·exact wpAny_pyNext_ascii_end (I.ok.hd hc) st hx λh' eb=>⟨Z,I.turned (t':=s.toks) (λb o hb e=>eb b o hb e) f0 f1 f3 f4 f5⟩
  ·exact wpAny_pyNext_wide_end (I.ok.hd hc) st hx λh' eb=>⟨Z,I.turned (t':=s.toks) (λb o hb e=>eb b o hb e) f0 f1 f3 f4 f5⟩
 self:=λ_ _ _ _ _ st h=>by
  rcases hty with rfl | rfl
  ·exact wpAny_pyIter_striter_ascii st h
  ·exact wpAny_pyIter_striter_wide st h
section
variable {X:Cx} {tg:Expr}
inductive VR (R:It->Hp->Prop) (x:V) (H1:Hp):Prop where
 | mk:∀z,x=.str z->R (Its z) H1->VR R x H1
noncomputable def aaO (tl:TE):TI:=λσ H R=>tl σ H λx H1=>VR R x H1
theorem X7 {l:Expr} {tl:TE} (hl:PE X l tl):PI X tg l (aaO tl):=by
 intro pins s σ H R I h;refine dC (hl pins s σ H _ I h) λv s1 hpt=>?_;obtain⟨x,H1,I1,r1,q1⟩:=hpt;obtain⟨z,e,q⟩:=q1;subst e;obtain⟨t,rfl⟩:=r1;cases ha:z.cps.all (· <128)
 ·refine wpAny_pyIter_wide ha ?_;refine⟨s1.heap.objs.size,[s1.heap.objs.size],_,_,H1,Z,I1.kept (t':=s1.toks) λb o e=>Heap.get?_push_of_some _ e,Js _ z t (ty:= "str_iterator") (.inr Z),⟨_,Heap.get?_push_size _ Z,Z,Z⟩,λb hb=>?_,q⟩;have e:b=s1.heap.objs.size:=by simpa using hb
  subst e;exact I1.fpOk (le_refl _) (I1.hok.fresh (le_refl _))
 ·refine wpAny_pyIter_ascii ha ?_;refine⟨s1.heap.objs.size,[s1.heap.objs.size],_,_,H1,Z,I1.kept (t':=s1.toks) λb o e=>Heap.get?_push_of_some _ e,Js _ z t (ty:= "str_ascii_iterator") (.inl Z),⟨_,Heap.get?_push_size _ Z,Z,Z⟩,λb hb=>?_,q⟩;have e:b=s1.heap.objs.size:=by simpa using hb
  subst e;exact I1.fpOk (le_refl _) (I1.hok.fresh (le_refl _))
end
theorem yes {A B:Hp->Prop} {σ:St} {H:Hp} (h:A H):X5 σ H (λb H4=>if b=true then A H4 else B H4):=by show if true=true then A H else B H;exact fc h
section
variable {js:List Nat} {tt:TT} {te:TE} {σ:St} {Qd:List V->Hp->Prop}
theorem j6 {lo:Int} {n:Nat} {H:Hp} (Pv:Nat->List V->Hp->Prop) (hn:n<=sizeLine) (h0:Pv 0 [] H) (hl:∀i ys H,Pv i ys H->ys.length<=i)
  (hs:∀i ys H,i <n->Pv i ys H->tt (some (.int (lo+i)):: dW σ js) H λb H4=>if b=true then te (some (.int (lo+i)):: dW σ js) H4 λy H5=>Pv (i+1) (ys ++ [y]) H5 else Pv (i+1) ys H4)
  (hd:∀ys H,Pv n ys H->Qd ys H):CompEnd js tt te σ Qd (Xa lo n) H:=by
 refine⟨λi m ys H=>m=n - i/\i<=n/\Pv i ys H,⟨n,by simp,zero_le _,h0⟩,?_⟩;rintro i m ys H ⟨rfl,hi,p⟩;have hlen:=hl i ys H p;by_cases hlt:i <n
 ·refine .inr ⟨hlt,by lia,Pv (i+1),λys' H' p'=>⟨n - (i+1),by lia,Z,hlt,p'⟩,λx H' y=>?_⟩;obtain⟨e,y⟩:=y;subst e y;exact hs i ys _ hlt p
 ·have e:i=n:=by lia
  subst e;exact .inl ⟨le_refl _,by lia,hd ys H p⟩
theorem jC {K:Fr} {a:Addr} {xs:List V} {H:Hp} (Pv:Nat->List V->Hp->Prop) (hn:xs.length<=sizeLine) (h0:Pv 0 [] H) (hl:∀i ys H,Pv i ys H->ys.length<=i) (hq:∀i ys H,i<=xs.length->Pv i ys H->bT K H a xs)
  (hs:∀i x ys H,xs[i]?=some x->Pv i ys H->tt (some x:: dW σ js) H λb H4=>if b=true then te (some x:: dW σ js) H4 λy H5=>Pv (i+1) (ys ++ [y]) H5 else Pv (i+1) ys H4)
  (hd:∀ys H,Pv xs.length ys H->Qd ys H):CompEnd js tt te σ Qd (Vu K a) H:=by
 refine⟨λi m ys H=>m=xs.length - i/\i<=xs.length/\Pv i ys H,⟨xs.length,by simp,zero_le _,h0⟩,?_⟩;rintro i m ys H ⟨rfl,hi,p⟩;have hlen:=hl i ys H p;have q:=hq i ys H hi p;by_cases hlt:i <xs.length
 ·refine .inr ⟨⟨xs,xs[i],q,by simp [hlt]⟩,by lia,Pv (i+1),λys' H' p'=>⟨xs.length - (i+1),by lia,Z,hlt,p'⟩,λx H' y=>?_⟩;obtain⟨e,y⟩:=y;subst e;exact hs i x ys _ (y xs q) p
 ·have e:i=xs.length:=by lia
  subst e;exact .inl ⟨⟨xs,q,le_refl _⟩,by lia,hd ys H p⟩
theorem Tq {z:Str} {H:Hp} (Pv:Nat->List V->Hp->Prop) (hn:z.cps.size<=sizeLine) (h0:Pv 0 [] H) (hl:∀i ys H,Pv i ys H->ys.length<=i)
  (hs:∀i c ys H,z.cps[i]?=some c->Pv i ys H->tt (some (.str ⟨#[c]⟩):: dW σ js) H λb H4=>if b=true then te (some (.str ⟨#[c]⟩):: dW σ js) H4 λy H5=>Pv (i+1) (ys ++ [y]) H5 else Pv (i+1) ys H4)
  (hd:∀ys H,Pv z.cps.size ys H->Qd ys H):CompEnd js tt te σ Qd (Its z) H:=by
 refine⟨λi m ys H=>m=z.cps.size - i/\i<=z.cps.size/\Pv i ys H,⟨z.cps.size,by simp,zero_le _,h0⟩,?_⟩;rintro i m ys H ⟨rfl,hi,p⟩;have hlen:=hl i ys H p;by_cases hlt:i <z.cps.size
 ·refine .inr ⟨hlt,by lia,Pv (i+1),λys' H' p'=>⟨z.cps.size - (i+1),by lia,Z,hlt,p'⟩,λx H' y=>?_⟩;obtain⟨e,c,hc,y⟩:=y;subst e y;exact hs i c ys _ hc p
 ·have e:i=z.cps.size:=by lia
  subst e;exact .inl ⟨le_refl _,by lia,hd ys H p⟩
end
section
variable {X:Cx}
inductive Wo (x:V) (lo:Option Int) (hi:Option Int) (H:Hp) (Q:VK):Prop where
 | mk:∀z,x=.str z->z.length<=sizeLine->Q (.str (Txt.slice z lo hi)) H->Wo x lo hi H Q
noncomputable def aal:V->Option Int->Option Int->Hp->VK->Prop:=λx lo hi H Q=>Wo x lo hi H Q
theorem Rn:SlR X aal:=by
 intro pins s σ H x v vl vu lo hi sl Q I rx hs pl pu h;obtain⟨z,rfl,hz,q⟩:=h;obtain⟨t,rfl⟩:=rx;refine⟨"str",_,PySem.F.slot_str_getitem.lookup,typeIs_str _ _ _,?_⟩;have fin:∀t' k,EP X pins σ Q (.str (Txt.slice z lo hi) t') { s with toks:=k }:=λt' k=>⟨.str _,H,I.tok k,⟨_,rfl⟩,q⟩;cases pl with
 | none=>
  cases pu with
  | none=>exact wpAny_getItem_str_slice (l:=none) (u:=none) (st:=none) hs rfl (post_val_or_str ⟨le_trans (Txt.slice_le z _ _) hz,fin⟩)
  | int j tj=>exact wpAny_getItem_str_slice (l:=none) (u:=some (j,tj)) (st:=none) hs rfl (post_val_or_str ⟨le_trans (Txt.slice_le z _ _) hz,fin⟩)
 | int i ti=>
  cases pu with
  | none=>exact wpAny_getItem_str_slice (l:=some (i,ti)) (u:=none) (st:=none) hs rfl (post_val_or_str ⟨le_trans (Txt.slice_le z _ _) hz,fin⟩)
  | int j tj=>exact wpAny_getItem_str_slice (l:=some (i,ti)) (u:=some (j,tj)) (st:=none) hs rfl (post_val_or_str ⟨le_trans (Txt.slice_le z _ _) hz,fin⟩)
theorem wJ (hc:X.calm=true):jj X (.builtin "all") (λxs H Q=>∃(p:Addr) (bs:List Bool),xs=[.ref p]/\bT X.K H p (bs.map V.bl)/\Q (.bl (bs.all id)) H):=by
 intro pins s σ H xs us Q I r h;obtain⟨p,bs,rfl,hq,q⟩:=h;obtain⟨u,rfl,rx⟩:=vals1 r;cases rx;obtain⟨its,rv,pl,_⟩:=I.list hq;have hl:=pl.isList;have hlt:p <s.heap.objs.size:=by obtain⟨_,e,_⟩:=hl;exact Heap.lt_size e
 have hb:∀i v,its[i]?=some v->∃b,bs[i]?=some b/\v=Value.bool b:=λi v e=>by
  have hi:i <its.length:=(List.getElem?_eq_some_iff.mp e).1;have hi':i <bs.length:=by have:=rv.length;rw [length_map] at this;lia
  obtain⟨u,e',r'⟩:=rv.get (i:=i) (x:=.bl bs[i]) (by rw [getElem?_map,getElem?_eq_getElem hi'];rfl);rw [e] at e';cases e';exact⟨bs[i],getElem?_eq_getElem hi',r'⟩
 refine call_all_walk (wpAny_pyIter_list hl ?_);refine⟨s.heap.objs.size,[s.heap.objs.size,p],[s.heap.objs.size],its.toArray.size,_,_,λi=>(bs[i]?).getD true,Z,Walks.list (A:=X.A.in1) (I.ok.hd hc) _ p (ne_of_lt hlt) its.toArray,
  ⟨⟨_,Heap.get?_push_size _ rfl,rfl,rfl⟩,hl.push _⟩,λi v s' Q' E' hP hQ=>?_,λh' tk hk=>?_⟩
 ·obtain⟨b,e,rfl⟩:=hb i v (by simpa using hP);simp only [e,getD_some] at hQ;exact wpAny_truthy_bool hQ
 ·have e:((List.range its.toArray.size).all λi=>(bs[i]?).getD true)=bs.all id:=by have hlen:=rv.length;rw [length_map] at hlen;rw [size_toArray,<-hlen];exact LSm.range_all bs
  rw [e];exact⟨.bl _,H,I.kept (LSm.kept_iter hk),Z,q⟩
end
end L2
namespace L2
open PySem PySem.StrLaws PySem.Builtin PySem.Builtin.Str
end L2
namespace L2
open PySem
theorem aB {H:L2.Hp} {p:Addr} {o:L2.HO} (hp:H p=none):L2.aO H (L2.upd H p o):=λb o' e=>by rw [L2.aH (L2.aF e hp)];exact e
end L2
namespace L2
open PySem PySem.SeqAt
open AutoSeq1 (wpAny_loadPart')
open MeetsSeq MeetsSeq2 MeetsSeq3 SeqRoads2
section
variable {A:Around} {s:Shared}
end
open PySem.Spec PyProof.Rows
end L2
namespace L2
open PySem PySem.Spec PyProof.Rows
structure MethAt (P:Program) (w:World) (K:Fr) (mg:Str->Option Value) (base:Heap) (CX:Dp) (k:Nat) (C:Addr) (m:Str) (sp:Sp):Prop where
 ex:∃(f:Addr) (fd:FuncData) (ps:List Str),Ql K C/\Meth K C m f/\Binds K fd ps []/\fY P w K mg base CX k f fd ps sp
inductive Np (P:Program) (w:World) (K:Fr) (mg:Str->Option Value) (base:Heap) (CX:Dp) (k:Nat) (m:Str) (E:XK) (t:TA) (σ:St) (Q:VK) (x:V) (H1:Hp):Prop where
 | mk:∀a C dx fs sp,x=.ref a->H1 a=some (.ins C dx fs)->fs.lookup m=none->MethAt P w K mg base CX k C m sp->(t σ H1 λvs H2=>sp (x:: vs) H2 Q E)->Np P w K mg base CX k m E t σ Q x H1
noncomputable def Mu (P:Program) (w:World) (K:Fr) (mg:Str->Option Value) (base:Heap) (CX:Dp) (k:Nat) (m:Str) (E:XK) (ta:TE) (t:TA):TE:=λσ H Q=>ta σ H λx H1=>Np P w K mg base CX k m E t σ Q x H1
section
variable {X:Cx} {CX:Dp} {k:Nat} {E:XK} {m:Str} {pos apos:Pos} {e o:Expr} {es:List Expr} {ta:TE} {t:TA}
theorem xO {pl:Sem Bool} (he:PE X o ta) (hr:gJ k X.A) (hx:j7 CX X E) (ha:PA X (e:: es) t)
  (hst:starEach (e:: es) X.env=(false,eval e X.env):: starEach es X.env:=by rfl) (hpl:(backTo pos (starEach es X.env)).any (·.1)=false:=by rfl)
  (ht:eval (.Call (.Attribute o m apos) (e:: es) [] pos) X.env=(do
   let ov <-eval o X.env
   standAt apos.atName
   let (f,first) <-holding [ov] (getMethod ov m pl)
   callWith pos f first (backTo pos (starEach (e:: es) X.env)) (backToKw pos (keywordEach [] X.env))):=by rfl):
  PE X (.Call (.Attribute o m apos) (e:: es) [] pos) (Mu X.prog X.w X.K X.mg X.base CX k m E ta t):=by
 intro pins s σ H Q I h;refine PySem.W.methodCall_KW (pl:=pl) (dC (he pins s σ H _ I h) λu s1 hpt=>?_) ht;obtain⟨x,H1,I1,rx,a,C,dx,fs,sp,ex,ea,l,⟨f,fd,ps,c,hm,hb,F⟩,q⟩:=hpt;subst ex;obtain rfl:u=Value.ref a:=rx;refine rH I1 ea c hm l ?_;refine PySem.W.callWith_K (first:=[.ref a]) (h₀:=X.base) I.ok.mod.kin hm.kp (dC (ha pos pins s1 σ H1 _ I1 q) λus s2 ⟨vs,H2,I2,r,q2⟩=>⟨I2.kIn,?_⟩) hst hpl;exact Bw (us:=.ref a:: us) (vs:=.ref a:: vs) (ds:=[]) (dvs:=[]) F hr hb .nil hx I2 (.cons Z r) (by rw [append_nil];exact q2)
theorem Ff {pl:Sem Bool} (he:PE X o ta) (hr:gJ k X.A) (hx:j7 CX X E)
  (ht:eval (.Call (.Attribute o m apos) [] [] pos) X.env=(do
   let ov <-eval o X.env
   standAt apos.atName
   let (f,first) <-holding [ov] (getMethod ov m pl)
   callWith pos f first (backTo pos (starEach [] X.env)) (backToKw pos (keywordEach [] X.env))):=by rfl):
  PE X (.Call (.Attribute o m apos) [] [] pos) (Mu X.prog X.w X.K X.mg X.base CX k m E ta Lf):=by
 intro pins s σ H Q I h;refine PySem.W.methodCall_KW (pl:=pl) (dC (he pins s σ H _ I h) λu s1 hpt=>?_) ht;obtain⟨x,H1,I1,rx,a,C,dx,fs,sp,ex,ea,l,⟨f,fd,ps,c,hm,hb,F⟩,q⟩:=hpt;subst ex;obtain rfl:u=Value.ref a:=rx;refine rH I1 ea c hm l ?_;exact PySem.W.callWith_K0 (first:=[.ref a]) I1.kIn hm.kp (Bw (us:=[.ref a]) (vs:=[.ref a]) (ds:=[]) (dvs:=[]) F hr hb .nil hx I1 (.cons Z .nil) (by rw [append_nil];exact q))
end
section
variable {X:Cx}
theorem Rb:bootBuiltins "range" =some (.type "range"):=by decide +kernel
theorem JQ:jj X (.type "range") (λxs H Q=>∃j:Int,xs=[.int j]/\∀r,H r=none->Q (.ref r) (upd H r (.rng 0 j))):=by intro pins s σ H xs us Q I r h;obtain⟨j,rfl,q⟩:=h;obtain⟨u,rfl,t,rfl⟩:=vals1 r;refine call_range_1 ⟨.ref s.heap.objs.size,upd H s.heap.objs.size (.rng 0 j),I.laid (λb o e=>Heap.get?_push_of_some _ e) (le_refl _) ?_,Z,q _ (I.hok.fresh (le_refl _))⟩;exact⟨_,_,_,Heap.get?_push_size _ Z⟩
noncomputable def TX (n:Nat):List V:=(List.range n).map λi=>V.int (i:Nat)
theorem Vs (n:Nat):(TX n).length=n:=by simp [TX]
theorem RM:∀(n:Nat) (us:List Value),us.length=n->(∀(j:Nat) (v:Value),us[j]?=some v->∃t,v=.int (j:Nat) t)->Vals (TX n) us:=by
 intro n;induction n with
 | zero=>intro us hl _;cases us with | nil=>exact .nil | cons _ _=>cases hl
 | succ n ih=>
  intro us hl h;have e1:TX (n+1)=TX n ++ [V.int (n:Nat)]:=by simp [TX,range_succ]
  have hn:n <us.length:=by lia
  have e2:us=us.take n ++ [us[n]]:=by have:=take_append_drop n us;rw [List.drop_eq_getElem_cons hn] at this;rw [List.drop_eq_nil_of_le (by lia)] at this;exact this.symm
  rw [e1,e2];refine Vals.append (ih _ (by simp;lia) λj v e=>?_) (.cons ?_ .nil)
  ·rw [List.getElem?_take] at e;split at e
   ·exact h j v e
   ·cases e
  ·obtain⟨t,e⟩:=h n us[n] (by simp [hn]);exact⟨t,e⟩
theorem Ek (hc:X.calm=true):jj X (.type "list") (λxs H Q=>∃(r:Addr) (n:Nat),xs=[.ref r]/\H r=some (.rng 0 n)/\n<=1000000/\∀l,H l=none->Q (.ref l) (upd H l (.lst (TX n)))):=by intro pins s σ H xs us Q I rx h;obtain⟨r,n,rfl,hr,hn,q⟩:=h;obtain⟨u,rfl,ru⟩:=vals1 rx;cases ru;have hl:sizeLine=16777216:=sizeLine_eq;obtain⟨t,u,v,e⟩:=(show dg X.prog X.w H s.heap r (.rng 0 n) from I.hok r _ hr);refine call_list_range (n:=n) (I.ok.hd hc) e (small_one (by lia) (by lia) (by lia) (by lia)) (by rw [rangeSize_one];split <;> lia) (by lia) λh' tk acc' c' kp e' hi=>?_;refine⟨.ref s.heap.objs.size,_,I.laid (t':=tk) kp (le_refl _) (show dg X.prog X.w _ h' _ (.lst (TX n)) from⟨by rw [Vs];lia,acc'.toList,c',RM n _ (by simpa using hi.1) λj v ej=>?_,by simpa using e'⟩),rfl,q _ (I.hok.fresh (le_refl _))⟩;obtain⟨t,ev⟩:=hi.2 j v (by simpa using ej);exact⟨t,by rw [ev];congr 1;lia⟩
end
inductive jA (w:World) (K:Fr):List DictEntry->List (Str×List Int)->Prop
 | nil:jA w K [] []
 | cons {x:Str} {t:Tok} {ad:Addr} {ns:List Int} {es:List DictEntry} {rows:List (Str×List Int)} {h:Int} {its:Array Value} {n:Nat} {o:Obj}:
   h=hashStr w x->K.lookup ad=some o->o.cls=.type "tuple" ->o.data=.seq its n->Vals (ns.map V.int) its.toList->ns.length<=1000->jA w K es rows->jA w K (⟨h,.str x t,.ref ad⟩:: es) ((x,ns):: rows)
inductive KTab (w:World) (K:Fr) (a:Addr) (rows:List (Str×List Int)):Prop where
 | mk:∀(o:Obj) (es:Array DictEntry) (ep:Nat),K.lookup a=some o->o.cls=.type "dict" ->o.dict=none->o.slots= #[]->o.data=.dict es ep->(a == sysModules)=false->jA w K es.toList rows->(rows.map (·.1)).Nodup->KTab w K a rows
theorem KTab.mk' {w:World} {K:Fr} {a:Addr} {rows:List (Str×List Int)} {o:Obj} {es:Array DictEntry} {ep:Nat} (lk:K.lookup a=some o) (c1:o.cls=.type "dict") (c2:o.dict=none) (c3:o.slots= #[]) (c4:o.data=.dict es ep) (sm:(a == sysModules)=false)
  (rw':jA w K es.toList rows) (nd:(rows.map (·.1)).Nodup):KTab w K a rows:=⟨o,es,ep,lk,c1,c2,c3,c4,sm,rw',nd⟩
noncomputable def rowOf (rows:List (Str×List Int)) (z:Str):Option (List Int):=(rows.find? λr=>decide (r.1=z)).map (·.2)
section
variable {P:Program} {w:World} {K:Fr}
theorem jA.kvs:∀{es:List DictEntry} {rows:List (Str×List Int)},jA w K es rows->∃kvs:List (Key×Value),Pairs (cj P w) es kvs/\kvs.map (·.1)=rows.map (λr=>(Sum.inr r.1:Key))/\
  (∀e∈es,∃k,(cj P w).is k e.key=true/\e.hash=(cj P w).hash k)/\
  ∀z,(rowOf rows z=none->valueAt kvs (Sum.inr z)=none)/\∀ns,rowOf rows z=some ns->∃ad,valueAt kvs (Sum.inr z)=some (.ref ad)/\∀H,fZ K H ad (ns.map V.int)
 | _,_,.nil=>⟨[],.nil,rfl,λe he=>(by cases he),λz=>⟨λ_=>rfl,λns e=>by cases e⟩⟩
 | _,_,@jA.cons _ _ x t ad ns es rows h its n o hh hl hc hdt hv hz hr=>by
  obtain⟨kvs,p,hk,ho,hf⟩:=jA.kvs hr;refine⟨(Sum.inr x,.ref ad):: kvs,.cons (lF P w x t) Z p,by rw [map_cons,map_cons,hk],λe he=>?_,λz=>?_⟩
  ·rcases mem_cons.mp he with e1 | he
   ·subst e1;exact⟨Sum.inr x,lF P w x t,hh⟩
   ·exact ho e he
  ·by_cases hx:x=z
   ·subst hx;have e1:rowOf ((x,ns):: rows) x=some ns:=by simp [rowOf]
    have e2:valueAt ((Sum.inr x,Value.ref ad):: kvs) (Sum.inr x:Key)=some (.ref ad):=by simp [valueAt]
    rw [e1,e2];refine⟨λe=>by (cases e),λms e=>⟨ad,rfl,λH=>.inr ⟨_,its,n,hl,hc,hdt,?_,?_⟩⟩⟩
    ·have:=hv.length;have hs:sizeLine=16777216:=sizeLine_eq;simp at this
     lia
    ·cases e;exact hv
   ·have e1:rowOf ((x,ns):: rows) z=rowOf rows z:=by simp [rowOf,hx]
    have hx':¬(Sum.inr x:Key)=Sum.inr z:=λq=>hx (Sum.inr.inj q);have e2:valueAt ((Sum.inr x,Value.ref ad):: kvs) (Sum.inr z:Key)=valueAt kvs (Sum.inr z):=by simp [valueAt,hx']
    rw [e1,e2];exact hf z
theorem KTab.map {a:Addr} {rows:List (Str×List Int)} {h:Heap} (T:KTab w K a rows) (hk:K.In h):∃f:Key->Option Value,h.MapOf (cj P w) a f/\(a == sysModules)=false/\
  ∀z,(rowOf rows z=none->f (Sum.inr z)=none)/\∀ns,rowOf rows z=some ns->∃ad,f (Sum.inr z)=some (.ref ad)/\∀H,fZ K H ad (ns.map V.int):=by
 obtain⟨o,es,ep,hl,c1,c2,c3,c4,hs,hr,nd⟩:=T;obtain⟨kvs,p,hkk,ho,hf⟩:=hr.kvs (P:=P);have D:h.DictOf (cj P w) a kvs:=⟨o,es,ep,hk a _ hl,⟨c1,c2,c3⟩,c4,λe he=>ho e (by simpa using he),p,?_⟩
 ·exact⟨_,D.mapOf,hs,hf⟩
 ·rw [hkk];have:rows.map (λr=>(Sum.inr r.1:Key))=(rows.map (·.1)).map Sum.inr:=by rw [map_map];rfl
  rw [this];exact List.Pairwise.map _ (λa b hab e=>hab (Sum.inr.inj e)) nd
end
section
variable {X:Cx} {i o:Expr} {ty td:TE} {pos:Pos}
inductive Wz (w:World) (K:Fr) (Q:VK) (y:V) (x:V) (H2:Hp):Prop where
 | mk:∀a rows z,x=.ref a->KTab w K a rows->y=.str z->Q (.bl (rowOf rows z).isSome) H2->Wz w K Q y x H2
noncomputable def aax (w:World) (K:Fr) (ty td:TE):TE:=λσ H Q=>ty σ H λy H1=>td σ H1 λx H2=>Wz w K Q y x H2
theorem Xg (hi:PE X i ty) (ho:PE X o td):PC X .In i o (aax X.w X.K ty td):=by
 intro pins s σ H Q I h;refine dC (hi pins s σ H _ I h) λiv s1 ⟨y,H1,I1,ry,q1⟩=>dC (ho pins s1 σ H1 _ I1 q1) λu s2 hpt=>?_;obtain⟨x,H2,I2,rx,a,rows,z,ex,T,ey,q2⟩:=hpt;subst ex;subst ey;obtain rfl:u=Value.ref a:=rx;obtain⟨t,rfl⟩:=ry;obtain⟨f,M,hs,hf⟩:=T.map (P:=X.prog) I2.kIn;refine wpAny_in_of (k:=(Sum.inr z:Key)) (lF X.prog X.w z t) hs M ?_;refine⟨.bl (rowOf rows z).isSome,H2,I2.tok _,?_,q2⟩;cases e:rowOf rows z with
 | none=>rw [(hf z).1 e];rfl
 | some ns=>obtain⟨ad,e1,_⟩:=(hf z).2 ns e;rw [e1];rfl
inductive WP (w:World) (K:Fr) (x:V) (y:V) (H:Hp) (Q:VK):Prop where
 | mk:∀a rows z ns,x=.ref a->KTab w K a rows->y=.str z->rowOf rows z=some ns->(∀ad,fZ K H ad (ns.map V.int)->Q (.ref ad) H)->WP w K x y H Q
noncomputable def YM (w:World) (K:Fr):R2:=λx y H Q=>WP w K x y H Q
theorem aaI:Qm X (YM X.w X.K):=by intro value slice pins s σ H x y v u Q I rx ry h hs;obtain⟨a,rows,z,ns,rfl,T,rfl,e,q⟩:=h;cases rx;obtain⟨t,rfl⟩:=ry;obtain⟨f,M,hsm,hf⟩:=T.map (P:=X.prog) I.kIn;obtain⟨ad,e1,e2⟩:=(hf z).2 ns e;exact tail_any M.typeIs PySem.F.slot_dict_getitem.lookup (wpAny_getItem_of (k:=(Sum.inr z:Key)) (lF X.prog X.w z t) M e1 ⟨.ref ad,H,I.tok _,Z,q ad (e2 H)⟩) hs
theorem Uh (ho:PE X o td) (hi:PE X i ty) (hs:Oe i):PE X (.Subscript o i pos) (TV (YM X.w X.K) td ty):=aU aaI ho hi hs
end
noncomputable def xm (K:Fr) (H:Hp) (a:Addr) (xs:List V):Prop:=bT K H a xs∨fZ K H a xs
theorem aO.seqT {K:Fr} {H H':Hp} {a:Addr} {xs:List V} (e:aO H H') (h:fZ K H a xs):fZ K H' a xs:=by
 rcases h with (h | ⟨o,h⟩) | h
 ·exact .inl (.inl (e _ _ h))
 ·exact .inl (.inr ⟨o,e _ _ h⟩)
 ·exact .inr h
theorem aO.seqA {K:Fr} {H H':Hp} {a:Addr} {xs:List V} (e:aO H H') (h:xm K H a xs):xm K H' a xs:=h.elim (λh=>.inl (e.seq h)) λh=>.inr (e.seqT h)
noncomputable def lC (p:Addr) (H H':Hp):Prop:=∀b o,b≠p->H b=some o->H' b=some o
theorem lC.refl {p:Addr} (H:Hp):lC p H H:=λ_ _ _ e=>e
theorem lC.trans {p:Addr} {H H1 H2:Hp} (a:lC p H H1) (b:lC p H1 H2):lC p H H2:=λc o n e=>b c o n (a c o n e)
theorem lC.of_same {p:Addr} {H H1:Hp} (a:aO H H1):lC p H H1:=λc o _ e=>a c o e
theorem lC.write {p:Addr} {H:Hp} {o:HO}:lC p H (upd H p o):=λb u n e=>by rw [aH n];exact e
theorem lC.seqT {K:Fr} {H H':Hp} {p a C dx:Addr} {fs:List (Str×V)} {xs:List V} (e:lC p H H') (hp:H p=some (.ins C dx fs)) (h:fZ K H a xs):fZ K H' a xs:=by
 rcases h with (h | ⟨o,h⟩) | h
 ·exact .inl (.inl (e _ _ (vO h hp (by intro z;cases z)) h))
 ·exact .inl (.inr ⟨o,e _ _ (vO h hp (by intro z;cases z)) h⟩)
 ·exact .inr h
theorem lC.seqL {K:Fr} {H H':Hp} {p a C dx:Addr} {fs:List (Str×V)} {xs:List V} (e:lC p H H') (hp:H p=some (.ins C dx fs)) (h:bT K H a xs):bT K H' a xs:=by
 rcases h with (h | ⟨o,h⟩) | h
 ·exact .inl (.inl (e _ _ (vO h hp (by intro z;cases z)) h))
 ·exact .inl (.inr ⟨o,e _ _ (vO h hp (by intro z;cases z)) h⟩)
 ·exact .inr h
theorem lC.seqA {K:Fr} {H H':Hp} {p a C dx:Addr} {fs:List (Str×V)} {xs:List V} (e:lC p H H') (hp:H p=some (.ins C dx fs)) (h:xm K H a xs):xm K H' a xs:=h.elim (λh=>.inl (e.seqL hp h)) λh=>.inr (e.seqT hp h)
theorem RZ {K:Fr} {H:Hp} {a:Addr} {xs:List V} {Q:VK} (h:xm K H a xs) (k:∀H' u,aO H H'->fZ K H' u xs->Q (.ref u) H'):
  ∃p ys,[V.ref a]=[.ref p]/\((bT K H p ys/\∀l,H l=none->Q (.ref l) (upd H l (.tup ys)))∨(fZ K H p ys/\Q (.ref p) H)):=by
 rcases h with h | h
 ·exact⟨a,xs,Z,.inl ⟨h,λl hl=>k _ _ (aB hl) (fZ.of az)⟩⟩
 ·exact⟨a,xs,Z,.inr ⟨h,k _ _ (aO.refl _) h⟩⟩
theorem qw {X:Cx}:jj X (.type "tuple") (λxs H Q=>∃a ys,xs=[.ref a]/\xm X.K H a ys/\∀H' u,aO H H'->fZ X.K H' u ys->Q (.ref u) H'):=by intro pins s σ H xs us Q I r h;obtain⟨a,ys,rfl,hq,q⟩:=h;exact Eb pins s σ H _ us Q I r (RZ hq q)
section
variable {es:List Expr} {env:Env}
theorem b7 {a b c}:starEach (.Tuple a b c:: es) env=(false,eval (.Tuple a b c) env):: starEach es env:=rfl
theorem aV {a b}:starEach (.List a b:: es) env=(false,eval (.List a b) env):: starEach es env:=rfl
theorem ak {a b c}:starEach (.Constant a b c:: es) env=(false,eval (.Constant a b c) env):: starEach es env:=rfl
theorem aj {a b}:starEach (.Name a b:: es) env=(false,eval (.Name a b) env):: starEach es env:=rfl
theorem bc {a b c d}:starEach (.Call a b c d:: es) env=(false,eval (.Call a b c d) env):: starEach es env:=rfl
theorem bO {a b c d}:starEach (.BinOp a b c d:: es) env=(false,eval (.BinOp a b c d) env):: starEach es env:=rfl
theorem bz {a b c}:starEach (.Attribute a b c:: es) env=(false,eval (.Attribute a b c) env):: starEach es env:=rfl
theorem aC {a b c}:starEach (.Subscript a b c:: es) env=(false,eval (.Subscript a b c) env):: starEach es env:=rfl
theorem fL {a b c d}:starEach (.ListComp a b c d:: es) env=(false,eval (.ListComp a b c d) env):: starEach es env:=rfl
theorem yq {a b c d}:starEach (.Compare a b c d:: es) env=(false,eval (.Compare a b c d) env):: starEach es env:=rfl
theorem rB {a b c}:starEach (.UnaryOp a b c:: es) env=(false,eval (.UnaryOp a b c) env):: starEach es env:=rfl
theorem Li {a b c d}:starEach (.IfExp a b c d:: es) env=(false,eval (.IfExp a b c d) env):: starEach es env:=rfl
end
section
variable {X:Cx} {scope:Scope} {x:Str} {js:List Nat} {cl:List (Str×Addr)} {C:Addr} {s:Shared} {H:Hp} {ex:List Addr}
end
noncomputable def fD (H:Hp):List Addr->List (List V)->Prop:=Paired λr vs=>H r=some (.tup vs)
theorem fD.same {H H':Hp} (s:aO H H'):∀{rs:List Addr} {vss:List (List V)},fD H rs vss->fD H' rs vss
 | _,_,.nil=>.nil
 | _,_,.cons h t=>.cons (s _ _ h) (fD.same s t)
theorem fD.append {H:Hp}:∀{rs rs':List Addr} {vss vss':List (List V)},fD H rs vss->fD H rs' vss'->fD H (rs ++ rs') (vss ++ vss')
 | _,_,_,_,.nil,q=>q
 | _,_,_,_,.cons h t,q=>.cons h (fD.append t q)
theorem fD.get {H:Hp}:∀{rs:List Addr} {vss:List (List V)} {i:Nat} {vs:List V},fD H rs vss->vss[i]?=some vs->∃r,rs[i]?=some r/\H r=some (.tup vs)
 | _,_,_,_,.nil,e=>by simp at e
 | _,_,0,_,.cons h _,e=>by simp at e;subst e;exact⟨_,rfl,h⟩
 | _,_,i+1,vs,.cons _ t,e=>by obtain⟨r,h1,h2⟩:=fD.get (i:=i) (vs:=vs) t (by simpa using e);exact⟨r,by simpa using h1,h2⟩
section
variable {X:Cx}
end
section
variable {X:Cx}
end
section
variable {P:Program} {w:World} {K:Fr} {mg:Str->Option Value} {base:Heap} {N:List Str} {qual:Str} {scope:Scope} {f:Addr} {cd:Value} {A:Around} {outer:List Env} {s:Shared} {H:Hp} {E:XK}
end
structure tR (K:Fr) (C:Addr):Prop where
 ex:∃(nm q:Str) (Nn:Addr) (bs bm bmB:List Value) (hdct:Bool) (sn:List Str) (sub:List Value) (ab:Bool) (col:Option Bool) (dd:Option Addr) (k0 k1 k2 k3 k5:Option Value) (B newId initId:String) (mN:Str->Option Value),
  ExcBaseFacts B newId initId bmB/\bm.contains (.type "BaseException")=true/\mN "__init__" =none/\
  ∀h:Heap,K.In h->h.get? C=some (excClassObj nm q C Nn bs bm hdct sn sub ab col dd k0 k1 k2 k3 k5 newId)/\h.Ns Nn mN/\OwnTail h bmB bm
section
variable {P:Program} {w:World} {K:Fr} {mg:Str->Option Value} {base:Heap} {N:List Str} {qual:Str} {scope:Scope} {f:Addr} {cd:Value} {A:Around} {outer:List Env} {s:Shared} {H:Hp} {E:XK}
noncomputable def Xr (E:XK) (C:Addr) (ta:TA):TS:=λ_ σ H=>ta σ H λvs H1=>vs.length<=1000/\E (.ref C) none H1
end
theorem ZR {fs:List Addr} {H H2:Hp} {h h2 h3 B:Heap} (u:Un fs [] H H2 h h2) (inB:∀b o,h.get? b=some o->b∉fs->∃o',B.get? b=some o') (st2:B.StaysIn h2) (st3:B.StaysIn h3) (up:h2.UpToSlots h3)
  (fd:∀b o,h2.get? b=some o->b∈fs->∀vs,o.data≠.fields vs):Un fs [] H H2 h h3:=by
 have go:∀b o,h2.get? b=some o->(∃o',B.get? b=some o')->h3.get? b=some o:=λb o q ⟨o',q'⟩=>by have:=st2 b o' q';rw [q] at this;cases this;exact st3 b _ q'
 refine⟨λb o q n hb hx=>go b o (u.keep b o q n hb hx) (inB b o q hb),λb o q n hb hx=>?_,λb o q n hx=>u.free b o q n hx,λb o q hx=>?_,u.tups,u.frzs,u.tbls⟩
 ·obtain⟨sl,k1⟩:=u.slot b o q n hb hx;obtain⟨sl2,k2⟩:=up b _ k1 (fd b _ k1 hb);exact⟨sl2,k2⟩
 ·obtain⟨o2,k2⟩:=u.there b o q hx;by_cases hb:b∈fs
  ·obtain⟨sl3,k3⟩:=up b _ k2 (fd b _ k2 hb);exact⟨_,k3⟩
  ·exact⟨o2,go b o2 k2 (inB b o q hb)⟩
theorem dg.some_at {P:Program} {w:World} {H:Hp} {h:Heap} {a:Addr} {o:HO} (x:dg P w H h a o):∃ob,h.get? a=some ob:=by
 cases o with
 | lst xs=>obtain⟨_,_,_,_,e⟩:=x;exact⟨_,e⟩
 | tup xs=>obtain⟨_,_,_,ob,e,_⟩:=x;exact⟨_,e⟩
 | dK kvs=>obtain⟨_,_,_,_,o,_,_,e,_⟩:=x;exact⟨_,e⟩
 | dT kvs=>obtain⟨_,_,_,_,o,_,_,e,_⟩:=x;exact⟨_,e⟩
 | set S n=>obtain⟨o,_,_,_,e,_⟩:=x;exact⟨_,e⟩
 | ins C dx fs=>obtain⟨_,_,_,e,_⟩:=x;exact⟨_,e⟩
 | own y=>exact x
 | xd fs=>obtain⟨_,⟨_,_,_,e,_⟩,_⟩:=x;exact⟨_,e⟩
 | rng lo hi=>obtain⟨_,_,_,e⟩:=x;exact⟨_,e⟩
 | frz ob u=>obtain⟨e,_⟩:=x;exact⟨_,e⟩
 | tbl ps=>exact⟨_,(show h.get? a=some _ from x)⟩
 | met f y=>exact⟨_,(show h.get? a=some _ from x)⟩
 | ext φ=>obtain⟨_,e,_⟩:=x;exact e
noncomputable def Cx.over (X:Cx) (pn:List (Addr×Obj)) (E:Value->Shared->Prop):Cx:={ X with pn:=pn,xe:=E }
noncomputable def Cx.marked (X:Cx) (x:Addr):Cx:={ X with A:=X.A.mark (some (.ref x)),calm:=false,xe:=λ_ _=>False }
section
variable {X:Cx} {pins:List (Addr×Obj)} {σ:St} {H:Hp} {s:Shared} {E:Value->Shared->Prop}
theorem Cx.Ok.over {pn:List (Addr×Obj)} (ok:X.Ok):(X.over pn E).Ok:=
 ⟨ok.mod,ok.kind,ok.glob,ok.blt,ok.above,ok.inj,ok.has,ok.cab,ok.hd,ok.frames,ok.stk,ok.exf,ok.bs,ok.bsz,ok.noex,ok.exfs,ok.funs,ok.frf⟩
theorem Cx.Ok.unover {pn:List (Addr×Obj)} (ok:(X.over pn E).Ok):X.Ok:=
 ⟨ok.mod,ok.kind,ok.glob,ok.blt,ok.above,ok.inj,ok.has,ok.cab,ok.hd,ok.frames,ok.stk,ok.exf,ok.bs,ok.bsz,ok.noex,ok.exfs,ok.funs,ok.frf⟩
theorem Inv.over (I:Inv X pins σ H s):Inv (X.over (X.pn ++ pins) E) [] σ H s:=⟨I.ok.over,I.os,I.bare,I.base,I.loc,I.cell,I.free,I.freeC,λp hp=>I.pin p (by simpa [Cx.over] using hp),I.hok,I.len⟩
theorem Inv.unover {pins':List (Addr×Obj)} (I:Inv (X.over (X.pn ++ pins) E) pins' σ H s):Inv X pins σ H s:=⟨I.ok.unover,I.os,I.bare,I.base,I.loc,I.cell,I.free,I.freeC,λp hp=>I.pin p (mem_append_left _ hp),I.hok,I.len⟩
theorem Inv.marked {x:Addr} (I:Inv X pins σ H s):Inv (X.marked x) pins σ H s:=
 ⟨⟨I.ok.mod,I.ok.kind,I.ok.glob,I.ok.blt,I.ok.above,I.ok.inj,I.ok.has,I.ok.cab,λh=>absurd h (by simp [Cx.marked]),I.ok.frames,I.ok.stk,I.ok.exf,I.ok.bs,I.ok.bsz,I.ok.noex,I.ok.exfs,I.ok.funs,I.ok.frf⟩,I.os,I.bare,I.base,I.loc,I.cell,I.free,I.freeC,I.pin,I.hok,I.len⟩
theorem Inv.unmarked {x:Addr} (hc:X.calm=true->X.A.handled=none) (I:Inv (X.marked x) pins σ H s):Inv X pins σ H s:=
 ⟨⟨I.ok.mod,I.ok.kind,I.ok.glob,I.ok.blt,I.ok.above,I.ok.inj,I.ok.has,I.ok.cab,hc,I.ok.frames,I.ok.stk,I.ok.exf,I.ok.bs,I.ok.bsz,I.ok.noex,I.ok.exfs,I.ok.funs,I.ok.frf⟩,I.os,I.bare,I.base,I.loc,I.cell,I.free,I.freeC,I.pin,I.hok,I.len⟩
theorem Inv.track {x:Addr} {o:HO} (I:Inv X pins σ H s) (hn:H x=none) (h0:X.s₀.heap.get? x=none) (hL:x≠X.env.locals) (hc:∀y c,X.env.cells.lookup y=some c->c≠x) (hp:∀p∈X.pn ++ pins,p.1≠x)
  (new:dg X.prog X.w (upd H x o) s.heap x o):Inv X pins σ (upd H x o) s:=by
 have ne:∀b u,H b=some u->b≠x:=λb u q=>aF q hn;have ne0:∀b u,X.s₀.heap.get? b=some u->b≠x:=λb u q z=>by rw [z,h0] at q;cases q
 refine⟨I.ok,I.os,I.bare,⟨I.base.keep,I.base.slot,λb u q n hx=>?_,I.base.there,λb xs q=>?_,λb u xs q=>?_,λb ps q=>?_⟩,I.loc,I.cell,?_,λy c e=>?_,λp h=>?_,FQ I.hok hn new,I.len⟩
 ·rw [aH (ne0 b u q)];exact I.base.free b u q n hx
 ·have:=I.base.tups b xs q;rw [aH (ne b _ this)];exact this
 ·have:=I.base.frzs b u xs q;rw [aH (ne b _ this)];exact this
 ·obtain⟨m,e⟩:=I.base.tbls b ps q;exact⟨m,by rw [aH (ne b _ e)];exact e⟩
 ·rw [aH (Ne.symm hL)];exact I.free
 ·rw [aH (hc y c e)];exact I.freeC y c e
 ·obtain⟨e,n,r⟩:=I.pin p h;exact⟨e,by rw [aH (hp p h)];exact n,r⟩
end
structure Tf (X:Cx) (pins:List (Addr×Obj)) (σ:St) (H':Hp) (x:Addr) (cls:Value) (s:Shared) (B:Heap) (a0:Value):Prop where
 inv:Inv X pins σ H' s
 fly:Heap.FlyingW B X.stack x cls a0 s.heap
 more:∀h6,Heap.FlyingW B X.stack x cls a0 h6->s.heap.UpToSlots h6->Inv X pins σ H' { s with heap:=h6 }
 free:H' x=none
 new:X.s₀.heap.get? x=none
 neL:x≠X.env.locals
 neC:∀y c,X.env.cells.lookup y=some c->c≠x
 neP:∀p∈X.pn ++ pins,p.1≠x
section
variable {X:Cx} {pins:List (Addr×Obj)} {σ:St} {H:Hp} {s:Shared}
theorem Az {M:Model} {A:Around} {E:Value->Shared->Prop} {i:Nat} {x:Str} {pos:Pos} {Q:Unit->Shared->Prop} (I:Inv X pins σ H s) (hN:X.N.Nodup) (hi:X.N[i]?=some x) (hk:X.env.scope.names.lookup x=some .local)
  (h:∀s',Inv X pins (σ.set i none) H s'->Q () s'):wpAny M A (do bindName X.env x .none;unbindBehindTheSuite X.env x pos) Q E s:=by
 obtain⟨m,hn,hl⟩:=id I.loc;have hcls:(X.env.scope.kind == .class || (X.env.scope.kind == .module && X.env.locals != X.env.globals))=false:=by rw [I.ok.kind];rfl
 have hiσ:i <σ.length:=by rw [I.len];exact(List.getElem?_eq_some_iff.mp hi).1
 have cne:=I.cne;refine wpAny_nameGoes_keeps hk hn hcls λh' v hn' hs=>?_;refine h _ ⟨I.ok,I.os,I.bare,⟨λb o e n hb hx=>?_,λb o e n hb hx=>?_,I.base.free,λb o e hx=>?_,I.base.tups,I.base.frzs,I.base.tbls⟩,⟨_,hn',λj y v' e1 e2 e3=>?_⟩,λy c e=>?_,I.free,I.freeC,λp hp=>?_,λb ob e=>?_,by simpa using I.len⟩
 ·exact(hs.2 b (ne_of_lt (lt_of_lt_of_le (Heap.lt_size e) I.ok.above))).trans (I.base.keep b o e n hb hx)
 ·obtain⟨sl,e1⟩:=I.base.slot b o e n hb hx;exact⟨sl,(hs.2 b (ne_of_lt (lt_of_lt_of_le (Heap.lt_size e) I.ok.above))).trans e1⟩
 ·obtain⟨o',e1⟩:=I.base.there b o e hx;exact⟨o',(hs.2 b (ne_of_lt (lt_of_lt_of_le (Heap.lt_size e) I.ok.above))).trans e1⟩
 ·by_cases hj:j=i
  ·subst hj;rw [List.getElem?_set_self hiσ] at e2;cases e2
  ·rw [List.getElem?_set_ne (Ne.symm hj)] at e2;obtain⟨u',r',q⟩:=hl j y v' e1 e2 e3;refine⟨u',r',?_⟩;rcases q with ⟨k,e⟩ | ⟨k,c,e,z⟩
   ·refine .inl ⟨k,?_⟩;have:y≠x:=λe=>hj (CT hN e1 (e ▸ hi));simp [this,e]
   ·exact .inr ⟨k,c,e,z.sameBut hs (cne y c e)⟩
 ·obtain⟨w',z⟩:=I.cell y c e;exact⟨w',z.sameBut hs (cne y c e)⟩
 ·obtain⟨e,n,ne,nf,d⟩:=I.pin p hp;exact⟨(hs.2 p.1 ne).trans e,n,ne,nf,d⟩
 ·refine(I.hok b ob e).stay (λc w' hc q=>(hs.2 c ?_).trans q) (λ_ q=>q) λ_ _ q=>q;rintro rfl;rcases hc with rfl | hc
  ·rw [I.free] at e;cases e
  ·rw [I.free] at hc;cases hc
end
noncomputable def aaK (x:Addr) (cls:Value):HO:=.ext λh=>∃ob,h.get? x=some ob/\ob.cls=cls
structure ExcAt (K:Fr) (C:Addr):Prop where
 ex:∃(nm q:Str) (Nn:Addr) (bs bm:List Value) (hdct:Bool) (sn:List Str) (sub:List Value) (ab:Bool) (col:Option Bool) (dd:Option Addr) (k0 k1 k2 k3 k5:Option Value) (newId:String),bm.contains (.type "BaseException")=true/\
  ∀h:Heap,K.In h->h.get? C=some (excClassObj nm q C Nn bs bm hdct sn sub ab col dd k0 k1 k2 k3 k5 newId)
noncomputable def WR (sp:Sp) (R:St->XK) (t:TA):TE:=λσ H Q=>t σ H λvs H1=>sp vs H1 Q (R σ)
theorem Jg {X:Cx} {CX:Dp} {k:Nat} {f:Addr} {fd:FuncData} {ps:List Str} {sp:Sp} {R:St->XK} {x:Str} {p pos:Pos} {e:Expr} {es:List Expr} {t:TA}
  (F:fY X.prog X.w X.K X.mg X.base CX k f fd ps sp) (hr:gJ k X.A) (hg:Gl X x) (hm:X.mg x=some (.ref f)) (hk:PySem.W.keepIn X.K (.ref f)=true) (hb:Binds X.K fd ps [])
  (hx:∀pins σ H s e s',Inv X pins σ H s->CX X.stack H s (R σ) e s'->X.xe e s')
  (ha:PA X (e:: es) t) (hdb:(x == ("__debug__" :Str))=false:=by decide) (he:starEach (e:: es) X.env=(false,eval e X.env):: starEach es X.env:=by rfl) (hpl:(backTo pos (starEach es X.env)).any (·.1)=false:=by rfl):
  PE X (.Call (.Name x p) (e:: es) [] pos) (WR sp R t):=by
 intro pins s σ H Q I h;refine wpAny_Call_Name_kw (qX I hg hm ?_ hdb);refine PySem.W.callWith_K (h₀:=X.base) I.ok.mod.kin hk (dC (ha pos pins s σ H _ I h) λus s1 ⟨vs,H1,I1,r,q⟩=>⟨I1.kIn,?_⟩) he hpl;have hl:us.length=ps.length:=by rw [<-r.length];exact F.len _ _ _ _ q
 have hb':=hb s1 us I1.kIn (by simpa using hl);rw [append_nil] at hb';refine wpAny_call (codeAny_mono (F.run X.A X.stack s1 H1 ⟨us,[]⟩ us vs Q (R σ) hr I1.env0 hb' r q) λr s' hq=>?_);cases r with
 | error e=>exact hx pins σ H1 s1 e s' I1 hq
 | ok fl=>
  cases fl with
  | ret u=>exact I1.after hq
  | next=>exact False.elim hq
  | brk=>exact False.elim hq
  | cont=>exact False.elim hq
section
variable {prog:Program} {w:World} {A:Around} {E:Value->Shared->Prop} {h:Heap} {g:Array GenState} {d:Drawn} {t:Nat} {os:OsState} {a:Addr} {o:Obj} {C:Addr}
structure Gp (M:Model) (h:Heap) (C:Addr):Prop where
 ga:∀{A:Around} {E:Value->Shared->Prop} {Q:Option Value->Shared->Prop} {g d t os},Q (some (.builtin "BaseException.__getattribute__")) ⟨h,g,d,t,os⟩->wpAny M A (typeLookup (.ref C) "__getattribute__") Q E ⟨h,g,d,t,os⟩
 gn:∀{A:Around} {E:Value->Shared->Prop} {Q:Option Value->Shared->Prop} {g d t os},Q none ⟨h,g,d,t,os⟩->wpAny M A (typeLookup (.ref C) "__getattr__") Q E ⟨h,g,d,t,os⟩
 cl:∀{A:Around} {E:Value->Shared->Prop} {Q:Option Value->Shared->Prop} {g d t os},Q (some (.builtin "object.__class__")) ⟨h,g,d,t,os⟩->wpAny M A (typeLookup (.ref C) "__class__") Q E ⟨h,g,d,t,os⟩
 ob:∀{A:Around} {E:Value->Shared->Prop} {Q:Bool->Shared->Prop} {g d t os},Q true ⟨h,g,d,t,os⟩->wpAny M A (isSubtype (.ref C) (.type "object")) Q E ⟨h,g,d,t,os⟩
 be:∀{A:Around} {E:Value->Shared->Prop} {Q:Bool->Shared->Prop} {g d t os},Q true ⟨h,g,d,t,os⟩->wpAny M A (isSubtype (.ref C) (.type "BaseException")) Q E ⟨h,g,d,t,os⟩
theorem WX {R:Result->Shared->Prop} (L:Gp (model prog w) h C) (hx:h.get? a=some o) (hc:o.cls=.ref C) (hq:R (.ok (.ret (.ref C))) ⟨h,g,d,t,os⟩):
  codeAny (model prog w) A (.call (.builtin "getset_descriptor.__get__") ⟨[.builtin "object.__class__",.ref a,.ref C],[]⟩) R ⟨h,g,d,t,os⟩:=by
 have hT5:(⟨h,g,d,t,os⟩:Shared).TypeIs (.builtin "object.__class__") "getset_descriptor" :=F.typeOf_object_class;refine codeAny_call_builtin F.slot_gs_get.plain F.entry_gs_get (F.slot_gs_get.check _ _ _ _ _ _ _ _ hT5 (F.args_gs_get _ _ _) ?_);repeat (any_goals (first | assumption | (with_reducible refine wpAny_loadPart_at hx ?_;rw [hc]) | (rw [F.owner_object_class];with_reducible refine L.ob ?_) | wp_step))
 refine⟨Code.quiet_builtin _ (by decide +kernel),codeAny_builtin F.entry_object_class ?_⟩;repeat (any_goals (first | assumption | (with_reducible refine wpAny_loadPart_at hx ?_;rw [hc]) | wp_step))
theorem JG {M:Model} {nameV:Value} {Q:Unit->Shared->Prop} (L:Gp M h C)
  (hx:h.get? a=some o) (hc:o.cls=.ref C) (hq:Q () ⟨h,g,d,t,os⟩):wpAny M A (checkBuiltinCall "BaseException.__getattribute__" ⟨[.ref a,nameV],[]⟩) Q E ⟨h,g,d,t,os⟩:=by
 have hk:builtinKind "BaseException.__getattribute__" =some .slot:=by decide +kernel
 have hsplit:splitId "BaseException.__getattribute__" =some ("BaseException", "__getattribute__"):=by decide +kernel
 have ha:=F.args_bexc_ga (.ref a) nameV;simp only [checkBuiltinCall,hk,hsplit];refine wpAny_bind ?_
 ·unfold isInstance;repeat (first | (with_reducible refine wpAny_loadPart_at hx ?_;rw [hc]) | with_reducible refine L.be ?_ | wp_step)
  exact hq
theorem Q3 {tk:Tok} {Q:Fin->Shared->Prop} (L:Gp (model prog w) h C) (hx:h.get? a=some o) (hc:o.cls=.ref C) (hq:Q (.done (.ret (.ref C))) ⟨h,g,d,t,os⟩):
  wpAny (model prog w) A (Builtin.«object.__getattribute__» ⟨[.ref a,.str "__class__" tk],[]⟩) Q E ⟨h,g,d,t,os⟩:=by
 have hT5:(⟨h,g,d,t,os⟩:Shared).TypeIs (.builtin "object.__class__") "getset_descriptor" :=F.typeOf_object_class;have f5:=F.typeOf_object_class;have f6:=F.slot_gs_get.lookup;have f7:=F.slot_gs_set.lookup;repeat (any_goals (first | assumption | (with_reducible refine wpAny_loadPart_at hx ?_;rw [hc]) | with_reducible refine L.cl ?_ | wp_step))
 refine WX L hx hc ?_;repeat (any_goals (first | assumption | wp_step))
theorem ZG {tk:Tok} {fill expr:Bool} {Q:Value->Shared->Prop} (L:Gp (model prog w) h C) (FB:ExcAttrFacts "ValueError") (hx:h.get? a=some o) (hc:o.cls=.ref C) (hq:Q (.ref C) ⟨h,g,d,t,os⟩):
  wpAny (model prog w) A (getAttrBy (.ref a) (.str "__class__" tk) fill expr) Q E ⟨h,g,d,t,os⟩:=by
 have f3:=FB.ga.bind (.ref a);have hx0:(expr && onTheHeap (Value.builtin "BaseException.__getattribute__"))=false:=by cases expr <;> rfl
 have hx2:(Value.builtin "BaseException.__getattribute__" == Value.builtin "object.__getattribute__")=false:=by decide +kernel
 have hx1:(onTheHeap (Value.ref C) && Value.builtin "BaseException.__getattribute__" == Value.builtin "object.__getattribute__")=false:=by rw [hx2];rfl
 repeat (any_goals (first | assumption | (with_reducible refine wpAny_loadPart_at hx ?_;rw [hc]) | with_reducible refine L.ga ?_ | with_reducible refine L.gn ?_ | wp_step))
 refine codeAny_call_builtin FB.ga.plain F.entry_bexc_ga (JG L hx hc (Q3 L hx hc ?_));repeat (any_goals (first | assumption | wp_step))
theorem Ve {Q:Option Value->Shared->Prop} (L:Gp (model prog w) h C) (FB:ExcAttrFacts "ValueError") (hx:h.get? a=some o) (hc:o.cls=.ref C) (hq:Q (some (.ref C)) ⟨h,g,d,t+1,os⟩):
  wpAny (model prog w) A (getAttr? (.ref a) "__class__") Q E ⟨h,g,d,t,os⟩:=by
 unfold getAttr? getAttrBy?;repeat (any_goals (first | assumption | with_reducible apply ZG L FB hx hc | wp_step))
end
noncomputable abbrev Dg:List Value:=[.type "ValueError",.type "Exception",.type "BaseException",.type "object"]
noncomputable def Qo (K:Fr) (N:Addr) (x:Str):Option Value:=match K.lookup N with
 | some o=>(match o.data with | .dict es _=>nsFind es x | _=>none)
 | none=>none
theorem QK {K:Fr} {h:Heap} {N:Addr} (X:K.In h) (ok:PySem.W.nsOkIn K N=true):h.nsMap N=Qo K N:=by
 funext x
 unfold PySem.W.nsOkIn at ok;split at ok
 ·rename_i look;unfold Heap.nsMap Qo;rw [X _ _ look,look]
 ·cases ok
theorem Q7 {K:Fr} {N:Addr} {x:Str} (e:PySem.W.nsIn K N x=some none):Qo K N x=none:=by
 unfold PySem.W.nsIn at e;split at e
 ·rename_i look;split at e
  ·cases e
  ·rename_i f;unfold Qo;rw [look];show nsFind _ _=none;unfold nsFind findBy;rw [<-Array.find?_toList,f];rfl
 ·cases e
theorem Ez {K:Fr}:∀{l:List Value},PySem.W.tailIn K Dg l=true->l.contains (.type "BaseException")=true
 | [],e=>by simp [PySem.W.tailIn,Dg] at e
 | v:: r,e=>by
  unfold PySem.W.tailIn at e;rcases Bool.or_eq_true_iff.mp e with z | z
  ·rw [beq_iff_eq.mp z];decide +kernel
  ·split at z
   ·split at z
    ·simp only [and_eq_true] at z;rw [List.contains_cons,Ez z.2,Bool.or_true]
    ·cases z
   ·cases z
theorem tR.ofIn {K:Fr} {C:Addr} (z:PySem.W.excIn K C Dg "ValueError.__new__" =true):tR K C:=by
 unfold PySem.W.excIn at z;split at z
 ·rename_i od kd slo look;split at z
  ·rename_i C1 up a0 a1 a2 a3 nid a5 em es;simp only [and_eq_true,beq_iff_eq,Bool.not_eq_true'] at z;obtain⟨⟨⟨⟨⟨x1,x2⟩,x3⟩,x4⟩,x5⟩,x6⟩:=z;subst x1 x2;obtain⟨g1,g2,g3,g4,g5,g6,g7,g8,g9,g10,g11⟩:=kd;dsimp only at em x3 x5 x6;subst em x3;have hs:slo= #[a0,a1,a2,a3,some (.builtin "ValueError.__new__"),a5]:=by obtain⟨l⟩:=slo;simp only at es;rw [es]
   subst hs;refine⟨⟨g1,g5,g4,g2,up,Dg,g6,g7,g8,g9,g10,od,a0,a1,a2,a3,a5, "ValueError", "ValueError.__new__", "ValueError.__init__",Qo K g4,PySem.F.excBase_ValueError,Ez x4,Q7 x6,λh X=>⟨X _ _ look,?_,PySem.W.tail_of_in X x4⟩⟩⟩;rw [<-QK X x5];exact .of_isNs (PySem.W.isNs_of_in X x5)
  ·cases z
 ·cases z
theorem tR.at {K:Fr} {C:Addr} (c:tR K C):ExcAt K C:=by obtain⟨nm,q,Nn,bs,bm,bmB,hdct,sn,sub,ab,col,dd,k0,k1,k2,k3,k5,B,newId,initId,mN,_,hb,_,hf⟩:=c.ex;exact⟨⟨nm,q,Nn,bs,bm,hdct,sn,sub,ab,col,dd,k0,k1,k2,k3,k5,newId,hb,λh X=>(hf h X).1⟩⟩
structure Qn (K:Fr) (C:Addr):Prop where
 cls:(PySem.W.clsIn K C).isSome=true
 ga:PySem.W.findIn K (.ref C) "__getattribute__" =some (some (.builtin "BaseException.__getattribute__"))
 gn:PySem.W.findIn K (.ref C) "__getattr__" =some none
 cl:PySem.W.findIn K (.ref C) "__class__" =some (some (.builtin "object.__class__"))
 ob:PySem.W.subIn K (.ref C) (.type "object")=some true
 be:PySem.W.subIn K (.ref C) (.type "BaseException")=some true
theorem Qn.lk {K:Fr} {C:Addr} {M:Model} {h:Heap} (x:Qn K C) (X:K.In h):Gp M h C:=
 ⟨λq=>(PySem.W.looks_findIn X x.ga).at q,λq=>(PySem.W.looks_findIn X x.gn).at q,λq=>(PySem.W.looks_findIn X x.cl).at q,λq=>(PySem.W.looks_subIn X x.ob).at q,λq=>(PySem.W.looks_subIn X x.be).at q⟩
noncomputable def Hq (y C:Addr) (h:Heap):Prop:=∃ob,h.get? y=some ob/\ob.cls=.ref C
theorem Qn.obj {K:Fr} {C:Addr} (x:Qn K C):∃c d cd sl,K.lookup C=some ⟨c,d,.cls cd,sl⟩:=by
 have z:=x.cls;unfold PySem.W.clsIn at z;split at z
 ·rename_i look;exact⟨_,_,_,_,look⟩
 ·cases z
theorem Bl {K:Fr} {y C:Addr} (x:Qn K C):PySem.W.KitX K (.ref y) (.ref C) (Hq y C) where
 ty:=λ_ _ _ ⟨_,e1,e2⟩=>e2 ▸ (PySem.W.Looks.ld e1).andThen .now
 it:=λ_ h X _=>by obtain⟨c,d,cd,sl,look⟩:=x.obj;intro A Q E s k q;unfold isType loadHead;exact wpAny_bind (wpAny_loadPart (k _ _ (X _ _ look)) (wpAny_pure q))
 ne:=λh tp dd its n sl X e=>by obtain⟨c,d,cd,sl',look⟩:=x.obj;refine Bool.eq_false_iff.mpr λq=>?_;obtain rfl:C=tp:=Value.ref.inj (beq_iff_eq.mp q);have z:=(X _ _ look).symm.trans e;cases z
 ca:=λ{_ _ _ _ _ s} X p k=>by obtain⟨h,g,d,t,os⟩:=s;obtain⟨ob,e1,e2⟩:=p;exact Ve (x.lk X) PySem.F.attr_ValueError e1 e2 k
noncomputable def aaq (K:Fr) (C:Addr):V->Bool->Prop
 | .ref D,b=>PySem.W.kitOne K (.ref C) (.ref D)=some b
 | .ty T,b=>PySem.W.kitOne K (.ref C) (.type T)=some b
 | _,_=>False
section
variable {P:Program} {w:World} {K:Fr} {mg:Str->Option Value} {base:Heap}
end
end L2
namespace L2
open PySem
section
variable {prog:Program} {w:World} {A:Around} {E:Value->Shared->Prop} {h:Heap} {g:Array GenState} {d:Drawn} {t:Nat} {os:OsState}
variable {nm q:Str} {C N:Addr} {bs bm bmB:List Value} {hdct:Bool} {sn:List Str} {sub:List Value} {ab:Bool} {col:Option Bool} {dd:Option Addr} {k0 k1 k2 k3 k5:Option Value} {B newId initId:String}
theorem O1 {mN:Str->Option Value} {name:Str} {v:Value} {Q:Option Value->Shared->Prop} {M:Model} (hC:h.get? C=some (excClassObj nm q C N bs bm hdct sn sub ab col dd k0 k1 k2 k3 k5 newId)) (hn:h.Ns N mN) (hv:mN name=some v)
  (hq:Q (some v) ⟨h,g,d,t,os⟩):wpAny M A (typeLookup (.ref C) name) Q E ⟨h,g,d,t,os⟩:=by
 rw [typeLookup_eq];refine wpAny_bind (wpAny_mroOf_exc hC ?_);rw [lookupAlong_cons];refine wpAny_bind (wpAny_classOwn_exc hC hn ?_);rw [hv];exact wpAny_pure hq
theorem HY (F:ExcBaseFacts B newId initId bmB) (T:OwnTail h bmB bm) {mN:Str->Option Value} {us:List Value} {f:Addr} {fo:Obj} {Q:Fin->Shared->Prop}
  (hC:h.get? C=some (excClassObj nm q C N bs bm hdct sn sub ab col dd k0 k1 k2 k3 k5 newId)) (hn:h.Ns N mN) (hi:mN "__init__" =some (.ref f)) (hf:h.get? f=some fo) (hfc:fo.cls=.type "function")
  (go:∀h' e,h.objs.size<=e->Heap.MadeExcOf h h' e (.ref C) us->wpAny (model prog w) A (call (.ref f) (.ref e:: us)) (λr s'=>r=.none/\Q (.done (.ret (.ref e))) s') E ⟨h',g,d,t,os⟩) (hz:us.length<=sizeLine):
  wpAny (model prog w) A (Builtin.«type.__call__» ⟨.ref C:: us,[]⟩) Q E ⟨h,g,d,t,os⟩:=by
 repeat (first | with_reducible refine wpAny_loadPart_at hC ?_ | with_reducible refine wpAny_madeBy_exc hC ?_ | wp_step)
 refine codeAny_call_builtin_code (Code.quiet_builtin _ F.quiet) (wpAny_check_new_subT F T hC ?_);refine codeAny_exc_new_subT F T hC ?_ hz;show wpAny _ _ _ _ _ _;generalize ho:({ cls:=.ref C,data:=.fields #[.ref h.objs.size,.none,.none,.none,.bool false,.none] }:Obj)=eo;generalize hp:h.push { cls:=.type "tuple",data:=.seq us.toArray }=hp1;have up:∀b o,h.get? b=some o->(hp1.push eo).get? b=some o:=λb o z=>Heap.get?_push_of_some _ (by rw [<-hp];exact Heap.get?_push_of_some _ z);have hC1:=up _ _ hC;have hn1:(hp1.push eo).Ns N mN:=hn.keeps up;have sz:hp1.objs.size=h.objs.size+1:=by rw [<-hp,Heap.size_push]
 have he:(hp1.push eo).get? (h.objs.size+1)=some eo:=by rw [<-sz];exact Heap.get?_push_size _ (by rw [<-ho];rfl)
 have hcl:eo.cls=.ref C:=by rw [<-ho]
 have hsub:(Value.ref C:: bm).contains (.ref C)=true:=by simp
 unfold isInstance;repeat (first | (with_reducible refine wpAny_loadPart_at he ?_;rw [hcl]) | (with_reducible refine wpAny_isSubtype_exc hC1 ?_;rw [hsub]) | wp_step)
 show wpAny _ _ (typeLookup (.ref C) _) _ _ _;refine O1 hC1 hn1 hi ?_;refine wpAny_holding (wpAny_bind ?_);unfold bindSpecial;refine wpAny_bind (wpAny_typeOf (T:= "function") ⟨_,up _ _ hf,hfc⟩ ?_);rw [if_pos (by decide)];have made:Heap.MadeExcOf h (hp1.push eo) (h.objs.size+1) (.ref C) us:=by refine⟨up,Heap.get?_none_of_le (le_succ _),h.objs.size,by rw [he,<-ho],Heap.get?_none_of_le (le_refl _),?_⟩;refine Heap.get?_push_of_some _ ?_;rw [<-hp];exact Heap.get?_push_at Z Z
 refine wpAny_pure (wpAny_bind (wpAny_mono (go _ _ (le_succ _) made) (λr s' hr=>?_) λ_ _ x=>x));obtain⟨rfl,hQ⟩:=hr
 wp_walk
 exact hQ
end
section
variable {prog:Program} {w:World} {A:Around} {E:Value->Shared->Prop} {h:Heap} {g:Array GenState} {d:Drawn} {t:Nat} {os:OsState}
variable {nm q:Str} {C N:Addr} {bs bm bmB:List Value} {hdct:Bool} {sn:List Str} {sub:List Value} {ab:Bool} {col:Option Bool} {dd:Option Addr} {k0 k1 k2 k3 k5:Option Value} {B newId initId:String}
theorem Uy (F:ExcBaseFacts B newId initId bmB) (T:OwnTail h bmB bm) {mN:Str->Option Value} {us:List Value} {f:Addr} {fo:Obj} {Q:Value->Shared->Prop}
  (hC:h.get? C=some (excClassObj nm q C N bs bm hdct sn sub ab col dd k0 k1 k2 k3 k5 newId)) (hn:h.Ns N mN) (hi:mN "__init__" =some (.ref f)) (hf:h.get? f=some fo) (hfc:fo.cls=.type "function")
  (go:∀h' e,h.objs.size<=e->Heap.MadeExcOf h h' e (.ref C) us->wpAny (model prog w) (A.under (.builtin "type.__call__" ⟨.ref C:: us,[]⟩)) (call (.ref f) (.ref e:: us)) (λr s'=>r=.none/\Q (.ref e) s') E ⟨h',g,d,t,os⟩) (hz:us.length<=sizeLine):
  wpAny (model prog w) A (call (.ref C) us) Q E ⟨h,g,d,t,os⟩:=by
 have z1:=tc_lookup;have z2:=tc_bind (.ref C);have z3:(⟨h,g,d,t,os⟩:Shared).TypeIs (.ref C) "type" :=⟨_,hC,rfl⟩;refine wpAny_call (codeAny_of_tree ?_);show wpAny _ _ (callAny (.ref C) _) _ _ _;repeat (any_goals (first | assumption | with_reducible refine wpAny_loadPart_at hC ?_ | wp_step))
 refine⟨Z,?_⟩;exact codeAny_call_builtin_at (Code.quiet_builtin _ (by decide +kernel)) entry_typeCall (wpAny_check_type_call_sub hC (HY F T hC hn hi hf hfc (λh' e z m=>go h' e z m) hz))
theorem Uw (F:ExcBaseFacts B newId initId bmB) (T:OwnTail h bmB bm) {e:Addr} {oe:Obj} {a0:Addr} {vr:List Value} {us:List Value} {Q:Value->Shared->Prop}
  (hC:h.get? C=some (excClassObj nm q C N bs bm hdct sn sub ab col dd k0 k1 k2 k3 k5 newId)) (he:h.get? e=some oe) (hcls:oe.cls=.ref C) (hd:oe.data=.fields (.ref a0:: vr).toArray) (hz:us.length<=sizeLine)
  (go:∀h' tp,h.get? tp=none->(∀b o,b≠e->h.get? b=some o->h'.get? b=some o)->h'.get? e=some { oe with data:=.fields (.ref tp:: vr).toArray }->Q .none ⟨h',g,d,t,os⟩):
  wpAny (model prog w) A (call (.builtin initId) (.ref e:: us)) Q E ⟨h,g,d,t,os⟩:=by
 obtain⟨oc,od,dt,osl⟩:=oe;obtain rfl:oc=.ref C:=hcls;obtain rfl:dt=.fields (.ref a0:: vr).toArray:=hd;refine wpAny_call (codeAny_call_builtin F.init.plain F.initEntry (wpAny_check_init_subT F T hC he Z ?_))
 wp_walk
 refine go _ h.objs.size (Heap.get?_none_of_le (le_refl _)) (λb o hb hq=>?_) ?_
 ·rw [Heap.get?_update_other _ _ (Ne.symm hb)];exact Heap.get?_push_of_some _ hq
 ·rw [Heap.get?_update_self _ (Heap.get?_push_of_some _ he) rfl];rfl
end
end L2
namespace L2
open PySem Builtin Builtin.ObjectAttr
noncomputable def yt:List Value->Bool
 | .ref _:: r=>yt r
 | l=>l == Dg
theorem rZ (self:Value):∀{l:List Value},yt l=true->refuseLoop self "__setattr__" l=pure ()
 | [],e=>by cases (beq_iff_eq.mp (show(([]:List Value) == Dg)=true from e))
 | v:: r,e=>by
  cases v with
  | ref c=>rw [refuseLoop_ref];exact rZ self (l:=r) e
  | _=>rw [beq_iff_eq.mp (show(_ == Dg)=true from e)];exact PySem.F.store_ValueError.passes self
theorem zE:∀{l:List Value},yt l=true->l.contains (.type "object")=true
 | [],e=>by cases (beq_iff_eq.mp (show(([]:List Value) == Dg)=true from e))
 | v:: r,e=>by
  cases v with
  | ref c=>rw [List.contains_cons,zE (l:=r) e,Bool.or_true]
  | _=>rw [beq_iff_eq.mp (show(_ == Dg)=true from e)];decide +kernel
structure Ml (K:Fr) (C:Addr):Prop where
 xc:Qn K C
 sa:PySem.W.findIn K (.ref C) "__setattr__" =some (some (.builtin "object.__setattr__"))
 ov:(PySem.W.clsIn K C).any (λcd=>yt cd.mro && cd.hasDict)=true
section
variable {prog:Program} {w:World} {A:Around} {E:Value->Shared->Prop} {h:Heap} {g:Array GenState} {d:Drawn} {t:Nat} {os:OsState} {x C:Addr} {K:Fr} {mA:Str->Option Value} {name:Str} {v:Value}
theorem Og (I:h.Inst x C mA):∃ox od,PySem.W.InstAt h x ox C od/\((ox.dict=none/\od=none/\∀n,mA n=none)∨∃dx o,ox.dict=some dx/\dx≠x/\od=some o/\h.Ns1 dx mA/\∀n,PySem.W.lookIn n o=some (mA n)):=by
 obtain⟨o,hx,hc,hnc,hd⟩:=I;have no:PySem.W.notCls o=true:=by
  unfold PySem.W.notCls;split
  ·rename_i c hcd;exact absurd hcd (hnc _)
  ·rfl
 rcases hd with ⟨hdn,hm⟩ | ⟨dx,hdx,hne,hns⟩
 ·exact⟨o,none,⟨hx,hc,no,by rw [hdn];exact True.intro⟩,.inl ⟨hdn,rfl,hm⟩⟩
 ·obtain⟨od,ho,hl⟩:=yZ hns;exact⟨o,some od,⟨hx,hc,no,by rw [hdx];exact ho⟩,.inr ⟨dx,od,hdx,hne,rfl,hns,hl⟩⟩
theorem Q8 {tk:Tok} {ns:List Str} {R:Result->Shared->Prop} (X:K.In h) (c:Ml K C) (ht:PySem.W.takerIn K C name=some none) (I:h.Inst x C mA) (hw:PySem.Within mA ns) (hsz:ns.length<=sizeLine)
  (hq:∀h' tk',h'.Inst x C (λy=>if y=name then some v else mA y)->
   (∀b o,b≠x->(∀o₀ dx,h.get? x=some o₀->o₀.dict=some dx->b≠dx)->h.get? b=some o->h'.get? b=some o)->
   (∀o₀,h.get? x=some o₀->∃o₁,h'.get? x=some o₁/\o₁.cls=o₀.cls/\o₁.data=o₀.data/\o₁.slots=o₀.slots/\(∀dx,o₀.dict=some dx->o₁.dict=some dx)/\(o₀.dict=none->o₁.dict=some h.objs.size))->R (.ok (.ret .none)) ⟨h',g,d,tk',os⟩):
  codeAny (model prog w) A (.call (.builtin "object.__setattr__") ⟨[.ref x,.str name tk,v],[]⟩) R ⟨h,g,d,t,os⟩:=by
 have SF:=PySem.F.store_object;obtain⟨cd,hc,ho⟩:=PySem.W.any_some c.ov;simp only [and_eq_true] at ho;obtain⟨ho,hd'⟩:=ho;obtain⟨ox,od,J,_⟩:=Og I;have ne:cd.mro.isEmpty=false:=by cases q:cd.mro with | nil=>rw [q] at ho;cases ho | cons _ _=>rfl
 have sub:PySem.W.Looks (model prog w) h (isInstance (.ref x) (.type "object")) true:=J.type.andThen (PySem.W.looks_mroIn X (by unfold PySem.W.mroIn;rw [hc,Option.bind_some,if_neg (by rw [ne];decide),zE ho]));refine codeAny_call_builtin SF.slot.plain SF.entry (@PySem.W.check_slot (model prog w) _ _ ⟨h,g,d,t,os⟩ "object.__setattr__" "object" "__setattr__" (.ref x) [.str name tk,v] [] _ SF.kind SF.split sub (SF.args (.ref x) (.str name tk) v) ?_);obtain⟨attr,ha,hr⟩:=Option.bind_eq_some_iff.mp ht;have hm:PySem.W.Looks (model prog w) h (mroOf (.ref C)) cd.mro:=(PySem.W.looks_clsIn X hc).andThen .now;have L3:PySem.W.Looks (model prog w) h (storeTaker? attr) none:=by
  cases attr with
  | none=>exact .now
  | some a=>
   obtain⟨b,hb,e⟩:=map_eq_some_iff.mp hr;refine(PySem.W.looks_takesIn X hb).andThen ?_;cases b with
   | true=>cases e
   | false=>exact .now
 rw [PySem.W.osa_eq,refuse_eq];refine wpAny_bind (wpAny_bind (J.type.at (wpAny_bind (hm.at ?_))));rw [rZ _ ho];refine wpAny_pure (wpAny_bind (J.type.at (wpAny_bind ((PySem.W.looks_findIn X ha).at (wpAny_bind (L3.at ?_))))));obtain⟨o,hx,hcl,hnc,hd⟩:=I;obtain⟨oc,odi,oda,osl⟩:=o;dsimp only at hcl hnc hd;subst hcl;refine wpAny_bind (wpAny_pure (wpAny_bind (wpAny_bind (wpAny_loadPart hx (wpAny_bind ((PySem.W.looks_clsIn X hc).at ?_))))));rw [hd'];rcases hd with ⟨hdn,hmA⟩ | ⟨dx,hdx,hne,hns⟩
 ·subst hdn;have hxs:x≠h.objs.size:=ne_of_lt (Heap.lt_size hx);have hx₁:(h.push { cls:=.type "dict",data:=.dict #[] }).get? x=some ⟨.ref C,none,oda,osl⟩:=Heap.get?_push_of_some _ hx;dsimp only;rw [if_neg (by simp)];split
  ·rename_i z;cases z
  split
  ·exact absurd Z (hnc _)
  refine wpAny_bind (wpAny_alloc' (wpAny_bind (wpAny_update' hx₁ (wpAny_pure ?_))));have hgd:((h.push { cls:=.type "dict",data:=.dict #[] }).update x λo=>{ cls:=o.cls,dict:=some h.objs.size,data:=o.data,slots:=o.slots }).get? h.objs.size
    =some { cls:=.type "dict",data:=.dict #[] }:=(Heap.get?_update_ne _ _ _ _ hxs.symm).trans (Heap.get?_push_at rfl rfl)
  have hnd:((h.push { cls:=.type "dict",data:=.dict #[] }).update x λo=>{ cls:=o.cls,dict:=some h.objs.size,data:=o.data,slots:=o.slots }).Ns h.objs.size (λ_=>none):=
   ⟨_,#[],_,hgd,rfl,λe he=>absurd he (by simp),λ_=>rfl⟩
  show wpAny _ _ (storeInDict h.objs.size (.str name tk) name v) _ _ _;unfold storeInDict newKeyGuard;refine wpAny_bind (wpAny_pure (wpAny_bind (wpAny_nsSet1 (Heap.Ns1.of_empty hnd) λh' hn' hs=>?_)));obtain⟨oD,esD,epD,hoD,hdD,hcD⟩:=hn'.count (Within.cons name v Within.nil);refine wpAny_bind (wpAny_lookBehind hoD (by rw [hdD];exact pastItsLine_dict (le_trans hcD (by rw [length_cons,length_nil,sizeLine_eq];lia))) ?_)
  wp_walk
  have hx':h'.get? x=some ⟨.ref C,some h.objs.size,oda,osl⟩:=by refine(hs.2 x hxs).trans (Heap.get?_update_self _ hx₁ ?_);have hfr:=(Heap.get?_some_iff.mp hx).2;cases oda <;> first | rfl | exact hfr
  refine hq h' _ ⟨_,hx',Z,hnc,.inr ⟨h.objs.size,Z,hxs.symm,?_⟩⟩ (λb ob hbx _ hb=>?_)
   (λo₀ h₀=>by obtain rfl:=Option.some.inj (hx.symm.trans h₀);exact⟨_,hx',rfl,rfl,rfl,λdx e=>(by cases e),λ_=>rfl⟩)
  ·obtain⟨o',es,ep,e1,e2,e3,eu,e4⟩:=hn';exact⟨o',es,ep,e1,e2,e3,eu,λy=>by rw [e4 y];by_cases hy:y=name <;> simp [hy,hmA]⟩
  ·exact(hs.2 b (ne_of_lt (Heap.lt_size hb))).trans ((Heap.get?_update_ne _ _ _ _ hbx).trans (Heap.get?_push_of_some _ hb))
 ·subst hdx;refine wpAny_pure (a:=some dx) (wpAny_bind (wpAny_pure (wpAny_bind ?_)));refine wpAny_nsSet1 (s:=⟨h,g,d,t,os⟩) hns λh' hn' hs=>?_;obtain⟨oD,esD,epD,hoD,hdD,hcD⟩:=hn'.count (PySem.Within.cons name v hw);refine wpAny_bind (wpAny_lookBehind hoD (by rw [hdD];exact pastItsLine_dict (le_trans hcD (by rw [length_cons];lia))) ?_);refine wpAny_pure (hq h' _ ⟨_,(hs.2 x hne.symm).trans hx,rfl,hnc,.inr ⟨dx,rfl,hne,hn'⟩⟩ (λb ob _ hbd hb=>?_) (λo₀ h₀=>⟨o₀,(hs.2 x hne.symm).trans h₀,rfl,rfl,rfl,λ_ e=>e,λe=>by obtain rfl:=Option.some.inj (hx.symm.trans h₀);cases e⟩));exact(hs.2 b (hbd _ dx hx Z)).trans hb
theorem Xd {ns:List Str} {Q:Unit->Shared->Prop} (X:K.In h) (c:Ml K C) (ht:PySem.W.takerIn K C name=some none) (I:h.Inst x C mA) (hw:PySem.Within mA ns) (hsz:ns.length<=sizeLine)
  (hq:∀h' tk',h'.Inst x C (λy=>if y=name then some v else mA y)->
   (∀b o,b≠x->(∀o₀ dx,h.get? x=some o₀->o₀.dict=some dx->b≠dx)->h.get? b=some o->h'.get? b=some o)->
   (∀o₀,h.get? x=some o₀->∃o₁,h'.get? x=some o₁/\o₁.cls=o₀.cls/\o₁.data=o₀.data/\o₁.slots=o₀.slots/\(∀dx,o₀.dict=some dx->o₁.dict=some dx)/\(o₀.dict=none->o₁.dict=some h.objs.size))->Q () ⟨h',g,d,tk',os⟩):
  wpAny (model prog w) A (setAttr (.ref x) name v) Q E ⟨h,g,d,t,os⟩:=by
 obtain⟨ox,od,J,_⟩:=Og I;exact PySem.W.set_plain X J c.sa (Q8 X c ht I hw hsz λh' tk' a b e=>hq h' tk' a b e)
theorem XS {ox:Obj} {od:Option Obj} {expr:Bool} {Q:Value->Shared->Prop} (X:K.In h) (c:Ml K C) (J:PySem.W.InstAt h x ox C od) (hf:PySem.W.findObj K C od name=some (.value v)) (hh:PySem.W.handedIn v=true)
  (hq:Q v ⟨h,g,d,t+1,os⟩):wpAny (model prog w) A (getAttr (.ref x) name expr) Q E ⟨h,g,d,t,os⟩:=by
 have L:=c.xc.lk (M:=model prog w) X;have FB:=PySem.F.attr_ValueError;have hx:=J.at_;have hc:=J.cls;have L0:=J.type (M:=model prog w);have L1:=PySem.W.looks_find (M:=model prog w) X J hf;have f3:=FB.ga.bind (.ref x);have hx0:(expr && onTheHeap (Value.builtin "BaseException.__getattribute__"))=false:=by cases expr <;> rfl
 have hx2:(Value.builtin "BaseException.__getattribute__" == Value.builtin "object.__getattribute__")=false:=by decide +kernel
 have hx1:(onTheHeap (Value.ref C) && Value.builtin "BaseException.__getattribute__" == Value.builtin "object.__getattribute__")=false:=by rw [hx2];rfl
 unfold getAttr;repeat (any_goals (first | assumption | (with_reducible refine wpAny_loadPart_at hx ?_;rw [hc]) | with_reducible refine L.ga ?_ | with_reducible refine L.gn ?_ | wp_step))
 refine codeAny_call_builtin FB.ga.plain PySem.F.entry_bexc_ga (JG L hx hc ?_);refine wpAny_bind (wpAny_pure (wpAny_bind (wpAny_pure (wpAny_bind (L0.at (wpAny_bind (L1.at (wpAny_pure ?_))))))));show wpAny _ _ (handedOut v) _ _ _;rw [PySem.W.handedOut_of hh];exact wpAny_pure hq
end
end L2
namespace L2
open PySem PySem.Spec PyProof.Rows
noncomputable def uX (x C:Addr):HO:=.ext λh=>∃a0 vr sl,h.get? x=some ⟨.ref C,none,.fields (.ref a0:: .none:: vr).toArray,sl⟩
noncomputable def Aj (x C dx:Addr):HO:=.ext λh=>∃a0 vr sl,h.get? x=some ⟨.ref C,some dx,.fields (.ref a0:: .none:: vr).toArray,sl⟩
section
variable {X:Cx} {pins:List (Addr×Obj)} {σ:St} {H:Hp} {s:Shared} {a C dx:Addr} {fs:List (Str×V)} {f:Str} {v:V} {A:Around} {E:Value->Shared->Prop}
theorem Inv.size (I:Inv X pins σ H s):X.s₀.heap.objs.size<=s.heap.objs.size:=by obtain⟨m,⟨o,_,_,ho,_⟩,_⟩:=I.loc;exact le_of_lt (lt_of_le_of_lt I.ok.above (Heap.lt_size ho))
theorem Inv.track_new {s':Shared} {H':Hp} {x:Addr} {o:HO} (I:Inv X pins σ H s) (I':Inv X pins σ H' s') (hx:s.heap.objs.size<=x) (hn:H' x=none) (new:dg X.prog X.w (upd H' x o) s'.heap x o):Inv X pins σ (upd H' x o) s':=by
 have ne:∀b u,s.heap.get? b=some u->b≠x:=λb u e z=>lt_irrefl _ (lt_of_lt_of_le (Heap.lt_size e) (z ▸ hx));refine I'.track hn (Heap.get?_none_of_le (le_trans I.size hx)) ?_ (λy c e=>?_) (λp hp=>?_) new
 ·obtain⟨m,⟨o,_,_,ho,_⟩,_⟩:=I.loc;exact(ne _ _ ho).symm
 ·obtain⟨v,o,ho,_⟩:=I.cell y c e;exact ne _ _ ho
 ·exact ne _ _ (I.pin p hp).1
theorem Ml.dict {K:Fr} {C:Addr} (c:Ml K C):PySem.W.hasDictIn K C=true:=by obtain⟨cd,hc,ho⟩:=PySem.W.any_some c.ov;simp only [and_eq_true] at ho;unfold PySem.W.hasDictIn;rw [hc];exact ho.2
theorem Uk {y:V} {u:Value} {Q:Unit->Shared->Prop} (I:Inv X pins σ H s) (e:H a=some (uX a C)) (c:Ml X.K C) (n:gW X.K C f) (ry:RelV y u)
  (h:∀dx s',H dx=none->dx≠a->Inv X pins σ (upd (upd H a (Aj a C dx)) dx (.xd [(f,y)])) s'->Q () s'):wpAny (model X.prog X.w) A (setAttr (.ref a) f u) Q E s:=by
 obtain⟨⟨a0,vr,sl,hx⟩,_,_⟩:=(show dg X.prog X.w H s.heap a (uX a C) from I.hok a _ e);obtain⟨hp,g,d,t,os⟩:=s;dsimp only at hx;have inst:hp.Inst a C (λ_=>none):=⟨_,hx,rfl,λ_=>Data.noConfusion,.inl ⟨rfl,λ_=>rfl⟩⟩;refine Xd (ns:=[]) I.kIn c n.taker inst PySem.Within.nil (zero_le _) λh' tk' I' kb ks=>?_;obtain⟨o₁,e1,e2,e3,e4,_,e6⟩:=ks _ hx;have ed:=e6 rfl;obtain⟨o1c,o1d,o1t,o1s⟩:=o₁;dsimp only at e2 e3 e4 ed;subst e2 e3 e4 ed;have ne:hp.objs.size≠a:=ne_of_gt (Heap.lt_size hx);have fr:H hp.objs.size=none:=I.hok.fresh (le_refl _);have I1:Inv X pins σ (upd H a (Aj a C hp.objs.size)) ⟨h',g,d,tk',os⟩:=by
  refine I.write (x:=a) (e:=a) (o:=Aj a C hp.objs.size) (by rw [e];exact True.intro) (.inl rfl) (λb o hb z=>kb b o hb (λo₀ dx q r=>?_) z) ⟨_,e1⟩ ?_
  ·obtain rfl:=Option.some.inj (hx.symm.trans q);cases r
  ·exact⟨⟨_,_,_,e1⟩,⟨_,e1⟩,λh1 h2 ⟨x1,x2,x3,z⟩ k=>⟨x1,x2,x3,k _ z⟩⟩
 refine h _ _ fr ne (I.track_new I1 (le_refl _) (by rw [aH ne];exact fr) ?_);obtain⟨o2,f1,f2,f3,f4⟩:=I';obtain rfl:=Option.some.inj (e1.symm.trans f1);rcases f4 with ⟨z,_⟩ | ⟨d2,z,_,hn⟩
 ·cases z
 ·obtain rfl:=Option.some.inj (show some hp.objs.size=some d2 from z);refine⟨_,hn,λg=>?_⟩;by_cases q:g=f
  ·subst q;rw [if_pos rfl];show oE (List.lookup g [(g,y)]) (some u);simp only [List.lookup,beq_self_eq_true];exact ry
  ·rw [if_neg q];have hb:(g == f)=false:=beq_eq_false_iff_ne.mpr q;show oE (List.lookup g [(f,y)]) none;simp only [List.lookup,hb];exact True.intro
theorem Uj {b:Bool} {Q:Value->Shared->Prop} {fl:Array Value} {sl:Array (Option Value)} (I:Inv X pins σ H s) (hx:s.heap.get? a=some ⟨.ref C,some dx,.fields fl,sl⟩) (ed:H dx=some (.xd fs)) (c:Ml X.K C) (n:gW X.K C f) (l:fs.lookup f=some v)
  (h:∀u s',Inv X pins σ H s'->RelV v u->Q u s'):wpAny (model X.prog X.w) A (getAttr (.ref a) f b) Q E s:=by
 obtain⟨mA,hn,r⟩:=(show dg X.prog X.w H s.heap dx (.xd fs) from I.hok dx _ ed);obtain⟨od,ho,hl⟩:=yZ hn;obtain⟨u,hu,ru⟩:=oE.some_of (v:=v) (o:=mA f) (by rw [<-l];exact r f);have J:PySem.W.InstAt s.heap a ⟨.ref C,some dx,.fields fl,sl⟩ C (some od):=⟨hx,rfl,rfl,ho⟩;obtain⟨hp,g,d,t,os⟩:=s;exact XS I.kIn c J (PySem.W.findObj_own c.dict n Z (by rw [hl,hu])) (Fz ru) (h u _ (I.tok _) ru)
end
inductive QQ (K:Fr) (f:Str) (D:Ends) (σ:St) (y:V) (x:V) (H2:Hp):Prop where
 | mk:∀a C,x=.ref a->H2 a=some (uX a C)->Ml K C->gW K C f->(∀dx,H2 dx=none->dx≠a->D.nx σ (upd (upd H2 a (Aj a C dx)) dx (.xd [(f,y)])))->QQ K f D σ y x H2
noncomputable def Y4 (K:Fr) (ta tv:TE) (f:Str):TS:=λD σ H=>tv σ H λy H1=>ta σ H1 λx H2=>QQ K f D σ y x H2
section
variable {X:Cx} {e o value:Expr} {f:Str} {pos pos':Pos} {ta tv:TE}
theorem M6 (ha:PE X o ta) (hv:PE X value tv) (hs:swapsWith value (some (.Attribute o f pos')) pos.line X.env=pure false):PS X (.Assign [.Attribute o f pos'] value pos) (Y4 X.K ta tv f):=by intro pins s σ H D I h;refine plainObj_wpAny_Assign_Attribute (dC (hv pins s σ H _ I h) λu s1 ⟨y,H1,I1,ry,q⟩=>dC (ha pins s1 σ H1 _ I1 q) λov s2 hpt=>?_) hs;obtain⟨x,H2,I2,rx,a,C,ex,ea,c,n,q2⟩:=hpt;subst ex;obtain rfl:ov=Value.ref a:=rx;exact Uk I2 ea c n ry λdx s3 h1 h2 I3=>⟨σ,_,I3,q2 dx h1 h2⟩
end
noncomputable def Qt (K:Fr) (C f:Addr):Bool:=match K.lookup C with
 | some o=>(match o.data with
  | .cls kd=>o.cls == .type "type" && kd.mro.head? == some (.ref C) && PySem.W.tailIn K Dg kd.mro.tail && !kd.hasDel && PySem.W.nsOkIn K kd.ns && Qo K kd.ns "__init__" == some (.ref f) && o.slots.size == 6 && o.slots[4]? == some (some (.builtin "ValueError.__new__"))
  | _=>false)
 | none=>false
structure p8 (K:Fr) (C f:Addr):Prop where
 ex:∃(nm q:Str) (Nn:Addr) (bs bm:List Value) (hdct:Bool) (sn:List Str) (sub:List Value) (ab:Bool) (col:Option Bool) (dd:Option Addr) (k0 k1 k2 k3 k5:Option Value) (mN:Str->Option Value),
  mN "__init__" =some (.ref f)/\∀h:Heap,K.In h->h.get? C=some (excClassObj nm q C Nn bs bm hdct sn sub ab col dd k0 k1 k2 k3 k5 "ValueError.__new__")/\h.Ns Nn mN/\OwnTail h Dg bm
theorem aau {α:Type}:∀{l:List α},l.length=6->∃a b c d e f,l=[a,b,c,d,e,f]
 | [a,b,c,d,e,f],_=>⟨a,b,c,d,e,f,rfl⟩
theorem p8.ofIn {K:Fr} {C f:Addr} (z:Qt K C f=true):p8 K C f:=by
 unfold Qt at z;split at z
 ·rename_i o look;obtain⟨oc,od,dt,slo⟩:=o;dsimp only at z;split at z
  ·rename_i kd;simp only [and_eq_true,beq_iff_eq,Bool.not_eq_true'] at z;obtain⟨⟨⟨⟨⟨⟨⟨x1,x2⟩,x3⟩,x4⟩,x5⟩,x6⟩,x7⟩,x8⟩:=z;subst x1;obtain⟨g1,g2,g3,g4,g5,g6,g7,g8,g9,g10,g11⟩:=kd;dsimp only at x2 x3 x4 x5 x6;obtain⟨sl⟩:=slo;obtain⟨a0,a1,a2,a3,a5,rfl⟩:∃a0 a1 a2 a3 a5,sl=[a0,a1,a2,a3,some (.builtin "ValueError.__new__"),a5]:=by obtain⟨a0,a1,a2,a3,a4,a5,rfl⟩:=aau (show sl.length=6 from x7);have e:a4=some (.builtin "ValueError.__new__"):=Option.some.inj (show some a4=_ from x8);subst e;exact⟨a0,a1,a2,a3,a5,Z⟩
   obtain⟨up,rfl⟩:∃up,g3=.ref C:: up:=by
    cases g3 with
    | nil=>cases x2
    | cons v r=>cases (show some v=some (Value.ref C) from x2);exact⟨r,rfl⟩
   subst x4;refine⟨⟨g1,g5,g4,g2,up,g6,g7,g8,g9,g10,od,a0,a1,a2,a3,a5,Qo K g4,x6,λh X=>⟨X _ _ look,?_,PySem.W.tail_of_in X x3⟩⟩⟩;rw [<-QK X x5];exact .of_isNs (PySem.W.isNs_of_in X x5)
  ·cases z
 ·cases z
structure WK (K:Fr) (B:Addr):Prop where
 sp:PySem.W.specialIn K (.ref B) "__getattribute__" =some (some (.builtin "type.__getattribute__"))
 rd:PySem.W.readsIn K B (.type "type")=true
 fi:PySem.W.findCls K (.ref B) (.type "type") "__init__" =some (.val (.builtin "ValueError.__init__"))
noncomputable def tBase (K:Fr) (t:TA):TE:=λσ H Q=>t σ H λvs H1=>∃a C f us,vs=.ref a:: us/\H1 a=some (uX a C)/\p8 K C f/\us.length<=1000/\Q .non H1
section
variable {X:Cx} {CX:Dp} {k:Nat} {C B f:Addr} {fd:FuncData} {ps:List Str} {sp:Sp} {E:XK} {x:Str} {p pos apos:Pos} {e:Expr} {es:List Expr} {t:TA}
theorem Pz:jj X (.builtin "ValueError.__init__") (λxs H Q=>∃a C f us,xs=.ref a:: us/\H a=some (uX a C)/\p8 X.K C f/\us.length<=1000/\Q .non H):=by
 intro pins s σ H xs us Q I r h;obtain⟨a,C,f,vs,rfl,ea,c,hz,q⟩:=h;obtain⟨nm,q',Nn,bs,bm,hdct,sn,sub,ab,col,dd,k0,k1,k2,k3,k5,mN,hi,hf⟩:=c.ex;cases r with
 | cons r1 r=>
  rename_i u us;obtain rfl:u=Value.ref a:=r1;obtain⟨⟨a0,vr,sl,hx⟩,_,_⟩:=(show dg X.prog X.w H s.heap a (uX a C) from I.hok a _ ea);obtain⟨hC,hn,T⟩:=hf _ I.kIn;obtain⟨hp,g,d,t,os⟩:=s;refine Uw PySem.F.excBase_ValueError T hC hx rfl rfl (by rw [<-r.length,sizeLine_eq];lia) λh' tp _ kb e2=>⟨.non,H,?_,rfl,q⟩;have I1:=I.write (x:=a) (e:=a) (o:=uX a C) (h':=h') (t':=t) (by rw [ea];exact True.intro) (.inl rfl) kb ⟨_,e2⟩ ⟨⟨_,_,_,e2⟩,⟨_,e2⟩,λh1 h2 ⟨x1,x2,x3,z⟩ k=>⟨x1,x2,x3,k _ z⟩⟩;rwa [show upd H a (uX a C)=H from by funext b;by_cases q:b=a <;> simp [upd,q,ea]] at I1
theorem MN {pl:Sem Bool} (hg:Gl X x) (hm:X.mg x=some (.ref B)) (b:WK X.K B) (ha:PA X (e:: es) t) (hdb:(x == ("__debug__" :Str))=false:=by decide)
  (hst:starEach (e:: es) X.env=(false,eval e X.env):: starEach es X.env:=by rfl) (hpl:(backTo pos (starEach es X.env)).any (·.1)=false:=by rfl)
  (ht:eval (.Call (.Attribute (.Name x p) "__init__" apos) (e:: es) [] pos) X.env=(do
   let ov <-eval (.Name x p) X.env
   standAt apos.atName
   let (f,first) <-holding [ov] (getMethod ov "__init__" pl)
   callWith pos f first (backTo pos (starEach (e:: es) X.env)) (backToKw pos (keywordEach [] X.env))):=by rfl):
  PE X (.Call (.Attribute (.Name x p) "__init__" apos) (e:: es) [] pos) (tBase X.K t):=by
 intro pins s σ H Q I h;refine PySem.W.methodCall_KW (pl:=pl) (qX I hg hm ?_ hdb) ht;refine PySem.W.method_cls I.kIn b.sp (PySem.W.cls_value I.kIn b.rd b.fi Z ?_);have hA:=ha pos pins _ σ H _ (I.tok (s.toks+1)) h;rw [hst] at hA ⊢;refine Calls.callWith_builtin (by show(false || (backTo pos (starEach es X.env)).any (·.1))=false;rw [hpl] <;> rfl) (Calls.evalArgs_plain ?_);exact dC hA λus s2 ⟨vs,H2,I2,r2,q2⟩=>Pz pins s2 σ H2 vs us Q I2 r2 q2
end
structure MkX (K:Fr) (C f:Addr):Prop where
 ini:p8 K C f
 fn:PySem.W.isFn K (.ref f)=true
 kp:PySem.W.keepIn K (.ref C)=true
section
variable {X:Cx} {CX:Dp} {k:Nat} {C f:Addr} {fd:FuncData} {ps:List Str} {sp:Sp} {E:XK} {x:Str} {p pos:Pos} {e:Expr} {es:List Expr} {t:TA}
theorem Ow {pins:List (Addr×Obj)} {σ:St} {H:Hp} {s:Shared} {Q:VK} {us:List Value} {vs:List V} (M:MkX X.K C f) (F:fY X.prog X.w X.K X.mg X.base CX k f fd ps sp) (hr:gJ (k+1) X.A) (hb:Binds X.K fd ps [])
  (hx:j7 CX X E) (I:Inv X pins σ H s) (r:Vals vs us) (hz:vs.length<=1000)
  (h:∀x,H x=none->X.s₀.heap.get? x=none->sp (.ref x:: vs) (upd H x (uX x C)) (λv H2=>v=.non/\Q (.ref x) H2) E):
  wpAny (model X.prog X.w) X.A (call (.ref C) us) (EP X pins σ Q) X.xe s:=by
 obtain⟨nm,q',Nn,bs,bm,hdct,sn,sub,ab,col,dd,k0,k1,k2,k3,k5,mN,hi,hf⟩:=M.ini.ex;obtain⟨hC,hn,T⟩:=hf _ I.kIn;obtain⟨fo,lf,hfc⟩:∃fo,X.K.lookup f=some fo/\fo.cls=.type "function" :=by have z:=beq_iff_eq.mp M.fn;exact map_eq_some_iff.mp z
 obtain⟨hp,g,d,t,os⟩:=s;refine Uy PySem.F.excBase_ValueError T hC hn hi (I.kIn _ _ lf) hfc (λh' e hs made=>?_) (by rw [<-r.length,sizeLine_eq];lia);obtain⟨tp,e1,_,_⟩:=made.there;have I2:Inv X pins σ (upd H e (uX e C)) ⟨h',g,d,t,os⟩:=I.laid (t':=t) made.keeps hs ⟨⟨_,_,_,e1⟩,⟨_,e1⟩,λh1 h2 ⟨x1,x2,x3,z⟩ k=>⟨x1,x2,x3,k _ z⟩⟩;have hq:=h e (I.hok.fresh hs) (Heap.get?_none_of_le (le_trans I.size hs));have r2:Vals (V.ref e:: vs) (Value.ref e:: us):=.cons rfl r;have hl:(Value.ref e:: us ++ []).length=ps.length:=by have e:=r2.length;rw [F.len _ _ _ _ hq] at e;rw [append_nil];exact e.symm
 have hb2:=hb ⟨h',g,d,t,os⟩ (Value.ref e:: us) I2.kIn hl;rw [append_nil] at hb2;refine wpAny_call (codeAny_mono (F.run _ X.stack _ _ ⟨Value.ref e:: us,[]⟩ (Value.ref e:: us) _ _ E (hr.make C us []) (I2.env0.make C us []) hb2 r2 hq) λr s' hq'=>?_);cases r with
 | error e=>exact hx pins σ _ _ e s' I2 hq'
 | ok fl=>
  cases fl with
  | ret u=>
   obtain⟨v,H',I3,rv,ev,q3⟩:=I2.after hq';subst ev;exact⟨rv,⟨V.ref e,H',I3,Z,q3⟩⟩
  | next=>exact False.elim hq'
  | brk=>exact False.elim hq'
  | cont=>exact False.elim hq'
end
section
variable {X:Cx} {C:Addr} {x:Str} {p pos:Pos} {e:Expr} {es:List Expr} {t:TA}
end
end L2
namespace L2
open PySem
noncomputable def WY (K:Fr) (C:Addr):Bool:=(PySem.W.clsIn K C).isSome && PySem.W.findIn K (.ref C) "__getattribute__" == some (some (.builtin "BaseException.__getattribute__")) && PySem.W.findIn K (.ref C) "__getattr__" == some none &&
 PySem.W.findIn K (.ref C) "__class__" == some (some (.builtin "object.__class__")) && PySem.W.subIn K (.ref C) (.type "object") == some true && PySem.W.subIn K (.ref C) (.type "BaseException") == some true
theorem Qn.ofIn {K:Fr} {C:Addr} (h:WY K C=true):Qn K C:=by simp only [WY,and_eq_true,beq_iff_eq] at h;obtain⟨⟨⟨⟨⟨a,b⟩,c⟩,d⟩,e⟩,f⟩:=h;exact⟨a,b,c,d,e,f⟩
noncomputable def ZK (K:Fr) (C:Addr):Bool:=WY K C && PySem.W.findIn K (.ref C) "__setattr__" == some (some (.builtin "object.__setattr__")) && (PySem.W.clsIn K C).any (λcd=>yt cd.mro && cd.hasDict)
theorem Ml.ofIn {K:Fr} {C:Addr} (h:ZK K C=true):Ml K C:=by simp only [ZK,and_eq_true,beq_iff_eq] at h;obtain⟨⟨a,b⟩,c⟩:=h;exact⟨.ofIn a,b,c⟩
noncomputable def Still {α:Type}:Sem α->Prop
 | .rule _ k | .at _ k | .point _ k=>Still (k ())
 | .load _ _ k=>∀o,Still (k o)
 | .update _ _ f k=>(∀o,(f o).dict=o.dict)/\Still (k ())
 | .loadIfAlive _ k=>∀o,Still (k o)
 | .alloc _ k=>∀a,Still (k a)
 | .fresh k=>∀t,Still (k t)
 | .ask k=>∀x,Still (k x)
 | .choose _ _ k=>∀n,Still (k n)
 | .os _ _ k=>∀r,Still (k r)
 | .handled _ k=>∀x,Still (k x)
 | .genState _ k=>∀x,Still (k x)
 | .newGen _ k=>∀x,Still (k x)
 | .stack k=>∀x,Still (k x)
 | .thread k=>∀x,Still (k x)
 | .call .. | .resume ..=>False
 | .pure _ | .raise _ | .unsupported _ | .finish _ | .register .. | .yield .. | .fork .. | .await ..=>True
noncomputable def DK (h h':Heap):Prop:=∀(b:Nat) (o:Obj),h.objs[b]?=some o->∃o',h'.objs[b]?=some o'/\o'.dict=o.dict
theorem DK.push {h h':Heap} (x:DK h h') (u:Obj):DK h (h'.push u):=λb o e=>by obtain⟨o',e1,e2⟩:=x b o e;have hb:b <h'.objs.size:=(Array.getElem?_eq_some_iff.mp e1).1;exact⟨o',by show(h'.objs.push u)[b]?=some o';rw [Array.getElem?_push_lt hb];exact e1 ▸ (Array.getElem?_eq_getElem hb).symm,e2⟩
theorem DK.update {h h':Heap} (x:DK h h') (a:Addr) {f:Obj->Obj} (hf:∀o,(f o).dict=o.dict):DK h (h'.update a f):=λb o e=>by
 obtain⟨o',e1,e2⟩:=x b o e;show ∃u,(h'.objs.modify a f)[b]?=some u/\u.dict=o.dict;rw [Array.getElem?_modify];by_cases q:a=b
 ·rw [if_pos q,e1];exact⟨f o',rfl,(hf o').trans e2⟩
 ·rw [if_neg q];exact⟨o',e1,e2⟩
theorem QB {α:Type} (M:Model) (Γ:Ctx) {Q:α->Pos->Shared->Prop} {E:Value->Pos->Shared->Prop} (t:Sem α):∀(p:Pos) (s:Shared) (h0:Heap),Still t->DK h0 s.heap->Sem.wp M Γ t Q E p s->Sem.wp M Γ t (λa p' s'=>Q a p' s'/\DK h0 s'.heap) E p s:=by
 induction t with
 | pure x=>intro p s h0 _ d h;exact⟨h,d⟩
 | raise v=>intro p s h0 _ d h;exact h
 | unsupported | finish | yield | fork | await | register=>intro p s h0 _ d h;exact h
 | rule _ k ih | «at» _ k ih | point _ k ih=>intro p s h0 x d h;exact ih _ _ _ _ x d h
 | loadIfAlive _ k ih | fresh k ih | ask k ih | os _ _ k ih | handled _ k ih | newGen _ k ih | stack k ih | thread k ih=>intro p s h0 x d h;exact ih _ _ _ _ (x _) d h
 | alloc o k ih=>intro p s h0 x d h;exact ih _ _ _ _ (x _) (d.push o) h
 | load a _ k ih | genState a k ih=>intro p s h0 x d h;obtain⟨o,ho,h⟩:=h;exact⟨o,ho,ih _ _ _ _ (x _) d h⟩
 | update a _ f k ih=>intro p s h0 x d h;exact⟨h.1,ih _ _ _ _ x.2 (d.update a x.1) h.2⟩
 | choose _ _ k ih=>intro p s h0 x d h;exact⟨h.1,ih _ _ _ _ (x _) d h.2⟩
 | call c h g l k ih=>intro p s h0 x;exact x.elim
 | resume g r l k ih=>intro p s h0 x;exact x.elim
theorem DK.refl (h:Heap):DK h h:=λb o e=>⟨o,e,rfl⟩
theorem mH {α:Type} {M:Model} {A:Around} {t:Sem α} {Q:α->Shared->Prop} {E:Value->Shared->Prop} {s:Shared} (x:Still t) (h:wpAny M A t Q E s):wpAny M A t (λa s'=>Q a s'/\DK s.heap s'.heap) E s:=
 λΓ p hΓ=>QB M Γ t p s s.heap x (DK.refl _) (h Γ p hΓ)
theorem bG {α β:Type} {m:Sem α} {f:α->Sem β} (h1:Still m) (h2:∀a,Still (f a)):Still (m >>= f):=by
 show Still (m.bind f);induction m with
 | pure x=>exact h2 x
 | raise _ | unsupported _ | finish _ | register _ _ | yield _ _ _ _ | fork _ _ | await _ _ _ _ _=>exact True.intro
 | rule _ k ih | «at» _ k ih | point _ k ih=>exact ih _ h1
 | loadIfAlive _ k ih | fresh k ih | ask k ih | os _ _ k ih | handled _ k ih | newGen _ k ih | stack k ih | thread k ih | alloc _ k ih | load _ _ k ih | genState _ k ih | choose _ _ k ih=>exact λo=>ih o (h1 o)
 | update a _ f k ih=>exact⟨h1.1,ih _ h1.2⟩
 | call c h g l k ih=>exact h1
 | resume g r l k ih=>exact h1
theorem cg {α:Type} {a:α}:Still (Pure.pure a:Sem α):=True.intro
theorem iZ {α:Type} {w:String}:Still (unsupported w:Sem α):=True.intro
theorem wB {a:Addr}:Still (load a):=λ_=>True.intro
theorem sG:Still stack:=λ_=>True.intro
theorem oO {v:Value} {i:Nat}:Still (field v i):=by
 unfold field fieldsOf;refine bG ?_ λx=>?_
 ·split
  ·exact bG wB λo=>by split <;> first | exact cg | exact iZ
  ·exact iZ
 ·split <;> first | exact cg | exact iZ
theorem By (f:Array Value->Array Value) (o:Obj):(Obj.mapFields f o).dict=o.dict:=by unfold Obj.mapFields;split <;> rfl
theorem ig {v:Value} {i:Nat} {x:Value}:Still (setField v i x):=by
 unfold setField updateField;split
 ·refine bG wB λo=>?_;split
  ·split
   ·exact⟨By _,True.intro⟩
   ·exact iZ
  ·exact iZ
 ·exact iZ
theorem lJ {e:Value} {f:Option Addr}:Still (setFlight e f):=by
 unfold setFlight;refine bG oO λtb=>?_;split
 ·exact ig
 ·exact cg
theorem uJ {f:Addr} {b:Bool}:Still (entryPlaceOf f b):=by unfold entryPlaceOf;exact bG sG λa=>by split <;> exact cg
theorem uz {a b c d e:Value} {l:List Value}:Still (EntryCells.newEntry a b c d e l):=by unfold EntryCells.newEntry newFields newObj newObjAsIs;dsimp only;split <;> split <;> first | exact True.intro | exact λ_=>True.intro
theorem Lz:Still frameEnvs:=by unfold frameEnvs;exact bG sG λ_=>cg
theorem Ib {e:Env} {l:List Env}:Still (behindIsImport e l):=by
 unfold behindIsImport;split
 ·exact cg
 ·split
  ·exact cg
  ·exact bG oO λ_=>cg
theorem K5 {e:Env} {b:Bool}:∀{l:List Env},Still (keptBack e b l)
 | []=>by
  rw [keptBack];unfold underTheClaimsCaller;split
  ·exact cg
  ·exact bG (bG sG λ_=>cg) λ_=>cg
 | _:: _=>by rw [keptBack];exact cg
theorem zL:∀{l:List Env},Still (readyFrames l)
 | []=>by unfold readyFrames;exact cg
 | e:: l=>by
  unfold readyFrames;split
  ·refine bG wB λo=>?_;split
   ·exact cg
   ·refine bG Ib λi=>bG K5 λb=>?_;exact bG (⟨λ_=>Z,True.intro⟩) λ_=>zL
  ·exact iZ
theorem tZ {e:Env}:Still (frameOf e):=by
 unfold frameOf;refine bG Lz λl=>bG ?_ λo=>?_
 ·unfold frameObject;split
  ·exact cg
  ·exact bG zL λ_=>cg
 ·split
  ·exact cg
  ·exact iZ
theorem Ce {e:Value} {env:Env}:Still (noteFrame e env):=by
 unfold noteFrame;split
 ·refine bG oO λhd=>?_;have tail:∀x:Value,Still (do setField e 1 (<-EntryCells.newEntry hd (<-frameOf env) .none x .none (<-entryPlaceOf (env.frame.getD 0) (hd != .none)))):=λx=>
   bG tZ λ_=>bG uJ λ_=>bG uz λ_=>ig
  split
  ·refine bG oO λx=>?_;split
   ·exact cg
   ·refine bG ig λ_=>?_;exact bG tZ λ_=>bG uJ λ_=>bG uz λ_=>ig
  ·exact bG tZ λ_=>bG uJ λ_=>bG uz λ_=>ig
 ·exact iZ
theorem qb {e:Value} {env:Env}:Still (leaving env e):=by unfold leaving;exact bG Ce λ_=>lJ
end L2
namespace L2
open PySem PySem.Spec PyProof.Rows
inductive DictAt (h:Heap) (x:Addr) (d:Option Addr):Prop where
 | mk:∀o,h.get? x=some o->o.dict=d->DictAt h x d
theorem zR {h:Heap} {x:Addr} {o:Obj} (e:h.get? x=some o):h.objs[x]?=some o:=by
 unfold Heap.get? at e;split at e
 ·cases e
 ·exact e
theorem DictAt.on {h h':Heap} {x:Addr} {d:Option Addr} {o':Obj} (a:DictAt h x d) (k:DK h h') (e:h'.get? x=some o'):DictAt h' x d:=by obtain⟨o,e1,e2⟩:=a;obtain⟨o2,e3,e4⟩:=k x o (zR e1);cases (zR e).symm.trans e3;exact⟨_,e,e4.trans e2⟩
noncomputable def del (H:Hp) (x:Addr):Hp:=λb=>if b=x then none else H b
theorem Dm {H:Hp} {x b:Addr} (h:b≠x):del H x b=H b:=if_neg h
theorem Qq {H:Hp} {x b:Addr} {o:HO} (h:del H x b=some o):b≠x/\H b=some o:=by
 unfold del at h;split at h
 ·cases h
 ·rename_i n;exact⟨n,h⟩
theorem Xl {fs ex:List Addr} {H H1:Hp} {h h1:Heap} {x:Addr} {φ:Heap->Prop} (u:Un fs ex H H1 h h1) (e:H1 x=some (.ext φ)):Un fs ex H (del H1 x) h h1:=by
 have ne:∀b o,H1 b=some o->(∀φ,o≠.ext φ)->del H1 x b=some o:=λb o q n=>by rw [Dm];exact q;rintro rfl;rw [e] at q;exact n φ (Option.some.inj q).symm
 refine⟨u.keep,u.slot,λb o q n hx=>?_,u.there,λb xs q=>ne _ _ (u.tups b xs q) (by intro _ z;cases z),λb o v q=>ne _ _ (u.frzs b o v q) (by intro _ z;cases z),λb ps q=>?_⟩
 ·unfold del;split
  ·rfl
  ·exact u.free b o q n hx
 ·obtain⟨m,z⟩:=u.tbls b ps q;exact⟨m,ne _ _ z (by intro _ z;cases z)⟩
noncomputable def u0 (P:Program) (w:World):Dp:=λouter H s E e s'=>∃(x:Addr) (cls a0:Value) (H':Hp) (B:Heap) (d:Option Addr),e=.ref x/\s'.os=s.os/\AllBare s'.gens/\Heap.FlyingW B outer x cls a0 s'.heap/\DictAt s'.heap x d/\rT P w H' B/\
 Un (frs outer) [] H H' s.heap s'.heap/\(∀b o,s.heap.get? b=some o->b∉frs outer->∃o',B.get? b=some o')/\E cls d H'
theorem Ie {fs:List Addr} {H H1 H2:Hp} {h h1 h2 h3 B:Heap} {L:Addr} (u1:Un fs [] H H1 h h1) (u2:Un (L:: fs) [] H1 H2 h1 h2) (hL:∀b o,h.get? b=some o->b≠L)
  (inB:∀b o,h.get? b=some o->b∉fs->∃o',B.get? b=some o') (st2:B.StaysIn h2) (st3:B.StaysIn h3) (up:h2.UpToSlots h3)
  (fd:∀b o,h2.get? b=some o->b∈fs->∀vs,o.data≠.fields vs):Un fs [] H H2 h h3:=by
 have out:∀b o,h.get? b=some o->b∉fs->b∉L:: fs:=λb o q hb z=>(mem_cons.mp z).elim (hL b o q) hb;have go:∀b o,h2.get? b=some o->(∃o',B.get? b=some o')->h3.get? b=some o:=λb o q ⟨o',q'⟩=>by have z:=st2 b o' q';rw [q] at z;cases z;exact st3 b _ q'
 refine⟨λb o q n hb hx=>?_,λb o q n hb hx=>?_,λb o q n hx=>?_,λb o q hx=>?_,λb xs q=>u2.tups b xs (u1.tups b xs q),λb o xs q=>u2.frzs b o xs (u1.frzs b o xs q),λb ps q=>?_⟩
 ·have k1:=u1.keep b o q n hb hx;exact go b o (u2.keep b o k1 (u1.free b o q n hx) (out b o q hb) hx) (inB b o q hb)
 ·obtain⟨sl,k1⟩:=u1.slot b o q n hb hx;obtain⟨sl2,k2⟩:=u2.slot b _ k1 (u1.free b o q n hx) (mem_cons_of_mem _ hb) hx;obtain⟨sl3,k3⟩:=up b _ k2 (fd b _ k2 hb);exact⟨sl3,k3⟩
 ·obtain⟨o',k1⟩:=u1.there b o q hx;exact u2.free b o' k1 (u1.free b o q n hx) hx
 ·obtain⟨o1,k1⟩:=u1.there b o q hx;obtain⟨o2,k2⟩:=u2.there b o1 k1 hx;by_cases hb:b∈fs
  ·obtain⟨sl3,k3⟩:=up b _ k2 (fd b _ k2 hb);exact⟨_,k3⟩
  ·exact⟨o2,go b o2 k2 (inB b o q hb)⟩
 ·obtain⟨m1,e1⟩:=u1.tbls b ps q;obtain⟨m2,e2⟩:=u2.tbls b _ e1;exact⟨m1 ++ m2,by rw [e2,Array.append_assoc]⟩
section
variable {P:Program} {w:World} {K:Fr} {mg:Str->Option Value} {base:Heap} {N:List Str} {qual:Str} {scope:Scope} {f:Addr} {cd:Value} {A:Around} {outer:List Env} {s:Shared} {H:Hp} {E:XK}
theorem Zc {E':XK} (hE:∀c d H',E' c d H'->E c d H'):j7 (u0 P w) (jg (u0 P w) P w K mg base N qual scope f cd A outer s H E) E':=by
 intro pins σ H1 s1 e s' I c;obtain⟨x,cls,a0,H',B,d,rfl,hos,hg,fl,da,hok,un,inB,hE'⟩:=c;have go:=mH qb (wpAny_leaves_onW (M:=model P w) (E:=λe' s''=>u0 P w outer H s E e' s'') (Q:=λ_ s2=>∃h',s2={ s' with heap:=h' }/\Heap.FlyingW B outer x cls a0 h'/\s'.heap.UpToSlots h') I.ok.frames rfl fl λh' fl' up=>⟨h',rfl,fl',up⟩);refine wpAny_mono go (λ_ s2 q=>?_) λ_ _ z=>z;obtain⟨⟨h',rfl,fl',up⟩,dk⟩:=q;obtain⟨ob,hob,_⟩:=fl'.there;have nL:∀b o,s.heap.get? b=some o->b≠s.heap.objs.size:=λb o q=>ne_of_lt (Heap.lt_size q);have fd:∀b o,s'.heap.get? b=some o->b∈frs outer->∀vs,o.data≠.fields vs:=λb o q hb=>by obtain⟨_,_,ff,_⟩:=fl;have hb':b∈frs (envOfC qual scope s.heap.objs.size f cd:: outer):=mem_cons_of_mem _ hb;obtain⟨_,o',q',d⟩:=ff.mem hb';rw [q] at q';cases q';exact d
 have inB':∀b o,s.heap.get? b=some o->b∉frs outer->∃o',B.get? b=some o':=λb o q hb=>by obtain⟨o1,k1⟩:=I.base.there b o q (by simp [jg]);exact inB b o1 k1 λz=>(mem_cons.mp z).elim (nL b o q) hb
 exact⟨x,cls,a0,H',B,d,Z,hos.trans I.os,hg,fl',da.on dk hob,hok,Ie (L:=s.heap.objs.size) I.base un nL inB' fl.1 fl'.1 up fd,inB',hE _ _ _ hE'⟩
theorem Yq {pins:List (Addr×Obj)} {σ:St} {H1:Hp} {s1:Shared} {x C dx:Addr} (I:Inv (jg (u0 P w) P w K mg base N qual scope f cd A outer s H E) pins σ H1 s1)
  (ex:H1 x=some (Aj x C dx)) (hn:s.heap.get? x=none) (hE:E (.ref C) (some dx) (del H1 x)):(jg (u0 P w) P w K mg base N qual scope f cd A outer s H E).xe (.ref x) s1:=by
 obtain⟨⟨a0,vr,sl,hx⟩,_,_⟩:=(show dg P w H1 s1.heap x (Aj x C dx) from I.hok x _ ex);have nL:∀b o,s.heap.get? b=some o->b≠s.heap.objs.size:=λb o q=>ne_of_lt (Heap.lt_size q);have hmem:∀env∈(envOfC qual scope s.heap.objs.size f cd:: outer),∀b,env.frame=some b->b∈x:: frs (envOfC qual scope s.heap.objs.size f cd:: outer):=λenv he b hb=>mem_cons_of_mem _ (mem_filterMap.mpr ⟨env,he,hb⟩);have stk:=I.stack;have xf:x∉frs (envOfC qual scope s.heap.objs.size f cd:: outer):=λhm=>by have z:=I.stkFree x hm;rw [ex] at z;cases z
 have inB:∀b o,s.heap.get? b=some o->b∉frs outer->∃o',(PySem.W.hideAll s1.heap (x:: frs (envOfC qual scope s.heap.objs.size f cd:: outer))).get? b=some o':=λb o q hb=>by
  obtain⟨o1,k1⟩:=I.base.there b o q (by simp [jg]);refine⟨o1,PySem.W.hideAll_get _ k1 λz=>?_⟩;rcases mem_cons.mp z with rfl | z
  ·rw [hn] at q;cases q
  ·exact(mem_cons.mp z).elim (nL b o q) hb
 have hok:rT P w (del H1 x) (PySem.W.hideAll s1.heap (x:: frs (envOfC qual scope s.heap.objs.size f cd:: outer))):=λb o q=>by
  obtain⟨nb,q⟩:=Qq q;have nx:∀c o,H1 c=some o->(∀φ,o≠.ext φ)->c≠x:=λc o q n z=>by rw [z,ex] at q;exact n _ (Option.some.inj q).symm
  refine(I.hok b o q).stay (λc v hc q'=>PySem.W.hideAll_get _ q' λhm=>?_) (λc q'=>?_) λc xs q'=>?_
  ·rcases mem_cons.mp hm with rfl | hm
   ·rcases hc with z | z
    ·exact nb z.symm
    ·exact nx _ _ z (by intro _ z;cases z) rfl
   ·have hn:=I.stkFree c hm;rcases hc with z | z
    ·rw [z,q] at hn;cases hn
    ·rw [z] at hn;cases hn
  ·rw [Dm (nx _ _ q' (by intro _ z;cases z))];exact q'
  ·rw [Dm (nx _ _ q' (by intro _ z;cases z))];exact q'
 have sB:(PySem.W.hideAll s1.heap (x:: frs (envOfC qual scope s.heap.objs.size f cd:: outer))).StaysIn s1.heap:=λb o q=>PySem.W.of_hideAll _ q;have xB:(PySem.W.hideAll s1.heap (x:: frs (envOfC qual scope s.heap.objs.size f cd:: outer))).get? x=none:=PySem.W.hideAll_none _ (mem_cons_self ..);have go:=mH qb (wpAny_leaving_firstW (M:=model P w) (E:=λe' s''=>u0 P w outer H s E e' s'') (base:=PySem.W.hideAll s1.heap (x:: frs (envOfC qual scope s.heap.objs.size f cd:: outer)))
  (Q:=λ_ s2=>∃h',s2={ s1 with heap:=h' }/\Heap.LeftW (PySem.W.hideAll s1.heap (x:: frs (envOfC qual scope s.heap.objs.size f cd:: outer))) (envOfC qual scope s.heap.objs.size f cd:: outer) x (.ref C) (.ref a0) s1.heap h')
  I.ok.frames (PySem.W.funFrames_hide stk hmem) rfl hx sB xB rfl rfl rfl λh' z=>⟨h',rfl,z⟩)
 refine wpAny_mono go (λ_ s2 q=>?_) λ_ _ z=>z;obtain⟨⟨h',rfl,k1,⟨_,_,k2⟩,k3,k4⟩,dk⟩:=q;have fl:Heap.FlyingW (PySem.W.hideAll s1.heap (x:: frs (envOfC qual scope s.heap.objs.size f cd:: outer))) outer x (.ref C) (.ref a0) h':=⟨k1,xB,k2,k3⟩;obtain⟨ob,hob,_⟩:=fl.there;have fd:∀b o,s1.heap.get? b=some o->b∈frs outer->∀vs,o.data≠.fields vs:=λb o q hb=>by have hb':b∈frs (envOfC qual scope s.heap.objs.size f cd:: outer):=mem_cons_of_mem _ hb;obtain⟨_,o',q',d⟩:=stk.mem hb';rw [q] at q';cases q';exact d
 exact⟨x,_,_,del H1 x,_,some dx,Z,I.os,I.bare,fl,DictAt.on (h:=s1.heap) ⟨_,hx,Z⟩ dk hob,hok,Xl (Ie (L:=s.heap.objs.size) I.base Un.refl nL inB sB fl.1 k4 fd) ex,inB,hE⟩
end
section
variable {M:Model} {A:Around} {E:Value->Shared->Prop} {s:Shared} {env:Env} {nm q:Str} {C N:Addr} {bs bm:List Value} {hdct:Bool} {sn:List Str} {sub:List Value} {ab:Bool} {col:Option Bool} {dd:Option Addr} {k0 k1 k2 k3 k5:Option Value} {newId:String}
theorem Ur {x:Sem Value} {Q:Flow->Shared->Prop} (hb:bm.contains (.type "BaseException")=true) (hh:A.handled=none)
  (h:wpAny M A x (λv s₁=>∃e od dt sl,v=.ref e/\s₁.heap.get? C=some (excClassObj nm q C N bs bm hdct sn sub ab col dd k0 k1 k2 k3 k5 newId)/\s₁.heap.get? e=some ⟨.ref C,od,.fields dt,sl⟩/\dt[1]?=some .none/\E (.ref e) s₁) E s):wpAny M A (raiseStmt env (some x) none) Q E s:=by
 have hB:(Value.ref C:: bm).contains (.type "BaseException")=true:=by rw [List.contains_cons,hb,Bool.or_true]
 unfold raiseStmt;refine wpAny_bind (wpAny_mono h (λv sx hx=>?_) λ_ _ z=>z);obtain⟨e,od,dt,sl,rfl,hC,he,hd,hE⟩:=hx;obtain⟨hs,gs,ds,ts,os⟩:=sx;repeat (first | with_reducible refine wpAny_loadPart_at he ?_ | with_reducible refine wpAny_loadPart_at hC ?_ | (with_reducible refine wpAny_isSubtype_exc hC ?_;rw [hB]) | wp_step)
 rw [hd];refine wpAny_pure ?_;rw [if_neg (by decide)];exact wpAny_pure (PySem.wpAny_raiseNew_none hh hE)
theorem U3 {x:Expr} {pos:Pos} {Q:Flow->Shared->Prop} (hb:bm.contains (.type "BaseException")=true) (hh:A.handled=none)
  (h:wpAny M A (eval x env) (λv s₁=>∃e od dt sl,v=.ref e/\s₁.heap.get? C=some (excClassObj nm q C N bs bm hdct sn sub ab col dd k0 k1 k2 k3 k5 newId)/\s₁.heap.get? e=some ⟨.ref C,od,.fields dt,sl⟩/\dt[1]?=some .none/\E (.ref e) s₁) E s):wpAny M A (exec (.Raise (some x) none pos) env) Q E s:=by
 rw [arm_exec_Raise];have go:wpAny M A (do let v <-eval x env;standAt pos;pure v) (λv s₁=>∃e od dt sl,v=.ref e/\s₁.heap.get? C=some (excClassObj nm q C N bs bm hdct sn sub ab col dd k0 k1 k2 k3 k5 newId)/\s₁.heap.get? e=some ⟨.ref C,od,.fields dt,sl⟩/\dt[1]?=some .none/\E (.ref e) s₁) E s:=
  wpAny_bind (wpAny_mono h (λv s₁ z=>wpAny_bind (wpAny_standAt (wpAny_pure z))) λ_ _ z=>z)
 exact wpAny_bind (wpAny_standAt (Ur hb hh go))
end
section
variable {P:Program} {w:World} {K:Fr} {mg:Str->Option Value} {base:Heap} {N:List Str} {qual:Str} {scope:Scope} {f:Addr} {cd:Value} {A:Around} {outer:List Env} {s:Shared} {H:Hp} {E:XK}
noncomputable def Nx (s:Shared) (E:XK) (C:Addr):VK:=λv H3=>∃y dx,v=.ref y/\s.heap.get? y=none/\H3 y=some (Aj y C dx)/\E (.ref C) (some dx) (del H3 y)
noncomputable def Uz (s:Shared) (E:XK) (C:Addr) (sp:Sp) (E1:XK) (ta:TA):TS:=λ_ σ H=>ta σ H λvs H1=>vs.length<=1000/\∀x,H1 x=none->s.heap.get? x=none->sp (.ref x:: vs) (upd H1 x (uX x C)) (λv H2=>v=.non/\Nx s E C (.ref x) H2) E1
theorem FN {CX:Dp} {k:Nat} {fi:Addr} {fd:FuncData} {ps:List Str} {sp:Sp} {E1:XK} {x:Str} {C:Addr} {np cpos pos:Pos} {e:Expr} {es:List Expr} {ta:TA} (Mk:MkX K C fi) (F:fY P w K mg base CX k fi fd ps sp)
  (hr:gJ (k+1) (jg (u0 P w) P w K mg base N qual scope f cd A outer s H E).A) (hg:Gl (jg (u0 P w) P w K mg base N qual scope f cd A outer s H E) x) (hm:mg x=some (.ref C)) (hb:Binds K fd ps []) (hx:j7 CX (jg (u0 P w) P w K mg base N qual scope f cd A outer s H E) E1)
  (ha:PA (jg (u0 P w) P w K mg base N qual scope f cd A outer s H E) (e:: es) ta) (hdb:(x == ("__debug__" :Str))=false:=by decide)
  (he:starEach (e:: es) (jg (u0 P w) P w K mg base N qual scope f cd A outer s H E).env=(false,eval e (jg (u0 P w) P w K mg base N qual scope f cd A outer s H E).env):: starEach es (jg (u0 P w) P w K mg base N qual scope f cd A outer s H E).env:=by rfl)
  (hpl:(backTo cpos (starEach es (jg (u0 P w) P w K mg base N qual scope f cd A outer s H E).env)).any (·.1)=false:=by rfl):
  PS (jg (u0 P w) P w K mg base N qual scope f cd A outer s H E) (.Raise (some (.Call (.Name x np) (e:: es) [] cpos)) none pos) (Uz s E C sp E1 ta):=by
 intro pins s1 σ H1 D I h;obtain⟨nm,q',Nn,bs,bm,hdct,sn,sub,ab,col,dd,k0,k1,k2,k3,k5,mN,hi,hf⟩:=Mk.ini.ex;have hB:bm.contains (.type "BaseException")=true:=(hf _ I.kIn).2.2.hasType (X:= "BaseException") (b:=true) (by decide +kernel);refine U3 (C:=C) (nm:=nm) (q:=q') (N:=Nn) (bs:=bs) (bm:=bm) (hdct:=hdct) (sn:=sn) (sub:=sub) (ab:=ab) (col:=col) (dd:=dd) (k0:=k0) (k1:=k1) (k2:=k2) (k3:=k3) (k5:=k5) (newId:= "ValueError.__new__") hB (I.ok.hd Z) ?_;refine wpAny_mono (wpAny_Call_Name_kw (qX I hg hm (PySem.W.callWith_K (h₀:=(jg (u0 P w) P w K mg base N qual scope f cd A outer s H E).base) I.ok.mod.kin Mk.kp (dC (ha cpos pins s1 σ H1 _ I h) λus s2 ⟨vs,H2,I2,r,hz,q⟩=>⟨I2.kIn,
  Ow (X:=jg (u0 P w) P w K mg base N qual scope f cd A outer s H E) (Q:=Nx s E C) Mk F hr hb hx I2 r hz q⟩) he hpl) hdb)) (λv s3 z=>?_) λ_ _ z=>z
 obtain⟨v',H3,I3,rv,y,dx,rfl,n0,e1,e2⟩:=z;obtain rfl:v=Value.ref y:=rv;obtain⟨⟨a0,vr,sl,hx3⟩,_,_⟩:=(show dg P w H3 s3.heap y (Aj y C dx) from I3.hok y _ e1);exact⟨y,_,_,_,Z,(hf _ I3.kIn).1,hx3,Z,Yq I3 e1 n0 e2⟩
end
noncomputable def Yc (x C dx:Addr):HO:=.ext λh=>∃fl sl,h.get? x=some ⟨.ref C,some dx,.fields fl,sl⟩
theorem Zb {X:Cx} {pins:List (Addr×Obj)} {σ:St} {H:Hp} {s1 s':Shared} {Ex:XK} {e:Value} {A:Around} {E:Value->Shared->Prop} {Q:Unit->Shared->Prop} (I:Inv X pins σ H s1) (c:u0 X.prog X.w X.stack H s1 Ex e s')
  (hA:A.frames=some X.stack) (hst:X.stack=X.env:: X.outer) (hf:X.env.frame=some X.env.locals) (hex:X.ex=[])
  (k:∀x cls H' s2 B a0 d,e=.ref x->Tf X pins σ H' x cls s2 B a0->DictAt s2.heap x d->Ex cls d H'->Q () s2):
  wpAny (model X.prog X.w) A (noteFrame e X.env) (λ_ s2=>wpAny (model X.prog X.w) A (setFlight e none) Q E s2) E s':=by
 obtain⟨x,cls,a0,H',B,d,rfl,hos,hg,fl,da,hok,un,inB,hE'⟩:=c;have fd:∀b o,s'.heap.get? b=some o->b∈frs X.stack->∀vs,o.data≠.fields vs:=λb o q hb=>by obtain⟨_,_,ff,_⟩:=id fl;obtain⟨_,o',q',d⟩:=ff.mem hb;rw [q] at q';cases q';exact d
 have nB:B.get? x=none:=fl.2.1;have hfree:H' x=none:=by
  cases q:H' x with
  | none=>rfl
  | some o=>
   obtain⟨ob,z⟩:=(hok x o q).some_at;rw [nB] at z;cases z
 have n1:s1.heap.get? x=none:=by
  cases q:s1.heap.get? x with
  | none=>rfl
  | some o=>
   exfalso;by_cases hb:x∈frs X.stack
   ·obtain⟨oe,vs,he,_,hd,_⟩:=fl.first;exact fd x oe he hb vs hd
   ·obtain⟨o',z⟩:=inB x o q hb;rw [nB] at z;cases z
 have here:∀b o,s1.heap.get? b=some o->b≠x:=λb o q z=>by rw [z,n1] at q;cases q
 have fl0:Heap.FlyingW B (X.env:: X.outer) x cls a0 s'.heap:=by rw [<-hst];exact fl
 have g1:=mH Ce (wpAny_looks_onW (M:=model X.prog X.w) (A:=A) (E:=E) (Q:=λ_ s2=>∃h',s2={ s' with heap:=h' }/\Heap.HeldW B (X.env:: X.outer) x cls a0 X.env.locals h'/\s'.heap.UpToSlots h') (by rw [hA,hst]) hf fl0 λh' hh up=>⟨h',rfl,hh,up⟩);refine wpAny_mono g1 (λ_ s2 q=>?_) λ_ _ z=>z;obtain⟨⟨h2,rfl,hh,up2⟩,dk2⟩:=q;have g2:=mH lJ (wpAny_landsW (M:=model X.prog X.w) (A:=A) (E:=E) (s:={ s' with heap:=h2 }) (Q:=λ_ s3=>∃h',s3={ s' with heap:=h' }/\Heap.FlyingW B (X.env:: X.outer) x cls a0 h'/\h2.UpToSlots h') hh λh' f3 up=>⟨h',rfl,f3,up⟩);refine wpAny_mono g2 (λ_ s3 q=>?_) λ_ _ z=>z;obtain⟨⟨h3,rfl,fl3,up3⟩,dk3⟩:=q;obtain⟨o2,ho2,_⟩:=hh.there;obtain⟨o3,ho3,_⟩:=fl3.there;have fl3':Heap.FlyingW B X.stack x cls a0 h3:=by rw [hst];exact fl3
 have go:∀h6,Heap.FlyingW B X.stack x cls a0 h6->s'.heap.UpToSlots h6->Inv X pins σ H' { s' with heap:=h6 }:=λh6 f6 u6=>
  I.call' (s':={ s' with heap:=h6 }) hos (ZR un inB fl.1 f6.1 u6 fd) (hok.kept λb o q=>f6.1 b o q) hg λb hb=>absurd hb (by simp)
 refine k x cls H' _ B a0 d Z ⟨go h3 fl3' (up2.trans up3),fl3',λh6 f6 u6=>go h6 f6 ((up2.trans up3).trans u6),hfree,?_,?_,λy c e=>?_,λp hp=>here _ _ (I.pin p hp).1⟩ ((da.on dk2 ho2).on dk3 ho3) hE'
 ·cases q:X.s₀.heap.get? x with
  | none=>rfl
  | some o=>
   obtain⟨o',z⟩:=I.base.there x o q (by rw [hex];simp);rw [n1] at z;cases z
 ·obtain⟨m,⟨o,_,_,q,_⟩,_⟩:=I.loc;exact λz=>here _ _ q z.symm
 ·obtain⟨v,o,q,_⟩:=I.cell y c e;exact here _ _ q
section
variable {M:Model} {A:Around} {E:Value->Shared->Prop} {nm q:Str} {C N:Addr} {bs bm:List Value} {hdct:Bool} {sn:List Str} {sub:List Value} {ab:Bool} {col:Option Bool} {dd:Option Addr} {k0 k1 k2 k3 k5:Option Value} {newId:String}
theorem Ti {h:Heap} {g:Array GenState} {d:Drawn} {t:Nat} {os:OsState} {e C1:Addr} {oe:Obj} {Q:Bool->Shared->Prop}
  (hC:h.get? C=some (excClassObj nm q C N bs bm hdct sn sub ab col dd k0 k1 k2 k3 k5 newId)) (he:h.get? e=some oe) (hcls:oe.cls=.ref C1) (hbase:bm.contains (.type "BaseException")=true)
  (hs:∀{Q:Bool->Shared->Prop},Q false ⟨h,g,d,t,os⟩->wpAny M A (isSubtype (.ref C1) (.ref C)) Q E ⟨h,g,d,t,os⟩) (hq:Q false ⟨h,g,d,t,os⟩):wpAny M A (excMatches (.ref e) (.ref C)) Q E ⟨h,g,d,t,os⟩:=by
 have hB:(Value.ref C:: bm).contains (.type "BaseException")=true:=by rw [List.contains_cons,hbase,Bool.or_true]
 have f0:=tc_notTuple;unfold excMatches;repeat (first | (with_reducible refine wpAny_loadPart_at he ?_;rw [hcls]) | with_reducible refine wpAny_loadPart_at hC ?_ | (with_reducible refine wpAny_isSubtype_exc hC ?_;rw [hB]) | with_reducible refine hs ?_ | wp_step)
 exact hq
end
noncomputable abbrev TH:=Ends->Value->Option Addr->St->Hp->Prop
noncomputable def PH (X:Cx) (hs:List ExceptHandler) (T:TH):Prop:=∀(pins:List (Addr×Obj)) (σ:St) (H':Hp) (y:Addr) (cls:Value) (s:Shared) (B:Heap) (a0:Value) (d:Option Addr) (D:Ends),Tf X pins σ H' y cls s B a0->DictAt s.heap y d->T D cls d σ H'->
 wpAny (model X.prog X.w) X.A (handleBy (.ref y) X.env hs) (SP X pins D) X.xe s
noncomputable def Yz:TH:=λ_ _ _ _ _=>False
theorem Xv {X:Cx}:PH X [] Yz:=λ_ _ _ _ _ _ _ _ _ _ _ _ h=>h.elim
inductive R5 (tb:(St->XK)->TS) (th:TH) (D:Ends) (σ:St) (H:Hp):Prop where
 | mk:∀R:St->XK,((∀σ' cls d H',R σ' cls d H'->th D cls d σ' H'))->tb R D σ H->R5 tb th D σ H
noncomputable def Z6 (tb:(St->XK)->TS) (th:TH):TS:=λD σ H=>R5 tb th D σ H
theorem Vm {X:Cx} {body:List Stmt} {h₀:ExceptHandler} {hs:List ExceptHandler} {pos:Pos} {tb:(St->XK)->TS} {th:TH} (hst:X.stack=X.env:: X.outer) (hf:X.env.frame=some X.env.locals) (hex:X.ex=[])
  (hb:∀(pn:List (Addr×Obj)) (Ex:Value->Shared->Prop) (R:St->XK),(∀pins σ H s e s',Inv (X.over pn Ex) pins σ H s->u0 X.prog X.w X.stack H s (R σ) e s'->Ex e s')->Ku (X.over pn Ex) body (tb R)) (hh:PH X (h₀:: hs) th):
  PS X (.Try body (h₀:: hs) [] [] pos) (Z6 tb th):=by
 intro pins s σ H D I h;obtain⟨R,hR,hbody⟩:=h;refine wpAny_Try_except (wpAny_mono (hb (X.pn ++ pins) (λe s₁=>wpAny (model X.prog X.w) X.A (noteFrame e X.env) (λ_ s₂=>wpAny (model X.prog X.w) X.A (setFlight e none) (λ_ s₃=>
  wpAny (model X.prog X.w) X.A (handleBy e X.env (h₀:: hs)) (SP X pins D) X.xe s₃) X.xe s₂) X.xe s₁) R ?_ [] s σ H D I.over hbody) (λf s₁ q=>?_) λe s₁ q=>q)
 ·intro pins' σ' H' s1 e s2 I1 c;refine Zb (I1.unover) c I.ok.frames hst hf hex λy cls H2 s3 B a0 d he L da hE=>?_;subst he;exact hh pins σ' H2 y cls s3 B a0 d D L da (hR _ _ _ _ hE)
 ·cases f with
  | next=>
   obtain⟨σ1,H1,I1,q1⟩:=q;exact wpAny_execs_nil ⟨σ1,H1,I1.unover,q1⟩
  | brk=>
   obtain⟨σ1,H1,I1,q1⟩:=q;exact⟨σ1,H1,I1.unover,q1⟩
  | cont=>
   obtain⟨σ1,H1,I1,q1⟩:=q;exact⟨σ1,H1,I1.unover,q1⟩
  | ret u=>
   obtain⟨v,σ1,H1,I1,rv,q1⟩:=q;exact⟨v,σ1,H1,I1.unover,rv,q1⟩
inductive RX (K:Fr) (f:Str) (Q:VK) (x:V) (H1:Hp):Prop where
 | mk:∀a C dx fs v,x=.ref a->H1 a=some (Yc a C dx)->H1 dx=some (.xd fs)->Ml K C->gW K C f->fs.lookup f=some v->Q v H1->RX K f Q x H1
noncomputable def Z2 (K:Fr) (ta:TE) (f:Str):TE:=λσ H Q=>ta σ H λx H1=>RX K f Q x H1
theorem Oi {X:Cx} {K:Fr} {e:Expr} {f:Str} {pos:Pos} {ta:TE} (hK:X.K=K) (he:PE X e ta) (hb:attributeBase e f X.env (eval e X.env)=eval e X.env):PE X (.Attribute e f pos) (Z2 K ta f):=by subst hK;intro pins s σ H Q I h;refine Oq hb (dC (he pins s σ H _ I h) λu s1 hpt=>?_);obtain⟨x,H1,I1,rx,a,C,dx,fs,v,ex,ea,ed,c,n,l,q⟩:=hpt;subst ex;obtain rfl:u=Value.ref a:=rx;obtain⟨⟨fl,sl,hx⟩,_,_⟩:=(show dg X.prog X.w H1 s1.heap a (Yc a C dx) from I1.hok a _ ea);exact Uj I1 hx ed c n l λu' s2 I2 ru=>⟨v,H1,I2,ru,q⟩
section
variable {P:Program} {w:World} {K:Fr} {mg:Str->Option Value} {base:Heap}
theorem Ub.ok2 {x qual:Str} {st:Stmt} {f:Addr} {fd:FuncData} {N ps:List Str} {k:Nat} {sp:Sp} (F:Ub K x qual st f fd) (S:gj N ps (bh st)) (len:∀vs H Q E,sp vs H Q E->vs.length=ps.length)
  (go:∀(cdv:Value) (A:Around) (outer:List Env) (s:Shared) (H:Hp) (vs:List V) (Q:VK) (E:XK),gJ k (A.deeper (envOfC qual (bh st) s.heap.objs.size f cdv))->sp vs H Q E->
   ∃t,Ku (jg (u0 P w) P w K mg base N qual (bh st) f cdv A outer s H E) (gw st) t/\t { nx:=λ_ H'=>Q .non H',rt:=Q } (start N vs) H):fY P w K mg base (u0 P w) (k+1) f fd ps sp:=by
 obtain⟨oc,od,kV,doc,pm,an,cdv,ct,osl,e,lk,hcd⟩:=F.ex;subst e;exact Wh lk hcd S len λA outer s H vs Q E hr hsp=>go cdv A outer s H vs Q E hr hsp
end
theorem p8.at {K:Fr} {C f:Addr} (c:p8 K C f) {h:Heap} (X:K.In h):ExcAt K C:=by obtain⟨nm,q,Nn,bs,bm,hdct,sn,sub,ab,col,dd,k0,k1,k2,k3,k5,mN,_,hf⟩:=c.ex;exact⟨⟨nm,q,Nn,bs,bm,hdct,sn,sub,ab,col,dd,k0,k1,k2,k3,k5,_,(hf h X).2.2.hasType (X:= "BaseException") (b:=true) (by decide +kernel),λh X=>(hf h X).1⟩⟩
noncomputable def iOr (a b:TI):TI:=λσ H R=>a σ H R∨b σ H R
theorem WL {X:Cx} {tg it:Expr} {a b:TI} (h1:PI X tg it a) (h2:PI X tg it b):PI X tg it (iOr a b):=λpins s σ H R I h=>h.elim (h1 pins s σ H R I) (h2 pins s σ H R I)
theorem Ka {js:List Nat} {tt:TT} {te:TE} {σ:St} {Qd:List V->Hp->Prop} {K:Fr} {a:Addr} {xs:List V} {H:Hp} (Pv:Nat->List V->Hp->Prop) (hn:xs.length<=sizeLine) (h0:Pv 0 [] H) (hl:∀i ys H,Pv i ys H->ys.length<=i) (hq:∀i ys H,i<=xs.length->Pv i ys H->fZ K H a xs)
  (hs:∀i x ys H,xs[i]?=some x->Pv i ys H->tt (some x:: dW σ js) H λb H4=>if b=true then te (some x:: dW σ js) H4 λy H5=>Pv (i+1) (ys ++ [y]) H5 else Pv (i+1) ys H4)
  (hd:∀ys H,Pv xs.length ys H->Qd ys H):CompEnd js tt te σ Qd (Yt K a) H:=by
 refine⟨λi m ys H=>m=xs.length - i/\i<=xs.length/\Pv i ys H,⟨xs.length,by simp,zero_le _,h0⟩,?_⟩;rintro i m ys H ⟨rfl,hi,p⟩;have hlen:=hl i ys H p;have q:=hq i ys H hi p;by_cases hlt:i <xs.length
 ·refine .inr ⟨⟨xs,xs[i],q,by simp [hlt]⟩,by lia,Pv (i+1),λys' H' p'=>⟨xs.length - (i+1),by lia,Z,hlt,p'⟩,λx H' y=>?_⟩;obtain⟨e,y⟩:=y;subst e;exact hs i x ys _ (y xs q) p
 ·have e:i=xs.length:=by lia
  subst e;exact .inl ⟨⟨xs,q,le_refl _⟩,by lia,hd ys H p⟩
theorem SN {js:List Nat} {tt:TT} {te:TE} {σ σ0:St} {Qd:List V->Hp->Prop} {K:Fr} {a:Addr} {xs:List V} {H:Hp} {tl:TE} (ht:∀R:V->Hp->Prop,R (.ref a) H->tl σ0 H R) (ha:xm K H a xs) (Pv:Nat->List V->Prop) (hn:xs.length<=sizeLine) (h0:Pv 0 []) (hl:∀i ys,Pv i ys->ys.length<=i)
  (hs:∀i x ys,xs[i]?=some x->Pv i ys->tt (some x:: dW σ js) H λb H4=>if b=true then te (some x:: dW σ js) H4 λy H5=>H5=H/\Pv (i+1) (ys ++ [y]) else H4=H/\Pv (i+1) ys)
  (hd:∀ys,Pv xs.length ys->Qd ys H):iOr (VM K tl) (ZV K tl) σ0 H (CompEnd js tt te σ Qd):=by
 rcases ha with ha | ha
 ·refine .inl (ht _ ⟨a,Z,⟨xs,ha⟩,jC (K:=K) (a:=a) (xs:=xs) (λi ys H'=>H'=H/\Pv i ys) hn ⟨Z,h0⟩ (λi ys _ z=>hl i ys z.2) (λi ys H' _ z=>by rw [z.1];exact ha) (λi x ys H' hx z=>?_) λys H' z=>?_⟩)
  ·obtain⟨rfl,z⟩:=z;exact hs i x ys hx z
  ·obtain⟨rfl,z⟩:=z;exact hd ys z
 ·refine .inr (ht _ ⟨a,Z,⟨xs,ha⟩,Ka (K:=K) (a:=a) (xs:=xs) (λi ys H'=>H'=H/\Pv i ys) hn ⟨Z,h0⟩ (λi ys _ z=>hl i ys z.2) (λi ys H' _ z=>by rw [z.1];exact ha) (λi x ys H' hx z=>?_) λys H' z=>?_⟩)
  ·obtain⟨rfl,z⟩:=z;exact hs i x ys hx z
  ·obtain⟨rfl,z⟩:=z;exact hd ys z
theorem xm.len {K:Fr} {H:Hp} {a:Addr} {xs:List V} (h:xm K H a xs):YL K (.ref a) H xs.length:=h.elim (λh=>.inl ⟨xs,h,rfl⟩) λh=>.inr ⟨xs,h,rfl⟩
theorem Jh {X:Cx} {K:Fr} (hK:X.K=K):Qm X (Yp K):=by subst hK;exact aR
theorem mq {X:Cx} {K:Fr} (hK:X.K=K):Qm X (PQ K):=by subst hK;exact dI
section
variable {P:Program} {w:World} {K:Fr} {mg:Str->Option Value} {base:Heap} {N:List Str} {qual:Str} {scope:Scope} {f:Addr} {cd:Value} {A:Around} {outer:List Env} {s:Shared} {H:Hp} {E:XK}
theorem Xh {pins:List (Addr×Obj)} {σ:St} {H1:Hp} {s1:Shared} {h':Heap} {e:Addr} {cls:Value} {args:List Value} (I:Inv (jg (u0 P w) P w K mg base N qual scope f cd A outer s H E) pins σ H1 s1)
  (hx:Heap.MadeExcOf s1.heap h' e cls args) (hE:E cls none H1):(jg (u0 P w) P w K mg base N qual scope f cd A outer s H E).xe (.ref e) { s1 with heap:=h' }:=by
 have nL:∀b o,s.heap.get? b=some o->b≠s.heap.objs.size:=λb o q=>ne_of_lt (Heap.lt_size q);have hmem:∀env∈(envOfC qual scope s.heap.objs.size f cd:: outer),∀b,env.frame=some b->b∈frs (envOfC qual scope s.heap.objs.size f cd:: outer):=λenv he b hb=>mem_filterMap.mpr ⟨env,he,hb⟩;have stk:=I.stack;have inB:∀b o,s.heap.get? b=some o->b∉frs outer->∃o',(PySem.W.hideAll s1.heap (frs (envOfC qual scope s.heap.objs.size f cd:: outer))).get? b=some o':=λb o q hb=>by obtain⟨o1,k1⟩:=I.base.there b o q (by simp [jg]);exact⟨o1,PySem.W.hideAll_get _ k1 λz=>(mem_cons.mp z).elim (nL b o q) hb⟩
 have hok:rT P w H1 (PySem.W.hideAll s1.heap (frs (envOfC qual scope s.heap.objs.size f cd:: outer))):=λb o q=>by
  refine(I.hok b o q).stay (λc v hc q'=>PySem.W.hideAll_get _ q' λhm=>?_) (λ_ q'=>q') λ_ _ q'=>q';have hn:=I.stkFree c hm;rcases hc with z | z
  ·rw [z,q] at hn;cases hn
  ·rw [z] at hn;cases hn
 have sB:(PySem.W.hideAll s1.heap (frs (envOfC qual scope s.heap.objs.size f cd:: outer))).StaysIn s1.heap:=λb o q=>PySem.W.of_hideAll _ q;have go:=mH qb (wpAny_leaves_madeW (M:=model P w) (E:=λe' s''=>u0 P w outer H s E e' s'') (s:={ s1 with heap:=h' }) (base:=PySem.W.hideAll s1.heap (frs (envOfC qual scope s.heap.objs.size f cd:: outer))) (h:=s1.heap)
  (Q:=λ_ s2=>∃h2 t,s2={ s1 with heap:=h2 }/\Heap.FlyingW (PySem.W.hideAll s1.heap (frs (envOfC qual scope s.heap.objs.size f cd:: outer))) outer e cls (.ref t) h2/\h'.UpToSlots h2)
  I.ok.frames rfl sB (PySem.W.funFrames_hide stk hmem) hx λh2 t fl _ _ up=>⟨h2,t,rfl,fl,up⟩)
 refine wpAny_mono go (λ_ s2 q=>?_) λ_ _ z=>z;obtain⟨⟨h2,t,rfl,fl,up⟩,dk⟩:=q;obtain⟨ob,hob,_⟩:=fl.there;obtain⟨t0,he,_,_⟩:=hx.there;have fd:∀b o,s1.heap.get? b=some o->b∈frs outer->∀vs,o.data≠.fields vs:=λb o q hb=>by have hb':b∈frs (envOfC qual scope s.heap.objs.size f cd:: outer):=mem_cons_of_mem _ hb;obtain⟨_,o',q',d⟩:=stk.mem hb';rw [q] at q';cases q';exact d
 exact⟨e,cls,_,H1,_,none,Z,I.os,I.bare,fl,DictAt.on (h:=h') ⟨_,he,Z⟩ dk hob,hok,Ie (L:=s.heap.objs.size) I.base Un.refl nL inB sB fl.1 ((Heap.UpToSlots.of_keeps hx.keeps).trans up) fd,inB,hE⟩
theorem Qk {x:Str} {C:Addr} {np cpos pos:Pos} {e:Expr} {es:List Expr} {ta:TA} (c:tR K C) (hm:mg x=some (.ref C))
  (hg:Gl (jg (u0 P w) P w K mg base N qual scope f cd A outer s H E) x) (ha:PA (jg (u0 P w) P w K mg base N qual scope f cd A outer s H E) (e:: es) ta)
  (he:starEach (e:: es) (jg (u0 P w) P w K mg base N qual scope f cd A outer s H E).env=(false,eval e (jg (u0 P w) P w K mg base N qual scope f cd A outer s H E).env):: starEach es (jg (u0 P w) P w K mg base N qual scope f cd A outer s H E).env:=by rfl)
  (hpl:(backTo cpos (starEach (e:: es) (jg (u0 P w) P w K mg base N qual scope f cd A outer s H E).env)).any (·.1)=false:=by rfl) (hdb:(x == ("__debug__" :Str))=false:=by decide):
  PS (jg (u0 P w) P w K mg base N qual scope f cd A outer s H E) (.Raise (some (.Call (.Name x np) (e:: es) [] cpos)) none pos) (Xr E C ta):=by
 intro pins s1 σ H1 D I h;obtain⟨nm,q,Nn,bs,bm,bmB,hdct,sn,sub,ab,col,dd,k0,k1,k2,k3,k5,B,newId,initId,mN,F,hb,hni,hf⟩:=c.ex;have hl:sizeLine=16777216:=sizeLine_eq;refine wpAny_Raise_call_subT (nm:=nm) (q:=q) (N:=Nn) (bs:=bs) (bm:=bm) (hdct:=hdct) (sn:=sn) (sub:=sub) (ab:=ab) (col:=col) (dd:=dd) (k0:=k0) (k1:=k1) (k2:=k2) (k3:=k3) (k5:=k5) F hb (I.ok.hd Z) hpl hni (qX I hg hm ⟨Z,?_⟩ hdb);have ha':=ha cpos pins s1 σ H1 _ I h;rw [he] at ha' ⊢;refine Calls.evalArgs_plain (dC ha' λus s2 hpt=>?_);obtain⟨vs,H2,I2,r,hz,hE⟩:=hpt;obtain⟨hC,hn,hT⟩:=hf s2.heap I2.kIn;exact⟨Z,by have:=r.length;show us.length<=sizeLine;lia,hC,hn,hT,λh' e hx=>Xh I2 hx hE⟩
end
noncomputable def caught (y C:Addr):Option Addr->HO
 | some dx=>Yc y C dx
 | none=>aaK y (.ref C)
noncomputable def thC (K:Fr) (i:Nat) (C:Addr) (ts:TS) (tr:TH):TH:=λD cls d σ H=>
 (cls=.ref C/\∀y,H y=none->ts { nx:=λσ2 H2=>D.nx (σ2.set i none) H2,rt:=D.rt,bk:=λσ2 H2=>D.bk (σ2.set i none) H2,ct:=λσ2 H2=>D.ct (σ2.set i none) H2 } (σ.set i (some (.ref y))) (upd H y (caught y C d)))∨
 (∃C1,cls=.ref C1/\PySem.W.subIn K (.ref C1) (.ref C)=some false/\tr D cls d σ H)
theorem Xo {X:Cx} {K:Fr} {i:Nat} {n x:Str} {C:Addr} {b₀:Stmt} {suite:List Stmt} {np hpos:Pos} {rest:List ExceptHandler} {ts:TS} {tr:TH} (hK:X.K=K)
  (hN:X.N.Nodup) (hi:X.N[i]?=some n) (hk:X.env.scope.names.lookup n=some .local) (hg:Gl X x) (hm:X.mg x=some (.ref C)) (cl:ExcAt K C)
  (hs:∀y,Ku (X.marked y) (b₀:: suite) ts) (hr:PH X rest tr) (hdb:(x == ("__debug__" :Str))=false:=by decide):
  PH X (.ExceptHandler (some (.Name x np)) (some n) (b₀:: suite) hpos:: rest) (thC K i C ts tr):=by
 subst hK;intro pins σ H' y cls s B a0 d D L da h;obtain⟨nm,q,Nn,bs,bm,hdct,sn,sub,ab,col,dd,k0,k1,k2,k3,k5,newId,hbase,hC⟩:=cl.ex;obtain⟨ob,hob,hobc⟩:=L.fly.there;have IL:=L.inv;have hd:=IL.ok.hd;refine wpAny_handleBy_cons (codeAny_handlers_test (Calls.Name_function_global IL.ok.kind hg (Calls.loadGlobal_global (by rw [IL.ok.glob];exact IL.mod.glob.keeps IL.bk) hm ?_) hdb)) (by intro q;cases q);rcases h with ⟨rfl,hsu⟩ | ⟨C1,rfl,hsub,hrest⟩
 ·refine wpAny_excMatches_sub_self (hC s.heap IL.kIn) hob hobc hbase ?_;refine codeAny_handlers_suite_as (e:=.ref y) ?_;have g1:=mH lJ (lands_againW (M:=model X.prog X.w) (A:=X.A.mark (some (.ref y))) (E:=λ_ _=>False) (Q:=λ_ s6=>∃h',s6={ s with heap:=h' }/\Heap.FlyingW B X.stack y (.ref C) a0 h'/\s.heap.UpToSlots h') L.fly λh' f up=>⟨h',rfl,f,up⟩);refine wpAny_mono g1 (λ_ s6 q6=>?_) λ_ _ z=>False.elim z;obtain⟨⟨h6,rfl,fl6,up6⟩,dk6⟩:=q6;obtain⟨oe6,vs6,hob6,hobc6,hdat6,_⟩:=fl6.first;obtain⟨o7,ho7,hd7⟩:=da.on dk6 hob6;obtain rfl:oe6=o7:=Option.some.inj (hob6.symm.trans ho7);obtain⟨oc,od,dt,osl⟩:=oe6;dsimp only at hobc6 hdat6 hd7;subst hobc6 hdat6 hd7;have ok6:dg X.prog X.w (upd H' y (caught y C od)) h6 y (caught y C od):=by
   cases od with
   | some dx=>exact⟨⟨_,_,hob6⟩,⟨_,hob6⟩,λh1 h2 ⟨x1,x2,z⟩ k=>⟨x1,x2,k _ z⟩⟩
   | none=>exact⟨⟨_,hob6,rfl⟩,⟨_,hob6⟩,λh1 h2 ⟨o,e1,e2⟩ k=>⟨o,k o e1,e2⟩⟩
  have I6:=(L.more h6 fl6 up6).track (x:=y) (o:=caught y C od) L.free L.new L.neL L.neC L.neP ok6;refine xK I6 hN hi (.inl hk) (v:=.ref y) Z (λs7 I7=>?_) (.inr hk);refine wpAny_mono (hs y pins s7 _ _ _ I7.marked (hsu y L.free)) (λf s8 q8=>?_) λ_ _ z=>False.elim z;cases f with
  | next=>
   obtain⟨σ8,H8,I8,q8⟩:=q8;exact Az (I8.unmarked hd) hN hi hk λs9 I9=>⟨_,_,I9,q8⟩
  | brk=>
   obtain⟨σ8,H8,I8,q8⟩:=q8;exact Az (I8.unmarked hd) hN hi hk λs9 I9=>⟨_,_,I9,q8⟩
  | cont=>
   obtain⟨σ8,H8,I8,q8⟩:=q8;exact Az (I8.unmarked hd) hN hi hk λs9 I9=>⟨_,_,I9,q8⟩
  | ret u=>
   obtain⟨v,σ8,H8,I8,rv,q8⟩:=q8;exact Az (I8.unmarked hd) hN hi hk λs9 I9=>⟨v,_,_,I9,rv,q8⟩
 ·obtain⟨hp,g,dr,tk,os⟩:=s;refine Ti (hC _ IL.kIn) hob hobc hbase (λq=>(PySem.W.looks_subIn IL.kIn hsub).at q) ?_;exact hr pins σ H' y _ _ B a0 d D L da hrest
theorem Ft {X:Cx} {K:Fr} (hK:X.K=K):jj X (.builtin "isinstance") (λxs H Q=>∃y C d c b,xs=[.ref y,c]/\H y=some (caught y C d)/\Qn K C/\aaq K C c b/\Q (.bl b) H):=by
 subst hK;intro pins s σ H xs us Q I r h;obtain⟨y,C,d,c,b,rfl,hy,x,hc,q⟩:=h;obtain⟨u,w',rfl,rx,ry⟩:=vals2 r;cases rx;have p:Hq y C s.heap:=by
  have z:=I.hok y _ hy;cases d with
  | some dx=>obtain⟨⟨_,_,w⟩,_⟩:=z;exact⟨_,w,rfl⟩
  | none=>obtain⟨⟨_,w,e⟩,_⟩:=z;exact⟨_,w,e⟩
 have fin:∀tk,EP X pins σ Q (.bool b) { s with toks:=tk }:=λtk=>⟨.bl b,H,I.tok tk,rfl,q⟩;cases c with
 | ref D=>cases ry;exact PySem.W.kia_one (Bl x) I.kIn p hc (by intro e;cases e) fin
 | ty T=>cases ry;exact PySem.W.kia_one (Bl x) I.kIn p hc (by intro e;cases e) fin
 | _=>exact(show False from hc).elim
section
variable {κ:Type} [DecidableEq κ]
noncomputable def b8 (kvs:List (κ×V)) (k:κ):Option V:=(kvs.find? λkv=>decide (kv.1=k)).map (·.2)
noncomputable def putK (kvs:List (κ×V)) (k:κ) (v:V):List (κ×V):=
 if (kvs.any λkv=>decide (kv.1=k))=true then kvs.map (λkv=>if kv.1=k then(kv.1,v) else kv) else kvs ++ [(k,v)]
theorem gO {p:κ×V} {r:List (κ×V)} {k:κ} (e:p.1=k):b8 (p:: r) k=some p.2:=by simp [b8,find?_cons,e]
theorem fV {p:κ×V} {r:List (κ×V)} {k:κ} (e:¬p.1=k):b8 (p:: r) k=b8 r k:=by simp [b8,find?_cons,e]
theorem qx (k:κ):∀kvs:List (κ×V),(kvs.any λkv=>decide (kv.1=k))=(b8 kvs k).isSome
 | []=>rfl
 | p:: r=>by
  rw [any_cons];by_cases e:p.1=k
  ·simp only [gO e,decide_eq_true e,Bool.true_or,Option.isSome_some]
  ·rw [fV e,decide_eq_false e,Bool.false_or];exact qx k r
theorem Jq (k j:κ) (y:V):∀kvs:List (κ×V),b8 (kvs.map λkv=>if kv.1=k then(kv.1,y) else kv) j=(b8 kvs j).map λx=>if j=k then y else x
 | []=>rfl
 | p:: r=>by
  have ih:=Jq k j y r;rw [map_cons];by_cases h:p.1=k
  ·rw [if_pos h];by_cases e:p.1=j
   ·rw [gO (p:=(p.1,y)) e,gO e,map_some,if_pos (e.symm.trans h)]
   ·rw [fV (p:=(p.1,y)) e,fV e,ih]
  ·rw [if_neg h];by_cases e:p.1=j
   ·rw [gO (p:=p) e,gO e,map_some,if_neg (λz=>h (e.trans z))]
   ·rw [fV (p:=p) e,fV e,ih]
theorem FW (k j:κ) (y:V):∀kvs:List (κ×V),b8 kvs k=none->b8 (kvs ++ [(k,y)]) j=if j=k then some y else b8 kvs j
 | [],_=>by
  by_cases e:k=j
  ·rw [if_pos e.symm];exact gO (p:=(k,y)) e
  ·rw [if_neg (λz=>e z.symm)];exact fV (p:=(k,y)) e
 | p:: r,hn=>by
  rw [List.cons_append];have hk:¬p.1=k:=λz=>by rw [gO z] at hn;cases hn
  rw [fV hk] at hn;have ih:=FW k j y r hn;by_cases e:p.1=j
  ·rw [gO e,gO e,if_neg (λz=>hk (e.trans z))]
  ·rw [fV e,fV e,ih]
theorem QG (kvs:List (κ×V)) (k j:κ) (y:V):b8 (putK kvs k y) j=if j=k then some y else b8 kvs j:=by
 unfold putK;by_cases a:(kvs.any λkv=>decide (kv.1=k))=true
 ·rw [if_pos a,Jq];rw [qx] at a;by_cases e:j=k
  ·obtain⟨x,hx⟩:=isSome_iff_exists.mp a;rw [if_pos e,e,hx,map_some,if_pos rfl]
  ·rw [if_neg e];cases b8 kvs j with
   | none=>rfl
   | some x=>rw [map_some,if_neg e]
 ·rw [if_neg a];refine FW k j y kvs ?_;rw [qx] at a;cases q:b8 kvs k with
  | none=>rfl
  | some x=>rw [q] at a;exact(a rfl).elim
theorem jE (kvs:List (κ×V)) (k:κ) (v:V):(putK kvs k v).length<=kvs.length+1:=by
 unfold putK;split
 ·rw [length_map];lia
 ·rw [length_append,length_cons,length_nil];lia
theorem lA {kvs:List (κ×V)} {k:κ} (v:V) (h:b8 kvs k=none):putK kvs k v=kvs ++ [(k,v)]:=by unfold putK;rw [qx,h];exact if_neg (by decide)
theorem oE.isSome_eq {o:Option V} {u:Option Value} (r:oE o u):o.isSome=u.isSome:=by
 cases o with
 | none=>cases u with
  | none=>rfl
  | some _=>exact(show False from r).elim
 | some _=>cases u with
  | none=>exact(show False from r).elim
  | some _=>rfl
theorem oE.getD {o:Option V} {u:Option Value} {d:V} {d':Value} (r:oE o u) (rd:RelV d d'):RelV (o.getD d) (u.getD d'):=by
 cases o with
 | none=>cases u with
  | none=>exact rd
  | some _=>exact(show False from r).elim
 | some _=>cases u with
  | none=>exact(show False from r).elim
  | some _=>exact r
theorem KV.val {kvs:List (κ×V)} {vs:List (κ×Value)} (r:KV kvs vs) (k:κ):oE (b8 kvs k) (valueAt vs k):=by
 unfold KV at r;induction r with
 | nil=>exact True.intro
 | @cons p q ps qs h t ih=>
  obtain⟨h1,h2⟩:=h;by_cases e:p.1=k
  ·have e':q.1=k:=h1.symm.trans e;have b:valueAt (q:: qs) k=some q.2:=by simp [valueAt,find?_cons,e']
   rw [gO e,b];exact h2
  ·have e':¬q.1=k:=λz=>e (h1.trans z);have b:valueAt (q:: qs) k=valueAt qs k:=by simp [valueAt,find?_cons,e']
   rw [fV e,b];exact ih
theorem KV.any {kvs:List (κ×V)} {vs:List (κ×Value)} (r:KV kvs vs) (k:κ):(kvs.any λkv=>decide (kv.1=k))=vs.any λkv=>decide (kv.1=k):=by
 unfold KV at r;induction r with
 | nil=>rfl
 | cons h t ih=>rw [any_cons,any_cons,ih,h.1]
theorem KV.repl {kvs:List (κ×V)} {vs:List (κ×Value)} (r:KV kvs vs) (k:κ) {y:V} {u:Value} (ry:RelV y u):
  KV (kvs.map λkv=>if kv.1=k then(kv.1,y) else kv) (vs.map λkv=>if kv.1=k then(kv.1,u) else kv):=by
 unfold KV at r ⊢;induction r with
 | nil=>exact .nil
 | @cons p q ps qs h t ih=>
  rw [map_cons,map_cons];refine .cons ?_ ih;obtain⟨h1,h2⟩:=h;by_cases e:p.1=k
  ·rw [if_pos e,if_pos (h1.symm.trans e)];exact⟨h1,ry⟩
  ·rw [if_neg e,if_neg (λz=>e (h1.trans z))];exact⟨h1,h2⟩
theorem KV.put {kvs:List (κ×V)} {vs:List (κ×Value)} (r:KV kvs vs) (k:κ) {y:V} {u:Value} (ry:RelV y u):KV (putK kvs k y) (stored vs k u):=by
 unfold putK stored;rw [r.any k];by_cases e:(vs.any λkv=>decide (kv.1=k))=true
 ·rw [if_pos e,if_pos e];exact r.repl k ry
 ·rw [if_neg e,if_neg e];exact Paired.snoc r ⟨rfl,ry⟩
theorem KV.length {kvs:List (κ×V)} {vs:List (κ×Value)} (r:KV kvs vs):kvs.length=vs.length:=Paired.length r
end
theorem Ck {P:Program} {w:World} {k:Key} {u:Value} (r:RelV (kV k) u):(cj P w).is k u=true:=by
 cases k with
 | inl i=>obtain⟨t,e⟩:=(show ∃t,u=Value.int i t from r);subst e;exact JP P w i t
 | inr x=>obtain⟨t,e⟩:=(show ∃t,u=Value.str x t from r);subst e;exact lF P w x t
theorem FT {P:Program} {w:World}:∀{ks:List Key} {us:List Value},Vals (ks.map kV) us->ItemsAre (cj P w) ks us
 | [],_,r=>by rw [map_nil] at r;cases r;exact .nil
 | k:: ks,_,r=>by
  rw [map_cons] at r;cases r with
  | cons h t=>exact .cons (Ck h) (FT t)
noncomputable abbrev KT (H:Hp):List (List Key×V)->List (List Key×Addr×Value)->Prop:=Paired λp q=>p.1=q.1/\H q.2.1=some (.tup (p.1.map kV))/\RelV p.2 q.2.2
theorem KT.val {H:Hp} {kvs:List (List Key×V)} {xs:List (List Key×Addr×Value)} (r:KT H kvs xs) (k:List Key):oE (b8 kvs k) ((atKey xs k).map (·.2)):=by
 induction r with
 | nil=>exact True.intro
 | @cons p q ps qs h t ih=>
  obtain⟨h1,_,h2⟩:=h;by_cases e:p.1=k
  ·have e':q.1=k:=h1.symm.trans e;have b:atKey (q:: qs) k=some q.2:=by simp [atKey,find?_cons,e']
   rw [gO e,b];exact h2
  ·have e':¬q.1=k:=λz=>e (h1.trans z);have b:atKey (q:: qs) k=atKey qs k:=by simp [atKey,find?_cons,e']
   rw [fV e,b];exact ih
theorem KT.repl {H:Hp} {kvs:List (List Key×V)} {xs:List (List Key×Addr×Value)} (r:KT H kvs xs) (k:List Key) {y:V} {u:Value} (ry:RelV y u):
  KT H (kvs.map λkv=>if kv.1=k then(kv.1,y) else kv) (xs.map (putAt k u)):=by
 induction r with
 | nil=>exact .nil
 | @cons p q ps qs h t ih=>
  rw [map_cons,map_cons];refine .cons ?_ ih;obtain⟨h1,h2,h3⟩:=h;unfold putAt;by_cases e:p.1=k
  ·rw [if_pos e,if_pos (h1.symm.trans e)];exact⟨h1,h2,ry⟩
  ·rw [if_neg e,if_neg (λz=>e (h1.trans z))];exact⟨h1,h2,h3⟩
theorem KT.put {H:Hp} {kvs:List (List Key×V)} {xs:List (List Key×Addr×Value)} (r:KT H kvs xs) (k:List Key) {b:Addr} {y:V} {u:Value} (hb:H b=some (.tup (k.map kV))) (ry:RelV y u):
  KT H (putK kvs k y) (storedH xs k b u):=by
 have e:(kvs.any λkv=>decide (kv.1=k))=(atKey xs k).isSome:=by rw [qx,(r.val k).isSome_eq,isSome_map]
 unfold putK storedH;rw [e];by_cases q:(atKey xs k).isSome=true
 ·rw [if_pos q,if_pos q];exact r.repl k ry
 ·rw [if_neg q,if_neg q];exact Paired.snoc r ⟨rfl,hb,ry⟩
theorem KT.keeps {H H':Hp} {kvs:List (List Key×V)} {xs:List (List Key×Addr×Value)} (r:KT H kvs xs) (ht:∀b ys,H b=some (.tup ys)->H' b=some (.tup ys)):KT H' kvs xs:=
 Paired.mapP r λ_ _ z=>⟨z.1,ht _ _ z.2.1,z.2.2⟩
section
variable {P:Program} {w:World} {H:Hp} {h:Heap} {a:Addr}
theorem Wq {u:HO} (ok:rT P w H h) (e:Rd H a u):dg P w H h a u:=e.ok ok
theorem Gg {kvs:List (Key×V)} (ok:rT P w H h) (e:Rd H a (.dK kvs)):kvs.length<=sizeLine/\(a == sysModules)=false/\∃vs,KV kvs vs/\h.DictOf (cj P w) a vs:=
 show dg P w H h a (.dK kvs) from Wq ok e
theorem Wb {kvs:List (Key×V)} (ok:rT P w H h) (e:H a=some (.dK kvs)):kvs.length<=sizeLine/\(a == sysModules)=false/\∃vs,KV kvs vs/\h.DictOf (cj P w) a vs:=Gg ok (.inl e)
theorem Bo {ks:List Key} (ok:rT P w H h) (e:H a=some (.tup (ks.map kV))):(tupleKind (cj P w)).is h ks a:=by obtain⟨_,its,r,o,h1,h2,n,h3⟩:=(show dg P w H h a (.tup (ks.map kV)) from ok a _ e);exact⟨o,its.toArray,n,h1,h2,h3,by simpa using FT r⟩
theorem J2 {kvs:List (List Key×V)} (ok:rT P w H h) (e:Rd H a (.dT kvs)):kvs.length<=sizeLine/\(a == sysModules)=false/\
  ∃xs,KT H kvs xs/\h.DictOfH (tupleKind (cj P w)) a xs:=by
 obtain⟨z,y,xs,r,o,es,ep,h1,h2,h3,h4,h5⟩:=(show dg P w H h a (.dT kvs) from Wq ok e);refine⟨z,y,xs,r,o,es,ep,h1,h2,h3,h4,λx hx=>?_,h5⟩;have all:∀{l:List (List Key×V)} {m:List (List Key×Addr×Value)},KT H l m->∀x∈m,(tupleKind (cj P w)).is h x.1 x.2.1:=by
  intro l m q;induction q with
  | nil=>intro x hx;exact nomatch hx
  | @cons p q ps qs hq t ih=>
   intro x hx;rcases mem_cons.mp hx with e | hx
   ·subst e;exact Bo ok (by rw [<-hq.1];exact hq.2.1)
   ·exact ih x hx
 exact all r x hx
theorem Z5 {kvs:List (List Key×V)} (ok:rT P w H h) (e:H a=some (.dT kvs)):kvs.length<=sizeLine/\(a == sysModules)=false/\
  ∃xs,KT H kvs xs/\h.DictOfH (tupleKind (cj P w)) a xs:=J2 ok (.inl e)
end
noncomputable def fP (H:Hp) (a:Addr) (y:V) (r:Option V):Prop:=
 (∃kvs k,Rd H a (.dK kvs)/\y=kV k/\r=b8 kvs k)∨∃kvs k b,Rd H a (.dT kvs)/\y=.ref b/\H b=some (.tup (k.map kV))/\r=b8 kvs k
noncomputable def qW (H:Hp) (a:Addr) (y v:V) (H':Hp):Prop:=
 (∃kvs k,H a=some (.dK kvs)/\y=kV k/\kvs.length <sizeLine/\H'=upd H a (.dK (putK kvs k v)))∨
 ∃kvs k b,H a=some (.dT kvs)/\y=.ref b/\H b=some (.tup (k.map kV))/\kvs.length <sizeLine/\H'=upd H a (.dT (putK kvs k v))
theorem fP.k {H:Hp} {a:Addr} {kvs:List (Key×V)} {k:Key} (e:H a=some (.dK kvs)):fP H a (kV k) (b8 kvs k):=.inl ⟨kvs,k,.inl e,rfl,rfl⟩
theorem qW.k {H:Hp} {a:Addr} {kvs:List (Key×V)} {k:Key} {v:V} (e:H a=some (.dK kvs)) (hl:kvs.length <sizeLine):qW H a (kV k) v (upd H a (.dK (putK kvs k v))):=.inl ⟨kvs,k,e,rfl,hl,rfl⟩
section
variable {X:Cx} {pins:List (Addr×Obj)} {σ:St} {H:Hp} {s:Shared} {a:Addr} {y v:V} {u r:Value} {o:Option V} {A:Around} {E:Value->Shared->Prop}
theorem Inv.big (I:Inv X pins σ H s):sysModules <s.heap.objs.size:=by have h:mainGlobals <s.heap.objs.size:=(I.mod.glob.keeps I.bk).lt;exact Nat.lt_trans (by decide) h
theorem Gs {Q:Value->Shared->Prop} (hu:A.units+1 <cLine) (I:Inv X pins σ H s) (g:fP H a y (some v)) (ry:RelV y u) (h:∀w' s',Inv X pins σ H s'->RelV v w'->Q w' s'):
  wpAny (model X.prog X.w) A (getItem (.ref a) u) Q E s:=by
 rcases g with ⟨kvs,k,e,ey,l⟩ | ⟨kvs,k,b,e,ey,eb,l⟩
 ·subst ey;obtain⟨z,hd,vs,rel,dd⟩:=Gg I.hok e;obtain⟨w',hw,rw'⟩:=oE.some_of (v:=v) (o:=valueAt vs k) (by rw [l];exact rel.val k);exact wpAny_getItem_of (Ck ry) dd.mapOf hw (h w' _ (I.tok _) rw')
 ·subst ey;cases (show u=Value.ref b from ry);obtain⟨z,hd,xs,rel,dd⟩:=J2 I.hok e;obtain⟨w',hw,rw'⟩:=oE.some_of (v:=v) (o:=(atKey xs k).map (·.2)) (by rw [l];exact rel.val k);obtain⟨p,hp,hp2⟩:=map_eq_some_iff.mp hw;refine wpAny_getItem_heap (tupleKind_room_in1 hu) (Bo I.hok eb) dd hp ?_;rw [hp2];exact h w' _ (I.tok _) rw'
theorem aaV {Q:Value->Shared->Prop} (hu:A.units+1 <cLine) (I:Inv X pins σ H s) (g:fP H a y o) (ry:RelV y u) (h:∀s',Inv X pins σ H s'->Q (.bool o.isSome) s'):
  wpAny (model X.prog X.w) A (compareOp .In u (.ref a)) Q E s:=by
 rcases g with ⟨kvs,k,e,ey,l⟩ | ⟨kvs,k,b,e,ey,eb,l⟩
 ·subst ey;obtain⟨z,hd,vs,rel,dd⟩:=Gg I.hok e;refine wpAny_in_of (Ck ry) hd dd.mapOf ?_;rw [<-(rel.val k).isSome_eq,<-l];exact h _ (I.tok _)
 ·subst ey;cases (show u=Value.ref b from ry);obtain⟨z,hd,xs,rel,dd⟩:=J2 I.hok e;refine wpAny_in_heap (tupleKind_room_in1 hu) (Bo I.hok eb) hd dd ?_;have q:=(rel.val k).isSome_eq;rw [isSome_map] at q;rw [<-q,<-l];exact h _ (I.tok _)
theorem Vt {Q:Value->Shared->Prop} (hu:A.units+1 <cLine) (I:Inv X pins σ H s) (g:fP H a y o) (ry:RelV y u) (h:∀s',Inv X pins σ H s'->Q (.bool (!o.isSome)) s'):
  wpAny (model X.prog X.w) A (compareOp .NotIn u (.ref a)) Q E s:=by
 rcases g with ⟨kvs,k,e,ey,l⟩ | ⟨kvs,k,b,e,ey,eb,l⟩
 ·subst ey;obtain⟨z,hd,vs,rel,dd⟩:=Gg I.hok e;refine wpAny_notIn_of (Ck ry) hd dd.mapOf ?_;rw [<-(rel.val k).isSome_eq,<-l];exact h _ (I.tok _)
 ·subst ey;cases (show u=Value.ref b from ry);obtain⟨z,hd,xs,rel,dd⟩:=J2 I.hok e;refine wpAny_notIn_heap (tupleKind_room_in1 hu) (Bo I.hok eb) hd dd ?_;have q:=(rel.val k).isSome_eq;rw [isSome_map] at q;rw [<-q,<-l];exact h _ (I.tok _)
theorem G7 {h':Heap} {t':Nat} {ob:HO} (I:Inv X pins σ H s) (mu:Zm (H a)) (hs:Heap.SameBut a s.heap h') (he:∃q,h'.get? a=some q) (new:dg X.prog X.w (upd H a ob) h' a ob):
  Inv X pins σ (upd H a ob) { s with heap:=h',toks:=t' }:=
 I.write (x:=a) (e:=a) mu (.inl rfl) (λb q hb z=>(hs.2 b hb).trans z) he new
theorem Rf {P:Program} {w:World} {H':Hp} {h':Heap} {kvs:List (Key×V)} {vs:List (Key×Value)} (z:kvs.length<=sizeLine) (hd:(a == sysModules)=false) (rel:KV kvs vs) (dd:h'.DictOf (cj P w) a vs):
  dg P w H' h' a (.dK kvs):=⟨z,hd,vs,rel,dd⟩
theorem EY {H':Hp} {Q:Unit->Shared->Prop} (hu:A.units+1 <cLine) (I:Inv X pins σ H s) (g:qW H a y v H') (ry:RelV y u) (rv:RelV v r) (h:∀s',Inv X pins σ H' s'->Q () s'):
  wpAny (model X.prog X.w) A (setItem (.ref a) u r) Q E s:=by
 rcases g with ⟨kvs,k,e,ey,l,eH⟩ | ⟨kvs,k,b,e,ey,eb,l,eH⟩
 ·subst ey eH;obtain⟨z,hd,vs,rel,dd⟩:=Wb I.hok e;have hz:vs.length<=sizeLine:=by rw [<-rel.length];exact z
  have hl:(putK kvs k v).length<=sizeLine:=by have:=jE kvs k v;lia
  refine wpAny_setItem_pairs (hsz:=hz) (Ck ry) dd λh' dd' hs=>h _ ?_;have he:∃q,h'.get? a=some q:=let ⟨q,_,_,hq,_⟩:=dd';⟨q,hq⟩
  exact G7 I (by rw [e];exact True.intro) hs he (Rf hl hd (rel.put k rv) dd')
 ·subst ey eH;cases (show u=Value.ref b from ry);obtain⟨z,hd,xs,rel,dd⟩:=Z5 I.hok e;have hz:xs.length<=sizeLine:=by rw [<-Paired.length rel];exact z
  have hl:(putK kvs k v).length<=sizeLine:=by have:=jE kvs k v;lia
  refine wpAny_setItem_heap (hsz:=hz) (tupleKind_room_in1 hu) (Bo I.hok eb) dd λh' dd' hs=>h _ ?_;obtain⟨q,es,ep,hq,h2,h3,h4,_,h5⟩:=dd';refine G7 I (by rw [e];exact True.intro) hs ⟨q,hq⟩ ⟨hl,hd,_,(rel.put k eb rv).keeps λc ys ec=>?_,q,es,ep,hq,h2,h3,h4,h5⟩;rw [aH (vO ec e (λz=>nomatch z))];exact ec
end
section
variable {X:Cx} {pins:List (Addr×Obj)} {σ:St} {H:Hp} {s:Shared} {a:Addr} {kvs:List (Key×V)} {k:Key} {u:Value} {A:Around} {E:Value->Shared->Prop}
end
noncomputable def X6 (i:Expr):Prop:=∀ov iv,subscripted i false ov iv=operate [ov,iv] (getItem ov iv)
theorem Nj {prog:Program} {w:World} {A:Around} {E:Value->Shared->Prop} {s:Shared} {env:Env} {value slice:Expr} {pos:Pos} {T id:String} {Q:Value->Shared->Prop}
  (hl:typeLookup (.type T) "__getitem__" =pure (some (.builtin id))) (hs:X6 slice)
  (h:wpAny (model prog w) A (eval value env) (λo s₁=>wpAny (model prog w) A (eval slice env) (λi s₂=>s₂.TypeIs o T/\wpAny (model prog w) A (getItem o i) Q E s₂) E s₁) E s):
  wpAny (model prog w) A (eval (.Subscript value slice pos) env) Q E s:=by
 refine Subscript_ (wpAny_mono h (λo s₁ h₁=>wpAny_mono h₁ (λi s₂ h₂=>?_) λ_ _ x=>x) λ_ _ x=>x);obtain⟨hT,h₂⟩:=h₂;unfold subscriptTail;refine wpAny_bind ?_;rw [getitemInPython_of_ne hT.not_modules];refine wpAny_bind (wpAny_specialOf hT hl ?_);have fin:wpAny (model prog w) A (subscripted slice false o i) (λr s₃=>wpAny (model prog w) A (letTemporaryGo value o r >>= λ_=>pure r) Q E s₃) E s₂:=by rw [hs o i];exact wpAny_operating (wpAny_mono h₂ (λr s₃ h₃=>wpAny_bind (wpAny_letTemporaryGo (wpAny_pure h₃))) λ_ _ x=>x)
 first
  | exact wpAny_pure (wpAny_bind fin)
  | exact wpAny_bind (wpAny_pure (wpAny_bind fin))
  | exact wpAny_bind fin
theorem Jc {X:Cx} {pins:List (Addr×Obj)} {σ:St} {H:Hp} {s:Shared} {a:Addr} {y:V} {o:Option V} (I:Inv X pins σ H s) (g:fP H a y o):s.TypeIs (.ref a) "dict" :=by
 rcases g with ⟨kvs,k,e,_,_⟩ | ⟨kvs,k,b,e,_,_,_⟩
 ·obtain⟨_,_,vs,_,dd⟩:=Gg I.hok e;exact dd.typeIs
 ·obtain⟨_,_,xs,_,dd⟩:=J2 I.hok e;exact dd.typeIs
inductive Sy (Q:VK) (x:V) (y:V) (H2:Hp):Prop where
 | mk:∀a v,x=.ref a->fP H2 a y (some v)->Q v H2->Sy Q x y H2
noncomputable def Wm (td ty:TE):TE:=λσ H Q=>td σ H λx H1=>ty σ H1 λy H2=>Sy Q x y H2
inductive Wj (Q:VK) (y:V) (x:V) (H2:Hp):Prop where
 | mk:∀a o,x=.ref a->fP H2 a y o->Q (.bl o.isSome) H2->Wj Q y x H2
noncomputable def aah (ty td:TE):TE:=λσ H Q=>ty σ H λy H1=>td σ H1 λx H2=>Wj Q y x H2
inductive JS (Q:VK) (y:V) (x:V) (H2:Hp):Prop where
 | mk:∀a o,x=.ref a->fP H2 a y o->Q (.bl (!o.isSome)) H2->JS Q y x H2
noncomputable def Vp (ty td:TE):TE:=λσ H Q=>ty σ H λy H1=>td σ H1 λx H2=>JS Q y x H2
inductive Tg (D:Ends) (σ:St) (v:V) (x:V) (y:V) (H3:Hp):Prop where
 | mk:∀a H4,x=.ref a->qW H3 a y v H4->D.nx σ H4->Tg D σ v x y H3
noncomputable def Y5 (td ty tv:TE):TS:=λD σ H=>tv σ H λv H1=>td σ H1 λx H2=>ty σ H2 λy H3=>Tg D σ v x y H3
inductive S6 (tv:TE) (rd:V->V->Hp->VK->Prop) (D:Ends) (σ:St) (x:V) (y:V) (H2:Hp):Prop where
 | mk:∀a v,x=.ref a->fP H2 a y (some v)->(tv σ H2 λy2 H3=>rd v y2 H3 λz H4=>∃H5,qW H4 a y z H5/\D.nx σ H5)->S6 tv rd D σ x y H2
noncomputable def Zt (td ty tv:TE) (rd:V->V->Hp->VK->Prop):TS:=λD σ H=>td σ H λx H1=>ty σ H1 λy H2=>S6 tv rd D σ x y H2
section
variable {X:Cx} {o i e value:Expr} {pos pos' tpos:Pos} {td ty tv:TE}
theorem fu (hu:X.A.units+1 <cLine) (ho:PE X o td) (hi:PE X i ty) (hs:X6 i):PE X (.Subscript o i pos) (Wm td ty):=by intro pins s σ H Q I h;refine Nj PySem.F.slot_dict_getitem.lookup hs (dC (ho pins s σ H _ I h) λu s1 ⟨x,H1,I1,rx,q1⟩=>dC (hi pins s1 σ H1 _ I1 q1) λiv s2 hpt=>?_);obtain⟨y,H2,I2,ry,a,v,ex,g,q2⟩:=hpt;subst ex;obtain rfl:u=Value.ref a:=rx;exact⟨Jc I2 g,Gs hu I2 g ry λw' s3 I3 rw'=>⟨v,H2,I3,rw',q2⟩⟩
theorem yX (hu:X.A.units+1 <cLine) (hi:PE X i ty) (ho:PE X o td):PC X .In i o (aah ty td):=by intro pins s σ H Q I h;refine dC (hi pins s σ H _ I h) λiv s1 ⟨y,H1,I1,ry,q1⟩=>dC (ho pins s1 σ H1 _ I1 q1) λu s2 hpt=>?_;obtain⟨x,H2,I2,rx,a,ov,ex,g,q2⟩:=hpt;subst ex;obtain rfl:u=Value.ref a:=rx;exact aaV hu I2 g ry λs3 I3=>⟨.bl ov.isSome,H2,I3,Z,q2⟩
theorem uN (hu:X.A.units+1 <cLine) (hi:PE X i ty) (ho:PE X o td):PC X .NotIn i o (Vp ty td):=by intro pins s σ H Q I h;refine dC (hi pins s σ H _ I h) λiv s1 ⟨y,H1,I1,ry,q1⟩=>dC (ho pins s1 σ H1 _ I1 q1) λu s2 hpt=>?_;obtain⟨x,H2,I2,rx,a,ov,ex,g,q2⟩:=hpt;subst ex;obtain rfl:u=Value.ref a:=rx;exact Vt hu I2 g ry λs3 I3=>⟨.bl (!ov.isSome),H2,I3,Z,q2⟩
theorem jt (hu:X.A.units+1 <cLine) (ho:PE X o td) (hi:PE X i ty) (hv:PE X value tv) (hs:swapsWith value (some (.Subscript o i pos')) pos.line X.env=pure false):
  PS X (.Assign [.Subscript o i pos'] value pos) (Y5 td ty tv):=by
 intro pins s σ H D I h;refine wpAny_Assign_Subscript (dC (hv pins s σ H _ I h) λr s1 ⟨v,H1,I1,rv,q1⟩=>dC (ho pins s1 σ H1 _ I1 q1) λu s2 ⟨x,H2,I2,rx,q2⟩=>dC (hi pins s2 σ H2 _ I2 q2) λiv s3 hpt=>?_) hs;obtain⟨y,H3,I3,ry,a,H4,ex,g,q3⟩:=hpt;subst ex;obtain rfl:u=Value.ref a:=rx;exact EY hu I3 g ry rv λs4 I4=>⟨σ,H4,I4,q3⟩
theorem Oo {op:Operator} {rd:V->V->Hp->VK->Prop} (hu:X.A.units+1 <cLine) (ho:PE X o td) (hi:PE X i ty) (hv:PE X value tv) (hop:aaC X op rd)
  (ha:∀ov iv new,augStore i ov iv new=(do holding [new,ov,iv] (setItem ov iv new);release [new,ov,iv] [];pure .next)):PS X (.AugAssign (.Subscript o i tpos) op value pos) (Zt td ty tv rd):=by
 intro pins s σ H D I h;refine wpAny_AugAssign_SubscriptAny (dC (ho pins s σ H _ I h) λu s1 ⟨x,H1,I1,rx,q1⟩=>dC (hi pins s1 σ H1 _ I1 q1) λiv s2 hpt=>?_) ha;obtain⟨y,H2,I2,ry,a,v,ex,g,q2⟩:=hpt;subst ex;obtain rfl:u=Value.ref a:=rx;refine Gs hu I2 g ry λw' s3 I3 rw'=>dC (hv pins s3 σ H2 _ I3 q2) λw2 s4 ⟨y2,H3,I4,ry2,q3⟩=>dC (hop pins s4 σ H3 v y2 w' w2 _ I4 rw' ry2 q3) λw3 s5 hpt=>?_;obtain⟨z,H4,I5,rz,H5,g5,q4⟩:=hpt;exact EY hu I5 g5 ry rz λs6 I6=>⟨σ,H5,I6,q4⟩
end
theorem Jr {P:Program} {w:World} {H:Hp} (h:Heap) (hb:sysModules <h.objs.size):dg P w H (h.push { cls:=.type "dict",data:=.dict #[] }) h.objs.size (.dK []):=
 ⟨zero_le _,beq_eq_false_iff_ne.mpr (Ne.symm (ne_of_lt hb)),[],.nil,Heap.DictOf.new h⟩
noncomputable def Xq:TE:=λ_ H Q=>∀p,H p=none->Q (.ref p) (upd H p (.dK []))
section
variable {X:Cx} {pos:Pos}
theorem iH:PE X (.Dict [] [] pos) Xq:=λpins s σ H Q I h=>
 wpAny_Dict_empty ⟨.ref s.heap.objs.size,_,I.laid (a:=s.heap.objs.size) (o:=.dK []) (t':=s.toks) (λ_ _ q=>Heap.get?_push_of_some _ q) (le_refl _) (Jr s.heap I.big),rfl,h _ (I.hok.fresh (le_refl _))⟩
end
noncomputable def LC:List (TE×TE)->St->Hp->(List (V×V)->Hp->Prop)->Prop
 | [],_,H,Q=>Q [] H
 | (tk,tv):: r,σ,H,Q=>tk σ H λx H1=>tv σ H1 λy H2=>LC r σ H2 λps H3=>Q ((x,y):: ps) H3
noncomputable abbrev VV:List (V×V)->List (Value×Value)->Prop:=Paired λp q=>RelV p.1 q.1/\RelV p.2 q.2
noncomputable def PPs (X:Cx) (pos:Pos) (keys:List (Option Expr)) (values:List Expr) (trs:List (TE×TE)):Prop:=
 ∀(pins:List (Addr×Obj)) (s:Shared) (σ:St) (H:Hp) (Q:List (V×V)->Hp->Prop),Inv X pins σ H s->LC trs σ H Q->
  wpAny (model X.prog X.w) X.A (evalPairs (pairTrees keys values X.env pos)) (λvs s'=>∃ps H',Inv X pins σ H' s'/\VV ps vs/\Q ps H') X.xe s
theorem Uq {X:Cx} {pos:Pos}:PPs X pos [] [] []:=λpins s σ H Q I h=>pairTrees_nil_walk ⟨[],H,I,.nil,h⟩
theorem Qp {X:Cx} {pos:Pos} {k v:Expr} {ks:List (Option Expr)} {vs:List Expr} {tk tv:TE} {trs:List (TE×TE)} (hk:PE X k tk) (hv:PE X v tv) (hr:PPs X pos ks vs trs):
  PPs X pos (some k:: ks) (v:: vs) ((tk,tv):: trs):=λpins s σ H Q I h=>
 pairTrees_cons_walk (dC (hk pins s σ H _ I h) λu s1 ⟨x,H1,I1,rx,q1⟩=>dC (hv pins s1 σ H1 _ I1 q1) λw2 s2 ⟨y,H2,I2,ry,q2⟩=>
  dC (hr pins s2 σ H2 _ I2 q2) λws s3 ⟨ps,H3,I3,rel,q3⟩=>⟨(x,y):: ps,H3,I3,.cons ⟨rx,ry⟩ rel,q3⟩)
noncomputable def sX (kvs more:List (Key×V)):List (Key×V):=more.foldl (λacc kv=>putK acc kv.1 kv.2) kvs
theorem KV.merge:∀{more:List (Key×V)} {rs:List (Key×Value)} {kvs:List (Key×V)} {vs:List (Key×Value)},KV more rs->KV kvs vs->KV (sX kvs more) (merged vs rs):=by
 intro more rs kvs vs r;unfold KV at r;induction r generalizing kvs vs with
 | nil=>intro q;exact q
 | @cons p q ps qs h t ih=>
  intro r0;have e:KV (putK kvs p.1 p.2) (stored vs q.1 q.2):=by have:=r0.put p.1 h.2;rw [<-h.1];exact this
  exact ih e
theorem u9:∀(more kvs:List (Key×V)),(sX kvs more).length<=kvs.length+more.length
 | [],kvs=>by show kvs.length<=kvs.length+0;lia
 | p:: r,kvs=>by have h1:=u9 r (putK kvs p.1 p.2);have h2:=jE kvs p.1 p.2;show(sX (putK kvs p.1 p.2) r).length<=_;rw [length_cons];lia
theorem Cp {P:Program} {w:World}:∀{kvs:List (Key×V)} {ws:List (Value×Value)},VV (kvs.map λkv=>(kV kv.1,kv.2)) ws->∃rs,Carries (cj P w) ws rs/\KV kvs rs
 | [],_,r=>by rw [map_nil] at r;cases r;exact⟨[],True.intro,.nil⟩
 | p:: kvs,_,r=>by
  rw [map_cons] at r;cases r with
  | @cons a b as bs h t=>
   obtain⟨rs,c,q⟩:=Cp (P:=P) (w:=w) t;obtain⟨b1,b2⟩:=b;exact⟨(p.1,b2):: rs,⟨Ck h.1,Z,c⟩,.cons ⟨Z,h.2⟩ q⟩
noncomputable def Z3 (trs:List (TE×TE)):TE:=λσ H Q=>∀p,H p=none->LC trs σ (upd H p (.dK [])) λps H2=>H2 p=some (.dK [])/\∃kvs:List (Key×V),ps=kvs.map (λkv=>(kV kv.1,kv.2))/\kvs.length<=15/\Q (.ref p) (upd H2 p (.dK (sX [] kvs)))
theorem Vx {X:Cx} {pos:Pos} {keys:List (Option Expr)} {values:List Expr} {trs:List (TE×TE)} (h:PPs X pos keys values trs) (hall:keys.all (·.isSome)=true) (hl:keys.length=values.length) (h0:keys≠[])
  (h15:keys.length<=15):PE X (.Dict keys values pos) (Z3 trs):=by
 intro pins s σ H Q I q;have hn:=I.hok.fresh (le_refl s.heap.objs.size);have I1:=I.laid (a:=s.heap.objs.size) (o:=.dK []) (h':=s.heap.push { cls:=.type "dict",data:=.dict #[] }) (t':=s.toks) (λ_ _ q=>Heap.get?_push_of_some _ q) (le_refl _) (Jr s.heap I.big);refine wpAny_Dict_walk (knd:=cj X.prog X.w) hall hl h0 h15 (dC (h pins _ σ _ _ I1 (q _ hn)) λws s2 hpt=>?_);obtain⟨ps,H2,I2,rel,e,kvs,ep,lk,q2⟩:=hpt;subst ep;obtain⟨rs,c,rk⟩:=Cp (P:=X.prog) (w:=X.w) rel;obtain⟨z,hd,vs0,r0,dd⟩:=Wb I2.hok e;cases r0;refine⟨rs,c,dd,λh' dd' hs=>⟨.ref s.heap.objs.size,_,?_,Z,q2⟩⟩;have hz:(sX [] kvs).length<=sizeLine:=by have h1:=u9 kvs [];rw [length_nil] at h1;rw [sizeLine_eq];lia
 have he:∃q,h'.get? s.heap.objs.size=some q:=let ⟨q,_,_,hq,_⟩:=dd';⟨q,hq⟩
 exact G7 I2 (by rw [e];exact True.intro) hs he (Rf hz hd (rk.merge .nil) dd')
structure M2 (X:Cx) (o:Expr) (m:Str) (apos:Pos) (e f:Expr) (cpos:Pos):Prop where
 base:attributeBase o m X.env (eval o X.env)=eval o X.env
 few:((backTo cpos (starEach [e,f] X.env)).all (λx=>!x.1) && (backToKw cpos (keywordEach [] X.env)).all (λx=>x.1.isSome)
  && decide (([e,f]:List Expr).length+([]:List Keyword).length+(if ([]:List Keyword).isEmpty then 0 else 1) <30))=true
 line:(apos.endLine == cpos.line)=true
 trees:backTo cpos (starEach [e,f] X.env)=[(false,eval e X.env),(false,eval f X.env)]
section
variable {X:Cx} {pins:List (Addr×Obj)} {σ:St} {H:Hp} {s:Shared} {a:Addr} {y d:V} {u r:Value} {o:Option V} {A:Around} {E:Value->Shared->Prop}
end
section
variable {X:Cx} {o e f:Expr} {apos cpos:Pos} {td ty tx:TE}
end
section
variable {X:Cx} {pins:List (Addr×Obj)} {σ:St} {H:Hp} {s:Shared} {a:Addr} {kvs:List (Key×V)} {A:Around} {E:Value->Shared->Prop}
end
section
variable {X:Cx} {pins:List (Addr×Obj)} {σ:St} {H:Hp} {s:Shared} {a:Addr} {y:V} {u:Value} {A:Around} {E:Value->Shared->Prop}
end
section
variable {X:Cx} {pins:List (Addr×Obj)} {σ:St} {H:Hp} {s:Shared} {d:Addr} {kvs:List (Key×V)}
theorem Inv.chill (I:Inv X pins σ H s) (e:H d=some (.dK kvs)):∃o,s.heap.get? d=some o/\Inv X pins σ (upd H d (.frz o (.dK kvs))) s:=by obtain⟨z,hd,vs,rel,o,es,ep,ho,r⟩:=(show dg X.prog X.w H s.heap d (.dK kvs) from I.hok d _ e);refine⟨o,ho,?_⟩;have:=I.write (x:=d) (e:=d) (o:=.frz o (.dK kvs)) (h':=s.heap) (t':=s.toks) (by rw [e];exact True.intro) (.inl rfl) (λb u _ q=>q) ⟨o,ho⟩ ⟨ho,z,hd,vs,rel,o,es,ep,ho,r⟩;exact this
theorem Inv.melt {o:Obj} (I:Inv X pins σ H s) (e:H d=some (.frz o (.dK kvs))) (h0:∀o u,X.H₀ d≠some (.frz o u)):Inv X pins σ (upd H d (.dK kvs)) s:=by
 have ne:∀b u,H b=some u->(∀o v,u≠.frz o v)->b≠d:=λb u q n z=>by rw [z,e] at q;exact n _ _ (Option.some.inj q).symm
 have no:∀b,H b=none->b≠d:=λb q z=>by rw [z,e] at q;cases q
 refine⟨I.ok,I.os,I.bare,⟨I.base.keep,I.base.slot,λb u q n hx=>?_,I.base.there,λb xs q=>?_,λb u v q=>?_,λb ps q=>?_⟩,I.loc,I.cell,?_,λy c q=>?_,λp h=>?_,λb u q=>?_,I.len⟩
 ·have z:=I.base.free b u q n hx;rw [aH (no b z)];exact z
 ·have z:=I.base.tups b xs q;rw [aH (ne b _ z (by intro _ _ w;cases w))];exact z
 ·have z:=I.base.frzs b u v q;rw [aH (λw=>by rw [w] at q;exact h0 _ _ q)];exact z
 ·obtain⟨m,z⟩:=I.base.tbls b ps q;exact⟨m,by rw [aH (ne b _ z (by intro _ _ w;cases w))];exact z⟩
 ·rw [aH (no _ I.free)];exact I.free
 ·rw [aH (no _ (I.freeC y c q))];exact I.freeC y c q
 ·obtain⟨z1,z2,r⟩:=I.pin p h;exact⟨z1,by rw [aH (no _ z2)];exact z2,r⟩
 ·by_cases w:b=d
  ·subst w;rw [az] at q;cases q;exact(I.hok b _ e).2
  ·rw [aH w] at q;exact(I.hok b u q).stay (λ_ _ _ z=>z) (λc z=>by rw [aH (ne c _ z (by intro _ _ w;cases w))];exact z) λc xs z=>by rw [aH (ne c _ z (by intro _ _ w;cases w))];exact z
end
inductive XR (H0 H H':Hp):Prop where
 | mk:∀d o kvs,H d=some (.frz o (.dK kvs))->((∀o u,H0 d≠some (.frz o u)))->H'=upd H d (.dK kvs)->XR H0 H H'
section
variable {X:Cx} {H0:Hp} {st:Stmt} {sts:List Stmt} {e:Expr} {t:TS} {te:TE}
theorem J1 (hH:X.H₀=H0) (h:PS X st t):PS X st (λD σ H=>t { D with nx:=λσ' H'=>∃H'',XR H0 H' H''/\D.nx σ' H'' } σ H):=by
 subst hH;intro pins s σ H D I hh;refine dC (h pins s σ H _ I hh) λf s1 q=>?_;cases f with
 | next=>obtain⟨σ',H',I',H'',⟨d,o,kvs,e,n,rfl⟩,q⟩:=q;exact⟨σ',_,I'.melt e n,q⟩
 | ret v=>exact q
 | brk=>exact q
 | cont=>exact q
theorem Vd (hH:X.H₀=H0) (h:PE X e te):PE X e (λσ H Q=>te σ H λv H1=>∃H2,XR H0 H1 H2/\Q v H2):=by subst hH;intro pins s σ H Q I hh;refine dC (h pins s σ H _ I hh) λu s1 q=>?_;obtain⟨v,H1,I1,r,H2,⟨d,o,kvs,e,n,rfl⟩,q⟩:=q;exact⟨v,_,I1.melt e n,r,q⟩
end
noncomputable def Yx (d:Addr) (o:Obj) (kvs:List (Key×V)):It:=
 ⟨λi H=>H d=some (.frz o (.dK kvs))/\i <kvs.length,λi H x H'=>H'=H/\∃k v,kvs[i]?=some (k,v)/\x=kV k,λi H=>H d=some (.frz o (.dK kvs))/\kvs.length<=i⟩
theorem Mw {P:Program} {w:World} {k:Key} {u:Value} (h:(cj P w).is k u=true):RelV (kV k) u:=by
 rcases dw (k:=k) (v:=u) h with ⟨i,t,rfl,rfl⟩ | ⟨x,t,rfl,rfl⟩
 ·exact⟨t,Z⟩
 ·exact⟨t,Z⟩
theorem K1:∀{kvs:List (Key×V)} {vs:List (Key×Value)} {i:Nat} {k:Key} {v:V},KV kvs vs->kvs[i]?=some (k,v)->∃v',vs[i]?=some (k,v')
 | _,_,0,k,v,.cons h _,e=>by cases (Option.some.inj e);exact⟨_,by rw [getElem?_cons_zero,show k=_ from h.1]⟩
 | _,_,i+1,k,v,.cons _ t,e=>by obtain⟨v',z⟩:=K1 (i:=i) (k:=k) (v:=v) t (by simpa using e);exact⟨v',by simpa using z⟩
theorem O7 {P:Program} {w:World} {K:Fr} {tg:Expr} {d it:Addr} {o:Obj} {kvs:List (Key×V)} {vs:List (Key×Value)} {ep:Nat} (rel:KV kvs vs) (hD:∀h:Heap,h.get? d=some o->h.DictAt (cj P w) d vs ep):
  Turn P w K tg (Yx d o kvs) [it] it (λi h=>h.IsKeyIter it d i vs.length ep) where
 mem:=by simp
 obj:=λi h st b hb=>by
  have e:b=it:=by simpa using hb
  subst e;obtain⟨o,e,c,d⟩:=st;exact⟨o,e,λv z=>by rw [d] at z;cases z⟩
 keep:=λi h h' st k=>st.at λo e=>k it (by simp) o e
 item:=by intro X hP hw hK hc i pins s σ H E I hf st hg;subst hP hw hK;obtain⟨hq,hi⟩:=hg;obtain⟨f0,f1,f2,f3,f4,f5⟩:=hf it (by simp);have ho:s.heap.get? d=some o:=(I.hok d _ hq).1;have hl:kvs.length=vs.length:=Paired.length rel;obtain⟨k,v,ek⟩:∃k v,kvs[i]?=some (k,v):=⟨_,_,getElem?_eq_getElem hi⟩;obtain⟨v',ev⟩:=K1 rel ek;refine wpAny_pyNext_dict_item st (hD _ ho) ev λkey h' hk st' sb=>?_;have I1:Inv X pins σ H { s with heap:=h' }:=I.turned (t':=s.toks) (λb o hb e=>(sb.2 b hb).trans e) f0 f1 f3 f4 f5;obtain⟨o',e,c,dd⟩:=id st';exact⟨key,rfl,Fw (s:={ s with heap:=h' }) e c dd (by decide) ⟨kV k,H,I1,Mw hk,⟨rfl,k,v,ek,rfl⟩,st',λb hb=>(hf b hb).1⟩⟩
 done:=by intro X hP hw hK hc i pins s σ H E I hf st hg;subst hP hw hK;obtain⟨hq,hi⟩:=hg;obtain⟨f0,f1,f2,f3,f4,f5⟩:=hf it (by simp);have ho:s.heap.get? d=some o:=(I.hok d _ hq).1;have hl:kvs.length=vs.length:=Paired.length rel;exact wpAny_pyNext_dict_end (I.ok.hd hc) st (hD _ ho) (getElem?_eq_none (by lia)) λh' eb=>⟨Z,I.turned (t':=s.toks) (λb o hb e=>eb b o hb e) f0 f1 f3 f4 f5⟩
 self:=λ_ _ _ _ _ st h=>wpAny_pyIter_keyiter st h
inductive SJ (R:It->Hp->Prop) (x:V) (H1:Hp):Prop where
 | mk:∀d kvs,x=.ref d->H1 d=some (.dK kvs)->(∀o,R (Yx d o kvs) (upd H1 d (.frz o (.dK kvs))))->SJ R x H1
noncomputable def ZQ (td:TE):TI:=λσ H R=>td σ H λx H1=>SJ R x H1
theorem HS {X:Cx} {tg l:Expr} {td:TE} (hl:PE X l td):PI X tg l (ZQ td):=by
 intro pins s σ H R I h;refine dC (hl pins s σ H _ I h) λv s1 hpt=>?_;obtain⟨x,H1,I1,r1,q1⟩:=hpt;obtain⟨d,kvs,e,ed,q⟩:=q1;subst e;cases r1;obtain⟨_,hd,vs,rel,o0,es,ep,ho0,r⟩:=(show dg X.prog X.w H1 s1.heap d (.dK kvs) from I1.hok d _ ed);obtain⟨o,ho,I2⟩:=I1.chill ed;obtain rfl:o0=o:=Option.some.inj (ho0.symm.trans ho);have hD:∀h:Heap,h.get? d=some o0->h.DictAt (cj X.prog X.w) d vs ep:=λh z=>⟨o0,es,z,r⟩;refine wpAny_pyIter_dict hd (hD _ ho) ?_;refine⟨s1.heap.objs.size,[s1.heap.objs.size],_,_,_,Z,I2.kept (t':=s1.toks) λb o e=>Heap.get?_push_of_some _ e,O7 rel hD,⟨_,Heap.get?_push_size _ Z,Z,Z⟩,λb hb=>?_,q o0⟩;have e:b=s1.heap.objs.size:=by simpa using hb
 subst e;exact I2.fpOk (le_refl _) (I2.hok.fresh (le_refl _))
theorem Jt {d:Addr} {o:Obj} {kvs:List (Key×V)} {g:TG} {tb:TS} {D:Ends} {σ:St} {H:Hp} (Pv:Nat->St->Hp->Prop) (h0:Pv 0 σ H) (hl:∀i σ H,i<=kvs.length->Pv i σ H->H d=some (.frz o (.dK kvs)))
  (hs:∀i k v σ H,kvs[i]?=some (k,v)->Pv i σ H->g (kV k) σ H λσ2 H2=>tb { D with nx:=Pv (i+1),ct:=Pv (i+1),bk:=D.nx } σ2 H2) (hd:∀σ H,Pv kvs.length σ H->D.nx σ H):
  ∃W:Nat->Nat->St->Hp->Prop,(∃m,W 0 m σ H)/\∀i m σ H,W i m σ H->
   ((Yx d o kvs).stop i H/\D.nx σ H)∨((Yx d o kvs).go i H/\∃N:St->Hp->Prop,(∀σ' H',N σ' H'->∃m',m' <m/\W (i+1) m' σ' H')/\∀x H',(Yx d o kvs).yld i H x H'->g x σ H' λσ2 H2=>tb { D with nx:=N,ct:=N,bk:=D.nx } σ2 H2):=by
 refine⟨λi m σ H=>m=kvs.length - i/\i<=kvs.length/\Pv i σ H,⟨kvs.length,by simp,zero_le _,h0⟩,?_⟩;rintro i m σ H ⟨rfl,hi,p⟩;have q:=hl i σ H hi p;by_cases hlt:i <kvs.length
 ·refine .inr ⟨⟨q,hlt⟩,Pv (i+1),λσ' H' p'=>⟨kvs.length - (i+1),by lia,Z,hlt,p'⟩,λx H' y=>?_⟩;obtain⟨rfl,k,v,ek,rfl⟩:=y;exact hs i k v σ _ ek p
 ·obtain rfl:i=kvs.length:=by lia
  exact .inl ⟨⟨q,le_refl _⟩,hd σ H p⟩
theorem PB {js:List Nat} {tt:TT} {te:TE} {σ:St} {Qd:List V->Hp->Prop} {d:Addr} {o:Obj} {kvs:List (Key×V)} {H:Hp} (Pv:Nat->List V->Hp->Prop) (hn:kvs.length<=sizeLine) (h0:Pv 0 [] H) (hl:∀i ys H,Pv i ys H->ys.length<=i) (hq:∀i ys H,i<=kvs.length->Pv i ys H->H d=some (.frz o (.dK kvs)))
  (hs:∀i k v ys H,kvs[i]?=some (k,v)->Pv i ys H->tt (some (kV k):: dW σ js) H λb H4=>if b=true then te (some (kV k):: dW σ js) H4 λy H5=>Pv (i+1) (ys ++ [y]) H5 else Pv (i+1) ys H4)
  (hd:∀ys H,Pv kvs.length ys H->Qd ys H):CompEnd js tt te σ Qd (Yx d o kvs) H:=by
 refine⟨λi m ys H=>m=kvs.length - i/\i<=kvs.length/\Pv i ys H,⟨kvs.length,by simp,zero_le _,h0⟩,?_⟩;rintro i m ys H ⟨rfl,hi,p⟩;have hlen:=hl i ys H p;have q:=hq i ys H hi p;by_cases hlt:i <kvs.length
 ·refine .inr ⟨⟨q,hlt⟩,by lia,Pv (i+1),λys' H' p'=>⟨kvs.length - (i+1),by lia,Z,hlt,p'⟩,λx H' y=>?_⟩;obtain⟨rfl,k,v,ek,rfl⟩:=y;exact hs i k v ys _ ek p
 ·obtain rfl:i=kvs.length:=by lia
  exact .inl ⟨⟨q,le_refl _⟩,by lia,hd ys H p⟩
theorem zB:∀{xs:List V} {us:List Value},us.length=xs.length->(∀(j:Nat) x u,xs[j]?=some x->us[j]?=some u->RelV x u)->Vals xs us
 | [],[],_,_=>.nil
 | [],_:: _,h,_=>by simp at h
 | _:: _,[],h,_=>by simp at h
 | x:: xs,u:: us,h,r=>.cons (r 0 x u rfl rfl) (zB (by simpa using h) λj y v h1 h2=>r (j+1) y v (by simpa using h1) (by simpa using h2))
theorem mZ {X:Cx} (hc:X.calm=true):jj X (.type "list") (λxs H Q=>∃d kvs,xs=[.ref d]/\Rd H d (.dK kvs)/\∀l,H l=none->Q (.ref l) (upd H l (.lst (kvs.map λp=>kV p.1)))):=by intro pins s σ H xs us Q I rx h;obtain⟨d,kvs,rfl,hr,q⟩:=h;obtain⟨u,rfl,ru⟩:=vals1 rx;cases ru;obtain⟨z,hd,vs,rel,dd⟩:=Gg I.hok hr;obtain⟨ep,da⟩:=dd.dictAt;have hl:kvs.length=vs.length:=Paired.length rel;refine PySem.W.kdl_call (PySem.W.kdl_dict (knd:=cj X.prog X.w) (kvs:=vs) (ep:=ep) hd) (I.ok.hd hc) da (by lia) λh' tk acc' c' kp e' hi=>?_;refine⟨.ref s.heap.objs.size,_,I.laid (t':=tk) kp (le_refl _) (show dg X.prog X.w _ h' _ (.lst (kvs.map λp=>kV p.1)) from⟨by rw [length_map];exact z,acc'.toList,c',zB (by rw [Array.length_toList,hi.1,length_map,hl]) λj x u hx hu=>?_,by simpa using e'⟩),rfl,q _ (I.hok.fresh (le_refl _))⟩;obtain⟨k,v,hkv,hk⟩:=hi.2 j u (by rw [<-Array.getElem?_toList];exact hu);rw [getElem?_map] at hx;obtain⟨p,hp,rfl⟩:=map_eq_some_iff.mp hx;obtain⟨v',hv'⟩:=K1 rel (k:=p.1) (v:=p.2) hp;rw [hkv] at hv';cases hv';exact Mw hk
section
variable {X:Cx} {pins:List (Addr×Obj)} {σ:St} {H:Hp} {s:Shared}
end
section
variable {X:Cx} {tg:Expr}
end
theorem gJ.u1 {k:Nat} {A:Around} (r:gJ k A):A.units+1 <cLine:=by have:=r.units;lia
theorem Ng:bootBuiltins "dict" =some (.type "dict"):=by decide +kernel
section
variable {prog:Program} {w:World} {A:Around} {E:Value->Shared->Prop} {s:Shared}
end
theorem gJ.u100 {k:Nat} {A:Around} (r:gJ k A):A.units+100 <cLine:=by have:=r.un;lia
theorem GR {X:Cx} {K:Fr} {e:Expr} {f:Str} {pos:Pos} {ta:TE} (hK:X.K=K) (he:PE X e ta) (hb:attributeBase e f X.env (eval e X.env)=eval e X.env):PE X (.Attribute e f pos) (Xm K ta f):=by subst hK;exact bJ he hb
theorem En {X:Cx} {K:Fr} (hK:X.K=K):vU X (compareOp .NotIn) (rIn K true):=by subst hK;exact jK
section
variable {X:Cx} {P:Program} {w:World} {K:Fr} {mg:Str->Option Value} {base:Heap} {CX:Dp} {k:Nat} {E:XK} {m:Str} {pos apos:Pos} {e o:Expr} {es:List Expr} {ta:TE} {t:TA}
theorem K4 {pl:Sem Bool} (hP:X.prog=P) (hw:X.w=w) (hK:X.K=K) (hm:X.mg=mg) (hb:X.base=base) (he:PE X o ta) (hr:gJ k X.A) (hx:j7 CX X E)
  (ht:eval (.Call (.Attribute o m apos) [] [] pos) X.env=(do
   let ov <-eval o X.env
   standAt apos.atName
   let (f,first) <-holding [ov] (getMethod ov m pl)
   callWith pos f first (backTo pos (starEach [] X.env)) (backToKw pos (keywordEach [] X.env))):=by rfl):
  PE X (.Call (.Attribute o m apos) [] [] pos) (Mu P w K mg base CX k m E ta Lf):=by
 subst hP hw hK hm hb;exact Ff he hr hx ht
end
section
variable {prog:Program} {w:World} {A:Around} {R:Result->Shared->Prop} {s:Shared}
theorem Y0 {elt tg iter:Expr} {ifs:List Expr} {scope:Scope} {pos:Pos} {it acc:Value} {env:Env} (J:Nat->Shared->Prop)
  (turn:∀k s1,J k s1->wpAny (model prog w) A (pyNext it) (λr s2=>match r with
   | none=>R (.ok .next) s2
   | some v=>wpAny (model prog w) A (letOwnedTupleGo tg it v) (λ_ s3=>wpAny (model prog w) A (assign tg env v) (λ_ s4=>
     wpAny (model prog w) A (forIn ifs true λc r=>if r=true then do let ok <-isTrue c env (eval c env);pure (ForInStep.yield ok) else pure (ForInStep.yield r)) (λok s5=>
      if ok=true then wpAny (model prog w) A (eval elt env) (λy s6=>wpAny (model prog w) A (call (.builtin "list.append") [acc,y]) (λ_ s7=>∃m,m <k/\J m s7) (notedBy (model prog w) A env λe s'=>R (.error e) s') s6)
       (notedBy (model prog w) A env λe s'=>R (.error e) s') s5
      else ∃m,m <k/\J m s5) (notedBy (model prog w) A env λe s'=>R (.error e) s') s4) (notedBy (model prog w) A env λe s'=>R (.error e) s') s3) (notedBy (model prog w) A env λe s'=>R (.error e) s') s2)
   (notedBy (model prog w) A env λe s'=>R (.error e) s') s1)
  (k:Nat) (h:J k s):codeAny (model prog w) A (.compLoop (.ListComp elt [⟨tg,iter,ifs,0⟩] scope pos) 0 it acc env) R s:=by
 refine codeAny_loop Z J (λk s1 hJ=>?_) k h;show wpAny _ A ((compTurn (.ListComp elt [⟨tg,iter,ifs,0⟩] scope pos) 0 it acc env).onRaise (λe=>do noteFrame e env;theTreesLotGoes e)) _ _ s1;refine wpAny_noted ?_;rw [compTurn_list];refine wpAny_bind (wpAny_standAt (wpAny_bind (wpAny_mono (turn k s1 hJ) (λr s2 h2=>?_) λ_ _ z=>z)));cases r with
 | none=>exact wpAny_pure h2
 | some v=>
  refine wpAny_bind (wpAny_mono h2 (λ_ s3 h3=>wpAny_bind (wpAny_mono h3 (λ_ s4 h4=>wpAny_bind (wpAny_mono h4 (λok s5 h5=>?_) λ_ _ z=>z)) λ_ _ z=>z)) λ_ _ z=>z);cases ok with
  | false=>exact wpAny_pure ⟨rfl,h5⟩
  | true=>exact wpAny_bind (wpAny_bind (wpAny_mono h5 (λy s6 h6=>wpAny_bind (wpAny_mono h6 (λ_ s7 h7=>wpAny_pure (wpAny_pure ⟨rfl,h7⟩)) λ_ _ z=>z)) λ_ _ z=>z))
end
section
variable {X:Cx} {tg:Expr} {g:TG} {pos:Pos} {iter elt:Expr} {ifs:List Expr} {scope:Scope} {wi:TI} {tt:TT} {te:TE}
end
theorem Qa {X:Cx} (hc:X.calm=true):jj X (.builtin "min") (λxs H Q=>∃(p:Addr) (a b:Int),xs=[.ref p]/\bT X.K H p [.int a,.int b]/\Q (.int (if b <a then b else a)) H):=by
 intro pins s σ H xs us Q I r h;obtain⟨p,a,b,rfl,hq,q⟩:=h;obtain⟨u,rfl,rx⟩:=vals1 r;cases rx;obtain⟨its,rv,pl,_⟩:=I.list hq;obtain⟨v1,v2,rfl,⟨t1,rfl⟩,⟨t2,rfl⟩⟩:=vals2 rv;have hl:s.heap.IsList p (intItems #[(a,t1),(b,t2)]):=by simpa [intItems] using pl.isList
 refine min_intList (I.ok.hd hc) hl (by simp) λv h' tk hv hk=>?_;obtain⟨t,rfl⟩:=intItems_at hv;obtain⟨h1,h2⟩:=argBest_lt (numAt #[(a,t1),(b,t2)]) (#[(a,t1),(b,t2)].size - 1);have h1':argBest (λi j=>decide (numAt #[(a,t1),(b,t2)] i <numAt #[(a,t1),(b,t2)] j)) (#[(a,t1),(b,t2)].size - 1)<=1:=h1;have ha:_<=a:=h2 0 (zero_le _);have hb:_<=b:=h2 1 (by simp);generalize argBest (λi j=>decide (numAt #[(a,t1),(b,t2)] i <numAt #[(a,t1),(b,t2)] j)) (#[(a,t1),(b,t2)].size - 1)=k at h1' ha hb ⊢;refine⟨.int (numAt #[(a,t1),(b,t2)] k),H,I.kept hk,⟨_,Z⟩,?_⟩;have e:numAt #[(a,t1),(b,t2)] k=if b <a then b else a:=by
  match k,h1',ha,hb with
  | 0,_,_,hb=>
   have hb':a<=b:=hb;rw [if_neg (by lia)];rfl
  | 1,_,ha,_=>
   have ha':b<=a:=ha;show b=_;by_cases z:b <a
   ·rw [if_pos z]
   ·rw [if_neg z];lia
 rw [e];exact q
theorem Ot {X:Cx} (hc:X.calm=true):jj X (.builtin "max") (λxs H Q=>∃(p:Addr) (a b:Int),xs=[.ref p]/\bT X.K H p [.int a,.int b]/\Q (.int (if b <a then a else b)) H):=by
 intro pins s σ H xs us Q I r h;obtain⟨p,a,b,rfl,hq,q⟩:=h;obtain⟨u,rfl,rx⟩:=vals1 r;cases rx;obtain⟨its,rv,pl,_⟩:=I.list hq;obtain⟨v1,v2,rfl,⟨t1,rfl⟩,⟨t2,rfl⟩⟩:=vals2 rv;have hl:s.heap.IsList p (intItems #[(a,t1),(b,t2)]):=by simpa [intItems] using pl.isList
 refine max_intList (I.ok.hd hc) hl (by simp) λv h' tk hv hk=>?_;obtain⟨t,rfl⟩:=intItems_at hv;obtain⟨h1,h2⟩:=argBest_gt (numAt #[(a,t1),(b,t2)]) (#[(a,t1),(b,t2)].size - 1);have h1':argBest (λi j=>decide (numAt #[(a,t1),(b,t2)] i >numAt #[(a,t1),(b,t2)] j)) (#[(a,t1),(b,t2)].size - 1)<=1:=h1;have ha:a<=_:=h2 0 (zero_le _);have hb:b<=_:=h2 1 (by simp);generalize argBest (λi j=>decide (numAt #[(a,t1),(b,t2)] i >numAt #[(a,t1),(b,t2)] j)) (#[(a,t1),(b,t2)].size - 1)=k at h1' ha hb ⊢;refine⟨.int (numAt #[(a,t1),(b,t2)] k),H,I.kept hk,⟨_,Z⟩,?_⟩;have e:numAt #[(a,t1),(b,t2)] k=if b <a then a else b:=by
  match k,h1',ha,hb with
  | 0,_,_,hb=>
   have hb':b<=a:=hb;show a=_;by_cases z:b <a
   ·rw [if_pos z]
   ·rw [if_neg z];lia
  | 1,_,ha,_=>
   have ha':a<=b:=ha;rw [if_neg (by lia)];rfl
 rw [e];exact q
theorem UT {X:Cx} {K:Fr} {es:List Expr} {k:Nat} {pos:Pos} {t:Ue} {n:Nat} (hK:X.K=K) (hc:X.calm=true) (h:Z7 X es t)
  (hn:(assignEach es X.env).length=n:=by rfl) (hst:(assignEach es X.env).findIdx? (·.1)=none:=by rfl):PG X (.Tuple es k pos) (Za K n t):=by
 subst hK;exact LK hc h hn hst
noncomputable def qO (X:Cx) (scope:Scope) (xs:List Str) (js:List Nat) (cl:List (Str×Addr)) (C:Addr) (s:Shared) (H:Hp) (ex:List Addr):Cx where
 prog:=X.prog
 w:=X.w
 K:=X.K
 mg:=X.mg
 base:=X.base
 A:=X.A
 N:=xs ++ dR X.N js
 s₀:=s
 H₀:=H
 env:=compEnvC scope cl C X.env
 outer:=X.stack
 stack:=X.stack
 ex:=ex
 fn:=λ_=>false
 calm:=X.calm
 pn:=[]
 xe:=λ_ _=>False
noncomputable def DR (xs:List Str) (js:List Nat) (σ:St) (g:TG) (tt:TT) (te:TE) (Qd:List V->Hp->Prop) (J:It) (H1:Hp):Prop:=∃W:Nat->Nat->List V->Hp->Prop,(∃m,W 0 m [] H1)/\∀i m ys H2,W i m ys H2->
 (J.stop i H2/\ys.length<=sizeLine/\Qd ys H2)∨
 (J.go i H2/\ys.length <sizeLine/\∃N:List V->Hp->Prop,(∀ys' H',N ys' H'->∃m',m' <m/\W (i+1) m' ys' H')/\∀x H3,J.yld i H2 x H3->g x ((xs.map λ_=>none) ++ dW σ js) H3 λσ2 H4=>σ2.drop xs.length=dW σ js/\tt σ2 H4 λb H5=>
  if b=true then te σ2 H5 λy H6=>N (ys ++ [y]) H6 else N ys H5)
noncomputable def Yi (xs:List Str) (js:List Nat) (wi:TI) (g:TG) (tt:TT) (te:TE):TE:=λσ H Q=>wi σ H (DR xs js σ g tt te λys H2=>∀D,H2 D=none->Q (.ref D) (upd H2 D (.lst ys)))
section
variable {X:Cx} {tg:Expr} {g:TG} {pos:Pos} {iter elt:Expr} {ifs:List Expr} {scope:Scope} {wi:TI} {tt:TT} {te:TE}
theorem zH (xs:List Str) (js:List Nat) {pins:List (Addr×Obj)} {σ:St} {s:Shared} {itv:Value} {Q:List V->Hp->Prop} {RR:Value->Addr->Result->Shared->Prop} {E:Value->Shared->Prop}
  (hc:X.calm=true) (hk:scope.kind=.function) (hcell:∀y∈scope.names,y.2≠.cell)
  (hfree:∀y∈scope.names,y.2=.free->X.env.kindOf y.1=some .cell∨X.env.kindOf y.1=some .free)
  (hg:∀cl C s H ex,PG (qO X scope xs js cl C s H ex) tg g)
  (hif:∀cl C s H ex,PF (qO X scope xs js cl C s H ex) ifs tt) (he:∀cl C s H ex,PE (qO X scope xs js cl C s H ex) elt te)
  (hjs:∀y∈dR X.N js,scope.names.lookup y=some .free) (hit:PIE X pins σ tg (DR xs js σ g tt te Q) itv s)
  (hR:∀D C s' H2 ys m,Inv X pins σ (upd H2 D (.lst ys)) s'->H2 D=none->s'.heap.Ns C m->(∀h',Heap.SameBut C s'.heap h'->Inv X pins σ (upd H2 D (.lst ys)) { s' with heap:=h' })->GK X pins (upd H2 D (.lst ys)) C->C≠D->Q ys H2->RR (.ref D) C (.ok .next) s'):
  wpAny (model X.prog X.w) X.A (newList []) (λacc s₃=>wpAny (model X.prog X.w) X.A (newFunctionEnv scope X.env.globals (clos X.env scope.names []) [] X.env.qual none .none (some X.env)) (λcenv s₄=>
   codeAny (model X.prog X.w) X.A (.compStart (.ListComp elt [⟨tg,iter,ifs,0⟩] scope pos) 0 itv acc { cenv with scope:=relabel scope X.env }) (RR acc cenv.locals) s₄) E s₃) E s:=by
 obtain⟨it,fp,tn,J,H1,rfl,I1,T,st1,f1,W,⟨m0,w0⟩,turn⟩:=hit;refine wpAny_newObj_type (wpAny_newFunctionEnv hcell (by intro y hy;simp at hy) (λh₁ hns₁ hsb₁=>?_) hk);dsimp only at hns₁ hsb₁ ⊢;generalize hH2:s.heap.push { cls:=.type "list",dict:=none,data:=.seq ([]:List Value).toArray }=Hl at hns₁ hsb₁ ⊢;generalize hDe:s.heap.objs.size=D;have hCe:Hl.objs.size=D+1:=by rw [<-hH2,Heap.size_push,hDe]
 generalize hC:Hl.objs.size=C at hns₁ hsb₁ hCe ⊢;subst hCe;have hDC:D≠D+1:=ne_of_lt (Nat.lt_succ_self _);have lt:∀b o,s.heap.get? b=some o->b <D:=λb o e=>hDe ▸ Heap.lt_size e;have old:∀b o,s.heap.get? b=some o->h₁.get? b=some o:=λb o e=>by have hb:=lt b o e;refine hsb₁.extBut b o (ne_of_lt (lt_succ_of_lt hb)) (Heap.get?_push_of_some _ ?_);rw [<-hH2];exact Heap.get?_push_of_some _ e
 have accD:h₁.get? D=some { cls:=.type "list",dict:=none,data:=.seq ([]:List Value).toArray }:=by refine hsb₁.extBut _ _ hDC (Heap.get?_push_of_some _ ?_);rw [<-hH2,<-hDe];exact Heap.get?_push_size _ rfl
 have fresh:∀a,D<=a->H1 a=none:=λa ha=>I1.hok.fresh (by rw [hDe];exact ha);have fpD:∀b∈fp,b <D:=λb hb=>by obtain⟨o,e,_⟩:=T.obj 0 s.heap st1 b hb;exact lt b o e
 have cellD:∀y c,X.env.cells.lookup y=some c->c <D:=λy c e=>by obtain⟨v,q⟩:=I1.cell y c e;exact hDe ▸ q.lt
 generalize hcl:clos X.env scope.names []=cl;have clsub:∀y c,cl.lookup y=some c->X.env.cells.lookup y=some c:=by rw [<-hcl];exact Kl scope.names [] λy a e=>by simp at e
 have frD:∀b∈frs X.stack,b <D:=λb hb=>by obtain⟨_,o,ho,_⟩:=I1.stack.mem hb;exact lt b o ho
 let Y:Cx:=qO X scope xs js cl (D+1) s H1 fp
 have kinds:∀y,Y.env.kindOf y=some .cell∨Y.env.kindOf y=some .free->∃k∈scope.names,k.1=y/\k.2=.free:=λy hy=>by
  have hy':(relabel scope X.env).names.lookup y=some .cell∨(relabel scope X.env).names.lookup y=some .free:=hy;rw [uq] at hy';cases q:scope.names.lookup y with
  | none=>rw [q] at hy';simp at hy'
  | some k=>
   have hm:=PySem.mem_of_lookup q;refine⟨(y,k),hm,Z,?_⟩;have h1:k≠.cell:=hcell _ hm;rw [q] at hy';simp only [map_some,Option.some.injEq] at hy';by_cases hkf:k=.free
   ·exact hkf
   ·have:(k == NameKind.free)=false:=by simpa using hkf
    simp only [this,Bool.false_and,Bool.false_eq_true,if_false] at hy';rcases hy' with e | e
    ·exact absurd e h1
    ·exact absurd e hkf
 have okY:Y.Ok:=by
  refine⟨I1.ok.mod,hk,I1.ok.glob,I1.ok.blt,(by show s.heap.objs.size<=D+1;rw [hDe];exact le_succ _),λy z c h1 h2=>I1.ok.inj y z c (clsub y c h1) (clsub z c h2),λy hy=>?_,λy c h _=>absurd h (by show ¬(false=true);decide),I1.ok.hd,I1.ok.frames,.inl rfl,λb hb=>⟨ne_of_lt (lt_succ_of_lt (fpD b hb)),λy c e z=>(f1 b hb).2.2.2.2.1 y c (clsub y c e) z⟩,
   λb o e=>I1.bs b o e,le_trans I1.ok.bsz I1.sz,λb o e hb=>?_,λb hb hf=>?_,I1.stack,I1.stkFree⟩
  ·obtain⟨k,hm,e1,e2⟩:=kinds y hy;show ∃c,cl.lookup y=some c;rw [<-hcl];refine CK scope.names [] y (.inr ⟨k,hm,e1,e2,?_⟩);have:=hfree k hm e2;rw [e1] at this;exact I1.ok.has y this
  ·obtain⟨_,_,_,h4,_,_⟩:=f1 b hb;rcases h4 with z | z
   ·exact I1.ok.noex b o e z
   ·exact absurd (lt_of_lt_of_le (Heap.lt_size e) (le_trans I1.ok.bsz z)) (lt_irrefl _)
  ·rcases mem_cons.mp (I1.stkSub b hf) with z | z
   ·exact(f1 b hb).2.1 z
   ·exact(f1 b hb).2.2.1 z
 let σ0:St:=(xs.map λ_=>none) ++ dW σ js
 have IY:Inv Y [] σ0 H1 { s with heap:=h₁,toks:=s.toks+([]:List (Str×Value)).length }:=by
  refine⟨okY,Z,I1.bare,Un.kept old,⟨_,hns₁,λi y v e1 e2 e3=>?_⟩,λy c e=>?_,fresh _ (le_succ _),λy c e=>I1.freeC y c (clsub y c e),λp hp=>absurd (show p∈([]:List (Addr×Obj)) from hp) (by simp),I1.hok.kept old,?_⟩
  ·by_cases hi:i <xs.length
   ·exfalso;have e2':((xs.map λ_=>(none:Option V)) ++ dW σ js)[i]?=some (some v):=e2;rw [List.getElem?_append_left (by rw [length_map];exact hi),getElem?_map,getElem?_eq_getElem hi] at e2';cases e2'
   ·have e1':(xs ++ dR X.N js)[i]?=some y:=e1;have e2':((xs.map λ_=>(none:Option V)) ++ dW σ js)[i]?=some (some v):=e2;rw [List.getElem?_append_right (by lia)] at e1';rw [List.getElem?_append_right (by rw [length_map];lia),length_map] at e2';generalize i - xs.length=i at e1' e2';unfold dR at e1';unfold dW at e2';rw [getElem?_map] at e1' e2';cases q:js[i]? with
    | none=>rw [q] at e1';cases e1'
    | some j=>
     rw [q] at e1' e2';simp only [map_some,Option.some.injEq] at e1' e2';have hv:σ[j]?=some (some v):=by
      cases z:σ[j]? with
      | none=>rw [z] at e2';cases e2'
      | some w=>rw [z] at e2';simpa using e2'
     have hj:j <X.N.length:=by rw [<-I1.len];exact(List.getElem?_eq_some_iff.mp hv).1
     have hy:X.N[j]?=some y:=by rw [getElem?_eq_getElem hj] at e1' ⊢;rw [<-e1'];rfl
     obtain⟨m,hn,hl⟩:=I1.loc;have hmem:y∈dR X.N js:=mem_map.mpr ⟨j,mem_of_getElem? q,by rw [hy];rfl⟩;have hfr:=hjs y hmem;have hkx:=hfree _ (PySem.mem_of_lookup hfr) rfl;have hvis:Zn X.env.scope y:=hkx.elim (λz=>.inr (.inl z)) λz=>.inr (.inr z);obtain⟨u,r,l⟩:=hl j y v hy hv hvis;refine⟨u,r,?_⟩;rcases l with ⟨kl,_⟩ | ⟨_,c,hc1,z⟩
     ·exfalso;have kl':X.env.kindOf y=some .local:=kl;rcases hkx with w | w <;> · rw [show X.env.kindOf y=_ from w] at kl';cases kl'
     ·obtain⟨c',hc'⟩:=CK (env:=X.env) scope.names [] y (.inr ⟨_,PySem.mem_of_lookup hfr,rfl,rfl,c,hc1⟩);rw [hcl] at hc';have e4:=clsub y c' hc';rw [hc1] at e4;cases e4;obtain⟨o,ho,hd⟩:=z;refine .inr ⟨?_,c,hc',o,old c o ho,hd⟩;rcases e3 with e3 | e3 | e3
      ·exfalso;have e3':(relabel scope X.env).names.lookup y=some .local:=e3;rw [uq,hfr] at e3';simp only [map_some,Option.some.injEq] at e3';split at e3' <;> cases e3'
      ·exact .inl e3
      ·exact .inr e3
  ·obtain⟨v,q⟩:=I1.cell y c (clsub y c e);obtain⟨o,ho,hd⟩:=q;exact⟨v,o,old c o ho,hd⟩
  ·show((xs.map λ_=>(none:Option V)) ++ dW σ js).length=(xs ++ dR X.N js).length;unfold dW dR;rw [length_append,length_append,length_map,length_map,length_map]
 have mkR:∀(s':Shared) (H2:Hp) (ys:List V) (its:List Value) (σ':St),Inv Y [] σ' H2 s'->s'.heap.PlainList D its.toArray->Vals ys its->ys.length<=sizeLine->H2 D=none->Q ys H2->RR (.ref D) (D+1) (.ok .next) s':=by
  intro s' H2 ys its σ' I' pl rv hz hD hq;obtain⟨m,hn,_⟩:=I'.loc;have hn':s'.heap.Ns (D+1) m:=hn;have hCn:H2 (D+1)=none:=I'.free;have hch:∀b∈fp,(b∈X.ex∨X.s₀.heap.objs.size<=b)/\b≠X.env.locals/\(∀x c,X.env.cells.lookup x=some c->c≠b)/\∀p∈X.pn ++ pins,p.1≠b:=λb hb=>by obtain⟨_,h2,_,h4,h5,h6⟩:=f1 b hb;exact⟨h4,h2,h5,h6⟩
  have bs:Un (frs X.stack) fp H1 H2 s.heap s'.heap:=I'.base;have all:∀h',Heap.SameBut (D+1) s'.heap h'->Inv X pins σ (upd H2 D (.lst ys)) { s' with heap:=h' }:=λh' sb=>by
   have neD:∀b o,s.heap.get? b=some o->b≠D:=λb o e=>ne_of_lt (lt b o e);have neC:∀b o,s.heap.get? b=some o->b≠D+1:=λb o e=>ne_of_lt (lt_succ_of_lt (lt b o e));refine I1.call' (s':={ s' with heap:=h' }) (ch:=fp) I'.os ⟨λb o e n hb hx=>?_,λb o e n hb hx=>?_,λb o e n hx=>?_,λb o e hx=>?_,λb xs e=>?_,λb o u e=>?_,λb ps e=>?_⟩ ?_ I'.bare hch
   ·exact(sb.2 b (neC b o e)).trans (bs.keep b o e n hb hx)
   ·obtain⟨sl,q⟩:=bs.slot b o e n hb hx;exact⟨sl,(sb.2 b (neC b o e)).trans q⟩
   ·rw [aH (neD b o e)];exact bs.free b o e n hx
   ·obtain⟨o',q⟩:=bs.there b o e hx;exact⟨o',(sb.2 b (neC b o e)).trans q⟩
   ·have:=bs.tups b xs e;rw [aH (aF this hD)];exact this
   ·have:=bs.frzs b o u e;rw [aH (aF this hD)];exact this
   ·obtain⟨more,q⟩:=bs.tbls b ps e;exact⟨more,by rw [aH (aF q hD)];exact q⟩
   ·have h0:rT X.prog X.w H2 h':=λb u e=>(I'.hok b u e).stay (λc v hc q=>(sb.2 c (by
     rintro rfl;rcases hc with z | z
     ·rw [z,e] at hCn;cases hCn
     ·rw [z] at hCn;cases hCn)).trans q) (λ_ q=>q) λ_ _ q=>q
    refine FQ h0 hD ?_;obtain⟨n,e⟩:=pl;exact⟨hz,its,n,rv,(sb.2 D hDC).trans e⟩
  have hall:=all s'.heap (.refl ..);refine hR D (D+1) s' H2 ys m hall hD hn' all ?_ hDC.symm hq;refine⟨by rw [aH hDC.symm];exact hCn,?_,?_,.inr (le_trans I1.sz (by rw [hDe];exact le_succ _)),λy c e z=>?_,λp hp z=>?_⟩
  ·exact ne_of_gt (Nat.lt_trans (hDe ▸ I1.lt) (Nat.lt_succ_self _))
  ·exact I1.nofs (by rw [hDe];exact le_succ _)
  ·exact absurd z (ne_of_lt (lt_succ_of_lt (cellD y c e)))
  ·exact absurd z (ne_of_lt (lt_succ_of_lt (lt _ _ (I1.pin p hp).1)))
 have loop:∀s₃:Shared,s₃={ s with heap:=h₁,toks:=s.toks+([]:List (Str×Value)).length }->
   codeAny (model X.prog X.w) X.A (.compLoop (.ListComp elt [⟨tg,iter,ifs,0⟩] scope pos) 0 (.ref it) (.ref D) Y.env) (RR (.ref D) (D+1)) s₃:=by
  rintro s₃ rfl;have stat:∀{H':Hp} {ob:Obj},(∀b∈fp,H' b=none)->∀b∈fp,GK Y [(D,ob)] H' b:=λ{H'} {ob} hn b hb=>by
   refine⟨hn b hb,ne_of_lt (lt_succ_of_lt (fpD b hb)),λhf=>okY.exfs b hb hf,.inl hb,λy c e=>(okY.exf b hb).2 y c e,λp hp z=>?_⟩;have hp':p∈[(D,ob)]:=hp;have e:p=(D,ob):=by simpa using hp'
   rw [e] at z;exact absurd z (Ne.symm (ne_of_lt (fpD b hb)))
  refine Y0 (λn s'=>∃i ys its H',∃ob:Obj,Inv Y [(D,ob)] σ0 H' s'/\(∃n,ob={ cls:=.type "list",data:=.seq its.toArray n })/\Vals ys its/\H' D=none/\tn i s'.heap/\(∀b∈fp,H' b=none)/\W i n ys H') ?_ m0
   ⟨0,[],[],H1,{ cls:=.type "list",dict:=none,data:=.seq ([]:List Value).toArray },?_,⟨_,rfl⟩,.nil,fresh _ (le_refl _),T.keep _ _ _ st1 λb _ o e=>old b o e,λb hb=>(f1 b hb).1,w0⟩
  ·rintro n s3 ⟨i,ys,its,H3,ob,I3,⟨cap,rfl⟩,rv,hD,st3,fr3,w3⟩;rcases turn i n ys H3 w3 with ⟨stop,hz,hq⟩ | ⟨go,hz,N,hN7,step⟩
   ·refine wpAny_mono (T.done Y Z Z Z hc i _ s3 σ0 H3 (λ_ _=>False) I3 (stat fr3) st3 stop) (λr s4 ⟨hr,I4⟩=>?_) λ_ _ f=>f.elim;subst hr;exact mkR s4 H3 ys its σ0 (I4.pins_of λp hp=>absurd hp (by simp)) ⟨cap,(I4.pin _ (mem_append_right _ mem_cons_self)).1⟩ rv hz hD hq
   ·refine wpAny_mono (T.item Y Z Z Z hc i _ s3 σ0 H3 (λ_ _=>False) I3 (stat fr3) st3 go) (λr s4 ⟨u,hr,h4⟩=>?_) λ_ _ f=>f.elim;subst hr;refine wpAny_mono h4 (λ_ s4 ⟨xv,H5,I5,r5,y5,st5,fr5⟩=>?_) λ_ _ f=>f.elim;have I5':=I5.pinned (stat fr5) (T.obj _ _ st5);refine wpAny_mono (hg cl (D+1) s H1 fp _ _ σ0 H5 xv u _ I5' r5 (step xv H5 y5)) (λ_ s6 ⟨σ6,H6,I6,hσ6,q6⟩=>?_) λ_ _ f=>False.elim f;have again:∀{s7:Shared} {H7:Hp} {ys7:List V} {its7:List Value} {cap7:Nat} {pl:List (Addr×Obj)},Inv Y ([(D,{ cls:=.type "list",data:=.seq its7.toArray cap7 })] ++ pl) σ6 H7 s7->(∀b∈fp,∀o,s4.heap.get? b=some o->s7.heap.get? b=some o/\H7 b=none)->Vals ys7 its7->(∃m',m' <n/\W (i+1) m' ys7 H7)->
      ∃m,m <n/\∃i ys its H',∃ob:Obj,Inv Y [(D,ob)] σ0 H' s7/\(∃n,ob={ cls:=.type "list",data:=.seq its.toArray n })/\Vals ys its/\H' D=none/\tn i s7.heap/\(∀b∈fp,H' b=none)/\W i m ys H':=by
     intro s7 H7 ys7 its7 cap7 pl I7 kf rv7 ⟨m',hm,w7⟩;refine⟨m',hm,i+1,ys7,its7,H7,_,I7.unpinned.weak (by rw [I7.len];show((xs.map λ_=>(none:Option V)) ++ dW σ js).length=(xs ++ dR X.N js).length;unfold dW dR;rw [length_append,length_append,length_map,length_map,length_map]) λj v e=>?_,⟨cap7,rfl⟩,rv7,(I7.pin _ (mem_append_right _ (mem_append_left _ mem_cons_self))).2.1,T.keep _ _ _ st5 λb hb o e=>(kf b hb o e).1,λb hb=>?_,w7⟩
     ·have e':((xs.map λ_=>(none:Option V)) ++ dW σ js)[j]?=some (some v):=e;by_cases hj:j <xs.length
      ·exfalso;rw [List.getElem?_append_left (by rw [length_map];exact hj),getElem?_map,getElem?_eq_getElem hj] at e';cases e'
      ·rw [List.getElem?_append_right (by rw [length_map];lia),length_map,<-hσ6,List.getElem?_drop] at e';rw [show xs.length+(j - xs.length)=j by lia] at e';exact e'
     ·obtain⟨o,e,_⟩:=T.obj _ _ st5 b hb;exact(kf b hb o e).2
    refine wpAny_mono (hif cl (D+1) s H1 fp _ s6 _ H6 _ I6 q6) (λok s7 ⟨H7,I7,q7⟩=>?_) λ_ _ f=>False.elim f;have kf7:∀b∈fp,∀o,s4.heap.get? b=some o->s7.heap.get? b=some o/\H7 b=none:=λb hb o e=>
     have z:=I7.pin (b,o) (mem_append_right _ (mem_append_right _ (rE hb e)))
     ⟨z.1,z.2.1⟩
    cases ok with
    | false=>
     rw [if_neg Bool.false_ne_true] at q7 ⊢;exact again I7 kf7 rv (hN7 _ _ q7)
    | true=>
     rw [if_pos rfl] at q7 ⊢;refine wpAny_mono (he cl (D+1) s H1 fp _ s7 _ H7 _ I7 q7) (λyv s8 ⟨y,H8,I8,r8,q8⟩=>?_) λ_ _ f=>False.elim f;have pD:=I8.pin _ (mem_append_right _ (mem_append_left _ mem_cons_self));have hlen:=rv.length;refine wpAny_list_append_plain (items:=its.toArray) ⟨cap,pD.1⟩ (λh9 pl9 sb9=>?_) (by rw [size_toArray];lia);obtain⟨cap9,e9⟩:=pl9;have I9:Inv Y [] σ6 H8 { s8 with heap:=h9 }:=(I8.pins_of (pins':=[]) λp hp=>absurd hp (by simp)).turned (t':=s8.toks) (it:=D) (λb o hb e=>(sb9.2 b hb).trans e) pD.2.1 hDC
      (.inr (Nat.le_of_eq hDe)) (λy c e z=>absurd z (ne_of_lt (cellD y c (clsub y c e)))) λp hp=>absurd (show p∈([]:List (Addr×Obj)) from hp) (by simp)
     have kf9:∀b∈fp,∀o,s4.heap.get? b=some o->h9.get? b=some o/\H8 b=none:=λb hb o e=>by have z:=I8.pin (b,o) (mem_append_right _ (mem_append_right _ (rE hb e)));exact⟨(sb9.2 b (ne_of_lt (fpD b hb))).trans z.1,z.2.1⟩
     refine again (s7:={ s8 with heap:=h9 }) (its7:=its ++ [yv]) (cap7:=cap9) (pl:=[]) (I9.pins_of λp hp=>?_) kf9 (rv.append (.cons r8 .nil)) (hN7 _ _ q8);have hp':p=(D,{ cls:=.type "list",data:=.seq (its ++ [yv]).toArray cap9 }):=by simpa using hp
     subst hp';refine⟨?_,pD.2.1,pD.2.2.1,pD.2.2.2.1,λv z=>by cases z⟩;rw [e9];simp
  ·refine IY.pins_of λp hp=>?_;have hp':p=(D,{ cls:=.type "list",dict:=none,data:=.seq ([]:List Value).toArray }):=by simpa using hp
   subst hp';exact⟨accD,fresh _ (le_refl _),hDC,λhf=>lt_irrefl _ (frD _ hf),λv z=>by cases z⟩
 exact codeAny_compStart_list (loop _ rfl) (wpAny_mono (T.self X.A 0 _ (λv s'=>v=.ref it/\s'={ s with heap:=h₁,toks:=s.toks+([]:List (Str×Value)).length }) (λ_ _=>False) (T.keep _ _ _ st1 λb _ o e=>old b o e) ⟨rfl,rfl⟩) (λv s' ⟨e1,e2⟩=>by subst e1 e2;exact loop _ rfl) λ_ _ f=>f.elim)
theorem Q4 {i:Nat} {y:Str} {py spos:Pos} (xs:List Str) (js:List Nat) (N0:List Str) (sc0:Scope) (hc:X.calm=true) (hNX:X.N.Nodup) (hiy:X.N[i]?=some y) (hi:PI X tg iter wi) (hg:∀cl C s H ex,PG (qO X scope xs js cl C s H ex) tg g)
  (hif:∀cl C s H ex,PF (qO X scope xs js cl C s H ex) ifs tt) (he:∀cl C s H ex,PE (qO X scope xs js cl C s H ex) elt te)
  (hsw:swapsWith (.ListComp elt [⟨tg,iter,ifs,0⟩] scope pos) (some (.Name y py)) spos.line X.env=pure true:=by rfl) (hy:X.env.scope.names.lookup y=some .local:=by rfl)
  (hk:scope.kind=.function:=by rfl) (hcell:∀y∈scope.names,y.2≠.cell:=by decide +kernel)
  (hnames:∀y∈scope.names,y.2=.local->scope.names.lookup y.1=some .local:=by decide +kernel)
  (hsc:X.env.scope=sc0:=by rfl) (hfree0:∀y∈scope.names,y.2=.free->sc0.names.lookup y.1=some .cell∨sc0.names.lookup y.1=some .free:=by decide +kernel)
  (hNN:X.N=N0:=by rfl) (hj0:∀y∈dR N0 js,scope.names.lookup y=some .free:=by decide +kernel)
  (hs:∀x,foldedSetIterable iter X.env x=pure x:=by intro _;rfl):
  PS X (.Assign [.Name y py] (.ListComp elt [⟨tg,iter,ifs,0⟩] scope pos) spos) (PJ (Yi xs js wi g tt te) (vM i)):=by
 intro pins s σ H D I h;have hfree:∀y∈scope.names,y.2=.free->X.env.kindOf y.1=some .cell∨X.env.kindOf y.1=some .free:=λy hy e=>by show X.env.scope.names.lookup y.1=some .cell∨X.env.scope.names.lookup y.1=some .free;rw [hsc];exact hfree0 y hy e
 have hjs:∀y∈dR X.N js,scope.names.lookup y=some .free:=by rw [hNN];exact hj0
 rw [exec_Assign_Name_used _ _ _ _ hsw];refine wpAny_bind (wpAny_standAt (wpAny_bind ?_));show wpAny _ X.A (do let _ <-comprehension (.ListComp elt [⟨tg,iter,ifs,0⟩] scope pos) scope X.env _ (newList []) false (eval iter X.env) (some (assign (.Name y py) X.env))) _ _ s;have hcl:closureFor scope X.env=pure (clos X.env scope.names []):=pK λy hy e=>I.ok.has y.1 (hfree y hy e);refine wpAny_bind (wpAny_mono (wpAny_comprehension_free (use:=some (assign (.Name y py) X.env)) (Q:=λ_ s'=>SP X pins D .next s') Z hs hcl hk hnames
  (dC (hi pins s σ H _ I h) λxv s1 h1=>dC h1 λit s2 h2=>?_)) (λ_ s' hq=>wpAny_pure (wpAny_pure hq)) λ_ _ e=>e)
 refine zH xs js (RR:=λacc C=>compPost (model X.prog X.w) X.A X.xe (some (assign (.Name y py) X.env)) (λ_ s'=>SP X pins D .next s') acc C) (Q:=λys H2=>∀D',H2 D'=none->D.nx (σ.set i (some (.ref D'))) (upd H2 D' (.lst ys))) hc hk hcell hfree hg hif he hjs h2 ?_;intro D' C s' H2 ys m I' hD hn all fpC hCD hq;show wpAny _ X.A (assign (.Name y py) X.env (.ref D')) _ _ _;refine wpAny_assign_Name (yH I' hNX hiy (.inl hy) (v:=.ref D') Z (λs'' I'' ⟨a,sb,ha⟩=>?_) (.inr hy));obtain⟨f1,f2,f3,f4,f5,f6⟩:=fpC;have hCa:C≠a:=by
  rcases ha with z | z
  ·rw [z];exact f2
  ·exact λw=>f5 _ _ z w.symm
 exact⟨m,hn.sameBut sb hCa,λh' sb'=>⟨_,_,I''.turned (t':=s''.toks) (it:=C) (λb o hb e=>(sb'.2 b hb).trans e) f1 f2 f4 f5 f6,hq D' hD⟩⟩
end
theorem Ls {ts:List Str} {js:List Nat} {σ:St} {g:TG} {tt:TT} {te:TE} {Qd:List V->Hp->Prop} {K:Fr} {a:Addr} {xs:List V} {H:Hp} (Pv:Nat->List V->Hp->Prop) (hn:xs.length<=sizeLine) (h0:Pv 0 [] H) (hl:∀i ys H,Pv i ys H->ys.length<=i) (hq:∀i ys H,i<=xs.length->Pv i ys H->bT K H a xs)
  (hs:∀i x ys H,xs[i]?=some x->Pv i ys H->g x ((ts.map λ_=>none) ++ dW σ js) H λσ2 H3=>σ2.drop ts.length=dW σ js/\tt σ2 H3 λb H4=>if b=true then te σ2 H4 λy H5=>Pv (i+1) (ys ++ [y]) H5 else Pv (i+1) ys H4)
  (hd:∀ys H,Pv xs.length ys H->Qd ys H):DR ts js σ g tt te Qd (Vu K a) H:=by
 refine⟨λi m ys H=>m=xs.length - i/\i<=xs.length/\Pv i ys H,⟨xs.length,by simp,zero_le _,h0⟩,?_⟩;rintro i m ys H ⟨rfl,hi,p⟩;have hlen:=hl i ys H p;have q:=hq i ys H hi p;by_cases hlt:i <xs.length
 ·refine .inr ⟨⟨xs,xs[i],q,by simp [hlt]⟩,by lia,Pv (i+1),λys' H' p'=>⟨xs.length - (i+1),by lia,Z,hlt,p'⟩,λx H' y=>?_⟩;obtain⟨e,y⟩:=y;subst e;exact hs i x ys _ (y xs q) p
 ·have e:i=xs.length:=by lia
  subst e;exact .inl ⟨⟨xs,q,le_refl _⟩,by lia,hd ys H p⟩
structure QJ (K:Fr) (x qual:Str) (st:Stmt) (f:Addr) (fd:FuncData) (its:Array Value):Prop where
 ex:∃(oc:Value) (od:Option Addr) (T:Addr) (kV doc pm:Value) (an:Option Addr) (cdv ct:Value) (osl:Array (Option Value)) (o:Obj) (n:Nat),
  fd=PySem.W.fnOf x qual (iU st) (gw st) (bh st) (.ref T) kV doc pm an cdv ct/\K.lookup f=some ⟨oc,od,.func fd,osl⟩/\PySem.W.codeIn K cdv qual=true/\K.lookup T=some o/\o.data=.seq its n
 kp:PySem.W.keepIn K (.ref f)=true
section
variable {P:Program} {w:World} {K:Fr} {mg:Str->Option Value} {base:Heap} {its:Array Value}
theorem QJ.binds {x qual:Str} {st:Stmt} {f:Addr} {fd:FuncData} {ps:List Str} (F:QJ K x qual st f fd its)
  (h:∀(T:Addr) (kV doc pm:Value) (an:Option Addr) (cdv ct:Value) (us:List Value),us.length=ps.length->∃k,bindArgs (PySem.W.fnOf x qual (iU st) (gw st) (bh st) (.ref T) kV doc pm an cdv ct) ⟨us,[]⟩=seqItems? (.ref T) >>= k/\k (some its)=pure (ps.zip us)):Binds K fd ps []:=by
 obtain⟨oc,od,T,kV,doc,pm,an,cdv,ct,osl,o,n,rfl,lk,hcd,hT,ho⟩:=F.ex;intro s us X hl;rw [append_nil] at hl ⊢;obtain⟨k,h1,h2⟩:=h T kV doc pm an cdv ct us hl;exact .of_defaults Z (X _ _ hT) ho h1 h2
theorem Vo {x qual:Str} {st:Stmt} {f T:Addr} {oc:Value} {od an:Option Addr} {osl:Array (Option Value)} {kV doc pm cdv ct:Value} {o:Obj} {n:Nat} (l:K.lookup f=some ⟨oc,od,.func (PySem.W.fnOf x qual (iU st) (gw st) (bh st) (.ref T) kV doc pm an cdv ct),osl⟩)
  (c:PySem.W.codeIn K cdv qual=true) (k:PySem.W.keepIn K (.ref f)=true) (d:K.lookup T=some o) (e:o.data=.seq its n):QJ K x qual st f (PySem.W.fnOf x qual (iU st) (gw st) (bh st) (.ref T) kV doc pm an cdv ct) its:=⟨⟨oc,od,T,kV,doc,pm,an,cdv,ct,osl,o,n,rfl,l,c,d,e⟩,k⟩
end
section
variable {X:Cx} {e:Expr} {es:List Expr} {te:TE} {t:TA} {pos:Pos} {st:Stmt} {rest:List Stmt} {ts us:TS}
end
section
variable {X:Cx}
end
section
variable {X:Cx}
end
section
variable {prog:Program} {w:World} {A:Around} {E:Value->Shared->Prop}
end
section
variable {X:Cx} {tg:Expr}
end
section
variable {X:Cx} {e:Expr}
end
section
variable {X:Cx}
end
section
variable {M:Model} {A:Around} {E:Value->Shared->Prop} {nm q:Str} {C N:Addr} {bs bm:List Value} {hdct:Bool} {sn:List Str} {sub:List Value} {ab:Bool} {col:Option Bool} {dd:Option Addr} {k0 k1 k2 k3 k5:Option Value} {newId:String}
end
end L2
namespace L2
open PySem PyProof
theorem Ou {es:List Expr} {env:Env} {a b c}:starEach (.Dict a b c:: es) env=(false,eval (.Dict a b c) env):: starEach es env:=rfl
section
variable {X:Cx} {x:Str} {px pos:Pos} {iter elt:Expr} {ifs:List Expr} {scope:Scope} {wi:TI} {tt:TT} {te:TE}
theorem zz (js:List Nat) {pins:List (Addr×Obj)} {σ:St} {s:Shared} {itv:Value} {Q:List V->Hp->Prop} {RR:Value->Addr->Result->Shared->Prop} {E:Value->Shared->Prop}
  (hc:X.calm=true) (hk:scope.kind=.function) (hx:scope.names.lookup x=some .local) (hcell:∀y∈scope.names,y.2≠.cell)
  (hfree:∀y∈scope.names,y.2=.free->X.env.kindOf y.1=some .cell∨X.env.kindOf y.1=some .free)
  (hN:(x:: dR X.N js).Nodup) (hjs:∀y∈dR X.N js,scope.names.lookup y=some .free)
  (hif:∀cl C s H ex,PF (yM X scope x js cl C s H ex) ifs tt) (he:∀cl C s H ex,PE (yM X scope x js cl C s H ex) elt te)
  (hit:PIE X pins σ (.Name x px) (CompEnd js tt te σ Q) itv s)
  (hR:∀D C s' H2 ys m,Inv X pins σ (upd H2 D (.lst ys)) s'->H2 D=none->s'.heap.Ns C m->(∀h',Heap.SameBut C s'.heap h'->Inv X pins σ (upd H2 D (.lst ys)) { s' with heap:=h' })->GK X pins (upd H2 D (.lst ys)) C->C≠D->Q ys H2->RR (.ref D) C (.ok .next) s'):
  wpAny (model X.prog X.w) X.A (newList []) (λacc s₃=>wpAny (model X.prog X.w) X.A (newFunctionEnv scope X.env.globals (clos X.env scope.names []) [] X.env.qual none .none (some X.env)) (λcenv s₄=>
   codeAny (model X.prog X.w) X.A (.compStart (.ListComp elt [⟨.Name x px,iter,ifs,0⟩] scope pos) 0 itv acc { cenv with scope:=relabel scope X.env }) (RR acc cenv.locals) s₄) E s₃) E s:=
 zH (tg:=.Name x px) (g:=vM 0) [x] js hc hk hcell hfree (λcl C s H ex=>Av (i:=0) hN rfl (.inl (lookup_relabel_local hx)) (.inr (lookup_relabel_local hx))) hif he hjs
  (by obtain⟨it,fp,tn,J,H',e,I,T,t0,hf,W,h0,hW⟩:=hit;exact⟨it,fp,tn,J,H',e,I,T,t0,hf,W,h0,λi m ys H2 w=>(hW i m ys H2 w).imp_right λ⟨a,b,N,c,d⟩=>⟨a,b,N,c,λy H3 z=>⟨Z,d y H3 z⟩⟩⟩) hR
theorem gP (js:List Nat) (N0:List Str) (sc0:Scope) (hc:X.calm=true) (hi:PI X (.Name x px) iter wi)
  (hif:∀cl C s H ex,PF (yM X scope x js cl C s H ex) ifs tt) (he:∀cl C s H ex,PE (yM X scope x js cl C s H ex) elt te)
  (hk:scope.kind=.function:=by rfl) (hx:scope.names.lookup x=some .local:=by rfl) (hcell:∀y∈scope.names,y.2≠.cell:=by decide +kernel)
  (hnames:∀y∈scope.names,y.2=.local->scope.names.lookup y.1=some .local:=by decide +kernel)
  (hsc:X.env.scope=sc0:=by rfl) (hfree0:∀y∈scope.names,y.2=.free->sc0.names.lookup y.1=some .cell∨sc0.names.lookup y.1=some .free:=by decide +kernel)
  (hNN:X.N=N0:=by rfl) (hN0:(x:: dR N0 js).Nodup:=by decide +kernel) (hj0:∀y∈dR N0 js,scope.names.lookup y=some .free:=by decide +kernel)
  (hs:∀x,foldedSetIterable iter X.env x=pure x:=by intro _;rfl):
  PE X (.ListComp elt [⟨.Name x px,iter,ifs,0⟩] scope pos) (V9 js wi tt te):=by
 intro pins s σ H Q I h;have hN:(x:: dR X.N js).Nodup:=by rw [hNN];exact hN0
 have hfree:∀y∈scope.names,y.2=.free->X.env.kindOf y.1=some .cell∨X.env.kindOf y.1=some .free:=λy hy e=>by show X.env.scope.names.lookup y.1=some .cell∨X.env.scope.names.lookup y.1=some .free;rw [hsc];exact hfree0 y hy e
 have hjs:∀y∈dR X.N js,scope.names.lookup y=some .free:=by rw [hNN];exact hj0
 rw [eval_ListComp];have hcl:closureFor scope X.env=pure (clos X.env scope.names []):=pK λy hy e=>I.ok.has y.1 (hfree y hy e);refine wpAny_comprehension_free (use:=none) Z hs hcl hk hnames (dC (hi pins s σ H _ I h) λxv s1 h1=>dC h1 λit s2 h2=>?_);refine zz js (RR:=λacc C=>compPost (model X.prog X.w) X.A X.xe none (EP X pins σ Q) acc C) (Q:=λys H2=>∀D,H2 D=none->Q (.ref D) (upd H2 D (.lst ys))) hc hk hx hcell hfree hN hjs hif he h2 ?_;intro D C s' H2 ys m I' hD hn all fpC hCD hq;exact⟨m,hn,λh' sb=>⟨.ref D,_,all h' sb,Z,hq D hD⟩⟩
theorem m9 {i:Nat} {y:Str} {py spos:Pos} (js:List Nat) (N0:List Str) (sc0:Scope) (hc:X.calm=true) (hNX:X.N.Nodup) (hiy:X.N[i]?=some y) (hi:PI X (.Name x px) iter wi)
  (hif:∀cl C s H ex,PF (yM X scope x js cl C s H ex) ifs tt) (he:∀cl C s H ex,PE (yM X scope x js cl C s H ex) elt te)
  (hsw:swapsWith (.ListComp elt [⟨.Name x px,iter,ifs,0⟩] scope pos) (some (.Name y py)) spos.line X.env=pure true:=by rfl) (hy:X.env.scope.names.lookup y=some .local:=by rfl)
  (hk:scope.kind=.function:=by rfl) (hx:scope.names.lookup x=some .local:=by rfl) (hcell:∀y∈scope.names,y.2≠.cell:=by decide +kernel)
  (hnames:∀y∈scope.names,y.2=.local->scope.names.lookup y.1=some .local:=by decide +kernel)
  (hsc:X.env.scope=sc0:=by rfl) (hfree0:∀y∈scope.names,y.2=.free->sc0.names.lookup y.1=some .cell∨sc0.names.lookup y.1=some .free:=by decide +kernel)
  (hNN:X.N=N0:=by rfl) (hN0:(x:: dR N0 js).Nodup:=by decide +kernel) (hj0:∀y∈dR N0 js,scope.names.lookup y=some .free:=by decide +kernel)
  (hs:∀x,foldedSetIterable iter X.env x=pure x:=by intro _;rfl):
  PS X (.Assign [.Name y py] (.ListComp elt [⟨.Name x px,iter,ifs,0⟩] scope pos) spos) (PJ (V9 js wi tt te) (vM i)):=by
 intro pins s σ H D I h;have hN:(x:: dR X.N js).Nodup:=by rw [hNN];exact hN0
 have hfree:∀y∈scope.names,y.2=.free->X.env.kindOf y.1=some .cell∨X.env.kindOf y.1=some .free:=λy hy e=>by show X.env.scope.names.lookup y.1=some .cell∨X.env.scope.names.lookup y.1=some .free;rw [hsc];exact hfree0 y hy e
 have hjs:∀y∈dR X.N js,scope.names.lookup y=some .free:=by rw [hNN];exact hj0
 rw [exec_Assign_Name_used _ _ _ _ hsw];refine wpAny_bind (wpAny_standAt (wpAny_bind ?_));show wpAny _ X.A (do let _ <-comprehension (.ListComp elt [⟨.Name x px,iter,ifs,0⟩] scope pos) scope X.env _ (newList []) false (eval iter X.env) (some (assign (.Name y py) X.env))) _ _ s;have hcl:closureFor scope X.env=pure (clos X.env scope.names []):=pK λy hy e=>I.ok.has y.1 (hfree y hy e);refine wpAny_bind (wpAny_mono (wpAny_comprehension_free (use:=some (assign (.Name y py) X.env)) (Q:=λ_ s'=>SP X pins D .next s') Z hs hcl hk hnames
  (dC (hi pins s σ H _ I h) λxv s1 h1=>dC h1 λit s2 h2=>?_)) (λ_ s' hq=>wpAny_pure (wpAny_pure hq)) λ_ _ e=>e)
 refine zz js (RR:=λacc C=>compPost (model X.prog X.w) X.A X.xe (some (assign (.Name y py) X.env)) (λ_ s'=>SP X pins D .next s') acc C) (Q:=λys H2=>∀D',H2 D'=none->D.nx (σ.set i (some (.ref D'))) (upd H2 D' (.lst ys))) hc hk hx hcell hfree hN hjs hif he h2 ?_;intro D' C s' H2 ys m I' hD hn all fpC hCD hq;show wpAny _ X.A (assign (.Name y py) X.env (.ref D')) _ _ _;refine wpAny_assign_Name (yH I' hNX hiy (.inl hy) (v:=.ref D') Z (λs'' I'' ⟨a,sb,ha⟩=>?_) (.inr hy));obtain⟨f1,f2,f3,f4,f5,f6⟩:=fpC;have hCa:C≠a:=by
  rcases ha with z | z
  ·rw [z];exact f2
  ·exact λw=>f5 _ _ z w.symm
 exact⟨m,hn.sameBut sb hCa,λh' sb'=>⟨_,_,I''.turned (t':=s''.toks) (it:=C) (λb o hb e=>(sb'.2 b hb).trans e) f1 f2 f4 f5 f6,hq D' hD⟩⟩
end
end L2
namespace L2
open PySem PySem.Spec PyProof.Rows
noncomputable def fdOf (K:Fr) (f:Addr):FuncData:=match K.lookup f with
 | some ⟨_,_,.func d,_⟩=>d
 | _=>default
theorem Vb {K:Fr} {f:Addr} {oc:Value} {od:Option Addr} {fd:FuncData} {osl:Array (Option Value)} (l:K.lookup f=some ⟨oc,od,.func fd,osl⟩):fdOf K f=fd:=by unfold fdOf;rw [l]
structure eX (K:Fr) (nm qn:Str) (s:Stmt) (f:Addr) (ps:List Str):Prop where
 F:Ub K nm qn s f (fdOf K f)
 b:Binds K (fdOf K f) ps []
 i:PySem.W.isFn K (.ref f)=true
theorem eX.me {K:Fr} {nm qn m:Str} {s:Stmt} {f C:Addr} {ps:List Str} (x:eX K nm qn s f ps) (h:PySem.W.findIn K (.ref C) m=some (some (.ref f))):Meth K C m f:=⟨h,x.i,x.F.kp⟩
theorem eX.of {K:Fr} {nm qn:Str} {s:Stmt} {f:Addr} {ps:List Str} {oc:Value} {od an:Option Addr} {osl:Array (Option Value)} {kV doc pm cdv ct:Value}
  (l:K.lookup f=some ⟨oc,od,.func (PySem.W.fnOf nm qn (iU s) (gw s) (bh s) .none kV doc pm an cdv ct),osl⟩) (c:PySem.W.codeIn K cdv qn=true) (k:PySem.W.keepIn K (.ref f)=true) (i:PySem.W.isFn K (.ref f)=true)
  (h:∀(kV doc pm:Value) (an:Option Addr) (cdv ct:Value) (us:List Value),us.length=ps.length->bindArgs (PySem.W.fnOf nm qn (iU s) (gw s) (bh s) .none kV doc pm an cdv ct) ⟨us,[]⟩=pure (ps.zip us)):eX K nm qn s f ps:=by
 have e:fdOf K f=PySem.W.fnOf nm qn (iU s) (gw s) (bh s) .none kV doc pm an cdv ct:=by unfold fdOf;rw [l]
 have F:=W0 l c k;have b:=F.binds h;rw [<-e] at F b;exact⟨F,b,i⟩
structure FnD (K:Fr) (nm qn:Str) (s:Stmt) (f:Addr) (ps:List Str):Prop where
 F:QJ K nm qn s f (fdOf K f) #[.none]
 b:Binds K (fdOf K f) ps []
 i:PySem.W.isFn K (.ref f)=true
theorem FnD.of {K:Fr} {nm qn:Str} {s:Stmt} {f T:Addr} {ps:List Str} {oc oe:Value} {od an oh:Option Addr} {osl osm:Array (Option Value)} {kV doc pm cdv ct:Value} {n:Nat}
  (l:K.lookup f=some ⟨oc,od,.func (PySem.W.fnOf nm qn (iU s) (gw s) (bh s) (.ref T) kV doc pm an cdv ct),osl⟩) (d:K.lookup T=some ⟨oe,oh,.seq #[.none] n,osm⟩) (c:PySem.W.codeIn K cdv qn=true) (k:PySem.W.keepIn K (.ref f)=true) (i:PySem.W.isFn K (.ref f)=true)
  (h:∀fd:FuncData,QJ K nm qn s f fd #[.none]->Binds K fd ps []):FnD K nm qn s f ps:=by
 have F:=Vo (its:=#[.none]) l c k d rfl;have b:=h _ F;rw [<-Vb l] at F b;exact⟨F,b,i⟩
structure mG (K:Fr) (mg:Str->Option Value) (nm:Str) (s:Stmt) (f:Addr) (ps:List Str):Prop where
 x:eX K nm nm s f ps
 m:mg nm=some (.ref f)
theorem mG.of {K:Fr} {mg:Str->Option Value} {nm:Str} {s:Stmt} {f:Addr} {ps:List Str} (m:mg nm=some (.ref f)) (x:eX K nm nm s f ps):mG K mg nm s f ps:=⟨x,m⟩
theorem gC {mg:Str->Option Value} {nm:Str} {u:Value} {v:V} (m:mg nm=some u) (r:RelV v u):∃u,mg nm=some u/\RelV v u:=⟨u,m,r⟩
theorem mG.F {K:Fr} {mg:Str->Option Value} {nm:Str} {s:Stmt} {f:Addr} {ps:List Str} (h:mG K mg nm s f ps):Ub K nm nm s f (fdOf K f):=h.x.F
theorem mG.b {K:Fr} {mg:Str->Option Value} {nm:Str} {s:Stmt} {f:Addr} {ps:List Str} (h:mG K mg nm s f ps):Binds K (fdOf K f) ps []:=h.x.b
noncomputable def MB (K:Fr) (C:Addr):List (Str×Addr)->Prop
 | []=>True
 | (m,f):: r=>PySem.W.findIn K (.ref C) m=some (some (.ref f))/\MB K C r
noncomputable def NB (K:Fr) (C:Addr):List Str->Prop
 | []=>True
 | f:: r=>PySem.W.findIn K (.ref C) f=some none/\NB K C r
structure Jy (K:Fr) (mg:Str->Option Value) (nm:Str) (C:Addr) (ms:List (Str×Addr)) (as:List Str):Prop where
 m:mg nm=some (.ref C)
 c:Ql K C
 mks:PySem.W.makesIn K C=true
 kp:PySem.W.keepIn K (.ref C)=true
 me:MB K C ms
 na:NB K C as
theorem Jy.M {K:Fr} {mg:Str->Option Value} {nm:Str} {C f:Addr} {ms:List (Str×Addr)} {as ps:List Str} {n q:Str} {s:Stmt} (h:Jy K mg nm C (("__init__",f):: ms) as) (x:eX K n q s f ps):Mk K C f:=⟨h.mks,h.me.1,x.i,h.kp⟩
theorem X8 {K:Fr} {nm qn:Str} {st:Stmt} {f:Addr} {x:Str} (F:Ub K nm qn st f (fdOf K f))
  (h:∀(kV doc pm:Value) (an:Option Addr) (cdv ct v:Value),bindArgs (PySem.W.fnOf nm qn (iU st) (gw st) (bh st) .none kV doc pm an cdv ct) ⟨[v],[]⟩=pure [(x,v)]) (s:Shared) (v:Value):BindsTo s (fdOf K f) ⟨[v],[]⟩ [(x,v)]:=by
 obtain⟨oc,od,kV,doc,pm,an,cdv,ct,osl,e,lk,hcd⟩:=F.ex;rw [e];exact .of_eq (h kV doc pm an cdv ct v)
theorem Wr {K:Fr} {h:Heap} {C f:Addr} (X:K.In h) (_:PySem.W.findIn K (.ref C) "__init__" =some (some (.ref f))) (b:Qt K C f=true):ExcAt K C:=(p8.ofIn b).at X
theorem us_0 {α:Type} {P:List α->Prop} (h:P []):∀us:List α,us.length=0->P us
 | [],_=>h
theorem Ai {α:Type} {P:List α->Prop} (h:∀a,P [a]):∀us:List α,us.length=1->P us
 | [a],_=>h a
theorem Bv {α:Type} {P:List α->Prop} (h:∀a b,P [a,b]):∀us:List α,us.length=2->P us
 | [a,b],_=>h a b
theorem GD {α:Type} {P:List α->Prop} (h:∀a b c,P [a,b,c]):∀us:List α,us.length=3->P us
 | [a,b,c],_=>h a b c
theorem Ug {α:Type} {P:List α->Prop} (h:∀a b c d,P [a,b,c,d]):∀us:List α,us.length=4->P us
 | [a,b,c,d],_=>h a b c d
theorem Y9 {α:Type} {P:List α->Prop} (h:∀a b c d e,P [a,b,c,d,e]):∀us:List α,us.length=5->P us
 | [a,b,c,d,e],_=>h a b c d e
theorem aar {α:Type} {P:List α->Prop} (h:∀a b c d e f,P [a,b,c,d,e,f]):∀us:List α,us.length=6->P us
 | [a,b,c,d,e,f],_=>h a b c d e f
theorem us_7 {α:Type} {P:List α->Prop} (h:∀a b c d e f g,P [a,b,c,d,e,f,g]):∀us:List α,us.length=7->P us
 | [a,b,c,d,e,f,g],_=>h a b c d e f g
theorem eX.sc {K:Fr} {nm qn:Str} {s:Stmt} {f:Addr} {ps:List Str} (_:eX K nm qn s f ps) (N:List Str) (h:gj N ps (bh s):=by exact⟨rfl,rfl,rfl,by decide +kernel,rfl,by decide +kernel,by decide +kernel⟩):gj N ps (bh s):=h
theorem mG.sc {K:Fr} {mg:Str->Option Value} {nm:Str} {s:Stmt} {f:Addr} {ps:List Str} (_:mG K mg nm s f ps) (N:List Str) (h:gj N ps (bh s):=by exact⟨rfl,rfl,rfl,by decide +kernel,rfl,by decide +kernel,by decide +kernel⟩):gj N ps (bh s):=h
noncomputable abbrev FO (P:Program) (w:World) (K:Fr) (mg:Str->Option Value) (base:Heap) (k:Nat) (f:Addr) (ps:List Str) (sp:Sp):Prop:=fY P w K mg base Eh k f (fdOf K f) ps sp
theorem RT {N ps:List Str} {sc:Scope} (h:gj N ps sc:=by exact⟨rfl,rfl,rfl,by decide +kernel,rfl,by decide +kernel,by decide +kernel⟩):gj N ps sc:=h
section
variable {X:Cx} {k k' i:Nat} {f C:Addr} {ps as:List Str} {ms:List (Str×Addr)} {sp:Sp} {x m nm qn n:Str} {p pos apos pos':Pos} {e o:Expr} {es:List Expr} {ta te:TE} {t:TA} {s:Stmt} {N:List Str}
theorem dB (F:fY X.prog X.w X.K X.mg X.base Eh k f (fdOf X.K f) ps sp) (g:mG X.K X.mg x s f ps) (hr:gJ k' X.A) (ha:PA X (e:: es) t) (hk:k<=k':=by decide) (hg:Gl X x:=by rfl)
  (hdb:(x == ("__debug__" :Str))=false:=by decide) (he:starEach (e:: es) X.env=(false,eval e X.env):: starEach es X.env:=by rfl) (hpl:(backTo pos (starEach es X.env)).any (·.1)=false:=by rfl):
  PE X (.Call (.Name x p) (e:: es) [] pos) (Wd sp [] E0 t):=MT F (hr.mono hk) hg g.m g.F.kp g.b .nil gY ha hdb he hpl
theorem K6 {pl:Sem Bool} (he:PE X o ta) (c:Jy X.K X.mg n C ms as) (hm:PySem.W.findIn X.K (.ref C) m=some (some (.ref f))) (F:fY X.prog X.w X.K X.mg X.base Eh k f (fdOf X.K f) ps sp) (g:eX X.K nm qn s f ps) (hr:gJ k' X.A) (ha:PA X (e:: es) t)
  (hk:k<=k':=by decide) (hst:starEach (e:: es) X.env=(false,eval e X.env):: starEach es X.env:=by rfl) (hpl:(backTo pos (starEach es X.env)).any (·.1)=false:=by rfl)
  (ht:eval (.Call (.Attribute o m apos) (e:: es) [] pos) X.env=(do
   let ov <-eval o X.env
   standAt apos.atName
   let (f,first) <-holding [ov] (getMethod ov m pl)
   callWith pos f first (backTo pos (starEach (e:: es) X.env)) (backToKw pos (keywordEach [] X.env))):=by rfl):
  PE X (.Call (.Attribute o m apos) (e:: es) [] pos) (Gm C m sp [] E0 ta t):=VD he c.c (g.me hm) F (hr.mono hk) g.b .nil gY ha hst hpl ht
theorem Xi {pl:Sem Bool} (he:PE X o ta) (c:Jy X.K X.mg n C ms as) (hm:PySem.W.findIn X.K (.ref C) m=some (some (.ref f))) (F:fY X.prog X.w X.K X.mg X.base Eh k f (fdOf X.K f) ps sp) (g:eX X.K nm qn s f ps) (hr:gJ k' X.A)
  (hk:k<=k':=by decide) (ht:eval (.Call (.Attribute o m apos) [] [] pos) X.env=(do
   let ov <-eval o X.env
   standAt apos.atName
   let (f,first) <-holding [ov] (getMethod ov m pl)
   callWith pos f first (backTo pos (starEach [] X.env)) (backToKw pos (keywordEach [] X.env))):=by rfl):
  PE X (.Call (.Attribute o m apos) [] [] pos) (Gm C m sp [] E0 ta Lf):=Tt he c.c (g.me hm) F (hr.mono hk) g.b .nil gY ht
theorem gN {sc:Scope} (S:gj X.N ps sc) (i:Nat) (hi:X.N[i]?=some x:=by rfl) (hx:Loc X.env.scope x:=by first | exact Or.inl rfl | exact Or.inr rfl) (hf:X.fn x=true∨X.env.scope.names.lookup x=some .local:=by first | exact .inl rfl | exact .inr rfl | assumption):PG X (.Name x pos) (vM i):=Av S.nd hi hx hf
theorem sN {sc:Scope} (S:gj X.N ps sc) (i:Nat) (he:PE X e te) (hi:X.N[i]?=some x:=by rfl) (hx:Loc X.env.scope x:=by first | exact Or.inl rfl | exact Or.inr rfl) (hs:swapsWith e (some (.Name x pos')) pos.line X.env=pure false:=by rfl) (hf:X.fn x=true∨X.env.scope.names.lookup x=some .local:=by first | exact .inl rfl | exact .inr rfl | assumption):
  PS X (.Assign [.Name x pos'] e pos) (PJ te (vM i)):=XM S.nd hi hx he hs hf
theorem Jv (h1:PE X o ta) (h2:PA X (e:: es) t) (hbase:attributeBase o "append" X.env (eval o X.env)=eval o X.env:=by rfl)
  (hfew:((backTo pos (starEach (e:: es) X.env)).all (λx=>!x.1) && (backToKw pos (keywordEach [] X.env)).all (λx=>x.1.isSome) && decide ((e:: es).length+([]:List Keyword).length+(if ([]:List Keyword).isEmpty then 0 else 1) <30))=true:=by rfl)
  (hline:(apos.endLine == pos.line)=true:=by rfl) (hs:starEach (e:: es) X.env=(false,eval e X.env):: starEach es X.env:=by rfl) (hplain:(backTo pos (starEach es X.env)).any (·.1)=false:=by rfl):
  PE X (.Call (.Attribute o "append" apos) (e:: es) [] pos) (tBM X.K "list" Oh ta t):=z7 PySem.F.plainAttrs_list PySem.F.slot_list_append PySem.F.type_list_append O8 h1 h2 hbase hfew hline hs hplain
end
theorem ln {sp:Sp} {ps:List Str} (h:∀vs H Q E,sp vs H Q E->vs.length=ps.length:=by
 intro _ _ _ _ h;first
 | (cases h;subst_vars;rfl)
 | (cases h;rename_i h;cases h;subst_vars;rfl)
 | (obtain⟨_,rfl,_⟩:=h;rfl)
 | (obtain⟨_,_,rfl,_⟩:=h;rfl)
 | (obtain⟨_,_,_,rfl,_⟩:=h;rfl)):∀vs H Q E,sp vs H Q E->vs.length=ps.length:=h
noncomputable def YD:Option Key->Value->Bool
 | some k,v=>zT k v
 | none,.none=>true
 | none,_=>false
theorem jD {v:Value} (h:YD none v=true):v=.none:=by cases v <;> first | rfl | cases h
theorem J4 {k:Key} (h:zT k .none=true):False:=by rcases dw h with ⟨i,t,_,e⟩ | ⟨x,t,_,e⟩ <;> cases e
theorem WN {A:Around} {s:Shared}:SeqAt.EqAt A s .none .none true:=λprog w E Q h=>by unfold eqBool;refine wpAny_holding ?_;refine wpAny_ite_split (λ_=>wpAny_bind (wpAny_rule (wpAny_pure h))) (λz=>absurd Z z)
noncomputable def lg (prog:Program) (w:World):PySem.KeyKind prog w (Option Key) where
 is:=YD
 hash:=λk=>match k with
  | some k=>Zx w k
  | none=>reduceHash 0xFCA86420
 inj:=λv a b ha hb=>by
  cases a with
  | none=>
   have:=jD ha;subst this;cases b with
   | none=>rfl
   | some b=>exact(J4 hb).elim
  | some a=>
   cases b with
   | none=>
    have:=jD hb;subst this;exact(J4 ha).elim
   | some b=>rw [(cj prog w).inj v a b ha hb]
 byValue:=λk v h=>by
  cases k with
  | none=>rw [jD h];rfl
  | some k=>exact(cj prog w).byValue k v h
 pyHash:=λ{A E s k v Q} hv h=>by
  cases k with
  | none=>
   rw [jD hv];exact PySem.W.pyHash_slot (T:= "NoneType") Z F.slot_NoneType_hash F.entry_NoneType_hash (F.args_NoneType_hash_1 _) (beq_builtin_none _) (.inl Z) (wpAny_bind (wpAny_pure (wpAny_bind (wpAny_mkInt (wpAny_pure ⟨_,_,Z,h⟩)))))
  | some k=>exact(cj prog w).pyHash hv h
 eqBool:=λ{A E s a b u v Q} hu hv h=>by
  cases a with
  | none=>
   rw [jD hu];cases b with
   | none=>rw [jD hv];exact WN _ _ _ _ h
   | some b=>
    rcases dw hv with ⟨j,x,rfl,rfl⟩ | ⟨y,x,rfl,rfl⟩
    ·exact SeqAt.EqAt.none_int j x _ _ _ _ h
    ·exact SeqAt.EqAt.none_str y x _ _ _ _ h
  | some a=>
   cases b with
   | none=>
    rw [jD hv];rcases dw hu with ⟨j,x,rfl,rfl⟩ | ⟨y,x,rfl,rfl⟩
    ·exact SeqAt.EqAt.int_none j x _ _ _ _ h
    ·exact SeqAt.EqAt.str_none y x _ _ _ _ h
   | some b=>exact(cj prog w).eqBool (a:=a) (b:=b) hu hv (by simpa using h)
 «strs» :=λk x t v h=>by
  cases k with
  | none=>cases h
  | some k=>exact(cj prog w).strs k x t v h
end L2
namespace PySem
open PyProof.Rows
theorem PK:typeLookup (.type "list") "keys" =pure none:=am_miss_of_fast (by kernel_rfl)
theorem Pn {prog:Program} {w:World} {A:Around} {E:Value->Shared->Prop} {s:Shared} {a:Addr} {o:Obj} {xs:Array Value} {k:Nat} {Q:Option Value->Shared->Prop}
  (hx:s.heap.get? a=some o) (hc:o.cls=.type "list") (hdat:o.data=.seq xs k) (hd:o.dict=none) (hA:A.handled=none)
  (h:∀h' tk,(∀b ob,s.heap.get? b=some ob->h'.get? b=some ob)->Q none { s with heap:=h',toks:=tk }):
  wpAny (model prog w) A (getAttr? (.ref a) "keys") Q E s:=by
 obtain⟨c,dct,dat,sl⟩:=o;simp only at hc hdat hd;subst hc hdat hd;obtain⟨hp,g,d,tk,os⟩:=s;have hT:∀tk',(⟨hp,g,d,tk',os⟩:Shared).TypeIs (.ref a) "list" :=λ_=>⟨_,hx,rfl⟩;have f1:=sub_AttributeError;have f3:=F.slot_list_getattribute.lookup;have f4:=F.slot_list_getattribute.bind (.ref a);have f5:=am_list_getattr_none;unfold getAttr? getAttrBy? getAttrBy;repeat (any_goals (first | assumption | exact hT _ | ((with_reducible show wpAny _ _ (call (Value.builtin "list.__getattribute__") _ _) _ _ _);refine call_meets F.slot_list_getattribute (hT _) am_entry_list_getattribute (F.args_list_getattribute_2 _ _) (meets_getattribute_miss_list a xs k sl "keys" _ PK (by decide +kernel) (by size_fits)) ⟨hx,hA,λh' tk' e hx'=>?_⟩) | wp_step))
 obtain⟨t',u',he⟩:=hx'.there;show wpAny _ _ (getattributeRaised _ _ _ _ _ _ _) _ _ _;unfold getattributeRaised;repeat (any_goals (first | assumption | wp_step))
 exact h _ _ hx'.keeps
theorem jL:entryFor table "dict.update.loop" =some Builtin.«dict.update.loop» :=entryFor_of_tree (by kernel_rfl)
theorem eQ:plainId "dict.update.loop" =true:=by decide +kernel
section
variable {prog:Program} {w:World} {A:Around} {R:Result->Shared->Prop} {I:Addr} {fp wr:List Addr} {G:Array GenState->Array GenState->Prop} {n:Nat} {P:Nat->Value->Prop} {St:Nat->Shared->Prop} {KK:Type} [DecidableEq KK] {knd:KeyKind prog w KK}
end
section
variable {prog:Program} {w:World} {A:Around} {E:Value->Shared->Prop} {s:Shared} {KK:Type} [DecidableEq KK] {knd:KeyKind prog w KK}
end
end PySem
namespace L2
open PySem PySem.Spec PyProof.Rows
section
variable {prog:Program} {w:World} {A:Around}
end
section
open AutoSeq1 (wpAny_loadPart')
open MeetsSeq MeetsSeq2 MeetsSeq3
variable {prog:Program} {w:World}
end
end L2
namespace PySem
open PyProof.Rows
section
variable {prog:Program} {w:World} {A:Around} {R:Result->Shared->Prop} {I:Addr} {fp wr:List Addr} {G:Array GenState->Array GenState->Prop} {n:Nat} {P:Nat->Value->Prop} {St:Nat->Shared->Prop} {KK:Type} [DecidableEq KK] {knd:KeyKind prog w KK}
theorem Ar (W:WalksS prog w A.in1 I fp wr G n P St) (D:Addr) (hDf:D∉fp) (h0:Heap) (ks:List (KK×Value)) (hn:ks.length=n) (hz:n<=sizeLine)
  (hP:∀i v,P i v->∃u o m kv x k,v=.ref u/\ks[i]?=some (k,x)/\knd.is k kv=true/\h0.get? u=some o/\o.cls=.type "tuple" /\o.data=.seq #[kv,x] m) (hw:∀b o,h0.get? b=some o->b∉D:: wr):
  ∀(k i:Nat) (t:Tok) (s:Shared),n - i=k->i<=n->St i s->(∀b o,h0.get? b=some o->s.heap.get? b=some o)->s.heap.DictOf knd D (merged [] (ks.take i))->
   (∀s',Moved (D:: wr) G s s'->s'.heap.DictOf knd D (merged [] ks)->R (.ok (.ret .none)) s')->
   codeAny (model prog w) A (.builtin "dict.update.loop" ⟨[.ref D,.ref I,.int i t,.none],[]⟩) R s:=by
 have hDw:D∉wr:=λh=>hDf (W.sub _ h);have hsub:∀b∈wr,b∈D:: wr:=λb hb=>mem_cons_of_mem _ hb;intro k;induction k with
 | zero=>
  intro i t s hk hi hst hkp hD hR;have hin:i=n:=by lia
  subst hin;refine codeAny_builtin jL ?_;rw [Around.under_plainId eQ _];show wpAny _ A.in1 (pyNext (.ref I) >>= _) _ _ s;refine wpAny_bind (W.done s _ _ hst λs' hm=>?_);show wpAny _ A.in1 (Builtin.Dict.addKeywords D [] >>= _) _ _ s';refine wpAny_bind (wpAny_pure (wpAny_pure (hR s' (hm.mono hsub) ?_)));obtain⟨o,es,ep,ho,rest⟩:=hD;rw [<-hn,take_length] at rest;exact⟨o,es,ep,hm.heap D _ hDw ho,rest⟩
 | succ k ih=>
  intro i t s hk hi hst hkp hD hR;have hlt:i <n:=by lia
  refine codeAny_builtin jL ?_;rw [Around.under_plainId eQ _];show wpAny _ A.in1 (pyNext (.ref I) >>= _) _ _ s;refine wpAny_bind (W.item i s _ _ hlt hst λv s' hPi hst' hm=>?_);obtain⟨u,o,m,kv,x,ky,rfl,hks,hky,hu,hc,hd⟩:=hP i v hPi;have hkp':∀b o,h0.get? b=some o->s'.heap.get? b=some o:=λb o e=>hm.heap b o (λz=>hw b o e (hsub _ z)) (hkp b o e);have hu':=hkp' u o hu;have hD':s'.heap.DictOf knd D (merged [] (ks.take i)):=by obtain⟨o,es,ep,ho,rest⟩:=hD;exact⟨o,es,ep,hm.heap D _ hDw ho,rest⟩
  obtain⟨oc,od,oda,osl⟩:=o;simp only at hc hd;subst hc hd;have hT:s'.TypeIs (.ref u) "tuple" :=⟨_,hu',rfl⟩;show wpAny _ A.in1 (holding [Value.ref u] _ >>= _) _ _ s';refine wpAny_bind (wpAny_holding ?_);have hpi:wpAny (model prog w) A.in1 (Builtin.Dict.pairItems (.ref u)) (λl s2=>l=[kv,x]/\s2=s') (λ_ _=>False) s':=by
   obtain⟨hp,g,d,tk,os⟩:=s';unfold Builtin.Dict.pairItems;repeat (any_goals (first | assumption | wp_step))
   exact⟨Z,Z⟩
  refine wpAny_bind (wpAny_tryCatch (wpAny_mono hpi ?_ ?_))
  ·rintro l s2 ⟨rfl,rfl⟩;have est:stored (merged [] (ks.take i)) ky x=merged [] (ks.take (i+1)):=(merged_take_succ [] ks i (ky,x) hks).symm;have lms:=merged_length_le ([]:List (KK×Value)) (ks.take i);rw [length_take,length_nil] at lms;refine wpAny_holding (wpAny_dictSet_pairs hky hD' (λh' hd' hsb=>?_) (by lia));rw [est] at hd';refine wpAny_pure ⟨plainId_quiet eQ _,?_⟩;refine ih (i+1) _ _ (by lia) hlt (W.frame _ s2 _ _ hst' (le_succ _) λb hb o e=>?_) (λb o e=>?_) hd' λs'' hm'' hD''=>hR s'' (Moved.trans W.gtrans ((hm.mono hsub).then_heap (le_succ _) λb o hb e=>?_) hm'') hD''
   ·rw [hsb.2 b (λh:b=D=>hDf (by rw [<-h];exact hb))];exact e
   ·rw [hsb.2 b (λh:b=D=>hw b o e (by rw [h];exact .head _))];exact hkp' b o e
   ·rw [hsb.2 b (λh:b=D=>hb (by rw [h];exact .head _))];exact e
  ·intro e s2 h;exact h.elim
end
section
variable {prog:Program} {w:World} {A:Around} {E:Value->Shared->Prop} {s:Shared} {KK:Type} [DecidableEq KK] {knd:KeyKind prog w KK}
theorem Ak {l:Addr} {its:Array Value} {ks:List (KK×Value)} {Q:Value->Shared->Prop} (hh:A.handled=none) (hl:PlainL s.heap l its) (hz:its.size<=sizeLine) (hn:ks.length=its.size)
  (hP:∀(i:Nat) (v:Value),its[i]?=some v->∃(u:Addr) (o:Obj) (m:Nat) (kv x:Value) (k:KK),v=.ref u/\ks[i]?=some (k,x)/\knd.is k kv=true/\s.heap.get? u=some o/\o.cls=.type "tuple" /\o.data=.seq #[kv,x] m)
  (h:∀h' tk,h'.DictOf knd s.heap.objs.size (merged [] ks)->(∀b o,s.heap.get? b=some o->h'.get? b=some o)->Q (.ref s.heap.objs.size) { s with heap:=h',toks:=tk }):
  wpAny (model prog w) A (call (.type "dict") [.ref l]) Q E s:=by
 refine callType_codes (Q₁:=λobj s₁=>obj=.ref s.heap.objs.size/\s₁={ s with heap:=s.heap.push { cls:=.type "dict",data:=.dict #[] } }) F.kt_called_dict (F.kt_typeCall_dict_1 _) F.entry_dict_init (kt_code_dict_new _ ⟨rfl,rfl⟩) ?_;rintro obj s₁ ⟨rfl,rfl⟩;have hnew:(s.heap.push { cls:=.type "dict",data:=.dict #[] }).DictOf knd s.heap.objs.size []:=Heap.DictOf.new s.heap;obtain⟨ol,n,hx,hc,hdn,hdt⟩:=hl;have hlt:=Heap.lt_size hx;have hx1:(s.heap.push { cls:=.type "dict",data:=.dict #[] }).get? l=some ol:=Heap.get?_push_of_some _ hx;have hT1:Shared.TypeIs { s with heap:=s.heap.push { cls:=.type "dict",data:=.dict #[] } } (.ref l) "list" :=⟨_,hx1,hc⟩;refine⟨hnew.typeIs,F.args_dict_init_2 _ _,?_⟩;unfold Builtin.«dict.__init__»;refine wpAny_bind ?_;unfold Builtin.Dict.selfAndRest;refine wpAny_bind (wpAny_notOrdered_dict hnew.typeIs ?_);show wpAny _ _ (pure (s.heap.objs.size,[Value.ref l])) _ _ _;refine wpAny_pure ?_;show wpAny _ _ (Builtin.Dict.updateFrom "dict.__init__" s.heap.objs.size (.ref l) [] .none) _ _ _;unfold Builtin.Dict.updateFrom;refine wpAny_bind (wpAny_typeOf hT1 ?_);rw [if_pos (by decide)];refine wpAny_bind (Pn hx1 hc hdt hdn (by simp [hh]) λh1 tk1 kp1=>?_);show wpAny _ _ (rule _ >>= λ_=>pyIter (.ref l) >>= λit=>again (.builtin "dict.update.loop" ⟨[.ref s.heap.objs.size,it,rawInt 0,.none],[]⟩)) _ _ _;refine wpAny_bind (wpAny_rule (wpAny_bind ?_));have hx2:h1.get? l=some ol:=kp1 _ _ hx1;have hL2:h1.IsList l its:=⟨_,hx2,hc,n,hdt⟩;have hD2:h1.DictOf knd s.heap.objs.size []:=by obtain⟨o,es,ep,ho,rest⟩:=hnew;exact⟨o,es,ep,kp1 _ _ ho,rest⟩
 have hDlt:s.heap.objs.size <h1.objs.size:=by obtain⟨_,_,_,ho,_⟩:=hD2;exact Heap.lt_size ho
 have hl2:=Heap.lt_size hx2;have kp0:∀b o,s.heap.get? b=some o->h1.get? b=some o:=λb o e=>kp1 _ _ (Heap.get?_push_of_some _ e);refine wpAny_pyIter_list hL2 (wpAny_pure ⟨plainId_quiet eQ _,?_⟩);have hh2:A.in1.in1.handled=none:=by simp [hh]
 refine Ar (A:=A.in1) ((Walks.list hh2 h1.objs.size l (ne_of_lt hl2) its).toS) s.heap.objs.size ?_ s.heap ks hn hz hP (λb o e z=>?_) its.size 0 _ _ (by simp) (zero_le _) ⟨⟨_,Heap.get?_push_size _ Z,Z,Z⟩,hL2.push _⟩ (λb o e=>Heap.get?_push_of_some _ (kp0 b o e)) (hD2.push _) λs' hm hD'=>?_
 ·simp only [mem_cons,not_mem_nil,or_false,not_or];exact⟨ne_of_lt hDlt,ne_of_gt hlt⟩
 ·have h1':=Heap.lt_size e;simp only [mem_cons,not_mem_nil,or_false] at z;rcases z with z | z
  ·exact ne_of_lt h1' z
  ·exact ne_of_lt (Heap.lt_size (kp0 b o e)) z
 ·obtain⟨h',g',d',tk',os'⟩:=s';have eg:g'=s.gens:=hm.gens;have ed:d'=s.drawn:=hm.drawn;have eo:os'=s.os:=hm.os;subst eg;subst ed;subst eo;refine⟨Z,h h' tk' hD' λb o e=>?_⟩;have h1':=Heap.lt_size e;exact hm.heap b o (by simp only [mem_cons,not_mem_nil,or_false,not_or];exact⟨ne_of_lt h1',ne_of_lt (Heap.lt_size (kp0 b o e))⟩) (Heap.get?_push_of_some _ (kp0 b o e))
end
end PySem
namespace L2
open PySem PySem.Spec PyProof.Rows
noncomputable def kO:Option Key->V
 | none=>.non
 | some k=>kV k
theorem RV {P:Program} {w:World} {k:Option Key} {u:Value} (r:RelV (kO k) u):(lg P w).is k u=true:=by
 cases k with
 | none=>cases (show u=Value.none from r);rfl
 | some k=>exact Ck (P:=P) (w:=w) r
theorem W8 {P:Program} {w:World} {k:Option Key} {u:Value} (h:(lg P w).is k u=true):RelV (kO k) u:=by
 cases k with
 | none=>exact jD h
 | some k=>exact Mw (P:=P) (w:=w) h
noncomputable def dO (P:Program) (w:World) (a:Addr) (kvs:List (Option Key×V)):HO:=.ext λh=>kvs.length<=sizeLine/\(a == sysModules)=false/\∃vs,KV kvs vs/\h.DictOf (lg P w) a vs
noncomputable def yN (P:Program) (w:World) (H:Hp) (d:Addr) (kvs:List (Option Key×V)):Prop:=∃o,H d=some (.frz o (dO P w d kvs))
theorem yN.same {P:Program} {w:World} {H H':Hp} {d:Addr} {kvs:List (Option Key×V)} (h:yN P w H d kvs) (s:aO H H'):yN P w H' d kvs:=by obtain⟨o,e⟩:=h;exact⟨o,s _ _ e⟩
theorem Sv {P:Program} {w:World} {H:Hp} {h:Heap} {a:Addr} {kvs:List (Option Key×V)} {vs:List (Option Key×Value)} (z:kvs.length<=sizeLine) (hd:(a == sysModules)=false) (rel:KV kvs vs) (dd:h.DictOf (lg P w) a vs):∃o,dg P w H h a (.frz o (dO P w a kvs)):=by obtain⟨o,es,ep,ho,rest⟩:=dd;exact⟨o,ho,⟨z,hd,vs,rel,o,es,ep,ho,rest⟩,⟨o,ho⟩,λh1 h2 ⟨z,hd,vs,rel,o',es,ep,ho,rest⟩ k=>⟨z,hd,vs,rel,o',es,ep,k _ ho,rest⟩⟩
theorem yc {P:Program} {w:World} {H:Hp} {h:Heap} {a:Addr} {o:Obj} {kvs:List (Option Key×V)} (ok:rT P w H h) (e:H a=some (.frz o (dO P w a kvs))):h.get? a=some o/\kvs.length<=sizeLine/\(a == sysModules)=false/\∃vs,KV kvs vs/\h.DictOf (lg P w) a vs:=by obtain⟨q1,q2,_⟩:=(show dg P w H h a (.frz o (dO P w a kvs)) from ok a _ e);exact⟨q1,q2⟩
theorem Gf {X:Cx} {pins:List (Addr×Obj)} {σ:St} {H:Hp} {s:Shared} (I:Inv X pins σ H s):∀{rs:List Addr} {kvs:List (Option Key×V)},fD H rs (kvs.map λkv:Option Key×V=>[kO kv.1,kv.2])->∃ks:List (Option Key×Value),KV kvs ks/\∀(i:Nat) (u:Addr),rs[i]?=some u->∃(o:Obj) (m:Nat) (kv x:Value) (k:Option Key),ks[i]?=some (k,x)/\(lg X.prog X.w).is k kv=true/\s.heap.get? u=some o/\o.cls=.type "tuple" /\o.data=.seq #[kv,x] m
 | [],[],_=>⟨[],.nil,by simp⟩
 | r:: rs,kv:: kvs,.cons h t=>by
  obtain⟨ks,rel,hk⟩:=Gf I t;obtain⟨its,rv,⟨o,e,c,n,d⟩,_⟩:=I.tuple (fZ.of h);cases rv with
  | cons r1 rv=>
   cases rv with
   | cons r2 rv=>
    cases rv;refine⟨(kv.1,_):: ks,.cons ⟨Z,r2⟩ rel,λi u hu=>?_⟩;cases i with
    | zero=>
     simp only [getElem?_cons_zero,Option.some.injEq] at hu;subst hu;exact⟨o,n,_,_,_,Z,RV r1,e,c,d⟩
    | succ i=>exact hk i u (by simpa using hu)
noncomputable def lL (kvs more:List (Option Key×V)):List (Option Key×V):=more.foldl (λacc kv=>putK acc kv.1 kv.2) kvs
theorem KV.lL:∀{more:List (Option Key×V)} {rs:List (Option Key×Value)} {kvs:List (Option Key×V)} {vs:List (Option Key×Value)},KV more rs->KV kvs vs->KV (lL kvs more) (merged vs rs):=by
 intro more rs kvs vs r;unfold KV at r;induction r generalizing kvs vs with
 | nil=>intro q;exact q
 | @cons p q ps qs h t ih=>
  intro r0;have e:KV (putK kvs p.1 p.2) (stored vs q.1 q.2):=by have:=r0.put p.1 h.2;rw [<-h.1];exact this
  exact ih e
theorem vy:∀(more kvs:List (Option Key×V)),(lL kvs more).length<=kvs.length+more.length
 | [],kvs=>by show kvs.length<=kvs.length+0;lia
 | p:: r,kvs=>by have h1:=vy r (putK kvs p.1 p.2);have h2:=jE kvs p.1 p.2;show(lL (putK kvs p.1 p.2) r).length<=_;rw [length_cons];lia
theorem Tc {kvs:List (Option Key×V)} {k:Option Key} {v:V} {q:Option Key×V} (h:q∈putK kvs k v):q∈kvs∨q=(k,v):=by
 unfold putK at h;split at h
 ·obtain⟨p,hp,e⟩:=mem_map.mp h;by_cases hk:p.1=k
  ·rw [if_pos hk] at e;exact .inr (by rw [<-e,hk])
  ·rw [if_neg hk] at e;exact .inl (e ▸ hp)
 ·rcases mem_append.mp h with h | h
  ·exact .inl h
  ·exact .inr (mem_singleton.mp h)
theorem Df:∀{more kvs:List (Option Key×V)} {q:Option Key×V},q∈lL kvs more->q∈kvs∨q∈more
 | [],_,_,h=>.inl h
 | p:: r,kvs,q,h=>by
  rcases Df (more:=r) (kvs:=putK kvs p.1 p.2) h with h | h
  ·rcases Tc h with h | h
   ·exact .inl h
   ·exact .inr (by rw [h];exact .head _)
  ·exact .inr (.tail _ h)
theorem Mr {kvs:List (Option Key×V)} (nd:(kvs.map (·.1)).Nodup) (k:Option Key) (v:V):((putK kvs k v).map (·.1)).Nodup:=by
 unfold putK;split
 ·have e:(kvs.map λkv=>if kv.1=k then(kv.1,v) else kv).map (·.1)=kvs.map (·.1):=by rw [map_map];exact map_congr_left λp _=>by show(if p.1=k then(p.1,v) else p).1=p.1;split <;> rfl
  rw [e];exact nd
 ·rename_i h;rw [map_append];refine nodup_append.mpr ⟨nd,List.pairwise_singleton _ _,λa ha b hb=>?_⟩;obtain rfl:b=k:=by simpa using hb
  rintro rfl;obtain⟨p,hp,e⟩:=mem_map.mp ha;exact h (any_eq_true.mpr ⟨p,hp,decide_eq_true e⟩)
theorem yd:∀(more:List (Option Key×V)) {kvs:List (Option Key×V)},(kvs.map (·.1)).Nodup->((lL kvs more).map (·.1)).Nodup
 | [],_,h=>h
 | p:: r,_,h=>yd r (Mr h p.1 p.2)
theorem zp {X:Cx} (hc:X.calm=true):jj X (.type "dict") (λxs H Q=>∃(p:Addr) (rs:List Addr) (kvs:List (Option Key×V)),xs=[.ref p]/\bT X.K H p (rs.map V.ref)/\fD H rs (kvs.map λkv:Option Key×V=>[kO kv.1,kv.2])/\∀l o,H l=none->Q (.ref l) (upd H l (.frz o (dO X.prog X.w l (lL [] kvs))))):=by
 intro pins s σ H xs us Q I r h;obtain⟨p,rs,kvs,rfl,hq,hT,q⟩:=h;obtain⟨u,rfl,ru⟩:=vals1 r;cases ru;obtain⟨its,rv,pl,hz⟩:=I.list hq;have ll:=rv.length;rw [length_map] at ll hz;obtain⟨ks,rel,hk⟩:=Gf I hT;have lk:kvs.length=ks.length:=KV.length rel;have lr:rs.length=kvs.length:=by have:=Paired.length hT;rw [length_map] at this;exact this
 refine Ak (knd:=lg X.prog X.w) (ks:=ks) (I.ok.hd hc) pl (by simp;lia) (by simp;lia) (λi v hv=>?_) λh' tk hd kp=>?_
 ·have hi:i <its.length:=by have:=(Array.getElem?_eq_some_iff.mp hv).1;simpa using this
  obtain⟨u,e',r'⟩:=rv.get (i:=i) (x:=.ref (rs[i]'(by lia))) (by rw [getElem?_map,getElem?_eq_getElem (by lia)];rfl);have hv':its[i]?=some v:=by simpa using hv
  rw [hv'] at e';cases e';cases r';obtain⟨o,m,kv,x,k,h1,h2,h3,h4,h5⟩:=hk i (rs[i]'(by lia)) (getElem?_eq_getElem _);exact⟨_,o,m,kv,x,k,Z,h1,h2,h3,h4,h5⟩
 ·have lm:=vy kvs [];rw [length_nil] at lm;obtain⟨o,ok⟩:=Sv (H:=H) (by lia) (beq_eq_false_iff_ne.mpr (Ne.symm (ne_of_lt I.big))) (KV.lL rel (kvs:=[]) (vs:=[]) .nil) hd;refine⟨.ref s.heap.objs.size,_,I.laid (a:=s.heap.objs.size) (o:=.frz o (dO X.prog X.w s.heap.objs.size (lL [] kvs))) (t':=tk) kp (le_refl _) ok,Z,q _ o (I.hok.fresh (le_refl _))⟩
theorem El {X:Cx}:jj X (.type "dict") (λxs H Q=>∃d kvs,xs=[.ref d]/\yN X.prog X.w H d kvs/\∀l o,H l=none->Q (.ref l) (upd H l (.frz o (dO X.prog X.w l kvs)))):=by intro pins s σ H xs us Q I rx h;obtain⟨d,kvs,rfl,⟨o0,hr⟩,q⟩:=h;obtain⟨u,rfl,ru⟩:=vals1 rx;cases ru;obtain⟨_,z,hd,vs,rel,dd⟩:=yc I.hok hr;refine kt_call_dict hd dd (by rw [<-rel.length];exact z) λh' dd' hs=>?_;obtain⟨o,ok⟩:=Sv (H:=H) z (beq_eq_false_iff_ne.mpr (Ne.symm (ne_of_lt I.big))) rel dd';exact⟨.ref s.heap.objs.size,_,I.laid (a:=s.heap.objs.size) (o:=.frz o (dO X.prog X.w s.heap.objs.size kvs)) (t':=s.toks) (λb q hq=>(hs.2 b (ne_of_lt (Heap.lt_size hq))).trans (Heap.get?_push_of_some _ hq)) (le_refl _) ok,Z,q _ o (I.hok.fresh (le_refl _))⟩
noncomputable def Rg (P:Program) (w:World) (d:Addr) (kvs:List (Option Key×V)) (o:Obj):It:=
 ⟨λi H=>H d=some (.frz o (dO P w d kvs))/\i <kvs.length,λi H x H'=>H'=H/\∃k v,kvs[i]?=some (k,v)/\x=kO k,λi H=>H d=some (.frz o (dO P w d kvs))/\kvs.length<=i⟩
theorem Iw:∀{kvs:List (Option Key×V)} {vs:List (Option Key×Value)} {i:Nat} {k:Option Key} {v:V},KV kvs vs->kvs[i]?=some (k,v)->∃v',vs[i]?=some (k,v')/\RelV v v'
 | _,_,0,k,v,.cons h _,e=>by cases (Option.some.inj e);exact⟨_,by rw [getElem?_cons_zero,show k=_ from h.1],h.2⟩
 | _,_,i+1,k,v,.cons _ t,e=>by obtain⟨v',z⟩:=Iw (i:=i) (k:=k) (v:=v) t (by simpa using e);exact⟨v',by simpa using z⟩
theorem Mf {P:Program} {w:World} {K:Fr} {tg:Expr} {d it:Addr} {o:Obj} {kvs:List (Option Key×V)} {vs:List (Option Key×Value)} {ep:Nat} (rel:KV kvs vs) (hD:∀h:Heap,h.get? d=some o->h.DictAt (lg P w) d vs ep):
  Turn P w K tg (Rg P w d kvs o) [it] it (λi h=>h.IsKeyIter it d i vs.length ep) where
 mem:=by simp
 obj:=λi h st b hb=>by
  have e:b=it:=by simpa using hb
  subst e;obtain⟨o,e,c,d⟩:=st;exact⟨o,e,λv z=>by rw [d] at z;cases z⟩
 keep:=λi h h' st k=>st.at λo e=>k it (by simp) o e
 item:=by intro X hP hw hK hc i pins s σ H E I hf st hg;subst hP hw hK;obtain⟨hq,hi⟩:=hg;obtain⟨f0,f1,f2,f3,f4,f5⟩:=hf it (by simp);have ho:s.heap.get? d=some o:=(I.hok d _ hq).1;have hl:kvs.length=vs.length:=Paired.length rel;obtain⟨k,v,ek⟩:∃k v,kvs[i]?=some (k,v):=⟨_,_,getElem?_eq_getElem hi⟩;obtain⟨v',ev,_⟩:=Iw rel ek;refine wpAny_pyNext_dict_item st (hD _ ho) ev λkey h' hk st' sb=>?_;have I1:Inv X pins σ H { s with heap:=h' }:=I.turned (t':=s.toks) (λb o hb e=>(sb.2 b hb).trans e) f0 f1 f3 f4 f5;obtain⟨o',e,c,dd⟩:=id st';exact⟨key,rfl,Fw (s:={ s with heap:=h' }) e c dd (by decide) ⟨kO k,H,I1,W8 hk,⟨rfl,k,v,ek,rfl⟩,st',λb hb=>(hf b hb).1⟩⟩
 done:=by intro X hP hw hK hc i pins s σ H E I hf st hg;subst hP hw hK;obtain⟨hq,hi⟩:=hg;obtain⟨f0,f1,f2,f3,f4,f5⟩:=hf it (by simp);have ho:s.heap.get? d=some o:=(I.hok d _ hq).1;have hl:kvs.length=vs.length:=Paired.length rel;exact wpAny_pyNext_dict_end (I.ok.hd hc) st (hD _ ho) (getElem?_eq_none (by lia)) λh' eb=>⟨Z,I.turned (t':=s.toks) (λb o hb e=>eb b o hb e) f0 f1 f3 f4 f5⟩
 self:=λ_ _ _ _ _ st h=>wpAny_pyIter_keyiter st h
noncomputable def Yj (P:Program) (w:World) (td:TE):TI:=λσ H R=>td σ H λx H1=>∃d kvs,x=.ref d/\yN P w H1 d kvs/\∀o,H1 d=some (.frz o (dO P w d kvs))->R (Rg P w d kvs o) H1
theorem yo {X:Cx} {tg l:Expr} {td:TE} (hl:PE X l td):PI X tg l (Yj X.prog X.w td):=by
 intro pins s σ H R I h;refine dC (hl pins s σ H _ I h) λv s1 hpt=>?_;obtain⟨x,H1,I1,r1,q1⟩:=hpt;obtain⟨d,kvs,e,⟨o,ed⟩,q⟩:=q1;subst e;cases r1;obtain⟨ho,_,hd,vs,rel,o0,es,ep,ho0,r⟩:=yc I1.hok ed;obtain rfl:o0=o:=Option.some.inj (ho0.symm.trans ho);have hD:∀h:Heap,h.get? d=some o0->h.DictAt (lg X.prog X.w) d vs ep:=λh z=>⟨o0,es,z,r⟩;refine wpAny_pyIter_dict hd (hD _ ho) ?_;refine⟨s1.heap.objs.size,[s1.heap.objs.size],_,_,_,Z,I1.kept (t':=s1.toks) λb o e=>Heap.get?_push_of_some _ e,Mf rel hD,⟨_,Heap.get?_push_size _ Z,Z,Z⟩,λb hb=>?_,q o0 ed⟩;have e:b=s1.heap.objs.size:=by simpa using hb
 subst e;exact I1.fpOk (le_refl _) (I1.hok.fresh (le_refl _))
theorem uR {P:Program} {w:World} {d:Addr} {o:Obj} {kvs:List (Option Key×V)} {g:TG} {tb:TS} {D:Ends} {σ:St} {H:Hp} (Pv:Nat->St->Hp->Prop) (h0:Pv 0 σ H) (hl:∀i σ H,i<=kvs.length->Pv i σ H->H d=some (.frz o (dO P w d kvs)))
  (hs:∀i k v σ H,kvs[i]?=some (k,v)->Pv i σ H->g (kO k) σ H λσ2 H2=>tb { D with nx:=Pv (i+1),ct:=Pv (i+1),bk:=D.nx } σ2 H2) (hd:∀σ H,Pv kvs.length σ H->D.nx σ H):
  ∃W:Nat->Nat->St->Hp->Prop,(∃m,W 0 m σ H)/\∀i m σ H,W i m σ H->
   ((Rg P w d kvs o).stop i H/\D.nx σ H)∨((Rg P w d kvs o).go i H/\∃N:St->Hp->Prop,(∀σ' H',N σ' H'->∃m',m' <m/\W (i+1) m' σ' H')/\∀x H',(Rg P w d kvs o).yld i H x H'->g x σ H' λσ2 H2=>tb { D with nx:=N,ct:=N,bk:=D.nx } σ2 H2):=by
 refine⟨λi m σ H=>m=kvs.length - i/\i<=kvs.length/\Pv i σ H,⟨kvs.length,by simp,zero_le _,h0⟩,?_⟩;rintro i m σ H ⟨rfl,hi,p⟩;have q:=hl i σ H hi p;by_cases hlt:i <kvs.length
 ·refine .inr ⟨⟨q,hlt⟩,Pv (i+1),λσ' H' p'=>⟨kvs.length - (i+1),by lia,Z,hlt,p'⟩,λx H' y=>?_⟩;obtain⟨rfl,k,v,ek,rfl⟩:=y;exact hs i k v σ _ ek p
 ·obtain rfl:i=kvs.length:=by lia
  exact .inl ⟨⟨q,le_refl _⟩,hd σ H p⟩
inductive MF (P:Program) (w:World) (Q:VK) (x y:V) (H:Hp):Prop where
 | mk:∀d kvs k v,x=.ref d->yN P w H d kvs->y=kO k->b8 kvs k=some v->Q v H->MF P w Q x y H
noncomputable def Yr (P:Program) (w:World) (td ty:TE):TE:=λσ H Q=>td σ H λx H1=>ty σ H1 λy H2=>MF P w Q x y H2
theorem Kq {X:Cx} {o i:Expr} {td ty:TE} {pos:Pos} (ho:PE X o td) (hi:PE X i ty) (hs:X6 i):PE X (.Subscript o i pos) (Yr X.prog X.w td ty):=by intro pins s σ H Q I h;refine Nj PySem.F.slot_dict_getitem.lookup hs (dC (ho pins s σ H _ I h) λu s1 ⟨x,H1,I1,rx,q1⟩=>dC (hi pins s1 σ H1 _ I1 q1) λiv s2 hpt=>?_);obtain⟨y,H2,I2,ry,q2⟩:=hpt;obtain⟨d,kvs,k,v,ex,⟨o,ed⟩,ey,hv,q⟩:=q2;subst ex ey;obtain rfl:u=Value.ref d:=rx;obtain⟨_,z,hd,vs,rel,dd⟩:=yc I2.hok ed;obtain⟨w',hw,rw'⟩:=oE.some_of (v:=v) (o:=valueAt vs k) (by rw [<-hv];exact rel.val k);exact⟨dd.typeIs,wpAny_getItem_of (RV ry) dd.mapOf hw ⟨v,H2,I2.tok _,rw',q⟩⟩
inductive Jm (P:Program) (w:World) (ty tx:TE) (σ:St) (Q:VK) (x:V) (H1:Hp):Prop where
 | mk:∀d kvs,x=.ref d->yN P w H1 d kvs->(ty σ H1 λy H2=>tx σ H2 λz H3=>yN P w H3 d kvs/\∃k,y=kO k/\Q ((b8 kvs k).getD z) H3)->Jm P w ty tx σ Q x H1
noncomputable def Uo (P:Program) (w:World) (td ty tx:TE):TE:=λσ H Q=>td σ H λx H1=>Jm P w ty tx σ Q x H1
theorem O3 {X:Cx} {o e f:Expr} {td ty tx:TE} {apos cpos:Pos} (ho:PE X o td) (he:PE X e ty) (hf:PE X f tx) (m:M2 X o "get" apos e f cpos):PE X (.Call (.Attribute o "get" apos) [e,f] [] cpos) (Uo X.prog X.w td ty tx):=by
 intro pins s σ H Q I h;refine wpAny_Call_method m.base m.few m.line PySem.F.plainAttrs_dict PySem.F.slot_dict_get PySem.F.type_dict_get (dC (ho pins s σ H _ I h) λu s1 hpt=>?_);obtain⟨x,H1,I1,rx,q1⟩:=hpt;obtain⟨d,kvs,ex,⟨o,ed⟩,q1⟩:=q1;subst ex;obtain rfl:u=Value.ref d:=rx;obtain⟨_,z,hd,vs,rel,dd⟩:=yc I1.hok ed;refine⟨dd.typeIs,λb q=>?_,?_⟩
 ·cases q;obtain⟨ob,_,_,h1,h2,_⟩:=dd;exact⟨ob,h1,h2.2.1⟩
 rw [m.trees];refine Calls.callWith_builtin Z (Calls.evalArgs_plain (Calls.spliced_cons (dC (he pins s1 σ H1 _ I1 q1) λiv s2 ⟨y,H2,I2,ry,q2⟩=>
  Calls.spliced_cons (dC (hf pins s2 σ H2 _ I2 q2) λfv s3 ⟨z,H3,I3,rz,⟨o3,e3⟩,k,ey,q3⟩=>Calls.spliced_nil ?_))))
 subst ey;obtain⟨_,z3,hd3,vs3,rel3,dd3⟩:=yc I3.hok e3;refine call_meetsIn PySem.F.slot_dict_get dd3.typeIs PySem.F.entry_dict_get (PySem.F.args_dict_get_3 _ _ _) (meets_dict_get_default (lg X.prog X.w) d (RV ry) hd3 fv) ⟨_,dd3.mapOf,_,H3,I3.tok _,?_,q3⟩;exact(rel3.val k).getD rz
theorem YT {A:Around} {s:Shared} {a:Addr}:SeqAt.EqAt A s (.ref a) (.ref a) true:=λprog w E Q h=>by unfold eqBool;refine wpAny_holding ?_;refine wpAny_ite_split (λ_=>wpAny_bind (wpAny_rule (wpAny_pure h))) (λz=>absurd (by simp) z)
noncomputable def M4:V->Bool
 | .non=>true
 | .bl _=>true
 | .int _=>true
 | .str _=>true
 | .ref _=>true
 | _=>false
theorem Qw {A:Around} {s:Shared} {x:V} {u v:Value} (h:M4 x=true) (ru:RelV x u) (rv:RelV x v):SeqAt.EqAt A s u v true:=by
 cases x with
 | non=>cases (show u=Value.none from ru);cases (show v=Value.none from rv);exact WN
 | bl b=>
  cases (show u=Value.bool b from ru);cases (show v=Value.bool b from rv);have:=PySem.W.keq_flat (A:=A) (s:=s) (PyProof.V.Flat.bool b) (PyProof.V.Flat.bool b);rwa [show PyData.eqv (.bool b) (.bool b)=true by cases b <;> rfl] at this
 | int i=>
  obtain⟨t1,rfl⟩:=ru;obtain⟨t2,rfl⟩:=rv;have:=PySem.W.keq_flat (A:=A) (s:=s) (PyProof.V.Flat.int i t1) (PyProof.V.Flat.int i t2);rwa [show PyData.eqv (.int i) (.int i)=true by simp [PyData.eqv]] at this
 | str x=>
  obtain⟨t1,rfl⟩:=ru;obtain⟨t2,rfl⟩:=rv;have:=PySem.W.keq_flat (A:=A) (s:=s) (PyProof.V.Flat.str x t1) (PyProof.V.Flat.str x t2);rwa [show PyData.eqv (.str x) (.str x)=true by simp [PyData.eqv]] at this
 | ref a=>cases (show u=Value.ref a from ru);cases (show v=Value.ref a from rv);exact YT
 | _=>cases h
theorem ux:∀{vs:List (Option Key×Value)} {n:Nat} {k:Option Key} {v:Value},(vs.map (·.1)).Nodup->vs[n]?=some (k,v)->valueAt vs k=some v
 | p:: r,0,k,v,_,e=>by cases (Option.some.inj e);simp [valueAt]
 | p:: r,n+1,k,v,nd,e=>by
  rw [map_cons,nodup_cons] at nd;have e':r[n]?=some (k,v):=by simpa using e
  have ne:p.1≠k:=λz=>nd.1 (by rw [z];exact mem_map.mpr ⟨(k,v),mem_of_getElem? e',rfl⟩);have ih:=ux nd.2 e';unfold valueAt at ih ⊢;rw [find?_cons,decide_eq_false ne];exact ih
theorem Ko:∀{kvs:List (Option Key×V)} {vs:List (Option Key×Value)} {i:Nat} {k:Option Key} {v:Value},KV kvs vs->vs[i]?=some (k,v)->∃v0,kvs[i]?=some (k,v0)/\RelV v0 v
 | _,_,0,k,v,@Paired.cons _ _ _ p _ kvs _ h _,e=>by cases (Option.some.inj e);exact⟨p.2,by rw [getElem?_cons_zero,show p=(k,p.2) from by rw [show k=p.1 from h.1.symm]],h.2⟩
 | _,_,i+1,k,v,.cons _ t,e=>by obtain⟨v0,z,r⟩:=Ko (i:=i) (k:=k) (v:=v) t (by simpa using e);exact⟨v0,by simpa using z,r⟩
theorem Ke {A:Around} {s:Shared} {kvs0:List (Option Key×V)} {va vb:List (Option Key×Value)} (ra:KV kvs0 va) (rb:KV kvs0 vb) (nd:(vb.map (·.1)).Nodup) (hn:∀kv∈kvs0,M4 kv.2=true):
  ∀(n:Nat) {ka:List (Option Key×Value)},ka=va.drop n->PySem.W.KeqHits A s vb ka true:=by
 intro n ka e;induction ka generalizing n with
 | nil=>exact .nil
 | cons kv r ih=>
  obtain⟨k,v⟩:=kv;have hv:va[n]?=some (k,v):=by have:=congrArg (·[0]?) e;simpa using this.symm
  obtain⟨v0,e0,r0⟩:=Ko ra hv;obtain⟨v',e',r'⟩:=Iw rb e0;have hd:r=va.drop (n+1):=by have hlt:n <va.length:=(List.getElem?_eq_some_iff.mp hv).1;rw [List.drop_eq_getElem_cons hlt] at e;exact(List.cons.inj e).2
  exact PySem.W.KeqHits.hit (e:=true) (b:=true) (ux nd e') (Qw (hn _ (mem_of_getElem? e0)) r0 r') (ih _ hd)
noncomputable def Sg (P:Program) (w:World) (x y:V) (H:Hp):Prop:=∃p q kvs,x=.ref p/\y=.ref q/\yN P w H p kvs/\yN P w H q kvs/\∀kv∈kvs,M4 kv.2=true
theorem Yn {X:Cx} (hu:X.A.units+100 <cLine):vU X (compareOp .Eq) (λx y H Q=>Sg X.prog X.w x y H/\Q (.bl true) H):=by intro pins s σ H x y v u Q I rx ry h;obtain⟨⟨p,q,kvs,rfl,rfl,⟨o1,h1⟩,⟨o2,h2⟩,hn⟩,hq⟩:=h;cases rx;cases ry;obtain⟨_,_,a1,va,r1,d1⟩:=yc I.hok h1;obtain⟨_,_,a2,vb,r2,d2⟩:=yc I.hok h2;obtain⟨_,_,_,_,_,_,_,_,nd⟩:=id d2;refine PySem.W.keq_eq a1 a2 d1 d2 (by lia) (λ_=>Ke r1 r2 nd hn 0 (by simp)) ?_;have e:va.length=vb.length:=(Paired.length r1).symm.trans (Paired.length r2);rw [e,beq_self_eq_true,Bool.true_and];exact cH I hq Z
theorem Yo {X:Cx} (hu:X.A.units+100 <cLine):vU X (compareOp .NotEq) (λx y H Q=>Sg X.prog X.w x y H/\Q (.bl false) H):=by intro pins s σ H x y v u Q I rx ry h;obtain⟨⟨p,q,kvs,rfl,rfl,⟨o1,h1⟩,⟨o2,h2⟩,hn⟩,hq⟩:=h;cases rx;cases ry;obtain⟨_,_,a1,va,r1,d1⟩:=yc I.hok h1;obtain⟨_,_,a2,vb,r2,d2⟩:=yc I.hok h2;obtain⟨_,_,_,_,_,_,_,_,nd⟩:=id d2;refine PySem.W.keq_ne a1 a2 d1 d2 (by lia) (λ_=>Ke r1 r2 nd hn 0 (by simp)) ?_;have e:va.length=vb.length:=(Paired.length r1).symm.trans (Paired.length r2);rw [e,beq_self_eq_true,Bool.true_and];exact cH I hq Z
theorem KR {X:Cx} {K:Fr} (hK:X.K=K):jj X (.builtin "isinstance") (λxs H Q=>∃y C d tp D1 D2 b,xs=[.ref y,.ref tp]/\H y=some (caught y C d)/\Qn K C/\H tp=some (.tup [.ref D1,.ref D2])/\PySem.W.kitAny K (.ref C) [.ref D1,.ref D2]=some b/\Q (.bl b) H):=by
 subst hK;intro pins s σ H xs us Q I r h;obtain⟨y,C,d,tp,D1,D2,b,rfl,hy,x,ht,hc,q⟩:=h;obtain⟨u,w',rfl,rx,ry⟩:=vals2 r;cases rx;cases ry;have p:Hq y C s.heap:=by
  have z:=I.hok y _ hy;cases d with
  | some dx=>obtain⟨⟨_,_,w⟩,_⟩:=z;exact⟨_,w,rfl⟩
  | none=>obtain⟨⟨_,w,e⟩,_⟩:=z;exact⟨_,w,e⟩
 obtain⟨_,its,rv,⟨⟨cl,dd,dt,sl⟩,e1,e2,n,e3⟩⟩:=(show dg X.prog X.w H s.heap tp (.tup [.ref D1,.ref D2]) from I.hok tp _ ht);simp only at e2 e3;subst e2 e3;obtain rfl:its=[.ref D1,.ref D2]:=by
  cases rv with
  | cons r1 rv=>cases rv with
   | cons r2 rv=>cases rv;cases r1;cases r2;rfl
 exact PySem.W.kia_tup (Bl x) I.kIn p e1 hc (by intro e;cases e) λtk=>⟨.bl b,H,I.tok tk,rfl,q⟩
noncomputable def Vy:V->List V->Hp->VK->Prop:=λx vs H Q=>∃l xs y,∃i:Nat,∃k:Int,x=.ref l/\vs=[.int k,y]/\k=(i:Int)/\i<=xs.length/\H l=some (.lst xs)/\xs.length <sizeLine/\Q .non (upd H l (.lst (xs.take i ++ y:: xs.drop i)))
theorem Qu {i:Nat} (h:i<=16777216):Builtin.List.listFitsIndex (i:Int)=true:=by unfold Builtin.List.listFitsIndex;rw [decide_eq_true (show -(2 ^ 63:Int)<=(i:Int) by lia),decide_eq_true (show(i:Int) <2 ^ 63 by lia)];rfl
theorem Pr {X:Cx}:Zg X "list.insert" Vy:=by
 intro pins s σ H x vs v us Q I rx rv h;obtain⟨l,xs,y,i,k,rfl,rfl,hk,hi,hH,hz,q⟩:=h;cases rx;obtain⟨u1,u2,rfl,r1,r2⟩:=vals2 rv;obtain⟨tk,rfl⟩:=r1;obtain⟨z,its,n,r,hl,e⟩:=I.lstM hH;have hs:=sizeLine_eq;have len:=r.length;have fits:Builtin.List.listFitsIndex k=true:=by rw [hk];exact Qu (by lia)
 have m:=PySem.AutoSeq1.list_insert_list_int_val_1 l its.toArray n k tk u2 (by rw [fits];decide) (by rw [size_toArray];lia);refine call_meets F.slot_list_insert ⟨_,e,Z⟩ F.entry_list_insert (F.args_list_insert_3 _ _ _) m ⟨e,?_⟩;refine⟨.non,_,I.lset (its':=its.take i ++ u2:: its.drop i) hH e ?_ ((r.take i).append (.cons r2 (r.drop i))) ?_,Z,q⟩
 ·have hk2:(if k <0 then(k+(its.toArray.size:Int)).toNat else min k.toNat its.toArray.size)=i:=by
   rw [if_neg (by lia),size_toArray]
   lia
  show(its.toArray.extract 0 (if k <0 then(k+(its.toArray.size:Int)).toNat else min k.toNat its.toArray.size)).push u2 ++ its.toArray.extract (if k <0 then(k+(its.toArray.size:Int)).toNat else min k.toNat its.toArray.size)=_;rw [hk2];simp;exact take_of_length_le (by rw [length_drop];exact le_refl _)
 ·rw [length_append,length_cons,length_take,length_drop]
  lia
end L2
namespace One
open PySem PySem.W PySem.Calls PyProof.Rows
def Gk:Nat->BT->List Obj->BT
 | _,t,[]=>t
 | n,t,o:: r=>Gk (n+1) (t.ins n o) r
def Iz:Nat->BT->List Obj->Bool
 | _,_,[]=>true
 | n,t,o:: r=>((t.ins n o).get n).isSome && Iz (n+1) (t.ins n o) r
theorem Fx {life:Life}:∀(l:List Obj) (n:Nat) (t:BT) (as:List Obj),absHeap t n life=⟨as.toArray,life⟩->Iz n t l=true->absHeap (Gk n t l) (n+l.length) life=⟨(as ++ l).toArray,life⟩
 | [],n,t,as,h,_=>by simpa [Gk] using h
 | o:: r,n,t,as,h,k=>by simp only [Iz,and_eq_true] at k;have e:=absHeap_ins (life:=life) k.1;rw [h] at e;have:=Fx r (n+1) (t.ins n o) (as ++ [o]) (by rw [e];simp [Heap.push]) k.2;rw [append_assoc] at this;rw [length_cons,show n+(r.length+1)=n+1+r.length by omega];exact this
def Zq (tb:String->Option Builtin) (p:Program) (w:World) (m:Nat) (an:Option Value):Nat->SharedT->Thread->Option (SharedT×Thread)
 | 0,s,t=>some (s,t)
 | n+1,s,t=>match through t with
  | true=>some (s,t)
  | false=>match stepOk m an t with
   | false=>none
   | true=>match stepT (denote tb) p w s t with
    | some (s',t')=>Zq tb p w m an n s' t'
    | none=>none
theorem Sd {tb:String->Option Builtin} {p:Program} {w:World} {m:Nat} {an:Option Value}:∀{n:Nat} {s s':SharedT} {t t':Thread},Zq tb p w m an n s t=some (s',t')->through t'=true->topRun tb p w m an (n+1) s.abs t=some s'.abs
 | 0,s,s',t,t',h,z=>by obtain⟨rfl,rfl⟩:=Prod.mk.inj (Option.some.inj h);unfold topRun;rw [z]
 | n+1,s,s',t,t',h,z=>by
  unfold Zq at h;unfold topRun;cases e1:through t with
  | true=>
   rw [e1] at h;obtain⟨rfl,rfl⟩:=Prod.mk.inj (Option.some.inj h);rfl
  | false=>
   rw [e1] at h;cases e2:stepOk m an t with
   | false=>rw [e2] at h;cases h
   | true=>
    rw [e2] at h;cases e3:stepT (denote tb) p w s t with
    | none=>rw [e3] at h;cases h
    | some r=>
     obtain⟨s2,t2⟩:=r;rw [e3] at h;rw [stepT_spec e3];exact Sd h z
def ends (r:SharedT×Thread):Option SharedT:=match through r.2 with
 | true=>some r.1
 | false=>none
theorem UV {tb:String->Option Builtin} {p:Program} {w:World} {m:Nat} {an:Option Value} {n:Nat} {s s':SharedT} {t:Thread} (h:(Zq tb p w m an n s t).bind ends=some s'):topRun tb p w m an (n+1) s.abs t=some s'.abs:=by
 obtain⟨⟨s2,t2⟩,e1,e2⟩:=Option.bind_eq_some_iff.mp h;unfold ends at e2;cases z:through t2 with
 | false=>simp only [z] at e2;cases e2
 | true=>
  simp only [z] at e2;cases e2;exact Sd e1 z
noncomputable def YH (P:Params):Option Value:=(boot_heap P).nsMap mainGlobals "__annotations__"
noncomputable def S0 (w:World) (os:OsState):SharedT:=⟨Gk 0 .nil (boot_heap w.params).objs.toList,11,{},Array.mk [],boot_drawn,boot_toks,os⟩
theorem Yh (w:World) (os:OsState):(S0 w os).abs=⟨boot_heap w.params,Array.mk [],boot_drawn,boot_toks,os⟩:=by have e:=Fx (life:={}) (boot_heap w.params).objs.toList 0 .nil [] rfl (by rfl);have e2:absHeap (Gk 0 .nil (boot_heap w.params).objs.toList) 11 {}=boot_heap w.params:=e;show(⟨absHeap (Gk 0 .nil (boot_heap w.params).objs.toList) 11 {},_,_,_,_⟩:Shared)=_;rw [e2];rfl
noncomputable def XF (p:Program) (M:Nat) (w:World) (os:OsState):Option SharedT:=(Zq treeTable p w 11 (YH w.params) M (S0 w os) (topStub p)).bind ends
noncomputable def Tj (p q:Program) (loose:List Str) (Xt:Shared->Bool) (M:Nat) (w:World) (os:OsState):=
 (XF p M w os).map λs=>(staticsOk (importedModules p.main.body) (boot_heap w.params) s.abs.heap && namesBound p s.abs.heap && gensDone s.abs && laidKept (boot_heap w.params) s.abs.heap,openSeen q loose (importedModules p.main.body) Xt true s.abs)
theorem Vj {p q:Program} {loose:List Str} {Xt:Shared->Bool} {α:Type} {Yf:Shared->α} {Ya:World->α} {N M:Nat} (e:opening p=plainProg p.main.scope.names) (hN:Nat.ble 600 N=true) (f:∀s,fenceModules? p s=some s) (le:Nat.ble (M+1) N=true)
  (A:∀w os,Tj p q loose Xt M w os=some (true,openGood q loose)) (B:∀w os,(XF p M w os).map (λs=>Yf s.abs)=some (Ya w)):LeftO p q loose Xt Yf Ya N:=λw=>by
 obtain⟨⟨h,gs,d,k,os⟩,e1,e2⟩:=map_eq_some_iff.mp (boot_open e hN f w);obtain⟨rfl,rfl,rfl,rfl⟩:h=boot_heap w.params/\gs=Array.mk []/\d=boot_drawn/\k=boot_toks:=by simpa using e2
 obtain⟨s1,r1,l1⟩:=map_eq_some_iff.mp (A w os);obtain⟨s2,r2,l2⟩:=map_eq_some_iff.mp (B w os);rw [r1] at r2;cases r2;obtain⟨l3,l4⟩:=Prod.mk.inj l1;have r3:=UV r1;rw [Yh] at r3;have r4:=topRun_mono (N - (M+1)) _ _ _ _ r3;rw [show M+1+(N - (M+1))=N by have:=Nat.le_of_ble_eq_true le;omega] at r4;have t:topFrom treeTable p w N ⟨boot_heap w.params,Array.mk [],boot_drawn,boot_toks,os⟩=some s1.abs:=by
  unfold topFrom;have z1:((boot_heap w.params).isNs mainGlobals && (Array.mk []:Array GenState).size == 0)=true:=by kernel_rfl
  dsimp only;rw [z1];show((topRun treeTable p w 11 (YH w.params) N _ _).bind _)=_;rw [r4];show(match staticsOk (importedModules p.main.body) (boot_heap w.params) s1.abs.heap && namesBound p s1.abs.heap && gensDone s1.abs && laidKept (boot_heap w.params) s1.abs.heap with | true=>_ | false=>_)=_;rw [l3]
 unfold openEnds;rw [e1];show(topFrom treeTable p w N _).map _=_;rw [t];exact congrArg some (Prod.ext l4 l2)
def wQ (s:SharedT) (a:Addr):Option Obj:=match Nat.blt a s.n with
 | true=>(match s.tree.get a with | some o=>alive o | none=>none)
 | false=>none
theorem Qx {s:SharedT} {a:Addr} {o:Obj} (h:wQ s a=some o):s.abs.heap.get? a=some o:=by
 unfold wQ at h;cases e:Nat.blt a s.n with
 | false=>rw [e] at h;cases h
 | true=>
  rw [e] at h;cases g:s.tree.get a with
  | none=>rw [g] at h;cases h
  | some x=>
   rw [g] at h;exact(abs_get (Nat.le_of_ble_eq_true e) g).trans h
theorem N7 {s:SharedT}:∀{as:List Addr} {l:List (Addr×Obj)},as.map (wQ s)=l.map (λp=>some p.2)->as.map s.abs.heap.get?=l.map λp=>some p.2
 | [],[],_=>rfl
 | [],_:: _,h=>by cases h
 | _:: _,[],h=>by cases h
 | a:: as,x:: l,h=>by have h1:=List.cons.inj h;show s.abs.heap.get? a:: as.map _=_;rw [Qx h1.1,N7 h1.2];rfl
theorem chunk {o:Option SharedT} {as:List Addr} {l:List (Addr×Obj)} (n:Nat) (h1:o.map (λs=>(as.take n).map (wQ s))=some ((l.take n).map λp=>some p.2)) (h2:o.map (λs=>(as.drop n).map (wQ s))=some ((l.drop n).map λp=>some p.2)):
  o.map (λs=>as.map (wQ s))=some (l.map λp=>some p.2):=by
 obtain⟨s,e1,e2⟩:=map_eq_some_iff.mp h1;subst e1;have e3:=Option.some.inj h2;show some (as.map (wQ s))=_;rw [<-take_append_drop n as,<-take_append_drop n l,map_append,map_append];exact congrArg some (congr (congrArg _ e2) e3)
theorem Ux {o:Option SharedT} {w:World} {K:Params->Frag} {as:List Addr} {e:∀P,as=(K P).map (·.1)} (h:o.map (λs=>as.map (wQ s))=some ((K w.params).map λp=>some p.2)):
  o.map (λs=>Hook.obs (kHook K as e) s.abs)=some (Hook.val (kHook K as e) w):=by
 obtain⟨s,h1,h2⟩:=map_eq_some_iff.mp h;rw [h1];exact congrArg some (N7 h2)
end One
namespace HD
open PySem PySem.W PySem.Calls PyProof.Rows
abbrev rr:OpenRow:=OpenLaw.row PySem.Challenge.rw_holdlane_k33_rows_refused
def q:Program:=view PySem.Challenge.pw_holdlane_k33_rows_refused [83]
def loose:List PySem.Str:=(["_wall", "LaneError", "BadWord", "TooMany", "NoKind", "BadName", "Doubled", "NoSuch", "BadNumbers", "BadLanes", "BadRoom", "Open", "Loose", "BadRow", "Flow", "VALUES"]:List PySem.Str) ++ (["FIGURES", "LETTERS", "LONGEST_NAME", "is_whole", "is_value", "is_name", "rest", "LONGEST_ROW", "MOST_WORKINGS", "is_row", "need_rows", "plain_rows", "work_out", "COUNTS", "Part", "Give"]:List PySem.Str) ++ (["Take", "Pass", "Copy", "Turn", "Heap", "Add", "Less", "Order", "Choose", "Split", "is_kind", "need_fit", "made_of", "part_made", "MOST_LANES", "MOST_PARTS"]:List PySem.Str) ++ (["MOST_ROOM", "need_counts", "need_fresh", "need_lane", "fresh_part", "tie_lanes", "need_ends", "joined_with", "need_joined", "Net", "_law_cell", "_law_mix", "_law_value", "_law_word", "_law_lane", "_law_part"]:List PySem.Str) ++ (["_law_pick", "_law_two", "_law_loop", "_law_step", "_law_closed", "_law_net", "_law_bad_row", "_law_bad_name", "_law_drawn", "_law_is_row", "_law_due", "_law_told"]:List PySem.Str)
def Xt (s:Shared):Bool:=xlAt q [] s && recOk (RowW.records (OpenRow.toRowW (OpenLaw.row PySem.Challenge.rw_holdlane_k33_rows_refused))) s
structure KA where
 K:Params->Frag
 as:List Addr
def pickK {r:OpenRow} {K:Params->Frag} {as:List Addr} (_:(∀H:Hook,(∃e,H=kHook K as e)->r.Holds)->r.Holds):KA:=⟨K,as⟩
local macro_rules | `(tactic| o_head $H)=>`(tactic| (rename_i hh;exact hh $H ⟨_,rfl⟩))
noncomputable def ka:KA:=pickK (r:=rr) (λ_=>by k_head)
theorem Uv (P:Params):KA.as ka=(ka.heap_1 P).map (·.1):=by kernel_rfl
noncomputable def runC:World->OsState->Option SharedT:=λw os=>One.XF PySem.Challenge.pw_holdlane_k33_rows_refused 14060 w os
noncomputable def Ha:=fun(w:World) (os:OsState)=>One.Tj PySem.Challenge.pw_holdlane_k33_rows_refused q loose Xt 14060 w os
noncomputable def NK:=some (true,openGood q loose)
theorem Xw:runC=runC:=rfl
name_quick runQ for HD.runC by HD.Xw
theorem Ra:Ha=Ha:=rfl
name_quick looksQ for HD.Ha by HD.Ra
theorem Ut:NK=NK:=rfl
name_quick goodQ for HD.NK by HD.Ut
theorem A0 (w:World) (os:OsState):PySem.W.Fast.looksQ (w.withFollow "special-get-raises" false) os=PySem.W.Fast.goodQ:=by kernel_rfl
theorem aak (w:World) (os:OsState):(PySem.W.Fast.runQ (w.withFollow "special-get-raises" false) os).map (λs=>(KA.as ka).map (One.wQ s))=some ((ka.heap_1 (w.withFollow "special-get-raises" false).params).map λp=>some p.2):=by kernel_rfl
theorem B0 (w:World) (os:OsState):(PySem.W.Fast.runQ (w.withFollow "special-get-raises" false) os).map (λs=>(KA.as ka).map (One.wQ s))=some ((ka.heap_1 (w.withFollow "special-get-raises" false).params).map λp=>some p.2):=aak w os
theorem A1 (w:World) (os:OsState):PySem.W.Fast.looksQ (w.withFollow "special-get-raises" true) os=PySem.W.Fast.goodQ:=by kernel_rfl
theorem aaG (w:World) (os:OsState):(PySem.W.Fast.runQ (w.withFollow "special-get-raises" true) os).map (λs=>(KA.as ka).map (One.wQ s))=some ((ka.heap_1 (w.withFollow "special-get-raises" true).params).map λp=>some p.2):=by kernel_rfl
theorem B1 (w:World) (os:OsState):(PySem.W.Fast.runQ (w.withFollow "special-get-raises" true) os).map (λs=>(KA.as ka).map (One.wQ s))=some ((ka.heap_1 (w.withFollow "special-get-raises" true).params).map λp=>some p.2):=aaG w os
theorem A (w:World):∀os,Ha w os=NK:=by rw [PySem.W.Fast.looksQ_eq,PySem.W.Fast.goodQ_eq];exact byRow2 "special-get-raises" (P:=λw=>∀os,PySem.W.Fast.looksQ w os=PySem.W.Fast.goodQ) A0 A1 w
theorem B (w:World):∀os,(runC w os).map (λs=>(KA.as ka).map (One.wQ s))=some ((ka.heap_1 w.params).map λp=>some p.2):=by rw [PySem.W.Fast.runQ_eq];exact byRow2 "special-get-raises" (P:=λw=>∀os,(PySem.W.Fast.runQ w os).map (λs=>(KA.as ka).map (One.wQ s))=some ((ka.heap_1 w.params).map λp=>some p.2)) B0 B1 w
theorem head {d:DefRec} {kwd:List (PySem.Str×Expr)}
  (hdef:defOf q rr.name=some (d,kwd)) (hp:rr.prog.theDef rr.name=some (d.params,d.body,d.scope)) (hk:kwWritten? d.params.kwonlyargs d.params.kw_defaults=some kwd) (hwr:(!rr.writes || rr.records.isEmpty)=true)
  (k1:rr.wellSaid=true) (ok:(chainsOk q && opensWell rr.prog && (frees rr.toRowW && rr.within.isEmpty))=true) (hb:rr.prog.bare) (ho:opening PySem.Challenge.pw_holdlane_k33_rows_refused=plainProg (PySem.Challenge.pw_holdlane_k33_rows_refused).main.scope.names) (f:∀s,fenceModules? PySem.Challenge.pw_holdlane_k33_rows_refused s=some s)
  (hw:rr.toRowW.promised) (hc:WalkO q loose (XL q []) (Hook.says (kHook ka.heap_1 (KA.as ka) Uv)) rr.toRowW d kwd λf vs=>PySem.call f vs):rr.Holds:=by
 have left:LeftO PySem.Challenge.pw_holdlane_k33_rows_refused q loose Xt (Hook.obs (kHook ka.heap_1 (KA.as ka) Uv)) (Hook.val (kHook ka.heap_1 (KA.as ka) Uv)) 28700:=One.Vj (M:=14060) ho rfl f rfl A λw os=>One.Ux (B w os);exact holds_open (XP:=XL q []) (YP:=Hook.says (kHook ka.heap_1 (KA.as ka) Uv)) left (Hook.of _) (Hook.keeps _) (λs z=>xl_of s (Bool.and_eq_true_iff.mp z).1) XL.keeps hdef hp hk (λs z=>recFacts_of (Bool.and_eq_true_iff.mp z).2) hwr k1 ok hb hw hc
end HD
namespace K33
open PySem L2
theorem lM {α β:Type} {f:α->β} {l:List α}:(l.map f).length=l.length:=length_map ..
theorem lP {α:Type} {l m:List α}:(l ++ m).length=l.length+m.length:=length_append ..
noncomputable def top (i:Nat):Stmt:=PySem.Challenge.pw_holdlane_k33_rows_refused.main.body.getD i (.Pass ⟨0,0,0,0⟩)
set_option genInjectivity false in
structure mL where
 (ie gZ CQ Dj bU tV uy ug uf uC sU wu uw rF pQ qN Fp Bj Ew z6 Rk cB lU cC cW qP pJ pG pY pI qK pM m7 lR mY pU pW Br zx wX zy zX zO zY Bm Ae Aa vN Cw FZ vW yu zJ wV zW zV vz vp j0 jZ jh sy iy nH pX nC qU sO jY qG nj tQ za lV JL uD Dy qJ tM rK wH vL Dv zA Wk Ms Lb Mg Mv Mz My Qz KN Ht BR IK dN bW xQ uH cD dJ dj:Addr)
noncomputable abbrev ROWS:List (Str×List Int):=[("give",[0,0,1]),("take",[0,1,0]),("pass",[0,1,1]),("copy",[0,1,2]),("turn",[2,1,1]),("heap",[1,1,1]),("add",[0,2,1]),("less",[0,2,1]),("order",[0,2,2]),("choose",[0,3,1]),("split",[0,2,2])]
structure Txt (w:World) (K:Fr) (mg:Str->Option Value) (t:mL):Prop where
 iB:Jy K mg "Give" t.Ms [("__init__",t.bU),("kind",t.tV),("taking",t.cB),("lacks",t.cC),("worked",t.pU),("start",t.cW)] ["name", "numbers", "ins", "outs"]
 ir:Jy K mg "Take" t.Lb [("__init__",t.bU),("kind",t.uy),("taking",t.cB),("lacks",t.cC),("worked",t.pW),("start",t.cW)] ["name", "numbers", "ins", "outs"]
 iu:Jy K mg "Pass" t.Mg [("__init__",t.bU),("kind",t.ug),("taking",t.cB),("lacks",t.cC),("worked",t.pJ),("start",t.cW)] ["name", "numbers", "ins", "outs"]
 iC:Jy K mg "Copy" t.Mv [("__init__",t.bU),("kind",t.uf),("taking",t.cB),("lacks",t.cC),("worked",t.pG),("start",t.cW)] ["name", "numbers", "ins", "outs"]
 iQ:Jy K mg "Turn" t.Mz [("__init__",t.bU),("kind",t.uC),("taking",t.cB),("lacks",t.cC),("worked",t.pY),("start",t.cW)] ["name", "numbers", "ins", "outs"]
 iw:Jy K mg "Heap" t.My [("__init__",t.bU),("kind",t.sU),("taking",t.cB),("lacks",t.cC),("worked",t.pI),("start",t.qP)] ["name", "numbers", "ins", "outs"]
 lB:Jy K mg "Add" t.Qz [("__init__",t.bU),("kind",t.wu),("taking",t.cB),("lacks",t.cC),("worked",t.qK),("start",t.cW)] ["name", "numbers", "ins", "outs"]
 iK:Jy K mg "Less" t.KN [("__init__",t.bU),("kind",t.uw),("taking",t.cB),("lacks",t.cC),("worked",t.pM),("start",t.cW)] ["name", "numbers", "ins", "outs"]
 fH:Jy K mg "Order" t.Ht [("__init__",t.bU),("kind",t.rF),("taking",t.cB),("lacks",t.cC),("worked",t.m7),("start",t.cW)] ["name", "numbers", "ins", "outs"]
 dZ:Jy K mg "Choose" t.BR [("__init__",t.bU),("kind",t.pQ),("taking",t.lU),("lacks",t.cC),("worked",t.lR),("start",t.cW)] ["name", "numbers", "ins", "outs"]
 fG:Jy K mg "Split" t.IK [("__init__",t.bU),("kind",t.qN),("taking",t.cB),("lacks",t.cC),("worked",t.mY),("start",t.cW)] ["name", "numbers", "ins", "outs"]
 bF:Jy K mg "Net" t.dN [("__init__",t.nC),("lane_names",t.j0),("part_names",t.jZ),("names_of_kind",t.jh),("gives",t.sy),("need_lane_name",t.iy),("first_of",t.nH),("part_of",t.pX)] ["rooms", "firsts", "parts", "givers", "takers"]
 aW:Jy K mg "Flow" t.bW [("__init__",t.lV),("holds",t.qU),("head",t.sO),("row_ended",t.jY),("heads",t.qG),("lacking",t.nj),("deed",t.tQ),("do",t.za)] ["net", "ever", "gone", "kept", "done", "rows"]
 qD:mg "LaneError" =some (.ref t.uH)
 qZ:mg "BadWord" =some (.ref t.cD)
 Eu:mg "NoSuch" =some (.ref t.dJ)
 zg:mg "BadRow" =some (.ref t.dj)
 Ys:PySem.W.findIn K (.ref t.dJ) "__init__" =some (some (.ref t.ie))
 Yu:PySem.W.findIn K (.ref t.dj) "__init__" =some (some (.ref t.gZ))
 wK:WK K t.uH
 zj:PySem.W.kitOne K (.ref t.dJ) (.ref t.dj)=some false
 xN:PySem.W.kitOne K (.ref t.dJ) (.ref t.cD)=some false
 xX:PySem.W.kitOne K (.ref t.dj) (.ref t.cD)=some false
 sI:PySem.W.kitOne K (.ref t.cD) (.ref t.uH)=some true
 Ov:PySem.W.subIn K (.ref t.dJ) (.ref t.dj)=some false
 Nk:PySem.W.subIn K (.ref t.dJ) (.ref t.cD)=some false
 yS:PySem.W.subIn K (.ref t.dj) (.ref t.dJ)=some false
 Oj:PySem.W.subIn K (.ref t.dj) (.ref t.cD)=some false
 ym:PySem.W.subIn K (.ref t.cD) (.ref t.dJ)=some false
 yj:PySem.W.subIn K (.ref t.cD) (.ref t.dj)=some false
 K8:tR K t.cD
 LQ:ExcAt K t.cD
 Kv:Qn K t.cD
 JC:MkX K t.dJ t.ie
 yV:Ml K t.dJ
 Gb:gW K t.dJ "name"
 Qi:ExcAt K t.dJ
 Je:MkX K t.dj t.gZ
 zf:Ml K t.dj
 Fi:gW K t.dj "name"
 Qh:ExcAt K t.dj
 jR:eX K "__init__" "NoSuch.__init__" (inClass (top 8) 0) t.ie ["self", "name"]
 jT:eX K "__init__" "BadRow.__init__" (inClass (top 14) 0) t.gZ ["self", "name"]
 m5:mG K mg "is_whole" (top 22) t.CQ ["thing"]
 nY:mG K mg "is_value" (top 23) t.Dj ["thing"]
 aZ:eX K "__init__" "Part.__init__" (inClass (top 35) 0) t.bU ["self", "name", "numbers", "ins", "outs"]
 oK:eX K "kind" "Give.kind" (inClass (top 36) 0) t.tV ["self"]
 pB:eX K "kind" "Take.kind" (inClass (top 37) 0) t.uy ["self"]
 pF:eX K "kind" "Pass.kind" (inClass (top 38) 0) t.ug ["self"]
 oR:eX K "kind" "Copy.kind" (inClass (top 39) 0) t.uf ["self"]
 oN:eX K "kind" "Turn.kind" (inClass (top 40) 0) t.uC ["self"]
 o9:eX K "kind" "Heap.kind" (inClass (top 41) 0) t.sU ["self"]
 qQ:eX K "kind" "Add.kind" (inClass (top 42) 0) t.wu ["self"]
 oH:eX K "kind" "Less.kind" (inClass (top 43) 0) t.uw ["self"]
 mj:eX K "kind" "Order.kind" (inClass (top 44) 0) t.rF ["self"]
 kh:eX K "kind" "Choose.kind" (inClass (top 45) 0) t.pQ ["self"]
 mD:eX K "kind" "Split.kind" (inClass (top 46) 0) t.qN ["self"]
 uQ:mG K mg "is_kind" (top 47) t.Fp ["word"]
 wy:mG K mg "need_fit" (top 48) t.Bj ["kind", "name", "numbers", "ins", "outs"]
 Fd:mG K mg "made_of" (top 49) t.Ew ["kind", "name", "numbers", "ins", "outs"]
 zu:mG K mg "part_made" (top 50) t.z6 ["kind", "name", "numbers", "ins", "outs"]
 Cu:mG K mg "rest" (top 25) t.Rk ["number"]
 bB:eX K "taking" "Part.taking" (inClass (top 35) 4) t.cB ["self", "heads"]
 jq:eX K "taking" "Choose.taking" (inClass (top 45) 1) t.lU ["self", "heads"]
 bC:eX K "lacks" "Part.lacks" (inClass (top 35) 3) t.cC ["self", "heads"]
 bI:eX K "start" "Part.start" (inClass (top 35) 2) t.cW ["self"]
 my:eX K "start" "Heap.start" (inClass (top 41) 1) t.qP ["self"]
 kW:eX K "worked" "Pass.worked" (inClass (top 38) 1) t.pJ ["self", "values", "kept"]
 kZ:eX K "worked" "Copy.worked" (inClass (top 39) 1) t.pG ["self", "values", "kept"]
 km:eX K "worked" "Turn.worked" (inClass (top 40) 1) t.pY ["self", "values", "kept"]
 kj:eX K "worked" "Heap.worked" (inClass (top 41) 2) t.pI ["self", "values", "kept"]
 mC:eX K "worked" "Add.worked" (inClass (top 42) 1) t.qK ["self", "values", "kept"]
 kJ:eX K "worked" "Less.worked" (inClass (top 43) 1) t.pM ["self", "values", "kept"]
 jP:eX K "worked" "Order.worked" (inClass (top 44) 1) t.m7 ["self", "values", "kept"]
 jr:eX K "worked" "Choose.worked" (inClass (top 45) 2) t.lR ["self", "values", "kept"]
 jQ:eX K "worked" "Split.worked" (inClass (top 46) 1) t.mY ["self", "values", "kept"]
 kY:eX K "worked" "Give.worked" (inClass (top 36) 1) t.pU ["self", "values", "kept"]
 kI:eX K "worked" "Take.worked" (inClass (top 37) 1) t.pW ["self", "values", "kept"]
 aN:mG K mg "_law_mix" (top 66) t.Br ["_law_cell_here", "_law_k"]
 f9:mG K mg "_law_cell" (top 65) t.zx ["_law_script", "_law_k"]
 fJ:mG K mg "_law_value" (top 67) t.wX ["_law_cell_here", "_law_k"]
 jF:mG K mg "_law_word" (top 68) t.zy ["_law_cell_here", "_law_k"]
 iI:mG K mg "_law_lane" (top 69) t.zX ["_law_state", "_law_cell_here", "_law_back"]
 lu:mG K mg "_law_pick" (top 71) t.zO ["_law_state", "_law_number"]
 cz:mG K mg "_law_part" (top 70) t.zY ["_law_state", "_law_cell_here", "_law_kind", "_law_numbers", "_law_ins", "_law_many"]
 vX:mG K mg "_law_two" (top 72) t.Bm ["_law_state", "_law_cell_here", "_law_one", "_law_odd"]
 su:mG K mg "_law_loop" (top 73) t.Ae ["_law_state", "_law_cell_here", "_law_one"]
 tG:mG K mg "_law_step" (top 74) t.Aa ["_law_state", "_law_cell_here", "_law_odd"]
 pO:mG K mg "_law_closed" (top 75) t.vN ["_law_state", "_law_cell_here", "_law_back"]
 vZ:mG K mg "_law_net" (top 76) t.Cw ["_law_script", "_law_start", "_law_steps", "_law_odd"]
 yF:mG K mg "is_name" (top 24) t.FZ ["thing"]
 pP:mG K mg "need_counts" (top 55) t.vW ["lanes", "parts"]
 mz:mG K mg "need_fresh" (top 56) t.yu ["name", "known"]
 tK:mG K mg "need_lane" (top 57) t.zJ ["name", "room", "first"]
 qL:mG K mg "fresh_part" (top 58) t.wV ["row", "known"]
 oX:mG K mg "tie_lanes" (top 59) t.zW ["part", "lanes", "rooms", "ends"]
 sY:mG K mg "need_ends" (top 60) t.zV ["rooms", "givers", "takers"]
 pL:mG K mg "joined_with" (top 61) t.vz ["part", "givers", "takers"]
 pN:mG K mg "need_joined" (top 62) t.vp ["names", "givers", "takers"]
 jd:eX K "lane_names" "Net.lane_names" (inClass (top 63) 1) t.j0 ["self"]
 fX:eX K "part_names" "Net.part_names" (inClass (top 63) 2) t.jZ ["self"]
 ji:eX K "names_of_kind" "Net.names_of_kind" (inClass (top 63) 5) t.jh ["self", "kind"]
 oM:eX K "gives" "Net.gives" (inClass (top 63) 3) t.sy ["self"]
 iG:eX K "need_lane_name" "Net.need_lane_name" (inClass (top 63) 12) t.iy ["self", "name"]
 mV:eX K "first_of" "Net.first_of" (inClass (top 63) 8) t.nH ["self", "name"]
 jm:eX K "part_of" "Net.part_of" (inClass (top 63) 11) t.pX ["self", "name"]
 jO:eX K "__init__" "Net.__init__" (inClass (top 63) 0) t.nC ["self", "lanes", "parts"]
 qM:eX K "holds" "Flow.holds" (inClass (top 16) 1) t.qU ["self", "lane"]
 sV:eX K "head" "Flow.head" (inClass (top 16) 5) t.sO ["self", "lane"]
 j9:eX K "row_ended" "Flow.row_ended" (inClass (top 16) 8) t.jY ["self", "name"]
 mF:eX K "heads" "Flow.heads" (inClass (top 16) 6) t.qG ["self", "part"]
 mX:eX K "lacking" "Flow.lacking" (inClass (top 16) 7) t.nj ["self", "name"]
 oG:eX K "deed" "Flow.deed" (inClass (top 16) 9) t.tQ ["self", "name"]
 yW:eX K "do" "Flow.do" (inClass (top 16) 10) t.za ["self", "name", "deed"]
 jo:eX K "__init__" "Flow.__init__" (inClass (top 16) 0) t.lV ["self", "net", "rows"]
 Cr:mG K mg "is_row" (top 29) t.JL ["thing"]
 gh:mG K mg "need_rows" (top 30) t.uD ["net", "rows"]
 wG:mG K mg "work_out" (top 32) t.Dy ["flow", "name", "most"]
 jV:mG K mg "plain_rows" (top 31) t.qJ ["net", "rows", "most"]
 n8:mG K mg "_law_bad_row" (top 77) t.tM ["_law_cell_here"]
 lN:mG K mg "_law_bad_name" (top 78) t.rK ["_law_lanes", "_law_parts", "_law_cell_here"]
 qT:mG K mg "_law_drawn" (top 79) t.wH ["_law_script", "_law_lanes", "_law_parts"]
 pZ:mG K mg "_law_is_row" (top 80) t.vL ["_law_row"]
 wC:mG K mg "_law_due" (top 81) t.Dv ["_law_rows", "_law_parts"]
 lE:mG K mg "_law_told" (top 82) t.zA ["_law_net_one", "_law_rows", "_law_most", "_law_alone"]
 MP:mG K mg "law" (top 83) t.Wk ["_law_script"]
 Gw:mg "COUNTS" =some (.ref t.xQ)
 JW:KTab w K t.xQ ROWS
 Oc:mg "all" =none
 R3:mg "bool" =none
 Rr:mg "dict" =none
 S5:mg "int" =none
 dY:mg "isinstance" =none
 eE:mg "len" =none
 tX:mg "list" =none
 Q5:mg "max" =none
 Zr:mg "min" =none
 lX:mg "range" =none
 Wc:mg "str" =none
 wU:mg "tuple" =none
 J9:∃u,mg "VALUES" =some u/\RelV (.int 1000000000) u
 Gu:∃u,mg "LETTERS" =some u/\RelV (.str "abcdefghijklmnopqrstuvwxyz") u
 CN:∃u,mg "LONGEST_NAME" =some u/\RelV (.int 8) u
 Pq:∃u,mg "FIGURES" =some u/\RelV (.str "0123456789") u
 Ij:∃u,mg "MOST_LANES" =some u/\RelV (.int 24) u
 GJ:∃u,mg "MOST_PARTS" =some u/\RelV (.int 16) u
 Ji:∃u,mg "MOST_ROOM" =some u/\RelV (.int 199) u
 Ea:∃u,mg "LONGEST_ROW" =some u/\RelV (.int 300) u
 Al:∃u,mg "MOST_WORKINGS" =some u/\RelV (.int 300) u
section
variable {P:Program} {w:World} {K:Fr} {mg:Str->Option Value} {base:Heap} {t:mL}
noncomputable def eU (i:Nat):Str:=match i with
 | 0=> "give"
 | 1=> "take"
 | 2=> "pass"
 | 3=> "copy"
 | 4=> "turn"
 | 5=> "heap"
 | 6=> "add"
 | 7=> "less"
 | 8=> "order"
 | 9=> "choose"
 | _=> "split"
noncomputable def cN (i:Nat):Nat:=match i with
 | 0=>0
 | 1=>0
 | 2=>0
 | 3=>0
 | 4=>2
 | 5=>1
 | 6=>0
 | 7=>0
 | 8=>0
 | 9=>0
 | _=>0
noncomputable def cI (i:Nat):Nat:=match i with
 | 0=>0
 | 1=>1
 | 2=>1
 | 3=>1
 | 4=>1
 | 5=>1
 | 6=>2
 | 7=>2
 | 8=>2
 | 9=>3
 | _=>2
noncomputable def cO (i:Nat):Nat:=match i with
 | 0=>1
 | 1=>0
 | 2=>1
 | 3=>2
 | 4=>1
 | 5=>1
 | 6=>1
 | 7=>1
 | 8=>2
 | 9=>1
 | _=>2
noncomputable def cls (t:mL) (i:Nat):Addr:=match i with
 | 0=>t.Ms
 | 1=>t.Lb
 | 2=>t.Mg
 | 3=>t.Mv
 | 4=>t.Mz
 | 5=>t.My
 | 6=>t.Qz
 | 7=>t.KN
 | 8=>t.Ht
 | 9=>t.BR
 | _=>t.IK
theorem row_of (i:Nat):rowOf ROWS (eU i)=some [((cN i:Nat):Int),((cI i:Nat):Int),((cO i:Nat):Int)]:=match i with
 | 0=>by show rowOf ROWS "give" =some [0,0,1];decide +kernel
 | 1=>by show rowOf ROWS "take" =some [0,1,0];decide +kernel
 | 2=>by show rowOf ROWS "pass" =some [0,1,1];decide +kernel
 | 3=>by show rowOf ROWS "copy" =some [0,1,2];decide +kernel
 | 4=>by show rowOf ROWS "turn" =some [2,1,1];decide +kernel
 | 5=>by show rowOf ROWS "heap" =some [1,1,1];decide +kernel
 | 6=>by show rowOf ROWS "add" =some [0,2,1];decide +kernel
 | 7=>by show rowOf ROWS "less" =some [0,2,1];decide +kernel
 | 8=>by show rowOf ROWS "order" =some [0,2,2];decide +kernel
 | 9=>by show rowOf ROWS "choose" =some [0,3,1];decide +kernel
 | n+10=>by show rowOf ROWS "split" =some [0,2,2];decide +kernel
theorem iJ (T:Txt w K mg t) (i:Nat):Ql K (cls t i):=match i with
 | 0=>T.iB.c
 | 1=>T.ir.c
 | 2=>T.iu.c
 | 3=>T.iC.c
 | 4=>T.iQ.c
 | 5=>T.iw.c
 | 6=>T.lB.c
 | 7=>T.iK.c
 | 8=>T.fH.c
 | 9=>T.dZ.c
 | n+10=>T.fG.c
theorem Aw (T:Txt w K mg t) (i:Nat):gW K (cls t i) "name" :=match i with
 | 0=>T.iB.na.1
 | 1=>T.ir.na.1
 | 2=>T.iu.na.1
 | 3=>T.iC.na.1
 | 4=>T.iQ.na.1
 | 5=>T.iw.na.1
 | 6=>T.lB.na.1
 | 7=>T.iK.na.1
 | 8=>T.fH.na.1
 | 9=>T.dZ.na.1
 | n+10=>T.fG.na.1
theorem rA (T:Txt w K mg t) (i:Nat):gW K (cls t i) "numbers" :=match i with
 | 0=>T.iB.na.2.1
 | 1=>T.ir.na.2.1
 | 2=>T.iu.na.2.1
 | 3=>T.iC.na.2.1
 | 4=>T.iQ.na.2.1
 | 5=>T.iw.na.2.1
 | 6=>T.lB.na.2.1
 | 7=>T.iK.na.2.1
 | 8=>T.fH.na.2.1
 | 9=>T.dZ.na.2.1
 | n+10=>T.fG.na.2.1
theorem zc (T:Txt w K mg t) (i:Nat):gW K (cls t i) "ins" :=match i with
 | 0=>T.iB.na.2.2.1
 | 1=>T.ir.na.2.2.1
 | 2=>T.iu.na.2.2.1
 | 3=>T.iC.na.2.2.1
 | 4=>T.iQ.na.2.2.1
 | 5=>T.iw.na.2.2.1
 | 6=>T.lB.na.2.2.1
 | 7=>T.iK.na.2.2.1
 | 8=>T.fH.na.2.2.1
 | 9=>T.dZ.na.2.2.1
 | n+10=>T.fG.na.2.2.1
theorem HW (T:Txt w K mg t) (i:Nat):gW K (cls t i) "outs" :=match i with
 | 0=>T.iB.na.2.2.2.1
 | 1=>T.ir.na.2.2.2.1
 | 2=>T.iu.na.2.2.2.1
 | 3=>T.iC.na.2.2.2.1
 | 4=>T.iQ.na.2.2.2.1
 | 5=>T.iw.na.2.2.2.1
 | 6=>T.lB.na.2.2.2.1
 | 7=>T.iK.na.2.2.2.1
 | 8=>T.fH.na.2.2.2.1
 | 9=>T.dZ.na.2.2.2.1
 | n+10=>T.fG.na.2.2.2.1
theorem Zj (i:Nat):cN i<=2:=match i with
 | 0=>by show 0<=2;decide
 | 1=>by show 0<=2;decide
 | 2=>by show 0<=2;decide
 | 3=>by show 0<=2;decide
 | 4=>by show 2<=2;decide
 | 5=>by show 1<=2;decide
 | 6=>by show 0<=2;decide
 | 7=>by show 0<=2;decide
 | 8=>by show 0<=2;decide
 | 9=>by show 0<=2;decide
 | n+10=>by show 0<=2;decide
theorem Gx (i:Nat):cI i<=3:=match i with
 | 0=>by show 0<=3;decide
 | 1=>by show 1<=3;decide
 | 2=>by show 1<=3;decide
 | 3=>by show 1<=3;decide
 | 4=>by show 1<=3;decide
 | 5=>by show 1<=3;decide
 | 6=>by show 2<=3;decide
 | 7=>by show 2<=3;decide
 | 8=>by show 2<=3;decide
 | 9=>by show 3<=3;decide
 | n+10=>by show 2<=3;decide
theorem QZ (i:Nat):cO i<=2:=match i with
 | 0=>by show 1<=2;decide
 | 1=>by show 0<=2;decide
 | 2=>by show 1<=2;decide
 | 3=>by show 2<=2;decide
 | 4=>by show 1<=2;decide
 | 5=>by show 1<=2;decide
 | 6=>by show 1<=2;decide
 | 7=>by show 1<=2;decide
 | 8=>by show 2<=2;decide
 | 9=>by show 1<=2;decide
 | n+10=>by show 2<=2;decide
theorem jy {f:Str} {y:V} {fs:List (Str×V)} {n:Nat} (h:fs.length<=n):(aG f y fs).length<=n+1:=le_trans (ue f y fs) (succ_le_succ h)
noncomputable def Bk (nm:V) (tn ti to:Addr):List (Str×V):=aG "outs" (.ref to) (aG "ins" (.ref ti) (aG "numbers" (.ref tn) (aG "name" nm [])))
theorem yL (nm:V) (tn ti to:Addr):(Bk nm tn ti to).lookup ("name" :Str)=some nm:=by unfold Bk;rw [aD,if_neg (by decide +kernel),aD,if_neg (by decide +kernel),aD,if_neg (by decide +kernel),aD,if_pos rfl]
theorem qF (nm:V) (tn ti to:Addr):(Bk nm tn ti to).lookup ("numbers" :Str)=some (.ref tn):=by unfold Bk;rw [aD,if_neg (by decide +kernel),aD,if_neg (by decide +kernel),aD,if_pos rfl]
theorem tW (nm:V) (tn ti to:Addr):(Bk nm tn ti to).lookup ("ins" :Str)=some (.ref ti):=by unfold Bk;rw [aD,if_neg (by decide +kernel),aD,if_pos rfl]
theorem Gq (nm:V) (tn ti to:Addr):(Bk nm tn ti to).lookup ("outs" :Str)=some (.ref to):=by unfold Bk;rw [aD,if_pos rfl]
theorem uL (nm:V) (tn ti to:Addr) {m:Str} (h1:¬m= "outs") (h2:¬m= "ins") (h3:¬m= "numbers") (h4:¬m= "name"):(Bk nm tn ti to).lookup m=none:=by unfold Bk;rw [aD,if_neg h1,aD,if_neg h2,aD,if_neg h3,aD,if_neg h4];all_goals rfl
structure fC (K:Fr) (t:mL) (H:Hp) (p:Addr) (i:Nat) (nm:V) (ns is os:List V):Prop where
 ex:∃dx tn ti to,H p=some (.ins (cls t i) dx (Bk nm tn ti to))/\fZ K H tn ns/\fZ K H ti is/\fZ K H to os
theorem fC.same {H H':Hp} {p:Addr} {i:Nat} {nm:V} {ns is os:List V} (h:fC K t H p i nm ns is os) (s:aO H H'):fC K t H' p i nm ns is os:=by obtain⟨dx,tn,ti,to,h1,h2,h3,h4⟩:=h;exact⟨dx,tn,ti,to,s _ _ h1,s.seqT h2,s.seqT h3,s.seqT h4⟩
noncomputable def jc (i:Nat):Sp:=λvs H Q _=>∃x,vs=[x]/\Q (.str (eU i)) H
noncomputable def nV (j:Nat):V:=.int (j:Nat)
inductive Val (v:V):Prop where
 | mk:∀n:Int,v=.int n->0<=n->n <1000000000->Val v
inductive Flat:PyData->Prop
 | non:Flat .none
 | int (i:Int):Flat (.int i)
noncomputable def places (i:Nat) (hs:List V):List Nat:=if i=9 then(match hs with | .int n:: _=>[0,1+(n % 2).toNat] | _=>[0]) else List.range hs.length
noncomputable def wL (i:Nat) (hs:List V):Prop:=hs.length=cI i/\∀h∈hs,h=.non∨∃n:Int,h=.int n
noncomputable def vV (hs:List V) (q:Nat):Bool:=decide (hs[q]?=some V.non)
noncomputable def Nt (i:Nat) (hs:List V):V:=match (places i hs).find? (vV hs) with
 | some q=>nV q
 | none=>.non
theorem j4 {i:Nat} {hs:List V} (h:wL i hs):∀q∈places i hs,q <hs.length:=by
 intro q hq;unfold places at hq;by_cases hi:i=9
 ·rw [if_pos hi] at hq;have hl:hs.length=3:=by rw [h.1,hi];rfl
  rw [hl];split at hq
  ·rename_i n r;have h0:=emod_nonneg n (show(2:Int)≠0 by decide);have h1:=emod_lt_of_pos n (show(0:Int) <2 by decide);simp at hq
   lia
  ·simp at hq
   lia
 ·rw [if_neg hi] at hq;simpa using hq
theorem NQ {f:Nat->Bool}:∀{l:List Nat} {j q:Nat},l[j]?=some q->(∀x∈l.take j,f x=false)->f q=true->l.find? f=some q
 | [],_,_,e,_,_=>by simp at e
 | x:: r,0,q,e,_,hq=>by simp at e;subst e;rw [find?_cons,hq]
 | x:: r,j+1,q,e,h,hq=>by have hx:f x=false:=h x (by simp);rw [find?_cons,hx];exact NQ (l:=r) (j:=j) (by simpa using e) (λy hy=>h y (by simp [hy])) hq
theorem Vf {f:Nat->Bool} {l:List Nat} (h:∀x∈l,f x=false):l.find? f=none:=by rw [find?_eq_none];intro x hx;rw [h x hx];decide
inductive mO (K:Fr) (t:mL) (i:Nat) (vs:List V) (H:Hp) (Q:VK) (E:XK):Prop where
 | mk:∀(p a:Addr) (nm:V) (ns is os hs:List V),vs=[.ref p,.ref a]->fC K t H p i nm ns is os->is.length=cI i->bT K H a hs->wL i hs->(∀H' L,aO H H'->H L=none->H' L=some (.lst ((places i hs).map nV))->Q (.ref L) H')->mO K t i vs H Q E
inductive xr (K:Fr) (t:mL) (i:Nat) (vs:List V) (H:Hp) (Q:VK) (E:XK):Prop where
 | mk:∀(p a:Addr) (nm:V) (ns is os hs:List V),vs=[.ref p,.ref a]->fC K t H p i nm ns is os->is.length=cI i->bT K H a hs->wL i hs->(∀H',aO H H'->Q (Nt i hs) H')->xr K t i vs H Q E
noncomputable def g0 (l:List Int):Int:=l.getD 0 0
noncomputable def g1 (l:List Int):Int:=l.getD 1 0
noncomputable def cV (i:Nat):Nat:=match i with
 | 0=>1
 | 1=>1
 | 2=>1
 | 3=>1
 | 4=>1
 | 5=>1
 | 6=>2
 | 7=>2
 | 8=>2
 | 9=>2
 | _=>2
noncomputable def cu (i:Nat) (ns ws:List Int) (kp:Int):List (Int×Int):=match i with
 | 0=>[(0,g0 ws)]
 | 1=>[]
 | 2=>[(0,g0 ws)]
 | 3=>[(0,g0 ws),(1,g0 ws)]
 | 4=>[(0,(g0 ns * g0 ws+g1 ns) % 1000000000)]
 | 5=>[(0,(kp+g0 ws) % 1000000000)]
 | 6=>[(0,(g0 ws+g1 ws) % 1000000000)]
 | 7=>[(0,if g0 ws <g1 ws then 1 else 0)]
 | 8=>[(0,if g1 ws <g0 ws then g1 ws else g0 ws),(1,if g1 ws <g0 ws then g0 ws else g1 ws)]
 | 9=>[(0,g1 ws)]
 | _=>[(g0 ws % 2,g1 ws)]
noncomputable def gA (i:Nat) (ws:List Int) (kp:Int):Int:=if i=5 then(kp+g0 ws) % 1000000000 else kp
noncomputable def Ja (ps:List (Int×Int)):List (List V):=ps.map λp=>[.int p.1,.int p.2]
noncomputable def Yv (ws:List Int):Prop:=∀w∈ws,0<=w/\w <1000000000
inductive d7 (K:Fr) (t:mL) (i:Nat) (vs:List V) (H:Hp) (Q:VK) (E:XK):Prop where
 | mk:∀(p a:Addr) (nm:V) (ns:List Int) (is os:List V) (ws:List Int) (kp:Int),vs=[.ref p,.ref a,.int kp]->fC K t H p i nm (ns.map V.int) is os->ns.length=cN i->bT K H a (ws.map V.int)->ws.length=cV i->Yv ws->(∀H' U L rs,aO H H'->H L=none->H' U=some (.tup [.ref L,.int (gA i ws kp)])->H' L=some (.lst (rs.map V.ref))->fD H' rs (Ja (cu i ns ws kp))->Q (.ref U) H')->d7 K t i vs H Q E
theorem xW {H:Hp} {Q:VK} {a b x y:Int} (hx:x=a) (hy:y=b) (k:∀H' L rs,aO H H'->H L=none->H' L=some (.lst (rs.map V.ref))->fD H' rs (Ja [(a,b)])->Q (.ref L) H') {t0 L:Addr} (n0:H t0=none)
  (nL:(upd H t0 (.tup [.int x,.int y])) L=none):Q (.ref L) (upd (upd H t0 (.tup [.int x,.int y])) L (.lst [.ref t0])):=by
 subst hx hy;have s0:=aB (o:=.tup [.int x,.int y]) n0;have s1:=aB (o:=.lst [.ref t0]) nL;exact k _ L [t0] (s0.trans s1) (s0.free nL) az (.cons (s1 _ _ az) .nil)
theorem VN {H:Hp} {Q:VK} {a b c d x y u v:Int} (hx:x=a) (hy:y=b) (hu:u=c) (hv:v=d) (k:∀H' L rs,aO H H'->H L=none->H' L=some (.lst (rs.map V.ref))->fD H' rs (Ja [(a,b),(c,d)])->Q (.ref L) H') {t0 t1 L:Addr} (n0:H t0=none)
  (n1:(upd H t0 (.tup [.int x,.int y])) t1=none) (nL:(upd (upd H t0 (.tup [.int x,.int y])) t1 (.tup [.int u,.int v])) L=none):Q (.ref L) (upd (upd (upd H t0 (.tup [.int x,.int y])) t1 (.tup [.int u,.int v])) L (.lst [.ref t0,.ref t1])):=by
 subst hx hy hu hv;have s0:=aB (o:=.tup [.int x,.int y]) n0;have s1:=aB (o:=.tup [.int u,.int v]) n1;have s2:=aB (o:=.lst [.ref t0,.ref t1]) nL;exact k _ L [t0,t1] (s0.trans (s1.trans s2)) (s0.free (s1.free nL)) az (.cons (s2 _ _ (s1 _ _ az)) (.cons (s2 _ _ az) .nil))
theorem Ci {H:Hp} {Q:VK} {c:Int} {ps:List (Int×Int)} (k:∀H' U L rs,aO H H'->H L=none->H' U=some (.tup [.ref L,.int c])->H' L=some (.lst (rs.map V.ref))->fD H' rs (Ja ps)->Q (.ref U) H'):
  ∀H' L rs,aO H H'->H L=none->H' L=some (.lst (rs.map V.ref))->fD H' rs (Ja ps)->∀U,H' U=none->Q (.ref U) (upd H' U (.tup [.ref L,.int c])):=λH' L rs s nL eL tL U nU=>
 have s2:=aB (o:=.tup [.ref L,.int c]) nU
 k _ U L rs (s.trans s2) nL az (s2 _ _ eL) (tL.same s2)
theorem dX:(2:Nat)<=sizeLine:=by decide
theorem one_le:(1:Nat)<=sizeLine:=by decide
theorem aav {a b:Int} {ws:List Int} (h:Yv ws) (hb:b∈ws):IntMulOk a b:=.of_right (intBits_le_64 (by have:=(h b hb).1;lia) (by have:=(h b hb).2;lia))
noncomputable def GZ (i:Nat) (ns:List V):V:=if i=5 then ns.headD .non else .int 0
inductive tY (K:Fr) (t:mL) (i:Nat) (vs:List V) (H:Hp) (Q:VK) (E:XK):Prop where
 | mk:∀(p:Addr) (nm:V) (ns is os:List V),vs=[.ref p]->fC K t H p i nm ns is os->ns.length=cN i->Q (GZ i ns) H->tY K t i vs H Q E
noncomputable def X4 (i:Nat) (kv:V) (ns:List V):List V:=if i=5 then [kv] else ns
inductive DQ (K:Fr) (t:mL) (i:Nat) (vs:List V) (H:Hp) (Q:VK) (E:XK):Prop where
 | mk:∀(p:Addr) (kv nm:V) (ns is os:List V),vs=[.ref p,kv]->i<=10->fC K t H p i nm ns is os->(∀H' q,aO H H'->H q=none->fC K t H' q i nm (X4 i kv ns) is os->Q (.ref q) H')->DQ K t i vs H Q E
noncomputable def bD (a b:Int):Int:=((((a % 2147483647 * 48271+7919 * b+11) % 2147483647) * ((a % 2147483647 * 48271+7919 * b+11) % 2147483647) % 2147483629+613 * b) * (((a % 2147483647 * 48271+7919 * b+11) % 2147483647) * ((a % 2147483647 * 48271+7919 * b+11) % 2147483647) % 2147483629)) % 2147483587
theorem zN (a b:Int):0<=bD a b:=emod_nonneg _ (by decide)
noncomputable def jU (ns:List Int) (j:Nat):Int:=(ns[j]?).getD (41 * (j:Int)+3)
noncomputable def qI (a b:Int):Int:=if bD a b / 7 % 3=0 then bD a b % 5 else if bD a b / 7 % 3=1 then bD a b % 10 ^ 9 else 10 ^ 9 - 1 - bD a b % 3
theorem uO (a b:Int):0<=qI a b/\qI a b <1000000000:=by
 unfold qI;have h0:=zN a b;generalize bD a b=n at h0;split
 ·lia
 ·split
  ·have h1:=emod_lt_of_pos n (show(0:Int) <10 ^ 9 by decide);have h2:=emod_nonneg n (show(10:Int) ^ 9≠0 by decide);exact⟨h2,h1⟩
  ·have h1:=emod_lt_of_pos n (show(0:Int) <3 by decide);have h2:=emod_nonneg n (show(3:Int)≠0 by decide);have e:(10:Int) ^ 9=1000000000:=by decide
   rw [e]
   lia
noncomputable def low (c:Nat):Bool:=decide (97<=c) && decide (c<=122)
noncomputable def Lq (c:Nat):Bool:=decide (48<=c) && decide (c<=57)
noncomputable def nameB (x:Str):Bool:=match x.cps.toList with
 | []=>false
 | c:: r=>decide (r.length<=7) && (low c && (c:: r).all λd=>low d || Lq d)
theorem mK (x:Str):x.cps.toList.length=x.length:=by simp [Str.length]
theorem Bx:∀(ws:List Str),(Str.join Str.empty ws).cps.toList=(ws.map λw=>w.cps.toList).flatten
 | []=>rfl
 | [w]=>by simp [Str.join]
 | w:: v:: r=>by have ih:=Bx (v:: r);show(w.cps ++ #[] ++ (Str.join Str.empty (v:: r)).cps).toList=_;rw [Array.toList_append,ih];simp
theorem QT {n:Nat}:∀(ws:List Str),(∀w∈ws,w.length<=n)->(ws.map (·.length)).sum<=ws.length * n
 | [],_=>by simp
 | w:: r,h=>by
  have h1:=h w (by simp);have h2:=QT r λv hv=>h v (by simp [hv]);simp only [map_cons,sum_cons,length_cons,Nat.add_mul]
  lia
noncomputable def JN (n:Int):Nat:=97+(n % 26).toNat
theorem HQ (n:Int):low (JN n)=true:=by
 unfold low JN;have h0:=emod_nonneg n (show(26:Int)≠0 by decide);have h1:=emod_lt_of_pos n (show(0:Int) <26 by decide);simp
 lia
noncomputable abbrev LT:Str:= "abcdefghijklmnopqrstuvwxyz"
theorem KC:LT.length=26:=by decide +kernel
theorem Tw:LT.cps.toList=List.range' 97 26:=by decide +kernel
theorem Tp (n:Int):IW LT.cps.toList (n % 26)=some (JN n):=by have h0:=emod_nonneg n (show(26:Int)≠0 by decide);have h1:=emod_lt_of_pos n (show(0:Int) <26 by decide);obtain⟨j,hj⟩:∃j:Nat,n % 26=(j:Int):=⟨(n % 26).toNat,by lia⟩;unfold JN;rw [hj,Tw];exact aJ (by rw [List.getElem?_range' (by lia)];simp)
noncomputable def gf (a:Int):List Nat:=(List.range (bD a 50 % 7).toNat).map λj=>JN (bD a (60+(j:Nat)))
noncomputable def oJ (a:Int):Nat:=(bD a 51 % (bD a 50 % 7+1)).toNat
noncomputable def KH (n:Nat):List Nat:=(toString (Int.ofNat n):Str).cps.toList
noncomputable def zr (a:Int) (k:Nat):List Nat:=if bD a 52 % 3=0 then JN (bD a 53):: KH (bD a 54 % 1000+37 * (k:Int)).toNat else(gf a).take (oJ a) ++ JN (bD a 55+k):: (gf a).drop (oJ a)
noncomputable def cJ (a:Int) (k:Nat):Str:=⟨(zr a k).toArray⟩
noncomputable def QF (l:List Nat):Nat:=l.foldl (λr c=>10 * r+(c - 48)) 0
theorem Vc:(List.range 2000).all (λi=>(KH i).all Lq && decide ((KH i).length<=4) && decide (QF (KH i)=i))=true:=by decide +kernel
theorem uM {n:Nat} (h:n <2000):(KH n).all Lq=true/\(KH n).length<=4/\QF (KH n)=n:=by have z:=all_eq_true.mp Vc n (mem_range.mpr h);simp only [and_eq_true,decide_eq_true_eq] at z;exact⟨z.1.1,z.1.2,z.2⟩
theorem DP (a:Int):(gf a).length<=6/\((gf a).length:Int)=bD a 50 % 7:=by
 unfold gf;have h0:=emod_nonneg (bD a 50) (show(7:Int)≠0 by decide);have h1:=emod_lt_of_pos (bD a 50) (show(0:Int) <7 by decide);rw [lM,length_range]
 lia
theorem Oa (a:Int):oJ a<=(gf a).length:=by
 have h:=(DP a).2;unfold oJ;have h0:=emod_nonneg (bD a 50) (show(7:Int)≠0 by decide);have h1:=emod_lt_of_pos (bD a 51) (show(0:Int) <bD a 50 % 7+1 by lia);have h2:=emod_nonneg (bD a 51) (show bD a 50 % 7+1≠0 by lia)
 lia
theorem CJ {x:Str} {c:Nat} {r:List Nat} (e:x.cps.toList=c:: r) (h:r.length<=7) (hc:low c=true) (ha:∀d∈r,low d=true∨Lq d=true):nameB x=true:=by
 unfold nameB;rw [e];simp only [and_eq_true,decide_eq_true_eq,all_eq_true,Bool.or_eq_true];refine⟨h,hc,λd hd=>?_⟩;rcases mem_cons.mp hd with rfl | hd
 ·exact .inl hc
 ·exact ha d hd
theorem BV (a:Int) (k:Nat):(cJ a k).cps.toList=zr a k:=by simp [cJ]
theorem M7 (a:Int) {k:Nat} (hk:k <26):nameB (cJ a k)=true:=by
 have h0:=emod_nonneg (bD a 54) (show(1000:Int)≠0 by decide);have h1:=emod_lt_of_pos (bD a 54) (show(0:Int) <1000 by decide);have e:=BV a k;unfold zr at e;split at e
 ·obtain⟨n1,n2,_⟩:=uM (n:=(bD a 54 % 1000+37 * (k:Int)).toNat) (by lia);exact CJ e (by lia) (HQ _) λc hc=>.inr (all_eq_true.mp n1 c hc)
 ·have b1:=(DP a).1;have b2:=Oa a;have all:∀c∈(gf a).take (oJ a) ++ JN (bD a 55+k):: (gf a).drop (oJ a),low c=true:=λc hc=>by
   have hb:∀c∈gf a,low c=true:=λc hc=>by unfold gf at hc;obtain⟨j,_,rfl⟩:=mem_map.mp hc;exact HQ _
   rcases mem_append.mp hc with h | h
   ·exact hb c (List.mem_of_mem_take h)
   ·rcases mem_cons.mp h with rfl | h
    ·exact HQ _
    ·exact hb c (List.mem_of_mem_drop h)
  have len:((gf a).take (oJ a) ++ JN (bD a 55+k):: (gf a).drop (oJ a)).length<=7:=by
   rw [lP,length_take,length_cons,length_drop]
   lia
  have ne:(gf a).take (oJ a) ++ JN (bD a 55+k):: (gf a).drop (oJ a)≠[]:=by simp
  generalize (gf a).take (oJ a) ++ JN (bD a 55+k):: (gf a).drop (oJ a)=l at all len ne e;obtain⟨c,r,rfl⟩:=List.exists_cons_of_ne_nil ne;rw [length_cons] at len;exact CJ e (by lia) (all c mem_cons_self) λd hd=>.inl (all d (mem_cons_of_mem _ hd))
theorem Ju (a:Int) {j k:Nat} (hj:j <26) (hk:k <26) (h:cJ a j=cJ a k):j=k:=by
 have e:zr a j=zr a k:=by have:=congrArg (λs:Str=>s.cps.toList) h;simpa [cJ] using this
 unfold zr at e;split at e
 ·have h0:=emod_nonneg (bD a 54) (show(1000:Int)≠0 by decide);have h1:=emod_lt_of_pos (bD a 54) (show(0:Int) <1000 by decide);have e2:=congrArg QF (List.cons.inj e).2;rw [(uM (by lia)).2.2,(uM (by lia)).2.2] at e2
  lia
 ·have e2:=(List.cons.inj (List.append_cancel_left e)).1;unfold JN at e2
  lia
namespace Drawn
variable {S:Type}
structure iz (S:Type) where
 kind:Nat
 name:S
 nums:List Int
 ins:List S
 outs:List S
structure NS (S:Type) where
 lanes:List S
 parts:List (iz S)
 opens:List S
 back:List S
inductive jl (ps:List (iz S)):S->S->Prop
 | refl (x:S):jl ps x x
 | step {x y z:S} {p:iz S}:p∈ps->x∈p.ins ++ p.outs->y∈p.ins ++ p.outs->jl ps y z->jl ps x z
theorem jl.trans {ps:List (iz S)} {x y z:S} (h:jl ps x y) (k:jl ps y z):jl ps x z:=by
 induction h with
 | refl _=>exact k
 | step hp hx hy _ ih=>exact .step hp hx hy (ih k)
theorem jl.symm {ps:List (iz S)} {x y:S} (h:jl ps x y):jl ps y x:=by
 induction h with
 | refl _=>exact .refl _
 | step hp hx hy _ ih=>exact ih.trans (.step hp hy hx (.refl _))
theorem jl.mono {ps qs:List (iz S)} (hs:∀p∈ps,p∈qs) {x y:S} (h:jl ps x y):jl qs x y:=by
 induction h with
 | refl _=>exact .refl _
 | step hp hx hy _ ih=>exact .step (hs _ hp) hx hy ih
theorem jl.part {ps:List (iz S)} {p:iz S} (hp:p∈ps) {x y:S} (hx:x∈p.ins ++ p.outs) (hy:y∈p.ins ++ p.outs):jl ps x y:=.step hp hx hy (.refl _)
structure WF (ns:NS S):Prop where
 nod:ns.lanes.Nodup
 outs:((ns.parts.flatMap (·.outs)) ++ ns.back).Perm ns.lanes
 ins:((ns.parts.flatMap (·.ins)) ++ ns.opens).Perm ns.lanes
 hang:∀p∈ns.parts,∃x∈p.ins ++ p.outs,∃o∈ns.opens,jl ns.parts x o
 touch:∀p∈ns.parts,p.ins ++ p.outs≠[]
theorem WF.add {ns:NS S} (w:WF ns) {p:iz S} {newl opens' back':List S} (hn:(ns.lanes ++ newl).Nodup) (ho:(p.outs ++ back').Perm (ns.back ++ newl)) (hi:(p.ins ++ opens').Perm (ns.opens ++ newl))
  (hg:∀o∈ns.opens,∃o'∈opens',jl (ns.parts ++ [p]) o o') (hp:∃x∈p.ins ++ p.outs,∃o∈opens',jl (ns.parts ++ [p]) x o):
  WF { lanes:=ns.lanes ++ newl,parts:=ns.parts ++ [p],opens:=opens',back:=back' }:=by
 have mono:∀q∈ns.parts,q∈ns.parts ++ [p]:=λq hq=>mem_append.mpr (.inl hq);refine⟨hn,?_,?_,?_,?_⟩
 ·have e:(ns.parts ++ [p]).flatMap (·.outs)=ns.parts.flatMap (·.outs) ++ p.outs:=by simp
  show(((ns.parts ++ [p]).flatMap (·.outs)) ++ back').Perm _;rw [e,append_assoc];exact(ho.append_left _).trans (by rw [<-append_assoc];exact w.outs.append_right _)
 ·have e:(ns.parts ++ [p]).flatMap (·.ins)=ns.parts.flatMap (·.ins) ++ p.ins:=by simp
  show(((ns.parts ++ [p]).flatMap (·.ins)) ++ opens').Perm _;rw [e,append_assoc];exact(hi.append_left _).trans (by rw [<-append_assoc];exact w.ins.append_right _)
 ·intro q hq;rcases mem_append.mp hq with h | h
  ·obtain⟨x,hx,o,hoq,c⟩:=w.hang q h;obtain⟨o',ho',c'⟩:=hg o hoq;exact⟨x,hx,o',ho',(c.mono mono).trans c'⟩
  ·rw [mem_singleton] at h;subst h;exact hp
 ·intro q hq;rcases mem_append.mp hq with h | h
  ·exact w.touch q h
  ·rw [mem_singleton] at h;subst h;obtain⟨x,hx,_⟩:=hp;intro z;rw [z] at hx;cases hx
theorem WF.start:WF (⟨[],[],[],[]⟩:NS S):=⟨nodup_nil,.refl _,.refl _,λp hp=>(by cases hp),λp hp=>(by cases hp)⟩
theorem WF.backLane {ns:NS S} (w:WF ns) {b:S} (hn:(ns.lanes ++ [b]).Nodup):WF { ns with lanes:=ns.lanes ++ [b],opens:=ns.opens ++ [b],back:=ns.back ++ [b] }:=by
 refine⟨hn,?_,?_,λp hp=>?_,w.touch⟩
 ·show(_ ++ (ns.back ++ [b])).Perm _;rw [<-append_assoc];exact w.outs.append_right _
 ·show(_ ++ (ns.opens ++ [b])).Perm _;rw [<-append_assoc];exact w.ins.append_right _
 ·obtain⟨x,hx,o,ho,c⟩:=w.hang p hp;exact⟨x,hx,o,mem_append.mpr (.inl ho),c⟩
theorem WF.part {ns:NS S} (w:WF ns) {p:iz S} {rest:List S} (hi:ns.opens.Perm (p.ins ++ rest)) (hf:(ns.lanes ++ p.outs).Nodup) (ho:p.outs≠[]):
  WF { ns with lanes:=ns.lanes ++ p.outs,parts:=ns.parts ++ [p],opens:=rest ++ p.outs }:=by
 have hp:p∈ns.parts ++ [p]:=by simp
 obtain⟨o1,hoo⟩:∃o1,o1∈p.outs:=List.exists_mem_of_ne_nil _ ho;have h1:o1∈rest ++ p.outs:=mem_append.mpr (.inr hoo);refine w.add hf perm_append_comm ?_ (λo h=>?_) ⟨o1,mem_append.mpr (.inr hoo),o1,h1,.refl _⟩
 ·rw [<-append_assoc];exact hi.symm.append_right _
 ·rcases mem_append.mp (hi.mem_iff.mp h) with h | h
  ·exact⟨o1,h1,jl.part hp (mem_append.mpr (.inl h)) (mem_append.mpr (.inr hoo))⟩
  ·exact⟨o,mem_append.mpr (.inl h),.refl _⟩
theorem WF.take {ns:NS S} (w:WF ns) {p:iz S} {rest:List S} {y x:S} (hi:p.ins=[y]) (ho:p.outs=[]) (hr:ns.opens.Perm (y:: rest)) (hx:x∈rest) (c:jl ns.parts y x):
  WF { ns with parts:=ns.parts ++ [p],opens:=rest }:=by
 have mono:∀q∈ns.parts,q∈ns.parts ++ [p]:=λq hq=>mem_append.mpr (.inl hq);have:=w.add (p:=p) (newl:=[]) (opens':=rest) (back':=ns.back) (by rw [append_nil];exact w.nod) (by rw [ho,append_nil];exact .refl _) (by rw [hi,append_nil];exact hr.symm)
  (λo h=>by
   rcases mem_cons.mp (hr.mem_iff.mp h) with rfl | h
   ·exact⟨x,hx,c.mono mono⟩
   ·exact⟨o,h,.refl _⟩) ⟨y,by simp [hi],x,hx,c.mono mono⟩
 rw [append_nil] at this;exact this
theorem WF.loop {ns:NS S} (w:WF ns) {p:iz S} {rest:List S} {one own fresh:S} (hi:p.ins=[one,own]) (ho:p.outs=[own,fresh]) (hr:ns.opens.Perm (one:: rest)) (hn:(ns.lanes ++ [own,fresh]).Nodup):
  WF { ns with lanes:=ns.lanes ++ [own,fresh],parts:=ns.parts ++ [p],opens:=rest ++ [fresh] }:=by
 have hp:p∈ns.parts ++ [p]:=by simp
 have hf:fresh∈rest ++ [fresh]:=by simp
 refine w.add hn (by rw [ho];exact perm_append_comm) ?_ (λo h=>?_) ⟨fresh,by simp [ho],fresh,hf,.refl _⟩
 ·rw [hi];show(one:: own:: (rest ++ [fresh])).Perm (ns.opens ++ [own,fresh]);refine .trans ?_ (hr.symm.append_right _);refine .cons _ ?_;show(own:: (rest ++ [fresh])).Perm (rest ++ ([own] ++ [fresh]));rw [<-append_assoc];exact(perm_append_comm (l₁:=[own]) (l₂:=rest)).append_right [fresh]
 ·rcases mem_cons.mp (hr.mem_iff.mp h) with rfl | h
  ·exact⟨fresh,hf,jl.part hp (by simp [hi]) (by simp [ho])⟩
  ·exact⟨o,mem_append.mpr (.inl h),.refl _⟩
theorem WF.closeBack {ns:NS S} (w:WF ns) {p:iz S} {rest:List S} {one b fresh:S} (hi:p.ins=[one]) (ho:p.outs=[b,fresh]) (hb:ns.back.Perm (b:: rest)) (h1:ns.opens=[one]) (hn:(ns.lanes ++ [fresh]).Nodup):
  WF { lanes:=ns.lanes ++ [fresh],parts:=ns.parts ++ [p],opens:=[fresh],back:=rest }:=by
 have hp:p∈ns.parts ++ [p]:=by simp
 refine w.add hn ?_ (by rw [hi,h1]) (λo h=>?_) ⟨fresh,by simp [ho],fresh,by simp,.refl _⟩
 ·rw [ho];show(b:: fresh:: rest).Perm (ns.back ++ [fresh]);refine .trans ?_ (hb.symm.append_right _);exact .cons _ (perm_append_comm (l₁:=[fresh]) (l₂:=rest))
 ·rw [h1,mem_singleton] at h;subst h;exact⟨fresh,by simp,jl.part hp (by simp [hi]) (by simp [ho])⟩
theorem WF.last {ns:NS S} (w:WF ns) {p:iz S} {y:S} (hb:ns.back=[]) (h1:ns.opens=[y]) (hi:p.ins=[y]) (ho:p.outs=[]):
  ((ns.parts ++ [p]).flatMap (·.outs)).Perm ns.lanes/\((ns.parts ++ [p]).flatMap (·.ins)).Perm ns.lanes/\∀q∈ns.parts ++ [p],∃x∈q.ins ++ q.outs,jl (ns.parts ++ [p]) x y:=by
 have mono:∀q∈ns.parts,q∈ns.parts ++ [p]:=λq hq=>mem_append.mpr (.inl hq);refine⟨?_,?_,?_⟩
 ·have e:(ns.parts ++ [p]).flatMap (·.outs)=ns.parts.flatMap (·.outs):=by simp [ho]
  rw [e];have:=w.outs;rw [hb,append_nil] at this;exact this
 ·have e:(ns.parts ++ [p]).flatMap (·.ins)=ns.parts.flatMap (·.ins) ++ [y]:=by simp [hi]
  rw [e];have:=w.ins;rw [h1] at this;exact this
 ·intro q hq;rcases mem_append.mp hq with h | h
  ·obtain⟨x,hx,o,hoq,c⟩:=w.hang q h;rw [h1,mem_singleton] at hoq;subst hoq;exact⟨x,hx,c.mono mono⟩
  ·rw [mem_singleton] at h;subst h;exact⟨y,by simp [hi],.refl _⟩
theorem Mi {ps:List (iz S)} {J:iz S->Prop} (closed:∀(l:S) (p q:iz S),p∈ps->q∈ps->l∈p.ins ++ p.outs->l∈q.ins ++ q.outs->J p->J q) {y:S} (hang:∀q∈ps,∃x∈q.ins ++ q.outs,jl ps x y)
  {p0:iz S} (hp0:p0∈ps) (h0:J p0):∀q∈ps,J q:=by
 have go:∀{x z:S},jl ps x z->(∃p∈ps,x∈p.ins ++ p.outs/\J p)->∃p∈ps,z∈p.ins ++ p.outs/\J p:=by
  intro x z c;induction c with
  | refl _=>exact id
  | step hp hx hy _ ih=>
   rintro⟨p',hp',hx',hJ⟩;exact ih ⟨_,hp,hy,closed _ _ _ hp' hp hx' hx hJ⟩
 obtain⟨x0,hx0,c0⟩:=hang p0 hp0;have hy:=go c0 ⟨p0,hp0,hx0,h0⟩;intro q hq;obtain⟨x,hx,c⟩:=hang q hq;obtain⟨p',hp',hx',hJ⟩:=go c.symm hy;exact closed _ _ _ hp' hq hx' hx hJ
theorem Qe {ps:List (iz S)} (f:iz S->List S) (h:(ps.flatMap f).Nodup) {i j:Nat} {p q:iz S} {l:S} (hi:ps[i]?=some p) (hj:ps[j]?=some q) (hp:l∈f p) (hq:l∈f q):i=j:=by
 induction ps generalizing i j with
 | nil=>cases hi
 | cons r rs ih=>
  rw [flatMap_cons,nodup_append] at h;obtain⟨h1,h2,h3⟩:=h;have far:∀{k:Nat} {s:iz S},rs[k]?=some s->l∈f s->l∈rs.flatMap f:=λe hs=>mem_flatMap.mpr ⟨_,mem_of_getElem? e,hs⟩;match i,j with
  | 0,0=>rfl
  | 0,j+1=>
   simp only [getElem?_cons_zero,Option.some.injEq] at hi;subst hi;exact absurd Z (h3 l hp l (far (by simpa using hj) hq))
  | i+1,0=>
   simp only [getElem?_cons_zero,Option.some.injEq] at hj;subst hj;exact absurd Z (h3 l hq l (far (by simpa using hi) hp))
  | i+1,j+1=>exact congrArg (· +1) (ih h2 (by simpa using hi) (by simpa using hj))
end Drawn
structure aK where
 name:Str
 room:Int
 first:List Int
noncomputable def aK.ok (l:aK):Prop:=1<=l.room/\l.room<=10/\(l.first.length:Int)<=l.room/\∀v∈l.first,0<=v/\v <1000000000
noncomputable abbrev PD:=Drawn.iz Str
noncomputable def pH (p:PD):Prop:=p.kind <11/\p.nums.length=cN p.kind/\p.ins.length=cI p.kind/\p.outs.length=cO p.kind/\∀v∈p.nums,0<=v/\v <1000000000
noncomputable def bL (E:List Addr) (H:Hp):Hp:=λb=>if b∈E then none else H b
theorem cY {E:List Addr} {H:Hp}:aO (bL E H) H:=λb o e=>by
 unfold bL at e;split at e
 ·cases e
 ·exact e
theorem dH {E:List Addr} {H:Hp} {p:Addr} {o:HO} (h:H p=some o) (n:p∉E):bL E H p=some o:=by unfold bL;rw [if_neg n];exact h
theorem cM {E:List Addr} {H:Hp} {a:Addr} {o:HO} (h:a∈E):bL E (upd H a o)=bL E H:=by
 funext b
 unfold bL;split
 ·rfl
 ·rename_i n;rw [aH (λz=>n (by rw [z];exact h))]
theorem Jw {E:List Addr} {H H':Hp} (s:aO H H') (hE:∀a∈E,∃o,H a=some o):aO (bL E H) (bL E H'):=λb o e=>by
 have e':=cY b o e;unfold bL at e ⊢;split at e
 ·cases e
 ·rename_i n;rw [if_neg n];exact s _ _ e'
inductive jx {α β:Type} (R:α->β->Prop):List α->List β->Prop
 | nil:jx R [] []
 | cons {a:α} {b:β} {l:List α} {m:List β}:R a b->jx R l m->jx R (a:: l) (b:: m)
theorem jx.imp {α β:Type} {R R':α->β->Prop} (h:∀a b,R a b->R' a b):∀{l:List α} {m:List β},jx R l m->jx R' l m
 | _,_,.nil=>.nil
 | _,_,.cons r t=>.cons (h _ _ r) (t.imp h)
theorem jx.length {α β:Type} {R:α->β->Prop}:∀{l:List α} {m:List β},jx R l m->l.length=m.length
 | _,_,.nil=>rfl
 | _,_,.cons _ t=>by rw [length_cons,length_cons,t.length]
theorem jx.app {α β:Type} {R:α->β->Prop}:∀{l l':List α} {m m':List β},jx R l m->jx R l' m'->jx R (l ++ l') (m ++ m')
 | _,_,_,_,.nil,h=>h
 | _,_,_,_,.cons r t,h=>.cons r (t.app h)
theorem jx.get {α β:Type} {R:α->β->Prop}:∀{l:List α} {m:List β},jx R l m->∀{i:Nat} {a:α},l[i]?=some a->∃b,m[i]?=some b/\R a b
 | _,_,.nil,_,_,h=>by simp at h
 | _,_,.cons r t,0,_,h=>by simp only [getElem?_cons_zero,Option.some.injEq] at h;subst h;exact⟨_,Z,r⟩
 | _,_,.cons r t,i+1,_,h=>t.get (i:=i) (by simpa using h)
theorem jx.take {α β:Type} {R:α->β->Prop}:∀{l:List α} {m:List β},jx R l m->∀n:Nat,jx R (l.take n) (m.take n)
 | _,_,.nil,_=>by simp;exact .nil
 | _,_,.cons r t,0=>by simp;exact .nil
 | _,_,.cons r t,n+1=>by simp;exact .cons r (t.take n)
theorem jx.drop {α β:Type} {R:α->β->Prop}:∀{l:List α} {m:List β},jx R l m->∀n:Nat,jx R (l.drop n) (m.drop n)
 | _,_,.nil,_=>by simp;exact .nil
 | _,_,.cons r t,0=>.cons r t
 | _,_,.cons r t,n+1=>by simp;exact t.drop n
inductive uh (G:Hp) (v:V) (l:aK):Prop where
 | mk:∀q f,v=.ref q->G q=some (.tup [.str l.name,.int l.room,.ref f])->G f=some (.lst (l.first.map V.int))->uh G v l
inductive xU (G:Hp) (v:V) (p:PD):Prop where
 | mk:∀q a1 a2 a3,v=.ref q->G q=some (.tup [.str (eU p.kind),.str p.name,.ref a1,.ref a2,.ref a3])->G a1=some (.lst (p.nums.map V.int))->G a2=some (.lst (p.ins.map V.str))->G a3=some (.lst (p.outs.map V.str))->xU G v p
theorem uh.same {G G':Hp} {v:V} {l:aK} (h:uh G v l) (s:aO G G'):uh G' v l:=by obtain⟨q,f,e,h1,h2⟩:=h;exact⟨q,f,e,s _ _ h1,s _ _ h2⟩
theorem xU.same {G G':Hp} {v:V} {p:PD} (h:xU G v p) (s:aO G G'):xU G' v p:=by obtain⟨q,a1,a2,a3,e,h1,h2,h3,h4⟩:=h;exact⟨q,a1,a2,a3,e,s _ _ h1,s _ _ h2,s _ _ h3,s _ _ h4⟩
structure Dw where
 S:Addr
 L:Addr
 P:Addr
 O:Addr
 c3:Int
 c4:Int
noncomputable abbrev Dw.E (d:Dw):List Addr:=[d.L,d.P,d.O]
structure lZ (d:Dw) (H:Hp) (ls:List aK) (ps:List PD) (os:List Str):Prop where
 top:bL d.E H d.S=some (.lst [.ref d.L,.ref d.P,.ref d.O,.int d.c3,.int d.c4])
 lanes:∃xs,H d.L=some (.lst xs)/\jx (uh (bL d.E H)) xs ls
 parts:∃xs,H d.P=some (.lst xs)/\jx (xU (bL d.E H)) xs ps
 opens:H d.O=some (.lst (os.map V.str))
 ne:d.L≠d.P/\d.L≠d.O/\d.P≠d.O
 lok:∀l∈ls,l.ok
 pok:∀p∈ps,pH p
 ln:ls.map (·.name)=(List.range ls.length).map (cJ d.c3)
 pn:ps.map (·.name)=(List.range ps.length).map (cJ d.c4)
theorem lZ.seqS {d:Dw} {H:Hp} {ls:List aK} {ps:List PD} {os:List Str} (D:lZ d H ls ps os):bT K H d.S [.ref d.L,.ref d.P,.ref d.O,.int d.c3,.int d.c4]:=bT.of (cY _ _ D.top)
theorem lZ.has {d:Dw} {H:Hp} {ls:List aK} {ps:List PD} {os:List Str} (D:lZ d H ls ps os) {a:Addr} (h:a∈d.E):∃o,H a=some o:=by
 obtain⟨_,e1,_⟩:=D.lanes;obtain⟨_,e2,_⟩:=D.parts;rcases mem_cons.mp h with rfl | h
 ·exact⟨_,e1⟩
 ·rcases mem_cons.mp h with rfl | h
  ·exact⟨_,e2⟩
  ·rw [mem_singleton] at h;subst h;exact⟨_,D.opens⟩
theorem lZ.out {d:Dw} {H:Hp} {ls:List aK} {ps:List PD} {os:List Str} (D:lZ d H ls ps os) {p:Addr} (h:H p=none):p∉d.E:=λz=>by obtain⟨o,e⟩:=D.has z;rw [h] at e;cases e
theorem lZ.keep {d:Dw} {H H':Hp} {ls:List aK} {ps:List PD} {os:List Str} (D:lZ d H ls ps os) (s:aO H H'):lZ d H' ls ps os:=by obtain⟨xs,e1,a1⟩:=D.lanes;obtain⟨ys,e2,a2⟩:=D.parts;have c:=Jw (E:=d.E) s (λa h=>D.has h);exact⟨c _ _ D.top,⟨xs,s _ _ e1,a1.imp λ_ _ h=>h.same c⟩,⟨ys,s _ _ e2,a2.imp λ_ _ h=>h.same c⟩,s _ _ D.opens,D.ne,D.lok,D.pok,D.ln,D.pn⟩
theorem lZ.cut {d:Dw} {H H':Hp} {ls:List aK} {ps:List PD} {os:List Str} (D:lZ d H ls ps os) (s:aO H H'):aO (bL d.E H) (bL d.E H'):=Jw s (λ_ h=>D.has h)
theorem Gh {α:Type} {f:α->Str} {w:Nat->Str} {l:List α} {x:α} (h:l.map f=(List.range l.length).map w) (hx:f x=w l.length):(l ++ [x]).map f=(List.range (l ++ [x]).length).map w:=by rw [map_append,lP,length_singleton,range_succ,map_append,h,List.map_singleton,List.map_singleton,hx]
theorem lZ.lane {d:Dw} {H:Hp} {ls:List aK} {ps:List PD} {os:List Str} (D:lZ d H ls ps os) {v:V} {l:aK} (h:uh (bL d.E H) v l) (hl:l.ok) (hn:l.name=cJ d.c3 ls.length) {xs:List V} (e:H d.L=some (.lst xs)):
  lZ d (upd H d.L (.lst (xs ++ [v]))) (ls ++ [l]) ps os:=by
 obtain⟨xs',e1,a1⟩:=D.lanes;obtain⟨ys,e2,a2⟩:=D.parts;rw [e] at e1;cases e1;have c:bL d.E (upd H d.L (.lst (xs ++ [v])))=bL d.E H:=cM (by simp);refine⟨by rw [c];exact D.top,⟨_,az,by rw [c];exact a1.app (.cons h .nil)⟩,⟨ys,by rw [aH (Ne.symm D.ne.1)];exact e2,by rw [c];exact a2⟩,by rw [aH (Ne.symm D.ne.2.1)];exact D.opens,D.ne,λx hx=>?_,D.pok,Gh D.ln hn,D.pn⟩;rcases mem_append.mp hx with hx | hx
 ·exact D.lok x hx
 ·rw [mem_singleton] at hx;subst hx;exact hl
theorem lZ.part {d:Dw} {H:Hp} {ls:List aK} {ps:List PD} {os:List Str} (D:lZ d H ls ps os) {v:V} {p:PD} (h:xU (bL d.E H) v p) (hl:pH p) (hn:p.name=cJ d.c4 ps.length) {xs:List V} (e:H d.P=some (.lst xs)):
  lZ d (upd H d.P (.lst (xs ++ [v]))) ls (ps ++ [p]) os:=by
 obtain⟨xs',e1,a1⟩:=D.lanes;obtain⟨ys,e2,a2⟩:=D.parts;rw [e] at e2;cases e2;have c:bL d.E (upd H d.P (.lst (xs ++ [v])))=bL d.E H:=cM (by simp);refine⟨by rw [c];exact D.top,⟨_,by rw [aH D.ne.1];exact e1,by rw [c];exact a1⟩,⟨_,az,by rw [c];exact a2.app (.cons h .nil)⟩,by rw [aH (Ne.symm D.ne.2.2)];exact D.opens,D.ne,D.lok,λx hx=>?_,D.ln,Gh D.pn hn⟩;rcases mem_append.mp hx with hx | hx
 ·exact D.pok x hx
 ·rw [mem_singleton] at hx;subst hx;exact hl
theorem lZ.open {d:Dw} {H:Hp} {ls:List aK} {ps:List PD} {os os':List Str} (D:lZ d H ls ps os):lZ d (upd H d.O (.lst (os'.map V.str))) ls ps os':=by obtain⟨xs,e1,a1⟩:=D.lanes;obtain⟨ys,e2,a2⟩:=D.parts;have c:bL d.E (upd H d.O (.lst (os'.map V.str)))=bL d.E H:=cM (by simp);exact⟨by rw [c];exact D.top,⟨xs,by rw [aH D.ne.2.1];exact e1,by rw [c];exact a1⟩,⟨ys,by rw [aH D.ne.2.2];exact e2,by rw [c];exact a2⟩,az,D.ne,D.lok,D.pok,D.ln,D.pn⟩
theorem Ab (a:Int) {n:Nat} (h:n<=26):((List.range n).map (cJ a)).Nodup:=by
 induction n with
 | zero=>exact nodup_nil
 | succ n ih=>
  rw [range_succ,map_append,nodup_append];refine⟨ih (by lia),by simp,λx hx y hy=>?_⟩;obtain⟨j,hj,rfl⟩:=mem_map.mp hx;rw [List.map_singleton,mem_singleton] at hy;subst hy;have hj':=mem_range.mp hj;intro z;have:=Ju a (by lia) (by lia) z
  lia
noncomputable abbrev uF (ls:List aK) (ps:List PD) (os back:List Str):Drawn.NS Str:=⟨ls.map (·.name),ps,os,back⟩
theorem lZ.nod {d:Dw} {H:Hp} {ls:List aK} {ps:List PD} {os:List Str} (D:lZ d H ls ps os) (h:ls.length<=26):(ls.map (·.name)).Nodup:=by rw [D.ln];exact Ab _ h
theorem XD {ns:Drawn.NS Str} (w:Drawn.WF ns) {os:List Str} (h:ns.opens.Perm os):Drawn.WF { ns with opens:=os }:=
 ⟨w.nod,w.outs,(h.symm.append_left _).trans w.ins,λp hp=>by obtain⟨x,hx,o,ho,c⟩:=w.hang p hp;exact⟨x,hx,o,h.mem_iff.mp ho,c⟩,w.touch⟩
theorem qg {d:Dw} {H:Hp} {ls newl:List aK} {ps:List PD} {p:PD} {os ops back:List Str} (w:Drawn.WF (uF ls ps ops back)) (ho:p.outs=newl.map (·.name)) (D:lZ d H (ls ++ newl) (ps ++ [p]) (os ++ newl.map (·.name))) (hi:ops.Perm (p.ins ++ os)) (hne:newl.length≠0) (hl:(ls ++ newl).length<=26):
  Drawn.WF (uF (ls ++ newl) (ps ++ [p]) (os ++ newl.map (·.name)) back):=by
 have nd:=D.nod hl;rw [map_append] at nd;have:=w.part (p:=p) hi (by rw [ho];exact nd) (by rw [ho];intro z;exact hne (by rw [<-lM (f:=λl:aK=>l.name),z];rfl));rw [ho] at this;unfold uF;rw [map_append];exact this
noncomputable def Mj (ps:List PD):Prop:=ps.any (λp=>p.kind == 0)=true
theorem Mj.app {ps:List PD} {p:PD} (h:Mj ps):Mj (ps ++ [p]):=by unfold Mj at h ⊢;rw [List.any_append,h];rfl
structure Nxt (d:Dw) (H H':Hp) (ls:List aK) (ps:List PD) (back:List Str) (ls':List aK) (ps':List PD) (os':List Str):Prop where
 cut:aO (bL d.E H) (bL d.E H')
 at':lZ d H' ls' ps' os'
 wf:Drawn.WF (uF ls' ps' os' back)
 o1:1<=os'.length
 o4:os'.length<=4
 l2:ls'.length<=ls.length+2
 p2:ps'.length<=ps.length+2
 gv:Mj ps->Mj ps'
theorem Bg {c X Y B:Prop} [Decidable c] (k:B) (hx:c->B->X) (hy:B->Y):if c then X else Y:=by
 split
 ·rename_i h;exact hx h k
 ·exact hy k
theorem hide {t u:TS} {D:Ends} {σ:St} {H:Hp} (h:∀v,v=u->sW t v D σ H):sW t u D σ H:=h u rfl
theorem TJ {i:Nat} {x:V} {t u:TS} {D:Ends} {σ:St} {H:Hp} (h:∀E,E=D->∀v,v=u->sW t v E (σ.set i (some x)) H):vM i x σ H λσ2 H2=>sW t u D σ2 H2:=h D rfl u rfl
theorem VP {i:Nat} {x:V} {t:TS} {D:Ends} {σ:St} {H:Hp} (h:∀E,E=D->t E (σ.set i (some x)) H):vM i x σ H λσ2 H2=>t D σ2 H2:=h D rfl
theorem Zu {t u:TS} {D:Ends} {σ:St} {H:Hp} (h:∀E,E=D->∀v,v=u->sW t v E σ H):sW t u D σ H:=h D rfl u rfl
theorem dz {t u v:TS} {D:Ends} {σ:St} {H:Hp} (hv:v=sW t u) (h:∀w,w=u->sW t w D σ H):v D σ H:=by subst hv;exact h u Z
theorem lZ.two {d:Dw} {H:Hp} {ls:List aK} {ps:List PD} {os:List Str} (D:lZ d H ls ps os) {a1 a2:Addr} {x y:HO} (n1:H a1=none) (n2:upd H a1 x a2=none):
  lZ d (upd (upd H a1 x) a2 y) ls ps os/\bL d.E (upd (upd H a1 x) a2 y) a1=some x/\bL d.E (upd (upd H a1 x) a2 y) a2=some y/\aO (bL d.E H) (bL d.E (upd (upd H a1 x) a2 y)):=by
 have s1:=aB (o:=x) n1;have s2:=aB (o:=y) n2;have s:=s1.trans s2;exact⟨D.keep s,dH (s2 _ _ az) (D.out n1),dH az (D.out (s1.free n2)),D.cut s⟩
structure Fy (lanes:List Str) (ps:List PD):Prop where
 nod:lanes.Nodup
 outs:(ps.flatMap (·.outs)).Perm lanes
 ins:(ps.flatMap (·.ins)).Perm lanes
 hang:∃y,∀q∈ps,∃x∈q.ins ++ q.outs,Drawn.jl ps x y
noncomputable def Ss (H:Hp) (a:Addr):Nat:=match H a with
 | some (.lst xs)=>xs.length
 | _=>0
theorem Jf {H:Hp} {a:Addr} {xs:List V} (h:H a=some (.lst xs)):Ss H a=xs.length:=by unfold Ss;rw [h]
theorem Ln (m:Int) {n:Int} {k:Nat} (h0:0 <n) (hk:n=k):∃j:Nat,m % n=(j:Int)/\j <k:=by have h1:=emod_nonneg m (Int.ne_of_gt h0);have h2:=emod_lt_of_pos m h0;exact⟨(m % n).toNat,(Int.toNat_of_nonneg h1).symm,by lia⟩
theorem ZC (m:Int):∃i:Nat,IW [V.str "add",V.str "less",V.str "add"] (m % 3)=some (.str (eU i))/\(i=6∨i=7):=by
 have key:∀j,j <3->IW [V.str "add",V.str "less",V.str "add"] ((j:Nat):Int)=some (.str (eU (([6,7,6]:List Nat).getD j 0)))/\(([6,7,6]:List Nat).getD j 0=6∨([6,7,6]:List Nat).getD j 0=7):=by decide +kernel
 obtain⟨j,e,hj⟩:=Ln m (n:=3) (k:=3) (by decide) rfl;rw [e];exact⟨_,key j hj⟩
structure QX (c3 c4:Int) (ls:List aK) (ps:List PD):Prop where
 lok:∀l∈ls,l.ok
 pok:∀p∈ps,pH p
 ln:ls.map (·.name)=(List.range ls.length).map (cJ c3)
 pn:((List.range ps.length).map (cJ c4)).Perm (ps.map (·.name))
 whole:Fy (ls.map (·.name)) ps
 l1:1<=ls.length
 l17:ls.length<=17
 p1:1<=ps.length
 p16:ps.length<=16
 giv:Mj ps
structure Fq (H:Hp) (L P:Addr) (ls:List aK) (ps:List PD):Prop where
 lanes:∃xs,H L=some (.lst xs)/\jx (uh H) xs ls
 parts:∃xs,H P=some (.lst xs)/\jx (xU H) xs ps
theorem Fq.same {H H':Hp} {L P:Addr} {ls:List aK} {ps:List PD} (h:Fq H L P ls ps) (s:aO H H'):Fq H' L P ls ps:=by obtain⟨⟨xs,e1,a1⟩,⟨ys,e2,a2⟩⟩:=h;exact⟨⟨xs,s _ _ e1,a1.imp λ_ _ h=>h.same s⟩,⟨ys,s _ _ e2,a2.imp λ_ _ h=>h.same s⟩⟩
theorem O2 {ps qs:List PD} (h:ps.Perm qs) {x y:Str} (c:Drawn.jl ps x y):Drawn.jl qs x y:=c.mono λ_ hp=>h.mem_iff.mp hp
theorem Fy.perm {ns:List Str} {ps qs:List PD} (w:Fy ns ps) (h:ps.Perm qs):Fy ns qs:=by obtain⟨y,hy⟩:=w.hang;exact⟨w.nod,(h.symm.flatMap_right _).trans w.outs,(h.symm.flatMap_right _).trans w.ins,y,λq hq=>by obtain⟨x,hx,c⟩:=hy q (h.mem_iff.mpr hq);exact⟨x,hx,O2 h c⟩⟩
theorem QS {α:Type} (l:List α) (n:Nat):l.Perm (l.drop n ++ l.take n):=by
 have h:l.Perm (l.take n ++ l.drop n):=by rw [take_append_drop]
 exact h.trans perm_append_comm
theorem Pj (xs:List V) (g:Nat):qd xs (some (g:Int)) none=xs.drop g:=by
 unfold qd;rw [HT.Jz,HT.Nh,<-length_drop,take_length];rcases Nat.le_total g xs.length with h | h
 ·rw [Nat.min_eq_left h]
 ·rw [Nat.min_eq_right h,List.drop_length,List.drop_eq_nil_of_le h]
theorem U9 (xs:List V) (g:Nat):qd xs none (some (g:Int))=xs.take g:=by
 unfold qd;rw [HT.Jz,HT.Nh,List.drop_zero,Nat.sub_zero];rcases Nat.le_total g xs.length with h | h
 ·rw [Nat.min_eq_left h]
 ·rw [Nat.min_eq_right h,take_length,take_of_length_le h]
theorem lZ.init {H:Hp} {S L P O:Addr} (c3 c4:Int) (nL:H L=none) (nP:upd H L (.lst []) P=none) (nO:upd (upd H L (.lst [])) P (.lst []) O=none) (nS:upd (upd (upd H L (.lst [])) P (.lst [])) O (.lst []) S=none):
  lZ ⟨S,L,P,O,c3,c4⟩ (upd (upd (upd (upd H L (.lst [])) P (.lst [])) O (.lst [])) S (.lst [.ref L,.ref P,.ref O,.int c3,.int c4])) [] [] []/\aO H (bL [L,P,O] (upd (upd (upd (upd H L (.lst [])) P (.lst [])) O (.lst [])) S (.lst [.ref L,.ref P,.ref O,.int c3,.int c4])))/\H P=none:=by
 have s1:=aB (o:=.lst []) nL;have s2:=aB (o:=.lst []) nP;have s3:=aB (o:=.lst []) nO;have s4:=aB (o:=.lst [.ref L,.ref P,.ref O,.int c3,.int c4]) nS;have e1:=s4 _ _ (s3 _ _ (s2 L (.lst []) az));have e2:=s4 _ _ (s3 P (.lst []) az);have e3:=s4 O (.lst []) az;have n1:L≠P:=aF (az (H:=H) (o:=.lst [])) nP;have n2:L≠O:=aF (s2 L (.lst []) az) nO;have n3:P≠O:=aF (az (H:=upd H L (.lst [])) (o:=.lst [])) nO;have m1:L≠S:=aF (s3 _ _ (s2 L (.lst []) az)) nS;have m2:P≠S:=aF (s3 P (.lst []) az) nS;have m3:O≠S:=aF (az (H:=upd (upd H L (.lst [])) P (.lst [])) (o:=.lst [])) nS;refine⟨⟨dH az ?_,⟨[],e1,.nil⟩,⟨[],e2,.nil⟩,e3,⟨n1,n2,n3⟩,(λ_ h=>by cases h),(λ_ h=>by cases h),rfl,rfl⟩,λb o e=>dH (s4 _ _ (s3 _ _ (s2 _ _ (s1 _ _ e)))) ?_,s1.free nP⟩
 ·show S∉[L,P,O];simp [m1.symm,m2.symm,m3.symm]
 ·have q1:=aF e nL;have q2:=aF (s1 _ _ e) nP;have q3:=aF (s2 _ _ (s1 _ _ e)) nO;simp [q1,q2,q3]
noncomputable abbrev LET:Str:= "abcdefghijklmnopqrstuvwxyz"
noncomputable abbrev FIG:Str:= "0123456789"
theorem PP:LET.cps.toList=List.range' 97 26:=by decide +kernel
theorem Ox:FIG.cps.toList=List.range' 48 10:=by decide +kernel
theorem Td (c:Nat):(!(Builtin.Str.occurrences LET ⟨#[c]⟩ 0 LET.length 1).isEmpty)=low c:=by
 rw [StrLaws.found_one,PP];unfold low;rw [Bool.eq_iff_iff];simp [List.mem_range'_1]
 lia
theorem Xx (c:Nat):(!(Builtin.Str.occurrences FIG ⟨#[c]⟩ 0 FIG.length 1).isEmpty)=Lq c:=by
 rw [StrLaws.found_one,Ox];unfold Lq;rw [Bool.eq_iff_iff];simp [List.mem_range'_1]
 lia
structure Zd (ms:List Str) (want:List (Str×V)) (fs:List (Str×V)):Prop where
 has:∀p∈want,fs.lookup p.1=some p.2
 no:∀m∈ms,fs.lookup m=none
theorem mJ {H:Hp} {d:Addr} {kvs:List (Key×V)} {v:HO} (e:H d=some (.dK kvs)) {b:Addr} {u:HO} (h:H b=some u) (hu:∀ks,u≠.dK ks):upd H d v b=some u:=by
 rw [aH]
 ·exact h
 ·rintro rfl;rw [e] at h;exact hu _ (Option.some.inj h).symm
theorem fM {H:Hp} {d a:Addr} {kvs:List (Key×V)} {v:HO} {xs:List V} (e:H d=some (.dK kvs)) (h:fZ K H a xs):fZ K (upd H d v) a xs:=by
 rcases h with (h | ⟨o,h⟩) | h
 ·exact .inl (.inl (mJ e h (by intro _ z;cases z)))
 ·exact .inl (.inr ⟨o,mJ e h (by intro _ z;cases z)⟩)
 ·exact .inr h
theorem fC.chill {H:Hp} {d p:Addr} {kvs:List (Key×V)} {v:HO} {i:Nat} {nm:V} {ns is os:List V} (e:H d=some (.dK kvs)) (h:fC K t H p i nm ns is os):fC K t (upd H d v) p i nm ns is os:=by obtain⟨dx,tn,ti,to,h1,h2,h3,h4⟩:=h;exact⟨dx,tn,ti,to,mJ e h1 (by intro _ z;cases z),fM e h2,fM e h3,fM e h4⟩
theorem Pu {H:Hp} {d D:Addr} {kvs:List (Key×V)} {o:Obj} {u:HO} (e:H d=some (.dK kvs)) (hD:(upd H d (.frz o (.dK kvs))) D=none):upd (upd (upd H d (.frz o (.dK kvs))) D u) d (.dK kvs)=upd H D u:=by
 have n:D≠d:=by rintro rfl;rw [az] at hD;cases hD
 funext b
 by_cases h:b=d
 ·subst h;rw [az,aH (Ne.symm n)];exact e.symm
 ·rw [aH h];unfold upd;rw [if_neg h]
theorem LR {H:Hp} {d D:Addr} {v:HO} (hD:(upd H d v) D=none):H D=none:=by
 by_cases h:D=d
 ·subst h;rw [az] at hD;cases hD
 ·rw [aH h] at hD;exact hD
theorem Lr {H:Hp} {a:Addr} {o:HO} (e:H a=some o):upd H a o=H:=by
 funext b
 unfold upd;split
 ·rename_i h;rw [h];exact e.symm
 ·rfl
theorem ik {κ:Type} [DecidableEq κ] {kvs:List (κ×V)} {k:κ} (h:k∉kvs.map (·.1)):b8 kvs k=none:=by
 induction kvs with
 | nil=>rfl
 | cons p r ih=>
  simp only [map_cons,mem_cons,not_or] at h;rw [fV (Ne.symm h.1)];exact ih h.2
theorem gB {κ:Type} [DecidableEq κ] {kvs:List (κ×V)} {k:κ} {v:V} (nd:(kvs.map (·.1)).Nodup) (h:(k,v)∈kvs):b8 kvs k=some v:=by
 induction kvs with
 | nil=>cases h
 | cons p r ih=>
  simp only [map_cons,nodup_cons] at nd;rcases mem_cons.mp h with h | h
  ·subst h;exact gO Z
  ·have:¬p.1=k:=λz=>nd.1 (mem_map.mpr ⟨_,h,z.symm⟩);rw [fV this];exact ih nd.2 h
noncomputable def cP (f:PD->List Str) (ps:List PD):List (Key×V):=ps.flatMap λp=>(f p).map λl=>((Sum.inr l:Key),V.str p.name)
theorem wA (f:PD->List Str) (ps:List PD):(cP f ps).map (·.1)=(ps.flatMap f).map (λl=>(Sum.inr l:Key)):=by
 induction ps with
 | nil=>rfl
 | cons p r ih=>
  unfold cP at ih ⊢;simp only [flatMap_cons,map_append,ih,map_map];rfl
theorem gQ {l:List Str} (h:l.Nodup):(l.map (λx=>(Sum.inr x:Key))).Nodup:=by
 induction l with
 | nil=>exact nodup_nil
 | cons a r ih=>
  simp only [map_cons,nodup_cons,mem_map] at h ⊢;refine⟨?_,ih h.2⟩;rintro⟨b,hb,e⟩;cases e;exact h.1 hb
theorem iV {f:PD->List Str} {ps:List PD} (nd:(ps.flatMap f).Nodup) {p:PD} (hp:p∈ps) {l:Str} (hl:l∈f p):b8 (cP f ps) (Sum.inr l)=some (.str p.name):=
 gB (by rw [wA];exact gQ nd) (mem_flatMap.mpr ⟨p,hp,mem_map.mpr ⟨l,hl,rfl⟩⟩)
theorem Cq {f:PD->List Str} {ps:List PD} {l:Str} (h:l∉ps.flatMap f):b8 (cP f ps) (Sum.inr l)=none:=ik (by rw [wA];intro z;obtain⟨b,hb,e⟩:=mem_map.mp z;cases e;exact h hb)
theorem Qg (f:PD->List Str) (ps:List PD):(cP f ps).length=(ps.flatMap f).length:=by have:=congrArg List.length (wA f ps);simpa using this
theorem Di (f:PD->List Str) (ps:List PD) (p:PD):cP f (ps ++ [p])=cP f ps ++ (f p).map λl=>((Sum.inr l:Key),V.str p.name):=by unfold cP;rw [List.flatMap_append];simp
theorem M8 {α:Type} {f g:α->Bool}:∀{l:List α},(∀a∈l,g a=true->f a=true)->(∃a∈l,f a=true/\g a=false)->(l.filter g).length <(l.filter f).length
 | [],_,h=>by obtain⟨a,ha,_⟩:=h;cases ha
 | x:: r,h,h2=>by
  have le:∀r:List α,(∀a∈r,g a=true->f a=true)->(r.filter g).length<=(r.filter f).length:=λr=>by
   induction r with
   | nil=>intro _;exact le_refl _
   | cons y t ih=>
    intro q;have:=ih λa ha=>q a (mem_cons_of_mem _ ha);have q0:=q y mem_cons_self;rw [filter_cons,filter_cons];cases hg:g y
    ·simp only [Bool.false_eq_true,if_false];split
     ·rw [length_cons];lia
     ·exact this
    ·rw [q0 hg];simp only [if_true,length_cons]
     lia
  obtain⟨a,ha,hf,hg⟩:=h2;have hr:=λa ha=>h a (mem_cons_of_mem x ha);rw [filter_cons,filter_cons];rcases mem_cons.mp ha with rfl | ha
  ·rw [hf,hg];have:=le r hr;simp
   lia
  ·have ih:=M8 hr ⟨a,ha,hf,hg⟩;have q0:=h x mem_cons_self;cases hx:g x
   ·simp only [Bool.false_eq_true,if_false];split
    ·rw [length_cons];lia
    ·exact ih
   ·rw [q0 hx];simp only [if_true,length_cons]
    lia
noncomputable def gm (jk:List (Key×V)) (x:Str):Bool:=(b8 jk (Sum.inr x)).isSome
noncomputable def mW (ps:List PD) (jk:List (Key×V)):Nat:=(ps.filter λp=>!gm jk p.name).length
theorem J3 (jk:List (Key×V)) (x y:Str) (v:V):gm (putK jk (Sum.inr x) v) y=(decide (y=x) || gm jk y):=by
 unfold gm;rw [QG];by_cases h:y=x
 ·subst h;simp
 ·have:¬(Sum.inr y:Key)=Sum.inr x:=λz=>h (Sum.inr.inj z);rw [if_neg this];simp [h]
theorem JZ {ps:List PD} {jk jk':List (Key×V)} (h:∀x,gm jk x=true->gm jk' x=true) {p:PD} (hp:p∈ps) (h1:gm jk p.name=false) (h2:gm jk' p.name=true):mW ps jk' <mW ps jk:=by
 refine M8 (λa _ q=>?_) ⟨p,hp,by simp [h1],by simp [h2]⟩;cases hj:gm jk a.name
 ·rfl
 ·rw [h _ hj] at q;cases q
theorem Px {ps:List PD} (pm:(ps.flatMap (·.outs)).Perm (ps.flatMap (·.ins))) {l:Str} (h:l∈ps.flatMap (·.outs)):∃a∈ps,∃b∈ps,l∈a.outs/\l∈b.ins:=by obtain⟨a,ha,hl⟩:=mem_flatMap.mp h;obtain⟨b,hb,hl2⟩:=mem_flatMap.mp (pm.mem_iff.mp h);exact⟨a,ha,b,hb,hl,hl2⟩
theorem Xc {ps:List PD} (no:(ps.flatMap (·.outs)).Nodup) (ni:(ps.flatMap (·.ins)).Nodup) (pm:(ps.flatMap (·.outs)).Perm (ps.flatMap (·.ins))) {jk:List (Key×V)} (hang:∃y,∀q∈ps,∃x∈q.ins ++ q.outs,Drawn.jl ps x y)
  (cl:∀a∈ps,∀b∈ps,∀l,l∈a.outs->l∈b.ins->gm jk a.name=gm jk b.name) {p0:PD} (hp0:p0∈ps) (h0:gm jk p0.name=true):∀q∈ps,gm jk q.name=true:=by
 obtain⟨y,hy⟩:=hang;refine Drawn.Mi (J:=λp=>gm jk p.name=true) (λl p q hp hq hlp hlq hJ=>?_) hy hp0 h0;have same:∀{f:PD->List Str},(ps.flatMap f).Nodup->∀{a b:PD},a∈ps->b∈ps->l∈f a->l∈f b->a.name=b.name:=λ{f} nd {a b} ha hb h1 h2=>by obtain⟨i,hi,ei⟩:=mem_iff_getElem.mp ha;obtain⟨j,hj,ej⟩:=mem_iff_getElem.mp hb;have:=Drawn.Qe f nd (i:=i) (j:=j) (p:=a) (q:=b) (l:=l) (by rw [getElem?_eq_getElem hi,ei]) (by rw [getElem?_eq_getElem hj,ej]) h1 h2;subst this;rw [<-ei,<-ej]
 have hl:l∈ps.flatMap (·.outs):=by
  rcases mem_append.mp hlp with h | h
  ·exact pm.mem_iff.mpr (mem_flatMap.mpr ⟨p,hp,h⟩)
  ·exact mem_flatMap.mpr ⟨p,hp,h⟩
 obtain⟨a,ha,b,hb,la,lb⟩:=Px pm hl;have e:=cl a ha b hb l la lb;have np:p.name=a.name∨p.name=b.name:=(mem_append.mp hlp).elim (λh=>.inr (same ni hp hb h lb)) λh=>.inl (same no hp ha h la);have nq:q.name=a.name∨q.name=b.name:=(mem_append.mp hlq).elim (λh=>.inr (same ni hq hb h lb)) λh=>.inl (same no hq ha h la);show gm jk q.name=true;change gm jk p.name=true at hJ;rcases np with np | np <;> rcases nq with nq | nq <;> rw [np] at hJ <;> rw [nq]
 ·exact hJ
 ·rw [<-e];exact hJ
 ·rw [e];exact hJ
 ·exact hJ
theorem Fo {z:Str} (h:nameB z=true):z.length<=100:=by
 unfold nameB at h;rw [<-mK];split at h
 ·simp_all
 ·rename_i e;rw [e];simp only [and_eq_true,decide_eq_true_eq] at h;rw [length_cons]
  lia
structure yf (ls:List aK) (ps:List PD):Prop where
 lok:∀l∈ls,1<=l.room/\l.room<=199/\(l.first.length:Int)<=l.room/\∀v∈l.first,0<=v/\v <1000000000
 pok:∀p∈ps,pH p
 lnm:∀l∈ls,nameB l.name=true
 pnm:∀p∈ps,nameB p.name=true
 pnd:(ps.map (·.name)).Nodup
 whole:Fy (ls.map (·.name)) ps
 l1:1<=ls.length
 l24:ls.length<=24
 p1:1<=ps.length
 p16:ps.length<=16
theorem Ih {c:Int} {n:Nat} (hn:n<=26) {x:Str} (h:x∈(List.range n).map (cJ c)):∃k,k <n/\x=cJ c k:=by obtain⟨k,hk,rfl⟩:=mem_map.mp h;exact⟨k,mem_range.mp hk,Z⟩
theorem QX.fit {c3 c4:Int} {ls:List aK} {ps:List PD} (h:QX c3 c4 ls ps):yf ls ps:=by
 have a:=h.l17;have b:=h.p16;refine⟨λl hl=>?_,h.pok,λl hl=>?_,λp hp=>?_,?_,h.whole,h.l1,by lia,h.p1,h.p16⟩
 ·obtain⟨x1,x2,x3,x4⟩:=h.lok l hl;exact⟨x1,by lia,x3,x4⟩
 ·obtain⟨k,hk,e⟩:=Ih (c:=c3) (n:=ls.length) (by lia) (by rw [<-h.ln];exact mem_map.mpr ⟨l,hl,rfl⟩);rw [e];exact M7 _ (by lia)
 ·obtain⟨k,hk,e⟩:=Ih (c:=c4) (n:=ps.length) (by lia) (h.pn.mem_iff.mpr (mem_map.mpr ⟨p,hp,rfl⟩));rw [e];exact M7 _ (by lia)
 ·exact h.pn.nodup_iff.mp (Ab _ (by lia))
theorem QX.lane20 {c3 c4:Int} {ls:List aK} {ps:List PD} (h:QX c3 c4 ls ps):cJ c3 20∉ls.map (·.name):=λz=>by
 have a:=h.l17;rw [h.ln] at z;obtain⟨k,hk,e⟩:=Ih (by lia) z;have:=Ju _ (by lia) (by lia) e
 lia
noncomputable def eZ (ls:List aK):List (Key×V):=ls.map λl=>((Sum.inr l.name:Key),V.int l.room)
noncomputable def bM (FL:List (aK×Addr)):List (Key×V):=FL.map λq=>((Sum.inr q.1.name:Key),V.ref q.2)
noncomputable def d9 (PL:List (PD×Addr)):List (Key×V):=PL.map λq=>((Sum.inr q.1.name:Key),V.ref q.2)
theorem uK (ls:List aK):(eZ ls).map (·.1)=(ls.map (·.name)).map (λx=>(Sum.inr x:Key)):=by unfold eZ;rw [map_map,map_map];rfl
theorem rG (FL:List (aK×Addr)):(bM FL).map (·.1)=((FL.map (·.1)).map (·.name)).map (λx=>(Sum.inr x:Key)):=by unfold bM;rw [map_map,map_map,map_map];rfl
theorem Ad (PL:List (PD×Addr)):(d9 PL).map (·.1)=((PL.map (·.1)).map (·.name)).map (λx=>(Sum.inr x:Key)):=by unfold d9;rw [map_map,map_map,map_map];rfl
structure uZ (K:Fr) (t:mL) (H:Hp) (n:Addr) (ls:List aK) (ps:List PD) (dx:Addr) (fs:List (Str×V)) (R F Pd G Tk:Addr) (FL:List (aK×Addr)) (PL:List (PD×Addr)):Prop where
 obj:H n=some (.ins t.dN dx fs)
 fl:Zd ["lane_names", "part_names", "names_of_kind", "gives", "need_lane_name", "first_of", "part_of", "__init__"] [("rooms",.ref R),("firsts",.ref F),("parts",.ref Pd),("givers",.ref G),("takers",.ref Tk)] fs
 rooms:H R=some (.dK (eZ ls))
 firsts:H F=some (.dK (bM FL))
 parts:H Pd=some (.dK (d9 PL))
 givers:H G=some (.dK (cP (·.outs) ps))
 takers:H Tk=some (.dK (cP (·.ins) ps))
 fls:FL.map (·.1)=ls
 pls:PL.map (·.1)=ps
 tups:∀q∈FL,fZ K H q.2 (q.1.first.map V.int)
 pats:∀q∈PL,fC K t H q.2 q.1.kind (.str q.1.name) (q.1.nums.map V.int) (q.1.ins.map V.str) (q.1.outs.map V.str)
 fit:yf ls ps
 neRF:R≠F
inductive nQ (K:Fr) (t:mL) (H:Hp) (n:Addr) (ls:List aK) (ps:List PD):Prop where
 | mk:∀dx fs R F Pd G Tk FL PL,uZ K t H n ls ps dx fs R F Pd G Tk FL PL->nQ K t H n ls ps
section
variable {H H':Hp} {n dx R F Pd G Tk:Addr} {ls:List aK} {ps:List PD} {fs:List (Str×V)} {FL:List (aK×Addr)} {PL:List (PD×Addr)}
theorem uZ.same (N:uZ K t H n ls ps dx fs R F Pd G Tk FL PL) (s:aO H H'):uZ K t H' n ls ps dx fs R F Pd G Tk FL PL:=
 ⟨s _ _ N.obj,N.fl,s _ _ N.rooms,s _ _ N.firsts,s _ _ N.parts,s _ _ N.givers,s _ _ N.takers,N.fls,N.pls,λq hq=>s.seqT (N.tups q hq),λq hq=>(N.pats q hq).same s,N.fit,N.neRF⟩
theorem nQ.same (N:nQ K t H n ls ps) (s:aO H H'):nQ K t H' n ls ps:=by obtain⟨dx,fs,R,F,Pd,G,Tk,FL,PL,N⟩:=N;exact⟨dx,fs,R,F,Pd,G,Tk,FL,PL,N.same s⟩
theorem uZ.s (N:uZ K t H n ls ps dx fs R F Pd G Tk FL PL):nQ K t H n ls ps:=⟨dx,fs,R,F,Pd,G,Tk,FL,PL,N⟩
theorem uZ.room (N:uZ K t H n ls ps dx fs R F Pd G Tk FL PL) {l:aK} (hl:l∈ls):b8 (eZ ls) (Sum.inr l.name)=some (.int l.room):=
 gB (by rw [uK];exact gQ N.fit.whole.nod) (mem_map.mpr ⟨l,hl,rfl⟩)
theorem uZ.firstV (N:uZ K t H n ls ps dx fs R F Pd G Tk FL PL) {q:aK×Addr} (hq:q∈FL):b8 (bM FL) (Sum.inr q.1.name)=some (.ref q.2):=
 gB (by rw [rG,N.fls];exact gQ N.fit.whole.nod) (mem_map.mpr ⟨q,hq,rfl⟩)
theorem uZ.partV (N:uZ K t H n ls ps dx fs R F Pd G Tk FL PL) {q:PD×Addr} (hq:q∈PL):b8 (d9 PL) (Sum.inr q.1.name)=some (.ref q.2):=
 gB (by rw [Ad,N.pls];exact gQ N.fit.pnd) (mem_map.mpr ⟨q,hq,rfl⟩)
theorem uZ.ono (N:uZ K t H n ls ps dx fs R F Pd G Tk FL PL):(ps.flatMap (·.outs)).Nodup:=N.fit.whole.outs.nodup_iff.mpr N.fit.whole.nod
theorem uZ.ini (N:uZ K t H n ls ps dx fs R F Pd G Tk FL PL):(ps.flatMap (·.ins)).Nodup:=N.fit.whole.ins.nodup_iff.mpr N.fit.whole.nod
end
theorem Km {α:Type} {f:α->Str} {xs:List α} {x:Str}:inV (.str x) (xs.map λp=>V.str (f p))=decide (x∈xs.map f):=by
 rw [Bool.eq_iff_iff];unfold inV;rw [any_eq_true,decide_eq_true_eq];constructor
 ·rintro⟨v,hv,e⟩;obtain⟨p,hp,rfl⟩:=mem_map.mp hv;exact mem_map.mpr ⟨p,hp,by simpa [KY] using e⟩
 ·intro h;obtain⟨p,hp,rfl⟩:=mem_map.mp h;exact⟨.str (f p),mem_map.mpr ⟨p,hp,Z⟩,by simp [KY]⟩
theorem raised {H:Hp} {x C dx:Addr} {fs:List (Str×V)} (nx:H x=none) (nd:(upd H x (uX x C)) dx=none) (ne:dx≠x):
  aO H (del (upd (upd (upd H x (uX x C)) x (Aj x C dx)) dx (.xd fs)) x)/\(del (upd (upd (upd H x (uX x C)) x (Aj x C dx)) dx (.xd fs)) x) dx=some (.xd fs):=by
 constructor
 ·intro b o e;have b1:b≠x:=aF e nx;have b2:b≠dx:=aF e (by rw [aH ne] at nd;exact nd);rw [Dm b1,aH b2,aH b1,aH b1];exact e
 ·rw [Dm ne];exact az
noncomputable def eN (ps:List PD) (x:Str):List V:=(ps.filter λp=>decide (eU p.kind=x)).map λp=>V.str p.name
theorem Ga (ps:List PD) (x:Str) (p:PD):eN (ps ++ [p]) x=if eU p.kind=x then eN ps x ++ [V.str p.name] else eN ps x:=by
 unfold eN;rw [List.filter_append,map_append];by_cases h:eU p.kind=x
 ·rw [if_pos h];simp [h]
 ·rw [if_neg h];simp [h]
theorem JT (ps:List PD) (x:Str):(eN ps x).length<=ps.length:=by unfold eN;rw [lM];exact length_filter_le _ _
noncomputable def aaj (p:PD):Bool:=decide (eU p.kind= "choose") || decide (eU p.kind= "split")
noncomputable def oddN (ps:List PD):V:=match ps.find? aaj with
 | some p=>.str p.name
 | none=>.non
inductive JR (K:Fr) (H:Hp) (v:V) (l:aK):Prop where
 | mk:∀q f,v=.ref q->H q=some (.tup [.str l.name,.int l.room,.ref f])->fZ K H f (l.first.map V.int)->JR K H v l
inductive RK (K:Fr) (H:Hp) (v:V) (p:PD):Prop where
 | mk:∀q a1 a2 a3,v=.ref q->H q=some (.tup [.str (eU p.kind),.str p.name,.ref a1,.ref a2,.ref a3])->fZ K H a1 (p.nums.map V.int)->fZ K H a2 (p.ins.map V.str)->fZ K H a3 (p.outs.map V.str)->RK K H v p
theorem JR.same {H H':Hp} {v:V} {l:aK} (h:JR K H v l) (s:aO H H'):JR K H' v l:=by obtain⟨q,f,e,h1,h2⟩:=h;exact⟨q,f,e,s _ _ h1,s.seqT h2⟩
theorem RK.same {H H':Hp} {v:V} {p:PD} (h:RK K H v p) (s:aO H H'):RK K H' v p:=by obtain⟨q,a1,a2,a3,e,h1,h2,h3,h4⟩:=h;exact⟨q,a1,a2,a3,e,s _ _ h1,s.seqT h2,s.seqT h3,s.seqT h4⟩
structure Mm (K:Fr) (H:Hp) (T a b:Addr) (ls:List aK) (ps:List PD):Prop where
 tup:H T=some (.tup [.ref a,.ref b])
 lanes:∃xs,H a=some (.lst xs)/\jx (JR K H) xs ls
 parts:∃xs,H b=some (.lst xs)/\jx (RK K H) xs ps
theorem Mm.same {H H':Hp} {T a b:Addr} {ls:List aK} {ps:List PD} (h:Mm K H T a b ls ps) (s:aO H H'):Mm K H' T a b ls ps:=by obtain⟨h1,⟨xs,e1,a1⟩,⟨ys,e2,a2⟩⟩:=h;exact⟨s _ _ h1,⟨xs,s _ _ e1,a1.imp λ_ _ h=>h.same s⟩,⟨ys,s _ _ e2,a2.imp λ_ _ h=>h.same s⟩⟩
structure Tr (H:Hp) (f:Addr) (L:List (Addr×HO)) (Hk:Hp):Prop where
 but:lC f H Hk
 all:∀p∈L,Hk p.1=some p.2
 fre:∀p∈L,p.1=f∨H p.1=none
 nod:(L.map Prod.fst).Nodup
 obj:∃o,(f,o)∈L
theorem Tr.free {H Hk:Hp} {f x:Addr} {L:List (Addr×HO)} (T:Tr H f L Hk) (nx:Hk x=none):H x=none:=by
 cases e:H x with
 | none=>rfl
 | some o=>
  by_cases h:x=f
  ·obtain⟨u,hu⟩:=T.obj;have:=T.all _ hu;rw [h] at nx;rw [nx] at this;cases this
  ·rw [T.but x o h e] at nx;cases nx
theorem Tr.new {H Hk:Hp} {f x:Addr} {L:List (Addr×HO)} {o:HO} (T:Tr H f L Hk) (nx:Hk x=none):Tr H f (L ++ [(x,o)]) (upd Hk x o):=by
 have hne:∀p∈L,p.1≠x:=λp hp z=>by have:=T.all p hp;rw [z,nx] at this;cases this
 have hx:=T.free nx;refine⟨λb u n e=>by rw [aH (aF e hx)];exact T.but b u n e,λp hp=>?_,λp hp=>?_,?_,?_⟩
 ·rcases mem_append.mp hp with h | h
  ·rw [aH (hne p h)];exact T.all p h
  ·rw [mem_singleton] at h;subst h;exact az
 ·rcases mem_append.mp hp with h | h
  ·exact T.fre p h
  ·rw [mem_singleton] at h;subst h;exact .inr hx
 ·rw [map_append,nodup_append];refine⟨T.nod,by simp,λa ha b hb=>?_⟩;obtain⟨p,hp,rfl⟩:=mem_map.mp ha;simp at hb;subst hb;exact hne p hp
 ·obtain⟨u,hu⟩:=T.obj;exact⟨u,mem_append.mpr (.inl hu)⟩
theorem Tr.same {H Hk Hk':Hp} {f:Addr} {L:List (Addr×HO)} (T:Tr H f L Hk) (s:aO Hk Hk'):Tr H f L Hk':=
 ⟨λb u n e=>s _ _ (T.but b u n e),λp hp=>s _ _ (T.all p hp),T.fre,T.nod,T.obj⟩
theorem Tr.put {H Hk:Hp} {f x:Addr} {o o':HO} {L1 L2:List (Addr×HO)} (T:Tr H f (L1 ++ (x,o):: L2) Hk):Tr H f (L1 ++ (x,o'):: L2) (upd Hk x o'):=by
 have hx:x=f∨H x=none:=T.fre (x,o) (by simp);have nd:=T.nod;rw [map_append,map_cons,nodup_append] at nd;obtain⟨n1,n2,n3⟩:=nd;rw [nodup_cons] at n2;refine⟨λb u n e=>?_,λp hp=>?_,λp hp=>?_,?_,?_⟩
 ·have:b≠x:=by
   rcases hx with rfl | hx
   ·exact n
   ·exact aF e hx
  rw [aH this];exact T.but b u n e
 ·rcases mem_append.mp hp with h | h
  ·have:p.1≠x:=n3 p.1 (mem_map.mpr ⟨p,h,rfl⟩) x (by simp);rw [aH this];exact T.all p (by simp [h])
  ·rcases mem_cons.mp h with rfl | h
   ·exact az
   ·have:p.1≠x:=λz=>n2.1 (by rw [<-z];exact mem_map.mpr ⟨p,h,rfl⟩);rw [aH this];exact T.all p (by simp [h])
 ·rcases mem_append.mp hp with h | h
  ·exact T.fre p (by simp [h])
  ·rcases mem_cons.mp h with rfl | h
   ·exact hx
   ·exact T.fre p (by simp [h])
 ·have:=T.nod;rw [map_append,map_cons] at this ⊢;exact this
 ·obtain⟨u,hu⟩:=T.obj;rcases mem_append.mp hu with h | h
  ·exact⟨u,by simp [h]⟩
  ·rcases mem_cons.mp h with h | h
   ·cases h;exact⟨o',by simp⟩
   ·exact⟨u,by simp [h]⟩
theorem Tr.start {H:Hp} {f:Addr} {o:HO} (e:H f=some o):Tr H f [(f,o)] H:=⟨lC.refl _,λp hp=>by rw [mem_singleton] at hp;subst hp;exact e,λp hp=>by rw [mem_singleton] at hp;subst hp;exact .inl rfl,by simp,o,by simp⟩
inductive V5 (K:Fr) (H:Hp) (v:V) (l:aK):Prop where
 | mk:∀q f,v=.ref q->H q=some (.tup [.str l.name,.int l.room,.ref f])->xm K H f (l.first.map V.int)->V5 K H v l
inductive ZJ (K:Fr) (H:Hp) (v:V) (p:PD):Prop where
 | mk:∀q a1 a2 a3,v=.ref q->H q=some (.tup [.str (eU p.kind),.str p.name,.ref a1,.ref a2,.ref a3])->xm K H a1 (p.nums.map V.int)->xm K H a2 (p.ins.map V.str)->xm K H a3 (p.outs.map V.str)->ZJ K H v p
structure Hand (K:Fr) (H:Hp) (Ll Lp:Addr) (ls:List aK) (ps:List PD):Prop where
 ll:∃xs,bT K H Ll xs/\jx (V5 K H) xs ls
 lp:∃xs,bT K H Lp xs/\jx (ZJ K H) xs ps
theorem qy {α:Type} {f:α->Str} {xs:List α} (nd:(xs.map f).Nodup) {j:Nat} {x:α} (h:xs[j]?=some x):f x∉(xs.take j).map f:=λhm=>by
 have hj:=(List.getElem?_eq_some_iff.mp h).1;have e:xs[j]=x:=(List.getElem?_eq_some_iff.mp h).2;rw [List.map_take] at hm;obtain⟨i,hi,ei⟩:=mem_iff_getElem.mp hm;rw [length_take,lM] at hi;rw [List.getElem_take] at ei;have e2:(xs.map f)[j]'(by rw [lM];exact hj)=f x:=by rw [List.getElem_map,e]
 have:=(getElem_inj nd).mp (ei.trans e2.symm)
 lia
theorem M9 {f:PD->List Str} {ps:List PD} (nd:(ps.flatMap f).Nodup) {j:Nat} {p:PD} (h:ps[j]?=some p):(f p).Nodup/\∀z∈f p,z∉(ps.take j).flatMap f:=by
 have hj:=(List.getElem?_eq_some_iff.mp h).1;have e:ps[j]=p:=(List.getElem?_eq_some_iff.mp h).2;have e2:ps=ps.take j ++ p:: ps.drop (j+1):=by rw [<-e,<-List.drop_eq_getElem_cons hj,take_append_drop]
 rw [e2,List.flatMap_append,flatMap_cons,nodup_append] at nd;obtain⟨n1,n2,n3⟩:=nd;rw [nodup_append] at n2;exact⟨n2.1,λz hz hm=>n3 z hm z (mem_append.mpr (.inl hz)) Z⟩
structure rm (K:Fr) (t:mL) (H:Hp) (f n E G Kp D Rw:Addr):Prop where
 ex:∃dx fs,H f=some (.ins t.bW dx fs)/\Zd ["holds", "held_now", "gone_by", "row_left", "head", "heads", "lacking", "row_ended", "deed", "do"] [("net",.ref n),("ever",.ref E),("gone",.ref G),("kept",.ref Kp),("done",.ref D),("rows",.ref Rw)] fs
theorem rm.same {H H':Hp} {f n E G Kp D Rw:Addr} (h:rm K t H f n E G Kp D Rw) (s:aO H H'):rm K t H' f n E G Kp D Rw:=by obtain⟨dx,fs,h1,h2⟩:=h;exact⟨dx,fs,s _ _ h1,h2⟩
noncomputable def gM (i:Nat) (xs:List Str) (hs:List V):V:=match (places i hs).find? (vV hs) with
 | some q=>((xs[q]?).map V.str).getD .non
 | none=>.non
theorem Dz {H:Hp}:∀{rs:List Addr} {vss:List (List V)} {j:Nat} {r:Addr},fD H rs vss->rs[j]?=some r->∃vs,vss[j]?=some vs/\H r=some (.tup vs)
 | _,_,_,_,.nil,e=>by simp at e
 | _,_,0,_,.cons h _,e=>by simp at e;subst e;exact⟨_,rfl,h⟩
 | _,_,j+1,_,.cons _ t,e=>by obtain⟨vs,h1,h2⟩:=Dz (j:=j) t (by simpa using e);exact⟨vs,by simpa using h1,h2⟩
theorem places_len {i:Nat} {hs:List V} (h:wL i hs):(places i hs).length<=3:=by
 have h3:=Gx i;have h1:=h.1;unfold places;by_cases hi:i=9
 ·rw [if_pos hi];split <;> simp
 ·rw [if_neg hi,length_range]
  lia
theorem Tr.got {H Hk Hk':Hp} {f x:Addr} {L:List (Addr×HO)} {o:HO} (T:Tr H f L Hk) (s:aO Hk Hk') (nx:Hk x=none) (ex:Hk' x=some o):Tr H f (L ++ [(x,o)]) Hk':=by
 have T':=T.same s;have hx:=T.free nx;refine⟨T'.but,λp hp=>?_,λp hp=>?_,?_,?_⟩
 ·rcases mem_append.mp hp with h | h
  ·exact T'.all p h
  ·rw [mem_singleton] at h;subst h;exact ex
 ·rcases mem_append.mp hp with h | h
  ·exact T.fre p h
  ·rw [mem_singleton] at h;subst h;exact .inr hx
 ·rw [map_append,nodup_append];refine⟨T.nod,by simp,λa ha b hb z=>?_⟩;obtain⟨p,hp,rfl⟩:=mem_map.mp ha;simp at hb;have:=T.all p hp;rw [z,hb,nx] at this;cases this
 ·obtain⟨u,hu⟩:=T.obj;exact⟨u,mem_append.mpr (.inl hu)⟩
theorem Gi {α:Type} {a b c d e f g x:α} {M:List α} (h:x∈M):x∈a:: b:: c:: d:: e:: f:: g:: M:=by simp [h]
theorem Tr.perm {H Hk:Hp} {f:Addr} {L L':List (Addr×HO)} (T:Tr H f L Hk) (h:L.Perm L'):Tr H f L' Hk:=
 ⟨T.but,λp hp=>T.all p (h.mem_iff.mpr hp),λp hp=>T.fre p (h.mem_iff.mpr hp),(h.map _).nodup_iff.mp T.nod,by obtain⟨o,ho⟩:=T.obj;exact⟨o,h.mem_iff.mp ho⟩⟩
theorem Tr.sub {H Hk:Hp} {f:Addr} {L L':List (Addr×HO)} (T:Tr H f L Hk) (h:L'.Sublist L) (hf:∃o,(f,o)∈L'):Tr H f L' Hk:=
 ⟨T.but,λp hp=>T.all p (h.subset hp),λp hp=>T.fre p (h.subset hp),T.nod.sublist (h.map _),hf⟩
noncomputable def jX (EL:List (aK×Addr)):List (Addr×HO):=EL.map λq=>(q.2,HO.lst (q.1.first.map V.int))
noncomputable def cZ (g:Str->Nat) (ls:List aK):List (Key×V):=ls.map λl=>((Sum.inr l.name:Key),V.int (g l.name:Nat))
noncomputable def bZ (k:Str->Int) (ps:List PD):List (Key×V):=ps.map λp=>((Sum.inr p.name:Key),V.int (k p.name))
theorem CZ (g:Str->Nat) (ls:List aK):(cZ g ls).map (·.1)=(ls.map (·.name)).map (λx=>(Sum.inr x:Key)):=by unfold cZ;rw [map_map,map_map];rfl
theorem Bp (k:Str->Int) (ps:List PD):(bZ k ps).map (·.1)=(ps.map (·.name)).map (λx=>(Sum.inr x:Key)):=by unfold bZ;rw [map_map,map_map];rfl
noncomputable def fQ (ps:List PD) (x:Str):Int:=((ps.find? λp=>decide (p.name=x)).map λp=>if p.kind=5 then p.nums.headD 0 else 0).getD 0
noncomputable def HJ (p:PD):Int:=if p.kind=5 then p.nums.headD 0 else 0
theorem find_name {α:Type} {f:α->Str}:∀{ls:List α} (_:(ls.map f).Nodup) {l:α} (_:l∈ls),ls.find? (λx=>decide (f x=f l))=some l
 | a:: r,nd,l,hl=>by
  rw [map_cons,nodup_cons] at nd;rcases mem_cons.mp hl with rfl | h
  ·rw [List.find?_cons_of_pos (by simp)]
  ·have:¬f a=f l:=λz=>nd.1 (by rw [z];exact mem_map.mpr ⟨l,h,rfl⟩);rw [List.find?_cons_of_neg (by simp [this])];exact find_name nd.2 h
theorem yf.inL {ls:List aK} {ps:List PD} (F:yf ls ps) {p:PD} (hp:p∈ps) {x:Str} (hx:x∈p.ins ++ p.outs):∃l∈ls,l.name=x:=by
 rcases mem_append.mp hx with h | h
 ·exact mem_map.mp (F.whole.ins.mem_iff.mp (mem_flatMap.mpr ⟨p,hp,h⟩))
 ·exact mem_map.mp (F.whole.outs.mem_iff.mp (mem_flatMap.mpr ⟨p,hp,h⟩))
theorem wz {α β:Type} {f:α->β}:∀{l:List α},(l.map f).Nodup->∀{a b:α},a∈l->b∈l->f a=f b->a=b
 | x:: r,nd,a,b,ha,hb,e=>by
  rw [map_cons,nodup_cons] at nd;rcases mem_cons.mp ha with h1 | h1
  ·rcases mem_cons.mp hb with h2 | h2
   ·rw [h1,h2]
   ·exact absurd (mem_map.mpr ⟨b,h2,by rw [<-e,h1]⟩) nd.1
  ·rcases mem_cons.mp hb with h2 | h2
   ·exact absurd (mem_map.mpr ⟨a,h1,by rw [e,h2]⟩) nd.1
   ·exact wz nd.2 h1 h2 e
noncomputable def Xp:V->Int
 | .int n=>n
 | _=>0
structure FS where
 ev:Str->List Int
 g:Str->Nat
 k:Str->Int
 d:Str->Nat
 r:Str->List Int
structure yx where
 (f n E G Kp D Rw:Addr)
 (ea ra:Str->Addr)
noncomputable def pR (ps:List PD):List PD:=ps.filter λp=>decide (p.kind=0)
noncomputable def TQ (ea:Str->Addr) (ls:List aK):List (Key×V):=ls.map λl=>((Sum.inr l.name:Key),V.ref (ea l.name))
noncomputable def KD (ra:Str->Addr) (ps:List PD):List (Key×V):=(pR ps).map λp=>((Sum.inr p.name:Key),V.ref (ra p.name))
noncomputable def yx.cells (A:yx) (ls:List aK) (ps:List PD):List Addr:=A.E:: A.G:: A.Kp:: A.D:: A.Rw:: (ls.map (λl=>A.ea l.name) ++ (pR ps).map (λp=>A.ra p.name))
structure jM (K:Fr) (t:mL) (H:Hp) (A:yx) (ls:List aK) (ps:List PD) (S:FS):Prop where
 at':rm K t H A.f A.n A.E A.G A.Kp A.D A.Rw
 ever:H A.E=some (.dK (TQ A.ea ls))
 lists:∀l∈ls,H (A.ea l.name)=some (.lst ((S.ev l.name).map V.int))
 gone:H A.G=some (.dK (cZ S.g ls))
 kept:H A.Kp=some (.dK (bZ S.k ps))
 done:H A.D=some (.dK (bZ (λx=>(S.d x:Int)) ps))
 rows:H A.Rw=some (.dK (KD A.ra ps))
 rlst:∀p∈ps,p.kind=0->H (A.ra p.name)=some (.lst ((S.r p.name).map V.int))
 nod:(A.cells ls ps).Nodup
theorem jM.same {H H':Hp} {A:yx} {ls:List aK} {ps:List PD} {S:FS} (h:jM K t H A ls ps S) (s:aO H H'):jM K t H' A ls ps S:=
 ⟨h.at'.same s,s _ _ h.ever,λl hl=>s _ _ (h.lists l hl),s _ _ h.gone,s _ _ h.kept,s _ _ h.done,s _ _ h.rows,λp hp h0=>s _ _ (h.rlst p hp h0),h.nod⟩
structure UW (b:Nat) (ls:List aK) (ps:List PD) (S:FS):Prop where
 vb:∀l∈ls,∀v∈S.ev l.name,0<=v/\v <1000000000
 rb:∀p∈ps,p.kind=0->∀v∈S.r p.name,0<=v/\v <1000000000
 dl:∀p∈ps,p.kind=0->S.d p.name<=(S.r p.name).length
 len:∀l∈ls,(S.ev l.name).length<=b
 rl:∀p∈ps,p.kind=0->(S.r p.name).length<=300
theorem Rv (ea:Str->Addr) (ls:List aK):(TQ ea ls).map (·.1)=(ls.map (·.name)).map (λx=>(Sum.inr x:Key)):=by unfold TQ;rw [map_map,map_map];rfl
theorem Ii {ea:Str->Addr} {ls:List aK} (nd:(ls.map (·.name)).Nodup) {l:aK} (hl:l∈ls):b8 (TQ ea ls) (Sum.inr l.name)=some (.ref (ea l.name)):=
 gB (by rw [Rv];exact gQ nd) (mem_map.mpr ⟨l,hl,rfl⟩)
theorem yG {g:Str->Nat} {ls:List aK} (nd:(ls.map (·.name)).Nodup) {l:aK} (hl:l∈ls):b8 (cZ g ls) (Sum.inr l.name)=some (.int (g l.name:Nat)):=
 gB (by rw [CZ];exact gQ nd) (mem_map.mpr ⟨l,hl,rfl⟩)
theorem uU {k:Str->Int} {ps:List PD} (nd:(ps.map (·.name)).Nodup) {p:PD} (hp:p∈ps):b8 (bZ k ps) (Sum.inr p.name)=some (.int (k p.name)):=
 gB (by rw [Bp];exact gQ nd) (mem_map.mpr ⟨p,hp,rfl⟩)
theorem Fe (ra:Str->Addr) (ps:List PD):(KD ra ps).map (·.1)=((pR ps).map (·.name)).map (λx=>(Sum.inr x:Key)):=by unfold KD;rw [map_map,map_map];rfl
theorem Us {ps:List PD} (nd:(ps.map (·.name)).Nodup):((pR ps).map (·.name)).Nodup:=nd.sublist (filter_sublist.map _)
theorem Bd {ra:Str->Addr} {ps:List PD} (nd:(ps.map (·.name)).Nodup) {p:PD} (hp:p∈ps) (h0:p.kind=0):b8 (KD ra ps) (Sum.inr p.name)=some (.ref (ra p.name)):=
 gB (by rw [Fe];exact gQ (Us nd)) (mem_map.mpr ⟨p,mem_filter.mpr ⟨hp,by simp [h0]⟩,rfl⟩)
theorem MK {ra:Str->Addr} {ps:List PD} (nd:(ps.map (·.name)).Nodup) {p:PD} (hp:p∈ps) (h0:p.kind≠0):b8 (KD ra ps) (Sum.inr p.name)=none:=by refine ik ?_;rw [Fe];intro z;obtain⟨b,hb,e⟩:=mem_map.mp z;cases e;obtain⟨p',hp',en⟩:=mem_map.mp hb;have hf:=mem_filter.mp hp';have a1:=find_name nd hf.1;have a2:=find_name nd hp;rw [en] at a1;rw [a1] at a2;cases a2;exact h0 (by simpa using hf.2)
noncomputable def lD (S:FS) (x:Str):V:=(((S.ev x)[S.g x]?).map V.int).getD .non
noncomputable def bu (S:FS) (p:PD):List V:=p.ins.map (lD S)
structure jf where
 tk:List Str
 gv:List (Str×Int)
 kv:Int
noncomputable def strAt (xs:List Str) (q:Nat):Str:=(xs[q]?).getD Str.empty
noncomputable def wI (S:FS) (p:PD):List Int:=if p.kind=0 then((S.r p.name)[S.d p.name]?).toList else(places p.kind (bu S p)).map λq=>Xp (((bu S p)[q]?).getD .non)
noncomputable def BW (S:FS) (p:PD):Bool:=decide (p.kind=0) && decide (S.d p.name=(S.r p.name).length)
noncomputable def dh (S:FS) (p:PD):Option jf:=if gM p.kind p.ins (bu S p)≠.non then none else if BW S p=true then none else
 some ⟨(places p.kind (bu S p)).map (strAt p.ins),(cu p.kind p.nums (wI S p) (S.k p.name)).map λpv=>(strAt p.outs pv.1.toNat,pv.2),gA p.kind (wI S p) (S.k p.name)⟩
inductive qi (M:List Addr) (H:Hp) (U:Addr) (dd:jf):Prop where
 | mk:∀La Lg rs,H U=some (.tup [.ref La,.ref Lg,.int dd.kv])->H La=some (.lst (dd.tk.map V.str))->H Lg=some (.lst (rs.map V.ref))->(fD H rs (dd.gv.map λq=>[.str q.1,.int q.2]))->La∉M->Lg∉M->qi M H U dd
theorem qi.same {M:List Addr} {H H':Hp} {U:Addr} {dd:jf} (h:qi M H U dd) (s:aO H H'):qi M H' U dd:=by obtain⟨La,Lg,rs,a,b,c,d,e,f⟩:=h;exact⟨La,Lg,rs,s _ _ a,s _ _ b,s _ _ c,fD.same s d,e,f⟩
theorem ur (S:FS) (p:PD) (h:pH p):wL p.kind (bu S p):=by
 refine⟨by unfold bu;rw [lM];exact h.2.2.1,λv hv=>?_⟩;obtain⟨x,_,rfl⟩:=mem_map.mp hv;unfold lD;cases (S.ev x)[S.g x]? with
 | none=>exact .inl rfl
 | some n=>exact .inr ⟨n,rfl⟩
theorem jM.cell {H:Hp} {A:yx} {ls:List aK} {ps:List PD} {S:FS} (h:jM K t H A ls ps S) {a:Addr} (ha:H a=none):a∉A.cells ls ps:=by
 intro z;have no:∀{b:Addr} {u:HO},H b=some u->a=b->False:=λe q=>by rw [<-q,ha] at e;cases e
 unfold yx.cells at z;simp only [mem_cons,mem_append,mem_map] at z;rcases z with z | z | z | z | z | ⟨l,hl,z⟩ | ⟨p,hp,z⟩
 ·exact no h.ever z
 ·exact no h.gone z
 ·exact no h.kept z
 ·exact no h.done z
 ·exact no h.rows z
 ·exact no (h.lists l hl) z.symm
 ·have hf:=mem_filter.mp hp;exact no (h.rlst p hf.1 (by simpa using hf.2)) z.symm
structure Gd (n:Nat) (d:PyData):Prop where
 eq:PyData.eqv d d=true
 lay:PyData.canLay0 d=true
 dep:PyData.depth d<=n
theorem Gd.all {n:Nat}:∀{ds:List PyData},(∀d∈ds,Gd n d)->PyData.eqvAll ds ds=true/\PyData.canLayAll0 ds=true/\PyData.depthAll ds<=n
 | [],_=>⟨by simp [PyData.eqvAll],by simp [PyData.canLayAll0],by simp [PyData.depthAll]⟩
 | d:: r,h=>by
  obtain⟨h1,h2,h3⟩:=Gd.all (ds:=r) λx hx=>h x (mem_cons_of_mem _ hx);have g:=h d mem_cons_self;have g3:=g.dep;refine⟨by simp [PyData.eqvAll,g.eq,h1],by simp [PyData.canLayAll0,g.lay,h2],?_⟩;simp only [PyData.depthAll]
  lia
theorem Gd.list {n:Nat} {ds:List PyData} (h:∀d∈ds,Gd n d):Gd (n+1) (.list ds):=by obtain⟨h1,h2,h3⟩:=Gd.all h;exact⟨by simp [PyData.eqv,h1],by simp [PyData.canLay0,h2],by simp only [PyData.depth];lia⟩
theorem Gd.tuple {n:Nat} {ds:List PyData} (h:∀d∈ds,Gd n d):Gd (n+1) (.tuple ds):=by obtain⟨h1,h2,h3⟩:=Gd.all h;exact⟨by simp [PyData.eqv,h1],by simp [PyData.canLay0,h2],by simp only [PyData.depth];lia⟩
theorem Gd.int (n:Nat) (i:Int):Gd n (.int i):=⟨by simp [PyData.eqv],by simp [PyData.canLay0],by simp [PyData.depth]⟩
theorem Gd.str (n:Nat) {x:Str} (h:PyData.strOk x=true):Gd n (.str x):=⟨by simp [PyData.eqv],by simp [PyData.canLay0,h],by simp [PyData.depth]⟩
theorem Gd.ints (n:Nat) (ws:List Int):∀d∈ws.map PyData.int,Gd n d:=λd hd=>by obtain⟨i,_,rfl⟩:=mem_map.mp hd;exact .int n i
theorem Gd.shaped {n:Nat} {d:PyData} (h:Gd n d) (hn:n<=64):SeqAt.shaped d=true:=by have:=h.dep;unfold SeqAt.shaped;rw [h.lay,decide_eq_true (show d.depth<=64 by lia)];rfl
theorem GC {z:Str} (h:nameB z=true):PyData.strOk z=true:=by
 have e:∀c∈z.cps.toList,c <0x110000:=λc hc=>by
  unfold nameB at h;split at h
  ·cases h
  ·rename_i c0 r e;rw [e] at hc;simp only [and_eq_true,all_eq_true,Bool.or_eq_true] at h;have:=h.2.2 c hc;unfold low Lq at this;simp only [and_eq_true,decide_eq_true_eq] at this
   lia
 unfold PyData.strOk;rw [Array.all_eq_true'];intro c hc;exact decide_eq_true (e c (by simpa using hc))
theorem Rp {js:List Nat} {σ:St} {Qd:List V->Hp->Prop} {H:Hp} {L:Addr} {xs:List V} {ls:List aK} (eL:H L=some (.lst xs)) (aL:jx (uh H) xs ls) (h24:ls.length<=24) (k:Qd (ls.map λl=>V.str l.name) H):CompEnd js X5 (TV (PQ K) (wD 0) (tC (V.int 0))) σ Qd (Vu K L) H:=by
 have hz:sizeLine=16777216:=sizeLine_eq;have xl:=aL.length;refine jC (K:=K) (a:=L) (xs:=xs) (λj ys H'=>H'=H/\ys=(ls.take j).map λl=>V.str l.name) (by lia) ⟨Z,Z⟩ (λj ys H' h=>by rw [h.2,lM,length_take];lia) (λj ys H' _ h=>by rw [h.1];exact bT.of eL) ?_ ?_
 ·rintro j x ys H1 hx ⟨rfl,rfl⟩;obtain⟨l,hlj,q,f,rfl,hq,_⟩:=aL.get hx;rw [take_succ,hlj,toList_some,map_append];exact yes ⟨_,Z,q,_,0,_,Z,Z,fZ.of hq,aJ (j:=0) Z,Z,Z⟩
 ·rintro ys H1 ⟨rfl,rfl⟩;rw [xl,take_length];exact k
theorem Jl {js:List Nat} {σ:St} {Qd:List V->Hp->Prop} {H:Hp} {P:Addr} {xs:List V} {ps:List PD} {y:Str} (eP:H P=some (.lst xs)) (aP:jx (xU H) xs ps) (h16:ps.length<=16) (k:Qd (eN ps y) H):CompEnd js (Nu (TV rEq (TV (PQ K) (wD 0) (tC (V.int 0))) (tC (V.str y)))) (TV (PQ K) (wD 0) (tC (V.int 1))) σ Qd (Vu K P) H:=by
 have hz:sizeLine=16777216:=sizeLine_eq;have xl:=aP.length;refine jC (K:=K) (a:=P) (xs:=xs) (λj ys H'=>H'=H/\ys=eN (ps.take j) y) (by lia) ⟨Z,Z⟩ (λj ys H' h=>by rw [h.2];unfold eN;rw [lM];exact le_trans (length_filter_le _ _) (by rw [length_take];lia)) (λj ys H' _ h=>by rw [h.1];exact bT.of eP) ?_ ?_
 ·rintro j x ys H1 hx ⟨rfl,rfl⟩;obtain⟨p,hpj,q,a1,a2,a3,rfl,hq,_⟩:=aP.get hx;refine⟨_,Z,q,_,0,_,Z,Z,fZ.of hq,aJ (j:=0) Z,Z,_,Z,?_⟩;rw [take_succ,hpj,toList_some,Ga];by_cases h:eU p.kind=y
  ·rw [decide_eq_true (congrArg V.str h),if_pos h];exact fc ⟨_,Z,q,_,1,_,Z,Z,fZ.of hq,aJ (j:=1) Z,Z,Z⟩
  ·rw [decide_eq_false (λz=>h (V.str.inj z)),if_neg h];exact cQ ⟨Z,Z⟩
 ·rintro ys H1 ⟨rfl,rfl⟩;rw [xl,take_length];exact k
theorem e9:(10:Int) ^ (9:Int).toNat=1000000000:=by decide
noncomputable def keyOk (k:Option Key):Prop:=∀x,k=some (Sum.inr x)->PyData.strOk x=true
noncomputable def Ye:Option Key->PyData
 | none=>.none
 | some (.inl i)=>.int i
 | some (.inr x)=>.str x
theorem Ym {K:Fr} {H:Hp} (k:Option Key):Dt K H (kO k) (Ye k):=by
 rcases k with _ | (i | x)
 ·exact .non
 ·exact .int i
 ·exact .str x
theorem Xz {k:Option Key} (h:keyOk k):Gd 0 (Ye k):=by
 rcases k with _ | (i | x)
 ·exact⟨by decide,by decide,by decide⟩
 ·exact .int 0 i
 ·exact .str 0 (h x Z)
inductive NmK (v:V):Prop where
 | mk:∀k,v=kO k->keyOk k->NmK v
inductive Dk (H:Hp) (u:V) (q:Str×Option Key):Prop where
 | mk:∀p,u=.ref p->H p=some (.tup [.str q.1,kO q.2,.bl false])->Dk H u q
theorem Dk.same {H H':Hp} {u:V} {q:Str×Option Key} (h:Dk H u q) (s:aO H H'):Dk H' u q:=by obtain⟨p,e,h⟩:=h;exact⟨p,e,s _ _ h⟩
noncomputable def tpD (q:Str×Option Key):PyData:=.tuple [.str q.1,Ye q.2,.bool false]
theorem Dk.dt {K:Fr} {H:Hp} {u:V} {q:Str×Option Key} (h:Dk H u q):Dt K H u (tpD q):=by obtain⟨p,rfl,e⟩:=h;exact .tuple (fZ.of e) (.cons (.str _) (.cons (Ym _) (.cons (.bl _) .nil)))
theorem QD {q:Str×Option Key} (h:PyData.strOk q.1=true) (hk:keyOk q.2):Gd 1 (tpD q):=.tuple λd hd=>by
 simp only [mem_cons,not_mem_nil,or_false] at hd;rcases hd with rfl | rfl | rfl
 ·exact .str 0 h
 ·exact Xz hk
 ·exact⟨by decide,by decide,by decide⟩
inductive m6 (C:Addr) (vs:List V) (H:Hp) (Q:VK) (E:XK):Prop where
 | mk:∀(a:Addr) (v:V),vs=[.ref a,v]->H a=some (uX a C)->(∀dx,H dx=none->dx≠a->Q .non (upd (upd H a (Aj a C dx)) dx (.xd [("name",v)])))->m6 C vs H Q E
theorem wk (T:Txt w K mg t):FO P w K mg base 1 t.ie ["self", "name"] (m6 t.dJ):=by
 have sc:=T.jR.sc ["self", "name"];refine T.jR.F.ok sc ln (λ_ _ _ _ H vs Q E hr h=>?_);obtain⟨a,v,rfl,ea,k⟩:=h;refine⟨_,(au (bK (MN (by rfl) T.qD T.wK (aa (pv 0) (aa (pv 1) ao aj) aj)))
  (aA (M6 (pv 0) (pv 1) rfl))),?_⟩
 refine⟨_,Z,_,Z,a,_,_,[v],Z,ea,T.JC.ini,by show 1<=1000;decide,?_⟩;exact⟨_,Z,_,Z,a,_,Z,ea,T.yV,T.Gb,k⟩
inductive mQ (C:Addr) (vs:List V) (H:Hp) (Q:VK) (E:XK):Prop where
 | mk:∀(a:Addr) (v:V),vs=[.ref a,v]->H a=some (uX a C)->(∀dx,H dx=none->dx≠a->Q .non (upd (upd H a (Aj a C dx)) dx (.xd [("name",v)])))->mQ C vs H Q E
theorem wj (T:Txt w K mg t):FO P w K mg base 1 t.gZ ["self", "name"] (mQ t.dj):=by
 have sc:=T.jT.sc ["self", "name"];refine T.jT.F.ok sc ln (λ_ _ _ _ H vs Q E hr h=>?_);obtain⟨a,v,rfl,ea,k⟩:=h;refine⟨_,(au (bK (MN (by rfl) T.qD T.wK (aa (pv 0) (aa (pv 1) ao aj) aj)))
  (aA (M6 (pv 0) (pv 1) rfl))),?_⟩
 refine⟨_,Z,_,Z,a,_,_,[v],Z,ea,T.Je.ini,by show 1<=1000;decide,?_⟩;exact⟨_,Z,_,Z,a,_,Z,ea,T.zf,T.Fi,k⟩
inductive zq (K:Fr) (vs:List V) (H:Hp) (Q:VK) (E:XK):Prop where
 | mk:∀x Tx b,vs=[x]->V7 K H x Tx->Tx∈iW->decide (Tx= "int")=b->Q (.bl b) H->zq K vs H Q E
theorem sJ (T:Txt w K mg t):FO P w K mg base 1 t.CQ ["thing"] (zq K):=by
 have sc:=T.m5.sc ["thing"];refine T.m5.F.ok sc ln (λ_ _ _ _ H vs Q E hr h=>?_);obtain⟨x,Tx,b,rfl,ty,hm,rfl,k⟩:=h;refine⟨_,(aA (aQ (yU (aY oA (by rfl) T.dY dD (aa (pv 0) (aa (rC (by rfl) T.S5 Mp) ao aj) aj)) (yR (RQ (aY oA (by rfl) T.dY dD (aa (pv 0) (aa (rC (by rfl) T.R3 M3) ao aj) aj))))))),?_⟩;have hm':Tx= "int" ∨Tx= "bool" ∨(Hg Tx "int" =false/\Tx≠ "int"):=by
  simp only [iW,mem_cons,not_mem_nil,or_false] at hm;rcases hm with rfl | rfl | rfl | rfl | rfl | rfl | rfl
  ·exact .inr (.inr (by decide))
  ·exact .inr (.inl Z)
  ·exact .inl Z
  ·exact .inr (.inr (by decide))
  ·exact .inr (.inr (by decide))
  ·exact .inr (.inr (by decide))
  ·exact .inr (.inr (by decide))
 rcases hm' with rfl | rfl | ⟨h1,h2⟩
 ·exact⟨_,Z,x, "int", "int",true,Z,ty,by decide,by decide,true,Z,fc ⟨_,Z,x, "int", "bool",false,Z,ty,by decide,by decide,_,Z,k⟩⟩
 ·exact⟨_,Z,x, "bool", "int",true,Z,ty,by decide,by decide,true,Z,fc ⟨_,Z,x, "bool", "bool",true,Z,ty,by decide,by decide,_,Z,k⟩⟩
 ·rw [decide_eq_false h2] at k;exact⟨_,Z,x,Tx, "int",false,Z,ty,by decide,h1,false,Z,cQ k⟩
inductive Ac (K:Fr) (vs:List V) (H:Hp) (Q:VK) (E:XK):Prop where
 | mk:∀x,vs=[x]->(((∃i:Int,x=.int i/\Q (.bl (decide (0<=i) && decide (i <1000000000))) H)∨∃Tx,V7 K H x Tx/\Tx∈iW/\Tx≠ "int" /\Q (.bl false) H))->Ac K vs H Q E
theorem sE (T:Txt w K mg t):FO P w K mg base 2 t.Dj ["thing"] (Ac K):=by
 have sc:=T.nY.sc ["thing"];refine T.nY.F.ok sc ln (λ_ _ _ _ H vs Q E hr h=>?_);obtain⟨x,rfl,h⟩:=h;refine⟨_,(aA (aQ (yU (dB (sJ T) T.m5 hr (aa (pv 0) ao aj)) (yR (Qs rO rM aq (pv 0) (il (by rfl) T.J9)))))),?_⟩;rcases h with ⟨i,rfl,k⟩ | ⟨Tx,ty,hm,hne,k⟩
 ·refine⟨_,Z,.int i, "int",true,Z,Z,by decide,by decide,true,Z,fc ⟨_,Z,_,_,Z,Z,_,Z,iD (λh=>?_) (λh=>?_)⟩⟩
  ·have h':0<=i:=of_decide_eq_true h;rw [decide_eq_true h',Bool.true_and] at k;exact⟨_,_,Z,Z,k⟩
  ·have h':¬0<=i:=λz=>h (decide_eq_true z);rw [decide_eq_false h',Bool.false_and] at k;exact k
 ·exact⟨_,Z,x,Tx,false,Z,ty,hm,decide_eq_false hne,false,Z,cQ k⟩
inductive qu (K:Fr) (t:mL) (vs:List V) (H:Hp) (Q:VK) (E:XK):Prop where
 | mk:∀(i:Nat) (p dx a1 a2 a3:Addr) (nm:V) (ns is os:List V),vs=[.ref p,nm,.ref a1,.ref a2,.ref a3]->H p=some (.ins (cls t i) dx [])->xm K H a1 ns->xm K H a2 is->xm K H a3 os->(∀H',lC p H H'->fC K t H' p i nm ns is os->Q .non H')->qu K t vs H Q E
noncomputable abbrev lQ:List Str:=["self", "name", "numbers", "ins", "outs"]
theorem bY (T:Txt w K mg t):FO P w K mg base 1 t.bU lQ (qu K t):=by
 have sc:gj lQ lQ (bh (inClass (top 35) 0)):=RT;refine T.aZ.F.ok sc ln (λ_ _ _ _ H vs Q E hr h=>?_);obtain⟨i,p,dx,a1,a2,a3,nm,ns,is,os,rfl,hp,q1,q2,q3,k⟩:=h;refine⟨_,(au (jz (pv 0) (pv 1) Z)
  (au (jz (pv 0) (dM qw (by rfl) T.wU sH (aa (pv 2) ao aj)) rfl)
  (au (jz (pv 0) (dM qw (by rfl) T.wU sH (aa (pv 3) ao aj)) rfl)
  (aA (jz (pv 0) (dM qw (by rfl) T.wU sH (aa (pv 4) ao aj)) rfl))))),?_⟩
 refine⟨_,Z,_,Z,p,cls t i,dx,[],Z,hp,iJ T i,Aw T i,by show 0 <1000;decide,?_⟩;have b1:lC p H (upd H p (.ins (cls t i) dx (aG "name" nm []))):=lC.write;have e1:(upd H p (.ins (cls t i) dx (aG "name" nm []))) p=some (.ins (cls t i) dx (aG "name" nm [])):=az;generalize upd H p (.ins (cls t i) dx (aG "name" nm []))=H1 at b1 e1 ⊢;have r2:=b1.seqA hp q2;have r3:=b1.seqA hp q3;refine⟨_,Z,a1,ns,Z,b1.seqA hp q1,λH2 u2 s2 t2=>⟨_,Z,p,cls t i,dx,_,Z,s2 _ _ e1,iJ T i,rA T i,lt_of_le_of_lt (jy (zero_le 0)) (by decide),?_⟩⟩;have e2:=s2 _ _ e1;have b2:lC p H2 (upd H2 p (.ins (cls t i) dx (aG "numbers" (.ref u2) (aG "name" nm [])))):=lC.write;have e3:(upd H2 p (.ins (cls t i) dx (aG "numbers" (.ref u2) (aG "name" nm [])))) p=some (.ins (cls t i) dx (aG "numbers" (.ref u2) (aG "name" nm []))):=az;generalize upd H2 p (.ins (cls t i) dx (aG "numbers" (.ref u2) (aG "name" nm [])))=H3 at b2 e3 ⊢;have r2':=b2.seqA e2 (s2.seqA r2);have r3':=b2.seqA e2 (s2.seqA r3);have t2':=b2.seqT e2 t2;refine⟨_,Z,a2,is,Z,r2',λH4 u4 s4 t4=>⟨_,Z,p,cls t i,dx,_,Z,s4 _ _ e3,iJ T i,zc T i,lt_of_le_of_lt (jy (jy (zero_le 0))) (by decide),?_⟩⟩;have e4:=s4 _ _ e3;have b4:lC p H4 (upd H4 p (.ins (cls t i) dx (aG "ins" (.ref u4) (aG "numbers" (.ref u2) (aG "name" nm []))))):=lC.write;have e5:(upd H4 p (.ins (cls t i) dx (aG "ins" (.ref u4) (aG "numbers" (.ref u2) (aG "name" nm []))))) p=some (.ins (cls t i) dx (aG "ins" (.ref u4) (aG "numbers" (.ref u2) (aG "name" nm [])))):=az;generalize upd H4 p (.ins (cls t i) dx (aG "ins" (.ref u4) (aG "numbers" (.ref u2) (aG "name" nm []))))=H5 at b4 e5 ⊢;have r3'':=b4.seqA e4 (s4.seqA r3');have t2'':=b4.seqT e4 (s4.seqT t2');have t4':=b4.seqT e4 t4;refine⟨_,Z,a3,os,Z,r3'',λH6 u6 s6 t6=>⟨_,Z,p,cls t i,dx,_,Z,s6 _ _ e5,iJ T i,HW T i,lt_of_le_of_lt (jy (jy (jy (zero_le 0)))) (by decide),?_⟩⟩;have e6:=s6 _ _ e5;refine k _ (b1.trans ((lC.of_same s2).trans (b2.trans ((lC.of_same s4).trans (b4.trans ((lC.of_same s6).trans lC.write)))))) ⟨dx,u2,u4,u6,az,?_,?_,?_⟩
 ·exact lC.write.seqT e6 (s6.seqT t2'')
 ·exact lC.write.seqT e6 (s6.seqT t4')
 ·exact lC.write.seqT e6 t6
theorem Ig (T:Txt w K mg t):FO P w K mg base 1 t.tV ["self"] (jc 0):=by have sc:=T.oK.sc ["self"];refine T.oK.F.ok sc ln (λ_ _ _ _ H vs Q E hr h=>?_);obtain⟨x,rfl,k⟩:=h;refine⟨_,(aA (aQ bA)),?_⟩;exact k
theorem GP (T:Txt w K mg t):FO P w K mg base 1 t.uy ["self"] (jc 1):=by have sc:=T.pB.sc ["self"];refine T.pB.F.ok sc ln (λ_ _ _ _ H vs Q E hr h=>?_);obtain⟨x,rfl,k⟩:=h;refine⟨_,(aA (aQ bA)),?_⟩;exact k
theorem Hs (T:Txt w K mg t):FO P w K mg base 1 t.ug ["self"] (jc 2):=by have sc:=T.pF.sc ["self"];refine T.pF.F.ok sc ln (λ_ _ _ _ H vs Q E hr h=>?_);obtain⟨x,rfl,k⟩:=h;refine⟨_,(aA (aQ bA)),?_⟩;exact k
theorem Hb (T:Txt w K mg t):FO P w K mg base 1 t.uf ["self"] (jc 3):=by have sc:=T.oR.sc ["self"];refine T.oR.F.ok sc ln (λ_ _ _ _ H vs Q E hr h=>?_);obtain⟨x,rfl,k⟩:=h;refine⟨_,(aA (aQ bA)),?_⟩;exact k
theorem G9 (T:Txt w K mg t):FO P w K mg base 1 t.uC ["self"] (jc 4):=by have sc:=T.oN.sc ["self"];refine T.oN.F.ok sc ln (λ_ _ _ _ H vs Q E hr h=>?_);obtain⟨x,rfl,k⟩:=h;refine⟨_,(aA (aQ bA)),?_⟩;exact k
theorem Hu (T:Txt w K mg t):FO P w K mg base 1 t.sU ["self"] (jc 5):=by have sc:=T.o9.sc ["self"];refine T.o9.F.ok sc ln (λ_ _ _ _ H vs Q E hr h=>?_);obtain⟨x,rfl,k⟩:=h;refine⟨_,(aA (aQ bA)),?_⟩;exact k
theorem JB (T:Txt w K mg t):FO P w K mg base 1 t.wu ["self"] (jc 6):=by have sc:=T.qQ.sc ["self"];refine T.qQ.F.ok sc ln (λ_ _ _ _ H vs Q E hr h=>?_);obtain⟨x,rfl,k⟩:=h;refine⟨_,(aA (aQ bA)),?_⟩;exact k
theorem Hr (T:Txt w K mg t):FO P w K mg base 1 t.uw ["self"] (jc 7):=by have sc:=T.oH.sc ["self"];refine T.oH.F.ok sc ln (λ_ _ _ _ H vs Q E hr h=>?_);obtain⟨x,rfl,k⟩:=h;refine⟨_,(aA (aQ bA)),?_⟩;exact k
theorem Ed (T:Txt w K mg t):FO P w K mg base 1 t.rF ["self"] (jc 8):=by have sc:=T.mj.sc ["self"];refine T.mj.F.ok sc ln (λ_ _ _ _ H vs Q E hr h=>?_);obtain⟨x,rfl,k⟩:=h;refine⟨_,(aA (aQ bA)),?_⟩;exact k
theorem Cv (T:Txt w K mg t):FO P w K mg base 1 t.pQ ["self"] (jc 9):=by have sc:=T.kh.sc ["self"];refine T.kh.F.ok sc ln (λ_ _ _ _ H vs Q E hr h=>?_);obtain⟨x,rfl,k⟩:=h;refine⟨_,(aA (aQ bA)),?_⟩;exact k
theorem Eg (T:Txt w K mg t):FO P w K mg base 1 t.qN ["self"] (jc 10):=by have sc:=T.mD.sc ["self"];refine T.mD.F.ok sc ln (λ_ _ _ _ H vs Q E hr h=>?_);obtain⟨x,rfl,k⟩:=h;refine⟨_,(aA (aQ bA)),?_⟩;exact k
inductive DW (vs:List V) (H:Hp) (Q:VK) (E:XK):Prop where
 | mk:∀z:Str,vs=[.str z]->Q (.bl (rowOf ROWS z).isSome) H->DW vs H Q E
theorem Bc (T:Txt w K mg t):FO P w K mg base 1 t.Fp ["word"] (DW):=by have sc:=T.uQ.sc ["word"];refine T.uQ.F.ok sc ln (λ_ _ _ _ H vs Q E hr h=>?_);obtain⟨z,rfl,k⟩:=h;refine⟨_,(aA (aQ (BJ (Xg (pv 0) (rn (v:=.ref _) (by rfl) T.Gw rfl)) (by with_unfolding_all rfl)))),?_⟩;exact⟨_,Z,t.xQ,ROWS,z,Z,T.JW,Z,k⟩
inductive zU (K:Fr) (vs:List V) (H:Hp) (Q:VK) (E:XK):Prop where
 | mk:∀(i:Nat) (nm:V) (a1 a2 a3:Addr) (ns is os:List V),vs=[.str (eU i),nm,.ref a1,.ref a2,.ref a3]->xm K H a1 ns->xm K H a2 is->xm K H a3 os->ns.length=cN i->is.length=cI i->os.length=cO i->((∀v∈ns,Val v))->(∀H',aO H H'->Q .non H')->zU K vs H Q E
noncomputable abbrev CW:List Str:=["kind", "name", "numbers", "ins", "outs", "counts"]
theorem Kr (T:Txt w K mg t):FO P w K mg base 3 t.Bj ["kind", "name", "numbers", "ins", "outs"] (zU K):=by
 have sc:=T.wy.sc CW;refine T.wy.F.ok sc ln (λ_ _ _ _ H vs Q E hr h=>?_);obtain⟨i,nm,a1,a2,a3,ns,is,os,rfl,h1,h2,h3,l1,l2,l3,hv,k⟩:=h;refine⟨_,(au (bQ (iM (fU (dB (Bc T) T.uQ hr (aa (pv 0) ao aj))))
   (aA eY)
   bw)
  (au (sN sc 5 (Uh (rn (v:=.ref _) (by rfl) T.Gw rfl) (pv 0) (λ_ _=>rfl)))
  (au (bQ (PW.pt (o8 (bf JM (aY bN (by rfl) T.eE cL (aa (pv 2) ao aj)) (aU dI (pv 5) aq (λ_ _=>rfl)) (bH _)) (lW (iM (fU (aY (wJ rfl) (by rfl) T.Oc Hx (aa (gP [] CW (bh (top 48)) rfl (WL (cX (pv 2)) (Hy (pv 2))) (λ_ _ _ _ _=>jw) (λ_ _ _ _ _=>(dB (sE T) T.nY hr (aa (pv 0) ao aj)))) ao fL)))))))
   (aA eY)
   bw)
  (aA (bQ (PW.pt (o8 (bf JM (aY bN (by rfl) T.eE cL (aa (pv 3) ao aj)) (aU dI (pv 5) aq (λ_ _=>rfl)) (bH _)) (lW (bf JM (aY bN (by rfl) T.eE cL (aa (pv 4) ao aj)) (aU dI (pv 5) aq (λ_ _=>rfl)) (bH _)))))
   (aA eY)
   bw))))),?_⟩
 have hl:sizeLine=16777216:=sizeLine_eq;have hN:=Zj i;have hI:=Gx i;have hO:=QZ i;refine⟨_,rfl,eU i,rfl,true,by rw [row_of];rfl,cQ ?_⟩;refine⟨_,Z,t.xQ,ROWS,eU i,_,Z,T.JW,Z,row_of i,λad had=>?_⟩;refine⟨_,Z,.ref a1,ns.length,Z,h1.len,_,Z,ad,_,0,_,Z,Z,had,aJ (j:=0) Z,Z,_,Z,?_⟩;rw [show(!decide (V.int ((ns.length:Nat):Int)=V.int ((cN i:Nat):Int)))=false by rw [l1];simp];refine cQ ?_;refine SN (a:=a1) (xs:=ns) ?_ h1 (λj ys=>ys=(List.replicate j true).map V.bl) (by lia) Z (λj ys e=>by rw [e];simp) (λj x ys hx e=>?_) (λys e D hD=>?_)
 ·exact λR r=>⟨_,Z,r⟩
 ·subst e;obtain⟨n,rfl,n0,n1⟩:=hv x (mem_of_getElem? hx);refine yes ⟨_,Z,.int n,Z,.inl ⟨n,Z,Z,?_⟩⟩;rw [decide_eq_true n0,decide_eq_true n1,List.replicate_succ'];simp
 ·subst e;refine⟨D,_,Z,bT.of az,_,Z,?_⟩;rw [show((List.replicate ns.length true).all id)=true by simp];refine cQ ?_;have s1:aO H (upd H D (.lst ((List.replicate ns.length true).map V.bl))):=aB hD;refine⟨_,Z,.ref a2,is.length,Z,(s1.seqA h2).len,_,Z,ad,_,1,_,Z,Z,s1.seqT had,aJ (j:=1) Z,Z,_,Z,?_⟩;rw [show(!decide (V.int ((is.length:Nat):Int)=V.int ((cI i:Nat):Int)))=false by rw [l2];simp];refine cQ ?_;refine⟨_,Z,.ref a3,os.length,Z,(s1.seqA h3).len,_,Z,ad,_,2,_,Z,Z,s1.seqT had,aJ (j:=2) Z,Z,_,Z,?_⟩;rw [show(!decide (V.int ((os.length:Nat):Int)=V.int ((cO i:Nat):Int)))=false by rw [l3];simp];exact cQ (k _ s1)
inductive DN (K:Fr) (t:mL) (vs:List V) (H:Hp) (Q:VK) (E:XK):Prop where
 | mk:∀(i:Nat) (nm:V) (a1 a2 a3:Addr) (ns is os:List V),vs=[.str (eU i),nm,.ref a1,.ref a2,.ref a3]->i<=10->xm K H a1 ns->xm K H a2 is->xm K H a3 os->(∀H' p,aO H H'->H p=none->fC K t H' p i nm ns is os->Q (.ref p) H')->DN K t vs H Q E
noncomputable abbrev yD:List Str:=["kind", "name", "numbers", "ins", "outs"]
theorem Mx (T:Txt w K mg t):FO P w K mg base 3 t.Ew yD (DN K t):=by
 have sc:gj yD yD (bh (top 49)):=RT;refine T.Fd.F.ok sc ln (λ_ _ _ _ H vs Q E hr h=>?_);obtain⟨i,nm,a1,a2,a3,ns,is,os,rfl,hi,h1,h2,h3,k⟩:=h;refine⟨_,(au (bQ (bf fO (pv 0) bA (bH _))
   (aA (aQ (iT (T.iB.M T.aZ) (bY T) (hr.mono (by decide)) (by rfl) T.iB.m T.aZ.b .nil gY (aa (pv 1) (aa (pv 2) (aa (pv 3) (aa (pv 4) ao aj) aj) aj) aj))))
   bw)
  (au (bQ (bf fO (pv 0) bA (bH _))
   (aA (aQ (iT (T.ir.M T.aZ) (bY T) (hr.mono (by decide)) (by rfl) T.ir.m T.aZ.b .nil gY (aa (pv 1) (aa (pv 2) (aa (pv 3) (aa (pv 4) ao aj) aj) aj) aj))))
   bw)
  (au (bQ (bf fO (pv 0) bA (bH _))
   (aA (aQ (iT (T.iu.M T.aZ) (bY T) (hr.mono (by decide)) (by rfl) T.iu.m T.aZ.b .nil gY (aa (pv 1) (aa (pv 2) (aa (pv 3) (aa (pv 4) ao aj) aj) aj) aj))))
   bw)
  (au (bQ (bf fO (pv 0) bA (bH _))
   (aA (aQ (iT (T.iC.M T.aZ) (bY T) (hr.mono (by decide)) (by rfl) T.iC.m T.aZ.b .nil gY (aa (pv 1) (aa (pv 2) (aa (pv 3) (aa (pv 4) ao aj) aj) aj) aj))))
   bw)
  (au (bQ (bf fO (pv 0) bA (bH _))
   (aA (aQ (iT (T.iQ.M T.aZ) (bY T) (hr.mono (by decide)) (by rfl) T.iQ.m T.aZ.b .nil gY (aa (pv 1) (aa (pv 2) (aa (pv 3) (aa (pv 4) ao aj) aj) aj) aj))))
   bw)
  (au (bQ (bf fO (pv 0) bA (bH _))
   (aA (aQ (iT (T.iw.M T.aZ) (bY T) (hr.mono (by decide)) (by rfl) T.iw.m T.aZ.b .nil gY (aa (pv 1) (aa (pv 2) (aa (pv 3) (aa (pv 4) ao aj) aj) aj) aj))))
   bw)
  (au (bQ (bf fO (pv 0) bA (bH _))
   (aA (aQ (iT (T.lB.M T.aZ) (bY T) (hr.mono (by decide)) (by rfl) T.lB.m T.aZ.b .nil gY (aa (pv 1) (aa (pv 2) (aa (pv 3) (aa (pv 4) ao aj) aj) aj) aj))))
   bw)
  (au (bQ (bf fO (pv 0) bA (bH _))
   (aA (aQ (iT (T.iK.M T.aZ) (bY T) (hr.mono (by decide)) (by rfl) T.iK.m T.aZ.b .nil gY (aa (pv 1) (aa (pv 2) (aa (pv 3) (aa (pv 4) ao aj) aj) aj) aj))))
   bw)
  (au (bQ (bf fO (pv 0) bA (bH _))
   (aA (aQ (iT (T.fH.M T.aZ) (bY T) (hr.mono (by decide)) (by rfl) T.fH.m T.aZ.b .nil gY (aa (pv 1) (aa (pv 2) (aa (pv 3) (aa (pv 4) ao aj) aj) aj) aj))))
   bw)
  (au (bQ (bf fO (pv 0) bA (bH _))
   (aA (aQ (iT (T.dZ.M T.aZ) (bY T) (hr.mono (by decide)) (by rfl) T.dZ.m T.aZ.b .nil gY (aa (pv 1) (aa (pv 2) (aa (pv 3) (aa (pv 4) ao aj) aj) aj) aj))))
   bw)
  (aA (aQ (iT (T.fG.M T.aZ) (bY T) (hr.mono (by decide)) (by rfl) T.fG.m T.aZ.b .nil gY (aa (pv 1) (aa (pv 2) (aa (pv 3) (aa (pv 4) ao aj) aj) aj) aj)))))))))))))),?_⟩
 match i,hi with
 | 0,_=>
  refine⟨_,Z,Z,_,Z,wg Z ?_⟩;refine⟨_,Z,_,Z,_,Z,_,Z,λx dx nx ndx nex=>?_⟩;have s0:aO H (upd (upd H dx (.own x)) x (.ins t.Ms dx [])):=λb o e=>by rw [aH (aF e nx),aH (aF e ndx)];exact e
  exact⟨0,x,dx,a1,a2,a3,nm,ns,is,os,Z,az,s0.seqA h1,s0.seqA h2,s0.seqA h3,λH' b P=>⟨Z,k H' x (λc o e=>b c o (aF e nx) (s0 c o e)) nx P⟩⟩
 | 1,_=>
  refine⟨_,Z,Z,_,Z,dU (by decide +kernel) ?_⟩;refine⟨_,Z,Z,_,Z,wg Z ?_⟩;refine⟨_,Z,_,Z,_,Z,_,Z,λx dx nx ndx nex=>?_⟩;have s0:aO H (upd (upd H dx (.own x)) x (.ins t.Lb dx [])):=λb o e=>by rw [aH (aF e nx),aH (aF e ndx)];exact e
  exact⟨1,x,dx,a1,a2,a3,nm,ns,is,os,Z,az,s0.seqA h1,s0.seqA h2,s0.seqA h3,λH' b P=>⟨Z,k H' x (λc o e=>b c o (aF e nx) (s0 c o e)) nx P⟩⟩
 | 2,_=>
  iterate 2 refine⟨_,Z,Z,_,Z,dU (by decide +kernel) ?_⟩
  refine⟨_,Z,Z,_,Z,wg Z ?_⟩;refine⟨_,Z,_,Z,_,Z,_,Z,λx dx nx ndx nex=>?_⟩;have s0:aO H (upd (upd H dx (.own x)) x (.ins t.Mg dx [])):=λb o e=>by rw [aH (aF e nx),aH (aF e ndx)];exact e
  exact⟨2,x,dx,a1,a2,a3,nm,ns,is,os,Z,az,s0.seqA h1,s0.seqA h2,s0.seqA h3,λH' b P=>⟨Z,k H' x (λc o e=>b c o (aF e nx) (s0 c o e)) nx P⟩⟩
 | 3,_=>
  iterate 3 refine⟨_,Z,Z,_,Z,dU (by decide +kernel) ?_⟩
  refine⟨_,Z,Z,_,Z,wg Z ?_⟩;refine⟨_,Z,_,Z,_,Z,_,Z,λx dx nx ndx nex=>?_⟩;have s0:aO H (upd (upd H dx (.own x)) x (.ins t.Mv dx [])):=λb o e=>by rw [aH (aF e nx),aH (aF e ndx)];exact e
  exact⟨3,x,dx,a1,a2,a3,nm,ns,is,os,Z,az,s0.seqA h1,s0.seqA h2,s0.seqA h3,λH' b P=>⟨Z,k H' x (λc o e=>b c o (aF e nx) (s0 c o e)) nx P⟩⟩
 | 4,_=>
  iterate 4 refine⟨_,Z,Z,_,Z,dU (by decide +kernel) ?_⟩
  refine⟨_,Z,Z,_,Z,wg Z ?_⟩;refine⟨_,Z,_,Z,_,Z,_,Z,λx dx nx ndx nex=>?_⟩;have s0:aO H (upd (upd H dx (.own x)) x (.ins t.Mz dx [])):=λb o e=>by rw [aH (aF e nx),aH (aF e ndx)];exact e
  exact⟨4,x,dx,a1,a2,a3,nm,ns,is,os,Z,az,s0.seqA h1,s0.seqA h2,s0.seqA h3,λH' b P=>⟨Z,k H' x (λc o e=>b c o (aF e nx) (s0 c o e)) nx P⟩⟩
 | 5,_=>
  iterate 5 refine⟨_,Z,Z,_,Z,dU (by decide +kernel) ?_⟩
  refine⟨_,Z,Z,_,Z,wg Z ?_⟩;refine⟨_,Z,_,Z,_,Z,_,Z,λx dx nx ndx nex=>?_⟩;have s0:aO H (upd (upd H dx (.own x)) x (.ins t.My dx [])):=λb o e=>by rw [aH (aF e nx),aH (aF e ndx)];exact e
  exact⟨5,x,dx,a1,a2,a3,nm,ns,is,os,Z,az,s0.seqA h1,s0.seqA h2,s0.seqA h3,λH' b P=>⟨Z,k H' x (λc o e=>b c o (aF e nx) (s0 c o e)) nx P⟩⟩
 | 6,_=>
  iterate 6 refine⟨_,Z,Z,_,Z,dU (by decide +kernel) ?_⟩
  refine⟨_,Z,Z,_,Z,wg Z ?_⟩;refine⟨_,Z,_,Z,_,Z,_,Z,λx dx nx ndx nex=>?_⟩;have s0:aO H (upd (upd H dx (.own x)) x (.ins t.Qz dx [])):=λb o e=>by rw [aH (aF e nx),aH (aF e ndx)];exact e
  exact⟨6,x,dx,a1,a2,a3,nm,ns,is,os,Z,az,s0.seqA h1,s0.seqA h2,s0.seqA h3,λH' b P=>⟨Z,k H' x (λc o e=>b c o (aF e nx) (s0 c o e)) nx P⟩⟩
 | 7,_=>
  iterate 7 refine⟨_,Z,Z,_,Z,dU (by decide +kernel) ?_⟩
  refine⟨_,Z,Z,_,Z,wg Z ?_⟩;refine⟨_,Z,_,Z,_,Z,_,Z,λx dx nx ndx nex=>?_⟩;have s0:aO H (upd (upd H dx (.own x)) x (.ins t.KN dx [])):=λb o e=>by rw [aH (aF e nx),aH (aF e ndx)];exact e
  exact⟨7,x,dx,a1,a2,a3,nm,ns,is,os,Z,az,s0.seqA h1,s0.seqA h2,s0.seqA h3,λH' b P=>⟨Z,k H' x (λc o e=>b c o (aF e nx) (s0 c o e)) nx P⟩⟩
 | 8,_=>
  iterate 8 refine⟨_,Z,Z,_,Z,dU (by decide +kernel) ?_⟩
  refine⟨_,Z,Z,_,Z,wg Z ?_⟩;refine⟨_,Z,_,Z,_,Z,_,Z,λx dx nx ndx nex=>?_⟩;have s0:aO H (upd (upd H dx (.own x)) x (.ins t.Ht dx [])):=λb o e=>by rw [aH (aF e nx),aH (aF e ndx)];exact e
  exact⟨8,x,dx,a1,a2,a3,nm,ns,is,os,Z,az,s0.seqA h1,s0.seqA h2,s0.seqA h3,λH' b P=>⟨Z,k H' x (λc o e=>b c o (aF e nx) (s0 c o e)) nx P⟩⟩
 | 9,_=>
  iterate 9 refine⟨_,Z,Z,_,Z,dU (by decide +kernel) ?_⟩
  refine⟨_,Z,Z,_,Z,wg Z ?_⟩;refine⟨_,Z,_,Z,_,Z,_,Z,λx dx nx ndx nex=>?_⟩;have s0:aO H (upd (upd H dx (.own x)) x (.ins t.BR dx [])):=λb o e=>by rw [aH (aF e nx),aH (aF e ndx)];exact e
  exact⟨9,x,dx,a1,a2,a3,nm,ns,is,os,Z,az,s0.seqA h1,s0.seqA h2,s0.seqA h3,λH' b P=>⟨Z,k H' x (λc o e=>b c o (aF e nx) (s0 c o e)) nx P⟩⟩
 | 10,_=>
  iterate 10 refine⟨_,Z,Z,_,Z,dU (by decide +kernel) ?_⟩
  refine⟨_,Z,_,Z,_,Z,_,Z,λx dx nx ndx nex=>?_⟩;have s0:aO H (upd (upd H dx (.own x)) x (.ins t.IK dx [])):=λb o e=>by rw [aH (aF e nx),aH (aF e ndx)];exact e
  exact⟨10,x,dx,a1,a2,a3,nm,ns,is,os,Z,az,s0.seqA h1,s0.seqA h2,s0.seqA h3,λH' b P=>⟨Z,k H' x (λc o e=>b c o (aF e nx) (s0 c o e)) nx P⟩⟩
 | (n+11),h=>exact absurd h (by lia)
inductive xG (K:Fr) (t:mL) (vs:List V) (H:Hp) (Q:VK) (E:XK):Prop where
 | mk:∀(i:Nat) (nm:V) (a1 a2 a3:Addr) (ns is os:List V),vs=[.str (eU i),nm,.ref a1,.ref a2,.ref a3]->i<=10->xm K H a1 ns->xm K H a2 is->xm K H a3 os->ns.length=cN i->is.length=cI i->os.length=cO i->((∀v∈ns,Val v))->(∀H' p,aO H H'->H p=none->fC K t H' p i nm ns is os->Q (.ref p) H')->xG K t vs H Q E
noncomputable abbrev tO:List Str:=["kind", "name", "numbers", "ins", "outs"]
theorem Ir (T:Txt w K mg t):FO P w K mg base 4 t.z6 tO (xG K t):=by
 have sc:gj tO tO (bh (top 50)):=RT;refine T.zu.F.ok sc ln (λ_ _ _ _ H vs Q E hr h=>?_);obtain⟨i,nm,a1,a2,a3,ns,is,os,rfl,hi,h1,h2,h3,l1,l2,l3,hv,k⟩:=h;refine⟨_,(au (bK (dB (Kr T) T.wy hr (aa (pv 0) (aa (pv 1) (aa (pv 2) (aa (pv 3) (aa (pv 4) ao aj) aj) aj) aj) aj)))
  (aA (aQ (dB (Mx T) T.Fd hr (aa (pv 0) (aa (pv 1) (aa (pv 2) (aa (pv 3) (aa (pv 4) ao aj) aj) aj) aj) aj))))),?_⟩
 refine⟨_,Z,_,Z,_,Z,_,Z,_,Z,i,nm,a1,a2,a3,ns,is,os,Z,h1,h2,h3,l1,l2,l3,hv,λH1 s1=>?_⟩;exact⟨_,Z,_,Z,_,Z,_,Z,_,Z,i,nm,a1,a2,a3,ns,is,os,Z,hi,s1.seqA h1,s1.seqA h2,s1.seqA h3,λH2 p s2 np P=>k H2 p (s1.trans s2) (s1.free np) P⟩
inductive N5 (vs:List V) (H:Hp) (Q:VK) (E:XK):Prop where
 | mk:∀a:Int,vs=[.int a]->Q (.int (a % 1000000000)) H->N5 vs H Q E
theorem Hh (T:Txt w K mg t):FO P w K mg base 1 t.Rk ["number"] (N5):=by have sc:=T.Cu.sc ["number"];refine T.Cu.F.ok sc ln (λ_ _ _ _ H vs Q E hr h=>?_);obtain⟨a,rfl,k⟩:=h;refine⟨_,(aA (aQ (aX bR (pv 0) (il (by rfl) T.J9)))),?_⟩;exact⟨_,Z,_,_,Z,Z,by show(0:Int) <1000000000;decide,k⟩
inductive uG (K:Fr) (t:mL) (vs:List V) (H:Hp) (Q:VK) (E:XK):Prop where
 | mk:∀i,i≠9->mO K t i vs H Q E->uG K t vs H Q E
theorem cU (T:Txt w K mg t):FO P w K mg base 1 t.cB ["self", "heads"] (uG K t):=by
 have sc:=T.bB.sc ["self", "heads"];refine T.bB.F.ok sc ln (λ_ _ _ _ H vs Q E hr h=>?_);obtain⟨i,hi,p,a,nm,ns,is,os,hs,rfl,hP,hI,hS,hH,k⟩:=h;refine⟨_,(aA (aQ (dM (Ek rfl) (by rfl) T.tX oZ (aa (dM JQ (by rfl) T.lX Rb (aa (aY bN (by rfl) T.eE cL (aa (bJ (pv 0) rfl) ao bz)) ao bc)) ao bc)))),?_⟩;obtain⟨dx,tn,ti,to,hp,h2,h3,h4⟩:=id hP.ex;have h3':=Gx i;refine⟨_,Z,p,cls t i,dx,_,.ref ti,Z,hp,iJ T i,zc T i,tW _ _ _ _,.ref ti,is.length,Z,.inr ⟨is,h3,Z⟩,_,Z,λr hr=>⟨r,is.length,Z,az,by lia,λl hl=>?_⟩⟩;have e:(places i hs).map nV=TX is.length:=by unfold places TX;rw [if_neg hi,hH.1,hI];rfl
 refine k _ l ((aB hr).trans (aB hl)) ((aB hr).free hl) ?_;rw [e];exact az
theorem zm (T:Txt w K mg t):FO P w K mg base 1 t.lU ["self", "heads"] (mO K t 9):=by
 have sc:=T.jq.sc ["self", "heads"];refine T.jq.F.ok sc ln (λ_ _ _ _ H vs Q E hr h=>?_);obtain⟨p,a,nm,ns,is,os,hs,rfl,hP,hI,hS,hH,k⟩:=h;refine⟨_,(au (bQ (j8 (Hd (aU aR (pv 1) aq (λ_ _=>Z))))
   (aA (aQ (bj (aa aq ao ak))))
   bw)
  (aA (aQ (bj (aa aq (aa (aX dG aq (aX bR (aU aR (pv 1) aq (λ_ _=>rfl)) aq)) ao bO) ak))))),?_⟩
 have hl:sizeLine=16777216:=sizeLine_eq;have hlen:hs.length=3:=hH.1;match hs,hlen,hH with
 | h0:: r,hlen,hH=>
  have ea:IW (h0:: r) 0=some h0:=aJ (xs:=h0:: r) (j:=0) rfl;rcases hH.2 h0 mem_cons_self with e | ⟨n,e⟩
  ·subst e;refine⟨_,Z,a,_,0,_,Z,Z,hS,ea,_,Z,wg Z ?_⟩;exact⟨by show 1<=sizeLine;lia,λL hL=>k _ L (aB hL) hL az⟩
  ·subst e;refine⟨_,rfl,a,_,0,_,rfl,rfl,hS,ea,_,rfl,dU (by intro z;cases z) ?_⟩;refine⟨_,Z,a,_,0,_,Z,Z,hS,ea,_,_,Z,Z,by show(0:Int) <2;decide,_,_,Z,Z,by show 2<=sizeLine;lia,λL hL=>k _ L (aB hL) hL ?_⟩;have h0:=emod_nonneg n (show(2:Int)≠0 by decide);have e1:(1:Int)+n % 2=((1+(n % 2).toNat:Nat):Int):=by lia
   rw [az];show some (HO.lst [.int 0,.int (1+n % 2)])=some (HO.lst [.int ((0:Nat):Int),.int ((1+(n % 2).toNat:Nat):Int)]);rw [e1];rfl
theorem FJ (T:Txt w K mg t) (i:Nat):MethAt P w K mg base Eh 1 (cls t i) "taking" (mO K t i):=match i with
 | 0=>⟨_,_,_,T.iB.c,(T.bB.me T.iB.me.2.2.1),T.bB.b,(cU T).imp λ_ _ _ _ h=>⟨_,by lia,h⟩⟩
 | 1=>⟨_,_,_,T.ir.c,(T.bB.me T.ir.me.2.2.1),T.bB.b,(cU T).imp λ_ _ _ _ h=>⟨_,by lia,h⟩⟩
 | 2=>⟨_,_,_,T.iu.c,(T.bB.me T.iu.me.2.2.1),T.bB.b,(cU T).imp λ_ _ _ _ h=>⟨_,by lia,h⟩⟩
 | 3=>⟨_,_,_,T.iC.c,(T.bB.me T.iC.me.2.2.1),T.bB.b,(cU T).imp λ_ _ _ _ h=>⟨_,by lia,h⟩⟩
 | 4=>⟨_,_,_,T.iQ.c,(T.bB.me T.iQ.me.2.2.1),T.bB.b,(cU T).imp λ_ _ _ _ h=>⟨_,by lia,h⟩⟩
 | 5=>⟨_,_,_,T.iw.c,(T.bB.me T.iw.me.2.2.1),T.bB.b,(cU T).imp λ_ _ _ _ h=>⟨_,by lia,h⟩⟩
 | 6=>⟨_,_,_,T.lB.c,(T.bB.me T.lB.me.2.2.1),T.bB.b,(cU T).imp λ_ _ _ _ h=>⟨_,by lia,h⟩⟩
 | 7=>⟨_,_,_,T.iK.c,(T.bB.me T.iK.me.2.2.1),T.bB.b,(cU T).imp λ_ _ _ _ h=>⟨_,by lia,h⟩⟩
 | 8=>⟨_,_,_,T.fH.c,(T.bB.me T.fH.me.2.2.1),T.bB.b,(cU T).imp λ_ _ _ _ h=>⟨_,by lia,h⟩⟩
 | 9=>⟨_,_,_,T.dZ.c,(T.jq.me T.dZ.me.2.2.1),T.jq.b,zm T⟩
 | n+10=>⟨_,_,_,T.fG.c,(T.bB.me T.fG.me.2.2.1),T.bB.b,(cU T).imp λ_ _ _ _ h=>⟨_,by lia,h⟩⟩
inductive vA (K:Fr) (t:mL) (vs:List V) (H:Hp) (Q:VK) (E:XK):Prop where
 | mk:∀i,xr K t i vs H Q E->vA K t vs H Q E
theorem cT (T:Txt w K mg t):FO P w K mg base 2 t.cC ["self", "heads"] (vA K t):=by
 have sc:=T.bC.sc ["self", "heads", "place"];refine T.bC.F.ok sc ln (λ_ _ _ _ H vs Q E hr h=>?_);obtain⟨i,p,a,nm,ns,is,os,hs,rfl,hP,hI,hS,hH,k⟩:=h;refine⟨_,(au (fj PassesOwn.never Z (cX (xO (CX:=Eh) (k:=1) (E:=E0) (pv 0) (hr.mono (by decide)) gY (aa (pv 1) ao aj))) (gN sc 2)
   (aA (bQ (j8 (Hd (aU aR (pv 1) (pv 2) (λ_ _=>rfl))))
    (aA (aQ (pv 2)))
    bw)))
  (aA (aQ nZ))),?_⟩
 obtain⟨dx,tn,ti,to,hp,h2,h3,h4⟩:=id hP.ex;refine⟨_,Z,p,cls t i,dx,_,mO K t i,Z,hp,uL _ _ _ _ (by decide +kernel) (by decide +kernel) (by decide +kernel) (by decide +kernel),FJ T i,_,Z,p,a,nm,ns,is,os,hs,Z,hP,hI,hS,hH,λH1 L s1 nL eL=>⟨L,Z,⟨_,bT.of eL⟩,?_⟩⟩;refine fK (K:=K) (a:=L) (xs:=(places i hs).map nV) (λj σ H2=>H2=H1/\∃v,σ=[some (.ref p),some (.ref a),v]/\∀q∈(places i hs).take j,vV hs q=false)
  ⟨rfl,none,rfl,by simp⟩ (λj σ H2 _ ⟨e,_⟩=>by rw [e];exact bT.of eL) ?_ ?_
 ·rintro j x σ H2 hx ⟨rfl,v,rfl,hno⟩;rw [getElem?_map] at hx;obtain⟨q,hq,rfl⟩:=map_eq_some_iff.mp hx;have hlt:=j4 hH q (mem_of_getElem? hq);obtain⟨hv,ev⟩:∃hv,hs[q]?=some hv:=⟨hs[q],getElem?_eq_getElem hlt⟩;refine⟨_,Z,_,Z,a,hs,_,hv,Z,Z,s1.seq hS,aJ ev,_,Z,iD (λhn=>?_) (λhn=>?_)⟩
  ·have hn':hv=.non:=of_decide_eq_true hn;refine⟨_,Z,?_⟩;have:=k H2 s1;unfold Nt at this;rw [NQ hq hno (by unfold vV;rw [ev,hn'];simp)] at this;exact this
  ·have hn':¬hv=.non:=λz=>hn (decide_eq_true z);refine⟨Z,_,Z,λy hy=>?_⟩;rw [List.take_add_one,hq] at hy;rcases mem_append.mp hy with hy | hy
   ·exact hno y hy
   ·have e:y=q:=by simpa using hy
    subst e;unfold vV;rw [ev];simpa using hn'
 ·rintro σ H2 ⟨rfl,v,rfl,hno⟩;have:=k H2 s1;unfold Nt at this;rw [lM,take_of_length_le (le_refl _)] at hno;rw [Vf hno] at this;exact this
inductive vJ (K:Fr) (t:mL) (vs:List V) (H:Hp) (Q:VK) (E:XK):Prop where
 | mk:∀i,i≠5->tY K t i vs H Q E->vJ K t vs H Q E
theorem dF (T:Txt w K mg t):FO P w K mg base 1 t.cW ["self"] (vJ K t):=by have sc:=T.bI.sc ["self"];refine T.bI.F.ok sc ln (λ_ _ _ _ H vs Q E hr h=>?_);obtain⟨i,hi,p,nm,ns,is,os,rfl,hP,hn,k⟩:=h;refine⟨_,(aA (aQ aq)),?_⟩;unfold GZ at k;rw [if_neg hi] at k;exact k
theorem Ei (T:Txt w K mg t):FO P w K mg base 1 t.qP ["self"] (tY K t 5):=by
 have sc:=T.my.sc ["self"];refine T.my.F.ok sc ln (λ_ _ _ _ H vs Q E hr h=>?_);obtain⟨p,nm,ns,is,os,rfl,hP,hn,k⟩:=h;refine⟨_,(aA (aQ (aU Lw (bJ (pv 0) Z) aq (λ_ _=>Z)))),?_⟩;obtain⟨dx,tn,ti,to,hp,h2,h3,h4⟩:=id hP.ex;match ns,hn with
 | v:: r,hn=>
  exact⟨_,Z,p,cls t 5,dx,_,.ref tn,Z,hp,iJ T 5,rA T 5,qF _ _ _ _,.inr (.inl ⟨tn,_,0,v,Z,Z,h2,aJ (xs:=v:: r) (j:=0) Z,k⟩)⟩
theorem Bf (T:Txt w K mg t):FO P w K mg base 1 t.pJ ["self", "values", "kept"] (d7 K t 2):=by
 have sc:=T.kW.sc ["self", "values", "kept"];refine T.kW.F.ok sc ln (λ_ _ _ _ H vs Q E hr h=>?_);obtain⟨p,a,nm,ns,is,os,ws,kp,rfl,hP,ln,hS,lw,hB,k⟩:=h;refine⟨_,(aA (aQ (bV (aa (bj (aa (bV (aa aq (aa (aU aR (pv 1) aq (λ_ _=>Z)) ao aC) ak)) ao b7)) (aa (pv 2) ao aj) aV)))),?_⟩;obtain⟨dx,tn,ti,to,hp,h2,h3,h4⟩:=id hP.ex;match ws,lw with
 | [v],_=>
  have fin:∀H' L rs,aO H H'->H L=none->H' L=some (.lst (rs.map V.ref))->fD H' rs (Ja (cu 2 ns [v] kp))->∀U,H' U=none->Q (.ref U) (upd H' U (.tup [.ref L,.int (gA 2 [v] kp)])):=Ci k;exact⟨_,Z,a,_,0,_,Z,Z,hS,Z,dX,λt0 n0=>⟨one_le,λL nL=>⟨_,Z,dX,λU nU=>xW (Q:=λx H'=>∀U,H' U=none->Q (.ref U) (upd H' U (.tup [x,.int (gA 2 [v] kp)]))) Z Z fin n0 nL U nU⟩⟩⟩
theorem Ds (T:Txt w K mg t):FO P w K mg base 1 t.pG ["self", "values", "kept"] (d7 K t 3):=by
 have sc:=T.kZ.sc ["self", "values", "kept"];refine T.kZ.F.ok sc ln (λ_ _ _ _ H vs Q E hr h=>?_);obtain⟨p,a,nm,ns,is,os,ws,kp,rfl,hP,ln,hS,lw,hB,k⟩:=h;refine⟨_,(aA (aQ (bV (aa (bj (aa (bV (aa aq (aa (aU aR (pv 1) aq (λ_ _=>Z)) ao aC) ak)) (aa (bV (aa aq (aa (aU aR (pv 1) aq (λ_ _=>Z)) ao aC) ak)) ao b7) b7)) (aa (pv 2) ao aj) aV)))),?_⟩;obtain⟨dx,tn,ti,to,hp,h2,h3,h4⟩:=id hP.ex;match ws,lw with
 | [v],_=>
  have fin:∀H' L rs,aO H H'->H L=none->H' L=some (.lst (rs.map V.ref))->fD H' rs (Ja (cu 3 ns [v] kp))->∀U,H' U=none->Q (.ref U) (upd H' U (.tup [.ref L,.int (gA 3 [v] kp)])):=Ci k;exact⟨_,Z,a,_,0,_,Z,Z,hS,Z,dX,λt0 n0=>⟨_,Z,a,_,0,_,Z,Z,((aB n0).seq hS),Z,dX,λt1 n1=>⟨dX,λL nL=>⟨_,Z,dX,λU nU=>VN (Q:=λx H'=>∀U,H' U=none->Q (.ref U) (upd H' U (.tup [x,.int (gA 3 [v] kp)]))) Z Z Z Z fin n0 n1 nL U nU⟩⟩⟩⟩
theorem BK (T:Txt w K mg t):FO P w K mg base 2 t.pY ["self", "values", "kept"] (d7 K t 4):=by
 have sc:=T.km.sc ["self", "values", "kept"];refine T.km.F.ok sc ln (λ_ _ _ _ H vs Q E hr h=>?_);obtain⟨p,a,nm,ns,is,os,ws,kp,rfl,hP,ln,hS,lw,hB,k⟩:=h;refine⟨_,(aA (aQ (bV (aa (bj (aa (bV (aa aq (aa (dB (Hh T) T.Cu hr (aa (aX dG (aX pA (aU Lw (bJ (pv 0) Z) aq (λ_ _=>Z)) (aU aR (pv 1) aq (λ_ _=>Z))) (aU Lw (bJ (pv 0) Z) aq (λ_ _=>Z))) ao bO)) ao bc) ak)) ao b7)) (aa (pv 2) ao aj) aV)))),?_⟩;obtain⟨dx,tn,ti,to,hp,h2,h3,h4⟩:=id hP.ex;match ws,lw,ns,ln with
 | [v],_,[m,m1],_=>
  have fin:∀H' L rs,aO H H'->H L=none->H' L=some (.lst (rs.map V.ref))->fD H' rs (Ja (cu 4 [m,m1] [v] kp))->∀U,H' U=none->Q (.ref U) (upd H' U (.tup [.ref L,.int (gA 4 [v] kp)])):=Ci k;exact⟨_,Z,p,cls t 4,dx,_,.ref tn,Z,hp,iJ T 4,rA T 4,qF _ _ _ _,.inr (.inl ⟨tn,_,0,_,Z,Z,h2,Z,_,Z,a,_,0,_,Z,Z,hS,Z,_,_,Z,Z,aav hB (by simp),_,Z,p,cls t 4,dx,_,.ref tn,Z,hp,iJ T 4,rA T 4,qF _ _ _ _,.inr (.inl ⟨tn,_,1,_,Z,Z,h2,Z,_,_,Z,Z,_,Z,dX,λt0 n0=>⟨one_le,λL nL=>⟨_,Z,dX,λU nU=>xW (Q:=λx H'=>∀U,H' U=none->Q (.ref U) (upd H' U (.tup [x,.int (gA 4 [v] kp)]))) Z Z fin n0 nL U nU⟩⟩⟩)⟩)⟩
theorem Dn (T:Txt w K mg t):FO P w K mg base 2 t.pI ["self", "values", "kept"] (d7 K t 5):=by
 have sc:=T.kj.sc ["self", "values", "kept", "together"];refine T.kj.F.ok sc ln (λ_ _ _ _ H vs Q E hr h=>?_);obtain⟨p,a,nm,ns,is,os,ws,kp,rfl,hP,ln,hS,lw,hB,k⟩:=h;refine⟨_,(au (sN sc 3 (dB (Hh T) T.Cu hr (aa (aX dG (pv 2) (aU aR (pv 1) aq (λ_ _=>Z))) ao bO)))
  (aA (aQ (bV (aa (bj (aa (bV (aa aq (aa (pv 3) ao aj) ak)) ao b7)) (aa (pv 3) ao aj) aV))))),?_⟩
 obtain⟨dx,tn,ti,to,hp,h2,h3,h4⟩:=id hP.ex;match ws,lw with
 | [v],_=>
  have fin:∀H' L rs,aO H H'->H L=none->H' L=some (.lst (rs.map V.ref))->fD H' rs (Ja (cu 5 ns [v] kp))->∀U,H' U=none->Q (.ref U) (upd H' U (.tup [.ref L,.int (gA 5 [v] kp)])):=Ci k;exact⟨_,Z,_,Z,a,_,0,_,Z,Z,hS,Z,_,_,Z,Z,_,Z,_,Z,dX,λt0 n0=>⟨one_le,λL nL=>⟨_,Z,dX,λU nU=>xW (Q:=λx H'=>∀U,H' U=none->Q (.ref U) (upd H' U (.tup [x,.int (gA 5 [v] kp)]))) Z Z fin n0 nL U nU⟩⟩⟩
theorem Em (T:Txt w K mg t):FO P w K mg base 2 t.qK ["self", "values", "kept"] (d7 K t 6):=by
 have sc:=T.mC.sc ["self", "values", "kept"];refine T.mC.F.ok sc ln (λ_ _ _ _ H vs Q E hr h=>?_);obtain⟨p,a,nm,ns,is,os,ws,kp,rfl,hP,ln,hS,lw,hB,k⟩:=h;refine⟨_,(aA (aQ (bV (aa (bj (aa (bV (aa aq (aa (dB (Hh T) T.Cu hr (aa (aX dG (aU aR (pv 1) aq (λ_ _=>Z)) (aU aR (pv 1) aq (λ_ _=>Z))) ao bO)) ao bc) ak)) ao b7)) (aa (pv 2) ao aj) aV)))),?_⟩;obtain⟨dx,tn,ti,to,hp,h2,h3,h4⟩:=id hP.ex;match ws,lw with
 | [v,v1],_=>
  have fin:∀H' L rs,aO H H'->H L=none->H' L=some (.lst (rs.map V.ref))->fD H' rs (Ja (cu 6 ns [v,v1] kp))->∀U,H' U=none->Q (.ref U) (upd H' U (.tup [.ref L,.int (gA 6 [v,v1] kp)])):=Ci k;exact⟨_,Z,a,_,0,_,Z,Z,hS,Z,_,Z,a,_,1,_,Z,Z,hS,Z,_,_,Z,Z,_,Z,dX,λt0 n0=>⟨one_le,λL nL=>⟨_,Z,dX,λU nU=>xW (Q:=λx H'=>∀U,H' U=none->Q (.ref U) (upd H' U (.tup [x,.int (gA 6 [v,v1] kp)]))) Z Z fin n0 nL U nU⟩⟩⟩
theorem Cd (T:Txt w K mg t):FO P w K mg base 1 t.pM ["self", "values", "kept"] (d7 K t 7):=by
 have sc:=T.kJ.sc ["self", "values", "kept"];refine T.kJ.F.ok sc ln (λ_ _ _ _ H vs Q E hr h=>?_);obtain⟨p,a,nm,ns,is,os,ws,kp,rfl,hP,ln,hS,lw,hB,k⟩:=h;refine⟨_,(aA (aQ (bV (aa (bj (aa (bV (aa aq (aa (Cy (bf rM (aU aR (pv 1) aq (λ_ _=>Z)) (aU aR (pv 1) aq (λ_ _=>Z)) (bH _)) aq aq) ao Li) ak)) ao b7)) (aa (pv 2) ao aj) aV)))),?_⟩;obtain⟨dx,tn,ti,to,hp,h2,h3,h4⟩:=id hP.ex;match ws,lw with
 | [v,v1],_=>
  have fin:∀H' L rs,aO H H'->H L=none->H' L=some (.lst (rs.map V.ref))->fD H' rs (Ja (cu 7 ns [v,v1] kp))->∀U,H' U=none->Q (.ref U) (upd H' U (.tup [.ref L,.int (gA 7 [v,v1] kp)])):=Ci k;refine⟨_,Z,a,_,0,_,Z,Z,hS,Z,_,Z,a,_,1,_,Z,Z,hS,Z,_,_,Z,Z,_,Z,iD (λh=>?_) (λh=>?_)⟩
  ·have h':v <v1:=of_decide_eq_true h;exact⟨dX,λt0 n0=>⟨one_le,λL nL=>⟨_,Z,dX,λU nU=>xW (Q:=λx H'=>∀U,H' U=none->Q (.ref U) (upd H' U (.tup [x,.int (gA 7 [v,v1] kp)]))) Z (by show(1:Int)=if v <v1 then 1 else 0;rw [if_pos h']) fin n0 nL U nU⟩⟩⟩
  ·have h':¬v <v1:=λz=>h (decide_eq_true z);exact⟨dX,λt0 n0=>⟨one_le,λL nL=>⟨_,Z,dX,λU nU=>xW (Q:=λx H'=>∀U,H' U=none->Q (.ref U) (upd H' U (.tup [x,.int (gA 7 [v,v1] kp)]))) Z (by show(0:Int)=if v <v1 then 1 else 0;rw [if_neg h']) fin n0 nL U nU⟩⟩⟩
theorem Ah (T:Txt w K mg t):FO P w K mg base 1 t.m7 ["self", "values", "kept"] (d7 K t 8):=by
 have sc:=T.jP.sc ["self", "values", "kept"];refine T.jP.F.ok sc ln (λ_ _ _ _ H vs Q E hr h=>?_);obtain⟨p,a,nm,ns,is,os,ws,kp,rfl,hP,ln,hS,lw,hB,k⟩:=h;refine⟨_,(aA (aQ (bV (aa (bj (aa (bV (aa aq (aa (aY (Qa rfl) (by rfl) T.Zr Yk (aa (pv 1) ao aj)) ao bc) ak)) (aa (bV (aa aq (aa (aY (Ot rfl) (by rfl) T.Q5 Ly (aa (pv 1) ao aj)) ao bc) ak)) ao b7) b7)) (aa (pv 2) ao aj) aV)))),?_⟩;obtain⟨dx,tn,ti,to,hp,h2,h3,h4⟩:=id hP.ex;match ws,lw with
 | [v,v1],_=>
  have fin:∀H' L rs,aO H H'->H L=none->H' L=some (.lst (rs.map V.ref))->fD H' rs (Ja (cu 8 ns [v,v1] kp))->∀U,H' U=none->Q (.ref U) (upd H' U (.tup [.ref L,.int (gA 8 [v,v1] kp)])):=Ci k;exact⟨_,Z,a,v,v1,Z,hS,dX,λt0 n0=>⟨_,Z,a,v,v1,Z,(aB n0).seq hS,dX,λt1 n1=>⟨dX,λL nL=>⟨_,Z,dX,λU nU=>VN (Q:=λx H'=>∀U,H' U=none->Q (.ref U) (upd H' U (.tup [x,.int (gA 8 [v,v1] kp)]))) Z Z Z Z fin n0 n1 nL U nU⟩⟩⟩⟩
theorem yP (T:Txt w K mg t):FO P w K mg base 1 t.lR ["self", "values", "kept"] (d7 K t 9):=by
 have sc:=T.jr.sc ["self", "values", "kept"];refine T.jr.F.ok sc ln (λ_ _ _ _ H vs Q E hr h=>?_);obtain⟨p,a,nm,ns,is,os,ws,kp,rfl,hP,ln,hS,lw,hB,k⟩:=h;refine⟨_,(aA (aQ (bV (aa (bj (aa (bV (aa aq (aa (aU aR (pv 1) aq (λ_ _=>Z)) ao aC) ak)) ao b7)) (aa (pv 2) ao aj) aV)))),?_⟩;obtain⟨dx,tn,ti,to,hp,h2,h3,h4⟩:=id hP.ex;match ws,lw with
 | [v,v1],_=>
  have fin:∀H' L rs,aO H H'->H L=none->H' L=some (.lst (rs.map V.ref))->fD H' rs (Ja (cu 9 ns [v,v1] kp))->∀U,H' U=none->Q (.ref U) (upd H' U (.tup [.ref L,.int (gA 9 [v,v1] kp)])):=Ci k;exact⟨_,Z,a,_,1,_,Z,Z,hS,Z,dX,λt0 n0=>⟨one_le,λL nL=>⟨_,Z,dX,λU nU=>xW (Q:=λx H'=>∀U,H' U=none->Q (.ref U) (upd H' U (.tup [x,.int (gA 9 [v,v1] kp)]))) Z Z fin n0 nL U nU⟩⟩⟩
theorem Af (T:Txt w K mg t):FO P w K mg base 1 t.mY ["self", "values", "kept"] (d7 K t 10):=by
 have sc:=T.jQ.sc ["self", "values", "kept"];refine T.jQ.F.ok sc ln (λ_ _ _ _ H vs Q E hr h=>?_);obtain⟨p,a,nm,ns,is,os,ws,kp,rfl,hP,ln,hS,lw,hB,k⟩:=h;refine⟨_,(aA (aQ (bV (aa (bj (aa (bV (aa (aX bR (aU aR (pv 1) aq (λ_ _=>Z)) aq) (aa (aU aR (pv 1) aq (λ_ _=>Z)) ao aC) bO)) ao b7)) (aa (pv 2) ao aj) aV)))),?_⟩;obtain⟨dx,tn,ti,to,hp,h2,h3,h4⟩:=id hP.ex;match ws,lw with
 | [v,v1],_=>
  have fin:∀H' L rs,aO H H'->H L=none->H' L=some (.lst (rs.map V.ref))->fD H' rs (Ja (cu 10 ns [v,v1] kp))->∀U,H' U=none->Q (.ref U) (upd H' U (.tup [.ref L,.int (gA 10 [v,v1] kp)])):=Ci k;exact⟨_,Z,a,_,0,_,Z,Z,hS,Z,_,_,Z,Z,by show(0:Int) <2;decide,_,Z,a,_,1,_,Z,Z,hS,Z,dX,λt0 n0=>⟨one_le,λL nL=>⟨_,Z,dX,λU nU=>xW (Q:=λx H'=>∀U,H' U=none->Q (.ref U) (upd H' U (.tup [x,.int (gA 10 [v,v1] kp)]))) Z Z fin n0 nL U nU⟩⟩⟩
theorem Cz (T:Txt w K mg t):FO P w K mg base 1 t.pU ["self", "values", "kept"] (d7 K t 0):=by
 have sc:=T.kY.sc ["self", "values", "kept"];refine T.kY.F.ok sc ln (λ_ _ _ _ H vs Q E hr h=>?_);obtain⟨p,a,nm,ns,is,os,ws,kp,rfl,hP,ln,hS,lw,hB,k⟩:=h;refine⟨_,(aA (aQ (bV (aa (bj (aa (bV (aa aq (aa (aU aR (pv 1) aq (λ_ _=>Z)) ao aC) ak)) ao b7)) (aa (pv 2) ao aj) aV)))),?_⟩;obtain⟨dx,tn,ti,to,hp,h2,h3,h4⟩:=id hP.ex;match ws,lw with
 | [v],_=>
  have fin:∀H' L rs,aO H H'->H L=none->H' L=some (.lst (rs.map V.ref))->fD H' rs (Ja (cu 0 ns [v] kp))->∀U,H' U=none->Q (.ref U) (upd H' U (.tup [.ref L,.int (gA 0 [v] kp)])):=Ci k;exact⟨_,Z,a,_,0,_,Z,Z,hS,Z,dX,λt0 n0=>⟨one_le,λL nL=>⟨_,Z,dX,λU nU=>xW (Q:=λx H'=>∀U,H' U=none->Q (.ref U) (upd H' U (.tup [x,.int (gA 0 [v] kp)]))) Z Z fin n0 nL U nU⟩⟩⟩
theorem Cg (T:Txt w K mg t):FO P w K mg base 1 t.pW ["self", "values", "kept"] (d7 K t 1):=by
 have sc:=T.kI.sc ["self", "values", "kept"];refine T.kI.F.ok sc ln (λ_ _ _ _ H vs Q E hr h=>?_);obtain⟨p,a,nm,ns,is,os,ws,kp,rfl,hP,ln,hS,lw,hB,k⟩:=h;refine⟨_,(aA (aQ (bV (aa (bj ao) (aa (pv 2) ao aj) aV)))),?_⟩;obtain⟨dx,tn,ti,to,hp,h2,h3,h4⟩:=id hP.ex;match ws,lw with
 | [v],_=>
  have fin:∀H' L rs,aO H H'->H L=none->H' L=some (.lst (rs.map V.ref))->fD H' rs (Ja (cu 1 ns [v] kp))->∀U,H' U=none->Q (.ref U) (upd H' U (.tup [.ref L,.int (gA 1 [v] kp)])):=Ci k;exact⟨by show 0<=sizeLine;decide,λL nL=>⟨_,Z,dX,λU nU=>fin _ L [] (aB nL) nL az .nil U nU⟩⟩
inductive z8 (vs:List V) (H:Hp) (Q:VK) (E:XK):Prop where
 | mk:∀a b:Int,vs=[.int a,.int b]->Q (.int (bD a b)) H->z8 vs H Q E
theorem aM (T:Txt w K mg t):FO P w K mg base 1 t.Br ["_law_cell_here", "_law_k"] (z8):=by
 have sc:=T.aN.sc ["_law_cell_here", "_law_k", "_law_number"];refine T.aN.F.ok sc ln (λ_ _ _ _ H vs Q E hr h=>?_);obtain⟨a,b,rfl,k⟩:=h;refine⟨_,(au (sN sc 2 (aX bR (aX dG (aX dG (aX pA (aX bR (pv 0) aq) aq) (aX pA aq (pv 1))) aq) aq))
  (au (sN sc 2 (aX bR (aX pA (pv 2) (pv 2)) aq))
  (aA (aQ (aX bR (aX pA (aX dG (pv 2) (aX pA aq (pv 1))) (pv 2)) aq))))),?_⟩
 refine⟨_,Z,_,_,Z,Z,by show(0:Int) <2147483647;decide,_,_,Z,Z,HR,_,Z,_,_,Z,Z,ph,_,_,Z,Z,_,_,Z,Z,_,_,Z,Z,by show(0:Int) <2147483647;decide,?_⟩;unfold bD at k;have y0:0<=(a % 2147483647 * 48271+7919 * b+11) % 2147483647:=emod_nonneg _ (by decide);have y1:(a % 2147483647 * 48271+7919 * b+11) % 2147483647 <2147483647:=emod_lt_of_pos _ (by decide);refine⟨_,Z,_,Z,_,_,Z,Z,.of_right (intBits_le_64 (Int.lt_of_lt_of_le (show -(2 ^ 64) <(0:Int) by decide) y0) (Int.lt_trans y1 (by decide))),_,_,Z,Z,by show(0:Int) <2147483629;decide,?_⟩;have z0:0<=((a % 2147483647 * 48271+7919 * b+11) % 2147483647) * ((a % 2147483647 * 48271+7919 * b+11) % 2147483647) % 2147483629:=emod_nonneg _ (by decide);have z1:((a % 2147483647 * 48271+7919 * b+11) % 2147483647) * ((a % 2147483647 * 48271+7919 * b+11) % 2147483647) % 2147483629 <2147483629:=emod_lt_of_pos _ (by decide);exact⟨_,Z,_,Z,_,_,Z,Z,ph,_,_,Z,Z,_,Z,_,_,Z,Z,.of_right (intBits_le_64 (Int.lt_of_lt_of_le (show -(2 ^ 64) <(0:Int) by decide) z0) (Int.lt_trans z1 (by decide))),_,_,Z,Z,by show(0:Int) <2147483587;decide,k⟩
inductive wM (K:Fr) (vs:List V) (H:Hp) (Q:VK) (E:XK):Prop where
 | mk:∀(a:Addr) (ns:List Int) (j:Nat),vs=[.ref a,.int (j:Nat)]->bT K H a (ns.map V.int)->Q (.int (jU ns j)) H->wM K vs H Q E
theorem je (T:Txt w K mg t):FO P w K mg base 1 t.zx ["_law_script", "_law_k"] (wM K):=by
 have sc:=T.f9.sc ["_law_script", "_law_k"];refine T.f9.F.ok sc ln (λ_ _ _ _ H vs Q E hr h=>?_);obtain⟨a,ns,j,rfl,hS,k⟩:=h;refine⟨_,(au (bQ (bf rM (pv 1) (aY bN (by rfl) T.eE cL (aa (pv 0) ao aj)) (bH _))
   (aA (aQ (aU aR (pv 0) (pv 1) (λ_ _=>rfl))))
   bw)
  (aA (aQ (aX dG (aX pA aq (pv 1)) aq)))),?_⟩
 unfold jU at k;refine⟨_,Z,_,Z,.ref a,ns.length,Z,.inl ⟨_,hS,by simp⟩,_,_,Z,Z,_,Z,iD (λh=>?_) (λh=>?_)⟩
 ·have h':j <ns.length:=by have:=of_decide_eq_true h;lia
  rw [getElem?_eq_getElem h'] at k;exact⟨_,rfl,_,rfl,a,_,j,_,rfl,rfl,hS,aJ (by rw [getElem?_map,getElem?_eq_getElem h'];rfl),k⟩
 ·have h':¬j <ns.length:=λz=>h (decide_eq_true (by lia));rw [getElem?_eq_none (by lia)] at k;exact⟨_,Z,_,_,Z,Z,ph,_,_,Z,Z,k⟩
inductive vD (vs:List V) (H:Hp) (Q:VK) (E:XK):Prop where
 | mk:∀a b:Int,vs=[.int a,.int b]->Q (.int (qI a b)) H->vD vs H Q E
theorem gU (T:Txt w K mg t):FO P w K mg base 2 t.wX ["_law_cell_here", "_law_k"] (vD):=by
 have sc:=T.fJ.sc ["_law_cell_here", "_law_k", "_law_number", "_law_way"];refine T.fJ.F.ok sc ln (λ_ _ _ _ H vs Q E hr h=>?_);obtain⟨a,b,rfl,k⟩:=h;refine⟨_,(au (sN sc 2 (dB (aM T) T.aN hr (aa (pv 0) (aa (pv 1) ao aj) aj)))
  (au (sN sc 3 (aX bR (aX Q0 (pv 2) aq) aq))
  (au (bQ (bf fO (pv 3) aq (bH _))
   (aA (aQ (aX bR (pv 2) aq)))
   bw)
  (au (bQ (bf fO (pv 3) aq (bH _))
   (aA (aQ (aX bR (pv 2) (aX Iv aq aq))))
   bw)
  (aA (aQ (aX CG (aX CG (aX Iv aq aq) aq) (aX bR (pv 2) aq)))))))),?_⟩
 refine⟨_,Z,_,Z,a,b,Z,?_⟩;unfold qI at k;have n0:=zN a b;generalize bD a b=n at n0 k ⊢;refine⟨_,Z,_,_,Z,Z,Y8 (by decide) (by decide),_,_,Z,Z,by show(0:Int) <3;decide,?_⟩;refine⟨_,Z,Z,_,Z,iD (λh=>?_) (λh=>?_)⟩
 ·have h':n / 7 % 3=0:=by simpa using of_decide_eq_true h
  rw [if_pos h'] at k;exact⟨_,Z,_,_,Z,Z,by show(0:Int) <5;decide,k⟩
 have h':¬n / 7 % 3=0:=λz=>h (decide_eq_true (by show V.int (n / 7 % 3)=V.int 0;rw [z]));rw [if_neg h'] at k;refine⟨_,Z,Z,_,Z,iD (λh2=>?_) (λh2=>?_)⟩
 ·have h2':n / 7 % 3=1:=by simpa using of_decide_eq_true h2
  rw [if_pos h2'] at k;exact⟨_,Z,_,_,Z,Z,⟨by decide,by decide,by decide⟩,_,_,Z,Z,by show(0:Int) <10 ^ 9;decide,k⟩
 have h2':¬n / 7 % 3=1:=λz=>h2 (decide_eq_true (by show V.int (n / 7 % 3)=V.int 1;rw [z]));rw [if_neg h2'] at k;exact⟨_,_,Z,Z,⟨by decide,by decide,by decide⟩,_,_,Z,Z,_,Z,_,_,Z,Z,by show(0:Int) <3;decide,_,_,Z,Z,k⟩
theorem Nv {x y:Str} (h:x.cps.toList=y.cps.toList):x=y:=PyProof.Rows.ext_toList h
theorem Pa {n:Int} (h0:0<=n) (h1:n <2000):n.natAbs.log2 <1920:=by
 by_cases z:n.natAbs=0
 ·rw [z];decide
 ·have:n.natAbs.log2 <11:=(Nat.log2_lt z).mpr (by lia)
  lia
theorem join_ones (cs:List Nat):(Txt.join Str.empty (cs.map λc=>(⟨#[c]⟩:Str))).cps.toList=cs:=by
 unfold Txt.join;rw [StrLaws.glued_eq_join,Bx];induction cs with
 | nil=>rfl
 | cons c r ih=>simpa using ih
theorem XQ {x:Str} {n:Nat} (h:n<=x.length):(Txt.slice x none (some (n:Int))).cps.toList=x.cps.toList.take n:=by have e:=beq_iff_eq.mp (PyProof.Rows.slice_closes_toL (x:=x) (j:=(n:Int)) (by lia) (by lia));rw [e];simp
theorem Rq {x:Str} {n:Nat} (h:n<=x.length):(Txt.slice x (some (n:Int)) none).cps.toList=x.cps.toList.drop n:=by have e:=PyProof.Rows.slice_from_eq (x:=x) (i:=(n:Int)) (b:=(x.length:Int)) (by lia) (by lia) rfl;rw [e];show List.take ((x.length:Int) - n).toNat (List.drop ((n:Int)).toNat x.cps.toList)=_;rw [toNat_natCast,take_of_length_le (by rw [length_drop,mK];lia)]
inductive wW (vs:List V) (H:Hp) (Q:VK) (E:XK):Prop where
 | mk:∀(a:Int) (b:Nat),vs=[.int a,.int (b:Nat)]->b<=25->(∀H':Hp,aO H H'->Q (.str (cJ a b)) H')->wW vs H Q E
noncomputable abbrev zQ:List Str:=["_law_cell_here", "_law_k", "_law_letters", "_law_many", "_law_base", "_law_at"]
theorem lY (T:Txt w K mg t):FO P w K mg base 2 t.zy ["_law_cell_here", "_law_k"] (wW):=by
 have sc:=T.jF.sc zQ;refine T.jF.F.ok sc ln (λ_ _ _ _ H vs Q E hr h=>?_);obtain⟨a,b,rfl,b1,k⟩:=h;refine⟨_,(au (sN sc 2 bA)
  (au (bQ (bf fO (aX bR (dB (aM T) T.aN hr (aa (pv 0) (aa aq ao ak) aj)) aq) aq (bH _))
   (aA (aQ (aX ww (aU BZ (pv 2) (aX bR (dB (aM T) T.aN hr (aa (pv 0) (aa aq ao ak) aj)) aq) (λ_ _=>rfl)) (dM G8 (by rfl) T.Wc RP (aa (aX dG (aX bR (dB (aM T) T.aN hr (aa (pv 0) (aa aq ao ak) aj)) aq) (aX pA aq (pv 1))) ao bO)))))
   bw)
  (au (sN sc 3 (aX bR (dB (aM T) T.aN hr (aa (pv 0) (aa aq ao ak) aj)) aq))
  (au (sN sc 4 (z7 PySem.F.plainAttrs_str PySem.F.slot_str_join PySem.F.type_str_join Vl bA (aa (gP [0,2] zQ (bh (top 68)) rfl (jB rfl T.lX (aa (pv 3) ao aj)) (λ_ _ _ _ _=>jw) (λ_ _ _ _ _=>(aU BZ (pv 2) (aX bR (dB (aM T) T.aN hr (aa (pv 1) (aa (aX dG aq (pv 0)) ao bO) aj)) aq) (λ_ _=>rfl)))) ao fL)))
  (au (sN sc 5 (aX bR (dB (aM T) T.aN hr (aa (pv 0) (aa aq ao ak) aj)) (aX dG (pv 3) aq)))
  (aA (aQ (aX ww (aX ww (qm Rn (pv 4) uP (uV (pv 5))) (aU BZ (pv 2) (aX bR (aX dG (dB (aM T) T.aN hr (aa (pv 0) (aa aq ao ak) aj)) (pv 1)) aq) (λ_ _=>rfl))) (qm Rn (pv 4) (uV (pv 5)) uP))))))))),?_⟩
 have hl:sizeLine=16777216:=sizeLine_eq;have hF:(cJ a b).cps.toList=zr a b:=BV a b;unfold zr at hF;refine⟨_,Z,_,_,Z,⟨_,_,Z,Z,by show(0:Int) <3;decide,Z,_,Z,iD (λhw=>?_) (λhw=>?_)⟩⟩
 ·have hw':bD a 52 % 3=0:=by simpa using of_decide_eq_true hw
  rw [if_pos hw'] at hF;refine⟨_,Z,_,Z,_,_,Z,?_⟩;refine⟨_,_,Z,Z,by show(0:Int) <26;decide,LT,_,_,Z,Z,by rw [KC];lia,Tp _,?_⟩;refine⟨_,Z,_,_,Z,⟨_,_,Z,Z,by show(0:Int) <1000;decide,_,Z,_,_,Z,Z,ph,_,_,Z,Z,?_⟩⟩;have q0:=emod_nonneg (bD a 54) (show(1000:Int)≠0 by decide);have q1:=emod_lt_of_pos (bD a 54) (show(0:Int) <1000 by decide);obtain⟨m,hm⟩:∃m:Nat,bD a 54 % 1000+37 * (b:Int)=(m:Int):=⟨(bD a 54 % 1000+37 * (b:Int)).toNat,by lia⟩;obtain⟨_,g2,_⟩:=uM (n:=m) (by lia);have g3:(toString (m:Int):Str).length<=4:=by rw [<-mK];exact g2
  have e:(⟨#[JN (bD a 53)]⟩:Str) ++ (toString (m:Int):Str)=cJ a b:=Nv (by rw [hF,Str.cps_append,hm,toNat_natCast];simp only [Array.toList_append];rfl)
  have k':=k H (aO.refl _);rw [<-e] at k';dsimp only;rw [hm];exact⟨_,Z,Pa (by lia) (by lia),_,_,Z,Z,by show 1+_<=sizeLine;lia,k'⟩
 have hw':¬bD a 52 % 3=0:=λz=>hw (decide_eq_true (by show V.int (bD a 52 % 3)=V.int 0;rw [z]));rw [if_neg hw'] at hF;refine⟨_,Z,_,_,Z,⟨_,_,Z,Z,by show(0:Int) <7;decide,?_⟩⟩;have z0:=emod_nonneg (bD a 50) (show(7:Int)≠0 by decide);have z1:=emod_lt_of_pos (bD a 50) (show(0:Int) <7 by decide);refine⟨Z,_,Z,bD a 50 % 7,Z,by lia,by lia,?_⟩;refine j6 (λi ys H'=>H'=H/\ys=((List.range i).map λj=>JN (bD a (60+(j:Nat)))).map λc=>V.str ⟨#[c]⟩) (by lia) ⟨Z,Z⟩ (λi ys H' ⟨_,e⟩=>by rw [e,lM,lM,length_range];lia) ?_ ?_
 ·rintro i ys H' hi ⟨rfl,rfl⟩;refine yes ?_;refine⟨_,Z,_,Z,_,Z,_,_,Z,Z,_,_,Z,?_⟩;refine⟨_,_,rfl,rfl,by show(0:Int) <26;decide,LT,_,_,rfl,rfl,by rw [KC];lia,Tp _,rfl,?_⟩;rw [range_succ,map_append,map_append];simp
 rintro ys H' ⟨rfl,rfl⟩ D hD;have eb:((List.range (bD a 50 % 7).toNat).map λj=>JN (bD a (60+(j:Nat))))=gf a:=rfl;rw [eb];have s1:aO H' (upd H' D (.lst ((gf a).map λc=>V.str ⟨#[c]⟩))):=aB hD;have bl:=(DP a).1;have es:((gf a).map λc=>V.str ⟨#[c]⟩)=((gf a).map λc=>(⟨#[c]⟩:Str)).map V.str:=by rw [map_map];rfl
 refine⟨Str.empty,D,(gf a).map λc=>(⟨#[c]⟩:Str),Z,Z,bT.of (by rw [<-es];exact az),?_,?_⟩
 ·have:=QT (n:=1) ((gf a).map λc=>(⟨#[c]⟩:Str)) λw h=>by obtain⟨c,_,rfl⟩:=mem_map.mp h;exact le_refl 1
  have he:Str.empty.length=0:=rfl;rw [he];rw [lM] at this
  lia
 have ej:=join_ones (gf a);generalize upd H' D (.lst ((gf a).map λc=>V.str ⟨#[c]⟩))=H1 at s1 ⊢;generalize Txt.join Str.empty ((gf a).map λc=>(⟨#[c]⟩:Str))=x0 at ej ⊢;have hx0:x0.length=(gf a).length:=by rw [<-mK,ej]
 refine⟨_,Z,_,_,Z,⟨_,Z,_,_,Z,Z,_,_,Z,Z,by show(0:Int) <bD a 50 % 7+1;lia,?_⟩⟩;have hsp:=Oa a;obtain⟨n,hn,hn2⟩:∃n:Nat,bD a 51 % (bD a 50 % 7+1)=(n:Int)/\n=oJ a:=⟨oJ a,(Int.toNat_of_nonneg (emod_nonneg _ (by lia))).symm,rfl⟩;rw [<-hn2] at hsp hF;dsimp only;rw [hn];have s0:=Txt.slice_le x0 none (some (n:Int));have s2:=Txt.slice_le x0 (some (n:Int)) none;refine⟨_,Z,_,Z,_,Z,x0,Z,by lia,_,Z,_,Z,_,_,Z,⟨_,Z,_,_,Z,Z,?_⟩⟩;have h1:(⟨#[JN (bD a 55+(b:Int))]⟩:Str).length=1:=rfl;refine⟨_,_,rfl,rfl,by show(0:Int) <26;decide,LT,_,_,rfl,rfl,by rw [KC];lia,Tp _,_,_,rfl,rfl,by rw [h1];lia,?_⟩;refine⟨_,Z,_,Z,_,Z,x0,Z,by lia,_,_,Z,Z,by rw [Str.length_append,h1];lia,?_⟩;have e:Txt.slice x0 none (some (n:Int)) ++ (⟨#[JN (bD a 55+(b:Int))]⟩:Str) ++ Txt.slice x0 (some (n:Int)) none=cJ a b:=Nv (by rw [hF,Str.cps_append,Str.cps_append];simp only [Array.toList_append];rw [XQ (by lia),Rq (by lia),ej];simp)
 rw [e];exact k H1 s1
theorem YF (m:Int):∃c:Nat,IW [V.int 0,.int 0,.int 0,.int 1,.int 2] (m % 5)=some (.int (c:Nat))/\c<=2:=by
 have key:∀j,j <5->IW [V.int 0,.int 0,.int 0,.int 1,.int 2] ((j:Nat):Int)=some (.int (([0,0,0,1,2]:List Nat).getD j 0:Nat))/\([0,0,0,1,2]:List Nat).getD j 0<=2:=by decide +kernel
 obtain⟨j,e,hj⟩:=Ln m (n:=5) (k:=5) (by decide) rfl;rw [e];exact⟨_,key j hj⟩
theorem Zh (m:Int):∃c:Nat,IW [V.int 0,.int 0,.int 1,.int 1,.int 2,.int 7] (m % 6)=some (.int (c:Nat))/\c<=7:=by
 have key:∀j,j <6->IW [V.int 0,.int 0,.int 1,.int 1,.int 2,.int 7] ((j:Nat):Int)=some (.int (([0,0,1,1,2,7]:List Nat).getD j 0:Nat))/\([0,0,1,1,2,7]:List Nat).getD j 0<=7:=by decide +kernel
 obtain⟨j,e,hj⟩:=Ln m (n:=6) (k:=6) (by decide) rfl;rw [e];exact⟨_,key j hj⟩
inductive xZ (vs:List V) (H:Hp) (Q:VK) (E:XK):Prop where
 | mk:∀(d:Dw) (ls:List aK) (ps:List PD) (os:List Str) (c:Int) (b:Bool),vs=[.ref d.S,.int c,.bl b]->lZ d H ls ps os->ls.length<=24->(∀(l:aK) (H':Hp),l.name=cJ d.c3 ls.length->aO (bL d.E H) (bL d.E H')->lZ d H' (ls ++ [l]) ps os->Q (.str l.name) H')->xZ vs H Q E
noncomputable abbrev zG:List Str:=["_law_state", "_law_cell_here", "_law_back", "_law_many", "_law_first", "_law_room", "_law_name"]
theorem jN (T:Txt w K mg t):FO P w K mg base 3 t.zX ["_law_state", "_law_cell_here", "_law_back"] (xZ):=by
 have sc:=T.iI.sc zG;refine T.iI.F.ok sc ln (λ_ _ _ _ H vs Q E hr h=>?_);obtain⟨d,ls,ps,os,c,b,rfl,D,hn,k⟩:=h;refine⟨_,(au (sN sc 3 (aU aR (bj (aa aq (aa aq (aa aq (aa aq (aa aq ao ak) ak) ak) ak) ak)) (aX bR (dB (aM T) T.aN hr (aa (pv 1) (aa aq ao ak) aj)) aq) (λ_ _=>Z)))
  (au (eO (bQ (fU (pv 2))
   (aA (sN sc 3 (aX bR (dB (aM T) T.aN hr (aa (pv 1) (aa aq ao ak) aj)) aq)))
   bw))
  (au (m9 (i:=4) [1] zG (bh (top 69)) rfl sc.nd rfl (jB rfl T.lX (aa (pv 3) ao aj)) (λ_ _ _ _ _=>jw) (λ_ _ _ _ _=>(dB (gU T) T.fJ hr (aa (pv 1) (aa (aX dG aq (pv 0)) ao bO) aj))))
  (au (sN sc 5 (aX dG (aY (Fv rfl) (by rfl) T.Q5 Ly (aa aq (aa (pv 3) ao aj) ak)) (aU aR (bj (@aa _ _ _ _ _ aq (@aa _ _ _ _ _ aq (@aa _ _ _ _ _ aq (@aa _ _ _ _ _ aq (@aa _ _ _ _ _ aq (@aa _ _ _ _ _ aq ao ak) ak) ak) ak) ak) ak)) (aX bR (dB (aM T) T.aN hr (aa (pv 1) (aa aq ao ak) aj)) aq) (λ_ _=>rfl))))
  (au (sN sc 6 (dB (lY T) T.jF hr (aa (aU aR (pv 0) aq (λ_ _=>rfl)) (aa (aY bN (by rfl) T.eE cL (aa (aU aR (pv 0) aq (λ_ _=>rfl)) ao aC)) ao bc) aC)))
  (au (bK (Jv (aU aR (pv 0) aq (λ_ _=>rfl)) (aa (bV (aa (pv 6) (aa (pv 5) (aa (pv 4) ao aj) aj) aj)) ao b7)))
  (aA (aQ (pv 6))))))))),?_⟩
 have hl:sizeLine=16777216:=sizeLine_eq;refine⟨by show 5<=sizeLine;lia,λl0 n0=>?_⟩;have s0:=aB (o:=.lst [.int 0,.int 0,.int 0,.int 1,.int 2]) n0;obtain⟨c0,e0,h0⟩:=YF (bD c 1);refine⟨_,Z,_,_,Z,_,_,Z,Z,by show(0:Int) <5;decide,l0,_,_,_,Z,Z,bT.of az,e0,?_⟩;generalize upd H l0 (.lst [.int 0,.int 0,.int 0,.int 1,.int 2])=H0 at s0 ⊢;refine⟨λσ H1=>∃m:Nat,m<=3/\H1=H0/\σ=[some (.ref d.S),some (.int c),some (.bl b),some (.int (m:Nat)),none,none,none],?_,?_⟩
 ·cases b
  ·exact⟨_,Z,false,Z,cQ ⟨c0,by lia,Z,Z⟩⟩
  ·refine⟨_,Z,true,Z,fc ⟨_,Z,_,_,Z,_,_,Z,Z,by show(0:Int) <4;decide,?_⟩⟩;have h1:=emod_nonneg (bD c 1) (show(4:Int)≠0 by decide);have h2:=emod_lt_of_pos (bD c 1) (show(0:Int) <4 by decide);refine⟨(bD c 1 % 4).toNat,by lia,Z,?_⟩;rw [Int.toNat_of_nonneg h1];rfl
 rintro σ H1 ⟨m,hm,rfl,rfl⟩;refine⟨_,Z,(m:Int),Z,by lia,by lia,?_⟩;rw [toNat_natCast];refine j6 (λi ys H'=>H'=H1/\∃ws:List Int,ys=ws.map V.int/\ws.length=i/\∀v∈ws,0<=v/\v <1000000000) (by lia) ⟨Z,[],Z,Z,by simp⟩ (λi ys H' ⟨_,ws,e,e2,_⟩=>by rw [e,lM];lia) ?_ ?_
 ·rintro i ys H' hi ⟨rfl,ws,rfl,hw,hB⟩;refine yes ⟨_,Z,_,Z,_,_,Z,Z,c,10+(0+(i:Int)),Z,Z,ws ++ [qI c (10+(0+(i:Int)))],by simp,by simp [hw],λv hv=>?_⟩;rcases mem_append.mp hv with hv | hv
  ·exact hB v hv
  ·rw [mem_singleton] at hv;subst hv;exact uO _ _
 rintro ys H' ⟨rfl,ws,rfl,hw,hB⟩ F nF;have t1:=aB (o:=.lst (ws.map V.int)) nF;have sF:=s0.trans t1;have eF:upd H' F (.lst (ws.map V.int)) F=some (.lst (ws.map V.int)):=az;have oF:F∉d.E:=D.out (s0.free nF);generalize upd H' F (.lst (ws.map V.int))=H2 at t1 sF eF ⊢;refine⟨_,Z,_,_,Z,by show 6<=sizeLine;lia,λl1 n1=>?_⟩;have t2:=aB (o:=.lst [.int 0,.int 0,.int 1,.int 1,.int 2,.int 7]) n1;obtain⟨c1,e1,h1⟩:=Zh (bD c 2);refine⟨_,Z,_,_,Z,_,_,Z,Z,by show(0:Int) <6;decide,l1,_,_,_,Z,Z,bT.of az,e1,_,_,Z,Z,?_⟩;have s2:=sF.trans t2;have eF2:=t2 _ _ eF;generalize upd H2 l1 (.lst [.int 0,.int 0,.int 1,.int 1,.int 2,.int 7])=H3 at t2 s2 eF2 ⊢;have D3:=D.keep s2;obtain⟨xs,eL,aL⟩:=D3.lanes;have xl:=aL.length;refine⟨_,Z,d.S,_,3,_,Z,Z,D3.seqS,aJ (j:=3) Z,?_⟩;refine⟨_,Z,d.S,_,0,_,Z,Z,D3.seqS,aJ (j:=0) Z,.ref d.L,ls.length,Z,.inl ⟨_,bT.of eL,xl.symm⟩,?_⟩;refine⟨d.c3,ls.length,Z,by lia,λH4 s4=>?_⟩;have D4:=D3.keep s4;have eL4:=s4 _ _ eL;have eF4:=s4 _ _ eF2;have s04:=s2.trans s4;refine⟨_,Z,d.S,_,0,_,Z,Z,D4.seqS,aJ (j:=0) Z,?_⟩;refine⟨.inl ⟨Z,_,bT.of eL4⟩,_,Z,_,Z,_,Z,by show 3<=sizeLine;lia,λq nq=>?_⟩;have t5:=aB (o:=.tup [.str (cJ d.c3 ls.length),.int ((if (m:Int) >1 then(m:Int) else 1)+(c1:Int)),.ref F]) nq;have s5:=s04.trans t5;have D5:=D4.keep t5;have oq:q∉d.E:=D4.out nq;have eq:upd H4 q (.tup [.str (cJ d.c3 ls.length),.int ((if (m:Int) >1 then(m:Int) else 1)+(c1:Int)),.ref F]) q=some (.tup [.str (cJ d.c3 ls.length),.int ((if (m:Int) >1 then(m:Int) else 1)+(c1:Int)),.ref F]):=az;have eL5:=t5 _ _ eL4;have eF5:=t5 _ _ eF4;refine⟨d.L,xs,_,Z,Z,eL5,by lia,_,Z,?_⟩;refine k ⟨cJ d.c3 ls.length,(if (m:Int) >1 then(m:Int) else 1)+(c1:Int),ws⟩ _ rfl ?_ (D5.lane ⟨q,F,rfl,dH eq oq,dH eF5 oF⟩ ⟨by dsimp only;split <;> lia,by dsimp only;split <;> lia,by dsimp only;split <;> lia,hB⟩ rfl eL5);rw [cM (by simp)];exact D.cut s5
theorem pop_at:∀{os:List Str} {j:Nat} (h:j <os.length),os.Perm (os[j]:: os.eraseIdx j)
 | [],_,h=>absurd h (by simp)
 | a:: l,0,_=>.refl _
 | a:: l,j+1,h=>by
  have h':j <l.length:=by simpa using h
  show(a:: l).Perm (l[j]:: a:: l.eraseIdx j);exact((pop_at (os:=l) (j:=j) (by simpa using h)).cons a).trans (.swap _ _ _)
theorem Ge {α β:Type} {f:α->β}:∀(l:List α) (j:Nat),(l.map f).eraseIdx j=(l.eraseIdx j).map f
 | [],_=>rfl
 | a:: l,0=>rfl
 | a:: l,j+1=>by show f a:: (l.map f).eraseIdx j=f a:: (l.eraseIdx j).map f;rw [Ge l j]
theorem KQ {j n:Nat} (h:j <n):seqIndex? (j:Int) n=some j:=by
 unfold seqIndex?;have z:¬(j:Int) <0:=by lia
 simp [h,z]
inductive wO (vs:List V) (H:Hp) (Q:VK) (E:XK):Prop where
 | mk:∀(d:Dw) (ls:List aK) (ps:List PD) (os:List Str) (n:Int),vs=[.ref d.S,.int n]->lZ d H ls ps os->os≠[]->os.length<=100->(∀(x:Str) (os':List Str) (H':Hp),os.Perm (x:: os')->aO (bL d.E H) (bL d.E H')->lZ d H' ls ps os'->Q (.str x) H')->wO vs H Q E
theorem rD (T:Txt w K mg t):FO P w K mg base 1 t.zO ["_law_state", "_law_number"] (wO):=by
 have sc:=T.lu.sc ["_law_state", "_law_number"];refine T.lu.F.ok sc ln (λ_ _ _ _ H vs Q E hr h=>?_);obtain⟨d,ls,ps,os,n,rfl,D,hne,hs,k⟩:=h;refine⟨_,(aA (aQ (z7 PySem.F.plainAttrs_list PySem.F.slot_list_pop PySem.F.type_list_pop Cm (aU aR (pv 0) aq (λ_ _=>rfl)) (aa (aX bR (pv 1) (aY bN (by rfl) T.eE cL (aa (aU aR (pv 0) aq (λ_ _=>rfl)) ao aC))) ao bO)))),?_⟩;have hpos:0 <os.length:=List.length_pos_iff.mpr hne;refine⟨_,Z,d.S,_,2,_,Z,Z,D.seqS,aJ (j:=2) Z,.inl ⟨Z,_,bT.of D.opens⟩,?_⟩;refine⟨_,Z,_,Z,d.S,_,2,_,Z,Z,D.seqS,aJ (j:=2) Z,.ref d.O,os.length,Z,.inl ⟨_,bT.of D.opens,by simp⟩,n,(os.length:Int),Z,Z,by lia,?_⟩;have h0:=emod_nonneg n (show(os.length:Int)≠0 by lia);have h1:=emod_lt_of_pos n (show(0:Int) <(os.length:Int) by lia);obtain⟨j,hj⟩:∃j:Nat,n % (os.length:Int)=(j:Int):=⟨(n % (os.length:Int)).toNat,by lia⟩;have hj':j <os.length:=by lia
 refine⟨d.O,_,(j:Int),j,.str os[j],rfl,by show [V.int (n % (os.length:Int))]=_;rw [hj],D.opens,by lia,by lia,by rw [lM];exact KQ hj',by rw [getElem?_map,getElem?_eq_getElem hj'];rfl,?_⟩;rw [Ge];exact k os[j] (os.eraseIdx j) _ (pop_at hj') (by rw [cM (by simp)];exact aO.refl _) D.open
inductive wY (vs:List V) (H:Hp) (Q:VK) (E:XK):Prop where
 | mk:∀(d:Dw) (ls:List aK) (ps:List PD) (os:List Str) (c:Int) (i:Nat) (a1 a2:Addr) (nums:List Int) (ins:List Str) (many:Nat),vs=[.ref d.S,.int c,.str (eU i),.ref a1,.ref a2,.int (many:Nat)]->lZ d H ls ps os->bL d.E H a1=some (.lst (nums.map V.int))->bL d.E H a2=some (.lst (ins.map V.str))->i <11->nums.length=cN i->((∀v∈nums,0<=v/\v <1000000000))->ins.length=cI i->many=cO i->ls.length<=22->ps.length<=25->os.length<=100->(∀(newl:List aK) (H':Hp),newl.length=many->aO (bL d.E H) (bL d.E H')->lZ d H' (ls ++ newl) (ps ++ [⟨i,cJ d.c4 ps.length,nums,ins,newl.map (·.name)⟩]) (os ++ newl.map (·.name))->Q .non H')->wY vs H Q E
noncomputable abbrev zK:List Str:=["_law_state", "_law_cell_here", "_law_kind", "_law_numbers", "_law_ins", "_law_many", "_law_outs"]
theorem cG (T:Txt w K mg t):FO P w K mg base 4 t.zY ["_law_state", "_law_cell_here", "_law_kind", "_law_numbers", "_law_ins", "_law_many"] (wY):=by
 have sc:=T.cz.sc zK;refine T.cz.F.ok sc ln (λ_ _ _ _ H vs Q E hr h=>?_);obtain⟨d,ls,ps,os,c,i,a1,a2,nums,ins,many,rfl,D,e1,e2,hi,hN,hB,hI,hO,hls,hps,hos,k⟩:=h;refine⟨_,(au (m9 (i:=6) [0,1] zK (bh (top 70)) Z sc.nd Z (jB Z T.lX (aa (pv 5) ao aj)) (λ_ _ _ _ _=>jw) (λ_ _ _ _ _=>(dB (jN T) T.iI hr (aa (pv 1) (aa (dB (aM T) T.aN hr (aa (pv 2) (aa (aX dG aq (pv 0)) ao bO) aj)) (aa fB ao ak) bc) aj))))
  (au (bK (Jv (aU aR (pv 0) aq (λ_ _=>rfl)) (aa (bV (aa (pv 2) (aa (dB (lY T) T.jF hr (aa (aU aR (pv 0) aq (λ_ _=>rfl)) (aa (aY bN (by rfl) T.eE cL (aa (aU aR (pv 0) aq (λ_ _=>rfl)) ao aC)) ao bc) aC)) (aa (pv 3) (aa (pv 4) (aa (pv 6) ao aj) aj) aj) bc) aj)) ao b7)))
  (aA (bK (z7 PySem.F.plainAttrs_list PySem.F.slot_list_extend PySem.F.type_list_extend Et (aU aR (pv 0) aq (λ_ _=>rfl)) (aa (pv 6) ao aj)))))),?_⟩
 have hl:sizeLine=16777216:=sizeLine_eq;have hm2:many<=2:=by rw [hO];exact QZ i
 refine⟨_,Z,(many:Int),Z,by lia,by lia,?_⟩;rw [toNat_natCast];refine j6 (λi ys H'=>∃newl:List aK,newl.length=i/\ys=newl.map (λl=>V.str l.name)/\aO (bL d.E H) (bL d.E H')/\lZ d H' (ls ++ newl) ps os) (by lia) ⟨[],Z,Z,aO.refl _,by rw [append_nil];exact D⟩ (λi ys H' ⟨newl,e,e2,_⟩=>by rw [e2,lM];lia) ?_ ?_
 ·rintro j ys H' hj ⟨newl,hn,rfl,s,D'⟩;refine yes ⟨_,Z,_,Z,_,Z,_,_,Z,Z,c,20+(0+(j:Int)),Z,?_⟩;refine⟨d,ls ++ newl,ps,os,_,false,Z,D',by rw [lP];lia,λl H1 _ s1 D1=>?_⟩;exact⟨newl ++ [l],by simp [hn],by simp,s.trans s1,by rw [<-append_assoc];exact D1⟩
 rintro ys H1 ⟨newl,hn,rfl,s1,D1⟩ F nF;have t1:=aB (o:=.lst (newl.map λl=>V.str l.name)) nF;have eF:upd H1 F (.lst (newl.map λl=>V.str l.name)) F=some (.lst ((newl.map (·.name)).map V.str)):=by rw [map_map];exact az
 have oF:=D1.out nF;have D2:=D1.keep t1;have s2:=s1.trans (D1.cut t1);generalize upd H1 F (.lst (newl.map λl=>V.str l.name))=H2 at t1 eF D2 s2 ⊢;obtain⟨xs,eP,aP⟩:=D2.parts;have xl:=aP.length;refine⟨_,Z,d.S,_,1,_,Z,Z,D2.seqS,aJ (j:=1) Z,.inl ⟨Z,_,bT.of eP⟩,?_⟩;refine⟨_,Z,_,Z,d.S,_,4,_,Z,Z,D2.seqS,aJ (j:=4) Z,?_⟩;refine⟨_,Z,d.S,_,1,_,Z,Z,D2.seqS,aJ (j:=1) Z,.ref d.P,ps.length,Z,.inl ⟨_,bT.of eP,xl.symm⟩,?_⟩;refine⟨d.c4,ps.length,Z,by lia,λH3 s3=>?_⟩;have D3:=D2.keep s3;have t3:=s2.trans (D2.cut s3);have eP3:=s3 _ _ eP;have eF3:=s3 _ _ eF;refine⟨_,Z,_,Z,_,Z,by show 5<=sizeLine;lia,λq nq=>?_⟩;have s4:=aB (o:=.tup [.str (eU i),.str (cJ d.c4 ps.length),.ref a1,.ref a2,.ref F]) nq;have D4:=D3.keep s4;have t4:=t3.trans (D3.cut s4);have eP4:=s4 _ _ eP3;have eF4:=s4 _ _ eF3;have oq:=D3.out nq;have eq:upd H3 q (.tup [.str (eU i),.str (cJ d.c4 ps.length),.ref a1,.ref a2,.ref F]) q=some (.tup [.str (eU i),.str (cJ d.c4 ps.length),.ref a1,.ref a2,.ref F]):=az;refine⟨d.P,xs,_,Z,Z,eP4,by lia,?_⟩;generalize upd H3 q (.tup [.str (eU i),.str (cJ d.c4 ps.length),.ref a1,.ref a2,.ref F])=H4 at s4 D4 t4 eP4 eF4 eq ⊢;have D5:=D4.part (p:=⟨i,cJ d.c4 ps.length,nums,ins,newl.map (·.name)⟩) ⟨q,a1,a2,F,rfl,dH eq oq,t4 _ _ e1,t4 _ _ e2,dH eF4 oF⟩ ⟨hi,hN,hI,by show(newl.map _).length=_;rw [lM,hn];exact hO,hB⟩ rfl eP4;have hcu:bL d.E (upd H4 d.P (.lst (xs ++ [.ref q])))=bL d.E H4:=cM (by simp);have eF5:upd H4 d.P (.lst (xs ++ [.ref q])) F=some (.lst ((newl.map (·.name)).map V.str)):=by rw [aH (λz=>oF (by rw [z];simp))];exact eF4
 generalize upd H4 d.P (.lst (xs ++ [.ref q]))=H5 at D5 hcu eF5 ⊢;refine⟨_,Z,d.S,_,2,_,Z,Z,D5.seqS,aJ (j:=2) Z,.inl ⟨Z,_,bT.of D5.opens⟩,?_⟩;refine⟨_,Z,d.O,F,_,_,Z,Z,D5.opens,eF5,by rw [lM,lM,lM];lia,?_⟩;rw [<-map_append];exact k newl _ hn (by rw [cM (by simp),hcu];exact t4) D5.open
theorem Wv (m:Int):∃i:Nat,IW [V.str "add",V.str "less"] (m % 2)=some (.str (eU i))/\(i=6∨i=7):=by
 have h0:=emod_nonneg m (show(2:Int)≠0 by decide);have h1:=emod_lt_of_pos m (show(0:Int) <2 by decide);have:m % 2=0∨m % 2=1:=by lia
 rcases this with e | e <;> rw [e]
 ·exact⟨6,Z,.inl Z⟩
 ·exact⟨7,Z,.inr Z⟩
theorem Kd {one other:Str} {os os1:List Str} (h:os.Perm (other:: os1)):(one:: os).Perm ([one,other] ++ os1):=h.cons one
theorem YZ {one other third:Str} {os os1 os2:List Str} (h:os.Perm (other:: os1)) (h2:os1.Perm (third:: os2)):(one:: os).Perm ([one,other,third] ++ os2):=(h.trans (h2.cons other)).cons one
inductive z9 (vs:List V) (H:Hp) (Q:VK) (E:XK):Prop where
 | mk:∀(d:Dw) (ls:List aK) (ps:List PD) (os:List Str) (c:Int) (one:Str) (back:List Str) (odd:Bool),vs=[.ref d.S,.int c,.str one,.bl odd]->lZ d H ls ps os->Drawn.WF (uF ls ps (one:: os) back)->os≠[]->os.length<=3->ls.length<=20->ps.length<=22->(∀ls' ps' os' H',Nxt d H H' ls ps back ls' ps' os'->Q .non H')->z9 vs H Q E
theorem Jd (T:Txt w K mg t):FO P w K mg base 5 t.Bm ["_law_state", "_law_cell_here", "_law_one", "_law_odd"] (z9):=by
 have sc:=T.vX.sc ["_law_state", "_law_cell_here", "_law_one", "_law_odd", "_law_other", "_law_way", "_law_third"];refine T.vX.F.ok sc ln (λ_ _ _ _ H vs Q E hr h=>?_);obtain⟨d,ls,ps,os,c,one,back,odd,rfl,D,w,hne,ho,hls,hps,k⟩:=h;refine⟨_,(au (sN sc 4 (dB (rD T) T.lu hr (aa (pv 0) (aa (dB (aM T) T.aN hr (aa (pv 1) (aa aq ao ak) aj)) ao bc) aj)))
  (au (sN sc 5 (aX bR (dB (aM T) T.aN hr (aa (pv 1) (aa aq ao ak) aj)) aq))
  (aA (eO (bQ (PW.pt (uc (fU (pv 3)) (uc (bf rM (pv 5) aq (bH _)) (qR (bf Ca (aY bN (by rfl) T.eE cL (aa (aU aR (pv 0) aq (λ_ _=>rfl)) ao aC)) aq (bH _))))))
   (au (sN sc 6 (dB (rD T) T.lu hr (aa (pv 0) (aa (dB (aM T) T.aN hr (aa (pv 1) (aa aq ao ak) aj)) ao bc) aj)))
   (aA (bK (dB (cG T) T.cz hr (@aa _ _ _ _ _ (pv 0) (@aa _ _ _ _ _ (pv 1) (@aa _ _ _ _ _ bA (@aa _ _ _ _ _ (bj ao) (@aa _ _ _ _ _ (bj (aa (pv 2) (aa (pv 4) (aa (pv 6) ao aj) aj) aj)) (@aa _ _ _ _ _ aq ao ak) aV) aV) ak) aj) aj)))))
   (aA (eO (bQ (PW.pt (uc (fU (pv 3)) (qR (bf rM (pv 5) aq (bH _)))))
    (aA (bK (dB (cG T) T.cz hr (@aa _ _ _ _ _ (pv 0) (@aa _ _ _ _ _ (pv 1) (@aa _ _ _ _ _ bA (@aa _ _ _ _ _ (bj ao) (@aa _ _ _ _ _ (bj (aa (pv 2) (aa (pv 4) ao aj) aj)) (@aa _ _ _ _ _ aq ao ak) aV) aV) ak) aj) aj))))
    (aA (eO (bQ (bf fO (aX bR (pv 5) aq) aq (bH _))
     (aA (bK (dB (cG T) T.cz hr (@aa _ _ _ _ _ (pv 0) (@aa _ _ _ _ _ (pv 1) (@aa _ _ _ _ _ bA (@aa _ _ _ _ _ (bj ao) (@aa _ _ _ _ _ (bj (aa (pv 2) (aa (pv 4) ao aj) aj)) (@aa _ _ _ _ _ aq ao ak) aV) aV) ak) aj) aj))))
     (aA (bK (dB (cG T) T.cz hr (@aa _ _ _ _ _ (pv 0) (@aa _ _ _ _ _ (pv 1) (@aa _ _ _ _ _ (aU aR (bj (aa bA (aa bA ao ak) ak)) (aX bR (pv 5) aq) (λ_ _=>rfl)) (@aa _ _ _ _ _ (bj ao) (@aa _ _ _ _ _ (bj (aa (pv 2) (aa (pv 4) ao aj) aj)) (@aa _ _ _ _ _ aq ao ak) aV) aV) aC) aj) aj))))))))))))))),?_⟩
 have hl:sizeLine=16777216:=sizeLine_eq;refine⟨_,Z,_,Z,_,_,Z,d,ls,ps,os,_,Z,D,hne,by lia,λother os1 H1 p1 s1 D1=>?_⟩;have l1:=p1.length_eq;rw [length_cons] at l1;refine⟨_,Z,_,_,Z,_,_,Z,Z,by show(0:Int) <6;decide,?_⟩;refine⟨λ_ H'=>Q .non H',?_,λ_ _ h=>h⟩;have fin:∀{i:Nat} {nm:Str} {newl:List aK} {ins os2:List Str} {H':Hp},aO (bL d.E H) (bL d.E H')->lZ d H' (ls ++ newl) (ps ++ [⟨i,nm,[],ins,newl.map (·.name)⟩]) (os2 ++ newl.map (·.name))->(one:: os).Perm (ins ++ os2)->newl.length≠0->newl.length<=2->os2.length+newl.length<=4->Q .non H':=λs DD hp h1 h2 h4=>
  k _ _ _ _ ⟨s,DD,qg w rfl DD hp h1 (by rw [lP];lia),by rw [lP,lM];lia,by rw [lP,lM];lia,by rw [lP];lia,by rw [lP,length_singleton];lia,λc=>c.app⟩
 cases odd
 ·refine⟨_,Z,false,Z,cQ (cQ ?_)⟩;refine⟨λ_ H'=>Q .non H',?_,λ_ _ h=>h⟩;refine⟨_,Z,false,Z,cQ (cQ ?_)⟩;refine⟨λ_ H'=>Q .non H',?_,λ_ _ h=>h⟩;refine⟨_,Z,_,_,Z,Z,by show(0:Int) <3;decide,Z,_,Z,iD (λ_=>?_) (λ_=>?_)⟩
  ·refine⟨_,Z,_,Z,by show 0<=sizeLine;lia,λa1 n1=>⟨_,Z,_,Z,by show 2<=sizeLine;lia,λa2 n2=>?_⟩⟩;obtain⟨D9,z1,z2,z3⟩:=D1.two n1 n2 (y:=.lst [.str one,.str other]);refine⟨d,_,_,os1,_,8,a1,a2,[],[one,other],2,Z,D9,z1,z2,by lia,Z,by simp,Z,Z,by lia,by lia,by lia,λnewl H8 hn s8 D8=>?_⟩;exact fin (s1.trans (z3.trans s8)) D8 (Kd p1) (by lia) (by lia) (by lia)
  ·refine⟨_,Z,_,Z,by show 2<=sizeLine;lia,λa0 n0=>?_⟩;have s0:=aB (o:=.lst [.str "add",.str "less"]) n0;have D0:=D1.keep s0;have c0:=D1.cut s0;refine⟨_,Z,_,_,Z,Z,by show(0:Int) <2;decide,?_⟩;obtain⟨i,ei,hi⟩:=Wv (bD c 6 % 6);refine⟨a0,_,_,_,Z,Z,bT.of az,ei,?_⟩;generalize upd H1 a0 (.lst [.str "add",.str "less"])=H0 at s0 D0 c0 ⊢;have hN:([]:List Int).length=cN i:=by rcases hi with rfl | rfl <;> rfl
   have hI:[one,other].length=cI i:=by rcases hi with rfl | rfl <;> rfl
   have hO:1=cO i:=by rcases hi with rfl | rfl <;> rfl
   refine⟨by show 0<=sizeLine;lia,λa1 n1=>⟨_,Z,_,Z,by show 2<=sizeLine;lia,λa2 n2=>?_⟩⟩;obtain⟨D9,z1,z2,z3⟩:=D0.two n1 n2 (y:=.lst [.str one,.str other]);refine⟨d,_,_,os1,_,i,a1,a2,[],[one,other],1,Z,D9,z1,z2,by lia,hN,by simp,hI,hO,by lia,by lia,by lia,λnewl H8 hn s8 D8=>?_⟩;exact fin (s1.trans (c0.trans (z3.trans s8))) D8 (Kd p1) (by lia) (by lia) (by lia)
 ·refine⟨_,Z,true,Z,fc ⟨_,Z,_,_,Z,Z,_,Z,Bg ?_ (λh2 b=>?_) (λb=>b)⟩⟩
  ·refine⟨λ_ H'=>Q .non H',?_,λ_ _ h=>h⟩;refine⟨_,Z,true,Z,fc ?_⟩;refine⟨_,Z,_,_,Z,Z,_,Z,iD (λh5=>?_) (λh5=>?_)⟩
   ·refine⟨_,Z,_,Z,by show 0<=sizeLine;lia,λa1 n1=>⟨_,Z,_,Z,by show 2<=sizeLine;lia,λa2 n2=>?_⟩⟩;obtain⟨D9,z1,z2,z3⟩:=D1.two n1 n2 (y:=.lst [.str one,.str other]);refine⟨d,_,_,os1,_,10,a1,a2,[],[one,other],2,Z,D9,z1,z2,by lia,Z,by simp,Z,Z,by lia,by lia,by lia,λnewl H8 hn s8 D8=>?_⟩;exact fin (s1.trans (z3.trans s8)) D8 (Kd p1) (by lia) (by lia) (by lia)
   ·refine⟨λ_ H'=>Q .non H',?_,λ_ _ h=>h⟩;refine⟨_,Z,_,_,Z,Z,by show(0:Int) <3;decide,Z,_,Z,iD (λ_=>?_) (λ_=>?_)⟩
    ·refine⟨_,Z,_,Z,by show 0<=sizeLine;lia,λa1 n1=>⟨_,Z,_,Z,by show 2<=sizeLine;lia,λa2 n2=>?_⟩⟩;obtain⟨D9,z1,z2,z3⟩:=D1.two n1 n2 (y:=.lst [.str one,.str other]);refine⟨d,_,_,os1,_,8,a1,a2,[],[one,other],2,Z,D9,z1,z2,by lia,Z,by simp,Z,Z,by lia,by lia,by lia,λnewl H8 hn s8 D8=>?_⟩;exact fin (s1.trans (z3.trans s8)) D8 (Kd p1) (by lia) (by lia) (by lia)
    ·refine⟨_,Z,_,Z,by show 2<=sizeLine;lia,λa0 n0=>?_⟩;have s0:=aB (o:=.lst [.str "add",.str "less"]) n0;have D0:=D1.keep s0;have c0:=D1.cut s0;refine⟨_,Z,_,_,Z,Z,by show(0:Int) <2;decide,?_⟩;obtain⟨i,ei,hi⟩:=Wv (bD c 6 % 6);refine⟨a0,_,_,_,Z,Z,bT.of az,ei,?_⟩;generalize upd H1 a0 (.lst [.str "add",.str "less"])=H0 at s0 D0 c0 ⊢;have hN:([]:List Int).length=cN i:=by rcases hi with rfl | rfl <;> rfl
     have hI:[one,other].length=cI i:=by rcases hi with rfl | rfl <;> rfl
     have hO:1=cO i:=by rcases hi with rfl | rfl <;> rfl
     refine⟨by show 0<=sizeLine;lia,λa1 n1=>⟨_,Z,_,Z,by show 2<=sizeLine;lia,λa2 n2=>?_⟩⟩;obtain⟨D9,z1,z2,z3⟩:=D0.two n1 n2 (y:=.lst [.str one,.str other]);refine⟨d,_,_,os1,_,i,a1,a2,[],[one,other],1,Z,D9,z1,z2,by lia,hN,by simp,hI,hO,by lia,by lia,by lia,λnewl H8 hn s8 D8=>?_⟩;exact fin (s1.trans (c0.trans (z3.trans s8))) D8 (Kd p1) (by lia) (by lia) (by lia)
  ·refine⟨_,Z,d.S,_,2,_,Z,Z,D1.seqS,aJ (j:=2) Z,.ref d.O,os1.length,Z,.inl ⟨_,bT.of D1.opens,by simp⟩,_,_,Z,Z,_,Z,iD (λh3=>?_) (λ_=>b)⟩;have hne1:os1≠[]:=λz=>by rw [z] at h3;exact absurd (of_decide_eq_true h3) (by decide)
   refine⟨_,Z,_,Z,_,_,Z,d,ls,ps,os1,_,Z,D1,hne1,by lia,λthird os2 H2 p2 s2 D2=>?_⟩;have l2:=p2.length_eq;rw [length_cons] at l2;refine⟨_,Z,_,Z,by show 0<=sizeLine;lia,λa1 n1=>⟨_,Z,_,Z,_,Z,by show 3<=sizeLine;lia,λa2 n2=>?_⟩⟩;obtain⟨D9,z1,z2,z3⟩:=D2.two n1 n2 (y:=.lst [.str one,.str other,.str third]);refine⟨d,_,_,os2,_,9,a1,a2,[],[one,other,third],1,Z,D9,z1,z2,by lia,Z,by simp,Z,Z,by lia,by lia,by lia,λnewl H8 hn s8 D8=>?_⟩;exact fin (s1.trans (s2.trans (z3.trans s8))) D8 (YZ p1 p2) (by lia) (by lia) (by lia)
inductive xq (vs:List V) (H:Hp) (Q:VK) (E:XK):Prop where
 | mk:∀(d:Dw) (ls:List aK) (ps:List PD) (os:List Str) (c:Int) (one:Str) (back:List Str),vs=[.ref d.S,.int c,.str one]->lZ d H ls ps os->Drawn.WF (uF ls ps (one:: os) back)->os.length<=3->ls.length<=20->ps.length<=22->(∀ls' ps' os' H',Nxt d H H' ls ps back ls' ps' os'->Q .non H')->xq vs H Q E
theorem HN (T:Txt w K mg t):FO P w K mg base 4 t.Ae ["_law_state", "_law_cell_here", "_law_one"] (xq):=by
 have sc:=T.su.sc ["_law_state", "_law_cell_here", "_law_one", "_law_own", "_law_fresh"];refine T.su.F.ok sc ln (λ_ _ _ _ H vs Q E hr h=>?_);obtain⟨d,ls,ps,os,c,one,back,rfl,D,w,ho,hls,hps,k⟩:=h;refine⟨_,(au (sN sc 3 (dB (jN T) T.iI hr (aa (pv 0) (aa (dB (aM T) T.aN hr (aa (pv 1) (aa aq ao ak) aj)) (aa fB ao ak) bc) aj)))
  (au (sN sc 4 (dB (jN T) T.iI hr (aa (pv 0) (aa (dB (aM T) T.aN hr (aa (pv 1) (aa aq ao ak) aj)) (aa fB ao ak) bc) aj)))
  (au (bK (Jv (aU aR (pv 0) aq (λ_ _=>rfl)) (aa (bV (aa bA (aa (dB (lY T) T.jF hr (aa (aU aR (pv 0) aq (λ_ _=>rfl)) (aa (aY bN (by rfl) T.eE cL (aa (aU aR (pv 0) aq (λ_ _=>rfl)) ao aC)) ao bc) aC)) (aa (bj ao) (aa (bj (aa (pv 2) (aa (pv 3) ao aj) aj)) (aa (bj (aa (pv 3) (aa (pv 4) ao aj) aj)) ao aV) aV) aV) bc) ak)) ao b7)))
  (aA (bK (Jv (aU aR (pv 0) aq (λ_ _=>rfl)) (aa (pv 4) ao aj))))))),?_⟩
 have hl:sizeLine=16777216:=sizeLine_eq;refine⟨_,Z,_,Z,_,_,Z,d,ls,ps,os,_,true,Z,D,by lia,λl1 H1 e1 s1 D1=>?_⟩;refine⟨_,Z,_,Z,_,_,Z,d,ls ++ [l1],ps,os,_,false,Z,D1,by rw [lP,length_singleton];lia,λl2 H2 e2 s2 D2=>?_⟩;have s12:=s1.trans s2;obtain⟨xs,eP,aP⟩:=D2.parts;have xl:=aP.length;refine⟨_,Z,d.S,_,1,_,Z,Z,D2.seqS,aJ (j:=1) Z,.inl ⟨Z,_,bT.of eP⟩,?_⟩;refine⟨_,Z,d.S,_,4,_,Z,Z,D2.seqS,aJ (j:=4) Z,?_⟩;refine⟨_,Z,d.S,_,1,_,Z,Z,D2.seqS,aJ (j:=1) Z,.ref d.P,ps.length,Z,.inl ⟨_,bT.of eP,xl.symm⟩,?_⟩;refine⟨d.c4,ps.length,Z,by lia,λH3 s3=>?_⟩;have D3:=D2.keep s3;have c3:=s12.trans (D2.cut s3);have eP3:=s3 _ _ eP;refine⟨by show 0<=sizeLine;lia,λa1 n1=>⟨_,Z,_,Z,by show 2<=sizeLine;lia,λa2 n2=>⟨_,Z,_,Z,by show 2<=sizeLine;lia,λa3 n3=>⟨by show 5<=sizeLine;lia,λq nq=>?_⟩⟩⟩⟩;obtain⟨D4,z1,z2,z3⟩:=D3.two n1 n2 (y:=.lst [.str one,.str l1.name]);have t4:aO H3 (upd (upd H3 a1 (.lst [])) a2 (.lst [.str one,.str l1.name])):=(aB n1).trans (aB n2);have eP4:=t4 _ _ eP3;generalize upd (upd H3 a1 (.lst [])) a2 (.lst [.str one,.str l1.name])=H4 at D4 z1 z2 z3 t4 eP4 n3 nq ⊢;obtain⟨D5,y1,y2,y3⟩:=D4.two n3 nq (y:=.tup [.str "order",.str (cJ d.c4 ps.length),.ref a1,.ref a2,.ref a3]);have t5:aO H4 (upd (upd H4 a3 (.lst [.str l1.name,.str l2.name])) q (.tup [.str "order",.str (cJ d.c4 ps.length),.ref a1,.ref a2,.ref a3])):=(aB n3).trans (aB nq);have eP5:=t5 _ _ eP4;generalize upd (upd H4 a3 (.lst [.str l1.name,.str l2.name])) q (.tup [.str "order",.str (cJ d.c4 ps.length),.ref a1,.ref a2,.ref a3])=H5 at D5 y1 y2 y3 t5 eP5 ⊢;have c5:=c3.trans (z3.trans y3);refine⟨d.P,xs,_,Z,Z,eP5,by lia,?_⟩;have D6:=D5.part (p:=⟨8,cJ d.c4 ps.length,[],[one,l1.name],[l1.name,l2.name]⟩) ⟨q,a1,a2,a3,rfl,y2,y3 _ _ z1,y3 _ _ z2,y1⟩ ⟨by show 8 <11;lia,rfl,rfl,rfl,by simp⟩ rfl eP5;have c6:bL d.E (upd H5 d.P (.lst (xs ++ [.ref q])))=bL d.E H5:=cM (by simp);generalize upd H5 d.P (.lst (xs ++ [.ref q]))=H6 at D6 c6 ⊢;refine⟨_,Z,d.S,_,2,_,Z,Z,D6.seqS,aJ (j:=2) Z,.inl ⟨Z,_,bT.of D6.opens⟩,_,Z,d.O,_,_,Z,Z,D6.opens,by rw [lM];lia,?_⟩;have D7:=D6.open (os':=os ++ [l2.name]);rw [map_append] at D7;have nd:=D7.nod (by rw [lP,lP,length_singleton,length_singleton];lia);have wl:=w.loop (p:=⟨8,cJ d.c4 ps.length,[],[one,l1.name],[l1.name,l2.name]⟩) (rest:=os) (one:=one) (own:=l1.name) (fresh:=l2.name) rfl rfl (.refl _) (by simpa using nd);refine k _ _ _ _ ⟨by rw [cM (by simp),c6];exact c5,D7,by simpa [uF] using wl,by rw [lP,length_singleton];lia,by rw [lP,length_singleton];lia,by simp,by simp,λc=>c.app⟩
inductive xg (vs:List V) (H:Hp) (Q:VK) (E:XK):Prop where
 | mk:∀(d:Dw) (ls:List aK) (ps:List PD) (os:List Str) (c:Int) (back:List Str) (odd:Bool),vs=[.ref d.S,.int c,.bl odd]->lZ d H ls ps os->Drawn.WF (uF ls ps os back)->os≠[]->os.length<=4->ls.length<=20->ps.length<=22->(∀ls' ps' os' H',Nxt d H H' ls ps back ls' ps' os'->Q .non H')->xg vs H Q E
theorem Im (T:Txt w K mg t):FO P w K mg base 6 t.Aa ["_law_state", "_law_cell_here", "_law_odd"] (xg):=by
 have sc:=T.tG.sc ["_law_state", "_law_cell_here", "_law_odd", "_law_way", "_law_one"];refine T.tG.F.ok sc ln (λ_ _ _ _ H vs Q E hr h=>?_);obtain⟨d,ls,ps,os,c,back,odd,rfl,D,w,hne,ho,hls,hps,k⟩:=h;refine⟨_,(au (sN sc 3 (aX bR (dB (aM T) T.aN hr (aa (pv 1) (aa aq ao ak) aj)) aq))
  (au (sN sc 4 (dB (rD T) T.lu hr (aa (pv 0) (aa (dB (aM T) T.aN hr (aa (pv 1) (aa aq ao ak) aj)) ao bc) aj)))
  (aA (eO (bQ (PW.pt (uc (bf rM (pv 3) aq (bH _)) (qR (bf rM (aY bN (by rfl) T.eE cL (aa (aU aR (pv 0) aq (λ_ _=>rfl)) ao aC)) aq (bH _)))))
   (aA (bK (dB (cG T) T.cz hr (@aa _ _ _ _ _ (pv 0) (@aa _ _ _ _ _ (pv 1) (@aa _ _ _ _ _ bA (@aa _ _ _ _ _ (bj ao) (@aa _ _ _ _ _ (bj (aa (pv 4) ao aj)) (@aa _ _ _ _ _ aq ao ak) aV) aV) ak) aj) aj))))
   (aA (eO (bQ (bf fO (pv 3) aq (bH _))
    (au (bK (dB (cG T) T.cz hr (@aa _ _ _ _ _ (pv 0) (@aa _ _ _ _ _ (pv 1) (@aa _ _ _ _ _ bA (@aa _ _ _ _ _ (bj ao) (@aa _ _ _ _ _ (bj (aa (pv 4) ao aj)) (@aa _ _ _ _ _ aq ao ak) aV) aV) ak) aj) aj)))
    (aA (bK (dB (cG T) T.cz hr (@aa _ _ _ _ _ (pv 0) (@aa _ _ _ _ _ (pv 1) (@aa _ _ _ _ _ bA (@aa _ _ _ _ _ (bj ao) (@aa _ _ _ _ _ (bj (aa (Mq PySem.F.plainAttrs_list PySem.F.slot_list_pop PySem.F.type_list_pop Ld (aU aR (pv 0) aq (λ_ _=>rfl))) ao bc)) (@aa _ _ _ _ _ aq ao ak) aV) aV) ak) aj) aj)))))
    (aA (eO (bQ (PW.pt (uc (bf rM (pv 3) aq (bH _)) (qR (bf Ca (aY bN (by rfl) T.eE cL (aa (aU aR (pv 0) aq (λ_ _=>rfl)) ao aC)) aq (bH _)))))
     (aA (bK (dB (Jd T) T.vX hr (aa (pv 0) (aa (pv 1) (aa (pv 4) (aa (pv 2) ao aj) aj) aj) aj))))
     (aA (eO (bQ (bf rM (pv 3) aq (bH _))
      (aA (bK (dB (cG T) T.cz hr (@aa _ _ _ _ _ (pv 0) (@aa _ _ _ _ _ (pv 1) (@aa _ _ _ _ _ bA (@aa _ _ _ _ _ (bj (aa (dB (gU T) T.fJ hr (aa (pv 1) (aa aq ao ak) aj)) (aa (dB (gU T) T.fJ hr (aa (pv 1) (aa aq ao ak) aj)) ao bc) bc)) (@aa _ _ _ _ _ (bj (aa (pv 4) ao aj)) (@aa _ _ _ _ _ aq ao ak) aV) aV) ak) aj) aj))))
      (aA (eO (bQ (bf fO (pv 3) aq (bH _))
       (aA (bK (dB (cG T) T.cz hr (@aa _ _ _ _ _ (pv 0) (@aa _ _ _ _ _ (pv 1) (@aa _ _ _ _ _ bA (@aa _ _ _ _ _ (bj (aa (dB (gU T) T.fJ hr (aa (pv 1) (aa aq ao ak) aj)) ao bc)) (@aa _ _ _ _ _ (bj (aa (pv 4) ao aj)) (@aa _ _ _ _ _ aq ao ak) aV) aV) ak) aj) aj))))
       (aA (eO (bQ (bf fO (aX bR (dB (aM T) T.aN hr (aa (pv 1) (aa aq ao ak) aj)) aq) aq (bH _))
        (aA (bK (dB (HN T) T.su hr (aa (pv 0) (aa (pv 1) (aa (pv 4) ao aj) aj) aj))))
        (aA (bK (dB (cG T) T.cz hr (@aa _ _ _ _ _ (pv 0) (@aa _ _ _ _ _ (pv 1) (@aa _ _ _ _ _ bA (@aa _ _ _ _ _ (bj ao) (@aa _ _ _ _ _ (bj (aa (pv 4) ao aj)) (@aa _ _ _ _ _ aq ao ak) aV) aV) ak) aj) aj)))))))))))))))))))))))),?_⟩
 have hl:sizeLine=16777216:=sizeLine_eq;refine⟨_,Z,_,_,Z,_,_,Z,Z,by show(0:Int) <9;decide,?_⟩;refine⟨_,Z,_,Z,_,_,Z,d,ls,ps,os,_,Z,D,hne,by lia,λone os1 H1 p1 s1 D1=>?_⟩;have w1:Drawn.WF (uF ls ps (one:: os1) back):=XD w p1;have lo:=p1.length_eq;rw [length_cons] at lo;have fin:∀{i:Nat} {nm:Str} {nums:List Int} {newl:List aK} {ins os2:List Str} {H':Hp},aO (bL d.E H) (bL d.E H')->lZ d H' (ls ++ newl) (ps ++ [⟨i,nm,nums,ins,newl.map (·.name)⟩]) (os2 ++ newl.map (·.name))->(one:: os1).Perm (ins ++ os2)->newl.length≠0->newl.length<=2->os2.length+newl.length<=4->Q .non H':=λs DD hp h1 h2 h4=>
  k _ _ _ _ ⟨s,DD,qg w1 rfl DD hp h1 (by rw [lP];lia),by rw [lP,lM];lia,by rw [lP,lM];lia,by rw [lP];lia,by rw [lP,length_singleton];lia,λc=>c.app⟩
 refine⟨λ_ H'=>Q .non H',?_,λ_ _ h=>h⟩;refine⟨_,Z,_,_,Z,Z,_,Z,Bg ?_ (λh2 b=>?_) (λb=>b)⟩
 ·refine⟨λ_ H'=>Q .non H',?_,λ_ _ h=>h⟩;refine⟨_,Z,Z,_,Z,iD (λ_=>?_) (λ_=>?_)⟩
  ·refine⟨_,Z,_,Z,by show 0<=sizeLine;lia,λa1 n1=>⟨_,Z,by show 1<=sizeLine;lia,λa2 n2=>?_⟩⟩;obtain⟨D9,z1,z2,z3⟩:=D1.two n1 n2 (y:=.lst [.str one]);refine⟨d,_,_,os1,_,3,a1,a2,[],[one],2,Z,D9,z1,z2,by lia,Z,by simp,Z,Z,by lia,by lia,by lia,λnewl H8 hn s8 D8=>?_⟩;obtain⟨l1,l2,rfl⟩:∃l1 l2,newl=[l1,l2]:=by
    match newl,hn with
    | [x,y],_=>exact⟨x,y,rfl⟩
   have w8:=qg w1 rfl D8 (.refl _) (by simp) (by simp;lia);have s18:=s1.trans (z3.trans s8);clear D9 z1 z2 z3 n1 n2 s8;refine⟨_,Z,_,Z,by show 0<=sizeLine;lia,λa3 n3=>?_⟩;have s3:=aB (o:=.lst []) n3;have D3:=D8.keep s3;have c3:=s18.trans (D8.cut s3);have o3:=D8.out n3;have e3:upd H8 a3 (.lst []) a3=some (.lst ([]:List V)):=az;generalize upd H8 a3 (.lst [])=H3 at s3 D3 c3 e3 ⊢;have eo:((os1 ++ [l1,l2].map (·.name)).map V.str)=((os1 ++ [l1.name]).map V.str) ++ [.str l2.name]:=by simp
   have hop:=D3.opens;rw [eo] at hop;refine⟨_,Z,d.S,_,2,_,Z,Z,D3.seqS,aJ (j:=2) Z,.inl ⟨Z,_,bT.of D3.opens⟩,d.O,_,.str l2.name,Z,Z,hop,by rw [lP,length_singleton,Nat.add_sub_cancel];exact List.getElem?_concat_length,?_⟩;rw [List.dropLast_concat];have D4:=D3.open (os':=os1 ++ [l1.name]);have c4:bL d.E (upd H3 d.O (.lst ((os1 ++ [l1.name]).map V.str)))=bL d.E H3:=cM (by simp);have e4:=dH e3 o3;generalize upd H3 d.O (.lst ((os1 ++ [l1.name]).map V.str))=H4 at D4 c4 ⊢;refine⟨by show 1<=sizeLine;lia,λa4 n4=>?_⟩;have s5:=aB (o:=.lst [.str l2.name]) n4;have D5:=D4.keep s5;have c5:=D4.cut s5;rw [c4] at c5;have e5:=dH (E:=d.E) (H:=upd H4 a4 (.lst [.str l2.name])) az (D4.out n4);refine⟨d,ls ++ [l1,l2],_,os1 ++ [l1.name],_,1,a3,a4,[],[l2.name],0,Z,D5,c5 _ _ e4,e5,by lia,Z,by simp,Z,Z,by simp;lia,by simp;lia,by simp;lia,λnewl2 H9 hn2 s9 D9=>?_⟩;have hz:newl2=[]:=List.length_eq_zero_iff.mp hn2;subst hz;have wt:=w8.take (p:=⟨1,cJ d.c4 (ps ++ [(⟨3,cJ d.c4 ps.length,[],[one],[l1,l2].map (·.name)⟩:PD)]).length,[],[l2.name],[]⟩) (rest:=os1 ++ [l1.name]) (y:=l2.name) (x:=l1.name) rfl rfl (by show(os1 ++ [l1.name,l2.name]).Perm (l2.name:: (os1 ++ [l1.name]));rw [show os1 ++ [l1.name,l2.name]=(os1 ++ [l1.name]) ++ [l2.name] by simp];exact perm_append_comm) (by simp) (Drawn.jl.part (p:=⟨3,cJ d.c4 ps.length,[],[one],[l1,l2].map (·.name)⟩) (by simp) (by simp) (by simp))
   rw [map_nil,append_nil,append_nil] at D9;exact k _ _ _ _ ⟨c3.trans (c5.trans s9),D9,wt,by simp,by simp;lia,by simp,by simp,λc=>c.app.app⟩
  ·refine⟨λ_ H'=>Q .non H',?_,λ_ _ h=>h⟩;refine⟨_,Z,_,_,Z,Z,_,Z,Bg ?_ (λh2 b=>?_) (λb=>b)⟩
   ·refine⟨λ_ H'=>Q .non H',?_,λ_ _ h=>h⟩;refine⟨_,Z,_,_,Z,Z,_,Z,iD (λ_=>?_) (λ_=>?_)⟩
    ·refine⟨_,Z,_,Z,_,Z,c,8,Z,_,Z,c,9,Z,by show 2<=sizeLine;lia,λa1 n1=>⟨_,Z,by show 1<=sizeLine;lia,λa2 n2=>?_⟩⟩;obtain⟨D9,z1,z2,z3⟩:=D1.two n1 n2 (y:=.lst [.str one]);refine⟨d,_,_,os1,_,4,a1,a2,[qI c 8,qI c 9],[one],1,Z,D9,z1,z2,by lia,Z,?_,Z,Z,by lia,by lia,by lia,λnewl H8 hn s8 D8=>?_⟩
     ·intro v hv;rcases mem_cons.mp hv with rfl | hv
      ·exact uO _ _
      ·rw [mem_singleton] at hv;subst hv;exact uO _ _
     exact fin (s1.trans (z3.trans s8)) D8 (.refl _) (by lia) (by lia) (by lia)
    ·refine⟨λ_ H'=>Q .non H',?_,λ_ _ h=>h⟩;refine⟨_,Z,Z,_,Z,iD (λ_=>?_) (λ_=>?_)⟩
     ·refine⟨_,Z,_,Z,_,Z,c,8,Z,by show 1<=sizeLine;lia,λa1 n1=>⟨_,Z,by show 1<=sizeLine;lia,λa2 n2=>?_⟩⟩;obtain⟨D9,z1,z2,z3⟩:=D1.two n1 n2 (y:=.lst [.str one]);refine⟨d,_,_,os1,_,5,a1,a2,[qI c 8],[one],1,Z,D9,z1,z2,by lia,Z,?_,Z,Z,by lia,by lia,by lia,λnewl H8 hn s8 D8=>?_⟩
      ·intro v hv;rw [mem_singleton] at hv;subst hv;exact uO _ _
      exact fin (s1.trans (z3.trans s8)) D8 (.refl _) (by lia) (by lia) (by lia)
     ·refine⟨λ_ H'=>Q .non H',?_,λ_ _ h=>h⟩;refine⟨_,Z,_,_,Z,_,_,Z,Z,by show(0:Int) <2;decide,Z,_,Z,iD (λ_=>?_) (λ_=>?_)⟩
      ·exact⟨_,Z,_,Z,_,Z,d,ls,ps,os1,c,one,back,Z,D1,w1,by lia,hls,hps,λls' ps' os' H' X=>k ls' ps' os' H' ⟨s1.trans X.cut,X.at',X.wf,X.o1,X.o4,X.l2,X.p2,X.gv⟩⟩
      ·refine⟨_,Z,_,Z,by show 0<=sizeLine;lia,λa1 n1=>⟨_,Z,by show 1<=sizeLine;lia,λa2 n2=>?_⟩⟩;obtain⟨D9,z1,z2,z3⟩:=D1.two n1 n2 (y:=.lst [.str one]);refine⟨d,_,_,os1,_,2,a1,a2,[],[one],1,Z,D9,z1,z2,by lia,Z,by simp,Z,Z,by lia,by lia,by lia,λnewl H8 hn s8 D8=>?_⟩;exact fin (s1.trans (z3.trans s8)) D8 (.refl _) (by lia) (by lia) (by lia)
   ·refine⟨_,Z,d.S,_,2,_,Z,Z,D1.seqS,aJ (j:=2) Z,.ref d.O,os1.length,Z,.inl ⟨_,bT.of D1.opens,by simp⟩,_,_,Z,Z,_,Z,iD (λh3=>?_) (λ_=>b)⟩;have hne1:os1≠[]:=λz=>by rw [z] at h3;exact absurd (of_decide_eq_true h3) (by decide)
    exact⟨_,Z,_,Z,_,Z,_,Z,d,ls,ps,os1,c,one,back,odd,Z,D1,w1,hne1,by lia,hls,hps,λls' ps' os' H' X=>k ls' ps' os' H' ⟨s1.trans X.cut,X.at',X.wf,X.o1,X.o4,X.l2,X.p2,X.gv⟩⟩
 ·refine⟨_,Z,d.S,_,2,_,Z,Z,D1.seqS,aJ (j:=2) Z,.ref d.O,os1.length,Z,.inl ⟨_,bT.of D1.opens,by simp⟩,_,_,Z,Z,_,Z,iD (λh3=>?_) (λ_=>b)⟩;have h3:os1.length <3:=by have:=of_decide_eq_true h3;lia
  refine⟨_,Z,_,Z,by show 0<=sizeLine;lia,λa1 n1=>⟨_,Z,by show 1<=sizeLine;lia,λa2 n2=>?_⟩⟩;obtain⟨D9,z1,z2,z3⟩:=D1.two n1 n2 (y:=.lst [.str one]);refine⟨d,_,_,os1,_,3,a1,a2,[],[one],2,Z,D9,z1,z2,by lia,Z,by simp,Z,Z,by lia,by lia,by lia,λnewl H8 hn s8 D8=>?_⟩;exact fin (s1.trans (z3.trans s8)) D8 (.refl _) (by lia) (by lia) (by lia)
inductive sS (vs:List V) (H:Hp) (Q:VK) (E:XK):Prop where
 | mk:∀(d:Dw) (ls:List aK) (ps:List PD) (os:List Str) (c:Int) (B:Addr) (back:List Str),vs=[.ref d.S,.int c,.ref B]->lZ d H ls ps os->Drawn.WF (uF ls ps os back)->bL d.E H B=some (.lst (back.map V.str))->os≠[]->os.length<=4->back.length<=2->ls.length<=12->ps.length<=10->Mj ps->(∀ls' ps' H',aO (bL d.E H) (bL d.E H')->lZ d H' ls' ps' []->Fy (ls'.map (·.name)) ps'->ls'.length<=17->ls.length<=ls'.length->ps'.length<=16->1<=ps'.length->Mj ps'->Q .non H')->sS vs H Q E
theorem Bq (T:Txt w K mg t):FO P w K mg base 5 t.vN ["_law_state", "_law_cell_here", "_law_back"] (sS):=by
 have sc:=T.pO.sc ["_law_state", "_law_cell_here", "_law_back", "_law_one", "_law_other", "_law_kind", "_law_lane_here", "_law_fresh"];refine T.pO.F.ok sc ln (λ_ _ _ _ H vs Q E hr h=>?_);obtain⟨d,ls,ps,os,c,B,back,rfl,D,w,eB,hne,ho,hb,hls,hps,hC,k⟩:=h;refine⟨_,(au (xR PassesOwn.never (bf Ca (aY bN (by rfl) T.eE cL (aa (aU aR (pv 0) aq (λ_ _=>rfl)) ao aC)) aq (bH _))
   (au (sN sc 3 (z7 PySem.F.plainAttrs_list PySem.F.slot_list_pop PySem.F.type_list_pop Cm (aU aR (pv 0) aq (λ_ _=>rfl)) (aa aq ao ak)))
   (au (sN sc 4 (z7 PySem.F.plainAttrs_list PySem.F.slot_list_pop PySem.F.type_list_pop Cm (aU aR (pv 0) aq (λ_ _=>rfl)) (aa aq ao ak)))
   (au (sN sc 5 (aU aR (bj (aa bA (aa bA (aa bA ao ak) ak) ak)) (aX bR (dB (aM T) T.aN hr (aa (pv 1) (aa (aY bN (by rfl) T.eE cL (aa (aU aR (pv 0) aq (λ_ _=>rfl)) ao aC)) ao bc) aj)) aq) (λ_ _=>rfl)))
   (aA (bK (dB (cG T) T.cz hr (@aa _ _ _ _ _ (pv 0) (@aa _ _ _ _ _ (dB (aM T) T.aN hr (aa (pv 1) (aa (aX dG aq (aY bN (by rfl) T.eE cL (aa (aU aR (pv 0) aq (λ_ _=>rfl)) ao aC))) ao bO) aj)) (@aa _ _ _ _ _ (pv 5) (@aa _ _ _ _ _ (bj ao) (@aa _ _ _ _ _ (bj (aa (pv 3) (aa (pv 4) ao aj) aj)) (@aa _ _ _ _ _ aq ao ak) aV) aV) aj) bc) aj))))))))
  (au (fj PassesOwn.never rfl (cX (pv 2)) (gN sc 6)
   (au (sN sc 3 (Mq PySem.F.plainAttrs_list PySem.F.slot_list_pop PySem.F.type_list_pop Ld (aU aR (pv 0) aq (λ_ _=>rfl))))
   (au (sN sc 7 (dB (jN T) T.iI hr (aa (pv 0) (aa (dB (aM T) T.aN hr (aa (pv 1) (aa (aX dG aq (aY bN (by rfl) T.eE cL (aa (aU aR (pv 0) aq (λ_ _=>rfl)) ao aC))) ao bO) aj)) (aa fB ao ak) bc) aj)))
   (au (bK (Jv (aU aR (pv 0) aq (λ_ _=>rfl)) (aa (bV (aa bA (aa (dB (lY T) T.jF hr (aa (aU aR (pv 0) aq (λ_ _=>rfl)) (aa (aY bN (by rfl) T.eE cL (aa (aU aR (pv 0) aq (λ_ _=>rfl)) ao aC)) ao bc) aC)) (aa (bj ao) (aa (bj (aa (pv 3) ao aj)) (aa (bj (aa (pv 6) (aa (pv 7) ao aj) aj)) ao aV) aV) aV) bc) ak)) ao b7)))
   (aA (bK (Jv (aU aR (pv 0) aq (λ_ _=>rfl)) (aa (pv 7) ao aj))))))))
  (aA (bK (dB (cG T) T.cz hr (@aa _ _ _ _ _ (pv 0) (@aa _ _ _ _ _ (pv 1) (@aa _ _ _ _ _ bA (@aa _ _ _ _ _ (bj ao) (@aa _ _ _ _ _ (bj (aa (Mq PySem.F.plainAttrs_list PySem.F.slot_list_pop PySem.F.type_list_pop Ld (aU aR (pv 0) aq (λ_ _=>rfl))) ao bc)) (@aa _ _ _ _ _ aq ao ak) aV) aV) ak) aj) aj)))))),?_⟩
 have hl:sizeLine=16777216:=sizeLine_eq;have hpos:0 <os.length:=List.length_pos_iff.mpr hne;refine hide λu hu=>?_;refine wN (λσ H1=>∃(ls1:List aK) (ps1:List PD) (os1:List Str) (v3 v4 v5:Option V),σ=[some (.ref d.S),some (.int c),some (.ref B),v3,v4,v5,none,none]/\aO (bL d.E H) (bL d.E H1)/\lZ d H1 ls1 ps1 os1/\Drawn.WF (uF ls1 ps1 os1 back)/\1<=os1.length/\os1.length<=4/\ls.length<=ls1.length/\ls1.length+os1.length<=16/\ps1.length+os1.length<=14/\Mj ps1)
  (λ_ H1=>Ss H1 d.O) ⟨ls,ps,os,none,none,none,rfl,aO.refl _,D,w,by lia,ho,le_refl _,by lia,by lia,hC⟩ ?_ ?_
 ·rintro σ H1 ⟨ls1,ps1,os1,v3,v4,v5,rfl,s1,D1,w1,o1,o4,hl1,hl2,hp2,hC1⟩;refine⟨_,Z,d.S,_,2,_,Z,Z,D1.seqS,aJ (j:=2) Z,.ref d.O,os1.length,Z,.inl ⟨_,bT.of D1.opens,by simp⟩,_,_,Z,Z,_,Z,iD (λh3=>?_) (λh3=>?_)⟩
  ·have h3:1 <os1.length:=by have:=of_decide_eq_true h3;lia
   obtain⟨one,other,os2,rfl⟩:∃one other os2,os1=one:: other:: os2:=by
    match os1,h3 with
    | x:: y:: r,_=>exact⟨x,y,r,rfl⟩
   rw [length_cons,length_cons] at h3 o1 o4 hl2 hp2;have lm:=Jf D1.opens;refine Zu λDe hD u hu=>?_;refine⟨_,Z,d.S,_,2,_,Z,Z,D1.seqS,aJ (j:=2) Z,.inl ⟨Z,_,bT.of D1.opens⟩,d.O,_,0,0,.str one,Z,Z,D1.opens,by decide,by decide,KQ (by simp),Z,?_⟩;have D2:=D1.open (os':=other:: os2);have c2:bL d.E (upd H1 d.O (.lst ((other:: os2).map V.str)))=bL d.E H1:=cM (by simp);refine dz (v:=u) hu λu hu=>?_;change sW _ _ _ _ (upd H1 d.O (.lst ((other:: os2).map V.str)));generalize upd H1 d.O (.lst ((other:: os2).map V.str))=H2 at D2 c2 ⊢;refine⟨_,Z,d.S,_,2,_,Z,Z,D2.seqS,aJ (j:=2) Z,.inl ⟨Z,_,bT.of D2.opens⟩,d.O,_,0,0,.str other,Z,Z,D2.opens,by decide,by decide,KQ (by simp),Z,?_⟩;have D3:=D2.open (os':=os2);have c3:bL d.E (upd H2 d.O (.lst (os2.map V.str)))=bL d.E H2:=cM (by simp);refine dz (v:=u) hu λu hu=>?_;change sW _ _ _ _ (upd H2 d.O (.lst (os2.map V.str)));generalize upd H2 d.O (.lst (os2.map V.str))=H3 at D3 c3 ⊢;have s3:aO (bL d.E H) (bL d.E H3):=by rw [c3,c2];exact s1
   refine⟨by show 3<=sizeLine;lia,λa0 n0=>?_⟩;have s0:=aB (o:=.lst [.str "add",.str "less",.str "add"]) n0;have D0:=D3.keep s0;have c0:=s3.trans (D3.cut s0);refine⟨_,Z,_,Z,d.S,_,2,_,Z,Z,D0.seqS,aJ (j:=2) Z,.ref d.O,os2.length,Z,.inl ⟨_,bT.of D0.opens,by simp⟩,c,(os2.length:Int),Z,_,_,Z,Z,by show(0:Int) <3;decide,?_⟩;obtain⟨i,ei,hi⟩:=ZC (bD c (os2.length:Int));refine⟨a0,_,_,_,Z,Z,bT.of az,ei,?_⟩;generalize upd H3 a0 (.lst [.str "add",.str "less",.str "add"])=H0 at s0 D0 c0 ⊢;obtain⟨xs,eP,aP⟩:=D0.parts;have xl:=aP.length;have hN:([]:List Int).length=cN i:=by rcases hi with rfl | rfl <;> rfl
   have hI:[one,other].length=cI i:=by rcases hi with rfl | rfl <;> rfl
   have hO:1=cO i:=by rcases hi with rfl | rfl <;> rfl
   subst hu;refine⟨_,Z,_,Z,_,Z,d.S,_,1,_,Z,Z,D0.seqS,aJ (j:=1) Z,.ref d.P,ps1.length,Z,.inl ⟨_,bT.of eP,xl.symm⟩,_,_,Z,Z,_,_,Z,?_⟩;refine⟨_,Z,by show 0<=sizeLine;lia,λa1 n1=>⟨_,Z,_,Z,by show 2<=sizeLine;lia,λa2 n2=>?_⟩⟩;obtain⟨D9,z1,z2,z3⟩:=D0.two n1 n2 (y:=.lst [.str one,.str other]);refine⟨d,_,_,os2,_,i,a1,a2,[],[one,other],1,Z,D9,z1,z2,by lia,hN,by simp,hI,hO,by lia,by lia,by lia,λnewl H8 hn s8 D8=>?_⟩;have w8:=qg w1 rfl D8 (.refl _) (by lia) (by rw [lP];lia);subst hD;refine⟨⟨_,_,_,_,_,_,Z,c0.trans (z3.trans s8),D8,w8,?_,?_,?_,?_,?_,hC1.app⟩,?_⟩
   ·rw [lP,lM];lia
   ·rw [lP,lM];lia
   ·rw [lP];lia
   ·rw [lP,lP,lM];lia
   ·rw [lP,lP,lM,length_singleton];lia
   ·rw [Jf D8.opens,lm,lM,lM,lP,lM,length_cons,length_cons]
    lia
  ·have h3:os1.length=1:=by
    have:¬(1:Int) <(os1.length:Int):=λz=>h3 (decide_eq_true z)
    lia
   obtain⟨y,rfl⟩:=List.length_eq_one_iff.mp h3;refine dz (v:=u) hu λu hu=>?_;refine⟨_,Z,B,Z,⟨_,bT.of (cY _ _ (s1 _ _ eB))⟩,?_⟩;refine fK (K:=K) (a:=B) (xs:=back.map V.str) (λj σ H2=>∃(ls2:List aK) (ps2:List PD) (y:Str) (u3 u6 u7:Option V),σ=[some (.ref d.S),some (.int c),some (.ref B),u3,v4,v5,u6,u7]/\aO (bL d.E H) (bL d.E H2)/\lZ d H2 ls2 ps2 [y]/\Drawn.WF (uF ls2 ps2 [y] (back.drop j))/\ls.length<=ls2.length/\ls2.length<=15+j/\ps2.length<=13+j/\Mj ps2) ⟨ls1,ps1,y,v3,none,none,Z,s1,D1,w1,hl1,by have z:=hl2;rw [length_singleton] at z;lia,by have z:=hp2;rw [length_singleton] at z;lia,hC1⟩ (λj σ H2 _ ⟨ls2,ps2,y,u3,u6,u7,e,s2,h⟩=>bT.of (cY _ _ (s2 _ _ eB))) ?_ ?_
   ·rintro j x σ H2 hx ⟨ls2,ps2,y2,u3,u6,u7,rfl,s2,D2,w2,hl2',hl3,hp3,hC2⟩;rw [getElem?_map] at hx;obtain⟨bn,hbn,rfl⟩:=map_eq_some_iff.mp hx;have hj:j <back.length:=by
     rcases Nat.lt_or_ge j back.length with h | h
     ·exact h
     ·rw [getElem?_eq_none h] at hbn;cases hbn
    have hdr:back.drop j=bn:: back.drop (j+1):=by rw [List.drop_eq_getElem_cons hj];rw [getElem?_eq_getElem hj,Option.some.injEq] at hbn;rw [hbn]
    refine TJ λDe hD u hu=>?_;refine⟨_,Z,d.S,_,2,_,Z,Z,D2.seqS,aJ (j:=2) Z,.inl ⟨Z,_,bT.of D2.opens⟩,d.O,_,.str y2,Z,Z,D2.opens,Z,?_⟩;have D3:=D2.open (os':=[]);have c3:bL d.E (upd H2 d.O (.lst (([]:List Str).map V.str)))=bL d.E H2:=cM (by simp);refine dz (v:=u) hu λu hu=>?_;change sW _ _ _ _ (upd H2 d.O (.lst (([]:List Str).map V.str)));generalize upd H2 d.O (.lst (([]:List Str).map V.str))=H3 at D3 c3 ⊢;obtain⟨xs,eP,aP⟩:=D3.parts;have xl:=aP.length;refine⟨_,Z,_,Z,_,Z,d.S,_,1,_,Z,Z,D3.seqS,aJ (j:=1) Z,.ref d.P,ps2.length,Z,.inl ⟨_,bT.of eP,xl.symm⟩,_,_,Z,Z,_,_,Z,d,ls2,ps2,[],_,false,Z,D3,by lia,λl H4 _ s4 D4=>?_⟩;rw [c3] at s4;have s24:=s2.trans s4;obtain⟨xs4,eP4,aP4⟩:=D4.parts;have xl4:=aP4.length;refine dz (v:=u) hu λu hu=>?_;refine⟨_,Z,d.S,_,1,_,Z,Z,D4.seqS,aJ (j:=1) Z,.inl ⟨Z,_,bT.of eP4⟩,?_⟩;refine⟨_,Z,d.S,_,4,_,Z,Z,D4.seqS,aJ (j:=4) Z,?_⟩;refine⟨_,Z,d.S,_,1,_,Z,Z,D4.seqS,aJ (j:=1) Z,.ref d.P,ps2.length,Z,.inl ⟨_,bT.of eP4,xl4.symm⟩,?_⟩;refine⟨d.c4,ps2.length,Z,by lia,λH5 s5=>?_⟩;have D5:=D4.keep s5;have c5:=s24.trans (D4.cut s5);have eP5:=s5 _ _ eP4;refine⟨by show 0<=sizeLine;lia,λa1 n1=>⟨_,Z,by show 1<=sizeLine;lia,λa2 n2=>⟨_,Z,_,Z,by show 2<=sizeLine;lia,λa3 n3=>⟨by show 5<=sizeLine;lia,λq nq=>?_⟩⟩⟩⟩;obtain⟨D6,z1,z2,z3⟩:=D5.two n1 n2 (y:=.lst [.str y2]);have t6:aO H5 (upd (upd H5 a1 (.lst [])) a2 (.lst [.str y2])):=(aB n1).trans (aB n2);have eP6:=t6 _ _ eP5;generalize upd (upd H5 a1 (.lst [])) a2 (.lst [.str y2])=H6 at D6 z1 z2 z3 t6 eP6 n3 nq ⊢;obtain⟨D7,y1,y2',y3⟩:=D6.two n3 nq (y:=.tup [.str "copy",.str (cJ d.c4 ps2.length),.ref a1,.ref a2,.ref a3]);have t7:aO H6 (upd (upd H6 a3 (.lst [.str bn,.str l.name])) q (.tup [.str "copy",.str (cJ d.c4 ps2.length),.ref a1,.ref a2,.ref a3])):=(aB n3).trans (aB nq);have eP7:=t7 _ _ eP6;generalize upd (upd H6 a3 (.lst [.str bn,.str l.name])) q (.tup [.str "copy",.str (cJ d.c4 ps2.length),.ref a1,.ref a2,.ref a3])=H7 at D7 y1 y2' y3 t7 eP7 ⊢;have c7:=c5.trans (z3.trans y3);refine⟨d.P,xs4,_,Z,Z,eP7,by lia,?_⟩;have D8:=D7.part (p:=⟨3,cJ d.c4 ps2.length,[],[y2],[bn,l.name]⟩) ⟨q,a1,a2,a3,rfl,y2',y3 _ _ z1,y3 _ _ z2,y1⟩ ⟨by show 3 <11;lia,rfl,rfl,rfl,by simp⟩ rfl eP7;have c8:bL d.E (upd H7 d.P (.lst (xs4 ++ [.ref q])))=bL d.E H7:=cM (by simp);generalize upd H7 d.P (.lst (xs4 ++ [.ref q]))=H8 at D8 c8 ⊢;subst hu;refine⟨_,Z,d.S,_,2,_,Z,Z,D8.seqS,aJ (j:=2) Z,.inl ⟨Z,_,bT.of D8.opens⟩,_,Z,d.O,_,_,Z,Z,D8.opens,by simp;lia,?_⟩;have D9:=D8.open (os':=[l.name]);have nd:=D9.nod (by rw [lP,length_singleton];lia);rw [hdr] at w2;have wc:=w2.closeBack (p:=⟨3,cJ d.c4 ps2.length,[],[y2],[bn,l.name]⟩) (rest:=back.drop (j+1)) (one:=y2) (b:=bn) (fresh:=l.name) rfl rfl (.refl _) rfl (by simpa using nd);subst hD;exact⟨ls2 ++ [l],_,l.name,_,_,_,Z,by rw [cM (by simp),c8];exact c7,D9,by simpa [uF] using wc,by rw [lP];lia,by rw [lP,length_singleton];lia,by rw [lP,length_singleton];lia,hC2.app⟩
   rintro σ H2 ⟨ls2,ps2,y2,u3,u6,u7,rfl,s2,D2,w2,hl2',hl3,hp3,hC2⟩;rw [lM] at w2 hl3 hp3;rw [List.drop_length] at w2;subst hu;refine⟨_,Z,_,Z,by show 0<=sizeLine;lia,λa3 n3=>?_⟩;have t3:=aB (o:=.lst []) n3;have D3:=D2.keep t3;have c3:=s2.trans (D2.cut t3);have o3:=D2.out n3;have e3:=dH (az (H:=H2) (a:=a3) (o:=.lst ([]:List V))) o3;generalize upd H2 a3 (.lst [])=H3 at t3 D3 c3 e3 ⊢;refine⟨_,Z,d.S,_,2,_,Z,Z,D3.seqS,aJ (j:=2) Z,.inl ⟨Z,_,bT.of D3.opens⟩,d.O,_,.str y2,Z,Z,D3.opens,Z,?_⟩;have D4:=D3.open (os':=[]);have c4:bL d.E (upd H3 d.O (.lst (([]:List Str).map V.str)))=bL d.E H3:=cM (by simp);rw [show([y2].map V.str).dropLast=([]:List Str).map V.str from rfl];refine⟨by show 1<=sizeLine;lia,λa4 n4=>?_⟩;generalize upd H3 d.O (.lst (([]:List Str).map V.str))=H4 at D4 c4 n4 ⊢;have s5:=aB (o:=.lst [.str y2]) n4;have D5:=D4.keep s5;have c5:=D4.cut s5;rw [c4] at c5;have e5:=dH (E:=d.E) (H:=upd H4 a4 (.lst [.str y2])) az (D4.out n4);refine⟨d,ls2,ps2,[],_,1,a3,a4,[],[y2],0,Z,D5,c5 _ _ e3,e5,by lia,Z,by simp,Z,Z,by lia,by lia,by simp,λnewl2 H9 hn2 s9 D9=>?_⟩;have hz:newl2=[]:=List.length_eq_zero_iff.mp hn2;subst hz;rw [map_nil,append_nil,append_nil] at D9;obtain⟨x1,x2,x3⟩:=w2.last (p:=⟨1,cJ d.c4 ps2.length,[],[y2],[]⟩) (y:=y2) rfl rfl rfl rfl;exact k ls2 _ H9 (c3.trans (c5.trans s9)) D9 ⟨w2.nod,x1,x2,y2,x3⟩ (by lia) hl2' (by rw [lP,length_singleton];lia) (by rw [lP,length_singleton];lia) hC2.app
 ·intro σ H' Q' Q'' hm hq;obtain⟨x1,x2,x3,x4,x5,x6,x7,x8,x9,x10,x11,x12,x13,x14,x15,x16,x17,x18,x19,x20,q⟩:=hq;exact⟨x1,x2,x3,x4,x5,x6,x7,x8,x9,x10,x11,x12,x13,x14,x15,x16,x17,x18,x19,x20,hm _ _ q⟩
inductive zF (K:Fr) (vs:List V) (H:Hp) (Q:VK) (E:XK):Prop where
 | mk:∀(a:Addr) (ns:List Int) (start steps:Nat) (odd:Bool),vs=[.ref a,.int (start:Nat),.int (steps:Nat),.bl odd]->bT K H a (ns.map V.int)->steps<=4->(∀(T L P:Addr) (ls:List aK) (ps:List PD) (H':Hp),aO H H'->H L=none->H P=none->L≠P->H' T=some (.tup [.ref L,.ref P])->Fq H' L P ls ps->QX (jU ns start) (jU ns (start+1)) ls ps->Q (.ref T) H')->zF K vs H Q E
noncomputable abbrev BL:List Str:=["_law_script", "_law_start", "_law_steps", "_law_odd", "_law_one", "_law_other", "_law_state", "_law_k", "_law_back", "_law_at"]
theorem Kh (T:Txt w K mg t):FO P w K mg base 7 t.Cw ["_law_script", "_law_start", "_law_steps", "_law_odd"] (zF K):=by
 have sc:=T.vZ.sc BL;refine T.vZ.F.ok sc ln (λ_ _ _ _ H vs Q E hr h=>?_);obtain⟨a,ns,start,steps,odd,rfl,hS,hst,k⟩:=h;refine⟨_,(au (sN sc 4 (dB (je T) T.f9 hr (aa (pv 0) (aa (pv 1) ao aj) aj)))
  (au (sN sc 5 (dB (je T) T.f9 hr (aa (pv 0) (aa (aX dG (pv 1) aq) ao bO) aj)))
  (au (sN sc 6 (bj (aa (bj ao) (aa (bj ao) (aa (bj ao) (aa (pv 4) (aa (pv 5) ao aj) aj) aV) aV) aV)))
  (au (fj PassesOwn.never rfl (jB rfl T.lX (aa (aX dG aq (aX bR (dB (aM T) T.aN hr (aa (pv 4) (aa aq ao ak) aj)) aq)) ao bO)) (gN sc 7)
   (aA (bK (dB (cG T) T.cz hr (@aa _ _ _ _ _ (pv 6) (@aa _ _ _ _ _ (dB (aM T) T.aN hr (aa (pv 5) (aa (pv 7) ao aj) aj)) (@aa _ _ _ _ _ bA (@aa _ _ _ _ _ (bj ao) (@aa _ _ _ _ _ (bj ao) (@aa _ _ _ _ _ aq ao ak) aV) aV) ak) bc) aj)))))
  (au (m9 (i:=8) [5,6] BL (bh (top 76)) rfl sc.nd rfl (jB rfl T.lX (aa (aX bR (dB (aM T) T.aN hr (aa (pv 4) (aa aq ao ak) aj)) aq) ao bO)) (λ_ _ _ _ _=>jw) (λ_ _ _ _ _=>(dB (jN T) T.iI hr (aa (pv 2) (aa (dB (aM T) T.aN hr (aa (pv 1) (aa (aX dG aq (pv 0)) ao bO) aj)) (aa fB ao ak) bc) aj))))
  (au (bK (z7 PySem.F.plainAttrs_list PySem.F.slot_list_extend PySem.F.type_list_extend Et (aU aR (pv 6) aq (λ_ _=>rfl)) (aa (pv 8) ao aj)))
  (au (fj PassesOwn.never rfl (jB rfl T.lX (aa (pv 2) ao aj)) (gN sc 7)
   (aA (bK (dB (Im T) T.tG hr (aa (pv 6) (aa (dB (je T) T.f9 hr (aa (pv 0) (aa (aX dG (aX dG (pv 1) aq) (pv 7)) ao bO) aj)) (aa (pv 3) ao aj) bc) aj)))))
  (au (bK (dB (Bq T) T.pO hr (aa (pv 6) (aa (pv 5) (aa (pv 8) ao aj) aj) aj)))
  (au (sN sc 9 (aX bR (dB (aM T) T.aN hr (aa (pv 4) (aa aq ao ak) aj)) (aY bN (by rfl) T.eE cL (aa (aU aR (pv 6) aq (λ_ _=>rfl)) ao aC))))
  (aA (aQ (bV (aa (aU aR (pv 6) aq (λ_ _=>rfl)) (aa (aX CV (qm Ba (aU aR (pv 6) aq (λ_ _=>rfl)) (uV (pv 9)) uP) (qm Ba (aU aR (pv 6) aq (λ_ _=>rfl)) uP (uV (pv 9)))) ao bO) aC))))))))))))),?_⟩
 have hl:sizeLine=16777216:=sizeLine_eq;refine hide λu hu=>?_;refine⟨_,Z,_,Z,a,ns,start,Z,hS,?_⟩;refine dz (v:=u) hu λu hu=>?_;refine⟨_,Z,_,Z,_,_,Z,Z,a,ns,start+1,Z,hS,?_⟩;refine dz (v:=u) hu λu hu=>?_;refine⟨by show 0<=sizeLine;lia,λL nL=>⟨by show 0<=sizeLine;lia,λP' nP=>⟨by show 0<=sizeLine;lia,λO nO=>⟨_,Z,_,Z,by show 5<=sizeLine;lia,λS nS=>?_⟩⟩⟩⟩;obtain⟨D1,s1,nP0⟩:=lZ.init (jU ns start) (jU ns (start+1)) nL nP nO nS;have nLP:L≠P':=D1.ne.1;refine dz (v:=u) hu λu hu=>?_;change sW _ _ _ [some (.ref a),some (.int (start:Nat)),some (.int (steps:Nat)),some (.bl odd),some (.int (jU ns start)),some (.int (jU ns (start+1))),some (.ref S),none,none,none] (upd (upd (upd (upd H L (.lst [])) P' (.lst [])) O (.lst [])) S (.lst [.ref L,.ref P',.ref O,.int (jU ns start),.int (jU ns (start+1))]));generalize upd (upd (upd (upd H L (.lst [])) P' (.lst [])) O (.lst [])) S (.lst [.ref L,.ref P',.ref O,.int (jU ns start),.int (jU ns (start+1))])=H1 at D1 s1 ⊢;obtain⟨d,hd⟩:∃d:Dw,d=⟨S,L,P',O,jU ns start,jU ns (start+1)⟩:=⟨_,rfl⟩;rw [<-hd] at D1;have hE:[L,P',O]=d.E:=by rw [hd]
 have hSd:S=d.S:=by rw [hd]
 have hLd:L=d.L:=by rw [hd]
 have hc3:jU ns start=d.c3:=by rw [hd]
 have hc4:jU ns (start+1)=d.c4:=by rw [hd]
 rw [hE] at s1;rw [hLd] at nL nLP;rw [hc3,hc4] at k;rw [hSd,hc3,hc4];clear hd hE nP nO nS;have g0:=emod_nonneg (bD d.c3 5) (show(2:Int)≠0 by decide);have g1:=emod_lt_of_pos (bD d.c3 5) (show(0:Int) <2 by decide);refine⟨_,Z,_,_,Z,_,_,Z,Z,by show(0:Int) <2;decide,_,_,Z,Z,1+bD d.c3 5 % 2,Z,by lia,by lia,?_⟩;obtain⟨g,hg,hg1,hg2⟩:∃g:Nat,(1+bD d.c3 5 % 2).toNat=g/\1<=g/\g<=2:=⟨_,rfl,by lia,by lia⟩;rw [hg];refine Gr (λj σ H2=>∃(ls:List aK) (ps:List PD) (os:List Str) (v7:Option V),σ=[some (.ref a),some (.int (start:Nat)),some (.int (steps:Nat)),some (.bl odd),some (.int d.c3),some (.int d.c4),some (.ref d.S),v7,none,none]/\aO (bL d.E H1) (bL d.E H2)/\lZ d H2 ls ps os/\Drawn.WF (uF ls ps os [])/\ls.length=j/\ps.length=j/\os.length=j/\(1<=j->Mj ps)) ⟨[],[],[],none,Z,aO.refl _,D1,Drawn.WF.start,Z,Z,Z,λh=>absurd h (by decide)⟩ ?_ ?_
 ·rintro j σ H2 hj ⟨ls,ps,os,v7,rfl,s2,D2,w2,h1,h2,h3,hC⟩;refine VP λDe hD=>?_;refine⟨_,Z,_,Z,_,Z,_,_,Z,by show 0<=sizeLine;lia,λa1 n1=>⟨by show 0<=sizeLine;lia,λa2 n2=>?_⟩⟩;obtain⟨D9,z1,z2,z3⟩:=D2.two n1 n2 (y:=.lst []);refine⟨d,ls,ps,os,_,0,a1,a2,[],[],1,Z,D9,z1,z2,by lia,Z,by simp,Z,Z,by lia,by lia,by lia,λnewl H8 hn s8 D8=>?_⟩;have w8:=qg w2 rfl D8 (.refl _) (by lia) (by rw [lP];lia);subst hD;exact⟨_,_,_,_,Z,s2.trans (z3.trans s8),D8,w8,by rw [lP];lia,by rw [lP,length_singleton];lia,by rw [lP,lM];lia,λ_=>by unfold Mj;rw [List.any_append];simp⟩
 rintro σ H2 ⟨ls,ps,os,v7,rfl,s2,D2,w2,h1,h2,h3,hC⟩;have b0:=emod_nonneg (bD d.c3 6) (show(3:Int)≠0 by decide);have b1:=emod_lt_of_pos (bD d.c3 6) (show(0:Int) <3 by decide);refine dz (v:=u) hu λu hu=>?_;refine⟨_,Z,_,_,Z,_,_,Z,Z,by show(0:Int) <3;decide,bD d.c3 6 % 3,Z,by lia,by lia,?_⟩;obtain⟨nb,hnb,hnb2⟩:∃nb:Nat,(bD d.c3 6 % 3).toNat=nb/\nb<=2:=⟨_,rfl,by lia⟩;rw [hnb];refine j6 (λj ys H3=>∃(ls3:List aK) (bl:List Str),ys=bl.map V.str/\bl.length=j/\aO (bL d.E H1) (bL d.E H3)/\lZ d H3 ls3 ps os/\Drawn.WF (uF ls3 ps (os ++ bl) bl)/\ls3.length=g+j) (by lia) ⟨ls,[],Z,Z,s2,D2,by rw [append_nil];exact w2,by lia⟩ (λj ys H3 ⟨_,bl,e,e2,_⟩=>by rw [e,lM];lia) ?_ ?_
 ·rintro j ys H3 hj ⟨ls3,bl,rfl,hb,s3,D3,w3,h4⟩;refine yes ⟨_,Z,_,Z,_,Z,_,_,Z,Z,_,_,Z,d,ls3,ps,os,_,true,Z,D3,by lia,λl H4 _ s4 D4=>?_⟩;have nd:=D4.nod (by rw [lP,length_singleton];lia);have wb:=w3.backLane (b:=l.name) (by simpa using nd);exact⟨ls3 ++ [l],bl ++ [l.name],by simp,by simp [hb],s3.trans s4,D4,by simpa [uF] using wb,by rw [lP,length_singleton];lia⟩
 rintro ys H3 ⟨ls3,bl,rfl,hbl,s3,D3,w3,h4⟩ B nB;have t4:=aB (o:=.lst (bl.map V.str)) nB;have D4:=D3.keep t4;have s4:=s3.trans (D3.cut t4);have eB:=dH (az (H:=H3) (a:=B) (o:=.lst (bl.map V.str))) (D3.out nB);generalize upd H3 B (.lst (bl.map V.str))=H4 at t4 D4 s4 eB ⊢;refine dz (v:=u) hu λu hu=>?_;refine⟨_,Z,d.S,_,2,_,Z,Z,D4.seqS,aJ (j:=2) Z,.inl ⟨Z,_,bT.of D4.opens⟩,_,Z,d.O,B,_,_,Z,Z,D4.opens,cY _ _ eB,by rw [lM,lM];lia,?_⟩;rw [<-map_append];have D5:=D4.open (os':=os ++ bl);have c5:bL d.E (upd H4 d.O (.lst ((os ++ bl).map V.str)))=bL d.E H4:=cM (by simp);generalize upd H4 d.O (.lst ((os ++ bl).map V.str))=H5 at D5 c5 ⊢;rw [<-c5] at s4 eB;refine dz (v:=u) hu λu hu=>?_;refine⟨_,Z,(steps:Int),Z,by lia,by lia,?_⟩;rw [toNat_natCast];refine Gr (λj σ H6=>∃(ls6:List aK) (ps6:List PD) (os6:List Str) (v7:Option V),σ=[some (.ref a),some (.int (start:Nat)),some (.int (steps:Nat)),some (.bl odd),some (.int d.c3),some (.int d.c4),some (.ref d.S),v7,some (.ref B),none]/\aO (bL d.E H5) (bL d.E H6)/\lZ d H6 ls6 ps6 os6/\Drawn.WF (uF ls6 ps6 os6 bl)/\1<=ls6.length/\ls6.length<=4+2 * j/\ps6.length<=2+2 * j/\os6≠[]/\os6.length<=4/\Mj ps6) ⟨ls3,ps,os ++ bl,v7,Z,aO.refl _,D5,w3,by lia,by lia,by lia,by intro z;have:=congrArg List.length z;rw [lP,length_nil] at this;lia,by rw [lP];lia,hC (by lia)⟩ ?_ ?_
 ·rintro j σ H6 hj ⟨ls6,ps6,os6,u7,rfl,s6,D6,w6,l0,l6,p6,o0,o6,hC6⟩;have hS6:bT K H6 a (ns.map V.int):=cY.seq ((s1.trans (s4.trans s6)).seq hS);refine VP λDe hD=>?_;refine⟨_,Z,_,Z,_,Z,_,_,Z,Z,_,Z,_,_,Z,Z,a,ns,start+2+(0+j),Z,hS6,_,Z,d,ls6,ps6,os6,_,bl,odd,Z,D6,w6,o0,o6,by lia,by lia,λls' ps' os' H' X=>?_⟩;subst hD;exact⟨ls',ps',os',_,Z,s6.trans X.cut,X.at',X.wf,by have h1:=X.wf.ins.length_eq;have h2:=X.o1;rw [lP,lM] at h1;change _+os'.length=_ at h1;lia,by have:=X.l2;lia,by have:=X.p2;lia,by intro z;have:=X.o1;rw [z] at this;simp at this,X.o4,X.gv hC6⟩
 rintro σ H6 ⟨ls6,ps6,os6,u7,rfl,s6,D6,w6,l0,l6,p6,o0,o6,hC6⟩;refine dz (v:=u) hu λu hu=>?_;refine⟨_,Z,_,Z,_,Z,d,ls6,ps6,os6,_,B,bl,Z,D6,w6,s6 _ _ eB,o0,o6,by lia,by lia,by lia,hC6,λls7 ps7 H7 s7 D7 W7 l17 l7 p16 p1 hC7=>?_⟩;obtain⟨xsL,eL,aL⟩:=D7.lanes;obtain⟨xsP,eP,aP⟩:=D7.parts;have xl:=aP.length;refine dz (v:=u) hu λu hu=>?_;refine⟨_,Z,_,_,Z,_,Z,d.S,_,1,_,Z,Z,D7.seqS,aJ (j:=1) Z,.ref d.P,ps7.length,Z,.inl ⟨_,bT.of eP,xl.symm⟩,bD d.c3 7,(ps7.length:Int),Z,Z,by lia,?_⟩;have r0:=emod_nonneg (bD d.c3 7) (show(ps7.length:Int)≠0 by lia);obtain⟨r,hr'⟩:∃r:Nat,bD d.c3 7 % (ps7.length:Int)=(r:Int):=⟨_,(Int.toNat_of_nonneg r0).symm⟩;dsimp only;rw [hr'];subst hu;refine⟨_,Z,d.S,_,0,_,Z,Z,D7.seqS,aJ (j:=0) Z,?_⟩;refine⟨_,Z,d.S,_,1,_,Z,Z,D7.seqS,aJ (j:=1) Z,?_⟩;refine⟨_,Z,_,Z,d.P,_,Z,bT.of eP,λq1 m1=>?_⟩;rw [Pj];have t1:=aB (o:=.lst (xsP.drop r)) m1;have f1:upd H7 q1 (.lst (xsP.drop r)) q1=some (.lst (xsP.drop r)):=az;have D8:=D7.keep t1;have eP8:=t1 _ _ eP;have eL8:=t1 _ _ eL;generalize upd H7 q1 (.lst (xsP.drop r))=H8 at t1 f1 D8 eP8 eL8 ⊢;refine⟨_,Z,d.S,_,1,_,Z,Z,D8.seqS,aJ (j:=1) Z,_,Z,_,Z,d.P,_,Z,bT.of eP8,λq2 m2=>?_⟩;rw [U9];have t2:=aB (o:=.lst (xsP.take r)) m2;have f2:upd H8 q2 (.lst (xsP.take r)) q2=some (.lst (xsP.take r)):=az;have f12:=t2 _ _ f1;have eL9:=t2 _ _ eL8;generalize upd H8 q2 (.lst (xsP.take r))=H9 at t2 f2 f12 eL9 ⊢;refine⟨q1,q2,_,_,Z,Z,f12,f2,by rw [length_drop,length_take];lia,λq3 m3=>?_⟩;have t3:=aB (o:=.lst (xsP.drop r ++ xsP.take r)) m3;have f3:upd H9 q3 (.lst (xsP.drop r ++ xsP.take r)) q3=some (.lst (xsP.drop r ++ xsP.take r)):=az;have eLA:=t3 _ _ eL9;generalize upd H9 q3 (.lst (xsP.drop r ++ xsP.take r))=HA at t3 f3 eLA ⊢;refine⟨by show 2<=sizeLine;lia,λT' nT=>?_⟩;have t4:=aB (o:=.tup [.ref d.L,.ref q3]) nT;have sA:aO H7 (upd HA T' (.tup [.ref d.L,.ref q3])):=t1.trans (t2.trans (t3.trans t4));have s17:aO H (bL d.E H7):=s1.trans (s4.trans (s6.trans s7));have s07:aO H H7:=s17.trans cY;have free3:H q3=none:=s07.free (t1.free (t2.free m3));have cA:aO (bL d.E H7) (upd HA T' (.tup [.ref d.L,.ref q3])):=cY.trans sA;have nq:d.L≠q3:=aF eL9 m3;have rp:=QS ps7 r;refine k T' d.L q3 ls7 (ps7.drop r ++ ps7.take r) _ (s07.trans sA) nL free3 nq az ⟨⟨xsL,t4 _ _ eLA,aL.imp λ_ _ h=>h.same cA⟩,⟨_,t4 _ _ f3,((aP.drop r).app (aP.take r)).imp λ_ _ h=>h.same cA⟩⟩ ⟨D7.lok,λp hp=>D7.pok p (rp.mem_iff.mpr hp),D7.ln,?_,W7.perm rp,by lia,l17,by rw [<-rp.length_eq];exact p1,by rw [<-rp.length_eq];exact p16,by unfold Mj at hC7 ⊢;rw [<-rp.any_eq];exact hC7⟩;rw [<-rp.length_eq,<-D7.pn];exact rp.map _
inductive BP (K:Fr) (vs:List V) (H:Hp) (Q:VK) (E:XK):Prop where
 | mk:∀x,vs=[x]->(((∃z:Str,x=.str z/\z.length<=100/\∀H',aO H H'->Q (.bl (nameB z)) H')∨∃Tx,V7 K H x Tx/\Tx∈iW/\Tx≠ "str" /\Q (.bl false) H))->BP K vs H Q E
theorem KZ (T:Txt w K mg t):FO P w K mg base 1 t.FZ ["thing"] (BP K):=by
 have sc:=T.yF.sc ["thing"];refine T.yF.F.ok sc ln (λ_ _ _ _ H vs Q E hr h=>?_);obtain⟨x,rfl,h⟩:=h;refine⟨_,(au (bQ (PW.pt (o8 (iM (fU (aY oA (by rfl) T.dY dD (aa (pv 0) (aa (rC (by rfl) T.Wc RP) ao aj) aj)))) (lW (iM (tH rO rO aq (aY bN (by rfl) T.eE cL (aa (pv 0) ao aj)) (il (by rfl) T.CN))))))
   (aA (aQ fB))
   bw)
  (aA (aQ (yU (qH yC (aU BZ (pv 0) aq (λ_ _=>rfl)) (il (by rfl) T.Gu) (by with_unfolding_all rfl)) (yR (aY (wJ rfl) (by rfl) T.Oc Hx (aa (gP [] ["thing"] (bh (top 24)) rfl (X7 (pv 0)) (λ_ _ _ _ _=>jw) (λ_ _ _ _ _=>(YS (qH yC (pv 0) (il (by rfl) T.Gu) (by with_unfolding_all rfl)) (yR (qH yC (pv 0) (il (by rfl) T.Pq) (by with_unfolding_all rfl)))))) ao fL))))))),?_⟩
 have hl:sizeLine=16777216:=sizeLine_eq;rcases h with ⟨z,rfl,hz,k⟩ | ⟨Tx,ty,hm,hne,k⟩
 ·refine⟨_,Z,.str z, "str", "str",true,Z,Z,by decide,by decide,_,Z,cQ ?_⟩;refine⟨_,Z,.str z,z.length,Z,⟨by lia,Z⟩,_,_,Z,Z,_,Z,?_⟩;cases e:z.cps.toList with
  | nil=>
   have h0:z.length=0:=by rw [<-mK,e];rfl
   rw [h0];refine cQ ⟨_,Z,fc ?_⟩;have:=k H (aO.refl _);unfold nameB at this;rw [e] at this;exact this
  | cons c r=>
   have hlen:z.length=r.length+1:=by rw [<-mK,e];rfl
   refine wg (by lia) ⟨_,_,Z,Z,_,Z,iD (λh=>?_) (λh=>?_)⟩
   ·have h8:¬(z.length:Int)<=8:=by simpa using h
    have:=k H (aO.refl _);unfold nameB at this;rw [e] at this;simp only [show ¬r.length<=7 by lia,decide_false,Bool.false_and] at this;exact this
   ·have h8:(z.length:Int)<=8:=by simpa using h
    have hc0:IW z.cps.toList 0=some c:=by rw [e];exact aJ (xs:=c:: r) (j:=0) rfl
    refine⟨_,Z,z,_,c,Z,Z,by lia,hc0,_,_,Z,Z,_,Z,?_⟩;have kk:∀H',aO H H'->Q (.bl (low c && z.cps.toList.all λd=>low d || Lq d)) H':=λH' s'=>by have:=k H' s';unfold nameB at this;rw [e] at this ⊢;simp only [show r.length<=7 by lia,decide_true,Bool.true_and] at this;exact this
    rw [Td];refine iD (λhc=>?_) (λhc=>?_)
    ·rw [hc,Bool.true_and] at kk;refine⟨_,Z,z,Z,Tq (λi ys H'=>H'=H/\ys=((z.cps.toList.take i).map λd=>low d || Lq d).map V.bl) (by simp only [Str.length] at hz;lia) ⟨Z,by simp⟩ (λi ys H' ⟨_,e⟩=>by rw [e];simp only [lM,length_take];lia) ?_ ?_⟩
     ·rintro i d ys H' hd ⟨rfl,rfl⟩;refine yes ⟨_,Z,_,_,Z,Z,_,Z,?_⟩;have hd':z.cps.toList[i]?=some d:=by simpa using hd
      have next:∀b,b=(low d || Lq d)->(((z.cps.toList.take i).map λd=>low d || Lq d).map V.bl) ++ [V.bl b]=((z.cps.toList.take (i+1)).map λd=>low d || Lq d).map V.bl:=λb hb=>by rw [List.take_add_one,hd',hb];simp
      rw [Td];refine iD (λhl'=>?_) (λhl'=>?_)
      ·exact⟨rfl,next true (by rw [hl'];rfl)⟩
      ·have hl2:low d=false:=by simpa using hl'
       refine⟨_,Z,_,_,Z,Z,Z,next _ ?_⟩;rw [Xx,hl2,Bool.false_or]
     ·rintro ys H' ⟨rfl,rfl⟩ D hD;refine⟨D,(z.cps.toList.take z.cps.size).map λd=>low d || Lq d,Z,bT.of az,?_⟩;have hall:((z.cps.toList.take z.cps.size).map λd=>low d || Lq d).all id=z.cps.toList.all λd=>low d || Lq d:=by rw [take_of_length_le (by simp),List.all_map];rfl
      rw [hall];exact kk _ (aB hD)
    ·have hc':low c=false:=by simpa using hc
     rw [hc',Bool.false_and] at kk;exact kk H (aO.refl _)
 ·have hb:Hg Tx "str" =false:=by simp only [iW,mem_cons,not_mem_nil,or_false] at hm;rcases hm with rfl | rfl | rfl | rfl | rfl | rfl | rfl <;> first | decide | exact absurd rfl hne
  exact⟨_,Z,x,Tx, "str",false,Z,ty,by decide,hb,_,Z,fc (fc k)⟩
inductive tE (K:Fr) (vs:List V) (H:Hp) (Q:VK) (E:XK):Prop where
 | mk:∀(a b:Addr) (xs ys:List V),vs=[.ref a,.ref b]->bT K H a xs->bT K H b ys->1<=xs.length->xs.length<=24->1<=ys.length->ys.length<=16->Q .non H->tE K vs H Q E
theorem Dl (T:Txt w K mg t):FO P w K mg base 1 t.vW ["lanes", "parts"] (tE K):=by
 have sc:=T.pP.sc ["lanes", "parts"];refine T.pP.F.ok sc ln (λ_ _ _ _ H vs Q E hr h=>?_);obtain⟨a,b,xs,ys,rfl,h1,h2,c1,c2,c3,c4,k⟩:=h;refine⟨_,(au (bQ (iM (tH rO rO aq (aY bN (by rfl) T.eE cL (aa (pv 0) ao aj)) (il (by rfl) T.Ij)))
   (aA eY)
   bw)
  (aA (bQ (iM (tH rO rO aq (aY bN (by rfl) T.eE cL (aa (pv 1) ao aj)) (il (by rfl) T.GJ)))
   (aA eY)
   bw))),?_⟩
 have hl:sizeLine=16777216:=sizeLine_eq;refine⟨_,Z,.ref a,xs.length,Z,.inl ⟨_,h1,Z⟩,_,_,Z,Z,_,Z,wg (by lia) ⟨_,_,Z,Z,_,Z,?_⟩⟩;rw [show decide ((xs.length:Int)<=24)=true from decide_eq_true (by lia)];refine cQ ?_;refine⟨_,Z,.ref b,ys.length,Z,.inl ⟨_,h2,Z⟩,_,_,Z,Z,_,Z,wg (by lia) ⟨_,_,Z,Z,_,Z,?_⟩⟩;rw [show decide ((ys.length:Int)<=16)=true from decide_eq_true (by lia)];exact cQ k
inductive vQ (K:Fr) (vs:List V) (H:Hp) (Q:VK) (E:XK):Prop where
 | mk:∀(z:Str) (d:Addr) (kvs:List (Key×V)),vs=[.str z,.ref d]->H d=some (.dK kvs)->nameB z=true->z.length<=100->b8 kvs (Sum.inr z)=none->(∀H',aO H H'->Q .non H')->vQ K vs H Q E
theorem u5 (T:Txt w K mg t):FO P w K mg base 2 t.yu ["name", "known"] (vQ K):=by
 have sc:=T.mz.sc ["name", "known"];refine T.mz.F.ok sc ln (λ_ _ _ _ H vs Q E hr h=>?_);obtain⟨z,d,kvs,rfl,hd,hz,hl,hv,k⟩:=h;refine⟨_,(au (bQ (iM (fU (dB (KZ T) T.yF hr (aa (pv 0) ao aj))))
   (aA eY)
   bw)
  (aA (bQ (j8 (yX hr.u1 (pv 0) (pv 1)))
   (aA eY)
   bw))),?_⟩
 refine⟨_,Z,.str z,Z,.inl ⟨z,Z,hl,λH1 s1=>?_⟩⟩;rw [hz];refine⟨_,Z,cQ ?_⟩;refine⟨_,Z,_,Z,d,_,Z,fP.k (k:=Sum.inr z) (s1 _ _ hd),?_⟩;rw [hv];exact⟨_,Z,cQ (k _ s1)⟩
inductive wZ (K:Fr) (vs:List V) (H:Hp) (Q:VK) (E:XK):Prop where
 | mk:∀(nm:V) (room:Int) (L:Addr) (ws:List Int),vs=[nm,.int room,.ref L]->xm K H L (ws.map V.int)->ws.length<=1000->((∀v∈ws,0<=v/\v <1000000000))->1<=room->(ws.length:Int)<=room->room<=199->(∀H',aO H H'->Q .non H')->wZ K vs H Q E
theorem Hj (T:Txt w K mg t):FO P w K mg base 3 t.zJ ["name", "room", "first"] (wZ K):=by
 have sc:=T.tK.sc ["name", "room", "first"];refine T.tK.F.ok sc ln (λ_ _ _ _ H vs Q E hr h=>?_);obtain⟨nm,room,L,ws,rfl,hL,hw,hB,c1,c2,c3,k⟩:=h;refine⟨_,(au (bQ (PW.pt (o8 (iM (fU (dB (sJ T) T.m5 hr (aa (pv 1) ao aj)))) (lW (iM (tH rO rO (aY (Fv rfl) (by rfl) T.Q5 Ly (aa aq (aa (aY bN (by rfl) T.eE cL (aa (pv 2) ao aj)) ao bc) ak)) (pv 1) (il (by rfl) T.Ji))))))
   (aA eY)
   bw)
  (aA (bQ (iM (fU (aY (wJ rfl) (by rfl) T.Oc Hx (aa (gP [] ["name", "room", "first"] (bh (top 57)) rfl (WL (cX (pv 2)) (Hy (pv 2))) (λ_ _ _ _ _=>jw) (λ_ _ _ _ _=>(dB (sE T) T.nY hr (aa (pv 0) ao aj)))) ao fL))))
   (aA eY)
   bw))),?_⟩
 have hl:sizeLine=16777216:=sizeLine_eq;have hlw:(ws.map V.int).length=ws.length:=lM ..;refine⟨_,Z,.int room, "int",true,Z,Z,by decide,by decide,true,Z,cQ ?_⟩;refine⟨_,Z,.ref L,(ws.map V.int).length,Z,hL.len,_,_,Z,_,Z,_,_,Z,Z,_,Z,wg ?_ ⟨_,_,Z,Z,_,Z,?_⟩⟩
 ·split <;> lia
 rw [show decide (room<=199)=true from decide_eq_true c3];refine cQ ?_;refine SN (a:=L) (xs:=ws.map V.int) ?_ hL (λj ys=>ys=(List.replicate j true).map V.bl) (by rw [lM];lia) rfl (λj ys e=>by rw [e];simp) (λj x ys hx e=>?_) (λys e D hD=>?_)
 ·exact λR r=>⟨_,Z,r⟩
 ·subst e;rw [getElem?_map] at hx;obtain⟨n,hn,rfl⟩:=map_eq_some_iff.mp hx;obtain⟨n0,n1⟩:=hB n (mem_of_getElem? hn);refine yes ⟨_,Z,.int n,Z,.inl ⟨n,Z,Z,?_⟩⟩;rw [decide_eq_true n0,decide_eq_true n1,List.replicate_succ'];simp
 ·subst e;refine⟨D,_,Z,bT.of az,_,Z,?_⟩;rw [show((List.replicate (ws.map V.int).length true).all id)=true by simp];exact cQ (k _ (aB hD))
inductive vm (K:Fr) (t:mL) (vs:List V) (H:Hp) (Q:VK) (E:XK):Prop where
 | mk:∀(i:Nat) (nm:Str) (r d a1 a2 a3:Addr) (ns is os:List V) (kvs:List (Key×V)),vs=[.ref r,.ref d]->H r=some (.tup [.str (eU i),.str nm,.ref a1,.ref a2,.ref a3])->i<=10->H d=some (.dK kvs)->nameB nm=true->nm.length<=100->b8 kvs (Sum.inr nm)=none->xm K H a1 ns->xm K H a2 is->xm K H a3 os->ns.length=cN i->is.length=cI i->os.length=cO i->((∀v∈ns,Val v))->(∀H' p,aO H H'->H p=none->fC K t H' p i (.str nm) ns is os->Q (.ref p) H')->vm K t vs H Q E
theorem Ep (T:Txt w K mg t):FO P w K mg base 5 t.wV ["row", "known"] (vm K t):=by
 have sc:=T.qL.sc ["row", "known"];refine T.qL.F.ok sc ln (λ_ _ _ _ H vs Q E hr h=>?_);obtain⟨i,nm,r,d,a1,a2,a3,ns,is,os,kvs,rfl,hr1,hi,hd,hz,hl,hv,q1,q2,q3,l1,l2,l3,hV,k⟩:=h;refine⟨_,(au (bQ (iM (fU (dB (Bc T) T.uQ hr (aa (aU dI (pv 0) aq (λ_ _=>Z)) ao aC))))
   (aA eY)
   bw)
  (au (bK (dB (u5 T) T.mz hr (aa (aU dI (pv 0) aq (λ_ _=>rfl)) (aa (pv 1) ao aj) aC)))
  (aA (aQ (dB (Ir T) T.zu hr (aa (aU dI (pv 0) aq (λ_ _=>rfl)) (aa (aU dI (pv 0) aq (λ_ _=>rfl)) (aa (aU dI (pv 0) aq (λ_ _=>rfl)) (aa (aU dI (pv 0) aq (λ_ _=>rfl)) (aa (aU dI (pv 0) aq (λ_ _=>rfl)) ao aC) aC) aC) aC) aC)))))),?_⟩
 refine⟨_,Z,r,_,0,_,Z,Z,fZ.of hr1,aJ (j:=0) Z,eU i,Z,?_⟩;rw [row_of];refine⟨_,Z,cQ ?_⟩;refine⟨_,Z,r,_,1,_,Z,Z,fZ.of hr1,aJ (j:=1) Z,_,Z,nm,d,kvs,Z,hd,hz,hl,hv,λH1 s1=>?_⟩;have e1:=fZ.of (K:=K) (s1 _ _ hr1);exact⟨_,Z,r,_,0,_,Z,Z,e1,aJ (j:=0) Z,_,Z,r,_,1,_,Z,Z,e1,aJ (j:=1) Z,_,Z,r,_,2,_,Z,Z,e1,aJ (j:=2) Z,_,Z,r,_,3,_,Z,Z,e1,aJ (j:=3) Z,_,Z,r,_,4,_,Z,Z,e1,aJ (j:=4) Z,i,.str nm,a1,a2,a3,ns,is,os,Z,hi,s1.seqA q1,s1.seqA q2,s1.seqA q3,l1,l2,l3,hV,λH2 p s2 np P=>k _ p (s1.trans s2) (s1.free np) P⟩
inductive xM (K:Fr) (vs:List V) (H:Hp) (Q:VK) (E:XK):Prop where
 | mk:∀(y:Str) (a rd d:Addr) (zs:List Str) (rk kvs:List (Key×V)),vs=[.str y,.ref a,.ref rd,.ref d]->fZ K H a (zs.map V.str)->H rd=some (.dK rk)->rd≠d->H d=some (.dK kvs)->zs.Nodup->((∀z∈zs,(b8 rk (Sum.inr z)).isSome=true/\b8 kvs (Sum.inr z)=none))->kvs.length+zs.length<=1000->(Q .non (upd H d (.dK (kvs ++ zs.map λl=>((Sum.inr l:Key),V.str y)))))->xM K vs H Q E
theorem xj (T:Txt w K mg t):FO P w K mg base 1 t.zW ["part", "lanes", "rooms", "ends"] (xM K):=by
 have sc:=T.oX.sc ["part", "lanes", "rooms", "ends", "lane"];refine T.oX.F.ok sc ln (λ_ _ _ _ H vs Q E hr h=>?_);obtain⟨y,a,rd,d,zs,rk,kvs,rfl,hT,hrd,hne,hd,nd,hz,hlen,k⟩:=h;refine⟨_,(aA (fj PassesOwn.never Z (Hy (pv 1)) (gN sc 4)
   (au (bQ (PW.pt (o8 (j8 (uN hr.u1 (pv 4) (pv 2))) (lW (j8 (yX hr.u1 (pv 4) (pv 3))))))
    (aA eY)
    bw)
   (aA (jt hr.u1 (pv 3) (pv 4) (pv 0) rfl))))),?_⟩
 have hl:sizeLine=16777216:=sizeLine_eq;refine⟨_,rfl,a,rfl,⟨_,hT⟩,Ui (K:=K) (a:=a) (xs:=zs.map V.str) (λj σ H'=>H'=upd H d (.dK (kvs ++ (zs.take j).map λl=>((Sum.inr l:Key),V.str y)))/\∃v4,σ=[some (.str y),some (.ref a),some (.ref rd),some (.ref d),v4]) ⟨by rw [List.take_zero,map_nil,append_nil,Lr hd],none,rfl⟩ (λj σ H' _ ⟨e,_⟩=>by rw [e];exact fM hd hT) ?_ ?_⟩
 ·rintro j x σ H' hx ⟨rfl,v4,rfl⟩;rw [getElem?_map] at hx;obtain⟨z,hzj,rfl⟩:=map_eq_some_iff.mp hx;have hj:j <zs.length:=(List.getElem?_eq_some_iff.mp hzj).1;obtain⟨r1,r2⟩:=hz z (mem_of_getElem? hzj);obtain⟨rv,hrv⟩:=isSome_iff_exists.mp r1;have erd:upd H d (.dK (kvs ++ (zs.take j).map λl=>((Sum.inr l:Key),V.str y))) rd=some (.dK rk):=by rw [aH hne];exact hrd
  have nin:z∉zs.take j:=λhm=>by
   obtain⟨i,hi,ei⟩:=mem_iff_getElem.mp hm;rw [length_take] at hi;rw [List.getElem_take] at ei;have e2:zs[j]=z:=by rw [getElem?_eq_getElem hj] at hzj;exact Option.some.inj hzj
   have:=(getElem_inj nd).mp (ei.trans e2.symm)
   lia
  have none':b8 (kvs ++ (zs.take j).map λl=>((Sum.inr l:Key),V.str y)) (Sum.inr z)=none:=ik (by
   rw [map_append,mem_append,not_or];refine⟨λhm=>?_,λhm=>?_⟩
   ·have:(b8 kvs (Sum.inr z)).isSome=true:=by rw [<-qx];obtain⟨p,hp,e⟩:=mem_map.mp hm;exact any_eq_true.mpr ⟨p,hp,decide_eq_true e⟩
    rw [r2] at this;cases this
   ·rw [map_map] at hm;obtain⟨b,hb,e⟩:=mem_map.mp hm;cases e;exact nin hb)
  refine⟨_,rfl,_,rfl,rd,some rv,rfl,(by rw [<-hrv];exact fP.k (k:=Sum.inr z) erd),_,rfl,cQ ?_⟩;refine⟨_,rfl,_,rfl,d,none,rfl,(by rw [<-none'];exact fP.k (k:=Sum.inr z) az),_,rfl,cQ ?_⟩;refine⟨_,rfl,_,rfl,_,rfl,d,_,rfl,qW.k (k:=Sum.inr z) az (by rw [lP,lM,length_take];lia),?_,_,rfl⟩;rw [xJ,lA _ none',append_assoc,take_succ,hzj,toList_some,map_append];rfl
 ·rintro σ H' ⟨rfl,v4,rfl⟩;rw [lM,take_length];exact k
inductive xF (K:Fr) (vs:List V) (H:Hp) (Q:VK) (E:XK):Prop where
 | mk:∀(r g d:Addr) (rk gk tk:List (Key×V)),vs=[.ref r,.ref g,.ref d]->H r=some (.dK rk)->H g=some (.dK gk)->H d=some (.dK tk)->r≠g->r≠d->((∀q∈rk,(b8 gk q.1).isSome=true/\(b8 tk q.1).isSome=true))->Q .non H->xF K vs H Q E
theorem Hm (T:Txt w K mg t):FO P w K mg base 1 t.zV ["rooms", "givers", "takers"] (xF K):=by
 have sc:=T.sY.sc ["rooms", "givers", "takers", "lane"];refine T.sY.F.ok sc ln (λ_ _ _ _ H vs Q E hr h=>?_);obtain⟨r,g,d,rk,gk,tk,rfl,h1,h2,h3,n1,n2,hA,k⟩:=h;refine⟨_,(aA (J1 (H0:=H) Z (fj PassesOwn.never Z (HS (pv 0)) (gN sc 3)
   (aA (bQ (PW.pt (o8 (j8 (uN hr.u1 (pv 3) (pv 1))) (lW (j8 (uN hr.u1 (pv 3) (pv 2))))))
    (aA eY)
    bw))))),?_⟩
 refine⟨_,Z,r,_,Z,h1,λo=>Jt (λj σ H'=>H'=upd H r (.frz o (.dK rk))/\∃v3,σ=[some (.ref r),some (.ref g),some (.ref d),v3]) ⟨Z,none,Z⟩ (λj σ H' _ ⟨e,_⟩=>by rw [e];exact az) ?_ ?_⟩
 ·rintro j kk w σ H' hj ⟨rfl,v3,rfl⟩;obtain⟨a1,a2⟩:=hA _ (mem_of_getElem? hj);obtain⟨u1,b1⟩:=isSome_iff_exists.mp a1;obtain⟨u2,b2⟩:=isSome_iff_exists.mp a2;have e2:upd H r (.frz o (.dK rk)) g=some (.dK gk):=by rw [aH (Ne.symm n1)];exact h2
  have e3:upd H r (.frz o (.dK rk)) d=some (.dK tk):=by rw [aH (Ne.symm n2)];exact h3
  exact⟨_,rfl,_,rfl,g,some u1,rfl,(by rw [<-b1];exact fP.k e2),_,rfl,cQ ⟨_,rfl,_,rfl,d,some u2,rfl,(by rw [<-b2];exact fP.k e3),_,rfl,cQ ⟨rfl,_,rfl⟩⟩⟩
 ·rintro σ H' ⟨rfl,v3,rfl⟩;refine⟨_,⟨r,o,_,az,?_,Z⟩,?_⟩
  ·intro o' u' z;rw [show H r=_ from h1] at z;cases z
  ·rw [xJ,Lr h1];exact k
noncomputable def RG (H:Hp) (J:Addr):List (Key×V):=match H J with
 | some (.dK jk)=>jk
 | _=>[]
theorem Nf {H:Hp} {J:Addr} {jk:List (Key×V)} (h:H J=some (.dK jk)):RG H J=jk:=by unfold RG;rw [h]
theorem Sh {f:PD->List Str} {ps:List PD} {j:Nat} {k:Key} {v:V} (h:(cP f ps)[j]?=some (k,v)):∃p∈ps,∃l∈f p,k=Sum.inr l/\v=.str p.name:=by have:=mem_of_getElem? h;unfold cP at this;obtain⟨p,hp,hm⟩:=mem_flatMap.mp this;obtain⟨l,hl,e⟩:=mem_map.mp hm;cases e;exact⟨p,hp,l,hl,Z,Z⟩
noncomputable def Tz (ps:List PD) (jk:List (Key×V)) (j:Nat):Prop:=∀i k v,i <j->(cP (·.outs) ps)[i]?=some (k,v)->∀a∈ps,∀b∈ps,∀l,k=Sum.inr l->l∈a.outs->l∈b.ins->gm jk a.name=gm jk b.name
theorem Tz.all {ps:List PD} {jk:List (Key×V)} (h:Tz ps jk (cP (·.outs) ps).length):∀a∈ps,∀b∈ps,∀l,l∈a.outs->l∈b.ins->gm jk a.name=gm jk b.name:=λa ha b hb l la lb=>by have hm:((Sum.inr l:Key),V.str a.name)∈cP (·.outs) ps:=mem_flatMap.mpr ⟨a,ha,mem_map.mpr ⟨l,la,rfl⟩⟩;obtain⟨i,hi,ei⟩:=mem_iff_getElem.mp hm;exact h i _ _ hi (by rw [getElem?_eq_getElem hi,ei]) a ha b hb l rfl la lb
inductive ud (K:Fr) (vs:List V) (H:Hp) (Q:VK) (E:XK):Prop where
 | mk:∀(p0:PD) (g d:Addr) (ps:List PD),vs=[.str p0.name,.ref g,.ref d]->p0∈ps->ps.length<=16->H g=some (.dK (cP (·.outs) ps))->H d=some (.dK (cP (·.ins) ps))->g≠d->(ps.flatMap (·.outs)).Nodup->(ps.flatMap (·.ins)).Nodup->(ps.flatMap (·.outs)).Perm (ps.flatMap (·.ins))->((∃y,∀q∈ps,∃x∈q.ins ++ q.outs,Drawn.jl ps x y))->(∀H' J jk,aO H H'->H' J=some (.dK jk)->(∀p∈ps,gm jk p.name=true)->Q (.ref J) H')->ud K vs H Q E
theorem Bt (T:Txt w K mg t):FO P w K mg base 1 t.vz ["part", "givers", "takers"] (ud K):=by
 have sc:=T.pL.sc ["part", "givers", "takers", "joined", "grown", "lane"];refine T.pL.F.ok sc ln (λ_ _ _ _ H vs Q E hr h=>?_);obtain⟨p0,g,d,ps,rfl,hp0,hps,h1,h2,n1,no,ni,pm,hang,k⟩:=h;refine⟨_,(au (sN sc 3 (Vx (Qp (pv 0) fB Uq) Z Z (by simp) (by decide)))
  (au (sN sc 4 fB)
  (au (xR PassesOwn.never (fU (pv 4))
   (au (sN sc 4 fB)
   (aA (J1 (H0:=H) rfl (fj PassesOwn.never rfl (HS (pv 1)) (gN sc 5)
    (aA (eO (bQ (bf JM (BJ (yX hr.u1 (fu hr.u1 (pv 1) (pv 5) (λ_ _=>rfl)) (pv 3))) (BJ (yX hr.u1 (fu hr.u1 (pv 2) (pv 5) (λ_ _=>rfl)) (pv 3))) (bH _))
     (au (jt hr.u1 (pv 3) (fu hr.u1 (pv 1) (pv 5) (λ_ _=>rfl)) fB rfl)
     (au (jt hr.u1 (pv 3) (fu hr.u1 (pv 2) (pv 5) (λ_ _=>rfl)) fB rfl)
     (aA (sN sc 4 fB))))
     bw))))))))
  (aA (aQ (pv 3)))))),?_⟩
 have hl:sizeLine=16777216:=sizeLine_eq;refine λJ nJ=>⟨_,Z,az,[((Sum.inr p0.name:Key),V.bl true)],Z,by show 1<=15;decide,?_⟩;rw [xJ];have s0:aO H (upd H J (.dK (sX [] [((Sum.inr p0.name:Key),V.bl true)]))):=aB nJ;have e0:(upd H J (.dK (sX [] [((Sum.inr p0.name:Key),V.bl true)]))) J=some (.dK [((Sum.inr p0.name:Key),V.bl true)]):=az;generalize upd H J (.dK (sX [] [((Sum.inr p0.name:Key),V.bl true)]))=H0 at s0 e0 ⊢;have ngJ:J≠g:=Ne.symm (aF h1 nJ);have ndJ:J≠d:=Ne.symm (aF h2 nJ);have melt:∀{H':Hp} {o:Obj},lC g H H'->H' g=some (.frz o (.dK (cP (·.outs) ps)))->aO H (upd H' g (.dK (cP (·.outs) ps))):=λhb hg b u e=>by
  by_cases h:b=g
  ·subst h;rw [az];rw [h1] at e;exact e
  ·rw [aH h];exact hb b u h e
 have m0:mW ps [((Sum.inr p0.name:Key),V.bl true)]<=16:=le_trans (length_filter_le _ _) hps;refine wN (λσ H'=>aO H H'/\∃b v5 jk,σ=[some (.str p0.name),some (.ref g),some (.ref d),some (.ref J),some (.bl b),v5]/\H' J=some (.dK jk)/\gm jk p0.name=true/\jk.length+2 * mW ps jk<=40/\(b=false->Tz ps jk (cP (·.outs) ps).length))
  (λσ H'=>match σ with | [_,_,_,_,some (.bl b),_]=>(if b then 1 else 0)+2 * mW ps (RG H' J) | _=>0) ⟨s0,true,none,_,rfl,e0,by simp [gm,b8],by rw [length_singleton];lia,by intro z;cases z⟩ ?_ ?_
 ·rintro σ H1 ⟨s1,b,v5,jk,rfl,hJ,hp,hlen,hev⟩;cases b with
  | false=>exact⟨_,rfl,_,rfl,cQ ⟨_,rfl,k _ J jk s1 hJ (Xc no ni pm hang (hev rfl).all hp0 hp)⟩⟩
  | true=>
   refine⟨_,Z,_,Z,fc ?_⟩;refine⟨_,Z,g,_,Z,s1 _ _ h1,λo=>?_⟩;have gD:∀{H':Hp},lC g H H'->H' d=some (.dK (cP (·.ins) ps)):=λhb=>hb d _ (Ne.symm n1) h2;refine Jt (λj σ H'=>lC g H H'/\H' g=some (.frz o (.dK (cP (·.outs) ps)))/\∃b v5 jk',σ=[some (.str p0.name),some (.ref g),some (.ref d),some (.ref J),some (.bl b),v5]/\H' J=some (.dK jk')/\gm jk' p0.name=true/\jk'.length+2 * mW ps jk'<=40/\((b=false/\jk'=jk/\Tz ps jk j)∨(b=true/\mW ps jk' <mW ps jk)))
    ⟨λb u hn e=>by rw [aH hn];exact s1 b u e,az,false,v5,jk,rfl,by rw [aH ngJ];exact hJ,hp,hlen,.inl ⟨rfl,rfl,λi _ _ hi=>absurd hi (by lia)⟩⟩ (λj σ H' _ h=>h.2.1) ?_ ?_
   ·rintro j kk w σ H' hj ⟨hb,hg,b,v5,jk',rfl,hJ',hp',hlen',hv⟩;obtain⟨a,ha,l,la,rfl,rfl⟩:=Sh hj;obtain⟨b',hb',lb⟩:=mem_flatMap.mp (pm.mem_iff.mp (mem_flatMap.mpr ⟨a,ha,la⟩));have ga:fP H' g (.str l) (some (.str a.name)):=.inl ⟨_,Sum.inr l,.inr ⟨o,hg⟩,rfl,(iV no ha la).symm⟩;have gb:fP H' d (.str l) (some (.str b'.name)):=by rw [<-iV ni hb' lb];exact fP.k (k:=Sum.inr l) (gD hb)
    have ja:fP H' J (.str a.name) (b8 jk' (Sum.inr a.name)):=fP.k (k:=Sum.inr a.name) hJ';have jb:fP H' J (.str b'.name) (b8 jk' (Sum.inr b'.name)):=fP.k (k:=Sum.inr b'.name) hJ';have nm:∀a2∈ps,∀b2∈ps,l∈a2.outs->l∈b2.ins->a2.name=a.name/\b2.name=b'.name:=λa2 ha2 b2 hb2 q1 q2=>by have e1:=iV no ha2 q1;rw [iV no ha la] at e1;have e2:=iV ni hb2 q2;rw [iV ni hb' lb] at e2;simp only [Option.some.injEq,V.str.injEq] at e1 e2;exact⟨e1.symm,e2.symm⟩
    refine⟨λσ H''=>lC g H H''/\H'' g=some (.frz o (.dK (cP (·.outs) ps)))/\∃b jk'',σ=[some (.str p0.name),some (.ref g),some (.ref d),some (.ref J),some (.bl b),some (.str l)]/\H'' J=some (.dK jk'')/\gm jk'' p0.name=true/\jk''.length+2 * mW ps jk''<=40/\((b=false/\jk''=jk/\Tz ps jk (j+1))∨(b=true/\mW ps jk'' <mW ps jk)),?_,?_⟩
    ·refine⟨_,Z,_,Z,g,_,Z,ga,_,Z,J,_,Z,ja,?_⟩;refine⟨_,Z,_,Z,d,_,Z,gb,_,Z,J,_,Z,jb,Z,_,Z,?_⟩;change if (!decide (V.bl (gm jk' a.name)=V.bl (gm jk' b'.name)))=true then _ else _;refine iD (λhne=>?_) (λheq=>?_)
     ·have hne':gm jk' a.name≠gm jk' b'.name:=λz=>by rw [z] at hne;simp at hne
      refine⟨_,Z,_,Z,_,Z,g,_,Z,ga,J,_,Z,qW.k (k:=Sum.inr a.name) hJ' (by lia),?_⟩;have b2:lC g H (upd H' J (.dK (putK jk' (Sum.inr a.name) (.bl true)))):=λx u hn e=>by rw [aH (aF e nJ)];exact hb x u hn e
      have g2:(upd H' J (.dK (putK jk' (Sum.inr a.name) (.bl true)))) g=some (.frz o (.dK (cP (·.outs) ps))):=by rw [aH (Ne.symm ngJ)];exact hg
      have gb2:fP (upd H' J (.dK (putK jk' (Sum.inr a.name) (.bl true)))) d (.str l) (some (.str b'.name)):=by rw [<-iV ni hb' lb];exact fP.k (k:=Sum.inr l) (gD b2)
      have len1:=jE jk' (Sum.inr a.name:Key) (.bl true);have len2:=jE (putK jk' (Sum.inr a.name) (.bl true)) (Sum.inr b'.name:Key) (.bl true);refine⟨_,Z,_,Z,_,Z,d,_,Z,gb2,J,_,Z,qW.k (k:=Sum.inr b'.name) az (by lia),?_⟩;rw [xJ];have has2:∀x,gm (putK (putK jk' (Sum.inr a.name) (.bl true)) (Sum.inr b'.name) (.bl true)) x=(decide (x=b'.name) || (decide (x=a.name) || gm jk' x)):=λx=>by rw [J3,J3]
      have mono:∀x,gm jk' x=true->gm (putK (putK jk' (Sum.inr a.name) (.bl true)) (Sum.inr b'.name) (.bl true)) x=true:=λx hx=>by rw [has2,hx];simp
      have lt:mW ps (putK (putK jk' (Sum.inr a.name) (.bl true)) (Sum.inr b'.name) (.bl true)) <mW ps jk':=by
       cases hA:gm jk' a.name
       ·exact JZ mono ha hA (by rw [has2];simp)
       ·cases hB:gm jk' b'.name
        ·exact JZ mono hb' hB (by rw [has2];simp)
        ·rw [hA,hB] at hne';exact absurd rfl hne'
      refine⟨λx u hn e=>by rw [aH (aF e nJ)];exact hb x u hn e,by rw [aH (Ne.symm ngJ)];exact hg,true,_,rfl,az,mono _ hp',by lia,.inr ⟨rfl,?_⟩⟩;rcases hv with ⟨_,rfl,_⟩ | ⟨_,hv⟩
      ·exact lt
      ·lia
     ·have heq':gm jk' a.name=gm jk' b'.name:=by cases hA:gm jk' a.name <;> cases hB:gm jk' b'.name <;> rw [hA,hB] at heq <;> simp_all
      refine⟨hb,hg,b,jk',Z,hJ',hp',hlen',?_⟩;rcases hv with ⟨rfl,rfl,hE⟩ | hv
      ·refine .inl ⟨Z,Z,λi k2 v2 hi e2 a2 ha2 b2 hb2 l2 ek q1 q2=>?_⟩;rcases Nat.lt_or_ge i j with h | h
       ·exact hE i k2 v2 h e2 a2 ha2 b2 hb2 l2 ek q1 q2
       ·have:i=j:=by lia
        subst this;rw [hj] at e2;cases e2;cases ek;obtain⟨x1,x2⟩:=nm a2 ha2 b2 hb2 q1 q2;rw [x1,x2];exact heq'
      ·exact .inr hv
    ·rintro σ H'' ⟨hb,hg,b,jk'',rfl,r⟩;exact⟨hb,hg,b,_,jk'',Z,r⟩
   ·rintro σ H' ⟨hb,hg,b,v5',jk',rfl,hJ',hp',hlen',hv⟩;refine⟨_,⟨g,o,_,hg,(λo' u' z=>by rw [show H g=_ from h1] at z;cases z),rfl⟩,?_⟩;have eJ:(upd H' g (.dK (cP (·.outs) ps))) J=some (.dK jk'):=by rw [aH ngJ];exact hJ'
    refine⟨⟨melt hb hg,b,v5',jk',Z,eJ,hp',hlen',λz=>?_⟩,?_⟩
    ·rcases hv with ⟨_,rfl,hE⟩ | ⟨h,_⟩
     ·exact hE
     ·rw [h] at z;cases z
    ·show(if b=true then 1 else 0)+2 * mW ps (RG _ J) <(if true=true then 1 else 0)+2 * mW ps (RG _ J);rw [Nf eJ,Nf hJ];rcases hv with ⟨rfl,rfl,_⟩ | ⟨rfl,h⟩
     ·simp
     ·simp;lia
 ·intro σ H' Q' Q'' hm hq;obtain⟨v,e,b,e2,q⟩:=hq;exact⟨v,e,b,e2,hm _ _ q⟩
inductive um (K:Fr) (vs:List V) (H:Hp) (Q:VK) (E:XK):Prop where
 | mk:∀(L g d:Addr) (ps:List PD),vs=[.ref L,.ref g,.ref d]->(bT K H L (ps.map λp=>V.str p.name))->1<=ps.length->ps.length<=16->H g=some (.dK (cP (·.outs) ps))->H d=some (.dK (cP (·.ins) ps))->g≠d->(ps.flatMap (·.outs)).Nodup->(ps.flatMap (·.ins)).Nodup->(ps.flatMap (·.outs)).Perm (ps.flatMap (·.ins))->((∃y,∀q∈ps,∃x∈q.ins ++ q.outs,Drawn.jl ps x y))->(∀H',aO H H'->Q .non H')->um K vs H Q E
theorem Dq (T:Txt w K mg t):FO P w K mg base 2 t.vp ["names", "givers", "takers"] (um K):=by
 have sc:=T.pN.sc ["names", "givers", "takers", "joined", "name"];refine T.pN.F.ok sc ln (λ_ _ _ _ H vs Q E hr h=>?_);obtain⟨L,g,d,ps,rfl,hL,hp1,hps,h1,h2,n1,no,ni,pm,hang,k⟩:=h;refine⟨_,(au (sN sc 3 (dB (Bt T) T.pL hr (aa (aU aR (pv 0) aq (λ_ _=>Z)) (aa (pv 1) (aa (pv 2) ao aj) aj) aC)))
  (aA (fj PassesOwn.never rfl (cX (pv 0)) (gN sc 4)
   (aA (bQ (j8 (uN hr.u1 (pv 4) (pv 3)))
    (aA eY)
    bw))))),?_⟩
 obtain⟨p0,pr,rfl⟩:∃p0 pr,ps=p0:: pr:=by
  cases ps with
  | nil=>simp at hp1
  | cons a r=>exact⟨a,r,rfl⟩
 refine⟨_,Z,L,_,0,_,Z,Z,hL,aJ (j:=0) Z,_,Z,_,Z,p0,g,d,_,Z,mem_cons_self,hps,h1,h2,n1,no,ni,pm,hang,λH1 J jk s1 eJ hA=>?_⟩;refine⟨_,Z,L,Z,⟨_,s1.seq hL⟩,fK (K:=K) (a:=L) (xs:=(p0:: pr).map λp=>V.str p.name) (λj σ H'=>H'=H1/\∃v4,σ=[some (.ref L),some (.ref g),some (.ref d),some (.ref J),v4]) ⟨Z,none,Z⟩ (λj σ H' _ ⟨e,_⟩=>by rw [e];exact s1.seq hL) ?_ ?_⟩
 ·rintro j x σ H' hx ⟨rfl,v4,rfl⟩;rw [getElem?_map] at hx;obtain⟨p,hp,rfl⟩:=map_eq_some_iff.mp hx;obtain⟨u,hu⟩:=isSome_iff_exists.mp (hA p (mem_of_getElem? hp));exact⟨_,rfl,_,rfl,J,some u,rfl,(by rw [<-hu];exact fP.k (k:=Sum.inr p.name) eJ),_,rfl,cQ ⟨rfl,_,rfl⟩⟩
 ·rintro σ H' ⟨rfl,v4,rfl⟩;exact k _ s1
inductive pq (K:Fr) (t:mL) (vs:List V) (H:Hp) (Q:VK) (E:XK):Prop where
 | mk:∀(n:Addr) (ls:List aK) (ps:List PD),vs=[.ref n]->nQ K t H n ls ps->(∀l,H l=none->Q (.ref l) (upd H l (.lst (ls.map λx=>V.str x.name))))->pq K t vs H Q E
theorem oW (T:Txt w K mg t):FO P w K mg base 1 t.j0 ["self"] (pq K t):=by have sc:=T.jd.sc ["self"];refine T.jd.F.ok sc ln (λ_ _ _ _ H vs Q E hr h=>?_);obtain⟨n,ls,ps,rfl,N,k⟩:=h;refine⟨_,(aA (aQ (dM (mZ rfl) (by rfl) T.tX oZ (aa (bJ (pv 0) rfl) ao bz)))),?_⟩;obtain⟨dx,fs,R,F,Pd,G,Tk,FL,PL,W⟩:=id N;refine⟨_,Z,n,_,dx,fs,_,Z,W.obj,T.bF.c,T.bF.na.1,W.fl.has ("rooms",.ref R) (by simp),R,_,Z,.inl W.rooms,λl hl=>?_⟩;unfold eZ;rw [map_map];exact k l hl
inductive oU (K:Fr) (t:mL) (vs:List V) (H:Hp) (Q:VK) (E:XK):Prop where
 | mk:∀(n:Addr) (ls:List aK) (ps:List PD),vs=[.ref n]->nQ K t H n ls ps->(∀l,H l=none->Q (.ref l) (upd H l (.lst (ps.map λx=>V.str x.name))))->oU K t vs H Q E
theorem jJ (T:Txt w K mg t):FO P w K mg base 1 t.jZ ["self"] (oU K t):=by
 have sc:=T.fX.sc ["self"];refine T.fX.F.ok sc ln (λ_ _ _ _ H vs Q E hr h=>?_);obtain⟨n,ls,ps,rfl,N,k⟩:=h;refine⟨_,(aA (aQ (dM (mZ rfl) (by rfl) T.tX oZ (aa (bJ (pv 0) rfl) ao bz)))),?_⟩;obtain⟨dx,fs,R,F,Pd,G,Tk,FL,PL,W⟩:=id N;refine⟨_,Z,n,_,dx,fs,_,Z,W.obj,T.bF.c,T.bF.na.2.2.1,W.fl.has ("parts",.ref Pd) (by simp),Pd,_,Z,.inl W.parts,λl hl=>?_⟩;unfold d9;rw [map_map];have e:ps.map (λx=>V.str x.name)=PL.map (λq=>V.str q.1.name):=by rw [<-W.pls,map_map];rfl
 rw [e] at k;exact k l hl
theorem Vr (T:Txt w K mg t) (i:Nat):MethAt P w K mg base Eh 1 (cls t i) "kind" (jc i):=match i with
 | 0=>⟨_,_,_,T.iB.c,(T.oK.me T.iB.me.2.1),T.oK.b,Ig T⟩
 | 1=>⟨_,_,_,T.ir.c,(T.pB.me T.ir.me.2.1),T.pB.b,GP T⟩
 | 2=>⟨_,_,_,T.iu.c,(T.pF.me T.iu.me.2.1),T.pF.b,Hs T⟩
 | 3=>⟨_,_,_,T.iC.c,(T.oR.me T.iC.me.2.1),T.oR.b,Hb T⟩
 | 4=>⟨_,_,_,T.iQ.c,(T.oN.me T.iQ.me.2.1),T.oN.b,G9 T⟩
 | 5=>⟨_,_,_,T.iw.c,(T.o9.me T.iw.me.2.1),T.o9.b,Hu T⟩
 | 6=>⟨_,_,_,T.lB.c,(T.qQ.me T.lB.me.2.1),T.qQ.b,JB T⟩
 | 7=>⟨_,_,_,T.iK.c,(T.oH.me T.iK.me.2.1),T.oH.b,Hr T⟩
 | 8=>⟨_,_,_,T.fH.c,(T.mj.me T.fH.me.2.1),T.mj.b,Ed T⟩
 | 9=>⟨_,_,_,T.dZ.c,(T.kh.me T.dZ.me.2.1),T.kh.b,Cv T⟩
 | n+10=>⟨_,_,_,T.fG.c,(T.mD.me T.fG.me.2.1),T.mD.b,Eg T⟩
inductive lq (K:Fr) (t:mL) (vs:List V) (H:Hp) (Q:VK) (E:XK):Prop where
 | mk:∀(n:Addr) (ls:List aK) (ps:List PD) (x:Str),vs=[.ref n,.str x]->nQ K t H n ls ps->(∀p,H p=none->Q (.ref p) (upd H p (.lst (eN ps x))))->lq K t vs H Q E
theorem uI (T:Txt w K mg t):FO P w K mg base 2 t.jh ["self", "kind"] (lq K t):=by
 have sc:=T.ji.sc ["self", "kind"];refine T.ji.F.ok sc ln (λ_ _ _ _ H vs Q E hr h=>?_);obtain⟨n,ls,ps,x,rfl,N,k⟩:=h;refine⟨_,(aA (aQ (Vd (H0:=H) Z (gP [0,1] ["self", "kind"] (bh (inClass (top 63) 5)) Z (HS (bJ (pv 0) Z)) (λ_ _ _ _ _=>(CP (bf fO (K4 (P:=P) (w:=w) (K:=K) (mg:=mg) (base:=base) (CX:=Eh) (k:=1) (E:=E0) Z Z Z Z Z (fu hr.u1 (GR (K:=K) Z (pv 1) Z) (pv 0) (λ_ _=>Z)) (hr.mono (by decide)) gY) (pv 2) (bH _)))) (λ_ _ _ _ _=>(pv 0)))))),?_⟩;obtain⟨dx,fs,R,F,Pd,G,Tk,FL,PL,W⟩:=id N;have hz:sizeLine=16777216:=sizeLine_eq;have hp:=W.fit.p16;have h5:=W.parts;have lpl:PL.length=ps.length:=by rw [<-W.pls,lM]
 refine⟨_,Z,n,_,dx,fs,_,Z,W.obj,T.bF.c,T.bF.na.2.2.1,W.fl.has ("parts",.ref Pd) (by simp),Pd,_,Z,h5,λo=>?_⟩;refine PB (λj ys H'=>H'=upd H Pd (.frz o (.dK (d9 PL)))/\ys=eN ((PL.take j).map (·.1)) x) (by unfold d9;rw [lM];lia) ⟨rfl,by simp [eN]⟩ ?_ ?_ ?_ ?_
 ·rintro j ys H' ⟨_,rfl⟩;have:=JT ((PL.take j).map (·.1)) x;rw [lM,length_take] at this
  lia
 ·rintro j ys H' _ ⟨rfl,_⟩;exact az
 ·rintro j kk v ys H' hj ⟨rfl,rfl⟩;unfold d9 at hj;rw [getElem?_map] at hj;obtain⟨q,hq,e⟩:=map_eq_some_iff.mp hj;cases e;have hm:=mem_of_getElem? hq;obtain⟨dxp,tn,ti,to,p1,p2,p3,p4⟩:=((W.pats q hm).chill (v:=.frz o (.dK (d9 PL))) h5).ex;refine⟨_,rfl,n,_,dx,fs,_,rfl,mJ h5 W.obj (by intro _ z;cases z),T.bF.c,T.bF.na.2.2.1,W.fl.has ("parts",.ref Pd) (by simp),_,rfl,Pd,_,rfl,(by rw [<-W.partV hm];exact .inl ⟨_,Sum.inr q.1.name,.inr ⟨o,az⟩,rfl,rfl⟩),?_⟩;refine⟨q.2,cls t q.1.kind,dxp,_,jc q.1.kind,Z,p1,uL _ _ _ _ (by decide +kernel) (by decide +kernel) (by decide +kernel) (by decide +kernel),Vr T q.1.kind,_,Z,_,Z,Z,_,Z,?_⟩;rw [take_succ,hq,toList_some,map_append,List.map_singleton,Ga];refine iD (λe=>?_) (λe=>?_)
  ·have e':eU q.1.kind=x:=by simpa using e
   rw [if_pos e'];exact⟨_,Z,Z,Z⟩
  ·have e':¬eU q.1.kind=x:=by simpa using e
   rw [if_neg e'];exact⟨Z,Z⟩
 ·rintro ys H' ⟨rfl,rfl⟩ D hD;refine⟨_,⟨Pd,o,d9 PL,?_,?_,Z⟩,?_⟩
  ·rw [aH (by rintro rfl;rw [az] at hD;cases hD)];exact az
  ·intro o' u z;rw [show H Pd=_ from h5] at z;cases z
  ·rw [Pu h5 hD];have:=k D (LR hD);rw [show(d9 PL).length=PL.length by unfold d9;rw [lM],take_length,W.pls];exact this
inductive yh (K:Fr) (t:mL) (vs:List V) (H:Hp) (Q:VK) (E:XK):Prop where
 | mk:∀(n:Addr) (ls:List aK) (ps:List PD),vs=[.ref n]->nQ K t H n ls ps->(∀p,H p=none->Q (.ref p) (upd H p (.lst (eN ps "give"))))->yh K t vs H Q E
theorem yg (T:Txt w K mg t):FO P w K mg base 3 t.sy ["self"] (yh K t):=by have sc:=T.oM.sc ["self"];refine T.oM.F.ok sc ln (λ_ _ _ _ H vs Q E hr h=>?_);obtain⟨n,ls,ps,rfl,N,k⟩:=h;refine⟨_,(aA (aQ (K6 (pv 0) T.bF T.bF.me.2.2.2.1 (uI T) T.ji hr (aa bA ao ak)))),?_⟩;obtain⟨dx,fs,R,F,Pd,G,Tk,FL,PL,W⟩:=id N;exact⟨_,Z,n,dx,fs,Z,W.obj,W.fl.no _ (by decide +kernel),n,ls,ps,_,Z,N,k⟩
inductive jW (K:Fr) (t:mL) (vs:List V) (H:Hp) (Q:VK) (E:XK):Prop where
 | mk:∀(n:Addr) (ls:List aK) (ps:List PD) (x:Str),vs=[.ref n,.str x]->nQ K t H n ls ps->(((x∈ls.map (·.name)/\∀H',aO H H'->Q .non H')∨False))->jW K t vs H Q E
theorem rY (T:Txt w K mg t):FO P w K mg base 3 t.iy ["self", "name"] (jW K t):=by
 have sc:=T.iG.sc ["self", "name"];refine T.iG.F.ok sc ln (λ_ _ _ _ H vs Q E hr h=>?_);obtain⟨n,ls,ps,x,rfl,N,h⟩:=h;refine⟨_,(aA (bQ (bf jK (pv 1) (Xi (pv 0) T.bF T.bF.me.2.1 (oW T) T.jd hr) (by with_unfolding_all rfl))
   (aA eY)
   bw)),?_⟩
 obtain⟨dx,fs,R,F,Pd,G,Tk,FL,PL,W⟩:=id N;refine⟨_,Z,_,Z,n,dx,fs,Z,W.obj,W.fl.no _ (by decide +kernel),n,ls,ps,Z,N,λl hl=>?_⟩;have s1:=aB (o:=.lst (ls.map λx=>V.str x.name)) hl;refine⟨l,_,Z,.inl (bT.of az),Z,by simp [mU],_,Z,?_⟩;rw [Km (f:=λx:aK=>x.name)];rcases h with ⟨hx,k⟩ | h
 ·rw [decide_eq_true hx];exact cQ (k _ s1)
 ·exact h.elim
inductive rP (K:Fr) (t:mL) (vs:List V) (H:Hp) (Q:VK) (E:XK):Prop where
 | mk:∀(n:Addr) (ls:List aK) (ps:List PD) (x:Str),vs=[.ref n,.str x]->nQ K t H n ls ps->(((∃l∈ls,l.name=x/\∀H' p,aO H H'->H p=none->H' p=some (.lst (l.first.map V.int))->Q (.ref p) H')∨False))->rP K t vs H Q E
theorem Ao (T:Txt w K mg t):FO P w K mg base 4 t.nH ["self", "name"] (rP K t):=by
 have sc:=T.mV.sc ["self", "name"];refine T.mV.F.ok sc ln (λ_ _ _ _ H vs Q E hr h=>?_);obtain⟨n,ls,ps,x,rfl,N,h⟩:=h;refine⟨_,(au (bK (K6 (pv 0) T.bF T.bF.me.2.2.2.2.2.1 (rY T) T.iG hr (aa (pv 1) ao aj)))
  (aA (aQ (dM xV (by rfl) T.tX oZ (aa (fu hr.u1 (bJ (pv 0) rfl) (pv 1) (λ_ _=>rfl)) ao aC))))),?_⟩
 obtain⟨dx,fs,R,F,Pd,G,Tk,FL,PL,W⟩:=id N;refine⟨_,Z,n,dx,fs,Z,W.obj,W.fl.no _ (by decide +kernel),_,Z,n,ls,ps,x,Z,N,?_⟩;rcases h with ⟨l,hl,rfl,k⟩ | h
 ·refine .inl ⟨mem_map.mpr ⟨l,hl,Z⟩,λH1 s1=>?_⟩;have W1:=W.same s1;obtain⟨q,hq,eq⟩:∃q∈FL,q.1=l:=by rw [<-W.fls] at hl;obtain⟨q,hq,e⟩:=mem_map.mp hl;exact⟨q,hq,e⟩
  subst eq;have hv:=W1.firstV hq;refine⟨_,Z,n,_,dx,fs,_,Z,W1.obj,T.bF.c,T.bF.na.2.1,W1.fl.has ("firsts",.ref F) (by simp),_,Z,F,_,Z,(by rw [<-hv];exact fP.k (k:=Sum.inr q.1.name) W1.firsts),?_⟩;exact⟨q.2,_,Z,.inr (W1.tups q hq),λp hp=>k _ p (s1.trans (aB hp)) (s1.free hp) az⟩
 ·exact .inr h
inductive sZ (K:Fr) (t:mL) (vs:List V) (H:Hp) (Q:VK) (E:XK):Prop where
 | mk:∀(n:Addr) (ls:List aK) (ps:List PD) (x:Str),vs=[.ref n,.str x]->nQ K t H n ls ps->(((∃p∈ps,p.name=x/\∀H' q,aO H H'->fC K t H' q p.kind (.str p.name) (p.nums.map V.int) (p.ins.map V.str) (p.outs.map V.str)->Q (.ref q) H')∨False))->sZ K t vs H Q E
theorem m8 (T:Txt w K mg t):FO P w K mg base 3 t.pX ["self", "name"] (sZ K t):=by
 have sc:=T.jm.sc ["self", "name"];refine T.jm.F.ok sc ln (λ_ _ _ _ H vs Q E hr h=>?_);obtain⟨n,ls,ps,x,rfl,N,h⟩:=h;refine⟨_,(au (bQ (bf jK (pv 1) (Xi (pv 0) T.bF T.bF.me.2.2.1 (jJ T) T.fX hr) (by with_unfolding_all rfl))
   (aA eY)
   bw)
  (aA (aQ (fu hr.u1 (bJ (pv 0) rfl) (pv 1) (λ_ _=>rfl))))),?_⟩
 obtain⟨dx,fs,R,F,Pd,G,Tk,FL,PL,W⟩:=id N;refine⟨_,Z,_,Z,n,dx,fs,Z,W.obj,W.fl.no _ (by decide +kernel),n,ls,ps,Z,N,λl hl=>?_⟩;have s1:=aB (o:=.lst (ps.map λx=>V.str x.name)) hl;refine⟨l,_,Z,.inl (bT.of az),Z,by simp [mU],_,Z,?_⟩;rw [Km (f:=λx:PD=>x.name)];rcases h with ⟨p,hp,rfl,k⟩ | h
 ·rw [decide_eq_true (mem_map.mpr ⟨p,hp,rfl⟩)];refine cQ ?_;obtain⟨q,hq,eq⟩:∃q∈PL,q.1=p:=by rw [<-W.pls] at hp;obtain⟨q,hq,e⟩:=mem_map.mp hp;exact⟨q,hq,e⟩
  subst eq;have W1:=W.same s1;have hv:=W1.partV hq;exact⟨_,Z,n,_,dx,fs,_,Z,W1.obj,T.bF.c,T.bF.na.2.2.1,W1.fl.has ("parts",.ref Pd) (by simp),_,Z,Pd,_,Z,(by rw [<-hv];exact fP.k (k:=Sum.inr q.1.name) W1.parts),k _ q.2 s1 (W1.pats q hq)⟩
 ·exact h.elim
inductive rQ (K:Fr) (t:mL) (vs:List V) (H:Hp) (Q:VK) (E:XK):Prop where
 | mk:∀(n dx Ll Lp:Addr) (ls:List aK) (ps:List PD),vs=[.ref n,.ref Ll,.ref Lp]->H n=some (.ins t.dN dx [])->Hand K H Ll Lp ls ps->yf ls ps->(∀H',lC n H H'->nQ K t H' n ls ps->Q .non H')->rQ K t vs H Q E
theorem Aq (T:Txt w K mg t):FO P w K mg base 6 t.nC ["self", "lanes", "parts"] (rQ K t):=by
 have sc:=T.jO.sc ["self", "lanes", "parts", "lane", "row", "part"];refine T.jO.F.ok sc ln (λ_ _ _ _ H vs Q E hr h=>?_);obtain⟨n,dx,Ll,Lp,ls,ps,rfl,hn,hH,hF,k⟩:=h;refine⟨_,(au (bK (dB (Dl T) T.pP hr (aa (pv 1) (aa (pv 2) ao aj) aj)))
  (au (jz (pv 0) iH rfl)
  (au (jz (pv 0) iH rfl)
  (au (fj PassesOwn.never rfl (cX (pv 1)) (gN sc 3)
   (au (bK (dB (u5 T) T.mz hr (aa (aU dI (pv 3) aq (λ_ _=>rfl)) (aa (bJ (pv 0) rfl) ao bz) aC)))
   (au (bK (dB (Hj T) T.tK hr (aa (aU dI (pv 3) aq (λ_ _=>rfl)) (aa (aU dI (pv 3) aq (λ_ _=>rfl)) (aa (aU dI (pv 3) aq (λ_ _=>rfl)) ao aC) aC) aC)))
   (au (jt hr.u1 (bJ (pv 0) rfl) (aU dI (pv 3) aq (λ_ _=>rfl)) (aU dI (pv 3) aq (λ_ _=>rfl)) rfl)
   (aA (jt hr.u1 (bJ (pv 0) rfl) (aU dI (pv 3) aq (λ_ _=>rfl)) (dM qw (by rfl) T.wU sH (aa (aU dI (pv 3) aq (λ_ _=>rfl)) ao aC)) rfl))))))
  (au (jz (pv 0) iH rfl)
  (au (jz (pv 0) iH rfl)
  (au (jz (pv 0) iH rfl)
  (au (fj PassesOwn.never rfl (cX (pv 2)) (gN sc 4)
   (au (sN sc 5 (dB (Ep T) T.qL hr (aa (pv 4) (aa (bJ (pv 0) rfl) ao bz) aj)))
   (au (bK (dB (xj T) T.oX hr (aa (bJ (pv 5) rfl) (aa (bJ (pv 5) rfl) (aa (bJ (pv 0) rfl) (aa (bJ (pv 0) rfl) ao bz) bz) bz) bz)))
   (au (bK (dB (xj T) T.oX hr (aa (bJ (pv 5) rfl) (aa (bJ (pv 5) rfl) (aa (bJ (pv 0) rfl) (aa (bJ (pv 0) rfl) ao bz) bz) bz) bz)))
   (aA (jt hr.u1 (bJ (pv 0) rfl) (bJ (pv 5) rfl) (pv 5) rfl))))))
  (au (bK (dB (Hm T) T.sY hr (aa (bJ (pv 0) rfl) (aa (bJ (pv 0) rfl) (aa (bJ (pv 0) rfl) ao bz) bz) bz)))
  (aA (bK (dB (Dq T) T.pN hr (aa (dM (mZ rfl) (by rfl) T.tX oZ (aa (bJ (pv 0) rfl) ao bz)) (aa (bJ (pv 0) rfl) (aa (bJ (pv 0) rfl) ao bz) bz) bc))))))))))))),?_⟩
 have hl:sizeLine=16777216:=sizeLine_eq;obtain⟨xs,hLl,aL⟩:=hH.ll;obtain⟨ys,hLp,aP⟩:=hH.lp;have lx:=aL.length;have ly:=aP.length;have l1:=hF.l1;have l24:=hF.l24;have p1:=hF.p1;have p16:=hF.p16;refine⟨_,Z,_,Z,Ll,Lp,_,_,Z,hLl,hLp,by lia,by lia,by lia,by lia,?_⟩;have T0:=Tr.start hn;refine λR nR=>?_;have T1:=T0.new (o:=.dK []) nR;have gR:=aB (o:=.dK []) nR;generalize upd H R (.dK [])=H1 at T1 gR ⊢;have cR:=T1.all (n,.ins t.dN dx []) (.head _);refine⟨_,Z,n,_,dx,_,Z,cR,T.bF.c,T.bF.na.1,lt_of_le_of_lt (show 0<=0 from le_refl 0) (by decide),?_⟩;have T2:=T1.put (L1:=[]) (o':=.ins t.dN dx (aG "rooms" (.ref R) []));have wR:lC n H1 (upd H1 n (.ins t.dN dx (aG "rooms" (.ref R) []))):=lC.write;generalize upd H1 n (.ins t.dN dx (aG "rooms" (.ref R) []))=H2 at T2 wR ⊢;refine λF nF=>?_;have T3:=T2.new (o:=.dK []) nF;have gF:=aB (o:=.dK []) nF;generalize upd H2 F (.dK [])=H3 at T3 gF ⊢;have cF:=T3.all (n,.ins t.dN dx (aG "rooms" (.ref R) [])) (.head _);refine⟨_,Z,n,_,dx,_,Z,cF,T.bF.c,T.bF.na.2.1,lt_of_le_of_lt (jy (zero_le 0)) (by decide),?_⟩;have T4:=T3.put (L1:=[]) (o':=.ins t.dN dx (aG "firsts" (.ref F) (aG "rooms" (.ref R) [])));have wF:lC n H3 (upd H3 n (.ins t.dN dx (aG "firsts" (.ref F) (aG "rooms" (.ref R) [])))):=lC.write;generalize upd H3 n (.ins t.dN dx (aG "firsts" (.ref F) (aG "rooms" (.ref R) [])))=H4 at T4 wF ⊢;have kb:∀{Hk:Hp} {q:Addr} {u:HO},lC n H Hk->H q=some u->(∀C d f,u≠.ins C d f)->Hk q=some u:=λb h hu=>b _ _ (vO h hn (by intro z;exact hu _ _ _ z)) h;refine⟨_,Z,Ll,Z,⟨_,T4.but.seqL hn hLl⟩,fK (K:=K) (a:=Ll) (xs:=xs) (λj σ H'=>(∃x3,σ=[some (.ref n),some (.ref Ll),some (.ref Lp),x3,none,none])/\∃FL:List (aK×Addr),FL.map (·.1)=ls.take j/\Tr H n [(n,.ins t.dN dx (aG "firsts" (.ref F) (aG "rooms" (.ref R) []))),(R,.dK (eZ (ls.take j))),(F,.dK (bM FL))] H'/\∀q∈FL,fZ K H' q.2 (q.1.first.map V.int)) ⟨⟨none,Z⟩,[],Z,T4,by simp⟩ (λj σ H' _ ⟨_,_,_,T',_⟩=>T'.but.seqL hn hLl) ?_ ?_⟩
 ·rintro j x σ H' hx ⟨⟨x3,rfl⟩,FL,eFL,T4,hS⟩;obtain⟨l,hlj,q,f,rfl,hq,hf⟩:=aL.get hx;have hm:=mem_of_getElem? hlj;obtain⟨v1,v2,v3,v4⟩:=hF.lok l hm;have hnm:=hF.lnm l hm;have hj:=(List.getElem?_eq_some_iff.mp hlj).1;have kq:∀{Hk:Hp},lC n H Hk->Hk q=some (.tup [.str l.name,.int l.room,.ref f]):=λb=>kb b hq (by intro _ _ _ z;cases z);have nin:=qy hF.whole.nod hlj;have vR:b8 (eZ (ls.take j)) (Sum.inr l.name)=none:=ik (by rw [uK];intro z;obtain⟨b,hb,e⟩:=mem_map.mp z;cases e;exact nin hb);have vF:b8 (bM FL) (Sum.inr l.name)=none:=ik (by rw [rG,eFL];intro z;obtain⟨b,hb,e⟩:=mem_map.mp z;cases e;exact nin hb);have tk:ls.take (j+1)=ls.take j ++ [l]:=by rw [take_succ,hlj];rfl
  have e4:=T4.all (n,.ins t.dN dx (aG "firsts" (.ref F) (aG "rooms" (.ref R) []))) (.head _);refine TJ λDe hD u hu=>?_;refine⟨_,rfl,q,_,0,_,rfl,rfl,fZ.of (kq T4.but),aJ (j:=0) rfl,_,rfl,n,_,dx,_,_,rfl,e4,T.bF.c,T.bF.na.1,(by (repeat first | (rw [aD,if_pos rfl];done) | rw [aD,if_neg (by decide +kernel)])),l.name,R,_,rfl,T4.all (R,.dK (eZ (ls.take j))) (by simp),hnm,Fo hnm,vR,λH5 s5=>?_⟩;have T5:=T4.same s5;refine dz (v:=u) hu λu hu=>?_;refine⟨_,Z,q,_,0,_,Z,Z,fZ.of (kq T5.but),aJ (j:=0) Z,_,Z,q,_,1,_,Z,Z,fZ.of (kq T5.but),aJ (j:=1) Z,_,Z,q,_,2,_,Z,Z,fZ.of (kq T5.but),aJ (j:=2) Z,.str l.name,l.room,f,l.first,Z,T5.but.seqA hn hf,by lia,v4,v1,v3,v2,λH6 s6=>?_⟩;have T6:=T5.same s6;have e6:=T6.all (n,.ins t.dN dx (aG "firsts" (.ref F) (aG "rooms" (.ref R) []))) (.head _);have eR6:=T6.all (R,.dK (eZ (ls.take j))) (by simp);refine dz (v:=u) hu λu hu=>?_;refine⟨_,rfl,q,_,1,_,rfl,rfl,fZ.of (kq T6.but),aJ (j:=1) rfl,_,rfl,n,_,dx,_,_,rfl,e6,T.bF.c,T.bF.na.1,(by (repeat first | (rw [aD,if_pos rfl];done) | rw [aD,if_neg (by decide +kernel)])),_,rfl,q,_,0,_,rfl,rfl,fZ.of (kq T6.but),aJ (j:=0) rfl,R,_,rfl,qW.k (k:=Sum.inr l.name) eR6 (by unfold eZ;rw [lM,length_take];lia),?_⟩;have e7:putK (eZ (ls.take j)) (Sum.inr l.name) (.int l.room)=eZ (ls.take (j+1)):=by rw [lA _ vR,tk];unfold eZ;rw [map_append];rfl
  have T7:=T6.put (L1:=[_]) (o':=.dK (eZ (ls.take (j+1))));rw [e7];have hS7:∀q∈FL,fZ K (upd H6 R (.dK (eZ (ls.take (j+1))))) q.2 (q.1.first.map V.int):=λq hq=>fM eR6 (s6.seqT (s5.seqT (hS q hq)));generalize upd H6 R (.dK (eZ (ls.take (j+1))))=H7 at T7 hS7 ⊢;subst hu;refine⟨_,Z,q,_,2,_,Z,Z,fZ.of (kq T7.but),aJ (j:=2) Z,f,_,Z,T7.but.seqA hn hf,λH8 F0 s8 t8=>?_⟩;have T8:=T7.same s8;have e8:=T8.all (n,.ins t.dN dx (aG "firsts" (.ref F) (aG "rooms" (.ref R) []))) (.head _);have eF8:=T8.all (F,.dK (bM FL)) (by simp);have lFL:FL.length<=24:=by have:=congrArg List.length eFL;rw [lM,length_take] at this;lia
  refine⟨_,rfl,n,_,dx,_,_,rfl,e8,T.bF.c,T.bF.na.2.1,(by (repeat first | (rw [aD,if_pos rfl];done) | rw [aD,if_neg (by decide +kernel)])),_,rfl,q,_,0,_,rfl,rfl,fZ.of (kq T8.but),aJ (j:=0) rfl,F,_,rfl,qW.k (k:=Sum.inr l.name) eF8 (by unfold bM;rw [lM];lia),?_⟩;have e9:putK (bM FL) (Sum.inr l.name) (.ref F0)=bM (FL ++ [(l,F0)]):=by rw [lA _ vF];unfold bM;rw [map_append];rfl
  have T9:=T8.put (L1:=[_,_]) (o':=.dK (bM (FL ++ [(l,F0)])));rw [e9];subst hD;refine⟨⟨_,rfl⟩,FL ++ [(l,F0)],by rw [map_append,eFL,tk];rfl,T9,λq hq=>?_⟩;rcases mem_append.mp hq with h | h
  ·exact fM eF8 (s8.seqT (hS7 q h))
  ·rw [mem_singleton] at h;subst h;exact fM eF8 t8
 rintro σ H9 ⟨⟨x3,rfl⟩,FL,eFL,T9,t9⟩;rw [lx,take_length] at eFL T9;clear T0 T1 T2 T3 T4;refine λPd nPd=>?_;have T10:=T9.new (o:=.dK []) nPd;have gPd:=aB (o:=.dK []) nPd;generalize upd H9 Pd (.dK [])=H10 at T10 gPd ⊢;have cPd:=T10.all (n,.ins t.dN dx (aG "firsts" (.ref F) (aG "rooms" (.ref R) []))) (.head _);refine⟨_,Z,n,_,dx,_,Z,cPd,T.bF.c,T.bF.na.2.2.1,lt_of_le_of_lt (jy (jy (zero_le 0))) (by decide),?_⟩;have T11:=T10.put (L1:=[]) (o':=.ins t.dN dx (aG "parts" (.ref Pd) (aG "firsts" (.ref F) (aG "rooms" (.ref R) []))));have wPd:lC n H10 (upd H10 n (.ins t.dN dx (aG "parts" (.ref Pd) (aG "firsts" (.ref F) (aG "rooms" (.ref R) []))))):=lC.write;generalize upd H10 n (.ins t.dN dx (aG "parts" (.ref Pd) (aG "firsts" (.ref F) (aG "rooms" (.ref R) []))))=H11 at T11 wPd ⊢;refine λGv nGv=>?_;have T12:=T11.new (o:=.dK []) nGv;have gGv:=aB (o:=.dK []) nGv;generalize upd H11 Gv (.dK [])=H12 at T12 gGv ⊢;have cGv:=T12.all (n,.ins t.dN dx (aG "parts" (.ref Pd) (aG "firsts" (.ref F) (aG "rooms" (.ref R) [])))) (.head _);refine⟨_,Z,n,_,dx,_,Z,cGv,T.bF.c,T.bF.na.2.2.2.1,lt_of_le_of_lt (jy (jy (jy (zero_le 0)))) (by decide),?_⟩;have T13:=T12.put (L1:=[]) (o':=.ins t.dN dx (aG "givers" (.ref Gv) (aG "parts" (.ref Pd) (aG "firsts" (.ref F) (aG "rooms" (.ref R) [])))));have wGv:lC n H12 (upd H12 n (.ins t.dN dx (aG "givers" (.ref Gv) (aG "parts" (.ref Pd) (aG "firsts" (.ref F) (aG "rooms" (.ref R) [])))))):=lC.write;generalize upd H12 n (.ins t.dN dx (aG "givers" (.ref Gv) (aG "parts" (.ref Pd) (aG "firsts" (.ref F) (aG "rooms" (.ref R) [])))))=H13 at T13 wGv ⊢;refine λTk nTk=>?_;have T14:=T13.new (o:=.dK []) nTk;have gTk:=aB (o:=.dK []) nTk;generalize upd H13 Tk (.dK [])=H14 at T14 gTk ⊢;have cTk:=T14.all (n,.ins t.dN dx (aG "givers" (.ref Gv) (aG "parts" (.ref Pd) (aG "firsts" (.ref F) (aG "rooms" (.ref R) []))))) (.head _);refine⟨_,Z,n,_,dx,_,Z,cTk,T.bF.c,T.bF.na.2.2.2.2.1,lt_of_le_of_lt (jy (jy (jy (jy (zero_le 0))))) (by decide),?_⟩;have T15:=T14.put (L1:=[]) (o':=.ins t.dN dx (aG "takers" (.ref Tk) (aG "givers" (.ref Gv) (aG "parts" (.ref Pd) (aG "firsts" (.ref F) (aG "rooms" (.ref R) []))))));have wTk:lC n H14 (upd H14 n (.ins t.dN dx (aG "takers" (.ref Tk) (aG "givers" (.ref Gv) (aG "parts" (.ref Pd) (aG "firsts" (.ref F) (aG "rooms" (.ref R) []))))))):=lC.write;generalize upd H14 n (.ins t.dN dx (aG "takers" (.ref Tk) (aG "givers" (.ref Gv) (aG "parts" (.ref Pd) (aG "firsts" (.ref F) (aG "rooms" (.ref R) []))))))=H15 at T15 wTk ⊢;have T15:Tr H n [(n,.ins t.dN dx (aG "takers" (.ref Tk) (aG "givers" (.ref Gv) (aG "parts" (.ref Pd) (aG "firsts" (.ref F) (aG "rooms" (.ref R) [])))))),(R,.dK (eZ ls)),(F,.dK (bM FL)),(Pd,.dK []),(Gv,.dK []),(Tk,.dK [])] H15:=T15;have t15:∀q∈FL,fZ K H15 q.2 (q.1.first.map V.int):=λq hq=>wTk.seqT cTk (gTk.seqT (wGv.seqT cGv (gGv.seqT (wPd.seqT cPd (gPd.seqT (t9 q hq))))));have nod:=T15.nod;simp only [map_append,map_cons,map_nil,List.nil_append,List.cons_append,nodup_cons,mem_cons,not_mem_nil,or_false,not_or] at nod;have nRF:R≠F:=nod.2.1.1;have nRT:R≠Tk:=nod.2.1.2.2.2;have nRG:R≠Gv:=nod.2.1.2.2.1;have nGT:Gv≠Tk:=nod.2.2.2.2.1;clear nod;have ono:(ps.flatMap (·.outs)).Nodup:=hF.whole.outs.nodup_iff.mpr hF.whole.nod;have ini:(ps.flatMap (·.ins)).Nodup:=hF.whole.ins.nodup_iff.mpr hF.whole.nod;have inR:∀z∈ls.map (·.name),(b8 (eZ ls) (Sum.inr z)).isSome=true:=λz hz=>by obtain⟨l,hl,rfl⟩:=mem_map.mp hz;have e:b8 (eZ ls) (Sum.inr l.name)=some (.int l.room):=gB (by rw [uK];exact gQ hF.whole.nod) (mem_map.mpr ⟨l,hl,rfl⟩);rw [e];rfl
 have lenE:∀(f:PD->List Str) (j:Nat),(ps.flatMap f).Perm (ls.map (·.name))->(cP f (ps.take j)).length<=24:=λf j pm=>by
  rw [Qg];have e1:((ps.take j).flatMap f).length+((ps.drop j).flatMap f).length=(ps.flatMap f).length:=by rw [<-lP,<-List.flatMap_append,take_append_drop]
  have e2:=pm.length_eq;rw [lM] at e2
  lia
 refine⟨_,Z,Lp,Z,⟨_,T15.but.seqL hn hLp⟩,fK (K:=K) (a:=Lp) (xs:=ys) (λj σ H'=>(∃x3 x4 x5,σ=[some (.ref n),some (.ref Ll),some (.ref Lp),x3,x4,x5])/\∃PL:List (PD×Addr),PL.map (·.1)=ps.take j/\Tr H n [(n,.ins t.dN dx (aG "takers" (.ref Tk) (aG "givers" (.ref Gv) (aG "parts" (.ref Pd) (aG "firsts" (.ref F) (aG "rooms" (.ref R) [])))))),(R,.dK (eZ ls)),(F,.dK (bM FL)),(Pd,.dK (d9 PL)),(Gv,.dK (cP (·.outs) (ps.take j))),(Tk,.dK (cP (·.ins) (ps.take j)))] H'/\(∀q∈FL,fZ K H' q.2 (q.1.first.map V.int))/\∀q∈PL,fC K t H' q.2 q.1.kind (.str q.1.name) (q.1.nums.map V.int) (q.1.ins.map V.str) (q.1.outs.map V.str)) ⟨⟨x3,none,none,Z⟩,[],Z,T15,t15,by simp⟩ (λj σ H' _ ⟨_,_,_,T',_⟩=>T'.but.seqL hn hLp) ?_ ?_⟩
 ·rintro j x σ H' hx ⟨⟨x3,x4,x5,rfl⟩,PL,ePL,T15,hS,hP⟩;obtain⟨p,hpj,r,a1,a2,a3,rfl,hr,q1,q2,q3⟩:=aP.get hx;have hm:=mem_of_getElem? hpj;have hj:=(List.getElem?_eq_some_iff.mp hpj).1;obtain⟨o1,o2,o3,o4,o5⟩:=hF.pok p hm;have hnm:=hF.pnm p hm;have nin:=qy hF.pnd hpj;have tk:ps.take (j+1)=ps.take j ++ [p]:=by rw [take_succ,hpj];rfl
  have vP:b8 (d9 PL) (Sum.inr p.name)=none:=ik (by rw [Ad,ePL];intro z;obtain⟨b,hb,e⟩:=mem_map.mp z;cases e;exact nin hb);obtain⟨di,fi⟩:=M9 ini hpj;obtain⟨do',fo⟩:=M9 ono hpj;have e15:=T15.all (n,.ins t.dN dx (aG "takers" (.ref Tk) (aG "givers" (.ref Gv) (aG "parts" (.ref Pd) (aG "firsts" (.ref F) (aG "rooms" (.ref R) [])))))) (.head _);refine TJ λDe hD u hu=>?_;refine⟨_,rfl,_,rfl,n,_,dx,_,_,rfl,e15,T.bF.c,T.bF.na.2.2.1,(by (repeat first | (rw [aD,if_pos rfl];done) | rw [aD,if_neg (by decide +kernel)])),p.kind,p.name,r,Pd,a1,a2,a3,_,_,_,_,rfl,kb T15.but hr (by intro _ _ _ z;cases z),by lia,T15.all (Pd,.dK (d9 PL)) (by simp),hnm,Fo hnm,vP,T15.but.seqA hn q1,T15.but.seqA hn q2,T15.but.seqA hn q3,by rw [lM];exact o2,by rw [lM];exact o3,by rw [lM];exact o4,?_,λH16 pp s16 npp Pp=>?_⟩
  ·intro v hv;obtain⟨i,hi,rfl⟩:=mem_map.mp hv;exact⟨i,Z,(o5 i hi).1,(o5 i hi).2⟩
  have T16:=T15.same s16;obtain⟨dxp,tn,ti,to,z1,z2,z3,z4⟩:=id Pp.ex;have e16:=T16.all (n,.ins t.dN dx (aG "takers" (.ref Tk) (aG "givers" (.ref Gv) (aG "parts" (.ref Pd) (aG "firsts" (.ref F) (aG "rooms" (.ref R) [])))))) (.head _);have eTk:=T16.all (Tk,.dK (cP (·.ins) (ps.take j))) (by simp);have li:=lenE (·.ins) j hF.whole.ins;have lo:=lenE (·.outs) j hF.whole.outs;have h3I:p.ins.length<=3:=by rw [o3];exact Gx _
  have h3O:p.outs.length<=2:=by rw [o4];exact QZ _
  refine dz (v:=u) hu λu hu=>?_;refine⟨_,rfl,pp,_,dxp,_,_,rfl,z1,iJ T p.kind,Aw T p.kind,yL _ _ _ _,_,rfl,pp,_,dxp,_,_,rfl,z1,iJ T p.kind,zc T p.kind,tW _ _ _ _,_,rfl,n,_,dx,_,_,rfl,e16,T.bF.c,T.bF.na.1,(by (repeat first | (rw [aD,if_pos rfl];done) | rw [aD,if_neg (by decide +kernel)])),_,rfl,n,_,dx,_,_,rfl,e16,T.bF.c,T.bF.na.2.2.2.2.1,(by (repeat first | (rw [aD,if_pos rfl];done) | rw [aD,if_neg (by decide +kernel)])),p.name,ti,R,Tk,p.ins,_,_,rfl,z3,T16.all (R,.dK (eZ ls)) (by simp),nRT,eTk,di,λz hz=>⟨inR z (hF.whole.ins.mem_iff.mp (mem_flatMap.mpr ⟨p,hm,hz⟩)),Cq (fi z hz)⟩,by lia,?_⟩;rw [<-Di (·.ins) (ps.take j) p,<-tk];have T17:=T16.put (L1:=[_,_,_,_,_]) (o':=.dK (cP (·.ins) (ps.take (j+1))));have Pp17:=Pp.chill (v:=.dK (cP (·.ins) (ps.take (j+1)))) eTk;have hS17:∀q∈FL,fZ K (upd H16 Tk (.dK (cP (·.ins) (ps.take (j+1))))) q.2 (q.1.first.map V.int):=λq hq=>fM eTk (s16.seqT (hS q hq));have hP17:∀q∈PL,fC K t (upd H16 Tk (.dK (cP (·.ins) (ps.take (j+1))))) q.2 q.1.kind (.str q.1.name) (q.1.nums.map V.int) (q.1.ins.map V.str) (q.1.outs.map V.str):=λq hq=>((hP q hq).same s16).chill eTk;generalize upd H16 Tk (.dK (cP (·.ins) (ps.take (j+1))))=H17 at T17 Pp17 hS17 hP17 ⊢;clear z1 z2 z3 z4 e16;obtain⟨dxp,tn,ti,to,z1,z2,z3,z4⟩:=id Pp17.ex;have e17:=T17.all (n,.ins t.dN dx (aG "takers" (.ref Tk) (aG "givers" (.ref Gv) (aG "parts" (.ref Pd) (aG "firsts" (.ref F) (aG "rooms" (.ref R) [])))))) (.head _);have eGv:=T17.all (Gv,.dK (cP (·.outs) (ps.take j))) (by simp);refine dz (v:=u) hu λu hu=>?_;refine⟨_,rfl,pp,_,dxp,_,_,rfl,z1,iJ T p.kind,Aw T p.kind,yL _ _ _ _,_,rfl,pp,_,dxp,_,_,rfl,z1,iJ T p.kind,HW T p.kind,Gq _ _ _ _,_,rfl,n,_,dx,_,_,rfl,e17,T.bF.c,T.bF.na.1,(by (repeat first | (rw [aD,if_pos rfl];done) | rw [aD,if_neg (by decide +kernel)])),_,rfl,n,_,dx,_,_,rfl,e17,T.bF.c,T.bF.na.2.2.2.1,(by (repeat first | (rw [aD,if_pos rfl];done) | rw [aD,if_neg (by decide +kernel)])),p.name,to,R,Gv,p.outs,_,_,rfl,z4,T17.all (R,.dK (eZ ls)) (by simp),nRG,eGv,do',λz hz=>⟨inR z (hF.whole.outs.mem_iff.mp (mem_flatMap.mpr ⟨p,hm,hz⟩)),Cq (fo z hz)⟩,by lia,?_⟩;rw [<-Di (·.outs) (ps.take j) p,<-tk];have T18:=T17.put (L1:=[_,_,_,_]) (o':=.dK (cP (·.outs) (ps.take (j+1))));have Pp18:=Pp17.chill (v:=.dK (cP (·.outs) (ps.take (j+1)))) eGv;have hS18:∀q∈FL,fZ K (upd H17 Gv (.dK (cP (·.outs) (ps.take (j+1))))) q.2 (q.1.first.map V.int):=λq hq=>fM eGv (hS17 q hq);have hP18:∀q∈PL,fC K t (upd H17 Gv (.dK (cP (·.outs) (ps.take (j+1))))) q.2 q.1.kind (.str q.1.name) (q.1.nums.map V.int) (q.1.ins.map V.str) (q.1.outs.map V.str):=λq hq=>(hP17 q hq).chill eGv;generalize upd H17 Gv (.dK (cP (·.outs) (ps.take (j+1))))=H18 at T18 Pp18 hS18 hP18 ⊢;clear z1 z2 z3 z4 e17;obtain⟨dxp,tn,ti,to,z1,z2,z3,z4⟩:=id Pp18.ex;have e18:=T18.all (n,.ins t.dN dx (aG "takers" (.ref Tk) (aG "givers" (.ref Gv) (aG "parts" (.ref Pd) (aG "firsts" (.ref F) (aG "rooms" (.ref R) [])))))) (.head _);have ePd:=T18.all (Pd,.dK (d9 PL)) (by simp);have lPL:PL.length<=16:=by have:=congrArg List.length ePL;rw [lM,length_take] at this;lia
  subst hu;refine⟨_,rfl,_,rfl,n,_,dx,_,_,rfl,e18,T.bF.c,T.bF.na.2.2.1,(by (repeat first | (rw [aD,if_pos rfl];done) | rw [aD,if_neg (by decide +kernel)])),_,rfl,pp,_,dxp,_,_,rfl,z1,iJ T p.kind,Aw T p.kind,yL _ _ _ _,Pd,_,rfl,qW.k (k:=Sum.inr p.name) ePd (by unfold d9;rw [lM];lia),?_⟩;have e19:putK (d9 PL) (Sum.inr p.name) (.ref pp)=d9 (PL ++ [(p,pp)]):=by rw [lA _ vP];unfold d9;rw [map_append];rfl
  have T19:=T18.put (L1:=[_,_,_]) (o':=.dK (d9 (PL ++ [(p,pp)])));rw [e19];subst hD;refine⟨⟨_,_,_,rfl⟩,PL ++ [(p,pp)],by rw [map_append,ePL,tk];rfl,T19,λq hq=>fM ePd (hS18 q hq),λq hq=>?_⟩;rcases mem_append.mp hq with h | h
  ·exact(hP18 q h).chill ePd
  ·rw [mem_singleton] at h;subst h;exact Pp18.chill ePd
 rintro σ H18 ⟨⟨x3,x4,x5,rfl⟩,PL,ePL,T18,hS,hP⟩;rw [ly,take_length] at ePL T18;have e18:=T18.all (n,.ins t.dN dx (aG "takers" (.ref Tk) (aG "givers" (.ref Gv) (aG "parts" (.ref Pd) (aG "firsts" (.ref F) (aG "rooms" (.ref R) [])))))) (.head _);have eR:=T18.all (R,.dK (eZ ls)) (by simp);have eF:=T18.all (F,.dK (bM FL)) (by simp);have ePd:=T18.all (Pd,.dK (d9 PL)) (by simp);have eGv:=T18.all (Gv,.dK (cP (·.outs) ps)) (by simp);have eTk:=T18.all (Tk,.dK (cP (·.ins) ps)) (by simp);refine⟨_,rfl,n,_,dx,_,_,rfl,e18,T.bF.c,T.bF.na.1,(by (repeat first | (rw [aD,if_pos rfl];done) | rw [aD,if_neg (by decide +kernel)])),_,rfl,n,_,dx,_,_,rfl,e18,T.bF.c,T.bF.na.2.2.2.1,(by (repeat first | (rw [aD,if_pos rfl];done) | rw [aD,if_neg (by decide +kernel)])),_,rfl,n,_,dx,_,_,rfl,e18,T.bF.c,T.bF.na.2.2.2.2.1,(by (repeat first | (rw [aD,if_pos rfl];done) | rw [aD,if_neg (by decide +kernel)])),R,Gv,Tk,_,_,_,rfl,eR,eGv,eTk,nRG,nRT,?_,?_⟩
 ·intro q hq;obtain⟨l,hl,rfl⟩:=mem_map.mp hq;have hln:l.name∈ls.map (·.name):=mem_map.mpr ⟨l,hl,rfl⟩;obtain⟨pa,ha,la⟩:=mem_flatMap.mp (hF.whole.outs.mem_iff.mpr hln);obtain⟨pb,hb,lb⟩:=mem_flatMap.mp (hF.whole.ins.mem_iff.mpr hln);exact⟨by rw [iV ono ha la];rfl,by rw [iV ini hb lb];rfl⟩
 refine⟨_,rfl,n,_,dx,_,_,rfl,e18,T.bF.c,T.bF.na.2.2.1,(by (repeat first | (rw [aD,if_pos rfl];done) | rw [aD,if_neg (by decide +kernel)])),Pd,_,rfl,.inl ePd,λl nl=>?_⟩;have s19:=aB (o:=.lst ((d9 PL).map λp=>kV p.1)) nl;have eL:(d9 PL).map (λp=>kV p.1)=ps.map λp=>V.str p.name:=by unfold d9;rw [map_map,<-ePL,map_map];rfl
 refine⟨_,rfl,n,_,dx,_,_,rfl,(s19 _ _ e18),T.bF.c,T.bF.na.2.2.2.1,(by (repeat first | (rw [aD,if_pos rfl];done) | rw [aD,if_neg (by decide +kernel)])),_,rfl,n,_,dx,_,_,rfl,(s19 _ _ e18),T.bF.c,T.bF.na.2.2.2.2.1,(by (repeat first | (rw [aD,if_pos rfl];done) | rw [aD,if_neg (by decide +kernel)])),l,Gv,Tk,ps,rfl,bT.of (by rw [<-eL];exact az),by lia,by lia,s19 _ _ eGv,s19 _ _ eTk,nGT,ono,ini,hF.whole.outs.trans hF.whole.ins.symm,hF.whole.hang,λH20 s20=>?_⟩;have s:=s19.trans s20;refine k _ (λb u hb e=>s _ _ (T18.but b u hb e)) ⟨dx,_,R,F,Pd,Gv,Tk,FL,PL,s _ _ e18,⟨?_,?_⟩,s _ _ eR,s _ _ eF,s _ _ ePd,s _ _ eGv,s _ _ eTk,eFL,ePL,λq hq=>s.seqT (hS q hq),λq hq=>(hP q hq).same s,hF,nRF⟩
 ·intro q hq;simp only [mem_cons,not_mem_nil,or_false] at hq;rcases hq with rfl | rfl | rfl | rfl | rfl <;> (dsimp only;(repeat first | (rw [aD,if_pos rfl];done) | rw [aD,if_neg (by decide +kernel)]))
 ·intro m hm;have hne:∀m∈(["lane_names", "part_names", "names_of_kind", "gives", "need_lane_name", "first_of", "part_of", "__init__"]:List Str),∀g∈(["takers", "givers", "parts", "firsts", "rooms"]:List Str),¬m=g:=by decide +kernel
  have h:=hne m hm;rw [aD,if_neg (h _ (by simp)),aD,if_neg (h _ (by simp)),aD,if_neg (h _ (by simp)),aD,if_neg (h _ (by simp)),aD,if_neg (h _ (by simp))];rfl
inductive vh (K:Fr) (t:mL) (vs:List V) (H:Hp) (Q:VK) (E_:XK):Prop where
 | mk:∀(f n E G Kp D Rw l:Addr) (ed gd:List (Key×V)) (x:Str) (vs':List V) (g:Nat),vs=[.ref f,.str x]->rm K t H f n E G Kp D Rw->H E=some (.dK ed)->H G=some (.dK gd)->b8 ed (Sum.inr x)=some (.ref l)->b8 gd (Sum.inr x)=some (.int g)->bT K H l vs'->Q (.int (vs'.length - g)) H->vh K t vs H Q E_
theorem DX (T:Txt w K mg t):FO P w K mg base 1 t.qU ["self", "lane"] (vh K t):=by have sc:=T.qM.sc ["self", "lane"];refine T.qM.F.ok sc ln (λ_ _ _ _ H vs Q E hr h=>?_);obtain⟨f,n,E,G,Kp,D,Rw,l,ed,gd,x,vs',g,rfl,N,hE,hG,h3,h4,h5,k⟩:=h;refine⟨_,(aA (aQ (aX CG (aY bN (by rfl) T.eE cL (aa (fu hr.u1 (bJ (pv 0) rfl) (pv 1) (λ_ _=>rfl)) ao aC)) (fu hr.u1 (bJ (pv 0) rfl) (pv 1) (λ_ _=>rfl))))),?_⟩;obtain⟨dx,fs,h1,h2⟩:=id N.ex;refine⟨_,Z,f,_,dx,fs,_,Z,h1,T.aW.c,T.aW.na.2.1,h2.has ("ever",.ref E) (by simp),_,Z,E,_,Z,(by rw [<-h3];exact fP.k (k:=Sum.inr x) hE),?_⟩;refine⟨.ref l,vs'.length,Z,.inl ⟨vs',h5,Z⟩,_,Z,f,_,dx,fs,_,Z,h1,T.aW.c,T.aW.na.2.2.1,h2.has ("gone",.ref G) (by simp),_,Z,G,_,Z,(by rw [<-h4];exact fP.k (k:=Sum.inr x) hG),?_⟩;refine⟨_,_,Z,Z,?_⟩;exact k
inductive xT (K:Fr) (t:mL) (vs:List V) (H:Hp) (Q:VK) (E_:XK):Prop where
 | mk:∀(f n E G Kp D Rw l:Addr) (ed gd:List (Key×V)) (x:Str) (vs':List V) (g:Nat),vs=[.ref f,.str x]->rm K t H f n E G Kp D Rw->H E=some (.dK ed)->H G=some (.dK gd)->b8 ed (Sum.inr x)=some (.ref l)->b8 gd (Sum.inr x)=some (.int g)->bT K H l vs'->Q ((vs'[g]?).getD .non) H->xT K t vs H Q E_
theorem Gz (T:Txt w K mg t):FO P w K mg base 2 t.sO ["self", "lane"] (xT K t):=by
 have sc:=T.sV.sc ["self", "lane"];refine T.sV.F.ok sc ln (λ_ _ _ _ H vs Q E hr h=>?_);obtain⟨f,n,E,G,Kp,D,Rw,l,ed,gd,x,vs',g,rfl,N,hE,hG,h3,h4,h5,k⟩:=h;refine⟨_,(aA (aQ (Cy (bf Ca (K6 (pv 0) T.aW T.aW.me.2.1 (DX T) T.qM hr (aa (pv 1) ao aj)) aq (bH _)) (aU aR (fu hr.u1 (bJ (pv 0) Z) (pv 1) (λ_ _=>Z)) (fu hr.u1 (bJ (pv 0) Z) (pv 1) (λ_ _=>Z)) (λ_ _=>Z)) nZ))),?_⟩;obtain⟨dx,fs,h1,h2⟩:=id N.ex;refine⟨_,Z,f,dx,fs,Z,h1,h2.no _ (by decide +kernel),_,Z,f,n,E,G,Kp,D,Rw,l,ed,gd,x,vs',g,Z,N,hE,hG,h3,h4,h5,?_⟩;refine⟨_,_,Z,Z,_,Z,iD (λe=>?_) (λe=>?_)⟩
 ·have e':g <vs'.length:=by have:=of_decide_eq_true e;lia
  refine⟨_,Z,f,_,dx,fs,_,Z,h1,T.aW.c,T.aW.na.2.1,h2.has ("ever",.ref E) (by simp),_,Z,E,_,Z,(by rw [<-h3];exact fP.k (k:=Sum.inr x) hE),?_⟩;refine⟨_,Z,f,_,dx,fs,_,Z,h1,T.aW.c,T.aW.na.2.2.1,h2.has ("gone",.ref G) (by simp),_,Z,G,_,Z,(by rw [<-h4];exact fP.k (k:=Sum.inr x) hG),?_⟩;rw [getElem?_eq_getElem e'] at k;exact⟨l,vs',g,_,Z,Z,h5,aJ (getElem?_eq_getElem e'),k⟩
 ·have e':¬g <vs'.length:=λz=>e (decide_eq_true (by lia));rw [getElem?_eq_none (by lia)] at k;exact k
inductive ou (K:Fr) (t:mL) (vs:List V) (H:Hp) (Q:VK):Prop where
 | mk:∀(f n E G Kp D Rw:Addr) (rd dd:List (Key×V)) (x:Str),vs=[.ref f,.str x]->rm K t H f n E G Kp D Rw->H Rw=some (.dK rd)->H D=some (.dK dd)->(((b8 rd (Sum.inr x)=none/\Q (.bl false) H)∨∃(l:Addr) (vs':List V) (g:Nat),b8 rd (Sum.inr x)=some (.ref l)/\b8 dd (Sum.inr x)=some (.int g)/\bT K H l vs'/\Q (.bl (decide (g=vs'.length))) H))->ou K t vs H Q
@[irreducible] noncomputable def d8 (K:Fr) (t:mL):Sp:=λvs H Q _=>ou K t vs H Q
theorem ye (T:Txt w K mg t):FO P w K mg base 1 t.jY ["self", "name"] (d8 K t):=by
 have sc:=T.j9.sc ["self", "name"];refine T.j9.F.ok sc (λvs H Q E h=>?_) (λcdv A outer s H vs Q E hr h=>?_)
 ·unfold d8 at h;obtain⟨f,n,E,G,Kp,D,Rw,rd,dd,x,rfl,_⟩:=h;rfl
 ·unfold d8 at h;obtain⟨f,n,E,G,Kp,D,Rw,rd,dd,x,rfl,N,hR,hD,k⟩:=h;refine⟨_,(aA (aQ (yU (BJ (yX hr.u1 (pv 1) (bJ (pv 0) rfl))) (yR (qH fO (fu hr.u1 (bJ (pv 0) rfl) (pv 1) (λ_ _=>rfl)) (aY bN (by rfl) T.eE cL (aa (fu hr.u1 (bJ (pv 0) rfl) (pv 1) (λ_ _=>rfl)) ao aC)) (bH _)))))),?_⟩;obtain⟨dx,fs,h1,h2⟩:=id N.ex;refine⟨_,Z,_,Z,f,_,dx,fs,_,Z,h1,T.aW.c,T.aW.na.2.2.2.2.2.1,h2.has ("rows",.ref Rw) (by simp),Rw,_,Z,fP.k (k:=Sum.inr x) hR,?_⟩;rcases k with ⟨k1,k⟩ | ⟨l,vs',g,k1,k2,k3,k⟩
  ·rw [k1];exact⟨_,Z,cQ k⟩
  ·rw [k1];refine⟨_,Z,fc ?_⟩;refine⟨_,Z,f,_,dx,fs,_,Z,h1,T.aW.c,T.aW.na.2.2.2.2.1,h2.has ("done",.ref D) (by simp),_,Z,D,_,Z,(by rw [<-k2];exact fP.k (k:=Sum.inr x) hD),?_⟩;refine⟨_,Z,f,_,dx,fs,_,Z,h1,T.aW.c,T.aW.na.2.2.2.2.2.1,h2.has ("rows",.ref Rw) (by simp),_,Z,Rw,_,Z,(by rw [<-k1];exact fP.k (k:=Sum.inr x) hR),?_⟩;refine⟨.ref l,vs'.length,Z,.inl ⟨vs',k3,Z⟩,Z,?_⟩;rw [show decide (V.int (g:Int)=V.int (vs'.length:Int))=decide (g=vs'.length) by rw [decide_eq_decide,V.int.injEq];lia];exact k
inductive vH (K:Fr) (t:mL) (vs:List V) (H:Hp) (Q:VK) (E_:XK):Prop where
 | mk:∀(f n E G Kp D Rw p:Addr) (ed gd:List (Key×V)) (i:Nat) (nm:V) (ns os:List V) (xs:List Str) (hv:Str->V),vs=[.ref f,.ref p]->rm K t H f n E G Kp D Rw->H E=some (.dK ed)->H G=some (.dK gd)->fC K t H p i nm ns (xs.map V.str) os->xs.length<=3->((∀x∈xs,∃(l:Addr) (vs':List V) (g:Nat),b8 ed (Sum.inr x)=some (.ref l)/\b8 gd (Sum.inr x)=some (.int g)/\bT K H l vs'/\hv x=(vs'[g]?).getD .non))->(∀d,H d=none->Q (.ref d) (upd H d (.lst (xs.map hv))))->vH K t vs H Q E_
theorem vB (T:Txt w K mg t):FO P w K mg base 3 t.qG ["self", "part"] (vH K t):=by
 have sc:=T.mF.sc ["self", "part"];refine T.mF.F.ok sc ln (λ_ _ _ _ H vs Q E hr h=>?_);obtain⟨f,n,E,G,Kp,D,Rw,p,ed,gd,i,nm,ns,os,xs,hv,rfl,N,hE,hG,hP,hx,hh,k⟩:=h;refine⟨_,(aA (aQ (gP [0] ["self", "part"] (bh (inClass (top 16) 6)) Z (Hy (bJ (pv 1) Z)) (λ_ _ _ _ _=>jw) (λ_ _ _ _ _=>(K6 (pv 1) T.aW T.aW.me.2.2.1 (Gz T) T.sV hr (aa (pv 0) ao aj)))))),?_⟩;obtain⟨dx,fs,h1,h2⟩:=id N.ex;obtain⟨dxp,tn,ti,to,p1,p2,p3,p4⟩:=id hP.ex;have hz:sizeLine=16777216:=sizeLine_eq;refine⟨_,Z,p,_,dxp,_,_,Z,p1,iJ T i,zc T i,tW _ _ _ _,ti,Z,⟨_,p3⟩,?_⟩;refine Ka (K:=K) (a:=ti) (xs:=xs.map V.str) (λj ys H'=>H'=H/\ys=(xs.take j).map hv) (by simp;lia) ⟨Z,Z⟩ (λj ys H' ⟨_,e⟩=>by rw [e];simp;lia) (λj ys H' _ ⟨e,_⟩=>by rw [e];exact p3) ?_ ?_
 ·rintro j y ys H' hy ⟨rfl,rfl⟩;rw [getElem?_map] at hy;obtain⟨x,hq,rfl⟩:=map_eq_some_iff.mp hy;obtain⟨l,vs',g,g1,g2,g3,g4⟩:=hh x (mem_of_getElem? hq);refine yes ⟨_,Z,f,dx,fs,Z,h1,h2.no _ (by decide +kernel),_,Z,f,n,E,G,Kp,D,Rw,l,ed,gd,x,vs',g,Z,N,hE,hG,g1,g2,g3,Z,?_⟩;rw [take_succ,hq,toList_some,map_append,<-g4];rfl
 ·rintro ys H' ⟨rfl,rfl⟩ d hd;rw [lM,take_length];exact k d hd
theorem Rt (T:Txt w K mg t) (i:Nat):MethAt P w K mg base Eh 2 (cls t i) "lacks" (xr K t i):=match i with
 | 0=>⟨_,_,_,T.iB.c,(T.bC.me T.iB.me.2.2.2.1),T.bC.b,(cT T).imp λ_ _ _ _ h=>⟨_,h⟩⟩
 | 1=>⟨_,_,_,T.ir.c,(T.bC.me T.ir.me.2.2.2.1),T.bC.b,(cT T).imp λ_ _ _ _ h=>⟨_,h⟩⟩
 | 2=>⟨_,_,_,T.iu.c,(T.bC.me T.iu.me.2.2.2.1),T.bC.b,(cT T).imp λ_ _ _ _ h=>⟨_,h⟩⟩
 | 3=>⟨_,_,_,T.iC.c,(T.bC.me T.iC.me.2.2.2.1),T.bC.b,(cT T).imp λ_ _ _ _ h=>⟨_,h⟩⟩
 | 4=>⟨_,_,_,T.iQ.c,(T.bC.me T.iQ.me.2.2.2.1),T.bC.b,(cT T).imp λ_ _ _ _ h=>⟨_,h⟩⟩
 | 5=>⟨_,_,_,T.iw.c,(T.bC.me T.iw.me.2.2.2.1),T.bC.b,(cT T).imp λ_ _ _ _ h=>⟨_,h⟩⟩
 | 6=>⟨_,_,_,T.lB.c,(T.bC.me T.lB.me.2.2.2.1),T.bC.b,(cT T).imp λ_ _ _ _ h=>⟨_,h⟩⟩
 | 7=>⟨_,_,_,T.iK.c,(T.bC.me T.iK.me.2.2.2.1),T.bC.b,(cT T).imp λ_ _ _ _ h=>⟨_,h⟩⟩
 | 8=>⟨_,_,_,T.fH.c,(T.bC.me T.fH.me.2.2.2.1),T.bC.b,(cT T).imp λ_ _ _ _ h=>⟨_,h⟩⟩
 | 9=>⟨_,_,_,T.dZ.c,(T.bC.me T.dZ.me.2.2.2.1),T.bC.b,(cT T).imp λ_ _ _ _ h=>⟨_,h⟩⟩
 | n+10=>⟨_,_,_,T.fG.c,(T.bC.me T.fG.me.2.2.2.1),T.bC.b,(cT T).imp λ_ _ _ _ h=>⟨_,h⟩⟩
inductive rR (K:Fr) (t:mL) (vs:List V) (H:Hp) (Q:VK) (E:XK):Prop where
 | mk:∀(A:yx) (ls:List aK) (ps:List PD) (S:FS) (p:PD),vs=[.ref A.f,.str p.name]->nQ K t H A.n ls ps->jM K t H A ls ps S->p∈ps->(∀H',aO H H'->Q (gM p.kind p.ins (bu S p)) H')->rR K t vs H Q E
theorem An (T:Txt w K mg t):FO P w K mg base 4 t.nj ["self", "name"] (rR K t):=by
 have sc:=T.mX.sc ["self", "name", "part", "place"];refine T.mX.F.ok sc ln (λ_ _ _ _ H vs Q E hr h=>?_);obtain⟨A,ls,ps,S,p,rfl,N,W,hp,k⟩:=h;refine⟨_,(au (sN sc 2 (K6 (bJ (pv 0) Z) T.bF T.bF.me.2.2.2.2.2.2.2.1 (m8 T) T.jm hr (aa (pv 1) ao aj)))
  (au (sN sc 3 (xO (CX:=Eh) (k:=2) (E:=E0) (pv 2) (hr.mono (by decide)) gY (aa (K6 (pv 0) T.aW T.aW.me.2.2.2.2.1 (vB T) T.mF hr (aa (pv 2) ao aj)) ao bc)))
  (aA (aQ (Cy (j8 (Hd (pv 3))) nZ (aU dI (bJ (pv 2) rfl) (pv 3) (λ_ _=>rfl))))))),?_⟩
 obtain⟨dxn,fsn,R,F,Pd,Gn,Tk,FL,PL,Wn⟩:=id N;have F:=Wn.fit;obtain⟨dx,fs,h1,h2⟩:=id W.at'.ex;have hh1:∀{H':Hp},aO H H'->(∀x∈p.ins,∃(l:Addr) (vs':List V) (g:Nat),b8 (TQ A.ea ls) (Sum.inr x)=some (.ref l)/\b8 (cZ S.g ls) (Sum.inr x)=some (.int g)/\bT K H' l vs'/\lD S x=(vs'[g]?).getD .non):=λs x hx=>by obtain⟨l,hl,rfl⟩:=F.inL hp (mem_append.mpr (.inl hx));exact⟨A.ea l.name,_,S.g l.name,Ii F.whole.nod hl,yG F.whole.nod hl,bT.of (s _ _ (W.lists l hl)),by unfold lD;rw [getElem?_map]⟩
 refine⟨_,Z,A.f,_,dx,fs,_,Z,h1,T.aW.c,T.aW.na.1,h2.has ("net",.ref A.n) (by simp),A.n,dxn,fsn,Z,Wn.obj,Wn.fl.no _ (by decide +kernel),_,Z,A.n,ls,ps,p.name,Z,N,.inl ⟨p,hp,Z,λH1 q s1 P1=>?_⟩⟩;obtain⟨dxp,tn,ti,to,p1,p2,p3,p4⟩:=id P1.ex;have W1:=W.same s1;have hI:=(F.pok p hp).2.2.1;have hO:=ur S p (F.pok p hp);refine⟨_,Z,q,cls t p.kind,dxp,_,xr K t p.kind,Z,p1,uL _ _ _ _ (by decide +kernel) (by decide +kernel) (by decide +kernel) (by decide +kernel),Rt T p.kind,?_⟩;refine⟨_,Z,A.f,dx,fs,Z,s1 _ _ h1,h2.no _ (by decide +kernel),_,Z,A.f,A.n,A.E,A.G,A.Kp,A.D,A.Rw,q,_,_,p.kind,_,_,_,p.ins,lD S,Z,W1.at',W1.ever,W1.gone,P1,(by have:=Gx p.kind;lia),hh1 s1,λd hd=>?_⟩;have s2:aO H1 (upd H1 d (.lst (p.ins.map (lD S)))):=aB hd;refine⟨q,d,_,_,_,_,bu S p,Z,P1.same s2,by rw [lM];exact hI,bT.of az,hO,λH3 s3=>?_⟩;have s23:=s2.trans s3;have k':=k H3 (s1.trans s23);have hlt:=j4 hO;unfold gM at k';unfold Nt;cases hf:(places p.kind (bu S p)).find? (vV (bu S p)) with
 | none=>
  rw [hf] at k';exact⟨_,Z,_,Z,fc k'⟩
 | some j=>
  rw [hf] at k';have hq:j <p.ins.length:=by have:=hlt j (List.mem_of_find?_eq_some hf);unfold bu at this;rwa [lM] at this
  have k':Q (V.str p.ins[j]) H3:=by simpa only [getElem?_eq_getElem hq,map_some,getD_some] using k'
  exact⟨_,rfl,_,rfl,cQ ⟨_,rfl,q,_,dxp,_,_,rfl,s23 _ _ p1,iJ T p.kind,zc T p.kind,tW _ _ _ _,_,rfl,ti,p.ins.map V.str,j,_,rfl,rfl,s23.seqT p3,aJ (j:=j) (by rw [getElem?_map,getElem?_eq_getElem hq];rfl),k'⟩⟩
theorem OD (T:Txt w K mg t) {i:Nat} (hi:i <11):MethAt P w K mg base Eh 2 (cls t i) "worked" (d7 K t i):=match i,hi with
 | 0,_=>⟨_,_,_,T.iB.c,(T.kY.me T.iB.me.2.2.2.2.1),T.kY.b,fY.mono (k:=2) (Cz T) (by decide)⟩
 | 1,_=>⟨_,_,_,T.ir.c,(T.kI.me T.ir.me.2.2.2.2.1),T.kI.b,fY.mono (k:=2) (Cg T) (by decide)⟩
 | 2,_=>⟨_,_,_,T.iu.c,(T.kW.me T.iu.me.2.2.2.2.1),T.kW.b,fY.mono (k:=2) (Bf T) (by decide)⟩
 | 3,_=>⟨_,_,_,T.iC.c,(T.kZ.me T.iC.me.2.2.2.2.1),T.kZ.b,fY.mono (k:=2) (Ds T) (by decide)⟩
 | 4,_=>⟨_,_,_,T.iQ.c,(T.km.me T.iQ.me.2.2.2.2.1),T.km.b,fY.mono (k:=2) (BK T) (by decide)⟩
 | 5,_=>⟨_,_,_,T.iw.c,(T.kj.me T.iw.me.2.2.2.2.1),T.kj.b,fY.mono (k:=2) (Dn T) (by decide)⟩
 | 6,_=>⟨_,_,_,T.lB.c,(T.mC.me T.lB.me.2.2.2.2.1),T.mC.b,fY.mono (k:=2) (Em T) (by decide)⟩
 | 7,_=>⟨_,_,_,T.iK.c,(T.kJ.me T.iK.me.2.2.2.2.1),T.kJ.b,fY.mono (k:=2) (Cd T) (by decide)⟩
 | 8,_=>⟨_,_,_,T.fH.c,(T.jP.me T.fH.me.2.2.2.2.1),T.jP.b,fY.mono (k:=2) (Ah T) (by decide)⟩
 | 9,_=>⟨_,_,_,T.dZ.c,(T.jr.me T.dZ.me.2.2.2.2.1),T.jr.b,fY.mono (k:=2) (yP T) (by decide)⟩
 | 10,_=>⟨_,_,_,T.fG.c,(T.jQ.me T.fG.me.2.2.2.2.1),T.jQ.b,fY.mono (k:=2) (Af T) (by decide)⟩
theorem Zo (ns ws:List Int) (kp:Int):∀pv∈cu 0 ns ws kp,∃q:Nat,pv.1=(q:Int)/\q <cO 0:=by intro pv h;simp [cu] at h;subst h;exact⟨0,Z,by decide⟩
theorem YK (ns ws:List Int) (kp:Int):∀pv∈cu 1 ns ws kp,∃q:Nat,pv.1=(q:Int)/\q <cO 1:=by intro pv h;simp [cu] at h
theorem ZX (ns ws:List Int) (kp:Int):∀pv∈cu 2 ns ws kp,∃q:Nat,pv.1=(q:Int)/\q <cO 2:=by intro pv h;simp [cu] at h;subst h;exact⟨0,Z,by decide⟩
theorem ZW (ns ws:List Int) (kp:Int):∀pv∈cu 3 ns ws kp,∃q:Nat,pv.1=(q:Int)/\q <cO 3:=by
 intro pv h;simp [cu] at h;rcases h with rfl | rfl
 ·exact⟨0,Z,by decide⟩
 ·exact⟨1,Z,by decide⟩
theorem Yy (ns ws:List Int) (kp:Int):∀pv∈cu 4 ns ws kp,∃q:Nat,pv.1=(q:Int)/\q <cO 4:=by intro pv h;simp [cu] at h;subst h;exact⟨0,Z,by decide⟩
theorem Zy (ns ws:List Int) (kp:Int):∀pv∈cu 5 ns ws kp,∃q:Nat,pv.1=(q:Int)/\q <cO 5:=by intro pv h;simp [cu] at h;subst h;exact⟨0,Z,by decide⟩
theorem Zf (ns ws:List Int) (kp:Int):∀pv∈cu 6 ns ws kp,∃q:Nat,pv.1=(q:Int)/\q <cO 6:=by intro pv h;simp [cu] at h;subst h;exact⟨0,Z,by decide⟩
theorem YQ (ns ws:List Int) (kp:Int):∀pv∈cu 7 ns ws kp,∃q:Nat,pv.1=(q:Int)/\q <cO 7:=by intro pv h;simp [cu] at h;subst h;exact⟨0,Z,by decide⟩
theorem Zw (ns ws:List Int) (kp:Int):∀pv∈cu 8 ns ws kp,∃q:Nat,pv.1=(q:Int)/\q <cO 8:=by
 intro pv h;simp [cu] at h;rcases h with rfl | rfl
 ·exact⟨0,Z,by decide⟩
 ·exact⟨1,Z,by decide⟩
theorem Z1 (ns ws:List Int) (kp:Int):∀pv∈cu 9 ns ws kp,∃q:Nat,pv.1=(q:Int)/\q <cO 9:=by intro pv h;simp [cu] at h;subst h;exact⟨0,Z,by decide⟩
theorem W9 (ns ws:List Int) (kp:Int):∀pv∈cu 10 ns ws kp,∃q:Nat,pv.1=(q:Int)/\q <cO 10:=by intro pv h;simp [cu] at h;subst h;have h0:=emod_nonneg (g0 ws) (show(2:Int)≠0 by decide);have h1:=emod_lt_of_pos (g0 ws) (show(0:Int) <2 by decide);exact⟨(g0 ws % 2).toNat,by show g0 ws % 2=_;lia,by show(g0 ws % 2).toNat <2;lia⟩
theorem Hi {i:Nat} (hi:i<=10) (ns ws:List Int) (kp:Int):∀pv∈cu i ns ws kp,∃q:Nat,pv.1=(q:Int)/\q <cO i:=by
 match i,hi with
 | 0,_=>exact Zo ns ws kp
 | 1,_=>exact YK ns ws kp
 | 2,_=>exact ZX ns ws kp
 | 3,_=>exact ZW ns ws kp
 | 4,_=>exact Yy ns ws kp
 | 5,_=>exact Zy ns ws kp
 | 6,_=>exact Zf ns ws kp
 | 7,_=>exact YQ ns ws kp
 | 8,_=>exact Zw ns ws kp
 | 9,_=>exact Z1 ns ws kp
 | 10,_=>exact W9 ns ws kp
 | (n+11),z=>exact absurd z (by lia)
theorem Bs (i:Nat) (ns ws:List Int) (kp:Int):(cu i ns ws kp).length<=2:=match i with
 | 0=>by simp [cu]
 | 1=>by simp [cu]
 | 2=>by simp [cu]
 | 3=>by simp [cu]
 | 4=>by simp [cu]
 | 5=>by simp [cu]
 | 6=>by simp [cu]
 | 7=>by simp [cu]
 | 8=>by simp [cu]
 | 9=>by simp [cu]
 | n+10=>by simp [cu]
noncomputable def nameAt (xs:List Str) (q:Nat):V:=V.str ((xs[q]?).getD Str.empty)
theorem Wg {H:Hp} {Q:VK} {Ex:XK} {f n E G Kp D Rw:Addr} {rd dd:List (Key×V)} {y:Str} (N:rm K t H f n E G Kp D Rw) (hR:H Rw=some (.dK rd)) (hD:H D=some (.dK dd))
  (k:(b8 rd (Sum.inr y)=none/\Q (.bl false) H)∨∃(l:Addr) (vs':List V) (g:Nat),b8 rd (Sum.inr y)=some (.ref l)/\b8 dd (Sum.inr y)=some (.int g)/\bT K H l vs'/\Q (.bl (decide (g=vs'.length))) H):d8 K t [.ref f,.str y] H Q Ex:=by
 unfold d8;exact⟨f,n,E,G,Kp,D,Rw,rd,dd,y,Z,N,hR,hD,k⟩
theorem Ze {i:Nat} (h0:i≠0) (hi:i <11) (h9:i≠9):cV i=cI i:=by
 match i,h0,hi with
 | 1,_,_=>rfl
 | 2,_,_=>rfl
 | 3,_,_=>rfl
 | 4,_,_=>rfl
 | 5,_,_=>rfl
 | 6,_,_=>rfl
 | 7,_,_=>rfl
 | 8,_,_=>rfl
 | 9,_,_=>exact absurd rfl h9
 | 10,_,_=>rfl
theorem Il {S:FS} {p:PD} (ok:pH p) (hl:gM p.kind p.ins (bu S p)=.non):∀q∈places p.kind (bu S p),∃x n,p.ins[q]?=some x/\(bu S p)[q]?=some (.int n)/\(S.ev x)[S.g x]?=some n:=by
 have hO:=ur S p ok;have hf:(places p.kind (bu S p)).find? (vV (bu S p))=none:=by
  cases hf:(places p.kind (bu S p)).find? (vV (bu S p)) with
  | none=>rfl
  | some j=>
   unfold gM at hl;rw [hf] at hl;have hq:j <p.ins.length:=by have:=j4 hO j (List.mem_of_find?_eq_some hf);unfold bu at this;rwa [lM] at this
   simp only [getElem?_eq_getElem hq,map_some,getD_some] at hl;cases hl
 intro q hq;have h1:=find?_eq_none.mp hf q hq;have hlt:=j4 hO q hq;have hlt':q <p.ins.length:=by unfold bu at hlt;rwa [lM] at hlt
 have e:(bu S p)[q]?=some (lD S p.ins[q]):=by unfold bu;rw [getElem?_map,getElem?_eq_getElem hlt'];rfl
 refine⟨p.ins[q],?_⟩;unfold vV at h1;rw [e] at h1 ⊢;unfold lD at h1 ⊢;cases h0:(S.ev p.ins[q])[S.g p.ins[q]]? with
 | none=>rw [h0] at h1;exact absurd (by simp) h1
 | some n=>exact⟨n,getElem?_eq_getElem hlt',by simp,rfl⟩
theorem Ri {b:Nat} {ls:List aK} {ps:List PD} {S:FS} (F:yf ls ps) (O:UW b ls ps S) {p:PD} (hp:p∈ps) (hl:gM p.kind p.ins (bu S p)=.non) (he:BW S p=false):(wI S p).length=cV p.kind/\Yv (wI S p)/\
  (p.kind≠0->(places p.kind (bu S p)).map (λq=>((bu S p)[q]?).getD .non)=(wI S p).map V.int)/\(p.kind=0->∃w,(S.r p.name)[S.d p.name]?=some w/\wI S p=[w]):=by
 have ok:=F.pok p hp;have hn:=Il ok hl;by_cases h0:p.kind=0
 ·have hd:=O.dl p hp h0;have hlt:S.d p.name <(S.r p.name).length:=by
   unfold BW at he;simp [h0] at he
   lia
  have e:=getElem?_eq_getElem hlt;have ew:wI S p=[(S.r p.name)[S.d p.name]]:=by unfold wI;rw [if_pos h0,e];rfl
  refine⟨by rw [ew,h0];rfl,λw hw=>?_,λz=>absurd h0 z,λ_=>⟨_,e,ew⟩⟩;rw [ew,mem_singleton] at hw;subst hw;exact O.rb p hp h0 _ (List.getElem_mem hlt)
 ·have ew:wI S p=(places p.kind (bu S p)).map λq=>Xp (((bu S p)[q]?).getD .non):=by unfold wI;rw [if_neg h0]
  refine⟨?_,λw hw=>?_,λ_=>?_,λz=>absurd z h0⟩
  ·rw [ew,lM];by_cases h9:p.kind=9
   ·have h3:=hn;unfold places at h3 ⊢;rw [if_pos h9] at h3 ⊢;split
    ·rw [h9];rfl
    ·rename_i hno;obtain⟨x,n,_,h3,_⟩:=h3 0 (by split <;> simp);cases hs:bu S p with
     | nil=>rw [hs] at h3;cases h3
     | cons a r=>
      rw [hs] at h3;have:a=.int n:=by simpa using h3
      exact absurd (by rw [hs,this]) (hno n r)
   ·unfold places;rw [if_neg h9,length_range,(ur S p ok).1,Ze h0 ok.1 h9]
  ·rw [ew] at hw;obtain⟨q,hq,rfl⟩:=mem_map.mp hw;obtain⟨x,n,hx,h3,h4⟩:=hn q hq;rw [h3];show 0<=n/\n <1000000000;obtain⟨l,hll,rfl⟩:=F.inL hp (mem_append.mpr (.inl (mem_of_getElem? hx)));exact O.vb l hll n (mem_of_getElem? h4)
  ·rw [ew,map_map];refine map_congr_left λq hq=>?_;obtain⟨x,n,_,h3,_⟩:=hn q hq;show _=V.int (Xp _);rw [h3];rfl
theorem Lk {S:FS} {p:PD} (h:gM p.kind p.ins (bu S p)≠.non):dh S p=none:=by unfold dh;rw [if_pos h]
theorem Pk {S:FS} {p:PD} (h:BW S p=true):dh S p=none:=by unfold dh;split <;> simp [h]
inductive vC (K:Fr) (t:mL) (vs:List V) (H:Hp) (Q:VK):Prop where
 | mk:∀(b:Nat) (A:yx) (ls:List aK) (ps:List PD) (S:FS) (p:PD),vs=[.ref A.f,.str p.name]->nQ K t H A.n ls ps->jM K t H A ls ps S->p∈ps->UW b ls ps S->((dh S p=none->∀H',aO H H'->Q .non H'))->(∀dd,dh S p=some dd->∀H' U,aO H H'->H U=none->qi (A.cells ls ps) H' U dd->Q (.ref U) H')->vC K t vs H Q
@[irreducible] noncomputable def iY (K:Fr) (t:mL):Sp:=λvs H Q _=>vC K t vs H Q
noncomputable abbrev oV:List Str:=["self", "name", "part", "heads", "places", "values", "answer", "given"]
theorem yp (T:Txt w K mg t):FO P w K mg base 5 t.tQ ["self", "name"] (iY K t):=by
 have sc:=T.oG.sc oV;refine T.oG.F.ok sc (λvs H Q E h=>?_) (λcdv A outer s H vs Q E hr h=>?_)
 ·unfold iY at h;obtain⟨b,A,ls,ps,S,p,rfl,_⟩:=h;rfl
 ·unfold iY at h;obtain⟨b,A,ls,ps,S,p,rfl,N,W,hp,O,kn,k⟩:=h;refine⟨_,(au (bQ (PW.pt (o8 (j8 (Iu (K6 (pv 0) T.aW T.aW.me.2.2.2.2.2.1 (An T) T.mX hr (aa (pv 1) ao aj)))) (lW (fU (K6 (pv 0) T.aW T.aW.me.2.2.2.1 (ye T) T.j9 hr (aa (pv 1) ao aj))))))
    (aA (aQ nZ))
    bw)
   (au (sN sc 2 (K6 (bJ (pv 0) rfl) T.bF T.bF.me.2.2.2.2.2.2.2.1 (m8 T) T.jm hr (aa (pv 1) ao aj)))
   (au (sN sc 3 (K6 (pv 0) T.aW T.aW.me.2.2.2.2.1 (vB T) T.mF hr (aa (pv 2) ao aj)))
   (au (sN sc 4 (xO (CX:=Eh) (k:=1) (E:=E0) (pv 2) (hr.mono (by decide)) gY (aa (pv 3) ao aj)))
   (au (m9 (i:=5) [3] oV (bh (inClass (top 16) 9)) rfl sc.nd rfl (cX (pv 4)) (λ_ _ _ _ _=>jw) (λ_ _ _ _ _=>(aU (Jh (K:=K) rfl) (pv 1) (pv 0) (λ_ _=>rfl))))
   (au (eO (bQ (j8 (yX hr.u1 (pv 1) (bJ (pv 0) rfl)))
    (aA (sN sc 5 (bj (aa (aU aR (fu hr.u1 (bJ (pv 0) rfl) (pv 1) (λ_ _=>rfl)) (fu hr.u1 (bJ (pv 0) rfl) (pv 1) (λ_ _=>rfl)) (λ_ _=>rfl)) ao aC))))
    bw))
   (au (sN sc 6 (xO (CX:=Eh) (k:=2) (E:=E0) (pv 2) (hr.mono (by decide)) gY (aa (pv 5) (aa (fu hr.u1 (bJ (pv 0) rfl) (pv 1) (λ_ _=>rfl)) ao aC) aj)))
   (au (Q4 (i:=7) ["place", "value"] [2] oV (bh (inClass (top 16) 9)) rfl sc.nd rfl (cX (aU dI (pv 6) aq (λ_ _=>rfl))) (λ_ _ _ _ _=>UT (K:=K) (n:=2) rfl rfl (qe (Av (i:=0) (show(["place", "value", "part"]:List Str).Nodup by decide +kernel) rfl (Or.inl rfl) (.inr rfl)) (qe (Av (i:=1) (show(["place", "value", "part"]:List Str).Nodup by decide +kernel) rfl (Or.inl rfl) (.inr rfl)) Ho))) (λ_ _ _ _ _=>jw) (λ_ _ _ _ _=>(bV (aa (aU (mq (K:=K) rfl) (GR (K:=K) rfl (pv 2) rfl) (pv 0) (λ_ _=>rfl)) (aa (pv 1) ao aj) aC))))
   (aA (aQ (bV (aa (gP [2] oV (bh (inClass (top 16) 9)) rfl (cX (pv 4)) (λ_ _ _ _ _=>jw) (λ_ _ _ _ _=>(aU (mq (K:=K) rfl) (GR (K:=K) rfl (pv 1) rfl) (pv 0) (λ_ _=>rfl)))) (aa (pv 7) (aa (aU dI (pv 6) aq (λ_ _=>rfl)) ao aC) aj) fL)))))))))))),?_⟩
  obtain⟨dxn,fsn,R,F,Pd,Gn,Tk,FL,PL,Wn⟩:=id N;have F:=Wn.fit;obtain⟨dx,fs,h1,h2⟩:=id W.at'.ex;have ok:=F.pok p hp;have hO:=ur S p ok;have hI:=ok.2.2.1;have hh1:∀{H':Hp},aO H H'->(∀x∈p.ins,∃(l:Addr) (vs':List V) (g:Nat),b8 (TQ A.ea ls) (Sum.inr x)=some (.ref l)/\b8 (cZ S.g ls) (Sum.inr x)=some (.int g)/\bT K H' l vs'/\lD S x=(vs'[g]?).getD .non):=λs x hx=>by obtain⟨l,hl,rfl⟩:=F.inL hp (mem_append.mpr (.inl hx));exact⟨A.ea l.name,_,S.g l.name,Ii F.whole.nod hl,yG F.whole.nod hl,bT.of (s _ _ (W.lists l hl)),by unfold lD;rw [getElem?_map]⟩
  have hz:sizeLine=16777216:=sizeLine_eq;have hpl:(places p.kind (bu S p)).length<=3:=places_len hO;refine⟨_,Z,A.f,dx,fs,Z,h1,h2.no _ (by decide +kernel),_,Z,A,ls,ps,S,p,Z,N,W,hp,λH1 s1=>?_⟩;by_cases hlk:gM p.kind p.ins (bu S p)≠.non
  ·have e:(!decide (gM p.kind p.ins (bu S p)=V.non))=true:=by simp [hlk]
   refine⟨_,Z,?_⟩;rw [e];exact fc (fc (kn (Lk hlk) H1 s1))
  have hlk:=Classical.not_not.mp hlk;rw [hlk];have W1:=W.same s1;refine⟨_,Z,cQ ⟨_,Z,A.f,dx,fs,Z,s1 _ _ h1,h2.no _ (by decide +kernel),_,Z,?_⟩⟩;have vd:=uU (k:=λx=>(S.d x:Int)) F.pnd hp;cases he:BW S p with
  | true=>
   have h0:p.kind=0/\S.d p.name=(S.r p.name).length:=by unfold BW at he;simpa using he
   refine Wg W1.at' W1.rows W1.done (.inr ⟨_,_,S.d p.name,Bd F.pnd hp h0.1,vd,bT.of (W1.rlst p hp h0.1),?_⟩);rw [decide_eq_true (by rw [lM];exact h0.2)];exact⟨_,Z,fc (kn (Pk he) H1 s1)⟩
  | false=>
  obtain⟨lw,hB,hv,hw0⟩:=Ri F O hp hlk he;have k':=k _ (show dh S p=some _ by unfold dh;rw [if_neg (by simp [hlk]),if_neg (by simp [he])]);have hwl:=Hi (show p.kind<=10 by have:=ok.1;lia) p.nums (wI S p) (S.k p.name);have hw2:=Bs p.kind p.nums (wI S p) (S.k p.name);have pick:∀(Q':VK) (E':XK),Q' (.bl false) H1->d8 K t [.ref A.f,.str p.name] H1 Q' E':=by
   intro Q' E' z;refine Wg W1.at' W1.rows W1.done ?_;by_cases h0:p.kind=0
   ·refine .inr ⟨_,_,S.d p.name,Bd F.pnd hp h0,vd,bT.of (W1.rlst p hp h0),?_⟩;obtain⟨w,ew,_⟩:=hw0 h0;have:=(List.getElem?_eq_some_iff.mp ew).1;rw [decide_eq_false (by rw [lM];lia)];exact z
   ·exact .inl ⟨MK F.pnd hp h0,z⟩
  refine pick _ _ ?_;clear pick;refine⟨_,Z,cQ ?_⟩;have Wn1:=Wn.same s1;refine⟨_,Z,A.f,_,dx,fs,_,Z,s1 _ _ h1,T.aW.c,T.aW.na.1,h2.has ("net",.ref A.n) (by simp),A.n,dxn,fsn,Z,Wn1.obj,Wn1.fl.no _ (by decide +kernel),_,Z,A.n,ls,ps,p.name,Z,Wn1.s,.inl ⟨p,hp,Z,λH2 q s2' hP=>?_⟩⟩;have s2:=s1.trans s2';have W2:=W.same s2;obtain⟨dxp,tn,ti,to,p1,p2,p3,p4⟩:=id hP.ex;clear s2' W1 Wn1;refine⟨_,Z,A.f,dx,fs,Z,s2 _ _ h1,h2.no _ (by decide +kernel),_,Z,A.f,A.n,A.E,A.G,A.Kp,A.D,A.Rw,q,_,_,p.kind,_,_,_,p.ins,lD S,Z,W2.at',W2.ever,W2.gone,hP,(by have:=Gx p.kind;lia),hh1 s2,λd hd=>?_⟩;have s3':=aB (o:=.lst (bu S p)) hd;have ed3:(upd H2 d (.lst (p.ins.map (lD S)))) d=some (.lst (bu S p)):=az;change aO H2 (upd H2 d (.lst (p.ins.map (lD S)))) at s3';generalize upd H2 d (.lst (p.ins.map (lD S)))=H3 at s3' ed3 ⊢;have s3:=s2.trans s3';refine⟨_,Z,q,cls t p.kind,dxp,_,mO K t p.kind,Z,s3' _ _ p1,uL _ _ _ _ (by decide +kernel) (by decide +kernel) (by decide +kernel) (by decide +kernel),FJ T p.kind,_,Z,q,d,_,_,_,_,bu S p,Z,hP.same s3',by rw [lM];exact hI,bT.of ed3,hO,λH4 L s4' nL eL=>?_⟩;have s24:=s3'.trans s4';have s4:=s3.trans s4';have ed4:=s4' _ _ ed3;refine⟨_,rfl,L,rfl,⟨_,bT.of eL⟩,jC (K:=K) (a:=L) (xs:=(places p.kind (bu S p)).map nV) (λj ys H'=>H'=H4/\ys=((places p.kind (bu S p)).take j).map (λq=>((bu S p)[q]?).getD .non)) (by rw [lM];lia) ⟨rfl,rfl⟩ (λj ys H' ⟨_,e⟩=>by rw [e,lM,length_take];lia) (λj ys H' _ ⟨e,_⟩=>by rw [e];exact bT.of eL) ?_ ?_⟩
  ·rintro j v ys H' hv' ⟨e',rfl⟩;subst e';rw [getElem?_map] at hv';obtain⟨r,hr',rfl⟩:=map_eq_some_iff.mp hv';have hql:r <(bu S p).length:=j4 hO r (mem_of_getElem? hr');refine yes ⟨_,Z,_,Z,d,bu S p,r,_,Z,Z,bT.of ed4,aJ (j:=r) (getElem?_eq_getElem hql),Z,?_⟩;rw [take_succ,hr',toList_some,map_append,map_cons,map_nil,getElem?_eq_getElem hql];rfl
  rintro ys H' ⟨e',rfl⟩ V1 hV1;subst e';rw [lM,take_length];have s5':=aB (o:=.lst ((places p.kind (bu S p)).map λq=>((bu S p)[q]?).getD .non)) hV1;have eV:(upd H' V1 (.lst ((places p.kind (bu S p)).map λq=>((bu S p)[q]?).getD .non))) V1=some (.lst ((places p.kind (bu S p)).map λq=>((bu S p)[q]?).getD .non)):=az;generalize upd H' V1 (.lst ((places p.kind (bu S p)).map λq=>((bu S p)[q]?).getD .non))=H5 at s5' eV ⊢;have s25:=s24.trans s5';have s5:=s4.trans s5';have W5:=W.same s5;refine⟨λσ' H6=>∃V2,aO H H6/\aO H2 H6/\aO H' H6/\σ'=[some (.ref A.f),some (.str p.name),some (.ref q),some (.ref d),some (.ref L),some (.ref V2),none,none]/\H6 V2=some (.lst ((wI S p).map V.int)),?_,?_⟩
  ·refine⟨_,Z,_,Z,A.f,_,dx,fs,_,Z,s5 _ _ h1,T.aW.c,T.aW.na.2.2.2.2.2.1,h2.has ("rows",.ref A.Rw) (by simp),A.Rw,_,Z,fP.k (k:=Sum.inr p.name) W5.rows,?_⟩;by_cases h0:p.kind=0
   ·obtain⟨w,ew,eW⟩:=hw0 h0;have v1:=Bd (ra:=A.ra) F.pnd hp h0;rw [v1,eW];refine⟨_,Z,fc ?_⟩;refine⟨_,Z,A.f,_,dx,fs,_,Z,s5 _ _ h1,T.aW.c,T.aW.na.2.2.2.2.2.1,h2.has ("rows",.ref A.Rw) (by simp),_,Z,A.Rw,_,Z,(by rw [<-v1];exact fP.k (k:=Sum.inr p.name) W5.rows),?_⟩;refine⟨_,Z,A.f,_,dx,fs,_,Z,s5 _ _ h1,T.aW.c,T.aW.na.2.2.2.2.1,h2.has ("done",.ref A.D) (by simp),_,Z,A.D,_,Z,(by rw [<-vd];exact fP.k (k:=Sum.inr p.name) W5.done),?_⟩;refine⟨A.ra p.name,_,S.d p.name,_,rfl,rfl,bT.of (W5.rlst p hp h0),aJ (j:=S.d p.name) (by rw [getElem?_map,ew];rfl),by show 1<=sizeLine;lia,λV2 hV2=>?_⟩;exact⟨V2,s5.trans (aB hV2),s25.trans (aB hV2),s5'.trans (aB hV2),Z,az⟩
   ·rw [MK F.pnd hp h0];exact⟨_,Z,cQ ⟨V1,s5,s25,s5',Z,by rw [<-hv h0];exact eV⟩⟩
  rintro σ' H6 ⟨V2,s6,s26,s46,rfl,eV2⟩;clear W5 W2 s25 s24 s5 s5' s4 s3 s3' eV ed4 ed3;have W6:=W.same s6;have hkp:=uU (k:=S.k) F.pnd hp;refine⟨_,Z,q,cls t p.kind,dxp,_,d7 K t p.kind,Z,s26 _ _ p1,uL _ _ _ _ (by decide +kernel) (by decide +kernel) (by decide +kernel) (by decide +kernel),OD T ok.1,_,Z,_,Z,A.f,_,dx,fs,_,Z,s6 _ _ h1,T.aW.c,T.aW.na.2.2.2.1,h2.has ("kept",.ref A.Kp) (by simp),_,Z,A.Kp,_,Z,(by rw [<-hkp];exact fP.k (k:=Sum.inr p.name) W6.kept),?_⟩;refine⟨q,V2,_,p.nums,_,_,wI S p,S.k p.name,Z,hP.same s26,ok.2.1,bT.of eV2,lw,hB,λH7 U0 L0 rs s7 nL0 eU0 eL0 tU=>?_⟩;have s57:=s6.trans s7;have s27:=s26.trans s7;have eL7:=s7 _ _ (s46 _ _ eL);have hlr:rs.length=(cu p.kind p.nums (wI S p) (S.k p.name)).length:=by have:=Paired.length tU;unfold Ja at this;rw [lM] at this;exact this
  clear W6;refine⟨_,Z,U0,_,0,_,Z,Z,fZ.of eU0,aJ (j:=0) Z,L0,Z,⟨_,bT.of eL0⟩,?_⟩;refine Ls (K:=K) (a:=L0) (xs:=rs.map V.ref) (λj ys H8=>aO H7 H8/\∃qs:List Addr,ys=qs.map V.ref/\fD H8 qs (((cu p.kind p.nums (wI S p) (S.k p.name)).take j).map λpv=>[.str (strAt p.outs pv.1.toNat),.int pv.2])) (by rw [lM];lia) ⟨aO.refl _,[],rfl,.nil⟩ ?_ (λj ys H8 _ ⟨e,_⟩=>e.seq (bT.of eL0)) ?_ ?_
  ·rintro j ys H8 ⟨_,qs,rfl,tq⟩;have:=Paired.length tq;rw [lM,length_take] at this;rw [lM]
   lia
  ·rintro j v ys H8 hj ⟨s8,qs,rfl,tq⟩;rw [getElem?_map] at hj;obtain⟨r,hr',rfl⟩:=map_eq_some_iff.mp hj;have hjl:j <(cu p.kind p.nums (wI S p) (S.k p.name)).length:=by have:=(List.getElem?_eq_some_iff.mp hr').1;lia
   obtain⟨pv,hpv⟩:∃pv,(cu p.kind p.nums (wI S p) (S.k p.name))[j]?=some pv:=⟨_,getElem?_eq_getElem hjl⟩;have hr2:H7 r=some (.tup [.int pv.1,.int pv.2]):=by obtain⟨vs2,z1,z2⟩:=Dz tU hr';unfold Ja at z1;rw [getElem?_map,hpv] at z1;cases z1;exact z2
   obtain⟨o,ho1,ho2⟩:=hwl _ (mem_of_getElem? hpv);have ho3:o <p.outs.length:=by rw [ok.2.2.2.1];exact ho2
   have hn:strAt p.outs o=p.outs[o]:=by unfold strAt;rw [getElem?_eq_getElem ho3];rfl
   refine⟨r,_,Z,fZ.of (s8 _ _ hr2),Z,_,_,Z,_,_,Z,Z,Z,?_⟩;refine yes ⟨_,Z,q,_,dxp,_,_,Z,s8 _ _ (s27 _ _ p1),iJ T p.kind,HW T p.kind,Gq _ _ _ _,_,Z,to,p.outs.map V.str,_,.str (strAt p.outs o),Z,Z,s8.seqT (s27.seqT p4),?_,_,Z,by show 2<=sizeLine;lia,λu hu=>⟨s8.trans (aB hu),qs ++ [u],by simp,?_⟩⟩
   ·rw [ho1,hn];exact aJ (j:=o) (by rw [getElem?_map,getElem?_eq_getElem ho3];rfl)
   ·rw [take_succ,hpv,toList_some,map_append];refine(fD.same (aB hu) tq).append (.cons ?_ .nil);show upd H8 u _ u=some (HO.tup [V.str (strAt p.outs pv.1.toNat),V.int pv.2]);rw [ho1,toNat_natCast];exact az
  rintro ys H8 ⟨s8,qs,rfl,tq⟩ Lg hLg;rw [lM,hlr,take_length] at tq;have t9:=aB (o:=.lst (qs.map V.ref)) hLg;have s9':=s8.trans t9;have tq9:=fD.same t9 tq;have eLg:(upd H8 Lg (.lst (qs.map V.ref))) Lg=some (.lst (qs.map V.ref)):=az;generalize upd H8 Lg (.lst (qs.map V.ref))=H9 at t9 s9' tq9 eLg ⊢;have s9:=s57.trans s9';have s29:=s27.trans s9';have eL9:=s9' _ _ eL7;have eU9:=s9' _ _ eU0;refine⟨_,rfl,L,rfl,⟨_,bT.of eL9⟩,jC (K:=K) (a:=L) (xs:=(places p.kind (bu S p)).map nV) (λj ys H'=>H'=H9/\ys=((places p.kind (bu S p)).take j).map (λq=>V.str (strAt p.ins q))) (by rw [lM];lia) ⟨rfl,rfl⟩ (λj ys H' ⟨_,e⟩=>by rw [e,lM,length_take];lia) (λj ys H' _ ⟨e,_⟩=>by rw [e];exact bT.of eL9) ?_ ?_⟩
  ·rintro j v ys HX hv' ⟨e',rfl⟩;subst e';rw [getElem?_map] at hv';obtain⟨r,hr',rfl⟩:=map_eq_some_iff.mp hv';have hql:r <p.ins.length:=by have:=j4 hO r (mem_of_getElem? hr');unfold bu at this;rwa [lM] at this
   have hn:strAt p.ins r=p.ins[r]:=by unfold strAt;rw [getElem?_eq_getElem hql];rfl
   refine yes ⟨_,rfl,q,_,dxp,_,_,rfl,s29 _ _ p1,iJ T p.kind,zc T p.kind,tW _ _ _ _,_,rfl,ti,p.ins.map V.str,r,.str (strAt p.ins r),rfl,rfl,s29.seqT p3,by rw [hn];exact aJ (j:=r) (by rw [getElem?_map,getElem?_eq_getElem hql];rfl),rfl,?_⟩;rw [take_succ,hr',toList_some,map_append];rfl
  rintro ys H10 ⟨e',rfl⟩ La hLa;subst e';rw [lM,take_length];have s10':=aB (o:=.lst ((places p.kind (bu S p)).map λq=>V.str (strAt p.ins q))) hLa;refine⟨_,Z,_,Z,U0,_,1,_,Z,Z,fZ.of (s10' _ _ eU9),aJ (j:=1) Z,by show 3<=sizeLine;lia,λU hU=>?_⟩;refine k' _ U ((s9.trans s10').trans (aB hU)) ((s9.trans s10').free hU) ⟨La,Lg,qs,az,?_,aB hU _ _ (s10' _ _ eLg),?_,W.cell (s9.free hLa),W.cell ((s57.trans s8).free hLg)⟩
  ·rw [map_map];exact aB hU _ _ az
  ·rw [map_map];exact fD.same (s10'.trans (aB hU)) tq9
theorem O9 (g:Str->Nat) {ls:List aK} {x:Str} (hx:x∈ls.map (·.name)) (v:Nat):putK (cZ g ls) (Sum.inr x) (.int (v:Nat))=cZ (λy=>if y=x then v else g y) ls:=by
 unfold putK;rw [if_pos (by obtain⟨l,hl,rfl⟩:=mem_map.mp hx;exact any_eq_true.mpr ⟨_,mem_map.mpr ⟨l,hl,Z⟩,by simp⟩)]
 unfold cZ;rw [map_map];refine map_congr_left λl _=>?_;by_cases h:l.name=x
 ·simp [h]
 ·simp [h]
theorem Ey (g:Str->Int) {ps:List PD} {x:Str} (hx:x∈ps.map (·.name)) (v:Int):putK (bZ g ps) (Sum.inr x) (.int v)=bZ (λy=>if y=x then v else g y) ps:=by
 unfold putK;rw [if_pos (by obtain⟨l,hl,rfl⟩:=mem_map.mp hx;exact any_eq_true.mpr ⟨_,mem_map.mpr ⟨l,hl,Z⟩,by simp⟩)]
 unfold bZ;rw [map_map];refine map_congr_left λl _=>?_;by_cases h:l.name=x
 ·simp [h]
 ·simp [h]
noncomputable def jH (S:FS) (x:Str) (dd:jf):FS:=⟨λy=>S.ev y ++ (dd.gv.filter λq=>decide (q.1=y)).map (·.2),λy=>if y∈dd.tk then S.g y+1 else S.g y,λy=>if y=x then dd.kv else S.k y,λy=>if y=x then S.d y+1 else S.d y,S.r⟩
noncomputable def JD (M:List Addr) (H H':Hp):Prop:=∀b,b∉M->H' b=H b
structure Ia (ls:List aK) (dd:jf):Prop where
 ntk:dd.tk.Nodup
 tin:∀x∈dd.tk,x∈ls.map (·.name)
 gin:∀q∈dd.gv,q.1∈ls.map (·.name)
 g2:dd.gv.length<=2
inductive zP (K:Fr) (t:mL) (vs:List V) (H:Hp) (Q:VK):Prop where
 | mk:∀(b:Nat) (A:yx) (ls:List aK) (ps:List PD) (S:FS) (p:PD) (U:Addr) (dd:jf),vs=[.ref A.f,.str p.name,.ref U]->yf ls ps->jM K t H A ls ps S->p∈ps->((∀l∈ls,(S.ev l.name).length<=b))->b<=100000->qi (A.cells ls ps) H U dd->Ia ls dd->(∀H',JD (A.cells ls ps) H H'->jM K t H' A ls ps (jH S p.name dd)->Q .non H')->zP K t vs H Q
@[irreducible] noncomputable def j5 (K:Fr) (t:mL):Sp:=λvs H Q _=>zP K t vs H Q
theorem Ma (T:Txt w K mg t):FO P w K mg base 1 t.za ["self", "name", "deed"] (j5 K t):=by
 have sc:=T.yW.sc ["self", "name", "deed", "lane", "value"];refine T.yW.F.ok sc (λvs H Q E h=>?_) (λcdv A outer s H vs Q E hr h=>?_)
 ·unfold j5 at h;obtain⟨b,A,ls,ps,S,p,U,dd,rfl,_⟩:=h;rfl
 ·unfold j5 at h;obtain⟨b,A,ls,ps,S,p,U,dd,rfl,F,W,hp,O,hb,⟨La,Lg,rs,hU,hLa,hLg,hT,na,ng⟩,⟨ntk,hin,hout,hg2⟩,k⟩:=h;refine⟨_,(au (fj PassesOwn.never Z (cX (aU dI (pv 2) aq (λ_ _=>Z))) (gN sc 3)
    (aA (Oo hr.u1 (bJ (pv 0) rfl) (pv 3) aq Nz (λ_ _ _=>rfl))))
   (au (fj PassesOwn.never rfl (cX (aU dI (pv 2) aq (λ_ _=>rfl))) (LK rfl (qe (gN sc 3) (qe (gN sc 4) Ho)))
    (aA (bK (Jv (fu hr.u1 (bJ (pv 0) rfl) (pv 3) (λ_ _=>rfl)) (aa (pv 4) ao aj)))))
   (au (jt hr.u1 (bJ (pv 0) rfl) (pv 1) (aU dI (pv 2) aq (λ_ _=>rfl)) rfl)
   (aA (Oo hr.u1 (bJ (pv 0) rfl) (pv 1) aq Nz (λ_ _ _=>rfl)))))),?_⟩
  have hl:sizeLine=16777216:=sizeLine_eq;have l24:=F.l24;have p16:=F.p16;obtain⟨dx,fs,h1,h2⟩:=id W.at'.ex;have hG:=W.gone;have hn:=W.nod;unfold yx.cells at hn na ng;simp only [nodup_cons,mem_cons,mem_append,not_or] at hn na ng;obtain⟨⟨nEG,nEK,nED,nER,nEE,nE2⟩,⟨nGK,nGD,nGR,nGE,nG2⟩,⟨nKD,nKR,nKE,nK2⟩,⟨nDR,nDE,nD2⟩,⟨nRE,nR2⟩,nA⟩:=hn;obtain⟨nE1,nR1,nER1⟩:=nodup_append.mp nA;refine⟨_,Z,U,_,0,_,Z,Z,fZ.of hU,aJ (j:=0) Z,La,Z,⟨_,bT.of hLa⟩,fK (K:=K) (a:=La) (xs:=dd.tk.map V.str) (λj σ H'=>H'=upd H A.G (.dK (cZ (λx=>if x∈dd.tk.take j then S.g x+1 else S.g x) ls))/\∃v3,σ=[some (.ref A.f),some (.str p.name),some (.ref U),v3,none]) ⟨?_,none,Z⟩ ?_ ?_ ?_⟩
  ·have:cZ (λx=>if x∈dd.tk.take 0 then S.g x+1 else S.g x) ls=cZ S.g ls:=by simp
   rw [this,Lr hG]
  ·rintro j σ H' _ ⟨rfl,_⟩;exact bT.of (mJ hG hLa (by intro _ z;cases z))
  ·rintro j x σ H' hx ⟨rfl,v3,rfl⟩;rw [getElem?_map] at hx;obtain⟨y,hy,rfl⟩:=map_eq_some_iff.mp hx;have hym:=hin y (mem_of_getElem? hy);have nin:y∉dd.tk.take j:=by have:=qy (f:=id) (xs:=dd.tk) (by rw [List.map_id];exact ntk) hy;rwa [List.map_id] at this
   have vg:b8 (cZ (λx=>if x∈dd.tk.take j then S.g x+1 else S.g x) ls) (Sum.inr y)=some (.int ((S.g y:Nat):Int)):=by obtain⟨l,hl',rfl⟩:=mem_map.mp hym;rw [yG F.whole.nod hl',if_neg nin]
   refine⟨_,rfl,A.f,_,dx,fs,_,rfl,mJ hG h1 (by intro _ z;cases z),T.aW.c,T.aW.na.2.2.1,h2.has ("gone",.ref A.G) (by simp),_,rfl,A.G,.int ((S.g y:Nat):Int),rfl,(by rw [<-vg];exact fP.k (k:=Sum.inr y) az),_,_,rfl,rfl,_,qW.k (k:=Sum.inr y) az (by unfold cZ;rw [lM];lia),?_,_,rfl⟩;rw [xJ];show upd H A.G (.dK (putK _ (Sum.inr y) (.int ((S.g y+1:Nat):Int))))=_;rw [O9 _ hym (S.g y+1)];have:(λz=>if z=y then S.g y+1 else if z∈dd.tk.take j then S.g z+1 else S.g z)=λz=>if z∈dd.tk.take (j+1) then S.g z+1 else S.g z:=by
    funext z
    simp only [take_succ,hy,toList_some,mem_append,mem_singleton];by_cases h3:z=y <;> by_cases h4:z∈dd.tk.take j <;> simp [h3,h4]
   rw [this]
  rintro σ H' ⟨rfl,v3,rfl⟩;rw [lM,take_length];have m1:JD [A.G] H (upd H A.G (.dK (cZ (jH S p.name dd).g ls))):=λb hb=>aH (by simpa using hb);have gG:upd H A.G (.dK (cZ (jH S p.name dd).g ls)) A.G=some (.dK (cZ (jH S p.name dd).g ls)):=az;change sW _ _ _ _ (upd H A.G (.dK (cZ (jH S p.name dd).g ls)));generalize upd H A.G (.dK (cZ (jH S p.name dd).g ls))=H1 at m1 gG ⊢;have g1:∀{b:Addr} {u:HO},H b=some u->(∀ks,u≠.dK ks)->H1 b=some u:=λ{b u} h hu=>by rw [m1 b (by rw [mem_singleton];rintro rfl;rw [hG] at h;exact hu _ (Option.some.inj h).symm)];exact h
  have hlr:rs.length=dd.gv.length:=by have:=Paired.length hT;rw [lM] at this;exact this
  have eE1:H1 A.E=some (.dK (TQ A.ea ls)):=by rw [m1 A.E (by simpa using nEG)];exact W.ever
  have lists1:∀l∈ls,H1 (A.ea l.name)=some (.lst ((S.ev l.name).map V.int)):=λl hl=>g1 (W.lists l hl) (by intro _ z;cases z);have nM:∀{b:Addr} {u:HO},H1 b=some u->(∀ks,u≠.lst ks)->b∉ls.map (λl=>A.ea l.name):=λ{b u} h hu hm=>by obtain⟨l,hl,rfl⟩:=mem_map.mp hm;rw [lists1 l hl] at h;exact hu _ (Option.some.inj h).symm
  refine⟨_,rfl,U,_,1,_,rfl,rfl,fZ.of (g1 hU (by intro _ z;cases z)),aJ (j:=1) rfl,Lg,rfl,⟨_,bT.of (g1 hLg (by intro _ z;cases z))⟩,fK (K:=K) (a:=Lg) (xs:=rs.map V.ref) (λj σ H'=>(JD (ls.map (λl=>A.ea l.name)) H1 H'/\∀l∈ls,H' (A.ea l.name)=some (.lst ((S.ev l.name ++ ((dd.gv.take j).filter λq=>decide (q.1=l.name)).map (·.2)).map V.int)))/\∃v3 v4,σ=[some (.ref A.f),some (.str p.name),some (.ref U),v3,v4]) ⟨⟨λ_ _=>rfl,λl hl=>?_⟩,v3,none,rfl⟩ ?_ ?_ ?_⟩
  ·rw [lists1 l hl];simp
  ·rintro j σ H' _ ⟨⟨m2,_⟩,_⟩;exact bT.of (by rw [m2 Lg ng.2.2.2.2.2.1];exact g1 hLg (by intro _ z;cases z))
  ·rintro j x σ H' hx ⟨⟨m2,l2⟩,v3,v4,rfl⟩;rw [getElem?_map] at hx;obtain⟨r,hr',rfl⟩:=map_eq_some_iff.mp hx;obtain⟨vs2,z1,z2⟩:=Dz hT hr';rw [getElem?_map] at z1;obtain⟨w,ew,rfl⟩:=map_eq_some_iff.mp z1;have hj:=(List.getElem?_eq_some_iff.mp ew).1;have er:=g1 z2 (by intro _ z;cases z);have er':H' r=some (.tup [.str w.1,.int w.2]):=by rw [m2 r (nM er (by intro _ z;cases z))];exact er
   have fe:H' A.f=some (.ins t.bW dx fs):=by have e1:=g1 h1 (by intro _ z;cases z);rw [m2 A.f (nM e1 (by intro _ z;cases z))];exact e1
   have ee:H' A.E=some (.dK (TQ A.ea ls)):=by rw [m2 A.E nEE];exact eE1
   obtain⟨l,hl',hln⟩:=mem_map.mp (hout w (mem_of_getElem? ew));have va:=Ii (ea:=A.ea) F.whole.nod hl';have ea:=l2 _ hl';rw [hln] at va;refine⟨r,_,Z,fZ.of er',Z,_,_,Z,_,_,Z,Z,?_⟩;refine⟨_,rfl,A.f,_,dx,fs,_,rfl,fe,T.aW.c,T.aW.na.2.1,h2.has ("ever",.ref A.E) (by simp),_,rfl,A.E,.ref (A.ea w.1),rfl,(by rw [<-va];exact fP.k (k:=Sum.inr w.1) ee),.inl ⟨rfl,_,bT.of (by rw [<-hln];exact ea)⟩,?_⟩;refine⟨_,rfl,A.ea w.1,_,.int w.2,rfl,rfl,by rw [<-hln];exact ea,?_,⟨λb hb=>?_,λl1 hl1=>?_⟩,some (.str w.1),some (.int w.2),rfl⟩
   ·have h3:=O l hl';have h4:=length_filter_le (λq:Str×Int=>decide (q.1=l.name)) (dd.gv.take j);rw [length_take] at h4;rw [lM,lP,lM]
    lia
   ·rw [aH (λz=>hb (by rw [z,<-hln];exact mem_map.mpr ⟨l,hl',rfl⟩))];exact m2 b hb
   ·rw [take_succ,ew,toList_some,List.filter_append,map_append];by_cases h:w.1=l1.name
    ·have e:l1=l:=by have a1:=find_name F.whole.nod hl1;have a2:=find_name F.whole.nod hl';rw [<-h,<-hln,a2] at a1;exact(Option.some.inj a1).symm
     subst e;rw [<-hln,az];simp [h]
    ·have hne:A.ea l1.name≠A.ea w.1:=λz=>by rw [<-hln] at z;have:=wz nE1 hl1 hl' z;exact h (by rw [this,hln])
     rw [aH hne,l2 l1 hl1];simp [h]
  rintro σ H2 ⟨⟨m2,l2⟩,v5,v6,rfl⟩;rw [lM,hlr,take_length] at l2;have fe:H2 A.f=some (.ins t.bW dx fs):=by have e1:=g1 h1 (by intro _ z;cases z);rw [m2 A.f (nM e1 (by intro _ z;cases z))];exact e1
  have uE:H2 U=some (.tup [.ref La,.ref Lg,.int dd.kv]):=by have e1:=g1 hU (by intro _ z;cases z);rw [m2 U (nM e1 (by intro _ z;cases z))];exact e1
  have kE:H2 A.Kp=some (.dK (bZ S.k ps)):=by rw [m2 A.Kp nKE,m1 A.Kp (by simpa using Ne.symm nGK)];exact W.kept
  have dE:H2 A.D=some (.dK (bZ (λx=>(S.d x:Int)) ps)):=by rw [m2 A.D nDE,m1 A.D (by simpa using Ne.symm nGD)];exact W.done
  have lk:∀k1:Str->Int,(bZ k1 ps).length <sizeLine:=λk1=>by unfold bZ;rw [lM];lia
  have hpn:p.name∈ps.map (·.name):=mem_map.mpr ⟨p,hp,rfl⟩;refine⟨_,Z,U,_,2,_,Z,Z,fZ.of uE,aJ (j:=2) Z,_,Z,A.f,_,dx,fs,_,Z,fe,T.aW.c,T.aW.na.2.2.2.1,h2.has ("kept",.ref A.Kp) (by simp),_,Z,A.Kp,_,Z,qW.k (k:=Sum.inr p.name) kE (lk _),?_⟩;rw [Ey S.k hpn];have m3:JD [A.Kp] H2 (upd H2 A.Kp (.dK (bZ (λy=>if y=p.name then dd.kv else S.k y) ps))):=λb hb=>aH (by simpa using hb);have kE3:upd H2 A.Kp (.dK (bZ (λy=>if y=p.name then dd.kv else S.k y) ps)) A.Kp=some (.dK (bZ (λy=>if y=p.name then dd.kv else S.k y) ps)):=az;generalize upd H2 A.Kp (.dK (bZ (λy=>if y=p.name then dd.kv else S.k y) ps))=H3 at m3 kE3 ⊢;have fe3:H3 A.f=some (.ins t.bW dx fs):=by rw [m3 A.f (by simpa using vO fe kE (by intro z;cases z))];exact fe
  have dE3:H3 A.D=some (.dK (bZ (λx=>(S.d x:Int)) ps)):=by rw [m3 A.D (by simpa using Ne.symm nKD)];exact dE
  have vd:=uU (k:=λx=>(S.d x:Int)) F.pnd hp;refine⟨_,rfl,A.f,_,dx,fs,_,rfl,fe3,T.aW.c,T.aW.na.2.2.2.2.1,h2.has ("done",.ref A.D) (by simp),_,rfl,A.D,.int (S.d p.name:Int),rfl,(by rw [<-vd];exact fP.k (k:=Sum.inr p.name) dE3),_,_,rfl,rfl,_,qW.k (k:=Sum.inr p.name) dE3 (lk _),?_⟩;rw [Ey (λx=>(S.d x:Int)) hpn];have eD:(λy=>if y=p.name then(S.d p.name:Int)+1 else(S.d y:Int))=λx=>(((jH S p.name dd).d x:Nat):Int):=by
   funext y
   unfold jH;by_cases h:y=p.name
   ·subst h;simp
   ·simp [h]
  change Q .non (upd H3 A.D (.dK (bZ (λy=>if y=p.name then(S.d p.name:Int)+1 else(S.d y:Int)) ps)));rw [eD];have m4:JD [A.D] H3 (upd H3 A.D (.dK (bZ (λx=>(((jH S p.name dd).d x:Nat):Int)) ps))):=λb hb=>aH (by simpa using hb);have dE4:upd H3 A.D (.dK (bZ (λx=>(((jH S p.name dd).d x:Nat):Int)) ps)) A.D=some (.dK (bZ (λx=>(((jH S p.name dd).d x:Nat):Int)) ps)):=az;generalize upd H3 A.D (.dK (bZ (λx=>(((jH S p.name dd).d x:Nat):Int)) ps))=H4 at m4 dE4 ⊢;have mv:∀b,b≠A.D->b≠A.Kp->H4 b=H2 b:=λb a1 a2=>by rw [m4 b (by simpa using a1),m3 b (by simpa using a2)]
  have fe4:H4 A.f=some (.ins t.bW dx fs):=by rw [m4 A.f (by simpa using vO fe3 dE3 (by intro z;cases z))];exact fe3
  refine k H4 (λb hb=>?_) ⟨⟨dx,fs,fe4,h2⟩,?_,?_,?_,?_,dE4,?_,?_,W.nod⟩
  ·unfold yx.cells at hb;simp only [mem_cons,mem_append,not_or] at hb;rw [mv b hb.2.2.2.1 hb.2.2.1,m2 b hb.2.2.2.2.2.1,m1 b (by simpa using hb.2.1)]
  ·rw [mv A.E nED nEK,m2 A.E nEE,eE1]
  ·intro l hl;have a2:=l2 l hl;rw [mv _ (vO a2 dE (by intro z;cases z)) (vO a2 kE (by intro z;cases z))];exact a2
  ·rw [mv A.G nGD nGK,m2 A.G nGE,gG]
  ·rw [m4 A.Kp (by simpa using nKD)];exact kE3
  ·rw [mv A.Rw (Ne.symm nDR) (Ne.symm nKR),m2 A.Rw nRE,m1 A.Rw (by simpa using Ne.symm nGR)];exact W.rows
  ·intro p' hp' h0;have hm:A.ra p'.name∈(pR ps).map (λp=>A.ra p.name):=mem_map.mpr ⟨p',mem_filter.mpr ⟨hp',by simp [h0]⟩,rfl⟩;rw [mv _ (λz=>nD2 (by rw [<-z];exact hm)) (λz=>nK2 (by rw [<-z];exact hm)),m2 _ (λz=>nER1 _ z _ hm rfl),m1 _ (by simpa using λz=>nG2 (by rw [<-z];exact hm))];exact W.rlst p' hp' h0
theorem Su (T:Txt w K mg t) (i:Nat):MethAt P w K mg base Eh 1 (cls t i) "start" (tY K t i):=match i with
 | 0=>⟨_,_,_,T.iB.c,(T.bI.me T.iB.me.2.2.2.2.2.1),T.bI.b,(dF T).imp λ_ _ _ _ h=>⟨_,by lia,h⟩⟩
 | 1=>⟨_,_,_,T.ir.c,(T.bI.me T.ir.me.2.2.2.2.2.1),T.bI.b,(dF T).imp λ_ _ _ _ h=>⟨_,by lia,h⟩⟩
 | 2=>⟨_,_,_,T.iu.c,(T.bI.me T.iu.me.2.2.2.2.2.1),T.bI.b,(dF T).imp λ_ _ _ _ h=>⟨_,by lia,h⟩⟩
 | 3=>⟨_,_,_,T.iC.c,(T.bI.me T.iC.me.2.2.2.2.2.1),T.bI.b,(dF T).imp λ_ _ _ _ h=>⟨_,by lia,h⟩⟩
 | 4=>⟨_,_,_,T.iQ.c,(T.bI.me T.iQ.me.2.2.2.2.2.1),T.bI.b,(dF T).imp λ_ _ _ _ h=>⟨_,by lia,h⟩⟩
 | 5=>⟨_,_,_,T.iw.c,(T.my.me T.iw.me.2.2.2.2.2.1),T.my.b,Ei T⟩
 | 6=>⟨_,_,_,T.lB.c,(T.bI.me T.lB.me.2.2.2.2.2.1),T.bI.b,(dF T).imp λ_ _ _ _ h=>⟨_,by lia,h⟩⟩
 | 7=>⟨_,_,_,T.iK.c,(T.bI.me T.iK.me.2.2.2.2.2.1),T.bI.b,(dF T).imp λ_ _ _ _ h=>⟨_,by lia,h⟩⟩
 | 8=>⟨_,_,_,T.fH.c,(T.bI.me T.fH.me.2.2.2.2.2.1),T.bI.b,(dF T).imp λ_ _ _ _ h=>⟨_,by lia,h⟩⟩
 | 9=>⟨_,_,_,T.dZ.c,(T.bI.me T.dZ.me.2.2.2.2.2.1),T.bI.b,(dF T).imp λ_ _ _ _ h=>⟨_,by lia,h⟩⟩
 | n+10=>⟨_,_,_,T.fG.c,(T.bI.me T.fG.me.2.2.2.2.2.1),T.bI.b,(dF T).imp λ_ _ _ _ h=>⟨_,by lia,h⟩⟩
theorem U6:∀i,i <11->eU i= "give" ->i=0:=by decide +kernel
theorem Oz (p:PD) (h:pH p):GZ p.kind (p.nums.map V.int)=.int (HJ p):=by
 unfold GZ HJ;by_cases h5:p.kind=5
 ·rw [if_pos h5,if_pos h5];have hl:p.nums.length=1:=by rw [h.2.1,h5];rfl
  match p.nums,hl with
  | [m],_=>rfl
 ·rw [if_neg h5,if_neg h5]
noncomputable def Nq (ls:List aK) (x:Str):List Int:=((ls.find? λl=>decide (l.name=x)).map (·.first)).getD []
theorem Dd {ls:List aK} (nd:(ls.map (·.name)).Nodup) {l:aK} (hl:l∈ls):Nq ls l.name=l.first:=by unfold Nq;rw [find_name nd hl];rfl
noncomputable def vI (RW:List (Str×Addr×List Int)):List (Option Key×V):=RW.map λq=>((some (Sum.inr q.1):Option Key),V.ref q.2.1)
noncomputable def uY (RW:List (Str×Addr×List Int)) (x:Str):List Int:=((RW.find? λq=>decide (q.1=x)).map (·.2.2)).getD []
structure lO (P:Program) (w:World) (H:Hp) (rw:Addr) (RW:List (Str×Addr×List Int)):Prop where
 dict:yN P w H rw (vI RW)
 lists:∀q∈RW,H q.2.1=some (.lst (q.2.2.map V.int))
 nd:(RW.map (·.1)).Nodup
 len:∀q∈RW,q.2.2.length<=300
theorem lO.same {H H':Hp} {rw:Addr} {RW:List (Str×Addr×List Int)} (h:lO P w H rw RW) (s:aO H H'):lO P w H' rw RW:=⟨h.dict.same s,λq hq=>s _ _ (h.lists q hq),h.nd,h.len⟩
theorem Bh {l:List Str} (h:l.Nodup):(l.map (λx=>(some (Sum.inr x):Option Key))).Nodup:=by have:=gQ h;rw [show(l.map (λx=>(some (Sum.inr x):Option Key)))=(l.map (λx=>(Sum.inr x:Key))).map some by rw [map_map];rfl];exact List.Pairwise.map some (λa b hab z=>hab (Option.some.inj z)) this
theorem vY (RW:List (Str×Addr×List Int)):(vI RW).map (·.1)=(RW.map (·.1)).map (λx=>(some (Sum.inr x):Option Key)):=by unfold vI;rw [map_map,map_map];rfl
theorem lO.get {H:Hp} {rw:Addr} {RW:List (Str×Addr×List Int)} (h:lO P w H rw RW) (x:Str):(b8 (vI RW) (some (Sum.inr x))=none/\uY RW x=[])∨∃a,b8 (vI RW) (some (Sum.inr x))=some (.ref a)/\H a=some (.lst ((uY RW x).map V.int))/\(uY RW x).length<=300:=by
 by_cases hx:x∈RW.map (·.1)
 ·obtain⟨q,hq,rfl⟩:=mem_map.mp hx;have e:uY RW q.1=q.2.2:=by unfold uY;rw [find_name (f:=λq:Str×Addr×List Int=>q.1) h.nd hq];rfl
  refine .inr ⟨q.2.1,gB (by rw [vY];exact Bh h.nd) (mem_map.mpr ⟨q,hq,rfl⟩),?_,?_⟩
  ·rw [e];exact h.lists q hq
  ·rw [e];exact h.len q hq
 ·refine .inl ⟨ik (by rw [vY];intro z;obtain⟨b,hb,e⟩:=mem_map.mp z;cases e;exact hx hb),?_⟩;unfold uY;rw [find?_eq_none.mpr λq hq=>by simpa using λe=>hx (mem_map.mpr ⟨q,hq,e⟩)];rfl
noncomputable def lK (ls:List aK) (ps:List PD) (RW:List (Str×Addr×List Int)):FS:=⟨Nq ls,λ_=>0,fQ ps,λ_=>0,uY RW⟩
noncomputable def Jo (RW:List (Str×Addr×List Int)) (RL:List (PD×Addr)):List (Addr×HO):=RL.map λq=>(q.2,HO.lst ((uY RW q.1.name).map V.int))
theorem Rj {ps:List PD} (h:∀p∈ps,pH p):(ps.filter λp=>decide (eU p.kind= "give"))=pR ps:=by
 unfold pR;refine List.filter_congr λp hp=>?_;by_cases h0:p.kind=0
 ·rw [h0];rfl
 ·have:¬eU p.kind= "give" :=λz=>h0 (U6 _ (h p hp).1 z);simp [h0,this]
noncomputable def Kf {α:Type} (f:α->Str) (L:List (α×Addr)) (x:Str):Addr:=((L.find? λq=>decide (f q.1=x)).map (·.2)).getD 0
theorem ut {α:Type} {f:α->Str} {L:List (α×Addr)} (nd:(L.map λq=>f q.1).Nodup) {q:α×Addr} (hq:q∈L):Kf f L (f q.1)=q.2:=by unfold Kf;rw [find_name (f:=λq:α×Addr=>f q.1) nd hq];rfl
theorem Fl {α:Type} {f:α->Str} {L:List (α×Addr)} (nd:(L.map λq=>f q.1).Nodup):(L.map (·.1)).map (λa=>Kf f L (f a))=L.map (·.2):=by rw [map_map];exact map_congr_left λq hq=>ut nd hq
inductive oY (K:Fr) (t:mL) (P:Program) (w:World) (vs:List V) (H:Hp) (Q:VK):Prop where
 | mk:∀(H0:Hp) (f dx n rw:Addr) (ls:List aK) (ps:List PD) (RW:List (Str×Addr×List Int)),vs=[.ref f,.ref n,.ref rw]->H f=some (.ins t.bW dx [])->aO H0 H->H0 f=none->nQ K t H0 n ls ps->lO P w H0 rw RW->(∀H' A,A.f=f->A.n=n->lC f H H'->jM K t H' A ls ps (lK ls ps RW)->(∀a∈A.cells ls ps,H a=none)->Q .non H')->oY K t P w vs H Q
@[irreducible] noncomputable def fW (K:Fr) (t:mL) (P:Program) (w:World):Sp:=λvs H Q _=>oY K t P w vs H Q
theorem yK (T:Txt w K mg t):FO P w K mg base 5 t.lV ["self", "net", "rows"] (fW K t P w):=by
 have sc:=T.jo.sc ["self", "net", "rows", "lane", "name", "door"];refine T.jo.F.ok sc (λvs H Q E h=>?_) (λcdv A outer s H vs Q E hr h=>?_)
 ·unfold fW at h;obtain⟨H0,f,dx,n,rw,ls,ps,RW,rfl,_⟩:=h;rfl
 ·unfold fW at h;obtain⟨H0,f,dx,n,rw,ls,ps,RW,rfl,hf,s0,nf0,N,hrw,k⟩:=h;refine⟨_,(au (jz (pv 0) (pv 1) Z)
   (au (jz (pv 0) iH rfl)
   (au (jz (pv 0) iH rfl)
   (au (fj PassesOwn.never rfl (cX (Xi (pv 1) T.bF T.bF.me.2.1 (oW T) T.jd hr)) (gN sc 3)
    (au (jt hr.u1 (bJ (pv 0) rfl) (pv 3) (K6 (pv 1) T.bF T.bF.me.2.2.2.2.2.2.1 (Ao T) T.mV hr (aa (pv 3) ao aj)) rfl)
    (aA (jt hr.u1 (bJ (pv 0) rfl) (pv 3) aq rfl))))
   (au (jz (pv 0) iH rfl)
   (au (jz (pv 0) iH rfl)
   (au (fj PassesOwn.never rfl (cX (Xi (pv 1) T.bF T.bF.me.2.2.1 (jJ T) T.fX hr)) (gN sc 4)
    (au (jt hr.u1 (bJ (pv 0) rfl) (pv 4) (Ff (CX:=Eh) (k:=1) (E:=E0) (K6 (pv 1) T.bF T.bF.me.2.2.2.2.2.2.2.1 (m8 T) T.jm hr (aa (pv 4) ao aj)) (hr.mono (by decide)) gY) rfl)
    (aA (jt hr.u1 (bJ (pv 0) rfl) (pv 4) aq rfl))))
   (au (jz (pv 0) iH rfl)
   (aA (fj PassesOwn.never rfl (cX (Xi (pv 1) T.bF T.bF.me.2.2.2.2.1 (yg T) T.oM hr)) (gN sc 5)
    (aA (jt hr.u1 (bJ (pv 0) rfl) (pv 5) (dM xV (by rfl) T.tX oZ (aa (O3 (pv 2) (pv 5) (bj ao) ⟨rfl,rfl,rfl,rfl⟩) ao bc)) rfl)))))))))))),?_⟩
  obtain⟨dxn,fsn,R,F,Pd,Gn,Tk,FL,PL,W⟩:=id N;have hl:sizeLine=16777216:=sizeLine_eq;have l24:=W.fit.l24;have p16:=W.fit.p16;have sk:∀{Hk:Hp},lC f H Hk->aO H0 Hk:=λb x o e=>b x o (aF e nf0) (s0 x o e);have T0:=Tr.start hf;refine⟨_,Z,_,Z,f,_,dx,[],Z,hf,T.aW.c,T.aW.na.1,by show 0 <1000;decide,?_⟩;have T1:=T0.put (L1:=[]) (L2:=[]) (o':=.ins t.bW dx (aG "net" (.ref n) []));generalize upd H f (.ins t.bW dx (aG "net" (.ref n) []))=H1 at T1 ⊢;refine λE nE=>?_;have T2:=T1.new (o:=.dK []) nE;generalize upd H1 E (.dK [])=H2 at T2 ⊢;refine⟨_,Z,f,_,dx,_,Z,T2.all (f,_) (.head _),T.aW.c,T.aW.na.2.1,lt_of_le_of_lt (jy (zero_le 0)) (by decide),?_⟩;have T3:=T2.put (L1:=[]) (o':=.ins t.bW dx (aG "ever" (.ref E) (aG "net" (.ref n) [])));generalize upd H2 f (.ins t.bW dx (aG "ever" (.ref E) (aG "net" (.ref n) [])))=H3 at T3 ⊢;refine λG nG=>?_;have T4:=T3.new (o:=.dK []) nG;generalize upd H3 G (.dK [])=H4 at T4 ⊢;refine⟨_,Z,f,_,dx,_,Z,T4.all (f,_) (.head _),T.aW.c,T.aW.na.2.2.1,lt_of_le_of_lt (jy (jy (zero_le 0))) (by decide),?_⟩;have T5:=T4.put (L1:=[]) (o':=.ins t.bW dx (aG "gone" (.ref G) (aG "ever" (.ref E) (aG "net" (.ref n) []))));generalize upd H4 f (.ins t.bW dx (aG "gone" (.ref G) (aG "ever" (.ref E) (aG "net" (.ref n) []))))=H5 at T5 ⊢;have W5:=W.same (sk T5.but);refine⟨_,Z,n,dxn,fsn,Z,W5.obj,W5.fl.no _ (by decide +kernel),n,ls,ps,Z,W5.s,λl nl=>?_⟩;have T6:Tr H f ((f,.ins t.bW dx (aG "gone" (.ref G) (aG "ever" (.ref E) (aG "net" (.ref n) [])))):: (E,.dK (bM [])):: (G,.dK (cZ (λ_=>0) [])):: (l,.lst (ls.map λx:aK=>V.str x.name)):: jX []) (upd H5 l (.lst (ls.map λx:aK=>V.str x.name))):=T5.new nl;generalize upd H5 l (.lst (ls.map λx:aK=>V.str x.name))=H6 at T6 ⊢;clear T0 T1 T2 T3 T4 T5 W5;refine⟨l,rfl,⟨_,bT.of (T6.all (l,.lst (ls.map λx:aK=>V.str x.name)) (by simp))⟩,fK (K:=K) (a:=l) (xs:=ls.map λx:aK=>V.str x.name) (λj σ H'=>(∃v3,σ=[some (.ref f),some (.ref n),some (.ref rw),v3,none,none])/\∃EL:List (aK×Addr),EL.map (·.1)=ls.take j/\Tr H f ((f,.ins t.bW dx (aG "gone" (.ref G) (aG "ever" (.ref E) (aG "net" (.ref n) [])))):: (E,.dK (bM EL)):: (G,.dK (cZ (λ_=>0) (ls.take j))):: (l,.lst (ls.map λx:aK=>V.str x.name)):: jX EL) H') ⟨⟨none,rfl⟩,[],rfl,T6⟩ (λj σ H' _ ⟨_,_,_,T'⟩=>bT.of (T'.all (l,.lst (ls.map λx:aK=>V.str x.name)) (by simp))) ?_ ?_⟩
  ·rintro j x σ H' hx ⟨⟨v3,rfl⟩,EL,eEL,T7⟩;rw [getElem?_map] at hx;obtain⟨ln,hlj,rfl⟩:=map_eq_some_iff.mp hx;have hm:=mem_of_getElem? hlj;have hj:=(List.getElem?_eq_some_iff.mp hlj).1;have nin:=qy W.fit.whole.nod hlj;have vE:b8 (bM EL) (Sum.inr ln.name)=none:=ik (by rw [rG,eEL];intro z;obtain⟨b,hb,e⟩:=mem_map.mp z;cases e;exact nin hb);have vG:b8 (cZ (λ_=>0) (ls.take j)) (Sum.inr ln.name)=none:=ik (by rw [CZ];intro z;obtain⟨b,hb,e⟩:=mem_map.mp z;cases e;exact nin hb);have tk:ls.take (j+1)=ls.take j ++ [ln]:=by rw [take_succ,hlj];rfl
   have lEL:EL.length<=24:=by have:=congrArg List.length eEL;rw [lM,length_take] at this;lia
   have W7:=W.same (sk T7.but);refine⟨_,Z,n,dxn,fsn,Z,W7.obj,W7.fl.no _ (by decide +kernel),_,Z,n,ls,ps,ln.name,Z,W7.s,.inl ⟨ln,hm,Z,λH8 le s8 nle ele=>?_⟩⟩;have T8:Tr H f ((f,.ins t.bW dx (aG "gone" (.ref G) (aG "ever" (.ref E) (aG "net" (.ref n) [])))):: (E,.dK (bM EL)):: (G,.dK (cZ (λ_=>0) (ls.take j))):: (l,.lst (ls.map λx:aK=>V.str x.name)):: jX (EL ++ [(ln,le)])) H8:=by unfold jX;rw [map_append];exact T7.got s8 nle ele
   refine⟨_,rfl,f,_,dx,_,_,rfl,T8.all (f,_) (.head _),T.aW.c,T.aW.na.2.1,(by (repeat first | (rw [aD,if_pos rfl];done) | rw [aD,if_neg (by decide +kernel)])),_,rfl,E,_,rfl,qW.k (k:=Sum.inr ln.name) (T8.all (E,.dK (bM EL)) (by simp)) (by unfold bM;rw [lM];lia),?_⟩;have e8:putK (bM EL) (Sum.inr ln.name) (.ref le)=bM (EL ++ [(ln,le)]):=by rw [lA _ vE];unfold bM;rw [map_append];rfl
   rw [e8];have T9:=T8.put (L1:=[_]) (o':=.dK (bM (EL ++ [(ln,le)])));generalize upd H8 E (.dK (bM (EL ++ [(ln,le)])))=H9 at T9 ⊢;refine⟨_,rfl,f,_,dx,_,_,rfl,T9.all (f,_) (.head _),T.aW.c,T.aW.na.2.2.1,(by (repeat first | (rw [aD,if_pos rfl];done) | rw [aD,if_neg (by decide +kernel)])),_,rfl,G,_,rfl,qW.k (k:=Sum.inr ln.name) (T9.all (G,.dK (cZ (λ_=>0) (ls.take j))) (by simp)) (by unfold cZ;rw [lM,length_take];lia),?_⟩;have e9:putK (cZ (λ_=>0) (ls.take j)) (Sum.inr ln.name) (.int 0)=cZ (λ_=>0) (ls.take (j+1)):=by rw [lA _ vG,tk];unfold cZ;rw [map_append];rfl
   rw [e9];have TA:=T9.put (L1:=[_,_]) (o':=.dK (cZ (λ_=>0) (ls.take (j+1))));exact⟨⟨_,rfl⟩,EL ++ [(ln,le)],by rw [map_append,eEL,tk];rfl,TA⟩
  rintro σ H7 ⟨⟨v3,rfl⟩,EL,eEL,T7⟩;rw [lM,take_length] at eEL T7;have T7:Tr H f ((f,.ins t.bW dx (aG "gone" (.ref G) (aG "ever" (.ref E) (aG "net" (.ref n) [])))):: (E,.dK (bM EL)):: (G,.dK (cZ (λ_=>0) ls)):: jX EL) H7:=T7.sub (.cons₂ _ (.cons₂ _ (.cons₂ _ (.cons _ (List.Sublist.refl _))))) ⟨_,.head _⟩;clear T6;refine λKp nKp=>?_;have T8:Tr H f ((f,.ins t.bW dx (aG "gone" (.ref G) (aG "ever" (.ref E) (aG "net" (.ref n) [])))):: (E,.dK (bM EL)):: (G,.dK (cZ (λ_=>0) ls)):: (Kp,.dK []):: jX EL) (upd H7 Kp (.dK [])):=(T7.new nKp).perm (.cons _ (.cons _ (.cons _ (List.perm_append_singleton _ _))));generalize upd H7 Kp (.dK [])=H8 at T8 ⊢;refine⟨_,Z,f,_,dx,_,Z,T8.all (f,_) (.head _),T.aW.c,T.aW.na.2.2.2.1,lt_of_le_of_lt (jy (jy (jy (zero_le 0)))) (by decide),?_⟩;have T9:=T8.put (L1:=[]) (o':=.ins t.bW dx (aG "kept" (.ref Kp) (aG "gone" (.ref G) (aG "ever" (.ref E) (aG "net" (.ref n) [])))));generalize upd H8 f (.ins t.bW dx (aG "kept" (.ref Kp) (aG "gone" (.ref G) (aG "ever" (.ref E) (aG "net" (.ref n) [])))))=H9 at T9 ⊢;refine λD nD=>?_;have TA:Tr H f ((f,.ins t.bW dx (aG "kept" (.ref Kp) (aG "gone" (.ref G) (aG "ever" (.ref E) (aG "net" (.ref n) []))))):: (E,.dK (bM EL)):: (G,.dK (cZ (λ_=>0) ls)):: (Kp,.dK []):: (D,.dK []):: jX EL) (upd H9 D (.dK [])):=(T9.new nD).perm (.cons _ (.cons _ (.cons _ (.cons _ (List.perm_append_singleton _ _)))));generalize upd H9 D (.dK [])=HA at TA ⊢;refine⟨_,Z,f,_,dx,_,Z,TA.all (f,_) (.head _),T.aW.c,T.aW.na.2.2.2.2.1,lt_of_le_of_lt (jy (jy (jy (jy (zero_le 0))))) (by decide),?_⟩;have TB:=TA.put (L1:=[]) (o':=.ins t.bW dx (aG "done" (.ref D) (aG "kept" (.ref Kp) (aG "gone" (.ref G) (aG "ever" (.ref E) (aG "net" (.ref n) []))))));generalize upd HA f (.ins t.bW dx (aG "done" (.ref D) (aG "kept" (.ref Kp) (aG "gone" (.ref G) (aG "ever" (.ref E) (aG "net" (.ref n) []))))))=HB at TB ⊢;have WB:=W.same (sk TB.but);refine⟨_,Z,n,dxn,fsn,Z,WB.obj,WB.fl.no _ (by decide +kernel),n,ls,ps,Z,WB.s,λm nm=>?_⟩;have TC:Tr H f ((f,.ins t.bW dx (aG "done" (.ref D) (aG "kept" (.ref Kp) (aG "gone" (.ref G) (aG "ever" (.ref E) (aG "net" (.ref n) [])))))):: (E,.dK (bM EL)):: (G,.dK (cZ (λ_=>0) ls)):: (Kp,.dK (bZ (fQ ps) [])):: (D,.dK (bZ (λ_=>0) [])):: (m,.lst (ps.map λx:PD=>V.str x.name)):: jX EL) (upd HB m (.lst (ps.map λx:PD=>V.str x.name))):=(TB.new nm).perm (.cons _ (.cons _ (.cons _ (.cons _ (.cons _ (List.perm_append_singleton _ _))))));generalize upd HB m (.lst (ps.map λx:PD=>V.str x.name))=HC at TC ⊢;clear T7 T8 T9 TA TB WB;refine⟨m,rfl,⟨_,bT.of (TC.all (m,.lst (ps.map λx:PD=>V.str x.name)) (by simp))⟩,fK (K:=K) (a:=m) (xs:=ps.map λx:PD=>V.str x.name) (λj σ H'=>(∃v4,σ=[some (.ref f),some (.ref n),some (.ref rw),v3,v4,none])/\Tr H f ((f,.ins t.bW dx (aG "done" (.ref D) (aG "kept" (.ref Kp) (aG "gone" (.ref G) (aG "ever" (.ref E) (aG "net" (.ref n) [])))))):: (E,.dK (bM EL)):: (G,.dK (cZ (λ_=>0) ls)):: (Kp,.dK (bZ (fQ ps) (ps.take j))):: (D,.dK (bZ (λ_=>0) (ps.take j))):: (m,.lst (ps.map λx:PD=>V.str x.name)):: jX EL) H') ⟨⟨none,rfl⟩,TC⟩ (λj σ H' _ ⟨_,T'⟩=>bT.of (T'.all (m,.lst (ps.map λx:PD=>V.str x.name)) (by simp))) ?_ ?_⟩
  ·rintro j x σ H' hx ⟨⟨v4,rfl⟩,T7⟩;rw [getElem?_map] at hx;obtain⟨p,hpj,rfl⟩:=map_eq_some_iff.mp hx;have hm:=mem_of_getElem? hpj;have hj:=(List.getElem?_eq_some_iff.mp hpj).1;have nin:=qy W.fit.pnd hpj;have vK:∀k0:Str->Int,b8 (bZ k0 (ps.take j)) (Sum.inr p.name)=none:=λk0=>ik (by rw [Bp];intro z;obtain⟨b,hb,e⟩:=mem_map.mp z;cases e;exact nin hb);have tk:ps.take (j+1)=ps.take j ++ [p]:=by rw [take_succ,hpj];rfl
   have so:fQ ps p.name=HJ p:=by unfold fQ HJ;rw [find_name W.fit.pnd hm];rfl
   have W7:=W.same (sk T7.but);refine⟨_,Z,n,dxn,fsn,Z,W7.obj,W7.fl.no _ (by decide +kernel),_,Z,n,ls,ps,p.name,Z,W7.s,.inl ⟨p,hm,Z,λH8 q s8 P8=>?_⟩⟩;have T8:=T7.same s8;obtain⟨dxp,tn,ti,to,p1,p2,p3,p4⟩:=id P8.ex;refine⟨q,cls t p.kind,dxp,_,tY K t p.kind,Z,p1,uL _ _ _ _ (by decide +kernel) (by decide +kernel) (by decide +kernel) (by decide +kernel),Su T p.kind,q,_,_,_,_,Z,P8,by rw [lM];exact(W.fit.pok p hm).2.1,?_⟩;rw [Oz p (W.fit.pok p hm),<-so];refine⟨_,rfl,f,_,dx,_,_,rfl,T8.all (f,_) (.head _),T.aW.c,T.aW.na.2.2.2.1,(by (repeat first | (rw [aD,if_pos rfl];done) | rw [aD,if_neg (by decide +kernel)])),_,rfl,Kp,_,rfl,qW.k (k:=Sum.inr p.name) (T8.all (Kp,.dK (bZ (fQ ps) (ps.take j))) (by simp)) (by unfold bZ;rw [lM,length_take];lia),?_⟩;have e8:∀k0:Str->Int,putK (bZ k0 (ps.take j)) (Sum.inr p.name) (.int (k0 p.name))=bZ k0 (ps.take (j+1)):=λk0=>by rw [lA _ (vK k0),tk];unfold bZ;rw [map_append];rfl
   rw [e8];have T9:=T8.put (L1:=[_,_,_]) (o':=.dK (bZ (fQ ps) (ps.take (j+1))));generalize upd H8 Kp (.dK (bZ (fQ ps) (ps.take (j+1))))=H9 at T9 ⊢;refine⟨_,rfl,f,_,dx,_,_,rfl,T9.all (f,_) (.head _),T.aW.c,T.aW.na.2.2.2.2.1,(by (repeat first | (rw [aD,if_pos rfl];done) | rw [aD,if_neg (by decide +kernel)])),_,rfl,D,_,rfl,qW.k (k:=Sum.inr p.name) (T9.all (D,.dK (bZ (λ_=>0) (ps.take j))) (by simp)) (by unfold bZ;rw [lM,length_take];lia),?_⟩;rw [e8 λ_=>0];exact⟨⟨_,Z⟩,T9.put (L1:=[_,_,_,_])⟩
  rintro σ HD ⟨⟨v4,rfl⟩,TD⟩;rw [lM,take_length] at TD;have TD:Tr H f ((f,.ins t.bW dx (aG "done" (.ref D) (aG "kept" (.ref Kp) (aG "gone" (.ref G) (aG "ever" (.ref E) (aG "net" (.ref n) [])))))):: (E,.dK (bM EL)):: (G,.dK (cZ (λ_=>0) ls)):: (Kp,.dK (bZ (fQ ps) ps)):: (D,.dK (bZ (λ_=>0) ps)):: jX EL) HD:=TD.sub (.cons₂ _ (.cons₂ _ (.cons₂ _ (.cons₂ _ (.cons₂ _ (.cons _ (List.Sublist.refl _))))))) ⟨_,.head _⟩;clear TC;refine λRw nRw=>?_;have TE:Tr H f ((f,.ins t.bW dx (aG "done" (.ref D) (aG "kept" (.ref Kp) (aG "gone" (.ref G) (aG "ever" (.ref E) (aG "net" (.ref n) [])))))):: (E,.dK (bM EL)):: (G,.dK (cZ (λ_=>0) ls)):: (Kp,.dK (bZ (fQ ps) ps)):: (D,.dK (bZ (λ_=>0) ps)):: (Rw,.dK []):: jX EL) (upd HD Rw (.dK [])):=(TD.new nRw).perm (.cons _ (.cons _ (.cons _ (.cons _ (.cons _ (List.perm_append_singleton _ _))))));generalize upd HD Rw (.dK [])=HE at TE ⊢;refine⟨_,Z,f,_,dx,_,Z,TE.all (f,_) (.head _),T.aW.c,T.aW.na.2.2.2.2.2.1,lt_of_le_of_lt (jy (jy (jy (jy (jy (zero_le 0)))))) (by decide),?_⟩;have TF:=TE.put (L1:=[]) (o':=.ins t.bW dx (aG "rows" (.ref Rw) (aG "done" (.ref D) (aG "kept" (.ref Kp) (aG "gone" (.ref G) (aG "ever" (.ref E) (aG "net" (.ref n) [])))))));generalize upd HE f (.ins t.bW dx (aG "rows" (.ref Rw) (aG "done" (.ref D) (aG "kept" (.ref Kp) (aG "gone" (.ref G) (aG "ever" (.ref E) (aG "net" (.ref n) [])))))))=HF at TF ⊢;have WF:=W.same (sk TF.but);refine⟨_,Z,n,dxn,fsn,Z,WF.obj,WF.fl.no _ (by decide +kernel),n,ls,ps,Z,WF.s,λd nd=>?_⟩;have TG:Tr H f ((f,.ins t.bW dx (aG "rows" (.ref Rw) (aG "done" (.ref D) (aG "kept" (.ref Kp) (aG "gone" (.ref G) (aG "ever" (.ref E) (aG "net" (.ref n) []))))))):: (E,.dK (bM EL)):: (G,.dK (cZ (λ_=>0) ls)):: (Kp,.dK (bZ (fQ ps) ps)):: (D,.dK (bZ (λ_=>0) ps)):: (Rw,.dK []):: (d,.lst (eN ps "give")):: jX EL) (upd HF d (.lst (eN ps "give"))):=(TF.new nd).perm (.cons _ (.cons _ (.cons _ (.cons _ (.cons _ (.cons _ (List.perm_append_singleton _ _)))))));generalize upd HF d (.lst (eN ps "give"))=HG at TG ⊢;clear TD TE TF WF;have lgv:=JT ps "give";have ndg:((ps.filter λp=>decide (eU p.kind= "give")).map (·.name)).Nodup:=W.fit.pnd.sublist ((filter_sublist).map _);rw [Rj W.fit.pok] at ndg;have ePg:eN ps "give" =(pR ps).map λp=>V.str p.name:=by unfold eN;rw [Rj W.fit.pok]
  rw [ePg] at TG;have lgP:(pR ps).length<=16:=by have:=length_filter_le (λp:PD=>decide (p.kind=0)) ps;unfold pR;lia
  have TG:Tr H f ((f,.ins t.bW dx (aG "rows" (.ref Rw) (aG "done" (.ref D) (aG "kept" (.ref Kp) (aG "gone" (.ref G) (aG "ever" (.ref E) (aG "net" (.ref n) []))))))):: (E,.dK (bM EL)):: (G,.dK (cZ (λ_=>0) ls)):: (Kp,.dK (bZ (fQ ps) ps)):: (D,.dK (bZ (λ_=>0) ps)):: (Rw,.dK []):: (d,.lst ((pR ps).map λp=>V.str p.name)):: (jX EL ++ Jo RW [])) HG:=by unfold Jo;rw [map_nil,append_nil];exact TG
  refine⟨d,rfl,⟨_,bT.of (TG.all (d,.lst ((pR ps).map λp=>V.str p.name)) (by simp))⟩,fK (K:=K) (a:=d) (xs:=(pR ps).map λp=>V.str p.name) (λj σ H'=>(∃v5,σ=[some (.ref f),some (.ref n),some (.ref rw),v3,v4,v5])/\∃RL:List (PD×Addr),RL.map (·.1)=(pR ps).take j/\Tr H f ((f,.ins t.bW dx (aG "rows" (.ref Rw) (aG "done" (.ref D) (aG "kept" (.ref Kp) (aG "gone" (.ref G) (aG "ever" (.ref E) (aG "net" (.ref n) []))))))):: (E,.dK (bM EL)):: (G,.dK (cZ (λ_=>0) ls)):: (Kp,.dK (bZ (fQ ps) ps)):: (D,.dK (bZ (λ_=>0) ps)):: (Rw,.dK (RL.map λq=>((Sum.inr q.1.name:Key),V.ref q.2))):: (d,.lst ((pR ps).map λp=>V.str p.name)):: (jX EL ++ Jo RW RL)) H') ⟨⟨none,rfl⟩,[],rfl,TG⟩ (λj σ H' _ ⟨_,_,_,T7⟩=>bT.of (T7.all (d,.lst ((pR ps).map λp=>V.str p.name)) (by simp))) ?_ ?_⟩
  ·rintro j x σ H' hx ⟨⟨v5,rfl⟩,RL,eRL,T7⟩;rw [getElem?_map] at hx;obtain⟨p,hpj,rfl⟩:=map_eq_some_iff.mp hx;have nin:=qy ndg hpj;have tk:(pR ps).take (j+1)=(pR ps).take j ++ [p]:=by rw [take_succ,hpj];rfl
   have vR:b8 (RL.map λq=>((Sum.inr q.1.name:Key),V.ref q.2)) (Sum.inr p.name)=none:=ik (by rw [map_map];intro z;obtain⟨q,hq,e⟩:=mem_map.mp z;have hm:q.1∈RL.map (·.1):=mem_map.mpr ⟨q,hq,rfl⟩;rw [eRL] at hm;exact nin (mem_map.mpr ⟨q.1,hm,by injection e⟩))
   have lRL:RL.length<=16:=by
    have:=congrArg List.length eRL;rw [lM,length_take] at this
    lia
   have rw7:=hrw.same (sk T7.but);refine⟨_,rfl,rw,_,rfl,rw7.dict,_,rfl,by show 0<=sizeLine;lia,λu nu=>?_⟩;have tu:=aB (o:=.lst []) nu;have xu:upd H' u (.lst []) u=some (.lst []):=az;generalize upd H' u (.lst [])=H8 at tu xu ⊢;have rw8:=rw7.same tu;refine⟨rw8.dict,some (Sum.inr p.name),Z,?_⟩;obtain⟨y,ey,hy⟩:∃y:Addr,(b8 (vI RW) (some (Sum.inr p.name))).getD (V.ref u)=.ref y/\H8 y=some (.lst ((uY RW p.name).map V.int)):=by
    rcases rw8.get p.name with ⟨e1,e2⟩ | ⟨a,e1,e2,_⟩
    ·rw [e1,e2];exact⟨u,Z,xu⟩
    ·rw [e1];exact⟨a,Z,e2⟩
   refine⟨y,(uY RW p.name).map V.int,by rw [ey],.inl (bT.of hy),λr nr=>?_⟩;have T9:Tr H f ((f,.ins t.bW dx (aG "rows" (.ref Rw) (aG "done" (.ref D) (aG "kept" (.ref Kp) (aG "gone" (.ref G) (aG "ever" (.ref E) (aG "net" (.ref n) []))))))):: (E,.dK (bM EL)):: (G,.dK (cZ (λ_=>0) ls)):: (Kp,.dK (bZ (fQ ps) ps)):: (D,.dK (bZ (λ_=>0) ps)):: (Rw,.dK (RL.map λq=>((Sum.inr q.1.name:Key),V.ref q.2))):: (d,.lst ((pR ps).map λp=>V.str p.name)):: (jX EL ++ Jo RW (RL ++ [(p,r)]))) (upd H8 r (.lst ((uY RW p.name).map V.int))):=by unfold Jo;rw [map_append,<-append_assoc];exact(T7.same tu).new nr
   generalize upd H8 r (.lst ((uY RW p.name).map V.int))=H9 at T9 ⊢;refine⟨_,rfl,f,_,dx,_,_,rfl,T9.all (f,_) (.head _),T.aW.c,T.aW.na.2.2.2.2.2.1,(by (repeat first | (rw [aD,if_pos rfl];done) | rw [aD,if_neg (by decide +kernel)])),_,rfl,Rw,_,rfl,qW.k (k:=Sum.inr p.name) (T9.all (Rw,.dK (RL.map λq=>((Sum.inr q.1.name:Key),V.ref q.2))) (by simp)) (by rw [lM];lia),?_⟩;rw [lA _ vR];refine⟨⟨_,rfl⟩,RL ++ [(p,r)],by rw [map_append,eRL,tk];rfl,?_⟩;rw [map_append];exact T9.put (L1:=[_,_,_,_,_])
  rintro σ HH ⟨⟨v5,rfl⟩,RL,eRL,TH⟩;rw [lM,take_length] at eRL;have eo:=TH.all (f,.ins t.bW dx (aG "rows" (.ref Rw) (aG "done" (.ref D) (aG "kept" (.ref Kp) (aG "gone" (.ref G) (aG "ever" (.ref E) (aG "net" (.ref n) []))))))) (.head _);have nod:=TH.nod;have fre:=TH.fre;have nE:(EL.map λq=>q.1.name).Nodup:=by
   have:(EL.map (·.1)).map (·.name)=EL.map λq=>q.1.name:=by rw [map_map];rfl
   rw [<-this,eEL];exact W.fit.whole.nod
  have nR:(RL.map λq=>q.1.name).Nodup:=by
   have:(RL.map (·.1)).map (·.name)=RL.map λq=>q.1.name:=by rw [map_map];rfl
   rw [<-this,eRL];exact ndg
  let A:yx:=⟨f,n,E,G,Kp,D,Rw,Kf (·.name) EL,Kf (·.name) RL⟩
  have mE:ls.map (λl=>A.ea l.name)=EL.map (·.2):=by rw [<-eEL];exact Fl nE
  have mR:(pR ps).map (λp=>A.ra p.name)=RL.map (·.2):=by rw [<-eRL];exact Fl nR
  have eC:A.cells ls ps=E:: G:: Kp:: D:: Rw:: (EL.map (·.2) ++ RL.map (·.2)):=by unfold yx.cells;rw [mE,mR]
  have e2:(jX EL ++ Jo RW RL).map Prod.fst=EL.map (·.2) ++ RL.map (·.2):=by unfold jX Jo;rw [map_append,map_map,map_map];rfl
  refine k HH A Z Z TH.but ⟨⟨dx,_,eo,⟨?_,?_⟩⟩,?_,λl hl=>?_,TH.all (G,.dK (cZ (λ_=>0) ls)) (by simp),TH.all (Kp,.dK (bZ (fQ ps) ps)) (by simp),TH.all (D,.dK (bZ (λ_=>0) ps)) (by simp),?_,λp hp h0=>?_,?_⟩ ?_
  ·intro q hq;simp only [mem_cons,not_mem_nil,or_false] at hq;rcases hq with rfl | rfl | rfl | rfl | rfl | rfl <;> (dsimp only;(repeat first | (rw [aD,if_pos rfl];done) | rw [aD,if_neg (by decide +kernel)]))
  ·intro m hm;have hne:∀m∈(["holds", "held_now", "gone_by", "row_left", "head", "heads", "lacking", "row_ended", "deed", "do"]:List Str),∀g∈(["rows", "done", "kept", "gone", "ever", "net"]:List Str),¬m=g:=by decide +kernel
   have h:=hne m hm;rw [aD,if_neg (h _ (by simp)),aD,if_neg (h _ (by simp)),aD,if_neg (h _ (by simp)),aD,if_neg (h _ (by simp)),aD,if_neg (h _ (by simp)),aD,if_neg (h _ (by simp))];rfl
  ·have:TQ A.ea ls=bM EL:=by unfold TQ bM;rw [<-eEL,map_map];refine map_congr_left λq hq=>?_;show((Sum.inr q.1.name:Key),V.ref (A.ea q.1.name))=_;rw [show A.ea q.1.name=q.2 from ut nE hq]
   rw [this];exact TH.all (E,.dK (bM EL)) (by simp)
  ·rw [<-eEL] at hl;obtain⟨q,hq,rfl⟩:=mem_map.mp hl;rw [show A.ea q.1.name=q.2 from ut nE hq];have hm:q.1∈ls:=by rw [<-eEL];exact mem_map.mpr ⟨q,hq,rfl⟩
   show HH q.2=some (.lst ((Nq ls q.1.name).map V.int));rw [Dd W.fit.whole.nod hm];exact TH.all (q.2,.lst (q.1.first.map V.int)) (Gi (mem_append.mpr (.inl (mem_map.mpr ⟨q,hq,Z⟩))))
  ·have:KD A.ra ps=RL.map λq=>((Sum.inr q.1.name:Key),V.ref q.2):=by unfold KD;rw [<-eRL,map_map];refine map_congr_left λq hq=>?_;show((Sum.inr q.1.name:Key),V.ref (A.ra q.1.name))=_;rw [show A.ra q.1.name=q.2 from ut nR hq]
   rw [this];exact TH.all (Rw,.dK (RL.map λq=>((Sum.inr q.1.name:Key),V.ref q.2))) (by simp)
  ·have hm:p∈RL.map (·.1):=by rw [eRL];exact mem_filter.mpr ⟨hp,by simp [h0]⟩
   obtain⟨q,hq,rfl⟩:=mem_map.mp hm;rw [show A.ra q.1.name=q.2 from ut nR hq];exact TH.all (q.2,.lst ((uY RW q.1.name).map V.int)) (Gi (mem_append.mpr (.inr (mem_map.mpr ⟨q,hq,Z⟩))))
  ·rw [eC,<-e2];exact nod.sublist (List.Sublist.cons _ (.cons₂ _ (.cons₂ _ (.cons₂ _ (.cons₂ _ (.cons₂ _ (.cons _ (List.Sublist.refl _))))))))
  ·intro a ha;rw [eC,<-e2] at ha;have h2:a∈(((E,.dK (bM EL)):: (G,.dK (cZ (λ_=>0) ls)):: (Kp,.dK (bZ (fQ ps) ps)):: (D,.dK (bZ (λ_=>0) ps)):: (Rw,.dK (RL.map λq=>((Sum.inr q.1.name:Key),V.ref q.2))):: (d,.lst ((pR ps).map λp=>V.str p.name)):: (jX EL ++ Jo RW RL):List (Addr×HO))).map Prod.fst:=
    (List.Sublist.cons₂ E (.cons₂ G (.cons₂ Kp (.cons₂ D (.cons₂ Rw (.cons d (List.Sublist.refl _))))))).subset ha
   have hne:a≠f:=λz=>by rw [map_cons,nodup_cons] at nod;exact nod.1 (by rw [<-z];exact h2)
   obtain⟨q,hq,hqa⟩:=mem_map.mp h2;have:=fre q (mem_cons_of_mem _ hq);rw [hqa] at this;exact this.resolve_left hne
noncomputable def Ec (v:V):Bool:=match v with
 | .int i=>decide (0<=i) && decide (i <1000000000)
 | _=>false
noncomputable def Xk (v:V):Bool:=match v with
 | .int _=>true
 | .bl _=>true
 | .str _=>true
 | .non=>true
 | _=>false
noncomputable def Yw (H:Hp) (v:V):Prop:=Xk v=true∨∃a xs,v=.ref a/\H a=some (.lst xs)
theorem Yw.same {H H':Hp} {v:V} (h:Yw H v) (s:aO H H'):Yw H' v:=h.imp id λ⟨a,xs,e,h⟩=>⟨a,xs,e,s _ _ h⟩
theorem yO:∀T∈iW,T≠ "list" ->Hg T "list" =false:=by decide +kernel
inductive zb (K:Fr) (vs:List V) (H:Hp) (Q:VK) (E:XK):Prop where
 | mk:∀x,vs=[x]->(((∃a xs,x=.ref a/\bT K H a xs/\((300 <xs.length/\Q (.bl false) H)∨(xs.length<=300/\(∀v∈xs,Yw H v)/\∀H',aO H H'->Q (.bl (xs.all Ec)) H')))∨∃Tx,V7 K H x Tx/\Tx∈iW/\Tx≠ "list" /\Q (.bl false) H))->zb K vs H Q E
theorem PX (T:Txt w K mg t):FO P w K mg base 3 t.JL ["thing"] (zb K):=by
 have sc:=T.Cr.sc ["thing"];refine T.Cr.F.ok sc ln (λ_ _ _ _ H vs Q E hr h=>?_);obtain⟨x,rfl,h⟩:=h;refine⟨_,(aA (aQ (yU (aY oA (by rfl) T.dY dD (aa (pv 0) (aa (rC (by rfl) T.tX oZ) ao aj) aj)) (yU (qH rO (aY bN (by rfl) T.eE cL (aa (pv 0) ao aj)) (il (by rfl) T.Ea) (bH _)) (yR (aY (wJ rfl) (by rfl) T.Oc Hx (aa (gP [] ["thing"] (bh (top 29)) rfl (cX (pv 0)) (λ_ _ _ _ _=>jw) (λ_ _ _ _ _=>(dB (sE T) T.nY hr (aa (pv 0) ao aj)))) ao fL))))))),?_⟩;have hz:sizeLine=16777216:=sizeLine_eq;rcases h with ⟨a,xs,rfl,hS,h⟩ | ⟨Tx,hT,hk,hn,k⟩
 ·refine⟨_,Z,_,_,_,_,Z,.inl ⟨Z,_,hS⟩,by decide,Z,_,Z,fc ?_⟩;refine⟨_,Z,_,xs.length,Z,.inl ⟨_,hS,Z⟩,_,_,Z,Z,_,Z,?_⟩;rcases h with ⟨hl,k⟩ | ⟨hl,hp,k⟩
  ·rw [decide_eq_false (show ¬(xs.length:Int)<=300 by lia)];exact cQ k
  rw [decide_eq_true (show(xs.length:Int)<=300 by lia)];refine fc ?_;refine⟨_,Z,a,Z,⟨_,hS⟩,jC (K:=K) (a:=a) (xs:=xs) (λj ys H'=>H'=H/\ys=((xs.take j).map Ec).map V.bl) (by lia) ⟨Z,Z⟩ (λj ys H' ⟨_,e⟩=>by rw [e,lM,lM,length_take];lia) (λj ys H' _ ⟨e,_⟩=>by rw [e];exact hS) ?_ ?_⟩
  ·rintro j x ys H' hx ⟨rfl,rfl⟩;have hv:=hp x (mem_of_getElem? hx);rw [take_succ,hx,toList_some,map_append,map_append];refine yes ⟨_,Z,x,Z,?_⟩;rcases hv with hv | ⟨a2,xs2,rfl,h2⟩
   case inr=>exact .inr ⟨"list",.inl ⟨rfl,_,bT.of h2⟩,by decide,by decide,rfl,rfl⟩
   cases x with
   | int i=>exact .inl ⟨i,rfl,rfl,rfl⟩
   | bl b=>exact .inr ⟨"bool",rfl,by decide,by decide,rfl,rfl⟩
   | str b=>exact .inr ⟨"str",rfl,by decide,by decide,rfl,rfl⟩
   | non=>exact .inr ⟨"NoneType",rfl,by decide,by decide,rfl,rfl⟩
   | _=>cases hv
  rintro ys H' ⟨rfl,rfl⟩ D hD;rw [take_length] at *;refine⟨D,xs.map Ec,Z,bT.of az,?_⟩;rw [show(xs.map Ec).all id=xs.all Ec by rw [List.all_map];rfl];exact k _ (aB hD)
 ·refine⟨_,Z,_,Tx,_,_,Z,hT,by decide,yO Tx hk hn,_,Z,cQ k⟩
structure Ik (ps:List PD) (RW:List (Str×Addr×List Int)):Prop where
 door:∀q∈RW,V.str q.1∈eN ps "give"
 bnd:∀q∈RW,∀v∈q.2.2,0<=v/\v <1000000000
theorem Qf {ls:List aK} {ps:List PD} {RW:List (Str×Addr×List Int)} (F:yf ls ps) (hl:∀q∈RW,q.2.2.length<=300) (hb:∀q∈RW,∀v∈q.2.2,0<=v/\v <1000000000):UW 199 ls ps (lK ls ps RW):=by
 have rq:∀x,uY RW x=[]∨∃q∈RW,uY RW x=q.2.2:=λx=>by
  unfold uY;cases e:RW.find? λq=>decide (q.1=x) with
  | none=>exact .inl rfl
  | some q=>exact .inr ⟨q,List.mem_of_find?_eq_some e,rfl⟩
 refine⟨λl h v hv=>?_,λp hp h0 v hv=>?_,λp hp h0=>zero_le _,λl h=>?_,λp hp h0=>?_⟩
 ·have e:(lK ls ps RW).ev l.name=l.first:=Dd F.whole.nod h;rw [e] at hv;exact(F.lok l h).2.2.2 v hv
 ·rcases rq p.name with e | ⟨q,hq,e⟩
  ·rw [show(lK ls ps RW).r p.name=[] from e] at hv;cases hv
  ·rw [show(lK ls ps RW).r p.name=q.2.2 from e] at hv;exact hb q hq v hv
 ·have e:(lK ls ps RW).ev l.name=l.first:=Dd F.whole.nod h;rw [e];have:=F.lok l h
  lia
 ·rcases rq p.name with e | ⟨q,hq,e⟩
  ·rw [show(lK ls ps RW).r p.name=[] from e];exact zero_le _
  ·rw [show(lK ls ps RW).r p.name=q.2.2 from e];exact hl q hq
theorem Ay {α:Type} {c:α->Bool} {xs:List α} {j:Nat} {y:α} (h:(xs.take j).find? c=none) (hy:xs[j]?=some y) (hc:c y=true):xs.find? c=some y:=by
 have e:(xs.take (j+1)).find? c=some y:=by rw [take_succ,hy,List.find?_append,h];show List.find? c [y]=some y;rw [List.find?_cons_of_pos hc]
 rw [<-take_append_drop (j+1) xs,List.find?_append,e];rfl
theorem Rx (ps:List PD) (k:Str) (x:Option Key):inV (kO x) (eN ps k)=decide (kO x∈eN ps k):=by
 rw [Bool.eq_iff_iff,decide_eq_true_iff];unfold inV;rw [any_eq_true];constructor
 ·rintro⟨v,hv,e⟩;obtain⟨p,hp,rfl⟩:=mem_map.mp hv;cases x with
  | none=>simp [kO,KY] at e
  | some x=>
   cases x with
   | inl i=>simp [kO,kV,KY] at e
   | inr s=>
    have:p.name=s:=by simpa [kO,kV,KY] using e
    rw [<-this];exact hv
 ·intro h;refine⟨_,h,?_⟩;obtain⟨p,_,e⟩:=mem_map.mp h;rw [<-e];simp [KY]
inductive lH (K:Fr) (H:Hp):V->Bool->Prop
 | lst (a:Addr) (xs:List V):H a=some (.lst xs)->(xs.length<=300->∀v∈xs,Yw H v)->lH K H (.ref a) (decide (xs.length<=300) && xs.all Ec)
 | tup (a:Addr) (xs:List V):fZ K H a xs->lH K H (.ref a) false
 | str (s:Str):lH K H (.str s) false
 | non:lH K H .non false
 | int (i:Int):lH K H (.int i) false
 | dic (a:Addr) (kvs:List (Key×V)):H a=some (.dK kvs)->lH K H (.ref a) false
theorem lH.same {H H':Hp} {v:V} {b:Bool} (h:lH K H v b) (s:aO H H'):lH K H' v b:=by
 cases h with
 | lst a xs e hp=>exact .lst a xs (s _ _ e) λhl v hv=>(hp hl v hv).same s
 | tup a xs e=>exact .tup a xs (s.seqT e)
 | str s=>exact .str s
 | non=>exact .non
 | int i=>exact .int i
 | dic a kvs e=>exact .dic a kvs (s _ _ e)
theorem QM {H:Hp} {Q:VK} {Ex:XK} {v:V} {b:Bool} (h:lH K H v b) (k:∀H',aO H H'->Q (.bl b) H'):zb K [v] H Q Ex:=by
 refine⟨v,Z,?_⟩;cases h with
 | lst a xs e hp=>
  refine .inl ⟨a,xs,Z,bT.of e,?_⟩;by_cases hl:xs.length<=300
  ·rw [decide_eq_true hl,Bool.true_and] at k;exact .inr ⟨hl,hp hl,k⟩
  ·rw [decide_eq_false hl,Bool.false_and] at k;exact .inl ⟨Nat.lt_of_not_le hl,k _ (aO.refl _)⟩
 | tup a xs e=>exact .inr ⟨"tuple",.inr (.inl ⟨rfl,_,e⟩),by decide,by decide,k _ (aO.refl _)⟩
 | str s=>exact .inr ⟨"str",rfl,by decide,by decide,k _ (aO.refl _)⟩
 | non=>exact .inr ⟨"NoneType",rfl,by decide,by decide,k _ (aO.refl _)⟩
 | int i=>exact .inr ⟨"int",rfl,by decide,by decide,k _ (aO.refl _)⟩
 | dic a kvs e=>exact .inr ⟨"dict",.inr (.inr ⟨rfl,_,e⟩),by decide,by decide,k _ (aO.refl _)⟩
noncomputable def gK (RB:List (Option Key×V×Bool)):List (Option Key×V):=RB.map λq=>(q.1,q.2.1)
theorem rJ (RB:List (Option Key×V×Bool)):(gK RB).map (·.1)=RB.map (·.1):=by unfold gK;rw [map_map];rfl
structure qt (K:Fr) (P:Program) (w:World) (H:Hp) (rw:Addr) (RB:List (Option Key×V×Bool)):Prop where
 dict:yN P w H rw (gK RB)
 rows:∀q∈RB,lH K H q.2.1 q.2.2
 nd:(RB.map (·.1)).Nodup
theorem qt.same {H H':Hp} {rw:Addr} {RB:List (Option Key×V×Bool)} (h:qt K P w H rw RB) (s:aO H H'):qt K P w H' rw RB:=⟨h.dict.same s,λq hq=>(h.rows q hq).same s,h.nd⟩
noncomputable def Uc (ps:List PD) (q:Option Key×V×Bool):Bool:=!decide (kO q.1∈eN ps "give")
noncomputable def Ud (q:Option Key×V×Bool):Bool:=!q.2.2
noncomputable def jG (ps:List PD) (RB:List (Option Key×V×Bool)):Option (Bool×Option Key):=match RB.find? (Uc ps) with
 | some q=>some (true,q.1)
 | none=>match RB.find? Ud with
  | some q=>some (false,q.1)
  | none=>none
noncomputable def Um (t:mL) (b:Bool):Addr:=if b then t.dJ else t.dj
theorem Ax {α:Type} {c:α->Bool} {xs:List α} {j:Nat} {y:α} (h:(xs.take j).find? c=none) (hy:xs[j]?=some y) (hc:c y=false):(xs.take (j+1)).find? c=none:=by rw [take_succ,hy,List.find?_append,h];show List.find? c [y]=none;rw [List.find?_cons_of_neg (by rw [hc];simp)];rfl
theorem lO.b {H:Hp} {rw:Addr} {RW:List (Str×Addr×List Int)} (h:lO P w H rw RW) {ps:List PD} (o:Ik ps RW):∃RB,qt K P w H rw RB/\jG ps RB=none:=by
 refine⟨RW.map λq=>(some (Sum.inr q.1),V.ref q.2.1,true),⟨?_,?_,?_⟩,?_⟩
 ·have e:gK (RW.map λq=>(some (Sum.inr q.1),V.ref q.2.1,true))=vI RW:=by unfold vI gK;rw [map_map];rfl
  rw [e];exact h.dict
 ·intro q hq;obtain⟨p,hp,rfl⟩:=mem_map.mp hq;have e:=lH.lst (K:=K) (H:=H) p.2.1 _ (h.lists p hp) (λ_ v hv=>by obtain⟨i,_,rfl⟩:=mem_map.mp hv;exact .inl rfl);rw [lM,decide_eq_true (h.len p hp),Bool.true_and,all_eq_true.mpr λv hv=>by obtain⟨i,hi,rfl⟩:=mem_map.mp hv;have:=o.bnd p hp i hi;show(decide _ && decide _)=true;rw [decide_eq_true this.1,decide_eq_true this.2];rfl] at e
  exact e
 ·have e:(RW.map λq=>((some (Sum.inr q.1):Option Key),V.ref q.2.1,true)).map (·.1)=(RW.map (·.1)).map (λx=>(some (Sum.inr x):Option Key)):=by rw [map_map,map_map];rfl
  rw [e];exact Bh h.nd
 ·have e1:(RW.map λq=>((some (Sum.inr q.1):Option Key),V.ref q.2.1,true)).find? (Uc ps)=none:=find?_eq_none.mpr λq hq=>by obtain⟨p,hp,rfl⟩:=mem_map.mp hq;unfold Uc;rw [decide_eq_true (show kO (some (Sum.inr p.1))∈eN ps "give" from o.door p hp)];simp
  have e2:(RW.map λq=>((some (Sum.inr q.1):Option Key),V.ref q.2.1,true)).find? Ud=none:=find?_eq_none.mpr λq hq=>by obtain⟨p,hp,rfl⟩:=mem_map.mp hq;simp [Ud]
  unfold jG;rw [e1,e2]
inductive xY (K:Fr) (t:mL) (P:Program) (w:World) (vs:List V) (H:Hp) (Q:VK) (E:XK):Prop where
 | mk:∀(n rw:Addr) (ls:List aK) (ps:List PD) (RB:List (Option Key×V×Bool)),vs=[.ref n,.ref rw]->nQ K t H n ls ps->qt K P w H rw RB->((jG ps RB=none->∀H',aO H H'->Q .non H'))->(∀b x,jG ps RB=some (b,x)->∀dx H',aO H H'->H' dx=some (.xd [("name",kO x)])->E (.ref (Um t b)) (some dx) H')->xY K t P w vs H Q E
theorem yw (T:Txt w K mg t):fY P w K mg base (u0 P w) 4 t.uD (fdOf K t.uD) ["net", "rows"] (xY K t P w):=by
 have sc:=T.gh.sc ["net", "rows", "doors", "door"];refine T.gh.F.ok2 sc ln (λ_ _ _ _ H vs Q E hr h=>?_);obtain⟨n,rw,ls,ps,RB,rfl,N,hrw,k,kE⟩:=h;refine⟨_,(au (sN sc 2 (Xi (pv 0) T.bF T.bF.me.2.2.2.2.1 (yg T) T.oM hr))
  (au (fj PassesOwn.leaving rfl (yo (pv 1)) (gN sc 3)
   (aA (bQ (bf jK (pv 3) (pv 2) (by with_unfolding_all rfl))
    (aA (FN T.JC (wk T) (hr.mono (by decide)) (by rfl) T.Eu T.jR.b gY (aa (pv 3) ao aj)))
    bw)))
  (aA (fj PassesOwn.leaving rfl (yo (pv 1)) (gN sc 3)
   (aA (bQ (iM (fU (dB (PX T) T.Cr hr (aa (Kq (pv 1) (pv 3) (λ_ _=>rfl)) ao aC))))
    (aA (FN T.Je (wj T) (hr.mono (by decide)) (by rfl) T.zg T.jT.b gY (aa (pv 3) ao aj)))
    bw)))))),?_⟩
 have hz:sizeLine=16777216:=sizeLine_eq;obtain⟨dxn,fsn,R,F,Pd,Gn,Tk,FL,PL,Wn⟩:=id N;refine⟨_,Z,n,dxn,fsn,Z,Wn.obj,Wn.fl.no _ (by decide +kernel),n,ls,ps,Z,N,λl nl=>?_⟩;have s1:=aB (o:=.lst (eN ps "give")) nl;have el:upd H l (.lst (eN ps "give")) l=some (.lst (eN ps "give")):=az;generalize upd H l (.lst (eN ps "give"))=H1 at s1 el ⊢;have fl:(eN ps "give").all mU=true:=by rw [all_eq_true];intro v hv;obtain⟨p,_,rfl⟩:=mem_map.mp hv;rfl
 have fk:∀x:Option Key,mU (kO x)=true:=λx=>by rcases x with _ | (_ | _) <;> rfl
 have w1:=hrw.same s1;have lm:(gK RB).length=RB.length:=by unfold gK;rw [lM]
 refine⟨_,rfl,rw,_,rfl,w1.dict,λo eo=>uR (λj σ H'=>H'=H1/\(RB.take j).find? (Uc ps)=none/\∃v3,σ=[some (.ref n),some (.ref rw),some (.ref l),v3]) ⟨rfl,rfl,none,rfl⟩ (λj σ H' _ ⟨e,_⟩=>by rw [e];exact eo) ?_ ?_⟩
 ·rintro j kk v σ H' hj ⟨rfl,hf,v3,rfl⟩;unfold gK at hj;rw [getElem?_map] at hj;obtain⟨q,hq,e⟩:=map_eq_some_iff.mp hj;cases e;refine⟨_,Z,_,Z,l,_,Z,.inl (bT.of el),fk _,fl,_,Z,?_⟩;show if (!inV (kO q.1) (eN ps "give"))=true then _ else _;rw [Rx];by_cases hd:kO q.1∈eN ps "give"
  ·rw [decide_eq_true hd];exact cQ ⟨rfl,Ax hf hq (by unfold Uc;rw [decide_eq_true hd];rfl),_,rfl⟩
  ·rw [decide_eq_false hd];have du:jG ps RB=some (true,q.1):=by unfold jG;rw [Ay hf hq (by unfold Uc;rw [decide_eq_false hd];rfl)]
   refine fc ?_;refine⟨_,Z,by show 1<=1000;decide,λy ny n0=>⟨y,_,Z,az,λdx' nd ne=>⟨Z,y,dx',Z,n0,by rw [aH ne.symm];exact az,?_⟩⟩⟩;have rz:=raised (fs:=[(("name" :Str),kO q.1)]) ny nd ne;exact kE true q.1 du dx' _ (s1.trans rz.1) rz.2
 rintro σ H' ⟨rfl,hf,v3,rfl⟩;rw [lm,take_length] at hf;refine⟨_,rfl,rw,_,rfl,w1.dict,λo eo=>uR (λj σ H''=>aO H' H''/\(RB.take j).find? Ud=none/\∃v3,σ=[some (.ref n),some (.ref rw),some (.ref l),v3]) ⟨aO.refl _,rfl,v3,rfl⟩ (λj σ H'' _ ⟨e,_⟩=>e _ _ eo) ?_ ?_⟩
 ·rintro j kk v σ H2 hj ⟨s2,hf2,v3,rfl⟩;unfold gK at hj;rw [getElem?_map] at hj;obtain⟨q,hq,e⟩:=map_eq_some_iff.mp hj;cases e;have hm:=mem_of_getElem? hq;have vq:b8 (gK RB) q.1=some q.2.1:=gB (by rw [rJ];exact hrw.nd) (mem_map.mpr ⟨q,hm,rfl⟩);refine⟨_,rfl,_,rfl,rw,_,q.1,_,rfl,w1.dict.same s2,rfl,vq,QM ((w1.rows q hm).same s2) λH3 s3=>⟨_,rfl,?_⟩⟩;cases hb:q.2.2 with
  | true=>exact cQ ⟨s2.trans s3,Ax hf2 hq (by unfold Ud;rw [hb];rfl),_,rfl⟩
  | false=>
   have du:jG ps RB=some (false,q.1):=by unfold jG;rw [hf,Ay hf2 hq (by unfold Ud;rw [hb];rfl)]
   refine fc ?_;refine⟨_,Z,by show 1<=1000;decide,λy ny n0=>⟨y,_,Z,az,λdx' nd ne=>⟨Z,y,dx',Z,n0,by rw [aH ne.symm];exact az,?_⟩⟩⟩;have rz:=raised (fs:=[(("name" :Str),kO q.1)]) ny nd ne;exact kE false q.1 du dx' _ (s1.trans ((s2.trans s3).trans rz.1)) rz.2
 rintro σ H2 ⟨s2,hf2,v3,rfl⟩;rw [lm,take_length] at hf2;exact k (by unfold jG;rw [hf,hf2]) _ (s1.trans s2)
noncomputable def roomF (ls:List aK) (x:Str):Int:=((ls.find? λl=>decide (l.name=x)).map (·.room)).getD 0
noncomputable def ZL (ls:List aK) (S:FS) (q:Str×Int):Bool:=decide (roomF ls q.1<=((S.ev q.1).length:Int) - (S.g q.1:Int))
noncomputable def VL (ls:List aK) (S:FS) (dd:jf):V:=match dd.gv.find? (ZL ls S) with
 | some q=>.str q.1
 | none=>.non
theorem NT {H:Hp} {Q:VK} {Ex:XK} {b:Nat} {A:yx} {ls:List aK} {ps:List PD} {S:FS} {p:PD} (N:nQ K t H A.n ls ps) (W:jM K t H A ls ps S) (hp:p∈ps) (O:UW b ls ps S) (kn:dh S p=none->∀H',aO H H'->Q .non H')
  (k:∀dd,dh S p=some dd->∀H' U,aO H H'->H U=none->qi (A.cells ls ps) H' U dd->Q (.ref U) H'):iY K t [.ref A.f,.str p.name] H Q Ex:=by
 unfold iY;exact⟨b,A,ls,ps,S,p,Z,N,W,hp,O,kn,k⟩
noncomputable def zZ (ls:List aK) (S:FS) (p:PD):Option jf:=match dh S p with
 | none=>none
 | some dd=>if VL ls S dd=.non then some dd else none
theorem ju {S:FS} {p:PD} {dd:jf} (h:dh S p=some dd):gM p.kind p.ins (bu S p)=.non/\BW S p=false/\dd=⟨(places p.kind (bu S p)).map (strAt p.ins),(cu p.kind p.nums (wI S p) (S.k p.name)).map λpv=>(strAt p.outs pv.1.toNat,pv.2),gA p.kind (wI S p) (S.k p.name)⟩:=by
 unfold dh at h;split at h
 ·cases h
 ·rename_i h1;split at h
  ·cases h
  ·rename_i h2;exact⟨Classical.not_not.mp h1,by simpa using h2,(Option.some.inj h).symm⟩
theorem yI {xs:List Str} {q:Nat} (h:q <xs.length):strAt xs q∈xs:=by unfold strAt;rw [getElem?_eq_getElem h];exact List.getElem_mem h
theorem Dh {xs:List Str} {q:Nat} (h:q <xs.length):strAt xs q=xs[q]:=by unfold strAt;rw [getElem?_eq_getElem h];rfl
theorem O5 {i:Nat} {hs:List V}:(places i hs).Nodup:=by
 unfold places;split
 ·split
  ·rename_i n _;have h0:=emod_nonneg n (show(2:Int)≠0 by decide);simp
   lia
  ·simp
 ·exact List.nodup_range
theorem Vv {xs:List Str} (nd:xs.Nodup) {l:List Nat} (hl:l.Nodup) (h:∀q∈l,q <xs.length):(l.map (strAt xs)).Nodup:=by unfold List.Nodup at hl ⊢;rw [List.pairwise_map];refine hl.imp_of_mem λ{a b} ha hb hne e=>hne ?_;rw [Dh (h a ha),Dh (h b hb)] at e;exact(getElem_inj nd).mp e
theorem Hw {f:PD->List Str}:∀{ps:List PD},(ps.flatMap f).Nodup->∀{p:PD},p∈ps->(f p).Nodup
 | q:: r,nd,p,hp=>by
  rw [flatMap_cons,nodup_append] at nd;rcases mem_cons.mp hp with h | h
  ·rw [h];exact nd.1
  ·exact Hw nd.2.1 h
theorem Ni {ls:List aK} {ps:List PD} {S:FS} (F:yf ls ps) {p:PD} (hp:p∈ps) {dd:jf} (h:dh S p=some dd):Ia ls dd:=by
 obtain⟨hl,he,rfl⟩:=ju h;have ok:=F.pok p hp;have hO:=ur S p ok;have hlt:∀q∈places p.kind (bu S p),q <p.ins.length:=λq hq=>by have:=j4 hO q hq;unfold bu at this;rwa [lM] at this
 have inL:∀x∈p.ins ++ p.outs,x∈ls.map (·.name):=λx hx=>by obtain⟨l,hl,rfl⟩:=F.inL hp hx;exact mem_map.mpr ⟨l,hl,Z⟩
 refine⟨?_,λx hx=>?_,λq hq=>?_,?_⟩
 ·exact Vv (Hw (F.whole.ins.nodup_iff.mpr F.whole.nod) hp) O5 hlt
 ·obtain⟨q,hq,rfl⟩:=mem_map.mp hx;exact inL _ (mem_append.mpr (.inl (yI (hlt q hq))))
 ·obtain⟨pv,hpv,rfl⟩:=mem_map.mp hq;obtain⟨o,ho1,ho2⟩:=Hi (show p.kind<=10 by have:=ok.1;lia) _ _ _ _ hpv;refine inL _ (mem_append.mpr (.inr (yI ?_)));rw [ho1,toNat_natCast,ok.2.2.2.1];exact ho2
 ·show(List.map _ _).length<=2;rw [lM];exact Bs ..
noncomputable def Jp (xs:List Str) (p:PD):Bool:=!decide (p.name∈xs)
noncomputable def xH (ls:List aK) (ps:List PD) (S:FS) (xs:List Str):List (PD×jf):=(ps.filter (Jp xs)).filterMap λp=>(zZ ls S p).map λdd=>(p,dd)
noncomputable def lG (S:FS) (ws:List (PD×jf)):FS:=ws.foldl (λS w=>jH S w.1.name w.2) S
noncomputable def FP (ls:List aK) (ps:List PD) (S:FS) (xs:List Str):FS:=lG S (xH ls ps S xs)
theorem Es {S:FS} {b:Nat} {x:Str}:∀{ws:List (PD×jf)},(S.ev x).length<=b->(∀w∈ws,w.2.gv.length<=2)->((lG S ws).ev x).length<=b+2 * ws.length
 | [],h,_=>by simpa [lG] using h
 | w:: r,h,g=>by
  have h1:=g w mem_cons_self;have h2:((jH S w.1.name w.2).ev x).length<=b+2:=by
   unfold jH;rw [lP,lM];have:=length_filter_le (λq:Str×Int=>decide (q.1=x)) w.2.gv
   lia
  have h3:=Es (S:=jH S w.1.name w.2) (ws:=r) h2 (λw' hw=>g w' (mem_cons_of_mem _ hw));show((lG (jH S w.1.name w.2) r).ev x).length<=_;rw [length_cons]
  lia
theorem Z8 {H:Hp} {Q:VK} {Ex:XK} {b:Nat} {A:yx} {ls:List aK} {ps:List PD} {S:FS} {p:PD} {U:Addr} {dd:jf} (F:yf ls ps) (W:jM K t H A ls ps S) (hp:p∈ps) (hl:∀l∈ls,(S.ev l.name).length<=b) (hb:b<=100000) (d:qi (A.cells ls ps) H U dd) (o:Ia ls dd)
  (k:∀H',JD (A.cells ls ps) H H'->jM K t H' A ls ps (jH S p.name dd)->Q .non H'):j5 K t [.ref A.f,.str p.name,.ref U] H Q Ex:=by
 unfold j5;exact⟨b,A,ls,ps,S,p,U,dd,Z,F,W,hp,hl,hb,d,o,k⟩
theorem jM.ins {H:Hp} {A:yx} {ls:List aK} {ps:List PD} {S:FS} (W:jM K t H A ls ps S) {x:Addr} (nx:x∉A.cells ls ps) {o:HO} (nf:x≠A.f):jM K t (upd H x o) A ls ps S:=by
 have st:∀a,a∈A.cells ls ps->upd H x o a=H a:=λa ha=>aH λz=>nx (by rw [<-z];exact ha);obtain⟨dx,fs,h1,h2⟩:=W.at'.ex;refine⟨⟨dx,fs,by rw [aH (Ne.symm nf)];exact h1,h2⟩,?_,λl hl=>?_,?_,?_,?_,?_,λp hp h0=>?_,W.nod⟩
 ·rw [st _ (by simp [yx.cells])];exact W.ever
 ·rw [st _ (by unfold yx.cells;simp only [mem_cons,mem_append,mem_map];exact .inr (.inr (.inr (.inr (.inr (.inl ⟨l,hl,rfl⟩))))))];exact W.lists l hl
 ·rw [st _ (by simp [yx.cells])];exact W.gone
 ·rw [st _ (by simp [yx.cells])];exact W.kept
 ·rw [st _ (by simp [yx.cells])];exact W.done
 ·rw [st _ (by simp [yx.cells])];exact W.rows
 ·rw [st _ (by unfold yx.cells;simp only [mem_cons,mem_append,mem_map];exact .inr (.inr (.inr (.inr (.inr (.inr ⟨p,mem_filter.mpr ⟨hp,by simp [h0]⟩,rfl⟩))))))];exact W.rlst p hp h0
inductive MJ (M:List Addr) (ls:List aK) (S:FS) (H:Hp) (q:PD×Addr):Prop where
 | mk:∀u,H q.2=some (.tup [.str q.1.name,u])->(((zZ ls S q.1=none/\u=.non)∨∃dd U,zZ ls S q.1=some dd/\u=.ref U/\qi M H U dd))->MJ M ls S H q
theorem MJ.same {M:List Addr} {ls:List aK} {S:FS} {H H':Hp} {q:PD×Addr} (h:MJ M ls S H q) (s:aO H H'):MJ M ls S H' q:=by
 obtain⟨u,h1,h2⟩:=h;refine⟨u,s _ _ h1,?_⟩;rcases h2 with h2 | ⟨dd,U,a,b,c⟩
 ·exact .inl h2
 ·exact .inr ⟨dd,U,a,b,c.same s⟩
theorem qz {ls:List aK} {S:FS} {p:PD} {dd:jf} (h:zZ ls S p=some dd):dh S p=some dd/\VL ls S dd=.non:=by
 unfold zZ at h;split at h
 ·cases h
 ·rename_i d hd;split at h
  ·rename_i hf;cases h;exact⟨hd,hf⟩
  ·cases h
theorem XC {ws:List Int} (h:Yv ws):0<=g0 ws/\g0 ws <1000000000:=by
 unfold g0;match ws,h with
 | [],_=>exact⟨by decide,by decide⟩
 | w:: r,h=>exact h w mem_cons_self
theorem Xj {ws:List Int} (h:Yv ws):0<=g1 ws/\g1 ws <1000000000:=by
 unfold g1;match ws,h with
 | [],_=>exact⟨by decide,by decide⟩
 | [w],_=>exact⟨Int.le_refl 0,by show(0:Int) <1000000000;decide⟩
 | w:: v:: r,h=>exact h v (by simp)
theorem Hc (n:Int):0<=n % 1000000000/\n % 1000000000 <1000000000:=⟨emod_nonneg _ (by decide),emod_lt_of_pos _ (by decide)⟩
theorem JK {i:Nat} (hi:i <11) (ns:List Int) {ws:List Int} (kp:Int) (h:Yv ws):∀pv∈cu i ns ws kp,0<=pv.2/\pv.2 <1000000000:=by
 have a0:=XC h;have a1:=Xj h;match i,hi with
 | 0,_=>simp [cu];exact a0
 | 1,_=>simp [cu]
 | 2,_=>simp [cu];exact a0
 | 3,_=>simp [cu];exact a0
 | 4,_=>simp [cu];exact Hc _
 | 5,_=>simp [cu];exact Hc _
 | 6,_=>simp [cu];exact Hc _
 | 7,_=>simp [cu];split <;> decide
 | 8,_=>simp [cu];constructor <;> split <;> lia
 | 9,_=>simp [cu];exact a1
 | 10,_=>simp [cu];exact a1
theorem JH (x:Str):∀(ws:List (PD×jf)) (S:FS),(lG S ws).ev x=S.ev x ++ ws.flatMap λw=>(w.2.gv.filter λq=>decide (q.1=x)).map (·.2)
 | [],S=>by simp [lG]
 | w:: r,S=>by show(lG (jH S w.1.name w.2) r).ev x=_;rw [JH x r,flatMap_cons,<-append_assoc];rfl
theorem Bb:∀(ws:List (PD×jf)) (S:FS),(lG S ws).r=S.r
 | [],_=>rfl
 | w:: r,S=>by show(lG (jH S w.1.name w.2) r).r=_;rw [Bb r];rfl
theorem NP (x:Str):∀(ws:List (PD×jf)) (S:FS),(lG S ws).d x=S.d x+(ws.filter λw=>decide (w.1.name=x)).length
 | [],S=>by simp [lG]
 | w:: r,S=>by
  show(lG (jH S w.1.name w.2) r).d x=_;rw [NP x r,filter_cons];show(if x=w.1.name then S.d x+1 else S.d x)+_=_;by_cases h:x=w.1.name
  ·rw [if_pos h,if_pos (by simp [h])];simp
   lia
  ·rw [if_neg h,if_neg (by simpa using λe=>h e.symm)]
theorem Om (x:Str):∀(ws:List (PD×jf)) (S:FS),(lG S ws).g x=S.g x+(ws.filter λw=>decide (x∈w.2.tk)).length
 | [],S=>by simp [lG]
 | w:: r,S=>by
  show(lG (jH S w.1.name w.2) r).g x=_;rw [Om x r,filter_cons];show(if x∈w.2.tk then S.g x+1 else S.g x)+_=_;by_cases h:x∈w.2.tk
  ·rw [if_pos h,if_pos (by simp [h])];simp
   lia
  ·rw [if_neg h,if_neg (by simp [h])]
theorem uW {ls:List aK} {ps:List PD} {S:FS} {xs:List Str} {w:PD×jf} (h:w∈xH ls ps S xs):w.1∈ps/\Jp xs w.1=true/\zZ ls S w.1=some w.2:=by obtain⟨p,hp,e⟩:=mem_filterMap.mp h;obtain⟨dd,hd,rfl⟩:=map_eq_some_iff.mp e;obtain⟨h1,h2⟩:=mem_filter.mp hp;exact⟨h1,h2,hd⟩
theorem ql {ls:List aK} {S:FS}:∀{qs:List PD},((qs.filterMap λp=>(zZ ls S p).map λdd=>(p,dd)).map (·.1)).Sublist qs
 | []=>by simp
 | q:: r=>by
  rw [List.filterMap_cons];cases zZ ls S q with
  | none=>exact ql.cons _
  | some dd=>exact ql.cons₂ _
theorem Yd {ls:List aK} {ps:List PD} {S:FS} {xs:List Str} (nd:(ps.map (·.name)).Nodup):((xH ls ps S xs).map λw=>w.1.name).Nodup:=by
 have h:((xH ls ps S xs).map (·.1)).Sublist ps:=(ql (qs:=ps.filter (Jp xs))).trans filter_sublist;have e:(xH ls ps S xs).map (λw=>w.1.name)=((xH ls ps S xs).map (·.1)).map (·.name):=by rw [map_map];rfl
 rw [e];exact nd.sublist (h.map _)
theorem U8 {ls:List aK} {ps:List PD} {S:FS} {xs:List Str}:(xH ls ps S xs).length<=ps.length:=by have h:((xH ls ps S xs).map (·.1)).Sublist ps:=(ql (qs:=ps.filter (Jp xs))).trans filter_sublist;have:=h.length_le;rwa [lM] at this
theorem SX {α:Type} {f:α->Str} {x:Str}:∀{l:List α},(l.map f).Nodup->(l.filter λa=>decide (f a=x)).length<=1
 | [],_=>by simp
 | a:: r,nd=>by
  rw [map_cons,nodup_cons] at nd;rw [filter_cons];by_cases h:f a=x
  ·rw [if_pos (by simp [h]),List.filter_eq_nil_iff.mpr λb hb=>by simpa using λe=>nd.1 (mem_map.mpr ⟨b,hb,by rw [e,h]⟩)];simp
  ·rw [if_neg (by simp [h])];exact SX nd.2
theorem aad {b:Nat} {ls:List aK} {ps:List PD} {S:FS} (F:yf ls ps) (O:UW b ls ps S) (xs:List Str):UW (b+32) ls ps (FP ls ps S xs):=by
 have dk:∀w∈xH ls ps S xs,Ia ls w.2:=λw hw=>Ni F (uW hw).1 (qz (uW hw).2.2).1;refine⟨λl hl v hv=>?_,λp hp h0=>?_,λp hp h0=>?_,λl hl=>?_,λp hp h0=>?_⟩
 ·unfold FP at hv;rw [JH] at hv;rcases mem_append.mp hv with h | h
  ·exact O.vb l hl v h
  ·obtain⟨w,hw,hv⟩:=mem_flatMap.mp h;obtain⟨q,hq,rfl⟩:=mem_map.mp hv;obtain⟨h1,_,h3⟩:=uW hw;obtain⟨e1,e2,e3⟩:=ju (qz h3).1;have hq':=(mem_filter.mp hq).1;rw [e3] at hq';obtain⟨pv,hpv,rfl⟩:=mem_map.mp hq';exact JK (F.pok _ h1).1 _ _ (Ri F O h1 e1 e2).2.1 pv hpv
 ·unfold FP;rw [Bb];exact O.rb p hp h0
 ·unfold FP;rw [Bb,NP];have h1:=SX (x:=p.name) (Yd (ls:=ls) (S:=S) (xs:=xs) F.pnd);have h2:=O.dl p hp h0;by_cases hm:∃w∈xH ls ps S xs,w.1.name=p.name
  ·obtain⟨w,hw,e⟩:=hm;obtain⟨a1,_,a3⟩:=uW hw;have ew:w.1=p:=wz F.pnd a1 hp e;obtain⟨_,e2,_⟩:=ju (qz a3).1;rw [ew] at e2;unfold BW at e2;simp [h0] at e2
   lia
  ·rw [List.filter_eq_nil_iff.mpr λw hw=>by simpa using λe=>hm ⟨w,hw,e⟩];simpa using h2
 ·have h1:=Es (O.len l hl) λw hw=>(dk w hw).g2;have h2:=U8 (ls:=ls) (ps:=ps) (S:=S) (xs:=xs);have:=F.p16;unfold FP
  lia
 ·unfold FP;rw [Bb];exact O.rl p hp h0
theorem QL {H:Hp} {Q:VK} {Ex:XK} {H0:Hp} {f dx n rw:Addr} {ls:List aK} {ps:List PD} {RW:List (Str×Addr×List Int)} (hf:H f=some (.ins t.bW dx [])) (s0:aO H0 H) (nf:H0 f=none) (N:nQ K t H0 n ls ps) (hrw:lO P w H0 rw RW)
  (k:∀(H':Hp) (A:yx),A.f=f->A.n=n->lC f H H'->jM K t H' A ls ps (lK ls ps RW)->(∀a∈A.cells ls ps,H a=none)->Q .non H'):fW K t P w [.ref f,.ref n,.ref rw] H Q Ex:=by
 unfold fW;exact⟨H0,f,dx,n,rw,ls,ps,RW,rfl,hf,s0,nf,N,hrw,k⟩
theorem BX {α:Type} {f:α->List Str}:∀{l m:List α},l.Sublist m->(l.flatMap f).Sublist (m.flatMap f)
 | _,_,.slnil=>List.Sublist.refl _
 | _,_,.cons a h=>by rw [flatMap_cons];exact(BX h).trans (List.sublist_append_right _ _)
 | _,_,.cons₂ a h=>by rw [flatMap_cons,flatMap_cons];exact(List.Sublist.refl _).append (BX h)
theorem Vw {ls:List aK} {ps:List PD} {S:FS} {xs:List Str} (F:yf ls ps):((xH ls ps S xs).flatMap (·.1.ins)).Nodup:=by have h:((xH ls ps S xs).map (·.1)).Sublist ps:=(ql (qs:=ps.filter (Jp xs))).trans filter_sublist;have h2:=(F.whole.ins.nodup_iff.mpr F.whole.nod).sublist (BX (f:=(·.ins)) h);rwa [List.flatMap_map] at h2
theorem Q6 {ls:List aK} {ps:List PD} {S:FS} (F:yf ls ps) {p:PD} (hp:p∈ps) {dd:jf} (h:dh S p=some dd) {x:Str} (hx:x∈dd.tk):x∈p.ins/\S.g x <(S.ev x).length:=by
 obtain⟨hl,_,rfl⟩:=ju h;obtain⟨q,hq,rfl⟩:=mem_map.mp hx;obtain⟨y,n,e1,_,e3⟩:=Il (F.pok p hp) hl q hq;have e:strAt p.ins q=y:=by unfold strAt;rw [e1];rfl
 rw [e];exact⟨mem_of_getElem? e1,(List.getElem?_eq_some_iff.mp e3).1⟩
theorem Te {α:Type} {l:List α} {j:Nat} {a:α} (h:l[j]?=some a):l=l.take j ++ a:: l.drop (j+1):=by obtain⟨hj,e⟩:=List.getElem?_eq_some_iff.mp h;rw [<-e,<-List.drop_eq_getElem_cons hj,take_append_drop]
theorem aaB {ls:List aK} {ps:List PD} {S:FS} {xs:List Str} (F:yf ls ps) {j:Nat} {w:PD×jf} (h:(xH ls ps S xs)[j]?=some w) {x:Str} (hx:x∈w.2.tk):(lG S ((xH ls ps S xs).take j)).g x=S.g x/\S.g x <(S.ev x).length:=by
 have hw:=uW (mem_of_getElem? h);have t1:=Q6 F hw.1 (qz hw.2.2).1 hx;refine⟨?_,t1.2⟩;have nd:=Vw (ls:=ls) (S:=S) (xs:=xs) F;rw [Te h,List.flatMap_append,flatMap_cons,nodup_append] at nd;rw [Om,List.filter_eq_nil_iff.mpr λw' hw'=>?_]
 ·rfl
 ·intro z;have hx':=of_decide_eq_true z;have hd:=uW (List.mem_of_mem_take hw');have t2:=Q6 F hd.1 (qz hd.2.2).1 hx';exact nd.2.2 x (mem_flatMap.mpr ⟨w',hw',t2.1⟩) x (mem_append.mpr (.inl t1.1)) Z
theorem Cj {f:PD->List Str}:∀{ps:List PD},(ps.flatMap f).Nodup->∀{p q:PD},p∈ps->q∈ps->∀{x:Str},x∈f p->x∈f q->p=q
 | a:: r,nd,p,q,hp,hq,x,h1,h2=>by
  rw [flatMap_cons,nodup_append] at nd;rcases mem_cons.mp hp with e1 | e1
  ·rcases mem_cons.mp hq with e2 | e2
   ·rw [e1,e2]
   ·rw [e1] at h1;exact absurd Z (nd.2.2 x h1 x (mem_flatMap.mpr ⟨q,e2,h2⟩))
  ·rcases mem_cons.mp hq with e2 | e2
   ·rw [e2] at h2;exact absurd Z (nd.2.2 x h2 x (mem_flatMap.mpr ⟨p,e1,h1⟩))
   ·exact Cj nd.2.1 e1 e2 h1 h2
noncomputable def gvS (S:FS) (p:PD):List (Str×Int):=(cu p.kind p.nums (wI S p) (S.k p.name)).map λpv=>(strAt p.outs pv.1.toNat,pv.2)
noncomputable def Rz (S:FS) (p:PD):List Str:=(gvS S p).map (·.1)
theorem UL {S:FS} {p:PD} (ok:pH p) (hA:p.kind≠10):Rz S p=p.outs:=by
 have h:=ok.1;have hO:=ok.2.2.2.1;unfold Rz gvS;rw [map_map];have key:∀i,i <11->i≠10->∀(ns ws:List Int) (k:Int),(cu i ns ws k).map (λpv=>pv.1.toNat)=List.range (cO i):=by
  intro i hi hn ns ws k;match i,hi,hn with
  | 0,_,_=>rfl
  | 1,_,_=>rfl
  | 2,_,_=>rfl
  | 3,_,_=>rfl
  | 4,_,_=>rfl
  | 5,_,_=>rfl
  | 6,_,_=>rfl
  | 7,_,_=>rfl
  | 8,_,_=>rfl
  | 9,_,_=>rfl
  | 10,_,hn=>exact absurd rfl hn
 have e:(cu p.kind p.nums (wI S p) (S.k p.name)).map ((λq:Str×Int=>q.1)∘λpv=>(strAt p.outs pv.1.toNat,pv.2))=((cu p.kind p.nums (wI S p) (S.k p.name)).map (λpv=>pv.1.toNat)).map (strAt p.outs):=by rw [map_map];rfl
 rw [e,key _ h hA,<-hO];refine List.ext_getElem? λi=>?_;rw [getElem?_map];by_cases h:i <p.outs.length
 ·rw [List.getElem?_range h,getElem?_eq_getElem h,map_some,Dh h]
 ·rw [getElem?_eq_none (by rw [length_range];lia),getElem?_eq_none (by lia)];rfl
theorem XJ {S:FS} {p:PD} (ok:pH p) {x:Str} (hx:x∈Rz S p):x∈p.outs:=by obtain⟨q,hq,rfl⟩:=mem_map.mp hx;obtain⟨pv,hpv,rfl⟩:=mem_map.mp hq;obtain⟨o,ho1,ho2⟩:=Hi (show p.kind<=10 by have:=ok.1;lia) _ _ _ _ hpv;refine yI ?_;rw [ho1,toNat_natCast,ok.2.2.2.1];exact ho2
theorem Wx {ls:List aK} {ps:List PD} {S:FS} (F:yf ls ps) {p:PD} (hp:p∈ps) {dd:jf} (h:dh S p=some dd):(dd.gv.map (·.1)).Nodup/\∀q∈dd.gv,q.1∈p.outs:=by
 obtain⟨_,_,rfl⟩:=ju h;have ok:=F.pok p hp;have eg:((cu p.kind p.nums (wI S p) (S.k p.name)).map λpv=>(strAt p.outs pv.1.toNat,pv.2)).map (·.1)=Rz S p:=rfl;refine⟨?_,λq hq=>XJ (S:=S) ok (mem_map.mpr ⟨q,hq,Z⟩)⟩;show(((cu p.kind p.nums (wI S p) (S.k p.name)).map λpv=>(strAt p.outs pv.1.toNat,pv.2)).map (·.1)).Nodup;rw [eg];by_cases hA:p.kind=10
 ·unfold Rz gvS;rw [hA];show [_].Nodup;simp
 ·rw [UL ok hA];exact Hw (F.whole.outs.nodup_iff.mpr F.whole.nod) hp
theorem Ky {ls:List aK} {ps:List PD} {S:FS} (F:yf ls ps) {p q:PD} (hp:p∈ps) (hq:q∈ps) (hne:p≠q) {dd:jf} (h:dh S p=some dd) {x:Str} (hx:x∈q.ins) {n:Int} (hn:lD S x=.int n):lD (jH S p.name dd) x=.int n:=by
 have hg:x∉dd.tk:=λz=>by have h1:=(Q6 F hp h z).1;have nd:=F.whole.ins.nodup_iff.mpr F.whole.nod;exact hne (Cj nd hp hq h1 hx)
 unfold lD at hn ⊢;show((((S.ev x) ++ _)[if x∈dd.tk then S.g x+1 else S.g x]?).map V.int).getD .non=.int n;rw [if_neg hg];cases e:(S.ev x)[S.g x]? with
 | none=>rw [e] at hn;cases hn
 | some m=>
  rw [e] at hn;rw [List.getElem?_append_left (List.getElem?_eq_some_iff.mp e).1,e];exact hn
theorem yJ {ls:List aK} {ps:List PD} {S:FS} (F:yf ls ps) {p q:PD} (hp:p∈ps) (hq:q∈ps) (hne:p≠q) {dd dq:jf} (h:dh S p=some dd) (hd:dh S q=some dq):dh (jH S p.name dd) q=some dq:=by
 obtain⟨hl,he,rfl⟩:=ju hd;have ok:=F.pok q hq;have hno:=Il ok hl;have nn:q.name≠p.name:=λz=>hne (wz F.pnd hp hq z.symm);have at':∀i∈places q.kind (bu S q),∃n,(bu S q)[i]?=some (.int n)/\(bu (jH S p.name dd) q)[i]?=some (.int n):=λi hi=>by obtain⟨x,n,e1,e2,_⟩:=hno i hi;refine⟨n,e2,?_⟩;unfold bu at e2 ⊢;rw [getElem?_map,e1] at e2 ⊢;rw [map_some] at e2 ⊢;rw [Ky F hp hq hne h (mem_of_getElem? e1) (Option.some.inj e2)]
 have pl:places q.kind (bu (jH S p.name dd) q)=places q.kind (bu S q):=by
  by_cases h9:q.kind=9
  ·obtain⟨n,e1,e2⟩:=at' 0 (by unfold places;rw [if_pos h9];split <;> simp);unfold places;rw [if_pos h9,if_pos h9];cases a:bu S q with
   | nil=>rw [a] at e1;cases e1
   | cons u r=>
    rw [a] at e1;cases b:bu (jH S p.name dd) q with
    | nil=>rw [b] at e2;cases e2
    | cons v s=>
     rw [b] at e2;have e1:u=.int n:=by simpa using e1
     have e2:v=.int n:=by simpa using e2
     rw [e1,e2]
  ·unfold places bu;rw [if_neg h9,if_neg h9,lM,lM]
 have ws:wI (jH S p.name dd) q=wI S q:=by
  unfold wI;rw [pl];by_cases h0:q.kind=0
  ·rw [if_pos h0,if_pos h0];show((S.r q.name)[if q.name=p.name then _ else S.d q.name]?).toList=_;rw [if_neg nn]
  ·rw [if_neg h0,if_neg h0];refine map_congr_left λi hi=>?_;obtain⟨n,e1,e2⟩:=at' i hi;rw [e1,e2]
 have kk:(jH S p.name dd).k q.name=S.k q.name:=if_neg nn;have hl':gM q.kind q.ins (bu (jH S p.name dd) q)=.non:=by unfold gM;rw [pl,find?_eq_none.mpr λi hi=>?_];obtain⟨n,_,e2⟩:=at' i hi;unfold vV;rw [e2];simp
 have he':BW (jH S p.name dd) q=false:=by unfold BW at he ⊢;show(decide (q.kind=0) && decide ((if q.name=p.name then _ else S.d q.name)=(S.r q.name).length))=false;rw [if_neg nn];exact he
 unfold dh;rw [if_neg (by simp [hl']),if_neg (by simp [he']),pl,ws,kk]
theorem Vg {ls:List aK} {ps:List PD} {S:FS} (F:yf ls ps) {p q:PD} (hp:p∈ps) (hq:q∈ps) (hne:p≠q) {dd dq:jf} (h:dh S p=some dd) (hd:dh S q=some dq):jH (jH S p.name dd) q.name dq=jH (jH S q.name dq) p.name dd:=by
 have nn:q.name≠p.name:=λz=>hne (wz F.pnd hp hq z.symm);have go:=(Wx F hp h).2;have gq:=(Wx F hq hd).2;have nd:=F.whole.outs.nodup_iff.mpr F.whole.nod;have e1:(jH (jH S p.name dd) q.name dq).ev=(jH (jH S q.name dq) p.name dd).ev:=by
  funext y
  show(S.ev y ++ (dd.gv.filter λz=>decide (z.1=y)).map (·.2)) ++ (dq.gv.filter λz=>decide (z.1=y)).map (·.2)=(S.ev y ++ (dq.gv.filter λz=>decide (z.1=y)).map (·.2)) ++ (dd.gv.filter λz=>decide (z.1=y)).map (·.2);by_cases ha:(dd.gv.filter λz=>decide (z.1=y))=[]
  ·rw [ha];simp
  ·by_cases hb:(dq.gv.filter λz=>decide (z.1=y))=[]
   ·rw [hb];simp
   ·obtain⟨a,ha⟩:=List.exists_mem_of_ne_nil _ ha;obtain⟨b,hb⟩:=List.exists_mem_of_ne_nil _ hb;obtain⟨a1,a2⟩:=mem_filter.mp ha;obtain⟨b1,b2⟩:=mem_filter.mp hb;have z1:=go a a1;have z2:=gq b b1;rw [of_decide_eq_true a2] at z1;rw [of_decide_eq_true b2] at z2;exact absurd (Cj nd hp hq z1 z2) hne
 have e2:(jH (jH S p.name dd) q.name dq).g=(jH (jH S q.name dq) p.name dd).g:=by
  funext y
  show(if y∈dq.tk then(if y∈dd.tk then S.g y+1 else S.g y)+1 else if y∈dd.tk then S.g y+1 else S.g y)=if y∈dd.tk then(if y∈dq.tk then S.g y+1 else S.g y)+1 else if y∈dq.tk then S.g y+1 else S.g y;by_cases a:y∈dq.tk <;> by_cases b:y∈dd.tk <;> simp [a,b]
 have e3:(jH (jH S p.name dd) q.name dq).k=(jH (jH S q.name dq) p.name dd).k:=by
  funext y
  show(if y=q.name then dq.kv else if y=p.name then dd.kv else S.k y)=if y=p.name then dd.kv else if y=q.name then dq.kv else S.k y;by_cases a:y=q.name
  ·rw [if_pos a,if_neg (by rw [a];exact nn),if_pos a]
  ·rw [if_neg a,if_neg a]
 have e4:(jH (jH S p.name dd) q.name dq).d=(jH (jH S q.name dq) p.name dd).d:=by
  funext y
  show(if y=q.name then(if y=p.name then S.d y+1 else S.d y)+1 else if y=p.name then S.d y+1 else S.d y)=if y=p.name then(if y=q.name then S.d y+1 else S.d y)+1 else if y=q.name then S.d y+1 else S.d y;by_cases a:y=q.name
  ·rw [if_pos a,if_neg (by rw [a];exact nn),if_neg (by rw [a];exact nn),if_pos a]
  ·rw [if_neg a,if_neg a]
 show(⟨_,_,_,_,_⟩:FS)=⟨_,_,_,_,_⟩;exact congr (congr (congr (congr (congrArg FS.mk e1) e2) e3) e4) Z
inductive Ef (ps:List PD) (m:Nat):FS->FS->Prop
 | refl (S:FS):Ef ps m S S
 | head {S T:FS} {p:PD} {dd:jf}:p∈ps->S.d p.name <m->dh S p=some dd->Ef ps m (jH S p.name dd) T->Ef ps m S T
theorem Ef.trans {ps:List PD} {m:Nat} {S T U:FS} (a:Ef ps m S T) (b:Ef ps m T U):Ef ps m S U:=by
 induction a with
 | refl _=>exact b
 | head h1 h2 h3 _ ih=>exact .head h1 h2 h3 (ih b)
noncomputable def Done (ps:List PD) (m:Nat) (T:FS):Prop:=∀p∈ps,T.d p.name <m->dh T p=none
theorem Ef.swap {ls:List aK} {ps:List PD} {m:Nat} (F:yf ls ps) {A T:FS} (r:Ef ps m A T) (hT:Done ps m T):∀{p:PD} {dd:jf},p∈ps->A.d p.name <m->dh A p=some dd->Ef ps m (jH A p.name dd) T:=by
 induction r with
 | refl S=>intro p dd hp hm hd;rw [hT p hp hm] at hd;cases hd
 | @head S T q dq hq hm' hd' r ih=>
  intro p dd hp hm hd;by_cases e:q=p
  ·subst e;rw [hd] at hd';cases hd';exact r
  ·have nn:p.name≠q.name:=λz=>e (wz F.pnd hq hp z.symm);have c:=ih hT hp (show(if p.name=q.name then _ else S.d p.name) <m by rw [if_neg nn];exact hm) (yJ F hq hp e hd' hd);rw [Vg F hq hp e hd' hd] at c;exact .head hq (show(if q.name=p.name then _ else S.d q.name) <m by rw [if_neg (Ne.symm nn)];exact hm') (yJ F hp hq (Ne.symm e) hd hd') c
theorem Ef.ends {ls:List aK} {ps:List PD} {m:Nat} (F:yf ls ps) {A S T:FS} (a:Ef ps m A S) (b:Ef ps m A T) (hT:Done ps m T):Ef ps m S T:=by
 induction a with
 | refl _=>exact b
 | head h1 h2 h3 _ ih=>exact ih (b.swap F hT h1 h2 h3)
theorem Ef.all {ls:List aK} {ps:List PD} {m:Nat} (F:yf ls ps):∀{ws:List (PD×jf)} {S:FS},(ws.map λw=>w.1.name).Nodup->(∀w∈ws,w.1∈ps/\S.d w.1.name <m/\dh S w.1=some w.2)->Ef ps m S (lG S ws)
 | [],S,_,_=>.refl S
 | w:: r,S,nd,h=>by rw [map_cons,nodup_cons] at nd;obtain⟨h1,h2,h3⟩:=h w mem_cons_self;refine .head h1 h2 h3 (Ef.all F nd.2 λw' hw'=>?_);obtain⟨a1,a2,a3⟩:=h w' (mem_cons_of_mem _ hw');have ne:w'.1.name≠w.1.name:=λz=>nd.1 (mem_map.mpr ⟨w',hw',z⟩);refine⟨a1,?_,yJ F h1 a1 (λz=>ne (by rw [z])) h3 a3⟩;show(if w'.1.name=w.1.name then _ else S.d w'.1.name) <m;rw [if_neg ne];exact a2
noncomputable def uT (ps:List PD) (S:FS):Nat:=(ps.map λp=>S.d p.name).sum
noncomputable def Uu:Option HO->Nat
 | some (.dK kvs)=>(kvs.map λkv=>match kv.2 with | .int n=>n.toNat | _=>0).sum
 | _=>0
theorem Sw {H:Hp} {a:Addr} {ps:List PD} {S:FS} (h:H a=some (.dK (bZ (λx=>(S.d x:Int)) ps))):Uu (H a)=uT ps S:=by rw [h];show(List.map _ (bZ _ ps)).sum=_;unfold bZ uT;rw [map_map];congr 1
theorem Rc {ps:List PD} {S:FS} {dd:jf}:∀{qs:List PD} {p:PD},(qs.map (·.name)).Nodup->p∈qs->uT qs (jH S p.name dd)=uT qs S+1
 | a:: r,p,nd,hp=>by
  rw [map_cons,nodup_cons] at nd;have tl:∀{x:Str},x∉r.map (·.name)->(r.map λp=>(jH S x dd).d p.name)=r.map λp=>S.d p.name:=λ{x} hx=>map_congr_left λq hq=>if_neg λz=>hx (mem_map.mpr ⟨q,hq,z⟩);unfold uT;rw [map_cons,map_cons,sum_cons,sum_cons];rcases mem_cons.mp hp with rfl | hp
  ·rw [tl nd.1];show(if p.name=p.name then S.d p.name+1 else S.d p.name)+_=_;rw [if_pos rfl]
   lia
  ·have ih:=Rc (ps:=ps) (S:=S) (dd:=dd) nd.2 hp;unfold uT at ih;rw [ih];have ne:a.name≠p.name:=λz=>nd.1 (mem_map.mpr ⟨p,hp,z.symm⟩);show(if a.name=p.name then S.d a.name+1 else S.d a.name)+_=_;rw [if_neg ne]
   lia
theorem QR {S:FS} {m:Nat}:∀{ps:List PD},(∀p∈ps,S.d p.name<=m)->uT ps S<=ps.length * m
 | [],_=>zero_le _
 | a:: r,h=>by
  have:=QR λp hp=>h p (mem_cons_of_mem _ hp);have:=h a mem_cons_self;unfold uT at *;rw [map_cons,sum_cons,length_cons,Nat.add_mul]
  lia
theorem YJ {b:Nat} {ls:List aK} {ps:List PD} {S:FS} (F:yf ls ps) (O:UW b ls ps S) {p:PD} (hp:p∈ps) {dd:jf} (h:dh S p=some dd):UW (b+2) ls ps (jH S p.name dd):=by
 obtain⟨e1,e2,rfl⟩:=ju h;have hw2:=Bs p.kind p.nums (wI S p) (S.k p.name);refine⟨λl hl v hv=>?_,λp' hp' h0=>O.rb p' hp' h0,λp' hp' h0=>?_,λl hl=>?_,λp' hp' h0=>O.rl p' hp' h0⟩
 ·rcases mem_append.mp hv with hv | hv
  ·exact O.vb l hl v hv
  ·obtain⟨q,hq,rfl⟩:=mem_map.mp hv;obtain⟨pv,hpv,rfl⟩:=mem_map.mp (mem_filter.mp hq).1;exact JK (F.pok _ hp).1 _ _ (Ri F O hp e1 e2).2.1 pv hpv
 ·show(if p'.name=p.name then S.d p'.name+1 else S.d p'.name)<=_;have hd:=O.dl p' hp' h0;by_cases e:p'.name=p.name
  ·have:=wz F.pnd hp' hp e;subst this;rw [if_pos rfl];unfold BW at e2;simp [h0] at e2;show S.d p'.name+1<=(S.r p'.name).length
   lia
  ·rw [if_neg e];exact hd
 ·show(S.ev l.name ++ _).length<=_;rw [lP,lM];have:=O.len l hl;refine le_trans (Nat.add_le_add_left (length_filter_le _ _) _) ?_;rw [lM]
  lia
theorem Ef.snoc {ps:List PD} {m:Nat} {S T:FS} (r:Ef ps m S T) {p:PD} {dd:jf} (hp:p∈ps) (hm:T.d p.name <m) (hd:dh T p=some dd):Ef ps m S (jH T p.name dd):=r.trans (.head hp hm hd (.refl _))
structure IV (K:Fr) (t:mL) (H H':Hp) (A:yx) (ls:List aK) (ps:List PD) (m:Nat) (S0 S:FS):Prop where
 net:nQ K t (bL (A.cells ls ps) H') A.n ls ps
 flow:jM K t H' A ls ps S
 con:aO (bL (A.cells ls ps) H) (bL (A.cells ls ps) H')
 rch:Ef ps m S0 S
 ok:UW (199+2 * uT ps S) ls ps S
 dm:∀p∈ps,S.d p.name<=m
theorem iR {E:List Addr} {H H':Hp} (s:aO H H'):aO (bL E H) (bL E H'):=λb o e=>by
 have hb:b∉E:=λz=>by unfold bL at e;rw [if_pos z] at e;cases e
 exact dH (s _ _ (cY _ _ e)) hb
theorem Ul {E:List Addr} {H H':Hp} (m:JD E H H'):bL E H'=bL E H:=by
 funext b
 unfold bL;split
 ·rfl
 ·rename_i h;exact m b h
theorem IV.mv {H H' H'':Hp} {A:yx} {ls:List aK} {ps:List PD} {m:Nat} {S0 S:FS} (h:IV K t H H' A ls ps m S0 S) (s:aO H' H''):IV K t H H'' A ls ps m S0 S:=⟨h.net.same (iR s),h.flow.same s,h.con.trans (iR s),h.rch,h.ok,h.dm⟩
theorem IV.work {H H' H'':Hp} {A:yx} {ls:List aK} {ps:List PD} {m:Nat} {S0 S:FS} (F:yf ls ps) (h:IV K t H H' A ls ps m S0 S) (mv:JD (A.cells ls ps) H' H'') {p:PD} {dd:jf} (hp:p∈ps) (hm:S.d p.name <m) (hd:dh S p=some dd) (W:jM K t H'' A ls ps (jH S p.name dd)):IV K t H H'' A ls ps m S0 (jH S p.name dd):=by
 have e:=Ul mv;have sd:=Rc (ps:=ps) (S:=S) (dd:=dd) F.pnd hp;refine⟨by rw [e];exact h.net,W,by rw [e];exact h.con,h.rch.snoc hp hm hd,?_,λp' hp'=>?_⟩
 ·have:=YJ F h.ok hp hd;rw [sd];exact⟨this.vb,this.rb,this.dl,this.len,this.rl⟩
 ·show(if p'.name=p.name then S.d p'.name+1 else S.d p'.name)<=m;by_cases e:p'.name=p.name
  ·rw [if_pos e,e];lia
  ·rw [if_neg e];exact h.dm p' hp'
inductive xP (K:Fr) (t:mL) (vs:List V) (H:Hp) (Q:VK):Prop where
 | mk:∀(H0:Hp) (A:yx) (ls:List aK) (ps:List PD) (S0 S:FS) (p:PD) (m:Nat),vs=[.ref A.f,.str p.name,.int (m:Nat)]->IV K t H0 H A ls ps m S0 S->yf ls ps->p∈ps->m<=300->(∀H' S' (c:Nat),IV K t H0 H' A ls ps m S0 S'->(c=0->S'=S)->(0 <c->uT ps S <uT ps S')->uT ps S<=uT ps S'->(S'.d p.name <m->dh S' p=none)->Q (.int (c:Nat)) H')->xP K t vs H Q
@[irreducible] noncomputable def pC (K:Fr) (t:mL):Sp:=λvs H Q _=>xP K t vs H Q
theorem J8 (T:Txt w K mg t):FO P w K mg base 6 t.Dy ["flow", "name", "most"] (pC K t):=by
 have sc:=T.wG.sc ["flow", "name", "most", "times", "deed"];refine T.wG.F.ok sc (λvs H Q E h=>?_) (λcdv A outer s H vs Q E hr h=>?_)
 ·unfold pC at h;obtain⟨H0,A,ls,ps,S0,S,p,m,rfl,_⟩:=h;rfl
 ·unfold pC at h;obtain⟨H0,A,ls,ps,S0,S,p,m,rfl,I,F,hp,hm,k⟩:=h;refine⟨_,(au (sN sc 3 aq)
   (au (sN sc 4 (K6 (pv 0) T.aW T.aW.me.2.2.2.2.2.2.1 (yp T) T.oG hr (aa (pv 1) ao aj)))
   (au (xR PassesOwn.never (PW.pt (uc (j8 (Iu (pv 4))) (qR (bf rM (fu hr.u1 (bJ (pv 0) rfl) (pv 1) (λ_ _=>rfl)) (pv 2) (bH _)))))
    (au (bK (K6 (pv 0) T.aW T.aW.me.2.2.2.2.2.2.2.1 (Ma T) T.yW hr (aa (pv 1) (aa (pv 4) ao aj) aj)))
    (au (Yg (i:=3) sc.nd rfl (Or.inl rfl) aq Xu)
    (aA (sN sc 4 (K6 (pv 0) T.aW T.aW.me.2.2.2.2.2.2.1 (yp T) T.oG hr (aa (pv 1) ao aj)))))))
   (aA (aQ (pv 3)))))),?_⟩
  have hz:sizeLine=16777216:=sizeLine_eq;have hpl:ps.length * m<=4800:=le_trans (Nat.mul_le_mul F.p16 hm) (by decide);have bnd:∀{H':Hp} {S1:FS},IV K t H0 H' A ls ps m S0 S1->199+2 * uT ps S1<=100000:=λJ=>by have:=QR J.dm;lia
  obtain⟨dx,fs,h1,h2⟩:=id I.flow.at'.ex;have go:∀{H1:Hp} {S1:FS} {c:Nat} {dv:V},IV K t H0 H1 A ls ps m S0 S1->(c=0->S1=S)->(0 <c->uT ps S <uT ps S1)->uT ps S<=uT ps S1->S1.d p.name=S.d p.name+c->((dv=.non/\dh S1 p=none)∨∃U dd,dv=.ref U/\dh S1 p=some dd/\qi (A.cells ls ps) H1 U dd)->∃(S':FS) (c':Nat) (dv':V),[some (V.ref A.f),some (.str p.name),some (.int (m:Nat)),some (.int (c:Nat)),some dv]=[some (V.ref A.f),some (.str p.name),some (.int (m:Nat)),some (.int (c':Nat)),some dv']/\IV K t H0 H1 A ls ps m S0 S'/\(c'=0->S'=S)/\(0 <c'->uT ps S <uT ps S')/\uT ps S<=uT ps S'/\S'.d p.name=S.d p.name+c'/\((dv'=.non/\dh S' p=none)∨∃U dd,dv'=.ref U/\dh S' p=some dd/\qi (A.cells ls ps) H1 U dd):=λ{H1 S1 c dv} a b c1 d e f=>⟨S1,c,dv,rfl,a,b,c1,d,e,f⟩;have lp:∀{H1:Hp} {dv:V},IV K t H0 H1 A ls ps m S0 S->((dv=.non/\dh S p=none)∨∃U dd,dv=.ref U/\dh S p=some dd/\qi (A.cells ls ps) H1 U dd)->KJ (Z0 (tB (Wy (wD 4))) (Nu (TV (TY λi j=>V.bl (decide (i <j))) (Wm (Xm K (wD 0) "done") (wD 1)) (wD 2)))) (sW (VH (Gm t.bW "do" (j5 K t) [] E0 (wD 0) (Nb (wD 1) (Nb (wD 4) Lf)))) (sW (YB 3 (tC (V.int 1)) (ipI λi j=>i+j)) (PJ (Gm t.bW "deed" (iY K t) [] E0 (wD 0) (Nb (wD 1) Lf)) (vM 4)))) { nx:=Zz (wD 3) { nx:=λx H'=>Q V.non H',rt:=Q },rt:=Q } [some (V.ref A.f),some (.str p.name),some (.int (m:Nat)),some (.int ((0:Nat):Int)),some dv] H1:=λ{H1 dv} I1 hdv=>by
   refine wN (λσ H'=>∃(S':FS) (c':Nat) (dv':V),σ=[some (V.ref A.f),some (.str p.name),some (.int (m:Nat)),some (.int (c':Nat)),some dv']/\IV K t H0 H' A ls ps m S0 S'/\(c'=0->S'=S)/\(0 <c'->uT ps S <uT ps S')/\uT ps S<=uT ps S'/\S'.d p.name=S.d p.name+c'/\((dv'=.non/\dh S' p=none)∨∃U dd,dv'=.ref U/\dh S' p=some dd/\qi (A.cells ls ps) H' U dd)) (fun(σ:St) (_:Hp)=>match σ[3]? with | some (some (V.int c))=>m - c.toNat | _=>0) (go I1 (λ_=>rfl) (λz=>absurd z (lt_irrefl 0)) (le_refl _) rfl hdv) ?_ ?_
   ·rintro σ H2 ⟨S1,c,dv,rfl,I2,c0,c1,hle,hdc,hdv⟩;rcases hdv with ⟨rfl,hn⟩ | ⟨U,dd,rfl,hd,hA⟩
    ·exact⟨_,Z,_,Z,cQ (cQ ⟨_,Z,k H2 S1 c I2 c0 c1 hle λ_=>hn⟩)⟩
    obtain⟨dx,fs,h1,h2⟩:=id I2.flow.at'.ex;refine⟨_,rfl,_,rfl,fc ⟨_,rfl,A.f,_,dx,fs,_,rfl,h1,T.aW.c,T.aW.na.2.2.2.2.1,h2.has ("done",.ref A.D) (by simp),_,rfl,A.D,_,rfl,(by rw [<-uU (k:=λx=>(S1.d x:Int)) F.pnd hp];exact fP.k (k:=Sum.inr p.name) I2.flow.done),_,rfl,_,_,rfl,rfl,_,rfl,iD (λhlt=>?_) (λhge=>?_)⟩⟩
    ·have hlt:S1.d p.name <m:=by simpa using hlt
     refine⟨_,Z,A.f,dx,fs,Z,h1,h2.no _ (by decide +kernel),_,Z,_,Z,Z8 F I2.flow hp (λl hl=>I2.ok.len l hl) (bnd I2) hA (Ni F hp hd) λH3 mv W3=>?_⟩;have I3:=I2.work F mv hp hlt hd W3;have sd:=Rc (ps:=ps) (S:=S1) (dd:=dd) F.pnd hp;have d3:(jH S1 p.name dd).d p.name=S.d p.name+(c+1):=by
      show(if p.name=p.name then S1.d p.name+1 else _)=_;rw [if_pos rfl]
      lia
     obtain⟨dx,fs,h1,h2⟩:=id I3.flow.at'.ex;have ms:m - (c+1) <m - c:=by lia
     refine⟨_,Z,_,_,Z,Z,_,Z,A.f,dx,fs,Z,h1,h2.no _ (by decide +kernel),_,Z,NT (I3.net.same cY) I3.flow hp I3.ok (λhn H4 s4=>?_) (λdd' hd' H4 U' s4 nU' hA'=>?_)⟩
     ·exact⟨⟨_,c+1,_,Z,I3.mv s4,(λz=>absurd z (Nat.succ_ne_zero _)),λ_=>by lia,by lia,d3,.inl ⟨Z,hn⟩⟩,ms⟩
     ·exact⟨⟨_,c+1,_,Z,I3.mv s4,(λz=>absurd z (Nat.succ_ne_zero _)),λ_=>by lia,by lia,d3,.inr ⟨U',dd',Z,hd',hA'⟩⟩,ms⟩
    ·have hge:¬S1.d p.name <m:=λz=>hge (by simpa using z);exact⟨_,Z,k H2 S1 c I2 c0 c1 hle λz=>absurd z hge⟩
   ·intro σ H' Q' Q'' hQ hq;obtain⟨v,e,b,e2,hq⟩:=hq;refine⟨v,e,b,e2,?_⟩;split at hq
    ·rename_i hb;rw [if_pos hb];obtain⟨x1,x2,x3,x4,x5,x6,x7,x8,x9,x10,x11,x12,x13,x14,x15,x16,x17,x18,x19,x20,x21,x22,x23,x24,x25,x26,hq⟩:=hq;exact⟨x1,x2,x3,x4,x5,x6,x7,x8,x9,x10,x11,x12,x13,x14,x15,x16,x17,x18,x19,x20,x21,x22,x23,x24,x25,x26,hQ _ _ hq⟩
    ·rename_i hb;rw [if_neg hb];exact hQ _ _ hq
  refine⟨_,Z,A.f,dx,fs,Z,h1,h2.no _ (by decide +kernel),_,Z,NT (I.net.same cY) I.flow hp I.ok (λhn H1 s1=>?_) (λdd hd H1 U s1 nU hA=>?_)⟩
  ·exact lp (I.mv s1) (.inl ⟨Z,hn⟩)
  ·exact lp (I.mv s1) (.inr ⟨U,dd,Z,hd,hA⟩)
noncomputable def Ro:V->Bool
 | .int i=>decide (0<=i) && decide (i<=300)
 | _=>false
inductive uv (K:Fr) (t:mL) (P:Program) (w:World) (vs:List V) (H:Hp) (Q:VK) (E:XK):Prop where
 | mk:∀(n rw:Addr) (v:V),vs=[.ref n,.ref rw,v]->(((Ro v=false/\(∃Tv,V7 K H v Tv/\Tv∈iW)/\E (.ref t.cD) none H)∨∃(ls:List aK) (ps:List PD) (m:Nat),v=.int (m:Nat)/\nQ K t H n ls ps/\yf ls ps/\m<=300/\((∃RB b x,qt K P w H rw RB/\jG ps RB=some (b,x)/\∀dx H',aO H H'->H' dx=some (.xd [("name",kO x)])->E (.ref (Um t b)) (some dx) H')∨∃RW:List (Str×Addr×List Int),lO P w H rw RW/\Ik ps RW/\∀H' u,aO H H'->Q u H')))->uv K t P w vs H Q E
@[irreducible] noncomputable def jn (K:Fr) (t:mL) (P:Program) (w:World):Sp:=λvs H Q E=>uv K t P w vs H Q E
theorem Ej (T:Txt w K mg t):fY P w K mg base (u0 P w) 7 t.qJ (fdOf K t.qJ) ["net", "rows", "most"] (jn K t P w):=by
 have sc:=T.jV.sc ["net", "rows", "most", "flow", "busy", "name"];refine T.jV.F.ok2 sc (λvs H Q E h=>?_) (λcdv A outer s H vs Q E hr h=>?_)
 ·unfold jn at h;obtain⟨n,rw,v,rfl,_⟩:=h;rfl
 ·unfold jn at h;obtain⟨n,rw,v,rfl,h⟩:=h;refine⟨_,(au (bQ (PW.pt (o8 (iM (fU (dB (sJ T) T.m5 hr (aa (pv 2) ao aj)))) (lW (iM (tH rO rO aq (pv 2) (il (by rfl) T.Al))))))
    (aA (Qk T.K8 T.qZ (by rfl) (aa bA ao ak)))
    bw)
   (au (bK (MT (yw T) (hr.mono (by decide)) (by rfl) T.gh.m T.gh.F.kp T.gh.b .nil (Zc λ_ _ _ h=>h) (aa (pv 0) (aa (pv 1) ao aj) aj)))
   (au (sN sc 3 (iT (T.aW.M T.jo) (yK T) (hr.mono (by decide)) (by rfl) T.aW.m T.jo.b .nil gY (aa (pv 0) (aa (pv 1) ao aj) aj)))
   (au (sN sc 4 fB)
   (au (xR PassesOwn.leaving (fU (pv 4))
    (au (sN sc 4 fB)
    (aA (fj PassesOwn.leaving rfl (cX (Xi (pv 0) T.bF T.bF.me.2.2.1 (jJ T) T.fX hr)) (gN sc 5)
     (aA (eO (bQ (bf Ca (dB (J8 T) T.wG hr (aa (pv 3) (aa (pv 5) (aa (pv 2) ao aj) aj) aj)) aq (bH _))
      (aA (sN sc 4 fB))
      bw)))))))
   (aA (aQ (bJ (pv 3) rfl)))))))),?_⟩
  have hz:sizeLine=16777216:=sizeLine_eq;rcases h with ⟨hm,⟨Tv,hT,hk⟩,kE⟩ | ⟨ls,ps,m,rfl,N,F,hm,h⟩
  ·by_cases e:Tv= "int"
   ·subst e;obtain⟨i,rfl⟩:∃i,v=.int i:=by
     cases v with
     | int i=>exact⟨i,rfl⟩
     | ref a=>rcases hT with ⟨h,_⟩ | ⟨h,_⟩ | ⟨h,_⟩ <;> exact absurd h (by decide)
     | non=>exact absurd (show "int" = "NoneType" from hT) (by decide)
     | bl b=>exact absurd (show "int" = "bool" from hT) (by decide)
     | str b=>exact absurd (show "int" = "str" from hT) (by decide)
     | _=>exact(show False from hT).elim
    have hm:(decide (0<=i) && decide (i<=300))=false:=hm;refine⟨_,Z,.int i, "int",true,Z,hT,hk,by decide,_,Z,cQ ?_⟩;refine⟨_,Z,_,_,Z,Z,_,Z,?_⟩;by_cases h0:0<=i
    ·rw [decide_eq_true h0];refine fc ⟨_,_,Z,Z,_,Z,?_⟩;rw [decide_eq_true h0,Bool.true_and] at hm;rw [hm];exact fc ⟨by show 1<=1000;decide,kE⟩
    ·rw [decide_eq_false h0];exact cQ ⟨_,Z,fc ⟨by show 1<=1000;decide,kE⟩⟩
   ·refine⟨_,Z,v,Tv,false,Z,hT,hk,decide_eq_false e,_,Z,fc ?_⟩;exact⟨by show 1<=1000;decide,kE⟩
  have p16:=F.p16;have hpl:ps.length * m<=4800:=le_trans (Nat.mul_le_mul p16 hm) (by decide);refine⟨_,Z,_, "int",true,Z,Z,by decide,Z,_,Z,cQ ?_⟩;refine⟨_,Z,_,_,Z,Z,_,Z,?_⟩;rw [decide_eq_true (show(0:Int)<=(m:Int) by lia)];refine fc ⟨_,_,Z,Z,_,Z,?_⟩;rw [decide_eq_true (show(m:Int)<=300 by lia)];refine cQ ?_;rcases h with ⟨RB,b,x,hB,hd,kE⟩ | ⟨RW,hrw,hO,k⟩
  ·exact⟨_,rfl,_,rfl,n,rw,ls,ps,RB,rfl,N,hB,(λz=>by rw [hd] at z;cases z),λb' x' z dx H' s' e=>by rw [hd] at z;cases z;exact kE dx H' s' e⟩
  obtain⟨RB,hB,hd⟩:=hrw.b hO;refine⟨_,rfl,_,rfl,n,rw,ls,ps,RB,rfl,N,hB,λ_ H1 s1=>?_,λb x z=>by rw [hd] at z;cases z⟩;have N1:=N.same s1;refine⟨_,Z,_,Z,λf dxf nf ndf nef=>?_⟩;have s2:aO H1 (upd (upd H1 dxf (.own f)) f (.ins t.bW dxf [])):=λb o e=>by rw [aH (aF e nf),aH (aF e ndf)];exact e
  have ef:(upd (upd H1 dxf (.own f)) f (.ins t.bW dxf [])) f=some (.ins t.bW dxf []):=az;generalize upd (upd H1 dxf (.own f)) f (.ins t.bW dxf [])=H2 at s2 ef ⊢;refine QL ef s2 nf N1 (hrw.same s1) λH3 A eAf eAn b3 W3 fr3=>⟨Z,?_⟩;subst eAf;subst eAn;have s13:aO H1 H3:=λb o e=>b3 b o (aF e nf) (s2 _ _ e);have fr1:∀a∈A.cells ls ps,H1 a=none:=λa ha=>s2.free (fr3 a ha);have fr0:∀a∈A.cells ls ps,H a=none:=λa ha=>s1.free (fr1 a ha);have I3:IV K t H3 H3 A ls ps m (lK ls ps RW) (lK ls ps RW):=by refine⟨N1.same λb o e=>dH (s13 _ _ e) (λz=>by rw [fr1 b z] at e;cases e),W3,aO.refl _,.refl _,?_,λp hp=>zero_le _⟩;have o:=Qf (RW:=RW) F (λq hq=>hrw.len q hq) hO.bnd;exact⟨o.vb,o.rb,o.dl,λl hl=>le_trans (o.len l hl) (Nat.le_add_right _ _),o.rl⟩
  have sF:∀{H':Hp},aO (bL (A.cells ls ps) H3) (bL (A.cells ls ps) H')->aO H H':=λs b o e=>cY _ _ (s _ _ (dH (s13 _ _ (s1 _ _ e)) λz=>by rw [fr0 b z] at e;cases e));generalize lK ls ps RW=S0 at I3 W3;have nc:(A.E:: ls.map λl=>A.ea l.name).Sublist (A.cells ls ps):=.cons₂ _ (.cons _ (.cons _ (.cons _ (.cons _ (List.sublist_append_left _ _)))));refine wN (λσ H'=>∃S bb v5,σ=[some (.ref A.n),some (.ref rw),some (.int (m:Nat)),some (.ref A.f),some (.bl bb),v5]/\IV K t H3 H' A ls ps m S0 S/\(bb=false->Done ps m S)) (fun(σ:St) (H':Hp)=>2 * (ps.length * m - Uu (H' A.D))+(match σ[4]? with | some (some (V.bl true))=>1 | _=>0)) ⟨S0,true,_,rfl,I3,by intro z;cases z⟩ ?_ ?_
  ·rintro σ H4 ⟨S,bb,w5,rfl,I4,hd⟩;obtain⟨dx,fs,h1,h2⟩:=id I4.flow.at'.ex;cases bb with
   | false=>
    refine⟨_,Z,_,Z,cQ ⟨_,Z,A.f,_,dx,fs,_,Z,h1,T.aW.c,T.aW.na.2.1,h2.has ("ever",.ref A.E) (by simp),?_⟩⟩;exact k H4 _ (sF I4.con)
   | true=>
    have c4:=Sw I4.flow.done;have N4:=I4.net.same cY;obtain⟨dxn,fsn,R,F0,Pd,Gn,Tk,FL,PL,Wn⟩:=id N4;refine⟨_,Z,_,Z,fc ?_⟩;refine⟨_,Z,A.n,dxn,fsn,Z,Wn.obj,Wn.fl.no _ (by decide +kernel),A.n,ls,ps,Z,N4,λL nL=>?_⟩;have tL:=aB (o:=.lst (ps.map λp=>V.str p.name)) nL;have eL:upd H4 L (.lst (ps.map λp=>V.str p.name)) L=some (.lst (ps.map λp=>V.str p.name)):=az;generalize upd H4 L (.lst (ps.map λp=>V.str p.name))=H5 at tL eL ⊢;have I5:=I4.mv tL;have nLc:L∉A.cells ls ps:=I4.flow.cell nL;have J5:IV K t H5 H5 A ls ps m S0 S:=⟨I5.net,I5.flow,aO.refl _,I5.rch,I5.ok,I5.dm⟩;refine⟨L,rfl,⟨_,bT.of eL⟩,fK (K:=K) (a:=L) (xs:=ps.map λp=>V.str p.name) (λj σ H'=>∃S' bb v5,σ=[some (.ref A.n),some (.ref rw),some (.int (m:Nat)),some (.ref A.f),some (.bl bb),v5]/\IV K t H5 H' A ls ps m S0 S'/\(bb=false->S'=S/\∀p∈ps.take j,S.d p.name <m->dh S p=none)/\(bb=true->uT ps S <uT ps S')/\uT ps S<=uT ps S') ⟨S,false,w5,rfl,J5,λ_=>⟨rfl,by simp⟩,(λz=>by cases z),le_refl _⟩ (λj σ H' _ ⟨_,_,_,_,J,_⟩=>bT.of (cY _ _ (J.con _ _ (dH eL nLc)))) ?_ ?_⟩
    ·rintro j x σ H6 hx ⟨S',bb,v5,rfl,J6,hf,ht,hle⟩;rw [getElem?_map] at hx;obtain⟨p,hpj,rfl⟩:=map_eq_some_iff.mp hx;have hp:=mem_of_getElem? hpj;refine⟨λσ' H'=>∃S' bb v5,σ'=[some (.ref A.n),some (.ref rw),some (.int (m:Nat)),some (.ref A.f),some (.bl bb),v5]/\IV K t H5 H' A ls ps m S0 S'/\(bb=false->S'=S/\∀p∈ps.take (j+1),S.d p.name <m->dh S p=none)/\(bb=true->uT ps S <uT ps S')/\uT ps S<=uT ps S',?_,λ_ _ h=>h⟩;refine⟨_,Z,_,Z,_,Z,?_⟩;unfold pC;refine⟨H5,A,ls,ps,S0,S',p,m,Z,J6,F,hp,hm,λH7 S7 c J7 c0 c1 hle7 hn7=>⟨_,_,Z,Z,_,Z,iD (λhc=>?_) (λhc=>?_)⟩⟩
     ·have hc:0 <c:=by simpa using hc
      have:=c1 hc;exact⟨S7,true,_,rfl,J7,(λz=>by cases z),λ_=>by lia,by lia⟩
     ·have hc:c=0:=by
       have:¬0 <c:=λz=>hc (by simpa using z)
       lia
      have e7:=c0 hc;refine⟨S7,bb,_,Z,J7,λhb=>⟨by rw [e7];exact(hf hb).1,λp' hp' hlt=>?_⟩,λhb=>by rw [e7];exact ht hb,by lia⟩;rw [take_succ,hpj,toList_some] at hp';rcases mem_append.mp hp' with z | z
      ·exact(hf hb).2 p' z hlt
      ·rw [mem_singleton] at z;rw [z,<-(hf hb).1,<-e7] at hlt ⊢;exact hn7 hlt
    rintro σ H6 ⟨S',bb,v5,rfl,J6,hf,ht,hle⟩;have c6:=Sw J6.flow.done;have sm6:=QR J6.dm;refine⟨⟨S',bb,_,Z,⟨J6.net,J6.flow,I5.con.trans J6.con,J6.rch,J6.ok,J6.dm⟩,λhb p hp hlt=>?_⟩,?_⟩
    ·obtain⟨e,h⟩:=hf hb;rw [e] at hlt ⊢;exact h p (by rw [lM,take_length];exact hp) hlt
    ·show 2 * (ps.length * m - Uu (H6 A.D))+(match some (some (V.bl bb)) with | some (some (V.bl true))=>1 | _=>0) <2 * (ps.length * m - Uu (H4 A.D))+1;rw [c4,c6];cases bb with
     | false=>show _+0 <_;lia
     | true=>
      have:=ht rfl;show _+1 <_
      lia
  ·intro σ H' Q' Q'' hQ hq;obtain⟨v,e,b,e2,q⟩:=hq;exact⟨v,e,b,e2,hQ _ _ q⟩
theorem UJ {H:Hp} {a p:Addr} {xs ys:List V} (h:fZ K H a xs) (hp:H p=some (.lst ys)):fZ K (bL [p] H) a xs:=by
 rcases h with (h | ⟨o,h⟩) | h
 ·exact .inl (.inl (dH h (by rw [mem_singleton];intro z;rw [z,hp] at h;cases h)))
 ·exact .inl (.inr ⟨o,dH h (by rw [mem_singleton];intro z;rw [z,hp] at h;cases h)⟩)
 ·exact .inr h
theorem NZ {ws:List Int} {lo hi:Option Int} {v:V} (h:v∈qd (ws.map V.int) lo hi):∃i,v=.int i:=by unfold qd at h;obtain⟨c,_,rfl⟩:=mem_map.mp (List.mem_of_mem_drop (List.mem_of_mem_take h));exact⟨c,Z⟩
inductive rN (K:Fr) (vs:List V) (H:Hp) (Q:VK) (E:XK):Prop where
 | mk:∀(c:Int),vs=[.int c]->(∀H' v b,aO H H'->(∀p xs,H p=some (.lst xs)->lH K (bL [p] H') v b)->Q v H')->rN K vs H Q E
noncomputable abbrev sr:List Str:=["_law_cell_here", "_law_row", "_law_way", "_law_at", "_law_great"]
theorem Ag (T:Txt w K mg t):FO P w K mg base 3 t.tM ["_law_cell_here"] (rN K):=by
 have sc:=T.n8.sc sr;refine T.n8.F.ok sc ln (λ_ _ _ _ H vs Q E hr h=>?_);obtain⟨c,rfl,k⟩:=h;refine⟨_,(au (m9 (i:=1) [0] sr (bh (top 77)) Z sc.nd Z (jB Z T.lX (aa (aX bR (dB (aM T) T.aN hr (aa (pv 0) (aa aq ao ak) aj)) aq) ao bO)) (λ_ _ _ _ _=>jw) (λ_ _ _ _ _=>(dB (gU T) T.fJ hr (aa (pv 1) (aa (pv 0) ao aj) aj))))
  (au (sN sc 2 (aX bR (dB (aM T) T.aN hr (aa (pv 0) (aa aq ao ak) aj)) aq))
  (au (bQ (bf fO (pv 2) aq (bH _))
   (aA (aQ (aU aR (bj (aa (dM qw (by rfl) T.wU sH (aa (pv 1) ao aj)) (aa nZ (aa bA (aa iH (aa aq ao ak) Ou) ak) ak) bc)) (aX bR (dB (aM T) T.aN hr (aa (pv 0) (aa aq ao ak) aj)) aq) (λ_ _=>rfl))))
   bw)
  (au (bQ (bf fO (pv 2) aq (bH _))
   (aA (aQ (aX Yl (bj (aa aq ao ak)) (aX dG aq (aX bR (dB (aM T) T.aN hr (aa (pv 0) (aa aq ao ak) aj)) aq)))))
   bw)
  (au (sN sc 3 (aX bR (dB (aM T) T.aN hr (aa (pv 0) (aa aq ao ak) aj)) (aX dG (aY bN (by rfl) T.eE cL (aa (pv 1) ao aj)) aq)))
  (au (sN sc 4 (aX dG (aX Iv aq aq) (dB (aM T) T.aN hr (aa (pv 0) (aa aq ao ak) aj))))
  (aA (aQ (aX CV (aX CV (qm Ba (pv 1) uP (uV (pv 3))) (bj (aa (aU aR (bj (@aa _ _ _ _ _ (Wf RN aq) (@aa _ _ _ _ _ (pv 4) (@aa _ _ _ _ _ (aX CG aq (pv 4)) (@aa _ _ _ _ _ fB (@aa _ _ _ _ _ nZ (@aa _ _ _ _ _ bA (@aa _ _ _ _ _ (bj (aa aq ao ak)) ao aV) ak) ak) ak) bO) aj) rB)) (aX bR (dB (aM T) T.aN hr (aa (pv 0) (aa aq ao ak) aj)) aq) (λ_ _=>rfl)) ao aC))) (qm Ba (pv 1) (uV (pv 3)) uP)))))))))),?_⟩
 have hz:sizeLine=16777216:=sizeLine_eq;have a0:=emod_nonneg (bD c 2) (show(5:Int)≠0 by decide);have a1:=emod_lt_of_pos (bD c 2) (show(0:Int) <5 by decide);refine⟨_,Z,_,_,Z,_,_,Z,Z,by show(0:Int) <5;decide,_,Z,by lia,by lia,?_⟩;refine j6 (λi ys H'=>H'=H/\ys.length<=i/\∃ws:List Int,ys=ws.map V.int) (by lia) ⟨Z,le_refl _,[],Z⟩ (λi ys H' h=>h.2.1) ?_ ?_
 ·rintro i ys H' hi ⟨rfl,ly,ws,rfl⟩;exact yes ⟨_,rfl,_,rfl,_,_,rfl,rfl,by rw [lP,length_singleton];exact succ_le_succ ly,ws ++ [_],by rw [map_append];rfl⟩
 rintro ys H' ⟨rfl,ly,ws,rfl⟩ R nR;rw [lM] at ly;have t1:=aB (o:=.lst (ws.map V.int)) nR;have eR:upd H' R (.lst (ws.map V.int)) R=some (.lst (ws.map V.int)):=az;generalize upd H' R (.lst (ws.map V.int))=H1 at t1 eR ⊢;clear nR;have nin:∀{G:Hp} {b:Addr},aO H' G->G b=none->∀{pp:Addr} {xx:List V},H' pp=some (.lst xx)->b∉[pp]:=λ{G b} s n {pp} {xx} h=>by rw [mem_singleton];exact λz=>by rw [z,s _ _ h] at n;cases n
 refine⟨_,Z,_,_,Z,_,_,Z,Z,by show(0:Int) <4;decide,?_⟩;refine⟨_,Z,Z,_,Z,iD (λ_=>?_) (λ_=>?_)⟩
 ·refine⟨_,Z,R,_,Z,.inl (bT.of eR),λH2 u s2 sq=>?_⟩;refine λd nd=>?_;have t3:=aB (o:=.dK []) nd;have ed:upd H2 d (.dK []) d=some (.dK []):=az;have sq3:=t3.seqT sq;generalize upd H2 d (.dK [])=H3 at t3 ed sq3 ⊢;refine⟨by show 5<=sizeLine;lia,λl nl=>?_⟩;have t4:=aB (o:=.lst [V.ref u,.non,.str "12",.ref d,.int 5]) nl;have el:upd H3 l (.lst [V.ref u,.non,.str "12",.ref d,.int 5]) l=some (.lst [V.ref u,.non,.str "12",.ref d,.int 5]):=az;have sq4:=t4.seqT sq3;have ed4:=t4 _ _ ed;generalize upd H3 l (.lst [V.ref u,.non,.str "12",.ref d,.int 5])=H4 at t4 el sq4 ed4 ⊢;have m0:=emod_nonneg (bD c 4) (show(5:Int)≠0 by decide);have m1:=emod_lt_of_pos (bD c 4) (show(0:Int) <5 by decide);obtain⟨i,hi,hi5⟩:∃i:Nat,bD c 4 % 5=(i:Int)/\i <5:=⟨(bD c 4 % 5).toNat,by lia,by lia⟩;obtain⟨v,hv⟩:∃v,[V.ref u,.non,.str "12",.ref d,.int 5][i]?=some v:=⟨_,getElem?_eq_getElem hi5⟩;refine⟨_,Z,_,_,Z,_,_,Z,Z,by show(0:Int) <5;decide,l,_,_,v,Z,Z,bT.of el,(by rw [hi];exact aJ hv),?_⟩;have hm:=mem_of_getElem? hv;simp only [mem_cons,not_mem_nil,or_false] at hm;have sA:=t1.trans (s2.trans (t3.trans t4));rcases hm with rfl | rfl | rfl | rfl | rfl
  ·exact k _ _ _ sA λpp xx hp=>.tup _ _ (UJ sq4 (sA _ _ hp))
  ·exact k _ _ _ sA λpp xx hp=>.non
  ·exact k _ _ _ sA λpp xx hp=>.str _
  ·exact k _ _ _ sA λpp xx hp=>.dic _ _ (dH ed4 (nin (t1.trans s2) nd hp))
  ·exact k _ _ _ sA λpp xx hp=>.int _
 refine⟨_,Z,Z,_,Z,iD (λ_=>?_) (λ_=>?_)⟩
 ·have m0:=emod_nonneg (bD c 4) (show(90:Int)≠0 by decide);have m1:=emod_lt_of_pos (bD c 4) (show(0:Int) <90 by decide);refine⟨by show 1<=sizeLine;lia,λl nl=>⟨_,Z,_,_,Z,_,_,Z,Z,by show(0:Int) <90;decide,_,_,Z,Z,l,_,_,Z,Z,az,by lia,by lia,?_,λp np=>?_⟩⟩
  ·show 1 * (301+bD c 4 % 90).toNat<=sizeLine
   lia
  ·refine k _ _ _ (t1.trans ((aB nl).trans (aB np))) λpp xx hp=>(.lst p _ (dH az (nin (t1.trans (aB nl)) np hp)) λh=>?_);rw [List.flatten_replicate_singleton,List.length_replicate] at h
   lia
 refine⟨_,rfl,_,_,rfl,_,rfl,_,ws.length,rfl,.inl ⟨_,bT.of eR,by rw [lM]⟩,_,_,rfl,rfl,_,_,rfl,rfl,by show(0:Int) <(ws.length:Int)+1;lia,?_⟩;refine⟨_,_,Z,Z,⟨by decide,by decide,by decide⟩,_,Z,_,_,Z,_,_,Z,Z,?_⟩;refine⟨_,Z,_,Z,_,Z,R,_,Z,bT.of eR,λp1 n1=>?_⟩;have t2:=aB (o:=.lst (qd (ws.map V.int) none (some (bD c 5 % ((ws.length:Int)+1))))) n1;have f1:upd H1 p1 (.lst (qd (ws.map V.int) none (some (bD c 5 % ((ws.length:Int)+1))))) p1=some (.lst (qd (ws.map V.int) none (some (bD c 5 % ((ws.length:Int)+1))))):=az;have l1:=uo (ws.map V.int) none (some (bD c 5 % ((ws.length:Int)+1)));have l2:=uo (ws.map V.int) (some (bD c 5 % ((ws.length:Int)+1))) none;rw [lM] at l1 l2;have q1:∀v∈qd (ws.map V.int) none (some (bD c 5 % ((ws.length:Int)+1))),∃i,v=V.int i:=λv hv=>NZ hv;have q2:∀v∈qd (ws.map V.int) (some (bD c 5 % ((ws.length:Int)+1))) none,∃i,v=V.int i:=λv hv=>NZ hv;generalize bD c 5 % ((ws.length:Int)+1)=at' at t2 f1 l1 l2 q1 q2 ⊢;generalize qd (ws.map V.int) none (some at')=x1 at t2 f1 l1 q1 ⊢;generalize upd H1 p1 (.lst x1)=H2 at t2 f1 ⊢;generalize (10:Int) ^ (9:Int).toNat+bD c 6=gr;refine⟨_,Z,_,Z,_,Z,_,_,Z,Z,by show 1<=sizeLine;lia,λp2 n2=>?_⟩;have t3:=aB (o:=.lst [V.int 3]) n2;have f2:upd H2 p2 (.lst [V.int 3]) p2=some (.lst [V.int 3]):=az;generalize upd H2 p2 (.lst [V.int 3])=H3 at t3 f2 ⊢;refine⟨by show 7<=sizeLine;lia,λp3 n3=>?_⟩;have t4:=aB (o:=.lst [V.int (-1),.int gr,.int (0 - gr),.bl true,.non,.str "7",.ref p2]) n3;have f3:upd H3 p3 (.lst [V.int (-1),.int gr,.int (0 - gr),.bl true,.non,.str "7",.ref p2]) p3=some (.lst [V.int (-1),.int gr,.int (0 - gr),.bl true,.non,.str "7",.ref p2]):=az;generalize upd H3 p3 (.lst [V.int (-1),.int gr,.int (0 - gr),.bl true,.non,.str "7",.ref p2])=H4 at t4 f3 ⊢;have m0:=emod_nonneg (bD c 4) (show(7:Int)≠0 by decide);have m1:=emod_lt_of_pos (bD c 4) (show(0:Int) <7 by decide);obtain⟨i,hi,hi7⟩:∃i:Nat,bD c 4 % 7=(i:Int)/\i <7:=⟨(bD c 4 % 7).toNat,by lia,by lia⟩;obtain⟨v,hv⟩:∃v,[V.int (-1),.int gr,.int (0 - gr),.bl true,.non,.str "7",.ref p2][i]?=some v:=⟨_,getElem?_eq_getElem hi7⟩;have pn:∀{pp:Addr} {xx:List V} {b:Addr},H' pp=some (.lst xx)->v=.ref b->b∉[pp]:=λ{pp xx b} hp e=>by have hm:=mem_of_getElem? hv;rw [e] at hm;simp only [mem_cons,not_mem_nil,or_false,reduceCtorEq,false_or,V.ref.injEq] at hm;rw [hm];exact nin (t1.trans t2) n2 hp
 have pv:Yw H4 v:=by
  have hm:=mem_of_getElem? hv;simp only [mem_cons,not_mem_nil,or_false] at hm;rcases hm with rfl | rfl | rfl | rfl | rfl | rfl | rfl
  ·exact .inl Z
  ·exact .inl Z
  ·exact .inl Z
  ·exact .inl Z
  ·exact .inl Z
  ·exact .inl Z
  ·exact .inr ⟨p2,_,Z,t4 _ _ f2⟩
 refine⟨_,Z,_,_,Z,_,_,Z,Z,by show(0:Int) <7;decide,p3,_,_,v,Z,Z,bT.of f3,(by rw [hi];exact aJ hv),by show 1<=sizeLine;lia,λp4 n4=>?_⟩;have t5:=aB (o:=.lst [v]) n4;have f4:upd H4 p4 (.lst [v]) p4=some (.lst [v]):=az;have pv5:=pv.same t5;generalize upd H4 p4 (.lst [v])=H5 at t5 f4 pv5 ⊢;refine⟨p1,p4,_,_,Z,Z,t5 _ _ (t4 _ _ (t3 _ _ f1)),f4,by show x1.length+1<=sizeLine;lia,λp5 n5=>?_⟩;have t6:=aB (o:=.lst (x1 ++ [v])) n5;have f5:upd H5 p5 (.lst (x1 ++ [v])) p5=some (.lst (x1 ++ [v])):=az;generalize upd H5 p5 (.lst (x1 ++ [v]))=H6 at t6 f5 ⊢;have s16:=t2.trans (t3.trans (t4.trans (t5.trans t6)));refine⟨_,Z,_,Z,_,Z,R,_,Z,bT.of (s16 _ _ eR),λp6 n6=>?_⟩;have t7:=aB (o:=.lst (qd (ws.map V.int) (some at') none)) n6;have f6:upd H6 p6 (.lst (qd (ws.map V.int) (some at') none)) p6=some (.lst (qd (ws.map V.int) (some at') none)):=az;generalize qd (ws.map V.int) (some at') none=x2 at t7 f6 l2 q2 ⊢;generalize upd H6 p6 (.lst x2)=H7 at t7 f6 ⊢;refine⟨p5,p6,_,_,Z,Z,t7 _ _ f5,f6,by rw [lP];show x1.length+1+x2.length<=sizeLine;lia,λp7 n7=>?_⟩;have t8:=aB (o:=.lst (x1 ++ [v] ++ x2)) n7;refine k _ _ _ (t1.trans (s16.trans (t7.trans t8))) λpp xx hp=>(.lst p7 _ (dH az (nin (t1.trans (s16.trans t7)) n7 hp)) λ_ y hy=>?_);rcases mem_append.mp hy with hy | hy
 ·rcases mem_append.mp hy with hy | hy
  ·obtain⟨j,rfl⟩:=q1 y hy;exact .inl Z
  ·rw [mem_singleton] at hy;rw [hy];rcases pv with pv | ⟨a2,xs2,rfl,h2⟩
   ·exact .inl pv
   ·exact .inr ⟨a2,xs2,Z,dH (t8 _ _ (t7 _ _ (t6 _ _ (t5 _ _ h2)))) (pn hp Z)⟩
 ·obtain⟨j,rfl⟩:=q2 y hy;exact .inl Z
inductive qj (K:Fr) (vs:List V) (H:Hp) (Q:VK) (E:XK):Prop where
 | mk:∀(L P:Addr) (ls:List aK) (ps:List PD) (c:Int),vs=[.ref L,.ref P,.int c]->Fq H L P ls ps->yf ls ps->(∀H' x,aO H H'->keyOk x->Q (kO x) H')->qj K vs H Q E
noncomputable abbrev gH:List Str:=["_law_lanes", "_law_parts", "_law_cell_here", "_law_some", "_law_gives"]
theorem yE (T:Txt w K mg t):FO P w K mg base 2 t.rK ["_law_lanes", "_law_parts", "_law_cell_here"] (qj K):=by
 have sc:=T.lN.sc gH;refine T.lN.F.ok sc ln (λ_ _ _ _ H vs Q E hr h=>?_);obtain⟨L,P,ls,ps,c,rfl,A1,F,k⟩:=h;refine⟨_,(au (sN sc 3 (aX CV (aX CV (gP [] gH (bh (top 78)) Z (cX (pv 1)) (λ_ _ _ _ _=>(CP (bf JM (aU (mq (K:=K) Z) (pv 0) aq (λ_ _=>Z)) bA (bH _)))) (λ_ _ _ _ _=>(aU (mq (K:=K) Z) (pv 0) aq (λ_ _=>Z)))) (gP [] gH (bh (top 78)) Z (cX (pv 0)) (λ_ _ _ _ _=>jw) (λ_ _ _ _ _=>(aU (mq (K:=K) Z) (pv 0) aq (λ_ _=>Z))))) (bj (aa bA (aa bA (aa nZ (aa aq ao ak) ak) ak) ak))))
  (au (sN sc 4 (gP [] gH (bh (top 78)) rfl (cX (pv 1)) (λ_ _ _ _ _=>(CP (bf fO (aU (mq (K:=K) rfl) (pv 0) aq (λ_ _=>rfl)) bA (bH _)))) (λ_ _ _ _ _=>(aU (mq (K:=K) rfl) (pv 0) aq (λ_ _=>rfl)))))
  (au (m9 (i:=3) [4] gH (bh (top 78)) rfl sc.nd rfl (cX (pv 3)) (λ_ _ _ _ _=>(CP (bf (En (K:=K) rfl) (pv 0) (pv 1) (by with_unfolding_all rfl)))) (λ_ _ _ _ _=>(pv 0)))
  (aA (aQ (aU aR (pv 3) (aX bR (dB (aM T) T.aN hr (aa (pv 2) (aa aq ao ak) aj)) (aY bN (by rfl) T.eE cL (aa (pv 3) ao aj))) (λ_ _=>rfl))))))),?_⟩
 have hz:sizeLine=16777216:=sizeLine_eq;have p16:=F.p16;have l24:=F.l24;obtain⟨⟨xs,eL,aL⟩,⟨ys,eP,aP⟩⟩:=id A1;have yl:=aP.length;refine⟨_,Z,P,Z,⟨_,bT.of eP⟩,jC (K:=K) (a:=P) (xs:=ys) (λj zs H'=>H'=H/\zs.length<=j/\∀v∈zs,NmK v) (by lia) ⟨Z,le_refl _,by simp⟩ (λj zs H' h=>h.2.1) (λj zs H' _ h=>by rw [h.1];exact bT.of eP) ?_ ?_⟩
 ·rintro j x zs H1 hx ⟨rfl,lz,hn⟩;obtain⟨p,hpj,q,a1,a2,a3,rfl,hq,_⟩:=aP.get hx;refine⟨_,Z,q,_,0,_,Z,Z,fZ.of hq,aJ (j:=0) Z,Z,_,Z,iD (λ_=>?_) (λ_=>⟨Z,Nat.le_succ_of_le lz,hn⟩)⟩;refine⟨_,Z,q,_,1,_,Z,Z,fZ.of hq,aJ (j:=1) Z,Z,by rw [lP,length_singleton];exact succ_le_succ lz,λv hv=>?_⟩;rcases mem_append.mp hv with h | h
  ·exact hn v h
  ·rw [mem_singleton] at h;rw [h];exact⟨some (Sum.inr p.name),rfl,λx e=>by cases e;exact GC (F.pnm p (mem_of_getElem? hpj))⟩
 rintro z1 H1 ⟨rfl,lz,hn1⟩ T1 n1;have t1:=aB (o:=.lst z1) n1;have e1:upd H1 T1 (.lst z1) T1=some (.lst z1):=az;generalize upd H1 T1 (.lst z1)=G1 at t1 e1 ⊢;refine⟨_,Z,L,Z,⟨_,bT.of (t1 _ _ eL)⟩,Rp (t1 _ _ eL) (aL.imp λ_ _ h=>h.same t1) l24 λT2 n2=>?_⟩;have t2:=aB (o:=.lst (ls.map λl=>V.str l.name)) n2;have e2:upd G1 T2 (.lst (ls.map λl=>V.str l.name)) T2=some (.lst (ls.map λl=>V.str l.name)):=az;generalize upd G1 T2 (.lst (ls.map λl=>V.str l.name))=G2 at t2 e2 ⊢;refine⟨T1,T2,_,_,Z,Z,t2 _ _ e1,e2,by rw [lM];lia,λT3 n3=>?_⟩;have t3:=aB (o:=.lst (z1 ++ ls.map λl=>V.str l.name)) n3;have e3:upd G2 T3 (.lst (z1 ++ ls.map λl=>V.str l.name)) T3=some (.lst (z1 ++ ls.map λl=>V.str l.name)):=az;generalize upd G2 T3 (.lst (z1 ++ ls.map λl=>V.str l.name))=G3 at t3 e3 ⊢;refine⟨by show 4<=sizeLine;lia,λT4 n4=>?_⟩;have t4:=aB (o:=.lst [V.str "a1b2c3d4e5",.str "",.non,.int 7]) n4;have e4:upd G3 T4 (.lst [V.str "a1b2c3d4e5",.str "",.non,.int 7]) T4=some (.lst [V.str "a1b2c3d4e5",.str "",.non,.int 7]):=az;generalize upd G3 T4 (.lst [V.str "a1b2c3d4e5",.str "",.non,.int 7])=G4 at t4 e4 ⊢;refine⟨T3,T4,_,_,Z,Z,t4 _ _ e3,e4,by rw [lP,lM];show z1.length+ls.length+4<=sizeLine;lia,λT5 n5=>?_⟩;obtain⟨sm,hsm⟩:∃sm:List V,sm=(z1 ++ ls.map λl=>V.str l.name) ++ [V.str "a1b2c3d4e5",.str "",.non,.int 7]:=⟨_,rfl⟩;have sml:sm.length<=100:=by rw [hsm,lP,lP,lM];show z1.length+ls.length+4<=100;lia
 have snon:V.non∈sm:=by rw [hsm];exact mem_append.mpr (.inr (by simp))
 have sok:∀x∈sm,NmK x:=λx hx=>by
  rw [hsm] at hx;rcases mem_append.mp hx with hx | hx
  ·rcases mem_append.mp hx with hx | hx
   ·exact hn1 x hx
   ·obtain⟨l,hl,rfl⟩:=mem_map.mp hx;exact⟨some (Sum.inr l.name),rfl,λx e=>by cases e;exact GC (F.lnm l hl)⟩
  ·simp only [mem_cons,not_mem_nil,or_false] at hx;rcases hx with rfl | rfl | rfl | rfl
   ·exact⟨some (Sum.inr "a1b2c3d4e5"),rfl,λx e=>by cases e;decide +kernel⟩
   ·exact⟨some (Sum.inr ""),rfl,λx e=>by cases e;decide +kernel⟩
   ·exact⟨none,rfl,λx e=>by cases e⟩
   ·exact⟨some (Sum.inl 7),rfl,λx e=>by cases e⟩
 rw [<-hsm];have t5:=aB (o:=.lst sm) n5;have e5:upd G4 T5 (.lst sm) T5=some (.lst sm):=az;generalize upd G4 T5 (.lst sm)=G5 at t5 e5 ⊢;have s5:=t1.trans (t2.trans (t3.trans (t4.trans t5)));clear hsm t1 t2 t3 t4 t5 n1 n2 n3 n4 n5 e1 e2 e3 e4;refine⟨_,Z,P,Z,⟨_,bT.of (s5 _ _ eP)⟩,Jl (s5 _ _ eP) (aP.imp λ_ _ h=>h.same s5) p16 λG nG=>?_⟩;have t6:=aB (o:=.lst (eN ps "give")) nG;have eG:upd G5 G (.lst (eN ps "give")) G=some (.lst (eN ps "give")):=az;generalize upd G5 G (.lst (eN ps "give"))=G6 at t6 eG ⊢;have e56:=t6 _ _ e5;have fl:(eN ps "give").all mU=true:=by rw [all_eq_true];intro v hv;obtain⟨p,_,rfl⟩:=mem_map.mp hv;rfl
 refine⟨_,Z,T5,Z,⟨_,bT.of e56⟩,jC (K:=K) (a:=T5) (xs:=sm) (λj zs H'=>H'=G6/\zs=(sm.take j).filter λv=>!inV v (eN ps "give")) (by lia) ⟨Z,Z⟩ (λj zs H' h=>by rw [h.2];exact le_trans (length_filter_le _ _) (by rw [length_take];lia)) (λj zs H' _ h=>by rw [h.1];exact bT.of e56) ?_ ?_⟩
 ·rintro j x zs H2 hx ⟨rfl,rfl⟩;obtain⟨kx,rfl,hk⟩:=sok x (mem_of_getElem? hx);refine⟨_,rfl,_,rfl,G,_,rfl,.inl (bT.of eG),(by rcases kx with _ | (_ | _) <;> rfl),fl,_,rfl,?_⟩;show if (!inV (kO kx) (eN ps "give"))=true then _ else _;rw [take_succ,hx,toList_some,List.filter_append];cases hb:inV (kO kx) (eN ps "give") with
  | true=>exact cQ ⟨rfl,by rw [List.filter_cons_of_neg (by rw [hb];simp)];simp⟩
  | false=>exact fc ⟨_,rfl,rfl,by rw [List.filter_cons_of_pos (by rw [hb];rfl)];rfl⟩
 rintro zs H2 ⟨rfl,rfl⟩ T7 n7;rw [take_length];obtain⟨fs,hfs⟩:∃fs,fs=sm.filter λv=>!inV v (eN ps "give"):=⟨_,rfl⟩;have fnon:V.non∈fs:=by
  rw [hfs];refine mem_filter.mpr ⟨snon,?_⟩;rw [show inV .non (eN ps "give")=false by rw [Bool.eq_false_iff];intro z;obtain⟨v,hv,e⟩:=any_eq_true.mp z;obtain⟨p,_,rfl⟩:=mem_map.mp hv;simp [KY] at e]
  rfl
 have fl0:=List.length_pos_of_mem fnon;have fok:∀x∈fs,NmK x:=λx hx=>by rw [hfs] at hx;exact sok x (mem_filter.mp hx).1
 rw [<-hfs];have m0:=emod_nonneg (bD c 8) (show(fs.length:Int)≠0 by lia);have m1:=emod_lt_of_pos (bD c 8) (show(0:Int) <fs.length by lia);obtain⟨i,hi,hil⟩:∃i:Nat,bD c 8 % (fs.length:Int)=(i:Int)/\i <fs.length:=⟨(bD c 8 % (fs.length:Int)).toNat,by lia,by lia⟩;obtain⟨x,hx⟩:∃x,fs[i]?=some x:=⟨_,getElem?_eq_getElem hil⟩;obtain⟨kx,rfl,hk⟩:=fok x (mem_of_getElem? hx);refine⟨_,Z,_,Z,_,_,Z,_,Z,_,fs.length,Z,.inl ⟨_,bT.of az,Z⟩,_,_,Z,Z,by show(0:Int) <(fs.length:Int);lia,T7,_,_,kO kx,Z,Z,bT.of az,(by rw [hi];exact aJ hx),?_⟩;exact k _ kx (s5.trans (t6.trans (aB n7))) hk
theorem U5 {n j:Nat} (h:j <n):Va n (j:Int)=some j:=by unfold Va;rw [if_pos (by lia),if_pos (by lia),toNat_natCast]
structure Hv (K:Fr) (H:Hp) (p:Addr) (us:List Addr) (prs:List (Option Key×V)):Prop where
 lst:H p=some (.lst (us.map V.ref))
 tup:fD (bL [p] H) us (prs.map λq=>[kO q.1,q.2])
 ok:∀q∈prs,keyOk q.1/\∃b,lH K (bL [p] H) q.2 b
theorem Hv.same {H H':Hp} {p:Addr} {us:List Addr} {prs:List (Option Key×V)} (h:Hv K H p us prs) (s:aO H H'):Hv K H' p us prs:=
 ⟨s _ _ h.lst,fD.same (iR s) h.tup,λq hq=>⟨(h.ok q hq).1,(h.ok q hq).2.imp λ_ z=>z.same (iR s)⟩⟩
theorem Hv.len {H:Hp} {p:Addr} {us:List Addr} {prs:List (Option Key×V)} (h:Hv K H p us prs):us.length=prs.length:=by have:=Paired.length h.tup;rwa [lM] at this
theorem Kc {C:Hp} {T:Addr} {y:List V} (hT:C T=some (.tup y)):∀(i:Nat) {us:List Addr} {xs:List (List V)},fD C us xs->fD C (us.take i ++ T:: us.drop i) (xs.take i ++ y:: xs.drop i)
 | 0,_,_,h=>.cons hT h
 | i+1,_,_,.nil=>.cons hT .nil
 | i+1,_,_,.cons h t=>.cons h (Kc hT i t)
theorem Jx {C:Hp} {T:Addr} {y:List V} (hT:C T=some (.tup y)):∀(i:Nat) {us:List Addr} {xs:List (List V)},fD C us xs->fD C (us.set i T) (xs.set i y)
 | _,_,_,.nil=>.nil
 | 0,_,_,.cons _ t=>.cons hT t
 | i+1,_,_,.cons h t=>.cons h (Jx hT i t)
theorem Hv.ins {H:Hp} {p T:Addr} {us:List Addr} {prs:List (Option Key×V)} {k:Option Key} {v:V} {b:Bool} (h:Hv K H p us prs) (i:Nat) (hT:bL [p] H T=some (.tup [kO k,v])) (hk:keyOk k) (hv:lH K (bL [p] H) v b):Hv K (upd H p (.lst ((us.map V.ref).take i ++ V.ref T:: (us.map V.ref).drop i))) p (us.take i ++ T:: us.drop i) (prs.take i ++ (k,v):: prs.drop i):=by
 refine⟨by rw [az,map_append,map_cons,List.map_take,List.map_drop],?_,λq hq=>?_⟩
 ·rw [cM (.head _),map_append,map_cons,List.map_take,List.map_drop];exact Kc hT i h.tup
 ·rw [cM (.head _)];rcases mem_append.mp hq with hq | hq
  ·exact h.ok q (List.mem_of_mem_take hq)
  ·rcases mem_cons.mp hq with rfl | hq
   ·exact⟨hk,b,hv⟩
   ·exact h.ok q (List.mem_of_mem_drop hq)
theorem Hv.app {H:Hp} {p T:Addr} {us:List Addr} {prs:List (Option Key×V)} {k:Option Key} {v:V} {b:Bool} (h:Hv K H p us prs) (hT:bL [p] H T=some (.tup [kO k,v])) (hk:keyOk k) (hv:lH K (bL [p] H) v b):Hv K (upd H p (.lst (us.map V.ref ++ [V.ref T]))) p (us ++ [T]) (prs ++ [(k,v)]):=by
 refine⟨by rw [az,map_append];rfl,?_,λq hq=>?_⟩
 ·rw [cM (.head _),map_append];exact fD.append h.tup (.cons hT .nil)
 ·rw [cM (.head _)];rcases mem_append.mp hq with hq | hq
  ·exact h.ok q hq
  ·rw [mem_singleton] at hq;subst hq;exact⟨hk,b,hv⟩
theorem Hv.set {H:Hp} {p T:Addr} {us:List Addr} {prs:List (Option Key×V)} {k:Option Key} {v:V} {b:Bool} (h:Hv K H p us prs) (i:Nat) (hT:bL [p] H T=some (.tup [kO k,v])) (hk:keyOk k) (hv:lH K (bL [p] H) v b):Hv K (upd H p (.lst ((us.map V.ref).set i (V.ref T)))) p (us.set i T) (prs.set i (k,v)):=by
 refine⟨by rw [az,List.map_set],?_,λq hq=>?_⟩
 ·rw [cM (.head _),List.map_set];exact Jx hT i h.tup
 ·rw [cM (.head _)];rcases List.mem_or_eq_of_mem_set hq with hq | rfl
  ·exact h.ok q hq
  ·exact⟨hk,b,hv⟩
theorem WD {H:Hp}:∀{kvs:List (Option Key×V)},(∀q∈kvs,keyOk q.1/\∃b,lH K H q.2 b)->∃RB,gK RB=kvs/\(∀q∈RB,lH K H q.2.1 q.2.2)/\∀q∈RB,keyOk q.1
 | [],_=>⟨[],rfl,by simp,by simp⟩
 | q:: kvs,h=>by
  obtain⟨RB,e,h1,h2⟩:=WD (kvs:=kvs) λq hq=>h q (.tail _ hq);obtain⟨hk,b,hb⟩:=h q (.head _);refine⟨(q.1,q.2,b):: RB,by show(q.1,q.2):: gK RB=_;rw [e],λp hp=>?_,λp hp=>?_⟩
  ·rcases mem_cons.mp hp with rfl | hp
   ·exact hb
   ·exact h1 p hp
  ·rcases mem_cons.mp hp with rfl | hp
   ·exact hk
   ·exact h2 p hp
inductive vo (K:Fr) (Pg:Program) (w:World) (vs:List V) (H:Hp) (Q:VK) (E:XK):Prop where
 | mk:∀(a L P:Addr) (ns:List Int) (ls:List aK) (ps:List PD),vs=[.ref a,.ref L,.ref P]->bT K H a (ns.map V.int)->Fq H L P ls ps->yf ls ps->(∀H' d RB,aO H H'->qt K Pg w H' d RB->(∀q∈RB,keyOk q.1)->Q (.ref d) H')->vo K Pg w vs H Q E
noncomputable abbrev xn:List Str:=["_law_script", "_law_lanes", "_law_parts", "_law_cells", "_law_pairs", "_law_part_here", "_law_many", "_law_cell_here", "_law_at", "_law_way"]
theorem DY (T:Txt w K mg t):FO P w K mg base 4 t.wH ["_law_script", "_law_lanes", "_law_parts"] (vo K P w):=by
 have sc:=T.qT.sc xn;refine T.qT.F.ok sc ln (λ_ _ _ _ H vs Q E hr h=>?_);obtain⟨a,L,Pp,ns,ls,ps,rfl,hS,A1,F,k⟩:=h;refine⟨_,(au (sN sc 3 (bj (aa (dB (je T) T.f9 hr (aa (pv 0) (aa aq ao ak) aj)) (aa (dB (je T) T.f9 hr (aa (pv 0) (aa aq ao ak) aj)) ao bc) bc)))
  (au (sN sc 4 (bj ao))
  (au (fj PassesOwn.never rfl (cX (pv 2)) (gN sc 5)
   (aA (eO (bQ (PW.pt (uc (bf fO (aU dI (pv 5) aq (λ_ _=>rfl)) bA (bH _)) (qR (bf Ca (aX bR (dB (aM T) T.aN hr (aa (aU aR (pv 3) aq (λ_ _=>rfl)) (aa (aX dG aq (aY bN (by rfl) T.eE cL (aa (pv 4) ao aj))) ao bO) aC)) aq) aq (bH _)))))
    (au (sN sc 6 (aU aR (bj (aa (aX bR (dB (aM T) T.aN hr (aa (aU aR (pv 3) aq (λ_ _=>rfl)) (aa (aY bN (by rfl) T.eE cL (aa (pv 4) ao aj)) ao bc) aC)) aq) (aa aq ao ak) bO)) (dM PN (by rfl) T.S5 Mp (aa (qH fO (aX bR (dB (aM T) T.aN hr (aa (aU aR (pv 3) aq (λ_ _=>rfl)) (aa (aX dG aq (aY bN (by rfl) T.eE cL (aa (pv 4) ao aj))) ao bO) aC)) aq) aq (bH _)) ao yq)) (λ_ _=>rfl)))
    (aA (bK (Jv (pv 4) (aa (bV (aa (aU dI (pv 5) aq (λ_ _=>rfl)) (aa (gP [3] xn (bh (top 79)) rfl (jB rfl T.lX (aa (pv 6) ao aj)) (λ_ _ _ _ _=>jw) (λ_ _ _ _ _=>(dB (gU T) T.fJ hr (aa (aU (Jh (K:=K) rfl) (pv 1) aq (λ_ _=>rfl)) (aa (pv 0) ao aj) aC)))) ao fL) aC)) ao b7)))))
    bw))))
  (au (fj PassesOwn.never rfl (cX (pv 3)) (gN sc 7)
   (au (sN sc 8 (aX bR (dB (aM T) T.aN hr (aa (pv 7) (aa aq ao ak) aj)) (aX dG (aY bN (by rfl) T.eE cL (aa (pv 4) ao aj)) aq)))
   (au (sN sc 9 (aX bR (dB (aM T) T.aN hr (aa (pv 7) (aa aq ao ak) aj)) aq))
   (aA (eO (bQ (bf fO (pv 9) aq (bH _))
    (aA (bK (z7 PySem.F.plainAttrs_list PySem.F.slot_list_insert PySem.F.type_list_insert Pr (pv 4) (aa (pv 8) (aa (bV (aa (dB (yE T) T.lN hr (aa (pv 1) (aa (pv 2) (aa (pv 7) ao aj) aj) aj)) (aa (aU aR (bj (aa (bj (aa aq ao ak)) (aa nZ ao ak) aV)) (aX bR (dB (aM T) T.aN hr (aa (pv 7) (aa aq ao ak) aj)) aq) (λ_ _=>rfl)) ao aC) bc)) ao b7) aj))))
    (aA (eO (bQ (PW.pt (uc (bf fO (pv 9) aq (bH _)) (qR (bf rM (pv 8) (aY bN (by rfl) T.eE cL (aa (pv 4) ao aj)) (bH _)))))
     (aA (RC (bV (aa (aU dI (aU aR (pv 4) (pv 8) (λ_ _=>rfl)) aq (λ_ _=>rfl)) (aa (dB (Ag T) T.n8 hr (aa (pv 7) ao aj)) ao bc) aC)) (Xb (pv 4) (pv 8) set_list)))
     bw)))))))))
  (aA (aQ (dM (zp rfl) (by rfl) T.Rr Ng (aa (pv 4) ao aj)))))))),?_⟩
 have hz:sizeLine=16777216:=sizeLine_eq;have p16:=F.p16;refine⟨_,Z,a,ns,6,Z,hS,_,Z,a,ns,7,Z,hS,by show 2<=sizeLine;lia,λCl nCl=>?_⟩;generalize jU ns 6=c6;generalize jU ns 7=c7;have t1:=aB (o:=.lst [V.int c6,.int c7]) nCl;have eC:upd H Cl (.lst [V.int c6,.int c7]) Cl=some (.lst [V.int c6,.int c7]):=az;generalize upd H Cl (.lst [V.int c6,.int c7])=H1 at t1 eC ⊢;refine⟨by show 0<=sizeLine;lia,λp np=>?_⟩;have t2:=aB (o:=.lst []) np;have ep:upd H1 p (.lst []) p=some (.lst []):=az;generalize upd H1 p (.lst [])=H2 at t2 ep ⊢;have s12:aO H1 (bL [p] H2):=λb o e=>dH (t2 _ _ e) (by rw [mem_singleton];exact aF e np);have s2:=t1.trans s12;have eC2:=s12 _ _ eC;have A2:=A1.same s2;obtain⟨C,hC⟩:∃C,C=bL [p] H2:=⟨_,rfl⟩;rw [<-hC] at s2 eC2 A2;obtain⟨_,⟨ys,eP,aP⟩⟩:=id A2;have yl:=aP.length;have ep2:H2 Pp=some (.lst ys):=cY _ _ (by rw [<-hC];exact eP);have P0:Hv K H2 p [] []:=⟨ep,.nil,by simp⟩;refine⟨_,Z,Pp,Z,⟨_,bT.of ep2⟩,fK (K:=K) (a:=Pp) (xs:=ys) (λj σ H'=>(∃v5 v6,σ=[some (.ref a),some (.ref L),some (.ref Pp),some (.ref Cl),some (.ref p),v5,v6,none,none,none])/\aO C (bL [p] H')/\∃us prs,Hv K H' p us prs/\prs.length<=j) ⟨⟨none,none,Z⟩,by rw [hC];exact aO.refl _,[],[],P0,le_refl _⟩ (λj σ H' _ ⟨_,s,_⟩=>bT.of (cY _ _ (s _ _ eP))) ?_ ?_⟩
 ·rintro j x σ H3 hx ⟨⟨v5,v6,rfl⟩,s3,us,prs,R,lp⟩;have hj:j <ys.length:=(List.getElem?_eq_some_iff.mp hx).1;obtain⟨pt,hpj,q,a1,a2,a3,rfl,hq,_⟩:=aP.get hx;have hq3:=cY _ _ (s3 _ _ hq);have eC3:=cY _ _ (s3 _ _ eC2);have ul:=R.len;have ul2:us.length<=16:=by lia
  have no:∀{v6'},(∃v5 v6,[some (V.ref a),some (.ref L),some (.ref Pp),some (.ref Cl),some (.ref p),some (.ref q),v6',none,none,none]=[some (V.ref a),some (.ref L),some (.ref Pp),some (.ref Cl),some (.ref p),v5,v6,none,none,none])/\aO C (bL [p] H3)/\∃us prs,Hv K H3 p us prs/\prs.length<=j+1:=λ{v6'}=>⟨⟨_,_,rfl⟩,s3,us,prs,R,Nat.le_succ_of_le lp⟩;refine⟨_,?_,λ_ _ h=>h⟩;refine⟨_,Z,q,_,0,_,Z,Z,fZ.of hq3,aJ (j:=0) Z,Z,_,Z,iD (λ_=>?_) (λ_=>cQ no)⟩;refine⟨_,rfl,Cl,_,0,_,rfl,rfl,bT.of eC3,aJ (j:=0) rfl,_,rfl,_,us.length,rfl,.inl ⟨_,bT.of R.lst,by rw [lM]⟩,_,_,rfl,rfl,_,_,rfl,_,_,rfl,rfl,by show(0:Int) <4;decide,_,_,rfl,rfl,_,rfl,iD (λ_=>?_) (λ_=>no)⟩;refine⟨_,rfl,Cl,_,1,_,rfl,rfl,bT.of eC3,aJ (j:=1) rfl,_,rfl,_,us.length,rfl,.inl ⟨_,bT.of R.lst,by rw [lM]⟩,_,_,rfl,_,_,rfl,rfl,by show(0:Int) <7;decide,by show 2<=sizeLine;lia,λl nl=>?_⟩;have x0:=emod_nonneg (bD c7 us.length) (show(7:Int)≠0 by decide);have x1:=emod_lt_of_pos (bD c7 us.length) (show(0:Int) <7 by decide);generalize bD c7 us.length % 7=x7 at x0 x1 ⊢;have t4:=aB (o:=.lst [V.int x7,.int 300]) nl;have el:upd H3 l (.lst [V.int x7,.int 300]) l=some (.lst [V.int x7,.int 300]):=az;generalize upd H3 l (.lst [V.int x7,.int 300])=H4 at t4 el ⊢;have R4:=R.same t4;have eC4:=t4 _ _ eC3;have hq4:=t4 _ _ hq3;have sC4:=s3.trans (iR t4);have pick:∀b:Bool,∃m:Nat,IW [V.int x7,.int 300] (if b=true then 1 else 0)=some (.int (m:Nat))/\m<=300:=λb=>by
   cases b with
   | true=>exact⟨300,aJ (j:=1) rfl,le_refl _⟩
   | false=>exact⟨x7.toNat,by rw [show((x7.toNat:Nat):Int)=x7 by lia];exact aJ (j:=0) rfl,by lia⟩
  obtain⟨m,hm,hm300⟩:=pick (decide (V.int (bD c7 (20+(us.length:Nat)) % 5)=V.int 0));refine⟨_,rfl,Cl,_,1,_,rfl,rfl,bT.of eC4,aJ (j:=1) rfl,_,rfl,_,us.length,rfl,.inl ⟨_,bT.of R4.lst,by rw [lM]⟩,_,_,rfl,rfl,_,_,rfl,_,_,rfl,rfl,by show(0:Int) <5;decide,rfl,.inr ⟨_,rfl,l,_,_,_,rfl,rfl,bT.of el,hm,?_⟩⟩;refine⟨_,Z,.inl ⟨Z,_,bT.of R4.lst⟩,_,Z,q,_,1,_,Z,Z,fZ.of hq4,aJ (j:=1) Z,_,Z,_,Z,by lia,by lia,?_⟩;refine j6 (λi zs H'=>H'=H4/\zs.length<=i/\∃ws:List Int,zs=ws.map V.int) (by lia) ⟨Z,le_refl _,[],Z⟩ (λi zs H' h=>h.2.1) ?_ ?_
  ·rintro i zs H' hi ⟨rfl,ly,ws,rfl⟩;exact yes ⟨_,rfl,Cl,_,0,_,rfl,rfl,bT.of eC4,aJ (j:=0) rfl,_,rfl,_,_,rfl,rfl,by rw [lP,length_singleton];exact succ_le_succ ly,ws ++ [_],by rw [map_append];rfl⟩
  rintro zs H' ⟨rfl,ly,ws,rfl⟩ W nW;have t5:=aB (o:=.lst (ws.map V.int)) nW;have eW:upd H' W (.lst (ws.map V.int)) W=some (.lst (ws.map V.int)):=az;generalize upd H' W (.lst (ws.map V.int))=H5 at t5 eW ⊢;refine⟨by show 2<=sizeLine;lia,λT nT=>?_⟩;have t6:=aB (o:=.tup [V.str pt.name,.ref W]) nT;have eT:upd H5 T (.tup [V.str pt.name,.ref W]) T=some (.tup [V.str pt.name,.ref W]):=az;generalize upd H5 T (.tup [V.str pt.name,.ref W])=H6 at t6 eT ⊢;have R6:=R4.same (t5.trans t6);have nTp:T∉[p]:=by rw [mem_singleton];exact λz=>by rw [z] at nT;rw [t5 _ _ R4.lst] at nT;cases nT
  have nWp:W∉[p]:=by rw [mem_singleton];exact λz=>by rw [z] at nW;rw [R4.lst] at nW;cases nW
  have rW:lH K (bL [p] H6) (.ref W) _:=.lst W _ (dH (t6 _ _ eW) nWp) λ_ v hv=>by obtain⟨i,_,rfl⟩:=mem_map.mp hv;exact .inl rfl
  have R7:=R6.app (k:=some (Sum.inr pt.name)) (dH eT nTp) (λx e=>by cases e;exact GC (F.pnm pt (mem_of_getElem? hpj))) rW;refine⟨p,_,_,rfl,rfl,R6.lst,by rw [lM];lia,⟨_,_,rfl⟩,?_,_,_,R7,by rw [lP,length_singleton];lia⟩;rw [cM (.head _)];exact sC4.trans (iR (t5.trans t6))
 rintro σ H3 ⟨⟨v5,v6,rfl⟩,s3,us0,prs0,R0,lp0⟩;rw [yl] at lp0;refine⟨_,Z,Cl,Z,⟨_,bT.of (cY _ _ (s3 _ _ eC2))⟩,fK (K:=K) (a:=Cl) (xs:=[V.int c6,.int c7]) (λj σ H'=>(∃v7 v8 v9,σ=[some (.ref a),some (.ref L),some (.ref Pp),some (.ref Cl),some (.ref p),v5,v6,v7,v8,v9])/\aO C (bL [p] H')/\∃us prs,Hv K H' p us prs/\prs.length<=16+j) ⟨⟨none,none,none,Z⟩,s3,us0,prs0,R0,by lia⟩ (λj σ H' _ ⟨_,s,_⟩=>bT.of (cY _ _ (s _ _ eC2))) ?_ ?_⟩
 ·rintro j x σ H4 hx ⟨⟨v7,v8,v9,rfl⟩,s4,us,prs,R,lp⟩;have hj:j <2:=(List.getElem?_eq_some_iff.mp hx).1;obtain⟨c,rfl⟩:∃c,x=V.int c:=by
   have:=mem_of_getElem? hx;simp only [mem_cons,not_mem_nil,or_false] at this;rcases this with h | h
   ·exact⟨_,h⟩
   ·exact⟨_,h⟩
  have ul:=R.len;have A4:=(A2.same s4).same cY;refine⟨_,rfl,_,_,rfl,_,rfl,_,us.length,rfl,.inl ⟨_,bT.of R.lst,by rw [lM]⟩,_,_,rfl,rfl,_,_,rfl,rfl,by show(0:Int) <(us.length:Int)+1;lia,?_⟩;have x0:=emod_nonneg (bD c 9) (show((us.length:Int)+1)≠0 by lia);have x1:=emod_lt_of_pos (bD c 9) (show(0:Int) <(us.length:Int)+1 by lia);obtain⟨i,hi,hil⟩:∃i:Nat,bD c 9 % ((us.length:Int)+1)=(i:Int)/\i<=us.length:=⟨(bD c 9 % ((us.length:Int)+1)).toNat,by lia,by lia⟩;refine⟨_,Z,_,_,Z,_,_,Z,Z,by show(0:Int) <3;decide,?_⟩;dsimp only;rw [hi];refine⟨_,?_,λ_ _ h=>h⟩;refine⟨_,Z,Z,_,Z,iD (λ_=>?_) (λ_=>?_)⟩
  ·refine⟨_,Z,.inl ⟨Z,_,bT.of R.lst⟩,_,Z,_,Z,_,Z,_,Z,L,Pp,ls,ps,c,Z,A4,F,λH5 kx s5 hk=>?_⟩;refine⟨by show 1<=sizeLine;lia,λl1 n1=>?_⟩;have t6:=aB (o:=.lst [V.int 1]) n1;have e1:upd H5 l1 (.lst [V.int 1]) l1=some (.lst [V.int 1]):=az;generalize upd H5 l1 (.lst [V.int 1])=H6 at t6 e1 ⊢;refine⟨by show 2<=sizeLine;lia,λl2 n2=>?_⟩;have t7:=aB (o:=.lst [V.ref l1,.non]) n2;have e2:upd H6 l2 (.lst [V.ref l1,.non]) l2=some (.lst [V.ref l1,.non]):=az;generalize upd H6 l2 (.lst [V.ref l1,.non])=H7 at t7 e2 ⊢;have y0:=emod_nonneg (bD c 11) (show(2:Int)≠0 by decide);have y1:=emod_lt_of_pos (bD c 11) (show(0:Int) <2 by decide);obtain⟨y,hy,hy2⟩:∃y:Nat,bD c 11 % 2=(y:Int)/\y <2:=⟨(bD c 11 % 2).toNat,by lia,by lia⟩;obtain⟨v,hv⟩:∃v,[V.ref l1,.non][y]?=some v:=⟨_,getElem?_eq_getElem hy2⟩;refine⟨_,Z,_,_,Z,_,_,Z,Z,by show(0:Int) <2;decide,l2,_,_,v,Z,Z,bT.of e2,(by rw [hy];exact aJ hv),by show 2<=sizeLine;lia,λT nT=>?_⟩;have t8:=aB (o:=.tup [kO kx,v]) nT;have eT:upd H7 T (.tup [kO kx,v]) T=some (.tup [kO kx,v]):=az;generalize upd H7 T (.tup [kO kx,v])=H8 at t8 eT ⊢;have s48:=s5.trans (t6.trans (t7.trans t8));have R8:=R.same s48;have nTp:T∉[p]:=by rw [mem_singleton];exact λz=>by rw [z] at nT;rw [t7 _ _ (t6 _ _ (s5 _ _ R.lst))] at nT;cases nT
   have n1p:l1∉[p]:=by rw [mem_singleton];exact λz=>by rw [z] at n1;rw [s5 _ _ R.lst] at n1;cases n1
   obtain⟨bv,rv⟩:∃b,lH K (bL [p] H8) v b:=by
    have hm:=mem_of_getElem? hv;simp only [mem_cons,not_mem_nil,or_false] at hm;rcases hm with rfl | rfl
    ·exact⟨_,.lst l1 _ (dH (t8 _ _ (t7 _ _ e1)) n1p) λ_ v hv=>by rw [mem_singleton] at hv;rw [hv];exact .inl rfl⟩
    ·exact⟨_,.non⟩
   have R9:=R8.ins i (dH eT nTp) hk rv;refine⟨p,_,_,i,_,rfl,rfl,rfl,by rw [lM];exact hil,R8.lst,by rw [lM];lia,⟨_,_,_,rfl⟩,?_,_,_,R9,?_⟩
   ·rw [cM (.head _)];exact s4.trans (iR s48)
   ·rw [lP,length_cons,length_take,length_drop]
    lia
  have no:∀{w9},(∃v7 v8 v9,[some (V.ref a),some (.ref L),some (.ref Pp),some (.ref Cl),some (.ref p),v5,v6,some (.int c),some (.int (i:Int)),w9]=[some (V.ref a),some (.ref L),some (.ref Pp),some (.ref Cl),some (.ref p),v5,v6,v7,v8,v9])/\aO C (bL [p] H4)/\∃us prs,Hv K H4 p us prs/\prs.length<=16+(j+1):=λ{w9}=>⟨⟨_,_,_,rfl⟩,s4,us,prs,R,by lia⟩;refine⟨_,?_,λ_ _ h=>h⟩;refine⟨_,Z,Z,_,Z,iD (λ_=>?_) (λ_=>cQ no)⟩;refine⟨_,rfl,_,rfl,_,us.length,rfl,.inl ⟨_,bT.of R.lst,by rw [lM]⟩,_,_,rfl,rfl,_,rfl,iD (λhlt=>?_) (λ_=>no)⟩;have hlt:i <us.length:=by have:=of_decide_eq_true hlt;lia
  obtain⟨qp,hqp⟩:∃qp,prs[i]?=some qp:=⟨_,getElem?_eq_getElem (by lia)⟩;obtain⟨u,hu,eu⟩:=R.tup.get (i:=i) (vs:=[kO qp.1,qp.2]) (by rw [getElem?_map,hqp];rfl);have okq:=R.ok qp (mem_of_getElem? hqp);refine⟨_,rfl,_,rfl,p,_,_,.ref u,rfl,rfl,bT.of R.lst,aJ (by rw [getElem?_map,hu];rfl),u,_,0,_,rfl,rfl,fZ.of (cY _ _ eu),aJ (j:=0) rfl,_,rfl,c,rfl,λH5 v bv s5 rv=>?_⟩;refine⟨by show 2<=sizeLine;lia,λT nT=>?_⟩;have t6:=aB (o:=.tup [kO qp.1,v]) nT;have eT:upd H5 T (.tup [kO qp.1,v]) T=some (.tup [kO qp.1,v]):=az;generalize upd H5 T (.tup [kO qp.1,v])=H6 at t6 eT ⊢;have R6:=R.same (s5.trans t6);have nTp:T∉[p]:=by rw [mem_singleton];exact λz=>by rw [z] at nT;rw [s5 _ _ R.lst] at nT;cases nT
  have R7:=R6.set i (dH eT nTp) okq.1 ((rv p _ R.lst).same (iR t6));refine⟨_,rfl,_,rfl,p,_,_,i,rfl,rfl,R6.lst,U5 (by rw [lM];exact hlt),⟨_,_,_,rfl⟩,?_,_,_,R7,by rw [List.length_set];lia⟩;rw [cM (.head _)];exact s4.trans (iR (s5.trans t6))
 rintro σ H4 ⟨⟨v7,v8,v9,rfl⟩,s4,us,prs,R,lp⟩;have lk:prs.length<=18:=lp;refine⟨_,Z,p,us,prs,Z,bT.of R.lst,fD.same cY R.tup,λd o nd=>?_⟩;have t5:=aB (o:=.frz o (dO P w d (lL [] prs))) nd;obtain⟨RB,e,h1,h2⟩:=WD (K:=K) (H:=upd H4 d (.frz o (dO P w d (lL [] prs)))) (kvs:=lL [] prs) λq hq=>by
  rcases Df hq with hq | hq
  ·cases hq
  ·exact⟨(R.ok q hq).1,(R.ok q hq).2.imp λ_ z=>(z.same cY).same t5⟩
 refine k _ d RB ((s2.trans s4).trans (cY.trans t5)) ⟨⟨o,by rw [e];exact az⟩,h1,?_⟩ h2;rw [<-rJ,e];exact yd prs nodup_nil
inductive tD (K:Fr) (vs:List V) (H:Hp) (Q:VK) (E:XK):Prop where
 | mk:∀(v:V) (b:Bool),vs=[v]->lH K H v b->Q (.bl b) H->tD K vs H Q E
theorem Dc (T:Txt w K mg t):FO P w K mg base 1 t.vL ["_law_row"] (tD K):=by
 have sc:=T.pZ.sc ["_law_row", "_law_value_here"];refine T.pZ.F.ok sc ln (λ_ _ _ _ H vs Q E hr h=>?_);obtain⟨v,b,rfl,hB,k⟩:=h;refine⟨_,(au (bQ (PW.pt (o8 (iM (fU (aY oA (by rfl) T.dY dD (aa (pv 0) (aa (rC (by rfl) T.tX oZ) ao aj) aj)))) (lW (bf Ca (aY bN (by rfl) T.eE cL (aa (pv 0) ao aj)) aq (bH _)))))
   (aA (aQ fB))
   bw)
  (au (fj PassesOwn.never rfl (cX (pv 0)) (gN sc 1)
   (aA (bQ (PW.pt (o8 (iM (fU (aY oA (by rfl) T.dY dD (aa (pv 1) (aa (rC (by rfl) T.S5 Mp) ao aj) aj)))) (o8 (fU (aY oA (by rfl) T.dY dD (aa (pv 1) (aa (rC (by rfl) T.R3 M3) ao aj) aj))) (o8 (bf rM (pv 1) aq (bH _)) (lW (bf YW (pv 1) (aX Iv aq aq) (bH _)))))))
    (aA (aQ fB))
    bw)))
  (aA (aQ fB)))),?_⟩
 have hz:sizeLine=16777216:=sizeLine_eq;cases hB with
 | tup a xs e=>exact⟨_,rfl,_, "tuple",_,_,rfl,.inr (.inl ⟨rfl,_,e⟩),by decide,yO "tuple" (by decide) (by decide),_,rfl,fc k⟩
 | str x=>exact⟨_,rfl,_, "str",_,_,rfl,rfl,by decide,yO "str" (by decide) (by decide),_,rfl,fc k⟩
 | non=>exact⟨_,rfl,_, "NoneType",_,_,rfl,rfl,by decide,yO "NoneType" (by decide) (by decide),_,rfl,fc k⟩
 | int i=>exact⟨_,rfl,_, "int",_,_,rfl,rfl,by decide,yO "int" (by decide) (by decide),_,rfl,fc k⟩
 | dic a kvs e=>exact⟨_,rfl,_, "dict",_,_,rfl,.inr (.inr ⟨rfl,_,e⟩),by decide,yO "dict" (by decide) (by decide),_,rfl,fc k⟩
 | lst a xs e hp=>
  refine⟨_,Z,_, "list",_,_,Z,.inl ⟨Z,_,bT.of e⟩,by decide,Z,_,Z,cQ ?_⟩;refine⟨_,Z,_,xs.length,Z,.inl ⟨_,bT.of e,Z⟩,_,_,Z,Z,_,Z,?_⟩;by_cases hl:xs.length<=300
  case neg=>
   rw [decide_eq_true (show(300:Int) <(xs.length:Int) by lia)];rw [decide_eq_false hl,Bool.false_and] at k;exact fc k
  rw [decide_eq_false (show ¬(300:Int) <(xs.length:Int) by lia)];rw [decide_eq_true hl,Bool.true_and] at k;refine cQ ?_;have bad:∀{j:Nat} {x:V},xs[j]?=some x->Ec x=false->Q (.bl false) H:=λ{j x} hx hv=>by
   have:xs.all Ec=false:=by rw [Bool.eq_false_iff];intro z;have:=all_eq_true.mp z x (mem_of_getElem? hx);rw [hv] at this;cases this
   rw [this] at k;exact k
  refine⟨_,Z,a,Z,⟨_,bT.of e⟩,fK (K:=K) (a:=a) (xs:=xs) (λj σ H'=>H'=H/\(∃v1,σ=[some (.ref a),v1])/\(xs.take j).all Ec=true) ⟨Z,⟨none,Z⟩,Z⟩ (λj σ H' _ ⟨h,_⟩=>by rw [h];exact bT.of e) ?_ ?_⟩
  ·rintro j x σ H' hx ⟨rfl,⟨v1,rfl⟩,hall⟩;rcases hp hl x (mem_of_getElem? hx) with hv | ⟨a2,xs2,rfl,h2⟩
   case inr=>exact⟨_,rfl,_, "list",_,_,rfl,.inl ⟨rfl,_,bT.of h2⟩,by decide,rfl,_,rfl,fc (bad hx rfl)⟩
   cases x with
   | bl b=>
    refine⟨_,Z,_, "bool",_,_,Z,Z,by decide,Z,_,Z,cQ ?_⟩;exact⟨_,Z,_, "bool",_,_,Z,Z,by decide,Z,_,Z,fc (bad hx Z)⟩
   | str b=>exact⟨_,rfl,_, "str",_,_,rfl,rfl,by decide,rfl,_,rfl,fc (bad hx rfl)⟩
   | non=>exact⟨_,rfl,_, "NoneType",_,_,rfl,rfl,by decide,rfl,_,rfl,fc (bad hx rfl)⟩
   | int i=>
    iterate 2 refine⟨_,Z,_, "int",_,_,Z,Z,by decide,Z,_,Z,cQ ?_⟩
    refine⟨_,Z,_,_,Z,Z,_,Z,?_⟩;by_cases h0:i <0
    ·rw [decide_eq_true h0];exact fc (bad hx (by show(decide (0<=i) && decide (i <1000000000))=false;rw [decide_eq_false (by lia)];rfl))
    rw [decide_eq_false h0];refine cQ ⟨_,Z,_,_,Z,Z,⟨by decide,by decide,by decide⟩,_,_,Z,Z,_,Z,?_⟩;rw [e9];by_cases h9:1000000000<=i
    ·rw [decide_eq_true h9];exact fc (bad hx (by show(decide (0<=i) && decide (i <1000000000))=false;rw [decide_eq_false (show ¬i <1000000000 by lia),Bool.and_false]))
    rw [decide_eq_false h9];refine cQ ⟨Z,⟨_,Z⟩,?_⟩;rw [take_succ,hx,toList_some,List.all_append,hall];show(true && (decide (0<=i) && decide (i <1000000000) && true))=true;rw [decide_eq_true (show 0<=i by lia),decide_eq_true (show i <1000000000 by lia)];rfl
   | _=>cases hv
  ·rintro σ H' ⟨rfl,⟨v1,rfl⟩,hall⟩;rw [take_length] at hall;rw [hall] at k;exact k
noncomputable def XN (b:Bool):Str:=if b then "no such" else "bad row"
noncomputable def Ru:Option (Bool×Option Key)->Str×Option Key
 | none=>("good",some (Sum.inr ""))
 | some (b,k)=>(XN b,k)
inductive zM (K:Fr) (Pg:Program) (w:World) (vs:List V) (H:Hp) (Q:VK) (E:XK):Prop where
 | mk:∀(d P:Addr) (ps:List PD) (xs:List V) (RB:List (Option Key×V×Bool)),vs=[.ref d,.ref P]->qt K Pg w H d RB->H P=some (.lst xs)->jx (xU H) xs ps->ps.length<=16->(∀H' u,aO H H'->Dk H' u (Ru (jG ps RB))->Q u H')->zM K Pg w vs H Q E
noncomputable abbrev Do:List Str:=["_law_rows", "_law_parts", "_law_gives", "_law_name"]
theorem Jk (T:Txt w K mg t):FO P w K mg base 2 t.Dv ["_law_rows", "_law_parts"] (zM K P w):=by
 have sc:=T.wC.sc Do;refine T.wC.F.ok sc ln (λ_ _ _ _ H vs Q E hr h=>?_);obtain⟨d,Pp,ps,xs,RB,rfl,hB,eP,aP,p16,k⟩:=h;refine⟨_,(au (m9 (i:=2) [] Do (bh (top 81)) Z sc.nd Z (cX (pv 1)) (λ_ _ _ _ _=>(CP (bf fO (aU (mq (K:=K) Z) (pv 0) aq (λ_ _=>Z)) bA (bH _)))) (λ_ _ _ _ _=>(aU (mq (K:=K) Z) (pv 0) aq (λ_ _=>Z))))
  (au (fj PassesOwn.never rfl (yo (pv 0)) (gN sc 3)
   (aA (bQ (bf jK (pv 3) (pv 2) (by with_unfolding_all rfl))
    (aA (aQ (bV (aa bA (aa (pv 3) (aa fB ao ak) aj) ak))))
    bw)))
  (au (fj PassesOwn.never rfl (yo (pv 0)) (gN sc 3)
   (aA (bQ (iM (fU (dB (Dc T) T.pZ hr (aa (Kq (pv 0) (pv 3) (λ_ _=>rfl)) ao aC))))
    (aA (aQ (bV (aa bA (aa (pv 3) (aa fB ao ak) aj) ak))))
    bw)))
  (aA (aQ (bV (aa bA (aa bA (aa fB ao ak) ak) ak))))))),?_⟩
 have hz:sizeLine=16777216:=sizeLine_eq;refine⟨_,Z,Pp,Z,⟨_,bT.of eP⟩,Jl eP aP p16 λl nl=>?_⟩;have s1:=aB (o:=.lst (eN ps "give")) nl;have el:upd H l (.lst (eN ps "give")) l=some (.lst (eN ps "give")):=az;generalize upd H l (.lst (eN ps "give"))=H1 at s1 el ⊢;have fl:(eN ps "give").all mU=true:=by rw [all_eq_true];intro v hv;obtain⟨p,_,rfl⟩:=mem_map.mp hv;rfl
 have fk:∀x:Option Key,mU (kO x)=true:=λx=>by rcases x with _ | (_ | _) <;> rfl
 have w1:=hB.same s1;have lm:(gK RB).length=RB.length:=by unfold gK;rw [lM]
 refine⟨_,Z,d,_,Z,w1.dict,λo eo=>uR (λj σ H'=>H'=H1/\(RB.take j).find? (Uc ps)=none/\∃v3,σ=[some (.ref d),some (.ref Pp),some (.ref l),v3]) ⟨Z,Z,none,Z⟩ (λj σ H' _ ⟨e,_⟩=>by rw [e];exact eo) ?_ ?_⟩
 ·rintro j kk v σ H' hj ⟨rfl,hf,v3,rfl⟩;unfold gK at hj;rw [getElem?_map] at hj;obtain⟨q,hq,e⟩:=map_eq_some_iff.mp hj;cases e;refine⟨_,Z,_,Z,l,_,Z,.inl (bT.of el),fk _,fl,_,Z,?_⟩;show if (!inV (kO q.1) (eN ps "give"))=true then _ else _;rw [Rx];by_cases hd:kO q.1∈eN ps "give"
  ·rw [decide_eq_true hd];exact cQ ⟨rfl,Ax hf hq (by unfold Uc;rw [decide_eq_true hd];rfl),_,rfl⟩
  ·rw [decide_eq_false hd];have du:jG ps RB=some (true,q.1):=by unfold jG;rw [Ay hf hq (by unfold Uc;rw [decide_eq_false hd];rfl)]
   exact fc ⟨_,rfl,by show 3<=sizeLine;lia,λp np=>k _ _ (s1.trans (aB np)) (by rw [du];exact⟨p,rfl,az⟩)⟩
 rintro σ H' ⟨rfl,hf,v3,rfl⟩;rw [lm,take_length] at hf;refine⟨_,Z,d,_,Z,w1.dict,λo eo=>uR (λj σ H''=>H''=H'/\(RB.take j).find? Ud=none/\∃v3,σ=[some (.ref d),some (.ref Pp),some (.ref l),v3]) ⟨Z,Z,v3,Z⟩ (λj σ H'' _ ⟨e,_⟩=>by rw [e];exact eo) ?_ ?_⟩
 ·rintro j kk v σ H2 hj ⟨rfl,hf2,v3,rfl⟩;unfold gK at hj;rw [getElem?_map] at hj;obtain⟨q,hq,e⟩:=map_eq_some_iff.mp hj;cases e;have hm:=mem_of_getElem? hq;have vq:b8 (gK RB) q.1=some q.2.1:=gB (by rw [rJ];exact hB.nd) (mem_map.mpr ⟨q,hm,rfl⟩);refine⟨_,Z,_,Z,d,_,q.1,_,Z,w1.dict,Z,vq,_,q.2.2,Z,w1.rows q hm,_,Z,?_⟩;cases hb:q.2.2 with
  | true=>exact cQ ⟨rfl,Ax hf2 hq (by unfold Ud;rw [hb];rfl),_,rfl⟩
  | false=>
   have du:jG ps RB=some (false,q.1):=by unfold jG;rw [hf,Ay hf2 hq (by unfold Ud;rw [hb];rfl)]
   exact fc ⟨_,rfl,by show 3<=sizeLine;lia,λp np=>k _ _ (s1.trans (aB np)) (by rw [du];exact⟨p,rfl,az⟩)⟩
 rintro σ H2 ⟨rfl,hf2,v3,rfl⟩;rw [lm,take_length] at hf2;refine⟨by show 3<=sizeLine;lia,λp np=>k _ _ (s1.trans (aB np)) ?_⟩;rw [show jG ps RB=none by unfold jG;rw [hf,hf2]];exact⟨p,Z,az⟩
inductive yQ (K:Fr) (H:Hp):V->Bool->Prop
 | num (m:Nat):m<=300->yQ K H (.int (m:Nat)) true
 | bad (v:V) (Tv:String):Ro v=false->V7 K H v Tv->Tv∈iW->yQ K H v false
theorem aaU {K:Fr} {C D1 D2:Addr} (h1:PySem.W.kitOne K (.ref C) (.ref D1)=some false) (h2:PySem.W.kitOne K (.ref C) (.ref D2)=some false):PySem.W.kitAny K (.ref C) [.ref D1,.ref D2]=some false:=by unfold PySem.W.kitAny;rw [h1];show PySem.W.kitAny K (.ref C) [.ref D2]=_;unfold PySem.W.kitAny;rw [h2];rfl
theorem qC:∀{xs:List V},xs.all Ec=true->∃ws:List Int,xs=ws.map V.int/\∀v∈ws,0<=v/\v <1000000000
 | [],_=>⟨[],rfl,by simp⟩
 | x:: xs,h=>by
  rw [List.all_cons,and_eq_true] at h;obtain⟨ws,e,hb⟩:=qC h.2;cases x with
  | int i=>
   have hi:(decide (0<=i) && decide (i <1000000000))=true:=h.1;rw [and_eq_true] at hi;refine⟨i:: ws,by rw [e];rfl,λv hv=>?_⟩;rcases mem_cons.mp hv with rfl | hv
   ·exact⟨of_decide_eq_true hi.1,of_decide_eq_true hi.2⟩
   ·exact hb v hv
  | _=>cases h.1
theorem lH.ints {H:Hp} {v:V} (h:lH K H v true):∃(a:Addr) (ws:List Int),v=.ref a/\H a=some (.lst (ws.map V.int))/\ws.length<=300/\∀v∈ws,0<=v/\v <1000000000:=by
 generalize hb:true=b at h;cases h with
 | lst a xs e hp=>
  have hb:=hb.symm;rw [and_eq_true] at hb;obtain⟨ws,e1,h1⟩:=qC hb.2;subst e1;refine⟨a,ws,Z,e,?_,h1⟩;have:=of_decide_eq_true hb.1;rwa [lM] at this
 | _=>cases hb
theorem Jj {H:Hp} {ps:List PD}:∀{RB:List (Option Key×V×Bool)},(∀q∈RB,kO q.1∈eN ps "give" /\lH K H q.2.1 true)->∃RW:List (Str×Addr×List Int),gK RB=vI RW/\∀p∈RW,H p.2.1=some (.lst (p.2.2.map V.int))/\V.str p.1∈eN ps "give" /\p.2.2.length<=300/\∀v∈p.2.2,0<=v/\v <1000000000
 | [],_=>⟨[],rfl,by simp⟩
 | q:: RB,h=>by
  obtain⟨RW,e,hR⟩:=Jj (RB:=RB) λq hq=>h q (.tail _ hq);obtain⟨h1,h2⟩:=h q (.head _);obtain⟨a,ws,e1,e2,e3,e4⟩:=h2.ints;obtain⟨x,hx⟩:∃x,q.1=some (Sum.inr x):=by
   obtain⟨p,_,ep⟩:=mem_map.mp h1;rcases hk:q.1 with _ | (i | x)
   ·rw [hk] at ep;cases ep
   ·rw [hk] at ep;cases ep
   ·exact⟨x,Z⟩
  refine⟨(x,a,ws):: RW,?_,λp hp=>?_⟩
  ·show(q.1,q.2.1):: gK RB=(some (Sum.inr x),V.ref a):: vI RW;rw [e,hx,e1]
  ·rcases mem_cons.mp hp with rfl | hp
   ·rw [hx] at h1;exact⟨e2,h1,e3,e4⟩
   ·exact hR p hp
theorem qt.good {H:Hp} {rw:Addr} {RB:List (Option Key×V×Bool)} {ps:List PD} (h:qt K P w H rw RB) (hd:jG ps RB=none):∃RW,lO P w H rw RW/\Ik ps RW:=by
 unfold jG at hd;split at hd
 ·cases hd
 rename_i h1;split at hd
 ·cases hd
 rename_i h2;obtain⟨RW,e,hR⟩:=Jj (H:=H) (ps:=ps) (RB:=RB) λq hq=>by
  have g:=find?_eq_none.mp h1 q hq;have r:=find?_eq_none.mp h2 q hq;have r:q.2.2=true:=by simpa [Ud] using r
  have z:=h.rows q hq;rw [r] at z;exact⟨by simpa [Uc] using g,z⟩
 refine⟨RW,⟨e ▸ h.dict,λq hq=>(hR q hq).1,?_,λq hq=>(hR q hq).2.2.1⟩,⟨λq hq=>(hR q hq).2.1,λq hq=>(hR q hq).2.2.2⟩⟩;have nd:=h.nd;rw [<-rJ,e,vY] at nd;exact(List.pairwise_map.mp nd).imp λhab z=>hab (by rw [z])
theorem Q9 {H:Hp} {Q:VK} {E:XK} {n rw:Addr} {v:V} (h:(Ro v=false/\(∃Tv,V7 K H v Tv/\Tv∈iW)/\E (.ref t.cD) none H)∨∃(ls:List aK) (ps:List PD) (m:Nat),v=.int (m:Nat)/\nQ K t H n ls ps/\yf ls ps/\m<=300/\((∃RB b x,qt K P w H rw RB/\jG ps RB=some (b,x)/\∀dx H',aO H H'->H' dx=some (.xd [("name",kO x)])->E (.ref (Um t b)) (some dx) H')∨∃RW:List (Str×Addr×List Int),lO P w H rw RW/\Ik ps RW/\∀H' u,aO H H'->Q u H')):jn K t P w [.ref n,.ref rw,v] H Q E:=by unfold jn;exact⟨n,rw,v,rfl,h⟩
noncomputable def Vh (al ok:Bool) (o:Option (Bool×Option Key)):Str×Option Key:=if al || ok then Ru o else("bad word",some (Sum.inr ""))
inductive yr (K:Fr) (t:mL) (Pg:Program) (w:World) (vs:List V) (H:Hp) (Q:VK) (E:XK):Prop where
 | mk:∀(n d:Addr) (ls:List aK) (ps:List PD) (RB:List (Option Key×V×Bool)) (v:V) (al ok:Bool),vs=[.ref n,.ref d,v,.bl al]->nQ K t H n ls ps->yf ls ps->qt K Pg w H d RB->yQ K H v ok->(∀H' u,aO H H'->Dk H' u (Vh al ok (jG ps RB))->Q u H')->yr K t Pg w vs H Q E
theorem qY (T:Txt w K mg t):FO P w K mg base 8 t.zA ["_law_net_one", "_law_rows", "_law_most", "_law_alone"] (yr K t P w):=by
 have sc:=T.lE.sc ["_law_net_one", "_law_rows", "_law_most", "_law_alone", "_law_told_here", "_law_found", "e"];refine T.lE.F.ok sc ln (λ_ _ _ _ H vs Q E hr h=>?_);obtain⟨n,d,ls,ps,RB,v,al,ok,rfl,N,F,hB,hM,k⟩:=h;refine⟨_,(au (sN sc 4 nZ)
  (au (sN sc 5 nZ)
  (au (eO (Vm rfl rfl rfl (λ_ _ _ hx=>(aA (eO (bQ (fU (pv 3))
    (aA (sN sc 5 (Jg (yw (P:=P) T) (hr.mono (by decide)) (by rfl) T.gh.m T.gh.F.kp T.gh.b hx (aa (pv 0) (aa (pv 1) ao aj) aj))))
    (aA (bK (Jg (Ej (P:=P) T) (hr.mono (by decide)) (by rfl) T.jV.m T.jV.F.kp T.jV.b hx (aa (pv 0) (aa (pv 1) (aa (pv 2) ao aj) aj) aj))))))))
   (Xo (K:=K) (i:=6) rfl sc.nd rfl rfl (by rfl) T.Eu T.Qi (λ_=>(aA (sN sc 4 (bV (aa bA (aa (Oi (K:=K) rfl (pv 6) rfl) (aa (aY (KR (K:=K) rfl) (by rfl) T.dY dD (aa (pv 6) (aa (bV (aa (rn (v:=.ref _) (by rfl) T.zg rfl) (aa (rn (v:=.ref _) (by rfl) T.qZ rfl) ao aj) aj)) ao b7) aj)) ao bc) bz) ak)))))
   (Xo (K:=K) (i:=6) rfl sc.nd rfl rfl (by rfl) T.zg T.Qh (λ_=>(aA (sN sc 4 (bV (aa bA (aa (Oi (K:=K) rfl (pv 6) rfl) (aa (aY (Ft (K:=K) rfl) (by rfl) T.dY dD (aa (pv 6) (aa (rn (v:=.ref _) (by rfl) T.qZ rfl) ao aj) aj)) ao bc) bz) ak)))))
   (Xo (K:=K) (i:=6) rfl sc.nd rfl rfl (by rfl) T.qZ T.LQ (λ_=>(aA (sN sc 4 (bV (aa bA (aa bA (aa (RQ (aY (Ft (K:=K) rfl) (by rfl) T.dY dD (aa (pv 6) (aa (rn (v:=.ref _) (by rfl) T.qD rfl) ao aj) aj))) ao rB) ak) ak)))))
   Xv)))))
  (au (bQ (j8 (Hd (pv 4)))
   (aA (aQ (bV (aa bA (aa bA (aa (BJ (Iu (pv 5))) ao yq) ak) ak))))
   bw)
  (aA (aQ (pv 4))))))),?_⟩
 have hz:sizeLine=16777216:=sizeLine_eq;obtain⟨q,hq⟩:∃q,q=Vh al ok (jG ps RB):=⟨_,rfl⟩;rw [<-hq] at k;refine⟨λσ H'=>∃u,σ=[some (.ref n),some (.ref d),some v,some (.bl al),some u,some .non,none]/\aO H H'/\((u=.non/\q=Ru none)∨Dk H' u q),?_,?_⟩
 ·refine⟨λσ' cls dd H'=>σ'=[some (.ref n),some (.ref d),some v,some (.bl al),some .non,some .non,none]/\aO H H'/\((∃dx b x,dd=some dx/\cls=.ref (Um t b)/\q=(XN b,x)/\H' dx=some (.xd [("name",kO x)]))∨(dd=none/\cls=.ref t.cD/\q=(("bad word" :Str),(some (Sum.inr ("" :Str)):Option Key)))),?_,?_⟩
  ·rintro σ' cls dd H' ⟨rfl,s',⟨dx,b,x,rfl,rfl,rfl,ed⟩ | ⟨rfl,rfl,rfl⟩⟩
   ·cases b with
    | true=>
     refine .inl ⟨Z,λy ny=>?_⟩;have ey:upd H' y (caught y t.dJ (some dx)) y=some (caught y t.dJ (some dx)):=az;have e1:upd H' y (caught y t.dJ (some dx)) dx=some (.xd [("name",kO x)]):=by rw [aH (aF ed ny)];exact ed
     have sz:=s'.trans (aB (o:=caught y t.dJ (some dx)) ny);generalize upd H' y (caught y t.dJ (some dx))=Hz at ey e1 sz ⊢;refine⟨_,Z,y,_,dx,_,_,Z,ey,e1,T.yV,T.Gb,Z,_,Z,by show 2<=sizeLine;lia,λtp ntp=>?_⟩;have tt:=aB (o:=.tup [V.ref t.dj,.ref t.cD]) ntp;refine⟨y,_,some dx,tp,_,_,_,Z,tt _ _ ey,T.yV.xc,az,aaU T.zj T.xN,by show 3<=sizeLine;lia,λu nu=>?_⟩;exact⟨_,Z,(sz.trans tt).trans (aB nu),.inr ⟨u,Z,az⟩⟩
    | false=>
     refine .inr ⟨_,Z,T.yS,.inl ⟨Z,λy ny=>?_⟩⟩;have ey:upd H' y (caught y t.dj (some dx)) y=some (caught y t.dj (some dx)):=az;have e1:upd H' y (caught y t.dj (some dx)) dx=some (.xd [("name",kO x)]):=by rw [aH (aF ed ny)];exact ed
     have sz:=s'.trans (aB (o:=caught y t.dj (some dx)) ny);generalize upd H' y (caught y t.dj (some dx))=Hz at ey e1 sz ⊢;refine⟨_,Z,y,_,dx,_,_,Z,ey,e1,T.zf,T.Fi,Z,_,Z,y,_,some dx,_,_,Z,ey,T.zf.xc,T.xX,by show 3<=sizeLine;lia,λu nu=>?_⟩;exact⟨_,Z,sz.trans (aB nu),.inr ⟨u,Z,az⟩⟩
   ·refine .inr ⟨_,Z,T.ym,.inr ⟨_,Z,T.yj,.inl ⟨Z,λy ny=>?_⟩⟩⟩;have ey:upd H' y (caught y t.cD none) y=some (caught y t.cD none):=az;have sz:=s'.trans (aB (o:=caught y t.cD none) ny);generalize upd H' y (caught y t.cD none)=Hz at ey sz ⊢;refine⟨_,Z,y,_,none,_,_,Z,ey,T.Kv,T.sI,_,Z,by show 3<=sizeLine;lia,λu nu=>?_⟩;exact⟨_,Z,sz.trans (aB nu),.inr ⟨u,Z,az⟩⟩
  refine⟨_,⟨_,Z,_,Z,?_⟩,λ_ _ h=>h⟩;cases al with
  | true=>
   refine fc ⟨_,Z,_,Z,n,d,ls,ps,RB,Z,N,hB,λe H' s'=>?_,λb x e dx H' s' ed=>?_⟩
   ·rw [e] at hq;exact⟨_,Z,s',.inl ⟨Z,hq⟩⟩
   ·rw [e] at hq;exact⟨Z,s',.inl ⟨dx,b,x,Z,Z,hq,ed⟩⟩
  | false=>
   refine cQ ⟨_,Z,_,Z,_,Z,Q9 ?_⟩;cases hM with
   | bad v Tv h1 h2 h3=>exact .inl ⟨h1,⟨Tv,h2,h3⟩,rfl,aO.refl _,.inr ⟨rfl,rfl,hq⟩⟩
   | num m hm=>
    refine .inr ⟨ls,ps,m,Z,N,F,hm,?_⟩;cases e:jG ps RB with
    | some bx=>
     obtain⟨b,x⟩:=bx;rw [e] at hq;exact .inl ⟨RB,b,x,hB,e,λdx H' s' ed=>⟨Z,s',.inl ⟨dx,b,x,Z,Z,hq,ed⟩⟩⟩
    | none=>
     obtain⟨RW,h1,h2⟩:=hB.good e;rw [e] at hq;exact .inr ⟨RW,h1,h2,λH' u s'=>⟨_,Z,s',.inl ⟨Z,hq⟩⟩⟩
 ·rintro σ H' ⟨u,rfl,s',⟨rfl,hq'⟩ | hu⟩
  ·refine⟨_,Z,_,Z,fc ⟨_,Z,by show 3<=sizeLine;lia,λp np=>k _ _ (s'.trans (aB np)) ?_⟩⟩;rw [hq'];exact⟨p,Z,az⟩
  ·obtain⟨p,rfl,ep⟩:=id hu;exact⟨_,Z,_,Z,cQ ⟨_,Z,k _ _ s' hu⟩⟩
inductive Be (K:Fr) (vs:List V) (H:Hp) (Q:VK) (E:XK):Prop where
 | mk:∀(a:Addr) (ns:List Int),vs=[.ref a]->bT K H a (ns.map V.int)->ns.length<=63->(∀H',Q (.bl true) H')->Be K vs H Q E
theorem XH (T:Txt w K mg t):FO P w K mg base 9 t.Wk ["_law_script"] (Be K):=by
 have sc:=T.MP.sc ["_law_script", "_law_lanes", "_law_parts", "_law_net_one", "_law_rows", "_law_handed", "_law_cell_here", "_law_most", "_law_due_here", "_law_great"];refine T.MP.F.ok sc ln (λ_ _ _ _ H vs Q E hr h=>?_);obtain⟨a,ns,rfl,hS,hl,k⟩:=h;refine⟨_,(au (RC (dB (Kh T) T.vZ hr (aa (pv 0) (aa aq (aa aq (aa fB ao ak) ak) ak) aj)) (LK Z (qe (gN sc 1) (qe (gN sc 2) Ho))))
  (au (sN sc 3 (iT (T.bF.M T.jO) (Aq T) (hr.mono (by decide)) (by rfl) T.bF.m T.jO.b .nil gY (aa (pv 1) (aa (pv 2) ao aj) aj)))
  (au (sN sc 4 (dB (DY T) T.qT hr (aa (pv 0) (aa (pv 1) (aa (pv 2) ao aj) aj) aj)))
  (au (sN sc 5 (dM El (by rfl) T.Rr Ng (aa (pv 4) ao aj)))
  (au (sN sc 6 (dB (je T) T.f9 hr (aa (pv 0) (aa aq ao ak) aj)))
  (au (sN sc 7 (aX bR (dB (aM T) T.aN hr (aa (pv 6) (aa aq ao ak) aj)) aq))
  (au (sN sc 8 (dB (Jk T) T.wC hr (aa (pv 4) (aa (pv 2) ao aj) aj)))
  (au (bQ (PW.pt (o8 (bf (K3 hr.units) (dB (qY T) T.lE hr (aa (pv 3) (aa (pv 5) (aa aq (aa fB ao ak) ak) aj) aj)) (pv 8) (bH _)) (lW (bf (Yo hr.u100) (pv 5) (pv 4) (bH _)))))
   (aA (aQ fB))
   bw)
  (au (eO (bQ (bf fO (aX bR (dB (aM T) T.aN hr (aa (pv 6) (aa aq ao ak) aj)) aq) aq (bH _))
   (au (sN sc 9 (aX dG aq (dB (aM T) T.aN hr (aa (pv 6) (aa aq ao ak) aj))))
   (au (sN sc 7 (aU aR (bj (@aa _ _ _ _ _ (Wf RN aq) (@aa _ _ _ _ _ (aX CG aq (pv 9)) (@aa _ _ _ _ _ (pv 9) (@aa _ _ _ _ _ aq (@aa _ _ _ _ _ fB (@aa _ _ _ _ _ nZ (@aa _ _ _ _ _ bA ao ak) ak) ak) ak) aj) bO) rB)) (aX bR (dB (aM T) T.aN hr (aa (pv 6) (aa aq ao ak) aj)) aq) (λ_ _=>rfl)))
   (aA (sN sc 8 (bV (aa bA (aa bA (aa fB ao ak) ak) ak))))))
   bw))
  (au (bQ (PW.pt (o8 (bf (K3 hr.units) (dB (qY T) T.lE hr (aa (pv 3) (aa (pv 5) (aa (pv 7) (aa fB ao ak) aj) aj) aj)) (pv 8) (bH _)) (lW (bf (K3 hr.units) (dB (qY T) T.lE hr (aa (pv 3) (aa (pv 5) (aa (pv 7) (aa fB ao ak) aj) aj) aj)) (pv 8) (bH _)))))
   (aA (aQ fB))
   bw)
  (aA (aQ (qH (Yn hr.u100) (pv 5) (pv 4) (bH _)))))))))))))),?_⟩
 have hz:sizeLine=16777216:=sizeLine_eq;refine⟨_,Z,a,ns,1,3,true,Z,hS,by decide,λT' L Pp ls ps H2 s2 nL nP nLP eT A D=>?_⟩;refine⟨T',_,Z,fZ.of eT,Z,_,_,Z,_,_,Z,Z,?_⟩;have F:=D.fit;clear eT nL nP nLP D;have p16:=F.p16;refine⟨_,Z,_,Z,λn dxn nn ndn nen=>?_⟩;have gn:aO H2 (upd (upd H2 dxn (.own n)) n (.ins t.dN dxn [])):=λb o e=>by rw [aH (aF e nn),aH (aF e ndn)];exact e
 have en:upd (upd H2 dxn (.own n)) n (.ins t.dN dxn []) n=some (.ins t.dN dxn []):=az;generalize upd (upd H2 dxn (.own n)) n (.ins t.dN dxn [])=Hn at gn en ⊢;have hH:Hand K Hn L Pp ls ps:=by
  obtain⟨⟨x1,x2,x3⟩,⟨y1,y2,y3⟩⟩:=A.same gn;refine⟨⟨x1,bT.of x2,x3.imp λ_ _ h=>?_⟩,⟨y1,bT.of y2,y3.imp λ_ _ h=>?_⟩⟩
  ·obtain⟨q,f,e,h1,h2⟩:=h;exact⟨q,f,e,h1,.inl (bT.of h2)⟩
  ·obtain⟨q,a1,a2,a3,e,h1,h2,h3,h4⟩:=h;exact⟨q,a1,a2,a3,e,h1,.inl (bT.of h2),.inl (bT.of h3),.inl (bT.of h4)⟩
 refine⟨n,dxn,L,Pp,ls,ps,Z,en,hH,F,λH4 b4 N4=>⟨Z,?_⟩⟩;have s24:aO H2 H4:=λb o e=>b4 b o (aF e nn) (gn b o e);have A4:=A.same s24;have hS4:=(s2.trans s24).seq hS;clear hH gn en b4 s24 s2 hS A nn ndn nen;refine⟨_,Z,_,Z,_,Z,a,L,Pp,ns,ls,ps,Z,hS4,A4,F,λH5 d RB s5 hB hkey=>?_⟩;have sb:∀kv∈gK RB,M4 kv.2=true:=λkv hkv=>by obtain⟨q,hq,rfl⟩:=mem_map.mp hkv;have z:=hB.rows q hq;generalize q.2.1=v at z;generalize q.2.2=b at z;cases z <;> rfl
 refine⟨_,Z,d,_,Z,hB.dict,λd2 o nd2=>?_⟩;have t6:=aB (o:=.frz o (dO P w d2 (gK RB))) nd2;have e6:yN P w (upd H5 d2 (.frz o (dO P w d2 (gK RB)))) d2 (gK RB):=⟨o,az⟩;change sW _ _ _ _ (upd H5 d2 (.frz o (dO P w d2 (gK RB))));generalize upd H5 d2 (.frz o (dO P w d2 (gK RB)))=H6 at t6 e6 ⊢;have hB6:=hB.same t6;have hB2:qt K P w H6 d2 RB:=⟨e6,hB6.rows,hB6.nd⟩;have s46:=s5.trans t6;have N6:=N4.same s46;refine⟨_,Z,a,ns,0,Z,s46.seq hS4,?_⟩;generalize jU ns 0=c;refine⟨_,Z,_,_,Z,_,_,Z,Z,by show(0:Int) <9;decide,?_⟩;obtain⟨_,⟨ys,eP,aP⟩⟩:=id (A4.same s46);refine⟨_,Z,_,Z,d,Pp,ps,ys,RB,Z,hB6,eP,aP,p16,λH7 u7 s7 hu7=>?_⟩;have go:Gd 1 (tpD (Ru (jG ps RB))):=QD (by
   cases jG ps RB with
   | none=>decide +kernel
   | some bx=>
    obtain⟨b,x⟩:=bx;show PyData.strOk (XN b)=true;cases b <;> decide +kernel) (by
   cases e:jG ps RB with
   | none=>intro x e;cases e;decide +kernel
   | some bx=>
    obtain⟨b,x⟩:=bx;unfold jG at e;split at e
    ·rename_i q hq;cases e;exact hkey q (List.mem_of_find?_eq_some hq)
    ·split at e
     ·rename_i q hq;cases e;exact hkey q (List.mem_of_find?_eq_some hq)
     ·cases e)
 refine⟨_,Z,_,Z,n,d2,ls,ps,RB,_,true,true,Z,N6.same s7,F,hB2.same s7,.num 0 (by decide),λH8 u8 s8 hu8=>?_⟩;have hu8:Dk H8 u8 (Ru (jG ps RB)):=hu8;refine⟨_,Z,_,_,hu8.dt,(hu7.same s8).dt,go.shaped (by decide),go.shaped (by decide),_,Z,?_⟩;rw [go.eq];have s68:=s7.trans s8;refine cQ ⟨_,Z,_,Z,⟨d2,d,_,Z,Z,(hB2.same s68).dict,(hB6.same s68).dict,sb⟩,_,Z,cQ ?_⟩;have m0:=emod_nonneg (bD c 3) (show(9:Int)≠0 by decide);have m1:=emod_lt_of_pos (bD c 3) (show(0:Int) <9 by decide);obtain⟨m,hm,hm9⟩:∃m:Nat,bD c 3 % 9=(m:Int)/\m <9:=⟨(bD c 3 % 9).toNat,by lia,by lia⟩;refine⟨λσ H'=>∃v u ok,(∃v9,σ=[some (.ref a),some (.ref L),some (.ref Pp),some (.ref n),some (.ref d),some (.ref d2),some (.int c),some v,some u,v9])/\aO H8 H'/\yQ K H' v ok/\Dk H' u (Vh false ok (jG ps RB))/\Gd 1 (tpD (Vh false ok (jG ps RB))),?_,?_⟩
 ·refine⟨_,Z,_,_,Z,_,_,Z,Z,by show(0:Int) <3;decide,Z,_,Z,iD (λ_=>?_) (λ_=>?_)⟩
  ·refine⟨_,Z,_,_,Z,_,_,Z,Z,?_⟩;have gp:0<=bD c 5:=emod_nonneg _ (by decide);generalize bD c 5=g5 at gp ⊢;refine⟨_,Z,_,Z,_,_,Z,Z,_,Z,by show 7<=sizeLine;lia,λl nl=>?_⟩;have tl:=aB (o:=.lst [V.int (-1),.int (0 - (301+g5)),.int (301+g5),.int 301,.bl true,.non,.str "5"]) nl;have el:upd H8 l (.lst [V.int (-1),.int (0 - (301+g5)),.int (301+g5),.int 301,.bl true,.non,.str "5"]) l=some (.lst [V.int (-1),.int (0 - (301+g5)),.int (301+g5),.int 301,.bl true,.non,.str "5"]):=az;generalize upd H8 l (.lst [V.int (-1),.int (0 - (301+g5)),.int (301+g5),.int 301,.bl true,.non,.str "5"])=H9 at tl el ⊢;have k0:=emod_nonneg (bD c 6) (show(7:Int)≠0 by decide);have k1:=emod_lt_of_pos (bD c 6) (show(0:Int) <7 by decide);obtain⟨i,hi,hi7⟩:∃i:Nat,bD c 6 % 7=(i:Int)/\i <7:=⟨(bD c 6 % 7).toNat,by lia,by lia⟩;obtain⟨v,hv⟩:∃v,[V.int (-1),.int (0 - (301+g5)),.int (301+g5),.int 301,.bl true,.non,.str "5"][i]?=some v:=⟨_,getElem?_eq_getElem hi7⟩;have mv:∀{H':Hp},yQ K H' v false:=λ{H'}=>by
    have hmv:=mem_of_getElem? hv;simp only [mem_cons,not_mem_nil,or_false] at hmv;rcases hmv with rfl | rfl | rfl | rfl | rfl | rfl | rfl
    ·exact .bad _ "int" (by decide) Z (by decide)
    ·exact .bad _ "int" (by show(decide (0<=0 - (301+g5)) && _)=false;rw [decide_eq_false (by lia)];rfl) rfl (by decide)
    ·exact .bad _ "int" (by show(_ && decide (301+g5<=300))=false;rw [decide_eq_false (show ¬301+g5<=300 by lia),Bool.and_false]) rfl (by decide)
    ·exact .bad _ "int" (by decide) Z (by decide)
    ·exact .bad _ "bool" Z Z (by decide)
    ·exact .bad _ "NoneType" Z Z (by decide)
    ·exact .bad _ "str" Z Z (by decide)
   refine⟨_,Z,_,_,Z,_,_,Z,Z,by show(0:Int) <7;decide,l,_,_,v,Z,Z,bT.of el,(by rw [hi];exact aJ hv),?_⟩;refine⟨by show 3<=sizeLine;lia,λq nq=>⟨v,_,false,⟨_,Z⟩,tl.trans (aB nq),mv,⟨q,Z,az⟩,?_⟩⟩;exact QD (by show PyData.strOk ("bad word" :Str)=true;decide +kernel) (λx e=>by cases e;decide +kernel)
  ·exact⟨_,_,true,⟨none,Z⟩,aO.refl _,by rw [hm];exact .num m (by lia),hu7.same s8,go⟩
 rintro σ H9 ⟨v,u,ok,⟨v9,rfl⟩,s9,hM,hu,gt⟩;have s69:=s68.trans s9;refine⟨_,Z,_,Z,_,Z,n,d2,ls,ps,RB,v,false,ok,Z,N6.same s69,F,hB2.same s69,hM,λHA uA sA huA=>?_⟩;refine⟨_,Z,_,_,huA.dt,(hu.same sA).dt,gt.shaped (by decide),gt.shaped (by decide),_,Z,?_⟩;rw [gt.eq];have s6A:=s69.trans sA;have hMA:yQ K HA v ok:=by
  cases hM with
  | num m h=>exact .num m h
  | bad v Tv h1 h2 h3=>
   refine .bad v Tv h1 ?_ h3;cases v with
   | ref p=>
    rcases h2 with ⟨e,xs,h⟩ | ⟨e,xs,h⟩ | ⟨e,kvs,h⟩
    ·exact .inl ⟨e,xs,sA.seq h⟩
    ·exact .inr (.inl ⟨e,xs,sA.seqT h⟩)
    ·exact .inr (.inr ⟨e,kvs,sA _ _ h⟩)
   | _=>exact h2
 refine cQ ⟨_,Z,_,Z,_,Z,n,d2,ls,ps,RB,v,false,ok,Z,N6.same s6A,F,hB2.same s6A,hMA,λHB uB sB huB=>?_⟩;refine⟨_,Z,_,_,huB.dt,(hu.same (sA.trans sB)).dt,gt.shaped (by decide),gt.shaped (by decide),_,Z,?_⟩;rw [gt.eq];have s6B:=s6A.trans sB;exact cQ ⟨_,Z,_,Z,⟨d2,d,_,Z,Z,(hB2.same s6B).dict,(hB6.same s6B).dict,sb⟩,k _⟩
end
theorem fin {l:PySem.W.OpenLaw} {w:World} {K:Fr} {mg:Str->Option Value} {fa r0 r1 r2 r3 r4 r5 r6 r7 r8 r9 r10 r11 r12 r13 r14 r15 r16 r17 r18 r19 r20 r21 r22 r23 r24 r25 r26 r27 r28 r29 r30 r31 r32 r33 r34 r35 r36 r37 r38 r39 r40 r41 r42 r43 r44 r45 r46 r47 r48 r49 r50 r51 r52 r53 r54 r55 r56 r57 r58 r59 r60 r61 r62 r63 r64 r65 r66 r67 r68 r69 r70 r71 r72 r73 r74 r75 r76 r77 r78 r79 r80 r81 r82 r83 r84 r85 r86 r87 r88 r89 r90 r91 r92 r93 r94 r95 r96 r97 r98 r99 r100 r101 r102:Addr} (hfa:mg "law" =some (.ref fa)) (T:Txt w K mg ⟨r0,r1,r2,r3,r4,r5,r6,r7,r8,r9,r10,r11,r12,r13,r14,r15,r16,r17,r18,r19,r20,r21,r22,r23,r24,r25,r26,r27,r28,r29,r30,r31,r32,r33,r34,r35,r36,r37,r38,r39,r40,r41,r42,r43,r44,r45,r46,r47,r48,r49,r50,r51,r52,r53,r54,r55,r56,r57,r58,r59,r60,r61,r62,r63,r64,r65,r66,r67,r68,r69,r70,r71,r72,r73,r74,r75,r76,r77,r78,r79,r80,r81,r82,r83,r84,r85,r86,r87,r88,r89,r90,r91,r92,r93,r94,r95,r96,r97,r98,r99,r100,r101,r102⟩):∃fd:FuncData,(∀(s:Shared) (v:Value),BindsTo s fd ⟨[v],[]⟩ [("_law_script",v)])/\∀base:Heap,K.In base->base.Ns mainGlobals mg->fY l.prog w K mg base Eh 9 fa fd ["_law_script"] (Be K):=by have e:=hfa.symm.trans T.MP.m;cases e;exact⟨_,X8 T.MP.F λ_ _ _ _ _ _ _=>Z,λbase _ _=>XH T⟩
theorem walk {l:PySem.W.OpenLaw} {q:Program} {loose:List Str} {XP:(Str->Option Value)->Heap->Prop} {YP:World->Heap->Prop} {d:DefRec} {K:Params->Fr} (hn:l.most=some 63) (hdf:d.params.defaults=[])
  (hY:∀(w:World) (h:Heap),YP w h->(K w.params).In h)
  (F:∀(w:World) (mg:Str->Option Value) (fa:Addr) (h:Heap),(K w.params).In h->h.Ns mainGlobals mg->mg d.name=some (.ref fa)->
   ∃fd:FuncData,(∀(s:Shared) (u:Value),BindsTo s fd ⟨[u],[]⟩ [("_law_script",u)])/\∀base:Heap,(K w.params).In base->base.Ns mainGlobals mg->fY l.prog w (K w.params) mg base Eh 9 fa fd ["_law_script"] (Be (K w.params))):
  PySem.W.WalkO q loose XP YP l.row.toRowW d [] (λf vs=>PySem.call f vs):=
 L2.VB (n:=63) (k:=9) (x:= "_law_script") (CX:=λ_=>Eh) (sp:=λw=>Be (K w.params)) hn (by decide) hdf ⟨rfl,by decide,by decide⟩ hY F (λ_ _ a ns hl _ hS=>⟨a,ns,rfl,hS,hl,λ_=>rfl⟩) λ_ _ _ _ _ z=>z
end K33
open PySem PySem.W PyProof.Rows L2
set_option maxRecDepth 100000 in
set_option maxHeartbeats 0 in
theorem PySem.Challenge.cw_holdlane_k33_rows_refused_holds : PySem.Challenge.rw_holdlane_k33_rows_refused.Holds := by
 w_on;o_law
 refine HD.head (by rfl) (by rfl) (by rfl) (by rfl) (by first | assumption | decide +kernel) (by decide +kernel) ⟨rfl,rfl,rfl,rfl,rfl,by decide +kernel⟩ rfl (λ_=>rfl) ?_ ?_
 ·w_witness2
 k_fill
 refine K33.walk (l:=PySem.Challenge.rw_holdlane_k33_rows_refused) Z Z (λw h Y=>PySem.W.kIn_of Y) ?F
 case F=>
  intro w mg fa h KX G hmg;refine' K33.fin hmg ⟨?q0,?q1,?q2,?q3,?q4,?q5,?q6,?q7,?q8,?q9,?q10,?q11,?q12,?q13,?q14,?q15,?q16,?q17,?q18,?q19,?q20,?q21,?q22,?q23,?q24,?q25,?q26,?q27,?q28,?q29,?q30,?q31,?q32,?q33,?q34,?q35,?q36,?q37,?q38,?q39,?q40,?q41,?q42,?q43,?q44,?q45,?q46,?q47,?q48,?q49,?q50,?q51,?q52,?q53,?q54,?q55,?q56,?q57,?q58,?q59,?q60,?q61,?q62,?q63,?q64,?q65,?q66,?q67,?q68,?q69,?q70,?q71,?q72,?q73,?q74,?q75,?q76,?q77,?q78,?q79,?q80,?q81,?q82,?q83,?q84,?q85,?q86,?q87,?q88,?q89,?q90,?q91,?q92,?q93,?q94,?q95,?q96,?q97,?q98,?q99,?q100,?q101,?q102,?q103,?q104,?q105,?q106,?q107,?q108,?q109,?q110,?q111,?q112,?q113,?q114,?q115,?q116,?q117,?q118,?q119,?q120,?q121,?q122,?q123,?q124,?q125,?q126,?q127,?q128,?q129,?q130,?q131,?q132,?q133,?q134,?q135,?q136,?q137,?q138,?q139,?q140,?q141,?q142,?q143,?q144,?q145,?q146,?q147,?q148⟩
  all_goals try dsimp only
  (case q0 | q1 | q2 | q3 | q4 | q5 | q6 | q7 | q8 | q9 | q10=>refine' ⟨mg_of KX G ?_,⟨?_,?_,?_,?_⟩,?_,?_,⟨?_,?_,?_,?_,?_,?_,trivial⟩,⟨?_,?_,?_,?_,trivial⟩⟩ <;> (try dsimp only) <;> k_is)
  (case q11=>refine' ⟨mg_of KX G ?_,⟨?_,?_,?_,?_⟩,?_,?_,⟨?_,?_,?_,?_,?_,?_,?_,?_,trivial⟩,⟨?_,?_,?_,?_,?_,trivial⟩⟩ <;> (try dsimp only) <;> k_is)
  (case q12=>refine' ⟨mg_of KX G ?_,⟨?_,?_,?_,?_⟩,?_,?_,⟨?_,?_,?_,?_,?_,?_,?_,?_,trivial⟩,⟨?_,?_,?_,?_,?_,?_,trivial⟩⟩ <;> (try dsimp only) <;> k_is)
  (case q13 | q14 | q15 | q16=>refine' mg_of KX G ?_ <;> k_is)
  (case q17 | q18=>k_is)
  (case q19=>refine' ⟨?_,?_,?_⟩ <;> kernel_rfl)
  (case q20 | q21 | q22 | q23 | q24 | q25 | q26 | q27 | q28 | q29=>kernel_rfl)
  (case q30=>refine' tR.ofIn ?_ <;> kernel_rfl)
  (case q31=>refine' (tR.ofIn ?_).at <;> kernel_rfl)
  (case q32=>refine' Qn.ofIn ?_ <;> kernel_rfl)
  (case q33=>refine' ⟨p8.ofIn ?_,?_,?_⟩ <;> first | k_is | kernel_rfl)
  (case q34=>refine' Ml.ofIn ?_ <;> kernel_rfl)
  (case q35=>unfold gW;kernel_rfl)
  (case q36=>refine' Wr KX ?_ ?_ <;> (try k_is);all_goals kernel_rfl)
  (case q37=>refine' ⟨p8.ofIn ?_,?_,?_⟩ <;> first | k_is | kernel_rfl)
  (case q38=>refine' Ml.ofIn ?_ <;> kernel_rfl)
  (case q39=>unfold gW;kernel_rfl)
  (case q40=>refine' Wr KX ?_ ?_ <;> (try k_is);all_goals kernel_rfl)
  (case q41 | q42=>refine' eX.of ?_ ?_ ?_ ?_ (λ_ _ _ _ _ _=>Bv λ_ _=>rfl) <;> try k_is)
  (case q43 | q44=>refine' .of (mg_of KX G ?_) (eX.of ?_ ?_ ?_ ?_ (λ_ _ _ _ _ _=>Ai λ_=>rfl)) <;> (try k_is);all_goals try k_is)
  (case q45=>refine' eX.of ?_ ?_ ?_ ?_ (λ_ _ _ _ _ _=>Y9 λ_ _ _ _ _=>rfl) <;> try k_is)
  (case q46 | q47 | q48 | q49 | q50 | q51 | q52 | q53 | q54 | q55 | q56=>refine' eX.of ?_ ?_ ?_ ?_ (λ_ _ _ _ _ _=>Ai λ_=>rfl) <;> try k_is)
  (case q57=>refine' .of (mg_of KX G ?_) (eX.of ?_ ?_ ?_ ?_ (λ_ _ _ _ _ _=>Ai λ_=>rfl)) <;> (try k_is);all_goals try k_is)
  (case q58 | q59 | q60=>refine' .of (mg_of KX G ?_) (eX.of ?_ ?_ ?_ ?_ (λ_ _ _ _ _ _=>Y9 λ_ _ _ _ _=>rfl)) <;> (try k_is);all_goals try k_is)
  (case q61=>refine' .of (mg_of KX G ?_) (eX.of ?_ ?_ ?_ ?_ (λ_ _ _ _ _ _=>Ai λ_=>rfl)) <;> (try k_is);all_goals try k_is)
  (case q62 | q63 | q64=>refine' eX.of ?_ ?_ ?_ ?_ (λ_ _ _ _ _ _=>Bv λ_ _=>rfl) <;> try k_is)
  (case q65 | q66=>refine' eX.of ?_ ?_ ?_ ?_ (λ_ _ _ _ _ _=>Ai λ_=>rfl) <;> try k_is)
  (case q67 | q68 | q69 | q70 | q71 | q72 | q73 | q74 | q75 | q76 | q77=>refine' eX.of ?_ ?_ ?_ ?_ (λ_ _ _ _ _ _=>GD λ_ _ _=>rfl) <;> try k_is)
  (case q78 | q79 | q80 | q81=>refine' .of (mg_of KX G ?_) (eX.of ?_ ?_ ?_ ?_ (λ_ _ _ _ _ _=>Bv λ_ _=>rfl)) <;> (try k_is);all_goals try k_is)
  (case q82=>refine' .of (mg_of KX G ?_) (eX.of ?_ ?_ ?_ ?_ (λ_ _ _ _ _ _=>GD λ_ _ _=>rfl)) <;> (try k_is);all_goals try k_is)
  (case q83=>refine' .of (mg_of KX G ?_) (eX.of ?_ ?_ ?_ ?_ (λ_ _ _ _ _ _=>Bv λ_ _=>rfl)) <;> (try k_is);all_goals try k_is)
  (case q84=>refine' .of (mg_of KX G ?_) (eX.of ?_ ?_ ?_ ?_ (λ_ _ _ _ _ _=>aar λ_ _ _ _ _ _=>rfl)) <;> (try k_is);all_goals try k_is)
  (case q85=>refine' .of (mg_of KX G ?_) (eX.of ?_ ?_ ?_ ?_ (λ_ _ _ _ _ _=>Ug λ_ _ _ _=>rfl)) <;> (try k_is);all_goals try k_is)
  (case q86 | q87 | q88=>refine' .of (mg_of KX G ?_) (eX.of ?_ ?_ ?_ ?_ (λ_ _ _ _ _ _=>GD λ_ _ _=>rfl)) <;> (try k_is);all_goals try k_is)
  (case q89=>refine' .of (mg_of KX G ?_) (eX.of ?_ ?_ ?_ ?_ (λ_ _ _ _ _ _=>Ug λ_ _ _ _=>rfl)) <;> (try k_is);all_goals try k_is)
  (case q90=>refine' .of (mg_of KX G ?_) (eX.of ?_ ?_ ?_ ?_ (λ_ _ _ _ _ _=>Ai λ_=>rfl)) <;> (try k_is);all_goals try k_is)
  (case q91 | q92=>refine' .of (mg_of KX G ?_) (eX.of ?_ ?_ ?_ ?_ (λ_ _ _ _ _ _=>Bv λ_ _=>rfl)) <;> (try k_is);all_goals try k_is)
  (case q93=>refine' .of (mg_of KX G ?_) (eX.of ?_ ?_ ?_ ?_ (λ_ _ _ _ _ _=>GD λ_ _ _=>rfl)) <;> (try k_is);all_goals try k_is)
  (case q94=>refine' .of (mg_of KX G ?_) (eX.of ?_ ?_ ?_ ?_ (λ_ _ _ _ _ _=>Bv λ_ _=>rfl)) <;> (try k_is);all_goals try k_is)
  (case q95=>refine' .of (mg_of KX G ?_) (eX.of ?_ ?_ ?_ ?_ (λ_ _ _ _ _ _=>Ug λ_ _ _ _=>rfl)) <;> (try k_is);all_goals try k_is)
  (case q96 | q97 | q98=>refine' .of (mg_of KX G ?_) (eX.of ?_ ?_ ?_ ?_ (λ_ _ _ _ _ _=>GD λ_ _ _=>rfl)) <;> (try k_is);all_goals try k_is)
  (case q99 | q100=>refine' eX.of ?_ ?_ ?_ ?_ (λ_ _ _ _ _ _=>Ai λ_=>rfl) <;> try k_is)
  (case q101=>refine' eX.of ?_ ?_ ?_ ?_ (λ_ _ _ _ _ _=>Bv λ_ _=>rfl) <;> try k_is)
  (case q102=>refine' eX.of ?_ ?_ ?_ ?_ (λ_ _ _ _ _ _=>Ai λ_=>rfl) <;> try k_is)
  (case q103 | q104 | q105=>refine' eX.of ?_ ?_ ?_ ?_ (λ_ _ _ _ _ _=>Bv λ_ _=>rfl) <;> try k_is)
  (case q106=>refine' eX.of ?_ ?_ ?_ ?_ (λ_ _ _ _ _ _=>GD λ_ _ _=>rfl) <;> try k_is)
  (case q107 | q108 | q109 | q110 | q111 | q112=>refine' eX.of ?_ ?_ ?_ ?_ (λ_ _ _ _ _ _=>Bv λ_ _=>rfl) <;> try k_is)
  (case q113 | q114=>refine' eX.of ?_ ?_ ?_ ?_ (λ_ _ _ _ _ _=>GD λ_ _ _=>rfl) <;> try k_is)
  (case q115=>refine' .of (mg_of KX G ?_) (eX.of ?_ ?_ ?_ ?_ (λ_ _ _ _ _ _=>Ai λ_=>rfl)) <;> (try k_is);all_goals try k_is)
  (case q116=>refine' .of (mg_of KX G ?_) (eX.of ?_ ?_ ?_ ?_ (λ_ _ _ _ _ _=>Bv λ_ _=>rfl)) <;> (try k_is);all_goals try k_is)
  (case q117 | q118=>refine' .of (mg_of KX G ?_) (eX.of ?_ ?_ ?_ ?_ (λ_ _ _ _ _ _=>GD λ_ _ _=>rfl)) <;> (try k_is);all_goals try k_is)
  (case q119=>refine' .of (mg_of KX G ?_) (eX.of ?_ ?_ ?_ ?_ (λ_ _ _ _ _ _=>Ai λ_=>rfl)) <;> (try k_is);all_goals try k_is)
  (case q120 | q121=>refine' .of (mg_of KX G ?_) (eX.of ?_ ?_ ?_ ?_ (λ_ _ _ _ _ _=>GD λ_ _ _=>rfl)) <;> (try k_is);all_goals try k_is)
  (case q122=>refine' .of (mg_of KX G ?_) (eX.of ?_ ?_ ?_ ?_ (λ_ _ _ _ _ _=>Ai λ_=>rfl)) <;> (try k_is);all_goals try k_is)
  (case q123=>refine' .of (mg_of KX G ?_) (eX.of ?_ ?_ ?_ ?_ (λ_ _ _ _ _ _=>Bv λ_ _=>rfl)) <;> (try k_is);all_goals try k_is)
  (case q124=>refine' .of (mg_of KX G ?_) (eX.of ?_ ?_ ?_ ?_ (λ_ _ _ _ _ _=>Ug λ_ _ _ _=>rfl)) <;> (try k_is);all_goals try k_is)
  (case q125=>refine' .of (mg_of KX G ?_) (eX.of ?_ ?_ ?_ ?_ (λ_ _ _ _ _ _=>Ai λ_=>rfl)) <;> (try k_is);all_goals try k_is)
  (case q126=>refine' mg_of KX G ?_;k_is)
  (case q127=>
   refine' L2.KTab.mk' ?lk ?c1 ?c2 ?c3 ?c4 ?sm ?rows ?nd
   (case lk=>k_is)
   (case c1=>exact rfl)
   (case c2=>exact rfl)
   (case c3=>exact rfl)
   (case c4=>exact rfl)
   (case sm=>exact rfl)
   (case nd=>decide +kernel)
   (case rows=>
    refine' L2.jA.cons ?hh0 ?lk0 ?cc0 ?dd0 ?vv0 ?zz0 ?rest0
    (case hh0=>exact rfl)
    (case lk0=>k_is)
    (case cc0=>exact rfl)
    (case dd0=>exact rfl)
    (case vv0=>exact .cons ⟨_,rfl⟩ (.cons ⟨_,rfl⟩ (.cons ⟨_,rfl⟩ .nil)))
    (case zz0=>decide)
    refine' L2.jA.cons ?hh1 ?lk1 ?cc1 ?dd1 ?vv1 ?zz1 ?rest1
    (case hh1=>exact rfl)
    (case lk1=>k_is)
    (case cc1=>exact rfl)
    (case dd1=>exact rfl)
    (case vv1=>exact .cons ⟨_,rfl⟩ (.cons ⟨_,rfl⟩ (.cons ⟨_,rfl⟩ .nil)))
    (case zz1=>decide)
    refine' L2.jA.cons ?hh2 ?lk2 ?cc2 ?dd2 ?vv2 ?zz2 ?rest2
    (case hh2=>exact rfl)
    (case lk2=>k_is)
    (case cc2=>exact rfl)
    (case dd2=>exact rfl)
    (case vv2=>exact .cons ⟨_,rfl⟩ (.cons ⟨_,rfl⟩ (.cons ⟨_,rfl⟩ .nil)))
    (case zz2=>decide)
    refine' L2.jA.cons ?hh3 ?lk3 ?cc3 ?dd3 ?vv3 ?zz3 ?rest3
    (case hh3=>exact rfl)
    (case lk3=>k_is)
    (case cc3=>exact rfl)
    (case dd3=>exact rfl)
    (case vv3=>exact .cons ⟨_,rfl⟩ (.cons ⟨_,rfl⟩ (.cons ⟨_,rfl⟩ .nil)))
    (case zz3=>decide)
    refine' L2.jA.cons ?hh4 ?lk4 ?cc4 ?dd4 ?vv4 ?zz4 ?rest4
    (case hh4=>exact rfl)
    (case lk4=>k_is)
    (case cc4=>exact rfl)
    (case dd4=>exact rfl)
    (case vv4=>exact .cons ⟨_,rfl⟩ (.cons ⟨_,rfl⟩ (.cons ⟨_,rfl⟩ .nil)))
    (case zz4=>decide)
    refine' L2.jA.cons ?hh5 ?lk5 ?cc5 ?dd5 ?vv5 ?zz5 ?rest5
    (case hh5=>exact rfl)
    (case lk5=>k_is)
    (case cc5=>exact rfl)
    (case dd5=>exact rfl)
    (case vv5=>exact .cons ⟨_,rfl⟩ (.cons ⟨_,rfl⟩ (.cons ⟨_,rfl⟩ .nil)))
    (case zz5=>decide)
    refine' L2.jA.cons ?hh6 ?lk6 ?cc6 ?dd6 ?vv6 ?zz6 ?rest6
    (case hh6=>exact rfl)
    (case lk6=>k_is)
    (case cc6=>exact rfl)
    (case dd6=>exact rfl)
    (case vv6=>exact .cons ⟨_,rfl⟩ (.cons ⟨_,rfl⟩ (.cons ⟨_,rfl⟩ .nil)))
    (case zz6=>decide)
    refine' L2.jA.cons ?hh7 ?lk7 ?cc7 ?dd7 ?vv7 ?zz7 ?rest7
    (case hh7=>exact rfl)
    (case lk7=>k_is)
    (case cc7=>exact rfl)
    (case dd7=>exact rfl)
    (case vv7=>exact .cons ⟨_,rfl⟩ (.cons ⟨_,rfl⟩ (.cons ⟨_,rfl⟩ .nil)))
    (case zz7=>decide)
    refine' L2.jA.cons ?hh8 ?lk8 ?cc8 ?dd8 ?vv8 ?zz8 ?rest8
    (case hh8=>exact rfl)
    (case lk8=>k_is)
    (case cc8=>exact rfl)
    (case dd8=>exact rfl)
    (case vv8=>exact .cons ⟨_,rfl⟩ (.cons ⟨_,rfl⟩ (.cons ⟨_,rfl⟩ .nil)))
    (case zz8=>decide)
    refine' L2.jA.cons ?hh9 ?lk9 ?cc9 ?dd9 ?vv9 ?zz9 ?rest9
    (case hh9=>exact rfl)
    (case lk9=>k_is)
    (case cc9=>exact rfl)
    (case dd9=>exact rfl)
    (case vv9=>exact .cons ⟨_,rfl⟩ (.cons ⟨_,rfl⟩ (.cons ⟨_,rfl⟩ .nil)))
    (case zz9=>decide)
    refine' L2.jA.cons ?hh10 ?lk10 ?cc10 ?dd10 ?vv10 ?zz10 ?rest10
    (case hh10=>exact rfl)
    (case lk10=>k_is)
    (case cc10=>exact rfl)
    (case dd10=>exact rfl)
    (case vv10=>exact .cons ⟨_,rfl⟩ (.cons ⟨_,rfl⟩ (.cons ⟨_,rfl⟩ .nil)))
    (case zz10=>decide)
    exact .nil))
  (case q128 | q129 | q130 | q131 | q132 | q133 | q134 | q135 | q136 | q137 | q138 | q139=>refine' mg_none_of KX G ?_;k_is)
  (case q140 | q141 | q142 | q143 | q144 | q145 | q146 | q147 | q148=>refine' gC (mg_of KX G ?_) ?_ <;> (try k_is);all_goals exact⟨_,rfl⟩)
