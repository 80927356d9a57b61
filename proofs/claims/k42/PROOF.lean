import PyProof.Rows.All
import Wide.All
import OpenK.AllK
import Wide.FinOn
import Lean
import PyProof.EqAt
import PyProof.EqKinds
import PyProof.TupleCall
import PyProof.StrLawsChain
import PyProof.StrLawsOccR
import PyProof.StrLawsReplace
import PyProof.NeKinds
import PyProof.EnumStmt
import PyProof.EnumMake
import PyProof.ListRange
import PyProof.StationsW
import PyProof.ExcClass2
import PyProof.ExcInit
import PyProof.InstStoreFacts
import OpenK.KRaise
import PyProof.NsDelKeeps
import PyProof.RulesAs
import PyProof.Rows.Catch
import OpenK.KOwn
import PyProof.ExcArgsOwn
import PyProof.ExcAttrAll.ValueError
import PyProof.IsiBase
import PyProof.MaxThree
import PyProof.SeqI3
import KE.KIsAll
import KE.IntTextLaws
import PyProof.StrLawsIdx
import PyProof.FitsInt
import PySem.Challenge.RW_holdlane_k42_names_refused
set_option Elab.async false
set_option linter.all false
set_option maxRecDepth 100000
theorem Z {α:Sort u} {a:α}:a=a:=rfl
abbrev Fr:=PySem.W.Frag
open List (mem_map mem_append map_append map_map mem_cons getElem?_map getElem?_eq_getElem mem_of_getElem? length_take mem_singleton take_length length_cons take_succ map_cons mem_filter size_toArray length_singleton append_nil length_map mem_cons_of_mem mem_cons_self mem_flatMap nodup_cons append_assoc mem_append_right length_filter_le length_append not_mem_nil map_nil all_eq_true lookup_cons find?_cons nodup_append filter_cons find?_append take_append_drop filterMap_cons length_drop find?_eq_none find?_cons_of_pos find?_cons_of_neg map_congr_left getElem?_cons_zero perm_append_comm take_of_length_le any_eq_true mem_append_left mem_filterMap any_cons replicate_succ flatMap_cons mem_iff_getElem filter_append mem_range getElem_inj flatten_cons range_succ length_nil length_range)
open Nat (le_refl zero_le ne_of_lt le_trans lt_of_lt_of_le lt_of_le_of_lt le_succ lt_irrefl lt_succ_of_lt lt_succ_self le_of_lt le_total)
open Option (map_eq_some_iff toList_some map_some isSome_iff_exists getD_some isSome_map)
open Int (emod_nonneg emod_lt_of_pos toNat_natCast)
open Bool (and_eq_true)
namespace L2
open PySem PySem.Spec PyProof.Rows
noncomputable abbrev Key:=Sum Int Str
noncomputable def HJ:Key->Value->Bool
 | .inl k,v=>Value.isInt k v
 | .inr x,v=>Value.isStrOf x v
noncomputable def aaZ (w:World):Key->Int
 | .inl k=>hashInt k
 | .inr x=>hashStr w x
theorem fj:∀{k:Key} {v:Value},HJ k v=true->(∃i t,k=Sum.inl i/\v=Value.int i t)∨(∃x t,k=Sum.inr x/\v=Value.str x t)
 | .inl i,v,h=>by obtain⟨t,e⟩:=Value.isInt_shape (k:=i) (v:=v) h;exact .inl ⟨i,t,Z,e⟩
 | .inr x,v,h=>by obtain⟨t,e⟩:=Value.isStrOf_shape (x:=x) (v:=v) h;exact .inr ⟨x,t,Z,e⟩
theorem Q8 (i:Int) (t:Tok):HJ (.inl i) (.int i t)=true:=by simp [HJ,Value.isInt]
theorem QT (x:Str) (t:Tok):HJ (.inr x) (.str x t)=true:=by simp [HJ,Value.isStrOf]
theorem Yb (a b:Int):decide ((Sum.inl a:Key)=Sum.inl b)=(a == b):=by
 by_cases e:a=b
 ·subst e;simp
 ·have h:¬(Sum.inl a:Key)=Sum.inl b:=λq=>e (Sum.inl.inj q);rw [decide_eq_false h];exact(beq_eq_false_iff_ne.mpr e).symm
theorem YH (a b:Str):decide ((Sum.inr a:Key)=Sum.inr b)=decide (a=b):=by
 by_cases e:a=b
 ·subst e;simp
 ·have h:¬(Sum.inr a:Key)=Sum.inr b:=λq=>e (Sum.inr.inj q);rw [decide_eq_false h,decide_eq_false e]
theorem Xz (a:Int) (b:Str):decide ((Sum.inl a:Key)=Sum.inr b)=false:=decide_eq_false (λq=>nomatch q)
theorem YD (a:Str) (b:Int):decide ((Sum.inr a:Key)=Sum.inl b)=false:=decide_eq_false (λq=>nomatch q)
noncomputable def cX (prog:Program) (w:World):PySem.KeyKind prog w Key where
 is:=HJ
 hash:=aaZ w
 inj:=λv a b ha hb=>by
  rcases fj ha with ⟨i,t,rfl,rfl⟩ | ⟨x,t,rfl,rfl⟩
  ·rcases fj hb with ⟨j,u,rfl,e⟩ | ⟨y,u,rfl,e⟩
   ·injection e with e1 _;rw [e1]
   ·exact nomatch e
  ·rcases fj hb with ⟨j,u,rfl,e⟩ | ⟨y,u,rfl,e⟩
   ·exact nomatch e
   ·injection e with e1 _;rw [e1]
 byValue:=λk v h=>by rcases fj h with ⟨i,t,rfl,rfl⟩ | ⟨x,t,rfl,rfl⟩ <;> rfl
 pyHash:=λhv h=>by
  rcases fj hv with ⟨i,t,rfl,rfl⟩ | ⟨x,t,rfl,rfl⟩
  ·exact wpAny_pyHash_int h
  ·exact wpAny_pyHash_str h
 eqBool:=λhu hv h=>by
  rcases fj hu with ⟨i,t,rfl,rfl⟩ | ⟨x,t,rfl,rfl⟩
  ·rcases fj hv with ⟨j,u,rfl,rfl⟩ | ⟨y,u,rfl,rfl⟩
   ·rw [Yb] at h;exact wpAny_eqBool_int h
   ·rw [Xz] at h;exact SeqAt.EqAt.int_str i t y u _ _ _ _ h
  ·rcases fj hv with ⟨j,u,rfl,rfl⟩ | ⟨y,u,rfl,rfl⟩
   ·rw [YD] at h;exact SeqAt.EqAt.str_int x t j u _ _ _ _ h
   ·rw [YH] at h;exact wpAny_eqBool_str h
 «strs» :=λk x t v h=>by
  rcases fj h with ⟨i,u,rfl,e⟩ | ⟨y,u,rfl,e⟩
  ·exact nomatch e
  ·injection e with e1 _;subst e1;cases v <;> rfl
theorem Kw (prog:Program) (w:World) (i:Int) (t:Tok):(cX prog w).is (.inl i) (.int i t)=true:=Q8 i t
theorem mz (prog:Program) (w:World) (x:Str) (t:Tok):(cX prog w).is (.inr x) (.str x t)=true:=QT x t
inductive V where
 | non | bl (b:Bool) | int (i:Int) | str (x:Str) | byt (b:Array UInt8) | flt (b:UInt64) | ref (a:Addr) | ty (n:String)
 deriving DecidableEq
noncomputable def RelV:V->Value->Prop
 | .non,u=>u=Value.none
 | .bl b,u=>u=Value.bool b
 | .int i,u=>∃t,u=Value.int i t
 | .str x,u=>∃t,u=Value.str x t
 | .byt b,u=>∃t,u=Value.bytes b t
 | .flt b,u=>∃t,u=Value.float b t
 | .ref a,u=>u=Value.ref a
 | .ty n,u=>u=Value.type n
noncomputable abbrev Vals:List V->List Value->Prop:=Paired RelV
theorem Vals.length {xs:List V} {us:List Value} (r:Vals xs us):xs.length=us.length:=Paired.length r
theorem Vals.get:∀{xs:List V} {us:List Value} {i:Nat} {x:V},Vals xs us->xs[i]?=some x->∃u,us[i]?=some u/\RelV x u
 | _,_,_,_,.nil,e=>by simp at e
 | _,_,0,_,.cons r _,e=>by simp at e;subst e;exact⟨_,rfl,r⟩
 | _,_,i+1,x,.cons _ t,e=>by obtain⟨u,h1,h2⟩:=Vals.get (i:=i) (x:=x) t (by simpa using e);exact⟨u,by simpa using h1,h2⟩
theorem Vals.append:∀{xs ys:List V} {us ws:List Value},Vals xs us->Vals ys ws->Vals (xs ++ ys) (us ++ ws)
 | _,_,_,_,.nil,s=>s
 | _,_,_,_,.cons r t,s=>.cons r (Vals.append t s)
theorem Vals.take:∀{xs:List V} {us:List Value} (n:Nat),Vals xs us->Vals (xs.take n) (us.take n)
 | _,_,0,_=>.nil
 | _,_,_+1,.nil=>.nil
 | _,_,n+1,.cons r t=>.cons r (Vals.take n t)
theorem Vals.drop:∀{xs:List V} {us:List Value} (n:Nat),Vals xs us->Vals (xs.drop n) (us.drop n)
 | _,_,0,r=>r
 | _,_,_+1,.nil=>.nil
 | _,_,n+1,.cons _ t=>Vals.drop n t
noncomputable def rA:Option V->Option Value->Prop
 | some v,some u=>RelV v u
 | none,none=>True
 | _,_=>False
noncomputable def KV {κ:Type}:List (κ×V)->List (κ×Value)->Prop:=Paired fun(p:κ×V) (q:κ×Value)=>p.1=q.1/\RelV p.2 q.2
noncomputable def kV:Key->V
 | .inl i=>.int i
 | .inr x=>.str x
inductive HO where
  | lst (xs:List V)
  | tup (xs:List V)
  | dK (kvs:List (Key×V)) | dT (kvs:List (List Key×V))
  | set (S:Int->Bool) (n:Nat)
  | ins (C dx:Addr) (fs:List (Str×V))
  | own (x:Addr)
  | xd (fs:List (Str×V))
  | met (f x:Addr)
  | rng (lo hi:Int)
  | frz (o:Obj) (u:HO)
  | tbl (ps:Array Value)
  | ext (φ:Heap->Prop)
noncomputable abbrev Hp:=Addr->Option HO
noncomputable def upd (H:Hp) (a:Addr) (o:HO):Hp:=λb=>if b=a then some o else H b
theorem aq {H:Hp} {a:Addr} {o:HO}:upd H a o a=some o:=by unfold upd;rw [if_pos rfl]
theorem aG {H:Hp} {a b:Addr} {o:HO} (h:b≠a):upd H a o b=H b:=by unfold upd;rw [if_neg h]
theorem tV {H:Hp} {a:Addr} {o u:HO}:upd (upd H a o) a u=upd H a u:=by funext b;unfold upd;split <;> rfl
theorem xm {H:Hp} {a b:Addr} {o u:HO} (h:H a=some o) (h':H b=some u) (d:o≠u):a≠b:=by intro e;subst e;rw [h] at h';exact d (Option.some.inj h')
theorem aC {H:Hp} {a b:Addr} {o:HO} (h:H a=some o) (h':H b=none):a≠b:=by intro e;subst e;rw [h] at h';cases h'
section
variable (P:Program) (w:World)
noncomputable def dD (H:Hp) (h:Heap) (a:Addr):HO->Prop
 | .lst xs=>xs.length<=sizeLine/\∃(its:List Value) (n:Nat),Vals xs its/\h.get? a=some { cls:=.type "list",data:=.seq its.toArray n }
 | .tup xs=>xs.length<=sizeLine/\∃its:List Value,Vals xs its/\IsTup h a its.toArray
 | .dK kvs=>kvs.length<=sizeLine/\(a == sysModules)=false/\∃vs,KV kvs vs/\h.DictOf (cX P w) a vs
 | .dT kvs=>kvs.length<=sizeLine/\(a == sysModules)=false/\∃xs:List (List Key×Addr×Value),
   Paired (fun(p:List Key×V) (q:List Key×Addr×Value)=>p.1=q.1/\H q.2.1=some (.tup (p.1.map kV))/\RelV p.2 q.2.2) kvs xs/\
   ∃o es ep,h.get? a=some o/\o.ExactDict/\o.data=.dict es ep/\es.toList=xs.map (entryOfKey (tupleKind (cX P w)))/\(xs.map (·.1)).Nodup
 | .set S n=>h.SetOf (intKind P w) a S n
 | .ins C dx fs=>H dx=some (.own a)/\fs.length<=1000/\dx≠a/\h.get? a=some (PySem.W.instObj C dx)/\
   ∃mA,h.Ns1 dx mA/\(∀f,rA (fs.lookup f) (mA f))/\PySem.Within mA (fs.map (·.1))
 | .own _=>∃o,h.get? a=some o
 | .xd fs=>∃mA,h.Ns1 a mA/\∀f,rA (fs.lookup f) (mA f)
 | .rng lo hi=>∃t u v,h.get? a=some { cls:=.type "range",data:=.fields #[.int lo t,.int hi u,.int 1 v] }
 | .frz o u=>h.get? a=some o/\dD H h a u
 | .tbl ps=>h.get? a=some { cls:=.none,data:=.fields ps }
 | .met f x=>h.get? a=some (PySem.W.methodObj (.ref f) (.ref x))
 | .ext φ=>φ h/\(∃o,h.get? a=some o)/\∀h1 h2:Heap,φ h1->(∀o,h1.get? a=some o->h2.get? a=some o)->φ h2
noncomputable def vU (H:Hp) (h:Heap):Prop:=∀a o,H a=some o->dD P w H h a o
end
section
variable {P:Program} {w:World} {H H':Hp} {h h':Heap} {a:Addr} {o:HO}
theorem dD.lt (x:dD P w H h a o):a <h.objs.size:=by
 cases o with
 | lst xs=>obtain⟨_,_,_,_,e⟩:=x;exact Heap.lt_size e
 | tup xs=>obtain⟨_,_,_,p⟩:=x;exact p.lt
 | dK kvs=>obtain⟨_,_,_,_,o,_,_,e,_⟩:=x;exact Heap.lt_size e
 | dT kvs=>obtain⟨_,_,_,_,o,_,_,e,_⟩:=x;exact Heap.lt_size e
 | set S n=>obtain⟨o,_,_,_,e,_⟩:=x;exact Heap.lt_size e
 | ins C dx fs=>obtain⟨_,_,_,e,_⟩:=x;exact Heap.lt_size e
 | own y=>obtain⟨_,e⟩:=x;exact Heap.lt_size e
 | xd fs=>obtain⟨_,⟨_,_,_,e,_⟩,_⟩:=x;exact Heap.lt_size e
 | rng lo hi=>obtain⟨_,_,_,e⟩:=x;exact Heap.lt_size e
 | frz ob u=>obtain⟨e,_⟩:=x;exact Heap.lt_size e
 | tbl ps=>exact Heap.lt_size (show h.get? a=some _ from x)
 | met f y=>exact Heap.lt_size (show h.get? a=some _ from x)
 | ext φ=>obtain⟨_,⟨_,e⟩,_⟩:=x;exact Heap.lt_size e
theorem Paired.mapP {α β:Type} {F G:α->β->Prop}:∀{l₁:List α} {l₂:List β},Paired F l₁ l₂->(∀a b,F a b->G a b)->Paired G l₁ l₂
 | _,_,.nil,_=>.nil
 | _,_,.cons r t,f=>.cons (f _ _ r) (Paired.mapP t f)
theorem dD.stay (x:dD P w H h a o) (k:∀b u,(b=a∨H b=some (.own a))->h.get? b=some u->h'.get? b=some u)
  (ho:∀b,H b=some (.own a)->H' b=some (.own a)) (ht:∀b xs,H b=some (.tup xs)->H' b=some (.tup xs)):dD P w H' h' a o:=by
 induction o with
 | lst xs=>obtain⟨z,its,n,r,e⟩:=x;exact⟨z,its,n,r,k _ _ (.inl rfl) e⟩
 | tup xs=>obtain⟨z,its,r,ob,e,c⟩:=x;exact⟨z,its,r,ob,k _ _ (.inl rfl) e,c⟩
 | dK kvs=>obtain⟨z,y,vs,r,ob,es,ep,e,c⟩:=x;exact⟨z,y,vs,r,ob,es,ep,k _ _ (.inl rfl) e,c⟩
 | dT kvs=>
  obtain⟨z,y,xs,r,ob,es,ep,e,c⟩:=x;exact⟨z,y,xs,Paired.mapP r λp q z=>⟨z.1,ht _ _ z.2.1,z.2.2⟩,ob,es,ep,k _ _ (.inl Z) e,c⟩
 | set S n=>obtain⟨ob,es,ep,t,e,c⟩:=x;exact⟨ob,es,ep,t,k _ _ (.inl rfl) e,c⟩
 | ins C dx fs=>
  obtain⟨d,z,ne,e,mA,⟨od,es,ep,e2,c⟩,r⟩:=x;exact⟨ho _ d,z,ne,k _ _ (.inl Z) e,mA,⟨od,es,ep,k _ _ (.inr d) e2,c⟩,r⟩
 | own y=>obtain⟨ob,e⟩:=x;exact⟨ob,k _ _ (.inl rfl) e⟩
 | xd fs=>obtain⟨mA,⟨od,es,ep,e,c⟩,r⟩:=x;exact⟨mA,⟨od,es,ep,k _ _ (.inl rfl) e,c⟩,r⟩
 | rng lo hi=>obtain⟨t,u,v,e⟩:=x;exact⟨t,u,v,k _ _ (.inl rfl) e⟩
 | frz ob u ih=>obtain⟨e,q⟩:=x;exact⟨k _ _ (.inl rfl) e,ih q⟩
 | tbl ps=>
  have e:h.get? a=some { cls:=.none,data:=.fields ps }:=x;show h'.get? a=some { cls:=.none,data:=.fields ps };exact k a _ (.inl Z) e
 | met f y=>
  have e:h.get? a=some (PySem.W.methodObj (.ref f) (.ref y)):=x;show h'.get? a=some (PySem.W.methodObj (.ref f) (.ref y));exact k a _ (.inl Z) e
 | ext φ=>obtain⟨p,⟨o,e⟩,st⟩:=x;exact⟨st _ _ p λo q=>k _ _ (.inl rfl) q,⟨o,k _ _ (.inl rfl) e⟩,st⟩
theorem vU.lt (x:vU P w H h) (e:H a=some o):a <h.objs.size:=(x a o e).lt
theorem vU.fresh (x:vU P w H h) (e:h.objs.size<=a):H a=none:=by
 cases q:H a with
 | none=>rfl
 | some u=>exact absurd (lt_of_lt_of_le (x.lt q) e) (lt_irrefl _)
theorem vU.kept (x:vU P w H h) (k:∀b u,h.get? b=some u->h'.get? b=some u):vU P w H h':=λa o e=>
 (x a o e).stay (λb u _ q=>k b u q) (λ_ q=>q) λ_ _ q=>q
theorem vU.laid (x:vU P w H h) (k:∀b u,h.get? b=some u->h'.get? b=some u) (hp:h.objs.size<=a) (new:dD P w (upd H a o) h' a o):vU P w (upd H a o) h':=λb u e=>by
 have hn:=x.fresh hp;by_cases hb:b=a
 ·subst hb;rw [aq] at e;cases e;exact new
 ·rw [aG hb] at e;exact(x b u e).stay (λc v _ q=>k c v q) (λc q=>by rw [aG (aC q hn)];exact q) λc xs q=>by rw [aG (aC q hn)];exact q
end
noncomputable def Rd (H:Hp) (a:Addr) (u:HO):Prop:=H a=some u∨∃o,H a=some (.frz o u)
theorem Rd.ok {P:Program} {w:World} {H:Hp} {h:Heap} {a:Addr} {u:HO} (r:Rd H a u) (x:vU P w H h):dD P w H h a u:=by
 rcases r with r | ⟨o,r⟩
 ·exact x a u r
 ·obtain⟨_,q⟩:=x a _ r;exact q
noncomputable def ZQ:Option HO->Prop
 | some (.lst _)=>True
 | some (.dK _)=>True
 | some (.dT _)=>True
 | some (.set _ _)=>True
 | some (.ins _ _ _)=>True
 | some (.ext _)=>True
 | _=>False
section
variable {P:Program} {w:World} {H:Hp} {h h':Heap} {x e:Addr} {o':HO}
theorem vU.write (ok:vU P w H h) (mu:ZQ (H x)) (he:e=x∨H e=some (.own x)) (k:∀b u,b≠e->h.get? b=some u->h'.get? b=some u) (heo:∃u,h'.get? e=some u)
  (new:dD P w (upd H x o') h' x o'):vU P w (upd H x o') h':=λb u q=>by
 have nown:∀c y,H c=some (.own y)->c≠x:=λc y r z=>by subst z;rw [r] at mu;exact mu
 have ntup:∀c xs,H c=some (.tup xs)->c≠x:=λc xs r z=>by subst z;rw [r] at mu;exact mu
 by_cases hb:b=x
 ·subst hb;rw [aq] at q;cases q;exact new
 ·rw [aG hb] at q;by_cases hbe:b=e
  ·have q':H b=some (.own x):=by
    rcases he with z | z
    ·exact absurd (hbe.trans z) hb
    ·rw [hbe];exact z
   rw [q] at q';cases q';obtain⟨v,hv⟩:=heo;exact⟨v,by rw [hbe];exact hv⟩
  ·refine(ok b u q).stay (λc v hc r=>k c v ?_ r) (λc r=>by rw [aG (nown c b r)];exact r) λc xs r=>by rw [aG (ntup c xs r)];exact r
   rcases hc with rfl | hc
   ·exact hbe
   ·rintro rfl;rcases he with z | z
    ·exact nown c b hc z
    ·rw [hc] at z;cases z;exact hb rfl
end
structure Un (fs ex:List Addr) (H H':Hp) (h h':Heap):Prop where
 keep:∀b o,h.get? b=some o->H b=none->b∉fs->b∉ex->h'.get? b=some o
 slot:∀b o,h.get? b=some o->H b=none->b∈fs->b∉ex->∃sl,h'.get? b=some { o with slots:=sl }
 free:∀b o,h.get? b=some o->H b=none->b∉ex->H' b=none
 there:∀b o,h.get? b=some o->b∉ex->∃o',h'.get? b=some o'
 tups:∀b xs,H b=some (.tup xs)->H' b=some (.tup xs)
 frzs:∀b o u,H b=some (.frz o u)->H' b=some (.frz o u)
 tbls:∀b ps,H b=some (.tbl ps)->∃more,H' b=some (.tbl (ps ++ more))
section
variable {fs fs' ex ex':List Addr} {H H1 H2:Hp} {h h1 h2 h':Heap} {a x e:Addr} {o:HO}
theorem Un.any (u:Un fs ex H H1 h h1) {b:Addr} {ob:Obj} (q:h.get? b=some ob) (n:H b=none) (hx:b∉ex):∃sl,h1.get? b=some { ob with slots:=sl }:=by
 by_cases hb:b∈fs
 ·exact u.slot b ob q n hb hx
 ·exact⟨ob.slots,u.keep b ob q n hb hx⟩
theorem Un.kept (k:∀b u,h.get? b=some u->h'.get? b=some u):Un fs ex H H h h':=
 ⟨λb ob q _ _ _=>k b ob q,λb ob q _ _ _=>⟨ob.slots,k b ob q⟩,λ_ _ _ n _=>n,λb ob q _=>⟨ob,k b ob q⟩,λ_ _ q=>q,λ_ _ _ q=>q,λ_ ps q=>⟨#[],by rw [q];simp⟩⟩
theorem Un.refl:Un fs ex H H h h:=Un.kept λ_ _ q=>q
theorem Un.laid (k:∀b u,h.get? b=some u->h'.get? b=some u) (hp:h.objs.size<=a) (hn:H a=none):Un fs ex H (upd H a o) h h' where
 keep:=λb u q _ _ _=>k b u q
 slot:=λb u q _ _ _=>⟨u.slots,k b u q⟩
 free:=λb u q n _=>by rw [aG (ne_of_lt (lt_of_lt_of_le (Heap.lt_size q) hp))];exact n
 there:=λb u q _=>⟨u,k b u q⟩
 tups:=λb xs q=>by rw [aG (aC q hn)];exact q
 frzs:=λb u xs q=>by rw [aG (aC q hn)];exact q
 tbls:=λb ps q=>⟨#[],by rw [aG (aC q hn),q];simp⟩
theorem Un.write (mu:ZQ (H x)) (he:e=x∨H e=some (.own x)) (k:∀b u,b≠e->h.get? b=some u->h'.get? b=some u) (heo:∃u,h'.get? e=some u):Un fs ex H (upd H x o) h h':=by
 have hx:∀b,H b=none->b≠x:=λb n z=>by subst z;rw [n] at mu;exact mu
 have hb:∀b,H b=none->b≠e:=λb n z=>by
  subst z;rcases he with r | r
  ·exact hx b n r
  ·rw [n] at r;cases r
 have hm:∀b u,H b=some u->¬ZQ (some u)->b≠x:=λb u q nm z=>by subst z;rw [q] at mu;exact nm mu
 refine⟨λb u q n _ _=>k b u (hb b n) q,λb u q n _ _=>⟨u.slots,k b u (hb b n) q⟩,λb u q n _=>by rw [aG (hx b n)];exact n,λb u q _=>?_,
  λb xs q=>by rw [aG (hm b _ q λz=>z)];exact q,λb u xs q=>by rw [aG (hm b _ q λz=>z)];exact q,λb ps q=>⟨#[],by rw [aG (hm b _ q λz=>z),q];simp⟩⟩
 by_cases hbe:b=e
 ·subst hbe;exact heo
 ·exact⟨u,k b u hbe q⟩
end
noncomputable def trk (h:Heap) (H:Hp):List Addr:=(List.range h.objs.size).filter λa=>(H a).isSome
noncomputable def J8 (h:Heap) (H:Hp):Heap:=PySem.W.hideAll h (trk h H)
theorem Qq (h:Heap) (H:Hp):(J8 h H).objs.size=h.objs.size:=PySem.W.hideAll_size _ _
theorem UW {h:Heap} {H:Hp} {b:Addr} {o:Obj} (e:h.get? b=some o) (n:H b=none):(J8 h H).get? b=some o:=
 PySem.W.hideAll_get _ e λhm=>by have q:(H b).isSome=true:=(mem_filter.mp hm).2;rw [n] at q;simp at q
theorem Vj {h:Heap} {H:Hp} {b:Addr} {o:Obj} (e:(J8 h H).get? b=some o):h.get? b=some o/\H b=none:=by
 have e':h.get? b=some o:=PySem.W.of_hideAll (trk h H) e;refine⟨e',?_⟩;cases q:H b with
 | none=>rfl
 | some x=>
  have hm:b∈trk h H:=mem_filter.mpr ⟨mem_range.mpr (Heap.lt_size e'),by simp [q]⟩;have z:(J8 h H).get? b=none:=PySem.W.hideAll_none (trk h H) hm;rw [z] at e;cases e
structure Mod (K:Fr) (mg:Str->Option Value) (base:Heap):Prop where
 kin:K.In base
 glob:base.Ns mainGlobals mg
 blt:∃mb,base.Ns builtinsNs mb/\∀x:Str,x≠ "__name__" ->mb x=bootBuiltins x
 nolimit:base.NoLimit
structure Cx where
 prog:Program
 w:World
 K:Fr
 mg:Str->Option Value
 base:Heap
 A:Around
 N:List Str
 s₀:Shared
 H₀:Hp
 env:Env
 outer:List Env
 stack:List Env
 ex:List Addr
 fn:Str->Bool
 calm:Bool
 pn:List (Addr×Obj)
 xe:Value->Shared->Prop
noncomputable def frs (l:List Env):List Addr:=l.filterMap (·.frame)
noncomputable abbrev Cx.fs (X:Cx):List Addr:=frs X.outer
noncomputable def Vis (sc:Scope) (x:Str):Prop:=sc.names.lookup x=some .local∨sc.names.lookup x=some .cell∨sc.names.lookup x=some .free
noncomputable def Loc (sc:Scope) (x:Str):Prop:=sc.names.lookup x=some .local∨sc.names.lookup x=some .cell
noncomputable def Look (env:Env) (h:Heap) (m:Str->Option Value) (x:Str) (u:Value):Prop:=
 (env.kindOf x=some .local/\m x=some u)∨((env.kindOf x=some .cell∨env.kindOf x=some .free)/\∃c,env.cells.lookup x=some c/\h.IsCell c (some u))
structure Cx.Ok (X:Cx):Prop where
 mod:Mod X.K X.mg X.base
 kind:X.env.scope.kind=.function
 glob:X.env.globals=mainGlobals
 blt:X.env.builtins=builtinsNs
 above:X.s₀.heap.objs.size<=X.env.locals
 inj:∀x y c,X.env.cells.lookup x=some c->X.env.cells.lookup y=some c->x=y
 has:∀x,(X.env.kindOf x=some .cell∨X.env.kindOf x=some .free)->∃c,X.env.cells.lookup x=some c
 cab:∀x c,X.fn x=true->X.env.cells.lookup x=some c->X.s₀.heap.objs.size<=c
 hd:X.calm=true->X.A.handled=none
 frames:X.A.frames=some X.stack
 stk:X.stack=X.outer∨(X.stack=X.env:: X.outer/\X.env.frame=some X.env.locals)
 exf:∀b∈X.ex,b≠X.env.locals/\∀x c,X.env.cells.lookup x=some c->c≠b
 bs:∀b o,X.base.get? b=some o->X.s₀.heap.get? b=some o/\X.H₀ b=none
 bsz:X.base.objs.size<=X.s₀.heap.objs.size
 noex:∀b o,X.base.get? b=some o->b∉X.ex
 exfs:∀b∈X.ex,b∉X.fs
 funs:X.s₀.heap.FunFrames X.base X.outer
 frf:∀b∈X.fs,X.H₀ b=none
structure Inv (X:Cx) (pins:List (Addr×Obj)) (σ:List (Option V)) (H:Hp) (s:Shared):Prop where
 ok:X.Ok
 os:s.os=X.s₀.os
 bare:AllBare s.gens
 base:Un X.fs X.ex X.H₀ H X.s₀.heap s.heap
 loc:∃m,s.heap.Ns X.env.locals m/\∀(i:Nat) (x:Str) (v:V),X.N[i]?=some x->σ[i]?=some (some v)->Vis X.env.scope x->∃u,RelV v u/\Look X.env s.heap m x u
 cell:∀x c,X.env.cells.lookup x=some c->∃v,s.heap.IsCell c v
 free:H X.env.locals=none
 freeC:∀x c,X.env.cells.lookup x=some c->H c=none
 pin:∀p∈X.pn ++ pins,s.heap.get? p.1=some p.2/\H p.1=none/\p.1≠X.env.locals/\p.1∉X.fs/\∀v,p.2.data≠.cell v
 hok:vU X.prog X.w H s.heap
 len:σ.length=X.N.length
section
variable {X:Cx} {pins:List (Addr×Obj)} {σ:List (Option V)} {H H':Hp} {s:Shared} {h':Heap}
theorem Cx.Ok.nofr (ok:X.Ok) {b:Addr} {o:Obj} (e:X.base.get? b=some o):b∉X.fs:=λhb=>by have:=(ok.funs.mem hb).1;rw [e] at this;cases this
theorem Inv.bs (I:Inv X pins σ H s):∀b o,X.base.get? b=some o->s.heap.get? b=some o/\H b=none:=λb o e=>
 ⟨I.base.keep b o (I.ok.bs b o e).1 (I.ok.bs b o e).2 (I.ok.nofr e) (I.ok.noex b o e),I.base.free b o (I.ok.bs b o e).1 (I.ok.bs b o e).2 (I.ok.noex b o e)⟩
theorem Inv.bk (I:Inv X pins σ H s):∀b o,X.base.get? b=some o->s.heap.get? b=some o:=λb o e=>(I.bs b o e).1
theorem Inv.mod (I:Inv X pins σ H s):Mod X.K X.mg X.base:=I.ok.mod
theorem Inv.kIn (I:Inv X pins σ H s):X.K.In s.heap:=I.ok.mod.kin.keeps I.bk
theorem Inv.lt (I:Inv X pins σ H s):X.env.locals <s.heap.objs.size:=let ⟨_,hn,_⟩:=I.loc;hn.lt
theorem Inv.sz (I:Inv X pins σ H s):X.s₀.heap.objs.size<=s.heap.objs.size:=le_trans I.ok.above (le_of_lt I.lt)
theorem Inv.nofs (I:Inv X pins σ H s) {a:Addr} (h:s.heap.objs.size<=a):a∉X.fs:=λhb=>by obtain⟨_,o,ho,_⟩:=I.ok.funs.mem hb;exact absurd (lt_of_lt_of_le (Heap.lt_size ho) (le_trans I.sz h)) (lt_irrefl _)
theorem Inv.cne (I:Inv X pins σ H s):∀x c,X.env.cells.lookup x=some c->c≠X.env.locals:=λx c e z=>by obtain⟨v,o,ho,hd⟩:=I.cell x c e;obtain⟨m,⟨o',es,ep,ho',hd',_⟩,_⟩:=I.loc;rw [z,ho'] at ho;cases ho;rw [hd'] at hd;cases hd
theorem Inv.funs (I:Inv X pins σ H s):s.heap.FunFrames X.base X.outer:=by
 have all:∀(l:List Env),(∀b∈frs l,b∈X.fs)->X.s₀.heap.FunFrames X.base l->s.heap.FunFrames X.base l:=by
  intro l;induction l with
  | nil=>intro _ _;trivial
  | cons env r ih=>
   intro hs hl;obtain⟨hk,⟨L,o,hf,hn,ho,hd⟩,hr⟩:=hl;have hL:L∈X.fs:=hs L (by unfold frs;rw [filterMap_cons,hf];exact mem_cons_self);obtain⟨sl,e⟩:=I.base.slot L o ho (I.ok.frf L hL) hL λz=>I.ok.exfs L z hL;exact⟨hk,⟨L,_,hf,hn,e,hd⟩,ih (λb hb=>hs b (by unfold frs;rw [filterMap_cons,hf];exact mem_cons_of_mem _ hb)) hr⟩
 exact all X.outer (λ_ hb=>hb) I.ok.funs
theorem Inv.stack (I:Inv X pins σ H s):s.heap.FunFrames X.base X.stack:=by
 rcases I.ok.stk with e | ⟨e,hf⟩
 ·rw [e];exact I.funs
 ·rw [e];obtain⟨m,hn,_⟩:=I.loc;refine .cons (by rw [I.ok.kind];decide) hf hn ?_ I.funs;exact Heap.get?_none_of_le (le_trans I.ok.bsz I.ok.above)
theorem Inv.stkSub (I:Inv X pins σ H s):∀b∈frs X.stack,b∈X.env.locals:: X.fs:=λb hb=>by
 rcases I.ok.stk with e | ⟨e,hf⟩
 ·rw [e] at hb;exact mem_cons_of_mem _ hb
 ·rw [e] at hb;unfold frs at hb;rw [filterMap_cons,hf] at hb;exact hb
theorem Inv.stkFree (I:Inv X pins σ H s):∀b∈frs X.stack,H b=none:=λb hb=>by
 rcases mem_cons.mp (I.stkSub b hb) with e | hb
 ·rw [e];exact I.free
 ·obtain⟨_,o,ho,_⟩:=I.ok.funs.mem hb;exact I.base.free b o ho (I.ok.frf b hb) λz=>I.ok.exfs b z hb
theorem Inv.step {g':Array GenState} {t':Nat} {d':Drawn} {ch:List Addr} (I:Inv X pins σ H s)
  (hch:∀b∈ch,(b∈X.ex∨X.s₀.heap.objs.size<=b)/\b≠X.env.locals/\(∀x c,X.env.cells.lookup x=some c->c≠b)/\∀p∈X.pn ++ pins,p.1≠b)
  (keep:∀b o,b≠X.env.locals->b∉X.fs->b∉ch->s.heap.get? b=some o->H b=none->h'.get? b=some o)
  (slot:∀b o,b≠X.env.locals->b∈X.fs->b∉ch->s.heap.get? b=some o->H b=none->∃sl,h'.get? b=some { o with slots:=sl }) (free:∀b o,b∉ch->s.heap.get? b=some o->H b=none->H' b=none)
  (there:∀b o,b∉ch->s.heap.get? b=some o->∃o',h'.get? b=some o')
  (tups:∀b xs,H b=some (.tup xs)->H' b=some (.tup xs)) (frzs:∀b o u,H b=some (.frz o u)->H' b=some (.frz o u)) (tbls:∀b ps,H b=some (.tbl ps)->∃more,H' b=some (.tbl (ps ++ more)))
  (ns:∀m,s.heap.Ns X.env.locals m->h'.Ns X.env.locals m) (hok:vU X.prog X.w H' h') (hg:AllBare g'):
  Inv X pins σ H' { s with heap:=h',gens:=g',drawn:=d',toks:=t' }:=by
 have neL:∀b o,X.s₀.heap.get? b=some o->b≠X.env.locals:=λb o e=>ne_of_lt (lt_of_lt_of_le (Heap.lt_size e) I.ok.above);have neC:∀b o,X.s₀.heap.get? b=some o->b∉X.ex->b∉ch:=λb o e hx hb=>by
  rcases(hch b hb).1 with z | z
  ·exact hx z
  ·exact absurd (lt_of_lt_of_le (Heap.lt_size e) z) (lt_irrefl _)
 have cellK:∀x c,X.env.cells.lookup x=some c->∀v,s.heap.IsCell c v->h'.IsCell c v:=λx c e v ⟨o,ho,hd⟩=>by
  have nch:c∉ch:=λz=>(hch c z).2.2.1 x c e rfl;by_cases hc:c∈X.fs
  ·obtain⟨sl,q⟩:=slot c o (I.cne x c e) hc nch ho (I.freeC x c e);exact⟨_,q,hd⟩
  ·exact⟨o,keep c o (I.cne x c e) hc nch ho (I.freeC x c e),hd⟩
 refine⟨I.ok,I.os,hg,⟨λb o e n hb hx=>?_,λb o e n hb hx=>?_,λb o e n hx=>?_,λb o e hx=>?_,λb xs e=>tups b xs (I.base.tups b xs e),λb o xs e=>frzs b o xs (I.base.frzs b o xs e),λb ps e=>?_⟩,?_,λx c e=>?_,?_,λx c e=>?_,λp hp=>?_,hok,I.len⟩
 ·exact keep b o (neL b o e) hb (neC b o e hx) (I.base.keep b o e n hb hx) (I.base.free b o e n hx)
 ·obtain⟨sl,e1⟩:=I.base.slot b o e n hb hx;obtain⟨sl',e2⟩:=slot b _ (neL b o e) hb (neC b o e hx) e1 (I.base.free b o e n hx);exact⟨sl',e2⟩
 ·obtain⟨o',e1⟩:=I.base.there b o e hx;exact free b o' (neC b o e hx) e1 (I.base.free b o e n hx)
 ·obtain⟨o',e1⟩:=I.base.there b o e hx;exact there b o' (neC b o e hx) e1
 ·obtain⟨m1,e1⟩:=I.base.tbls b ps e;obtain⟨m2,e2⟩:=tbls b _ e1;exact⟨m1 ++ m2,by rw [e2,Array.append_assoc]⟩
 ·obtain⟨m,hn,hl⟩:=I.loc;refine⟨m,ns m hn,λi x v e1 e2 e3=>?_⟩;obtain⟨u,r,l⟩:=hl i x v e1 e2 e3;refine⟨u,r,?_⟩;rcases l with l | ⟨k,c,e,z⟩
  ·exact .inl l
  ·exact .inr ⟨k,c,e,cellK x c e _ z⟩
 ·obtain⟨v,z⟩:=I.cell x c e;exact⟨v,cellK x c e v z⟩
 ·obtain⟨m,⟨o,_,_,ho,_⟩,_⟩:=I.loc;exact free _ o (λz=>(hch _ z).2.1 Z) ho I.free
 ·obtain⟨v,o,ho,hd⟩:=I.cell x c e;exact free c o (λz=>(hch c z).2.2.1 x c e Z) ho (I.freeC x c e)
 ·obtain⟨e,n,ne,nf,d⟩:=I.pin p hp;have nch:p.1∉ch:=λz=>(hch p.1 z).2.2.2 p hp rfl;exact⟨keep p.1 p.2 ne nf nch e n,free p.1 p.2 nch e n,ne,nf,d⟩
theorem Inv.un {t':Nat} (I:Inv X pins σ H s) (u:Un X.fs [] H H' s.heap h') (hok:vU X.prog X.w H' h'):Inv X pins σ H' { s with heap:=h',toks:=t' }:=by obtain⟨m,⟨o,es,ep,ho,r⟩,_⟩:=id I.loc;obtain⟨sl,hL⟩:=u.any ho I.free (by simp);exact I.step (g':=s.gens) (d':=s.drawn) (ch:=[]) (λ_ z=>nomatch z) (λb o _ hb _ e n=>u.keep b o e n hb (by simp)) (λb o _ hb _ e n=>u.slot b o e n hb (by simp)) (λb o _ e n=>u.free b o e n (by simp)) (λb o _ e=>u.there b o e (by simp)) u.tups u.frzs u.tbls (λm' hm=>by obtain⟨o',es',ep',ho',r'⟩:=hm;rw [ho] at ho';cases ho';exact⟨_,es',ep',hL,r'⟩) hok I.bare
theorem Inv.call {g':Array GenState} {t':Nat} {d':Drawn} {ch:List Addr} (I:Inv X pins σ H s) (u:Un (frs X.stack) ch H H' s.heap h') (hok:vU X.prog X.w H' h') (hg:AllBare g')
  (hch:∀b∈ch,(b∈X.ex∨X.s₀.heap.objs.size<=b)/\b≠X.env.locals/\(∀x c,X.env.cells.lookup x=some c->c≠b)/\∀p∈X.pn ++ pins,p.1≠b):
  Inv X pins σ H' { s with heap:=h',gens:=g',drawn:=d',toks:=t' }:=by
 obtain⟨m,⟨o,es,ep,ho,r⟩,_⟩:=id I.loc;obtain⟨sl,hL⟩:=u.any ho I.free λz=>(hch _ z).2.1 rfl;exact I.step (ch:=ch) hch (λb o hL hb hc e n=>u.keep b o e n (λz=>(mem_cons.mp (I.stkSub b z)).elim hL hb) hc) (λb o _ _ hc e n=>u.any e n hc) (λb o hc e n=>u.free b o e n hc) (λb o hc e=>u.there b o e hc) u.tups u.frzs u.tbls (λm' hm=>by obtain⟨o',es',ep',ho',r'⟩:=hm;rw [ho] at ho';cases ho';exact⟨_,es',ep',hL,r'⟩) hok hg
theorem Inv.turned {t':Nat} {it:Addr} (I:Inv X pins σ H s) (k:∀b o,b≠it->s.heap.get? b=some o->h'.get? b=some o) (hn:H it=none) (hL:it≠X.env.locals)
  (h1:it∈X.ex∨X.s₀.heap.objs.size<=it) (h2:∀x c,X.env.cells.lookup x=some c->c≠it) (h3:∀p∈X.pn ++ pins,p.1≠it):Inv X pins σ H { s with heap:=h',toks:=t' }:=by
 have nit:∀b u,H b=some u->b≠it:=λb u e z=>by rw [z,hn] at e;cases e
 refine I.step (g':=s.gens) (d':=s.drawn) (ch:=[it]) (λb hb=>?_) (λb o _ _ hc e _=>k b o (λz=>hc (by simp [z])) e) (λb o _ _ hc e _=>⟨o.slots,k b o (λz=>hc (by simp [z])) e⟩) (λ_ _ _ _ n=>n)
  (λb o hc e=>⟨o,k b o (λz=>hc (by simp [z])) e⟩) (λ_ _ e=>e) (λ_ _ _ e=>e) (λb ps e=>⟨#[],by rw [e];simp⟩) (λm hm=>?_) (λb u e=>?_) I.bare
 ·have e:b=it:=by simpa using hb
  subst e;exact⟨h1,hL,h2,h3⟩
 ·obtain⟨o,es,ep,ho,r⟩:=hm;exact⟨o,es,ep,k _ o (Ne.symm hL) ho,r⟩
 ·refine(I.hok b u e).stay (λc v hc q=>k c v ?_ q) (λ_ q=>q) λ_ _ q=>q;rcases hc with z | z
  ·rw [z];exact nit b u e
  ·exact nit c _ z
theorem Inv.tok (I:Inv X pins σ H s) (t:Nat):Inv X pins σ H { s with toks:=t }:=I.un (h':=s.heap) (t':=t) Un.refl I.hok
theorem Inv.kept {t':Nat} (I:Inv X pins σ H s) (k:∀b u,s.heap.get? b=some u->h'.get? b=some u):Inv X pins σ H { s with heap:=h',toks:=t' }:=I.un (Un.kept k) (I.hok.kept k)
theorem Inv.laid {a:Addr} {o:HO} {t':Nat} (I:Inv X pins σ H s) (k:∀b u,s.heap.get? b=some u->h'.get? b=some u) (hp:s.heap.objs.size<=a) (new:dD X.prog X.w (upd H a o) h' a o):
  Inv X pins σ (upd H a o) { s with heap:=h',toks:=t' }:=I.un (Un.laid k hp (I.hok.fresh hp)) (I.hok.laid k hp new)
theorem Inv.write {x e:Addr} {o:HO} {t':Nat} (I:Inv X pins σ H s) (mu:ZQ (H x)) (he:e=x∨H e=some (.own x)) (k:∀b u,b≠e->s.heap.get? b=some u->h'.get? b=some u) (heo:∃u,h'.get? e=some u)
  (new:dD X.prog X.w (upd H x o) h' x o):Inv X pins σ (upd H x o) { s with heap:=h',toks:=t' }:=I.un (Un.write mu he k heo) (I.hok.write mu he k heo new)
theorem Inv.weak {σ':List (Option V)} (I:Inv X pins σ H s) (hl:σ'.length=σ.length) (w:∀(i:Nat) v,σ'[i]?=some (some v)->σ[i]?=some (some v)):Inv X pins σ' H s:=
 ⟨I.ok,I.os,I.bare,I.base,let ⟨m,hn,hl'⟩:=I.loc;⟨m,hn,λi x v e1 e2 e3=>hl' i x v e1 (w i v e2) e3⟩,I.cell,I.free,I.freeC,I.pin,I.hok,hl.trans I.len⟩
theorem Inv.pins_of {pins':List (Addr×Obj)} (I:Inv X pins σ H s) (h:∀p∈pins',s.heap.get? p.1=some p.2/\H p.1=none/\p.1≠X.env.locals/\p.1∉X.fs/\∀v,p.2.data≠.cell v):Inv X pins' σ H s:=
 ⟨I.ok,I.os,I.bare,I.base,I.loc,I.cell,I.free,I.freeC,λp hp=>(mem_append.mp hp).elim (λz=>I.pin p (mem_append_left _ z)) (h p),I.hok,I.len⟩
theorem DW {N:List Str} (hN:N.Nodup) {i j:Nat} {x:Str} (a:N[i]?=some x) (b:N[j]?=some x):i=j:=by obtain⟨h1,e1⟩:=List.getElem?_eq_some_iff.mp a;obtain⟨h2,e2⟩:=List.getElem?_eq_some_iff.mp b;exact(getElem_inj hN).mp (e1.trans e2.symm)
theorem Ax {M:Model} {A:Around} {E:Value->Shared->Prop} {i:Nat} {x:Str} {v:V} {u:Value} {Q:Unit->Shared->Prop} (I:Inv X pins σ H s) (hN:X.N.Nodup) (hi:X.N[i]?=some x) (hx:Loc X.env.scope x) (r:RelV v u)
  (h:∀s',Inv X pins (σ.set i (some v)) H s'->(∃a,Heap.SameBut a s.heap s'.heap/\(a=X.env.locals∨X.env.cells.lookup x=some a))->Q () s') (hf:X.fn x=true∨X.env.scope.names.lookup x=some .local:=by first | exact .inl rfl | exact .inr rfl | assumption):wpAny M A (storeName X.env x u) Q E s:=by
 obtain⟨m,hn,hl⟩:=id I.loc;have hcls:(X.env.scope.kind == .class || (X.env.scope.kind == .module && X.env.locals != X.env.globals))=false:=by rw [I.ok.kind];rfl
 have hiσ:i <σ.length:=by rw [I.len];exact(List.getElem?_eq_some_iff.mp hi).1
 have cne:=I.cne;have tracked:∀{a:Addr} {h':Heap},(∃o,s.heap.get? a=some o/\H a=none)->Heap.SameBut a s.heap h'->vU X.prog X.w H h':=λ{a h'} ha hs b ob e=>by
  obtain⟨_,_,hfree⟩:=ha;refine(I.hok b ob e).stay (λc w' hc q=>(hs.2 c ?_).trans q) (λ_ q=>q) λ_ _ q=>q;rintro rfl;rcases hc with rfl | hc
  ·rw [hfree] at e;cases e
  ·rw [hfree] at hc;cases hc
 rcases hx with hk | hk
 ·refine wpAny_storeName_local hk hn (λh' hn' hs=>?_) hcls;obtain⟨oL,_,_,hoL,_⟩:=id hn;refine h _ ⟨I.ok,I.os,I.bare,⟨λb o e n hb hx=>?_,λb o e n hb hx=>?_,I.base.free,λb o e hx=>?_,I.base.tups,I.base.frzs,I.base.tbls⟩,⟨_,hn',λj y v' e1 e2 e3=>?_⟩,λy c e=>?_,I.free,I.freeC,λp hp=>?_,tracked ⟨oL,hoL,I.free⟩ hs,by simpa using I.len⟩ ⟨_,hs,.inl Z⟩
  ·exact(hs.2 b (ne_of_lt (lt_of_lt_of_le (Heap.lt_size e) I.ok.above))).trans (I.base.keep b o e n hb hx)
  ·obtain⟨sl,e1⟩:=I.base.slot b o e n hb hx;exact⟨sl,(hs.2 b (ne_of_lt (lt_of_lt_of_le (Heap.lt_size e) I.ok.above))).trans e1⟩
  ·obtain⟨o',e1⟩:=I.base.there b o e hx;exact⟨o',(hs.2 b (ne_of_lt (lt_of_lt_of_le (Heap.lt_size e) I.ok.above))).trans e1⟩
  ·by_cases hj:j=i
   ·subst hj;rw [hi] at e1;cases e1;rw [List.getElem?_set_self hiσ] at e2;cases e2;exact⟨u,r,.inl ⟨hk,by simp⟩⟩
   ·rw [List.getElem?_set_ne (Ne.symm hj)] at e2;obtain⟨u',r',q⟩:=hl j y v' e1 e2 e3;refine⟨u',r',?_⟩;rcases q with ⟨k,e⟩ | ⟨k,c,e,z⟩
    ·refine .inl ⟨k,?_⟩;have:y≠x:=λe=>hj (DW hN e1 (e ▸ hi));simp [this,e]
    ·exact .inr ⟨k,c,e,z.sameBut hs (cne y c e)⟩
  ·obtain⟨w',z⟩:=I.cell y c e;exact⟨w',z.sameBut hs (cne y c e)⟩
  ·obtain⟨e,n,ne,nf,d⟩:=I.pin p hp;exact⟨(hs.2 p.1 ne).trans e,n,ne,nf,d⟩
 ·have hfn:X.fn x=true:=by
   rcases hf with z | z
   ·exact z
   ·rw [z] at hk;cases hk
  obtain⟨c,hc⟩:=I.ok.has x (.inl hk);obtain⟨w',z⟩:=I.cell x c hc;refine wpAny_storeName_cell I.ok.kind hk hc z (λh' hc' hs=>?_);obtain⟨oc,hoc,hocd⟩:=id z;refine h { s with heap:=h' } ⟨I.ok,I.os,I.bare,⟨λb o e n hb hx=>?_,λb o e n hb hx=>?_,I.base.free,λb o e hx=>?_,I.base.tups,I.base.frzs,I.base.tbls⟩,⟨m,hn.sameBut hs (Ne.symm (cne x c hc)),λj y v' e1 e2 e3=>?_⟩,λy c' e=>?_,I.free,I.freeC,λp hp=>?_,tracked ⟨oc,hoc,I.freeC x c hc⟩ hs,by simpa using I.len⟩ ⟨c,hs,.inr hc⟩
  ·exact(hs.2 b (ne_of_lt (lt_of_lt_of_le (Heap.lt_size e) (I.ok.cab x c hfn hc)))).trans (I.base.keep b o e n hb hx)
  ·obtain⟨sl,e1⟩:=I.base.slot b o e n hb hx;exact⟨sl,(hs.2 b (ne_of_lt (lt_of_lt_of_le (Heap.lt_size e) (I.ok.cab x c hfn hc)))).trans e1⟩
  ·obtain⟨o',e1⟩:=I.base.there b o e hx;exact⟨o',(hs.2 b (ne_of_lt (lt_of_lt_of_le (Heap.lt_size e) (I.ok.cab x c hfn hc)))).trans e1⟩
  ·by_cases hj:j=i
   ·subst hj;rw [hi] at e1;cases e1;rw [List.getElem?_set_self hiσ] at e2;cases e2;exact⟨u,r,.inr ⟨.inl hk,c,hc,hc'⟩⟩
   ·rw [List.getElem?_set_ne (Ne.symm hj)] at e2;obtain⟨u',r',q⟩:=hl j y v' e1 e2 e3;refine⟨u',r',?_⟩;rcases q with q | ⟨k,c',e,z'⟩
    ·exact .inl q
    ·refine .inr ⟨k,c',e,z'.sameBut hs ?_⟩;rintro rfl;exact hj (DW hN e1 (I.ok.inj _ _ _ e hc ▸ hi))
  ·by_cases hcc:c'=c
   ·subst hcc;exact⟨_,hc'⟩
   ·obtain⟨w2,z2⟩:=I.cell y c' e;exact⟨w2,z2.sameBut hs hcc⟩
  ·obtain⟨e,n,ne,nf,d⟩:=I.pin p hp;refine⟨(hs.2 p.1 ?_).trans e,n,ne,nf,d⟩;intro q;rw [q,hoc] at e;have q':oc=p.2:=Option.some.inj e;exact d w' (by rw [<-q'];exact hocd)
theorem Fx {M:Model} {A:Around} {E:Value->Shared->Prop} {i:Nat} {x:Str} {v:V} {u:Value} {Q:Unit->Shared->Prop} (I:Inv X pins σ H s) (hN:X.N.Nodup) (hi:X.N[i]?=some x) (hx:Loc X.env.scope x) (r:RelV v u)
  (h:∀s',Inv X pins (σ.set i (some v)) H s'->Q () s') (hf:X.fn x=true∨X.env.scope.names.lookup x=some .local:=by first | exact .inl rfl | exact .inr rfl | assumption):wpAny M A (storeName X.env x u) Q E s:=
 Ax I hN hi hx r (λs' I' _=>h s' I') hf
theorem Inv.call' {s':Shared} {ch:List Addr} (I:Inv X pins σ H s) (ho:s'.os=s.os) (u:Un (frs X.stack) ch H H' s.heap s'.heap) (hok:vU X.prog X.w H' s'.heap) (hg:AllBare s'.gens)
  (hch:∀b∈ch,(b∈X.ex∨X.s₀.heap.objs.size<=b)/\b≠X.env.locals/\(∀x c,X.env.cells.lookup x=some c->c≠b)/\∀p∈X.pn ++ pins,p.1≠b):Inv X pins σ H' s':=by
 obtain⟨h',g',d',t',o'⟩:=s';have e:o'=s.os:=ho;subst e;exact I.call (g':=g') (t':=t') (d':=d') u hok hg hch
end
noncomputable abbrev XK:=Value->Option Addr->Hp->Prop
noncomputable abbrev St:=List (Option V)
noncomputable abbrev VK:=V->Hp->Prop
noncomputable abbrev TE:=St->Hp->VK->Prop
noncomputable abbrev TT:=St->Hp->(Bool->Hp->Prop)->Prop
noncomputable abbrev TA:=St->Hp->(List V->Hp->Prop)->Prop
structure Ends where
 nx:St->Hp->Prop
 rt:VK
 bk:St->Hp->Prop:=λ_ _=>False
 ct:St->Hp->Prop:=λ_ _=>False
noncomputable abbrev TS:=Ends->St->Hp->Prop
noncomputable def EP (X:Cx) (pins:List (Addr×Obj)) (σ:St) (Q:VK) (u:Value) (s':Shared):Prop:=∃v H',Inv X pins σ H' s'/\RelV v u/\Q v H'
noncomputable def TP (X:Cx) (pins:List (Addr×Obj)) (σ:St) (Q:Bool->Hp->Prop) (b:Bool) (s':Shared):Prop:=∃H',Inv X pins σ H' s'/\Q b H'
noncomputable def AP (X:Cx) (pins:List (Addr×Obj)) (σ:St) (Q:List V->Hp->Prop) (us:List Value) (s':Shared):Prop:=∃vs H',Inv X pins σ H' s'/\Vals vs us/\Q vs H'
noncomputable def SP (X:Cx) (pins:List (Addr×Obj)) (D:Ends) (f:Flow) (s':Shared):Prop:=
 match f with
 | .next=>∃σ' H',Inv X pins σ' H' s'/\D.nx σ' H'
 | .brk=>∃σ' H',Inv X pins σ' H' s'/\D.bk σ' H'
 | .cont=>∃σ' H',Inv X pins σ' H' s'/\D.ct σ' H'
 | .ret u=>∃v σ' H',Inv X pins σ' H' s'/\RelV v u/\D.rt v H'
noncomputable def PE (X:Cx) (e:Expr) (t:TE):Prop:=
 ∀(pins:List (Addr×Obj)) (s:Shared) (σ:St) (H:Hp) (Q:VK),Inv X pins σ H s->t σ H Q->wpAny (model X.prog X.w) X.A (eval e X.env) (EP X pins σ Q) X.xe s
noncomputable def PT (X:Cx) (e:Expr) (t:TT):Prop:=
 ∀(pins:List (Addr×Obj)) (s:Shared) (σ:St) (H:Hp) (Q:Bool->Hp->Prop),Inv X pins σ H s->t σ H Q->wpAny (model X.prog X.w) X.A (isTrue e X.env (eval e X.env)) (TP X pins σ Q) X.xe s
noncomputable def PW (X:Cx) (e:Expr) (t:TT):Prop:=
 ∀(whole:Sem Value) (pins:List (Addr×Obj)) (s:Shared) (σ:St) (H:Hp) (Q:Bool->Hp->Prop),Inv X pins σ H s->t σ H Q->wpAny (model X.prog X.w) X.A (isTrue e X.env whole) (TP X pins σ Q) X.xe s
theorem PW.pt {X:Cx} {e:Expr} {t:TT} (h:PW X e t):PT X e t:=h _
noncomputable def PA (X:Cx) (es:List Expr) (t:TA):Prop:=
 ∀(pos:Pos) (pins:List (Addr×Obj)) (s:Shared) (σ:St) (H:Hp) (Q:List V->Hp->Prop),Inv X pins σ H s->t σ H Q->wpAny (model X.prog X.w) X.A (spliced (backTo pos (starEach es X.env))) (AP X pins σ Q) X.xe s
noncomputable def PS (X:Cx) (st:Stmt) (t:TS):Prop:=
 ∀(pins:List (Addr×Obj)) (s:Shared) (σ:St) (H:Hp) (D:Ends),Inv X pins σ H s->t D σ H->wpAny (model X.prog X.w) X.A (exec st X.env) (SP X pins D) X.xe s
noncomputable def LR (X:Cx) (st:List Stmt) (t:TS):Prop:=
 ∀(pins:List (Addr×Obj)) (s:Shared) (σ:St) (H:Hp) (D:Ends),Inv X pins σ H s->t D σ H->wpAny (model X.prog X.w) X.A (execs st X.env) (SP X pins D) X.xe s
theorem dz {α:Type} {t:Sem α} {Q Q':α->Shared->Prop} {M:Model} {A:Around} {E:Value->Shared->Prop} {s:Shared} (h:wpAny M A t Q E s) (hQ:∀a s,Q a s->Q' a s):wpAny M A t Q' E s:=wpAny_mono h hQ λ_ _ x=>x
section
variable {X:Cx}
inductive WD (i:Nat) (σ:St) (H:Hp) (Q:VK):Prop where
 | mk:∀v,σ[i]?=some (some v)->Q v H->WD i σ H Q
noncomputable def Qx (i:Nat):TE:=λσ H Q=>WD i σ H Q
noncomputable def tC (v:V):TE:=λ_ H Q=>Q v H
theorem XM {i:Nat} {x:Str} {pos:Pos} (hN:X.N[i]?=some x) (hv:Vis X.env.scope x) (hd:(x == ("__debug__" :Str))=false:=by decide) (hcd:(x == ("__classdict__" :Str))=false:=by decide):PE X (.Name x pos) (Qx i):=by
 intro pins s σ H Q I h;obtain⟨v,e,h⟩:=h;obtain⟨m,hn,hl⟩:=I.loc;obtain⟨u,r,l⟩:=hl i x v hN e hv;have fin:EP X pins σ Q u s:=⟨v,H,I,r,h⟩;rcases l with ⟨hk,hm⟩ | ⟨hk,c,hc,hcell⟩
 ·exact wpAny_Name (wpAny_loadName_local I.ok.kind hk hn hm fin) hd
 ·rcases hk with hk | hk
  ·exact wpAny_Name (wpAny_loadName_cell I.ok.kind hk hc hcell fin) hd
  ·exact wpAny_Name (wpAny_loadName_free I.ok.kind hk hc hcell fin hcd) hd
theorem au {i j pos}:PE X (.Constant (.int i) j pos) (tC (.int i)):=λ_ _ _ H _ I h=>wpAny_Constant_int ⟨.int i,H,I.tok _,⟨_,rfl⟩,h⟩
theorem ir {b j pos}:PE X (.Constant (.bool b) j pos) (tC (.bl b)):=λ_ _ _ H _ I h=>Constant_bool ⟨.bl b,H,I,rfl,h⟩
theorem nQ {j pos}:PE X (.Constant .none j pos) (tC .non):=λ_ _ _ H _ I h=>Constant_none ⟨.non,H,I,rfl,h⟩
theorem bH {x j pos}:PE X (.Constant (.str x) j pos) (tC (.str x)):=λ_ _ _ H _ I h=>Calls.Constant_str ⟨.str x,H,I.tok _,⟨_,rfl⟩,h⟩
noncomputable def Gl (X:Cx) (x:Str):Prop:=X.env.kindOf x=some .globalImplicit
theorem wH {E:Value->Shared->Prop} {pins:List (Addr×Obj)} {s:Shared} {σ:St} {H:Hp} {x:Str} {u:Value} {pos:Pos} {Q:Value->Shared->Prop} (I:Inv X pins σ H s) (hg:Gl X x) (hm:X.mg x=some u) (h:Q u s)
  (hd:(x == ("__debug__" :Str))=false:=by decide):wpAny (model X.prog X.w) X.A (eval (.Name x pos) X.env) Q E s:=
 Calls.Name_function_global I.ok.kind hg (Calls.loadGlobal_global (by rw [I.ok.glob];exact I.mod.glob.keeps I.bk) hm h) hd
theorem Jm {E:Value->Shared->Prop} {pins:List (Addr×Obj)} {s:Shared} {σ:St} {H:Hp} {x:Str} {u:Value} {pos:Pos} {Q:Value->Shared->Prop} (I:Inv X pins σ H s) (hg:Gl X x) (hm:X.mg x=none) (hv:bootBuiltins x=some u) (h:Q u s)
  (hn:x≠ "__name__" :=by decide) (hd:(x == ("__debug__" :Str))=false:=by decide):wpAny (model X.prog X.w) X.A (eval (.Name x pos) X.env) Q E s:=by
 obtain⟨mb,h1,h2⟩:=I.mod.blt;exact Calls.Name_function_global I.ok.kind hg (Calls.loadGlobal_builtin (by rw [I.ok.glob];exact I.mod.glob.keeps I.bk) hm (by rw [I.ok.blt];exact h1.keeps I.bk) ((h2 x hn).trans hv) h) hd
theorem Dl {x:Str} {v:V} {u:Value} {pos:Pos} (hg:Gl X x) (hm:X.mg x=some u) (r:RelV v u) (hd:(x == ("__debug__" :Str))=false:=by decide):PE X (.Name x pos) (tC v):=
 λ_ _ _ H _ I h=>wH I hg hm ⟨v,H,I,r,h⟩ hd
theorem V9 {x:Str} {v:V} {u:Value} {pos:Pos} (hg:Gl X x) (hm:X.mg x=none) (hv:bootBuiltins x=some u) (r:RelV v u) (hn:x≠ "__name__" :=by decide) (hd:(x == ("__debug__" :Str))=false:=by decide):PE X (.Name x pos) (tC v):=
 λ_ _ _ H _ I h=>Jm I hg hm hv ⟨v,H,I,r,h⟩ hn hd
variable {a b:Expr} {ta tb:TE} {pos:Pos}
noncomputable def PC (X:Cx) (op:CmpOp) (a b:Expr) (t:TE):Prop:=
 ∀(pins:List (Addr×Obj)) (s:Shared) (σ:St) (H:Hp) (Q:VK),Inv X pins σ H s->t σ H Q->
  wpAny (model X.prog X.w) X.A (eval a X.env) (λv s₁=>wpAny (model X.prog X.w) X.A (eval b X.env) (λu s₂=>wpAny (model X.prog X.w) X.A (compareOp op v u) (EP X pins σ Q) X.xe s₂) X.xe s₁) X.xe s
theorem K5 (b:Expr) {op:CmpOp} (h:op≠.In) (h2:op≠.NotIn):behindInMarks op b=false:=by
 have e1:(op == CmpOp.In)=false:=by cases op <;> first | rfl | exact absurd rfl h
 have e2:(op == CmpOp.NotIn)=false:=by cases op <;> first | rfl | exact absurd rfl h2
 cases b <;> simp [behindInMarks,e1,e2]
noncomputable def abe (ta:TE):TE:=λσ H Q=>ta σ H λx H1=>Q (.bl (decide (x=.non))) H1
noncomputable def Zn (ta:TE):TE:=λσ H Q=>ta σ H λx H1=>Q (.bl (!decide (x=.non))) H1
theorem RelV.none_iff {x:V} {v:Value} (r:RelV x v):(v == Value.none)=decide (x=.non):=by
 cases x with
 | non=>cases r;rfl
 | bl _=>cases r;rfl
 | int _=>obtain⟨t,rfl⟩:=r;rfl
 | str _=>obtain⟨t,rfl⟩:=r;rfl
 | byt _=>obtain⟨t,rfl⟩:=r;rfl
 | flt _=>obtain⟨t,rfl⟩:=r;rfl
 | ref _=>cases r;rfl
 | ty _=>cases r;rfl
theorem ym {j pos'} (ha:PE X a ta):PC X .Is a (.Constant .none j pos') (abe ta):=by intro pins s σ H Q I h;refine dz (ha pins s σ H _ I h) λv s1 hpt=>?_;obtain⟨x,H1,I1,r1,q1⟩:=hpt;exact Constant_none (is_none_gen ⟨.bl _,H1,I1,by rw [r1.none_iff];rfl,q1⟩)
theorem Di {j pos'} (ha:PE X a ta):PC X .IsNot a (.Constant .none j pos') (Zn ta):=by intro pins s σ H Q I h;refine dz (ha pins s σ H _ I h) λv s1 hpt=>?_;obtain⟨x,H1,I1,r1,q1⟩:=hpt;exact Constant_none (isnot_none_gen ⟨.bl _,H1,I1,by rw [r1.none_iff];rfl,q1⟩)
inductive tBI (Q:Bool->Hp->Prop) (x:V) (H1:Hp):Prop where
 | mk:∀c,x=.bl c->Q c H1->tBI Q x H1
noncomputable def tB (t:TE):TT:=λσ H Q=>t σ H λx H1=>tBI Q x H1
theorem Ao {op:CmpOp} {t:TE} (h:PC X op a b t) (h1:behindInMarks op b=false:=by first | exact K5 _ (by decide) (by decide) | rfl):PE X (.Compare a [op] [b] pos) t:=λpins s σ H Q I hw=>wpAny_Compare1 (h pins s σ H Q I hw) h1
theorem jx {op:CmpOp} {t:TE} (h:PC X op a b t) (h1:behindInMarks op b=false:=by first | exact K5 _ (by decide) (by decide) | rfl):PT X (.Compare a [op] [b] pos) (tB t):=by intro pins s σ H Q I hw;refine wpAny_isTrue_Compare1 (dz (h pins s σ H _ I hw) λv s1 h1=>dz h1 λu s2 h2=>dz h2 λc s3 hpt=>?_) h1;obtain⟨x,H1,I1,r1,q1⟩:=hpt;obtain⟨d,rfl,q⟩:=q1;cases r1;exact wpAny_truthy_bool ⟨H1,I1,q⟩
theorem jL {e:Expr} {t:TE} (h:PE X e t) (he:∀whole,isTrue e X.env whole=(do let v <-whole;standAt e.pos;holding [v] (truthy v)):=by intro _;rfl):PT X e (tB t):=by intro pins s σ H Q I hw;refine isTrue_plain (dz (h pins s σ H _ I hw) λv s1 ⟨x,H1,I1,r1,q1⟩=>?_) (he _);obtain⟨d,rfl,q⟩:=q1;cases r1;exact wpAny_truthy_bool ⟨H1,I1,q⟩
variable {tA tB':TT} {rest:List Expr}
noncomputable def aa0 (t u:TT):TT:=λσ H Q=>t σ H λc H1=>if c=true then u σ H1 Q else Q false H1
noncomputable def tOr (t u:TT):TT:=λσ H Q=>t σ H λc H1=>if c=true then Q true H1 else u σ H1 Q
noncomputable def aaV (t:TT):TT:=λσ H Q=>t σ H λc H1=>Q (!c) H1
theorem Df (ha:PT X a tA):PW X (.BoolOp .And [a] pos) tA:=by
 intro wh pins s σ H Q I h;refine isTrue_and (dz (ha pins s σ H Q I h) λc s1 e=>?_);cases c with
 | true=>exact isTrue_and_nil e
 | false=>exact e
theorem pP (ha:PT X a tA):PW X (.BoolOp .Or [a] pos) tA:=by
 intro wh pins s σ H Q I h;refine isTrue_or (dz (ha pins s σ H Q I h) λc s1 e=>?_);cases c with
 | false=>exact isTrue_or_nil e
 | true=>exact e
theorem Ds (ha:PT X a tA) (hb:PW X (.BoolOp .And (b:: rest) pos) tB'):PW X (.BoolOp .And (a:: b:: rest) pos) (aa0 tA tB'):=by
 intro wh pins s σ H Q I h;refine isTrue_and (dz (ha pins s σ H _ I h) λc s1 hpt=>?_);obtain⟨H1,I1,q1⟩:=hpt;cases c with
 | true=>exact hb wh pins s1 σ H1 Q I1 q1
 | false=>exact⟨H1,I1,q1⟩
theorem ww (ha:PT X a tA) (hb:PW X (.BoolOp .Or (b:: rest) pos) tB'):PW X (.BoolOp .Or (a:: b:: rest) pos) (tOr tA tB'):=by
 intro wh pins s σ H Q I h;refine isTrue_or (dz (ha pins s σ H _ I h) λc s1 hpt=>?_);obtain⟨H1,I1,q1⟩:=hpt;cases c with
 | true=>exact⟨H1,I1,q1⟩
 | false=>exact hb wh pins s1 σ H1 Q I1 q1
theorem jU (ha:PT X a tA):PT X (.UnaryOp .Not a pos) (aaV tA):=by intro pins s σ H Q I h;exact isTrue_not (ha pins s σ H (λc H1=>Q (!c) H1) I h)
inductive Rv (tb:TE) (σ:St) (Q:VK) (x:V) (H1:Hp):Prop where
 | mk:∀c,x=.bl c->(if c=true then tb σ H1 Q else Q (.bl false) H1)->Rv tb σ Q x H1
noncomputable def aag (ta tb:TE):TE:=λσ H Q=>ta σ H λx H1=>Rv tb σ Q x H1
inductive WK (tb:TE) (σ:St) (Q:VK) (x:V) (H1:Hp):Prop where
 | mk:∀c,x=.bl c->(if c=true then Q (.bl true) H1 else tb σ H1 Q)->WK tb σ Q x H1
noncomputable def aaJ (ta tb:TE):TE:=λσ H Q=>ta σ H λx H1=>WK tb σ Q x H1
inductive Um (Q:VK) (x:V) (H1:Hp):Prop where
 | mk:∀c,x=.bl c->Q (.bl (!c)) H1->Um Q x H1
noncomputable def aah (ta:TE):TE:=λσ H Q=>ta σ H λx H1=>Um Q x H1
theorem Bd {op} {t:TE} (h:PE X a t):PE X (.BoolOp op [a] pos) t:=λpins s σ H Q I hw=>BoolOp_one (h pins s σ H Q I hw)
theorem Bh (ha:PE X a ta) (hb:PE X (.BoolOp .And (b:: rest) pos) tb):PE X (.BoolOp .And (a:: b:: rest) pos) (aag ta tb):=by
 intro pins s σ H Q I h;refine BoolOp_and (dz (ha pins s σ H _ I h) λv s1 hpt=>?_);obtain⟨x,H1,I1,r1,q1⟩:=hpt;obtain⟨c,rfl,q1⟩:=q1;cases r1;refine wpAny_truthy_bool ?_;cases c with
 | true=>exact hb pins s1 σ H1 Q I1 q1
 | false=>exact⟨.bl false,H1,I1,rfl,q1⟩
theorem ZG (ha:PE X a ta) (hb:PE X (.BoolOp .Or (b:: rest) pos) tb):PE X (.BoolOp .Or (a:: b:: rest) pos) (aaJ ta tb):=by
 intro pins s σ H Q I h;refine BoolOp_or (dz (ha pins s σ H _ I h) λv s1 hpt=>?_);obtain⟨x,H1,I1,r1,q1⟩:=hpt;obtain⟨c,rfl,q1⟩:=q1;cases r1;refine wpAny_truthy_bool ?_;cases c with
 | false=>exact hb pins s1 σ H1 Q I1 q1
 | true=>exact⟨.bl true,H1,I1,rfl,q1⟩
theorem YT (ha:PE X a ta):PE X (.UnaryOp .Not a pos) (aah ta):=by intro pins s σ H Q I h;refine UnaryOp_ (dz (ha pins s σ H _ I h) λv s1 hpt=>?_);obtain⟨x,H1,I1,r1,q1⟩:=hpt;obtain⟨c,rfl,q1⟩:=q1;cases r1;exact not_of (wpAny_truthy_bool ⟨.bl (!c),H1,I1,Z,q1⟩)
noncomputable def tIf (t:TT) (ta tb:TE):TE:=λσ H Q=>t σ H λc H1=>if c=true then ta σ H1 Q else tb σ H1 Q
theorem vO {c:Expr} (hc:PT X c tA) (ha:PE X a ta) (hb:PE X b tb):PE X (.IfExp c a b pos) (tIf tA ta tb):=by
 intro pins s σ H Q I h;refine wpAny_IfExp (dz (hc pins s σ H _ I h) λd s1 hpt=>?_);obtain⟨H1,I1,q1⟩:=hpt;cases d with
 | true=>exact ha pins s1 σ H1 Q I1 q1
 | false=>exact hb pins s1 σ H1 Q I1 q1
end
noncomputable def bK (K:Fr) (H:Hp) (a:Addr) (xs:List V):Prop:=
 Rd H a (.lst xs)∨
  ∃(o:Obj) (its:Array Value) (n:Nat),K.lookup a=some o/\o.cls=.type "list" /\o.dict=none/\o.data=.seq its n/\its.size<=sizeLine/\Vals xs its.toList
noncomputable def gq (K:Fr) (H:Hp) (a:Addr) (xs:List V):Prop:=
 Rd H a (.tup xs)∨
  ∃(o:Obj) (its:Array Value) (n:Nat),K.lookup a=some o/\o.cls=.type "tuple" /\o.data=.seq its n/\its.size<=sizeLine/\Vals xs its.toList
noncomputable def aaF:Value->Option V
 | .none=>some .non
 | .bool b=>some (.bl b)
 | .int i _=>some (.int i)
 | .str x _=>some (.str x)
 | .bytes b _=>some (.byt b)
 | .float b _=>some (.flt b)
 | .ref a=>some (.ref a)
 | .type n=>some (.ty n)
 | _=>none
theorem RelV.abs {x:V} {u:Value} (r:RelV x u):aaF u=some x:=by
 cases x with
 | non=>cases r;rfl
 | bl _=>cases r;rfl
 | int _=>obtain⟨t,rfl⟩:=r;rfl
 | str _=>obtain⟨t,rfl⟩:=r;rfl
 | byt _=>obtain⟨t,rfl⟩:=r;rfl
 | flt _=>obtain⟨t,rfl⟩:=r;rfl
 | ref _=>cases r;rfl
 | ty _=>cases r;rfl
theorem RelV.inj {x y:V} {u:Value} (r:RelV x u) (q:RelV y u):x=y:=Option.some.inj (r.abs.symm.trans q.abs)
theorem Vals.inj:∀{xs ys:List V} {us:List Value},Vals xs us->Vals ys us->xs=ys
 | _,_,_,.nil,.nil=>rfl
 | _,_,_,.cons r t,.cons r' t'=>by rw [r.inj r',Vals.inj t t']
section
variable {X:Cx} {pins:List (Addr×Obj)} {σ:St} {H:Hp} {s:Shared} {a:Addr} {xs ys:List V}
theorem bK.of {K:Fr} (h:H a=some (.lst xs)):bK K H a xs:=.inl (.inl h)
theorem gq.of {K:Fr} (h:H a=some (.tup xs)):gq K H a xs:=.inl (.inl h)
theorem Inv.list (I:Inv X pins σ H s) (h:bK X.K H a xs):∃its:List Value,Vals xs its/\PlainL s.heap a its.toArray/\xs.length<=sizeLine:=by
 rcases h with h | ⟨o,its,n,hk,hc,hd,hs,hz,r⟩
 ·obtain⟨z,its,n,r,e⟩:=h.ok I.hok;exact⟨its,r,⟨_,n,e,Z,Z,Z⟩,z⟩
 ·refine⟨its.toList,r,⟨o,n,I.kIn a o hk,hc,hd,by simpa using hs⟩,?_⟩;have e:=r.length;simp only [Array.length_toList] at e
  lia
theorem Inv.tuple (I:Inv X pins σ H s) (h:gq X.K H a xs):∃its:List Value,Vals xs its/\IsTup s.heap a its.toArray/\xs.length<=sizeLine:=by
 rcases h with h | ⟨o,its,n,hk,hc,hs,hz,r⟩
 ·obtain⟨z,its,r,p⟩:=h.ok I.hok;exact⟨its,r,p,z⟩
 ·refine⟨its.toList,r,⟨o,I.kIn a o hk,hc,n,by simpa using hs⟩,?_⟩;have e:=r.length;simp only [Array.length_toList] at e
  lia
theorem Inv.list_inj (I:Inv X pins σ H s) (h:bK X.K H a xs) (h':bK X.K H a ys):xs=ys:=by
 obtain⟨its,r,⟨o,n,e,_,_,d⟩,_⟩:=I.list h;obtain⟨its',r',⟨o',n',e',_,_,d'⟩,_⟩:=I.list h';rw [e] at e';cases e';rw [d] at d';injection d' with d1 _;have:its=its':=by simpa using congrArg Array.toList d1
 subst this;exact r.inj r'
theorem Inv.tuple_inj (I:Inv X pins σ H s) (h:gq X.K H a xs) (h':gq X.K H a ys):xs=ys:=by
 obtain⟨its,r,⟨o,e,_,n,d⟩,_⟩:=I.tuple h;obtain⟨its',r',⟨o',e',_,n',d'⟩,_⟩:=I.tuple h';rw [e] at e';cases e';rw [d] at d';injection d' with d1 _;have:its=its':=by simpa using congrArg Array.toList d1
 subst this;exact r.inj r'
end
noncomputable abbrev Cx.wish (X:Cx) (E:Value->Shared->Prop):Cx:={ X with xe:=E }
noncomputable abbrev Cx.nox (X:Cx):Cx:=X.wish λ_ _=>False
theorem Cx.Ok.wish {X:Cx} (ok:X.Ok) (E:Value->Shared->Prop):(X.wish E).Ok:=
 ⟨ok.mod,ok.kind,ok.glob,ok.blt,ok.above,ok.inj,ok.has,ok.cab,ok.hd,ok.frames,ok.stk,ok.exf,ok.bs,ok.bsz,ok.noex,ok.exfs,ok.funs,ok.frf⟩
theorem Cx.Ok.unwish {X:Cx} {E:Value->Shared->Prop} (ok:(X.wish E).Ok):X.Ok:=
 ⟨ok.mod,ok.kind,ok.glob,ok.blt,ok.above,ok.inj,ok.has,ok.cab,ok.hd,ok.frames,ok.stk,ok.exf,ok.bs,ok.bsz,ok.noex,ok.exfs,ok.funs,ok.frf⟩
section
variable {X:Cx} {pins:List (Addr×Obj)} {σ:St} {H:Hp} {s:Shared} {E:Value->Shared->Prop}
theorem Inv.wish (I:Inv X pins σ H s) (E:Value->Shared->Prop):Inv (X.wish E) pins σ H s:=⟨I.ok.wish E,I.os,I.bare,I.base,I.loc,I.cell,I.free,I.freeC,I.pin,I.hok,I.len⟩
theorem Inv.unwish (I:Inv (X.wish E) pins σ H s):Inv X pins σ H s:=⟨I.ok.unwish,I.os,I.bare,I.base,I.loc,I.cell,I.free,I.freeC,I.pin,I.hok,I.len⟩
theorem SP.unwish {D:Ends} {f:Flow} {s':Shared} (h:SP (X.wish E) pins D f s'):SP X pins D f s':=by
 cases f with
 | next=>obtain⟨σ',H',I,q⟩:=h;exact⟨σ',H',I.unwish,q⟩
 | brk=>obtain⟨σ',H',I,q⟩:=h;exact⟨σ',H',I.unwish,q⟩
 | cont=>obtain⟨σ',H',I,q⟩:=h;exact⟨σ',H',I.unwish,q⟩
 | ret u=>obtain⟨v,σ',H',I,r,q⟩:=h;exact⟨v,σ',H',I.unwish,r,q⟩
theorem LR.nox {st:List Stmt} {t:TS} (h:LR X.nox st t):LR X st t:=λpins s σ H D I hw=>
 wpAny_mono (h pins s σ H D (I.wish _) hw) (λ_ _ q=>q.unwish) λ_ _ z=>False.elim z
end
section
variable {X:Cx} {st:Stmt} {rest:List Stmt} {t u:TS} {e:Expr} {te:TE} {pos:Pos}
noncomputable def Zf:TS:=λD σ H=>D.nx σ H
noncomputable def yF (t u:TS):TS:=λD σ H=>t { D with nx:=u D } σ H
theorem bz:LR X [] Zf:=λ_ _ σ H _ I h=>wpAny_execs_nil ⟨σ,H,I,h⟩
theorem az (h1:PS X st t) (h2:LR X rest u):LR X (st:: rest) (yF t u):=by
 intro pins s σ H D I h;refine wpAny_execs_cons (dz (h1 pins s σ H { D with nx:=u D } I h) λf s1 q=>?_);cases f with
 | next=>
  obtain⟨σ',H',I',q⟩:=q;exact h2 pins s1 σ' H' D I' q
 | ret v=>exact q
 | brk=>exact q
 | cont=>exact q
theorem aA (h1:PS X st t):LR X [st] t:=by
 intro pins s σ H D I h;refine wpAny_execs_cons (dz (h1 pins s σ H D I h) λf s1 q=>?_);cases f with
 | next=>exact wpAny_execs_nil q
 | ret v=>exact q
 | brk=>exact q
 | cont=>exact q
theorem Inv.quiet {pins:List (Addr×Obj)} {σ:St} {H:Hp} {s:Shared} (I:Inv X pins σ H s):interactive X.env=false:=by simp [interactive,I.ok.kind]
noncomputable def aak (te:TE):TS:=λD σ H=>te σ H λ_ H1=>D.nx σ H1
theorem bw (he:PE X e te) (hs:swapsWith e none pos.line X.env=pure false:=by rfl):PS X (.Expr e pos) (aak te):=by intro pins s σ H D I h;exact wpAny_Expr_any (dz (he pins s σ H _ I h) λv s1 ⟨x,H1,I1,r1,q1⟩=>⟨σ,H1,I1,q1⟩) I.quiet hs
noncomputable def aaY (te:TE):TS:=λD σ H=>te σ H D.rt
theorem aN (he:PE X e te):PS X (.Return (some e) pos) (aaY te):=by intro pins s σ H D I h;exact wpAny_Return_some (dz (he pins s σ H _ I h) λv s1 ⟨x,H1,I1,r1,q1⟩=>⟨x,σ,H1,I1,r1,q1⟩)
noncomputable def abj (c:TT) (t u:TS):TS:=λD σ H=>c σ H λb H1=>if b=true then t D σ H1 else u D σ H1
theorem bQ {c:Expr} {a b:List Stmt} {tc:TT} (hc:PT X c tc) (ha:LR X a t) (hb:LR X b u):PS X (.If c a b pos) (abj tc t u):=by
 intro pins s σ H D I h;refine wpAny_If (dz (hc pins s σ H _ I h) λd s1 hpt=>?_);obtain⟨H1,I1,q1⟩:=hpt;cases d with
 | true=>exact ha pins s1 σ H1 D I1 q1
 | false=>exact hb pins s1 σ H1 D I1 q1
noncomputable def Yu:TS:=λ_ _ _=>False
theorem gM:PS X st Yu:=λ_ _ _ _ _ _ h=>h.elim
end
noncomputable abbrev TG:=V->St->Hp->(St->Hp->Prop)->Prop
noncomputable abbrev Vc:=List V->St->Hp->(St->Hp->Prop)->Prop
noncomputable def PG (X:Cx) (target:Expr) (t:TG):Prop:=
 ∀(pins:List (Addr×Obj)) (s:Shared) (σ:St) (H:Hp) (v:V) (u:Value) (Q:St->Hp->Prop),Inv X pins σ H s->RelV v u->t v σ H Q->
  wpAny (model X.prog X.w) X.A (assign target X.env u) (λ_ s'=>∃σ' H',Inv X pins σ' H' s'/\Q σ' H') X.xe s
noncomputable def PGs (X:Cx) (ts:List Expr) (t:Vc):Prop:=
 ∀(pins:List (Addr×Obj)) (s:Shared) (σ:St) (H:Hp) (vs:List V) (us:List Value) (Q:St->Hp->Prop),Inv X pins σ H s->Vals vs us->t vs σ H Q->
  wpAny (model X.prog X.w) X.A (assignInOrder ((assignEach ts X.env).map (·.2)) us) (λ_ s'=>∃σ' H',Inv X pins σ' H' s'/\Q σ' H') X.xe s
section
variable {X:Cx} {pos:Pos}
noncomputable def za (i:Nat):TG:=λv σ H Q=>Q (σ.set i (some v)) H
theorem wG {i:Nat} {x:Str} (hN:X.N.Nodup) (hi:X.N[i]?=some x) (hx:Loc X.env.scope x) (hf:X.fn x=true∨X.env.scope.names.lookup x=some .local:=by first | exact .inl rfl | exact .inr rfl | assumption):PG X (.Name x pos) (za i):=by intro pins s σ H v u Q I r h;exact wpAny_assign_Name (Fx I hN hi hx r (λs' I'=>⟨_,H,I',h⟩) hf)
noncomputable def aa2:Vc:=λvs σ H Q=>vs=[]/\Q σ H
inductive Uv (t:TG) (u:Vc) (vs:List V) (σ:St) (H:Hp) (Q:St->Hp->Prop):Prop where
 | mk:∀v r,vs=v:: r->(t v σ H λσ' H'=>u r σ' H' Q)->Uv t u vs σ H Q
noncomputable def Zq (t:TG) (u:Vc):Vc:=λvs σ H Q=>Uv t u vs σ H Q
theorem wV:PGs X [] aa2:=by intro pins s σ H vs us Q I r h;obtain⟨e,h⟩:=h;subst e;cases r;exact assignInOrder_nil ⟨σ,H,I,h⟩
theorem iw {e:Expr} {es:List Expr} {t:TG} {u:Vc} (h1:PG X e t) (h2:PGs X es u)
  (hs:(assignEach (e:: es) X.env).map (·.2)=assign e X.env:: (assignEach es X.env).map (·.2):=by rfl):PGs X (e:: es) (Zq t u):=by
 intro pins s σ H vs us Q I r h;obtain⟨v,vr,e1,h⟩:=h;subst e1;cases r with
 | cons r rr=>
  rw [hs];refine assignInOrder_cons (dz (h1 pins s σ H _ _ _ I r h) λ_ s1 hpt=>?_);obtain⟨σ1,H1,I1,q1⟩:=hpt;exact h2 pins s1 σ1 H1 _ _ Q I1 rr q1
inductive Xc (K:Fr) (n:Nat) (t:Vc) (v:V) (σ:St) (H:Hp) (Q:St->Hp->Prop):Prop where
 | mk:∀a xs,v=.ref a->gq K H a xs->xs.length=n->t xs σ H Q->Xc K n t v σ H Q
noncomputable def Zv (K:Fr) (n:Nat) (t:Vc):TG:=λv σ H Q=>Xc K n t v σ H Q
theorem Gp {es:List Expr} {k:Nat} {t:Vc} {n:Nat} (hc:X.calm=true) (h:PGs X es t)
  (hn:(assignEach es X.env).length=n:=by rfl) (hst:(assignEach es X.env).findIdx? (·.1)=none:=by rfl):PG X (.Tuple es k pos) (Zv X.K n t):=by
 intro pins s σ H v u Q I r hw;obtain⟨a,xs,e1,hq,hl,hw⟩:=hw;subst e1;cases r;obtain⟨its,rv,ht,hz⟩:=I.tuple hq;refine assign_Tuple_tuple (I.ok.hd hc) ht (by simp [hn,<-hl,rv.length]) hst λh' hx=>?_;have I1:Inv X pins σ H { s with heap:=h' }:=I.kept (t':=s.toks) λb o e=>hx b o (ne_of_lt (Heap.lt_size e)) e;exact h pins _ σ H xs _ Q I1 (by simpa using rv) hw
noncomputable def Ue (te:TE) (g:TG):TS:=λD σ H=>te σ H λx H1=>g x σ H1 D.nx
theorem Xx {tg e:Expr} {te:TE} {g:TG} (he:PE X e te) (hg:PG X tg g) (hs:swapsWithSole [tg] e pos.line X.env=pure false:=by rfl) (hw:swappedStores [tg] e X.env=pure none:=by rfl)
  (h1:(assignEach [tg] X.env).map (·.2)=[assign tg X.env]:=by rfl):PS X (.Assign [tg] e pos) (Ue te g):=by
 intro pins s σ H D I h;refine wpAny_Assign_stores (dz (he pins s σ H _ I h) λv s1 hpt=>?_) hs hw;obtain⟨x,H1,I1,r1,q1⟩:=hpt;rw [h1];exact dz (hg pins s1 σ H1 x v _ I1 r1 q1) λ_ s2 q=>q
theorem Yd {i:Nat} {x:Str} {e:Expr} {te:TE} {pos':Pos} (hN:X.N.Nodup) (hi:X.N[i]?=some x) (hx:Loc X.env.scope x) (he:PE X e te) (hs:swapsWith e (some (.Name x pos')) pos.line X.env=pure false:=by rfl) (hf:X.fn x=true∨X.env.scope.names.lookup x=some .local:=by first | exact .inl rfl | exact .inr rfl | assumption):
  PS X (.Assign [.Name x pos'] e pos) (Ue te (za i)):=by
 intro pins s σ H D I h;refine wpAny_Assign_Name (dz (he pins s σ H _ I h) λv s1 hpt=>?_) hs;obtain⟨y,H1,I1,r1,q1⟩:=hpt;exact Fx I1 hN hi hx r1 (λs2 I2=>⟨_,H1,I2,q1⟩) hf
end
section
variable {X:Cx} {pos:Pos}
inductive Pr (c:TT) (tb:TS) (D:Ends) (σ:St) (H:Hp):Prop where
 | mk:∀W:Nat->St->Hp->Prop,((∃m,W m σ H))->(∀m σ H,W m σ H->
 c σ H λb H1=>if b=true then ∃N:St->Hp->Prop,(∀σ' H',N σ' H'->∃m',m' <m/\W m' σ' H')/\tb { D with nx:=N,ct:=N,bk:=D.nx } σ H1 else D.nx σ H1)->Pr c tb D σ H
noncomputable def Up (c:TT) (tb:TS):TS:=λD σ H=>Pr c tb D σ H
theorem KC {c:Expr} {body:List Stmt} {tc:TT} {tb:TS} (hp:PassesOwn (model X.prog X.w) X.A X.env X.xe) (hc:PT X c tc) (hb:LR X body tb):PS X (.While c body [] pos) (Up tc tb):=by
 intro pins s σ H D I h;obtain⟨W,⟨m0,w0⟩,turn⟩:=h;refine wpAny_While (codeAny_whileLoop (λn s'=>∃σ' H',Inv X pins σ' H' s'/\W n σ' H') ?_ m0 ⟨σ,H,I,w0⟩);rintro n s1 ⟨σ1,H1,I1,w1⟩;refine wpAny_passesOwn hp (dz (hc pins s1 σ1 H1 _ I1 (turn n σ1 H1 w1)) λb s2 hpt=>?_);obtain⟨H2,I2,q2⟩:=hpt;cases b with
 | true=>
  obtain⟨N,hN,q2⟩:=q2;rw [if_pos rfl];refine wpAny_passesOwn hp (dz (hb pins s2 σ1 H2 _ I2 q2) λf s3 q3=>?_);cases f with
  | next=>
   obtain⟨σ3,H3,I3,n3⟩:=q3;obtain⟨m',hm,w3⟩:=hN σ3 H3 n3;exact⟨m',hm,σ3,H3,I3,w3⟩
  | cont=>
   obtain⟨σ3,H3,I3,n3⟩:=q3;obtain⟨m',hm,w3⟩:=hN σ3 H3 n3;exact⟨m',hm,σ3,H3,I3,w3⟩
  | brk=>exact q3
  | ret v=>exact q3
 | false=>
  rw [if_neg Bool.false_ne_true];exact wpAny_execs_nil ⟨σ1,H2,I2,q2⟩
end
structure It where
 go:Nat->Hp->Prop
 yld:Nat->Hp->V->Hp->Prop
 stop:Nat->Hp->Prop
noncomputable def Jd (X:Cx) (pins:List (Addr×Obj)) (H:Hp) (b:Addr):Prop:=
 H b=none/\b≠X.env.locals/\b∉X.fs/\(b∈X.ex∨X.s₀.heap.objs.size<=b)/\(∀x c,X.env.cells.lookup x=some c->c≠b)/\∀p∈X.pn ++ pins,p.1≠b
theorem Inv.fpOk {X:Cx} {pins:List (Addr×Obj)} {σ:St} {H H':Hp} {s:Shared} {b:Addr} (I:Inv X pins σ H s) (hb:s.heap.objs.size<=b) (hn:H' b=none):Jd X pins H' b:=by
 refine⟨hn,Nat.ne_of_gt (lt_of_lt_of_le I.lt hb),I.nofs hb,.inr (le_trans I.sz hb),λx c e z=>?_,λp hp z=>?_⟩
 ·obtain⟨v,q⟩:=I.cell x c e;exact absurd (lt_of_lt_of_le q.lt (by rw [z];exact hb)) (lt_irrefl _)
 ·exact absurd (lt_of_lt_of_le (Heap.lt_size (I.pin p hp).1) (by rw [z];exact hb)) (lt_irrefl _)
structure Turn (P:Program) (w:World) (K:Fr) (tg:Expr) (J:It) (fp:List Addr) (it:Addr) (tn:Nat->Heap->Prop):Prop where
 mem:it∈fp
 obj:∀i h,tn i h->∀b∈fp,∃o,h.get? b=some o/\∀v,o.data≠.cell v
 keep:∀i h h',tn i h->(∀b∈fp,∀o,h.get? b=some o->h'.get? b=some o)->tn i h'
 item:∀(X:Cx),X.prog=P->X.w=w->X.K=K->X.calm=true->∀(i:Nat) (pins:List (Addr×Obj)) (s:Shared) (σ:St) (H:Hp) (E:Value->Shared->Prop),Inv X pins σ H s->(∀b∈fp,Jd X pins H b)->tn i s.heap->J.go i H->
  wpAny (model P w) X.A (pyNext (.ref it)) (λr s1=>∃u,r=some u/\
   wpAny (model P w) X.A (letOwnedTupleGo tg (.ref it) u) (λ_ s2=>∃x H',Inv X pins σ H' s2/\RelV x u/\J.yld i H x H'/\tn (i+1) s2.heap/\∀b∈fp,H' b=none) E s1) E s
 done:∀(X:Cx),X.prog=P->X.w=w->X.K=K->X.calm=true->∀(i:Nat) (pins:List (Addr×Obj)) (s:Shared) (σ:St) (H:Hp) (E:Value->Shared->Prop),Inv X pins σ H s->(∀b∈fp,Jd X pins H b)->tn i s.heap->J.stop i H->
  wpAny (model P w) X.A (pyNext (.ref it)) (λr s1=>r=none/\Inv X pins σ H s1) E s
 self:∀(A:Around) (i:Nat) (s:Shared) (Q:Value->Shared->Prop) (E:Value->Shared->Prop),tn i s.heap->Q (.ref it) s->wpAny (model P w) A (pyIter (.ref it)) Q E s
noncomputable abbrev TI:=St->Hp->(It->Hp->Prop)->Prop
noncomputable def PIE (X:Cx) (pins:List (Addr×Obj)) (σ:St) (tg:Expr) (R:It->Hp->Prop) (itv:Value) (s2:Shared):Prop:=
 ∃(it:Addr) (fp:List Addr) (tn:Nat->Heap->Prop) (J:It) (H':Hp),itv=.ref it/\Inv X pins σ H' s2/\Turn X.prog X.w X.K tg J fp it tn/\tn 0 s2.heap/\(∀b∈fp,Jd X pins H' b)/\R J H'
noncomputable def PI (X:Cx) (tg iter:Expr) (wi:TI):Prop:=
 ∀(pins:List (Addr×Obj)) (s:Shared) (σ:St) (H:Hp) (R:It->Hp->Prop),Inv X pins σ H s->wi σ H R->
  wpAny (model X.prog X.w) X.A (eval iter X.env) (λv s1=>wpAny (model X.prog X.w) X.A (pyIter v) (PIE X pins σ tg R) X.xe s1) X.xe s
theorem LK {M:Model} {A:Around} {E:Value->Shared->Prop} {s:Shared} {tg:Expr} {it:Addr} {u:Value} {o:Obj} {n:String} {vs:Array Value} {Q:Unit->Shared->Prop} (ho:s.heap.get? it=some o) (hc:o.cls=.type n) (hd:o.data=.fields vs)
  (hn:["enumerate", "zip", "dict_itemiterator", "dict_reverseitemiterator", "odict_iterator", "itertools.zip_longest", "itertools.pairwise"].contains n=false) (hQ:Q () s):wpAny M A (letOwnedTupleGo tg (.ref it) u) Q E s:=by
 unfold letOwnedTupleGo;cases tg <;> first
  | exact wpAny_pure hQ
  | (cases u <;> first
    | exact wpAny_pure hQ
    | (refine wpAny_bind (wpAny_load ho ?_)
       rw [hc,hd];show wpAny M A (if (["enumerate", "zip", "dict_itemiterator", "dict_reverseitemiterator", "odict_iterator", "itertools.zip_longest", "itertools.pairwise"].contains n && vs[0]? == some (rawInt _))=true then _ else _) Q E s;rw [if_neg (by intro h;rw [hn,Bool.false_and] at h;cases h)];exact wpAny_pure hQ))
noncomputable def Ve (K:Fr) (a:Addr):It:=
 ⟨λi H=>∃xs x,bK K H a xs/\xs[i]?=some x,λi H x H'=>H'=H/\∀xs,bK K H a xs->xs[i]?=some x,λi H=>∃xs,bK K H a xs/\xs.length<=i⟩
noncomputable def Y7 (K:Fr) (a:Addr):It:=
 ⟨λi H=>∃xs x,gq K H a xs/\xs[i]?=some x,λi H x H'=>H'=H/\∀xs,gq K H a xs->xs[i]?=some x,λi H=>∃xs,gq K H a xs/\xs.length<=i⟩
noncomputable def YC (lo:Int) (n:Nat):It:=⟨λi _=>i <n,λi H x H'=>H'=H/\x=.int (lo+i),λi _=>n<=i⟩
theorem Qt {P:Program} {w:World} {K:Fr} {tg:Expr} (a it:Addr):Turn P w K tg (Ve K a) [it] it (λi h=>h.IsListIter it a i) where
 mem:=by simp
 obj:=λi h st b hb=>by
  have e:b=it:=by simpa using hb
  subst e;obtain⟨o,e,c,d⟩:=st;exact⟨o,e,λv z=>by rw [d] at z;cases z⟩
 keep:=λi h h' st k=>st.at λo e=>k it (by simp) o e
 item:=by intro X hP hw hK hc i pins s σ H E I hf st hg;subst hP hw hK;obtain⟨xs,x,hq,hx⟩:=hg;obtain⟨its,rv,p,hz⟩:=I.list hq;obtain⟨u,hu,ru⟩:=rv.get hx;obtain⟨f0,f1,f2,f3,f4,f5⟩:=hf it (by simp);refine wpAny_pyNext_list_item st p.isList (x:=u) (by simpa using hu) λh' st' sb=>?_;have I1:Inv X pins σ H { s with heap:=h' }:=I.turned (t':=s.toks) (λb o hb e=>(sb.2 b hb).trans e) f0 f1 f3 f4 f5;obtain⟨o,e,c,d⟩:=id st';exact⟨u,rfl,LK (s:={ s with heap:=h' }) e c d (by decide) ⟨x,H,I1,ru,⟨rfl,λys hy=>by rw [I.list_inj hy hq];exact hx⟩,st',λb hb=>(hf b hb).1⟩⟩
 done:=by intro X hP hw hK hc i pins s σ H E I hf st hg;subst hP hw hK;obtain⟨xs,hq,hx⟩:=hg;obtain⟨its,rv,p,hz⟩:=I.list hq;obtain⟨f0,f1,f2,f3,f4,f5⟩:=hf it (by simp);have hl:=rv.length;exact wpAny_pyNext_list_end (I.ok.hd hc) st p.isList (by simp;lia) λh' eb=>⟨Z,I.turned (t':=s.toks) (λb o hb e=>eb b o hb e) f0 f1 f3 f4 f5⟩
 self:=λ_ _ _ _ _ st h=>wpAny_pyIter_listiter st h
theorem Ng {P:Program} {w:World} {K:Fr} {tg:Expr} (a it:Addr):Turn P w K tg (Y7 K a) [it] it (λi h=>h.IsTupleIter it a i) where
 mem:=by simp
 obj:=λi h st b hb=>by
  have e:b=it:=by simpa using hb
  subst e;obtain⟨o,e,c,d⟩:=st;exact⟨o,e,λv z=>by rw [d] at z;cases z⟩
 keep:=λi h h' st k=>st.at λo e=>k it (by simp) o e
 item:=by intro X hP hw hK hc i pins s σ H E I hf st hg;subst hP hw hK;obtain⟨xs,x,hq,hx⟩:=hg;obtain⟨its,rv,p,hz⟩:=I.tuple hq;obtain⟨u,hu,ru⟩:=rv.get hx;obtain⟨f0,f1,f2,f3,f4,f5⟩:=hf it (by simp);refine wpAny_pyNext_tuple_item st (show s.heap.IsTuple a its.toArray from p) (x:=u) (by simpa using hu) λh' st' sb=>?_;have I1:Inv X pins σ H { s with heap:=h' }:=I.turned (t':=s.toks) (λb o hb e=>(sb.2 b hb).trans e) f0 f1 f3 f4 f5;obtain⟨o,e,c,d⟩:=id st';exact⟨u,rfl,LK (s:={ s with heap:=h' }) e c d (by decide) ⟨x,H,I1,ru,⟨rfl,λys hy=>by rw [I.tuple_inj hy hq];exact hx⟩,st',λb hb=>(hf b hb).1⟩⟩
 done:=by intro X hP hw hK hc i pins s σ H E I hf st hg;subst hP hw hK;obtain⟨xs,hq,hx⟩:=hg;obtain⟨its,rv,p,hz⟩:=I.tuple hq;obtain⟨f0,f1,f2,f3,f4,f5⟩:=hf it (by simp);have hl:=rv.length;exact wpAny_pyNext_tuple_end (I.ok.hd hc) st (show s.heap.IsTuple a its.toArray from p) (by simp;lia) λh' eb=>⟨Z,I.turned (t':=s.toks) (λb o hb e=>eb b o hb e) f0 f1 f3 f4 f5⟩
 self:=λ_ _ _ _ _ st h=>wpAny_pyIter_tupleiter st h
theorem M5 {P:Program} {w:World} {K:Fr} {tg:Expr} (it:Addr) (lo:Int) (n:Nat):Turn P w K tg (YC lo n) [it] it (λi h=>IsRangeIter h it (lo+(i:Nat) * 1) ((n:Int) - (i:Nat)) 1) where
 mem:=by simp
 obj:=λi h st b hb=>by
  have e:b=it:=by simpa using hb
  subst e;exact⟨_,st,λv z=>by have z':Data.fields _=Data.cell v:=z;cases z'⟩
 keep:=λi h h' st k=>k it (by simp) _ st
 item:=by intro X hP hw hK hc i pins s σ H E I hf st hg;subst hP hw hK;obtain⟨f0,f1,f2,f3,f4,f5⟩:=hf it (by simp);have W:=Walks.range (prog:=X.prog) (w:=X.w) (I.ok.hd hc) it lo 1 n;refine W.item i s _ _ hg st λv h' tk hv st' kk=>?_;obtain⟨t,rfl⟩:=hv;have I1:Inv X pins σ H { s with heap:=h',toks:=tk }:=I.turned (λb o hb e=>kk b o (by simpa using hb) e) f0 f1 f3 f4 f5;refine⟨_,rfl,LK (s:={ s with heap:=h',toks:=tk }) (n:= "range_iterator") st' rfl rfl (by decide) ⟨.int (lo+i),H,I1,⟨t,?_⟩,⟨rfl,rfl⟩,st',λb hb=>(hf b hb).1⟩⟩;rw [Int.mul_one]
 done:=by intro X hP hw hK hc i pins s σ H E I hf st hg;subst hP hw hK;obtain⟨f0,f1,f2,f3,f4,f5⟩:=hf it (by simp);exact wpAny_pyNext_range_end (I.ok.hd hc) st (by have:n<=i:=hg;lia) λh' eb=>⟨Z,I.turned (t':=s.toks) (λb o hb e=>eb b o hb e) f0 f1 f3 f4 f5⟩
 self:=λ_ _ _ _ _ st h=>wpAny_pyIter_rangeiter st h
section
variable {X:Cx} {tg:Expr}
inductive N5 (K:Fr) (R:It->Hp->Prop) (x:V) (H1:Hp):Prop where
 | mk:∀a,x=.ref a->((∃xs,bK K H1 a xs))->R (Ve K a) H1->N5 K R x H1
noncomputable def RJ (K:Fr) (tl:TE):TI:=λσ H R=>tl σ H λx H1=>N5 K R x H1
inductive Xo (K:Fr) (R:It->Hp->Prop) (x:V) (H1:Hp):Prop where
 | mk:∀a,x=.ref a->((∃xs,gq K H1 a xs))->R (Y7 K a) H1->Xo K R x H1
noncomputable def Zj (K:Fr) (tl:TE):TI:=λσ H R=>tl σ H λx H1=>Xo K R x H1
theorem bT {l:Expr} {tl:TE} (hl:PE X l tl):PI X tg l (RJ X.K tl):=by
 intro pins s σ H R I h;refine dz (hl pins s σ H _ I h) λv s1 hpt=>?_;obtain⟨x,H1,I1,r1,q1⟩:=hpt;obtain⟨a,e,⟨xs,hq⟩,q⟩:=q1;subst e;cases r1;obtain⟨its,rv,p,hz⟩:=I1.list hq;refine wpAny_pyIter_list p.isList ?_;refine⟨s1.heap.objs.size,[s1.heap.objs.size],_,_,H1,Z,I1.kept (t':=s1.toks) λb o e=>Heap.get?_push_of_some _ e,Qt a _,⟨_,Heap.get?_push_size _ Z,Z,Z⟩,λb hb=>?_,q⟩;have e:b=s1.heap.objs.size:=by simpa using hb
 subst e;exact I1.fpOk (le_refl _) (I1.hok.fresh (le_refl _))
theorem Je {l:Expr} {tl:TE} (hl:PE X l tl):PI X tg l (Zj X.K tl):=by
 intro pins s σ H R I h;refine dz (hl pins s σ H _ I h) λv s1 hpt=>?_;obtain⟨x,H1,I1,r1,q1⟩:=hpt;obtain⟨a,e,⟨xs,hq⟩,q⟩:=q1;subst e;cases r1;obtain⟨its,rv,p,hz⟩:=I1.tuple hq;refine wpAny_pyIter_tuple (show s1.heap.IsTuple a its.toArray from p) ?_;refine⟨s1.heap.objs.size,[s1.heap.objs.size],_,_,H1,Z,I1.kept (t':=s1.toks) λb o e=>Heap.get?_push_of_some _ e,Ng a _,⟨_,Heap.get?_push_size _ Z,Z,Z⟩,λb hb=>?_,q⟩;have e:b=s1.heap.objs.size:=by simpa using hb
 subst e;exact I1.fpOk (le_refl _) (I1.hok.fresh (le_refl _))
theorem Sh {pins:List (Addr×Obj)} {σ:St} {H:Hp} {s:Shared} {R:It->Hp->Prop} {E:Value->Shared->Prop} {lo hi:Int} {t u v:Tok} {tk:Nat} (I:Inv X pins σ H s) (h1: -(2 ^ 62)<=lo) (h2:lo <2 ^ 62) (h3: -(2 ^ 62)<=hi) (h4:hi <2 ^ 62)
  (q:R (YC lo (hi - lo).toNat) H):wpAny (model X.prog X.w) X.A (pyIter (.ref s.heap.objs.size)) (PIE X pins σ tg R) E { s with heap:=s.heap.push { cls:=.type "range",data:=.fields #[.int lo t,.int hi u,.int 1 v] },toks:=tk }:=by
 refine wpAny_pyIter_range (IsRange.new ..) (small_one h1 h2 h3 h4) ?_;have I1:Inv X pins σ H { s with heap:=s.heap.push { cls:=.type "range",data:=.fields #[.int lo t,.int hi u,.int 1 v] },toks:=tk }:=I.kept λb o e=>Heap.get?_push_of_some _ e;refine⟨(s.heap.push { cls:=.type "range",data:=.fields #[.int lo t,.int hi u,.int 1 v] }).objs.size,[(s.heap.push { cls:=.type "range",data:=.fields #[.int lo t,.int hi u,.int 1 v] }).objs.size],_,_,H,Z,
  I1.kept (t':=tk) λb o e=>Heap.get?_push_of_some _ e,M5 _ lo (hi - lo).toNat,?_,λb hb=>?_,q⟩
 ·have e1:lo+((0:Nat):Int) * 1=lo:=by simp
  have e2:(((hi - lo).toNat:Nat):Int) - ((0:Nat):Int)=Builtin.Range.rangeSize lo hi 1:=by rw [rangeSize_one];split <;> lia
  show IsRangeIter _ _ (lo+((0:Nat):Int) * 1) ((((hi - lo).toNat:Nat):Int) - ((0:Nat):Int)) 1;rw [e1,e2];exact Heap.get?_push_size _ Z
 ·have e:b=(s.heap.push { cls:=.type "range",data:=.fields #[.int lo t,.int hi u,.int 1 v] }).objs.size:=by simpa using hb
  subst e;exact I1.fpOk (le_refl _) (I1.hok.fresh (le_refl _))
inductive Ro (R:It->Hp->Prop) (vs:List V) (H1:Hp):Prop where
 | mk:∀j:Int,vs=[.int j]-> -(2 ^ 62)<=j->j <2 ^ 62->R (YC 0 j.toNat) H1->Ro R vs H1
noncomputable def aaf (ta:TA):TI:=λσ H R=>ta σ H λvs H1=>Ro R vs H1
theorem jR {a:Expr} {ta:TA} {p pos:Pos} (hg:Gl X "range") (hm:X.mg "range" =none) (ha:PA X [a] ta) (hs:starEach [a] X.env=[(false,eval a X.env)]:=by rfl):PI X tg (.Call (.Name "range" p) [a] [] pos) (aaf ta):=by
 intro pins s σ H R I h;refine Call_ (Jm I hg hm boot_range (PyProof.Rows.callWith_type1 (dz (ha pos pins s σ H _ I h) λus s1 ⟨vs,H1,I1,r1,q1⟩=>?_) hs Z));obtain⟨j,e,q1,q2,q⟩:=q1;subst e;cases r1 with
 | cons r rr=>
  cases rr;obtain⟨t,rfl⟩:=r;exact call_range_1 (Sh I1 (by lia) (by lia) q1 q2 (by simpa using q))
noncomputable def aaC (wi:TI) (g:TG) (tb:TS):TS:=λD σ H=>wi σ H λJ H1=>∃W:Nat->Nat->St->Hp->Prop,(∃m,W 0 m σ H1)/\∀i m σ H,W i m σ H->
 (J.stop i H/\D.nx σ H)∨(J.go i H/\∃N:St->Hp->Prop,(∀σ' H',N σ' H'->∃m',m' <m/\W (i+1) m' σ' H')/\∀x H',J.yld i H x H'->g x σ H' λσ2 H2=>tb { D with nx:=N,ct:=N,bk:=D.nx } σ2 H2)
noncomputable def Ke (fp:List Addr) (h:Heap):List (Addr×Obj):=fp.filterMap λb=>(h.get? b).map λo=>(b,o)
theorem tZ {fp:List Addr} {h:Heap} {b:Addr} {o:Obj} (hb:b∈fp) (e:h.get? b=some o):(b,o)∈Ke fp h:=mem_filterMap.mpr ⟨b,hb,by rw [e];rfl⟩
theorem Qn {fp:List Addr} {h:Heap} {p:Addr×Obj} (hp:p∈Ke fp h):p.1∈fp/\h.get? p.1=some p.2:=by
 obtain⟨b,hb,e⟩:=mem_filterMap.mp hp;cases q:h.get? b with
 | none=>rw [q] at e;cases e
 | some o=>
  rw [q] at e;have e':(b,o)=p:=Option.some.inj e;subst e';exact⟨hb,q⟩
theorem Inv.pinned {pins:List (Addr×Obj)} {σ:St} {H:Hp} {s:Shared} {fp:List Addr} (I:Inv X pins σ H s) (hf:∀b∈fp,Jd X pins H b) (ho:∀b∈fp,∃o,s.heap.get? b=some o/\∀v,o.data≠.cell v):Inv X (pins ++ Ke fp s.heap) σ H s:=
 I.pins_of λp hp=>(mem_append.mp hp).elim (λz=>I.pin p (mem_append_right _ z)) λz=>by obtain⟨hb,e⟩:=Qn z;obtain⟨f0,f1,f2,_⟩:=hf p.1 hb;obtain⟨o,e',d⟩:=ho p.1 hb;rw [e] at e';cases e';exact⟨e,f0,f1,f2,d⟩
theorem Inv.unpinned {pins pl:List (Addr×Obj)} {σ:St} {H:Hp} {s:Shared} (I:Inv X (pins ++ pl) σ H s):Inv X pins σ H s:=I.pins_of λp hp=>I.pin p (mem_append_right _ (mem_append_left _ hp))
theorem fC {iter:Expr} {body:List Stmt} {wi:TI} {g:TG} {tb:TS} {pos:Pos} (hp:PassesOwn (model X.prog X.w) X.A X.env X.xe) (hc:X.calm=true) (hi:PI X tg iter wi) (hg:PG X tg g) (hb:LR X body tb)
  (hs:∀x,foldedSetIterable iter X.env x=pure x:=by intro _;rfl):PS X (.For tg iter body [] pos) (aaC wi g tb):=by
 intro pins s σ H D I h;refine wpAny_For (dz (hi pins s σ H _ I h) λv s1 h1=>dz h1 λitv s2 h2=>?_) hs;obtain⟨it,fp,tn,J,H2,e,I2,T,st2,f2,W,⟨m0,w0⟩,turn⟩:=h2;subst e;have stat:∀{H':Hp},(∀b∈fp,H' b=none)->∀b∈fp,Jd X pins H' b:=λhn b hb=>⟨hn b hb,(f2 b hb).2⟩;refine codeAny_forLoop_any (λn s'=>∃i σ' H',Inv X pins σ' H' s'/\tn i s'.heap/\(∀b∈fp,H' b=none)/\W i n σ' H') ?_ m0 ⟨0,σ,H2,I2,st2,λb hb=>(f2 b hb).1,w0⟩;rintro n s3 ⟨i,σ3,H3,I3,st3,fr3,w3⟩;rcases turn i n σ3 H3 w3 with ⟨stop,qn⟩ | ⟨go,N,hN,step⟩
 ·refine wpAny_passesOwn hp (dz (T.done X Z Z Z hc i pins s3 σ3 H3 X.xe I3 (stat fr3) st3 stop) λr s4 hpt=>?_);obtain⟨hr,I4⟩:=hpt;subst hr;exact wpAny_execs_nil ⟨σ3,H3,I4,qn⟩
 ·refine wpAny_passesOwn hp (dz (T.item X Z Z Z hc i pins s3 σ3 H3 X.xe I3 (stat fr3) st3 go) λr s4 hpt=>?_);obtain⟨u,hr,h4⟩:=hpt;subst hr;refine wpAny_passesOwn hp (dz h4 λ_ s5 hpt=>?_);obtain⟨x,H5,I5,r5,y5,st5,fr5⟩:=hpt;have I5':=I5.pinned (stat fr5) (T.obj _ _ st5);refine wpAny_passesOwn hp (dz (hg _ s5 σ3 H5 x u _ I5' r5 (step x H5 y5)) λ_ s6 hpt=>?_);obtain⟨σ6,H6,I6,q6⟩:=hpt;refine wpAny_passesOwn hp (dz (hb _ s6 σ6 H6 _ I6 q6) λf s7 q7=>?_);have again:∀{σ7:St} {H7:Hp},Inv X (pins ++ Ke fp s5.heap) σ7 H7 s7->N σ7 H7->∃m,m <n/\∃i σ' H',Inv X pins σ' H' s7/\tn i s7.heap/\(∀b∈fp,H' b=none)/\W i m σ' H':=λ{σ7 H7} I7 n7=>by obtain⟨m',hm,w7⟩:=hN σ7 H7 n7;refine⟨m',hm,i+1,σ7,H7,I7.unpinned,T.keep _ _ _ st5 λb hb o e=>(I7.pin (b,o) (mem_append_right _ (mem_append_right _ (tZ hb e)))).1,λb hb=>?_,w7⟩;obtain⟨o,e,d⟩:=T.obj _ _ st5 b hb;exact(I7.pin (b,o) (mem_append_right _ (mem_append_right _ (tZ hb e)))).2.1
  cases f with
  | next=>obtain⟨σ7,H7,I7,n7⟩:=q7;exact again I7 n7
  | cont=>obtain⟨σ7,H7,I7,n7⟩:=q7;exact again I7 n7
  | brk=>obtain⟨σ7,H7,I7,q7⟩:=q7;exact⟨σ7,H7,I7.unpinned,q7⟩
  | ret v=>obtain⟨x7,σ7,H7,I7,r7,q7⟩:=q7;exact⟨x7,σ7,H7,I7.unpinned,r7,q7⟩
end
theorem fG {K:Fr} {a:Addr} {xs:List V} {g:TG} {tb:TS} {D:Ends} {σ:St} {H:Hp} (Pv:Nat->St->Hp->Prop) (h0:Pv 0 σ H) (hl:∀i σ H,i<=xs.length->Pv i σ H->bK K H a xs)
  (hs:∀i x σ H,xs[i]?=some x->Pv i σ H->g x σ H λσ2 H2=>tb { D with nx:=Pv (i+1),ct:=Pv (i+1),bk:=D.nx } σ2 H2) (hd:∀σ H,Pv xs.length σ H->D.nx σ H):
  ∃W:Nat->Nat->St->Hp->Prop,(∃m,W 0 m σ H)/\∀i m σ H,W i m σ H->
   ((Ve K a).stop i H/\D.nx σ H)∨((Ve K a).go i H/\∃N:St->Hp->Prop,(∀σ' H',N σ' H'->∃m',m' <m/\W (i+1) m' σ' H')/\∀x H',(Ve K a).yld i H x H'->g x σ H' λσ2 H2=>tb { D with nx:=N,ct:=N,bk:=D.nx } σ2 H2):=by
 refine⟨λi m σ H=>m=xs.length - i/\i<=xs.length/\Pv i σ H,⟨xs.length,by simp,zero_le _,h0⟩,?_⟩;rintro i m σ H ⟨rfl,hi,p⟩;have q:=hl i σ H hi p;by_cases hlt:i <xs.length
 ·refine .inr ⟨⟨xs,xs[i],q,by simp [hlt]⟩,Pv (i+1),λσ' H' p'=>⟨xs.length - (i+1),by lia,Z,hlt,p'⟩,λx H' y=>?_⟩;obtain⟨e,y⟩:=y;subst e;exact hs i x σ _ (y xs q) p
 ·have e:i=xs.length:=by lia
  subst e;exact .inl ⟨⟨xs,q,le_refl _⟩,hd σ H p⟩
theorem VH {K:Fr} {a:Addr} {xs:List V} {g:TG} {tb:TS} {D:Ends} {σ:St} {H:Hp} (Pv:Nat->St->Hp->Prop) (h0:Pv 0 σ H) (hl:∀i σ H,i<=xs.length->Pv i σ H->gq K H a xs)
  (hs:∀i x σ H,xs[i]?=some x->Pv i σ H->g x σ H λσ2 H2=>tb { D with nx:=Pv (i+1),ct:=Pv (i+1),bk:=D.nx } σ2 H2) (hd:∀σ H,Pv xs.length σ H->D.nx σ H):
  ∃W:Nat->Nat->St->Hp->Prop,(∃m,W 0 m σ H)/\∀i m σ H,W i m σ H->
   ((Y7 K a).stop i H/\D.nx σ H)∨((Y7 K a).go i H/\∃N:St->Hp->Prop,(∀σ' H',N σ' H'->∃m',m' <m/\W (i+1) m' σ' H')/\∀x H',(Y7 K a).yld i H x H'->g x σ H' λσ2 H2=>tb { D with nx:=N,ct:=N,bk:=D.nx } σ2 H2):=by
 refine⟨λi m σ H=>m=xs.length - i/\i<=xs.length/\Pv i σ H,⟨xs.length,by simp,zero_le _,h0⟩,?_⟩;rintro i m σ H ⟨rfl,hi,p⟩;have q:=hl i σ H hi p;by_cases hlt:i <xs.length
 ·refine .inr ⟨⟨xs,xs[i],q,by simp [hlt]⟩,Pv (i+1),λσ' H' p'=>⟨xs.length - (i+1),by lia,Z,hlt,p'⟩,λx H' y=>?_⟩;obtain⟨e,y⟩:=y;subst e;exact hs i x σ _ (y xs q) p
 ·have e:i=xs.length:=by lia
  subst e;exact .inl ⟨⟨xs,q,le_refl _⟩,hd σ H p⟩
theorem Bb {lo:Int} {n:Nat} {g:TG} {tb:TS} {D:Ends} {σ:St} {H:Hp} (Pv:Nat->St->Hp->Prop) (h0:Pv 0 σ H)
  (hs:∀i σ H,i <n->Pv i σ H->g (.int (lo+i)) σ H λσ2 H2=>tb { D with nx:=Pv (i+1),ct:=Pv (i+1),bk:=D.nx } σ2 H2) (hd:∀σ H,Pv n σ H->D.nx σ H):
  ∃W:Nat->Nat->St->Hp->Prop,(∃m,W 0 m σ H)/\∀i m σ H,W i m σ H->
   ((YC lo n).stop i H/\D.nx σ H)∨((YC lo n).go i H/\∃N:St->Hp->Prop,(∀σ' H',N σ' H'->∃m',m' <m/\W (i+1) m' σ' H')/\∀x H',(YC lo n).yld i H x H'->g x σ H' λσ2 H2=>tb { D with nx:=N,ct:=N,bk:=D.nx } σ2 H2):=by
 refine⟨λi m σ H=>m=n - i/\i<=n/\Pv i σ H,⟨n,by simp,zero_le _,h0⟩,?_⟩;rintro i m σ H ⟨rfl,hi,p⟩;by_cases hlt:i <n
 ·refine .inr ⟨hlt,Pv (i+1),λσ' H' p'=>⟨n - (i+1),by lia,Z,hlt,p'⟩,λx H' y=>?_⟩;obtain⟨e,y⟩:=y;subst e y;exact hs i σ _ hlt p
 ·have e:i=n:=by lia
  subst e;exact .inl ⟨le_refl _,hd σ H p⟩
theorem KR {c:TT} {tb:TS} {D:Ends} {σ:St} {H:Hp} (Pv:St->Hp->Prop) (μ:St->Hp->Nat) (h0:Pv σ H)
  (hs:∀σ H,Pv σ H->c σ H λb H1=>if b=true then tb { D with nx:=λσ' H'=>Pv σ' H'/\μ σ' H' <μ σ H,ct:=λσ' H'=>Pv σ' H'/\μ σ' H' <μ σ H,bk:=D.nx } σ H1 else D.nx σ H1)
  (mono:∀σ H Q Q',(∀b H1,Q b H1->Q' b H1)->c σ H Q->c σ H Q'):Up c tb D σ H:=by
 refine⟨λm σ H=>m=μ σ H/\Pv σ H,⟨_,Z,h0⟩,?_⟩;rintro m σ H ⟨rfl,p⟩;refine mono σ H _ _ (λb H1 q=>?_) (hs σ H p);cases b with
 | true=>exact⟨_,λσ' H' ⟨p',l⟩=>⟨_,l,rfl,p'⟩,q⟩
 | false=>exact q
noncomputable abbrev R2:=V->V->Hp->VK->Prop
noncomputable def wK (X:Cx) (f:Value->Value->Sem Value) (r:R2):Prop:=
 ∀(pins:List (Addr×Obj)) (s:Shared) (σ:St) (H:Hp) (x y:V) (v u:Value) (Q:VK),Inv X pins σ H s->RelV x v->RelV y u->r x y H Q->
  wpAny (model X.prog X.w) X.A (f v u) (EP X pins σ Q) X.xe s
noncomputable def UnR (X:Cx) (f:Value->Sem Value) (r:V->Hp->VK->Prop):Prop:=
 ∀(pins:List (Addr×Obj)) (s:Shared) (σ:St) (H:Hp) (x:V) (v:Value) (Q:VK),Inv X pins σ H s->RelV x v->r x H Q->
  wpAny (model X.prog X.w) X.A (f v) (EP X pins σ Q) X.xe s
noncomputable def lg (X:Cx) (f:Value) (r:List V->Hp->VK->Prop):Prop:=
 ∀(pins:List (Addr×Obj)) (s:Shared) (σ:St) (H:Hp) (xs:List V) (us:List Value) (Q:VK),Inv X pins σ H s->Vals xs us->r xs H Q->
  wpAny (model X.prog X.w) X.A (call f us) (EP X pins σ Q) X.xe s
noncomputable def Vg (r:R2) (ta tb:TE):TE:=λσ H Q=>ta σ H λx H1=>tb σ H1 λy H2=>r x y H2 Q
noncomputable def tUn (r:V->Hp->VK->Prop) (ta:TE):TE:=λσ H Q=>ta σ H λx H1=>r x H1 Q
inductive rII (C:Int->Int->Prop) (g:Int->Int->V) (x:V) (y:V) (H:Hp) (Q:VK):Prop where
 | mk:∀i j,x=.int i->y=.int j->C i j->Q (g i j) H->rII C g x y H Q
noncomputable def rI (C:Int->Int->Prop) (g:Int->Int->V):R2:=λx y H Q=>rII C g x y H Q
inductive aaj (g:Int->Int->V) (x:V) (y:V) (H:Hp) (Q:VK):Prop where
 | mk:∀i j,x=.int i->y=.int j->Q (g i j) H->aaj g x y H Q
noncomputable def Wk (g:Int->Int->V):R2:=λx y H Q=>aaj g x y H Q
noncomputable def rU (g:Int->V):V->Hp->VK->Prop:=λx H Q=>∃i,x=.int i/\Q (g i) H
section
variable {X:Cx} {a b c:Expr} {ta tb tc:TE} {pos:Pos}
theorem X5 (ha:PE X a ta) (hb:PE X b tb) {pins:List (Addr×Obj)} {s:Shared} {σ:St} {H:Hp} {R:V->V->Hp->Prop} (I:Inv X pins σ H s)
  (h:ta σ H λx H1=>tb σ H1 λy H2=>R x y H2) {Q:Value->Shared->Prop} {f:Value->Value->Sem Value}
  (hf:∀v u s2 x y H2,Inv X pins σ H2 s2->RelV x v->RelV y u->R x y H2->wpAny (model X.prog X.w) X.A (f v u) Q X.xe s2):
  wpAny (model X.prog X.w) X.A (eval a X.env) (λv s₁=>wpAny (model X.prog X.w) X.A (eval b X.env) (λu s₂=>wpAny (model X.prog X.w) X.A (f v u) Q X.xe s₂) X.xe s₁) X.xe s:=by
 refine dz (ha pins s σ H _ I h) λv s1 hpt=>?_;obtain⟨x,H1,I1,r1,q1⟩:=hpt;refine dz (hb pins s1 σ H1 _ I1 q1) λu s2 hpt=>?_;obtain⟨y,H2,I2,r2,q2⟩:=hpt;exact hf v u s2 x y H2 I2 r1 r2 q2
theorem bB {op:Operator} {r:R2} (ho:wK X (binaryOp op) r) (ha:PE X a ta) (hb:PE X b tb):PE X (.BinOp a op b pos) (Vg r ta tb):=by intro pins s σ H Q I h;exact wpAny_BinOp (X5 ha hb I h λv u s2 x y H2 I2 rx ry q=>ho pins s2 σ H2 x y v u Q I2 rx ry q)
theorem Z8 {op:UnaryOp} {r:V->Hp->VK->Prop} (ho:UnR X (unaryOp op) r) (ha:PE X a ta):PE X (.UnaryOp op a pos) (tUn r ta):=by intro pins s σ H Q I h;exact UnaryOp_ (dz (ha pins s σ H _ I h) λv s1 ⟨x,H1,I1,r1,q1⟩=>ho pins s1 σ H1 x v Q I1 r1 q1)
theorem opI {f:Value->Value->Sem Value} {C:Int->Int->Prop} {g:Int->Int->Int}
  (rule:∀(i j:Int) (t u:Tok) (s:Shared) (Q:Value->Shared->Prop) (E:Value->Shared->Prop),C i j->Q (.int (g i j) s.toks) { s with toks:=s.toks+1 }->wpAny (model X.prog X.w) X.A (f (.int i t) (.int j u)) Q E s):
  wK X f (rI C λi j=>.int (g i j)):=by
 intro pins s σ H x y v u Q I rx ry h;obtain⟨i,j,rfl,rfl,hc,q⟩:=h;obtain⟨t,rfl⟩:=rx;obtain⟨t',rfl⟩:=ry;exact rule i j t t' s _ _ hc ⟨.int (g i j),H,I.tok _,⟨_,Z⟩,q⟩
theorem X7 {f:Value->Value->Sem Value} {g:Int->Int->Int}
  (rule:∀(i j:Int) (t u:Tok) (s:Shared) (Q:Value->Shared->Prop) (E:Value->Shared->Prop),Q (.int (g i j) s.toks) { s with toks:=s.toks+1 }->wpAny (model X.prog X.w) X.A (f (.int i t) (.int j u)) Q E s):
  wK X f (Wk λi j=>.int (g i j)):=by
 intro pins s σ H x y v u Q I rx ry h;obtain⟨i,j,rfl,rfl,q⟩:=h;obtain⟨t,rfl⟩:=rx;obtain⟨t',rfl⟩:=ry;exact rule i j t t' s _ _ ⟨.int (g i j),H,I.tok _,⟨_,Z⟩,q⟩
theorem Wi {f:Value->Value->Sem Value} {g:Int->Int->Bool}
  (rule:∀(i j:Int) (t u:Tok) (s:Shared) (Q:Value->Shared->Prop) (E:Value->Shared->Prop),Q (.bool (g i j)) s->wpAny (model X.prog X.w) X.A (f (.int i t) (.int j u)) Q E s):
  wK X f (Wk λi j=>.bl (g i j)):=by
 intro pins s σ H x y v u Q I rx ry h;obtain⟨i,j,rfl,rfl,q⟩:=h;obtain⟨t,rfl⟩:=rx;obtain⟨t',rfl⟩:=ry;exact rule i j t t' s _ _ ⟨.bl (g i j),H,I,Z,q⟩
noncomputable def aaM (i j:Int):Prop:=0<=j/\j<=1000000/\i.natAbs <2 ^ 64
theorem fD:wK X (binaryOp .Add) (Wk λi j=>.int (i+j)):=X7 λ_ _ _ _ _ _ _ q=>add_int q
theorem M7:wK X (binaryOp .Sub) (Wk λi j=>.int (i - j)):=X7 λ_ _ _ _ _ _ _ q=>sub_int q
theorem cB:wK X (binaryOp .Mod) (rI (λ_ j=>0 <j) λi j=>.int (i % j)):=opI λi j _ _ _ _ _ hc q=>by have h1:(0:Int) <j:=hc;exact mod_int' (by lia) (by rw [Int.fmod_eq_emod_of_nonneg i (by lia)];exact q)
theorem Nx:wK X (binaryOp .Pow) (rI aaM λi j=>.int (i ^ j.toNat)):=opI λ_ _ _ _ _ _ _ hc q=>pow_int_small hc.1 hc.2.1 hc.2.2 q
theorem Kd:wK X (inplaceOp .Add) (Wk λi j=>.int (i+j)):=X7 λ_ _ _ _ _ _ _ q=>iadd_int q
theorem unI {f:Value->Sem Value} {g:Int->Int}
  (rule:∀(i:Int) (t:Tok) (s:Shared) (Q:Value->Shared->Prop) (E:Value->Shared->Prop),Q (.int (g i) s.toks) { s with toks:=s.toks+1 }->wpAny (model X.prog X.w) X.A (f (.int i t)) Q E s):
  UnR X f (rU λi=>.int (g i)):=by
 intro pins s σ H x v Q I rx h;obtain⟨i,rfl,q⟩:=h;obtain⟨t,rfl⟩:=rx;exact rule i t s _ _ ⟨.int (g i),H,I.tok _,⟨_,Z⟩,q⟩
theorem YQ:UnR X (unaryOp .USub) (rU λi=>.int (-i)):=unI λ_ _ _ _ _ q=>neg_int q
end
noncomputable def ZK:V->V->Bool
 | .non,.non=>true | .non,.int _=>true | .int _,.non=>true | .non,.bl _=>true | .bl _,.non=>true | .non,.str _=>true | .str _,.non=>true
 | .int _,.int _=>true | .bl _,.bl _=>true | .str _,.str _=>true | .byt _,.byt _=>true
 | .int _,.str _=>true | .str _,.int _=>true | .bl _,.str _=>true | .str _,.bl _=>true
 | _,_=>false
noncomputable def rEq:R2:=λx y H Q=>ZK x y=true/\Q (.bl (decide (x=y))) H
noncomputable def rNe:R2:=λx y H Q=>ZK x y=true/\Q (.bl (!decide (x=y))) H
theorem Qa {i j:Int}:decide (V.int i=V.int j)=(i == j):=by rw [Bool.eq_iff_iff];simp
theorem Tc {i j:Bool}:decide (V.bl i=V.bl j)=(i == j):=by rw [Bool.eq_iff_iff];simp
theorem P0 {i j:Str}:decide (V.str i=V.str j)=(i == j):=by rw [Bool.eq_iff_iff];simp
theorem Qg {i j:Array UInt8}:decide (V.byt i=V.byt j)=(i.toList == j.toList):=by rw [Bool.eq_iff_iff];cases i;cases j;simp
section
variable {X:Cx} {a b c:Expr} {ta tb tc:TE} {pos:Pos}
theorem cP {pins:List (Addr×Obj)} {σ:St} {H:Hp} {s:Shared} {Q:VK} {k k':Bool} (I:Inv X pins σ H s) (q:Q (.bl k) H) (e:k=k'):EP X pins σ Q (.bool k') s:=by subst e;exact⟨.bl k,H,I,Z,q⟩
theorem gP:wK X (compareOp .Eq) rEq:=by
 intro pins s σ H x y v u Q I rx ry h;obtain⟨hs,q⟩:=h;cases x with
 | non=>
  cases rx;cases y with
  | non=>cases ry;exact PySem.EqNone.eq_none_none (cP I q (by simp))
  | bl j=>cases ry;exact PySem.EqNone.eq_none_bool (cP I q (by simp))
  | int j=>obtain⟨t',rfl⟩:=ry;exact PySem.EqNone.eq_none_int (cP I q (by simp))
  | str j=>obtain⟨t',rfl⟩:=ry;exact PySem.EqNone.eq_none_str (cP I q (by simp))
  | _=>exact absurd (show false=true from hs) Bool.false_ne_true
 | bl i=>
  cases rx;cases y with
  | non=>cases ry;exact PySem.EqNone.eq_bool_none (cP I q (by simp))
  | bl j=>cases ry;exact eq_bool (cP I q Tc)
  | str j=>obtain⟨t',rfl⟩:=ry;exact PySem.EqMixed.eq_bool_str (cP I q (by simp))
  | _=>exact absurd (show false=true from hs) Bool.false_ne_true
 | int i=>
  obtain⟨t,rfl⟩:=rx;cases y with
  | non=>cases ry;exact PySem.EqNone.eq_int_none (cP I q (by simp))
  | int j=>obtain⟨t',rfl⟩:=ry;exact eq_int (cP I q Qa)
  | str j=>obtain⟨t',rfl⟩:=ry;exact PySem.EqMixed.eq_int_str (cP I q (by simp))
  | _=>exact absurd (show false=true from hs) Bool.false_ne_true
 | str i=>
  obtain⟨t,rfl⟩:=rx;cases y with
  | non=>cases ry;exact PySem.EqNone.eq_str_none (cP I q (by simp))
  | bl j=>cases ry;exact PySem.EqMixed.eq_str_bool (cP I q (by simp))
  | int j=>obtain⟨t',rfl⟩:=ry;exact PySem.EqMixed.eq_str_int (cP I q (by simp))
  | str j=>obtain⟨t',rfl⟩:=ry;exact eq_str (cP I q P0)
  | _=>exact absurd (show false=true from hs) Bool.false_ne_true
 | byt i=>
  obtain⟨t,rfl⟩:=rx;cases y with
  | byt j=>obtain⟨t',rfl⟩:=ry;exact PySem.W.eq_bytes (cP I q Qg)
  | _=>exact absurd (show false=true from hs) Bool.false_ne_true
 | _=>cases y <;> exact absurd (show false=true from hs) Bool.false_ne_true
theorem Pz:wK X (compareOp .NotEq) rNe:=by
 intro pins s σ H x y v u Q I rx ry h;obtain⟨hs,q⟩:=h;cases x with
 | non=>
  cases rx;cases y with
  | non=>cases ry;exact PySem.EqNone.ne_none_none (cP I q (by simp))
  | bl j=>cases ry;exact PySem.EqNone.ne_none_bool (cP I q (by simp))
  | int j=>obtain⟨t',rfl⟩:=ry;exact PySem.EqNone.ne_none_int (cP I q (by simp))
  | str j=>obtain⟨t',rfl⟩:=ry;exact PySem.EqNone.ne_none_str (cP I q (by simp))
  | _=>exact absurd (show false=true from hs) Bool.false_ne_true
 | bl i=>
  cases rx;cases y with
  | non=>cases ry;exact PySem.EqNone.ne_bool_none (cP I q (by simp))
  | bl j=>cases ry;exact ne_bool (cP I q (congrArg not Tc))
  | str j=>obtain⟨t',rfl⟩:=ry;exact PySem.EqMixed.ne_bool_str (cP I q (by simp))
  | _=>exact absurd (show false=true from hs) Bool.false_ne_true
 | int i=>
  obtain⟨t,rfl⟩:=rx;cases y with
  | non=>cases ry;exact PySem.EqNone.ne_int_none (cP I q (by simp))
  | int j=>obtain⟨t',rfl⟩:=ry;exact ne_int (cP I q (congrArg not Qa))
  | str j=>obtain⟨t',rfl⟩:=ry;exact PySem.EqMixed.ne_int_str (cP I q (by simp))
  | _=>exact absurd (show false=true from hs) Bool.false_ne_true
 | str i=>
  obtain⟨t,rfl⟩:=rx;cases y with
  | non=>cases ry;exact PySem.EqNone.ne_str_none (cP I q (by simp))
  | bl j=>cases ry;exact PySem.EqMixed.ne_str_bool (cP I q (by simp))
  | int j=>obtain⟨t',rfl⟩:=ry;exact PySem.EqMixed.ne_str_int (cP I q (by simp))
  | str j=>obtain⟨t',rfl⟩:=ry;exact ne_str (cP I q (congrArg not P0))
  | _=>exact absurd (show false=true from hs) Bool.false_ne_true
 | byt i=>
  obtain⟨t,rfl⟩:=rx;cases y with
  | byt j=>obtain⟨t',rfl⟩:=ry;exact PySem.W.ne_bytes (cP I q (congrArg not Qg))
  | _=>exact absurd (show false=true from hs) Bool.false_ne_true
 | _=>cases y <;> exact absurd (show false=true from hs) Bool.false_ne_true
theorem Ab:wK X (compareOp .Lt) (Wk λi j=>.bl (decide (i <j))):=Wi λ_ _ _ _ _ _ _ q=>lt_int q
theorem xq:wK X (compareOp .LtE) (Wk λi j=>.bl (decide (i<=j))):=Wi λ_ _ _ _ _ _ _ q=>le_int q
theorem PX:wK X (compareOp .Gt) (Wk λi j=>.bl (decide (j <i))):=Wi λ_ _ _ _ _ _ _ q=>gt_int q
theorem Z6:wK X (compareOp .GtE) (Wk λi j=>.bl (decide (j<=i))):=Wi λ_ _ _ _ _ _ _ q=>ge_int q
theorem Ay:wK X (compareOp .In) (λx y H Q=>∃i j,x=.str i/\y=.str j/\Q (.bl (!(Builtin.Str.occurrences j i 0 j.length 1).isEmpty)) H):=by intro pins s σ H x y v u Q I rx ry h;obtain⟨i,j,rfl,rfl,q⟩:=h;obtain⟨t,rfl⟩:=rx;obtain⟨t',rfl⟩:=ry;exact in_str (cP I q Z)
theorem bN (b:Expr) {op:CmpOp} (h:op≠.In:=by decide) (h2:op≠.NotIn:=by decide):behindInMarks op b=false:=by
 have e1:(op == CmpOp.In)=false:=by cases op <;> first | rfl | exact absurd rfl h
 have e2:(op == CmpOp.NotIn)=false:=by cases op <;> first | rfl | exact absurd rfl h2
 cases b <;> simp [behindInMarks,e1,e2]
theorem tH {op:CmpOp} {r:R2} (ho:wK X (compareOp op) r) (ha:PE X a ta) (hb:PE X b tb) (hm:behindInMarks op b=false):PE X (.Compare a [op] [b] pos) (Vg r ta tb):=by intro pins s σ H Q I h;exact wpAny_Compare1 (X5 ha hb I h λv u s2 x y H2 I2 rx ry q=>ho pins s2 σ H2 x y v u Q I2 rx ry q) hm
inductive U5 (Q:Bool->Hp->Prop) (x:V) (H':Hp):Prop where
 | mk:∀k,x=.bl k->Q k H'->U5 Q x H'
noncomputable def Tg (t:TE):TT:=λσ H Q=>t σ H λx H'=>U5 Q x H'
theorem aZ {op:CmpOp} {r:R2} (ho:wK X (compareOp op) r) (ha:PE X a ta) (hb:PE X b tb) (hm:behindInMarks op b=false):PT X (.Compare a [op] [b] pos) (Tg (Vg r ta tb)):=by
 intro pins s σ H Q I h;refine wpAny_isTrue_Compare1 (dz (ha pins s σ H _ I h) λv s1 ⟨x,H1,I1,r1,q1⟩=>dz (hb pins s1 σ H1 _ I1 q1) λu s2 ⟨y,H2,I2,r2,q2⟩=>
  dz (ho pins s2 σ H2 x y v u _ I2 r1 r2 q2) λc s3 ⟨z,H3,I3,r3,k,e,q3⟩=>?_) hm
 subst e;cases r3;exact wpAny_truthy_bool ⟨H3,I3,q3⟩
inductive OJ (r':R2) (tc:TE) (σ:St) (Q:VK) (y:V) (z:V) (H3:Hp):Prop where
 | mk:∀k,z=.bl k->((if k=true then tc σ H3 λw' H4=>r' y w' H4 Q else Q (.bl false) H3))->OJ r' tc σ Q y z H3
noncomputable def Tn (r r':R2) (ta tb tc:TE):TE:=λσ H Q=>ta σ H λx H1=>tb σ H1 λy H2=>r x y H2 λz H3=>OJ r' tc σ Q y z H3
theorem Rk {op op':CmpOp} {r r':R2} (ho:wK X (compareOp op) r) (ho':wK X (compareOp op') r') (ha:PE X a ta) (hb:PE X b tb) (hc:PE X c tc)
  (hm:lastMarks [op,op'] [b,c]=false:=by with_unfolding_all rfl):PE X (.Compare a [op,op'] [b,c] pos) (Tn r r' ta tb tc):=by
 intro pins s σ H Q I h;refine Compare_chain (dz (ha pins s σ H _ I h) λv s1 ⟨x,H1,I1,r1,q1⟩=>chain_link (dz (hb pins s1 σ H1 _ I1 q1) λu s2 ⟨y,H2,I2,r2,q2⟩=>
  dz (ho pins s2 σ H2 x y v u _ I2 r1 r2 q2) λd s3 ⟨z,H3,I3,r3,k,e,q3⟩=>?_)) hm
 subst e;cases r3;refine wpAny_truthy_bool ?_;cases k with
 | false=>exact ite_ff ⟨.bl false,H3,I3,rfl,q3⟩
 | true=>exact ite_tt (chain_last (dz (hc pins s3 σ H3 _ I3 q3) λw' s4 ⟨z',H4,I4,r4,q4⟩=>ho' pins s4 σ H4 y z' u w' Q I4 r2 r4 q4))
theorem yP {op op':CmpOp} {r r':R2} (ho:wK X (compareOp op) r) (ho':wK X (compareOp op') r') (ha:PE X a ta) (hb:PE X b tb) (hc:PE X c tc)
  (hm:lastMarks [op,op'] [b,c]=false:=by with_unfolding_all rfl):PT X (.Compare a [op,op'] [b,c] pos) (Tg (Tn r r' ta tb tc)):=by
 intro pins s σ H Q I h;refine isTrue_chain (dz (ha pins s σ H _ I h) λv s1 ⟨x,H1,I1,r1,q1⟩=>test_link (dz (hb pins s1 σ H1 _ I1 q1) λu s2 ⟨y,H2,I2,r2,q2⟩=>
  dz (ho pins s2 σ H2 x y v u _ I2 r1 r2 q2) λd s3 ⟨z,H3,I3,r3,k,e,q3⟩=>?_)) hm
 subst e;cases r3;refine wpAny_truthy_bool ?_;cases k with
 | false=>
  obtain⟨k',e',q'⟩:=q3;cases e';exact ite_ff ⟨H3,I3,q'⟩
 | true=>
  refine ite_tt (test_last (dz (hc pins s3 σ H3 _ I3 q3) λw' s4 ⟨z',H4,I4,r4,q4⟩=>dz (ho' pins s4 σ H4 y z' u w' _ I4 r2 r4 q4) λd' s5 hpt=>?_));obtain⟨z2,H5,I5,r5,k2,e2,q5⟩:=hpt;subst e2;cases r5;exact wpAny_truthy_bool ⟨H5,I5,q5⟩
theorem JH:(sizeLine:Nat) <2 ^ 63:=by rw [sizeLine_eq];decide
theorem yh:wK X (binaryOp .Add) (λx y H Q=>∃i j,x=.str i/\y=.str j/\i.length+j.length<=sizeLine/\Q (.str (i ++ j)) H):=by intro pins s σ H x y v u Q I rx ry h;obtain⟨i,j,rfl,rfl,hz,q⟩:=h;obtain⟨t,rfl⟩:=rx;obtain⟨t',rfl⟩:=ry;exact add_str (λt' tk=>⟨.str (i ++ j),H,I.tok _,⟨_,Z⟩,q⟩) hz
theorem vals1 {x:V} {us:List Value} (r:Vals [x] us):∃u,us=[u]/\RelV x u:=by
 cases r with
 | cons r1 r2=>cases r2;exact⟨_,rfl,r1⟩
theorem vals2 {x y:V} {us:List Value} (r:Vals [x,y] us):∃u w',us=[u,w']/\RelV x u/\RelV y w':=by
 cases r with
 | cons r1 r2=>
  cases r2 with
  | cons r3 r4=>cases r4;exact⟨_,_,rfl,r1,r3⟩
theorem Hx (hc:X.calm=true):lg X (.builtin "max") (λxs H Q=>∃i j,xs=[.int i,.int j]/\Q (.int (if j >i then j else i)) H):=by
 intro pins s σ H xs us Q I r h;obtain⟨i,j,rfl,q⟩:=h;obtain⟨u,w',rfl,⟨t,rfl⟩,⟨t',rfl⟩⟩:=vals2 r;refine max_two_ints (I.ok.hd hc) λh' tk k=>⟨_,H,I.kept k,?_,q⟩;by_cases hj:j >i
 ·rw [if_pos hj,if_pos hj];exact⟨_,rfl⟩
 ·rw [if_neg hj,if_neg hj];exact⟨_,rfl⟩
theorem Ju:lg X (.type "str") (λxs H Q=>∃i,xs=[.int i]/\i.natAbs.log2 <1920/\Q (.str (toString i)) H):=by intro pins s σ H xs us Q I r h;obtain⟨i,rfl,hz,q⟩:=h;obtain⟨u,rfl,t,rfl⟩:=vals1 r;exact PySem.P.str_of_int hz ⟨.str _,H,I.tok _,⟨_,Z⟩,q⟩
noncomputable def Yx (K:Fr) (x:V) (H:Hp) (n:Nat):Prop:=
 match x with
 | .str y=>y.length<=sizeLine/\n=y.length
 | .byt y=>y.size<=sizeLine/\n=y.size
 | .ref p=>(∃xs,bK K H p xs/\n=xs.length)∨∃xs,gq K H p xs/\n=xs.length
 | _=>False
theorem bY:lg X (.builtin "len") (λxs H Q=>∃x n,xs=[x]/\Yx X.K x H n/\Q (.int n) H):=by
 intro pins s σ H xs us Q I r h;obtain⟨x,n,rfl,e,q⟩:=h;obtain⟨u,rfl,rx⟩:=vals1 r;have hl:=JH;have hs:sizeLine=16777216:=sizeLine_eq;cases x with
 | str y=>
  obtain⟨t,rfl⟩:=rx;obtain⟨hy,e'⟩:y.length<=sizeLine/\n=y.length:=e;subst e';exact len_str (by lia) ⟨.int _,H,I.tok _,⟨_,Z⟩,q⟩
 | byt y=>
  obtain⟨t,rfl⟩:=rx;obtain⟨hy,e'⟩:y.size<=sizeLine/\n=y.size:=e;subst e';exact PySem.W.len_bytes (by lia) ⟨.int _,H,I.tok _,⟨_,Z⟩,q⟩
 | ref p=>
  cases rx;have e':(∃xs,bK X.K H p xs/\n=xs.length)∨∃xs,gq X.K H p xs/\n=xs.length:=e;rcases e' with ⟨xs,hx,e'⟩ | ⟨xs,hx,e'⟩
  ·subst e';obtain⟨its,r',pl,hz⟩:=I.list hx;have hlen:=r'.length;exact Calls.call_len_list pl.isList (by simp only [size_toArray];lia) ⟨.int xs.length,H,I.tok _,⟨_,by simp only [size_toArray];rw [hlen]⟩,q⟩
  ·subst e';obtain⟨its,r',pl,hz⟩:=I.tuple hx;have hlen:=r'.length;exact len_tuple pl (by simp only [size_toArray];lia) ⟨.int xs.length,H,I.tok _,⟨_,by simp only [size_toArray];rw [hlen]⟩,q⟩
 | _=>exact(show False from e).elim
end
structure Mv (h:Heap) (x dx C:Addr) (mA:Str->Option Value):Prop where
 obj:h.get? x=some (PySem.W.instObj C dx)
 ns:h.Ns1 dx mA
 ne:dx≠x
theorem Ai {h:Heap} {dx:Addr} {mA:Str->Option Value} (n:h.Ns1 dx mA):∃od,h.get? dx=some od/\∀name,PySem.W.lookIn name od=some (mA name):=by
 obtain⟨o,es,ep,ho,hd,hk,_,hm⟩:=n;refine⟨o,ho,λname=>?_⟩;have e:=hm name;unfold nsFind findBy at e;rw [<-Array.find?_toList] at e;unfold PySem.W.lookIn;rw [hd];dsimp only;split
 ·rename_i y q;rw [q] at e;exact congrArg some e
 ·rename_i q;rw [q] at e;have a:es.toList.any (·.refKey)=false:=by rw [List.any_eq_false];intro y hy;obtain⟨z,t,hkey⟩:=hk y (Array.mem_toList_iff.mp hy);simp [DictEntry.refKey,hkey]
  have a':¬es.toList.any (·.refKey)=true:=by rw [a];exact Bool.false_ne_true
  rw [if_neg a'];exact congrArg some e
theorem Mv.look {h:Heap} {x dx C:Addr} {mA:Str->Option Value} (I:Mv h x dx C mA):∃od,PySem.W.InstAt h x (PySem.W.instObj C dx) C (some od)/\∀name,PySem.W.lookIn name od=some (mA name):=
 let ⟨od,ho,hl⟩:=Ai I.ns
 ⟨od,⟨I.obj,rfl,rfl,ho⟩,hl⟩
section
variable {prog:Program} {w:World} {A:Around} {E:Value->Shared->Prop} {s:Shared} {K:Fr} {x dx C f:Addr} {mA:Str->Option Value} {name:Str} {v:Value}
theorem Vu {expr:Bool} {Q:Value->Shared->Prop} (X:K.In s.heap) (I:Mv s.heap x dx C mA) (hg:PySem.W.plainGet K C name=true) (hh:PySem.W.hasDictIn K C=true)
  (ha:PySem.W.findIn K (.ref C) name=some none) (hv:mA name=some v) (hv':PySem.W.handedIn v=true) (h:Q v { s with toks:=s.toks+1 }):
  wpAny (model prog w) A (getAttr (.ref x) name expr) Q E s:=by
 obtain⟨od,J,hl⟩:=I.look;exact PySem.W.get_value X J (PySem.W.plainGet_of hg).1 (PySem.W.findObj_own hh ha Z (by rw [hl,hv])) hv' h
theorem Ux {pl:Sem Bool} {Q:Value×List Value->Shared->Prop} (X:K.In s.heap) (I:Mv s.heap x dx C mA) (hg:PySem.W.plainGet K C name=true)
  (hf:PySem.W.findIn K (.ref C) name=some (some (.ref f))) (ht:PySem.W.isFn K (.ref f)=true) (hv:mA name=none) (h:Q (.ref f,[.ref x]) s):
  wpAny (model prog w) A (getMethod (.ref x) name pl) Q E s:=by
 obtain⟨od,J,hl⟩:=I.look;exact PySem.W.method_fn X J (PySem.W.plainGet_of hg).1 (PySem.W.plainGet_of hg).2 hf (beq_iff_eq.mp ht) (by show(PySem.W.lookIn name od).map (·.isSome)=some false;rw [hl,hv];rfl) h
theorem Wu {ns:List Str} {Q:Unit->Shared->Prop} (X:K.In s.heap) (I:Mv s.heap x dx C mA)
  (hs:PySem.W.findIn K (.ref C) "__setattr__" =some (some (.builtin "object.__setattr__"))) (hp:PySem.W.plainOver K C=true) (ht:PySem.W.takerIn K C name=some none) (hh:PySem.W.hasDictIn K C=true)
  (hw:PySem.Within mA ns) (hsz:ns.length<=sizeLine)
  (h:∀h',Mv h' x dx C (λy=>if y=name then some v else mA y)->Heap.SameBut dx s.heap h'->Q () { s with heap:=h',toks:=s.toks+2 }):
  wpAny (model prog w) A (setAttr (.ref x) name v) Q E s:=by
 obtain⟨od,J,hl⟩:=I.look;refine PySem.W.set_plain X J hs (PySem.W.osa_open (s:={ s with toks:=s.toks+1 }) (r:=none) X J hp ht λb=>?_);obtain⟨cd,hc,hd'⟩:=PySem.W.any_some hh;have hx:s.heap.get? x=some ⟨.ref C,some dx,.plain,#[]⟩:=I.obj;refine wpAny_bind (wpAny_pure (wpAny_bind (wpAny_bind (wpAny_loadPart hx (wpAny_bind (PySem.W.Looks.here (s:={ s with toks:=s.toks+1 }) (PySem.W.looks_clsIn X hc) ?_))))));rw [hd'];refine wpAny_pure (a:=some dx) (wpAny_bind (wpAny_pure (wpAny_bind ?_)));refine wpAny_nsSet1 (s:={ s with toks:=s.toks+1 }) I.ns λh' hn2 hs2=>?_;obtain⟨oD,esD,epD,hoD,hdD,hcD⟩:=hn2.count (PySem.Within.cons name v hw);refine wpAny_bind (wpAny_lookBehind hoD (by rw [hdD];exact pastItsLine_dict (le_trans hcD (by rw [length_cons];lia))) ?_);exact wpAny_pure (h _ ⟨(hs2.2 _ (Ne.symm I.ne)).trans I.obj,hn2,I.ne⟩ hs2)
theorem Kr {R:Result->Shared->Prop} {vs:List Value} {kw:List (Str×Value)} (X:K.In s.heap) (hm:PySem.W.makesIn K C=true)
  (hi:PySem.W.findIn K (.ref C) "__init__" =some (some (.ref f))) (hf:PySem.W.typeIn K (.ref f)=some (.type "function"))
  (h:codeAny (model prog w) (A.under (.builtin "type.__call__" ⟨.ref C:: vs,kw⟩)) (.call (.ref f) ⟨.ref (s.heap.objs.size+1):: vs,kw⟩) (PySem.W.InitBack (s.heap.objs.size+1) R)
   { s with heap:=(s.heap.push PySem.W.emptyDict).push (PySem.W.instObj C s.heap.objs.size) }):
  codeAny (model prog w) A (.call (.ref C) ⟨vs,kw⟩) R s:=by
 obtain⟨hh,g,d,t,os⟩:=s;exact PySem.W.make_core (PySem.W.makes_of X hm) (PySem.W.looks_findIn X hi) (λself=>PySem.W.bind_fn X self hf) (.inl Z) h
end
noncomputable def aH (f:Str) (v:V):List (Str×V)->List (Str×V)
 | []=>[(f,v)]
 | (g,x):: r=>if g=f then(g,v):: r else(g,x):: aH f v r
theorem aD (f g:Str) (v:V):∀fs:List (Str×V),(aH f v fs).lookup g=if g=f then some v else fs.lookup g
 | []=>by
  show List.lookup g [(f,v)]=_;by_cases h:g=f
  ·have hb:(g == f)=true:=beq_iff_eq.mpr h;simp only [List.lookup,hb,if_pos h]
  ·have hb:(g == f)=false:=beq_eq_false_iff_ne.mpr h;simp only [List.lookup,hb,if_neg h]
 | (k,x):: r=>by
  have ih:=aD f g v r;rw [show aH f v ((k,x):: r)=(if k=f then(k,v):: r else(k,x):: aH f v r) from rfl];by_cases hk:k=f
  ·rw [if_pos hk];by_cases h:g=k
   ·have hb:(g == k)=true:=beq_iff_eq.mpr h;simp only [List.lookup,hb,if_pos (h.trans hk)]
   ·have hb:(g == k)=false:=beq_eq_false_iff_ne.mpr h;simp only [List.lookup,hb,if_neg (λe:g=f=>h (e.trans hk.symm))]
  ·rw [if_neg hk];by_cases h:g=k
   ·have hb:(g == k)=true:=beq_iff_eq.mpr h;simp only [List.lookup,hb,if_neg (λe:g=f=>hk (h.symm.trans e))]
   ·have hb:(g == k)=false:=beq_eq_false_iff_ne.mpr h;simp only [List.lookup,hb];exact ih
theorem An (f:Str) (v:V):∀fs:List (Str×V),f∈(aH f v fs).map (·.1)/\∀g,g∈fs.map (·.1)->g∈(aH f v fs).map (·.1)
 | []=>⟨by simp [aH],λg h=>by simp at h⟩
 | (k,x):: r=>by
  obtain⟨i1,i2⟩:=An f v r;rw [show aH f v ((k,x):: r)=(if k=f then(k,v):: r else(k,x):: aH f v r) from rfl];by_cases hk:k=f
  ·rw [if_pos hk];subst hk;exact⟨by simp,λg h=>by simpa using h⟩
  ·rw [if_neg hk];refine⟨?_,λg h=>?_⟩
   ·rw [map_cons];exact mem_cons_of_mem _ i1
   ·rw [map_cons] at h ⊢;rcases mem_cons.mp h with e | e
    ·exact mem_cons.mpr (.inl e)
    ·exact mem_cons_of_mem _ (i2 g e)
theorem vW (f:Str) (v:V):∀fs:List (Str×V),(aH f v fs).length<=fs.length+1
 | []=>by simp [aH]
 | (k,x):: r=>by
  have ih:=vW f v r;rw [show aH f v ((k,x):: r)=(if k=f then(k,v):: r else(k,x):: aH f v r) from rfl];by_cases hk:k=f
  ·rw [if_pos hk,length_cons,length_cons];lia
  ·rw [if_neg hk,length_cons,length_cons];lia
theorem rA.some_of {v:V} {o:Option Value} (r:rA (some v) o):∃u,o=some u/\RelV v u:=by
 cases o with
 | none=>exact(show False from r).elim
 | some u=>exact⟨u,rfl,r⟩
theorem rA.none_of {o:Option Value} (r:rA none o):o=none:=by
 cases o with
 | none=>rfl
 | some u=>exact(show False from r).elim
theorem Hi {v:V} {u:Value} (r:RelV v u):PySem.W.handedIn u=true:=by
 cases v with
 | non=>cases (show u=Value.none from r);rfl
 | bl b=>cases (show u=Value.bool b from r);rfl
 | int i=>obtain⟨t,e⟩:=(show ∃t,u=Value.int i t from r);cases e;rfl
 | str x=>obtain⟨t,e⟩:=(show ∃t,u=Value.str x t from r);cases e;rfl
 | byt b=>obtain⟨t,e⟩:=(show ∃t,u=Value.bytes b t from r);cases e;rfl
 | flt b=>obtain⟨t,e⟩:=(show ∃t,u=Value.float b t from r);cases e;rfl
 | ref a=>cases (show u=Value.ref a from r);rfl
 | ty n=>cases (show u=Value.type n from r);rfl
section
variable {P:Program} {w:World} {H H':Hp} {h h':Heap} {a C dx:Addr} {fs fs':List (Str×V)}
theorem Jx (hok:vU P w H h) (e:H a=some (.ins C dx fs)):∃mA,Mv h a dx C mA/\(∀f,rA (fs.lookup f) (mA f))/\PySem.Within mA (fs.map (·.1))/\fs.length<=1000/\H dx=some (.own a):=by obtain⟨d,z,ne,ob,mA,n,r,q⟩:=(show dD P w H h a (.ins C dx fs) from hok a _ e);exact⟨mA,⟨ob,n,ne⟩,r,q,z,d⟩
end
structure Pg (K:Fr) (C:Addr):Prop where
 pg:PySem.W.plainGet K C Str.empty=true
 hd:PySem.W.hasDictIn K C=true
 po:PySem.W.plainOver K C=true
 sa:PySem.W.findIn K (.ref C) "__setattr__" =some (some (.builtin "object.__setattr__"))
theorem Pg.get {K:Fr} {C:Addr} (c:Pg K C) (f:Str):PySem.W.plainGet K C f=true:=c.pg
noncomputable def ig (K:Fr) (C:Addr) (f:Str):Prop:=PySem.W.findIn K (.ref C) f=some none
theorem ig.taker {K:Fr} {C:Addr} {f:Str} (n:ig K C f):PySem.W.takerIn K C f=some none:=by unfold PySem.W.takerIn;rw [show PySem.W.findIn K (.ref C) f=some none from n];rfl
structure Meth (K:Fr) (C:Addr) (m:Str) (f:Addr):Prop where
 at_:PySem.W.findIn K (.ref C) m=some (some (.ref f))
 fn:PySem.W.isFn K (.ref f)=true
 kp:PySem.W.keepIn K (.ref f)=true
section
variable {X:Cx} {pins:List (Addr×Obj)} {σ:St} {H:Hp} {s:Shared} {a C dx:Addr} {fs:List (Str×V)} {f:Str} {v:V} {A:Around} {E:Value->Shared->Prop}
theorem Ek {b:Bool} {Q:Value->Shared->Prop} (I:Inv X pins σ H s) (e:H a=some (.ins C dx fs)) (c:Pg X.K C) (n:ig X.K C f) (l:fs.lookup f=some v)
  (h:∀u s',Inv X pins σ H s'->RelV v u->Q u s'):wpAny (model X.prog X.w) A (getAttr (.ref a) f b) Q E s:=by
 obtain⟨mA,O,r,_,_,_⟩:=Jx I.hok e;obtain⟨u,hu,ru⟩:=rA.some_of (v:=v) (o:=mA f) (by rw [<-l];exact r f);exact Vu I.kIn O (c.get f) c.hd n hu (Hi ru) (h u _ (I.tok _) ru)
theorem pU {m:Str} {g:Addr} {pl:Sem Bool} {Q:Value×List Value->Shared->Prop} (I:Inv X pins σ H s) (e:H a=some (.ins C dx fs)) (c:Pg X.K C) (k:Meth X.K C m g) (l:fs.lookup m=none)
  (h:Q (.ref g,[.ref a]) s):wpAny (model X.prog X.w) A (getMethod (.ref a) m pl) Q E s:=by
 obtain⟨mA,O,r,_,_,_⟩:=Jx I.hok e;have hn:mA m=none:=rA.none_of (by rw [<-l];exact r m);exact Ux I.kIn O (c.get m) k.at_ k.fn hn h
theorem Fb {y:V} {u:Value} {Q:Unit->Shared->Prop} (I:Inv X pins σ H s) (e:H a=some (.ins C dx fs)) (c:Pg X.K C) (n:ig X.K C f) (hl:fs.length <1000) (ry:RelV y u)
  (h:∀s',Inv X pins σ (upd H a (.ins C dx (aH f y fs))) s'->Q () s'):wpAny (model X.prog X.w) A (setAttr (.ref a) f u) Q E s:=by
 obtain⟨mA,O,r,wi,_,ho⟩:=Jx I.hok e;have hz:(fs.map (·.1)).length<=sizeLine:=by rw [length_map,sizeLine_eq];lia
 refine Wu I.kIn O c.sa c.po n.taker c.hd wi hz λh' O' sb=>h _ ?_;have hd:∃o,h'.get? dx=some o:=let ⟨o,_,_,e',_⟩:=O'.ns;⟨o,e'⟩
 refine I.write (x:=a) (e:=dx) (by rw [e];exact True.intro) (.inr ho) (λb q hb z=>(sb.2 b hb).trans z) hd ?_;refine⟨by rw [aG O.ne];exact ho,?_,O.ne,O'.obj,_,O'.ns,λg=>?_,λg hg=>?_⟩
 ·have:=vW f y fs;lia
 ·show rA ((aH f y fs).lookup g) (if g=f then some u else mA g);rw [aD];by_cases q:g=f
  ·rw [if_pos q,if_pos q];exact ry
  ·rw [if_neg q,if_neg q];exact r g
 ·by_cases q:g=f
  ·rw [q];exact(An f y fs).1
  ·refine(An f y fs).2 g (wi g λz=>hg ?_);show(if g=f then some u else mA g)=none;rw [if_neg q];exact z
theorem Inv.made (I:Inv X pins σ H s):Inv X pins σ (upd (upd H s.heap.objs.size (.own (s.heap.objs.size+1))) (s.heap.objs.size+1) (.ins C s.heap.objs.size []))
  { s with heap:=(s.heap.push PySem.W.emptyDict).push (PySem.W.instObj C s.heap.objs.size) }:=by
 have e1:(s.heap.push PySem.W.emptyDict).get? s.heap.objs.size=some PySem.W.emptyDict:=Heap.get?_push_size s.heap rfl;have e2:((s.heap.push PySem.W.emptyDict).push (PySem.W.instObj C s.heap.objs.size)).get? (s.heap.objs.size+1)=some (PySem.W.instObj C s.heap.objs.size):=by have:=Heap.get?_push_size (s.heap.push PySem.W.emptyDict) (o:=PySem.W.instObj C s.heap.objs.size) rfl;rwa [Heap.size_push] at this
 have e3:(s.heap.push PySem.W.emptyDict).Ns s.heap.objs.size (λ_=>none):=⟨PySem.W.emptyDict,#[],_,e1,rfl,(λe he=>absurd he (by simp)),λ_=>rfl⟩;have I1:=I.laid (a:=s.heap.objs.size) (o:=.own (s.heap.objs.size+1)) (h':=s.heap.push PySem.W.emptyDict) (t':=s.toks) (λb u q=>Heap.get?_push_of_some _ q) (le_refl _) ⟨_,e1⟩;refine I1.laid (a:=s.heap.objs.size+1) (o:=.ins C s.heap.objs.size []) (t':=s.toks) (λb u q=>Heap.get?_push_of_some _ q) (Nat.le_of_eq (Heap.size_push _ _)) ?_;have ne:s.heap.objs.size≠s.heap.objs.size+1:=ne_of_lt (lt_succ_self _);refine⟨by rw [aG ne,aq],zero_le _,ne,e2,λ_=>none,(Heap.Ns1.of_empty e3).at λo q=>Heap.get?_push_of_some _ q,λ_=>True.intro,λy hy=>absurd rfl hy⟩
theorem Ov {prog:Program} {w:World} {env:Env} {e:Expr} {f:Str} {pos:Pos} {s:Shared} {Q:Value->Shared->Prop} (hb:attributeBase e f env (eval e env)=eval e env)
  (h:wpAny (model prog w) A (eval e env) (λo s₁=>wpAny (model prog w) A (getAttr o f true) Q E s₁) E s):wpAny (model prog w) A (eval (.Attribute e f pos) env) Q E s:=
 Attribute_any_ h (by rw [arm_eval_Attribute,hb])
end
inductive Xd (K:Fr) (f:Str) (Q:VK) (x:V) (H1:Hp):Prop where
 | mk:∀a C dx fs v,x=.ref a->H1 a=some (.ins C dx fs)->Pg K C->ig K C f->fs.lookup f=some v->Q v H1->Xd K f Q x H1
noncomputable def Zc (K:Fr) (ta:TE) (f:Str):TE:=λσ H Q=>ta σ H λx H1=>Xd K f Q x H1
inductive WN (K:Fr) (f:Str) (D:Ends) (σ:St) (y:V) (x:V) (H2:Hp):Prop where
 | mk:∀a C dx fs,x=.ref a->H2 a=some (.ins C dx fs)->Pg K C->ig K C f->fs.length <1000->D.nx σ (upd H2 a (.ins C dx (aH f y fs)))->WN K f D σ y x H2
noncomputable def abd (K:Fr) (ta tv:TE) (f:Str):TS:=λD σ H=>tv σ H λy H1=>ta σ H1 λx H2=>WN K f D σ y x H2
noncomputable def aan (X:Cx) (op:Operator) (rd:V->V->Hp->VK->Prop):Prop:=
 ∀(pins:List (Addr×Obj)) (s:Shared) (σ:St) (H:Hp) (x y:V) (u v:Value) (Q:VK),Inv X pins σ H s->RelV x u->RelV y v->rd x y H Q->wpAny (model X.prog X.w) X.A (inplaceOp op u v) (EP X pins σ Q) X.xe s
inductive K9 (K:Fr) (tv:TE) (rd:V->V->Hp->VK->Prop) (f:Str) (D:Ends) (σ:St) (x:V) (H1:Hp):Prop where
 | mk:∀a C dx fs v,x=.ref a->H1 a=some (.ins C dx fs)->Pg K C->ig K C f->fs.lookup f=some v->(tv σ H1 λy H2=>rd v y H2 λz H3=>∃dx' fs',H3 a=some (.ins C dx' fs')/\fs'.length <1000/\D.nx σ (upd H3 a (.ins C dx' (aH f z fs'))))->K9 K tv rd f D σ x H1
noncomputable def Vw (K:Fr) (ta tv:TE) (rd:V->V->Hp->VK->Prop) (f:Str):TS:=λD σ H=>ta σ H λx H1=>K9 K tv rd f D σ x H1
section
variable {X:Cx} {o e value:Expr} {f:Str} {pos pos' tpos:Pos} {ta tv:TE}
theorem aW (he:PE X e ta) (hb:attributeBase e f X.env (eval e X.env)=eval e X.env):PE X (.Attribute e f pos) (Zc X.K ta f):=by intro pins s σ H Q I h;refine Ov hb (dz (he pins s σ H _ I h) λu s1 hpt=>?_);obtain⟨x,H1,I1,rx,a,C,dx,fs,v,ex,ea,c,n,l,q⟩:=hpt;subst ex;obtain rfl:u=Value.ref a:=rx;exact Ek I1 ea c n l λu' s2 I2 ru=>⟨v,H1,I2,ru,q⟩
theorem iG (ha:PE X o ta) (hv:PE X value tv) (hs:swapsWith value (some (.Attribute o f pos')) pos.line X.env=pure false):PS X (.Assign [.Attribute o f pos'] value pos) (abd X.K ta tv f):=by intro pins s σ H D I h;refine plainObj_wpAny_Assign_Attribute (dz (hv pins s σ H _ I h) λu s1 ⟨y,H1,I1,ry,q⟩=>dz (ha pins s1 σ H1 _ I1 q) λov s2 hpt=>?_) hs;obtain⟨x,H2,I2,rx,a,C,dx,fs,ex,ea,c,n,l,q2⟩:=hpt;subst ex;obtain rfl:ov=Value.ref a:=rx;exact Fb I2 ea c n l ry λs3 I3=>⟨σ,_,I3,q2⟩
theorem Q0 {op:Operator} {rd:V->V->Hp->VK->Prop} (ha:PE X o ta) (hv:PE X value tv) (hop:aan X op rd):PS X (.AugAssign (.Attribute o f tpos) op value pos) (Vw X.K ta tv rd f):=by intro pins s σ H D I h;refine wpAny_AugAssign_AttributeAny (dz (ha pins s σ H _ I h) λov s1 hpt=>?_);obtain⟨x,H1,I1,rx,a,C,dx,fs,v,ex,ea,c,n,l,q⟩:=hpt;subst ex;obtain rfl:ov=Value.ref a:=rx;refine Ek I1 ea c n l λu s2 I2 ru=>dz (hv pins s2 σ H1 _ I2 q) λw3 s3 ⟨y,H2,I3,ry,q3⟩=>dz (hop pins s3 σ H2 v y u w3 _ I3 ru ry q3) λw4 s4 hpt=>?_;obtain⟨z,H3,I4,rz,dx',fs',ea',l',q4⟩:=hpt;exact Fb I4 ea' c n l' rz λs5 I5=>⟨σ,_,I5,q4⟩
end
section
variable {X:Cx} {pins:List (Addr×Obj)} {σ:St} {H:Hp} {s:Shared} {A:Around} {E:Value->Shared->Prop} {Q:Value->Shared->Prop} {c:Value} {b:Bool}
end
structure gZ (k:Nat) (A:Around):Prop where
 hd:A.handled=none
 dp:A.depth+3 * k+5 <recursionLimit
 un:A.units+16 * k+200 <cLine
theorem gZ.mono {j k:Nat} {A:Around} (r:gZ k A) (h:j<=k):gZ j A:=⟨r.hd,by have:=r.dp;lia,by have:=r.un;lia⟩
theorem gZ.deeper {k:Nat} {A:Around} (r:gZ (k+1) A) (env:Env):gZ k (A.deeper env):=
 ⟨r.hd,by have:=r.dp;show A.depth+1+3 * k+5 <_;lia,by have:=r.un;show A.units+3+16 * k+200 <_;lia⟩
theorem Nq {A:Around} {C:Addr} {us:List Value} {kw:List (Str×Value)}:(A.under (.builtin "type.__call__" ⟨.ref C:: us,kw⟩)).depth=A.depth+1:=by first | rfl | simp [Around.under,Code.weight,Code.isCreation,Code.isGuard,Code.isCaller,Code.frames,Code.isFrame,guardIds]
theorem Mq {A:Around} {C:Addr} {us:List Value} {kw:List (Str×Value)}:(A.under (.builtin "type.__call__" ⟨.ref C:: us,kw⟩)).units=A.units+1:=by first | rfl | simp [Around.under,Code.cUnits,Code.frames,Code.isFrame]
theorem gZ.make {k:Nat} {A:Around} (r:gZ (k+1) A) (C:Addr) (us:List Value) (kw:List (Str×Value)):gZ k (A.under (.builtin "type.__call__" ⟨.ref C:: us,kw⟩)):=
 ⟨r.hd,by have:=r.dp;rw [Nq];lia,by have:=r.un;rw [Mq];lia⟩
theorem gZ.depth {k:Nat} {A:Around} (r:gZ k A):A.depth <recursionLimit:=by have:=r.dp;lia
theorem gZ.units {k:Nat} {A:Around} (r:gZ k A):A.units+64 <cLine:=by have:=r.un;lia
noncomputable def Rt:TA:=λ_ H Q=>Q [] H
noncomputable def ZS (ta:TE) (tr:TA):TA:=λσ H Q=>ta σ H λx H1=>tr σ H1 λxs H2=>Q (x:: xs) H2
section
variable {X:Cx} {e:Expr} {es:List Expr} {te:TE} {t:TA} {pos:Pos}
theorem ak:PA X [] Rt:=λ_ _ _ _ H Q I h=>Calls.spliced_nil ⟨[],H,I,.nil,h⟩
theorem aa (ha:PE X e te) (hr:PA X es t) (hs:starEach (e:: es) X.env=(false,eval e X.env):: starEach es X.env:=by rfl):PA X (e:: es) (ZS te t):=by intro pos pins s σ H Q I h;rw [hs];show wpAny _ _ (spliced ((false,eval e X.env):: backTo pos (starEach es X.env))) _ _ s;refine Calls.spliced_cons (dz (ha pins s σ H _ I h) λu s1 hpt=>?_);obtain⟨x,H1,I1,r1,q1⟩:=hpt;exact dz (hr pos pins s1 σ H1 _ I1 q1) λus s2 ⟨xs,H2,I2,r2,q2⟩=>⟨x:: xs,H2,I2,.cons r1 r2,q2⟩
noncomputable def aaQ (t:TA):TE:=λσ H Q=>t σ H λxs H1=>xs.length<=sizeLine/\∀p,H1 p=none->Q (.ref p) (upd H1 p (.tup xs))
noncomputable def aaU (t:TA):TE:=λσ H Q=>t σ H λxs H1=>xs.length<=sizeLine/\∀p,H1 p=none->Q (.ref p) (upd H1 p (.lst xs))
theorem b8 {x1} (h:PA X es t):PE X (.Tuple es x1 pos) (aaQ t):=by intro pins s σ H Q I hq;refine wpAny_Tuple_spliced (dz (h pos pins s σ H _ I hq) λus s1 ⟨xs,H1,I1,r,z,q⟩=>⟨by rw [<-r.length];exact z,?_⟩);have hf:H1 s1.heap.objs.size=none:=I1.hok.fresh (le_refl _);refine⟨.ref s1.heap.objs.size,upd H1 s1.heap.objs.size (.tup xs),I1.laid (t':=s1.toks) (λb u e=>Heap.get?_push_of_some _ e) (le_refl _) ?_,Z,q _ hf⟩;exact⟨z,us,r,⟨_,Heap.get?_push_size _ Z,Z,_,Z⟩⟩
theorem bc (h:PA X es t):PE X (.List es pos) (aaU t):=by intro pins s σ H Q I hq;refine wpAny_List_spliced (dz (h pos pins s σ H _ I hq) λus s1 ⟨xs,H1,I1,r,z,q⟩=>⟨by rw [<-r.length];exact z,?_⟩);have hf:H1 s1.heap.objs.size=none:=I1.hok.fresh (le_refl _);refine⟨.ref s1.heap.objs.size,upd H1 s1.heap.objs.size (.lst xs),I1.laid (t':=s1.toks) (λb u e=>Heap.get?_push_of_some _ e) (le_refl _) ?_,Z,q _ hf⟩;exact⟨z,us,0,r,Heap.get?_push_size _ Z⟩
end
noncomputable abbrev Sp:=List V->Hp->VK->XK->Prop
noncomputable abbrev CZ:=List Env->Hp->Shared->XK->Value->Shared->Prop
structure Mr (P:Program) (w:World) (K:Fr) (mg:Str->Option Value) (base:Heap) (A:Around) (outer:List Env) (s:Shared) (H:Hp):Prop where
 frames:A.frames=some outer
 mod:Mod K mg base
 bs:∀b o,base.get? b=some o->s.heap.get? b=some o/\H b=none
 bsz:base.objs.size<=s.heap.objs.size
 funs:s.heap.FunFrames base outer
 frf:∀b∈frs outer,H b=none
 hok:vU P w H s.heap
 bare:AllBare s.gens
noncomputable def CE (outer:List Env) (P:Program) (w:World) (H:Hp) (s:Shared) (Q:VK) (u:Value) (s':Shared):Prop:=
 ∃v H',s'.os=s.os/\AllBare s'.gens/\Un (frs outer) [] H H' s.heap s'.heap/\vU P w H' s'.heap/\RelV v u/\Q v H'
noncomputable def CR (CX:CZ) (outer:List Env) (P:Program) (w:World) (H:Hp) (s:Shared) (Q:VK) (E:XK) (r:Result) (s':Shared):Prop:=
 match r with
 | .ok (.ret u)=>CE outer P w H s Q u s'
 | .ok _=>False
 | .error e=>CX outer H s E e s'
structure dR (P:Program) (w:World) (K:Fr) (mg:Str->Option Value) (base:Heap) (CX:CZ) (k:Nat) (f:Addr) (fd:FuncData) (ps:List Str) (sp:Sp):Prop where
 len:∀vs H Q E,sp vs H Q E->vs.length=ps.length
 run:∀(A:Around) (outer:List Env) (s:Shared) (H:Hp) (args:Args) (us:List Value) (vs:List V) (Q:VK) (E:XK),gZ k A->Mr P w K mg base A outer s H->BindsTo s fd args (ps.zip us)->Vals vs us->sp vs H Q E->
  codeAny (model P w) A (.call (.ref f) args) (CR CX outer P w H s Q E) s
theorem dR.mono {P:Program} {w:World} {K:Fr} {mg:Str->Option Value} {base:Heap} {CX:CZ} {j k:Nat} {f:Addr} {fd:FuncData} {ps:List Str} {sp:Sp} (F:dR P w K mg base CX j f fd ps sp) (h:j<=k):
  dR P w K mg base CX k f fd ps sp:=⟨F.len,λA outer s H args us vs Q E hr=>F.run A outer s H args us vs Q E (hr.mono h)⟩
theorem dR.imp {P:Program} {w:World} {K:Fr} {mg:Str->Option Value} {base:Heap} {CX:CZ} {k:Nat} {f:Addr} {fd:FuncData} {ps:List Str} {sp sp':Sp} (F:dR P w K mg base CX k f fd ps sp)
  (h:∀vs H Q E,sp' vs H Q E->sp vs H Q E):dR P w K mg base CX k f fd ps sp':=
 ⟨λvs H Q E q=>F.len vs H Q E (h _ _ _ _ q),λA outer s H args us vs Q E hr he hb hv hs=>F.run A outer s H args us vs Q E hr he hb hv (h _ _ _ _ hs)⟩
theorem Mr.make {P:Program} {w:World} {K:Fr} {mg:Str->Option Value} {base:Heap} {A:Around} {outer:List Env} {s:Shared} {H:Hp} (e:Mr P w K mg base A outer s H) (C:Addr) (us:List Value) (kw:List (Str×Value)):
  Mr P w K mg base (A.under (.builtin "type.__call__" ⟨.ref C:: us,kw⟩)) outer s H:=⟨by first | exact e.frames | (simpa [Around.under,Code.envs,Code.isFrame,pushEnvs] using e.frames),e.mod,e.bs,e.bsz,e.funs,e.frf,e.hok,e.bare⟩
section
variable {X:Cx} {pins:List (Addr×Obj)} {σ:St} {H:Hp} {s s':Shared}
theorem Inv.env0 (I:Inv X pins σ H s):Mr X.prog X.w X.K X.mg X.base X.A X.stack s H:=
 ⟨I.ok.frames,I.ok.mod,I.bs,le_trans I.ok.bsz I.sz,I.stack,I.stkFree,I.hok,I.bare⟩
theorem Inv.after {Q:VK} {u:Value} (I:Inv X pins σ H s) (h:CE X.stack X.prog X.w H s Q u s'):EP X pins σ Q u s':=by obtain⟨v,H',os,bare,un,hok,r,q⟩:=h;obtain⟨hh,g,d,t,os'⟩:=s';obtain rfl:os'=s.os:=os;exact⟨v,H',I.call (h':=hh) (g':=g) (d':=d) (t':=t) (ch:=[]) un hok bare (λb z=>absurd z (by simp)),r,q⟩
end
noncomputable def Xj (sp:Sp) (dvs:List V) (E:XK) (t:TA):TE:=λσ H Q=>t σ H λvs H1=>sp (vs ++ dvs) H1 Q E
inductive Ub (C:Addr) (m:Str) (sp:Sp) (dvs:List V) (E:XK) (t:TA) (σ:St) (Q:VK) (x:V) (H1:Hp):Prop where
 | mk:∀a dx fs,x=.ref a->H1 a=some (.ins C dx fs)->fs.lookup m=none->(t σ H1 λvs H2=>sp (x:: (vs ++ dvs)) H2 Q E)->Ub C m sp dvs E t σ Q x H1
noncomputable def Oz (C:Addr) (m:Str) (sp:Sp) (dvs:List V) (E:XK) (ta:TE) (t:TA):TE:=λσ H Q=>ta σ H λx H1=>Ub C m sp dvs E t σ Q x H1
noncomputable def Z0 (C:Addr) (sp:Sp) (dvs:List V) (E:XK) (t:TA):TE:=λσ H Q=>t σ H λvs H1=>∀x dx,H1 x=none->H1 dx=none->dx≠x->
 sp (.ref x:: (vs ++ dvs)) (upd (upd H1 dx (.own x)) x (.ins C dx [])) (λv H2=>v=.non/\Q (.ref x) H2) E
noncomputable def Binds (K:Fr) (fd:FuncData) (ps:List Str) (ds:List Value):Prop:=
 ∀(s:Shared) (us:List Value),K.In s.heap->(us ++ ds).length=ps.length->BindsTo s fd ⟨us,[]⟩ (ps.zip (us ++ ds))
theorem Binds.all {K:Fr} {fd:FuncData} {ps:List Str} (h:∀us:List Value,us.length=ps.length->bindArgs fd ⟨us,[]⟩=pure (ps.zip us)):Binds K fd ps []:=λs us _ hl=>by rw [append_nil] at hl ⊢;exact .of_eq (h us hl)
noncomputable def kJ (CX:CZ) (X:Cx) (E:XK):Prop:=∀(pins:List (Addr×Obj)) (σ:St) (H:Hp) (s:Shared) (e:Value) (s':Shared),Inv X pins σ H s->CX X.stack H s E e s'->X.xe e s'
section
variable {X:Cx} {CX:CZ} {k:Nat} {f C:Addr} {fd:FuncData} {ps:List Str} {sp:Sp} {dvs:List V} {ds:List Value} {E:XK} {x m:Str} {p pos apos:Pos} {e o:Expr} {es:List Expr} {ta:TE} {t:TA}
theorem Fw {pins:List (Addr×Obj)} {σ:St} {H:Hp} {s:Shared} {Q:VK} {us:List Value} {vs:List V} (F:dR X.prog X.w X.K X.mg X.base CX k f fd ps sp) (hr:gZ k X.A) (hb:Binds X.K fd ps ds) (hd:Vals dvs ds) (hx:kJ CX X E)
  (I:Inv X pins σ H s) (r:Vals vs us) (h:sp (vs ++ dvs) H Q E):wpAny (model X.prog X.w) X.A (call (.ref f) us) (EP X pins σ Q) X.xe s:=by
 have r2:Vals (vs ++ dvs) (us ++ ds):=r.append hd;have hl:(us ++ ds).length=ps.length:=by rw [<-r2.length];exact F.len _ _ _ _ h
 refine wpAny_call (codeAny_mono (F.run X.A X.stack s H ⟨us,[]⟩ (us ++ ds) (vs ++ dvs) Q E hr I.env0 (hb s us I.kIn hl) r2 h) λr s' hq=>?_);cases r with
 | error e=>exact hx pins σ H s e s' I hq
 | ok fl=>
  cases fl with
  | ret u=>exact I.after hq
  | next=>exact False.elim hq
  | brk=>exact False.elim hq
  | cont=>exact False.elim hq
theorem Pk (F:dR X.prog X.w X.K X.mg X.base CX k f fd ps sp) (hr:gZ k X.A) (hg:Gl X x) (hm:X.mg x=some (.ref f)) (hk:PySem.W.keepIn X.K (.ref f)=true) (hb:Binds X.K fd ps ds) (hd:Vals dvs ds) (hx:kJ CX X E)
  (ha:PA X (e:: es) t) (hdb:(x == ("__debug__" :Str))=false:=by decide) (he:starEach (e:: es) X.env=(false,eval e X.env):: starEach es X.env:=by rfl) (hpl:(backTo pos (starEach es X.env)).any (·.1)=false:=by rfl):
  PE X (.Call (.Name x p) (e:: es) [] pos) (Xj sp dvs E t):=by
 intro pins s σ H Q I h;refine wpAny_Call_Name_kw (wH I hg hm ?_ hdb);refine PySem.W.callWith_K (h₀:=X.base) I.ok.mod.kin hk (dz (ha pos pins s σ H _ I h) λus s1 ⟨vs,H1,I1,r,q⟩=>⟨I1.kIn,?_⟩) he hpl;exact Fw F hr hb hd hx I1 r q
theorem d7 {pl:Sem Bool} (he:PE X o ta) (c:Pg X.K C) (hm:Meth X.K C m f) (F:dR X.prog X.w X.K X.mg X.base CX k f fd ps sp) (hr:gZ k X.A) (hb:Binds X.K fd ps ds) (hd:Vals dvs ds) (hx:kJ CX X E) (ha:PA X (e:: es) t)
  (hst:starEach (e:: es) X.env=(false,eval e X.env):: starEach es X.env:=by rfl) (hpl:(backTo pos (starEach es X.env)).any (·.1)=false:=by rfl)
  (ht:eval (.Call (.Attribute o m apos) (e:: es) [] pos) X.env=(do
   let ov <-eval o X.env
   standAt apos.atName
   let (f,first) <-holding [ov] (getMethod ov m pl)
   callWith pos f first (backTo pos (starEach (e:: es) X.env)) (backToKw pos (keywordEach [] X.env))):=by rfl):
  PE X (.Call (.Attribute o m apos) (e:: es) [] pos) (Oz C m sp dvs E ta t):=by
 intro pins s σ H Q I h;refine PySem.W.methodCall_KW (pl:=pl) (dz (he pins s σ H _ I h) λu s1 hpt=>?_) ht;obtain⟨x,H1,I1,rx,a,dx,fs,ex,ea,l,q⟩:=hpt;subst ex;obtain rfl:u=Value.ref a:=rx;refine pU I1 ea c hm l ?_;refine PySem.W.callWith_K (first:=[.ref a]) (h₀:=X.base) I.ok.mod.kin hm.kp (dz (ha pos pins s1 σ H1 _ I1 q) λus s2 ⟨vs,H2,I2,r,q2⟩=>⟨I2.kIn,?_⟩) hst hpl;exact Fw (us:=.ref a:: us) (vs:=.ref a:: vs) F hr hb hd hx I2 (.cons Z r) q2
theorem Sq {pl:Sem Bool} (he:PE X o ta) (c:Pg X.K C) (hm:Meth X.K C m f) (F:dR X.prog X.w X.K X.mg X.base CX k f fd ps sp) (hr:gZ k X.A) (hb:Binds X.K fd ps ds) (hd:Vals dvs ds) (hx:kJ CX X E)
  (ht:eval (.Call (.Attribute o m apos) [] [] pos) X.env=(do
   let ov <-eval o X.env
   standAt apos.atName
   let (f,first) <-holding [ov] (getMethod ov m pl)
   callWith pos f first (backTo pos (starEach [] X.env)) (backToKw pos (keywordEach [] X.env))):=by rfl):
  PE X (.Call (.Attribute o m apos) [] [] pos) (Oz C m sp dvs E ta Rt):=by
 intro pins s σ H Q I h;refine PySem.W.methodCall_KW (pl:=pl) (dz (he pins s σ H _ I h) λu s1 hpt=>?_) ht;obtain⟨x,H1,I1,rx,a,dx,fs,ex,ea,l,q⟩:=hpt;subst ex;obtain rfl:u=Value.ref a:=rx;refine pU I1 ea c hm l ?_;exact PySem.W.callWith_K0 (first:=[.ref a]) I1.kIn hm.kp (Fw (us:=[.ref a]) (vs:=[.ref a]) F hr hb hd hx I1 (.cons Z .nil) q)
structure Mk (K:Fr) (C f:Addr):Prop where
 makes:PySem.W.makesIn K C=true
 init:PySem.W.findIn K (.ref C) "__init__" =some (some (.ref f))
 fn:PySem.W.isFn K (.ref f)=true
 kp:PySem.W.keepIn K (.ref C)=true
theorem S6 {pins:List (Addr×Obj)} {σ:St} {H:Hp} {s:Shared} {Q:VK} {us:List Value} {vs:List V} (M:Mk X.K C f) (F:dR X.prog X.w X.K X.mg X.base CX k f fd ps sp) (hr:gZ (k+1) X.A) (hb:Binds X.K fd ps ds) (hd:Vals dvs ds)
  (hx:kJ CX X E) (I:Inv X pins σ H s) (r:Vals vs us)
  (h:∀x dx,H x=none->H dx=none->dx≠x->sp (.ref x:: (vs ++ dvs)) (upd (upd H dx (.own x)) x (.ins C dx [])) (λv H2=>v=.non/\Q (.ref x) H2) E):
  wpAny (model X.prog X.w) X.A (call (.ref C) us) (EP X pins σ Q) X.xe s:=by
 have hq:=h (s.heap.objs.size+1) s.heap.objs.size (I.hok.fresh (le_succ _)) (I.hok.fresh (le_refl _)) (ne_of_lt (lt_succ_self _));have I2:=Inv.made (C:=C) I;have r2:Vals (V.ref (s.heap.objs.size+1):: (vs ++ dvs)) (Value.ref (s.heap.objs.size+1):: (us ++ ds)):=.cons rfl (r.append hd);have hl:(Value.ref (s.heap.objs.size+1):: us ++ ds).length=ps.length:=by have e:=r2.length;rw [F.len _ _ _ _ hq] at e;exact e.symm
 refine wpAny_call (Kr (f:=f) I.kIn M.makes M.init (beq_iff_eq.mp M.fn) (codeAny_mono (F.run _ X.stack _ _ ⟨Value.ref (s.heap.objs.size+1):: us,[]⟩ (Value.ref (s.heap.objs.size+1):: (us ++ ds)) _ _ E (hr.make C us [])
  (I2.env0.make C us []) (hb _ (Value.ref (s.heap.objs.size+1):: us) I2.kIn hl) r2 hq) λr s' hq'=>?_))
 cases r with
 | error e=>exact hx pins σ _ _ e s' I2 hq'
 | ok fl=>
  cases fl with
  | ret u=>
   obtain⟨v,H',I3,rv,ev,q3⟩:=I2.after hq';subst ev;exact⟨rv,⟨V.ref (s.heap.objs.size+1),H',I3,Z,q3⟩⟩
  | next=>exact False.elim hq'
  | brk=>exact False.elim hq'
  | cont=>exact False.elim hq'
theorem iI (M:Mk X.K C f) (F:dR X.prog X.w X.K X.mg X.base CX k f fd ps sp) (hr:gZ (k+1) X.A) (hg:Gl X x) (hm:X.mg x=some (.ref C)) (hb:Binds X.K fd ps ds) (hd:Vals dvs ds) (hx:kJ CX X E)
  (ha:PA X (e:: es) t) (hdb:(x == ("__debug__" :Str))=false:=by decide) (he:starEach (e:: es) X.env=(false,eval e X.env):: starEach es X.env:=by rfl) (hpl:(backTo pos (starEach es X.env)).any (·.1)=false:=by rfl):
  PE X (.Call (.Name x p) (e:: es) [] pos) (Z0 C sp dvs E t):=by
 intro pins s σ H Q I h;refine wpAny_Call_Name_kw (wH I hg hm ?_ hdb);refine PySem.W.callWith_K (h₀:=X.base) I.ok.mod.kin M.kp (dz (ha pos pins s σ H _ I h) λus s1 ⟨vs,H1,I1,r,q⟩=>⟨I1.kIn,?_⟩) he hpl;exact S6 M F hr hb hd hx I1 r q
end
section
variable {X:Cx} {CX:CZ} {k:Nat} {f C:Addr} {fd:FuncData} {ps ks:List Str} {sp:Sp} {E:XK} {x m:Str} {p pos apos kpos:Pos} {e o:Expr} {es:List Expr} {kws:List Keyword} {te ta:TE} {t tk:TA} {nm:Option Str}
variable {g:List Value->List Value->List Value} {gV:List V->List V->List V}
end
structure fY (N P:List Str) (sc:Scope):Prop where
 kind:sc.kind=.function
 co:sc.isCoroutine=false
 gen:sc.isGenerator=false
 nd:N.Nodup
 pre:N.take P.length=P
 par:∀x∈P,sc.names.lookup x=some .local∨sc.names.lookup x=some .cell
 nofree:∀y∈sc.names,y.2≠.free
theorem Ie {kindOf:Str->Option NameKind} {x:Str}:∀{binds:List (Str×Value)} {m:Str->Option Value},(∀v,(x,v)∉binds)->bindL kindOf binds m x=m x
 | [],_,_=>rfl
 | (n,v):: r,m,h=>by
  unfold bindL;rw [Ie λw hw=>h w (mem_cons_of_mem _ hw)];split
  ·have:x≠n:=by rintro rfl;exact h v mem_cons_self
   simp [this]
  ·rfl
theorem Iv {kindOf:Str->Option NameKind} {x:Str}:∀{binds:List (Str×Value)} {m:Str->Option Value},(∀v,(x,v)∉binds)->bindC kindOf binds m x=m x
 | [],_,_=>rfl
 | (n,v):: r,m,h=>by
  unfold bindC;rw [Iv λw hw=>h w (mem_cons_of_mem _ hw)];split
  ·rfl
  ·have:x≠n:=by rintro rfl;exact h v mem_cons_self
   simp [this]
theorem IV {kindOf:Str->Option NameKind} {x:Str} {v:Value}:∀{P:List Str} {vs:List Value} {i:Nat} {m:Str->Option Value},P.Nodup->P[i]?=some x->vs[i]?=some v->kindOf x=some .local->
  bindL kindOf (P.zip vs) m x=some v
 | [],_,_,_,_,h,_,_=>by simp at h
 | _:: _,[],_,_,_,_,h,_=>by simp at h
 | p:: P,w:: vs,0,m,nd,h1,h2,hk=>by simp at h1 h2;subst h1;subst h2;show bindL kindOf ((p,w):: P.zip vs) m p=_;unfold bindL;rw [Ie λv hv=>(nodup_cons.mp nd).1 (List.of_mem_zip hv).1,if_pos hk];simp
 | p:: P,w:: vs,i+1,m,nd,h1,h2,hk=>by show bindL kindOf ((p,w):: P.zip vs) m x=_;unfold bindL;exact IV (i:=i) (nodup_cons.mp nd).2 (by simpa using h1) (by simpa using h2) hk
theorem Hd {kindOf:Str->Option NameKind} {x:Str} {v:Value}:∀{P:List Str} {vs:List Value} {i:Nat} {m:Str->Option Value},P.Nodup->P[i]?=some x->vs[i]?=some v->kindOf x≠some .local->
  bindC kindOf (P.zip vs) m x=some v
 | [],_,_,_,_,h,_,_=>by simp at h
 | _:: _,[],_,_,_,_,h,_=>by simp at h
 | p:: P,w:: vs,0,m,nd,h1,h2,hk=>by simp at h1 h2;subst h1;subst h2;show bindC kindOf ((p,w):: P.zip vs) m p=_;unfold bindC;rw [Iv λv hv=>(nodup_cons.mp nd).1 (List.of_mem_zip hv).1,if_neg hk];simp
 | p:: P,w:: vs,i+1,m,nd,h1,h2,hk=>by show bindC kindOf ((p,w):: P.zip vs) m x=_;unfold bindC;exact Hd (i:=i) (nodup_cons.mp nd).2 (by simpa using h1) (by simpa using h2) hk
noncomputable def start (N:List Str) (vs:List V):St:=vs.map some ++ List.replicate (N.length - vs.length) none
noncomputable def oK (CX:CZ) (P:Program) (w:World) (K:Fr) (mg:Str->Option Value) (base:Heap) (N:List Str) (qual:Str) (scope:Scope) (f:Addr) (cd:Value) (A:Around) (outer:List Env) (s:Shared) (H:Hp) (E:XK):Cx where
 prog:=P
 w:=w
 K:=K
 mg:=mg
 base:=base
 A:=A.deeper (envOfC qual scope s.heap.objs.size f cd)
 N:=N
 s₀:=s
 H₀:=H
 env:=envOfC qual scope s.heap.objs.size f cd
 outer:=outer
 stack:=envOfC qual scope s.heap.objs.size f cd:: outer
 ex:=[]
 calm:=true
 fn:=λ_=>true
 pn:=[]
 xe:=λe s'=>wpAny (model P w) (A.deeper (envOfC qual scope s.heap.objs.size f cd)) (leaving (envOfC qual scope s.heap.objs.size f cd) e) (λ_ s''=>CX outer H s E e s'') (λe' s''=>CX outer H s E e' s'') s'
theorem Ks {sc:Scope} {n:Nat} {x:Str} (h:sc.names.lookup x=some .cell):∃c,(cellsFrom n sc.names []).lookup x=some c:=by have q:=PySem.W.cellsFrom_some sc.names n [] (.inl h);exact isSome_iff_exists.mp q
theorem QK {CX:CZ} {P:Program} {w:World} {K:Fr} {mg:Str->Option Value} {base:Heap} {N ps:List Str} {qual:Str} {scope:Scope} {f:Addr} {cd:Value} {A:Around} {outer:List Env} {s s1:Shared} {H:Hp} {E:XK} {us:List Value} {vs:List V}
  (S:fY N ps scope) (hd:A.handled=none) (e0:Mr P w K mg base A outer s H) (hl:vs.length=ps.length) (r:Vals vs us)
  (x:InCallC s s.heap.objs.size (bindL (envOfC qual scope s.heap.objs.size f cd).kindOf (ps.zip us) λ_=>none) (cellsFrom (s.heap.objs.size+1) scope.names []) (bindC (envOfC qual scope s.heap.objs.size f cd).kindOf (ps.zip us) λ_=>none) s1):
  Inv (oK CX P w K mg base N qual scope f cd A outer s H E) [] (start N vs) H s1:=by
 have hpl:ps.length<=N.length:=by have:=congrArg List.length S.pre;rw [length_take] at this;lia
 obtain⟨h1,tk,rfl,hk⟩:=x.done;have noA:∀b:Addr,b∉(oK CX P w K mg base N qual scope f cd A outer s H E).ex:=λb z=>absurd (show b∈([]:List Addr) from z) (by simp);refine⟨⟨e0.mod,S.kind,Z,Z,le_refl _,λy z c h1 h2=>?_,λy hy=>?_,λy c _ h=>?_,λ_=>hd,Around.frames_deeper e0.frames,.inr ⟨Z,Z⟩,λb z=>absurd z (noA b),e0.bs,e0.bsz,λb _ _=>noA b,λb z=>absurd z (noA b),e0.funs,e0.frf⟩,
  rfl,e0.bare,Un.kept hk,⟨_,x.toInCall.ns,λi y v h1 h2 h3=>?_⟩,λy c h=>⟨_,x.cell y c h⟩,e0.hok.fresh (le_refl _),λy c h=>?_,λp hp=>absurd (show p∈([]:List (Addr×Obj)) from hp) (by simp),e0.hok.kept hk,?_⟩
 ·exact name_of_addr x.apart (PySem.mem_of_lookup h1) (PySem.mem_of_lookup h2)
 ·have hy:scope.names.lookup y=some .cell∨scope.names.lookup y=some .free:=hy;rcases hy with hy | hy
  ·exact Ks hy
  ·exact absurd Z (S.nofree _ (PySem.mem_of_lookup hy))
 ·exact le_of_lt (x.above y c (PySem.mem_of_lookup h))
 ·have hi:i <vs.length:=by
   unfold start at h2;by_cases hi:i <vs.length
   ·exact hi
   ·rw [List.getElem?_append_right (by simpa using hi)] at h2;rw [List.getElem?_replicate] at h2;split at h2 <;> cases h2
  have ha:vs[i]?=some v:=by
   unfold start at h2;rw [List.getElem?_append_left (by simpa using hi),getElem?_map] at h2;cases e:vs[i]? with
   | none=>rw [e] at h2;cases h2
   | some a=>rw [e] at h2;cases h2;rfl
  obtain⟨u,hu,rv⟩:=r.get ha;have hp:ps[i]?=some y:=by rw [<-S.pre,List.getElem?_take_of_lt (by lia)];exact h1
  have ndP:ps.Nodup:=by rw [<-S.pre];exact S.nd.sublist (List.take_sublist _ _)
  refine⟨u,rv,?_⟩;rcases S.par y (mem_of_getElem? hp) with k | k
  ·exact .inl ⟨k,IV ndP hp hu k⟩
  ·obtain⟨c,e⟩:=Ks (n:=s.heap.objs.size+1) k;refine .inr ⟨.inl k,c,e,?_⟩;have q:=x.cell y c e;rw [Hd ndP hp hu (by show scope.names.lookup y≠_;rw [k];decide)] at q;exact q
 ·exact e0.hok.fresh (le_of_lt (x.above y c (PySem.mem_of_lookup h)))
 ·unfold start;show _=N.length;rw [length_append,length_map,List.length_replicate]
  lia
theorem Rm {CX:CZ} {P:Program} {w:World} {K:Fr} {mg:Str->Option Value} {base:Heap} {k:Nat} {f:Addr} {name qual:Str} {params:Arguments} {body:List Stmt} {scope:Scope} {dV kV doc pm cdv ct oc:Value} {an od:Option Addr}
  {osl:Array (Option Value)} {N ps:List Str} {sp:Sp} (lk:K.lookup f=some ⟨oc,od,.func (PySem.W.fnOf name qual params body scope dV kV doc pm an cdv ct),osl⟩) (hcd:PySem.W.codeIn K cdv qual=true) (S:fY N ps scope)
  (len:∀vs H Q E,sp vs H Q E->vs.length=ps.length)
  (hbody:∀(A:Around) (outer:List Env) (s:Shared) (H:Hp) (vs:List V) (Q:VK) (E:XK),gZ k (A.deeper (envOfC qual scope s.heap.objs.size f cdv))->sp vs H Q E->
   ∃t,LR (oK CX P w K mg base N qual scope f cdv A outer s H E) body t/\t { nx:=λ_ H'=>Q .non H',rt:=Q } (start N vs) H):
  dR P w K mg base CX (k+1) f (PySem.W.fnOf name qual params body scope dV kV doc pm an cdv ct) ps sp:=by
 refine⟨len,λA outer s H args us vs Q E hr e0 hb r hsp=>?_⟩;have hl:=len _ _ _ _ hsp;have KX:K.In s.heap:=e0.mod.kin.keeps λb o e=>(e0.bs b o e).1;have lim:s.heap.NoLimit:=e0.mod.nolimit.keeps λb o e=>(e0.bs b o e).1;have hkind:∀y∈ps.zip us,scope.names.lookup y.1=some .local∨(scope.names.lookup y.1=some .cell/\((cellsFrom (s.heap.objs.size+1) scope.names []).lookup y.1).isSome=true):=λ⟨n,v⟩ hy=>by
  rcases S.par n (List.of_mem_zip hy).1 with q | q
  ·exact .inl q
  ·exact .inr ⟨q,PySem.W.cellsFrom_some _ _ _ (.inl q)⟩
 refine codeAny_call_function hr.depth (KX _ _ lk) Z S.co S.gen Z (PySem.W.codeRec_of KX hcd) (hb _ _ _ _ ?_);refine wpAny_newFunctionEnv_cells S.kind hkind λenv he s1 x=>?_;subst he;refine⟨lim.keeps x.toInCall.keep,codeAny_func ?_⟩;obtain⟨t,ht,hq⟩:=hbody A outer s H vs Q E (hr.deeper _) hsp;have I:Inv (oK CX P w K mg base N qual scope f cdv A outer s H E) [] (start N vs) H s1:=QK S hr.hd e0 hl r x;refine wpAny_mono (ht [] s1 (start N vs) H _ I hq) (λfl s' hs=>?_) λe s' hs=>hs;have fin:∀{σ':St} {H':Hp} {v:V} {u:Value},Inv (oK CX P w K mg base N qual scope f cdv A outer s H E) [] σ' H' s'->RelV v u->Q v H'->CE outer P w H s Q u s':=
  λ{σ' H' v u} J rv q=>⟨v,H',J.os,J.bare,J.base,J.hok,rv,q⟩
 cases fl with
 | ret u=>
  obtain⟨v,σ',H',J,rv,q⟩:=hs;exact fin J rv q
 | next=>
  obtain⟨σ',H',J,q⟩:=hs;exact fin (v:=V.non) (u:=Value.none) J Z q
 | brk=>
  obtain⟨_,_,_,q⟩:=hs;exact False.elim q
 | cont=>
  obtain⟨_,_,_,q⟩:=hs;exact False.elim q
section
variable {X:Cx} {x:Str} {p pos:Pos} {e:Expr} {es:List Expr} {t:TA} {id T:String} {r:List V->Hp->VK->Prop}
noncomputable def tCB (r:List V->Hp->VK->Prop) (t:TA):TE:=λσ H Q=>t σ H λvs H1=>r vs H1 Q
theorem bA (hc:lg X (.builtin id) r) (hg:Gl X x) (hm:X.mg x=none) (hv:bootBuiltins x=some (.builtin id)) (ha:PA X (e:: es) t) (hn:x≠ "__name__" :=by decide) (hdb:(x == ("__debug__" :Str))=false:=by decide)
  (he:starEach (e:: es) X.env=(false,eval e X.env):: starEach es X.env:=by rfl) (hpl:(backTo pos (starEach es X.env)).any (·.1)=false:=by rfl):PE X (.Call (.Name x p) (e:: es) [] pos) (tCB r t):=by
 intro pins s σ H Q I h;refine wpAny_Call_Name_kw (Jm I hg hm hv ?_ hn hdb);exact PyProof.Rows.callWith_builtin1 (dz (ha pos pins s σ H _ I h) λus s1 ⟨vs,H1,I1,r1,q1⟩=>hc pins s1 σ H1 vs us Q I1 r1 q1) he hpl
theorem fB (hc:lg X (.type T) r) (hg:Gl X x) (hm:X.mg x=none) (hv:bootBuiltins x=some (.type T)) (ha:PA X (e:: es) t) (hn:x≠ "__name__" :=by decide) (hdb:(x == ("__debug__" :Str))=false:=by decide)
  (he:starEach (e:: es) X.env=(false,eval e X.env):: starEach es X.env:=by rfl) (hpl:(backTo pos (starEach es X.env)).any (·.1)=false:=by rfl):PE X (.Call (.Name x p) (e:: es) [] pos) (tCB r t):=by
 intro pins s σ H Q I h;refine wpAny_Call_Name_kw (Jm I hg hm hv ?_ hn hdb);exact PyProof.Rows.callWith_type1 (dz (ha pos pins s σ H _ I h) λus s1 ⟨vs,H1,I1,r1,q1⟩=>hc pins s1 σ H1 vs us Q I1 r1 q1) he hpl
end
end L2
namespace HT
open PySem PyProof.Rows
section
open PySem.SeqAt
open PySem.AutoSeq1 (wpAny_loadPart')
open PySem.MeetsSeq PySem.MeetsSeq2 PySem.MeetsSeq3
end
section
variable {prog:Program} {w:World} {A:Around} {E:Value->Shared->Prop} {s:Shared}
noncomputable def Lf (n d:Nat):Option Int->Nat
 | none=>d
 | some v=>if v <0 then(v+(n:Int)).toNat else min v.toNat n
theorem z6 (n d:Nat):Lf n d none=d:=rfl
theorem wC (n d k:Nat):Lf n d (some (k:Int))=min k n:=by show(if (k:Int) <0 then((k:Int)+(n:Int)).toNat else min (k:Int).toNat n)=min k n;rw [if_neg (by lia),toNat_natCast]
end
end HT
namespace L2
open PySem PySem.Spec PyProof.Rows
noncomputable abbrev TO:=St->Hp->(Option Int->Hp->Prop)->Prop
noncomputable def PO (X:Cx) (e:Option Expr) (t:TO):Prop:=
 ∀(pins:List (Addr×Obj)) (s:Shared) (σ:St) (H:Hp) (Q:Option Int->Hp->Prop),Inv X pins σ H s->t σ H Q->
  wpAny (model X.prog X.w) X.A (evalPart e X.env) (λu s'=>∃o H',Inv X pins σ H' s'/\IsPart u o/\Q o H') X.xe s
noncomputable def Wx:TO:=λ_ H Q=>Q none H
inductive SN (Q:Option Int->Hp->Prop) (x:V) (H1:Hp):Prop where
 | mk:∀i,x=.int i->Q (some i) H1->SN Q x H1
noncomputable def Zw (t:TE):TO:=λσ H Q=>t σ H λx H1=>SN Q x H1
section
variable {X:Cx} {e:Expr} {te:TE} {lo hi:Option Expr} {tl th:TO} {pos p2:Pos}
theorem ug:PO X none Wx:=by intro pins s σ H Q I h;rw [evalPart_none];exact wpAny_pure ⟨none,H,I,.none,h⟩
theorem j9 (h:PE X e te):PO X (some e) (Zw te):=by intro pins s σ H Q I hw;rw [evalPart_some];refine dz (h pins s σ H _ I hw) λu s1 hpt=>?_;obtain⟨x,H1,I1,r1,q1⟩:=hpt;obtain⟨i,rfl,q⟩:=q1;obtain⟨t,rfl⟩:=r1;exact⟨some i,H1,I1,.int i t,q⟩
noncomputable def SlR (X:Cx) (r:V->Option Int->Option Int->Hp->VK->Prop):Prop:=
 ∀(pins:List (Addr×Obj)) (s:Shared) (σ:St) (H:Hp) (x:V) (v vl vu:Value) (lo hi:Option Int) (sl:Addr) (Q:VK),Inv X pins σ H s->RelV x v->s.heap.IsSliceOf sl vl vu .none->IsPart vl lo->IsPart vu hi->r x lo hi H Q->
  ∃T id,typeLookup (.type T) "__getitem__" =pure (some (.builtin id))/\s.TypeIs v T/\wpAny (model X.prog X.w) X.A (getItem v (.ref sl)) (EP X pins σ Q) X.xe s
noncomputable def tSl (r:V->Option Int->Option Int->Hp->VK->Prop) (te:TE) (tl th:TO):TE:=λσ H Q=>te σ H λx H1=>tl σ H1 λl H2=>th σ H2 λu H3=>r x l u H3 Q
theorem j4 {r:V->Option Int->Option Int->Hp->VK->Prop} (hr:SlR X r) (he:PE X e te) (hl:PO X lo tl) (hu:PO X hi th):PE X (.Subscript e (.Slice lo hi none p2) pos) (tSl r te tl th):=by intro pins s σ H Q I h;refine Subscript_ (dz (he pins s σ H _ I h) λv s1 hpt=>?_);obtain⟨x,H1,I1,r1,q1⟩:=hpt;refine wpAny_Slice (dz (hl pins s1 σ H1 _ I1 q1) λvl s2 ⟨l,H2,I2,pl,q2⟩=>dz (hu pins s2 σ H2 _ I2 q2) λvu s3 hpt=>?_);obtain⟨u,H3,I3,pu,q3⟩:=hpt;rw [evalPart_none];refine wpAny_pure ?_;have I4:Inv X pins σ H3 { s3 with heap:=s3.heap.push { cls:=.type "slice",data:=.fields #[vl,vu,.none] } }:=I3.kept (t':=s3.toks) λb ob q=>Heap.get?_push_of_some _ q;obtain⟨T,id,hT,ht,hg⟩:=hr pins { s3 with heap:=s3.heap.push { cls:=.type "slice",data:=.fields #[vl,vu,.none] } } σ H3 x v vl vu l u s3.heap.objs.size Q I4 r1 (Heap.IsSliceOf.new ..) pl pu q3;show wpAny (model X.prog X.w) X.A (subscriptTail e (.Slice lo hi none p2) v (.ref s3.heap.objs.size)) (EP X pins σ Q) X.xe { s3 with heap:=s3.heap.push { cls:=.type "slice",data:=.fields #[vl,vu,.none] } };exact tail_any (ops:=[.ref s3.heap.objs.size,v]) ht hT hg (by with_unfolding_all rfl)
noncomputable def vI (xs:List V) (lo hi:Option Int):List V:=(xs.drop (HT.Lf xs.length 0 lo)).take (HT.Lf xs.length xs.length hi - HT.Lf xs.length 0 lo)
theorem BX (xs:List V) (lo hi:Option Int):(vI xs lo hi).length<=xs.length:=by
 unfold vI;rw [length_take,length_drop]
 lia
end
noncomputable def Y9 (n:Nat) (i:Int):Option Nat:=if 0<=i then(if i <n then some i.toNat else none) else if -(n:Int)<=i then some (i+n).toNat else none
noncomputable def Ji {α:Type} (xs:List α) (i:Int):Option α:=(Y9 xs.length i).bind λj=>xs[j]?
theorem Vy {n:Nat} {i:Int} {j:Nat} (h:Y9 n i=some j):seqIndex? i n=some j/\j <n/\ -(n:Int)<=i/\i <n:=by
 unfold Y9 at h;by_cases h0:0<=i
 ·rw [if_pos h0] at h;by_cases h1:i <n
  ·rw [if_pos h1] at h;have e:i.toNat=j:=Option.some.inj h;exact⟨by rw [seqIndex_of h0 h1,e],by lia,by lia,h1⟩
  ·rw [if_neg h1] at h;cases h
 ·rw [if_neg h0] at h;by_cases h1: -(n:Int)<=i
  ·rw [if_pos h1] at h;have e:(i+n).toNat=j:=Option.some.inj h;exact⟨by rw [seqIndex_neg (by lia) h1,e],by lia,h1,by lia⟩
  ·rw [if_neg h1] at h;cases h
theorem JL {α:Type} {xs:List α} {i:Int} {v:α} (h:Ji xs i=some v):∃j,seqIndex? i xs.length=some j/\xs[j]?=some v/\j <xs.length/\ -(xs.length:Int)<=i/\i <xs.length:=by
 unfold Ji at h;cases e:Y9 xs.length i with
 | none=>rw [e] at h;cases h
 | some j=>
  rw [e] at h;obtain⟨h1,h2,h3,h4⟩:=Vy e;exact⟨j,h1,h,h2,h3,h4⟩
theorem aM {α:Type} {xs:List α} {j:Nat} {v:α} (h:xs[j]?=some v):Ji xs (j:Int)=some v:=by
 have hj:j <xs.length:=(List.getElem?_eq_some_iff.mp h).1;have e:Y9 xs.length (j:Int)=some j:=by unfold Y9;rw [if_pos (by lia),if_pos (by lia)];simp
 unfold Ji;rw [e];exact h
noncomputable def Oj (b:Expr):Prop:=∀o i,subscripted b false o i=operate [o,i] (getItem o i)
noncomputable def Rh (X:Cx) (r:R2):Prop:=
 ∀(value slice:Expr) (pins:List (Addr×Obj)) (s:Shared) (σ:St) (H:Hp) (x y:V) (v u:Value) (Q:VK),Inv X pins σ H s->RelV x v->RelV y u->r x y H Q->
  subscripted slice false v u=operate [v,u] (getItem v u)->wpAny (model X.prog X.w) X.A (subscriptTail value slice v u) (EP X pins σ Q) X.xe s
noncomputable def MtR (X:Cx) (id:String) (r:V->List V->Hp->VK->Prop):Prop:=
 ∀(pins:List (Addr×Obj)) (s:Shared) (σ:St) (H:Hp) (x:V) (xs:List V) (v:Value) (us:List Value) (Q:VK),Inv X pins σ H s->RelV x v->Vals xs us->r x xs H Q->
  wpAny (model X.prog X.w) X.A (call (.builtin id) (v:: us)) (EP X pins σ Q) X.xe s
section
variable {X:Cx} {a b:Expr} {ta tb:TE} {pos:Pos}
theorem Rh.or {r r':R2} (h:Rh X r) (h':Rh X r'):Rh X (λx y H Q=>r x y H Q∨r' x y H Q):=by
 intro value slice pins s σ H x y v u Q I rx ry q hs;rcases q with q | q
 ·exact h value slice pins s σ H x y v u Q I rx ry q hs
 ·exact h' value slice pins s σ H x y v u Q I rx ry q hs
theorem aU {r:R2} (hr:Rh X r) (ha:PE X a ta) (hb:PE X b tb) (hs:Oj b):PE X (.Subscript a b pos) (Vg r ta tb):=by intro pins s σ H Q I h;exact Subscript_ (X5 ha hb I h λv u s2 x y H2 I2 rx ry q=>hr a b pins s2 σ H2 x y v u Q I2 rx ry q (hs _ _))
inductive W0 (K:Fr) (x:V) (y:V) (H:Hp) (Q:VK):Prop where
 | mk:∀p xs i v,x=.ref p->y=.int i->bK K H p xs->Ji xs i=some v->Q v H->W0 K x y H Q
noncomputable def XX (K:Fr):R2:=λx y H Q=>W0 K x y H Q
inductive Wy (K:Fr) (x:V) (y:V) (H:Hp) (Q:VK):Prop where
 | mk:∀p xs i v,x=.ref p->y=.int i->gq K H p xs->Ji xs i=some v->Q v H->Wy K x y H Q
noncomputable def MP (K:Fr):R2:=λx y H Q=>Wy K x y H Q
inductive Xg (x:V) (y:V) (H:Hp) (Q:VK):Prop where
 | mk:∀z i c,x=.str z->y=.int i->z.length<=sizeLine->Ji z.cps.toList i=some c->Q (.str ⟨#[c]⟩) H->Xg x y H Q
noncomputable def aaa:R2:=λx y H Q=>Xg x y H Q
theorem aV:Rh X (XX X.K):=by
 intro value slice pins s σ H x y v u Q I rx ry h hs;obtain⟨p,xs,i,z,rfl,rfl,hq,he,q⟩:=h;cases rx;obtain⟨t,rfl⟩:=ry;obtain⟨its,r,pl,hz⟩:=I.list hq;obtain⟨j,h1,h2,h3,h4,h5⟩:=JL he;obtain⟨w,ew,rw'⟩:=r.get h2;have hl:=r.length;have hn:=JH;have fin:EP X pins σ Q w s:=⟨z,H,I,rw',q⟩;by_cases h0:0<=i
 ·have hj:i.toNat=j:=by rw [seqIndex_of h0 h5] at h1;exact Option.some.inj h1
  exact item_listR pl.isList h0 (by lia) (by rw [hj];simpa using ew) fin hs
 ·have hj:(i+(its.toArray.size:Int)).toNat=j:=by rw [seqIndex_neg (by lia) h4] at h1;rw [size_toArray,<-hl];exact Option.some.inj h1
  exact subscriptTail_builtinR (x:=w) pl.isList.typeIs slot_list_getitem.lookup
   (wpAny_getItem_list_neg (Q:=λr s'=>r=w/\EP X pins σ Q r s') pl.isList (by lia) (by rw [size_toArray] <;> lia) (by lia) (by rw [hj];simpa using ew) ⟨rfl,fin⟩) hs
theorem dI:Rh X (MP X.K):=by
 intro value slice pins s σ H x y v u Q I rx ry h hs;obtain⟨p,xs,i,z,rfl,rfl,hq,he,q⟩:=h;cases rx;obtain⟨t,rfl⟩:=ry;obtain⟨its,r,pl,hz⟩:=I.tuple hq;obtain⟨j,h1,h2,h3,h4,h5⟩:=JL he;obtain⟨w,ew,rw'⟩:=r.get h2;have hl:=r.length;have hn:=JH;have fin:EP X pins σ Q w s:=⟨z,H,I,rw',q⟩;exact subscriptTail_builtinR (x:=w) pl.typeIs slot_tuple_getitem.lookup
  (getItem_tuple (j:=j) (Q:=λr s'=>r=w/\EP X pins σ Q r s') pl (by lia) (by lia) (by rw [size_toArray,<-hl];exact h1) (by simpa using ew) ⟨rfl,fin⟩) hs
theorem Et:Rh X aaa:=by
 intro value slice pins s σ H x y v u Q I rx ry h hs;obtain⟨z,i,c,rfl,rfl,hz,he,q⟩:=h;obtain⟨t,rfl⟩:=rx;obtain⟨t',rfl⟩:=ry;obtain⟨j,h1,h2,h3,h4,h5⟩:=JL he;have hl:z.cps.toList.length=z.length:=by simp [Str.length]
 rw [hl] at h1 h4 h5;have hn:=JH;exact tail_any (typeIs_str s z t) slot_str_getitem.lookup (getItem_str (c:=c) (by have e1:decide (i < -(2 ^ 63:Int))=false:=decide_eq_false (by lia);have e2:decide (i≥2 ^ 63)=false:=decide_eq_false (by lia);rw [e1,e2,Bool.or_false]) (by rw [h1];simpa using h2) ⟨.str ⟨#[c]⟩,H,I.tok _,⟨_,rfl⟩,q⟩) hs
noncomputable def rIx (K:Fr):R2:=λx y H Q=>XX K x y H Q∨MP K x y H Q∨aaa x y H Q
theorem Mt:Rh X (rIx X.K):=aV.or (dI.or Et)
theorem JG (lo hi:Option Int) (n:Nat):(sliceBounds lo hi none n).1=((HT.Lf n 0 lo:Nat):Int)/\(sliceBounds lo hi none n).2.1=((HT.Lf n n hi:Nat):Int)/\(sliceBounds lo hi none n).2.2=1:=by
 refine⟨?_,?_,Z⟩
 ·cases lo with
  | none=>simp [sliceBounds,HT.Lf]
  | some i=>
   simp only [sliceBounds,HT.Lf,Option.getD_none,show(1:Int) >0 by decide,if_true];by_cases h:i <0
   ·simp only [h,if_true] <;> lia
   ·simp only [h,if_false] <;> lia
 ·cases hi with
  | none=>simp [sliceBounds,HT.Lf]
  | some i=>
   simp only [sliceBounds,HT.Lf,Option.getD_none,show(1:Int) >0 by decide,if_true];by_cases h:i <0
   ·simp only [h,if_true] <;> lia
   ·simp only [h,if_false] <;> lia
theorem GD (its:List Value) (lo hi:Option Int):slicePick its.toArray lo hi none=((its.drop (HT.Lf its.length 0 lo)).take (HT.Lf its.length its.length hi - HT.Lf its.length 0 lo)).toArray:=by obtain⟨h1,h2,h3⟩:=JG lo hi its.toArray.size;unfold slicePick;rw [h1,h2,h3];simp only [sliceRange_one,pick_run,size_toArray] <;> rfl
inductive WW (K:Fr) (x:V) (lo:Option Int) (hi:Option Int) (H:Hp) (Q:VK):Prop where
 | mk:∀a xs,x=.ref a->bK K H a xs->(∀p,H p=none->Q (.ref p) (upd H p (.lst (vI xs lo hi))))->WW K x lo hi H Q
noncomputable def aaG (K:Fr):V->Option Int->Option Int->Hp->VK->Prop:=λx lo hi H Q=>WW K x lo hi H Q
theorem ut:SlR X (aaG X.K):=by intro pins s σ H x v vl vu lo hi sl Q I rx hs pl pu h;obtain⟨a,xs,rfl,hx,q⟩:=h;cases rx;obtain⟨its,r,ht,hz⟩:=I.list hx;have hlen:=r.length;refine⟨"list",_,slot_list_getitem.lookup,ht.isList.typeIs,?_⟩;refine wpAny_getItem_list_slice ht.isList hs pl pu .none (by simp) ?_ (by rw [size_toArray] <;> lia);rw [GD,<-hlen];refine⟨.ref s.heap.objs.size,_,I.laid (t':=s.toks) (o:=.lst (vI xs lo hi)) (λb ob q=>Heap.get?_push_of_some _ q) (le_refl _) ?_,Z,q _ (I.hok.fresh (le_refl _))⟩;exact⟨le_trans (BX xs lo hi) hz,_,0,(r.drop (HT.Lf xs.length 0 lo)).take (HT.Lf xs.length xs.length hi - HT.Lf xs.length 0 lo),Heap.get?_push_size _ Z⟩
noncomputable def oG:V->Bool
 | .non=>true
 | .bl _=>true
 | .int _=>true
 | .str _=>true
 | _=>false
noncomputable def MK:V->V->Bool
 | .non,.non=>true
 | .bl a,.bl b=>a == b
 | .bl a,.int b=>(if a then 1 else 0) == b
 | .int a,.bl b=>a == (if b then 1 else 0)
 | .int a,.int b=>a == b
 | .str a,.str b=>a == b
 | _,_=>false
theorem Yo {A:Around} {s:Shared} {y x:V} {u v:Value} (ry:RelV y u) (rx:RelV x v) (fy:oG y=true) (fx:oG x=true):SeqAt.EqAt A s u v (MK y x):=by
 cases y with
 | non=>
  cases ry;cases x with
  | non=>cases rx;exact SeqAt.EqAt.same _
  | bl b=>cases rx;exact SeqAt.EqAt.none_bool b
  | int b=>obtain⟨t,rfl⟩:=rx;exact SeqAt.EqAt.none_int b t
  | str b=>obtain⟨t,rfl⟩:=rx;exact SeqAt.EqAt.none_str b t
  | _=>exact absurd (show false=true from fx) Bool.false_ne_true
 | bl a=>
  cases ry;cases x with
  | non=>cases rx;exact SeqAt.EqAt.bool_none a
  | bl b=>cases rx;exact SeqAt.EqAt.bool_bool a b
  | int b=>obtain⟨t,rfl⟩:=rx;exact SeqAt.EqAt.bool_int a b t
  | str b=>obtain⟨t,rfl⟩:=rx;exact SeqAt.EqAt.bool_str a b t
  | _=>exact absurd (show false=true from fx) Bool.false_ne_true
 | int a=>
  obtain⟨t',rfl⟩:=ry;cases x with
  | non=>cases rx;exact SeqAt.EqAt.int_none a t'
  | bl b=>cases rx;exact SeqAt.EqAt.int_bool a t' b
  | int b=>obtain⟨t,rfl⟩:=rx;exact SeqAt.EqAt.int_int a t' b t
  | str b=>obtain⟨t,rfl⟩:=rx;exact SeqAt.EqAt.int_str a t' b t
  | _=>exact absurd (show false=true from fx) Bool.false_ne_true
 | str a=>
  obtain⟨t',rfl⟩:=ry;cases x with
  | non=>cases rx;exact SeqAt.EqAt.str_none a t'
  | bl b=>cases rx;exact SeqAt.EqAt.str_bool a t' b
  | int b=>obtain⟨t,rfl⟩:=rx;exact SeqAt.EqAt.str_int a t' b t
  | str b=>obtain⟨t,rfl⟩:=rx;exact SeqAt.EqAt.str_str a t' b t
  | _=>exact absurd (show false=true from fx) Bool.false_ne_true
 | _=>exact absurd (show false=true from fy) Bool.false_ne_true
noncomputable def MF (x:V) (u:Value):Bool:=match u with
 | .none=>MK .non x
 | .bool b=>MK (.bl b) x
 | .int i _=>MK (.int i) x
 | .str z _=>MK (.str z) x
 | _=>false
theorem Rx {x y:V} {u:Value} (r:RelV y u) (f:oG y=true):MF x u=MK y x:=by
 cases y with
 | non=>cases r;rfl
 | bl b=>cases r;rfl
 | int i=>obtain⟨t,rfl⟩:=r;rfl
 | str z=>obtain⟨t,rfl⟩:=r;rfl
 | _=>exact absurd (show false=true from f) Bool.false_ne_true
theorem zb {x:V}:∀{xs:List V} {us:List Value},Vals xs us->xs.all oG=true->us.any (MF x)=xs.any λy=>MK y x
 | _,_,.nil,_=>rfl
 | y:: xs,u:: us,.cons r t,f=>by rw [List.all_cons,and_eq_true] at f;rw [any_cons,any_cons,Rx r f.1,zb t f.2]
theorem vN {A:Around} {s:Shared} {x:V} {v:Value} (rx:RelV x v) (fx:oG x=true):∀{xs:List V} {us:List Value},Vals xs us->xs.all oG=true->∀u∈us,SeqAt.EqAt A s u v (MF x u)
 | _,_,.nil,_=>λu hu=>by cases hu
 | y:: xs,u:: us,.cons r t,f=>λu' hu=>by
  rw [List.all_cons,and_eq_true] at f;rcases mem_cons.mp hu with rfl | hu
  ·rw [Rx r f.1];exact Yo r rx f.1 fx
  ·exact vN rx fx t f.2 u' hu
noncomputable def inV (x:V) (xs:List V):Bool:=xs.any λy=>MK y x
inductive Zk (K:Fr) (neg:Bool) (x:V) (y:V) (H:Hp) (Q:VK):Prop where
 | mk:∀p xs,y=.ref p->((bK K H p xs∨gq K H p xs))->oG x=true->xs.all oG=true->(Q (.bl (if neg then !inV x xs else inV x xs)) H)->Zk K neg x y H Q
noncomputable def rIn (K:Fr) (neg:Bool):R2:=λx y H Q=>Zk K neg x y H Q
theorem Hb:wK X (compareOp .In) (rIn X.K false):=by
 intro pins s σ H x y v u Q I rx ry h;obtain⟨p,xs,rfl,hq,fx,fs,q⟩:=h;cases ry;rcases hq with hq | hq
 ·obtain⟨its,r,pl,hz⟩:=I.list hq;refine SeqAt.in_listAt (MF x) pl.isList (λw hw=>vN rx fx r fs w (by simpa using hw)) ⟨.bl _,H,I,Z,?_⟩;rw [show its.toArray.any (MF x)=its.any (MF x) by simp,zb r fs];exact q
 ·obtain⟨its,r,pl,hz⟩:=I.tuple hq;refine SeqAt.in_tupleAt (MF x) pl (λw hw=>vN rx fx r fs w (by simpa using hw)) ⟨.bl _,H,I,Z,?_⟩;rw [show its.toArray.any (MF x)=its.any (MF x) by simp,zb r fs];exact q
theorem fX:wK X (compareOp .NotIn) (rIn X.K true):=by
 intro pins s σ H x y v u Q I rx ry h;obtain⟨p,xs,rfl,hq,fx,fs,q⟩:=h;cases ry;rcases hq with hq | hq
 ·obtain⟨its,r,pl,hz⟩:=I.list hq;refine SeqAt.notIn_listAt (MF x) pl.isList (λw hw=>vN rx fx r fs w (by simpa using hw)) ⟨.bl _,H,I,Z,?_⟩;rw [show its.toArray.any (MF x)=its.any (MF x) by simp,zb r fs];exact q
 ·obtain⟨its,r,pl,hz⟩:=I.tuple hq;refine SeqAt.notIn_tupleAt (MF x) pl (λw hw=>vN rx fx r fs w (by simpa using hw)) ⟨.bl _,H,I,Z,?_⟩;rw [show its.toArray.any (MF x)=its.any (MF x) by simp,zb r fs];exact q
theorem tM:lg X (.type "list") (λxs H Q=>∃p ys,xs=[.ref p]/\(bK X.K H p ys∨gq X.K H p ys)/\∀l,H l=none->Q (.ref l) (upd H l (.lst ys))):=by
 intro pins s σ H xs us Q I r h;obtain⟨p,ys,rfl,hq,q⟩:=h;obtain⟨u,rfl,rx⟩:=vals1 r;cases rx;have fin:∀(its:List Value),Vals ys its->ys.length<=sizeLine->∀(h':Heap) (c':Nat),(∀b o',s.heap.get? b=some o'->h'.get? b=some o')->
   h'.get? s.heap.objs.size=some { cls:=.type "list",dict:=none,data:=.seq its.toArray c',slots:=#[] }->EP X pins σ Q (.ref s.heap.objs.size) { s with heap:=h' }:=λits r' hz h' c' kp e=>
  ⟨.ref s.heap.objs.size,_,I.laid (t':=s.toks) kp (le_refl _) (show dD X.prog X.w _ h' _ (.lst ys) from⟨hz,its,c',r',e⟩),rfl,q _ (I.hok.fresh (le_refl _))⟩
 rcases hq with hq | hq
 ·obtain⟨its,r',pl,hz⟩:=I.list hq;have hlen:=r'.length;obtain⟨o,ho,hc,n,hd⟩:=pl.isList;exact call_list_seq p (.inl rfl) ho hc hd (λh' c' kp e=>fin its r' hz h' c' kp e) (by simp only [size_toArray] <;> lia)
 ·obtain⟨its,r',pl,hz⟩:=I.tuple hq;have hlen:=r'.length;obtain⟨o,ho,hc,n,hd⟩:=pl;exact call_list_seq p (.inr rfl) ho hc hd (λh' c' kp e=>fin its r' hz h' c' kp e) (by simp only [size_toArray] <;> lia)
theorem GK:lg X (.type "tuple") (λxs H Q=>∃p ys,xs=[.ref p]/\((bK X.K H p ys/\∀l,H l=none->Q (.ref l) (upd H l (.tup ys)))∨(gq X.K H p ys/\Q (.ref p) H))):=by
 intro pins s σ H xs us Q I r h;obtain⟨p,ys,rfl,h⟩:=h;obtain⟨u,rfl,rx⟩:=vals1 r;cases rx;rcases h with ⟨hq,q⟩ | ⟨hq,q⟩
 ·obtain⟨its,r',pl,hz⟩:=I.list hq;have hlen:=r'.length;refine call_tuple_list pl.isList (λh' kp=>?_) (by simp only [size_toArray] <;> lia);have I1:Inv X pins σ H { s with heap:=h' }:=I.kept (t':=s.toks) kp;have I2:Inv X pins σ (upd H h'.objs.size (.tup ys)) { s with heap:=h'.push { cls:=.type "tuple",data:=.seq its.toArray } }:=
   I1.laid (t':=s.toks) (λb o e=>Heap.get?_push_of_some _ e) (le_refl _) (show dD X.prog X.w _ _ _ (.tup ys) from⟨hz,its,r',IsTup.new _ _⟩)
  exact⟨.ref h'.objs.size,_,I2,Z,q _ (I1.hok.fresh (le_refl _))⟩
 ·obtain⟨its,r',pl,hz⟩:=I.tuple hq;exact call_tuple_same pl ⟨.ref p,H,I,Z,q⟩
noncomputable def tyV (K:Fr) (T:String) (x:V) (H:Hp):Prop:=match x with
 | .str _=>T= "str"
 | .int _=>T= "int"
 | .ref p=>(T= "list" /\∃xs,bK K H p xs)∨(T= "tuple" /\∃o,K.lookup p=some o/\o.cls=.type "tuple" /\o.dict=none)∨
   (T= "dict" /\((∃kvs,H p=some (.dK kvs))∨∃kvs,H p=some (.dT kvs)))∨(T= "set" /\∃S n,H p=some (.set S n))
 | _=>False
theorem Ut {pins:List (Addr×Obj)} {σ:St} {H:Hp} {s:Shared} {T:String} {x:V} {v:Value} (I:Inv X pins σ H s) (r:RelV x v) (ty:tyV X.K T x H):
  s.TypeIs v T/\∀a,v=.ref a->∃ob,s.heap.get? a=some ob/\ob.dict=none:=by
 cases x with
 | str z=>
  obtain⟨t,rfl⟩:=r;cases (show T= "str" from ty);exact⟨typeIs_str s z t,λ_ e=>nomatch e⟩
 | int i=>
  obtain⟨t,rfl⟩:=r;cases (show T= "int" from ty);exact⟨typeIs_int s i t,λ_ e=>nomatch e⟩
 | ref p=>
  cases r;rcases ty with ⟨rfl,xs,hq⟩ | ⟨rfl,o,hk,hc,hd⟩ | ⟨rfl,hk⟩ | ⟨rfl,S,n,hk⟩
  ·obtain⟨its,_,pl,_⟩:=I.list hq;refine⟨pl.isList.typeIs,λa e=>?_⟩;cases e;obtain⟨o,n,e,c,hd,_⟩:=pl;exact⟨o,e,hd⟩
  ·refine⟨⟨o,I.kIn p o hk,hc⟩,λa e=>?_⟩;cases e;exact⟨o,I.kIn _ o hk,hd⟩
  ·have z:∃o,s.heap.get? p=some o/\o.ExactDict:=by
    rcases hk with ⟨kvs,hk⟩ | ⟨kvs,hk⟩
    ·obtain⟨_,_,_,_,o,_,_,e,ex,_⟩:=I.hok p _ hk;exact⟨o,e,ex⟩
    ·obtain⟨_,_,_,_,o,_,_,e,ex,_⟩:=I.hok p _ hk;exact⟨o,e,ex⟩
   obtain⟨o,e,ex⟩:=z;refine⟨⟨o,e,ex.1⟩,λa e2=>?_⟩;cases e2;exact⟨o,e,ex.2.1⟩
  ·obtain⟨o,_,_,_,e,ex,_⟩:=I.hok p _ hk;refine⟨⟨o,e,ex.1⟩,λa e2=>?_⟩;cases e2;exact⟨o,e,ex.2.1⟩
 | _=>exact False.elim ty
noncomputable def aaD (K:Fr) (T:String) (r:V->List V->Hp->VK->Prop) (to:TE):TE:=λσ H Q=>to σ H λx H1=>tyV K T x H1/\r x [] H1 Q
noncomputable def tBM (K:Fr) (T:String) (r:V->List V->Hp->VK->Prop) (to:TE) (t:TA):TE:=λσ H Q=>to σ H λx H1=>tyV K T x H1/\t σ H1 λxs H2=>r x xs H2 Q
variable {o e:Expr} {es:List Expr} {to:TE} {t:TA} {name:Str} {apos cpos:Pos} {T id:String} {r:V->List V->Hp->VK->Prop}
theorem Nt (pa:PlainAttrs T) (slot:Slot T name id) (hty:typeOf (.builtin id)=pure (.type "method_descriptor")) (hm:MtR X id r) (ho:PE X o to)
  (hbase:attributeBase o name X.env (eval o X.env)=eval o X.env:=by rfl) (hline:(apos.endLine == cpos.line)=true:=by rfl):PE X (.Call (.Attribute o name apos) [] [] cpos) (aaD X.K T r to):=by
 intro pins s σ H Q I h;refine wpAny_Call_method0_late hbase hline (dz (ho pins s σ H _ I h) λv s1 hpt=>?_);obtain⟨x,H1,I1,r1,ty,q1⟩:=hpt;obtain⟨h1,h2⟩:=Ut I1 r1 ty;exact⟨T,id,pa,slot,hty,h1,h2,Calls.callWith_builtin Z (PySem.evalArgs_none (hm pins s1 σ H1 x [] v [] Q I1 r1 .nil q1))⟩
theorem Em (pa:PlainAttrs T) (slot:Slot T name id) (hty:typeOf (.builtin id)=pure (.type "method_descriptor")) (hm:MtR X id r) (ho:PE X o to) (ha:PA X (e:: es) t)
  (hbase:attributeBase o name X.env (eval o X.env)=eval o X.env:=by rfl)
  (hfew:((backTo cpos (starEach (e:: es) X.env)).all (λx=>!x.1) && (backToKw cpos (keywordEach [] X.env)).all (λx=>x.1.isSome)
   && decide ((e:: es).length+([]:List Keyword).length+(if ([]:List Keyword).isEmpty then 0 else 1) <30))=true:=by rfl)
  (hline:(apos.endLine == cpos.line)=true:=by rfl) (hs:starEach (e:: es) X.env=(false,eval e X.env):: starEach es X.env:=by rfl) (hplain:(backTo cpos (starEach es X.env)).any (·.1)=false:=by rfl):
  PE X (.Call (.Attribute o name apos) (e:: es) [] cpos) (tBM X.K T r to t):=by
 intro pins s σ H Q I h;refine wpAny_Call_method_late hbase hfew hline Z (dz (ho pins s σ H _ I h) λv s1 hpt=>?_);obtain⟨x,H1,I1,r1,ty,q1⟩:=hpt;obtain⟨h1,h2⟩:=Ut I1 r1 ty;refine⟨T,id,pa,slot,hty,h1,h2,?_⟩;have hA:=ha cpos pins s1 σ H1 _ I1 q1;rw [hs] at hA ⊢;refine Calls.callWith_builtin (by show(false || (backTo cpos (starEach es X.env)).any (·.1))=false;rw [hplain] <;> rfl) (Calls.evalArgs_plain ?_);exact dz hA λus s2 ⟨vs,H2,I2,r2,q2⟩=>hm pins s2 σ H2 x vs v us Q I2 r1 r2 q2
end
noncomputable def MtM (X:Cx) (id:String) (r:V->List V->Hp->VK->Prop):Prop:=
 ∀(pins:List (Addr×Obj)) (s:Shared) (σ:St) (H:Hp) (x:V) (xs:List V) (v:Value) (us:List Value) (Q:VK),Inv X pins σ H s->RelV x v->Vals xs us->r x xs H Q->
  wpAny (model X.prog X.w) X.A (call (.builtin id) (v:: us)) (EP X pins σ Q) X.xe s
theorem Vals.one:∀{x:V} {us:List Value},Vals [x] us->∃u,us=[u]/\RelV x u
 | _,_,.cons r .nil=>⟨_,rfl,r⟩
theorem Vals.zero:∀{us:List Value},Vals [] us->us=[]
 | _,.nil=>rfl
theorem Vals.dropLast {xs:List V} {us:List Value} (h:Vals xs us):Vals xs.dropLast us.dropLast:=by
 induction h with
 | nil=>exact .nil
 | cons r t ih=>
  cases t with
  | nil=>exact .nil
  | cons q t'=>exact .cons r ih
theorem Vals.eraseIdx:∀{xs:List V} {us:List Value} (i:Nat),Vals xs us->Vals (xs.eraseIdx i) (us.eraseIdx i)
 | _,_,_,.nil=>.nil
 | _,_,0,.cons _ t=>t
 | _,_,i+1,.cons r t=>.cons r (Vals.eraseIdx i t)
theorem Vals.rep {xs:List V} {us:List Value} (h:Vals xs us):∀k:Nat,Vals (List.replicate k xs).flatten (List.replicate k us).flatten
 | 0=>.nil
 | k+1=>by rw [replicate_succ,replicate_succ,flatten_cons,flatten_cons];exact Vals.append h (Vals.rep h k)
theorem Ob {α:Type} (l:List α):l.eraseIdx (l.length - 1)=l.dropLast:=by
 induction l with
 | nil=>rfl
 | cons a r ih=>
  cases r with
  | nil=>rfl
  | cons b r=>
   have e:(a:: b:: r).length - 1=((b:: r).length - 1)+1:=by
    have h1:(a:: b:: r).length=r.length+2:=rfl;have h2:(b:: r).length=r.length+1:=rfl
    lia
   rw [e,List.eraseIdx_cons_succ,ih];all_goals rfl
theorem Iu {α:Type}:∀(l:List α) (i:Nat),(l.eraseIdx i).length<=l.length
 | [],_=>le_refl _
 | _:: _,0=>le_succ _
 | _:: r,i+1=>Nat.succ_le_succ (Iu r i)
theorem foldl_rep (its:List Value):∀(k:Nat) (acc:List Value),
  List.foldl (λx1 x2=>x1 ++ x2) acc.toArray (List.replicate k its.toArray)=(acc ++ (List.replicate k its).flatten).toArray
 | 0,acc=>by simp
 | k+1,acc=>by
  have e:acc.toArray ++ its.toArray=(acc ++ its).toArray:=by simp
  have e2:(acc ++ its) ++ (List.replicate k its).flatten=acc ++ (List.replicate (k+1) its).flatten:=by rw [replicate_succ,flatten_cons,append_assoc]
  rw [<-e2,<-foldl_rep its k (acc ++ its),<-e,replicate_succ,List.foldl_cons]
section
variable {X:Cx} {pins:List (Addr×Obj)} {σ:St} {H:Hp} {s:Shared} {l b:Addr} {xs ys zs:List V}
theorem Inv.lset {its its':List Value} {n:Nat} {f:Array Value->Array Value} {t':Nat} (I:Inv X pins σ H s) (hH:H l=some (.lst xs))
  (e:s.heap.get? l=some { cls:=.type "list",data:=.seq its.toArray n }) (hf:f its.toArray=its'.toArray) (hv:Vals ys its') (hz:ys.length<=sizeLine):
  Inv X pins σ (upd H l (.lst ys)) { s with heap:=s.heap.update l (Obj.mapSeq f),toks:=t' }:=by
 have q:=PySem.IsL.update e f;rw [hf] at q;refine I.write (x:=l) (e:=l) (by rw [hH];exact trivial) (.inl rfl) (λb' u hb hu=>(Heap.get?_update_other s.heap (Obj.mapSeq f) (Ne.symm hb)).trans hu) ⟨_,q⟩ ?_;exact⟨hz,its',_,hv,q⟩
theorem Inv.lnew {its:List Value} {t':Nat} (I:Inv X pins σ H s) (hv:Vals ys its) (hz:ys.length<=sizeLine):
  Inv X pins σ (upd H s.heap.objs.size (.lst ys)) { s with heap:=s.heap.push { cls:=.type "list",data:=.seq its.toArray },toks:=t' }:=
 I.laid (λ_ _ q=>Heap.get?_push_of_some _ q) (le_refl _) ⟨hz,its,0,hv,Heap.get?_push_size _ rfl⟩
theorem Inv.fresh (I:Inv X pins σ H s):H s.heap.objs.size=none:=I.hok.fresh (le_refl _)
theorem Inv.lstM (I:Inv X pins σ H s) (hH:H l=some (.lst xs)):xs.length<=sizeLine/\∃(its:List Value) (n:Nat),Vals xs its/\xs.length=its.length/\s.heap.get? l=some { cls:=.type "list",data:=.seq its.toArray n }:=by obtain⟨z,its,n,r,e⟩:=I.hok l _ hH;exact⟨z,its,n,r,r.length,e⟩
theorem Kq {n:Nat} (h:n<=sizeLine):Builtin.List.listTooLong n=false:=by unfold Builtin.List.listTooLong;exact decide_eq_false (by lia)
end
section
variable {X:Cx}
inductive Kv (x:V) (vs:List V) (H:Hp) (Q:VK):Prop where
 | mk:∀l xs y,x=.ref l->vs=[y]->H l=some (.lst xs)->xs.length <sizeLine->Q .non (upd H l (.lst (xs ++ [y])))->Kv x vs H Q
noncomputable def Qc:V->List V->Hp->VK->Prop:=λx vs H Q=>Kv x vs H Q
theorem QV:MtM X "list.append" Qc:=by
 intro pins s σ H x vs v us Q I rx rv h;obtain⟨l,xs,y,rfl,rfl,hH,hz,q⟩:=h;cases rx;obtain⟨u,rfl,ru⟩:=rv.one;obtain⟨z,its,n,r,hl,e⟩:=I.lstM hH;refine call_meets F.slot_list_append ⟨_,e,Z⟩ F.entry_list_append (F.args_list_append_2 _ _) (PySem.list_append l its.toArray n u (by rw [size_toArray];lia)) ⟨e,?_⟩;refine⟨.non,_,I.lset (its':=its ++ [u]) hH e (by simp) (r.append (.cons ru .nil)) ?_,Z,q⟩;rw [length_append,length_singleton]
 lia
inductive Lq (x:V) (vs:List V) (H:Hp) (Q:VK):Prop where
 | mk:∀l b xs zs,x=.ref l->vs=[.ref b]->H l=some (.lst xs)->H b=some (.lst zs)->xs.length+zs.length<=sizeLine->Q .non (upd H l (.lst (xs ++ zs)))->Lq x vs H Q
noncomputable def VN:V->List V->Hp->VK->Prop:=λx vs H Q=>Lq x vs H Q
theorem HY:MtM X "list.extend" VN:=by
 intro pins s σ H x vs v us Q I rx rv h;obtain⟨l,b,xs,zs,rfl,rfl,hH,hB,hz,q⟩:=h;cases rx;obtain⟨u,rfl,ru⟩:=rv.one;cases ru;obtain⟨z,its,n,r,hl,e⟩:=I.lstM hH;obtain⟨z2,its2,n2,r2,hl2,e2⟩:=I.lstM hB;have hsz:its.toArray.size+its2.toArray.size<=sizeLine:=by rw [size_toArray,size_toArray];lia
 have hlong:¬(!its.toArray.isEmpty && Builtin.List.listTooLong (its.toArray.size+its2.toArray.size))=true:=by rw [Kq hsz,Bool.and_false];exact Bool.false_ne_true
 refine call_meets F.slot_list_extend ⟨_,e,Z⟩ F.entry_list_extend (F.args_list_extend_2 _ _)
  (AutoSeq1.list_extend_list_list_0 l its.toArray n b its2.toArray n2 hlong (by rw [size_toArray];lia) (by lia)) ⟨e,e2,?_⟩
 refine⟨.non,_,I.lset (its':=its ++ its2) hH e (by simp) (r.append r2) ?_,Z,q⟩;rw [length_append]
 lia
inductive WX (x:V) (vs:List V) (H:Hp) (Q:VK):Prop where
 | mk:∀l xs y,x=.ref l->vs=[]->H l=some (.lst xs)->xs[xs.length - 1]?=some y->Q y (upd H l (.lst xs.dropLast))->WX x vs H Q
noncomputable def aaR:V->List V->Hp->VK->Prop:=λx vs H Q=>WX x vs H Q
theorem M4:MtM X "list.pop" aaR:=by
 intro pins s σ H x vs v us Q I rx rv h;obtain⟨l,xs,y,rfl,rfl,hH,hy,q⟩:=h;cases rx;have hus:=rv.zero;subst hus;obtain⟨z,its,n,r,hl,e⟩:=I.lstM hH;obtain⟨u,hu,ru⟩:=r.get hy;have hy':its.toArray[its.toArray.size - 1]?=some u:=by show its.toArray[its.length - 1]?=some u;rw [<-Array.getElem?_toList,<-hl];exact hu
 refine call_meets F.slot_list_pop ⟨_,e,Z⟩ F.entry_list_pop (F.args_list_pop_1 _) (MeetsSeq.list_pop_last l its.toArray n u hy' (by rw [size_toArray];lia)) ⟨e,?_⟩;refine⟨y,_,I.lset (its':=its.dropLast) hH e ?_ r.dropLast ?_,ru,q⟩
 ·show its.toArray.eraseIdxIfInBounds (its.toArray.size - 1)=its.dropLast.toArray;rw [size_toArray,List.eraseIdxIfInBounds_toArray,Ob]
 ·rw [List.length_dropLast]
  lia
inductive Qi (x:V) (vs:List V) (H:Hp) (Q:VK):Prop where
 | mk:∀l xs i k y,x=.ref l->vs=[.int i]->H l=some (.lst xs)-> -(2 ^ 63)<=i->i <2 ^ 63->seqIndex? i xs.length=some k->xs[k]?=some y->Q y (upd H l (.lst (xs.eraseIdx k)))->Qi x vs H Q
noncomputable def Yp:V->List V->Hp->VK->Prop:=λx vs H Q=>Qi x vs H Q
theorem Dr:MtM X "list.pop" Yp:=by
 intro pins s σ H x vs v us Q I rx rv h;obtain⟨l,xs,i,k,y,rfl,rfl,hH,h1,h2,hk,hy,q⟩:=h;cases rx;obtain⟨u,rfl,ru⟩:=rv.one;obtain⟨t,rfl⟩:=ru;obtain⟨z,its,n,r,hl,e⟩:=I.lstM hH;obtain⟨w,hw,rw'⟩:=r.get hy;refine call_meets F.slot_list_pop ⟨_,e,Z⟩ F.entry_list_pop (F.args_list_pop_2 _ _)
  (MeetsSeq.list_pop_at l its.toArray n i t k w (fitsIndex_both h1 h2) (by rw [size_toArray,<-hl];exact hk) (by rw [<-Array.getElem?_toList];exact hw) (by rw [size_toArray];lia)) ⟨e,?_⟩
 refine⟨y,_,I.lset (its':=its.eraseIdx k) hH e ?_ (r.eraseIdx k) ?_,rw',q⟩
 ·show its.toArray.eraseIdxIfInBounds k=(its.eraseIdx k).toArray;rw [List.eraseIdxIfInBounds_toArray]
 ·have:=Iu xs k
  lia
inductive Xb (x:V) (y:V) (H:Hp) (Q:VK):Prop where
 | mk:∀l b xs zs,x=.ref l->y=.ref b->H l=some (.lst xs)->H b=some (.lst zs)->xs.length+zs.length<=sizeLine->(∀p,H p=none->Q (.ref p) (upd H p (.lst (xs ++ zs))))->Xb x y H Q
noncomputable def aa3:R2:=λx y H Q=>Xb x y H Q
theorem yp:wK X (binaryOp .Add) aa3:=by
 intro pins s σ H x y v u Q I rx ry h;obtain⟨l,b,xs,zs,rfl,rfl,hH,hB,hz,q⟩:=h;cases rx;cases ry;obtain⟨z,its,n,r,hl,e⟩:=I.lstM hH;obtain⟨z2,its2,n2,r2,hl2,e2⟩:=I.lstM hB;refine PySem.P.add_list e e2 ?_ (by rw [size_toArray,size_toArray];lia);have ea:its.toArray ++ its2.toArray=(its ++ its2).toArray:=by simp
 rw [ea];exact⟨.ref _,_,I.lnew (t':=s.toks) (r.append r2) (by rw [length_append];lia),rfl,q _ I.fresh⟩
inductive Xe (x:V) (y:V) (H:Hp) (Q:VK):Prop where
 | mk:∀l k xs,x=.ref l->y=.int k->H l=some (.lst xs)-> -(2 ^ 63)<=k->k <2 ^ 63->xs.length * k.toNat<=sizeLine->(∀p,H p=none->Q (.ref p) (upd H p (.lst (List.replicate k.toNat xs).flatten)))->Xe x y H Q
noncomputable def aaT:R2:=λx y H Q=>Xe x y H Q
theorem len_rep {α:Type} (xs:List α) (k:Nat):(List.replicate k xs).flatten.length=k * xs.length:=by
 induction k with
 | zero=>simp
 | succ k ih=>rw [replicate_succ,flatten_cons,length_append,ih,Nat.succ_mul,Nat.add_comm]
theorem TX:wK X (binaryOp .Mult) aaT:=by
 intro pins s σ H x y v u Q I rx ry h;obtain⟨l,k,xs,rfl,rfl,hH,h1,h2,hz,q⟩:=h;cases rx;obtain⟨t,rfl⟩:=ry;obtain⟨z,its,n,r,hl,e⟩:=I.lstM hH;have hlen:its.toArray.size * k.toNat<=sizeLine:=by rw [size_toArray,<-hl];exact hz
 have hcap:¬its.toArray.size * k.toNat >(2 ^ 63 - 1) / 8:=by
  have:(sizeLine:Nat)<=(2 ^ 63 - 1) / 8:=by decide
  lia
 have hfit:¬(!Builtin.List.listFitsIndex k)=true:=by rw [fitsIndex_both h1 h2];exact Bool.false_ne_true
 have hlong:¬Builtin.List.listTooLong (its.toArray.size * k.toNat)=true:=by rw [Kq hlen];exact Bool.false_ne_true
 have hnew:List.foldl (λx1 x2=>x1 ++ x2) #[] (List.replicate (if its.toArray.isEmpty=true then 0 else k.toNat) its.toArray)=(List.replicate k.toNat its).flatten.toArray:=by
  have f0:∀m:Nat,List.foldl (λx1 x2=>x1 ++ x2) #[] (List.replicate m its.toArray)=(List.replicate m its).flatten.toArray:=λm=>by have:=foldl_rep its m [];rw [List.nil_append] at this;exact this
  rw [f0];cases its with
  | nil=>simp
  | cons a r'=>rw [if_neg (by simp)]
 refine wpAny_binaryOp_repeat_ref (T:= "list") (U:= "int") (by decide) ⟨_,e,Z⟩ (λs'=>typeIs_int s' k t) noFill_list_mul F.fills_int_mul F.slot_int_rmul repeat_list F.slot_int_index.lookup
  (call_meets F.slot_int_rmul (typeIs_int s k t) F.entry_int_rmul (F.args_int_rmul_2 _ _) (int___rmul___int_list k t l its.toArray n)
   ⟨e,rfl,⟨_,e,rfl⟩,call_meets F.slot_list_mul ⟨_,e,rfl⟩ F.entry_list_mul (F.args_list_mul_2 _ _) (AutoListH.list___mul___list_int_3 l its.toArray n k t hfit hcap hlong) ⟨e,?_⟩⟩)
 rw [hnew];exact⟨.ref _,_,I.lnew (t':=s.toks) (r.rep k.toNat) (by rw [len_rep,Nat.mul_comm];exact hz),rfl,q _ I.fresh⟩
end
section
variable {prog:Program} {w:World} {A:Around} {E:Value->Shared->Prop} {s:Shared}
end
section
variable {X:Cx}
end
end L2
namespace Att
open PySem PySem.W PySem.Calls PyProof.Rows
theorem CG {P:Params} {h:Heap}:∀(ns:List Int) (vs:List Value),WellAll P h vs (ns.map WData.int)->IntsAre vs ns:=by
 intro ns;induction ns with
 | nil=>
  intro vs w;rw [map_nil] at w;cases w;exact .nil
 | cons n ns ih=>
  intro vs w;rw [map_cons] at w;cases w with
  | cons a b=>
   cases a;exact .cons _ _ (ih _ b)
theorem Rf {l:OpenLaw} {n:Nat} (hn:l.most=some n) {P:Params} {h:Heap} {args:List WData} {vals:List Value}
  (hpre:l.row.toRowW.claim.pre args=true) (hwl:WellAll P h vals args):
  ∃a vs ns,vals=[Value.ref a]/\args=[WData.list (ns.map WData.int)]/\h.get? a=some { cls:=.type "list",data:=.seq vs.toArray }/\IntsAre vs ns/\ns.length<=n:=by
 have hsh:WShape.hasAll [] args [.list .int]=true:=(pre_splitW hpre).1;have hc:l.pre.holds [] { args:=args }=true:=(pre_splitW hpre).2;obtain⟨d,r,rfl,h1,h2⟩:=hasAllW_cons hsh;obtain rfl:=hasAllW_nil h2;obtain⟨xs,rfl,h3⟩:=hasW_list h1;obtain⟨ns,rfl⟩:=items_int h3;have hlen:ns.length<=n:=by
  unfold OpenLaw.pre at hc;have h4:(WTm.not (.lt (.lit (.int (n:Int))) (.len (.arg 0)))).holds [] { args:=[.list (ns.map .int)] }=true:=by have h4:=(holds_andW hc).1;rw [hn] at h4;exact h4
  have h5:=condW_of h4 (w_not (w_lt w_lit (w_len_list (w_arg rfl))));rw [length_map] at h5;refine Nat.le_of_not_lt λq=>?_;have q':(n:Int) <((ns.length:Nat):Int):=by lia
  first
   | (rw [decide_eq_true q'] at h5;exact absurd h5 (by decide))
   | (simp at h5;lia)
 cases hwl with
 | cons w1 w2=>
  cases w2;cases w1 with
  | list ho hall=>exact⟨_,_,ns,rfl,rfl,ho,CG ns _ hall,hlen⟩
theorem QL (l:OpenLaw) (args:List WData):l.row.toRowW.claim.post args (.bool true) args=true:=
 postW_of (r:=l.row.toRowW) (X:=(true == true))
  (show WShape.has [] (.bool true) .bool=true by first | rfl | decide | simp [WShape.has,WShape.arms,WShape.armsAll])
  (show(WTm.eq .res (.lit (.bool true))).value [] { args:=args,res:=some (.bool true),after:=args }=some (.bool (true == true)) from w_eq_bool (w_res rfl) w_lit) rfl
theorem Km {l:OpenLaw} {n:Nat} {q:Program} {loose:List Str} {XP:(Str->Option Value)->Heap->Prop} {YP:World->Heap->Prop} {d:DefRec}
  (hn:l.most=some n) (hdf:d.params.defaults=[])
  (call:∀(w:World) (s₀ s₁:Shared) (mg mb:Str->Option Value) (fa:Addr) (o:Obj) (pm cd doc:Value) (a:Addr) (vs:List Value) (ns:List Int),
   Ground q loose [] XP w s₀ mg mb s₁.heap->YP w s₁.heap->
   s₁.heap.get? fa=some o->o.data=.func (docDef d.name d.params d.body d.scope pm cd doc)->s₁.heap.CodeRec cd d.name->mg d.name=some (.ref fa)->
   s₁.heap.get? a=some { cls:=.type "list",data:=.seq vs.toArray }->IntsAre vs ns->ns.length<=n->s₁.gens= #[]->
   codeAny (model l.prog w) callerA (.call (.ref fa) ⟨[.ref a],[]⟩) (λr s'=>r=.ok (.ret (.bool true))/\OldK s₁.heap s'.heap/\s'.os=s₁.os/\AllBare s'.gens) s₁):
  WalkO q loose XP YP l.row.toRowW d [] (λf vs=>PySem.call f vs):=by
 intro w s₀ s₁ mg mb G Y fa o pm cd doc dV kV ho hd hcd hD hmg hg args vals as hpre hlay hrd hwl hlo;obtain rfl:dV=.none:=Dflts.none hD hdf;obtain rfl:kV=.none:=Dflts.noKw hD;obtain⟨a,vs,ns,rfl,rfl,hobj,hints,hlen⟩:=Rf hn hpre hwl;refine enter_call (codeAny_mono (call w s₀ s₁ mg mb fa o pm cd doc a vs ns G Y ho (fd_plain hd) hcd hmg hobj hints hlen hg) λr s' hq=>?_);obtain⟨rfl,h2,h3,h4⟩:=hq;exact⟨.inl ⟨.bool true,.bool true,[],Z,λ_=>Z,.bool true,QL l _,λ_=>⟨List.Pairwise.nil,λ_ hm=>(nomatch hm)⟩⟩,h2,h3,h4⟩
section
variable {prog:Program} {w:World} {A:Around} {E:Value->Shared->Prop} {s:Shared} {K:Frag}
end
end Att
namespace L2
open PySem PySem.Spec PyProof.Rows
theorem Hr:∀{vs:List Value} {ns:List Int},IntsAre vs ns->Vals (ns.map V.int) vs
 | _,_,.nil=>.nil
 | _,_,.cons n t h=>.cons ⟨t,rfl⟩ (Hr h)
noncomputable def Only (H:Hp):Prop:=∀b,H b=none∨∃o xs,H b=some (.frz o (.lst xs))
theorem U6 {P:Program} {w:World} {K:Fr} {mg mb:Str->Option Value} {CX:CZ} {k:Nat} {fa a:Addr} {fd:FuncData} {x:Str} {sp:Sp} {s₁:Shared} {vs:List Value} {ns:List Int}
  (KX:K.In s₁.heap) (hns:s₁.heap.Ns mainGlobals mg) (hb:s₁.heap.Ns builtinsNs mb) (hbb:∀x:Str,x≠ "__name__" ->mb x=bootBuiltins x) (hlim:s₁.heap.NoLimit) (hg:s₁.gens= #[])
  (ha:s₁.heap.get? a=some { cls:=.type "list",data:=.seq vs.toArray }) (hi:IntsAre vs ns) (hl:ns.length<=sizeLine) (hr:gZ k callerA)
  (F:∀base:Heap,K.In base->base.Ns mainGlobals mg->dR P w K mg base CX k fa fd [x] sp) (hbind:∀(s:Shared) (u:Value),BindsTo s fd ⟨[u],[]⟩ [(x,u)])
  (hsp:∀H:Hp,Only H->bK K H a (ns.map V.int)->sp [.ref a] H (λv _=>v=.bl true) λ_ _ _=>False)
  (hCX:∀H e s',CX [] H s₁ (λ_ _ _=>False) e s'->False):
  codeAny (model P w) callerA (.call (.ref fa) ⟨[.ref a],[]⟩) (λr s'=>r=.ok (.ret (.bool true))/\OldK s₁.heap s'.heap/\s'.os=s₁.os/\AllBare s'.gens) s₁:=by
 have rv:=Hr hi;have lenV:=hi.length;have core:∀H:Hp,Only H->bK K H a (ns.map V.int)->vU P w H s₁.heap->(∀b,H b≠none->b=a)->(H a≠none->K.lookup a=none)->
   codeAny (model P w) callerA (.call (.ref fa) ⟨[.ref a],[]⟩) (λr s'=>r=.ok (.ret (.bool true))/\OldK s₁.heap s'.heap/\s'.os=s₁.os/\AllBare s'.gens) s₁:=by
  intro H hO hS hok hA hK;have base_of:∀{b:Addr} {o:Obj},s₁.heap.get? b=some o->H b=none->(J8 s₁.heap H).get? b=some o:=λe n=>UW e n;have noA:∀{b:Addr} {o:Obj} {es:Array DictEntry} {ep:Nat},s₁.heap.get? b=some o->o.data=.dict es ep->H b=none:=λ{b o es ep} e d=>by
   cases q:H b with
   | none=>rfl
   | some u=>
    have e':b=a:=hA b (by rw [q];simp);subst e';rw [ha] at e;cases e;have d':Data.seq vs.toArray _=Data.dict es ep:=d;cases d'
  have Rg:∀{b:Addr} {m:Str->Option Value},s₁.heap.Ns b m->(J8 s₁.heap H).Ns b m:=λ{b m} ⟨o,es,ep,e,d,r⟩=>⟨o,es,ep,base_of e (noA e d),d,r⟩;have hKb:K.In (J8 s₁.heap H):=λb o e=>base_of (KX b o e) (by
   cases q:H b with
   | none=>rfl
   | some u=>
    have e':b=a:=hA b (by rw [q];simp);subst e';rw [hK (by rw [q];simp)] at e;cases e)
  have hM:Mod K mg (J8 s₁.heap H):=⟨hKb,Rg hns,⟨mb,Rg hb,hbb⟩,let ⟨mc,h1,h2⟩:=hlim;⟨mc,Rg h1,h2⟩⟩;have e0:Mr P w K mg (J8 s₁.heap H) callerA [] s₁ H:=⟨rfl,hM,λb o e=>Vj e,Nat.le_of_eq (Qq _ _),trivial,λb hb=>absurd (show b∈([]:List Addr) from hb) (by simp),hok,.of_eq hg⟩;refine codeAny_mono ((F _ hKb (Rg hns)).run callerA [] s₁ H ⟨[.ref a],[]⟩ [.ref a] [.ref a] _ _ hr e0 (hbind s₁ (.ref a)) (.cons Z .nil) (hsp H hO hS)) λr s' h=>?_;cases r with
  | error e=>exact(hCX H e s' h).elim
  | ok fl=>
   cases fl with
   | next=>exact False.elim h
   | brk=>exact False.elim h
   | cont=>exact False.elim h
   | ret u=>
    obtain⟨v,H',os,bare,un,hok',r',q⟩:=h;have q':v=.bl true:=q;subst q';obtain rfl:u=Value.bool true:=r';refine⟨Z,OldK.of_keep λb o e=>?_,os,bare⟩;cases q:H b with
    | none=>exact un.keep b o e q (by intro z;exact absurd (show b∈([]:List Addr) from z) (by simp)) (by simp)
    | some u=>
     rcases hO b with z | ⟨ob,xs,z⟩
     ·rw [q] at z;cases z
     ·have z2:=un.frzs b ob _ z;obtain⟨e1,_⟩:=hok b _ z;obtain⟨e2,_⟩:=hok' b _ z2;rw [e] at e1;cases e1;exact e2
 cases hk:K.lookup a with
 | some o=>
  have e:=KX a o hk;rw [ha] at e;cases e;refine core (λ_=>none) (λ_=>.inl rfl) (.inr ⟨_,vs.toArray,_,hk,rfl,rfl,rfl,by rw [size_toArray,lenV];exact hl,by simpa using rv⟩) (λb u z=>by have z':(none:Option HO)=some u:=z;cases z') (λb z=>absurd rfl z) λz=>absurd rfl z
 | none=>
  refine core (λb=>if b=a then some (.frz { cls:=.type "list",data:=.seq vs.toArray } (.lst (ns.map V.int))) else none) (λb=>?_) (.inl (.inr ⟨{ cls:=.type "list",data:=.seq vs.toArray },if_pos Z⟩)) (λb u z=>?_) (λb z=>?_) λ_=>hk
  ·by_cases hb:b=a
   ·exact .inr ⟨_,_,if_pos hb⟩
   ·exact .inl (if_neg hb)
  ·by_cases hb:b=a
   ·have z':=(if_pos hb).symm.trans z;cases z';subst hb;exact⟨ha,by rw [length_map];exact hl,vs,_,rv,ha⟩
   ·have z':=(if_neg hb).symm.trans z;cases z'
  ·by_cases hb:b=a
   ·exact hb
   ·exact absurd (if_neg hb) z
theorem Wo {l:PySem.W.OpenLaw} {n k:Nat} {q:Program} {loose:List Str} {XP:(Str->Option Value)->Heap->Prop} {YP:World->Heap->Prop} {d:DefRec} {K:Params->Fr} {CX:World->CZ} {sp:World->Sp} {x:Str}
  (hn:l.most=some n) (hn2:n<=sizeLine) (hdf:d.params.defaults=[]) (hr:gZ k callerA)
  (hY:∀(w:World) (h:Heap),YP w h->(K w.params).In h)
  (F:∀(w:World) (mg:Str->Option Value) (fa:Addr) (h:Heap),(K w.params).In h->h.Ns mainGlobals mg->mg d.name=some (.ref fa)->
   ∃fd:FuncData,(∀(s:Shared) (u:Value),BindsTo s fd ⟨[u],[]⟩ [(x,u)])/\
    ∀base:Heap,(K w.params).In base->base.Ns mainGlobals mg->dR l.prog w (K w.params) mg base (CX w) k fa fd [x] (sp w))
  (hsp:∀(w:World) (H:Hp) (a:Addr) (ns:List Int),ns.length<=n->Only H->bK (K w.params) H a (ns.map V.int)->sp w [.ref a] H (λv _=>v=.bl true) λ_ _ _=>False)
  (hCX:∀(w:World) (H:Hp) (s:Shared) (e:Value) (s':Shared),CX w [] H s (λ_ _ _=>False) e s'->False):
  PySem.W.WalkO q loose XP YP l.row.toRowW d [] (λf vs=>PySem.call f vs):=by
 refine Att.Km hn hdf λw s₀ s₁ mg mb fa o pm cd doc a vs ns G Y ho hd hcd hmg hobj hints hlen hg=>?_;have KX:=hY w _ Y;obtain⟨fd,hb,hF⟩:=F w mg fa _ KX G.T.g hmg;exact U6 KX G.T.g G.T.b G.T.builtins G.T.nolimit hg hobj hints (le_trans hlen hn2) hr hF hb (λH hO hS=>hsp w H a ns hlen hO hS) λH e s'=>hCX w H s₁ e s'
noncomputable def inClass (s:Stmt) (j:Nat):Stmt:=match s with
 | .ClassDef _ _ _ body _ _ _ _ _ _ _=>body.getD j (.Pass ⟨0,0,0,0⟩)
 | _=>.Pass ⟨0,0,0,0⟩
noncomputable def jo (s:Stmt):Arguments:=match s with
 | .FunctionDef _ a _ _ _ _ _ _ _ _=>a
 | _=>{ posonlyargs:=[],args:=[],vararg:=none,kwonlyargs:=[],kw_defaults:=[],kwarg:=none,defaults:=[] }
noncomputable def gA (s:Stmt):List Stmt:=match s with
 | .FunctionDef _ _ b _ _ _ _ _ _ _=>b
 | _=>[]
noncomputable def aR (s:Stmt):Scope:=match s with
 | .FunctionDef _ _ _ _ _ _ sc _ _ _=>sc
 | _=>{ kind:=.function,names:=[],isGenerator:=false,isCoroutine:=false }
noncomputable abbrev GP:CZ:=λ_ _ _ _ _ _=>False
noncomputable abbrev E0:XK:=λ_ _ _=>False
theorem gj {X:Cx}:kJ GP X E0:=λ_ _ _ _ _ _ _ h=>h.elim
structure Vd (K:Fr) (x qual:Str) (st:Stmt) (f:Addr) (fd:FuncData):Prop where
 ex:∃(oc:Value) (od:Option Addr) (kV doc pm:Value) (an:Option Addr) (cdv ct:Value) (osl:Array (Option Value)),
  fd=PySem.W.fnOf x qual (jo st) (gA st) (aR st) .none kV doc pm an cdv ct/\K.lookup f=some ⟨oc,od,.func fd,osl⟩/\PySem.W.codeIn K cdv qual=true
 kp:PySem.W.keepIn K (.ref f)=true
section
variable {P:Program} {w:World} {K:Fr} {mg:Str->Option Value} {base:Heap}
theorem Vd.ok {x qual:Str} {st:Stmt} {f:Addr} {fd:FuncData} {N ps:List Str} {k:Nat} {sp:Sp} (F:Vd K x qual st f fd) (S:fY N ps (aR st)) (len:∀vs H Q E,sp vs H Q E->vs.length=ps.length)
  (hbody:∀(cdv:Value) (A:Around) (outer:List Env) (s:Shared) (H:Hp) (vs:List V) (Q:VK) (E:XK),gZ k (A.deeper (envOfC qual (aR st) s.heap.objs.size f cdv))->sp vs H Q E->
   ∃t,LR (oK GP P w K mg base N qual (aR st) f cdv A outer s H E).nox (gA st) t/\t { nx:=λ_ H'=>Q .non H',rt:=Q } (start N vs) H):dR P w K mg base GP (k+1) f fd ps sp:=by
 obtain⟨oc,od,kV,doc,pm,an,cdv,ct,osl,rfl,lk,hcd⟩:=F.ex;refine Rm lk hcd S len λA outer s H vs Q E hr hsp=>?_;obtain⟨t,h,q⟩:=hbody cdv A outer s H vs Q E hr hsp;exact⟨t,h.nox,q⟩
theorem Vd.binds {x qual:Str} {st:Stmt} {f:Addr} {fd:FuncData} {ps:List Str} (F:Vd K x qual st f fd)
  (h:∀(kV doc pm:Value) (an:Option Addr) (cdv ct:Value) (us:List Value),us.length=ps.length->bindArgs (PySem.W.fnOf x qual (jo st) (gA st) (aR st) .none kV doc pm an cdv ct) ⟨us,[]⟩=pure (ps.zip us)):Binds K fd ps []:=by
 obtain⟨oc,od,kV,doc,pm,an,cdv,ct,osl,rfl,lk,hcd⟩:=F.ex;exact .all (h kV doc pm an cdv ct)
theorem Xw {x qual:Str} {st:Stmt} {f:Addr} {oc:Value} {od an:Option Addr} {osl:Array (Option Value)} {kV doc pm cdv ct:Value} (l:K.lookup f=some ⟨oc,od,.func (PySem.W.fnOf x qual (jo st) (gA st) (aR st) .none kV doc pm an cdv ct),osl⟩)
  (c:PySem.W.codeIn K cdv qual=true) (k:PySem.W.keepIn K (.ref f)=true):Vd K x qual st f (PySem.W.fnOf x qual (jo st) (gA st) (aR st) .none kV doc pm an cdv ct):=⟨⟨oc,od,kV,doc,pm,an,cdv,ct,osl,rfl,l,c⟩,k⟩
end
section
variable {X:Cx}
theorem pv (i:Nat) {x:Str} {pos:Pos} (hN:X.N[i]?=some x:=by rfl) (hv:Vis X.env.scope x:=by first | exact Or.inl rfl | exact Or.inr (Or.inl rfl) | exact Or.inr (Or.inr rfl)) (hd:(x == ("__debug__" :Str))=false:=by decide)
  (hcd:(x == ("__classdict__" :Str))=false:=by decide):PE X (.Name x pos) (Qx i):=XM hN hv hd hcd
end
theorem cj {A B:Prop} (h:B):if false=true then A else B:=by rw [if_neg Bool.false_ne_true];exact h
theorem gm {A B:Prop} (h:A):if true=true then A else B:=by rw [if_pos rfl];exact h
theorem nH {c A B:Prop} [Decidable c] (h1:c->A) (h2:¬c->B):if c then A else B:=by
 by_cases h:c
 ·rw [if_pos h];exact h1 h
 ·rw [if_neg h];exact h2 h
noncomputable def aK (H H':Hp):Prop:=∀b o,H b=some o->H' b=some o
theorem aK.refl (H:Hp):aK H H:=λ_ _ h=>h
theorem aK.trans {H H1 H2:Hp} (a:aK H H1) (b:aK H1 H2):aK H H2:=λc o h=>b c o (a c o h)
theorem aK.free {H H':Hp} (e:aK H H') {l:Addr} (h:H' l=Option.none):H l=Option.none:=by
 cases q:H l with
 | none=>rfl
 | some o=>
  rw [e l o q] at h;cases h
theorem aK.seq {K:Fr} {H H':Hp} {a:Addr} {xs:List V} (e:aK H H') (h:bK K H a xs):bK K H' a xs:=by
 rcases h with (h | ⟨o,h⟩) | h
 ·exact .inl (.inl (e _ _ h))
 ·exact .inl (.inr ⟨o,e _ _ h⟩)
 ·exact .inr h
end L2
set_option maxHeartbeats 4000000
namespace L2
open PySem PySem.Spec PyProof.Rows
theorem Io {P:Program} {w:World} {H:Hp} {h:Heap} {a:Addr} {o:HO} (x:vU P w H h) (hn:H a=none) (new:dD P w (upd H a o) h a o):vU P w (upd H a o) h:=λb u e=>by
 by_cases hb:b=a
 ·subst hb;rw [aq] at e;cases e;exact new
 ·rw [aG hb] at e;exact(x b u e).stay (λc v _ q=>q) (λc q=>by rw [aG (aC q hn)];exact q) λc xs q=>by rw [aG (aC q hn)];exact q
theorem Gi {α β:Type} {f:α->β->Sem (ForInStep β)} (g:α->β->β):∀(l:List α) (c:β),(∀x∈l,∀c,f x c=pure (.yield (g x c)))->forIn l c f=pure (l.foldl (λc x=>g x c) c)
 | [],_,_=>rfl
 | x:: l,c,h=>by rw [List.forIn_cons,h x mem_cons_self,pure_bind];exact Gi g l (g x c) λy hy=>h y (mem_cons_of_mem _ hy)
noncomputable def xT (env:Env) (x:Str×NameKind) (cs:List (Str×Addr)):List (Str×Addr):=
 if x.2=.free then(match env.cells.lookup x.1 with | some c=>(x.1,c):: cs | none=>cs) else cs
noncomputable def clos (env:Env) (l:List (Str×NameKind)) (c:List (Str×Addr)):List (Str×Addr):=l.foldl (λc x=>xT env x c) c
theorem lW {env:Env} {scope:Scope} (h:∀y∈scope.names,y.2=.free->∃c,env.cells.lookup y.1=some c):closureFor scope env=pure (clos env scope.names []):=by
 simp only [closureFor];rw [Gi (xT env) scope.names [] λx hx c=>?_]
 ·rfl
 ·obtain⟨n,k⟩:=x;by_cases hk:k=.free
  ·subst hk;obtain⟨a,ha⟩:=h _ hx rfl;have ha':env.cells.lookup n=some a:=ha;simp [cellOf,ha',xT]
  ·have:(k == NameKind.free)=false:=by simpa using hk
   simp [this,xT,hk]
theorem Ku {env:Env}:∀(l:List (Str×NameKind)) (c:List (Str×Addr)),(∀y a,c.lookup y=some a->env.cells.lookup y=some a)->∀y a,(clos env l c).lookup y=some a->env.cells.lookup y=some a
 | [],_,h=>h
 | x:: l,c,h=>by
  refine Ku l (xT env x c) λy a e=>?_;unfold xT at e;by_cases hk:x.2=.free
  ·rw [if_pos hk] at e;cases q:env.cells.lookup x.1 with
   | none=>rw [q] at e;exact h y a e
   | some b=>
    rw [q] at e;by_cases hy:(y == x.1)=true
    ·have:y=x.1:=by simpa using hy
     subst this;have e':((x.1,b):: c).lookup x.1=some a:=e;simp [lookup_cons] at e';rw [q,e']
    ·have hy':(y == x.1)=false:=by simpa using hy
     have e':((x.1,b):: c).lookup y=some a:=e;rw [lookup_cons,hy'] at e';exact h y a e'
  ·rw [if_neg hk] at e;exact h y a e
theorem DG {env:Env}:∀(l:List (Str×NameKind)) (c:List (Str×Addr)) (y:Str),((∃a,c.lookup y=some a)∨∃k∈l,k.1=y/\k.2=.free/\∃a,env.cells.lookup y=some a)->∃a,(clos env l c).lookup y=some a
 | [],_,_,h=>by
  rcases h with h | ⟨k,hk,_⟩
  ·exact h
  ·cases hk
 | x:: l,c,y,h=>by
  refine DG l (xT env x c) y ?_;have up:(∃a,c.lookup y=some a)->∃a,(xT env x c).lookup y=some a:=λ⟨a,e⟩=>by
   unfold xT;split
   ·split
    ·rename_i b q;by_cases hy:(y == x.1)=true
     ·exact⟨b,by rw [lookup_cons,hy]⟩
     ·have hy':(y == x.1)=false:=by simpa using hy
      exact⟨a,by rw [lookup_cons,hy'];exact e⟩
    ·exact⟨a,e⟩
   ·exact⟨a,e⟩
  rcases h with h | ⟨k,hk,h1,h2,a,h3⟩
  ·exact .inl (up h)
  ·rcases mem_cons.mp hk with e | hk
   ·subst e;left
    unfold xT;rw [if_pos h2,h1,h3];exact⟨a,by simp [lookup_cons]⟩
   ·exact .inr ⟨k,hk,h1,h2,a,h3⟩
theorem vh (scope:Scope) (env:Env) (y:Str):(relabel scope env).names.lookup y=(scope.names.lookup y).map λk=>if (k == NameKind.free && env.scope.kind == .function && env.kindOf y == some .cell)=true then .cell else k:=by
 show(scope.names.map _).lookup y=_;induction scope.names with
 | nil=>rfl
 | cons p l ih=>
  obtain⟨n,k⟩:=p;rw [map_cons];show List.lookup y ((if (k == NameKind.free && env.scope.kind == .function && env.kindOf n == some .cell)=true then(n,NameKind.cell) else(n,k)):: _)=_;by_cases hy:(y == n)=true
  ·have:y=n:=by simpa using hy
   subst this;by_cases hc:(k == NameKind.free && env.scope.kind == .function && env.kindOf y == some .cell)=true
   ·rw [if_pos hc];simp only [lookup_cons,beq_self_eq_true,map_some];rw [if_pos hc]
   ·rw [if_neg hc];simp only [lookup_cons,beq_self_eq_true,map_some];rw [if_neg hc]
  ·have hy':(y == n)=false:=by simpa using hy
   by_cases hc:(k == NameKind.free && env.scope.kind == .function && env.kindOf n == some .cell)=true
   ·rw [if_pos hc];simp only [lookup_cons,hy'];exact ih
   ·rw [if_neg hc];simp only [lookup_cons,hy'];exact ih
noncomputable def dw (N:List Str) (js:List Nat):List Str:=js.map λj=>(N[j]?).getD Str.empty
noncomputable def dU (σ:St) (js:List Nat):St:=js.map λj=>(σ[j]?).join
noncomputable def Ak (X:Cx) (scope:Scope) (x:Str) (js:List Nat) (cl:List (Str×Addr)) (C:Addr) (s:Shared) (H:Hp) (ex:List Addr):Cx where
 prog:=X.prog
 w:=X.w
 K:=X.K
 mg:=X.mg
 base:=X.base
 A:=X.A
 N:=x:: dw X.N js
 s₀:=s
 H₀:=H
 env:=compEnvC scope cl C X.env
 outer:=X.stack
 stack:=X.stack
 ex:=ex
 fn:=λ_=>false
 calm:=X.calm
 pn:=[]
 xe:=λ_ _=>False
noncomputable def PF (X:Cx) (ifs:List Expr) (t:TT):Prop:=
 ∀(pins:List (Addr×Obj)) (s:Shared) (σ:St) (H:Hp) (Q:Bool->Hp->Prop),Inv X pins σ H s->t σ H Q->
  wpAny (model X.prog X.w) X.A (forIn ifs true λc r=>if r=true then do let ok <-isTrue c X.env (eval c X.env);pure (ForInStep.yield ok) else pure (ForInStep.yield r)) (TP X pins σ Q) X.xe s
noncomputable def V5:TT:=λ_ H Q=>Q true H
theorem fK {X:Cx}:PF X [] V5:=λ_ _ _ H _ I h=>wpAny_pure ⟨H,I,h⟩
theorem yg {X:Cx} {c:Expr} {t:TT} (hc:PT X c t):PF X [c] t:=by intro pins s σ H Q I h;rw [List.forIn_cons,if_pos rfl];refine wpAny_bind (wpAny_bind (dz (hc pins s σ H Q I h) λb s1 q=>wpAny_pure ?_));show wpAny (model X.prog X.w) X.A (pure b) (TP X pins σ Q) X.xe s1;exact wpAny_pure q
inductive CompEnd (js:List Nat) (tt:TT) (te:TE) (σ:St) (Qd:List V->Hp->Prop) (J:It) (H1:Hp):Prop where
 | mk:∀W:Nat->Nat->List V->Hp->Prop,((∃m,W 0 m [] H1))->(∀i m ys H2,W i m ys H2->
 (J.stop i H2/\ys.length<=sizeLine/\Qd ys H2)∨
 (J.go i H2/\ys.length <sizeLine/\∃N:List V->Hp->Prop,(∀ys' H',N ys' H'->∃m',m' <m/\W (i+1) m' ys' H')/\∀x H3,J.yld i H2 x H3->tt (some x:: dU σ js) H3 λb H4=>
  if b=true then te (some x:: dU σ js) H4 λy H5=>N (ys ++ [y]) H5 else N ys H4))->CompEnd js tt te σ Qd J H1
noncomputable def WY (js:List Nat) (wi:TI) (tt:TT) (te:TE):TE:=λσ H Q=>wi σ H (CompEnd js tt te σ λys H2=>∀D,H2 D=none->Q (.ref D) (upd H2 D (.lst ys)))
section
variable {X:Cx} {x:Str} {px pos:Pos} {iter elt:Expr} {ifs:List Expr} {scope:Scope} {wi:TI} {tt:TT} {te:TE}
end
section
variable {X:Cx}
theorem qw:wK X (binaryOp .Mult) (rI IntMulOk λi j=>.int (i * j)):=opI λ_ _ _ _ _ _ _ hc q=>mul_int q hc
noncomputable def Xr (_ j:Int):Prop:=0 <j/\j.natAbs.log2 <9000
theorem RK:wK X (binaryOp .FloorDiv) (rI Xr λi j=>.int (i / j)):=opI λi j _ _ _ _ _ hc q=>by have h1:(0:Int) <j:=hc.1;exact floordiv_int (by lia) (by rw [Int.fdiv_eq_ediv_of_nonneg i (by lia)];exact q) (.inl (PyProof.noPylong_of_log2 hc.2))
theorem Z5 {i j:Int} (h0:0 <j) (h:j.natAbs <2 ^ 9000):Xr i j:=⟨h0,(Nat.log2_lt (by lia)).mpr h⟩
noncomputable def tyN (K:Fr) (H:Hp) (x:V) (T:String):Prop:=match x with
 | .non=>T= "NoneType"
 | .bl _=>T= "bool"
 | .int _=>T= "int"
 | .str _=>T= "str"
 | .ref p=>(T= "list" /\∃xs,bK K H p xs)∨(T= "tuple" /\∃xs,gq K H p xs)∨(T= "dict" /\∃kvs,H p=some (.dK kvs))
 | _=>False
noncomputable def Jr (a b:String):Bool:=a == b || (a == "bool" && b == "int")
noncomputable def PK:List String:=["int", "bool", "str", "list", "tuple", "dict"]
noncomputable def lV:List String:=["NoneType", "bool", "int", "str", "list", "tuple", "dict"]
theorem RN:∀T∈PK,PySem.W.kitMeta T=true:=by decide +kernel
theorem Wd:∀a∈lV,∀b∈PK,(PySem.fastBuiltinMro a).map (·.contains (.type b))=some (Jr a b):=by decide +kernel
theorem VL (K:Fr) {a b:String} (ha:a∈lV) (hb:b∈PK):PySem.W.kitOne K (.type a) (.type b)=some (Jr a b):=by
 unfold PySem.W.kitOne;by_cases h:(Value.type a == Value.type b)=true
 ·rw [if_pos h];have e:a=b:=by have:=beq_iff_eq.mp h;injection this
  subst e;simp [Jr]
 ·rw [if_neg h];show(if PySem.W.kitMeta b=true then PySem.W.subIn K (.type a) (.type b) else none)=_;rw [if_pos (RN b hb)];exact Wd a ha b hb
theorem zz:lg X (.builtin "isinstance") (λxs H Q=>∃x Tx T b,xs=[x,.ty T]/\tyN X.K H x Tx/\T∈PK/\Jr Tx T=b/\Q (.bl b) H):=by
 intro pins s σ H xs us Q I r h;obtain⟨x,Tx,T,b,rfl,ty,hT,rfl,q⟩:=h;obtain⟨u,w',rfl,rx,ry⟩:=vals2 r;cases ry;have fin:∀{b:Bool},b=Jr Tx T->∀tk,EP X pins σ Q (.bool b) { s with toks:=tk }:=λe tk=>⟨.bl (Jr Tx T),H,I.tok tk,by rw [e];rfl,q⟩;have go:∀{P:Heap->Prop},PySem.W.KitX X.K u (.type Tx) P->P s.heap->Tx∈lV->u≠.builtin "__main__.__loader__#opaque" ->wpAny (model X.prog X.w) X.A (call (.builtin "isinstance") [u,.type T]) (EP X pins σ Q) X.xe s:=λY1 p hm hx=>
  PySem.W.kia_one Y1 I.kIn p (VL X.K hm hT) hx λtk=>fin rfl tk
 cases x with
 | non=>cases rx;cases (show Tx= "NoneType" from ty);exact go PySem.W.kitx_none trivial (by decide) (by intro e;cases e)
 | bl b=>cases rx;cases (show Tx= "bool" from ty);exact go PySem.W.kitx_bool trivial (by decide) (by intro e;cases e)
 | int i=>obtain⟨t,rfl⟩:=rx;cases (show Tx= "int" from ty);exact go PySem.W.kitx_int trivial (by decide) (by intro e;cases e)
 | str z=>obtain⟨t,rfl⟩:=rx;cases (show Tx= "str" from ty);exact go PySem.W.kitx_str trivial (by decide) (by intro e;cases e)
 | ref p=>
  cases rx;rcases ty with ⟨rfl,ys,hq⟩ | ⟨rfl,ys,hq⟩ | ⟨rfl,kvs,hq⟩
  ·obtain⟨its,_,pl,_⟩:=I.list hq;obtain⟨o,n,e,c,_,_⟩:=pl;exact go PySem.W.kitx_list ⟨o,e,c⟩ (by decide) (by intro e;cases e)
  ·obtain⟨its,_,⟨o,e,c,_⟩,_⟩:=I.tuple hq;exact go PySem.W.kitx_tuple ⟨o,e,c⟩ (by decide) (by intro e;cases e)
  ·obtain⟨_,_,_,_,o,_,_,e,ex,_⟩:=I.hok p _ hq;exact go PySem.W.kitx_dict ⟨o,e,ex.1⟩ (by decide) (by intro e;cases e)
 | _=>exact(show False from ty).elim
inductive Vb (K:Fr) (x:V) (xs:List V) (H:Hp) (Q:VK):Prop where
 | mk:∀z p ys,x=.str z->xs=[.ref p]->bK K H p (ys.map V.str)->(ys.map (·.length)).sum+ys.length * z.length<=16777216->Q (.str (Txt.join z ys)) H->Vb K x xs H Q
noncomputable def rJoin (K:Fr):V->List V->Hp->VK->Prop:=λx xs H Q=>Vb K x xs H Q
theorem Dm:∀{ys:List Str} {us:List Value},Vals (ys.map V.str) us->StrsAre us ys
 | [],us,r=>by rw [map_nil] at r;cases r;exact .nil
 | y:: ys,us,r=>by
  rw [map_cons] at r;cases r with
  | cons r1 r2=>
   obtain⟨t,e⟩:=r1;subst e;exact .cons y t (Dm r2)
theorem V3:MtR X "str.join" (rJoin X.K):=by intro pins s σ H x xs v us Q I rx rs h;obtain⟨z,p,ys,rfl,rfl,hq,hz,q⟩:=h;obtain⟨t,rfl⟩:=rx;obtain⟨u,rfl,ru⟩:=vals1 rs;cases ru;obtain⟨its,rv,pl,_⟩:=I.list hq;exact join_list (items:=its.toArray) pl.isList (by simpa using Dm rv) hz λt' k=>⟨.str (Txt.join z ys),H,I.tok k,⟨_,Z⟩,q⟩
end
theorem X4:bootBuiltins "int" =some (.type "int"):=by decide +kernel
theorem Wf:bootBuiltins "bool" =some (.type "bool"):=by decide +kernel
theorem Tt:bootBuiltins "str" =some (.type "str"):=by decide +kernel
theorem qO:bootBuiltins "list" =some (.type "list"):=by decide +kernel
theorem zH:bootBuiltins "tuple" =some (.type "tuple"):=by decide +kernel
theorem dJ:bootBuiltins "len" =some (.builtin "len"):=by decide +kernel
theorem iC:bootBuiltins "isinstance" =some (.builtin "isinstance"):=by decide +kernel
theorem YF:bootBuiltins "min" =some (.builtin "min"):=by decide +kernel
theorem Nj:bootBuiltins "max" =some (.builtin "max"):=by decide +kernel
theorem J0:bootBuiltins "all" =some (.builtin "all"):=by decide +kernel
section
variable {X:Cx} {pos:Pos}
theorem jB {x:Str} {v:V} (hg:Gl X x) (hm:∃u,X.mg x=some u/\RelV v u) (hd:(x == ("__debug__" :Str))=false:=by decide):PE X (.Name x pos) (tC v):=by obtain⟨u,h1,h2⟩:=hm;exact Dl hg h1 h2 hd
theorem zu {x:Str} {T:String} (hg:Gl X x) (hm:X.mg x=none) (hv:bootBuiltins x=some (.type T)) (hn:x≠ "__name__" :=by decide) (hd:(x == ("__debug__" :Str))=false:=by decide):PE X (.Name x pos) (tC (.ty T)):=
 V9 hg hm hv rfl hn hd
end
theorem qP {a b:Int} (h: -(2 ^ 64) <a/\a <2 ^ 64:=by decide):IntMulOk a b:=.of_left (intBits_le_64 h.1 h.2)
theorem Jy {a b:Int} (h: -(2 ^ 64) <b/\b <2 ^ 64:=by decide):IntMulOk a b:=.of_right (intBits_le_64 h.1 h.2)
inductive RT (t:TS) (D:Ends) (σ:St) (H:Hp):Prop where
 | mk:∀J:St->Hp->Prop,t { D with nx:=J } σ H->(∀σ' H',J σ' H'->D.nx σ' H')->RT t D σ H
noncomputable def ZW (t:TS):TS:=λD σ H=>RT t D σ H
theorem dM {X:Cx} {st:Stmt} {t:TS} (h:PS X st t):PS X st (ZW t):=by
 intro pins s σ H D I hw;obtain⟨J,h1,h2⟩:=hw;refine dz (h pins s σ H { D with nx:=J } I h1) λf s1 q=>?_;cases f with
 | next=>obtain⟨σ',H',I',q⟩:=q;exact⟨σ',H',I',h2 _ _ q⟩
 | ret v=>exact q
 | brk=>exact q
 | cont=>exact q
theorem dN {c A B:Prop} [Decidable c] (hc:¬c) (h:B):if decide c=true then A else B:=by rw [decide_eq_false hc];exact cj h
theorem yw {c A B:Prop} [Decidable c] (hc:c) (h:A):if decide c=true then A else B:=by rw [decide_eq_true hc];exact gm h
mutual
inductive Dt (K:Fr) (H:Hp):V->PyData->Prop
 | non:Dt K H .non .none
 | bl (b:Bool):Dt K H (.bl b) (.bool b)
 | int (i:Int):Dt K H (.int i) (.int i)
 | str (x:Str):Dt K H (.str x) (.str x)
 | list {p:Addr} {xs:List V} {ds:List PyData}:bK K H p xs->Bs K H xs ds->Dt K H (.ref p) (.list ds)
 | tuple {p:Addr} {xs:List V} {ds:List PyData}:gq K H p xs->Bs K H xs ds->Dt K H (.ref p) (.tuple ds)
inductive Bs (K:Fr) (H:Hp):List V->List PyData->Prop
 | nil:Bs K H [] []
 | cons {x:V} {xs:List V} {d:PyData} {ds:List PyData}:Dt K H x d->Bs K H xs ds->Bs K H (x:: xs) (d:: ds)
end
section
variable {X:Cx} {pins:List (Addr×Obj)} {σ:St} {H:Hp} {s:Shared}
mutual
theorem Dt.reads (I:Inv X pins σ H s):∀{x:V} {d:PyData},Dt X.K H x d->∀{u:Value},RelV x u->∃as,Reads s.heap u d as
 | _,_,.non,_,r=>by cases r;exact⟨_,.none⟩
 | _,_,.bl b,_,r=>by cases r;exact⟨_,.bool b⟩
 | _,_,.int i,_,r=>by obtain⟨t,rfl⟩:=r;exact⟨_,.int i t⟩
 | _,_,.str x,_,r=>by obtain⟨t,rfl⟩:=r;exact⟨_,.str x t⟩
 | _,_,.list hq hd,_,r=>by cases r;obtain⟨its,rv,⟨o,n,e,c,_,d⟩,_⟩:=I.list hq;obtain⟨as,q⟩:=Bs.reads I hd rv;exact⟨_,.list e c d (by simpa using q)⟩
 | _,_,.tuple hq hd,_,r=>by cases r;obtain⟨its,rv,⟨o,e,c,n,d⟩,_⟩:=I.tuple hq;obtain⟨as,q⟩:=Bs.reads I hd rv;exact⟨_,.tuple e c d (by simpa using q)⟩
theorem Bs.reads (I:Inv X pins σ H s):∀{xs:List V} {ds:List PyData},Bs X.K H xs ds->∀{us:List Value},Vals xs us->∃as,ReadsAll s.heap us ds as
 | _,_,.nil,_,r=>by cases r;exact⟨_,.nil⟩
 | _,_,.cons h t,_,r=>by
  cases r with
  | cons r1 r2=>
   obtain⟨as,q⟩:=Dt.reads I h r1;obtain⟨bs,q'⟩:=Bs.reads I t r2;exact⟨_,.cons q q'⟩
end
inductive Xm (K:Fr) (x:V) (y:V) (H:Hp) (Q:VK):Prop where
 | mk:∀da db,Dt K H x da->Dt K H y db->SeqAt.shaped da=true->SeqAt.shaped db=true->Q (.bl (PyData.eqv da db)) H->Xm K x y H Q
noncomputable def aaH (K:Fr):R2:=λx y H Q=>Xm K x y H Q
inductive WQ (K:Fr) (x:V) (y:V) (H:Hp) (Q:VK):Prop where
 | mk:∀da db,Dt K H x da->Dt K H y db->SeqAt.shaped da=true->SeqAt.shaped db=true->Q (.bl (!PyData.eqv da db)) H->WQ K x y H Q
noncomputable def aaE (K:Fr):R2:=λx y H Q=>WQ K x y H Q
theorem Yt (hu:X.A.units+64 <cLine):wK X (compareOp .Eq) (aaH X.K):=by intro pins s σ H x y v u Q I rx ry h;obtain⟨da,db,h1,h2,s1,s2,q⟩:=h;obtain⟨as,r1⟩:=h1.reads I rx;obtain⟨bs,r2⟩:=h2.reads I ry;exact eq_dataH r1 r2 s1 s2 hu (cP I q Z)
theorem Es (hu:X.A.units+64 <cLine):wK X (compareOp .NotEq) (aaE X.K):=by intro pins s σ H x y v u Q I rx ry h;obtain⟨da,db,h1,h2,s1,s2,q⟩:=h;obtain⟨as,r1⟩:=h1.reads I rx;obtain⟨bs,r2⟩:=h2.reads I ry;exact ne_dataH r1 r2 s1 s2 hu (cP I q Z)
end
noncomputable def Its (x:Str):It:=⟨λi _=>i <x.cps.size,λi H v H'=>H'=H/\∃c,x.cps[i]?=some c/\v=.str ⟨#[c]⟩,λi _=>x.cps.size<=i⟩
theorem Mg {P:Program} {w:World} {K:Fr} {tg:Expr} (it:Addr) (x:Str) (t:Tok) {ty:String} (hty:ty= "str_ascii_iterator" ∨ty= "str_iterator"):Turn P w K tg (Its x) [it] it (λi h=>h.IsStrIter it ty x t i) where
 mem:=by simp
 obj:=λi h st b hb=>by
  have e:b=it:=by simpa using hb
  subst e;obtain⟨o,e,c,d⟩:=st;exact⟨o,e,λv z=>by rw [d] at z;cases z⟩
 keep:=λi h h' st k=>by obtain⟨o,e,r⟩:=st;exact⟨o,k it (by simp) o e,r⟩
 item:=by
  intro X hP hw hK hc i pins s σ H E I hf st hg;subst hP hw hK;obtain⟨f0,f1,f2,f3,f4,f5⟩:=hf it (by simp);have fin:∀(v:Value) (h':Heap) (tk:Nat),SignAt x i v->h'.IsStrIter it ty x t (i+1)->(∀b o,b∉[it]->s.heap.get? b=some o->h'.get? b=some o)->
    ∃u,some v=some u/\wpAny (model X.prog X.w) X.A (letOwnedTupleGo tg (.ref it) u) (λ_ s2=>∃x' H',Inv X pins σ H' s2/\RelV x' u/\(Its x).yld i H x' H'/\s2.heap.IsStrIter it ty x t (i+1)/\∀b∈[it],H' b=none) E { s with heap:=h',toks:=tk }:=by
   intro v h' tk hv st' kk;obtain⟨c,u,hcc,rfl⟩:=hv;have I1:Inv X pins σ H { s with heap:=h',toks:=tk }:=I.turned (λb o hb e=>kk b o (by simpa using hb) e) f0 f1 f3 f4 f5;obtain⟨o,e,c',d⟩:=id st';refine⟨_,rfl,LK (s:={ s with heap:=h',toks:=tk }) (n:=ty) e c' d (by rcases hty with rfl | rfl <;> decide) ⟨.str ⟨#[c]⟩,H,I1,⟨u,rfl⟩,⟨rfl,c,hcc,rfl⟩,st',λb hb=>(hf b hb).1⟩⟩
  rcases hty with rfl | rfl
  ·exact(Walks.strAscii (prog:=X.prog) (w:=X.w) (I.ok.hd hc) it x t).item i s _ _ hg st λv h' tk hv st' kk=>fin v h' tk hv st' kk
  ·exact(Walks.strWide (prog:=X.prog) (w:=X.w) (I.ok.hd hc) it x t).item i s _ _ hg st λv h' tk hv st' kk=>fin v h' tk hv st' kk
 done:=by
  intro X hP hw hK hc i pins s σ H E I hf st hg;subst hP hw hK;obtain⟨f0,f1,f2,f3,f4,f5⟩:=hf it (by simp);have hx:x.cps[i]?=none:=by have hg':x.cps.size<=i:=hg;simp;lia
  rcases hty with rfl | rfl
  ·exact wpAny_pyNext_ascii_end (I.ok.hd hc) st hx λh' eb=>⟨Z,I.turned (t':=s.toks) (λb o hb e=>eb b o hb e) f0 f1 f3 f4 f5⟩
  ·exact wpAny_pyNext_wide_end (I.ok.hd hc) st hx λh' eb=>⟨Z,I.turned (t':=s.toks) (λb o hb e=>eb b o hb e) f0 f1 f3 f4 f5⟩
 self:=λ_ _ _ _ _ st h=>by
  rcases hty with rfl | rfl
  ·exact wpAny_pyIter_striter_ascii st h
  ·exact wpAny_pyIter_striter_wide st h
section
variable {X:Cx} {tg:Expr}
inductive Xv (R:It->Hp->Prop) (x:V) (H1:Hp):Prop where
 | mk:∀z,x=.str z->R (Its z) H1->Xv R x H1
noncomputable def aaW (tl:TE):TI:=λσ H R=>tl σ H λx H1=>Xv R x H1
theorem XH {l:Expr} {tl:TE} (hl:PE X l tl):PI X tg l (aaW tl):=by
 intro pins s σ H R I h;refine dz (hl pins s σ H _ I h) λv s1 hpt=>?_;obtain⟨x,H1,I1,r1,q1⟩:=hpt;obtain⟨z,e,q⟩:=q1;subst e;obtain⟨t,rfl⟩:=r1;cases ha:z.cps.all (· <128)
 ·refine wpAny_pyIter_wide ha ?_;refine⟨s1.heap.objs.size,[s1.heap.objs.size],_,_,H1,Z,I1.kept (t':=s1.toks) λb o e=>Heap.get?_push_of_some _ e,Mg _ z t (ty:= "str_iterator") (.inr Z),⟨_,Heap.get?_push_size _ Z,Z,Z⟩,λb hb=>?_,q⟩;have e:b=s1.heap.objs.size:=by simpa using hb
  subst e;exact I1.fpOk (le_refl _) (I1.hok.fresh (le_refl _))
 ·refine wpAny_pyIter_ascii ha ?_;refine⟨s1.heap.objs.size,[s1.heap.objs.size],_,_,H1,Z,I1.kept (t':=s1.toks) λb o e=>Heap.get?_push_of_some _ e,Mg _ z t (ty:= "str_ascii_iterator") (.inl Z),⟨_,Heap.get?_push_size _ Z,Z,Z⟩,λb hb=>?_,q⟩;have e:b=s1.heap.objs.size:=by simpa using hb
  subst e;exact I1.fpOk (le_refl _) (I1.hok.fresh (le_refl _))
end
theorem yes {A B:Hp->Prop} {σ:St} {H:Hp} (h:A H):V5 σ H (λb H4=>if b=true then A H4 else B H4):=by show if true=true then A H else B H;exact gm h
section
variable {js:List Nat} {tt:TT} {te:TE} {σ:St} {Qd:List V->Hp->Prop}
theorem pF {lo:Int} {n:Nat} {H:Hp} (Pv:Nat->List V->Hp->Prop) (hn:n<=sizeLine) (h0:Pv 0 [] H) (hl:∀i ys H,Pv i ys H->ys.length<=i)
  (hs:∀i ys H,i <n->Pv i ys H->tt (some (.int (lo+i)):: dU σ js) H λb H4=>if b=true then te (some (.int (lo+i)):: dU σ js) H4 λy H5=>Pv (i+1) (ys ++ [y]) H5 else Pv (i+1) ys H4)
  (hd:∀ys H,Pv n ys H->Qd ys H):CompEnd js tt te σ Qd (YC lo n) H:=by
 refine⟨λi m ys H=>m=n - i/\i<=n/\Pv i ys H,⟨n,by simp,zero_le _,h0⟩,?_⟩;rintro i m ys H ⟨rfl,hi,p⟩;have hlen:=hl i ys H p;by_cases hlt:i <n
 ·refine .inr ⟨hlt,by lia,Pv (i+1),λys' H' p'=>⟨n - (i+1),by lia,Z,hlt,p'⟩,λx H' y=>?_⟩;obtain⟨e,y⟩:=y;subst e y;exact hs i ys _ hlt p
 ·have e:i=n:=by lia
  subst e;exact .inl ⟨le_refl _,by lia,hd ys H p⟩
theorem fu {K:Fr} {a:Addr} {xs:List V} {H:Hp} (Pv:Nat->List V->Hp->Prop) (hn:xs.length<=sizeLine) (h0:Pv 0 [] H) (hl:∀i ys H,Pv i ys H->ys.length<=i) (hq:∀i ys H,i<=xs.length->Pv i ys H->bK K H a xs)
  (hs:∀i x ys H,xs[i]?=some x->Pv i ys H->tt (some x:: dU σ js) H λb H4=>if b=true then te (some x:: dU σ js) H4 λy H5=>Pv (i+1) (ys ++ [y]) H5 else Pv (i+1) ys H4)
  (hd:∀ys H,Pv xs.length ys H->Qd ys H):CompEnd js tt te σ Qd (Ve K a) H:=by
 refine⟨λi m ys H=>m=xs.length - i/\i<=xs.length/\Pv i ys H,⟨xs.length,by simp,zero_le _,h0⟩,?_⟩;rintro i m ys H ⟨rfl,hi,p⟩;have hlen:=hl i ys H p;have q:=hq i ys H hi p;by_cases hlt:i <xs.length
 ·refine .inr ⟨⟨xs,xs[i],q,by simp [hlt]⟩,by lia,Pv (i+1),λys' H' p'=>⟨xs.length - (i+1),by lia,Z,hlt,p'⟩,λx H' y=>?_⟩;obtain⟨e,y⟩:=y;subst e;exact hs i x ys _ (y xs q) p
 ·have e:i=xs.length:=by lia
  subst e;exact .inl ⟨⟨xs,q,le_refl _⟩,by lia,hd ys H p⟩
theorem RQ {z:Str} {H:Hp} (Pv:Nat->List V->Hp->Prop) (hn:z.cps.size<=sizeLine) (h0:Pv 0 [] H) (hl:∀i ys H,Pv i ys H->ys.length<=i)
  (hs:∀i c ys H,z.cps[i]?=some c->Pv i ys H->tt (some (.str ⟨#[c]⟩):: dU σ js) H λb H4=>if b=true then te (some (.str ⟨#[c]⟩):: dU σ js) H4 λy H5=>Pv (i+1) (ys ++ [y]) H5 else Pv (i+1) ys H4)
  (hd:∀ys H,Pv z.cps.size ys H->Qd ys H):CompEnd js tt te σ Qd (Its z) H:=by
 refine⟨λi m ys H=>m=z.cps.size - i/\i<=z.cps.size/\Pv i ys H,⟨z.cps.size,by simp,zero_le _,h0⟩,?_⟩;rintro i m ys H ⟨rfl,hi,p⟩;have hlen:=hl i ys H p;by_cases hlt:i <z.cps.size
 ·refine .inr ⟨hlt,by lia,Pv (i+1),λys' H' p'=>⟨z.cps.size - (i+1),by lia,Z,hlt,p'⟩,λx H' y=>?_⟩;obtain⟨e,c,hc,y⟩:=y;subst e y;exact hs i c ys _ hc p
 ·have e:i=z.cps.size:=by lia
  subst e;exact .inl ⟨le_refl _,by lia,hd ys H p⟩
end
section
variable {X:Cx}
inductive Xf (x:V) (lo:Option Int) (hi:Option Int) (H:Hp) (Q:VK):Prop where
 | mk:∀z,x=.str z->z.length<=sizeLine->Q (.str (Txt.slice z lo hi)) H->Xf x lo hi H Q
noncomputable def aba:V->Option Int->Option Int->Hp->VK->Prop:=λx lo hi H Q=>Xf x lo hi H Q
theorem Ug:SlR X aba:=by
 intro pins s σ H x v vl vu lo hi sl Q I rx hs pl pu h;obtain⟨z,rfl,hz,q⟩:=h;obtain⟨t,rfl⟩:=rx;refine⟨"str",_,PySem.F.slot_str_getitem.lookup,typeIs_str _ _ _,?_⟩;have fin:∀t' k,EP X pins σ Q (.str (Txt.slice z lo hi) t') { s with toks:=k }:=λt' k=>⟨.str _,H,I.tok k,⟨_,rfl⟩,q⟩;cases pl with
 | none=>
  cases pu with
  | none=>exact wpAny_getItem_str_slice (l:=none) (u:=none) (st:=none) hs rfl (post_val_or_str ⟨le_trans (Txt.slice_le z _ _) hz,fin⟩)
  | int j tj=>exact wpAny_getItem_str_slice (l:=none) (u:=some (j,tj)) (st:=none) hs rfl (post_val_or_str ⟨le_trans (Txt.slice_le z _ _) hz,fin⟩)
 | int i ti=>
  cases pu with
  | none=>exact wpAny_getItem_str_slice (l:=some (i,ti)) (u:=none) (st:=none) hs rfl (post_val_or_str ⟨le_trans (Txt.slice_le z _ _) hz,fin⟩)
  | int j tj=>exact wpAny_getItem_str_slice (l:=some (i,ti)) (u:=some (j,tj)) (st:=none) hs rfl (post_val_or_str ⟨le_trans (Txt.slice_le z _ _) hz,fin⟩)
theorem zU (hc:X.calm=true):lg X (.builtin "all") (λxs H Q=>∃(p:Addr) (bs:List Bool),xs=[.ref p]/\bK X.K H p (bs.map V.bl)/\Q (.bl (bs.all id)) H):=by
 intro pins s σ H xs us Q I r h;obtain⟨p,bs,rfl,hq,q⟩:=h;obtain⟨u,rfl,rx⟩:=vals1 r;cases rx;obtain⟨its,rv,pl,_⟩:=I.list hq;have hl:=pl.isList;have hlt:p <s.heap.objs.size:=by obtain⟨_,e,_⟩:=hl;exact Heap.lt_size e
 have hb:∀i v,its[i]?=some v->∃b,bs[i]?=some b/\v=Value.bool b:=λi v e=>by
  have hi:i <its.length:=(List.getElem?_eq_some_iff.mp e).1;have hi':i <bs.length:=by have:=rv.length;rw [length_map] at this;lia
  obtain⟨u,e',r'⟩:=rv.get (i:=i) (x:=.bl bs[i]) (by rw [getElem?_map,getElem?_eq_getElem hi'];rfl);rw [e] at e';cases e';exact⟨bs[i],getElem?_eq_getElem hi',r'⟩
 refine call_all_walk (wpAny_pyIter_list hl ?_);refine⟨s.heap.objs.size,[s.heap.objs.size,p],[s.heap.objs.size],its.toArray.size,_,_,λi=>(bs[i]?).getD true,Z,Walks.list (A:=X.A.in1) (I.ok.hd hc) _ p (ne_of_lt hlt) its.toArray,
  ⟨⟨_,Heap.get?_push_size _ rfl,rfl,rfl⟩,hl.push _⟩,λi v s' Q' E' hP hQ=>?_,λh' tk hk=>?_⟩
 ·obtain⟨b,e,rfl⟩:=hb i v (by simpa using hP);simp only [e,getD_some] at hQ;exact wpAny_truthy_bool hQ
 ·have e:((List.range its.toArray.size).all λi=>(bs[i]?).getD true)=bs.all id:=by have hlen:=rv.length;rw [length_map] at hlen;rw [size_toArray,<-hlen];exact LSm.range_all bs
  rw [e];exact⟨.bl _,H,I.kept (LSm.kept_iter hk),Z,q⟩
end
end L2
namespace L2
open PySem PySem.StrLaws PySem.Builtin PySem.Builtin.Str
end L2
namespace L2
open PySem
theorem aB {H:L2.Hp} {p:Addr} {o:L2.HO} (hp:H p=none):L2.aK H (L2.upd H p o):=λb o' e=>by rw [L2.aG (L2.aC e hp)];exact e
end L2
namespace L2
open PySem PySem.SeqAt
open AutoSeq1 (wpAny_loadPart')
open MeetsSeq MeetsSeq2 MeetsSeq3 SeqRoads2
section
variable {A:Around} {s:Shared}
end
open PySem.Spec PyProof.Rows
end L2
namespace L2
open PySem PySem.Spec PyProof.Rows
structure MethAt (P:Program) (w:World) (K:Fr) (mg:Str->Option Value) (base:Heap) (CX:CZ) (k:Nat) (C:Addr) (m:Str) (sp:Sp):Prop where
 ex:∃(f:Addr) (fd:FuncData) (ps:List Str),Pg K C/\Meth K C m f/\Binds K fd ps []/\dR P w K mg base CX k f fd ps sp
inductive Pu (P:Program) (w:World) (K:Fr) (mg:Str->Option Value) (base:Heap) (CX:CZ) (k:Nat) (m:Str) (E:XK) (t:TA) (σ:St) (Q:VK) (x:V) (H1:Hp):Prop where
 | mk:∀a C dx fs sp,x=.ref a->H1 a=some (.ins C dx fs)->fs.lookup m=none->MethAt P w K mg base CX k C m sp->(t σ H1 λvs H2=>sp (x:: vs) H2 Q E)->Pu P w K mg base CX k m E t σ Q x H1
noncomputable def Nr (P:Program) (w:World) (K:Fr) (mg:Str->Option Value) (base:Heap) (CX:CZ) (k:Nat) (m:Str) (E:XK) (ta:TE) (t:TA):TE:=λσ H Q=>ta σ H λx H1=>Pu P w K mg base CX k m E t σ Q x H1
section
variable {X:Cx} {CX:CZ} {k:Nat} {E:XK} {m:Str} {pos apos:Pos} {e o:Expr} {es:List Expr} {ta:TE} {t:TA}
theorem zO {pl:Sem Bool} (he:PE X o ta) (hr:gZ k X.A) (hx:kJ CX X E) (ha:PA X (e:: es) t)
  (hst:starEach (e:: es) X.env=(false,eval e X.env):: starEach es X.env:=by rfl) (hpl:(backTo pos (starEach es X.env)).any (·.1)=false:=by rfl)
  (ht:eval (.Call (.Attribute o m apos) (e:: es) [] pos) X.env=(do
   let ov <-eval o X.env
   standAt apos.atName
   let (f,first) <-holding [ov] (getMethod ov m pl)
   callWith pos f first (backTo pos (starEach (e:: es) X.env)) (backToKw pos (keywordEach [] X.env))):=by rfl):
  PE X (.Call (.Attribute o m apos) (e:: es) [] pos) (Nr X.prog X.w X.K X.mg X.base CX k m E ta t):=by
 intro pins s σ H Q I h;refine PySem.W.methodCall_KW (pl:=pl) (dz (he pins s σ H _ I h) λu s1 hpt=>?_) ht;obtain⟨x,H1,I1,rx,a,C,dx,fs,sp,ex,ea,l,⟨f,fd,ps,c,hm,hb,F⟩,q⟩:=hpt;subst ex;obtain rfl:u=Value.ref a:=rx;refine pU I1 ea c hm l ?_;refine PySem.W.callWith_K (first:=[.ref a]) (h₀:=X.base) I.ok.mod.kin hm.kp (dz (ha pos pins s1 σ H1 _ I1 q) λus s2 ⟨vs,H2,I2,r,q2⟩=>⟨I2.kIn,?_⟩) hst hpl;exact Fw (us:=.ref a:: us) (vs:=.ref a:: vs) (ds:=[]) (dvs:=[]) F hr hb .nil hx I2 (.cons Z r) (by rw [append_nil];exact q2)
theorem Ih {pl:Sem Bool} (he:PE X o ta) (hr:gZ k X.A) (hx:kJ CX X E)
  (ht:eval (.Call (.Attribute o m apos) [] [] pos) X.env=(do
   let ov <-eval o X.env
   standAt apos.atName
   let (f,first) <-holding [ov] (getMethod ov m pl)
   callWith pos f first (backTo pos (starEach [] X.env)) (backToKw pos (keywordEach [] X.env))):=by rfl):
  PE X (.Call (.Attribute o m apos) [] [] pos) (Nr X.prog X.w X.K X.mg X.base CX k m E ta Rt):=by
 intro pins s σ H Q I h;refine PySem.W.methodCall_KW (pl:=pl) (dz (he pins s σ H _ I h) λu s1 hpt=>?_) ht;obtain⟨x,H1,I1,rx,a,C,dx,fs,sp,ex,ea,l,⟨f,fd,ps,c,hm,hb,F⟩,q⟩:=hpt;subst ex;obtain rfl:u=Value.ref a:=rx;refine pU I1 ea c hm l ?_;exact PySem.W.callWith_K0 (first:=[.ref a]) I1.kIn hm.kp (Fw (us:=[.ref a]) (vs:=[.ref a]) (ds:=[]) (dvs:=[]) F hr hb .nil hx I1 (.cons Z .nil) (by rw [append_nil];exact q))
end
section
variable {X:Cx}
theorem Sd:bootBuiltins "range" =some (.type "range"):=by decide +kernel
theorem Mi:lg X (.type "range") (λxs H Q=>∃j:Int,xs=[.int j]/\∀r,H r=none->Q (.ref r) (upd H r (.rng 0 j))):=by intro pins s σ H xs us Q I r h;obtain⟨j,rfl,q⟩:=h;obtain⟨u,rfl,t,rfl⟩:=vals1 r;refine call_range_1 ⟨.ref s.heap.objs.size,upd H s.heap.objs.size (.rng 0 j),I.laid (λb o e=>Heap.get?_push_of_some _ e) (le_refl _) ?_,Z,q _ (I.hok.fresh (le_refl _))⟩;exact⟨_,_,_,Heap.get?_push_size _ Z⟩
noncomputable def Vh (n:Nat):List V:=(List.range n).map λi=>V.int (i:Nat)
theorem V4 (n:Nat):(Vh n).length=n:=by simp [Vh]
theorem Rn:∀(n:Nat) (us:List Value),us.length=n->(∀(j:Nat) (v:Value),us[j]?=some v->∃t,v=.int (j:Nat) t)->Vals (Vh n) us:=by
 intro n;induction n with
 | zero=>intro us hl _;cases us with | nil=>exact .nil | cons _ _=>cases hl
 | succ n ih=>
  intro us hl h;have e1:Vh (n+1)=Vh n ++ [V.int (n:Nat)]:=by simp [Vh,range_succ]
  have hn:n <us.length:=by lia
  have e2:us=us.take n ++ [us[n]]:=by have:=take_append_drop n us;rw [List.drop_eq_getElem_cons hn] at this;rw [List.drop_eq_nil_of_le (by lia)] at this;exact this.symm
  rw [e1,e2];refine Vals.append (ih _ (by simp;lia) λj v e=>?_) (.cons ?_ .nil)
  ·rw [List.getElem?_take] at e;split at e
   ·exact h j v e
   ·cases e
  ·obtain⟨t,e⟩:=h n us[n] (by simp [hn]);exact⟨t,e⟩
theorem Gz (hc:X.calm=true):lg X (.type "list") (λxs H Q=>∃(r:Addr) (n:Nat),xs=[.ref r]/\H r=some (.rng 0 n)/\n<=1000000/\∀l,H l=none->Q (.ref l) (upd H l (.lst (Vh n)))):=by intro pins s σ H xs us Q I rx h;obtain⟨r,n,rfl,hr,hn,q⟩:=h;obtain⟨u,rfl,ru⟩:=vals1 rx;cases ru;have hl:sizeLine=16777216:=sizeLine_eq;obtain⟨t,u,v,e⟩:=(show dD X.prog X.w H s.heap r (.rng 0 n) from I.hok r _ hr);refine call_list_range (n:=n) (I.ok.hd hc) e (small_one (by lia) (by lia) (by lia) (by lia)) (by rw [rangeSize_one];split <;> lia) (by lia) λh' tk acc' c' kp e' hi=>?_;refine⟨.ref s.heap.objs.size,_,I.laid (t':=tk) kp (le_refl _) (show dD X.prog X.w _ h' _ (.lst (Vh n)) from⟨by rw [V4];lia,acc'.toList,c',Rn n _ (by simpa using hi.1) λj v ej=>?_,by simpa using e'⟩),rfl,q _ (I.hok.fresh (le_refl _))⟩;obtain⟨t,ev⟩:=hi.2 j v (by simpa using ej);exact⟨t,by rw [ev];congr 1;lia⟩
end
inductive jO (w:World) (K:Fr):List DictEntry->List (Str×List Int)->Prop
 | nil:jO w K [] []
 | cons {x:Str} {t:Tok} {ad:Addr} {ns:List Int} {es:List DictEntry} {rows:List (Str×List Int)} {h:Int} {its:Array Value} {n:Nat} {o:Obj}:
   h=hashStr w x->K.lookup ad=some o->o.cls=.type "tuple" ->o.data=.seq its n->Vals (ns.map V.int) its.toList->ns.length<=1000->jO w K es rows->jO w K (⟨h,.str x t,.ref ad⟩:: es) ((x,ns):: rows)
inductive KTab (w:World) (K:Fr) (a:Addr) (rows:List (Str×List Int)):Prop where
 | mk:∀(o:Obj) (es:Array DictEntry) (ep:Nat),K.lookup a=some o->o.cls=.type "dict" ->o.dict=none->o.slots= #[]->o.data=.dict es ep->(a == sysModules)=false->jO w K es.toList rows->(rows.map (·.1)).Nodup->KTab w K a rows
theorem KTab.mk' {w:World} {K:Fr} {a:Addr} {rows:List (Str×List Int)} {o:Obj} {es:Array DictEntry} {ep:Nat} (lk:K.lookup a=some o) (c1:o.cls=.type "dict") (c2:o.dict=none) (c3:o.slots= #[]) (c4:o.data=.dict es ep) (sm:(a == sysModules)=false)
  (rw':jO w K es.toList rows) (nd:(rows.map (·.1)).Nodup):KTab w K a rows:=⟨o,es,ep,lk,c1,c2,c3,c4,sm,rw',nd⟩
noncomputable def rowOf (rows:List (Str×List Int)) (z:Str):Option (List Int):=(rows.find? λr=>decide (r.1=z)).map (·.2)
section
variable {P:Program} {w:World} {K:Fr}
theorem jO.kvs:∀{es:List DictEntry} {rows:List (Str×List Int)},jO w K es rows->∃kvs:List (Key×Value),Pairs (cX P w) es kvs/\kvs.map (·.1)=rows.map (λr=>(Sum.inr r.1:Key))/\
  (∀e∈es,∃k,(cX P w).is k e.key=true/\e.hash=(cX P w).hash k)/\
  ∀z,(rowOf rows z=none->valueAt kvs (Sum.inr z)=none)/\∀ns,rowOf rows z=some ns->∃ad,valueAt kvs (Sum.inr z)=some (.ref ad)/\∀H,gq K H ad (ns.map V.int)
 | _,_,.nil=>⟨[],.nil,rfl,λe he=>(by cases he),λz=>⟨λ_=>rfl,λns e=>by cases e⟩⟩
 | _,_,@jO.cons _ _ x t ad ns es rows h its n o hh hl hc hdt hv hz hr=>by
  obtain⟨kvs,p,hk,ho,hf⟩:=jO.kvs hr;refine⟨(Sum.inr x,.ref ad):: kvs,.cons (mz P w x t) Z p,by rw [map_cons,map_cons,hk],λe he=>?_,λz=>?_⟩
  ·rcases mem_cons.mp he with e1 | he
   ·subst e1;exact⟨Sum.inr x,mz P w x t,hh⟩
   ·exact ho e he
  ·by_cases hx:x=z
   ·subst hx;have e1:rowOf ((x,ns):: rows) x=some ns:=by simp [rowOf]
    have e2:valueAt ((Sum.inr x,Value.ref ad):: kvs) (Sum.inr x:Key)=some (.ref ad):=by simp [valueAt]
    rw [e1,e2];refine⟨λe=>by (cases e),λms e=>⟨ad,rfl,λH=>.inr ⟨_,its,n,hl,hc,hdt,?_,?_⟩⟩⟩
    ·have:=hv.length;have hs:sizeLine=16777216:=sizeLine_eq;simp at this
     lia
    ·cases e;exact hv
   ·have e1:rowOf ((x,ns):: rows) z=rowOf rows z:=by simp [rowOf,hx]
    have hx':¬(Sum.inr x:Key)=Sum.inr z:=λq=>hx (Sum.inr.inj q);have e2:valueAt ((Sum.inr x,Value.ref ad):: kvs) (Sum.inr z:Key)=valueAt kvs (Sum.inr z):=by simp [valueAt,hx']
    rw [e1,e2];exact hf z
theorem KTab.map {a:Addr} {rows:List (Str×List Int)} {h:Heap} (T:KTab w K a rows) (hk:K.In h):∃f:Key->Option Value,h.MapOf (cX P w) a f/\(a == sysModules)=false/\
  ∀z,(rowOf rows z=none->f (Sum.inr z)=none)/\∀ns,rowOf rows z=some ns->∃ad,f (Sum.inr z)=some (.ref ad)/\∀H,gq K H ad (ns.map V.int):=by
 obtain⟨o,es,ep,hl,c1,c2,c3,c4,hs,hr,nd⟩:=T;obtain⟨kvs,p,hkk,ho,hf⟩:=hr.kvs (P:=P);have D:h.DictOf (cX P w) a kvs:=⟨o,es,ep,hk a _ hl,⟨c1,c2,c3⟩,c4,λe he=>ho e (by simpa using he),p,?_⟩
 ·exact⟨_,D.mapOf,hs,hf⟩
 ·rw [hkk];have:rows.map (λr=>(Sum.inr r.1:Key))=(rows.map (·.1)).map Sum.inr:=by rw [map_map];rfl
  rw [this];exact List.Pairwise.map _ (λa b hab e=>hab (Sum.inr.inj e)) nd
end
section
variable {X:Cx} {i o:Expr} {ty td:TE} {pos:Pos}
inductive WM (w:World) (K:Fr) (Q:VK) (y:V) (x:V) (H2:Hp):Prop where
 | mk:∀a rows z,x=.ref a->KTab w K a rows->y=.str z->Q (.bl (rowOf rows z).isSome) H2->WM w K Q y x H2
noncomputable def aaI (w:World) (K:Fr) (ty td:TE):TE:=λσ H Q=>ty σ H λy H1=>td σ H1 λx H2=>WM w K Q y x H2
theorem Yc (hi:PE X i ty) (ho:PE X o td):PC X .In i o (aaI X.w X.K ty td):=by
 intro pins s σ H Q I h;refine dz (hi pins s σ H _ I h) λiv s1 ⟨y,H1,I1,ry,q1⟩=>dz (ho pins s1 σ H1 _ I1 q1) λu s2 hpt=>?_;obtain⟨x,H2,I2,rx,a,rows,z,ex,T,ey,q2⟩:=hpt;subst ex;subst ey;obtain rfl:u=Value.ref a:=rx;obtain⟨t,rfl⟩:=ry;obtain⟨f,M,hs,hf⟩:=T.map (P:=X.prog) I2.kIn;refine wpAny_in_of (k:=(Sum.inr z:Key)) (mz X.prog X.w z t) hs M ?_;refine⟨.bl (rowOf rows z).isSome,H2,I2.tok _,?_,q2⟩;cases e:rowOf rows z with
 | none=>rw [(hf z).1 e];rfl
 | some ns=>obtain⟨ad,e1,_⟩:=(hf z).2 ns e;rw [e1];rfl
inductive Xh (w:World) (K:Fr) (x:V) (y:V) (H:Hp) (Q:VK):Prop where
 | mk:∀a rows z ns,x=.ref a->KTab w K a rows->y=.str z->rowOf rows z=some ns->(∀ad,gq K H ad (ns.map V.int)->Q (.ref ad) H)->Xh w K x y H Q
noncomputable def Zr (w:World) (K:Fr):R2:=λx y H Q=>Xh w K x y H Q
theorem aaX:Rh X (Zr X.w X.K):=by intro value slice pins s σ H x y v u Q I rx ry h hs;obtain⟨a,rows,z,ns,rfl,T,rfl,e,q⟩:=h;cases rx;obtain⟨t,rfl⟩:=ry;obtain⟨f,M,hsm,hf⟩:=T.map (P:=X.prog) I.kIn;obtain⟨ad,e1,e2⟩:=(hf z).2 ns e;exact tail_any M.typeIs PySem.F.slot_dict_getitem.lookup (wpAny_getItem_of (k:=(Sum.inr z:Key)) (mz X.prog X.w z t) M e1 ⟨.ref ad,H,I.tok _,Z,q ad (e2 H)⟩) hs
theorem Vs (ho:PE X o td) (hi:PE X i ty) (hs:Oj i):PE X (.Subscript o i pos) (Vg (Zr X.w X.K) td ty):=aU aaX ho hi hs
end
noncomputable def zG (K:Fr) (H:Hp) (a:Addr) (xs:List V):Prop:=bK K H a xs∨gq K H a xs
theorem aK.seqT {K:Fr} {H H':Hp} {a:Addr} {xs:List V} (e:aK H H') (h:gq K H a xs):gq K H' a xs:=by
 rcases h with (h | ⟨o,h⟩) | h
 ·exact .inl (.inl (e _ _ h))
 ·exact .inl (.inr ⟨o,e _ _ h⟩)
 ·exact .inr h
theorem aK.seqA {K:Fr} {H H':Hp} {a:Addr} {xs:List V} (e:aK H H') (h:zG K H a xs):zG K H' a xs:=h.elim (λh=>.inl (e.seq h)) λh=>.inr (e.seqT h)
noncomputable def jz (p:Addr) (H H':Hp):Prop:=∀b o,b≠p->H b=some o->H' b=some o
theorem jz.refl {p:Addr} (H:Hp):jz p H H:=λ_ _ _ e=>e
theorem jz.trans {p:Addr} {H H1 H2:Hp} (a:jz p H H1) (b:jz p H1 H2):jz p H H2:=λc o n e=>b c o n (a c o n e)
theorem jz.of_same {p:Addr} {H H1:Hp} (a:aK H H1):jz p H H1:=λc o _ e=>a c o e
theorem jz.write {p:Addr} {H:Hp} {o:HO}:jz p H (upd H p o):=λb u n e=>by rw [aG n];exact e
theorem jz.seqT {K:Fr} {H H':Hp} {p a C dx:Addr} {fs:List (Str×V)} {xs:List V} (e:jz p H H') (hp:H p=some (.ins C dx fs)) (h:gq K H a xs):gq K H' a xs:=by
 rcases h with (h | ⟨o,h⟩) | h
 ·exact .inl (.inl (e _ _ (xm h hp (by intro z;cases z)) h))
 ·exact .inl (.inr ⟨o,e _ _ (xm h hp (by intro z;cases z)) h⟩)
 ·exact .inr h
theorem jz.seqL {K:Fr} {H H':Hp} {p a C dx:Addr} {fs:List (Str×V)} {xs:List V} (e:jz p H H') (hp:H p=some (.ins C dx fs)) (h:bK K H a xs):bK K H' a xs:=by
 rcases h with (h | ⟨o,h⟩) | h
 ·exact .inl (.inl (e _ _ (xm h hp (by intro z;cases z)) h))
 ·exact .inl (.inr ⟨o,e _ _ (xm h hp (by intro z;cases z)) h⟩)
 ·exact .inr h
theorem jz.seqA {K:Fr} {H H':Hp} {p a C dx:Addr} {fs:List (Str×V)} {xs:List V} (e:jz p H H') (hp:H p=some (.ins C dx fs)) (h:zG K H a xs):zG K H' a xs:=h.elim (λh=>.inl (e.seqL hp h)) λh=>.inr (e.seqT hp h)
theorem RG {K:Fr} {H:Hp} {a:Addr} {xs:List V} {Q:VK} (h:zG K H a xs) (k:∀H' u,aK H H'->gq K H' u xs->Q (.ref u) H'):
  ∃p ys,[V.ref a]=[.ref p]/\((bK K H p ys/\∀l,H l=none->Q (.ref l) (upd H l (.tup ys)))∨(gq K H p ys/\Q (.ref p) H)):=by
 rcases h with h | h
 ·exact⟨a,xs,Z,.inl ⟨h,λl hl=>k _ _ (aB hl) (gq.of aq)⟩⟩
 ·exact⟨a,xs,Z,.inr ⟨h,k _ _ (aK.refl _) h⟩⟩
theorem wW {X:Cx}:lg X (.type "tuple") (λxs H Q=>∃a ys,xs=[.ref a]/\zG X.K H a ys/\∀H' u,aK H H'->gq X.K H' u ys->Q (.ref u) H'):=by intro pins s σ H xs us Q I r h;obtain⟨a,ys,rfl,hq,q⟩:=h;exact GK pins s σ H _ us Q I r (RG hq q)
section
variable {es:List Expr} {env:Env}
theorem cC {a b c}:starEach (.Tuple a b c:: es) env=(false,eval (.Tuple a b c) env):: starEach es env:=rfl
theorem aQ {a b}:starEach (.List a b:: es) env=(false,eval (.List a b) env):: starEach es env:=rfl
theorem ao {a b c}:starEach (.Constant a b c:: es) env=(false,eval (.Constant a b c) env):: starEach es env:=rfl
theorem aj {a b}:starEach (.Name a b:: es) env=(false,eval (.Name a b) env):: starEach es env:=rfl
theorem bh {a b c d}:starEach (.Call a b c d:: es) env=(false,eval (.Call a b c d) env):: starEach es env:=rfl
theorem bU {a b c d}:starEach (.BinOp a b c d:: es) env=(false,eval (.BinOp a b c d) env):: starEach es env:=rfl
theorem bu {a b c}:starEach (.Attribute a b c:: es) env=(false,eval (.Attribute a b c) env):: starEach es env:=rfl
theorem aF {a b c}:starEach (.Subscript a b c:: es) env=(false,eval (.Subscript a b c) env):: starEach es env:=rfl
theorem dZ {a b c d}:starEach (.ListComp a b c d:: es) env=(false,eval (.ListComp a b c d) env):: starEach es env:=rfl
theorem J6 {a b c}:starEach (.UnaryOp a b c:: es) env=(false,eval (.UnaryOp a b c) env):: starEach es env:=rfl
theorem M9 {a b c d}:starEach (.IfExp a b c d:: es) env=(false,eval (.IfExp a b c d) env):: starEach es env:=rfl
end
section
variable {X:Cx} {scope:Scope} {x:Str} {js:List Nat} {cl:List (Str×Addr)} {C:Addr} {s:Shared} {H:Hp} {ex:List Addr}
end
noncomputable def jA (H:Hp):List Addr->List (List V)->Prop:=Paired λr vs=>H r=some (.tup vs)
theorem jA.same {H H':Hp} (s:aK H H'):∀{rs:List Addr} {vss:List (List V)},jA H rs vss->jA H' rs vss
 | _,_,.nil=>.nil
 | _,_,.cons h t=>.cons (s _ _ h) (jA.same s t)
theorem jA.append {H:Hp}:∀{rs rs':List Addr} {vss vss':List (List V)},jA H rs vss->jA H rs' vss'->jA H (rs ++ rs') (vss ++ vss')
 | _,_,_,_,.nil,q=>q
 | _,_,_,_,.cons h t,q=>.cons h (jA.append t q)
section
variable {X:Cx}
end
section
variable {X:Cx}
end
section
variable {P:Program} {w:World} {K:Fr} {mg:Str->Option Value} {base:Heap} {N:List Str} {qual:Str} {scope:Scope} {f:Addr} {cd:Value} {A:Around} {outer:List Env} {s:Shared} {H:Hp} {E:XK}
end
structure TQ (K:Fr) (C:Addr):Prop where
 ex:∃(nm q:Str) (Nn:Addr) (bs bm bmB:List Value) (hdct:Bool) (sn:List Str) (sub:List Value) (ab:Bool) (col:Option Bool) (dd:Option Addr) (k0 k1 k2 k3 k5:Option Value) (B newId initId:String) (mN:Str->Option Value),
  ExcBaseFacts B newId initId bmB/\bm.contains (.type "BaseException")=true/\mN "__init__" =none/\
  ∀h:Heap,K.In h->h.get? C=some (excClassObj nm q C Nn bs bm hdct sn sub ab col dd k0 k1 k2 k3 k5 newId)/\h.Ns Nn mN/\OwnTail h bmB bm
section
variable {P:Program} {w:World} {K:Fr} {mg:Str->Option Value} {base:Heap} {N:List Str} {qual:Str} {scope:Scope} {f:Addr} {cd:Value} {A:Around} {outer:List Env} {s:Shared} {H:Hp} {E:XK}
end
theorem Zx {fs:List Addr} {H H2:Hp} {h h2 h3 B:Heap} (u:Un fs [] H H2 h h2) (inB:∀b o,h.get? b=some o->b∉fs->∃o',B.get? b=some o') (st2:B.StaysIn h2) (st3:B.StaysIn h3) (up:h2.UpToSlots h3)
  (fd:∀b o,h2.get? b=some o->b∈fs->∀vs,o.data≠.fields vs):Un fs [] H H2 h h3:=by
 have go:∀b o,h2.get? b=some o->(∃o',B.get? b=some o')->h3.get? b=some o:=λb o q ⟨o',q'⟩=>by have:=st2 b o' q';rw [q] at this;cases this;exact st3 b _ q'
 refine⟨λb o q n hb hx=>go b o (u.keep b o q n hb hx) (inB b o q hb),λb o q n hb hx=>?_,λb o q n hx=>u.free b o q n hx,λb o q hx=>?_,u.tups,u.frzs,u.tbls⟩
 ·obtain⟨sl,k1⟩:=u.slot b o q n hb hx;obtain⟨sl2,k2⟩:=up b _ k1 (fd b _ k1 hb);exact⟨sl2,k2⟩
 ·obtain⟨o2,k2⟩:=u.there b o q hx;by_cases hb:b∈fs
  ·obtain⟨sl3,k3⟩:=up b _ k2 (fd b _ k2 hb);exact⟨_,k3⟩
  ·exact⟨o2,go b o2 k2 (inB b o q hb)⟩
theorem dD.some_at {P:Program} {w:World} {H:Hp} {h:Heap} {a:Addr} {o:HO} (x:dD P w H h a o):∃ob,h.get? a=some ob:=by
 cases o with
 | lst xs=>obtain⟨_,_,_,_,e⟩:=x;exact⟨_,e⟩
 | tup xs=>obtain⟨_,_,_,ob,e,_⟩:=x;exact⟨_,e⟩
 | dK kvs=>obtain⟨_,_,_,_,o,_,_,e,_⟩:=x;exact⟨_,e⟩
 | dT kvs=>obtain⟨_,_,_,_,o,_,_,e,_⟩:=x;exact⟨_,e⟩
 | set S n=>obtain⟨o,_,_,_,e,_⟩:=x;exact⟨_,e⟩
 | ins C dx fs=>obtain⟨_,_,_,e,_⟩:=x;exact⟨_,e⟩
 | own y=>exact x
 | xd fs=>obtain⟨_,⟨_,_,_,e,_⟩,_⟩:=x;exact⟨_,e⟩
 | rng lo hi=>obtain⟨_,_,_,e⟩:=x;exact⟨_,e⟩
 | frz ob u=>obtain⟨e,_⟩:=x;exact⟨_,e⟩
 | tbl ps=>exact⟨_,(show h.get? a=some _ from x)⟩
 | met f y=>exact⟨_,(show h.get? a=some _ from x)⟩
 | ext φ=>obtain⟨_,e,_⟩:=x;exact e
noncomputable def Cx.over (X:Cx) (pn:List (Addr×Obj)) (E:Value->Shared->Prop):Cx:={ X with pn:=pn,xe:=E }
noncomputable def Cx.marked (X:Cx) (x:Addr):Cx:={ X with A:=X.A.mark (some (.ref x)),calm:=false,xe:=λ_ _=>False }
section
variable {X:Cx} {pins:List (Addr×Obj)} {σ:St} {H:Hp} {s:Shared} {E:Value->Shared->Prop}
theorem Cx.Ok.over {pn:List (Addr×Obj)} (ok:X.Ok):(X.over pn E).Ok:=
 ⟨ok.mod,ok.kind,ok.glob,ok.blt,ok.above,ok.inj,ok.has,ok.cab,ok.hd,ok.frames,ok.stk,ok.exf,ok.bs,ok.bsz,ok.noex,ok.exfs,ok.funs,ok.frf⟩
theorem Cx.Ok.unover {pn:List (Addr×Obj)} (ok:(X.over pn E).Ok):X.Ok:=
 ⟨ok.mod,ok.kind,ok.glob,ok.blt,ok.above,ok.inj,ok.has,ok.cab,ok.hd,ok.frames,ok.stk,ok.exf,ok.bs,ok.bsz,ok.noex,ok.exfs,ok.funs,ok.frf⟩
theorem Inv.over (I:Inv X pins σ H s):Inv (X.over (X.pn ++ pins) E) [] σ H s:=⟨I.ok.over,I.os,I.bare,I.base,I.loc,I.cell,I.free,I.freeC,λp hp=>I.pin p (by simpa [Cx.over] using hp),I.hok,I.len⟩
theorem Inv.unover {pins':List (Addr×Obj)} (I:Inv (X.over (X.pn ++ pins) E) pins' σ H s):Inv X pins σ H s:=⟨I.ok.unover,I.os,I.bare,I.base,I.loc,I.cell,I.free,I.freeC,λp hp=>I.pin p (mem_append_left _ hp),I.hok,I.len⟩
theorem Inv.marked {x:Addr} (I:Inv X pins σ H s):Inv (X.marked x) pins σ H s:=
 ⟨⟨I.ok.mod,I.ok.kind,I.ok.glob,I.ok.blt,I.ok.above,I.ok.inj,I.ok.has,I.ok.cab,λh=>absurd h (by simp [Cx.marked]),I.ok.frames,I.ok.stk,I.ok.exf,I.ok.bs,I.ok.bsz,I.ok.noex,I.ok.exfs,I.ok.funs,I.ok.frf⟩,I.os,I.bare,I.base,I.loc,I.cell,I.free,I.freeC,I.pin,I.hok,I.len⟩
theorem Inv.unmarked {x:Addr} (hc:X.calm=true->X.A.handled=none) (I:Inv (X.marked x) pins σ H s):Inv X pins σ H s:=
 ⟨⟨I.ok.mod,I.ok.kind,I.ok.glob,I.ok.blt,I.ok.above,I.ok.inj,I.ok.has,I.ok.cab,hc,I.ok.frames,I.ok.stk,I.ok.exf,I.ok.bs,I.ok.bsz,I.ok.noex,I.ok.exfs,I.ok.funs,I.ok.frf⟩,I.os,I.bare,I.base,I.loc,I.cell,I.free,I.freeC,I.pin,I.hok,I.len⟩
theorem Inv.track {x:Addr} {o:HO} (I:Inv X pins σ H s) (hn:H x=none) (h0:X.s₀.heap.get? x=none) (hL:x≠X.env.locals) (hc:∀y c,X.env.cells.lookup y=some c->c≠x) (hp:∀p∈X.pn ++ pins,p.1≠x)
  (new:dD X.prog X.w (upd H x o) s.heap x o):Inv X pins σ (upd H x o) s:=by
 have ne:∀b u,H b=some u->b≠x:=λb u q=>aC q hn;have ne0:∀b u,X.s₀.heap.get? b=some u->b≠x:=λb u q z=>by rw [z,h0] at q;cases q
 refine⟨I.ok,I.os,I.bare,⟨I.base.keep,I.base.slot,λb u q n hx=>?_,I.base.there,λb xs q=>?_,λb u xs q=>?_,λb ps q=>?_⟩,I.loc,I.cell,?_,λy c e=>?_,λp h=>?_,Io I.hok hn new,I.len⟩
 ·rw [aG (ne0 b u q)];exact I.base.free b u q n hx
 ·have:=I.base.tups b xs q;rw [aG (ne b _ this)];exact this
 ·have:=I.base.frzs b u xs q;rw [aG (ne b _ this)];exact this
 ·obtain⟨m,e⟩:=I.base.tbls b ps q;exact⟨m,by rw [aG (ne b _ e)];exact e⟩
 ·rw [aG (Ne.symm hL)];exact I.free
 ·rw [aG (hc y c e)];exact I.freeC y c e
 ·obtain⟨e,n,r⟩:=I.pin p h;exact⟨e,by rw [aG (hp p h)];exact n,r⟩
end
structure SM (X:Cx) (pins:List (Addr×Obj)) (σ:St) (H':Hp) (x:Addr) (cls:Value) (s:Shared) (B:Heap) (a0:Value):Prop where
 inv:Inv X pins σ H' s
 fly:Heap.FlyingW B X.stack x cls a0 s.heap
 more:∀h6,Heap.FlyingW B X.stack x cls a0 h6->s.heap.UpToSlots h6->Inv X pins σ H' { s with heap:=h6 }
 free:H' x=none
 new:X.s₀.heap.get? x=none
 neL:x≠X.env.locals
 neC:∀y c,X.env.cells.lookup y=some c->c≠x
 neP:∀p∈X.pn ++ pins,p.1≠x
section
variable {X:Cx} {pins:List (Addr×Obj)} {σ:St} {H:Hp} {s:Shared}
theorem Dh {M:Model} {A:Around} {E:Value->Shared->Prop} {i:Nat} {x:Str} {pos:Pos} {Q:Unit->Shared->Prop} (I:Inv X pins σ H s) (hN:X.N.Nodup) (hi:X.N[i]?=some x) (hk:X.env.scope.names.lookup x=some .local)
  (h:∀s',Inv X pins (σ.set i none) H s'->Q () s'):wpAny M A (do bindName X.env x .none;unbindBehindTheSuite X.env x pos) Q E s:=by
 obtain⟨m,hn,hl⟩:=id I.loc;have hcls:(X.env.scope.kind == .class || (X.env.scope.kind == .module && X.env.locals != X.env.globals))=false:=by rw [I.ok.kind];rfl
 have hiσ:i <σ.length:=by rw [I.len];exact(List.getElem?_eq_some_iff.mp hi).1
 have cne:=I.cne;refine wpAny_nameGoes_keeps hk hn hcls λh' v hn' hs=>?_;refine h _ ⟨I.ok,I.os,I.bare,⟨λb o e n hb hx=>?_,λb o e n hb hx=>?_,I.base.free,λb o e hx=>?_,I.base.tups,I.base.frzs,I.base.tbls⟩,⟨_,hn',λj y v' e1 e2 e3=>?_⟩,λy c e=>?_,I.free,I.freeC,λp hp=>?_,λb ob e=>?_,by simpa using I.len⟩
 ·exact(hs.2 b (ne_of_lt (lt_of_lt_of_le (Heap.lt_size e) I.ok.above))).trans (I.base.keep b o e n hb hx)
 ·obtain⟨sl,e1⟩:=I.base.slot b o e n hb hx;exact⟨sl,(hs.2 b (ne_of_lt (lt_of_lt_of_le (Heap.lt_size e) I.ok.above))).trans e1⟩
 ·obtain⟨o',e1⟩:=I.base.there b o e hx;exact⟨o',(hs.2 b (ne_of_lt (lt_of_lt_of_le (Heap.lt_size e) I.ok.above))).trans e1⟩
 ·by_cases hj:j=i
  ·subst hj;rw [List.getElem?_set_self hiσ] at e2;cases e2
  ·rw [List.getElem?_set_ne (Ne.symm hj)] at e2;obtain⟨u',r',q⟩:=hl j y v' e1 e2 e3;refine⟨u',r',?_⟩;rcases q with ⟨k,e⟩ | ⟨k,c,e,z⟩
   ·refine .inl ⟨k,?_⟩;have:y≠x:=λe=>hj (DW hN e1 (e ▸ hi));simp [this,e]
   ·exact .inr ⟨k,c,e,z.sameBut hs (cne y c e)⟩
 ·obtain⟨w',z⟩:=I.cell y c e;exact⟨w',z.sameBut hs (cne y c e)⟩
 ·obtain⟨e,n,ne,nf,d⟩:=I.pin p hp;exact⟨(hs.2 p.1 ne).trans e,n,ne,nf,d⟩
 ·refine(I.hok b ob e).stay (λc w' hc q=>(hs.2 c ?_).trans q) (λ_ q=>q) λ_ _ q=>q;rintro rfl;rcases hc with rfl | hc
  ·rw [I.free] at e;cases e
  ·rw [I.free] at hc;cases hc
end
noncomputable def aaL (x:Addr) (cls:Value):HO:=.ext λh=>∃ob,h.get? x=some ob/\ob.cls=cls
structure ExcAt (K:Fr) (C:Addr):Prop where
 ex:∃(nm q:Str) (Nn:Addr) (bs bm:List Value) (hdct:Bool) (sn:List Str) (sub:List Value) (ab:Bool) (col:Option Bool) (dd:Option Addr) (k0 k1 k2 k3 k5:Option Value) (newId:String),bm.contains (.type "BaseException")=true/\
  ∀h:Heap,K.In h->h.get? C=some (excClassObj nm q C Nn bs bm hdct sn sub ab col dd k0 k1 k2 k3 k5 newId)
section
variable {prog:Program} {w:World} {A:Around} {E:Value->Shared->Prop} {h:Heap} {g:Array GenState} {d:Drawn} {t:Nat} {os:OsState} {a:Addr} {o:Obj} {C:Addr}
structure Ia (M:Model) (h:Heap) (C:Addr):Prop where
 ga:∀{A:Around} {E:Value->Shared->Prop} {Q:Option Value->Shared->Prop} {g d t os},Q (some (.builtin "BaseException.__getattribute__")) ⟨h,g,d,t,os⟩->wpAny M A (typeLookup (.ref C) "__getattribute__") Q E ⟨h,g,d,t,os⟩
 gn:∀{A:Around} {E:Value->Shared->Prop} {Q:Option Value->Shared->Prop} {g d t os},Q none ⟨h,g,d,t,os⟩->wpAny M A (typeLookup (.ref C) "__getattr__") Q E ⟨h,g,d,t,os⟩
 cl:∀{A:Around} {E:Value->Shared->Prop} {Q:Option Value->Shared->Prop} {g d t os},Q (some (.builtin "object.__class__")) ⟨h,g,d,t,os⟩->wpAny M A (typeLookup (.ref C) "__class__") Q E ⟨h,g,d,t,os⟩
 ob:∀{A:Around} {E:Value->Shared->Prop} {Q:Bool->Shared->Prop} {g d t os},Q true ⟨h,g,d,t,os⟩->wpAny M A (isSubtype (.ref C) (.type "object")) Q E ⟨h,g,d,t,os⟩
 be:∀{A:Around} {E:Value->Shared->Prop} {Q:Bool->Shared->Prop} {g d t os},Q true ⟨h,g,d,t,os⟩->wpAny M A (isSubtype (.ref C) (.type "BaseException")) Q E ⟨h,g,d,t,os⟩
theorem Yh {R:Result->Shared->Prop} (L:Ia (model prog w) h C) (hx:h.get? a=some o) (hc:o.cls=.ref C) (hq:R (.ok (.ret (.ref C))) ⟨h,g,d,t,os⟩):
  codeAny (model prog w) A (.call (.builtin "getset_descriptor.__get__") ⟨[.builtin "object.__class__",.ref a,.ref C],[]⟩) R ⟨h,g,d,t,os⟩:=by
 have hT5:(⟨h,g,d,t,os⟩:Shared).TypeIs (.builtin "object.__class__") "getset_descriptor" :=F.typeOf_object_class;refine codeAny_call_builtin F.slot_gs_get.plain F.entry_gs_get (F.slot_gs_get.check _ _ _ _ _ _ _ _ hT5 (F.args_gs_get _ _ _) ?_);repeat (any_goals (first | assumption | (with_reducible refine wpAny_loadPart_at hx ?_;rw [hc]) | (rw [F.owner_object_class];with_reducible refine L.ob ?_) | wp_step))
 refine⟨Code.quiet_builtin _ (by decide +kernel),codeAny_builtin F.entry_object_class ?_⟩;repeat (any_goals (first | assumption | (with_reducible refine wpAny_loadPart_at hx ?_;rw [hc]) | wp_step))
theorem Mf {M:Model} {nameV:Value} {Q:Unit->Shared->Prop} (L:Ia M h C)
  (hx:h.get? a=some o) (hc:o.cls=.ref C) (hq:Q () ⟨h,g,d,t,os⟩):wpAny M A (checkBuiltinCall "BaseException.__getattribute__" ⟨[.ref a,nameV],[]⟩) Q E ⟨h,g,d,t,os⟩:=by
 have hk:builtinKind "BaseException.__getattribute__" =some .slot:=by decide +kernel
 have hsplit:splitId "BaseException.__getattribute__" =some ("BaseException", "__getattribute__"):=by decide +kernel
 have ha:=F.args_bexc_ga (.ref a) nameV;simp only [checkBuiltinCall,hk,hsplit];refine wpAny_bind ?_
 ·unfold isInstance;repeat (first | (with_reducible refine wpAny_loadPart_at hx ?_;rw [hc]) | with_reducible refine L.be ?_ | wp_step)
  exact hq
theorem Ss {tk:Tok} {Q:Fin->Shared->Prop} (L:Ia (model prog w) h C) (hx:h.get? a=some o) (hc:o.cls=.ref C) (hq:Q (.done (.ret (.ref C))) ⟨h,g,d,t,os⟩):
  wpAny (model prog w) A (Builtin.«object.__getattribute__» ⟨[.ref a,.str "__class__" tk],[]⟩) Q E ⟨h,g,d,t,os⟩:=by
 have hT5:(⟨h,g,d,t,os⟩:Shared).TypeIs (.builtin "object.__class__") "getset_descriptor" :=F.typeOf_object_class;have f5:=F.typeOf_object_class;have f6:=F.slot_gs_get.lookup;have f7:=F.slot_gs_set.lookup;repeat (any_goals (first | assumption | (with_reducible refine wpAny_loadPart_at hx ?_;rw [hc]) | with_reducible refine L.cl ?_ | wp_step))
 refine Yh L hx hc ?_;repeat (any_goals (first | assumption | wp_step))
theorem ZM {tk:Tok} {fill expr:Bool} {Q:Value->Shared->Prop} (L:Ia (model prog w) h C) (FB:ExcAttrFacts "ValueError") (hx:h.get? a=some o) (hc:o.cls=.ref C) (hq:Q (.ref C) ⟨h,g,d,t,os⟩):
  wpAny (model prog w) A (getAttrBy (.ref a) (.str "__class__" tk) fill expr) Q E ⟨h,g,d,t,os⟩:=by
 have f3:=FB.ga.bind (.ref a);have hx0:(expr && onTheHeap (Value.builtin "BaseException.__getattribute__"))=false:=by cases expr <;> rfl
 have hx2:(Value.builtin "BaseException.__getattribute__" == Value.builtin "object.__getattribute__")=false:=by decide +kernel
 have hx1:(onTheHeap (Value.ref C) && Value.builtin "BaseException.__getattribute__" == Value.builtin "object.__getattribute__")=false:=by rw [hx2];rfl
 repeat (any_goals (first | assumption | (with_reducible refine wpAny_loadPart_at hx ?_;rw [hc]) | with_reducible refine L.ga ?_ | with_reducible refine L.gn ?_ | wp_step))
 refine codeAny_call_builtin FB.ga.plain F.entry_bexc_ga (Mf L hx hc (Ss L hx hc ?_));repeat (any_goals (first | assumption | wp_step))
theorem Wv {Q:Option Value->Shared->Prop} (L:Ia (model prog w) h C) (FB:ExcAttrFacts "ValueError") (hx:h.get? a=some o) (hc:o.cls=.ref C) (hq:Q (some (.ref C)) ⟨h,g,d,t+1,os⟩):
  wpAny (model prog w) A (getAttr? (.ref a) "__class__") Q E ⟨h,g,d,t,os⟩:=by
 unfold getAttr? getAttrBy?;repeat (any_goals (first | assumption | with_reducible apply ZM L FB hx hc | wp_step))
end
noncomputable abbrev Ft:List Value:=[.type "ValueError",.type "Exception",.type "BaseException",.type "object"]
noncomputable def Rg (K:Fr) (N:Addr) (x:Str):Option Value:=match K.lookup N with
 | some o=>(match o.data with | .dict es _=>nsFind es x | _=>none)
 | none=>none
theorem Ti {K:Fr} {h:Heap} {N:Addr} (X:K.In h) (ok:PySem.W.nsOkIn K N=true):h.nsMap N=Rg K N:=by
 funext x
 unfold PySem.W.nsOkIn at ok;split at ok
 ·rename_i look;unfold Heap.nsMap Rg;rw [X _ _ look,look]
 ·cases ok
theorem Sy {K:Fr} {N:Addr} {x:Str} (e:PySem.W.nsIn K N x=some none):Rg K N x=none:=by
 unfold PySem.W.nsIn at e;split at e
 ·rename_i look;split at e
  ·cases e
  ·rename_i f;unfold Rg;rw [look];show nsFind _ _=none;unfold nsFind findBy;rw [<-Array.find?_toList,f];rfl
 ·cases e
theorem Ik {K:Fr}:∀{l:List Value},PySem.W.tailIn K Ft l=true->l.contains (.type "BaseException")=true
 | [],e=>by simp [PySem.W.tailIn,Ft] at e
 | v:: r,e=>by
  unfold PySem.W.tailIn at e;rcases Bool.or_eq_true_iff.mp e with z | z
  ·rw [beq_iff_eq.mp z];decide +kernel
  ·split at z
   ·split at z
    ·simp only [and_eq_true] at z;rw [List.contains_cons,Ik z.2,Bool.or_true]
    ·cases z
   ·cases z
theorem TQ.ofIn {K:Fr} {C:Addr} (z:PySem.W.excIn K C Ft "ValueError.__new__" =true):TQ K C:=by
 unfold PySem.W.excIn at z;split at z
 ·rename_i od kd slo look;split at z
  ·rename_i C1 up a0 a1 a2 a3 nid a5 em es;simp only [and_eq_true,beq_iff_eq,Bool.not_eq_true'] at z;obtain⟨⟨⟨⟨⟨x1,x2⟩,x3⟩,x4⟩,x5⟩,x6⟩:=z;subst x1 x2;obtain⟨g1,g2,g3,g4,g5,g6,g7,g8,g9,g10,g11⟩:=kd;dsimp only at em x3 x5 x6;subst em x3;have hs:slo= #[a0,a1,a2,a3,some (.builtin "ValueError.__new__"),a5]:=by obtain⟨l⟩:=slo;simp only at es;rw [es]
   subst hs;refine⟨⟨g1,g5,g4,g2,up,Ft,g6,g7,g8,g9,g10,od,a0,a1,a2,a3,a5, "ValueError", "ValueError.__new__", "ValueError.__init__",Rg K g4,PySem.F.excBase_ValueError,Ik x4,Sy x6,λh X=>⟨X _ _ look,?_,PySem.W.tail_of_in X x4⟩⟩⟩;rw [<-Ti X x5];exact .of_isNs (PySem.W.isNs_of_in X x5)
  ·cases z
 ·cases z
structure Wb (K:Fr) (C:Addr):Prop where
 cls:(PySem.W.clsIn K C).isSome=true
 ga:PySem.W.findIn K (.ref C) "__getattribute__" =some (some (.builtin "BaseException.__getattribute__"))
 gn:PySem.W.findIn K (.ref C) "__getattr__" =some none
 cl:PySem.W.findIn K (.ref C) "__class__" =some (some (.builtin "object.__class__"))
 ob:PySem.W.subIn K (.ref C) (.type "object")=some true
 be:PySem.W.subIn K (.ref C) (.type "BaseException")=some true
theorem Wb.lk {K:Fr} {C:Addr} {M:Model} {h:Heap} (x:Wb K C) (X:K.In h):Ia M h C:=
 ⟨λq=>(PySem.W.looks_findIn X x.ga).at q,λq=>(PySem.W.looks_findIn X x.gn).at q,λq=>(PySem.W.looks_findIn X x.cl).at q,λq=>(PySem.W.looks_subIn X x.ob).at q,λq=>(PySem.W.looks_subIn X x.be).at q⟩
noncomputable def Om (y C:Addr) (h:Heap):Prop:=∃ob,h.get? y=some ob/\ob.cls=.ref C
theorem Wb.obj {K:Fr} {C:Addr} (x:Wb K C):∃c d cd sl,K.lookup C=some ⟨c,d,.cls cd,sl⟩:=by
 have z:=x.cls;unfold PySem.W.clsIn at z;split at z
 ·rename_i look;exact⟨_,_,_,_,look⟩
 ·cases z
theorem KH {K:Fr} {y C:Addr} (x:Wb K C):PySem.W.KitX K (.ref y) (.ref C) (Om y C) where
 ty:=λ_ _ _ ⟨_,e1,e2⟩=>e2 ▸ (PySem.W.Looks.ld e1).andThen .now
 it:=λ_ h X _=>by obtain⟨c,d,cd,sl,look⟩:=x.obj;intro A Q E s k q;unfold isType loadHead;exact wpAny_bind (wpAny_loadPart (k _ _ (X _ _ look)) (wpAny_pure q))
 ne:=λh tp dd its n sl X e=>by obtain⟨c,d,cd,sl',look⟩:=x.obj;refine Bool.eq_false_iff.mpr λq=>?_;obtain rfl:C=tp:=Value.ref.inj (beq_iff_eq.mp q);have z:=(X _ _ look).symm.trans e;cases z
 ca:=λ{_ _ _ _ _ s} X p k=>by obtain⟨h,g,d,t,os⟩:=s;obtain⟨ob,e1,e2⟩:=p;exact Wv (x.lk X) PySem.F.attr_ValueError e1 e2 k
noncomputable def aa9 (K:Fr) (C:Addr):V->Bool->Prop
 | .ref D,b=>PySem.W.kitOne K (.ref C) (.ref D)=some b
 | .ty T,b=>PySem.W.kitOne K (.ref C) (.type T)=some b
 | _,_=>False
theorem Gw:bootBuiltins "ValueError" =some (.type "ValueError"):=by decide +kernel
section
variable {P:Program} {w:World} {K:Fr} {mg:Str->Option Value} {base:Heap}
end
end L2
namespace L2
open PySem
section
variable {prog:Program} {w:World} {A:Around} {E:Value->Shared->Prop} {h:Heap} {g:Array GenState} {d:Drawn} {t:Nat} {os:OsState}
variable {nm q:Str} {C N:Addr} {bs bm bmB:List Value} {hdct:Bool} {sn:List Str} {sub:List Value} {ab:Bool} {col:Option Bool} {dd:Option Addr} {k0 k1 k2 k3 k5:Option Value} {B newId initId:String}
theorem Q9 {mN:Str->Option Value} {name:Str} {v:Value} {Q:Option Value->Shared->Prop} {M:Model} (hC:h.get? C=some (excClassObj nm q C N bs bm hdct sn sub ab col dd k0 k1 k2 k3 k5 newId)) (hn:h.Ns N mN) (hv:mN name=some v)
  (hq:Q (some v) ⟨h,g,d,t,os⟩):wpAny M A (typeLookup (.ref C) name) Q E ⟨h,g,d,t,os⟩:=by
 rw [typeLookup_eq];refine wpAny_bind (wpAny_mroOf_exc hC ?_);rw [lookupAlong_cons];refine wpAny_bind (wpAny_classOwn_exc hC hn ?_);rw [hv];exact wpAny_pure hq
theorem Jg (F:ExcBaseFacts B newId initId bmB) (T:OwnTail h bmB bm) {mN:Str->Option Value} {us:List Value} {f:Addr} {fo:Obj} {Q:Fin->Shared->Prop}
  (hC:h.get? C=some (excClassObj nm q C N bs bm hdct sn sub ab col dd k0 k1 k2 k3 k5 newId)) (hn:h.Ns N mN) (hi:mN "__init__" =some (.ref f)) (hf:h.get? f=some fo) (hfc:fo.cls=.type "function")
  (go:∀h' e,h.objs.size<=e->Heap.MadeExcOf h h' e (.ref C) us->wpAny (model prog w) A (call (.ref f) (.ref e:: us)) (λr s'=>r=.none/\Q (.done (.ret (.ref e))) s') E ⟨h',g,d,t,os⟩) (hz:us.length<=sizeLine):
  wpAny (model prog w) A (Builtin.«type.__call__» ⟨.ref C:: us,[]⟩) Q E ⟨h,g,d,t,os⟩:=by
 repeat (first | with_reducible refine wpAny_loadPart_at hC ?_ | with_reducible refine wpAny_madeBy_exc hC ?_ | wp_step)
 refine codeAny_call_builtin_code (Code.quiet_builtin _ F.quiet) (wpAny_check_new_subT F T hC ?_);refine codeAny_exc_new_subT F T hC ?_ hz;show wpAny _ _ _ _ _ _;generalize ho:({ cls:=.ref C,data:=.fields #[.ref h.objs.size,.none,.none,.none,.bool false,.none] }:Obj)=eo;generalize hp:h.push { cls:=.type "tuple",data:=.seq us.toArray }=hp1;have up:∀b o,h.get? b=some o->(hp1.push eo).get? b=some o:=λb o z=>Heap.get?_push_of_some _ (by rw [<-hp];exact Heap.get?_push_of_some _ z);have hC1:=up _ _ hC;have hn1:(hp1.push eo).Ns N mN:=hn.keeps up;have sz:hp1.objs.size=h.objs.size+1:=by rw [<-hp,Heap.size_push]
 have he:(hp1.push eo).get? (h.objs.size+1)=some eo:=by rw [<-sz];exact Heap.get?_push_size _ (by rw [<-ho];rfl)
 have hcl:eo.cls=.ref C:=by rw [<-ho]
 have hsub:(Value.ref C:: bm).contains (.ref C)=true:=by simp
 unfold isInstance;repeat (first | (with_reducible refine wpAny_loadPart_at he ?_;rw [hcl]) | (with_reducible refine wpAny_isSubtype_exc hC1 ?_;rw [hsub]) | wp_step)
 show wpAny _ _ (typeLookup (.ref C) _) _ _ _;refine Q9 hC1 hn1 hi ?_;refine wpAny_holding (wpAny_bind ?_);unfold bindSpecial;refine wpAny_bind (wpAny_typeOf (T:= "function") ⟨_,up _ _ hf,hfc⟩ ?_);rw [if_pos (by decide)];have made:Heap.MadeExcOf h (hp1.push eo) (h.objs.size+1) (.ref C) us:=by refine⟨up,Heap.get?_none_of_le (le_succ _),h.objs.size,by rw [he,<-ho],Heap.get?_none_of_le (le_refl _),?_⟩;refine Heap.get?_push_of_some _ ?_;rw [<-hp];exact Heap.get?_push_at Z Z
 refine wpAny_pure (wpAny_bind (wpAny_mono (go _ _ (le_succ _) made) (λr s' hr=>?_) λ_ _ x=>x));obtain⟨rfl,hQ⟩:=hr
 wp_walk
 exact hQ
end
section
variable {prog:Program} {w:World} {A:Around} {E:Value->Shared->Prop} {h:Heap} {g:Array GenState} {d:Drawn} {t:Nat} {os:OsState}
variable {nm q:Str} {C N:Addr} {bs bm bmB:List Value} {hdct:Bool} {sn:List Str} {sub:List Value} {ab:Bool} {col:Option Bool} {dd:Option Addr} {k0 k1 k2 k3 k5:Option Value} {B newId initId:String}
theorem Ws (F:ExcBaseFacts B newId initId bmB) (T:OwnTail h bmB bm) {mN:Str->Option Value} {us:List Value} {f:Addr} {fo:Obj} {Q:Value->Shared->Prop}
  (hC:h.get? C=some (excClassObj nm q C N bs bm hdct sn sub ab col dd k0 k1 k2 k3 k5 newId)) (hn:h.Ns N mN) (hi:mN "__init__" =some (.ref f)) (hf:h.get? f=some fo) (hfc:fo.cls=.type "function")
  (go:∀h' e,h.objs.size<=e->Heap.MadeExcOf h h' e (.ref C) us->wpAny (model prog w) (A.under (.builtin "type.__call__" ⟨.ref C:: us,[]⟩)) (call (.ref f) (.ref e:: us)) (λr s'=>r=.none/\Q (.ref e) s') E ⟨h',g,d,t,os⟩) (hz:us.length<=sizeLine):
  wpAny (model prog w) A (call (.ref C) us) Q E ⟨h,g,d,t,os⟩:=by
 have z1:=tc_lookup;have z2:=tc_bind (.ref C);have z3:(⟨h,g,d,t,os⟩:Shared).TypeIs (.ref C) "type" :=⟨_,hC,rfl⟩;refine wpAny_call (codeAny_of_tree ?_);show wpAny _ _ (callAny (.ref C) _) _ _ _;repeat (any_goals (first | assumption | with_reducible refine wpAny_loadPart_at hC ?_ | wp_step))
 refine⟨Z,?_⟩;exact codeAny_call_builtin_at (Code.quiet_builtin _ (by decide +kernel)) entry_typeCall (wpAny_check_type_call_sub hC (Jg F T hC hn hi hf hfc (λh' e z m=>go h' e z m) hz))
theorem VG (F:ExcBaseFacts B newId initId bmB) (T:OwnTail h bmB bm) {e:Addr} {oe:Obj} {a0:Addr} {vr:List Value} {us:List Value} {Q:Value->Shared->Prop}
  (hC:h.get? C=some (excClassObj nm q C N bs bm hdct sn sub ab col dd k0 k1 k2 k3 k5 newId)) (he:h.get? e=some oe) (hcls:oe.cls=.ref C) (hd:oe.data=.fields (.ref a0:: vr).toArray) (hz:us.length<=sizeLine)
  (go:∀h' tp,h.get? tp=none->(∀b o,b≠e->h.get? b=some o->h'.get? b=some o)->h'.get? e=some { oe with data:=.fields (.ref tp:: vr).toArray }->Q .none ⟨h',g,d,t,os⟩):
  wpAny (model prog w) A (call (.builtin initId) (.ref e:: us)) Q E ⟨h,g,d,t,os⟩:=by
 obtain⟨oc,od,dt,osl⟩:=oe;obtain rfl:oc=.ref C:=hcls;obtain rfl:dt=.fields (.ref a0:: vr).toArray:=hd;refine wpAny_call (codeAny_call_builtin F.init.plain F.initEntry (wpAny_check_init_subT F T hC he Z ?_))
 wp_walk
 refine go _ h.objs.size (Heap.get?_none_of_le (le_refl _)) (λb o hb hq=>?_) ?_
 ·rw [Heap.get?_update_other _ _ (Ne.symm hb)];exact Heap.get?_push_of_some _ hq
 ·rw [Heap.get?_update_self _ (Heap.get?_push_of_some _ he) rfl];rfl
end
end L2
namespace L2
open PySem Builtin Builtin.ObjectAttr
noncomputable def zX:List Value->Bool
 | .ref _:: r=>zX r
 | l=>l == Ft
theorem uX (self:Value):∀{l:List Value},zX l=true->refuseLoop self "__setattr__" l=pure ()
 | [],e=>by cases (beq_iff_eq.mp (show(([]:List Value) == Ft)=true from e))
 | v:: r,e=>by
  cases v with
  | ref c=>rw [refuseLoop_ref];exact uX self (l:=r) e
  | _=>rw [beq_iff_eq.mp (show(_ == Ft)=true from e)];exact PySem.F.store_ValueError.passes self
theorem Bv:∀{l:List Value},zX l=true->l.contains (.type "object")=true
 | [],e=>by cases (beq_iff_eq.mp (show(([]:List Value) == Ft)=true from e))
 | v:: r,e=>by
  cases v with
  | ref c=>rw [List.contains_cons,Bv (l:=r) e,Bool.or_true]
  | _=>rw [beq_iff_eq.mp (show(_ == Ft)=true from e)];decide +kernel
structure Nf (K:Fr) (C:Addr):Prop where
 xc:Wb K C
 sa:PySem.W.findIn K (.ref C) "__setattr__" =some (some (.builtin "object.__setattr__"))
 ov:(PySem.W.clsIn K C).any (λcd=>zX cd.mro && cd.hasDict)=true
section
variable {prog:Program} {w:World} {A:Around} {E:Value->Shared->Prop} {h:Heap} {g:Array GenState} {d:Drawn} {t:Nat} {os:OsState} {x C:Addr} {K:Fr} {mA:Str->Option Value} {name:Str} {v:Value}
theorem Pn (I:h.Inst x C mA):∃ox od,PySem.W.InstAt h x ox C od/\((ox.dict=none/\od=none/\∀n,mA n=none)∨∃dx o,ox.dict=some dx/\dx≠x/\od=some o/\h.Ns1 dx mA/\∀n,PySem.W.lookIn n o=some (mA n)):=by
 obtain⟨o,hx,hc,hnc,hd⟩:=I;have no:PySem.W.notCls o=true:=by
  unfold PySem.W.notCls;split
  ·rename_i c hcd;exact absurd hcd (hnc _)
  ·rfl
 rcases hd with ⟨hdn,hm⟩ | ⟨dx,hdx,hne,hns⟩
 ·exact⟨o,none,⟨hx,hc,no,by rw [hdn];exact True.intro⟩,.inl ⟨hdn,rfl,hm⟩⟩
 ·obtain⟨od,ho,hl⟩:=Ai hns;exact⟨o,some od,⟨hx,hc,no,by rw [hdx];exact ho⟩,.inr ⟨dx,od,hdx,hne,rfl,hns,hl⟩⟩
theorem Ui {tk:Tok} {ns:List Str} {R:Result->Shared->Prop} (X:K.In h) (c:Nf K C) (ht:PySem.W.takerIn K C name=some none) (I:h.Inst x C mA) (hw:PySem.Within mA ns) (hsz:ns.length<=sizeLine)
  (hq:∀h' tk',h'.Inst x C (λy=>if y=name then some v else mA y)->
   (∀b o,b≠x->(∀o₀ dx,h.get? x=some o₀->o₀.dict=some dx->b≠dx)->h.get? b=some o->h'.get? b=some o)->
   (∀o₀,h.get? x=some o₀->∃o₁,h'.get? x=some o₁/\o₁.cls=o₀.cls/\o₁.data=o₀.data/\o₁.slots=o₀.slots/\(∀dx,o₀.dict=some dx->o₁.dict=some dx)/\(o₀.dict=none->o₁.dict=some h.objs.size))->R (.ok (.ret .none)) ⟨h',g,d,tk',os⟩):
  codeAny (model prog w) A (.call (.builtin "object.__setattr__") ⟨[.ref x,.str name tk,v],[]⟩) R ⟨h,g,d,t,os⟩:=by
 have SF:=PySem.F.store_object;obtain⟨cd,hc,ho⟩:=PySem.W.any_some c.ov;simp only [and_eq_true] at ho;obtain⟨ho,hd'⟩:=ho;obtain⟨ox,od,J,_⟩:=Pn I;have ne:cd.mro.isEmpty=false:=by cases q:cd.mro with | nil=>rw [q] at ho;cases ho | cons _ _=>rfl
 have sub:PySem.W.Looks (model prog w) h (isInstance (.ref x) (.type "object")) true:=J.type.andThen (PySem.W.looks_mroIn X (by unfold PySem.W.mroIn;rw [hc,Option.bind_some,if_neg (by rw [ne];decide),Bv ho]));refine codeAny_call_builtin SF.slot.plain SF.entry (@PySem.W.check_slot (model prog w) _ _ ⟨h,g,d,t,os⟩ "object.__setattr__" "object" "__setattr__" (.ref x) [.str name tk,v] [] _ SF.kind SF.split sub (SF.args (.ref x) (.str name tk) v) ?_);obtain⟨attr,ha,hr⟩:=Option.bind_eq_some_iff.mp ht;have hm:PySem.W.Looks (model prog w) h (mroOf (.ref C)) cd.mro:=(PySem.W.looks_clsIn X hc).andThen .now;have L3:PySem.W.Looks (model prog w) h (storeTaker? attr) none:=by
  cases attr with
  | none=>exact .now
  | some a=>
   obtain⟨b,hb,e⟩:=map_eq_some_iff.mp hr;refine(PySem.W.looks_takesIn X hb).andThen ?_;cases b with
   | true=>cases e
   | false=>exact .now
 rw [PySem.W.osa_eq,refuse_eq];refine wpAny_bind (wpAny_bind (J.type.at (wpAny_bind (hm.at ?_))));rw [uX _ ho];refine wpAny_pure (wpAny_bind (J.type.at (wpAny_bind ((PySem.W.looks_findIn X ha).at (wpAny_bind (L3.at ?_))))));obtain⟨o,hx,hcl,hnc,hd⟩:=I;obtain⟨oc,odi,oda,osl⟩:=o;dsimp only at hcl hnc hd;subst hcl;refine wpAny_bind (wpAny_pure (wpAny_bind (wpAny_bind (wpAny_loadPart hx (wpAny_bind ((PySem.W.looks_clsIn X hc).at ?_))))));rw [hd'];rcases hd with ⟨hdn,hmA⟩ | ⟨dx,hdx,hne,hns⟩
 ·subst hdn;have hxs:x≠h.objs.size:=ne_of_lt (Heap.lt_size hx);have hx₁:(h.push { cls:=.type "dict",data:=.dict #[] }).get? x=some ⟨.ref C,none,oda,osl⟩:=Heap.get?_push_of_some _ hx;dsimp only;rw [if_neg (by simp)];split
  ·rename_i z;cases z
  split
  ·exact absurd Z (hnc _)
  refine wpAny_bind (wpAny_alloc' (wpAny_bind (wpAny_update' hx₁ (wpAny_pure ?_))));have hgd:((h.push { cls:=.type "dict",data:=.dict #[] }).update x λo=>{ cls:=o.cls,dict:=some h.objs.size,data:=o.data,slots:=o.slots }).get? h.objs.size
    =some { cls:=.type "dict",data:=.dict #[] }:=(Heap.get?_update_ne _ _ _ _ hxs.symm).trans (Heap.get?_push_at rfl rfl)
  have hnd:((h.push { cls:=.type "dict",data:=.dict #[] }).update x λo=>{ cls:=o.cls,dict:=some h.objs.size,data:=o.data,slots:=o.slots }).Ns h.objs.size (λ_=>none):=
   ⟨_,#[],_,hgd,rfl,λe he=>absurd he (by simp),λ_=>rfl⟩
  show wpAny _ _ (storeInDict h.objs.size (.str name tk) name v) _ _ _;unfold storeInDict newKeyGuard;refine wpAny_bind (wpAny_pure (wpAny_bind (wpAny_nsSet1 (Heap.Ns1.of_empty hnd) λh' hn' hs=>?_)));obtain⟨oD,esD,epD,hoD,hdD,hcD⟩:=hn'.count (Within.cons name v Within.nil);refine wpAny_bind (wpAny_lookBehind hoD (by rw [hdD];exact pastItsLine_dict (le_trans hcD (by rw [length_cons,length_nil,sizeLine_eq];lia))) ?_)
  wp_walk
  have hx':h'.get? x=some ⟨.ref C,some h.objs.size,oda,osl⟩:=by refine(hs.2 x hxs).trans (Heap.get?_update_self _ hx₁ ?_);have hfr:=(Heap.get?_some_iff.mp hx).2;cases oda <;> first | rfl | exact hfr
  refine hq h' _ ⟨_,hx',Z,hnc,.inr ⟨h.objs.size,Z,hxs.symm,?_⟩⟩ (λb ob hbx _ hb=>?_)
   (λo₀ h₀=>by obtain rfl:=Option.some.inj (hx.symm.trans h₀);exact⟨_,hx',rfl,rfl,rfl,λdx e=>(by cases e),λ_=>rfl⟩)
  ·obtain⟨o',es,ep,e1,e2,e3,eu,e4⟩:=hn';exact⟨o',es,ep,e1,e2,e3,eu,λy=>by rw [e4 y];by_cases hy:y=name <;> simp [hy,hmA]⟩
  ·exact(hs.2 b (ne_of_lt (Heap.lt_size hb))).trans ((Heap.get?_update_ne _ _ _ _ hbx).trans (Heap.get?_push_of_some _ hb))
 ·subst hdx;refine wpAny_pure (a:=some dx) (wpAny_bind (wpAny_pure (wpAny_bind ?_)));refine wpAny_nsSet1 (s:=⟨h,g,d,t,os⟩) hns λh' hn' hs=>?_;obtain⟨oD,esD,epD,hoD,hdD,hcD⟩:=hn'.count (PySem.Within.cons name v hw);refine wpAny_bind (wpAny_lookBehind hoD (by rw [hdD];exact pastItsLine_dict (le_trans hcD (by rw [length_cons];lia))) ?_);refine wpAny_pure (hq h' _ ⟨_,(hs.2 x hne.symm).trans hx,rfl,hnc,.inr ⟨dx,rfl,hne,hn'⟩⟩ (λb ob _ hbd hb=>?_) (λo₀ h₀=>⟨o₀,(hs.2 x hne.symm).trans h₀,rfl,rfl,rfl,λ_ e=>e,λe=>by obtain rfl:=Option.some.inj (hx.symm.trans h₀);cases e⟩));exact(hs.2 b (hbd _ dx hx Z)).trans hb
theorem X6 {ns:List Str} {Q:Unit->Shared->Prop} (X:K.In h) (c:Nf K C) (ht:PySem.W.takerIn K C name=some none) (I:h.Inst x C mA) (hw:PySem.Within mA ns) (hsz:ns.length<=sizeLine)
  (hq:∀h' tk',h'.Inst x C (λy=>if y=name then some v else mA y)->
   (∀b o,b≠x->(∀o₀ dx,h.get? x=some o₀->o₀.dict=some dx->b≠dx)->h.get? b=some o->h'.get? b=some o)->
   (∀o₀,h.get? x=some o₀->∃o₁,h'.get? x=some o₁/\o₁.cls=o₀.cls/\o₁.data=o₀.data/\o₁.slots=o₀.slots/\(∀dx,o₀.dict=some dx->o₁.dict=some dx)/\(o₀.dict=none->o₁.dict=some h.objs.size))->Q () ⟨h',g,d,tk',os⟩):
  wpAny (model prog w) A (setAttr (.ref x) name v) Q E ⟨h,g,d,t,os⟩:=by
 obtain⟨ox,od,J,_⟩:=Pn I;exact PySem.W.set_plain X J c.sa (Ui X c ht I hw hsz λh' tk' a b e=>hq h' tk' a b e)
theorem YM {ox:Obj} {od:Option Obj} {expr:Bool} {Q:Value->Shared->Prop} (X:K.In h) (c:Nf K C) (J:PySem.W.InstAt h x ox C od) (hf:PySem.W.findObj K C od name=some (.value v)) (hh:PySem.W.handedIn v=true)
  (hq:Q v ⟨h,g,d,t+1,os⟩):wpAny (model prog w) A (getAttr (.ref x) name expr) Q E ⟨h,g,d,t,os⟩:=by
 have L:=c.xc.lk (M:=model prog w) X;have FB:=PySem.F.attr_ValueError;have hx:=J.at_;have hc:=J.cls;have L0:=J.type (M:=model prog w);have L1:=PySem.W.looks_find (M:=model prog w) X J hf;have f3:=FB.ga.bind (.ref x);have hx0:(expr && onTheHeap (Value.builtin "BaseException.__getattribute__"))=false:=by cases expr <;> rfl
 have hx2:(Value.builtin "BaseException.__getattribute__" == Value.builtin "object.__getattribute__")=false:=by decide +kernel
 have hx1:(onTheHeap (Value.ref C) && Value.builtin "BaseException.__getattribute__" == Value.builtin "object.__getattribute__")=false:=by rw [hx2];rfl
 unfold getAttr;repeat (any_goals (first | assumption | (with_reducible refine wpAny_loadPart_at hx ?_;rw [hc]) | with_reducible refine L.ga ?_ | with_reducible refine L.gn ?_ | wp_step))
 refine codeAny_call_builtin FB.ga.plain PySem.F.entry_bexc_ga (Mf L hx hc ?_);refine wpAny_bind (wpAny_pure (wpAny_bind (wpAny_pure (wpAny_bind (L0.at (wpAny_bind (L1.at (wpAny_pure ?_))))))));show wpAny _ _ (handedOut v) _ _ _;rw [PySem.W.handedOut_of hh];exact wpAny_pure hq
end
end L2
namespace L2
open PySem PySem.Spec PyProof.Rows
noncomputable def xj (x C:Addr):HO:=.ext λh=>∃a0 vr sl,h.get? x=some ⟨.ref C,none,.fields (.ref a0:: .none:: vr).toArray,sl⟩
noncomputable def CN (x C dx:Addr):HO:=.ext λh=>∃a0 vr sl,h.get? x=some ⟨.ref C,some dx,.fields (.ref a0:: .none:: vr).toArray,sl⟩
section
variable {X:Cx} {pins:List (Addr×Obj)} {σ:St} {H:Hp} {s:Shared} {a C dx:Addr} {fs:List (Str×V)} {f:Str} {v:V} {A:Around} {E:Value->Shared->Prop}
theorem Inv.size (I:Inv X pins σ H s):X.s₀.heap.objs.size<=s.heap.objs.size:=by obtain⟨m,⟨o,_,_,ho,_⟩,_⟩:=I.loc;exact le_of_lt (lt_of_le_of_lt I.ok.above (Heap.lt_size ho))
theorem Inv.track_new {s':Shared} {H':Hp} {x:Addr} {o:HO} (I:Inv X pins σ H s) (I':Inv X pins σ H' s') (hx:s.heap.objs.size<=x) (hn:H' x=none) (new:dD X.prog X.w (upd H' x o) s'.heap x o):Inv X pins σ (upd H' x o) s':=by
 have ne:∀b u,s.heap.get? b=some u->b≠x:=λb u e z=>lt_irrefl _ (lt_of_lt_of_le (Heap.lt_size e) (z ▸ hx));refine I'.track hn (Heap.get?_none_of_le (le_trans I.size hx)) ?_ (λy c e=>?_) (λp hp=>?_) new
 ·obtain⟨m,⟨o,_,_,ho,_⟩,_⟩:=I.loc;exact(ne _ _ ho).symm
 ·obtain⟨v,o,ho,_⟩:=I.cell y c e;exact ne _ _ ho
 ·exact ne _ _ (I.pin p hp).1
theorem Nf.dict {K:Fr} {C:Addr} (c:Nf K C):PySem.W.hasDictIn K C=true:=by obtain⟨cd,hc,ho⟩:=PySem.W.any_some c.ov;simp only [and_eq_true] at ho;unfold PySem.W.hasDictIn;rw [hc];exact ho.2
theorem Wg {y:V} {u:Value} {Q:Unit->Shared->Prop} (I:Inv X pins σ H s) (e:H a=some (xj a C)) (c:Nf X.K C) (n:ig X.K C f) (ry:RelV y u)
  (h:∀dx s',H dx=none->dx≠a->Inv X pins σ (upd (upd H a (CN a C dx)) dx (.xd [(f,y)])) s'->Q () s'):wpAny (model X.prog X.w) A (setAttr (.ref a) f u) Q E s:=by
 obtain⟨⟨a0,vr,sl,hx⟩,_,_⟩:=(show dD X.prog X.w H s.heap a (xj a C) from I.hok a _ e);obtain⟨hp,g,d,t,os⟩:=s;dsimp only at hx;have inst:hp.Inst a C (λ_=>none):=⟨_,hx,rfl,λ_=>Data.noConfusion,.inl ⟨rfl,λ_=>rfl⟩⟩;refine X6 (ns:=[]) I.kIn c n.taker inst PySem.Within.nil (zero_le _) λh' tk' I' kb ks=>?_;obtain⟨o₁,e1,e2,e3,e4,_,e6⟩:=ks _ hx;have ed:=e6 rfl;obtain⟨o1c,o1d,o1t,o1s⟩:=o₁;dsimp only at e2 e3 e4 ed;subst e2 e3 e4 ed;have ne:hp.objs.size≠a:=Nat.ne_of_gt (Heap.lt_size hx);have fr:H hp.objs.size=none:=I.hok.fresh (le_refl _);have I1:Inv X pins σ (upd H a (CN a C hp.objs.size)) ⟨h',g,d,tk',os⟩:=by
  refine I.write (x:=a) (e:=a) (o:=CN a C hp.objs.size) (by rw [e];exact True.intro) (.inl rfl) (λb o hb z=>kb b o hb (λo₀ dx q r=>?_) z) ⟨_,e1⟩ ?_
  ·obtain rfl:=Option.some.inj (hx.symm.trans q);cases r
  ·exact⟨⟨_,_,_,e1⟩,⟨_,e1⟩,λh1 h2 ⟨x1,x2,x3,z⟩ k=>⟨x1,x2,x3,k _ z⟩⟩
 refine h _ _ fr ne (I.track_new I1 (le_refl _) (by rw [aG ne];exact fr) ?_);obtain⟨o2,f1,f2,f3,f4⟩:=I';obtain rfl:=Option.some.inj (e1.symm.trans f1);rcases f4 with ⟨z,_⟩ | ⟨d2,z,_,hn⟩
 ·cases z
 ·obtain rfl:=Option.some.inj (show some hp.objs.size=some d2 from z);refine⟨_,hn,λg=>?_⟩;by_cases q:g=f
  ·subst q;rw [if_pos rfl];show rA (List.lookup g [(g,y)]) (some u);simp only [List.lookup,beq_self_eq_true];exact ry
  ·rw [if_neg q];have hb:(g == f)=false:=beq_eq_false_iff_ne.mpr q;show rA (List.lookup g [(f,y)]) none;simp only [List.lookup,hb];exact True.intro
theorem Wh {b:Bool} {Q:Value->Shared->Prop} {fl:Array Value} {sl:Array (Option Value)} (I:Inv X pins σ H s) (hx:s.heap.get? a=some ⟨.ref C,some dx,.fields fl,sl⟩) (ed:H dx=some (.xd fs)) (c:Nf X.K C) (n:ig X.K C f) (l:fs.lookup f=some v)
  (h:∀u s',Inv X pins σ H s'->RelV v u->Q u s'):wpAny (model X.prog X.w) A (getAttr (.ref a) f b) Q E s:=by
 obtain⟨mA,hn,r⟩:=(show dD X.prog X.w H s.heap dx (.xd fs) from I.hok dx _ ed);obtain⟨od,ho,hl⟩:=Ai hn;obtain⟨u,hu,ru⟩:=rA.some_of (v:=v) (o:=mA f) (by rw [<-l];exact r f);have J:PySem.W.InstAt s.heap a ⟨.ref C,some dx,.fields fl,sl⟩ C (some od):=⟨hx,rfl,rfl,ho⟩;obtain⟨hp,g,d,t,os⟩:=s;exact YM I.kIn c J (PySem.W.findObj_own c.dict n Z (by rw [hl,hu])) (Hi ru) (h u _ (I.tok _) ru)
end
inductive RD (K:Fr) (f:Str) (D:Ends) (σ:St) (y:V) (x:V) (H2:Hp):Prop where
 | mk:∀a C,x=.ref a->H2 a=some (xj a C)->Nf K C->ig K C f->(∀dx,H2 dx=none->dx≠a->D.nx σ (upd (upd H2 a (CN a C dx)) dx (.xd [(f,y)])))->RD K f D σ y x H2
noncomputable def aar (K:Fr) (ta tv:TE) (f:Str):TS:=λD σ H=>tv σ H λy H1=>ta σ H1 λx H2=>RD K f D σ y x H2
section
variable {X:Cx} {e o value:Expr} {f:Str} {pos pos':Pos} {ta tv:TE}
theorem Pa (ha:PE X o ta) (hv:PE X value tv) (hs:swapsWith value (some (.Attribute o f pos')) pos.line X.env=pure false):PS X (.Assign [.Attribute o f pos'] value pos) (aar X.K ta tv f):=by intro pins s σ H D I h;refine plainObj_wpAny_Assign_Attribute (dz (hv pins s σ H _ I h) λu s1 ⟨y,H1,I1,ry,q⟩=>dz (ha pins s1 σ H1 _ I1 q) λov s2 hpt=>?_) hs;obtain⟨x,H2,I2,rx,a,C,ex,ea,c,n,q2⟩:=hpt;subst ex;obtain rfl:ov=Value.ref a:=rx;exact Wg I2 ea c n ry λdx s3 h1 h2 I3=>⟨σ,_,I3,q2 dx h1 h2⟩
end
noncomputable def SX (K:Fr) (C f:Addr):Bool:=match K.lookup C with
 | some o=>(match o.data with
  | .cls kd=>o.cls == .type "type" && kd.mro.head? == some (.ref C) && PySem.W.tailIn K Ft kd.mro.tail && !kd.hasDel && PySem.W.nsOkIn K kd.ns && Rg K kd.ns "__init__" == some (.ref f) && o.slots.size == 6 && o.slots[4]? == some (some (.builtin "ValueError.__new__"))
  | _=>false)
 | none=>false
structure rF (K:Fr) (C f:Addr):Prop where
 ex:∃(nm q:Str) (Nn:Addr) (bs bm:List Value) (hdct:Bool) (sn:List Str) (sub:List Value) (ab:Bool) (col:Option Bool) (dd:Option Addr) (k0 k1 k2 k3 k5:Option Value) (mN:Str->Option Value),
  mN "__init__" =some (.ref f)/\∀h:Heap,K.In h->h.get? C=some (excClassObj nm q C Nn bs bm hdct sn sub ab col dd k0 k1 k2 k3 k5 "ValueError.__new__")/\h.Ns Nn mN/\OwnTail h Ft bm
theorem aaS {α:Type}:∀{l:List α},l.length=6->∃a b c d e f,l=[a,b,c,d,e,f]
 | [a,b,c,d,e,f],_=>⟨a,b,c,d,e,f,rfl⟩
theorem rF.ofIn {K:Fr} {C f:Addr} (z:SX K C f=true):rF K C f:=by
 unfold SX at z;split at z
 ·rename_i o look;obtain⟨oc,od,dt,slo⟩:=o;dsimp only at z;split at z
  ·rename_i kd;simp only [and_eq_true,beq_iff_eq,Bool.not_eq_true'] at z;obtain⟨⟨⟨⟨⟨⟨⟨x1,x2⟩,x3⟩,x4⟩,x5⟩,x6⟩,x7⟩,x8⟩:=z;subst x1;obtain⟨g1,g2,g3,g4,g5,g6,g7,g8,g9,g10,g11⟩:=kd;dsimp only at x2 x3 x4 x5 x6;obtain⟨sl⟩:=slo;obtain⟨a0,a1,a2,a3,a5,rfl⟩:∃a0 a1 a2 a3 a5,sl=[a0,a1,a2,a3,some (.builtin "ValueError.__new__"),a5]:=by obtain⟨a0,a1,a2,a3,a4,a5,rfl⟩:=aaS (show sl.length=6 from x7);have e:a4=some (.builtin "ValueError.__new__"):=Option.some.inj (show some a4=_ from x8);subst e;exact⟨a0,a1,a2,a3,a5,Z⟩
   obtain⟨up,rfl⟩:∃up,g3=.ref C:: up:=by
    cases g3 with
    | nil=>cases x2
    | cons v r=>cases (show some v=some (Value.ref C) from x2);exact⟨r,rfl⟩
   subst x4;refine⟨⟨g1,g5,g4,g2,up,g6,g7,g8,g9,g10,od,a0,a1,a2,a3,a5,Rg K g4,x6,λh X=>⟨X _ _ look,?_,PySem.W.tail_of_in X x3⟩⟩⟩;rw [<-Ti X x5];exact .of_isNs (PySem.W.isNs_of_in X x5)
  ·cases z
 ·cases z
structure Xu (K:Fr) (B:Addr):Prop where
 sp:PySem.W.specialIn K (.ref B) "__getattribute__" =some (some (.builtin "type.__getattribute__"))
 rd:PySem.W.readsIn K B (.type "type")=true
 fi:PySem.W.findCls K (.ref B) (.type "type") "__init__" =some (.val (.builtin "ValueError.__init__"))
noncomputable def tBase (K:Fr) (t:TA):TE:=λσ H Q=>t σ H λvs H1=>∃a C f us,vs=.ref a:: us/\H1 a=some (xj a C)/\rF K C f/\us.length<=1000/\Q .non H1
section
variable {X:Cx} {CX:CZ} {k:Nat} {C B f:Addr} {fd:FuncData} {ps:List Str} {sp:Sp} {E:XK} {x:Str} {p pos apos:Pos} {e:Expr} {es:List Expr} {t:TA}
theorem QX:lg X (.builtin "ValueError.__init__") (λxs H Q=>∃a C f us,xs=.ref a:: us/\H a=some (xj a C)/\rF X.K C f/\us.length<=1000/\Q .non H):=by
 intro pins s σ H xs us Q I r h;obtain⟨a,C,f,vs,rfl,ea,c,hz,q⟩:=h;obtain⟨nm,q',Nn,bs,bm,hdct,sn,sub,ab,col,dd,k0,k1,k2,k3,k5,mN,hi,hf⟩:=c.ex;cases r with
 | cons r1 r=>
  rename_i u us;obtain rfl:u=Value.ref a:=r1;obtain⟨⟨a0,vr,sl,hx⟩,_,_⟩:=(show dD X.prog X.w H s.heap a (xj a C) from I.hok a _ ea);obtain⟨hC,hn,T⟩:=hf _ I.kIn;obtain⟨hp,g,d,t,os⟩:=s;refine VG PySem.F.excBase_ValueError T hC hx rfl rfl (by rw [<-r.length,sizeLine_eq];lia) λh' tp _ kb e2=>⟨.non,H,?_,rfl,q⟩;have I1:=I.write (x:=a) (e:=a) (o:=xj a C) (h':=h') (t':=t) (by rw [ea];exact True.intro) (.inl rfl) kb ⟨_,e2⟩ ⟨⟨_,_,_,e2⟩,⟨_,e2⟩,λh1 h2 ⟨x1,x2,x3,z⟩ k=>⟨x1,x2,x3,k _ z⟩⟩;rwa [show upd H a (xj a C)=H from by funext b;by_cases q:b=a <;> simp [upd,q,ea]] at I1
theorem PB {pl:Sem Bool} (hg:Gl X x) (hm:X.mg x=some (.ref B)) (b:Xu X.K B) (ha:PA X (e:: es) t) (hdb:(x == ("__debug__" :Str))=false:=by decide)
  (hst:starEach (e:: es) X.env=(false,eval e X.env):: starEach es X.env:=by rfl) (hpl:(backTo pos (starEach es X.env)).any (·.1)=false:=by rfl)
  (ht:eval (.Call (.Attribute (.Name x p) "__init__" apos) (e:: es) [] pos) X.env=(do
   let ov <-eval (.Name x p) X.env
   standAt apos.atName
   let (f,first) <-holding [ov] (getMethod ov "__init__" pl)
   callWith pos f first (backTo pos (starEach (e:: es) X.env)) (backToKw pos (keywordEach [] X.env))):=by rfl):
  PE X (.Call (.Attribute (.Name x p) "__init__" apos) (e:: es) [] pos) (tBase X.K t):=by
 intro pins s σ H Q I h;refine PySem.W.methodCall_KW (pl:=pl) (wH I hg hm ?_ hdb) ht;refine PySem.W.method_cls I.kIn b.sp (PySem.W.cls_value I.kIn b.rd b.fi Z ?_);have hA:=ha pos pins _ σ H _ (I.tok (s.toks+1)) h;rw [hst] at hA ⊢;refine Calls.callWith_builtin (by show(false || (backTo pos (starEach es X.env)).any (·.1))=false;rw [hpl] <;> rfl) (Calls.evalArgs_plain ?_);exact dz hA λus s2 ⟨vs,H2,I2,r2,q2⟩=>QX pins s2 σ H2 vs us Q I2 r2 q2
end
structure MkX (K:Fr) (C f:Addr):Prop where
 ini:rF K C f
 fn:PySem.W.isFn K (.ref f)=true
 kp:PySem.W.keepIn K (.ref C)=true
section
variable {X:Cx} {CX:CZ} {k:Nat} {C f:Addr} {fd:FuncData} {ps:List Str} {sp:Sp} {E:XK} {x:Str} {p pos:Pos} {e:Expr} {es:List Expr} {t:TA}
theorem Qo {pins:List (Addr×Obj)} {σ:St} {H:Hp} {s:Shared} {Q:VK} {us:List Value} {vs:List V} (M:MkX X.K C f) (F:dR X.prog X.w X.K X.mg X.base CX k f fd ps sp) (hr:gZ (k+1) X.A) (hb:Binds X.K fd ps [])
  (hx:kJ CX X E) (I:Inv X pins σ H s) (r:Vals vs us) (hz:vs.length<=1000)
  (h:∀x,H x=none->X.s₀.heap.get? x=none->sp (.ref x:: vs) (upd H x (xj x C)) (λv H2=>v=.non/\Q (.ref x) H2) E):
  wpAny (model X.prog X.w) X.A (call (.ref C) us) (EP X pins σ Q) X.xe s:=by
 obtain⟨nm,q',Nn,bs,bm,hdct,sn,sub,ab,col,dd,k0,k1,k2,k3,k5,mN,hi,hf⟩:=M.ini.ex;obtain⟨hC,hn,T⟩:=hf _ I.kIn;obtain⟨fo,lf,hfc⟩:∃fo,X.K.lookup f=some fo/\fo.cls=.type "function" :=by have z:=beq_iff_eq.mp M.fn;exact map_eq_some_iff.mp z
 obtain⟨hp,g,d,t,os⟩:=s;refine Ws PySem.F.excBase_ValueError T hC hn hi (I.kIn _ _ lf) hfc (λh' e hs made=>?_) (by rw [<-r.length,sizeLine_eq];lia);obtain⟨tp,e1,_,_⟩:=made.there;have I2:Inv X pins σ (upd H e (xj e C)) ⟨h',g,d,t,os⟩:=I.laid (t':=t) made.keeps hs ⟨⟨_,_,_,e1⟩,⟨_,e1⟩,λh1 h2 ⟨x1,x2,x3,z⟩ k=>⟨x1,x2,x3,k _ z⟩⟩;have hq:=h e (I.hok.fresh hs) (Heap.get?_none_of_le (le_trans I.size hs));have r2:Vals (V.ref e:: vs) (Value.ref e:: us):=.cons rfl r;have hl:(Value.ref e:: us ++ []).length=ps.length:=by have e:=r2.length;rw [F.len _ _ _ _ hq] at e;rw [append_nil];exact e.symm
 have hb2:=hb ⟨h',g,d,t,os⟩ (Value.ref e:: us) I2.kIn hl;rw [append_nil] at hb2;refine wpAny_call (codeAny_mono (F.run _ X.stack _ _ ⟨Value.ref e:: us,[]⟩ (Value.ref e:: us) _ _ E (hr.make C us []) (I2.env0.make C us []) hb2 r2 hq) λr s' hq'=>?_);cases r with
 | error e=>exact hx pins σ _ _ e s' I2 hq'
 | ok fl=>
  cases fl with
  | ret u=>
   obtain⟨v,H',I3,rv,ev,q3⟩:=I2.after hq';subst ev;exact⟨rv,⟨V.ref e,H',I3,Z,q3⟩⟩
  | next=>exact False.elim hq'
  | brk=>exact False.elim hq'
  | cont=>exact False.elim hq'
end
section
variable {X:Cx} {C:Addr} {x:Str} {p pos:Pos} {e:Expr} {es:List Expr} {t:TA}
end
end L2
namespace L2
open PySem
noncomputable def X3 (K:Fr) (C:Addr):Bool:=(PySem.W.clsIn K C).isSome && PySem.W.findIn K (.ref C) "__getattribute__" == some (some (.builtin "BaseException.__getattribute__")) && PySem.W.findIn K (.ref C) "__getattr__" == some none &&
 PySem.W.findIn K (.ref C) "__class__" == some (some (.builtin "object.__class__")) && PySem.W.subIn K (.ref C) (.type "object") == some true && PySem.W.subIn K (.ref C) (.type "BaseException") == some true
theorem Wb.ofIn {K:Fr} {C:Addr} (h:X3 K C=true):Wb K C:=by simp only [X3,and_eq_true,beq_iff_eq] at h;obtain⟨⟨⟨⟨⟨a,b⟩,c⟩,d⟩,e⟩,f⟩:=h;exact⟨a,b,c,d,e,f⟩
noncomputable def Ze (K:Fr) (C:Addr):Bool:=X3 K C && PySem.W.findIn K (.ref C) "__setattr__" == some (some (.builtin "object.__setattr__")) && (PySem.W.clsIn K C).any (λcd=>zX cd.mro && cd.hasDict)
theorem Nf.ofIn {K:Fr} {C:Addr} (h:Ze K C=true):Nf K C:=by simp only [Ze,and_eq_true,beq_iff_eq] at h;obtain⟨⟨a,b⟩,c⟩:=h;exact⟨.ofIn a,b,c⟩
noncomputable def Still {α:Type}:Sem α->Prop
 | .rule _ k | .at _ k | .point _ k=>Still (k ())
 | .load _ _ k=>∀o,Still (k o)
 | .update _ _ f k=>(∀o,(f o).dict=o.dict)/\Still (k ())
 | .loadIfAlive _ k=>∀o,Still (k o)
 | .alloc _ k=>∀a,Still (k a)
 | .fresh k=>∀t,Still (k t)
 | .ask k=>∀x,Still (k x)
 | .choose _ _ k=>∀n,Still (k n)
 | .os _ _ k=>∀r,Still (k r)
 | .handled _ k=>∀x,Still (k x)
 | .genState _ k=>∀x,Still (k x)
 | .newGen _ k=>∀x,Still (k x)
 | .stack k=>∀x,Still (k x)
 | .thread k=>∀x,Still (k x)
 | .call .. | .resume ..=>False
 | .pure _ | .raise _ | .unsupported _ | .finish _ | .register .. | .yield .. | .fork .. | .await ..=>True
noncomputable def DK (h h':Heap):Prop:=∀(b:Nat) (o:Obj),h.objs[b]?=some o->∃o',h'.objs[b]?=some o'/\o'.dict=o.dict
theorem DK.push {h h':Heap} (x:DK h h') (u:Obj):DK h (h'.push u):=λb o e=>by obtain⟨o',e1,e2⟩:=x b o e;have hb:b <h'.objs.size:=(Array.getElem?_eq_some_iff.mp e1).1;exact⟨o',by show(h'.objs.push u)[b]?=some o';rw [Array.getElem?_push_lt hb];exact e1 ▸ (Array.getElem?_eq_getElem hb).symm,e2⟩
theorem DK.update {h h':Heap} (x:DK h h') (a:Addr) {f:Obj->Obj} (hf:∀o,(f o).dict=o.dict):DK h (h'.update a f):=λb o e=>by
 obtain⟨o',e1,e2⟩:=x b o e;show ∃u,(h'.objs.modify a f)[b]?=some u/\u.dict=o.dict;rw [Array.getElem?_modify];by_cases q:a=b
 ·rw [if_pos q,e1];exact⟨f o',rfl,(hf o').trans e2⟩
 ·rw [if_neg q];exact⟨o',e1,e2⟩
theorem Uk {α:Type} (M:Model) (Γ:Ctx) {Q:α->Pos->Shared->Prop} {E:Value->Pos->Shared->Prop} (t:Sem α):∀(p:Pos) (s:Shared) (h0:Heap),Still t->DK h0 s.heap->Sem.wp M Γ t Q E p s->Sem.wp M Γ t (λa p' s'=>Q a p' s'/\DK h0 s'.heap) E p s:=by
 induction t with
 | pure x=>intro p s h0 _ d h;exact⟨h,d⟩
 | raise v=>intro p s h0 _ d h;exact h
 | unsupported | finish | yield | fork | await | register=>intro p s h0 _ d h;exact h
 | rule _ k ih | «at» _ k ih | point _ k ih=>intro p s h0 x d h;exact ih _ _ _ _ x d h
 | loadIfAlive _ k ih | fresh k ih | ask k ih | os _ _ k ih | handled _ k ih | newGen _ k ih | stack k ih | thread k ih=>intro p s h0 x d h;exact ih _ _ _ _ (x _) d h
 | alloc o k ih=>intro p s h0 x d h;exact ih _ _ _ _ (x _) (d.push o) h
 | load a _ k ih | genState a k ih=>intro p s h0 x d h;obtain⟨o,ho,h⟩:=h;exact⟨o,ho,ih _ _ _ _ (x _) d h⟩
 | update a _ f k ih=>intro p s h0 x d h;exact⟨h.1,ih _ _ _ _ x.2 (d.update a x.1) h.2⟩
 | choose _ _ k ih=>intro p s h0 x d h;exact⟨h.1,ih _ _ _ _ (x _) d h.2⟩
 | call c h g l k ih=>intro p s h0 x;exact x.elim
 | resume g r l k ih=>intro p s h0 x;exact x.elim
theorem DK.refl (h:Heap):DK h h:=λb o e=>⟨o,e,rfl⟩
theorem rQ {α:Type} {M:Model} {A:Around} {t:Sem α} {Q:α->Shared->Prop} {E:Value->Shared->Prop} {s:Shared} (x:Still t) (h:wpAny M A t Q E s):wpAny M A t (λa s'=>Q a s'/\DK s.heap s'.heap) E s:=
 λΓ p hΓ=>Uk M Γ t p s s.heap x (DK.refl _) (h Γ p hΓ)
theorem bF {α β:Type} {m:Sem α} {f:α->Sem β} (h1:Still m) (h2:∀a,Still (f a)):Still (m >>= f):=by
 show Still (m.bind f);induction m with
 | pure x=>exact h2 x
 | raise _ | unsupported _ | finish _ | register _ _ | yield _ _ _ _ | fork _ _ | await _ _ _ _ _=>exact True.intro
 | rule _ k ih | «at» _ k ih | point _ k ih=>exact ih _ h1
 | loadIfAlive _ k ih | fresh k ih | ask k ih | os _ _ k ih | handled _ k ih | newGen _ k ih | stack k ih | thread k ih | alloc _ k ih | load _ _ k ih | genState _ k ih | choose _ _ k ih=>exact λo=>ih o (h1 o)
 | update a _ f k ih=>exact⟨h1.1,ih _ h1.2⟩
 | call c h g l k ih=>exact h1
 | resume g r l k ih=>exact h1
theorem cz {α:Type} {a:α}:Still (Pure.pure a:Sem α):=True.intro
theorem jl {α:Type} {w:String}:Still (unsupported w:Sem α):=True.intro
theorem yE {a:Addr}:Still (load a):=λ_=>True.intro
theorem uN:Still stack:=λ_=>True.intro
theorem qL {v:Value} {i:Nat}:Still (field v i):=by
 unfold field fieldsOf;refine bF ?_ λx=>?_
 ·split
  ·exact bF yE λo=>by split <;> first | exact cz | exact jl
  ·exact jl
 ·split <;> first | exact cz | exact jl
theorem Fq (f:Array Value->Array Value) (o:Obj):(Obj.mapFields f o).dict=o.dict:=by unfold Obj.mapFields;split <;> rfl
theorem jd {v:Value} {i:Nat} {x:Value}:Still (setField v i x):=by
 unfold setField updateField;split
 ·refine bF yE λo=>?_;split
  ·split
   ·exact⟨Fq _,True.intro⟩
   ·exact jl
  ·exact jl
 ·exact jl
theorem ou {e:Value} {f:Option Addr}:Still (setFlight e f):=by
 unfold setFlight;refine bF qL λtb=>?_;split
 ·exact jd
 ·exact cz
theorem wz {f:Addr} {b:Bool}:Still (entryPlaceOf f b):=by unfold entryPlaceOf;exact bF uN λa=>by split <;> exact cz
theorem uU {a b c d e:Value} {l:List Value}:Still (EntryCells.newEntry a b c d e l):=by unfold EntryCells.newEntry newFields newObj newObjAsIs;dsimp only;split <;> split <;> first | exact True.intro | exact λ_=>True.intro
theorem My:Still frameEnvs:=by unfold frameEnvs;exact bF uN λ_=>cz
theorem Jw {e:Env} {l:List Env}:Still (behindIsImport e l):=by
 unfold behindIsImport;split
 ·exact cz
 ·split
  ·exact cz
  ·exact bF qL λ_=>cz
theorem Nm {e:Env} {b:Bool}:∀{l:List Env},Still (keptBack e b l)
 | []=>by
  rw [keptBack];unfold underTheClaimsCaller;split
  ·exact cz
  ·exact bF (bF uN λ_=>cz) λ_=>cz
 | _:: _=>by rw [keptBack];exact cz
theorem Bx:∀{l:List Env},Still (readyFrames l)
 | []=>by unfold readyFrames;exact cz
 | e:: l=>by
  unfold readyFrames;split
  ·refine bF yE λo=>?_;split
   ·exact cz
   ·refine bF Jw λi=>bF Nm λb=>?_;exact bF (⟨λ_=>Z,True.intro⟩) λ_=>Bx
  ·exact jl
theorem u0 {e:Env}:Still (frameOf e):=by
 unfold frameOf;refine bF My λl=>bF ?_ λo=>?_
 ·unfold frameObject;split
  ·exact cz
  ·exact bF Bx λ_=>cz
 ·split
  ·exact cz
  ·exact jl
theorem Eu {e:Value} {env:Env}:Still (noteFrame e env):=by
 unfold noteFrame;split
 ·refine bF qL λhd=>?_;have tail:∀x:Value,Still (do setField e 1 (<-EntryCells.newEntry hd (<-frameOf env) .none x .none (<-entryPlaceOf (env.frame.getD 0) (hd != .none)))):=λx=>
   bF u0 λ_=>bF wz λ_=>bF uU λ_=>jd
  split
  ·refine bF qL λx=>?_;split
   ·exact cz
   ·refine bF jd λ_=>?_;exact bF u0 λ_=>bF wz λ_=>bF uU λ_=>jd
  ·exact bF u0 λ_=>bF wz λ_=>bF uU λ_=>jd
 ·exact jl
theorem xV {e:Value} {env:Env}:Still (leaving env e):=by unfold leaving;exact bF Eu λ_=>ou
end L2
namespace L2
open PySem PySem.Spec PyProof.Rows
inductive DictAt (h:Heap) (x:Addr) (d:Option Addr):Prop where
 | mk:∀o,h.get? x=some o->o.dict=d->DictAt h x d
theorem Ci {h:Heap} {x:Addr} {o:Obj} (e:h.get? x=some o):h.objs[x]?=some o:=by
 unfold Heap.get? at e;split at e
 ·cases e
 ·exact e
theorem DictAt.on {h h':Heap} {x:Addr} {d:Option Addr} {o':Obj} (a:DictAt h x d) (k:DK h h') (e:h'.get? x=some o'):DictAt h' x d:=by obtain⟨o,e1,e2⟩:=a;obtain⟨o2,e3,e4⟩:=k x o (Ci e1);cases (Ci e).symm.trans e3;exact⟨_,e,e4.trans e2⟩
noncomputable def del (H:Hp) (x:Addr):Hp:=λb=>if b=x then none else H b
theorem Eg {H:Hp} {x b:Addr} (h:b≠x):del H x b=H b:=if_neg h
theorem RZ {H:Hp} {x b:Addr} {o:HO} (h:del H x b=some o):b≠x/\H b=some o:=by
 unfold del at h;split at h
 ·cases h
 ·rename_i n;exact⟨n,h⟩
theorem XQ {fs ex:List Addr} {H H1:Hp} {h h1:Heap} {x:Addr} {φ:Heap->Prop} (u:Un fs ex H H1 h h1) (e:H1 x=some (.ext φ)):Un fs ex H (del H1 x) h h1:=by
 have ne:∀b o,H1 b=some o->(∀φ,o≠.ext φ)->del H1 x b=some o:=λb o q n=>by rw [Eg];exact q;rintro rfl;rw [e] at q;exact n φ (Option.some.inj q).symm
 refine⟨u.keep,u.slot,λb o q n hx=>?_,u.there,λb xs q=>ne _ _ (u.tups b xs q) (by intro _ z;cases z),λb o v q=>ne _ _ (u.frzs b o v q) (by intro _ z;cases z),λb ps q=>?_⟩
 ·unfold del;split
  ·rfl
  ·exact u.free b o q n hx
 ·obtain⟨m,z⟩:=u.tbls b ps q;exact⟨m,ne _ _ z (by intro _ z;cases z)⟩
noncomputable def sX (P:Program) (w:World):CZ:=λouter H s E e s'=>∃(x:Addr) (cls a0:Value) (H':Hp) (B:Heap) (d:Option Addr),e=.ref x/\s'.os=s.os/\AllBare s'.gens/\Heap.FlyingW B outer x cls a0 s'.heap/\DictAt s'.heap x d/\vU P w H' B/\
 Un (frs outer) [] H H' s.heap s'.heap/\(∀b o,s.heap.get? b=some o->b∉frs outer->∃o',B.get? b=some o')/\E cls d H'
theorem Pb {fs:List Addr} {H H1 H2:Hp} {h h1 h2 h3 B:Heap} {L:Addr} (u1:Un fs [] H H1 h h1) (u2:Un (L:: fs) [] H1 H2 h1 h2) (hL:∀b o,h.get? b=some o->b≠L)
  (inB:∀b o,h.get? b=some o->b∉fs->∃o',B.get? b=some o') (st2:B.StaysIn h2) (st3:B.StaysIn h3) (up:h2.UpToSlots h3)
  (fd:∀b o,h2.get? b=some o->b∈fs->∀vs,o.data≠.fields vs):Un fs [] H H2 h h3:=by
 have out:∀b o,h.get? b=some o->b∉fs->b∉L:: fs:=λb o q hb z=>(mem_cons.mp z).elim (hL b o q) hb;have go:∀b o,h2.get? b=some o->(∃o',B.get? b=some o')->h3.get? b=some o:=λb o q ⟨o',q'⟩=>by have z:=st2 b o' q';rw [q] at z;cases z;exact st3 b _ q'
 refine⟨λb o q n hb hx=>?_,λb o q n hb hx=>?_,λb o q n hx=>?_,λb o q hx=>?_,λb xs q=>u2.tups b xs (u1.tups b xs q),λb o xs q=>u2.frzs b o xs (u1.frzs b o xs q),λb ps q=>?_⟩
 ·have k1:=u1.keep b o q n hb hx;exact go b o (u2.keep b o k1 (u1.free b o q n hx) (out b o q hb) hx) (inB b o q hb)
 ·obtain⟨sl,k1⟩:=u1.slot b o q n hb hx;obtain⟨sl2,k2⟩:=u2.slot b _ k1 (u1.free b o q n hx) (mem_cons_of_mem _ hb) hx;obtain⟨sl3,k3⟩:=up b _ k2 (fd b _ k2 hb);exact⟨sl3,k3⟩
 ·obtain⟨o',k1⟩:=u1.there b o q hx;exact u2.free b o' k1 (u1.free b o q n hx) hx
 ·obtain⟨o1,k1⟩:=u1.there b o q hx;obtain⟨o2,k2⟩:=u2.there b o1 k1 hx;by_cases hb:b∈fs
  ·obtain⟨sl3,k3⟩:=up b _ k2 (fd b _ k2 hb);exact⟨_,k3⟩
  ·exact⟨o2,go b o2 k2 (inB b o q hb)⟩
 ·obtain⟨m1,e1⟩:=u1.tbls b ps q;obtain⟨m2,e2⟩:=u2.tbls b _ e1;exact⟨m1 ++ m2,by rw [e2,Array.append_assoc]⟩
section
variable {P:Program} {w:World} {K:Fr} {mg:Str->Option Value} {base:Heap} {N:List Str} {qual:Str} {scope:Scope} {f:Addr} {cd:Value} {A:Around} {outer:List Env} {s:Shared} {H:Hp} {E:XK}
theorem sG {E':XK} (hE:∀c d H',E' c d H'->E c d H'):kJ (sX P w) (oK (sX P w) P w K mg base N qual scope f cd A outer s H E) E':=by
 intro pins σ H1 s1 e s' I c;obtain⟨x,cls,a0,H',B,d,rfl,hos,hg,fl,da,hok,un,inB,hE'⟩:=c;have go:=rQ xV (wpAny_leaves_onW (M:=model P w) (E:=λe' s''=>sX P w outer H s E e' s'') (Q:=λ_ s2=>∃h',s2={ s' with heap:=h' }/\Heap.FlyingW B outer x cls a0 h'/\s'.heap.UpToSlots h') I.ok.frames rfl fl λh' fl' up=>⟨h',rfl,fl',up⟩);refine wpAny_mono go (λ_ s2 q=>?_) λ_ _ z=>z;obtain⟨⟨h',rfl,fl',up⟩,dk⟩:=q;obtain⟨ob,hob,_⟩:=fl'.there;have nL:∀b o,s.heap.get? b=some o->b≠s.heap.objs.size:=λb o q=>ne_of_lt (Heap.lt_size q);have fd:∀b o,s'.heap.get? b=some o->b∈frs outer->∀vs,o.data≠.fields vs:=λb o q hb=>by obtain⟨_,_,ff,_⟩:=fl;have hb':b∈frs (envOfC qual scope s.heap.objs.size f cd:: outer):=mem_cons_of_mem _ hb;obtain⟨_,o',q',d⟩:=ff.mem hb';rw [q] at q';cases q';exact d
 have inB':∀b o,s.heap.get? b=some o->b∉frs outer->∃o',B.get? b=some o':=λb o q hb=>by obtain⟨o1,k1⟩:=I.base.there b o q (by simp [oK]);exact inB b o1 k1 λz=>(mem_cons.mp z).elim (nL b o q) hb
 exact⟨x,cls,a0,H',B,d,Z,hos.trans I.os,hg,fl',da.on dk hob,hok,Pb (L:=s.heap.objs.size) I.base un nL inB' fl.1 fl'.1 up fd,inB',hE _ _ _ hE'⟩
theorem Yn {pins:List (Addr×Obj)} {σ:St} {H1:Hp} {s1:Shared} {x C dx:Addr} (I:Inv (oK (sX P w) P w K mg base N qual scope f cd A outer s H E) pins σ H1 s1)
  (ex:H1 x=some (CN x C dx)) (hn:s.heap.get? x=none) (hE:E (.ref C) (some dx) (del H1 x)):(oK (sX P w) P w K mg base N qual scope f cd A outer s H E).xe (.ref x) s1:=by
 obtain⟨⟨a0,vr,sl,hx⟩,_,_⟩:=(show dD P w H1 s1.heap x (CN x C dx) from I.hok x _ ex);have nL:∀b o,s.heap.get? b=some o->b≠s.heap.objs.size:=λb o q=>ne_of_lt (Heap.lt_size q);have hmem:∀env∈(envOfC qual scope s.heap.objs.size f cd:: outer),∀b,env.frame=some b->b∈x:: frs (envOfC qual scope s.heap.objs.size f cd:: outer):=λenv he b hb=>mem_cons_of_mem _ (mem_filterMap.mpr ⟨env,he,hb⟩);have stk:=I.stack;have xf:x∉frs (envOfC qual scope s.heap.objs.size f cd:: outer):=λhm=>by have z:=I.stkFree x hm;rw [ex] at z;cases z
 have inB:∀b o,s.heap.get? b=some o->b∉frs outer->∃o',(PySem.W.hideAll s1.heap (x:: frs (envOfC qual scope s.heap.objs.size f cd:: outer))).get? b=some o':=λb o q hb=>by
  obtain⟨o1,k1⟩:=I.base.there b o q (by simp [oK]);refine⟨o1,PySem.W.hideAll_get _ k1 λz=>?_⟩;rcases mem_cons.mp z with rfl | z
  ·rw [hn] at q;cases q
  ·exact(mem_cons.mp z).elim (nL b o q) hb
 have hok:vU P w (del H1 x) (PySem.W.hideAll s1.heap (x:: frs (envOfC qual scope s.heap.objs.size f cd:: outer))):=λb o q=>by
  obtain⟨nb,q⟩:=RZ q;have nx:∀c o,H1 c=some o->(∀φ,o≠.ext φ)->c≠x:=λc o q n z=>by rw [z,ex] at q;exact n _ (Option.some.inj q).symm
  refine(I.hok b o q).stay (λc v hc q'=>PySem.W.hideAll_get _ q' λhm=>?_) (λc q'=>?_) λc xs q'=>?_
  ·rcases mem_cons.mp hm with rfl | hm
   ·rcases hc with z | z
    ·exact nb z.symm
    ·exact nx _ _ z (by intro _ z;cases z) rfl
   ·have hn:=I.stkFree c hm;rcases hc with z | z
    ·rw [z,q] at hn;cases hn
    ·rw [z] at hn;cases hn
  ·rw [Eg (nx _ _ q' (by intro _ z;cases z))];exact q'
  ·rw [Eg (nx _ _ q' (by intro _ z;cases z))];exact q'
 have sB:(PySem.W.hideAll s1.heap (x:: frs (envOfC qual scope s.heap.objs.size f cd:: outer))).StaysIn s1.heap:=λb o q=>PySem.W.of_hideAll _ q;have xB:(PySem.W.hideAll s1.heap (x:: frs (envOfC qual scope s.heap.objs.size f cd:: outer))).get? x=none:=PySem.W.hideAll_none _ (mem_cons_self ..);have go:=rQ xV (wpAny_leaving_firstW (M:=model P w) (E:=λe' s''=>sX P w outer H s E e' s'') (base:=PySem.W.hideAll s1.heap (x:: frs (envOfC qual scope s.heap.objs.size f cd:: outer)))
  (Q:=λ_ s2=>∃h',s2={ s1 with heap:=h' }/\Heap.LeftW (PySem.W.hideAll s1.heap (x:: frs (envOfC qual scope s.heap.objs.size f cd:: outer))) (envOfC qual scope s.heap.objs.size f cd:: outer) x (.ref C) (.ref a0) s1.heap h')
  I.ok.frames (PySem.W.funFrames_hide stk hmem) rfl hx sB xB rfl rfl rfl λh' z=>⟨h',rfl,z⟩)
 refine wpAny_mono go (λ_ s2 q=>?_) λ_ _ z=>z;obtain⟨⟨h',rfl,k1,⟨_,_,k2⟩,k3,k4⟩,dk⟩:=q;have fl:Heap.FlyingW (PySem.W.hideAll s1.heap (x:: frs (envOfC qual scope s.heap.objs.size f cd:: outer))) outer x (.ref C) (.ref a0) h':=⟨k1,xB,k2,k3⟩;obtain⟨ob,hob,_⟩:=fl.there;have fd:∀b o,s1.heap.get? b=some o->b∈frs outer->∀vs,o.data≠.fields vs:=λb o q hb=>by have hb':b∈frs (envOfC qual scope s.heap.objs.size f cd:: outer):=mem_cons_of_mem _ hb;obtain⟨_,o',q',d⟩:=stk.mem hb';rw [q] at q';cases q';exact d
 exact⟨x,_,_,del H1 x,_,some dx,Z,I.os,I.bare,fl,DictAt.on (h:=s1.heap) ⟨_,hx,Z⟩ dk hob,hok,XQ (Pb (L:=s.heap.objs.size) I.base Un.refl nL inB sB fl.1 k4 fd) ex,inB,hE⟩
end
section
variable {M:Model} {A:Around} {E:Value->Shared->Prop} {s:Shared} {env:Env} {nm q:Str} {C N:Addr} {bs bm:List Value} {hdct:Bool} {sn:List Str} {sub:List Value} {ab:Bool} {col:Option Bool} {dd:Option Addr} {k0 k1 k2 k3 k5:Option Value} {newId:String}
theorem Vl {x:Sem Value} {Q:Flow->Shared->Prop} (hb:bm.contains (.type "BaseException")=true) (hh:A.handled=none)
  (h:wpAny M A x (λv s₁=>∃e od dt sl,v=.ref e/\s₁.heap.get? C=some (excClassObj nm q C N bs bm hdct sn sub ab col dd k0 k1 k2 k3 k5 newId)/\s₁.heap.get? e=some ⟨.ref C,od,.fields dt,sl⟩/\dt[1]?=some .none/\E (.ref e) s₁) E s):wpAny M A (raiseStmt env (some x) none) Q E s:=by
 have hB:(Value.ref C:: bm).contains (.type "BaseException")=true:=by rw [List.contains_cons,hb,Bool.or_true]
 unfold raiseStmt;refine wpAny_bind (wpAny_mono h (λv sx hx=>?_) λ_ _ z=>z);obtain⟨e,od,dt,sl,rfl,hC,he,hd,hE⟩:=hx;obtain⟨hs,gs,ds,ts,os⟩:=sx;repeat (first | with_reducible refine wpAny_loadPart_at he ?_ | with_reducible refine wpAny_loadPart_at hC ?_ | (with_reducible refine wpAny_isSubtype_exc hC ?_;rw [hB]) | wp_step)
 rw [hd];refine wpAny_pure ?_;rw [if_neg (by decide)];exact wpAny_pure (PySem.wpAny_raiseNew_none hh hE)
theorem Vx {x:Expr} {pos:Pos} {Q:Flow->Shared->Prop} (hb:bm.contains (.type "BaseException")=true) (hh:A.handled=none)
  (h:wpAny M A (eval x env) (λv s₁=>∃e od dt sl,v=.ref e/\s₁.heap.get? C=some (excClassObj nm q C N bs bm hdct sn sub ab col dd k0 k1 k2 k3 k5 newId)/\s₁.heap.get? e=some ⟨.ref C,od,.fields dt,sl⟩/\dt[1]?=some .none/\E (.ref e) s₁) E s):wpAny M A (exec (.Raise (some x) none pos) env) Q E s:=by
 rw [arm_exec_Raise];have go:wpAny M A (do let v <-eval x env;standAt pos;pure v) (λv s₁=>∃e od dt sl,v=.ref e/\s₁.heap.get? C=some (excClassObj nm q C N bs bm hdct sn sub ab col dd k0 k1 k2 k3 k5 newId)/\s₁.heap.get? e=some ⟨.ref C,od,.fields dt,sl⟩/\dt[1]?=some .none/\E (.ref e) s₁) E s:=
  wpAny_bind (wpAny_mono h (λv s₁ z=>wpAny_bind (wpAny_standAt (wpAny_pure z))) λ_ _ z=>z)
 exact wpAny_bind (wpAny_standAt (Vl hb hh go))
end
section
variable {P:Program} {w:World} {K:Fr} {mg:Str->Option Value} {base:Heap} {N:List Str} {qual:Str} {scope:Scope} {f:Addr} {cd:Value} {A:Around} {outer:List Env} {s:Shared} {H:Hp} {E:XK}
noncomputable def PJ (s:Shared) (E:XK) (C:Addr):VK:=λv H3=>∃y dx,v=.ref y/\s.heap.get? y=none/\H3 y=some (CN y C dx)/\E (.ref C) (some dx) (del H3 y)
noncomputable def VR (s:Shared) (E:XK) (C:Addr) (sp:Sp) (E1:XK) (ta:TA):TS:=λ_ σ H=>ta σ H λvs H1=>vs.length<=1000/\∀x,H1 x=none->s.heap.get? x=none->sp (.ref x:: vs) (upd H1 x (xj x C)) (λv H2=>v=.non/\PJ s E C (.ref x) H2) E1
theorem ph {CX:CZ} {k:Nat} {fi:Addr} {fd:FuncData} {ps:List Str} {sp:Sp} {E1:XK} {x:Str} {C:Addr} {np cpos pos:Pos} {e:Expr} {es:List Expr} {ta:TA} (Mk:MkX K C fi) (F:dR P w K mg base CX k fi fd ps sp)
  (hr:gZ (k+1) (oK (sX P w) P w K mg base N qual scope f cd A outer s H E).A) (hg:Gl (oK (sX P w) P w K mg base N qual scope f cd A outer s H E) x) (hm:mg x=some (.ref C)) (hb:Binds K fd ps []) (hx:kJ CX (oK (sX P w) P w K mg base N qual scope f cd A outer s H E) E1)
  (ha:PA (oK (sX P w) P w K mg base N qual scope f cd A outer s H E) (e:: es) ta) (hdb:(x == ("__debug__" :Str))=false:=by decide)
  (he:starEach (e:: es) (oK (sX P w) P w K mg base N qual scope f cd A outer s H E).env=(false,eval e (oK (sX P w) P w K mg base N qual scope f cd A outer s H E).env):: starEach es (oK (sX P w) P w K mg base N qual scope f cd A outer s H E).env:=by rfl)
  (hpl:(backTo cpos (starEach es (oK (sX P w) P w K mg base N qual scope f cd A outer s H E).env)).any (·.1)=false:=by rfl):
  PS (oK (sX P w) P w K mg base N qual scope f cd A outer s H E) (.Raise (some (.Call (.Name x np) (e:: es) [] cpos)) none pos) (VR s E C sp E1 ta):=by
 intro pins s1 σ H1 D I h;obtain⟨nm,q',Nn,bs,bm,hdct,sn,sub,ab,col,dd,k0,k1,k2,k3,k5,mN,hi,hf⟩:=Mk.ini.ex;have hB:bm.contains (.type "BaseException")=true:=(hf _ I.kIn).2.2.hasType (X:= "BaseException") (b:=true) (by decide +kernel);refine Vx (C:=C) (nm:=nm) (q:=q') (N:=Nn) (bs:=bs) (bm:=bm) (hdct:=hdct) (sn:=sn) (sub:=sub) (ab:=ab) (col:=col) (dd:=dd) (k0:=k0) (k1:=k1) (k2:=k2) (k3:=k3) (k5:=k5) (newId:= "ValueError.__new__") hB (I.ok.hd Z) ?_;refine wpAny_mono (wpAny_Call_Name_kw (wH I hg hm (PySem.W.callWith_K (h₀:=(oK (sX P w) P w K mg base N qual scope f cd A outer s H E).base) I.ok.mod.kin Mk.kp (dz (ha cpos pins s1 σ H1 _ I h) λus s2 ⟨vs,H2,I2,r,hz,q⟩=>⟨I2.kIn,
  Qo (X:=oK (sX P w) P w K mg base N qual scope f cd A outer s H E) (Q:=PJ s E C) Mk F hr hb hx I2 r hz q⟩) he hpl) hdb)) (λv s3 z=>?_) λ_ _ z=>z
 obtain⟨v',H3,I3,rv,y,dx,rfl,n0,e1,e2⟩:=z;obtain rfl:v=Value.ref y:=rv;obtain⟨⟨a0,vr,sl,hx3⟩,_,_⟩:=(show dD P w H3 s3.heap y (CN y C dx) from I3.hok y _ e1);exact⟨y,_,_,_,Z,(hf _ I3.kIn).1,hx3,Z,Yn I3 e1 n0 e2⟩
end
noncomputable def YG (x C dx:Addr):HO:=.ext λh=>∃fl sl,h.get? x=some ⟨.ref C,some dx,.fields fl,sl⟩
theorem Z3 {X:Cx} {pins:List (Addr×Obj)} {σ:St} {H:Hp} {s1 s':Shared} {Ex:XK} {e:Value} {A:Around} {E:Value->Shared->Prop} {Q:Unit->Shared->Prop} (I:Inv X pins σ H s1) (c:sX X.prog X.w X.stack H s1 Ex e s')
  (hA:A.frames=some X.stack) (hst:X.stack=X.env:: X.outer) (hf:X.env.frame=some X.env.locals) (hex:X.ex=[])
  (k:∀x cls H' s2 B a0 d,e=.ref x->SM X pins σ H' x cls s2 B a0->DictAt s2.heap x d->Ex cls d H'->Q () s2):
  wpAny (model X.prog X.w) A (noteFrame e X.env) (λ_ s2=>wpAny (model X.prog X.w) A (setFlight e none) Q E s2) E s':=by
 obtain⟨x,cls,a0,H',B,d,rfl,hos,hg,fl,da,hok,un,inB,hE'⟩:=c;have fd:∀b o,s'.heap.get? b=some o->b∈frs X.stack->∀vs,o.data≠.fields vs:=λb o q hb=>by obtain⟨_,_,ff,_⟩:=id fl;obtain⟨_,o',q',d⟩:=ff.mem hb;rw [q] at q';cases q';exact d
 have nB:B.get? x=none:=fl.2.1;have hfree:H' x=none:=by
  cases q:H' x with
  | none=>rfl
  | some o=>
   obtain⟨ob,z⟩:=(hok x o q).some_at;rw [nB] at z;cases z
 have n1:s1.heap.get? x=none:=by
  cases q:s1.heap.get? x with
  | none=>rfl
  | some o=>
   exfalso;by_cases hb:x∈frs X.stack
   ·obtain⟨oe,vs,he,_,hd,_⟩:=fl.first;exact fd x oe he hb vs hd
   ·obtain⟨o',z⟩:=inB x o q hb;rw [nB] at z;cases z
 have here:∀b o,s1.heap.get? b=some o->b≠x:=λb o q z=>by rw [z,n1] at q;cases q
 have fl0:Heap.FlyingW B (X.env:: X.outer) x cls a0 s'.heap:=by rw [<-hst];exact fl
 have g1:=rQ Eu (wpAny_looks_onW (M:=model X.prog X.w) (A:=A) (E:=E) (Q:=λ_ s2=>∃h',s2={ s' with heap:=h' }/\Heap.HeldW B (X.env:: X.outer) x cls a0 X.env.locals h'/\s'.heap.UpToSlots h') (by rw [hA,hst]) hf fl0 λh' hh up=>⟨h',rfl,hh,up⟩);refine wpAny_mono g1 (λ_ s2 q=>?_) λ_ _ z=>z;obtain⟨⟨h2,rfl,hh,up2⟩,dk2⟩:=q;have g2:=rQ ou (wpAny_landsW (M:=model X.prog X.w) (A:=A) (E:=E) (s:={ s' with heap:=h2 }) (Q:=λ_ s3=>∃h',s3={ s' with heap:=h' }/\Heap.FlyingW B (X.env:: X.outer) x cls a0 h'/\h2.UpToSlots h') hh λh' f3 up=>⟨h',rfl,f3,up⟩);refine wpAny_mono g2 (λ_ s3 q=>?_) λ_ _ z=>z;obtain⟨⟨h3,rfl,fl3,up3⟩,dk3⟩:=q;obtain⟨o2,ho2,_⟩:=hh.there;obtain⟨o3,ho3,_⟩:=fl3.there;have fl3':Heap.FlyingW B X.stack x cls a0 h3:=by rw [hst];exact fl3
 have go:∀h6,Heap.FlyingW B X.stack x cls a0 h6->s'.heap.UpToSlots h6->Inv X pins σ H' { s' with heap:=h6 }:=λh6 f6 u6=>
  I.call' (s':={ s' with heap:=h6 }) hos (Zx un inB fl.1 f6.1 u6 fd) (hok.kept λb o q=>f6.1 b o q) hg λb hb=>absurd hb (by simp)
 refine k x cls H' _ B a0 d Z ⟨go h3 fl3' (up2.trans up3),fl3',λh6 f6 u6=>go h6 f6 ((up2.trans up3).trans u6),hfree,?_,?_,λy c e=>?_,λp hp=>here _ _ (I.pin p hp).1⟩ ((da.on dk2 ho2).on dk3 ho3) hE'
 ·cases q:X.s₀.heap.get? x with
  | none=>rfl
  | some o=>
   obtain⟨o',z⟩:=I.base.there x o q (by rw [hex];simp);rw [n1] at z;cases z
 ·obtain⟨m,⟨o,_,_,q,_⟩,_⟩:=I.loc;exact λz=>here _ _ q z.symm
 ·obtain⟨v,o,q,_⟩:=I.cell y c e;exact here _ _ q
section
variable {M:Model} {A:Around} {E:Value->Shared->Prop} {nm q:Str} {C N:Addr} {bs bm:List Value} {hdct:Bool} {sn:List Str} {sub:List Value} {ab:Bool} {col:Option Bool} {dd:Option Addr} {k0 k1 k2 k3 k5:Option Value} {newId:String}
theorem U8 {h:Heap} {g:Array GenState} {d:Drawn} {t:Nat} {os:OsState} {e C1:Addr} {oe:Obj} {Q:Bool->Shared->Prop}
  (hC:h.get? C=some (excClassObj nm q C N bs bm hdct sn sub ab col dd k0 k1 k2 k3 k5 newId)) (he:h.get? e=some oe) (hcls:oe.cls=.ref C1) (hbase:bm.contains (.type "BaseException")=true)
  (hs:∀{Q:Bool->Shared->Prop},Q false ⟨h,g,d,t,os⟩->wpAny M A (isSubtype (.ref C1) (.ref C)) Q E ⟨h,g,d,t,os⟩) (hq:Q false ⟨h,g,d,t,os⟩):wpAny M A (excMatches (.ref e) (.ref C)) Q E ⟨h,g,d,t,os⟩:=by
 have hB:(Value.ref C:: bm).contains (.type "BaseException")=true:=by rw [List.contains_cons,hbase,Bool.or_true]
 have f0:=tc_notTuple;unfold excMatches;repeat (first | (with_reducible refine wpAny_loadPart_at he ?_;rw [hcls]) | with_reducible refine wpAny_loadPart_at hC ?_ | (with_reducible refine wpAny_isSubtype_exc hC ?_;rw [hB]) | with_reducible refine hs ?_ | wp_step)
 exact hq
end
noncomputable abbrev TH:=Ends->Value->Option Addr->St->Hp->Prop
noncomputable def PH (X:Cx) (hs:List ExceptHandler) (T:TH):Prop:=∀(pins:List (Addr×Obj)) (σ:St) (H':Hp) (y:Addr) (cls:Value) (s:Shared) (B:Heap) (a0:Value) (d:Option Addr) (D:Ends),SM X pins σ H' y cls s B a0->DictAt s.heap y d->T D cls d σ H'->
 wpAny (model X.prog X.w) X.A (handleBy (.ref y) X.env hs) (SP X pins D) X.xe s
noncomputable def aas:TH:=λ_ _ _ _ _=>False
theorem Sw {X:Cx}:PH X [] aas:=λ_ _ _ _ _ _ _ _ _ _ _ _ h=>h.elim
inductive Uo (tb:(St->XK)->TS) (th:TH) (D:Ends) (σ:St) (H:Hp):Prop where
 | mk:∀R:St->XK,((∀σ' cls d H',R σ' cls d H'->th D cls d σ' H'))->tb R D σ H->Uo tb th D σ H
noncomputable def ZC (tb:(St->XK)->TS) (th:TH):TS:=λD σ H=>Uo tb th D σ H
theorem Qj {X:Cx} {body:List Stmt} {h₀:ExceptHandler} {hs:List ExceptHandler} {pos:Pos} {tb:(St->XK)->TS} {th:TH} (hst:X.stack=X.env:: X.outer) (hf:X.env.frame=some X.env.locals) (hex:X.ex=[])
  (hb:∀(pn:List (Addr×Obj)) (Ex:Value->Shared->Prop) (R:St->XK),(∀pins σ H s e s',Inv (X.over pn Ex) pins σ H s->sX X.prog X.w X.stack H s (R σ) e s'->Ex e s')->LR (X.over pn Ex) body (tb R)) (hh:PH X (h₀:: hs) th):
  PS X (.Try body (h₀:: hs) [] [] pos) (ZC tb th):=by
 intro pins s σ H D I h;obtain⟨R,hR,hbody⟩:=h;refine wpAny_Try_except (wpAny_mono (hb (X.pn ++ pins) (λe s₁=>wpAny (model X.prog X.w) X.A (noteFrame e X.env) (λ_ s₂=>wpAny (model X.prog X.w) X.A (setFlight e none) (λ_ s₃=>
  wpAny (model X.prog X.w) X.A (handleBy e X.env (h₀:: hs)) (SP X pins D) X.xe s₃) X.xe s₂) X.xe s₁) R ?_ [] s σ H D I.over hbody) (λf s₁ q=>?_) λe s₁ q=>q)
 ·intro pins' σ' H' s1 e s2 I1 c;refine Z3 (I1.unover) c I.ok.frames hst hf hex λy cls H2 s3 B a0 d he L da hE=>?_;subst he;exact hh pins σ' H2 y cls s3 B a0 d D L da (hR _ _ _ _ hE)
 ·cases f with
  | next=>
   obtain⟨σ1,H1,I1,q1⟩:=q;exact wpAny_execs_nil ⟨σ1,H1,I1.unover,q1⟩
  | brk=>
   obtain⟨σ1,H1,I1,q1⟩:=q;exact⟨σ1,H1,I1.unover,q1⟩
  | cont=>
   obtain⟨σ1,H1,I1,q1⟩:=q;exact⟨σ1,H1,I1.unover,q1⟩
  | ret u=>
   obtain⟨v,σ1,H1,I1,rv,q1⟩:=q;exact⟨v,σ1,H1,I1.unover,rv,q1⟩
inductive Tp (K:Fr) (f:Str) (Q:VK) (x:V) (H1:Hp):Prop where
 | mk:∀a C dx fs v,x=.ref a->H1 a=some (YG a C dx)->H1 dx=some (.xd fs)->Nf K C->ig K C f->fs.lookup f=some v->Q v H1->Tp K f Q x H1
noncomputable def Z4 (K:Fr) (ta:TE) (f:Str):TE:=λσ H Q=>ta σ H λx H1=>Tp K f Q x H1
theorem JV {X:Cx} {K:Fr} {e:Expr} {f:Str} {pos:Pos} {ta:TE} (hK:X.K=K) (he:PE X e ta) (hb:attributeBase e f X.env (eval e X.env)=eval e X.env):PE X (.Attribute e f pos) (Z4 K ta f):=by subst hK;intro pins s σ H Q I h;refine Ov hb (dz (he pins s σ H _ I h) λu s1 hpt=>?_);obtain⟨x,H1,I1,rx,a,C,dx,fs,v,ex,ea,ed,c,n,l,q⟩:=hpt;subst ex;obtain rfl:u=Value.ref a:=rx;obtain⟨⟨fl,sl,hx⟩,_,_⟩:=(show dD X.prog X.w H1 s1.heap a (YG a C dx) from I1.hok a _ ea);exact Wh I1 hx ed c n l λu' s2 I2 ru=>⟨v,H1,I2,ru,q⟩
section
variable {P:Program} {w:World} {K:Fr} {mg:Str->Option Value} {base:Heap}
theorem Vd.ok2 {x qual:Str} {st:Stmt} {f:Addr} {fd:FuncData} {N ps:List Str} {k:Nat} {sp:Sp} (F:Vd K x qual st f fd) (S:fY N ps (aR st)) (len:∀vs H Q E,sp vs H Q E->vs.length=ps.length)
  (go:∀(cdv:Value) (A:Around) (outer:List Env) (s:Shared) (H:Hp) (vs:List V) (Q:VK) (E:XK),gZ k (A.deeper (envOfC qual (aR st) s.heap.objs.size f cdv))->sp vs H Q E->
   ∃t,LR (oK (sX P w) P w K mg base N qual (aR st) f cdv A outer s H E) (gA st) t/\t { nx:=λ_ H'=>Q .non H',rt:=Q } (start N vs) H):dR P w K mg base (sX P w) (k+1) f fd ps sp:=by
 obtain⟨oc,od,kV,doc,pm,an,cdv,ct,osl,e,lk,hcd⟩:=F.ex;subst e;exact Rm lk hcd S len λA outer s H vs Q E hr hsp=>go cdv A outer s H vs Q E hr hsp
end
theorem rF.at {K:Fr} {C f:Addr} (c:rF K C f) {h:Heap} (X:K.In h):ExcAt K C:=by obtain⟨nm,q,Nn,bs,bm,hdct,sn,sub,ab,col,dd,k0,k1,k2,k3,k5,mN,_,hf⟩:=c.ex;exact⟨⟨nm,q,Nn,bs,bm,hdct,sn,sub,ab,col,dd,k0,k1,k2,k3,k5,_,(hf h X).2.2.hasType (X:= "BaseException") (b:=true) (by decide +kernel),λh X=>(hf h X).1⟩⟩
noncomputable def iOr (a b:TI):TI:=λσ H R=>a σ H R∨b σ H R
theorem WT {X:Cx} {tg it:Expr} {a b:TI} (h1:PI X tg it a) (h2:PI X tg it b):PI X tg it (iOr a b):=λpins s σ H R I h=>h.elim (h1 pins s σ H R I) (h2 pins s σ H R I)
theorem KZ {js:List Nat} {tt:TT} {te:TE} {σ:St} {Qd:List V->Hp->Prop} {K:Fr} {a:Addr} {xs:List V} {H:Hp} (Pv:Nat->List V->Hp->Prop) (hn:xs.length<=sizeLine) (h0:Pv 0 [] H) (hl:∀i ys H,Pv i ys H->ys.length<=i) (hq:∀i ys H,i<=xs.length->Pv i ys H->gq K H a xs)
  (hs:∀i x ys H,xs[i]?=some x->Pv i ys H->tt (some x:: dU σ js) H λb H4=>if b=true then te (some x:: dU σ js) H4 λy H5=>Pv (i+1) (ys ++ [y]) H5 else Pv (i+1) ys H4)
  (hd:∀ys H,Pv xs.length ys H->Qd ys H):CompEnd js tt te σ Qd (Y7 K a) H:=by
 refine⟨λi m ys H=>m=xs.length - i/\i<=xs.length/\Pv i ys H,⟨xs.length,by simp,zero_le _,h0⟩,?_⟩;rintro i m ys H ⟨rfl,hi,p⟩;have hlen:=hl i ys H p;have q:=hq i ys H hi p;by_cases hlt:i <xs.length
 ·refine .inr ⟨⟨xs,xs[i],q,by simp [hlt]⟩,by lia,Pv (i+1),λys' H' p'=>⟨xs.length - (i+1),by lia,Z,hlt,p'⟩,λx H' y=>?_⟩;obtain⟨e,y⟩:=y;subst e;exact hs i x ys _ (y xs q) p
 ·have e:i=xs.length:=by lia
  subst e;exact .inl ⟨⟨xs,q,le_refl _⟩,by lia,hd ys H p⟩
theorem S9 {js:List Nat} {tt:TT} {te:TE} {σ σ0:St} {Qd:List V->Hp->Prop} {K:Fr} {a:Addr} {xs:List V} {H:Hp} {tl:TE} (ht:∀R:V->Hp->Prop,R (.ref a) H->tl σ0 H R) (ha:zG K H a xs) (Pv:Nat->List V->Prop) (hn:xs.length<=sizeLine) (h0:Pv 0 []) (hl:∀i ys,Pv i ys->ys.length<=i)
  (hs:∀i x ys,xs[i]?=some x->Pv i ys->tt (some x:: dU σ js) H λb H4=>if b=true then te (some x:: dU σ js) H4 λy H5=>H5=H/\Pv (i+1) (ys ++ [y]) else H4=H/\Pv (i+1) ys)
  (hd:∀ys,Pv xs.length ys->Qd ys H):iOr (RJ K tl) (Zj K tl) σ0 H (CompEnd js tt te σ Qd):=by
 rcases ha with ha | ha
 ·refine .inl (ht _ ⟨a,Z,⟨xs,ha⟩,fu (K:=K) (a:=a) (xs:=xs) (λi ys H'=>H'=H/\Pv i ys) hn ⟨Z,h0⟩ (λi ys _ z=>hl i ys z.2) (λi ys H' _ z=>by rw [z.1];exact ha) (λi x ys H' hx z=>?_) λys H' z=>?_⟩)
  ·obtain⟨rfl,z⟩:=z;exact hs i x ys hx z
  ·obtain⟨rfl,z⟩:=z;exact hd ys z
 ·refine .inr (ht _ ⟨a,Z,⟨xs,ha⟩,KZ (K:=K) (a:=a) (xs:=xs) (λi ys H'=>H'=H/\Pv i ys) hn ⟨Z,h0⟩ (λi ys _ z=>hl i ys z.2) (λi ys H' _ z=>by rw [z.1];exact ha) (λi x ys H' hx z=>?_) λys H' z=>?_⟩)
  ·obtain⟨rfl,z⟩:=z;exact hs i x ys hx z
  ·obtain⟨rfl,z⟩:=z;exact hd ys z
theorem zG.len {K:Fr} {H:Hp} {a:Addr} {xs:List V} (h:zG K H a xs):Yx K (.ref a) H xs.length:=h.elim (λh=>.inl ⟨xs,h,rfl⟩) λh=>.inr ⟨xs,h,rfl⟩
theorem Lk {X:Cx} {K:Fr} (hK:X.K=K):Rh X (XX K):=by subst hK;exact aV
theorem fM {X:Cx} {K:Fr} (hK:X.K=K):Rh X (MP K):=by subst hK;exact dI
section
variable {P:Program} {w:World} {K:Fr} {mg:Str->Option Value} {base:Heap} {N:List Str} {qual:Str} {scope:Scope} {f:Addr} {cd:Value} {A:Around} {outer:List Env} {s:Shared} {H:Hp} {E:XK}
end
noncomputable def caught (y C:Addr):Option Addr->HO
 | some dx=>YG y C dx
 | none=>aaL y (.ref C)
noncomputable def thC (K:Fr) (i:Nat) (C:Addr) (ts:TS) (tr:TH):TH:=λD cls d σ H=>
 (cls=.ref C/\∀y,H y=none->ts { nx:=λσ2 H2=>D.nx (σ2.set i none) H2,rt:=D.rt,bk:=λσ2 H2=>D.bk (σ2.set i none) H2,ct:=λσ2 H2=>D.ct (σ2.set i none) H2 } (σ.set i (some (.ref y))) (upd H y (caught y C d)))∨
 (∃C1,cls=.ref C1/\PySem.W.subIn K (.ref C1) (.ref C)=some false/\tr D cls d σ H)
theorem Yk {X:Cx} {K:Fr} {i:Nat} {n x:Str} {C:Addr} {b₀:Stmt} {suite:List Stmt} {np hpos:Pos} {rest:List ExceptHandler} {ts:TS} {tr:TH} (hK:X.K=K)
  (hN:X.N.Nodup) (hi:X.N[i]?=some n) (hk:X.env.scope.names.lookup n=some .local) (hg:Gl X x) (hm:X.mg x=some (.ref C)) (cl:ExcAt K C)
  (hs:∀y,LR (X.marked y) (b₀:: suite) ts) (hr:PH X rest tr) (hdb:(x == ("__debug__" :Str))=false:=by decide):
  PH X (.ExceptHandler (some (.Name x np)) (some n) (b₀:: suite) hpos:: rest) (thC K i C ts tr):=by
 subst hK;intro pins σ H' y cls s B a0 d D L da h;obtain⟨nm,q,Nn,bs,bm,hdct,sn,sub,ab,col,dd,k0,k1,k2,k3,k5,newId,hbase,hC⟩:=cl.ex;obtain⟨ob,hob,hobc⟩:=L.fly.there;have IL:=L.inv;have hd:=IL.ok.hd;refine wpAny_handleBy_cons (codeAny_handlers_test (Calls.Name_function_global IL.ok.kind hg (Calls.loadGlobal_global (by rw [IL.ok.glob];exact IL.mod.glob.keeps IL.bk) hm ?_) hdb)) (by intro q;cases q);rcases h with ⟨rfl,hsu⟩ | ⟨C1,rfl,hsub,hrest⟩
 ·refine wpAny_excMatches_sub_self (hC s.heap IL.kIn) hob hobc hbase ?_;refine codeAny_handlers_suite_as (e:=.ref y) ?_;have g1:=rQ ou (lands_againW (M:=model X.prog X.w) (A:=X.A.mark (some (.ref y))) (E:=λ_ _=>False) (Q:=λ_ s6=>∃h',s6={ s with heap:=h' }/\Heap.FlyingW B X.stack y (.ref C) a0 h'/\s.heap.UpToSlots h') L.fly λh' f up=>⟨h',rfl,f,up⟩);refine wpAny_mono g1 (λ_ s6 q6=>?_) λ_ _ z=>False.elim z;obtain⟨⟨h6,rfl,fl6,up6⟩,dk6⟩:=q6;obtain⟨oe6,vs6,hob6,hobc6,hdat6,_⟩:=fl6.first;obtain⟨o7,ho7,hd7⟩:=da.on dk6 hob6;obtain rfl:oe6=o7:=Option.some.inj (hob6.symm.trans ho7);obtain⟨oc,od,dt,osl⟩:=oe6;dsimp only at hobc6 hdat6 hd7;subst hobc6 hdat6 hd7;have ok6:dD X.prog X.w (upd H' y (caught y C od)) h6 y (caught y C od):=by
   cases od with
   | some dx=>exact⟨⟨_,_,hob6⟩,⟨_,hob6⟩,λh1 h2 ⟨x1,x2,z⟩ k=>⟨x1,x2,k _ z⟩⟩
   | none=>exact⟨⟨_,hob6,rfl⟩,⟨_,hob6⟩,λh1 h2 ⟨o,e1,e2⟩ k=>⟨o,k o e1,e2⟩⟩
  have I6:=(L.more h6 fl6 up6).track (x:=y) (o:=caught y C od) L.free L.new L.neL L.neC L.neP ok6;refine Fx I6 hN hi (.inl hk) (v:=.ref y) Z (λs7 I7=>?_) (.inr hk);refine wpAny_mono (hs y pins s7 _ _ _ I7.marked (hsu y L.free)) (λf s8 q8=>?_) λ_ _ z=>False.elim z;cases f with
  | next=>
   obtain⟨σ8,H8,I8,q8⟩:=q8;exact Dh (I8.unmarked hd) hN hi hk λs9 I9=>⟨_,_,I9,q8⟩
  | brk=>
   obtain⟨σ8,H8,I8,q8⟩:=q8;exact Dh (I8.unmarked hd) hN hi hk λs9 I9=>⟨_,_,I9,q8⟩
  | cont=>
   obtain⟨σ8,H8,I8,q8⟩:=q8;exact Dh (I8.unmarked hd) hN hi hk λs9 I9=>⟨_,_,I9,q8⟩
  | ret u=>
   obtain⟨v,σ8,H8,I8,rv,q8⟩:=q8;exact Dh (I8.unmarked hd) hN hi hk λs9 I9=>⟨v,_,_,I9,rv,q8⟩
 ·obtain⟨hp,g,dr,tk,os⟩:=s;refine U8 (hC _ IL.kIn) hob hobc hbase (λq=>(PySem.W.looks_subIn IL.kIn hsub).at q) ?_;exact hr pins σ H' y _ _ B a0 d D L da hrest
theorem Ij {X:Cx} {K:Fr} (hK:X.K=K):lg X (.builtin "isinstance") (λxs H Q=>∃y C d c b,xs=[.ref y,c]/\H y=some (caught y C d)/\Wb K C/\aa9 K C c b/\Q (.bl b) H):=by
 subst hK;intro pins s σ H xs us Q I r h;obtain⟨y,C,d,c,b,rfl,hy,x,hc,q⟩:=h;obtain⟨u,w',rfl,rx,ry⟩:=vals2 r;cases rx;have p:Om y C s.heap:=by
  have z:=I.hok y _ hy;cases d with
  | some dx=>obtain⟨⟨_,_,w⟩,_⟩:=z;exact⟨_,w,rfl⟩
  | none=>obtain⟨⟨_,w,e⟩,_⟩:=z;exact⟨_,w,e⟩
 have fin:∀tk,EP X pins σ Q (.bool b) { s with toks:=tk }:=λtk=>⟨.bl b,H,I.tok tk,rfl,q⟩;cases c with
 | ref D=>cases ry;exact PySem.W.kia_one (KH x) I.kIn p hc (by intro e;cases e) fin
 | ty T=>cases ry;exact PySem.W.kia_one (KH x) I.kIn p hc (by intro e;cases e) fin
 | _=>exact(show False from hc).elim
section
variable {κ:Type} [DecidableEq κ]
noncomputable def b7 (kvs:List (κ×V)) (k:κ):Option V:=(kvs.find? λkv=>decide (kv.1=k)).map (·.2)
noncomputable def putK (kvs:List (κ×V)) (k:κ) (v:V):List (κ×V):=
 if (kvs.any λkv=>decide (kv.1=k))=true then kvs.map (λkv=>if kv.1=k then(kv.1,v) else kv) else kvs ++ [(k,v)]
theorem iz {p:κ×V} {r:List (κ×V)} {k:κ} (e:p.1=k):b7 (p:: r) k=some p.2:=by simp [b7,find?_cons,e]
theorem gU {p:κ×V} {r:List (κ×V)} {k:κ} (e:¬p.1=k):b7 (p:: r) k=b7 r k:=by simp [b7,find?_cons,e]
theorem rR (k:κ):∀kvs:List (κ×V),(kvs.any λkv=>decide (kv.1=k))=(b7 kvs k).isSome
 | []=>rfl
 | p:: r=>by
  rw [any_cons];by_cases e:p.1=k
  ·simp only [iz e,decide_eq_true e,Bool.true_or,Option.isSome_some]
  ·rw [gU e,decide_eq_false e,Bool.false_or];exact rR k r
theorem Ky (k j:κ) (y:V):∀kvs:List (κ×V),b7 (kvs.map λkv=>if kv.1=k then(kv.1,y) else kv) j=(b7 kvs j).map λx=>if j=k then y else x
 | []=>rfl
 | p:: r=>by
  have ih:=Ky k j y r;rw [map_cons];by_cases h:p.1=k
  ·rw [if_pos h];by_cases e:p.1=j
   ·rw [iz (p:=(p.1,y)) e,iz e,map_some,if_pos (e.symm.trans h)]
   ·rw [gU (p:=(p.1,y)) e,gU e,ih]
  ·rw [if_neg h];by_cases e:p.1=j
   ·rw [iz (p:=p) e,iz e,map_some,if_neg (λz=>h (e.trans z))]
   ·rw [gU (p:=p) e,gU e,ih]
theorem Ja (k j:κ) (y:V):∀kvs:List (κ×V),b7 kvs k=none->b7 (kvs ++ [(k,y)]) j=if j=k then some y else b7 kvs j
 | [],_=>by
  by_cases e:k=j
  ·rw [if_pos e.symm];exact iz (p:=(k,y)) e
  ·rw [if_neg (λz=>e z.symm)];exact gU (p:=(k,y)) e
 | p:: r,hn=>by
  rw [List.cons_append];have hk:¬p.1=k:=λz=>by rw [iz z] at hn;cases hn
  rw [gU hk] at hn;have ih:=Ja k j y r hn;by_cases e:p.1=j
  ·rw [iz e,iz e,if_neg (λz=>hk (e.trans z))]
  ·rw [gU e,gU e,ih]
theorem Ur (kvs:List (κ×V)) (k j:κ) (y:V):b7 (putK kvs k y) j=if j=k then some y else b7 kvs j:=by
 unfold putK;by_cases a:(kvs.any λkv=>decide (kv.1=k))=true
 ·rw [if_pos a,Ky];rw [rR] at a;by_cases e:j=k
  ·obtain⟨x,hx⟩:=isSome_iff_exists.mp a;rw [if_pos e,e,hx,map_some,if_pos rfl]
  ·rw [if_neg e];cases b7 kvs j with
   | none=>rfl
   | some x=>rw [map_some,if_neg e]
 ·rw [if_neg a];refine Ja k j y kvs ?_;rw [rR] at a;cases q:b7 kvs k with
  | none=>rfl
  | some x=>rw [q] at a;exact(a rfl).elim
theorem mH (kvs:List (κ×V)) (k:κ) (v:V):(putK kvs k v).length<=kvs.length+1:=by
 unfold putK;split
 ·rw [length_map];lia
 ·rw [length_append,length_cons,length_nil];lia
theorem kW {kvs:List (κ×V)} {k:κ} (v:V) (h:b7 kvs k=none):putK kvs k v=kvs ++ [(k,v)]:=by unfold putK;rw [rR,h];exact if_neg (by decide)
theorem rA.isSome_eq {o:Option V} {u:Option Value} (r:rA o u):o.isSome=u.isSome:=by
 cases o with
 | none=>cases u with
  | none=>rfl
  | some _=>exact(show False from r).elim
 | some _=>cases u with
  | none=>exact(show False from r).elim
  | some _=>rfl
theorem rA.getD {o:Option V} {u:Option Value} {d:V} {d':Value} (r:rA o u) (rd:RelV d d'):RelV (o.getD d) (u.getD d'):=by
 cases o with
 | none=>cases u with
  | none=>exact rd
  | some _=>exact(show False from r).elim
 | some _=>cases u with
  | none=>exact(show False from r).elim
  | some _=>exact r
theorem KV.val {kvs:List (κ×V)} {vs:List (κ×Value)} (r:KV kvs vs) (k:κ):rA (b7 kvs k) (valueAt vs k):=by
 unfold KV at r;induction r with
 | nil=>exact True.intro
 | @cons p q ps qs h t ih=>
  obtain⟨h1,h2⟩:=h;by_cases e:p.1=k
  ·have e':q.1=k:=h1.symm.trans e;have b:valueAt (q:: qs) k=some q.2:=by simp [valueAt,find?_cons,e']
   rw [iz e,b];exact h2
  ·have e':¬q.1=k:=λz=>e (h1.trans z);have b:valueAt (q:: qs) k=valueAt qs k:=by simp [valueAt,find?_cons,e']
   rw [gU e,b];exact ih
theorem KV.any {kvs:List (κ×V)} {vs:List (κ×Value)} (r:KV kvs vs) (k:κ):(kvs.any λkv=>decide (kv.1=k))=vs.any λkv=>decide (kv.1=k):=by
 unfold KV at r;induction r with
 | nil=>rfl
 | cons h t ih=>rw [any_cons,any_cons,ih,h.1]
theorem KV.repl {kvs:List (κ×V)} {vs:List (κ×Value)} (r:KV kvs vs) (k:κ) {y:V} {u:Value} (ry:RelV y u):
  KV (kvs.map λkv=>if kv.1=k then(kv.1,y) else kv) (vs.map λkv=>if kv.1=k then(kv.1,u) else kv):=by
 unfold KV at r ⊢;induction r with
 | nil=>exact .nil
 | @cons p q ps qs h t ih=>
  rw [map_cons,map_cons];refine .cons ?_ ih;obtain⟨h1,h2⟩:=h;by_cases e:p.1=k
  ·rw [if_pos e,if_pos (h1.symm.trans e)];exact⟨h1,ry⟩
  ·rw [if_neg e,if_neg (λz=>e (h1.trans z))];exact⟨h1,h2⟩
theorem KV.put {kvs:List (κ×V)} {vs:List (κ×Value)} (r:KV kvs vs) (k:κ) {y:V} {u:Value} (ry:RelV y u):KV (putK kvs k y) (stored vs k u):=by
 unfold putK stored;rw [r.any k];by_cases e:(vs.any λkv=>decide (kv.1=k))=true
 ·rw [if_pos e,if_pos e];exact r.repl k ry
 ·rw [if_neg e,if_neg e];exact Paired.snoc r ⟨rfl,ry⟩
theorem KV.length {kvs:List (κ×V)} {vs:List (κ×Value)} (r:KV kvs vs):kvs.length=vs.length:=Paired.length r
end
theorem Dy {P:Program} {w:World} {k:Key} {u:Value} (r:RelV (kV k) u):(cX P w).is k u=true:=by
 cases k with
 | inl i=>obtain⟨t,e⟩:=(show ∃t,u=Value.int i t from r);subst e;exact Kw P w i t
 | inr x=>obtain⟨t,e⟩:=(show ∃t,u=Value.str x t from r);subst e;exact mz P w x t
theorem IK {P:Program} {w:World}:∀{ks:List Key} {us:List Value},Vals (ks.map kV) us->ItemsAre (cX P w) ks us
 | [],_,r=>by rw [map_nil] at r;cases r;exact .nil
 | k:: ks,_,r=>by
  rw [map_cons] at r;cases r with
  | cons h t=>exact .cons (Dy h) (IK t)
noncomputable abbrev KT (H:Hp):List (List Key×V)->List (List Key×Addr×Value)->Prop:=Paired λp q=>p.1=q.1/\H q.2.1=some (.tup (p.1.map kV))/\RelV p.2 q.2.2
theorem KT.val {H:Hp} {kvs:List (List Key×V)} {xs:List (List Key×Addr×Value)} (r:KT H kvs xs) (k:List Key):rA (b7 kvs k) ((atKey xs k).map (·.2)):=by
 induction r with
 | nil=>exact True.intro
 | @cons p q ps qs h t ih=>
  obtain⟨h1,_,h2⟩:=h;by_cases e:p.1=k
  ·have e':q.1=k:=h1.symm.trans e;have b:atKey (q:: qs) k=some q.2:=by simp [atKey,find?_cons,e']
   rw [iz e,b];exact h2
  ·have e':¬q.1=k:=λz=>e (h1.trans z);have b:atKey (q:: qs) k=atKey qs k:=by simp [atKey,find?_cons,e']
   rw [gU e,b];exact ih
theorem KT.repl {H:Hp} {kvs:List (List Key×V)} {xs:List (List Key×Addr×Value)} (r:KT H kvs xs) (k:List Key) {y:V} {u:Value} (ry:RelV y u):
  KT H (kvs.map λkv=>if kv.1=k then(kv.1,y) else kv) (xs.map (putAt k u)):=by
 induction r with
 | nil=>exact .nil
 | @cons p q ps qs h t ih=>
  rw [map_cons,map_cons];refine .cons ?_ ih;obtain⟨h1,h2,h3⟩:=h;unfold putAt;by_cases e:p.1=k
  ·rw [if_pos e,if_pos (h1.symm.trans e)];exact⟨h1,h2,ry⟩
  ·rw [if_neg e,if_neg (λz=>e (h1.trans z))];exact⟨h1,h2,h3⟩
theorem KT.put {H:Hp} {kvs:List (List Key×V)} {xs:List (List Key×Addr×Value)} (r:KT H kvs xs) (k:List Key) {b:Addr} {y:V} {u:Value} (hb:H b=some (.tup (k.map kV))) (ry:RelV y u):
  KT H (putK kvs k y) (storedH xs k b u):=by
 have e:(kvs.any λkv=>decide (kv.1=k))=(atKey xs k).isSome:=by rw [rR,(r.val k).isSome_eq,isSome_map]
 unfold putK storedH;rw [e];by_cases q:(atKey xs k).isSome=true
 ·rw [if_pos q,if_pos q];exact r.repl k ry
 ·rw [if_neg q,if_neg q];exact Paired.snoc r ⟨rfl,hb,ry⟩
theorem KT.keeps {H H':Hp} {kvs:List (List Key×V)} {xs:List (List Key×Addr×Value)} (r:KT H kvs xs) (ht:∀b ys,H b=some (.tup ys)->H' b=some (.tup ys)):KT H' kvs xs:=
 Paired.mapP r λ_ _ z=>⟨z.1,ht _ _ z.2.1,z.2.2⟩
section
variable {P:Program} {w:World} {H:Hp} {h:Heap} {a:Addr}
theorem Xn {u:HO} (ok:vU P w H h) (e:Rd H a u):dD P w H h a u:=e.ok ok
theorem ye {kvs:List (Key×V)} (ok:vU P w H h) (e:Rd H a (.dK kvs)):kvs.length<=sizeLine/\(a == sysModules)=false/\∃vs,KV kvs vs/\h.DictOf (cX P w) a vs:=
 show dD P w H h a (.dK kvs) from Xn ok e
theorem W9 {kvs:List (Key×V)} (ok:vU P w H h) (e:H a=some (.dK kvs)):kvs.length<=sizeLine/\(a == sysModules)=false/\∃vs,KV kvs vs/\h.DictOf (cX P w) a vs:=ye ok (.inl e)
theorem Az {ks:List Key} (ok:vU P w H h) (e:H a=some (.tup (ks.map kV))):(tupleKind (cX P w)).is h ks a:=by obtain⟨_,its,r,o,h1,h2,n,h3⟩:=(show dD P w H h a (.tup (ks.map kV)) from ok a _ e);exact⟨o,its.toArray,n,h1,h2,h3,by simpa using IK r⟩
theorem DN {kvs:List (List Key×V)} (ok:vU P w H h) (e:Rd H a (.dT kvs)):kvs.length<=sizeLine/\(a == sysModules)=false/\
  ∃xs,KT H kvs xs/\h.DictOfH (tupleKind (cX P w)) a xs:=by
 obtain⟨z,y,xs,r,o,es,ep,h1,h2,h3,h4,h5⟩:=(show dD P w H h a (.dT kvs) from Xn ok e);refine⟨z,y,xs,r,o,es,ep,h1,h2,h3,h4,λx hx=>?_,h5⟩;have all:∀{l:List (List Key×V)} {m:List (List Key×Addr×Value)},KT H l m->∀x∈m,(tupleKind (cX P w)).is h x.1 x.2.1:=by
  intro l m q;induction q with
  | nil=>intro x hx;exact nomatch hx
  | @cons p q ps qs hq t ih=>
   intro x hx;rcases mem_cons.mp hx with e | hx
   ·subst e;exact Az ok (by rw [<-hq.1];exact hq.2.1)
   ·exact ih x hx
 exact all r x hx
theorem ZP {kvs:List (List Key×V)} (ok:vU P w H h) (e:H a=some (.dT kvs)):kvs.length<=sizeLine/\(a == sysModules)=false/\
  ∃xs,KT H kvs xs/\h.DictOfH (tupleKind (cX P w)) a xs:=DN ok (.inl e)
end
noncomputable def d8 (H:Hp) (a:Addr) (y:V) (r:Option V):Prop:=
 (∃kvs k,Rd H a (.dK kvs)/\y=kV k/\r=b7 kvs k)∨∃kvs k b,Rd H a (.dT kvs)/\y=.ref b/\H b=some (.tup (k.map kV))/\r=b7 kvs k
noncomputable def sO (H:Hp) (a:Addr) (y v:V) (H':Hp):Prop:=
 (∃kvs k,H a=some (.dK kvs)/\y=kV k/\kvs.length <sizeLine/\H'=upd H a (.dK (putK kvs k v)))∨
 ∃kvs k b,H a=some (.dT kvs)/\y=.ref b/\H b=some (.tup (k.map kV))/\kvs.length <sizeLine/\H'=upd H a (.dT (putK kvs k v))
theorem d8.k {H:Hp} {a:Addr} {kvs:List (Key×V)} {k:Key} (e:H a=some (.dK kvs)):d8 H a (kV k) (b7 kvs k):=.inl ⟨kvs,k,.inl e,rfl,rfl⟩
theorem sO.k {H:Hp} {a:Addr} {kvs:List (Key×V)} {k:Key} {v:V} (e:H a=some (.dK kvs)) (hl:kvs.length <sizeLine):sO H a (kV k) v (upd H a (.dK (putK kvs k v))):=.inl ⟨kvs,k,e,rfl,hl,rfl⟩
section
variable {X:Cx} {pins:List (Addr×Obj)} {σ:St} {H:Hp} {s:Shared} {a:Addr} {y v:V} {u r:Value} {o:Option V} {A:Around} {E:Value->Shared->Prop}
theorem Inv.big (I:Inv X pins σ H s):sysModules <s.heap.objs.size:=by have h:mainGlobals <s.heap.objs.size:=(I.mod.glob.keeps I.bk).lt;exact Nat.lt_trans (by decide) h
theorem Ir {Q:Value->Shared->Prop} (hu:A.units+1 <cLine) (I:Inv X pins σ H s) (g:d8 H a y (some v)) (ry:RelV y u) (h:∀w' s',Inv X pins σ H s'->RelV v w'->Q w' s'):
  wpAny (model X.prog X.w) A (getItem (.ref a) u) Q E s:=by
 rcases g with ⟨kvs,k,e,ey,l⟩ | ⟨kvs,k,b,e,ey,eb,l⟩
 ·subst ey;obtain⟨z,hd,vs,rel,dd⟩:=ye I.hok e;obtain⟨w',hw,rw'⟩:=rA.some_of (v:=v) (o:=valueAt vs k) (by rw [l];exact rel.val k);exact wpAny_getItem_of (Dy ry) dd.mapOf hw (h w' _ (I.tok _) rw')
 ·subst ey;cases (show u=Value.ref b from ry);obtain⟨z,hd,xs,rel,dd⟩:=DN I.hok e;obtain⟨w',hw,rw'⟩:=rA.some_of (v:=v) (o:=(atKey xs k).map (·.2)) (by rw [l];exact rel.val k);obtain⟨p,hp,hp2⟩:=map_eq_some_iff.mp hw;refine wpAny_getItem_heap (tupleKind_room_in1 hu) (Az I.hok eb) dd hp ?_;rw [hp2];exact h w' _ (I.tok _) rw'
theorem abg {Q:Value->Shared->Prop} (hu:A.units+1 <cLine) (I:Inv X pins σ H s) (g:d8 H a y o) (ry:RelV y u) (h:∀s',Inv X pins σ H s'->Q (.bool o.isSome) s'):
  wpAny (model X.prog X.w) A (compareOp .In u (.ref a)) Q E s:=by
 rcases g with ⟨kvs,k,e,ey,l⟩ | ⟨kvs,k,b,e,ey,eb,l⟩
 ·subst ey;obtain⟨z,hd,vs,rel,dd⟩:=ye I.hok e;refine wpAny_in_of (Dy ry) hd dd.mapOf ?_;rw [<-(rel.val k).isSome_eq,<-l];exact h _ (I.tok _)
 ·subst ey;cases (show u=Value.ref b from ry);obtain⟨z,hd,xs,rel,dd⟩:=DN I.hok e;refine wpAny_in_heap (tupleKind_room_in1 hu) (Az I.hok eb) hd dd ?_;have q:=(rel.val k).isSome_eq;rw [isSome_map] at q;rw [<-q,<-l];exact h _ (I.tok _)
theorem V7 {Q:Value->Shared->Prop} (hu:A.units+1 <cLine) (I:Inv X pins σ H s) (g:d8 H a y o) (ry:RelV y u) (h:∀s',Inv X pins σ H s'->Q (.bool (!o.isSome)) s'):
  wpAny (model X.prog X.w) A (compareOp .NotIn u (.ref a)) Q E s:=by
 rcases g with ⟨kvs,k,e,ey,l⟩ | ⟨kvs,k,b,e,ey,eb,l⟩
 ·subst ey;obtain⟨z,hd,vs,rel,dd⟩:=ye I.hok e;refine wpAny_notIn_of (Dy ry) hd dd.mapOf ?_;rw [<-(rel.val k).isSome_eq,<-l];exact h _ (I.tok _)
 ·subst ey;cases (show u=Value.ref b from ry);obtain⟨z,hd,xs,rel,dd⟩:=DN I.hok e;refine wpAny_notIn_heap (tupleKind_room_in1 hu) (Az I.hok eb) hd dd ?_;have q:=(rel.val k).isSome_eq;rw [isSome_map] at q;rw [<-q,<-l];exact h _ (I.tok _)
theorem Jc {h':Heap} {t':Nat} {ob:HO} (I:Inv X pins σ H s) (mu:ZQ (H a)) (hs:Heap.SameBut a s.heap h') (he:∃q,h'.get? a=some q) (new:dD X.prog X.w (upd H a ob) h' a ob):
  Inv X pins σ (upd H a ob) { s with heap:=h',toks:=t' }:=
 I.write (x:=a) (e:=a) mu (.inl rfl) (λb q hb z=>(hs.2 b hb).trans z) he new
theorem Tu {P:Program} {w:World} {H':Hp} {h':Heap} {kvs:List (Key×V)} {vs:List (Key×Value)} (z:kvs.length<=sizeLine) (hd:(a == sysModules)=false) (rel:KV kvs vs) (dd:h'.DictOf (cX P w) a vs):
  dD P w H' h' a (.dK kvs):=⟨z,hd,vs,rel,dd⟩
theorem HW {H':Hp} {Q:Unit->Shared->Prop} (hu:A.units+1 <cLine) (I:Inv X pins σ H s) (g:sO H a y v H') (ry:RelV y u) (rv:RelV v r) (h:∀s',Inv X pins σ H' s'->Q () s'):
  wpAny (model X.prog X.w) A (setItem (.ref a) u r) Q E s:=by
 rcases g with ⟨kvs,k,e,ey,l,eH⟩ | ⟨kvs,k,b,e,ey,eb,l,eH⟩
 ·subst ey eH;obtain⟨z,hd,vs,rel,dd⟩:=W9 I.hok e;have hz:vs.length<=sizeLine:=by rw [<-rel.length];exact z
  have hl:(putK kvs k v).length<=sizeLine:=by have:=mH kvs k v;lia
  refine wpAny_setItem_pairs (hsz:=hz) (Dy ry) dd λh' dd' hs=>h _ ?_;have he:∃q,h'.get? a=some q:=let ⟨q,_,_,hq,_⟩:=dd';⟨q,hq⟩
  exact Jc I (by rw [e];exact True.intro) hs he (Tu hl hd (rel.put k rv) dd')
 ·subst ey eH;cases (show u=Value.ref b from ry);obtain⟨z,hd,xs,rel,dd⟩:=ZP I.hok e;have hz:xs.length<=sizeLine:=by rw [<-Paired.length rel];exact z
  have hl:(putK kvs k v).length<=sizeLine:=by have:=mH kvs k v;lia
  refine wpAny_setItem_heap (hsz:=hz) (tupleKind_room_in1 hu) (Az I.hok eb) dd λh' dd' hs=>h _ ?_;obtain⟨q,es,ep,hq,h2,h3,h4,_,h5⟩:=dd';refine Jc I (by rw [e];exact True.intro) hs ⟨q,hq⟩ ⟨hl,hd,_,(rel.put k eb rv).keeps λc ys ec=>?_,q,es,ep,hq,h2,h3,h4,h5⟩;rw [aG (xm ec e (λz=>nomatch z))];exact ec
end
section
variable {X:Cx} {pins:List (Addr×Obj)} {σ:St} {H:Hp} {s:Shared} {a:Addr} {kvs:List (Key×V)} {k:Key} {u:Value} {A:Around} {E:Value->Shared->Prop}
end
noncomputable def Zy (i:Expr):Prop:=∀ov iv,subscripted i false ov iv=operate [ov,iv] (getItem ov iv)
theorem Vq {prog:Program} {w:World} {A:Around} {E:Value->Shared->Prop} {s:Shared} {env:Env} {value slice:Expr} {pos:Pos} {T id:String} {Q:Value->Shared->Prop}
  (hl:typeLookup (.type T) "__getitem__" =pure (some (.builtin id))) (hs:Zy slice)
  (h:wpAny (model prog w) A (eval value env) (λo s₁=>wpAny (model prog w) A (eval slice env) (λi s₂=>s₂.TypeIs o T/\wpAny (model prog w) A (getItem o i) Q E s₂) E s₁) E s):
  wpAny (model prog w) A (eval (.Subscript value slice pos) env) Q E s:=by
 refine Subscript_ (wpAny_mono h (λo s₁ h₁=>wpAny_mono h₁ (λi s₂ h₂=>?_) λ_ _ x=>x) λ_ _ x=>x);obtain⟨hT,h₂⟩:=h₂;unfold subscriptTail;refine wpAny_bind ?_;rw [getitemInPython_of_ne hT.not_modules];refine wpAny_bind (wpAny_specialOf hT hl ?_);have fin:wpAny (model prog w) A (subscripted slice false o i) (λr s₃=>wpAny (model prog w) A (letTemporaryGo value o r >>= λ_=>pure r) Q E s₃) E s₂:=by rw [hs o i];exact wpAny_operating (wpAny_mono h₂ (λr s₃ h₃=>wpAny_bind (wpAny_letTemporaryGo (wpAny_pure h₃))) λ_ _ x=>x)
 first
  | exact wpAny_pure (wpAny_bind fin)
  | exact wpAny_bind (wpAny_pure (wpAny_bind fin))
  | exact wpAny_bind fin
theorem KY {X:Cx} {pins:List (Addr×Obj)} {σ:St} {H:Hp} {s:Shared} {a:Addr} {y:V} {o:Option V} (I:Inv X pins σ H s) (g:d8 H a y o):s.TypeIs (.ref a) "dict" :=by
 rcases g with ⟨kvs,k,e,_,_⟩ | ⟨kvs,k,b,e,_,_,_⟩
 ·obtain⟨_,_,vs,_,dd⟩:=ye I.hok e;exact dd.typeIs
 ·obtain⟨_,_,xs,_,dd⟩:=DN I.hok e;exact dd.typeIs
inductive RC (Q:VK) (x:V) (y:V) (H2:Hp):Prop where
 | mk:∀a v,x=.ref a->d8 H2 a y (some v)->Q v H2->RC Q x y H2
noncomputable def Z2 (td ty:TE):TE:=λσ H Q=>td σ H λx H1=>ty σ H1 λy H2=>RC Q x y H2
inductive WL (Q:VK) (y:V) (x:V) (H2:Hp):Prop where
 | mk:∀a o,x=.ref a->d8 H2 a y o->Q (.bl o.isSome) H2->WL Q y x H2
noncomputable def aa8 (ty td:TE):TE:=λσ H Q=>ty σ H λy H1=>td σ H1 λx H2=>WL Q y x H2
inductive LQ (Q:VK) (y:V) (x:V) (H2:Hp):Prop where
 | mk:∀a o,x=.ref a->d8 H2 a y o->Q (.bl (!o.isSome)) H2->LQ Q y x H2
noncomputable def Vo (ty td:TE):TE:=λσ H Q=>ty σ H λy H1=>td σ H1 λx H2=>LQ Q y x H2
inductive Tw (D:Ends) (σ:St) (v:V) (x:V) (y:V) (H3:Hp):Prop where
 | mk:∀a H4,x=.ref a->sO H3 a y v H4->D.nx σ H4->Tw D σ v x y H3
noncomputable def Zh (td ty tv:TE):TS:=λD σ H=>tv σ H λv H1=>td σ H1 λx H2=>ty σ H2 λy H3=>Tw D σ v x y H3
inductive RX (tv:TE) (rd:V->V->Hp->VK->Prop) (D:Ends) (σ:St) (x:V) (y:V) (H2:Hp):Prop where
 | mk:∀a v,x=.ref a->d8 H2 a y (some v)->(tv σ H2 λy2 H3=>rd v y2 H3 λz H4=>∃H5,sO H4 a y z H5/\D.nx σ H5)->RX tv rd D σ x y H2
noncomputable def aal (td ty tv:TE) (rd:V->V->Hp->VK->Prop):TS:=λD σ H=>td σ H λx H1=>ty σ H1 λy H2=>RX tv rd D σ x y H2
section
variable {X:Cx} {o i e value:Expr} {pos pos' tpos:Pos} {td ty tv:TE}
theorem cM (hu:X.A.units+1 <cLine) (ho:PE X o td) (hi:PE X i ty) (hs:Zy i):PE X (.Subscript o i pos) (Z2 td ty):=by intro pins s σ H Q I h;refine Vq PySem.F.slot_dict_getitem.lookup hs (dz (ho pins s σ H _ I h) λu s1 ⟨x,H1,I1,rx,q1⟩=>dz (hi pins s1 σ H1 _ I1 q1) λiv s2 hpt=>?_);obtain⟨y,H2,I2,ry,a,v,ex,g,q2⟩:=hpt;subst ex;obtain rfl:u=Value.ref a:=rx;exact⟨KY I2 g,Ir hu I2 g ry λw' s3 I3 rw'=>⟨v,H2,I3,rw',q2⟩⟩
theorem Ad (hu:X.A.units+1 <cLine) (hi:PE X i ty) (ho:PE X o td):PC X .In i o (aa8 ty td):=by intro pins s σ H Q I h;refine dz (hi pins s σ H _ I h) λiv s1 ⟨y,H1,I1,ry,q1⟩=>dz (ho pins s1 σ H1 _ I1 q1) λu s2 hpt=>?_;obtain⟨x,H2,I2,rx,a,ov,ex,g,q2⟩:=hpt;subst ex;obtain rfl:u=Value.ref a:=rx;exact abg hu I2 g ry λs3 I3=>⟨.bl ov.isSome,H2,I3,Z,q2⟩
theorem wJ (hu:X.A.units+1 <cLine) (hi:PE X i ty) (ho:PE X o td):PC X .NotIn i o (Vo ty td):=by intro pins s σ H Q I h;refine dz (hi pins s σ H _ I h) λiv s1 ⟨y,H1,I1,ry,q1⟩=>dz (ho pins s1 σ H1 _ I1 q1) λu s2 hpt=>?_;obtain⟨x,H2,I2,rx,a,ov,ex,g,q2⟩:=hpt;subst ex;obtain rfl:u=Value.ref a:=rx;exact V7 hu I2 g ry λs3 I3=>⟨.bl (!ov.isSome),H2,I3,Z,q2⟩
theorem jj (hu:X.A.units+1 <cLine) (ho:PE X o td) (hi:PE X i ty) (hv:PE X value tv) (hs:swapsWith value (some (.Subscript o i pos')) pos.line X.env=pure false):
  PS X (.Assign [.Subscript o i pos'] value pos) (Zh td ty tv):=by
 intro pins s σ H D I h;refine wpAny_Assign_Subscript (dz (hv pins s σ H _ I h) λr s1 ⟨v,H1,I1,rv,q1⟩=>dz (ho pins s1 σ H1 _ I1 q1) λu s2 ⟨x,H2,I2,rx,q2⟩=>dz (hi pins s2 σ H2 _ I2 q2) λiv s3 hpt=>?_) hs;obtain⟨y,H3,I3,ry,a,H4,ex,g,q3⟩:=hpt;subst ex;obtain rfl:u=Value.ref a:=rx;exact HW hu I3 g ry rv λs4 I4=>⟨σ,H4,I4,q3⟩
theorem Qh {op:Operator} {rd:V->V->Hp->VK->Prop} (hu:X.A.units+1 <cLine) (ho:PE X o td) (hi:PE X i ty) (hv:PE X value tv) (hop:aan X op rd)
  (ha:∀ov iv new,augStore i ov iv new=(do holding [new,ov,iv] (setItem ov iv new);release [new,ov,iv] [];pure .next)):PS X (.AugAssign (.Subscript o i tpos) op value pos) (aal td ty tv rd):=by
 intro pins s σ H D I h;refine wpAny_AugAssign_SubscriptAny (dz (ho pins s σ H _ I h) λu s1 ⟨x,H1,I1,rx,q1⟩=>dz (hi pins s1 σ H1 _ I1 q1) λiv s2 hpt=>?_) ha;obtain⟨y,H2,I2,ry,a,v,ex,g,q2⟩:=hpt;subst ex;obtain rfl:u=Value.ref a:=rx;refine Ir hu I2 g ry λw' s3 I3 rw'=>dz (hv pins s3 σ H2 _ I3 q2) λw2 s4 ⟨y2,H3,I4,ry2,q3⟩=>dz (hop pins s4 σ H3 v y2 w' w2 _ I4 rw' ry2 q3) λw3 s5 hpt=>?_;obtain⟨z,H4,I5,rz,H5,g5,q4⟩:=hpt;exact HW hu I5 g5 ry rz λs6 I6=>⟨σ,H5,I6,q4⟩
end
theorem KQ {P:Program} {w:World} {H:Hp} (h:Heap) (hb:sysModules <h.objs.size):dD P w H (h.push { cls:=.type "dict",data:=.dict #[] }) h.objs.size (.dK []):=
 ⟨zero_le _,beq_eq_false_iff_ne.mpr (Ne.symm (ne_of_lt hb)),[],.nil,Heap.DictOf.new h⟩
noncomputable def Yy:TE:=λ_ H Q=>∀p,H p=none->Q (.ref p) (upd H p (.dK []))
section
variable {X:Cx} {pos:Pos}
theorem iW:PE X (.Dict [] [] pos) Yy:=λpins s σ H Q I h=>
 wpAny_Dict_empty ⟨.ref s.heap.objs.size,_,I.laid (a:=s.heap.objs.size) (o:=.dK []) (t':=s.toks) (λ_ _ q=>Heap.get?_push_of_some _ q) (le_refl _) (KQ s.heap I.big),rfl,h _ (I.hok.fresh (le_refl _))⟩
end
noncomputable def MN:List (TE×TE)->St->Hp->(List (V×V)->Hp->Prop)->Prop
 | [],_,H,Q=>Q [] H
 | (tk,tv):: r,σ,H,Q=>tk σ H λx H1=>tv σ H1 λy H2=>MN r σ H2 λps H3=>Q ((x,y):: ps) H3
noncomputable abbrev VV:List (V×V)->List (Value×Value)->Prop:=Paired λp q=>RelV p.1 q.1/\RelV p.2 q.2
noncomputable def PPs (X:Cx) (pos:Pos) (keys:List (Option Expr)) (values:List Expr) (trs:List (TE×TE)):Prop:=
 ∀(pins:List (Addr×Obj)) (s:Shared) (σ:St) (H:Hp) (Q:List (V×V)->Hp->Prop),Inv X pins σ H s->MN trs σ H Q->
  wpAny (model X.prog X.w) X.A (evalPairs (pairTrees keys values X.env pos)) (λvs s'=>∃ps H',Inv X pins σ H' s'/\VV ps vs/\Q ps H') X.xe s
theorem wM {X:Cx} {pos:Pos}:PPs X pos [] [] []:=λpins s σ H Q I h=>pairTrees_nil_walk ⟨[],H,I,.nil,h⟩
theorem p8 {X:Cx} {pos:Pos} {k v:Expr} {ks:List (Option Expr)} {vs:List Expr} {tk tv:TE} {trs:List (TE×TE)} (hk:PE X k tk) (hv:PE X v tv) (hr:PPs X pos ks vs trs):
  PPs X pos (some k:: ks) (v:: vs) ((tk,tv):: trs):=λpins s σ H Q I h=>
 pairTrees_cons_walk (dz (hk pins s σ H _ I h) λu s1 ⟨x,H1,I1,rx,q1⟩=>dz (hv pins s1 σ H1 _ I1 q1) λw2 s2 ⟨y,H2,I2,ry,q2⟩=>
  dz (hr pins s2 σ H2 _ I2 q2) λws s3 ⟨ps,H3,I3,rel,q3⟩=>⟨(x,y):: ps,H3,I3,.cons ⟨rx,ry⟩ rel,q3⟩)
noncomputable def pI (kvs more:List (Key×V)):List (Key×V):=more.foldl (λacc kv=>putK acc kv.1 kv.2) kvs
theorem KV.merge:∀{more:List (Key×V)} {rs:List (Key×Value)} {kvs:List (Key×V)} {vs:List (Key×Value)},KV more rs->KV kvs vs->KV (pI kvs more) (merged vs rs):=by
 intro more rs kvs vs r;unfold KV at r;induction r generalizing kvs vs with
 | nil=>intro q;exact q
 | @cons p q ps qs h t ih=>
  intro r0;have e:KV (putK kvs p.1 p.2) (stored vs q.1 q.2):=by have:=r0.put p.1 h.2;rw [<-h.1];exact this
  exact ih e
theorem xG:∀(more kvs:List (Key×V)),(pI kvs more).length<=kvs.length+more.length
 | [],kvs=>by show kvs.length<=kvs.length+0;lia
 | p:: r,kvs=>by have h1:=xG r (putK kvs p.1 p.2);have h2:=mH kvs p.1 p.2;show(pI (putK kvs p.1 p.2) r).length<=_;rw [length_cons];lia
theorem Er {P:Program} {w:World}:∀{kvs:List (Key×V)} {ws:List (Value×Value)},VV (kvs.map λkv=>(kV kv.1,kv.2)) ws->∃rs,Carries (cX P w) ws rs/\KV kvs rs
 | [],_,r=>by rw [map_nil] at r;cases r;exact⟨[],True.intro,.nil⟩
 | p:: kvs,_,r=>by
  rw [map_cons] at r;cases r with
  | @cons a b as bs h t=>
   obtain⟨rs,c,q⟩:=Er (P:=P) (w:=w) t;obtain⟨b1,b2⟩:=b;exact⟨(p.1,b2):: rs,⟨Dy h.1,Z,c⟩,.cons ⟨Z,h.2⟩ q⟩
noncomputable def ZX (trs:List (TE×TE)):TE:=λσ H Q=>∀p,H p=none->MN trs σ (upd H p (.dK [])) λps H2=>H2 p=some (.dK [])/\∃kvs:List (Key×V),ps=kvs.map (λkv=>(kV kv.1,kv.2))/\kvs.length<=15/\Q (.ref p) (upd H2 p (.dK (pI [] kvs)))
theorem wU {X:Cx} {pos:Pos} {keys:List (Option Expr)} {values:List Expr} {trs:List (TE×TE)} (h:PPs X pos keys values trs) (hall:keys.all (·.isSome)=true) (hl:keys.length=values.length) (h0:keys≠[])
  (h15:keys.length<=15):PE X (.Dict keys values pos) (ZX trs):=by
 intro pins s σ H Q I q;have hn:=I.hok.fresh (le_refl s.heap.objs.size);have I1:=I.laid (a:=s.heap.objs.size) (o:=.dK []) (h':=s.heap.push { cls:=.type "dict",data:=.dict #[] }) (t':=s.toks) (λ_ _ q=>Heap.get?_push_of_some _ q) (le_refl _) (KQ s.heap I.big);refine wpAny_Dict_walk (knd:=cX X.prog X.w) hall hl h0 h15 (dz (h pins _ σ _ _ I1 (q _ hn)) λws s2 hpt=>?_);obtain⟨ps,H2,I2,rel,e,kvs,ep,lk,q2⟩:=hpt;subst ep;obtain⟨rs,c,rk⟩:=Er (P:=X.prog) (w:=X.w) rel;obtain⟨z,hd,vs0,r0,dd⟩:=W9 I2.hok e;cases r0;refine⟨rs,c,dd,λh' dd' hs=>⟨.ref s.heap.objs.size,_,?_,Z,q2⟩⟩;have hz:(pI [] kvs).length<=sizeLine:=by have h1:=xG kvs [];rw [length_nil] at h1;rw [sizeLine_eq];lia
 have he:∃q,h'.get? s.heap.objs.size=some q:=let ⟨q,_,_,hq,_⟩:=dd';⟨q,hq⟩
 exact Jc I2 (by rw [e];exact True.intro) hs he (Tu hz hd (rk.merge .nil) dd')
structure M2 (X:Cx) (o:Expr) (m:Str) (apos:Pos) (e f:Expr) (cpos:Pos):Prop where
 base:attributeBase o m X.env (eval o X.env)=eval o X.env
 few:((backTo cpos (starEach [e,f] X.env)).all (λx=>!x.1) && (backToKw cpos (keywordEach [] X.env)).all (λx=>x.1.isSome)
  && decide (([e,f]:List Expr).length+([]:List Keyword).length+(if ([]:List Keyword).isEmpty then 0 else 1) <30))=true
 line:(apos.endLine == cpos.line)=true
 trees:backTo cpos (starEach [e,f] X.env)=[(false,eval e X.env),(false,eval f X.env)]
noncomputable def IsD (H:Hp) (a:Addr):Prop:=(∃kvs,Rd H a (.dK kvs))∨∃kvs,Rd H a (.dT kvs)
theorem Ym {X:Cx} {pins:List (Addr×Obj)} {σ:St} {H:Hp} {s:Shared} {a:Addr} (I:Inv X pins σ H s) (d:IsD H a):
  s.TypeIs (.ref a) "dict" /\(∀b,Value.ref a=.ref b->∃ob,s.heap.get? b=some ob/\ob.dict=none)/\(a == sysModules)=false:=by
 rcases d with ⟨kvs,e⟩ | ⟨kvs,e⟩
 ·obtain⟨_,hd,vs,_,dd⟩:=ye I.hok e;refine⟨dd.typeIs,λb q=>?_,hd⟩;cases q;obtain⟨ob,_,_,h1,h2,_⟩:=dd;exact⟨ob,h1,h2.2.1⟩
 ·obtain⟨_,hd,xs,_,dd⟩:=DN I.hok e;refine⟨dd.typeIs,λb q=>?_,hd⟩;cases q;obtain⟨ob,_,_,h1,h2,_⟩:=dd;exact⟨ob,h1,h2.2.1⟩
section
variable {X:Cx} {pins:List (Addr×Obj)} {σ:St} {H:Hp} {s:Shared} {a:Addr} {y d:V} {u r:Value} {o:Option V} {A:Around} {E:Value->Shared->Prop}
theorem Yj {Q:Value->Shared->Prop} (hu:A.units+1 <cLine) (I:Inv X pins σ H s) (g:d8 H a y o) (ry:RelV y u) (rd:RelV d r) (h:∀w' s',Inv X pins σ H s'->RelV (o.getD d) w'->Q w' s'):
  wpAny (model X.prog X.w) A (call (.builtin "dict.get") [.ref a,u,r]) Q E s:=by
 rcases g with ⟨kvs,k,e,ey,l⟩ | ⟨kvs,k,b,e,ey,eb,l⟩
 ·subst ey;obtain⟨z,hd,vs,rel,dd⟩:=ye I.hok e;refine call_meetsIn PySem.F.slot_dict_get dd.typeIs PySem.F.entry_dict_get (PySem.F.args_dict_get_3 _ _ _) (meets_dict_get_default (cX X.prog X.w) a (Dy ry) hd r) ⟨_,dd.mapOf,h _ _ (I.tok _) ?_⟩;rw [l];exact(rel.val k).getD rd
 ·subst ey;cases (show u=Value.ref b from ry);obtain⟨z,hd,xs,rel,dd⟩:=DN I.hok e;refine call_meetsIn PySem.F.slot_dict_get dd.typeIs PySem.F.entry_dict_get (PySem.F.args_dict_get_3 _ _ _) (meetsH_dict_get_default (tupleKind (cX X.prog X.w)) a b hd r) ⟨tupleKind_room_in1 hu,k,xs,Az I.hok eb,dd,h _ _ (I.tok _) ?_⟩;rw [l];exact(rel.val k).getD rd
end
inductive Ou (ty:TE) (tx:TE) (σ:St) (Q:VK) (x:V) (H1:Hp):Prop where
 | mk:∀a,x=.ref a->IsD H1 a->(ty σ H1 λy H2=>tx σ H2 λz H3=>∃o,d8 H3 a y o/\Q (o.getD z) H3)->Ou ty tx σ Q x H1
noncomputable def Yi (td ty tx:TE):TE:=λσ H Q=>td σ H λx H1=>Ou ty tx σ Q x H1
section
variable {X:Cx} {o e f:Expr} {apos cpos:Pos} {td ty tx:TE}
theorem RP (hu:X.A.units+1 <cLine) (ho:PE X o td) (he:PE X e ty) (hf:PE X f tx) (m:M2 X o "get" apos e f cpos):PE X (.Call (.Attribute o "get" apos) [e,f] [] cpos) (Yi td ty tx):=by
 intro pins s σ H Q I h;refine wpAny_Call_method m.base m.few m.line PySem.F.plainAttrs_dict PySem.F.slot_dict_get PySem.F.type_dict_get (dz (ho pins s σ H _ I h) λu s1 hpt=>?_);obtain⟨x,H1,I1,rx,a,ex,d,q1⟩:=hpt;subst ex;obtain rfl:u=Value.ref a:=rx;obtain⟨t1,t2,_⟩:=Ym I1 d;refine⟨t1,t2,?_⟩;rw [m.trees];refine Calls.callWith_builtin Z (Calls.evalArgs_plain (Calls.spliced_cons (dz (he pins s1 σ H1 _ I1 q1) λiv s2 ⟨y,H2,I2,ry,q2⟩=>
  Calls.spliced_cons (dz (hf pins s2 σ H2 _ I2 q2) λfv s3 ⟨z,H3,I3,rz,ov,g,q3⟩=>Calls.spliced_nil ?_))))
 exact Yj hu I3 g ry rz λw' s4 I4 rw'=>⟨_,H3,I4,rw',q3⟩
end
section
variable {X:Cx} {pins:List (Addr×Obj)} {σ:St} {H:Hp} {s:Shared} {a:Addr} {kvs:List (Key×V)} {A:Around} {E:Value->Shared->Prop}
end
section
variable {X:Cx} {pins:List (Addr×Obj)} {σ:St} {H:Hp} {s:Shared} {a:Addr} {y:V} {u:Value} {A:Around} {E:Value->Shared->Prop}
end
section
variable {X:Cx} {pins:List (Addr×Obj)} {σ:St} {H:Hp} {s:Shared} {d:Addr} {kvs:List (Key×V)}
theorem Inv.chill (I:Inv X pins σ H s) (e:H d=some (.dK kvs)):∃o,s.heap.get? d=some o/\Inv X pins σ (upd H d (.frz o (.dK kvs))) s:=by obtain⟨z,hd,vs,rel,o,es,ep,ho,r⟩:=(show dD X.prog X.w H s.heap d (.dK kvs) from I.hok d _ e);refine⟨o,ho,?_⟩;have:=I.write (x:=d) (e:=d) (o:=.frz o (.dK kvs)) (h':=s.heap) (t':=s.toks) (by rw [e];exact True.intro) (.inl rfl) (λb u _ q=>q) ⟨o,ho⟩ ⟨ho,z,hd,vs,rel,o,es,ep,ho,r⟩;exact this
theorem Inv.melt {o:Obj} (I:Inv X pins σ H s) (e:H d=some (.frz o (.dK kvs))) (h0:∀o u,X.H₀ d≠some (.frz o u)):Inv X pins σ (upd H d (.dK kvs)) s:=by
 have ne:∀b u,H b=some u->(∀o v,u≠.frz o v)->b≠d:=λb u q n z=>by rw [z,e] at q;exact n _ _ (Option.some.inj q).symm
 have no:∀b,H b=none->b≠d:=λb q z=>by rw [z,e] at q;cases q
 refine⟨I.ok,I.os,I.bare,⟨I.base.keep,I.base.slot,λb u q n hx=>?_,I.base.there,λb xs q=>?_,λb u v q=>?_,λb ps q=>?_⟩,I.loc,I.cell,?_,λy c q=>?_,λp h=>?_,λb u q=>?_,I.len⟩
 ·have z:=I.base.free b u q n hx;rw [aG (no b z)];exact z
 ·have z:=I.base.tups b xs q;rw [aG (ne b _ z (by intro _ _ w;cases w))];exact z
 ·have z:=I.base.frzs b u v q;rw [aG (λw=>by rw [w] at q;exact h0 _ _ q)];exact z
 ·obtain⟨m,z⟩:=I.base.tbls b ps q;exact⟨m,by rw [aG (ne b _ z (by intro _ _ w;cases w))];exact z⟩
 ·rw [aG (no _ I.free)];exact I.free
 ·rw [aG (no _ (I.freeC y c q))];exact I.freeC y c q
 ·obtain⟨z1,z2,r⟩:=I.pin p h;exact⟨z1,by rw [aG (no _ z2)];exact z2,r⟩
 ·by_cases w:b=d
  ·subst w;rw [aq] at q;cases q;exact(I.hok b _ e).2
  ·rw [aG w] at q;exact(I.hok b u q).stay (λ_ _ _ z=>z) (λc z=>by rw [aG (ne c _ z (by intro _ _ w;cases w))];exact z) λc xs z=>by rw [aG (ne c _ z (by intro _ _ w;cases w))];exact z
end
inductive X8 (H0 H H':Hp):Prop where
 | mk:∀d o kvs,H d=some (.frz o (.dK kvs))->((∀o u,H0 d≠some (.frz o u)))->H'=upd H d (.dK kvs)->X8 H0 H H'
section
variable {X:Cx} {H0:Hp} {st:Stmt} {sts:List Stmt} {e:Expr} {t:TS} {te:TE}
theorem zP (hH:X.H₀=H0) (h:PS X st t):PS X st (λD σ H=>t { D with nx:=λσ' H'=>∃H'',X8 H0 H' H''/\D.nx σ' H'' } σ H):=by
 subst hH;intro pins s σ H D I hh;refine dz (h pins s σ H _ I hh) λf s1 q=>?_;cases f with
 | next=>obtain⟨σ',H',I',H'',⟨d,o,kvs,e,n,rfl⟩,q⟩:=q;exact⟨σ',_,I'.melt e n,q⟩
 | ret v=>exact q
 | brk=>exact q
 | cont=>exact q
theorem V8 (hH:X.H₀=H0) (h:PE X e te):PE X e (λσ H Q=>te σ H λv H1=>∃H2,X8 H0 H1 H2/\Q v H2):=by subst hH;intro pins s σ H Q I hh;refine dz (h pins s σ H _ I hh) λu s1 q=>?_;obtain⟨v,H1,I1,r,H2,⟨d,o,kvs,e,n,rfl⟩,q⟩:=q;exact⟨v,_,I1.melt e n,r,q⟩
end
noncomputable def YZ (d:Addr) (o:Obj) (kvs:List (Key×V)):It:=
 ⟨λi H=>H d=some (.frz o (.dK kvs))/\i <kvs.length,λi H x H'=>H'=H/\∃k v,kvs[i]?=some (k,v)/\x=kV k,λi H=>H d=some (.frz o (.dK kvs))/\kvs.length<=i⟩
theorem SJ {P:Program} {w:World} {k:Key} {u:Value} (h:(cX P w).is k u=true):RelV (kV k) u:=by
 rcases fj (k:=k) (v:=u) h with ⟨i,t,rfl,rfl⟩ | ⟨x,t,rfl,rfl⟩
 ·exact⟨t,Z⟩
 ·exact⟨t,Z⟩
theorem M3:∀{kvs:List (Key×V)} {vs:List (Key×Value)} {i:Nat} {k:Key} {v:V},KV kvs vs->kvs[i]?=some (k,v)->∃v',vs[i]?=some (k,v')
 | _,_,0,k,v,.cons h _,e=>by cases (Option.some.inj e);exact⟨_,by rw [getElem?_cons_zero,show k=_ from h.1]⟩
 | _,_,i+1,k,v,.cons _ t,e=>by obtain⟨v',z⟩:=M3 (i:=i) (k:=k) (v:=v) t (by simpa using e);exact⟨v',by simpa using z⟩
theorem QR {P:Program} {w:World} {K:Fr} {tg:Expr} {d it:Addr} {o:Obj} {kvs:List (Key×V)} {vs:List (Key×Value)} {ep:Nat} (rel:KV kvs vs) (hD:∀h:Heap,h.get? d=some o->h.DictAt (cX P w) d vs ep):
  Turn P w K tg (YZ d o kvs) [it] it (λi h=>h.IsKeyIter it d i vs.length ep) where
 mem:=by simp
 obj:=λi h st b hb=>by
  have e:b=it:=by simpa using hb
  subst e;obtain⟨o,e,c,d⟩:=st;exact⟨o,e,λv z=>by rw [d] at z;cases z⟩
 keep:=λi h h' st k=>st.at λo e=>k it (by simp) o e
 item:=by intro X hP hw hK hc i pins s σ H E I hf st hg;subst hP hw hK;obtain⟨hq,hi⟩:=hg;obtain⟨f0,f1,f2,f3,f4,f5⟩:=hf it (by simp);have ho:s.heap.get? d=some o:=(I.hok d _ hq).1;have hl:kvs.length=vs.length:=Paired.length rel;obtain⟨k,v,ek⟩:∃k v,kvs[i]?=some (k,v):=⟨_,_,getElem?_eq_getElem hi⟩;obtain⟨v',ev⟩:=M3 rel ek;refine wpAny_pyNext_dict_item st (hD _ ho) ev λkey h' hk st' sb=>?_;have I1:Inv X pins σ H { s with heap:=h' }:=I.turned (t':=s.toks) (λb o hb e=>(sb.2 b hb).trans e) f0 f1 f3 f4 f5;obtain⟨o',e,c,dd⟩:=id st';exact⟨key,rfl,LK (s:={ s with heap:=h' }) e c dd (by decide) ⟨kV k,H,I1,SJ hk,⟨rfl,k,v,ek,rfl⟩,st',λb hb=>(hf b hb).1⟩⟩
 done:=by intro X hP hw hK hc i pins s σ H E I hf st hg;subst hP hw hK;obtain⟨hq,hi⟩:=hg;obtain⟨f0,f1,f2,f3,f4,f5⟩:=hf it (by simp);have ho:s.heap.get? d=some o:=(I.hok d _ hq).1;have hl:kvs.length=vs.length:=Paired.length rel;exact wpAny_pyNext_dict_end (I.ok.hd hc) st (hD _ ho) (List.getElem?_eq_none (by lia)) λh' eb=>⟨Z,I.turned (t':=s.toks) (λb o hb e=>eb b o hb e) f0 f1 f3 f4 f5⟩
 self:=λ_ _ _ _ _ st h=>wpAny_pyIter_keyiter st h
inductive UT (R:It->Hp->Prop) (x:V) (H1:Hp):Prop where
 | mk:∀d kvs,x=.ref d->H1 d=some (.dK kvs)->(∀o,R (YZ d o kvs) (upd H1 d (.frz o (.dK kvs))))->UT R x H1
noncomputable def Zo (td:TE):TI:=λσ H R=>td σ H λx H1=>UT R x H1
theorem yG {X:Cx} {tg l:Expr} {td:TE} (hl:PE X l td):PI X tg l (Zo td):=by
 intro pins s σ H R I h;refine dz (hl pins s σ H _ I h) λv s1 hpt=>?_;obtain⟨x,H1,I1,r1,q1⟩:=hpt;obtain⟨d,kvs,e,ed,q⟩:=q1;subst e;cases r1;obtain⟨_,hd,vs,rel,o0,es,ep,ho0,r⟩:=(show dD X.prog X.w H1 s1.heap d (.dK kvs) from I1.hok d _ ed);obtain⟨o,ho,I2⟩:=I1.chill ed;obtain rfl:o0=o:=Option.some.inj (ho0.symm.trans ho);have hD:∀h:Heap,h.get? d=some o0->h.DictAt (cX X.prog X.w) d vs ep:=λh z=>⟨o0,es,z,r⟩;refine wpAny_pyIter_dict hd (hD _ ho) ?_;refine⟨s1.heap.objs.size,[s1.heap.objs.size],_,_,_,Z,I2.kept (t':=s1.toks) λb o e=>Heap.get?_push_of_some _ e,QR rel hD,⟨_,Heap.get?_push_size _ Z,Z,Z⟩,λb hb=>?_,q o0⟩;have e:b=s1.heap.objs.size:=by simpa using hb
 subst e;exact I2.fpOk (le_refl _) (I2.hok.fresh (le_refl _))
theorem zq {d:Addr} {o:Obj} {kvs:List (Key×V)} {g:TG} {tb:TS} {D:Ends} {σ:St} {H:Hp} (Pv:Nat->St->Hp->Prop) (h0:Pv 0 σ H) (hl:∀i σ H,i<=kvs.length->Pv i σ H->H d=some (.frz o (.dK kvs)))
  (hs:∀i k v σ H,kvs[i]?=some (k,v)->Pv i σ H->g (kV k) σ H λσ2 H2=>tb { D with nx:=Pv (i+1),ct:=Pv (i+1),bk:=D.nx } σ2 H2) (hd:∀σ H,Pv kvs.length σ H->D.nx σ H):
  ∃W:Nat->Nat->St->Hp->Prop,(∃m,W 0 m σ H)/\∀i m σ H,W i m σ H->
   ((YZ d o kvs).stop i H/\D.nx σ H)∨((YZ d o kvs).go i H/\∃N:St->Hp->Prop,(∀σ' H',N σ' H'->∃m',m' <m/\W (i+1) m' σ' H')/\∀x H',(YZ d o kvs).yld i H x H'->g x σ H' λσ2 H2=>tb { D with nx:=N,ct:=N,bk:=D.nx } σ2 H2):=by
 refine⟨λi m σ H=>m=kvs.length - i/\i<=kvs.length/\Pv i σ H,⟨kvs.length,by simp,zero_le _,h0⟩,?_⟩;rintro i m σ H ⟨rfl,hi,p⟩;have q:=hl i σ H hi p;by_cases hlt:i <kvs.length
 ·refine .inr ⟨⟨q,hlt⟩,Pv (i+1),λσ' H' p'=>⟨kvs.length - (i+1),by lia,Z,hlt,p'⟩,λx H' y=>?_⟩;obtain⟨rfl,k,v,ek,rfl⟩:=y;exact hs i k v σ _ ek p
 ·obtain rfl:i=kvs.length:=by lia
  exact .inl ⟨⟨q,le_refl _⟩,hd σ H p⟩
theorem QG {js:List Nat} {tt:TT} {te:TE} {σ:St} {Qd:List V->Hp->Prop} {d:Addr} {o:Obj} {kvs:List (Key×V)} {H:Hp} (Pv:Nat->List V->Hp->Prop) (hn:kvs.length<=sizeLine) (h0:Pv 0 [] H) (hl:∀i ys H,Pv i ys H->ys.length<=i) (hq:∀i ys H,i<=kvs.length->Pv i ys H->H d=some (.frz o (.dK kvs)))
  (hs:∀i k v ys H,kvs[i]?=some (k,v)->Pv i ys H->tt (some (kV k):: dU σ js) H λb H4=>if b=true then te (some (kV k):: dU σ js) H4 λy H5=>Pv (i+1) (ys ++ [y]) H5 else Pv (i+1) ys H4)
  (hd:∀ys H,Pv kvs.length ys H->Qd ys H):CompEnd js tt te σ Qd (YZ d o kvs) H:=by
 refine⟨λi m ys H=>m=kvs.length - i/\i<=kvs.length/\Pv i ys H,⟨kvs.length,by simp,zero_le _,h0⟩,?_⟩;rintro i m ys H ⟨rfl,hi,p⟩;have hlen:=hl i ys H p;have q:=hq i ys H hi p;by_cases hlt:i <kvs.length
 ·refine .inr ⟨⟨q,hlt⟩,by lia,Pv (i+1),λys' H' p'=>⟨kvs.length - (i+1),by lia,Z,hlt,p'⟩,λx H' y=>?_⟩;obtain⟨rfl,k,v,ek,rfl⟩:=y;exact hs i k v ys _ ek p
 ·obtain rfl:i=kvs.length:=by lia
  exact .inl ⟨⟨q,le_refl _⟩,by lia,hd ys H p⟩
theorem Cd:∀{xs:List V} {us:List Value},us.length=xs.length->(∀(j:Nat) x u,xs[j]?=some x->us[j]?=some u->RelV x u)->Vals xs us
 | [],[],_,_=>.nil
 | [],_:: _,h,_=>by simp at h
 | _:: _,[],h,_=>by simp at h
 | x:: xs,u:: us,h,r=>.cons (r 0 x u rfl rfl) (Cd (by simpa using h) λj y v h1 h2=>r (j+1) y v (by simpa using h1) (by simpa using h2))
theorem pO {X:Cx} (hc:X.calm=true):lg X (.type "list") (λxs H Q=>∃d kvs,xs=[.ref d]/\Rd H d (.dK kvs)/\∀l,H l=none->Q (.ref l) (upd H l (.lst (kvs.map λp=>kV p.1)))):=by intro pins s σ H xs us Q I rx h;obtain⟨d,kvs,rfl,hr,q⟩:=h;obtain⟨u,rfl,ru⟩:=vals1 rx;cases ru;obtain⟨z,hd,vs,rel,dd⟩:=ye I.hok hr;obtain⟨ep,da⟩:=dd.dictAt;have hl:kvs.length=vs.length:=Paired.length rel;refine PySem.W.kdl_call (PySem.W.kdl_dict (knd:=cX X.prog X.w) (kvs:=vs) (ep:=ep) hd) (I.ok.hd hc) da (by lia) λh' tk acc' c' kp e' hi=>?_;refine⟨.ref s.heap.objs.size,_,I.laid (t':=tk) kp (le_refl _) (show dD X.prog X.w _ h' _ (.lst (kvs.map λp=>kV p.1)) from⟨by rw [length_map];exact z,acc'.toList,c',Cd (by rw [Array.length_toList,hi.1,length_map,hl]) λj x u hx hu=>?_,by simpa using e'⟩),rfl,q _ (I.hok.fresh (le_refl _))⟩;obtain⟨k,v,hkv,hk⟩:=hi.2 j u (by rw [<-Array.getElem?_toList];exact hu);rw [getElem?_map] at hx;obtain⟨p,hp,rfl⟩:=map_eq_some_iff.mp hx;obtain⟨v',hv'⟩:=M3 rel (k:=p.1) (v:=p.2) hp;rw [hkv] at hv';cases hv';exact SJ hk
section
variable {X:Cx} {pins:List (Addr×Obj)} {σ:St} {H:Hp} {s:Shared}
end
section
variable {X:Cx} {tg:Expr}
end
theorem gZ.u1 {k:Nat} {A:Around} (r:gZ k A):A.units+1 <cLine:=by have:=r.units;lia
section
variable {prog:Program} {w:World} {A:Around} {E:Value->Shared->Prop} {s:Shared}
noncomputable def WR (prog:Program) (w:World) (A:Around) (s:Shared) (y x:Value):Prop:=∀(E:Value->Shared->Prop) (Q:Bool->Shared->Prop),Q true s->wpAny (model prog w) A (eqBool y x) Q E s
theorem WR.of_at {y x:Value} (h:SeqAt.EqAt A s y x true):WR prog w A s y x:=λE Q q=>h prog w E Q q
theorem WR.of_cmp {a b:Addr} (ne:a≠b) (h:∀(E:Value->Shared->Prop) (Q:Value->Shared->Prop),Q (.bool true) s->wpAny (model prog w) A (compareOp .Eq (.ref a) (.ref b)) Q E s):WR prog w A s (.ref a) (.ref b):=λE Q q=>by unfold eqBool;refine wpAny_holding (wpAny_ite_split (λz=>absurd (by have:=eq_of_beq z;injection this) ne) λ_=>?_);exact wpAny_bind (h E _ (wpAny_truthy_bool q))
end
theorem xn:∀{vs:List (Key×Value)} {n:Nat} {k:Key} {v:Value},(vs.map (·.1)).Nodup->vs[n]?=some (k,v)->valueAt vs k=some v
 | p:: r,0,k,v,_,e=>by cases (Option.some.inj e);simp [valueAt]
 | p:: r,n+1,k,v,nd,e=>by
  rw [map_cons,nodup_cons] at nd;have e':r[n]?=some (k,v):=by simpa using e
  have ne:p.1≠k:=λz=>nd.1 (by rw [z];exact mem_map.mpr ⟨(k,v),mem_of_getElem? e',rfl⟩);have ih:=xn nd.2 e';unfold valueAt at ih ⊢;rw [find?_cons,decide_eq_false ne];exact ih
theorem PQ:∀{kvs:List (Key×V)} {vs:List (Key×Value)} {i:Nat} {k:Key} {v:Value},KV kvs vs->vs[i]?=some (k,v)->∃v0,kvs[i]?=some (k,v0)/\RelV v0 v
 | _,_,0,k,v,@Paired.cons _ _ _ p _ kvs _ h _,e=>by cases (Option.some.inj e);exact⟨p.2,by rw [getElem?_cons_zero,show p=(k,p.2) from by rw [show k=p.1 from h.1.symm]],h.2⟩
 | _,_,i+1,k,v,.cons _ t,e=>by obtain⟨v0,z,r⟩:=PQ (i:=i) (k:=k) (v:=v) t (by simpa using e);exact⟨v0,by simpa using z,r⟩
theorem Ph:∀{kvs:List (Key×V)} {vs:List (Key×Value)} {i:Nat} {k:Key} {v:V},KV kvs vs->kvs[i]?=some (k,v)->∃v',vs[i]?=some (k,v')/\RelV v v'
 | _,_,0,k,v,.cons h _,e=>by cases (Option.some.inj e);exact⟨_,by rw [getElem?_cons_zero,show k=_ from h.1],h.2⟩
 | _,_,i+1,k,v,.cons _ t,e=>by obtain⟨v',z,r⟩:=Ph (i:=i) (k:=k) (v:=v) t (by simpa using e);exact⟨v',by simpa using z,r⟩
theorem gZ.u100 {k:Nat} {A:Around} (r:gZ k A):A.units+100 <cLine:=by have:=r.un;lia
theorem uw {P:Program} {w:World} {X:Cx}:kJ (sX P w) X E0:=by intro pins σ H s e s' _ c;obtain⟨_,_,_,_,_,_,_,_,_,_,_,_,_,_,z⟩:=c;exact z.elim
theorem JP {X:Cx} {K:Fr} {e:Expr} {f:Str} {pos:Pos} {ta:TE} (hK:X.K=K) (he:PE X e ta) (hb:attributeBase e f X.env (eval e X.env)=eval e X.env):PE X (.Attribute e f pos) (Zc K ta f):=by subst hK;exact aW he hb
theorem Fz {X:Cx} {K:Fr} (hK:X.K=K):wK X (compareOp .In) (rIn K false):=by subst hK;exact Hb
theorem xK {X:Cx} {K:Fr} (hK:X.K=K):wK X (compareOp .NotIn) (rIn K true):=by subst hK;exact fX
section
variable {X:Cx} {P:Program} {w:World} {K:Fr} {mg:Str->Option Value} {base:Heap} {CX:CZ} {k:Nat} {E:XK} {m:Str} {pos apos:Pos} {e o:Expr} {es:List Expr} {ta:TE} {t:TA}
theorem Np {pl:Sem Bool} (hP:X.prog=P) (hw:X.w=w) (hK:X.K=K) (hm:X.mg=mg) (hb:X.base=base) (he:PE X o ta) (hr:gZ k X.A) (hx:kJ CX X E)
  (ht:eval (.Call (.Attribute o m apos) [] [] pos) X.env=(do
   let ov <-eval o X.env
   standAt apos.atName
   let (f,first) <-holding [ov] (getMethod ov m pl)
   callWith pos f first (backTo pos (starEach [] X.env)) (backToKw pos (keywordEach [] X.env))):=by rfl):
  PE X (.Call (.Attribute o m apos) [] [] pos) (Nr P w K mg base CX k m E ta Rt):=by
 subst hP hw hK hm hb;exact Ih he hr hx ht
end
section
variable {prog:Program} {w:World} {A:Around} {R:Result->Shared->Prop} {s:Shared}
theorem aad {elt tg iter:Expr} {ifs:List Expr} {scope:Scope} {pos:Pos} {it acc:Value} {env:Env} (J:Nat->Shared->Prop)
  (turn:∀k s1,J k s1->wpAny (model prog w) A (pyNext it) (λr s2=>match r with
   | none=>R (.ok .next) s2
   | some v=>wpAny (model prog w) A (letOwnedTupleGo tg it v) (λ_ s3=>wpAny (model prog w) A (assign tg env v) (λ_ s4=>
     wpAny (model prog w) A (forIn ifs true λc r=>if r=true then do let ok <-isTrue c env (eval c env);pure (ForInStep.yield ok) else pure (ForInStep.yield r)) (λok s5=>
      if ok=true then wpAny (model prog w) A (eval elt env) (λy s6=>wpAny (model prog w) A (call (.builtin "list.append") [acc,y]) (λ_ s7=>∃m,m <k/\J m s7) (notedBy (model prog w) A env λe s'=>R (.error e) s') s6)
       (notedBy (model prog w) A env λe s'=>R (.error e) s') s5
      else ∃m,m <k/\J m s5) (notedBy (model prog w) A env λe s'=>R (.error e) s') s4) (notedBy (model prog w) A env λe s'=>R (.error e) s') s3) (notedBy (model prog w) A env λe s'=>R (.error e) s') s2)
   (notedBy (model prog w) A env λe s'=>R (.error e) s') s1)
  (k:Nat) (h:J k s):codeAny (model prog w) A (.compLoop (.ListComp elt [⟨tg,iter,ifs,0⟩] scope pos) 0 it acc env) R s:=by
 refine codeAny_loop Z J (λk s1 hJ=>?_) k h;show wpAny _ A ((compTurn (.ListComp elt [⟨tg,iter,ifs,0⟩] scope pos) 0 it acc env).onRaise (λe=>do noteFrame e env;theTreesLotGoes e)) _ _ s1;refine wpAny_noted ?_;rw [compTurn_list];refine wpAny_bind (wpAny_standAt (wpAny_bind (wpAny_mono (turn k s1 hJ) (λr s2 h2=>?_) λ_ _ z=>z)));cases r with
 | none=>exact wpAny_pure h2
 | some v=>
  refine wpAny_bind (wpAny_mono h2 (λ_ s3 h3=>wpAny_bind (wpAny_mono h3 (λ_ s4 h4=>wpAny_bind (wpAny_mono h4 (λok s5 h5=>?_) λ_ _ z=>z)) λ_ _ z=>z)) λ_ _ z=>z);cases ok with
  | false=>exact wpAny_pure ⟨rfl,h5⟩
  | true=>exact wpAny_bind (wpAny_bind (wpAny_mono h5 (λy s6 h6=>wpAny_bind (wpAny_mono h6 (λ_ s7 h7=>wpAny_pure (wpAny_pure ⟨rfl,h7⟩)) λ_ _ z=>z)) λ_ _ z=>z))
end
section
variable {X:Cx} {tg:Expr} {g:TG} {pos:Pos} {iter elt:Expr} {ifs:List Expr} {scope:Scope} {wi:TI} {tt:TT} {te:TE}
end
theorem QZ {X:Cx} (hc:X.calm=true):lg X (.builtin "min") (λxs H Q=>∃(p:Addr) (a b:Int),xs=[.ref p]/\bK X.K H p [.int a,.int b]/\Q (.int (if b <a then b else a)) H):=by
 intro pins s σ H xs us Q I r h;obtain⟨p,a,b,rfl,hq,q⟩:=h;obtain⟨u,rfl,rx⟩:=vals1 r;cases rx;obtain⟨its,rv,pl,_⟩:=I.list hq;obtain⟨v1,v2,rfl,⟨t1,rfl⟩,⟨t2,rfl⟩⟩:=vals2 rv;have hl:s.heap.IsList p (intItems #[(a,t1),(b,t2)]):=by simpa [intItems] using pl.isList
 refine min_intList (I.ok.hd hc) hl (by simp) λv h' tk hv hk=>?_;obtain⟨t,rfl⟩:=intItems_at hv;obtain⟨h1,h2⟩:=argBest_lt (numAt #[(a,t1),(b,t2)]) (#[(a,t1),(b,t2)].size - 1);have h1':argBest (λi j=>decide (numAt #[(a,t1),(b,t2)] i <numAt #[(a,t1),(b,t2)] j)) (#[(a,t1),(b,t2)].size - 1)<=1:=h1;have ha:_<=a:=h2 0 (zero_le _);have hb:_<=b:=h2 1 (by simp);generalize argBest (λi j=>decide (numAt #[(a,t1),(b,t2)] i <numAt #[(a,t1),(b,t2)] j)) (#[(a,t1),(b,t2)].size - 1)=k at h1' ha hb ⊢;refine⟨.int (numAt #[(a,t1),(b,t2)] k),H,I.kept hk,⟨_,Z⟩,?_⟩;have e:numAt #[(a,t1),(b,t2)] k=if b <a then b else a:=by
  match k,h1',ha,hb with
  | 0,_,_,hb=>
   have hb':a<=b:=hb;rw [if_neg (by lia)];rfl
  | 1,_,ha,_=>
   have ha':b<=a:=ha;show b=_;by_cases z:b <a
   ·rw [if_pos z]
   ·rw [if_neg z];lia
 rw [e];exact q
theorem QW {X:Cx} (hc:X.calm=true):lg X (.builtin "max") (λxs H Q=>∃(p:Addr) (a b:Int),xs=[.ref p]/\bK X.K H p [.int a,.int b]/\Q (.int (if b <a then a else b)) H):=by
 intro pins s σ H xs us Q I r h;obtain⟨p,a,b,rfl,hq,q⟩:=h;obtain⟨u,rfl,rx⟩:=vals1 r;cases rx;obtain⟨its,rv,pl,_⟩:=I.list hq;obtain⟨v1,v2,rfl,⟨t1,rfl⟩,⟨t2,rfl⟩⟩:=vals2 rv;have hl:s.heap.IsList p (intItems #[(a,t1),(b,t2)]):=by simpa [intItems] using pl.isList
 refine max_intList (I.ok.hd hc) hl (by simp) λv h' tk hv hk=>?_;obtain⟨t,rfl⟩:=intItems_at hv;obtain⟨h1,h2⟩:=argBest_gt (numAt #[(a,t1),(b,t2)]) (#[(a,t1),(b,t2)].size - 1);have h1':argBest (λi j=>decide (numAt #[(a,t1),(b,t2)] i >numAt #[(a,t1),(b,t2)] j)) (#[(a,t1),(b,t2)].size - 1)<=1:=h1;have ha:a<=_:=h2 0 (zero_le _);have hb:b<=_:=h2 1 (by simp);generalize argBest (λi j=>decide (numAt #[(a,t1),(b,t2)] i >numAt #[(a,t1),(b,t2)] j)) (#[(a,t1),(b,t2)].size - 1)=k at h1' ha hb ⊢;refine⟨.int (numAt #[(a,t1),(b,t2)] k),H,I.kept hk,⟨_,Z⟩,?_⟩;have e:numAt #[(a,t1),(b,t2)] k=if b <a then a else b:=by
  match k,h1',ha,hb with
  | 0,_,_,hb=>
   have hb':b<=a:=hb;show a=_;by_cases z:b <a
   ·rw [if_pos z]
   ·rw [if_neg z];lia
  | 1,_,ha,_=>
   have ha':a<=b:=ha;rw [if_neg (by lia)];rfl
 rw [e];exact q
theorem O4 {X:Cx} {K:Fr} {es:List Expr} {k:Nat} {pos:Pos} {t:Vc} {n:Nat} (hK:X.K=K) (hc:X.calm=true) (h:PGs X es t)
  (hn:(assignEach es X.env).length=n:=by rfl) (hst:(assignEach es X.env).findIdx? (·.1)=none:=by rfl):PG X (.Tuple es k pos) (Zv K n t):=by
 subst hK;exact Gp hc h hn hst
noncomputable def lN (X:Cx) (scope:Scope) (xs:List Str) (js:List Nat) (cl:List (Str×Addr)) (C:Addr) (s:Shared) (H:Hp) (ex:List Addr):Cx where
 prog:=X.prog
 w:=X.w
 K:=X.K
 mg:=X.mg
 base:=X.base
 A:=X.A
 N:=xs ++ dw X.N js
 s₀:=s
 H₀:=H
 env:=compEnvC scope cl C X.env
 outer:=X.stack
 stack:=X.stack
 ex:=ex
 fn:=λ_=>false
 calm:=X.calm
 pn:=[]
 xe:=λ_ _=>False
noncomputable def FW (xs:List Str) (js:List Nat) (σ:St) (g:TG) (tt:TT) (te:TE) (Qd:List V->Hp->Prop) (J:It) (H1:Hp):Prop:=∃W:Nat->Nat->List V->Hp->Prop,(∃m,W 0 m [] H1)/\∀i m ys H2,W i m ys H2->
 (J.stop i H2/\ys.length<=sizeLine/\Qd ys H2)∨
 (J.go i H2/\ys.length <sizeLine/\∃N:List V->Hp->Prop,(∀ys' H',N ys' H'->∃m',m' <m/\W (i+1) m' ys' H')/\∀x H3,J.yld i H2 x H3->g x ((xs.map λ_=>none) ++ dU σ js) H3 λσ2 H4=>σ2.drop xs.length=dU σ js/\tt σ2 H4 λb H5=>
  if b=true then te σ2 H5 λy H6=>N (ys ++ [y]) H6 else N ys H5)
noncomputable def Ru (xs:List Str) (js:List Nat) (wi:TI) (g:TG) (tt:TT) (te:TE):TE:=λσ H Q=>wi σ H (FW xs js σ g tt te λys H2=>∀D,H2 D=none->Q (.ref D) (upd H2 D (.lst ys)))
section
variable {X:Cx} {tg:Expr} {g:TG} {pos:Pos} {iter elt:Expr} {ifs:List Expr} {scope:Scope} {wi:TI} {tt:TT} {te:TE}
theorem wA (xs:List Str) (js:List Nat) {pins:List (Addr×Obj)} {σ:St} {s:Shared} {itv:Value} {Q:List V->Hp->Prop} {RR:Value->Addr->Result->Shared->Prop} {E:Value->Shared->Prop}
  (hc:X.calm=true) (hk:scope.kind=.function) (hcell:∀y∈scope.names,y.2≠.cell)
  (hfree:∀y∈scope.names,y.2=.free->X.env.kindOf y.1=some .cell∨X.env.kindOf y.1=some .free)
  (hg:∀cl C s H ex,PG (lN X scope xs js cl C s H ex) tg g)
  (hif:∀cl C s H ex,PF (lN X scope xs js cl C s H ex) ifs tt) (he:∀cl C s H ex,PE (lN X scope xs js cl C s H ex) elt te)
  (hjs:∀y∈dw X.N js,scope.names.lookup y=some .free) (hit:PIE X pins σ tg (FW xs js σ g tt te Q) itv s)
  (hR:∀D C s' H2 ys m,Inv X pins σ (upd H2 D (.lst ys)) s'->H2 D=none->s'.heap.Ns C m->(∀h',Heap.SameBut C s'.heap h'->Inv X pins σ (upd H2 D (.lst ys)) { s' with heap:=h' })->Jd X pins (upd H2 D (.lst ys)) C->C≠D->Q ys H2->RR (.ref D) C (.ok .next) s'):
  wpAny (model X.prog X.w) X.A (newList []) (λacc s₃=>wpAny (model X.prog X.w) X.A (newFunctionEnv scope X.env.globals (clos X.env scope.names []) [] X.env.qual none .none (some X.env)) (λcenv s₄=>
   codeAny (model X.prog X.w) X.A (.compStart (.ListComp elt [⟨tg,iter,ifs,0⟩] scope pos) 0 itv acc { cenv with scope:=relabel scope X.env }) (RR acc cenv.locals) s₄) E s₃) E s:=by
 obtain⟨it,fp,tn,J,H1,rfl,I1,T,st1,f1,W,⟨m0,w0⟩,turn⟩:=hit;refine wpAny_newObj_type (wpAny_newFunctionEnv hcell (by intro y hy;simp at hy) (λh₁ hns₁ hsb₁=>?_) hk);dsimp only at hns₁ hsb₁ ⊢;generalize hH2:s.heap.push { cls:=.type "list",dict:=none,data:=.seq ([]:List Value).toArray }=Hl at hns₁ hsb₁ ⊢;generalize hDe:s.heap.objs.size=D;have hCe:Hl.objs.size=D+1:=by rw [<-hH2,Heap.size_push,hDe]
 generalize hC:Hl.objs.size=C at hns₁ hsb₁ hCe ⊢;subst hCe;have hDC:D≠D+1:=ne_of_lt (lt_succ_self _);have lt:∀b o,s.heap.get? b=some o->b <D:=λb o e=>hDe ▸ Heap.lt_size e;have old:∀b o,s.heap.get? b=some o->h₁.get? b=some o:=λb o e=>by have hb:=lt b o e;refine hsb₁.extBut b o (ne_of_lt (lt_succ_of_lt hb)) (Heap.get?_push_of_some _ ?_);rw [<-hH2];exact Heap.get?_push_of_some _ e
 have accD:h₁.get? D=some { cls:=.type "list",dict:=none,data:=.seq ([]:List Value).toArray }:=by refine hsb₁.extBut _ _ hDC (Heap.get?_push_of_some _ ?_);rw [<-hH2,<-hDe];exact Heap.get?_push_size _ rfl
 have fresh:∀a,D<=a->H1 a=none:=λa ha=>I1.hok.fresh (by rw [hDe];exact ha);have fpD:∀b∈fp,b <D:=λb hb=>by obtain⟨o,e,_⟩:=T.obj 0 s.heap st1 b hb;exact lt b o e
 have cellD:∀y c,X.env.cells.lookup y=some c->c <D:=λy c e=>by obtain⟨v,q⟩:=I1.cell y c e;exact hDe ▸ q.lt
 generalize hcl:clos X.env scope.names []=cl;have clsub:∀y c,cl.lookup y=some c->X.env.cells.lookup y=some c:=by rw [<-hcl];exact Ku scope.names [] λy a e=>by simp at e
 have frD:∀b∈frs X.stack,b <D:=λb hb=>by obtain⟨_,o,ho,_⟩:=I1.stack.mem hb;exact lt b o ho
 let Y:Cx:=lN X scope xs js cl (D+1) s H1 fp
 have kinds:∀y,Y.env.kindOf y=some .cell∨Y.env.kindOf y=some .free->∃k∈scope.names,k.1=y/\k.2=.free:=λy hy=>by
  have hy':(relabel scope X.env).names.lookup y=some .cell∨(relabel scope X.env).names.lookup y=some .free:=hy;rw [vh] at hy';cases q:scope.names.lookup y with
  | none=>rw [q] at hy';simp at hy'
  | some k=>
   have hm:=PySem.mem_of_lookup q;refine⟨(y,k),hm,Z,?_⟩;have h1:k≠.cell:=hcell _ hm;rw [q] at hy';simp only [map_some,Option.some.injEq] at hy';by_cases hkf:k=.free
   ·exact hkf
   ·have:(k == NameKind.free)=false:=by simpa using hkf
    simp only [this,Bool.false_and,Bool.false_eq_true,if_false] at hy';rcases hy' with e | e
    ·exact absurd e h1
    ·exact absurd e hkf
 have okY:Y.Ok:=by
  refine⟨I1.ok.mod,hk,I1.ok.glob,I1.ok.blt,(by show s.heap.objs.size<=D+1;rw [hDe];exact le_succ _),λy z c h1 h2=>I1.ok.inj y z c (clsub y c h1) (clsub z c h2),λy hy=>?_,λy c h _=>absurd h (by show ¬(false=true);decide),I1.ok.hd,I1.ok.frames,.inl rfl,λb hb=>⟨ne_of_lt (lt_succ_of_lt (fpD b hb)),λy c e z=>(f1 b hb).2.2.2.2.1 y c (clsub y c e) z⟩,
   λb o e=>I1.bs b o e,le_trans I1.ok.bsz I1.sz,λb o e hb=>?_,λb hb hf=>?_,I1.stack,I1.stkFree⟩
  ·obtain⟨k,hm,e1,e2⟩:=kinds y hy;show ∃c,cl.lookup y=some c;rw [<-hcl];refine DG scope.names [] y (.inr ⟨k,hm,e1,e2,?_⟩);have:=hfree k hm e2;rw [e1] at this;exact I1.ok.has y this
  ·obtain⟨_,_,_,h4,_,_⟩:=f1 b hb;rcases h4 with z | z
   ·exact I1.ok.noex b o e z
   ·exact absurd (lt_of_lt_of_le (Heap.lt_size e) (le_trans I1.ok.bsz z)) (lt_irrefl _)
  ·rcases mem_cons.mp (I1.stkSub b hf) with z | z
   ·exact(f1 b hb).2.1 z
   ·exact(f1 b hb).2.2.1 z
 let σ0:St:=(xs.map λ_=>none) ++ dU σ js
 have IY:Inv Y [] σ0 H1 { s with heap:=h₁,toks:=s.toks+([]:List (Str×Value)).length }:=by
  refine⟨okY,Z,I1.bare,Un.kept old,⟨_,hns₁,λi y v e1 e2 e3=>?_⟩,λy c e=>?_,fresh _ (le_succ _),λy c e=>I1.freeC y c (clsub y c e),λp hp=>absurd (show p∈([]:List (Addr×Obj)) from hp) (by simp),I1.hok.kept old,?_⟩
  ·by_cases hi:i <xs.length
   ·exfalso;have e2':((xs.map λ_=>(none:Option V)) ++ dU σ js)[i]?=some (some v):=e2;rw [List.getElem?_append_left (by rw [length_map];exact hi),getElem?_map,getElem?_eq_getElem hi] at e2';cases e2'
   ·have e1':(xs ++ dw X.N js)[i]?=some y:=e1;have e2':((xs.map λ_=>(none:Option V)) ++ dU σ js)[i]?=some (some v):=e2;rw [List.getElem?_append_right (by lia)] at e1';rw [List.getElem?_append_right (by rw [length_map];lia),length_map] at e2';generalize i - xs.length=i at e1' e2';unfold dw at e1';unfold dU at e2';rw [getElem?_map] at e1' e2';cases q:js[i]? with
    | none=>rw [q] at e1';cases e1'
    | some j=>
     rw [q] at e1' e2';simp only [map_some,Option.some.injEq] at e1' e2';have hv:σ[j]?=some (some v):=by
      cases z:σ[j]? with
      | none=>rw [z] at e2';cases e2'
      | some w=>rw [z] at e2';simpa using e2'
     have hj:j <X.N.length:=by rw [<-I1.len];exact(List.getElem?_eq_some_iff.mp hv).1
     have hy:X.N[j]?=some y:=by rw [getElem?_eq_getElem hj] at e1' ⊢;rw [<-e1'];rfl
     obtain⟨m,hn,hl⟩:=I1.loc;have hmem:y∈dw X.N js:=mem_map.mpr ⟨j,mem_of_getElem? q,by rw [hy];rfl⟩;have hfr:=hjs y hmem;have hkx:=hfree _ (PySem.mem_of_lookup hfr) rfl;have hvis:Vis X.env.scope y:=hkx.elim (λz=>.inr (.inl z)) λz=>.inr (.inr z);obtain⟨u,r,l⟩:=hl j y v hy hv hvis;refine⟨u,r,?_⟩;rcases l with ⟨kl,_⟩ | ⟨_,c,hc1,z⟩
     ·exfalso;have kl':X.env.kindOf y=some .local:=kl;rcases hkx with w | w <;> · rw [show X.env.kindOf y=_ from w] at kl';cases kl'
     ·obtain⟨c',hc'⟩:=DG (env:=X.env) scope.names [] y (.inr ⟨_,PySem.mem_of_lookup hfr,rfl,rfl,c,hc1⟩);rw [hcl] at hc';have e4:=clsub y c' hc';rw [hc1] at e4;cases e4;obtain⟨o,ho,hd⟩:=z;refine .inr ⟨?_,c,hc',o,old c o ho,hd⟩;rcases e3 with e3 | e3 | e3
      ·exfalso;have e3':(relabel scope X.env).names.lookup y=some .local:=e3;rw [vh,hfr] at e3';simp only [map_some,Option.some.injEq] at e3';split at e3' <;> cases e3'
      ·exact .inl e3
      ·exact .inr e3
  ·obtain⟨v,q⟩:=I1.cell y c (clsub y c e);obtain⟨o,ho,hd⟩:=q;exact⟨v,o,old c o ho,hd⟩
  ·show((xs.map λ_=>(none:Option V)) ++ dU σ js).length=(xs ++ dw X.N js).length;unfold dU dw;rw [length_append,length_append,length_map,length_map,length_map]
 have mkR:∀(s':Shared) (H2:Hp) (ys:List V) (its:List Value) (σ':St),Inv Y [] σ' H2 s'->s'.heap.PlainList D its.toArray->Vals ys its->ys.length<=sizeLine->H2 D=none->Q ys H2->RR (.ref D) (D+1) (.ok .next) s':=by
  intro s' H2 ys its σ' I' pl rv hz hD hq;obtain⟨m,hn,_⟩:=I'.loc;have hn':s'.heap.Ns (D+1) m:=hn;have hCn:H2 (D+1)=none:=I'.free;have hch:∀b∈fp,(b∈X.ex∨X.s₀.heap.objs.size<=b)/\b≠X.env.locals/\(∀x c,X.env.cells.lookup x=some c->c≠b)/\∀p∈X.pn ++ pins,p.1≠b:=λb hb=>by obtain⟨_,h2,_,h4,h5,h6⟩:=f1 b hb;exact⟨h4,h2,h5,h6⟩
  have bs:Un (frs X.stack) fp H1 H2 s.heap s'.heap:=I'.base;have all:∀h',Heap.SameBut (D+1) s'.heap h'->Inv X pins σ (upd H2 D (.lst ys)) { s' with heap:=h' }:=λh' sb=>by
   have neD:∀b o,s.heap.get? b=some o->b≠D:=λb o e=>ne_of_lt (lt b o e);have neC:∀b o,s.heap.get? b=some o->b≠D+1:=λb o e=>ne_of_lt (lt_succ_of_lt (lt b o e));refine I1.call' (s':={ s' with heap:=h' }) (ch:=fp) I'.os ⟨λb o e n hb hx=>?_,λb o e n hb hx=>?_,λb o e n hx=>?_,λb o e hx=>?_,λb xs e=>?_,λb o u e=>?_,λb ps e=>?_⟩ ?_ I'.bare hch
   ·exact(sb.2 b (neC b o e)).trans (bs.keep b o e n hb hx)
   ·obtain⟨sl,q⟩:=bs.slot b o e n hb hx;exact⟨sl,(sb.2 b (neC b o e)).trans q⟩
   ·rw [aG (neD b o e)];exact bs.free b o e n hx
   ·obtain⟨o',q⟩:=bs.there b o e hx;exact⟨o',(sb.2 b (neC b o e)).trans q⟩
   ·have:=bs.tups b xs e;rw [aG (aC this hD)];exact this
   ·have:=bs.frzs b o u e;rw [aG (aC this hD)];exact this
   ·obtain⟨more,q⟩:=bs.tbls b ps e;exact⟨more,by rw [aG (aC q hD)];exact q⟩
   ·have h0:vU X.prog X.w H2 h':=λb u e=>(I'.hok b u e).stay (λc v hc q=>(sb.2 c (by
     rintro rfl;rcases hc with z | z
     ·rw [z,e] at hCn;cases hCn
     ·rw [z] at hCn;cases hCn)).trans q) (λ_ q=>q) λ_ _ q=>q
    refine Io h0 hD ?_;obtain⟨n,e⟩:=pl;exact⟨hz,its,n,rv,(sb.2 D hDC).trans e⟩
  have hall:=all s'.heap (.refl ..);refine hR D (D+1) s' H2 ys m hall hD hn' all ?_ hDC.symm hq;refine⟨by rw [aG hDC.symm];exact hCn,?_,?_,.inr (le_trans I1.sz (by rw [hDe];exact le_succ _)),λy c e z=>?_,λp hp z=>?_⟩
  ·exact Nat.ne_of_gt (Nat.lt_trans (hDe ▸ I1.lt) (lt_succ_self _))
  ·exact I1.nofs (by rw [hDe];exact le_succ _)
  ·exact absurd z (ne_of_lt (lt_succ_of_lt (cellD y c e)))
  ·exact absurd z (ne_of_lt (lt_succ_of_lt (lt _ _ (I1.pin p hp).1)))
 have loop:∀s₃:Shared,s₃={ s with heap:=h₁,toks:=s.toks+([]:List (Str×Value)).length }->
   codeAny (model X.prog X.w) X.A (.compLoop (.ListComp elt [⟨tg,iter,ifs,0⟩] scope pos) 0 (.ref it) (.ref D) Y.env) (RR (.ref D) (D+1)) s₃:=by
  rintro s₃ rfl;have stat:∀{H':Hp} {ob:Obj},(∀b∈fp,H' b=none)->∀b∈fp,Jd Y [(D,ob)] H' b:=λ{H'} {ob} hn b hb=>by
   refine⟨hn b hb,ne_of_lt (lt_succ_of_lt (fpD b hb)),λhf=>okY.exfs b hb hf,.inl hb,λy c e=>(okY.exf b hb).2 y c e,λp hp z=>?_⟩;have hp':p∈[(D,ob)]:=hp;have e:p=(D,ob):=by simpa using hp'
   rw [e] at z;exact absurd z (Ne.symm (ne_of_lt (fpD b hb)))
  refine aad (λn s'=>∃i ys its H',∃ob:Obj,Inv Y [(D,ob)] σ0 H' s'/\(∃n,ob={ cls:=.type "list",data:=.seq its.toArray n })/\Vals ys its/\H' D=none/\tn i s'.heap/\(∀b∈fp,H' b=none)/\W i n ys H') ?_ m0
   ⟨0,[],[],H1,{ cls:=.type "list",dict:=none,data:=.seq ([]:List Value).toArray },?_,⟨_,rfl⟩,.nil,fresh _ (le_refl _),T.keep _ _ _ st1 λb _ o e=>old b o e,λb hb=>(f1 b hb).1,w0⟩
  ·rintro n s3 ⟨i,ys,its,H3,ob,I3,⟨cap,rfl⟩,rv,hD,st3,fr3,w3⟩;rcases turn i n ys H3 w3 with ⟨stop,hz,hq⟩ | ⟨go,hz,N,hN7,step⟩
   ·refine wpAny_mono (T.done Y Z Z Z hc i _ s3 σ0 H3 (λ_ _=>False) I3 (stat fr3) st3 stop) (λr s4 ⟨hr,I4⟩=>?_) λ_ _ f=>f.elim;subst hr;exact mkR s4 H3 ys its σ0 (I4.pins_of λp hp=>absurd hp (by simp)) ⟨cap,(I4.pin _ (mem_append_right _ mem_cons_self)).1⟩ rv hz hD hq
   ·refine wpAny_mono (T.item Y Z Z Z hc i _ s3 σ0 H3 (λ_ _=>False) I3 (stat fr3) st3 go) (λr s4 ⟨u,hr,h4⟩=>?_) λ_ _ f=>f.elim;subst hr;refine wpAny_mono h4 (λ_ s4 ⟨xv,H5,I5,r5,y5,st5,fr5⟩=>?_) λ_ _ f=>f.elim;have I5':=I5.pinned (stat fr5) (T.obj _ _ st5);refine wpAny_mono (hg cl (D+1) s H1 fp _ _ σ0 H5 xv u _ I5' r5 (step xv H5 y5)) (λ_ s6 ⟨σ6,H6,I6,hσ6,q6⟩=>?_) λ_ _ f=>False.elim f;have again:∀{s7:Shared} {H7:Hp} {ys7:List V} {its7:List Value} {cap7:Nat} {pl:List (Addr×Obj)},Inv Y ([(D,{ cls:=.type "list",data:=.seq its7.toArray cap7 })] ++ pl) σ6 H7 s7->(∀b∈fp,∀o,s4.heap.get? b=some o->s7.heap.get? b=some o/\H7 b=none)->Vals ys7 its7->(∃m',m' <n/\W (i+1) m' ys7 H7)->
      ∃m,m <n/\∃i ys its H',∃ob:Obj,Inv Y [(D,ob)] σ0 H' s7/\(∃n,ob={ cls:=.type "list",data:=.seq its.toArray n })/\Vals ys its/\H' D=none/\tn i s7.heap/\(∀b∈fp,H' b=none)/\W i m ys H':=by
     intro s7 H7 ys7 its7 cap7 pl I7 kf rv7 ⟨m',hm,w7⟩;refine⟨m',hm,i+1,ys7,its7,H7,_,I7.unpinned.weak (by rw [I7.len];show((xs.map λ_=>(none:Option V)) ++ dU σ js).length=(xs ++ dw X.N js).length;unfold dU dw;rw [length_append,length_append,length_map,length_map,length_map]) λj v e=>?_,⟨cap7,rfl⟩,rv7,(I7.pin _ (mem_append_right _ (mem_append_left _ mem_cons_self))).2.1,T.keep _ _ _ st5 λb hb o e=>(kf b hb o e).1,λb hb=>?_,w7⟩
     ·have e':((xs.map λ_=>(none:Option V)) ++ dU σ js)[j]?=some (some v):=e;by_cases hj:j <xs.length
      ·exfalso;rw [List.getElem?_append_left (by rw [length_map];exact hj),getElem?_map,getElem?_eq_getElem hj] at e';cases e'
      ·rw [List.getElem?_append_right (by rw [length_map];lia),length_map,<-hσ6,List.getElem?_drop] at e';rw [show xs.length+(j - xs.length)=j by lia] at e';exact e'
     ·obtain⟨o,e,_⟩:=T.obj _ _ st5 b hb;exact(kf b hb o e).2
    refine wpAny_mono (hif cl (D+1) s H1 fp _ s6 _ H6 _ I6 q6) (λok s7 ⟨H7,I7,q7⟩=>?_) λ_ _ f=>False.elim f;have kf7:∀b∈fp,∀o,s4.heap.get? b=some o->s7.heap.get? b=some o/\H7 b=none:=λb hb o e=>
     have z:=I7.pin (b,o) (mem_append_right _ (mem_append_right _ (tZ hb e)))
     ⟨z.1,z.2.1⟩
    cases ok with
    | false=>
     rw [if_neg Bool.false_ne_true] at q7 ⊢;exact again I7 kf7 rv (hN7 _ _ q7)
    | true=>
     rw [if_pos rfl] at q7 ⊢;refine wpAny_mono (he cl (D+1) s H1 fp _ s7 _ H7 _ I7 q7) (λyv s8 ⟨y,H8,I8,r8,q8⟩=>?_) λ_ _ f=>False.elim f;have pD:=I8.pin _ (mem_append_right _ (mem_append_left _ mem_cons_self));have hlen:=rv.length;refine wpAny_list_append_plain (items:=its.toArray) ⟨cap,pD.1⟩ (λh9 pl9 sb9=>?_) (by rw [size_toArray];lia);obtain⟨cap9,e9⟩:=pl9;have I9:Inv Y [] σ6 H8 { s8 with heap:=h9 }:=(I8.pins_of (pins':=[]) λp hp=>absurd hp (by simp)).turned (t':=s8.toks) (it:=D) (λb o hb e=>(sb9.2 b hb).trans e) pD.2.1 hDC
      (.inr (Nat.le_of_eq hDe)) (λy c e z=>absurd z (ne_of_lt (cellD y c (clsub y c e)))) λp hp=>absurd (show p∈([]:List (Addr×Obj)) from hp) (by simp)
     have kf9:∀b∈fp,∀o,s4.heap.get? b=some o->h9.get? b=some o/\H8 b=none:=λb hb o e=>by have z:=I8.pin (b,o) (mem_append_right _ (mem_append_right _ (tZ hb e)));exact⟨(sb9.2 b (ne_of_lt (fpD b hb))).trans z.1,z.2.1⟩
     refine again (s7:={ s8 with heap:=h9 }) (its7:=its ++ [yv]) (cap7:=cap9) (pl:=[]) (I9.pins_of λp hp=>?_) kf9 (rv.append (.cons r8 .nil)) (hN7 _ _ q8);have hp':p=(D,{ cls:=.type "list",data:=.seq (its ++ [yv]).toArray cap9 }):=by simpa using hp
     subst hp';refine⟨?_,pD.2.1,pD.2.2.1,pD.2.2.2.1,λv z=>by cases z⟩;rw [e9];simp
  ·refine IY.pins_of λp hp=>?_;have hp':p=(D,{ cls:=.type "list",dict:=none,data:=.seq ([]:List Value).toArray }):=by simpa using hp
   subst hp';exact⟨accD,fresh _ (le_refl _),hDC,λhf=>lt_irrefl _ (frD _ hf),λv z=>by cases z⟩
 exact codeAny_compStart_list (loop _ rfl) (wpAny_mono (T.self X.A 0 _ (λv s'=>v=.ref it/\s'={ s with heap:=h₁,toks:=s.toks+([]:List (Str×Value)).length }) (λ_ _=>False) (T.keep _ _ _ st1 λb _ o e=>old b o e) ⟨rfl,rfl⟩) (λv s' ⟨e1,e2⟩=>by subst e1 e2;exact loop _ rfl) λ_ _ f=>f.elim)
theorem Ul (xs:List Str) (js:List Nat) (N0:List Str) (sc0:Scope) (hc:X.calm=true) (hi:PI X tg iter wi) (hg:∀cl C s H ex,PG (lN X scope xs js cl C s H ex) tg g)
  (hif:∀cl C s H ex,PF (lN X scope xs js cl C s H ex) ifs tt) (he:∀cl C s H ex,PE (lN X scope xs js cl C s H ex) elt te)
  (hk:scope.kind=.function:=by rfl) (hcell:∀y∈scope.names,y.2≠.cell:=by decide +kernel)
  (hnames:∀y∈scope.names,y.2=.local->scope.names.lookup y.1=some .local:=by decide +kernel)
  (hsc:X.env.scope=sc0:=by rfl) (hfree0:∀y∈scope.names,y.2=.free->sc0.names.lookup y.1=some .cell∨sc0.names.lookup y.1=some .free:=by decide +kernel)
  (hNN:X.N=N0:=by rfl) (hj0:∀y∈dw N0 js,scope.names.lookup y=some .free:=by decide +kernel)
  (hs:∀x,foldedSetIterable iter X.env x=pure x:=by intro _;rfl):
  PE X (.ListComp elt [⟨tg,iter,ifs,0⟩] scope pos) (Ru xs js wi g tt te):=by
 intro pins s σ H Q I h;have hfree:∀y∈scope.names,y.2=.free->X.env.kindOf y.1=some .cell∨X.env.kindOf y.1=some .free:=λy hy e=>by show X.env.scope.names.lookup y.1=some .cell∨X.env.scope.names.lookup y.1=some .free;rw [hsc];exact hfree0 y hy e
 rw [eval_ListComp];have hcl:closureFor scope X.env=pure (clos X.env scope.names []):=lW λy hy e=>I.ok.has y.1 (hfree y hy e);refine wpAny_comprehension_free (use:=none) Z hs hcl hk hnames (dz (hi pins s σ H _ I h) λxv s1 h1=>dz h1 λit s2 h2=>?_);have hjs:∀y∈dw X.N js,scope.names.lookup y=some .free:=by rw [hNN];exact hj0
 refine wA xs js (RR:=λacc C=>compPost (model X.prog X.w) X.A X.xe none (EP X pins σ Q) acc C) (Q:=λys H2=>∀D,H2 D=none->Q (.ref D) (upd H2 D (.lst ys))) hc hk hcell hfree hg hif he hjs h2 ?_;intro D C s' H2 ys m I' hD hn all fpC hCD hq;exact⟨m,hn,λh' sb=>⟨.ref D,_,all h' sb,Z,hq D hD⟩⟩
theorem Uj {i:Nat} {y:Str} {py spos:Pos} (xs:List Str) (js:List Nat) (N0:List Str) (sc0:Scope) (hc:X.calm=true) (hNX:X.N.Nodup) (hiy:X.N[i]?=some y) (hi:PI X tg iter wi) (hg:∀cl C s H ex,PG (lN X scope xs js cl C s H ex) tg g)
  (hif:∀cl C s H ex,PF (lN X scope xs js cl C s H ex) ifs tt) (he:∀cl C s H ex,PE (lN X scope xs js cl C s H ex) elt te)
  (hsw:swapsWith (.ListComp elt [⟨tg,iter,ifs,0⟩] scope pos) (some (.Name y py)) spos.line X.env=pure true:=by rfl) (hy:X.env.scope.names.lookup y=some .local:=by rfl)
  (hk:scope.kind=.function:=by rfl) (hcell:∀y∈scope.names,y.2≠.cell:=by decide +kernel)
  (hnames:∀y∈scope.names,y.2=.local->scope.names.lookup y.1=some .local:=by decide +kernel)
  (hsc:X.env.scope=sc0:=by rfl) (hfree0:∀y∈scope.names,y.2=.free->sc0.names.lookup y.1=some .cell∨sc0.names.lookup y.1=some .free:=by decide +kernel)
  (hNN:X.N=N0:=by rfl) (hj0:∀y∈dw N0 js,scope.names.lookup y=some .free:=by decide +kernel)
  (hs:∀x,foldedSetIterable iter X.env x=pure x:=by intro _;rfl):
  PS X (.Assign [.Name y py] (.ListComp elt [⟨tg,iter,ifs,0⟩] scope pos) spos) (Ue (Ru xs js wi g tt te) (za i)):=by
 intro pins s σ H D I h;have hfree:∀y∈scope.names,y.2=.free->X.env.kindOf y.1=some .cell∨X.env.kindOf y.1=some .free:=λy hy e=>by show X.env.scope.names.lookup y.1=some .cell∨X.env.scope.names.lookup y.1=some .free;rw [hsc];exact hfree0 y hy e
 have hjs:∀y∈dw X.N js,scope.names.lookup y=some .free:=by rw [hNN];exact hj0
 rw [exec_Assign_Name_used _ _ _ _ hsw];refine wpAny_bind (wpAny_standAt (wpAny_bind ?_));show wpAny _ X.A (do let _ <-comprehension (.ListComp elt [⟨tg,iter,ifs,0⟩] scope pos) scope X.env _ (newList []) false (eval iter X.env) (some (assign (.Name y py) X.env))) _ _ s;have hcl:closureFor scope X.env=pure (clos X.env scope.names []):=lW λy hy e=>I.ok.has y.1 (hfree y hy e);refine wpAny_bind (wpAny_mono (wpAny_comprehension_free (use:=some (assign (.Name y py) X.env)) (Q:=λ_ s'=>SP X pins D .next s') Z hs hcl hk hnames
  (dz (hi pins s σ H _ I h) λxv s1 h1=>dz h1 λit s2 h2=>?_)) (λ_ s' hq=>wpAny_pure (wpAny_pure hq)) λ_ _ e=>e)
 refine wA xs js (RR:=λacc C=>compPost (model X.prog X.w) X.A X.xe (some (assign (.Name y py) X.env)) (λ_ s'=>SP X pins D .next s') acc C) (Q:=λys H2=>∀D',H2 D'=none->D.nx (σ.set i (some (.ref D'))) (upd H2 D' (.lst ys))) hc hk hcell hfree hg hif he hjs h2 ?_;intro D' C s' H2 ys m I' hD hn all fpC hCD hq;show wpAny _ X.A (assign (.Name y py) X.env (.ref D')) _ _ _;refine wpAny_assign_Name (Ax I' hNX hiy (.inl hy) (v:=.ref D') Z (λs'' I'' ⟨a,sb,ha⟩=>?_) (.inr hy));obtain⟨f1,f2,f3,f4,f5,f6⟩:=fpC;have hCa:C≠a:=by
  rcases ha with z | z
  ·rw [z];exact f2
  ·exact λw=>f5 _ _ z w.symm
 exact⟨m,hn.sameBut sb hCa,λh' sb'=>⟨_,_,I''.turned (t':=s''.toks) (it:=C) (λb o hb e=>(sb'.2 b hb).trans e) f1 f2 f4 f5 f6,hq D' hD⟩⟩
end
theorem Ge {ts:List Str} {js:List Nat} {σ:St} {g:TG} {tt:TT} {te:TE} {Qd:List V->Hp->Prop} {K:Fr} {a:Addr} {xs:List V} {H:Hp} (Pv:Nat->List V->Hp->Prop) (hn:xs.length<=sizeLine) (h0:Pv 0 [] H) (hl:∀i ys H,Pv i ys H->ys.length<=i) (hq:∀i ys H,i<=xs.length->Pv i ys H->bK K H a xs)
  (hs:∀i x ys H,xs[i]?=some x->Pv i ys H->g x ((ts.map λ_=>none) ++ dU σ js) H λσ2 H3=>σ2.drop ts.length=dU σ js/\tt σ2 H3 λb H4=>if b=true then te σ2 H4 λy H5=>Pv (i+1) (ys ++ [y]) H5 else Pv (i+1) ys H4)
  (hd:∀ys H,Pv xs.length ys H->Qd ys H):FW ts js σ g tt te Qd (Ve K a) H:=by
 refine⟨λi m ys H=>m=xs.length - i/\i<=xs.length/\Pv i ys H,⟨xs.length,by simp,zero_le _,h0⟩,?_⟩;rintro i m ys H ⟨rfl,hi,p⟩;have hlen:=hl i ys H p;have q:=hq i ys H hi p;by_cases hlt:i <xs.length
 ·refine .inr ⟨⟨xs,xs[i],q,by simp [hlt]⟩,by lia,Pv (i+1),λys' H' p'=>⟨xs.length - (i+1),by lia,Z,hlt,p'⟩,λx H' y=>?_⟩;obtain⟨e,y⟩:=y;subst e;exact hs i x ys _ (y xs q) p
 ·have e:i=xs.length:=by lia
  subst e;exact .inl ⟨⟨xs,q,le_refl _⟩,by lia,hd ys H p⟩
structure M8 (K:Fr) (x qual:Str) (st:Stmt) (f:Addr) (fd:FuncData) (its:Array Value):Prop where
 ex:∃(oc:Value) (od:Option Addr) (T:Addr) (kV doc pm:Value) (an:Option Addr) (cdv ct:Value) (osl:Array (Option Value)) (o:Obj) (n:Nat),
  fd=PySem.W.fnOf x qual (jo st) (gA st) (aR st) (.ref T) kV doc pm an cdv ct/\K.lookup f=some ⟨oc,od,.func fd,osl⟩/\PySem.W.codeIn K cdv qual=true/\K.lookup T=some o/\o.data=.seq its n
 kp:PySem.W.keepIn K (.ref f)=true
section
variable {P:Program} {w:World} {K:Fr} {mg:Str->Option Value} {base:Heap} {its:Array Value}
theorem M8.binds {x qual:Str} {st:Stmt} {f:Addr} {fd:FuncData} {ps:List Str} (F:M8 K x qual st f fd its)
  (h:∀(T:Addr) (kV doc pm:Value) (an:Option Addr) (cdv ct:Value) (us:List Value),us.length=ps.length->∃k,bindArgs (PySem.W.fnOf x qual (jo st) (gA st) (aR st) (.ref T) kV doc pm an cdv ct) ⟨us,[]⟩=seqItems? (.ref T) >>= k/\k (some its)=pure (ps.zip us)):Binds K fd ps []:=by
 obtain⟨oc,od,T,kV,doc,pm,an,cdv,ct,osl,o,n,rfl,lk,hcd,hT,ho⟩:=F.ex;intro s us X hl;rw [append_nil] at hl ⊢;obtain⟨k,h1,h2⟩:=h T kV doc pm an cdv ct us hl;exact .of_defaults Z (X _ _ hT) ho h1 h2
theorem Wt {x qual:Str} {st:Stmt} {f T:Addr} {oc:Value} {od an:Option Addr} {osl:Array (Option Value)} {kV doc pm cdv ct:Value} {o:Obj} {n:Nat} (l:K.lookup f=some ⟨oc,od,.func (PySem.W.fnOf x qual (jo st) (gA st) (aR st) (.ref T) kV doc pm an cdv ct),osl⟩)
  (c:PySem.W.codeIn K cdv qual=true) (k:PySem.W.keepIn K (.ref f)=true) (d:K.lookup T=some o) (e:o.data=.seq its n):M8 K x qual st f (PySem.W.fnOf x qual (jo st) (gA st) (aR st) (.ref T) kV doc pm an cdv ct) its:=⟨⟨oc,od,T,kV,doc,pm,an,cdv,ct,osl,o,n,rfl,l,c,d,e⟩,k⟩
end
section
variable {X:Cx} {e:Expr} {es:List Expr} {te:TE} {t:TA} {pos:Pos} {st:Stmt} {rest:List Stmt} {ts us:TS}
end
inductive OD (C:Addr) (m:Str) (sp:Sp) (R:St->XK) (t:TA) (σ:St) (Q:VK) (x:V) (H1:Hp):Prop where
 | mk:∀a dx fs,x=.ref a->H1 a=some (.ins C dx fs)->fs.lookup m=none->(t σ H1 λvs H2=>sp (x:: vs) H2 Q (R σ))->OD C m sp R t σ Q x H1
noncomputable def XJ (C:Addr) (m:Str) (sp:Sp) (R:St->XK) (ta:TE) (t:TA):TE:=λσ H Q=>ta σ H λx H1=>OD C m sp R t σ Q x H1
theorem rK {X:Cx} {CX:CZ} {k:Nat} {f C:Addr} {fd:FuncData} {ps:List Str} {sp:Sp} {R:St->XK} {m:Str} {pos apos:Pos} {e o:Expr} {es:List Expr} {ta:TE} {t:TA} {pl:Sem Bool}
  (he:PE X o ta) (c:Pg X.K C) (hm:Meth X.K C m f) (F:dR X.prog X.w X.K X.mg X.base CX k f fd ps sp) (hr:gZ k X.A) (hb:Binds X.K fd ps [])
  (hx:∀pins σ H s e s',Inv X pins σ H s->CX X.stack H s (R σ) e s'->X.xe e s') (ha:PA X (e:: es) t)
  (hst:starEach (e:: es) X.env=(false,eval e X.env):: starEach es X.env:=by rfl) (hpl:(backTo pos (starEach es X.env)).any (·.1)=false:=by rfl)
  (ht:eval (.Call (.Attribute o m apos) (e:: es) [] pos) X.env=(do
   let ov <-eval o X.env
   standAt apos.atName
   let (f,first) <-holding [ov] (getMethod ov m pl)
   callWith pos f first (backTo pos (starEach (e:: es) X.env)) (backToKw pos (keywordEach [] X.env))):=by rfl):
  PE X (.Call (.Attribute o m apos) (e:: es) [] pos) (XJ C m sp R ta t):=by
 intro pins s σ H Q I h;refine PySem.W.methodCall_KW (pl:=pl) (dz (he pins s σ H _ I h) λu s1 hpt=>?_) ht;obtain⟨x,H1,I1,rx,a,dx,fs,ex,ea,l,q⟩:=hpt;subst ex;obtain rfl:u=Value.ref a:=rx;refine pU I1 ea c hm l ?_;refine PySem.W.callWith_K (first:=[.ref a]) (h₀:=X.base) I.ok.mod.kin hm.kp (dz (ha pos pins s1 σ H1 _ I1 q) λus s2 ⟨vs,H2,I2,r,q2⟩=>⟨I2.kIn,?_⟩) hst hpl;have r2:Vals (.ref a:: vs) (.ref a:: us):=.cons rfl r;have hl:(Value.ref a:: us).length=ps.length:=by rw [<-r2.length];exact F.len _ _ _ _ q2
 have hb':=hb s2 (.ref a:: us) I2.kIn (by simpa using hl);rw [append_nil] at hb';refine wpAny_call (codeAny_mono (F.run X.A X.stack s2 H2 ⟨.ref a:: us,[]⟩ (.ref a:: us) (.ref a:: vs) Q (R σ) hr I2.env0 hb' r2 q2) λr s' hq=>?_);cases r with
 | error e=>exact hx pins σ H2 s2 e s' I2 hq
 | ok fl=>
  cases fl with
  | ret u=>exact I2.after hq
  | next=>exact False.elim hq
  | brk=>exact False.elim hq
  | cont=>exact False.elim hq
section
variable {X:Cx}
end
section
variable {X:Cx}
end
section
variable {prog:Program} {w:World} {A:Around} {E:Value->Shared->Prop}
end
section
variable {X:Cx} {tg:Expr}
end
section
variable {X:Cx} {e:Expr}
end
section
variable {X:Cx}
end
section
variable {M:Model} {A:Around} {E:Value->Shared->Prop} {nm q:Str} {C N:Addr} {bs bm:List Value} {hdct:Bool} {sn:List Str} {sub:List Value} {ab:Bool} {col:Option Bool} {dd:Option Addr} {k0 k1 k2 k3 k5:Option Value} {newId:String}
end
end L2
namespace L2
open PySem PyProof
theorem sy {es:List Expr} {env:Env} {a b c}:starEach (.Dict a b c:: es) env=(false,eval (.Dict a b c) env):: starEach es env:=rfl
section
variable {X:Cx} {x:Str} {px pos:Pos} {iter elt:Expr} {ifs:List Expr} {scope:Scope} {wi:TI} {tt:TT} {te:TE}
theorem BP (js:List Nat) {pins:List (Addr×Obj)} {σ:St} {s:Shared} {itv:Value} {Q:List V->Hp->Prop} {RR:Value->Addr->Result->Shared->Prop} {E:Value->Shared->Prop}
  (hc:X.calm=true) (hk:scope.kind=.function) (hx:scope.names.lookup x=some .local) (hcell:∀y∈scope.names,y.2≠.cell)
  (hfree:∀y∈scope.names,y.2=.free->X.env.kindOf y.1=some .cell∨X.env.kindOf y.1=some .free)
  (hN:(x:: dw X.N js).Nodup) (hjs:∀y∈dw X.N js,scope.names.lookup y=some .free)
  (hif:∀cl C s H ex,PF (Ak X scope x js cl C s H ex) ifs tt) (he:∀cl C s H ex,PE (Ak X scope x js cl C s H ex) elt te)
  (hit:PIE X pins σ (.Name x px) (CompEnd js tt te σ Q) itv s)
  (hR:∀D C s' H2 ys m,Inv X pins σ (upd H2 D (.lst ys)) s'->H2 D=none->s'.heap.Ns C m->(∀h',Heap.SameBut C s'.heap h'->Inv X pins σ (upd H2 D (.lst ys)) { s' with heap:=h' })->Jd X pins (upd H2 D (.lst ys)) C->C≠D->Q ys H2->RR (.ref D) C (.ok .next) s'):
  wpAny (model X.prog X.w) X.A (newList []) (λacc s₃=>wpAny (model X.prog X.w) X.A (newFunctionEnv scope X.env.globals (clos X.env scope.names []) [] X.env.qual none .none (some X.env)) (λcenv s₄=>
   codeAny (model X.prog X.w) X.A (.compStart (.ListComp elt [⟨.Name x px,iter,ifs,0⟩] scope pos) 0 itv acc { cenv with scope:=relabel scope X.env }) (RR acc cenv.locals) s₄) E s₃) E s:=
 wA (tg:=.Name x px) (g:=za 0) [x] js hc hk hcell hfree (λcl C s H ex=>wG (i:=0) hN rfl (.inl (lookup_relabel_local hx)) (.inr (lookup_relabel_local hx))) hif he hjs
  (by obtain⟨it,fp,tn,J,H',e,I,T,t0,hf,W,h0,hW⟩:=hit;exact⟨it,fp,tn,J,H',e,I,T,t0,hf,W,h0,λi m ys H2 w=>(hW i m ys H2 w).imp_right λ⟨a,b,N,c,d⟩=>⟨a,b,N,c,λy H3 z=>⟨Z,d y H3 z⟩⟩⟩) hR
theorem eE (js:List Nat) (N0:List Str) (sc0:Scope) (hc:X.calm=true) (hi:PI X (.Name x px) iter wi)
  (hif:∀cl C s H ex,PF (Ak X scope x js cl C s H ex) ifs tt) (he:∀cl C s H ex,PE (Ak X scope x js cl C s H ex) elt te)
  (hk:scope.kind=.function:=by rfl) (hx:scope.names.lookup x=some .local:=by rfl) (hcell:∀y∈scope.names,y.2≠.cell:=by decide +kernel)
  (hnames:∀y∈scope.names,y.2=.local->scope.names.lookup y.1=some .local:=by decide +kernel)
  (hsc:X.env.scope=sc0:=by rfl) (hfree0:∀y∈scope.names,y.2=.free->sc0.names.lookup y.1=some .cell∨sc0.names.lookup y.1=some .free:=by decide +kernel)
  (hNN:X.N=N0:=by rfl) (hN0:(x:: dw N0 js).Nodup:=by decide +kernel) (hj0:∀y∈dw N0 js,scope.names.lookup y=some .free:=by decide +kernel)
  (hs:∀x,foldedSetIterable iter X.env x=pure x:=by intro _;rfl):
  PE X (.ListComp elt [⟨.Name x px,iter,ifs,0⟩] scope pos) (WY js wi tt te):=by
 intro pins s σ H Q I h;have hN:(x:: dw X.N js).Nodup:=by rw [hNN];exact hN0
 have hfree:∀y∈scope.names,y.2=.free->X.env.kindOf y.1=some .cell∨X.env.kindOf y.1=some .free:=λy hy e=>by show X.env.scope.names.lookup y.1=some .cell∨X.env.scope.names.lookup y.1=some .free;rw [hsc];exact hfree0 y hy e
 have hjs:∀y∈dw X.N js,scope.names.lookup y=some .free:=by rw [hNN];exact hj0
 rw [eval_ListComp];have hcl:closureFor scope X.env=pure (clos X.env scope.names []):=lW λy hy e=>I.ok.has y.1 (hfree y hy e);refine wpAny_comprehension_free (use:=none) Z hs hcl hk hnames (dz (hi pins s σ H _ I h) λxv s1 h1=>dz h1 λit s2 h2=>?_);refine BP js (RR:=λacc C=>compPost (model X.prog X.w) X.A X.xe none (EP X pins σ Q) acc C) (Q:=λys H2=>∀D,H2 D=none->Q (.ref D) (upd H2 D (.lst ys))) hc hk hx hcell hfree hN hjs hif he h2 ?_;intro D C s' H2 ys m I' hD hn all fpC hCD hq;exact⟨m,hn,λh' sb=>⟨.ref D,_,all h' sb,Z,hq D hD⟩⟩
theorem jc {i:Nat} {y:Str} {py spos:Pos} (js:List Nat) (N0:List Str) (sc0:Scope) (hc:X.calm=true) (hNX:X.N.Nodup) (hiy:X.N[i]?=some y) (hi:PI X (.Name x px) iter wi)
  (hif:∀cl C s H ex,PF (Ak X scope x js cl C s H ex) ifs tt) (he:∀cl C s H ex,PE (Ak X scope x js cl C s H ex) elt te)
  (hsw:swapsWith (.ListComp elt [⟨.Name x px,iter,ifs,0⟩] scope pos) (some (.Name y py)) spos.line X.env=pure true:=by rfl) (hy:X.env.scope.names.lookup y=some .local:=by rfl)
  (hk:scope.kind=.function:=by rfl) (hx:scope.names.lookup x=some .local:=by rfl) (hcell:∀y∈scope.names,y.2≠.cell:=by decide +kernel)
  (hnames:∀y∈scope.names,y.2=.local->scope.names.lookup y.1=some .local:=by decide +kernel)
  (hsc:X.env.scope=sc0:=by rfl) (hfree0:∀y∈scope.names,y.2=.free->sc0.names.lookup y.1=some .cell∨sc0.names.lookup y.1=some .free:=by decide +kernel)
  (hNN:X.N=N0:=by rfl) (hN0:(x:: dw N0 js).Nodup:=by decide +kernel) (hj0:∀y∈dw N0 js,scope.names.lookup y=some .free:=by decide +kernel)
  (hs:∀x,foldedSetIterable iter X.env x=pure x:=by intro _;rfl):
  PS X (.Assign [.Name y py] (.ListComp elt [⟨.Name x px,iter,ifs,0⟩] scope pos) spos) (Ue (WY js wi tt te) (za i)):=by
 intro pins s σ H D I h;have hN:(x:: dw X.N js).Nodup:=by rw [hNN];exact hN0
 have hfree:∀y∈scope.names,y.2=.free->X.env.kindOf y.1=some .cell∨X.env.kindOf y.1=some .free:=λy hy e=>by show X.env.scope.names.lookup y.1=some .cell∨X.env.scope.names.lookup y.1=some .free;rw [hsc];exact hfree0 y hy e
 have hjs:∀y∈dw X.N js,scope.names.lookup y=some .free:=by rw [hNN];exact hj0
 rw [exec_Assign_Name_used _ _ _ _ hsw];refine wpAny_bind (wpAny_standAt (wpAny_bind ?_));show wpAny _ X.A (do let _ <-comprehension (.ListComp elt [⟨.Name x px,iter,ifs,0⟩] scope pos) scope X.env _ (newList []) false (eval iter X.env) (some (assign (.Name y py) X.env))) _ _ s;have hcl:closureFor scope X.env=pure (clos X.env scope.names []):=lW λy hy e=>I.ok.has y.1 (hfree y hy e);refine wpAny_bind (wpAny_mono (wpAny_comprehension_free (use:=some (assign (.Name y py) X.env)) (Q:=λ_ s'=>SP X pins D .next s') Z hs hcl hk hnames
  (dz (hi pins s σ H _ I h) λxv s1 h1=>dz h1 λit s2 h2=>?_)) (λ_ s' hq=>wpAny_pure (wpAny_pure hq)) λ_ _ e=>e)
 refine BP js (RR:=λacc C=>compPost (model X.prog X.w) X.A X.xe (some (assign (.Name y py) X.env)) (λ_ s'=>SP X pins D .next s') acc C) (Q:=λys H2=>∀D',H2 D'=none->D.nx (σ.set i (some (.ref D'))) (upd H2 D' (.lst ys))) hc hk hx hcell hfree hN hjs hif he h2 ?_;intro D' C s' H2 ys m I' hD hn all fpC hCD hq;show wpAny _ X.A (assign (.Name y py) X.env (.ref D')) _ _ _;refine wpAny_assign_Name (Ax I' hNX hiy (.inl hy) (v:=.ref D') Z (λs'' I'' ⟨a,sb,ha⟩=>?_) (.inr hy));obtain⟨f1,f2,f3,f4,f5,f6⟩:=fpC;have hCa:C≠a:=by
  rcases ha with z | z
  ·rw [z];exact f2
  ·exact λw=>f5 _ _ z w.symm
 exact⟨m,hn.sameBut sb hCa,λh' sb'=>⟨_,_,I''.turned (t':=s''.toks) (it:=C) (λb o hb e=>(sb'.2 b hb).trans e) f1 f2 f4 f5 f6,hq D' hD⟩⟩
end
end L2
namespace L2
open PySem PySem.Spec PyProof.Rows
noncomputable def fdOf (K:Fr) (f:Addr):FuncData:=match K.lookup f with
 | some ⟨_,_,.func d,_⟩=>d
 | _=>default
theorem Wr {K:Fr} {f:Addr} {oc:Value} {od:Option Addr} {fd:FuncData} {osl:Array (Option Value)} (l:K.lookup f=some ⟨oc,od,.func fd,osl⟩):fdOf K f=fd:=by unfold fdOf;rw [l]
structure dG (K:Fr) (nm qn:Str) (s:Stmt) (f:Addr) (ps:List Str):Prop where
 F:Vd K nm qn s f (fdOf K f)
 b:Binds K (fdOf K f) ps []
 i:PySem.W.isFn K (.ref f)=true
theorem dG.me {K:Fr} {nm qn m:Str} {s:Stmt} {f C:Addr} {ps:List Str} (x:dG K nm qn s f ps) (h:PySem.W.findIn K (.ref C) m=some (some (.ref f))):Meth K C m f:=⟨h,x.i,x.F.kp⟩
theorem dG.of {K:Fr} {nm qn:Str} {s:Stmt} {f:Addr} {ps:List Str} {oc:Value} {od an:Option Addr} {osl:Array (Option Value)} {kV doc pm cdv ct:Value}
  (l:K.lookup f=some ⟨oc,od,.func (PySem.W.fnOf nm qn (jo s) (gA s) (aR s) .none kV doc pm an cdv ct),osl⟩) (c:PySem.W.codeIn K cdv qn=true) (k:PySem.W.keepIn K (.ref f)=true) (i:PySem.W.isFn K (.ref f)=true)
  (h:∀(kV doc pm:Value) (an:Option Addr) (cdv ct:Value) (us:List Value),us.length=ps.length->bindArgs (PySem.W.fnOf nm qn (jo s) (gA s) (aR s) .none kV doc pm an cdv ct) ⟨us,[]⟩=pure (ps.zip us)):dG K nm qn s f ps:=by
 have e:fdOf K f=PySem.W.fnOf nm qn (jo s) (gA s) (aR s) .none kV doc pm an cdv ct:=by unfold fdOf;rw [l]
 have F:=Xw l c k;have b:=F.binds h;rw [<-e] at F b;exact⟨F,b,i⟩
structure Y5 (K:Fr) (nm qn:Str) (s:Stmt) (f:Addr) (ps:List Str):Prop where
 F:M8 K nm qn s f (fdOf K f) #[.none]
 b:Binds K (fdOf K f) ps []
 i:PySem.W.isFn K (.ref f)=true
theorem Y5.me {K:Fr} {nm qn m:Str} {s:Stmt} {f C:Addr} {ps:List Str} (x:Y5 K nm qn s f ps) (h:PySem.W.findIn K (.ref C) m=some (some (.ref f))):Meth K C m f:=⟨h,x.i,x.F.kp⟩
theorem Y5.of {K:Fr} {nm qn:Str} {s:Stmt} {f T:Addr} {ps:List Str} {oc oe:Value} {od an oh:Option Addr} {osl osm:Array (Option Value)} {kV doc pm cdv ct:Value} {n:Nat}
  (l:K.lookup f=some ⟨oc,od,.func (PySem.W.fnOf nm qn (jo s) (gA s) (aR s) (.ref T) kV doc pm an cdv ct),osl⟩) (d:K.lookup T=some ⟨oe,oh,.seq #[.none] n,osm⟩) (c:PySem.W.codeIn K cdv qn=true) (k:PySem.W.keepIn K (.ref f)=true) (i:PySem.W.isFn K (.ref f)=true)
  (h:∀fd:FuncData,M8 K nm qn s f fd #[.none]->Binds K fd ps []):Y5 K nm qn s f ps:=by
 have F:=Wt (its:=#[.none]) l c k d rfl;have b:=h _ F;rw [<-Wr l] at F b;exact⟨F,b,i⟩
structure qd (K:Fr) (mg:Str->Option Value) (nm:Str) (s:Stmt) (f:Addr) (ps:List Str):Prop where
 x:dG K nm nm s f ps
 m:mg nm=some (.ref f)
theorem qd.of {K:Fr} {mg:Str->Option Value} {nm:Str} {s:Stmt} {f:Addr} {ps:List Str} (m:mg nm=some (.ref f)) (x:dG K nm nm s f ps):qd K mg nm s f ps:=⟨x,m⟩
theorem gC {mg:Str->Option Value} {nm:Str} {u:Value} {v:V} (m:mg nm=some u) (r:RelV v u):∃u,mg nm=some u/\RelV v u:=⟨u,m,r⟩
theorem qd.F {K:Fr} {mg:Str->Option Value} {nm:Str} {s:Stmt} {f:Addr} {ps:List Str} (h:qd K mg nm s f ps):Vd K nm nm s f (fdOf K f):=h.x.F
theorem qd.b {K:Fr} {mg:Str->Option Value} {nm:Str} {s:Stmt} {f:Addr} {ps:List Str} (h:qd K mg nm s f ps):Binds K (fdOf K f) ps []:=h.x.b
noncomputable def MB (K:Fr) (C:Addr):List (Str×Addr)->Prop
 | []=>True
 | (m,f):: r=>PySem.W.findIn K (.ref C) m=some (some (.ref f))/\MB K C r
noncomputable def NB (K:Fr) (C:Addr):List Str->Prop
 | []=>True
 | f:: r=>PySem.W.findIn K (.ref C) f=some none/\NB K C r
structure Kg (K:Fr) (mg:Str->Option Value) (nm:Str) (C:Addr) (ms:List (Str×Addr)) (as:List Str):Prop where
 m:mg nm=some (.ref C)
 c:Pg K C
 mks:PySem.W.makesIn K C=true
 kp:PySem.W.keepIn K (.ref C)=true
 me:MB K C ms
 na:NB K C as
theorem Kg.M {K:Fr} {mg:Str->Option Value} {nm:Str} {C f:Addr} {ms:List (Str×Addr)} {as ps:List Str} {n q:Str} {s:Stmt} (h:Kg K mg nm C (("__init__",f):: ms) as) (x:dG K n q s f ps):Mk K C f:=⟨h.mks,h.me.1,x.i,h.kp⟩
theorem Ye {K:Fr} {nm qn:Str} {st:Stmt} {f:Addr} {x:Str} (F:Vd K nm qn st f (fdOf K f))
  (h:∀(kV doc pm:Value) (an:Option Addr) (cdv ct v:Value),bindArgs (PySem.W.fnOf nm qn (jo st) (gA st) (aR st) .none kV doc pm an cdv ct) ⟨[v],[]⟩=pure [(x,v)]) (s:Shared) (v:Value):BindsTo s (fdOf K f) ⟨[v],[]⟩ [(x,v)]:=by
 obtain⟨oc,od,kV,doc,pm,an,cdv,ct,osl,e,lk,hcd⟩:=F.ex;rw [e];exact .of_eq (h kV doc pm an cdv ct v)
theorem Wz {K:Fr} {h:Heap} {C f:Addr} (X:K.In h) (_:PySem.W.findIn K (.ref C) "__init__" =some (some (.ref f))) (b:SX K C f=true):ExcAt K C:=(rF.ofIn b).at X
theorem us_0 {α:Type} {P:List α->Prop} (h:P []):∀us:List α,us.length=0->P us
 | [],_=>h
theorem Cv {α:Type} {P:List α->Prop} (h:∀a,P [a]):∀us:List α,us.length=1->P us
 | [a],_=>h a
theorem yC {α:Type} {P:List α->Prop} (h:∀a b,P [a,b]):∀us:List α,us.length=2->P us
 | [a,b],_=>h a b
theorem GQ {α:Type} {P:List α->Prop} (h:∀a b c,P [a,b,c]):∀us:List α,us.length=3->P us
 | [a,b,c],_=>h a b c
theorem Uz {α:Type} {P:List α->Prop} (h:∀a b c d,P [a,b,c,d]):∀us:List α,us.length=4->P us
 | [a,b,c,d],_=>h a b c d
theorem Zu {α:Type} {P:List α->Prop} (h:∀a b c d e,P [a,b,c,d,e]):∀us:List α,us.length=5->P us
 | [a,b,c,d,e],_=>h a b c d e
theorem abb {α:Type} {P:List α->Prop} (h:∀a b c d e f,P [a,b,c,d,e,f]):∀us:List α,us.length=6->P us
 | [a,b,c,d,e,f],_=>h a b c d e f
theorem us_7 {α:Type} {P:List α->Prop} (h:∀a b c d e f g,P [a,b,c,d,e,f,g]):∀us:List α,us.length=7->P us
 | [a,b,c,d,e,f,g],_=>h a b c d e f g
theorem dG.sc {K:Fr} {nm qn:Str} {s:Stmt} {f:Addr} {ps:List Str} (_:dG K nm qn s f ps) (N:List Str) (h:fY N ps (aR s):=by exact⟨rfl,rfl,rfl,by decide +kernel,rfl,by decide +kernel,by decide +kernel⟩):fY N ps (aR s):=h
theorem qd.sc {K:Fr} {mg:Str->Option Value} {nm:Str} {s:Stmt} {f:Addr} {ps:List Str} (_:qd K mg nm s f ps) (N:List Str) (h:fY N ps (aR s):=by exact⟨rfl,rfl,rfl,by decide +kernel,rfl,by decide +kernel,by decide +kernel⟩):fY N ps (aR s):=h
noncomputable abbrev FO (P:Program) (w:World) (K:Fr) (mg:Str->Option Value) (base:Heap) (k:Nat) (f:Addr) (ps:List Str) (sp:Sp):Prop:=dR P w K mg base GP k f (fdOf K f) ps sp
theorem O6 {N ps:List Str} {sc:Scope} (h:fY N ps sc:=by exact⟨rfl,rfl,rfl,by decide +kernel,rfl,by decide +kernel,by decide +kernel⟩):fY N ps sc:=h
section
variable {X:Cx} {k k' i:Nat} {f C:Addr} {ps as:List Str} {ms:List (Str×Addr)} {sp:Sp} {x m nm qn n:Str} {p pos apos pos':Pos} {e o:Expr} {es:List Expr} {ta te:TE} {t:TA} {s:Stmt} {N:List Str}
theorem eN (F:dR X.prog X.w X.K X.mg X.base GP k f (fdOf X.K f) ps sp) (g:qd X.K X.mg x s f ps) (hr:gZ k' X.A) (ha:PA X (e:: es) t) (hk:k<=k':=by decide) (hg:Gl X x:=by rfl)
  (hdb:(x == ("__debug__" :Str))=false:=by decide) (he:starEach (e:: es) X.env=(false,eval e X.env):: starEach es X.env:=by rfl) (hpl:(backTo pos (starEach es X.env)).any (·.1)=false:=by rfl):
  PE X (.Call (.Name x p) (e:: es) [] pos) (Xj sp [] E0 t):=Pk F (hr.mono hk) hg g.m g.F.kp g.b .nil gj ha hdb he hpl
theorem Qp {pl:Sem Bool} (he:PE X o ta) (c:Kg X.K X.mg n C ms as) (hm:PySem.W.findIn X.K (.ref C) m=some (some (.ref f))) (F:dR X.prog X.w X.K X.mg X.base GP k f (fdOf X.K f) ps sp) (g:dG X.K nm qn s f ps) (hr:gZ k' X.A) (ha:PA X (e:: es) t)
  (hk:k<=k':=by decide) (hst:starEach (e:: es) X.env=(false,eval e X.env):: starEach es X.env:=by rfl) (hpl:(backTo pos (starEach es X.env)).any (·.1)=false:=by rfl)
  (ht:eval (.Call (.Attribute o m apos) (e:: es) [] pos) X.env=(do
   let ov <-eval o X.env
   standAt apos.atName
   let (f,first) <-holding [ov] (getMethod ov m pl)
   callWith pos f first (backTo pos (starEach (e:: es) X.env)) (backToKw pos (keywordEach [] X.env))):=by rfl):
  PE X (.Call (.Attribute o m apos) (e:: es) [] pos) (Oz C m sp [] E0 ta t):=d7 he c.c (g.me hm) F (hr.mono hk) g.b .nil gj ha hst hpl ht
theorem O7 {pl:Sem Bool} (he:PE X o ta) (c:Kg X.K X.mg n C ms as) (hm:PySem.W.findIn X.K (.ref C) m=some (some (.ref f))) (F:dR X.prog X.w X.K X.mg X.base GP k f (fdOf X.K f) ps sp) (g:dG X.K nm qn s f ps) (hr:gZ k' X.A)
  (hk:k<=k':=by decide) (ht:eval (.Call (.Attribute o m apos) [] [] pos) X.env=(do
   let ov <-eval o X.env
   standAt apos.atName
   let (f,first) <-holding [ov] (getMethod ov m pl)
   callWith pos f first (backTo pos (starEach [] X.env)) (backToKw pos (keywordEach [] X.env))):=by rfl):
  PE X (.Call (.Attribute o m apos) [] [] pos) (Oz C m sp [] E0 ta Rt):=Sq he c.c (g.me hm) F (hr.mono hk) g.b .nil gj ht
theorem gN {sc:Scope} (S:fY X.N ps sc) (i:Nat) (hi:X.N[i]?=some x:=by rfl) (hx:Loc X.env.scope x:=by first | exact Or.inl rfl | exact Or.inr rfl) (hf:X.fn x=true∨X.env.scope.names.lookup x=some .local:=by first | exact .inl rfl | exact .inr rfl | assumption):PG X (.Name x pos) (za i):=wG S.nd hi hx hf
theorem sN {sc:Scope} (S:fY X.N ps sc) (i:Nat) (he:PE X e te) (hi:X.N[i]?=some x:=by rfl) (hx:Loc X.env.scope x:=by first | exact Or.inl rfl | exact Or.inr rfl) (hs:swapsWith e (some (.Name x pos')) pos.line X.env=pure false:=by rfl) (hf:X.fn x=true∨X.env.scope.names.lookup x=some .local:=by first | exact .inl rfl | exact .inr rfl | assumption):
  PS X (.Assign [.Name x pos'] e pos) (Ue te (za i)):=Yd S.nd hi hx he hs hf
theorem NT (h1:PE X o ta) (h2:PA X (e:: es) t) (hbase:attributeBase o "append" X.env (eval o X.env)=eval o X.env:=by rfl)
  (hfew:((backTo pos (starEach (e:: es) X.env)).all (λx=>!x.1) && (backToKw pos (keywordEach [] X.env)).all (λx=>x.1.isSome) && decide ((e:: es).length+([]:List Keyword).length+(if ([]:List Keyword).isEmpty then 0 else 1) <30))=true:=by rfl)
  (hline:(apos.endLine == pos.line)=true:=by rfl) (hs:starEach (e:: es) X.env=(false,eval e X.env):: starEach es X.env:=by rfl) (hplain:(backTo pos (starEach es X.env)).any (·.1)=false:=by rfl):
  PE X (.Call (.Attribute o "append" apos) (e:: es) [] pos) (tBM X.K "list" Qc ta t):=Em PySem.F.plainAttrs_list PySem.F.slot_list_append PySem.F.type_list_append QV h1 h2 hbase hfew hline hs hplain
end
theorem ln {sp:Sp} {ps:List Str} (h:∀vs H Q E,sp vs H Q E->vs.length=ps.length:=by
 intro _ _ _ _ h;first
 | (cases h;subst_vars;rfl)
 | (cases h;rename_i h;cases h;subst_vars;rfl)
 | (obtain⟨_,rfl,_⟩:=h;rfl)
 | (obtain⟨_,_,rfl,_⟩:=h;rfl)
 | (obtain⟨_,_,_,rfl,_⟩:=h;rfl)):∀vs H Q E,sp vs H Q E->vs.length=ps.length:=h
theorem Ra {X:Cx} {K:Fr} (hK:X.K=K):lg X (.builtin "len") (λxs H Q=>∃x n,xs=[x]/\Yx K x H n/\Q (V.int (n:Nat)) H):=by subst hK;exact bY
end L2
namespace PySem
open PyProof.Rows
section
variable {prog:Program} {w:World} {A:Around} {R:Result->Shared->Prop} {I:Addr} {fp wr:List Addr} {G:Array GenState->Array GenState->Prop} {n:Nat} {P:Nat->Value->Prop} {St:Nat->Shared->Prop} {KK:Type} [DecidableEq KK] {knd:KeyKind prog w KK}
end
section
variable {prog:Program} {w:World} {A:Around} {E:Value->Shared->Prop} {s:Shared} {KK:Type} [DecidableEq KK] {knd:KeyKind prog w KK}
end
end PySem
namespace L2
open PySem PySem.Spec PyProof.Rows
section
variable {prog:Program} {w:World} {A:Around}
end
theorem M8.ok2 {P:Program} {w:World} {K:Fr} {mg:Str->Option Value} {base:Heap} {its:Array Value} {x qual:Str} {st:Stmt} {f:Addr} {fd:FuncData} {N ps:List Str} {k:Nat} {sp:Sp} (F:M8 K x qual st f fd its) (S:fY N ps (aR st)) (len:∀vs H Q E,sp vs H Q E->vs.length=ps.length)
  (go:∀(cdv:Value) (A:Around) (outer:List Env) (s:Shared) (H:Hp) (vs:List V) (Q:VK) (E:XK),gZ k (A.deeper (envOfC qual (aR st) s.heap.objs.size f cdv))->sp vs H Q E->
   ∃t,LR (oK (sX P w) P w K mg base N qual (aR st) f cdv A outer s H E) (gA st) t/\t { nx:=λ_ H'=>Q .non H',rt:=Q } (start N vs) H):dR P w K mg base (sX P w) (k+1) f fd ps sp:=by
 obtain⟨oc,od,T,kV,doc,pm,an,cdv,ct,osl,o,n,rfl,lk,hcd,_⟩:=F.ex;exact Rm lk hcd S len λA outer s H vs Q E hr hsp=>go cdv A outer s H vs Q E hr hsp
section
open AutoSeq1 (wpAny_loadPart')
open MeetsSeq MeetsSeq2 MeetsSeq3
variable {prog:Program} {w:World}
theorem Uq (l b:Addr) (items items2:Array Value) (n n2:Nat) (dd dd2:Option Addr) (sl sl2:Array (Option Value)) (hsz:items.size=items2.size) (k:Nat):
  ∀i:Nat,items.size - i=k->MeetsIn prog w (Builtin.«list.__eq__.loop» ⟨[.ref l,.ref b,rawInt i,rawInt 3],[]⟩)
   (λA R s=>s.heap.get? l=some { cls:=.type "list",dict:=dd,data:=.seq items n,slots:=sl }/\s.heap.get? b=some { cls:=.type "list",dict:=dd2,data:=.seq items2 n2,slots:=sl2 }/\
    (∀j (h1:j <items.size) (h2:j <items2.size),WR prog w A.in1 s items[j] items2[j])/\R (.ok (.ret (.bool false))) s):=by
 induction k with
 | zero=>
  intro i hk A R s h;obtain⟨hp,g,d,tk,os⟩:=s;obtain⟨hl,hb,he,h⟩:=h
  wp_walk using wpAny_loadPart' hl,wpAny_loadPart' hb
  have hi1:items[((i:Nat):Int).toNat]?=none:=by simp;lia
  have hi2:items2[((i:Nat):Int).toNat]?=none:=by simp;lia
  rw [hi1,hi2]
  wp_walk using wpAny_loadPart' hl,wpAny_loadPart' hb
  show R (.ok (.ret (.bool (items.size != items2.size)))) _;rw [hsz];simpa using h
 | succ k ih=>
  intro i hk A R s h;obtain⟨hp,g,d,tk,os⟩:=s;obtain⟨hl,hb,he,h⟩:=h
  wp_walk using wpAny_loadPart' hl,wpAny_loadPart' hb
  have hlt:i <items.size:=by lia
  have hlt2:i <items2.size:=by lia
  have hi1:items[((i:Nat):Int).toNat]?=some items[i]:=by simp [hlt]
  have hi2:items2[((i:Nat):Int).toNat]?=some items2[i]:=by simp [hlt2]
  have hc:((i:Int)+1)=((i+1:Nat):Int):=by push_cast;rfl
  rw [hi1,hi2];refine wpAny_bind (he i hlt hlt2 _ _ ?_)
  wp_walk
  rw [hc];exact⟨plainId_quiet plain_eq_loop _,codeAny_builtin entry_eq_loop (by rw [Around.under_plainId plain_eq_loop _];exact ih (i+1) (by lia) A R _ ⟨hl,hb,he,h⟩)⟩
theorem Sg (l b:Addr) (items items2:Array Value) (n n2:Nat) (dd dd2:Option Addr) (sl sl2:Array (Option Value)) (hsz:items.size=items2.size):
  MeetsIn prog w (Builtin.«list.__ne__» ⟨[.ref l,.ref b],[]⟩)
   (λA R s=>s.heap.get? l=some { cls:=.type "list",dict:=dd,data:=.seq items n,slots:=sl }/\s.heap.get? b=some { cls:=.type "list",dict:=dd2,data:=.seq items2 n2,slots:=sl2 }/\
    (∀j (h1:j <items.size) (h2:j <items2.size),WR prog w A.in1 s items[j] items2[j])/\R (.ok (.ret (.bool false))) s):=by
 intro A R s h;obtain⟨hp,g,d,tk,os⟩:=s;obtain⟨hl,hb,he,h⟩:=h;have f3:=AutoSeq1.sub_list_list;have hne:¬(items.size != items2.size)=true:=by simp [hsz]
 wp_walk using wpAny_loadPart' hl,wpAny_loadPart' hb
 exact⟨plainId_quiet plain_eq_loop _,codeAny_builtin entry_eq_loop (by rw [Around.under_plainId plain_eq_loop _];exact Uq l b items items2 n n2 dd dd2 sl sl2 hsz _ 0 Z A R _ ⟨hl,hb,he,h⟩)⟩
theorem Wq {A:Around} {E:Value->Shared->Prop} {s:Shared} {l b:Addr} {xs ys:Array Value} {Q:Value->Shared->Prop} (hl:s.heap.IsList l xs) (hb:s.heap.IsList b ys) (hz:xs.size=ys.size) (hu:A.units <cLine) (he:∀j (h1:j <xs.size) (h2:j <ys.size),WR prog w A.in1 s xs[j] ys[j])
  (hq:Q (.bool false) s):wpAny (model prog w) A (compareOp .NotEq (.ref l) (.ref b)) Q E s:=by
 obtain⟨⟨cls,dd,data,sl⟩,ho,hc,n,hd⟩:=id hl;obtain⟨⟨cls2,dd2,data2,sl2⟩,ho2,hc2,n2,hd2⟩:=id hb;simp only at hc hd hc2 hd2;subst hc hd hc2 hd2;have t1:s.TypeIs (.ref l) "list" :=⟨_,ho,rfl⟩;have t2:s.TypeIs (.ref b) "list" :=⟨_,ho2,rfl⟩;refine wpAny_richCompare_same_room (op:=.NotEq) t1 t2 PySem.F.slot_list_ne (call_meetsIn PySem.F.slot_list_ne t1 PySem.F.entry_list_ne (PySem.F.args_list_ne_2 _ _) (Sg l b xs ys n n2 dd dd2 sl sl2 hz) ⟨ho,ho2,he,?_⟩) hu;exact⟨(λx=>nomatch x),hq⟩
end
inductive Gj (K:Fr) (H:Hp):V->V->Prop
 | data {x y:V} {d:PyData}:Dt K H x d->Dt K H y d->SeqAt.shaped d=true->PyData.eqv d d=true->Gj K H x y
 | dict {p q:Addr} {ka kb:List (Key×V)}:p≠q->Rd H p (.dK ka)->Rd H q (.dK kb)->ka.length=kb.length->(∀(i:Nat) (k:Key) (v:V),ka[i]?=some (k,v)->∃w d,kb[i]?=some (k,w)/\Dt K H v d/\Dt K H w d/\SeqAt.shaped d=true/\PyData.eqv d d=true)->Gj K H (.ref p) (.ref q)
theorem QD {X:Cx} {pins:List (Addr×Obj)} {σ:St} {H:Hp} {s:Shared} (I:Inv X pins σ H s) (hu:X.A.in1.units+65 <cLine) {ka0 kb0:List (Key×V)} {va vb:List (Key×Value)} (ra:KV ka0 va) (rb:KV kb0 vb) (nd:(vb.map (·.1)).Nodup) (hn:∀(i:Nat) (k:Key) (v:V),ka0[i]?=some (k,v)->∃w d,kb0[i]?=some (k,w)/\Dt X.K H v d/\Dt X.K H w d/\SeqAt.shaped d=true/\PyData.eqv d d=true):
  ∀(n:Nat) {ka:List (Key×Value)},ka=va.drop n->PySem.W.KeqHits X.A.in1.in1 s vb ka true:=by
 intro n ka e;induction ka generalizing n with
 | nil=>exact .nil
 | cons kv r ih=>
  obtain⟨k,v⟩:=kv;have hv:va[n]?=some (k,v):=by have:=congrArg (·[0]?) e;simpa using this.symm
  obtain⟨v0,e0,r0⟩:=PQ ra hv;obtain⟨w,d,ew,hd,hw,sh,ev⟩:=hn _ _ _ e0;obtain⟨v',e',r'⟩:=Ph rb ew;obtain⟨as,q1⟩:=hd.reads I r0;obtain⟨bs,q2⟩:=hw.reads I r';have hd:r=va.drop (n+1):=by have hlt:n <va.length:=(List.getElem?_eq_some_iff.mp hv).1;rw [List.drop_eq_getElem_cons hlt] at e;exact(List.cons.inj e).2
  have q:=PySem.W.keq_at (A:=X.A.in1) q1 q2 sh sh (by show X.A.in1.units+1+64 <cLine;lia);rw [ev] at q;exact PySem.W.KeqHits.hit (e:=true) (b:=true) (xn nd e') q (ih _ hd)
theorem QF {X:Cx} {pins:List (Addr×Obj)} {σ:St} {H:Hp} {s:Shared} (I:Inv X pins σ H s) (hu:X.A.in1.units+65 <cLine) {x y:V} (h:Gj X.K H x y) {u v:Value} (ru:RelV x u) (rv:RelV y v):WR X.prog X.w X.A.in1 s u v:=by
 cases h with
 | data h1 h2 h3 h4=>
  obtain⟨as,q1⟩:=h1.reads I ru;obtain⟨bs,q2⟩:=h2.reads I rv;have:=PySem.W.keq_at (A:=X.A) q1 q2 h3 h3 (by lia);rw [h4] at this;exact .of_at this
 | dict ne h1 h2 hl hn=>
  cases ru;cases rv;obtain⟨_,a1,va,r1,d1⟩:=ye I.hok h1;obtain⟨_,a2,vb,r2,d2⟩:=ye I.hok h2;refine .of_cmp ne λE Q q=>?_;obtain⟨_,_,_,_,_,_,_,_,nd⟩:=id d2;refine PySem.W.keq_eq a1 a2 d1 d2 (by lia) (λ_=>QD I hu r1 r2 nd hn 0 (by simp)) ?_;have e:va.length=vb.length:=(Paired.length r1).symm.trans (hl.trans (Paired.length r2));rw [e,beq_self_eq_true,Bool.true_and];exact q
inductive my (K:Fr) (H:Hp):List V->List V->Prop
 | nil:my K H [] []
 | cons {x y:V} {xs ys:List V}:Gj K H x y->my K H xs ys->my K H (x:: xs) (y:: ys)
theorem my.len {K:Fr} {H:Hp}:∀{xs ys:List V},my K H xs ys->xs.length=ys.length
 | _,_,.nil=>rfl
 | _,_,.cons _ t=>by simp [t.len]
theorem my.get {K:Fr} {H:Hp}:∀{xs ys:List V} {j:Nat} {x y:V},my K H xs ys->xs[j]?=some x->ys[j]?=some y->Gj K H x y
 | _,_,0,_,_,.cons h _,e1,e2=>by cases (Option.some.inj e1);cases (Option.some.inj e2);exact h
 | _,_,j+1,_,_,.cons _ t,e1,e2=>my.get (j:=j) t (by simpa using e1) (by simpa using e2)
noncomputable def aa1 (K:Fr):R2:=λx y H Q=>∃p q xs ys,x=.ref p/\y=.ref q/\bK K H p xs/\bK K H q ys/\my K H xs ys/\Q (.bl false) H
theorem YS {X:Cx} (hu:X.A.units+100 <cLine):wK X (compareOp .NotEq) (aa1 X.K):=by
 intro pins s σ H x y v u Q I rx ry h;obtain⟨p,q,xs,ys,rfl,rfl,h1,h2,al,k⟩:=h;cases rx;cases ry;obtain⟨i1,r1,t1,_⟩:=I.list h1;obtain⟨i2,r2,t2,_⟩:=I.list h2;have l1:=r1.length;have l2:=r2.length;refine Wq (xs:=i1.toArray) (ys:=i2.toArray) t1.isList t2.isList (by simp;have:=al.len;lia) (by lia) (λj h1 h2=>?_) (cP I k Z);have g1:j <xs.length:=by have:j <i1.length:=(by simpa using h1);lia
 have g2:j <ys.length:=by have:j <i2.length:=(by simpa using h2);lia
 obtain⟨u1,e1,s1⟩:=r1.get (getElem?_eq_getElem g1);obtain⟨u2,e2,s2⟩:=r2.get (getElem?_eq_getElem g2);have f1:i1.toArray[j]=u1:=by
  have:i1.toArray[j]?=some u1:=by simpa using e1
  rw [Array.getElem?_eq_getElem h1] at this;exact Option.some.inj this
 have f2:i2.toArray[j]=u2:=by
  have:i2.toArray[j]?=some u2:=by simpa using e2
  rw [Array.getElem?_eq_getElem h2] at this;exact Option.some.inj this
 rw [f1,f2];exact QF I (by show X.A.units+1+65 <cLine;lia) (al.get (getElem?_eq_getElem g1) (getElem?_eq_getElem g2)) s1 s2
noncomputable def Yz (C:Addr) (sp:Sp) (R:St->XK) (t:TA):TE:=λσ H Q=>t σ H λvs H1=>∀x dx,H1 x=none->H1 dx=none->dx≠x->
 sp (.ref x:: vs) (upd (upd H1 dx (.own x)) x (.ins C dx [])) (λv H2=>v=.non/\Q (.ref x) H2) (R σ)
theorem Us {X:Cx} {CX:CZ} {k:Nat} {f C:Addr} {fd:FuncData} {ps:List Str} {sp:Sp} {R:St->XK} {x:Str} {p pos:Pos} {e:Expr} {es:List Expr} {t:TA}
  (M:Mk X.K C f) (F:dR X.prog X.w X.K X.mg X.base CX k f fd ps sp) (hr:gZ (k+1) X.A) (hg:Gl X x) (hm:X.mg x=some (.ref C)) (hb:Binds X.K fd ps [])
  (hx:∀pins σ H s e s',Inv X pins σ H s->CX X.stack H s (R σ) e s'->X.xe e s')
  (ha:PA X (e:: es) t) (hdb:(x == ("__debug__" :Str))=false:=by decide) (he:starEach (e:: es) X.env=(false,eval e X.env):: starEach es X.env:=by rfl) (hpl:(backTo pos (starEach es X.env)).any (·.1)=false:=by rfl):
  PE X (.Call (.Name x p) (e:: es) [] pos) (Yz C sp R t):=by
 intro pins s σ H Q I h;refine wpAny_Call_Name_kw (wH I hg hm ?_ hdb);refine PySem.W.callWith_K (h₀:=X.base) I.ok.mod.kin M.kp (dz (ha pos pins s σ H _ I h) λus s1 ⟨vs,H1,I1,r,q⟩=>⟨I1.kIn,?_⟩) he hpl;have hq:=q (s1.heap.objs.size+1) s1.heap.objs.size (I1.hok.fresh (le_succ _)) (I1.hok.fresh (le_refl _)) (ne_of_lt (lt_succ_self _));have I2:=Inv.made (C:=C) I1;have r2:Vals (V.ref (s1.heap.objs.size+1):: vs) (Value.ref (s1.heap.objs.size+1):: us):=.cons rfl r;have hl:(Value.ref (s1.heap.objs.size+1):: us ++ []).length=ps.length:=by have e:=r2.length;rw [F.len _ _ _ _ hq] at e;rw [append_nil];exact e.symm
 have hb':=hb _ (Value.ref (s1.heap.objs.size+1):: us) I2.kIn hl;rw [append_nil] at hb';refine wpAny_call (Kr (f:=f) I1.kIn M.makes M.init (beq_iff_eq.mp M.fn) (codeAny_mono (F.run _ X.stack _ _ ⟨Value.ref (s1.heap.objs.size+1):: us,[]⟩ (Value.ref (s1.heap.objs.size+1):: us) _ _ (R σ) (hr.make C us [])
  (I2.env0.make C us []) hb' r2 hq) λr s' hq'=>?_))
 cases r with
 | error e=>exact hx pins σ _ _ e s' I2 hq'
 | ok fl=>
  cases fl with
  | ret u=>
   obtain⟨v,H',I3,rv,ev,q3⟩:=I2.after hq';subst ev;exact⟨rv,⟨V.ref (s1.heap.objs.size+1),H',I3,Z,q3⟩⟩
  | next=>exact False.elim hq'
  | brk=>exact False.elim hq'
  | cont=>exact False.elim hq'
end L2
namespace One
open PySem PySem.W PySem.Calls PyProof.Rows
def Hv:Nat->BT->List Obj->BT
 | _,t,[]=>t
 | n,t,o:: r=>Hv (n+1) (t.ins n o) r
def J7:Nat->BT->List Obj->Bool
 | _,_,[]=>true
 | n,t,o:: r=>((t.ins n o).get n).isSome && J7 (n+1) (t.ins n o) r
theorem Ht {life:Life}:∀(l:List Obj) (n:Nat) (t:BT) (as:List Obj),absHeap t n life=⟨as.toArray,life⟩->J7 n t l=true->absHeap (Hv n t l) (n+l.length) life=⟨(as ++ l).toArray,life⟩
 | [],n,t,as,h,_=>by simpa [Hv] using h
 | o:: r,n,t,as,h,k=>by simp only [J7,and_eq_true] at k;have e:=absHeap_ins (life:=life) k.1;rw [h] at e;have:=Ht r (n+1) (t.ins n o) (as ++ [o]) (by rw [e];simp [Heap.push]) k.2;rw [append_assoc] at this;rw [length_cons,show n+(r.length+1)=n+1+r.length by omega];exact this
def Zz (tb:String->Option Builtin) (p:Program) (w:World) (m:Nat) (an:Option Value):Nat->SharedT->Thread->Option (SharedT×Thread)
 | 0,s,t=>some (s,t)
 | n+1,s,t=>match through t with
  | true=>some (s,t)
  | false=>match stepOk m an t with
   | false=>none
   | true=>match stepT (denote tb) p w s t with
    | some (s',t')=>Zz tb p w m an n s' t'
    | none=>none
theorem Te {tb:String->Option Builtin} {p:Program} {w:World} {m:Nat} {an:Option Value}:∀{n:Nat} {s s':SharedT} {t t':Thread},Zz tb p w m an n s t=some (s',t')->through t'=true->topRun tb p w m an (n+1) s.abs t=some s'.abs
 | 0,s,s',t,t',h,z=>by obtain⟨rfl,rfl⟩:=Prod.mk.inj (Option.some.inj h);unfold topRun;rw [z]
 | n+1,s,s',t,t',h,z=>by
  unfold Zz at h;unfold topRun;cases e1:through t with
  | true=>
   rw [e1] at h;obtain⟨rfl,rfl⟩:=Prod.mk.inj (Option.some.inj h);rfl
  | false=>
   rw [e1] at h;cases e2:stepOk m an t with
   | false=>rw [e2] at h;cases h
   | true=>
    rw [e2] at h;cases e3:stepT (denote tb) p w s t with
    | none=>rw [e3] at h;cases h
    | some r=>
     obtain⟨s2,t2⟩:=r;rw [e3] at h;rw [stepT_spec e3];exact Te h z
def ends (r:SharedT×Thread):Option SharedT:=match through r.2 with
 | true=>some r.1
 | false=>none
theorem VM {tb:String->Option Builtin} {p:Program} {w:World} {m:Nat} {an:Option Value} {n:Nat} {s s':SharedT} {t:Thread} (h:(Zz tb p w m an n s t).bind ends=some s'):topRun tb p w m an (n+1) s.abs t=some s'.abs:=by
 obtain⟨⟨s2,t2⟩,e1,e2⟩:=Option.bind_eq_some_iff.mp h;unfold ends at e2;cases z:through t2 with
 | false=>simp only [z] at e2;cases e2
 | true=>
  simp only [z] at e2;cases e2;exact Te e1 z
noncomputable def ZL (P:Params):Option Value:=(boot_heap P).nsMap mainGlobals "__annotations__"
noncomputable def S0 (w:World) (os:OsState):SharedT:=⟨Hv 0 .nil (boot_heap w.params).objs.toList,11,{},Array.mk [],boot_drawn,boot_toks,os⟩
theorem XS (w:World) (os:OsState):(S0 w os).abs=⟨boot_heap w.params,Array.mk [],boot_drawn,boot_toks,os⟩:=by have e:=Ht (life:={}) (boot_heap w.params).objs.toList 0 .nil [] rfl (by rfl);have e2:absHeap (Hv 0 .nil (boot_heap w.params).objs.toList) 11 {}=boot_heap w.params:=e;show(⟨absHeap (Hv 0 .nil (boot_heap w.params).objs.toList) 11 {},_,_,_,_⟩:Shared)=_;rw [e2];rfl
noncomputable def XC (p:Program) (M:Nat) (w:World) (os:OsState):Option SharedT:=(Zz treeTable p w 11 (ZL w.params) M (S0 w os) (topStub p)).bind ends
noncomputable def Uh (p q:Program) (loose:List Str) (Xt:Shared->Bool) (M:Nat) (w:World) (os:OsState):=
 (XC p M w os).map λs=>(staticsOk (importedModules p.main.body) (boot_heap w.params) s.abs.heap && namesBound p s.abs.heap && gensDone s.abs && laidKept (boot_heap w.params) s.abs.heap,openSeen q loose (importedModules p.main.body) Xt true s.abs)
theorem V0 {p q:Program} {loose:List Str} {Xt:Shared->Bool} {α:Type} {Yf:Shared->α} {Ya:World->α} {N M:Nat} (e:opening p=plainProg p.main.scope.names) (hN:Nat.ble 600 N=true) (f:∀s,fenceModules? p s=some s) (le:Nat.ble (M+1) N=true)
  (A:∀w os,Uh p q loose Xt M w os=some (true,openGood q loose)) (B:∀w os,(XC p M w os).map (λs=>Yf s.abs)=some (Ya w)):LeftO p q loose Xt Yf Ya N:=λw=>by
 obtain⟨⟨h,gs,d,k,os⟩,e1,e2⟩:=map_eq_some_iff.mp (boot_open e hN f w);obtain⟨rfl,rfl,rfl,rfl⟩:h=boot_heap w.params/\gs=Array.mk []/\d=boot_drawn/\k=boot_toks:=by simpa using e2
 obtain⟨s1,r1,l1⟩:=map_eq_some_iff.mp (A w os);obtain⟨s2,r2,l2⟩:=map_eq_some_iff.mp (B w os);rw [r1] at r2;cases r2;obtain⟨l3,l4⟩:=Prod.mk.inj l1;have r3:=VM r1;rw [XS] at r3;have r4:=topRun_mono (N - (M+1)) _ _ _ _ r3;rw [show M+1+(N - (M+1))=N by have:=Nat.le_of_ble_eq_true le;omega] at r4;have t:topFrom treeTable p w N ⟨boot_heap w.params,Array.mk [],boot_drawn,boot_toks,os⟩=some s1.abs:=by
  unfold topFrom;have z1:((boot_heap w.params).isNs mainGlobals && (Array.mk []:Array GenState).size == 0)=true:=by kernel_rfl
  dsimp only;rw [z1];show((topRun treeTable p w 11 (ZL w.params) N _ _).bind _)=_;rw [r4];show(match staticsOk (importedModules p.main.body) (boot_heap w.params) s1.abs.heap && namesBound p s1.abs.heap && gensDone s1.abs && laidKept (boot_heap w.params) s1.abs.heap with | true=>_ | false=>_)=_;rw [l3]
 unfold openEnds;rw [e1];show(topFrom treeTable p w N _).map _=_;rw [t];exact congrArg some (Prod.ext l4 l2)
def zf (s:SharedT) (a:Addr):Option Obj:=match Nat.blt a s.n with
 | true=>(match s.tree.get a with | some o=>alive o | none=>none)
 | false=>none
theorem Tq {s:SharedT} {a:Addr} {o:Obj} (h:zf s a=some o):s.abs.heap.get? a=some o:=by
 unfold zf at h;cases e:Nat.blt a s.n with
 | false=>rw [e] at h;cases h
 | true=>
  rw [e] at h;cases g:s.tree.get a with
  | none=>rw [g] at h;cases h
  | some x=>
   rw [g] at h;exact(abs_get (Nat.le_of_ble_eq_true e) g).trans h
theorem Oo {s:SharedT}:∀{as:List Addr} {l:List (Addr×Obj)},as.map (zf s)=l.map (λp=>some p.2)->as.map s.abs.heap.get?=l.map λp=>some p.2
 | [],[],_=>rfl
 | [],_:: _,h=>by cases h
 | _:: _,[],h=>by cases h
 | a:: as,x:: l,h=>by have h1:=List.cons.inj h;show s.abs.heap.get? a:: as.map _=_;rw [Tq h1.1,Oo h1.2];rfl
theorem chunk {o:Option SharedT} {as:List Addr} {l:List (Addr×Obj)} (n:Nat) (h1:o.map (λs=>(as.take n).map (zf s))=some ((l.take n).map λp=>some p.2)) (h2:o.map (λs=>(as.drop n).map (zf s))=some ((l.drop n).map λp=>some p.2)):
  o.map (λs=>as.map (zf s))=some (l.map λp=>some p.2):=by
 obtain⟨s,e1,e2⟩:=map_eq_some_iff.mp h1;subst e1;have e3:=Option.some.inj h2;show some (as.map (zf s))=_;rw [<-take_append_drop n as,<-take_append_drop n l,map_append,map_append];exact congrArg some (congr (congrArg _ e2) e3)
theorem Wa {o:Option SharedT} {w:World} {K:Params->Frag} {as:List Addr} {e:∀P,as=(K P).map (·.1)} (h:o.map (λs=>as.map (zf s))=some ((K w.params).map λp=>some p.2)):
  o.map (λs=>Hook.obs (kHook K as e) s.abs)=some (Hook.val (kHook K as e) w):=by
 obtain⟨s,h1,h2⟩:=map_eq_some_iff.mp h;rw [h1];exact congrArg some (Oo h2)
end One
namespace HD
open PySem PySem.W PySem.Calls PyProof.Rows
abbrev rr:OpenRow:=OpenLaw.row PySem.Challenge.rw_holdlane_k42_names_refused
def q:Program:=view PySem.Challenge.pw_holdlane_k42_names_refused [80]
def loose:List PySem.Str:=(["_wall", "LaneError", "TooMany", "NoKind", "BadName", "Doubled", "NoSuch", "BadNumbers", "BadLanes", "BadRoom", "Open", "Loose", "BadRow", "Flow", "VALUES", "FIGURES"]:List PySem.Str) ++ (["LETTERS", "LONGEST_NAME", "is_whole", "is_value", "is_name", "rest", "COUNTS", "Part", "Give", "Take", "Pass", "Copy", "Turn", "Heap", "Add", "Less"]:List PySem.Str) ++ (["Order", "Choose", "Split", "is_kind", "need_fit", "made_of", "part_made", "MOST_LANES", "MOST_PARTS", "MOST_ROOM", "need_counts", "need_fresh", "need_lane", "fresh_part", "tie_lanes", "need_ends"]:List PySem.Str) ++ (["joined_with", "need_joined", "Net", "LONGEST_ROW", "is_row", "need_rows", "Run", "_law_cell", "_law_mix", "_law_value", "_law_word", "_law_lane", "_law_part", "_law_pick", "_law_two", "_law_loop"]:List PySem.Str) ++ (["_law_step", "_law_closed", "_law_net", "_law_refused", "_law_row_refused", "_law_rows_good", "_law_all_told", "_law_asked"]:List PySem.Str)
def Xt (s:Shared):Bool:=xlAt q [] s && recOk (RowW.records (OpenRow.toRowW (OpenLaw.row PySem.Challenge.rw_holdlane_k42_names_refused))) s
structure KA where
 K:Params->Frag
 as:List Addr
def pickK {r:OpenRow} {K:Params->Frag} {as:List Addr} (_:(∀H:Hook,(∃e,H=kHook K as e)->r.Holds)->r.Holds):KA:=⟨K,as⟩
local macro_rules | `(tactic| o_head $H)=>`(tactic| (rename_i hh;exact hh $H ⟨_,rfl⟩))
noncomputable def ka:KA:=pickK (r:=rr) (λ_=>by k_head)
theorem VF (P:Params):KA.as ka=(ka.heap_1 P).map (·.1):=by kernel_rfl
noncomputable def runC:World->OsState->Option SharedT:=λw os=>One.XC PySem.Challenge.pw_holdlane_k42_names_refused 14060 w os
noncomputable def JK:=fun(w:World) (os:OsState)=>One.Uh PySem.Challenge.pw_holdlane_k42_names_refused q loose Xt 14060 w os
noncomputable def Pq:=some (true,openGood q loose)
theorem Yq:runC=runC:=rfl
name_quick runQ for HD.runC by HD.Yq
theorem Sv:JK=JK:=rfl
name_quick looksQ for HD.JK by HD.Sv
theorem Wm:Pq=Pq:=rfl
name_quick goodQ for HD.Pq by HD.Wm
theorem A0 (w:World) (os:OsState):PySem.W.Fast.looksQ (w.withFollow "special-get-raises" false) os=PySem.W.Fast.goodQ:=by kernel_rfl
theorem abh (w:World) (os:OsState):(PySem.W.Fast.runQ (w.withFollow "special-get-raises" false) os).map (λs=>(KA.as ka).map (One.zf s))=some ((ka.heap_1 (w.withFollow "special-get-raises" false).params).map λp=>some p.2):=by kernel_rfl
theorem B0 (w:World) (os:OsState):(PySem.W.Fast.runQ (w.withFollow "special-get-raises" false) os).map (λs=>(KA.as ka).map (One.zf s))=some ((ka.heap_1 (w.withFollow "special-get-raises" false).params).map λp=>some p.2):=abh w os
theorem A1 (w:World) (os:OsState):PySem.W.Fast.looksQ (w.withFollow "special-get-raises" true) os=PySem.W.Fast.goodQ:=by kernel_rfl
theorem aa5 (w:World) (os:OsState):(PySem.W.Fast.runQ (w.withFollow "special-get-raises" true) os).map (λs=>(KA.as ka).map (One.zf s))=some ((ka.heap_1 (w.withFollow "special-get-raises" true).params).map λp=>some p.2):=by kernel_rfl
theorem B1 (w:World) (os:OsState):(PySem.W.Fast.runQ (w.withFollow "special-get-raises" true) os).map (λs=>(KA.as ka).map (One.zf s))=some ((ka.heap_1 (w.withFollow "special-get-raises" true).params).map λp=>some p.2):=aa5 w os
theorem A (w:World):∀os,JK w os=Pq:=by rw [PySem.W.Fast.looksQ_eq,PySem.W.Fast.goodQ_eq];exact byRow2 "special-get-raises" (P:=λw=>∀os,PySem.W.Fast.looksQ w os=PySem.W.Fast.goodQ) A0 A1 w
theorem B (w:World):∀os,(runC w os).map (λs=>(KA.as ka).map (One.zf s))=some ((ka.heap_1 w.params).map λp=>some p.2):=by rw [PySem.W.Fast.runQ_eq];exact byRow2 "special-get-raises" (P:=λw=>∀os,(PySem.W.Fast.runQ w os).map (λs=>(KA.as ka).map (One.zf s))=some ((ka.heap_1 w.params).map λp=>some p.2)) B0 B1 w
theorem head {d:DefRec} {kwd:List (PySem.Str×Expr)}
  (hdef:defOf q rr.name=some (d,kwd)) (hp:rr.prog.theDef rr.name=some (d.params,d.body,d.scope)) (hk:kwWritten? d.params.kwonlyargs d.params.kw_defaults=some kwd) (hwr:(!rr.writes || rr.records.isEmpty)=true)
  (k1:rr.wellSaid=true) (ok:(chainsOk q && opensWell rr.prog && (frees rr.toRowW && rr.within.isEmpty))=true) (hb:rr.prog.bare) (ho:opening PySem.Challenge.pw_holdlane_k42_names_refused=plainProg (PySem.Challenge.pw_holdlane_k42_names_refused).main.scope.names) (f:∀s,fenceModules? PySem.Challenge.pw_holdlane_k42_names_refused s=some s)
  (hw:rr.toRowW.promised) (hc:WalkO q loose (XL q []) (Hook.says (kHook ka.heap_1 (KA.as ka) VF)) rr.toRowW d kwd λf vs=>PySem.call f vs):rr.Holds:=by
 have left:LeftO PySem.Challenge.pw_holdlane_k42_names_refused q loose Xt (Hook.obs (kHook ka.heap_1 (KA.as ka) VF)) (Hook.val (kHook ka.heap_1 (KA.as ka) VF)) 28700:=One.V0 (M:=14060) ho rfl f rfl A λw os=>One.Wa (B w os);exact holds_open (XP:=XL q []) (YP:=Hook.says (kHook ka.heap_1 (KA.as ka) VF)) left (Hook.of _) (Hook.keeps _) (λs z=>xl_of s (Bool.and_eq_true_iff.mp z).1) XL.keeps hdef hp hk (λs z=>recFacts_of (Bool.and_eq_true_iff.mp z).2) hwr k1 ok hb hw hc
end HD
namespace K42
open PySem L2
theorem lM {α β:Type} {f:α->β} {l:List α}:(l.map f).length=l.length:=length_map ..
theorem lP {α:Type} {l m:List α}:(l ++ m).length=l.length+m.length:=length_append ..
noncomputable def top (i:Nat):Stmt:=PySem.Challenge.pw_holdlane_k42_names_refused.main.body.getD i (.Pass ⟨0,0,0,0⟩)
set_option genInjectivity false in
structure jr where
 (iH iJ Gk Fp bV vC vQ vM uK vo uM yq vB tX rD ul Ig En Hf Cu RM cJ nY cQ dh tR rm rE qX rn uc rC pC nZ pY qZ qW Fo Br zK By Ca Cj Bw Eb Bu Bt xU FQ Hg xJ zF Ck yH BL Ce xQ xH lu lB jy uL vL fQ mj kh lL pM tE oA uQ lD tO jX qu Av mY m5 jE jY qN j0 yt jt uv KD wj j6 pL wI qM mZ mX uR pQ rZ uC yZ WP MJ Ms NP Nk Mu Mz Tf N7 JN Fl J9 dH cg mK yU vf bG fU:Addr)
noncomputable abbrev ROWS:List (Str×List Int):=[("give",[0,0,1]),("take",[0,1,0]),("pass",[0,1,1]),("copy",[0,1,2]),("turn",[2,1,1]),("heap",[1,1,1]),("add",[0,2,1]),("less",[0,2,1]),("order",[0,2,2]),("choose",[0,3,1]),("split",[0,2,2])]
structure Txt (w:World) (K:Fr) (mg:Str->Option Value) (t:jr):Prop where
 jh:Kg K mg "Give" t.MJ [("__init__",t.bV),("kind",t.vC),("taking",t.cJ),("lacks",t.cQ),("worked",t.qZ),("start",t.dh)] ["name", "numbers", "ins", "outs"]
 iY:Kg K mg "Take" t.Ms [("__init__",t.bV),("kind",t.vQ),("taking",t.cJ),("lacks",t.cQ),("worked",t.qW),("start",t.dh)] ["name", "numbers", "ins", "outs"]
 iR:Kg K mg "Pass" t.NP [("__init__",t.bV),("kind",t.vM),("taking",t.cJ),("lacks",t.cQ),("worked",t.rm),("start",t.dh)] ["name", "numbers", "ins", "outs"]
 je:Kg K mg "Copy" t.Nk [("__init__",t.bV),("kind",t.uK),("taking",t.cJ),("lacks",t.cQ),("worked",t.rE),("start",t.dh)] ["name", "numbers", "ins", "outs"]
 jg:Kg K mg "Turn" t.Mu [("__init__",t.bV),("kind",t.vo),("taking",t.cJ),("lacks",t.cQ),("worked",t.qX),("start",t.dh)] ["name", "numbers", "ins", "outs"]
 iZ:Kg K mg "Heap" t.Mz [("__init__",t.bV),("kind",t.uM),("taking",t.cJ),("lacks",t.cQ),("worked",t.rn),("start",t.tR)] ["name", "numbers", "ins", "outs"]
 mJ:Kg K mg "Add" t.Tf [("__init__",t.bV),("kind",t.yq),("taking",t.cJ),("lacks",t.cQ),("worked",t.uc),("start",t.dh)] ["name", "numbers", "ins", "outs"]
 jf:Kg K mg "Less" t.N7 [("__init__",t.bV),("kind",t.vB),("taking",t.cJ),("lacks",t.cQ),("worked",t.rC),("start",t.dh)] ["name", "numbers", "ins", "outs"]
 fZ:Kg K mg "Order" t.JN [("__init__",t.bV),("kind",t.tX),("taking",t.cJ),("lacks",t.cQ),("worked",t.pC),("start",t.dh)] ["name", "numbers", "ins", "outs"]
 d9:Kg K mg "Choose" t.Fl [("__init__",t.bV),("kind",t.rD),("taking",t.nY),("lacks",t.cQ),("worked",t.nZ),("start",t.dh)] ["name", "numbers", "ins", "outs"]
 fW:Kg K mg "Split" t.J9 [("__init__",t.bV),("kind",t.ul),("taking",t.cJ),("lacks",t.cQ),("worked",t.pY),("start",t.dh)] ["name", "numbers", "ins", "outs"]
 aX:Kg K mg "Net" t.dH [("__init__",t.pM),("lane_names",t.lu),("part_names",t.lB),("names_of_kind",t.jy),("gives",t.uL),("takes",t.vL),("need_lane_name",t.fQ),("room_of",t.mj),("first_of",t.kh),("part_of",t.lL)] ["rooms", "firsts", "parts", "givers", "takers"]
 aO:Kg K mg "Flow" t.cg [("__init__",t.mY),("holds",t.tE),("held_now",t.oA),("head",t.uQ),("row_ended",t.lD),("heads",t.tO),("lacking",t.jX),("deed",t.qu),("do",t.Av),("gone_by",t.pL),("row_left",t.mZ)] ["net", "ever", "gone", "kept", "done", "rows"]
 bx:Kg K mg "Run" t.mK [("__init__",t.j6),("full_lane",t.m5),("next_deed",t.jE),("need_doors",t.jt),("step",t.uv),("can_work",t.jY),("works",t.qN),("lane_now",t.j0),("turn",t.yt),("had",t.wI),("taken",t.qM),("rows_left",t.mX)] ["net", "flow", "turns"]
 ur:mg "LaneError" =some (.ref t.vf)
 lH:mg "NoSuch" =some (.ref t.bG)
 Il:mg "BadRow" =some (.ref t.fU)
 Y4:PySem.W.findIn K (.ref t.bG) "__init__" =some (some (.ref t.iH))
 Y6:PySem.W.findIn K (.ref t.fU) "__init__" =some (some (.ref t.iJ))
 z8:Xu K t.vf
 wY:PySem.W.kitOne K (.ref t.bG) (.ref t.vf)=some true
 vA:PySem.W.kitOne K (.ref t.bG) (.type "ValueError")=some true
 Ba:PySem.W.subIn K (.ref t.fU) (.ref t.bG)=some false
 su:MkX K t.bG t.iH
 sW:Nf K t.bG
 Ac:ig K t.bG "name"
 Hw:ExcAt K t.bG
 Ln:MkX K t.fU t.iJ
 Hc:Nf K t.fU
 Hs:ig K t.fU "name"
 Qz:ExcAt K t.fU
 dF:dG K "__init__" "NoSuch.__init__" (inClass (top 7) 0) t.iH ["self", "name"]
 km:dG K "__init__" "BadRow.__init__" (inClass (top 13) 0) t.iJ ["self", "name"]
 uq:qd K mg "is_whole" (top 21) t.Gk ["thing"]
 pW:qd K mg "is_value" (top 22) t.Fp ["thing"]
 aY:dG K "__init__" "Part.__init__" (inClass (top 27) 0) t.bV ["self", "name", "numbers", "ins", "outs"]
 qK:dG K "kind" "Give.kind" (inClass (top 28) 0) t.vC ["self"]
 qi:dG K "kind" "Take.kind" (inClass (top 29) 0) t.vQ ["self"]
 qt:dG K "kind" "Pass.kind" (inClass (top 30) 0) t.vM ["self"]
 qH:dG K "kind" "Copy.kind" (inClass (top 31) 0) t.uK ["self"]
 qg:dG K "kind" "Turn.kind" (inClass (top 32) 0) t.vo ["self"]
 qQ:dG K "kind" "Heap.kind" (inClass (top 33) 0) t.uM ["self"]
 uf:dG K "kind" "Add.kind" (inClass (top 34) 0) t.yq ["self"]
 qx:dG K "kind" "Less.kind" (inClass (top 35) 0) t.vB ["self"]
 oN:dG K "kind" "Order.kind" (inClass (top 36) 0) t.tX ["self"]
 lJ:dG K "kind" "Choose.kind" (inClass (top 37) 0) t.rD ["self"]
 oW:dG K "kind" "Split.kind" (inClass (top 38) 0) t.ul ["self"]
 wN:qd K mg "is_kind" (top 39) t.Ig ["word"]
 yz:qd K mg "need_fit" (top 40) t.En ["kind", "name", "numbers", "ins", "outs"]
 Im:qd K mg "made_of" (top 41) t.Hf ["kind", "name", "numbers", "ins", "outs"]
 Cq:qd K mg "part_made" (top 42) t.Cu ["kind", "name", "numbers", "ins", "outs"]
 DR:qd K mg "rest" (top 24) t.RM ["number"]
 bC:dG K "taking" "Part.taking" (inClass (top 27) 4) t.cJ ["self", "heads"]
 jH:dG K "taking" "Choose.taking" (inClass (top 37) 1) t.nY ["self", "heads"]
 bD:dG K "lacks" "Part.lacks" (inClass (top 27) 3) t.cQ ["self", "heads"]
 bI:dG K "start" "Part.start" (inClass (top 27) 2) t.dh ["self"]
 oR:dG K "start" "Heap.start" (inClass (top 33) 1) t.tR ["self"]
 lR:dG K "worked" "Pass.worked" (inClass (top 30) 1) t.rm ["self", "values", "kept"]
 lQ:dG K "worked" "Copy.worked" (inClass (top 31) 1) t.rE ["self", "values", "kept"]
 mq:dG K "worked" "Turn.worked" (inClass (top 32) 1) t.qX ["self", "values", "kept"]
 lK:dG K "worked" "Heap.worked" (inClass (top 33) 2) t.rn ["self", "values", "kept"]
 oJ:dG K "worked" "Add.worked" (inClass (top 34) 1) t.uc ["self", "values", "kept"]
 lO:dG K "worked" "Less.worked" (inClass (top 35) 1) t.rC ["self", "values", "kept"]
 jW:dG K "worked" "Order.worked" (inClass (top 36) 1) t.pC ["self", "values", "kept"]
 jK:dG K "worked" "Choose.worked" (inClass (top 37) 2) t.nZ ["self", "values", "kept"]
 jZ:dG K "worked" "Split.worked" (inClass (top 38) 1) t.pY ["self", "values", "kept"]
 lZ:dG K "worked" "Give.worked" (inClass (top 28) 1) t.qZ ["self", "values", "kept"]
 lU:dG K "worked" "Take.worked" (inClass (top 29) 1) t.qW ["self", "values", "kept"]
 bj:qd K mg "_law_mix" (top 64) t.Fo ["_law_cell_here", "_law_k"]
 mO:qd K mg "_law_cell" (top 63) t.Br ["_law_script", "_law_k"]
 ji:qd K mg "_law_value" (top 65) t.zK ["_law_cell_here", "_law_k"]
 jQ:qd K mg "_law_word" (top 66) t.By ["_law_cell_here", "_law_k"]
 iU:qd K mg "_law_lane" (top 67) t.Ca ["_law_state", "_law_cell_here", "_law_back"]
 mC:qd K mg "_law_pick" (top 69) t.Cj ["_law_state", "_law_number"]
 cD:qd K mg "_law_part" (top 68) t.Bw ["_law_state", "_law_cell_here", "_law_kind", "_law_numbers", "_law_ins", "_law_many"]
 yo:qd K mg "_law_two" (top 70) t.Eb ["_law_state", "_law_cell_here", "_law_one", "_law_odd"]
 vZ:qd K mg "_law_loop" (top 71) t.Bu ["_law_state", "_law_cell_here", "_law_one"]
 vy:qd K mg "_law_step" (top 72) t.Bt ["_law_state", "_law_cell_here", "_law_odd"]
 qU:qd K mg "_law_closed" (top 73) t.xU ["_law_state", "_law_cell_here", "_law_back"]
 yj:qd K mg "_law_net" (top 74) t.FQ ["_law_script", "_law_start", "_law_steps", "_law_odd"]
 Ag:qd K mg "is_name" (top 23) t.Hg ["thing"]
 rB:qd K mg "need_counts" (top 47) t.xJ ["lanes", "parts"]
 oX:qd K mg "need_fresh" (top 48) t.zF ["name", "known"]
 uV:qd K mg "need_lane" (top 49) t.Ck ["name", "room", "first"]
 tK:qd K mg "fresh_part" (top 50) t.yH ["row", "known"]
 qJ:qd K mg "tie_lanes" (top 51) t.BL ["part", "lanes", "rooms", "ends"]
 wu:qd K mg "need_ends" (top 52) t.Ce ["rooms", "givers", "takers"]
 qY:qd K mg "joined_with" (top 53) t.xQ ["part", "givers", "takers"]
 qT:qd K mg "need_joined" (top 54) t.xH ["names", "givers", "takers"]
 ju:dG K "lane_names" "Net.lane_names" (inClass (top 55) 1) t.lu ["self"]
 gQ:dG K "part_names" "Net.part_names" (inClass (top 55) 2) t.lB ["self"]
 gB:dG K "names_of_kind" "Net.names_of_kind" (inClass (top 55) 5) t.jy ["self", "kind"]
 jT:dG K "gives" "Net.gives" (inClass (top 55) 3) t.uL ["self"]
 qR:dG K "takes" "Net.takes" (inClass (top 55) 4) t.vL ["self"]
 bR:dG K "need_lane_name" "Net.need_lane_name" (inClass (top 55) 12) t.fQ ["self", "name"]
 lY:dG K "room_of" "Net.room_of" (inClass (top 55) 7) t.mj ["self", "name"]
 j5:dG K "first_of" "Net.first_of" (inClass (top 55) 8) t.kh ["self", "name"]
 cH:dG K "part_of" "Net.part_of" (inClass (top 55) 11) t.lL ["self", "name"]
 kj:dG K "__init__" "Net.__init__" (inClass (top 55) 0) t.pM ["self", "lanes", "parts"]
 oU:dG K "holds" "Flow.holds" (inClass (top 15) 1) t.tE ["self", "lane"]
 m8:dG K "held_now" "Flow.held_now" (inClass (top 15) 2) t.oA ["self", "lane"]
 wy:dG K "head" "Flow.head" (inClass (top 15) 5) t.uQ ["self", "lane"]
 lF:dG K "row_ended" "Flow.row_ended" (inClass (top 15) 8) t.lD ["self", "name"]
 oY:dG K "heads" "Flow.heads" (inClass (top 15) 6) t.tO ["self", "part"]
 kO:dG K "lacking" "Flow.lacking" (inClass (top 15) 7) t.jX ["self", "name"]
 qj:dG K "deed" "Flow.deed" (inClass (top 15) 9) t.qu ["self", "name"]
 Be:dG K "do" "Flow.do" (inClass (top 15) 10) t.Av ["self", "name", "deed"]
 jJ:dG K "__init__" "Flow.__init__" (inClass (top 15) 0) t.mY ["self", "net", "rows"]
 mW:dG K "full_lane" "Run.full_lane" (inClass (top 61) 4) t.m5 ["self", "deed"]
 fP:dG K "next_deed" "Run.next_deed" (inClass (top 61) 3) t.jE ["self", "name"]
 kY:dG K "can_work" "Run.can_work" (inClass (top 61) 5) t.jY ["self", "name"]
 jP:dG K "works" "Run.works" (inClass (top 61) 6) t.qN ["self", "name"]
 gW:dG K "lane_now" "Run.lane_now" (inClass (top 61) 8) t.j0 ["self", "name"]
 uo:dG K "turn" "Run.turn" (inClass (top 61) 10) t.yt ["self"]
 jn:dG K "need_doors" "Run.need_doors" (inClass (top 61) 2) t.jt ["self", "names"]
 pG:Y5 K "step" "Run.step" (inClass (top 61) 1) t.uv ["self", "held"]
 Dz:qd K mg "is_row" (top 58) t.KD ["thing"]
 mD:qd K mg "need_rows" (top 59) t.wj ["net", "rows"]
 gK:dG K "__init__" "Run.__init__" (inClass (top 61) 0) t.j6 ["self", "net", "rows"]
 pK:dG K "gone_by" "Flow.gone_by" (inClass (top 15) 3) t.pL ["self", "lane"]
 pq:dG K "had" "Run.had" (inClass (top 61) 9) t.wI ["self", "name"]
 qD:dG K "taken" "Run.taken" (inClass (top 61) 7) t.qM ["self", "name"]
 nW:dG K "row_left" "Flow.row_left" (inClass (top 15) 4) t.mZ ["self", "door"]
 nj:dG K "rows_left" "Run.rows_left" (inClass (top 61) 13) t.mX ["self"]
 jV:qd K mg "_law_refused" (top 75) t.uR ["_law_way", "_law_run", "_law_name"]
 dY:qd K mg "_law_row_refused" (top 76) t.pQ ["_law_net_here", "_law_rows"]
 lE:qd K mg "_law_rows_good" (top 77) t.rZ ["_law_net_here", "_law_name", "_law_gives", "_law_cell_here"]
 jF:qd K mg "_law_all_told" (top 78) t.uC ["_law_run", "_law_lanes", "_law_parts"]
 ud:qd K mg "_law_asked" (top 79) t.yZ ["_law_run", "_law_name", "_law_lanes", "_law_parts"]
 Oi:qd K mg "law" (top 80) t.WP ["_law_script"]
 HS:mg "COUNTS" =some (.ref t.yU)
 Mh:KTab w K t.yU ROWS
 J1:mg "ValueError" =none
 O3:mg "all" =none
 XN:mg "bool" =none
 ZV:mg "int" =none
 jq:mg "isinstance" =none
 gh:mg "len" =none
 u9:mg "list" =none
 Ud:mg "max" =none
 aap:mg "min" =none
 oV:mg "range" =none
 W8:mg "str" =none
 CW:mg "tuple" =none
 K7:∃u,mg "VALUES" =some u/\RelV (.int 1000000000) u
 Hy:∃u,mg "LETTERS" =some u/\RelV (.str "abcdefghijklmnopqrstuvwxyz") u
 Gm:∃u,mg "LONGEST_NAME" =some u/\RelV (.int 8) u
 Ql:∃u,mg "FIGURES" =some u/\RelV (.str "0123456789") u
 JW:∃u,mg "MOST_LANES" =some u/\RelV (.int 24) u
 Jk:∃u,mg "MOST_PARTS" =some u/\RelV (.int 16) u
 Lw:∃u,mg "MOST_ROOM" =some u/\RelV (.int 199) u
 GX:∃u,mg "LONGEST_ROW" =some u/\RelV (.int 300) u
section
variable {P:Program} {w:World} {K:Fr} {mg:Str->Option Value} {base:Heap} {t:jr}
noncomputable def cL (i:Nat):Str:=match i with
 | 0=> "give"
 | 1=> "take"
 | 2=> "pass"
 | 3=> "copy"
 | 4=> "turn"
 | 5=> "heap"
 | 6=> "add"
 | 7=> "less"
 | 8=> "order"
 | 9=> "choose"
 | _=> "split"
noncomputable def cN (i:Nat):Nat:=match i with
 | 0=>0
 | 1=>0
 | 2=>0
 | 3=>0
 | 4=>2
 | 5=>1
 | 6=>0
 | 7=>0
 | 8=>0
 | 9=>0
 | _=>0
noncomputable def cI (i:Nat):Nat:=match i with
 | 0=>0
 | 1=>1
 | 2=>1
 | 3=>1
 | 4=>1
 | 5=>1
 | 6=>2
 | 7=>2
 | 8=>2
 | 9=>3
 | _=>2
noncomputable def cO (i:Nat):Nat:=match i with
 | 0=>1
 | 1=>0
 | 2=>1
 | 3=>2
 | 4=>1
 | 5=>1
 | 6=>1
 | 7=>1
 | 8=>2
 | 9=>1
 | _=>2
noncomputable def cls (t:jr) (i:Nat):Addr:=match i with
 | 0=>t.MJ
 | 1=>t.Ms
 | 2=>t.NP
 | 3=>t.Nk
 | 4=>t.Mu
 | 5=>t.Mz
 | 6=>t.Tf
 | 7=>t.N7
 | 8=>t.JN
 | 9=>t.Fl
 | _=>t.J9
theorem row_of (i:Nat):rowOf ROWS (cL i)=some [((cN i:Nat):Int),((cI i:Nat):Int),((cO i:Nat):Int)]:=match i with
 | 0=>by show rowOf ROWS "give" =some [0,0,1];decide +kernel
 | 1=>by show rowOf ROWS "take" =some [0,1,0];decide +kernel
 | 2=>by show rowOf ROWS "pass" =some [0,1,1];decide +kernel
 | 3=>by show rowOf ROWS "copy" =some [0,1,2];decide +kernel
 | 4=>by show rowOf ROWS "turn" =some [2,1,1];decide +kernel
 | 5=>by show rowOf ROWS "heap" =some [1,1,1];decide +kernel
 | 6=>by show rowOf ROWS "add" =some [0,2,1];decide +kernel
 | 7=>by show rowOf ROWS "less" =some [0,2,1];decide +kernel
 | 8=>by show rowOf ROWS "order" =some [0,2,2];decide +kernel
 | 9=>by show rowOf ROWS "choose" =some [0,3,1];decide +kernel
 | n+10=>by show rowOf ROWS "split" =some [0,2,2];decide +kernel
theorem iD (T:Txt w K mg t) (i:Nat):Pg K (cls t i):=match i with
 | 0=>T.jh.c
 | 1=>T.iY.c
 | 2=>T.iR.c
 | 3=>T.je.c
 | 4=>T.jg.c
 | 5=>T.iZ.c
 | 6=>T.mJ.c
 | 7=>T.jf.c
 | 8=>T.fZ.c
 | 9=>T.d9.c
 | n+10=>T.fW.c
theorem CV (T:Txt w K mg t) (i:Nat):ig K (cls t i) "name" :=match i with
 | 0=>T.jh.na.1
 | 1=>T.iY.na.1
 | 2=>T.iR.na.1
 | 3=>T.je.na.1
 | 4=>T.jg.na.1
 | 5=>T.iZ.na.1
 | 6=>T.mJ.na.1
 | 7=>T.jf.na.1
 | 8=>T.fZ.na.1
 | 9=>T.d9.na.1
 | n+10=>T.fW.na.1
theorem um (T:Txt w K mg t) (i:Nat):ig K (cls t i) "numbers" :=match i with
 | 0=>T.jh.na.2.1
 | 1=>T.iY.na.2.1
 | 2=>T.iR.na.2.1
 | 3=>T.je.na.2.1
 | 4=>T.jg.na.2.1
 | 5=>T.iZ.na.2.1
 | 6=>T.mJ.na.2.1
 | 7=>T.jf.na.2.1
 | 8=>T.fZ.na.2.1
 | 9=>T.d9.na.2.1
 | n+10=>T.fW.na.2.1
theorem yf (T:Txt w K mg t) (i:Nat):ig K (cls t i) "ins" :=match i with
 | 0=>T.jh.na.2.2.1
 | 1=>T.iY.na.2.2.1
 | 2=>T.iR.na.2.2.1
 | 3=>T.je.na.2.2.1
 | 4=>T.jg.na.2.2.1
 | 5=>T.iZ.na.2.2.1
 | 6=>T.mJ.na.2.2.1
 | 7=>T.jf.na.2.2.1
 | 8=>T.fZ.na.2.2.1
 | 9=>T.d9.na.2.2.1
 | n+10=>T.fW.na.2.2.1
theorem Jl (T:Txt w K mg t) (i:Nat):ig K (cls t i) "outs" :=match i with
 | 0=>T.jh.na.2.2.2.1
 | 1=>T.iY.na.2.2.2.1
 | 2=>T.iR.na.2.2.2.1
 | 3=>T.je.na.2.2.2.1
 | 4=>T.jg.na.2.2.2.1
 | 5=>T.iZ.na.2.2.2.1
 | 6=>T.mJ.na.2.2.2.1
 | 7=>T.jf.na.2.2.2.1
 | 8=>T.fZ.na.2.2.2.1
 | 9=>T.d9.na.2.2.2.1
 | n+10=>T.fW.na.2.2.2.1
theorem Za (i:Nat):cN i<=2:=match i with
 | 0=>by show 0<=2;decide
 | 1=>by show 0<=2;decide
 | 2=>by show 0<=2;decide
 | 3=>by show 0<=2;decide
 | 4=>by show 2<=2;decide
 | 5=>by show 1<=2;decide
 | 6=>by show 0<=2;decide
 | 7=>by show 0<=2;decide
 | 8=>by show 0<=2;decide
 | 9=>by show 0<=2;decide
 | n+10=>by show 0<=2;decide
theorem G9 (i:Nat):cI i<=3:=match i with
 | 0=>by show 0<=3;decide
 | 1=>by show 1<=3;decide
 | 2=>by show 1<=3;decide
 | 3=>by show 1<=3;decide
 | 4=>by show 1<=3;decide
 | 5=>by show 1<=3;decide
 | 6=>by show 2<=3;decide
 | 7=>by show 2<=3;decide
 | 8=>by show 2<=3;decide
 | 9=>by show 3<=3;decide
 | n+10=>by show 2<=3;decide
theorem Uc (i:Nat):cO i<=2:=match i with
 | 0=>by show 1<=2;decide
 | 1=>by show 0<=2;decide
 | 2=>by show 1<=2;decide
 | 3=>by show 2<=2;decide
 | 4=>by show 1<=2;decide
 | 5=>by show 1<=2;decide
 | 6=>by show 1<=2;decide
 | 7=>by show 1<=2;decide
 | 8=>by show 2<=2;decide
 | 9=>by show 1<=2;decide
 | n+10=>by show 2<=2;decide
theorem iB {f:Str} {y:V} {fs:List (Str×V)} {n:Nat} (h:fs.length<=n):(aH f y fs).length<=n+1:=le_trans (vW f y fs) (Nat.succ_le_succ h)
noncomputable def Ef (nm:V) (tn ti to:Addr):List (Str×V):=aH "outs" (.ref to) (aH "ins" (.ref ti) (aH "numbers" (.ref tn) (aH "name" nm [])))
theorem Aj (nm:V) (tn ti to:Addr):(Ef nm tn ti to).lookup ("name" :Str)=some nm:=by unfold Ef;rw [aD,if_neg (by decide +kernel),aD,if_neg (by decide +kernel),aD,if_neg (by decide +kernel),aD,if_pos rfl]
theorem sY (nm:V) (tn ti to:Addr):(Ef nm tn ti to).lookup ("numbers" :Str)=some (.ref tn):=by unfold Ef;rw [aD,if_neg (by decide +kernel),aD,if_neg (by decide +kernel),aD,if_pos rfl]
theorem rP (nm:V) (tn ti to:Addr):(Ef nm tn ti to).lookup ("ins" :Str)=some (.ref ti):=by unfold Ef;rw [aD,if_neg (by decide +kernel),aD,if_pos rfl]
theorem HN (nm:V) (tn ti to:Addr):(Ef nm tn ti to).lookup ("outs" :Str)=some (.ref to):=by unfold Ef;rw [aD,if_pos rfl]
theorem wO (nm:V) (tn ti to:Addr) {m:Str} (h1:¬m= "outs") (h2:¬m= "ins") (h3:¬m= "numbers") (h4:¬m= "name"):(Ef nm tn ti to).lookup m=none:=by unfold Ef;rw [aD,if_neg h1,aD,if_neg h2,aD,if_neg h3,aD,if_neg h4];all_goals rfl
structure fO (K:Fr) (t:jr) (H:Hp) (p:Addr) (i:Nat) (nm:V) (ns is os:List V):Prop where
 ex:∃dx tn ti to,H p=some (.ins (cls t i) dx (Ef nm tn ti to))/\gq K H tn ns/\gq K H ti is/\gq K H to os
theorem fO.same {H H':Hp} {p:Addr} {i:Nat} {nm:V} {ns is os:List V} (h:fO K t H p i nm ns is os) (s:aK H H'):fO K t H' p i nm ns is os:=by obtain⟨dx,tn,ti,to,h1,h2,h3,h4⟩:=h;exact⟨dx,tn,ti,to,s _ _ h1,s.seqT h2,s.seqT h3,s.seqT h4⟩
noncomputable def jw (i:Nat):Sp:=λvs H Q _=>∃x,vs=[x]/\Q (.str (cL i)) H
noncomputable def nV (j:Nat):V:=.int (j:Nat)
inductive Val (v:V):Prop where
 | mk:∀n:Int,v=.int n->0<=n->n <1000000000->Val v
inductive Flat:PyData->Prop
 | non:Flat .none
 | int (i:Int):Flat (.int i)
noncomputable def places (i:Nat) (hs:List V):List Nat:=if i=9 then(match hs with | .int n:: _=>[0,1+(n % 2).toNat] | _=>[0]) else List.range hs.length
noncomputable def zA (i:Nat) (hs:List V):Prop:=hs.length=cI i/\∀h∈hs,h=.non∨∃n:Int,h=.int n
noncomputable def yJ (hs:List V) (q:Nat):Bool:=decide (hs[q]?=some V.non)
noncomputable def Qe (i:Nat) (hs:List V):V:=match (places i hs).find? (yJ hs) with
 | some q=>nV q
 | none=>.non
theorem lC {i:Nat} {hs:List V} (h:zA i hs):∀q∈places i hs,q <hs.length:=by
 intro q hq;unfold places at hq;by_cases hi:i=9
 ·rw [if_pos hi] at hq;have hl:hs.length=3:=by rw [h.1,hi];rfl
  rw [hl];split at hq
  ·rename_i n r;have h0:=emod_nonneg n (show(2:Int)≠0 by decide);have h1:=emod_lt_of_pos n (show(0:Int) <2 by decide);simp at hq
   lia
  ·simp at hq
   lia
 ·rw [if_neg hi] at hq;simpa using hq
theorem Ot {f:Nat->Bool}:∀{l:List Nat} {j q:Nat},l[j]?=some q->(∀x∈l.take j,f x=false)->f q=true->l.find? f=some q
 | [],_,_,e,_,_=>by simp at e
 | x:: r,0,q,e,_,hq=>by simp at e;subst e;rw [find?_cons,hq]
 | x:: r,j+1,q,e,h,hq=>by have hx:f x=false:=h x (by simp);rw [find?_cons,hx];exact Ot (l:=r) (j:=j) (by simpa using e) (λy hy=>h y (by simp [hy])) hq
theorem VP {f:Nat->Bool} {l:List Nat} (h:∀x∈l,f x=false):l.find? f=none:=by rw [find?_eq_none];intro x hx;rw [h x hx];decide
inductive o9 (K:Fr) (t:jr) (i:Nat) (vs:List V) (H:Hp) (Q:VK) (E:XK):Prop where
 | mk:∀(p a:Addr) (nm:V) (ns is os hs:List V),vs=[.ref p,.ref a]->fO K t H p i nm ns is os->is.length=cI i->bK K H a hs->zA i hs->(∀H' L,aK H H'->H L=none->H' L=some (.lst ((places i hs).map nV))->Q (.ref L) H')->o9 K t i vs H Q E
inductive zY (K:Fr) (t:jr) (i:Nat) (vs:List V) (H:Hp) (Q:VK) (E:XK):Prop where
 | mk:∀(p a:Addr) (nm:V) (ns is os hs:List V),vs=[.ref p,.ref a]->fO K t H p i nm ns is os->is.length=cI i->bK K H a hs->zA i hs->(∀H',aK H H'->Q (Qe i hs) H')->zY K t i vs H Q E
noncomputable def g0 (l:List Int):Int:=l.getD 0 0
noncomputable def g1 (l:List Int):Int:=l.getD 1 0
noncomputable def cV (i:Nat):Nat:=match i with
 | 0=>1
 | 1=>1
 | 2=>1
 | 3=>1
 | 4=>1
 | 5=>1
 | 6=>2
 | 7=>2
 | 8=>2
 | 9=>2
 | _=>2
noncomputable def cZ (i:Nat) (ns ws:List Int) (kp:Int):List (Int×Int):=match i with
 | 0=>[(0,g0 ws)]
 | 1=>[]
 | 2=>[(0,g0 ws)]
 | 3=>[(0,g0 ws),(1,g0 ws)]
 | 4=>[(0,(g0 ns * g0 ws+g1 ns) % 1000000000)]
 | 5=>[(0,(kp+g0 ws) % 1000000000)]
 | 6=>[(0,(g0 ws+g1 ws) % 1000000000)]
 | 7=>[(0,if g0 ws <g1 ws then 1 else 0)]
 | 8=>[(0,if g1 ws <g0 ws then g1 ws else g0 ws),(1,if g1 ws <g0 ws then g0 ws else g1 ws)]
 | 9=>[(0,g1 ws)]
 | _=>[(g0 ws % 2,g1 ws)]
noncomputable def iu (i:Nat) (ws:List Int) (kp:Int):Int:=if i=5 then(kp+g0 ws) % 1000000000 else kp
noncomputable def Kh (ps:List (Int×Int)):List (List V):=ps.map λp=>[.int p.1,.int p.2]
noncomputable def Y8 (ws:List Int):Prop:=∀w∈ws,0<=w/\w <1000000000
inductive eQ (K:Fr) (t:jr) (i:Nat) (vs:List V) (H:Hp) (Q:VK) (E:XK):Prop where
 | mk:∀(p a:Addr) (nm:V) (ns:List Int) (is os:List V) (ws:List Int) (kp:Int),vs=[.ref p,.ref a,.int kp]->fO K t H p i nm (ns.map V.int) is os->ns.length=cN i->bK K H a (ws.map V.int)->ws.length=cV i->Y8 ws->(∀H' U L rs,aK H H'->H L=none->H' U=some (.tup [.ref L,.int (iu i ws kp)])->H' L=some (.lst (rs.map V.ref))->jA H' rs (Kh (cZ i ns ws kp))->Q (.ref U) H')->eQ K t i vs H Q E
theorem zm {H:Hp} {Q:VK} {a b x y:Int} (hx:x=a) (hy:y=b) (k:∀H' L rs,aK H H'->H L=none->H' L=some (.lst (rs.map V.ref))->jA H' rs (Kh [(a,b)])->Q (.ref L) H') {t0 L:Addr} (n0:H t0=none)
  (nL:(upd H t0 (.tup [.int x,.int y])) L=none):Q (.ref L) (upd (upd H t0 (.tup [.int x,.int y])) L (.lst [.ref t0])):=by
 subst hx hy;have s0:=aB (o:=.tup [.int x,.int y]) n0;have s1:=aB (o:=.lst [.ref t0]) nL;exact k _ L [t0] (s0.trans s1) (s0.free nL) aq (.cons (s1 _ _ aq) .nil)
theorem Xi {H:Hp} {Q:VK} {a b c d x y u v:Int} (hx:x=a) (hy:y=b) (hu:u=c) (hv:v=d) (k:∀H' L rs,aK H H'->H L=none->H' L=some (.lst (rs.map V.ref))->jA H' rs (Kh [(a,b),(c,d)])->Q (.ref L) H') {t0 t1 L:Addr} (n0:H t0=none)
  (n1:(upd H t0 (.tup [.int x,.int y])) t1=none) (nL:(upd (upd H t0 (.tup [.int x,.int y])) t1 (.tup [.int u,.int v])) L=none):Q (.ref L) (upd (upd (upd H t0 (.tup [.int x,.int y])) t1 (.tup [.int u,.int v])) L (.lst [.ref t0,.ref t1])):=by
 subst hx hy hu hv;have s0:=aB (o:=.tup [.int x,.int y]) n0;have s1:=aB (o:=.tup [.int u,.int v]) n1;have s2:=aB (o:=.lst [.ref t0,.ref t1]) nL;exact k _ L [t0,t1] (s0.trans (s1.trans s2)) (s0.free (s1.free nL)) aq (.cons (s2 _ _ (s1 _ _ aq)) (.cons (s2 _ _ aq) .nil))
theorem Ew {H:Hp} {Q:VK} {c:Int} {ps:List (Int×Int)} (k:∀H' U L rs,aK H H'->H L=none->H' U=some (.tup [.ref L,.int c])->H' L=some (.lst (rs.map V.ref))->jA H' rs (Kh ps)->Q (.ref U) H'):
  ∀H' L rs,aK H H'->H L=none->H' L=some (.lst (rs.map V.ref))->jA H' rs (Kh ps)->∀U,H' U=none->Q (.ref U) (upd H' U (.tup [.ref L,.int c])):=λH' L rs s nL eL tL U nU=>
 have s2:=aB (o:=.tup [.ref L,.int c]) nU
 k _ U L rs (s.trans s2) nL aq (s2 _ _ eL) (tL.same s2)
theorem dW:(2:Nat)<=sizeLine:=by decide
theorem one_le:(1:Nat)<=sizeLine:=by decide
theorem aaN {a b:Int} {ws:List Int} (h:Y8 ws) (hb:b∈ws):IntMulOk a b:=.of_right (intBits_le_64 (by have:=(h b hb).1;lia) (by have:=(h b hb).2;lia))
noncomputable def JF (i:Nat) (ns:List V):V:=if i=5 then ns.headD .non else .int 0
inductive vz (K:Fr) (t:jr) (i:Nat) (vs:List V) (H:Hp) (Q:VK) (E:XK):Prop where
 | mk:∀(p:Addr) (nm:V) (ns is os:List V),vs=[.ref p]->fO K t H p i nm ns is os->ns.length=cN i->Q (JF i ns) H->vz K t i vs H Q E
noncomputable def Yw (i:Nat) (kv:V) (ns:List V):List V:=if i=5 then [kv] else ns
inductive Fy (K:Fr) (t:jr) (i:Nat) (vs:List V) (H:Hp) (Q:VK) (E:XK):Prop where
 | mk:∀(p:Addr) (kv nm:V) (ns is os:List V),vs=[.ref p,kv]->i<=10->fO K t H p i nm ns is os->(∀H' q,aK H H'->H q=none->fO K t H' q i nm (Yw i kv ns) is os->Q (.ref q) H')->Fy K t i vs H Q E
noncomputable def bW (a b:Int):Int:=((((a % 2147483647 * 48271+7919 * b+11) % 2147483647) * ((a % 2147483647 * 48271+7919 * b+11) % 2147483647) % 2147483629+613 * b) * (((a % 2147483647 * 48271+7919 * b+11) % 2147483647) * ((a % 2147483647 * 48271+7919 * b+11) % 2147483647) % 2147483629)) % 2147483587
theorem Bl (a b:Int):0<=bW a b:=emod_nonneg _ (by decide)
noncomputable def oE (ns:List Int) (j:Nat):Int:=(ns[j]?).getD (41 * (j:Int)+3)
noncomputable def tW (a b:Int):Int:=if bW a b / 7 % 3=0 then bW a b % 5 else if bW a b / 7 % 3=1 then bW a b % 10 ^ 9 else 10 ^ 9 - 1 - bW a b % 3
theorem wQ (a b:Int):0<=tW a b/\tW a b <1000000000:=by
 unfold tW;have h0:=Bl a b;generalize bW a b=n at h0;split
 ·lia
 ·split
  ·have h1:=emod_lt_of_pos n (show(0:Int) <10 ^ 9 by decide);have h2:=emod_nonneg n (show(10:Int) ^ 9≠0 by decide);exact⟨h2,h1⟩
  ·have h1:=emod_lt_of_pos n (show(0:Int) <3 by decide);have h2:=emod_nonneg n (show(3:Int)≠0 by decide);have e:(10:Int) ^ 9=1000000000:=by decide
   rw [e]
   lia
noncomputable def low (c:Nat):Bool:=decide (97<=c) && decide (c<=122)
noncomputable def NZ (c:Nat):Bool:=decide (48<=c) && decide (c<=57)
noncomputable def nameB (x:Str):Bool:=match x.cps.toList with
 | []=>false
 | c:: r=>decide (r.length<=7) && (low c && (c:: r).all λd=>low d || NZ d)
theorem pA (x:Str):x.cps.toList.length=x.length:=by simp [Str.length]
theorem Fi:∀(ws:List Str),(Str.join Str.empty ws).cps.toList=(ws.map λw=>w.cps.toList).flatten
 | []=>rfl
 | [w]=>by simp [Str.join]
 | w:: v:: r=>by have ih:=Fi (v:: r);show(w.cps ++ #[] ++ (Str.join Str.empty (v:: r)).cps).toList=_;rw [Array.toList_append,ih];simp
theorem Tz {n:Nat}:∀(ws:List Str),(∀w∈ws,w.length<=n)->(ws.map (·.length)).sum<=ws.length * n
 | [],_=>by simp
 | w:: r,h=>by
  have h1:=h w (by simp);have h2:=Tz r λv hv=>h v (by simp [hv]);simp only [map_cons,List.sum_cons,length_cons,Nat.add_mul]
  lia
noncomputable def KJ (n:Int):Nat:=97+(n % 26).toNat
theorem Jo (n:Int):low (KJ n)=true:=by
 unfold low KJ;have h0:=emod_nonneg n (show(26:Int)≠0 by decide);have h1:=emod_lt_of_pos n (show(0:Int) <26 by decide);simp
 lia
noncomputable abbrev LT:Str:= "abcdefghijklmnopqrstuvwxyz"
theorem Ny:LT.length=26:=by decide +kernel
theorem SQ:LT.cps.toList=List.range' 97 26:=by decide +kernel
theorem RV (n:Int):Ji LT.cps.toList (n % 26)=some (KJ n):=by have h0:=emod_nonneg n (show(26:Int)≠0 by decide);have h1:=emod_lt_of_pos n (show(0:Int) <26 by decide);obtain⟨j,hj⟩:∃j:Nat,n % 26=(j:Int):=⟨(n % 26).toNat,by lia⟩;unfold KJ;rw [hj,SQ];exact aM (by rw [List.getElem?_range' (by lia)];simp)
noncomputable def ie (a:Int):List Nat:=(List.range (bW a 50 % 7).toNat).map λj=>KJ (bW a (60+(j:Nat)))
noncomputable def qG (a:Int):Nat:=(bW a 51 % (bW a 50 % 7+1)).toNat
noncomputable def NQ (n:Nat):List Nat:=(toString (Int.ofNat n):Str).cps.toList
noncomputable def xF (a:Int) (k:Nat):List Nat:=if bW a 52 % 3=0 then KJ (bW a 53):: NQ (bW a 54 % 1000+37 * (k:Int)).toNat else(ie a).take (qG a) ++ KJ (bW a 55+k):: (ie a).drop (qG a)
noncomputable def cU (a:Int) (k:Nat):Str:=⟨(xF a k).toArray⟩
noncomputable def Rp (l:List Nat):Nat:=l.foldl (λr c=>10 * r+(c - 48)) 0
theorem VJ:(List.range 2000).all (λi=>(NQ i).all NZ && decide ((NQ i).length<=4) && decide (Rp (NQ i)=i))=true:=by decide +kernel
theorem rT {n:Nat} (h:n <2000):(NQ n).all NZ=true/\(NQ n).length<=4/\Rp (NQ n)=n:=by have z:=all_eq_true.mp VJ n (mem_range.mpr h);simp only [and_eq_true,decide_eq_true_eq] at z;exact⟨z.1.1,z.1.2,z.2⟩
theorem zr (a:Int):(ie a).length<=6/\((ie a).length:Int)=bW a 50 % 7:=by
 unfold ie;have h0:=emod_nonneg (bW a 50) (show(7:Int)≠0 by decide);have h1:=emod_lt_of_pos (bW a 50) (show(0:Int) <7 by decide);rw [lM,length_range]
 lia
theorem J4 (a:Int):qG a<=(ie a).length:=by
 have h:=(zr a).2;unfold qG;have h0:=emod_nonneg (bW a 50) (show(7:Int)≠0 by decide);have h1:=emod_lt_of_pos (bW a 51) (show(0:Int) <bW a 50 % 7+1 by lia);have h2:=emod_nonneg (bW a 51) (show bW a 50 % 7+1≠0 by lia)
 lia
theorem DP {x:Str} {c:Nat} {r:List Nat} (e:x.cps.toList=c:: r) (h:r.length<=7) (hc:low c=true) (ha:∀d∈r,low d=true∨NZ d=true):nameB x=true:=by
 unfold nameB;rw [e];simp only [and_eq_true,decide_eq_true_eq,all_eq_true,Bool.or_eq_true];refine⟨h,hc,λd hd=>?_⟩;rcases mem_cons.mp hd with rfl | hd
 ·exact .inl hc
 ·exact ha d hd
theorem yu (a:Int) (k:Nat):(cU a k).cps.toList=xF a k:=by simp [cU]
theorem PP (a:Int) {k:Nat} (hk:k <26):nameB (cU a k)=true:=by
 have h0:=emod_nonneg (bW a 54) (show(1000:Int)≠0 by decide);have h1:=emod_lt_of_pos (bW a 54) (show(0:Int) <1000 by decide);have e:=yu a k;unfold xF at e;split at e
 ·obtain⟨n1,n2,_⟩:=rT (n:=(bW a 54 % 1000+37 * (k:Int)).toNat) (by lia);exact DP e (by lia) (Jo _) λc hc=>.inr (all_eq_true.mp n1 c hc)
 ·have b1:=(zr a).1;have b2:=J4 a;have all:∀c∈(ie a).take (qG a) ++ KJ (bW a 55+k):: (ie a).drop (qG a),low c=true:=λc hc=>by
   have hb:∀c∈ie a,low c=true:=λc hc=>by unfold ie at hc;obtain⟨j,_,rfl⟩:=mem_map.mp hc;exact Jo _
   rcases mem_append.mp hc with h | h
   ·exact hb c (List.mem_of_mem_take h)
   ·rcases mem_cons.mp h with rfl | h
    ·exact Jo _
    ·exact hb c (List.mem_of_mem_drop h)
  have len:((ie a).take (qG a) ++ KJ (bW a 55+k):: (ie a).drop (qG a)).length<=7:=by
   rw [lP,length_take,length_cons,length_drop]
   lia
  have ne:(ie a).take (qG a) ++ KJ (bW a 55+k):: (ie a).drop (qG a)≠[]:=by simp
  generalize (ie a).take (qG a) ++ KJ (bW a 55+k):: (ie a).drop (qG a)=l at all len ne e;obtain⟨c,r,rfl⟩:=List.exists_cons_of_ne_nil ne;rw [length_cons] at len;exact DP e (by lia) (all c mem_cons_self) λd hd=>.inl (all d (mem_cons_of_mem _ hd))
theorem Mj (a:Int) {j k:Nat} (hj:j <26) (hk:k <26) (h:cU a j=cU a k):j=k:=by
 have e:xF a j=xF a k:=by have:=congrArg (λs:Str=>s.cps.toList) h;simpa [cU] using this
 unfold xF at e;split at e
 ·have h0:=emod_nonneg (bW a 54) (show(1000:Int)≠0 by decide);have h1:=emod_lt_of_pos (bW a 54) (show(0:Int) <1000 by decide);have e2:=congrArg Rp (List.cons.inj e).2;rw [(rT (by lia)).2.2,(rT (by lia)).2.2] at e2
  lia
 ·have e2:=(List.cons.inj (List.append_cancel_left e)).1;unfold KJ at e2
  lia
namespace Drawn
variable {S:Type}
structure iM (S:Type) where
 kind:Nat
 name:S
 nums:List Int
 ins:List S
 outs:List S
structure NS (S:Type) where
 lanes:List S
 parts:List (iM S)
 opens:List S
 back:List S
inductive jC (ps:List (iM S)):S->S->Prop
 | refl (x:S):jC ps x x
 | step {x y z:S} {p:iM S}:p∈ps->x∈p.ins ++ p.outs->y∈p.ins ++ p.outs->jC ps y z->jC ps x z
theorem jC.trans {ps:List (iM S)} {x y z:S} (h:jC ps x y) (k:jC ps y z):jC ps x z:=by
 induction h with
 | refl _=>exact k
 | step hp hx hy _ ih=>exact .step hp hx hy (ih k)
theorem jC.symm {ps:List (iM S)} {x y:S} (h:jC ps x y):jC ps y x:=by
 induction h with
 | refl _=>exact .refl _
 | step hp hx hy _ ih=>exact ih.trans (.step hp hy hx (.refl _))
theorem jC.mono {ps qs:List (iM S)} (hs:∀p∈ps,p∈qs) {x y:S} (h:jC ps x y):jC qs x y:=by
 induction h with
 | refl _=>exact .refl _
 | step hp hx hy _ ih=>exact .step (hs _ hp) hx hy ih
theorem jC.part {ps:List (iM S)} {p:iM S} (hp:p∈ps) {x y:S} (hx:x∈p.ins ++ p.outs) (hy:y∈p.ins ++ p.outs):jC ps x y:=.step hp hx hy (.refl _)
structure WF (ns:NS S):Prop where
 nod:ns.lanes.Nodup
 outs:((ns.parts.flatMap (·.outs)) ++ ns.back).Perm ns.lanes
 ins:((ns.parts.flatMap (·.ins)) ++ ns.opens).Perm ns.lanes
 hang:∀p∈ns.parts,∃x∈p.ins ++ p.outs,∃o∈ns.opens,jC ns.parts x o
 touch:∀p∈ns.parts,p.ins ++ p.outs≠[]
theorem WF.add {ns:NS S} (w:WF ns) {p:iM S} {newl opens' back':List S} (hn:(ns.lanes ++ newl).Nodup) (ho:(p.outs ++ back').Perm (ns.back ++ newl)) (hi:(p.ins ++ opens').Perm (ns.opens ++ newl))
  (hg:∀o∈ns.opens,∃o'∈opens',jC (ns.parts ++ [p]) o o') (hp:∃x∈p.ins ++ p.outs,∃o∈opens',jC (ns.parts ++ [p]) x o):
  WF { lanes:=ns.lanes ++ newl,parts:=ns.parts ++ [p],opens:=opens',back:=back' }:=by
 have mono:∀q∈ns.parts,q∈ns.parts ++ [p]:=λq hq=>mem_append.mpr (.inl hq);refine⟨hn,?_,?_,?_,?_⟩
 ·have e:(ns.parts ++ [p]).flatMap (·.outs)=ns.parts.flatMap (·.outs) ++ p.outs:=by simp
  show(((ns.parts ++ [p]).flatMap (·.outs)) ++ back').Perm _;rw [e,append_assoc];exact(ho.append_left _).trans (by rw [<-append_assoc];exact w.outs.append_right _)
 ·have e:(ns.parts ++ [p]).flatMap (·.ins)=ns.parts.flatMap (·.ins) ++ p.ins:=by simp
  show(((ns.parts ++ [p]).flatMap (·.ins)) ++ opens').Perm _;rw [e,append_assoc];exact(hi.append_left _).trans (by rw [<-append_assoc];exact w.ins.append_right _)
 ·intro q hq;rcases mem_append.mp hq with h | h
  ·obtain⟨x,hx,o,hoq,c⟩:=w.hang q h;obtain⟨o',ho',c'⟩:=hg o hoq;exact⟨x,hx,o',ho',(c.mono mono).trans c'⟩
  ·rw [mem_singleton] at h;subst h;exact hp
 ·intro q hq;rcases mem_append.mp hq with h | h
  ·exact w.touch q h
  ·rw [mem_singleton] at h;subst h;obtain⟨x,hx,_⟩:=hp;intro z;rw [z] at hx;cases hx
theorem WF.start:WF (⟨[],[],[],[]⟩:NS S):=⟨List.nodup_nil,.refl _,.refl _,λp hp=>(by cases hp),λp hp=>(by cases hp)⟩
theorem WF.backLane {ns:NS S} (w:WF ns) {b:S} (hn:(ns.lanes ++ [b]).Nodup):WF { ns with lanes:=ns.lanes ++ [b],opens:=ns.opens ++ [b],back:=ns.back ++ [b] }:=by
 refine⟨hn,?_,?_,λp hp=>?_,w.touch⟩
 ·show(_ ++ (ns.back ++ [b])).Perm _;rw [<-append_assoc];exact w.outs.append_right _
 ·show(_ ++ (ns.opens ++ [b])).Perm _;rw [<-append_assoc];exact w.ins.append_right _
 ·obtain⟨x,hx,o,ho,c⟩:=w.hang p hp;exact⟨x,hx,o,mem_append.mpr (.inl ho),c⟩
theorem WF.part {ns:NS S} (w:WF ns) {p:iM S} {rest:List S} (hi:ns.opens.Perm (p.ins ++ rest)) (hf:(ns.lanes ++ p.outs).Nodup) (ho:p.outs≠[]):
  WF { ns with lanes:=ns.lanes ++ p.outs,parts:=ns.parts ++ [p],opens:=rest ++ p.outs }:=by
 have hp:p∈ns.parts ++ [p]:=by simp
 obtain⟨o1,hoo⟩:∃o1,o1∈p.outs:=List.exists_mem_of_ne_nil _ ho;have h1:o1∈rest ++ p.outs:=mem_append.mpr (.inr hoo);refine w.add hf perm_append_comm ?_ (λo h=>?_) ⟨o1,mem_append.mpr (.inr hoo),o1,h1,.refl _⟩
 ·rw [<-append_assoc];exact hi.symm.append_right _
 ·rcases mem_append.mp (hi.mem_iff.mp h) with h | h
  ·exact⟨o1,h1,jC.part hp (mem_append.mpr (.inl h)) (mem_append.mpr (.inr hoo))⟩
  ·exact⟨o,mem_append.mpr (.inl h),.refl _⟩
theorem WF.take {ns:NS S} (w:WF ns) {p:iM S} {rest:List S} {y x:S} (hi:p.ins=[y]) (ho:p.outs=[]) (hr:ns.opens.Perm (y:: rest)) (hx:x∈rest) (c:jC ns.parts y x):
  WF { ns with parts:=ns.parts ++ [p],opens:=rest }:=by
 have mono:∀q∈ns.parts,q∈ns.parts ++ [p]:=λq hq=>mem_append.mpr (.inl hq);have:=w.add (p:=p) (newl:=[]) (opens':=rest) (back':=ns.back) (by rw [append_nil];exact w.nod) (by rw [ho,append_nil];exact .refl _) (by rw [hi,append_nil];exact hr.symm)
  (λo h=>by
   rcases mem_cons.mp (hr.mem_iff.mp h) with rfl | h
   ·exact⟨x,hx,c.mono mono⟩
   ·exact⟨o,h,.refl _⟩) ⟨y,by simp [hi],x,hx,c.mono mono⟩
 rw [append_nil] at this;exact this
theorem WF.loop {ns:NS S} (w:WF ns) {p:iM S} {rest:List S} {one own fresh:S} (hi:p.ins=[one,own]) (ho:p.outs=[own,fresh]) (hr:ns.opens.Perm (one:: rest)) (hn:(ns.lanes ++ [own,fresh]).Nodup):
  WF { ns with lanes:=ns.lanes ++ [own,fresh],parts:=ns.parts ++ [p],opens:=rest ++ [fresh] }:=by
 have hp:p∈ns.parts ++ [p]:=by simp
 have hf:fresh∈rest ++ [fresh]:=by simp
 refine w.add hn (by rw [ho];exact perm_append_comm) ?_ (λo h=>?_) ⟨fresh,by simp [ho],fresh,hf,.refl _⟩
 ·rw [hi];show(one:: own:: (rest ++ [fresh])).Perm (ns.opens ++ [own,fresh]);refine .trans ?_ (hr.symm.append_right _);refine .cons _ ?_;show(own:: (rest ++ [fresh])).Perm (rest ++ ([own] ++ [fresh]));rw [<-append_assoc];exact(perm_append_comm (l₁:=[own]) (l₂:=rest)).append_right [fresh]
 ·rcases mem_cons.mp (hr.mem_iff.mp h) with rfl | h
  ·exact⟨fresh,hf,jC.part hp (by simp [hi]) (by simp [ho])⟩
  ·exact⟨o,mem_append.mpr (.inl h),.refl _⟩
theorem WF.closeBack {ns:NS S} (w:WF ns) {p:iM S} {rest:List S} {one b fresh:S} (hi:p.ins=[one]) (ho:p.outs=[b,fresh]) (hb:ns.back.Perm (b:: rest)) (h1:ns.opens=[one]) (hn:(ns.lanes ++ [fresh]).Nodup):
  WF { lanes:=ns.lanes ++ [fresh],parts:=ns.parts ++ [p],opens:=[fresh],back:=rest }:=by
 have hp:p∈ns.parts ++ [p]:=by simp
 refine w.add hn ?_ (by rw [hi,h1]) (λo h=>?_) ⟨fresh,by simp [ho],fresh,by simp,.refl _⟩
 ·rw [ho];show(b:: fresh:: rest).Perm (ns.back ++ [fresh]);refine .trans ?_ (hb.symm.append_right _);exact .cons _ (perm_append_comm (l₁:=[fresh]) (l₂:=rest))
 ·rw [h1,mem_singleton] at h;subst h;exact⟨fresh,by simp,jC.part hp (by simp [hi]) (by simp [ho])⟩
theorem WF.last {ns:NS S} (w:WF ns) {p:iM S} {y:S} (hb:ns.back=[]) (h1:ns.opens=[y]) (hi:p.ins=[y]) (ho:p.outs=[]):
  ((ns.parts ++ [p]).flatMap (·.outs)).Perm ns.lanes/\((ns.parts ++ [p]).flatMap (·.ins)).Perm ns.lanes/\∀q∈ns.parts ++ [p],∃x∈q.ins ++ q.outs,jC (ns.parts ++ [p]) x y:=by
 have mono:∀q∈ns.parts,q∈ns.parts ++ [p]:=λq hq=>mem_append.mpr (.inl hq);refine⟨?_,?_,?_⟩
 ·have e:(ns.parts ++ [p]).flatMap (·.outs)=ns.parts.flatMap (·.outs):=by simp [ho]
  rw [e];have:=w.outs;rw [hb,append_nil] at this;exact this
 ·have e:(ns.parts ++ [p]).flatMap (·.ins)=ns.parts.flatMap (·.ins) ++ [y]:=by simp [hi]
  rw [e];have:=w.ins;rw [h1] at this;exact this
 ·intro q hq;rcases mem_append.mp hq with h | h
  ·obtain⟨x,hx,o,hoq,c⟩:=w.hang q h;rw [h1,mem_singleton] at hoq;subst hoq;exact⟨x,hx,c.mono mono⟩
  ·rw [mem_singleton] at h;subst h;exact⟨y,by simp [hi],.refl _⟩
theorem Nu {ps:List (iM S)} {J:iM S->Prop} (closed:∀(l:S) (p q:iM S),p∈ps->q∈ps->l∈p.ins ++ p.outs->l∈q.ins ++ q.outs->J p->J q) {y:S} (hang:∀q∈ps,∃x∈q.ins ++ q.outs,jC ps x y)
  {p0:iM S} (hp0:p0∈ps) (h0:J p0):∀q∈ps,J q:=by
 have go:∀{x z:S},jC ps x z->(∃p∈ps,x∈p.ins ++ p.outs/\J p)->∃p∈ps,z∈p.ins ++ p.outs/\J p:=by
  intro x z c;induction c with
  | refl _=>exact id
  | step hp hx hy _ ih=>
   rintro⟨p',hp',hx',hJ⟩;exact ih ⟨_,hp,hy,closed _ _ _ hp' hp hx' hx hJ⟩
 obtain⟨x0,hx0,c0⟩:=hang p0 hp0;have hy:=go c0 ⟨p0,hp0,hx0,h0⟩;intro q hq;obtain⟨x,hx,c⟩:=hang q hq;obtain⟨p',hp',hx',hJ⟩:=go c.symm hy;exact closed _ _ _ hp' hq hx' hx hJ
theorem Q5 {ps:List (iM S)} (f:iM S->List S) (h:(ps.flatMap f).Nodup) {i j:Nat} {p q:iM S} {l:S} (hi:ps[i]?=some p) (hj:ps[j]?=some q) (hp:l∈f p) (hq:l∈f q):i=j:=by
 induction ps generalizing i j with
 | nil=>cases hi
 | cons r rs ih=>
  rw [flatMap_cons,nodup_append] at h;obtain⟨h1,h2,h3⟩:=h;have far:∀{k:Nat} {s:iM S},rs[k]?=some s->l∈f s->l∈rs.flatMap f:=λe hs=>mem_flatMap.mpr ⟨_,mem_of_getElem? e,hs⟩;match i,j with
  | 0,0=>rfl
  | 0,j+1=>
   simp only [getElem?_cons_zero,Option.some.injEq] at hi;subst hi;exact absurd Z (h3 l hp l (far (by simpa using hj) hq))
  | i+1,0=>
   simp only [getElem?_cons_zero,Option.some.injEq] at hj;subst hj;exact absurd Z (h3 l hq l (far (by simpa using hi) hp))
  | i+1,j+1=>exact congrArg (· +1) (ih h2 (by simpa using hi) (by simpa using hj))
end Drawn
structure aJ where
 name:Str
 room:Int
 first:List Int
noncomputable def aJ.ok (l:aJ):Prop:=1<=l.room/\l.room<=10/\(l.first.length:Int)<=l.room/\∀v∈l.first,0<=v/\v <1000000000
noncomputable abbrev PD:=Drawn.iM Str
noncomputable def vY (p:PD):Prop:=p.kind <11/\p.nums.length=cN p.kind/\p.ins.length=cI p.kind/\p.outs.length=cO p.kind/\∀v∈p.nums,0<=v/\v <1000000000
noncomputable def bL (E:List Addr) (H:Hp):Hp:=λb=>if b∈E then none else H b
theorem dj {E:List Addr} {H:Hp}:aK (bL E H) H:=λb o e=>by
 unfold bL at e;split at e
 ·cases e
 ·exact e
theorem Dc {E:List Addr} {H:Hp} {p:Addr} {o:HO} (h:H p=none):aK (bL E H) (bL E (upd H p o)):=λb u e=>by
 have e':=dj b u e;unfold bL at e ⊢;split at e
 ·cases e
 ·rename_i n;rw [if_neg n,aG (aC e' h)];exact e
theorem f9 {E:List Addr} {H:Hp} {p:Addr} {o:HO} (h:H p=some o) (n:p∉E):bL E H p=some o:=by unfold bL;rw [if_neg n];exact h
theorem eY {E:List Addr} {H:Hp} {a:Addr} {o:HO} (h:a∈E):bL E (upd H a o)=bL E H:=by
 funext b
 unfold bL;split
 ·rfl
 ·rename_i n;rw [aG (λz=>n (by rw [z];exact h))]
theorem K8 {E:List Addr} {H H':Hp} (s:aK H H') (hE:∀a∈E,∃o,H a=some o):aK (bL E H) (bL E H'):=λb o e=>by
 have e':=dj b o e;unfold bL at e ⊢;split at e
 ·cases e
 ·rename_i n;rw [if_neg n];exact s _ _ e'
inductive jN {α β:Type} (R:α->β->Prop):List α->List β->Prop
 | nil:jN R [] []
 | cons {a:α} {b:β} {l:List α} {m:List β}:R a b->jN R l m->jN R (a:: l) (b:: m)
theorem jN.imp {α β:Type} {R R':α->β->Prop} (h:∀a b,R a b->R' a b):∀{l:List α} {m:List β},jN R l m->jN R' l m
 | _,_,.nil=>.nil
 | _,_,.cons r t=>.cons (h _ _ r) (t.imp h)
theorem jN.length {α β:Type} {R:α->β->Prop}:∀{l:List α} {m:List β},jN R l m->l.length=m.length
 | _,_,.nil=>rfl
 | _,_,.cons _ t=>by rw [length_cons,length_cons,t.length]
theorem jN.app {α β:Type} {R:α->β->Prop}:∀{l l':List α} {m m':List β},jN R l m->jN R l' m'->jN R (l ++ l') (m ++ m')
 | _,_,_,_,.nil,h=>h
 | _,_,_,_,.cons r t,h=>.cons r (t.app h)
theorem jN.get {α β:Type} {R:α->β->Prop}:∀{l:List α} {m:List β},jN R l m->∀{i:Nat} {a:α},l[i]?=some a->∃b,m[i]?=some b/\R a b
 | _,_,.nil,_,_,h=>by simp at h
 | _,_,.cons r t,0,_,h=>by simp only [getElem?_cons_zero,Option.some.injEq] at h;subst h;exact⟨_,Z,r⟩
 | _,_,.cons r t,i+1,_,h=>t.get (i:=i) (by simpa using h)
theorem jN.take {α β:Type} {R:α->β->Prop}:∀{l:List α} {m:List β},jN R l m->∀n:Nat,jN R (l.take n) (m.take n)
 | _,_,.nil,_=>by simp;exact .nil
 | _,_,.cons r t,0=>by simp;exact .nil
 | _,_,.cons r t,n+1=>by simp;exact .cons r (t.take n)
theorem jN.drop {α β:Type} {R:α->β->Prop}:∀{l:List α} {m:List β},jN R l m->∀n:Nat,jN R (l.drop n) (m.drop n)
 | _,_,.nil,_=>by simp;exact .nil
 | _,_,.cons r t,0=>.cons r t
 | _,_,.cons r t,n+1=>by simp;exact t.drop n
inductive uY (G:Hp) (v:V) (l:aJ):Prop where
 | mk:∀q f,v=.ref q->G q=some (.tup [.str l.name,.int l.room,.ref f])->G f=some (.lst (l.first.map V.int))->uY G v l
inductive zR (G:Hp) (v:V) (p:PD):Prop where
 | mk:∀q a1 a2 a3,v=.ref q->G q=some (.tup [.str (cL p.kind),.str p.name,.ref a1,.ref a2,.ref a3])->G a1=some (.lst (p.nums.map V.int))->G a2=some (.lst (p.ins.map V.str))->G a3=some (.lst (p.outs.map V.str))->zR G v p
theorem uY.same {G G':Hp} {v:V} {l:aJ} (h:uY G v l) (s:aK G G'):uY G' v l:=by obtain⟨q,f,e,h1,h2⟩:=h;exact⟨q,f,e,s _ _ h1,s _ _ h2⟩
theorem zR.same {G G':Hp} {v:V} {p:PD} (h:zR G v p) (s:aK G G'):zR G' v p:=by obtain⟨q,a1,a2,a3,e,h1,h2,h3,h4⟩:=h;exact⟨q,a1,a2,a3,e,s _ _ h1,s _ _ h2,s _ _ h3,s _ _ h4⟩
structure Dw where
 S:Addr
 L:Addr
 P:Addr
 O:Addr
 c3:Int
 c4:Int
noncomputable abbrev Dw.E (d:Dw):List Addr:=[d.L,d.P,d.O]
structure oO (d:Dw) (H:Hp) (ls:List aJ) (ps:List PD) (os:List Str):Prop where
 top:bL d.E H d.S=some (.lst [.ref d.L,.ref d.P,.ref d.O,.int d.c3,.int d.c4])
 lanes:∃xs,H d.L=some (.lst xs)/\jN (uY (bL d.E H)) xs ls
 parts:∃xs,H d.P=some (.lst xs)/\jN (zR (bL d.E H)) xs ps
 opens:H d.O=some (.lst (os.map V.str))
 ne:d.L≠d.P/\d.L≠d.O/\d.P≠d.O
 lok:∀l∈ls,l.ok
 pok:∀p∈ps,vY p
 ln:ls.map (·.name)=(List.range ls.length).map (cU d.c3)
 pn:ps.map (·.name)=(List.range ps.length).map (cU d.c4)
theorem oO.seqS {d:Dw} {H:Hp} {ls:List aJ} {ps:List PD} {os:List Str} (D:oO d H ls ps os):bK K H d.S [.ref d.L,.ref d.P,.ref d.O,.int d.c3,.int d.c4]:=bK.of (dj _ _ D.top)
theorem oO.has {d:Dw} {H:Hp} {ls:List aJ} {ps:List PD} {os:List Str} (D:oO d H ls ps os) {a:Addr} (h:a∈d.E):∃o,H a=some o:=by
 obtain⟨_,e1,_⟩:=D.lanes;obtain⟨_,e2,_⟩:=D.parts;rcases mem_cons.mp h with rfl | h
 ·exact⟨_,e1⟩
 ·rcases mem_cons.mp h with rfl | h
  ·exact⟨_,e2⟩
  ·rw [mem_singleton] at h;subst h;exact⟨_,D.opens⟩
theorem oO.out {d:Dw} {H:Hp} {ls:List aJ} {ps:List PD} {os:List Str} (D:oO d H ls ps os) {p:Addr} (h:H p=none):p∉d.E:=λz=>by obtain⟨o,e⟩:=D.has z;rw [h] at e;cases e
theorem oO.keep {d:Dw} {H H':Hp} {ls:List aJ} {ps:List PD} {os:List Str} (D:oO d H ls ps os) (s:aK H H'):oO d H' ls ps os:=by obtain⟨xs,e1,a1⟩:=D.lanes;obtain⟨ys,e2,a2⟩:=D.parts;have c:=K8 (E:=d.E) s (λa h=>D.has h);exact⟨c _ _ D.top,⟨xs,s _ _ e1,a1.imp λ_ _ h=>h.same c⟩,⟨ys,s _ _ e2,a2.imp λ_ _ h=>h.same c⟩,s _ _ D.opens,D.ne,D.lok,D.pok,D.ln,D.pn⟩
theorem oO.cut {d:Dw} {H H':Hp} {ls:List aJ} {ps:List PD} {os:List Str} (D:oO d H ls ps os) (s:aK H H'):aK (bL d.E H) (bL d.E H'):=K8 s (λ_ h=>D.has h)
theorem Hj {α:Type} {f:α->Str} {w:Nat->Str} {l:List α} {x:α} (h:l.map f=(List.range l.length).map w) (hx:f x=w l.length):(l ++ [x]).map f=(List.range (l ++ [x]).length).map w:=by rw [map_append,lP,length_singleton,range_succ,map_append,h,List.map_singleton,List.map_singleton,hx]
theorem oO.lane {d:Dw} {H:Hp} {ls:List aJ} {ps:List PD} {os:List Str} (D:oO d H ls ps os) {v:V} {l:aJ} (h:uY (bL d.E H) v l) (hl:l.ok) (hn:l.name=cU d.c3 ls.length) {xs:List V} (e:H d.L=some (.lst xs)):
  oO d (upd H d.L (.lst (xs ++ [v]))) (ls ++ [l]) ps os:=by
 obtain⟨xs',e1,a1⟩:=D.lanes;obtain⟨ys,e2,a2⟩:=D.parts;rw [e] at e1;cases e1;have c:bL d.E (upd H d.L (.lst (xs ++ [v])))=bL d.E H:=eY (by simp);refine⟨by rw [c];exact D.top,⟨_,aq,by rw [c];exact a1.app (.cons h .nil)⟩,⟨ys,by rw [aG (Ne.symm D.ne.1)];exact e2,by rw [c];exact a2⟩,by rw [aG (Ne.symm D.ne.2.1)];exact D.opens,D.ne,λx hx=>?_,D.pok,Hj D.ln hn,D.pn⟩;rcases mem_append.mp hx with hx | hx
 ·exact D.lok x hx
 ·rw [mem_singleton] at hx;subst hx;exact hl
theorem oO.part {d:Dw} {H:Hp} {ls:List aJ} {ps:List PD} {os:List Str} (D:oO d H ls ps os) {v:V} {p:PD} (h:zR (bL d.E H) v p) (hl:vY p) (hn:p.name=cU d.c4 ps.length) {xs:List V} (e:H d.P=some (.lst xs)):
  oO d (upd H d.P (.lst (xs ++ [v]))) ls (ps ++ [p]) os:=by
 obtain⟨xs',e1,a1⟩:=D.lanes;obtain⟨ys,e2,a2⟩:=D.parts;rw [e] at e2;cases e2;have c:bL d.E (upd H d.P (.lst (xs ++ [v])))=bL d.E H:=eY (by simp);refine⟨by rw [c];exact D.top,⟨_,by rw [aG D.ne.1];exact e1,by rw [c];exact a1⟩,⟨_,aq,by rw [c];exact a2.app (.cons h .nil)⟩,by rw [aG (Ne.symm D.ne.2.2)];exact D.opens,D.ne,D.lok,λx hx=>?_,D.ln,Hj D.pn hn⟩;rcases mem_append.mp hx with hx | hx
 ·exact D.pok x hx
 ·rw [mem_singleton] at hx;subst hx;exact hl
theorem oO.open {d:Dw} {H:Hp} {ls:List aJ} {ps:List PD} {os os':List Str} (D:oO d H ls ps os):oO d (upd H d.O (.lst (os'.map V.str))) ls ps os':=by obtain⟨xs,e1,a1⟩:=D.lanes;obtain⟨ys,e2,a2⟩:=D.parts;have c:bL d.E (upd H d.O (.lst (os'.map V.str)))=bL d.E H:=eY (by simp);exact⟨by rw [c];exact D.top,⟨xs,by rw [aG D.ne.2.1];exact e1,by rw [c];exact a1⟩,⟨ys,by rw [aG D.ne.2.2];exact e2,by rw [c];exact a2⟩,aq,D.ne,D.lok,D.pok,D.ln,D.pn⟩
theorem BJ (a:Int) {n:Nat} (h:n<=26):((List.range n).map (cU a)).Nodup:=by
 induction n with
 | zero=>exact List.nodup_nil
 | succ n ih=>
  rw [range_succ,map_append,nodup_append];refine⟨ih (by lia),by simp,λx hx y hy=>?_⟩;obtain⟨j,hj,rfl⟩:=mem_map.mp hx;rw [List.map_singleton,mem_singleton] at hy;subst hy;have hj':=mem_range.mp hj;intro z;have:=Mj a (by lia) (by lia) z
  lia
noncomputable abbrev vX (ls:List aJ) (ps:List PD) (os back:List Str):Drawn.NS Str:=⟨ls.map (·.name),ps,os,back⟩
theorem oO.nod {d:Dw} {H:Hp} {ls:List aJ} {ps:List PD} {os:List Str} (D:oO d H ls ps os) (h:ls.length<=26):(ls.map (·.name)).Nodup:=by rw [D.ln];exact BJ _ h
theorem XR {ns:Drawn.NS Str} (w:Drawn.WF ns) {os:List Str} (h:ns.opens.Perm os):Drawn.WF { ns with opens:=os }:=
 ⟨w.nod,w.outs,(h.symm.append_left _).trans w.ins,λp hp=>by obtain⟨x,hx,o,ho,c⟩:=w.hang p hp;exact⟨x,hx,o,h.mem_iff.mp ho,c⟩,w.touch⟩
theorem rY {d:Dw} {H:Hp} {ls newl:List aJ} {ps:List PD} {p:PD} {os ops back:List Str} (w:Drawn.WF (vX ls ps ops back)) (ho:p.outs=newl.map (·.name)) (D:oO d H (ls ++ newl) (ps ++ [p]) (os ++ newl.map (·.name))) (hi:ops.Perm (p.ins ++ os)) (hne:newl.length≠0) (hl:(ls ++ newl).length<=26):
  Drawn.WF (vX (ls ++ newl) (ps ++ [p]) (os ++ newl.map (·.name)) back):=by
 have nd:=D.nod hl;rw [map_append] at nd;have:=w.part (p:=p) hi (by rw [ho];exact nd) (by rw [ho];intro z;exact hne (by rw [<-lM (f:=λl:aJ=>l.name),z];rfl));rw [ho] at this;unfold vX;rw [map_append];exact this
noncomputable def Kl (ps:List PD):Prop:=ps.any (λp=>p.kind == 0)=true
theorem Kl.app {ps:List PD} {p:PD} (h:Kl ps):Kl (ps ++ [p]):=by unfold Kl at h ⊢;rw [List.any_append,h];rfl
structure Nxt (d:Dw) (H H':Hp) (ls:List aJ) (ps:List PD) (back:List Str) (ls':List aJ) (ps':List PD) (os':List Str):Prop where
 cut:aK (bL d.E H) (bL d.E H')
 at':oO d H' ls' ps' os'
 wf:Drawn.WF (vX ls' ps' os' back)
 o1:1<=os'.length
 o4:os'.length<=4
 l2:ls'.length<=ls.length+2
 p2:ps'.length<=ps.length+2
 gv:Kl ps->Kl ps'
theorem Ga {c X Y B:Prop} [Decidable c] (k:B) (hx:c->B->X) (hy:B->Y):if c then X else Y:=by
 split
 ·rename_i h;exact hx h k
 ·exact hy k
theorem hide {t u:TS} {D:Ends} {σ:St} {H:Hp} (h:∀v,v=u->yF t v D σ H):yF t u D σ H:=h u rfl
theorem Ry {i:Nat} {x:V} {t u:TS} {D:Ends} {σ:St} {H:Hp} (h:∀E,E=D->∀v,v=u->yF t v E (σ.set i (some x)) H):za i x σ H λσ2 H2=>yF t u D σ2 H2:=h D rfl u rfl
theorem Xa {i:Nat} {x:V} {t:TS} {D:Ends} {σ:St} {H:Hp} (h:∀E,E=D->t E (σ.set i (some x)) H):za i x σ H λσ2 H2=>t D σ2 H2:=h D rfl
theorem Z9 {t u:TS} {D:Ends} {σ:St} {H:Hp} (h:∀E,E=D->∀v,v=u->yF t v E σ H):yF t u D σ H:=h D rfl u rfl
theorem dq {t u v:TS} {D:Ends} {σ:St} {H:Hp} (hv:v=yF t u) (h:∀w,w=u->yF t w D σ H):v D σ H:=by subst hv;exact h u Z
theorem oO.two {d:Dw} {H:Hp} {ls:List aJ} {ps:List PD} {os:List Str} (D:oO d H ls ps os) {a1 a2:Addr} {x y:HO} (n1:H a1=none) (n2:upd H a1 x a2=none):
  oO d (upd (upd H a1 x) a2 y) ls ps os/\bL d.E (upd (upd H a1 x) a2 y) a1=some x/\bL d.E (upd (upd H a1 x) a2 y) a2=some y/\aK (bL d.E H) (bL d.E (upd (upd H a1 x) a2 y)):=by
 have s1:=aB (o:=x) n1;have s2:=aB (o:=y) n2;have s:=s1.trans s2;exact⟨D.keep s,f9 (s2 _ _ aq) (D.out n1),f9 aq (D.out (s1.free n2)),D.cut s⟩
structure Hm (lanes:List Str) (ps:List PD):Prop where
 nod:lanes.Nodup
 outs:(ps.flatMap (·.outs)).Perm lanes
 ins:(ps.flatMap (·.ins)).Perm lanes
 hang:∃y,∀q∈ps,∃x∈q.ins ++ q.outs,Drawn.jC ps x y
noncomputable def Rq (H:Hp) (a:Addr):Nat:=match H a with
 | some (.lst xs)=>xs.length
 | _=>0
theorem Lr {H:Hp} {a:Addr} {xs:List V} (h:H a=some (.lst xs)):Rq H a=xs.length:=by unfold Rq;rw [h]
theorem Oa (m:Int) {n:Int} {k:Nat} (h0:0 <n) (hk:n=k):∃j:Nat,m % n=(j:Int)/\j <k:=by have h1:=emod_nonneg m (Int.ne_of_gt h0);have h2:=emod_lt_of_pos m h0;exact⟨(m % n).toNat,(Int.toNat_of_nonneg h1).symm,by lia⟩
theorem Zd (m:Int):∃i:Nat,Ji [V.str "add",V.str "less",V.str "add"] (m % 3)=some (.str (cL i))/\(i=6∨i=7):=by
 have key:∀j,j <3->Ji [V.str "add",V.str "less",V.str "add"] ((j:Nat):Int)=some (.str (cL (([6,7,6]:List Nat).getD j 0)))/\(([6,7,6]:List Nat).getD j 0=6∨([6,7,6]:List Nat).getD j 0=7):=by decide +kernel
 obtain⟨j,e,hj⟩:=Oa m (n:=3) (k:=3) (by decide) rfl;rw [e];exact⟨_,key j hj⟩
structure Q7 (c3 c4:Int) (ls:List aJ) (ps:List PD):Prop where
 lok:∀l∈ls,l.ok
 pok:∀p∈ps,vY p
 ln:ls.map (·.name)=(List.range ls.length).map (cU c3)
 pn:((List.range ps.length).map (cU c4)).Perm (ps.map (·.name))
 whole:Hm (ls.map (·.name)) ps
 l1:1<=ls.length
 l17:ls.length<=17
 p1:1<=ps.length
 p16:ps.length<=16
 giv:Kl ps
structure Iw (H:Hp) (L P:Addr) (ls:List aJ) (ps:List PD):Prop where
 lanes:∃xs,H L=some (.lst xs)/\jN (uY H) xs ls
 parts:∃xs,H P=some (.lst xs)/\jN (zR H) xs ps
theorem Iw.same {H H':Hp} {L P:Addr} {ls:List aJ} {ps:List PD} (h:Iw H L P ls ps) (s:aK H H'):Iw H' L P ls ps:=by obtain⟨⟨xs,e1,a1⟩,⟨ys,e2,a2⟩⟩:=h;exact⟨⟨xs,s _ _ e1,a1.imp λ_ _ h=>h.same s⟩,⟨ys,s _ _ e2,a2.imp λ_ _ h=>h.same s⟩⟩
theorem QM {ps qs:List PD} (h:ps.Perm qs) {x y:Str} (c:Drawn.jC ps x y):Drawn.jC qs x y:=c.mono λ_ hp=>h.mem_iff.mp hp
theorem Hm.perm {ns:List Str} {ps qs:List PD} (w:Hm ns ps) (h:ps.Perm qs):Hm ns qs:=by obtain⟨y,hy⟩:=w.hang;exact⟨w.nod,(h.symm.flatMap_right _).trans w.outs,(h.symm.flatMap_right _).trans w.ins,y,λq hq=>by obtain⟨x,hx,c⟩:=hy q (h.mem_iff.mpr hq);exact⟨x,hx,QM h c⟩⟩
theorem Su {α:Type} (l:List α) (n:Nat):l.Perm (l.drop n ++ l.take n):=by
 have h:l.Perm (l.take n ++ l.drop n):=by rw [take_append_drop]
 exact h.trans perm_append_comm
theorem Q6 (xs:List V) (g:Nat):vI xs (some (g:Int)) none=xs.drop g:=by
 unfold vI;rw [HT.z6,HT.wC,<-length_drop,take_length];rcases le_total g xs.length with h | h
 ·rw [Nat.min_eq_left h]
 ·rw [Nat.min_eq_right h,List.drop_length,List.drop_eq_nil_of_le h]
theorem We (xs:List V) (g:Nat):vI xs none (some (g:Int))=xs.take g:=by
 unfold vI;rw [HT.z6,HT.wC,List.drop_zero,Nat.sub_zero];rcases le_total g xs.length with h | h
 ·rw [Nat.min_eq_left h]
 ·rw [Nat.min_eq_right h,take_length,take_of_length_le h]
theorem oO.init {H:Hp} {S L P O:Addr} (c3 c4:Int) (nL:H L=none) (nP:upd H L (.lst []) P=none) (nO:upd (upd H L (.lst [])) P (.lst []) O=none) (nS:upd (upd (upd H L (.lst [])) P (.lst [])) O (.lst []) S=none):
  oO ⟨S,L,P,O,c3,c4⟩ (upd (upd (upd (upd H L (.lst [])) P (.lst [])) O (.lst [])) S (.lst [.ref L,.ref P,.ref O,.int c3,.int c4])) [] [] []/\aK H (bL [L,P,O] (upd (upd (upd (upd H L (.lst [])) P (.lst [])) O (.lst [])) S (.lst [.ref L,.ref P,.ref O,.int c3,.int c4])))/\H P=none:=by
 have s1:=aB (o:=.lst []) nL;have s2:=aB (o:=.lst []) nP;have s3:=aB (o:=.lst []) nO;have s4:=aB (o:=.lst [.ref L,.ref P,.ref O,.int c3,.int c4]) nS;have e1:=s4 _ _ (s3 _ _ (s2 L (.lst []) aq));have e2:=s4 _ _ (s3 P (.lst []) aq);have e3:=s4 O (.lst []) aq;have n1:L≠P:=aC (aq (H:=H) (o:=.lst [])) nP;have n2:L≠O:=aC (s2 L (.lst []) aq) nO;have n3:P≠O:=aC (aq (H:=upd H L (.lst [])) (o:=.lst [])) nO;have m1:L≠S:=aC (s3 _ _ (s2 L (.lst []) aq)) nS;have m2:P≠S:=aC (s3 P (.lst []) aq) nS;have m3:O≠S:=aC (aq (H:=upd (upd H L (.lst [])) P (.lst [])) (o:=.lst [])) nS;refine⟨⟨f9 aq ?_,⟨[],e1,.nil⟩,⟨[],e2,.nil⟩,e3,⟨n1,n2,n3⟩,(λ_ h=>by cases h),(λ_ h=>by cases h),rfl,rfl⟩,λb o e=>f9 (s4 _ _ (s3 _ _ (s2 _ _ (s1 _ _ e)))) ?_,s1.free nP⟩
 ·show S∉[L,P,O];simp [m1.symm,m2.symm,m3.symm]
 ·have q1:=aC e nL;have q2:=aC (s1 _ _ e) nP;have q3:=aC (s2 _ _ (s1 _ _ e)) nO;simp [q1,q2,q3]
noncomputable abbrev LET:Str:= "abcdefghijklmnopqrstuvwxyz"
noncomputable abbrev FIG:Str:= "0123456789"
theorem QH:LET.cps.toList=List.range' 97 26:=by decide +kernel
theorem Qu:FIG.cps.toList=List.range' 48 10:=by decide +kernel
theorem Rz (c:Nat):(!(Builtin.Str.occurrences LET ⟨#[c]⟩ 0 LET.length 1).isEmpty)=low c:=by
 rw [StrLaws.found_one,QH];unfold low;rw [Bool.eq_iff_iff];simp [List.mem_range'_1]
 lia
theorem YW (c:Nat):(!(Builtin.Str.occurrences FIG ⟨#[c]⟩ 0 FIG.length 1).isEmpty)=NZ c:=by
 rw [StrLaws.found_one,Qu];unfold NZ;rw [Bool.eq_iff_iff];simp [List.mem_range'_1]
 lia
structure VD (ms:List Str) (want:List (Str×V)) (fs:List (Str×V)):Prop where
 has:∀p∈want,fs.lookup p.1=some p.2
 no:∀m∈ms,fs.lookup m=none
theorem lA {H:Hp} {d:Addr} {kvs:List (Key×V)} {v:HO} (e:H d=some (.dK kvs)) {b:Addr} {u:HO} (h:H b=some u) (hu:∀ks,u≠.dK ks):upd H d v b=some u:=by
 rw [aG]
 ·exact h
 ·rintro rfl;rw [e] at h;exact hu _ (Option.some.inj h).symm
theorem gf {H:Hp} {d a:Addr} {kvs:List (Key×V)} {v:HO} {xs:List V} (e:H d=some (.dK kvs)) (h:gq K H a xs):gq K (upd H d v) a xs:=by
 rcases h with (h | ⟨o,h⟩) | h
 ·exact .inl (.inl (lA e h (by intro _ z;cases z)))
 ·exact .inl (.inr ⟨o,lA e h (by intro _ z;cases z)⟩)
 ·exact .inr h
theorem fO.chill {H:Hp} {d p:Addr} {kvs:List (Key×V)} {v:HO} {i:Nat} {nm:V} {ns is os:List V} (e:H d=some (.dK kvs)) (h:fO K t H p i nm ns is os):fO K t (upd H d v) p i nm ns is os:=by obtain⟨dx,tn,ti,to,h1,h2,h3,h4⟩:=h;exact⟨dx,tn,ti,to,lA e h1 (by intro _ z;cases z),gf e h2,gf e h3,gf e h4⟩
theorem Q4 {H:Hp} {d D:Addr} {kvs:List (Key×V)} {o:Obj} {u:HO} (e:H d=some (.dK kvs)) (hD:(upd H d (.frz o (.dK kvs))) D=none):upd (upd (upd H d (.frz o (.dK kvs))) D u) d (.dK kvs)=upd H D u:=by
 have n:D≠d:=by rintro rfl;rw [aq] at hD;cases hD
 funext b
 by_cases h:b=d
 ·subst h;rw [aq,aG (Ne.symm n)];exact e.symm
 ·rw [aG h];unfold upd;rw [if_neg h]
theorem Ni {H:Hp} {d D:Addr} {v:HO} (hD:(upd H d v) D=none):H D=none:=by
 by_cases h:D=d
 ·subst h;rw [aq] at hD;cases hD
 ·rw [aG h] at hD;exact hD
theorem Ka {H:Hp} {a:Addr} {o:HO} (e:H a=some o):upd H a o=H:=by
 funext b
 unfold upd;split
 ·rename_i h;rw [h];exact e.symm
 ·rfl
theorem iy {κ:Type} [DecidableEq κ] {kvs:List (κ×V)} {k:κ} (h:k∉kvs.map (·.1)):b7 kvs k=none:=by
 induction kvs with
 | nil=>rfl
 | cons p r ih=>
  simp only [map_cons,mem_cons,not_or] at h;rw [gU (Ne.symm h.1)];exact ih h.2
theorem iV {κ:Type} [DecidableEq κ] {kvs:List (κ×V)} {k:κ} {v:V} (nd:(kvs.map (·.1)).Nodup) (h:(k,v)∈kvs):b7 kvs k=some v:=by
 induction kvs with
 | nil=>cases h
 | cons p r ih=>
  simp only [map_cons,nodup_cons] at nd;rcases mem_cons.mp h with h | h
  ·subst h;exact iz Z
  ·have:¬p.1=k:=λz=>nd.1 (mem_map.mpr ⟨_,h,z.symm⟩);rw [gU this];exact ih nd.2 h
noncomputable def cW (f:PD->List Str) (ps:List PD):List (Key×V):=ps.flatMap λp=>(f p).map λl=>((Sum.inr l:Key),V.str p.name)
theorem yr (f:PD->List Str) (ps:List PD):(cW f ps).map (·.1)=(ps.flatMap f).map (λl=>(Sum.inr l:Key)):=by
 induction ps with
 | nil=>rfl
 | cons p r ih=>
  unfold cW at ih ⊢;simp only [flatMap_cons,map_append,ih,map_map];rfl
theorem gY {l:List Str} (h:l.Nodup):(l.map (λx=>(Sum.inr x:Key))).Nodup:=by
 induction l with
 | nil=>exact List.nodup_nil
 | cons a r ih=>
  simp only [map_cons,nodup_cons,mem_map] at h ⊢;refine⟨?_,ih h.2⟩;rintro⟨b,hb,e⟩;cases e;exact h.1 hb
theorem jm {f:PD->List Str} {ps:List PD} (nd:(ps.flatMap f).Nodup) {p:PD} (hp:p∈ps) {l:Str} (hl:l∈f p):b7 (cW f ps) (Sum.inr l)=some (.str p.name):=
 iV (by rw [yr];exact gY nd) (mem_flatMap.mpr ⟨p,hp,mem_map.mpr ⟨l,hl,rfl⟩⟩)
theorem Ez {f:PD->List Str} {ps:List PD} {l:Str} (h:l∉ps.flatMap f):b7 (cW f ps) (Sum.inr l)=none:=iy (by rw [yr];intro z;obtain⟨b,hb,e⟩:=mem_map.mp z;cases e;exact h hb)
theorem QC (f:PD->List Str) (ps:List PD):(cW f ps).length=(ps.flatMap f).length:=by have:=congrArg List.length (yr f ps);simpa using this
theorem Do (f:PD->List Str) (ps:List PD) (p:PD):cW f (ps ++ [p])=cW f ps ++ (f p).map λl=>((Sum.inr l:Key),V.str p.name):=by unfold cW;rw [List.flatMap_append];simp
theorem O2 {α:Type} {f g:α->Bool}:∀{l:List α},(∀a∈l,g a=true->f a=true)->(∃a∈l,f a=true/\g a=false)->(l.filter g).length <(l.filter f).length
 | [],_,h=>by obtain⟨a,ha,_⟩:=h;cases ha
 | x:: r,h,h2=>by
  have le:∀r:List α,(∀a∈r,g a=true->f a=true)->(r.filter g).length<=(r.filter f).length:=λr=>by
   induction r with
   | nil=>intro _;exact le_refl _
   | cons y t ih=>
    intro q;have:=ih λa ha=>q a (mem_cons_of_mem _ ha);have q0:=q y mem_cons_self;rw [filter_cons,filter_cons];cases hg:g y
    ·simp only [Bool.false_eq_true,if_false];split
     ·rw [length_cons];lia
     ·exact this
    ·rw [q0 hg];simp only [if_true,length_cons]
     lia
  obtain⟨a,ha,hf,hg⟩:=h2;have hr:=λa ha=>h a (mem_cons_of_mem x ha);rw [filter_cons,filter_cons];rcases mem_cons.mp ha with rfl | ha
  ·rw [hf,hg];have:=le r hr;simp
   lia
  ·have ih:=O2 hr ⟨a,ha,hf,hg⟩;have q0:=h x mem_cons_self;cases hx:g x
   ·simp only [Bool.false_eq_true,if_false];split
    ·rw [length_cons];lia
    ·exact ih
   ·rw [q0 hx];simp only [if_true,length_cons]
    lia
noncomputable def il (jk:List (Key×V)) (x:Str):Bool:=(b7 jk (Sum.inr x)).isSome
noncomputable def qb (ps:List PD) (jk:List (Key×V)):Nat:=(ps.filter λp=>!il jk p.name).length
theorem KN (jk:List (Key×V)) (x y:Str) (v:V):il (putK jk (Sum.inr x) v) y=(decide (y=x) || il jk y):=by
 unfold il;rw [Ur];by_cases h:y=x
 ·subst h;simp
 ·have:¬(Sum.inr y:Key)=Sum.inr x:=λz=>h (Sum.inr.inj z);rw [if_neg this];simp [h]
theorem Le {ps:List PD} {jk jk':List (Key×V)} (h:∀x,il jk x=true->il jk' x=true) {p:PD} (hp:p∈ps) (h1:il jk p.name=false) (h2:il jk' p.name=true):qb ps jk' <qb ps jk:=by
 refine O2 (λa _ q=>?_) ⟨p,hp,by simp [h1],by simp [h2]⟩;cases hj:il jk a.name
 ·rfl
 ·rw [h _ hj] at q;cases q
theorem Qy {ps:List PD} (pm:(ps.flatMap (·.outs)).Perm (ps.flatMap (·.ins))) {l:Str} (h:l∈ps.flatMap (·.outs)):∃a∈ps,∃b∈ps,l∈a.outs/\l∈b.ins:=by obtain⟨a,ha,hl⟩:=mem_flatMap.mp h;obtain⟨b,hb,hl2⟩:=mem_flatMap.mp (pm.mem_iff.mp h);exact⟨a,ha,b,hb,hl,hl2⟩
theorem YX {ps:List PD} (no:(ps.flatMap (·.outs)).Nodup) (ni:(ps.flatMap (·.ins)).Nodup) (pm:(ps.flatMap (·.outs)).Perm (ps.flatMap (·.ins))) {jk:List (Key×V)} (hang:∃y,∀q∈ps,∃x∈q.ins ++ q.outs,Drawn.jC ps x y)
  (cl:∀a∈ps,∀b∈ps,∀l,l∈a.outs->l∈b.ins->il jk a.name=il jk b.name) {p0:PD} (hp0:p0∈ps) (h0:il jk p0.name=true):∀q∈ps,il jk q.name=true:=by
 obtain⟨y,hy⟩:=hang;refine Drawn.Nu (J:=λp=>il jk p.name=true) (λl p q hp hq hlp hlq hJ=>?_) hy hp0 h0;have same:∀{f:PD->List Str},(ps.flatMap f).Nodup->∀{a b:PD},a∈ps->b∈ps->l∈f a->l∈f b->a.name=b.name:=λ{f} nd {a b} ha hb h1 h2=>by obtain⟨i,hi,ei⟩:=mem_iff_getElem.mp ha;obtain⟨j,hj,ej⟩:=mem_iff_getElem.mp hb;have:=Drawn.Q5 f nd (i:=i) (j:=j) (p:=a) (q:=b) (l:=l) (by rw [getElem?_eq_getElem hi,ei]) (by rw [getElem?_eq_getElem hj,ej]) h1 h2;subst this;rw [<-ei,<-ej]
 have hl:l∈ps.flatMap (·.outs):=by
  rcases mem_append.mp hlp with h | h
  ·exact pm.mem_iff.mpr (mem_flatMap.mpr ⟨p,hp,h⟩)
  ·exact mem_flatMap.mpr ⟨p,hp,h⟩
 obtain⟨a,ha,b,hb,la,lb⟩:=Qy pm hl;have e:=cl a ha b hb l la lb;have np:p.name=a.name∨p.name=b.name:=(mem_append.mp hlp).elim (λh=>.inr (same ni hp hb h lb)) λh=>.inl (same no hp ha h la);have nq:q.name=a.name∨q.name=b.name:=(mem_append.mp hlq).elim (λh=>.inr (same ni hq hb h lb)) λh=>.inl (same no hq ha h la);show il jk q.name=true;change il jk p.name=true at hJ;rcases np with np | np <;> rcases nq with nq | nq <;> rw [np] at hJ <;> rw [nq]
 ·exact hJ
 ·rw [<-e];exact hJ
 ·rw [e];exact hJ
 ·exact hJ
theorem Ib {z:Str} (h:nameB z=true):z.length<=100:=by
 unfold nameB at h;rw [<-pA];split at h
 ·simp_all
 ·rename_i e;rw [e];simp only [and_eq_true,decide_eq_true_eq] at h;rw [length_cons]
  lia
structure Ma (ls:List aJ) (ps:List PD):Prop where
 lok:∀l∈ls,1<=l.room/\l.room<=199/\(l.first.length:Int)<=l.room/\∀v∈l.first,0<=v/\v <1000000000
 pok:∀p∈ps,vY p
 lnm:∀l∈ls,nameB l.name=true
 pnm:∀p∈ps,nameB p.name=true
 pnd:(ps.map (·.name)).Nodup
 whole:Hm (ls.map (·.name)) ps
 l1:1<=ls.length
 l24:ls.length<=24
 p1:1<=ps.length
 p16:ps.length<=16
theorem Dk {c:Int} {n:Nat} (hn:n<=26) {x:Str} (h:x∈(List.range n).map (cU c)):∃k,k <n/\x=cU c k:=by obtain⟨k,hk,rfl⟩:=mem_map.mp h;exact⟨k,mem_range.mp hk,Z⟩
theorem Q7.fit {c3 c4:Int} {ls:List aJ} {ps:List PD} (h:Q7 c3 c4 ls ps):Ma ls ps:=by
 have a:=h.l17;have b:=h.p16;refine⟨λl hl=>?_,h.pok,λl hl=>?_,λp hp=>?_,?_,h.whole,h.l1,by lia,h.p1,h.p16⟩
 ·obtain⟨x1,x2,x3,x4⟩:=h.lok l hl;exact⟨x1,by lia,x3,x4⟩
 ·obtain⟨k,hk,e⟩:=Dk (c:=c3) (n:=ls.length) (by lia) (by rw [<-h.ln];exact mem_map.mpr ⟨l,hl,rfl⟩);rw [e];exact PP _ (by lia)
 ·obtain⟨k,hk,e⟩:=Dk (c:=c4) (n:=ps.length) (by lia) (h.pn.mem_iff.mpr (mem_map.mpr ⟨p,hp,rfl⟩));rw [e];exact PP _ (by lia)
 ·exact h.pn.nodup_iff.mp (BJ _ (by lia))
theorem Q7.lane20 {c3 c4:Int} {ls:List aJ} {ps:List PD} (h:Q7 c3 c4 ls ps):cU c3 20∉ls.map (·.name):=λz=>by
 have a:=h.l17;rw [h.ln] at z;obtain⟨k,hk,e⟩:=Dk (by lia) z;have:=Mj _ (by lia) (by lia) e
 lia
noncomputable def fH (ls:List aJ):List (Key×V):=ls.map λl=>((Sum.inr l.name:Key),V.int l.room)
noncomputable def bO (FL:List (aJ×Addr)):List (Key×V):=FL.map λq=>((Sum.inr q.1.name:Key),V.ref q.2)
noncomputable def eU (PL:List (PD×Addr)):List (Key×V):=PL.map λq=>((Sum.inr q.1.name:Key),V.ref q.2)
theorem vm (ls:List aJ):(fH ls).map (·.1)=(ls.map (·.name)).map (λx=>(Sum.inr x:Key)):=by unfold fH;rw [map_map,map_map];rfl
theorem ue (FL:List (aJ×Addr)):(bO FL).map (·.1)=((FL.map (·.1)).map (·.name)).map (λx=>(Sum.inr x:Key)):=by unfold bO;rw [map_map,map_map,map_map];rfl
theorem Cr (PL:List (PD×Addr)):(eU PL).map (·.1)=((PL.map (·.1)).map (·.name)).map (λx=>(Sum.inr x:Key)):=by unfold eU;rw [map_map,map_map,map_map];rfl
structure wX (K:Fr) (t:jr) (H:Hp) (n:Addr) (ls:List aJ) (ps:List PD) (dx:Addr) (fs:List (Str×V)) (R F Pd G Tk:Addr) (FL:List (aJ×Addr)) (PL:List (PD×Addr)):Prop where
 obj:H n=some (.ins t.dH dx fs)
 fl:VD ["lane_names", "part_names", "names_of_kind", "gives", "takes", "need_lane_name", "room_of", "first_of", "part_of", "__init__"] [("rooms",.ref R),("firsts",.ref F),("parts",.ref Pd),("givers",.ref G),("takers",.ref Tk)] fs
 rooms:H R=some (.dK (fH ls))
 firsts:H F=some (.dK (bO FL))
 parts:H Pd=some (.dK (eU PL))
 givers:H G=some (.dK (cW (·.outs) ps))
 takers:H Tk=some (.dK (cW (·.ins) ps))
 fls:FL.map (·.1)=ls
 pls:PL.map (·.1)=ps
 tups:∀q∈FL,gq K H q.2 (q.1.first.map V.int)
 pats:∀q∈PL,fO K t H q.2 q.1.kind (.str q.1.name) (q.1.nums.map V.int) (q.1.ins.map V.str) (q.1.outs.map V.str)
 fit:Ma ls ps
 neRF:R≠F
inductive fV (K:Fr) (t:jr) (H:Hp) (n:Addr) (ls:List aJ) (ps:List PD):Prop where
 | mk:∀dx fs R F Pd G Tk FL PL,wX K t H n ls ps dx fs R F Pd G Tk FL PL->fV K t H n ls ps
section
variable {H H':Hp} {n dx R F Pd G Tk:Addr} {ls:List aJ} {ps:List PD} {fs:List (Str×V)} {FL:List (aJ×Addr)} {PL:List (PD×Addr)}
theorem wX.same (N:wX K t H n ls ps dx fs R F Pd G Tk FL PL) (s:aK H H'):wX K t H' n ls ps dx fs R F Pd G Tk FL PL:=
 ⟨s _ _ N.obj,N.fl,s _ _ N.rooms,s _ _ N.firsts,s _ _ N.parts,s _ _ N.givers,s _ _ N.takers,N.fls,N.pls,λq hq=>s.seqT (N.tups q hq),λq hq=>(N.pats q hq).same s,N.fit,N.neRF⟩
theorem fV.same (N:fV K t H n ls ps) (s:aK H H'):fV K t H' n ls ps:=by obtain⟨dx,fs,R,F,Pd,G,Tk,FL,PL,N⟩:=N;exact⟨dx,fs,R,F,Pd,G,Tk,FL,PL,N.same s⟩
theorem wX.s (N:wX K t H n ls ps dx fs R F Pd G Tk FL PL):fV K t H n ls ps:=⟨dx,fs,R,F,Pd,G,Tk,FL,PL,N⟩
theorem wX.room (N:wX K t H n ls ps dx fs R F Pd G Tk FL PL) {l:aJ} (hl:l∈ls):b7 (fH ls) (Sum.inr l.name)=some (.int l.room):=
 iV (by rw [vm];exact gY N.fit.whole.nod) (mem_map.mpr ⟨l,hl,rfl⟩)
theorem wX.firstV (N:wX K t H n ls ps dx fs R F Pd G Tk FL PL) {q:aJ×Addr} (hq:q∈FL):b7 (bO FL) (Sum.inr q.1.name)=some (.ref q.2):=
 iV (by rw [ue,N.fls];exact gY N.fit.whole.nod) (mem_map.mpr ⟨q,hq,rfl⟩)
theorem wX.partV (N:wX K t H n ls ps dx fs R F Pd G Tk FL PL) {q:PD×Addr} (hq:q∈PL):b7 (eU PL) (Sum.inr q.1.name)=some (.ref q.2):=
 iV (by rw [Cr,N.pls];exact gY N.fit.pnd) (mem_map.mpr ⟨q,hq,rfl⟩)
theorem wX.ono (N:wX K t H n ls ps dx fs R F Pd G Tk FL PL):(ps.flatMap (·.outs)).Nodup:=N.fit.whole.outs.nodup_iff.mpr N.fit.whole.nod
theorem wX.ini (N:wX K t H n ls ps dx fs R F Pd G Tk FL PL):(ps.flatMap (·.ins)).Nodup:=N.fit.whole.ins.nodup_iff.mpr N.fit.whole.nod
end
theorem Ko {α:Type} {f:α->Str} {xs:List α} {x:Str}:inV (.str x) (xs.map λp=>V.str (f p))=decide (x∈xs.map f):=by
 rw [Bool.eq_iff_iff];unfold inV;rw [any_eq_true,decide_eq_true_eq];constructor
 ·rintro⟨v,hv,e⟩;obtain⟨p,hp,rfl⟩:=mem_map.mp hv;exact mem_map.mpr ⟨p,hp,by simpa [MK] using e⟩
 ·intro h;obtain⟨p,hp,rfl⟩:=mem_map.mp h;exact⟨.str (f p),mem_map.mpr ⟨p,hp,Z⟩,by simp [MK]⟩
theorem raised {H:Hp} {x C dx:Addr} {fs:List (Str×V)} (nx:H x=none) (nd:(upd H x (xj x C)) dx=none) (ne:dx≠x):
  aK H (del (upd (upd (upd H x (xj x C)) x (CN x C dx)) dx (.xd fs)) x)/\(del (upd (upd (upd H x (xj x C)) x (CN x C dx)) dx (.xd fs)) x) dx=some (.xd fs):=by
 constructor
 ·intro b o e;have b1:b≠x:=aC e nx;have b2:b≠dx:=aC e (by rw [aG ne] at nd;exact nd);rw [Eg b1,aG b2,aG b1,aG b1];exact e
 ·rw [Eg ne];exact aq
noncomputable def bM (ps:List PD) (x:Str):List V:=(ps.filter λp=>decide (cL p.kind=x)).map λp=>V.str p.name
theorem Ip (ps:List PD) (x:Str) (p:PD):bM (ps ++ [p]) x=if cL p.kind=x then bM ps x ++ [V.str p.name] else bM ps x:=by
 unfold bM;rw [filter_append,map_append];by_cases h:cL p.kind=x
 ·rw [if_pos h];simp [h]
 ·rw [if_neg h];simp [h]
theorem yS (ps:List PD) (x:Str):(bM ps x).length<=ps.length:=by unfold bM;rw [lM];exact length_filter_le _ _
noncomputable def aa6 (p:PD):Bool:=decide (cL p.kind= "choose") || decide (cL p.kind= "split")
noncomputable def oddN (ps:List PD):V:=match ps.find? aa6 with
 | some p=>.str p.name
 | none=>.non
inductive LC (K:Fr) (H:Hp) (v:V) (l:aJ):Prop where
 | mk:∀q f,v=.ref q->H q=some (.tup [.str l.name,.int l.room,.ref f])->gq K H f (l.first.map V.int)->LC K H v l
inductive Rj (K:Fr) (H:Hp) (v:V) (p:PD):Prop where
 | mk:∀q a1 a2 a3,v=.ref q->H q=some (.tup [.str (cL p.kind),.str p.name,.ref a1,.ref a2,.ref a3])->gq K H a1 (p.nums.map V.int)->gq K H a2 (p.ins.map V.str)->gq K H a3 (p.outs.map V.str)->Rj K H v p
theorem LC.same {H H':Hp} {v:V} {l:aJ} (h:LC K H v l) (s:aK H H'):LC K H' v l:=by obtain⟨q,f,e,h1,h2⟩:=h;exact⟨q,f,e,s _ _ h1,s.seqT h2⟩
theorem Rj.same {H H':Hp} {v:V} {p:PD} (h:Rj K H v p) (s:aK H H'):Rj K H' v p:=by obtain⟨q,a1,a2,a3,e,h1,h2,h3,h4⟩:=h;exact⟨q,a1,a2,a3,e,s _ _ h1,s.seqT h2,s.seqT h3,s.seqT h4⟩
structure Nz (K:Fr) (H:Hp) (T a b:Addr) (ls:List aJ) (ps:List PD):Prop where
 tup:H T=some (.tup [.ref a,.ref b])
 lanes:∃xs,H a=some (.lst xs)/\jN (LC K H) xs ls
 parts:∃xs,H b=some (.lst xs)/\jN (Rj K H) xs ps
theorem Nz.same {H H':Hp} {T a b:Addr} {ls:List aJ} {ps:List PD} (h:Nz K H T a b ls ps) (s:aK H H'):Nz K H' T a b ls ps:=by obtain⟨h1,⟨xs,e1,a1⟩,⟨ys,e2,a2⟩⟩:=h;exact⟨s _ _ h1,⟨xs,s _ _ e1,a1.imp λ_ _ h=>h.same s⟩,⟨ys,s _ _ e2,a2.imp λ_ _ h=>h.same s⟩⟩
structure Tr (H:Hp) (f:Addr) (L:List (Addr×HO)) (Hk:Hp):Prop where
 but:jz f H Hk
 all:∀p∈L,Hk p.1=some p.2
 fre:∀p∈L,p.1=f∨H p.1=none
 nod:(L.map Prod.fst).Nodup
 obj:∃o,(f,o)∈L
theorem Tr.free {H Hk:Hp} {f x:Addr} {L:List (Addr×HO)} (T:Tr H f L Hk) (nx:Hk x=none):H x=none:=by
 cases e:H x with
 | none=>rfl
 | some o=>
  by_cases h:x=f
  ·obtain⟨u,hu⟩:=T.obj;have:=T.all _ hu;rw [h] at nx;rw [nx] at this;cases this
  ·rw [T.but x o h e] at nx;cases nx
theorem Tr.new {H Hk:Hp} {f x:Addr} {L:List (Addr×HO)} {o:HO} (T:Tr H f L Hk) (nx:Hk x=none):Tr H f (L ++ [(x,o)]) (upd Hk x o):=by
 have hne:∀p∈L,p.1≠x:=λp hp z=>by have:=T.all p hp;rw [z,nx] at this;cases this
 have hx:=T.free nx;refine⟨λb u n e=>by rw [aG (aC e hx)];exact T.but b u n e,λp hp=>?_,λp hp=>?_,?_,?_⟩
 ·rcases mem_append.mp hp with h | h
  ·rw [aG (hne p h)];exact T.all p h
  ·rw [mem_singleton] at h;subst h;exact aq
 ·rcases mem_append.mp hp with h | h
  ·exact T.fre p h
  ·rw [mem_singleton] at h;subst h;exact .inr hx
 ·rw [map_append,nodup_append];refine⟨T.nod,by simp,λa ha b hb=>?_⟩;obtain⟨p,hp,rfl⟩:=mem_map.mp ha;simp at hb;subst hb;exact hne p hp
 ·obtain⟨u,hu⟩:=T.obj;exact⟨u,mem_append.mpr (.inl hu)⟩
theorem Tr.same {H Hk Hk':Hp} {f:Addr} {L:List (Addr×HO)} (T:Tr H f L Hk) (s:aK Hk Hk'):Tr H f L Hk':=
 ⟨λb u n e=>s _ _ (T.but b u n e),λp hp=>s _ _ (T.all p hp),T.fre,T.nod,T.obj⟩
theorem Tr.put {H Hk:Hp} {f x:Addr} {o o':HO} {L1 L2:List (Addr×HO)} (T:Tr H f (L1 ++ (x,o):: L2) Hk):Tr H f (L1 ++ (x,o'):: L2) (upd Hk x o'):=by
 have hx:x=f∨H x=none:=T.fre (x,o) (by simp);have nd:=T.nod;rw [map_append,map_cons,nodup_append] at nd;obtain⟨n1,n2,n3⟩:=nd;rw [nodup_cons] at n2;refine⟨λb u n e=>?_,λp hp=>?_,λp hp=>?_,?_,?_⟩
 ·have:b≠x:=by
   rcases hx with rfl | hx
   ·exact n
   ·exact aC e hx
  rw [aG this];exact T.but b u n e
 ·rcases mem_append.mp hp with h | h
  ·have:p.1≠x:=n3 p.1 (mem_map.mpr ⟨p,h,rfl⟩) x (by simp);rw [aG this];exact T.all p (by simp [h])
  ·rcases mem_cons.mp h with rfl | h
   ·exact aq
   ·have:p.1≠x:=λz=>n2.1 (by rw [<-z];exact mem_map.mpr ⟨p,h,rfl⟩);rw [aG this];exact T.all p (by simp [h])
 ·rcases mem_append.mp hp with h | h
  ·exact T.fre p (by simp [h])
  ·rcases mem_cons.mp h with rfl | h
   ·exact hx
   ·exact T.fre p (by simp [h])
 ·have:=T.nod;rw [map_append,map_cons] at this ⊢;exact this
 ·obtain⟨u,hu⟩:=T.obj;rcases mem_append.mp hu with h | h
  ·exact⟨u,by simp [h]⟩
  ·rcases mem_cons.mp h with h | h
   ·cases h;exact⟨o',by simp⟩
   ·exact⟨u,by simp [h]⟩
theorem Tr.start {H:Hp} {f:Addr} {o:HO} (e:H f=some o):Tr H f [(f,o)] H:=⟨jz.refl _,λp hp=>by rw [mem_singleton] at hp;subst hp;exact e,λp hp=>by rw [mem_singleton] at hp;subst hp;exact .inl rfl,by simp,o,by simp⟩
inductive Xk (K:Fr) (H:Hp) (v:V) (l:aJ):Prop where
 | mk:∀q f,v=.ref q->H q=some (.tup [.str l.name,.int l.room,.ref f])->zG K H f (l.first.map V.int)->Xk K H v l
inductive aab (K:Fr) (H:Hp) (v:V) (p:PD):Prop where
 | mk:∀q a1 a2 a3,v=.ref q->H q=some (.tup [.str (cL p.kind),.str p.name,.ref a1,.ref a2,.ref a3])->zG K H a1 (p.nums.map V.int)->zG K H a2 (p.ins.map V.str)->zG K H a3 (p.outs.map V.str)->aab K H v p
structure Hand (K:Fr) (H:Hp) (Ll Lp:Addr) (ls:List aJ) (ps:List PD):Prop where
 ll:∃xs,bK K H Ll xs/\jN (Xk K H) xs ls
 lp:∃xs,bK K H Lp xs/\jN (aab K H) xs ps
theorem pH {α:Type} {f:α->Str} {xs:List α} (nd:(xs.map f).Nodup) {j:Nat} {x:α} (h:xs[j]?=some x):f x∉(xs.take j).map f:=λhm=>by
 have hj:=(List.getElem?_eq_some_iff.mp h).1;have e:xs[j]=x:=(List.getElem?_eq_some_iff.mp h).2;rw [List.map_take] at hm;obtain⟨i,hi,ei⟩:=mem_iff_getElem.mp hm;rw [length_take,lM] at hi;rw [List.getElem_take] at ei;have e2:(xs.map f)[j]'(by rw [lM];exact hj)=f x:=by rw [List.getElem_map,e]
 have:=(getElem_inj nd).mp (ei.trans e2.symm)
 lia
theorem O1 {f:PD->List Str} {ps:List PD} (nd:(ps.flatMap f).Nodup) {j:Nat} {p:PD} (h:ps[j]?=some p):(f p).Nodup/\∀z∈f p,z∉(ps.take j).flatMap f:=by
 have hj:=(List.getElem?_eq_some_iff.mp h).1;have e:ps[j]=p:=(List.getElem?_eq_some_iff.mp h).2;have e2:ps=ps.take j ++ p:: ps.drop (j+1):=by rw [<-e,<-List.drop_eq_getElem_cons hj,take_append_drop]
 rw [e2,List.flatMap_append,flatMap_cons,nodup_append] at nd;obtain⟨n1,n2,n3⟩:=nd;rw [nodup_append] at n2;exact⟨n2.1,λz hz hm=>n3 z hm z (mem_append.mpr (.inl hz)) Z⟩
theorem K1 (xs:List V) (g:Nat):vI xs (some (g:Int)) none=xs.drop g:=by
 unfold vI;rw [HT.z6,HT.wC,<-length_drop,take_length];rcases le_total g xs.length with h | h
 ·rw [Nat.min_eq_left h]
 ·rw [Nat.min_eq_right h,List.drop_eq_nil_of_le h,List.drop_eq_nil_of_le (le_refl _)]
structure nC (K:Fr) (t:jr) (H:Hp) (f n E G Kp D Rw:Addr):Prop where
 ex:∃dx fs,H f=some (.ins t.cg dx fs)/\VD ["holds", "held_now", "gone_by", "row_left", "head", "heads", "lacking", "row_ended", "deed", "do"] [("net",.ref n),("ever",.ref E),("gone",.ref G),("kept",.ref Kp),("done",.ref D),("rows",.ref Rw)] fs
theorem nC.same {H H':Hp} {f n E G Kp D Rw:Addr} (h:nC K t H f n E G Kp D Rw) (s:aK H H'):nC K t H' f n E G Kp D Rw:=by obtain⟨dx,fs,h1,h2⟩:=h;exact⟨dx,fs,s _ _ h1,h2⟩
noncomputable def jD (i:Nat) (xs:List Str) (hs:List V):V:=match (places i hs).find? (yJ hs) with
 | some q=>((xs[q]?).map V.str).getD .non
 | none=>.non
theorem zy {H:Hp}:∀{rs:List Addr} {vss:List (List V)} {j:Nat} {r:Addr},jA H rs vss->rs[j]?=some r->∃vs,vss[j]?=some vs/\H r=some (.tup vs)
 | _,_,_,_,.nil,e=>by simp at e
 | _,_,0,_,.cons h _,e=>by simp at e;subst e;exact⟨_,rfl,h⟩
 | _,_,j+1,_,.cons _ t,e=>by obtain⟨vs,h1,h2⟩:=zy (j:=j) t (by simpa using e);exact⟨vs,by simpa using h1,h2⟩
theorem places_len {i:Nat} {hs:List V} (h:zA i hs):(places i hs).length<=3:=by
 have h3:=G9 i;have h1:=h.1;unfold places;by_cases hi:i=9
 ·rw [if_pos hi];split <;> simp
 ·rw [if_neg hi,length_range]
  lia
theorem Tr.got {H Hk Hk':Hp} {f x:Addr} {L:List (Addr×HO)} {o:HO} (T:Tr H f L Hk) (s:aK Hk Hk') (nx:Hk x=none) (ex:Hk' x=some o):Tr H f (L ++ [(x,o)]) Hk':=by
 have T':=T.same s;have hx:=T.free nx;refine⟨T'.but,λp hp=>?_,λp hp=>?_,?_,?_⟩
 ·rcases mem_append.mp hp with h | h
  ·exact T'.all p h
  ·rw [mem_singleton] at h;subst h;exact ex
 ·rcases mem_append.mp hp with h | h
  ·exact T.fre p h
  ·rw [mem_singleton] at h;subst h;exact .inr hx
 ·rw [map_append,nodup_append];refine⟨T.nod,by simp,λa ha b hb z=>?_⟩;obtain⟨p,hp,rfl⟩:=mem_map.mp ha;simp at hb;have:=T.all p hp;rw [z,hb,nx] at this;cases this
 ·obtain⟨u,hu⟩:=T.obj;exact⟨u,mem_append.mpr (.inl hu)⟩
theorem Ho {α:Type} {a b c d e f g x:α} {M:List α} (h:x∈M):x∈a:: b:: c:: d:: e:: f:: g:: M:=by simp [h]
theorem Tr.perm {H Hk:Hp} {f:Addr} {L L':List (Addr×HO)} (T:Tr H f L Hk) (h:L.Perm L'):Tr H f L' Hk:=
 ⟨T.but,λp hp=>T.all p (h.mem_iff.mpr hp),λp hp=>T.fre p (h.mem_iff.mpr hp),(h.map _).nodup_iff.mp T.nod,by obtain⟨o,ho⟩:=T.obj;exact⟨o,h.mem_iff.mp ho⟩⟩
theorem Tr.sub {H Hk:Hp} {f:Addr} {L L':List (Addr×HO)} (T:Tr H f L Hk) (h:L'.Sublist L) (hf:∃o,(f,o)∈L'):Tr H f L' Hk:=
 ⟨T.but,λp hp=>T.all p (h.subset hp),λp hp=>T.fre p (h.subset hp),T.nod.sublist (h.map _),hf⟩
noncomputable def kZ (EL:List (aJ×Addr)):List (Addr×HO):=EL.map λq=>(q.2,HO.lst (q.1.first.map V.int))
noncomputable def dm (g:Str->Nat) (ls:List aJ):List (Key×V):=ls.map λl=>((Sum.inr l.name:Key),V.int (g l.name:Nat))
noncomputable def cu (k:Str->Int) (ps:List PD):List (Key×V):=ps.map λp=>((Sum.inr p.name:Key),V.int (k p.name))
theorem Eo (g:Str->Nat) (ls:List aJ):(dm g ls).map (·.1)=(ls.map (·.name)).map (λx=>(Sum.inr x:Key)):=by unfold dm;rw [map_map,map_map];rfl
theorem EY (k:Str->Int) (ps:List PD):(cu k ps).map (·.1)=(ps.map (·.name)).map (λx=>(Sum.inr x:Key)):=by unfold cu;rw [map_map,map_map];rfl
noncomputable def gH (ps:List PD) (x:Str):Int:=((ps.find? λp=>decide (p.name=x)).map λp=>if p.kind=5 then p.nums.headD 0 else 0).getD 0
noncomputable def J3 (p:PD):Int:=if p.kind=5 then p.nums.headD 0 else 0
theorem find_name {α:Type} {f:α->Str}:∀{ls:List α} (_:(ls.map f).Nodup) {l:α} (_:l∈ls),ls.find? (λx=>decide (f x=f l))=some l
 | a:: r,nd,l,hl=>by
  rw [map_cons,nodup_cons] at nd;rcases mem_cons.mp hl with rfl | h
  ·rw [find?_cons_of_pos (by simp)]
  ·have:¬f a=f l:=λz=>nd.1 (by rw [z];exact mem_map.mpr ⟨l,h,rfl⟩);rw [find?_cons_of_neg (by simp [this])];exact find_name nd.2 h
theorem Ma.inL {ls:List aJ} {ps:List PD} (F:Ma ls ps) {p:PD} (hp:p∈ps) {x:Str} (hx:x∈p.ins ++ p.outs):∃l∈ls,l.name=x:=by
 rcases mem_append.mp hx with h | h
 ·exact mem_map.mp (F.whole.ins.mem_iff.mp (mem_flatMap.mpr ⟨p,hp,h⟩))
 ·exact mem_map.mp (F.whole.outs.mem_iff.mp (mem_flatMap.mpr ⟨p,hp,h⟩))
theorem Od {α β:Type} {f:α->β}:∀{l:List α},(l.map f).Nodup->∀{a b:α},a∈l->b∈l->f a=f b->a=b
 | x:: r,nd,a,b,ha,hb,e=>by
  rw [map_cons,nodup_cons] at nd;rcases mem_cons.mp ha with h1 | h1
  ·rcases mem_cons.mp hb with h2 | h2
   ·rw [h1,h2]
   ·exact absurd (mem_map.mpr ⟨b,h2,by rw [<-e,h1]⟩) nd.1
  ·rcases mem_cons.mp hb with h2 | h2
   ·exact absurd (mem_map.mpr ⟨a,h1,by rw [e,h2]⟩) nd.1
   ·exact Od nd.2 h1 h2 e
noncomputable def Xy:V->Int
 | .int n=>n
 | _=>0
structure FS where
 ev:Str->List Int
 g:Str->Nat
 k:Str->Int
 d:Str->Nat
 r:Str->List Int
structure mU where
 (f n E G Kp D Rw:Addr)
 (ea ra:Str->Addr)
noncomputable def jM (ps:List PD):List PD:=ps.filter λp=>decide (p.kind=0)
noncomputable def Vf (ea:Str->Addr) (ls:List aJ):List (Key×V):=ls.map λl=>((Sum.inr l.name:Key),V.ref (ea l.name))
noncomputable def Cy (ra:Str->Addr) (ps:List PD):List (Key×V):=(jM ps).map λp=>((Sum.inr p.name:Key),V.ref (ra p.name))
noncomputable def mU.cells (A:mU) (ls:List aJ) (ps:List PD):List Addr:=A.E:: A.G:: A.Kp:: A.D:: A.Rw:: (ls.map (λl=>A.ea l.name) ++ (jM ps).map (λp=>A.ra p.name))
structure dO (K:Fr) (t:jr) (H:Hp) (A:mU) (ls:List aJ) (ps:List PD) (S:FS):Prop where
 at':nC K t H A.f A.n A.E A.G A.Kp A.D A.Rw
 ever:H A.E=some (.dK (Vf A.ea ls))
 lists:∀l∈ls,H (A.ea l.name)=some (.lst ((S.ev l.name).map V.int))
 gone:H A.G=some (.dK (dm S.g ls))
 kept:H A.Kp=some (.dK (cu S.k ps))
 done:H A.D=some (.dK (cu (λx=>(S.d x:Int)) ps))
 rows:H A.Rw=some (.dK (Cy A.ra ps))
 rlst:∀p∈ps,p.kind=0->H (A.ra p.name)=some (.lst ((S.r p.name).map V.int))
 nod:(A.cells ls ps).Nodup
theorem dO.same {H H':Hp} {A:mU} {ls:List aJ} {ps:List PD} {S:FS} (h:dO K t H A ls ps S) (s:aK H H'):dO K t H' A ls ps S:=
 ⟨h.at'.same s,s _ _ h.ever,λl hl=>s _ _ (h.lists l hl),s _ _ h.gone,s _ _ h.kept,s _ _ h.done,s _ _ h.rows,λp hp h0=>s _ _ (h.rlst p hp h0),h.nod⟩
structure Mw (b:Nat) (ls:List aJ) (ps:List PD) (S:FS):Prop where
 vb:∀l∈ls,∀v∈S.ev l.name,0<=v/\v <1000000000
 rb:∀p∈ps,p.kind=0->∀v∈S.r p.name,0<=v/\v <1000000000
 dl:∀p∈ps,p.kind=0->S.d p.name<=(S.r p.name).length
 len:∀l∈ls,(S.ev l.name).length<=b
 rl:∀p∈ps,p.kind=0->(S.r p.name).length<=300
theorem UL (ea:Str->Addr) (ls:List aJ):(Vf ea ls).map (·.1)=(ls.map (·.name)).map (λx=>(Sum.inr x:Key)):=by unfold Vf;rw [map_map,map_map];rfl
theorem tY {ea:Str->Addr} {ls:List aJ} (nd:(ls.map (·.name)).Nodup) {l:aJ} (hl:l∈ls):b7 (Vf ea ls) (Sum.inr l.name)=some (.ref (ea l.name)):=
 iV (by rw [UL];exact gY nd) (mem_map.mpr ⟨l,hl,rfl⟩)
theorem pB {g:Str->Nat} {ls:List aJ} (nd:(ls.map (·.name)).Nodup) {l:aJ} (hl:l∈ls):b7 (dm g ls) (Sum.inr l.name)=some (.int (g l.name:Nat)):=
 iV (by rw [Eo];exact gY nd) (mem_map.mpr ⟨l,hl,rfl⟩)
theorem sV {k:Str->Int} {ps:List PD} (nd:(ps.map (·.name)).Nodup) {p:PD} (hp:p∈ps):b7 (cu k ps) (Sum.inr p.name)=some (.int (k p.name)):=
 iV (by rw [EY];exact gY nd) (mem_map.mpr ⟨p,hp,rfl⟩)
theorem HQ (ra:Str->Addr) (ps:List PD):(Cy ra ps).map (·.1)=((jM ps).map (·.name)).map (λx=>(Sum.inr x:Key)):=by unfold Cy;rw [map_map,map_map];rfl
theorem Jz {ps:List PD} (nd:(ps.map (·.name)).Nodup):((jM ps).map (·.name)).Nodup:=nd.sublist (List.filter_sublist.map _)
theorem yR {ra:Str->Addr} {ps:List PD} (nd:(ps.map (·.name)).Nodup) {p:PD} (hp:p∈ps) (h0:p.kind=0):b7 (Cy ra ps) (Sum.inr p.name)=some (.ref (ra p.name)):=
 iV (by rw [HQ];exact gY (Jz nd)) (mem_map.mpr ⟨p,mem_filter.mpr ⟨hp,by simp [h0]⟩,rfl⟩)
theorem O5 {ra:Str->Addr} {ps:List PD} (nd:(ps.map (·.name)).Nodup) {p:PD} (hp:p∈ps) (h0:p.kind≠0):b7 (Cy ra ps) (Sum.inr p.name)=none:=by refine iy ?_;rw [HQ];intro z;obtain⟨b,hb,e⟩:=mem_map.mp z;cases e;obtain⟨p',hp',en⟩:=mem_map.mp hb;have hf:=mem_filter.mp hp';have a1:=find_name nd hf.1;have a2:=find_name nd hp;rw [en] at a1;rw [a1] at a2;cases a2;exact h0 (by simpa using hf.2)
noncomputable def ql (S:FS) (x:Str):V:=(((S.ev x)[S.g x]?).map V.int).getD .non
noncomputable def bJ (S:FS) (p:PD):List V:=p.ins.map (ql S)
structure mQ where
 tk:List Str
 gv:List (Str×Int)
 kv:Int
noncomputable def strAt (xs:List Str) (q:Nat):Str:=(xs[q]?).getD Str.empty
noncomputable def HR (S:FS) (p:PD):List Int:=if p.kind=0 then((S.r p.name)[S.d p.name]?).toList else(places p.kind (bJ S p)).map λq=>Xy (((bJ S p)[q]?).getD .non)
noncomputable def Kz (S:FS) (p:PD):Bool:=decide (p.kind=0) && decide (S.d p.name=(S.r p.name).length)
noncomputable def pJ (S:FS) (p:PD):Option mQ:=if jD p.kind p.ins (bJ S p)≠.non then none else if Kz S p=true then none else
 some ⟨(places p.kind (bJ S p)).map (strAt p.ins),(cZ p.kind p.nums (HR S p) (S.k p.name)).map λpv=>(strAt p.outs pv.1.toNat,pv.2),iu p.kind (HR S p) (S.k p.name)⟩
inductive oH (M:List Addr) (H:Hp) (U:Addr) (dd:mQ):Prop where
 | mk:∀La Lg rs,H U=some (.tup [.ref La,.ref Lg,.int dd.kv])->H La=some (.lst (dd.tk.map V.str))->H Lg=some (.lst (rs.map V.ref))->(jA H rs (dd.gv.map λq=>[.str q.1,.int q.2]))->La∉M->Lg∉M->oH M H U dd
theorem oH.same {M:List Addr} {H H':Hp} {U:Addr} {dd:mQ} (h:oH M H U dd) (s:aK H H'):oH M H' U dd:=by obtain⟨La,Lg,rs,a,b,c,d,e,f⟩:=h;exact⟨La,Lg,rs,s _ _ a,s _ _ b,s _ _ c,jA.same s d,e,f⟩
theorem uP (S:FS) (p:PD) (h:vY p):zA p.kind (bJ S p):=by
 refine⟨by unfold bJ;rw [lM];exact h.2.2.1,λv hv=>?_⟩;obtain⟨x,_,rfl⟩:=mem_map.mp hv;unfold ql;cases (S.ev x)[S.g x]? with
 | none=>exact .inl rfl
 | some n=>exact .inr ⟨n,rfl⟩
theorem dO.cell {H:Hp} {A:mU} {ls:List aJ} {ps:List PD} {S:FS} (h:dO K t H A ls ps S) {a:Addr} (ha:H a=none):a∉A.cells ls ps:=by
 intro z;have no:∀{b:Addr} {u:HO},H b=some u->a=b->False:=λe q=>by rw [<-q,ha] at e;cases e
 unfold mU.cells at z;simp only [mem_cons,mem_append,mem_map] at z;rcases z with z | z | z | z | z | ⟨l,hl,z⟩ | ⟨p,hp,z⟩
 ·exact no h.ever z
 ·exact no h.gone z
 ·exact no h.kept z
 ·exact no h.done z
 ·exact no h.rows z
 ·exact no (h.lists l hl) z.symm
 ·have hf:=mem_filter.mp hp;exact no (h.rlst p hf.1 (by simpa using hf.2)) z.symm
noncomputable def oZ (t:jr) (H:Hp) (r n f:Addr) (k:Nat):Prop:=∃dx fs,(H r=some (.ins t.mK dx fs)/\fs.length<=k+3)/\VD ["step", "need_doors", "next_deed", "full_lane", "can_work", "works", "lane_now", "turn", "rows_left", "had", "taken"] [("net",.ref n),("flow",.ref f),("turns",.int (k:Nat))] fs
theorem oZ.same {H H':Hp} {r n f:Addr} {k:Nat} (h:oZ t H r n f k) (s:aK H H'):oZ t H' r n f k:=by obtain⟨dx,fs,h1,h2⟩:=h;exact⟨dx,fs,⟨s _ _ h1.1,h1.2⟩,h2⟩
theorem S8 {X:Cx} {K:Fr} {tg l:Expr} {tl:TE} (hK:X.K=K) (hl:PE X l tl):PI X tg l (RJ K tl):=by subst hK;exact bT hl
structure Gd (n:Nat) (d:PyData):Prop where
 eq:PyData.eqv d d=true
 lay:PyData.canLay0 d=true
 dep:PyData.depth d<=n
theorem Gd.all {n:Nat}:∀{ds:List PyData},(∀d∈ds,Gd n d)->PyData.eqvAll ds ds=true/\PyData.canLayAll0 ds=true/\PyData.depthAll ds<=n
 | [],_=>⟨by simp [PyData.eqvAll],by simp [PyData.canLayAll0],by simp [PyData.depthAll]⟩
 | d:: r,h=>by
  obtain⟨h1,h2,h3⟩:=Gd.all (ds:=r) λx hx=>h x (mem_cons_of_mem _ hx);have g:=h d mem_cons_self;have g3:=g.dep;refine⟨by simp [PyData.eqvAll,g.eq,h1],by simp [PyData.canLayAll0,g.lay,h2],?_⟩;simp only [PyData.depthAll]
  lia
theorem Gd.list {n:Nat} {ds:List PyData} (h:∀d∈ds,Gd n d):Gd (n+1) (.list ds):=by obtain⟨h1,h2,h3⟩:=Gd.all h;exact⟨by simp [PyData.eqv,h1],by simp [PyData.canLay0,h2],by simp only [PyData.depth];lia⟩
theorem Gd.tuple {n:Nat} {ds:List PyData} (h:∀d∈ds,Gd n d):Gd (n+1) (.tuple ds):=by obtain⟨h1,h2,h3⟩:=Gd.all h;exact⟨by simp [PyData.eqv,h1],by simp [PyData.canLay0,h2],by simp only [PyData.depth];lia⟩
theorem Gd.int (n:Nat) (i:Int):Gd n (.int i):=⟨by simp [PyData.eqv],by simp [PyData.canLay0],by simp [PyData.depth]⟩
theorem Gd.str (n:Nat) {x:Str} (h:PyData.strOk x=true):Gd n (.str x):=⟨by simp [PyData.eqv],by simp [PyData.canLay0,h],by simp [PyData.depth]⟩
theorem Gd.ints (n:Nat) (ws:List Int):∀d∈ws.map PyData.int,Gd n d:=λd hd=>by obtain⟨i,_,rfl⟩:=mem_map.mp hd;exact .int n i
theorem Gd.strs (n:Nat) {xs:List Str} (h:∀x∈xs,PyData.strOk x=true):∀d∈xs.map PyData.str,Gd n d:=λd hd=>by obtain⟨x,hx,rfl⟩:=mem_map.mp hd;exact .str n (h x hx)
theorem Gd.shaped {n:Nat} {d:PyData} (h:Gd n d) (hn:n<=64):SeqAt.shaped d=true:=by have:=h.dep;unfold SeqAt.shaped;rw [h.lay,decide_eq_true (show d.depth<=64 by lia)];rfl
theorem JM {z:Str} (h:nameB z=true):PyData.strOk z=true:=by
 have e:∀c∈z.cps.toList,c <0x110000:=λc hc=>by
  unfold nameB at h;split at h
  ·cases h
  ·rename_i c0 r e;rw [e] at hc;simp only [and_eq_true,all_eq_true,Bool.or_eq_true] at h;have:=h.2.2 c hc;unfold low NZ at this;simp only [and_eq_true,decide_eq_true_eq] at this
   lia
 unfold PyData.strOk;rw [Array.all_eq_true'];intro c hc;exact decide_eq_true (e c (by simpa using hc))
theorem O8 {H:Hp}:∀ws:List Int,Bs K H (ws.map V.int) (ws.map PyData.int)
 | []=>.nil
 | i:: r=>.cons (.int i) (O8 r)
theorem Pj {H:Hp}:∀xs:List Str,Bs K H (xs.map V.str) (xs.map PyData.str)
 | []=>.nil
 | x:: r=>.cons (.str x) (Pj r)
theorem yK {H:Hp} {p:Addr} {ws:List Int} (h:bK K H p (ws.map V.int)):Dt K H (.ref p) (.list (ws.map PyData.int)):=.list h (O8 ws)
theorem Ox {H:Hp} {p:Addr} {xs:List Str} (h:bK K H p (xs.map V.str)):Dt K H (.ref p) (.list (xs.map PyData.str)):=.list h (Pj xs)
theorem Uy (xs:List V) (a b:Nat):vI xs (some (a:Int)) (some (b:Int))=(xs.drop (min a xs.length)).take (min b xs.length - min a xs.length):=by unfold vI;rw [HT.wC,HT.wC]
theorem Wc:∀i,i <11->decide (V.str (cL i)=V.str "take")=decide (i=1):=by decide +kernel
inductive Dp (H:Hp):V->Option Str->Prop
 | non:Dp H .non none
 | tup {p:Addr} {x:Str}:H p=some (.tup [.str x,.bl true,.bl true])->Dp H (.ref p) (some x)
theorem Dp.same {H H':Hp} {v:V} {o:Option Str} (h:Dp H v o) (s:aK H H'):Dp H' v o:=by
 cases h with
 | non=>exact .non
 | tup e=>exact .tup (s _ _ e)
noncomputable def tdD:Option Str->PyData
 | none=>.none
 | some x=>.tuple [.str x,.bool true,.bool true]
theorem Dp.dt {K:Fr} {H:Hp} {v:V} {o:Option Str} (h:Dp H v o):Dt K H v (tdD o):=by
 cases h with
 | non=>exact .non
 | tup e=>exact .tuple (gq.of e) (.cons (.str _) (.cons (.bl _) (.cons (.bl _) .nil)))
theorem Td {o:Option Str} (h:∀x,o=some x->PyData.strOk x=true):Gd 1 (tdD o):=by
 cases o with
 | none=>exact⟨by decide,by decide,by decide⟩
 | some x=>
  exact .tuple λd hd=>by
   simp only [mem_cons,not_mem_nil,or_false] at hd;rcases hd with rfl | rfl | rfl
   ·exact .str 0 (h x Z)
   ·exact⟨by decide,by decide,by decide⟩
   ·exact⟨by decide,by decide,by decide⟩
mutual
theorem Dt.same {K:Fr} {H H':Hp} (s:aK H H'):∀{x:V} {d:PyData},Dt K H x d->Dt K H' x d
 | _,_,.non=>.non
 | _,_,.bl b=>.bl b
 | _,_,.int i=>.int i
 | _,_,.str x=>.str x
 | _,_,.list h t=>.list (s.seq h) (Bs.same s t)
 | _,_,.tuple h t=>.tuple (s.seqT h) (Bs.same s t)
theorem Bs.same {K:Fr} {H H':Hp} (s:aK H H'):∀{xs:List V} {ds:List PyData},Bs K H xs ds->Bs K H' xs ds
 | _,_,.nil=>.nil
 | _,_,.cons h t=>.cons (Dt.same s h) (Bs.same s t)
end
theorem Bs.snoc {K:Fr} {H:Hp} {x:V} {d:PyData} (h:Dt K H x d):∀{xs:List V} {ds:List PyData},Bs K H xs ds->Bs K H (xs ++ [x]) (ds ++ [d])
 | _,_,.nil=>.cons h .nil
 | _,_,.cons h1 t=>.cons h1 (Bs.snoc h t)
theorem Dq {js:List Nat} {σ:St} {Qd:List V->Hp->Prop} {H:Hp} {L:Addr} {xs:List V} {ls:List aJ} (eL:H L=some (.lst xs)) (aL:jN (uY H) xs ls) (h24:ls.length<=24) (k:Qd (ls.map λl=>V.str l.name) H):CompEnd js V5 (Vg (MP K) (Qx 0) (tC (V.int 0))) σ Qd (Ve K L) H:=by
 have hz:sizeLine=16777216:=sizeLine_eq;have xl:=aL.length;refine fu (K:=K) (a:=L) (xs:=xs) (λj ys H'=>H'=H/\ys=(ls.take j).map λl=>V.str l.name) (by lia) ⟨Z,Z⟩ (λj ys H' h=>by rw [h.2,lM,length_take];lia) (λj ys H' _ h=>by rw [h.1];exact bK.of eL) ?_ ?_
 ·rintro j x ys H1 hx ⟨rfl,rfl⟩;obtain⟨l,hlj,q,f,rfl,hq,_⟩:=aL.get hx;rw [take_succ,hlj,toList_some,map_append];exact yes ⟨_,Z,q,_,0,_,Z,Z,gq.of hq,aM (j:=0) Z,Z,Z⟩
 ·rintro ys H1 ⟨rfl,rfl⟩;rw [xl,take_length];exact k
theorem zW {js:List Nat} {σ:St} {Qd:List V->Hp->Prop} {H:Hp} {P:Addr} {xs:List V} {ps:List PD} (eP:H P=some (.lst xs)) (aP:jN (zR H) xs ps) (h16:ps.length<=16) (k:Qd (ps.map λp=>V.str p.name) H):CompEnd js V5 (Vg (MP K) (Qx 0) (tC (V.int 1))) σ Qd (Ve K P) H:=by
 have hz:sizeLine=16777216:=sizeLine_eq;have xl:=aP.length;refine fu (K:=K) (a:=P) (xs:=xs) (λj ys H'=>H'=H/\ys=(ps.take j).map λp=>V.str p.name) (by lia) ⟨Z,Z⟩ (λj ys H' h=>by rw [h.2,lM,length_take];lia) (λj ys H' _ h=>by rw [h.1];exact bK.of eP) ?_ ?_
 ·rintro j x ys H1 hx ⟨rfl,rfl⟩;obtain⟨p,hpj,q,a1,a2,a3,rfl,hq,_⟩:=aP.get hx;rw [take_succ,hpj,toList_some,map_append];exact yes ⟨_,Z,q,_,1,_,Z,Z,gq.of hq,aM (j:=1) Z,Z,Z⟩
 ·rintro ys H1 ⟨rfl,rfl⟩;rw [xl,take_length];exact k
theorem Ml {js:List Nat} {σ:St} {Qd:List V->Hp->Prop} {H:Hp} {P:Addr} {xs:List V} {ps:List PD} {y:Str} (eP:H P=some (.lst xs)) (aP:jN (zR H) xs ps) (h16:ps.length<=16) (k:Qd (bM ps y) H):CompEnd js (Tg (Vg rEq (Vg (MP K) (Qx 0) (tC (V.int 0))) (tC (V.str y)))) (Vg (MP K) (Qx 0) (tC (V.int 1))) σ Qd (Ve K P) H:=by
 have hz:sizeLine=16777216:=sizeLine_eq;have xl:=aP.length;refine fu (K:=K) (a:=P) (xs:=xs) (λj ys H'=>H'=H/\ys=bM (ps.take j) y) (by lia) ⟨Z,Z⟩ (λj ys H' h=>by rw [h.2];unfold bM;rw [lM];exact le_trans (length_filter_le _ _) (by rw [length_take];lia)) (λj ys H' _ h=>by rw [h.1];exact bK.of eP) ?_ ?_
 ·rintro j x ys H1 hx ⟨rfl,rfl⟩;obtain⟨p,hpj,q,a1,a2,a3,rfl,hq,_⟩:=aP.get hx;refine⟨_,Z,q,_,0,_,Z,Z,gq.of hq,aM (j:=0) Z,Z,_,Z,?_⟩;rw [take_succ,hpj,toList_some,Ip];by_cases h:cL p.kind=y
  ·rw [decide_eq_true (congrArg V.str h),if_pos h];exact gm ⟨_,Z,q,_,1,_,Z,Z,gq.of hq,aM (j:=1) Z,Z,Z⟩
  ·rw [decide_eq_false (λz=>h (V.str.inj z)),if_neg h];exact cj ⟨Z,Z⟩
 ·rintro ys H1 ⟨rfl,rfl⟩;rw [xl,take_length];exact k
noncomputable def kdS (ps:List PD) (k:Str):List Str:=(ps.filter λp=>decide (cL p.kind=k)).map (·.name)
theorem Oc (ps:List PD) (k:Str):bM ps k=(kdS ps k).map V.str:=by unfold bM kdS;rw [map_map];rfl
theorem YK (ps:List PD) (k:Str) (x:Str):V.str x∈bM ps k↔x∈kdS ps k:=by rw [Oc];exact⟨λh=>by obtain⟨y,hy,e⟩:=mem_map.mp h;cases e;exact hy,λh=>mem_map.mpr ⟨x,h,rfl⟩⟩
theorem rN (xs:List Str):(xs.map V.str).all oG=true:=by rw [all_eq_true];intro v hv;obtain⟨p,_,rfl⟩:=mem_map.mp hv;rfl
inductive p7 (C:Addr) (vs:List V) (H:Hp) (Q:VK) (E:XK):Prop where
 | mk:∀(a:Addr) (v:V),vs=[.ref a,v]->H a=some (xj a C)->(∀dx,H dx=none->dx≠a->Q .non (upd (upd H a (CN a C dx)) dx (.xd [("name",v)])))->p7 C vs H Q E
theorem fJ (T:Txt w K mg t):FO P w K mg base 1 t.iH ["self", "name"] (p7 t.bG):=by
 have sc:=T.dF.sc ["self", "name"];refine T.dF.F.ok sc ln (λ_ _ _ _ H vs Q E hr h=>?_);obtain⟨a,v,rfl,ea,k⟩:=h;refine⟨_,(az (bw (PB (by rfl) T.ur T.z8 (aa (pv 0) (aa (pv 1) ak aj) aj)))
  (aA (Pa (pv 0) (pv 1) rfl))),?_⟩
 refine⟨_,Z,_,Z,a,_,_,[v],Z,ea,T.su.ini,by show 1<=1000;decide,?_⟩;exact⟨_,Z,_,Z,a,_,Z,ea,T.sW,T.Ac,k⟩
inductive pN (C:Addr) (vs:List V) (H:Hp) (Q:VK) (E:XK):Prop where
 | mk:∀(a:Addr) (v:V),vs=[.ref a,v]->H a=some (xj a C)->(∀dx,H dx=none->dx≠a->Q .non (upd (upd H a (CN a C dx)) dx (.xd [("name",v)])))->pN C vs H Q E
theorem yx (T:Txt w K mg t):FO P w K mg base 1 t.iJ ["self", "name"] (pN t.fU):=by
 have sc:=T.km.sc ["self", "name"];refine T.km.F.ok sc ln (λ_ _ _ _ H vs Q E hr h=>?_);obtain⟨a,v,rfl,ea,k⟩:=h;refine⟨_,(az (bw (PB (by rfl) T.ur T.z8 (aa (pv 0) (aa (pv 1) ak aj) aj)))
  (aA (Pa (pv 0) (pv 1) rfl))),?_⟩
 refine⟨_,Z,_,Z,a,_,_,[v],Z,ea,T.Ln.ini,by show 1<=1000;decide,?_⟩;exact⟨_,Z,_,Z,a,_,Z,ea,T.Hc,T.Hs,k⟩
inductive Bo (K:Fr) (vs:List V) (H:Hp) (Q:VK) (E:XK):Prop where
 | mk:∀x Tx b,vs=[x]->tyN K H x Tx->Tx∈lV->decide (Tx= "int")=b->Q (.bl b) H->Bo K vs H Q E
theorem BR (T:Txt w K mg t):FO P w K mg base 1 t.Gk ["thing"] (Bo K):=by
 have sc:=T.uq.sc ["thing"];refine T.uq.F.ok sc ln (λ_ _ _ _ H vs Q E hr h=>?_);obtain⟨x,Tx,b,rfl,ty,hm,rfl,k⟩:=h;refine⟨_,(aA (aN (Bh (bA zz (by rfl) T.jq iC (aa (pv 0) (aa (zu (by rfl) T.ZV X4) ak aj) aj)) (Bd (YT (bA zz (by rfl) T.jq iC (aa (pv 0) (aa (zu (by rfl) T.XN Wf) ak aj) aj))))))),?_⟩;have hm':Tx= "int" ∨Tx= "bool" ∨(Jr Tx "int" =false/\Tx≠ "int"):=by
  simp only [lV,mem_cons,not_mem_nil,or_false] at hm;rcases hm with rfl | rfl | rfl | rfl | rfl | rfl | rfl
  ·exact .inr (.inr (by decide))
  ·exact .inr (.inl Z)
  ·exact .inl Z
  ·exact .inr (.inr (by decide))
  ·exact .inr (.inr (by decide))
  ·exact .inr (.inr (by decide))
  ·exact .inr (.inr (by decide))
 rcases hm' with rfl | rfl | ⟨h1,h2⟩
 ·exact⟨_,Z,x, "int", "int",true,Z,ty,by decide,by decide,true,Z,gm ⟨_,Z,x, "int", "bool",false,Z,ty,by decide,by decide,_,Z,k⟩⟩
 ·exact⟨_,Z,x, "bool", "int",true,Z,ty,by decide,by decide,true,Z,gm ⟨_,Z,x, "bool", "bool",true,Z,ty,by decide,by decide,_,Z,k⟩⟩
 ·rw [decide_eq_false h2] at k;exact⟨_,Z,x,Tx, "int",false,Z,ty,by decide,h1,false,Z,cj k⟩
inductive BV (K:Fr) (vs:List V) (H:Hp) (Q:VK) (E:XK):Prop where
 | mk:∀x,vs=[x]->(((∃i:Int,x=.int i/\Q (.bl (decide (0<=i) && decide (i <1000000000))) H)∨∃Tx,tyN K H x Tx/\Tx∈lV/\Tx≠ "int" /\Q (.bl false) H))->BV K vs H Q E
theorem wg (T:Txt w K mg t):FO P w K mg base 2 t.Fp ["thing"] (BV K):=by
 have sc:=T.pW.sc ["thing"];refine T.pW.F.ok sc ln (λ_ _ _ _ H vs Q E hr h=>?_);obtain⟨x,rfl,h⟩:=h;refine⟨_,(aA (aN (Bh (eN (BR T) T.uq hr (aa (pv 0) ak aj)) (Bd (Rk xq Ab au (pv 0) (jB (by rfl) T.K7)))))),?_⟩;rcases h with ⟨i,rfl,k⟩ | ⟨Tx,ty,hm,hne,k⟩
 ·refine⟨_,Z,.int i, "int",true,Z,Z,by decide,by decide,true,Z,gm ⟨_,Z,_,_,Z,Z,_,Z,nH (λh=>?_) (λh=>?_)⟩⟩
  ·have h':0<=i:=of_decide_eq_true h;rw [decide_eq_true h',Bool.true_and] at k;exact⟨_,_,Z,Z,k⟩
  ·have h':¬0<=i:=λz=>h (decide_eq_true z);rw [decide_eq_false h',Bool.false_and] at k;exact k
 ·exact⟨_,Z,x,Tx,false,Z,ty,hm,decide_eq_false hne,false,Z,cj k⟩
inductive sr (K:Fr) (t:jr) (vs:List V) (H:Hp) (Q:VK) (E:XK):Prop where
 | mk:∀(i:Nat) (p dx a1 a2 a3:Addr) (nm:V) (ns is os:List V),vs=[.ref p,nm,.ref a1,.ref a2,.ref a3]->H p=some (.ins (cls t i) dx [])->zG K H a1 ns->zG K H a2 is->zG K H a3 os->(∀H',jz p H H'->fO K t H' p i nm ns is os->Q .non H')->sr K t vs H Q E
noncomputable abbrev m9:List Str:=["self", "name", "numbers", "ins", "outs"]
theorem bZ (T:Txt w K mg t):FO P w K mg base 1 t.bV m9 (sr K t):=by
 have sc:fY m9 m9 (aR (inClass (top 27) 0)):=O6;refine T.aY.F.ok sc ln (λ_ _ _ _ H vs Q E hr h=>?_);obtain⟨i,p,dx,a1,a2,a3,nm,ns,is,os,rfl,hp,q1,q2,q3,k⟩:=h;refine⟨_,(az (iG (pv 0) (pv 1) Z)
  (az (iG (pv 0) (fB wW (by rfl) T.CW zH (aa (pv 2) ak aj)) rfl)
  (az (iG (pv 0) (fB wW (by rfl) T.CW zH (aa (pv 3) ak aj)) rfl)
  (aA (iG (pv 0) (fB wW (by rfl) T.CW zH (aa (pv 4) ak aj)) rfl))))),?_⟩
 refine⟨_,Z,_,Z,p,cls t i,dx,[],Z,hp,iD T i,CV T i,by show 0 <1000;decide,?_⟩;have b1:jz p H (upd H p (.ins (cls t i) dx (aH "name" nm []))):=jz.write;have e1:(upd H p (.ins (cls t i) dx (aH "name" nm []))) p=some (.ins (cls t i) dx (aH "name" nm [])):=aq;generalize upd H p (.ins (cls t i) dx (aH "name" nm []))=H1 at b1 e1 ⊢;have r2:=b1.seqA hp q2;have r3:=b1.seqA hp q3;refine⟨_,Z,a1,ns,Z,b1.seqA hp q1,λH2 u2 s2 t2=>⟨_,Z,p,cls t i,dx,_,Z,s2 _ _ e1,iD T i,um T i,lt_of_le_of_lt (iB (zero_le 0)) (by decide),?_⟩⟩;have e2:=s2 _ _ e1;have b2:jz p H2 (upd H2 p (.ins (cls t i) dx (aH "numbers" (.ref u2) (aH "name" nm [])))):=jz.write;have e3:(upd H2 p (.ins (cls t i) dx (aH "numbers" (.ref u2) (aH "name" nm [])))) p=some (.ins (cls t i) dx (aH "numbers" (.ref u2) (aH "name" nm []))):=aq;generalize upd H2 p (.ins (cls t i) dx (aH "numbers" (.ref u2) (aH "name" nm [])))=H3 at b2 e3 ⊢;have r2':=b2.seqA e2 (s2.seqA r2);have r3':=b2.seqA e2 (s2.seqA r3);have t2':=b2.seqT e2 t2;refine⟨_,Z,a2,is,Z,r2',λH4 u4 s4 t4=>⟨_,Z,p,cls t i,dx,_,Z,s4 _ _ e3,iD T i,yf T i,lt_of_le_of_lt (iB (iB (zero_le 0))) (by decide),?_⟩⟩;have e4:=s4 _ _ e3;have b4:jz p H4 (upd H4 p (.ins (cls t i) dx (aH "ins" (.ref u4) (aH "numbers" (.ref u2) (aH "name" nm []))))):=jz.write;have e5:(upd H4 p (.ins (cls t i) dx (aH "ins" (.ref u4) (aH "numbers" (.ref u2) (aH "name" nm []))))) p=some (.ins (cls t i) dx (aH "ins" (.ref u4) (aH "numbers" (.ref u2) (aH "name" nm [])))):=aq;generalize upd H4 p (.ins (cls t i) dx (aH "ins" (.ref u4) (aH "numbers" (.ref u2) (aH "name" nm []))))=H5 at b4 e5 ⊢;have r3'':=b4.seqA e4 (s4.seqA r3');have t2'':=b4.seqT e4 (s4.seqT t2');have t4':=b4.seqT e4 t4;refine⟨_,Z,a3,os,Z,r3'',λH6 u6 s6 t6=>⟨_,Z,p,cls t i,dx,_,Z,s6 _ _ e5,iD T i,Jl T i,lt_of_le_of_lt (iB (iB (iB (zero_le 0)))) (by decide),?_⟩⟩;have e6:=s6 _ _ e5;refine k _ (b1.trans ((jz.of_same s2).trans (b2.trans ((jz.of_same s4).trans (b4.trans ((jz.of_same s6).trans jz.write)))))) ⟨dx,u2,u4,u6,aq,?_,?_,?_⟩
 ·exact jz.write.seqT e6 (s6.seqT t2'')
 ·exact jz.write.seqT e6 (s6.seqT t4')
 ·exact jz.write.seqT e6 t6
theorem JS (T:Txt w K mg t):FO P w K mg base 1 t.vC ["self"] (jw 0):=by have sc:=T.qK.sc ["self"];refine T.qK.F.ok sc ln (λ_ _ _ _ H vs Q E hr h=>?_);obtain⟨x,rfl,k⟩:=h;refine⟨_,(aA (aN bH)),?_⟩;exact k
theorem Jq (T:Txt w K mg t):FO P w K mg base 1 t.vQ ["self"] (jw 1):=by have sc:=T.qi.sc ["self"];refine T.qi.F.ok sc ln (λ_ _ _ _ H vs Q E hr h=>?_);obtain⟨x,rfl,k⟩:=h;refine⟨_,(aA (aN bH)),?_⟩;exact k
theorem JZ (T:Txt w K mg t):FO P w K mg base 1 t.vM ["self"] (jw 2):=by have sc:=T.qt.sc ["self"];refine T.qt.F.ok sc ln (λ_ _ _ _ H vs Q E hr h=>?_);obtain⟨x,rfl,k⟩:=h;refine⟨_,(aA (aN bH)),?_⟩;exact k
theorem Kf (T:Txt w K mg t):FO P w K mg base 1 t.uK ["self"] (jw 3):=by have sc:=T.qH.sc ["self"];refine T.qH.F.ok sc ln (λ_ _ _ _ H vs Q E hr h=>?_);obtain⟨x,rfl,k⟩:=h;refine⟨_,(aA (aN bH)),?_⟩;exact k
theorem Js (T:Txt w K mg t):FO P w K mg base 1 t.vo ["self"] (jw 4):=by have sc:=T.qg.sc ["self"];refine T.qg.F.ok sc ln (λ_ _ _ _ H vs Q E hr h=>?_);obtain⟨x,rfl,k⟩:=h;refine⟨_,(aA (aN bH)),?_⟩;exact k
theorem Kc (T:Txt w K mg t):FO P w K mg base 1 t.uM ["self"] (jw 5):=by have sc:=T.qQ.sc ["self"];refine T.qQ.F.ok sc ln (λ_ _ _ _ H vs Q E hr h=>?_);obtain⟨x,rfl,k⟩:=h;refine⟨_,(aA (aN bH)),?_⟩;exact k
theorem Ly (T:Txt w K mg t):FO P w K mg base 1 t.yq ["self"] (jw 6):=by have sc:=T.uf.sc ["self"];refine T.uf.F.ok sc ln (λ_ _ _ _ H vs Q E hr h=>?_);obtain⟨x,rfl,k⟩:=h;refine⟨_,(aA (aN bH)),?_⟩;exact k
theorem JQ (T:Txt w K mg t):FO P w K mg base 1 t.vB ["self"] (jw 7):=by have sc:=T.qx.sc ["self"];refine T.qx.F.ok sc ln (λ_ _ _ _ H vs Q E hr h=>?_);obtain⟨x,rfl,k⟩:=h;refine⟨_,(aA (aN bH)),?_⟩;exact k
theorem Gy (T:Txt w K mg t):FO P w K mg base 1 t.tX ["self"] (jw 8):=by have sc:=T.oN.sc ["self"];refine T.oN.F.ok sc ln (λ_ _ _ _ H vs Q E hr h=>?_);obtain⟨x,rfl,k⟩:=h;refine⟨_,(aA (aN bH)),?_⟩;exact k
theorem Ec (T:Txt w K mg t):FO P w K mg base 1 t.rD ["self"] (jw 9):=by have sc:=T.lJ.sc ["self"];refine T.lJ.F.ok sc ln (λ_ _ _ _ H vs Q E hr h=>?_);obtain⟨x,rfl,k⟩:=h;refine⟨_,(aA (aN bH)),?_⟩;exact k
theorem GC (T:Txt w K mg t):FO P w K mg base 1 t.ul ["self"] (jw 10):=by have sc:=T.oW.sc ["self"];refine T.oW.F.ok sc ln (λ_ _ _ _ H vs Q E hr h=>?_);obtain⟨x,rfl,k⟩:=h;refine⟨_,(aA (aN bH)),?_⟩;exact k
inductive Gq (vs:List V) (H:Hp) (Q:VK) (E:XK):Prop where
 | mk:∀z:Str,vs=[.str z]->Q (.bl (rowOf ROWS z).isSome) H->Gq vs H Q E
theorem Fj (T:Txt w K mg t):FO P w K mg base 1 t.Ig ["word"] (Gq):=by have sc:=T.wN.sc ["word"];refine T.wN.F.ok sc ln (λ_ _ _ _ H vs Q E hr h=>?_);obtain⟨z,rfl,k⟩:=h;refine⟨_,(aA (aN (Ao (Yc (pv 0) (Dl (v:=.ref _) (by rfl) T.HS rfl)) (by with_unfolding_all rfl)))),?_⟩;exact⟨_,Z,t.yU,ROWS,z,Z,T.Mh,Z,k⟩
inductive Cm (K:Fr) (vs:List V) (H:Hp) (Q:VK) (E:XK):Prop where
 | mk:∀(i:Nat) (nm:V) (a1 a2 a3:Addr) (ns is os:List V),vs=[.str (cL i),nm,.ref a1,.ref a2,.ref a3]->zG K H a1 ns->zG K H a2 is->zG K H a3 os->ns.length=cN i->is.length=cI i->os.length=cO i->((∀v∈ns,Val v))->(∀H',aK H H'->Q .non H')->Cm K vs H Q E
noncomputable abbrev FP:List Str:=["kind", "name", "numbers", "ins", "outs", "counts"]
theorem Lb (T:Txt w K mg t):FO P w K mg base 3 t.En ["kind", "name", "numbers", "ins", "outs"] (Cm K):=by
 have sc:=T.yz.sc FP;refine T.yz.F.ok sc ln (λ_ _ _ _ H vs Q E hr h=>?_);obtain⟨i,nm,a1,a2,a3,ns,is,os,rfl,h1,h2,h3,l1,l2,l3,hv,k⟩:=h;refine⟨_,(az (bQ (jU (jL (eN (Fj T) T.wN hr (aa (pv 0) ak aj))))
   (aA gM)
   bz)
  (az (sN sc 5 (Vs (Dl (v:=.ref _) (by rfl) T.HS rfl) (pv 0) (λ_ _=>rfl)))
  (az (bQ (PW.pt (ww (aZ Pz (bA bY (by rfl) T.gh dJ (aa (pv 2) ak aj)) (aU dI (pv 5) au (λ_ _=>rfl)) (bN _)) (pP (jU (jL (bA (zU rfl) (by rfl) T.O3 J0 (aa (eE [] FP (aR (top 40)) rfl (WT (bT (pv 2)) (Je (pv 2))) (λ_ _ _ _ _=>fK) (λ_ _ _ _ _=>(eN (wg T) T.pW hr (aa (pv 0) ak aj)))) ak dZ)))))))
   (aA gM)
   bz)
  (aA (bQ (PW.pt (ww (aZ Pz (bA bY (by rfl) T.gh dJ (aa (pv 3) ak aj)) (aU dI (pv 5) au (λ_ _=>rfl)) (bN _)) (pP (aZ Pz (bA bY (by rfl) T.gh dJ (aa (pv 4) ak aj)) (aU dI (pv 5) au (λ_ _=>rfl)) (bN _)))))
   (aA gM)
   bz))))),?_⟩
 have hl:sizeLine=16777216:=sizeLine_eq;have hN:=Za i;have hI:=G9 i;have hO:=Uc i;refine⟨_,rfl,cL i,rfl,true,by rw [row_of];rfl,cj ?_⟩;refine⟨_,Z,t.yU,ROWS,cL i,_,Z,T.Mh,Z,row_of i,λad had=>?_⟩;refine⟨_,Z,.ref a1,ns.length,Z,h1.len,_,Z,ad,_,0,_,Z,Z,had,aM (j:=0) Z,Z,_,Z,?_⟩;rw [show(!decide (V.int ((ns.length:Nat):Int)=V.int ((cN i:Nat):Int)))=false by rw [l1];simp];refine cj ?_;refine S9 (a:=a1) (xs:=ns) ?_ h1 (λj ys=>ys=(List.replicate j true).map V.bl) (by lia) Z (λj ys e=>by rw [e];simp) (λj x ys hx e=>?_) (λys e D hD=>?_)
 ·exact λR r=>⟨_,Z,r⟩
 ·subst e;obtain⟨n,rfl,n0,n1⟩:=hv x (mem_of_getElem? hx);refine yes ⟨_,Z,.int n,Z,.inl ⟨n,Z,Z,?_⟩⟩;rw [decide_eq_true n0,decide_eq_true n1,List.replicate_succ'];simp
 ·subst e;refine⟨D,_,Z,bK.of aq,_,Z,?_⟩;rw [show((List.replicate ns.length true).all id)=true by simp];refine cj ?_;have s1:aK H (upd H D (.lst ((List.replicate ns.length true).map V.bl))):=aB hD;refine⟨_,Z,.ref a2,is.length,Z,(s1.seqA h2).len,_,Z,ad,_,1,_,Z,Z,s1.seqT had,aM (j:=1) Z,Z,_,Z,?_⟩;rw [show(!decide (V.int ((is.length:Nat):Int)=V.int ((cI i:Nat):Int)))=false by rw [l2];simp];refine cj ?_;refine⟨_,Z,.ref a3,os.length,Z,(s1.seqA h3).len,_,Z,ad,_,2,_,Z,Z,s1.seqT had,aM (j:=2) Z,Z,_,Z,?_⟩;rw [show(!decide (V.int ((os.length:Nat):Int)=V.int ((cO i:Nat):Int)))=false by rw [l3];simp];exact cj (k _ s1)
inductive Fv (K:Fr) (t:jr) (vs:List V) (H:Hp) (Q:VK) (E:XK):Prop where
 | mk:∀(i:Nat) (nm:V) (a1 a2 a3:Addr) (ns is os:List V),vs=[.str (cL i),nm,.ref a1,.ref a2,.ref a3]->i<=10->zG K H a1 ns->zG K H a2 is->zG K H a3 os->(∀H' p,aK H H'->H p=none->fO K t H' p i nm ns is os->Q (.ref p) H')->Fv K t vs H Q E
noncomputable abbrev Ae:List Str:=["kind", "name", "numbers", "ins", "outs"]
theorem Nb (T:Txt w K mg t):FO P w K mg base 3 t.Hf Ae (Fv K t):=by
 have sc:fY Ae Ae (aR (top 41)):=O6;refine T.Im.F.ok sc ln (λ_ _ _ _ H vs Q E hr h=>?_);obtain⟨i,nm,a1,a2,a3,ns,is,os,rfl,hi,h1,h2,h3,k⟩:=h;refine⟨_,(az (bQ (aZ gP (pv 0) bH (bN _))
   (aA (aN (iI (T.jh.M T.aY) (bZ T) (hr.mono (by decide)) (by rfl) T.jh.m T.aY.b .nil gj (aa (pv 1) (aa (pv 2) (aa (pv 3) (aa (pv 4) ak aj) aj) aj) aj))))
   bz)
  (az (bQ (aZ gP (pv 0) bH (bN _))
   (aA (aN (iI (T.iY.M T.aY) (bZ T) (hr.mono (by decide)) (by rfl) T.iY.m T.aY.b .nil gj (aa (pv 1) (aa (pv 2) (aa (pv 3) (aa (pv 4) ak aj) aj) aj) aj))))
   bz)
  (az (bQ (aZ gP (pv 0) bH (bN _))
   (aA (aN (iI (T.iR.M T.aY) (bZ T) (hr.mono (by decide)) (by rfl) T.iR.m T.aY.b .nil gj (aa (pv 1) (aa (pv 2) (aa (pv 3) (aa (pv 4) ak aj) aj) aj) aj))))
   bz)
  (az (bQ (aZ gP (pv 0) bH (bN _))
   (aA (aN (iI (T.je.M T.aY) (bZ T) (hr.mono (by decide)) (by rfl) T.je.m T.aY.b .nil gj (aa (pv 1) (aa (pv 2) (aa (pv 3) (aa (pv 4) ak aj) aj) aj) aj))))
   bz)
  (az (bQ (aZ gP (pv 0) bH (bN _))
   (aA (aN (iI (T.jg.M T.aY) (bZ T) (hr.mono (by decide)) (by rfl) T.jg.m T.aY.b .nil gj (aa (pv 1) (aa (pv 2) (aa (pv 3) (aa (pv 4) ak aj) aj) aj) aj))))
   bz)
  (az (bQ (aZ gP (pv 0) bH (bN _))
   (aA (aN (iI (T.iZ.M T.aY) (bZ T) (hr.mono (by decide)) (by rfl) T.iZ.m T.aY.b .nil gj (aa (pv 1) (aa (pv 2) (aa (pv 3) (aa (pv 4) ak aj) aj) aj) aj))))
   bz)
  (az (bQ (aZ gP (pv 0) bH (bN _))
   (aA (aN (iI (T.mJ.M T.aY) (bZ T) (hr.mono (by decide)) (by rfl) T.mJ.m T.aY.b .nil gj (aa (pv 1) (aa (pv 2) (aa (pv 3) (aa (pv 4) ak aj) aj) aj) aj))))
   bz)
  (az (bQ (aZ gP (pv 0) bH (bN _))
   (aA (aN (iI (T.jf.M T.aY) (bZ T) (hr.mono (by decide)) (by rfl) T.jf.m T.aY.b .nil gj (aa (pv 1) (aa (pv 2) (aa (pv 3) (aa (pv 4) ak aj) aj) aj) aj))))
   bz)
  (az (bQ (aZ gP (pv 0) bH (bN _))
   (aA (aN (iI (T.fZ.M T.aY) (bZ T) (hr.mono (by decide)) (by rfl) T.fZ.m T.aY.b .nil gj (aa (pv 1) (aa (pv 2) (aa (pv 3) (aa (pv 4) ak aj) aj) aj) aj))))
   bz)
  (az (bQ (aZ gP (pv 0) bH (bN _))
   (aA (aN (iI (T.d9.M T.aY) (bZ T) (hr.mono (by decide)) (by rfl) T.d9.m T.aY.b .nil gj (aa (pv 1) (aa (pv 2) (aa (pv 3) (aa (pv 4) ak aj) aj) aj) aj))))
   bz)
  (aA (aN (iI (T.fW.M T.aY) (bZ T) (hr.mono (by decide)) (by rfl) T.fW.m T.aY.b .nil gj (aa (pv 1) (aa (pv 2) (aa (pv 3) (aa (pv 4) ak aj) aj) aj) aj)))))))))))))),?_⟩
 match i,hi with
 | 0,_=>
  refine⟨_,Z,Z,_,Z,yw Z ?_⟩;refine⟨_,Z,_,Z,_,Z,_,Z,λx dx nx ndx nex=>?_⟩;have s0:aK H (upd (upd H dx (.own x)) x (.ins t.MJ dx [])):=λb o e=>by rw [aG (aC e nx),aG (aC e ndx)];exact e
  exact⟨0,x,dx,a1,a2,a3,nm,ns,is,os,Z,aq,s0.seqA h1,s0.seqA h2,s0.seqA h3,λH' b P=>⟨Z,k H' x (λc o e=>b c o (aC e nx) (s0 c o e)) nx P⟩⟩
 | 1,_=>
  refine⟨_,Z,Z,_,Z,dN (by decide +kernel) ?_⟩;refine⟨_,Z,Z,_,Z,yw Z ?_⟩;refine⟨_,Z,_,Z,_,Z,_,Z,λx dx nx ndx nex=>?_⟩;have s0:aK H (upd (upd H dx (.own x)) x (.ins t.Ms dx [])):=λb o e=>by rw [aG (aC e nx),aG (aC e ndx)];exact e
  exact⟨1,x,dx,a1,a2,a3,nm,ns,is,os,Z,aq,s0.seqA h1,s0.seqA h2,s0.seqA h3,λH' b P=>⟨Z,k H' x (λc o e=>b c o (aC e nx) (s0 c o e)) nx P⟩⟩
 | 2,_=>
  iterate 2 refine⟨_,Z,Z,_,Z,dN (by decide +kernel) ?_⟩
  refine⟨_,Z,Z,_,Z,yw Z ?_⟩;refine⟨_,Z,_,Z,_,Z,_,Z,λx dx nx ndx nex=>?_⟩;have s0:aK H (upd (upd H dx (.own x)) x (.ins t.NP dx [])):=λb o e=>by rw [aG (aC e nx),aG (aC e ndx)];exact e
  exact⟨2,x,dx,a1,a2,a3,nm,ns,is,os,Z,aq,s0.seqA h1,s0.seqA h2,s0.seqA h3,λH' b P=>⟨Z,k H' x (λc o e=>b c o (aC e nx) (s0 c o e)) nx P⟩⟩
 | 3,_=>
  iterate 3 refine⟨_,Z,Z,_,Z,dN (by decide +kernel) ?_⟩
  refine⟨_,Z,Z,_,Z,yw Z ?_⟩;refine⟨_,Z,_,Z,_,Z,_,Z,λx dx nx ndx nex=>?_⟩;have s0:aK H (upd (upd H dx (.own x)) x (.ins t.Nk dx [])):=λb o e=>by rw [aG (aC e nx),aG (aC e ndx)];exact e
  exact⟨3,x,dx,a1,a2,a3,nm,ns,is,os,Z,aq,s0.seqA h1,s0.seqA h2,s0.seqA h3,λH' b P=>⟨Z,k H' x (λc o e=>b c o (aC e nx) (s0 c o e)) nx P⟩⟩
 | 4,_=>
  iterate 4 refine⟨_,Z,Z,_,Z,dN (by decide +kernel) ?_⟩
  refine⟨_,Z,Z,_,Z,yw Z ?_⟩;refine⟨_,Z,_,Z,_,Z,_,Z,λx dx nx ndx nex=>?_⟩;have s0:aK H (upd (upd H dx (.own x)) x (.ins t.Mu dx [])):=λb o e=>by rw [aG (aC e nx),aG (aC e ndx)];exact e
  exact⟨4,x,dx,a1,a2,a3,nm,ns,is,os,Z,aq,s0.seqA h1,s0.seqA h2,s0.seqA h3,λH' b P=>⟨Z,k H' x (λc o e=>b c o (aC e nx) (s0 c o e)) nx P⟩⟩
 | 5,_=>
  iterate 5 refine⟨_,Z,Z,_,Z,dN (by decide +kernel) ?_⟩
  refine⟨_,Z,Z,_,Z,yw Z ?_⟩;refine⟨_,Z,_,Z,_,Z,_,Z,λx dx nx ndx nex=>?_⟩;have s0:aK H (upd (upd H dx (.own x)) x (.ins t.Mz dx [])):=λb o e=>by rw [aG (aC e nx),aG (aC e ndx)];exact e
  exact⟨5,x,dx,a1,a2,a3,nm,ns,is,os,Z,aq,s0.seqA h1,s0.seqA h2,s0.seqA h3,λH' b P=>⟨Z,k H' x (λc o e=>b c o (aC e nx) (s0 c o e)) nx P⟩⟩
 | 6,_=>
  iterate 6 refine⟨_,Z,Z,_,Z,dN (by decide +kernel) ?_⟩
  refine⟨_,Z,Z,_,Z,yw Z ?_⟩;refine⟨_,Z,_,Z,_,Z,_,Z,λx dx nx ndx nex=>?_⟩;have s0:aK H (upd (upd H dx (.own x)) x (.ins t.Tf dx [])):=λb o e=>by rw [aG (aC e nx),aG (aC e ndx)];exact e
  exact⟨6,x,dx,a1,a2,a3,nm,ns,is,os,Z,aq,s0.seqA h1,s0.seqA h2,s0.seqA h3,λH' b P=>⟨Z,k H' x (λc o e=>b c o (aC e nx) (s0 c o e)) nx P⟩⟩
 | 7,_=>
  iterate 7 refine⟨_,Z,Z,_,Z,dN (by decide +kernel) ?_⟩
  refine⟨_,Z,Z,_,Z,yw Z ?_⟩;refine⟨_,Z,_,Z,_,Z,_,Z,λx dx nx ndx nex=>?_⟩;have s0:aK H (upd (upd H dx (.own x)) x (.ins t.N7 dx [])):=λb o e=>by rw [aG (aC e nx),aG (aC e ndx)];exact e
  exact⟨7,x,dx,a1,a2,a3,nm,ns,is,os,Z,aq,s0.seqA h1,s0.seqA h2,s0.seqA h3,λH' b P=>⟨Z,k H' x (λc o e=>b c o (aC e nx) (s0 c o e)) nx P⟩⟩
 | 8,_=>
  iterate 8 refine⟨_,Z,Z,_,Z,dN (by decide +kernel) ?_⟩
  refine⟨_,Z,Z,_,Z,yw Z ?_⟩;refine⟨_,Z,_,Z,_,Z,_,Z,λx dx nx ndx nex=>?_⟩;have s0:aK H (upd (upd H dx (.own x)) x (.ins t.JN dx [])):=λb o e=>by rw [aG (aC e nx),aG (aC e ndx)];exact e
  exact⟨8,x,dx,a1,a2,a3,nm,ns,is,os,Z,aq,s0.seqA h1,s0.seqA h2,s0.seqA h3,λH' b P=>⟨Z,k H' x (λc o e=>b c o (aC e nx) (s0 c o e)) nx P⟩⟩
 | 9,_=>
  iterate 9 refine⟨_,Z,Z,_,Z,dN (by decide +kernel) ?_⟩
  refine⟨_,Z,Z,_,Z,yw Z ?_⟩;refine⟨_,Z,_,Z,_,Z,_,Z,λx dx nx ndx nex=>?_⟩;have s0:aK H (upd (upd H dx (.own x)) x (.ins t.Fl dx [])):=λb o e=>by rw [aG (aC e nx),aG (aC e ndx)];exact e
  exact⟨9,x,dx,a1,a2,a3,nm,ns,is,os,Z,aq,s0.seqA h1,s0.seqA h2,s0.seqA h3,λH' b P=>⟨Z,k H' x (λc o e=>b c o (aC e nx) (s0 c o e)) nx P⟩⟩
 | 10,_=>
  iterate 10 refine⟨_,Z,Z,_,Z,dN (by decide +kernel) ?_⟩
  refine⟨_,Z,_,Z,_,Z,_,Z,λx dx nx ndx nex=>?_⟩;have s0:aK H (upd (upd H dx (.own x)) x (.ins t.J9 dx [])):=λb o e=>by rw [aG (aC e nx),aG (aC e ndx)];exact e
  exact⟨10,x,dx,a1,a2,a3,nm,ns,is,os,Z,aq,s0.seqA h1,s0.seqA h2,s0.seqA h3,λH' b P=>⟨Z,k H' x (λc o e=>b c o (aC e nx) (s0 c o e)) nx P⟩⟩
 | (n+11),h=>exact absurd h (by lia)
inductive yQ (K:Fr) (t:jr) (vs:List V) (H:Hp) (Q:VK) (E:XK):Prop where
 | mk:∀(i:Nat) (nm:V) (a1 a2 a3:Addr) (ns is os:List V),vs=[.str (cL i),nm,.ref a1,.ref a2,.ref a3]->i<=10->zG K H a1 ns->zG K H a2 is->zG K H a3 os->ns.length=cN i->is.length=cI i->os.length=cO i->((∀v∈ns,Val v))->(∀H' p,aK H H'->H p=none->fO K t H' p i nm ns is os->Q (.ref p) H')->yQ K t vs H Q E
noncomputable abbrev uO:List Str:=["kind", "name", "numbers", "ins", "outs"]
theorem Jp (T:Txt w K mg t):FO P w K mg base 4 t.Cu uO (yQ K t):=by
 have sc:fY uO uO (aR (top 42)):=O6;refine T.Cq.F.ok sc ln (λ_ _ _ _ H vs Q E hr h=>?_);obtain⟨i,nm,a1,a2,a3,ns,is,os,rfl,hi,h1,h2,h3,l1,l2,l3,hv,k⟩:=h;refine⟨_,(az (bw (eN (Lb T) T.yz hr (aa (pv 0) (aa (pv 1) (aa (pv 2) (aa (pv 3) (aa (pv 4) ak aj) aj) aj) aj) aj)))
  (aA (aN (eN (Nb T) T.Im hr (aa (pv 0) (aa (pv 1) (aa (pv 2) (aa (pv 3) (aa (pv 4) ak aj) aj) aj) aj) aj))))),?_⟩
 refine⟨_,Z,_,Z,_,Z,_,Z,_,Z,i,nm,a1,a2,a3,ns,is,os,Z,h1,h2,h3,l1,l2,l3,hv,λH1 s1=>?_⟩;exact⟨_,Z,_,Z,_,Z,_,Z,_,Z,i,nm,a1,a2,a3,ns,is,os,Z,hi,s1.seqA h1,s1.seqA h2,s1.seqA h3,λH2 p s2 np P=>k H2 p (s1.trans s2) (s1.free np) P⟩
inductive Py (vs:List V) (H:Hp) (Q:VK) (E:XK):Prop where
 | mk:∀a:Int,vs=[.int a]->Q (.int (a % 1000000000)) H->Py vs H Q E
theorem JX (T:Txt w K mg t):FO P w K mg base 1 t.RM ["number"] (Py):=by have sc:=T.DR.sc ["number"];refine T.DR.F.ok sc ln (λ_ _ _ _ H vs Q E hr h=>?_);obtain⟨a,rfl,k⟩:=h;refine⟨_,(aA (aN (bB cB (pv 0) (jB (by rfl) T.K7)))),?_⟩;exact⟨_,Z,_,_,Z,Z,by show(0:Int) <1000000000;decide,k⟩
inductive wk (K:Fr) (t:jr) (vs:List V) (H:Hp) (Q:VK) (E:XK):Prop where
 | mk:∀i,i≠9->o9 K t i vs H Q E->wk K t vs H Q E
theorem dg (T:Txt w K mg t):FO P w K mg base 1 t.cJ ["self", "heads"] (wk K t):=by
 have sc:=T.bC.sc ["self", "heads"];refine T.bC.F.ok sc ln (λ_ _ _ _ H vs Q E hr h=>?_);obtain⟨i,hi,p,a,nm,ns,is,os,hs,rfl,hP,hI,hS,hH,k⟩:=h;refine⟨_,(aA (aN (fB (Gz rfl) (by rfl) T.u9 qO (aa (fB Mi (by rfl) T.oV Sd (aa (bA bY (by rfl) T.gh dJ (aa (aW (pv 0) rfl) ak bu)) ak bh)) ak bh)))),?_⟩;obtain⟨dx,tn,ti,to,hp,h2,h3,h4⟩:=id hP.ex;have h3':=G9 i;refine⟨_,Z,p,cls t i,dx,_,.ref ti,Z,hp,iD T i,yf T i,rP _ _ _ _,.ref ti,is.length,Z,.inr ⟨is,h3,Z⟩,_,Z,λr hr=>⟨r,is.length,Z,aq,by lia,λl hl=>?_⟩⟩;have e:(places i hs).map nV=Vh is.length:=by unfold places Vh;rw [if_neg hi,hH.1,hI];rfl
 refine k _ l ((aB hr).trans (aB hl)) ((aB hr).free hl) ?_;rw [e];exact aq
theorem Bg (T:Txt w K mg t):FO P w K mg base 1 t.nY ["self", "heads"] (o9 K t 9):=by
 have sc:=T.jH.sc ["self", "heads"];refine T.jH.F.ok sc ln (λ_ _ _ _ H vs Q E hr h=>?_);obtain⟨p,a,nm,ns,is,os,hs,rfl,hP,hI,hS,hH,k⟩:=h;refine⟨_,(az (bQ (jx (ym (aU aV (pv 1) au (λ_ _=>Z))))
   (aA (aN (bc (aa au ak ao))))
   bz)
  (aA (aN (bc (aa au (aa (bB fD au (bB cB (aU aV (pv 1) au (λ_ _=>rfl)) au)) ak bU) ao))))),?_⟩
 have hl:sizeLine=16777216:=sizeLine_eq;have hlen:hs.length=3:=hH.1;match hs,hlen,hH with
 | h0:: r,hlen,hH=>
  have ea:Ji (h0:: r) 0=some h0:=aM (xs:=h0:: r) (j:=0) rfl;rcases hH.2 h0 mem_cons_self with e | ⟨n,e⟩
  ·subst e;refine⟨_,Z,a,_,0,_,Z,Z,hS,ea,_,Z,yw Z ?_⟩;exact⟨by show 1<=sizeLine;lia,λL hL=>k _ L (aB hL) hL aq⟩
  ·subst e;refine⟨_,rfl,a,_,0,_,rfl,rfl,hS,ea,_,rfl,dN (by intro z;cases z) ?_⟩;refine⟨_,Z,a,_,0,_,Z,Z,hS,ea,_,_,Z,Z,by show(0:Int) <2;decide,_,_,Z,Z,by show 2<=sizeLine;lia,λL hL=>k _ L (aB hL) hL ?_⟩;have h0:=emod_nonneg n (show(2:Int)≠0 by decide);have e1:(1:Int)+n % 2=((1+(n % 2).toNat:Nat):Int):=by lia
   rw [aq];show some (HO.lst [.int 0,.int (1+n % 2)])=some (HO.lst [.int ((0:Nat):Int),.int ((1+(n % 2).toNat:Nat):Int)]);rw [e1];rfl
theorem Ii (T:Txt w K mg t) (i:Nat):MethAt P w K mg base GP 1 (cls t i) "taking" (o9 K t i):=match i with
 | 0=>⟨_,_,_,T.jh.c,(T.bC.me T.jh.me.2.2.1),T.bC.b,(dg T).imp λ_ _ _ _ h=>⟨_,by lia,h⟩⟩
 | 1=>⟨_,_,_,T.iY.c,(T.bC.me T.iY.me.2.2.1),T.bC.b,(dg T).imp λ_ _ _ _ h=>⟨_,by lia,h⟩⟩
 | 2=>⟨_,_,_,T.iR.c,(T.bC.me T.iR.me.2.2.1),T.bC.b,(dg T).imp λ_ _ _ _ h=>⟨_,by lia,h⟩⟩
 | 3=>⟨_,_,_,T.je.c,(T.bC.me T.je.me.2.2.1),T.bC.b,(dg T).imp λ_ _ _ _ h=>⟨_,by lia,h⟩⟩
 | 4=>⟨_,_,_,T.jg.c,(T.bC.me T.jg.me.2.2.1),T.bC.b,(dg T).imp λ_ _ _ _ h=>⟨_,by lia,h⟩⟩
 | 5=>⟨_,_,_,T.iZ.c,(T.bC.me T.iZ.me.2.2.1),T.bC.b,(dg T).imp λ_ _ _ _ h=>⟨_,by lia,h⟩⟩
 | 6=>⟨_,_,_,T.mJ.c,(T.bC.me T.mJ.me.2.2.1),T.bC.b,(dg T).imp λ_ _ _ _ h=>⟨_,by lia,h⟩⟩
 | 7=>⟨_,_,_,T.jf.c,(T.bC.me T.jf.me.2.2.1),T.bC.b,(dg T).imp λ_ _ _ _ h=>⟨_,by lia,h⟩⟩
 | 8=>⟨_,_,_,T.fZ.c,(T.bC.me T.fZ.me.2.2.1),T.bC.b,(dg T).imp λ_ _ _ _ h=>⟨_,by lia,h⟩⟩
 | 9=>⟨_,_,_,T.d9.c,(T.jH.me T.d9.me.2.2.1),T.jH.b,Bg T⟩
 | n+10=>⟨_,_,_,T.fW.c,(T.bC.me T.fW.me.2.2.1),T.bC.b,(dg T).imp λ_ _ _ _ h=>⟨_,by lia,h⟩⟩
inductive xY (K:Fr) (t:jr) (vs:List V) (H:Hp) (Q:VK) (E:XK):Prop where
 | mk:∀i,zY K t i vs H Q E->xY K t vs H Q E
theorem cY (T:Txt w K mg t):FO P w K mg base 2 t.cQ ["self", "heads"] (xY K t):=by
 have sc:=T.bD.sc ["self", "heads", "place"];refine T.bD.F.ok sc ln (λ_ _ _ _ H vs Q E hr h=>?_);obtain⟨i,p,a,nm,ns,is,os,hs,rfl,hP,hI,hS,hH,k⟩:=h;refine⟨_,(az (fC PassesOwn.never Z (bT (zO (CX:=GP) (k:=1) (E:=E0) (pv 0) (hr.mono (by decide)) gj (aa (pv 1) ak aj))) (gN sc 2)
   (aA (bQ (jx (ym (aU aV (pv 1) (pv 2) (λ_ _=>rfl))))
    (aA (aN (pv 2)))
    bz)))
  (aA (aN nQ))),?_⟩
 obtain⟨dx,tn,ti,to,hp,h2,h3,h4⟩:=id hP.ex;refine⟨_,Z,p,cls t i,dx,_,o9 K t i,Z,hp,wO _ _ _ _ (by decide +kernel) (by decide +kernel) (by decide +kernel) (by decide +kernel),Ii T i,_,Z,p,a,nm,ns,is,os,hs,Z,hP,hI,hS,hH,λH1 L s1 nL eL=>⟨L,Z,⟨_,bK.of eL⟩,?_⟩⟩;refine fG (K:=K) (a:=L) (xs:=(places i hs).map nV) (λj σ H2=>H2=H1/\∃v,σ=[some (.ref p),some (.ref a),v]/\∀q∈(places i hs).take j,yJ hs q=false)
  ⟨rfl,none,rfl,by simp⟩ (λj σ H2 _ ⟨e,_⟩=>by rw [e];exact bK.of eL) ?_ ?_
 ·rintro j x σ H2 hx ⟨rfl,v,rfl,hno⟩;rw [getElem?_map] at hx;obtain⟨q,hq,rfl⟩:=map_eq_some_iff.mp hx;have hlt:=lC hH q (mem_of_getElem? hq);obtain⟨hv,ev⟩:∃hv,hs[q]?=some hv:=⟨hs[q],getElem?_eq_getElem hlt⟩;refine⟨_,Z,_,Z,a,hs,_,hv,Z,Z,s1.seq hS,aM ev,_,Z,nH (λhn=>?_) (λhn=>?_)⟩
  ·have hn':hv=.non:=of_decide_eq_true hn;refine⟨_,Z,?_⟩;have:=k H2 s1;unfold Qe at this;rw [Ot hq hno (by unfold yJ;rw [ev,hn'];simp)] at this;exact this
  ·have hn':¬hv=.non:=λz=>hn (decide_eq_true z);refine⟨Z,_,Z,λy hy=>?_⟩;rw [List.take_add_one,hq] at hy;rcases mem_append.mp hy with hy | hy
   ·exact hno y hy
   ·have e:y=q:=by simpa using hy
    subst e;unfold yJ;rw [ev];simpa using hn'
 ·rintro σ H2 ⟨rfl,v,rfl,hno⟩;have:=k H2 s1;unfold Qe at this;rw [lM,take_of_length_le (le_refl _)] at hno;rw [VP hno] at this;exact this
inductive xM (K:Fr) (t:jr) (vs:List V) (H:Hp) (Q:VK) (E:XK):Prop where
 | mk:∀i,i≠5->vz K t i vs H Q E->xM K t vs H Q E
theorem dC (T:Txt w K mg t):FO P w K mg base 1 t.dh ["self"] (xM K t):=by have sc:=T.bI.sc ["self"];refine T.bI.F.ok sc ln (λ_ _ _ _ H vs Q E hr h=>?_);obtain⟨i,hi,p,nm,ns,is,os,rfl,hP,hn,k⟩:=h;refine⟨_,(aA (aN au)),?_⟩;unfold JF at k;rw [if_neg hi] at k;exact k
theorem Gu (T:Txt w K mg t):FO P w K mg base 1 t.tR ["self"] (vz K t 5):=by
 have sc:=T.oR.sc ["self"];refine T.oR.F.ok sc ln (λ_ _ _ _ H vs Q E hr h=>?_);obtain⟨p,nm,ns,is,os,rfl,hP,hn,k⟩:=h;refine⟨_,(aA (aN (aU Mt (aW (pv 0) Z) au (λ_ _=>Z)))),?_⟩;obtain⟨dx,tn,ti,to,hp,h2,h3,h4⟩:=id hP.ex;match ns,hn with
 | v:: r,hn=>
  exact⟨_,Z,p,cls t 5,dx,_,.ref tn,Z,hp,iD T 5,um T 5,sY _ _ _ _,.inr (.inl ⟨tn,_,0,v,Z,Z,h2,aM (xs:=v:: r) (j:=0) Z,k⟩)⟩
theorem FZ (T:Txt w K mg t):FO P w K mg base 1 t.rm ["self", "values", "kept"] (eQ K t 2):=by
 have sc:=T.lR.sc ["self", "values", "kept"];refine T.lR.F.ok sc ln (λ_ _ _ _ H vs Q E hr h=>?_);obtain⟨p,a,nm,ns,is,os,ws,kp,rfl,hP,ln,hS,lw,hB,k⟩:=h;refine⟨_,(aA (aN (b8 (aa (bc (aa (b8 (aa au (aa (aU aV (pv 1) au (λ_ _=>Z)) ak aF) ao)) ak cC)) (aa (pv 2) ak aj) aQ)))),?_⟩;obtain⟨dx,tn,ti,to,hp,h2,h3,h4⟩:=id hP.ex;match ws,lw with
 | [v],_=>
  have fin:∀H' L rs,aK H H'->H L=none->H' L=some (.lst (rs.map V.ref))->jA H' rs (Kh (cZ 2 ns [v] kp))->∀U,H' U=none->Q (.ref U) (upd H' U (.tup [.ref L,.int (iu 2 [v] kp)])):=Ew k;exact⟨_,Z,a,_,0,_,Z,Z,hS,Z,dW,λt0 n0=>⟨one_le,λL nL=>⟨_,Z,dW,λU nU=>zm (Q:=λx H'=>∀U,H' U=none->Q (.ref U) (upd H' U (.tup [x,.int (iu 2 [v] kp)]))) Z Z fin n0 nL U nU⟩⟩⟩
theorem Fg (T:Txt w K mg t):FO P w K mg base 1 t.rE ["self", "values", "kept"] (eQ K t 3):=by
 have sc:=T.lQ.sc ["self", "values", "kept"];refine T.lQ.F.ok sc ln (λ_ _ _ _ H vs Q E hr h=>?_);obtain⟨p,a,nm,ns,is,os,ws,kp,rfl,hP,ln,hS,lw,hB,k⟩:=h;refine⟨_,(aA (aN (b8 (aa (bc (aa (b8 (aa au (aa (aU aV (pv 1) au (λ_ _=>Z)) ak aF) ao)) (aa (b8 (aa au (aa (aU aV (pv 1) au (λ_ _=>Z)) ak aF) ao)) ak cC) cC)) (aa (pv 2) ak aj) aQ)))),?_⟩;obtain⟨dx,tn,ti,to,hp,h2,h3,h4⟩:=id hP.ex;match ws,lw with
 | [v],_=>
  have fin:∀H' L rs,aK H H'->H L=none->H' L=some (.lst (rs.map V.ref))->jA H' rs (Kh (cZ 3 ns [v] kp))->∀U,H' U=none->Q (.ref U) (upd H' U (.tup [.ref L,.int (iu 3 [v] kp)])):=Ew k;exact⟨_,Z,a,_,0,_,Z,Z,hS,Z,dW,λt0 n0=>⟨_,Z,a,_,0,_,Z,Z,((aB n0).seq hS),Z,dW,λt1 n1=>⟨dW,λL nL=>⟨_,Z,dW,λU nU=>Xi (Q:=λx H'=>∀U,H' U=none->Q (.ref U) (upd H' U (.tup [x,.int (iu 3 [v] kp)]))) Z Z Z Z fin n0 n1 nL U nU⟩⟩⟩⟩
theorem FJ (T:Txt w K mg t):FO P w K mg base 2 t.qX ["self", "values", "kept"] (eQ K t 4):=by
 have sc:=T.mq.sc ["self", "values", "kept"];refine T.mq.F.ok sc ln (λ_ _ _ _ H vs Q E hr h=>?_);obtain⟨p,a,nm,ns,is,os,ws,kp,rfl,hP,ln,hS,lw,hB,k⟩:=h;refine⟨_,(aA (aN (b8 (aa (bc (aa (b8 (aa au (aa (eN (JX T) T.DR hr (aa (bB fD (bB qw (aU Mt (aW (pv 0) Z) au (λ_ _=>Z)) (aU aV (pv 1) au (λ_ _=>Z))) (aU Mt (aW (pv 0) Z) au (λ_ _=>Z))) ak bU)) ak bh) ao)) ak cC)) (aa (pv 2) ak aj) aQ)))),?_⟩;obtain⟨dx,tn,ti,to,hp,h2,h3,h4⟩:=id hP.ex;match ws,lw,ns,ln with
 | [v],_,[m,m1],_=>
  have fin:∀H' L rs,aK H H'->H L=none->H' L=some (.lst (rs.map V.ref))->jA H' rs (Kh (cZ 4 [m,m1] [v] kp))->∀U,H' U=none->Q (.ref U) (upd H' U (.tup [.ref L,.int (iu 4 [v] kp)])):=Ew k;exact⟨_,Z,p,cls t 4,dx,_,.ref tn,Z,hp,iD T 4,um T 4,sY _ _ _ _,.inr (.inl ⟨tn,_,0,_,Z,Z,h2,Z,_,Z,a,_,0,_,Z,Z,hS,Z,_,_,Z,Z,aaN hB (by simp),_,Z,p,cls t 4,dx,_,.ref tn,Z,hp,iD T 4,um T 4,sY _ _ _ _,.inr (.inl ⟨tn,_,1,_,Z,Z,h2,Z,_,_,Z,Z,_,Z,dW,λt0 n0=>⟨one_le,λL nL=>⟨_,Z,dW,λU nU=>zm (Q:=λx H'=>∀U,H' U=none->Q (.ref U) (upd H' U (.tup [x,.int (iu 4 [v] kp)]))) Z Z fin n0 nL U nU⟩⟩⟩)⟩)⟩
theorem Gf (T:Txt w K mg t):FO P w K mg base 2 t.rn ["self", "values", "kept"] (eQ K t 5):=by
 have sc:=T.lK.sc ["self", "values", "kept", "together"];refine T.lK.F.ok sc ln (λ_ _ _ _ H vs Q E hr h=>?_);obtain⟨p,a,nm,ns,is,os,ws,kp,rfl,hP,ln,hS,lw,hB,k⟩:=h;refine⟨_,(az (sN sc 3 (eN (JX T) T.DR hr (aa (bB fD (pv 2) (aU aV (pv 1) au (λ_ _=>Z))) ak bU)))
  (aA (aN (b8 (aa (bc (aa (b8 (aa au (aa (pv 3) ak aj) ao)) ak cC)) (aa (pv 3) ak aj) aQ))))),?_⟩
 obtain⟨dx,tn,ti,to,hp,h2,h3,h4⟩:=id hP.ex;match ws,lw with
 | [v],_=>
  have fin:∀H' L rs,aK H H'->H L=none->H' L=some (.lst (rs.map V.ref))->jA H' rs (Kh (cZ 5 ns [v] kp))->∀U,H' U=none->Q (.ref U) (upd H' U (.tup [.ref L,.int (iu 5 [v] kp)])):=Ew k;exact⟨_,Z,_,Z,a,_,0,_,Z,Z,hS,Z,_,_,Z,Z,_,Z,_,Z,dW,λt0 n0=>⟨one_le,λL nL=>⟨_,Z,dW,λU nU=>zm (Q:=λx H'=>∀U,H' U=none->Q (.ref U) (upd H' U (.tup [x,.int (iu 5 [v] kp)]))) Z Z fin n0 nL U nU⟩⟩⟩
theorem GR (T:Txt w K mg t):FO P w K mg base 2 t.uc ["self", "values", "kept"] (eQ K t 6):=by
 have sc:=T.oJ.sc ["self", "values", "kept"];refine T.oJ.F.ok sc ln (λ_ _ _ _ H vs Q E hr h=>?_);obtain⟨p,a,nm,ns,is,os,ws,kp,rfl,hP,ln,hS,lw,hB,k⟩:=h;refine⟨_,(aA (aN (b8 (aa (bc (aa (b8 (aa au (aa (eN (JX T) T.DR hr (aa (bB fD (aU aV (pv 1) au (λ_ _=>Z)) (aU aV (pv 1) au (λ_ _=>Z))) ak bU)) ak bh) ao)) ak cC)) (aa (pv 2) ak aj) aQ)))),?_⟩;obtain⟨dx,tn,ti,to,hp,h2,h3,h4⟩:=id hP.ex;match ws,lw with
 | [v,v1],_=>
  have fin:∀H' L rs,aK H H'->H L=none->H' L=some (.lst (rs.map V.ref))->jA H' rs (Kh (cZ 6 ns [v,v1] kp))->∀U,H' U=none->Q (.ref U) (upd H' U (.tup [.ref L,.int (iu 6 [v,v1] kp)])):=Ew k;exact⟨_,Z,a,_,0,_,Z,Z,hS,Z,_,Z,a,_,1,_,Z,Z,hS,Z,_,_,Z,Z,_,Z,dW,λt0 n0=>⟨one_le,λL nL=>⟨_,Z,dW,λU nU=>zm (Q:=λx H'=>∀U,H' U=none->Q (.ref U) (upd H' U (.tup [x,.int (iu 6 [v,v1] kp)]))) Z Z fin n0 nL U nU⟩⟩⟩
theorem Ea (T:Txt w K mg t):FO P w K mg base 1 t.rC ["self", "values", "kept"] (eQ K t 7):=by
 have sc:=T.lO.sc ["self", "values", "kept"];refine T.lO.F.ok sc ln (λ_ _ _ _ H vs Q E hr h=>?_);obtain⟨p,a,nm,ns,is,os,ws,kp,rfl,hP,ln,hS,lw,hB,k⟩:=h;refine⟨_,(aA (aN (b8 (aa (bc (aa (b8 (aa au (aa (vO (aZ Ab (aU aV (pv 1) au (λ_ _=>Z)) (aU aV (pv 1) au (λ_ _=>Z)) (bN _)) au au) ak M9) ao)) ak cC)) (aa (pv 2) ak aj) aQ)))),?_⟩;obtain⟨dx,tn,ti,to,hp,h2,h3,h4⟩:=id hP.ex;match ws,lw with
 | [v,v1],_=>
  have fin:∀H' L rs,aK H H'->H L=none->H' L=some (.lst (rs.map V.ref))->jA H' rs (Kh (cZ 7 ns [v,v1] kp))->∀U,H' U=none->Q (.ref U) (upd H' U (.tup [.ref L,.int (iu 7 [v,v1] kp)])):=Ew k;refine⟨_,Z,a,_,0,_,Z,Z,hS,Z,_,Z,a,_,1,_,Z,Z,hS,Z,_,_,Z,Z,_,Z,nH (λh=>?_) (λh=>?_)⟩
  ·have h':v <v1:=of_decide_eq_true h;exact⟨dW,λt0 n0=>⟨one_le,λL nL=>⟨_,Z,dW,λU nU=>zm (Q:=λx H'=>∀U,H' U=none->Q (.ref U) (upd H' U (.tup [x,.int (iu 7 [v,v1] kp)]))) Z (by show(1:Int)=if v <v1 then 1 else 0;rw [if_pos h']) fin n0 nL U nU⟩⟩⟩
  ·have h':¬v <v1:=λz=>h (decide_eq_true z);exact⟨dW,λt0 n0=>⟨one_le,λL nL=>⟨_,Z,dW,λU nU=>zm (Q:=λx H'=>∀U,H' U=none->Q (.ref U) (upd H' U (.tup [x,.int (iu 7 [v,v1] kp)]))) Z (by show(0:Int)=if v <v1 then 1 else 0;rw [if_neg h']) fin n0 nL U nU⟩⟩⟩
theorem CK (T:Txt w K mg t):FO P w K mg base 1 t.pC ["self", "values", "kept"] (eQ K t 8):=by
 have sc:=T.jW.sc ["self", "values", "kept"];refine T.jW.F.ok sc ln (λ_ _ _ _ H vs Q E hr h=>?_);obtain⟨p,a,nm,ns,is,os,ws,kp,rfl,hP,ln,hS,lw,hB,k⟩:=h;refine⟨_,(aA (aN (b8 (aa (bc (aa (b8 (aa au (aa (bA (QZ rfl) (by rfl) T.aap YF (aa (pv 1) ak aj)) ak bh) ao)) (aa (b8 (aa au (aa (bA (QW rfl) (by rfl) T.Ud Nj (aa (pv 1) ak aj)) ak bh) ao)) ak cC) cC)) (aa (pv 2) ak aj) aQ)))),?_⟩;obtain⟨dx,tn,ti,to,hp,h2,h3,h4⟩:=id hP.ex;match ws,lw with
 | [v,v1],_=>
  have fin:∀H' L rs,aK H H'->H L=none->H' L=some (.lst (rs.map V.ref))->jA H' rs (Kh (cZ 8 ns [v,v1] kp))->∀U,H' U=none->Q (.ref U) (upd H' U (.tup [.ref L,.int (iu 8 [v,v1] kp)])):=Ew k;exact⟨_,Z,a,v,v1,Z,hS,dW,λt0 n0=>⟨_,Z,a,v,v1,Z,(aB n0).seq hS,dW,λt1 n1=>⟨dW,λL nL=>⟨_,Z,dW,λU nU=>Xi (Q:=λx H'=>∀U,H' U=none->Q (.ref U) (upd H' U (.tup [x,.int (iu 8 [v,v1] kp)]))) Z Z Z Z fin n0 n1 nL U nU⟩⟩⟩⟩
theorem Aq (T:Txt w K mg t):FO P w K mg base 1 t.nZ ["self", "values", "kept"] (eQ K t 9):=by
 have sc:=T.jK.sc ["self", "values", "kept"];refine T.jK.F.ok sc ln (λ_ _ _ _ H vs Q E hr h=>?_);obtain⟨p,a,nm,ns,is,os,ws,kp,rfl,hP,ln,hS,lw,hB,k⟩:=h;refine⟨_,(aA (aN (b8 (aa (bc (aa (b8 (aa au (aa (aU aV (pv 1) au (λ_ _=>Z)) ak aF) ao)) ak cC)) (aa (pv 2) ak aj) aQ)))),?_⟩;obtain⟨dx,tn,ti,to,hp,h2,h3,h4⟩:=id hP.ex;match ws,lw with
 | [v,v1],_=>
  have fin:∀H' L rs,aK H H'->H L=none->H' L=some (.lst (rs.map V.ref))->jA H' rs (Kh (cZ 9 ns [v,v1] kp))->∀U,H' U=none->Q (.ref U) (upd H' U (.tup [.ref L,.int (iu 9 [v,v1] kp)])):=Ew k;exact⟨_,Z,a,_,1,_,Z,Z,hS,Z,dW,λt0 n0=>⟨one_le,λL nL=>⟨_,Z,dW,λU nU=>zm (Q:=λx H'=>∀U,H' U=none->Q (.ref U) (upd H' U (.tup [x,.int (iu 9 [v,v1] kp)]))) Z Z fin n0 nL U nU⟩⟩⟩
theorem Cz (T:Txt w K mg t):FO P w K mg base 1 t.pY ["self", "values", "kept"] (eQ K t 10):=by
 have sc:=T.jZ.sc ["self", "values", "kept"];refine T.jZ.F.ok sc ln (λ_ _ _ _ H vs Q E hr h=>?_);obtain⟨p,a,nm,ns,is,os,ws,kp,rfl,hP,ln,hS,lw,hB,k⟩:=h;refine⟨_,(aA (aN (b8 (aa (bc (aa (b8 (aa (bB cB (aU aV (pv 1) au (λ_ _=>Z)) au) (aa (aU aV (pv 1) au (λ_ _=>Z)) ak aF) bU)) ak cC)) (aa (pv 2) ak aj) aQ)))),?_⟩;obtain⟨dx,tn,ti,to,hp,h2,h3,h4⟩:=id hP.ex;match ws,lw with
 | [v,v1],_=>
  have fin:∀H' L rs,aK H H'->H L=none->H' L=some (.lst (rs.map V.ref))->jA H' rs (Kh (cZ 10 ns [v,v1] kp))->∀U,H' U=none->Q (.ref U) (upd H' U (.tup [.ref L,.int (iu 10 [v,v1] kp)])):=Ew k;exact⟨_,Z,a,_,0,_,Z,Z,hS,Z,_,_,Z,Z,by show(0:Int) <2;decide,_,Z,a,_,1,_,Z,Z,hS,Z,dW,λt0 n0=>⟨one_le,λL nL=>⟨_,Z,dW,λU nU=>zm (Q:=λx H'=>∀U,H' U=none->Q (.ref U) (upd H' U (.tup [x,.int (iu 10 [v,v1] kp)]))) Z Z fin n0 nL U nU⟩⟩⟩
theorem Dv (T:Txt w K mg t):FO P w K mg base 1 t.qZ ["self", "values", "kept"] (eQ K t 0):=by
 have sc:=T.lZ.sc ["self", "values", "kept"];refine T.lZ.F.ok sc ln (λ_ _ _ _ H vs Q E hr h=>?_);obtain⟨p,a,nm,ns,is,os,ws,kp,rfl,hP,ln,hS,lw,hB,k⟩:=h;refine⟨_,(aA (aN (b8 (aa (bc (aa (b8 (aa au (aa (aU aV (pv 1) au (λ_ _=>Z)) ak aF) ao)) ak cC)) (aa (pv 2) ak aj) aQ)))),?_⟩;obtain⟨dx,tn,ti,to,hp,h2,h3,h4⟩:=id hP.ex;match ws,lw with
 | [v],_=>
  have fin:∀H' L rs,aK H H'->H L=none->H' L=some (.lst (rs.map V.ref))->jA H' rs (Kh (cZ 0 ns [v] kp))->∀U,H' U=none->Q (.ref U) (upd H' U (.tup [.ref L,.int (iu 0 [v] kp)])):=Ew k;exact⟨_,Z,a,_,0,_,Z,Z,hS,Z,dW,λt0 n0=>⟨one_le,λL nL=>⟨_,Z,dW,λU nU=>zm (Q:=λx H'=>∀U,H' U=none->Q (.ref U) (upd H' U (.tup [x,.int (iu 0 [v] kp)]))) Z Z fin n0 nL U nU⟩⟩⟩
theorem Ej (T:Txt w K mg t):FO P w K mg base 1 t.qW ["self", "values", "kept"] (eQ K t 1):=by
 have sc:=T.lU.sc ["self", "values", "kept"];refine T.lU.F.ok sc ln (λ_ _ _ _ H vs Q E hr h=>?_);obtain⟨p,a,nm,ns,is,os,ws,kp,rfl,hP,ln,hS,lw,hB,k⟩:=h;refine⟨_,(aA (aN (b8 (aa (bc ak) (aa (pv 2) ak aj) aQ)))),?_⟩;obtain⟨dx,tn,ti,to,hp,h2,h3,h4⟩:=id hP.ex;match ws,lw with
 | [v],_=>
  have fin:∀H' L rs,aK H H'->H L=none->H' L=some (.lst (rs.map V.ref))->jA H' rs (Kh (cZ 1 ns [v] kp))->∀U,H' U=none->Q (.ref U) (upd H' U (.tup [.ref L,.int (iu 1 [v] kp)])):=Ew k;exact⟨by show 0<=sizeLine;decide,λL nL=>⟨_,Z,dW,λU nU=>fin _ L [] (aB nL) nL aq .nil U nU⟩⟩
inductive Bp (vs:List V) (H:Hp) (Q:VK) (E:XK):Prop where
 | mk:∀a b:Int,vs=[.int a,.int b]->Q (.int (bW a b)) H->Bp vs H Q E
theorem bf (T:Txt w K mg t):FO P w K mg base 1 t.Fo ["_law_cell_here", "_law_k"] (Bp):=by
 have sc:=T.bj.sc ["_law_cell_here", "_law_k", "_law_number"];refine T.bj.F.ok sc ln (λ_ _ _ _ H vs Q E hr h=>?_);obtain⟨a,b,rfl,k⟩:=h;refine⟨_,(az (sN sc 2 (bB cB (bB fD (bB fD (bB qw (bB cB (pv 0) au) au) (bB qw au (pv 1))) au) au))
  (az (sN sc 2 (bB cB (bB qw (pv 2) (pv 2)) au))
  (aA (aN (bB cB (bB qw (bB fD (pv 2) (bB qw au (pv 1))) (pv 2)) au))))),?_⟩
 refine⟨_,Z,_,_,Z,Z,by show(0:Int) <2147483647;decide,_,_,Z,Z,Jy,_,Z,_,_,Z,Z,qP,_,_,Z,Z,_,_,Z,Z,_,_,Z,Z,by show(0:Int) <2147483647;decide,?_⟩;unfold bW at k;have y0:0<=(a % 2147483647 * 48271+7919 * b+11) % 2147483647:=emod_nonneg _ (by decide);have y1:(a % 2147483647 * 48271+7919 * b+11) % 2147483647 <2147483647:=emod_lt_of_pos _ (by decide);refine⟨_,Z,_,Z,_,_,Z,Z,.of_right (intBits_le_64 (Int.lt_of_lt_of_le (show -(2 ^ 64) <(0:Int) by decide) y0) (Int.lt_trans y1 (by decide))),_,_,Z,Z,by show(0:Int) <2147483629;decide,?_⟩;have z0:0<=((a % 2147483647 * 48271+7919 * b+11) % 2147483647) * ((a % 2147483647 * 48271+7919 * b+11) % 2147483647) % 2147483629:=emod_nonneg _ (by decide);have z1:((a % 2147483647 * 48271+7919 * b+11) % 2147483647) * ((a % 2147483647 * 48271+7919 * b+11) % 2147483647) % 2147483629 <2147483629:=emod_lt_of_pos _ (by decide);exact⟨_,Z,_,Z,_,_,Z,Z,qP,_,_,Z,Z,_,Z,_,_,Z,Z,.of_right (intBits_le_64 (Int.lt_of_lt_of_le (show -(2 ^ 64) <(0:Int) by decide) z0) (Int.lt_trans z1 (by decide))),_,_,Z,Z,by show(0:Int) <2147483587;decide,k⟩
inductive zp (K:Fr) (vs:List V) (H:Hp) (Q:VK) (E:XK):Prop where
 | mk:∀(a:Addr) (ns:List Int) (j:Nat),vs=[.ref a,.int (j:Nat)]->bK K H a (ns.map V.int)->Q (.int (oE ns j)) H->zp K vs H Q E
theorem tQ (T:Txt w K mg t):FO P w K mg base 1 t.Br ["_law_script", "_law_k"] (zp K):=by
 have sc:=T.mO.sc ["_law_script", "_law_k"];refine T.mO.F.ok sc ln (λ_ _ _ _ H vs Q E hr h=>?_);obtain⟨a,ns,j,rfl,hS,k⟩:=h;refine⟨_,(az (bQ (aZ Ab (pv 1) (bA bY (by rfl) T.gh dJ (aa (pv 0) ak aj)) (bN _))
   (aA (aN (aU aV (pv 0) (pv 1) (λ_ _=>rfl))))
   bz)
  (aA (aN (bB fD (bB qw au (pv 1)) au)))),?_⟩
 unfold oE at k;refine⟨_,Z,_,Z,.ref a,ns.length,Z,.inl ⟨_,hS,by simp⟩,_,_,Z,Z,_,Z,nH (λh=>?_) (λh=>?_)⟩
 ·have h':j <ns.length:=by have:=of_decide_eq_true h;lia
  rw [getElem?_eq_getElem h'] at k;exact⟨_,rfl,_,rfl,a,_,j,_,rfl,rfl,hS,aM (by rw [getElem?_map,getElem?_eq_getElem h'];rfl),k⟩
 ·have h':¬j <ns.length:=λz=>h (decide_eq_true (by lia));rw [List.getElem?_eq_none (by lia)] at k;exact⟨_,Z,_,_,Z,Z,qP,_,_,Z,Z,k⟩
inductive xX (vs:List V) (H:Hp) (Q:VK) (E:XK):Prop where
 | mk:∀a b:Int,vs=[.int a,.int b]->Q (.int (tW a b)) H->xX vs H Q E
theorem lX (T:Txt w K mg t):FO P w K mg base 2 t.zK ["_law_cell_here", "_law_k"] (xX):=by
 have sc:=T.ji.sc ["_law_cell_here", "_law_k", "_law_number", "_law_way"];refine T.ji.F.ok sc ln (λ_ _ _ _ H vs Q E hr h=>?_);obtain⟨a,b,rfl,k⟩:=h;refine⟨_,(az (sN sc 2 (eN (bf T) T.bj hr (aa (pv 0) (aa (pv 1) ak aj) aj)))
  (az (sN sc 3 (bB cB (bB RK (pv 2) au) au))
  (az (bQ (aZ gP (pv 3) au (bN _))
   (aA (aN (bB cB (pv 2) au)))
   bz)
  (az (bQ (aZ gP (pv 3) au (bN _))
   (aA (aN (bB cB (pv 2) (bB Nx au au))))
   bz)
  (aA (aN (bB M7 (bB M7 (bB Nx au au) au) (bB cB (pv 2) au)))))))),?_⟩
 refine⟨_,Z,_,Z,a,b,Z,?_⟩;unfold tW at k;have n0:=Bl a b;generalize bW a b=n at n0 k ⊢;refine⟨_,Z,_,_,Z,Z,Z5 (by decide) (by decide),_,_,Z,Z,by show(0:Int) <3;decide,?_⟩;refine⟨_,Z,Z,_,Z,nH (λh=>?_) (λh=>?_)⟩
 ·have h':n / 7 % 3=0:=by simpa using of_decide_eq_true h
  rw [if_pos h'] at k;exact⟨_,Z,_,_,Z,Z,by show(0:Int) <5;decide,k⟩
 have h':¬n / 7 % 3=0:=λz=>h (decide_eq_true (by show V.int (n / 7 % 3)=V.int 0;rw [z]));rw [if_neg h'] at k;refine⟨_,Z,Z,_,Z,nH (λh2=>?_) (λh2=>?_)⟩
 ·have h2':n / 7 % 3=1:=by simpa using of_decide_eq_true h2
  rw [if_pos h2'] at k;exact⟨_,Z,_,_,Z,Z,⟨by decide,by decide,by decide⟩,_,_,Z,Z,by show(0:Int) <10 ^ 9;decide,k⟩
 have h2':¬n / 7 % 3=1:=λz=>h2 (decide_eq_true (by show V.int (n / 7 % 3)=V.int 1;rw [z]));rw [if_neg h2'] at k;exact⟨_,_,Z,Z,⟨by decide,by decide,by decide⟩,_,_,Z,Z,_,Z,_,_,Z,Z,by show(0:Int) <3;decide,_,_,Z,Z,k⟩
theorem Ol {x y:Str} (h:x.cps.toList=y.cps.toList):x=y:=PyProof.Rows.ext_toList h
theorem Qw {n:Int} (h0:0<=n) (h1:n <2000):n.natAbs.log2 <1920:=by
 by_cases z:n.natAbs=0
 ·rw [z];decide
 ·have:n.natAbs.log2 <11:=(Nat.log2_lt z).mpr (by lia)
  lia
theorem join_ones (cs:List Nat):(Txt.join Str.empty (cs.map λc=>(⟨#[c]⟩:Str))).cps.toList=cs:=by
 unfold Txt.join;rw [StrLaws.glued_eq_join,Fi];induction cs with
 | nil=>rfl
 | cons c r ih=>simpa using ih
theorem XF {x:Str} {n:Nat} (h:n<=x.length):(Txt.slice x none (some (n:Int))).cps.toList=x.cps.toList.take n:=by have e:=beq_iff_eq.mp (PyProof.Rows.slice_closes_toL (x:=x) (j:=(n:Int)) (by lia) (by lia));rw [e];simp
theorem Ua {x:Str} {n:Nat} (h:n<=x.length):(Txt.slice x (some (n:Int)) none).cps.toList=x.cps.toList.drop n:=by have e:=PyProof.Rows.slice_from_eq (x:=x) (i:=(n:Int)) (b:=(x.length:Int)) (by lia) (by lia) rfl;rw [e];show List.take ((x.length:Int) - n).toNat (List.drop ((n:Int)).toNat x.cps.toList)=_;rw [toNat_natCast,take_of_length_le (by rw [length_drop,pA];lia)]
inductive Aa (vs:List V) (H:Hp) (Q:VK) (E:XK):Prop where
 | mk:∀(a:Int) (b:Nat),vs=[.int a,.int (b:Nat)]->b<=25->(∀H':Hp,aK H H'->Q (.str (cU a b)) H')->Aa vs H Q E
noncomputable abbrev BW:List Str:=["_law_cell_here", "_law_k", "_law_letters", "_law_many", "_law_base", "_law_at"]
theorem o8 (T:Txt w K mg t):FO P w K mg base 2 t.By ["_law_cell_here", "_law_k"] (Aa):=by
 have sc:=T.jQ.sc BW;refine T.jQ.F.ok sc ln (λ_ _ _ _ H vs Q E hr h=>?_);obtain⟨a,b,rfl,b1,k⟩:=h;refine⟨_,(az (sN sc 2 bH)
  (az (bQ (aZ gP (bB cB (eN (bf T) T.bj hr (aa (pv 0) (aa au ak ao) aj)) au) au (bN _))
   (aA (aN (bB yh (aU Et (pv 2) (bB cB (eN (bf T) T.bj hr (aa (pv 0) (aa au ak ao) aj)) au) (λ_ _=>rfl)) (fB Ju (by rfl) T.W8 Tt (aa (bB fD (bB cB (eN (bf T) T.bj hr (aa (pv 0) (aa au ak ao) aj)) au) (bB qw au (pv 1))) ak bU)))))
   bz)
  (az (sN sc 3 (bB cB (eN (bf T) T.bj hr (aa (pv 0) (aa au ak ao) aj)) au))
  (az (sN sc 4 (Em PySem.F.plainAttrs_str PySem.F.slot_str_join PySem.F.type_str_join V3 bH (aa (eE [0,2] BW (aR (top 66)) rfl (jR rfl T.oV (aa (pv 3) ak aj)) (λ_ _ _ _ _=>fK) (λ_ _ _ _ _=>(aU Et (pv 2) (bB cB (eN (bf T) T.bj hr (aa (pv 1) (aa (bB fD au (pv 0)) ak bU) aj)) au) (λ_ _=>rfl)))) ak dZ)))
  (az (sN sc 5 (bB cB (eN (bf T) T.bj hr (aa (pv 0) (aa au ak ao) aj)) (bB fD (pv 3) au)))
  (aA (aN (bB yh (bB yh (j4 Ug (pv 4) ug (j9 (pv 5))) (aU Et (pv 2) (bB cB (bB fD (eN (bf T) T.bj hr (aa (pv 0) (aa au ak ao) aj)) (pv 1)) au) (λ_ _=>rfl))) (j4 Ug (pv 4) (j9 (pv 5)) ug))))))))),?_⟩
 have hl:sizeLine=16777216:=sizeLine_eq;have hF:(cU a b).cps.toList=xF a b:=yu a b;unfold xF at hF;refine⟨_,Z,_,_,Z,⟨_,_,Z,Z,by show(0:Int) <3;decide,Z,_,Z,nH (λhw=>?_) (λhw=>?_)⟩⟩
 ·have hw':bW a 52 % 3=0:=by simpa using of_decide_eq_true hw
  rw [if_pos hw'] at hF;refine⟨_,Z,_,Z,_,_,Z,?_⟩;refine⟨_,_,Z,Z,by show(0:Int) <26;decide,LT,_,_,Z,Z,by rw [Ny];lia,RV _,?_⟩;refine⟨_,Z,_,_,Z,⟨_,_,Z,Z,by show(0:Int) <1000;decide,_,Z,_,_,Z,Z,qP,_,_,Z,Z,?_⟩⟩;have q0:=emod_nonneg (bW a 54) (show(1000:Int)≠0 by decide);have q1:=emod_lt_of_pos (bW a 54) (show(0:Int) <1000 by decide);obtain⟨m,hm⟩:∃m:Nat,bW a 54 % 1000+37 * (b:Int)=(m:Int):=⟨(bW a 54 % 1000+37 * (b:Int)).toNat,by lia⟩;obtain⟨_,g2,_⟩:=rT (n:=m) (by lia);have g3:(toString (m:Int):Str).length<=4:=by rw [<-pA];exact g2
  have e:(⟨#[KJ (bW a 53)]⟩:Str) ++ (toString (m:Int):Str)=cU a b:=Ol (by rw [hF,Str.cps_append,hm,toNat_natCast];simp only [Array.toList_append];rfl)
  have k':=k H (aK.refl _);rw [<-e] at k';dsimp only;rw [hm];exact⟨_,Z,Qw (by lia) (by lia),_,_,Z,Z,by show 1+_<=sizeLine;lia,k'⟩
 have hw':¬bW a 52 % 3=0:=λz=>hw (decide_eq_true (by show V.int (bW a 52 % 3)=V.int 0;rw [z]));rw [if_neg hw'] at hF;refine⟨_,Z,_,_,Z,⟨_,_,Z,Z,by show(0:Int) <7;decide,?_⟩⟩;have z0:=emod_nonneg (bW a 50) (show(7:Int)≠0 by decide);have z1:=emod_lt_of_pos (bW a 50) (show(0:Int) <7 by decide);refine⟨Z,_,Z,bW a 50 % 7,Z,by lia,by lia,?_⟩;refine pF (λi ys H'=>H'=H/\ys=((List.range i).map λj=>KJ (bW a (60+(j:Nat)))).map λc=>V.str ⟨#[c]⟩) (by lia) ⟨Z,Z⟩ (λi ys H' ⟨_,e⟩=>by rw [e,lM,lM,length_range];lia) ?_ ?_
 ·rintro i ys H' hi ⟨rfl,rfl⟩;refine yes ?_;refine⟨_,Z,_,Z,_,Z,_,_,Z,Z,_,_,Z,?_⟩;refine⟨_,_,rfl,rfl,by show(0:Int) <26;decide,LT,_,_,rfl,rfl,by rw [Ny];lia,RV _,rfl,?_⟩;rw [range_succ,map_append,map_append];simp
 rintro ys H' ⟨rfl,rfl⟩ D hD;have eb:((List.range (bW a 50 % 7).toNat).map λj=>KJ (bW a (60+(j:Nat))))=ie a:=rfl;rw [eb];have s1:aK H' (upd H' D (.lst ((ie a).map λc=>V.str ⟨#[c]⟩))):=aB hD;have bl:=(zr a).1;have es:((ie a).map λc=>V.str ⟨#[c]⟩)=((ie a).map λc=>(⟨#[c]⟩:Str)).map V.str:=by rw [map_map];rfl
 refine⟨Str.empty,D,(ie a).map λc=>(⟨#[c]⟩:Str),Z,Z,bK.of (by rw [<-es];exact aq),?_,?_⟩
 ·have:=Tz (n:=1) ((ie a).map λc=>(⟨#[c]⟩:Str)) λw h=>by obtain⟨c,_,rfl⟩:=mem_map.mp h;exact le_refl 1
  have he:Str.empty.length=0:=rfl;rw [he];rw [lM] at this
  lia
 have ej:=join_ones (ie a);generalize upd H' D (.lst ((ie a).map λc=>V.str ⟨#[c]⟩))=H1 at s1 ⊢;generalize Txt.join Str.empty ((ie a).map λc=>(⟨#[c]⟩:Str))=x0 at ej ⊢;have hx0:x0.length=(ie a).length:=by rw [<-pA,ej]
 refine⟨_,Z,_,_,Z,⟨_,Z,_,_,Z,Z,_,_,Z,Z,by show(0:Int) <bW a 50 % 7+1;lia,?_⟩⟩;have hsp:=J4 a;obtain⟨n,hn,hn2⟩:∃n:Nat,bW a 51 % (bW a 50 % 7+1)=(n:Int)/\n=qG a:=⟨qG a,(Int.toNat_of_nonneg (emod_nonneg _ (by lia))).symm,rfl⟩;rw [<-hn2] at hsp hF;dsimp only;rw [hn];have s0:=Txt.slice_le x0 none (some (n:Int));have s2:=Txt.slice_le x0 (some (n:Int)) none;refine⟨_,Z,_,Z,_,Z,x0,Z,by lia,_,Z,_,Z,_,_,Z,⟨_,Z,_,_,Z,Z,?_⟩⟩;have h1:(⟨#[KJ (bW a 55+(b:Int))]⟩:Str).length=1:=rfl;refine⟨_,_,rfl,rfl,by show(0:Int) <26;decide,LT,_,_,rfl,rfl,by rw [Ny];lia,RV _,_,_,rfl,rfl,by rw [h1];lia,?_⟩;refine⟨_,Z,_,Z,_,Z,x0,Z,by lia,_,_,Z,Z,by rw [Str.length_append,h1];lia,?_⟩;have e:Txt.slice x0 none (some (n:Int)) ++ (⟨#[KJ (bW a 55+(b:Int))]⟩:Str) ++ Txt.slice x0 (some (n:Int)) none=cU a b:=Ol (by rw [hF,Str.cps_append,Str.cps_append];simp only [Array.toList_append];rw [XF (by lia),Ua (by lia),ej];simp)
 rw [e];exact k H1 s1
theorem aae (m:Int):∃c:Nat,Ji [V.int 0,.int 0,.int 0,.int 1,.int 2] (m % 5)=some (.int (c:Nat))/\c<=2:=by
 have key:∀j,j <5->Ji [V.int 0,.int 0,.int 0,.int 1,.int 2] ((j:Nat):Int)=some (.int (([0,0,0,1,2]:List Nat).getD j 0:Nat))/\([0,0,0,1,2]:List Nat).getD j 0<=2:=by decide +kernel
 obtain⟨j,e,hj⟩:=Oa m (n:=5) (k:=5) (by decide) rfl;rw [e];exact⟨_,key j hj⟩
theorem ZZ (m:Int):∃c:Nat,Ji [V.int 0,.int 0,.int 1,.int 1,.int 2,.int 7] (m % 6)=some (.int (c:Nat))/\c<=7:=by
 have key:∀j,j <6->Ji [V.int 0,.int 0,.int 1,.int 1,.int 2,.int 7] ((j:Nat):Int)=some (.int (([0,0,1,1,2,7]:List Nat).getD j 0:Nat))/\([0,0,1,1,2,7]:List Nat).getD j 0<=7:=by decide +kernel
 obtain⟨j,e,hj⟩:=Oa m (n:=6) (k:=6) (by decide) rfl;rw [e];exact⟨_,key j hj⟩
inductive zj (vs:List V) (H:Hp) (Q:VK) (E:XK):Prop where
 | mk:∀(d:Dw) (ls:List aJ) (ps:List PD) (os:List Str) (c:Int) (b:Bool),vs=[.ref d.S,.int c,.bl b]->oO d H ls ps os->ls.length<=24->(∀(l:aJ) (H':Hp),l.name=cU d.c3 ls.length->aK (bL d.E H) (bL d.E H')->oO d H' (ls ++ [l]) ps os->Q (.str l.name) H')->zj vs H Q E
noncomputable abbrev BK:List Str:=["_law_state", "_law_cell_here", "_law_back", "_law_many", "_law_first", "_law_room", "_law_name"]
theorem j7 (T:Txt w K mg t):FO P w K mg base 3 t.Ca ["_law_state", "_law_cell_here", "_law_back"] (zj):=by
 have sc:=T.iU.sc BK;refine T.iU.F.ok sc ln (λ_ _ _ _ H vs Q E hr h=>?_);obtain⟨d,ls,ps,os,c,b,rfl,D,hn,k⟩:=h;refine⟨_,(az (sN sc 3 (aU aV (bc (aa au (aa au (aa au (aa au (aa au ak ao) ao) ao) ao) ao)) (bB cB (eN (bf T) T.bj hr (aa (pv 1) (aa au ak ao) aj)) au) (λ_ _=>Z)))
  (az (dM (bQ (jL (pv 2))
   (aA (sN sc 3 (bB cB (eN (bf T) T.bj hr (aa (pv 1) (aa au ak ao) aj)) au)))
   bz))
  (az (jc (i:=4) [1] BK (aR (top 67)) rfl sc.nd rfl (jR rfl T.oV (aa (pv 3) ak aj)) (λ_ _ _ _ _=>fK) (λ_ _ _ _ _=>(eN (lX T) T.ji hr (aa (pv 1) (aa (bB fD au (pv 0)) ak bU) aj))))
  (az (sN sc 5 (bB fD (bA (Hx rfl) (by rfl) T.Ud Nj (aa au (aa (pv 3) ak aj) ao)) (aU aV (bc (@aa _ _ _ _ _ au (@aa _ _ _ _ _ au (@aa _ _ _ _ _ au (@aa _ _ _ _ _ au (@aa _ _ _ _ _ au (@aa _ _ _ _ _ au ak ao) ao) ao) ao) ao) ao)) (bB cB (eN (bf T) T.bj hr (aa (pv 1) (aa au ak ao) aj)) au) (λ_ _=>rfl))))
  (az (sN sc 6 (eN (o8 T) T.jQ hr (aa (aU aV (pv 0) au (λ_ _=>rfl)) (aa (bA bY (by rfl) T.gh dJ (aa (aU aV (pv 0) au (λ_ _=>rfl)) ak aF)) ak bh) aF)))
  (az (bw (NT (aU aV (pv 0) au (λ_ _=>rfl)) (aa (b8 (aa (pv 6) (aa (pv 5) (aa (pv 4) ak aj) aj) aj)) ak cC)))
  (aA (aN (pv 6))))))))),?_⟩
 have hl:sizeLine=16777216:=sizeLine_eq;refine⟨by show 5<=sizeLine;lia,λl0 n0=>?_⟩;have s0:=aB (o:=.lst [.int 0,.int 0,.int 0,.int 1,.int 2]) n0;obtain⟨c0,e0,h0⟩:=aae (bW c 1);refine⟨_,Z,_,_,Z,_,_,Z,Z,by show(0:Int) <5;decide,l0,_,_,_,Z,Z,bK.of aq,e0,?_⟩;generalize upd H l0 (.lst [.int 0,.int 0,.int 0,.int 1,.int 2])=H0 at s0 ⊢;refine⟨λσ H1=>∃m:Nat,m<=3/\H1=H0/\σ=[some (.ref d.S),some (.int c),some (.bl b),some (.int (m:Nat)),none,none,none],?_,?_⟩
 ·cases b
  ·exact⟨_,Z,false,Z,cj ⟨c0,by lia,Z,Z⟩⟩
  ·refine⟨_,Z,true,Z,gm ⟨_,Z,_,_,Z,_,_,Z,Z,by show(0:Int) <4;decide,?_⟩⟩;have h1:=emod_nonneg (bW c 1) (show(4:Int)≠0 by decide);have h2:=emod_lt_of_pos (bW c 1) (show(0:Int) <4 by decide);refine⟨(bW c 1 % 4).toNat,by lia,Z,?_⟩;rw [Int.toNat_of_nonneg h1];rfl
 rintro σ H1 ⟨m,hm,rfl,rfl⟩;refine⟨_,Z,(m:Int),Z,by lia,by lia,?_⟩;rw [toNat_natCast];refine pF (λi ys H'=>H'=H1/\∃ws:List Int,ys=ws.map V.int/\ws.length=i/\∀v∈ws,0<=v/\v <1000000000) (by lia) ⟨Z,[],Z,Z,by simp⟩ (λi ys H' ⟨_,ws,e,e2,_⟩=>by rw [e,lM];lia) ?_ ?_
 ·rintro i ys H' hi ⟨rfl,ws,rfl,hw,hB⟩;refine yes ⟨_,Z,_,Z,_,_,Z,Z,c,10+(0+(i:Int)),Z,Z,ws ++ [tW c (10+(0+(i:Int)))],by simp,by simp [hw],λv hv=>?_⟩;rcases mem_append.mp hv with hv | hv
  ·exact hB v hv
  ·rw [mem_singleton] at hv;subst hv;exact wQ _ _
 rintro ys H' ⟨rfl,ws,rfl,hw,hB⟩ F nF;have t1:=aB (o:=.lst (ws.map V.int)) nF;have sF:=s0.trans t1;have eF:upd H' F (.lst (ws.map V.int)) F=some (.lst (ws.map V.int)):=aq;have oF:F∉d.E:=D.out (s0.free nF);generalize upd H' F (.lst (ws.map V.int))=H2 at t1 sF eF ⊢;refine⟨_,Z,_,_,Z,by show 6<=sizeLine;lia,λl1 n1=>?_⟩;have t2:=aB (o:=.lst [.int 0,.int 0,.int 1,.int 1,.int 2,.int 7]) n1;obtain⟨c1,e1,h1⟩:=ZZ (bW c 2);refine⟨_,Z,_,_,Z,_,_,Z,Z,by show(0:Int) <6;decide,l1,_,_,_,Z,Z,bK.of aq,e1,_,_,Z,Z,?_⟩;have s2:=sF.trans t2;have eF2:=t2 _ _ eF;generalize upd H2 l1 (.lst [.int 0,.int 0,.int 1,.int 1,.int 2,.int 7])=H3 at t2 s2 eF2 ⊢;have D3:=D.keep s2;obtain⟨xs,eL,aL⟩:=D3.lanes;have xl:=aL.length;refine⟨_,Z,d.S,_,3,_,Z,Z,D3.seqS,aM (j:=3) Z,?_⟩;refine⟨_,Z,d.S,_,0,_,Z,Z,D3.seqS,aM (j:=0) Z,.ref d.L,ls.length,Z,.inl ⟨_,bK.of eL,xl.symm⟩,?_⟩;refine⟨d.c3,ls.length,Z,by lia,λH4 s4=>?_⟩;have D4:=D3.keep s4;have eL4:=s4 _ _ eL;have eF4:=s4 _ _ eF2;have s04:=s2.trans s4;refine⟨_,Z,d.S,_,0,_,Z,Z,D4.seqS,aM (j:=0) Z,?_⟩;refine⟨.inl ⟨Z,_,bK.of eL4⟩,_,Z,_,Z,_,Z,by show 3<=sizeLine;lia,λq nq=>?_⟩;have t5:=aB (o:=.tup [.str (cU d.c3 ls.length),.int ((if (m:Int) >1 then(m:Int) else 1)+(c1:Int)),.ref F]) nq;have s5:=s04.trans t5;have D5:=D4.keep t5;have oq:q∉d.E:=D4.out nq;have eq:upd H4 q (.tup [.str (cU d.c3 ls.length),.int ((if (m:Int) >1 then(m:Int) else 1)+(c1:Int)),.ref F]) q=some (.tup [.str (cU d.c3 ls.length),.int ((if (m:Int) >1 then(m:Int) else 1)+(c1:Int)),.ref F]):=aq;have eL5:=t5 _ _ eL4;have eF5:=t5 _ _ eF4;refine⟨d.L,xs,_,Z,Z,eL5,by lia,_,Z,?_⟩;refine k ⟨cU d.c3 ls.length,(if (m:Int) >1 then(m:Int) else 1)+(c1:Int),ws⟩ _ rfl ?_ (D5.lane ⟨q,F,rfl,f9 eq oq,f9 eF5 oF⟩ ⟨by dsimp only;split <;> lia,by dsimp only;split <;> lia,by dsimp only;split <;> lia,hB⟩ rfl eL5);rw [eY (by simp)];exact D.cut s5
theorem pop_at:∀{os:List Str} {j:Nat} (h:j <os.length),os.Perm (os[j]:: os.eraseIdx j)
 | [],_,h=>absurd h (by simp)
 | a:: l,0,_=>.refl _
 | a:: l,j+1,h=>by
  have h':j <l.length:=by simpa using h
  show(a:: l).Perm (l[j]:: a:: l.eraseIdx j);exact((pop_at (os:=l) (j:=j) (by simpa using h)).cons a).trans (.swap _ _ _)
theorem GZ {α β:Type} {f:α->β}:∀(l:List α) (j:Nat),(l.map f).eraseIdx j=(l.eraseIdx j).map f
 | [],_=>rfl
 | a:: l,0=>rfl
 | a:: l,j+1=>by show f a:: (l.map f).eraseIdx j=f a:: (l.eraseIdx j).map f;rw [GZ l j]
theorem Nh {j n:Nat} (h:j <n):seqIndex? (j:Int) n=some j:=by
 unfold seqIndex?;have z:¬(j:Int) <0:=by lia
 simp [h,z]
inductive yV (vs:List V) (H:Hp) (Q:VK) (E:XK):Prop where
 | mk:∀(d:Dw) (ls:List aJ) (ps:List PD) (os:List Str) (n:Int),vs=[.ref d.S,.int n]->oO d H ls ps os->os≠[]->os.length<=100->(∀(x:Str) (os':List Str) (H':Hp),os.Perm (x:: os')->aK (bL d.E H) (bL d.E H')->oO d H' ls ps os'->Q (.str x) H')->yV vs H Q E
theorem tD (T:Txt w K mg t):FO P w K mg base 1 t.Cj ["_law_state", "_law_number"] (yV):=by
 have sc:=T.mC.sc ["_law_state", "_law_number"];refine T.mC.F.ok sc ln (λ_ _ _ _ H vs Q E hr h=>?_);obtain⟨d,ls,ps,os,n,rfl,D,hne,hs,k⟩:=h;refine⟨_,(aA (aN (Em PySem.F.plainAttrs_list PySem.F.slot_list_pop PySem.F.type_list_pop Dr (aU aV (pv 0) au (λ_ _=>rfl)) (aa (bB cB (pv 1) (bA bY (by rfl) T.gh dJ (aa (aU aV (pv 0) au (λ_ _=>rfl)) ak aF))) ak bU)))),?_⟩;have hpos:0 <os.length:=List.length_pos_iff.mpr hne;refine⟨_,Z,d.S,_,2,_,Z,Z,D.seqS,aM (j:=2) Z,.inl ⟨Z,_,bK.of D.opens⟩,?_⟩;refine⟨_,Z,_,Z,d.S,_,2,_,Z,Z,D.seqS,aM (j:=2) Z,.ref d.O,os.length,Z,.inl ⟨_,bK.of D.opens,by simp⟩,n,(os.length:Int),Z,Z,by lia,?_⟩;have h0:=emod_nonneg n (show(os.length:Int)≠0 by lia);have h1:=emod_lt_of_pos n (show(0:Int) <(os.length:Int) by lia);obtain⟨j,hj⟩:∃j:Nat,n % (os.length:Int)=(j:Int):=⟨(n % (os.length:Int)).toNat,by lia⟩;have hj':j <os.length:=by lia
 refine⟨d.O,_,(j:Int),j,.str os[j],rfl,by show [V.int (n % (os.length:Int))]=_;rw [hj],D.opens,by lia,by lia,by rw [lM];exact Nh hj',by rw [getElem?_map,getElem?_eq_getElem hj'];rfl,?_⟩;rw [GZ];exact k os[j] (os.eraseIdx j) _ (pop_at hj') (by rw [eY (by simp)];exact aK.refl _) D.open
inductive zg (vs:List V) (H:Hp) (Q:VK) (E:XK):Prop where
 | mk:∀(d:Dw) (ls:List aJ) (ps:List PD) (os:List Str) (c:Int) (i:Nat) (a1 a2:Addr) (nums:List Int) (ins:List Str) (many:Nat),vs=[.ref d.S,.int c,.str (cL i),.ref a1,.ref a2,.int (many:Nat)]->oO d H ls ps os->bL d.E H a1=some (.lst (nums.map V.int))->bL d.E H a2=some (.lst (ins.map V.str))->i <11->nums.length=cN i->((∀v∈nums,0<=v/\v <1000000000))->ins.length=cI i->many=cO i->ls.length<=22->ps.length<=25->os.length<=100->(∀(newl:List aJ) (H':Hp),newl.length=many->aK (bL d.E H) (bL d.E H')->oO d H' (ls ++ newl) (ps ++ [⟨i,cU d.c4 ps.length,nums,ins,newl.map (·.name)⟩]) (os ++ newl.map (·.name))->Q .non H')->zg vs H Q E
noncomputable abbrev Bk:List Str:=["_law_state", "_law_cell_here", "_law_kind", "_law_numbers", "_law_ins", "_law_many", "_law_outs"]
theorem cT (T:Txt w K mg t):FO P w K mg base 4 t.Bw ["_law_state", "_law_cell_here", "_law_kind", "_law_numbers", "_law_ins", "_law_many"] (zg):=by
 have sc:=T.cD.sc Bk;refine T.cD.F.ok sc ln (λ_ _ _ _ H vs Q E hr h=>?_);obtain⟨d,ls,ps,os,c,i,a1,a2,nums,ins,many,rfl,D,e1,e2,hi,hN,hB,hI,hO,hls,hps,hos,k⟩:=h;refine⟨_,(az (jc (i:=6) [0,1] Bk (aR (top 68)) Z sc.nd Z (jR Z T.oV (aa (pv 5) ak aj)) (λ_ _ _ _ _=>fK) (λ_ _ _ _ _=>(eN (j7 T) T.iU hr (aa (pv 1) (aa (eN (bf T) T.bj hr (aa (pv 2) (aa (bB fD au (pv 0)) ak bU) aj)) (aa ir ak ao) bh) aj))))
  (az (bw (NT (aU aV (pv 0) au (λ_ _=>rfl)) (aa (b8 (aa (pv 2) (aa (eN (o8 T) T.jQ hr (aa (aU aV (pv 0) au (λ_ _=>rfl)) (aa (bA bY (by rfl) T.gh dJ (aa (aU aV (pv 0) au (λ_ _=>rfl)) ak aF)) ak bh) aF)) (aa (pv 3) (aa (pv 4) (aa (pv 6) ak aj) aj) aj) bh) aj)) ak cC)))
  (aA (bw (Em PySem.F.plainAttrs_list PySem.F.slot_list_extend PySem.F.type_list_extend HY (aU aV (pv 0) au (λ_ _=>rfl)) (aa (pv 6) ak aj)))))),?_⟩
 have hl:sizeLine=16777216:=sizeLine_eq;have hm2:many<=2:=by rw [hO];exact Uc i
 refine⟨_,Z,(many:Int),Z,by lia,by lia,?_⟩;rw [toNat_natCast];refine pF (λi ys H'=>∃newl:List aJ,newl.length=i/\ys=newl.map (λl=>V.str l.name)/\aK (bL d.E H) (bL d.E H')/\oO d H' (ls ++ newl) ps os) (by lia) ⟨[],Z,Z,aK.refl _,by rw [append_nil];exact D⟩ (λi ys H' ⟨newl,e,e2,_⟩=>by rw [e2,lM];lia) ?_ ?_
 ·rintro j ys H' hj ⟨newl,hn,rfl,s,D'⟩;refine yes ⟨_,Z,_,Z,_,Z,_,_,Z,Z,c,20+(0+(j:Int)),Z,?_⟩;refine⟨d,ls ++ newl,ps,os,_,false,Z,D',by rw [lP];lia,λl H1 _ s1 D1=>?_⟩;exact⟨newl ++ [l],by simp [hn],by simp,s.trans s1,by rw [<-append_assoc];exact D1⟩
 rintro ys H1 ⟨newl,hn,rfl,s1,D1⟩ F nF;have t1:=aB (o:=.lst (newl.map λl=>V.str l.name)) nF;have eF:upd H1 F (.lst (newl.map λl=>V.str l.name)) F=some (.lst ((newl.map (·.name)).map V.str)):=by rw [map_map];exact aq
 have oF:=D1.out nF;have D2:=D1.keep t1;have s2:=s1.trans (D1.cut t1);generalize upd H1 F (.lst (newl.map λl=>V.str l.name))=H2 at t1 eF D2 s2 ⊢;obtain⟨xs,eP,aP⟩:=D2.parts;have xl:=aP.length;refine⟨_,Z,d.S,_,1,_,Z,Z,D2.seqS,aM (j:=1) Z,.inl ⟨Z,_,bK.of eP⟩,?_⟩;refine⟨_,Z,_,Z,d.S,_,4,_,Z,Z,D2.seqS,aM (j:=4) Z,?_⟩;refine⟨_,Z,d.S,_,1,_,Z,Z,D2.seqS,aM (j:=1) Z,.ref d.P,ps.length,Z,.inl ⟨_,bK.of eP,xl.symm⟩,?_⟩;refine⟨d.c4,ps.length,Z,by lia,λH3 s3=>?_⟩;have D3:=D2.keep s3;have t3:=s2.trans (D2.cut s3);have eP3:=s3 _ _ eP;have eF3:=s3 _ _ eF;refine⟨_,Z,_,Z,_,Z,by show 5<=sizeLine;lia,λq nq=>?_⟩;have s4:=aB (o:=.tup [.str (cL i),.str (cU d.c4 ps.length),.ref a1,.ref a2,.ref F]) nq;have D4:=D3.keep s4;have t4:=t3.trans (D3.cut s4);have eP4:=s4 _ _ eP3;have eF4:=s4 _ _ eF3;have oq:=D3.out nq;have eq:upd H3 q (.tup [.str (cL i),.str (cU d.c4 ps.length),.ref a1,.ref a2,.ref F]) q=some (.tup [.str (cL i),.str (cU d.c4 ps.length),.ref a1,.ref a2,.ref F]):=aq;refine⟨d.P,xs,_,Z,Z,eP4,by lia,?_⟩;generalize upd H3 q (.tup [.str (cL i),.str (cU d.c4 ps.length),.ref a1,.ref a2,.ref F])=H4 at s4 D4 t4 eP4 eF4 eq ⊢;have D5:=D4.part (p:=⟨i,cU d.c4 ps.length,nums,ins,newl.map (·.name)⟩) ⟨q,a1,a2,F,rfl,f9 eq oq,t4 _ _ e1,t4 _ _ e2,f9 eF4 oF⟩ ⟨hi,hN,hI,by show(newl.map _).length=_;rw [lM,hn];exact hO,hB⟩ rfl eP4;have hcu:bL d.E (upd H4 d.P (.lst (xs ++ [.ref q])))=bL d.E H4:=eY (by simp);have eF5:upd H4 d.P (.lst (xs ++ [.ref q])) F=some (.lst ((newl.map (·.name)).map V.str)):=by rw [aG (λz=>oF (by rw [z];simp))];exact eF4
 generalize upd H4 d.P (.lst (xs ++ [.ref q]))=H5 at D5 hcu eF5 ⊢;refine⟨_,Z,d.S,_,2,_,Z,Z,D5.seqS,aM (j:=2) Z,.inl ⟨Z,_,bK.of D5.opens⟩,?_⟩;refine⟨_,Z,d.O,F,_,_,Z,Z,D5.opens,eF5,by rw [lM,lM,lM];lia,?_⟩;rw [<-map_append];exact k newl _ hn (by rw [eY (by simp),hcu];exact t4) D5.open
theorem Xl (m:Int):∃i:Nat,Ji [V.str "add",V.str "less"] (m % 2)=some (.str (cL i))/\(i=6∨i=7):=by
 have h0:=emod_nonneg m (show(2:Int)≠0 by decide);have h1:=emod_lt_of_pos m (show(0:Int) <2 by decide);have:m % 2=0∨m % 2=1:=by lia
 rcases this with e | e <;> rw [e]
 ·exact⟨6,Z,.inl Z⟩
 ·exact⟨7,Z,.inr Z⟩
theorem K3 {one other:Str} {os os1:List Str} (h:os.Perm (other:: os1)):(one:: os).Perm ([one,other] ++ os1):=h.cons one
theorem aao {one other third:Str} {os os1 os2:List Str} (h:os.Perm (other:: os1)) (h2:os1.Perm (third:: os2)):(one:: os).Perm ([one,other,third] ++ os2):=(h.trans (h2.cons other)).cons one
inductive Bq (vs:List V) (H:Hp) (Q:VK) (E:XK):Prop where
 | mk:∀(d:Dw) (ls:List aJ) (ps:List PD) (os:List Str) (c:Int) (one:Str) (back:List Str) (odd:Bool),vs=[.ref d.S,.int c,.str one,.bl odd]->oO d H ls ps os->Drawn.WF (vX ls ps (one:: os) back)->os≠[]->os.length<=3->ls.length<=20->ps.length<=22->(∀ls' ps' os' H',Nxt d H H' ls ps back ls' ps' os'->Q .non H')->Bq vs H Q E
theorem K6 (T:Txt w K mg t):FO P w K mg base 5 t.Eb ["_law_state", "_law_cell_here", "_law_one", "_law_odd"] (Bq):=by
 have sc:=T.yo.sc ["_law_state", "_law_cell_here", "_law_one", "_law_odd", "_law_other", "_law_way", "_law_third"];refine T.yo.F.ok sc ln (λ_ _ _ _ H vs Q E hr h=>?_);obtain⟨d,ls,ps,os,c,one,back,odd,rfl,D,w,hne,ho,hls,hps,k⟩:=h;refine⟨_,(az (sN sc 4 (eN (tD T) T.mC hr (aa (pv 0) (aa (eN (bf T) T.bj hr (aa (pv 1) (aa au ak ao) aj)) ak bh) aj)))
  (az (sN sc 5 (bB cB (eN (bf T) T.bj hr (aa (pv 1) (aa au ak ao) aj)) au))
  (aA (dM (bQ (PW.pt (Ds (jL (pv 3)) (Ds (aZ Ab (pv 5) au (bN _)) (Df (aZ PX (bA bY (by rfl) T.gh dJ (aa (aU aV (pv 0) au (λ_ _=>rfl)) ak aF)) au (bN _))))))
   (az (sN sc 6 (eN (tD T) T.mC hr (aa (pv 0) (aa (eN (bf T) T.bj hr (aa (pv 1) (aa au ak ao) aj)) ak bh) aj)))
   (aA (bw (eN (cT T) T.cD hr (@aa _ _ _ _ _ (pv 0) (@aa _ _ _ _ _ (pv 1) (@aa _ _ _ _ _ bH (@aa _ _ _ _ _ (bc ak) (@aa _ _ _ _ _ (bc (aa (pv 2) (aa (pv 4) (aa (pv 6) ak aj) aj) aj)) (@aa _ _ _ _ _ au ak ao) aQ) aQ) ao) aj) aj)))))
   (aA (dM (bQ (PW.pt (Ds (jL (pv 3)) (Df (aZ Ab (pv 5) au (bN _)))))
    (aA (bw (eN (cT T) T.cD hr (@aa _ _ _ _ _ (pv 0) (@aa _ _ _ _ _ (pv 1) (@aa _ _ _ _ _ bH (@aa _ _ _ _ _ (bc ak) (@aa _ _ _ _ _ (bc (aa (pv 2) (aa (pv 4) ak aj) aj)) (@aa _ _ _ _ _ au ak ao) aQ) aQ) ao) aj) aj))))
    (aA (dM (bQ (aZ gP (bB cB (pv 5) au) au (bN _))
     (aA (bw (eN (cT T) T.cD hr (@aa _ _ _ _ _ (pv 0) (@aa _ _ _ _ _ (pv 1) (@aa _ _ _ _ _ bH (@aa _ _ _ _ _ (bc ak) (@aa _ _ _ _ _ (bc (aa (pv 2) (aa (pv 4) ak aj) aj)) (@aa _ _ _ _ _ au ak ao) aQ) aQ) ao) aj) aj))))
     (aA (bw (eN (cT T) T.cD hr (@aa _ _ _ _ _ (pv 0) (@aa _ _ _ _ _ (pv 1) (@aa _ _ _ _ _ (aU aV (bc (aa bH (aa bH ak ao) ao)) (bB cB (pv 5) au) (λ_ _=>rfl)) (@aa _ _ _ _ _ (bc ak) (@aa _ _ _ _ _ (bc (aa (pv 2) (aa (pv 4) ak aj) aj)) (@aa _ _ _ _ _ au ak ao) aQ) aQ) aF) aj) aj))))))))))))))),?_⟩
 have hl:sizeLine=16777216:=sizeLine_eq;refine⟨_,Z,_,Z,_,_,Z,d,ls,ps,os,_,Z,D,hne,by lia,λother os1 H1 p1 s1 D1=>?_⟩;have l1:=p1.length_eq;rw [length_cons] at l1;refine⟨_,Z,_,_,Z,_,_,Z,Z,by show(0:Int) <6;decide,?_⟩;refine⟨λ_ H'=>Q .non H',?_,λ_ _ h=>h⟩;have fin:∀{i:Nat} {nm:Str} {newl:List aJ} {ins os2:List Str} {H':Hp},aK (bL d.E H) (bL d.E H')->oO d H' (ls ++ newl) (ps ++ [⟨i,nm,[],ins,newl.map (·.name)⟩]) (os2 ++ newl.map (·.name))->(one:: os).Perm (ins ++ os2)->newl.length≠0->newl.length<=2->os2.length+newl.length<=4->Q .non H':=λs DD hp h1 h2 h4=>
  k _ _ _ _ ⟨s,DD,rY w rfl DD hp h1 (by rw [lP];lia),by rw [lP,lM];lia,by rw [lP,lM];lia,by rw [lP];lia,by rw [lP,length_singleton];lia,λc=>c.app⟩
 cases odd
 ·refine⟨_,Z,false,Z,cj (cj ?_)⟩;refine⟨λ_ H'=>Q .non H',?_,λ_ _ h=>h⟩;refine⟨_,Z,false,Z,cj (cj ?_)⟩;refine⟨λ_ H'=>Q .non H',?_,λ_ _ h=>h⟩;refine⟨_,Z,_,_,Z,Z,by show(0:Int) <3;decide,Z,_,Z,nH (λ_=>?_) (λ_=>?_)⟩
  ·refine⟨_,Z,_,Z,by show 0<=sizeLine;lia,λa1 n1=>⟨_,Z,_,Z,by show 2<=sizeLine;lia,λa2 n2=>?_⟩⟩;obtain⟨D9,z1,z2,z3⟩:=D1.two n1 n2 (y:=.lst [.str one,.str other]);refine⟨d,_,_,os1,_,8,a1,a2,[],[one,other],2,Z,D9,z1,z2,by lia,Z,by simp,Z,Z,by lia,by lia,by lia,λnewl H8 hn s8 D8=>?_⟩;exact fin (s1.trans (z3.trans s8)) D8 (K3 p1) (by lia) (by lia) (by lia)
  ·refine⟨_,Z,_,Z,by show 2<=sizeLine;lia,λa0 n0=>?_⟩;have s0:=aB (o:=.lst [.str "add",.str "less"]) n0;have D0:=D1.keep s0;have c0:=D1.cut s0;refine⟨_,Z,_,_,Z,Z,by show(0:Int) <2;decide,?_⟩;obtain⟨i,ei,hi⟩:=Xl (bW c 6 % 6);refine⟨a0,_,_,_,Z,Z,bK.of aq,ei,?_⟩;generalize upd H1 a0 (.lst [.str "add",.str "less"])=H0 at s0 D0 c0 ⊢;have hN:([]:List Int).length=cN i:=by rcases hi with rfl | rfl <;> rfl
   have hI:[one,other].length=cI i:=by rcases hi with rfl | rfl <;> rfl
   have hO:1=cO i:=by rcases hi with rfl | rfl <;> rfl
   refine⟨by show 0<=sizeLine;lia,λa1 n1=>⟨_,Z,_,Z,by show 2<=sizeLine;lia,λa2 n2=>?_⟩⟩;obtain⟨D9,z1,z2,z3⟩:=D0.two n1 n2 (y:=.lst [.str one,.str other]);refine⟨d,_,_,os1,_,i,a1,a2,[],[one,other],1,Z,D9,z1,z2,by lia,hN,by simp,hI,hO,by lia,by lia,by lia,λnewl H8 hn s8 D8=>?_⟩;exact fin (s1.trans (c0.trans (z3.trans s8))) D8 (K3 p1) (by lia) (by lia) (by lia)
 ·refine⟨_,Z,true,Z,gm ⟨_,Z,_,_,Z,Z,_,Z,Ga ?_ (λh2 b=>?_) (λb=>b)⟩⟩
  ·refine⟨λ_ H'=>Q .non H',?_,λ_ _ h=>h⟩;refine⟨_,Z,true,Z,gm ?_⟩;refine⟨_,Z,_,_,Z,Z,_,Z,nH (λh5=>?_) (λh5=>?_)⟩
   ·refine⟨_,Z,_,Z,by show 0<=sizeLine;lia,λa1 n1=>⟨_,Z,_,Z,by show 2<=sizeLine;lia,λa2 n2=>?_⟩⟩;obtain⟨D9,z1,z2,z3⟩:=D1.two n1 n2 (y:=.lst [.str one,.str other]);refine⟨d,_,_,os1,_,10,a1,a2,[],[one,other],2,Z,D9,z1,z2,by lia,Z,by simp,Z,Z,by lia,by lia,by lia,λnewl H8 hn s8 D8=>?_⟩;exact fin (s1.trans (z3.trans s8)) D8 (K3 p1) (by lia) (by lia) (by lia)
   ·refine⟨λ_ H'=>Q .non H',?_,λ_ _ h=>h⟩;refine⟨_,Z,_,_,Z,Z,by show(0:Int) <3;decide,Z,_,Z,nH (λ_=>?_) (λ_=>?_)⟩
    ·refine⟨_,Z,_,Z,by show 0<=sizeLine;lia,λa1 n1=>⟨_,Z,_,Z,by show 2<=sizeLine;lia,λa2 n2=>?_⟩⟩;obtain⟨D9,z1,z2,z3⟩:=D1.two n1 n2 (y:=.lst [.str one,.str other]);refine⟨d,_,_,os1,_,8,a1,a2,[],[one,other],2,Z,D9,z1,z2,by lia,Z,by simp,Z,Z,by lia,by lia,by lia,λnewl H8 hn s8 D8=>?_⟩;exact fin (s1.trans (z3.trans s8)) D8 (K3 p1) (by lia) (by lia) (by lia)
    ·refine⟨_,Z,_,Z,by show 2<=sizeLine;lia,λa0 n0=>?_⟩;have s0:=aB (o:=.lst [.str "add",.str "less"]) n0;have D0:=D1.keep s0;have c0:=D1.cut s0;refine⟨_,Z,_,_,Z,Z,by show(0:Int) <2;decide,?_⟩;obtain⟨i,ei,hi⟩:=Xl (bW c 6 % 6);refine⟨a0,_,_,_,Z,Z,bK.of aq,ei,?_⟩;generalize upd H1 a0 (.lst [.str "add",.str "less"])=H0 at s0 D0 c0 ⊢;have hN:([]:List Int).length=cN i:=by rcases hi with rfl | rfl <;> rfl
     have hI:[one,other].length=cI i:=by rcases hi with rfl | rfl <;> rfl
     have hO:1=cO i:=by rcases hi with rfl | rfl <;> rfl
     refine⟨by show 0<=sizeLine;lia,λa1 n1=>⟨_,Z,_,Z,by show 2<=sizeLine;lia,λa2 n2=>?_⟩⟩;obtain⟨D9,z1,z2,z3⟩:=D0.two n1 n2 (y:=.lst [.str one,.str other]);refine⟨d,_,_,os1,_,i,a1,a2,[],[one,other],1,Z,D9,z1,z2,by lia,hN,by simp,hI,hO,by lia,by lia,by lia,λnewl H8 hn s8 D8=>?_⟩;exact fin (s1.trans (c0.trans (z3.trans s8))) D8 (K3 p1) (by lia) (by lia) (by lia)
  ·refine⟨_,Z,d.S,_,2,_,Z,Z,D1.seqS,aM (j:=2) Z,.ref d.O,os1.length,Z,.inl ⟨_,bK.of D1.opens,by simp⟩,_,_,Z,Z,_,Z,nH (λh3=>?_) (λ_=>b)⟩;have hne1:os1≠[]:=λz=>by rw [z] at h3;exact absurd (of_decide_eq_true h3) (by decide)
   refine⟨_,Z,_,Z,_,_,Z,d,ls,ps,os1,_,Z,D1,hne1,by lia,λthird os2 H2 p2 s2 D2=>?_⟩;have l2:=p2.length_eq;rw [length_cons] at l2;refine⟨_,Z,_,Z,by show 0<=sizeLine;lia,λa1 n1=>⟨_,Z,_,Z,_,Z,by show 3<=sizeLine;lia,λa2 n2=>?_⟩⟩;obtain⟨D9,z1,z2,z3⟩:=D2.two n1 n2 (y:=.lst [.str one,.str other,.str third]);refine⟨d,_,_,os2,_,9,a1,a2,[],[one,other,third],1,Z,D9,z1,z2,by lia,Z,by simp,Z,Z,by lia,by lia,by lia,λnewl H8 hn s8 D8=>?_⟩;exact fin (s1.trans (s2.trans (z3.trans s8))) D8 (aao p1 p2) (by lia) (by lia) (by lia)
inductive z7 (vs:List V) (H:Hp) (Q:VK) (E:XK):Prop where
 | mk:∀(d:Dw) (ls:List aJ) (ps:List PD) (os:List Str) (c:Int) (one:Str) (back:List Str),vs=[.ref d.S,.int c,.str one]->oO d H ls ps os->Drawn.WF (vX ls ps (one:: os) back)->os.length<=3->ls.length<=20->ps.length<=22->(∀ls' ps' os' H',Nxt d H H' ls ps back ls' ps' os'->Q .non H')->z7 vs H Q E
theorem Jv (T:Txt w K mg t):FO P w K mg base 4 t.Bu ["_law_state", "_law_cell_here", "_law_one"] (z7):=by
 have sc:=T.vZ.sc ["_law_state", "_law_cell_here", "_law_one", "_law_own", "_law_fresh"];refine T.vZ.F.ok sc ln (λ_ _ _ _ H vs Q E hr h=>?_);obtain⟨d,ls,ps,os,c,one,back,rfl,D,w,ho,hls,hps,k⟩:=h;refine⟨_,(az (sN sc 3 (eN (j7 T) T.iU hr (aa (pv 0) (aa (eN (bf T) T.bj hr (aa (pv 1) (aa au ak ao) aj)) (aa ir ak ao) bh) aj)))
  (az (sN sc 4 (eN (j7 T) T.iU hr (aa (pv 0) (aa (eN (bf T) T.bj hr (aa (pv 1) (aa au ak ao) aj)) (aa ir ak ao) bh) aj)))
  (az (bw (NT (aU aV (pv 0) au (λ_ _=>rfl)) (aa (b8 (aa bH (aa (eN (o8 T) T.jQ hr (aa (aU aV (pv 0) au (λ_ _=>rfl)) (aa (bA bY (by rfl) T.gh dJ (aa (aU aV (pv 0) au (λ_ _=>rfl)) ak aF)) ak bh) aF)) (aa (bc ak) (aa (bc (aa (pv 2) (aa (pv 3) ak aj) aj)) (aa (bc (aa (pv 3) (aa (pv 4) ak aj) aj)) ak aQ) aQ) aQ) bh) ao)) ak cC)))
  (aA (bw (NT (aU aV (pv 0) au (λ_ _=>rfl)) (aa (pv 4) ak aj))))))),?_⟩
 have hl:sizeLine=16777216:=sizeLine_eq;refine⟨_,Z,_,Z,_,_,Z,d,ls,ps,os,_,true,Z,D,by lia,λl1 H1 e1 s1 D1=>?_⟩;refine⟨_,Z,_,Z,_,_,Z,d,ls ++ [l1],ps,os,_,false,Z,D1,by rw [lP,length_singleton];lia,λl2 H2 e2 s2 D2=>?_⟩;have s12:=s1.trans s2;obtain⟨xs,eP,aP⟩:=D2.parts;have xl:=aP.length;refine⟨_,Z,d.S,_,1,_,Z,Z,D2.seqS,aM (j:=1) Z,.inl ⟨Z,_,bK.of eP⟩,?_⟩;refine⟨_,Z,d.S,_,4,_,Z,Z,D2.seqS,aM (j:=4) Z,?_⟩;refine⟨_,Z,d.S,_,1,_,Z,Z,D2.seqS,aM (j:=1) Z,.ref d.P,ps.length,Z,.inl ⟨_,bK.of eP,xl.symm⟩,?_⟩;refine⟨d.c4,ps.length,Z,by lia,λH3 s3=>?_⟩;have D3:=D2.keep s3;have c3:=s12.trans (D2.cut s3);have eP3:=s3 _ _ eP;refine⟨by show 0<=sizeLine;lia,λa1 n1=>⟨_,Z,_,Z,by show 2<=sizeLine;lia,λa2 n2=>⟨_,Z,_,Z,by show 2<=sizeLine;lia,λa3 n3=>⟨by show 5<=sizeLine;lia,λq nq=>?_⟩⟩⟩⟩;obtain⟨D4,z1,z2,z3⟩:=D3.two n1 n2 (y:=.lst [.str one,.str l1.name]);have t4:aK H3 (upd (upd H3 a1 (.lst [])) a2 (.lst [.str one,.str l1.name])):=(aB n1).trans (aB n2);have eP4:=t4 _ _ eP3;generalize upd (upd H3 a1 (.lst [])) a2 (.lst [.str one,.str l1.name])=H4 at D4 z1 z2 z3 t4 eP4 n3 nq ⊢;obtain⟨D5,y1,y2,y3⟩:=D4.two n3 nq (y:=.tup [.str "order",.str (cU d.c4 ps.length),.ref a1,.ref a2,.ref a3]);have t5:aK H4 (upd (upd H4 a3 (.lst [.str l1.name,.str l2.name])) q (.tup [.str "order",.str (cU d.c4 ps.length),.ref a1,.ref a2,.ref a3])):=(aB n3).trans (aB nq);have eP5:=t5 _ _ eP4;generalize upd (upd H4 a3 (.lst [.str l1.name,.str l2.name])) q (.tup [.str "order",.str (cU d.c4 ps.length),.ref a1,.ref a2,.ref a3])=H5 at D5 y1 y2 y3 t5 eP5 ⊢;have c5:=c3.trans (z3.trans y3);refine⟨d.P,xs,_,Z,Z,eP5,by lia,?_⟩;have D6:=D5.part (p:=⟨8,cU d.c4 ps.length,[],[one,l1.name],[l1.name,l2.name]⟩) ⟨q,a1,a2,a3,rfl,y2,y3 _ _ z1,y3 _ _ z2,y1⟩ ⟨by show 8 <11;lia,rfl,rfl,rfl,by simp⟩ rfl eP5;have c6:bL d.E (upd H5 d.P (.lst (xs ++ [.ref q])))=bL d.E H5:=eY (by simp);generalize upd H5 d.P (.lst (xs ++ [.ref q]))=H6 at D6 c6 ⊢;refine⟨_,Z,d.S,_,2,_,Z,Z,D6.seqS,aM (j:=2) Z,.inl ⟨Z,_,bK.of D6.opens⟩,_,Z,d.O,_,_,Z,Z,D6.opens,by rw [lM];lia,?_⟩;have D7:=D6.open (os':=os ++ [l2.name]);rw [map_append] at D7;have nd:=D7.nod (by rw [lP,lP,length_singleton,length_singleton];lia);have wl:=w.loop (p:=⟨8,cU d.c4 ps.length,[],[one,l1.name],[l1.name,l2.name]⟩) (rest:=os) (one:=one) (own:=l1.name) (fresh:=l2.name) rfl rfl (.refl _) (by simpa using nd);refine k _ _ _ _ ⟨by rw [eY (by simp),c6];exact c5,D7,by simpa [vX] using wl,by rw [lP,length_singleton];lia,by rw [lP,length_singleton];lia,by simp,by simp,λc=>c.app⟩
inductive yN (vs:List V) (H:Hp) (Q:VK) (E:XK):Prop where
 | mk:∀(d:Dw) (ls:List aJ) (ps:List PD) (os:List Str) (c:Int) (back:List Str) (odd:Bool),vs=[.ref d.S,.int c,.bl odd]->oO d H ls ps os->Drawn.WF (vX ls ps os back)->os≠[]->os.length<=4->ls.length<=20->ps.length<=22->(∀ls' ps' os' H',Nxt d H H' ls ps back ls' ps' os'->Q .non H')->yN vs H Q E
theorem J2 (T:Txt w K mg t):FO P w K mg base 6 t.Bt ["_law_state", "_law_cell_here", "_law_odd"] (yN):=by
 have sc:=T.vy.sc ["_law_state", "_law_cell_here", "_law_odd", "_law_way", "_law_one"];refine T.vy.F.ok sc ln (λ_ _ _ _ H vs Q E hr h=>?_);obtain⟨d,ls,ps,os,c,back,odd,rfl,D,w,hne,ho,hls,hps,k⟩:=h;refine⟨_,(az (sN sc 3 (bB cB (eN (bf T) T.bj hr (aa (pv 1) (aa au ak ao) aj)) au))
  (az (sN sc 4 (eN (tD T) T.mC hr (aa (pv 0) (aa (eN (bf T) T.bj hr (aa (pv 1) (aa au ak ao) aj)) ak bh) aj)))
  (aA (dM (bQ (PW.pt (Ds (aZ Ab (pv 3) au (bN _)) (Df (aZ Ab (bA bY (by rfl) T.gh dJ (aa (aU aV (pv 0) au (λ_ _=>rfl)) ak aF)) au (bN _)))))
   (aA (bw (eN (cT T) T.cD hr (@aa _ _ _ _ _ (pv 0) (@aa _ _ _ _ _ (pv 1) (@aa _ _ _ _ _ bH (@aa _ _ _ _ _ (bc ak) (@aa _ _ _ _ _ (bc (aa (pv 4) ak aj)) (@aa _ _ _ _ _ au ak ao) aQ) aQ) ao) aj) aj))))
   (aA (dM (bQ (aZ gP (pv 3) au (bN _))
    (az (bw (eN (cT T) T.cD hr (@aa _ _ _ _ _ (pv 0) (@aa _ _ _ _ _ (pv 1) (@aa _ _ _ _ _ bH (@aa _ _ _ _ _ (bc ak) (@aa _ _ _ _ _ (bc (aa (pv 4) ak aj)) (@aa _ _ _ _ _ au ak ao) aQ) aQ) ao) aj) aj)))
    (aA (bw (eN (cT T) T.cD hr (@aa _ _ _ _ _ (pv 0) (@aa _ _ _ _ _ (pv 1) (@aa _ _ _ _ _ bH (@aa _ _ _ _ _ (bc ak) (@aa _ _ _ _ _ (bc (aa (Nt PySem.F.plainAttrs_list PySem.F.slot_list_pop PySem.F.type_list_pop M4 (aU aV (pv 0) au (λ_ _=>rfl))) ak bh)) (@aa _ _ _ _ _ au ak ao) aQ) aQ) ao) aj) aj)))))
    (aA (dM (bQ (PW.pt (Ds (aZ Ab (pv 3) au (bN _)) (Df (aZ PX (bA bY (by rfl) T.gh dJ (aa (aU aV (pv 0) au (λ_ _=>rfl)) ak aF)) au (bN _)))))
     (aA (bw (eN (K6 T) T.yo hr (aa (pv 0) (aa (pv 1) (aa (pv 4) (aa (pv 2) ak aj) aj) aj) aj))))
     (aA (dM (bQ (aZ Ab (pv 3) au (bN _))
      (aA (bw (eN (cT T) T.cD hr (@aa _ _ _ _ _ (pv 0) (@aa _ _ _ _ _ (pv 1) (@aa _ _ _ _ _ bH (@aa _ _ _ _ _ (bc (aa (eN (lX T) T.ji hr (aa (pv 1) (aa au ak ao) aj)) (aa (eN (lX T) T.ji hr (aa (pv 1) (aa au ak ao) aj)) ak bh) bh)) (@aa _ _ _ _ _ (bc (aa (pv 4) ak aj)) (@aa _ _ _ _ _ au ak ao) aQ) aQ) ao) aj) aj))))
      (aA (dM (bQ (aZ gP (pv 3) au (bN _))
       (aA (bw (eN (cT T) T.cD hr (@aa _ _ _ _ _ (pv 0) (@aa _ _ _ _ _ (pv 1) (@aa _ _ _ _ _ bH (@aa _ _ _ _ _ (bc (aa (eN (lX T) T.ji hr (aa (pv 1) (aa au ak ao) aj)) ak bh)) (@aa _ _ _ _ _ (bc (aa (pv 4) ak aj)) (@aa _ _ _ _ _ au ak ao) aQ) aQ) ao) aj) aj))))
       (aA (dM (bQ (aZ gP (bB cB (eN (bf T) T.bj hr (aa (pv 1) (aa au ak ao) aj)) au) au (bN _))
        (aA (bw (eN (Jv T) T.vZ hr (aa (pv 0) (aa (pv 1) (aa (pv 4) ak aj) aj) aj))))
        (aA (bw (eN (cT T) T.cD hr (@aa _ _ _ _ _ (pv 0) (@aa _ _ _ _ _ (pv 1) (@aa _ _ _ _ _ bH (@aa _ _ _ _ _ (bc ak) (@aa _ _ _ _ _ (bc (aa (pv 4) ak aj)) (@aa _ _ _ _ _ au ak ao) aQ) aQ) ao) aj) aj)))))))))))))))))))))))),?_⟩
 have hl:sizeLine=16777216:=sizeLine_eq;refine⟨_,Z,_,_,Z,_,_,Z,Z,by show(0:Int) <9;decide,?_⟩;refine⟨_,Z,_,Z,_,_,Z,d,ls,ps,os,_,Z,D,hne,by lia,λone os1 H1 p1 s1 D1=>?_⟩;have w1:Drawn.WF (vX ls ps (one:: os1) back):=XR w p1;have lo:=p1.length_eq;rw [length_cons] at lo;have fin:∀{i:Nat} {nm:Str} {nums:List Int} {newl:List aJ} {ins os2:List Str} {H':Hp},aK (bL d.E H) (bL d.E H')->oO d H' (ls ++ newl) (ps ++ [⟨i,nm,nums,ins,newl.map (·.name)⟩]) (os2 ++ newl.map (·.name))->(one:: os1).Perm (ins ++ os2)->newl.length≠0->newl.length<=2->os2.length+newl.length<=4->Q .non H':=λs DD hp h1 h2 h4=>
  k _ _ _ _ ⟨s,DD,rY w1 rfl DD hp h1 (by rw [lP];lia),by rw [lP,lM];lia,by rw [lP,lM];lia,by rw [lP];lia,by rw [lP,length_singleton];lia,λc=>c.app⟩
 refine⟨λ_ H'=>Q .non H',?_,λ_ _ h=>h⟩;refine⟨_,Z,_,_,Z,Z,_,Z,Ga ?_ (λh2 b=>?_) (λb=>b)⟩
 ·refine⟨λ_ H'=>Q .non H',?_,λ_ _ h=>h⟩;refine⟨_,Z,Z,_,Z,nH (λ_=>?_) (λ_=>?_)⟩
  ·refine⟨_,Z,_,Z,by show 0<=sizeLine;lia,λa1 n1=>⟨_,Z,by show 1<=sizeLine;lia,λa2 n2=>?_⟩⟩;obtain⟨D9,z1,z2,z3⟩:=D1.two n1 n2 (y:=.lst [.str one]);refine⟨d,_,_,os1,_,3,a1,a2,[],[one],2,Z,D9,z1,z2,by lia,Z,by simp,Z,Z,by lia,by lia,by lia,λnewl H8 hn s8 D8=>?_⟩;obtain⟨l1,l2,rfl⟩:∃l1 l2,newl=[l1,l2]:=by
    match newl,hn with
    | [x,y],_=>exact⟨x,y,rfl⟩
   have w8:=rY w1 rfl D8 (.refl _) (by simp) (by simp;lia);have s18:=s1.trans (z3.trans s8);clear D9 z1 z2 z3 n1 n2 s8;refine⟨_,Z,_,Z,by show 0<=sizeLine;lia,λa3 n3=>?_⟩;have s3:=aB (o:=.lst []) n3;have D3:=D8.keep s3;have c3:=s18.trans (D8.cut s3);have o3:=D8.out n3;have e3:upd H8 a3 (.lst []) a3=some (.lst ([]:List V)):=aq;generalize upd H8 a3 (.lst [])=H3 at s3 D3 c3 e3 ⊢;have eo:((os1 ++ [l1,l2].map (·.name)).map V.str)=((os1 ++ [l1.name]).map V.str) ++ [.str l2.name]:=by simp
   have hop:=D3.opens;rw [eo] at hop;refine⟨_,Z,d.S,_,2,_,Z,Z,D3.seqS,aM (j:=2) Z,.inl ⟨Z,_,bK.of D3.opens⟩,d.O,_,.str l2.name,Z,Z,hop,by rw [lP,length_singleton,Nat.add_sub_cancel];exact List.getElem?_concat_length,?_⟩;rw [List.dropLast_concat];have D4:=D3.open (os':=os1 ++ [l1.name]);have c4:bL d.E (upd H3 d.O (.lst ((os1 ++ [l1.name]).map V.str)))=bL d.E H3:=eY (by simp);have e4:=f9 e3 o3;generalize upd H3 d.O (.lst ((os1 ++ [l1.name]).map V.str))=H4 at D4 c4 ⊢;refine⟨by show 1<=sizeLine;lia,λa4 n4=>?_⟩;have s5:=aB (o:=.lst [.str l2.name]) n4;have D5:=D4.keep s5;have c5:=D4.cut s5;rw [c4] at c5;have e5:=f9 (E:=d.E) (H:=upd H4 a4 (.lst [.str l2.name])) aq (D4.out n4);refine⟨d,ls ++ [l1,l2],_,os1 ++ [l1.name],_,1,a3,a4,[],[l2.name],0,Z,D5,c5 _ _ e4,e5,by lia,Z,by simp,Z,Z,by simp;lia,by simp;lia,by simp;lia,λnewl2 H9 hn2 s9 D9=>?_⟩;have hz:newl2=[]:=List.length_eq_zero_iff.mp hn2;subst hz;have wt:=w8.take (p:=⟨1,cU d.c4 (ps ++ [(⟨3,cU d.c4 ps.length,[],[one],[l1,l2].map (·.name)⟩:PD)]).length,[],[l2.name],[]⟩) (rest:=os1 ++ [l1.name]) (y:=l2.name) (x:=l1.name) rfl rfl (by show(os1 ++ [l1.name,l2.name]).Perm (l2.name:: (os1 ++ [l1.name]));rw [show os1 ++ [l1.name,l2.name]=(os1 ++ [l1.name]) ++ [l2.name] by simp];exact perm_append_comm) (by simp) (Drawn.jC.part (p:=⟨3,cU d.c4 ps.length,[],[one],[l1,l2].map (·.name)⟩) (by simp) (by simp) (by simp))
   rw [map_nil,append_nil,append_nil] at D9;exact k _ _ _ _ ⟨c3.trans (c5.trans s9),D9,wt,by simp,by simp;lia,by simp,by simp,λc=>c.app.app⟩
  ·refine⟨λ_ H'=>Q .non H',?_,λ_ _ h=>h⟩;refine⟨_,Z,_,_,Z,Z,_,Z,Ga ?_ (λh2 b=>?_) (λb=>b)⟩
   ·refine⟨λ_ H'=>Q .non H',?_,λ_ _ h=>h⟩;refine⟨_,Z,_,_,Z,Z,_,Z,nH (λ_=>?_) (λ_=>?_)⟩
    ·refine⟨_,Z,_,Z,_,Z,c,8,Z,_,Z,c,9,Z,by show 2<=sizeLine;lia,λa1 n1=>⟨_,Z,by show 1<=sizeLine;lia,λa2 n2=>?_⟩⟩;obtain⟨D9,z1,z2,z3⟩:=D1.two n1 n2 (y:=.lst [.str one]);refine⟨d,_,_,os1,_,4,a1,a2,[tW c 8,tW c 9],[one],1,Z,D9,z1,z2,by lia,Z,?_,Z,Z,by lia,by lia,by lia,λnewl H8 hn s8 D8=>?_⟩
     ·intro v hv;rcases mem_cons.mp hv with rfl | hv
      ·exact wQ _ _
      ·rw [mem_singleton] at hv;subst hv;exact wQ _ _
     exact fin (s1.trans (z3.trans s8)) D8 (.refl _) (by lia) (by lia) (by lia)
    ·refine⟨λ_ H'=>Q .non H',?_,λ_ _ h=>h⟩;refine⟨_,Z,Z,_,Z,nH (λ_=>?_) (λ_=>?_)⟩
     ·refine⟨_,Z,_,Z,_,Z,c,8,Z,by show 1<=sizeLine;lia,λa1 n1=>⟨_,Z,by show 1<=sizeLine;lia,λa2 n2=>?_⟩⟩;obtain⟨D9,z1,z2,z3⟩:=D1.two n1 n2 (y:=.lst [.str one]);refine⟨d,_,_,os1,_,5,a1,a2,[tW c 8],[one],1,Z,D9,z1,z2,by lia,Z,?_,Z,Z,by lia,by lia,by lia,λnewl H8 hn s8 D8=>?_⟩
      ·intro v hv;rw [mem_singleton] at hv;subst hv;exact wQ _ _
      exact fin (s1.trans (z3.trans s8)) D8 (.refl _) (by lia) (by lia) (by lia)
     ·refine⟨λ_ H'=>Q .non H',?_,λ_ _ h=>h⟩;refine⟨_,Z,_,_,Z,_,_,Z,Z,by show(0:Int) <2;decide,Z,_,Z,nH (λ_=>?_) (λ_=>?_)⟩
      ·exact⟨_,Z,_,Z,_,Z,d,ls,ps,os1,c,one,back,Z,D1,w1,by lia,hls,hps,λls' ps' os' H' X=>k ls' ps' os' H' ⟨s1.trans X.cut,X.at',X.wf,X.o1,X.o4,X.l2,X.p2,X.gv⟩⟩
      ·refine⟨_,Z,_,Z,by show 0<=sizeLine;lia,λa1 n1=>⟨_,Z,by show 1<=sizeLine;lia,λa2 n2=>?_⟩⟩;obtain⟨D9,z1,z2,z3⟩:=D1.two n1 n2 (y:=.lst [.str one]);refine⟨d,_,_,os1,_,2,a1,a2,[],[one],1,Z,D9,z1,z2,by lia,Z,by simp,Z,Z,by lia,by lia,by lia,λnewl H8 hn s8 D8=>?_⟩;exact fin (s1.trans (z3.trans s8)) D8 (.refl _) (by lia) (by lia) (by lia)
   ·refine⟨_,Z,d.S,_,2,_,Z,Z,D1.seqS,aM (j:=2) Z,.ref d.O,os1.length,Z,.inl ⟨_,bK.of D1.opens,by simp⟩,_,_,Z,Z,_,Z,nH (λh3=>?_) (λ_=>b)⟩;have hne1:os1≠[]:=λz=>by rw [z] at h3;exact absurd (of_decide_eq_true h3) (by decide)
    exact⟨_,Z,_,Z,_,Z,_,Z,d,ls,ps,os1,c,one,back,odd,Z,D1,w1,hne1,by lia,hls,hps,λls' ps' os' H' X=>k ls' ps' os' H' ⟨s1.trans X.cut,X.at',X.wf,X.o1,X.o4,X.l2,X.p2,X.gv⟩⟩
 ·refine⟨_,Z,d.S,_,2,_,Z,Z,D1.seqS,aM (j:=2) Z,.ref d.O,os1.length,Z,.inl ⟨_,bK.of D1.opens,by simp⟩,_,_,Z,Z,_,Z,nH (λh3=>?_) (λ_=>b)⟩;have h3:os1.length <3:=by have:=of_decide_eq_true h3;lia
  refine⟨_,Z,_,Z,by show 0<=sizeLine;lia,λa1 n1=>⟨_,Z,by show 1<=sizeLine;lia,λa2 n2=>?_⟩⟩;obtain⟨D9,z1,z2,z3⟩:=D1.two n1 n2 (y:=.lst [.str one]);refine⟨d,_,_,os1,_,3,a1,a2,[],[one],2,Z,D9,z1,z2,by lia,Z,by simp,Z,Z,by lia,by lia,by lia,λnewl H8 hn s8 D8=>?_⟩;exact fin (s1.trans (z3.trans s8)) D8 (.refl _) (by lia) (by lia) (by lia)
inductive vD (vs:List V) (H:Hp) (Q:VK) (E:XK):Prop where
 | mk:∀(d:Dw) (ls:List aJ) (ps:List PD) (os:List Str) (c:Int) (B:Addr) (back:List Str),vs=[.ref d.S,.int c,.ref B]->oO d H ls ps os->Drawn.WF (vX ls ps os back)->bL d.E H B=some (.lst (back.map V.str))->os≠[]->os.length<=4->back.length<=2->ls.length<=12->ps.length<=10->Kl ps->(∀ls' ps' H',aK (bL d.E H) (bL d.E H')->oO d H' ls' ps' []->Hm (ls'.map (·.name)) ps'->ls'.length<=17->ls.length<=ls'.length->ps'.length<=16->1<=ps'.length->Kl ps'->Q .non H')->vD vs H Q E
theorem El (T:Txt w K mg t):FO P w K mg base 5 t.xU ["_law_state", "_law_cell_here", "_law_back"] (vD):=by
 have sc:=T.qU.sc ["_law_state", "_law_cell_here", "_law_back", "_law_one", "_law_other", "_law_kind", "_law_lane_here", "_law_fresh"];refine T.qU.F.ok sc ln (λ_ _ _ _ H vs Q E hr h=>?_);obtain⟨d,ls,ps,os,c,B,back,rfl,D,w,eB,hne,ho,hb,hls,hps,hC,k⟩:=h;refine⟨_,(az (KC PassesOwn.never (aZ PX (bA bY (by rfl) T.gh dJ (aa (aU aV (pv 0) au (λ_ _=>rfl)) ak aF)) au (bN _))
   (az (sN sc 3 (Em PySem.F.plainAttrs_list PySem.F.slot_list_pop PySem.F.type_list_pop Dr (aU aV (pv 0) au (λ_ _=>rfl)) (aa au ak ao)))
   (az (sN sc 4 (Em PySem.F.plainAttrs_list PySem.F.slot_list_pop PySem.F.type_list_pop Dr (aU aV (pv 0) au (λ_ _=>rfl)) (aa au ak ao)))
   (az (sN sc 5 (aU aV (bc (aa bH (aa bH (aa bH ak ao) ao) ao)) (bB cB (eN (bf T) T.bj hr (aa (pv 1) (aa (bA bY (by rfl) T.gh dJ (aa (aU aV (pv 0) au (λ_ _=>rfl)) ak aF)) ak bh) aj)) au) (λ_ _=>rfl)))
   (aA (bw (eN (cT T) T.cD hr (@aa _ _ _ _ _ (pv 0) (@aa _ _ _ _ _ (eN (bf T) T.bj hr (aa (pv 1) (aa (bB fD au (bA bY (by rfl) T.gh dJ (aa (aU aV (pv 0) au (λ_ _=>rfl)) ak aF))) ak bU) aj)) (@aa _ _ _ _ _ (pv 5) (@aa _ _ _ _ _ (bc ak) (@aa _ _ _ _ _ (bc (aa (pv 3) (aa (pv 4) ak aj) aj)) (@aa _ _ _ _ _ au ak ao) aQ) aQ) aj) bh) aj))))))))
  (az (fC PassesOwn.never rfl (bT (pv 2)) (gN sc 6)
   (az (sN sc 3 (Nt PySem.F.plainAttrs_list PySem.F.slot_list_pop PySem.F.type_list_pop M4 (aU aV (pv 0) au (λ_ _=>rfl))))
   (az (sN sc 7 (eN (j7 T) T.iU hr (aa (pv 0) (aa (eN (bf T) T.bj hr (aa (pv 1) (aa (bB fD au (bA bY (by rfl) T.gh dJ (aa (aU aV (pv 0) au (λ_ _=>rfl)) ak aF))) ak bU) aj)) (aa ir ak ao) bh) aj)))
   (az (bw (NT (aU aV (pv 0) au (λ_ _=>rfl)) (aa (b8 (aa bH (aa (eN (o8 T) T.jQ hr (aa (aU aV (pv 0) au (λ_ _=>rfl)) (aa (bA bY (by rfl) T.gh dJ (aa (aU aV (pv 0) au (λ_ _=>rfl)) ak aF)) ak bh) aF)) (aa (bc ak) (aa (bc (aa (pv 3) ak aj)) (aa (bc (aa (pv 6) (aa (pv 7) ak aj) aj)) ak aQ) aQ) aQ) bh) ao)) ak cC)))
   (aA (bw (NT (aU aV (pv 0) au (λ_ _=>rfl)) (aa (pv 7) ak aj))))))))
  (aA (bw (eN (cT T) T.cD hr (@aa _ _ _ _ _ (pv 0) (@aa _ _ _ _ _ (pv 1) (@aa _ _ _ _ _ bH (@aa _ _ _ _ _ (bc ak) (@aa _ _ _ _ _ (bc (aa (Nt PySem.F.plainAttrs_list PySem.F.slot_list_pop PySem.F.type_list_pop M4 (aU aV (pv 0) au (λ_ _=>rfl))) ak bh)) (@aa _ _ _ _ _ au ak ao) aQ) aQ) ao) aj) aj)))))),?_⟩
 have hl:sizeLine=16777216:=sizeLine_eq;have hpos:0 <os.length:=List.length_pos_iff.mpr hne;refine hide λu hu=>?_;refine KR (λσ H1=>∃(ls1:List aJ) (ps1:List PD) (os1:List Str) (v3 v4 v5:Option V),σ=[some (.ref d.S),some (.int c),some (.ref B),v3,v4,v5,none,none]/\aK (bL d.E H) (bL d.E H1)/\oO d H1 ls1 ps1 os1/\Drawn.WF (vX ls1 ps1 os1 back)/\1<=os1.length/\os1.length<=4/\ls.length<=ls1.length/\ls1.length+os1.length<=16/\ps1.length+os1.length<=14/\Kl ps1)
  (λ_ H1=>Rq H1 d.O) ⟨ls,ps,os,none,none,none,rfl,aK.refl _,D,w,by lia,ho,le_refl _,by lia,by lia,hC⟩ ?_ ?_
 ·rintro σ H1 ⟨ls1,ps1,os1,v3,v4,v5,rfl,s1,D1,w1,o1,o4,hl1,hl2,hp2,hC1⟩;refine⟨_,Z,d.S,_,2,_,Z,Z,D1.seqS,aM (j:=2) Z,.ref d.O,os1.length,Z,.inl ⟨_,bK.of D1.opens,by simp⟩,_,_,Z,Z,_,Z,nH (λh3=>?_) (λh3=>?_)⟩
  ·have h3:1 <os1.length:=by have:=of_decide_eq_true h3;lia
   obtain⟨one,other,os2,rfl⟩:∃one other os2,os1=one:: other:: os2:=by
    match os1,h3 with
    | x:: y:: r,_=>exact⟨x,y,r,rfl⟩
   rw [length_cons,length_cons] at h3 o1 o4 hl2 hp2;have lm:=Lr D1.opens;refine Z9 λDe hD u hu=>?_;refine⟨_,Z,d.S,_,2,_,Z,Z,D1.seqS,aM (j:=2) Z,.inl ⟨Z,_,bK.of D1.opens⟩,d.O,_,0,0,.str one,Z,Z,D1.opens,by decide,by decide,Nh (by simp),Z,?_⟩;have D2:=D1.open (os':=other:: os2);have c2:bL d.E (upd H1 d.O (.lst ((other:: os2).map V.str)))=bL d.E H1:=eY (by simp);refine dq (v:=u) hu λu hu=>?_;change yF _ _ _ _ (upd H1 d.O (.lst ((other:: os2).map V.str)));generalize upd H1 d.O (.lst ((other:: os2).map V.str))=H2 at D2 c2 ⊢;refine⟨_,Z,d.S,_,2,_,Z,Z,D2.seqS,aM (j:=2) Z,.inl ⟨Z,_,bK.of D2.opens⟩,d.O,_,0,0,.str other,Z,Z,D2.opens,by decide,by decide,Nh (by simp),Z,?_⟩;have D3:=D2.open (os':=os2);have c3:bL d.E (upd H2 d.O (.lst (os2.map V.str)))=bL d.E H2:=eY (by simp);refine dq (v:=u) hu λu hu=>?_;change yF _ _ _ _ (upd H2 d.O (.lst (os2.map V.str)));generalize upd H2 d.O (.lst (os2.map V.str))=H3 at D3 c3 ⊢;have s3:aK (bL d.E H) (bL d.E H3):=by rw [c3,c2];exact s1
   refine⟨by show 3<=sizeLine;lia,λa0 n0=>?_⟩;have s0:=aB (o:=.lst [.str "add",.str "less",.str "add"]) n0;have D0:=D3.keep s0;have c0:=s3.trans (D3.cut s0);refine⟨_,Z,_,Z,d.S,_,2,_,Z,Z,D0.seqS,aM (j:=2) Z,.ref d.O,os2.length,Z,.inl ⟨_,bK.of D0.opens,by simp⟩,c,(os2.length:Int),Z,_,_,Z,Z,by show(0:Int) <3;decide,?_⟩;obtain⟨i,ei,hi⟩:=Zd (bW c (os2.length:Int));refine⟨a0,_,_,_,Z,Z,bK.of aq,ei,?_⟩;generalize upd H3 a0 (.lst [.str "add",.str "less",.str "add"])=H0 at s0 D0 c0 ⊢;obtain⟨xs,eP,aP⟩:=D0.parts;have xl:=aP.length;have hN:([]:List Int).length=cN i:=by rcases hi with rfl | rfl <;> rfl
   have hI:[one,other].length=cI i:=by rcases hi with rfl | rfl <;> rfl
   have hO:1=cO i:=by rcases hi with rfl | rfl <;> rfl
   subst hu;refine⟨_,Z,_,Z,_,Z,d.S,_,1,_,Z,Z,D0.seqS,aM (j:=1) Z,.ref d.P,ps1.length,Z,.inl ⟨_,bK.of eP,xl.symm⟩,_,_,Z,Z,_,_,Z,?_⟩;refine⟨_,Z,by show 0<=sizeLine;lia,λa1 n1=>⟨_,Z,_,Z,by show 2<=sizeLine;lia,λa2 n2=>?_⟩⟩;obtain⟨D9,z1,z2,z3⟩:=D0.two n1 n2 (y:=.lst [.str one,.str other]);refine⟨d,_,_,os2,_,i,a1,a2,[],[one,other],1,Z,D9,z1,z2,by lia,hN,by simp,hI,hO,by lia,by lia,by lia,λnewl H8 hn s8 D8=>?_⟩;have w8:=rY w1 rfl D8 (.refl _) (by lia) (by rw [lP];lia);subst hD;refine⟨⟨_,_,_,_,_,_,Z,c0.trans (z3.trans s8),D8,w8,?_,?_,?_,?_,?_,hC1.app⟩,?_⟩
   ·rw [lP,lM];lia
   ·rw [lP,lM];lia
   ·rw [lP];lia
   ·rw [lP,lP,lM];lia
   ·rw [lP,lP,lM,length_singleton];lia
   ·rw [Lr D8.opens,lm,lM,lM,lP,lM,length_cons,length_cons]
    lia
  ·have h3:os1.length=1:=by
    have:¬(1:Int) <(os1.length:Int):=λz=>h3 (decide_eq_true z)
    lia
   obtain⟨y,rfl⟩:=List.length_eq_one_iff.mp h3;refine dq (v:=u) hu λu hu=>?_;refine⟨_,Z,B,Z,⟨_,bK.of (dj _ _ (s1 _ _ eB))⟩,?_⟩;refine fG (K:=K) (a:=B) (xs:=back.map V.str) (λj σ H2=>∃(ls2:List aJ) (ps2:List PD) (y:Str) (u3 u6 u7:Option V),σ=[some (.ref d.S),some (.int c),some (.ref B),u3,v4,v5,u6,u7]/\aK (bL d.E H) (bL d.E H2)/\oO d H2 ls2 ps2 [y]/\Drawn.WF (vX ls2 ps2 [y] (back.drop j))/\ls.length<=ls2.length/\ls2.length<=15+j/\ps2.length<=13+j/\Kl ps2) ⟨ls1,ps1,y,v3,none,none,Z,s1,D1,w1,hl1,by have z:=hl2;rw [length_singleton] at z;lia,by have z:=hp2;rw [length_singleton] at z;lia,hC1⟩ (λj σ H2 _ ⟨ls2,ps2,y,u3,u6,u7,e,s2,h⟩=>bK.of (dj _ _ (s2 _ _ eB))) ?_ ?_
   ·rintro j x σ H2 hx ⟨ls2,ps2,y2,u3,u6,u7,rfl,s2,D2,w2,hl2',hl3,hp3,hC2⟩;rw [getElem?_map] at hx;obtain⟨bn,hbn,rfl⟩:=map_eq_some_iff.mp hx;have hj:j <back.length:=by
     rcases Nat.lt_or_ge j back.length with h | h
     ·exact h
     ·rw [List.getElem?_eq_none h] at hbn;cases hbn
    have hdr:back.drop j=bn:: back.drop (j+1):=by rw [List.drop_eq_getElem_cons hj];rw [getElem?_eq_getElem hj,Option.some.injEq] at hbn;rw [hbn]
    refine Ry λDe hD u hu=>?_;refine⟨_,Z,d.S,_,2,_,Z,Z,D2.seqS,aM (j:=2) Z,.inl ⟨Z,_,bK.of D2.opens⟩,d.O,_,.str y2,Z,Z,D2.opens,Z,?_⟩;have D3:=D2.open (os':=[]);have c3:bL d.E (upd H2 d.O (.lst (([]:List Str).map V.str)))=bL d.E H2:=eY (by simp);refine dq (v:=u) hu λu hu=>?_;change yF _ _ _ _ (upd H2 d.O (.lst (([]:List Str).map V.str)));generalize upd H2 d.O (.lst (([]:List Str).map V.str))=H3 at D3 c3 ⊢;obtain⟨xs,eP,aP⟩:=D3.parts;have xl:=aP.length;refine⟨_,Z,_,Z,_,Z,d.S,_,1,_,Z,Z,D3.seqS,aM (j:=1) Z,.ref d.P,ps2.length,Z,.inl ⟨_,bK.of eP,xl.symm⟩,_,_,Z,Z,_,_,Z,d,ls2,ps2,[],_,false,Z,D3,by lia,λl H4 _ s4 D4=>?_⟩;rw [c3] at s4;have s24:=s2.trans s4;obtain⟨xs4,eP4,aP4⟩:=D4.parts;have xl4:=aP4.length;refine dq (v:=u) hu λu hu=>?_;refine⟨_,Z,d.S,_,1,_,Z,Z,D4.seqS,aM (j:=1) Z,.inl ⟨Z,_,bK.of eP4⟩,?_⟩;refine⟨_,Z,d.S,_,4,_,Z,Z,D4.seqS,aM (j:=4) Z,?_⟩;refine⟨_,Z,d.S,_,1,_,Z,Z,D4.seqS,aM (j:=1) Z,.ref d.P,ps2.length,Z,.inl ⟨_,bK.of eP4,xl4.symm⟩,?_⟩;refine⟨d.c4,ps2.length,Z,by lia,λH5 s5=>?_⟩;have D5:=D4.keep s5;have c5:=s24.trans (D4.cut s5);have eP5:=s5 _ _ eP4;refine⟨by show 0<=sizeLine;lia,λa1 n1=>⟨_,Z,by show 1<=sizeLine;lia,λa2 n2=>⟨_,Z,_,Z,by show 2<=sizeLine;lia,λa3 n3=>⟨by show 5<=sizeLine;lia,λq nq=>?_⟩⟩⟩⟩;obtain⟨D6,z1,z2,z3⟩:=D5.two n1 n2 (y:=.lst [.str y2]);have t6:aK H5 (upd (upd H5 a1 (.lst [])) a2 (.lst [.str y2])):=(aB n1).trans (aB n2);have eP6:=t6 _ _ eP5;generalize upd (upd H5 a1 (.lst [])) a2 (.lst [.str y2])=H6 at D6 z1 z2 z3 t6 eP6 n3 nq ⊢;obtain⟨D7,y1,y2',y3⟩:=D6.two n3 nq (y:=.tup [.str "copy",.str (cU d.c4 ps2.length),.ref a1,.ref a2,.ref a3]);have t7:aK H6 (upd (upd H6 a3 (.lst [.str bn,.str l.name])) q (.tup [.str "copy",.str (cU d.c4 ps2.length),.ref a1,.ref a2,.ref a3])):=(aB n3).trans (aB nq);have eP7:=t7 _ _ eP6;generalize upd (upd H6 a3 (.lst [.str bn,.str l.name])) q (.tup [.str "copy",.str (cU d.c4 ps2.length),.ref a1,.ref a2,.ref a3])=H7 at D7 y1 y2' y3 t7 eP7 ⊢;have c7:=c5.trans (z3.trans y3);refine⟨d.P,xs4,_,Z,Z,eP7,by lia,?_⟩;have D8:=D7.part (p:=⟨3,cU d.c4 ps2.length,[],[y2],[bn,l.name]⟩) ⟨q,a1,a2,a3,rfl,y2',y3 _ _ z1,y3 _ _ z2,y1⟩ ⟨by show 3 <11;lia,rfl,rfl,rfl,by simp⟩ rfl eP7;have c8:bL d.E (upd H7 d.P (.lst (xs4 ++ [.ref q])))=bL d.E H7:=eY (by simp);generalize upd H7 d.P (.lst (xs4 ++ [.ref q]))=H8 at D8 c8 ⊢;subst hu;refine⟨_,Z,d.S,_,2,_,Z,Z,D8.seqS,aM (j:=2) Z,.inl ⟨Z,_,bK.of D8.opens⟩,_,Z,d.O,_,_,Z,Z,D8.opens,by simp;lia,?_⟩;have D9:=D8.open (os':=[l.name]);have nd:=D9.nod (by rw [lP,length_singleton];lia);rw [hdr] at w2;have wc:=w2.closeBack (p:=⟨3,cU d.c4 ps2.length,[],[y2],[bn,l.name]⟩) (rest:=back.drop (j+1)) (one:=y2) (b:=bn) (fresh:=l.name) rfl rfl (.refl _) rfl (by simpa using nd);subst hD;exact⟨ls2 ++ [l],_,l.name,_,_,_,Z,by rw [eY (by simp),c8];exact c7,D9,by simpa [vX] using wc,by rw [lP];lia,by rw [lP,length_singleton];lia,by rw [lP,length_singleton];lia,hC2.app⟩
   rintro σ H2 ⟨ls2,ps2,y2,u3,u6,u7,rfl,s2,D2,w2,hl2',hl3,hp3,hC2⟩;rw [lM] at w2 hl3 hp3;rw [List.drop_length] at w2;subst hu;refine⟨_,Z,_,Z,by show 0<=sizeLine;lia,λa3 n3=>?_⟩;have t3:=aB (o:=.lst []) n3;have D3:=D2.keep t3;have c3:=s2.trans (D2.cut t3);have o3:=D2.out n3;have e3:=f9 (aq (H:=H2) (a:=a3) (o:=.lst ([]:List V))) o3;generalize upd H2 a3 (.lst [])=H3 at t3 D3 c3 e3 ⊢;refine⟨_,Z,d.S,_,2,_,Z,Z,D3.seqS,aM (j:=2) Z,.inl ⟨Z,_,bK.of D3.opens⟩,d.O,_,.str y2,Z,Z,D3.opens,Z,?_⟩;have D4:=D3.open (os':=[]);have c4:bL d.E (upd H3 d.O (.lst (([]:List Str).map V.str)))=bL d.E H3:=eY (by simp);rw [show([y2].map V.str).dropLast=([]:List Str).map V.str from rfl];refine⟨by show 1<=sizeLine;lia,λa4 n4=>?_⟩;generalize upd H3 d.O (.lst (([]:List Str).map V.str))=H4 at D4 c4 n4 ⊢;have s5:=aB (o:=.lst [.str y2]) n4;have D5:=D4.keep s5;have c5:=D4.cut s5;rw [c4] at c5;have e5:=f9 (E:=d.E) (H:=upd H4 a4 (.lst [.str y2])) aq (D4.out n4);refine⟨d,ls2,ps2,[],_,1,a3,a4,[],[y2],0,Z,D5,c5 _ _ e3,e5,by lia,Z,by simp,Z,Z,by lia,by lia,by simp,λnewl2 H9 hn2 s9 D9=>?_⟩;have hz:newl2=[]:=List.length_eq_zero_iff.mp hn2;subst hz;rw [map_nil,append_nil,append_nil] at D9;obtain⟨x1,x2,x3⟩:=w2.last (p:=⟨1,cU d.c4 ps2.length,[],[y2],[]⟩) (y:=y2) rfl rfl rfl rfl;exact k ls2 _ H9 (c3.trans (c5.trans s9)) D9 ⟨w2.nod,x1,x2,y2,x3⟩ (by lia) hl2' (by rw [lP,length_singleton];lia) (by rw [lP,length_singleton];lia) hC2.app
 ·intro σ H' Q' Q'' hm hq;obtain⟨x1,x2,x3,x4,x5,x6,x7,x8,x9,x10,x11,x12,x13,x14,x15,x16,x17,x18,x19,x20,q⟩:=hq;exact⟨x1,x2,x3,x4,x5,x6,x7,x8,x9,x10,x11,x12,x13,x14,x15,x16,x17,x18,x19,x20,hm _ _ q⟩
inductive Cp (K:Fr) (vs:List V) (H:Hp) (Q:VK) (E:XK):Prop where
 | mk:∀(a:Addr) (ns:List Int) (start steps:Nat) (odd:Bool),vs=[.ref a,.int (start:Nat),.int (steps:Nat),.bl odd]->bK K H a (ns.map V.int)->steps<=4->(∀(T L P:Addr) (ls:List aJ) (ps:List PD) (H':Hp),aK H H'->H L=none->H P=none->L≠P->H' T=some (.tup [.ref L,.ref P])->Iw H' L P ls ps->Q7 (oE ns start) (oE ns (start+1)) ls ps->Q (.ref T) H')->Cp K vs H Q E
noncomputable abbrev Ff:List Str:=["_law_script", "_law_start", "_law_steps", "_law_odd", "_law_one", "_law_other", "_law_state", "_law_k", "_law_back", "_law_at"]
theorem Lx (T:Txt w K mg t):FO P w K mg base 7 t.FQ ["_law_script", "_law_start", "_law_steps", "_law_odd"] (Cp K):=by
 have sc:=T.yj.sc Ff;refine T.yj.F.ok sc ln (λ_ _ _ _ H vs Q E hr h=>?_);obtain⟨a,ns,start,steps,odd,rfl,hS,hst,k⟩:=h;refine⟨_,(az (sN sc 4 (eN (tQ T) T.mO hr (aa (pv 0) (aa (pv 1) ak aj) aj)))
  (az (sN sc 5 (eN (tQ T) T.mO hr (aa (pv 0) (aa (bB fD (pv 1) au) ak bU) aj)))
  (az (sN sc 6 (bc (aa (bc ak) (aa (bc ak) (aa (bc ak) (aa (pv 4) (aa (pv 5) ak aj) aj) aQ) aQ) aQ)))
  (az (fC PassesOwn.never rfl (jR rfl T.oV (aa (bB fD au (bB cB (eN (bf T) T.bj hr (aa (pv 4) (aa au ak ao) aj)) au)) ak bU)) (gN sc 7)
   (aA (bw (eN (cT T) T.cD hr (@aa _ _ _ _ _ (pv 6) (@aa _ _ _ _ _ (eN (bf T) T.bj hr (aa (pv 5) (aa (pv 7) ak aj) aj)) (@aa _ _ _ _ _ bH (@aa _ _ _ _ _ (bc ak) (@aa _ _ _ _ _ (bc ak) (@aa _ _ _ _ _ au ak ao) aQ) aQ) ao) bh) aj)))))
  (az (jc (i:=8) [5,6] Ff (aR (top 74)) rfl sc.nd rfl (jR rfl T.oV (aa (bB cB (eN (bf T) T.bj hr (aa (pv 4) (aa au ak ao) aj)) au) ak bU)) (λ_ _ _ _ _=>fK) (λ_ _ _ _ _=>(eN (j7 T) T.iU hr (aa (pv 2) (aa (eN (bf T) T.bj hr (aa (pv 1) (aa (bB fD au (pv 0)) ak bU) aj)) (aa ir ak ao) bh) aj))))
  (az (bw (Em PySem.F.plainAttrs_list PySem.F.slot_list_extend PySem.F.type_list_extend HY (aU aV (pv 6) au (λ_ _=>rfl)) (aa (pv 8) ak aj)))
  (az (fC PassesOwn.never rfl (jR rfl T.oV (aa (pv 2) ak aj)) (gN sc 7)
   (aA (bw (eN (J2 T) T.vy hr (aa (pv 6) (aa (eN (tQ T) T.mO hr (aa (pv 0) (aa (bB fD (bB fD (pv 1) au) (pv 7)) ak bU) aj)) (aa (pv 3) ak aj) bh) aj)))))
  (az (bw (eN (El T) T.qU hr (aa (pv 6) (aa (pv 5) (aa (pv 8) ak aj) aj) aj)))
  (az (sN sc 9 (bB cB (eN (bf T) T.bj hr (aa (pv 4) (aa au ak ao) aj)) (bA bY (by rfl) T.gh dJ (aa (aU aV (pv 6) au (λ_ _=>rfl)) ak aF))))
  (aA (aN (b8 (aa (aU aV (pv 6) au (λ_ _=>rfl)) (aa (bB yp (j4 ut (aU aV (pv 6) au (λ_ _=>rfl)) (j9 (pv 9)) ug) (j4 ut (aU aV (pv 6) au (λ_ _=>rfl)) ug (j9 (pv 9)))) ak bU) aF))))))))))))),?_⟩
 have hl:sizeLine=16777216:=sizeLine_eq;refine hide λu hu=>?_;refine⟨_,Z,_,Z,a,ns,start,Z,hS,?_⟩;refine dq (v:=u) hu λu hu=>?_;refine⟨_,Z,_,Z,_,_,Z,Z,a,ns,start+1,Z,hS,?_⟩;refine dq (v:=u) hu λu hu=>?_;refine⟨by show 0<=sizeLine;lia,λL nL=>⟨by show 0<=sizeLine;lia,λP' nP=>⟨by show 0<=sizeLine;lia,λO nO=>⟨_,Z,_,Z,by show 5<=sizeLine;lia,λS nS=>?_⟩⟩⟩⟩;obtain⟨D1,s1,nP0⟩:=oO.init (oE ns start) (oE ns (start+1)) nL nP nO nS;have nLP:L≠P':=D1.ne.1;refine dq (v:=u) hu λu hu=>?_;change yF _ _ _ [some (.ref a),some (.int (start:Nat)),some (.int (steps:Nat)),some (.bl odd),some (.int (oE ns start)),some (.int (oE ns (start+1))),some (.ref S),none,none,none] (upd (upd (upd (upd H L (.lst [])) P' (.lst [])) O (.lst [])) S (.lst [.ref L,.ref P',.ref O,.int (oE ns start),.int (oE ns (start+1))]));generalize upd (upd (upd (upd H L (.lst [])) P' (.lst [])) O (.lst [])) S (.lst [.ref L,.ref P',.ref O,.int (oE ns start),.int (oE ns (start+1))])=H1 at D1 s1 ⊢;obtain⟨d,hd⟩:∃d:Dw,d=⟨S,L,P',O,oE ns start,oE ns (start+1)⟩:=⟨_,rfl⟩;rw [<-hd] at D1;have hE:[L,P',O]=d.E:=by rw [hd]
 have hSd:S=d.S:=by rw [hd]
 have hLd:L=d.L:=by rw [hd]
 have hc3:oE ns start=d.c3:=by rw [hd]
 have hc4:oE ns (start+1)=d.c4:=by rw [hd]
 rw [hE] at s1;rw [hLd] at nL nLP;rw [hc3,hc4] at k;rw [hSd,hc3,hc4];clear hd hE nP nO nS;have g0:=emod_nonneg (bW d.c3 5) (show(2:Int)≠0 by decide);have g1:=emod_lt_of_pos (bW d.c3 5) (show(0:Int) <2 by decide);refine⟨_,Z,_,_,Z,_,_,Z,Z,by show(0:Int) <2;decide,_,_,Z,Z,1+bW d.c3 5 % 2,Z,by lia,by lia,?_⟩;obtain⟨g,hg,hg1,hg2⟩:∃g:Nat,(1+bW d.c3 5 % 2).toNat=g/\1<=g/\g<=2:=⟨_,rfl,by lia,by lia⟩;rw [hg];refine Bb (λj σ H2=>∃(ls:List aJ) (ps:List PD) (os:List Str) (v7:Option V),σ=[some (.ref a),some (.int (start:Nat)),some (.int (steps:Nat)),some (.bl odd),some (.int d.c3),some (.int d.c4),some (.ref d.S),v7,none,none]/\aK (bL d.E H1) (bL d.E H2)/\oO d H2 ls ps os/\Drawn.WF (vX ls ps os [])/\ls.length=j/\ps.length=j/\os.length=j/\(1<=j->Kl ps)) ⟨[],[],[],none,Z,aK.refl _,D1,Drawn.WF.start,Z,Z,Z,λh=>absurd h (by decide)⟩ ?_ ?_
 ·rintro j σ H2 hj ⟨ls,ps,os,v7,rfl,s2,D2,w2,h1,h2,h3,hC⟩;refine Xa λDe hD=>?_;refine⟨_,Z,_,Z,_,Z,_,_,Z,by show 0<=sizeLine;lia,λa1 n1=>⟨by show 0<=sizeLine;lia,λa2 n2=>?_⟩⟩;obtain⟨D9,z1,z2,z3⟩:=D2.two n1 n2 (y:=.lst []);refine⟨d,ls,ps,os,_,0,a1,a2,[],[],1,Z,D9,z1,z2,by lia,Z,by simp,Z,Z,by lia,by lia,by lia,λnewl H8 hn s8 D8=>?_⟩;have w8:=rY w2 rfl D8 (.refl _) (by lia) (by rw [lP];lia);subst hD;exact⟨_,_,_,_,Z,s2.trans (z3.trans s8),D8,w8,by rw [lP];lia,by rw [lP,length_singleton];lia,by rw [lP,lM];lia,λ_=>by unfold Kl;rw [List.any_append];simp⟩
 rintro σ H2 ⟨ls,ps,os,v7,rfl,s2,D2,w2,h1,h2,h3,hC⟩;have b0:=emod_nonneg (bW d.c3 6) (show(3:Int)≠0 by decide);have b1:=emod_lt_of_pos (bW d.c3 6) (show(0:Int) <3 by decide);refine dq (v:=u) hu λu hu=>?_;refine⟨_,Z,_,_,Z,_,_,Z,Z,by show(0:Int) <3;decide,bW d.c3 6 % 3,Z,by lia,by lia,?_⟩;obtain⟨nb,hnb,hnb2⟩:∃nb:Nat,(bW d.c3 6 % 3).toNat=nb/\nb<=2:=⟨_,rfl,by lia⟩;rw [hnb];refine pF (λj ys H3=>∃(ls3:List aJ) (bl:List Str),ys=bl.map V.str/\bl.length=j/\aK (bL d.E H1) (bL d.E H3)/\oO d H3 ls3 ps os/\Drawn.WF (vX ls3 ps (os ++ bl) bl)/\ls3.length=g+j) (by lia) ⟨ls,[],Z,Z,s2,D2,by rw [append_nil];exact w2,by lia⟩ (λj ys H3 ⟨_,bl,e,e2,_⟩=>by rw [e,lM];lia) ?_ ?_
 ·rintro j ys H3 hj ⟨ls3,bl,rfl,hb,s3,D3,w3,h4⟩;refine yes ⟨_,Z,_,Z,_,Z,_,_,Z,Z,_,_,Z,d,ls3,ps,os,_,true,Z,D3,by lia,λl H4 _ s4 D4=>?_⟩;have nd:=D4.nod (by rw [lP,length_singleton];lia);have wb:=w3.backLane (b:=l.name) (by simpa using nd);exact⟨ls3 ++ [l],bl ++ [l.name],by simp,by simp [hb],s3.trans s4,D4,by simpa [vX] using wb,by rw [lP,length_singleton];lia⟩
 rintro ys H3 ⟨ls3,bl,rfl,hbl,s3,D3,w3,h4⟩ B nB;have t4:=aB (o:=.lst (bl.map V.str)) nB;have D4:=D3.keep t4;have s4:=s3.trans (D3.cut t4);have eB:=f9 (aq (H:=H3) (a:=B) (o:=.lst (bl.map V.str))) (D3.out nB);generalize upd H3 B (.lst (bl.map V.str))=H4 at t4 D4 s4 eB ⊢;refine dq (v:=u) hu λu hu=>?_;refine⟨_,Z,d.S,_,2,_,Z,Z,D4.seqS,aM (j:=2) Z,.inl ⟨Z,_,bK.of D4.opens⟩,_,Z,d.O,B,_,_,Z,Z,D4.opens,dj _ _ eB,by rw [lM,lM];lia,?_⟩;rw [<-map_append];have D5:=D4.open (os':=os ++ bl);have c5:bL d.E (upd H4 d.O (.lst ((os ++ bl).map V.str)))=bL d.E H4:=eY (by simp);generalize upd H4 d.O (.lst ((os ++ bl).map V.str))=H5 at D5 c5 ⊢;rw [<-c5] at s4 eB;refine dq (v:=u) hu λu hu=>?_;refine⟨_,Z,(steps:Int),Z,by lia,by lia,?_⟩;rw [toNat_natCast];refine Bb (λj σ H6=>∃(ls6:List aJ) (ps6:List PD) (os6:List Str) (v7:Option V),σ=[some (.ref a),some (.int (start:Nat)),some (.int (steps:Nat)),some (.bl odd),some (.int d.c3),some (.int d.c4),some (.ref d.S),v7,some (.ref B),none]/\aK (bL d.E H5) (bL d.E H6)/\oO d H6 ls6 ps6 os6/\Drawn.WF (vX ls6 ps6 os6 bl)/\1<=ls6.length/\ls6.length<=4+2 * j/\ps6.length<=2+2 * j/\os6≠[]/\os6.length<=4/\Kl ps6) ⟨ls3,ps,os ++ bl,v7,Z,aK.refl _,D5,w3,by lia,by lia,by lia,by intro z;have:=congrArg List.length z;rw [lP,length_nil] at this;lia,by rw [lP];lia,hC (by lia)⟩ ?_ ?_
 ·rintro j σ H6 hj ⟨ls6,ps6,os6,u7,rfl,s6,D6,w6,l0,l6,p6,o0,o6,hC6⟩;have hS6:bK K H6 a (ns.map V.int):=dj.seq ((s1.trans (s4.trans s6)).seq hS);refine Xa λDe hD=>?_;refine⟨_,Z,_,Z,_,Z,_,_,Z,Z,_,Z,_,_,Z,Z,a,ns,start+2+(0+j),Z,hS6,_,Z,d,ls6,ps6,os6,_,bl,odd,Z,D6,w6,o0,o6,by lia,by lia,λls' ps' os' H' X=>?_⟩;subst hD;exact⟨ls',ps',os',_,Z,s6.trans X.cut,X.at',X.wf,by have h1:=X.wf.ins.length_eq;have h2:=X.o1;rw [lP,lM] at h1;change _+os'.length=_ at h1;lia,by have:=X.l2;lia,by have:=X.p2;lia,by intro z;have:=X.o1;rw [z] at this;simp at this,X.o4,X.gv hC6⟩
 rintro σ H6 ⟨ls6,ps6,os6,u7,rfl,s6,D6,w6,l0,l6,p6,o0,o6,hC6⟩;refine dq (v:=u) hu λu hu=>?_;refine⟨_,Z,_,Z,_,Z,d,ls6,ps6,os6,_,B,bl,Z,D6,w6,s6 _ _ eB,o0,o6,by lia,by lia,by lia,hC6,λls7 ps7 H7 s7 D7 W7 l17 l7 p16 p1 hC7=>?_⟩;obtain⟨xsL,eL,aL⟩:=D7.lanes;obtain⟨xsP,eP,aP⟩:=D7.parts;have xl:=aP.length;refine dq (v:=u) hu λu hu=>?_;refine⟨_,Z,_,_,Z,_,Z,d.S,_,1,_,Z,Z,D7.seqS,aM (j:=1) Z,.ref d.P,ps7.length,Z,.inl ⟨_,bK.of eP,xl.symm⟩,bW d.c3 7,(ps7.length:Int),Z,Z,by lia,?_⟩;have r0:=emod_nonneg (bW d.c3 7) (show(ps7.length:Int)≠0 by lia);obtain⟨r,hr'⟩:∃r:Nat,bW d.c3 7 % (ps7.length:Int)=(r:Int):=⟨_,(Int.toNat_of_nonneg r0).symm⟩;dsimp only;rw [hr'];subst hu;refine⟨_,Z,d.S,_,0,_,Z,Z,D7.seqS,aM (j:=0) Z,?_⟩;refine⟨_,Z,d.S,_,1,_,Z,Z,D7.seqS,aM (j:=1) Z,?_⟩;refine⟨_,Z,_,Z,d.P,_,Z,bK.of eP,λq1 m1=>?_⟩;rw [Q6];have t1:=aB (o:=.lst (xsP.drop r)) m1;have f1:upd H7 q1 (.lst (xsP.drop r)) q1=some (.lst (xsP.drop r)):=aq;have D8:=D7.keep t1;have eP8:=t1 _ _ eP;have eL8:=t1 _ _ eL;generalize upd H7 q1 (.lst (xsP.drop r))=H8 at t1 f1 D8 eP8 eL8 ⊢;refine⟨_,Z,d.S,_,1,_,Z,Z,D8.seqS,aM (j:=1) Z,_,Z,_,Z,d.P,_,Z,bK.of eP8,λq2 m2=>?_⟩;rw [We];have t2:=aB (o:=.lst (xsP.take r)) m2;have f2:upd H8 q2 (.lst (xsP.take r)) q2=some (.lst (xsP.take r)):=aq;have f12:=t2 _ _ f1;have eL9:=t2 _ _ eL8;generalize upd H8 q2 (.lst (xsP.take r))=H9 at t2 f2 f12 eL9 ⊢;refine⟨q1,q2,_,_,Z,Z,f12,f2,by rw [length_drop,length_take];lia,λq3 m3=>?_⟩;have t3:=aB (o:=.lst (xsP.drop r ++ xsP.take r)) m3;have f3:upd H9 q3 (.lst (xsP.drop r ++ xsP.take r)) q3=some (.lst (xsP.drop r ++ xsP.take r)):=aq;have eLA:=t3 _ _ eL9;generalize upd H9 q3 (.lst (xsP.drop r ++ xsP.take r))=HA at t3 f3 eLA ⊢;refine⟨by show 2<=sizeLine;lia,λT' nT=>?_⟩;have t4:=aB (o:=.tup [.ref d.L,.ref q3]) nT;have sA:aK H7 (upd HA T' (.tup [.ref d.L,.ref q3])):=t1.trans (t2.trans (t3.trans t4));have s17:aK H (bL d.E H7):=s1.trans (s4.trans (s6.trans s7));have s07:aK H H7:=s17.trans dj;have free3:H q3=none:=s07.free (t1.free (t2.free m3));have cA:aK (bL d.E H7) (upd HA T' (.tup [.ref d.L,.ref q3])):=dj.trans sA;have nq:d.L≠q3:=aC eL9 m3;have rp:=Su ps7 r;refine k T' d.L q3 ls7 (ps7.drop r ++ ps7.take r) _ (s07.trans sA) nL free3 nq aq ⟨⟨xsL,t4 _ _ eLA,aL.imp λ_ _ h=>h.same cA⟩,⟨_,t4 _ _ f3,((aP.drop r).app (aP.take r)).imp λ_ _ h=>h.same cA⟩⟩ ⟨D7.lok,λp hp=>D7.pok p (rp.mem_iff.mpr hp),D7.ln,?_,W7.perm rp,by lia,l17,by rw [<-rp.length_eq];exact p1,by rw [<-rp.length_eq];exact p16,by unfold Kl at hC7 ⊢;rw [<-rp.any_eq];exact hC7⟩;rw [<-rp.length_eq,<-D7.pn];exact rp.map _
inductive Ei (K:Fr) (vs:List V) (H:Hp) (Q:VK) (E:XK):Prop where
 | mk:∀x,vs=[x]->(((∃z:Str,x=.str z/\z.length<=100/\∀H',aK H H'->Q (.bl (nameB z)) H')∨∃Tx,tyN K H x Tx/\Tx∈lV/\Tx≠ "str" /\Q (.bl false) H))->Ei K vs H Q E
theorem Mp (T:Txt w K mg t):FO P w K mg base 1 t.Hg ["thing"] (Ei K):=by
 have sc:=T.Ag.sc ["thing"];refine T.Ag.F.ok sc ln (λ_ _ _ _ H vs Q E hr h=>?_);obtain⟨x,rfl,h⟩:=h;refine⟨_,(az (bQ (PW.pt (ww (jU (jL (bA zz (by rfl) T.jq iC (aa (pv 0) (aa (zu (by rfl) T.W8 Tt) ak aj) aj)))) (pP (jU (yP xq xq au (bA bY (by rfl) T.gh dJ (aa (pv 0) ak aj)) (jB (by rfl) T.Gm))))))
   (aA (aN ir))
   bz)
  (aA (aN (Bh (tH Ay (aU Et (pv 0) au (λ_ _=>rfl)) (jB (by rfl) T.Hy) (by with_unfolding_all rfl)) (Bd (bA (zU rfl) (by rfl) T.O3 J0 (aa (eE [] ["thing"] (aR (top 23)) rfl (XH (pv 0)) (λ_ _ _ _ _=>fK) (λ_ _ _ _ _=>(ZG (tH Ay (pv 0) (jB (by rfl) T.Hy) (by with_unfolding_all rfl)) (Bd (tH Ay (pv 0) (jB (by rfl) T.Ql) (by with_unfolding_all rfl)))))) ak dZ))))))),?_⟩
 have hl:sizeLine=16777216:=sizeLine_eq;rcases h with ⟨z,rfl,hz,k⟩ | ⟨Tx,ty,hm,hne,k⟩
 ·refine⟨_,Z,.str z, "str", "str",true,Z,Z,by decide,by decide,_,Z,cj ?_⟩;refine⟨_,Z,.str z,z.length,Z,⟨by lia,Z⟩,_,_,Z,Z,_,Z,?_⟩;cases e:z.cps.toList with
  | nil=>
   have h0:z.length=0:=by rw [<-pA,e];rfl
   rw [h0];refine cj ⟨_,Z,gm ?_⟩;have:=k H (aK.refl _);unfold nameB at this;rw [e] at this;exact this
  | cons c r=>
   have hlen:z.length=r.length+1:=by rw [<-pA,e];rfl
   refine yw (by lia) ⟨_,_,Z,Z,_,Z,nH (λh=>?_) (λh=>?_)⟩
   ·have h8:¬(z.length:Int)<=8:=by simpa using h
    have:=k H (aK.refl _);unfold nameB at this;rw [e] at this;simp only [show ¬r.length<=7 by lia,decide_false,Bool.false_and] at this;exact this
   ·have h8:(z.length:Int)<=8:=by simpa using h
    have hc0:Ji z.cps.toList 0=some c:=by rw [e];exact aM (xs:=c:: r) (j:=0) rfl
    refine⟨_,Z,z,_,c,Z,Z,by lia,hc0,_,_,Z,Z,_,Z,?_⟩;have kk:∀H',aK H H'->Q (.bl (low c && z.cps.toList.all λd=>low d || NZ d)) H':=λH' s'=>by have:=k H' s';unfold nameB at this;rw [e] at this ⊢;simp only [show r.length<=7 by lia,decide_true,Bool.true_and] at this;exact this
    rw [Rz];refine nH (λhc=>?_) (λhc=>?_)
    ·rw [hc,Bool.true_and] at kk;refine⟨_,Z,z,Z,RQ (λi ys H'=>H'=H/\ys=((z.cps.toList.take i).map λd=>low d || NZ d).map V.bl) (by simp only [Str.length] at hz;lia) ⟨Z,by simp⟩ (λi ys H' ⟨_,e⟩=>by rw [e];simp only [lM,length_take];lia) ?_ ?_⟩
     ·rintro i d ys H' hd ⟨rfl,rfl⟩;refine yes ⟨_,Z,_,_,Z,Z,_,Z,?_⟩;have hd':z.cps.toList[i]?=some d:=by simpa using hd
      have next:∀b,b=(low d || NZ d)->(((z.cps.toList.take i).map λd=>low d || NZ d).map V.bl) ++ [V.bl b]=((z.cps.toList.take (i+1)).map λd=>low d || NZ d).map V.bl:=λb hb=>by rw [List.take_add_one,hd',hb];simp
      rw [Rz];refine nH (λhl'=>?_) (λhl'=>?_)
      ·exact⟨rfl,next true (by rw [hl'];rfl)⟩
      ·have hl2:low d=false:=by simpa using hl'
       refine⟨_,Z,_,_,Z,Z,Z,next _ ?_⟩;rw [YW,hl2,Bool.false_or]
     ·rintro ys H' ⟨rfl,rfl⟩ D hD;refine⟨D,(z.cps.toList.take z.cps.size).map λd=>low d || NZ d,Z,bK.of aq,?_⟩;have hall:((z.cps.toList.take z.cps.size).map λd=>low d || NZ d).all id=z.cps.toList.all λd=>low d || NZ d:=by rw [take_of_length_le (by simp),List.all_map];rfl
      rw [hall];exact kk _ (aB hD)
    ·have hc':low c=false:=by simpa using hc
     rw [hc',Bool.false_and] at kk;exact kk H (aK.refl _)
 ·have hb:Jr Tx "str" =false:=by simp only [lV,mem_cons,not_mem_nil,or_false] at hm;rcases hm with rfl | rfl | rfl | rfl | rfl | rfl | rfl <;> first | decide | exact absurd rfl hne
  exact⟨_,Z,x,Tx, "str",false,Z,ty,by decide,hb,_,Z,gm (gm k)⟩
inductive uT (K:Fr) (vs:List V) (H:Hp) (Q:VK) (E:XK):Prop where
 | mk:∀(a b:Addr) (xs ys:List V),vs=[.ref a,.ref b]->bK K H a xs->bK K H b ys->1<=xs.length->xs.length<=24->1<=ys.length->ys.length<=16->Q .non H->uT K vs H Q E
theorem FN (T:Txt w K mg t):FO P w K mg base 1 t.xJ ["lanes", "parts"] (uT K):=by
 have sc:=T.rB.sc ["lanes", "parts"];refine T.rB.F.ok sc ln (λ_ _ _ _ H vs Q E hr h=>?_);obtain⟨a,b,xs,ys,rfl,h1,h2,c1,c2,c3,c4,k⟩:=h;refine⟨_,(az (bQ (jU (yP xq xq au (bA bY (by rfl) T.gh dJ (aa (pv 0) ak aj)) (jB (by rfl) T.JW)))
   (aA gM)
   bz)
  (aA (bQ (jU (yP xq xq au (bA bY (by rfl) T.gh dJ (aa (pv 1) ak aj)) (jB (by rfl) T.Jk)))
   (aA gM)
   bz))),?_⟩
 have hl:sizeLine=16777216:=sizeLine_eq;refine⟨_,Z,.ref a,xs.length,Z,.inl ⟨_,h1,Z⟩,_,_,Z,Z,_,Z,yw (by lia) ⟨_,_,Z,Z,_,Z,?_⟩⟩;rw [show decide ((xs.length:Int)<=24)=true from decide_eq_true (by lia)];refine cj ?_;refine⟨_,Z,.ref b,ys.length,Z,.inl ⟨_,h2,Z⟩,_,_,Z,Z,_,Z,yw (by lia) ⟨_,_,Z,Z,_,Z,?_⟩⟩;rw [show decide ((ys.length:Int)<=16)=true from decide_eq_true (by lia)];exact cj k
inductive xW (K:Fr) (vs:List V) (H:Hp) (Q:VK) (E:XK):Prop where
 | mk:∀(z:Str) (d:Addr) (kvs:List (Key×V)),vs=[.str z,.ref d]->H d=some (.dK kvs)->nameB z=true->z.length<=100->b7 kvs (Sum.inr z)=none->(∀H',aK H H'->Q .non H')->xW K vs H Q E
theorem xx (T:Txt w K mg t):FO P w K mg base 2 t.zF ["name", "known"] (xW K):=by
 have sc:=T.oX.sc ["name", "known"];refine T.oX.F.ok sc ln (λ_ _ _ _ H vs Q E hr h=>?_);obtain⟨z,d,kvs,rfl,hd,hz,hl,hv,k⟩:=h;refine⟨_,(az (bQ (jU (jL (eN (Mp T) T.Ag hr (aa (pv 0) ak aj))))
   (aA gM)
   bz)
  (aA (bQ (jx (Ad hr.u1 (pv 0) (pv 1)))
   (aA gM)
   bz))),?_⟩
 refine⟨_,Z,.str z,Z,.inl ⟨z,Z,hl,λH1 s1=>?_⟩⟩;rw [hz];refine⟨_,Z,cj ?_⟩;refine⟨_,Z,_,Z,d,_,Z,d8.k (k:=Sum.inr z) (s1 _ _ hd),?_⟩;rw [hv];exact⟨_,Z,cj (k _ s1)⟩
inductive yI (K:Fr) (vs:List V) (H:Hp) (Q:VK) (E:XK):Prop where
 | mk:∀(nm:V) (room:Int) (L:Addr) (ws:List Int),vs=[nm,.int room,.ref L]->zG K H L (ws.map V.int)->ws.length<=1000->((∀v∈ws,0<=v/\v <1000000000))->1<=room->(ws.length:Int)<=room->room<=199->(∀H',aK H H'->Q .non H')->yI K vs H Q E
theorem Jj (T:Txt w K mg t):FO P w K mg base 3 t.Ck ["name", "room", "first"] (yI K):=by
 have sc:=T.uV.sc ["name", "room", "first"];refine T.uV.F.ok sc ln (λ_ _ _ _ H vs Q E hr h=>?_);obtain⟨nm,room,L,ws,rfl,hL,hw,hB,c1,c2,c3,k⟩:=h;refine⟨_,(az (bQ (PW.pt (ww (jU (jL (eN (BR T) T.uq hr (aa (pv 1) ak aj)))) (pP (jU (yP xq xq (bA (Hx rfl) (by rfl) T.Ud Nj (aa au (aa (bA bY (by rfl) T.gh dJ (aa (pv 2) ak aj)) ak bh) ao)) (pv 1) (jB (by rfl) T.Lw))))))
   (aA gM)
   bz)
  (aA (bQ (jU (jL (bA (zU rfl) (by rfl) T.O3 J0 (aa (eE [] ["name", "room", "first"] (aR (top 49)) rfl (WT (bT (pv 2)) (Je (pv 2))) (λ_ _ _ _ _=>fK) (λ_ _ _ _ _=>(eN (wg T) T.pW hr (aa (pv 0) ak aj)))) ak dZ))))
   (aA gM)
   bz))),?_⟩
 have hl:sizeLine=16777216:=sizeLine_eq;have hlw:(ws.map V.int).length=ws.length:=lM ..;refine⟨_,Z,.int room, "int",true,Z,Z,by decide,by decide,true,Z,cj ?_⟩;refine⟨_,Z,.ref L,(ws.map V.int).length,Z,hL.len,_,_,Z,_,Z,_,_,Z,Z,_,Z,yw ?_ ⟨_,_,Z,Z,_,Z,?_⟩⟩
 ·split <;> lia
 rw [show decide (room<=199)=true from decide_eq_true c3];refine cj ?_;refine S9 (a:=L) (xs:=ws.map V.int) ?_ hL (λj ys=>ys=(List.replicate j true).map V.bl) (by rw [lM];lia) rfl (λj ys e=>by rw [e];simp) (λj x ys hx e=>?_) (λys e D hD=>?_)
 ·exact λR r=>⟨_,Z,r⟩
 ·subst e;rw [getElem?_map] at hx;obtain⟨n,hn,rfl⟩:=map_eq_some_iff.mp hx;obtain⟨n0,n1⟩:=hB n (mem_of_getElem? hn);refine yes ⟨_,Z,.int n,Z,.inl ⟨n,Z,Z,?_⟩⟩;rw [decide_eq_true n0,decide_eq_true n1,List.replicate_succ'];simp
 ·subst e;refine⟨D,_,Z,bK.of aq,_,Z,?_⟩;rw [show((List.replicate (ws.map V.int).length true).all id)=true by simp];exact cj (k _ (aB hD))
inductive xr (K:Fr) (t:jr) (vs:List V) (H:Hp) (Q:VK) (E:XK):Prop where
 | mk:∀(i:Nat) (nm:Str) (r d a1 a2 a3:Addr) (ns is os:List V) (kvs:List (Key×V)),vs=[.ref r,.ref d]->H r=some (.tup [.str (cL i),.str nm,.ref a1,.ref a2,.ref a3])->i<=10->H d=some (.dK kvs)->nameB nm=true->nm.length<=100->b7 kvs (Sum.inr nm)=none->zG K H a1 ns->zG K H a2 is->zG K H a3 os->ns.length=cN i->is.length=cI i->os.length=cO i->((∀v∈ns,Val v))->(∀H' p,aK H H'->H p=none->fO K t H' p i (.str nm) ns is os->Q (.ref p) H')->xr K t vs H Q E
theorem Gx (T:Txt w K mg t):FO P w K mg base 5 t.yH ["row", "known"] (xr K t):=by
 have sc:=T.tK.sc ["row", "known"];refine T.tK.F.ok sc ln (λ_ _ _ _ H vs Q E hr h=>?_);obtain⟨i,nm,r,d,a1,a2,a3,ns,is,os,kvs,rfl,hr1,hi,hd,hz,hl,hv,q1,q2,q3,l1,l2,l3,hV,k⟩:=h;refine⟨_,(az (bQ (jU (jL (eN (Fj T) T.wN hr (aa (aU dI (pv 0) au (λ_ _=>Z)) ak aF))))
   (aA gM)
   bz)
  (az (bw (eN (xx T) T.oX hr (aa (aU dI (pv 0) au (λ_ _=>rfl)) (aa (pv 1) ak aj) aF)))
  (aA (aN (eN (Jp T) T.Cq hr (aa (aU dI (pv 0) au (λ_ _=>rfl)) (aa (aU dI (pv 0) au (λ_ _=>rfl)) (aa (aU dI (pv 0) au (λ_ _=>rfl)) (aa (aU dI (pv 0) au (λ_ _=>rfl)) (aa (aU dI (pv 0) au (λ_ _=>rfl)) ak aF) aF) aF) aF) aF)))))),?_⟩
 refine⟨_,Z,r,_,0,_,Z,Z,gq.of hr1,aM (j:=0) Z,cL i,Z,?_⟩;rw [row_of];refine⟨_,Z,cj ?_⟩;refine⟨_,Z,r,_,1,_,Z,Z,gq.of hr1,aM (j:=1) Z,_,Z,nm,d,kvs,Z,hd,hz,hl,hv,λH1 s1=>?_⟩;have e1:=gq.of (K:=K) (s1 _ _ hr1);exact⟨_,Z,r,_,0,_,Z,Z,e1,aM (j:=0) Z,_,Z,r,_,1,_,Z,Z,e1,aM (j:=1) Z,_,Z,r,_,2,_,Z,Z,e1,aM (j:=2) Z,_,Z,r,_,3,_,Z,Z,e1,aM (j:=3) Z,_,Z,r,_,4,_,Z,Z,e1,aM (j:=4) Z,i,.str nm,a1,a2,a3,ns,is,os,Z,hi,s1.seqA q1,s1.seqA q2,s1.seqA q3,l1,l2,l3,hV,λH2 p s2 np P=>k _ p (s1.trans s2) (s1.free np) P⟩
inductive zL (K:Fr) (vs:List V) (H:Hp) (Q:VK) (E:XK):Prop where
 | mk:∀(y:Str) (a rd d:Addr) (zs:List Str) (rk kvs:List (Key×V)),vs=[.str y,.ref a,.ref rd,.ref d]->gq K H a (zs.map V.str)->H rd=some (.dK rk)->rd≠d->H d=some (.dK kvs)->zs.Nodup->((∀z∈zs,(b7 rk (Sum.inr z)).isSome=true/\b7 kvs (Sum.inr z)=none))->kvs.length+zs.length<=1000->(Q .non (upd H d (.dK (kvs ++ zs.map λl=>((Sum.inr l:Key),V.str y)))))->zL K vs H Q E
theorem zE (T:Txt w K mg t):FO P w K mg base 1 t.BL ["part", "lanes", "rooms", "ends"] (zL K):=by
 have sc:=T.qJ.sc ["part", "lanes", "rooms", "ends", "lane"];refine T.qJ.F.ok sc ln (λ_ _ _ _ H vs Q E hr h=>?_);obtain⟨y,a,rd,d,zs,rk,kvs,rfl,hT,hrd,hne,hd,nd,hz,hlen,k⟩:=h;refine⟨_,(aA (fC PassesOwn.never Z (Je (pv 1)) (gN sc 4)
   (az (bQ (PW.pt (ww (jx (wJ hr.u1 (pv 4) (pv 2))) (pP (jx (Ad hr.u1 (pv 4) (pv 3))))))
    (aA gM)
    bz)
   (aA (jj hr.u1 (pv 3) (pv 4) (pv 0) rfl))))),?_⟩
 have hl:sizeLine=16777216:=sizeLine_eq;refine⟨_,rfl,a,rfl,⟨_,hT⟩,VH (K:=K) (a:=a) (xs:=zs.map V.str) (λj σ H'=>H'=upd H d (.dK (kvs ++ (zs.take j).map λl=>((Sum.inr l:Key),V.str y)))/\∃v4,σ=[some (.str y),some (.ref a),some (.ref rd),some (.ref d),v4]) ⟨by rw [List.take_zero,map_nil,append_nil,Ka hd],none,rfl⟩ (λj σ H' _ ⟨e,_⟩=>by rw [e];exact gf hd hT) ?_ ?_⟩
 ·rintro j x σ H' hx ⟨rfl,v4,rfl⟩;rw [getElem?_map] at hx;obtain⟨z,hzj,rfl⟩:=map_eq_some_iff.mp hx;have hj:j <zs.length:=(List.getElem?_eq_some_iff.mp hzj).1;obtain⟨r1,r2⟩:=hz z (mem_of_getElem? hzj);obtain⟨rv,hrv⟩:=isSome_iff_exists.mp r1;have erd:upd H d (.dK (kvs ++ (zs.take j).map λl=>((Sum.inr l:Key),V.str y))) rd=some (.dK rk):=by rw [aG hne];exact hrd
  have nin:z∉zs.take j:=λhm=>by
   obtain⟨i,hi,ei⟩:=mem_iff_getElem.mp hm;rw [length_take] at hi;rw [List.getElem_take] at ei;have e2:zs[j]=z:=by rw [getElem?_eq_getElem hj] at hzj;exact Option.some.inj hzj
   have:=(getElem_inj nd).mp (ei.trans e2.symm)
   lia
  have none':b7 (kvs ++ (zs.take j).map λl=>((Sum.inr l:Key),V.str y)) (Sum.inr z)=none:=iy (by
   rw [map_append,mem_append,not_or];refine⟨λhm=>?_,λhm=>?_⟩
   ·have:(b7 kvs (Sum.inr z)).isSome=true:=by rw [<-rR];obtain⟨p,hp,e⟩:=mem_map.mp hm;exact any_eq_true.mpr ⟨p,hp,decide_eq_true e⟩
    rw [r2] at this;cases this
   ·rw [map_map] at hm;obtain⟨b,hb,e⟩:=mem_map.mp hm;cases e;exact nin hb)
  refine⟨_,rfl,_,rfl,rd,some rv,rfl,(by rw [<-hrv];exact d8.k (k:=Sum.inr z) erd),_,rfl,cj ?_⟩;refine⟨_,rfl,_,rfl,d,none,rfl,(by rw [<-none'];exact d8.k (k:=Sum.inr z) aq),_,rfl,cj ?_⟩;refine⟨_,rfl,_,rfl,_,rfl,d,_,rfl,sO.k (k:=Sum.inr z) aq (by rw [lP,lM,length_take];lia),?_,_,rfl⟩;rw [tV,kW _ none',append_assoc,take_succ,hzj,toList_some,map_append];rfl
 ·rintro σ H' ⟨rfl,v4,rfl⟩;rw [lM,take_length];exact k
inductive zB (K:Fr) (vs:List V) (H:Hp) (Q:VK) (E:XK):Prop where
 | mk:∀(r g d:Addr) (rk gk tk:List (Key×V)),vs=[.ref r,.ref g,.ref d]->H r=some (.dK rk)->H g=some (.dK gk)->H d=some (.dK tk)->r≠g->r≠d->((∀q∈rk,(b7 gk q.1).isSome=true/\(b7 tk q.1).isSome=true))->Q .non H->zB K vs H Q E
theorem JR (T:Txt w K mg t):FO P w K mg base 1 t.Ce ["rooms", "givers", "takers"] (zB K):=by
 have sc:=T.wu.sc ["rooms", "givers", "takers", "lane"];refine T.wu.F.ok sc ln (λ_ _ _ _ H vs Q E hr h=>?_);obtain⟨r,g,d,rk,gk,tk,rfl,h1,h2,h3,n1,n2,hA,k⟩:=h;refine⟨_,(aA (zP (H0:=H) Z (fC PassesOwn.never Z (yG (pv 0)) (gN sc 3)
   (aA (bQ (PW.pt (ww (jx (wJ hr.u1 (pv 3) (pv 1))) (pP (jx (wJ hr.u1 (pv 3) (pv 2))))))
    (aA gM)
    bz))))),?_⟩
 refine⟨_,Z,r,_,Z,h1,λo=>zq (λj σ H'=>H'=upd H r (.frz o (.dK rk))/\∃v3,σ=[some (.ref r),some (.ref g),some (.ref d),v3]) ⟨Z,none,Z⟩ (λj σ H' _ ⟨e,_⟩=>by rw [e];exact aq) ?_ ?_⟩
 ·rintro j kk w σ H' hj ⟨rfl,v3,rfl⟩;obtain⟨a1,a2⟩:=hA _ (mem_of_getElem? hj);obtain⟨u1,b1⟩:=isSome_iff_exists.mp a1;obtain⟨u2,b2⟩:=isSome_iff_exists.mp a2;have e2:upd H r (.frz o (.dK rk)) g=some (.dK gk):=by rw [aG (Ne.symm n1)];exact h2
  have e3:upd H r (.frz o (.dK rk)) d=some (.dK tk):=by rw [aG (Ne.symm n2)];exact h3
  exact⟨_,rfl,_,rfl,g,some u1,rfl,(by rw [<-b1];exact d8.k e2),_,rfl,cj ⟨_,rfl,_,rfl,d,some u2,rfl,(by rw [<-b2];exact d8.k e3),_,rfl,cj ⟨rfl,_,rfl⟩⟩⟩
 ·rintro σ H' ⟨rfl,v3,rfl⟩;refine⟨_,⟨r,o,_,aq,?_,Z⟩,?_⟩
  ·intro o' u' z;rw [show H r=_ from h1] at z;cases z
  ·rw [tV,Ka h1];exact k
noncomputable def UV (H:Hp) (J:Addr):List (Key×V):=match H J with
 | some (.dK jk)=>jk
 | _=>[]
theorem Oq {H:Hp} {J:Addr} {jk:List (Key×V)} (h:H J=some (.dK jk)):UV H J=jk:=by unfold UV;rw [h]
theorem S7 {f:PD->List Str} {ps:List PD} {j:Nat} {k:Key} {v:V} (h:(cW f ps)[j]?=some (k,v)):∃p∈ps,∃l∈f p,k=Sum.inr l/\v=.str p.name:=by have:=mem_of_getElem? h;unfold cW at this;obtain⟨p,hp,hm⟩:=mem_flatMap.mp this;obtain⟨l,hl,e⟩:=mem_map.mp hm;cases e;exact⟨p,hp,l,hl,Z,Z⟩
noncomputable def Tj (ps:List PD) (jk:List (Key×V)) (j:Nat):Prop:=∀i k v,i <j->(cW (·.outs) ps)[i]?=some (k,v)->∀a∈ps,∀b∈ps,∀l,k=Sum.inr l->l∈a.outs->l∈b.ins->il jk a.name=il jk b.name
theorem Tj.all {ps:List PD} {jk:List (Key×V)} (h:Tj ps jk (cW (·.outs) ps).length):∀a∈ps,∀b∈ps,∀l,l∈a.outs->l∈b.ins->il jk a.name=il jk b.name:=λa ha b hb l la lb=>by have hm:((Sum.inr l:Key),V.str a.name)∈cW (·.outs) ps:=mem_flatMap.mpr ⟨a,ha,mem_map.mpr ⟨l,la,rfl⟩⟩;obtain⟨i,hi,ei⟩:=mem_iff_getElem.mp hm;exact h i _ _ hi (by rw [getElem?_eq_getElem hi,ei]) a ha b hb l rfl la lb
inductive vH (K:Fr) (vs:List V) (H:Hp) (Q:VK) (E:XK):Prop where
 | mk:∀(p0:PD) (g d:Addr) (ps:List PD),vs=[.str p0.name,.ref g,.ref d]->p0∈ps->ps.length<=16->H g=some (.dK (cW (·.outs) ps))->H d=some (.dK (cW (·.ins) ps))->g≠d->(ps.flatMap (·.outs)).Nodup->(ps.flatMap (·.ins)).Nodup->(ps.flatMap (·.outs)).Perm (ps.flatMap (·.ins))->((∃y,∀q∈ps,∃x∈q.ins ++ q.outs,Drawn.jC ps x y))->(∀H' J jk,aK H H'->H' J=some (.dK jk)->(∀p∈ps,il jk p.name=true)->Q (.ref J) H')->vH K vs H Q E
theorem Gb (T:Txt w K mg t):FO P w K mg base 1 t.xQ ["part", "givers", "takers"] (vH K):=by
 have sc:=T.qY.sc ["part", "givers", "takers", "joined", "grown", "lane"];refine T.qY.F.ok sc ln (λ_ _ _ _ H vs Q E hr h=>?_);obtain⟨p0,g,d,ps,rfl,hp0,hps,h1,h2,n1,no,ni,pm,hang,k⟩:=h;refine⟨_,(az (sN sc 3 (wU (p8 (pv 0) ir wM) Z Z (by simp) (by decide)))
  (az (sN sc 4 ir)
  (az (KC PassesOwn.never (jL (pv 4))
   (az (sN sc 4 ir)
   (aA (zP (H0:=H) rfl (fC PassesOwn.never rfl (yG (pv 1)) (gN sc 5)
    (aA (dM (bQ (aZ Pz (Ao (Ad hr.u1 (cM hr.u1 (pv 1) (pv 5) (λ_ _=>rfl)) (pv 3))) (Ao (Ad hr.u1 (cM hr.u1 (pv 2) (pv 5) (λ_ _=>rfl)) (pv 3))) (bN _))
     (az (jj hr.u1 (pv 3) (cM hr.u1 (pv 1) (pv 5) (λ_ _=>rfl)) ir rfl)
     (az (jj hr.u1 (pv 3) (cM hr.u1 (pv 2) (pv 5) (λ_ _=>rfl)) ir rfl)
     (aA (sN sc 4 ir))))
     bz))))))))
  (aA (aN (pv 3)))))),?_⟩
 have hl:sizeLine=16777216:=sizeLine_eq;refine λJ nJ=>⟨_,Z,aq,[((Sum.inr p0.name:Key),V.bl true)],Z,by show 1<=15;decide,?_⟩;rw [tV];have s0:aK H (upd H J (.dK (pI [] [((Sum.inr p0.name:Key),V.bl true)]))):=aB nJ;have e0:(upd H J (.dK (pI [] [((Sum.inr p0.name:Key),V.bl true)]))) J=some (.dK [((Sum.inr p0.name:Key),V.bl true)]):=aq;generalize upd H J (.dK (pI [] [((Sum.inr p0.name:Key),V.bl true)]))=H0 at s0 e0 ⊢;have ngJ:J≠g:=Ne.symm (aC h1 nJ);have ndJ:J≠d:=Ne.symm (aC h2 nJ);have melt:∀{H':Hp} {o:Obj},jz g H H'->H' g=some (.frz o (.dK (cW (·.outs) ps)))->aK H (upd H' g (.dK (cW (·.outs) ps))):=λhb hg b u e=>by
  by_cases h:b=g
  ·subst h;rw [aq];rw [h1] at e;exact e
  ·rw [aG h];exact hb b u h e
 have m0:qb ps [((Sum.inr p0.name:Key),V.bl true)]<=16:=le_trans (length_filter_le _ _) hps;refine KR (λσ H'=>aK H H'/\∃b v5 jk,σ=[some (.str p0.name),some (.ref g),some (.ref d),some (.ref J),some (.bl b),v5]/\H' J=some (.dK jk)/\il jk p0.name=true/\jk.length+2 * qb ps jk<=40/\(b=false->Tj ps jk (cW (·.outs) ps).length))
  (λσ H'=>match σ with | [_,_,_,_,some (.bl b),_]=>(if b then 1 else 0)+2 * qb ps (UV H' J) | _=>0) ⟨s0,true,none,_,rfl,e0,by simp [il,b7],by rw [length_singleton];lia,by intro z;cases z⟩ ?_ ?_
 ·rintro σ H1 ⟨s1,b,v5,jk,rfl,hJ,hp,hlen,hev⟩;cases b with
  | false=>exact⟨_,rfl,_,rfl,cj ⟨_,rfl,k _ J jk s1 hJ (YX no ni pm hang (hev rfl).all hp0 hp)⟩⟩
  | true=>
   refine⟨_,Z,_,Z,gm ?_⟩;refine⟨_,Z,g,_,Z,s1 _ _ h1,λo=>?_⟩;have gD:∀{H':Hp},jz g H H'->H' d=some (.dK (cW (·.ins) ps)):=λhb=>hb d _ (Ne.symm n1) h2;refine zq (λj σ H'=>jz g H H'/\H' g=some (.frz o (.dK (cW (·.outs) ps)))/\∃b v5 jk',σ=[some (.str p0.name),some (.ref g),some (.ref d),some (.ref J),some (.bl b),v5]/\H' J=some (.dK jk')/\il jk' p0.name=true/\jk'.length+2 * qb ps jk'<=40/\((b=false/\jk'=jk/\Tj ps jk j)∨(b=true/\qb ps jk' <qb ps jk)))
    ⟨λb u hn e=>by rw [aG hn];exact s1 b u e,aq,false,v5,jk,rfl,by rw [aG ngJ];exact hJ,hp,hlen,.inl ⟨rfl,rfl,λi _ _ hi=>absurd hi (by lia)⟩⟩ (λj σ H' _ h=>h.2.1) ?_ ?_
   ·rintro j kk w σ H' hj ⟨hb,hg,b,v5,jk',rfl,hJ',hp',hlen',hv⟩;obtain⟨a,ha,l,la,rfl,rfl⟩:=S7 hj;obtain⟨b',hb',lb⟩:=mem_flatMap.mp (pm.mem_iff.mp (mem_flatMap.mpr ⟨a,ha,la⟩));have ga:d8 H' g (.str l) (some (.str a.name)):=.inl ⟨_,Sum.inr l,.inr ⟨o,hg⟩,rfl,(jm no ha la).symm⟩;have gb:d8 H' d (.str l) (some (.str b'.name)):=by rw [<-jm ni hb' lb];exact d8.k (k:=Sum.inr l) (gD hb)
    have ja:d8 H' J (.str a.name) (b7 jk' (Sum.inr a.name)):=d8.k (k:=Sum.inr a.name) hJ';have jb:d8 H' J (.str b'.name) (b7 jk' (Sum.inr b'.name)):=d8.k (k:=Sum.inr b'.name) hJ';have nm:∀a2∈ps,∀b2∈ps,l∈a2.outs->l∈b2.ins->a2.name=a.name/\b2.name=b'.name:=λa2 ha2 b2 hb2 q1 q2=>by have e1:=jm no ha2 q1;rw [jm no ha la] at e1;have e2:=jm ni hb2 q2;rw [jm ni hb' lb] at e2;simp only [Option.some.injEq,V.str.injEq] at e1 e2;exact⟨e1.symm,e2.symm⟩
    refine⟨λσ H''=>jz g H H''/\H'' g=some (.frz o (.dK (cW (·.outs) ps)))/\∃b jk'',σ=[some (.str p0.name),some (.ref g),some (.ref d),some (.ref J),some (.bl b),some (.str l)]/\H'' J=some (.dK jk'')/\il jk'' p0.name=true/\jk''.length+2 * qb ps jk''<=40/\((b=false/\jk''=jk/\Tj ps jk (j+1))∨(b=true/\qb ps jk'' <qb ps jk)),?_,?_⟩
    ·refine⟨_,Z,_,Z,g,_,Z,ga,_,Z,J,_,Z,ja,?_⟩;refine⟨_,Z,_,Z,d,_,Z,gb,_,Z,J,_,Z,jb,Z,_,Z,?_⟩;change if (!decide (V.bl (il jk' a.name)=V.bl (il jk' b'.name)))=true then _ else _;refine nH (λhne=>?_) (λheq=>?_)
     ·have hne':il jk' a.name≠il jk' b'.name:=λz=>by rw [z] at hne;simp at hne
      refine⟨_,Z,_,Z,_,Z,g,_,Z,ga,J,_,Z,sO.k (k:=Sum.inr a.name) hJ' (by lia),?_⟩;have b2:jz g H (upd H' J (.dK (putK jk' (Sum.inr a.name) (.bl true)))):=λx u hn e=>by rw [aG (aC e nJ)];exact hb x u hn e
      have g2:(upd H' J (.dK (putK jk' (Sum.inr a.name) (.bl true)))) g=some (.frz o (.dK (cW (·.outs) ps))):=by rw [aG (Ne.symm ngJ)];exact hg
      have gb2:d8 (upd H' J (.dK (putK jk' (Sum.inr a.name) (.bl true)))) d (.str l) (some (.str b'.name)):=by rw [<-jm ni hb' lb];exact d8.k (k:=Sum.inr l) (gD b2)
      have len1:=mH jk' (Sum.inr a.name:Key) (.bl true);have len2:=mH (putK jk' (Sum.inr a.name) (.bl true)) (Sum.inr b'.name:Key) (.bl true);refine⟨_,Z,_,Z,_,Z,d,_,Z,gb2,J,_,Z,sO.k (k:=Sum.inr b'.name) aq (by lia),?_⟩;rw [tV];have has2:∀x,il (putK (putK jk' (Sum.inr a.name) (.bl true)) (Sum.inr b'.name) (.bl true)) x=(decide (x=b'.name) || (decide (x=a.name) || il jk' x)):=λx=>by rw [KN,KN]
      have mono:∀x,il jk' x=true->il (putK (putK jk' (Sum.inr a.name) (.bl true)) (Sum.inr b'.name) (.bl true)) x=true:=λx hx=>by rw [has2,hx];simp
      have lt:qb ps (putK (putK jk' (Sum.inr a.name) (.bl true)) (Sum.inr b'.name) (.bl true)) <qb ps jk':=by
       cases hA:il jk' a.name
       ·exact Le mono ha hA (by rw [has2];simp)
       ·cases hB:il jk' b'.name
        ·exact Le mono hb' hB (by rw [has2];simp)
        ·rw [hA,hB] at hne';exact absurd rfl hne'
      refine⟨λx u hn e=>by rw [aG (aC e nJ)];exact hb x u hn e,by rw [aG (Ne.symm ngJ)];exact hg,true,_,rfl,aq,mono _ hp',by lia,.inr ⟨rfl,?_⟩⟩;rcases hv with ⟨_,rfl,_⟩ | ⟨_,hv⟩
      ·exact lt
      ·lia
     ·have heq':il jk' a.name=il jk' b'.name:=by cases hA:il jk' a.name <;> cases hB:il jk' b'.name <;> rw [hA,hB] at heq <;> simp_all
      refine⟨hb,hg,b,jk',Z,hJ',hp',hlen',?_⟩;rcases hv with ⟨rfl,rfl,hE⟩ | hv
      ·refine .inl ⟨Z,Z,λi k2 v2 hi e2 a2 ha2 b2 hb2 l2 ek q1 q2=>?_⟩;rcases Nat.lt_or_ge i j with h | h
       ·exact hE i k2 v2 h e2 a2 ha2 b2 hb2 l2 ek q1 q2
       ·have:i=j:=by lia
        subst this;rw [hj] at e2;cases e2;cases ek;obtain⟨x1,x2⟩:=nm a2 ha2 b2 hb2 q1 q2;rw [x1,x2];exact heq'
      ·exact .inr hv
    ·rintro σ H'' ⟨hb,hg,b,jk'',rfl,r⟩;exact⟨hb,hg,b,_,jk'',Z,r⟩
   ·rintro σ H' ⟨hb,hg,b,v5',jk',rfl,hJ',hp',hlen',hv⟩;refine⟨_,⟨g,o,_,hg,(λo' u' z=>by rw [show H g=_ from h1] at z;cases z),rfl⟩,?_⟩;have eJ:(upd H' g (.dK (cW (·.outs) ps))) J=some (.dK jk'):=by rw [aG ngJ];exact hJ'
    refine⟨⟨melt hb hg,b,v5',jk',Z,eJ,hp',hlen',λz=>?_⟩,?_⟩
    ·rcases hv with ⟨_,rfl,hE⟩ | ⟨h,_⟩
     ·exact hE
     ·rw [h] at z;cases z
    ·show(if b=true then 1 else 0)+2 * qb ps (UV _ J) <(if true=true then 1 else 0)+2 * qb ps (UV _ J);rw [Oq eJ,Oq hJ];rcases hv with ⟨rfl,rfl,_⟩ | ⟨rfl,h⟩
     ·simp
     ·simp;lia
 ·intro σ H' Q' Q'' hm hq;obtain⟨v,e,b,e2,q⟩:=hq;exact⟨v,e,b,e2,hm _ _ q⟩
inductive vp (K:Fr) (vs:List V) (H:Hp) (Q:VK) (E:XK):Prop where
 | mk:∀(L g d:Addr) (ps:List PD),vs=[.ref L,.ref g,.ref d]->(bK K H L (ps.map λp=>V.str p.name))->1<=ps.length->ps.length<=16->H g=some (.dK (cW (·.outs) ps))->H d=some (.dK (cW (·.ins) ps))->g≠d->(ps.flatMap (·.outs)).Nodup->(ps.flatMap (·.ins)).Nodup->(ps.flatMap (·.outs)).Perm (ps.flatMap (·.ins))->((∃y,∀q∈ps,∃x∈q.ins ++ q.outs,Drawn.jC ps x y))->(∀H',aK H H'->Q .non H')->vp K vs H Q E
theorem Eh (T:Txt w K mg t):FO P w K mg base 2 t.xH ["names", "givers", "takers"] (vp K):=by
 have sc:=T.qT.sc ["names", "givers", "takers", "joined", "name"];refine T.qT.F.ok sc ln (λ_ _ _ _ H vs Q E hr h=>?_);obtain⟨L,g,d,ps,rfl,hL,hp1,hps,h1,h2,n1,no,ni,pm,hang,k⟩:=h;refine⟨_,(az (sN sc 3 (eN (Gb T) T.qY hr (aa (aU aV (pv 0) au (λ_ _=>Z)) (aa (pv 1) (aa (pv 2) ak aj) aj) aF)))
  (aA (fC PassesOwn.never rfl (bT (pv 0)) (gN sc 4)
   (aA (bQ (jx (wJ hr.u1 (pv 4) (pv 3)))
    (aA gM)
    bz))))),?_⟩
 obtain⟨p0,pr,rfl⟩:∃p0 pr,ps=p0:: pr:=by
  cases ps with
  | nil=>simp at hp1
  | cons a r=>exact⟨a,r,rfl⟩
 refine⟨_,Z,L,_,0,_,Z,Z,hL,aM (j:=0) Z,_,Z,_,Z,p0,g,d,_,Z,mem_cons_self,hps,h1,h2,n1,no,ni,pm,hang,λH1 J jk s1 eJ hA=>?_⟩;refine⟨_,Z,L,Z,⟨_,s1.seq hL⟩,fG (K:=K) (a:=L) (xs:=(p0:: pr).map λp=>V.str p.name) (λj σ H'=>H'=H1/\∃v4,σ=[some (.ref L),some (.ref g),some (.ref d),some (.ref J),v4]) ⟨Z,none,Z⟩ (λj σ H' _ ⟨e,_⟩=>by rw [e];exact s1.seq hL) ?_ ?_⟩
 ·rintro j x σ H' hx ⟨rfl,v4,rfl⟩;rw [getElem?_map] at hx;obtain⟨p,hp,rfl⟩:=map_eq_some_iff.mp hx;obtain⟨u,hu⟩:=isSome_iff_exists.mp (hA p (mem_of_getElem? hp));exact⟨_,rfl,_,rfl,J,some u,rfl,(by rw [<-hu];exact d8.k (k:=Sum.inr p.name) eJ),_,rfl,cj ⟨rfl,_,rfl⟩⟩
 ·rintro σ H' ⟨rfl,v4,rfl⟩;exact k _ s1
inductive qy (K:Fr) (t:jr) (vs:List V) (H:Hp) (Q:VK) (E:XK):Prop where
 | mk:∀(n:Addr) (ls:List aJ) (ps:List PD),vs=[.ref n]->fV K t H n ls ps->(∀l,H l=none->Q (.ref l) (upd H l (.lst (ls.map λx=>V.str x.name))))->qy K t vs H Q E
theorem qI (T:Txt w K mg t):FO P w K mg base 1 t.lu ["self"] (qy K t):=by have sc:=T.ju.sc ["self"];refine T.ju.F.ok sc ln (λ_ _ _ _ H vs Q E hr h=>?_);obtain⟨n,ls,ps,rfl,N,k⟩:=h;refine⟨_,(aA (aN (fB (pO rfl) (by rfl) T.u9 qO (aa (aW (pv 0) rfl) ak bu)))),?_⟩;obtain⟨dx,fs,R,F,Pd,G,Tk,FL,PL,W⟩:=id N;refine⟨_,Z,n,_,dx,fs,_,Z,W.obj,T.aX.c,T.aX.na.1,W.fl.has ("rooms",.ref R) (by simp),R,_,Z,.inl W.rooms,λl hl=>?_⟩;unfold fH;rw [map_map];exact k l hl
inductive qm (K:Fr) (t:jr) (vs:List V) (H:Hp) (Q:VK) (E:XK):Prop where
 | mk:∀(n:Addr) (ls:List aJ) (ps:List PD),vs=[.ref n]->fV K t H n ls ps->(∀l,H l=none->Q (.ref l) (upd H l (.lst (ps.map λx=>V.str x.name))))->qm K t vs H Q E
theorem kI (T:Txt w K mg t):FO P w K mg base 1 t.lB ["self"] (qm K t):=by
 have sc:=T.gQ.sc ["self"];refine T.gQ.F.ok sc ln (λ_ _ _ _ H vs Q E hr h=>?_);obtain⟨n,ls,ps,rfl,N,k⟩:=h;refine⟨_,(aA (aN (fB (pO rfl) (by rfl) T.u9 qO (aa (aW (pv 0) rfl) ak bu)))),?_⟩;obtain⟨dx,fs,R,F,Pd,G,Tk,FL,PL,W⟩:=id N;refine⟨_,Z,n,_,dx,fs,_,Z,W.obj,T.aX.c,T.aX.na.2.2.1,W.fl.has ("parts",.ref Pd) (by simp),Pd,_,Z,.inl W.parts,λl hl=>?_⟩;unfold eU;rw [map_map];have e:ps.map (λx=>V.str x.name)=PL.map (λq=>V.str q.1.name):=by rw [<-W.pls,map_map];rfl
 rw [e] at k;exact k l hl
theorem VB (T:Txt w K mg t) (i:Nat):MethAt P w K mg base GP 1 (cls t i) "kind" (jw i):=match i with
 | 0=>⟨_,_,_,T.jh.c,(T.qK.me T.jh.me.2.1),T.qK.b,JS T⟩
 | 1=>⟨_,_,_,T.iY.c,(T.qi.me T.iY.me.2.1),T.qi.b,Jq T⟩
 | 2=>⟨_,_,_,T.iR.c,(T.qt.me T.iR.me.2.1),T.qt.b,JZ T⟩
 | 3=>⟨_,_,_,T.je.c,(T.qH.me T.je.me.2.1),T.qH.b,Kf T⟩
 | 4=>⟨_,_,_,T.jg.c,(T.qg.me T.jg.me.2.1),T.qg.b,Js T⟩
 | 5=>⟨_,_,_,T.iZ.c,(T.qQ.me T.iZ.me.2.1),T.qQ.b,Kc T⟩
 | 6=>⟨_,_,_,T.mJ.c,(T.uf.me T.mJ.me.2.1),T.uf.b,Ly T⟩
 | 7=>⟨_,_,_,T.jf.c,(T.qx.me T.jf.me.2.1),T.qx.b,JQ T⟩
 | 8=>⟨_,_,_,T.fZ.c,(T.oN.me T.fZ.me.2.1),T.oN.b,Gy T⟩
 | 9=>⟨_,_,_,T.d9.c,(T.lJ.me T.d9.me.2.1),T.lJ.b,Ec T⟩
 | n+10=>⟨_,_,_,T.fW.c,(T.oW.me T.fW.me.2.1),T.oW.b,GC T⟩
inductive mF (K:Fr) (t:jr) (vs:List V) (H:Hp) (Q:VK) (E:XK):Prop where
 | mk:∀(n:Addr) (ls:List aJ) (ps:List PD) (x:Str),vs=[.ref n,.str x]->fV K t H n ls ps->(∀p,H p=none->Q (.ref p) (upd H p (.lst (bM ps x))))->mF K t vs H Q E
theorem mG (T:Txt w K mg t):FO P w K mg base 2 t.jy ["self", "kind"] (mF K t):=by
 have sc:=T.gB.sc ["self", "kind"];refine T.gB.F.ok sc ln (λ_ _ _ _ H vs Q E hr h=>?_);obtain⟨n,ls,ps,x,rfl,N,k⟩:=h;refine⟨_,(aA (aN (V8 (H0:=H) Z (eE [0,1] ["self", "kind"] (aR (inClass (top 55) 5)) Z (yG (aW (pv 0) Z)) (λ_ _ _ _ _=>(yg (aZ gP (Np (P:=P) (w:=w) (K:=K) (mg:=mg) (base:=base) (CX:=GP) (k:=1) (E:=E0) Z Z Z Z Z (cM hr.u1 (JP (K:=K) Z (pv 1) Z) (pv 0) (λ_ _=>Z)) (hr.mono (by decide)) gj) (pv 2) (bN _)))) (λ_ _ _ _ _=>(pv 0)))))),?_⟩;obtain⟨dx,fs,R,F,Pd,G,Tk,FL,PL,W⟩:=id N;have hz:sizeLine=16777216:=sizeLine_eq;have hp:=W.fit.p16;have h5:=W.parts;have lpl:PL.length=ps.length:=by rw [<-W.pls,lM]
 refine⟨_,Z,n,_,dx,fs,_,Z,W.obj,T.aX.c,T.aX.na.2.2.1,W.fl.has ("parts",.ref Pd) (by simp),Pd,_,Z,h5,λo=>?_⟩;refine QG (λj ys H'=>H'=upd H Pd (.frz o (.dK (eU PL)))/\ys=bM ((PL.take j).map (·.1)) x) (by unfold eU;rw [lM];lia) ⟨rfl,by simp [bM]⟩ ?_ ?_ ?_ ?_
 ·rintro j ys H' ⟨_,rfl⟩;have:=yS ((PL.take j).map (·.1)) x;rw [lM,length_take] at this
  lia
 ·rintro j ys H' _ ⟨rfl,_⟩;exact aq
 ·rintro j kk v ys H' hj ⟨rfl,rfl⟩;unfold eU at hj;rw [getElem?_map] at hj;obtain⟨q,hq,e⟩:=map_eq_some_iff.mp hj;cases e;have hm:=mem_of_getElem? hq;obtain⟨dxp,tn,ti,to,p1,p2,p3,p4⟩:=((W.pats q hm).chill (v:=.frz o (.dK (eU PL))) h5).ex;refine⟨_,rfl,n,_,dx,fs,_,rfl,lA h5 W.obj (by intro _ z;cases z),T.aX.c,T.aX.na.2.2.1,W.fl.has ("parts",.ref Pd) (by simp),_,rfl,Pd,_,rfl,(by rw [<-W.partV hm];exact .inl ⟨_,Sum.inr q.1.name,.inr ⟨o,aq⟩,rfl,rfl⟩),?_⟩;refine⟨q.2,cls t q.1.kind,dxp,_,jw q.1.kind,Z,p1,wO _ _ _ _ (by decide +kernel) (by decide +kernel) (by decide +kernel) (by decide +kernel),VB T q.1.kind,_,Z,_,Z,Z,_,Z,?_⟩;rw [take_succ,hq,toList_some,map_append,List.map_singleton,Ip];refine nH (λe=>?_) (λe=>?_)
  ·have e':cL q.1.kind=x:=by simpa using e
   rw [if_pos e'];exact⟨_,Z,Z,Z⟩
  ·have e':¬cL q.1.kind=x:=by simpa using e
   rw [if_neg e'];exact⟨Z,Z⟩
 ·rintro ys H' ⟨rfl,rfl⟩ D hD;refine⟨_,⟨Pd,o,eU PL,?_,?_,Z⟩,?_⟩
  ·rw [aG (by rintro rfl;rw [aq] at hD;cases hD)];exact aq
  ·intro o' u z;rw [show H Pd=_ from h5] at z;cases z
  ·rw [Q4 h5 hD];have:=k D (Ni hD);rw [show(eU PL).length=PL.length by unfold eU;rw [lM],take_length,W.pls];exact this
inductive zN (K:Fr) (t:jr) (vs:List V) (H:Hp) (Q:VK) (E:XK):Prop where
 | mk:∀(n:Addr) (ls:List aJ) (ps:List PD),vs=[.ref n]->fV K t H n ls ps->(∀p,H p=none->Q (.ref p) (upd H p (.lst (bM ps "give"))))->zN K t vs H Q E
theorem oM (T:Txt w K mg t):FO P w K mg base 3 t.uL ["self"] (zN K t):=by have sc:=T.jT.sc ["self"];refine T.jT.F.ok sc ln (λ_ _ _ _ H vs Q E hr h=>?_);obtain⟨n,ls,ps,rfl,N,k⟩:=h;refine⟨_,(aA (aN (Qp (pv 0) T.aX T.aX.me.2.2.2.1 (mG T) T.gB hr (aa bH ak ao)))),?_⟩;obtain⟨dx,fs,R,F,Pd,G,Tk,FL,PL,W⟩:=id N;exact⟨_,Z,n,dx,fs,Z,W.obj,W.fl.no _ (by decide +kernel),n,ls,ps,_,Z,N,k⟩
inductive z9 (K:Fr) (t:jr) (vs:List V) (H:Hp) (Q:VK) (E:XK):Prop where
 | mk:∀(n:Addr) (ls:List aJ) (ps:List PD),vs=[.ref n]->fV K t H n ls ps->(∀p,H p=none->Q (.ref p) (upd H p (.lst (bM ps "take"))))->z9 K t vs H Q E
theorem zJ (T:Txt w K mg t):FO P w K mg base 3 t.vL ["self"] (z9 K t):=by have sc:=T.qR.sc ["self"];refine T.qR.F.ok sc ln (λ_ _ _ _ H vs Q E hr h=>?_);obtain⟨n,ls,ps,rfl,N,k⟩:=h;refine⟨_,(aA (aN (Qp (pv 0) T.aX T.aX.me.2.2.2.1 (mG T) T.gB hr (aa bH ak ao)))),?_⟩;obtain⟨dx,fs,R,F,Pd,G,Tk,FL,PL,W⟩:=id N;exact⟨_,Z,n,dx,fs,Z,W.obj,W.fl.no _ (by decide +kernel),n,ls,ps,_,Z,N,k⟩
inductive lr (K:Fr) (t:jr) (vs:List V) (H:Hp) (Q:VK) (E:XK):Prop where
 | mk:∀(n:Addr) (ls:List aJ) (ps:List PD) (x:Str),vs=[.ref n,.str x]->fV K t H n ls ps->(((x∈ls.map (·.name)/\∀H',aK H H'->Q .non H')∨(x∉ls.map (·.name)/\∀dx H',aK H H'->H' dx=some (.xd [("name",.str x)])->E (.ref t.bG) (some dx) H')))->lr K t vs H Q E
theorem fL (T:Txt w K mg t):dR P w K mg base (sX P w) 3 t.fQ (fdOf K t.fQ) ["self", "name"] (lr K t):=by
 have sc:=T.bR.sc ["self", "name"];refine T.bR.F.ok2 sc ln (λ_ _ _ _ H vs Q E hr h=>?_);obtain⟨n,ls,ps,x,rfl,N,h⟩:=h;refine⟨_,(aA (bQ (aZ fX (pv 1) (O7 (pv 0) T.aX T.aX.me.2.1 (qI T) T.ju hr) (by with_unfolding_all rfl))
   (aA (ph T.su (fJ T) (hr.mono (by decide)) (by rfl) T.lH T.dF.b gj (aa (pv 1) ak aj)))
   bz)),?_⟩
 obtain⟨dx,fs,R,F,Pd,G,Tk,FL,PL,W⟩:=id N;refine⟨_,Z,_,Z,n,dx,fs,Z,W.obj,W.fl.no _ (by decide +kernel),n,ls,ps,Z,N,λl hl=>?_⟩;have s1:=aB (o:=.lst (ls.map λx=>V.str x.name)) hl;refine⟨l,_,Z,.inl (bK.of aq),Z,by simp [oG],_,Z,?_⟩;rw [Ko (f:=λx:aJ=>x.name)];rcases h with ⟨hx,k⟩ | ⟨hx,kE⟩
 ·rw [decide_eq_true hx];exact cj (k _ s1)
 ·rw [decide_eq_false hx];refine gm ?_;refine⟨_,Z,by show 1<=1000;decide,λy ny n0=>⟨y,_,Z,aq,λdx' nd ne=>⟨Z,y,dx',Z,n0,by rw [aG ne.symm];exact aq,?_⟩⟩⟩;have rz:=raised (fs:=[(("name" :Str),V.str x)]) ny nd ne;exact kE dx' _ (s1.trans rz.1) rz.2
inductive vV (K:Fr) (t:jr) (vs:List V) (H:Hp) (Q:VK) (E:XK):Prop where
 | mk:∀(n:Addr) (ls:List aJ) (ps:List PD) (x:Str),vs=[.ref n,.str x]->fV K t H n ls ps->(((∃l∈ls,l.name=x/\∀H',aK H H'->Q (.int l.room) H')∨(x∉ls.map (·.name)/\∀dx H',aK H H'->H' dx=some (.xd [("name",.str x)])->E (.ref t.bG) (some dx) H')))->vV K t vs H Q E
theorem Gg (T:Txt w K mg t):dR P w K mg base (sX P w) 4 t.mj (fdOf K t.mj) ["self", "name"] (vV K t):=by
 have sc:=T.lY.sc ["self", "name"];refine T.lY.F.ok2 sc ln (λ_ _ _ _ H vs Q E hr h=>?_);obtain⟨n,ls,ps,x,rfl,N,h⟩:=h;refine⟨_,(az (bw (d7 (pv 0) T.aX.c (T.bR.me T.aX.me.2.2.2.2.2.2.1) (fL T) (hr.mono (by decide)) T.bR.b .nil (sG λ_ _ _ h=>h) (aa (pv 1) ak aj)))
  (aA (aN (cM hr.u1 (aW (pv 0) rfl) (pv 1) (λ_ _=>rfl))))),?_⟩
 obtain⟨dx,fs,R,F,Pd,G,Tk,FL,PL,W⟩:=id N;refine⟨_,Z,n,dx,fs,Z,W.obj,W.fl.no _ (by decide +kernel),_,Z,n,ls,ps,x,Z,N,?_⟩;rcases h with ⟨l,hl,rfl,k⟩ | h
 ·refine .inl ⟨mem_map.mpr ⟨l,hl,Z⟩,λH1 s1=>?_⟩;have W1:=W.same s1;have hv:=W1.room hl;refine⟨_,Z,n,_,dx,fs,_,Z,W1.obj,T.aX.c,T.aX.na.1,W1.fl.has ("rooms",.ref R) (by simp),_,Z,R,_,Z,(by rw [<-hv];exact d8.k (k:=Sum.inr l.name) W1.rooms),?_⟩;exact k _ s1
 ·exact .inr h
inductive uH (K:Fr) (t:jr) (vs:List V) (H:Hp) (Q:VK) (E:XK):Prop where
 | mk:∀(n:Addr) (ls:List aJ) (ps:List PD) (x:Str),vs=[.ref n,.str x]->fV K t H n ls ps->(((∃l∈ls,l.name=x/\∀H' p,aK H H'->H p=none->H' p=some (.lst (l.first.map V.int))->Q (.ref p) H')∨(x∉ls.map (·.name)/\∀dx H',aK H H'->H' dx=some (.xd [("name",.str x)])->E (.ref t.bG) (some dx) H')))->uH K t vs H Q E
theorem CJ (T:Txt w K mg t):dR P w K mg base (sX P w) 4 t.kh (fdOf K t.kh) ["self", "name"] (uH K t):=by
 have sc:=T.j5.sc ["self", "name"];refine T.j5.F.ok2 sc ln (λ_ _ _ _ H vs Q E hr h=>?_);obtain⟨n,ls,ps,x,rfl,N,h⟩:=h;refine⟨_,(az (bw (d7 (pv 0) T.aX.c (T.bR.me T.aX.me.2.2.2.2.2.2.1) (fL T) (hr.mono (by decide)) T.bR.b .nil (sG λ_ _ _ h=>h) (aa (pv 1) ak aj)))
  (aA (aN (fB tM (by rfl) T.u9 qO (aa (cM hr.u1 (aW (pv 0) rfl) (pv 1) (λ_ _=>rfl)) ak aF))))),?_⟩
 obtain⟨dx,fs,R,F,Pd,G,Tk,FL,PL,W⟩:=id N;refine⟨_,Z,n,dx,fs,Z,W.obj,W.fl.no _ (by decide +kernel),_,Z,n,ls,ps,x,Z,N,?_⟩;rcases h with ⟨l,hl,rfl,k⟩ | h
 ·refine .inl ⟨mem_map.mpr ⟨l,hl,Z⟩,λH1 s1=>?_⟩;have W1:=W.same s1;obtain⟨q,hq,eq⟩:∃q∈FL,q.1=l:=by rw [<-W.fls] at hl;obtain⟨q,hq,e⟩:=mem_map.mp hl;exact⟨q,hq,e⟩
  subst eq;have hv:=W1.firstV hq;refine⟨_,Z,n,_,dx,fs,_,Z,W1.obj,T.aX.c,T.aX.na.2.1,W1.fl.has ("firsts",.ref F) (by simp),_,Z,F,_,Z,(by rw [<-hv];exact d8.k (k:=Sum.inr q.1.name) W1.firsts),?_⟩;exact⟨q.2,_,Z,.inr (W1.tups q hq),λp hp=>k _ p (s1.trans (aB hp)) (s1.free hp) aq⟩
 ·exact .inr h
inductive uW (K:Fr) (t:jr) (vs:List V) (H:Hp) (Q:VK) (E:XK):Prop where
 | mk:∀(n:Addr) (ls:List aJ) (ps:List PD) (x:Str),vs=[.ref n,.str x]->fV K t H n ls ps->(((∃p∈ps,p.name=x/\∀H' q,aK H H'->fO K t H' q p.kind (.str p.name) (p.nums.map V.int) (p.ins.map V.str) (p.outs.map V.str)->Q (.ref q) H')∨(x∉ps.map (·.name)/\∀dx H',aK H H'->H' dx=some (.xd [("name",.str x)])->E (.ref t.bG) (some dx) H')))->uW K t vs H Q E
theorem iQ (T:Txt w K mg t):dR P w K mg base (sX P w) 3 t.lL (fdOf K t.lL) ["self", "name"] (uW K t):=by
 have sc:=T.cH.sc ["self", "name"];refine T.cH.F.ok2 sc ln (λ_ _ _ _ H vs Q E hr h=>?_);obtain⟨n,ls,ps,x,rfl,N,h⟩:=h;refine⟨_,(az (bQ (aZ fX (pv 1) (O7 (pv 0) T.aX T.aX.me.2.2.1 (kI T) T.gQ hr) (by with_unfolding_all rfl))
   (aA (ph T.su (fJ T) (hr.mono (by decide)) (by rfl) T.lH T.dF.b gj (aa (pv 1) ak aj)))
   bz)
  (aA (aN (cM hr.u1 (aW (pv 0) rfl) (pv 1) (λ_ _=>rfl))))),?_⟩
 obtain⟨dx,fs,R,F,Pd,G,Tk,FL,PL,W⟩:=id N;refine⟨_,Z,_,Z,n,dx,fs,Z,W.obj,W.fl.no _ (by decide +kernel),n,ls,ps,Z,N,λl hl=>?_⟩;have s1:=aB (o:=.lst (ps.map λx=>V.str x.name)) hl;refine⟨l,_,Z,.inl (bK.of aq),Z,by simp [oG],_,Z,?_⟩;rw [Ko (f:=λx:PD=>x.name)];rcases h with ⟨p,hp,rfl,k⟩ | ⟨hx,kE⟩
 ·rw [decide_eq_true (mem_map.mpr ⟨p,hp,rfl⟩)];refine cj ?_;obtain⟨q,hq,eq⟩:∃q∈PL,q.1=p:=by rw [<-W.pls] at hp;obtain⟨q,hq,e⟩:=mem_map.mp hp;exact⟨q,hq,e⟩
  subst eq;have W1:=W.same s1;have hv:=W1.partV hq;exact⟨_,Z,n,_,dx,fs,_,Z,W1.obj,T.aX.c,T.aX.na.2.2.1,W1.fl.has ("parts",.ref Pd) (by simp),_,Z,Pd,_,Z,(by rw [<-hv];exact d8.k (k:=Sum.inr q.1.name) W1.parts),k _ q.2 s1 (W1.pats q hq)⟩
 ·rw [decide_eq_false hx];refine gm ?_;refine⟨_,Z,by show 1<=1000;decide,λy ny n0=>⟨y,_,Z,aq,λdx' nd ne=>⟨Z,y,dx',Z,n0,by rw [aG ne.symm];exact aq,?_⟩⟩⟩;have rz:=raised (fs:=[(("name" :Str),V.str x)]) ny nd ne;exact kE dx' _ (s1.trans rz.1) rz.2
inductive ux (K:Fr) (t:jr) (vs:List V) (H:Hp) (Q:VK) (E:XK):Prop where
 | mk:∀(n dx Ll Lp:Addr) (ls:List aJ) (ps:List PD),vs=[.ref n,.ref Ll,.ref Lp]->H n=some (.ins t.dH dx [])->Hand K H Ll Lp ls ps->Ma ls ps->(∀H',jz n H H'->fV K t H' n ls ps->Q .non H')->ux K t vs H Q E
theorem CQ (T:Txt w K mg t):FO P w K mg base 6 t.pM ["self", "lanes", "parts"] (ux K t):=by
 have sc:=T.kj.sc ["self", "lanes", "parts", "lane", "row", "part"];refine T.kj.F.ok sc ln (λ_ _ _ _ H vs Q E hr h=>?_);obtain⟨n,dx,Ll,Lp,ls,ps,rfl,hn,hH,hF,k⟩:=h;refine⟨_,(az (bw (eN (FN T) T.rB hr (aa (pv 1) (aa (pv 2) ak aj) aj)))
  (az (iG (pv 0) iW rfl)
  (az (iG (pv 0) iW rfl)
  (az (fC PassesOwn.never rfl (bT (pv 1)) (gN sc 3)
   (az (bw (eN (xx T) T.oX hr (aa (aU dI (pv 3) au (λ_ _=>rfl)) (aa (aW (pv 0) rfl) ak bu) aF)))
   (az (bw (eN (Jj T) T.uV hr (aa (aU dI (pv 3) au (λ_ _=>rfl)) (aa (aU dI (pv 3) au (λ_ _=>rfl)) (aa (aU dI (pv 3) au (λ_ _=>rfl)) ak aF) aF) aF)))
   (az (jj hr.u1 (aW (pv 0) rfl) (aU dI (pv 3) au (λ_ _=>rfl)) (aU dI (pv 3) au (λ_ _=>rfl)) rfl)
   (aA (jj hr.u1 (aW (pv 0) rfl) (aU dI (pv 3) au (λ_ _=>rfl)) (fB wW (by rfl) T.CW zH (aa (aU dI (pv 3) au (λ_ _=>rfl)) ak aF)) rfl))))))
  (az (iG (pv 0) iW rfl)
  (az (iG (pv 0) iW rfl)
  (az (iG (pv 0) iW rfl)
  (az (fC PassesOwn.never rfl (bT (pv 2)) (gN sc 4)
   (az (sN sc 5 (eN (Gx T) T.tK hr (aa (pv 4) (aa (aW (pv 0) rfl) ak bu) aj)))
   (az (bw (eN (zE T) T.qJ hr (aa (aW (pv 5) rfl) (aa (aW (pv 5) rfl) (aa (aW (pv 0) rfl) (aa (aW (pv 0) rfl) ak bu) bu) bu) bu)))
   (az (bw (eN (zE T) T.qJ hr (aa (aW (pv 5) rfl) (aa (aW (pv 5) rfl) (aa (aW (pv 0) rfl) (aa (aW (pv 0) rfl) ak bu) bu) bu) bu)))
   (aA (jj hr.u1 (aW (pv 0) rfl) (aW (pv 5) rfl) (pv 5) rfl))))))
  (az (bw (eN (JR T) T.wu hr (aa (aW (pv 0) rfl) (aa (aW (pv 0) rfl) (aa (aW (pv 0) rfl) ak bu) bu) bu)))
  (aA (bw (eN (Eh T) T.qT hr (aa (fB (pO rfl) (by rfl) T.u9 qO (aa (aW (pv 0) rfl) ak bu)) (aa (aW (pv 0) rfl) (aa (aW (pv 0) rfl) ak bu) bu) bh))))))))))))),?_⟩
 have hl:sizeLine=16777216:=sizeLine_eq;obtain⟨xs,hLl,aL⟩:=hH.ll;obtain⟨ys,hLp,aP⟩:=hH.lp;have lx:=aL.length;have ly:=aP.length;have l1:=hF.l1;have l24:=hF.l24;have p1:=hF.p1;have p16:=hF.p16;refine⟨_,Z,_,Z,Ll,Lp,_,_,Z,hLl,hLp,by lia,by lia,by lia,by lia,?_⟩;have T0:=Tr.start hn;refine λR nR=>?_;have T1:=T0.new (o:=.dK []) nR;have gR:=aB (o:=.dK []) nR;generalize upd H R (.dK [])=H1 at T1 gR ⊢;have cR:=T1.all (n,.ins t.dH dx []) (.head _);refine⟨_,Z,n,_,dx,_,Z,cR,T.aX.c,T.aX.na.1,lt_of_le_of_lt (show 0<=0 from le_refl 0) (by decide),?_⟩;have T2:=T1.put (L1:=[]) (o':=.ins t.dH dx (aH "rooms" (.ref R) []));have wR:jz n H1 (upd H1 n (.ins t.dH dx (aH "rooms" (.ref R) []))):=jz.write;generalize upd H1 n (.ins t.dH dx (aH "rooms" (.ref R) []))=H2 at T2 wR ⊢;refine λF nF=>?_;have T3:=T2.new (o:=.dK []) nF;have gF:=aB (o:=.dK []) nF;generalize upd H2 F (.dK [])=H3 at T3 gF ⊢;have cF:=T3.all (n,.ins t.dH dx (aH "rooms" (.ref R) [])) (.head _);refine⟨_,Z,n,_,dx,_,Z,cF,T.aX.c,T.aX.na.2.1,lt_of_le_of_lt (iB (zero_le 0)) (by decide),?_⟩;have T4:=T3.put (L1:=[]) (o':=.ins t.dH dx (aH "firsts" (.ref F) (aH "rooms" (.ref R) [])));have wF:jz n H3 (upd H3 n (.ins t.dH dx (aH "firsts" (.ref F) (aH "rooms" (.ref R) [])))):=jz.write;generalize upd H3 n (.ins t.dH dx (aH "firsts" (.ref F) (aH "rooms" (.ref R) [])))=H4 at T4 wF ⊢;have kb:∀{Hk:Hp} {q:Addr} {u:HO},jz n H Hk->H q=some u->(∀C d f,u≠.ins C d f)->Hk q=some u:=λb h hu=>b _ _ (xm h hn (by intro z;exact hu _ _ _ z)) h;refine⟨_,Z,Ll,Z,⟨_,T4.but.seqL hn hLl⟩,fG (K:=K) (a:=Ll) (xs:=xs) (λj σ H'=>(∃x3,σ=[some (.ref n),some (.ref Ll),some (.ref Lp),x3,none,none])/\∃FL:List (aJ×Addr),FL.map (·.1)=ls.take j/\Tr H n [(n,.ins t.dH dx (aH "firsts" (.ref F) (aH "rooms" (.ref R) []))),(R,.dK (fH (ls.take j))),(F,.dK (bO FL))] H'/\∀q∈FL,gq K H' q.2 (q.1.first.map V.int)) ⟨⟨none,Z⟩,[],Z,T4,by simp⟩ (λj σ H' _ ⟨_,_,_,T',_⟩=>T'.but.seqL hn hLl) ?_ ?_⟩
 ·rintro j x σ H' hx ⟨⟨x3,rfl⟩,FL,eFL,T4,hS⟩;obtain⟨l,hlj,q,f,rfl,hq,hf⟩:=aL.get hx;have hm:=mem_of_getElem? hlj;obtain⟨v1,v2,v3,v4⟩:=hF.lok l hm;have hnm:=hF.lnm l hm;have hj:=(List.getElem?_eq_some_iff.mp hlj).1;have kq:∀{Hk:Hp},jz n H Hk->Hk q=some (.tup [.str l.name,.int l.room,.ref f]):=λb=>kb b hq (by intro _ _ _ z;cases z);have nin:=pH hF.whole.nod hlj;have vR:b7 (fH (ls.take j)) (Sum.inr l.name)=none:=iy (by rw [vm];intro z;obtain⟨b,hb,e⟩:=mem_map.mp z;cases e;exact nin hb);have vF:b7 (bO FL) (Sum.inr l.name)=none:=iy (by rw [ue,eFL];intro z;obtain⟨b,hb,e⟩:=mem_map.mp z;cases e;exact nin hb);have tk:ls.take (j+1)=ls.take j ++ [l]:=by rw [take_succ,hlj];rfl
  have e4:=T4.all (n,.ins t.dH dx (aH "firsts" (.ref F) (aH "rooms" (.ref R) []))) (.head _);refine Ry λDe hD u hu=>?_;refine⟨_,rfl,q,_,0,_,rfl,rfl,gq.of (kq T4.but),aM (j:=0) rfl,_,rfl,n,_,dx,_,_,rfl,e4,T.aX.c,T.aX.na.1,(by (repeat first | (rw [aD,if_pos rfl];done) | rw [aD,if_neg (by decide +kernel)])),l.name,R,_,rfl,T4.all (R,.dK (fH (ls.take j))) (by simp),hnm,Ib hnm,vR,λH5 s5=>?_⟩;have T5:=T4.same s5;refine dq (v:=u) hu λu hu=>?_;refine⟨_,Z,q,_,0,_,Z,Z,gq.of (kq T5.but),aM (j:=0) Z,_,Z,q,_,1,_,Z,Z,gq.of (kq T5.but),aM (j:=1) Z,_,Z,q,_,2,_,Z,Z,gq.of (kq T5.but),aM (j:=2) Z,.str l.name,l.room,f,l.first,Z,T5.but.seqA hn hf,by lia,v4,v1,v3,v2,λH6 s6=>?_⟩;have T6:=T5.same s6;have e6:=T6.all (n,.ins t.dH dx (aH "firsts" (.ref F) (aH "rooms" (.ref R) []))) (.head _);have eR6:=T6.all (R,.dK (fH (ls.take j))) (by simp);refine dq (v:=u) hu λu hu=>?_;refine⟨_,rfl,q,_,1,_,rfl,rfl,gq.of (kq T6.but),aM (j:=1) rfl,_,rfl,n,_,dx,_,_,rfl,e6,T.aX.c,T.aX.na.1,(by (repeat first | (rw [aD,if_pos rfl];done) | rw [aD,if_neg (by decide +kernel)])),_,rfl,q,_,0,_,rfl,rfl,gq.of (kq T6.but),aM (j:=0) rfl,R,_,rfl,sO.k (k:=Sum.inr l.name) eR6 (by unfold fH;rw [lM,length_take];lia),?_⟩;have e7:putK (fH (ls.take j)) (Sum.inr l.name) (.int l.room)=fH (ls.take (j+1)):=by rw [kW _ vR,tk];unfold fH;rw [map_append];rfl
  have T7:=T6.put (L1:=[_]) (o':=.dK (fH (ls.take (j+1))));rw [e7];have hS7:∀q∈FL,gq K (upd H6 R (.dK (fH (ls.take (j+1))))) q.2 (q.1.first.map V.int):=λq hq=>gf eR6 (s6.seqT (s5.seqT (hS q hq)));generalize upd H6 R (.dK (fH (ls.take (j+1))))=H7 at T7 hS7 ⊢;subst hu;refine⟨_,Z,q,_,2,_,Z,Z,gq.of (kq T7.but),aM (j:=2) Z,f,_,Z,T7.but.seqA hn hf,λH8 F0 s8 t8=>?_⟩;have T8:=T7.same s8;have e8:=T8.all (n,.ins t.dH dx (aH "firsts" (.ref F) (aH "rooms" (.ref R) []))) (.head _);have eF8:=T8.all (F,.dK (bO FL)) (by simp);have lFL:FL.length<=24:=by have:=congrArg List.length eFL;rw [lM,length_take] at this;lia
  refine⟨_,rfl,n,_,dx,_,_,rfl,e8,T.aX.c,T.aX.na.2.1,(by (repeat first | (rw [aD,if_pos rfl];done) | rw [aD,if_neg (by decide +kernel)])),_,rfl,q,_,0,_,rfl,rfl,gq.of (kq T8.but),aM (j:=0) rfl,F,_,rfl,sO.k (k:=Sum.inr l.name) eF8 (by unfold bO;rw [lM];lia),?_⟩;have e9:putK (bO FL) (Sum.inr l.name) (.ref F0)=bO (FL ++ [(l,F0)]):=by rw [kW _ vF];unfold bO;rw [map_append];rfl
  have T9:=T8.put (L1:=[_,_]) (o':=.dK (bO (FL ++ [(l,F0)])));rw [e9];subst hD;refine⟨⟨_,rfl⟩,FL ++ [(l,F0)],by rw [map_append,eFL,tk];rfl,T9,λq hq=>?_⟩;rcases mem_append.mp hq with h | h
  ·exact gf eF8 (s8.seqT (hS7 q h))
  ·rw [mem_singleton] at h;subst h;exact gf eF8 t8
 rintro σ H9 ⟨⟨x3,rfl⟩,FL,eFL,T9,t9⟩;rw [lx,take_length] at eFL T9;clear T0 T1 T2 T3 T4;refine λPd nPd=>?_;have T10:=T9.new (o:=.dK []) nPd;have gPd:=aB (o:=.dK []) nPd;generalize upd H9 Pd (.dK [])=H10 at T10 gPd ⊢;have cPd:=T10.all (n,.ins t.dH dx (aH "firsts" (.ref F) (aH "rooms" (.ref R) []))) (.head _);refine⟨_,Z,n,_,dx,_,Z,cPd,T.aX.c,T.aX.na.2.2.1,lt_of_le_of_lt (iB (iB (zero_le 0))) (by decide),?_⟩;have T11:=T10.put (L1:=[]) (o':=.ins t.dH dx (aH "parts" (.ref Pd) (aH "firsts" (.ref F) (aH "rooms" (.ref R) []))));have wPd:jz n H10 (upd H10 n (.ins t.dH dx (aH "parts" (.ref Pd) (aH "firsts" (.ref F) (aH "rooms" (.ref R) []))))):=jz.write;generalize upd H10 n (.ins t.dH dx (aH "parts" (.ref Pd) (aH "firsts" (.ref F) (aH "rooms" (.ref R) []))))=H11 at T11 wPd ⊢;refine λGv nGv=>?_;have T12:=T11.new (o:=.dK []) nGv;have gGv:=aB (o:=.dK []) nGv;generalize upd H11 Gv (.dK [])=H12 at T12 gGv ⊢;have cGv:=T12.all (n,.ins t.dH dx (aH "parts" (.ref Pd) (aH "firsts" (.ref F) (aH "rooms" (.ref R) [])))) (.head _);refine⟨_,Z,n,_,dx,_,Z,cGv,T.aX.c,T.aX.na.2.2.2.1,lt_of_le_of_lt (iB (iB (iB (zero_le 0)))) (by decide),?_⟩;have T13:=T12.put (L1:=[]) (o':=.ins t.dH dx (aH "givers" (.ref Gv) (aH "parts" (.ref Pd) (aH "firsts" (.ref F) (aH "rooms" (.ref R) [])))));have wGv:jz n H12 (upd H12 n (.ins t.dH dx (aH "givers" (.ref Gv) (aH "parts" (.ref Pd) (aH "firsts" (.ref F) (aH "rooms" (.ref R) [])))))):=jz.write;generalize upd H12 n (.ins t.dH dx (aH "givers" (.ref Gv) (aH "parts" (.ref Pd) (aH "firsts" (.ref F) (aH "rooms" (.ref R) [])))))=H13 at T13 wGv ⊢;refine λTk nTk=>?_;have T14:=T13.new (o:=.dK []) nTk;have gTk:=aB (o:=.dK []) nTk;generalize upd H13 Tk (.dK [])=H14 at T14 gTk ⊢;have cTk:=T14.all (n,.ins t.dH dx (aH "givers" (.ref Gv) (aH "parts" (.ref Pd) (aH "firsts" (.ref F) (aH "rooms" (.ref R) []))))) (.head _);refine⟨_,Z,n,_,dx,_,Z,cTk,T.aX.c,T.aX.na.2.2.2.2.1,lt_of_le_of_lt (iB (iB (iB (iB (zero_le 0))))) (by decide),?_⟩;have T15:=T14.put (L1:=[]) (o':=.ins t.dH dx (aH "takers" (.ref Tk) (aH "givers" (.ref Gv) (aH "parts" (.ref Pd) (aH "firsts" (.ref F) (aH "rooms" (.ref R) []))))));have wTk:jz n H14 (upd H14 n (.ins t.dH dx (aH "takers" (.ref Tk) (aH "givers" (.ref Gv) (aH "parts" (.ref Pd) (aH "firsts" (.ref F) (aH "rooms" (.ref R) []))))))):=jz.write;generalize upd H14 n (.ins t.dH dx (aH "takers" (.ref Tk) (aH "givers" (.ref Gv) (aH "parts" (.ref Pd) (aH "firsts" (.ref F) (aH "rooms" (.ref R) []))))))=H15 at T15 wTk ⊢;have T15:Tr H n [(n,.ins t.dH dx (aH "takers" (.ref Tk) (aH "givers" (.ref Gv) (aH "parts" (.ref Pd) (aH "firsts" (.ref F) (aH "rooms" (.ref R) [])))))),(R,.dK (fH ls)),(F,.dK (bO FL)),(Pd,.dK []),(Gv,.dK []),(Tk,.dK [])] H15:=T15;have t15:∀q∈FL,gq K H15 q.2 (q.1.first.map V.int):=λq hq=>wTk.seqT cTk (gTk.seqT (wGv.seqT cGv (gGv.seqT (wPd.seqT cPd (gPd.seqT (t9 q hq))))));have nod:=T15.nod;simp only [map_append,map_cons,map_nil,List.nil_append,List.cons_append,nodup_cons,mem_cons,not_mem_nil,or_false,not_or] at nod;have nRF:R≠F:=nod.2.1.1;have nRT:R≠Tk:=nod.2.1.2.2.2;have nRG:R≠Gv:=nod.2.1.2.2.1;have nGT:Gv≠Tk:=nod.2.2.2.2.1;clear nod;have ono:(ps.flatMap (·.outs)).Nodup:=hF.whole.outs.nodup_iff.mpr hF.whole.nod;have ini:(ps.flatMap (·.ins)).Nodup:=hF.whole.ins.nodup_iff.mpr hF.whole.nod;have inR:∀z∈ls.map (·.name),(b7 (fH ls) (Sum.inr z)).isSome=true:=λz hz=>by obtain⟨l,hl,rfl⟩:=mem_map.mp hz;have e:b7 (fH ls) (Sum.inr l.name)=some (.int l.room):=iV (by rw [vm];exact gY hF.whole.nod) (mem_map.mpr ⟨l,hl,rfl⟩);rw [e];rfl
 have lenE:∀(f:PD->List Str) (j:Nat),(ps.flatMap f).Perm (ls.map (·.name))->(cW f (ps.take j)).length<=24:=λf j pm=>by
  rw [QC];have e1:((ps.take j).flatMap f).length+((ps.drop j).flatMap f).length=(ps.flatMap f).length:=by rw [<-lP,<-List.flatMap_append,take_append_drop]
  have e2:=pm.length_eq;rw [lM] at e2
  lia
 refine⟨_,Z,Lp,Z,⟨_,T15.but.seqL hn hLp⟩,fG (K:=K) (a:=Lp) (xs:=ys) (λj σ H'=>(∃x3 x4 x5,σ=[some (.ref n),some (.ref Ll),some (.ref Lp),x3,x4,x5])/\∃PL:List (PD×Addr),PL.map (·.1)=ps.take j/\Tr H n [(n,.ins t.dH dx (aH "takers" (.ref Tk) (aH "givers" (.ref Gv) (aH "parts" (.ref Pd) (aH "firsts" (.ref F) (aH "rooms" (.ref R) [])))))),(R,.dK (fH ls)),(F,.dK (bO FL)),(Pd,.dK (eU PL)),(Gv,.dK (cW (·.outs) (ps.take j))),(Tk,.dK (cW (·.ins) (ps.take j)))] H'/\(∀q∈FL,gq K H' q.2 (q.1.first.map V.int))/\∀q∈PL,fO K t H' q.2 q.1.kind (.str q.1.name) (q.1.nums.map V.int) (q.1.ins.map V.str) (q.1.outs.map V.str)) ⟨⟨x3,none,none,Z⟩,[],Z,T15,t15,by simp⟩ (λj σ H' _ ⟨_,_,_,T',_⟩=>T'.but.seqL hn hLp) ?_ ?_⟩
 ·rintro j x σ H' hx ⟨⟨x3,x4,x5,rfl⟩,PL,ePL,T15,hS,hP⟩;obtain⟨p,hpj,r,a1,a2,a3,rfl,hr,q1,q2,q3⟩:=aP.get hx;have hm:=mem_of_getElem? hpj;have hj:=(List.getElem?_eq_some_iff.mp hpj).1;obtain⟨o1,o2,o3,o4,o5⟩:=hF.pok p hm;have hnm:=hF.pnm p hm;have nin:=pH hF.pnd hpj;have tk:ps.take (j+1)=ps.take j ++ [p]:=by rw [take_succ,hpj];rfl
  have vP:b7 (eU PL) (Sum.inr p.name)=none:=iy (by rw [Cr,ePL];intro z;obtain⟨b,hb,e⟩:=mem_map.mp z;cases e;exact nin hb);obtain⟨di,fi⟩:=O1 ini hpj;obtain⟨do',fo⟩:=O1 ono hpj;have e15:=T15.all (n,.ins t.dH dx (aH "takers" (.ref Tk) (aH "givers" (.ref Gv) (aH "parts" (.ref Pd) (aH "firsts" (.ref F) (aH "rooms" (.ref R) [])))))) (.head _);refine Ry λDe hD u hu=>?_;refine⟨_,rfl,_,rfl,n,_,dx,_,_,rfl,e15,T.aX.c,T.aX.na.2.2.1,(by (repeat first | (rw [aD,if_pos rfl];done) | rw [aD,if_neg (by decide +kernel)])),p.kind,p.name,r,Pd,a1,a2,a3,_,_,_,_,rfl,kb T15.but hr (by intro _ _ _ z;cases z),by lia,T15.all (Pd,.dK (eU PL)) (by simp),hnm,Ib hnm,vP,T15.but.seqA hn q1,T15.but.seqA hn q2,T15.but.seqA hn q3,by rw [lM];exact o2,by rw [lM];exact o3,by rw [lM];exact o4,?_,λH16 pp s16 npp Pp=>?_⟩
  ·intro v hv;obtain⟨i,hi,rfl⟩:=mem_map.mp hv;exact⟨i,Z,(o5 i hi).1,(o5 i hi).2⟩
  have T16:=T15.same s16;obtain⟨dxp,tn,ti,to,z1,z2,z3,z4⟩:=id Pp.ex;have e16:=T16.all (n,.ins t.dH dx (aH "takers" (.ref Tk) (aH "givers" (.ref Gv) (aH "parts" (.ref Pd) (aH "firsts" (.ref F) (aH "rooms" (.ref R) [])))))) (.head _);have eTk:=T16.all (Tk,.dK (cW (·.ins) (ps.take j))) (by simp);have li:=lenE (·.ins) j hF.whole.ins;have lo:=lenE (·.outs) j hF.whole.outs;have h3I:p.ins.length<=3:=by rw [o3];exact G9 _
  have h3O:p.outs.length<=2:=by rw [o4];exact Uc _
  refine dq (v:=u) hu λu hu=>?_;refine⟨_,rfl,pp,_,dxp,_,_,rfl,z1,iD T p.kind,CV T p.kind,Aj _ _ _ _,_,rfl,pp,_,dxp,_,_,rfl,z1,iD T p.kind,yf T p.kind,rP _ _ _ _,_,rfl,n,_,dx,_,_,rfl,e16,T.aX.c,T.aX.na.1,(by (repeat first | (rw [aD,if_pos rfl];done) | rw [aD,if_neg (by decide +kernel)])),_,rfl,n,_,dx,_,_,rfl,e16,T.aX.c,T.aX.na.2.2.2.2.1,(by (repeat first | (rw [aD,if_pos rfl];done) | rw [aD,if_neg (by decide +kernel)])),p.name,ti,R,Tk,p.ins,_,_,rfl,z3,T16.all (R,.dK (fH ls)) (by simp),nRT,eTk,di,λz hz=>⟨inR z (hF.whole.ins.mem_iff.mp (mem_flatMap.mpr ⟨p,hm,hz⟩)),Ez (fi z hz)⟩,by lia,?_⟩;rw [<-Do (·.ins) (ps.take j) p,<-tk];have T17:=T16.put (L1:=[_,_,_,_,_]) (o':=.dK (cW (·.ins) (ps.take (j+1))));have Pp17:=Pp.chill (v:=.dK (cW (·.ins) (ps.take (j+1)))) eTk;have hS17:∀q∈FL,gq K (upd H16 Tk (.dK (cW (·.ins) (ps.take (j+1))))) q.2 (q.1.first.map V.int):=λq hq=>gf eTk (s16.seqT (hS q hq));have hP17:∀q∈PL,fO K t (upd H16 Tk (.dK (cW (·.ins) (ps.take (j+1))))) q.2 q.1.kind (.str q.1.name) (q.1.nums.map V.int) (q.1.ins.map V.str) (q.1.outs.map V.str):=λq hq=>((hP q hq).same s16).chill eTk;generalize upd H16 Tk (.dK (cW (·.ins) (ps.take (j+1))))=H17 at T17 Pp17 hS17 hP17 ⊢;clear z1 z2 z3 z4 e16;obtain⟨dxp,tn,ti,to,z1,z2,z3,z4⟩:=id Pp17.ex;have e17:=T17.all (n,.ins t.dH dx (aH "takers" (.ref Tk) (aH "givers" (.ref Gv) (aH "parts" (.ref Pd) (aH "firsts" (.ref F) (aH "rooms" (.ref R) [])))))) (.head _);have eGv:=T17.all (Gv,.dK (cW (·.outs) (ps.take j))) (by simp);refine dq (v:=u) hu λu hu=>?_;refine⟨_,rfl,pp,_,dxp,_,_,rfl,z1,iD T p.kind,CV T p.kind,Aj _ _ _ _,_,rfl,pp,_,dxp,_,_,rfl,z1,iD T p.kind,Jl T p.kind,HN _ _ _ _,_,rfl,n,_,dx,_,_,rfl,e17,T.aX.c,T.aX.na.1,(by (repeat first | (rw [aD,if_pos rfl];done) | rw [aD,if_neg (by decide +kernel)])),_,rfl,n,_,dx,_,_,rfl,e17,T.aX.c,T.aX.na.2.2.2.1,(by (repeat first | (rw [aD,if_pos rfl];done) | rw [aD,if_neg (by decide +kernel)])),p.name,to,R,Gv,p.outs,_,_,rfl,z4,T17.all (R,.dK (fH ls)) (by simp),nRG,eGv,do',λz hz=>⟨inR z (hF.whole.outs.mem_iff.mp (mem_flatMap.mpr ⟨p,hm,hz⟩)),Ez (fo z hz)⟩,by lia,?_⟩;rw [<-Do (·.outs) (ps.take j) p,<-tk];have T18:=T17.put (L1:=[_,_,_,_]) (o':=.dK (cW (·.outs) (ps.take (j+1))));have Pp18:=Pp17.chill (v:=.dK (cW (·.outs) (ps.take (j+1)))) eGv;have hS18:∀q∈FL,gq K (upd H17 Gv (.dK (cW (·.outs) (ps.take (j+1))))) q.2 (q.1.first.map V.int):=λq hq=>gf eGv (hS17 q hq);have hP18:∀q∈PL,fO K t (upd H17 Gv (.dK (cW (·.outs) (ps.take (j+1))))) q.2 q.1.kind (.str q.1.name) (q.1.nums.map V.int) (q.1.ins.map V.str) (q.1.outs.map V.str):=λq hq=>(hP17 q hq).chill eGv;generalize upd H17 Gv (.dK (cW (·.outs) (ps.take (j+1))))=H18 at T18 Pp18 hS18 hP18 ⊢;clear z1 z2 z3 z4 e17;obtain⟨dxp,tn,ti,to,z1,z2,z3,z4⟩:=id Pp18.ex;have e18:=T18.all (n,.ins t.dH dx (aH "takers" (.ref Tk) (aH "givers" (.ref Gv) (aH "parts" (.ref Pd) (aH "firsts" (.ref F) (aH "rooms" (.ref R) [])))))) (.head _);have ePd:=T18.all (Pd,.dK (eU PL)) (by simp);have lPL:PL.length<=16:=by have:=congrArg List.length ePL;rw [lM,length_take] at this;lia
  subst hu;refine⟨_,rfl,_,rfl,n,_,dx,_,_,rfl,e18,T.aX.c,T.aX.na.2.2.1,(by (repeat first | (rw [aD,if_pos rfl];done) | rw [aD,if_neg (by decide +kernel)])),_,rfl,pp,_,dxp,_,_,rfl,z1,iD T p.kind,CV T p.kind,Aj _ _ _ _,Pd,_,rfl,sO.k (k:=Sum.inr p.name) ePd (by unfold eU;rw [lM];lia),?_⟩;have e19:putK (eU PL) (Sum.inr p.name) (.ref pp)=eU (PL ++ [(p,pp)]):=by rw [kW _ vP];unfold eU;rw [map_append];rfl
  have T19:=T18.put (L1:=[_,_,_]) (o':=.dK (eU (PL ++ [(p,pp)])));rw [e19];subst hD;refine⟨⟨_,_,_,rfl⟩,PL ++ [(p,pp)],by rw [map_append,ePL,tk];rfl,T19,λq hq=>gf ePd (hS18 q hq),λq hq=>?_⟩;rcases mem_append.mp hq with h | h
  ·exact(hP18 q h).chill ePd
  ·rw [mem_singleton] at h;subst h;exact Pp18.chill ePd
 rintro σ H18 ⟨⟨x3,x4,x5,rfl⟩,PL,ePL,T18,hS,hP⟩;rw [ly,take_length] at ePL T18;have e18:=T18.all (n,.ins t.dH dx (aH "takers" (.ref Tk) (aH "givers" (.ref Gv) (aH "parts" (.ref Pd) (aH "firsts" (.ref F) (aH "rooms" (.ref R) [])))))) (.head _);have eR:=T18.all (R,.dK (fH ls)) (by simp);have eF:=T18.all (F,.dK (bO FL)) (by simp);have ePd:=T18.all (Pd,.dK (eU PL)) (by simp);have eGv:=T18.all (Gv,.dK (cW (·.outs) ps)) (by simp);have eTk:=T18.all (Tk,.dK (cW (·.ins) ps)) (by simp);refine⟨_,rfl,n,_,dx,_,_,rfl,e18,T.aX.c,T.aX.na.1,(by (repeat first | (rw [aD,if_pos rfl];done) | rw [aD,if_neg (by decide +kernel)])),_,rfl,n,_,dx,_,_,rfl,e18,T.aX.c,T.aX.na.2.2.2.1,(by (repeat first | (rw [aD,if_pos rfl];done) | rw [aD,if_neg (by decide +kernel)])),_,rfl,n,_,dx,_,_,rfl,e18,T.aX.c,T.aX.na.2.2.2.2.1,(by (repeat first | (rw [aD,if_pos rfl];done) | rw [aD,if_neg (by decide +kernel)])),R,Gv,Tk,_,_,_,rfl,eR,eGv,eTk,nRG,nRT,?_,?_⟩
 ·intro q hq;obtain⟨l,hl,rfl⟩:=mem_map.mp hq;have hln:l.name∈ls.map (·.name):=mem_map.mpr ⟨l,hl,rfl⟩;obtain⟨pa,ha,la⟩:=mem_flatMap.mp (hF.whole.outs.mem_iff.mpr hln);obtain⟨pb,hb,lb⟩:=mem_flatMap.mp (hF.whole.ins.mem_iff.mpr hln);exact⟨by rw [jm ono ha la];rfl,by rw [jm ini hb lb];rfl⟩
 refine⟨_,rfl,n,_,dx,_,_,rfl,e18,T.aX.c,T.aX.na.2.2.1,(by (repeat first | (rw [aD,if_pos rfl];done) | rw [aD,if_neg (by decide +kernel)])),Pd,_,rfl,.inl ePd,λl nl=>?_⟩;have s19:=aB (o:=.lst ((eU PL).map λp=>kV p.1)) nl;have eL:(eU PL).map (λp=>kV p.1)=ps.map λp=>V.str p.name:=by unfold eU;rw [map_map,<-ePL,map_map];rfl
 refine⟨_,rfl,n,_,dx,_,_,rfl,(s19 _ _ e18),T.aX.c,T.aX.na.2.2.2.1,(by (repeat first | (rw [aD,if_pos rfl];done) | rw [aD,if_neg (by decide +kernel)])),_,rfl,n,_,dx,_,_,rfl,(s19 _ _ e18),T.aX.c,T.aX.na.2.2.2.2.1,(by (repeat first | (rw [aD,if_pos rfl];done) | rw [aD,if_neg (by decide +kernel)])),l,Gv,Tk,ps,rfl,bK.of (by rw [<-eL];exact aq),by lia,by lia,s19 _ _ eGv,s19 _ _ eTk,nGT,ono,ini,hF.whole.outs.trans hF.whole.ins.symm,hF.whole.hang,λH20 s20=>?_⟩;have s:=s19.trans s20;refine k _ (λb u hb e=>s _ _ (T18.but b u hb e)) ⟨dx,_,R,F,Pd,Gv,Tk,FL,PL,s _ _ e18,⟨?_,?_⟩,s _ _ eR,s _ _ eF,s _ _ ePd,s _ _ eGv,s _ _ eTk,eFL,ePL,λq hq=>s.seqT (hS q hq),λq hq=>(hP q hq).same s,hF,nRF⟩
 ·intro q hq;simp only [mem_cons,not_mem_nil,or_false] at hq;rcases hq with rfl | rfl | rfl | rfl | rfl <;> (dsimp only;(repeat first | (rw [aD,if_pos rfl];done) | rw [aD,if_neg (by decide +kernel)]))
 ·intro m hm;have hne:∀m∈(["lane_names", "part_names", "names_of_kind", "gives", "takes", "need_lane_name", "room_of", "first_of", "part_of", "__init__"]:List Str),∀g∈(["takers", "givers", "parts", "firsts", "rooms"]:List Str),¬m=g:=by decide +kernel
  have h:=hne m hm;rw [aD,if_neg (h _ (by simp)),aD,if_neg (h _ (by simp)),aD,if_neg (h _ (by simp)),aD,if_neg (h _ (by simp)),aD,if_neg (h _ (by simp))];rfl
inductive yd (K:Fr) (t:jr) (vs:List V) (H:Hp) (Q:VK) (E_:XK):Prop where
 | mk:∀(f n E G Kp D Rw l:Addr) (ed gd:List (Key×V)) (x:Str) (vs':List V) (g:Nat),vs=[.ref f,.str x]->nC K t H f n E G Kp D Rw->H E=some (.dK ed)->H G=some (.dK gd)->b7 ed (Sum.inr x)=some (.ref l)->b7 gd (Sum.inr x)=some (.int g)->bK K H l vs'->Q (.int (vs'.length - g)) H->yd K t vs H Q E_
theorem xN (T:Txt w K mg t):FO P w K mg base 1 t.tE ["self", "lane"] (yd K t):=by have sc:=T.oU.sc ["self", "lane"];refine T.oU.F.ok sc ln (λ_ _ _ _ H vs Q E hr h=>?_);obtain⟨f,n,E,G,Kp,D,Rw,l,ed,gd,x,vs',g,rfl,N,hE,hG,h3,h4,h5,k⟩:=h;refine⟨_,(aA (aN (bB M7 (bA bY (by rfl) T.gh dJ (aa (cM hr.u1 (aW (pv 0) rfl) (pv 1) (λ_ _=>rfl)) ak aF)) (cM hr.u1 (aW (pv 0) rfl) (pv 1) (λ_ _=>rfl))))),?_⟩;obtain⟨dx,fs,h1,h2⟩:=id N.ex;refine⟨_,Z,f,_,dx,fs,_,Z,h1,T.aO.c,T.aO.na.2.1,h2.has ("ever",.ref E) (by simp),_,Z,E,_,Z,(by rw [<-h3];exact d8.k (k:=Sum.inr x) hE),?_⟩;refine⟨.ref l,vs'.length,Z,.inl ⟨vs',h5,Z⟩,_,Z,f,_,dx,fs,_,Z,h1,T.aO.c,T.aO.na.2.2.1,h2.has ("gone",.ref G) (by simp),_,Z,G,_,Z,(by rw [<-h4];exact d8.k (k:=Sum.inr x) hG),?_⟩;refine⟨_,_,Z,Z,?_⟩;exact k
inductive sS (K:Fr) (t:jr) (vs:List V) (H:Hp) (Q:VK) (E_:XK):Prop where
 | mk:∀(f n E G Kp D Rw l:Addr) (ed gd:List (Key×V)) (x:Str) (vs':List V) (g:Nat),vs=[.ref f,.str x]->nC K t H f n E G Kp D Rw->H E=some (.dK ed)->H G=some (.dK gd)->b7 ed (Sum.inr x)=some (.ref l)->b7 gd (Sum.inr x)=some (.int g)->bK K H l vs'->(∀p,H p=none->Q (.ref p) (upd H p (.lst (vs'.drop g))))->sS K t vs H Q E_
theorem Ar (T:Txt w K mg t):FO P w K mg base 1 t.oA ["self", "lane"] (sS K t):=by have sc:=T.m8.sc ["self", "lane"];refine T.m8.F.ok sc ln (λ_ _ _ _ H vs Q E hr h=>?_);obtain⟨f,n,E,G,Kp,D,Rw,l,ed,gd,x,vs',g,rfl,N,hE,hG,h3,h4,h5,k⟩:=h;refine⟨_,(aA (aN (j4 ut (cM hr.u1 (aW (pv 0) Z) (pv 1) (λ_ _=>Z)) (j9 (cM hr.u1 (aW (pv 0) Z) (pv 1) (λ_ _=>Z))) ug))),?_⟩;obtain⟨dx,fs,h1,h2⟩:=id N.ex;refine⟨_,Z,f,_,dx,fs,_,Z,h1,T.aO.c,T.aO.na.2.1,h2.has ("ever",.ref E) (by simp),_,Z,E,_,Z,(by rw [<-h3];exact d8.k (k:=Sum.inr x) hE),?_⟩;refine⟨_,Z,f,_,dx,fs,_,Z,h1,T.aO.c,T.aO.na.2.2.1,h2.has ("gone",.ref G) (by simp),_,Z,G,_,Z,(by rw [<-h4];exact d8.k (k:=Sum.inr x) hG),?_⟩;refine⟨_,Z,l,vs',Z,h5,λp hp=>?_⟩;rw [K1];exact k p hp
inductive yW (K:Fr) (t:jr) (vs:List V) (H:Hp) (Q:VK) (E_:XK):Prop where
 | mk:∀(f n E G Kp D Rw l:Addr) (ed gd:List (Key×V)) (x:Str) (vs':List V) (g:Nat),vs=[.ref f,.str x]->nC K t H f n E G Kp D Rw->H E=some (.dK ed)->H G=some (.dK gd)->b7 ed (Sum.inr x)=some (.ref l)->b7 gd (Sum.inr x)=some (.int g)->bK K H l vs'->Q ((vs'[g]?).getD .non) H->yW K t vs H Q E_
theorem JC (T:Txt w K mg t):FO P w K mg base 2 t.uQ ["self", "lane"] (yW K t):=by
 have sc:=T.wy.sc ["self", "lane"];refine T.wy.F.ok sc ln (λ_ _ _ _ H vs Q E hr h=>?_);obtain⟨f,n,E,G,Kp,D,Rw,l,ed,gd,x,vs',g,rfl,N,hE,hG,h3,h4,h5,k⟩:=h;refine⟨_,(aA (aN (vO (aZ PX (Qp (pv 0) T.aO T.aO.me.2.1 (xN T) T.oU hr (aa (pv 1) ak aj)) au (bN _)) (aU aV (cM hr.u1 (aW (pv 0) Z) (pv 1) (λ_ _=>Z)) (cM hr.u1 (aW (pv 0) Z) (pv 1) (λ_ _=>Z)) (λ_ _=>Z)) nQ))),?_⟩;obtain⟨dx,fs,h1,h2⟩:=id N.ex;refine⟨_,Z,f,dx,fs,Z,h1,h2.no _ (by decide +kernel),_,Z,f,n,E,G,Kp,D,Rw,l,ed,gd,x,vs',g,Z,N,hE,hG,h3,h4,h5,?_⟩;refine⟨_,_,Z,Z,_,Z,nH (λe=>?_) (λe=>?_)⟩
 ·have e':g <vs'.length:=by have:=of_decide_eq_true e;lia
  refine⟨_,Z,f,_,dx,fs,_,Z,h1,T.aO.c,T.aO.na.2.1,h2.has ("ever",.ref E) (by simp),_,Z,E,_,Z,(by rw [<-h3];exact d8.k (k:=Sum.inr x) hE),?_⟩;refine⟨_,Z,f,_,dx,fs,_,Z,h1,T.aO.c,T.aO.na.2.2.1,h2.has ("gone",.ref G) (by simp),_,Z,G,_,Z,(by rw [<-h4];exact d8.k (k:=Sum.inr x) hG),?_⟩;rw [getElem?_eq_getElem e'] at k;exact⟨l,vs',g,_,Z,Z,h5,aM (getElem?_eq_getElem e'),k⟩
 ·have e':¬g <vs'.length:=λz=>e (decide_eq_true (by lia));rw [List.getElem?_eq_none (by lia)] at k;exact k
inductive pX (K:Fr) (t:jr) (vs:List V) (H:Hp) (Q:VK):Prop where
 | mk:∀(f n E G Kp D Rw:Addr) (rd dd:List (Key×V)) (x:Str),vs=[.ref f,.str x]->nC K t H f n E G Kp D Rw->H Rw=some (.dK rd)->H D=some (.dK dd)->(((b7 rd (Sum.inr x)=none/\Q (.bl false) H)∨∃(l:Addr) (vs':List V) (g:Nat),b7 rd (Sum.inr x)=some (.ref l)/\b7 dd (Sum.inr x)=some (.int g)/\bK K H l vs'/\Q (.bl (decide (g=vs'.length))) H))->pX K t vs H Q
@[irreducible] noncomputable def eO (K:Fr) (t:jr):Sp:=λvs H Q _=>pX K t vs H Q
theorem zc (T:Txt w K mg t):FO P w K mg base 1 t.lD ["self", "name"] (eO K t):=by
 have sc:=T.lF.sc ["self", "name"];refine T.lF.F.ok sc (λvs H Q E h=>?_) (λcdv A outer s H vs Q E hr h=>?_)
 ·unfold eO at h;obtain⟨f,n,E,G,Kp,D,Rw,rd,dd,x,rfl,_⟩:=h;rfl
 ·unfold eO at h;obtain⟨f,n,E,G,Kp,D,Rw,rd,dd,x,rfl,N,hR,hD,k⟩:=h;refine⟨_,(aA (aN (Bh (Ao (Ad hr.u1 (pv 1) (aW (pv 0) rfl))) (Bd (tH gP (cM hr.u1 (aW (pv 0) rfl) (pv 1) (λ_ _=>rfl)) (bA bY (by rfl) T.gh dJ (aa (cM hr.u1 (aW (pv 0) rfl) (pv 1) (λ_ _=>rfl)) ak aF)) (bN _)))))),?_⟩;obtain⟨dx,fs,h1,h2⟩:=id N.ex;refine⟨_,Z,_,Z,f,_,dx,fs,_,Z,h1,T.aO.c,T.aO.na.2.2.2.2.2.1,h2.has ("rows",.ref Rw) (by simp),Rw,_,Z,d8.k (k:=Sum.inr x) hR,?_⟩;rcases k with ⟨k1,k⟩ | ⟨l,vs',g,k1,k2,k3,k⟩
  ·rw [k1];exact⟨_,Z,cj k⟩
  ·rw [k1];refine⟨_,Z,gm ?_⟩;refine⟨_,Z,f,_,dx,fs,_,Z,h1,T.aO.c,T.aO.na.2.2.2.2.1,h2.has ("done",.ref D) (by simp),_,Z,D,_,Z,(by rw [<-k2];exact d8.k (k:=Sum.inr x) hD),?_⟩;refine⟨_,Z,f,_,dx,fs,_,Z,h1,T.aO.c,T.aO.na.2.2.2.2.2.1,h2.has ("rows",.ref Rw) (by simp),_,Z,Rw,_,Z,(by rw [<-k1];exact d8.k (k:=Sum.inr x) hR),?_⟩;refine⟨.ref l,vs'.length,Z,.inl ⟨vs',k3,Z⟩,Z,?_⟩;rw [show decide (V.int (g:Int)=V.int (vs'.length:Int))=decide (g=vs'.length) by rw [decide_eq_decide,V.int.injEq];lia];exact k
inductive yc (K:Fr) (t:jr) (vs:List V) (H:Hp) (Q:VK) (E_:XK):Prop where
 | mk:∀(f n E G Kp D Rw p:Addr) (ed gd:List (Key×V)) (i:Nat) (nm:V) (ns os:List V) (xs:List Str) (hv:Str->V),vs=[.ref f,.ref p]->nC K t H f n E G Kp D Rw->H E=some (.dK ed)->H G=some (.dK gd)->fO K t H p i nm ns (xs.map V.str) os->xs.length<=3->((∀x∈xs,∃(l:Addr) (vs':List V) (g:Nat),b7 ed (Sum.inr x)=some (.ref l)/\b7 gd (Sum.inr x)=some (.int g)/\bK K H l vs'/\hv x=(vs'[g]?).getD .non))->(∀d,H d=none->Q (.ref d) (upd H d (.lst (xs.map hv))))->yc K t vs H Q E_
theorem xR (T:Txt w K mg t):FO P w K mg base 3 t.tO ["self", "part"] (yc K t):=by
 have sc:=T.oY.sc ["self", "part"];refine T.oY.F.ok sc ln (λ_ _ _ _ H vs Q E hr h=>?_);obtain⟨f,n,E,G,Kp,D,Rw,p,ed,gd,i,nm,ns,os,xs,hv,rfl,N,hE,hG,hP,hx,hh,k⟩:=h;refine⟨_,(aA (aN (eE [0] ["self", "part"] (aR (inClass (top 15) 6)) Z (Je (aW (pv 1) Z)) (λ_ _ _ _ _=>fK) (λ_ _ _ _ _=>(Qp (pv 1) T.aO T.aO.me.2.2.2.1 (JC T) T.wy hr (aa (pv 0) ak aj)))))),?_⟩;obtain⟨dx,fs,h1,h2⟩:=id N.ex;obtain⟨dxp,tn,ti,to,p1,p2,p3,p4⟩:=id hP.ex;have hz:sizeLine=16777216:=sizeLine_eq;refine⟨_,Z,p,_,dxp,_,_,Z,p1,iD T i,yf T i,rP _ _ _ _,ti,Z,⟨_,p3⟩,?_⟩;refine KZ (K:=K) (a:=ti) (xs:=xs.map V.str) (λj ys H'=>H'=H/\ys=(xs.take j).map hv) (by simp;lia) ⟨Z,Z⟩ (λj ys H' ⟨_,e⟩=>by rw [e];simp;lia) (λj ys H' _ ⟨e,_⟩=>by rw [e];exact p3) ?_ ?_
 ·rintro j y ys H' hy ⟨rfl,rfl⟩;rw [getElem?_map] at hy;obtain⟨x,hq,rfl⟩:=map_eq_some_iff.mp hy;obtain⟨l,vs',g,g1,g2,g3,g4⟩:=hh x (mem_of_getElem? hq);refine yes ⟨_,Z,f,dx,fs,Z,h1,h2.no _ (by decide +kernel),_,Z,f,n,E,G,Kp,D,Rw,l,ed,gd,x,vs',g,Z,N,hE,hG,g1,g2,g3,Z,?_⟩;rw [take_succ,hq,toList_some,map_append,<-g4];rfl
 ·rintro ys H' ⟨rfl,rfl⟩ d hd;rw [lM,take_length];exact k d hd
theorem TY (T:Txt w K mg t) (i:Nat):MethAt P w K mg base GP 2 (cls t i) "lacks" (zY K t i):=match i with
 | 0=>⟨_,_,_,T.jh.c,(T.bD.me T.jh.me.2.2.2.1),T.bD.b,(cY T).imp λ_ _ _ _ h=>⟨_,h⟩⟩
 | 1=>⟨_,_,_,T.iY.c,(T.bD.me T.iY.me.2.2.2.1),T.bD.b,(cY T).imp λ_ _ _ _ h=>⟨_,h⟩⟩
 | 2=>⟨_,_,_,T.iR.c,(T.bD.me T.iR.me.2.2.2.1),T.bD.b,(cY T).imp λ_ _ _ _ h=>⟨_,h⟩⟩
 | 3=>⟨_,_,_,T.je.c,(T.bD.me T.je.me.2.2.2.1),T.bD.b,(cY T).imp λ_ _ _ _ h=>⟨_,h⟩⟩
 | 4=>⟨_,_,_,T.jg.c,(T.bD.me T.jg.me.2.2.2.1),T.bD.b,(cY T).imp λ_ _ _ _ h=>⟨_,h⟩⟩
 | 5=>⟨_,_,_,T.iZ.c,(T.bD.me T.iZ.me.2.2.2.1),T.bD.b,(cY T).imp λ_ _ _ _ h=>⟨_,h⟩⟩
 | 6=>⟨_,_,_,T.mJ.c,(T.bD.me T.mJ.me.2.2.2.1),T.bD.b,(cY T).imp λ_ _ _ _ h=>⟨_,h⟩⟩
 | 7=>⟨_,_,_,T.jf.c,(T.bD.me T.jf.me.2.2.2.1),T.bD.b,(cY T).imp λ_ _ _ _ h=>⟨_,h⟩⟩
 | 8=>⟨_,_,_,T.fZ.c,(T.bD.me T.fZ.me.2.2.2.1),T.bD.b,(cY T).imp λ_ _ _ _ h=>⟨_,h⟩⟩
 | 9=>⟨_,_,_,T.d9.c,(T.bD.me T.d9.me.2.2.2.1),T.bD.b,(cY T).imp λ_ _ _ _ h=>⟨_,h⟩⟩
 | n+10=>⟨_,_,_,T.fW.c,(T.bD.me T.fW.me.2.2.2.1),T.bD.b,(cY T).imp λ_ _ _ _ h=>⟨_,h⟩⟩
inductive uI (K:Fr) (t:jr) (vs:List V) (H:Hp) (Q:VK) (E:XK):Prop where
 | mk:∀(A:mU) (ls:List aJ) (ps:List PD) (S:FS) (x:Str),vs=[.ref A.f,.str x]->fV K t H A.n ls ps->dO K t H A ls ps S->(((∃p∈ps,p.name=x/\∀H',aK H H'->Q (jD p.kind p.ins (bJ S p)) H')∨(x∉ps.map (·.name)/\∀dx H',aK H H'->H' dx=some (.xd [("name",.str x)])->E (.ref t.bG) (some dx) H')))->uI K t vs H Q E
theorem CT (T:Txt w K mg t):dR P w K mg base (sX P w) 4 t.jX (fdOf K t.jX) ["self", "name"] (uI K t):=by
 have sc:=T.kO.sc ["self", "name", "part", "place"];refine T.kO.F.ok2 sc ln (λ_ _ _ _ H vs Q E hr h=>?_);obtain⟨A,ls,ps,S,x,rfl,N,W,h⟩:=h;refine⟨_,(az (sN sc 2 (d7 (aW (pv 0) Z) T.aX.c (T.cH.me T.aX.me.2.2.2.2.2.2.2.2.2.1) (iQ T) (hr.mono (by decide)) T.cH.b .nil (sG λ_ _ _ h=>h) (aa (pv 1) ak aj)))
  (az (sN sc 3 (zO (CX:=GP) (k:=2) (E:=E0) (pv 2) (hr.mono (by decide)) gj (aa (Qp (pv 0) T.aO T.aO.me.2.2.2.2.2.1 (xR T) T.oY hr (aa (pv 2) ak aj)) ak bh)))
  (aA (aN (vO (jx (ym (pv 3))) nQ (aU dI (aW (pv 2) rfl) (pv 3) (λ_ _=>rfl))))))),?_⟩
 rcases h with ⟨p,hp,rfl,k⟩ | h
 ·obtain⟨dxn,fsn,R,F,Pd,Gn,Tk,FL,PL,Wn⟩:=id N;have F:=Wn.fit;obtain⟨dx,fs,h1,h2⟩:=id W.at'.ex;have hh1:∀{H':Hp},aK H H'->(∀x∈p.ins,∃(l:Addr) (vs':List V) (g:Nat),b7 (Vf A.ea ls) (Sum.inr x)=some (.ref l)/\b7 (dm S.g ls) (Sum.inr x)=some (.int g)/\bK K H' l vs'/\ql S x=(vs'[g]?).getD .non):=λs x hx=>by obtain⟨l,hl,rfl⟩:=F.inL hp (mem_append.mpr (.inl hx));exact⟨A.ea l.name,_,S.g l.name,tY F.whole.nod hl,pB F.whole.nod hl,bK.of (s _ _ (W.lists l hl)),by unfold ql;rw [getElem?_map]⟩
  refine⟨_,Z,A.f,_,dx,fs,_,Z,h1,T.aO.c,T.aO.na.1,h2.has ("net",.ref A.n) (by simp),A.n,dxn,fsn,Z,Wn.obj,Wn.fl.no _ (by decide +kernel),_,Z,A.n,ls,ps,p.name,Z,N,.inl ⟨p,hp,Z,λH1 q s1 P1=>?_⟩⟩;obtain⟨dxp,tn,ti,to,p1,p2,p3,p4⟩:=id P1.ex;have W1:=W.same s1;have hI:=(F.pok p hp).2.2.1;have hO:=uP S p (F.pok p hp);refine⟨_,Z,q,cls t p.kind,dxp,_,zY K t p.kind,Z,p1,wO _ _ _ _ (by decide +kernel) (by decide +kernel) (by decide +kernel) (by decide +kernel),TY T p.kind,?_⟩;refine⟨_,Z,A.f,dx,fs,Z,s1 _ _ h1,h2.no _ (by decide +kernel),_,Z,A.f,A.n,A.E,A.G,A.Kp,A.D,A.Rw,q,_,_,p.kind,_,_,_,p.ins,ql S,Z,W1.at',W1.ever,W1.gone,P1,(by have:=G9 p.kind;lia),hh1 s1,λd hd=>?_⟩;have s2:aK H1 (upd H1 d (.lst (p.ins.map (ql S)))):=aB hd;refine⟨q,d,_,_,_,_,bJ S p,Z,P1.same s2,by rw [lM];exact hI,bK.of aq,hO,λH3 s3=>?_⟩;have s23:=s2.trans s3;have k':=k H3 (s1.trans s23);have hlt:=lC hO;unfold jD at k';unfold Qe;cases hf:(places p.kind (bJ S p)).find? (yJ (bJ S p)) with
  | none=>
   rw [hf] at k';exact⟨_,Z,_,Z,gm k'⟩
  | some j=>
   rw [hf] at k';have hq:j <p.ins.length:=by have:=hlt j (List.mem_of_find?_eq_some hf);unfold bJ at this;rwa [lM] at this
   have k':Q (V.str p.ins[j]) H3:=by simpa only [getElem?_eq_getElem hq,map_some,getD_some] using k'
   exact⟨_,rfl,_,rfl,cj ⟨_,rfl,q,_,dxp,_,_,rfl,s23 _ _ p1,iD T p.kind,yf T p.kind,rP _ _ _ _,_,rfl,ti,p.ins.map V.str,j,_,rfl,rfl,s23.seqT p3,aM (j:=j) (by rw [getElem?_map,getElem?_eq_getElem hq];rfl),k'⟩⟩
 ·obtain⟨dxn,fsn,R,F,Pd,Gn,Tk,FL,PL,Wn⟩:=id N;obtain⟨dx,fs,h1,h2⟩:=id W.at'.ex;exact⟨_,Z,A.f,_,dx,fs,_,Z,h1,T.aO.c,T.aO.na.1,h2.has ("net",.ref A.n) (by simp),A.n,dxn,fsn,Z,Wn.obj,Wn.fl.no _ (by decide +kernel),_,Z,A.n,ls,ps,x,Z,N,.inr h⟩
theorem QS (T:Txt w K mg t) {i:Nat} (hi:i <11):MethAt P w K mg base GP 2 (cls t i) "worked" (eQ K t i):=match i,hi with
 | 0,_=>⟨_,_,_,T.jh.c,(T.lZ.me T.jh.me.2.2.2.2.1),T.lZ.b,dR.mono (k:=2) (Dv T) (by decide)⟩
 | 1,_=>⟨_,_,_,T.iY.c,(T.lU.me T.iY.me.2.2.2.2.1),T.lU.b,dR.mono (k:=2) (Ej T) (by decide)⟩
 | 2,_=>⟨_,_,_,T.iR.c,(T.lR.me T.iR.me.2.2.2.2.1),T.lR.b,dR.mono (k:=2) (FZ T) (by decide)⟩
 | 3,_=>⟨_,_,_,T.je.c,(T.lQ.me T.je.me.2.2.2.2.1),T.lQ.b,dR.mono (k:=2) (Fg T) (by decide)⟩
 | 4,_=>⟨_,_,_,T.jg.c,(T.mq.me T.jg.me.2.2.2.2.1),T.mq.b,dR.mono (k:=2) (FJ T) (by decide)⟩
 | 5,_=>⟨_,_,_,T.iZ.c,(T.lK.me T.iZ.me.2.2.2.2.1),T.lK.b,dR.mono (k:=2) (Gf T) (by decide)⟩
 | 6,_=>⟨_,_,_,T.mJ.c,(T.oJ.me T.mJ.me.2.2.2.2.1),T.oJ.b,dR.mono (k:=2) (GR T) (by decide)⟩
 | 7,_=>⟨_,_,_,T.jf.c,(T.lO.me T.jf.me.2.2.2.2.1),T.lO.b,dR.mono (k:=2) (Ea T) (by decide)⟩
 | 8,_=>⟨_,_,_,T.fZ.c,(T.jW.me T.fZ.me.2.2.2.2.1),T.jW.b,dR.mono (k:=2) (CK T) (by decide)⟩
 | 9,_=>⟨_,_,_,T.d9.c,(T.jK.me T.d9.me.2.2.2.2.1),T.jK.b,dR.mono (k:=2) (Aq T) (by decide)⟩
 | 10,_=>⟨_,_,_,T.fW.c,(T.jZ.me T.fW.me.2.2.2.2.1),T.jZ.b,dR.mono (k:=2) (Cz T) (by decide)⟩
theorem ZR (ns ws:List Int) (kp:Int):∀pv∈cZ 0 ns ws kp,∃q:Nat,pv.1=(q:Int)/\q <cO 0:=by intro pv h;simp [cZ] at h;subst h;exact⟨0,Z,by decide⟩
theorem ZJ (ns ws:List Int) (kp:Int):∀pv∈cZ 1 ns ws kp,∃q:Nat,pv.1=(q:Int)/\q <cO 1:=by intro pv h;simp [cZ] at h
theorem Z7 (ns ws:List Int) (kp:Int):∀pv∈cZ 2 ns ws kp,∃q:Nat,pv.1=(q:Int)/\q <cO 2:=by intro pv h;simp [cZ] at h;subst h;exact⟨0,Z,by decide⟩
theorem Zm (ns ws:List Int) (kp:Int):∀pv∈cZ 3 ns ws kp,∃q:Nat,pv.1=(q:Int)/\q <cO 3:=by
 intro pv h;simp [cZ] at h;rcases h with rfl | rfl
 ·exact⟨0,Z,by decide⟩
 ·exact⟨1,Z,by decide⟩
theorem aac (ns ws:List Int) (kp:Int):∀pv∈cZ 4 ns ws kp,∃q:Nat,pv.1=(q:Int)/\q <cO 4:=by intro pv h;simp [cZ] at h;subst h;exact⟨0,Z,by decide⟩
theorem ZD (ns ws:List Int) (kp:Int):∀pv∈cZ 5 ns ws kp,∃q:Nat,pv.1=(q:Int)/\q <cO 5:=by intro pv h;simp [cZ] at h;subst h;exact⟨0,Z,by decide⟩
theorem Zb (ns ws:List Int) (kp:Int):∀pv∈cZ 6 ns ws kp,∃q:Nat,pv.1=(q:Int)/\q <cO 6:=by intro pv h;simp [cZ] at h;subst h;exact⟨0,Z,by decide⟩
theorem ZF (ns ws:List Int) (kp:Int):∀pv∈cZ 7 ns ws kp,∃q:Nat,pv.1=(q:Int)/\q <cO 7:=by intro pv h;simp [cZ] at h;subst h;exact⟨0,Z,by decide⟩
theorem aai (ns ws:List Int) (kp:Int):∀pv∈cZ 8 ns ws kp,∃q:Nat,pv.1=(q:Int)/\q <cO 8:=by
 intro pv h;simp [cZ] at h;rcases h with rfl | rfl
 ·exact⟨0,Z,by decide⟩
 ·exact⟨1,Z,by decide⟩
theorem Zt (ns ws:List Int) (kp:Int):∀pv∈cZ 9 ns ws kp,∃q:Nat,pv.1=(q:Int)/\q <cO 9:=by intro pv h;simp [cZ] at h;subst h;exact⟨0,Z,by decide⟩
theorem Yg (ns ws:List Int) (kp:Int):∀pv∈cZ 10 ns ws kp,∃q:Nat,pv.1=(q:Int)/\q <cO 10:=by intro pv h;simp [cZ] at h;subst h;have h0:=emod_nonneg (g0 ws) (show(2:Int)≠0 by decide);have h1:=emod_lt_of_pos (g0 ws) (show(0:Int) <2 by decide);exact⟨(g0 ws % 2).toNat,by show g0 ws % 2=_;lia,by show(g0 ws % 2).toNat <2;lia⟩
theorem PN {i:Nat} (hi:i<=10) (ns ws:List Int) (kp:Int):∀pv∈cZ i ns ws kp,∃q:Nat,pv.1=(q:Int)/\q <cO i:=by
 match i,hi with
 | 0,_=>exact ZR ns ws kp
 | 1,_=>exact ZJ ns ws kp
 | 2,_=>exact Z7 ns ws kp
 | 3,_=>exact Zm ns ws kp
 | 4,_=>exact aac ns ws kp
 | 5,_=>exact ZD ns ws kp
 | 6,_=>exact Zb ns ws kp
 | 7,_=>exact ZF ns ws kp
 | 8,_=>exact aai ns ws kp
 | 9,_=>exact Zt ns ws kp
 | 10,_=>exact Yg ns ws kp
 | (n+11),z=>exact absurd z (by lia)
theorem Li (i:Nat) (ns ws:List Int) (kp:Int):(cZ i ns ws kp).length<=2:=match i with
 | 0=>by simp [cZ]
 | 1=>by simp [cZ]
 | 2=>by simp [cZ]
 | 3=>by simp [cZ]
 | 4=>by simp [cZ]
 | 5=>by simp [cZ]
 | 6=>by simp [cZ]
 | 7=>by simp [cZ]
 | 8=>by simp [cZ]
 | 9=>by simp [cZ]
 | n+10=>by simp [cZ]
noncomputable def nameAt (xs:List Str) (q:Nat):V:=V.str ((xs[q]?).getD Str.empty)
theorem Xp {H:Hp} {Q:VK} {Ex:XK} {f n E G Kp D Rw:Addr} {rd dd:List (Key×V)} {y:Str} (N:nC K t H f n E G Kp D Rw) (hR:H Rw=some (.dK rd)) (hD:H D=some (.dK dd))
  (k:(b7 rd (Sum.inr y)=none/\Q (.bl false) H)∨∃(l:Addr) (vs':List V) (g:Nat),b7 rd (Sum.inr y)=some (.ref l)/\b7 dd (Sum.inr y)=some (.int g)/\bK K H l vs'/\Q (.bl (decide (g=vs'.length))) H):eO K t [.ref f,.str y] H Q Ex:=by
 unfold eO;exact⟨f,n,E,G,Kp,D,Rw,rd,dd,y,Z,N,hR,hD,k⟩
theorem Zi {i:Nat} (h0:i≠0) (hi:i <11) (h9:i≠9):cV i=cI i:=by
 match i,h0,hi with
 | 1,_,_=>rfl
 | 2,_,_=>rfl
 | 3,_,_=>rfl
 | 4,_,_=>rfl
 | 5,_,_=>rfl
 | 6,_,_=>rfl
 | 7,_,_=>rfl
 | 8,_,_=>rfl
 | 9,_,_=>exact absurd rfl h9
 | 10,_,_=>rfl
theorem Vr {S:FS} {p:PD} (ok:vY p) (hl:jD p.kind p.ins (bJ S p)=.non):∀q∈places p.kind (bJ S p),∃x n,p.ins[q]?=some x/\(bJ S p)[q]?=some (.int n)/\(S.ev x)[S.g x]?=some n:=by
 have hO:=uP S p ok;have hf:(places p.kind (bJ S p)).find? (yJ (bJ S p))=none:=by
  cases hf:(places p.kind (bJ S p)).find? (yJ (bJ S p)) with
  | none=>rfl
  | some j=>
   unfold jD at hl;rw [hf] at hl;have hq:j <p.ins.length:=by have:=lC hO j (List.mem_of_find?_eq_some hf);unfold bJ at this;rwa [lM] at this
   simp only [getElem?_eq_getElem hq,map_some,getD_some] at hl;cases hl
 intro q hq;have h1:=find?_eq_none.mp hf q hq;have hlt:=lC hO q hq;have hlt':q <p.ins.length:=by unfold bJ at hlt;rwa [lM] at hlt
 have e:(bJ S p)[q]?=some (ql S p.ins[q]):=by unfold bJ;rw [getElem?_map,getElem?_eq_getElem hlt'];rfl
 refine⟨p.ins[q],?_⟩;unfold yJ at h1;rw [e] at h1 ⊢;unfold ql at h1 ⊢;cases h0:(S.ev p.ins[q])[S.g p.ins[q]]? with
 | none=>rw [h0] at h1;exact absurd (by simp) h1
 | some n=>exact⟨n,getElem?_eq_getElem hlt',by simp,rfl⟩
theorem Xq {b:Nat} {ls:List aJ} {ps:List PD} {S:FS} (F:Ma ls ps) (O:Mw b ls ps S) {p:PD} (hp:p∈ps) (hl:jD p.kind p.ins (bJ S p)=.non) (he:Kz S p=false):(HR S p).length=cV p.kind/\Y8 (HR S p)/\
  (p.kind≠0->(places p.kind (bJ S p)).map (λq=>((bJ S p)[q]?).getD .non)=(HR S p).map V.int)/\(p.kind=0->∃w,(S.r p.name)[S.d p.name]?=some w/\HR S p=[w]):=by
 have ok:=F.pok p hp;have hn:=Vr ok hl;by_cases h0:p.kind=0
 ·have hd:=O.dl p hp h0;have hlt:S.d p.name <(S.r p.name).length:=by
   unfold Kz at he;simp [h0] at he
   lia
  have e:=getElem?_eq_getElem hlt;have ew:HR S p=[(S.r p.name)[S.d p.name]]:=by unfold HR;rw [if_pos h0,e];rfl
  refine⟨by rw [ew,h0];rfl,λw hw=>?_,λz=>absurd h0 z,λ_=>⟨_,e,ew⟩⟩;rw [ew,mem_singleton] at hw;subst hw;exact O.rb p hp h0 _ (List.getElem_mem hlt)
 ·have ew:HR S p=(places p.kind (bJ S p)).map λq=>Xy (((bJ S p)[q]?).getD .non):=by unfold HR;rw [if_neg h0]
  refine⟨?_,λw hw=>?_,λ_=>?_,λz=>absurd z h0⟩
  ·rw [ew,lM];by_cases h9:p.kind=9
   ·have h3:=hn;unfold places at h3 ⊢;rw [if_pos h9] at h3 ⊢;split
    ·rw [h9];rfl
    ·rename_i hno;obtain⟨x,n,_,h3,_⟩:=h3 0 (by split <;> simp);cases hs:bJ S p with
     | nil=>rw [hs] at h3;cases h3
     | cons a r=>
      rw [hs] at h3;have:a=.int n:=by simpa using h3
      exact absurd (by rw [hs,this]) (hno n r)
   ·unfold places;rw [if_neg h9,length_range,(uP S p ok).1,Zi h0 ok.1 h9]
  ·rw [ew] at hw;obtain⟨q,hq,rfl⟩:=mem_map.mp hw;obtain⟨x,n,hx,h3,h4⟩:=hn q hq;rw [h3];show 0<=n/\n <1000000000;obtain⟨l,hll,rfl⟩:=F.inL hp (mem_append.mpr (.inl (mem_of_getElem? hx)));exact O.vb l hll n (mem_of_getElem? h4)
  ·rw [ew,map_map];refine map_congr_left λq hq=>?_;obtain⟨x,n,_,h3,_⟩:=hn q hq;show _=V.int (Xy _);rw [h3];rfl
theorem Oe {S:FS} {p:PD} (h:jD p.kind p.ins (bJ S p)≠.non):pJ S p=none:=by unfold pJ;rw [if_pos h]
theorem QQ {S:FS} {p:PD} (h:Kz S p=true):pJ S p=none:=by unfold pJ;split <;> simp [h]
inductive xP (K:Fr) (t:jr) (vs:List V) (H:Hp) (Q:VK) (E:XK):Prop where
 | mk:∀(b:Nat) (A:mU) (ls:List aJ) (ps:List PD) (S:FS) (x:Str),vs=[.ref A.f,.str x]->fV K t H A.n ls ps->dO K t H A ls ps S->(((∃p∈ps,p.name=x/\Mw b ls ps S/\(pJ S p=none->∀H',aK H H'->Q .non H')/\∀dd,pJ S p=some dd->∀H' U,aK H H'->H U=none->oH (A.cells ls ps) H' U dd->Q (.ref U) H')∨(x∉ps.map (·.name)/\∀dx H',aK H H'->H' dx=some (.xd [("name",.str x)])->E (.ref t.bG) (some dx) H')))->xP K t vs H Q E
@[irreducible] noncomputable def ik (K:Fr) (t:jr):Sp:=λvs H Q E=>xP K t vs H Q E
noncomputable abbrev qC:List Str:=["self", "name", "part", "heads", "places", "values", "answer", "given"]
theorem JD (T:Txt w K mg t):dR P w K mg base (sX P w) 5 t.qu (fdOf K t.qu) ["self", "name"] (ik K t):=by
 have sc:=T.qj.sc qC;refine T.qj.F.ok2 sc (λvs H Q E h=>?_) (λcdv A outer s H vs Q E hr h=>?_)
 ·unfold ik at h;obtain⟨b,A,ls,ps,S,x,rfl,_⟩:=h;rfl
 ·unfold ik at h;obtain⟨b,A,ls,ps,S,x,rfl,N,W,h⟩:=h;refine⟨_,(az (bQ (PW.pt (ww (jx (Di (d7 (pv 0) T.aO.c (T.kO.me T.aO.me.2.2.2.2.2.2.1) (CT T) (hr.mono (by decide)) T.kO.b .nil (sG λ_ _ _ h=>h) (aa (pv 1) ak aj)))) (pP (jL (Qp (pv 0) T.aO T.aO.me.2.2.2.2.1 (zc T) T.lF hr (aa (pv 1) ak aj))))))
    (aA (aN nQ))
    bz)
   (az (sN sc 2 (d7 (aW (pv 0) rfl) T.aX.c (T.cH.me T.aX.me.2.2.2.2.2.2.2.2.2.1) (iQ T) (hr.mono (by decide)) T.cH.b .nil (sG λ_ _ _ h=>h) (aa (pv 1) ak aj)))
   (az (sN sc 3 (Qp (pv 0) T.aO T.aO.me.2.2.2.2.2.1 (xR T) T.oY hr (aa (pv 2) ak aj)))
   (az (sN sc 4 (zO (CX:=GP) (k:=1) (E:=E0) (pv 2) (hr.mono (by decide)) gj (aa (pv 3) ak aj)))
   (az (jc (i:=5) [3] qC (aR (inClass (top 15) 9)) rfl sc.nd rfl (bT (pv 4)) (λ_ _ _ _ _=>fK) (λ_ _ _ _ _=>(aU (Lk (K:=K) rfl) (pv 1) (pv 0) (λ_ _=>rfl))))
   (az (dM (bQ (jx (Ad hr.u1 (pv 1) (aW (pv 0) rfl)))
    (aA (sN sc 5 (bc (aa (aU aV (cM hr.u1 (aW (pv 0) rfl) (pv 1) (λ_ _=>rfl)) (cM hr.u1 (aW (pv 0) rfl) (pv 1) (λ_ _=>rfl)) (λ_ _=>rfl)) ak aF))))
    bz))
   (az (sN sc 6 (zO (CX:=GP) (k:=2) (E:=E0) (pv 2) (hr.mono (by decide)) gj (aa (pv 5) (aa (cM hr.u1 (aW (pv 0) rfl) (pv 1) (λ_ _=>rfl)) ak aF) aj)))
   (az (Uj (i:=7) ["place", "value"] [2] qC (aR (inClass (top 15) 9)) rfl sc.nd rfl (bT (aU dI (pv 6) au (λ_ _=>rfl))) (λ_ _ _ _ _=>O4 (K:=K) (n:=2) rfl rfl (iw (wG (i:=0) (show(["place", "value", "part"]:List Str).Nodup by decide +kernel) rfl (Or.inl rfl) (.inr rfl)) (iw (wG (i:=1) (show(["place", "value", "part"]:List Str).Nodup by decide +kernel) rfl (Or.inl rfl) (.inr rfl)) wV))) (λ_ _ _ _ _=>fK) (λ_ _ _ _ _=>(b8 (aa (aU (fM (K:=K) rfl) (JP (K:=K) rfl (pv 2) rfl) (pv 0) (λ_ _=>rfl)) (aa (pv 1) ak aj) aF))))
   (aA (aN (b8 (aa (eE [2] qC (aR (inClass (top 15) 9)) rfl (bT (pv 4)) (λ_ _ _ _ _=>fK) (λ_ _ _ _ _=>(aU (fM (K:=K) rfl) (JP (K:=K) rfl (pv 1) rfl) (pv 0) (λ_ _=>rfl)))) (aa (pv 7) (aa (aU dI (pv 6) au (λ_ _=>rfl)) ak aF) aj) dZ)))))))))))),?_⟩
  rcases h with ⟨p,hp,rfl,O,kn,k⟩ | h
  ·obtain⟨dxn,fsn,R,F,Pd,Gn,Tk,FL,PL,Wn⟩:=id N;have F:=Wn.fit;obtain⟨dx,fs,h1,h2⟩:=id W.at'.ex;have ok:=F.pok p hp;have hO:=uP S p ok;have hI:=ok.2.2.1;have hh1:∀{H':Hp},aK H H'->(∀x∈p.ins,∃(l:Addr) (vs':List V) (g:Nat),b7 (Vf A.ea ls) (Sum.inr x)=some (.ref l)/\b7 (dm S.g ls) (Sum.inr x)=some (.int g)/\bK K H' l vs'/\ql S x=(vs'[g]?).getD .non):=λs x hx=>by obtain⟨l,hl,rfl⟩:=F.inL hp (mem_append.mpr (.inl hx));exact⟨A.ea l.name,_,S.g l.name,tY F.whole.nod hl,pB F.whole.nod hl,bK.of (s _ _ (W.lists l hl)),by unfold ql;rw [getElem?_map]⟩
   have hz:sizeLine=16777216:=sizeLine_eq;have hpl:(places p.kind (bJ S p)).length<=3:=places_len hO;refine⟨_,Z,A.f,dx,fs,Z,h1,h2.no _ (by decide +kernel),_,Z,A,ls,ps,S,p.name,Z,N,W,.inl ⟨p,hp,Z,λH1 s1=>?_⟩⟩;by_cases hlk:jD p.kind p.ins (bJ S p)≠.non
   ·have e:(!decide (jD p.kind p.ins (bJ S p)=V.non))=true:=by simp [hlk]
    refine⟨_,Z,?_⟩;rw [e];exact gm (gm (kn (Oe hlk) H1 s1))
   have hlk:=Classical.not_not.mp hlk;rw [hlk];have W1:=W.same s1;refine⟨_,Z,cj ⟨_,Z,A.f,dx,fs,Z,s1 _ _ h1,h2.no _ (by decide +kernel),_,Z,?_⟩⟩;have vd:=sV (k:=λx=>(S.d x:Int)) F.pnd hp;cases he:Kz S p with
   | true=>
    have h0:p.kind=0/\S.d p.name=(S.r p.name).length:=by unfold Kz at he;simpa using he
    refine Xp W1.at' W1.rows W1.done (.inr ⟨_,_,S.d p.name,yR F.pnd hp h0.1,vd,bK.of (W1.rlst p hp h0.1),?_⟩);rw [decide_eq_true (by rw [lM];exact h0.2)];exact⟨_,Z,gm (kn (QQ he) H1 s1)⟩
   | false=>
   obtain⟨lw,hB,hv,hw0⟩:=Xq F O hp hlk he;have k':=k _ (show pJ S p=some _ by unfold pJ;rw [if_neg (by simp [hlk]),if_neg (by simp [he])]);have hwl:=PN (show p.kind<=10 by have:=ok.1;lia) p.nums (HR S p) (S.k p.name);have hw2:=Li p.kind p.nums (HR S p) (S.k p.name);have pick:∀(Q':VK) (E':XK),Q' (.bl false) H1->eO K t [.ref A.f,.str p.name] H1 Q' E':=by
    intro Q' E' z;refine Xp W1.at' W1.rows W1.done ?_;by_cases h0:p.kind=0
    ·refine .inr ⟨_,_,S.d p.name,yR F.pnd hp h0,vd,bK.of (W1.rlst p hp h0),?_⟩;obtain⟨w,ew,_⟩:=hw0 h0;have:=(List.getElem?_eq_some_iff.mp ew).1;rw [decide_eq_false (by rw [lM];lia)];exact z
    ·exact .inl ⟨O5 F.pnd hp h0,z⟩
   refine pick _ _ ?_;clear pick;refine⟨_,Z,cj ?_⟩;have Wn1:=Wn.same s1;refine⟨_,Z,A.f,_,dx,fs,_,Z,s1 _ _ h1,T.aO.c,T.aO.na.1,h2.has ("net",.ref A.n) (by simp),A.n,dxn,fsn,Z,Wn1.obj,Wn1.fl.no _ (by decide +kernel),_,Z,A.n,ls,ps,p.name,Z,Wn1.s,.inl ⟨p,hp,Z,λH2 q s2' hP=>?_⟩⟩;have s2:=s1.trans s2';have W2:=W.same s2;obtain⟨dxp,tn,ti,to,p1,p2,p3,p4⟩:=id hP.ex;clear s2' W1 Wn1;refine⟨_,Z,A.f,dx,fs,Z,s2 _ _ h1,h2.no _ (by decide +kernel),_,Z,A.f,A.n,A.E,A.G,A.Kp,A.D,A.Rw,q,_,_,p.kind,_,_,_,p.ins,ql S,Z,W2.at',W2.ever,W2.gone,hP,(by have:=G9 p.kind;lia),hh1 s2,λd hd=>?_⟩;have s3':=aB (o:=.lst (bJ S p)) hd;have ed3:(upd H2 d (.lst (p.ins.map (ql S)))) d=some (.lst (bJ S p)):=aq;change aK H2 (upd H2 d (.lst (p.ins.map (ql S)))) at s3';generalize upd H2 d (.lst (p.ins.map (ql S)))=H3 at s3' ed3 ⊢;have s3:=s2.trans s3';refine⟨_,Z,q,cls t p.kind,dxp,_,o9 K t p.kind,Z,s3' _ _ p1,wO _ _ _ _ (by decide +kernel) (by decide +kernel) (by decide +kernel) (by decide +kernel),Ii T p.kind,_,Z,q,d,_,_,_,_,bJ S p,Z,hP.same s3',by rw [lM];exact hI,bK.of ed3,hO,λH4 L s4' nL eL=>?_⟩;have s24:=s3'.trans s4';have s4:=s3.trans s4';have ed4:=s4' _ _ ed3;refine⟨_,rfl,L,rfl,⟨_,bK.of eL⟩,fu (K:=K) (a:=L) (xs:=(places p.kind (bJ S p)).map nV) (λj ys H'=>H'=H4/\ys=((places p.kind (bJ S p)).take j).map (λq=>((bJ S p)[q]?).getD .non)) (by rw [lM];lia) ⟨rfl,rfl⟩ (λj ys H' ⟨_,e⟩=>by rw [e,lM,length_take];lia) (λj ys H' _ ⟨e,_⟩=>by rw [e];exact bK.of eL) ?_ ?_⟩
   ·rintro j v ys H' hv' ⟨e',rfl⟩;subst e';rw [getElem?_map] at hv';obtain⟨r,hr',rfl⟩:=map_eq_some_iff.mp hv';have hql:r <(bJ S p).length:=lC hO r (mem_of_getElem? hr');refine yes ⟨_,Z,_,Z,d,bJ S p,r,_,Z,Z,bK.of ed4,aM (j:=r) (getElem?_eq_getElem hql),Z,?_⟩;rw [take_succ,hr',toList_some,map_append,map_cons,map_nil,getElem?_eq_getElem hql];rfl
   rintro ys H' ⟨e',rfl⟩ V1 hV1;subst e';rw [lM,take_length];have s5':=aB (o:=.lst ((places p.kind (bJ S p)).map λq=>((bJ S p)[q]?).getD .non)) hV1;have eV:(upd H' V1 (.lst ((places p.kind (bJ S p)).map λq=>((bJ S p)[q]?).getD .non))) V1=some (.lst ((places p.kind (bJ S p)).map λq=>((bJ S p)[q]?).getD .non)):=aq;generalize upd H' V1 (.lst ((places p.kind (bJ S p)).map λq=>((bJ S p)[q]?).getD .non))=H5 at s5' eV ⊢;have s25:=s24.trans s5';have s5:=s4.trans s5';have W5:=W.same s5;refine⟨λσ' H6=>∃V2,aK H H6/\aK H2 H6/\aK H' H6/\σ'=[some (.ref A.f),some (.str p.name),some (.ref q),some (.ref d),some (.ref L),some (.ref V2),none,none]/\H6 V2=some (.lst ((HR S p).map V.int)),?_,?_⟩
   ·refine⟨_,Z,_,Z,A.f,_,dx,fs,_,Z,s5 _ _ h1,T.aO.c,T.aO.na.2.2.2.2.2.1,h2.has ("rows",.ref A.Rw) (by simp),A.Rw,_,Z,d8.k (k:=Sum.inr p.name) W5.rows,?_⟩;by_cases h0:p.kind=0
    ·obtain⟨w,ew,eW⟩:=hw0 h0;have v1:=yR (ra:=A.ra) F.pnd hp h0;rw [v1,eW];refine⟨_,Z,gm ?_⟩;refine⟨_,Z,A.f,_,dx,fs,_,Z,s5 _ _ h1,T.aO.c,T.aO.na.2.2.2.2.2.1,h2.has ("rows",.ref A.Rw) (by simp),_,Z,A.Rw,_,Z,(by rw [<-v1];exact d8.k (k:=Sum.inr p.name) W5.rows),?_⟩;refine⟨_,Z,A.f,_,dx,fs,_,Z,s5 _ _ h1,T.aO.c,T.aO.na.2.2.2.2.1,h2.has ("done",.ref A.D) (by simp),_,Z,A.D,_,Z,(by rw [<-vd];exact d8.k (k:=Sum.inr p.name) W5.done),?_⟩;refine⟨A.ra p.name,_,S.d p.name,_,rfl,rfl,bK.of (W5.rlst p hp h0),aM (j:=S.d p.name) (by rw [getElem?_map,ew];rfl),by show 1<=sizeLine;lia,λV2 hV2=>?_⟩;exact⟨V2,s5.trans (aB hV2),s25.trans (aB hV2),s5'.trans (aB hV2),Z,aq⟩
    ·rw [O5 F.pnd hp h0];exact⟨_,Z,cj ⟨V1,s5,s25,s5',Z,by rw [<-hv h0];exact eV⟩⟩
   rintro σ' H6 ⟨V2,s6,s26,s46,rfl,eV2⟩;clear W5 W2 s25 s24 s5 s5' s4 s3 s3' eV ed4 ed3;have W6:=W.same s6;have hkp:=sV (k:=S.k) F.pnd hp;refine⟨_,Z,q,cls t p.kind,dxp,_,eQ K t p.kind,Z,s26 _ _ p1,wO _ _ _ _ (by decide +kernel) (by decide +kernel) (by decide +kernel) (by decide +kernel),QS T ok.1,_,Z,_,Z,A.f,_,dx,fs,_,Z,s6 _ _ h1,T.aO.c,T.aO.na.2.2.2.1,h2.has ("kept",.ref A.Kp) (by simp),_,Z,A.Kp,_,Z,(by rw [<-hkp];exact d8.k (k:=Sum.inr p.name) W6.kept),?_⟩;refine⟨q,V2,_,p.nums,_,_,HR S p,S.k p.name,Z,hP.same s26,ok.2.1,bK.of eV2,lw,hB,λH7 U0 L0 rs s7 nL0 eU0 eL0 tU=>?_⟩;have s57:=s6.trans s7;have s27:=s26.trans s7;have eL7:=s7 _ _ (s46 _ _ eL);have hlr:rs.length=(cZ p.kind p.nums (HR S p) (S.k p.name)).length:=by have:=Paired.length tU;unfold Kh at this;rw [lM] at this;exact this
   clear W6;refine⟨_,Z,U0,_,0,_,Z,Z,gq.of eU0,aM (j:=0) Z,L0,Z,⟨_,bK.of eL0⟩,?_⟩;refine Ge (K:=K) (a:=L0) (xs:=rs.map V.ref) (λj ys H8=>aK H7 H8/\∃qs:List Addr,ys=qs.map V.ref/\jA H8 qs (((cZ p.kind p.nums (HR S p) (S.k p.name)).take j).map λpv=>[.str (strAt p.outs pv.1.toNat),.int pv.2])) (by rw [lM];lia) ⟨aK.refl _,[],rfl,.nil⟩ ?_ (λj ys H8 _ ⟨e,_⟩=>e.seq (bK.of eL0)) ?_ ?_
   ·rintro j ys H8 ⟨_,qs,rfl,tq⟩;have:=Paired.length tq;rw [lM,length_take] at this;rw [lM]
    lia
   ·rintro j v ys H8 hj ⟨s8,qs,rfl,tq⟩;rw [getElem?_map] at hj;obtain⟨r,hr',rfl⟩:=map_eq_some_iff.mp hj;have hjl:j <(cZ p.kind p.nums (HR S p) (S.k p.name)).length:=by have:=(List.getElem?_eq_some_iff.mp hr').1;lia
    obtain⟨pv,hpv⟩:∃pv,(cZ p.kind p.nums (HR S p) (S.k p.name))[j]?=some pv:=⟨_,getElem?_eq_getElem hjl⟩;have hr2:H7 r=some (.tup [.int pv.1,.int pv.2]):=by obtain⟨vs2,z1,z2⟩:=zy tU hr';unfold Kh at z1;rw [getElem?_map,hpv] at z1;cases z1;exact z2
    obtain⟨o,ho1,ho2⟩:=hwl _ (mem_of_getElem? hpv);have ho3:o <p.outs.length:=by rw [ok.2.2.2.1];exact ho2
    have hn:strAt p.outs o=p.outs[o]:=by unfold strAt;rw [getElem?_eq_getElem ho3];rfl
    refine⟨r,_,Z,gq.of (s8 _ _ hr2),Z,_,_,Z,_,_,Z,Z,Z,?_⟩;refine yes ⟨_,Z,q,_,dxp,_,_,Z,s8 _ _ (s27 _ _ p1),iD T p.kind,Jl T p.kind,HN _ _ _ _,_,Z,to,p.outs.map V.str,_,.str (strAt p.outs o),Z,Z,s8.seqT (s27.seqT p4),?_,_,Z,by show 2<=sizeLine;lia,λu hu=>⟨s8.trans (aB hu),qs ++ [u],by simp,?_⟩⟩
    ·rw [ho1,hn];exact aM (j:=o) (by rw [getElem?_map,getElem?_eq_getElem ho3];rfl)
    ·rw [take_succ,hpv,toList_some,map_append];refine(jA.same (aB hu) tq).append (.cons ?_ .nil);show upd H8 u _ u=some (HO.tup [V.str (strAt p.outs pv.1.toNat),V.int pv.2]);rw [ho1,toNat_natCast];exact aq
   rintro ys H8 ⟨s8,qs,rfl,tq⟩ Lg hLg;rw [lM,hlr,take_length] at tq;have t9:=aB (o:=.lst (qs.map V.ref)) hLg;have s9':=s8.trans t9;have tq9:=jA.same t9 tq;have eLg:(upd H8 Lg (.lst (qs.map V.ref))) Lg=some (.lst (qs.map V.ref)):=aq;generalize upd H8 Lg (.lst (qs.map V.ref))=H9 at t9 s9' tq9 eLg ⊢;have s9:=s57.trans s9';have s29:=s27.trans s9';have eL9:=s9' _ _ eL7;have eU9:=s9' _ _ eU0;refine⟨_,rfl,L,rfl,⟨_,bK.of eL9⟩,fu (K:=K) (a:=L) (xs:=(places p.kind (bJ S p)).map nV) (λj ys H'=>H'=H9/\ys=((places p.kind (bJ S p)).take j).map (λq=>V.str (strAt p.ins q))) (by rw [lM];lia) ⟨rfl,rfl⟩ (λj ys H' ⟨_,e⟩=>by rw [e,lM,length_take];lia) (λj ys H' _ ⟨e,_⟩=>by rw [e];exact bK.of eL9) ?_ ?_⟩
   ·rintro j v ys HX hv' ⟨e',rfl⟩;subst e';rw [getElem?_map] at hv';obtain⟨r,hr',rfl⟩:=map_eq_some_iff.mp hv';have hql:r <p.ins.length:=by have:=lC hO r (mem_of_getElem? hr');unfold bJ at this;rwa [lM] at this
    have hn:strAt p.ins r=p.ins[r]:=by unfold strAt;rw [getElem?_eq_getElem hql];rfl
    refine yes ⟨_,rfl,q,_,dxp,_,_,rfl,s29 _ _ p1,iD T p.kind,yf T p.kind,rP _ _ _ _,_,rfl,ti,p.ins.map V.str,r,.str (strAt p.ins r),rfl,rfl,s29.seqT p3,by rw [hn];exact aM (j:=r) (by rw [getElem?_map,getElem?_eq_getElem hql];rfl),rfl,?_⟩;rw [take_succ,hr',toList_some,map_append];rfl
   rintro ys H10 ⟨e',rfl⟩ La hLa;subst e';rw [lM,take_length];have s10':=aB (o:=.lst ((places p.kind (bJ S p)).map λq=>V.str (strAt p.ins q))) hLa;refine⟨_,Z,_,Z,U0,_,1,_,Z,Z,gq.of (s10' _ _ eU9),aM (j:=1) Z,by show 3<=sizeLine;lia,λU hU=>?_⟩;refine k' _ U ((s9.trans s10').trans (aB hU)) ((s9.trans s10').free hU) ⟨La,Lg,qs,aq,?_,aB hU _ _ (s10' _ _ eLg),?_,W.cell (s9.free hLa),W.cell ((s57.trans s8).free hLg)⟩
   ·rw [map_map];exact aB hU _ _ aq
   ·rw [map_map];exact jA.same (s10'.trans (aB hU)) tq9
  ·obtain⟨dx,fs,h1,h2⟩:=id W.at'.ex;exact⟨_,Z,A.f,dx,fs,Z,h1,h2.no _ (by decide +kernel),_,Z,A,ls,ps,S,x,Z,N,W,.inr h⟩
theorem Qm (g:Str->Nat) {ls:List aJ} {x:Str} (hx:x∈ls.map (·.name)) (v:Nat):putK (dm g ls) (Sum.inr x) (.int (v:Nat))=dm (λy=>if y=x then v else g y) ls:=by
 unfold putK;rw [if_pos (by obtain⟨l,hl,rfl⟩:=mem_map.mp hx;exact any_eq_true.mpr ⟨_,mem_map.mpr ⟨l,hl,Z⟩,by simp⟩)]
 unfold dm;rw [map_map];refine map_congr_left λl _=>?_;by_cases h:l.name=x
 ·simp [h]
 ·simp [h]
theorem Hq (g:Str->Int) {ps:List PD} {x:Str} (hx:x∈ps.map (·.name)) (v:Int):putK (cu g ps) (Sum.inr x) (.int v)=cu (λy=>if y=x then v else g y) ps:=by
 unfold putK;rw [if_pos (by obtain⟨l,hl,rfl⟩:=mem_map.mp hx;exact any_eq_true.mpr ⟨_,mem_map.mpr ⟨l,hl,Z⟩,by simp⟩)]
 unfold cu;rw [map_map];refine map_congr_left λl _=>?_;by_cases h:l.name=x
 ·simp [h]
 ·simp [h]
noncomputable def Gs (S:FS) (x:Str) (dd:mQ):FS:=⟨λy=>S.ev y ++ (dd.gv.filter λq=>decide (q.1=y)).map (·.2),λy=>if y∈dd.tk then S.g y+1 else S.g y,λy=>if y=x then dd.kv else S.k y,λy=>if y=x then S.d y+1 else S.d y,S.r⟩
noncomputable def GF (M:List Addr) (H H':Hp):Prop:=∀b,b∉M->H' b=H b
structure J5 (ls:List aJ) (dd:mQ):Prop where
 ntk:dd.tk.Nodup
 tin:∀x∈dd.tk,x∈ls.map (·.name)
 gin:∀q∈dd.gv,q.1∈ls.map (·.name)
 g2:dd.gv.length<=2
inductive BZ (K:Fr) (t:jr) (vs:List V) (H:Hp) (Q:VK):Prop where
 | mk:∀(b:Nat) (A:mU) (ls:List aJ) (ps:List PD) (S:FS) (p:PD) (U:Addr) (dd:mQ),vs=[.ref A.f,.str p.name,.ref U]->Ma ls ps->dO K t H A ls ps S->p∈ps->((∀l∈ls,(S.ev l.name).length<=b))->b<=100000->oH (A.cells ls ps) H U dd->J5 ls dd->(∀H',GF (A.cells ls ps) H H'->dO K t H' A ls ps (Gs S p.name dd)->Q .non H')->BZ K t vs H Q
@[irreducible] noncomputable def pZ (K:Fr) (t:jr):Sp:=λvs H Q _=>BZ K t vs H Q
theorem N6 (T:Txt w K mg t):FO P w K mg base 1 t.Av ["self", "name", "deed"] (pZ K t):=by
 have sc:=T.Be.sc ["self", "name", "deed", "lane", "value"];refine T.Be.F.ok sc (λvs H Q E h=>?_) (λcdv A outer s H vs Q E hr h=>?_)
 ·unfold pZ at h;obtain⟨b,A,ls,ps,S,p,U,dd,rfl,_⟩:=h;rfl
 ·unfold pZ at h;obtain⟨b,A,ls,ps,S,p,U,dd,rfl,F,W,hp,O,hb,⟨La,Lg,rs,hU,hLa,hLg,hT,na,ng⟩,⟨ntk,hin,hout,hg2⟩,k⟩:=h;refine⟨_,(az (fC PassesOwn.never Z (bT (aU dI (pv 2) au (λ_ _=>Z))) (gN sc 3)
    (aA (Qh hr.u1 (aW (pv 0) rfl) (pv 3) au Kd (λ_ _ _=>rfl))))
   (az (fC PassesOwn.never rfl (bT (aU dI (pv 2) au (λ_ _=>rfl))) (Gp rfl (iw (gN sc 3) (iw (gN sc 4) wV)))
    (aA (bw (NT (cM hr.u1 (aW (pv 0) rfl) (pv 3) (λ_ _=>rfl)) (aa (pv 4) ak aj)))))
   (az (jj hr.u1 (aW (pv 0) rfl) (pv 1) (aU dI (pv 2) au (λ_ _=>rfl)) rfl)
   (aA (Qh hr.u1 (aW (pv 0) rfl) (pv 1) au Kd (λ_ _ _=>rfl)))))),?_⟩
  have hl:sizeLine=16777216:=sizeLine_eq;have l24:=F.l24;have p16:=F.p16;obtain⟨dx,fs,h1,h2⟩:=id W.at'.ex;have hG:=W.gone;have hn:=W.nod;unfold mU.cells at hn na ng;simp only [nodup_cons,mem_cons,mem_append,not_or] at hn na ng;obtain⟨⟨nEG,nEK,nED,nER,nEE,nE2⟩,⟨nGK,nGD,nGR,nGE,nG2⟩,⟨nKD,nKR,nKE,nK2⟩,⟨nDR,nDE,nD2⟩,⟨nRE,nR2⟩,nA⟩:=hn;obtain⟨nE1,nR1,nER1⟩:=nodup_append.mp nA;refine⟨_,Z,U,_,0,_,Z,Z,gq.of hU,aM (j:=0) Z,La,Z,⟨_,bK.of hLa⟩,fG (K:=K) (a:=La) (xs:=dd.tk.map V.str) (λj σ H'=>H'=upd H A.G (.dK (dm (λx=>if x∈dd.tk.take j then S.g x+1 else S.g x) ls))/\∃v3,σ=[some (.ref A.f),some (.str p.name),some (.ref U),v3,none]) ⟨?_,none,Z⟩ ?_ ?_ ?_⟩
  ·have:dm (λx=>if x∈dd.tk.take 0 then S.g x+1 else S.g x) ls=dm S.g ls:=by simp
   rw [this,Ka hG]
  ·rintro j σ H' _ ⟨rfl,_⟩;exact bK.of (lA hG hLa (by intro _ z;cases z))
  ·rintro j x σ H' hx ⟨rfl,v3,rfl⟩;rw [getElem?_map] at hx;obtain⟨y,hy,rfl⟩:=map_eq_some_iff.mp hx;have hym:=hin y (mem_of_getElem? hy);have nin:y∉dd.tk.take j:=by have:=pH (f:=id) (xs:=dd.tk) (by rw [List.map_id];exact ntk) hy;rwa [List.map_id] at this
   have vg:b7 (dm (λx=>if x∈dd.tk.take j then S.g x+1 else S.g x) ls) (Sum.inr y)=some (.int ((S.g y:Nat):Int)):=by obtain⟨l,hl',rfl⟩:=mem_map.mp hym;rw [pB F.whole.nod hl',if_neg nin]
   refine⟨_,rfl,A.f,_,dx,fs,_,rfl,lA hG h1 (by intro _ z;cases z),T.aO.c,T.aO.na.2.2.1,h2.has ("gone",.ref A.G) (by simp),_,rfl,A.G,.int ((S.g y:Nat):Int),rfl,(by rw [<-vg];exact d8.k (k:=Sum.inr y) aq),_,_,rfl,rfl,_,sO.k (k:=Sum.inr y) aq (by unfold dm;rw [lM];lia),?_,_,rfl⟩;rw [tV];show upd H A.G (.dK (putK _ (Sum.inr y) (.int ((S.g y+1:Nat):Int))))=_;rw [Qm _ hym (S.g y+1)];have:(λz=>if z=y then S.g y+1 else if z∈dd.tk.take j then S.g z+1 else S.g z)=λz=>if z∈dd.tk.take (j+1) then S.g z+1 else S.g z:=by
    funext z
    simp only [take_succ,hy,toList_some,mem_append,mem_singleton];by_cases h3:z=y <;> by_cases h4:z∈dd.tk.take j <;> simp [h3,h4]
   rw [this]
  rintro σ H' ⟨rfl,v3,rfl⟩;rw [lM,take_length];have m1:GF [A.G] H (upd H A.G (.dK (dm (Gs S p.name dd).g ls))):=λb hb=>aG (by simpa using hb);have gG:upd H A.G (.dK (dm (Gs S p.name dd).g ls)) A.G=some (.dK (dm (Gs S p.name dd).g ls)):=aq;change yF _ _ _ _ (upd H A.G (.dK (dm (Gs S p.name dd).g ls)));generalize upd H A.G (.dK (dm (Gs S p.name dd).g ls))=H1 at m1 gG ⊢;have g1:∀{b:Addr} {u:HO},H b=some u->(∀ks,u≠.dK ks)->H1 b=some u:=λ{b u} h hu=>by rw [m1 b (by rw [mem_singleton];rintro rfl;rw [hG] at h;exact hu _ (Option.some.inj h).symm)];exact h
  have hlr:rs.length=dd.gv.length:=by have:=Paired.length hT;rw [lM] at this;exact this
  have eE1:H1 A.E=some (.dK (Vf A.ea ls)):=by rw [m1 A.E (by simpa using nEG)];exact W.ever
  have lists1:∀l∈ls,H1 (A.ea l.name)=some (.lst ((S.ev l.name).map V.int)):=λl hl=>g1 (W.lists l hl) (by intro _ z;cases z);have nM:∀{b:Addr} {u:HO},H1 b=some u->(∀ks,u≠.lst ks)->b∉ls.map (λl=>A.ea l.name):=λ{b u} h hu hm=>by obtain⟨l,hl,rfl⟩:=mem_map.mp hm;rw [lists1 l hl] at h;exact hu _ (Option.some.inj h).symm
  refine⟨_,rfl,U,_,1,_,rfl,rfl,gq.of (g1 hU (by intro _ z;cases z)),aM (j:=1) rfl,Lg,rfl,⟨_,bK.of (g1 hLg (by intro _ z;cases z))⟩,fG (K:=K) (a:=Lg) (xs:=rs.map V.ref) (λj σ H'=>(GF (ls.map (λl=>A.ea l.name)) H1 H'/\∀l∈ls,H' (A.ea l.name)=some (.lst ((S.ev l.name ++ ((dd.gv.take j).filter λq=>decide (q.1=l.name)).map (·.2)).map V.int)))/\∃v3 v4,σ=[some (.ref A.f),some (.str p.name),some (.ref U),v3,v4]) ⟨⟨λ_ _=>rfl,λl hl=>?_⟩,v3,none,rfl⟩ ?_ ?_ ?_⟩
  ·rw [lists1 l hl];simp
  ·rintro j σ H' _ ⟨⟨m2,_⟩,_⟩;exact bK.of (by rw [m2 Lg ng.2.2.2.2.2.1];exact g1 hLg (by intro _ z;cases z))
  ·rintro j x σ H' hx ⟨⟨m2,l2⟩,v3,v4,rfl⟩;rw [getElem?_map] at hx;obtain⟨r,hr',rfl⟩:=map_eq_some_iff.mp hx;obtain⟨vs2,z1,z2⟩:=zy hT hr';rw [getElem?_map] at z1;obtain⟨w,ew,rfl⟩:=map_eq_some_iff.mp z1;have hj:=(List.getElem?_eq_some_iff.mp ew).1;have er:=g1 z2 (by intro _ z;cases z);have er':H' r=some (.tup [.str w.1,.int w.2]):=by rw [m2 r (nM er (by intro _ z;cases z))];exact er
   have fe:H' A.f=some (.ins t.cg dx fs):=by have e1:=g1 h1 (by intro _ z;cases z);rw [m2 A.f (nM e1 (by intro _ z;cases z))];exact e1
   have ee:H' A.E=some (.dK (Vf A.ea ls)):=by rw [m2 A.E nEE];exact eE1
   obtain⟨l,hl',hln⟩:=mem_map.mp (hout w (mem_of_getElem? ew));have va:=tY (ea:=A.ea) F.whole.nod hl';have ea:=l2 _ hl';rw [hln] at va;refine⟨r,_,Z,gq.of er',Z,_,_,Z,_,_,Z,Z,?_⟩;refine⟨_,rfl,A.f,_,dx,fs,_,rfl,fe,T.aO.c,T.aO.na.2.1,h2.has ("ever",.ref A.E) (by simp),_,rfl,A.E,.ref (A.ea w.1),rfl,(by rw [<-va];exact d8.k (k:=Sum.inr w.1) ee),.inl ⟨rfl,_,bK.of (by rw [<-hln];exact ea)⟩,?_⟩;refine⟨_,rfl,A.ea w.1,_,.int w.2,rfl,rfl,by rw [<-hln];exact ea,?_,⟨λb hb=>?_,λl1 hl1=>?_⟩,some (.str w.1),some (.int w.2),rfl⟩
   ·have h3:=O l hl';have h4:=length_filter_le (λq:Str×Int=>decide (q.1=l.name)) (dd.gv.take j);rw [length_take] at h4;rw [lM,lP,lM]
    lia
   ·rw [aG (λz=>hb (by rw [z,<-hln];exact mem_map.mpr ⟨l,hl',rfl⟩))];exact m2 b hb
   ·rw [take_succ,ew,toList_some,filter_append,map_append];by_cases h:w.1=l1.name
    ·have e:l1=l:=by have a1:=find_name F.whole.nod hl1;have a2:=find_name F.whole.nod hl';rw [<-h,<-hln,a2] at a1;exact(Option.some.inj a1).symm
     subst e;rw [<-hln,aq];simp [h]
    ·have hne:A.ea l1.name≠A.ea w.1:=λz=>by rw [<-hln] at z;have:=Od nE1 hl1 hl' z;exact h (by rw [this,hln])
     rw [aG hne,l2 l1 hl1];simp [h]
  rintro σ H2 ⟨⟨m2,l2⟩,v5,v6,rfl⟩;rw [lM,hlr,take_length] at l2;have fe:H2 A.f=some (.ins t.cg dx fs):=by have e1:=g1 h1 (by intro _ z;cases z);rw [m2 A.f (nM e1 (by intro _ z;cases z))];exact e1
  have uE:H2 U=some (.tup [.ref La,.ref Lg,.int dd.kv]):=by have e1:=g1 hU (by intro _ z;cases z);rw [m2 U (nM e1 (by intro _ z;cases z))];exact e1
  have kE:H2 A.Kp=some (.dK (cu S.k ps)):=by rw [m2 A.Kp nKE,m1 A.Kp (by simpa using Ne.symm nGK)];exact W.kept
  have dE:H2 A.D=some (.dK (cu (λx=>(S.d x:Int)) ps)):=by rw [m2 A.D nDE,m1 A.D (by simpa using Ne.symm nGD)];exact W.done
  have lk:∀k1:Str->Int,(cu k1 ps).length <sizeLine:=λk1=>by unfold cu;rw [lM];lia
  have hpn:p.name∈ps.map (·.name):=mem_map.mpr ⟨p,hp,rfl⟩;refine⟨_,Z,U,_,2,_,Z,Z,gq.of uE,aM (j:=2) Z,_,Z,A.f,_,dx,fs,_,Z,fe,T.aO.c,T.aO.na.2.2.2.1,h2.has ("kept",.ref A.Kp) (by simp),_,Z,A.Kp,_,Z,sO.k (k:=Sum.inr p.name) kE (lk _),?_⟩;rw [Hq S.k hpn];have m3:GF [A.Kp] H2 (upd H2 A.Kp (.dK (cu (λy=>if y=p.name then dd.kv else S.k y) ps))):=λb hb=>aG (by simpa using hb);have kE3:upd H2 A.Kp (.dK (cu (λy=>if y=p.name then dd.kv else S.k y) ps)) A.Kp=some (.dK (cu (λy=>if y=p.name then dd.kv else S.k y) ps)):=aq;generalize upd H2 A.Kp (.dK (cu (λy=>if y=p.name then dd.kv else S.k y) ps))=H3 at m3 kE3 ⊢;have fe3:H3 A.f=some (.ins t.cg dx fs):=by rw [m3 A.f (by simpa using xm fe kE (by intro z;cases z))];exact fe
  have dE3:H3 A.D=some (.dK (cu (λx=>(S.d x:Int)) ps)):=by rw [m3 A.D (by simpa using Ne.symm nKD)];exact dE
  have vd:=sV (k:=λx=>(S.d x:Int)) F.pnd hp;refine⟨_,rfl,A.f,_,dx,fs,_,rfl,fe3,T.aO.c,T.aO.na.2.2.2.2.1,h2.has ("done",.ref A.D) (by simp),_,rfl,A.D,.int (S.d p.name:Int),rfl,(by rw [<-vd];exact d8.k (k:=Sum.inr p.name) dE3),_,_,rfl,rfl,_,sO.k (k:=Sum.inr p.name) dE3 (lk _),?_⟩;rw [Hq (λx=>(S.d x:Int)) hpn];have eD:(λy=>if y=p.name then(S.d p.name:Int)+1 else(S.d y:Int))=λx=>(((Gs S p.name dd).d x:Nat):Int):=by
   funext y
   unfold Gs;by_cases h:y=p.name
   ·subst h;simp
   ·simp [h]
  change Q .non (upd H3 A.D (.dK (cu (λy=>if y=p.name then(S.d p.name:Int)+1 else(S.d y:Int)) ps)));rw [eD];have m4:GF [A.D] H3 (upd H3 A.D (.dK (cu (λx=>(((Gs S p.name dd).d x:Nat):Int)) ps))):=λb hb=>aG (by simpa using hb);have dE4:upd H3 A.D (.dK (cu (λx=>(((Gs S p.name dd).d x:Nat):Int)) ps)) A.D=some (.dK (cu (λx=>(((Gs S p.name dd).d x:Nat):Int)) ps)):=aq;generalize upd H3 A.D (.dK (cu (λx=>(((Gs S p.name dd).d x:Nat):Int)) ps))=H4 at m4 dE4 ⊢;have mv:∀b,b≠A.D->b≠A.Kp->H4 b=H2 b:=λb a1 a2=>by rw [m4 b (by simpa using a1),m3 b (by simpa using a2)]
  have fe4:H4 A.f=some (.ins t.cg dx fs):=by rw [m4 A.f (by simpa using xm fe3 dE3 (by intro z;cases z))];exact fe3
  refine k H4 (λb hb=>?_) ⟨⟨dx,fs,fe4,h2⟩,?_,?_,?_,?_,dE4,?_,?_,W.nod⟩
  ·unfold mU.cells at hb;simp only [mem_cons,mem_append,not_or] at hb;rw [mv b hb.2.2.2.1 hb.2.2.1,m2 b hb.2.2.2.2.2.1,m1 b (by simpa using hb.2.1)]
  ·rw [mv A.E nED nEK,m2 A.E nEE,eE1]
  ·intro l hl;have a2:=l2 l hl;rw [mv _ (xm a2 dE (by intro z;cases z)) (xm a2 kE (by intro z;cases z))];exact a2
  ·rw [mv A.G nGD nGK,m2 A.G nGE,gG]
  ·rw [m4 A.Kp (by simpa using nKD)];exact kE3
  ·rw [mv A.Rw (Ne.symm nDR) (Ne.symm nKR),m2 A.Rw nRE,m1 A.Rw (by simpa using Ne.symm nGR)];exact W.rows
  ·intro p' hp' h0;have hm:A.ra p'.name∈(jM ps).map (λp=>A.ra p.name):=mem_map.mpr ⟨p',mem_filter.mpr ⟨hp',by simp [h0]⟩,rfl⟩;rw [mv _ (λz=>nD2 (by rw [<-z];exact hm)) (λz=>nK2 (by rw [<-z];exact hm)),m2 _ (λz=>nER1 _ z _ hm rfl),m1 _ (by simpa using λz=>nG2 (by rw [<-z];exact hm))];exact W.rlst p' hp' h0
theorem Sx (T:Txt w K mg t) (i:Nat):MethAt P w K mg base GP 1 (cls t i) "start" (vz K t i):=match i with
 | 0=>⟨_,_,_,T.jh.c,(T.bI.me T.jh.me.2.2.2.2.2.1),T.bI.b,(dC T).imp λ_ _ _ _ h=>⟨_,by lia,h⟩⟩
 | 1=>⟨_,_,_,T.iY.c,(T.bI.me T.iY.me.2.2.2.2.2.1),T.bI.b,(dC T).imp λ_ _ _ _ h=>⟨_,by lia,h⟩⟩
 | 2=>⟨_,_,_,T.iR.c,(T.bI.me T.iR.me.2.2.2.2.2.1),T.bI.b,(dC T).imp λ_ _ _ _ h=>⟨_,by lia,h⟩⟩
 | 3=>⟨_,_,_,T.je.c,(T.bI.me T.je.me.2.2.2.2.2.1),T.bI.b,(dC T).imp λ_ _ _ _ h=>⟨_,by lia,h⟩⟩
 | 4=>⟨_,_,_,T.jg.c,(T.bI.me T.jg.me.2.2.2.2.2.1),T.bI.b,(dC T).imp λ_ _ _ _ h=>⟨_,by lia,h⟩⟩
 | 5=>⟨_,_,_,T.iZ.c,(T.oR.me T.iZ.me.2.2.2.2.2.1),T.oR.b,Gu T⟩
 | 6=>⟨_,_,_,T.mJ.c,(T.bI.me T.mJ.me.2.2.2.2.2.1),T.bI.b,(dC T).imp λ_ _ _ _ h=>⟨_,by lia,h⟩⟩
 | 7=>⟨_,_,_,T.jf.c,(T.bI.me T.jf.me.2.2.2.2.2.1),T.bI.b,(dC T).imp λ_ _ _ _ h=>⟨_,by lia,h⟩⟩
 | 8=>⟨_,_,_,T.fZ.c,(T.bI.me T.fZ.me.2.2.2.2.2.1),T.bI.b,(dC T).imp λ_ _ _ _ h=>⟨_,by lia,h⟩⟩
 | 9=>⟨_,_,_,T.d9.c,(T.bI.me T.d9.me.2.2.2.2.2.1),T.bI.b,(dC T).imp λ_ _ _ _ h=>⟨_,by lia,h⟩⟩
 | n+10=>⟨_,_,_,T.fW.c,(T.bI.me T.fW.me.2.2.2.2.2.1),T.bI.b,(dC T).imp λ_ _ _ _ h=>⟨_,by lia,h⟩⟩
theorem Vk:∀i,i <11->cL i= "give" ->i=0:=by decide +kernel
theorem Q3 (p:PD) (h:vY p):JF p.kind (p.nums.map V.int)=.int (J3 p):=by
 unfold JF J3;by_cases h5:p.kind=5
 ·rw [if_pos h5,if_pos h5];have hl:p.nums.length=1:=by rw [h.2.1,h5];rfl
  match p.nums,hl with
  | [m],_=>rfl
 ·rw [if_neg h5,if_neg h5]
noncomputable def Ow (ls:List aJ) (x:Str):List Int:=((ls.find? λl=>decide (l.name=x)).map (·.first)).getD []
theorem Gh {ls:List aJ} (nd:(ls.map (·.name)).Nodup) {l:aJ} (hl:l∈ls):Ow ls l.name=l.first:=by unfold Ow;rw [find_name nd hl];rfl
noncomputable def Ep (RW:List (Str×Addr×List Int)):List (Key×V):=RW.map λq=>((Sum.inr q.1:Key),V.ref q.2.1)
noncomputable def xg (RW:List (Str×Addr×List Int)) (x:Str):List Int:=((RW.find? λq=>decide (q.1=x)).map (·.2.2)).getD []
structure lG (H:Hp) (rw:Addr) (RW:List (Str×Addr×List Int)):Prop where
 dict:H rw=some (.dK (Ep RW))
 lists:∀q∈RW,H q.2.1=some (.lst (q.2.2.map V.int))
 nd:(RW.map (·.1)).Nodup
 len:∀q∈RW,q.2.2.length<=300
theorem lG.same {H H':Hp} {rw:Addr} {RW:List (Str×Addr×List Int)} (h:lG H rw RW) (s:aK H H'):lG H' rw RW:=⟨s _ _ h.dict,λq hq=>s _ _ (h.lists q hq),h.nd,h.len⟩
theorem Ed (RW:List (Str×Addr×List Int)):(Ep RW).map (·.1)=(RW.map (·.1)).map (λx=>(Sum.inr x:Key)):=by unfold Ep;rw [map_map,map_map];rfl
theorem lG.get {H:Hp} {rw:Addr} {RW:List (Str×Addr×List Int)} (h:lG H rw RW) (x:Str):(b7 (Ep RW) (Sum.inr x)=none/\xg RW x=[])∨∃a,b7 (Ep RW) (Sum.inr x)=some (.ref a)/\H a=some (.lst ((xg RW x).map V.int))/\(xg RW x).length<=300:=by
 by_cases hx:x∈RW.map (·.1)
 ·obtain⟨q,hq,rfl⟩:=mem_map.mp hx;have e:xg RW q.1=q.2.2:=by unfold xg;rw [find_name (f:=λq:Str×Addr×List Int=>q.1) h.nd hq];rfl
  refine .inr ⟨q.2.1,iV (by rw [Ed];exact gY h.nd) (mem_map.mpr ⟨q,hq,rfl⟩),?_,?_⟩
  ·rw [e];exact h.lists q hq
  ·rw [e];exact h.len q hq
 ·refine .inl ⟨iy (by rw [Ed];intro z;obtain⟨b,hb,e⟩:=mem_map.mp z;cases e;exact hx hb),?_⟩;unfold xg;rw [find?_eq_none.mpr λq hq=>by simpa using λe=>hx (mem_map.mpr ⟨q,hq,e⟩)];rfl
noncomputable def mV (ls:List aJ) (ps:List PD) (RW:List (Str×Addr×List Int)):FS:=⟨Ow ls,λ_=>0,gH ps,λ_=>0,xg RW⟩
noncomputable def Lz (RW:List (Str×Addr×List Int)) (RL:List (PD×Addr)):List (Addr×HO):=RL.map λq=>(q.2,HO.lst ((xg RW q.1.name).map V.int))
theorem NK {ps:List PD} (h:∀p∈ps,vY p):(ps.filter λp=>decide (cL p.kind= "give"))=jM ps:=by
 unfold jM;refine List.filter_congr λp hp=>?_;by_cases h0:p.kind=0
 ·rw [h0];rfl
 ·have:¬cL p.kind= "give" :=λz=>h0 (Vk _ (h p hp).1 z);simp [h0,this]
noncomputable def xO {α:Type} (f:α->Str) (L:List (α×Addr)) (x:Str):Addr:=((L.find? λq=>decide (f q.1=x)).map (·.2)).getD 0
theorem pR {α:Type} {f:α->Str} {L:List (α×Addr)} (nd:(L.map λq=>f q.1).Nodup) {q:α×Addr} (hq:q∈L):xO f L (f q.1)=q.2:=by unfold xO;rw [find_name (f:=λq:α×Addr=>f q.1) nd hq];rfl
theorem Hu {α:Type} {f:α->Str} {L:List (α×Addr)} (nd:(L.map λq=>f q.1).Nodup):(L.map (·.1)).map (λa=>xO f L (f a))=L.map (·.2):=by rw [map_map];exact map_congr_left λq hq=>pR nd hq
inductive qF (K:Fr) (t:jr) (vs:List V) (H:Hp) (Q:VK):Prop where
 | mk:∀(H0:Hp) (f dx n rw:Addr) (ls:List aJ) (ps:List PD) (RW:List (Str×Addr×List Int)),vs=[.ref f,.ref n,.ref rw]->H f=some (.ins t.cg dx [])->aK H0 H->H0 f=none->fV K t H0 n ls ps->lG H0 rw RW->(∀H' A,A.f=f->A.n=n->jz f H H'->dO K t H' A ls ps (mV ls ps RW)->(∀a∈A.cells ls ps,H a=none)->Q .non H')->qF K t vs H Q
@[irreducible] noncomputable def gO (K:Fr) (t:jr):Sp:=λvs H Q _=>qF K t vs H Q
theorem Al (T:Txt w K mg t):FO P w K mg base 5 t.mY ["self", "net", "rows"] (gO K t):=by
 have sc:=T.jJ.sc ["self", "net", "rows", "lane", "name", "door"];refine T.jJ.F.ok sc (λvs H Q E h=>?_) (λcdv A outer s H vs Q E hr h=>?_)
 ·unfold gO at h;obtain⟨H0,f,dx,n,rw,ls,ps,RW,rfl,_⟩:=h;rfl
 ·unfold gO at h;obtain⟨H0,f,dx,n,rw,ls,ps,RW,rfl,hf,s0,nf0,N,hrw,k⟩:=h;refine⟨_,(az (iG (pv 0) (pv 1) Z)
   (az (iG (pv 0) iW rfl)
   (az (iG (pv 0) iW rfl)
   (az (fC PassesOwn.never rfl (bT (O7 (pv 1) T.aX T.aX.me.2.1 (qI T) T.ju hr)) (gN sc 3)
    (az (jj hr.u1 (aW (pv 0) rfl) (pv 3) (d7 (pv 1) T.aX.c (T.j5.me T.aX.me.2.2.2.2.2.2.2.2.1) (CJ T) (hr.mono (by decide)) T.j5.b .nil uw (aa (pv 3) ak aj)) rfl)
    (aA (jj hr.u1 (aW (pv 0) rfl) (pv 3) au rfl))))
   (az (iG (pv 0) iW rfl)
   (az (iG (pv 0) iW rfl)
   (az (fC PassesOwn.never rfl (bT (O7 (pv 1) T.aX T.aX.me.2.2.1 (kI T) T.gQ hr)) (gN sc 4)
    (az (jj hr.u1 (aW (pv 0) rfl) (pv 4) (Ih (CX:=GP) (k:=1) (E:=E0) (d7 (pv 1) T.aX.c (T.cH.me T.aX.me.2.2.2.2.2.2.2.2.2.1) (iQ T) (hr.mono (by decide)) T.cH.b .nil uw (aa (pv 4) ak aj)) (hr.mono (by decide)) gj) rfl)
    (aA (jj hr.u1 (aW (pv 0) rfl) (pv 4) au rfl))))
   (az (iG (pv 0) iW rfl)
   (aA (fC PassesOwn.never rfl (bT (O7 (pv 1) T.aX T.aX.me.2.2.2.2.1 (oM T) T.jT hr)) (gN sc 5)
    (aA (jj hr.u1 (aW (pv 0) rfl) (pv 5) (fB tM (by rfl) T.u9 qO (aa (RP hr.u1 (pv 2) (pv 5) (bc ak) ⟨rfl,rfl,rfl,rfl⟩) ak bh)) rfl)))))))))))),?_⟩
  obtain⟨dxn,fsn,R,F,Pd,Gn,Tk,FL,PL,W⟩:=id N;have hl:sizeLine=16777216:=sizeLine_eq;have l24:=W.fit.l24;have p16:=W.fit.p16;have sk:∀{Hk:Hp},jz f H Hk->aK H0 Hk:=λb x o e=>b x o (aC e nf0) (s0 x o e);have T0:=Tr.start hf;refine⟨_,Z,_,Z,f,_,dx,[],Z,hf,T.aO.c,T.aO.na.1,by show 0 <1000;decide,?_⟩;have T1:=T0.put (L1:=[]) (L2:=[]) (o':=.ins t.cg dx (aH "net" (.ref n) []));generalize upd H f (.ins t.cg dx (aH "net" (.ref n) []))=H1 at T1 ⊢;refine λE nE=>?_;have T2:=T1.new (o:=.dK []) nE;generalize upd H1 E (.dK [])=H2 at T2 ⊢;refine⟨_,Z,f,_,dx,_,Z,T2.all (f,_) (.head _),T.aO.c,T.aO.na.2.1,lt_of_le_of_lt (iB (zero_le 0)) (by decide),?_⟩;have T3:=T2.put (L1:=[]) (o':=.ins t.cg dx (aH "ever" (.ref E) (aH "net" (.ref n) [])));generalize upd H2 f (.ins t.cg dx (aH "ever" (.ref E) (aH "net" (.ref n) [])))=H3 at T3 ⊢;refine λG nG=>?_;have T4:=T3.new (o:=.dK []) nG;generalize upd H3 G (.dK [])=H4 at T4 ⊢;refine⟨_,Z,f,_,dx,_,Z,T4.all (f,_) (.head _),T.aO.c,T.aO.na.2.2.1,lt_of_le_of_lt (iB (iB (zero_le 0))) (by decide),?_⟩;have T5:=T4.put (L1:=[]) (o':=.ins t.cg dx (aH "gone" (.ref G) (aH "ever" (.ref E) (aH "net" (.ref n) []))));generalize upd H4 f (.ins t.cg dx (aH "gone" (.ref G) (aH "ever" (.ref E) (aH "net" (.ref n) []))))=H5 at T5 ⊢;have W5:=W.same (sk T5.but);refine⟨_,Z,n,dxn,fsn,Z,W5.obj,W5.fl.no _ (by decide +kernel),n,ls,ps,Z,W5.s,λl nl=>?_⟩;have T6:Tr H f ((f,.ins t.cg dx (aH "gone" (.ref G) (aH "ever" (.ref E) (aH "net" (.ref n) [])))):: (E,.dK (bO [])):: (G,.dK (dm (λ_=>0) [])):: (l,.lst (ls.map λx:aJ=>V.str x.name)):: kZ []) (upd H5 l (.lst (ls.map λx:aJ=>V.str x.name))):=T5.new nl;generalize upd H5 l (.lst (ls.map λx:aJ=>V.str x.name))=H6 at T6 ⊢;clear T0 T1 T2 T3 T4 T5 W5;refine⟨l,rfl,⟨_,bK.of (T6.all (l,.lst (ls.map λx:aJ=>V.str x.name)) (by simp))⟩,fG (K:=K) (a:=l) (xs:=ls.map λx:aJ=>V.str x.name) (λj σ H'=>(∃v3,σ=[some (.ref f),some (.ref n),some (.ref rw),v3,none,none])/\∃EL:List (aJ×Addr),EL.map (·.1)=ls.take j/\Tr H f ((f,.ins t.cg dx (aH "gone" (.ref G) (aH "ever" (.ref E) (aH "net" (.ref n) [])))):: (E,.dK (bO EL)):: (G,.dK (dm (λ_=>0) (ls.take j))):: (l,.lst (ls.map λx:aJ=>V.str x.name)):: kZ EL) H') ⟨⟨none,rfl⟩,[],rfl,T6⟩ (λj σ H' _ ⟨_,_,_,T'⟩=>bK.of (T'.all (l,.lst (ls.map λx:aJ=>V.str x.name)) (by simp))) ?_ ?_⟩
  ·rintro j x σ H' hx ⟨⟨v3,rfl⟩,EL,eEL,T7⟩;rw [getElem?_map] at hx;obtain⟨ln,hlj,rfl⟩:=map_eq_some_iff.mp hx;have hm:=mem_of_getElem? hlj;have hj:=(List.getElem?_eq_some_iff.mp hlj).1;have nin:=pH W.fit.whole.nod hlj;have vE:b7 (bO EL) (Sum.inr ln.name)=none:=iy (by rw [ue,eEL];intro z;obtain⟨b,hb,e⟩:=mem_map.mp z;cases e;exact nin hb);have vG:b7 (dm (λ_=>0) (ls.take j)) (Sum.inr ln.name)=none:=iy (by rw [Eo];intro z;obtain⟨b,hb,e⟩:=mem_map.mp z;cases e;exact nin hb);have tk:ls.take (j+1)=ls.take j ++ [ln]:=by rw [take_succ,hlj];rfl
   have lEL:EL.length<=24:=by have:=congrArg List.length eEL;rw [lM,length_take] at this;lia
   have W7:=W.same (sk T7.but);refine⟨_,Z,n,dxn,fsn,Z,W7.obj,W7.fl.no _ (by decide +kernel),_,Z,n,ls,ps,ln.name,Z,W7.s,.inl ⟨ln,hm,Z,λH8 le s8 nle ele=>?_⟩⟩;have T8:Tr H f ((f,.ins t.cg dx (aH "gone" (.ref G) (aH "ever" (.ref E) (aH "net" (.ref n) [])))):: (E,.dK (bO EL)):: (G,.dK (dm (λ_=>0) (ls.take j))):: (l,.lst (ls.map λx:aJ=>V.str x.name)):: kZ (EL ++ [(ln,le)])) H8:=by unfold kZ;rw [map_append];exact T7.got s8 nle ele
   refine⟨_,rfl,f,_,dx,_,_,rfl,T8.all (f,_) (.head _),T.aO.c,T.aO.na.2.1,(by (repeat first | (rw [aD,if_pos rfl];done) | rw [aD,if_neg (by decide +kernel)])),_,rfl,E,_,rfl,sO.k (k:=Sum.inr ln.name) (T8.all (E,.dK (bO EL)) (by simp)) (by unfold bO;rw [lM];lia),?_⟩;have e8:putK (bO EL) (Sum.inr ln.name) (.ref le)=bO (EL ++ [(ln,le)]):=by rw [kW _ vE];unfold bO;rw [map_append];rfl
   rw [e8];have T9:=T8.put (L1:=[_]) (o':=.dK (bO (EL ++ [(ln,le)])));generalize upd H8 E (.dK (bO (EL ++ [(ln,le)])))=H9 at T9 ⊢;refine⟨_,rfl,f,_,dx,_,_,rfl,T9.all (f,_) (.head _),T.aO.c,T.aO.na.2.2.1,(by (repeat first | (rw [aD,if_pos rfl];done) | rw [aD,if_neg (by decide +kernel)])),_,rfl,G,_,rfl,sO.k (k:=Sum.inr ln.name) (T9.all (G,.dK (dm (λ_=>0) (ls.take j))) (by simp)) (by unfold dm;rw [lM,length_take];lia),?_⟩;have e9:putK (dm (λ_=>0) (ls.take j)) (Sum.inr ln.name) (.int 0)=dm (λ_=>0) (ls.take (j+1)):=by rw [kW _ vG,tk];unfold dm;rw [map_append];rfl
   rw [e9];have TA:=T9.put (L1:=[_,_]) (o':=.dK (dm (λ_=>0) (ls.take (j+1))));exact⟨⟨_,rfl⟩,EL ++ [(ln,le)],by rw [map_append,eEL,tk];rfl,TA⟩
  rintro σ H7 ⟨⟨v3,rfl⟩,EL,eEL,T7⟩;rw [lM,take_length] at eEL T7;have T7:Tr H f ((f,.ins t.cg dx (aH "gone" (.ref G) (aH "ever" (.ref E) (aH "net" (.ref n) [])))):: (E,.dK (bO EL)):: (G,.dK (dm (λ_=>0) ls)):: kZ EL) H7:=T7.sub (.cons₂ _ (.cons₂ _ (.cons₂ _ (.cons _ (List.Sublist.refl _))))) ⟨_,.head _⟩;clear T6;refine λKp nKp=>?_;have T8:Tr H f ((f,.ins t.cg dx (aH "gone" (.ref G) (aH "ever" (.ref E) (aH "net" (.ref n) [])))):: (E,.dK (bO EL)):: (G,.dK (dm (λ_=>0) ls)):: (Kp,.dK []):: kZ EL) (upd H7 Kp (.dK [])):=(T7.new nKp).perm (.cons _ (.cons _ (.cons _ (List.perm_append_singleton _ _))));generalize upd H7 Kp (.dK [])=H8 at T8 ⊢;refine⟨_,Z,f,_,dx,_,Z,T8.all (f,_) (.head _),T.aO.c,T.aO.na.2.2.2.1,lt_of_le_of_lt (iB (iB (iB (zero_le 0)))) (by decide),?_⟩;have T9:=T8.put (L1:=[]) (o':=.ins t.cg dx (aH "kept" (.ref Kp) (aH "gone" (.ref G) (aH "ever" (.ref E) (aH "net" (.ref n) [])))));generalize upd H8 f (.ins t.cg dx (aH "kept" (.ref Kp) (aH "gone" (.ref G) (aH "ever" (.ref E) (aH "net" (.ref n) [])))))=H9 at T9 ⊢;refine λD nD=>?_;have TA:Tr H f ((f,.ins t.cg dx (aH "kept" (.ref Kp) (aH "gone" (.ref G) (aH "ever" (.ref E) (aH "net" (.ref n) []))))):: (E,.dK (bO EL)):: (G,.dK (dm (λ_=>0) ls)):: (Kp,.dK []):: (D,.dK []):: kZ EL) (upd H9 D (.dK [])):=(T9.new nD).perm (.cons _ (.cons _ (.cons _ (.cons _ (List.perm_append_singleton _ _)))));generalize upd H9 D (.dK [])=HA at TA ⊢;refine⟨_,Z,f,_,dx,_,Z,TA.all (f,_) (.head _),T.aO.c,T.aO.na.2.2.2.2.1,lt_of_le_of_lt (iB (iB (iB (iB (zero_le 0))))) (by decide),?_⟩;have TB:=TA.put (L1:=[]) (o':=.ins t.cg dx (aH "done" (.ref D) (aH "kept" (.ref Kp) (aH "gone" (.ref G) (aH "ever" (.ref E) (aH "net" (.ref n) []))))));generalize upd HA f (.ins t.cg dx (aH "done" (.ref D) (aH "kept" (.ref Kp) (aH "gone" (.ref G) (aH "ever" (.ref E) (aH "net" (.ref n) []))))))=HB at TB ⊢;have WB:=W.same (sk TB.but);refine⟨_,Z,n,dxn,fsn,Z,WB.obj,WB.fl.no _ (by decide +kernel),n,ls,ps,Z,WB.s,λm nm=>?_⟩;have TC:Tr H f ((f,.ins t.cg dx (aH "done" (.ref D) (aH "kept" (.ref Kp) (aH "gone" (.ref G) (aH "ever" (.ref E) (aH "net" (.ref n) [])))))):: (E,.dK (bO EL)):: (G,.dK (dm (λ_=>0) ls)):: (Kp,.dK (cu (gH ps) [])):: (D,.dK (cu (λ_=>0) [])):: (m,.lst (ps.map λx:PD=>V.str x.name)):: kZ EL) (upd HB m (.lst (ps.map λx:PD=>V.str x.name))):=(TB.new nm).perm (.cons _ (.cons _ (.cons _ (.cons _ (.cons _ (List.perm_append_singleton _ _))))));generalize upd HB m (.lst (ps.map λx:PD=>V.str x.name))=HC at TC ⊢;clear T7 T8 T9 TA TB WB;refine⟨m,rfl,⟨_,bK.of (TC.all (m,.lst (ps.map λx:PD=>V.str x.name)) (by simp))⟩,fG (K:=K) (a:=m) (xs:=ps.map λx:PD=>V.str x.name) (λj σ H'=>(∃v4,σ=[some (.ref f),some (.ref n),some (.ref rw),v3,v4,none])/\Tr H f ((f,.ins t.cg dx (aH "done" (.ref D) (aH "kept" (.ref Kp) (aH "gone" (.ref G) (aH "ever" (.ref E) (aH "net" (.ref n) [])))))):: (E,.dK (bO EL)):: (G,.dK (dm (λ_=>0) ls)):: (Kp,.dK (cu (gH ps) (ps.take j))):: (D,.dK (cu (λ_=>0) (ps.take j))):: (m,.lst (ps.map λx:PD=>V.str x.name)):: kZ EL) H') ⟨⟨none,rfl⟩,TC⟩ (λj σ H' _ ⟨_,T'⟩=>bK.of (T'.all (m,.lst (ps.map λx:PD=>V.str x.name)) (by simp))) ?_ ?_⟩
  ·rintro j x σ H' hx ⟨⟨v4,rfl⟩,T7⟩;rw [getElem?_map] at hx;obtain⟨p,hpj,rfl⟩:=map_eq_some_iff.mp hx;have hm:=mem_of_getElem? hpj;have hj:=(List.getElem?_eq_some_iff.mp hpj).1;have nin:=pH W.fit.pnd hpj;have vK:∀k0:Str->Int,b7 (cu k0 (ps.take j)) (Sum.inr p.name)=none:=λk0=>iy (by rw [EY];intro z;obtain⟨b,hb,e⟩:=mem_map.mp z;cases e;exact nin hb);have tk:ps.take (j+1)=ps.take j ++ [p]:=by rw [take_succ,hpj];rfl
   have so:gH ps p.name=J3 p:=by unfold gH J3;rw [find_name W.fit.pnd hm];rfl
   have W7:=W.same (sk T7.but);refine⟨_,Z,n,dxn,fsn,Z,W7.obj,W7.fl.no _ (by decide +kernel),_,Z,n,ls,ps,p.name,Z,W7.s,.inl ⟨p,hm,Z,λH8 q s8 P8=>?_⟩⟩;have T8:=T7.same s8;obtain⟨dxp,tn,ti,to,p1,p2,p3,p4⟩:=id P8.ex;refine⟨q,cls t p.kind,dxp,_,vz K t p.kind,Z,p1,wO _ _ _ _ (by decide +kernel) (by decide +kernel) (by decide +kernel) (by decide +kernel),Sx T p.kind,q,_,_,_,_,Z,P8,by rw [lM];exact(W.fit.pok p hm).2.1,?_⟩;rw [Q3 p (W.fit.pok p hm),<-so];refine⟨_,rfl,f,_,dx,_,_,rfl,T8.all (f,_) (.head _),T.aO.c,T.aO.na.2.2.2.1,(by (repeat first | (rw [aD,if_pos rfl];done) | rw [aD,if_neg (by decide +kernel)])),_,rfl,Kp,_,rfl,sO.k (k:=Sum.inr p.name) (T8.all (Kp,.dK (cu (gH ps) (ps.take j))) (by simp)) (by unfold cu;rw [lM,length_take];lia),?_⟩;have e8:∀k0:Str->Int,putK (cu k0 (ps.take j)) (Sum.inr p.name) (.int (k0 p.name))=cu k0 (ps.take (j+1)):=λk0=>by rw [kW _ (vK k0),tk];unfold cu;rw [map_append];rfl
   rw [e8];have T9:=T8.put (L1:=[_,_,_]) (o':=.dK (cu (gH ps) (ps.take (j+1))));generalize upd H8 Kp (.dK (cu (gH ps) (ps.take (j+1))))=H9 at T9 ⊢;refine⟨_,rfl,f,_,dx,_,_,rfl,T9.all (f,_) (.head _),T.aO.c,T.aO.na.2.2.2.2.1,(by (repeat first | (rw [aD,if_pos rfl];done) | rw [aD,if_neg (by decide +kernel)])),_,rfl,D,_,rfl,sO.k (k:=Sum.inr p.name) (T9.all (D,.dK (cu (λ_=>0) (ps.take j))) (by simp)) (by unfold cu;rw [lM,length_take];lia),?_⟩;rw [e8 λ_=>0];exact⟨⟨_,Z⟩,T9.put (L1:=[_,_,_,_])⟩
  rintro σ HD ⟨⟨v4,rfl⟩,TD⟩;rw [lM,take_length] at TD;have TD:Tr H f ((f,.ins t.cg dx (aH "done" (.ref D) (aH "kept" (.ref Kp) (aH "gone" (.ref G) (aH "ever" (.ref E) (aH "net" (.ref n) [])))))):: (E,.dK (bO EL)):: (G,.dK (dm (λ_=>0) ls)):: (Kp,.dK (cu (gH ps) ps)):: (D,.dK (cu (λ_=>0) ps)):: kZ EL) HD:=TD.sub (.cons₂ _ (.cons₂ _ (.cons₂ _ (.cons₂ _ (.cons₂ _ (.cons _ (List.Sublist.refl _))))))) ⟨_,.head _⟩;clear TC;refine λRw nRw=>?_;have TE:Tr H f ((f,.ins t.cg dx (aH "done" (.ref D) (aH "kept" (.ref Kp) (aH "gone" (.ref G) (aH "ever" (.ref E) (aH "net" (.ref n) [])))))):: (E,.dK (bO EL)):: (G,.dK (dm (λ_=>0) ls)):: (Kp,.dK (cu (gH ps) ps)):: (D,.dK (cu (λ_=>0) ps)):: (Rw,.dK []):: kZ EL) (upd HD Rw (.dK [])):=(TD.new nRw).perm (.cons _ (.cons _ (.cons _ (.cons _ (.cons _ (List.perm_append_singleton _ _))))));generalize upd HD Rw (.dK [])=HE at TE ⊢;refine⟨_,Z,f,_,dx,_,Z,TE.all (f,_) (.head _),T.aO.c,T.aO.na.2.2.2.2.2.1,lt_of_le_of_lt (iB (iB (iB (iB (iB (zero_le 0)))))) (by decide),?_⟩;have TF:=TE.put (L1:=[]) (o':=.ins t.cg dx (aH "rows" (.ref Rw) (aH "done" (.ref D) (aH "kept" (.ref Kp) (aH "gone" (.ref G) (aH "ever" (.ref E) (aH "net" (.ref n) [])))))));generalize upd HE f (.ins t.cg dx (aH "rows" (.ref Rw) (aH "done" (.ref D) (aH "kept" (.ref Kp) (aH "gone" (.ref G) (aH "ever" (.ref E) (aH "net" (.ref n) [])))))))=HF at TF ⊢;have WF:=W.same (sk TF.but);refine⟨_,Z,n,dxn,fsn,Z,WF.obj,WF.fl.no _ (by decide +kernel),n,ls,ps,Z,WF.s,λd nd=>?_⟩;have TG:Tr H f ((f,.ins t.cg dx (aH "rows" (.ref Rw) (aH "done" (.ref D) (aH "kept" (.ref Kp) (aH "gone" (.ref G) (aH "ever" (.ref E) (aH "net" (.ref n) []))))))):: (E,.dK (bO EL)):: (G,.dK (dm (λ_=>0) ls)):: (Kp,.dK (cu (gH ps) ps)):: (D,.dK (cu (λ_=>0) ps)):: (Rw,.dK []):: (d,.lst (bM ps "give")):: kZ EL) (upd HF d (.lst (bM ps "give"))):=(TF.new nd).perm (.cons _ (.cons _ (.cons _ (.cons _ (.cons _ (.cons _ (List.perm_append_singleton _ _)))))));generalize upd HF d (.lst (bM ps "give"))=HG at TG ⊢;clear TD TE TF WF;have lgv:=yS ps "give";have ndg:((ps.filter λp=>decide (cL p.kind= "give")).map (·.name)).Nodup:=W.fit.pnd.sublist ((List.filter_sublist).map _);rw [NK W.fit.pok] at ndg;have ePg:bM ps "give" =(jM ps).map λp=>V.str p.name:=by unfold bM;rw [NK W.fit.pok]
  rw [ePg] at TG;have lgP:(jM ps).length<=16:=by have:=length_filter_le (λp:PD=>decide (p.kind=0)) ps;unfold jM;lia
  have TG:Tr H f ((f,.ins t.cg dx (aH "rows" (.ref Rw) (aH "done" (.ref D) (aH "kept" (.ref Kp) (aH "gone" (.ref G) (aH "ever" (.ref E) (aH "net" (.ref n) []))))))):: (E,.dK (bO EL)):: (G,.dK (dm (λ_=>0) ls)):: (Kp,.dK (cu (gH ps) ps)):: (D,.dK (cu (λ_=>0) ps)):: (Rw,.dK []):: (d,.lst ((jM ps).map λp=>V.str p.name)):: (kZ EL ++ Lz RW [])) HG:=by unfold Lz;rw [map_nil,append_nil];exact TG
  refine⟨d,rfl,⟨_,bK.of (TG.all (d,.lst ((jM ps).map λp=>V.str p.name)) (by simp))⟩,fG (K:=K) (a:=d) (xs:=(jM ps).map λp=>V.str p.name) (λj σ H'=>(∃v5,σ=[some (.ref f),some (.ref n),some (.ref rw),v3,v4,v5])/\∃RL:List (PD×Addr),RL.map (·.1)=(jM ps).take j/\Tr H f ((f,.ins t.cg dx (aH "rows" (.ref Rw) (aH "done" (.ref D) (aH "kept" (.ref Kp) (aH "gone" (.ref G) (aH "ever" (.ref E) (aH "net" (.ref n) []))))))):: (E,.dK (bO EL)):: (G,.dK (dm (λ_=>0) ls)):: (Kp,.dK (cu (gH ps) ps)):: (D,.dK (cu (λ_=>0) ps)):: (Rw,.dK (RL.map λq=>((Sum.inr q.1.name:Key),V.ref q.2))):: (d,.lst ((jM ps).map λp=>V.str p.name)):: (kZ EL ++ Lz RW RL)) H') ⟨⟨none,rfl⟩,[],rfl,TG⟩ (λj σ H' _ ⟨_,_,_,T7⟩=>bK.of (T7.all (d,.lst ((jM ps).map λp=>V.str p.name)) (by simp))) ?_ ?_⟩
  ·rintro j x σ H' hx ⟨⟨v5,rfl⟩,RL,eRL,T7⟩;rw [getElem?_map] at hx;obtain⟨p,hpj,rfl⟩:=map_eq_some_iff.mp hx;have nin:=pH ndg hpj;have tk:(jM ps).take (j+1)=(jM ps).take j ++ [p]:=by rw [take_succ,hpj];rfl
   have vR:b7 (RL.map λq=>((Sum.inr q.1.name:Key),V.ref q.2)) (Sum.inr p.name)=none:=iy (by rw [map_map];intro z;obtain⟨q,hq,e⟩:=mem_map.mp z;have hm:q.1∈RL.map (·.1):=mem_map.mpr ⟨q,hq,rfl⟩;rw [eRL] at hm;exact nin (mem_map.mpr ⟨q.1,hm,by injection e⟩))
   have lRL:RL.length<=16:=by
    have:=congrArg List.length eRL;rw [lM,length_take] at this
    lia
   have rw7:=hrw.same (sk T7.but);refine⟨_,rfl,rw,rfl,.inl ⟨_,.inl rw7.dict⟩,_,rfl,by show 0<=sizeLine;lia,λu nu=>?_⟩;have tu:=aB (o:=.lst []) nu;have xu:upd H' u (.lst []) u=some (.lst []):=aq;generalize upd H' u (.lst [])=H8 at tu xu ⊢;have rw8:=rw7.same tu;refine⟨_,d8.k (k:=Sum.inr p.name) rw8.dict,?_⟩;obtain⟨y,ey,hy⟩:∃y:Addr,(b7 (Ep RW) (Sum.inr p.name)).getD (V.ref u)=.ref y/\H8 y=some (.lst ((xg RW p.name).map V.int)):=by
    rcases rw8.get p.name with ⟨e1,e2⟩ | ⟨a,e1,e2,_⟩
    ·rw [e1,e2];exact⟨u,Z,xu⟩
    ·rw [e1];exact⟨a,Z,e2⟩
   refine⟨y,(xg RW p.name).map V.int,by rw [ey],.inl (bK.of hy),λr nr=>?_⟩;have T9:Tr H f ((f,.ins t.cg dx (aH "rows" (.ref Rw) (aH "done" (.ref D) (aH "kept" (.ref Kp) (aH "gone" (.ref G) (aH "ever" (.ref E) (aH "net" (.ref n) []))))))):: (E,.dK (bO EL)):: (G,.dK (dm (λ_=>0) ls)):: (Kp,.dK (cu (gH ps) ps)):: (D,.dK (cu (λ_=>0) ps)):: (Rw,.dK (RL.map λq=>((Sum.inr q.1.name:Key),V.ref q.2))):: (d,.lst ((jM ps).map λp=>V.str p.name)):: (kZ EL ++ Lz RW (RL ++ [(p,r)]))) (upd H8 r (.lst ((xg RW p.name).map V.int))):=by unfold Lz;rw [map_append,<-append_assoc];exact(T7.same tu).new nr
   generalize upd H8 r (.lst ((xg RW p.name).map V.int))=H9 at T9 ⊢;refine⟨_,rfl,f,_,dx,_,_,rfl,T9.all (f,_) (.head _),T.aO.c,T.aO.na.2.2.2.2.2.1,(by (repeat first | (rw [aD,if_pos rfl];done) | rw [aD,if_neg (by decide +kernel)])),_,rfl,Rw,_,rfl,sO.k (k:=Sum.inr p.name) (T9.all (Rw,.dK (RL.map λq=>((Sum.inr q.1.name:Key),V.ref q.2))) (by simp)) (by rw [lM];lia),?_⟩;rw [kW _ vR];refine⟨⟨_,rfl⟩,RL ++ [(p,r)],by rw [map_append,eRL,tk];rfl,?_⟩;rw [map_append];exact T9.put (L1:=[_,_,_,_,_])
  rintro σ HH ⟨⟨v5,rfl⟩,RL,eRL,TH⟩;rw [lM,take_length] at eRL;have eo:=TH.all (f,.ins t.cg dx (aH "rows" (.ref Rw) (aH "done" (.ref D) (aH "kept" (.ref Kp) (aH "gone" (.ref G) (aH "ever" (.ref E) (aH "net" (.ref n) []))))))) (.head _);have nod:=TH.nod;have fre:=TH.fre;have nE:(EL.map λq=>q.1.name).Nodup:=by
   have:(EL.map (·.1)).map (·.name)=EL.map λq=>q.1.name:=by rw [map_map];rfl
   rw [<-this,eEL];exact W.fit.whole.nod
  have nR:(RL.map λq=>q.1.name).Nodup:=by
   have:(RL.map (·.1)).map (·.name)=RL.map λq=>q.1.name:=by rw [map_map];rfl
   rw [<-this,eRL];exact ndg
  let A:mU:=⟨f,n,E,G,Kp,D,Rw,xO (·.name) EL,xO (·.name) RL⟩
  have mE:ls.map (λl=>A.ea l.name)=EL.map (·.2):=by rw [<-eEL];exact Hu nE
  have mR:(jM ps).map (λp=>A.ra p.name)=RL.map (·.2):=by rw [<-eRL];exact Hu nR
  have eC:A.cells ls ps=E:: G:: Kp:: D:: Rw:: (EL.map (·.2) ++ RL.map (·.2)):=by unfold mU.cells;rw [mE,mR]
  have e2:(kZ EL ++ Lz RW RL).map Prod.fst=EL.map (·.2) ++ RL.map (·.2):=by unfold kZ Lz;rw [map_append,map_map,map_map];rfl
  refine k HH A Z Z TH.but ⟨⟨dx,_,eo,⟨?_,?_⟩⟩,?_,λl hl=>?_,TH.all (G,.dK (dm (λ_=>0) ls)) (by simp),TH.all (Kp,.dK (cu (gH ps) ps)) (by simp),TH.all (D,.dK (cu (λ_=>0) ps)) (by simp),?_,λp hp h0=>?_,?_⟩ ?_
  ·intro q hq;simp only [mem_cons,not_mem_nil,or_false] at hq;rcases hq with rfl | rfl | rfl | rfl | rfl | rfl <;> (dsimp only;(repeat first | (rw [aD,if_pos rfl];done) | rw [aD,if_neg (by decide +kernel)]))
  ·intro m hm;have hne:∀m∈(["holds", "held_now", "gone_by", "row_left", "head", "heads", "lacking", "row_ended", "deed", "do"]:List Str),∀g∈(["rows", "done", "kept", "gone", "ever", "net"]:List Str),¬m=g:=by decide +kernel
   have h:=hne m hm;rw [aD,if_neg (h _ (by simp)),aD,if_neg (h _ (by simp)),aD,if_neg (h _ (by simp)),aD,if_neg (h _ (by simp)),aD,if_neg (h _ (by simp)),aD,if_neg (h _ (by simp))];rfl
  ·have:Vf A.ea ls=bO EL:=by unfold Vf bO;rw [<-eEL,map_map];refine map_congr_left λq hq=>?_;show((Sum.inr q.1.name:Key),V.ref (A.ea q.1.name))=_;rw [show A.ea q.1.name=q.2 from pR nE hq]
   rw [this];exact TH.all (E,.dK (bO EL)) (by simp)
  ·rw [<-eEL] at hl;obtain⟨q,hq,rfl⟩:=mem_map.mp hl;rw [show A.ea q.1.name=q.2 from pR nE hq];have hm:q.1∈ls:=by rw [<-eEL];exact mem_map.mpr ⟨q,hq,rfl⟩
   show HH q.2=some (.lst ((Ow ls q.1.name).map V.int));rw [Gh W.fit.whole.nod hm];exact TH.all (q.2,.lst (q.1.first.map V.int)) (Ho (mem_append.mpr (.inl (mem_map.mpr ⟨q,hq,Z⟩))))
  ·have:Cy A.ra ps=RL.map λq=>((Sum.inr q.1.name:Key),V.ref q.2):=by unfold Cy;rw [<-eRL,map_map];refine map_congr_left λq hq=>?_;show((Sum.inr q.1.name:Key),V.ref (A.ra q.1.name))=_;rw [show A.ra q.1.name=q.2 from pR nR hq]
   rw [this];exact TH.all (Rw,.dK (RL.map λq=>((Sum.inr q.1.name:Key),V.ref q.2))) (by simp)
  ·have hm:p∈RL.map (·.1):=by rw [eRL];exact mem_filter.mpr ⟨hp,by simp [h0]⟩
   obtain⟨q,hq,rfl⟩:=mem_map.mp hm;rw [show A.ra q.1.name=q.2 from pR nR hq];exact TH.all (q.2,.lst ((xg RW q.1.name).map V.int)) (Ho (mem_append.mpr (.inr (mem_map.mpr ⟨q,hq,Z⟩))))
  ·rw [eC,<-e2];exact nod.sublist (List.Sublist.cons _ (.cons₂ _ (.cons₂ _ (.cons₂ _ (.cons₂ _ (.cons₂ _ (.cons _ (List.Sublist.refl _))))))))
  ·intro a ha;rw [eC,<-e2] at ha;have h2:a∈(((E,.dK (bO EL)):: (G,.dK (dm (λ_=>0) ls)):: (Kp,.dK (cu (gH ps) ps)):: (D,.dK (cu (λ_=>0) ps)):: (Rw,.dK (RL.map λq=>((Sum.inr q.1.name:Key),V.ref q.2))):: (d,.lst ((jM ps).map λp=>V.str p.name)):: (kZ EL ++ Lz RW RL):List (Addr×HO))).map Prod.fst:=
    (List.Sublist.cons₂ E (.cons₂ G (.cons₂ Kp (.cons₂ D (.cons₂ Rw (.cons d (List.Sublist.refl _))))))).subset ha
   have hne:a≠f:=λz=>by rw [map_cons,nodup_cons] at nod;exact nod.1 (by rw [<-z];exact h2)
   obtain⟨q,hq,hqa⟩:=mem_map.mp h2;have:=fre q (mem_cons_of_mem _ hq);rw [hqa] at this;exact this.resolve_left hne
theorem QJ {α:Type} {p:α->Bool} {xs:List α} {j:Nat} {x:α} (h:(xs.take j).find? p=none) (hx:xs[j]?=some x):if p x=true then xs.find? p=some x else(xs.take (j+1)).find? p=none:=by
 split
 ·rename_i e;have hj:=(List.getElem?_eq_some_iff.mp hx);have e2:xs=xs.take j ++ x:: xs.drop (j+1):=by rw [<-hj.2,<-List.drop_eq_getElem_cons hj.1,take_append_drop]
  rw [e2,find?_append,h,find?_cons_of_pos e];rfl
 ·rename_i e;rw [take_succ,hx,toList_some,find?_append,h,find?_cons_of_neg e];rfl
noncomputable def roomF (ls:List aJ) (x:Str):Int:=((ls.find? λl=>decide (l.name=x)).map (·.room)).getD 0
theorem TJ {ls:List aJ} (nd:(ls.map (·.name)).Nodup) {l:aJ} (hl:l∈ls):roomF ls l.name=l.room:=by unfold roomF;rw [find_name nd hl];rfl
noncomputable def Ha (ls:List aJ) (S:FS) (q:Str×Int):Bool:=decide (roomF ls q.1<=((S.ev q.1).length:Int) - (S.g q.1:Int))
noncomputable def Gr (ls:List aJ) (S:FS) (dd:mQ):V:=match dd.gv.find? (Ha ls S) with
 | some q=>.str q.1
 | none=>.non
inductive sU (K:Fr) (t:jr) (vs:List V) (H:Hp) (Q:VK) (E:XK):Prop where
 | mk:∀(r:Addr) (n:Nat) (A:mU) (ls:List aJ) (ps:List PD) (S:FS) (M:List Addr) (U:Addr) (dd:mQ),vs=[.ref r,.ref U]->oZ t H r A.n A.f n->fV K t H A.n ls ps->dO K t H A ls ps S->oH M H U dd->((∀q∈dd.gv,q.1∈ls.map (·.name)))->(∀H',aK H H'->Q (Gr ls S dd) H')->sU K t vs H Q E
theorem Bc (T:Txt w K mg t):FO P w K mg base 5 t.m5 ["self", "deed"] (sU K t):=by
 have sc:=T.mW.sc ["self", "deed", "lane", "value"];refine T.mW.F.ok sc ln (λ_ _ _ _ H vs Q E hr h=>?_);obtain⟨r,n,A,ls,ps,S,M,U,dd,rfl,hR,N,W,⟨La,Lg,rs,hU,_,hLg,hT,_,_⟩,hout,k⟩:=h;refine⟨_,(az (fC PassesOwn.never Z (bT (aU dI (pv 1) au (λ_ _=>Z))) (Gp Z (iw (gN sc 2) (iw (gN sc 3) wV)))
   (aA (bQ (aZ Z6 (Qp (aW (pv 0) rfl) T.aO T.aO.me.2.1 (xN T) T.oU hr (aa (pv 2) ak aj)) (d7 (aW (pv 0) rfl) T.aX.c (T.lY.me T.aX.me.2.2.2.2.2.2.2.1) (Gg T) (hr.mono (by decide)) T.lY.b .nil uw (aa (pv 2) ak aj)) (bN _))
    (aA (aN (pv 2)))
    bz)))
  (aA (aN nQ))),?_⟩
 have hl:sizeLine=16777216:=sizeLine_eq;have hlr:rs.length=dd.gv.length:=by have:=Paired.length hT;rw [lM] at this;exact this
 refine⟨_,Z,U,_,1,_,Z,Z,gq.of hU,aM (j:=1) Z,Lg,Z,⟨_,bK.of hLg⟩,fG (K:=K) (a:=Lg) (xs:=rs.map V.ref) (λj σ H'=>aK H H'/\(∃v2 v3,σ=[some (.ref r),some (.ref U),v2,v3])/\(dd.gv.take j).find? (Ha ls S)=none) ⟨aK.refl _,⟨_,_,Z⟩,Z⟩ (λj σ H' _ h=>bK.of (h.1 _ _ hLg)) ?_ ?_⟩
 ·rintro j x σ H1 hx ⟨s1,⟨v2,v3,rfl⟩,hf⟩;rw [getElem?_map] at hx;obtain⟨u,hu,rfl⟩:=map_eq_some_iff.mp hx;obtain⟨vs2,z1,z2⟩:=zy hT hu;rw [getElem?_map] at z1;obtain⟨w,ew,rfl⟩:=map_eq_some_iff.mp z1;have ft:=QJ hf ew;obtain⟨dxn,fsn,R,F0,Pd,Gn,Tk,FL,PL,Wn⟩:=N.same s1;have F:=Wn.fit;obtain⟨dxr,fsr,R1⟩:=hR.same s1;have W1:=W.same s1;obtain⟨dx,fs,h1,h2⟩:=id W1.at'.ex;obtain⟨l,hl',hln⟩:=mem_map.mp (hout w (mem_of_getElem? ew));have va:=tY (ea:=A.ea) F.whole.nod hl';have vg:=pB (g:=S.g) F.whole.nod hl';have fb:Ha ls S w=decide (l.room<=((S.ev l.name).length:Int) - (S.g l.name:Int)):=by unfold Ha;rw [<-hln,TJ F.whole.nod hl']
  rw [hln] at va vg;refine⟨u,_,Z,gq.of (s1 _ _ z2),Z,_,_,Z,_,_,Z,Z,?_⟩;refine⟨_,Z,r,_,dxr,fsr,_,Z,R1.1.1,T.bx.c,T.bx.na.2.1,R1.2.has ("flow",.ref A.f) (by simp),A.f,dx,fs,Z,h1,h2.no _ (by decide +kernel),_,Z,A.f,A.n,A.E,A.G,A.Kp,A.D,A.Rw,A.ea w.1,_,_,w.1,_,S.g w.1,Z,W1.at',W1.ever,W1.gone,va,vg,bK.of (by rw [<-hln];exact W1.lists l hl'),?_⟩;refine⟨_,Z,r,_,dxr,fsr,_,Z,R1.1.1,T.bx.c,T.bx.na.1,R1.2.has ("net",.ref A.n) (by simp),A.n,dxn,fsn,Z,Wn.obj,Wn.fl.no _ (by decide +kernel),_,Z,A.n,ls,ps,w.1,Z,Wn.s,.inl ⟨l,hl',hln,λH2 s2=>?_⟩⟩;refine⟨_,_,Z,Z,_,Z,?_⟩;have e2:decide (l.room<=((((S.ev l.name).map V.int).length:Nat):Int) - ((S.g w.1:Nat):Int))=Ha ls S w:=by rw [fb,lM,hln]
  rw [e2];cases hb:Ha ls S w with
  | true=>
   rw [if_pos hb] at ft;refine gm ⟨_,Z,?_⟩;have k':=k H2 (s1.trans s2);unfold Gr at k';rw [ft] at k';exact k'
  | false=>
   rw [if_neg (by simp [hb])] at ft;exact cj ⟨s1.trans s2,⟨_,_,Z⟩,ft⟩
 rintro σ H1 ⟨s1,⟨v2,v3,rfl⟩,hf⟩;rw [lM,hlr,take_length] at hf;have k':=k H1 s1;unfold Gr at k';rw [hf] at k';exact k'
theorem Vv {H:Hp} {Q:VK} {Ex:XK} {b:Nat} {A:mU} {ls:List aJ} {ps:List PD} {S:FS} {p:PD} (N:fV K t H A.n ls ps) (W:dO K t H A ls ps S) (hp:p∈ps) (O:Mw b ls ps S) (kn:pJ S p=none->∀H',aK H H'->Q .non H')
  (k:∀dd,pJ S p=some dd->∀H' U,aK H H'->H U=none->oH (A.cells ls ps) H' U dd->Q (.ref U) H'):ik K t [.ref A.f,.str p.name] H Q Ex:=by
 unfold ik;exact⟨b,A,ls,ps,S,p.name,Z,N,W,.inl ⟨p,hp,Z,O,kn,k⟩⟩
noncomputable def iK (ls:List aJ) (S:FS) (p:PD):Option mQ:=match pJ S p with
 | none=>none
 | some dd=>if Gr ls S dd=.non then some dd else none
theorem yD {S:FS} {p:PD} {dd:mQ} (h:pJ S p=some dd):jD p.kind p.ins (bJ S p)=.non/\Kz S p=false/\dd=⟨(places p.kind (bJ S p)).map (strAt p.ins),(cZ p.kind p.nums (HR S p) (S.k p.name)).map λpv=>(strAt p.outs pv.1.toNat,pv.2),iu p.kind (HR S p) (S.k p.name)⟩:=by
 unfold pJ at h;split at h
 ·cases h
 ·rename_i h1;split at h
  ·cases h
  ·rename_i h2;exact⟨Classical.not_not.mp h1,by simpa using h2,(Option.some.inj h).symm⟩
theorem Hh {xs:List Str} {q:Nat} (h:q <xs.length):strAt xs q∈xs:=by unfold strAt;rw [getElem?_eq_getElem h];exact List.getElem_mem h
theorem Lj {xs:List Str} {q:Nat} (h:q <xs.length):strAt xs q=xs[q]:=by unfold strAt;rw [getElem?_eq_getElem h];rfl
theorem Rb {i:Nat} {hs:List V}:(places i hs).Nodup:=by
 unfold places;split
 ·split
  ·rename_i n _;have h0:=emod_nonneg n (show(2:Int)≠0 by decide);simp
   lia
  ·simp
 ·exact List.nodup_range
theorem V6 {xs:List Str} (nd:xs.Nodup) {l:List Nat} (hl:l.Nodup) (h:∀q∈l,q <xs.length):(l.map (strAt xs)).Nodup:=by unfold List.Nodup at hl ⊢;rw [List.pairwise_map];refine hl.imp_of_mem λ{a b} ha hb hne e=>hne ?_;rw [Lj (h a ha),Lj (h b hb)] at e;exact(getElem_inj nd).mp e
theorem Qf {f:PD->List Str}:∀{ps:List PD},(ps.flatMap f).Nodup->∀{p:PD},p∈ps->(f p).Nodup
 | q:: r,nd,p,hp=>by
  rw [flatMap_cons,nodup_append] at nd;rcases mem_cons.mp hp with h | h
  ·rw [h];exact nd.1
  ·exact Qf nd.2.1 h
theorem Dj {ls:List aJ} {ps:List PD} {S:FS} (F:Ma ls ps) {p:PD} (hp:p∈ps) {dd:mQ} (h:pJ S p=some dd):J5 ls dd:=by
 obtain⟨hl,he,rfl⟩:=yD h;have ok:=F.pok p hp;have hO:=uP S p ok;have hlt:∀q∈places p.kind (bJ S p),q <p.ins.length:=λq hq=>by have:=lC hO q hq;unfold bJ at this;rwa [lM] at this
 have inL:∀x∈p.ins ++ p.outs,x∈ls.map (·.name):=λx hx=>by obtain⟨l,hl,rfl⟩:=F.inL hp hx;exact mem_map.mpr ⟨l,hl,Z⟩
 refine⟨?_,λx hx=>?_,λq hq=>?_,?_⟩
 ·exact V6 (Qf (F.whole.ins.nodup_iff.mpr F.whole.nod) hp) Rb hlt
 ·obtain⟨q,hq,rfl⟩:=mem_map.mp hx;exact inL _ (mem_append.mpr (.inl (Hh (hlt q hq))))
 ·obtain⟨pv,hpv,rfl⟩:=mem_map.mp hq;obtain⟨o,ho1,ho2⟩:=PN (show p.kind<=10 by have:=ok.1;lia) _ _ _ _ hpv;refine inL _ (mem_append.mpr (.inr (Hh ?_)));rw [ho1,toNat_natCast,ok.2.2.2.1];exact ho2
 ·show(List.map _ _).length<=2;rw [lM];exact Li ..
theorem Qv {H:Hp} {Q:VK} {E:XK} {A:mU} {ls:List aJ} {ps:List PD} {S:FS} {x:Str} (N:fV K t H A.n ls ps) (W:dO K t H A ls ps S) (h:(x∉ps.map (·.name)/\∀dx H',aK H H'->H' dx=some (.xd [("name",.str x)])->E (.ref t.bG) (some dx) H')):ik K t [.ref A.f,.str x] H Q E:=by unfold ik;exact⟨0,A,ls,ps,S,x,Z,N,W,.inr h⟩
inductive qz (K:Fr) (t:jr) (vs:List V) (H:Hp) (Q:VK) (E:XK):Prop where
 | mk:∀(b:Nat) (r:Addr) (n:Nat) (A:mU) (ls:List aJ) (ps:List PD) (S:FS) (x:Str),vs=[.ref r,.str x]->oZ t H r A.n A.f n->fV K t H A.n ls ps->dO K t H A ls ps S->(((∃p∈ps,p.name=x/\Mw b ls ps S/\(iK ls S p=none->∀H',aK H H'->Q .non H')/\∀dd,iK ls S p=some dd->∀H' U,aK H H'->H U=none->oH (A.cells ls ps) H' U dd->Q (.ref U) H')∨(x∉ps.map (·.name)/\∀dx H',aK H H'->H' dx=some (.xd [("name",.str x)])->E (.ref t.bG) (some dx) H')))->qz K t vs H Q E
@[irreducible] noncomputable def dX (K:Fr) (t:jr):Sp:=λvs H Q E=>qz K t vs H Q E
theorem rJ (T:Txt w K mg t):dR P w K mg base (sX P w) 6 t.jE (fdOf K t.jE) ["self", "name"] (dX K t):=by
 have sc:=T.fP.sc ["self", "name", "deed"];refine T.fP.F.ok2 sc (λvs H Q E h=>?_) (λcdv A outer s H vs Q E hr h=>?_)
 ·unfold dX at h;obtain⟨b,r,n,A,ls,ps,S,x,rfl,_⟩:=h;rfl
 ·unfold dX at h;obtain⟨b,r,n,A,ls,ps,S,x,rfl,hR,N,W,h⟩:=h;refine⟨_,(az (sN sc 2 (d7 (aW (pv 0) Z) T.aO.c (T.qj.me T.aO.me.2.2.2.2.2.2.2.1) (JD T) (hr.mono (by decide)) T.qj.b .nil (sG λ_ _ _ h=>h) (aa (pv 1) ak aj)))
   (aA (aN (vO (PW.pt (ww (jx (ym (pv 2))) (pP (jx (Di (Qp (pv 0) T.bx T.bx.me.2.1 (Bc T) T.mW hr (aa (pv 2) ak aj))))))) nQ (pv 2))))),?_⟩
  rcases h with ⟨p,hp,rfl,O,kn,k⟩ | h
  ·obtain⟨dxr,fsr,R0⟩:=id hR;obtain⟨dx,fs,h1,h2⟩:=id W.at'.ex;have F:Ma ls ps:=by obtain⟨_,_,_,_,_,_,_,_,_,Wn⟩:=N;exact Wn.fit
   refine⟨_,Z,r,_,dxr,fsr,_,Z,R0.1.1,T.bx.c,T.bx.na.2.1,R0.2.has ("flow",.ref A.f) (by simp),A.f,dx,fs,Z,h1,h2.no _ (by decide +kernel),_,Z,?_⟩;refine Vv N W hp O (λhd H1 s1=>?_) (λdd hd H1 U s1 nU DA=>?_)
   ·exact⟨_,Z,_,Z,gm (gm (kn (by unfold iK;rw [hd]) _ s1))⟩
   ·obtain⟨dxr,fsr,R1⟩:=hR.same s1;have nx:iK ls S p=if Gr ls S dd=.non then some dd else none:=by unfold iK;rw [hd]
    refine⟨_,Z,_,Z,cj ?_⟩;refine⟨_,Z,r,dxr,fsr,Z,R1.1.1,R1.2.no _ (by decide +kernel),_,Z,r,n,A,ls,ps,S,_,U,dd,Z,⟨dxr,fsr,R1⟩,N.same s1,W.same s1,DA,(Dj F hp hd).gin,λH2 s2=>?_⟩;by_cases hf:Gr ls S dd=.non
    ·rw [hf];exact⟨_,Z,cj ⟨_,Z,k dd (by rw [nx,if_pos hf]) H2 U (s1.trans s2) nU (DA.same s2)⟩⟩
    ·rw [decide_eq_false hf];exact⟨_,Z,gm (kn (by rw [nx,if_neg hf]) H2 (s1.trans s2))⟩
  ·obtain⟨dxr,fsr,R0⟩:=id hR;obtain⟨dx,fs,h1,h2⟩:=id W.at'.ex;exact⟨_,Z,r,_,dxr,fsr,_,Z,R0.1.1,T.bx.c,T.bx.na.2.1,R0.2.has ("flow",.ref A.f) (by simp),A.f,dx,fs,Z,h1,h2.no _ (by decide +kernel),_,Z,Qv N W h⟩
theorem Oh {H:Hp} {Q:VK} {Ex:XK} {b:Nat} {r:Addr} {n:Nat} {A:mU} {ls:List aJ} {ps:List PD} {S:FS} {p:PD} (hR:oZ t H r A.n A.f n) (N:fV K t H A.n ls ps) (W:dO K t H A ls ps S) (O:Mw b ls ps S) (hp:p∈ps) (kn:iK ls S p=none->∀H',aK H H'->Q .non H')
  (k:∀dd,iK ls S p=some dd->∀H' U,aK H H'->H U=none->oH (A.cells ls ps) H' U dd->Q (.ref U) H'):dX K t [.ref r,.str p.name] H Q Ex:=by
 unfold dX;exact⟨b,r,n,A,ls,ps,S,p.name,Z,hR,N,W,.inl ⟨p,hp,Z,O,kn,k⟩⟩
theorem Qs {H:Hp} {Q:VK} {E:XK} {r:Addr} {n:Nat} {A:mU} {ls:List aJ} {ps:List PD} {S:FS} {x:Str} (hR:oZ t H r A.n A.f n) (N:fV K t H A.n ls ps) (W:dO K t H A ls ps S) (h:(x∉ps.map (·.name)/\∀dx H',aK H H'->H' dx=some (.xd [("name",.str x)])->E (.ref t.bG) (some dx) H')):dX K t [.ref r,.str x] H Q E:=by unfold dX;exact⟨0,r,n,A,ls,ps,S,x,Z,hR,N,W,.inr h⟩
inductive uF (K:Fr) (t:jr) (vs:List V) (H:Hp) (Q:VK) (E:XK):Prop where
 | mk:∀(b:Nat) (r:Addr) (n:Nat) (A:mU) (ls:List aJ) (ps:List PD) (S:FS) (x:Str),vs=[.ref r,.str x]->oZ t H r A.n A.f n->fV K t H A.n ls ps->dO K t H A ls ps S->(((∃p∈ps,p.name=x/\Mw b ls ps S/\∀H',aK H H'->Q (.bl (iK ls S p).isSome) H')∨(x∉ps.map (·.name)/\∀dx H',aK H H'->H' dx=some (.xd [("name",.str x)])->E (.ref t.bG) (some dx) H')))->uF K t vs H Q E
theorem CP (T:Txt w K mg t):dR P w K mg base (sX P w) 7 t.jY (fdOf K t.jY) ["self", "name"] (uF K t):=by
 have sc:=T.kY.sc ["self", "name"];refine T.kY.F.ok2 sc ln (λ_ _ _ _ H vs Q E hr h=>?_);obtain⟨b,r,n,A,ls,ps,S,x,rfl,hR,N,W,h⟩:=h;refine⟨_,(aA (aN (Ao (Di (d7 (pv 0) T.bx.c (T.fP.me T.bx.me.2.2.1) (rJ T) (hr.mono (by decide)) T.fP.b .nil (sG λ_ _ _ h=>h) (aa (pv 1) ak aj)))))),?_⟩;rcases h with ⟨p,hp,rfl,O,k⟩ | h
 ·obtain⟨dxr,fsr,R0⟩:=id hR;refine⟨_,Z,r,dxr,fsr,Z,R0.1.1,R0.2.no _ (by decide +kernel),_,Z,?_⟩;refine Oh hR N W O hp (λhd H1 s1=>?_) (λdd hd H1 U s1 nU DA=>?_)
  ·have:=k H1 s1;rw [hd] at this;exact this
  ·have:=k H1 s1;rw [hd] at this;exact this
 ·obtain⟨dxr,fsr,R0⟩:=id hR;exact⟨_,Z,r,dxr,fsr,Z,R0.1.1,R0.2.no _ (by decide +kernel),_,Z,Qs hR N W h⟩
inductive zT (K:Fr) (t:jr) (vs:List V) (H:Hp) (Q:VK) (E:XK):Prop where
 | mk:∀(r:Addr) (n:Nat) (A:mU) (ls:List aJ) (ps:List PD) (S:FS) (x:Str),vs=[.ref r,.str x]->oZ t H r A.n A.f n->fV K t H A.n ls ps->dO K t H A ls ps S->(((∃p∈ps,p.name=x/\∀H',aK H H'->Q (.int (S.d p.name:Int)) H')∨(x∉ps.map (·.name)/\∀dx H',aK H H'->H' dx=some (.xd [("name",.str x)])->E (.ref t.bG) (some dx) H')))->zT K t vs H Q E
theorem yO (T:Txt w K mg t):dR P w K mg base (sX P w) 4 t.qN (fdOf K t.qN) ["self", "name"] (zT K t):=by
 have sc:=T.jP.sc ["self", "name"];refine T.jP.F.ok2 sc ln (λ_ _ _ _ H vs Q E hr h=>?_);obtain⟨r,n,A,ls,ps,S,x,rfl,hR,N,W,h⟩:=h;refine⟨_,(az (bw (d7 (aW (pv 0) Z) T.aX.c (T.cH.me T.aX.me.2.2.2.2.2.2.2.2.2.1) (iQ T) (hr.mono (by decide)) T.cH.b .nil (sG λ_ _ _ h=>h) (aa (pv 1) ak aj)))
  (aA (aN (cM hr.u1 (aW (aW (pv 0) rfl) rfl) (pv 1) (λ_ _=>rfl))))),?_⟩
 obtain⟨dxn,fsn,R,F0,Pd,Gn,Tk,FL,PL,Wn⟩:=id N;obtain⟨dxr,fsr,R0⟩:=id hR;refine⟨_,Z,r,_,dxr,fsr,_,Z,R0.1.1,T.bx.c,T.bx.na.1,R0.2.has ("net",.ref A.n) (by simp),A.n,dxn,fsn,Z,Wn.obj,Wn.fl.no _ (by decide +kernel),_,Z,A.n,ls,ps,x,Z,N,?_⟩;rcases h with ⟨p,hp,rfl,k⟩ | h
 ·refine .inl ⟨p,hp,Z,λH1 q s1 _=>?_⟩;obtain⟨dxr,fsr,R1⟩:=hR.same s1;have W1:=W.same s1;obtain⟨dx,fs,h1,h2⟩:=id W1.at'.ex;have vd:=sV (k:=λx=>(S.d x:Int)) Wn.fit.pnd hp;exact⟨_,Z,r,_,dxr,fsr,_,Z,R1.1.1,T.bx.c,T.bx.na.2.1,R1.2.has ("flow",.ref A.f) (by simp),A.f,_,dx,fs,_,Z,h1,T.aO.c,T.aO.na.2.2.2.2.1,h2.has ("done",.ref A.D) (by simp),_,Z,A.D,_,Z,(by rw [<-vd];exact d8.k (k:=Sum.inr p.name) W1.done),k _ s1⟩
 ·exact .inr h
inductive uz (K:Fr) (t:jr) (vs:List V) (H:Hp) (Q:VK) (E:XK):Prop where
 | mk:∀(r:Addr) (n:Nat) (A:mU) (ls:List aJ) (ps:List PD) (S:FS) (x:Str),vs=[.ref r,.str x]->oZ t H r A.n A.f n->fV K t H A.n ls ps->dO K t H A ls ps S->(((∃l∈ls,l.name=x/\∀H' p,aK H H'->H p=none->H' p=some (.lst (((S.ev l.name).drop (S.g l.name)).map V.int))->Q (.ref p) H')∨(x∉ls.map (·.name)/\∀dx H',aK H H'->H' dx=some (.xd [("name",.str x)])->E (.ref t.bG) (some dx) H')))->uz K t vs H Q E
theorem uA (T:Txt w K mg t):dR P w K mg base (sX P w) 4 t.j0 (fdOf K t.j0) ["self", "name"] (uz K t):=by
 have sc:=T.gW.sc ["self", "name"];refine T.gW.F.ok2 sc ln (λ_ _ _ _ H vs Q E hr h=>?_);obtain⟨r,n,A,ls,ps,S,x,rfl,hR,N,W,h⟩:=h;refine⟨_,(az (bw (d7 (aW (pv 0) Z) T.aX.c (T.bR.me T.aX.me.2.2.2.2.2.2.1) (fL T) (hr.mono (by decide)) T.bR.b .nil (sG λ_ _ _ h=>h) (aa (pv 1) ak aj)))
  (aA (aN (Qp (aW (pv 0) rfl) T.aO T.aO.me.2.2.1 (Ar T) T.m8 hr (aa (pv 1) ak aj))))),?_⟩
 obtain⟨dxn,fsn,R,F0,Pd,Gn,Tk,FL,PL,Wn⟩:=id N;obtain⟨dxr,fsr,R0⟩:=id hR;refine⟨_,Z,r,_,dxr,fsr,_,Z,R0.1.1,T.bx.c,T.bx.na.1,R0.2.has ("net",.ref A.n) (by simp),A.n,dxn,fsn,Z,Wn.obj,Wn.fl.no _ (by decide +kernel),_,Z,A.n,ls,ps,x,Z,N,?_⟩;rcases h with ⟨l,hl,rfl,k⟩ | h
 ·refine .inl ⟨mem_map.mpr ⟨l,hl,Z⟩,λH1 s1=>?_⟩;obtain⟨dxr,fsr,R1⟩:=hR.same s1;have W1:=W.same s1;obtain⟨dx,fs,h1,h2⟩:=id W1.at'.ex;refine⟨_,Z,r,_,dxr,fsr,_,Z,R1.1.1,T.bx.c,T.bx.na.2.1,R1.2.has ("flow",.ref A.f) (by simp),A.f,dx,fs,Z,h1,h2.no _ (by decide +kernel),_,Z,A.f,A.n,A.E,A.G,A.Kp,A.D,A.Rw,A.ea l.name,_,_,l.name,_,_,Z,W1.at',W1.ever,W1.gone,tY Wn.fit.whole.nod hl,pB Wn.fit.whole.nod hl,bK.of (W1.lists l hl),λp hp=>?_⟩;rw [<-List.map_drop];exact k _ p (s1.trans (aB hp)) (s1.free hp) aq
 ·exact .inr h
inductive Cg (t:jr) (vs:List V) (H:Hp) (Q:VK) (E:XK):Prop where
 | mk:∀(r a f:Addr) (n:Nat),vs=[.ref r]->oZ t H r a f n->Q (.int (n:Nat)) H->Cg t vs H Q E
theorem Bj (T:Txt w K mg t):FO P w K mg base 1 t.yt ["self"] (Cg t):=by have sc:=T.uo.sc ["self"];refine T.uo.F.ok sc ln (λ_ _ _ _ H vs Q E hr h=>?_);obtain⟨r,a,f,n,rfl,⟨dxr,fsr,R0⟩,k⟩:=h;refine⟨_,(aA (aN (aW (pv 0) Z))),?_⟩;exact⟨_,Z,r,_,dxr,fsr,_,Z,R0.1.1,T.bx.c,T.bx.na.2.2.1,R0.2.has ("turns",.int (n:Nat)) (by simp),k⟩
theorem uh (y:Str) (xs:List Str):inV (.str y) (xs.map V.str)=decide (y∈xs):=by
 rw [Bool.eq_iff_iff,decide_eq_true_iff];unfold inV;rw [any_eq_true];constructor
 ·rintro⟨v,hv,e⟩;obtain⟨z,hz,rfl⟩:=mem_map.mp hv;have:z=y:=by simpa [MK] using e
  rw [<-this];exact hz
 ·intro h;exact⟨.str y,mem_map.mpr ⟨y,h,Z⟩,by simp [MK]⟩
noncomputable def MT (ps:List PD) (x:Str):Bool:=!decide (V.str x∈bM ps "give" ++ bM ps "take")
theorem JT {α:Type} {c:α->Bool} {xs:List α} {j:Nat} {y:α} (h:(xs.take j).find? c=none) (hy:xs[j]?=some y) (hc:c y=true):xs.find? c=some y:=by
 have e:(xs.take (j+1)).find? c=some y:=by rw [take_succ,hy,find?_append,h];show List.find? c [y]=some y;rw [find?_cons_of_pos hc]
 rw [<-take_append_drop (j+1) xs,find?_append,e];rfl
theorem Va {ps:List PD} {xs:List Str} (h:∀x∈xs,V.str x∈bM ps "give" ++ bM ps "take"):xs.find? (MT ps)=none:=find?_eq_none.mpr λx hx=>by unfold MT;rw [decide_eq_true (h x hx)];simp
theorem YB (ps:List PD) (x:Str):inV (.str x) (bM ps "give" ++ bM ps "take")=decide (V.str x∈bM ps "give" ++ bM ps "take"):=by
 have e:bM ps "give" ++ bM ps "take" =((ps.filter λp=>decide (cL p.kind= "give")).map (·.name) ++ (ps.filter λp=>decide (cL p.kind= "take")).map (·.name)).map V.str:=by unfold bM;rw [map_append,map_map,map_map];rfl
 rw [e,uh];refine decide_eq_decide.mpr ⟨λh=>mem_map.mpr ⟨x,h,Z⟩,λh=>?_⟩;obtain⟨y,hy,e⟩:=mem_map.mp h;cases e;exact hy
inductive qp (K:Fr) (t:jr) (vs:List V) (H:Hp) (Q:VK) (E:XK):Prop where
 | mk:∀(r:Addr) (n:Nat) (A:mU) (ls:List aJ) (ps:List PD) (S:FS) (L:Addr) (xs:List Str),vs=[.ref r,.ref L]->oZ t H r A.n A.f n->fV K t H A.n ls ps->dO K t H A ls ps S->bK K H L (xs.map V.str)->((xs.find? (MT ps)=none->∀H',aK H H'->Q .non H'))->(∀x,xs.find? (MT ps)=some x->∀dx H',aK H H'->H' dx=some (.xd [("name",.str x)])->E (.ref t.bG) (some dx) H')->qp K t vs H Q E
theorem yL (T:Txt w K mg t):dR P w K mg base (sX P w) 4 t.jt (fdOf K t.jt) ["self", "names"] (qp K t):=by
 have sc:=T.jn.sc ["self", "names", "doors", "name"];refine T.jn.F.ok2 sc ln (λ_ _ _ _ H vs Q E hr h=>?_);obtain⟨r,n,A,ls,ps,S,L,xs,rfl,hR,N,W,hL,k,kx⟩:=h;refine⟨_,(az (sN sc 2 (bB yp (O7 (aW (pv 0) Z) T.aX T.aX.me.2.2.2.2.1 (oM T) T.jT hr) (O7 (aW (pv 0) Z) T.aX T.aX.me.2.2.2.2.2.1 (zJ T) T.qR hr)))
  (aA (fC PassesOwn.leaving rfl (bT (pv 1)) (gN sc 3)
   (aA (bQ (aZ fX (pv 3) (pv 2) (by with_unfolding_all rfl))
    (aA (ph T.su (fJ T) (hr.mono (by decide)) (by rfl) T.lH T.dF.b gj (aa (pv 3) ak aj)))
    bz))))),?_⟩
 have hz:sizeLine=16777216:=sizeLine_eq;obtain⟨dxn,fsn,R,F0,Pd,Gn,Tk,FL,PL,Wn⟩:=id N;have p16:=Wn.fit.p16;obtain⟨dxr,fsr,R0⟩:=id hR;have g1:=yS ps "give";have g2:=yS ps "take";refine⟨_,Z,r,_,dxr,fsr,_,Z,R0.1.1,T.bx.c,T.bx.na.1,R0.2.has ("net",.ref A.n) (by simp),A.n,dxn,fsn,Z,Wn.obj,Wn.fl.no _ (by decide +kernel),A.n,ls,ps,Z,N,λl nl=>?_⟩;have s1:=aB (o:=.lst (bM ps "give")) nl;obtain⟨dxr,fsr,R1⟩:=hR.same s1;have Wn1:=Wn.same s1;refine⟨_,Z,r,_,dxr,fsr,_,Z,R1.1.1,T.bx.c,T.bx.na.1,R1.2.has ("net",.ref A.n) (by simp),A.n,dxn,fsn,Z,Wn1.obj,Wn1.fl.no _ (by decide +kernel),A.n,ls,ps,Z,Wn1.s,λl2 nl2=>?_⟩;have s2:=aB (o:=.lst (bM ps "take")) nl2;have e1:=s2 _ _ (aq (H:=H) (a:=l) (o:=.lst (bM ps "give")));refine⟨l,l2,_,_,Z,Z,e1,aq,by lia,λl3 nl3=>?_⟩;have s13:=s1.trans (s2.trans (aB (o:=.lst (bM ps "give" ++ bM ps "take")) nl3));have e3:upd (upd (upd H l (.lst (bM ps "give"))) l2 (.lst (bM ps "take"))) l3 (.lst (bM ps "give" ++ bM ps "take")) l3=some (.lst (bM ps "give" ++ bM ps "take")):=aq;generalize upd (upd (upd H l (.lst (bM ps "give"))) l2 (.lst (bM ps "take"))) l3 (.lst (bM ps "give" ++ bM ps "take"))=H3 at s13 e3 ⊢;have fl:(bM ps "give" ++ bM ps "take").all oG=true:=by rw [all_eq_true];intro v hv;rcases mem_append.mp hv with h | h <;> (obtain⟨p,_,rfl⟩:=mem_map.mp h;rfl)
 refine⟨_,Z,L,Z,⟨_,s13.seq hL⟩,fG (K:=K) (a:=L) (xs:=xs.map V.str) (λj σ H'=>H'=H3/\(xs.take j).find? (MT ps)=none/\∃v3,σ=[some (.ref r),some (.ref L),some (.ref l3),v3]) ⟨Z,Z,none,Z⟩ (λj σ H' _ ⟨e,_⟩=>by rw [e];exact s13.seq hL) ?_ ?_⟩
 ·rintro j x σ H' hx' ⟨rfl,hn,v3,rfl⟩;rw [getElem?_map] at hx';obtain⟨yy,hy,rfl⟩:=map_eq_some_iff.mp hx';refine⟨_,Z,_,Z,l3,_,Z,.inl (bK.of e3),Z,fl,_,Z,?_⟩;rw [YB];by_cases hd:V.str yy∈bM ps "give" ++ bM ps "take"
  ·rw [decide_eq_true hd];refine cj ⟨Z,?_,_,Z⟩;rw [take_succ,hy,find?_append,hn];show List.find? (MT ps) [yy]=none;rw [find?_cons_of_neg (by unfold MT;rw [decide_eq_true hd];simp)];rfl
  ·rw [decide_eq_false hd];have kE:=kx yy (JT hn hy (by unfold MT;rw [decide_eq_false hd];rfl));have s1:=s13;have x:=yy;refine gm ?_;refine⟨_,Z,by show 1<=1000;decide,λy ny n0=>⟨y,_,Z,aq,λdx' nd ne=>⟨Z,y,dx',Z,n0,by rw [aG ne.symm];exact aq,?_⟩⟩⟩;have rz:=raised (fs:=[(("name" :Str),V.str yy)]) ny nd ne;exact kE dx' _ (s1.trans rz.1) rz.2
 ·rintro σ H' ⟨rfl,hn,v3,rfl⟩;rw [lM,take_length] at hn;exact k hn _ s13
noncomputable def rO (xs:List Str) (p:PD):Bool:=!decide (p.name∈xs)
noncomputable def vJ (ls:List aJ) (ps:List PD) (S:FS) (xs:List Str):List (PD×mQ):=(ps.filter (rO xs)).filterMap λp=>(iK ls S p).map λdd=>(p,dd)
noncomputable def mL (S:FS) (ws:List (PD×mQ)):FS:=ws.foldl (λS w=>Gs S w.1.name w.2) S
noncomputable def zV (ls:List aJ) (ps:List PD) (S:FS) (xs:List Str):FS:=mL S (vJ ls ps S xs)
theorem M6 (S:FS) (ws:List (PD×mQ)) (w:PD×mQ):mL S (ws ++ [w])=Gs (mL S ws) w.1.name w.2:=by unfold mL;rw [List.foldl_append];rfl
theorem Am {S:FS} {b:Nat} {x:Str}:∀{ws:List (PD×mQ)},(S.ev x).length<=b->(∀w∈ws,w.2.gv.length<=2)->((mL S ws).ev x).length<=b+2 * ws.length
 | [],h,_=>by simpa [mL] using h
 | w:: r,h,g=>by
  have h1:=g w mem_cons_self;have h2:((Gs S w.1.name w.2).ev x).length<=b+2:=by
   unfold Gs;rw [lP,lM];have:=length_filter_le (λq:Str×Int=>decide (q.1=x)) w.2.gv
   lia
  have h3:=Am (S:=Gs S w.1.name w.2) (ws:=r) h2 (λw' hw=>g w' (mem_cons_of_mem _ hw));show((mL (Gs S w.1.name w.2) r).ev x).length<=_;rw [length_cons]
  lia
theorem Ey {α β:Type} {F:α->β->Prop}:∀{xs:List α} {ys:List β} {j:Nat} {x:α},Paired F xs ys->xs[j]?=some x->∃y,ys[j]?=some y/\F x y
 | _,_,_,_,.nil,e=>by simp at e
 | _,_,0,_,.cons h _,e=>by simp at e;subst e;exact⟨_,rfl,h⟩
 | _,_,j+1,_,.cons _ r,e=>by obtain⟨y,h1,h2⟩:=Ey (j:=j) r (by simpa using e);exact⟨y,by simpa using h1,h2⟩
theorem Jb {α β:Type} {F:α->β->Prop}:∀{xs:List α} {ys:List β} {y:β},Paired F xs ys->y∈ys->∃x,F x y
 | _,_,_,.nil,e=>by simp at e
 | _,_,_,.cons h r,e=>by
  rcases mem_cons.mp e with rfl | e
  ·exact⟨_,h⟩
  ·exact Jb r e
theorem dO.ncell {H:Hp} {A:mU} {ls:List aJ} {ps:List PD} {S:FS} (W:dO K t H A ls ps S) {a:Addr} {u:HO} (h:H a=some u) (h1:∀ks,u≠.dK ks) (h2:∀ks,u≠.lst ks):a∉A.cells ls ps:=by
 intro z;have no:∀{b:Addr} {v:HO},H b=some v->a=b->u=v:=λe q=>by rw [<-q,h] at e;exact Option.some.inj e
 unfold mU.cells at z;simp only [mem_cons,mem_append,mem_map] at z;rcases z with z | z | z | z | z | ⟨l,hl,z⟩ | ⟨p,hp,z⟩
 ·exact h1 _ (no W.ever z)
 ·exact h1 _ (no W.gone z)
 ·exact h1 _ (no W.kept z)
 ·exact h1 _ (no W.done z)
 ·exact h1 _ (no W.rows z)
 ·exact h2 _ (no (W.lists l hl) z.symm)
 ·have hf:=mem_filter.mp hp;exact h2 _ (no (W.rlst p hf.1 (by simpa using hf.2)) z.symm)
theorem dO.tupMov {H H':Hp} {A:mU} {ls:List aJ} {ps:List PD} {S:FS} (W:dO K t H A ls ps S) (m:GF (A.cells ls ps) H H') {a:Addr} {xs:List V} (h:H a=some (.tup xs)):H' a=some (.tup xs):=by rw [m a (W.ncell h (by intro _ z;cases z) (by intro _ z;cases z))];exact h
theorem oH.mov {H H':Hp} {A:mU} {ls:List aJ} {ps:List PD} {S:FS} {U:Addr} {dd:mQ} (h:oH (A.cells ls ps) H U dd) (W:dO K t H A ls ps S) (m:GF (A.cells ls ps) H H'):oH (A.cells ls ps) H' U dd:=by obtain⟨La,Lg,rs,a,b,c,d,e,f⟩:=h;exact⟨La,Lg,rs,W.tupMov m a,by rw [m La e];exact b,by rw [m Lg f];exact c,Paired.mapP d λ_ _ z=>W.tupMov m z,e,f⟩
theorem oZ.mov {H H':Hp} {r a f:Addr} {n:Nat} {M:List Addr} (h:oZ t H r a f n) (nr:r∉M) (m:GF M H H'):oZ t H' r a f n:=by obtain⟨dx,fs,h1,h2⟩:=h;exact⟨dx,fs,⟨by rw [m r nr];exact h1.1,h1.2⟩,h2⟩
theorem Z1 {H:Hp} {Q:VK} {Ex:XK} {b:Nat} {A:mU} {ls:List aJ} {ps:List PD} {S:FS} {p:PD} {U:Addr} {dd:mQ} (F:Ma ls ps) (W:dO K t H A ls ps S) (hp:p∈ps) (hl:∀l∈ls,(S.ev l.name).length<=b) (hb:b<=100000) (d:oH (A.cells ls ps) H U dd) (o:J5 ls dd)
  (k:∀H',GF (A.cells ls ps) H H'->dO K t H' A ls ps (Gs S p.name dd)->Q .non H'):pZ K t [.ref A.f,.str p.name,.ref U] H Q Ex:=by
 unfold pZ;exact⟨b,A,ls,ps,S,p,U,dd,Z,F,W,hp,hl,hb,d,o,k⟩
theorem oZ.turned {H:Hp} {r a f:Addr} {n:Nat} {dx:Addr} {fs:List (Str×V)} (h:(H r=some (.ins t.mK dx fs)/\fs.length<=n+3)/\VD ["step", "need_doors", "next_deed", "full_lane", "can_work", "works", "lane_now", "turn", "rows_left", "had", "taken"] [("net",.ref a),("flow",.ref f),("turns",.int (n:Nat))] fs):
  oZ t (upd H r (.ins t.mK dx (aH "turns" (.int ((n:Int)+1)) fs))) r a f (n+1):=by
 refine⟨dx,_,⟨aq,?_⟩,⟨?_,?_⟩⟩
 ·exact le_trans (iB h.1.2) (by lia)
 ·intro q hq;simp only [mem_cons,not_mem_nil,or_false] at hq;rcases hq with rfl | rfl | rfl
  ·dsimp only;rw [aD,if_neg (by decide +kernel)];exact h.2.has ("net",.ref a) (by simp)
  ·dsimp only;rw [aD,if_neg (by decide +kernel)];exact h.2.has ("flow",.ref f) (by simp)
  ·dsimp only;rw [aD,if_pos rfl];rfl
 ·intro m hm;have hne:∀m∈(["step", "need_doors", "next_deed", "full_lane", "can_work", "works", "lane_now", "turn", "rows_left", "had", "taken"]:List Str),¬m= "turns" :=by decide +kernel
  rw [aD,if_neg (hne m hm)];exact h.2.no m hm
theorem dO.ins {H:Hp} {A:mU} {ls:List aJ} {ps:List PD} {S:FS} (W:dO K t H A ls ps S) {x:Addr} (nx:x∉A.cells ls ps) {o:HO} (nf:x≠A.f):dO K t (upd H x o) A ls ps S:=by
 have st:∀a,a∈A.cells ls ps->upd H x o a=H a:=λa ha=>aG λz=>nx (by rw [<-z];exact ha);obtain⟨dx,fs,h1,h2⟩:=W.at'.ex;refine⟨⟨dx,fs,by rw [aG (Ne.symm nf)];exact h1,h2⟩,?_,λl hl=>?_,?_,?_,?_,?_,λp hp h0=>?_,W.nod⟩
 ·rw [st _ (by simp [mU.cells])];exact W.ever
 ·rw [st _ (by unfold mU.cells;simp only [mem_cons,mem_append,mem_map];exact .inr (.inr (.inr (.inr (.inr (.inl ⟨l,hl,rfl⟩))))))];exact W.lists l hl
 ·rw [st _ (by simp [mU.cells])];exact W.gone
 ·rw [st _ (by simp [mU.cells])];exact W.kept
 ·rw [st _ (by simp [mU.cells])];exact W.done
 ·rw [st _ (by simp [mU.cells])];exact W.rows
 ·rw [st _ (by unfold mU.cells;simp only [mem_cons,mem_append,mem_map];exact .inr (.inr (.inr (.inr (.inr (.inr ⟨p,mem_filter.mpr ⟨hp,by simp [h0]⟩,rfl⟩))))))];exact W.rlst p hp h0
inductive IW (M:List Addr) (ls:List aJ) (S:FS) (H:Hp) (q:PD×Addr):Prop where
 | mk:∀u,H q.2=some (.tup [.str q.1.name,u])->(((iK ls S q.1=none/\u=.non)∨∃dd U,iK ls S q.1=some dd/\u=.ref U/\oH M H U dd))->IW M ls S H q
theorem IW.same {M:List Addr} {ls:List aJ} {S:FS} {H H':Hp} {q:PD×Addr} (h:IW M ls S H q) (s:aK H H'):IW M ls S H' q:=by
 obtain⟨u,h1,h2⟩:=h;refine⟨u,s _ _ h1,?_⟩;rcases h2 with h2 | ⟨dd,U,a,b,c⟩
 ·exact .inl h2
 ·exact .inr ⟨dd,U,a,b,c.same s⟩
theorem S5 {ls:List aJ} {S:FS}:∀{qs:List (PD×Addr)},(qs.map (·.1)).filterMap (λp=>(iK ls S p).map λdd=>(p,dd))=(qs.filter λq=>(iK ls S q.1).isSome).filterMap (λq=>(iK ls S q.1).map λdd=>(q.1,dd))
 | []=>rfl
 | q:: r=>by
  rw [map_cons,filterMap_cons,filter_cons,S5 (qs:=r)];cases h:iK ls S q.1 with
  | none=>simp
  | some dd=>simp [filterMap_cons,h]
theorem sJ {ls:List aJ} {S:FS} {p:PD} {dd:mQ} (h:iK ls S p=some dd):pJ S p=some dd/\Gr ls S dd=.non:=by
 unfold iK at h;split at h
 ·cases h
 ·rename_i d hd;split at h
  ·rename_i hf;cases h;exact⟨hd,hf⟩
  ·cases h
structure uJ (K:Fr) (t:jr) (H:Hp) (r:Addr) (n:Nat) (A:mU) (ls:List aJ) (ps:List PD) (S:FS):Prop where
 run:oZ t H r A.n A.f n
 net:fV K t (bL (r:: A.cells ls ps) H) A.n ls ps
 flow:dO K t H A ls ps S
 ne:r≠A.f
theorem uJ.netH {H:Hp} {r:Addr} {n:Nat} {A:mU} {ls:List aJ} {ps:List PD} {S:FS} (h:uJ K t H r n A ls ps S):fV K t H A.n ls ps:=h.net.same dj
theorem oZ.cell {H:Hp} {r:Addr} {n:Nat} {A:mU} {ls:List aJ} {ps:List PD} {S:FS} {a f:Addr} (hR:oZ t H r a f n) (W:dO K t H A ls ps S):r∉A.cells ls ps:=by
 obtain⟨dx,fs,⟨h1,_⟩,_⟩:=hR;intro z;have no:∀{b:Addr} {u:HO},H b=some u->(∀C dx fs,u≠.ins C dx fs)->r=b->False:=λe h q=>by rw [<-q,h1] at e;exact h _ _ _ (Option.some.inj e).symm
 unfold mU.cells at z;simp only [mem_cons,mem_append,mem_map] at z;rcases z with z | z | z | z | z | ⟨l,hl,z⟩ | ⟨p,hp,z⟩
 ·exact no W.ever (by intro _ _ _ z;cases z) z
 ·exact no W.gone (by intro _ _ _ z;cases z) z
 ·exact no W.kept (by intro _ _ _ z;cases z) z
 ·exact no W.done (by intro _ _ _ z;cases z) z
 ·exact no W.rows (by intro _ _ _ z;cases z) z
 ·exact no (W.lists l hl) (by intro _ _ _ z;cases z) z.symm
 ·have hf:=mem_filter.mp hp;exact no (W.rlst p hf.1 (by simpa using hf.2)) (by intro _ _ _ z;cases z) z.symm
theorem XD {ws:List Int} (h:Y8 ws):0<=g0 ws/\g0 ws <1000000000:=by
 unfold g0;match ws,h with
 | [],_=>exact⟨by decide,by decide⟩
 | w:: r,h=>exact h w mem_cons_self
theorem Yr {ws:List Int} (h:Y8 ws):0<=g1 ws/\g1 ws <1000000000:=by
 unfold g1;match ws,h with
 | [],_=>exact⟨by decide,by decide⟩
 | [w],_=>exact⟨Int.le_refl 0,by show(0:Int) <1000000000;decide⟩
 | w:: v:: r,h=>exact h v (by simp)
theorem JB (n:Int):0<=n % 1000000000/\n % 1000000000 <1000000000:=⟨emod_nonneg _ (by decide),emod_lt_of_pos _ (by decide)⟩
theorem Tv {i:Nat} (hi:i <11) (ns:List Int) {ws:List Int} (kp:Int) (h:Y8 ws):∀pv∈cZ i ns ws kp,0<=pv.2/\pv.2 <1000000000:=by
 have a0:=XD h;have a1:=Yr h;match i,hi with
 | 0,_=>simp [cZ];exact a0
 | 1,_=>simp [cZ]
 | 2,_=>simp [cZ];exact a0
 | 3,_=>simp [cZ];exact a0
 | 4,_=>simp [cZ];exact JB _
 | 5,_=>simp [cZ];exact JB _
 | 6,_=>simp [cZ];exact JB _
 | 7,_=>simp [cZ];split <;> decide
 | 8,_=>simp [cZ];constructor <;> split <;> lia
 | 9,_=>simp [cZ];exact a1
 | 10,_=>simp [cZ];exact a1
theorem Ls (x:Str):∀(ws:List (PD×mQ)) (S:FS),(mL S ws).ev x=S.ev x ++ ws.flatMap λw=>(w.2.gv.filter λq=>decide (q.1=x)).map (·.2)
 | [],S=>by simp [mL]
 | w:: r,S=>by show(mL (Gs S w.1.name w.2) r).ev x=_;rw [Ls x r,flatMap_cons,<-append_assoc];rfl
theorem Dg:∀(ws:List (PD×mQ)) (S:FS),(mL S ws).r=S.r
 | [],_=>rfl
 | w:: r,S=>by show(mL (Gs S w.1.name w.2) r).r=_;rw [Dg r];rfl
theorem Px (x:Str):∀(ws:List (PD×mQ)) (S:FS),(mL S ws).d x=S.d x+(ws.filter λw=>decide (w.1.name=x)).length
 | [],S=>by simp [mL]
 | w:: r,S=>by
  show(mL (Gs S w.1.name w.2) r).d x=_;rw [Px x r,filter_cons];show(if x=w.1.name then S.d x+1 else S.d x)+_=_;by_cases h:x=w.1.name
  ·rw [if_pos h,if_pos (by simp [h])];simp
   lia
  ·rw [if_neg h,if_neg (by simpa using λe=>h e.symm)]
theorem Dd {ls:List aJ} {ps:List PD} {S:FS} {xs:List Str} {w:PD×mQ} (h:w∈vJ ls ps S xs):w.1∈ps/\rO xs w.1=true/\iK ls S w.1=some w.2:=by obtain⟨p,hp,e⟩:=mem_filterMap.mp h;obtain⟨dd,hd,rfl⟩:=map_eq_some_iff.mp e;obtain⟨h1,h2⟩:=mem_filter.mp hp;exact⟨h1,h2,hd⟩
theorem wB {ls:List aJ} {S:FS}:∀{qs:List PD},((qs.filterMap λp=>(iK ls S p).map λdd=>(p,dd)).map (·.1)).Sublist qs
 | []=>by simp
 | q:: r=>by
  rw [filterMap_cons];cases iK ls S q with
  | none=>exact wB.cons _
  | some dd=>exact wB.cons₂ _
theorem YL {ls:List aJ} {ps:List PD} {S:FS} {xs:List Str} (nd:(ps.map (·.name)).Nodup):((vJ ls ps S xs).map λw=>w.1.name).Nodup:=by
 have h:((vJ ls ps S xs).map (·.1)).Sublist ps:=(wB (qs:=ps.filter (rO xs))).trans List.filter_sublist;have e:(vJ ls ps S xs).map (λw=>w.1.name)=((vJ ls ps S xs).map (·.1)).map (·.name):=by rw [map_map];rfl
 rw [e];exact nd.sublist (h.map _)
theorem Wj {ls:List aJ} {ps:List PD} {S:FS} {xs:List Str}:(vJ ls ps S xs).length<=ps.length:=by have h:((vJ ls ps S xs).map (·.1)).Sublist ps:=(wB (qs:=ps.filter (rO xs))).trans List.filter_sublist;have:=h.length_le;rwa [lM] at this
theorem Ri {α:Type} {f:α->Str} {x:Str}:∀{l:List α},(l.map f).Nodup->(l.filter λa=>decide (f a=x)).length<=1
 | [],_=>by simp
 | a:: r,nd=>by
  rw [map_cons,nodup_cons] at nd;rw [filter_cons];by_cases h:f a=x
  ·rw [if_pos (by simp [h]),List.filter_eq_nil_iff.mpr λb hb=>by simpa using λe=>nd.1 (mem_map.mpr ⟨b,hb,by rw [e,h]⟩)];simp
  ·rw [if_neg (by simp [h])];exact Ri nd.2
theorem Vz {b:Nat} {ls:List aJ} {ps:List PD} {S:FS} (F:Ma ls ps) (O:Mw b ls ps S) (xs:List Str):Mw (b+32) ls ps (zV ls ps S xs):=by
 have dk:∀w∈vJ ls ps S xs,J5 ls w.2:=λw hw=>Dj F (Dd hw).1 (sJ (Dd hw).2.2).1;refine⟨λl hl v hv=>?_,λp hp h0=>?_,λp hp h0=>?_,λl hl=>?_,λp hp h0=>?_⟩
 ·unfold zV at hv;rw [Ls] at hv;rcases mem_append.mp hv with h | h
  ·exact O.vb l hl v h
  ·obtain⟨w,hw,hv⟩:=mem_flatMap.mp h;obtain⟨q,hq,rfl⟩:=mem_map.mp hv;obtain⟨h1,_,h3⟩:=Dd hw;obtain⟨e1,e2,e3⟩:=yD (sJ h3).1;have hq':=(mem_filter.mp hq).1;rw [e3] at hq';obtain⟨pv,hpv,rfl⟩:=mem_map.mp hq';exact Tv (F.pok _ h1).1 _ _ (Xq F O h1 e1 e2).2.1 pv hpv
 ·unfold zV;rw [Dg];exact O.rb p hp h0
 ·unfold zV;rw [Dg,Px];have h1:=Ri (x:=p.name) (YL (ls:=ls) (S:=S) (xs:=xs) F.pnd);have h2:=O.dl p hp h0;by_cases hm:∃w∈vJ ls ps S xs,w.1.name=p.name
  ·obtain⟨w,hw,e⟩:=hm;obtain⟨a1,_,a3⟩:=Dd hw;have ew:w.1=p:=Od F.pnd a1 hp e;obtain⟨_,e2,_⟩:=yD (sJ a3).1;rw [ew] at e2;unfold Kz at e2;simp [h0] at e2
   lia
  ·rw [List.filter_eq_nil_iff.mpr λw hw=>by simpa using λe=>hm ⟨w,hw,e⟩];simpa using h2
 ·have h1:=Am (O.len l hl) λw hw=>(dk w hw).g2;have h2:=Wj (ls:=ls) (ps:=ps) (S:=S) (xs:=xs);have:=F.p16;unfold zV
  lia
 ·unfold zV;rw [Dg];exact O.rl p hp h0
inductive zZ (K:Fr) (t:jr) (vs:List V) (H:Hp) (Q:VK) (E:XK):Prop where
 | mk:∀(b:Nat) (r:Addr) (n:Nat) (A:mU) (ls:List aJ) (ps:List PD) (S:FS) (L:Addr) (xs:List Str),vs=[.ref r,.ref L]->uJ K t H r n A ls ps S->bK K H L (xs.map V.str)->(((Mw b ls ps S/\b<=90000/\n<=900/\L∉A.cells ls ps/\(∀x∈xs,V.str x∈bM ps "give" ++ bM ps "take")/\∀H' p,aK (bL (r:: A.cells ls ps) H) (bL (r:: A.cells ls ps) H')->uJ K t H' r (n+1) A ls ps (zV ls ps S xs)->H p=none->H' p=some (.lst ((vJ ls ps S xs).map λw=>V.str w.1.name))->Q (.ref p) H')∨∃x,xs.find? (MT ps)=some x/\∀dx H',aK H H'->H' dx=some (.xd [("name",.str x)])->E (.ref t.bG) (some dx) H'))->zZ K t vs H Q E
@[irreducible] noncomputable def iT (K:Fr) (t:jr):Sp:=λvs H Q E=>zZ K t vs H Q E
noncomputable abbrev tG:List Str:=["self", "held", "back", "deeds", "due", "name", "deed"]
theorem Bm (T:Txt w K mg t):dR P w K mg base (sX P w) 7 t.uv (fdOf K t.uv) ["self", "held"] (iT K t):=by
 have sc:fY tG ["self", "held"] (aR (inClass (top 61) 1)):=O6;refine T.pG.F.ok2 sc (λvs H Q E h=>?_) (λcdv A outer s H vs Q E hr h=>?_)
 ·unfold iT at h;obtain⟨b,r,n,A,ls,ps,S,L,xs,rfl,_⟩:=h;rfl
 ·unfold iT at h;obtain⟨b,r,n,A,ls,ps,S,L,xs,rfl,⟨hR,Nc,W,nrf⟩,hL,h⟩:=h;refine⟨_,(az (sN sc 2 (vO (jx (ym (pv 1))) (bc ak) (pv 1)))
   (az (bw (d7 (pv 0) T.bx.c (T.jn.me T.bx.me.2.2.2.1) (yL T) (hr.mono (by decide)) T.jn.b .nil (sG λ_ _ _ h=>h) (aa (pv 2) ak aj)))
   (az (jc (i:=3) [0,2] tG (aR (inClass (top 61) 1)) rfl sc.nd rfl (bT (O7 (aW (pv 0) rfl) T.aX T.aX.me.2.2.1 (kI T) T.gQ hr)) (λ_ _ _ _ _=>(yg (aZ (xK (K:=K) rfl) (pv 0) (pv 2) (by with_unfolding_all rfl)))) (λ_ _ _ _ _=>(b8 (aa (pv 0) (aa (d7 (pv 1) T.bx.c (T.fP.me T.bx.me.2.2.1) (rJ T) (hr.mono (by decide)) T.fP.b .nil uw (aa (pv 0) ak aj)) ak bh) aj))))
   (az (jc (i:=4) [] tG (aR (inClass (top 61) 1)) rfl sc.nd rfl (bT (pv 3)) (λ_ _ _ _ _=>(yg (jx (Di (aU (fM (K:=K) rfl) (pv 0) au (λ_ _=>rfl)))))) (λ_ _ _ _ _=>(pv 0)))
   (az (fC PassesOwn.leaving rfl (bT (pv 4)) (Gp rfl (iw (gN sc 5) (iw (gN sc 6) wV)))
    (aA (bw (Qp (aW (pv 0) rfl) T.aO T.aO.me.2.2.2.2.2.2.2.2.1 (N6 T) T.Be hr (aa (pv 5) (aa (pv 6) ak aj) aj)))))
   (az (Q0 (pv 0) au Kd)
   (aA (aN (Ul ["name", "deed"] [] tG (aR (inClass (top 61) 1)) rfl (bT (pv 4)) (λ_ _ _ _ _=>O4 (K:=K) (n:=2) rfl rfl (iw (wG (i:=0) (show(["name", "deed"]:List Str).Nodup by decide +kernel) rfl (Or.inl rfl) (.inr rfl)) (iw (wG (i:=1) (show(["name", "deed"]:List Str).Nodup by decide +kernel) rfl (Or.inl rfl) (.inr rfl)) wV))) (λ_ _ _ _ _=>fK) (λ_ _ _ _ _=>(pv 0))))))))))),?_⟩
  rcases h with ⟨O,hb,hn,nL,hx,k⟩ | ⟨x0,hx0,kE⟩
  ·have hz:sizeLine=16777216:=sizeLine_eq;have N:fV K t H A.n ls ps:=Nc.same dj;obtain⟨dxn,fsn,R,F0,Pd,Gn,Tk,FL,PL,Wn⟩:=id N;have F:=Wn.fit;have p16:=F.p16;obtain⟨dxr,fsr,R0⟩:=id hR;refine⟨_,Z,_,Z,cj ⟨_,Z,?_⟩⟩;refine⟨_,rfl,r,dxr,fsr,rfl,R0.1.1,R0.2.no _ (by decide +kernel),_,rfl,r,n,A,ls,ps,S,L,xs,rfl,hR,N,W,hL,λ_ H1 s1=>?_,λx e=>by rw [Va hx] at e;cases e⟩;obtain⟨dxr,fsr,R1⟩:=hR.same s1;have Wn1:=Wn.same s1;refine⟨_,Z,r,_,dxr,fsr,_,Z,R1.1.1,T.bx.c,T.bx.na.1,R1.2.has ("net",.ref A.n) (by simp),A.n,dxn,fsn,Z,Wn1.obj,Wn1.fl.no _ (by decide +kernel),A.n,ls,ps,Z,Wn1.s,λl nl=>?_⟩;have s2:=s1.trans (aB (o:=.lst (ps.map λx=>V.str x.name)) nl);have el:(upd H1 l (.lst (ps.map λx=>V.str x.name))) l=some (.lst (ps.map λx=>V.str x.name)):=aq;generalize upd H1 l (.lst (ps.map λx=>V.str x.name))=H2 at s2 el ⊢;have hflat:(xs.map V.str).all oG=true:=by simp [oG]
   refine⟨l,rfl,⟨_,bK.of el⟩,fu (K:=K) (a:=l) (xs:=ps.map λx=>V.str x.name) (λj ys H'=>aK H2 H'/\∃qs:List (PD×Addr),ys=qs.map (λq=>V.ref q.2)/\qs.map (·.1)=(ps.take j).filter (rO xs)/\∀q∈qs,IW (A.cells ls ps) ls S H' q) (by rw [lM];lia) ⟨aK.refl _,[],rfl,rfl,by simp⟩ ?_ (λj ys H' _ h=>h.1.seq (bK.of el)) ?_ ?_⟩
   ·rintro j ys H' ⟨_,qs,rfl,e,_⟩;have h1:=congrArg List.length e;have h2:=length_filter_le (rO xs) (ps.take j);rw [lM] at h1;rw [length_take] at h2;rw [lM]
    lia
   ·rintro j x ys H' hj ⟨s3',qs,rfl,eq,hq⟩;rw [getElem?_map] at hj;obtain⟨p,hp,rfl⟩:=map_eq_some_iff.mp hj;have hpm:=mem_of_getElem? hp;have s3:=s2.trans s3';obtain⟨dxr,fsr,R2⟩:=hR.same s3;refine⟨_,Z,_,Z,L,_,Z,.inl (s3.seq hL),Z,hflat,_,Z,?_⟩;rw [uh];have tk:(ps.take (j+1)).filter (rO xs)=(ps.take j).filter (rO xs) ++ if rO xs p=true then [p] else []:=by rw [take_succ,hp,toList_some,filter_append,filter_cons];rfl
    refine nH (λe=>?_) (λe=>?_)
    ·have e':rO xs p=true:=e;rw [e',if_pos rfl] at tk;refine⟨_,Z,_,Z,r,dxr,fsr,Z,R2.1.1,R2.2.no _ (by decide +kernel),_,Z,?_⟩;refine Oh (hR.same s3) (N.same s3) (W.same s3) O hpm (λhd H4 s4=>?_) (λdd hd H4 U s4 nU DA=>?_)
     ·refine⟨by show 2<=sizeLine;lia,λq nq=>⟨s3'.trans (s4.trans (aB nq)),qs ++ [(p,q)],by simp,by rw [map_append,eq,tk];rfl,λq' hq'=>?_⟩⟩;rcases mem_append.mp hq' with h | h
      ·exact(hq q' h).same (s4.trans (aB nq))
      ·rw [mem_singleton] at h;subst h;exact⟨.non,aq,.inl ⟨hd,Z⟩⟩
     ·refine⟨by show 2<=sizeLine;lia,λq nq=>⟨s3'.trans (s4.trans (aB nq)),qs ++ [(p,q)],by simp,by rw [map_append,eq,tk];rfl,λq' hq'=>?_⟩⟩;rcases mem_append.mp hq' with h | h
      ·exact(hq q' h).same (s4.trans (aB nq))
      ·rw [mem_singleton] at h;subst h;exact⟨.ref U,aq,.inr ⟨dd,U,hd,Z,DA.same (aB nq)⟩⟩
    ·have e':¬rO xs p=true:=e;rw [if_neg e',append_nil] at tk;exact⟨s3',qs,Z,by rw [eq,tk],hq⟩
   rintro ys H3 ⟨s3',qs,rfl,eq,hq⟩ D1 nD1;rw [lM,take_length] at eq;have s4':=aB (o:=.lst (qs.map λq=>V.ref q.2)) nD1;have s4:=(s2.trans s3').trans s4';have eD1:(upd H3 D1 (.lst (qs.map λq=>V.ref q.2))) D1=some (.lst (qs.map λq=>V.ref q.2)):=aq
   replace hq:=λq h=>(hq q h).same s4'
   generalize upd H3 D1 (.lst (qs.map λq=>V.ref q.2))=H4 at s4 s4' eD1 hq ⊢;clear s4' nD1 s3' nl el;have lq:qs.length<=16:=by
    have h1:=congrArg List.length eq;have h2:=length_filter_le (rO xs) ps;rw [lM] at h1
    lia
   let fS:PD×Addr->Bool:=λq=>(iK ls S q.1).isSome
   refine⟨_,rfl,D1,rfl,⟨_,bK.of eD1⟩,fu (K:=K) (a:=D1) (xs:=qs.map λq=>V.ref q.2) (λj ys H'=>H'=H4/\ys=((qs.take j).filter fS).map λq=>V.ref q.2) (by rw [lM];lia) ⟨rfl,rfl⟩ (λj ys H' ⟨_,e⟩=>by rw [e,lM];exact le_trans (length_filter_le _ _) (by rw [length_take];lia)) (λj ys H' _ ⟨e,_⟩=>by rw [e];exact bK.of eD1) ?_ ?_⟩
   ·rintro j x ys H' hj ⟨rfl,rfl⟩;rw [getElem?_map] at hj;obtain⟨q,hqj,rfl⟩:=map_eq_some_iff.mp hj;obtain⟨u,h1,h2⟩:=hq q (mem_of_getElem? hqj);refine⟨_,Z,q.2,_,1,_,Z,Z,gq.of h1,aM (j:=1) Z,?_⟩;rw [take_succ,hqj,toList_some,filter_append,filter_cons,map_append];rcases h2 with ⟨h2,rfl⟩ | ⟨dd,U,h2,rfl,_⟩
    ·exact⟨_,Z,cj ⟨Z,by simp [fS,h2]⟩⟩
    ·exact⟨_,Z,gm ⟨_,Z,Z,by simp [fS,h2]⟩⟩
   rintro ys H' ⟨rfl,rfl⟩ D2 nD2;rw [lM,take_length];obtain⟨ws,hws⟩:∃ws:List (PD×mQ),ws=vJ ls ps S xs:=⟨_,rfl⟩;have ewq:ws=(qs.filter fS).filterMap (λq=>(iK ls S q.1).map λdd=>(q.1,dd)):=by rw [hws];unfold vJ;rw [<-eq,S5]
   have hW:Paired (fun(q:PD×Addr) (w:PD×mQ)=>q.1=w.1/\iK ls S w.1=some w.2/\w.1∈ps/\∃U,H' q.2=some (.tup [.str w.1.name,.ref U])/\oH (A.cells ls ps) H' U w.2) (qs.filter fS) ws:=by
    rw [ewq];have hall:∀q∈qs.filter fS,IW (A.cells ls ps) ls S H' q/\q.1∈ps/\fS q=true:=λq h=>by have h':=mem_filter.mp h;refine⟨hq q h'.1,?_,h'.2⟩;have:q.1∈qs.map (·.1):=mem_map.mpr ⟨q,h'.1,rfl⟩;rw [eq] at this;exact(mem_filter.mp this).1
    generalize qs.filter fS=rs at hall;clear ewq;induction rs with
    | nil=>exact .nil
    | cons q r ih=>
     obtain⟨⟨u,h1,h2⟩,hp,hf⟩:=hall q mem_cons_self;rcases h2 with ⟨h2,_⟩ | ⟨dd,U,h2,rfl,h3⟩
     ·simp only [fS,h2] at hf;cases hf
     ·rw [filterMap_cons,h2];exact .cons ⟨Z,h2,hp,U,h1,h3⟩ (ih λq' hq'=>hall q' (mem_cons_of_mem _ hq'))
   have lw:(qs.filter fS).length=ws.length:=Paired.length hW;have lw16:ws.length<=16:=by have:=length_filter_le fS qs;lia
   have s5':=aB (o:=.lst ((qs.filter fS).map λq=>V.ref q.2)) nD2;have s5:=s4.trans s5';have nD2':=(W.same s4).cell nD2;have eD2:(upd H' D2 (.lst ((qs.filter fS).map λq=>V.ref q.2))) D2=some (.lst ((qs.filter fS).map λq=>V.ref q.2)):=aq;generalize upd H' D2 (.lst ((qs.filter fS).map λq=>V.ref q.2))=H5 at s5 s5' eD2 ⊢;generalize qs.filter fS=rs at hW lw eD2 ⊢;have g2:∀w∈ws,w.2.gv.length<=2:=λw hw=>by obtain⟨q,_,h2,h3,_⟩:=Jb hW hw;exact(Dj F h3 (sJ h2).1).g2
   have W5:=W.same s5;have R5:=hR.same s5;have nr:=R5.cell W5;refine⟨_,Z,D2,Z,⟨_,bK.of eD2⟩,fG (K:=K) (a:=D2) (xs:=rs.map λq=>V.ref q.2) (λj σ H6=>GF (A.cells ls ps) H5 H6/\dO K t H6 A ls ps (mL S (ws.take j))/\∃v5 v6,σ=[some (.ref r),some (.ref L),some (.ref L),some (.ref D1),some (.ref D2),v5,v6]) ⟨λ_ _=>Z,by simpa [mL] using W5,none,none,Z⟩ (λj σ H6 _ h=>bK.of (by rw [h.1 D2 nD2'];exact eD2)) ?_ ?_⟩
   ·rintro j x σ H6 hj ⟨m6,W6,v5,v6,rfl⟩;rw [getElem?_map] at hj;obtain⟨q,hqj,rfl⟩:=map_eq_some_iff.mp hj;obtain⟨w,hwj,_,h2,hp,U,t1,d1⟩:=Ey hW hqj;have t6:=W5.tupMov m6 (s5' _ _ t1);have d6:=(d1.same s5').mov W5 m6;obtain⟨dxr,fsr,R3⟩:=R5.mov nr m6;obtain⟨dxg,fsg,y1,y2⟩:=id W6.at'.ex;refine⟨q.2,_,Z,gq.of t6,Z,_,_,Z,_,_,Z,Z,?_⟩;refine⟨_,Z,r,_,dxr,fsr,_,Z,R3.1.1,T.bx.c,T.bx.na.2.1,R3.2.has ("flow",.ref A.f) (by simp),A.f,dxg,fsg,Z,y1,y2.no _ (by decide +kernel),_,Z,_,Z,?_⟩;refine Z1 F W6 hp (b:=b+2 * (ws.take j).length) (λl hl=>Am (O.len l hl) λw' hw'=>g2 w' (List.mem_of_mem_take hw')) (by rw [length_take];lia) d6 (Dj F hp (sJ h2).1) λH7 m7 W7=>⟨λa ha=>by rw [m7 a ha,m6 a ha],?_,_,_,rfl⟩;rw [take_succ,hwj,toList_some,M6];exact W7
   rintro σ H6 ⟨m6,W6,v5,v6,rfl⟩;rw [lM,lw,take_length] at W6;obtain⟨dxr,fsr,R3⟩:=R5.mov nr m6;refine⟨_,Z,r,_,dxr,fsr,.int (n:Nat),Z,R3.1.1,T.bx.c,T.bx.na.2.2.1,R3.2.has ("turns",.int (n:Nat)) (by simp),_,_,Z,Z,dxr,fsr,R3.1.1,by have:=R3.1.2;lia,?_⟩;have R7:=oZ.turned R3;have W7:=W6.ins (x:=r) nr (o:=.ins t.mK dxr (aH "turns" (.int ((n:Int)+1)) fsr)) nrf;have m7:∀a,a≠r->a∉A.cells ls ps->upd H6 r (.ins t.mK dxr (aH "turns" (.int ((n:Int)+1)) fsr)) a=H5 a:=λa h1 h2=>by rw [aG h1,m6 a h2]
   generalize upd H6 r (.ins t.mK dxr (aH "turns" (.int ((n:Int)+1)) fsr))=H7 at R7 W7 m7 ⊢;have nD2r:D2≠r:=λz=>by obtain⟨_,_,y1,_⟩:=R5;rw [<-z,eD2] at y1;cases y1.1
   have eD7:H7 D2=some (.lst (rs.map λq=>V.ref q.2)):=by rw [m7 D2 nD2r nD2'];exact eD2
   have t7:∀{a:Addr} {vs:List V},H5 a=some (.tup vs)->H7 a=some (.tup vs):=λ{a vs} h=>by rw [m7 a (λz=>by obtain⟨_,_,y1,_⟩:=R5;rw [<-z,h] at y1;cases y1.1) (W5.ncell h (by intro _ z;cases z) (by intro _ z;cases z))];exact h
   have c7:aK (bL (r:: A.cells ls ps) H) (bL (r:: A.cells ls ps) H7):=λa o e=>by
    have hn:a∉r:: A.cells ls ps:=λz=>by unfold bL at e;rw [if_pos z] at e;cases e
    have e':=s5 _ _ (dj a o e);unfold bL;rw [if_neg hn,m7 a (λz=>hn (by rw [z];exact mem_cons_self)) (λz=>hn (mem_cons_of_mem _ z))];exact e'
   refine⟨_,Z,D2,Z,⟨_,bK.of eD7⟩,?_⟩;refine Ge (K:=K) (a:=D2) (xs:=rs.map λq=>V.ref q.2) (λj ys H8=>H8=H7/\ys=(ws.take j).map λw=>V.str w.1.name) (by rw [lM];lia) ⟨rfl,rfl⟩ ?_ (λj ys H8 _ ⟨e,_⟩=>by rw [e];exact bK.of eD7) ?_ ?_
   ·rintro j ys H8 ⟨_,rfl⟩;rw [lM,length_take]
    lia
   ·rintro j v ys H8 hj ⟨rfl,rfl⟩;rw [getElem?_map] at hj;obtain⟨q,hqj,rfl⟩:=map_eq_some_iff.mp hj;obtain⟨w,hwj,_,_,_,U,t1,_⟩:=Ey hW hqj;refine⟨q.2,_,Z,gq.of (t7 (s5' _ _ t1)),Z,_,_,Z,_,_,Z,Z,Z,?_⟩;refine yes ⟨_,Z,Z,?_⟩;rw [take_succ,hwj,toList_some,map_append];rfl
   rintro ys H8 ⟨rfl,rfl⟩ p np;rw [lM,lw,take_length];have s8:=aB (o:=.lst (ws.map λw=>V.str w.1.name)) np;have np5:H5 p=none:=by
    cases e:H5 p with
    | none=>rfl
    | some o=>
     have h1:p≠r:=λz=>by obtain⟨_,_,y1,_⟩:=R7;rw [<-z,np] at y1;cases y1.1
     rw [<-m7 p h1 (W7.cell np),np] at e;cases e
   have c8:aK (bL (r:: A.cells ls ps) H) (bL (r:: A.cells ls ps) (upd H8 p (.lst (ws.map λw=>V.str w.1.name)))):=c7.trans (Dc np);refine k _ p c8 ⟨R7.same s8,Nc.same c8,?_,nrf⟩ (s5.free np5) (by rw [aq,hws]);unfold zV;rw [<-hws];exact W7.same s8
  ·have hz:sizeLine=16777216:=sizeLine_eq;have N:fV K t H A.n ls ps:=Nc.same dj;obtain⟨dxn,fsn,R,F0,Pd,Gn,Tk,FL,PL,Wn⟩:=id N;have F:=Wn.fit;have p16:=F.p16;obtain⟨dxr,fsr,R0⟩:=id hR;refine⟨_,Z,_,Z,cj ⟨_,Z,?_⟩⟩;refine⟨_,rfl,r,dxr,fsr,rfl,R0.1.1,R0.2.no _ (by decide +kernel),_,rfl,r,n,A,ls,ps,S,L,xs,rfl,hR,N,W,hL,λe=>(by rw [hx0] at e;cases e),λx e=>(by rw [hx0] at e;cases e;exact kE)⟩
noncomputable def Og (v:V):Bool:=match v with
 | .int i=>decide (0<=i) && decide (i <1000000000)
 | _=>false
noncomputable def Nv (v:V):Bool:=match v with
 | .int _=>true
 | .bl _=>true
 | .str _=>true
 | .non=>true
 | _=>false
theorem Ys:∀T∈lV,T≠ "list" ->Jr T "list" =false:=by decide +kernel
inductive Bf (K:Fr) (vs:List V) (H:Hp) (Q:VK) (E:XK):Prop where
 | mk:∀x,vs=[x]->(((∃a xs,x=.ref a/\bK K H a xs/\((300 <xs.length/\Q (.bl false) H)∨(xs.length<=300/\(∀v∈xs,Nv v=true)/\∀H',aK H H'->Q (.bl (xs.all Og)) H')))∨∃Tx,tyN K H x Tx/\Tx∈lV/\Tx≠ "list" /\Q (.bl false) H))->Bf K vs H Q E
theorem QB (T:Txt w K mg t):FO P w K mg base 3 t.KD ["thing"] (Bf K):=by
 have sc:=T.Dz.sc ["thing"];refine T.Dz.F.ok sc ln (λ_ _ _ _ H vs Q E hr h=>?_);obtain⟨x,rfl,h⟩:=h;refine⟨_,(aA (aN (Bh (bA zz (by rfl) T.jq iC (aa (pv 0) (aa (zu (by rfl) T.u9 qO) ak aj) aj)) (Bh (tH xq (bA bY (by rfl) T.gh dJ (aa (pv 0) ak aj)) (jB (by rfl) T.GX) (bN _)) (Bd (bA (zU rfl) (by rfl) T.O3 J0 (aa (eE [] ["thing"] (aR (top 58)) rfl (bT (pv 0)) (λ_ _ _ _ _=>fK) (λ_ _ _ _ _=>(eN (wg T) T.pW hr (aa (pv 0) ak aj)))) ak dZ))))))),?_⟩;have hz:sizeLine=16777216:=sizeLine_eq;rcases h with ⟨a,xs,rfl,hS,h⟩ | ⟨Tx,hT,hk,hn,k⟩
 ·refine⟨_,Z,_,_,_,_,Z,.inl ⟨Z,_,hS⟩,by decide,Z,_,Z,gm ?_⟩;refine⟨_,Z,_,xs.length,Z,.inl ⟨_,hS,Z⟩,_,_,Z,Z,_,Z,?_⟩;rcases h with ⟨hl,k⟩ | ⟨hl,hp,k⟩
  ·rw [decide_eq_false (show ¬(xs.length:Int)<=300 by lia)];exact cj k
  rw [decide_eq_true (show(xs.length:Int)<=300 by lia)];refine gm ?_;refine⟨_,Z,a,Z,⟨_,hS⟩,fu (K:=K) (a:=a) (xs:=xs) (λj ys H'=>H'=H/\ys=((xs.take j).map Og).map V.bl) (by lia) ⟨Z,Z⟩ (λj ys H' ⟨_,e⟩=>by rw [e,lM,lM,length_take];lia) (λj ys H' _ ⟨e,_⟩=>by rw [e];exact hS) ?_ ?_⟩
  ·rintro j x ys H' hx ⟨rfl,rfl⟩;have hv:=hp x (mem_of_getElem? hx);rw [take_succ,hx,toList_some,map_append,map_append];refine yes ⟨_,Z,x,Z,?_⟩;cases x with
   | int i=>exact .inl ⟨i,rfl,rfl,rfl⟩
   | bl b=>exact .inr ⟨"bool",rfl,by decide,by decide,rfl,rfl⟩
   | str b=>exact .inr ⟨"str",rfl,by decide,by decide,rfl,rfl⟩
   | non=>exact .inr ⟨"NoneType",rfl,by decide,by decide,rfl,rfl⟩
   | _=>cases hv
  rintro ys H' ⟨rfl,rfl⟩ D hD;rw [take_length] at *;refine⟨D,xs.map Og,Z,bK.of aq,?_⟩;rw [show(xs.map Og).all id=xs.all Og by rw [List.all_map];rfl];exact k _ (aB hD)
 ·refine⟨_,Z,_,Tx,_,_,Z,hT,by decide,Ys Tx hk hn,_,Z,cj k⟩
structure DY (ps:List PD) (RW:List (Str×Addr×List Int)):Prop where
 door:∀q∈RW,V.str q.1∈bM ps "give"
 bnd:∀q∈RW,∀v∈q.2.2,0<=v/\v <1000000000
theorem Rc {ls:List aJ} {ps:List PD} {RW:List (Str×Addr×List Int)} (F:Ma ls ps) (hl:∀q∈RW,q.2.2.length<=300) (hb:∀q∈RW,∀v∈q.2.2,0<=v/\v <1000000000):Mw 199 ls ps (mV ls ps RW):=by
 have rq:∀x,xg RW x=[]∨∃q∈RW,xg RW x=q.2.2:=λx=>by
  unfold xg;cases e:RW.find? λq=>decide (q.1=x) with
  | none=>exact .inl rfl
  | some q=>exact .inr ⟨q,List.mem_of_find?_eq_some e,rfl⟩
 refine⟨λl h v hv=>?_,λp hp h0 v hv=>?_,λp hp h0=>zero_le _,λl h=>?_,λp hp h0=>?_⟩
 ·have e:(mV ls ps RW).ev l.name=l.first:=Gh F.whole.nod h;rw [e] at hv;exact(F.lok l h).2.2.2 v hv
 ·rcases rq p.name with e | ⟨q,hq,e⟩
  ·rw [show(mV ls ps RW).r p.name=[] from e] at hv;cases hv
  ·rw [show(mV ls ps RW).r p.name=q.2.2 from e] at hv;exact hb q hq v hv
 ·have e:(mV ls ps RW).ev l.name=l.first:=Gh F.whole.nod h;rw [e];have:=F.lok l h
  lia
 ·rcases rq p.name with e | ⟨q,hq,e⟩
  ·rw [show(mV ls ps RW).r p.name=[] from e];exact zero_le _
  ·rw [show(mV ls ps RW).r p.name=q.2.2 from e];exact hl q hq
theorem kd_in (ps:List PD) (k:Str) (x:Str):inV (.str x) (bM ps k)=decide (V.str x∈bM ps k):=by
 have e:bM ps k=((ps.filter λp=>decide (cL p.kind=k)).map (·.name)).map V.str:=by unfold bM;rw [map_map];rfl
 rw [e,uh];refine decide_eq_decide.mpr ⟨λh=>mem_map.mpr ⟨x,h,Z⟩,λh=>?_⟩;obtain⟨y,hy,e⟩:=mem_map.mp h;cases e;exact hy
inductive rH (H:Hp):V->Bool->Prop
 | lst (a:Addr) (xs:List V):H a=some (.lst xs)->(xs.length<=300->∀v∈xs,Nv v=true)->rH H (.ref a) (decide (xs.length<=300) && xs.all Og)
 | tup (a:Addr) (xs:List V):H a=some (.tup xs)->rH H (.ref a) false
 | str (s:Str):rH H (.str s) false
 | non:rH H .non false
theorem rH.but {H H':Hp} {rw:Addr} {kvs:List (Key×V)} {v:V} {b:Bool} (h:rH H v b) (hb:jz rw H H') (hd:H rw=some (.dK kvs)):rH H' v b:=by
 cases h with
 | lst a xs e hp=>exact .lst a xs (hb _ _ (λz=>by rw [z,hd] at e;cases e) e) hp
 | tup a xs e=>exact .tup a xs (hb _ _ (λz=>by rw [z,hd] at e;cases e) e)
 | str s=>exact .str s
 | non=>exact .non
theorem rH.same {H H':Hp} {v:V} {b:Bool} (h:rH H v b) (s:aK H H'):rH H' v b:=by
 cases h with
 | lst a xs e hp=>exact .lst a xs (s _ _ e) hp
 | tup a xs e=>exact .tup a xs (s _ _ e)
 | str s=>exact .str s
 | non=>exact .non
theorem UJ {H:Hp} {Q:VK} {Ex:XK} {v:V} {b:Bool} (h:rH H v b) (k:∀H',aK H H'->Q (.bl b) H'):Bf K [v] H Q Ex:=by
 refine⟨v,Z,?_⟩;cases h with
 | lst a xs e hp=>
  refine .inl ⟨a,xs,Z,bK.of e,?_⟩;by_cases hl:xs.length<=300
  ·rw [decide_eq_true hl,Bool.true_and] at k;exact .inr ⟨hl,hp hl,k⟩
  ·rw [decide_eq_false hl,Bool.false_and] at k;exact .inl ⟨Nat.lt_of_not_le hl,k _ (aK.refl _)⟩
 | tup a xs e=>exact .inr ⟨"tuple",.inr (.inl ⟨rfl,_,gq.of e⟩),by decide,by decide,k _ (aK.refl _)⟩
 | str s=>exact .inr ⟨"str",rfl,by decide,by decide,k _ (aK.refl _)⟩
 | non=>exact .inr ⟨"NoneType",rfl,by decide,by decide,k _ (aK.refl _)⟩
noncomputable def uZ (RB:List (Str×V×Bool)):List (Key×V):=RB.map λq=>((Sum.inr q.1:Key),q.2.1)
theorem Mx (RB:List (Str×V×Bool)):(uZ RB).map (·.1)=(RB.map (·.1)).map (λx=>(Sum.inr x:Key)):=by unfold uZ;rw [map_map,map_map];rfl
structure zx (H:Hp) (rw:Addr) (RB:List (Str×V×Bool)):Prop where
 dict:H rw=some (.dK (uZ RB))
 rows:∀q∈RB,rH H q.2.1 q.2.2
 nd:(RB.map (·.1)).Nodup
theorem zx.same {H H':Hp} {rw:Addr} {RB:List (Str×V×Bool)} (h:zx H rw RB) (s:aK H H'):zx H' rw RB:=⟨s _ _ h.dict,λq hq=>(h.rows q hq).same s,h.nd⟩
noncomputable def Vi (ps:List PD) (q:Str×V×Bool):Bool:=!decide (V.str q.1∈bM ps "give")
noncomputable def Y0 (q:Str×V×Bool):Bool:=!q.2.2
noncomputable def wZ (ps:List PD) (RB:List (Str×V×Bool)):Option (Bool×Str):=match RB.find? (Vi ps) with
 | some q=>some (true,q.1)
 | none=>match RB.find? Y0 with
  | some q=>some (false,q.1)
  | none=>none
noncomputable def Vp (t:jr) (b:Bool):Addr:=if b then t.bG else t.fU
theorem Qk {α:Type} {c:α->Bool} {xs:List α} {j:Nat} {y:α} (h:(xs.take j).find? c=none) (hy:xs[j]?=some y) (hc:c y=false):(xs.take (j+1)).find? c=none:=by rw [take_succ,hy,find?_append,h];show List.find? c [y]=none;rw [find?_cons_of_neg (by rw [hc];simp)];rfl
theorem lG.b {H:Hp} {rw:Addr} {RW:List (Str×Addr×List Int)} (h:lG H rw RW) {ps:List PD} (o:DY ps RW):∃RB,zx H rw RB/\wZ ps RB=none:=by
 refine⟨RW.map λq=>(q.1,V.ref q.2.1,true),⟨?_,?_,?_⟩,?_⟩
 ·rw [h.dict];unfold Ep uZ;rw [map_map];rfl
 ·intro q hq;obtain⟨p,hp,rfl⟩:=mem_map.mp hq;have e:=rH.lst (H:=H) p.2.1 _ (h.lists p hp) (λ_ v hv=>by obtain⟨i,_,rfl⟩:=mem_map.mp hv;rfl);rw [lM,decide_eq_true (h.len p hp),Bool.true_and,all_eq_true.mpr λv hv=>by obtain⟨i,hi,rfl⟩:=mem_map.mp hv;have:=o.bnd p hp i hi;show(decide _ && decide _)=true;rw [decide_eq_true this.1,decide_eq_true this.2];rfl] at e
  exact e
 ·rw [map_map];exact h.nd
 ·have e1:(RW.map λq=>(q.1,V.ref q.2.1,true)).find? (Vi ps)=none:=find?_eq_none.mpr λq hq=>by obtain⟨p,hp,rfl⟩:=mem_map.mp hq;unfold Vi;rw [decide_eq_true (o.door p hp)];simp
  have e2:(RW.map λq=>(q.1,V.ref q.2.1,true)).find? Y0=none:=find?_eq_none.mpr λq hq=>by obtain⟨p,hp,rfl⟩:=mem_map.mp hq;simp [Y0]
  unfold wZ;rw [e1,e2]
inductive zM (K:Fr) (t:jr) (vs:List V) (H:Hp) (Q:VK) (E:XK):Prop where
 | mk:∀(n rw:Addr) (ls:List aJ) (ps:List PD) (RB:List (Str×V×Bool)),vs=[.ref n,.ref rw]->fV K t H n ls ps->zx H rw RB->((wZ ps RB=none->∀H',aK H H'->Q .non H'))->(∀b x,wZ ps RB=some (b,x)->∀dx H',jz rw H H'->H' dx=some (.xd [("name",.str x)])->E (.ref (Vp t b)) (some dx) H')->zM K t vs H Q E
theorem Jt (T:Txt w K mg t):dR P w K mg base (sX P w) 4 t.wj (fdOf K t.wj) ["net", "rows"] (zM K t):=by
 have sc:=T.mD.sc ["net", "rows", "doors", "door"];refine T.mD.F.ok2 sc ln (λ_ _ _ _ H vs Q E hr h=>?_);obtain⟨n,rw,ls,ps,RB,rfl,N,hrw,k,kE⟩:=h;refine⟨_,(az (sN sc 2 (O7 (pv 0) T.aX T.aX.me.2.2.2.2.1 (oM T) T.jT hr))
  (az (zP (H0:=H) rfl (fC PassesOwn.leaving rfl (yG (pv 1)) (gN sc 3)
   (aA (bQ (aZ fX (pv 3) (pv 2) (by with_unfolding_all rfl))
    (aA (ph T.su (fJ T) (hr.mono (by decide)) (by rfl) T.lH T.dF.b gj (aa (pv 3) ak aj)))
    bz))))
  (aA (zP (H0:=H) rfl (fC PassesOwn.leaving rfl (yG (pv 1)) (gN sc 3)
   (aA (bQ (jU (jL (eN (QB T) T.Dz hr (aa (cM hr.u1 (pv 1) (pv 3) (λ_ _=>rfl)) ak aF))))
    (aA (ph T.Ln (yx T) (hr.mono (by decide)) (by rfl) T.Il T.km.b gj (aa (pv 3) ak aj)))
    bz))))))),?_⟩
 have hz:sizeLine=16777216:=sizeLine_eq;obtain⟨dxn,fsn,R,F,Pd,Gn,Tk,FL,PL,Wn⟩:=id N;refine⟨_,Z,n,dxn,fsn,Z,Wn.obj,Wn.fl.no _ (by decide +kernel),n,ls,ps,Z,N,λl nl=>?_⟩;have s1:=aB (o:=.lst (bM ps "give")) nl;have el:upd H l (.lst (bM ps "give")) l=some (.lst (bM ps "give")):=aq;generalize upd H l (.lst (bM ps "give"))=H1 at s1 el ⊢;have fl:(bM ps "give").all oG=true:=by rw [all_eq_true];intro v hv;obtain⟨p,_,rfl⟩:=mem_map.mp hv;rfl
 have w1:=hrw.same s1;have nf:∀(o':Obj) (u':HO),H rw≠some (.frz o' u'):=λo' u' z=>by rw [hrw.dict] at z;cases z
 have lm:(uZ RB).length=RB.length:=by unfold uZ;rw [lM]
 have kb:∀{o:HO} {H':Hp},aK (upd H1 rw o) H'->jz rw H H':=λs b u hn e=>s _ _ (by rw [aG hn];exact s1 _ _ e);refine⟨_,rfl,rw,_,rfl,w1.dict,λo=>zq (λj σ H'=>H'=upd H1 rw (.frz o (.dK (uZ RB)))/\(RB.take j).find? (Vi ps)=none/\∃v3,σ=[some (.ref n),some (.ref rw),some (.ref l),v3]) ⟨rfl,rfl,none,rfl⟩ (λj σ H' _ ⟨e,_⟩=>by rw [e];exact aq) ?_ ?_⟩
 ·rintro j kk v σ H' hj ⟨rfl,hf,v3,rfl⟩;unfold uZ at hj;rw [getElem?_map] at hj;obtain⟨q,hq,e⟩:=map_eq_some_iff.mp hj;cases e;refine⟨_,rfl,_,rfl,l,_,rfl,.inl (bK.of (lA w1.dict el (by intro _ z;cases z))),rfl,fl,_,rfl,?_⟩;rw [show inV (kV (Sum.inr q.1)) (bM ps "give")=decide (V.str q.1∈bM ps "give") from kd_in ps "give" q.1];by_cases hd:V.str q.1∈bM ps "give"
  ·rw [decide_eq_true hd];exact cj ⟨rfl,Qk hf hq (by unfold Vi;rw [decide_eq_true hd];rfl),_,rfl⟩
  ·rw [decide_eq_false hd];have du:wZ ps RB=some (true,q.1):=by unfold wZ;rw [JT hf hq (by unfold Vi;rw [decide_eq_false hd];rfl)]
   refine gm ?_;refine⟨_,Z,by show 1<=1000;decide,λy ny n0=>⟨y,_,Z,aq,λdx' nd ne=>⟨Z,y,dx',Z,n0,by rw [aG ne.symm];exact aq,?_⟩⟩⟩;have rz:=raised (fs:=[(("name" :Str),V.str q.1)]) ny nd ne;exact kE true q.1 du dx' _ (kb rz.1) rz.2
 rintro σ H' ⟨rfl,hf,v3,rfl⟩;rw [lm,take_length] at hf;refine⟨_,⟨rw,o,_,aq,nf,rfl⟩,?_⟩;rw [tV,Ka w1.dict];refine⟨_,rfl,rw,_,rfl,w1.dict,λo=>zq (λj σ H'=>aK (upd H1 rw (.frz o (.dK (uZ RB)))) H'/\(RB.take j).find? Y0=none/\∃v3,σ=[some (.ref n),some (.ref rw),some (.ref l),v3]) ⟨aK.refl _,rfl,v3,rfl⟩ (λj σ H' _ ⟨e,_⟩=>e _ _ aq) ?_ ?_⟩
 ·rintro j kk v σ H' hj ⟨s2,hf2,v3,rfl⟩;unfold uZ at hj;rw [getElem?_map] at hj;obtain⟨q,hq,e⟩:=map_eq_some_iff.mp hj;cases e;have hm:=mem_of_getElem? hq;have vq:b7 (uZ RB) (Sum.inr q.1)=some q.2.1:=iV (by rw [Mx];exact gY hrw.nd) (mem_map.mpr ⟨q,hm,rfl⟩);refine⟨_,rfl,_,rfl,rw,_,rfl,(by rw [<-vq];exact .inl ⟨_,Sum.inr q.1,.inr ⟨o,s2 _ _ aq⟩,rfl,rfl⟩),UJ ((hrw.rows q hm).but (kb s2) hrw.dict) λH3 s3=>⟨_,rfl,?_⟩⟩;cases hb:q.2.2 with
  | true=>exact cj ⟨s2.trans s3,Qk hf2 hq (by unfold Y0;rw [hb];rfl),_,rfl⟩
  | false=>
   have du:wZ ps RB=some (false,q.1):=by unfold wZ;rw [hf,JT hf2 hq (by unfold Y0;rw [hb];rfl)]
   refine gm ?_;refine⟨_,Z,by show 1<=1000;decide,λy ny n0=>⟨y,_,Z,aq,λdx' nd ne=>⟨Z,y,dx',Z,n0,by rw [aG ne.symm];exact aq,?_⟩⟩⟩;have rz:=raised (fs:=[(("name" :Str),V.str q.1)]) ny nd ne;exact kE false q.1 du dx' _ (kb ((s2.trans s3).trans rz.1)) rz.2
 rintro σ H' ⟨s2,hf2,v3,rfl⟩;rw [lm,take_length] at hf2;refine⟨_,⟨rw,o,_,s2 _ _ aq,nf,rfl⟩,?_⟩;refine k (by unfold wZ;rw [hf,hf2]) _ λb u e=>?_;by_cases hb:b=rw
 ·subst hb;rw [aq];rw [hrw.dict] at e;exact e
 ·rw [aG hb];exact s2 _ _ (by rw [aG hb];exact s1 _ _ e)
theorem UG {H:Hp} {Q:VK} {Ex:XK} {H0:Hp} {f dx n rw:Addr} {ls:List aJ} {ps:List PD} {RW:List (Str×Addr×List Int)} (hf:H f=some (.ins t.cg dx [])) (s0:aK H0 H) (nf:H0 f=none) (N:fV K t H0 n ls ps) (hrw:lG H0 rw RW)
  (k:∀(H':Hp) (A:mU),A.f=f->A.n=n->jz f H H'->dO K t H' A ls ps (mV ls ps RW)->(∀a∈A.cells ls ps,H a=none)->Q .non H'):gO K t [.ref f,.ref n,.ref rw] H Q Ex:=by
 unfold gO;exact⟨H0,f,dx,n,rw,ls,ps,RW,rfl,hf,s0,nf,N,hrw,k⟩
inductive rW (K:Fr) (t:jr) (vs:List V) (H:Hp) (Q:VK) (E:XK):Prop where
 | mk:∀(H0:Hp) (r dx n rw:Addr) (ls:List aJ) (ps:List PD),vs=[.ref r,.ref n,.ref rw]->H r=some (.ins t.mK dx [])->aK H0 H->H0 r=none->fV K t H0 n ls ps->(((∃RW:List (Str×Addr×List Int),lG H0 rw RW/\DY ps RW/\∀H' A,A.n=n->aK H0 H'->uJ K t H' r 0 A ls ps (mV ls ps RW)->(∀a∈A.cells ls ps,H0 a=none)->Q .non H')∨∃(RB:List (Str×V×Bool)) (b:Bool) (x:Str),zx H0 rw RB/\wZ ps RB=some (b,x)/\∀dx H',jz rw H0 H'->H' dx=some (.xd [("name",.str x)])->E (.ref (Vp t b)) (some dx) H'))->rW K t vs H Q E
@[irreducible] noncomputable def eX (K:Fr) (t:jr):Sp:=λvs H Q E=>rW K t vs H Q E
theorem uB (T:Txt w K mg t):dR P w K mg base (sX P w) 7 t.j6 (fdOf K t.j6) ["self", "net", "rows"] (eX K t):=by
 have sc:=T.gK.sc ["self", "net", "rows"];refine T.gK.F.ok2 sc (λvs H Q E h=>?_) (λcdv A outer s H vs Q E hr h=>?_)
 ·unfold eX at h;obtain⟨H0,r,dx,n,rw,ls,ps,rfl,_⟩:=h;rfl
 ·unfold eX at h;obtain⟨H0,r,dx,n,rw,ls,ps,rfl,hr1,s0,nr0,N,h⟩:=h;refine⟨_,(az (bw (Pk (Jt T) (hr.mono (by decide)) (by rfl) T.mD.m T.mD.F.kp T.mD.b .nil (sG λ_ _ _ h=>h) (aa (pv 1) (aa (pv 2) ak aj) aj)))
   (az (iG (pv 0) (pv 1) rfl)
   (az (iG (pv 0) (iI (T.aO.M T.jJ) (Al T) (hr.mono (by decide)) (by rfl) T.aO.m T.jJ.b .nil gj (aa (pv 1) (aa (pv 2) ak aj) aj)) rfl)
   (aA (iG (pv 0) au rfl))))),?_⟩
  rcases h with ⟨RW,hrw,hO,k⟩ | ⟨RB,b,x,hB,hdue,kE⟩
  ·obtain⟨RB,hB,hdue⟩:=hrw.b hO;refine⟨_,rfl,_,rfl,n,rw,ls,ps,RB,rfl,N.same s0,hB.same s0,λ_ H1 s1=>?_,λb x z=>by rw [hdue] at z;cases z⟩;have T0:=(Tr.start hr1).same s1;refine⟨_,Z,_,Z,r,_,dx,[],Z,s1 _ _ hr1,T.bx.c,T.bx.na.1,by show 0 <1000;decide,?_⟩;have T1:=T0.put (L1:=[]) (L2:=[]) (o':=.ins t.mK dx (aH "net" (.ref n) []));generalize upd H1 r (.ins t.mK dx (aH "net" (.ref n) []))=H2 at T1 ⊢;have s02:aK H0 H2:=λx o e=>T1.but x o (aC e nr0) (s0 x o e);have er2:=T1.all (r,.ins t.mK dx (aH "net" (.ref n) [])) (.head _);refine⟨_,Z,_,Z,λf dxf nf ndf nef=>?_⟩;have s3:aK H2 (upd (upd H2 dxf (.own f)) f (.ins t.cg dxf [])):=λb o e=>by rw [aG (aC e nf),aG (aC e ndf)];exact e
   have ef:(upd (upd H2 dxf (.own f)) f (.ins t.cg dxf [])) f=some (.ins t.cg dxf []):=aq;generalize upd (upd H2 dxf (.own f)) f (.ins t.cg dxf [])=H3 at s3 ef ⊢;have s03:=s02.trans s3;have nfr:r≠f:=aC er2 nf;refine UG ef s03 (s02.free nf) N hrw λH4 A eAf eAn b4 W4 fr4=>⟨Z,?_⟩;subst eAf;subst eAn;have er4:=b4 r _ nfr (s3 _ _ er2);have nrc:r∉A.cells ls ps:=W4.ncell er4 (by intro _ z;cases z) (by intro _ z;cases z);refine⟨_,Z,r,_,dx,_,Z,er4,T.bx.c,T.bx.na.2.1,lt_of_le_of_lt (iB (zero_le 0)) (by decide),?_⟩;have er5:upd H4 r (.ins t.mK dx (aH "flow" (.ref A.f) (aH "net" (.ref A.n) []))) r=some (.ins t.mK dx (aH "flow" (.ref A.f) (aH "net" (.ref A.n) []))):=aq;refine⟨_,Z,r,_,dx,_,Z,er5,T.bx.c,T.bx.na.2.2.1,lt_of_le_of_lt (iB (iB (zero_le 0))) (by decide),?_⟩;rw [tV];have s05:∀o:HO,aK H0 (upd H4 r o):=λo b u e=>by rw [aG (aC e nr0)];exact b4 b u (aC e (s02.free nf)) (s03 b u e)
   have fr0:∀a∈A.cells ls ps,H0 a=none:=λa ha=>s03.free (fr4 a ha);refine k _ A Z (s05 _) ⟨⟨dx,_,⟨aq,iB (iB (iB (zero_le 0)))⟩,⟨?_,?_⟩⟩,N.same λb u e=>?_,W4.ins nrc nfr,nfr⟩ fr0
   ·intro q hq;simp only [mem_cons,not_mem_nil,or_false] at hq;rcases hq with rfl | rfl | rfl
    ·dsimp only;(repeat first | (rw [aD,if_pos rfl];done) | rw [aD,if_neg (by decide +kernel)])
    ·dsimp only;(repeat first | (rw [aD,if_pos rfl];done) | rw [aD,if_neg (by decide +kernel)])
    ·dsimp only;rw [aD,if_pos rfl];rfl
   ·intro m hm;have hne:∀m∈(["step", "need_doors", "next_deed", "full_lane", "can_work", "works", "lane_now", "turn", "rows_left", "had", "taken"]:List Str),∀g∈(["turns", "flow", "net"]:List Str),¬m=g:=by decide +kernel
    have h:=hne m hm;rw [aD,if_neg (h _ (by simp)),aD,if_neg (h _ (by simp)),aD,if_neg (h _ (by simp))];rfl
   ·have hn:b∉r:: A.cells ls ps:=λz=>by
     rcases mem_cons.mp z with z | z
     ·rw [z,nr0] at e;cases e
     ·rw [fr0 b z] at e;cases e
    unfold bL;rw [if_neg hn];exact s05 _ b u e
  ·exact⟨_,rfl,_,rfl,n,rw,ls,ps,RB,rfl,N.same s0,hB.same s0,(λz=>by rw [hdue] at z;cases z),λb' x' z dx' H' hb e=>by rw [hdue] at z;cases z;exact kE dx' H' (λc u hn e=>hb c u hn (s0 c u e)) e⟩
theorem Th (xs:List V) (g:Nat):vI xs none (some (g:Int))=xs.take g:=by
 unfold vI;rw [HT.z6,HT.wC,List.drop_zero,Nat.sub_zero];rcases le_total g xs.length with h | h
 ·rw [Nat.min_eq_left h]
 ·rw [Nat.min_eq_right h,take_of_length_le h,take_of_length_le (le_refl _)]
inductive uy (K:Fr) (t:jr) (vs:List V) (H:Hp) (Q:VK) (E_:XK):Prop where
 | mk:∀(f n E G Kp D Rw l:Addr) (ed gd:List (Key×V)) (x:Str) (vs':List V) (g:Nat),vs=[.ref f,.str x]->nC K t H f n E G Kp D Rw->H E=some (.dK ed)->H G=some (.dK gd)->b7 ed (Sum.inr x)=some (.ref l)->b7 gd (Sum.inr x)=some (.int g)->bK K H l vs'->(∀p,H p=none->Q (.ref p) (upd H p (.lst (vs'.take g))))->uy K t vs H Q E_
theorem Cw (T:Txt w K mg t):FO P w K mg base 1 t.pL ["self", "lane"] (uy K t):=by have sc:=T.pK.sc ["self", "lane"];refine T.pK.F.ok sc ln (λ_ _ _ _ H vs Q E hr h=>?_);obtain⟨f,n,E,G,Kp,D,Rw,l,ed,gd,x,vs',g,rfl,N,hE,hG,h3,h4,h5,k⟩:=h;refine⟨_,(aA (aN (j4 ut (cM hr.u1 (aW (pv 0) Z) (pv 1) (λ_ _=>Z)) ug (j9 (cM hr.u1 (aW (pv 0) Z) (pv 1) (λ_ _=>Z)))))),?_⟩;obtain⟨dx,fs,h1,h2⟩:=id N.ex;refine⟨_,Z,f,_,dx,fs,_,Z,h1,T.aO.c,T.aO.na.2.1,h2.has ("ever",.ref E) (by simp),_,Z,E,_,Z,(by rw [<-h3];exact d8.k (k:=Sum.inr x) hE),?_⟩;refine⟨_,Z,f,_,dx,fs,_,Z,h1,T.aO.c,T.aO.na.2.2.1,h2.has ("gone",.ref G) (by simp),_,Z,G,_,Z,(by rw [<-h4];exact d8.k (k:=Sum.inr x) hG),?_⟩;refine⟨_,Z,l,vs',Z,h5,λp hp=>?_⟩;rw [Th];exact k p hp
inductive Fe (K:Fr) (t:jr) (vs:List V) (H:Hp) (Q:VK) (E:XK):Prop where
 | mk:∀(r:Addr) (n:Nat) (A:mU) (ls:List aJ) (ps:List PD) (S:FS) (x:Str),vs=[.ref r,.str x]->oZ t H r A.n A.f n->fV K t H A.n ls ps->dO K t H A ls ps S->(((∃l∈ls,l.name=x/\∀H' p,aK H H'->H p=none->H' p=some (.lst ((S.ev l.name).map V.int))->Q (.ref p) H')∨(x∉ls.map (·.name)/\∀dx H',aK H H'->H' dx=some (.xd [("name",.str x)])->E (.ref t.bG) (some dx) H')))->Fe K t vs H Q E
theorem DX (T:Txt w K mg t):dR P w K mg base (sX P w) 4 t.wI (fdOf K t.wI) ["self", "name"] (Fe K t):=by
 have sc:=T.pq.sc ["self", "name"];refine T.pq.F.ok2 sc ln (λ_ _ _ _ H vs Q E hr h=>?_);obtain⟨r,n,A,ls,ps,S,x,rfl,hR,N,W,h⟩:=h;refine⟨_,(az (bw (d7 (aW (pv 0) Z) T.aX.c (T.bR.me T.aX.me.2.2.2.2.2.2.1) (fL T) (hr.mono (by decide)) T.bR.b .nil (sG λ_ _ _ h=>h) (aa (pv 1) ak aj)))
  (aA (aN (fB tM (by rfl) T.u9 qO (aa (cM hr.u1 (aW (aW (pv 0) rfl) rfl) (pv 1) (λ_ _=>rfl)) ak aF))))),?_⟩
 obtain⟨dxn,fsn,R,F0,Pd,Gn,Tk,FL,PL,Wn⟩:=id N;obtain⟨dxr,fsr,R0⟩:=id hR;refine⟨_,Z,r,_,dxr,fsr,_,Z,R0.1.1,T.bx.c,T.bx.na.1,R0.2.has ("net",.ref A.n) (by simp),A.n,dxn,fsn,Z,Wn.obj,Wn.fl.no _ (by decide +kernel),_,Z,A.n,ls,ps,x,Z,N,?_⟩;rcases h with ⟨l,hl,rfl,k⟩ | h
 ·refine .inl ⟨mem_map.mpr ⟨l,hl,Z⟩,λH1 s1=>?_⟩;obtain⟨dxr,fsr,R1⟩:=hR.same s1;have W1:=W.same s1;obtain⟨dx,fs,h1,h2⟩:=id W1.at'.ex;have va:=tY (ea:=A.ea) Wn.fit.whole.nod hl;refine⟨_,rfl,r,_,dxr,fsr,_,rfl,R1.1.1,T.bx.c,T.bx.na.2.1,R1.2.has ("flow",.ref A.f) (by simp),A.f,_,dx,fs,_,rfl,h1,T.aO.c,T.aO.na.2.1,h2.has ("ever",.ref A.E) (by simp),_,rfl,A.E,_,rfl,(by rw [<-va];exact d8.k (k:=Sum.inr l.name) W1.ever),A.ea l.name,_,rfl,.inl (bK.of (W1.lists l hl)),λp hp=>k _ p (s1.trans (aB hp)) (s1.free hp) aq⟩
 ·exact .inr h
inductive yX (K:Fr) (t:jr) (vs:List V) (H:Hp) (Q:VK) (E:XK):Prop where
 | mk:∀(r:Addr) (n:Nat) (A:mU) (ls:List aJ) (ps:List PD) (S:FS) (x:Str),vs=[.ref r,.str x]->oZ t H r A.n A.f n->fV K t H A.n ls ps->dO K t H A ls ps S->(((∃p∈ps,∃y,p.name=x/\p.kind=1/\p.ins=[y]/\∀H' u,aK H H'->H u=none->H' u=some (.lst (((S.ev y).take (S.g y)).map V.int))->Q (.ref u) H')∨(V.str x∉bM ps "take" /\∀dx H',aK H H'->H' dx=some (.xd [("name",.str x)])->E (.ref t.bG) (some dx) H')))->yX K t vs H Q E
theorem Jf (T:Txt w K mg t):dR P w K mg base (sX P w) 4 t.qM (fdOf K t.qM) ["self", "name"] (yX K t):=by
 have sc:=T.qD.sc ["self", "name"];refine T.qD.F.ok2 sc ln (λ_ _ _ _ H vs Q E hr h=>?_);obtain⟨r,n,A,ls,ps,S,x,rfl,hR,N,W,h⟩:=h;refine⟨_,(az (bQ (aZ fX (pv 1) (O7 (aW (pv 0) rfl) T.aX T.aX.me.2.2.2.2.2.1 (zJ T) T.qR hr) (by with_unfolding_all rfl))
   (aA (ph T.su (fJ T) (hr.mono (by decide)) (by rfl) T.lH T.dF.b gj (aa (pv 1) ak aj)))
   bz)
  (aA (aN (Qp (aW (pv 0) rfl) T.aO T.aO.me.2.2.2.2.2.2.2.2.2.1 (Cw T) T.pK hr (aa (aU dI (aW (d7 (aW (pv 0) rfl) T.aX.c (T.cH.me T.aX.me.2.2.2.2.2.2.2.2.2.1) (iQ T) (hr.mono (by decide)) T.cH.b .nil (sG λ_ _ _ h=>h) (aa (pv 1) ak aj)) rfl) au (λ_ _=>rfl)) ak aF))))),?_⟩
 obtain⟨dxn,fsn,R,F0,Pd,Gn,Tk,FL,PL,Wn⟩:=id N;have F:=Wn.fit;obtain⟨dxr,fsr,R0⟩:=id hR;refine⟨_,Z,_,Z,r,_,dxr,fsr,_,Z,R0.1.1,T.bx.c,T.bx.na.1,R0.2.has ("net",.ref A.n) (by simp),A.n,dxn,fsn,Z,Wn.obj,Wn.fl.no _ (by decide +kernel),A.n,ls,ps,Z,N,λu nu=>?_⟩;have s1:=aB (o:=.lst (bM ps "take")) nu;have eu:upd H u (.lst (bM ps "take")) u=some (.lst (bM ps "take")):=aq;generalize upd H u (.lst (bM ps "take"))=H1 at s1 eu ⊢;have fl:(bM ps "take").all oG=true:=by rw [all_eq_true];intro v hv;obtain⟨p,_,rfl⟩:=mem_map.mp hv;rfl
 refine⟨u,_,Z,.inl (bK.of eu),Z,fl,_,Z,?_⟩;rw [kd_in];rcases h with ⟨p,hp,y,rfl,h1k,ei,k⟩ | ⟨hx,kE⟩
 ·obtain⟨l,hl,rfl⟩:=F.inL hp (show y∈p.ins ++ p.outs by rw [ei];simp);rw [decide_eq_true (p:=V.str p.name∈bM ps "take") (mem_map.mpr ⟨p,mem_filter.mpr ⟨hp,by rw [h1k];rfl⟩,rfl⟩)];refine cj ?_;obtain⟨dxr,fsr,R1⟩:=hR.same s1;have W1:=W.same s1;obtain⟨dx,fs,h1,h2⟩:=id W1.at'.ex;have Wn1:=Wn.same s1;refine⟨_,Z,r,_,dxr,fsr,_,Z,R1.1.1,T.bx.c,T.bx.na.2.1,R1.2.has ("flow",.ref A.f) (by simp),A.f,dx,fs,Z,h1,h2.no _ (by decide +kernel),_,Z,r,_,dxr,fsr,_,Z,R1.1.1,T.bx.c,T.bx.na.1,R1.2.has ("net",.ref A.n) (by simp),A.n,dxn,fsn,Z,Wn1.obj,Wn1.fl.no _ (by decide +kernel),_,Z,A.n,ls,ps,p.name,Z,Wn1.s,.inl ⟨p,hp,Z,λH2 q s2 P2=>?_⟩⟩;obtain⟨dxp,tn,ti,to,p1,p2,p3,p4⟩:=id P2.ex;have W2:=W1.same s2;refine⟨q,_,dxp,_,_,rfl,p1,iD T p.kind,yf T p.kind,rP _ _ _ _,ti,p.ins.map V.str,0,.str l.name,rfl,rfl,p3,by rw [ei];exact aM (j:=0) rfl,?_⟩;refine⟨A.f,A.n,A.E,A.G,A.Kp,A.D,A.Rw,A.ea l.name,_,_,l.name,_,_,Z,W2.at',W2.ever,W2.gone,tY F.whole.nod hl,pB F.whole.nod hl,bK.of (W2.lists l hl),λv hv=>?_⟩;rw [<-List.map_take];exact k _ v ((s1.trans s2).trans (aB hv)) ((s1.trans s2).free hv) aq
 ·rw [decide_eq_false hx];refine gm ?_;refine⟨_,Z,by show 1<=1000;decide,λy ny n0=>⟨y,_,Z,aq,λdx' nd ne=>⟨Z,y,dx',Z,n0,by rw [aG ne.symm];exact aq,?_⟩⟩⟩;have rz:=raised (fs:=[(("name" :Str),V.str x)]) ny nd ne;exact kE dx' _ (s1.trans rz.1) rz.2
inductive sH (K:Fr) (t:jr) (vs:List V) (H:Hp) (Q:VK) (E_:XK):Prop where
 | mk:∀(f n E G Kp D Rw l:Addr) (ed gd:List (Key×V)) (x:Str) (vs':List V) (g:Nat),vs=[.ref f,.str x]->nC K t H f n E G Kp D Rw->H Rw=some (.dK ed)->H D=some (.dK gd)->b7 ed (Sum.inr x)=some (.ref l)->b7 gd (Sum.inr x)=some (.int g)->bK K H l vs'->(∀p,H p=none->Q (.ref p) (upd H p (.lst (vs'.drop g))))->sH K t vs H Q E_
theorem Af (T:Txt w K mg t):FO P w K mg base 1 t.mZ ["self", "door"] (sH K t):=by have sc:=T.nW.sc ["self", "door"];refine T.nW.F.ok sc ln (λ_ _ _ _ H vs Q E hr h=>?_);obtain⟨f,n,E,G,Kp,D,Rw,l,ed,gd,x,vs',g,rfl,N,hE,hG,h3,h4,h5,k⟩:=h;refine⟨_,(aA (aN (j4 ut (cM hr.u1 (aW (pv 0) Z) (pv 1) (λ_ _=>Z)) (j9 (cM hr.u1 (aW (pv 0) Z) (pv 1) (λ_ _=>Z))) ug))),?_⟩;obtain⟨dx,fs,h1,h2⟩:=id N.ex;refine⟨_,Z,f,_,dx,fs,_,Z,h1,T.aO.c,T.aO.na.2.2.2.2.2.1,h2.has ("rows",.ref Rw) (by simp),_,Z,Rw,_,Z,(by rw [<-h3];exact d8.k (k:=Sum.inr x) hE),?_⟩;refine⟨_,Z,f,_,dx,fs,_,Z,h1,T.aO.c,T.aO.na.2.2.2.2.1,h2.has ("done",.ref D) (by simp),_,Z,D,_,Z,(by rw [<-h4];exact d8.k (k:=Sum.inr x) hG),?_⟩;refine⟨_,Z,l,vs',Z,h5,λp hp=>?_⟩;rw [K1];exact k p hp
structure FT (H:Hp) (D:Addr) (ra:Str->Addr) (ps:List PD) (S:FS):Prop where
 dict:H D=some (.dK (Cy ra ps))
 lists:∀p∈ps,p.kind=0->H (ra p.name)=some (.lst (((S.r p.name).drop (S.d p.name)).map V.int))
theorem FT.same {H H':Hp} {D:Addr} {ra:Str->Addr} {ps:List PD} {S:FS} (h:FT H D ra ps S) (s:aK H H'):FT H' D ra ps S:=⟨s _ _ h.dict,λp hp h0=>s _ _ (h.lists p hp h0)⟩
inductive sI (K:Fr) (t:jr) (vs:List V) (H:Hp) (Q:VK) (E:XK):Prop where
 | mk:∀(r:Addr) (n:Nat) (A:mU) (ls:List aJ) (ps:List PD) (S:FS),vs=[.ref r]->oZ t H r A.n A.f n->fV K t H A.n ls ps->dO K t H A ls ps S->(∀(H':Hp) (D:Addr) (ra:Str->Addr),aK H H'->FT H' D ra ps S->H D=none->Q (.ref D) H')->sI K t vs H Q E
theorem Aw (T:Txt w K mg t):FO P w K mg base 4 t.mX ["self"] (sI K t):=by
 have sc:=T.nj.sc ["self", "left", "door"];refine T.nj.F.ok sc ln (λ_ _ _ _ H vs Q E hr h=>?_);obtain⟨r,n,A,ls,ps,S,rfl,hR,N,W,k⟩:=h;refine⟨_,(az (sN sc 1 iW)
  (az (fC PassesOwn.never rfl (bT (O7 (aW (pv 0) rfl) T.aX T.aX.me.2.2.2.2.1 (oM T) T.jT hr)) (gN sc 2)
   (aA (jj hr.u1 (pv 1) (pv 2) (Qp (aW (pv 0) rfl) T.aO T.aO.me.2.2.2.2.2.2.2.2.2.2.1 (Af T) T.nW hr (aa (pv 2) ak aj)) rfl)))
  (aA (aN (pv 1))))),?_⟩
 have hz:sizeLine=16777216:=sizeLine_eq;have F:Ma ls ps:=by obtain⟨_,_,_,_,_,_,_,_,_,Wn⟩:=N;exact Wn.fit
 have p16:=F.p16;refine λD nD=>?_;have s1:=aB (o:=.dK []) nD;have eD:upd H D (.dK []) D=some (.dK []):=aq;have sC:aK H (bL [D] (upd H D (.dK []))):=λb o e=>f9 (s1 _ _ e) (by simpa using aC e nD);generalize upd H D (.dK [])=H1 at s1 eD sC ⊢;obtain⟨dxn,fsn,R,F0,Pd,Gn,Tk,FL,PL,Wn⟩:=N.same s1;obtain⟨dxr,fsr,R1⟩:=hR.same s1;refine⟨_,Z,r,_,dxr,fsr,_,Z,R1.1.1,T.bx.c,T.bx.na.1,R1.2.has ("net",.ref A.n) (by simp),A.n,dxn,fsn,Z,Wn.obj,Wn.fl.no _ (by decide +kernel),A.n,ls,ps,Z,Wn.s,λl nl=>?_⟩;have ePg:bM ps "give" =(jM ps).map λp=>V.str p.name:=by unfold bM;rw [NK F.pok]
 rw [ePg];have lgP:(jM ps).length<=16:=by have:=length_filter_le (λp:PD=>decide (p.kind=0)) ps;unfold jM;lia
 have nlD:l∉[D]:=by simp;intro z;rw [z,eD] at nl;cases nl
 have eD2:upd H1 l (.lst ((jM ps).map λp=>V.str p.name)) D=some (.dK []):=aB nl _ _ eD;have el:bL [D] (upd H1 l (.lst ((jM ps).map λp=>V.str p.name))) l=some (.lst ((jM ps).map λp=>V.str p.name)):=f9 aq nlD;have sC2:=sC.trans (Dc (E:=[D]) (o:=.lst ((jM ps).map λp=>V.str p.name)) nl);generalize upd H1 l (.lst ((jM ps).map λp=>V.str p.name))=H2 at eD2 el sC2 ⊢;refine⟨l,Z,⟨_,bK.of (dj _ _ el)⟩,fG (K:=K) (a:=l) (xs:=(jM ps).map λp=>V.str p.name) (λj σ H'=>(∃v2,σ=[some (.ref r),some (.ref D),v2])/\aK (bL [D] H2) (bL [D] H')/\∃RL:List (PD×Addr),RL.map (·.1)=(jM ps).take j/\H' D=some (.dK (RL.map λq=>((Sum.inr q.1.name:Key),V.ref q.2)))/\∀q∈RL,bL [D] H' q.2=some (.lst (((S.r q.1.name).drop (S.d q.1.name)).map V.int))) ⟨⟨none,Z⟩,aK.refl _,[],Z,eD2,by simp⟩ (λj σ H' _ h=>bK.of (dj _ _ (h.2.1 _ _ el))) ?_ ?_⟩
 ·rintro j x σ H3 hx ⟨⟨w2,rfl⟩,c3,RL,eRL,eD3,hRL⟩;rw [getElem?_map] at hx;obtain⟨p,hpj,rfl⟩:=map_eq_some_iff.mp hx;have hf:=mem_filter.mp (mem_of_getElem? hpj);have h0:p.kind=0:=by simpa using hf.2
  have s3:=(sC2.trans c3).trans dj;have W3:=W.same s3;obtain⟨dxr,fsr,R2⟩:=hR.same s3;obtain⟨dx,fs,h1,h2⟩:=id W3.at'.ex;have nin:=pH (Jz F.pnd) hpj;have lRL:RL.length<=16:=by have:=congrArg List.length eRL;rw [lM,length_take] at this;lia
  have vR:b7 (RL.map λq=>((Sum.inr q.1.name:Key),V.ref q.2)) (Sum.inr p.name)=none:=iy (by rw [map_map];intro z;obtain⟨q,hq,e⟩:=mem_map.mp z;have hm:q.1∈RL.map (·.1):=mem_map.mpr ⟨q,hq,rfl⟩;rw [eRL] at hm;exact nin (mem_map.mpr ⟨q.1,hm,by injection e⟩))
  refine⟨_,Z,r,_,dxr,fsr,_,Z,R2.1.1,T.bx.c,T.bx.na.2.1,R2.2.has ("flow",.ref A.f) (by simp),A.f,dx,fs,Z,h1,h2.no _ (by decide +kernel),_,Z,A.f,A.n,A.E,A.G,A.Kp,A.D,A.Rw,A.ra p.name,_,_,p.name,_,S.d p.name,Z,W3.at',W3.rows,W3.done,yR F.pnd hf.1 h0,sV (k:=λx=>(S.d x:Int)) F.pnd hf.1,bK.of (W3.rlst p hf.1 h0),λu nu=>?_⟩;rw [<-List.map_drop];have nuD:u≠D:=λz=>by rw [z,eD3] at nu;cases nu
  refine⟨_,Z,_,Z,D,_,Z,sO.k (k:=Sum.inr p.name) (by rw [aG (Ne.symm nuD)];exact eD3) (by rw [lM];lia),?_⟩;rw [kW _ vR];refine⟨⟨_,rfl⟩,by rw [eY (by simp)];exact c3.trans (Dc nu),RL ++ [(p,u)],by rw [map_append,eRL,take_succ,hpj];rfl,by rw [aq,map_append];rfl,λq hq=>?_⟩;rw [eY (by simp)];rcases mem_append.mp hq with h | h
  ·exact Dc nu _ _ (hRL q h)
  ·rw [mem_singleton] at h;subst h;exact f9 aq (by simpa using nuD)
 rintro σ H3 ⟨⟨w2,rfl⟩,c3,RL,eRL,eD3,hRL⟩;rw [lM,take_length] at eRL;have nR:(RL.map λq=>q.1.name).Nodup:=by
  have:(RL.map (·.1)).map (·.name)=RL.map λq=>q.1.name:=by rw [map_map];rfl
  rw [<-this,eRL];exact Jz F.pnd
 refine⟨_,Z,k H3 D (xO (·.name) RL) ((sC2.trans c3).trans dj) ⟨?_,λp hp h0=>?_⟩ nD⟩
 ·have:Cy (xO (·.name) RL) ps=RL.map λq=>((Sum.inr q.1.name:Key),V.ref q.2):=by unfold Cy;rw [<-eRL,map_map];refine map_congr_left λq hq=>?_;show((Sum.inr q.1.name:Key),V.ref (xO (·.name) RL q.1.name))=_;rw [show xO (·.name) RL q.1.name=q.2 from pR nR hq]
  rw [this];exact eD3
 ·have hm:p∈RL.map (·.1):=by rw [eRL];exact mem_filter.mpr ⟨hp,by simp [h0]⟩
  obtain⟨q,hq,rfl⟩:=mem_map.mp hm;rw [show xO (·.name) RL q.1.name=q.2 from pR nR hq];exact dj _ _ (hRL q hq)
theorem wL {E:List Addr} {H H':Hp} (s:aK H H'):aK (bL E H) (bL E H'):=λb o e=>by
 have hb:b∉E:=λz=>by unfold bL at e;rw [if_pos z] at e;cases e
 exact f9 (s _ _ (dj _ _ e)) hb
theorem uJ.same {H H':Hp} {r:Addr} {n:Nat} {A:mU} {ls:List aJ} {ps:List PD} {S:FS} (h:uJ K t H r n A ls ps S) (s:aK H H'):uJ K t H' r n A ls ps S:=⟨h.run.same s,h.net.same (wL s),h.flow.same s,h.ne⟩
theorem uJ.out {H:Hp} {r:Addr} {n:Nat} {A:mU} {ls:List aJ} {ps:List PD} {S:FS} (h:uJ K t H r n A ls ps S) {a:Addr} (ha:H a=none):a∉r:: A.cells ls ps:=λz=>by
 rcases mem_cons.mp z with rfl | z
 ·obtain⟨_,_,h1,_⟩:=h.run;rw [ha] at h1;cases h1.1
 ·exact h.flow.cell ha z
inductive Asks (K:Fr) (H:Hp) (ls:List aJ) (ps:List PD):Int->V->Option Str->Prop
 | can (x:Str) {o:Option Str}:(if x∈ps.map (·.name) then none else some x)=o->Asks K H ls ps 0 (.str x) o
 | works (x:Str) {o:Option Str}:(if x∈ps.map (·.name) then none else some x)=o->Asks K H ls ps 1 (.str x) o
 | taken (x:Str) {o:Option Str}:(if V.str x∈bM ps "take" then none else some x)=o->Asks K H ls ps 2 (.str x) o
 | had (x:Str) {o:Option Str}:(if x∈ls.map (·.name) then none else some x)=o->Asks K H ls ps 3 (.str x) o
 | now (x:Str) {o:Option Str}:(if x∈ls.map (·.name) then none else some x)=o->Asks K H ls ps 4 (.str x) o
 | step (L:Addr) (xs:List Str) (x:Str):bK K H L (xs.map V.str)->xs.find? (MT ps)=some x->Asks K H ls ps 5 (.ref L) (some x)
theorem Vt {H:Hp} {Q:VK} {E:XK} {r:Addr} {n:Nat} {A:mU} {ls:List aJ} {ps:List PD} {S:FS} {L:Addr} {xs:List Str} {x:Str} (R:uJ K t H r n A ls ps S) (hL:bK K H L (xs.map V.str)) (hx:xs.find? (MT ps)=some x) (k:∀dx H',aK H H'->H' dx=some (.xd [("name",.str x)])->E (.ref t.bG) (some dx) H'):iT K t [.ref r,.ref L] H Q E:=by unfold iT;exact⟨0,r,n,A,ls,ps,S,L,xs,Z,R,hL,.inr ⟨x,hx,k⟩⟩
theorem YJ {α:Type} {l:List α} (h:l.length=1):∃x,l=[x]:=List.length_eq_one_iff.mp h
inductive uG (K:Fr) (t:jr) (vs:List V) (H:Hp) (Q:VK) (E:XK):Prop where
 | mk:∀(b:Nat) (r:Addr) (n:Nat) (A:mU) (ls:List aJ) (ps:List PD) (S:FS) (w:Int) (v:V) (o:Option Str),vs=[.int w,.ref r,v]->uJ K t H r n A ls ps S->Mw b ls ps S->Asks K H ls ps w v o->(∀H' u,aK H H'->Dp H' u o->Q u H')->uG K t vs H Q E
theorem uD (T:Txt w K mg t):FO P w K mg base 8 t.uR ["_law_way", "_law_run", "_law_name"] (uG K t):=by
 have sc:=T.jV.sc ["_law_way", "_law_run", "_law_name", "_law_told", "e"];refine T.jV.F.ok sc ln (λ_ _ _ _ H vs Q E hr h=>?_);obtain⟨b,r,n,A,ls,ps,S,w,v,o,rfl,R,O,h,k⟩:=h;refine⟨_,(az (sN sc 3 nQ)
  (az (dM (Qj rfl rfl rfl (λ_ _ _ hx=>(aA (dM (bQ (aZ gP (pv 0) au (bN _))
    (aA (bw (rK (pv 1) T.bx.c (T.kY.me T.bx.me.2.2.2.2.2.1) (CP T) (hr.mono (by decide)) T.kY.b hx (aa (pv 2) ak aj))))
    (aA (dM (bQ (aZ gP (pv 0) au (bN _))
     (aA (bw (rK (pv 1) T.bx.c (T.jP.me T.bx.me.2.2.2.2.2.2.1) (yO T) (hr.mono (by decide)) T.jP.b hx (aa (pv 2) ak aj))))
     (aA (dM (bQ (aZ gP (pv 0) au (bN _))
      (aA (bw (rK (pv 1) T.bx.c (T.qD.me T.bx.me.2.2.2.2.2.2.2.2.2.2.1) (Jf T) (hr.mono (by decide)) T.qD.b hx (aa (pv 2) ak aj))))
      (aA (dM (bQ (aZ gP (pv 0) au (bN _))
       (aA (bw (rK (pv 1) T.bx.c (T.pq.me T.bx.me.2.2.2.2.2.2.2.2.2.1) (DX T) (hr.mono (by decide)) T.pq.b hx (aa (pv 2) ak aj))))
       (aA (dM (bQ (aZ gP (pv 0) au (bN _))
        (aA (bw (rK (pv 1) T.bx.c (T.gW.me T.bx.me.2.2.2.2.2.2.2.1) (uA T) (hr.mono (by decide)) T.gW.b hx (aa (pv 2) ak aj))))
        (aA (bw (rK (pv 1) T.bx.c (T.pG.me T.bx.me.2.2.2.2.1) (Bm T) (hr.mono (by decide)) T.pG.b hx (aa (pv 2) ak aj))))))))))))))))))))
   (Yk (K:=K) (i:=4) rfl sc.nd rfl rfl (by rfl) T.lH T.Hw (λ_=>(aA (sN sc 3 (b8 (aa (JV (K:=K) rfl (pv 4) rfl) (aa (bA (Ij (K:=K) rfl) (by rfl) T.jq iC (aa (pv 4) (aa (Dl (v:=.ref _) (by rfl) T.ur rfl) ak aj) aj)) (aa (bA (Ij (K:=K) rfl) (by rfl) T.jq iC (aa (pv 4) (aa (zu (by rfl) T.J1 Gw) ak aj) aj)) ak bh) bh) bu)))))
   Sw)))
  (aA (aN (pv 3))))),?_⟩
 have hz:sizeLine=16777216:=sizeLine_eq;have F:Ma ls ps:=by obtain⟨_,_,_,_,_,_,_,_,_,W⟩:=id R.netH;exact W.fit
 obtain⟨dxr,fsr,R1⟩:=id R.run;refine⟨λσ H'=>∃u,σ=[some (.int w),some (.ref r),some v,some u,none]/\aK H H'/\Dp H' u o,?_,?_⟩
 ·refine⟨λσ' cls dd H'=>σ'=[some (.int w),some (.ref r),some v,some .non,none]/\∃dx x,o=some x/\dd=some dx/\cls=.ref t.bG/\aK H H'/\H' dx=some (.xd [("name",.str x)]),?_,?_⟩
  ·rintro σ' cls dd H' ⟨rfl,dx,x,rfl,rfl,rfl,s',ed⟩;refine .inl ⟨Z,λy ny=>?_⟩;have ey:upd H' y (caught y t.bG (some dx)) y=some (caught y t.bG (some dx)):=aq;have e1:upd H' y (caught y t.bG (some dx)) dx=some (.xd [("name",.str x)]):=by rw [aG (aC ed ny)];exact ed
   have sz:=s'.trans (aB (o:=caught y t.bG (some dx)) ny);generalize upd H' y (caught y t.bG (some dx))=Hz at ey e1 sz ⊢;refine⟨_,Z,y,_,dx,_,_,Z,ey,e1,T.sW,T.Ac,Z,_,Z,y,_,some dx,_,_,Z,ey,T.sW.xc,T.wY,_,Z,y,_,some dx,_,_,Z,ey,T.sW.xc,T.vA,by show 3<=sizeLine;lia,λu nu=>?_⟩;exact⟨_,Z,sz.trans (aB nu),.tup aq⟩
  cases h with
  | can x e=>
   refine⟨_,⟨_,Z,Z,_,Z,gm ?_⟩,λ_ _ h=>h⟩;refine⟨_,Z,r,dxr,fsr,Z,R1.1.1,R1.2.no _ (by decide +kernel),_,Z,b,r,n,A,ls,ps,S,x,Z,R.run,R.netH,R.flow,?_⟩;by_cases hx:x∈ps.map (·.name)
   ·rw [if_pos hx] at e;subst e;obtain⟨p,hp,ex⟩:=mem_map.mp hx;exact .inl ⟨p,hp,ex,O,λH' s'=>⟨_,Z,s',.non⟩⟩
   ·rw [if_neg hx] at e;subst e;exact .inr ⟨hx,λdx H' s' ed=>⟨Z,dx,x,Z,Z,Z,s',ed⟩⟩
  | works x e=>
   refine⟨_,⟨_,Z,Z,_,Z,cj ⟨_,⟨_,Z,Z,_,Z,gm ?_⟩,λ_ _ h=>h⟩⟩,λ_ _ h=>h⟩;refine⟨_,Z,r,dxr,fsr,Z,R1.1.1,R1.2.no _ (by decide +kernel),_,Z,r,n,A,ls,ps,S,x,Z,R.run,R.netH,R.flow,?_⟩;by_cases hx:x∈ps.map (·.name)
   ·rw [if_pos hx] at e;subst e;obtain⟨p,hp,ex⟩:=mem_map.mp hx;exact .inl ⟨p,hp,ex,λH' s'=>⟨_,Z,s',.non⟩⟩
   ·rw [if_neg hx] at e;subst e;exact .inr ⟨hx,λdx H' s' ed=>⟨Z,dx,x,Z,Z,Z,s',ed⟩⟩
  | taken x e=>
   refine⟨_,⟨_,Z,Z,_,Z,cj ⟨_,⟨_,Z,Z,_,Z,cj ⟨_,⟨_,Z,Z,_,Z,gm ?_⟩,λ_ _ h=>h⟩⟩,λ_ _ h=>h⟩⟩,λ_ _ h=>h⟩;refine⟨_,Z,r,dxr,fsr,Z,R1.1.1,R1.2.no _ (by decide +kernel),_,Z,r,n,A,ls,ps,S,x,Z,R.run,R.netH,R.flow,?_⟩;by_cases hx:V.str x∈bM ps "take"
   ·rw [if_pos hx] at e;subst e;obtain⟨p,hp,ex⟩:=mem_map.mp hx;obtain⟨hp,hk⟩:=mem_filter.mp hp;have h1:p.kind=1:=by have:=Wc p.kind (F.pok p hp).1;rw [of_decide_eq_true hk,decide_eq_true rfl] at this;exact of_decide_eq_true this.symm
    obtain⟨y,ei⟩:=YJ (l:=p.ins) (by rw [(F.pok p hp).2.2.1,h1];rfl);exact .inl ⟨p,hp,y,V.str.inj ex,h1,ei,λH' u s' _ _=>⟨_,Z,s',.non⟩⟩
   ·rw [if_neg hx] at e;subst e;exact .inr ⟨hx,λdx H' s' ed=>⟨Z,dx,x,Z,Z,Z,s',ed⟩⟩
  | had x e=>
   refine⟨_,⟨_,Z,Z,_,Z,cj ⟨_,⟨_,Z,Z,_,Z,cj ⟨_,⟨_,Z,Z,_,Z,cj ⟨_,⟨_,Z,Z,_,Z,gm ?_⟩,λ_ _ h=>h⟩⟩,λ_ _ h=>h⟩⟩,λ_ _ h=>h⟩⟩,λ_ _ h=>h⟩;refine⟨_,Z,r,dxr,fsr,Z,R1.1.1,R1.2.no _ (by decide +kernel),_,Z,r,n,A,ls,ps,S,x,Z,R.run,R.netH,R.flow,?_⟩;by_cases hx:x∈ls.map (·.name)
   ·rw [if_pos hx] at e;subst e;obtain⟨p,hp,ex⟩:=mem_map.mp hx;exact .inl ⟨p,hp,ex,λH' u s' _ _=>⟨_,Z,s',.non⟩⟩
   ·rw [if_neg hx] at e;subst e;exact .inr ⟨hx,λdx H' s' ed=>⟨Z,dx,x,Z,Z,Z,s',ed⟩⟩
  | now x e=>
   refine⟨_,⟨_,Z,Z,_,Z,cj ⟨_,⟨_,Z,Z,_,Z,cj ⟨_,⟨_,Z,Z,_,Z,cj ⟨_,⟨_,Z,Z,_,Z,cj ⟨_,⟨_,Z,Z,_,Z,gm ?_⟩,λ_ _ h=>h⟩⟩,λ_ _ h=>h⟩⟩,λ_ _ h=>h⟩⟩,λ_ _ h=>h⟩⟩,λ_ _ h=>h⟩;refine⟨_,Z,r,dxr,fsr,Z,R1.1.1,R1.2.no _ (by decide +kernel),_,Z,r,n,A,ls,ps,S,x,Z,R.run,R.netH,R.flow,?_⟩;by_cases hx:x∈ls.map (·.name)
   ·rw [if_pos hx] at e;subst e;obtain⟨p,hp,ex⟩:=mem_map.mp hx;exact .inl ⟨p,hp,ex,λH' u s' _ _=>⟨_,Z,s',.non⟩⟩
   ·rw [if_neg hx] at e;subst e;exact .inr ⟨hx,λdx H' s' ed=>⟨Z,dx,x,Z,Z,Z,s',ed⟩⟩
  | step L xs x hL hx=>
   refine⟨_,⟨_,Z,Z,_,Z,cj ⟨_,⟨_,Z,Z,_,Z,cj ⟨_,⟨_,Z,Z,_,Z,cj ⟨_,⟨_,Z,Z,_,Z,cj ⟨_,⟨_,Z,Z,_,Z,cj ?_⟩,λ_ _ h=>h⟩⟩,λ_ _ h=>h⟩⟩,λ_ _ h=>h⟩⟩,λ_ _ h=>h⟩⟩,λ_ _ h=>h⟩;exact⟨_,Z,r,dxr,fsr,Z,R1.1.1,R1.2.no _ (by decide +kernel),_,Z,Vt R hL hx λdx H' s' ed=>⟨Z,dx,x,Z,Z,Z,s',ed⟩⟩
 ·rintro σ H' ⟨u,rfl,s',hu⟩;exact⟨_,Z,k _ u s' hu⟩
theorem Iz {H H0:Hp} {Q:VK} {E:XK} {r dx n rw:Addr} {ls:List aJ} {ps:List PD} {RW:List (Str×Addr×List Int)} (er:H r=some (.ins t.mK dx [])) (s0:aK H0 H) (nr:H0 r=none) (N:fV K t H0 n ls ps) (h1:lG H0 rw RW) (h2:DY ps RW)
  (k:∀H' A,A.n=n->aK H0 H'->uJ K t H' r 0 A ls ps (mV ls ps RW)->(∀a∈A.cells ls ps,H0 a=none)->Q .non H'):eX K t [.ref r,.ref n,.ref rw] H Q E:=by
 unfold eX;exact⟨H0,r,dx,n,rw,ls,ps,rfl,er,s0,nr,N,.inl ⟨RW,h1,h2,k⟩⟩
theorem TV {H H0:Hp} {Q:VK} {E:XK} {r dx n rw:Addr} {ls:List aJ} {ps:List PD} {RB:List (Str×V×Bool)} {b:Bool} {x:Str} (er:H r=some (.ins t.mK dx [])) (s0:aK H0 H) (nr:H0 r=none) (N:fV K t H0 n ls ps) (h1:zx H0 rw RB) (h2:wZ ps RB=some (b,x))
  (k:∀dx H',jz rw H0 H'->H' dx=some (.xd [("name",.str x)])->E (.ref (Vp t b)) (some dx) H'):eX K t [.ref r,.ref n,.ref rw] H Q E:=by
 unfold eX;exact⟨H0,r,dx,n,rw,ls,ps,rfl,er,s0,nr,N,.inr ⟨RB,b,x,h1,h2,k⟩⟩
noncomputable def Zg (b:Bool):Str:=if b then "no such" else "row"
inductive Ah (H:Hp):V->Option (Bool×Str)->Prop
 | non:Ah H .non none
 | tup {p:Addr} {b:Bool} {x:Str}:H p=some (.tup [.str (Zg b),.str x])->Ah H (.ref p) (some (b,x))
theorem Ah.same {H H':Hp} {v:V} {o:Option (Bool×Str)} (h:Ah H v o) (s:aK H H'):Ah H' v o:=by
 cases h with
 | non=>exact .non
 | tup e=>exact .tup (s _ _ e)
noncomputable def trD:Option (Bool×Str)->PyData
 | none=>.none
 | some (b,x)=>.tuple [.str (Zg b),.str x]
theorem Ah.dt {K:Fr} {H:Hp} {v:V} {o:Option (Bool×Str)} (h:Ah H v o):Dt K H v (trD o):=by
 cases h with
 | non=>exact .non
 | tup e=>exact .tuple (gq.of e) (.cons (.str _) (.cons (.str _) .nil))
theorem R8 {o:Option (Bool×Str)} (h:∀q,o=some q->PyData.strOk q.2=true):Gd 1 (trD o):=by
 cases o with
 | none=>exact⟨by decide,by decide,by decide⟩
 | some q=>
  exact .tuple λd hd=>by
   simp only [mem_cons,not_mem_nil,or_false] at hd;rcases hd with rfl | rfl
   ·exact .str 0 (by cases q.1 <;> decide +kernel)
   ·exact .str 0 (h q Z)
inductive gJ (K:Fr) (t:jr) (vs:List V) (H:Hp) (Q:VK) (E:XK):Prop where
 | mk:∀(n rw:Addr) (ls:List aJ) (ps:List PD) (o:Option (Bool×Str)),vs=[.ref n,.ref rw]->fV K t H n ls ps->(((o=none/\∃RW:List (Str×Addr×List Int),lG H rw RW/\DY ps RW)∨∃RB:List (Str×V×Bool),zx H rw RB/\wZ ps RB=o/\o≠none))->(∀H' u,jz rw H H'->Ah H' u o->Q u H')->gJ K t vs H Q E
theorem gw (T:Txt w K mg t):FO P w K mg base 9 t.pQ ["_law_net_here", "_law_rows"] (gJ K t):=by
 have sc:=T.dY.sc ["_law_net_here", "_law_rows", "_law_told", "e"];refine T.dY.F.ok sc ln (λ_ _ _ _ H vs Q E hr h=>?_);obtain⟨n,rw,ls,ps,o,rfl,N,h,k⟩:=h;refine⟨_,(az (sN sc 2 nQ)
  (az (dM (Qj rfl rfl rfl (λ_ _ _ hx=>(aA (bw (Us (T.bx.M T.gK) (uB T) (hr.mono (by decide)) (by rfl) T.bx.m T.gK.b hx (aa (pv 0) (aa (pv 1) ak aj) aj)))))
   (Yk (K:=K) (i:=3) rfl sc.nd rfl rfl (by rfl) T.lH T.Hw (λ_=>(aA (sN sc 2 (b8 (aa bH (aa (JV (K:=K) rfl (pv 3) rfl) ak bu) ao)))))
   (Yk (K:=K) (i:=3) rfl sc.nd rfl rfl (by rfl) T.Il T.Qz (λ_=>(aA (sN sc 2 (b8 (aa bH (aa (JV (K:=K) rfl (pv 3) rfl) ak bu) ao)))))
   Sw))))
  (aA (aN (pv 2))))),?_⟩
 have hz:sizeLine=16777216:=sizeLine_eq;refine⟨λσ H'=>∃u,σ=[some (.ref n),some (.ref rw),some u,none]/\jz rw H H'/\Ah H' u o,?_,?_⟩
 ·refine⟨λσ' cls dd H'=>σ'=[some (.ref n),some (.ref rw),some .non,none]/\∃dx b x,o=some (b,x)/\dd=some dx/\cls=.ref (Vp t b)/\jz rw H H'/\H' dx=some (.xd [("name",.str x)]),?_,?_⟩
  ·rintro σ' cls dd H' ⟨rfl,dx,b,x,rfl,rfl,rfl,hb,ed⟩;cases b with
   | true=>
    refine .inl ⟨Z,λy ny=>?_⟩;have ey:upd H' y (caught y t.bG (some dx)) y=some (caught y t.bG (some dx)):=aq;have e1:upd H' y (caught y t.bG (some dx)) dx=some (.xd [("name",.str x)]):=by rw [aG (aC ed ny)];exact ed
    have sz:=hb.trans (jz.of_same (aB (o:=caught y t.bG (some dx)) ny));generalize upd H' y (caught y t.bG (some dx))=Hz at ey e1 sz ⊢;refine⟨_,Z,y,_,dx,_,_,Z,ey,e1,T.sW,T.Ac,Z,by show 2<=sizeLine;lia,λu nu=>?_⟩;exact⟨_,Z,sz.trans (jz.of_same (aB nu)),.tup aq⟩
   | false=>
    refine .inr ⟨_,Z,T.Ba,.inl ⟨Z,λy ny=>?_⟩⟩;have ey:upd H' y (caught y t.fU (some dx)) y=some (caught y t.fU (some dx)):=aq;have e1:upd H' y (caught y t.fU (some dx)) dx=some (.xd [("name",.str x)]):=by rw [aG (aC ed ny)];exact ed
    have sz:=hb.trans (jz.of_same (aB (o:=caught y t.fU (some dx)) ny));generalize upd H' y (caught y t.fU (some dx))=Hz at ey e1 sz ⊢;refine⟨_,Z,y,_,dx,_,_,Z,ey,e1,T.Hc,T.Hs,Z,by show 2<=sizeLine;lia,λu nu=>?_⟩;exact⟨_,Z,sz.trans (jz.of_same (aB nu)),.tup aq⟩
  refine⟨_,Z,_,Z,λr dxr nr ndr ner=>?_⟩;have s1:aK H (upd (upd H dxr (.own r)) r (.ins t.mK dxr [])):=λb o e=>by rw [aG (aC e nr),aG (aC e ndr)];exact e
  rcases h with ⟨rfl,RW,h1,h2⟩ | ⟨RB,h1,h2,h3⟩
  ·exact Iz aq s1 nr N h1 h2 λH' A _ s' _ _=>⟨Z,_,Z,jz.of_same s',.non⟩
  ·obtain⟨⟨b,x⟩,rfl⟩:=Option.ne_none_iff_exists'.mp h3;exact TV aq s1 nr N h1 h2 λdx H' hb ed=>⟨Z,dx,b,x,Z,Z,Z,hb,ed⟩
 ·rintro σ H' ⟨u,rfl,hb,hu⟩;exact⟨_,Z,k _ u hb hu⟩
theorem yM {H:Hp} {a:Addr} {xs:List V} (e:H a=some (.lst xs)) (hp:∀v∈xs,Nv v=true) (h:xs.all Og=false):rH H (.ref a) false:=by have z:=rH.lst a xs e (λ_=>hp);rw [h,Bool.and_false] at z;exact z
theorem U9 {H:Hp} {a:Addr} {xs:List V} (e:H a=some (.lst xs)) (h:300 <xs.length):rH H (.ref a) false:=by have z:=rH.lst a xs e (λh'=>absurd h' (Nat.not_le_of_lt h));rw [decide_eq_false (Nat.not_le_of_lt h),Bool.false_and] at z;exact z
theorem K4 {H:Hp} {a:Addr} {ws:List Int} (e:H a=some (.lst (ws.map V.int))) (hl:ws.length<=300) (hb:∀v∈ws,0<=v/\v <1000000000):rH H (.ref a) true:=by
 have z:=rH.lst a _ e (λ_ v hv=>by obtain⟨i,_,rfl⟩:=mem_map.mp hv;rfl);rw [lM,decide_eq_true hl,Bool.true_and,all_eq_true.mpr λv hv=>by obtain⟨i,hi,rfl⟩:=mem_map.mp hv;show(decide _ && decide _)=true;rw [decide_eq_true (hb i hi).1,decide_eq_true (hb i hi).2];rfl] at z
 exact z
theorem Mm {H0 H:Hp} {Q:VK} {Ex:XK} {n rw:Addr} {ls:List aJ} {ps:List PD} {RB:List (Str×V×Bool)} {b:Bool} {x:Str} (N:fV K t H0 n ls ps) (s0:aK H0 H) (nrw:H0 rw=none) (hB:zx H rw RB) (hd:wZ ps RB=some (b,x))
  (k:∀H' u,aK H0 H'->Ah H' u (some (b,x))->Q u H'):gJ K t [.ref n,.ref rw] H Q Ex:=
 ⟨n,rw,ls,ps,_,rfl,N.same s0,.inr ⟨RB,hB,hd,by simp⟩,λH' u hb hu=>k H' u (λb o e=>hb b o (aC e nrw) (s0 b o e)) hu⟩
theorem Uw {H0 H:Hp} {Q:VK} {Ex:XK} {n rw a:Addr} {ls:List aJ} {ps:List PD} {x:Str} {ws:List Int} (N:fV K t H0 n ls ps) (s0:aK H0 H) (nrw:H0 rw=none) (ed:H rw=some (.dK [((Sum.inr x:Key),V.ref a)])) (ea:H a=some (.lst (ws.map V.int))) (hl:ws.length<=300) (hb:∀v∈ws,0<=v/\v <1000000000)
  (k:∀H' u,aK H0 H'->Ah H' u (if V.str x∈bM ps "give" then none else some (true,x))->Q u H'):gJ K t [.ref n,.ref rw] H Q Ex:=by
 by_cases hx:V.str x∈bM ps "give"
 ·rw [if_pos hx] at k;refine⟨n,rw,ls,ps,_,rfl,N.same s0,.inl ⟨rfl,[(x,a,ws)],⟨ed,?_,by simp,?_⟩,⟨?_,?_⟩⟩,λH' u hb hu=>k H' u (λb o e=>hb b o (aC e nrw) (s0 b o e)) hu⟩ <;> intro q hq <;> rw [mem_singleton] at hq <;> subst hq
  ·exact ea
  ·exact hl
  ·exact hx
  ·exact hb
 ·rw [if_neg hx] at k;refine Mm (RB:=[(x,.ref a,true)]) N s0 nrw ⟨ed,?_,by simp⟩ ?_ k
  ·intro q hq;rw [mem_singleton] at hq;subst hq;exact K4 ea hl hb
  ·unfold wZ;rw [find?_cons_of_pos (by unfold Vi;rw [decide_eq_false hx];rfl)]
theorem wD {H H':Hp} {a:Addr} {o:HO} (s:aK H H') (n:H a=none):aK H (upd H' a o):=λb u e=>by rw [aG (aC e n)];exact s b u e
theorem Yv {x y:Str} (h:x≠y) (v w:V):pI [] [((Sum.inr x:Key),v),(Sum.inr y,w)]=[((Sum.inr x:Key),v),(Sum.inr y,w)]:=by simp [pI,putK,h]
theorem Kl.ex {ps:List PD} (h:Kl ps):∃p∈ps,∃r,bM ps "give" =V.str p.name:: r:=by
 obtain⟨p,hp,h0⟩:=any_eq_true.mp h;have h0:p.kind=0:=by simpa using h0
 cases e:ps.filter (λp=>decide (cL p.kind= "give")) with
 | nil=>
  have:=List.filter_eq_nil_iff.mp e p hp;rw [h0] at this;exact absurd (by decide +kernel) this
 | cons q r=>
  refine⟨q,(mem_filter.mp (by rw [e];exact .head _)).1,r.map λp=>V.str p.name,?_⟩;unfold bM;rw [e];rfl
inductive qe (K:Fr) (t:jr) (vs:List V) (H:Hp) (Q:VK) (E:XK):Prop where
 | mk:∀(n G:Addr) (ls:List aJ) (ps:List PD) (x:Str) (c:Int),vs=[.ref n,.str x,.ref G,.int c]->fV K t H n ls ps->Kl ps->PyData.strOk x=true->H G=some (.lst (bM ps "give"))->(∀H',aK H H'->Q (.bl true) H')->qe K t vs H Q E
theorem zQ (T:Txt w K mg t):FO P w K mg base 10 t.rZ ["_law_net_here", "_law_name", "_law_gives", "_law_cell_here"] (qe K t):=by
 have sc:=T.lE.sc ["_law_net_here", "_law_name", "_law_gives", "_law_cell_here", "_law_due", "_law_bad"];refine T.lE.F.ok sc ln (λ_ _ _ _ H vs Q E hr h=>?_);obtain⟨n,G,ls,ps,x,c,rfl,N,hG,hx,eG,k⟩:=h;refine⟨_,(az (sN sc 4 nQ)
  (az (dM (bQ (aZ fX (pv 1) (pv 2) (by with_unfolding_all rfl))
   (aA (sN sc 4 (b8 (aa bH (aa (pv 1) ak aj) ao))))
   bz))
  (az (sN sc 5 (aU aV (bc (@aa _ _ _ _ _ (bc (aa (Z8 YQ au) ak J6)) (@aa _ _ _ _ _ (bc (aa (bB Nx au au) ak bU)) (@aa _ _ _ _ _ (bc (aa ir ak ao)) (@aa _ _ _ _ _ (bc (aa bH ak ao)) (@aa _ _ _ _ _ (bc (aa au (aa nQ ak ao) ao)) (@aa _ _ _ _ _ bH (@aa _ _ _ _ _ nQ (@aa _ _ _ _ _ (b8 (aa au (aa au ak ao) ao)) (@aa _ _ _ _ _ (bB TX (bc (aa au ak ao)) au) ak bU) cC) ao) ao) aQ) aQ) aQ) aQ) aQ)) (bB cB (eN (bf T) T.bj hr (aa (pv 3) (aa au ak ao) aj)) au) (λ_ _=>rfl)))
  (az (bQ (PW.pt (ww (aZ (Es hr.units) (eN (gw T) T.dY hr (aa (pv 0) (aa (wU (p8 (pv 1) (bc (aa au ak ao)) wM) rfl rfl (by simp) (by decide)) ak sy) aj)) (pv 4) (bN _)) (pP (aZ (Es hr.units) (eN (gw T) T.dY hr (aa (pv 0) (aa (wU (p8 (aU aV (pv 2) au (λ_ _=>rfl)) (pv 5) wM) rfl rfl (by simp) (by decide)) ak sy) aj)) (b8 (aa bH (aa (aU aV (pv 2) au (λ_ _=>rfl)) ak aF) ao)) (bN _)))))
   (aA (aN ir))
   bz)
  (az (bQ (jx (ym (pv 4)))
   (aA (aN (Ao (ym (eN (gw T) T.dY hr (aa (pv 0) (aa (wU (p8 (pv 1) (bB TX (bc (aa au ak ao)) au) wM) rfl rfl (by simp) (by decide)) ak sy) aj))))))
   bz)
  (aA (aN (tH (Yt hr.units) (eN (gw T) T.dY hr (aa (pv 0) (aa (@wU _ _ _ _ _ (@p8 _ _ _ _ _ _ _ _ _ (aU aV (pv 2) au (λ_ _=>rfl)) (pv 5) (@p8 _ _ _ _ _ _ _ _ _ (pv 1) (bc (aa au ak ao)) (@wM _ _))) rfl rfl (by simp) (by decide)) ak sy) aj)) (pv 4) (bN _))))))))),?_⟩
 have hz:sizeLine=16777216:=sizeLine_eq;have F:Ma ls ps:=by obtain⟨_,_,_,_,_,_,_,_,_,W⟩:=id N;exact W.fit
 obtain⟨g,hgm,gr,hg⟩:=hG.ex;have gok:=JM (F.pnm g hgm);have gin:V.str g.name∈bM ps "give" :=by rw [hg];exact .head _
 obtain⟨o,ho⟩:∃o,o=if V.str x∈bM ps "give" then none else some (true,x):=⟨_,rfl⟩;have go:Gd 1 (trD o):=R8 λq e=>by
  rw [ho] at e;by_cases h:V.str x∈bM ps "give"
  ·rw [if_pos h] at e;cases e
  ·rw [if_neg h] at e;cases e;exact hx
 have gb:Gd 1 (trD (some (false,g.name))):=R8 λq e=>by cases e;exact gok
 refine⟨λσ H'=>∃v,σ=[some (.ref n),some (.str x),some (.ref G),some (.int c),some v,none]/\aK H H'/\Ah H' v o,?_,?_⟩
 ·refine⟨_,rfl,_,rfl,G,_,rfl,.inl (bK.of eG),rfl,(by rw [Oc];exact rN _),_,rfl,?_⟩;show if (!inV (.str x) (bM ps "give"))=true then _ else _;rw [kd_in];by_cases h:V.str x∈bM ps "give"
  ·rw [decide_eq_true h];rw [if_pos h] at ho;exact cj ⟨_,Z,aK.refl _,by rw [ho];exact .non⟩
  ·rw [decide_eq_false h];rw [if_neg h] at ho;exact gm ⟨_,Z,by show 2<=sizeLine;lia,λp np=>⟨_,Z,aB np,by rw [ho];exact .tup (b:=true) aq⟩⟩
 rintro σ H1 ⟨v,rfl,s1,hv⟩;refine⟨_,Z,by show 1<=sizeLine;lia,λc0 n0=>?_⟩;have t0:=aB (o:=.lst [.int (-1)]) n0;have e0:upd H1 c0 (.lst [.int (-1)]) c0=some (.lst [.int (-1)]):=aq;generalize upd H1 c0 (.lst [.int (-1)])=G0 at t0 e0 ⊢;refine⟨_,_,Z,Z,⟨by decide,by decide,by decide⟩,by show 1<=sizeLine;lia,λc1 n1=>?_⟩;have t1:=aB (o:=.lst [.int ((10:Int) ^ (9:Int).toNat)]) n1;have e1:upd G0 c1 (.lst [.int ((10:Int) ^ (9:Int).toNat)]) c1=some (.lst [.int ((10:Int) ^ (9:Int).toNat)]):=aq;generalize upd G0 c1 (.lst [.int ((10:Int) ^ (9:Int).toNat)])=G1 at t1 e1 ⊢;refine⟨by show 1<=sizeLine;lia,λc2 n2=>?_⟩;have t2:=aB (o:=.lst [.bl true]) n2;have e2:upd G1 c2 (.lst [.bl true]) c2=some (.lst [.bl true]):=aq;generalize upd G1 c2 (.lst [.bl true])=G2 at t2 e2 ⊢;refine⟨by show 1<=sizeLine;lia,λc3 n3=>?_⟩;have t3:=aB (o:=.lst [.str "1"]) n3;have e3:upd G2 c3 (.lst [.str "1"]) c3=some (.lst [.str "1"]):=aq;generalize upd G2 c3 (.lst [.str "1"])=G3 at t3 e3 ⊢;refine⟨by show 2<=sizeLine;lia,λc4 n4=>?_⟩;have t4:=aB (o:=.lst [.int 4,.non]) n4;have e4:upd G3 c4 (.lst [.int 4,.non]) c4=some (.lst [.int 4,.non]):=aq;generalize upd G3 c4 (.lst [.int 4,.non])=G4 at t4 e4 ⊢;refine⟨by show 2<=sizeLine;lia,λc5 n5=>?_⟩;have t5:=aB (o:=.tup [.int 1,.int 2]) n5;have e5:upd G4 c5 (.tup [.int 1,.int 2]) c5=some (.tup [.int 1,.int 2]):=aq;generalize upd G4 c5 (.tup [.int 1,.int 2])=G5 at t5 e5 ⊢;refine⟨by show 1<=sizeLine;lia,λc6 n6=>?_⟩;have t6:=aB (o:=.lst [.int 7]) n6;have e6:upd G5 c6 (.lst [.int 7]) c6=some (.lst [.int 7]):=aq;generalize upd G5 c6 (.lst [.int 7])=G6 at t6 e6 ⊢;refine⟨c6,301,_,Z,Z,e6,by decide,by decide,by show 1 * 301<=sizeLine;lia,λc7 n7=>?_⟩;have t7:=aB (o:=.lst (List.replicate (301:Int).toNat [V.int 7]).flatten) n7;have e7:upd G6 c7 (.lst (List.replicate (301:Int).toNat [V.int 7]).flatten) c7=some (.lst (List.replicate (301:Int).toNat [V.int 7]).flatten):=aq;generalize upd G6 c7 (.lst (List.replicate (301:Int).toNat [V.int 7]).flatten)=G7 at t7 e7 ⊢;refine⟨by show 9<=sizeLine;lia,λc8 n8=>?_⟩;have t8:=aB (o:=.lst [.ref c0,.ref c1,.ref c2,.ref c3,.ref c4,.str "12",.non,.ref c5,.ref c7]) n8;have e8:upd G7 c8 (.lst [.ref c0,.ref c1,.ref c2,.ref c3,.ref c4,.str "12",.non,.ref c5,.ref c7]) c8=some (.lst [.ref c0,.ref c1,.ref c2,.ref c3,.ref c4,.str "12",.non,.ref c5,.ref c7]):=aq;generalize upd G7 c8 (.lst [.ref c0,.ref c1,.ref c2,.ref c3,.ref c4,.str "12",.non,.ref c5,.ref c7])=G8 at t8 e8 ⊢;have u8:∀b o,G7 b=some o->G8 b=some o:=t8;have u7:aK G6 G8:=t7.trans t8;have u6:aK G5 G8:=t6.trans u7;have u5:aK G4 G8:=t5.trans u6;have u4:aK G3 G8:=t4.trans u5;have u3:aK G2 G8:=t3.trans u4;have u2:aK G1 G8:=t2.trans u3;have u1:aK G0 G8:=t1.trans u2;have sE:=s1.trans (t0.trans u1);have hv8:=hv.same (t0.trans u1);have rb:∀v∈[V.ref c0,.ref c1,.ref c2,.ref c3,.ref c4,.str "12",.non,.ref c5,.ref c7],rH G8 v false:=λv hv=>by
  simp only [mem_cons,not_mem_nil,or_false] at hv;rcases hv with rfl | rfl | rfl | rfl | rfl | rfl | rfl | rfl | rfl
  ·exact yM (u1 _ _ e0) (by decide) (by decide)
  ·exact yM (u2 _ _ e1) (by decide) (by decide +kernel)
  ·exact yM (u3 _ _ e2) (by decide) (by decide)
  ·exact yM (u4 _ _ e3) (by decide) (by decide)
  ·exact yM (u5 _ _ e4) (by decide) (by decide)
  ·exact .str _
  ·exact .non
  ·exact .tup _ _ (u6 _ _ e5)
  ·exact U9 (u8 _ _ e7) (by rw [List.flatten_replicate_singleton,List.length_replicate];decide)
 have m0:=emod_nonneg (bW c 5) (show(9:Int)≠0 by decide);have m1:=emod_lt_of_pos (bW c 5) (show(0:Int) <9 by decide);obtain⟨i,hi,hi9⟩:∃i:Nat,bW c 5 % 9=(i:Int)/\i <9:=⟨(bW c 5 % 9).toNat,by lia,by lia⟩;obtain⟨bad,hbad⟩:∃bad,[V.ref c0,.ref c1,.ref c2,.ref c3,.ref c4,.str "12",.non,.ref c5,.ref c7][i]?=some bad:=⟨_,getElem?_eq_getElem hi9⟩;have rbad:=rb bad (mem_of_getElem? hbad);refine⟨_,Z,_,_,Z,_,_,Z,Z,by show(0:Int) <9;decide,c8,_,_,bad,Z,Z,bK.of e8,(by rw [hi];exact aM hbad),?_⟩;have N8:=N.same sE;have eG8:=sE _ _ eG;have at0:Ji (bM ps "give") 0=some (V.str g.name):=aM (j:=0) (by rw [hg];rfl);clear rb u8 u7 u6 u5 u4 u3 u2 u1 t0 t1 t2 t3 t4 t5 t6 t7 t8 n0 n1 n2 n3 n4 n5 n6 n7 n8 e0 e1 e2 e3 e4 e5 e6 e7 e8 hbad hv N eG;refine⟨_,rfl,λrw nrw=>⟨_,rfl,by show 1<=sizeLine;lia,λa na=>⟨(by rw [aG (aC aq na)];exact aq),[((Sum.inr x:Key),V.ref a)],rfl,by show 1<=15;decide,?_⟩⟩⟩;have nar:a≠rw:=Ne.symm (aC aq na);refine Uw (ws:=[1]) N8 (wD ((aB nrw).trans (aB na)) nrw) nrw aq (by rw [aG nar];exact aq) (by decide) (by decide) λH2 u2 s2 hu2=>?_;rw [<-ho] at hu2;refine⟨_,Z,_,_,hu2.dt,(hv8.same s2).dt,go.shaped (by decide),go.shaped (by decide),_,Z,?_⟩;rw [go.eq];refine cj ?_;clear na nar nrw hu2;have N2:=N8.same s2;have eG2:=s2 _ _ eG8;have hv2:=hv8.same s2;have rbad2:=rbad.same s2;refine⟨_,Z,λrw nrw=>⟨_,Z,G,_,_,_,Z,Z,bK.of (aB nrw _ _ eG2),at0,_,Z,aq,[((Sum.inr g.name:Key),bad)],Z,by show 1<=15;decide,?_⟩⟩;refine Mm (RB:=[(g.name,bad,false)]) (b:=false) (x:=g.name) N2 (wD (aB nrw) nrw) nrw ⟨aq,?_,by simp⟩ ?_ λH3 u3 s3 hu3=>?_
 ·intro q hq;rw [mem_singleton] at hq;subst hq;exact rbad2.same (wD (aB nrw) nrw)
 ·unfold wZ;rw [find?_cons_of_neg (by unfold Vi;rw [decide_eq_true gin];simp)];rfl
 refine⟨_,Z,G,_,_,_,Z,Z,bK.of (s3 _ _ eG2),at0,by show 2<=sizeLine;lia,λq nq=>?_⟩;have t4:=aB (o:=.tup [.str "row",.str g.name]) nq;refine⟨_,_,(hu3.same t4).dt,(Ah.tup (b:=false) aq).dt,gb.shaped (by decide),gb.shaped (by decide),_,Z,?_⟩;rw [gb.eq];refine cj ?_;have s4:=s3.trans t4;have N4:=N2.same s4;have eG4:=s4 _ _ eG2;have hv4:=hv2.same s4;have rbad4:=rbad2.same s4;have sE4:=sE.trans (s2.trans s4);generalize upd H3 q (.tup [.str "row",.str g.name])=H4 at N4 eG4 hv4 rbad4 sE4 ⊢;clear nrw hu3 t4 nq;by_cases h:V.str x∈bM ps "give"
 ·rw [if_pos h] at ho;subst ho;cases hv4;refine⟨_,Z,_,Z,gm ?_⟩;refine⟨_,Z,λrw nrw=>⟨_,Z,by show 1<=sizeLine;lia,λa na=>⟨a,300,_,Z,Z,aq,by decide,by decide,by show 1 * 300<=sizeLine;lia,λa2 na2=>⟨?_,[((Sum.inr x:Key),V.ref a2)],Z,by show 1<=15;decide,?_⟩⟩⟩⟩
  ·rw [aG (aC (by rw [aG (aC aq na)];exact aq) na2),aG (aC aq na)];exact aq
  have nar:a2≠rw:=Ne.symm (aC (by rw [aG (aC aq na)];exact aq) na2);refine Uw (ws:=List.replicate 300 7) N4 (wD (((aB nrw).trans (aB na)).trans (aB na2)) nrw) nrw aq ?_ (by rw [List.length_replicate];lia) (λv hv=>by rw [List.eq_of_mem_replicate hv];decide) λH5 u5 s5 hu5=>?_
  ·rw [aG nar,aq,show(List.replicate (300:Int).toNat [V.int 7]).flatten=List.replicate 300 (V.int 7) from List.flatten_replicate_singleton,List.map_replicate]
  rw [if_pos h] at hu5;cases hu5;exact k _ (sE4.trans s5)
 ·rw [if_neg h] at ho;subst ho;have ngx:g.name≠x:=λz=>h (z ▸ gin);have hv4':=hv4;cases hv4 with
  | tup ep=>
   refine⟨_,Z,_,Z,cj ?_⟩;refine⟨_,rfl,λrw nrw=>⟨_,rfl,G,_,_,_,rfl,rfl,bK.of (aB nrw _ _ eG4),at0,_,rfl,_,rfl,by show 1<=sizeLine;lia,λa na=>⟨(by rw [aG (aC aq na)];exact aq),[((Sum.inr g.name:Key),bad),(Sum.inr x,V.ref a)],rfl,by show 2<=15;decide,?_⟩⟩⟩;have nar:a≠rw:=Ne.symm (aC aq na);rw [Yv ngx];have sp:=wD (o:=.dK [((Sum.inr g.name:Key),bad),(Sum.inr x,V.ref a)]) ((aB (o:=.dK []) nrw).trans (aB (o:=.lst [.int 1]) na)) nrw;refine Mm (RB:=[(g.name,bad,false),(x,.ref a,true)]) (b:=true) (x:=x) N4 sp nrw ⟨aq,?_,by simpa using ngx⟩ ?_ λH5 u5 s5 hu5=>?_
   ·intro q hq;rcases mem_cons.mp hq with rfl | hq
    ·exact rbad4.same sp
    ·rw [mem_singleton] at hq;subst hq;exact K4 (ws:=[1]) (by rw [aG nar];exact aq) (by decide) (by decide)
   ·unfold wZ;rw [find?_cons_of_neg (by unfold Vi;rw [decide_eq_true gin];simp),find?_cons_of_pos (by unfold Vi;rw [decide_eq_false h];rfl)]
   refine⟨_,Z,_,_,hu5.dt,(hv4'.same s5).dt,go.shaped (by decide),go.shaped (by decide),?_⟩;rw [go.eq];exact k _ (sE4.trans s5)
noncomputable def Vm (S:FS) (l:aJ):PyData:=.list [.list ((S.ev l.name).map PyData.int),.list (((S.ev l.name).drop (S.g l.name)).map PyData.int)]
structure Dn (K:Fr) (H:Hp) (p:Addr) (D:Addr) (ls:List aJ) (ps:List PD) (S:FS) (n:Nat):Prop where
 all:∃(a b:Addr),H p=some (.lst [.ref a,.ref b,.int (n:Nat),.ref D])/\Dt K H (.ref a) (.list (ls.map (Vm S)))/\Dt K H (.ref b) (.list ((ps.map λp=>(S.d p.name:Int)).map PyData.int))
 left:∃ra,FT H D ra ps S
inductive rM (K:Fr) (t:jr) (vs:List V) (H:Hp) (Q:VK) (E:XK):Prop where
 | mk:∀(b:Nat) (r:Addr) (n:Nat) (A:mU) (ls:List aJ) (ps:List PD) (S:FS) (L P:Addr),vs=[.ref r,.ref L,.ref P]->uJ K t H r n A ls ps S->Iw H L P ls ps->Mw b ls ps S->(∀H' p D,aK H H'->H D=none->Dn K H' p D ls ps S n->Q (.ref p) H')->rM K t vs H Q E
noncomputable abbrev jG:List Str:=["_law_run", "_law_lanes", "_law_parts", "_law_names", "_law_told"]
theorem rG (T:Txt w K mg t):FO P w K mg base 5 t.uC ["_law_run", "_law_lanes", "_law_parts"] (rM K t):=by
 have sc:=T.jF.sc jG;refine T.jF.F.ok sc ln (λ_ _ _ _ H vs Q E hr h=>?_);obtain⟨b,r,n,A,ls,ps,S,L,P,rfl,R,A1,O,k⟩:=h;refine⟨_,(az (jc (i:=3) [] jG (aR (top 78)) Z sc.nd Z (bT (pv 2)) (λ_ _ _ _ _=>fK) (λ_ _ _ _ _=>(aU (fM (K:=K) Z) (pv 0) au (λ_ _=>Z))))
  (az (jc (i:=4) [0] jG (aR (top 78)) rfl sc.nd rfl (bT (pv 1)) (λ_ _ _ _ _=>fK) (λ_ _ _ _ _=>(bc (aa (d7 (pv 1) T.bx.c (T.pq.me T.bx.me.2.2.2.2.2.2.2.2.2.1) (DX T) (hr.mono (by decide)) T.pq.b .nil uw (aa (aU (fM (K:=K) rfl) (pv 0) au (λ_ _=>rfl)) ak aF)) (aa (d7 (pv 1) T.bx.c (T.gW.me T.bx.me.2.2.2.2.2.2.2.1) (uA T) (hr.mono (by decide)) T.gW.b .nil uw (aa (aU (fM (K:=K) rfl) (pv 0) au (λ_ _=>rfl)) ak aF)) ak bh) bh))))
  (aA (aN (bc (aa (pv 4) (aa (eE [0] jG (aR (top 78)) rfl (bT (pv 3)) (λ_ _ _ _ _=>fK) (λ_ _ _ _ _=>(d7 (pv 1) T.bx.c (T.jP.me T.bx.me.2.2.2.2.2.2.1) (yO T) (hr.mono (by decide)) T.jP.b .nil uw (aa (pv 0) ak aj)))) (aa (O7 (pv 0) T.bx T.bx.me.2.2.2.2.2.2.2.2.1 (Bj T) T.uo hr) (aa (O7 (pv 0) T.bx T.bx.me.2.2.2.2.2.2.2.2.2.2.2.1 (Aw T) T.nj hr) ak bh) bh) dZ) aj)))))),?_⟩
 have hz:sizeLine=16777216:=sizeLine_eq;have F:Ma ls ps:=by obtain⟨_,_,_,_,_,_,_,_,_,W⟩:=id R.netH;exact W.fit
 have p16:=F.p16;have l24:=F.l24;obtain⟨⟨xs,eL,aL⟩,⟨ys,eP,aP⟩⟩:=id A1;have xl:=aL.length;refine⟨_,Z,P,Z,⟨_,bK.of eP⟩,zW eP aP p16 λT1 n1=>?_⟩;have t1:=aB (o:=.lst (ps.map λp=>V.str p.name)) n1;have e1:upd H T1 (.lst (ps.map λp=>V.str p.name)) T1=some (.lst (ps.map λp=>V.str p.name)):=aq;generalize upd H T1 (.lst (ps.map λp=>V.str p.name))=H1 at t1 e1 ⊢;have R1:=R.same t1;have eL1:=t1 _ _ eL;refine⟨_,Z,L,Z,⟨_,bK.of eL1⟩,fu (K:=K) (a:=L) (xs:=xs) (λj zs H'=>aK H1 H'/\zs.length=j/\Bs K H' zs ((ls.take j).map (Vm S))) (by lia) ⟨aK.refl _,Z,.nil⟩ (λj zs H' h=>by lia) (λj zs H' _ h=>h.1.seq (bK.of eL1)) ?_ ?_⟩
 ·rintro j x zs H2 hx ⟨s2,lz,hd⟩;obtain⟨l,hlj,q,f,rfl,hq,_⟩:=aL.get hx;have hl:=mem_of_getElem? hlj;have hq2:=s2 _ _ (t1 _ _ hq);have R2:=R1.same s2;obtain⟨dxr,fsr,Rr⟩:=id R2.run;refine yes ⟨_,Z,r,dxr,fsr,Z,Rr.1.1,Rr.2.no _ (by decide +kernel),_,Z,q,_,0,_,Z,Z,gq.of hq2,aM (j:=0) Z,r,n,A,ls,ps,S,l.name,Z,R2.run,R2.netH,R2.flow,.inl ⟨l,hl,Z,λH3 p3 s3 n3 e3=>?_⟩⟩;have R3:=R2.same s3;obtain⟨dxr,fsr,Rr⟩:=id R3.run;refine⟨_,Z,r,dxr,fsr,Z,Rr.1.1,Rr.2.no _ (by decide +kernel),_,Z,q,_,0,_,Z,Z,gq.of (s3 _ _ hq2),aM (j:=0) Z,r,n,A,ls,ps,S,l.name,Z,R3.run,R3.netH,R3.flow,.inl ⟨l,hl,Z,λH4 p4 s4 n4 e4=>⟨by show 2<=sizeLine;lia,λp5 n5=>?_⟩⟩⟩;have t5:=aB (o:=.lst [.ref p3,.ref p4]) n5;have s25:=(s3.trans s4).trans t5;refine⟨s2.trans s25,by rw [lP,length_singleton,lz],?_⟩;rw [take_succ,hlj,toList_some,map_append];exact Bs.snoc (.list (bK.of aq) (.cons (yK (bK.of (t5 _ _ (s4 _ _ e3)))) (.cons (yK (bK.of (t5 _ _ e4))) .nil))) (Bs.same s25 hd)
 rintro zs H2 ⟨s2,lz,hd⟩ T2 n2;rw [xl,take_length] at hd;have t3:=aB (o:=.lst zs) n2;have dA:Dt K (upd H2 T2 (.lst zs)) (.ref T2) (.list (ls.map (Vm S))):=.list (bK.of aq) (Bs.same t3 hd);generalize upd H2 T2 (.lst zs)=H3 at t3 dA ⊢;have s3:=s2.trans t3;have R3:=R1.same s3;have eT1:=s3 _ _ e1;refine⟨_,rfl,_,rfl,T1,rfl,⟨_,bK.of eT1⟩,fu (K:=K) (a:=T1) (xs:=ps.map λp=>V.str p.name) (λj zs H'=>aK H3 H'/\zs=(ps.take j).map λp=>V.int (S.d p.name:Int)) (by rw [lM];lia) ⟨aK.refl _,rfl⟩ (λj zs H' h=>by rw [h.2,lM,length_take];lia) (λj zs H' _ h=>h.1.seq (bK.of eT1)) ?_ ?_⟩
 ·rintro j x zs H4 hx ⟨s4,rfl⟩;rw [getElem?_map] at hx;obtain⟨p,hpj,rfl⟩:=map_eq_some_iff.mp hx;have R4:=R3.same s4;obtain⟨dxr,fsr,Rr⟩:=id R4.run;refine yes ⟨_,Z,r,dxr,fsr,Z,Rr.1.1,Rr.2.no _ (by decide +kernel),_,Z,r,n,A,ls,ps,S,p.name,Z,R4.run,R4.netH,R4.flow,.inl ⟨p,mem_of_getElem? hpj,Z,λH5 s5=>⟨s4.trans s5,?_⟩⟩⟩;rw [take_succ,hpj,toList_some,map_append];rfl
 rintro zs H4 ⟨s4,rfl⟩ T3 n3;rw [lM,take_length];have mi:(ps.map λp=>V.int (S.d p.name:Int))=(ps.map λp=>(S.d p.name:Int)).map V.int:=by rw [map_map];rfl
 rw [mi];have t5:=aB (o:=.lst ((ps.map λp=>(S.d p.name:Int)).map V.int)) n3;have dB:Dt K (upd H4 T3 (.lst ((ps.map λp=>(S.d p.name:Int)).map V.int))) (.ref T3) (.list ((ps.map λp=>(S.d p.name:Int)).map PyData.int)):=yK (bK.of aq);generalize upd H4 T3 (.lst ((ps.map λp=>(S.d p.name:Int)).map V.int))=H5 at t5 dB ⊢;have s35:=s4.trans t5;have R5:=R3.same s35;obtain⟨dxr,fsr,Rr⟩:=id R5.run;refine⟨_,Z,r,dxr,fsr,Z,Rr.1.1,Rr.2.no _ (by decide +kernel),r,_,_,n,Z,R5.run,?_⟩;refine⟨_,Z,r,dxr,fsr,Z,Rr.1.1,Rr.2.no _ (by decide +kernel),r,n,A,ls,ps,S,Z,R5.run,R5.netH,R5.flow,λH6 D ra s6 hL nD=>⟨by show 4<=sizeLine;lia,λp np=>?_⟩⟩;have t7:=aB (o:=.lst [.ref T2,.ref T3,.int (n:Nat),.ref D]) np;have s57:=s6.trans t7;exact k _ p D ((t1.trans s3).trans (s35.trans s57)) ((t1.trans s3).trans s35 |>.free nD) ⟨⟨T2,T3,aq,Dt.same (s35.trans s57) dA,Dt.same s57 dB⟩,⟨ra,hL.same t7⟩⟩
inductive xZ (K:Fr) (t:jr) (vs:List V) (H:Hp) (Q:VK) (E:XK):Prop where
 | mk:∀(b:Nat) (r:Addr) (n:Nat) (A:mU) (ls:List aJ) (ps:List PD) (S:FS) (L P:Addr) (x:Str),vs=[.ref r,.str x,.ref L,.ref P]->uJ K t H r n A ls ps S->Iw H L P ls ps->Mw b ls ps S->PyData.strOk x=true->(∀H',aK H H'->Q (.bl true) H')->xZ K t vs H Q E
noncomputable abbrev j8:List Str:=["_law_run", "_law_name", "_law_lanes", "_law_parts", "_law_takes", "_law_there", "_law_known", "_law_way", "_law_due"]
theorem GJ (T:Txt w K mg t):FO P w K mg base 9 t.yZ ["_law_run", "_law_name", "_law_lanes", "_law_parts"] (xZ K t):=by
 have sc:=T.ud.sc j8;refine T.ud.F.ok sc ln (λ_ _ _ _ H vs Q E hr h=>?_);obtain⟨b,r,n,A,ls,ps,S,L,P,x,rfl,R,A1,O,hx,k⟩:=h;refine⟨_,(az (jc (i:=4) [] j8 (aR (top 79)) Z sc.nd Z (bT (pv 3)) (λ_ _ _ _ _=>(yg (aZ gP (aU (fM (K:=K) Z) (pv 0) au (λ_ _=>Z)) bH (bN _)))) (λ_ _ _ _ _=>(aU (fM (K:=K) Z) (pv 0) au (λ_ _=>Z))))
  (az (jc (i:=5) [] j8 (aR (top 79)) rfl sc.nd rfl (bT (pv 3)) (λ_ _ _ _ _=>fK) (λ_ _ _ _ _=>(aU (fM (K:=K) rfl) (pv 0) au (λ_ _=>rfl))))
  (az (sN sc 6 (bc (aa (pv 5) (aa (pv 5) (aa (pv 4) (aa (eE [] j8 (aR (top 79)) rfl (bT (pv 2)) (λ_ _ _ _ _=>fK) (λ_ _ _ _ _=>(aU (fM (K:=K) rfl) (pv 0) au (λ_ _=>rfl)))) (aa (eE [] j8 (aR (top 79)) rfl (bT (pv 2)) (λ_ _ _ _ _=>fK) (λ_ _ _ _ _=>(aU (fM (K:=K) rfl) (pv 0) au (λ_ _=>rfl)))) ak dZ) dZ) aj) aj) aj)))
  (az (fC PassesOwn.never rfl (jR rfl T.oV (aa au ak ao)) (gN sc 7)
   (az (sN sc 8 (b8 (aa (pv 1) (aa ir (aa ir ak ao) ao) aj)))
   (az (dM (bQ (aZ Hb (pv 1) (aU aV (pv 6) (pv 7) (λ_ _=>rfl)) (by with_unfolding_all rfl))
    (aA (sN sc 8 nQ))
    bz))
   (aA (bQ (aZ (Es hr.units) (eN (uD T) T.jV hr (aa (pv 7) (aa (pv 0) (aa (pv 1) ak aj) aj) aj)) (pv 8) (bN _))
    (aA (aN ir))
    bz)))))
  (aA (aN ir)))))),?_⟩
 have hz:sizeLine=16777216:=sizeLine_eq;have F:Ma ls ps:=by obtain⟨_,_,_,_,_,_,_,_,_,W⟩:=id R.netH;exact W.fit
 have p16:=F.p16;have l24:=F.l24;obtain⟨⟨xs,eL,aL⟩,⟨ys,eP,aP⟩⟩:=id A1;refine⟨_,Z,P,Z,⟨_,bK.of eP⟩,Ml eP aP p16 λT1 n1=>?_⟩;have t1:=aB (o:=.lst (bM ps "take")) n1;have e1:upd H T1 (.lst (bM ps "take")) T1=some (.lst (bM ps "take")):=aq;generalize upd H T1 (.lst (bM ps "take"))=H1 at t1 e1 ⊢;refine⟨_,Z,P,Z,⟨_,bK.of (t1 _ _ eP)⟩,zW (t1 _ _ eP) (aP.imp λ_ _ h=>h.same t1) p16 λT2 n2=>?_⟩;have t2:=aB (o:=.lst (ps.map λp=>V.str p.name)) n2;have e2:upd H1 T2 (.lst (ps.map λp=>V.str p.name)) T2=some (.lst (ps.map λp=>V.str p.name)):=aq;generalize upd H1 T2 (.lst (ps.map λp=>V.str p.name))=H2 at t2 e2 ⊢;have s2:=t1.trans t2;refine⟨_,Z,_,Z,_,Z,_,Z,L,Z,⟨_,bK.of (s2 _ _ eL)⟩,Dq (s2 _ _ eL) (aL.imp λ_ _ h=>h.same s2) l24 λT3 n3=>?_⟩;have t3:=aB (o:=.lst (ls.map λl=>V.str l.name)) n3;have e3:upd H2 T3 (.lst (ls.map λl=>V.str l.name)) T3=some (.lst (ls.map λl=>V.str l.name)):=aq;generalize upd H2 T3 (.lst (ls.map λl=>V.str l.name))=H3 at t3 e3 ⊢;have s3:=s2.trans t3;refine⟨_,Z,L,Z,⟨_,bK.of (s3 _ _ eL)⟩,Dq (s3 _ _ eL) (aL.imp λ_ _ h=>h.same s3) l24 λT4 n4=>⟨by show 5<=sizeLine;lia,λT5 n5=>?_⟩⟩;have t4:=aB (o:=.lst (ls.map λl=>V.str l.name)) n4;have e4:upd H3 T4 (.lst (ls.map λl=>V.str l.name)) T4=some (.lst (ls.map λl=>V.str l.name)):=aq;generalize upd H3 T4 (.lst (ls.map λl=>V.str l.name))=H4 at t4 e4 n5 ⊢;have t5:=aB (o:=.lst [V.ref T2,.ref T2,.ref T1,.ref T3,.ref T4]) n5;have e5:upd H4 T5 (.lst [V.ref T2,.ref T2,.ref T1,.ref T3,.ref T4]) T5=some (.lst [V.ref T2,.ref T2,.ref T1,.ref T3,.ref T4]):=aq;generalize upd H4 T5 (.lst [V.ref T2,.ref T2,.ref T1,.ref T3,.ref T4])=H5 at t5 e5 ⊢;have s45:=t4.trans t5;have s25:=t3.trans s45;have s5:=s3.trans s45;have R5:=R.same s5;have mp:(ps.map λp=>V.str p.name)=(ps.map (·.name)).map V.str:=by rw [map_map];rfl
 have ml:(ls.map λl=>V.str l.name)=(ls.map (·.name)).map V.str:=by rw [map_map];rfl
 rw [Oc] at e1;rw [mp] at e2;rw [ml] at e3 e4;have pick:∀j:Nat,j <5->∃(u:Addr) (zs:List Str),[V.ref T2,.ref T2,.ref T1,.ref T3,.ref T4][j]?=some (.ref u)/\H5 u=some (.lst (zs.map V.str))/\∀H':Hp,Asks K H' ls ps (j:Int) (.str x) (if x∈zs then none else some x):=λj hj=>by
  obtain rfl | rfl | rfl | rfl | rfl:j=0∨j=1∨j=2∨j=3∨j=4:=by lia
  ·exact⟨T2,_,Z,s25 _ _ e2,λ_=>.can x Z⟩
  ·exact⟨T2,_,Z,s25 _ _ e2,λ_=>.works x Z⟩
  ·exact⟨T1,_,Z,s25 _ _ (t2 _ _ e1),λ_=>.taken x (by simp only [YK])⟩
  ·exact⟨T3,_,Z,s45 _ _ e3,λ_=>.had x Z⟩
  ·exact⟨T4,_,Z,t5 _ _ e4,λ_=>.now x Z⟩
 clear t1 t2 t3 t4 n1 n2 n3 n4 n5 s2 s3 s25 s45 e1 e2 e3 e4;refine⟨_,Z,by decide,by decide,?_⟩;refine Bb (λj σ H'=>(∃v7 v8,σ=[some (.ref r),some (.str x),some (.ref L),some (.ref P),some (.ref T1),some (.ref T2),some (.ref T5),v7,v8])/\aK H5 H') ⟨⟨none,none,Z⟩,aK.refl _⟩ ?_ ?_
 ·rintro j σ H6 hj ⟨⟨v7,v8,rfl⟩,s6⟩;obtain⟨u,zs,hu,eu,ask⟩:=pick j hj;have g:Gd 1 (tdD (if x∈zs then none else some x)):=Td λy e=>by
   by_cases h:x∈zs
   ·rw [if_pos h] at e;cases e
   ·rw [if_neg h] at e;cases e;exact hx
  refine⟨_,Z,by show 3<=sizeLine;lia,λp np=>?_⟩;have t7:=aB (o:=.tup [.str x,.bl true,.bl true]) np;have e7:upd H6 p (.tup [.str x,.bl true,.bl true]) p=some (.tup [.str x,.bl true,.bl true]):=aq;generalize upd H6 p (.tup [.str x,.bl true,.bl true])=H7 at t7 e7 ⊢;have s7:=s6.trans t7;refine⟨λσ H'=>∃v,σ=[some (.ref r),some (.str x),some (.ref L),some (.ref P),some (.ref T1),some (.ref T2),some (.ref T5),some (.int (0+(j:Int))),some v]/\H'=H7/\Dp H7 v (if x∈zs then none else some x),?_,?_⟩
  ·refine⟨_,Z,_,Z,_,Z,T5,_,_,.ref u,Z,Z,bK.of (s7 _ _ e5),?_,u,_,Z,.inl (bK.of (s7 _ _ eu)),Z,rN zs,_,Z,?_⟩
   ·rw [show(0:Int)+(j:Int)=(j:Int) by lia];exact aM hu
   show if (inV (.str x) (zs.map V.str))=true then _ else _;rw [uh];by_cases h:x∈zs
   ·rw [decide_eq_true h,if_pos h];exact gm ⟨_,Z,Z,.non⟩
   ·rw [decide_eq_false h,if_neg h];exact cj ⟨_,Z,Z,.tup e7⟩
  rintro σ H8 ⟨v,rfl,rfl,hv⟩;refine⟨_,Z,_,Z,_,Z,b,r,n,A,ls,ps,S,_,_,_,Z,R5.same s7,O,(by rw [show(0:Int)+(j:Int)=(j:Int) by lia];exact ask _),λH9 u' s9 hu'=>?_⟩;refine⟨_,Z,_,_,hu'.dt,(hv.same s9).dt,g.shaped (by decide),g.shaped (by decide),_,Z,?_⟩;rw [g.eq];exact cj ⟨⟨_,_,Z⟩,s7.trans s9⟩
 rintro σ H6 ⟨⟨v7,v8,rfl⟩,s6⟩;exact k _ (s5.trans s6)
theorem Ww (p:PD) (h:p.kind <11):inV (.str (cL p.kind)) [.str "give",.str "take"]=decide (p.kind <2):=by
 have:∀i,i <11->(decide (cL i= "give") || decide (cL i= "take"))=decide (i <2):=by decide +kernel
 rw [<-this _ h];have n1:¬("give" :Str)= "take" :=by decide +kernel
 by_cases h1:cL p.kind= "give"
 ·simp [inV,MK,h1]
 ·by_cases h2:cL p.kind= "take"
  ·simp [inV,MK,h2]
  ·simp [inV,MK,h1,h2,Ne.symm h1,Ne.symm h2]
theorem word_short (a:Int) {k:Nat} (hk:k <26):(xF a k).length<=7:=by
 have h0:=emod_nonneg (bW a 54) (show(1000:Int)≠0 by decide);have h1:=emod_lt_of_pos (bW a 54) (show(0:Int) <1000 by decide);unfold xF;split
 ·obtain⟨_,n2,_⟩:=rT (n:=(bW a 54 % 1000+37 * (k:Int)).toNat) (by lia);rw [length_cons]
  lia
 ·have b1:=(zr a).1;have b2:=J4 a;rw [lP,length_take,length_cons,length_drop]
  lia
theorem abf {c3 c4:Int} {ls:List aJ} {ps:List PD} (D:Q7 c3 c4 ls ps):∀p∈ps,p.name≠ "nobody78" :=λp hp z=>by have h16:=D.p16;obtain⟨k,hk,e⟩:=Dk (by lia) (D.pn.mem_iff.mpr (mem_map.mpr ⟨p,hp,rfl⟩));have hs:=word_short c4 (k:=k) (by lia);rw [<-yu,<-e,z] at hs;exact absurd hs (by decide +kernel)
theorem Wl {H:Hp} {Q:VK} {Ex:XK} {b n:Nat} {r L:Addr} {A:mU} {ls:List aJ} {ps:List PD} {S:FS} {xs:List Str} (R:uJ K t H r n A ls ps S) (O:Mw b ls ps S) (hb:b<=90000) (hn:n<=900) (hL:bK K H L (xs.map V.str)) (nL:L∉A.cells ls ps) (hx:∀x∈xs,V.str x∈bM ps "give" ++ bM ps "take")
  (k:∀H' p,aK (bL (r:: A.cells ls ps) H) (bL (r:: A.cells ls ps) H')->uJ K t H' r (n+1) A ls ps (zV ls ps S xs)->H p=none->H' p=some (.lst ((vJ ls ps S xs).map λw=>V.str w.1.name))->Q (.ref p) H'):iT K t [.ref r,.ref L] H Q Ex:=by
 unfold iT;exact⟨b,r,n,A,ls,ps,S,L,xs,Z,R,hL,.inl ⟨O,hb,hn,nL,hx,k⟩⟩
noncomputable def fc (ps:List PD):List Str:=(ps.filter λp=>decide (p.kind <2)).map (·.name)
theorem DQ {ps:List PD} (hk:∀p∈ps,p.kind <11) (x:Str):V.str x∈bM ps "give" ++ bM ps "take" ↔x∈fc ps:=by
 have w:∀i,i <11->(decide (cL i= "give") || decide (cL i= "take"))=decide (i <2):=by decide +kernel
 constructor
 ·intro h;rcases mem_append.mp h with h | h <;>
  ·obtain⟨p,hp,e⟩:=mem_map.mp h;cases e;obtain⟨hp,h1⟩:=mem_filter.mp hp;refine mem_map.mpr ⟨p,mem_filter.mpr ⟨hp,?_⟩,Z⟩;rw [<-w _ (hk p hp),h1];simp
 ·intro h;obtain⟨p,hp,rfl⟩:=mem_map.mp h;obtain⟨hp,h1⟩:=mem_filter.mp hp;rw [<-w _ (hk p hp),Bool.or_eq_true] at h1;refine mem_append.mpr (h1.imp ?_ ?_) <;> exact λh1=>mem_map.mpr ⟨p,mem_filter.mpr ⟨hp,h1⟩,rfl⟩
theorem Jh {ps:List PD} (hk:∀p∈ps,p.kind <11) (x:Str):MT ps x=!decide (x∈fc ps):=by unfold MT;rw [decide_eq_decide.mpr (DQ hk x)]
theorem Uu {ps:List PD} (hk:∀p∈ps,p.kind <11) {zs:List Str} (hz:∀y∈zs,y∈fc ps) (x:Str) (h78:("nobody78" :Str)∉fc ps):(((zs ++ [x]) ++ zs) ++ [("nobody78" :Str)]).find? (MT ps)=some (if x∈fc ps then("nobody78" :Str) else x):=by
 have nz:zs.find? (MT ps)=none:=find?_eq_none.mpr λy hy=>by rw [Jh hk,decide_eq_true (hz y hy)];simp
 rw [find?_append,find?_append,find?_append,nz];by_cases h:x∈fc ps
 ·rw [if_pos h,find?_cons_of_neg (by rw [Jh hk,decide_eq_true h];simp),find?_cons_of_pos (by rw [Jh hk,decide_eq_false h78];rfl)];rfl
 ·rw [if_neg h,find?_cons_of_pos (by rw [Jh hk,decide_eq_false h];rfl)];rfl
theorem Dn.same {H H':Hp} {p D:Addr} {ls:List aJ} {ps:List PD} {S:FS} {n:Nat} (h:Dn K H p D ls ps S n) (s:aK H H'):Dn K H' p D ls ps S n:=by obtain⟨⟨a,b,e,h1,h2⟩,ra,h3⟩:=h;exact⟨⟨a,b,s _ _ e,Dt.same s h1,Dt.same s h2⟩,ra,h3.same s⟩
theorem Dn.alike {H:Hp} {p D p' D':Addr} {ls:List aJ} {ps:List PD} {S:FS} {n:Nat} (h:Dn K H p D ls ps S n) (h':Dn K H p' D' ls ps S n) (ne:D≠D'):∃xs ys,bK K H p xs/\bK K H p' ys/\my K H xs ys:=by
 have gdL:∀l:List Int,Gd 1 (.list (l.map PyData.int)):=λl=>.list (.ints 0 _);obtain⟨⟨a,b,e,h1,h2⟩,ra,h3⟩:=h;obtain⟨⟨a',b',e',h1',h2'⟩,ra',h3'⟩:=h';have g1:Gd 3 (.list (ls.map (Vm S))):=.list λd hd=>by obtain⟨l,_,rfl⟩:=mem_map.mp hd;refine .list λd hd=>?_;simp only [mem_cons,not_mem_nil,or_false] at hd;rcases hd with rfl | rfl <;> exact gdL _
 have g3:Gd 1 (.int (n:Nat)):=.int _ _;refine⟨_,_,bK.of e,bK.of e',.cons (.data h1 h1' (g1.shaped (by decide)) g1.eq) (.cons (.data h2 h2' ((gdL _).shaped (by decide)) (gdL _).eq) (.cons (.data (.int _) (.int _) (g3.shaped (by decide)) g3.eq) (.cons (.dict ne (.inl h3.dict) (.inl h3'.dict) (by unfold Cy;rw [lM,lM]) λi k v hi=>?_) .nil)))⟩;unfold Cy at hi ⊢;rw [getElem?_map] at hi ⊢;obtain⟨q,hq,e1⟩:=map_eq_some_iff.mp hi;cases e1;obtain⟨hm,h0⟩:=mem_filter.mp (mem_of_getElem? hq);have h0:q.kind=0:=by simpa using h0
 exact⟨.ref (ra' q.name),_,by rw [hq];rfl,yK (bK.of (h3.lists q hm h0)),yK (bK.of (h3'.lists q hm h0)),(gdL _).shaped (by decide),(gdL _).eq⟩
theorem Vn {ls:List aJ} {ps:List PD} {S:FS} {xs:List Str} {w:PD×mQ} (h:w∈vJ ls ps S xs):w.1∈ps/\w.1.name∉xs:=by obtain⟨p,hp,e⟩:=mem_filterMap.mp h;obtain⟨dd,_,rfl⟩:=map_eq_some_iff.mp e;obtain⟨hp,hf⟩:=mem_filter.mp hp;exact⟨hp,by simpa [rO] using hf⟩
theorem U7 {ns:List Int} {v:V} (h:v∈vI (ns.map V.int) (some (8:Nat)) (some (30:Nat))):∃c,v=.int c:=by rw [Uy] at h;obtain⟨c,_,rfl⟩:=mem_map.mp (List.mem_of_mem_drop (List.mem_of_mem_take h));exact⟨c,Z⟩
inductive Du (K:Fr) (vs:List V) (H:Hp) (Q:VK) (E:XK):Prop where
 | mk:∀(a:Addr) (ns:List Int),vs=[.ref a]->bK K H a (ns.map V.int)->ns.length<=63->(∀H',Q (.bl true) H')->Du K vs H Q E
noncomputable abbrev Fd:List Str:=["_law_script", "_law_lanes", "_law_parts", "_law_net_here", "_law_doors", "_law_gives", "_law_run", "_law_some", "_law_cell_here", "_law_name", "_law_held", "_law_before", "_law_bad", "_law_due", "_law_found"]
theorem Yl (T:Txt w K mg t):FO P w K mg base 11 t.WP ["_law_script"] (Du K):=by
 have sc:=T.Oi.sc Fd;refine T.Oi.F.ok sc ln (λ_ _ _ _ H vs Q E hr h=>?_);obtain⟨a,ns,rfl,hS,hl,k⟩:=h;refine⟨_,(az (Xx (eN (Lx T) T.yj hr (aa (pv 0) (aa au (aa au (aa ir ak ao) ao) ao) aj)) (Gp Z (iw (gN sc 1) (iw (gN sc 2) wV))))
  (az (sN sc 3 (iI (T.aX.M T.kj) (CQ T) (hr.mono (by decide)) (by rfl) T.aX.m T.kj.b .nil gj (aa (pv 1) (aa (pv 2) ak aj) aj)))
  (az (sN sc 4 (eE [] Fd (aR (top 80)) rfl (bT (pv 2)) (λ_ _ _ _ _=>(yg (aZ (Fz (K:=K) rfl) (aU (fM (K:=K) rfl) (pv 0) au (λ_ _=>rfl)) (b8 (aa bH (aa bH ak ao) ao)) (by with_unfolding_all rfl)))) (λ_ _ _ _ _=>(aU (fM (K:=K) rfl) (pv 0) au (λ_ _=>rfl)))))
  (az (jc (i:=5) [] Fd (aR (top 80)) rfl sc.nd rfl (bT (pv 2)) (λ_ _ _ _ _=>(yg (aZ gP (aU (fM (K:=K) rfl) (pv 0) au (λ_ _=>rfl)) bH (bN _)))) (λ_ _ _ _ _=>(aU (fM (K:=K) rfl) (pv 0) au (λ_ _=>rfl))))
  (az (sN sc 6 (iI (T.bx.M T.gK) (uB T) (hr.mono (by decide)) (by rfl) T.bx.m T.gK.b .nil uw (aa (pv 3) (aa (wU (p8 (aU aV (pv 5) au (λ_ _=>rfl)) (bc (aa au (aa au (aa au ak ao) ao) ao)) wM) rfl rfl (by simp) (by decide)) ak sy) aj)))
  (az (sN sc 7 (bB yp (bB yp (eE [] Fd (aR (top 80)) rfl (bT (pv 1)) (λ_ _ _ _ _=>fK) (λ_ _ _ _ _=>(aU (fM (K:=K) rfl) (pv 0) au (λ_ _=>rfl)))) (eE [] Fd (aR (top 80)) rfl (bT (pv 2)) (λ_ _ _ _ _=>fK) (λ_ _ _ _ _=>(aU (fM (K:=K) rfl) (pv 0) au (λ_ _=>rfl))))) (bc (aa bH (aa bH (aa bH ak ao) ao) ao))))
  (az (fC PassesOwn.never rfl (bT (j4 ut (pv 0) (j9 au) (j9 au))) (gN sc 8)
   (az (sN sc 9 (aU aV (pv 7) (bB cB (eN (bf T) T.bj hr (aa (pv 8) (aa au ak ao) aj)) (bA bY (by rfl) T.gh dJ (aa (pv 7) ak aj))) (λ_ _=>rfl)))
   (az (bQ (jU (jL (eN (GJ T) T.ud hr (aa (pv 6) (aa (pv 9) (aa (pv 1) (aa (pv 2) ak aj) aj) aj) aj))))
    (aA (aN ir))
    bz)
   (az (bQ (jU (jL (eN (zQ T) T.lE hr (aa (pv 3) (aa (pv 9) (aa (pv 5) (aa (pv 8) ak aj) aj) aj) aj))))
    (aA (aN ir))
    bz)
   (az (sN sc 10 (eE [4,8] Fd (aR (top 80)) rfl (jR rfl T.oV (aa (bB cB (eN (bf T) T.bj hr (aa (pv 8) (aa au ak ao) aj)) au) ak bU)) (λ_ _ _ _ _=>fK) (λ_ _ _ _ _=>(aU (Lk (K:=K) rfl) (pv 1) (bB cB (eN (bf T) T.bj hr (aa (pv 2) (aa (bB fD au (pv 0)) ak bU) aj)) (bA ((Ra (K:=K) rfl)) (by rfl) T.gh dJ (aa (pv 1) ak aj))) (λ_ _=>rfl)))))
   (az (sN sc 11 (eN (rG T) T.jF hr (aa (pv 6) (aa (pv 1) (aa (pv 2) ak aj) aj) aj)))
   (az (sN sc 12 (bB yp (bB yp (bB yp (pv 10) (bc (aa (pv 9) ak aj))) (pv 10)) (bc (aa bH ak ao))))
   (az (sN sc 13 bH)
   (az (dM (bQ (aZ fX (pv 9) (pv 4) (by with_unfolding_all rfl))
    (aA (sN sc 13 (pv 9)))
    bz))
   (az (bQ (PW.pt (ww (aZ (Es hr.units) (eN (uD T) T.jV hr (aa au (aa (pv 6) (aa (pv 12) ak aj) aj) ao)) (b8 (aa (pv 13) (aa ir (aa ir ak ao) ao) aj)) (bN _)) (pP (aZ (YS hr.u100) (eN (rG T) T.jF hr (aa (pv 6) (aa (pv 1) (aa (pv 2) ak aj) aj) aj)) (pv 11) (bN _)))))
    (aA (aN ir))
    bz)
   (az (sN sc 14 (d7 (pv 6) T.bx.c (T.pG.me T.bx.me.2.2.2.2.1) (Bm T) (hr.mono (by decide)) T.pG.b .nil uw (aa (pv 10) ak aj)))
   (aA (bQ (aZ (Es hr.units) (eE [2,10] Fd (aR (top 80)) rfl (bT (pv 14)) (λ_ _ _ _ _=>(yg (PW.pt (ww (aZ (xK (K:=K) rfl) (pv 0) (eE [] ["_law_one", "_law_parts", "_law_held"] ⟨.function,[(".0",.local),("_law_one",.local),("_law_held",.cell),("_law_parts",.cell)],false,false,[]⟩ rfl (S8 (K:=K) rfl (pv 1)) (λ_ _ _ _ _=>fK) (λ_ _ _ _ _=>(aU (fM (K:=K) rfl) (pv 0) au (λ_ _=>rfl)))) (by with_unfolding_all rfl)) (pP (aZ (Fz (K:=K) rfl) (pv 0) (pv 2) (by with_unfolding_all rfl))))))) (λ_ _ _ _ _=>(pv 0))) (bc ak) (bN _))
    (aA (aN ir))
    bz)))))))))))))
  (aA (aN (tH gP (O7 (pv 6) T.bx T.bx.me.2.2.2.2.2.2.2.2.1 (Bj T) T.uo hr) (bA bY (by rfl) T.gh dJ (aa (j4 ut (pv 0) (j9 au) (j9 au)) ak aF)) (bN _))))))))))),?_⟩
 have hz:sizeLine=16777216:=sizeLine_eq;refine⟨_,Z,a,ns,2,4,true,Z,hS,by decide,λT' L P ls ps H2 s2 nL nP nLP eT A D=>?_⟩;refine⟨T',_,Z,gq.of eT,Z,_,_,Z,_,_,Z,Z,?_⟩;have F:=D.fit;have hG:=D.giv;have h78:=abf D;clear eT nL nP nLP D;have p16:=F.p16;have l24:=F.l24;refine⟨_,Z,_,Z,λn dxn nn ndn nen=>?_⟩;have gn:aK H2 (upd (upd H2 dxn (.own n)) n (.ins t.dH dxn [])):=λb o e=>by rw [aG (aC e nn),aG (aC e ndn)];exact e
 have en:upd (upd H2 dxn (.own n)) n (.ins t.dH dxn []) n=some (.ins t.dH dxn []):=aq;generalize upd (upd H2 dxn (.own n)) n (.ins t.dH dxn [])=Hn at gn en ⊢;have hH:Hand K Hn L P ls ps:=by
  obtain⟨⟨x1,x2,x3⟩,⟨y1,y2,y3⟩⟩:=A.same gn;refine⟨⟨x1,bK.of x2,x3.imp λ_ _ h=>?_⟩,⟨y1,bK.of y2,y3.imp λ_ _ h=>?_⟩⟩
  ·obtain⟨q,f,e,h1,h2⟩:=h;exact⟨q,f,e,h1,.inl (bK.of h2)⟩
  ·obtain⟨q,a1,a2,a3,e,h1,h2,h3,h4⟩:=h;exact⟨q,a1,a2,a3,e,h1,.inl (bK.of h2),.inl (bK.of h3),.inl (bK.of h4)⟩
 refine⟨n,dxn,L,P,ls,ps,Z,en,hH,F,λH4 b4 N4=>⟨Z,?_⟩⟩;have s24:aK H2 H4:=λb o e=>b4 b o (aC e nn) (gn b o e);have A4:=A.same s24;have hS4:=(s2.trans s24).seq hS;clear hH gn en b4 s24 s2 hS A nn ndn nen;have hk:∀p∈ps,p.kind <11:=λp hp=>(F.pok p hp).1;have d78:("nobody78" :Str)∉fc ps:=λz=>by obtain⟨p,hp,e⟩:=mem_map.mp z;exact h78 p (mem_filter.mp hp).1 e
 clear h78;obtain⟨⟨xs,eL,aL⟩,⟨ys,eP,aP⟩⟩:=id A4;have yl:=aP.length;refine⟨_,Z,P,Z,⟨_,bK.of eP⟩,fu (K:=K) (a:=P) (xs:=ys) (λj zs H'=>aK H4 H'/\zs=(fc (ps.take j)).map V.str) (by lia) ⟨aK.refl _,Z⟩ (λj zs H' h=>by rw [h.2];unfold fc;rw [lM,lM];exact le_trans (length_filter_le _ _) (by rw [length_take];lia)) (λj zs H' _ h=>h.1.seq (bK.of eP)) ?_ ?_⟩
 ·rintro j x zs H5 hx ⟨s5,rfl⟩;obtain⟨p,hpj,q,a1,a2,a3,rfl,hq,_⟩:=aP.get hx;have hq5:=s5 _ _ hq;refine⟨_,Z,q,_,0,_,Z,Z,gq.of hq5,aM (j:=0) Z,by show 2<=sizeLine;lia,λd nd=>⟨d,_,Z,.inr (gq.of aq),Z,Z,_,Z,?_⟩⟩;show if inV (.str (cL p.kind)) [.str "give",.str "take"]=true then _ else _;rw [Ww p (hk p (mem_of_getElem? hpj))];have es:fc (ps.take (j+1))=if p.kind <2 then fc (ps.take j) ++ [p.name] else fc (ps.take j):=by
   unfold fc;rw [take_succ,hpj,toList_some,filter_append,map_append];by_cases h:p.kind <2
   ·simp [h]
   ·simp [h]
  rw [es];by_cases h:p.kind <2
  ·rw [decide_eq_true h,if_pos h,map_append];exact gm ⟨_,Z,q,_,1,_,Z,Z,gq.of (aB nd _ _ hq5),aM (j:=1) Z,s5.trans (aB nd),Z⟩
  ·rw [decide_eq_false h,if_neg h];exact cj ⟨s5.trans (aB nd),Z⟩
 rintro zs H5 ⟨s5,rfl⟩ Ld nLd;rw [yl,take_length];have t6:=aB (o:=.lst ((fc ps).map V.str)) nLd;have eLd:upd H5 Ld (.lst ((fc ps).map V.str)) Ld=some (.lst ((fc ps).map V.str)):=aq;generalize upd H5 Ld (.lst ((fc ps).map V.str))=H6 at t6 eLd ⊢;have s6:=s5.trans t6;clear s5 t6 nLd;refine⟨_,Z,P,Z,⟨_,bK.of (s6 _ _ eP)⟩,Ml (s6 _ _ eP) (aP.imp λ_ _ h=>h.same s6) p16 λG nG=>?_⟩;have t7:=aB (o:=.lst (bM ps "give")) nG;have eG:upd H6 G (.lst (bM ps "give")) G=some (.lst (bM ps "give")):=aq;generalize upd H6 G (.lst (bM ps "give"))=H7 at t7 eG ⊢;have s7:=s6.trans t7;have eLd7:=t7 _ _ eLd;clear t7 nG eLd s6;obtain⟨g,hgm,gr,hg⟩:=hG.ex;have at0:Ji (bM ps "give") 0=some (V.str g.name):=aM (j:=0) (by rw [hg];rfl);have gin:V.str g.name∈bM ps "give" :=by rw [hg];exact .head _
 refine⟨_,rfl,λrw nrw=>⟨_,rfl,G,_,_,_,rfl,rfl,bK.of (aB nrw _ _ eG),at0,by show 3<=sizeLine;lia,λb nb=>⟨(by rw [aG (aC aq nb)];exact aq),[((Sum.inr g.name:Key),V.ref b)],rfl,by show 1<=15;decide,?_⟩⟩⟩;have nbr:b≠rw:=Ne.symm (aC aq nb);have hR:lG (upd (upd (upd H7 rw (.dK [])) b (.lst [.int 5,.int 6,.int 7])) rw (.dK [((Sum.inr g.name:Key),V.ref b)])) rw [(g.name,b,[5,6,7])]:=by
  refine⟨aq,?_,by simp,?_⟩ <;> intro q hq <;> rw [mem_singleton] at hq <;> subst hq
  ·rw [aG nbr];exact aq
  ·show 3<=300;decide
 have hO:DY ps [(g.name,b,[5,6,7])]:=by
  refine⟨?_,?_⟩ <;> intro q hq <;> rw [mem_singleton] at hq <;> subst hq
  ·exact gin
  ·show ∀v∈([5,6,7]:List Int),0<=v/\v <1000000000;decide
 have s8:aK H7 (upd (upd (upd H7 rw (.dK [])) b (.lst [.int 5,.int 6,.int 7])) rw (.dK [((Sum.inr g.name:Key),V.ref b)])):=wD ((aB nrw).trans (aB nb)) nrw;refine λr dxr nr ndr ner=>?_
 replace hR:=hR;replace nr:=nr
 have e0:pI [] [((Sum.inr g.name:Key),V.ref b)]=[((Sum.inr g.name:Key),V.ref b)]:=rfl;rw [e0] at nr ndr ⊢;generalize upd (upd (upd H7 rw (.dK [])) b (.lst [.int 5,.int 6,.int 7])) rw (.dK [((Sum.inr g.name:Key),V.ref b)])=H8 at hR s8 nr ndr ⊢;have gr':aK H8 (upd (upd H8 dxr (.own r)) r (.ins t.mK dxr [])):=λb o e=>by rw [aG (aC e nr),aG (aC e ndr)];exact e
 refine Iz aq gr' nr (N4.same (s7.trans s8)) hR hO λH9 Y1 eZ s9 R9 fr9=>⟨Z,?_⟩;subst eZ;have s79:=s8.trans s9;have eA:∀a∈r:: Y1.cells ls ps,H8 a=none:=λa ha=>by
  rcases mem_cons.mp ha with rfl | h
  ·exact nr
  ·exact fr9 a h
 have c79:aK H7 (bL (r:: Y1.cells ls ps) H9):=λb o e=>f9 (s79 _ _ e) λz=>by have e':=s8 _ _ e;rw [eA b z] at e';cases e'
 have O9:=Rc F hR.len hO.bnd;generalize mV ls ps [(g.name,b,[5,6,7])]=S0 at R9 O9;clear hR hO s8 gr' eA fr9 N4 nb nrw nbr nr ndr ner e0 s9;have A9:=A4.same (s7.trans s79);obtain⟨⟨xs,eL,aL⟩,⟨ys,eP,aP⟩⟩:=id A9;refine⟨_,Z,L,Z,⟨_,bK.of eL⟩,Dq eL aL l24 λT1 n1=>?_⟩;have t1:=aB (o:=.lst (ls.map λl=>V.str l.name)) n1;have e1:upd H9 T1 (.lst (ls.map λl=>V.str l.name)) T1=some (.lst (ls.map λl=>V.str l.name)):=aq;generalize upd H9 T1 (.lst (ls.map λl=>V.str l.name))=G1 at t1 e1 ⊢;refine⟨_,Z,P,Z,⟨_,bK.of (t1 _ _ eP)⟩,zW (t1 _ _ eP) (aP.imp λ_ _ h=>h.same t1) p16 λT2 n2=>?_⟩;have t2:=aB (o:=.lst (ps.map λp=>V.str p.name)) n2;have e2:upd G1 T2 (.lst (ps.map λp=>V.str p.name)) T2=some (.lst (ps.map λp=>V.str p.name)):=aq;generalize upd G1 T2 (.lst (ps.map λp=>V.str p.name))=G2 at t2 e2 ⊢;refine⟨T1,T2,_,_,Z,Z,t2 _ _ e1,e2,by rw [lM,lM];lia,λT3 n3=>?_⟩;have t3:=aB (o:=.lst ((ls.map λl=>V.str l.name) ++ ps.map λp=>V.str p.name)) n3;have e3:upd G2 T3 (.lst ((ls.map λl=>V.str l.name) ++ ps.map λp=>V.str p.name)) T3=some (.lst ((ls.map λl=>V.str l.name) ++ ps.map λp=>V.str p.name)):=aq;generalize upd G2 T3 (.lst ((ls.map λl=>V.str l.name) ++ ps.map λp=>V.str p.name))=G3 at t3 e3 ⊢;refine⟨by show 3<=sizeLine;lia,λT4 n4=>?_⟩;have t4:=aB (o:=.lst [V.str "",.str "nobody77",.str "lane"]) n4;have e4:upd G3 T4 (.lst [V.str "",.str "nobody77",.str "lane"]) T4=some (.lst [V.str "",.str "nobody77",.str "lane"]):=aq;generalize upd G3 T4 (.lst [V.str "",.str "nobody77",.str "lane"])=G4 at t4 e4 ⊢;refine⟨T3,T4,_,_,Z,Z,t4 _ _ e3,e4,by rw [lP,lM,lM];show ls.length+ps.length+3<=sizeLine;lia,λT5 n5=>?_⟩;obtain⟨sm,hsm⟩:∃sm:List Str,sm=ls.map (·.name) ++ ps.map (·.name) ++ (["", "nobody77", "lane"]:List Str):=⟨_,rfl⟩;have em:((ls.map λl=>V.str l.name) ++ ps.map λp=>V.str p.name) ++ [V.str "",.str "nobody77",.str "lane"]=sm.map V.str:=by rw [hsm,map_append,map_append,map_map,map_map];rfl
 have sml:0 <sm.length/\sm.length<=100:=by rw [hsm,lP,lP,lM,lM];show 0 <_+3/\_+3<=100;lia
 have sok:∀x∈sm,PyData.strOk x=true:=λx hx=>by
  rw [hsm] at hx;rcases mem_append.mp hx with hx | hx
  ·rcases mem_append.mp hx with hx | hx
   ·obtain⟨l,hl,rfl⟩:=mem_map.mp hx;exact JM (F.lnm l hl)
   ·obtain⟨l,hl,rfl⟩:=mem_map.mp hx;exact JM (F.pnm l hl)
  ·exact(by decide +kernel:∀x∈(["", "nobody77", "lane"]:List Str),PyData.strOk x=true) x hx
 rw [em];have t5:=aB (o:=.lst (sm.map V.str)) n5;have e5:upd G4 T5 (.lst (sm.map V.str)) T5=some (.lst (sm.map V.str)):=aq;generalize upd G4 T5 (.lst (sm.map V.str))=G5 at t5 e5 ⊢;have s95:=t1.trans (t2.trans (t3.trans (t4.trans t5)));have nT5:=(t1.trans (t2.trans (t3.trans t4))).free n5;clear hsm em t1 t2 t3 t4 n1 n2 n3 n4 e1 e2 e3 e4;refine⟨_,Z,_,Z,_,Z,a,_,Z,s95.seq (s79.seq (s7.seq hS4)),λT6 n6=>?_⟩;show N5 _ _ (.ref T6) (upd G5 T6 (.lst (vI (ns.map V.int) (some (8:Nat)) (some (30:Nat)))));obtain⟨cs,hcs⟩:∃cs,cs=vI (ns.map V.int) (some (8:Nat)) (some (30:Nat)):=⟨_,rfl⟩;have csl:cs.length<=63:=by rw [hcs];exact le_trans (BX _ _ _) (by rw [lM];exact hl)
 have csi:∀v∈cs,∃c,v=.int c:=λv hv=>U7 (ns:=ns) (by rw [<-hcs];exact hv);rw [<-hcs];refine⟨T6,Z,⟨_,bK.of aq⟩,?_⟩;have t6:=aB (o:=.lst cs) n6;have e6:upd G5 T6 (.lst cs) T6=some (.lst cs):=aq;generalize upd G5 T6 (.lst cs)=G6 at t6 e6 ⊢;have s96:=s95.trans t6;have R6:=R9.same s96;obtain⟨C,hC⟩:∃C,C=bL (r:: Y1.cells ls ps) G6:=⟨_,rfl⟩;have c6:aK H7 C:=by rw [hC];exact c79.trans (wL s96)
 have cG:=c6 _ _ eG;have cLd:=c6 _ _ eLd7;have cA:=(A4.same s7).same c6;have cS:=c6.seq (s7.seq hS4);have c5:C T5=some (.lst (sm.map V.str)):=by rw [hC];exact f9 (t6 _ _ e5) (R9.out nT5)
 have c66:C T6=some (.lst cs):=by rw [hC];exact f9 e6 (R9.out (s95.free n6))
 have sC0:aK C (bL (r:: Y1.cells ls ps) G6):=by rw [hC];exact aK.refl _
 have dl:0 <(fc ps).length:=List.length_pos_of_mem ((DQ hk g.name).mp (mem_append.mpr (.inl gin)));have mp:(ps.map λp=>V.str p.name)=(ps.map (·.name)).map V.str:=by rw [map_map];rfl
 have g0:Gd 1 (.list (([]:List Str).map PyData.str)):=.list (.strs 0 (by simp));clear t6 e6 e5 s96 s95 hC c6 eG eLd7 A4 A9 hS4 R9 c79 s79 s7 eL aL eP aP t5 n5 n6 nT5 gin at0 hg hgm;refine fG (K:=K) (a:=T6) (xs:=cs) (λj σ H'=>∃S,(∃v8 v9 v10 v11 v12 v13 v14,σ=[some (.ref a),some (.ref L),some (.ref P),some (.ref Y1.n),some (.ref Ld),some (.ref G),some (.ref r),some (.ref T5),v8,v9,v10,v11,v12,v13,v14])/\uJ K t H' r j Y1 ls ps S/\aK C (bL (r:: Y1.cells ls ps) H')/\Mw (199+32 * j) ls ps S) ⟨S0,⟨none,none,none,none,none,none,none,Z⟩,R6,sC0,O9⟩ (λj σ H' _ ⟨S,_,_,sC,_⟩=>bK.of (dj _ _ (sC _ _ c66))) ?_ ?_
 ·rintro j v σ H1 hv ⟨S,⟨v8,v9,v10,v11,v12,v13,v14,rfl⟩,R1,sC,O⟩;obtain⟨c,rfl⟩:=csi v (mem_of_getElem? hv);have hj:j <cs.length:=(List.getElem?_eq_some_iff.mp hv).1;have up:∀{b:Addr} {o:HO},C b=some o->H1 b=some o:=λe=>dj _ _ (sC _ _ e);have A1:=(cA.same sC).same dj;have m0:=emod_nonneg (bW c 0) (show(sm.length:Int)≠0 by lia);have m1:=emod_lt_of_pos (bW c 0) (show(0:Int) <sm.length by lia);obtain⟨i,hi,hil⟩:∃i:Nat,bW c 0 % (sm.length:Int)=(i:Int)/\i <sm.length:=⟨(bW c 0 % (sm.length:Int)).toNat,by lia,by lia⟩;obtain⟨x,hx⟩:∃x,sm[i]?=some x:=⟨_,getElem?_eq_getElem hil⟩;have xok:=sok x (mem_of_getElem? hx);refine⟨_,rfl,_,rfl,_,_,rfl,_,rfl,_,sm.length,rfl,.inl ⟨_,bK.of (up c5),by rw [lM]⟩,_,_,rfl,rfl,by show(0:Int) <(sm.length:Int);lia,T5,_,_,.str x,rfl,rfl,bK.of (up c5),(by rw [hi];exact aM (by rw [getElem?_map,hx];rfl)),?_⟩;refine⟨_,Z,_,Z,_,Z,_,Z,_,r,j,Y1,ls,ps,S,L,P,x,Z,R1,A1,O,xok,λH2 s2=>⟨_,Z,cj ?_⟩⟩;have R2:=R1.same s2;refine⟨_,Z,_,Z,_,Z,_,Z,Y1.n,G,ls,ps,x,c,Z,R2.netH,hG,xok,s2 _ _ (up cG),λH3 s3=>⟨_,Z,cj ?_⟩⟩;have s13:=s2.trans s3;have R3:=R1.same s13;have eLd3:=s13 _ _ (up cLd);have k0:=emod_nonneg (bW c 1) (show(4:Int)≠0 by decide);have k1:=emod_lt_of_pos (bW c 1) (show(0:Int) <4 by decide);clear m0 m1 hi hil hx hv s2 s3 R2;refine⟨_,Z,_,_,Z,_,_,Z,Z,by show(0:Int) <4;decide,_,Z,by lia,by lia,?_⟩;refine pF (λi ys H'=>H'=H3/\ys.length<=i/\∃zs:List Str,ys=zs.map V.str/\∀y∈zs,y∈fc ps) (by lia) ⟨Z,le_refl _,[],Z,by simp⟩ (λi ys H' h=>h.2.1) ?_ ?_
  ·rintro i ys H' hi ⟨rfl,ly,zs,rfl,hzs⟩;obtain⟨m,hm⟩:∃m:Int,m=bW c (10+(0+(i:Int))):=⟨_,rfl⟩;have m0:=emod_nonneg m (show((fc ps).length:Int)≠0 by lia);have m1:=emod_lt_of_pos m (show(0:Int) <(fc ps).length by lia);obtain⟨d,hd,hdl⟩:∃d:Nat,m % ((fc ps).length:Int)=(d:Int)/\d <(fc ps).length:=⟨(m % ((fc ps).length:Int)).toNat,by lia,by lia⟩;refine yes ⟨_,rfl,_,rfl,_,rfl,_,_,rfl,rfl,_,_,rfl,_,rfl,_,(fc ps).length,rfl,.inl ⟨_,bK.of eLd3,by rw [lM]⟩,_,_,rfl,rfl,by show(0:Int) <((fc ps).length:Int);lia,Ld,_,_,.str (fc ps)[d],rfl,rfl,bK.of eLd3,(by rw [<-hm,hd];exact aM (by rw [getElem?_map,getElem?_eq_getElem hdl];rfl)),rfl,by rw [lP,length_singleton];exact Nat.succ_le_succ ly,zs ++ [(fc ps)[d]],by rw [map_append];rfl,λy hy=>?_⟩;rcases mem_append.mp hy with h | h
   ·exact hzs y h
   ·rw [mem_singleton] at h;rw [h];exact List.getElem_mem hdl
  rintro ys H' ⟨rfl,ly,zs,rfl,hzs⟩ Lh nLh;rw [lM] at ly;have t4:=aB (o:=.lst (zs.map V.str)) nLh;have eLh:upd H' Lh (.lst (zs.map V.str)) Lh=some (.lst (zs.map V.str)):=aq;generalize upd H' Lh (.lst (zs.map V.str))=H4 at t4 eLh ⊢;have s14:=s13.trans t4;have oLh:=R3.out nLh;refine⟨_,Z,_,Z,_,Z,_,r,j,Y1,ls,ps,S,L,P,Z,R1.same s14,A1.same s14,O,λH5 p5 D5 s5 nD5 al5=>?_⟩;have eLh5:=s5 _ _ eLh;refine⟨_,Z,_,Z,by show 1<=sizeLine;lia,λu1 n1=>?_⟩;have w1:=aB (o:=.lst [.str x]) n1;have f1:upd H5 u1 (.lst [.str x]) u1=some (.lst [.str x]):=aq;generalize upd H5 u1 (.lst [.str x])=U1 at w1 f1 ⊢;refine⟨Lh,u1,_,_,Z,Z,w1 _ _ eLh5,f1,by rw [lM];show zs.length+1<=sizeLine;lia,λu2 n2=>?_⟩;have w2:=aB (o:=.lst (zs.map V.str ++ [.str x])) n2;have f2:upd U1 u2 (.lst (zs.map V.str ++ [.str x])) u2=some (.lst (zs.map V.str ++ [.str x])):=aq;generalize upd U1 u2 (.lst (zs.map V.str ++ [.str x]))=U2 at w2 f2 ⊢;refine⟨_,Z,u2,Lh,_,_,Z,Z,f2,w2 _ _ (w1 _ _ eLh5),by rw [lP,lM];show zs.length+1+zs.length<=sizeLine;lia,λu3 n3=>?_⟩;have w3:=aB (o:=.lst (zs.map V.str ++ [.str x] ++ zs.map V.str)) n3;have f3:upd U2 u3 (.lst (zs.map V.str ++ [.str x] ++ zs.map V.str)) u3=some (.lst (zs.map V.str ++ [.str x] ++ zs.map V.str)):=aq;generalize upd U2 u3 (.lst (zs.map V.str ++ [.str x] ++ zs.map V.str))=U3 at w3 f3 ⊢;refine⟨by show 1<=sizeLine;lia,λu4 n4=>?_⟩;have w4:=aB (o:=.lst [.str "nobody78"]) n4;have f4:upd U3 u4 (.lst [.str "nobody78"]) u4=some (.lst [.str "nobody78"]):=aq;generalize upd U3 u4 (.lst [.str "nobody78"])=U4 at w4 f4 ⊢;refine⟨u3,u4,_,_,Z,Z,w4 _ _ f3,f4,by rw [lP,lP,lM];show zs.length+1+zs.length+1<=sizeLine;lia,λu5 n5=>?_⟩;have eb:zs.map V.str ++ [.str x] ++ zs.map V.str ++ [.str "nobody78"]=(((zs ++ [x]) ++ zs) ++ [("nobody78" :Str)]).map V.str:=by rw [map_append,map_append,map_append];rfl
  rw [eb];have w5:=aB (o:=.lst ((((zs ++ [x]) ++ zs) ++ [("nobody78" :Str)]).map V.str)) n5;have f5:upd U4 u5 (.lst ((((zs ++ [x]) ++ zs) ++ [("nobody78" :Str)]).map V.str)) u5=some (.lst ((((zs ++ [x]) ++ zs) ++ [("nobody78" :Str)]).map V.str)):=aq;generalize upd U4 u5 (.lst ((((zs ++ [x]) ++ zs) ++ [("nobody78" :Str)]).map V.str))=H6 at w5 f5 ⊢;have s56:=w1.trans (w2.trans (w3.trans (w4.trans w5)));have s16:=s14.trans (s5.trans s56);clear w1 w2 w3 w4 w5 n1 n2 n3 n4 n5 f1 f2 f3 f4 eb t4;have fb:=Uu hk hzs x d78;obtain⟨du,hdu⟩:∃du:Str,du=if x∈fc ps then("nobody78" :Str) else x:=⟨_,rfl⟩;rw [<-hdu] at fb;have gd:Gd 1 (tdD (some du)):=Td λy e=>by
   cases e;rw [hdu];by_cases h:x∈fc ps
   ·rw [if_pos h];decide +kernel
   ·rw [if_neg h];exact xok
  refine⟨λσ H'=>σ=[some (.ref a),some (.ref L),some (.ref P),some (.ref Y1.n),some (.ref Ld),some (.ref G),some (.ref r),some (.ref T5),some (.int c),some (.str x),some (.ref Lh),some (.ref p5),some (.ref u5),some (.str du),v14]/\H'=H6,?_,?_⟩
  ·refine⟨_,Z,_,Z,Ld,_,Z,.inl (bK.of (s16 _ _ (up cLd))),Z,rN _,_,Z,?_⟩;show if (!inV (.str x) ((fc ps).map V.str))=true then _ else _;rw [uh];by_cases h:x∈fc ps
   ·rw [decide_eq_true h];rw [if_pos h] at hdu;exact cj ⟨by rw [hdu];rfl,rfl⟩
   ·rw [decide_eq_false h];rw [if_neg h] at hdu;exact gm ⟨_,rfl,by rw [hdu];rfl,rfl⟩
  rintro σ H7 ⟨rfl,rfl⟩;refine⟨_,Z,_,Z,_,r,j,Y1,ls,ps,S,5,.ref u5,_,Z,R1.same s16,O,.step u5 _ _ (bK.of f5) fb,λH8 w8 s8 hw8=>?_⟩;refine⟨_,Z,by show 3<=sizeLine;lia,λq nq=>?_⟩;have t9:=aB (o:=.tup [.str du,.bl true,.bl true]) nq;refine⟨_,_,(hw8.same t9).dt,(Dp.tup aq).dt,gd.shaped (by decide),gd.shaped (by decide),_,Z,?_⟩;rw [gd.eq];refine cj ?_;have s69:=s8.trans t9;generalize upd H8 q (.tup [.str du,.bl true,.bl true])=H9 at s69 ⊢;have s19:=s16.trans s69;have s59:=s56.trans s69;clear hw8 t9 nq gd fb f5 s8 s69 s16 s56;refine⟨_,Z,_,Z,_,Z,_,r,j,Y1,ls,ps,S,L,P,Z,R1.same s19,A1.same s19,O,λH10 p10 D10 s10 nD10 al10=>?_⟩;have al9:=al5.same s59;have nD:D10≠D5:=λz=>by obtain⟨_,ra,hL⟩:=al9;rw [z,hL.dict] at nD10;cases nD10
  obtain⟨xs',ys',q1,q2,q3⟩:=al10.alike (al9.same s10) nD;refine⟨_,Z,p10,p5,_,_,Z,Z,q1,q2,q3,_,Z,cj ?_⟩;have s1A:=s19.trans s10;have RA:=R1.same s1A;have eLhA:=s10 _ _ (s59 _ _ eLh5);clear q1 q2 q3 al9 al10 al5 nD nD10 nD5 s19 s59 s10;obtain⟨dxr,fsr,Rr⟩:=id RA.run;refine⟨_,Z,r,dxr,fsr,Z,Rr.1.1,Rr.2.no _ (by decide +kernel),_,Z,Wl RA O (by lia) (by lia) (bK.of eLhA) (λz=>oLh (.tail _ z)) (λy hy=>(DQ hk y).mpr (hzs y hy)) λH11 p11 c11 R11 np11 ep11=>?_⟩;have sC11:=(sC.trans (wL s1A)).trans c11;have eLhB:=dj _ _ (c11 _ _ (f9 eLhA oLh));obtain⟨_,⟨ys,eP,aP⟩⟩:=id ((cA.same sC11).same dj);have dle:(vJ ls ps S zs).length<=16:=le_trans (List.length_filterMap_le _ _) (le_trans (length_filter_le _ _) p16);refine⟨_,rfl,p11,rfl,⟨_,bK.of ep11⟩,fu (K:=K) (a:=p11) (xs:=(vJ ls ps S zs).map λw=>V.str w.1.name) (λi zs' H'=>aK H11 H'/\zs'=[]) (by rw [lM];lia) ⟨aK.refl _,rfl⟩ (λi zs' H' h=>by rw [h.2];exact zero_le _) (λi zs' H' _ h=>h.1.seq (bK.of ep11)) ?_ ?_⟩
  ·rintro i v zs' H12 hv' ⟨s12,rfl⟩;rw [getElem?_map] at hv';obtain⟨w,hw,rfl⟩:=map_eq_some_iff.mp hv';obtain⟨hp,hnz⟩:=Vn (mem_of_getElem? hw);refine⟨_,rfl,_,rfl,P,rfl,⟨_,bK.of (s12 _ _ eP)⟩,zW (s12 _ _ eP) (aP.imp λ_ _ h=>h.same s12) p16 λu nu=>⟨u,_,rfl,.inl (bK.of aq),rfl,(by rw [mp];exact rN _),_,rfl,?_⟩⟩;show if (!inV (.str w.1.name) (ps.map λp=>V.str p.name))=true then _ else _;rw [mp,uh,decide_eq_true (mem_map.mpr ⟨w.1,hp,rfl⟩)];refine cj ⟨_,Z,_,Z,Lh,_,Z,.inl (bK.of (aB nu _ _ (s12 _ _ eLhB))),Z,rN _,_,Z,?_⟩;show if inV (.str w.1.name) (zs.map V.str)=true then _ else _;rw [uh,decide_eq_false hnz];exact cj ⟨s12.trans (aB nu),Z⟩
  rintro zs' H12 ⟨s12,rfl⟩ u12 nu12;refine⟨by show 0<=sizeLine;lia,λu13 nu13=>⟨_,_,Ox (xs:=[]) (bK.of (aB nu13 _ _ aq)),Ox (xs:=[]) (bK.of aq),g0.shaped (by decide),g0.shaped (by decide),_,Z,?_⟩⟩;rw [g0.eq];have sZ:=(s12.trans (aB (o:=.lst []) nu12)).trans (aB (o:=.lst []) nu13);exact cj ⟨_,⟨_,_,_,_,_,_,_,Z⟩,R11.same sZ,sC11.trans (wL sZ),by rw [show 199+32 * (j+1)=199+32 * j+32 by lia];exact Vz F O zs⟩
 rintro σ H1 ⟨S,⟨v8,v9,v10,v11,v12,v13,v14,rfl⟩,R1,sC,O⟩;obtain⟨dxr,fsr,Rr⟩:=id R1.run;refine⟨_,Z,r,dxr,fsr,Z,Rr.1.1,Rr.2.no _ (by decide +kernel),r,_,_,_,Z,R1.run,?_⟩;refine⟨_,rfl,_,rfl,_,rfl,a,_,rfl,(sC.trans dj).seq cS,λq nq=>⟨_,cs.length,rfl,.inl ⟨_,bK.of aq,by rw [hcs];rfl⟩,rfl,?_⟩⟩;rw [decide_eq_true rfl];exact k _
end
theorem fin {l:PySem.W.OpenLaw} {w:World} {K:Fr} {mg:Str->Option Value} {fa r0 r1 r2 r3 r4 r5 r6 r7 r8 r9 r10 r11 r12 r13 r14 r15 r16 r17 r18 r19 r20 r21 r22 r23 r24 r25 r26 r27 r28 r29 r30 r31 r32 r33 r34 r35 r36 r37 r38 r39 r40 r41 r42 r43 r44 r45 r46 r47 r48 r49 r50 r51 r52 r53 r54 r55 r56 r57 r58 r59 r60 r61 r62 r63 r64 r65 r66 r67 r68 r69 r70 r71 r72 r73 r74 r75 r76 r77 r78 r79 r80 r81 r82 r83 r84 r85 r86 r87 r88 r89 r90 r91 r92 r93 r94 r95 r96 r97 r98 r99 r100 r101 r102 r103 r104 r105 r106 r107 r108 r109 r110 r111 r112 r113 r114 r115 r116:Addr} (hfa:mg "law" =some (.ref fa)) (T:Txt w K mg ⟨r0,r1,r2,r3,r4,r5,r6,r7,r8,r9,r10,r11,r12,r13,r14,r15,r16,r17,r18,r19,r20,r21,r22,r23,r24,r25,r26,r27,r28,r29,r30,r31,r32,r33,r34,r35,r36,r37,r38,r39,r40,r41,r42,r43,r44,r45,r46,r47,r48,r49,r50,r51,r52,r53,r54,r55,r56,r57,r58,r59,r60,r61,r62,r63,r64,r65,r66,r67,r68,r69,r70,r71,r72,r73,r74,r75,r76,r77,r78,r79,r80,r81,r82,r83,r84,r85,r86,r87,r88,r89,r90,r91,r92,r93,r94,r95,r96,r97,r98,r99,r100,r101,r102,r103,r104,r105,r106,r107,r108,r109,r110,r111,r112,r113,r114,r115,r116⟩):∃fd:FuncData,(∀(s:Shared) (v:Value),BindsTo s fd ⟨[v],[]⟩ [("_law_script",v)])/\∀base:Heap,K.In base->base.Ns mainGlobals mg->dR l.prog w K mg base GP 11 fa fd ["_law_script"] (Du K):=by have e:=hfa.symm.trans T.Oi.m;cases e;exact⟨_,Ye T.Oi.F λ_ _ _ _ _ _ _=>Z,λbase _ _=>Yl T⟩
theorem walk {l:PySem.W.OpenLaw} {q:Program} {loose:List Str} {XP:(Str->Option Value)->Heap->Prop} {YP:World->Heap->Prop} {d:DefRec} {K:Params->Fr} (hn:l.most=some 63) (hdf:d.params.defaults=[])
  (hY:∀(w:World) (h:Heap),YP w h->(K w.params).In h)
  (F:∀(w:World) (mg:Str->Option Value) (fa:Addr) (h:Heap),(K w.params).In h->h.Ns mainGlobals mg->mg d.name=some (.ref fa)->
   ∃fd:FuncData,(∀(s:Shared) (u:Value),BindsTo s fd ⟨[u],[]⟩ [("_law_script",u)])/\∀base:Heap,(K w.params).In base->base.Ns mainGlobals mg->dR l.prog w (K w.params) mg base GP 11 fa fd ["_law_script"] (Du (K w.params))):
  PySem.W.WalkO q loose XP YP l.row.toRowW d [] (λf vs=>PySem.call f vs):=
 L2.Wo (n:=63) (k:=11) (x:= "_law_script") (CX:=λ_=>GP) (sp:=λw=>Du (K w.params)) hn (by decide) hdf ⟨rfl,by decide,by decide⟩ hY F (λ_ _ a ns hl _ hS=>⟨a,ns,rfl,hS,hl,λ_=>rfl⟩) λ_ _ _ _ _ z=>z
end K42
open PySem PySem.W PyProof.Rows L2
set_option maxRecDepth 100000 in
set_option maxHeartbeats 0 in
theorem PySem.Challenge.cw_holdlane_k42_names_refused_holds : PySem.Challenge.rw_holdlane_k42_names_refused.Holds := by
 w_on;o_law
 refine HD.head (by rfl) (by rfl) (by rfl) (by rfl) (by first | assumption | decide +kernel) (by decide +kernel) ⟨rfl,rfl,rfl,rfl,rfl,by decide +kernel⟩ rfl (λ_=>rfl) ?_ ?_
 ·w_witness2
 k_fill
 refine K42.walk (l:=PySem.Challenge.rw_holdlane_k42_names_refused) Z Z (λw h Y=>PySem.W.kIn_of Y) ?F
 case F=>
  intro w mg fa h KX G hmg;refine' K42.fin hmg ⟨?q0,?q1,?q2,?q3,?q4,?q5,?q6,?q7,?q8,?q9,?q10,?q11,?q12,?q13,?q14,?q15,?q16,?q17,?q18,?q19,?q20,?q21,?q22,?q23,?q24,?q25,?q26,?q27,?q28,?q29,?q30,?q31,?q32,?q33,?q34,?q35,?q36,?q37,?q38,?q39,?q40,?q41,?q42,?q43,?q44,?q45,?q46,?q47,?q48,?q49,?q50,?q51,?q52,?q53,?q54,?q55,?q56,?q57,?q58,?q59,?q60,?q61,?q62,?q63,?q64,?q65,?q66,?q67,?q68,?q69,?q70,?q71,?q72,?q73,?q74,?q75,?q76,?q77,?q78,?q79,?q80,?q81,?q82,?q83,?q84,?q85,?q86,?q87,?q88,?q89,?q90,?q91,?q92,?q93,?q94,?q95,?q96,?q97,?q98,?q99,?q100,?q101,?q102,?q103,?q104,?q105,?q106,?q107,?q108,?q109,?q110,?q111,?q112,?q113,?q114,?q115,?q116,?q117,?q118,?q119,?q120,?q121,?q122,?q123,?q124,?q125,?q126,?q127,?q128,?q129,?q130,?q131,?q132,?q133,?q134,?q135,?q136,?q137,?q138,?q139,?q140,?q141,?q142,?q143,?q144,?q145,?q146,?q147,?q148,?q149,?q150,?q151⟩
  all_goals try dsimp only
  (case q0 | q1 | q2 | q3 | q4 | q5 | q6 | q7 | q8 | q9 | q10=>refine' ⟨mg_of KX G ?_,⟨?_,?_,?_,?_⟩,?_,?_,⟨?_,?_,?_,?_,?_,?_,trivial⟩,⟨?_,?_,?_,?_,trivial⟩⟩ <;> (try dsimp only) <;> k_is)
  (case q11=>refine' ⟨mg_of KX G ?_,⟨?_,?_,?_,?_⟩,?_,?_,⟨?_,?_,?_,?_,?_,?_,?_,?_,?_,?_,trivial⟩,⟨?_,?_,?_,?_,?_,trivial⟩⟩ <;> (try dsimp only) <;> k_is)
  (case q12=>refine' ⟨mg_of KX G ?_,⟨?_,?_,?_,?_⟩,?_,?_,⟨?_,?_,?_,?_,?_,?_,?_,?_,?_,?_,?_,trivial⟩,⟨?_,?_,?_,?_,?_,?_,trivial⟩⟩ <;> (try dsimp only) <;> k_is)
  (case q13=>refine' ⟨mg_of KX G ?_,⟨?_,?_,?_,?_⟩,?_,?_,⟨?_,?_,?_,?_,?_,?_,?_,?_,?_,?_,?_,?_,trivial⟩,⟨?_,?_,?_,trivial⟩⟩ <;> (try dsimp only) <;> k_is)
  (case q14 | q15 | q16=>refine' mg_of KX G ?_ <;> k_is)
  (case q17 | q18=>k_is)
  (case q19=>refine' ⟨?_,?_,?_⟩ <;> kernel_rfl)
  (case q20 | q21 | q22=>kernel_rfl)
  (case q23=>refine' ⟨rF.ofIn ?_,?_,?_⟩ <;> first | k_is | kernel_rfl)
  (case q24=>refine' Nf.ofIn ?_ <;> kernel_rfl)
  (case q25=>unfold ig;kernel_rfl)
  (case q26=>refine' Wz KX ?_ ?_ <;> (try k_is);all_goals kernel_rfl)
  (case q27=>refine' ⟨rF.ofIn ?_,?_,?_⟩ <;> first | k_is | kernel_rfl)
  (case q28=>refine' Nf.ofIn ?_ <;> kernel_rfl)
  (case q29=>unfold ig;kernel_rfl)
  (case q30=>refine' Wz KX ?_ ?_ <;> (try k_is);all_goals kernel_rfl)
  (case q31 | q32=>refine' dG.of ?_ ?_ ?_ ?_ (λ_ _ _ _ _ _=>yC λ_ _=>rfl) <;> try k_is)
  (case q33 | q34=>refine' .of (mg_of KX G ?_) (dG.of ?_ ?_ ?_ ?_ (λ_ _ _ _ _ _=>Cv λ_=>rfl)) <;> (try k_is);all_goals try k_is)
  (case q35=>refine' dG.of ?_ ?_ ?_ ?_ (λ_ _ _ _ _ _=>Zu λ_ _ _ _ _=>rfl) <;> try k_is)
  (case q36 | q37 | q38 | q39 | q40 | q41 | q42 | q43 | q44 | q45 | q46=>refine' dG.of ?_ ?_ ?_ ?_ (λ_ _ _ _ _ _=>Cv λ_=>rfl) <;> try k_is)
  (case q47=>refine' .of (mg_of KX G ?_) (dG.of ?_ ?_ ?_ ?_ (λ_ _ _ _ _ _=>Cv λ_=>rfl)) <;> (try k_is);all_goals try k_is)
  (case q48 | q49 | q50=>refine' .of (mg_of KX G ?_) (dG.of ?_ ?_ ?_ ?_ (λ_ _ _ _ _ _=>Zu λ_ _ _ _ _=>rfl)) <;> (try k_is);all_goals try k_is)
  (case q51=>refine' .of (mg_of KX G ?_) (dG.of ?_ ?_ ?_ ?_ (λ_ _ _ _ _ _=>Cv λ_=>rfl)) <;> (try k_is);all_goals try k_is)
  (case q52 | q53 | q54=>refine' dG.of ?_ ?_ ?_ ?_ (λ_ _ _ _ _ _=>yC λ_ _=>rfl) <;> try k_is)
  (case q55 | q56=>refine' dG.of ?_ ?_ ?_ ?_ (λ_ _ _ _ _ _=>Cv λ_=>rfl) <;> try k_is)
  (case q57 | q58 | q59 | q60 | q61 | q62 | q63 | q64 | q65 | q66 | q67=>refine' dG.of ?_ ?_ ?_ ?_ (λ_ _ _ _ _ _=>GQ λ_ _ _=>rfl) <;> try k_is)
  (case q68 | q69 | q70 | q71=>refine' .of (mg_of KX G ?_) (dG.of ?_ ?_ ?_ ?_ (λ_ _ _ _ _ _=>yC λ_ _=>rfl)) <;> (try k_is);all_goals try k_is)
  (case q72=>refine' .of (mg_of KX G ?_) (dG.of ?_ ?_ ?_ ?_ (λ_ _ _ _ _ _=>GQ λ_ _ _=>rfl)) <;> (try k_is);all_goals try k_is)
  (case q73=>refine' .of (mg_of KX G ?_) (dG.of ?_ ?_ ?_ ?_ (λ_ _ _ _ _ _=>yC λ_ _=>rfl)) <;> (try k_is);all_goals try k_is)
  (case q74=>refine' .of (mg_of KX G ?_) (dG.of ?_ ?_ ?_ ?_ (λ_ _ _ _ _ _=>abb λ_ _ _ _ _ _=>rfl)) <;> (try k_is);all_goals try k_is)
  (case q75=>refine' .of (mg_of KX G ?_) (dG.of ?_ ?_ ?_ ?_ (λ_ _ _ _ _ _=>Uz λ_ _ _ _=>rfl)) <;> (try k_is);all_goals try k_is)
  (case q76 | q77 | q78=>refine' .of (mg_of KX G ?_) (dG.of ?_ ?_ ?_ ?_ (λ_ _ _ _ _ _=>GQ λ_ _ _=>rfl)) <;> (try k_is);all_goals try k_is)
  (case q79=>refine' .of (mg_of KX G ?_) (dG.of ?_ ?_ ?_ ?_ (λ_ _ _ _ _ _=>Uz λ_ _ _ _=>rfl)) <;> (try k_is);all_goals try k_is)
  (case q80=>refine' .of (mg_of KX G ?_) (dG.of ?_ ?_ ?_ ?_ (λ_ _ _ _ _ _=>Cv λ_=>rfl)) <;> (try k_is);all_goals try k_is)
  (case q81 | q82=>refine' .of (mg_of KX G ?_) (dG.of ?_ ?_ ?_ ?_ (λ_ _ _ _ _ _=>yC λ_ _=>rfl)) <;> (try k_is);all_goals try k_is)
  (case q83=>refine' .of (mg_of KX G ?_) (dG.of ?_ ?_ ?_ ?_ (λ_ _ _ _ _ _=>GQ λ_ _ _=>rfl)) <;> (try k_is);all_goals try k_is)
  (case q84=>refine' .of (mg_of KX G ?_) (dG.of ?_ ?_ ?_ ?_ (λ_ _ _ _ _ _=>yC λ_ _=>rfl)) <;> (try k_is);all_goals try k_is)
  (case q85=>refine' .of (mg_of KX G ?_) (dG.of ?_ ?_ ?_ ?_ (λ_ _ _ _ _ _=>Uz λ_ _ _ _=>rfl)) <;> (try k_is);all_goals try k_is)
  (case q86 | q87 | q88=>refine' .of (mg_of KX G ?_) (dG.of ?_ ?_ ?_ ?_ (λ_ _ _ _ _ _=>GQ λ_ _ _=>rfl)) <;> (try k_is);all_goals try k_is)
  (case q89 | q90=>refine' dG.of ?_ ?_ ?_ ?_ (λ_ _ _ _ _ _=>Cv λ_=>rfl) <;> try k_is)
  (case q91=>refine' dG.of ?_ ?_ ?_ ?_ (λ_ _ _ _ _ _=>yC λ_ _=>rfl) <;> try k_is)
  (case q92 | q93=>refine' dG.of ?_ ?_ ?_ ?_ (λ_ _ _ _ _ _=>Cv λ_=>rfl) <;> try k_is)
  (case q94 | q95 | q96 | q97=>refine' dG.of ?_ ?_ ?_ ?_ (λ_ _ _ _ _ _=>yC λ_ _=>rfl) <;> try k_is)
  (case q98=>refine' dG.of ?_ ?_ ?_ ?_ (λ_ _ _ _ _ _=>GQ λ_ _ _=>rfl) <;> try k_is)
  (case q99 | q100 | q101 | q102 | q103 | q104 | q105=>refine' dG.of ?_ ?_ ?_ ?_ (λ_ _ _ _ _ _=>yC λ_ _=>rfl) <;> try k_is)
  (case q106 | q107=>refine' dG.of ?_ ?_ ?_ ?_ (λ_ _ _ _ _ _=>GQ λ_ _ _=>rfl) <;> try k_is)
  (case q108 | q109 | q110 | q111 | q112=>refine' dG.of ?_ ?_ ?_ ?_ (λ_ _ _ _ _ _=>yC λ_ _=>rfl) <;> try k_is)
  (case q113=>refine' dG.of ?_ ?_ ?_ ?_ (λ_ _ _ _ _ _=>Cv λ_=>rfl) <;> try k_is)
  (case q114=>refine' dG.of ?_ ?_ ?_ ?_ (λ_ _ _ _ _ _=>yC λ_ _=>rfl) <;> try k_is)
  (case q115=>refine' Y5.of ?_ ?_ ?_ ?_ ?_ (λ_ F=>F.binds λ_ _ _ _ _ _ _=>yC λ_ _=>⟨_,rfl,rfl⟩) <;> (try k_is);all_goals try k_is)
  (case q116=>refine' .of (mg_of KX G ?_) (dG.of ?_ ?_ ?_ ?_ (λ_ _ _ _ _ _=>Cv λ_=>rfl)) <;> (try k_is);all_goals try k_is)
  (case q117=>refine' .of (mg_of KX G ?_) (dG.of ?_ ?_ ?_ ?_ (λ_ _ _ _ _ _=>yC λ_ _=>rfl)) <;> (try k_is);all_goals try k_is)
  (case q118=>refine' dG.of ?_ ?_ ?_ ?_ (λ_ _ _ _ _ _=>GQ λ_ _ _=>rfl) <;> try k_is)
  (case q119 | q120 | q121 | q122=>refine' dG.of ?_ ?_ ?_ ?_ (λ_ _ _ _ _ _=>yC λ_ _=>rfl) <;> try k_is)
  (case q123=>refine' dG.of ?_ ?_ ?_ ?_ (λ_ _ _ _ _ _=>Cv λ_=>rfl) <;> try k_is)
  (case q124=>refine' .of (mg_of KX G ?_) (dG.of ?_ ?_ ?_ ?_ (λ_ _ _ _ _ _=>GQ λ_ _ _=>rfl)) <;> (try k_is);all_goals try k_is)
  (case q125=>refine' .of (mg_of KX G ?_) (dG.of ?_ ?_ ?_ ?_ (λ_ _ _ _ _ _=>yC λ_ _=>rfl)) <;> (try k_is);all_goals try k_is)
  (case q126=>refine' .of (mg_of KX G ?_) (dG.of ?_ ?_ ?_ ?_ (λ_ _ _ _ _ _=>Uz λ_ _ _ _=>rfl)) <;> (try k_is);all_goals try k_is)
  (case q127=>refine' .of (mg_of KX G ?_) (dG.of ?_ ?_ ?_ ?_ (λ_ _ _ _ _ _=>GQ λ_ _ _=>rfl)) <;> (try k_is);all_goals try k_is)
  (case q128=>refine' .of (mg_of KX G ?_) (dG.of ?_ ?_ ?_ ?_ (λ_ _ _ _ _ _=>Uz λ_ _ _ _=>rfl)) <;> (try k_is);all_goals try k_is)
  (case q129=>refine' .of (mg_of KX G ?_) (dG.of ?_ ?_ ?_ ?_ (λ_ _ _ _ _ _=>Cv λ_=>rfl)) <;> (try k_is);all_goals try k_is)
  (case q130=>refine' mg_of KX G ?_;k_is)
  (case q131=>
   refine' L2.KTab.mk' ?lk ?c1 ?c2 ?c3 ?c4 ?sm ?rows ?nd
   (case lk=>k_is)
   (case c1=>exact rfl)
   (case c2=>exact rfl)
   (case c3=>exact rfl)
   (case c4=>exact rfl)
   (case sm=>exact rfl)
   (case nd=>decide +kernel)
   (case rows=>
    refine' L2.jO.cons ?hh0 ?lk0 ?cc0 ?dd0 ?vv0 ?zz0 ?rest0
    (case hh0=>exact rfl)
    (case lk0=>k_is)
    (case cc0=>exact rfl)
    (case dd0=>exact rfl)
    (case vv0=>exact .cons ⟨_,rfl⟩ (.cons ⟨_,rfl⟩ (.cons ⟨_,rfl⟩ .nil)))
    (case zz0=>decide)
    refine' L2.jO.cons ?hh1 ?lk1 ?cc1 ?dd1 ?vv1 ?zz1 ?rest1
    (case hh1=>exact rfl)
    (case lk1=>k_is)
    (case cc1=>exact rfl)
    (case dd1=>exact rfl)
    (case vv1=>exact .cons ⟨_,rfl⟩ (.cons ⟨_,rfl⟩ (.cons ⟨_,rfl⟩ .nil)))
    (case zz1=>decide)
    refine' L2.jO.cons ?hh2 ?lk2 ?cc2 ?dd2 ?vv2 ?zz2 ?rest2
    (case hh2=>exact rfl)
    (case lk2=>k_is)
    (case cc2=>exact rfl)
    (case dd2=>exact rfl)
    (case vv2=>exact .cons ⟨_,rfl⟩ (.cons ⟨_,rfl⟩ (.cons ⟨_,rfl⟩ .nil)))
    (case zz2=>decide)
    refine' L2.jO.cons ?hh3 ?lk3 ?cc3 ?dd3 ?vv3 ?zz3 ?rest3
    (case hh3=>exact rfl)
    (case lk3=>k_is)
    (case cc3=>exact rfl)
    (case dd3=>exact rfl)
    (case vv3=>exact .cons ⟨_,rfl⟩ (.cons ⟨_,rfl⟩ (.cons ⟨_,rfl⟩ .nil)))
    (case zz3=>decide)
    refine' L2.jO.cons ?hh4 ?lk4 ?cc4 ?dd4 ?vv4 ?zz4 ?rest4
    (case hh4=>exact rfl)
    (case lk4=>k_is)
    (case cc4=>exact rfl)
    (case dd4=>exact rfl)
    (case vv4=>exact .cons ⟨_,rfl⟩ (.cons ⟨_,rfl⟩ (.cons ⟨_,rfl⟩ .nil)))
    (case zz4=>decide)
    refine' L2.jO.cons ?hh5 ?lk5 ?cc5 ?dd5 ?vv5 ?zz5 ?rest5
    (case hh5=>exact rfl)
    (case lk5=>k_is)
    (case cc5=>exact rfl)
    (case dd5=>exact rfl)
    (case vv5=>exact .cons ⟨_,rfl⟩ (.cons ⟨_,rfl⟩ (.cons ⟨_,rfl⟩ .nil)))
    (case zz5=>decide)
    refine' L2.jO.cons ?hh6 ?lk6 ?cc6 ?dd6 ?vv6 ?zz6 ?rest6
    (case hh6=>exact rfl)
    (case lk6=>k_is)
    (case cc6=>exact rfl)
    (case dd6=>exact rfl)
    (case vv6=>exact .cons ⟨_,rfl⟩ (.cons ⟨_,rfl⟩ (.cons ⟨_,rfl⟩ .nil)))
    (case zz6=>decide)
    refine' L2.jO.cons ?hh7 ?lk7 ?cc7 ?dd7 ?vv7 ?zz7 ?rest7
    (case hh7=>exact rfl)
    (case lk7=>k_is)
    (case cc7=>exact rfl)
    (case dd7=>exact rfl)
    (case vv7=>exact .cons ⟨_,rfl⟩ (.cons ⟨_,rfl⟩ (.cons ⟨_,rfl⟩ .nil)))
    (case zz7=>decide)
    refine' L2.jO.cons ?hh8 ?lk8 ?cc8 ?dd8 ?vv8 ?zz8 ?rest8
    (case hh8=>exact rfl)
    (case lk8=>k_is)
    (case cc8=>exact rfl)
    (case dd8=>exact rfl)
    (case vv8=>exact .cons ⟨_,rfl⟩ (.cons ⟨_,rfl⟩ (.cons ⟨_,rfl⟩ .nil)))
    (case zz8=>decide)
    refine' L2.jO.cons ?hh9 ?lk9 ?cc9 ?dd9 ?vv9 ?zz9 ?rest9
    (case hh9=>exact rfl)
    (case lk9=>k_is)
    (case cc9=>exact rfl)
    (case dd9=>exact rfl)
    (case vv9=>exact .cons ⟨_,rfl⟩ (.cons ⟨_,rfl⟩ (.cons ⟨_,rfl⟩ .nil)))
    (case zz9=>decide)
    refine' L2.jO.cons ?hh10 ?lk10 ?cc10 ?dd10 ?vv10 ?zz10 ?rest10
    (case hh10=>exact rfl)
    (case lk10=>k_is)
    (case cc10=>exact rfl)
    (case dd10=>exact rfl)
    (case vv10=>exact .cons ⟨_,rfl⟩ (.cons ⟨_,rfl⟩ (.cons ⟨_,rfl⟩ .nil)))
    (case zz10=>decide)
    exact .nil))
  (case q132 | q133 | q134 | q135 | q136 | q137 | q138 | q139 | q140 | q141 | q142 | q143=>refine' mg_none_of KX G ?_;k_is)
  (case q144 | q145 | q146 | q147 | q148 | q149 | q150 | q151=>refine' gC (mg_of KX G ?_) ?_ <;> (try k_is);all_goals exact⟨_,rfl⟩)
