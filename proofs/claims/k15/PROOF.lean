import PyProof.Rows.All
import Wide.All
import OpenK.AllK
import Wide.FinOn
import Lean
import PyProof.EqAt
import PyProof.EqKinds
import PyProof.TupleCall
import PyProof.StrLawsChain
import PyProof.StrLawsOccR
import PyProof.StrLawsReplace
import PyProof.NeKinds
import PyProof.EnumStmt
import PyProof.EnumMake
import PyProof.ListRange
import PyProof.StationsW
import PyProof.ExcClass2
import PyProof.ExcInit
import PyProof.InstStoreFacts
import OpenK.KRaise
import PyProof.NsDelKeeps
import PyProof.RulesAs
import PyProof.Rows.Catch
import OpenK.KOwn
import PyProof.ExcArgsOwn
import PyProof.ExcAttrAll.ValueError
import PyProof.IsiBase
import PyProof.MaxThree
import PyProof.SeqI3
import KE.KIsAll
import KE.IntTextLaws
import PyProof.StrLawsIdx
import PyProof.FitsInt
import PySem.Challenge.RW_holdlane_k15_parts_made_or_refused
set_option Elab.async false
set_option linter.all false
set_option maxRecDepth 100000
/-! THE HAND LAYER, for ints, bools, texts, own classes, LISTS and tuples (index, slices, in, append, pop ..), calls, loops. Paste it whole ahead of your own text; what your proof does not reach may be deleted. -/
namespace L2
open PySem PySem.Spec PyProof.Rows

/-- a key: an int or a str -/
abbrev Key := Sum Int Str
def keyIs : Key → Value → Bool
  | .inl k, v => Value.isInt k v
  | .inr x, v => Value.isStrOf x v
def keyH (w : World) : Key → Int
  | .inl k => hashInt k
  | .inr x => hashStr w x
theorem keyIs_shape : ∀ {k : Key} {v : Value}, keyIs k v = true → (∃ i t, k = Sum.inl i ∧ v = Value.int i t) ∨ (∃ x t, k = Sum.inr x ∧ v = Value.str x t)
  | .inl i, v, h => by
    obtain ⟨t, e⟩ := Value.isInt_shape (k := i) (v := v) h
    exact .inl ⟨i, t, rfl, e⟩
  | .inr x, v, h => by
    obtain ⟨t, e⟩ := Value.isStrOf_shape (x := x) (v := v) h
    exact .inr ⟨x, t, rfl, e⟩
theorem keyIs_int (i : Int) (t : Tok) : keyIs (.inl i) (.int i t) = true := by simp [keyIs, Value.isInt]
theorem keyIs_str (x : Str) (t : Tok) : keyIs (.inr x) (.str x t) = true := by simp [keyIs, Value.isStrOf]
theorem key_ll (a b : Int) : decide ((Sum.inl a : Key) = Sum.inl b) = (a == b) := by
  by_cases e : a = b
  · subst e; simp
  · have h : ¬ (Sum.inl a : Key) = Sum.inl b := fun q => e (Sum.inl.inj q)
    rw [decide_eq_false h]
    exact (beq_eq_false_iff_ne.mpr e).symm
theorem key_rr (a b : Str) : decide ((Sum.inr a : Key) = Sum.inr b) = decide (a = b) := by
  by_cases e : a = b
  · subst e; simp
  · have h : ¬ (Sum.inr a : Key) = Sum.inr b := fun q => e (Sum.inr.inj q)
    rw [decide_eq_false h, decide_eq_false e]
theorem key_lr (a : Int) (b : Str) : decide ((Sum.inl a : Key) = Sum.inr b) = false := decide_eq_false (fun q => nomatch q)
theorem key_rl (a : Str) (b : Int) : decide ((Sum.inr a : Key) = Sum.inl b) = false := decide_eq_false (fun q => nomatch q)

def mixKind (prog : Program) (w : World) : PySem.KeyKind prog w Key where
  is := keyIs
  hash := keyH w
  inj := fun v a b ha hb => by
    rcases keyIs_shape ha with ⟨i, t, rfl, rfl⟩ | ⟨x, t, rfl, rfl⟩
    · rcases keyIs_shape hb with ⟨j, u, rfl, e⟩ | ⟨y, u, rfl, e⟩
      · injection e with e1 _; rw [e1]
      · exact nomatch e
    · rcases keyIs_shape hb with ⟨j, u, rfl, e⟩ | ⟨y, u, rfl, e⟩
      · exact nomatch e
      · injection e with e1 _; rw [e1]
  byValue := fun k v h => by
    rcases keyIs_shape h with ⟨i, t, rfl, rfl⟩ | ⟨x, t, rfl, rfl⟩ <;> rfl
  pyHash := fun hv h => by
    rcases keyIs_shape hv with ⟨i, t, rfl, rfl⟩ | ⟨x, t, rfl, rfl⟩
    · exact wpAny_pyHash_int h
    · exact wpAny_pyHash_str h
  eqBool := fun hu hv h => by
    rcases keyIs_shape hu with ⟨i, t, rfl, rfl⟩ | ⟨x, t, rfl, rfl⟩
    · rcases keyIs_shape hv with ⟨j, u, rfl, rfl⟩ | ⟨y, u, rfl, rfl⟩
      · rw [key_ll] at h; exact wpAny_eqBool_int h
      · rw [key_lr] at h; exact SeqAt.EqAt.int_str i t y u _ _ _ _ h
    · rcases keyIs_shape hv with ⟨j, u, rfl, rfl⟩ | ⟨y, u, rfl, rfl⟩
      · rw [key_rl] at h; exact SeqAt.EqAt.str_int x t j u _ _ _ _ h
      · rw [key_rr] at h; exact wpAny_eqBool_str h
  «strs» := fun k x t v h => by
    rcases keyIs_shape h with ⟨i, u, rfl, e⟩ | ⟨y, u, rfl, e⟩
    · exact nomatch e
    · injection e with e1 _
      subst e1
      cases v <;> rfl

theorem mixKind_is (prog : Program) (w : World) (k : Key) (v : Value) : (mixKind prog w).is k v = keyIs k v := rfl
theorem mixKind_int (prog : Program) (w : World) (i : Int) (t : Tok) : (mixKind prog w).is (.inl i) (.int i t) = true := keyIs_int i t
theorem mixKind_str (prog : Program) (w : World) (x : Str) (t : Tok) : (mixKind prog w).is (.inr x) (.str x t) = true := keyIs_str x t
end L2

namespace L2
open PySem PySem.Spec PyProof.Rows

/-- a value, without the heap -/
inductive V where
  | non | bl (b : Bool) | int (i : Int) | str (x : Str) | byt (b : Array UInt8) | flt (b : UInt64) | ref (a : Addr) | ty (n : String)
  deriving DecidableEq

def RelV : V → Value → Prop
  | .non, u => u = Value.none
  | .bl b, u => u = Value.bool b
  | .int i, u => ∃ t, u = Value.int i t
  | .str x, u => ∃ t, u = Value.str x t
  | .byt b, u => ∃ t, u = Value.bytes b t
  | .flt b, u => ∃ t, u = Value.float b t
  | .ref a, u => u = Value.ref a
  | .ty n, u => u = Value.type n

abbrev Vals : List V → List Value → Prop := Paired RelV
theorem Vals.length {xs : List V} {us : List Value} (r : Vals xs us) : xs.length = us.length := Paired.length r
theorem Vals.get : ∀ {xs : List V} {us : List Value} {i : Nat} {x : V}, Vals xs us → xs[i]? = some x → ∃ u, us[i]? = some u ∧ RelV x u
  | _, _, _, _, .nil, e => by simp at e
  | _, _, 0, _, .cons r _, e => by simp at e; subst e; exact ⟨_, rfl, r⟩
  | _, _, i + 1, x, .cons _ t, e => by
    obtain ⟨u, h1, h2⟩ := Vals.get (i := i) (x := x) t (by simpa using e)
    exact ⟨u, by simpa using h1, h2⟩
theorem Vals.set {x : V} {u : Value} (r : RelV x u) : ∀ {xs : List V} {us : List Value} (i : Nat), Vals xs us → Vals (xs.set i x) (us.set i u)
  | _, _, _, .nil => .nil
  | _, _, 0, .cons _ t => .cons r t
  | _, _, i + 1, .cons q t => .cons q (Vals.set r i t)
theorem Vals.append : ∀ {xs ys : List V} {us ws : List Value}, Vals xs us → Vals ys ws → Vals (xs ++ ys) (us ++ ws)
  | _, _, _, _, .nil, s => s
  | _, _, _, _, .cons r t, s => .cons r (Vals.append t s)
theorem Vals.take : ∀ {xs : List V} {us : List Value} (n : Nat), Vals xs us → Vals (xs.take n) (us.take n)
  | _, _, 0, _ => .nil
  | _, _, _ + 1, .nil => .nil
  | _, _, n + 1, .cons r t => .cons r (Vals.take n t)
theorem Vals.drop : ∀ {xs : List V} {us : List Value} (n : Nat), Vals xs us → Vals (xs.drop n) (us.drop n)
  | _, _, 0, r => r
  | _, _, _ + 1, .nil => .nil
  | _, _, n + 1, .cons _ t => Vals.drop n t
theorem Vals.none_of : ∀ {xs : List V} {us : List Value} {i : Nat}, Vals xs us → xs[i]? = none → us[i]? = none := fun {xs us i} r e => by
  have h1 := r.length
  have h2 : xs.length ≤ i := List.getElem?_eq_none_iff.mp e
  exact List.getElem?_eq_none_iff.mpr (by omega)

def RelO : Option V → Option Value → Prop
  | some v, some u => RelV v u
  | none, none => True
  | _, _ => False
def KV {κ : Type} : List (κ × V) → List (κ × Value) → Prop := Paired fun (p : κ × V) (q : κ × Value) => p.1 = q.1 ∧ RelV p.2 q.2

/-- a key of a dict (00_mix): an int or a text -/
def kV : Key → V
  | .inl i => .int i
  | .inr x => .str x

/-- what stands at a tracked address -/
inductive HO where
  /-- a list -/
  | lst (xs : List V)
  /-- a tuple (never changes) -/
  | tup (xs : List V)
  /-- a dict whose keys are ints and texts; one whose keys are tuples of ints and texts (the empty one is both) -/
  | dK (kvs : List (Key × V)) | dT (kvs : List (List Key × V))
  /-- a set of ints: its members, its size -/
  | set (S : Int → Bool) (n : Nat)
  /-- an instance of the class at C, its dict at dx, its attributes -/
  | ins (C dx : Addr) (fs : List (Str × V))
  /-- the dict of the instance at x -/
  | own (x : Addr)
  /-- the dict of an exception -/
  | xd (fs : List (Str × V))
  /-- a bound method, f of x -/
  | met (f x : Addr)
  /-- a range object lo, lo + 1, .. below hi -/
  | rng (lo hi : Int)
  /-- a thing that is known to the object (the script; a dict while a loop walks it): read, never written while it is so -/
  | frz (o : Obj) (u : HO)
  /-- a code object's table -/
  | tbl (ps : Array Value)
  /-- any other thing, by what is true of its one object (a def of one's own: SetO a S n := HO.ext fun h => ..) -/
  | ext (φ : Heap → Prop)

abbrev Hp := Addr → Option HO
def upd (H : Hp) (a : Addr) (o : HO) : Hp := fun b => if b = a then some o else H b
theorem upd_same {H : Hp} {a : Addr} {o : HO} : upd H a o a = some o := by unfold upd; rw [if_pos rfl]
theorem upd_ne {H : Hp} {a b : Addr} {o : HO} (h : b ≠ a) : upd H a o b = H b := by unfold upd; rw [if_neg h]
theorem upd_upd {H : Hp} {a : Addr} {o u : HO} : upd (upd H a o) a u = upd H a u := by
  funext b; unfold upd; split <;> rfl
/-- two objects of different content stand apart -/
theorem ne_of {H : Hp} {a b : Addr} {o u : HO} (h : H a = some o) (h' : H b = some u) (d : o ≠ u) : a ≠ b := by
  intro e; subst e; rw [h] at h'; exact d (Option.some.inj h')
theorem ne_of_none {H : Hp} {a b : Addr} {o : HO} (h : H a = some o) (h' : H b = none) : a ≠ b := by
  intro e; subst e; rw [h] at h'; cases h'

section
variable (P : Program) (w : World)
def ObjOk (H : Hp) (h : Heap) (a : Addr) : HO → Prop
  | .lst xs => xs.length ≤ sizeLine ∧ ∃ (its : List Value) (n : Nat), Vals xs its ∧ h.get? a = some { cls := .type "list", data := .seq its.toArray n }
  | .tup xs => xs.length ≤ sizeLine ∧ ∃ its : List Value, Vals xs its ∧ IsTup h a its.toArray
  | .dK kvs => kvs.length ≤ sizeLine ∧ (a == sysModules) = false ∧ ∃ vs, KV kvs vs ∧ h.DictOf (mixKind P w) a vs
  | .dT kvs => kvs.length ≤ sizeLine ∧ (a == sysModules) = false ∧ ∃ xs : List (List Key × Addr × Value),
      Paired (fun (p : List Key × V) (q : List Key × Addr × Value) => p.1 = q.1 ∧ H q.2.1 = some (.tup (p.1.map kV)) ∧ RelV p.2 q.2.2) kvs xs ∧
      ∃ o es ep, h.get? a = some o ∧ o.ExactDict ∧ o.data = .dict es ep ∧ es.toList = xs.map (entryOfKey (tupleKind (mixKind P w))) ∧ (xs.map (·.1)).Nodup
  | .set S n => h.SetOf (intKind P w) a S n
  | .ins C dx fs => H dx = some (.own a) ∧ fs.length ≤ 1000 ∧ dx ≠ a ∧ h.get? a = some (PySem.W.instObj C dx) ∧
      ∃ mA, h.Ns1 dx mA ∧ (∀ f, RelO (fs.lookup f) (mA f)) ∧ PySem.Within mA (fs.map (·.1))
  | .own _ => ∃ o, h.get? a = some o
  | .xd fs => ∃ mA, h.Ns1 a mA ∧ ∀ f, RelO (fs.lookup f) (mA f)
  | .rng lo hi => ∃ t u v, h.get? a = some { cls := .type "range", data := .fields #[.int lo t, .int hi u, .int 1 v] }
  | .frz o u => h.get? a = some o ∧ ObjOk H h a u
  | .tbl ps => h.get? a = some { cls := .none, data := .fields ps }
  | .met f x => h.get? a = some (PySem.W.methodObj (.ref f) (.ref x))
  | .ext φ => φ h ∧ (∃ o, h.get? a = some o) ∧ ∀ h1 h2 : Heap, φ h1 → (∀ o, h1.get? a = some o → h2.get? a = some o) → φ h2
/-- the abstract heap is held -/
def HOk (H : Hp) (h : Heap) : Prop := ∀ a o, H a = some o → ObjOk P w H h a o
end

section
variable {P : Program} {w : World} {H H' : Hp} {h h' : Heap} {a : Addr} {o : HO}
theorem ObjOk.lt (x : ObjOk P w H h a o) : a < h.objs.size := by
  cases o with
  | lst xs => obtain ⟨_, _, _, _, e⟩ := x; exact Heap.lt_size e
  | tup xs => obtain ⟨_, _, _, p⟩ := x; exact p.lt
  | dK kvs => obtain ⟨_, _, _, _, o, _, _, e, _⟩ := x; exact Heap.lt_size e
  | dT kvs => obtain ⟨_, _, _, _, o, _, _, e, _⟩ := x; exact Heap.lt_size e
  | set S n => obtain ⟨o, _, _, _, e, _⟩ := x; exact Heap.lt_size e
  | ins C dx fs => obtain ⟨_, _, _, e, _⟩ := x; exact Heap.lt_size e
  | own y => obtain ⟨_, e⟩ := x; exact Heap.lt_size e
  | xd fs => obtain ⟨_, ⟨_, _, _, e, _⟩, _⟩ := x; exact Heap.lt_size e
  | rng lo hi => obtain ⟨_, _, _, e⟩ := x; exact Heap.lt_size e
  | frz ob u => obtain ⟨e, _⟩ := x; exact Heap.lt_size e
  | tbl ps => exact Heap.lt_size (show h.get? a = some _ from x)
  | met f y => exact Heap.lt_size (show h.get? a = some _ from x)
  | ext φ => obtain ⟨_, ⟨_, e⟩, _⟩ := x; exact Heap.lt_size e
theorem Paired.mapP {α β : Type} {F G : α → β → Prop} : ∀ {l₁ : List α} {l₂ : List β}, Paired F l₁ l₂ → (∀ a b, F a b → G a b) → Paired G l₁ l₂
  | _, _, .nil, _ => .nil
  | _, _, .cons r t, f => .cons (f _ _ r) (Paired.mapP t f)
theorem Paired.imp' {α β : Type} {F G : α → β → Prop} (f : ∀ a b, F a b → G a b) {l₁ : List α} {l₂ : List β} (r : Paired F l₁ l₂) : Paired G l₁ l₂ := Paired.mapP r f
/-- what an object's description leans on: its own object, its own dict, the tuples -/
theorem ObjOk.stay (x : ObjOk P w H h a o) (k : ∀ b u, (b = a ∨ H b = some (.own a)) → h.get? b = some u → h'.get? b = some u)
    (ho : ∀ b, H b = some (.own a) → H' b = some (.own a)) (ht : ∀ b xs, H b = some (.tup xs) → H' b = some (.tup xs)) : ObjOk P w H' h' a o := by
  induction o with
  | lst xs => obtain ⟨z, its, n, r, e⟩ := x; exact ⟨z, its, n, r, k _ _ (.inl rfl) e⟩
  | tup xs => obtain ⟨z, its, r, ob, e, c⟩ := x; exact ⟨z, its, r, ob, k _ _ (.inl rfl) e, c⟩
  | dK kvs => obtain ⟨z, y, vs, r, ob, es, ep, e, c⟩ := x; exact ⟨z, y, vs, r, ob, es, ep, k _ _ (.inl rfl) e, c⟩
  | dT kvs =>
    obtain ⟨z, y, xs, r, ob, es, ep, e, c⟩ := x
    exact ⟨z, y, xs, Paired.mapP r fun p q z => ⟨z.1, ht _ _ z.2.1, z.2.2⟩, ob, es, ep, k _ _ (.inl rfl) e, c⟩
  | set S n => obtain ⟨ob, es, ep, t, e, c⟩ := x; exact ⟨ob, es, ep, t, k _ _ (.inl rfl) e, c⟩
  | ins C dx fs =>
    obtain ⟨d, z, ne, e, mA, ⟨od, es, ep, e2, c⟩, r⟩ := x
    exact ⟨ho _ d, z, ne, k _ _ (.inl rfl) e, mA, ⟨od, es, ep, k _ _ (.inr d) e2, c⟩, r⟩
  | own y => obtain ⟨ob, e⟩ := x; exact ⟨ob, k _ _ (.inl rfl) e⟩
  | xd fs => obtain ⟨mA, ⟨od, es, ep, e, c⟩, r⟩ := x; exact ⟨mA, ⟨od, es, ep, k _ _ (.inl rfl) e, c⟩, r⟩
  | rng lo hi => obtain ⟨t, u, v, e⟩ := x; exact ⟨t, u, v, k _ _ (.inl rfl) e⟩
  | frz ob u ih => obtain ⟨e, q⟩ := x; exact ⟨k _ _ (.inl rfl) e, ih q⟩
  | tbl ps =>
    have e : h.get? a = some { cls := .none, data := .fields ps } := x
    show h'.get? a = some { cls := .none, data := .fields ps }
    exact k a _ (.inl rfl) e
  | met f y =>
    have e : h.get? a = some (PySem.W.methodObj (.ref f) (.ref y)) := x
    show h'.get? a = some (PySem.W.methodObj (.ref f) (.ref y))
    exact k a _ (.inl rfl) e
  | ext φ => obtain ⟨p, ⟨o, e⟩, st⟩ := x; exact ⟨st _ _ p fun o q => k _ _ (.inl rfl) q, ⟨o, k _ _ (.inl rfl) e⟩, st⟩
theorem HOk.lt (x : HOk P w H h) (e : H a = some o) : a < h.objs.size := (x a o e).lt
theorem HOk.fresh (x : HOk P w H h) (e : h.objs.size ≤ a) : H a = none := by
  cases q : H a with
  | none => rfl
  | some u => exact absurd (Nat.lt_of_lt_of_le (x.lt q) e) (Nat.lt_irrefl _)
/-- every object of the heap is kept -/
theorem HOk.kept (x : HOk P w H h) (k : ∀ b u, h.get? b = some u → h'.get? b = some u) : HOk P w H h' := fun a o e =>
  (x a o e).stay (fun b u _ q => k b u q) (fun _ q => q) fun _ _ q => q
/-- a new object is laid and tracked -/
theorem HOk.laid (x : HOk P w H h) (k : ∀ b u, h.get? b = some u → h'.get? b = some u) (hp : h.objs.size ≤ a) (new : ObjOk P w (upd H a o) h' a o) : HOk P w (upd H a o) h' := fun b u e => by
  have hn := x.fresh hp
  by_cases hb : b = a
  · subst hb; rw [upd_same] at e; cases e; exact new
  · rw [upd_ne hb] at e
    exact (x b u e).stay (fun c v _ q => k c v q) (fun c q => by rw [upd_ne (ne_of_none q hn)]; exact q) fun c xs q => by rw [upd_ne (ne_of_none q hn)]; exact q
end

/-- what may be read as u: it is u, or a known u -/
def Rd (H : Hp) (a : Addr) (u : HO) : Prop := H a = some u ∨ ∃ o, H a = some (.frz o u)
theorem Rd.of {H : Hp} {a : Addr} {u : HO} (h : H a = some u) : Rd H a u := .inl h
theorem Rd.ok {P : Program} {w : World} {H : Hp} {h : Heap} {a : Addr} {u : HO} (r : Rd H a u) (x : HOk P w H h) : ObjOk P w H h a u := by
  rcases r with r | ⟨o, r⟩
  · exact x a u r
  · obtain ⟨_, q⟩ := x a _ r
    exact q
/-- what may be written -/
def Mut : Option HO → Prop
  | some (.lst _) => True
  | some (.dK _) => True
  | some (.dT _) => True
  | some (.set _ _) => True
  | some (.ins _ _ _) => True
  | some (.ext _) => True
  | _ => False
section
variable {P : Program} {w : World} {H : Hp} {h h' : Heap} {x e : Addr} {o' : HO}
/-- the object at e is changed: x itself, or the dict of the instance x -/
theorem HOk.write (ok : HOk P w H h) (mu : Mut (H x)) (he : e = x ∨ H e = some (.own x)) (k : ∀ b u, b ≠ e → h.get? b = some u → h'.get? b = some u) (heo : ∃ u, h'.get? e = some u)
    (new : ObjOk P w (upd H x o') h' x o') : HOk P w (upd H x o') h' := fun b u q => by
  have nown : ∀ c y, H c = some (.own y) → c ≠ x := fun c y r z => by subst z; rw [r] at mu; exact mu
  have ntup : ∀ c xs, H c = some (.tup xs) → c ≠ x := fun c xs r z => by subst z; rw [r] at mu; exact mu
  by_cases hb : b = x
  · subst hb; rw [upd_same] at q; cases q; exact new
  · rw [upd_ne hb] at q
    by_cases hbe : b = e
    · have q' : H b = some (.own x) := by
        rcases he with z | z
        · exact absurd (hbe.trans z) hb
        · rw [hbe]; exact z
      rw [q] at q'; cases q'
      obtain ⟨v, hv⟩ := heo
      exact ⟨v, by rw [hbe]; exact hv⟩
    · refine (ok b u q).stay (fun c v hc r => k c v ?_ r) (fun c r => by rw [upd_ne (nown c b r)]; exact r) fun c xs r => by rw [upd_ne (ntup c xs r)]; exact r
      rcases hc with rfl | hc
      · exact hbe
      · rintro rfl
        rcases he with z | z
        · exact nown c b hc z
        · rw [hc] at z; cases z; exact hb rfl
end

/-! ### kept unless tracked; of the frames at fs (the callers') the slots may change (an exception that passes writes there); of the records at ex (iterators) nothing is said -/
structure Un (fs ex : List Addr) (H H' : Hp) (h h' : Heap) : Prop where
  keep : ∀ b o, h.get? b = some o → H b = none → b ∉ fs → b ∉ ex → h'.get? b = some o
  slot : ∀ b o, h.get? b = some o → H b = none → b ∈ fs → b ∉ ex → ∃ sl, h'.get? b = some { o with slots := sl }
  free : ∀ b o, h.get? b = some o → H b = none → b ∉ ex → H' b = none
  there : ∀ b o, h.get? b = some o → b ∉ ex → ∃ o', h'.get? b = some o'
  tups : ∀ b xs, H b = some (.tup xs) → H' b = some (.tup xs)
  frzs : ∀ b o u, H b = some (.frz o u) → H' b = some (.frz o u)
  tbls : ∀ b ps, H b = some (.tbl ps) → ∃ more, H' b = some (.tbl (ps ++ more))
section
variable {fs fs' ex ex' : List Addr} {H H1 H2 : Hp} {h h1 h2 h' : Heap} {a x e : Addr} {o : HO}
theorem Un.any (u : Un fs ex H H1 h h1) {b : Addr} {ob : Obj} (q : h.get? b = some ob) (n : H b = none) (hx : b ∉ ex) : ∃ sl, h1.get? b = some { ob with slots := sl } := by
  by_cases hb : b ∈ fs
  · exact u.slot b ob q n hb hx
  · exact ⟨ob.slots, u.keep b ob q n hb hx⟩
theorem Un.trans (a : Un fs ex H H1 h h1) (b : Un fs ex H1 H2 h1 h2) : Un fs ex H H2 h h2 where
  keep := fun c ob q n hc hx => b.keep c ob (a.keep c ob q n hc hx) (a.free c ob q n hx) hc hx
  slot := fun c ob q n hc hx => by
    obtain ⟨sl, e1⟩ := a.slot c ob q n hc hx
    obtain ⟨sl', e2⟩ := b.slot c _ e1 (a.free c ob q n hx) hc hx
    exact ⟨sl', e2⟩
  free := fun c ob q n hx => by
    obtain ⟨o', e1⟩ := a.there c ob q hx
    exact b.free c o' e1 (a.free c ob q n hx) hx
  there := fun c ob q hx => by
    obtain ⟨o', e1⟩ := a.there c ob q hx
    exact b.there c o' e1 hx
  tups := fun c xs q => b.tups c xs (a.tups c xs q)
  frzs := fun c ob xs q => b.frzs c ob xs (a.frzs c ob xs q)
  tbls := fun c ps q => by
    obtain ⟨m1, e1⟩ := a.tbls c ps q
    obtain ⟨m2, e2⟩ := b.tbls c _ e1
    exact ⟨m1 ++ m2, by rw [e2, Array.append_assoc]⟩
theorem Un.kept (k : ∀ b u, h.get? b = some u → h'.get? b = some u) : Un fs ex H H h h' :=
  ⟨fun b ob q _ _ _ => k b ob q, fun b ob q _ _ _ => ⟨ob.slots, k b ob q⟩, fun _ _ _ n _ => n, fun b ob q _ => ⟨ob, k b ob q⟩, fun _ _ q => q, fun _ _ _ q => q, fun _ ps q => ⟨#[], by rw [q]; simp⟩⟩
theorem Un.refl : Un fs ex H H h h := Un.kept fun _ _ q => q
theorem Un.laid (k : ∀ b u, h.get? b = some u → h'.get? b = some u) (hp : h.objs.size ≤ a) (hn : H a = none) : Un fs ex H (upd H a o) h h' where
  keep := fun b u q _ _ _ => k b u q
  slot := fun b u q _ _ _ => ⟨u.slots, k b u q⟩
  free := fun b u q n _ => by rw [upd_ne (Nat.ne_of_lt (Nat.lt_of_lt_of_le (Heap.lt_size q) hp))]; exact n
  there := fun b u q _ => ⟨u, k b u q⟩
  tups := fun b xs q => by rw [upd_ne (ne_of_none q hn)]; exact q
  frzs := fun b u xs q => by rw [upd_ne (ne_of_none q hn)]; exact q
  tbls := fun b ps q => ⟨#[], by rw [upd_ne (ne_of_none q hn), q]; simp⟩
theorem Un.write (mu : Mut (H x)) (he : e = x ∨ H e = some (.own x)) (k : ∀ b u, b ≠ e → h.get? b = some u → h'.get? b = some u) (heo : ∃ u, h'.get? e = some u) : Un fs ex H (upd H x o) h h' := by
  have hx : ∀ b, H b = none → b ≠ x := fun b n z => by subst z; rw [n] at mu; exact mu
  have hb : ∀ b, H b = none → b ≠ e := fun b n z => by
    subst z
    rcases he with r | r
    · exact hx b n r
    · rw [n] at r; cases r
  have hm : ∀ b u, H b = some u → ¬ Mut (some u) → b ≠ x := fun b u q nm z => by subst z; rw [q] at mu; exact nm mu
  refine ⟨fun b u q n _ _ => k b u (hb b n) q, fun b u q n _ _ => ⟨u.slots, k b u (hb b n) q⟩, fun b u q n _ => by rw [upd_ne (hx b n)]; exact n, fun b u q _ => ?_,
    fun b xs q => by rw [upd_ne (hm b _ q fun z => z)]; exact q, fun b u xs q => by rw [upd_ne (hm b _ q fun z => z)]; exact q, fun b ps q => ⟨#[], by rw [upd_ne (hm b _ q fun z => z), q]; simp⟩⟩
  by_cases hbe : b = e
  · subst hbe; exact heo
  · exact ⟨u, k b u hbe q⟩
theorem Un.mono (u : Un fs ex H H1 h h1) (hs : ∀ b ∈ fs, b ∈ fs') (hx : ∀ b ∈ ex, b ∈ ex') : Un fs' ex' H H1 h h1 :=
  ⟨fun b ob q n hb he => u.keep b ob q n (fun z => hb (hs b z)) fun z => he (hx b z), fun _ _ q n _ he => u.any q n fun z => he (hx _ z), fun b ob q n he => u.free b ob q n fun z => he (hx b z), fun b ob q he => u.there b ob q fun z => he (hx b z), u.tups, u.frzs, u.tbls⟩
end

/-! ### the heap without what is tracked -/
def trk (h : Heap) (H : Hp) : List Addr := (List.range h.objs.size).filter fun a => (H a).isSome
def hidT (h : Heap) (H : Hp) : Heap := PySem.W.hideAll h (trk h H)
theorem hidT_size (h : Heap) (H : Hp) : (hidT h H).objs.size = h.objs.size := PySem.W.hideAll_size _ _
theorem hidT_get {h : Heap} {H : Hp} {b : Addr} {o : Obj} (e : h.get? b = some o) (n : H b = none) : (hidT h H).get? b = some o :=
  PySem.W.hideAll_get _ e fun hm => by
    have q : (H b).isSome = true := (List.mem_filter.mp hm).2
    rw [n] at q; simp at q
theorem of_hidT {h : Heap} {H : Hp} {b : Addr} {o : Obj} (e : (hidT h H).get? b = some o) : h.get? b = some o ∧ H b = none := by
  have e' : h.get? b = some o := PySem.W.of_hideAll (trk h H) e
  refine ⟨e', ?_⟩
  cases q : H b with
  | none => rfl
  | some x =>
    have hm : b ∈ trk h H := List.mem_filter.mpr ⟨List.mem_range.mpr (Heap.lt_size e'), by simp [q]⟩
    have z : (hidT h H).get? b = none := PySem.W.hideAll_none (trk h H) hm
    rw [z] at e; cases e

/-! ### OpenK's ledger, filled with every new object but one -/
def allNews (g h : Heap) (L : Addr) : List (Addr × Obj) := (List.range h.objs.size).filterMap fun a => if a = L ∨ (g.get? a).isSome = true then none else (h.get? a).map fun o => (a, o)
theorem mem_allNews {g h : Heap} {L a : Addr} {o : Obj} (h1 : a ≠ L) (h2 : g.get? a = none) (h3 : h.get? a = some o) : (a, o) ∈ allNews g h L :=
  List.mem_filterMap.mpr ⟨a, List.mem_range.mpr (Heap.lt_size h3), by simp [h1, h2, h3]⟩
theorem of_mem_allNews {g h : Heap} {L : Addr} {p : Addr × Obj} (hp : p ∈ allNews g h L) : p.1 ≠ L ∧ g.get? p.1 = none ∧ h.get? p.1 = some p.2 := by
  obtain ⟨b, _, e⟩ := List.mem_filterMap.mp hp
  split at e
  · cases e
  · rename_i hn
    cases q : h.get? b with
    | none => rw [q] at e; simp at e
    | some u =>
      rw [q] at e
      simp only [Option.map_some, Option.some.injEq] at e
      subst e
      refine ⟨fun z => hn (.inl z), ?_, q⟩
      show g.get? b = none
      cases r : g.get? b with
      | none => rfl
      | some v => exact (hn (.inr (by simp [r]))).elim
def rest (g h : Heap) (L d : Addr) : List (Addr × Obj) := (allNews g h L).filter fun p => decide (p.1 ≠ d)
theorem rest_ne {g h : Heap} {L d : Addr} : ∀ p ∈ rest g h L d, p.1 ≠ d := fun p hp => of_decide_eq_true (List.mem_filter.mp hp).2
theorem mem_rest {g h : Heap} {L d a : Addr} {o : Obj} (h1 : a ≠ L) (h2 : g.get? a = none) (h3 : h.get? a = some o) (h4 : a ≠ d) : (a, o) ∈ rest g h L d :=
  List.mem_filter.mpr ⟨mem_allNews h1 h2 h3, decide_eq_true h4⟩
theorem news_all {g h : Heap} {L : Addr} : News g L h (allNews g h L) := fun p hp => let ⟨a, b, c⟩ := of_mem_allNews hp; ⟨c, a, b⟩
theorem news_at {g h : Heap} {L d : Addr} {o : Obj} (h1 : d ≠ L) (h2 : g.get? d = none) (h3 : h.get? d = some o) : News g L h ((d, o) :: rest g h L d) := fun p hp => by
  rcases List.mem_cons.mp hp with rfl | hp
  · exact ⟨h3, h1, h2⟩
  · exact news_all p (List.mem_filter.mp hp).1
/-- behind a rule that changed d alone: all else but the frame is kept -/
theorem kept_of_news {g h h' : Heap} {L d : Addr} {m : Str → Option Value} (k : ∀ b o, g.get? b = some o → h.get? b = some o) (F : Fr g L h' m) (N : News g L h' (rest g h L d)) :
    ∀ b o, b ≠ L → b ≠ d → h.get? b = some o → h'.get? b = some o := fun b o h1 h2 e => by
  cases q : g.get? b with
  | some u =>
    have := k b u q
    rw [e] at this; cases this
    exact F.keep b _ q
  | none => exact (N (b, o) (mem_rest h1 q e h2)).1
end L2

namespace L2
open PySem PySem.Spec PyProof.Rows

/-- the module's facts, over the base: the heap at the law's entry without what is tracked there -/
structure Mod (K : PySem.W.Frag) (mg : Str → Option Value) (base : Heap) : Prop where
  kin : K.In base
  glob : base.Ns mainGlobals mg
  blt : ∃ mb, base.Ns builtinsNs mb ∧ ∀ x : Str, x ≠ "__name__" → mb x = bootBuiltins x
  nolimit : base.NoLimit

/-- the context: a def's body (or a comprehension's block) running. base: fixed through the whole law; s₀, H₀: the entry; outer: the frames whose slots others may change (a def's callers); stack: all frames that run;
   ex: iterators that were made ahead of the entry and are walked here (a comprehension's); fn: the names whose cells were made at the entry (a def: all; a comprehension's block: its own); calm: not within an except suite; pn: pins that every state bears; xe: what is wanted of an exception that leaves the code -/
structure Cx where
  prog : Program
  w : World
  K : PySem.W.Frag
  mg : Str → Option Value
  base : Heap
  A : Around
  N : List Str
  s₀ : Shared
  H₀ : Hp
  env : Env
  outer : List Env
  stack : List Env
  ex : List Addr
  fn : Str → Bool
  calm : Bool
  pn : List (Addr × Obj)
  xe : Value → Shared → Prop
/-- the callers' frames -/
def frs (l : List Env) : List Addr := l.filterMap (·.frame)
abbrev Cx.fs (X : Cx) : List Addr := frs X.outer

def Vis (sc : Scope) (x : Str) : Prop := sc.names.lookup x = some .local ∨ sc.names.lookup x = some .cell ∨ sc.names.lookup x = some .free
def Loc (sc : Scope) (x : Str) : Prop := sc.names.lookup x = some .local ∨ sc.names.lookup x = some .cell
def Look (env : Env) (h : Heap) (m : Str → Option Value) (x : Str) (u : Value) : Prop :=
  (env.kindOf x = some .local ∧ m x = some u) ∨ ((env.kindOf x = some .cell ∨ env.kindOf x = some .free) ∧ ∃ c, env.cells.lookup x = some c ∧ h.IsCell c (some u))

structure Cx.Ok (X : Cx) : Prop where
  mod : Mod X.K X.mg X.base
  kind : X.env.scope.kind = .function
  glob : X.env.globals = mainGlobals
  blt : X.env.builtins = builtinsNs
  above : X.s₀.heap.objs.size ≤ X.env.locals
  inj : ∀ x y c, X.env.cells.lookup x = some c → X.env.cells.lookup y = some c → x = y
  has : ∀ x, (X.env.kindOf x = some .cell ∨ X.env.kindOf x = some .free) → ∃ c, X.env.cells.lookup x = some c
  cab : ∀ x c, X.fn x = true → X.env.cells.lookup x = some c → X.s₀.heap.objs.size ≤ c
  hd : X.calm = true → X.A.handled = none
  frames : X.A.frames = some X.stack
  stk : X.stack = X.outer ∨ (X.stack = X.env :: X.outer ∧ X.env.frame = some X.env.locals)
  exf : ∀ b ∈ X.ex, b ≠ X.env.locals ∧ ∀ x c, X.env.cells.lookup x = some c → c ≠ b
  bs : ∀ b o, X.base.get? b = some o → X.s₀.heap.get? b = some o ∧ X.H₀ b = none
  bsz : X.base.objs.size ≤ X.s₀.heap.objs.size
  noex : ∀ b o, X.base.get? b = some o → b ∉ X.ex
  exfs : ∀ b ∈ X.ex, b ∉ X.fs
  funs : X.s₀.heap.FunFrames X.base X.outer
  frf : ∀ b ∈ X.fs, X.H₀ b = none

structure Inv (X : Cx) (pins : List (Addr × Obj)) (σ : List (Option V)) (H : Hp) (s : Shared) : Prop where
  ok : X.Ok
  os : s.os = X.s₀.os
  bare : AllBare s.gens
  base : Un X.fs X.ex X.H₀ H X.s₀.heap s.heap
  loc : ∃ m, s.heap.Ns X.env.locals m ∧ ∀ (i : Nat) (x : Str) (v : V), X.N[i]? = some x → σ[i]? = some (some v) → Vis X.env.scope x → ∃ u, RelV v u ∧ Look X.env s.heap m x u
  cell : ∀ x c, X.env.cells.lookup x = some c → ∃ v, s.heap.IsCell c v
  free : H X.env.locals = none
  freeC : ∀ x c, X.env.cells.lookup x = some c → H c = none
  pin : ∀ p ∈ X.pn ++ pins, s.heap.get? p.1 = some p.2 ∧ H p.1 = none ∧ p.1 ≠ X.env.locals ∧ p.1 ∉ X.fs ∧ ∀ v, p.2.data ≠ .cell v
  hok : HOk X.prog X.w H s.heap
  len : σ.length = X.N.length

section
variable {X : Cx} {pins : List (Addr × Obj)} {σ : List (Option V)} {H H' : Hp} {s : Shared} {h' : Heap}

theorem Cx.Ok.nofr (ok : X.Ok) {b : Addr} {o : Obj} (e : X.base.get? b = some o) : b ∉ X.fs := fun hb => by
  have := (ok.funs.mem hb).1
  rw [e] at this; cases this
theorem Inv.bs (I : Inv X pins σ H s) : ∀ b o, X.base.get? b = some o → s.heap.get? b = some o ∧ H b = none := fun b o e =>
  ⟨I.base.keep b o (I.ok.bs b o e).1 (I.ok.bs b o e).2 (I.ok.nofr e) (I.ok.noex b o e), I.base.free b o (I.ok.bs b o e).1 (I.ok.bs b o e).2 (I.ok.noex b o e)⟩
theorem Inv.bk (I : Inv X pins σ H s) : ∀ b o, X.base.get? b = some o → s.heap.get? b = some o := fun b o e => (I.bs b o e).1
theorem Inv.mod (I : Inv X pins σ H s) : Mod X.K X.mg X.base := I.ok.mod
theorem Inv.kIn (I : Inv X pins σ H s) : X.K.In s.heap := I.ok.mod.kin.keeps I.bk
theorem Inv.nolimit (I : Inv X pins σ H s) : s.heap.NoLimit := I.ok.mod.nolimit.keeps I.bk
/-- the frame over the base: for OpenK's rules (K.In X.base is I.mod.kin) -/
theorem Inv.fr (I : Inv X pins σ H s) : ∃ m, Fr X.base X.env.locals s.heap m :=
  let ⟨m, hn, _⟩ := I.loc
  ⟨m, hn, I.bk, Nat.le_trans I.ok.bsz I.ok.above⟩
theorem Inv.lt (I : Inv X pins σ H s) : X.env.locals < s.heap.objs.size := let ⟨_, hn, _⟩ := I.loc; hn.lt
theorem Inv.sz (I : Inv X pins σ H s) : X.s₀.heap.objs.size ≤ s.heap.objs.size := Nat.le_trans I.ok.above (Nat.le_of_lt I.lt)
theorem Inv.nofs (I : Inv X pins σ H s) {a : Addr} (h : s.heap.objs.size ≤ a) : a ∉ X.fs := fun hb => by
  obtain ⟨_, o, ho, _⟩ := I.ok.funs.mem hb
  exact absurd (Nat.lt_of_lt_of_le (Heap.lt_size ho) (Nat.le_trans I.sz h)) (Nat.lt_irrefl _)
theorem Inv.cne (I : Inv X pins σ H s) : ∀ x c, X.env.cells.lookup x = some c → c ≠ X.env.locals := fun x c e z => by
  obtain ⟨v, o, ho, hd⟩ := I.cell x c e
  obtain ⟨m, ⟨o', es, ep, ho', hd', _⟩, _⟩ := I.loc
  rw [z, ho'] at ho; cases ho; rw [hd'] at hd; cases hd
theorem Inv.funs (I : Inv X pins σ H s) : s.heap.FunFrames X.base X.outer := by
  have all : ∀ (l : List Env), (∀ b ∈ frs l, b ∈ X.fs) → X.s₀.heap.FunFrames X.base l → s.heap.FunFrames X.base l := by
    intro l
    induction l with
    | nil => intro _ _; trivial
    | cons env r ih =>
      intro hs hl
      obtain ⟨hk, ⟨L, o, hf, hn, ho, hd⟩, hr⟩ := hl
      have hL : L ∈ X.fs := hs L (by unfold frs; rw [List.filterMap_cons, hf]; exact List.mem_cons_self)
      obtain ⟨sl, e⟩ := I.base.slot L o ho (I.ok.frf L hL) hL fun z => I.ok.exfs L z hL
      exact ⟨hk, ⟨L, _, hf, hn, e, hd⟩, ih (fun b hb => hs b (by unfold frs; rw [List.filterMap_cons, hf]; exact List.mem_cons_of_mem _ hb)) hr⟩
  exact all X.outer (fun _ hb => hb) I.ok.funs

/-- the frames that run, for a call -/
theorem Inv.stack (I : Inv X pins σ H s) : s.heap.FunFrames X.base X.stack := by
  rcases I.ok.stk with e | ⟨e, hf⟩
  · rw [e]; exact I.funs
  · rw [e]
    obtain ⟨m, hn, _⟩ := I.loc
    refine .cons (by rw [I.ok.kind]; decide) hf hn ?_ I.funs
    exact Heap.get?_none_of_le (Nat.le_trans I.ok.bsz I.ok.above)
theorem Inv.stkSub (I : Inv X pins σ H s) : ∀ b ∈ frs X.stack, b ∈ X.env.locals :: X.fs := fun b hb => by
  rcases I.ok.stk with e | ⟨e, hf⟩
  · rw [e] at hb; exact List.mem_cons_of_mem _ hb
  · rw [e] at hb
    unfold frs at hb
    rw [List.filterMap_cons, hf] at hb
    exact hb
theorem Inv.stkFree (I : Inv X pins σ H s) : ∀ b ∈ frs X.stack, H b = none := fun b hb => by
  rcases List.mem_cons.mp (I.stkSub b hb) with e | hb
  · rw [e]; exact I.free
  · obtain ⟨_, o, ho, _⟩ := I.ok.funs.mem hb
    exact I.base.free b o ho (I.ok.frf b hb) fun z => I.ok.exfs b z hb

/-- THE STEP: the untracked objects but the frame and the records at ch are kept (the callers' frames up to slots), the frame's map is kept, the new abstract heap is held -/
theorem Inv.step {g' : Array GenState} {t' : Nat} {d' : Drawn} {ch : List Addr} (I : Inv X pins σ H s)
    (hch : ∀ b ∈ ch, (b ∈ X.ex ∨ X.s₀.heap.objs.size ≤ b) ∧ b ≠ X.env.locals ∧ (∀ x c, X.env.cells.lookup x = some c → c ≠ b) ∧ ∀ p ∈ X.pn ++ pins, p.1 ≠ b)
    (keep : ∀ b o, b ≠ X.env.locals → b ∉ X.fs → b ∉ ch → s.heap.get? b = some o → H b = none → h'.get? b = some o)
    (slot : ∀ b o, b ≠ X.env.locals → b ∈ X.fs → b ∉ ch → s.heap.get? b = some o → H b = none → ∃ sl, h'.get? b = some { o with slots := sl }) (free : ∀ b o, b ∉ ch → s.heap.get? b = some o → H b = none → H' b = none)
    (there : ∀ b o, b ∉ ch → s.heap.get? b = some o → ∃ o', h'.get? b = some o')
    (tups : ∀ b xs, H b = some (.tup xs) → H' b = some (.tup xs)) (frzs : ∀ b o u, H b = some (.frz o u) → H' b = some (.frz o u)) (tbls : ∀ b ps, H b = some (.tbl ps) → ∃ more, H' b = some (.tbl (ps ++ more)))
    (ns : ∀ m, s.heap.Ns X.env.locals m → h'.Ns X.env.locals m) (hok : HOk X.prog X.w H' h') (hg : AllBare g') :
    Inv X pins σ H' { s with heap := h', gens := g', drawn := d', toks := t' } := by
  have neL : ∀ b o, X.s₀.heap.get? b = some o → b ≠ X.env.locals := fun b o e => Nat.ne_of_lt (Nat.lt_of_lt_of_le (Heap.lt_size e) I.ok.above)
  have neC : ∀ b o, X.s₀.heap.get? b = some o → b ∉ X.ex → b ∉ ch := fun b o e hx hb => by
    rcases (hch b hb).1 with z | z
    · exact hx z
    · exact absurd (Nat.lt_of_lt_of_le (Heap.lt_size e) z) (Nat.lt_irrefl _)
  have cellK : ∀ x c, X.env.cells.lookup x = some c → ∀ v, s.heap.IsCell c v → h'.IsCell c v := fun x c e v ⟨o, ho, hd⟩ => by
    have nch : c ∉ ch := fun z => (hch c z).2.2.1 x c e rfl
    by_cases hc : c ∈ X.fs
    · obtain ⟨sl, q⟩ := slot c o (I.cne x c e) hc nch ho (I.freeC x c e)
      exact ⟨_, q, hd⟩
    · exact ⟨o, keep c o (I.cne x c e) hc nch ho (I.freeC x c e), hd⟩
  refine ⟨I.ok, I.os, hg, ⟨fun b o e n hb hx => ?_, fun b o e n hb hx => ?_, fun b o e n hx => ?_, fun b o e hx => ?_, fun b xs e => tups b xs (I.base.tups b xs e), fun b o xs e => frzs b o xs (I.base.frzs b o xs e), fun b ps e => ?_⟩, ?_, fun x c e => ?_, ?_, fun x c e => ?_, fun p hp => ?_, hok, I.len⟩
  · exact keep b o (neL b o e) hb (neC b o e hx) (I.base.keep b o e n hb hx) (I.base.free b o e n hx)
  · obtain ⟨sl, e1⟩ := I.base.slot b o e n hb hx
    obtain ⟨sl', e2⟩ := slot b _ (neL b o e) hb (neC b o e hx) e1 (I.base.free b o e n hx)
    exact ⟨sl', e2⟩
  · obtain ⟨o', e1⟩ := I.base.there b o e hx
    exact free b o' (neC b o e hx) e1 (I.base.free b o e n hx)
  · obtain ⟨o', e1⟩ := I.base.there b o e hx
    exact there b o' (neC b o e hx) e1
  · obtain ⟨m1, e1⟩ := I.base.tbls b ps e
    obtain ⟨m2, e2⟩ := tbls b _ e1
    exact ⟨m1 ++ m2, by rw [e2, Array.append_assoc]⟩
  · obtain ⟨m, hn, hl⟩ := I.loc
    refine ⟨m, ns m hn, fun i x v e1 e2 e3 => ?_⟩
    obtain ⟨u, r, l⟩ := hl i x v e1 e2 e3
    refine ⟨u, r, ?_⟩
    rcases l with l | ⟨k, c, e, z⟩
    · exact .inl l
    · exact .inr ⟨k, c, e, cellK x c e _ z⟩
  · obtain ⟨v, z⟩ := I.cell x c e
    exact ⟨v, cellK x c e v z⟩
  · obtain ⟨m, ⟨o, _, _, ho, _⟩, _⟩ := I.loc
    exact free _ o (fun z => (hch _ z).2.1 rfl) ho I.free
  · obtain ⟨v, o, ho, hd⟩ := I.cell x c e
    exact free c o (fun z => (hch c z).2.2.1 x c e rfl) ho (I.freeC x c e)
  · obtain ⟨e, n, ne, nf, d⟩ := I.pin p hp
    have nch : p.1 ∉ ch := fun z => (hch p.1 z).2.2.2 p hp rfl
    exact ⟨keep p.1 p.2 ne nf nch e n, free p.1 p.2 nch e n, ne, nf, d⟩
/-- .. where the frame's own object is kept too -/
theorem Inv.un {t' : Nat} (I : Inv X pins σ H s) (u : Un X.fs [] H H' s.heap h') (hok : HOk X.prog X.w H' h') : Inv X pins σ H' { s with heap := h', toks := t' } := by
  obtain ⟨m, ⟨o, es, ep, ho, r⟩, _⟩ := id I.loc
  obtain ⟨sl, hL⟩ := u.any ho I.free (by simp)
  exact I.step (g' := s.gens) (d' := s.drawn) (ch := []) (fun _ z => nomatch z) (fun b o _ hb _ e n => u.keep b o e n hb (by simp)) (fun b o _ hb _ e n => u.slot b o e n hb (by simp)) (fun b o _ e n => u.free b o e n (by simp)) (fun b o _ e => u.there b o e (by simp)) u.tups u.frzs u.tbls (fun m' hm => by
    obtain ⟨o', es', ep', ho', r'⟩ := hm
    rw [ho] at ho'; cases ho'
    exact ⟨_, es', ep', hL, r'⟩) hok I.bare
/-- behind a call (or a comprehension's block): the slots of this frame may have changed too, the records at ch may have turned -/
theorem Inv.call {g' : Array GenState} {t' : Nat} {d' : Drawn} {ch : List Addr} (I : Inv X pins σ H s) (u : Un (frs X.stack) ch H H' s.heap h') (hok : HOk X.prog X.w H' h') (hg : AllBare g')
    (hch : ∀ b ∈ ch, (b ∈ X.ex ∨ X.s₀.heap.objs.size ≤ b) ∧ b ≠ X.env.locals ∧ (∀ x c, X.env.cells.lookup x = some c → c ≠ b) ∧ ∀ p ∈ X.pn ++ pins, p.1 ≠ b) :
    Inv X pins σ H' { s with heap := h', gens := g', drawn := d', toks := t' } := by
  obtain ⟨m, ⟨o, es, ep, ho, r⟩, _⟩ := id I.loc
  obtain ⟨sl, hL⟩ := u.any ho I.free fun z => (hch _ z).2.1 rfl
  exact I.step (ch := ch) hch (fun b o hL hb hc e n => u.keep b o e n (fun z => (List.mem_cons.mp (I.stkSub b z)).elim hL hb) hc) (fun b o _ _ hc e n => u.any e n hc) (fun b o hc e n => u.free b o e n hc) (fun b o hc e => u.there b o e hc) u.tups u.frzs u.tbls (fun m' hm => by
    obtain ⟨o', es', ep', ho', r'⟩ := hm
    rw [ho] at ho'; cases ho'
    exact ⟨_, es', ep', hL, r'⟩) hok hg
/-- an untracked record of ours (an iterator) has turned -/
theorem Inv.turned {t' : Nat} {it : Addr} (I : Inv X pins σ H s) (k : ∀ b o, b ≠ it → s.heap.get? b = some o → h'.get? b = some o) (hn : H it = none) (hL : it ≠ X.env.locals)
    (h1 : it ∈ X.ex ∨ X.s₀.heap.objs.size ≤ it) (h2 : ∀ x c, X.env.cells.lookup x = some c → c ≠ it) (h3 : ∀ p ∈ X.pn ++ pins, p.1 ≠ it) : Inv X pins σ H { s with heap := h', toks := t' } := by
  have nit : ∀ b u, H b = some u → b ≠ it := fun b u e z => by rw [z, hn] at e; cases e
  refine I.step (g' := s.gens) (d' := s.drawn) (ch := [it]) (fun b hb => ?_) (fun b o _ _ hc e _ => k b o (fun z => hc (by simp [z])) e) (fun b o _ _ hc e _ => ⟨o.slots, k b o (fun z => hc (by simp [z])) e⟩) (fun _ _ _ _ n => n)
    (fun b o hc e => ⟨o, k b o (fun z => hc (by simp [z])) e⟩) (fun _ _ e => e) (fun _ _ _ e => e) (fun b ps e => ⟨#[], by rw [e]; simp⟩) (fun m hm => ?_) (fun b u e => ?_) I.bare
  · have e : b = it := by simpa using hb
    subst e
    exact ⟨h1, hL, h2, h3⟩
  · obtain ⟨o, es, ep, ho, r⟩ := hm
    exact ⟨o, es, ep, k _ o (Ne.symm hL) ho, r⟩
  · refine (I.hok b u e).stay (fun c v hc q => k c v ?_ q) (fun _ q => q) fun _ _ q => q
    rcases hc with z | z
    · rw [z]; exact nit b u e
    · exact nit c _ z
theorem Inv.tok (I : Inv X pins σ H s) (t : Nat) : Inv X pins σ H { s with toks := t } := I.un (h' := s.heap) (t' := t) Un.refl I.hok
/-- all objects kept -/
theorem Inv.kept {t' : Nat} (I : Inv X pins σ H s) (k : ∀ b u, s.heap.get? b = some u → h'.get? b = some u) : Inv X pins σ H { s with heap := h', toks := t' } := I.un (Un.kept k) (I.hok.kept k)
/-- a new object laid and tracked -/
theorem Inv.laid {a : Addr} {o : HO} {t' : Nat} (I : Inv X pins σ H s) (k : ∀ b u, s.heap.get? b = some u → h'.get? b = some u) (hp : s.heap.objs.size ≤ a) (new : ObjOk X.prog X.w (upd H a o) h' a o) :
    Inv X pins σ (upd H a o) { s with heap := h', toks := t' } := I.un (Un.laid k hp (I.hok.fresh hp)) (I.hok.laid k hp new)
/-- an object written -/
theorem Inv.write {x e : Addr} {o : HO} {t' : Nat} (I : Inv X pins σ H s) (mu : Mut (H x)) (he : e = x ∨ H e = some (.own x)) (k : ∀ b u, b ≠ e → s.heap.get? b = some u → h'.get? b = some u) (heo : ∃ u, h'.get? e = some u)
    (new : ObjOk X.prog X.w (upd H x o) h' x o) : Inv X pins σ (upd H x o) { s with heap := h', toks := t' } := I.un (Un.write mu he k heo) (I.hok.write mu he k heo new)
/-- forgetting slots, pins -/
theorem Inv.weak {σ' : List (Option V)} (I : Inv X pins σ H s) (hl : σ'.length = σ.length) (w : ∀ (i : Nat) v, σ'[i]? = some (some v) → σ[i]? = some (some v)) : Inv X pins σ' H s :=
  ⟨I.ok, I.os, I.bare, I.base, let ⟨m, hn, hl'⟩ := I.loc; ⟨m, hn, fun i x v e1 e2 e3 => hl' i x v e1 (w i v e2) e3⟩, I.cell, I.free, I.freeC, I.pin, I.hok, hl.trans I.len⟩
theorem Inv.pins_of {pins' : List (Addr × Obj)} (I : Inv X pins σ H s) (h : ∀ p ∈ pins', s.heap.get? p.1 = some p.2 ∧ H p.1 = none ∧ p.1 ≠ X.env.locals ∧ p.1 ∉ X.fs ∧ ∀ v, p.2.data ≠ .cell v) : Inv X pins' σ H s :=
  ⟨I.ok, I.os, I.bare, I.base, I.loc, I.cell, I.free, I.freeC, fun p hp => (List.mem_append.mp hp).elim (fun z => I.pin p (List.mem_append_left _ z)) (h p), I.hok, I.len⟩

theorem nodup_ix {N : List Str} (hN : N.Nodup) {i j : Nat} {x : Str} (a : N[i]? = some x) (b : N[j]? = some x) : i = j := by
  obtain ⟨h1, e1⟩ := List.getElem?_eq_some_iff.mp a
  obtain ⟨h2, e2⟩ := List.getElem?_eq_some_iff.mp b
  exact (List.getElem_inj hN).mp (e1.trans e2.symm)

/-- a name is stored; what changed -/
theorem store_ok2 {M : Model} {A : Around} {E : Value → Shared → Prop} {i : Nat} {x : Str} {v : V} {u : Value} {Q : Unit → Shared → Prop} (I : Inv X pins σ H s) (hN : X.N.Nodup) (hi : X.N[i]? = some x) (hx : Loc X.env.scope x) (r : RelV v u)
    (h : ∀ s', Inv X pins (σ.set i (some v)) H s' → (∃ a, Heap.SameBut a s.heap s'.heap ∧ (a = X.env.locals ∨ X.env.cells.lookup x = some a)) → Q () s') (hf : X.fn x = true ∨ X.env.scope.names.lookup x = some .local := by first | exact .inl rfl | exact .inr rfl | assumption) : wpAny M A (storeName X.env x u) Q E s := by
  obtain ⟨m, hn, hl⟩ := id I.loc
  have hcls : (X.env.scope.kind == .class || (X.env.scope.kind == .module && X.env.locals != X.env.globals)) = false := by rw [I.ok.kind]; rfl
  have hiσ : i < σ.length := by rw [I.len]; exact (List.getElem?_eq_some_iff.mp hi).1
  have cne := I.cne
  have tracked : ∀ {a : Addr} {h' : Heap}, (∃ o, s.heap.get? a = some o ∧ H a = none) → Heap.SameBut a s.heap h' → HOk X.prog X.w H h' := fun {a h'} ha hs b ob e => by
    obtain ⟨_, _, hfree⟩ := ha
    refine (I.hok b ob e).stay (fun c w' hc q => (hs.2 c ?_).trans q) (fun _ q => q) fun _ _ q => q
    rintro rfl
    rcases hc with rfl | hc
    · rw [hfree] at e; cases e
    · rw [hfree] at hc; cases hc
  rcases hx with hk | hk
  · refine wpAny_storeName_local hk hn (fun h' hn' hs => ?_) hcls
    obtain ⟨oL, _, _, hoL, _⟩ := id hn
    refine h _ ⟨I.ok, I.os, I.bare, ⟨fun b o e n hb hx => ?_, fun b o e n hb hx => ?_, I.base.free, fun b o e hx => ?_, I.base.tups, I.base.frzs, I.base.tbls⟩, ⟨_, hn', fun j y v' e1 e2 e3 => ?_⟩, fun y c e => ?_, I.free, I.freeC, fun p hp => ?_, tracked ⟨oL, hoL, I.free⟩ hs, by simpa using I.len⟩ ⟨_, hs, .inl rfl⟩
    · exact (hs.2 b (Nat.ne_of_lt (Nat.lt_of_lt_of_le (Heap.lt_size e) I.ok.above))).trans (I.base.keep b o e n hb hx)
    · obtain ⟨sl, e1⟩ := I.base.slot b o e n hb hx
      exact ⟨sl, (hs.2 b (Nat.ne_of_lt (Nat.lt_of_lt_of_le (Heap.lt_size e) I.ok.above))).trans e1⟩
    · obtain ⟨o', e1⟩ := I.base.there b o e hx
      exact ⟨o', (hs.2 b (Nat.ne_of_lt (Nat.lt_of_lt_of_le (Heap.lt_size e) I.ok.above))).trans e1⟩
    · by_cases hj : j = i
      · subst hj
        rw [hi] at e1; cases e1
        rw [List.getElem?_set_self hiσ] at e2
        cases e2
        exact ⟨u, r, .inl ⟨hk, by simp⟩⟩
      · rw [List.getElem?_set_ne (Ne.symm hj)] at e2
        obtain ⟨u', r', q⟩ := hl j y v' e1 e2 e3
        refine ⟨u', r', ?_⟩
        rcases q with ⟨k, e⟩ | ⟨k, c, e, z⟩
        · refine .inl ⟨k, ?_⟩
          have : y ≠ x := fun e => hj (nodup_ix hN e1 (e ▸ hi))
          simp [this, e]
        · exact .inr ⟨k, c, e, z.sameBut hs (cne y c e)⟩
    · obtain ⟨w', z⟩ := I.cell y c e
      exact ⟨w', z.sameBut hs (cne y c e)⟩
    · obtain ⟨e, n, ne, nf, d⟩ := I.pin p hp
      exact ⟨(hs.2 p.1 ne).trans e, n, ne, nf, d⟩
  · have hfn : X.fn x = true := by
      rcases hf with z | z
      · exact z
      · rw [z] at hk; cases hk
    obtain ⟨c, hc⟩ := I.ok.has x (.inl hk)
    obtain ⟨w', z⟩ := I.cell x c hc
    refine wpAny_storeName_cell I.ok.kind hk hc z (fun h' hc' hs => ?_)
    obtain ⟨oc, hoc, hocd⟩ := id z
    refine h { s with heap := h' } ⟨I.ok, I.os, I.bare, ⟨fun b o e n hb hx => ?_, fun b o e n hb hx => ?_, I.base.free, fun b o e hx => ?_, I.base.tups, I.base.frzs, I.base.tbls⟩, ⟨m, hn.sameBut hs (Ne.symm (cne x c hc)), fun j y v' e1 e2 e3 => ?_⟩, fun y c' e => ?_, I.free, I.freeC, fun p hp => ?_, tracked ⟨oc, hoc, I.freeC x c hc⟩ hs, by simpa using I.len⟩ ⟨c, hs, .inr hc⟩
    · exact (hs.2 b (Nat.ne_of_lt (Nat.lt_of_lt_of_le (Heap.lt_size e) (I.ok.cab x c hfn hc)))).trans (I.base.keep b o e n hb hx)
    · obtain ⟨sl, e1⟩ := I.base.slot b o e n hb hx
      exact ⟨sl, (hs.2 b (Nat.ne_of_lt (Nat.lt_of_lt_of_le (Heap.lt_size e) (I.ok.cab x c hfn hc)))).trans e1⟩
    · obtain ⟨o', e1⟩ := I.base.there b o e hx
      exact ⟨o', (hs.2 b (Nat.ne_of_lt (Nat.lt_of_lt_of_le (Heap.lt_size e) (I.ok.cab x c hfn hc)))).trans e1⟩
    · by_cases hj : j = i
      · subst hj
        rw [hi] at e1; cases e1
        rw [List.getElem?_set_self hiσ] at e2
        cases e2
        exact ⟨u, r, .inr ⟨.inl hk, c, hc, hc'⟩⟩
      · rw [List.getElem?_set_ne (Ne.symm hj)] at e2
        obtain ⟨u', r', q⟩ := hl j y v' e1 e2 e3
        refine ⟨u', r', ?_⟩
        rcases q with q | ⟨k, c', e, z'⟩
        · exact .inl q
        · refine .inr ⟨k, c', e, z'.sameBut hs ?_⟩
          rintro rfl
          exact hj (nodup_ix hN e1 (I.ok.inj _ _ _ e hc ▸ hi))
    · by_cases hcc : c' = c
      · subst hcc; exact ⟨_, hc'⟩
      · obtain ⟨w2, z2⟩ := I.cell y c' e
        exact ⟨w2, z2.sameBut hs hcc⟩
    · obtain ⟨e, n, ne, nf, d⟩ := I.pin p hp
      refine ⟨(hs.2 p.1 ?_).trans e, n, ne, nf, d⟩
      intro q
      rw [q, hoc] at e
      have q' : oc = p.2 := Option.some.inj e
      exact d w' (by rw [← q']; exact hocd)
theorem store_ok {M : Model} {A : Around} {E : Value → Shared → Prop} {i : Nat} {x : Str} {v : V} {u : Value} {Q : Unit → Shared → Prop} (I : Inv X pins σ H s) (hN : X.N.Nodup) (hi : X.N[i]? = some x) (hx : Loc X.env.scope x) (r : RelV v u)
    (h : ∀ s', Inv X pins (σ.set i (some v)) H s' → Q () s') (hf : X.fn x = true ∨ X.env.scope.names.lookup x = some .local := by first | exact .inl rfl | exact .inr rfl | assumption) : wpAny M A (storeName X.env x u) Q E s :=
  store_ok2 I hN hi hx r (fun s' I' _ => h s' I') hf
/-- behind a call or a block, the state as it is -/
theorem Inv.call' {s' : Shared} {ch : List Addr} (I : Inv X pins σ H s) (ho : s'.os = s.os) (u : Un (frs X.stack) ch H H' s.heap s'.heap) (hok : HOk X.prog X.w H' s'.heap) (hg : AllBare s'.gens)
    (hch : ∀ b ∈ ch, (b ∈ X.ex ∨ X.s₀.heap.objs.size ≤ b) ∧ b ≠ X.env.locals ∧ (∀ x c, X.env.cells.lookup x = some c → c ≠ b) ∧ ∀ p ∈ X.pn ++ pins, p.1 ≠ b) : Inv X pins σ H' s' := by
  obtain ⟨h', g', d', t', o'⟩ := s'
  have e : o' = s.os := ho
  subst e
  exact I.call (g' := g') (t' := t') (d' := d') u hok hg hch
end

/-! ### the judgements -/
/-- an exception: its class, its own dict's address (where it has one), the abstract heap behind it -/
abbrev XK := Value → Option Addr → Hp → Prop
abbrev St := List (Option V)
abbrev VK := V → Hp → Prop
/-- an expression's reading; a test's; an argument list's -/
abbrev TE := St → Hp → VK → Prop
abbrev TT := St → Hp → (Bool → Hp → Prop) → Prop
abbrev TA := St → Hp → (List V → Hp → Prop) → Prop
/-- what is wanted behind a statement -/
structure Ends where
  nx : St → Hp → Prop
  rt : VK
  bk : St → Hp → Prop := fun _ _ => False
  ct : St → Hp → Prop := fun _ _ => False
abbrev TS := Ends → St → Hp → Prop

def EP (X : Cx) (pins : List (Addr × Obj)) (σ : St) (Q : VK) (u : Value) (s' : Shared) : Prop := ∃ v H', Inv X pins σ H' s' ∧ RelV v u ∧ Q v H'
def TP (X : Cx) (pins : List (Addr × Obj)) (σ : St) (Q : Bool → Hp → Prop) (b : Bool) (s' : Shared) : Prop := ∃ H', Inv X pins σ H' s' ∧ Q b H'
def AP (X : Cx) (pins : List (Addr × Obj)) (σ : St) (Q : List V → Hp → Prop) (us : List Value) (s' : Shared) : Prop := ∃ vs H', Inv X pins σ H' s' ∧ Vals vs us ∧ Q vs H'
def SP (X : Cx) (pins : List (Addr × Obj)) (D : Ends) (f : Flow) (s' : Shared) : Prop :=
  match f with
  | .next => ∃ σ' H', Inv X pins σ' H' s' ∧ D.nx σ' H'
  | .brk => ∃ σ' H', Inv X pins σ' H' s' ∧ D.bk σ' H'
  | .cont => ∃ σ' H', Inv X pins σ' H' s' ∧ D.ct σ' H'
  | .ret u => ∃ v σ' H', Inv X pins σ' H' s' ∧ RelV v u ∧ D.rt v H'

def PE (X : Cx) (e : Expr) (t : TE) : Prop :=
  ∀ (pins : List (Addr × Obj)) (s : Shared) (σ : St) (H : Hp) (Q : VK), Inv X pins σ H s → t σ H Q → wpAny (model X.prog X.w) X.A (eval e X.env) (EP X pins σ Q) X.xe s
def PT (X : Cx) (e : Expr) (t : TT) : Prop :=
  ∀ (pins : List (Addr × Obj)) (s : Shared) (σ : St) (H : Hp) (Q : Bool → Hp → Prop), Inv X pins σ H s → t σ H Q → wpAny (model X.prog X.w) X.A (isTrue e X.env (eval e X.env)) (TP X pins σ Q) X.xe s
/-- a test whatever its 'whole' is (and, or) -/
def PW (X : Cx) (e : Expr) (t : TT) : Prop :=
  ∀ (whole : Sem Value) (pins : List (Addr × Obj)) (s : Shared) (σ : St) (H : Hp) (Q : Bool → Hp → Prop), Inv X pins σ H s → t σ H Q → wpAny (model X.prog X.w) X.A (isTrue e X.env whole) (TP X pins σ Q) X.xe s
theorem PW.pt {X : Cx} {e : Expr} {t : TT} (h : PW X e t) : PT X e t := h _
/-- an argument list (no star), from the left -/
def PA (X : Cx) (es : List Expr) (t : TA) : Prop :=
  ∀ (pos : Pos) (pins : List (Addr × Obj)) (s : Shared) (σ : St) (H : Hp) (Q : List V → Hp → Prop), Inv X pins σ H s → t σ H Q → wpAny (model X.prog X.w) X.A (spliced (backTo pos (starEach es X.env))) (AP X pins σ Q) X.xe s
def PS (X : Cx) (st : Stmt) (t : TS) : Prop :=
  ∀ (pins : List (Addr × Obj)) (s : Shared) (σ : St) (H : Hp) (D : Ends), Inv X pins σ H s → t D σ H → wpAny (model X.prog X.w) X.A (exec st X.env) (SP X pins D) X.xe s
def PSs (X : Cx) (st : List Stmt) (t : TS) : Prop :=
  ∀ (pins : List (Addr × Obj)) (s : Shared) (σ : St) (H : Hp) (D : Ends), Inv X pins σ H s → t D σ H → wpAny (model X.prog X.w) X.A (execs st X.env) (SP X pins D) X.xe s
/-- weaken the end -/
theorem thn {α : Type} {t : Sem α} {Q Q' : α → Shared → Prop} {M : Model} {A : Around} {E : Value → Shared → Prop} {s : Shared} (h : wpAny M A t Q E s) (hQ : ∀ a s, Q a s → Q' a s) : wpAny M A t Q' E s := wpAny_mono h hQ fun _ _ x => x
end L2

namespace L2
open PySem PySem.Spec PyProof.Rows
section
variable {X : Cx}

/-- two expressions in a row -/
theorem bin {a b : Expr} {ta tb : TE} (ha : PE X a ta) (hb : PE X b tb) {pins : List (Addr × Obj)} {s : Shared} {σ : St} {H : Hp} {R : V → V → Hp → Prop} (I : Inv X pins σ H s) (h : ta σ H fun x H1 => tb σ H1 fun y H2 => R x y H2)
    {α : Type} {Q : α → Shared → Prop} {f : Value → Value → Sem α}
    (hf : ∀ v u s2 x y H2, Inv X pins σ H2 s2 → RelV x v → RelV y u → R x y H2 → wpAny (model X.prog X.w) X.A (f v u) Q X.xe s2) :
    wpAny (model X.prog X.w) X.A (eval a X.env) (fun v s₁ => wpAny (model X.prog X.w) X.A (eval b X.env) (fun u s₂ => wpAny (model X.prog X.w) X.A (f v u) Q X.xe s₂) X.xe s₁) X.xe s := by
  refine thn (ha pins s σ H _ I h) fun v s1 ⟨x, H1, I1, r1, q1⟩ => ?_
  refine thn (hb pins s1 σ H1 _ I1 q1) fun u s2 ⟨y, H2, I2, r2, q2⟩ => ?_
  exact hf v u s2 x y H2 I2 r1 r2 q2

/-! ### names and constants -/
def tVar (i : Nat) : TE := fun σ H Q => ∃ v, σ[i]? = some (some v) ∧ Q v H
def tC (v : V) : TE := fun _ H Q => Q v H
theorem pe_var {i : Nat} {x : Str} {pos : Pos} (hN : X.N[i]? = some x) (hv : Vis X.env.scope x) (hd : (x == ("__debug__" : Str)) = false := by decide) (hcd : (x == ("__classdict__" : Str)) = false := by decide) : PE X (.Name x pos) (tVar i) := by
  intro pins s σ H Q I h
  obtain ⟨v, e, h⟩ := h
  obtain ⟨m, hn, hl⟩ := I.loc
  obtain ⟨u, r, l⟩ := hl i x v hN e hv
  have fin : EP X pins σ Q u s := ⟨v, H, I, r, h⟩
  rcases l with ⟨hk, hm⟩ | ⟨hk, c, hc, hcell⟩
  · exact wpAny_Name (wpAny_loadName_local I.ok.kind hk hn hm fin) hd
  · rcases hk with hk | hk
    · exact wpAny_Name (wpAny_loadName_cell I.ok.kind hk hc hcell fin) hd
    · exact wpAny_Name (wpAny_loadName_free I.ok.kind hk hc hcell fin hcd) hd
theorem pe_int {i j pos} : PE X (.Constant (.int i) j pos) (tC (.int i)) := fun _ _ _ H _ I h => wpAny_Constant_int ⟨.int i, H, I.tok _, ⟨_, rfl⟩, h⟩
theorem pe_bl {b j pos} : PE X (.Constant (.bool b) j pos) (tC (.bl b)) := fun _ _ _ H _ I h => Constant_bool ⟨.bl b, H, I, rfl, h⟩
theorem pe_non {j pos} : PE X (.Constant .none j pos) (tC .non) := fun _ _ _ H _ I h => Constant_none ⟨.non, H, I, rfl, h⟩
theorem pe_str {x j pos} : PE X (.Constant (.str x) j pos) (tC (.str x)) := fun _ _ _ H _ I h => Calls.Constant_str ⟨.str x, H, I.tok _, ⟨_, rfl⟩, h⟩

/-- a global name of the def -/
def Gl (X : Cx) (x : Str) : Prop := X.env.kindOf x = some .globalImplicit
theorem ld_glob {E : Value → Shared → Prop} {pins : List (Addr × Obj)} {s : Shared} {σ : St} {H : Hp} {x : Str} {u : Value} {pos : Pos} {Q : Value → Shared → Prop} (I : Inv X pins σ H s) (hg : Gl X x) (hm : X.mg x = some u) (h : Q u s)
    (hd : (x == ("__debug__" : Str)) = false := by decide) : wpAny (model X.prog X.w) X.A (eval (.Name x pos) X.env) Q E s :=
  Calls.Name_function_global I.ok.kind hg (Calls.loadGlobal_global (by rw [I.ok.glob]; exact I.mod.glob.keeps I.bk) hm h) hd
theorem ld_blt {E : Value → Shared → Prop} {pins : List (Addr × Obj)} {s : Shared} {σ : St} {H : Hp} {x : Str} {u : Value} {pos : Pos} {Q : Value → Shared → Prop} (I : Inv X pins σ H s) (hg : Gl X x) (hm : X.mg x = none) (hv : bootBuiltins x = some u) (h : Q u s)
    (hn : x ≠ "__name__" := by decide) (hd : (x == ("__debug__" : Str)) = false := by decide) : wpAny (model X.prog X.w) X.A (eval (.Name x pos) X.env) Q E s := by
  obtain ⟨mb, h1, h2⟩ := I.mod.blt
  exact Calls.Name_function_global I.ok.kind hg (Calls.loadGlobal_builtin (by rw [I.ok.glob]; exact I.mod.glob.keeps I.bk) hm (by rw [I.ok.blt]; exact h1.keeps I.bk) ((h2 x hn).trans hv) h) hd
/-- a module's constant, a class, a function, as a value -/
theorem pe_glob {x : Str} {v : V} {u : Value} {pos : Pos} (hg : Gl X x) (hm : X.mg x = some u) (r : RelV v u) (hd : (x == ("__debug__" : Str)) = false := by decide) : PE X (.Name x pos) (tC v) :=
  fun _ _ _ H _ I h => ld_glob I hg hm ⟨v, H, I, r, h⟩ hd
theorem pe_bltn {x : Str} {v : V} {u : Value} {pos : Pos} (hg : Gl X x) (hm : X.mg x = none) (hv : bootBuiltins x = some u) (r : RelV v u) (hn : x ≠ "__name__" := by decide) (hd : (x == ("__debug__" : Str)) = false := by decide) : PE X (.Name x pos) (tC v) :=
  fun _ _ _ H _ I h => ld_blt I hg hm hv ⟨v, H, I, r, h⟩ hn hd

/-! ### arithmetic -/
/-- two ints -/
def t2I (ta tb : TE) (k : Int → Int → Hp → Prop) : St → Hp → Prop := fun σ H => ta σ H fun x H1 => tb σ H1 fun y H2 => ∃ i j, x = .int i ∧ y = .int j ∧ k i j H2
def tAdd (ta tb : TE) : TE := fun σ H Q => t2I ta tb (fun i j H2 => Q (.int (i + j)) H2) σ H
def tSub (ta tb : TE) : TE := fun σ H Q => t2I ta tb (fun i j H2 => Q (.int (i - j)) H2) σ H
/-- the left factor below 2^64 -/
def tMul (ta tb : TE) : TE := fun σ H Q => t2I ta tb (fun i j H2 => (-(2 ^ 64) < i ∧ i < 2 ^ 64) ∧ Q (.int (i * j)) H2) σ H
variable {a b : Expr} {ta tb : TE} {pos : Pos}
theorem pe_add (ha : PE X a ta) (hb : PE X b tb) : PE X (.BinOp a .Add b pos) (tAdd ta tb) := by
  intro pins s σ H Q I h
  refine wpAny_BinOp (bin ha hb I h fun v u s2 x y H2 I2 rx ry q => ?_)
  obtain ⟨i, j, rfl, rfl, q⟩ := q
  obtain ⟨t, rfl⟩ := rx
  obtain ⟨t', rfl⟩ := ry
  exact add_int ⟨.int _, H2, I2.tok _, ⟨_, rfl⟩, q⟩
theorem pe_sub (ha : PE X a ta) (hb : PE X b tb) : PE X (.BinOp a .Sub b pos) (tSub ta tb) := by
  intro pins s σ H Q I h
  refine wpAny_BinOp (bin ha hb I h fun v u s2 x y H2 I2 rx ry q => ?_)
  obtain ⟨i, j, rfl, rfl, q⟩ := q
  obtain ⟨t, rfl⟩ := rx
  obtain ⟨t', rfl⟩ := ry
  exact sub_int ⟨.int _, H2, I2.tok _, ⟨_, rfl⟩, q⟩
theorem pe_mul (ha : PE X a ta) (hb : PE X b tb) : PE X (.BinOp a .Mult b pos) (tMul ta tb) := by
  intro pins s σ H Q I h
  refine wpAny_BinOp (bin ha hb I h fun v u s2 x y H2 I2 rx ry q => ?_)
  obtain ⟨i, j, rfl, rfl, ⟨q1, q2⟩, q⟩ := q
  obtain ⟨t, rfl⟩ := rx
  obtain ⟨t', rfl⟩ := ry
  exact mul_int ⟨.int _, H2, I2.tok _, ⟨_, rfl⟩, q⟩ (.of_left (intBits_le_64 q1 q2))

/-! ### comparisons -/
def PC (X : Cx) (op : CmpOp) (a b : Expr) (t : TE) : Prop :=
  ∀ (pins : List (Addr × Obj)) (s : Shared) (σ : St) (H : Hp) (Q : VK), Inv X pins σ H s → t σ H Q →
    wpAny (model X.prog X.w) X.A (eval a X.env) (fun v s₁ => wpAny (model X.prog X.w) X.A (eval b X.env) (fun u s₂ => wpAny (model X.prog X.w) X.A (compareOp op v u) (EP X pins σ Q) X.xe s₂) X.xe s₁) X.xe s
theorem nobehind (b : Expr) {op : CmpOp} (h : op ≠ .In) (h2 : op ≠ .NotIn) : behindInMarks op b = false := by
  have e1 : (op == CmpOp.In) = false := by cases op <;> first | rfl | exact absurd rfl h
  have e2 : (op == CmpOp.NotIn) = false := by cases op <;> first | rfl | exact absurd rfl h2
  cases b <;> simp [behindInMarks, e1, e2]
def tCmp (p : Int → Int → Bool) (ta tb : TE) : TE := fun σ H Q => t2I ta tb (fun i j H2 => Q (.bl (p i j)) H2) σ H
abbrev tLt : TE → TE → TE := tCmp fun i j => decide (i < j)
abbrev tLe : TE → TE → TE := tCmp fun i j => decide (i ≤ j)
abbrev tGt : TE → TE → TE := tCmp fun i j => decide (j < i)
abbrev tGe : TE → TE → TE := tCmp fun i j => decide (j ≤ i)
abbrev tEqI : TE → TE → TE := tCmp fun i j => decide (i = j)
abbrev tNeI : TE → TE → TE := tCmp fun i j => !decide (i = j)
/-- a comparison of two ints, by its rule -/
theorem pc_int {op : CmpOp} {p : Int → Int → Bool} (ha : PE X a ta) (hb : PE X b tb)
    (rule : ∀ (i j : Int) (t u : Tok) (Q : Value → Shared → Prop) (s : Shared), Q (.bool (p i j)) s → wpAny (model X.prog X.w) X.A (compareOp op (.int i t) (.int j u)) Q X.xe s) : PC X op a b (tCmp p ta tb) := by
  intro pins s σ H Q I h
  refine bin ha hb I h fun v u s2 x y H2 I2 rx ry q => ?_
  obtain ⟨i, j, rfl, rfl, q⟩ := q
  obtain ⟨t, rfl⟩ := rx
  obtain ⟨t', rfl⟩ := ry
  exact rule i j t t' _ s2 ⟨.bl _, H2, I2, rfl, q⟩
theorem pc_lt (ha : PE X a ta) (hb : PE X b tb) : PC X .Lt a b (tLt ta tb) := pc_int ha hb fun _ _ _ _ _ _ h => lt_int h
theorem pc_le (ha : PE X a ta) (hb : PE X b tb) : PC X .LtE a b (tLe ta tb) := pc_int ha hb fun _ _ _ _ _ _ h => le_int h
theorem pc_gt (ha : PE X a ta) (hb : PE X b tb) : PC X .Gt a b (tGt ta tb) := pc_int ha hb fun _ _ _ _ _ _ h => gt_int h
theorem pc_ge (ha : PE X a ta) (hb : PE X b tb) : PC X .GtE a b (tGe ta tb) := pc_int ha hb fun _ _ _ _ _ _ h => ge_int h
theorem pc_eqI (ha : PE X a ta) (hb : PE X b tb) : PC X .Eq a b (tEqI ta tb) := pc_int ha hb fun _ _ _ _ _ _ h => eq_int (by rw [Bool.beq_eq_decide_eq]; exact h)
theorem pc_neI (ha : PE X a ta) (hb : PE X b tb) : PC X .NotEq a b (tNeI ta tb) := pc_int ha hb fun _ _ _ _ _ _ h => ne_int (by rw [bne, Bool.beq_eq_decide_eq]; exact h)
/-- is None -/
def tIsN (ta : TE) : TE := fun σ H Q => ta σ H fun x H1 => Q (.bl (decide (x = .non))) H1
def tNotN (ta : TE) : TE := fun σ H Q => ta σ H fun x H1 => Q (.bl (!decide (x = .non))) H1
theorem RelV.none_iff {x : V} {v : Value} (r : RelV x v) : (v == Value.none) = decide (x = .non) := by
  cases x with
  | non => cases r; rfl
  | bl _ => cases r; rfl
  | int _ => obtain ⟨t, rfl⟩ := r; rfl
  | str _ => obtain ⟨t, rfl⟩ := r; rfl
  | byt _ => obtain ⟨t, rfl⟩ := r; rfl
  | flt _ => obtain ⟨t, rfl⟩ := r; rfl
  | ref _ => cases r; rfl
  | ty _ => cases r; rfl
theorem pc_isN {j pos'} (ha : PE X a ta) : PC X .Is a (.Constant .none j pos') (tIsN ta) := by
  intro pins s σ H Q I h
  refine thn (ha pins s σ H _ I h) fun v s1 ⟨x, H1, I1, r1, q1⟩ => ?_
  exact Constant_none (is_none_gen ⟨.bl _, H1, I1, by rw [r1.none_iff]; rfl, q1⟩)
theorem pc_notN {j pos'} (ha : PE X a ta) : PC X .IsNot a (.Constant .none j pos') (tNotN ta) := by
  intro pins s σ H Q I h
  refine thn (ha pins s σ H _ I h) fun v s1 ⟨x, H1, I1, r1, q1⟩ => ?_
  exact Constant_none (isnot_none_gen ⟨.bl _, H1, I1, by rw [r1.none_iff]; rfl, q1⟩)
/-- a comparison as a value, as a test -/
def tB (t : TE) : TT := fun σ H Q => t σ H fun x H1 => ∃ c, x = .bl c ∧ Q c H1
theorem pe_cmp {op : CmpOp} {t : TE} (h : PC X op a b t) (h1 : behindInMarks op b = false := by first | exact nobehind _ (by decide) (by decide) | rfl) : PE X (.Compare a [op] [b] pos) t := fun pins s σ H Q I hw => wpAny_Compare1 (h pins s σ H Q I hw) h1
theorem pt_cmp {op : CmpOp} {t : TE} (h : PC X op a b t) (h1 : behindInMarks op b = false := by first | exact nobehind _ (by decide) (by decide) | rfl) : PT X (.Compare a [op] [b] pos) (tB t) := by
  intro pins s σ H Q I hw
  refine wpAny_isTrue_Compare1 (thn (h pins s σ H _ I hw) fun v s1 h1 => thn h1 fun u s2 h2 => thn h2 fun c s3 ⟨x, H1, I1, r1, q1⟩ => ?_) h1
  obtain ⟨d, rfl, q⟩ := q1
  cases r1
  exact wpAny_truthy_bool ⟨H1, I1, q⟩
/-- an expression whose value is a bool, as a test -/
theorem pt_val {e : Expr} {t : TE} (h : PE X e t) (he : ∀ whole, isTrue e X.env whole = (do let v ← whole; standAt e.pos; holding [v] (truthy v)) := by intro _; rfl) : PT X e (tB t) := by
  intro pins s σ H Q I hw
  refine isTrue_plain (thn (h pins s σ H _ I hw) fun v s1 ⟨x, H1, I1, r1, q1⟩ => ?_) (he _)
  obtain ⟨d, rfl, q⟩ := q1
  cases r1
  exact wpAny_truthy_bool ⟨H1, I1, q⟩

/-! ### and, or, not -/
variable {tA tB' : TT} {rest : List Expr}
def tAnd (t u : TT) : TT := fun σ H Q => t σ H fun c H1 => if c = true then u σ H1 Q else Q false H1
def tOr (t u : TT) : TT := fun σ H Q => t σ H fun c H1 => if c = true then Q true H1 else u σ H1 Q
def tNot (t : TT) : TT := fun σ H Q => t σ H fun c H1 => Q (!c) H1
theorem pw_and1 (ha : PT X a tA) : PW X (.BoolOp .And [a] pos) tA := by
  intro wh pins s σ H Q I h
  refine isTrue_and (thn (ha pins s σ H Q I h) fun c s1 e => ?_)
  cases c with
  | true => exact isTrue_and_nil e
  | false => exact e
theorem pw_or1 (ha : PT X a tA) : PW X (.BoolOp .Or [a] pos) tA := by
  intro wh pins s σ H Q I h
  refine isTrue_or (thn (ha pins s σ H Q I h) fun c s1 e => ?_)
  cases c with
  | false => exact isTrue_or_nil e
  | true => exact e
theorem pw_and (ha : PT X a tA) (hb : PW X (.BoolOp .And (b :: rest) pos) tB') : PW X (.BoolOp .And (a :: b :: rest) pos) (tAnd tA tB') := by
  intro wh pins s σ H Q I h
  refine isTrue_and (thn (ha pins s σ H _ I h) fun c s1 ⟨H1, I1, q1⟩ => ?_)
  cases c with
  | true => exact hb wh pins s1 σ H1 Q I1 q1
  | false => exact ⟨H1, I1, q1⟩
theorem pw_or (ha : PT X a tA) (hb : PW X (.BoolOp .Or (b :: rest) pos) tB') : PW X (.BoolOp .Or (a :: b :: rest) pos) (tOr tA tB') := by
  intro wh pins s σ H Q I h
  refine isTrue_or (thn (ha pins s σ H _ I h) fun c s1 ⟨H1, I1, q1⟩ => ?_)
  cases c with
  | true => exact ⟨H1, I1, q1⟩
  | false => exact hb wh pins s1 σ H1 Q I1 q1
theorem pt_not (ha : PT X a tA) : PT X (.UnaryOp .Not a pos) (tNot tA) := by
  intro pins s σ H Q I h
  exact isTrue_not (ha pins s σ H (fun c H1 => Q (!c) H1) I h)
/-- .. as values (bools) -/
def tAndV (ta tb : TE) : TE := fun σ H Q => ta σ H fun x H1 => ∃ c, x = .bl c ∧ if c = true then tb σ H1 Q else Q (.bl false) H1
def tOrV (ta tb : TE) : TE := fun σ H Q => ta σ H fun x H1 => ∃ c, x = .bl c ∧ if c = true then Q (.bl true) H1 else tb σ H1 Q
def tNotV (ta : TE) : TE := fun σ H Q => ta σ H fun x H1 => ∃ c, x = .bl c ∧ Q (.bl (!c)) H1
theorem pe_one {op} {t : TE} (h : PE X a t) : PE X (.BoolOp op [a] pos) t := fun pins s σ H Q I hw => BoolOp_one (h pins s σ H Q I hw)
theorem pe_and (ha : PE X a ta) (hb : PE X (.BoolOp .And (b :: rest) pos) tb) : PE X (.BoolOp .And (a :: b :: rest) pos) (tAndV ta tb) := by
  intro pins s σ H Q I h
  refine BoolOp_and (thn (ha pins s σ H _ I h) fun v s1 ⟨x, H1, I1, r1, q1⟩ => ?_)
  obtain ⟨c, rfl, q1⟩ := q1
  cases r1
  refine wpAny_truthy_bool ?_
  cases c with
  | true => exact hb pins s1 σ H1 Q I1 q1
  | false => exact ⟨.bl false, H1, I1, rfl, q1⟩
theorem pe_or (ha : PE X a ta) (hb : PE X (.BoolOp .Or (b :: rest) pos) tb) : PE X (.BoolOp .Or (a :: b :: rest) pos) (tOrV ta tb) := by
  intro pins s σ H Q I h
  refine BoolOp_or (thn (ha pins s σ H _ I h) fun v s1 ⟨x, H1, I1, r1, q1⟩ => ?_)
  obtain ⟨c, rfl, q1⟩ := q1
  cases r1
  refine wpAny_truthy_bool ?_
  cases c with
  | false => exact hb pins s1 σ H1 Q I1 q1
  | true => exact ⟨.bl true, H1, I1, rfl, q1⟩
theorem pe_not (ha : PE X a ta) : PE X (.UnaryOp .Not a pos) (tNotV ta) := by
  intro pins s σ H Q I h
  refine UnaryOp_ (thn (ha pins s σ H _ I h) fun v s1 ⟨x, H1, I1, r1, q1⟩ => ?_)
  obtain ⟨c, rfl, q1⟩ := q1
  cases r1
  exact not_of (wpAny_truthy_bool ⟨.bl (!c), H1, I1, rfl, q1⟩)
/-- a if t else b -/
def tIf (t : TT) (ta tb : TE) : TE := fun σ H Q => t σ H fun c H1 => if c = true then ta σ H1 Q else tb σ H1 Q
theorem pe_ifExp {c : Expr} (hc : PT X c tA) (ha : PE X a ta) (hb : PE X b tb) : PE X (.IfExp c a b pos) (tIf tA ta tb) := by
  intro pins s σ H Q I h
  refine wpAny_IfExp (thn (hc pins s σ H _ I h) fun d s1 ⟨H1, I1, q1⟩ => ?_)
  cases d with
  | true => exact ha pins s1 σ H1 Q I1 q1
  | false => exact hb pins s1 σ H1 Q I1 q1
end
end L2

namespace L2
open PySem PySem.Spec PyProof.Rows

/-! ### a list, a tuple that is read: tracked, frozen, or an object of the module -/
def SqL (K : PySem.W.Frag) (H : Hp) (a : Addr) (xs : List V) : Prop :=
  Rd H a (.lst xs) ∨
    ∃ (o : Obj) (its : Array Value) (n : Nat), K.lookup a = some o ∧ o.cls = .type "list" ∧ o.dict = none ∧ o.data = .seq its n ∧ its.size ≤ sizeLine ∧ Vals xs its.toList
def SqT (K : PySem.W.Frag) (H : Hp) (a : Addr) (xs : List V) : Prop :=
  Rd H a (.tup xs) ∨
    ∃ (o : Obj) (its : Array Value) (n : Nat), K.lookup a = some o ∧ o.cls = .type "tuple" ∧ o.data = .seq its n ∧ its.size ≤ sizeLine ∧ Vals xs its.toList
def absV : Value → Option V
  | .none => some .non
  | .bool b => some (.bl b)
  | .int i _ => some (.int i)
  | .str x _ => some (.str x)
  | .bytes b _ => some (.byt b)
  | .float b _ => some (.flt b)
  | .ref a => some (.ref a)
  | .type n => some (.ty n)
  | _ => none
theorem RelV.abs {x : V} {u : Value} (r : RelV x u) : absV u = some x := by
  cases x with
  | non => cases r; rfl
  | bl _ => cases r; rfl
  | int _ => obtain ⟨t, rfl⟩ := r; rfl
  | str _ => obtain ⟨t, rfl⟩ := r; rfl
  | byt _ => obtain ⟨t, rfl⟩ := r; rfl
  | flt _ => obtain ⟨t, rfl⟩ := r; rfl
  | ref _ => cases r; rfl
  | ty _ => cases r; rfl
theorem RelV.inj {x y : V} {u : Value} (r : RelV x u) (q : RelV y u) : x = y := Option.some.inj (r.abs.symm.trans q.abs)
theorem Vals.inj : ∀ {xs ys : List V} {us : List Value}, Vals xs us → Vals ys us → xs = ys
  | _, _, _, .nil, .nil => rfl
  | _, _, _, .cons r t, .cons r' t' => by rw [r.inj r', Vals.inj t t']
section
variable {X : Cx} {pins : List (Addr × Obj)} {σ : St} {H : Hp} {s : Shared} {a : Addr} {xs ys : List V}
theorem SqL.of {K : PySem.W.Frag} (h : H a = some (.lst xs)) : SqL K H a xs := .inl (.inl h)
theorem SqT.of {K : PySem.W.Frag} (h : H a = some (.tup xs)) : SqT K H a xs := .inl (.inl h)
theorem Inv.list (I : Inv X pins σ H s) (h : SqL X.K H a xs) : ∃ its : List Value, Vals xs its ∧ PlainL s.heap a its.toArray ∧ xs.length ≤ sizeLine := by
  rcases h with h | ⟨o, its, n, hk, hc, hd, hs, hz, r⟩
  · obtain ⟨z, its, n, r, e⟩ := h.ok I.hok
    exact ⟨its, r, ⟨_, n, e, rfl, rfl, rfl⟩, z⟩
  · refine ⟨its.toList, r, ⟨o, n, I.kIn a o hk, hc, hd, by simpa using hs⟩, ?_⟩
    have e := r.length
    simp only [Array.length_toList] at e
    omega
theorem Inv.tuple (I : Inv X pins σ H s) (h : SqT X.K H a xs) : ∃ its : List Value, Vals xs its ∧ IsTup s.heap a its.toArray ∧ xs.length ≤ sizeLine := by
  rcases h with h | ⟨o, its, n, hk, hc, hs, hz, r⟩
  · obtain ⟨z, its, r, p⟩ := h.ok I.hok
    exact ⟨its, r, p, z⟩
  · refine ⟨its.toList, r, ⟨o, I.kIn a o hk, hc, n, by simpa using hs⟩, ?_⟩
    have e := r.length
    simp only [Array.length_toList] at e
    omega
theorem Inv.list_inj (I : Inv X pins σ H s) (h : SqL X.K H a xs) (h' : SqL X.K H a ys) : xs = ys := by
  obtain ⟨its, r, ⟨o, n, e, _, _, d⟩, _⟩ := I.list h
  obtain ⟨its', r', ⟨o', n', e', _, _, d'⟩, _⟩ := I.list h'
  rw [e] at e'; cases e'
  rw [d] at d'
  injection d' with d1 _
  have : its = its' := by simpa using congrArg Array.toList d1
  subst this
  exact r.inj r'
theorem Inv.tuple_inj (I : Inv X pins σ H s) (h : SqT X.K H a xs) (h' : SqT X.K H a ys) : xs = ys := by
  obtain ⟨its, r, ⟨o, e, _, n, d⟩, _⟩ := I.tuple h
  obtain ⟨its', r', ⟨o', e', _, n', d'⟩, _⟩ := I.tuple h'
  rw [e] at e'; cases e'
  rw [d] at d'
  injection d' with d1 _
  have : its = its' := by simpa using congrArg Array.toList d1
  subst this
  exact r.inj r'
end

/-! ### another wish about exceptions -/
abbrev Cx.wish (X : Cx) (E : Value → Shared → Prop) : Cx := { X with xe := E }
/-- no exception leaves -/
abbrev Cx.nox (X : Cx) : Cx := X.wish fun _ _ => False
theorem Cx.Ok.wish {X : Cx} (ok : X.Ok) (E : Value → Shared → Prop) : (X.wish E).Ok :=
  ⟨ok.mod, ok.kind, ok.glob, ok.blt, ok.above, ok.inj, ok.has, ok.cab, ok.hd, ok.frames, ok.stk, ok.exf, ok.bs, ok.bsz, ok.noex, ok.exfs, ok.funs, ok.frf⟩
theorem Cx.Ok.unwish {X : Cx} {E : Value → Shared → Prop} (ok : (X.wish E).Ok) : X.Ok :=
  ⟨ok.mod, ok.kind, ok.glob, ok.blt, ok.above, ok.inj, ok.has, ok.cab, ok.hd, ok.frames, ok.stk, ok.exf, ok.bs, ok.bsz, ok.noex, ok.exfs, ok.funs, ok.frf⟩
section
variable {X : Cx} {pins : List (Addr × Obj)} {σ : St} {H : Hp} {s : Shared} {E : Value → Shared → Prop}
theorem Inv.wish (I : Inv X pins σ H s) (E : Value → Shared → Prop) : Inv (X.wish E) pins σ H s := ⟨I.ok.wish E, I.os, I.bare, I.base, I.loc, I.cell, I.free, I.freeC, I.pin, I.hok, I.len⟩
theorem Inv.unwish (I : Inv (X.wish E) pins σ H s) : Inv X pins σ H s := ⟨I.ok.unwish, I.os, I.bare, I.base, I.loc, I.cell, I.free, I.freeC, I.pin, I.hok, I.len⟩
theorem SP.unwish {D : Ends} {f : Flow} {s' : Shared} (h : SP (X.wish E) pins D f s') : SP X pins D f s' := by
  cases f with
  | next => obtain ⟨σ', H', I, q⟩ := h; exact ⟨σ', H', I.unwish, q⟩
  | brk => obtain ⟨σ', H', I, q⟩ := h; exact ⟨σ', H', I.unwish, q⟩
  | cont => obtain ⟨σ', H', I, q⟩ := h; exact ⟨σ', H', I.unwish, q⟩
  | ret u => obtain ⟨v, σ', H', I, r, q⟩ := h; exact ⟨v, σ', H', I.unwish, r, q⟩
theorem PE.nox {e : Expr} {t : TE} (h : PE X.nox e t) : PE X e t := fun pins s σ H Q I hw =>
  wpAny_mono (h pins s σ H Q (I.wish _) hw) (fun _ _ ⟨v, H', I', r, q⟩ => ⟨v, H', I'.unwish, r, q⟩) fun _ _ z => False.elim z
theorem PT.nox {e : Expr} {t : TT} (h : PT X.nox e t) : PT X e t := fun pins s σ H Q I hw =>
  wpAny_mono (h pins s σ H Q (I.wish _) hw) (fun _ _ ⟨H', I', q⟩ => ⟨H', I'.unwish, q⟩) fun _ _ z => False.elim z
theorem PSs.nox {st : List Stmt} {t : TS} (h : PSs X.nox st t) : PSs X st t := fun pins s σ H D I hw =>
  wpAny_mono (h pins s σ H D (I.wish _) hw) (fun _ _ q => q.unwish) fun _ _ z => False.elim z
end

/-! ### blocks and small statements -/
section
variable {X : Cx} {st : Stmt} {rest : List Stmt} {t u : TS} {e : Expr} {te : TE} {pos : Pos}
def tNext : TS := fun D σ H => D.nx σ H
def tSeq (t u : TS) : TS := fun D σ H => t { D with nx := u D } σ H
theorem pss_nil : PSs X [] tNext := fun _ _ σ H _ I h => wpAny_execs_nil ⟨σ, H, I, h⟩
theorem pss_cons (h1 : PS X st t) (h2 : PSs X rest u) : PSs X (st :: rest) (tSeq t u) := by
  intro pins s σ H D I h
  refine wpAny_execs_cons (thn (h1 pins s σ H { D with nx := u D } I h) fun f s1 q => ?_)
  cases f with
  | next =>
    obtain ⟨σ', H', I', q⟩ := q
    exact h2 pins s1 σ' H' D I' q
  | ret v => exact q
  | brk => exact q
  | cont => exact q
theorem pss_one (h1 : PS X st t) : PSs X [st] t := by
  intro pins s σ H D I h
  refine wpAny_execs_cons (thn (h1 pins s σ H D I h) fun f s1 q => ?_)
  cases f with
  | next => exact wpAny_execs_nil q
  | ret v => exact q
  | brk => exact q
  | cont => exact q
def tBreak : TS := fun D σ H => D.bk σ H
def tCont : TS := fun D σ H => D.ct σ H
theorem ps_pass : PS X (.Pass pos) tNext := fun _ _ σ H _ I h => wpAny_Pass ⟨σ, H, I, h⟩
theorem ps_break : PS X (.Break pos) tBreak := fun _ _ σ H _ I h => wpAny_Break ⟨σ, H, I, h⟩
theorem ps_continue : PS X (.Continue pos) tCont := fun _ _ σ H _ I h => wpAny_Continue ⟨σ, H, I, h⟩
/-- in a def's body nothing is shown -/
theorem Inv.quiet {pins : List (Addr × Obj)} {σ : St} {H : Hp} {s : Shared} (I : Inv X pins σ H s) : interactive X.env = false := by simp [interactive, I.ok.kind]
/-- a docstring -/
theorem ps_doc {x j pos pos'} : PS X (.Expr (.Constant (.str x) j pos) pos') tNext := fun _ s σ H _ I h => wpAny_Expr (Calls.Constant_str (show SP X _ _ .next { s with toks := s.toks + 1 } from ⟨σ, H, I.tok _, h⟩)) I.quiet
/-- an expression whose value is dropped -/
def tDrop (te : TE) : TS := fun D σ H => te σ H fun _ H1 => D.nx σ H1
theorem ps_expr (he : PE X e te) (hs : swapsWith e none pos.line X.env = pure false := by rfl) : PS X (.Expr e pos) (tDrop te) := by
  intro pins s σ H D I h
  exact wpAny_Expr_any (thn (he pins s σ H _ I h) fun v s1 ⟨x, H1, I1, r1, q1⟩ => ⟨σ, H1, I1, q1⟩) I.quiet hs
def tRet (te : TE) : TS := fun D σ H => te σ H D.rt
theorem ps_ret (he : PE X e te) : PS X (.Return (some e) pos) (tRet te) := by
  intro pins s σ H D I h
  exact wpAny_Return_some (thn (he pins s σ H _ I h) fun v s1 ⟨x, H1, I1, r1, q1⟩ => ⟨x, σ, H1, I1, r1, q1⟩)
def tRetN : TS := fun D _ H => D.rt .non H
theorem ps_retN : PS X (.Return none pos) tRetN := fun _ _ σ H _ I h => wpAny_Return_none ⟨.non, σ, H, I, rfl, h⟩
def tIfS (c : TT) (t u : TS) : TS := fun D σ H => c σ H fun b H1 => if b = true then t D σ H1 else u D σ H1
theorem ps_if {c : Expr} {a b : List Stmt} {tc : TT} (hc : PT X c tc) (ha : PSs X a t) (hb : PSs X b u) : PS X (.If c a b pos) (tIfS tc t u) := by
  intro pins s σ H D I h
  refine wpAny_If (thn (hc pins s σ H _ I h) fun d s1 ⟨H1, I1, q1⟩ => ?_)
  cases d with
  | true => exact ha pins s1 σ H1 D I1 q1
  | false => exact hb pins s1 σ H1 D I1 q1
/-- code that the proof never comes to -/
def tNever : TS := fun _ _ _ => False
theorem ps_never : PS X st tNever := fun _ _ _ _ _ _ h => h.elim
theorem pss_never {sts : List Stmt} : PSs X sts tNever := fun _ _ _ _ _ _ h => h.elim
end

/-! ### targets -/
abbrev TG := V → St → Hp → (St → Hp → Prop) → Prop
abbrev TGs := List V → St → Hp → (St → Hp → Prop) → Prop
def PG (X : Cx) (target : Expr) (t : TG) : Prop :=
  ∀ (pins : List (Addr × Obj)) (s : Shared) (σ : St) (H : Hp) (v : V) (u : Value) (Q : St → Hp → Prop), Inv X pins σ H s → RelV v u → t v σ H Q →
    wpAny (model X.prog X.w) X.A (assign target X.env u) (fun _ s' => ∃ σ' H', Inv X pins σ' H' s' ∧ Q σ' H') X.xe s
/-- several targets, one after another -/
def PGs (X : Cx) (ts : List Expr) (t : TGs) : Prop :=
  ∀ (pins : List (Addr × Obj)) (s : Shared) (σ : St) (H : Hp) (vs : List V) (us : List Value) (Q : St → Hp → Prop), Inv X pins σ H s → Vals vs us → t vs σ H Q →
    wpAny (model X.prog X.w) X.A (assignInOrder ((assignEach ts X.env).map (·.2)) us) (fun _ s' => ∃ σ' H', Inv X pins σ' H' s' ∧ Q σ' H') X.xe s
/-- o[i] = v, by values -/
abbrev TSet := V → V → V → Hp → (Hp → Prop) → Prop
def PSet (X : Cx) (t : TSet) : Prop :=
  ∀ (pins : List (Addr × Obj)) (s : Shared) (σ : St) (H : Hp) (o i v : V) (ov iv u : Value) (Q : Hp → Prop), Inv X pins σ H s → RelV o ov → RelV i iv → RelV v u → t o i v H Q →
    wpAny (model X.prog X.w) X.A (setItem ov iv u) (fun _ s' => ∃ H', Inv X pins σ H' s' ∧ Q H') X.xe s
/-- a op= b, by values -/
abbrev TIp := V → V → Hp → VK → Prop
def PIp (X : Cx) (op : Operator) (t : TIp) : Prop :=
  ∀ (pins : List (Addr × Obj)) (s : Shared) (σ : St) (H : Hp) (x y : V) (v u : Value) (Q : VK), Inv X pins σ H s → RelV x v → RelV y u → t x y H Q →
    wpAny (model X.prog X.w) X.A (inplaceOp op v u) (EP X pins σ Q) X.xe s
section
variable {X : Cx} {pos : Pos}
def gName (i : Nat) : TG := fun v σ H Q => Q (σ.set i (some v)) H
theorem pg_name {i : Nat} {x : Str} (hN : X.N.Nodup) (hi : X.N[i]? = some x) (hx : Loc X.env.scope x) (hf : X.fn x = true ∨ X.env.scope.names.lookup x = some .local := by first | exact .inl rfl | exact .inr rfl | assumption) : PG X (.Name x pos) (gName i) := by
  intro pins s σ H v u Q I r h
  exact wpAny_assign_Name (store_ok I hN hi hx r (fun s' I' => ⟨_, H, I', h⟩) hf)
def gNil : TGs := fun vs σ H Q => vs = [] ∧ Q σ H
def gCons (t : TG) (u : TGs) : TGs := fun vs σ H Q => ∃ v r, vs = v :: r ∧ t v σ H fun σ' H' => u r σ' H' Q
theorem pgs_nil : PGs X [] gNil := by
  intro pins s σ H vs us Q I r h
  obtain ⟨e, h⟩ := h
  subst e
  cases r
  exact assignInOrder_nil ⟨σ, H, I, h⟩
theorem pgs_cons {e : Expr} {es : List Expr} {t : TG} {u : TGs} (h1 : PG X e t) (h2 : PGs X es u)
    (hs : (assignEach (e :: es) X.env).map (·.2) = assign e X.env :: (assignEach es X.env).map (·.2) := by rfl) : PGs X (e :: es) (gCons t u) := by
  intro pins s σ H vs us Q I r h
  obtain ⟨v, vr, e1, h⟩ := h
  subst e1
  cases r with
  | cons r rr =>
    rw [hs]
    refine assignInOrder_cons (thn (h1 pins s σ H _ _ _ I r h) fun _ s1 ⟨σ1, H1, I1, q1⟩ => ?_)
    exact h2 pins s1 σ1 H1 _ _ Q I1 rr q1
/-- (a, b, ..) = a tuple of that length -/
def gTup (K : PySem.W.Frag) (n : Nat) (t : TGs) : TG := fun v σ H Q => ∃ a xs, v = .ref a ∧ SqT K H a xs ∧ xs.length = n ∧ t xs σ H Q
theorem pg_tup {es : List Expr} {k : Nat} {t : TGs} {n : Nat} (hc : X.calm = true) (h : PGs X es t)
    (hn : (assignEach es X.env).length = n := by rfl) (hst : (assignEach es X.env).findIdx? (·.1) = none := by rfl) : PG X (.Tuple es k pos) (gTup X.K n t) := by
  intro pins s σ H v u Q I r hw
  obtain ⟨a, xs, e1, hq, hl, hw⟩ := hw
  subst e1
  cases r
  obtain ⟨its, rv, ht, hz⟩ := I.tuple hq
  refine assign_Tuple_tuple (I.ok.hd hc) ht (by simp [hn, ← hl, rv.length]) hst fun h' hx => ?_
  have I1 : Inv X pins σ H { s with heap := h' } := I.kept (t' := s.toks) fun b o e => hx b o (Nat.ne_of_lt (Heap.lt_size e)) e
  exact h pins _ σ H xs _ Q I1 (by simpa using rv) hw
/-- o[i] = .. -/
def gSub (to ti : TE) (t : TSet) : TG := fun v σ H Q => to σ H fun o H1 => ti σ H1 fun i H2 => t o i v H2 fun H3 => Q σ H3
theorem pg_sub {o i : Expr} {to ti : TE} {t : TSet} (ho : PE X o to) (hi : PE X i ti) (hs : PSet X t)
    (ha : ∀ v, assign (.Subscript o i pos) X.env v = (do
      let ov ← holding [v] (eval o X.env)
      let iv ← holding [v, ov] (eval i X.env)
      standAt pos
      holding [v, ov, iv] (setItem ov iv v)
      release [v, ov, iv] []) := by intro _; rfl) : PG X (.Subscript o i pos) (gSub to ti t) := by
  intro pins s σ H v u Q I r h
  rw [ha]
  refine wpAny_bind (wpAny_holding (thn (ho pins s σ H _ I h) fun ov s1 ⟨x, H1, I1, r1, q1⟩ => ?_))
  refine wpAny_bind (wpAny_holding (thn (hi pins s1 σ H1 _ I1 q1) fun iv s2 ⟨y, H2, I2, r2, q2⟩ => ?_))
  refine wpAny_bind (wpAny_standAt (wpAny_bind (wpAny_holding (thn (hs pins s2 σ H2 x y v ov iv u _ I2 r1 r2 r q2) fun _ s3 ⟨H3, I3, q3⟩ => ?_))))
  exact wpAny_release ⟨σ, H3, I3, q3⟩
/-- target = value -/
def tAsg (te : TE) (g : TG) : TS := fun D σ H => te σ H fun x H1 => g x σ H1 D.nx
theorem ps_asg {tg e : Expr} {te : TE} {g : TG} (he : PE X e te) (hg : PG X tg g) (hs : swapsWithSole [tg] e pos.line X.env = pure false := by rfl) (hw : swappedStores [tg] e X.env = pure none := by rfl)
    (h1 : (assignEach [tg] X.env).map (·.2) = [assign tg X.env] := by rfl) : PS X (.Assign [tg] e pos) (tAsg te g) := by
  intro pins s σ H D I h
  refine wpAny_Assign_stores (thn (he pins s σ H _ I h) fun v s1 ⟨x, H1, I1, r1, q1⟩ => ?_) hs hw
  rw [h1]
  exact thn (hg pins s1 σ H1 x v _ I1 r1 q1) fun _ s2 q => q
/-- name = value -/
theorem ps_set {i : Nat} {x : Str} {e : Expr} {te : TE} {pos' : Pos} (hN : X.N.Nodup) (hi : X.N[i]? = some x) (hx : Loc X.env.scope x) (he : PE X e te) (hs : swapsWith e (some (.Name x pos')) pos.line X.env = pure false := by rfl) (hf : X.fn x = true ∨ X.env.scope.names.lookup x = some .local := by first | exact .inl rfl | exact .inr rfl | assumption) :
    PS X (.Assign [.Name x pos'] e pos) (tAsg te (gName i)) := by
  intro pins s σ H D I h
  refine wpAny_Assign_Name (thn (he pins s σ H _ I h) fun v s1 ⟨y, H1, I1, r1, q1⟩ => ?_) hs
  exact store_ok I1 hN hi hx r1 (fun s2 I2 => ⟨_, H1, I2, q1⟩) hf
/-- a, b = x, y with plain local names: stored from the right; the pair itself is not tracked (the opening rows as in PyProof/Rows/TupAssign.lean:23) -/
def tPar (i j : Nat) (ta : TA) : TS := fun D σ H => ta σ H fun vs H1 => ∃ v w, vs = [v, w] ∧ D.nx ((σ.set i (some v)).set j (some w)) H1
theorem ps_par {i j : Nat} {x y : Str} {a b : Expr} {ta : TA} {px py pt : Pos} {kt k2 pt2} (hc : X.calm = true) (hN : X.N.Nodup) (hi : X.N[i]? = some x) (hj : X.N[j]? = some y) (hij : i ≠ j)
    (hx : X.env.scope.names.lookup x = some .local) (hy : X.env.scope.names.lookup y = some .local) (ha : PA X [a, b] ta)
    (hw : swappedStores [.Tuple [.Name x px, .Name y py] kt pt] (.Tuple [a, b] k2 pt2) X.env = pure (some [x, y]))
    (hs : swapsWithSole [.Tuple [.Name x px, .Name y py] kt pt] (.Tuple [a, b] k2 pt2) pos.line X.env = pure false := by rfl) :
    PS X (.Assign [.Tuple [.Name x px, .Name y py] kt pt] (.Tuple [a, b] k2 pt2) pos) (tPar i j ta) := by
  intro pins s σ H D I h
  rw [exec_Assign_arm]
  refine wpAny_bind (wpAny_standAt ?_)
  rw [hs]
  refine wpAny_bind (wpAny_pure ?_)
  rw [if_neg (by decide)]
  refine wpAny_bind (Tuple_ (thn (ha _ pins s σ H _ I h) fun us s1 ⟨vs, H1, I1, r1, q1⟩ => ?_))
  obtain ⟨v, w, e1, q1⟩ := q1
  subst e1
  obtain ⟨u1, u2, rfl, rv, rw'⟩ : ∃ u1 u2, us = [u1, u2] ∧ RelV v u1 ∧ RelV w u2 := by
    cases r1 with
    | cons p q =>
      cases q with
      | cons p' q' =>
        cases q'
        exact ⟨_, _, rfl, p, p'⟩
  refine wpAny_newObj_type ?_ (by show 2 ≤ sizeLine; decide)
  have I2 : Inv X pins σ H1 { s1 with heap := s1.heap.push { cls := .type "tuple", data := .seq [u1, u2].toArray } } := I1.kept (t' := s1.toks) fun b o e => Heap.get?_push_of_some _ e
  rw [hw]
  refine wpAny_bind (wpAny_pure ?_)
  show wpAny (model X.prog X.w) X.A (do rule "assign.swapped-stores"; let items ← unpackItems (.ref s1.heap.objs.size) 2 none; assignInOrder [fun v => bindName X.env y v, fun v => bindName X.env x v] items.reverse; pure Flow.next) _ _ _
  refine wpAny_bind (wpAny_rule (wpAny_bind (unpackItems_tuple (items := #[u1, u2]) (I.ok.hd hc) (IsTup.new s1.heap _) fun h' hx' => ?_)))
  have I3 := I2.kept (h' := h') (t' := s1.toks) fun b o e => hx' b o (Nat.ne_of_lt (Heap.lt_size e)) e
  show wpAny _ _ (assignInOrder [fun v => bindName X.env y v, fun v => bindName X.env x v] [u2, u1] >>= fun _ => pure Flow.next) _ _ _
  refine wpAny_bind (assignInOrder_cons (wpAny_bindName (store_ok I3 hN hj (.inl hy) rw' (fun s2 I4 => ?_) (.inr hy))))
  refine assignInOrder_cons (wpAny_bindName (store_ok I4 hN hi (.inl hx) rv (fun s3 I5 => assignInOrder_nil (wpAny_pure ?_)) (.inr hx)))
  rw [List.set_comm _ _ (Ne.symm hij)] at I5
  exact ⟨_, H1, I5, q1⟩
/-- name op= e -/
def tAug (i : Nat) (te : TE) (ti : TIp) : TS := fun D σ H => ∃ x, σ[i]? = some (some x) ∧ te σ H fun y H1 => ti x y H1 fun z H2 => D.nx (σ.set i (some z)) H2
theorem ps_aug {i : Nat} {x : Str} {e : Expr} {te : TE} {op : Operator} {ti : TIp} {pos' : Pos} (hN : X.N.Nodup) (hi : X.N[i]? = some x) (hx : Loc X.env.scope x) (he : PE X e te) (ho : PIp X op ti) (hf : X.fn x = true ∨ X.env.scope.names.lookup x = some .local := by first | exact .inl rfl | exact .inr rfl | assumption) :
    PS X (.AugAssign (.Name x pos') op e pos) (tAug i te ti) := by
  intro pins s σ H D I h
  obtain ⟨v, e1, h⟩ := h
  obtain ⟨m, hn, hl⟩ := I.loc
  have vis : Vis X.env.scope x := by rcases hx with k | k; exact .inl k; exact .inr (.inl k)
  obtain ⟨u, r, l⟩ := hl i x v hi e1 vis
  refine wpAny_AugAssign_Name ?_
  have go : wpAny (model X.prog X.w) X.A (eval e X.env) (fun w s₂ => wpAny (model X.prog X.w) X.A (inplaceOp op u w) (fun r s₃ => wpAny (model X.prog X.w) X.A (storeName X.env x r) (fun _ => SP X pins D .next) X.xe s₃) X.xe s₂) X.xe s := by
    refine thn (he pins s σ H _ I h) fun w s1 ⟨y, H1, I1, r1, q1⟩ => ?_
    refine thn (ho pins s1 σ H1 v y u w _ I1 r r1 q1) fun z s2 ⟨zv, H2, I2, r2, q2⟩ => ?_
    exact store_ok I2 hN hi hx r2 (fun s3 I3 => ⟨_, H2, I3, q2⟩) hf
  rcases l with ⟨hk, hm⟩ | ⟨hk, c, hc, hcell⟩
  · exact wpAny_loadName_local I.ok.kind hk hn hm go
  · rcases hk with hk | hk
    · exact wpAny_loadName_cell I.ok.kind hk hc hcell go
    · rcases hx with k | k
      · have : X.env.scope.names.lookup x = some .free := hk
        rw [k] at this; cases this
      · have : X.env.scope.names.lookup x = some .free := hk
        rw [k] at this; cases this
/-- o[i] op= e -/
def tAugS (to ti te : TE) (tget : V → V → Hp → VK → Prop) (tip : TIp) (tset : TSet) : TS := fun D σ H => to σ H fun o H1 => ti σ H1 fun i H2 => tget o i H2 fun x H3 => te σ H3 fun y H4 => tip x y H4 fun z H5 => tset o i z H5 fun H6 => D.nx σ H6
/-- o[i], by values -/
def PGet (X : Cx) (t : V → V → Hp → VK → Prop) : Prop :=
  ∀ (pins : List (Addr × Obj)) (s : Shared) (σ : St) (H : Hp) (o i : V) (ov iv : Value) (Q : VK), Inv X pins σ H s → RelV o ov → RelV i iv → t o i H Q →
    wpAny (model X.prog X.w) X.A (getItem ov iv) (EP X pins σ Q) X.xe s
theorem ps_augS {o i e : Expr} {to ti te : TE} {tget : V → V → Hp → VK → Prop} {tip : TIp} {tset : TSet} {op : Operator} {tpos : Pos} (ho : PE X o to) (hi : PE X i ti) (hg : PGet X tget) (he : PE X e te) (hp : PIp X op tip) (hs : PSet X tset)
    (ha : ∀ ov iv new, augStore i ov iv new = (do holding [new, ov, iv] (setItem ov iv new); release [new, ov, iv] []; pure .next) := by intros; rfl) : PS X (.AugAssign (.Subscript o i tpos) op e pos) (tAugS to ti te tget tip tset) := by
  intro pins s σ H D I h
  refine wpAny_AugAssign_SubscriptAny (thn (ho pins s σ H _ I h) fun ov s1 ⟨x1, H1, I1, r1, q1⟩ => ?_) ha
  refine thn (hi pins s1 σ H1 _ I1 q1) fun iv s2 ⟨x2, H2, I2, r2, q2⟩ => ?_
  refine thn (hg pins s2 σ H2 x1 x2 ov iv _ I2 r1 r2 q2) fun old s3 ⟨x3, H3, I3, r3, q3⟩ => ?_
  refine thn (he pins s3 σ H3 _ I3 q3) fun v s4 ⟨x4, H4, I4, r4, q4⟩ => ?_
  refine thn (hp pins s4 σ H4 x3 x4 old v _ I4 r3 r4 q4) fun new s5 ⟨x5, H5, I5, r5, q5⟩ => ?_
  exact thn (hs pins s5 σ H5 x1 x2 x5 ov iv new _ I5 r1 r2 r5 q5) fun _ s6 ⟨H6, I6, q6⟩ => ⟨σ, H6, I6, q6⟩
/-- ints -/
def ipI (f : Int → Int → Int) : TIp := fun x y H Q => ∃ i j, x = .int i ∧ y = .int j ∧ Q (.int (f i j)) H
theorem ip_add : PIp X .Add (ipI fun i j => i + j) := by
  intro pins s σ H x y v u Q I r1 r2 h
  obtain ⟨i, j, e1, e2, q⟩ := h
  subst e1; subst e2
  obtain ⟨t, rfl⟩ := r1
  obtain ⟨t', rfl⟩ := r2
  exact iadd_int ⟨.int _, H, I.tok _, ⟨_, rfl⟩, q⟩
theorem ip_sub : PIp X .Sub (ipI fun i j => i - j) := by
  intro pins s σ H x y v u Q I r1 r2 h
  obtain ⟨i, j, e1, e2, q⟩ := h
  subst e1; subst e2
  obtain ⟨t, rfl⟩ := r1
  obtain ⟨t', rfl⟩ := r2
  exact isub_int ⟨.int _, H, I.tok _, ⟨_, rfl⟩, q⟩
end

/-! ### while -/
section
variable {X : Cx} {pos : Pos}
/-- the invariant W with its measure -/
def tWhile (c : TT) (tb : TS) : TS := fun D σ H => ∃ W : Nat → St → Hp → Prop, (∃ m, W m σ H) ∧ ∀ m σ H, W m σ H →
  c σ H fun b H1 => if b = true then ∃ N : St → Hp → Prop, (∀ σ' H', N σ' H' → ∃ m', m' < m ∧ W m' σ' H') ∧ tb { D with nx := N, ct := N, bk := D.nx } σ H1 else D.nx σ H1
theorem ps_while {c : Expr} {body : List Stmt} {tc : TT} {tb : TS} (hp : PassesOwn (model X.prog X.w) X.A X.env X.xe) (hc : PT X c tc) (hb : PSs X body tb) : PS X (.While c body [] pos) (tWhile tc tb) := by
  intro pins s σ H D I h
  obtain ⟨W, ⟨m0, w0⟩, turn⟩ := h
  refine wpAny_While (codeAny_whileLoop (fun n s' => ∃ σ' H', Inv X pins σ' H' s' ∧ W n σ' H') ?_ m0 ⟨σ, H, I, w0⟩)
  rintro n s1 ⟨σ1, H1, I1, w1⟩
  refine wpAny_passesOwn hp (thn (hc pins s1 σ1 H1 _ I1 (turn n σ1 H1 w1)) fun b s2 ⟨H2, I2, q2⟩ => ?_)
  cases b with
  | true =>
    obtain ⟨N, hN, q2⟩ := q2
    rw [if_pos rfl]
    refine wpAny_passesOwn hp (thn (hb pins s2 σ1 H2 _ I2 q2) fun f s3 q3 => ?_)
    cases f with
    | next =>
      obtain ⟨σ3, H3, I3, n3⟩ := q3
      obtain ⟨m', hm, w3⟩ := hN σ3 H3 n3
      exact ⟨m', hm, σ3, H3, I3, w3⟩
    | cont =>
      obtain ⟨σ3, H3, I3, n3⟩ := q3
      obtain ⟨m', hm, w3⟩ := hN σ3 H3 n3
      exact ⟨m', hm, σ3, H3, I3, w3⟩
    | brk => exact q3
    | ret v => exact q3
  | false =>
    rw [if_neg Bool.false_ne_true]
    exact wpAny_execs_nil ⟨σ1, H2, I2, q2⟩
end

/-! ### what a loop or a comprehension walks -/
/-- at turn i: it yields x (the heap may grow), or it stops -/
structure It where
  go : Nat → Hp → Prop
  yld : Nat → Hp → V → Hp → Prop
  stop : Nat → Hp → Prop
/-- the iterator's own objects may turn: they are not the frame's, not pinned, younger than the entry (or a comprehension's own) -/
def FpOk (X : Cx) (pins : List (Addr × Obj)) (H : Hp) (b : Addr) : Prop :=
  H b = none ∧ b ≠ X.env.locals ∧ b ∉ X.fs ∧ (b ∈ X.ex ∨ X.s₀.heap.objs.size ≤ b) ∧ (∀ x c, X.env.cells.lookup x = some c → c ≠ b) ∧ ∀ p ∈ X.pn ++ pins, p.1 ≠ b
theorem Inv.fpOk {X : Cx} {pins : List (Addr × Obj)} {σ : St} {H H' : Hp} {s : Shared} {b : Addr} (I : Inv X pins σ H s) (hb : s.heap.objs.size ≤ b) (hn : H' b = none) : FpOk X pins H' b := by
  refine ⟨hn, Nat.ne_of_gt (Nat.lt_of_lt_of_le I.lt hb), I.nofs hb, .inr (Nat.le_trans I.sz hb), fun x c e z => ?_, fun p hp z => ?_⟩
  · obtain ⟨v, q⟩ := I.cell x c e
    exact absurd (Nat.lt_of_lt_of_le q.lt (by rw [z]; exact hb)) (Nat.lt_irrefl _)
  · exact absurd (Nat.lt_of_lt_of_le (Heap.lt_size (I.pin p hp).1) (by rw [z]; exact hb)) (Nat.lt_irrefl _)
structure Turn (P : Program) (w : World) (K : PySem.W.Frag) (tg : Expr) (J : It) (fp : List Addr) (it : Addr) (tn : Nat → Heap → Prop) : Prop where
  mem : it ∈ fp
  obj : ∀ i h, tn i h → ∀ b ∈ fp, ∃ o, h.get? b = some o ∧ ∀ v, o.data ≠ .cell v
  keep : ∀ i h h', tn i h → (∀ b ∈ fp, ∀ o, h.get? b = some o → h'.get? b = some o) → tn i h'
  item : ∀ (X : Cx), X.prog = P → X.w = w → X.K = K → X.calm = true → ∀ (i : Nat) (pins : List (Addr × Obj)) (s : Shared) (σ : St) (H : Hp) (E : Value → Shared → Prop), Inv X pins σ H s → (∀ b ∈ fp, FpOk X pins H b) → tn i s.heap → J.go i H →
    wpAny (model P w) X.A (pyNext (.ref it)) (fun r s1 => ∃ u, r = some u ∧
      wpAny (model P w) X.A (letOwnedTupleGo tg (.ref it) u) (fun _ s2 => ∃ x H', Inv X pins σ H' s2 ∧ RelV x u ∧ J.yld i H x H' ∧ tn (i + 1) s2.heap ∧ ∀ b ∈ fp, H' b = none) E s1) E s
  done : ∀ (X : Cx), X.prog = P → X.w = w → X.K = K → X.calm = true → ∀ (i : Nat) (pins : List (Addr × Obj)) (s : Shared) (σ : St) (H : Hp) (E : Value → Shared → Prop), Inv X pins σ H s → (∀ b ∈ fp, FpOk X pins H b) → tn i s.heap → J.stop i H →
    wpAny (model P w) X.A (pyNext (.ref it)) (fun r s1 => r = none ∧ Inv X pins σ H s1) E s
  self : ∀ (A : Around) (i : Nat) (s : Shared) (Q : Value → Shared → Prop) (E : Value → Shared → Prop), tn i s.heap → Q (.ref it) s → wpAny (model P w) A (pyIter (.ref it)) Q E s
abbrev TI := St → Hp → (It → Hp → Prop) → Prop
/-- an iterator has come -/
def PIE (X : Cx) (pins : List (Addr × Obj)) (σ : St) (tg : Expr) (R : It → Hp → Prop) (itv : Value) (s2 : Shared) : Prop :=
  ∃ (it : Addr) (fp : List Addr) (tn : Nat → Heap → Prop) (J : It) (H' : Hp), itv = .ref it ∧ Inv X pins σ H' s2 ∧ Turn X.prog X.w X.K tg J fp it tn ∧ tn 0 s2.heap ∧ (∀ b ∈ fp, FpOk X pins H' b) ∧ R J H'
def PI (X : Cx) (tg iter : Expr) (wi : TI) : Prop :=
  ∀ (pins : List (Addr × Obj)) (s : Shared) (σ : St) (H : Hp) (R : It → Hp → Prop), Inv X pins σ H s → wi σ H R →
    wpAny (model X.prog X.w) X.A (eval iter X.env) (fun v s1 => wpAny (model X.prog X.w) X.A (pyIter v) (PIE X pins σ tg R) X.xe s1) X.xe s

/-- the step ahead of the store is nothing for an iterator that keeps no tuple -/
theorem go_of {M : Model} {A : Around} {E : Value → Shared → Prop} {s : Shared} {tg : Expr} {it : Addr} {u : Value} {o : Obj} {n : String} {vs : Array Value} {Q : Unit → Shared → Prop} (ho : s.heap.get? it = some o) (hc : o.cls = .type n) (hd : o.data = .fields vs)
    (hn : ["enumerate", "zip", "dict_itemiterator", "dict_reverseitemiterator", "odict_iterator", "itertools.zip_longest", "itertools.pairwise"].contains n = false) (hQ : Q () s) : wpAny M A (letOwnedTupleGo tg (.ref it) u) Q E s := by
  unfold letOwnedTupleGo
  cases tg <;> first
    | exact wpAny_pure hQ
    | (cases u <;> first
        | exact wpAny_pure hQ
        | (refine wpAny_bind (wpAny_load ho ?_)
           rw [hc, hd]
           show wpAny M A (if (["enumerate", "zip", "dict_itemiterator", "dict_reverseitemiterator", "odict_iterator", "itertools.zip_longest", "itertools.pairwise"].contains n && vs[0]? == some (rawInt _)) = true then _ else _) Q E s
           rw [if_neg (by intro h; rw [hn, Bool.false_and] at h; cases h)]
           exact wpAny_pure hQ))

/-- the list at a, as it stands at each turn (a loop may append to it) -/
def Itl (K : PySem.W.Frag) (a : Addr) : It :=
  ⟨fun i H => ∃ xs x, SqL K H a xs ∧ xs[i]? = some x, fun i H x H' => H' = H ∧ ∀ xs, SqL K H a xs → xs[i]? = some x, fun i H => ∃ xs, SqL K H a xs ∧ xs.length ≤ i⟩
def Itt (K : PySem.W.Frag) (a : Addr) : It :=
  ⟨fun i H => ∃ xs x, SqT K H a xs ∧ xs[i]? = some x, fun i H x H' => H' = H ∧ ∀ xs, SqT K H a xs → xs[i]? = some x, fun i H => ∃ xs, SqT K H a xs ∧ xs.length ≤ i⟩
/-- lo, lo + 1, .. (n of them) -/
def Itr (lo : Int) (n : Nat) : It := ⟨fun i _ => i < n, fun i H x H' => H' = H ∧ x = .int (lo + i), fun i _ => n ≤ i⟩
theorem turn_list {P : Program} {w : World} {K : PySem.W.Frag} {tg : Expr} (a it : Addr) : Turn P w K tg (Itl K a) [it] it (fun i h => h.IsListIter it a i) where
  mem := by simp
  obj := fun i h st b hb => by
    have e : b = it := by simpa using hb
    subst e
    obtain ⟨o, e, c, d⟩ := st
    exact ⟨o, e, fun v z => by rw [d] at z; cases z⟩
  keep := fun i h h' st k => st.at fun o e => k it (by simp) o e
  item := by
    intro X hP hw hK hc i pins s σ H E I hf st hg
    subst hP hw hK
    obtain ⟨xs, x, hq, hx⟩ := hg
    obtain ⟨its, rv, p, hz⟩ := I.list hq
    obtain ⟨u, hu, ru⟩ := rv.get hx
    obtain ⟨f0, f1, f2, f3, f4, f5⟩ := hf it (by simp)
    refine wpAny_pyNext_list_item st p.isList (x := u) (by simpa using hu) fun h' st' sb => ?_
    have I1 : Inv X pins σ H { s with heap := h' } := I.turned (t' := s.toks) (fun b o hb e => (sb.2 b hb).trans e) f0 f1 f3 f4 f5
    obtain ⟨o, e, c, d⟩ := id st'
    exact ⟨u, rfl, go_of (s := { s with heap := h' }) e c d (by decide) ⟨x, H, I1, ru, ⟨rfl, fun ys hy => by rw [I.list_inj hy hq]; exact hx⟩, st', fun b hb => (hf b hb).1⟩⟩
  done := by
    intro X hP hw hK hc i pins s σ H E I hf st hg
    subst hP hw hK
    obtain ⟨xs, hq, hx⟩ := hg
    obtain ⟨its, rv, p, hz⟩ := I.list hq
    obtain ⟨f0, f1, f2, f3, f4, f5⟩ := hf it (by simp)
    have hl := rv.length
    exact wpAny_pyNext_list_end (I.ok.hd hc) st p.isList (by simp; omega) fun h' eb => ⟨rfl, I.turned (t' := s.toks) (fun b o hb e => eb b o hb e) f0 f1 f3 f4 f5⟩
  self := fun _ _ _ _ _ st h => wpAny_pyIter_listiter st h
theorem turn_tuple {P : Program} {w : World} {K : PySem.W.Frag} {tg : Expr} (a it : Addr) : Turn P w K tg (Itt K a) [it] it (fun i h => h.IsTupleIter it a i) where
  mem := by simp
  obj := fun i h st b hb => by
    have e : b = it := by simpa using hb
    subst e
    obtain ⟨o, e, c, d⟩ := st
    exact ⟨o, e, fun v z => by rw [d] at z; cases z⟩
  keep := fun i h h' st k => st.at fun o e => k it (by simp) o e
  item := by
    intro X hP hw hK hc i pins s σ H E I hf st hg
    subst hP hw hK
    obtain ⟨xs, x, hq, hx⟩ := hg
    obtain ⟨its, rv, p, hz⟩ := I.tuple hq
    obtain ⟨u, hu, ru⟩ := rv.get hx
    obtain ⟨f0, f1, f2, f3, f4, f5⟩ := hf it (by simp)
    refine wpAny_pyNext_tuple_item st (show s.heap.IsTuple a its.toArray from p) (x := u) (by simpa using hu) fun h' st' sb => ?_
    have I1 : Inv X pins σ H { s with heap := h' } := I.turned (t' := s.toks) (fun b o hb e => (sb.2 b hb).trans e) f0 f1 f3 f4 f5
    obtain ⟨o, e, c, d⟩ := id st'
    exact ⟨u, rfl, go_of (s := { s with heap := h' }) e c d (by decide) ⟨x, H, I1, ru, ⟨rfl, fun ys hy => by rw [I.tuple_inj hy hq]; exact hx⟩, st', fun b hb => (hf b hb).1⟩⟩
  done := by
    intro X hP hw hK hc i pins s σ H E I hf st hg
    subst hP hw hK
    obtain ⟨xs, hq, hx⟩ := hg
    obtain ⟨its, rv, p, hz⟩ := I.tuple hq
    obtain ⟨f0, f1, f2, f3, f4, f5⟩ := hf it (by simp)
    have hl := rv.length
    exact wpAny_pyNext_tuple_end (I.ok.hd hc) st (show s.heap.IsTuple a its.toArray from p) (by simp; omega) fun h' eb => ⟨rfl, I.turned (t' := s.toks) (fun b o hb e => eb b o hb e) f0 f1 f3 f4 f5⟩
  self := fun _ _ _ _ _ st h => wpAny_pyIter_tupleiter st h
theorem turn_range {P : Program} {w : World} {K : PySem.W.Frag} {tg : Expr} (it : Addr) (lo : Int) (n : Nat) : Turn P w K tg (Itr lo n) [it] it (fun i h => IsRangeIter h it (lo + (i : Nat) * 1) ((n : Int) - (i : Nat)) 1) where
  mem := by simp
  obj := fun i h st b hb => by
    have e : b = it := by simpa using hb
    subst e
    exact ⟨_, st, fun v z => by
      have z' : Data.fields _ = Data.cell v := z
      cases z'⟩
  keep := fun i h h' st k => k it (by simp) _ st
  item := by
    intro X hP hw hK hc i pins s σ H E I hf st hg
    subst hP hw hK
    obtain ⟨f0, f1, f2, f3, f4, f5⟩ := hf it (by simp)
    have W := Walks.range (prog := X.prog) (w := X.w) (I.ok.hd hc) it lo 1 n
    refine W.item i s _ _ hg st fun v h' tk hv st' kk => ?_
    obtain ⟨t, rfl⟩ := hv
    have I1 : Inv X pins σ H { s with heap := h', toks := tk } := I.turned (fun b o hb e => kk b o (by simpa using hb) e) f0 f1 f3 f4 f5
    refine ⟨_, rfl, go_of (s := { s with heap := h', toks := tk }) (n := "range_iterator") st' rfl rfl (by decide) ⟨.int (lo + i), H, I1, ⟨t, ?_⟩, ⟨rfl, rfl⟩, st', fun b hb => (hf b hb).1⟩⟩
    rw [Int.mul_one]
  done := by
    intro X hP hw hK hc i pins s σ H E I hf st hg
    subst hP hw hK
    obtain ⟨f0, f1, f2, f3, f4, f5⟩ := hf it (by simp)
    exact wpAny_pyNext_range_end (I.ok.hd hc) st (by have : n ≤ i := hg; omega) fun h' eb => ⟨rfl, I.turned (t' := s.toks) (fun b o hb e => eb b o hb e) f0 f1 f3 f4 f5⟩
  self := fun _ _ _ _ _ st h => wpAny_pyIter_rangeiter st h
end L2

namespace L2
open PySem PySem.Spec PyProof.Rows
section
variable {X : Cx} {tg : Expr}
def iList (K : PySem.W.Frag) (tl : TE) : TI := fun σ H R => tl σ H fun x H1 => ∃ a, x = .ref a ∧ (∃ xs, SqL K H1 a xs) ∧ R (Itl K a) H1
def iTup (K : PySem.W.Frag) (tl : TE) : TI := fun σ H R => tl σ H fun x H1 => ∃ a, x = .ref a ∧ (∃ xs, SqT K H1 a xs) ∧ R (Itt K a) H1
theorem pi_list {l : Expr} {tl : TE} (hl : PE X l tl) : PI X tg l (iList X.K tl) := by
  intro pins s σ H R I h
  refine thn (hl pins s σ H _ I h) fun v s1 ⟨x, H1, I1, r1, q1⟩ => ?_
  obtain ⟨a, e, ⟨xs, hq⟩, q⟩ := q1
  subst e
  cases r1
  obtain ⟨its, rv, p, hz⟩ := I1.list hq
  refine wpAny_pyIter_list p.isList ?_
  refine ⟨s1.heap.objs.size, [s1.heap.objs.size], _, _, H1, rfl, I1.kept (t' := s1.toks) fun b o e => Heap.get?_push_of_some _ e, turn_list a _, ⟨_, Heap.get?_push_size _ rfl, rfl, rfl⟩, fun b hb => ?_, q⟩
  have e : b = s1.heap.objs.size := by simpa using hb
  subst e
  exact I1.fpOk (Nat.le_refl _) (I1.hok.fresh (Nat.le_refl _))
theorem pi_tup {l : Expr} {tl : TE} (hl : PE X l tl) : PI X tg l (iTup X.K tl) := by
  intro pins s σ H R I h
  refine thn (hl pins s σ H _ I h) fun v s1 ⟨x, H1, I1, r1, q1⟩ => ?_
  obtain ⟨a, e, ⟨xs, hq⟩, q⟩ := q1
  subst e
  cases r1
  obtain ⟨its, rv, p, hz⟩ := I1.tuple hq
  refine wpAny_pyIter_tuple (show s1.heap.IsTuple a its.toArray from p) ?_
  refine ⟨s1.heap.objs.size, [s1.heap.objs.size], _, _, H1, rfl, I1.kept (t' := s1.toks) fun b o e => Heap.get?_push_of_some _ e, turn_tuple a _, ⟨_, Heap.get?_push_size _ rfl, rfl, rfl⟩, fun b hb => ?_, q⟩
  have e : b = s1.heap.objs.size := by simpa using hb
  subst e
  exact I1.fpOk (Nat.le_refl _) (I1.hok.fresh (Nat.le_refl _))
/-- a range object just made, walked -/
theorem range_it {pins : List (Addr × Obj)} {σ : St} {H : Hp} {s : Shared} {R : It → Hp → Prop} {E : Value → Shared → Prop} {lo hi : Int} {t u v : Tok} {tk : Nat} (I : Inv X pins σ H s) (h1 : -(2 ^ 62) ≤ lo) (h2 : lo < 2 ^ 62) (h3 : -(2 ^ 62) ≤ hi) (h4 : hi < 2 ^ 62)
    (q : R (Itr lo (hi - lo).toNat) H) : wpAny (model X.prog X.w) X.A (pyIter (.ref s.heap.objs.size)) (PIE X pins σ tg R) E { s with heap := s.heap.push { cls := .type "range", data := .fields #[.int lo t, .int hi u, .int 1 v] }, toks := tk } := by
  refine wpAny_pyIter_range (IsRange.new ..) (small_one h1 h2 h3 h4) ?_
  have I1 : Inv X pins σ H { s with heap := s.heap.push { cls := .type "range", data := .fields #[.int lo t, .int hi u, .int 1 v] }, toks := tk } := I.kept fun b o e => Heap.get?_push_of_some _ e
  refine ⟨(s.heap.push { cls := .type "range", data := .fields #[.int lo t, .int hi u, .int 1 v] }).objs.size, [(s.heap.push { cls := .type "range", data := .fields #[.int lo t, .int hi u, .int 1 v] }).objs.size], _, _, H, rfl,
    I1.kept (t' := tk) fun b o e => Heap.get?_push_of_some _ e, turn_range _ lo (hi - lo).toNat, ?_, fun b hb => ?_, q⟩
  · have e1 : lo + ((0 : Nat) : Int) * 1 = lo := by simp
    have e2 : (((hi - lo).toNat : Nat) : Int) - ((0 : Nat) : Int) = Builtin.Range.rangeSize lo hi 1 := by rw [rangeSize_one]; split <;> omega
    show IsRangeIter _ _ (lo + ((0 : Nat) : Int) * 1) ((((hi - lo).toNat : Nat) : Int) - ((0 : Nat) : Int)) 1
    rw [e1, e2]
    exact Heap.get?_push_size _ rfl
  · have e : b = (s.heap.push { cls := .type "range", data := .fields #[.int lo t, .int hi u, .int 1 v] }).objs.size := by simpa using hb
    subst e
    exact I1.fpOk (Nat.le_refl _) (I1.hok.fresh (Nat.le_refl _))
def iRng1 (ta : TA) : TI := fun σ H R => ta σ H fun vs H1 => ∃ j : Int, vs = [.int j] ∧ -(2 ^ 62) ≤ j ∧ j < 2 ^ 62 ∧ R (Itr 0 j.toNat) H1
def iRng2 (ta : TA) : TI := fun σ H R => ta σ H fun vs H1 => ∃ i j : Int, vs = [.int i, .int j] ∧ (-(2 ^ 62) ≤ i ∧ i < 2 ^ 62 ∧ -(2 ^ 62) ≤ j ∧ j < 2 ^ 62) ∧ R (Itr i (j - i).toNat) H1
theorem pi_range1 {a : Expr} {ta : TA} {p pos : Pos} (hg : Gl X "range") (hm : X.mg "range" = none) (ha : PA X [a] ta) (hs : starEach [a] X.env = [(false, eval a X.env)] := by rfl) : PI X tg (.Call (.Name "range" p) [a] [] pos) (iRng1 ta) := by
  intro pins s σ H R I h
  refine Call_ (ld_blt I hg hm boot_range (PyProof.Rows.callWith_type1 (thn (ha pos pins s σ H _ I h) fun us s1 ⟨vs, H1, I1, r1, q1⟩ => ?_) hs rfl))
  obtain ⟨j, e, q1, q2, q⟩ := q1
  subst e
  cases r1 with
  | cons r rr =>
    cases rr
    obtain ⟨t, rfl⟩ := r
    exact call_range_1 (range_it I1 (by omega) (by omega) q1 q2 (by simpa using q))
theorem pi_range2 {a b : Expr} {ta : TA} {p pos : Pos} (hg : Gl X "range") (hm : X.mg "range" = none) (ha : PA X [a, b] ta) (hs : starEach [a, b] X.env = [(false, eval a X.env), (false, eval b X.env)] := by rfl) (hs2 : starEach [b] X.env = [(false, eval b X.env)] := by rfl) :
    PI X tg (.Call (.Name "range" p) [a, b] [] pos) (iRng2 ta) := by
  intro pins s σ H R I h
  refine Call_ (ld_blt I hg hm boot_range (PyProof.Rows.callWith_type1 (thn (ha pos pins s σ H _ I h) fun us s1 ⟨vs, H1, I1, r1, q1⟩ => ?_) (by rw [hs, hs2]) (by rw [hs2]; rfl)))
  obtain ⟨i, j, e, ⟨q1, q2, q3, q4⟩, q⟩ := q1
  subst e
  cases r1 with
  | cons r rr =>
    cases rr with
    | cons r' rr =>
      cases rr
      obtain ⟨t, rfl⟩ := r
      obtain ⟨t', rfl⟩ := r'
      exact call_range_2 (range_it I1 q1 q2 q3 q4 q)

/-! ### for -/
/-- W: the invariant by the turn and a measure; N: what the body is to reach -/
def tFor (wi : TI) (g : TG) (tb : TS) : TS := fun D σ H => wi σ H fun J H1 => ∃ W : Nat → Nat → St → Hp → Prop, (∃ m, W 0 m σ H1) ∧ ∀ i m σ H, W i m σ H →
  (J.stop i H ∧ D.nx σ H) ∨ (J.go i H ∧ ∃ N : St → Hp → Prop, (∀ σ' H', N σ' H' → ∃ m', m' < m ∧ W (i + 1) m' σ' H') ∧ ∀ x H', J.yld i H x H' → g x σ H' fun σ2 H2 => tb { D with nx := N, ct := N, bk := D.nx } σ2 H2)
/-- the records at fp as they stand -/
def pinsAt (fp : List Addr) (h : Heap) : List (Addr × Obj) := fp.filterMap fun b => (h.get? b).map fun o => (b, o)
theorem mem_pinsAt {fp : List Addr} {h : Heap} {b : Addr} {o : Obj} (hb : b ∈ fp) (e : h.get? b = some o) : (b, o) ∈ pinsAt fp h := List.mem_filterMap.mpr ⟨b, hb, by rw [e]; rfl⟩
theorem of_pinsAt {fp : List Addr} {h : Heap} {p : Addr × Obj} (hp : p ∈ pinsAt fp h) : p.1 ∈ fp ∧ h.get? p.1 = some p.2 := by
  obtain ⟨b, hb, e⟩ := List.mem_filterMap.mp hp
  cases q : h.get? b with
  | none => rw [q] at e; cases e
  | some o =>
    rw [q] at e
    have e' : (b, o) = p := Option.some.inj e
    subst e'
    exact ⟨hb, q⟩
theorem Inv.pinned {pins : List (Addr × Obj)} {σ : St} {H : Hp} {s : Shared} {fp : List Addr} (I : Inv X pins σ H s) (hf : ∀ b ∈ fp, FpOk X pins H b) (ho : ∀ b ∈ fp, ∃ o, s.heap.get? b = some o ∧ ∀ v, o.data ≠ .cell v) : Inv X (pins ++ pinsAt fp s.heap) σ H s :=
  I.pins_of fun p hp => (List.mem_append.mp hp).elim (fun z => I.pin p (List.mem_append_right _ z)) fun z => by
    obtain ⟨hb, e⟩ := of_pinsAt z
    obtain ⟨f0, f1, f2, _⟩ := hf p.1 hb
    obtain ⟨o, e', d⟩ := ho p.1 hb
    rw [e] at e'; cases e'
    exact ⟨e, f0, f1, f2, d⟩
theorem Inv.unpinned {pins pl : List (Addr × Obj)} {σ : St} {H : Hp} {s : Shared} (I : Inv X (pins ++ pl) σ H s) : Inv X pins σ H s := I.pins_of fun p hp => I.pin p (List.mem_append_right _ (List.mem_append_left _ hp))
theorem ps_for {iter : Expr} {body : List Stmt} {wi : TI} {g : TG} {tb : TS} {pos : Pos} (hp : PassesOwn (model X.prog X.w) X.A X.env X.xe) (hc : X.calm = true) (hi : PI X tg iter wi) (hg : PG X tg g) (hb : PSs X body tb)
    (hs : ∀ x, foldedSetIterable iter X.env x = pure x := by intro _; rfl) : PS X (.For tg iter body [] pos) (tFor wi g tb) := by
  intro pins s σ H D I h
  refine wpAny_For (thn (hi pins s σ H _ I h) fun v s1 h1 => thn h1 fun itv s2 h2 => ?_) hs
  obtain ⟨it, fp, tn, J, H2, e, I2, T, st2, f2, W, ⟨m0, w0⟩, turn⟩ := h2
  subst e
  -- what stays true of the iterator's objects through the loop
  have stat : ∀ {H' : Hp}, (∀ b ∈ fp, H' b = none) → ∀ b ∈ fp, FpOk X pins H' b := fun hn b hb => ⟨hn b hb, (f2 b hb).2⟩
  refine codeAny_forLoop_any (fun n s' => ∃ i σ' H', Inv X pins σ' H' s' ∧ tn i s'.heap ∧ (∀ b ∈ fp, H' b = none) ∧ W i n σ' H') ?_ m0 ⟨0, σ, H2, I2, st2, fun b hb => (f2 b hb).1, w0⟩
  rintro n s3 ⟨i, σ3, H3, I3, st3, fr3, w3⟩
  rcases turn i n σ3 H3 w3 with ⟨stop, qn⟩ | ⟨go, N, hN, step⟩
  · refine wpAny_passesOwn hp (thn (T.done X rfl rfl rfl hc i pins s3 σ3 H3 X.xe I3 (stat fr3) st3 stop) fun r s4 ⟨hr, I4⟩ => ?_)
    subst hr
    exact wpAny_execs_nil ⟨σ3, H3, I4, qn⟩
  · refine wpAny_passesOwn hp (thn (T.item X rfl rfl rfl hc i pins s3 σ3 H3 X.xe I3 (stat fr3) st3 go) fun r s4 ⟨u, hr, h4⟩ => ?_)
    subst hr
    refine wpAny_passesOwn hp (thn h4 fun _ s5 ⟨x, H5, I5, r5, y5, st5, fr5⟩ => ?_)
    have I5' := I5.pinned (stat fr5) (T.obj _ _ st5)
    refine wpAny_passesOwn hp (thn (hg _ s5 σ3 H5 x u _ I5' r5 (step x H5 y5)) fun _ s6 ⟨σ6, H6, I6, q6⟩ => ?_)
    refine wpAny_passesOwn hp (thn (hb _ s6 σ6 H6 _ I6 q6) fun f s7 q7 => ?_)
    have again : ∀ {σ7 : St} {H7 : Hp}, Inv X (pins ++ pinsAt fp s5.heap) σ7 H7 s7 → N σ7 H7 → ∃ m, m < n ∧ ∃ i σ' H', Inv X pins σ' H' s7 ∧ tn i s7.heap ∧ (∀ b ∈ fp, H' b = none) ∧ W i m σ' H' := fun {σ7 H7} I7 n7 => by
      obtain ⟨m', hm, w7⟩ := hN σ7 H7 n7
      refine ⟨m', hm, i + 1, σ7, H7, I7.unpinned, T.keep _ _ _ st5 fun b hb o e => (I7.pin (b, o) (List.mem_append_right _ (List.mem_append_right _ (mem_pinsAt hb e)))).1, fun b hb => ?_, w7⟩
      obtain ⟨o, e, d⟩ := T.obj _ _ st5 b hb
      exact (I7.pin (b, o) (List.mem_append_right _ (List.mem_append_right _ (mem_pinsAt hb e)))).2.1
    cases f with
    | next => obtain ⟨σ7, H7, I7, n7⟩ := q7; exact again I7 n7
    | cont => obtain ⟨σ7, H7, I7, n7⟩ := q7; exact again I7 n7
    | brk => obtain ⟨σ7, H7, I7, q7⟩ := q7; exact ⟨σ7, H7, I7.unpinned, q7⟩
    | ret v => obtain ⟨x7, σ7, H7, I7, r7, q7⟩ := q7; exact ⟨x7, σ7, H7, I7.unpinned, r7, q7⟩
end

/-! ### the forms one uses -/
/-- over a list that the body leaves as it is -/
theorem for_list {K : PySem.W.Frag} {a : Addr} {xs : List V} {g : TG} {tb : TS} {D : Ends} {σ : St} {H : Hp} (Pv : Nat → St → Hp → Prop) (h0 : Pv 0 σ H) (hl : ∀ i σ H, i ≤ xs.length → Pv i σ H → SqL K H a xs)
    (hs : ∀ i x σ H, xs[i]? = some x → Pv i σ H → g x σ H fun σ2 H2 => tb { D with nx := Pv (i + 1), ct := Pv (i + 1), bk := D.nx } σ2 H2) (hd : ∀ σ H, Pv xs.length σ H → D.nx σ H) :
    ∃ W : Nat → Nat → St → Hp → Prop, (∃ m, W 0 m σ H) ∧ ∀ i m σ H, W i m σ H →
      ((Itl K a).stop i H ∧ D.nx σ H) ∨ ((Itl K a).go i H ∧ ∃ N : St → Hp → Prop, (∀ σ' H', N σ' H' → ∃ m', m' < m ∧ W (i + 1) m' σ' H') ∧ ∀ x H', (Itl K a).yld i H x H' → g x σ H' fun σ2 H2 => tb { D with nx := N, ct := N, bk := D.nx } σ2 H2) := by
  refine ⟨fun i m σ H => m = xs.length - i ∧ i ≤ xs.length ∧ Pv i σ H, ⟨xs.length, by simp, Nat.zero_le _, h0⟩, ?_⟩
  rintro i m σ H ⟨rfl, hi, p⟩
  have q := hl i σ H hi p
  by_cases hlt : i < xs.length
  · refine .inr ⟨⟨xs, xs[i], q, by simp [hlt]⟩, Pv (i + 1), fun σ' H' p' => ⟨xs.length - (i + 1), by omega, rfl, hlt, p'⟩, fun x H' y => ?_⟩
    obtain ⟨e, y⟩ := y
    subst e
    exact hs i x σ _ (y xs q) p
  · have e : i = xs.length := by omega
    subst e
    exact .inl ⟨⟨xs, q, Nat.le_refl _⟩, hd σ H p⟩
theorem for_tup {K : PySem.W.Frag} {a : Addr} {xs : List V} {g : TG} {tb : TS} {D : Ends} {σ : St} {H : Hp} (Pv : Nat → St → Hp → Prop) (h0 : Pv 0 σ H) (hl : ∀ i σ H, i ≤ xs.length → Pv i σ H → SqT K H a xs)
    (hs : ∀ i x σ H, xs[i]? = some x → Pv i σ H → g x σ H fun σ2 H2 => tb { D with nx := Pv (i + 1), ct := Pv (i + 1), bk := D.nx } σ2 H2) (hd : ∀ σ H, Pv xs.length σ H → D.nx σ H) :
    ∃ W : Nat → Nat → St → Hp → Prop, (∃ m, W 0 m σ H) ∧ ∀ i m σ H, W i m σ H →
      ((Itt K a).stop i H ∧ D.nx σ H) ∨ ((Itt K a).go i H ∧ ∃ N : St → Hp → Prop, (∀ σ' H', N σ' H' → ∃ m', m' < m ∧ W (i + 1) m' σ' H') ∧ ∀ x H', (Itt K a).yld i H x H' → g x σ H' fun σ2 H2 => tb { D with nx := N, ct := N, bk := D.nx } σ2 H2) := by
  refine ⟨fun i m σ H => m = xs.length - i ∧ i ≤ xs.length ∧ Pv i σ H, ⟨xs.length, by simp, Nat.zero_le _, h0⟩, ?_⟩
  rintro i m σ H ⟨rfl, hi, p⟩
  have q := hl i σ H hi p
  by_cases hlt : i < xs.length
  · refine .inr ⟨⟨xs, xs[i], q, by simp [hlt]⟩, Pv (i + 1), fun σ' H' p' => ⟨xs.length - (i + 1), by omega, rfl, hlt, p'⟩, fun x H' y => ?_⟩
    obtain ⟨e, y⟩ := y
    subst e
    exact hs i x σ _ (y xs q) p
  · have e : i = xs.length := by omega
    subst e
    exact .inl ⟨⟨xs, q, Nat.le_refl _⟩, hd σ H p⟩
theorem for_range {lo : Int} {n : Nat} {g : TG} {tb : TS} {D : Ends} {σ : St} {H : Hp} (Pv : Nat → St → Hp → Prop) (h0 : Pv 0 σ H)
    (hs : ∀ i σ H, i < n → Pv i σ H → g (.int (lo + i)) σ H fun σ2 H2 => tb { D with nx := Pv (i + 1), ct := Pv (i + 1), bk := D.nx } σ2 H2) (hd : ∀ σ H, Pv n σ H → D.nx σ H) :
    ∃ W : Nat → Nat → St → Hp → Prop, (∃ m, W 0 m σ H) ∧ ∀ i m σ H, W i m σ H →
      ((Itr lo n).stop i H ∧ D.nx σ H) ∨ ((Itr lo n).go i H ∧ ∃ N : St → Hp → Prop, (∀ σ' H', N σ' H' → ∃ m', m' < m ∧ W (i + 1) m' σ' H') ∧ ∀ x H', (Itr lo n).yld i H x H' → g x σ H' fun σ2 H2 => tb { D with nx := N, ct := N, bk := D.nx } σ2 H2) := by
  refine ⟨fun i m σ H => m = n - i ∧ i ≤ n ∧ Pv i σ H, ⟨n, by simp, Nat.zero_le _, h0⟩, ?_⟩
  rintro i m σ H ⟨rfl, hi, p⟩
  by_cases hlt : i < n
  · refine .inr ⟨hlt, Pv (i + 1), fun σ' H' p' => ⟨n - (i + 1), by omega, rfl, hlt, p'⟩, fun x H' y => ?_⟩
    obtain ⟨e, y⟩ := y
    subst e y
    exact hs i σ _ hlt p
  · have e : i = n := by omega
    subst e
    exact .inl ⟨Nat.le_refl _, hd σ H p⟩
/-- while, by a word and a measure of the state -/
theorem while_by {c : TT} {tb : TS} {D : Ends} {σ : St} {H : Hp} (Pv : St → Hp → Prop) (μ : St → Hp → Nat) (h0 : Pv σ H)
    (hs : ∀ σ H, Pv σ H → c σ H fun b H1 => if b = true then tb { D with nx := fun σ' H' => Pv σ' H' ∧ μ σ' H' < μ σ H, ct := fun σ' H' => Pv σ' H' ∧ μ σ' H' < μ σ H, bk := D.nx } σ H1 else D.nx σ H1)
    (mono : ∀ σ H Q Q', (∀ b H1, Q b H1 → Q' b H1) → c σ H Q → c σ H Q') : tWhile c tb D σ H := by
  refine ⟨fun m σ H => m = μ σ H ∧ Pv σ H, ⟨_, rfl, h0⟩, ?_⟩
  rintro m σ H ⟨rfl, p⟩
  refine mono σ H _ _ (fun b H1 q => ?_) (hs σ H p)
  cases b with
  | true => exact ⟨_, fun σ' H' ⟨p', l⟩ => ⟨_, l, rfl, p'⟩, q⟩
  | false => exact q
end L2

namespace L2
open PySem PySem.Spec PyProof.Rows

abbrev R2 := V → V → Hp → VK → Prop
/-- a two-place operation on values: f is binaryOp op, inplaceOp op or compareOp op -/
def OpR (X : Cx) (f : Value → Value → Sem Value) (r : R2) : Prop :=
  ∀ (pins : List (Addr × Obj)) (s : Shared) (σ : St) (H : Hp) (x y : V) (v u : Value) (Q : VK), Inv X pins σ H s → RelV x v → RelV y u → r x y H Q →
    wpAny (model X.prog X.w) X.A (f v u) (EP X pins σ Q) X.xe s
/-- a one-place operation -/
def UnR (X : Cx) (f : Value → Sem Value) (r : V → Hp → VK → Prop) : Prop :=
  ∀ (pins : List (Addr × Obj)) (s : Shared) (σ : St) (H : Hp) (x : V) (v : Value) (Q : VK), Inv X pins σ H s → RelV x v → r x H Q →
    wpAny (model X.prog X.w) X.A (f v) (EP X pins σ Q) X.xe s
/-- a call of a value that is known (a builtin, a type) with values -/
def CallR (X : Cx) (f : Value) (r : List V → Hp → VK → Prop) : Prop :=
  ∀ (pins : List (Addr × Obj)) (s : Shared) (σ : St) (H : Hp) (xs : List V) (us : List Value) (Q : VK), Inv X pins σ H s → Vals xs us → r xs H Q →
    wpAny (model X.prog X.w) X.A (call f us) (EP X pins σ Q) X.xe s
/-- a value's truth -/
def TruR (X : Cx) (r : V → Hp → (Bool → Hp → Prop) → Prop) : Prop :=
  ∀ (pins : List (Addr × Obj)) (s : Shared) (σ : St) (H : Hp) (x : V) (v : Value) (Q : Bool → Hp → Prop), Inv X pins σ H s → RelV x v → r x H Q →
    wpAny (model X.prog X.w) X.A (truthy v) (TP X pins σ Q) X.xe s

def tOp (r : R2) (ta tb : TE) : TE := fun σ H Q => ta σ H fun x H1 => tb σ H1 fun y H2 => r x y H2 Q
def tUn (r : V → Hp → VK → Prop) (ta : TE) : TE := fun σ H Q => ta σ H fun x H1 => r x H1 Q
/-- ints in, under C, and a value out -/
def rI (C : Int → Int → Prop) (g : Int → Int → V) : R2 := fun x y H Q => ∃ i j, x = .int i ∧ y = .int j ∧ C i j ∧ Q (g i j) H
def rI0 (g : Int → Int → V) : R2 := fun x y H Q => ∃ i j, x = .int i ∧ y = .int j ∧ Q (g i j) H
def rU (g : Int → V) : V → Hp → VK → Prop := fun x H Q => ∃ i, x = .int i ∧ Q (g i) H

section
variable {X : Cx} {a b c : Expr} {ta tb tc : TE} {pos : Pos}

theorem binT (ha : PE X a ta) (hb : PE X b tb) {pins : List (Addr × Obj)} {s : Shared} {σ : St} {H : Hp} {R : V → V → Hp → Prop} (I : Inv X pins σ H s)
    (h : ta σ H fun x H1 => tb σ H1 fun y H2 => R x y H2) {Q : Value → Shared → Prop} {f : Value → Value → Sem Value}
    (hf : ∀ v u s2 x y H2, Inv X pins σ H2 s2 → RelV x v → RelV y u → R x y H2 → wpAny (model X.prog X.w) X.A (f v u) Q X.xe s2) :
    wpAny (model X.prog X.w) X.A (eval a X.env) (fun v s₁ => wpAny (model X.prog X.w) X.A (eval b X.env) (fun u s₂ => wpAny (model X.prog X.w) X.A (f v u) Q X.xe s₂) X.xe s₁) X.xe s := by
  refine thn (ha pins s σ H _ I h) fun v s1 ⟨x, H1, I1, r1, q1⟩ => ?_
  refine thn (hb pins s1 σ H1 _ I1 q1) fun u s2 ⟨y, H2, I2, r2, q2⟩ => ?_
  exact hf v u s2 x y H2 I2 r1 r2 q2

theorem pe_op {op : Operator} {r : R2} (ho : OpR X (binaryOp op) r) (ha : PE X a ta) (hb : PE X b tb) : PE X (.BinOp a op b pos) (tOp r ta tb) := by
  intro pins s σ H Q I h
  exact wpAny_BinOp (binT ha hb I h fun v u s2 x y H2 I2 rx ry q => ho pins s2 σ H2 x y v u Q I2 rx ry q)
theorem pe_un {op : UnaryOp} {r : V → Hp → VK → Prop} (ho : UnR X (unaryOp op) r) (ha : PE X a ta) : PE X (.UnaryOp op a pos) (tUn r ta) := by
  intro pins s σ H Q I h
  exact UnaryOp_ (thn (ha pins s σ H _ I h) fun v s1 ⟨x, H1, I1, r1, q1⟩ => ho pins s1 σ H1 x v Q I1 r1 q1)
/-- a op= e at a name: the name's slot i -/
theorem augR {op : Operator} {r : R2} (ho : OpR X (inplaceOp op) r) {pins : List (Addr × Obj)} {s : Shared} {σ : St} {H : Hp} {x y : V} {v u : Value} {Q : VK} (I : Inv X pins σ H s)
    (rx : RelV x v) (ry : RelV y u) (q : r x y H Q) : wpAny (model X.prog X.w) X.A (inplaceOp op v u) (EP X pins σ Q) X.xe s := ho pins s σ H x y v u Q I rx ry q

/-! ### ints -/
theorem opI {f : Value → Value → Sem Value} {C : Int → Int → Prop} {g : Int → Int → Int}
    (rule : ∀ (i j : Int) (t u : Tok) (s : Shared) (Q : Value → Shared → Prop) (E : Value → Shared → Prop), C i j → Q (.int (g i j) s.toks) { s with toks := s.toks + 1 } → wpAny (model X.prog X.w) X.A (f (.int i t) (.int j u)) Q E s) :
    OpR X f (rI C fun i j => .int (g i j)) := by
  intro pins s σ H x y v u Q I rx ry h
  obtain ⟨i, j, rfl, rfl, hc, q⟩ := h
  obtain ⟨t, rfl⟩ := rx
  obtain ⟨t', rfl⟩ := ry
  exact rule i j t t' s _ _ hc ⟨.int (g i j), H, I.tok _, ⟨_, rfl⟩, q⟩
theorem opI0 {f : Value → Value → Sem Value} {g : Int → Int → Int}
    (rule : ∀ (i j : Int) (t u : Tok) (s : Shared) (Q : Value → Shared → Prop) (E : Value → Shared → Prop), Q (.int (g i j) s.toks) { s with toks := s.toks + 1 } → wpAny (model X.prog X.w) X.A (f (.int i t) (.int j u)) Q E s) :
    OpR X f (rI0 fun i j => .int (g i j)) := by
  intro pins s σ H x y v u Q I rx ry h
  obtain ⟨i, j, rfl, rfl, q⟩ := h
  obtain ⟨t, rfl⟩ := rx
  obtain ⟨t', rfl⟩ := ry
  exact rule i j t t' s _ _ ⟨.int (g i j), H, I.tok _, ⟨_, rfl⟩, q⟩
theorem opB0 {f : Value → Value → Sem Value} {g : Int → Int → Bool}
    (rule : ∀ (i j : Int) (t u : Tok) (s : Shared) (Q : Value → Shared → Prop) (E : Value → Shared → Prop), Q (.bool (g i j)) s → wpAny (model X.prog X.w) X.A (f (.int i t) (.int j u)) Q E s) :
    OpR X f (rI0 fun i j => .bl (g i j)) := by
  intro pins s σ H x y v u Q I rx ry h
  obtain ⟨i, j, rfl, rfl, q⟩ := h
  obtain ⟨t, rfl⟩ := rx
  obtain ⟨t', rfl⟩ := ry
  exact rule i j t t' s _ _ ⟨.bl (g i j), H, I, rfl, q⟩

def CDiv (i j : Int) : Prop := 0 < j ∧ j < 1073741824
def CDivN (i j : Int) : Prop := j ≠ 0 ∧ j.natAbs < 1073741824
def CPow (i j : Int) : Prop := 0 ≤ j ∧ j ≤ 1000000 ∧ i.natAbs < 2 ^ 64
def CMul (i j : Int) : Prop := (-(2 ^ 64) < i ∧ i < 2 ^ 64) ∨ (-(2 ^ 64) < j ∧ j < 2 ^ 64)
theorem CMul.ok {i j : Int} (h : CMul i j) : IntMulOk i j := by
  rcases h with ⟨h1, h2⟩ | ⟨h1, h2⟩
  · exact .of_left (intBits_le_64 h1 h2)
  · exact .of_right (intBits_le_64 h1 h2)
theorem two_pow_nn (k : Nat) : (0 : Int) ≤ 2 ^ k := by
  rw [two_pow_cast]
  exact Int.natCast_nonneg _

theorem op_add : OpR X (binaryOp .Add) (rI0 fun i j => .int (i + j)) := opI0 fun _ _ _ _ _ _ _ q => add_int q
theorem op_sub : OpR X (binaryOp .Sub) (rI0 fun i j => .int (i - j)) := opI0 fun _ _ _ _ _ _ _ q => sub_int q
theorem op_mul : OpR X (binaryOp .Mult) (rI CMul fun i j => .int (i * j)) := opI fun _ _ _ _ _ _ _ hc q => mul_int q hc.ok
/-- // by a positive divisor -/
theorem op_fdiv : OpR X (binaryOp .FloorDiv) (rI CDiv fun i j => .int (i / j)) := opI fun i j _ _ _ _ _ hc q => by
  have h1 : (0 : Int) < j := hc.1
  have h2 : j < 1073741824 := hc.2
  exact floordiv_int (by omega) (by rw [Int.fdiv_eq_ediv_of_nonneg i (by omega)]; exact q) (.inl (PyProof.noPylong_small (by omega)))
theorem op_fdivN : OpR X (binaryOp .FloorDiv) (rI CDivN fun i j => .int (i.fdiv j)) := opI fun _ _ _ _ _ _ _ hc q => floordiv_int hc.1 q (.inl (PyProof.noPylong_small hc.2))
/-- % by a positive divisor of any size -/
theorem op_mod : OpR X (binaryOp .Mod) (rI (fun _ j => 0 < j) fun i j => .int (i % j)) := opI fun i j _ _ _ _ _ hc q => by
  have h1 : (0 : Int) < j := hc
  exact mod_int' (by omega) (by rw [Int.fmod_eq_emod_of_nonneg i (by omega)]; exact q)
theorem op_modN : OpR X (binaryOp .Mod) (rI (fun _ j => j ≠ 0) fun i j => .int (i.fmod j)) := opI fun _ _ _ _ _ _ _ hc q => mod_int' hc q
theorem op_pow : OpR X (binaryOp .Pow) (rI CPow fun i j => .int (i ^ j.toNat)) := opI fun _ _ _ _ _ _ _ hc q => pow_int_small hc.1 hc.2.1 hc.2.2 q
theorem op_shl : OpR X (binaryOp .LShift) (rI CPow fun i j => .int (i * 2 ^ j.toNat)) := opI fun _ _ _ _ _ _ _ hc q => lshift_int_small hc.1 hc.2.1 hc.2.2 q
theorem op_shr : OpR X (binaryOp .RShift) (rI (fun _ j => 0 ≤ j) fun i j => .int (i / 2 ^ j.toNat)) := opI fun i j _ _ _ _ _ hc q =>
  rshift_int hc (by rw [Int.fdiv_eq_ediv_of_nonneg i (two_pow_nn _)]; exact q)
theorem op_and : OpR X (binaryOp .BitAnd) (rI0 fun i j => .int (Builtin.bitAnd i j)) := opI0 fun _ _ _ _ _ _ _ q => and_int q
theorem op_or : OpR X (binaryOp .BitOr) (rI0 fun i j => .int (Builtin.bitOr i j)) := opI0 fun _ _ _ _ _ _ _ q => or_int q
theorem op_xor : OpR X (binaryOp .BitXor) (rI0 fun i j => .int (Builtin.bitXor i j)) := opI0 fun _ _ _ _ _ _ _ q => xor_int q

theorem iop_add : OpR X (inplaceOp .Add) (rI0 fun i j => .int (i + j)) := opI0 fun _ _ _ _ _ _ _ q => iadd_int q
theorem iop_sub : OpR X (inplaceOp .Sub) (rI0 fun i j => .int (i - j)) := opI0 fun _ _ _ _ _ _ _ q => isub_int q
theorem iop_mul : OpR X (inplaceOp .Mult) (rI CMul fun i j => .int (i * j)) := opI fun _ _ _ _ _ _ _ hc q => imul_int q hc.ok
theorem iop_fdiv : OpR X (inplaceOp .FloorDiv) (rI CDiv fun i j => .int (i / j)) := opI fun i j _ _ _ _ _ hc q => by
  have h1 : (0 : Int) < j := hc.1
  have h2 : j < 1073741824 := hc.2
  exact ifloordiv_int (by omega) (by rw [Int.fdiv_eq_ediv_of_nonneg i (by omega)]; exact q) (.inl (PyProof.noPylong_small (by omega)))
theorem iop_mod : OpR X (inplaceOp .Mod) (rI (fun _ j => 0 < j) fun i j => .int (i % j)) := opI fun i j _ _ _ _ _ hc q => by
  have h1 : (0 : Int) < j := hc
  exact imod_int (by omega) (by rw [Int.fmod_eq_emod_of_nonneg i (by omega)]; exact q)
theorem iop_shl : OpR X (inplaceOp .LShift) (rI CPow fun i j => .int (i * 2 ^ j.toNat)) := opI fun _ _ _ _ _ _ _ hc q => ilshift_int_small hc.1 hc.2.1 hc.2.2 q
theorem iop_shr : OpR X (inplaceOp .RShift) (rI (fun _ j => 0 ≤ j) fun i j => .int (i / 2 ^ j.toNat)) := opI fun i j _ _ _ _ _ hc q =>
  irshift_int hc (by rw [Int.fdiv_eq_ediv_of_nonneg i (two_pow_nn _)]; exact q)
theorem iop_and : OpR X (inplaceOp .BitAnd) (rI0 fun i j => .int (Builtin.bitAnd i j)) := opI0 fun _ _ _ _ _ _ _ q => iand_int q
theorem iop_or : OpR X (inplaceOp .BitOr) (rI0 fun i j => .int (Builtin.bitOr i j)) := opI0 fun _ _ _ _ _ _ _ q => ior_int q
theorem iop_xor : OpR X (inplaceOp .BitXor) (rI0 fun i j => .int (Builtin.bitXor i j)) := opI0 fun _ _ _ _ _ _ _ q => ixor_int q

theorem unI {f : Value → Sem Value} {g : Int → Int}
    (rule : ∀ (i : Int) (t : Tok) (s : Shared) (Q : Value → Shared → Prop) (E : Value → Shared → Prop), Q (.int (g i) s.toks) { s with toks := s.toks + 1 } → wpAny (model X.prog X.w) X.A (f (.int i t)) Q E s) :
    UnR X f (rU fun i => .int (g i)) := by
  intro pins s σ H x v Q I rx h
  obtain ⟨i, rfl, q⟩ := h
  obtain ⟨t, rfl⟩ := rx
  exact rule i t s _ _ ⟨.int (g i), H, I.tok _, ⟨_, rfl⟩, q⟩
theorem un_neg : UnR X (unaryOp .USub) (rU fun i => .int (-i)) := unI fun _ _ _ _ _ q => neg_int q
theorem un_inv : UnR X (unaryOp .Invert) (rU fun i => .int (Builtin.bitNot i)) := unI fun _ _ _ _ _ q => invert_int q

/-! ### bools among ints: n += (a < b) -/
theorem op_add_ib : OpR X (binaryOp .Add) (fun x y H Q => ∃ i k, x = .int i ∧ y = .bl k ∧ Q (.int (i + b2i k)) H) := by
  intro pins s σ H x y v u Q I rx ry h
  obtain ⟨i, k, rfl, rfl, q⟩ := h
  obtain ⟨t, rfl⟩ := rx
  cases ry
  exact add_int_bool ⟨.int (i + b2i k), H, I.tok _, ⟨_, rfl⟩, q⟩
end

/-! ### comparisons -/
/-- the scalars that == tells apart as data does -/
def scal : V → V → Bool
  | .non, .non => true | .non, .int _ => true | .int _, .non => true | .non, .bl _ => true | .bl _, .non => true | .non, .str _ => true | .str _, .non => true
  | .int _, .int _ => true | .bl _, .bl _ => true | .str _, .str _ => true | .byt _, .byt _ => true
  | .int _, .str _ => true | .str _, .int _ => true | .bl _, .str _ => true | .str _, .bl _ => true
  | _, _ => false
def rEq : R2 := fun x y H Q => scal x y = true ∧ Q (.bl (decide (x = y))) H
def rNe : R2 := fun x y H Q => scal x y = true ∧ Q (.bl (!decide (x = y))) H

theorem dec_int {i j : Int} : decide (V.int i = V.int j) = (i == j) := by
  rw [Bool.eq_iff_iff]
  simp
theorem dec_bl {i j : Bool} : decide (V.bl i = V.bl j) = (i == j) := by
  rw [Bool.eq_iff_iff]
  simp
theorem dec_str {i j : Str} : decide (V.str i = V.str j) = (i == j) := by
  rw [Bool.eq_iff_iff]
  simp
theorem dec_byt {i j : Array UInt8} : decide (V.byt i = V.byt j) = (i.toList == j.toList) := by
  rw [Bool.eq_iff_iff]
  cases i
  cases j
  simp

section
variable {X : Cx} {a b c : Expr} {ta tb tc : TE} {pos : Pos}
theorem fin_bl {pins : List (Addr × Obj)} {σ : St} {H : Hp} {s : Shared} {Q : VK} {k k' : Bool} (I : Inv X pins σ H s) (q : Q (.bl k) H) (e : k = k') : EP X pins σ Q (.bool k') s := by
  subst e
  exact ⟨.bl k, H, I, rfl, q⟩
theorem op_eq : OpR X (compareOp .Eq) rEq := by
  intro pins s σ H x y v u Q I rx ry h
  obtain ⟨hs, q⟩ := h
  cases x with
  | non =>
    cases rx
    cases y with
    | non => cases ry; exact PySem.EqNone.eq_none_none (fin_bl I q (by simp))
    | bl j => cases ry; exact PySem.EqNone.eq_none_bool (fin_bl I q (by simp))
    | int j => obtain ⟨t', rfl⟩ := ry; exact PySem.EqNone.eq_none_int (fin_bl I q (by simp))
    | str j => obtain ⟨t', rfl⟩ := ry; exact PySem.EqNone.eq_none_str (fin_bl I q (by simp))
    | _ => exact absurd (show false = true from hs) Bool.false_ne_true
  | bl i =>
    cases rx
    cases y with
    | non => cases ry; exact PySem.EqNone.eq_bool_none (fin_bl I q (by simp))
    | bl j => cases ry; exact eq_bool (fin_bl I q dec_bl)
    | str j => obtain ⟨t', rfl⟩ := ry; exact PySem.EqMixed.eq_bool_str (fin_bl I q (by simp))
    | _ => exact absurd (show false = true from hs) Bool.false_ne_true
  | int i =>
    obtain ⟨t, rfl⟩ := rx
    cases y with
    | non => cases ry; exact PySem.EqNone.eq_int_none (fin_bl I q (by simp))
    | int j => obtain ⟨t', rfl⟩ := ry; exact eq_int (fin_bl I q dec_int)
    | str j => obtain ⟨t', rfl⟩ := ry; exact PySem.EqMixed.eq_int_str (fin_bl I q (by simp))
    | _ => exact absurd (show false = true from hs) Bool.false_ne_true
  | str i =>
    obtain ⟨t, rfl⟩ := rx
    cases y with
    | non => cases ry; exact PySem.EqNone.eq_str_none (fin_bl I q (by simp))
    | bl j => cases ry; exact PySem.EqMixed.eq_str_bool (fin_bl I q (by simp))
    | int j => obtain ⟨t', rfl⟩ := ry; exact PySem.EqMixed.eq_str_int (fin_bl I q (by simp))
    | str j => obtain ⟨t', rfl⟩ := ry; exact eq_str (fin_bl I q dec_str)
    | _ => exact absurd (show false = true from hs) Bool.false_ne_true
  | byt i =>
    obtain ⟨t, rfl⟩ := rx
    cases y with
    | byt j => obtain ⟨t', rfl⟩ := ry; exact PySem.W.eq_bytes (fin_bl I q dec_byt)
    | _ => exact absurd (show false = true from hs) Bool.false_ne_true
  | _ => cases y <;> exact absurd (show false = true from hs) Bool.false_ne_true
theorem op_ne : OpR X (compareOp .NotEq) rNe := by
  intro pins s σ H x y v u Q I rx ry h
  obtain ⟨hs, q⟩ := h
  cases x with
  | non =>
    cases rx
    cases y with
    | non => cases ry; exact PySem.EqNone.ne_none_none (fin_bl I q (by simp))
    | bl j => cases ry; exact PySem.EqNone.ne_none_bool (fin_bl I q (by simp))
    | int j => obtain ⟨t', rfl⟩ := ry; exact PySem.EqNone.ne_none_int (fin_bl I q (by simp))
    | str j => obtain ⟨t', rfl⟩ := ry; exact PySem.EqNone.ne_none_str (fin_bl I q (by simp))
    | _ => exact absurd (show false = true from hs) Bool.false_ne_true
  | bl i =>
    cases rx
    cases y with
    | non => cases ry; exact PySem.EqNone.ne_bool_none (fin_bl I q (by simp))
    | bl j => cases ry; exact ne_bool (fin_bl I q (congrArg not dec_bl))
    | str j => obtain ⟨t', rfl⟩ := ry; exact PySem.EqMixed.ne_bool_str (fin_bl I q (by simp))
    | _ => exact absurd (show false = true from hs) Bool.false_ne_true
  | int i =>
    obtain ⟨t, rfl⟩ := rx
    cases y with
    | non => cases ry; exact PySem.EqNone.ne_int_none (fin_bl I q (by simp))
    | int j => obtain ⟨t', rfl⟩ := ry; exact ne_int (fin_bl I q (congrArg not dec_int))
    | str j => obtain ⟨t', rfl⟩ := ry; exact PySem.EqMixed.ne_int_str (fin_bl I q (by simp))
    | _ => exact absurd (show false = true from hs) Bool.false_ne_true
  | str i =>
    obtain ⟨t, rfl⟩ := rx
    cases y with
    | non => cases ry; exact PySem.EqNone.ne_str_none (fin_bl I q (by simp))
    | bl j => cases ry; exact PySem.EqMixed.ne_str_bool (fin_bl I q (by simp))
    | int j => obtain ⟨t', rfl⟩ := ry; exact PySem.EqMixed.ne_str_int (fin_bl I q (by simp))
    | str j => obtain ⟨t', rfl⟩ := ry; exact ne_str (fin_bl I q (congrArg not dec_str))
    | _ => exact absurd (show false = true from hs) Bool.false_ne_true
  | byt i =>
    obtain ⟨t, rfl⟩ := rx
    cases y with
    | byt j => obtain ⟨t', rfl⟩ := ry; exact PySem.W.ne_bytes (fin_bl I q (congrArg not dec_byt))
    | _ => exact absurd (show false = true from hs) Bool.false_ne_true
  | _ => cases y <;> exact absurd (show false = true from hs) Bool.false_ne_true

theorem op_lt : OpR X (compareOp .Lt) (rI0 fun i j => .bl (decide (i < j))) := opB0 fun _ _ _ _ _ _ _ q => lt_int q
theorem op_le : OpR X (compareOp .LtE) (rI0 fun i j => .bl (decide (i ≤ j))) := opB0 fun _ _ _ _ _ _ _ q => le_int q
theorem op_gt : OpR X (compareOp .Gt) (rI0 fun i j => .bl (decide (j < i))) := opB0 fun _ _ _ _ _ _ _ q => gt_int q
theorem op_ge : OpR X (compareOp .GtE) (rI0 fun i j => .bl (decide (j ≤ i))) := opB0 fun _ _ _ _ _ _ _ q => ge_int q
theorem op_lt_str : OpR X (compareOp .Lt) (fun x y H Q => ∃ i j, x = .str i ∧ y = .str j ∧ Q (.bl (decide (i.cps.toList < j.cps.toList))) H) := by
  intro pins s σ H x y v u Q I rx ry h
  obtain ⟨i, j, rfl, rfl, q⟩ := h
  obtain ⟨t, rfl⟩ := rx
  obtain ⟨t', rfl⟩ := ry
  exact lt_str (fin_bl I q rfl)
/-- the one string within the other -/
theorem op_in_str : OpR X (compareOp .In) (fun x y H Q => ∃ i j, x = .str i ∧ y = .str j ∧ Q (.bl (!(Builtin.Str.occurrences j i 0 j.length 1).isEmpty)) H) := by
  intro pins s σ H x y v u Q I rx ry h
  obtain ⟨i, j, rfl, rfl, q⟩ := h
  obtain ⟨t, rfl⟩ := rx
  obtain ⟨t', rfl⟩ := ry
  exact in_str (fin_bl I q rfl)

/-- is None, is not None: the right side a value none -/
theorem op_isN : OpR X (compareOp .Is) (fun x y H Q => y = .non ∧ Q (.bl (decide (x = .non))) H) := by
  intro pins s σ H x y v u Q I rx ry h
  obtain ⟨rfl, q⟩ := h
  cases ry
  refine is_none_gen (fin_bl I q ?_)
  cases x <;> first
    | (cases rx; rfl)
    | (obtain ⟨t, rfl⟩ := rx; rfl)
theorem op_notN : OpR X (compareOp .IsNot) (fun x y H Q => y = .non ∧ Q (.bl (!decide (x = .non))) H) := by
  intro pins s σ H x y v u Q I rx ry h
  obtain ⟨rfl, q⟩ := h
  cases ry
  refine isnot_none_gen (fin_bl I q ?_)
  cases x <;> first
    | (cases rx; rfl)
    | (obtain ⟨t, rfl⟩ := rx; rfl)

theorem op_notin_str : OpR X (compareOp .NotIn) (fun x y H Q => ∃ i j, x = .str i ∧ y = .str j ∧ Q (.bl (!(!(Builtin.Str.occurrences j i 0 j.length 1).isEmpty))) H) := by
  intro pins s σ H x y v u Q I rx ry h
  obtain ⟨i, j, rfl, rfl, q⟩ := h
  obtain ⟨t, rfl⟩ := rx
  obtain ⟨t', rfl⟩ := ry
  exact notIn_str (fin_bl I q rfl)
/-- is, is not of two objects that are tracked lists or instances -/
def isObj : HO → Bool
  | .lst _ => true
  | .ins _ _ _ => true
  | _ => false
theorem obj_there {pins : List (Addr × Obj)} {s : Shared} {σ : St} {H : Hp} {a : Addr} {o : HO} (I : Inv X pins σ H s) (h : H a = some o) (p : isObj o = true) : ∃ ob, s.heap.get? a = some ob ∧ ob.cls ≠ .type "tuple" := by
  cases o with
  | lst xs =>
    obtain ⟨_, its, n, _, e⟩ : xs.length ≤ sizeLine ∧ ∃ (its : List Value) (n : Nat), Vals xs its ∧ s.heap.get? a = some { cls := .type "list", data := .seq its.toArray n } := I.hok a _ h
    exact ⟨_, e, (by show Value.type "list" ≠ .type "tuple"; decide +kernel)⟩
  | ins C dx fs =>
    have x := I.hok a _ h
    obtain ⟨_, _, _, e, _⟩ := x
    exact ⟨_, e, (by show Value.ref C ≠ .type "tuple"; exact fun z => by cases z)⟩
  | _ => exact absurd (show false = true from p) Bool.false_ne_true
theorem op_is_ref : OpR X (compareOp .Is) (fun x y H Q => ∃ a b oa ob, x = .ref a ∧ y = .ref b ∧ H a = some oa ∧ isObj oa = true ∧ H b = some ob ∧ isObj ob = true ∧ Q (.bl (decide (a = b))) H) := by
  intro pins s σ H x y v u Q I rx ry h
  obtain ⟨a, b, oa, ob, rfl, rfl, ha, pa, hb, pb, q⟩ := h
  cases rx
  cases ry
  obtain ⟨o1, e1, n1⟩ := obj_there I ha pa
  obtain ⟨o2, e2, _⟩ := obj_there I hb pb
  by_cases z : a = b
  · subst z
    exact wpAny_is_ref_self (fin_bl I q (by simp))
  · exact wpAny_is_ref_other z e1 e2 n1 (fin_bl I q (by simp [z]))
theorem op_isnot_ref : OpR X (compareOp .IsNot) (fun x y H Q => ∃ a b oa ob, x = .ref a ∧ y = .ref b ∧ H a = some oa ∧ isObj oa = true ∧ H b = some ob ∧ isObj ob = true ∧ Q (.bl (!decide (a = b))) H) := by
  intro pins s σ H x y v u Q I rx ry h
  obtain ⟨a, b, oa, ob, rfl, rfl, ha, pa, hb, pb, q⟩ := h
  cases rx
  cases ry
  obtain ⟨o1, e1, n1⟩ := obj_there I ha pa
  obtain ⟨o2, e2, _⟩ := obj_there I hb pb
  by_cases z : a = b
  · subst z
    exact wpAny_isNot_ref_self (fin_bl I q (by simp))
  · exact wpAny_isNot_ref_other z e1 e2 n1 (fin_bl I q (by simp [z]))

/-- two rules for one operation: by cases -/
theorem OpR.or {f : Value → Value → Sem Value} {r r' : R2} (h : OpR X f r) (h' : OpR X f r') : OpR X f (fun x y H Q => r x y H Q ∨ r' x y H Q) := by
  intro pins s σ H x y v u Q I rx ry q
  rcases q with q | q
  · exact h pins s σ H x y v u Q I rx ry q
  · exact h' pins s σ H x y v u Q I rx ry q

theorem nomark (b : Expr) {op : CmpOp} (h : op ≠ .In := by decide) (h2 : op ≠ .NotIn := by decide) : behindInMarks op b = false := by
  have e1 : (op == CmpOp.In) = false := by cases op <;> first | rfl | exact absurd rfl h
  have e2 : (op == CmpOp.NotIn) = false := by cases op <;> first | rfl | exact absurd rfl h2
  cases b <;> simp [behindInMarks, e1, e2]
/-- a comparison as a value; hm: nomark b, or (for in, not in) by with_unfolding_all rfl -/
theorem pe_cmpR {op : CmpOp} {r : R2} (ho : OpR X (compareOp op) r) (ha : PE X a ta) (hb : PE X b tb) (hm : behindInMarks op b = false) : PE X (.Compare a [op] [b] pos) (tOp r ta tb) := by
  intro pins s σ H Q I h
  exact wpAny_Compare1 (binT ha hb I h fun v u s2 x y H2 I2 rx ry q => ho pins s2 σ H2 x y v u Q I2 rx ry q) hm
/-- a reading of a value as a test -/
def tTest (t : TE) : TT := fun σ H Q => t σ H fun x H' => ∃ k, x = .bl k ∧ Q k H'
theorem pt_cmpR {op : CmpOp} {r : R2} (ho : OpR X (compareOp op) r) (ha : PE X a ta) (hb : PE X b tb) (hm : behindInMarks op b = false) : PT X (.Compare a [op] [b] pos) (tTest (tOp r ta tb)) := by
  intro pins s σ H Q I h
  refine wpAny_isTrue_Compare1 (thn (ha pins s σ H _ I h) fun v s1 ⟨x, H1, I1, r1, q1⟩ => thn (hb pins s1 σ H1 _ I1 q1) fun u s2 ⟨y, H2, I2, r2, q2⟩ =>
    thn (ho pins s2 σ H2 x y v u _ I2 r1 r2 q2) fun c s3 ⟨z, H3, I3, r3, k, e, q3⟩ => ?_) hm
  subst e
  cases r3
  exact wpAny_truthy_bool ⟨H3, I3, q3⟩
/-- a op1 b op2 c -/
def tChain (r r' : R2) (ta tb tc : TE) : TE := fun σ H Q => ta σ H fun x H1 => tb σ H1 fun y H2 => r x y H2 fun z H3 => ∃ k, z = .bl k ∧
  (if k = true then tc σ H3 fun w' H4 => r' y w' H4 Q else Q (.bl false) H3)
theorem pe_chain {op op' : CmpOp} {r r' : R2} (ho : OpR X (compareOp op) r) (ho' : OpR X (compareOp op') r') (ha : PE X a ta) (hb : PE X b tb) (hc : PE X c tc)
    (hm : lastMarks [op, op'] [b, c] = false := by with_unfolding_all rfl) : PE X (.Compare a [op, op'] [b, c] pos) (tChain r r' ta tb tc) := by
  intro pins s σ H Q I h
  refine Compare_chain (thn (ha pins s σ H _ I h) fun v s1 ⟨x, H1, I1, r1, q1⟩ => chain_link (thn (hb pins s1 σ H1 _ I1 q1) fun u s2 ⟨y, H2, I2, r2, q2⟩ =>
    thn (ho pins s2 σ H2 x y v u _ I2 r1 r2 q2) fun d s3 ⟨z, H3, I3, r3, k, e, q3⟩ => ?_)) hm
  subst e
  cases r3
  refine wpAny_truthy_bool ?_
  cases k with
  | false => exact ite_ff ⟨.bl false, H3, I3, rfl, q3⟩
  | true => exact ite_tt (chain_last (thn (hc pins s3 σ H3 _ I3 q3) fun w' s4 ⟨z', H4, I4, r4, q4⟩ => ho' pins s4 σ H4 y z' u w' Q I4 r2 r4 q4))
theorem pt_chain {op op' : CmpOp} {r r' : R2} (ho : OpR X (compareOp op) r) (ho' : OpR X (compareOp op') r') (ha : PE X a ta) (hb : PE X b tb) (hc : PE X c tc)
    (hm : lastMarks [op, op'] [b, c] = false := by with_unfolding_all rfl) : PT X (.Compare a [op, op'] [b, c] pos) (tTest (tChain r r' ta tb tc)) := by
  intro pins s σ H Q I h
  refine isTrue_chain (thn (ha pins s σ H _ I h) fun v s1 ⟨x, H1, I1, r1, q1⟩ => test_link (thn (hb pins s1 σ H1 _ I1 q1) fun u s2 ⟨y, H2, I2, r2, q2⟩ =>
    thn (ho pins s2 σ H2 x y v u _ I2 r1 r2 q2) fun d s3 ⟨z, H3, I3, r3, k, e, q3⟩ => ?_)) hm
  subst e
  cases r3
  refine wpAny_truthy_bool ?_
  cases k with
  | false =>
    obtain ⟨k', e', q'⟩ := q3
    cases e'
    exact ite_ff ⟨H3, I3, q'⟩
  | true =>
    refine ite_tt (test_last (thn (hc pins s3 σ H3 _ I3 q3) fun w' s4 ⟨z', H4, I4, r4, q4⟩ => thn (ho' pins s4 σ H4 y z' u w' _ I4 r2 r4 q4) fun d' s5 ⟨z2, H5, I5, r5, k2, e2, q5⟩ => ?_))
    subst e2
    cases r5
    exact wpAny_truthy_bool ⟨H5, I5, q5⟩

/-! ### truth -/
/-- a value's truth by the abstract heap -/
def TruV (K : PySem.W.Frag) (x : V) (H : Hp) (k : Bool) : Prop :=
  match x with
  | .non => k = false
  | .bl b => k = b
  | .int i => k = (i != 0)
  | .str y => y.length ≤ sizeLine ∧ k = ((y.length : Int) != 0)
  | .byt y => y.size ≤ sizeLine ∧ k = ((y.size : Int) != 0)
  | .ref p => (∃ xs, SqL K H p xs ∧ k = !xs.isEmpty) ∨ (∃ xs, SqT K H p xs ∧ k = !xs.isEmpty) ∨ ∃ kvs, H p = some (.dK kvs) ∧ k = !kvs.isEmpty
  | _ => False
theorem isEmpty_kv {κ : Type} {kvs : List (κ × V)} {vs : List (κ × Value)} (r : KV kvs vs) : (!vs.isEmpty) = !kvs.isEmpty := by
  cases r <;> rfl
theorem isEmpty_of {xs : List V} {its : List Value} (r : Vals xs its) : (!its.toArray.isEmpty) = !xs.isEmpty := by
  cases r <;> simp
theorem line63 : (sizeLine : Nat) < 2 ^ 63 := by rw [sizeLine_eq]; decide
theorem tru_ok : TruR X (fun x H Q => ∃ k, TruV X.K x H k ∧ Q k H) := by
  intro pins s σ H x v Q I rx h
  obtain ⟨k, e, q⟩ := h
  have hl := line63
  have hs : sizeLine = 16777216 := sizeLine_eq
  cases x with
  | non =>
    cases rx
    have e' : k = false := e
    subst e'
    exact truthy_none ⟨H, I, q⟩
  | bl b =>
    cases rx
    have e' : k = b := e
    subst e'
    exact wpAny_truthy_bool ⟨H, I, q⟩
  | int i =>
    obtain ⟨t, rfl⟩ := rx
    have e' : k = (i != 0) := e
    subst e'
    exact PySem.P.truthy_int ⟨H, I, q⟩
  | str y =>
    obtain ⟨t, rfl⟩ := rx
    obtain ⟨hy, e'⟩ : y.length ≤ sizeLine ∧ k = ((y.length : Int) != 0) := e
    subst e'
    exact PySem.P.truthy_str (by omega) ⟨H, I.tok _, q⟩
  | byt y =>
    obtain ⟨t, rfl⟩ := rx
    obtain ⟨hy, e'⟩ : y.size ≤ sizeLine ∧ k = ((y.size : Int) != 0) := e
    subst e'
    exact PySem.W.truthy_bytes (by omega) ⟨H, I.tok _, q⟩
  | ref p =>
    cases rx
    have e' : (∃ xs, SqL X.K H p xs ∧ k = !xs.isEmpty) ∨ (∃ xs, SqT X.K H p xs ∧ k = !xs.isEmpty) ∨ ∃ kvs, H p = some (.dK kvs) ∧ k = !kvs.isEmpty := e
    rcases e' with ⟨xs, hx, e'⟩ | ⟨xs, hx, e'⟩ | ⟨kvs, hx, e'⟩
    · subst e'
      obtain ⟨its, r, pl, hz⟩ := I.list hx
      have hlen := r.length
      exact wpAny_truthy_list pl.isList (by simp only [List.size_toArray]; omega) ⟨H, I.tok _, by rw [isEmpty_of r]; exact q⟩
    · subst e'
      obtain ⟨its, r, pl, hz⟩ := I.tuple hx
      have hlen := r.length
      exact truthy_tuple pl (by simp only [List.size_toArray]; omega) ⟨H, I.tok _, by rw [isEmpty_of r]; exact q⟩
    · subst e'
      obtain ⟨hz, hS, vs, r, m⟩ : kvs.length ≤ sizeLine ∧ (p == sysModules) = false ∧ ∃ vs, KV kvs vs ∧ s.heap.DictOf (mixKind X.prog X.w) p vs := I.hok p _ hx
      have hlen : kvs.length = vs.length := Paired.length r
      exact wpAny_truthy_dict hS m (by omega) ⟨H, I.tok _, by rw [isEmpty_kv r]; exact q⟩
  | _ => exact (show False from e).elim
/-- any expression whose test is its value's truth (a name, a call, a subscript, a field ..: he by fun _ => rfl) -/
theorem pt_truth (ha : PE X a ta) (he : ∀ whole, isTrue a X.env whole = (do let v ← whole; standAt a.pos; holding [v] (truthy v))) :
    PT X a (fun σ H Q => ta σ H fun x H' => ∃ k, TruV X.K x H' k ∧ Q k H') := by
  intro pins s σ H Q I h
  exact isTrue_plain (thn (ha pins s σ H _ I h) fun v s1 ⟨x, H1, I1, r1, q1⟩ => tru_ok pins s1 σ H1 x v Q I1 r1 q1) (he _)

/-! ### strs and bytes -/
theorem pe_byt {x : List UInt8} {k : Nat} : PE X (.Constant (.bytes x) k pos) (fun _ H Q => Q (.byt x.toArray) H) := fun _ _ _ H _ I h => PySem.W.Constant_bytes ⟨.byt x.toArray, H, I.tok _, ⟨_, rfl⟩, h⟩
theorem op_add_str : OpR X (binaryOp .Add) (fun x y H Q => ∃ i j, x = .str i ∧ y = .str j ∧ i.length + j.length ≤ sizeLine ∧ Q (.str (i ++ j)) H) := by
  intro pins s σ H x y v u Q I rx ry h
  obtain ⟨i, j, rfl, rfl, hz, q⟩ := h
  obtain ⟨t, rfl⟩ := rx
  obtain ⟨t', rfl⟩ := ry
  exact add_str (fun t' tk => ⟨.str (i ++ j), H, I.tok _, ⟨_, rfl⟩, q⟩) hz
theorem iop_add_str : OpR X (inplaceOp .Add) (fun x y H Q => ∃ i j, x = .str i ∧ y = .str j ∧ i.length + j.length ≤ sizeLine ∧ Q (.str (i ++ j)) H) := by
  intro pins s σ H x y v u Q I rx ry h
  obtain ⟨i, j, rfl, rfl, hz, q⟩ := h
  obtain ⟨t, rfl⟩ := rx
  obtain ⟨t', rfl⟩ := ry
  exact iadd_str (fun t' tk => ⟨.str (i ++ j), H, I.tok _, ⟨_, rfl⟩, q⟩) hz
theorem op_add_byt : OpR X (binaryOp .Add) (fun x y H Q => ∃ i j, x = .byt i ∧ y = .byt j ∧ i.size + j.size ≤ 16777216 ∧ Q (.byt (i ++ j)) H) := by
  intro pins s σ H x y v u Q I rx ry h
  obtain ⟨i, j, rfl, rfl, hz, q⟩ := h
  obtain ⟨t, rfl⟩ := rx
  obtain ⟨t', rfl⟩ := ry
  exact PySem.W.KBy.add_bytes hz (fun t' tk => ⟨.byt (i ++ j), H, I.tok _, ⟨_, rfl⟩, q⟩)

def PlainIxT (b : Expr) : Prop := ∀ o i, subscripted b false o i = operate [o, i] (getItem o i)
/-- s[i], 0 ≤ i < len -/
theorem pe_item_str (ha : PE X a ta) (hb : PE X b tb) (hs : PlainIxT b) :
    PE X (.Subscript a b pos) (tOp (fun x y H Q => ∃ z i c, x = .str z ∧ y = .int i ∧ 0 ≤ i ∧ i < 2 ^ 63 ∧ i < z.length ∧ z.cps[i.toNat]? = some c ∧ Q (.str ⟨#[c]⟩) H) ta tb) := by
  intro pins s σ H Q I h
  refine Subscript_ (binT ha hb I h fun v u s2 x y H2 I2 rx ry q => ?_)
  obtain ⟨z, i, c, rfl, rfl, h0, h63, h1, hc, q⟩ := q
  obtain ⟨t, rfl⟩ := rx
  obtain ⟨t', rfl⟩ := ry
  have e : seqIndex? i z.length = some i.toNat := PySem.StrLaws.seqIndex_nonneg h0 h1
  exact tail_any (typeIs_str s2 z t) slot_str_getitem.lookup (getItem_str (c := c) (by
    have e1 : decide (i < -(2 ^ 63 : Int)) = false := decide_eq_false (by omega)
    have e2 : decide (i ≥ 2 ^ 63) = false := decide_eq_false (by omega)
    rw [e1, e2] <;> rfl) (by rw [e]; exact hc) ⟨.str ⟨#[c]⟩, H2, I2.tok _, ⟨_, rfl⟩, q⟩) (hs _ _)
/-- b[i], 0 ≤ i < len -/
theorem pe_item_byt (ha : PE X a ta) (hb : PE X b tb) (hs : PlainIxT b) :
    PE X (.Subscript a b pos) (tOp (fun x y H Q => ∃ (z : List UInt8) (i : Int), x = .byt z.toArray ∧ y = .int i ∧ z.length ≤ sizeLine ∧ 0 ≤ i ∧ i < z.length ∧ Q (.int ((z.getD i.toNat 0).toNat : Nat)) H) ta tb) := by
  intro pins s σ H Q I h
  refine Subscript_ (binT ha hb I h fun v u s2 x y H2 I2 rx ry q => ?_)
  obtain ⟨z, i, rfl, rfl, hz, h0, h1, q⟩ := q
  obtain ⟨t, rfl⟩ := rx
  obtain ⟨t', rfl⟩ := ry
  have hl : sizeLine = 16777216 := sizeLine_eq
  exact tail_any (PySem.W.typeIs_bytes s2 z.toArray t) PySem.W.FB.slot_bytes_getitem.lookup (PySem.W.getItem_bytes (by omega) h0 h1 ⟨.int ((z.getD i.toNat 0).toNat : Nat), H2, I2.tok _, ⟨_, rfl⟩, q⟩) (hs _ _)

/-! ### scalar builtins, by CallR -/
theorem vals1 {x : V} {us : List Value} (r : Vals [x] us) : ∃ u, us = [u] ∧ RelV x u := by
  cases r with
  | cons r1 r2 => cases r2; exact ⟨_, rfl, r1⟩
theorem vals2 {x y : V} {us : List Value} (r : Vals [x, y] us) : ∃ u w', us = [u, w'] ∧ RelV x u ∧ RelV y w' := by
  cases r with
  | cons r1 r2 =>
    cases r2 with
    | cons r3 r4 => cases r4; exact ⟨_, _, rfl, r1, r3⟩
theorem call_abs : CallR X (.builtin "abs") (fun xs H Q => ∃ i, xs = [.int i] ∧ Q (.int (if i < 0 then -i else i)) H) := by
  intro pins s σ H xs us Q I r h
  obtain ⟨i, rfl, q⟩ := h
  obtain ⟨u, rfl, t, rfl⟩ := vals1 r
  exact call_abs_int fun u tk => ⟨.int (if i < 0 then -i else i), H, I.tok _, ⟨_, rfl⟩, q⟩
theorem call_max2 (hc : X.calm = true) : CallR X (.builtin "max") (fun xs H Q => ∃ i j, xs = [.int i, .int j] ∧ Q (.int (if j > i then j else i)) H) := by
  intro pins s σ H xs us Q I r h
  obtain ⟨i, j, rfl, q⟩ := h
  obtain ⟨u, w', rfl, ⟨t, rfl⟩, ⟨t', rfl⟩⟩ := vals2 r
  refine max_two_ints (I.ok.hd hc) fun h' tk k => ⟨_, H, I.kept k, ?_, q⟩
  by_cases hj : j > i
  · rw [if_pos hj, if_pos hj]; exact ⟨_, rfl⟩
  · rw [if_neg hj, if_neg hj]; exact ⟨_, rfl⟩
theorem call_min2 (hc : X.calm = true) : CallR X (.builtin "min") (fun xs H Q => ∃ i j, xs = [.int i, .int j] ∧ Q (.int (if j < i then j else i)) H) := by
  intro pins s σ H xs us Q I r h
  obtain ⟨i, j, rfl, q⟩ := h
  obtain ⟨u, w', rfl, ⟨t, rfl⟩, ⟨t', rfl⟩⟩ := vals2 r
  refine min_two_ints (I.ok.hd hc) fun h' tk k => ⟨_, H, I.kept k, ?_, q⟩
  by_cases hj : j < i
  · rw [if_pos hj, if_pos hj]; exact ⟨_, rfl⟩
  · rw [if_neg hj, if_neg hj]; exact ⟨_, rfl⟩
theorem call_int1 : CallR X (.type "int") (fun xs H Q => (∃ i, xs = [.int i] ∧ Q (.int i) H) ∨ ∃ k, xs = [.bl k] ∧ Q (.int (if k then 1 else 0)) H) := by
  intro pins s σ H xs us Q I r h
  rcases h with ⟨i, rfl, q⟩ | ⟨k, rfl, q⟩
  · obtain ⟨u, rfl, t, rfl⟩ := vals1 r
    exact call_int_int ⟨.int i, H, I, ⟨_, rfl⟩, q⟩
  · obtain ⟨u, rfl, r1⟩ := vals1 r
    cases r1
    exact call_int_bool ⟨.int (if k then 1 else 0), H, I.tok _, ⟨_, rfl⟩, q⟩
theorem call_bool1 : CallR X (.type "bool") (fun xs H Q => (∃ i, xs = [.int i] ∧ Q (.bl (i != 0)) H) ∨ ∃ k, xs = [.bl k] ∧ Q (.bl k) H) := by
  intro pins s σ H xs us Q I r h
  rcases h with ⟨i, rfl, q⟩ | ⟨k, rfl, q⟩
  · obtain ⟨u, rfl, t, rfl⟩ := vals1 r
    exact call_bool_int ⟨.bl (i != 0), H, I, rfl, q⟩
  · obtain ⟨u, rfl, r1⟩ := vals1 r
    cases r1
    exact call_bool_bool ⟨.bl k, H, I, rfl, q⟩
theorem call_str_int : CallR X (.type "str") (fun xs H Q => ∃ i, xs = [.int i] ∧ i.natAbs.log2 < 1920 ∧ Q (.str (toString i)) H) := by
  intro pins s σ H xs us Q I r h
  obtain ⟨i, rfl, hz, q⟩ := h
  obtain ⟨u, rfl, t, rfl⟩ := vals1 r
  exact PySem.P.str_of_int hz ⟨.str _, H, I.tok _, ⟨_, rfl⟩, q⟩
theorem call_ord : CallR X (.builtin "ord") (fun xs H Q => ∃ x, xs = [.str x] ∧ x.length = 1 ∧ Q (.int (x.cps.getD 0 0 : Nat)) H) := by
  intro pins s σ H xs us Q I r h
  obtain ⟨x, rfl, hz, q⟩ := h
  obtain ⟨u, rfl, t, rfl⟩ := vals1 r
  exact ord_of_one hz ⟨.int _, H, I.tok _, ⟨_, rfl⟩, q⟩
theorem call_chr : CallR X (.builtin "chr") (fun xs H Q => ∃ i, xs = [.int i] ∧ 0 ≤ i ∧ i ≤ 1114111 ∧ Q (.str ⟨#[i.toNat]⟩) H) := by
  intro pins s σ H xs us Q I r h
  obtain ⟨i, rfl, h0, h1, q⟩ := h
  obtain ⟨u, rfl, t, rfl⟩ := vals1 r
  exact chr_of_range h0 h1 ⟨.str _, H, I.tok _, ⟨_, rfl⟩, q⟩
/-- len of a str, a bytes, a list, a tuple -/
def LenV (K : PySem.W.Frag) (x : V) (H : Hp) (n : Nat) : Prop :=
  match x with
  | .str y => y.length ≤ sizeLine ∧ n = y.length
  | .byt y => y.size ≤ sizeLine ∧ n = y.size
  | .ref p => (∃ xs, SqL K H p xs ∧ n = xs.length) ∨ ∃ xs, SqT K H p xs ∧ n = xs.length
  | _ => False
theorem call_len : CallR X (.builtin "len") (fun xs H Q => ∃ x n, xs = [x] ∧ LenV X.K x H n ∧ Q (.int n) H) := by
  intro pins s σ H xs us Q I r h
  obtain ⟨x, n, rfl, e, q⟩ := h
  obtain ⟨u, rfl, rx⟩ := vals1 r
  have hl := line63
  have hs : sizeLine = 16777216 := sizeLine_eq
  cases x with
  | str y =>
    obtain ⟨t, rfl⟩ := rx
    obtain ⟨hy, e'⟩ : y.length ≤ sizeLine ∧ n = y.length := e
    subst e'
    exact len_str (by omega) ⟨.int _, H, I.tok _, ⟨_, rfl⟩, q⟩
  | byt y =>
    obtain ⟨t, rfl⟩ := rx
    obtain ⟨hy, e'⟩ : y.size ≤ sizeLine ∧ n = y.size := e
    subst e'
    exact PySem.W.len_bytes (by omega) ⟨.int _, H, I.tok _, ⟨_, rfl⟩, q⟩
  | ref p =>
    cases rx
    have e' : (∃ xs, SqL X.K H p xs ∧ n = xs.length) ∨ ∃ xs, SqT X.K H p xs ∧ n = xs.length := e
    rcases e' with ⟨xs, hx, e'⟩ | ⟨xs, hx, e'⟩
    · subst e'
      obtain ⟨its, r', pl, hz⟩ := I.list hx
      have hlen := r'.length
      exact Calls.call_len_list pl.isList (by simp only [List.size_toArray]; omega) ⟨.int xs.length, H, I.tok _, ⟨_, by simp only [List.size_toArray]; rw [hlen]⟩, q⟩
    · subst e'
      obtain ⟨its, r', pl, hz⟩ := I.tuple hx
      have hlen := r'.length
      exact len_tuple pl (by simp only [List.size_toArray]; omega) ⟨.int xs.length, H, I.tok _, ⟨_, by simp only [List.size_toArray]; rw [hlen]⟩, q⟩
  | _ => exact (show False from e).elim
/-- divmod: a new tuple -/
theorem call_divmod : CallR X (.builtin "divmod") (fun xs H Q => ∃ i j, xs = [.int i, .int j] ∧ CDiv i j ∧ ∀ p, H p = none → Q (.ref p) (upd H p (.tup [.int (i / j), .int (i % j)]))) := by
  intro pins s σ H xs us Q I r h
  obtain ⟨i, j, rfl, ⟨h1, h2⟩, q⟩ := h
  obtain ⟨u, w', rfl, ⟨t, rfl⟩, ⟨t', rfl⟩⟩ := vals2 r
  refine divmod_int (by omega) ?_ (.inl (PyProof.noPylong_small (by omega)))
  rw [Int.fdiv_eq_ediv_of_nonneg i (by omega), Int.fmod_eq_emod_of_nonneg i (by omega)]
  have hn : H s.heap.objs.size = none := I.hok.fresh (Nat.le_refl _)
  refine ⟨.ref s.heap.objs.size, _, ?_, rfl, q _ hn⟩
  refine I.laid (fun b o e => Heap.get?_push_of_some _ e) (Nat.le_refl _) ⟨by simp only [List.length_cons, List.length_nil]; rw [sizeLine_eq]; decide, [.int (i / j) s.toks, .int (i % j) (s.toks + 1)], .cons ⟨_, rfl⟩ (.cons ⟨_, rfl⟩ .nil), ?_⟩
  exact ⟨_, Heap.get?_push_size s.heap rfl, rfl, 0, rfl⟩
end
end L2

namespace L2
open PySem PySem.Spec PyProof.Rows

/-! ### an instance, its attributes a map -/
structure ObjM (h : Heap) (x dx C : Addr) (mA : Str → Option Value) : Prop where
  obj : h.get? x = some (PySem.W.instObj C dx)
  ns : h.Ns1 dx mA
  ne : dx ≠ x

theorem lookIn_ns {h : Heap} {dx : Addr} {mA : Str → Option Value} (n : h.Ns1 dx mA) : ∃ od, h.get? dx = some od ∧ ∀ name, PySem.W.lookIn name od = some (mA name) := by
  obtain ⟨o, es, ep, ho, hd, hk, _, hm⟩ := n
  refine ⟨o, ho, fun name => ?_⟩
  have e := hm name
  unfold nsFind findBy at e
  rw [← Array.find?_toList] at e
  unfold PySem.W.lookIn
  rw [hd]
  dsimp only
  split
  · rename_i y q
    rw [q] at e
    exact congrArg some e
  · rename_i q
    rw [q] at e
    have a : es.toList.any (·.refKey) = false := by
      rw [List.any_eq_false]
      intro y hy
      obtain ⟨z, t, hkey⟩ := hk y (Array.mem_toList_iff.mp hy)
      simp [DictEntry.refKey, hkey]
    have a' : ¬ es.toList.any (·.refKey) = true := by rw [a]; exact Bool.false_ne_true
    rw [if_neg a']
    exact congrArg some e

theorem ObjM.look {h : Heap} {x dx C : Addr} {mA : Str → Option Value} (I : ObjM h x dx C mA) : ∃ od, PySem.W.InstAt h x (PySem.W.instObj C dx) C (some od) ∧ ∀ name, PySem.W.lookIn name od = some (mA name) :=
  let ⟨od, ho, hl⟩ := lookIn_ns I.ns
  ⟨od, ⟨I.obj, rfl, rfl, ho⟩, hl⟩

section
variable {prog : Program} {w : World} {A : Around} {E : Value → Shared → Prop} {s : Shared} {K : PySem.W.Frag} {x dx C f : Addr} {mA : Str → Option Value} {name : Str} {v : Value}

theorem get_map {expr : Bool} {Q : Value → Shared → Prop} (X : K.In s.heap) (I : ObjM s.heap x dx C mA) (hg : PySem.W.plainGet K C name = true) (hh : PySem.W.hasDictIn K C = true)
    (ha : PySem.W.findIn K (.ref C) name = some none) (hv : mA name = some v) (hv' : PySem.W.handedIn v = true) (h : Q v { s with toks := s.toks + 1 }) :
    wpAny (model prog w) A (getAttr (.ref x) name expr) Q E s := by
  obtain ⟨od, J, hl⟩ := I.look
  exact PySem.W.get_value X J (PySem.W.plainGet_of hg).1 (PySem.W.findObj_own hh ha rfl (by rw [hl, hv])) hv' h

theorem get_const {expr : Bool} {a : Value} {Q : Value → Shared → Prop} (X : K.In s.heap) (I : ObjM s.heap x dx C mA) (hg : PySem.W.plainGet K C name = true) (hh : PySem.W.hasDictIn K C = true)
    (ha : PySem.W.findIn K (.ref C) name = some (some a)) (hn : PySem.W.specialIn K a "__get__" = some none) (hc : PySem.W.copiedNames.contains name = false) (hv : mA name = none) (hv' : PySem.W.handedIn a = true)
    (h : Q a { s with toks := s.toks + 1 }) : wpAny (model prog w) A (getAttr (.ref x) name expr) Q E s := by
  obtain ⟨od, J, hl⟩ := I.look
  exact PySem.W.get_value X J (PySem.W.plainGet_of hg).1 (PySem.W.findObj_cls hh ha hn hv' hc (by rw [hl, hv])) hv' h

theorem get_meth {pl : Sem Bool} {Q : Value × List Value → Shared → Prop} (X : K.In s.heap) (I : ObjM s.heap x dx C mA) (hg : PySem.W.plainGet K C name = true)
    (hf : PySem.W.findIn K (.ref C) name = some (some (.ref f))) (ht : PySem.W.isFn K (.ref f) = true) (hv : mA name = none) (h : Q (.ref f, [.ref x]) s) :
    wpAny (model prog w) A (getMethod (.ref x) name pl) Q E s := by
  obtain ⟨od, J, hl⟩ := I.look
  exact PySem.W.method_fn X J (PySem.W.plainGet_of hg).1 (PySem.W.plainGet_of hg).2 hf (beq_iff_eq.mp ht) (by show (PySem.W.lookIn name od).map (·.isSome) = some false; rw [hl, hv]; rfl) h

theorem set_map {ns : List Str} {Q : Unit → Shared → Prop} (X : K.In s.heap) (I : ObjM s.heap x dx C mA)
    (hs : PySem.W.findIn K (.ref C) "__setattr__" = some (some (.builtin "object.__setattr__"))) (hp : PySem.W.plainOver K C = true) (ht : PySem.W.takerIn K C name = some none) (hh : PySem.W.hasDictIn K C = true)
    (hw : PySem.Within mA ns) (hsz : ns.length ≤ sizeLine)
    (h : ∀ h', ObjM h' x dx C (fun y => if y = name then some v else mA y) → Heap.SameBut dx s.heap h' → Q () { s with heap := h', toks := s.toks + 2 }) :
    wpAny (model prog w) A (setAttr (.ref x) name v) Q E s := by
  obtain ⟨od, J, hl⟩ := I.look
  refine PySem.W.set_plain X J hs (PySem.W.osa_open (s := { s with toks := s.toks + 1 }) (r := none) X J hp ht fun b => ?_)
  obtain ⟨cd, hc, hd'⟩ := PySem.W.any_some hh
  have hx : s.heap.get? x = some ⟨.ref C, some dx, .plain, #[]⟩ := I.obj
  refine wpAny_bind (wpAny_pure (wpAny_bind (wpAny_bind (wpAny_loadPart hx (wpAny_bind (PySem.W.Looks.here (s := { s with toks := s.toks + 1 }) (PySem.W.looks_clsIn X hc) ?_))))))
  rw [hd']
  refine wpAny_pure (a := some dx) (wpAny_bind (wpAny_pure (wpAny_bind ?_)))
  refine wpAny_nsSet1 (s := { s with toks := s.toks + 1 }) I.ns fun h' hn2 hs2 => ?_
  obtain ⟨oD, esD, epD, hoD, hdD, hcD⟩ := hn2.count (PySem.Within.cons name v hw)
  refine wpAny_bind (wpAny_lookBehind hoD (by rw [hdD]; exact pastItsLine_dict (Nat.le_trans hcD (by rw [List.length_cons]; omega))) ?_)
  exact wpAny_pure (h _ ⟨(hs2.2 _ (Ne.symm I.ne)).trans I.obj, hn2, I.ne⟩ hs2)

/-- C(..): the dict at the heap's end, the instance behind it; then its __init__ -/
theorem make_map {R : Result → Shared → Prop} {vs : List Value} {kw : List (Str × Value)} (X : K.In s.heap) (hm : PySem.W.makesIn K C = true)
    (hi : PySem.W.findIn K (.ref C) "__init__" = some (some (.ref f))) (hf : PySem.W.typeIn K (.ref f) = some (.type "function"))
    (h : codeAny (model prog w) (A.under (.builtin "type.__call__" ⟨.ref C :: vs, kw⟩)) (.call (.ref f) ⟨.ref (s.heap.objs.size + 1) :: vs, kw⟩) (PySem.W.InitBack (s.heap.objs.size + 1) R)
      { s with heap := (s.heap.push PySem.W.emptyDict).push (PySem.W.instObj C s.heap.objs.size) }) :
    codeAny (model prog w) A (.call (.ref C) ⟨vs, kw⟩) R s := by
  obtain ⟨hh, g, d, t, os⟩ := s
  exact PySem.W.make_core (PySem.W.makes_of X hm) (PySem.W.looks_findIn X hi) (fun self => PySem.W.bind_fn X self hf) (.inl rfl) h
/-- C() where there is no __init__ but object's -/
theorem make_map0 {R : Result → Shared → Prop} (X : K.In s.heap) (hm : PySem.W.makesIn K C = true)
    (hi : PySem.W.findIn K (.ref C) "__init__" = some (some (.builtin "object.__init__")))
    (hb : ∀ self, PySem.W.Looks (model prog w) s.heap (bindSpecial (.builtin "object.__init__") self) (.builtin "object.__init__", [self]))
    (h : codeAny (model prog w) (A.under (.builtin "type.__call__" ⟨[.ref C], []⟩)) (.call (.builtin "object.__init__") ⟨[.ref (s.heap.objs.size + 1)], []⟩) (PySem.W.InitBack (s.heap.objs.size + 1) R)
      { s with heap := (s.heap.push PySem.W.emptyDict).push (PySem.W.instObj C s.heap.objs.size) }) :
    codeAny (model prog w) A (.call (.ref C) ⟨[], []⟩) R s := by
  obtain ⟨hh, g, d, t, os⟩ := s
  exact PySem.W.make_core (PySem.W.makes_of X hm) (PySem.W.looks_findIn X hi) hb (.inr ⟨rfl, rfl⟩) h
end

/-! ### the attributes as a list of pairs -/
def putF (f : Str) (v : V) : List (Str × V) → List (Str × V)
  | [] => [(f, v)]
  | (g, x) :: r => if g = f then (g, v) :: r else (g, x) :: putF f v r
theorem lookup_putF (f g : Str) (v : V) : ∀ fs : List (Str × V), (putF f v fs).lookup g = if g = f then some v else fs.lookup g
  | [] => by
    show List.lookup g [(f, v)] = _
    by_cases h : g = f
    · have hb : (g == f) = true := beq_iff_eq.mpr h
      simp only [List.lookup, hb, if_pos h]
    · have hb : (g == f) = false := beq_eq_false_iff_ne.mpr h
      simp only [List.lookup, hb, if_neg h]
  | (k, x) :: r => by
    have ih := lookup_putF f g v r
    rw [show putF f v ((k, x) :: r) = (if k = f then (k, v) :: r else (k, x) :: putF f v r) from rfl]
    by_cases hk : k = f
    · rw [if_pos hk]
      by_cases h : g = k
      · have hb : (g == k) = true := beq_iff_eq.mpr h
        simp only [List.lookup, hb, if_pos (h.trans hk)]
      · have hb : (g == k) = false := beq_eq_false_iff_ne.mpr h
        simp only [List.lookup, hb, if_neg (fun e : g = f => h (e.trans hk.symm))]
    · rw [if_neg hk]
      by_cases h : g = k
      · have hb : (g == k) = true := beq_iff_eq.mpr h
        simp only [List.lookup, hb, if_neg (fun e : g = f => hk (h.symm.trans e))]
      · have hb : (g == k) = false := beq_eq_false_iff_ne.mpr h
        simp only [List.lookup, hb]
        exact ih
theorem keys_putF (f : Str) (v : V) : ∀ fs : List (Str × V), f ∈ (putF f v fs).map (·.1) ∧ ∀ g, g ∈ fs.map (·.1) → g ∈ (putF f v fs).map (·.1)
  | [] => ⟨by simp [putF], fun g h => by simp at h⟩
  | (k, x) :: r => by
    obtain ⟨i1, i2⟩ := keys_putF f v r
    rw [show putF f v ((k, x) :: r) = (if k = f then (k, v) :: r else (k, x) :: putF f v r) from rfl]
    by_cases hk : k = f
    · rw [if_pos hk]
      subst hk
      exact ⟨by simp, fun g h => by simpa using h⟩
    · rw [if_neg hk]
      refine ⟨?_, fun g h => ?_⟩
      · rw [List.map_cons]
        exact List.mem_cons_of_mem _ i1
      · rw [List.map_cons] at h ⊢
        rcases List.mem_cons.mp h with e | e
        · exact List.mem_cons.mpr (.inl e)
        · exact List.mem_cons_of_mem _ (i2 g e)
theorem length_putF (f : Str) (v : V) : ∀ fs : List (Str × V), (putF f v fs).length ≤ fs.length + 1
  | [] => by simp [putF]
  | (k, x) :: r => by
    have ih := length_putF f v r
    rw [show putF f v ((k, x) :: r) = (if k = f then (k, v) :: r else (k, x) :: putF f v r) from rfl]
    by_cases hk : k = f
    · rw [if_pos hk, List.length_cons, List.length_cons]; omega
    · rw [if_neg hk, List.length_cons, List.length_cons]; omega

theorem RelO.some_of {v : V} {o : Option Value} (r : RelO (some v) o) : ∃ u, o = some u ∧ RelV v u := by
  cases o with
  | none => exact (show False from r).elim
  | some u => exact ⟨u, rfl, r⟩
theorem RelO.none_of {o : Option Value} (r : RelO none o) : o = none := by
  cases o with
  | none => rfl
  | some u => exact (show False from r).elim
theorem handed_of {v : V} {u : Value} (r : RelV v u) : PySem.W.handedIn u = true := by
  cases v with
  | non => cases (show u = Value.none from r); rfl
  | bl b => cases (show u = Value.bool b from r); rfl
  | int i => obtain ⟨t, e⟩ := (show ∃ t, u = Value.int i t from r); cases e; rfl
  | str x => obtain ⟨t, e⟩ := (show ∃ t, u = Value.str x t from r); cases e; rfl
  | byt b => obtain ⟨t, e⟩ := (show ∃ t, u = Value.bytes b t from r); cases e; rfl
  | flt b => obtain ⟨t, e⟩ := (show ∃ t, u = Value.float b t from r); cases e; rfl
  | ref a => cases (show u = Value.ref a from r); rfl
  | ty n => cases (show u = Value.type n from r); rfl

section
variable {P : Program} {w : World} {H H' : Hp} {h h' : Heap} {a C dx : Addr} {fs fs' : List (Str × V)}
theorem ins_get (hok : HOk P w H h) (e : H a = some (.ins C dx fs)) : ∃ mA, ObjM h a dx C mA ∧ (∀ f, RelO (fs.lookup f) (mA f)) ∧ PySem.Within mA (fs.map (·.1)) ∧ fs.length ≤ 1000 ∧ H dx = some (.own a) := by
  obtain ⟨d, z, ne, ob, mA, n, r, q⟩ := (show ObjOk P w H h a (.ins C dx fs) from hok a _ e)
  exact ⟨mA, ⟨ob, n, ne⟩, r, q, z, d⟩
end

/-! ### what of the text a class must have -/
structure Cls (K : PySem.W.Frag) (C : Addr) : Prop where
  pg : PySem.W.plainGet K C Str.empty = true
  hd : PySem.W.hasDictIn K C = true
  po : PySem.W.plainOver K C = true
  sa : PySem.W.findIn K (.ref C) "__setattr__" = some (some (.builtin "object.__setattr__"))
theorem Cls.get {K : PySem.W.Frag} {C : Addr} (c : Cls K C) (f : Str) : PySem.W.plainGet K C f = true := c.pg
/-- no class of it has the name -/
def NoAttr (K : PySem.W.Frag) (C : Addr) (f : Str) : Prop := PySem.W.findIn K (.ref C) f = some none
theorem NoAttr.taker {K : PySem.W.Frag} {C : Addr} {f : Str} (n : NoAttr K C f) : PySem.W.takerIn K C f = some none := by
  unfold PySem.W.takerIn
  rw [show PySem.W.findIn K (.ref C) f = some none from n]
  rfl
/-- a constant of the class -/
structure Con (K : PySem.W.Frag) (C : Addr) (f : Str) (v : V) (u : Value) : Prop where
  at_ : PySem.W.findIn K (.ref C) f = some (some u)
  rel : RelV v u
  get : PySem.W.specialIn K u "__get__" = some none
  cp : PySem.W.copiedNames.contains f = false
/-- a method: a plain def of the class or of one above it -/
structure Meth (K : PySem.W.Frag) (C : Addr) (m : Str) (f : Addr) : Prop where
  at_ : PySem.W.findIn K (.ref C) m = some (some (.ref f))
  fn : PySem.W.isFn K (.ref f) = true
  kp : PySem.W.keepIn K (.ref f) = true

section
variable {X : Cx} {pins : List (Addr × Obj)} {σ : St} {H : Hp} {s : Shared} {a C dx : Addr} {fs : List (Str × V)} {f : Str} {v : V} {A : Around} {E : Value → Shared → Prop}

theorem getattr_ok {b : Bool} {Q : Value → Shared → Prop} (I : Inv X pins σ H s) (e : H a = some (.ins C dx fs)) (c : Cls X.K C) (n : NoAttr X.K C f) (l : fs.lookup f = some v)
    (h : ∀ u s', Inv X pins σ H s' → RelV v u → Q u s') : wpAny (model X.prog X.w) A (getAttr (.ref a) f b) Q E s := by
  obtain ⟨mA, O, r, _, _, _⟩ := ins_get I.hok e
  obtain ⟨u, hu, ru⟩ := RelO.some_of (v := v) (o := mA f) (by rw [← l]; exact r f)
  exact get_map I.kIn O (c.get f) c.hd n hu (handed_of ru) (h u _ (I.tok _) ru)

theorem getcon_ok {b : Bool} {u : Value} {Q : Value → Shared → Prop} (I : Inv X pins σ H s) (e : H a = some (.ins C dx fs)) (c : Cls X.K C) (k : Con X.K C f v u) (l : fs.lookup f = none)
    (h : ∀ s', Inv X pins σ H s' → Q u s') : wpAny (model X.prog X.w) A (getAttr (.ref a) f b) Q E s := by
  obtain ⟨mA, O, r, _, _, _⟩ := ins_get I.hok e
  have hn : mA f = none := RelO.none_of (by rw [← l]; exact r f)
  exact get_const I.kIn O (c.get f) c.hd k.at_ k.get k.cp hn (handed_of k.rel) (h _ (I.tok _))

theorem getmeth_ok {m : Str} {g : Addr} {pl : Sem Bool} {Q : Value × List Value → Shared → Prop} (I : Inv X pins σ H s) (e : H a = some (.ins C dx fs)) (c : Cls X.K C) (k : Meth X.K C m g) (l : fs.lookup m = none)
    (h : Q (.ref g, [.ref a]) s) : wpAny (model X.prog X.w) A (getMethod (.ref a) m pl) Q E s := by
  obtain ⟨mA, O, r, _, _, _⟩ := ins_get I.hok e
  have hn : mA m = none := RelO.none_of (by rw [← l]; exact r m)
  exact get_meth I.kIn O (c.get m) k.at_ k.fn hn h

theorem setattr_ok {y : V} {u : Value} {Q : Unit → Shared → Prop} (I : Inv X pins σ H s) (e : H a = some (.ins C dx fs)) (c : Cls X.K C) (n : NoAttr X.K C f) (hl : fs.length < 1000) (ry : RelV y u)
    (h : ∀ s', Inv X pins σ (upd H a (.ins C dx (putF f y fs))) s' → Q () s') : wpAny (model X.prog X.w) A (setAttr (.ref a) f u) Q E s := by
  obtain ⟨mA, O, r, wi, _, ho⟩ := ins_get I.hok e
  have hz : (fs.map (·.1)).length ≤ sizeLine := by rw [List.length_map, sizeLine_eq]; omega
  refine set_map I.kIn O c.sa c.po n.taker c.hd wi hz fun h' O' sb => h _ ?_
  have hd : ∃ o, h'.get? dx = some o := let ⟨o, _, _, e', _⟩ := O'.ns; ⟨o, e'⟩
  refine I.write (x := a) (e := dx) (by rw [e]; exact True.intro) (.inr ho) (fun b q hb z => (sb.2 b hb).trans z) hd ?_
  refine ⟨by rw [upd_ne O.ne]; exact ho, ?_, O.ne, O'.obj, _, O'.ns, fun g => ?_, fun g hg => ?_⟩
  · have := length_putF f y fs; omega
  · show RelO ((putF f y fs).lookup g) (if g = f then some u else mA g)
    rw [lookup_putF]
    by_cases q : g = f
    · rw [if_pos q, if_pos q]; exact ry
    · rw [if_neg q, if_neg q]; exact r g
  · by_cases q : g = f
    · rw [q]; exact (keys_putF f y fs).1
    · refine (keys_putF f y fs).2 g (wi g fun z => hg ?_)
      show (if g = f then some u else mA g) = none
      rw [if_neg q]; exact z

/-- a new instance, tracked, without attributes -/
theorem Inv.made (I : Inv X pins σ H s) : Inv X pins σ (upd (upd H s.heap.objs.size (.own (s.heap.objs.size + 1))) (s.heap.objs.size + 1) (.ins C s.heap.objs.size []))
    { s with heap := (s.heap.push PySem.W.emptyDict).push (PySem.W.instObj C s.heap.objs.size) } := by
  have e1 : (s.heap.push PySem.W.emptyDict).get? s.heap.objs.size = some PySem.W.emptyDict := Heap.get?_push_size s.heap rfl
  have e2 : ((s.heap.push PySem.W.emptyDict).push (PySem.W.instObj C s.heap.objs.size)).get? (s.heap.objs.size + 1) = some (PySem.W.instObj C s.heap.objs.size) := by
    have := Heap.get?_push_size (s.heap.push PySem.W.emptyDict) (o := PySem.W.instObj C s.heap.objs.size) rfl
    rwa [Heap.size_push] at this
  have e3 : (s.heap.push PySem.W.emptyDict).Ns s.heap.objs.size (fun _ => none) := ⟨PySem.W.emptyDict, #[], _, e1, rfl, (fun e he => absurd he (by simp)), fun _ => rfl⟩
  have I1 := I.laid (a := s.heap.objs.size) (o := .own (s.heap.objs.size + 1)) (h' := s.heap.push PySem.W.emptyDict) (t' := s.toks) (fun b u q => Heap.get?_push_of_some _ q) (Nat.le_refl _) ⟨_, e1⟩
  refine I1.laid (a := s.heap.objs.size + 1) (o := .ins C s.heap.objs.size []) (t' := s.toks) (fun b u q => Heap.get?_push_of_some _ q) (Nat.le_of_eq (Heap.size_push _ _)) ?_
  have ne : s.heap.objs.size ≠ s.heap.objs.size + 1 := Nat.ne_of_lt (Nat.lt_succ_self _)
  refine ⟨by rw [upd_ne ne, upd_same], Nat.zero_le _, ne, e2, fun _ => none, (Heap.Ns1.of_empty e3).at fun o q => Heap.get?_push_of_some _ q, fun _ => True.intro, fun y hy => absurd rfl hy⟩

/-- e.f where nothing but the object is asked: through attributeBase (super) and the last hold -/
theorem attr_of {prog : Program} {w : World} {env : Env} {e : Expr} {f : Str} {pos : Pos} {s : Shared} {Q : Value → Shared → Prop} (hb : attributeBase e f env (eval e env) = eval e env)
    (h : wpAny (model prog w) A (eval e env) (fun o s₁ => wpAny (model prog w) A (getAttr o f true) Q E s₁) E s) : wpAny (model prog w) A (eval (.Attribute e f pos) env) Q E s :=
  Attribute_any_ h (by rw [arm_eval_Attribute, hb])
end

/-! ### readings and rules -/
/-- e.f, an attribute of the instance -/
def tFld (K : PySem.W.Frag) (ta : TE) (f : Str) : TE := fun σ H Q => ta σ H fun x H1 => ∃ a C dx fs v, x = .ref a ∧ H1 a = some (.ins C dx fs) ∧ Cls K C ∧ NoAttr K C f ∧ fs.lookup f = some v ∧ Q v H1
/-- e.f, a constant of the class -/
def tCon (K : PySem.W.Frag) (ta : TE) (f : Str) : TE := fun σ H Q => ta σ H fun x H1 => ∃ a C dx fs v u, x = .ref a ∧ H1 a = some (.ins C dx fs) ∧ Cls K C ∧ Con K C f v u ∧ fs.lookup f = none ∧ Q v H1
/-- e.f = value -/
def sFld (K : PySem.W.Frag) (ta tv : TE) (f : Str) : TS := fun D σ H => tv σ H fun y H1 => ta σ H1 fun x H2 => ∃ a C dx fs, x = .ref a ∧ H2 a = some (.ins C dx fs) ∧ Cls K C ∧ NoAttr K C f ∧ fs.length < 1000 ∧
  D.nx σ (upd H2 a (.ins C dx (putF f y fs)))
/-- an augmented operator on two values -/
def InOp (X : Cx) (op : Operator) (rd : V → V → Hp → VK → Prop) : Prop :=
  ∀ (pins : List (Addr × Obj)) (s : Shared) (σ : St) (H : Hp) (x y : V) (u v : Value) (Q : VK), Inv X pins σ H s → RelV x u → RelV y v → rd x y H Q → wpAny (model X.prog X.w) X.A (inplaceOp op u v) (EP X pins σ Q) X.xe s
/-- e.f op= value -/
def sFldAug (K : PySem.W.Frag) (ta tv : TE) (rd : V → V → Hp → VK → Prop) (f : Str) : TS := fun D σ H => ta σ H fun x H1 => ∃ a C dx fs v, x = .ref a ∧ H1 a = some (.ins C dx fs) ∧ Cls K C ∧ NoAttr K C f ∧ fs.lookup f = some v ∧
  tv σ H1 fun y H2 => rd v y H2 fun z H3 => ∃ dx' fs', H3 a = some (.ins C dx' fs') ∧ fs'.length < 1000 ∧ D.nx σ (upd H3 a (.ins C dx' (putF f z fs')))

section
variable {X : Cx} {o e value : Expr} {f : Str} {pos pos' tpos : Pos} {ta tv : TE}
theorem pe_fld (he : PE X e ta) (hb : attributeBase e f X.env (eval e X.env) = eval e X.env) : PE X (.Attribute e f pos) (tFld X.K ta f) := by
  intro pins s σ H Q I h
  refine attr_of hb (thn (he pins s σ H _ I h) fun u s1 ⟨x, H1, I1, rx, a, C, dx, fs, v, ex, ea, c, n, l, q⟩ => ?_)
  subst ex
  obtain rfl : u = Value.ref a := rx
  exact getattr_ok I1 ea c n l fun u' s2 I2 ru => ⟨v, H1, I2, ru, q⟩
theorem pe_con (he : PE X e ta) (hb : attributeBase e f X.env (eval e X.env) = eval e X.env) : PE X (.Attribute e f pos) (tCon X.K ta f) := by
  intro pins s σ H Q I h
  refine attr_of hb (thn (he pins s σ H _ I h) fun u s1 ⟨x, H1, I1, rx, a, C, dx, fs, v, u0, ex, ea, c, k, l, q⟩ => ?_)
  subst ex
  obtain rfl : u = Value.ref a := rx
  exact getcon_ok I1 ea c k l fun s2 I2 => ⟨v, H1, I2, k.rel, q⟩
theorem ps_fld (ha : PE X o ta) (hv : PE X value tv) (hs : swapsWith value (some (.Attribute o f pos')) pos.line X.env = pure false) : PS X (.Assign [.Attribute o f pos'] value pos) (sFld X.K ta tv f) := by
  intro pins s σ H D I h
  refine plainObj_wpAny_Assign_Attribute (thn (hv pins s σ H _ I h) fun u s1 ⟨y, H1, I1, ry, q⟩ => thn (ha pins s1 σ H1 _ I1 q) fun ov s2 ⟨x, H2, I2, rx, a, C, dx, fs, ex, ea, c, n, l, q2⟩ => ?_) hs
  subst ex
  obtain rfl : ov = Value.ref a := rx
  exact setattr_ok I2 ea c n l ry fun s3 I3 => ⟨σ, _, I3, q2⟩
theorem ps_fldaug {op : Operator} {rd : V → V → Hp → VK → Prop} (ha : PE X o ta) (hv : PE X value tv) (hop : InOp X op rd) : PS X (.AugAssign (.Attribute o f tpos) op value pos) (sFldAug X.K ta tv rd f) := by
  intro pins s σ H D I h
  refine wpAny_AugAssign_AttributeAny (thn (ha pins s σ H _ I h) fun ov s1 ⟨x, H1, I1, rx, a, C, dx, fs, v, ex, ea, c, n, l, q⟩ => ?_)
  subst ex
  obtain rfl : ov = Value.ref a := rx
  refine getattr_ok I1 ea c n l fun u s2 I2 ru => thn (hv pins s2 σ H1 _ I2 q) fun w3 s3 ⟨y, H2, I3, ry, q3⟩ => thn (hop pins s3 σ H2 v y u w3 _ I3 ru ry q3) fun w4 s4 ⟨z, H3, I4, rz, dx', fs', ea', l', q4⟩ => ?_
  exact setattr_ok I4 ea' c n l' rz fun s5 I5 => ⟨σ, _, I5, q4⟩
def rAdd : V → V → Hp → VK → Prop := fun x y H Q => ∃ i j, x = .int i ∧ y = .int j ∧ Q (.int (i + j)) H
def rSub : V → V → Hp → VK → Prop := fun x y H Q => ∃ i j, x = .int i ∧ y = .int j ∧ Q (.int (i - j)) H
theorem in_add : InOp X .Add rAdd := by
  rintro pins s σ H x y u v Q I rx ry ⟨i, j, rfl, rfl, q⟩
  obtain ⟨t, rfl⟩ := (show ∃ t, u = Value.int i t from rx)
  obtain ⟨t', rfl⟩ := (show ∃ t', v = Value.int j t' from ry)
  exact PyProof.Rows.iadd_int ⟨.int (i + j), H, I.tok _, ⟨_, rfl⟩, q⟩
theorem in_sub : InOp X .Sub rSub := by
  rintro pins s σ H x y u v Q I rx ry ⟨i, j, rfl, rfl, q⟩
  obtain ⟨t, rfl⟩ := (show ∃ t, u = Value.int i t from rx)
  obtain ⟨t', rfl⟩ := (show ∃ t', v = Value.int j t' from ry)
  exact PyProof.Rows.isub_int ⟨.int (i - j), H, I.tok _, ⟨_, rfl⟩, q⟩

/-- what is between an instance and its method: the tree of a method call -/
theorem methcall_of {pl : Sem Bool} {m : Str} {apos : Pos} {args : List Expr} {pins : List (Addr × Obj)} {s : Shared} {σ : St} {H : Hp} {Q : Value → Shared → Prop} {te : TE} (he : PE X e te) (I : Inv X pins σ H s)
    (h : te σ H fun x H1 => ∃ a C dx fs g, x = .ref a ∧ H1 a = some (.ins C dx fs) ∧ Cls X.K C ∧ Meth X.K C m g ∧ fs.lookup m = none ∧
      ∀ s1, Inv X pins σ H1 s1 → wpAny (model X.prog X.w) X.A (callWith pos (.ref g) [.ref a] (backTo pos (starEach args X.env)) (backToKw pos (keywordEach [] X.env))) Q X.xe s1)
    (ht : eval (.Call (.Attribute e m apos) args [] pos) X.env = (do
      let ov ← eval e X.env
      standAt apos.atName
      let (f, first) ← holding [ov] (getMethod ov m pl)
      callWith pos f first (backTo pos (starEach args X.env)) (backToKw pos (keywordEach [] X.env)))) :
    wpAny (model X.prog X.w) X.A (eval (.Call (.Attribute e m apos) args [] pos) X.env) Q X.xe s := by
  refine PySem.W.methodCall_KW (pl := pl) (thn (he pins s σ H _ I h) fun u s1 ⟨x, H1, I1, rx, a, C, dx, fs, g, ex, ea, c, k, l, q⟩ => ?_) ht
  subst ex
  obtain rfl : u = Value.ref a := rx
  exact getmeth_ok I1 ea c k l (q s1 I1)
end

/-! ### isinstance -/
section
variable {X : Cx} {pins : List (Addr × Obj)} {σ : St} {H : Hp} {s : Shared} {A : Around} {E : Value → Shared → Prop} {Q : Value → Shared → Prop} {c : Value} {b : Bool}
/-- the type of a value, as the fragment's deciders take it; for an instance its class -/
inductive TyOf (K : PySem.W.Frag) (H : Hp) : V → Value → Prop where
  | non : TyOf K H .non (.type "NoneType")
  | bl (x : Bool) : TyOf K H (.bl x) (.type "bool")
  | int (i : Int) : TyOf K H (.int i) (.type "int")
  | str (x : Str) : TyOf K H (.str x) (.type "str")
  | flt (x : UInt64) : TyOf K H (.flt x) (.type "float")
  | lst {a : Addr} {xs : List V} (e : H a = some (.lst xs)) : TyOf K H (.ref a) (.type "list")
  | frz {a : Addr} {o : Obj} {xs : List V} (e : H a = some (.frz o (.lst xs))) : TyOf K H (.ref a) (.type "list")
  | tup {a : Addr} {xs : List V} (e : H a = some (.tup xs)) : TyOf K H (.ref a) (.type "tuple")
  | dK {a : Addr} {kvs : List (Key × V)} (e : H a = some (.dK kvs)) : TyOf K H (.ref a) (.type "dict")
  | dT {a : Addr} {kvs : List (List Key × V)} (e : H a = some (.dT kvs)) : TyOf K H (.ref a) (.type "dict")
  | ins {a C dx : Addr} {fs : List (Str × V)} (e : H a = some (.ins C dx fs)) (cl : Cls K C) (ha : PySem.W.findIn K (.ref C) "__class__" = some (some (.builtin "object.__class__")))
      (hn : PySem.W.specialIn K (.builtin "object.__class__") "__get__" = some (some (.builtin "getset_descriptor.__get__"))) (htk : PySem.W.takesIn K (.builtin "object.__class__") = some true)
      (hm : PySem.W.mroIn K C (.type "object") = some true) : TyOf K H (.ref a) (.ref C)
/-- isinstance(x, c) for one class c, a built-in or an own one: kitOne's answer -/
theorem isinst_ok {x : V} {u t : Value} (I : Inv X pins σ H s) (rx : RelV x u) (ty : TyOf X.K H x t) (e : PySem.W.kitOne X.K t c = some b) (h : ∀ tk, Q (.bool b) { s with toks := tk }) :
    wpAny (model X.prog X.w) A (call (.builtin "isinstance") [u, c]) Q E s := by
  cases ty with
  | non => cases (show u = Value.none from rx); exact PySem.W.kia_one PySem.W.kitx_none I.kIn True.intro e (fun z => nomatch z) h
  | bl y => cases (show u = Value.bool y from rx); exact PySem.W.kia_one PySem.W.kitx_bool I.kIn True.intro e (fun z => nomatch z) h
  | int i => obtain ⟨t, q⟩ := (show ∃ t, u = Value.int i t from rx); cases q; exact PySem.W.kia_one PySem.W.kitx_int I.kIn True.intro e (fun z => nomatch z) h
  | str y => obtain ⟨t, q⟩ := (show ∃ t, u = Value.str y t from rx); cases q; exact PySem.W.kia_one PySem.W.kitx_str I.kIn True.intro e (fun z => nomatch z) h
  | flt y => obtain ⟨t, q⟩ := (show ∃ t, u = Value.float y t from rx); cases q; exact PySem.W.kia_one PySem.W.kitx_float I.kIn True.intro e (fun z => nomatch z) h
  | @lst a xs ea =>
    cases (show u = Value.ref a from rx)
    obtain ⟨_, _, n, _, h1⟩ := (show ObjOk X.prog X.w H s.heap a (.lst xs) from I.hok a _ ea)
    exact PySem.W.kia_one PySem.W.kitx_list I.kIn ⟨_, h1, rfl⟩ e (fun z => nomatch z) h
  | @frz a ob xs ea =>
    cases (show u = Value.ref a from rx)
    obtain ⟨_, _, _, n, _, h1⟩ := (show ObjOk X.prog X.w H s.heap a (.frz ob (.lst xs)) from I.hok a _ ea)
    exact PySem.W.kia_one PySem.W.kitx_list I.kIn ⟨_, h1, rfl⟩ e (fun z => nomatch z) h
  | @tup a xs ea =>
    cases (show u = Value.ref a from rx)
    obtain ⟨_, _, _, p⟩ := (show ObjOk X.prog X.w H s.heap a (.tup xs) from I.hok a _ ea)
    obtain ⟨o, h1, h2, _⟩ := p
    exact PySem.W.kia_one PySem.W.kitx_tuple I.kIn ⟨o, h1, h2⟩ e (fun z => nomatch z) h
  | @dK a kvs ea =>
    cases (show u = Value.ref a from rx)
    obtain ⟨_, _, vs, _, p⟩ := (show ObjOk X.prog X.w H s.heap a (.dK kvs) from I.hok a _ ea)
    obtain ⟨o, es, ep, h1, h2, _⟩ := p
    exact PySem.W.kia_one PySem.W.kitx_dict I.kIn ⟨o, h1, h2.1⟩ e (fun z => nomatch z) h
  | @dT a kvs ea =>
    cases (show u = Value.ref a from rx)
    obtain ⟨_, _, xs, _, o, es, ep, h1, h2, _⟩ := (show ObjOk X.prog X.w H s.heap a (.dT kvs) from I.hok a _ ea)
    exact PySem.W.kia_one PySem.W.kitx_dict I.kIn ⟨o, h1, h2.1⟩ e (fun z => nomatch z) h
  | @ins a C dx fs ea cl ha hn htk hm =>
    cases (show u = Value.ref a from rx)
    obtain ⟨mA, O, _⟩ := ins_get I.hok ea
    obtain ⟨od, J, _⟩ := O.look
    exact PySem.W.kia_one (PySem.W.kitx_own (cl.get _) cl.hd ha hn htk hm) I.kIn J e (fun z => nomatch z) h
end
end L2

namespace L2
open PySem PySem.Spec PyProof.Rows

/-! ### room -/
structure Room (k : Nat) (A : Around) : Prop where
  hd : A.handled = none
  dp : A.depth + 3 * k + 5 < recursionLimit
  un : A.units + 16 * k + 200 < cLine
theorem Room.mono {j k : Nat} {A : Around} (r : Room k A) (h : j ≤ k) : Room j A := ⟨r.hd, by have := r.dp; omega, by have := r.un; omega⟩
theorem Room.deeper {k : Nat} {A : Around} (r : Room (k + 1) A) (env : Env) : Room k (A.deeper env) :=
  ⟨r.hd, by have := r.dp; show A.depth + 1 + 3 * k + 5 < _; omega, by have := r.un; show A.units + 3 + 16 * k + 200 < _; omega⟩
theorem Room.in1 {k : Nat} {A : Around} (r : Room (k + 1) A) : Room k A.in1 :=
  ⟨r.hd, by have := r.dp; show A.depth + 3 * k + 5 < _; omega, by have := r.un; show A.units + 1 + 16 * k + 200 < _; omega⟩
theorem make_depth {A : Around} {C : Addr} {us : List Value} {kw : List (Str × Value)} : (A.under (.builtin "type.__call__" ⟨.ref C :: us, kw⟩)).depth = A.depth + 1 := by
  first | rfl | simp [Around.under, Code.weight, Code.isCreation, Code.isGuard, Code.isCaller, Code.frames, Code.isFrame, guardIds]
theorem make_units {A : Around} {C : Addr} {us : List Value} {kw : List (Str × Value)} : (A.under (.builtin "type.__call__" ⟨.ref C :: us, kw⟩)).units = A.units + 1 := by
  first | rfl | simp [Around.under, Code.cUnits, Code.frames, Code.isFrame]
theorem Room.make {k : Nat} {A : Around} (r : Room (k + 1) A) (C : Addr) (us : List Value) (kw : List (Str × Value)) : Room k (A.under (.builtin "type.__call__" ⟨.ref C :: us, kw⟩)) :=
  ⟨r.hd, by have := r.dp; rw [make_depth]; omega, by have := r.un; rw [make_units]; omega⟩
theorem Room.depth {k : Nat} {A : Around} (r : Room k A) : A.depth < recursionLimit := by have := r.dp; omega
theorem Room.units {k : Nat} {A : Around} (r : Room k A) : A.units + 64 < cLine := by have := r.un; omega
theorem Room.units0 {k : Nat} {A : Around} (r : Room k A) : A.units < cLine := by have := r.un; omega

/-! ### argument lists and displays -/
def tNil : TA := fun _ H Q => Q [] H
def tCons (ta : TE) (tr : TA) : TA := fun σ H Q => ta σ H fun x H1 => tr σ H1 fun xs H2 => Q (x :: xs) H2
section
variable {X : Cx} {e : Expr} {es : List Expr} {te : TE} {t : TA} {pos : Pos}
theorem pa_nil : PA X [] tNil := fun _ _ _ _ H Q I h => Calls.spliced_nil ⟨[], H, I, .nil, h⟩
theorem pa_cons (ha : PE X e te) (hr : PA X es t) (hs : starEach (e :: es) X.env = (false, eval e X.env) :: starEach es X.env := by rfl) : PA X (e :: es) (tCons te t) := by
  intro pos pins s σ H Q I h
  rw [hs]
  show wpAny _ _ (spliced ((false, eval e X.env) :: backTo pos (starEach es X.env))) _ _ s
  refine Calls.spliced_cons (thn (ha pins s σ H _ I h) fun u s1 ⟨x, H1, I1, r1, q1⟩ => ?_)
  exact thn (hr pos pins s1 σ H1 _ I1 q1) fun us s2 ⟨xs, H2, I2, r2, q2⟩ => ⟨x :: xs, H2, I2, .cons r1 r2, q2⟩

/-- a tuple, a list of written items -/
def tTup (t : TA) : TE := fun σ H Q => t σ H fun xs H1 => xs.length ≤ sizeLine ∧ ∀ p, H1 p = none → Q (.ref p) (upd H1 p (.tup xs))
def tLst (t : TA) : TE := fun σ H Q => t σ H fun xs H1 => xs.length ≤ sizeLine ∧ ∀ p, H1 p = none → Q (.ref p) (upd H1 p (.lst xs))
theorem pe_tup {x1} (h : PA X es t) : PE X (.Tuple es x1 pos) (tTup t) := by
  intro pins s σ H Q I hq
  refine wpAny_Tuple_spliced (thn (h pos pins s σ H _ I hq) fun us s1 ⟨xs, H1, I1, r, z, q⟩ => ⟨by rw [← r.length]; exact z, ?_⟩)
  have hf : H1 s1.heap.objs.size = none := I1.hok.fresh (Nat.le_refl _)
  refine ⟨.ref s1.heap.objs.size, upd H1 s1.heap.objs.size (.tup xs), I1.laid (t' := s1.toks) (fun b u e => Heap.get?_push_of_some _ e) (Nat.le_refl _) ?_, rfl, q _ hf⟩
  exact ⟨z, us, r, ⟨_, Heap.get?_push_size _ rfl, rfl, _, rfl⟩⟩
theorem pe_lst (h : PA X es t) : PE X (.List es pos) (tLst t) := by
  intro pins s σ H Q I hq
  refine wpAny_List_spliced (thn (h pos pins s σ H _ I hq) fun us s1 ⟨xs, H1, I1, r, z, q⟩ => ⟨by rw [← r.length]; exact z, ?_⟩)
  have hf : H1 s1.heap.objs.size = none := I1.hok.fresh (Nat.le_refl _)
  refine ⟨.ref s1.heap.objs.size, upd H1 s1.heap.objs.size (.lst xs), I1.laid (t' := s1.toks) (fun b u e => Heap.get?_push_of_some _ e) (Nat.le_refl _) ?_, rfl, q _ hf⟩
  exact ⟨z, us, 0, r, Heap.get?_push_size _ rfl⟩
end

/-! ### what a def promises -/
/-- a def's promise: the bound arguments in the parameters' order, the heap, the wanted end, the wanted exception -/
abbrev Sp := List V → Hp → VK → XK → Prop
/-- how an exception lies behind a call (file 08 gives it): the callers' frames, abstract heap and state ahead of the call, the wish, the exception, the state -/
abbrev CXT := List Env → Hp → Shared → XK → Value → Shared → Prop

/-- the state at a call -/
structure Env0 (P : Program) (w : World) (K : PySem.W.Frag) (mg : Str → Option Value) (base : Heap) (A : Around) (outer : List Env) (s : Shared) (H : Hp) : Prop where
  frames : A.frames = some outer
  mod : Mod K mg base
  bs : ∀ b o, base.get? b = some o → s.heap.get? b = some o ∧ H b = none
  bsz : base.objs.size ≤ s.heap.objs.size
  funs : s.heap.FunFrames base outer
  frf : ∀ b ∈ frs outer, H b = none
  hok : HOk P w H s.heap
  bare : AllBare s.gens
/-- a call's end -/
def CE (outer : List Env) (P : Program) (w : World) (H : Hp) (s : Shared) (Q : VK) (u : Value) (s' : Shared) : Prop :=
  ∃ v H', s'.os = s.os ∧ AllBare s'.gens ∧ Un (frs outer) [] H H' s.heap s'.heap ∧ HOk P w H' s'.heap ∧ RelV v u ∧ Q v H'
def CR (CX : CXT) (outer : List Env) (P : Program) (w : World) (H : Hp) (s : Shared) (Q : VK) (E : XK) (r : Result) (s' : Shared) : Prop :=
  match r with
  | .ok (.ret u) => CE outer P w H s Q u s'
  | .ok _ => False
  | .error e => CX outer H s E e s'
structure FnOk (P : Program) (w : World) (K : PySem.W.Frag) (mg : Str → Option Value) (base : Heap) (CX : CXT) (k : Nat) (f : Addr) (fd : FuncData) (ps : List Str) (sp : Sp) : Prop where
  len : ∀ vs H Q E, sp vs H Q E → vs.length = ps.length
  run : ∀ (A : Around) (outer : List Env) (s : Shared) (H : Hp) (args : Args) (us : List Value) (vs : List V) (Q : VK) (E : XK), Room k A → Env0 P w K mg base A outer s H → BindsTo s fd args (ps.zip us) → Vals vs us → sp vs H Q E →
    codeAny (model P w) A (.call (.ref f) args) (CR CX outer P w H s Q E) s
theorem FnOk.mono {P : Program} {w : World} {K : PySem.W.Frag} {mg : Str → Option Value} {base : Heap} {CX : CXT} {j k : Nat} {f : Addr} {fd : FuncData} {ps : List Str} {sp : Sp} (F : FnOk P w K mg base CX j f fd ps sp) (h : j ≤ k) :
    FnOk P w K mg base CX k f fd ps sp := ⟨F.len, fun A outer s H args us vs Q E hr => F.run A outer s H args us vs Q E (hr.mono h)⟩
/-- a weaker promise -/
theorem FnOk.imp {P : Program} {w : World} {K : PySem.W.Frag} {mg : Str → Option Value} {base : Heap} {CX : CXT} {k : Nat} {f : Addr} {fd : FuncData} {ps : List Str} {sp sp' : Sp} (F : FnOk P w K mg base CX k f fd ps sp)
    (h : ∀ vs H Q E, sp' vs H Q E → sp vs H Q E) : FnOk P w K mg base CX k f fd ps sp' :=
  ⟨fun vs H Q E q => F.len vs H Q E (h _ _ _ _ q), fun A outer s H args us vs Q E hr he hb hv hs => F.run A outer s H args us vs Q E hr he hb hv (h _ _ _ _ hs)⟩

theorem Env0.make {P : Program} {w : World} {K : PySem.W.Frag} {mg : Str → Option Value} {base : Heap} {A : Around} {outer : List Env} {s : Shared} {H : Hp} (e : Env0 P w K mg base A outer s H) (C : Addr) (us : List Value) (kw : List (Str × Value)) :
    Env0 P w K mg base (A.under (.builtin "type.__call__" ⟨.ref C :: us, kw⟩)) outer s H := ⟨by first | exact e.frames | (simpa [Around.under, Code.envs, Code.isFrame, pushEnvs] using e.frames), e.mod, e.bs, e.bsz, e.funs, e.frf, e.hok, e.bare⟩
theorem Env0.in1 {P : Program} {w : World} {K : PySem.W.Frag} {mg : Str → Option Value} {base : Heap} {A : Around} {outer : List Env} {s : Shared} {H : Hp} (e : Env0 P w K mg base A outer s H) :
    Env0 P w K mg base A.in1 outer s H := ⟨e.frames, e.mod, e.bs, e.bsz, e.funs, e.frf, e.hok, e.bare⟩

section
variable {X : Cx} {pins : List (Addr × Obj)} {σ : St} {H : Hp} {s s' : Shared}
/-- from a body: what a callee wants -/
theorem Inv.env0 (I : Inv X pins σ H s) : Env0 X.prog X.w X.K X.mg X.base X.A X.stack s H :=
  ⟨I.ok.frames, I.ok.mod, I.bs, Nat.le_trans I.ok.bsz I.sz, I.stack, I.stkFree, I.hok, I.bare⟩
/-- behind a call -/
theorem Inv.after {Q : VK} {u : Value} (I : Inv X pins σ H s) (h : CE X.stack X.prog X.w H s Q u s') : EP X pins σ Q u s' := by
  obtain ⟨v, H', os, bare, un, hok, r, q⟩ := h
  obtain ⟨hh, g, d, t, os'⟩ := s'
  obtain rfl : os' = s.os := os
  exact ⟨v, H', I.call (h' := hh) (g' := g) (d' := d) (t' := t) (ch := []) un hok bare (fun b z => absurd z (by simp)), r, q⟩
end

/-! ### calls -/
/-- f(..): the written arguments, then the defaults dvs; E: what is wanted of an exception -/
def tCall (sp : Sp) (dvs : List V) (E : XK) (t : TA) : TE := fun σ H Q => t σ H fun vs H1 => sp (vs ++ dvs) H1 Q E
/-- o.m(..) of an instance of the class at C -/
def tMeth (C : Addr) (m : Str) (sp : Sp) (dvs : List V) (E : XK) (ta : TE) (t : TA) : TE := fun σ H Q => ta σ H fun x H1 => ∃ a dx fs, x = .ref a ∧ H1 a = some (.ins C dx fs) ∧ fs.lookup m = none ∧
  t σ H1 fun vs H2 => sp (x :: (vs ++ dvs)) H2 Q E
/-- C(..): a new instance and its dict, then __init__ -/
def tMake (C : Addr) (sp : Sp) (dvs : List V) (E : XK) (t : TA) : TE := fun σ H Q => t σ H fun vs H1 => ∀ x dx, H1 x = none → H1 dx = none → dx ≠ x →
  sp (.ref x :: (vs ++ dvs)) (upd (upd H1 dx (.own x)) x (.ins C dx [])) (fun v H2 => v = .non ∧ Q (.ref x) H2) E

/-- how the parameters are bound: us the positional arguments, kw the keywords' values by name, ds the defaults that fill up -/
def Binds (K : PySem.W.Frag) (fd : FuncData) (ps : List Str) (ds : List Value) : Prop :=
  ∀ (s : Shared) (us : List Value), K.In s.heap → (us ++ ds).length = ps.length → BindsTo s fd ⟨us, []⟩ (ps.zip (us ++ ds))
/-- every parameter is given -/
theorem Binds.all {K : PySem.W.Frag} {fd : FuncData} {ps : List Str} (h : ∀ us : List Value, us.length = ps.length → bindArgs fd ⟨us, []⟩ = pure (ps.zip us)) : Binds K fd ps [] := fun s us _ hl => by
  rw [List.append_nil] at hl ⊢
  exact .of_eq (h us hl)

/-- an exception of a callee reaches what this body wants of exceptions -/
def Passes (CX : CXT) (X : Cx) (E : XK) : Prop := ∀ (pins : List (Addr × Obj)) (σ : St) (H : Hp) (s : Shared) (e : Value) (s' : Shared), Inv X pins σ H s → CX X.stack H s E e s' → X.xe e s'

section
variable {X : Cx} {CX : CXT} {k : Nat} {f C : Addr} {fd : FuncData} {ps : List Str} {sp : Sp} {dvs : List V} {ds : List Value} {E : XK} {x m : Str} {p pos apos : Pos} {e o : Expr} {es : List Expr} {ta : TE} {t : TA}

/-- the callee runs -/
theorem run_fn {pins : List (Addr × Obj)} {σ : St} {H : Hp} {s : Shared} {Q : VK} {us : List Value} {vs : List V} (F : FnOk X.prog X.w X.K X.mg X.base CX k f fd ps sp) (hr : Room k X.A) (hb : Binds X.K fd ps ds) (hd : Vals dvs ds) (hx : Passes CX X E)
    (I : Inv X pins σ H s) (r : Vals vs us) (h : sp (vs ++ dvs) H Q E) : wpAny (model X.prog X.w) X.A (call (.ref f) us) (EP X pins σ Q) X.xe s := by
  have r2 : Vals (vs ++ dvs) (us ++ ds) := r.append hd
  have hl : (us ++ ds).length = ps.length := by rw [← r2.length]; exact F.len _ _ _ _ h
  refine wpAny_call (codeAny_mono (F.run X.A X.stack s H ⟨us, []⟩ (us ++ ds) (vs ++ dvs) Q E hr I.env0 (hb s us I.kIn hl) r2 h) fun r s' hq => ?_)
  cases r with
  | error e => exact hx pins σ H s e s' I hq
  | ok fl =>
    cases fl with
    | ret u => exact I.after hq
    | next => exact False.elim hq
    | brk => exact False.elim hq
    | cont => exact False.elim hq

theorem pe_call (F : FnOk X.prog X.w X.K X.mg X.base CX k f fd ps sp) (hr : Room k X.A) (hg : Gl X x) (hm : X.mg x = some (.ref f)) (hk : PySem.W.keepIn X.K (.ref f) = true) (hb : Binds X.K fd ps ds) (hd : Vals dvs ds) (hx : Passes CX X E)
    (ha : PA X (e :: es) t) (hdb : (x == ("__debug__" : Str)) = false := by decide) (he : starEach (e :: es) X.env = (false, eval e X.env) :: starEach es X.env := by rfl) (hpl : (backTo pos (starEach es X.env)).any (·.1) = false := by rfl) :
    PE X (.Call (.Name x p) (e :: es) [] pos) (tCall sp dvs E t) := by
  intro pins s σ H Q I h
  refine wpAny_Call_Name_kw (ld_glob I hg hm ?_ hdb)
  refine PySem.W.callWith_K (h₀ := X.base) I.ok.mod.kin hk (thn (ha pos pins s σ H _ I h) fun us s1 ⟨vs, H1, I1, r, q⟩ => ⟨I1.kIn, ?_⟩) he hpl
  exact run_fn F hr hb hd hx I1 r q
theorem pe_call0 (F : FnOk X.prog X.w X.K X.mg X.base CX k f fd ps sp) (hr : Room k X.A) (hg : Gl X x) (hm : X.mg x = some (.ref f)) (hk : PySem.W.keepIn X.K (.ref f) = true) (hb : Binds X.K fd ps ds) (hd : Vals dvs ds) (hx : Passes CX X E)
    (hdb : (x == ("__debug__" : Str)) = false := by decide) : PE X (.Call (.Name x p) [] [] pos) (tCall sp dvs E tNil) := by
  intro pins s σ H Q I h
  refine wpAny_Call_Name_kw (ld_glob I hg hm ?_ hdb)
  exact PySem.W.callWith_K0 I.kIn hk (run_fn (us := []) F hr hb hd hx I .nil h)

/-- o.m(e, ..) -/
theorem pe_meth {pl : Sem Bool} (he : PE X o ta) (c : Cls X.K C) (hm : Meth X.K C m f) (F : FnOk X.prog X.w X.K X.mg X.base CX k f fd ps sp) (hr : Room k X.A) (hb : Binds X.K fd ps ds) (hd : Vals dvs ds) (hx : Passes CX X E) (ha : PA X (e :: es) t)
    (hst : starEach (e :: es) X.env = (false, eval e X.env) :: starEach es X.env := by rfl) (hpl : (backTo pos (starEach es X.env)).any (·.1) = false := by rfl)
    (ht : eval (.Call (.Attribute o m apos) (e :: es) [] pos) X.env = (do
      let ov ← eval o X.env
      standAt apos.atName
      let (f, first) ← holding [ov] (getMethod ov m pl)
      callWith pos f first (backTo pos (starEach (e :: es) X.env)) (backToKw pos (keywordEach [] X.env))) := by rfl) :
    PE X (.Call (.Attribute o m apos) (e :: es) [] pos) (tMeth C m sp dvs E ta t) := by
  intro pins s σ H Q I h
  refine PySem.W.methodCall_KW (pl := pl) (thn (he pins s σ H _ I h) fun u s1 ⟨x, H1, I1, rx, a, dx, fs, ex, ea, l, q⟩ => ?_) ht
  subst ex
  obtain rfl : u = Value.ref a := rx
  refine getmeth_ok I1 ea c hm l ?_
  refine PySem.W.callWith_K (first := [.ref a]) (h₀ := X.base) I.ok.mod.kin hm.kp (thn (ha pos pins s1 σ H1 _ I1 q) fun us s2 ⟨vs, H2, I2, r, q2⟩ => ⟨I2.kIn, ?_⟩) hst hpl
  exact run_fn (us := .ref a :: us) (vs := .ref a :: vs) F hr hb hd hx I2 (.cons rfl r) q2
/-- o.m() -/
theorem pe_meth0 {pl : Sem Bool} (he : PE X o ta) (c : Cls X.K C) (hm : Meth X.K C m f) (F : FnOk X.prog X.w X.K X.mg X.base CX k f fd ps sp) (hr : Room k X.A) (hb : Binds X.K fd ps ds) (hd : Vals dvs ds) (hx : Passes CX X E)
    (ht : eval (.Call (.Attribute o m apos) [] [] pos) X.env = (do
      let ov ← eval o X.env
      standAt apos.atName
      let (f, first) ← holding [ov] (getMethod ov m pl)
      callWith pos f first (backTo pos (starEach [] X.env)) (backToKw pos (keywordEach [] X.env))) := by rfl) :
    PE X (.Call (.Attribute o m apos) [] [] pos) (tMeth C m sp dvs E ta tNil) := by
  intro pins s σ H Q I h
  refine PySem.W.methodCall_KW (pl := pl) (thn (he pins s σ H _ I h) fun u s1 ⟨x, H1, I1, rx, a, dx, fs, ex, ea, l, q⟩ => ?_) ht
  subst ex
  obtain rfl : u = Value.ref a := rx
  refine getmeth_ok I1 ea c hm l ?_
  exact PySem.W.callWith_K0 (first := [.ref a]) I1.kIn hm.kp (run_fn (us := [.ref a]) (vs := [.ref a]) F hr hb hd hx I1 (.cons rfl .nil) q)

/-- what a class must have to be made -/
structure Mk (K : PySem.W.Frag) (C f : Addr) : Prop where
  makes : PySem.W.makesIn K C = true
  init : PySem.W.findIn K (.ref C) "__init__" = some (some (.ref f))
  fn : PySem.W.isFn K (.ref f) = true
  kp : PySem.W.keepIn K (.ref C) = true

theorem run_make {pins : List (Addr × Obj)} {σ : St} {H : Hp} {s : Shared} {Q : VK} {us : List Value} {vs : List V} (M : Mk X.K C f) (F : FnOk X.prog X.w X.K X.mg X.base CX k f fd ps sp) (hr : Room (k + 1) X.A) (hb : Binds X.K fd ps ds) (hd : Vals dvs ds)
    (hx : Passes CX X E) (I : Inv X pins σ H s) (r : Vals vs us)
    (h : ∀ x dx, H x = none → H dx = none → dx ≠ x → sp (.ref x :: (vs ++ dvs)) (upd (upd H dx (.own x)) x (.ins C dx [])) (fun v H2 => v = .non ∧ Q (.ref x) H2) E) :
    wpAny (model X.prog X.w) X.A (call (.ref C) us) (EP X pins σ Q) X.xe s := by
  have hq := h (s.heap.objs.size + 1) s.heap.objs.size (I.hok.fresh (Nat.le_succ _)) (I.hok.fresh (Nat.le_refl _)) (Nat.ne_of_lt (Nat.lt_succ_self _))
  have I2 := Inv.made (C := C) I
  have r2 : Vals (V.ref (s.heap.objs.size + 1) :: (vs ++ dvs)) (Value.ref (s.heap.objs.size + 1) :: (us ++ ds)) := .cons rfl (r.append hd)
  have hl : (Value.ref (s.heap.objs.size + 1) :: us ++ ds).length = ps.length := by
    have e := r2.length
    rw [F.len _ _ _ _ hq] at e
    exact e.symm
  refine wpAny_call (make_map (f := f) I.kIn M.makes M.init (beq_iff_eq.mp M.fn) (codeAny_mono (F.run _ X.stack _ _ ⟨Value.ref (s.heap.objs.size + 1) :: us, []⟩ (Value.ref (s.heap.objs.size + 1) :: (us ++ ds)) _ _ E (hr.make C us [])
    (I2.env0.make C us []) (hb _ (Value.ref (s.heap.objs.size + 1) :: us) I2.kIn hl) r2 hq) fun r s' hq' => ?_))
  cases r with
  | error e => exact hx pins σ _ _ e s' I2 hq'
  | ok fl =>
    cases fl with
    | ret u =>
      obtain ⟨v, H', I3, rv, ev, q3⟩ := I2.after hq'
      subst ev
      exact ⟨rv, ⟨V.ref (s.heap.objs.size + 1), H', I3, rfl, q3⟩⟩
    | next => exact False.elim hq'
    | brk => exact False.elim hq'
    | cont => exact False.elim hq'
theorem pe_make (M : Mk X.K C f) (F : FnOk X.prog X.w X.K X.mg X.base CX k f fd ps sp) (hr : Room (k + 1) X.A) (hg : Gl X x) (hm : X.mg x = some (.ref C)) (hb : Binds X.K fd ps ds) (hd : Vals dvs ds) (hx : Passes CX X E)
    (ha : PA X (e :: es) t) (hdb : (x == ("__debug__" : Str)) = false := by decide) (he : starEach (e :: es) X.env = (false, eval e X.env) :: starEach es X.env := by rfl) (hpl : (backTo pos (starEach es X.env)).any (·.1) = false := by rfl) :
    PE X (.Call (.Name x p) (e :: es) [] pos) (tMake C sp dvs E t) := by
  intro pins s σ H Q I h
  refine wpAny_Call_Name_kw (ld_glob I hg hm ?_ hdb)
  refine PySem.W.callWith_K (h₀ := X.base) I.ok.mod.kin M.kp (thn (ha pos pins s σ H _ I h) fun us s1 ⟨vs, H1, I1, r, q⟩ => ⟨I1.kIn, ?_⟩) he hpl
  exact run_make M F hr hb hd hx I1 r q
theorem pe_make0 (M : Mk X.K C f) (F : FnOk X.prog X.w X.K X.mg X.base CX k f fd ps sp) (hr : Room (k + 1) X.A) (hg : Gl X x) (hm : X.mg x = some (.ref C)) (hb : Binds X.K fd ps ds) (hd : Vals dvs ds) (hx : Passes CX X E)
    (hdb : (x == ("__debug__" : Str)) = false := by decide) : PE X (.Call (.Name x p) [] [] pos) (tMake C sp dvs E tNil) := by
  intro pins s σ H Q I h
  refine wpAny_Call_Name_kw (ld_glob I hg hm ?_ hdb)
  exact PySem.W.callWith_K0 I.kIn M.kp (run_make (us := []) M F hr hb hd hx I .nil h)
end

/-! ### keywords -/
/-- the values of the keywords, from the left -/
def PK (X : Cx) (kws : List Keyword) (t : TA) : Prop :=
  ∀ (pos : Pos) (pins : List (Addr × Obj)) (s : Shared) (σ : St) (H : Hp) (Q : List V → Hp → Prop), Inv X pins σ H s → t σ H Q → wpAny (model X.prog X.w) X.A (evalAll ((backToKw pos (keywordEach kws X.env)).map (·.2))) (AP X pins σ Q) X.xe s
section
variable {X : Cx} {CX : CXT} {k : Nat} {f C : Addr} {fd : FuncData} {ps ks : List Str} {sp : Sp} {E : XK} {x m : Str} {p pos apos kpos : Pos} {e o : Expr} {es : List Expr} {kws : List Keyword} {te ta : TE} {t tk : TA} {nm : Option Str}
theorem pk_nil : PK X [] tNil := fun _ _ _ _ H Q I h => wpAny_evalAll_nil ⟨[], H, I, .nil, h⟩
theorem pk_cons (ha : PE X e te) (hr : PK X kws t) : PK X (⟨nm, e, kpos⟩ :: kws) (tCons te t) := by
  intro pos pins s σ H Q I h
  show wpAny _ _ (evalAll ((do let v ← eval e X.env; standAt pos; pure v) :: (backToKw pos (keywordEach kws X.env)).map (·.2))) _ _ s
  refine wpAny_evalAll_cons (wpAny_bind (thn (ha pins s σ H _ I h) fun u s1 ⟨x, H1, I1, r1, q1⟩ => wpAny_bind (wpAny_standAt (wpAny_pure ?_))))
  exact thn (hr pos pins s1 σ H1 _ I1 q1) fun us s2 ⟨xs, H2, I2, r2, q2⟩ => ⟨x :: xs, H2, I2, .cons r1 r2, q2⟩

/-- how a call with keywords binds: g puts the positional values us and the keywords' values ws (names ks) in the parameters' order, defaults among them -/
structure KBinds (K : PySem.W.Frag) (fd : FuncData) (ps ks : List Str) (g : List Value → List Value → List Value) (gV : List V → List V → List V) : Prop where
  to : ∀ (s : Shared) (us ws : List Value), K.In s.heap → (g us ws).length = ps.length → BindsTo s fd ⟨us, ks.zip ws⟩ (ps.zip (g us ws))
  rel : ∀ {vs : List V} {us : List Value} {zs : List V} {ws : List Value}, Vals vs us → Vals zs ws → Vals (gV vs zs) (g us ws)
def tCallK (sp : Sp) (gV : List V → List V → List V) (E : XK) (t tk : TA) : TE := fun σ H Q => t σ H fun vs H1 => tk σ H1 fun zs H2 => sp (gV vs zs) H2 Q E
variable {g : List Value → List Value → List Value} {gV : List V → List V → List V}
theorem run_fnk {pins : List (Addr × Obj)} {σ : St} {H : Hp} {s : Shared} {Q : VK} {us ws : List Value} {vs zs : List V} (F : FnOk X.prog X.w X.K X.mg X.base CX k f fd ps sp) (hr : Room k X.A) (hb : KBinds X.K fd ps ks g gV) (hx : Passes CX X E)
    (I : Inv X pins σ H s) (r : Vals vs us) (rz : Vals zs ws) (h : sp (gV vs zs) H Q E) : wpAny (model X.prog X.w) X.A (call (.ref f) us (ks.zip ws)) (EP X pins σ Q) X.xe s := by
  have r2 := hb.rel r rz
  have hl : (g us ws).length = ps.length := by rw [← r2.length]; exact F.len _ _ _ _ h
  refine wpAny_call (codeAny_mono (F.run X.A X.stack s H ⟨us, ks.zip ws⟩ (g us ws) (gV vs zs) Q E hr I.env0 (hb.to s us ws I.kIn hl) r2 h) fun r s' hq => ?_)
  cases r with
  | error e => exact hx pins σ H s e s' I hq
  | ok fl =>
    cases fl with
    | ret u => exact I.after hq
    | next => exact False.elim hq
    | brk => exact False.elim hq
    | cont => exact False.elim hq
/-- f(e, .., k = v, ..) -/
theorem pe_callK (F : FnOk X.prog X.w X.K X.mg X.base CX k f fd ps sp) (hr : Room k X.A) (hg : Gl X x) (hm : X.mg x = some (.ref f)) (hk : PySem.W.keepIn X.K (.ref f) = true) (hb : KBinds X.K fd ps ks g gV) (hx : Passes CX X E)
    (ha : PA X (e :: es) t) (hkw : PK X kws tk) (hall : (backToKw pos (keywordEach kws X.env)).all (·.1.isSome) = true := by rfl) (hks : (backToKw pos (keywordEach kws X.env)).filterMap (·.1) = ks := by rfl)
    (hdb : (x == ("__debug__" : Str)) = false := by decide) (he : starEach (e :: es) X.env = (false, eval e X.env) :: starEach es X.env := by rfl)
    (hpl : ((backTo pos (starEach (e :: es) X.env)).any (·.1) || (backToKw pos (keywordEach kws X.env)).any (·.1.isNone)) = false := by rfl) :
    PE X (.Call (.Name x p) (e :: es) kws pos) (tCallK sp gV E t tk) := by
  intro pins s σ H Q I h
  refine wpAny_Call_Name_kw (ld_glob I hg hm ?_ hdb)
  refine PySem.W.callWith_KW (h₀ := X.base) I.ok.mod.kin hk hall (thn (ha pos pins s σ H _ I h) fun us s1 ⟨vs, H1, I1, r, q⟩ => ?_) hpl he
  refine thn (hkw pos pins s1 σ H1 _ I1 q) fun ws s2 ⟨zs, H2, I2, rz, q2⟩ => ⟨I2.kIn, ?_⟩
  rw [hks]
  exact run_fnk F hr hb hx I2 r rz q2
end

/-! ### a def's body keeps its promise -/
/-- names: the parameters first -/
structure FnScope (N P : List Str) (sc : Scope) : Prop where
  kind : sc.kind = .function
  co : sc.isCoroutine = false
  gen : sc.isGenerator = false
  nd : N.Nodup
  pre : N.take P.length = P
  par : ∀ x ∈ P, sc.names.lookup x = some .local ∨ sc.names.lookup x = some .cell
  nofree : ∀ y ∈ sc.names, y.2 ≠ .free

theorem bindL_out {kindOf : Str → Option NameKind} {x : Str} : ∀ {binds : List (Str × Value)} {m : Str → Option Value}, (∀ v, (x, v) ∉ binds) → bindL kindOf binds m x = m x
  | [], _, _ => rfl
  | (n, v) :: r, m, h => by
    unfold bindL
    rw [bindL_out fun w hw => h w (List.mem_cons_of_mem _ hw)]
    split
    · have : x ≠ n := by rintro rfl; exact h v List.mem_cons_self
      simp [this]
    · rfl
theorem bindC_out {kindOf : Str → Option NameKind} {x : Str} : ∀ {binds : List (Str × Value)} {m : Str → Option Value}, (∀ v, (x, v) ∉ binds) → bindC kindOf binds m x = m x
  | [], _, _ => rfl
  | (n, v) :: r, m, h => by
    unfold bindC
    rw [bindC_out fun w hw => h w (List.mem_cons_of_mem _ hw)]
    split
    · rfl
    · have : x ≠ n := by rintro rfl; exact h v List.mem_cons_self
      simp [this]
theorem bindL_get {kindOf : Str → Option NameKind} {x : Str} {v : Value} : ∀ {P : List Str} {vs : List Value} {i : Nat} {m : Str → Option Value}, P.Nodup → P[i]? = some x → vs[i]? = some v → kindOf x = some .local →
    bindL kindOf (P.zip vs) m x = some v
  | [], _, _, _, _, h, _, _ => by simp at h
  | _ :: _, [], _, _, _, _, h, _ => by simp at h
  | p :: P, w :: vs, 0, m, nd, h1, h2, hk => by
    simp at h1 h2; subst h1; subst h2
    show bindL kindOf ((p, w) :: P.zip vs) m p = _
    unfold bindL
    rw [bindL_out fun v hv => (List.nodup_cons.mp nd).1 (List.of_mem_zip hv).1, if_pos hk]
    simp
  | p :: P, w :: vs, i + 1, m, nd, h1, h2, hk => by
    show bindL kindOf ((p, w) :: P.zip vs) m x = _
    unfold bindL
    exact bindL_get (i := i) (List.nodup_cons.mp nd).2 (by simpa using h1) (by simpa using h2) hk
theorem bindC_get {kindOf : Str → Option NameKind} {x : Str} {v : Value} : ∀ {P : List Str} {vs : List Value} {i : Nat} {m : Str → Option Value}, P.Nodup → P[i]? = some x → vs[i]? = some v → kindOf x ≠ some .local →
    bindC kindOf (P.zip vs) m x = some v
  | [], _, _, _, _, h, _, _ => by simp at h
  | _ :: _, [], _, _, _, _, h, _ => by simp at h
  | p :: P, w :: vs, 0, m, nd, h1, h2, hk => by
    simp at h1 h2; subst h1; subst h2
    show bindC kindOf ((p, w) :: P.zip vs) m p = _
    unfold bindC
    rw [bindC_out fun v hv => (List.nodup_cons.mp nd).1 (List.of_mem_zip hv).1, if_neg hk]
    simp
  | p :: P, w :: vs, i + 1, m, nd, h1, h2, hk => by
    show bindC kindOf ((p, w) :: P.zip vs) m x = _
    unfold bindC
    exact bindC_get (i := i) (List.nodup_cons.mp nd).2 (by simpa using h1) (by simpa using h2) hk

/-- the names' values at the entry -/
def start (N : List Str) (vs : List V) : St := vs.map some ++ List.replicate (N.length - vs.length) none

/-- the context of a def's body, at its entry; an exception leaves the frame, then lies as CX says -/
def cxOf (CX : CXT) (P : Program) (w : World) (K : PySem.W.Frag) (mg : Str → Option Value) (base : Heap) (N : List Str) (qual : Str) (scope : Scope) (f : Addr) (cd : Value) (A : Around) (outer : List Env) (s : Shared) (H : Hp) (E : XK) : Cx where
  prog := P
  w := w
  K := K
  mg := mg
  base := base
  A := A.deeper (envOfC qual scope s.heap.objs.size f cd)
  N := N
  s₀ := s
  H₀ := H
  env := envOfC qual scope s.heap.objs.size f cd
  outer := outer
  stack := envOfC qual scope s.heap.objs.size f cd :: outer
  ex := []
  calm := true
  fn := fun _ => true
  pn := []
  xe := fun e s' => wpAny (model P w) (A.deeper (envOfC qual scope s.heap.objs.size f cd)) (leaving (envOfC qual scope s.heap.objs.size f cd) e) (fun _ s'' => CX outer H s E e s'') (fun e' s'' => CX outer H s E e' s'') s'

theorem cell_has {sc : Scope} {n : Nat} {x : Str} (h : sc.names.lookup x = some .cell) : ∃ c, (cellsFrom n sc.names []).lookup x = some c := by
  have q := PySem.W.cellsFrom_some sc.names n [] (.inl h)
  exact Option.isSome_iff_exists.mp q

theorem inv_start {CX : CXT} {P : Program} {w : World} {K : PySem.W.Frag} {mg : Str → Option Value} {base : Heap} {N ps : List Str} {qual : Str} {scope : Scope} {f : Addr} {cd : Value} {A : Around} {outer : List Env} {s s1 : Shared} {H : Hp} {E : XK} {us : List Value} {vs : List V}
    (S : FnScope N ps scope) (hd : A.handled = none) (e0 : Env0 P w K mg base A outer s H) (hl : vs.length = ps.length) (r : Vals vs us)
    (x : InCallC s s.heap.objs.size (bindL (envOfC qual scope s.heap.objs.size f cd).kindOf (ps.zip us) fun _ => none) (cellsFrom (s.heap.objs.size + 1) scope.names []) (bindC (envOfC qual scope s.heap.objs.size f cd).kindOf (ps.zip us) fun _ => none) s1) :
    Inv (cxOf CX P w K mg base N qual scope f cd A outer s H E) [] (start N vs) H s1 := by
  have hpl : ps.length ≤ N.length := by have := congrArg List.length S.pre; rw [List.length_take] at this; omega
  obtain ⟨h1, tk, rfl, hk⟩ := x.done
  have noA : ∀ b : Addr, b ∉ (cxOf CX P w K mg base N qual scope f cd A outer s H E).ex := fun b z => absurd (show b ∈ ([] : List Addr) from z) (by simp)
  refine ⟨⟨e0.mod, S.kind, rfl, rfl, Nat.le_refl _, fun y z c h1 h2 => ?_, fun y hy => ?_, fun y c _ h => ?_, fun _ => hd, Around.frames_deeper e0.frames, .inr ⟨rfl, rfl⟩, fun b z => absurd z (noA b), e0.bs, e0.bsz, fun b _ _ => noA b, fun b z => absurd z (noA b), e0.funs, e0.frf⟩,
    rfl, e0.bare, Un.kept hk, ⟨_, x.toInCall.ns, fun i y v h1 h2 h3 => ?_⟩, fun y c h => ⟨_, x.cell y c h⟩, e0.hok.fresh (Nat.le_refl _), fun y c h => ?_, fun p hp => absurd (show p ∈ ([] : List (Addr × Obj)) from hp) (by simp), e0.hok.kept hk, ?_⟩
  · exact name_of_addr x.apart (PySem.mem_of_lookup h1) (PySem.mem_of_lookup h2)
  · have hy : scope.names.lookup y = some .cell ∨ scope.names.lookup y = some .free := hy
    rcases hy with hy | hy
    · exact cell_has hy
    · exact absurd rfl (S.nofree _ (PySem.mem_of_lookup hy))
  · exact Nat.le_of_lt (x.above y c (PySem.mem_of_lookup h))
  · have hi : i < vs.length := by
      unfold start at h2
      by_cases hi : i < vs.length
      · exact hi
      · rw [List.getElem?_append_right (by simpa using hi)] at h2
        rw [List.getElem?_replicate] at h2
        split at h2 <;> cases h2
    have ha : vs[i]? = some v := by
      unfold start at h2
      rw [List.getElem?_append_left (by simpa using hi), List.getElem?_map] at h2
      cases e : vs[i]? with
      | none => rw [e] at h2; cases h2
      | some a => rw [e] at h2; cases h2; rfl
    obtain ⟨u, hu, rv⟩ := r.get ha
    have hp : ps[i]? = some y := by
      rw [← S.pre, List.getElem?_take_of_lt (by omega)]; exact h1
    have ndP : ps.Nodup := by rw [← S.pre]; exact S.nd.sublist (List.take_sublist _ _)
    refine ⟨u, rv, ?_⟩
    rcases S.par y (List.mem_of_getElem? hp) with k | k
    · exact .inl ⟨k, bindL_get ndP hp hu k⟩
    · obtain ⟨c, e⟩ := cell_has (n := s.heap.objs.size + 1) k
      refine .inr ⟨.inl k, c, e, ?_⟩
      have q := x.cell y c e
      rw [bindC_get ndP hp hu (by show scope.names.lookup y ≠ _; rw [k]; decide)] at q
      exact q
  · exact e0.hok.fresh (Nat.le_of_lt (x.above y c (PySem.mem_of_lookup h)))
  · unfold start
    show _ = N.length
    rw [List.length_append, List.length_map, List.length_replicate]
    omega

/-- THE RULE: a def (or a method) of the text, by its body. The body's reading t is chosen for each entry; it is run at the parameters' values -/
theorem fn_of {CX : CXT} {P : Program} {w : World} {K : PySem.W.Frag} {mg : Str → Option Value} {base : Heap} {k : Nat} {f : Addr} {name qual : Str} {params : Arguments} {body : List Stmt} {scope : Scope} {dV kV doc pm cdv ct oc : Value} {an od : Option Addr}
    {osl : Array (Option Value)} {N ps : List Str} {sp : Sp} (lk : K.lookup f = some ⟨oc, od, .func (PySem.W.fnOf name qual params body scope dV kV doc pm an cdv ct), osl⟩) (hcd : PySem.W.codeIn K cdv qual = true) (S : FnScope N ps scope)
    (len : ∀ vs H Q E, sp vs H Q E → vs.length = ps.length)
    (hbody : ∀ (A : Around) (outer : List Env) (s : Shared) (H : Hp) (vs : List V) (Q : VK) (E : XK), Room k (A.deeper (envOfC qual scope s.heap.objs.size f cdv)) → sp vs H Q E →
      ∃ t, PSs (cxOf CX P w K mg base N qual scope f cdv A outer s H E) body t ∧ t { nx := fun _ H' => Q .non H', rt := Q } (start N vs) H) :
    FnOk P w K mg base CX (k + 1) f (PySem.W.fnOf name qual params body scope dV kV doc pm an cdv ct) ps sp := by
  refine ⟨len, fun A outer s H args us vs Q E hr e0 hb r hsp => ?_⟩
  have hl := len _ _ _ _ hsp
  have KX : K.In s.heap := e0.mod.kin.keeps fun b o e => (e0.bs b o e).1
  have lim : s.heap.NoLimit := e0.mod.nolimit.keeps fun b o e => (e0.bs b o e).1
  have hkind : ∀ y ∈ ps.zip us, scope.names.lookup y.1 = some .local ∨ (scope.names.lookup y.1 = some .cell ∧ ((cellsFrom (s.heap.objs.size + 1) scope.names []).lookup y.1).isSome = true) := fun ⟨n, v⟩ hy => by
    rcases S.par n (List.of_mem_zip hy).1 with q | q
    · exact .inl q
    · exact .inr ⟨q, PySem.W.cellsFrom_some _ _ _ (.inl q)⟩
  refine codeAny_call_function hr.depth (KX _ _ lk) rfl S.co S.gen rfl (PySem.W.codeRec_of KX hcd) (hb _ _ _ _ ?_)
  refine wpAny_newFunctionEnv_cells S.kind hkind fun env he s1 x => ?_
  subst he
  refine ⟨lim.keeps x.toInCall.keep, codeAny_func ?_⟩
  obtain ⟨t, ht, hq⟩ := hbody A outer s H vs Q E (hr.deeper _) hsp
  have I : Inv (cxOf CX P w K mg base N qual scope f cdv A outer s H E) [] (start N vs) H s1 := inv_start S hr.hd e0 hl r x
  refine wpAny_mono (ht [] s1 (start N vs) H _ I hq) (fun fl s' hs => ?_) fun e s' hs => hs
  have fin : ∀ {σ' : St} {H' : Hp} {v : V} {u : Value}, Inv (cxOf CX P w K mg base N qual scope f cdv A outer s H E) [] σ' H' s' → RelV v u → Q v H' → CE outer P w H s Q u s' :=
    fun {σ' H' v u} J rv q => ⟨v, H', J.os, J.bare, J.base, J.hok, rv, q⟩
  cases fl with
  | ret u =>
    obtain ⟨v, σ', H', J, rv, q⟩ := hs
    exact fin J rv q
  | next =>
    obtain ⟨σ', H', J, q⟩ := hs
    exact fin (v := V.non) (u := Value.none) J rfl q
  | brk =>
    obtain ⟨_, _, _, q⟩ := hs
    exact False.elim q
  | cont =>
    obtain ⟨_, _, _, q⟩ := hs
    exact False.elim q
end L2

namespace L2
open PySem PySem.Spec PyProof.Rows
section
variable {X : Cx} {x : Str} {p pos : Pos} {e : Expr} {es : List Expr} {t : TA} {id T : String} {r : List V → Hp → VK → Prop}

def tCB (r : List V → Hp → VK → Prop) (t : TA) : TE := fun σ H Q => t σ H fun vs H1 => r vs H1 Q
/-- f(e, ..), f a built-in function -/
theorem pe_callB (hc : CallR X (.builtin id) r) (hg : Gl X x) (hm : X.mg x = none) (hv : bootBuiltins x = some (.builtin id)) (ha : PA X (e :: es) t) (hn : x ≠ "__name__" := by decide) (hdb : (x == ("__debug__" : Str)) = false := by decide)
    (he : starEach (e :: es) X.env = (false, eval e X.env) :: starEach es X.env := by rfl) (hpl : (backTo pos (starEach es X.env)).any (·.1) = false := by rfl) : PE X (.Call (.Name x p) (e :: es) [] pos) (tCB r t) := by
  intro pins s σ H Q I h
  refine wpAny_Call_Name_kw (ld_blt I hg hm hv ?_ hn hdb)
  exact PyProof.Rows.callWith_builtin1 (thn (ha pos pins s σ H _ I h) fun us s1 ⟨vs, H1, I1, r1, q1⟩ => hc pins s1 σ H1 vs us Q I1 r1 q1) he hpl
/-- T(e, ..), T a built-in type -/
theorem pe_callTy (hc : CallR X (.type T) r) (hg : Gl X x) (hm : X.mg x = none) (hv : bootBuiltins x = some (.type T)) (ha : PA X (e :: es) t) (hn : x ≠ "__name__" := by decide) (hdb : (x == ("__debug__" : Str)) = false := by decide)
    (he : starEach (e :: es) X.env = (false, eval e X.env) :: starEach es X.env := by rfl) (hpl : (backTo pos (starEach es X.env)).any (·.1) = false := by rfl) : PE X (.Call (.Name x p) (e :: es) [] pos) (tCB r t) := by
  intro pins s σ H Q I h
  refine wpAny_Call_Name_kw (ld_blt I hg hm hv ?_ hn hdb)
  exact PyProof.Rows.callWith_type1 (thn (ha pos pins s σ H _ I h) fun us s1 ⟨vs, H1, I1, r1, q1⟩ => hc pins s1 σ H1 vs us Q I1 r1 q1) he hpl
/-- T() -/
theorem pe_callTy0 (hc : CallR X (.type T) r) (hg : Gl X x) (hm : X.mg x = none) (hv : bootBuiltins x = some (.type T)) (hn : x ≠ "__name__" := by decide) (hdb : (x == ("__debug__" : Str)) = false := by decide) :
    PE X (.Call (.Name x p) [] [] pos) (tCB r tNil) := by
  intro pins s σ H Q I h
  refine wpAny_Call_Name_kw (ld_blt I hg hm hv ?_ hn hdb)
  exact PyProof.Rows.callWith_type0 (hc pins s σ H [] [] Q I .nil h)
end
end L2

namespace HT
open PySem PyProof.Rows

/-- t < u of tuples of ints -/
def lexLt : List Int → List Int → Bool
  | [], [] => false
  | [], _ :: _ => true
  | _ :: _, [] => false
  | x :: xs, y :: ys => if x = y then lexLt xs ys else decide (x < y)
theorem lexLt_cons (x y : Int) (xs ys : List Int) : lexLt (x :: xs) (y :: ys) = if x = y then lexLt xs ys else decide (x < y) := rfl
theorem lexLt_nil_nil : lexLt [] [] = false := rfl
theorem lexLt_nil_cons (y : Int) (ys : List Int) : lexLt [] (y :: ys) = true := rfl
theorem lexLt_cons_nil (x : Int) (xs : List Int) : lexLt (x :: xs) [] = false := rfl

theorem eqAt_int (A : Around) (s : Shared) (a : Int) (t : Tok) (c : Int) (u : Tok) : ∃ e, SeqAt.EqAt A s (.int a t) (.int c u) e ∧ (e = true ↔ a = c) :=
  ⟨(a == c), SeqAt.EqAt.int_int a t c u, by simp⟩
theorem rcLt_int (A : Around) (s : Shared) (a : Int) (t : Tok) (c : Int) (u : Tok) (prog : Program) (w : World) (E : Value → Shared → Prop) (Q : Value → Shared → Prop) (h : Q (.bool (decide (a < c))) s) :
    wpAny (model prog w) A (richCompare .Lt (.int a t) (.int c u)) Q E s :=
  (PyProof.Rows.lt_int h : wpAny (model prog w) A (compareOp .Lt (.int a t) (.int c u)) Q E s)

section
open PySem.SeqAt
open PySem.AutoSeq1 (wpAny_loadPart')
open PySem.MeetsSeq PySem.MeetsSeq2 PySem.MeetsSeq3

theorem tuple_lt_ints (l b : Addr) (items items2 : Array Value) (n n2 : Nat) (dd dd2 : Option Addr) (sl sl2 : Array (Option Value)) (ns ms : List Int) (hi : IntsAre items.toList ns) (hj : IntsAre items2.toList ms) :
    Meets (Builtin.«tuple.__lt__» ⟨[.ref l, .ref b], []⟩)
      (fun _ R s => s.heap.get? l = some { cls := .type "tuple", dict := dd, data := .seq items n, slots := sl } ∧ s.heap.get? b = some { cls := .type "tuple", dict := dd2, data := .seq items2 n2, slots := sl2 } ∧
        R (.ok (.ret (.bool (lexLt ns ms)))) s) :=
  .of_wp fun prog w A R s h => by
    obtain ⟨hp, g, d, tk, os⟩ := s; obtain ⟨hl, hb, h⟩ := h
    have f2 := AutoSeq1.sub_tuple_tuple
    have z1 : items.size = ns.length := by rw [← hi.length]; simp
    have z2 : items2.size = ms.length := by rw [← hj.length]; simp
    wp_walk using wpAny_loadPart' hl, wpAny_loadPart' hb, wpAny_forIn_list _ (fun rest b s' => b.1 = none ∧ s' = ⟨hp, g, d, tk, os⟩ ∧ ∃ (vs ws : List Value) (ns' ms' : List Int), rest = vs.zip ws ∧
      IntsAre vs ns' ∧ IntsAre ws ms' ∧ ns'.length + items2.size = ms'.length + items.size ∧ R (.ok (.ret (.bool (lexLt ns' ms')))) ⟨hp, g, d, tk, os⟩) _
    case turn =>
      rintro ⟨y, x⟩ rest b s' ⟨hb', rfl, vs, ws, ns', ms', hz, hvi, hwi, hlen, hR⟩
      cases hvi with
      | nil => rw [List.zip_nil_left] at hz; cases hz
      | cons a t hvi' =>
        cases hwi with
        | nil => rw [List.zip_nil_right] at hz; cases hz
        | cons c u hwi' =>
          rw [List.zip_cons_cons] at hz
          injection hz with hyx hrest
          injection hyx with hy hx
          subst hy hx
          rw [lexLt_cons] at hR
          simp only [List.length_cons] at hlen
          obtain ⟨e, he, hiff⟩ := eqAt_int A.in1 ⟨hp, g, d, tk, os⟩ a t c u
          refine wpAny_bind (he prog w _ _ ?_)
          cases e with
          | true =>
            rw [if_pos (hiff.mp rfl)] at hR
            wp_walk
            exact ⟨rfl, rfl, _, _, _, _, hrest, hvi', hwi', by omega, hR⟩
          | false =>
            rw [if_neg (fun q => absurd (hiff.mpr q) Bool.false_ne_true)] at hR
            have hri := rcLt_int A.in1 ⟨hp, g, d, tk, os⟩ a t c u prog w
            wp_walk using hri
            exact ⟨_, rfl, by simpa using hR⟩
    case fin =>
      rintro ⟨b1, b2⟩ s' ⟨hb', rfl, vs, ws, ns', ms', hz, hvi, hwi, hlen, hR⟩
      simp only at hb'
      subst hb'
      have hv : lexLt ns' ms' = decide (items.size < items2.size) := by
        cases hvi with
        | nil =>
          cases hwi with
          | nil =>
            simp only [List.length_nil] at hlen
            rw [lexLt_nil_nil]
            exact (decide_eq_false (by omega)).symm
          | cons c u hw =>
            simp only [List.length_nil, List.length_cons] at hlen
            rw [lexLt_nil_cons]
            exact (decide_eq_true (by omega)).symm
        | cons a t hv =>
          cases hwi with
          | nil =>
            simp only [List.length_nil, List.length_cons] at hlen
            rw [lexLt_cons_nil]
            exact (decide_eq_false (by omega)).symm
          | cons c u hw =>
            rw [List.zip_cons_cons] at hz
            cases hz
      rw [hv] at hR
      wp_walk
      exact ⟨_, rfl, by simpa [Builtin.Tuple.tupleCompareSizes] using hR⟩
    case h =>
      exact ⟨rfl, rfl, items.toList, items2.toList, ns, ms, rfl, hi, hj, by omega, h⟩
end

section
variable {prog : Program} {w : World} {A : Around} {E : Value → Shared → Prop} {s : Shared}

theorem lt_tupInts {l b : Addr} {items items2 : Array Value} {ns ms : List Int} {Q : Value → Shared → Prop} (hl : IsTup s.heap l items) (hb : IsTup s.heap b items2) (hi : IntsAre items.toList ns) (hj : IntsAre items2.toList ms)
    (hu : A.units < cLine) (h : Q (.bool (lexLt ns ms)) s) : wpAny (model prog w) A (compareOp .Lt (.ref l) (.ref b)) Q E s := by
  obtain ⟨⟨cls, dd, data, sl⟩, ho, hc, n, hd⟩ := id hl
  obtain ⟨⟨cls2, dd2, data2, sl2⟩, ho2, hc2, n2, hd2⟩ := id hb
  simp only at hc hd hc2 hd2
  subst hc hd hc2 hd2
  exact richCompare_meets_room (op := .Lt) ⟨_, ho, rfl⟩ ⟨_, ho2, rfl⟩ PySem.F.slot_tuple_lt PySem.F.entry_tuple_lt (PySem.F.args_tuple_lt_2 _ _) (tuple_lt_ints l b items items2 n n2 dd dd2 sl sl2 ns ms hi hj)
    ⟨ho, ho2, show Value.bool (lexLt ns ms) ≠ Value.notImplemented ∧ Q (.bool (lexLt ns ms)) s from ⟨(fun x => nomatch x), h⟩⟩ hu

/-- t + u, t not empty -/
theorem cat_tup {t b : Addr} {vs ws : List Value} {Q : Value → Shared → Prop} (ht : IsTup s.heap t vs.toArray) (hb : IsTup s.heap b ws.toArray) (hv : vs ≠ [])
    (h1 : ws = [] → Q (.ref t) s) (h2 : ws ≠ [] → Q (.ref s.heap.objs.size) { s with heap := s.heap.push { cls := .type "tuple", data := .seq (vs ++ ws).toArray } })
    (hsz : vs.length + ws.length ≤ sizeLine) : wpAny (model prog w) A (binaryOp .Add (.ref t) (.ref b)) Q E s := by
  obtain ⟨⟨cls, dd, data, sl⟩, ho, hc, n, hd⟩ := id ht
  obtain ⟨⟨cls2, dd2, data2, sl2⟩, ho2, hc2, n2, hd2⟩ := id hb
  simp only at hc hd hc2 hd2
  subst hc hd hc2 hd2
  have e : vs.toArray ++ ws.toArray = (vs ++ ws).toArray := by simp
  by_cases hw : ws = []
  · exact concat_meets ⟨_, ho, rfl⟩ ⟨_, ho2, rfl⟩ noFill_tuple_add seq_tuple_add PySem.F.slot_tuple_add PySem.F.entry_tuple_add (PySem.F.args_tuple_add_2 _ _)
      (tuple_addW1 t b vs.toArray ws.toArray n n2 dd dd2 sl sl2 (by simpa using hv) (by simp [hw])) ⟨ho, ho2, h1 hw⟩
  · refine concat_meets ⟨_, ho, rfl⟩ ⟨_, ho2, rfl⟩ noFill_tuple_add seq_tuple_add PySem.F.slot_tuple_add PySem.F.entry_tuple_add (PySem.F.args_tuple_add_2 _ _)
      (tuple_addW2 t b vs.toArray ws.toArray n n2 dd dd2 sl sl2 (by simpa using hv) (by simpa using hw) (by rw [List.size_toArray, List.size_toArray]; exact hsz)) ⟨ho, ho2, ?_⟩
    rw [e]
    exact h2 hw

/-! ### t[a:b], not the whole -/
/-- a slice's bound as a place among n (d where it is left out) -/
def sIx (n d : Nat) : Option Int → Nat
  | none => d
  | some v => if v < 0 then (v + (n : Int)).toNat else min v.toNat n
theorem sIx_none (n d : Nat) : sIx n d none = d := rfl
theorem sIx_nat (n d k : Nat) : sIx n d (some (k : Int)) = min k n := by
  show (if (k : Int) < 0 then ((k : Int) + (n : Int)).toNat else min (k : Int).toNat n) = min k n
  rw [if_neg (by omega), Int.toNat_natCast]
theorem sIx_le (n d : Nat) (hd : d ≤ n) (o : Option Int) : sIx n d o ≤ n := by
  cases o with
  | none => exact hd
  | some v =>
    show (if v < 0 then (v + (n : Int)).toNat else min v.toNat n) ≤ n
    by_cases hv : v < 0
    · rw [if_pos hv]; omega
    · rw [if_neg hv]; exact Nat.min_le_right _ _
theorem clip_eq (v : Int) (n d : Nat) : (if v < 0 then max (v + (n : Int)) 0 else min v (n : Int)) = ((sIx n d (some v) : Nat) : Int) := by
  show (if v < 0 then max (v + (n : Int)) 0 else min v (n : Int)) = (((if v < 0 then (v + (n : Int)).toNat else min v.toNat n) : Nat) : Int)
  by_cases hv : v < 0
  · simp only [if_pos hv]; omega
  · simp only [if_neg hv]; omega
theorem adjust_gen (lo hi : Option Int) (n : Nat) : Builtin.Slice.sliceAdjust lo hi 1 (n : Int) = (((sIx n 0 lo : Nat) : Int), ((sIx n n hi : Nat) : Int)) := by
  have h1 : ¬ ((1 : Int) < 0) := by omega
  unfold Builtin.Slice.sliceAdjust
  simp only [h1, if_false]
  refine Prod.ext ?_ ?_
  · cases lo with
    | none => rfl
    | some v => exact clip_eq v n 0
  · cases hi with
    | none => rfl
    | some v => exact clip_eq v n n
theorem places_gen (i j : Nat) : Builtin.Slice.slicePlaces (i : Int) (j : Int) 1 = j - i := by
  unfold Builtin.Slice.slicePlaces
  have h1 : (1 : Int) > 0 := by omega
  simp only [h1, if_true, Int.ediv_one]
  split <;> omega
theorem slicePart_ {v : Value} {o : Option Int} {Q : Option Int → Shared → Prop} (p : IsPart v o) (h : Q o s) : wpAny (model prog w) A (Builtin.Slice.slicePartIndex v) Q E s := by
  cases p with
  | none => exact slicePart_none h
  | int i t => exact slicePart_int h
theorem sliceApplied_gen {sl : Addr} {vl vu : Value} {lo hi : Option Int} {n : Nat} {Q : Int × Int × Nat → Shared → Prop} (hs : s.heap.IsSliceOf sl vl vu .none) (pl : IsPart vl lo) (pu : IsPart vu hi)
    (h : Q (((sIx n 0 lo : Nat) : Int), 1, sIx n n hi - sIx n 0 lo) s) : wpAny (model prog w) A (Builtin.Slice.sliceApplied (.ref sl) (pure (n : Int))) Q E s := by
  obtain ⟨os, hos, hcs, hds⟩ := id hs
  unfold Builtin.Slice.sliceApplied Builtin.Slice.sliceFields
  refine wpAny_bind (wpAny_bind (wpAny_field hos hds (x := vl) rfl (wpAny_bind (wpAny_field hos hds (x := vu) rfl (wpAny_bind (wpAny_field hos hds (x := .none) rfl (wpAny_pure ?_)))))))
  refine wpAny_bind (slicePart_none ?_)
  show wpAny _ _ (if ((1 : Int) == 0) = true then _ else _) _ _ s
  rw [if_neg (by decide)]
  refine wpAny_bind (slicePart_ pl (wpAny_bind (slicePart_ pu (wpAny_bind (wpAny_pure ?_)))))
  show wpAny _ _ (match Builtin.Slice.sliceAdjust lo hi 1 (n : Int) with | (lo, hi) => pure (lo, (1 : Int), Builtin.Slice.slicePlaces lo hi 1)) _ _ s
  rw [adjust_gen lo hi n]
  show wpAny _ _ (pure (((sIx n 0 lo : Nat) : Int), (1 : Int), Builtin.Slice.slicePlaces ((sIx n 0 lo : Nat) : Int) ((sIx n n hi : Nat) : Int) 1)) _ _ s
  rw [places_gen]
  exact wpAny_pure h
theorem pick_gen (xs : Array Value) (i k : Nat) : ((List.range k).filterMap fun (m : Nat) => xs[((i : Int) + (m : Int) * 1).toNat]?).toArray = ((xs.toList.drop i).take k).toArray := by
  have e : (fun (m : Nat) => xs[((i : Int) + (m : Int) * 1).toNat]?) = fun m => xs[i + m]? := by
    funext m
    have : ((i : Int) + (m : Int) * 1).toNat = i + m := by omega
    rw [this]
  rw [e]
  have := pick_run xs i k
  rw [List.filterMap_map] at this
  have e2 : ((fun x => xs[x]?) ∘ fun x => i + x) = fun m => xs[i + m]? := rfl
  rw [e2] at this
  rw [this]

theorem getItem_tuple_cut {t sl : Addr} {items : Array Value} {vl vu : Value} {lo hi : Option Int} {Q : Value → Shared → Prop} (ht : IsTup s.heap t items) (hs : s.heap.IsSliceOf sl vl vu .none) (pl : IsPart vl lo) (pu : IsPart vu hi)
    (hw : ¬ (sIx items.size 0 lo = 0 ∧ sIx items.size items.size hi = items.size))
    (h : Q (.ref s.heap.objs.size) { s with heap := s.heap.push { cls := .type "tuple", data := .seq ((items.toList.drop (sIx items.size 0 lo)).take (sIx items.size items.size hi - sIx items.size 0 lo)).toArray } })
    (hsz : items.size ≤ sizeLine) : wpAny (model prog w) A (getItem (.ref t) (.ref sl)) Q E s := by
  have htake : sizeOk (.seq ((items.toList.drop (sIx items.size 0 lo)).take (sIx items.size items.size hi - sIx items.size 0 lo)).toArray) := by
    show ((items.toList.drop (sIx items.size 0 lo)).take (sIx items.size items.size hi - sIx items.size 0 lo)).toArray.size ≤ sizeLine
    rw [List.size_toArray, List.length_take, List.length_drop, Array.length_toList]
    omega
  have hj : sIx items.size items.size hi ≤ items.size := sIx_le _ _ (Nat.le_refl _) hi
  obtain ⟨os, hos, hcs, hds⟩ := id hs
  have hTs : s.TypeIs (.ref sl) "slice" := ⟨os, hos, hcs⟩
  unfold getItem
  try with_reducible refine wpAny_holding ?_
  first | refine wpAny_bind (wpAny_pure ?_) | skip
  refine wpAny_bind (wpAny_sequenceKey ht.typeIs (by decide) ?_)
  refine wpAny_bind (wpAny_callSpecial?_slot (name := Str.ofString "__getitem__") ht.typeIs PyProof.Rows.slot_tuple_getitem
    (wpAny_call_entry PyProof.Rows.slot_tuple_getitem ht.typeIs entry_tuple_getitem ?_ (args_tuple_getitem _ _)))
  show wpAny _ _ (Builtin.Tuple.tupleItemsOf (.ref t) >>= _) _ _ s
  refine wpAny_bind (tupleItemsOf_ ht ?_)
  refine wpAny_bind (wpAny_typeOf hTs ?_)
  rw [if_pos (by decide)]
  refine wpAny_bind (sliceApplied_gen hs pl pu ?_)
  have hno : ¬ ((((sIx items.size 0 lo : Nat) : Int) == 0 && (1 : Int) == 1 && (sIx items.size items.size hi - sIx items.size 0 lo) == items.size) = true) := by
    intro q
    rw [Bool.and_eq_true, Bool.and_eq_true] at q
    have q1 : ((sIx items.size 0 lo : Nat) : Int) = 0 := eq_of_beq q.1.1
    have q2 : sIx items.size items.size hi - sIx items.size 0 lo = items.size := eq_of_beq q.2
    exact hw ⟨by omega, by omega⟩
  show wpAny _ _ (if (((sIx items.size 0 lo : Nat) : Int) == 0 && (1 : Int) == 1 && (sIx items.size items.size hi - sIx items.size 0 lo) == items.size) = true then _ else _) _ _ s
  rw [if_neg hno, pick_gen]
  first
    | exact wpAny_bind (m := Builtin.Tuple.tupleExact _) (wpAny_newObj_type (wpAny_pure ⟨_, rfl, wpAny_pure h⟩) htake)
    | exact wpAny_bind (m := Builtin.Tuple.tupleExact _) (wpAny_newObj_type (wpAny_bind (wpAny_pure (wpAny_pure ⟨_, rfl, wpAny_pure h⟩))) htake)
    | exact wpAny_bind (wpAny_bind (m := Builtin.Tuple.tupleExact _) (wpAny_newObj_type (wpAny_pure (wpAny_pure ⟨_, rfl, wpAny_pure h⟩)) htake))
    | exact wpAny_bind (wpAny_bind (m := Builtin.Tuple.tupleExact _) (wpAny_newObj_type (wpAny_pure ⟨_, rfl, wpAny_pure h⟩) htake))
end
end HT

namespace L2
open PySem PySem.Spec PyProof.Rows

/-! ### the parts of a slice -/
abbrev TO := St → Hp → (Option Int → Hp → Prop) → Prop
/-- a slice's part (left out, or an int) -/
def PO (X : Cx) (e : Option Expr) (t : TO) : Prop :=
  ∀ (pins : List (Addr × Obj)) (s : Shared) (σ : St) (H : Hp) (Q : Option Int → Hp → Prop), Inv X pins σ H s → t σ H Q →
    wpAny (model X.prog X.w) X.A (evalPart e X.env) (fun u s' => ∃ o H', Inv X pins σ H' s' ∧ IsPart u o ∧ Q o H') X.xe s
def tNoPart : TO := fun _ H Q => Q none H
def tPart (t : TE) : TO := fun σ H Q => t σ H fun x H1 => ∃ i, x = .int i ∧ Q (some i) H1

theorem intsAre_of {ns : List Int} : ∀ {us : List Value}, Vals (ns.map V.int) us → IntsAre us ns := by
  induction ns with
  | nil => intro us r; rw [List.map_nil] at r; cases r; exact .nil
  | cons n ns ih =>
    intro us r
    rw [List.map_cons] at r
    cases r with
    | cons r1 r2 =>
      obtain ⟨t, e⟩ := r1
      subst e
      exact .cons n t (ih r2)

section
variable {X : Cx} {e : Expr} {te : TE} {lo hi : Option Expr} {tl th : TO} {pos p2 : Pos}

theorem po_none : PO X none tNoPart := by
  intro pins s σ H Q I h
  rw [evalPart_none]
  exact wpAny_pure ⟨none, H, I, .none, h⟩
theorem po_some (h : PE X e te) : PO X (some e) (tPart te) := by
  intro pins s σ H Q I hw
  rw [evalPart_some]
  refine thn (h pins s σ H _ I hw) fun u s1 ⟨x, H1, I1, r1, q1⟩ => ?_
  obtain ⟨i, rfl, q⟩ := q1
  obtain ⟨t, rfl⟩ := r1
  exact ⟨some i, H1, I1, .int i t, q⟩

/-- what a slice of a value is, by values: the slice object stands at sl -/
def SlR (X : Cx) (r : V → Option Int → Option Int → Hp → VK → Prop) : Prop :=
  ∀ (pins : List (Addr × Obj)) (s : Shared) (σ : St) (H : Hp) (x : V) (v vl vu : Value) (lo hi : Option Int) (sl : Addr) (Q : VK), Inv X pins σ H s → RelV x v → s.heap.IsSliceOf sl vl vu .none → IsPart vl lo → IsPart vu hi → r x lo hi H Q →
    ∃ T id, typeLookup (.type T) "__getitem__" = pure (some (.builtin id)) ∧ s.TypeIs v T ∧ wpAny (model X.prog X.w) X.A (getItem v (.ref sl)) (EP X pins σ Q) X.xe s
theorem SlR.or {r r' : V → Option Int → Option Int → Hp → VK → Prop} (h : SlR X r) (h' : SlR X r') : SlR X (fun x lo hi H Q => r x lo hi H Q ∨ r' x lo hi H Q) := by
  intro pins s σ H x v vl vu lo hi sl Q I rx hs pl pu q
  rcases q with q | q
  · exact h pins s σ H x v vl vu lo hi sl Q I rx hs pl pu q
  · exact h' pins s σ H x v vl vu lo hi sl Q I rx hs pl pu q
def tSl (r : V → Option Int → Option Int → Hp → VK → Prop) (te : TE) (tl th : TO) : TE := fun σ H Q => te σ H fun x H1 => tl σ H1 fun l H2 => th σ H2 fun u H3 => r x l u H3 Q
/-- a[lo:hi], any a -/
theorem pe_slice {r : V → Option Int → Option Int → Hp → VK → Prop} (hr : SlR X r) (he : PE X e te) (hl : PO X lo tl) (hu : PO X hi th) : PE X (.Subscript e (.Slice lo hi none p2) pos) (tSl r te tl th) := by
  intro pins s σ H Q I h
  refine Subscript_ (thn (he pins s σ H _ I h) fun v s1 ⟨x, H1, I1, r1, q1⟩ => ?_)
  refine wpAny_Slice (thn (hl pins s1 σ H1 _ I1 q1) fun vl s2 ⟨l, H2, I2, pl, q2⟩ => thn (hu pins s2 σ H2 _ I2 q2) fun vu s3 ⟨u, H3, I3, pu, q3⟩ => ?_)
  rw [evalPart_none]
  refine wpAny_pure ?_
  have I4 : Inv X pins σ H3 { s3 with heap := s3.heap.push { cls := .type "slice", data := .fields #[vl, vu, .none] } } := I3.kept (t' := s3.toks) fun b ob q => Heap.get?_push_of_some _ q
  obtain ⟨T, id, hT, ht, hg⟩ := hr pins { s3 with heap := s3.heap.push { cls := .type "slice", data := .fields #[vl, vu, .none] } } σ H3 x v vl vu l u s3.heap.objs.size Q I4 r1 (Heap.IsSliceOf.new ..) pl pu q3
  show wpAny (model X.prog X.w) X.A (subscriptTail e (.Slice lo hi none p2) v (.ref s3.heap.objs.size)) (EP X pins σ Q) X.xe { s3 with heap := s3.heap.push { cls := .type "slice", data := .fields #[vl, vu, .none] } }
  exact tail_any (ops := [.ref s3.heap.objs.size, v]) ht hT hg (by with_unfolding_all rfl)

/-- the items of xs[lo:hi] -/
def cutV (xs : List V) (lo hi : Option Int) : List V := (xs.drop (HT.sIx xs.length 0 lo)).take (HT.sIx xs.length xs.length hi - HT.sIx xs.length 0 lo)
theorem cutV_length (xs : List V) (lo hi : Option Int) : (cutV xs lo hi).length ≤ xs.length := by
  unfold cutV
  rw [List.length_take, List.length_drop]
  omega
/-- t[lo:hi], not the whole of it (the whole would be t itself) -/
def rSlT (K : PySem.W.Frag) : V → Option Int → Option Int → Hp → VK → Prop := fun x lo hi H Q => ∃ a xs, x = .ref a ∧ SqT K H a xs ∧
  ¬ (HT.sIx xs.length 0 lo = 0 ∧ HT.sIx xs.length xs.length hi = xs.length) ∧ ∀ p, H p = none → Q (.ref p) (upd H p (.tup (cutV xs lo hi)))
theorem sl_tup : SlR X (rSlT X.K) := by
  intro pins s σ H x v vl vu lo hi sl Q I rx hs pl pu h
  obtain ⟨a, xs, rfl, hx, hw, q⟩ := h
  cases rx
  obtain ⟨its, r, ht, hz⟩ := I.tuple hx
  have hlen : its.toArray.size = xs.length := by rw [List.size_toArray]; exact r.length.symm
  refine ⟨"tuple", _, PyProof.Rows.slot_tuple_getitem.lookup, ht.typeIs, ?_⟩
  refine HT.getItem_tuple_cut ht hs pl pu (by rw [hlen]; exact hw) ?_ (by rw [hlen]; exact hz)
  rw [hlen]
  refine ⟨.ref s.heap.objs.size, _, I.laid (t' := s.toks) (o := .tup (cutV xs lo hi)) (fun b ob q => Heap.get?_push_of_some _ q) (Nat.le_refl _) ?_, rfl, q _ (I.hok.fresh (Nat.le_refl _))⟩
  exact ⟨Nat.le_trans (cutV_length xs lo hi) hz, _, (r.drop (HT.sIx xs.length 0 lo)).take (HT.sIx xs.length xs.length hi - HT.sIx xs.length 0 lo), IsTup.new _ _⟩

/-! ### t < u, t + u -/
def rLtT (K : PySem.W.Frag) : R2 := fun x y H Q => ∃ a b ns ms, x = .ref a ∧ y = .ref b ∧ SqT K H a (ns.map V.int) ∧ SqT K H b (ms.map V.int) ∧ Q (.bl (HT.lexLt ns ms)) H
theorem op_ltT (hu : X.A.units < cLine) : OpR X (compareOp .Lt) (rLtT X.K) := by
  intro pins s σ H x y v u Q I rx ry h
  obtain ⟨a, b, ns, ms, rfl, rfl, ha, hb, q⟩ := h
  cases rx
  cases ry
  obtain ⟨its, r1, p1, _⟩ := I.tuple ha
  obtain ⟨its2, r2, p2, _⟩ := I.tuple hb
  have i1 : IntsAre its.toArray.toList ns := intsAre_of r1
  have i2 : IntsAre its2.toArray.toList ms := intsAre_of r2
  exact HT.lt_tupInts p1 p2 i1 i2 hu ⟨.bl (HT.lexLt ns ms), H, I, rfl, q⟩
/-- t + u, t not empty: u empty gives t itself -/
def rCatT (K : PySem.W.Frag) : R2 := fun x y H Q => ∃ a b xs ys, x = .ref a ∧ y = .ref b ∧ SqT K H a xs ∧ SqT K H b ys ∧ xs ≠ [] ∧ xs.length + ys.length ≤ sizeLine ∧
  (ys = [] → Q (.ref a) H) ∧ (ys ≠ [] → ∀ p, H p = none → Q (.ref p) (upd H p (.tup (xs ++ ys))))
theorem Vals.nil_iff {xs : List V} {us : List Value} (r : Vals xs us) : us = [] ↔ xs = [] := by
  cases r with
  | nil => simp
  | cons _ _ => simp
theorem op_catT : OpR X (binaryOp .Add) (rCatT X.K) := by
  intro pins s σ H x y v u Q I rx ry h
  obtain ⟨a, b, xs, ys, rfl, rfl, ha, hb, hx, hz, q1, q2⟩ := h
  cases rx
  cases ry
  obtain ⟨its, r1, p1, _⟩ := I.tuple ha
  obtain ⟨its2, r2, p2, _⟩ := I.tuple hb
  refine HT.cat_tup p1 p2 (fun z => hx (r1.nil_iff.mp z)) (fun z => ⟨.ref a, H, I, rfl, q1 (r2.nil_iff.mp z)⟩) (fun z => ?_) (by rw [← r1.length, ← r2.length]; exact hz)
  refine ⟨.ref s.heap.objs.size, _, I.laid (t' := s.toks) (o := .tup (xs ++ ys)) (fun b ob q => Heap.get?_push_of_some _ q) (Nat.le_refl _) ?_, rfl, q2 (fun w => z (r2.nil_iff.mpr w)) _ (I.hok.fresh (Nat.le_refl _))⟩
  exact ⟨by rw [List.length_append]; exact hz, _, r1.append r2, IsTup.new _ _⟩
/-- tuple(t) -/
theorem call_tupleT : CallR X (.type "tuple") (fun xs H Q => ∃ a ys, xs = [.ref a] ∧ SqT X.K H a ys ∧ Q (.ref a) H) := by
  intro pins s σ H xs us Q I r h
  obtain ⟨a, ys, rfl, ha, q⟩ := h
  obtain ⟨u, rfl, ru⟩ := vals1 r
  cases ru
  obtain ⟨its, _, p1, _⟩ := I.tuple ha
  exact call_tuple_same (items := its.toArray) p1 ⟨.ref a, H, I, rfl, q⟩
end
end L2

namespace L2
open PySem PySem.Spec PyProof.Rows

/-! ### places -/
/-- the place that an index of any sign means -/
def ixN (n : Nat) (i : Int) : Option Nat := if 0 ≤ i then (if i < n then some i.toNat else none) else if -(n : Int) ≤ i then some (i + n).toNat else none
def atI {α : Type} (xs : List α) (i : Int) : Option α := (ixN xs.length i).bind fun j => xs[j]?
theorem ixN_seq {n : Nat} {i : Int} {j : Nat} (h : ixN n i = some j) : seqIndex? i n = some j ∧ j < n ∧ -(n : Int) ≤ i ∧ i < n := by
  unfold ixN at h
  by_cases h0 : 0 ≤ i
  · rw [if_pos h0] at h
    by_cases h1 : i < n
    · rw [if_pos h1] at h
      have e : i.toNat = j := Option.some.inj h
      exact ⟨by rw [seqIndex_of h0 h1, e], by omega, by omega, h1⟩
    · rw [if_neg h1] at h; cases h
  · rw [if_neg h0] at h
    by_cases h1 : -(n : Int) ≤ i
    · rw [if_pos h1] at h
      have e : (i + n).toNat = j := Option.some.inj h
      exact ⟨by rw [seqIndex_neg (by omega) h1, e], by omega, h1, by omega⟩
    · rw [if_neg h1] at h; cases h
theorem atI_get {α : Type} {xs : List α} {i : Int} {v : α} (h : atI xs i = some v) : ∃ j, seqIndex? i xs.length = some j ∧ xs[j]? = some v ∧ j < xs.length ∧ -(xs.length : Int) ≤ i ∧ i < xs.length := by
  unfold atI at h
  cases e : ixN xs.length i with
  | none => rw [e] at h; cases h
  | some j =>
    rw [e] at h
    obtain ⟨h1, h2, h3, h4⟩ := ixN_seq e
    exact ⟨j, h1, h, h2, h3, h4⟩
theorem atI_nat {α : Type} {xs : List α} {j : Nat} {v : α} (h : xs[j]? = some v) : atI xs (j : Int) = some v := by
  have hj : j < xs.length := (List.getElem?_eq_some_iff.mp h).1
  have e : ixN xs.length (j : Int) = some j := by
    unfold ixN
    rw [if_pos (by omega), if_pos (by omega)]; simp
  unfold atI; rw [e]; exact h
theorem atI_last {α : Type} (xs : List α) (v : α) : atI (xs ++ [v]) (-1) = some v := by
  have hl : (xs ++ [v]).length = xs.length + 1 := by simp
  have e : ixN (xs ++ [v]).length (-1) = some xs.length := by
    unfold ixN
    rw [hl, if_neg (by decide), if_pos (by omega)]
    congr 1
    omega
  unfold atI
  rw [e]
  show (xs ++ [v])[xs.length]? = some v
  simp

/-! ### what may be subscripted -/
/-- what stands as an index of a plain subscript -/
def PlainIx (b : Expr) : Prop := ∀ o i, subscripted b false o i = operate [o, i] (getItem o i)
/-- a subscript by values -/
def IxR (X : Cx) (r : R2) : Prop :=
  ∀ (value slice : Expr) (pins : List (Addr × Obj)) (s : Shared) (σ : St) (H : Hp) (x y : V) (v u : Value) (Q : VK), Inv X pins σ H s → RelV x v → RelV y u → r x y H Q →
    subscripted slice false v u = operate [v, u] (getItem v u) → wpAny (model X.prog X.w) X.A (subscriptTail value slice v u) (EP X pins σ Q) X.xe s
/-- a call of a builtin's method by values: the receiver, the arguments -/
def MtR (X : Cx) (id : String) (r : V → List V → Hp → VK → Prop) : Prop :=
  ∀ (pins : List (Addr × Obj)) (s : Shared) (σ : St) (H : Hp) (x : V) (xs : List V) (v : Value) (us : List Value) (Q : VK), Inv X pins σ H s → RelV x v → Vals xs us → r x xs H Q →
    wpAny (model X.prog X.w) X.A (call (.builtin id) (v :: us)) (EP X pins σ Q) X.xe s
section
variable {X : Cx} {a b : Expr} {ta tb : TE} {pos : Pos}
theorem IxR.or {r r' : R2} (h : IxR X r) (h' : IxR X r') : IxR X (fun x y H Q => r x y H Q ∨ r' x y H Q) := by
  intro value slice pins s σ H x y v u Q I rx ry q hs
  rcases q with q | q
  · exact h value slice pins s σ H x y v u Q I rx ry q hs
  · exact h' value slice pins s σ H x y v u Q I rx ry q hs
theorem MtR.or {id : String} {r r' : V → List V → Hp → VK → Prop} (h : MtR X id r) (h' : MtR X id r') : MtR X id (fun x xs H Q => r x xs H Q ∨ r' x xs H Q) := by
  intro pins s σ H x xs v us Q I rx rs q
  rcases q with q | q
  · exact h pins s σ H x xs v us Q I rx rs q
  · exact h' pins s σ H x xs v us Q I rx rs q
/-- a[b] -/
theorem pe_ix {r : R2} (hr : IxR X r) (ha : PE X a ta) (hb : PE X b tb) (hs : PlainIx b) : PE X (.Subscript a b pos) (tOp r ta tb) := by
  intro pins s σ H Q I h
  exact Subscript_ (binT ha hb I h fun v u s2 x y H2 I2 rx ry q => hr a b pins s2 σ H2 x y v u Q I2 rx ry q (hs _ _))

def rIxL (K : PySem.W.Frag) : R2 := fun x y H Q => ∃ p xs i v, x = .ref p ∧ y = .int i ∧ SqL K H p xs ∧ atI xs i = some v ∧ Q v H
def rIxT (K : PySem.W.Frag) : R2 := fun x y H Q => ∃ p xs i v, x = .ref p ∧ y = .int i ∧ SqT K H p xs ∧ atI xs i = some v ∧ Q v H
def rIxS : R2 := fun x y H Q => ∃ z i c, x = .str z ∧ y = .int i ∧ z.length ≤ sizeLine ∧ atI z.cps.toList i = some c ∧ Q (.str ⟨#[c]⟩) H
theorem ix_list : IxR X (rIxL X.K) := by
  intro value slice pins s σ H x y v u Q I rx ry h hs
  obtain ⟨p, xs, i, z, rfl, rfl, hq, he, q⟩ := h
  cases rx
  obtain ⟨t, rfl⟩ := ry
  obtain ⟨its, r, pl, hz⟩ := I.list hq
  obtain ⟨j, h1, h2, h3, h4, h5⟩ := atI_get he
  obtain ⟨w, ew, rw'⟩ := r.get h2
  have hl := r.length
  have hn := line63
  have fin : EP X pins σ Q w s := ⟨z, H, I, rw', q⟩
  by_cases h0 : 0 ≤ i
  · have hj : i.toNat = j := by
      rw [seqIndex_of h0 h5] at h1
      exact Option.some.inj h1
    exact item_listR pl.isList h0 (by omega) (by rw [hj]; simpa using ew) fin hs
  · have hj : (i + (its.toArray.size : Int)).toNat = j := by
      rw [seqIndex_neg (by omega) h4] at h1
      rw [List.size_toArray, ← hl]
      exact Option.some.inj h1
    exact subscriptTail_builtinR (x := w) pl.isList.typeIs slot_list_getitem.lookup
      (wpAny_getItem_list_neg (Q := fun r s' => r = w ∧ EP X pins σ Q r s') pl.isList (by omega) (by rw [List.size_toArray] <;> omega) (by omega) (by rw [hj]; simpa using ew) ⟨rfl, fin⟩) hs
theorem ix_tup : IxR X (rIxT X.K) := by
  intro value slice pins s σ H x y v u Q I rx ry h hs
  obtain ⟨p, xs, i, z, rfl, rfl, hq, he, q⟩ := h
  cases rx
  obtain ⟨t, rfl⟩ := ry
  obtain ⟨its, r, pl, hz⟩ := I.tuple hq
  obtain ⟨j, h1, h2, h3, h4, h5⟩ := atI_get he
  obtain ⟨w, ew, rw'⟩ := r.get h2
  have hl := r.length
  have hn := line63
  have fin : EP X pins σ Q w s := ⟨z, H, I, rw', q⟩
  exact subscriptTail_builtinR (x := w) pl.typeIs slot_tuple_getitem.lookup
    (getItem_tuple (j := j) (Q := fun r s' => r = w ∧ EP X pins σ Q r s') pl (by omega) (by omega) (by rw [List.size_toArray, ← hl]; exact h1) (by simpa using ew) ⟨rfl, fin⟩) hs
theorem ix_str : IxR X rIxS := by
  intro value slice pins s σ H x y v u Q I rx ry h hs
  obtain ⟨z, i, c, rfl, rfl, hz, he, q⟩ := h
  obtain ⟨t, rfl⟩ := rx
  obtain ⟨t', rfl⟩ := ry
  obtain ⟨j, h1, h2, h3, h4, h5⟩ := atI_get he
  have hl : z.cps.toList.length = z.length := by simp [Str.length]
  rw [hl] at h1 h4 h5
  have hn := line63
  exact tail_any (typeIs_str s z t) slot_str_getitem.lookup (getItem_str (c := c) (by
    have e1 : decide (i < -(2 ^ 63 : Int)) = false := decide_eq_false (by omega)
    have e2 : decide (i ≥ 2 ^ 63) = false := decide_eq_false (by omega)
    rw [e1, e2, Bool.or_false]) (by rw [h1]; simpa using h2) ⟨.str ⟨#[c]⟩, H, I.tok _, ⟨_, rfl⟩, q⟩) hs
/-- list, tuple or str -/
def rIx (K : PySem.W.Frag) : R2 := fun x y H Q => rIxL K x y H Q ∨ rIxT K x y H Q ∨ rIxS x y H Q
theorem ix_seq : IxR X (rIx X.K) := ix_list.or (ix_tup.or ix_str)

/-! ### xs[i] = v, any sign -/
/-- the list's object behind a store -/
theorem mapSeq_set (its : List Value) (n j : Nat) (u : Value) : Obj.mapSeq (·.setIfInBounds j u) { cls := .type "list", data := .seq its.toArray n } = { cls := .type "list", data := .seq (its.set j u).toArray n } := by
  simp [Obj.mapSeq]
theorem Inv.lst {pins : List (Addr × Obj)} {σ : St} {H : Hp} {s : Shared} {p : Addr} {xs : List V} (I : Inv X pins σ H s) (h : H p = some (.lst xs)) :
    ∃ (its : List Value) (n : Nat), Vals xs its ∧ s.heap.get? p = some { cls := .type "list", data := .seq its.toArray n } ∧ xs.length ≤ sizeLine := by
  obtain ⟨z, its, n, r, e⟩ := I.hok p _ h
  exact ⟨its, n, r, e, z⟩
/-- the list at p is written by an update of its object -/
theorem Inv.lstUpd {pins : List (Addr × Obj)} {σ : St} {H : Hp} {s : Shared} {p : Addr} {xs ys : List V} {its its' : List Value} {n n' : Nat} {f : Obj → Obj} (I : Inv X pins σ H s) (h : H p = some (.lst xs))
    (ho : s.heap.get? p = some { cls := .type "list", data := .seq its.toArray n }) (hf : f { cls := .type "list", data := .seq its.toArray n } = { cls := .type "list", data := .seq its'.toArray n' }) (r : Vals ys its') (hz : ys.length ≤ sizeLine) (t : Nat) :
    Inv X pins σ (upd H p (.lst ys)) { s with heap := s.heap.update p f, toks := t } := by
  have e : (s.heap.update p f).get? p = some { cls := .type "list", data := .seq its'.toArray n' } := by
    rw [Heap.get?_update_self f ho (by rw [hf] <;> rfl), hf]
  refine I.write (x := p) (e := p) (by rw [h]; trivial) (.inl rfl) (fun b u hb q => (Heap.get?_update_other _ _ (Ne.symm hb)).trans q) ⟨_, e⟩ ?_
  exact ⟨hz, its', n', r, e⟩
def rSetL : V → V → V → Hp → (Hp → Prop) → Prop := fun o i v H Q => ∃ p xs k j, o = .ref p ∧ i = .int k ∧ H p = some (.lst xs) ∧ ixN xs.length k = some j ∧ Q (upd H p (.lst (xs.set j v)))
theorem set_list : PSet X rSetL := by
  intro pins s σ H o i v ov iv u Q I ro ri rv h
  obtain ⟨p, xs, k, j, rfl, rfl, hp, hj, q⟩ := h
  cases ro
  obtain ⟨t, rfl⟩ := ri
  obtain ⟨its, n, r, ho, hz⟩ := I.lst hp
  obtain ⟨h1, h2, h3, h4⟩ := ixN_seq hj
  have hl := r.length
  have hn := line63
  have I' : Inv X pins σ (upd H p (.lst (xs.set j v))) { s with heap := s.heap.update p (Obj.mapSeq (·.setIfInBounds j u)) } :=
    I.lstUpd hp ho (mapSeq_set its n j u) (r.set rv j) (by rw [List.length_set]; exact hz) s.toks
  by_cases h0 : 0 ≤ k
  · have hk : k.toNat = j := by
      rw [seqIndex_of h0 h4] at h1
      exact Option.some.inj h1
    exact PySem.W.ki_setAt ho h0 (by omega) (by rw [List.size_toArray, ← hl]; exact h4) (by rw [hk]; exact ⟨_, I', q⟩)
  · have hk : (k + (its.toArray.size : Int)).toNat = j := by
      rw [seqIndex_neg (by omega) h3] at h1
      rw [List.size_toArray, ← hl]
      exact Option.some.inj h1
    exact PySem.W.ki_setBack ho (by omega) (by rw [List.size_toArray, ← hl]; exact h3) (by omega) (by rw [hk]; exact ⟨_, I', q⟩)

/-! ### slices -/
theorem slice_bounds (lo hi : Option Int) (n : Nat) : (sliceBounds lo hi none n).1 = ((HT.sIx n 0 lo : Nat) : Int) ∧ (sliceBounds lo hi none n).2.1 = ((HT.sIx n n hi : Nat) : Int) ∧ (sliceBounds lo hi none n).2.2 = 1 := by
  refine ⟨?_, ?_, rfl⟩
  · cases lo with
    | none => simp [sliceBounds, HT.sIx]
    | some i =>
      simp only [sliceBounds, HT.sIx, Option.getD_none, show (1 : Int) > 0 by decide, if_true]
      by_cases h : i < 0
      · simp only [h, if_true] <;> omega
      · simp only [h, if_false] <;> omega
  · cases hi with
    | none => simp [sliceBounds, HT.sIx]
    | some i =>
      simp only [sliceBounds, HT.sIx, Option.getD_none, show (1 : Int) > 0 by decide, if_true]
      by_cases h : i < 0
      · simp only [h, if_true] <;> omega
      · simp only [h, if_false] <;> omega
theorem slicePick_cut (its : List Value) (lo hi : Option Int) : slicePick its.toArray lo hi none = ((its.drop (HT.sIx its.length 0 lo)).take (HT.sIx its.length its.length hi - HT.sIx its.length 0 lo)).toArray := by
  obtain ⟨h1, h2, h3⟩ := slice_bounds lo hi its.toArray.size
  unfold slicePick
  rw [h1, h2, h3]
  simp only [sliceRange_one, pick_run, List.size_toArray] <;> rfl
/-- xs[lo:hi] of a list: a new list -/
def rSlL (K : PySem.W.Frag) : V → Option Int → Option Int → Hp → VK → Prop := fun x lo hi H Q => ∃ a xs, x = .ref a ∧ SqL K H a xs ∧ ∀ p, H p = none → Q (.ref p) (upd H p (.lst (cutV xs lo hi)))
theorem sl_list : SlR X (rSlL X.K) := by
  intro pins s σ H x v vl vu lo hi sl Q I rx hs pl pu h
  obtain ⟨a, xs, rfl, hx, q⟩ := h
  cases rx
  obtain ⟨its, r, ht, hz⟩ := I.list hx
  have hlen := r.length
  refine ⟨"list", _, slot_list_getitem.lookup, ht.isList.typeIs, ?_⟩
  refine wpAny_getItem_list_slice ht.isList hs pl pu .none (by simp) ?_ (by rw [List.size_toArray] <;> omega)
  rw [slicePick_cut, ← hlen]
  refine ⟨.ref s.heap.objs.size, _, I.laid (t' := s.toks) (o := .lst (cutV xs lo hi)) (fun b ob q => Heap.get?_push_of_some _ q) (Nat.le_refl _) ?_, rfl, q _ (I.hok.fresh (Nat.le_refl _))⟩
  exact ⟨Nat.le_trans (cutV_length xs lo hi) hz, _, 0, (r.drop (HT.sIx xs.length 0 lo)).take (HT.sIx xs.length xs.length hi - HT.sIx xs.length 0 lo), Heap.get?_push_size _ rfl⟩

/-! ### in, not in: flat items -/
def flatV : V → Bool
  | .non => true
  | .bl _ => true
  | .int _ => true
  | .str _ => true
  | _ => false
/-- == of flat values -/
def eqV : V → V → Bool
  | .non, .non => true
  | .bl a, .bl b => a == b
  | .bl a, .int b => (if a then 1 else 0) == b
  | .int a, .bl b => a == (if b then 1 else 0)
  | .int a, .int b => a == b
  | .str a, .str b => a == b
  | _, _ => false
theorem eqAt_V {A : Around} {s : Shared} {y x : V} {u v : Value} (ry : RelV y u) (rx : RelV x v) (fy : flatV y = true) (fx : flatV x = true) : SeqAt.EqAt A s u v (eqV y x) := by
  cases y with
  | non =>
    cases ry
    cases x with
    | non => cases rx; exact SeqAt.EqAt.same _
    | bl b => cases rx; exact SeqAt.EqAt.none_bool b
    | int b => obtain ⟨t, rfl⟩ := rx; exact SeqAt.EqAt.none_int b t
    | str b => obtain ⟨t, rfl⟩ := rx; exact SeqAt.EqAt.none_str b t
    | _ => exact absurd (show false = true from fx) Bool.false_ne_true
  | bl a =>
    cases ry
    cases x with
    | non => cases rx; exact SeqAt.EqAt.bool_none a
    | bl b => cases rx; exact SeqAt.EqAt.bool_bool a b
    | int b => obtain ⟨t, rfl⟩ := rx; exact SeqAt.EqAt.bool_int a b t
    | str b => obtain ⟨t, rfl⟩ := rx; exact SeqAt.EqAt.bool_str a b t
    | _ => exact absurd (show false = true from fx) Bool.false_ne_true
  | int a =>
    obtain ⟨t', rfl⟩ := ry
    cases x with
    | non => cases rx; exact SeqAt.EqAt.int_none a t'
    | bl b => cases rx; exact SeqAt.EqAt.int_bool a t' b
    | int b => obtain ⟨t, rfl⟩ := rx; exact SeqAt.EqAt.int_int a t' b t
    | str b => obtain ⟨t, rfl⟩ := rx; exact SeqAt.EqAt.int_str a t' b t
    | _ => exact absurd (show false = true from fx) Bool.false_ne_true
  | str a =>
    obtain ⟨t', rfl⟩ := ry
    cases x with
    | non => cases rx; exact SeqAt.EqAt.str_none a t'
    | bl b => cases rx; exact SeqAt.EqAt.str_bool a t' b
    | int b => obtain ⟨t, rfl⟩ := rx; exact SeqAt.EqAt.str_int a t' b t
    | str b => obtain ⟨t, rfl⟩ := rx; exact SeqAt.EqAt.str_str a t' b t
    | _ => exact absurd (show false = true from fx) Bool.false_ne_true
  | _ => exact absurd (show false = true from fy) Bool.false_ne_true
/-- the items' answers, read off the values (a value's own answer does not lean on its token) -/
def eqU (x : V) (u : Value) : Bool := match u with
  | .none => eqV .non x
  | .bool b => eqV (.bl b) x
  | .int i _ => eqV (.int i) x
  | .str z _ => eqV (.str z) x
  | _ => false
theorem eqU_of {x y : V} {u : Value} (r : RelV y u) (f : flatV y = true) : eqU x u = eqV y x := by
  cases y with
  | non => cases r; rfl
  | bl b => cases r; rfl
  | int i => obtain ⟨t, rfl⟩ := r; rfl
  | str z => obtain ⟨t, rfl⟩ := r; rfl
  | _ => exact absurd (show false = true from f) Bool.false_ne_true
theorem any_eqU {x : V} : ∀ {xs : List V} {us : List Value}, Vals xs us → xs.all flatV = true → us.any (eqU x) = xs.any fun y => eqV y x
  | _, _, .nil, _ => rfl
  | y :: xs, u :: us, .cons r t, f => by
    rw [List.all_cons, Bool.and_eq_true] at f
    rw [List.any_cons, List.any_cons, eqU_of r f.1, any_eqU t f.2]
theorem mem_eqAt {A : Around} {s : Shared} {x : V} {v : Value} (rx : RelV x v) (fx : flatV x = true) : ∀ {xs : List V} {us : List Value}, Vals xs us → xs.all flatV = true → ∀ u ∈ us, SeqAt.EqAt A s u v (eqU x u)
  | _, _, .nil, _ => fun u hu => by cases hu
  | y :: xs, u :: us, .cons r t, f => fun u' hu => by
    rw [List.all_cons, Bool.and_eq_true] at f
    rcases List.mem_cons.mp hu with rfl | hu
    · rw [eqU_of r f.1]; exact eqAt_V r rx f.1 fx
    · exact mem_eqAt rx fx t f.2 u' hu
def inV (x : V) (xs : List V) : Bool := xs.any fun y => eqV y x
/-- x in a list or tuple of flat items -/
def rIn (K : PySem.W.Frag) (neg : Bool) : R2 := fun x y H Q => ∃ p xs, y = .ref p ∧ (SqL K H p xs ∨ SqT K H p xs) ∧ flatV x = true ∧ xs.all flatV = true ∧ Q (.bl (if neg then !inV x xs else inV x xs)) H
theorem op_in_seq : OpR X (compareOp .In) (rIn X.K false) := by
  intro pins s σ H x y v u Q I rx ry h
  obtain ⟨p, xs, rfl, hq, fx, fs, q⟩ := h
  cases ry
  rcases hq with hq | hq
  · obtain ⟨its, r, pl, hz⟩ := I.list hq
    refine SeqAt.in_listAt (eqU x) pl.isList (fun w hw => mem_eqAt rx fx r fs w (by simpa using hw)) ⟨.bl _, H, I, rfl, ?_⟩
    rw [show its.toArray.any (eqU x) = its.any (eqU x) by simp, any_eqU r fs]
    exact q
  · obtain ⟨its, r, pl, hz⟩ := I.tuple hq
    refine SeqAt.in_tupleAt (eqU x) pl (fun w hw => mem_eqAt rx fx r fs w (by simpa using hw)) ⟨.bl _, H, I, rfl, ?_⟩
    rw [show its.toArray.any (eqU x) = its.any (eqU x) by simp, any_eqU r fs]
    exact q
theorem op_notIn_seq : OpR X (compareOp .NotIn) (rIn X.K true) := by
  intro pins s σ H x y v u Q I rx ry h
  obtain ⟨p, xs, rfl, hq, fx, fs, q⟩ := h
  cases ry
  rcases hq with hq | hq
  · obtain ⟨its, r, pl, hz⟩ := I.list hq
    refine SeqAt.notIn_listAt (eqU x) pl.isList (fun w hw => mem_eqAt rx fx r fs w (by simpa using hw)) ⟨.bl _, H, I, rfl, ?_⟩
    rw [show its.toArray.any (eqU x) = its.any (eqU x) by simp, any_eqU r fs]
    exact q
  · obtain ⟨its, r, pl, hz⟩ := I.tuple hq
    refine SeqAt.notIn_tupleAt (eqU x) pl (fun w hw => mem_eqAt rx fx r fs w (by simpa using hw)) ⟨.bl _, H, I, rfl, ?_⟩
    rw [show its.toArray.any (eqU x) = its.any (eqU x) by simp, any_eqU r fs]
    exact q
theorem op_notIn_str : OpR X (compareOp .NotIn) (fun x y H Q => ∃ i j, x = .str i ∧ y = .str j ∧ Q (.bl (!(!(Builtin.Str.occurrences j i 0 j.length 1).isEmpty))) H) := by
  intro pins s σ H x y v u Q I rx ry h
  obtain ⟨i, j, rfl, rfl, q⟩ := h
  obtain ⟨t, rfl⟩ := rx
  obtain ⟨t', rfl⟩ := ry
  exact notIn_str ⟨.bl _, H, I, rfl, q⟩

/-! ### len, list(x), tuple(x) of any list or tuple that is read -/
theorem call_len_seq : CallR X (.builtin "len") (fun xs H Q => ∃ p ys, xs = [.ref p] ∧ (SqL X.K H p ys ∨ SqT X.K H p ys) ∧ Q (.int ys.length) H) := by
  intro pins s σ H xs us Q I r h
  obtain ⟨p, ys, rfl, hq, q⟩ := h
  obtain ⟨u, rfl, rx⟩ := vals1 r
  cases rx
  have hn := line63
  rcases hq with hq | hq
  · obtain ⟨its, r', pl, hz⟩ := I.list hq
    have hlen := r'.length
    exact Calls.call_len_list pl.isList (by simp only [List.size_toArray] <;> omega) ⟨.int ys.length, H, I.tok _, ⟨s.toks + 1, by rw [List.size_toArray, hlen]⟩, q⟩
  · obtain ⟨its, r', pl, hz⟩ := I.tuple hq
    have hlen := r'.length
    exact len_tuple pl (by simp only [List.size_toArray] <;> omega) ⟨.int ys.length, H, I.tok _, ⟨s.toks + 1, by rw [List.size_toArray, hlen]⟩, q⟩
theorem call_len_str : CallR X (.builtin "len") (fun xs H Q => ∃ z, xs = [.str z] ∧ z.length ≤ sizeLine ∧ Q (.int z.length) H) := by
  intro pins s σ H xs us Q I r h
  obtain ⟨z, rfl, hz, q⟩ := h
  obtain ⟨u, rfl, t, rfl⟩ := vals1 r
  have hn := line63
  exact len_str (by omega) ⟨.int z.length, H, I.tok _, ⟨_, rfl⟩, q⟩
theorem CallR.or {f : Value} {r r' : List V → Hp → VK → Prop} (h : CallR X f r) (h' : CallR X f r') : CallR X f (fun xs H Q => r xs H Q ∨ r' xs H Q) := by
  intro pins s σ H xs us Q I rs q
  rcases q with q | q
  · exact h pins s σ H xs us Q I rs q
  · exact h' pins s σ H xs us Q I rs q
theorem call_list_of : CallR X (.type "list") (fun xs H Q => ∃ p ys, xs = [.ref p] ∧ (SqL X.K H p ys ∨ SqT X.K H p ys) ∧ ∀ l, H l = none → Q (.ref l) (upd H l (.lst ys))) := by
  intro pins s σ H xs us Q I r h
  obtain ⟨p, ys, rfl, hq, q⟩ := h
  obtain ⟨u, rfl, rx⟩ := vals1 r
  cases rx
  have fin : ∀ (its : List Value), Vals ys its → ys.length ≤ sizeLine → ∀ (h' : Heap) (c' : Nat), (∀ b o', s.heap.get? b = some o' → h'.get? b = some o') →
      h'.get? s.heap.objs.size = some { cls := .type "list", dict := none, data := .seq its.toArray c', slots := #[] } → EP X pins σ Q (.ref s.heap.objs.size) { s with heap := h' } := fun its r' hz h' c' kp e =>
    ⟨.ref s.heap.objs.size, _, I.laid (t' := s.toks) kp (Nat.le_refl _) (show ObjOk X.prog X.w _ h' _ (.lst ys) from ⟨hz, its, c', r', e⟩), rfl, q _ (I.hok.fresh (Nat.le_refl _))⟩
  rcases hq with hq | hq
  · obtain ⟨its, r', pl, hz⟩ := I.list hq
    have hlen := r'.length
    obtain ⟨o, ho, hc, n, hd⟩ := pl.isList
    exact call_list_seq p (.inl rfl) ho hc hd (fun h' c' kp e => fin its r' hz h' c' kp e) (by simp only [List.size_toArray] <;> omega)
  · obtain ⟨its, r', pl, hz⟩ := I.tuple hq
    have hlen := r'.length
    obtain ⟨o, ho, hc, n, hd⟩ := pl
    exact call_list_seq p (.inr rfl) ho hc hd (fun h' c' kp e => fin its r' hz h' c' kp e) (by simp only [List.size_toArray] <;> omega)
theorem call_tuple_of : CallR X (.type "tuple") (fun xs H Q => ∃ p ys, xs = [.ref p] ∧ ((SqL X.K H p ys ∧ ∀ l, H l = none → Q (.ref l) (upd H l (.tup ys))) ∨ (SqT X.K H p ys ∧ Q (.ref p) H))) := by
  intro pins s σ H xs us Q I r h
  obtain ⟨p, ys, rfl, h⟩ := h
  obtain ⟨u, rfl, rx⟩ := vals1 r
  cases rx
  rcases h with ⟨hq, q⟩ | ⟨hq, q⟩
  · obtain ⟨its, r', pl, hz⟩ := I.list hq
    have hlen := r'.length
    refine call_tuple_list pl.isList (fun h' kp => ?_) (by simp only [List.size_toArray] <;> omega)
    have I1 : Inv X pins σ H { s with heap := h' } := I.kept (t' := s.toks) kp
    have I2 : Inv X pins σ (upd H h'.objs.size (.tup ys)) { s with heap := h'.push { cls := .type "tuple", data := .seq its.toArray } } :=
      I1.laid (t' := s.toks) (fun b o e => Heap.get?_push_of_some _ e) (Nat.le_refl _) (show ObjOk X.prog X.w _ _ _ (.tup ys) from ⟨hz, its, r', IsTup.new _ _⟩)
    exact ⟨.ref h'.objs.size, _, I2, rfl, q _ (I1.hok.fresh (Nat.le_refl _))⟩
  · obtain ⟨its, r', pl, hz⟩ := I.tuple hq
    exact call_tuple_same pl ⟨.ref p, H, I, rfl, q⟩

/-! ### the call of a builtin's method: o.m(..) -/
/-- the value is of that builtin type -/
def tyV (K : PySem.W.Frag) (T : String) (x : V) (H : Hp) : Prop := match x with
  | .str _ => T = "str"
  | .int _ => T = "int"
  | .ref p => (T = "list" ∧ ∃ xs, SqL K H p xs) ∨ (T = "tuple" ∧ ∃ o, K.lookup p = some o ∧ o.cls = .type "tuple" ∧ o.dict = none) ∨
      (T = "dict" ∧ ((∃ kvs, H p = some (.dK kvs)) ∨ ∃ kvs, H p = some (.dT kvs))) ∨ (T = "set" ∧ ∃ S n, H p = some (.set S n))
  | _ => False
theorem tyV_is {pins : List (Addr × Obj)} {σ : St} {H : Hp} {s : Shared} {T : String} {x : V} {v : Value} (I : Inv X pins σ H s) (r : RelV x v) (ty : tyV X.K T x H) :
    s.TypeIs v T ∧ ∀ a, v = .ref a → ∃ ob, s.heap.get? a = some ob ∧ ob.dict = none := by
  cases x with
  | str z =>
    obtain ⟨t, rfl⟩ := r
    cases (show T = "str" from ty)
    exact ⟨typeIs_str s z t, fun _ e => nomatch e⟩
  | int i =>
    obtain ⟨t, rfl⟩ := r
    cases (show T = "int" from ty)
    exact ⟨typeIs_int s i t, fun _ e => nomatch e⟩
  | ref p =>
    cases r
    rcases ty with ⟨rfl, xs, hq⟩ | ⟨rfl, o, hk, hc, hd⟩ | ⟨rfl, hk⟩ | ⟨rfl, S, n, hk⟩
    · obtain ⟨its, _, pl, _⟩ := I.list hq
      refine ⟨pl.isList.typeIs, fun a e => ?_⟩
      cases e
      obtain ⟨o, n, e, c, hd, _⟩ := pl
      exact ⟨o, e, hd⟩
    · refine ⟨⟨o, I.kIn p o hk, hc⟩, fun a e => ?_⟩
      cases e
      exact ⟨o, I.kIn _ o hk, hd⟩
    · have z : ∃ o, s.heap.get? p = some o ∧ o.ExactDict := by
        rcases hk with ⟨kvs, hk⟩ | ⟨kvs, hk⟩
        · obtain ⟨_, _, _, _, o, _, _, e, ex, _⟩ := I.hok p _ hk
          exact ⟨o, e, ex⟩
        · obtain ⟨_, _, _, _, o, _, _, e, ex, _⟩ := I.hok p _ hk
          exact ⟨o, e, ex⟩
      obtain ⟨o, e, ex⟩ := z
      refine ⟨⟨o, e, ex.1⟩, fun a e2 => ?_⟩
      cases e2
      exact ⟨o, e, ex.2.1⟩
    · obtain ⟨o, _, _, _, e, ex, _⟩ := I.hok p _ hk
      refine ⟨⟨o, e, ex.1⟩, fun a e2 => ?_⟩
      cases e2
      exact ⟨o, e, ex.2.1⟩
  | _ => exact False.elim ty
def tBM0 (K : PySem.W.Frag) (T : String) (r : V → List V → Hp → VK → Prop) (to : TE) : TE := fun σ H Q => to σ H fun x H1 => tyV K T x H1 ∧ r x [] H1 Q
def tBM (K : PySem.W.Frag) (T : String) (r : V → List V → Hp → VK → Prop) (to : TE) (t : TA) : TE := fun σ H Q => to σ H fun x H1 => tyV K T x H1 ∧ t σ H1 fun xs H2 => r x xs H2 Q
variable {o e : Expr} {es : List Expr} {to : TE} {t : TA} {name : Str} {apos cpos : Pos} {T id : String} {r : V → List V → Hp → VK → Prop}
theorem pe_bm0 (pa : PlainAttrs T) (slot : Slot T name id) (hty : typeOf (.builtin id) = pure (.type "method_descriptor")) (hm : MtR X id r) (ho : PE X o to)
    (hbase : attributeBase o name X.env (eval o X.env) = eval o X.env := by rfl) (hline : (apos.endLine == cpos.line) = true := by rfl) : PE X (.Call (.Attribute o name apos) [] [] cpos) (tBM0 X.K T r to) := by
  intro pins s σ H Q I h
  refine wpAny_Call_method0_late hbase hline (thn (ho pins s σ H _ I h) fun v s1 ⟨x, H1, I1, r1, ty, q1⟩ => ?_)
  obtain ⟨h1, h2⟩ := tyV_is I1 r1 ty
  exact ⟨T, id, pa, slot, hty, h1, h2, Calls.callWith_builtin rfl (PySem.evalArgs_none (hm pins s1 σ H1 x [] v [] Q I1 r1 .nil q1))⟩
theorem pe_bm (pa : PlainAttrs T) (slot : Slot T name id) (hty : typeOf (.builtin id) = pure (.type "method_descriptor")) (hm : MtR X id r) (ho : PE X o to) (ha : PA X (e :: es) t)
    (hbase : attributeBase o name X.env (eval o X.env) = eval o X.env := by rfl)
    (hfew : ((backTo cpos (starEach (e :: es) X.env)).all (fun x => !x.1) && (backToKw cpos (keywordEach [] X.env)).all (fun x => x.1.isSome)
      && decide ((e :: es).length + ([] : List Keyword).length + (if ([] : List Keyword).isEmpty then 0 else 1) < 30)) = true := by rfl)
    (hline : (apos.endLine == cpos.line) = true := by rfl) (hs : starEach (e :: es) X.env = (false, eval e X.env) :: starEach es X.env := by rfl) (hplain : (backTo cpos (starEach es X.env)).any (·.1) = false := by rfl) :
    PE X (.Call (.Attribute o name apos) (e :: es) [] cpos) (tBM X.K T r to t) := by
  intro pins s σ H Q I h
  refine wpAny_Call_method_late hbase hfew hline rfl (thn (ho pins s σ H _ I h) fun v s1 ⟨x, H1, I1, r1, ty, q1⟩ => ?_)
  obtain ⟨h1, h2⟩ := tyV_is I1 r1 ty
  refine ⟨T, id, pa, slot, hty, h1, h2, ?_⟩
  have hA := ha cpos pins s1 σ H1 _ I1 q1
  rw [hs] at hA ⊢
  refine Calls.callWith_builtin (by show (false || (backTo cpos (starEach es X.env)).any (·.1)) = false; rw [hplain] <;> rfl) (Calls.evalArgs_plain ?_)
  exact thn hA fun us s2 ⟨vs, H2, I2, r2, q2⟩ => hm pins s2 σ H2 x vs v us Q I2 r1 r2 q2
/- xs.append(e), list.index on a module's tuple .. are MtR facts of 06m -/
end
end L2

namespace L2
open PySem PySem.Spec PyProof.Rows

def MtM (X : Cx) (id : String) (r : V → List V → Hp → VK → Prop) : Prop :=
  ∀ (pins : List (Addr × Obj)) (s : Shared) (σ : St) (H : Hp) (x : V) (xs : List V) (v : Value) (us : List Value) (Q : VK), Inv X pins σ H s → RelV x v → Vals xs us → r x xs H Q →
    wpAny (model X.prog X.w) X.A (call (.builtin id) (v :: us)) (EP X pins σ Q) X.xe s

/-! ### lists of values -/
theorem Vals.one : ∀ {x : V} {us : List Value}, Vals [x] us → ∃ u, us = [u] ∧ RelV x u
  | _, _, .cons r .nil => ⟨_, rfl, r⟩
theorem Vals.two : ∀ {x y : V} {us : List Value}, Vals [x, y] us → ∃ u v, us = [u, v] ∧ RelV x u ∧ RelV y v
  | _, _, _, .cons r (.cons q .nil) => ⟨_, _, rfl, r, q⟩
theorem Vals.zero : ∀ {us : List Value}, Vals [] us → us = []
  | _, .nil => rfl
theorem Vals.dropLast {xs : List V} {us : List Value} (h : Vals xs us) : Vals xs.dropLast us.dropLast := by
  induction h with
  | nil => exact .nil
  | cons r t ih =>
    cases t with
    | nil => exact .nil
    | cons q t' => exact .cons r ih
theorem Vals.eraseIdx : ∀ {xs : List V} {us : List Value} (i : Nat), Vals xs us → Vals (xs.eraseIdx i) (us.eraseIdx i)
  | _, _, _, .nil => .nil
  | _, _, 0, .cons _ t => t
  | _, _, i + 1, .cons r t => .cons r (Vals.eraseIdx i t)
theorem Vals.reverse {xs : List V} {us : List Value} (h : Vals xs us) : Vals xs.reverse us.reverse := by
  induction h with
  | nil => exact .nil
  | cons r t ih => rw [List.reverse_cons, List.reverse_cons]; exact Vals.append ih (.cons r .nil)
theorem Vals.rep {xs : List V} {us : List Value} (h : Vals xs us) : ∀ k : Nat, Vals (List.replicate k xs).flatten (List.replicate k us).flatten
  | 0 => .nil
  | k + 1 => by
    rw [List.replicate_succ, List.replicate_succ, List.flatten_cons, List.flatten_cons]
    exact Vals.append h (Vals.rep h k)
theorem erase_last {α : Type} (l : List α) : l.eraseIdx (l.length - 1) = l.dropLast := by
  induction l with
  | nil => rfl
  | cons a r ih =>
    cases r with
    | nil => rfl
    | cons b r =>
      have e : (a :: b :: r).length - 1 = ((b :: r).length - 1) + 1 := by
        have h1 : (a :: b :: r).length = r.length + 2 := rfl
        have h2 : (b :: r).length = r.length + 1 := rfl
        omega
      rw [e, List.eraseIdx_cons_succ, ih]
      all_goals rfl
theorem len_erase {α : Type} : ∀ (l : List α) (i : Nat), (l.eraseIdx i).length ≤ l.length
  | [], _ => Nat.le_refl _
  | _ :: _, 0 => Nat.le_succ _
  | _ :: r, i + 1 => Nat.succ_le_succ (len_erase r i)
theorem foldl_rep (its : List Value) : ∀ (k : Nat) (acc : List Value),
    List.foldl (fun x1 x2 => x1 ++ x2) acc.toArray (List.replicate k its.toArray) = (acc ++ (List.replicate k its).flatten).toArray
  | 0, acc => by simp
  | k + 1, acc => by
    have e : acc.toArray ++ its.toArray = (acc ++ its).toArray := by simp
    have e2 : (acc ++ its) ++ (List.replicate k its).flatten = acc ++ (List.replicate (k + 1) its).flatten := by
      rw [List.replicate_succ, List.flatten_cons, List.append_assoc]
    rw [← e2, ← foldl_rep its k (acc ++ its), ← e, List.replicate_succ, List.foldl_cons]

section
variable {X : Cx} {pins : List (Addr × Obj)} {σ : St} {H : Hp} {s : Shared} {l b : Addr} {xs ys zs : List V}

/-! ### the two steps: a tracked list is rewritten, a new list is laid -/
theorem Inv.lset {its its' : List Value} {n : Nat} {f : Array Value → Array Value} {t' : Nat} (I : Inv X pins σ H s) (hH : H l = some (.lst xs))
    (e : s.heap.get? l = some { cls := .type "list", data := .seq its.toArray n }) (hf : f its.toArray = its'.toArray) (hv : Vals ys its') (hz : ys.length ≤ sizeLine) :
    Inv X pins σ (upd H l (.lst ys)) { s with heap := s.heap.update l (Obj.mapSeq f), toks := t' } := by
  have q := PySem.IsL.update e f
  rw [hf] at q
  refine I.write (x := l) (e := l) (by rw [hH]; exact trivial) (.inl rfl) (fun b' u hb hu => (Heap.get?_update_other s.heap (Obj.mapSeq f) (Ne.symm hb)).trans hu) ⟨_, q⟩ ?_
  exact ⟨hz, its', _, hv, q⟩
theorem Inv.lnew {its : List Value} {t' : Nat} (I : Inv X pins σ H s) (hv : Vals ys its) (hz : ys.length ≤ sizeLine) :
    Inv X pins σ (upd H s.heap.objs.size (.lst ys)) { s with heap := s.heap.push { cls := .type "list", data := .seq its.toArray }, toks := t' } :=
  I.laid (fun _ _ q => Heap.get?_push_of_some _ q) (Nat.le_refl _) ⟨hz, its, 0, hv, Heap.get?_push_size _ rfl⟩
theorem Inv.fresh (I : Inv X pins σ H s) : H s.heap.objs.size = none := I.hok.fresh (Nat.le_refl _)
theorem Inv.lstM (I : Inv X pins σ H s) (hH : H l = some (.lst xs)) : xs.length ≤ sizeLine ∧ ∃ (its : List Value) (n : Nat), Vals xs its ∧ xs.length = its.length ∧ s.heap.get? l = some { cls := .type "list", data := .seq its.toArray n } := by
  obtain ⟨z, its, n, r, e⟩ := I.hok l _ hH
  exact ⟨z, its, n, r, r.length, e⟩

theorem notLongL {n : Nat} (h : n ≤ sizeLine) : Builtin.List.listTooLong n = false := by
  unfold Builtin.List.listTooLong
  exact decide_eq_false (by omega)
end

section
variable {X : Cx}

/-! ### methods -/
def rAppend : V → List V → Hp → VK → Prop := fun x vs H Q => ∃ l xs y, x = .ref l ∧ vs = [y] ∧ H l = some (.lst xs) ∧ xs.length < sizeLine ∧ Q .non (upd H l (.lst (xs ++ [y])))
theorem mt_append : MtM X "list.append" rAppend := by
  intro pins s σ H x vs v us Q I rx rv h
  obtain ⟨l, xs, y, rfl, rfl, hH, hz, q⟩ := h
  cases rx
  obtain ⟨u, rfl, ru⟩ := rv.one
  obtain ⟨z, its, n, r, hl, e⟩ := I.lstM hH
  refine call_meets F.slot_list_append ⟨_, e, rfl⟩ F.entry_list_append (F.args_list_append_2 _ _) (PySem.list_append l its.toArray n u (by rw [List.size_toArray]; omega)) ⟨e, ?_⟩
  refine ⟨.non, _, I.lset (its' := its ++ [u]) hH e (by simp) (r.append (.cons ru .nil)) ?_, rfl, q⟩
  rw [List.length_append, List.length_singleton]
  omega

def rExtend : V → List V → Hp → VK → Prop := fun x vs H Q => ∃ l b xs zs, x = .ref l ∧ vs = [.ref b] ∧ H l = some (.lst xs) ∧ H b = some (.lst zs) ∧ xs.length + zs.length ≤ sizeLine ∧ Q .non (upd H l (.lst (xs ++ zs)))
theorem mt_extend : MtM X "list.extend" rExtend := by
  intro pins s σ H x vs v us Q I rx rv h
  obtain ⟨l, b, xs, zs, rfl, rfl, hH, hB, hz, q⟩ := h
  cases rx
  obtain ⟨u, rfl, ru⟩ := rv.one
  cases ru
  obtain ⟨z, its, n, r, hl, e⟩ := I.lstM hH
  obtain ⟨z2, its2, n2, r2, hl2, e2⟩ := I.lstM hB
  have hsz : its.toArray.size + its2.toArray.size ≤ sizeLine := by rw [List.size_toArray, List.size_toArray]; omega
  have hlong : ¬ (!its.toArray.isEmpty && Builtin.List.listTooLong (its.toArray.size + its2.toArray.size)) = true := by
    rw [notLongL hsz, Bool.and_false]
    exact Bool.false_ne_true
  refine call_meets F.slot_list_extend ⟨_, e, rfl⟩ F.entry_list_extend (F.args_list_extend_2 _ _)
    (AutoSeq1.list_extend_list_list_0 l its.toArray n b its2.toArray n2 hlong (by rw [List.size_toArray]; omega) (by omega)) ⟨e, e2, ?_⟩
  refine ⟨.non, _, I.lset (its' := its ++ its2) hH e (by simp) (r.append r2) ?_, rfl, q⟩
  rw [List.length_append]
  omega

def rPop : V → List V → Hp → VK → Prop := fun x vs H Q => ∃ l xs y, x = .ref l ∧ vs = [] ∧ H l = some (.lst xs) ∧ xs[xs.length - 1]? = some y ∧ Q y (upd H l (.lst xs.dropLast))
theorem mt_pop : MtM X "list.pop" rPop := by
  intro pins s σ H x vs v us Q I rx rv h
  obtain ⟨l, xs, y, rfl, rfl, hH, hy, q⟩ := h
  cases rx
  have hus := rv.zero
  subst hus
  obtain ⟨z, its, n, r, hl, e⟩ := I.lstM hH
  obtain ⟨u, hu, ru⟩ := r.get hy
  have hy' : its.toArray[its.toArray.size - 1]? = some u := by
    show its.toArray[its.length - 1]? = some u
    rw [← Array.getElem?_toList, ← hl]
    exact hu
  refine call_meets F.slot_list_pop ⟨_, e, rfl⟩ F.entry_list_pop (F.args_list_pop_1 _) (MeetsSeq.list_pop_last l its.toArray n u hy' (by rw [List.size_toArray]; omega)) ⟨e, ?_⟩
  refine ⟨y, _, I.lset (its' := its.dropLast) hH e ?_ r.dropLast ?_, ru, q⟩
  · show its.toArray.eraseIdxIfInBounds (its.toArray.size - 1) = its.dropLast.toArray
    rw [List.size_toArray, List.eraseIdxIfInBounds_toArray, erase_last]
  · rw [List.length_dropLast]
    omega

def rPopAt : V → List V → Hp → VK → Prop := fun x vs H Q => ∃ l xs i k y, x = .ref l ∧ vs = [.int i] ∧ H l = some (.lst xs) ∧ -(2 ^ 63) ≤ i ∧ i < 2 ^ 63 ∧ seqIndex? i xs.length = some k ∧ xs[k]? = some y ∧ Q y (upd H l (.lst (xs.eraseIdx k)))
theorem mt_popAt : MtM X "list.pop" rPopAt := by
  intro pins s σ H x vs v us Q I rx rv h
  obtain ⟨l, xs, i, k, y, rfl, rfl, hH, h1, h2, hk, hy, q⟩ := h
  cases rx
  obtain ⟨u, rfl, ru⟩ := rv.one
  obtain ⟨t, rfl⟩ := ru
  obtain ⟨z, its, n, r, hl, e⟩ := I.lstM hH
  obtain ⟨w, hw, rw'⟩ := r.get hy
  refine call_meets F.slot_list_pop ⟨_, e, rfl⟩ F.entry_list_pop (F.args_list_pop_2 _ _)
    (MeetsSeq.list_pop_at l its.toArray n i t k w (fitsIndex_both h1 h2) (by rw [List.size_toArray, ← hl]; exact hk) (by rw [← Array.getElem?_toList]; exact hw) (by rw [List.size_toArray]; omega)) ⟨e, ?_⟩
  refine ⟨y, _, I.lset (its' := its.eraseIdx k) hH e ?_ (r.eraseIdx k) ?_, rw', q⟩
  · show its.toArray.eraseIdxIfInBounds k = (its.eraseIdx k).toArray
    rw [List.eraseIdxIfInBounds_toArray]
  · have := len_erase xs k
    omega

def rReverse : V → List V → Hp → VK → Prop := fun x vs H Q => ∃ l xs, x = .ref l ∧ vs = [] ∧ H l = some (.lst xs) ∧ Q .non (upd H l (.lst xs.reverse))
theorem mt_reverse : MtM X "list.reverse" rReverse := by
  intro pins s σ H x vs v us Q I rx rv h
  obtain ⟨l, xs, rfl, rfl, hH, q⟩ := h
  cases rx
  have hus := rv.zero
  subst hus
  obtain ⟨z, its, n, r, hl, e⟩ := I.lstM hH
  refine call_meets F.slot_list_reverse ⟨_, e, rfl⟩ F.entry_list_reverse (F.args_list_reverse_1 _) (AutoSeq1.list_reverse_list_0 l its.toArray n (by rw [List.size_toArray]; omega)) ⟨e, ?_⟩
  refine ⟨.non, _, I.lset (its' := its.reverse) hH e (by simp) r.reverse ?_, rfl, q⟩
  rw [List.length_reverse]
  omega

def rClear : V → List V → Hp → VK → Prop := fun x vs H Q => ∃ l xs, x = .ref l ∧ vs = [] ∧ H l = some (.lst xs) ∧ Q .non (upd H l (.lst []))
theorem mt_clear : MtM X "list.clear" rClear := by
  intro pins s σ H x vs v us Q I rx rv h
  obtain ⟨l, xs, rfl, rfl, hH, q⟩ := h
  cases rx
  have hus := rv.zero
  subst hus
  obtain ⟨z, its, n, r, hl, e⟩ := I.lstM hH
  refine call_meets F.slot_list_clear ⟨_, e, rfl⟩ F.entry_list_clear (F.args_list_clear_1 _) (AutoSeq1.list_clear_list_0 l its.toArray n (by rw [List.size_toArray]; omega)) ⟨e, ?_⟩
  exact ⟨.non, _, I.lset (its' := []) (ys := []) hH e rfl .nil (Nat.zero_le _), rfl, q⟩

/-! ### list + list, list += list, list * int -/
def rCat : R2 := fun x y H Q => ∃ l b xs zs, x = .ref l ∧ y = .ref b ∧ H l = some (.lst xs) ∧ H b = some (.lst zs) ∧ xs.length + zs.length ≤ sizeLine ∧ ∀ p, H p = none → Q (.ref p) (upd H p (.lst (xs ++ zs)))
theorem op_cat : OpR X (binaryOp .Add) rCat := by
  intro pins s σ H x y v u Q I rx ry h
  obtain ⟨l, b, xs, zs, rfl, rfl, hH, hB, hz, q⟩ := h
  cases rx
  cases ry
  obtain ⟨z, its, n, r, hl, e⟩ := I.lstM hH
  obtain ⟨z2, its2, n2, r2, hl2, e2⟩ := I.lstM hB
  refine PySem.P.add_list e e2 ?_ (by rw [List.size_toArray, List.size_toArray]; omega)
  have ea : its.toArray ++ its2.toArray = (its ++ its2).toArray := by simp
  rw [ea]
  exact ⟨.ref _, _, I.lnew (t' := s.toks) (r.append r2) (by rw [List.length_append]; omega), rfl, q _ I.fresh⟩
/-- a list times an int (a negative one is nothing) -/
def rRep : R2 := fun x y H Q => ∃ l k xs, x = .ref l ∧ y = .int k ∧ H l = some (.lst xs) ∧ -(2 ^ 63) ≤ k ∧ k < 2 ^ 63 ∧ xs.length * k.toNat ≤ sizeLine ∧
  ∀ p, H p = none → Q (.ref p) (upd H p (.lst (List.replicate k.toNat xs).flatten))
theorem len_rep {α : Type} (xs : List α) (k : Nat) : (List.replicate k xs).flatten.length = k * xs.length := by
  induction k with
  | zero => simp
  | succ k ih => rw [List.replicate_succ, List.flatten_cons, List.length_append, ih, Nat.succ_mul, Nat.add_comm]
theorem op_rep : OpR X (binaryOp .Mult) rRep := by
  intro pins s σ H x y v u Q I rx ry h
  obtain ⟨l, k, xs, rfl, rfl, hH, h1, h2, hz, q⟩ := h
  cases rx
  obtain ⟨t, rfl⟩ := ry
  obtain ⟨z, its, n, r, hl, e⟩ := I.lstM hH
  have hlen : its.toArray.size * k.toNat ≤ sizeLine := by rw [List.size_toArray, ← hl]; exact hz
  have hcap : ¬ its.toArray.size * k.toNat > (2 ^ 63 - 1) / 8 := by
    have : (sizeLine : Nat) ≤ (2 ^ 63 - 1) / 8 := by decide
    omega
  have hfit : ¬ (!Builtin.List.listFitsIndex k) = true := by
    rw [fitsIndex_both h1 h2]
    exact Bool.false_ne_true
  have hlong : ¬ Builtin.List.listTooLong (its.toArray.size * k.toNat) = true := by
    rw [notLongL hlen]
    exact Bool.false_ne_true
  have hnew : List.foldl (fun x1 x2 => x1 ++ x2) #[] (List.replicate (if its.toArray.isEmpty = true then 0 else k.toNat) its.toArray) = (List.replicate k.toNat its).flatten.toArray := by
    have f0 : ∀ m : Nat, List.foldl (fun x1 x2 => x1 ++ x2) #[] (List.replicate m its.toArray) = (List.replicate m its).flatten.toArray := fun m => by
      have := foldl_rep its m []
      rw [List.nil_append] at this
      exact this
    rw [f0]
    cases its with
    | nil => simp
    | cons a r' => rw [if_neg (by simp)]
  refine wpAny_binaryOp_repeat_ref (T := "list") (U := "int") (by decide) ⟨_, e, rfl⟩ (fun s' => typeIs_int s' k t) noFill_list_mul F.fills_int_mul F.slot_int_rmul repeat_list F.slot_int_index.lookup
    (call_meets F.slot_int_rmul (typeIs_int s k t) F.entry_int_rmul (F.args_int_rmul_2 _ _) (int___rmul___int_list k t l its.toArray n)
      ⟨e, rfl, ⟨_, e, rfl⟩, call_meets F.slot_list_mul ⟨_, e, rfl⟩ F.entry_list_mul (F.args_list_mul_2 _ _) (AutoListH.list___mul___list_int_3 l its.toArray n k t hfit hcap hlong) ⟨e, ?_⟩⟩)
  rw [hnew]
  exact ⟨.ref _, _, I.lnew (t' := s.toks) (r.rep k.toNat) (by rw [len_rep, Nat.mul_comm]; exact hz), rfl, q _ I.fresh⟩

/-! ### del xs[i] -/
theorem del_list {pins : List (Addr × Obj)} {s : Shared} {σ : St} {H : Hp} {l : Addr} {xs : List V} {i : Int} {t : Tok} {k : Nat} {Q : Unit → Shared → Prop} (I : Inv X pins σ H s) (hH : H l = some (.lst xs))
    (h1 : -(2 ^ 63) ≤ i) (h2 : i < 2 ^ 63) (hk : seqIndex? i xs.length = some k) (h : ∀ s', Inv X pins σ (upd H l (.lst (xs.eraseIdx k))) s' → Q () s') :
    wpAny (model X.prog X.w) X.A (delItem (.ref l) (.int i t)) Q X.xe s := by
  obtain ⟨z, its, n, r, hl, e⟩ := I.lstM hH
  refine PySem.P.delItem_list (k := k) e (fitsIndex_both h1 h2) (by rw [List.size_toArray, ← hl]; exact hk) (h _ ?_) (by rw [List.size_toArray]; omega)
  refine I.lset (its' := its.eraseIdx k) (t' := s.toks) hH e ?_ (r.eraseIdx k) ?_
  · show its.toArray.eraseIdxIfInBounds k = (its.eraseIdx k).toArray
    rw [List.eraseIdxIfInBounds_toArray]
  · have := len_erase xs k
    omega
end

/-! ### xs[a:b] = ys -/
section
variable {prog : Program} {w : World} {A : Around} {E : Value → Shared → Prop} {s : Shared}
theorem splice_eq (its its2 : List Value) (a c : Nat) : its.toArray.extract 0 a ++ its2.toArray ++ its.toArray.extract c its.toArray.size = (its.take a ++ its2 ++ its.drop c).toArray := by
  apply Array.toList_inj.mp
  first
    | (simp
       exact List.take_of_length_le (by simp))
    | simp [List.take_of_length_le]
    | simp
theorem bounds_run {a c n : Nat} (hac : a ≤ c) (hc : c ≤ n) : sliceBounds (some (a : Int)) (some (c : Int)) none n = ((a : Int), (c : Int), 1) := by
  simp only [sliceBounds, Option.getD_none]
  have h1 : ¬ ((a : Int) < 0) := by omega
  have h2 : ¬ ((c : Int) < 0) := by omega
  simp only [h1, h2, if_false, show (1 : Int) > 0 by decide, if_true]
  congr 1
  · omega
  · congr 1; omega
set_option maxRecDepth 100000 in
/-- list.__setitem__ with a slice of step one and another list -/
theorem setItem_slice {l b sl : Addr} {items new : Array Value} {n n2 : Nat} {vl vu : Value} {a c : Nat} {Q : Unit → Shared → Prop}
    (e : s.heap.get? l = some { cls := .type "list", data := .seq items n }) (e2 : s.heap.get? b = some { cls := .type "list", data := .seq new n2 }) (hne : l ≠ b)
    (hs : s.heap.IsSliceOf sl vl vu .none) (pl : IsPart vl (some (a : Int))) (pu : IsPart vu (some (c : Int))) (hac : a ≤ c) (hc : c ≤ items.size)
    (hsz : items.size + new.size ≤ sizeLine) (h : Q () { s with heap := s.heap.update l (Obj.mapSeq fun xs => xs.extract 0 a ++ new ++ xs.extract c xs.size) }) :
    wpAny (model prog w) A (setItem (.ref l) (.ref sl) (.ref b)) Q E s := by
  have hl : s.heap.IsList l items := PySem.IsL.isList e
  have hb : s.heap.IsList b new := PySem.IsL.isList e2
  obtain ⟨os, hos, hcs, hds⟩ := id hs
  have hTs : s.TypeIs (.ref sl) "slice" := ⟨os, hos, hcs⟩
  have hstep : ¬ ((rawPart none == rawInt 0) = true) := Bool.false_ne_true
  have hsame : Builtin.List.listSameRef (.ref l) (.ref b) = false := by
    unfold Builtin.List.listSameRef
    exact beq_eq_false_iff_ne.mpr hne
  have hmax : (max (a : Int) (c : Int)).toNat = c := by omega
  have hz' : ((fun xs : Array Value => xs.extract 0 a ++ new ++ xs.extract c xs.size) items).size ≤ sizeLine + 1 := by
    simp only [Array.size_append, Array.size_extract]
    omega
  unfold setItem
  try with_reducible refine wpAny_holding ?_
  first | refine wpAny_bind (wpAny_pure ?_) | skip
  refine wpAny_bind (wpAny_sequenceKey hl.typeIs (by decide) ?_)
  refine wpAny_bind (wpAny_callSpecial?_slot (name := Str.ofString "__setitem__") hl.typeIs slot_list_setitem
    (wpAny_call_entry slot_list_setitem hl.typeIs entry_list_setitem ?_ (args_list_setitem _ _ _)))
  show wpAny _ _ (Builtin.List.listSubscript? (.ref sl) >>= _) _ _ s
  refine wpAny_bind ?_
  unfold Builtin.List.listSubscript?
  refine wpAny_bind (wpAny_specialOf hTs slice_no_index ?_)
  simp only [Option.isNone_none, if_true]
  refine wpAny_pure ?_
  show wpAny _ _ (typeOf (.ref sl) >>= _) _ _ s
  refine wpAny_bind (wpAny_typeOf hTs ?_)
  first
    | rw [if_neg (by decide)]
    | refine PySem.W.KFB.if_not (by decide) ?_
  rw [listSliceParts_eq]
  refine wpAny_bind (wpAny_bind (wpAny_field hos hds (x := .none) rfl (wpAny_bind (wpAny_listPart .none ?_))))
  rw [if_neg hstep]
  refine wpAny_bind (wpAny_field hos hds (x := vl) rfl (wpAny_bind (wpAny_listPart pl ?_)))
  refine wpAny_bind (wpAny_field hos hds (x := vu) rfl (wpAny_bind (wpAny_listPart pu (wpAny_pure ?_))))
  first
    | simp only [hsame, Bool.false_eq_true, if_false]
    | refine PySem.W.KFB.if_not hsame ?_
    | (dsimp only
       rw [if_neg (by rw [hsame]; exact Bool.false_ne_true)])
  refine wpAny_bind (m := Builtin.List.listAllItems (.ref b) "must assign iterable to extended slice") ?_
  unfold Builtin.List.listAllItems
  refine wpAny_bind (wpAny_typeOf hb.typeIs ?_)
  first
    | refine PySem.W.KFB.if_so (by decide) ?_
    | rw [if_pos (by decide)]
    | simp only [beq_self_eq_true, Bool.true_or, if_true]
  unfold Builtin.List.listItems
  refine wpAny_bind (wpAny_seqItems e2 rfl (wpAny_pure ?_))
  refine wpAny_bind (wpAny_bind (wpAny_seqItems e rfl (wpAny_pure ?_)))
  refine wpAny_bind (wpAny_of_eq ((sliceIndices_raw (some (a : Int)) (some (c : Int)) none items.size (by simp)).trans (congrArg (pure : Int × Int × Int → Sem (Int × Int × Int)) (bounds_run hac hc))) ?_)
  show wpAny _ _ (if ((1 : Int) == 1) = true then _ else _) _ _ s
  rw [if_pos (by decide)]
  refine wpAny_bind (wpAny_rule ?_)
  first
    | simp only [notLongL hsz, Bool.false_eq_true, if_false]
    | refine PySem.W.KFB.if_not (notLongL hsz) ?_
  first | refine wpAny_bind (wpAny_pure ?_) | skip
  show wpAny _ _ (updateSeq l (fun xs => xs.extract 0 ((a : Int)).toNat ++ new ++ xs.extract (max (a : Int) (c : Int)).toNat xs.size) >>= _) _ _ s
  rw [hmax, Int.toNat_natCast]
  refine wpAny_bind (wpAny_updateSeq (hz := Nat.le_trans (Nat.le_add_right _ _) hsz) (_hz' := hz') e rfl ?_)
  refine wpAny_bind (wpAny_letGo ?_)
  first
    | exact wpAny_bind (wpAny_pure (wpAny_pure ⟨.none, rfl, wpAny_pure h⟩))
    | exact wpAny_pure ⟨.none, rfl, wpAny_pure h⟩
end

section
variable {X : Cx}
/-- xs[a:c] = ys of another list, at the value level: sl is the slice object that was just made -/
theorem set_slice {pins : List (Addr × Obj)} {s : Shared} {σ : St} {H : Hp} {l b sl : Addr} {xs ys : List V} {a c : Int} {vl vu : Value} {Q : Unit → Shared → Prop} (I : Inv X pins σ H s)
    (hH : H l = some (.lst xs)) (hB : H b = some (.lst ys)) (hne : l ≠ b) (hs : s.heap.IsSliceOf sl vl vu .none) (ra : RelV (.int a) vl) (rc : RelV (.int c) vu) (h0 : 0 ≤ a) (hac : a ≤ c) (hc : c ≤ xs.length)
    (hz : xs.length + ys.length ≤ sizeLine) (h : ∀ s', Inv X pins σ (upd H l (.lst (xs.take a.toNat ++ ys ++ xs.drop c.toNat))) s' → Q () s') :
    wpAny (model X.prog X.w) X.A (setItem (.ref l) (.ref sl) (.ref b)) Q X.xe s := by
  obtain ⟨ta, rfl⟩ := ra
  obtain ⟨tc, rfl⟩ := rc
  obtain ⟨z, its, n, r, hl, e⟩ := I.lstM hH
  obtain ⟨z2, its2, n2, r2, hl2, e2⟩ := I.lstM hB
  obtain ⟨a', rfl⟩ := Int.eq_ofNat_of_zero_le h0
  obtain ⟨c', rfl⟩ := Int.eq_ofNat_of_zero_le (Int.le_trans h0 hac)
  simp only [Int.toNat_natCast] at h
  refine setItem_slice (a := a') (c := c') e e2 hne hs (.int _ _) (.int _ _) (by omega) (by rw [List.size_toArray]; omega) (by rw [List.size_toArray, List.size_toArray]; omega) (h _ ?_)
  refine I.lset (its' := its.take a' ++ its2 ++ its.drop c') (t' := s.toks) hH e ?_ (Vals.append (Vals.append (r.take _) r2) (r.drop _)) ?_
  · exact splice_eq its its2 a' c'
  · rw [List.length_append, List.length_append, List.length_take, List.length_drop]
    omega
end
end L2

namespace Att
open PySem PySem.W PySem.Calls PyProof.Rows

/-! ### the script -/
theorem ints_of_wellAll {P : Params} {h : Heap} : ∀ (ns : List Int) (vs : List Value), WellAll P h vs (ns.map WData.int) → IntsAre vs ns := by
  intro ns
  induction ns with
  | nil =>
    intro vs w
    rw [List.map_nil] at w
    cases w
    exact .nil
  | cons n ns ih =>
    intro vs w
    rw [List.map_cons] at w
    cases w with
    | cons a b =>
      cases a
      exact .cons _ _ (ih _ b)

theorem script_of {l : OpenLaw} {n : Nat} (hn : l.most = some n) {P : Params} {h : Heap} {args : List WData} {vals : List Value}
    (hpre : l.row.toRowW.claim.pre args = true) (hwl : WellAll P h vals args) :
    ∃ a vs ns, vals = [Value.ref a] ∧ args = [WData.list (ns.map WData.int)] ∧ h.get? a = some { cls := .type "list", data := .seq vs.toArray } ∧ IntsAre vs ns ∧ ns.length ≤ n := by
  have hsh : WShape.hasAll [] args [.list .int] = true := (pre_splitW hpre).1
  have hc : l.pre.holds [] { args := args } = true := (pre_splitW hpre).2
  obtain ⟨d, r, rfl, h1, h2⟩ := hasAllW_cons hsh
  obtain rfl := hasAllW_nil h2
  obtain ⟨xs, rfl, h3⟩ := hasW_list h1
  obtain ⟨ns, rfl⟩ := items_int h3
  have hlen : ns.length ≤ n := by
    unfold OpenLaw.pre at hc
    have h4 : (WTm.not (.lt (.lit (.int (n : Int))) (.len (.arg 0)))).holds [] { args := [.list (ns.map .int)] } = true := by
      have h4 := (holds_andW hc).1
      rw [hn] at h4
      exact h4
    have h5 := condW_of h4 (w_not (w_lt w_lit (w_len_list (w_arg rfl))))
    rw [List.length_map] at h5
    refine Nat.le_of_not_lt fun q => ?_
    have q' : (n : Int) < ((ns.length : Nat) : Int) := by omega
    first
      | (rw [decide_eq_true q'] at h5; exact absurd h5 (by decide))
      | (simp at h5; omega)
  cases hwl with
  | cons w1 w2 =>
    cases w2
    cases w1 with
    | list ho hall => exact ⟨_, _, ns, rfl, rfl, ho, ints_of_wellAll ns _ hall, hlen⟩

theorem post_true (l : OpenLaw) (args : List WData) : l.row.toRowW.claim.post args (.bool true) args = true :=
  postW_of (r := l.row.toRowW) (X := (true == true))
    (show WShape.has [] (.bool true) .bool = true by first | rfl | decide | simp [WShape.has, WShape.arms, WShape.armsAll])
    (show (WTm.eq .res (.lit (.bool true))).value [] { args := args, res := some (.bool true), after := args } = some (.bool (true == true)) from w_eq_bool (w_res rfl) w_lit) rfl

/-! ### the attachment: holds_open's last premise (the goal 'hc' behind k_head) from a wpAny of the law's body -/
theorem attach {l : OpenLaw} {n : Nat} {q : Program} {loose : List Str} {XP : (Str → Option Value) → Heap → Prop} {YP : World → Heap → Prop} {d : DefRec} {x : Str}
    (hn : l.most = some n) (hdf : d.params.defaults = [])
    (hbind : ∀ pm cd doc v : Value, bindArgs (docDef d.name d.params d.body d.scope pm cd doc) ⟨[v], []⟩ = pure [(x, v)])
    (hx : d.scope.names.lookup x = some .local ∨ d.scope.names.lookup x = some .cell)
    (hk : d.scope.kind = .function) (hco : d.scope.isCoroutine = false) (hgen : d.scope.isGenerator = false)
    (body : ∀ (w : World) (s₀ s₁ s : Shared) (mg mb : Str → Option Value) (fa : Addr) (o : Obj) (pm cd doc : Value) (a : Addr) (vs : List Value) (ns : List Int),
      Ground q loose [] XP w s₀ mg mb s₁.heap → YP w s₁.heap →
      s₁.heap.get? fa = some o → o.data = .func (docDef d.name d.params d.body d.scope pm cd doc) → s₁.heap.CodeRec cd d.name → mg d.name = some (.ref fa) →
      s₁.heap.get? a = some { cls := .type "list", data := .seq vs.toArray } → IntsAre vs ns → ns.length ≤ n →
      s.gens = #[] → s.os = s₁.os →
      Fr s₁.heap s₁.heap.objs.size s.heap (bindL (envOfC d.name d.scope s₁.heap.objs.size fa cd).kindOf [(x, .ref a)] fun _ => none) →
      Cl s₁.heap.objs.size (cellsFrom (s₁.heap.objs.size + 1) d.scope.names []) s.heap (bindC (envOfC d.name d.scope s₁.heap.objs.size fa cd).kindOf [(x, .ref a)] fun _ => none) →
      wpAny (model l.prog w) (callerA.deeper (envOfC d.name d.scope s₁.heap.objs.size fa cd)) (execs d.body (envOfC d.name d.scope s₁.heap.objs.size fa cd))
        (fun f s' => f = .ret (.bool true) ∧ OldK s₁.heap s'.heap ∧ s'.os = s₁.os ∧ AllBare s'.gens) (fun _ _ => False) s) :
    WalkO q loose XP YP l.row.toRowW d [] (fun f vs => PySem.call f vs) := by
  intro w s₀ s₁ mg mb G Y fa o pm cd doc dV kV ho hd hcd hD hmg hg args vals as hpre hlay hrd hwl hlo
  obtain rfl : dV = .none := Dflts.none hD hdf
  obtain rfl : kV = .none := Dflts.noKw hD
  obtain ⟨a, vs, ns, rfl, rfl, hobj, hints, hlen⟩ := script_of hn hpre hwl
  refine enter_call ?_
  refine call_cells_ret (o := o) (by rw [depth_caller]; decide) ho (fd_plain hd) G.T.nolimit hcd (hbind pm cd doc (.ref a)) (fun y hy => ?_) (fun h₁ tk F X => ?_) hco hgen hk
  · obtain rfl : y = (x, Value.ref a) := List.mem_singleton.mp hy
    rcases hx with e | e
    · exact .inl e
    · exact .inr ⟨e, cellsFrom_some _ _ _ (.inl e)⟩
  · refine wpAny_mono (body w s₀ s₁ { s₁ with heap := h₁, toks := tk } mg mb fa o pm cd doc a vs ns G Y ho (fd_plain hd) hcd hmg hobj hints hlen hg rfl F X) (fun f s' hq => ?_) (fun _ _ hq => hq)
    obtain ⟨rfl, h2, h3, h4⟩ := hq
    exact ⟨.inl ⟨.bool true, .bool true, [], rfl, fun _ => rfl, .bool true, post_true l _, fun _ => ⟨List.Pairwise.nil, fun _ hm => (nomatch hm)⟩⟩, h2, h3, h4⟩

/-- the same from a codeAny of the CALL (for a layer whose function contracts speak of calls) -/
theorem attach_call {l : OpenLaw} {n : Nat} {q : Program} {loose : List Str} {XP : (Str → Option Value) → Heap → Prop} {YP : World → Heap → Prop} {d : DefRec}
    (hn : l.most = some n) (hdf : d.params.defaults = [])
    (call : ∀ (w : World) (s₀ s₁ : Shared) (mg mb : Str → Option Value) (fa : Addr) (o : Obj) (pm cd doc : Value) (a : Addr) (vs : List Value) (ns : List Int),
      Ground q loose [] XP w s₀ mg mb s₁.heap → YP w s₁.heap →
      s₁.heap.get? fa = some o → o.data = .func (docDef d.name d.params d.body d.scope pm cd doc) → s₁.heap.CodeRec cd d.name → mg d.name = some (.ref fa) →
      s₁.heap.get? a = some { cls := .type "list", data := .seq vs.toArray } → IntsAre vs ns → ns.length ≤ n → s₁.gens = #[] →
      codeAny (model l.prog w) callerA (.call (.ref fa) ⟨[.ref a], []⟩) (fun r s' => r = .ok (.ret (.bool true)) ∧ OldK s₁.heap s'.heap ∧ s'.os = s₁.os ∧ AllBare s'.gens) s₁) :
    WalkO q loose XP YP l.row.toRowW d [] (fun f vs => PySem.call f vs) := by
  intro w s₀ s₁ mg mb G Y fa o pm cd doc dV kV ho hd hcd hD hmg hg args vals as hpre hlay hrd hwl hlo
  obtain rfl : dV = .none := Dflts.none hD hdf
  obtain rfl : kV = .none := Dflts.noKw hD
  obtain ⟨a, vs, ns, rfl, rfl, hobj, hints, hlen⟩ := script_of hn hpre hwl
  refine enter_call (codeAny_mono (call w s₀ s₁ mg mb fa o pm cd doc a vs ns G Y ho (fd_plain hd) hcd hmg hobj hints hlen hg) fun r s' hq => ?_)
  obtain ⟨rfl, h2, h3, h4⟩ := hq
  exact ⟨.inl ⟨.bool true, .bool true, [], rfl, fun _ => rfl, .bool true, post_true l _, fun _ => ⟨List.Pairwise.nil, fun _ hm => (nomatch hm)⟩⟩, h2, h3, h4⟩

/-- the same where the top left finished generators (o_head chose holds_openN): nothing may have changed at all and no generator may be left -/
theorem attachN {l : OpenLaw} {n : Nat} {q : Program} {loose : List Str} {XP : (Str → Option Value) → Heap → Prop} {YP : World → Heap → Prop} {d : DefRec} {x : Str}
    (hn : l.most = some n) (hdf : d.params.defaults = [])
    (hbind : ∀ pm cd doc v : Value, bindArgs (docDef d.name d.params d.body d.scope pm cd doc) ⟨[v], []⟩ = pure [(x, v)])
    (hx : d.scope.names.lookup x = some .local ∨ d.scope.names.lookup x = some .cell)
    (hk : d.scope.kind = .function) (hco : d.scope.isCoroutine = false) (hgen : d.scope.isGenerator = false)
    (body : ∀ (w : World) (s₀ s₁ s : Shared) (mg mb : Str → Option Value) (fa : Addr) (o : Obj) (pm cd doc : Value) (a : Addr) (vs : List Value) (ns : List Int),
      Ground q loose [] XP w s₀ mg mb s₁.heap → YP w s₁.heap →
      s₁.heap.get? fa = some o → o.data = .func (docDef d.name d.params d.body d.scope pm cd doc) → s₁.heap.CodeRec cd d.name → mg d.name = some (.ref fa) →
      s₁.heap.get? a = some { cls := .type "list", data := .seq vs.toArray } → IntsAre vs ns → ns.length ≤ n →
      s.gens = #[] → s.os = s₁.os →
      Fr s₁.heap s₁.heap.objs.size s.heap (bindL (envOfC d.name d.scope s₁.heap.objs.size fa cd).kindOf [(x, .ref a)] fun _ => none) →
      Cl s₁.heap.objs.size (cellsFrom (s₁.heap.objs.size + 1) d.scope.names []) s.heap (bindC (envOfC d.name d.scope s₁.heap.objs.size fa cd).kindOf [(x, .ref a)] fun _ => none) →
      wpAny (model l.prog w) (callerA.deeper (envOfC d.name d.scope s₁.heap.objs.size fa cd)) (execs d.body (envOfC d.name d.scope s₁.heap.objs.size fa cd))
        (fun f s' => f = .ret (.bool true) ∧ (∀ b o, s₁.heap.get? b = some o → s'.heap.get? b = some o) ∧ s'.os = s₁.os ∧ s'.gens = #[]) (fun _ _ => False) s) :
    WalkN q loose XP YP l.row.toRowW d [] (fun f vs => PySem.call f vs) := by
  intro w s₀ s₁ mg mb G Y fa o pm cd doc dV kV ho hd hcd hD hmg hg args vals as hpre hlay hrd hwl hlo
  obtain rfl : dV = .none := Dflts.none hD hdf
  obtain rfl : kV = .none := Dflts.noKw hD
  obtain ⟨a, vs, ns, rfl, rfl, hobj, hints, hlen⟩ := script_of hn hpre hwl
  refine enter_callW ?_
  refine call_cells_ret (o := o) (by rw [depth_caller]; decide) ho (fd_plain hd) G.T.nolimit hcd (hbind pm cd doc (.ref a)) (fun y hy => ?_) (fun h₁ tk F X => ?_) hco hgen hk
  · obtain rfl : y = (x, Value.ref a) := List.mem_singleton.mp hy
    rcases hx with e | e
    · exact .inl e
    · exact .inr ⟨e, cellsFrom_some _ _ _ (.inl e)⟩
  · refine wpAny_mono (body w s₀ s₁ { s₁ with heap := h₁, toks := tk } mg mb fa o pm cd doc a vs ns G Y ho (fd_plain hd) hcd hmg hobj hints hlen hg rfl F X) (fun f s' hq => ?_) (fun _ _ hq => hq)
    obtain ⟨rfl, h2, h3, h4⟩ := hq
    exact ⟨.inl ⟨.bool true, .bool true, [], rfl, fun _ => rfl, .bool true, post_true l _, fun _ => ⟨List.Pairwise.nil, fun _ hm => (nomatch hm)⟩⟩, h2, h3, h4⟩

/-! ### rules over ANY heap (no ledger) from facts about the written part K: the library's own take a ledger (News) for what they write -/
section
variable {prog : Program} {w : World} {A : Around} {E : Value → Shared → Prop} {s : Shared} {K : Frag}

/-- a def of the module, or a method (qual 'C.m'), entered: the frame is the next address; cells behind it -/
theorem call_fn {R : Result → Shared → Prop} {name qual : Str} {params : Arguments} {body : List Stmt} {scope : Scope} {dV kV doc pm cdv ct oc : Value} {an od : Option Addr} {osl : Array (Option Value)} {f : Addr} {args : Args} {binds : List (Str × Value)}
    (X : K.In s.heap) (hlim : s.heap.NoLimit) (ho : K.lookup f = some ⟨oc, od, .func (fnOf name qual params body scope dV kV doc pm an cdv ct), osl⟩) (hcd : codeIn K cdv qual = true) (hroom : A.depth < recursionLimit)
    (hbind : BindsTo s (fnOf name qual params body scope dV kV doc pm an cdv ct) args binds)
    (hkind : (binds.all fun y => scope.names.lookup y.1 == some .local || scope.names.lookup y.1 == some .cell) = true)
    (h : ∀ s₁, InCallC s s.heap.objs.size (bindL (envOfC qual scope s.heap.objs.size f cdv).kindOf binds fun _ => none) (cellsFrom (s.heap.objs.size + 1) scope.names [])
        (bindC (envOfC qual scope s.heap.objs.size f cdv).kindOf binds fun _ => none) s₁ →
      wpAny (model prog w) (A.deeper (envOfC qual scope s.heap.objs.size f cdv)) (execs body (envOfC qual scope s.heap.objs.size f cdv))
        (fun fl s' => R (.ok (.ret (match fl with | .ret v => v | _ => .none))) s')
        (fun e s' => wpAny (model prog w) (A.deeper (envOfC qual scope s.heap.objs.size f cdv)) (leaving (envOfC qual scope s.heap.objs.size f cdv) e) (fun _ s'' => R (.error e) s'') (fun e' s'' => R (.error e') s'') s') s₁)
    (hco : scope.isCoroutine = false) (hgen : scope.isGenerator = false) (hk : scope.kind = .function) : codeAny (model prog w) A (.call (.ref f) args) R s := by
  refine codeAny_call_function hroom (X _ _ ho) rfl hco hgen rfl (codeRec_of X hcd) (hbind _ _ _ _ ?_)
  refine wpAny_newFunctionEnv_cells hk (kindsX hkind _) fun env he s₁ x => ?_
  subst he
  exact ⟨hlim.keeps x.toInCall.keep, codeAny_func (h s₁ x)⟩

/-- C(..): dict at size, instance at size + 1, then __init__ -/
theorem make_obj {R : Result → Shared → Prop} {C fI : Addr} {rest : List Value} {kw : List (Str × Value)}
    (X : K.In s.heap) (hm : makesIn K C = true) (hi : findIn K (.ref C) "__init__" = some (some (.ref fI))) (hf : isFn K (.ref fI) = true)
    (h : codeAny (model prog w) (A.under (.builtin "type.__call__" ⟨.ref C :: rest, kw⟩)) (.call (.ref fI) ⟨.ref (s.heap.objs.size + 1) :: rest, kw⟩) (InitBack (s.heap.objs.size + 1) R)
      { s with heap := (s.heap.push emptyDict).push (instObj C s.heap.objs.size) }) : codeAny (model prog w) A (.call (.ref C) ⟨rest, kw⟩) R s := by
  obtain ⟨hh, g, d, t, os⟩ := s
  exact make_core (makes_of X hm) (looks_findIn X hi) (fun self => bind_fn X self (beq_iff_eq.mp hf)) (.inl rfl) h

/-- x.name where the instance's dict holds the name and the class does not -/
theorem get_field {x C : Addr} {ox : Obj} {es : List DictEntry} {n : Nat} {name : Str} {expr : Bool} {v : Value} {Q : Value → Shared → Prop}
    (X : K.In s.heap) (I : PySem.W.InstAt s.heap x ox C (some (dictOf es n))) (hg : plainGet K C name = true) (hh : hasDictIn K C = true) (ha : findIn K (.ref C) name = some none)
    (hl : getL name es = some (some v)) (hv : handedIn v = true) (h : Q v { s with toks := s.toks + 1 }) : wpAny (model prog w) A (getAttr (.ref x) name expr) Q E s :=
  get_value X I (plainGet_of hg).1 (findObj_own hh ha rfl hl) hv h

/-- x.m(..): the method found in the class -/
theorem get_method {x C f : Addr} {ox : Obj} {es : List DictEntry} {n : Nat} {name : Str} {pl : Sem Bool} {Q : Value × List Value → Shared → Prop}
    (X : K.In s.heap) (I : PySem.W.InstAt s.heap x ox C (some (dictOf es n))) (hg : plainGet K C name = true) (hf : findIn K (.ref C) name = some (some (.ref f))) (ht : isFn K (.ref f) = true)
    (hl : getL name es = some none) (h : Q (.ref f, [.ref x]) s) : wpAny (model prog w) A (getMethod (.ref x) name pl) Q E s :=
  method_fn X I (plainGet_of hg).1 (plainGet_of hg).2 hf (beq_iff_eq.mp ht) (by show (lookIn name (dictOf es n)).map _ = _; rw [lookIn_dict, hl]; rfl) h

/-! the whole heap as the ledger: makes every rule that writes through a ledger a rule over any heap -/
def noObjs (h : Heap) : Heap := { h with objs := #[] }
theorem noObjs_get (h : Heap) (b : Addr) : (noObjs h).get? b = none := by
  cases e : (noObjs h).get? b with
  | none => rfl
  | some o => exact absurd (Heap.lt_size e) (Nat.not_lt_zero _)
def ledger (h : Heap) (L d : Addr) : List (Addr × Obj) := (List.range h.objs.size).filterMap fun a => if a = L ∨ a = d then none else (h.get? a).map fun o => (a, o)
theorem mem_ledger {h : Heap} {L d a : Addr} {o : Obj} : (a, o) ∈ ledger h L d ↔ a ≠ L ∧ a ≠ d ∧ h.get? a = some o := by
  unfold ledger
  rw [List.mem_filterMap]
  constructor
  · rintro ⟨b, _, e⟩
    split at e
    · cases e
    · rename_i hb
      obtain ⟨o', ho, e'⟩ := Option.map_eq_some_iff.mp e
      cases e'
      exact ⟨fun q => hb (.inl q), fun q => hb (.inr q), ho⟩
  · rintro ⟨n1, n2, ho⟩
    refine ⟨a, List.mem_range.mpr (Heap.lt_size ho), ?_⟩
    rw [if_neg (show ¬ (a = L ∨ a = d) from fun q => q.elim n1 n2), ho] <;> rfl
theorem news_ledger {h : Heap} {L d : Addr} {od : Obj} (hne : d ≠ L) (ho : h.get? d = some od) : News (noObjs h) L h ([] ++ (d, od) :: ledger h L d) := by
  rintro ⟨a, o⟩ hp
  rcases List.mem_cons.mp hp with e | hp
  · cases e
    exact ⟨ho, hne, noObjs_get _ _⟩
  · obtain ⟨n1, n2, e⟩ := mem_ledger.mp hp
    exact ⟨e, n1, noObjs_get _ _⟩
theorem fr_all {h : Heap} {L : Addr} {m : Str → Option Value} (n : h.Ns L m) : Fr (noObjs h) L h m :=
  ⟨n, fun b o e => (by rw [noObjs_get] at e; cases e), Nat.zero_le _⟩
/-- Upd of the head entry (for append_K, setItem_K ..) -/
theorem upd_ledger {h : Heap} {L d : Addr} {o o' : Obj} : Upd d o o' ((d, o) :: ledger h L d) ((d, o') :: ledger h L d) :=
  .head fun ⟨_, _⟩ hp => (mem_ledger.mp hp).2.1

/-- x.name = v over any heap: L is any namespace of the heap (the frame's, say): its map stays, its object is not told; all else but the dict stays -/
theorem set_field {x C dx L : Addr} {ox : Obj} {m : Str → Option Value} {es es' : List DictEntry} {n n' : Nat} {name : Str} {v : Value} {Q : Unit → Shared → Prop}
    (X : K.In s.heap) (I : PySem.W.InstAt s.heap x ox C (some (dictOf es n))) (hd : ox.dict = some dx) (hL : s.heap.Ns L m) (hne : dx ≠ L)
    (hs : findIn K (.ref C) "__setattr__" = some (some (.builtin "object.__setattr__"))) (hp : plainOver K C = true) (ht : takerIn K C name = some none) (hh : hasDictIn K C = true) (hl : (getL name es).isSome = true)
    (e : (putL name (PyData.keyHash w.params name) (.str name (s.toks + 1)) v es, putN name es n) = (es', n')) (hz : es'.length ≤ 1000)
    (h : ∀ h' : Heap, h'.Ns L m → h'.get? dx = some (dictOf es' n') → (∀ b o, b ≠ dx → b ≠ L → s.heap.get? b = some o → h'.get? b = some o) → Q () { s with heap := h', toks := s.toks + 2 }) :
    wpAny (model prog w) A (setAttr (.ref x) name v) Q E s := by
  obtain ⟨e1, e2⟩ := Prod.mk.inj e
  have hdx : s.heap.get? dx = some (dictOf es n) := by
    have := I.dict
    rw [hd] at this
    exact this
  refine set_plain X I hs (osa_dict (s := { s with toks := s.toks + 1 }) (h₀ := noObjs s.heap) (L := L) (m := m) (od := dictOf es n) (od' := dictOf es' n') (es := es') (n := n') (pre := []) (post := ledger s.heap L dx)
    (fr_all hL) (news_ledger hne hdx) X I hd hp ht hh hl (fun _ q => nomatch q) (fun ⟨_, _⟩ q => (mem_ledger.mp q).2.1) (by rw [putName_dict, e1, e2]) rfl hz fun h' F' N' => ?_)
  exact h h' F'.ns (N'.get (List.Mem.head _)) fun b o n1 n2 ho => N'.get (List.Mem.tail _ (mem_ledger.mpr ⟨n2, n1, ho⟩))
end
end Att

namespace L2
open PySem PySem.Spec PyProof.Rows

theorem vals_ints : ∀ {vs : List Value} {ns : List Int}, IntsAre vs ns → Vals (ns.map V.int) vs
  | _, _, .nil => .nil
  | _, _, .cons n t h => .cons ⟨t, rfl⟩ (vals_ints h)

/-- nothing is tracked but the script, known to the object (or it is an object of the module) -/
def Only (H : Hp) : Prop := ∀ b, H b = none ∨ ∃ o xs, H b = some (.frz o (.lst xs))

/-- THE HEAD: the law's promise, at the heap behind the top. F, the promise of the law's def, may use that base is part of the heap (so K.In base, base.Ns mainGlobals mg stand in Mod) -/
theorem law_call {P : Program} {w : World} {K : PySem.W.Frag} {mg mb : Str → Option Value} {CX : CXT} {k : Nat} {fa a : Addr} {fd : FuncData} {x : Str} {sp : Sp} {s₁ : Shared} {vs : List Value} {ns : List Int}
    (KX : K.In s₁.heap) (hns : s₁.heap.Ns mainGlobals mg) (hb : s₁.heap.Ns builtinsNs mb) (hbb : ∀ x : Str, x ≠ "__name__" → mb x = bootBuiltins x) (hlim : s₁.heap.NoLimit) (hg : s₁.gens = #[])
    (ha : s₁.heap.get? a = some { cls := .type "list", data := .seq vs.toArray }) (hi : IntsAre vs ns) (hl : ns.length ≤ sizeLine) (hr : Room k callerA)
    (F : ∀ base : Heap, K.In base → base.Ns mainGlobals mg → FnOk P w K mg base CX k fa fd [x] sp) (hbind : ∀ (s : Shared) (u : Value), BindsTo s fd ⟨[u], []⟩ [(x, u)])
    (hsp : ∀ H : Hp, Only H → SqL K H a (ns.map V.int) → sp [.ref a] H (fun v _ => v = .bl true) fun _ _ _ => False)
    (hCX : ∀ H e s', CX [] H s₁ (fun _ _ _ => False) e s' → False) :
    codeAny (model P w) callerA (.call (.ref fa) ⟨[.ref a], []⟩) (fun r s' => r = .ok (.ret (.bool true)) ∧ OldK s₁.heap s'.heap ∧ s'.os = s₁.os ∧ AllBare s'.gens) s₁ := by
  have rv := vals_ints hi
  have lenV := hi.length
  -- from an abstract heap in which nothing but the script may be tracked
  have core : ∀ H : Hp, Only H → SqL K H a (ns.map V.int) → HOk P w H s₁.heap → (∀ b, H b ≠ none → b = a) → (H a ≠ none → K.lookup a = none) →
      codeAny (model P w) callerA (.call (.ref fa) ⟨[.ref a], []⟩) (fun r s' => r = .ok (.ret (.bool true)) ∧ OldK s₁.heap s'.heap ∧ s'.os = s₁.os ∧ AllBare s'.gens) s₁ := by
    intro H hO hS hok hA hK
    have base_of : ∀ {b : Addr} {o : Obj}, s₁.heap.get? b = some o → H b = none → (hidT s₁.heap H).get? b = some o := fun e n => hidT_get e n
    have noA : ∀ {b : Addr} {o : Obj} {es : Array DictEntry} {ep : Nat}, s₁.heap.get? b = some o → o.data = .dict es ep → H b = none := fun {b o es ep} e d => by
      cases q : H b with
      | none => rfl
      | some u =>
        have e' : b = a := hA b (by rw [q]; simp)
        subst e'
        rw [ha] at e; cases e
        have d' : Data.seq vs.toArray _ = Data.dict es ep := d
        cases d'
    have nsK : ∀ {b : Addr} {m : Str → Option Value}, s₁.heap.Ns b m → (hidT s₁.heap H).Ns b m := fun {b m} ⟨o, es, ep, e, d, r⟩ => ⟨o, es, ep, base_of e (noA e d), d, r⟩
    have hKb : K.In (hidT s₁.heap H) := fun b o e => base_of (KX b o e) (by
      cases q : H b with
      | none => rfl
      | some u =>
        have e' : b = a := hA b (by rw [q]; simp)
        subst e'
        rw [hK (by rw [q]; simp)] at e; cases e)
    have hM : Mod K mg (hidT s₁.heap H) := ⟨hKb, nsK hns, ⟨mb, nsK hb, hbb⟩, let ⟨mc, h1, h2⟩ := hlim; ⟨mc, nsK h1, h2⟩⟩
    have e0 : Env0 P w K mg (hidT s₁.heap H) callerA [] s₁ H := ⟨rfl, hM, fun b o e => of_hidT e, Nat.le_of_eq (hidT_size _ _), trivial, fun b hb => absurd (show b ∈ ([] : List Addr) from hb) (by simp), hok, .of_eq hg⟩
    refine codeAny_mono ((F _ hKb (nsK hns)).run callerA [] s₁ H ⟨[.ref a], []⟩ [.ref a] [.ref a] _ _ hr e0 (hbind s₁ (.ref a)) (.cons rfl .nil) (hsp H hO hS)) fun r s' h => ?_
    cases r with
    | error e => exact (hCX H e s' h).elim
    | ok fl =>
      cases fl with
      | next => exact False.elim h
      | brk => exact False.elim h
      | cont => exact False.elim h
      | ret u =>
        obtain ⟨v, H', os, bare, un, hok', r', q⟩ := h
        have q' : v = .bl true := q
        subst q'
        obtain rfl : u = Value.bool true := r'
        refine ⟨rfl, OldK.of_keep fun b o e => ?_, os, bare⟩
        cases q : H b with
        | none => exact un.keep b o e q (by intro z; exact absurd (show b ∈ ([] : List Addr) from z) (by simp)) (by simp)
        | some u =>
          rcases hO b with z | ⟨ob, xs, z⟩
          · rw [q] at z; cases z
          · have z2 := un.frzs b ob _ z
            obtain ⟨e1, _⟩ := hok b _ z
            obtain ⟨e2, _⟩ := hok' b _ z2
            rw [e] at e1; cases e1
            exact e2
  cases hk : K.lookup a with
  | some o =>
    -- the script is one of the module's own objects
    have e := KX a o hk
    rw [ha] at e
    cases e
    refine core (fun _ => none) (fun _ => .inl rfl) (.inr ⟨_, vs.toArray, _, hk, rfl, rfl, rfl, by rw [List.size_toArray, lenV]; exact hl, by simpa using rv⟩) (fun b u z => by have z' : (none : Option HO) = some u := z; cases z') (fun b z => absurd rfl z) fun z => absurd rfl z
  | none =>
    refine core (fun b => if b = a then some (.frz { cls := .type "list", data := .seq vs.toArray } (.lst (ns.map V.int))) else none) (fun b => ?_) (.inl (.inr ⟨{ cls := .type "list", data := .seq vs.toArray }, if_pos rfl⟩)) (fun b u z => ?_) (fun b z => ?_) fun _ => hk
    · by_cases hb : b = a
      · exact .inr ⟨_, _, if_pos hb⟩
      · exact .inl (if_neg hb)
    · by_cases hb : b = a
      · have z' := (if_pos hb).symm.trans z
        cases z'
        subst hb
        exact ⟨ha, by rw [List.length_map]; exact hl, vs, _, rv, ha⟩
      · have z' := (if_neg hb).symm.trans z
        cases z'
    · by_cases hb : b = a
      · exact hb
      · exact absurd (if_neg hb) z
end L2

namespace L2
open PySem PySem.Spec PyProof.Rows

abbrev KOf {K : PySem.W.Frag} {h : Heap} (_ : K.In h) : PySem.W.Frag := K

/-- the goal that k_head leaves (case hc), from the law's promise. F gives the function object fd (K's own) once, then the promise over every base -/
theorem walk_of {l : PySem.W.OpenLaw} {n k : Nat} {q : Program} {loose : List Str} {XP : (Str → Option Value) → Heap → Prop} {YP : World → Heap → Prop} {d : DefRec} {K : Params → PySem.W.Frag} {CX : World → CXT} {sp : World → Sp} {x : Str}
    (hn : l.most = some n) (hn2 : n ≤ sizeLine) (hdf : d.params.defaults = []) (hr : Room k callerA)
    (hY : ∀ (w : World) (h : Heap), YP w h → (K w.params).In h)
    (F : ∀ (w : World) (mg : Str → Option Value) (fa : Addr) (h : Heap), (K w.params).In h → h.Ns mainGlobals mg → mg d.name = some (.ref fa) →
      ∃ fd : FuncData, (∀ (s : Shared) (u : Value), BindsTo s fd ⟨[u], []⟩ [(x, u)]) ∧
        ∀ base : Heap, (K w.params).In base → base.Ns mainGlobals mg → FnOk l.prog w (K w.params) mg base (CX w) k fa fd [x] (sp w))
    (hsp : ∀ (w : World) (H : Hp) (a : Addr) (ns : List Int), ns.length ≤ n → Only H → SqL (K w.params) H a (ns.map V.int) → sp w [.ref a] H (fun v _ => v = .bl true) fun _ _ _ => False)
    (hCX : ∀ (w : World) (H : Hp) (s : Shared) (e : Value) (s' : Shared), CX w [] H s (fun _ _ _ => False) e s' → False) :
    PySem.W.WalkO q loose XP YP l.row.toRowW d [] (fun f vs => PySem.call f vs) := by
  refine Att.attach_call hn hdf fun w s₀ s₁ mg mb fa o pm cd doc a vs ns G Y ho hd hcd hmg hobj hints hlen hg => ?_
  have KX := hY w _ Y
  obtain ⟨fd, hb, hF⟩ := F w mg fa _ KX G.T.g hmg
  exact law_call KX G.T.g G.T.b G.T.builtins G.T.nolimit hg hobj hints (Nat.le_trans hlen hn2) hr hF hb (fun H hO hS => hsp w H a ns hlen hO hS) fun H e s' => hCX w H s₁ e s'
/-- the same where the promise hangs on the written part alone: (sp := My.sp_law), no hole under a binder -/
theorem walk_ofK {l : PySem.W.OpenLaw} {n k : Nat} {q : Program} {loose : List Str} {XP : (Str → Option Value) → Heap → Prop} {YP : World → Heap → Prop} {d : DefRec} {K : Params → PySem.W.Frag} {CX : CXT} {sp : PySem.W.Frag → Sp} {x : Str}
    (hn : l.most = some n) (hn2 : n ≤ sizeLine) (hdf : d.params.defaults = []) (hr : Room k callerA)
    (hY : ∀ (w : World) (h : Heap), YP w h → (K w.params).In h)
    (F : ∀ (w : World) (mg : Str → Option Value) (fa : Addr) (h : Heap), (K w.params).In h → h.Ns mainGlobals mg → mg d.name = some (.ref fa) →
      ∃ fd : FuncData, (∀ (s : Shared) (u : Value), BindsTo s fd ⟨[u], []⟩ [(x, u)]) ∧
        ∀ base : Heap, (K w.params).In base → base.Ns mainGlobals mg → FnOk l.prog w (K w.params) mg base CX k fa fd [x] (sp (K w.params)))
    (hsp : ∀ (K : PySem.W.Frag) (H : Hp) (a : Addr) (ns : List Int), ns.length ≤ n → Only H → SqL K H a (ns.map V.int) → sp K [.ref a] H (fun v _ => v = .bl true) fun _ _ _ => False)
    (hCX : ∀ (H : Hp) (s : Shared) (e : Value) (s' : Shared), CX [] H s (fun _ _ _ => False) e s' → False) :
    PySem.W.WalkO q loose XP YP l.row.toRowW d [] (fun f vs => PySem.call f vs) :=
  walk_of (K := K) (CX := fun _ => CX) (sp := fun w => sp (K w.params)) hn hn2 hdf hr hY F (fun w H a ns h1 h2 h3 => hsp (K w.params) H a ns h1 h2 h3) fun _ H s e s' => hCX H s e s'
end L2



/-! SHORT WORDS over the layer: a def of the text, its body, what a loop and a test want. -/
namespace L2
open PySem PySem.Spec PyProof.Rows

/-! ### the text by places -/
/-- the j-th statement of a class's body -/
def inClass (s : Stmt) (j : Nat) : Stmt := match s with
  | .ClassDef _ _ _ body _ _ _ _ _ _ _ => body.getD j (.Pass ⟨0, 0, 0, 0⟩)
  | _ => .Pass ⟨0, 0, 0, 0⟩
def defArgs (s : Stmt) : Arguments := match s with
  | .FunctionDef _ a _ _ _ _ _ _ _ _ => a
  | _ => { posonlyargs := [], args := [], vararg := none, kwonlyargs := [], kw_defaults := [], kwarg := none, defaults := [] }
def defBody (s : Stmt) : List Stmt := match s with
  | .FunctionDef _ _ b _ _ _ _ _ _ _ => b
  | _ => []
def defScope (s : Stmt) : Scope := match s with
  | .FunctionDef _ _ _ _ _ _ sc _ _ _ => sc
  | _ => { kind := .function, names := [], isGenerator := false, isCoroutine := false }

/-! ### no exception leaves a def -/
abbrev CX0 : CXT := fun _ _ _ _ _ _ => False
abbrev E0 : XK := fun _ _ _ => False
theorem pass0 {X : Cx} : Passes CX0 X E0 := fun _ _ _ _ _ _ _ h => h.elim

/-! ### a def (or method) of the text as it stands behind the top -/
structure Fun (K : PySem.W.Frag) (x qual : Str) (st : Stmt) (f : Addr) (fd : FuncData) : Prop where
  ex : ∃ (oc : Value) (od : Option Addr) (kV doc pm : Value) (an : Option Addr) (cdv ct : Value) (osl : Array (Option Value)),
    fd = PySem.W.fnOf x qual (defArgs st) (defBody st) (defScope st) .none kV doc pm an cdv ct ∧ K.lookup f = some ⟨oc, od, .func fd, osl⟩ ∧ PySem.W.codeIn K cdv qual = true
  kp : PySem.W.keepIn K (.ref f) = true
section
variable {P : Program} {w : World} {K : PySem.W.Frag} {mg : Str → Option Value} {base : Heap}
/-- THE RULE for a def: its body as a term of rules, and the reading of that term -/
theorem Fun.ok {x qual : Str} {st : Stmt} {f : Addr} {fd : FuncData} {N ps : List Str} {k : Nat} {sp : Sp} (F : Fun K x qual st f fd) (S : FnScope N ps (defScope st)) (len : ∀ vs H Q E, sp vs H Q E → vs.length = ps.length)
    (hbody : ∀ (cdv : Value) (A : Around) (outer : List Env) (s : Shared) (H : Hp) (vs : List V) (Q : VK) (E : XK), Room k (A.deeper (envOfC qual (defScope st) s.heap.objs.size f cdv)) → sp vs H Q E →
      ∃ t, PSs (cxOf CX0 P w K mg base N qual (defScope st) f cdv A outer s H E).nox (defBody st) t ∧ t { nx := fun _ H' => Q .non H', rt := Q } (start N vs) H) : FnOk P w K mg base CX0 (k + 1) f fd ps sp := by
  obtain ⟨oc, od, kV, doc, pm, an, cdv, ct, osl, rfl, lk, hcd⟩ := F.ex
  refine fn_of lk hcd S len fun A outer s H vs Q E hr hsp => ?_
  obtain ⟨t, h, q⟩ := hbody cdv A outer s H vs Q E hr hsp
  exact ⟨t, h.nox, q⟩
/-- how its arguments bind (no defaults): h is «fun _ _ _ _ _ _ us hl => match us, hl with | [_, _], _ => rfl», one _ a parameter -/
theorem Fun.binds {x qual : Str} {st : Stmt} {f : Addr} {fd : FuncData} {ps : List Str} (F : Fun K x qual st f fd)
    (h : ∀ (kV doc pm : Value) (an : Option Addr) (cdv ct : Value) (us : List Value), us.length = ps.length → bindArgs (PySem.W.fnOf x qual (defArgs st) (defBody st) (defScope st) .none kV doc pm an cdv ct) ⟨us, []⟩ = pure (ps.zip us)) : Binds K fd ps [] := by
  obtain ⟨oc, od, kV, doc, pm, an, cdv, ct, osl, rfl, lk, hcd⟩ := F.ex
  exact .all (h kV doc pm an cdv ct)
theorem fun_mk {x qual : Str} {st : Stmt} {f : Addr} {oc : Value} {od an : Option Addr} {osl : Array (Option Value)} {kV doc pm cdv ct : Value} (l : K.lookup f = some ⟨oc, od, .func (PySem.W.fnOf x qual (defArgs st) (defBody st) (defScope st) .none kV doc pm an cdv ct), osl⟩)
    (c : PySem.W.codeIn K cdv qual = true) (k : PySem.W.keepIn K (.ref f) = true) : Fun K x qual st f (PySem.W.fnOf x qual (defArgs st) (defBody st) (defScope st) .none kV doc pm an cdv ct) := ⟨⟨oc, od, kV, doc, pm, an, cdv, ct, osl, rfl, l, c⟩, k⟩
end
theorem hu_of {A : Around} {k : Nat} (hr : Room k A) : A.units + 1 < cLine := Nat.lt_of_le_of_lt (Nat.add_le_add_left (by decide : 1 ≤ 64) _) hr.units
theorem small1000 {n : Nat} (h : n ≤ 1000) : n < sizeLine := Nat.lt_of_le_of_lt h (by decide)

/-! ### expressions in short: the name that stands in the i-th slot -/
section
variable {X : Cx}
theorem pv (i : Nat) {x : Str} {pos : Pos} (hN : X.N[i]? = some x := by rfl) (hv : Vis X.env.scope x := by first | exact Or.inl rfl | exact Or.inr (Or.inl rfl) | exact Or.inr (Or.inr rfl)) (hd : (x == ("__debug__" : Str)) = false := by decide)
    (hcd : (x == ("__classdict__" : Str)) = false := by decide) : PE X (.Name x pos) (tVar i) := pe_var hN hv hd hcd
end

/-! ### tests -/
theorem iteF {A B : Prop} (h : B) : if false = true then A else B := by
  rw [if_neg Bool.false_ne_true]
  exact h
theorem iteT {A B : Prop} (h : A) : if true = true then A else B := by
  rw [if_pos rfl]
  exact h
theorem ite2 {c A B : Prop} [Decidable c] (h1 : c → A) (h2 : ¬ c → B) : if c then A else B := by
  by_cases h : c
  · rw [if_pos h]
    exact h1 h
  · rw [if_neg h]
    exact h2 h
theorem iteNS {c A B : Prop} [Decidable c] (hc : c) (h : B) : if (!decide c) = true then A else B := by
  rw [decide_eq_true hc]
  exact iteF h

/-! ### heaps -/
/-- all that was tracked is as it was -/
def Same (H H' : Hp) : Prop := ∀ b o, H b = some o → H' b = some o
theorem Same.refl (H : Hp) : Same H H := fun _ _ h => h
theorem Same.trans {H H1 H2 : Hp} (a : Same H H1) (b : Same H1 H2) : Same H H2 := fun c o h => b c o (a c o h)
theorem Same.free {H H' : Hp} (e : Same H H') {l : Addr} (h : H' l = Option.none) : H l = Option.none := by
  cases q : H l with
  | none => rfl
  | some o =>
    rw [e l o q] at h
    cases h
theorem Same.seq {K : PySem.W.Frag} {H H' : Hp} {a : Addr} {xs : List V} (e : Same H H') (h : SqL K H a xs) : SqL K H' a xs := by
  rcases h with (h | ⟨o, h⟩) | h
  · exact .inl (.inl (e _ _ h))
  · exact .inl (.inr ⟨o, e _ _ h⟩)
  · exact .inr h

end L2

set_option maxHeartbeats 4000000
/-! ### own rules beside the layer: comprehensions -/
namespace L2
open PySem PySem.Spec PyProof.Rows

theorem hok_track {P : Program} {w : World} {H : Hp} {h : Heap} {a : Addr} {o : HO} (x : HOk P w H h) (hn : H a = none) (new : ObjOk P w (upd H a o) h a o) : HOk P w (upd H a o) h := fun b u e => by
  by_cases hb : b = a
  · subst hb; rw [upd_same] at e; cases e; exact new
  · rw [upd_ne hb] at e
    exact (x b u e).stay (fun c v _ q => q) (fun c q => by rw [upd_ne (ne_of_none q hn)]; exact q) fun c xs q => by rw [upd_ne (ne_of_none q hn)]; exact q

theorem forIn_fold {α β : Type} {f : α → β → Sem (ForInStep β)} (g : α → β → β) : ∀ (l : List α) (c : β), (∀ x ∈ l, ∀ c, f x c = pure (.yield (g x c))) → forIn l c f = pure (l.foldl (fun c x => g x c) c)
  | [], _, _ => rfl
  | x :: l, c, h => by
    rw [List.forIn_cons, h x List.mem_cons_self, pure_bind]
    exact forIn_fold g l (g x c) fun y hy => h y (List.mem_cons_of_mem _ hy)

def closG (env : Env) (x : Str × NameKind) (cs : List (Str × Addr)) : List (Str × Addr) :=
  if x.2 = .free then (match env.cells.lookup x.1 with | some c => (x.1, c) :: cs | none => cs) else cs
def clos (env : Env) (l : List (Str × NameKind)) (c : List (Str × Addr)) : List (Str × Addr) := l.foldl (fun c x => closG env x c) c
theorem closureFor_eq {env : Env} {scope : Scope} (h : ∀ y ∈ scope.names, y.2 = .free → ∃ c, env.cells.lookup y.1 = some c) : closureFor scope env = pure (clos env scope.names []) := by
  simp only [closureFor]
  rw [forIn_fold (closG env) scope.names [] fun x hx c => ?_]
  · rfl
  · obtain ⟨n, k⟩ := x
    by_cases hk : k = .free
    · subst hk
      obtain ⟨a, ha⟩ := h _ hx rfl
      have ha' : env.cells.lookup n = some a := ha
      simp [cellOf, ha', closG]
    · have : (k == NameKind.free) = false := by simpa using hk
      simp [this, closG, hk]
theorem clos_sub {env : Env} : ∀ (l : List (Str × NameKind)) (c : List (Str × Addr)), (∀ y a, c.lookup y = some a → env.cells.lookup y = some a) → ∀ y a, (clos env l c).lookup y = some a → env.cells.lookup y = some a
  | [], _, h => h
  | x :: l, c, h => by
    refine clos_sub l (closG env x c) fun y a e => ?_
    unfold closG at e
    by_cases hk : x.2 = .free
    · rw [if_pos hk] at e
      cases q : env.cells.lookup x.1 with
      | none => rw [q] at e; exact h y a e
      | some b =>
        rw [q] at e
        by_cases hy : (y == x.1) = true
        · have : y = x.1 := by simpa using hy
          subst this
          have e' : ((x.1, b) :: c).lookup x.1 = some a := e
          simp [List.lookup_cons] at e'
          rw [q, e']
        · have hy' : (y == x.1) = false := by simpa using hy
          have e' : ((x.1, b) :: c).lookup y = some a := e
          rw [List.lookup_cons, hy'] at e'
          exact h y a e'
    · rw [if_neg hk] at e; exact h y a e
theorem clos_has {env : Env} : ∀ (l : List (Str × NameKind)) (c : List (Str × Addr)) (y : Str), ((∃ a, c.lookup y = some a) ∨ ∃ k ∈ l, k.1 = y ∧ k.2 = .free ∧ ∃ a, env.cells.lookup y = some a) → ∃ a, (clos env l c).lookup y = some a
  | [], _, _, h => by
    rcases h with h | ⟨k, hk, _⟩
    · exact h
    · cases hk
  | x :: l, c, y, h => by
    refine clos_has l (closG env x c) y ?_
    have up : (∃ a, c.lookup y = some a) → ∃ a, (closG env x c).lookup y = some a := fun ⟨a, e⟩ => by
      unfold closG
      split
      · split
        · rename_i b q
          by_cases hy : (y == x.1) = true
          · exact ⟨b, by rw [List.lookup_cons, hy]⟩
          · have hy' : (y == x.1) = false := by simpa using hy
            exact ⟨a, by rw [List.lookup_cons, hy']; exact e⟩
        · exact ⟨a, e⟩
      · exact ⟨a, e⟩
    rcases h with h | ⟨k, hk, h1, h2, a, h3⟩
    · exact .inl (up h)
    · rcases List.mem_cons.mp hk with e | hk
      · subst e
        left
        unfold closG
        rw [if_pos h2, h1, h3]
        exact ⟨a, by simp [List.lookup_cons]⟩
      · exact .inr ⟨k, hk, h1, h2, a, h3⟩

theorem relabel_lookup (scope : Scope) (env : Env) (y : Str) : (relabel scope env).names.lookup y = (scope.names.lookup y).map fun k => if (k == NameKind.free && env.scope.kind == .function && env.kindOf y == some .cell) = true then .cell else k := by
  show (scope.names.map _).lookup y = _
  induction scope.names with
  | nil => rfl
  | cons p l ih =>
    obtain ⟨n, k⟩ := p
    rw [List.map_cons]
    show List.lookup y ((if (k == NameKind.free && env.scope.kind == .function && env.kindOf n == some .cell) = true then (n, NameKind.cell) else (n, k)) :: _) = _
    by_cases hy : (y == n) = true
    · have : y = n := by simpa using hy
      subst this
      by_cases hc : (k == NameKind.free && env.scope.kind == .function && env.kindOf y == some .cell) = true
      · rw [if_pos hc]
        simp only [List.lookup_cons, beq_self_eq_true, Option.map_some]
        rw [if_pos hc]
      · rw [if_neg hc]
        simp only [List.lookup_cons, beq_self_eq_true, Option.map_some]
        rw [if_neg hc]
    · have hy' : (y == n) = false := by simpa using hy
      by_cases hc : (k == NameKind.free && env.scope.kind == .function && env.kindOf n == some .cell) = true
      · rw [if_pos hc]
        simp only [List.lookup_cons, hy']
        exact ih
      · rw [if_neg hc]
        simp only [List.lookup_cons, hy']
        exact ih

theorem pure_elim {α β : Type} {M : Model} {A : Around} {a : α} {Q : α → Shared → Prop} {E : Value → Shared → Prop} {m : Sem β} {Q' : β → Shared → Prop} {E' : Value → Shared → Prop} {s : Shared} (h : wpAny M A (pure a) Q E s) (k : Q a s → wpAny M A m Q' E' s) :
    wpAny M A m Q' E' s := fun Γ p hΓ => k (h Γ p hΓ) Γ p hΓ

/-- the names of the slots js, the values -/
def namesAt (N : List Str) (js : List Nat) : List Str := js.map fun j => (N[j]?).getD Str.empty
def valsAt (σ : St) (js : List Nat) : St := js.map fun j => (σ[j]?).join
/-- a comprehension's block -/
def cxComp (X : Cx) (scope : Scope) (x : Str) (js : List Nat) (cl : List (Str × Addr)) (C : Addr) (s : Shared) (H : Hp) (ex : List Addr) : Cx where
  prog := X.prog
  w := X.w
  K := X.K
  mg := X.mg
  base := X.base
  A := X.A
  N := x :: namesAt X.N js
  s₀ := s
  H₀ := H
  env := compEnvC scope cl C X.env
  outer := X.stack
  stack := X.stack
  ex := ex
  fn := fun _ => false
  calm := X.calm
  pn := []
  xe := fun _ _ => False

/-- the tests of a comprehension's clause -/
def PF (X : Cx) (ifs : List Expr) (t : TT) : Prop :=
  ∀ (pins : List (Addr × Obj)) (s : Shared) (σ : St) (H : Hp) (Q : Bool → Hp → Prop), Inv X pins σ H s → t σ H Q →
    wpAny (model X.prog X.w) X.A (forIn ifs true fun c r => if r = true then do let ok ← isTrue c X.env (eval c X.env); pure (ForInStep.yield ok) else pure (ForInStep.yield r)) (TP X pins σ Q) X.xe s
def tYes : TT := fun _ H Q => Q true H
theorem pf_nil {X : Cx} : PF X [] tYes := fun _ _ _ H _ I h => wpAny_pure ⟨H, I, h⟩
theorem pf_one {X : Cx} {c : Expr} {t : TT} (hc : PT X c t) : PF X [c] t := by
  intro pins s σ H Q I h
  rw [List.forIn_cons, if_pos rfl]
  refine wpAny_bind (wpAny_bind (thn (hc pins s σ H Q I h) fun b s1 q => wpAny_pure ?_))
  show wpAny (model X.prog X.w) X.A (pure b) (TP X pins σ Q) X.xe s1
  exact wpAny_pure q

/-- what a comprehension reads: W the invariant by the turn, a measure and the items so far -/
def CompEnd (js : List Nat) (tt : TT) (te : TE) (σ : St) (Qd : List V → Hp → Prop) (J : It) (H1 : Hp) : Prop := ∃ W : Nat → Nat → List V → Hp → Prop, (∃ m, W 0 m [] H1) ∧ ∀ i m ys H2, W i m ys H2 →
  (J.stop i H2 ∧ ys.length ≤ sizeLine ∧ Qd ys H2) ∨
  (J.go i H2 ∧ ys.length < sizeLine ∧ ∃ N : List V → Hp → Prop, (∀ ys' H', N ys' H' → ∃ m', m' < m ∧ W (i + 1) m' ys' H') ∧ ∀ x H3, J.yld i H2 x H3 → tt (some x :: valsAt σ js) H3 fun b H4 =>
    if b = true then te (some x :: valsAt σ js) H4 fun y H5 => N (ys ++ [y]) H5 else N ys H4)
def tComp (js : List Nat) (wi : TI) (tt : TT) (te : TE) : TE := fun σ H Q => wi σ H (CompEnd js tt te σ fun ys H2 => ∀ D, H2 D = none → Q (.ref D) (upd H2 D (.lst ys)))

section
variable {X : Cx} {x : Str} {px pos : Pos} {iter elt : Expr} {ifs : List Expr} {scope : Scope} {wi : TI} {tt : TT} {te : TE}

/-- the block up to its end: RR is what is wanted of the end -/
theorem comp_block (js : List Nat) {pins : List (Addr × Obj)} {σ : St} {s : Shared} {itv : Value} {Q : List V → Hp → Prop} {RR : Value → Addr → Result → Shared → Prop} {E : Value → Shared → Prop}
    (hc : X.calm = true) (hk : scope.kind = .function) (hx : scope.names.lookup x = some .local) (hcell : ∀ y ∈ scope.names, y.2 ≠ .cell)
    (hfree : ∀ y ∈ scope.names, y.2 = .free → X.env.kindOf y.1 = some .cell ∨ X.env.kindOf y.1 = some .free)
    (hN : (x :: namesAt X.N js).Nodup) (hjs : ∀ y ∈ namesAt X.N js, scope.names.lookup y = some .free)
    (hif : ∀ cl C s H ex, PF (cxComp X scope x js cl C s H ex) ifs tt) (he : ∀ cl C s H ex, PE (cxComp X scope x js cl C s H ex) elt te)
    (hit : PIE X pins σ (.Name x px) (CompEnd js tt te σ Q) itv s)
    (hR : ∀ D C s' H2 ys m, Inv X pins σ (upd H2 D (.lst ys)) s' → H2 D = none → s'.heap.Ns C m → (∀ h', Heap.SameBut C s'.heap h' → Inv X pins σ (upd H2 D (.lst ys)) { s' with heap := h' }) → FpOk X pins (upd H2 D (.lst ys)) C → C ≠ D → Q ys H2 → RR (.ref D) C (.ok .next) s') :
    wpAny (model X.prog X.w) X.A (newList []) (fun acc s₃ => wpAny (model X.prog X.w) X.A (newFunctionEnv scope X.env.globals (clos X.env scope.names []) [] X.env.qual none .none (some X.env)) (fun cenv s₄ =>
      codeAny (model X.prog X.w) X.A (.compStart (.ListComp elt [⟨.Name x px, iter, ifs, 0⟩] scope pos) 0 itv acc { cenv with scope := relabel scope X.env }) (RR acc cenv.locals) s₄) E s₃) E s := by
  obtain ⟨it, fp, tn, J, H1, rfl, I1, T, st1, f1, W, ⟨m0, w0⟩, turn⟩ := hit
  refine wpAny_newObj_type (wpAny_newFunctionEnv hcell (by intro y hy; simp at hy) (fun h₁ hns₁ hsb₁ => ?_) hk)
  dsimp only at hns₁ hsb₁ ⊢
  generalize hH2 : s.heap.push { cls := .type "list", dict := none, data := .seq ([] : List Value).toArray } = Hl at hns₁ hsb₁ ⊢
  generalize hDe : s.heap.objs.size = D
  have hCe : Hl.objs.size = D + 1 := by rw [← hH2, Heap.size_push, hDe]
  generalize hC : Hl.objs.size = C at hns₁ hsb₁ hCe ⊢
  subst hCe
  have hDC : D ≠ D + 1 := Nat.ne_of_lt (Nat.lt_succ_self _)
  have lt : ∀ b o, s.heap.get? b = some o → b < D := fun b o e => hDe ▸ Heap.lt_size e
  have old : ∀ b o, s.heap.get? b = some o → h₁.get? b = some o := fun b o e => by
    have hb := lt b o e
    refine hsb₁.extBut b o (Nat.ne_of_lt (Nat.lt_succ_of_lt hb)) (Heap.get?_push_of_some _ ?_)
    rw [← hH2]; exact Heap.get?_push_of_some _ e
  have accD : h₁.get? D = some { cls := .type "list", dict := none, data := .seq ([] : List Value).toArray } := by
    refine hsb₁.extBut _ _ hDC (Heap.get?_push_of_some _ ?_)
    rw [← hH2, ← hDe]; exact Heap.get?_push_size _ rfl
  have fresh : ∀ a, D ≤ a → H1 a = none := fun a ha => I1.hok.fresh (by rw [hDe]; exact ha)
  have fpD : ∀ b ∈ fp, b < D := fun b hb => by
    obtain ⟨o, e, _⟩ := T.obj 0 s.heap st1 b hb
    exact lt b o e
  have cellD : ∀ y c, X.env.cells.lookup y = some c → c < D := fun y c e => by
    obtain ⟨v, q⟩ := I1.cell y c e
    exact hDe ▸ q.lt
  generalize hcl : clos X.env scope.names [] = cl
  have clsub : ∀ y c, cl.lookup y = some c → X.env.cells.lookup y = some c := by
    rw [← hcl]; exact clos_sub scope.names [] fun y a e => by simp at e
  have frD : ∀ b ∈ frs X.stack, b < D := fun b hb => by
    obtain ⟨_, o, ho, _⟩ := I1.stack.mem hb
    exact lt b o ho
  -- the block's context
  let Y : Cx := cxComp X scope x js cl (D + 1) s H1 fp
  have kinds : ∀ y, Y.env.kindOf y = some .cell ∨ Y.env.kindOf y = some .free → ∃ k ∈ scope.names, k.1 = y ∧ k.2 = .free := fun y hy => by
    have hy' : (relabel scope X.env).names.lookup y = some .cell ∨ (relabel scope X.env).names.lookup y = some .free := hy
    rw [relabel_lookup] at hy'
    cases q : scope.names.lookup y with
    | none => rw [q] at hy'; simp at hy'
    | some k =>
      have hm := PySem.mem_of_lookup q
      refine ⟨(y, k), hm, rfl, ?_⟩
      have h1 : k ≠ .cell := hcell _ hm
      rw [q] at hy'
      simp only [Option.map_some, Option.some.injEq] at hy'
      by_cases hkf : k = .free
      · exact hkf
      · have : (k == NameKind.free) = false := by simpa using hkf
        simp only [this, Bool.false_and, Bool.false_eq_true, if_false] at hy'
        rcases hy' with e | e
        · exact absurd e h1
        · exact absurd e hkf
  have okY : Y.Ok := by
    refine ⟨I1.ok.mod, hk, I1.ok.glob, I1.ok.blt, (by show s.heap.objs.size ≤ D + 1; rw [hDe]; exact Nat.le_succ _), fun y z c h1 h2 => I1.ok.inj y z c (clsub y c h1) (clsub z c h2), fun y hy => ?_, fun y c h _ => absurd h (by show ¬ (false = true); decide), I1.ok.hd, I1.ok.frames, .inl rfl, fun b hb => ⟨Nat.ne_of_lt (Nat.lt_succ_of_lt (fpD b hb)), fun y c e z => (f1 b hb).2.2.2.2.1 y c (clsub y c e) z⟩,
      fun b o e => I1.bs b o e, Nat.le_trans I1.ok.bsz I1.sz, fun b o e hb => ?_, fun b hb hf => ?_, I1.stack, I1.stkFree⟩
    · obtain ⟨k, hm, e1, e2⟩ := kinds y hy
      show ∃ c, cl.lookup y = some c
      rw [← hcl]
      refine clos_has scope.names [] y (.inr ⟨k, hm, e1, e2, ?_⟩)
      have := hfree k hm e2
      rw [e1] at this
      exact I1.ok.has y this
    · obtain ⟨_, _, _, h4, _, _⟩ := f1 b hb
      rcases h4 with z | z
      · exact I1.ok.noex b o e z
      · exact absurd (Nat.lt_of_lt_of_le (Heap.lt_size e) (Nat.le_trans I1.ok.bsz z)) (Nat.lt_irrefl _)
    · rcases List.mem_cons.mp (I1.stkSub b hf) with z | z
      · exact (f1 b hb).2.1 z
      · exact (f1 b hb).2.2.1 z
  have hxl : Y.env.scope.names.lookup x = some .local := lookup_relabel_local hx
  let σ0 : St := none :: valsAt σ js
  have IY : Inv Y [] σ0 H1 { s with heap := h₁, toks := s.toks + ([] : List (Str × Value)).length } := by
    refine ⟨okY, rfl, I1.bare, Un.kept old, ⟨_, hns₁, fun i y v e1 e2 e3 => ?_⟩, fun y c e => ?_, fresh _ (Nat.le_succ _), fun y c e => I1.freeC y c (clsub y c e), fun p hp => absurd (show p ∈ ([] : List (Addr × Obj)) from hp) (by simp), I1.hok.kept old, ?_⟩
    · cases i with
      | zero => cases e2
      | succ i =>
        have e1' : (namesAt X.N js)[i]? = some y := e1
        have e2' : (valsAt σ js)[i]? = some (some v) := e2
        unfold namesAt at e1'
        unfold valsAt at e2'
        rw [List.getElem?_map] at e1' e2'
        cases q : js[i]? with
        | none => rw [q] at e1'; cases e1'
        | some j =>
          rw [q] at e1' e2'
          simp only [Option.map_some, Option.some.injEq] at e1' e2'
          have hv : σ[j]? = some (some v) := by
            cases z : σ[j]? with
            | none => rw [z] at e2'; cases e2'
            | some w => rw [z] at e2'; simpa using e2'
          have hj : j < X.N.length := by
            rw [← I1.len]; exact (List.getElem?_eq_some_iff.mp hv).1
          have hy : X.N[j]? = some y := by
            rw [List.getElem?_eq_getElem hj] at e1' ⊢
            rw [← e1']; rfl
          obtain ⟨m, hn, hl⟩ := I1.loc
          have hmem : y ∈ namesAt X.N js := List.mem_map.mpr ⟨j, List.mem_of_getElem? q, by rw [hy]; rfl⟩
          have hfr := hjs y hmem
          have hkx := hfree _ (PySem.mem_of_lookup hfr) rfl
          have hvis : Vis X.env.scope y := hkx.elim (fun z => .inr (.inl z)) fun z => .inr (.inr z)
          obtain ⟨u, r, l⟩ := hl j y v hy hv hvis
          refine ⟨u, r, ?_⟩
          rcases l with ⟨kl, _⟩ | ⟨_, c, hc1, z⟩
          · exfalso
            have kl' : X.env.kindOf y = some .local := kl
            rcases hkx with w | w <;> · rw [show X.env.kindOf y = _ from w] at kl'; cases kl'
          · obtain ⟨c', hc'⟩ := clos_has (env := X.env) scope.names [] y (.inr ⟨_, PySem.mem_of_lookup hfr, rfl, rfl, c, hc1⟩)
            rw [hcl] at hc'
            have e4 := clsub y c' hc'
            rw [hc1] at e4
            cases e4
            obtain ⟨o, ho, hd⟩ := z
            refine .inr ⟨?_, c, hc', o, old c o ho, hd⟩
            rcases e3 with e3 | e3 | e3
            · exfalso
              have e3' : (relabel scope X.env).names.lookup y = some .local := e3
              rw [relabel_lookup, hfr] at e3'
              simp only [Option.map_some, Option.some.injEq] at e3'
              split at e3' <;> cases e3'
            · exact .inl e3
            · exact .inr e3
    · obtain ⟨v, q⟩ := I1.cell y c (clsub y c e)
      obtain ⟨o, ho, hd⟩ := q
      exact ⟨v, o, old c o ho, hd⟩
    · show (valsAt σ js).length + 1 = (namesAt X.N js).length + 1
      unfold valsAt namesAt
      rw [List.length_map, List.length_map]
  have mkR : ∀ (s' : Shared) (H2 : Hp) (ys : List V) (its : List Value) (σ' : St), Inv Y [] σ' H2 s' → s'.heap.PlainList D its.toArray → Vals ys its → ys.length ≤ sizeLine → H2 D = none → Q ys H2 → RR (.ref D) (D + 1) (.ok .next) s' := by
    intro s' H2 ys its σ' I' pl rv hz hD hq
    obtain ⟨m, hn, _⟩ := I'.loc
    have hn' : s'.heap.Ns (D + 1) m := hn
    have hCn : H2 (D + 1) = none := I'.free
    have hch : ∀ b ∈ fp, (b ∈ X.ex ∨ X.s₀.heap.objs.size ≤ b) ∧ b ≠ X.env.locals ∧ (∀ x c, X.env.cells.lookup x = some c → c ≠ b) ∧ ∀ p ∈ X.pn ++ pins, p.1 ≠ b := fun b hb => by
      obtain ⟨_, h2, _, h4, h5, h6⟩ := f1 b hb
      exact ⟨h4, h2, h5, h6⟩
    have bs : Un (frs X.stack) fp H1 H2 s.heap s'.heap := I'.base
    have all : ∀ h', Heap.SameBut (D + 1) s'.heap h' → Inv X pins σ (upd H2 D (.lst ys)) { s' with heap := h' } := fun h' sb => by
      have neD : ∀ b o, s.heap.get? b = some o → b ≠ D := fun b o e => Nat.ne_of_lt (lt b o e)
      have neC : ∀ b o, s.heap.get? b = some o → b ≠ D + 1 := fun b o e => Nat.ne_of_lt (Nat.lt_succ_of_lt (lt b o e))
      refine I1.call' (s' := { s' with heap := h' }) (ch := fp) I'.os ⟨fun b o e n hb hx => ?_, fun b o e n hb hx => ?_, fun b o e n hx => ?_, fun b o e hx => ?_, fun b xs e => ?_, fun b o u e => ?_, fun b ps e => ?_⟩ ?_ I'.bare hch
      · exact (sb.2 b (neC b o e)).trans (bs.keep b o e n hb hx)
      · obtain ⟨sl, q⟩ := bs.slot b o e n hb hx
        exact ⟨sl, (sb.2 b (neC b o e)).trans q⟩
      · rw [upd_ne (neD b o e)]; exact bs.free b o e n hx
      · obtain ⟨o', q⟩ := bs.there b o e hx
        exact ⟨o', (sb.2 b (neC b o e)).trans q⟩
      · have := bs.tups b xs e
        rw [upd_ne (ne_of_none this hD)]; exact this
      · have := bs.frzs b o u e
        rw [upd_ne (ne_of_none this hD)]; exact this
      · obtain ⟨more, q⟩ := bs.tbls b ps e
        exact ⟨more, by rw [upd_ne (ne_of_none q hD)]; exact q⟩
      · have h0 : HOk X.prog X.w H2 h' := fun b u e => (I'.hok b u e).stay (fun c v hc q => (sb.2 c (by
          rintro rfl
          rcases hc with z | z
          · rw [z, e] at hCn; cases hCn
          · rw [z] at hCn; cases hCn)).trans q) (fun _ q => q) fun _ _ q => q
        refine hok_track h0 hD ?_
        obtain ⟨n, e⟩ := pl
        exact ⟨hz, its, n, rv, (sb.2 D hDC).trans e⟩
    have hall := all s'.heap (.refl ..)
    refine hR D (D + 1) s' H2 ys m hall hD hn' all ?_ hDC.symm hq
    refine ⟨by rw [upd_ne hDC.symm]; exact hCn, ?_, ?_, .inr (Nat.le_trans I1.sz (by rw [hDe]; exact Nat.le_succ _)), fun y c e z => ?_, fun p hp z => ?_⟩
    · exact Nat.ne_of_gt (Nat.lt_trans (hDe ▸ I1.lt) (Nat.lt_succ_self _))
    · exact I1.nofs (by rw [hDe]; exact Nat.le_succ _)
    · exact absurd z (Nat.ne_of_lt (Nat.lt_succ_of_lt (cellD y c e)))
    · exact absurd z (Nat.ne_of_lt (Nat.lt_succ_of_lt (lt _ _ (I1.pin p hp).1)))
  have loop : ∀ s₃ : Shared, s₃ = { s with heap := h₁, toks := s.toks + ([] : List (Str × Value)).length } →
      codeAny (model X.prog X.w) X.A (.compLoop (.ListComp elt [⟨.Name x px, iter, ifs, 0⟩] scope pos) 0 (.ref it) (.ref D) Y.env) (RR (.ref D) (D + 1)) s₃ := by
    rintro s₃ rfl
    have stat : ∀ {H' : Hp} {ob : Obj}, (∀ b ∈ fp, H' b = none) → ∀ b ∈ fp, FpOk Y [(D, ob)] H' b := fun {H'} {ob} hn b hb => by
      refine ⟨hn b hb, Nat.ne_of_lt (Nat.lt_succ_of_lt (fpD b hb)), fun hf => okY.exfs b hb hf, .inl hb, fun y c e => (okY.exf b hb).2 y c e, fun p hp z => ?_⟩
      have hp' : p ∈ [(D, ob)] := hp
      have e : p = (D, ob) := by simpa using hp'
      rw [e] at z
      exact absurd z (Ne.symm (Nat.ne_of_lt (fpD b hb)))
    refine codeAny_compLoop_tests (fun n s' => ∃ i ys its H', ∃ ob : Obj, Inv Y [(D, ob)] σ0 H' s' ∧ (∃ n, ob = { cls := .type "list", data := .seq its.toArray n }) ∧ Vals ys its ∧ H' D = none ∧ tn i s'.heap ∧ (∀ b ∈ fp, H' b = none) ∧ W i n ys H') ?_ m0
      ⟨0, [], [], H1, { cls := .type "list", dict := none, data := .seq ([] : List Value).toArray }, ?_, ⟨_, rfl⟩, .nil, fresh _ (Nat.le_refl _), T.keep _ _ _ st1 fun b _ o e => old b o e, fun b hb => (f1 b hb).1, w0⟩
    · rintro n s3 ⟨i, ys, its, H3, ob, I3, ⟨cap, rfl⟩, rv, hD, st3, fr3, w3⟩
      rcases turn i n ys H3 w3 with ⟨stop, hz, hq⟩ | ⟨go, hz, N, hN7, step⟩
      · refine wpAny_mono (T.done Y rfl rfl rfl hc i _ s3 σ0 H3 (fun _ _ => False) I3 (stat fr3) st3 stop) (fun r s4 ⟨hr, I4⟩ => ?_) fun _ _ f => f.elim
        subst hr
        exact mkR s4 H3 ys its σ0 (I4.pins_of fun p hp => absurd hp (by simp)) ⟨cap, (I4.pin _ (List.mem_append_right _ List.mem_cons_self)).1⟩ rv hz hD hq
      · refine wpAny_mono (T.item Y rfl rfl rfl hc i _ s3 σ0 H3 (fun _ _ => False) I3 (stat fr3) st3 go) (fun r s4 ⟨u, hr, h4⟩ => ?_) fun _ _ f => f.elim
        subst hr
        have h4' : wpAny (model X.prog X.w) X.A (pure () : Sem Unit) (fun _ s2 => ∃ x H', Inv Y [(D, { cls := .type "list", data := .seq its.toArray cap })] σ0 H' s2 ∧ RelV x u ∧ J.yld i H3 x H' ∧ tn (i + 1) s2.heap ∧ ∀ b ∈ fp, H' b = none) (fun _ _ => False) s4 := h4
        refine pure_elim h4' fun ⟨xv, H5, I5, r5, y5, st5, fr5⟩ => ?_
        have I5' := I5.pinned (stat fr5) (T.obj _ _ st5)
        refine wpAny_mono (wpAny_assign_Name (store_ok (X := Y) (E := fun _ _ => False) (i := 0) (Q := fun _ s6 => Inv Y ([(D, { cls := .type "list", data := .seq its.toArray cap })] ++ pinsAt fp s4.heap) (some xv :: valsAt σ js) H5 s6) I5' hN rfl (.inl hxl) r5 (fun s6 I6 => I6) (.inr hxl))) (fun _ s6 I6 => ?_) fun _ _ f => f.elim
        have hD5 : H5 D = none := (I6.pin _ (List.mem_append_right _ (List.mem_append_left _ List.mem_cons_self))).2.1
        have again : ∀ {s7 : Shared} {H7 : Hp} {ys7 : List V} {its7 : List Value} {cap7 : Nat} {pl : List (Addr × Obj)}, Inv Y ([(D, { cls := .type "list", data := .seq its7.toArray cap7 })] ++ pl) (some xv :: valsAt σ js) H7 s7 → (∀ b ∈ fp, ∀ o, s4.heap.get? b = some o → s7.heap.get? b = some o ∧ H7 b = none) → Vals ys7 its7 → (∃ m', m' < n ∧ W (i + 1) m' ys7 H7) →
            ∃ m, m < n ∧ ∃ i ys its H', ∃ ob : Obj, Inv Y [(D, ob)] σ0 H' s7 ∧ (∃ n, ob = { cls := .type "list", data := .seq its.toArray n }) ∧ Vals ys its ∧ H' D = none ∧ tn i s7.heap ∧ (∀ b ∈ fp, H' b = none) ∧ W i m ys H' := by
          intro s7 H7 ys7 its7 cap7 pl I7 kf rv7 ⟨m', hm, w7⟩
          refine ⟨m', hm, i + 1, ys7, its7, H7, _, I7.unpinned.weak rfl fun j v e => ?_, ⟨cap7, rfl⟩, rv7, (I7.pin _ (List.mem_append_right _ (List.mem_append_left _ List.mem_cons_self))).2.1, T.keep _ _ _ st5 fun b hb o e => (kf b hb o e).1, fun b hb => ?_, w7⟩
          · cases j with
            | zero => cases e
            | succ j => exact e
          · obtain ⟨o, e, _⟩ := T.obj _ _ st5 b hb
            exact (kf b hb o e).2
        refine wpAny_mono (hif cl (D + 1) s H1 fp _ s6 _ H5 _ I6 (step xv H5 y5)) (fun ok s7 ⟨H7, I7, q7⟩ => ?_) fun _ _ f => False.elim f
        have kf7 : ∀ b ∈ fp, ∀ o, s4.heap.get? b = some o → s7.heap.get? b = some o ∧ H7 b = none := fun b hb o e =>
          have z := I7.pin (b, o) (List.mem_append_right _ (List.mem_append_right _ (mem_pinsAt hb e)))
          ⟨z.1, z.2.1⟩
        cases ok with
        | false =>
          rw [if_neg Bool.false_ne_true] at q7 ⊢
          exact again I7 kf7 rv (hN7 _ _ q7)
        | true =>
          rw [if_pos rfl] at q7 ⊢
          refine wpAny_mono (he cl (D + 1) s H1 fp _ s7 _ H7 _ I7 q7) (fun yv s8 ⟨y, H8, I8, r8, q8⟩ => ?_) fun _ _ f => False.elim f
          have pD := I8.pin _ (List.mem_append_right _ (List.mem_append_left _ List.mem_cons_self))
          have hlen := rv.length
          refine wpAny_list_append_plain (items := its.toArray) ⟨cap, pD.1⟩ (fun h9 pl9 sb9 => ?_) (by rw [List.size_toArray]; omega)
          obtain ⟨cap9, e9⟩ := pl9
          have I9 : Inv Y [] (some xv :: valsAt σ js) H8 { s8 with heap := h9 } := (I8.pins_of (pins' := []) fun p hp => absurd hp (by simp)).turned (t' := s8.toks) (it := D) (fun b o hb e => (sb9.2 b hb).trans e) pD.2.1 hDC
            (.inr (Nat.le_of_eq hDe)) (fun y c e z => absurd z (Nat.ne_of_lt (cellD y c (clsub y c e)))) fun p hp => absurd (show p ∈ ([] : List (Addr × Obj)) from hp) (by simp)
          have kf9 : ∀ b ∈ fp, ∀ o, s4.heap.get? b = some o → h9.get? b = some o ∧ H8 b = none := fun b hb o e => by
            have z := I8.pin (b, o) (List.mem_append_right _ (List.mem_append_right _ (mem_pinsAt hb e)))
            exact ⟨(sb9.2 b (Nat.ne_of_lt (fpD b hb))).trans z.1, z.2.1⟩
          refine again (s7 := { s8 with heap := h9 }) (its7 := its ++ [yv]) (cap7 := cap9) (pl := []) (I9.pins_of fun p hp => ?_) kf9 (rv.append (.cons r8 .nil)) (hN7 _ _ q8)
          have hp' : p = (D, { cls := .type "list", data := .seq (its ++ [yv]).toArray cap9 }) := by simpa using hp
          subst hp'
          refine ⟨?_, pD.2.1, pD.2.2.1, pD.2.2.2.1, fun v z => by cases z⟩
          rw [e9]
          simp
    · refine IY.pins_of fun p hp => ?_
      have hp' : p = (D, { cls := .type "list", dict := none, data := .seq ([] : List Value).toArray }) := by simpa using hp
      subst hp'
      exact ⟨accD, fresh _ (Nat.le_refl _), hDC, fun hf => Nat.lt_irrefl _ (frD _ hf), fun v z => by cases z⟩
  exact codeAny_compStart_list (loop _ rfl) (wpAny_mono (T.self X.A 0 _ (fun v s' => v = .ref it ∧ s' = { s with heap := h₁, toks := s.toks + ([] : List (Str × Value)).length }) (fun _ _ => False) (T.keep _ _ _ st1 fun b _ o e => old b o e) ⟨rfl, rfl⟩) (fun v s' ⟨e1, e2⟩ => by subst e1 e2; exact loop _ rfl) fun _ _ f => f.elim)

theorem pe_comp (js : List Nat) (N0 : List Str) (sc0 : Scope) (hc : X.calm = true) (hi : PI X (.Name x px) iter wi)
    (hif : ∀ cl C s H ex, PF (cxComp X scope x js cl C s H ex) ifs tt) (he : ∀ cl C s H ex, PE (cxComp X scope x js cl C s H ex) elt te)
    (hk : scope.kind = .function := by rfl) (hx : scope.names.lookup x = some .local := by rfl) (hcell : ∀ y ∈ scope.names, y.2 ≠ .cell := by decide +kernel)
    (hnames : ∀ y ∈ scope.names, y.2 = .local → scope.names.lookup y.1 = some .local := by decide +kernel)
    (hsc : X.env.scope = sc0 := by rfl) (hfree0 : ∀ y ∈ scope.names, y.2 = .free → sc0.names.lookup y.1 = some .cell ∨ sc0.names.lookup y.1 = some .free := by decide +kernel)
    (hNN : X.N = N0 := by rfl) (hN0 : (x :: namesAt N0 js).Nodup := by decide +kernel) (hj0 : ∀ y ∈ namesAt N0 js, scope.names.lookup y = some .free := by decide +kernel)
    (hs : ∀ x, foldedSetIterable iter X.env x = pure x := by intro _; rfl) :
    PE X (.ListComp elt [⟨.Name x px, iter, ifs, 0⟩] scope pos) (tComp js wi tt te) := by
  intro pins s σ H Q I h
  have hN : (x :: namesAt X.N js).Nodup := by rw [hNN]; exact hN0
  have hfree : ∀ y ∈ scope.names, y.2 = .free → X.env.kindOf y.1 = some .cell ∨ X.env.kindOf y.1 = some .free := fun y hy e => by
    show X.env.scope.names.lookup y.1 = some .cell ∨ X.env.scope.names.lookup y.1 = some .free
    rw [hsc]; exact hfree0 y hy e
  have hjs : ∀ y ∈ namesAt X.N js, scope.names.lookup y = some .free := by rw [hNN]; exact hj0
  rw [eval_ListComp]
  have hcl : closureFor scope X.env = pure (clos X.env scope.names []) := closureFor_eq fun y hy e => I.ok.has y.1 (hfree y hy e)
  refine wpAny_comprehension_free (use := none) rfl hs hcl hk hnames (thn (hi pins s σ H _ I h) fun xv s1 h1 => thn h1 fun it s2 h2 => ?_)
  refine comp_block js (RR := fun acc C => compPost (model X.prog X.w) X.A X.xe none (EP X pins σ Q) acc C) (Q := fun ys H2 => ∀ D, H2 D = none → Q (.ref D) (upd H2 D (.lst ys))) hc hk hx hcell hfree hN hjs hif he h2 ?_
  intro D C s' H2 ys m I' hD hn all fpC hCD hq
  exact ⟨m, hn, fun h' sb => ⟨.ref D, _, all h' sb, rfl, hq D hD⟩⟩

/-- y = [..], where y is a plain local name -/
theorem ps_comp {i : Nat} {y : Str} {py spos : Pos} (js : List Nat) (N0 : List Str) (sc0 : Scope) (hc : X.calm = true) (hNX : X.N.Nodup) (hiy : X.N[i]? = some y) (hi : PI X (.Name x px) iter wi)
    (hif : ∀ cl C s H ex, PF (cxComp X scope x js cl C s H ex) ifs tt) (he : ∀ cl C s H ex, PE (cxComp X scope x js cl C s H ex) elt te)
    (hsw : swapsWith (.ListComp elt [⟨.Name x px, iter, ifs, 0⟩] scope pos) (some (.Name y py)) spos.line X.env = pure true := by rfl) (hy : X.env.scope.names.lookup y = some .local := by rfl)
    (hk : scope.kind = .function := by rfl) (hx : scope.names.lookup x = some .local := by rfl) (hcell : ∀ y ∈ scope.names, y.2 ≠ .cell := by decide +kernel)
    (hnames : ∀ y ∈ scope.names, y.2 = .local → scope.names.lookup y.1 = some .local := by decide +kernel)
    (hsc : X.env.scope = sc0 := by rfl) (hfree0 : ∀ y ∈ scope.names, y.2 = .free → sc0.names.lookup y.1 = some .cell ∨ sc0.names.lookup y.1 = some .free := by decide +kernel)
    (hNN : X.N = N0 := by rfl) (hN0 : (x :: namesAt N0 js).Nodup := by decide +kernel) (hj0 : ∀ y ∈ namesAt N0 js, scope.names.lookup y = some .free := by decide +kernel)
    (hs : ∀ x, foldedSetIterable iter X.env x = pure x := by intro _; rfl) :
    PS X (.Assign [.Name y py] (.ListComp elt [⟨.Name x px, iter, ifs, 0⟩] scope pos) spos) (tAsg (tComp js wi tt te) (gName i)) := by
  intro pins s σ H D I h
  have hN : (x :: namesAt X.N js).Nodup := by rw [hNN]; exact hN0
  have hfree : ∀ y ∈ scope.names, y.2 = .free → X.env.kindOf y.1 = some .cell ∨ X.env.kindOf y.1 = some .free := fun y hy e => by
    show X.env.scope.names.lookup y.1 = some .cell ∨ X.env.scope.names.lookup y.1 = some .free
    rw [hsc]; exact hfree0 y hy e
  have hjs : ∀ y ∈ namesAt X.N js, scope.names.lookup y = some .free := by rw [hNN]; exact hj0
  rw [exec_Assign_Name_used _ _ _ _ hsw]
  refine wpAny_bind (wpAny_standAt (wpAny_bind ?_))
  show wpAny _ X.A (do let _ ← comprehension (.ListComp elt [⟨.Name x px, iter, ifs, 0⟩] scope pos) scope X.env _ (newList []) false (eval iter X.env) (some (assign (.Name y py) X.env))) _ _ s
  have hcl : closureFor scope X.env = pure (clos X.env scope.names []) := closureFor_eq fun y hy e => I.ok.has y.1 (hfree y hy e)
  refine wpAny_bind (wpAny_mono (wpAny_comprehension_free (use := some (assign (.Name y py) X.env)) (Q := fun _ s' => SP X pins D .next s') rfl hs hcl hk hnames
    (thn (hi pins s σ H _ I h) fun xv s1 h1 => thn h1 fun it s2 h2 => ?_)) (fun _ s' hq => wpAny_pure (wpAny_pure hq)) fun _ _ e => e)
  refine comp_block js (RR := fun acc C => compPost (model X.prog X.w) X.A X.xe (some (assign (.Name y py) X.env)) (fun _ s' => SP X pins D .next s') acc C) (Q := fun ys H2 => ∀ D', H2 D' = none → D.nx (σ.set i (some (.ref D'))) (upd H2 D' (.lst ys))) hc hk hx hcell hfree hN hjs hif he h2 ?_
  intro D' C s' H2 ys m I' hD hn all fpC hCD hq
  show wpAny _ X.A (assign (.Name y py) X.env (.ref D')) _ _ _
  refine wpAny_assign_Name (store_ok2 I' hNX hiy (.inl hy) (v := .ref D') rfl (fun s'' I'' ⟨a, sb, ha⟩ => ?_) (.inr hy))
  obtain ⟨f1, f2, f3, f4, f5, f6⟩ := fpC
  have hCa : C ≠ a := by
    rcases ha with z | z
    · rw [z]; exact f2
    · exact fun w => f5 _ _ z w.symm
  exact ⟨m, hn.sameBut sb hCa, fun h' sb' => ⟨_, _, I''.turned (t' := s''.toks) (it := C) (fun b o hb e => (sb'.2 b hb).trans e) f1 f2 f4 f5 f6, hq D' hD⟩⟩
end
end L2

/-! ### own rules: numbers of any size, isinstance, texts -/
namespace L2
open PySem PySem.Spec PyProof.Rows
section
variable {X : Cx}
theorem op_mulB : OpR X (binaryOp .Mult) (rI IntMulOk fun i j => .int (i * j)) := opI fun _ _ _ _ _ _ _ hc q => mul_int q hc
theorem mulOk {a b : Int} (ha : a.natAbs < 2 ^ 4000) (hb : b.natAbs < 2 ^ 4000) : IntMulOk a b :=
  IntMulOk.of_le (m := 4000) (n := 4000) (intBits_le_iff.mpr ha) (intBits_le_iff.mpr hb) (by decide)
def CDivB (_ j : Int) : Prop := 0 < j ∧ j.natAbs.log2 < 9000
theorem op_fdivB : OpR X (binaryOp .FloorDiv) (rI CDivB fun i j => .int (i / j)) := opI fun i j _ _ _ _ _ hc q => by
  have h1 : (0 : Int) < j := hc.1
  exact floordiv_int (by omega) (by rw [Int.fdiv_eq_ediv_of_nonneg i (by omega)]; exact q) (.inl (PyProof.noPylong_of_log2 hc.2))
theorem divOk {i j : Int} (h0 : 0 < j) (h : j.natAbs < 2 ^ 9000) : CDivB i j := ⟨h0, (Nat.log2_lt (by omega)).mpr h⟩

/-! isinstance against the kit's own types -/
def tyN (K : PySem.W.Frag) (H : Hp) (x : V) (T : String) : Prop := match x with
  | .non => T = "NoneType"
  | .bl _ => T = "bool"
  | .int _ => T = "int"
  | .str _ => T = "str"
  | .ref p => (T = "list" ∧ ∃ xs, SqL K H p xs) ∨ (T = "tuple" ∧ ∃ xs, SqT K H p xs) ∨ (T = "dict" ∧ ∃ kvs, H p = some (.dK kvs))
  | _ => False
def subT (a b : String) : Bool := a == b || (a == "bool" && b == "int")
def isTab : List String := ["int", "bool", "str", "list", "tuple"]
def kindTab : List String := ["NoneType", "bool", "int", "str", "list", "tuple", "dict"]
theorem kit_meta : ∀ T ∈ isTab, PySem.W.kitMeta T = true := by decide +kernel
theorem kit_mro : ∀ a ∈ kindTab, ∀ b ∈ isTab, (PySem.fastBuiltinMro a).map (·.contains (.type b)) = some (subT a b) := by decide +kernel
theorem kit_one (K : PySem.W.Frag) {a b : String} (ha : a ∈ kindTab) (hb : b ∈ isTab) : PySem.W.kitOne K (.type a) (.type b) = some (subT a b) := by
  unfold PySem.W.kitOne
  by_cases h : (Value.type a == Value.type b) = true
  · rw [if_pos h]
    have e : a = b := by
      have := beq_iff_eq.mp h
      injection this
    subst e
    simp [subT]
  · rw [if_neg h]
    show (if PySem.W.kitMeta b = true then PySem.W.subIn K (.type a) (.type b) else none) = _
    rw [if_pos (kit_meta b hb)]
    exact kit_mro a ha b hb
theorem call_isi : CallR X (.builtin "isinstance") (fun xs H Q => ∃ x Tx T b, xs = [x, .ty T] ∧ tyN X.K H x Tx ∧ T ∈ isTab ∧ subT Tx T = b ∧ Q (.bl b) H) := by
  intro pins s σ H xs us Q I r h
  obtain ⟨x, Tx, T, b, rfl, ty, hT, rfl, q⟩ := h
  obtain ⟨u, w', rfl, rx, ry⟩ := vals2 r
  cases ry
  have fin : ∀ {b : Bool}, b = subT Tx T → ∀ tk, EP X pins σ Q (.bool b) { s with toks := tk } := fun e tk => ⟨.bl (subT Tx T), H, I.tok tk, by rw [e]; rfl, q⟩
  have go : ∀ {P : Heap → Prop}, PySem.W.KitX X.K u (.type Tx) P → P s.heap → Tx ∈ kindTab → u ≠ .builtin "__main__.__loader__#opaque" → wpAny (model X.prog X.w) X.A (call (.builtin "isinstance") [u, .type T]) (EP X pins σ Q) X.xe s := fun Z p hm hx =>
    PySem.W.kia_one Z I.kIn p (kit_one X.K hm hT) hx fun tk => fin rfl tk
  cases x with
  | non => cases rx; cases (show Tx = "NoneType" from ty); exact go PySem.W.kitx_none trivial (by decide) (by intro e; cases e)
  | bl b => cases rx; cases (show Tx = "bool" from ty); exact go PySem.W.kitx_bool trivial (by decide) (by intro e; cases e)
  | int i => obtain ⟨t, rfl⟩ := rx; cases (show Tx = "int" from ty); exact go PySem.W.kitx_int trivial (by decide) (by intro e; cases e)
  | str z => obtain ⟨t, rfl⟩ := rx; cases (show Tx = "str" from ty); exact go PySem.W.kitx_str trivial (by decide) (by intro e; cases e)
  | ref p =>
    cases rx
    rcases ty with ⟨rfl, ys, hq⟩ | ⟨rfl, ys, hq⟩ | ⟨rfl, kvs, hq⟩
    · obtain ⟨its, _, pl, _⟩ := I.list hq
      obtain ⟨o, n, e, c, _, _⟩ := pl
      exact go PySem.W.kitx_list ⟨o, e, c⟩ (by decide) (by intro e; cases e)
    · obtain ⟨its, _, ⟨o, e, c, _⟩, _⟩ := I.tuple hq
      exact go PySem.W.kitx_tuple ⟨o, e, c⟩ (by decide) (by intro e; cases e)
    · obtain ⟨_, _, _, _, o, _, _, e, ex, _⟩ := I.hok p _ hq
      exact go PySem.W.kitx_dict ⟨o, e, ex.1⟩ (by decide) (by intro e; cases e)
  | _ => exact (show False from ty).elim

/-! texts -/
theorem op_le_str : OpR X (compareOp .LtE) (fun x y H Q => ∃ i j, x = .str i ∧ y = .str j ∧ Q (.bl (!decide (j.cps.toList < i.cps.toList))) H) := by
  intro pins s σ H x y v u Q I rx ry h
  obtain ⟨i, j, rfl, rfl, q⟩ := h
  obtain ⟨t, rfl⟩ := rx
  obtain ⟨t', rfl⟩ := ry
  exact PySem.P.le_str (fin_bl I q rfl)
/-- sep.join(a list of texts) -/
def rJoin (K : PySem.W.Frag) : V → List V → Hp → VK → Prop := fun x xs H Q => ∃ z p ys, x = .str z ∧ xs = [.ref p] ∧ SqL K H p (ys.map V.str) ∧ (ys.map (·.length)).sum + ys.length * z.length ≤ 16777216 ∧ Q (.str (Txt.join z ys)) H
theorem strsAre_of : ∀ {ys : List Str} {us : List Value}, Vals (ys.map V.str) us → StrsAre us ys
  | [], us, r => by rw [List.map_nil] at r; cases r; exact .nil
  | y :: ys, us, r => by
    rw [List.map_cons] at r
    cases r with
    | cons r1 r2 =>
      obtain ⟨t, e⟩ := r1
      subst e
      exact .cons y t (strsAre_of r2)
theorem mt_join : MtR X "str.join" (rJoin X.K) := by
  intro pins s σ H x xs v us Q I rx rs h
  obtain ⟨z, p, ys, rfl, rfl, hq, hz, q⟩ := h
  obtain ⟨t, rfl⟩ := rx
  obtain ⟨u, rfl, ru⟩ := vals1 rs
  cases ru
  obtain ⟨its, rv, pl, _⟩ := I.list hq
  exact join_list (items := its.toArray) pl.isList (by simpa using strsAre_of rv) hz fun t' k => ⟨.str (Txt.join z ys), H, I.tok k, ⟨_, rfl⟩, q⟩
end
end L2
namespace L2
open PySem PySem.Spec PyProof.Rows
theorem bt_int : bootBuiltins "int" = some (.type "int") := by decide +kernel
theorem bt_bool : bootBuiltins "bool" = some (.type "bool") := by decide +kernel
theorem bt_str : bootBuiltins "str" = some (.type "str") := by decide +kernel
theorem bt_list : bootBuiltins "list" = some (.type "list") := by decide +kernel
theorem bt_tuple : bootBuiltins "tuple" = some (.type "tuple") := by decide +kernel
theorem bt_len : bootBuiltins "len" = some (.builtin "len") := by decide +kernel
theorem bt_isinstance : bootBuiltins "isinstance" = some (.builtin "isinstance") := by decide +kernel
theorem bt_min : bootBuiltins "min" = some (.builtin "min") := by decide +kernel
theorem bt_max : bootBuiltins "max" = some (.builtin "max") := by decide +kernel
theorem bt_all : bootBuiltins "all" = some (.builtin "all") := by decide +kernel
theorem bt_ord : bootBuiltins "ord" = some (.builtin "ord") := by decide +kernel
section
variable {X : Cx} {pos : Pos}
theorem pe_globE {x : Str} {v : V} (hg : Gl X x) (hm : ∃ u, X.mg x = some u ∧ RelV v u) (hd : (x == ("__debug__" : Str)) = false := by decide) : PE X (.Name x pos) (tC v) := by
  obtain ⟨u, h1, h2⟩ := hm
  exact pe_glob hg h1 h2 hd
theorem pe_bltT {x : Str} {T : String} (hg : Gl X x) (hm : X.mg x = none) (hv : bootBuiltins x = some (.type T)) (hn : x ≠ "__name__" := by decide) (hd : (x == ("__debug__" : Str)) = false := by decide) : PE X (.Name x pos) (tC (.ty T)) :=
  pe_bltn hg hm hv rfl hn hd
end

/-! ### the script's cells -/
def cellv (ns : List Int) (k : Int) : Int := if k < (ns.length : Int) then ns.getD k.toNat 0 else 41 * k + 3
theorem atI_int {ns : List Int} {k : Int} (h0 : 0 ≤ k) (h1 : k < (ns.length : Int)) : atI (ns.map V.int) k = some (.int (ns.getD k.toNat 0)) := by
  have e : ((k.toNat : Nat) : Int) = k := by omega
  have hl : k.toNat < ns.length := by omega
  have := atI_nat (xs := ns.map V.int) (j := k.toNat) (v := .int (ns.getD k.toNat 0)) (by
    rw [List.getElem?_map, List.getElem?_eq_getElem hl, List.getD_eq_getElem?_getD, List.getElem?_eq_getElem hl]
    rfl)
  rw [e] at this
  exact this
end L2
namespace L2
open PySem PySem.Spec PyProof.Rows
/-- a written factor below 2^64 -/
theorem mulOk_small {a b : Int} (h : -(2 ^ 64) < a ∧ a < 2 ^ 64 := by decide) : IntMulOk a b := .of_left (intBits_le_64 h.1 h.2)
theorem mulOk_smallR {a b : Int} (h : -(2 ^ 64) < b ∧ b < 2 ^ 64 := by decide) : IntMulOk a b := .of_right (intBits_le_64 h.1 h.2)
end L2

namespace L2
open PySem PySem.Spec PyProof.Rows
/-- a statement whose ways meet again -/
def tJoin (t : TS) : TS := fun D σ H => ∃ J : St → Hp → Prop, t { D with nx := J } σ H ∧ ∀ σ' H', J σ' H' → D.nx σ' H'
theorem ps_join {X : Cx} {st : Stmt} {t : TS} (h : PS X st t) : PS X st (tJoin t) := by
  intro pins s σ H D I hw
  obtain ⟨J, h1, h2⟩ := hw
  refine thn (h pins s σ H { D with nx := J } I h1) fun f s1 q => ?_
  cases f with
  | next => obtain ⟨σ', H', I', q⟩ := q; exact ⟨σ', H', I', h2 _ _ q⟩
  | ret v => exact q
  | brk => exact q
  | cont => exact q
theorem iteN {c A B : Prop} [Decidable c] (hc : ¬ c) (h : B) : if decide c = true then A else B := by rw [decide_eq_false hc]; exact iteF h
theorem iteY {c A B : Prop} [Decidable c] (hc : c) (h : A) : if decide c = true then A else B := by rw [decide_eq_true hc]; exact iteT h
theorem bl_true {Q : VK} {H : Hp} {b : Bool} (h : b = true) (k : Q (.bl true) H) : Q (.bl b) H := by rw [h]; exact k
theorem dec_true {c : Prop} [Decidable c] (h : c) : decide c = true := decide_eq_true h
end L2

/-! ### own rules: equality of data, signs of a text, all, split, int of a text -/
namespace L2
open PySem PySem.Spec PyProof.Rows
mutual
/-- what a value says as data -/
inductive Dt (K : PySem.W.Frag) (H : Hp) : V → PyData → Prop
  | non : Dt K H .non .none
  | bl (b : Bool) : Dt K H (.bl b) (.bool b)
  | int (i : Int) : Dt K H (.int i) (.int i)
  | str (x : Str) : Dt K H (.str x) (.str x)
  | list {p : Addr} {xs : List V} {ds : List PyData} : SqL K H p xs → Dts K H xs ds → Dt K H (.ref p) (.list ds)
  | tuple {p : Addr} {xs : List V} {ds : List PyData} : SqT K H p xs → Dts K H xs ds → Dt K H (.ref p) (.tuple ds)
inductive Dts (K : PySem.W.Frag) (H : Hp) : List V → List PyData → Prop
  | nil : Dts K H [] []
  | cons {x : V} {xs : List V} {d : PyData} {ds : List PyData} : Dt K H x d → Dts K H xs ds → Dts K H (x :: xs) (d :: ds)
end
section
variable {X : Cx} {pins : List (Addr × Obj)} {σ : St} {H : Hp} {s : Shared}
mutual
theorem Dt.reads (I : Inv X pins σ H s) : ∀ {x : V} {d : PyData}, Dt X.K H x d → ∀ {u : Value}, RelV x u → ∃ as, Reads s.heap u d as
  | _, _, .non, _, r => by cases r; exact ⟨_, .none⟩
  | _, _, .bl b, _, r => by cases r; exact ⟨_, .bool b⟩
  | _, _, .int i, _, r => by obtain ⟨t, rfl⟩ := r; exact ⟨_, .int i t⟩
  | _, _, .str x, _, r => by obtain ⟨t, rfl⟩ := r; exact ⟨_, .str x t⟩
  | _, _, .list hq hd, _, r => by
    cases r
    obtain ⟨its, rv, ⟨o, n, e, c, _, d⟩, _⟩ := I.list hq
    obtain ⟨as, q⟩ := Dts.reads I hd rv
    exact ⟨_, .list e c d (by simpa using q)⟩
  | _, _, .tuple hq hd, _, r => by
    cases r
    obtain ⟨its, rv, ⟨o, e, c, n, d⟩, _⟩ := I.tuple hq
    obtain ⟨as, q⟩ := Dts.reads I hd rv
    exact ⟨_, .tuple e c d (by simpa using q)⟩
theorem Dts.reads (I : Inv X pins σ H s) : ∀ {xs : List V} {ds : List PyData}, Dts X.K H xs ds → ∀ {us : List Value}, Vals xs us → ∃ as, ReadsAll s.heap us ds as
  | _, _, .nil, _, r => by cases r; exact ⟨_, .nil⟩
  | _, _, .cons h t, _, r => by
    cases r with
    | cons r1 r2 =>
      obtain ⟨as, q⟩ := Dt.reads I h r1
      obtain ⟨bs, q'⟩ := Dts.reads I t r2
      exact ⟨_, .cons q q'⟩
end
def rEqD (K : PySem.W.Frag) : R2 := fun x y H Q => ∃ da db, Dt K H x da ∧ Dt K H y db ∧ SeqAt.shaped da = true ∧ SeqAt.shaped db = true ∧ Q (.bl (PyData.eqv da db)) H
def rNeD (K : PySem.W.Frag) : R2 := fun x y H Q => ∃ da db, Dt K H x da ∧ Dt K H y db ∧ SeqAt.shaped da = true ∧ SeqAt.shaped db = true ∧ Q (.bl (!PyData.eqv da db)) H
theorem op_eqD (hu : X.A.units + 64 < cLine) : OpR X (compareOp .Eq) (rEqD X.K) := by
  intro pins s σ H x y v u Q I rx ry h
  obtain ⟨da, db, h1, h2, s1, s2, q⟩ := h
  obtain ⟨as, r1⟩ := h1.reads I rx
  obtain ⟨bs, r2⟩ := h2.reads I ry
  exact eq_dataH r1 r2 s1 s2 hu (fin_bl I q rfl)
theorem op_neD (hu : X.A.units + 64 < cLine) : OpR X (compareOp .NotEq) (rNeD X.K) := by
  intro pins s σ H x y v u Q I rx ry h
  obtain ⟨da, db, h1, h2, s1, s2, q⟩ := h
  obtain ⟨as, r1⟩ := h1.reads I rx
  obtain ⟨bs, r2⟩ := h2.reads I ry
  exact ne_dataH r1 r2 s1 s2 hu (fin_bl I q rfl)
end

/-! the signs of a text -/
def Its (x : Str) : It := ⟨fun i _ => i < x.cps.size, fun i H v H' => H' = H ∧ ∃ c, x.cps[i]? = some c ∧ v = .str ⟨#[c]⟩, fun i _ => x.cps.size ≤ i⟩
theorem turn_str {P : Program} {w : World} {K : PySem.W.Frag} {tg : Expr} (it : Addr) (x : Str) (t : Tok) {ty : String} (hty : ty = "str_ascii_iterator" ∨ ty = "str_iterator") : Turn P w K tg (Its x) [it] it (fun i h => h.IsStrIter it ty x t i) where
  mem := by simp
  obj := fun i h st b hb => by
    have e : b = it := by simpa using hb
    subst e
    obtain ⟨o, e, c, d⟩ := st
    exact ⟨o, e, fun v z => by rw [d] at z; cases z⟩
  keep := fun i h h' st k => by
    obtain ⟨o, e, r⟩ := st
    exact ⟨o, k it (by simp) o e, r⟩
  item := by
    intro X hP hw hK hc i pins s σ H E I hf st hg
    subst hP hw hK
    obtain ⟨f0, f1, f2, f3, f4, f5⟩ := hf it (by simp)
    have fin : ∀ (v : Value) (h' : Heap) (tk : Nat), SignAt x i v → h'.IsStrIter it ty x t (i + 1) → (∀ b o, b ∉ [it] → s.heap.get? b = some o → h'.get? b = some o) →
        ∃ u, some v = some u ∧ wpAny (model X.prog X.w) X.A (letOwnedTupleGo tg (.ref it) u) (fun _ s2 => ∃ x' H', Inv X pins σ H' s2 ∧ RelV x' u ∧ (Its x).yld i H x' H' ∧ s2.heap.IsStrIter it ty x t (i + 1) ∧ ∀ b ∈ [it], H' b = none) E { s with heap := h', toks := tk } := by
      intro v h' tk hv st' kk
      obtain ⟨c, u, hcc, rfl⟩ := hv
      have I1 : Inv X pins σ H { s with heap := h', toks := tk } := I.turned (fun b o hb e => kk b o (by simpa using hb) e) f0 f1 f3 f4 f5
      obtain ⟨o, e, c', d⟩ := id st'
      refine ⟨_, rfl, go_of (s := { s with heap := h', toks := tk }) (n := ty) e c' d (by rcases hty with rfl | rfl <;> decide) ⟨.str ⟨#[c]⟩, H, I1, ⟨u, rfl⟩, ⟨rfl, c, hcc, rfl⟩, st', fun b hb => (hf b hb).1⟩⟩
    rcases hty with rfl | rfl
    · exact (Walks.strAscii (prog := X.prog) (w := X.w) (I.ok.hd hc) it x t).item i s _ _ hg st fun v h' tk hv st' kk => fin v h' tk hv st' kk
    · exact (Walks.strWide (prog := X.prog) (w := X.w) (I.ok.hd hc) it x t).item i s _ _ hg st fun v h' tk hv st' kk => fin v h' tk hv st' kk
  done := by
    intro X hP hw hK hc i pins s σ H E I hf st hg
    subst hP hw hK
    obtain ⟨f0, f1, f2, f3, f4, f5⟩ := hf it (by simp)
    have hx : x.cps[i]? = none := by
      have hg' : x.cps.size ≤ i := hg
      simp; omega
    rcases hty with rfl | rfl
    · exact wpAny_pyNext_ascii_end (I.ok.hd hc) st hx fun h' eb => ⟨rfl, I.turned (t' := s.toks) (fun b o hb e => eb b o hb e) f0 f1 f3 f4 f5⟩
    · exact wpAny_pyNext_wide_end (I.ok.hd hc) st hx fun h' eb => ⟨rfl, I.turned (t' := s.toks) (fun b o hb e => eb b o hb e) f0 f1 f3 f4 f5⟩
  self := fun _ _ _ _ _ st h => by
    rcases hty with rfl | rfl
    · exact wpAny_pyIter_striter_ascii st h
    · exact wpAny_pyIter_striter_wide st h
section
variable {X : Cx} {tg : Expr}
def iStr (tl : TE) : TI := fun σ H R => tl σ H fun x H1 => ∃ z, x = .str z ∧ R (Its z) H1
theorem pi_str {l : Expr} {tl : TE} (hl : PE X l tl) : PI X tg l (iStr tl) := by
  intro pins s σ H R I h
  refine thn (hl pins s σ H _ I h) fun v s1 ⟨x, H1, I1, r1, q1⟩ => ?_
  obtain ⟨z, e, q⟩ := q1
  subst e
  obtain ⟨t, rfl⟩ := r1
  cases ha : z.cps.all (· < 128)
  · refine wpAny_pyIter_wide ha ?_
    refine ⟨s1.heap.objs.size, [s1.heap.objs.size], _, _, H1, rfl, I1.kept (t' := s1.toks) fun b o e => Heap.get?_push_of_some _ e, turn_str _ z t (ty := "str_iterator") (.inr rfl), ⟨_, Heap.get?_push_size _ rfl, rfl, rfl⟩, fun b hb => ?_, q⟩
    have e : b = s1.heap.objs.size := by simpa using hb
    subst e
    exact I1.fpOk (Nat.le_refl _) (I1.hok.fresh (Nat.le_refl _))
  · refine wpAny_pyIter_ascii ha ?_
    refine ⟨s1.heap.objs.size, [s1.heap.objs.size], _, _, H1, rfl, I1.kept (t' := s1.toks) fun b o e => Heap.get?_push_of_some _ e, turn_str _ z t (ty := "str_ascii_iterator") (.inl rfl), ⟨_, Heap.get?_push_size _ rfl, rfl, rfl⟩, fun b hb => ?_, q⟩
    have e : b = s1.heap.objs.size := by simpa using hb
    subst e
    exact I1.fpOk (Nat.le_refl _) (I1.hok.fresh (Nat.le_refl _))
end
/-- over the signs of a text -/
theorem for_str {z : Str} {g : TG} {tb : TS} {D : Ends} {σ : St} {H : Hp} (Pv : Nat → St → Hp → Prop) (h0 : Pv 0 σ H)
    (hs : ∀ i c σ H, z.cps[i]? = some c → Pv i σ H → g (.str ⟨#[c]⟩) σ H fun σ2 H2 => tb { D with nx := Pv (i + 1), ct := Pv (i + 1), bk := D.nx } σ2 H2) (hd : ∀ σ H, Pv z.cps.size σ H → D.nx σ H) :
    ∃ W : Nat → Nat → St → Hp → Prop, (∃ m, W 0 m σ H) ∧ ∀ i m σ H, W i m σ H →
      ((Its z).stop i H ∧ D.nx σ H) ∨ ((Its z).go i H ∧ ∃ N : St → Hp → Prop, (∀ σ' H', N σ' H' → ∃ m', m' < m ∧ W (i + 1) m' σ' H') ∧ ∀ x H', (Its z).yld i H x H' → g x σ H' fun σ2 H2 => tb { D with nx := N, ct := N, bk := D.nx } σ2 H2) := by
  refine ⟨fun i m σ H => m = z.cps.size - i ∧ i ≤ z.cps.size ∧ Pv i σ H, ⟨z.cps.size, by simp, Nat.zero_le _, h0⟩, ?_⟩
  rintro i m σ H ⟨rfl, hi, p⟩
  by_cases hlt : i < z.cps.size
  · refine .inr ⟨hlt, Pv (i + 1), fun σ' H' p' => ⟨z.cps.size - (i + 1), by omega, rfl, hlt, p'⟩, fun x H' y => ?_⟩
    obtain ⟨e, c, hc, y⟩ := y
    subst e y
    exact hs i c σ _ hc p
  · have e : i = z.cps.size := by omega
    subst e
    exact .inl ⟨Nat.le_refl _, hd σ H p⟩

theorem yes {A B : Hp → Prop} {σ : St} {H : Hp} (h : A H) : tYes σ H (fun b H4 => if b = true then A H4 else B H4) := by
  show if true = true then A H else B H
  exact iteT h
/-! comprehensions, by what is gone over -/
section
variable {js : List Nat} {tt : TT} {te : TE} {σ : St} {Qd : List V → Hp → Prop}
theorem comp_range {lo : Int} {n : Nat} {H : Hp} (Pv : Nat → List V → Hp → Prop) (hn : n ≤ sizeLine) (h0 : Pv 0 [] H) (hl : ∀ i ys H, Pv i ys H → ys.length ≤ i)
    (hs : ∀ i ys H, i < n → Pv i ys H → tt (some (.int (lo + i)) :: valsAt σ js) H fun b H4 => if b = true then te (some (.int (lo + i)) :: valsAt σ js) H4 fun y H5 => Pv (i + 1) (ys ++ [y]) H5 else Pv (i + 1) ys H4)
    (hd : ∀ ys H, Pv n ys H → Qd ys H) : CompEnd js tt te σ Qd (Itr lo n) H := by
  refine ⟨fun i m ys H => m = n - i ∧ i ≤ n ∧ Pv i ys H, ⟨n, by simp, Nat.zero_le _, h0⟩, ?_⟩
  rintro i m ys H ⟨rfl, hi, p⟩
  have hlen := hl i ys H p
  by_cases hlt : i < n
  · refine .inr ⟨hlt, by omega, Pv (i + 1), fun ys' H' p' => ⟨n - (i + 1), by omega, rfl, hlt, p'⟩, fun x H' y => ?_⟩
    obtain ⟨e, y⟩ := y
    subst e y
    exact hs i ys _ hlt p
  · have e : i = n := by omega
    subst e
    exact .inl ⟨Nat.le_refl _, by omega, hd ys H p⟩
theorem comp_list {K : PySem.W.Frag} {a : Addr} {xs : List V} {H : Hp} (Pv : Nat → List V → Hp → Prop) (hn : xs.length ≤ sizeLine) (h0 : Pv 0 [] H) (hl : ∀ i ys H, Pv i ys H → ys.length ≤ i) (hq : ∀ i ys H, i ≤ xs.length → Pv i ys H → SqL K H a xs)
    (hs : ∀ i x ys H, xs[i]? = some x → Pv i ys H → tt (some x :: valsAt σ js) H fun b H4 => if b = true then te (some x :: valsAt σ js) H4 fun y H5 => Pv (i + 1) (ys ++ [y]) H5 else Pv (i + 1) ys H4)
    (hd : ∀ ys H, Pv xs.length ys H → Qd ys H) : CompEnd js tt te σ Qd (Itl K a) H := by
  refine ⟨fun i m ys H => m = xs.length - i ∧ i ≤ xs.length ∧ Pv i ys H, ⟨xs.length, by simp, Nat.zero_le _, h0⟩, ?_⟩
  rintro i m ys H ⟨rfl, hi, p⟩
  have hlen := hl i ys H p
  have q := hq i ys H hi p
  by_cases hlt : i < xs.length
  · refine .inr ⟨⟨xs, xs[i], q, by simp [hlt]⟩, by omega, Pv (i + 1), fun ys' H' p' => ⟨xs.length - (i + 1), by omega, rfl, hlt, p'⟩, fun x H' y => ?_⟩
    obtain ⟨e, y⟩ := y
    subst e
    exact hs i x ys _ (y xs q) p
  · have e : i = xs.length := by omega
    subst e
    exact .inl ⟨⟨xs, q, Nat.le_refl _⟩, by omega, hd ys H p⟩
theorem comp_str {z : Str} {H : Hp} (Pv : Nat → List V → Hp → Prop) (hn : z.cps.size ≤ sizeLine) (h0 : Pv 0 [] H) (hl : ∀ i ys H, Pv i ys H → ys.length ≤ i)
    (hs : ∀ i c ys H, z.cps[i]? = some c → Pv i ys H → tt (some (.str ⟨#[c]⟩) :: valsAt σ js) H fun b H4 => if b = true then te (some (.str ⟨#[c]⟩) :: valsAt σ js) H4 fun y H5 => Pv (i + 1) (ys ++ [y]) H5 else Pv (i + 1) ys H4)
    (hd : ∀ ys H, Pv z.cps.size ys H → Qd ys H) : CompEnd js tt te σ Qd (Its z) H := by
  refine ⟨fun i m ys H => m = z.cps.size - i ∧ i ≤ z.cps.size ∧ Pv i ys H, ⟨z.cps.size, by simp, Nat.zero_le _, h0⟩, ?_⟩
  rintro i m ys H ⟨rfl, hi, p⟩
  have hlen := hl i ys H p
  by_cases hlt : i < z.cps.size
  · refine .inr ⟨hlt, by omega, Pv (i + 1), fun ys' H' p' => ⟨z.cps.size - (i + 1), by omega, rfl, hlt, p'⟩, fun x H' y => ?_⟩
    obtain ⟨e, c, hc, y⟩ := y
    subst e y
    exact hs i c ys _ hc p
  · have e : i = z.cps.size := by omega
    subst e
    exact .inl ⟨Nat.le_refl _, by omega, hd ys H p⟩
end

section
variable {X : Cx}
/-- t[lo:hi] of a text -/
def rSlS : V → Option Int → Option Int → Hp → VK → Prop := fun x lo hi H Q => ∃ z, x = .str z ∧ z.length ≤ sizeLine ∧ Q (.str (Txt.slice z lo hi)) H
theorem sl_str : SlR X rSlS := by
  intro pins s σ H x v vl vu lo hi sl Q I rx hs pl pu h
  obtain ⟨z, rfl, hz, q⟩ := h
  obtain ⟨t, rfl⟩ := rx
  refine ⟨"str", _, PySem.F.slot_str_getitem.lookup, typeIs_str _ _ _, ?_⟩
  have fin : ∀ t' k, EP X pins σ Q (.str (Txt.slice z lo hi) t') { s with toks := k } := fun t' k => ⟨.str _, H, I.tok k, ⟨_, rfl⟩, q⟩
  cases pl with
  | none =>
    cases pu with
    | none => exact wpAny_getItem_str_slice (l := none) (u := none) (st := none) hs rfl (post_val_or_str ⟨Nat.le_trans (Txt.slice_le z _ _) hz, fin⟩)
    | int j tj => exact wpAny_getItem_str_slice (l := none) (u := some (j, tj)) (st := none) hs rfl (post_val_or_str ⟨Nat.le_trans (Txt.slice_le z _ _) hz, fin⟩)
  | int i ti =>
    cases pu with
    | none => exact wpAny_getItem_str_slice (l := some (i, ti)) (u := none) (st := none) hs rfl (post_val_or_str ⟨Nat.le_trans (Txt.slice_le z _ _) hz, fin⟩)
    | int j tj => exact wpAny_getItem_str_slice (l := some (i, ti)) (u := some (j, tj)) (st := none) hs rfl (post_val_or_str ⟨Nat.le_trans (Txt.slice_le z _ _) hz, fin⟩)
/-- all(a list of truths) -/
theorem call_all (hc : X.calm = true) : CallR X (.builtin "all") (fun xs H Q => ∃ (p : Addr) (bs : List Bool), xs = [.ref p] ∧ SqL X.K H p (bs.map V.bl) ∧ Q (.bl (bs.all id)) H) := by
  intro pins s σ H xs us Q I r h
  obtain ⟨p, bs, rfl, hq, q⟩ := h
  obtain ⟨u, rfl, rx⟩ := vals1 r
  cases rx
  obtain ⟨its, rv, pl, _⟩ := I.list hq
  have hl := pl.isList
  have hlt : p < s.heap.objs.size := by obtain ⟨_, e, _⟩ := hl; exact Heap.lt_size e
  have hb : ∀ i v, its[i]? = some v → ∃ b, bs[i]? = some b ∧ v = Value.bool b := fun i v e => by
    have hi : i < its.length := (List.getElem?_eq_some_iff.mp e).1
    have hi' : i < bs.length := by have := rv.length; rw [List.length_map] at this; omega
    obtain ⟨u, e', r'⟩ := rv.get (i := i) (x := .bl bs[i]) (by rw [List.getElem?_map, List.getElem?_eq_getElem hi']; rfl)
    rw [e] at e'
    cases e'
    exact ⟨bs[i], List.getElem?_eq_getElem hi', r'⟩
  refine call_all_walk (wpAny_pyIter_list hl ?_)
  refine ⟨s.heap.objs.size, [s.heap.objs.size, p], [s.heap.objs.size], its.toArray.size, _, _, fun i => (bs[i]?).getD true, rfl, Walks.list (A := X.A.in1) (I.ok.hd hc) _ p (Nat.ne_of_lt hlt) its.toArray,
    ⟨⟨_, Heap.get?_push_size _ rfl, rfl, rfl⟩, hl.push _⟩, fun i v s' Q' E' hP hQ => ?_, fun h' tk hk => ?_⟩
  · obtain ⟨b, e, rfl⟩ := hb i v (by simpa using hP)
    simp only [e, Option.getD_some] at hQ
    exact wpAny_truthy_bool hQ
  · have e : ((List.range its.toArray.size).all fun i => (bs[i]?).getD true) = bs.all id := by
      have hlen := rv.length
      rw [List.length_map] at hlen
      rw [List.size_toArray, ← hlen]; exact LSm.range_all bs
    rw [e]
    exact ⟨.bl _, H, I.kept (LSm.kept_iter hk), rfl, q⟩
/-- int(text) -/
theorem call_int_str : CallR X (.type "int") (fun xs H Q => ∃ (x : Str) (n : Int), xs = [.str x] ∧ PySem.intText? x = some n ∧ x.length ≤ 640 ∧ Q (.int n) H) := by
  intro pins s σ H xs us Q I r h
  obtain ⟨x, n, rfl, hn, hl, q⟩ := h
  obtain ⟨u, rfl, t, rfl⟩ := vals1 r
  exact PySem.W.KIN.call_text hn hl ⟨.int n, H, I.tok _, ⟨_, rfl⟩, q⟩
/-- a text so many times -/
theorem op_mul_str : OpR X (binaryOp .Mult) (fun x y H Q => ∃ z n, x = .str z ∧ y = .int n ∧ MulOk z n ∧ Q (.str (Txt.mul z n)) H) := by
  intro pins s σ H x y v u Q I rx ry h
  obtain ⟨z, n, rfl, rfl, hm, q⟩ := h
  obtain ⟨t, rfl⟩ := rx
  obtain ⟨t', rfl⟩ := ry
  exact SB.mul hm fun t' k => ⟨.str _, H, I.tok k, ⟨_, rfl⟩, q⟩
theorem vals_strs : ∀ (l : List (Str × Tok)), Vals ((l.map (·.1)).map V.str) (strValues l)
  | [] => .nil
  | (x, t) :: l => .cons ⟨t, rfl⟩ (vals_strs l)
/-- t.split(sep) -/
def rSplit : V → List V → Hp → VK → Prop := fun x xs H Q => ∃ z y, x = .str z ∧ xs = [.str y] ∧ (y.length == 0) = false ∧ z.length ≤ sizeLine ∧ (Txt.split z y).length ≤ sizeLine ∧ ∀ D, H D = none → Q (.ref D) (upd H D (.lst ((Txt.split z y).map V.str)))
theorem mt_split : MtR X "str.split" rSplit := by
  intro pins s σ H x xs v us Q I rx rs h
  obtain ⟨z, y, rfl, rfl, hy, hz, hn, q⟩ := h
  obtain ⟨t, rfl⟩ := rx
  obtain ⟨u', rfl, u, rfl⟩ := vals1 rs
  have fin : ∀ (l : List (Str × Tok)) (tk : Nat), l.map (·.1) = Txt.split z y → EP X pins σ Q (.ref s.heap.objs.size) { s with heap := s.heap.push { cls := .type "list", data := .seq (strValues l).toArray }, toks := tk } := fun l tk e => by
    refine ⟨.ref s.heap.objs.size, _, I.laid (o := .lst ((Txt.split z y).map V.str)) (fun b o e => Heap.get?_push_of_some _ e) (Nat.le_refl _) ?_, rfl, q _ (I.hok.fresh (Nat.le_refl _))⟩
    exact ⟨by rw [List.length_map]; exact hn, strValues l, 0, by rw [← e]; exact vals_strs l, Heap.get?_push_size _ rfl⟩
  unfold Txt.split at hn fin
  cases h1 : (decide (z.length < y.length) || decide (Builtin.Str.strKind z < Builtin.Str.strKind y))
  · rw [if_neg (ne_true_of_eq_false h1)] at hn fin
    cases hf : (Builtin.Str.occurrences z y 0 z.length (z.length + 1)).isEmpty
    · rw [if_neg (ne_true_of_eq_false hf)] at hn fin
      refine call_meets PySem.F.slot_str_split (typeIs_str _ _ _) PySem.F.entry_str_split (PySem.F.args_str_split_2 _ _) (meets_str_split_sep z y t u h1 hy hf hz hn) ?_
      show wants _ _ _ { s with toks := _, heap := s.heap.push { cls := .type "list", data := .seq (strsFrom s.toks (Builtin.Str.partsBetween z (Builtin.Str.occurrences z y 0 z.length (z.length + 1)) y.length)).toArray } }
      rw [strsFrom_eq]
      exact fin (numbered s.toks _) _ (numbered_texts _ _)
    · rw [if_pos hf] at hn fin
      exact call_meets PySem.F.slot_str_split (typeIs_str _ _ _) PySem.F.entry_str_split (PySem.F.args_str_split_2 _ _) (meets_str_split_not_found z y t u h1 hy hf) (fin [(z, t)] _ rfl)
  · rw [if_pos h1] at hn fin
    exact call_meets PySem.F.slot_str_split (typeIs_str _ _ _) PySem.F.entry_str_split (PySem.F.args_str_split_2 _ _) (meets_str_split_cannot_occur z y t u h1) (fin [(z, t)] _ rfl)
end
end L2

/-! ### own mathematics: texts cut at a sign and put together; texts as data -/
namespace L2
open PySem PySem.StrLaws PySem.Builtin PySem.Builtin.Str

def posL (c : Nat) : Nat → List Nat → List Nat
  | _, [] => []
  | a, x :: l => if x = c then a :: posL c (a + 1) l else posL c (a + 1) l

theorem occ_run (x : Str) (c limit : Nat) : ∀ (m a : Nat) (st : Array Nat × Nat), st.2 ≤ a → st.1.size + m ≤ limit → a + m = x.length + 1 →
    (forIn (List.range' a m) st (occBody x ⟨#[c]⟩ x.length limit)).run.fst.toList = st.1.toList ++ posL c a (x.cps.toList.drop a)
  | 0, a, st, _, _, ha => by
    have hl : x.cps.toList.length = x.length := by simp [Str.length]
    rw [List.drop_eq_nil_of_le (by omega)]
    simp [posL]
  | m + 1, a, st, h1, h2, ha => by
    have hl : x.cps.toList.length = x.length := by simp [Str.length]
    have hs : (⟨#[c]⟩ : Str).length = 1 := rfl
    rw [List.range'_succ, List.forIn_cons]
    by_cases hc : x.cps.toList[a]? = some c
    · have hc' := (subAt_one x c a).mpr hc
      have e : occBody x ⟨#[c]⟩ x.length limit a st = pure (ForInStep.yield (st.fst.push a, a + (⟨#[c]⟩ : Str).length)) := by
        unfold occBody
        rw [if_pos ⟨⟨⟨by omega, h1⟩, hc'.1⟩, hc'.2⟩]
      rw [e]
      have ih := occ_run x c limit m (a + 1) (st.fst.push a, a + 1) (Nat.le_refl _) (by simp; omega) (by omega)
      show (forIn (List.range' (a + 1) m) (st.fst.push a, a + 1) (occBody x ⟨#[c]⟩ x.length limit)).run.fst.toList = _
      rw [ih]
      have ha' : a < x.cps.toList.length := (List.getElem?_eq_some_iff.mp hc).1
      rw [List.drop_eq_getElem_cons ha']
      have hx : x.cps.toList[a] = c := (List.getElem?_eq_some_iff.mp hc).2
      simp [posL, hx]
    · have e : occBody x ⟨#[c]⟩ x.length limit a st = pure (ForInStep.yield (st.fst, st.snd)) := by
        unfold occBody
        rw [if_neg fun h => hc ((subAt_one x c a).mp ⟨h.1.2, h.2⟩)]
      rw [e]
      have ih := occ_run x c limit m (a + 1) st (by omega) (by omega) (by omega)
      show (forIn (List.range' (a + 1) m) st (occBody x ⟨#[c]⟩ x.length limit)).run.fst.toList = _
      rw [ih]
      by_cases ha' : a < x.cps.toList.length
      · rw [List.drop_eq_getElem_cons ha']
        have hx : x.cps.toList[a] ≠ c := fun z => hc (by rw [List.getElem?_eq_getElem ha', z])
        simp only [posL, if_neg hx]
      · rw [List.drop_eq_nil_of_le (by omega), List.drop_eq_nil_of_le (by omega)]
        simp [posL]
theorem occ_all (x : Str) (c : Nat) : occurrences x ⟨#[c]⟩ 0 x.length (x.length + 1) = posL c 0 x.cps.toList := by
  rw [occ_eq]
  have := occ_run x c (x.length + 1) (x.length + 1 - 0) 0 (#[], 0) (Nat.le_refl _) (by simp) (by omega)
  rw [this]
  simp

/-- the codes of words with c between them -/
def joinL (c : Nat) : List (List Nat) → List Nat
  | [] => []
  | [w] => w
  | w :: v :: r => w ++ c :: joinL c (v :: r)
theorem pos_free (c : Nat) : ∀ (w : List Nat) (a : Nat), c ∉ w → posL c a w = []
  | [], _, _ => rfl
  | x :: l, a, h => by
    have h1 : x ≠ c := fun e => h (by simp [e])
    have h2 : c ∉ l := fun e => h (by simp [e])
    simp [posL, h1, pos_free c l (a + 1) h2]
theorem pos_cut (c : Nat) : ∀ (w r : List Nat) (a : Nat), c ∉ w → posL c a (w ++ c :: r) = (a + w.length) :: posL c (a + w.length + 1) r
  | [], r, a, _ => by simp [posL]
  | x :: l, r, a, h => by
    have h1 : x ≠ c := fun e => h (by simp [e])
    have h2 : c ∉ l := fun e => h (by simp [e])
    have := pos_cut c l r (a + 1) h2
    simp only [List.cons_append, posL, if_neg h1, this, List.length_cons]
    congr 1
    · omega
    · congr 1
      omega
theorem parts_of (x : Str) (c : Nat) : ∀ (ws : List (List Nat)) (pre : List Nat), ws ≠ [] → (∀ w ∈ ws, c ∉ w) → x.cps.toList = pre ++ joinL c ws →
    partsFrom x 1 pre.length (posL c pre.length (joinL c ws)) = ws.map fun w => (⟨w.toArray⟩ : Str)
  | [], _, h, _, _ => absurd rfl h
  | [w], pre, _, hf, hx => by
    have hw : c ∉ w := hf w (by simp)
    have hl : x.cps.toList.length = x.length := by simp [Str.length]
    simp only [joinL] at hx ⊢
    rw [pos_free c w _ hw]
    simp only [partsFrom, List.map_cons, List.map_nil]
    congr 1
    apply Str.ext'
    apply Array.ext'
    rw [strSub_toList, hx]
    have : x.length = pre.length + w.length := by rw [← hl, hx]; simp
    rw [this]
    simp
  | w :: v :: r, pre, _, hf, hx => by
    have hw : c ∉ w := hf w (by simp)
    simp only [joinL] at hx ⊢
    rw [pos_cut c w _ _ hw]
    simp only [partsFrom, List.map_cons]
    congr 1
    · apply Str.ext'
      apply Array.ext'
      rw [strSub_toList, hx]
      simp
    · have := parts_of x c (v :: r) (pre ++ w ++ [c]) (by simp) (fun y hy => hf y (by simp at hy ⊢; exact .inr hy)) (by rw [hx]; simp)
      simp only [List.length_append, List.length_cons, List.length_nil] at this
      simpa using this
theorem join_codes (c : Nat) : ∀ (ws : List Str), (Str.join ⟨#[c]⟩ ws).cps.toList = joinL c (ws.map fun w => w.cps.toList)
  | [] => rfl
  | [w] => by simp [Str.join, joinL]
  | w :: v :: r => by
    have := join_codes c (v :: r)
    simp only [Str.join, joinL, List.map_cons] at this ⊢
    rw [Str.cps_append, Str.cps_append]
    simp [this]
theorem split_join (c : Nat) (hc : c < 256) (ws : List Str) (h : ws ≠ []) (hf : ∀ w ∈ ws, c ∉ w.cps.toList) : Txt.split (Txt.join ⟨#[c]⟩ ws) ⟨#[c]⟩ = ws := by
  unfold Txt.join
  rw [glued_eq_join]
  have hp : partsFrom (Str.join ⟨#[c]⟩ ws) 1 0 (posL c 0 (Str.join ⟨#[c]⟩ ws).cps.toList) = ws := by
    have := parts_of (Str.join ⟨#[c]⟩ ws) c (ws.map fun w => w.cps.toList) [] (by simpa using h) (by simpa using hf) (by rw [join_codes]; rfl)
    rw [join_codes]
    simp only [List.length_nil, List.map_map] at this
    rw [this]
    conv => rhs; rw [← List.map_id ws]
    apply List.map_congr_left
    intro w _
    rfl
  have one : ∀ x : Str, posL c 0 x.cps.toList = [] → partsFrom x 1 0 (posL c 0 x.cps.toList) = [x] := fun x e => by
    rw [e]
    simp only [partsFrom]
    rw [sub_whole]
  unfold Txt.split
  split
  · rename_i hlt
    refine Eq.trans (one _ ?_).symm hp
    rw [Bool.or_eq_true, decide_eq_true_iff, decide_eq_true_iff] at hlt
    rcases hlt with hlt | hlt
    · have : (Str.join ⟨#[c]⟩ ws).cps.toList = [] := by
        have h1 : (⟨#[c]⟩ : Str).length = 1 := rfl
        have h2 : (Str.join ⟨#[c]⟩ ws).length = 0 := by omega
        simpa [Str.length] using h2
      rw [this]; rfl
    · exfalso
      have : PySem.Builtin.Str.strKind ⟨#[c]⟩ = 1 := by simp [PySem.Builtin.Str.strKind, hc]
      rw [this] at hlt
      unfold PySem.Builtin.Str.strKind at hlt
      split at hlt
      · omega
      · split at hlt <;> omega
  · split
    · rename_i he
      rw [occ_all] at he
      exact Eq.trans (one _ (by simpa using he)).symm hp
    · rw [partsBetween_eq, occ_all]
      exact hp
end L2

namespace L2
open PySem
/-- plain signs alone -/
def Asc (x : Str) : Prop := ∀ c ∈ x.cps.toList, c < 128
theorem strOk_asc {x : Str} (h : Asc x) : PyData.canLay0 (.str x) = true := by
  unfold PyData.canLay0 PyData.strOk
  rw [Array.all_eq_true']
  intro c hc
  have := h c (by simpa using hc)
  simp only [decide_eq_true_iff]
  omega
theorem eqvAll_strs : ∀ (ws : List Str), PyData.eqvAll (ws.map PyData.str) (ws.map PyData.str) = true
  | [] => by simp [PyData.eqvAll]
  | w :: r => by simp [PyData.eqvAll, PyData.eqv, eqvAll_strs r]
theorem canLay_strs : ∀ {ws : List Str}, (∀ w ∈ ws, Asc w) → PyData.canLayAll0 (ws.map PyData.str) = true
  | [], _ => by simp [PyData.canLayAll0]
  | w :: r, h => by simp [PyData.canLayAll0, strOk_asc (h w (by simp)), canLay_strs (ws := r) fun v hv => h v (by simp [hv])]
theorem depth_strs : ∀ (ws : List Str), PyData.depthAll (ws.map PyData.str) = 0
  | [] => by simp [PyData.depthAll]
  | w :: r => by simp [PyData.depthAll, PyData.depth, depth_strs r]
theorem shaped_strs {ws : List Str} (h : ∀ w ∈ ws, Asc w) : SeqAt.shaped (.list (ws.map PyData.str)) = true := by
  simp [SeqAt.shaped, PyData.canLay0, PyData.depth, canLay_strs h, depth_strs]
theorem partsFrom_len (x : Str) (w : Nat) : ∀ (cuts : List Nat) (a : Nat), (StrLaws.partsFrom x w a cuts).length = cuts.length + 1
  | [], _ => rfl
  | c :: r, a => by simp [StrLaws.partsFrom, partsFrom_len x w r]
theorem split_len (z y : Str) : (Txt.split z y).length ≤ z.length + 2 := by
  unfold Txt.split
  split
  · simp
  · split
    · simp
    · rw [StrLaws.partsBetween_eq, partsFrom_len]
      have := StrLaws.occ_length_le_len z y 0 z.length (z.length + 1)
      omega
theorem dts_strs {K : PySem.W.Frag} {H : L2.Hp} : ∀ (ws : List Str), Dts K H (ws.map L2.V.str) (ws.map PyData.str)
  | [] => .nil
  | w :: r => .cons (.str w) (dts_strs r)
theorem same_new {H : L2.Hp} {p : Addr} {o : L2.HO} (hp : H p = none) : L2.Same H (L2.upd H p o) := fun b o' e => by rw [L2.upd_ne (L2.ne_of_none e hp)]; exact e
end L2

namespace L2
open PySem PySem.SeqAt
open AutoSeq1 (wpAny_loadPart')
open MeetsSeq MeetsSeq2 MeetsSeq3 SeqRoads2
theorem dict_ne_declines_str (l : Addr) (es : Array DictEntry) (n : Nat) (dd : Option Addr) (sl : Array (Option Value)) (b : Str) (u : Tok) :
    Meets (Builtin.«dict.__ne__» ⟨[.ref l, .str b u], []⟩) (fun _ R s => s.heap.get? l = some { cls := .type "dict", dict := dd, data := .dict es n, slots := sl } ∧ R (.ok (.ret .notImplemented)) s) :=
  .of_wp fun prog w A R s h => by obtain ⟨hp, g, d, tk, os⟩ := s; obtain ⟨hl, h⟩ := h; have f1 := F.sub_str_dict; wp_walk using wpAny_loadPart' hl; exact ⟨_, rfl, h⟩
theorem str_ne_declines_dict (b : Str) (u : Tok) (l : Addr) (c : Value) (es : Array DictEntry) (n : Nat) (dd : Option Addr) (sl : Array (Option Value)) :
    Meets (Builtin.«str.__ne__» ⟨[.str b u, .ref l], []⟩) (fun _ R s => s.heap.get? l = some { cls := c, dict := dd, data := .dict es n, slots := sl } ∧ R (.ok (.ret .notImplemented)) s) :=
  .of_wp fun prog w A R s h => by obtain ⟨hp, g, d, tk, os⟩ := s; obtain ⟨hl, h⟩ := h; wp_walk using wpAny_loadPart' hl, wpAny_load hl; exact ⟨_, rfl, h⟩
section
variable {A : Around} {s : Shared}
theorem rcNe_dict_str {l : Addr} {o : Obj} {es : Array DictEntry} {n : Nat} (b : Str) (u : Tok) (ho : s.heap.get? l = some o) (hc : o.cls = .type "dict") (hd : o.data = .dict es n) (hu : A.units < cLine) : RcNeAt A s (.ref l) (.str b u) true := fun prog w E Q h => by
  obtain ⟨cls, dd, data, sl⟩ := o
  simp only at hc hd
  subst hc hd
  exact rc_ne_decline_or (k := false) ⟨_, ho, rfl⟩ (typeIs_str s b u) (by decide) F.sub_str_dict F.slot_dict_ne F.slot_str_ne_refl
    (fun _ hq => call_meets F.slot_dict_ne ⟨_, ho, rfl⟩ F.entry_dict_ne (F.args_dict_ne_2 _ _) (dict_ne_declines_str l es n dd sl b u) ⟨ho, hq⟩)
    (fun _ hq => call_meets F.slot_str_ne_refl (typeIs_str s b u) F.entry_str_ne (F.args_str_ne_2 _ _) (str_ne_declines_dict b u l (.type "dict") es n dd sl) ⟨ho, hq⟩)
    (fun _ hq => wpAny_of_eq (rfl : isSame (.ref l) (.str b u) = pure false) hq) (.inr hu) h
end
open PySem.Spec PyProof.Rows
/-- != of data, and of a dict and a text -/
def rNeX (K : PySem.W.Frag) : R2 := fun x y H Q => rNeD K x y H Q ∨ ∃ p kvs z, x = .ref p ∧ y = .str z ∧ H p = some (.dK kvs) ∧ Q (.bl true) H
theorem op_neX {X : Cx} (hu : X.A.units + 64 < cLine) : OpR X (compareOp .NotEq) (rNeX X.K) := by
  refine (op_neD hu).or ?_
  intro pins s σ H x y v u Q I rx ry h
  obtain ⟨p, kvs, z, rfl, rfl, hp, q⟩ := h
  cases rx
  obtain ⟨t, rfl⟩ := ry
  obtain ⟨_, _, _, _, o, es, n, e, ex, ed, _⟩ := I.hok p _ hp
  exact rcNe_dict_str (A := X.A) z t e ex.1 ed (by omega) _ _ _ _ (fin_bl I q rfl)
theorem big_of {X : Cx} {pins : List (Addr × Obj)} {σ : St} {H : Hp} {s : Shared} (I : Inv X pins σ H s) : sysModules < s.heap.objs.size := by
  have h : mainGlobals < s.heap.objs.size := (I.mod.glob.keeps I.bk).lt
  exact Nat.lt_trans (by decide) h
/-- {} -/
def tDNew : TE := fun _ H Q => ∀ p, H p = none → Q (.ref p) (upd H p (.dK []))
theorem pe_dnew {X : Cx} {pos : Pos} : PE X (.Dict [] [] pos) tDNew := fun pins s σ H Q I h =>
  wpAny_Dict_empty ⟨.ref s.heap.objs.size, _, I.laid (a := s.heap.objs.size) (o := .dK []) (t' := s.toks) (fun _ _ q => Heap.get?_push_of_some _ q) (Nat.le_refl _)
    ⟨Nat.zero_le _, beq_eq_false_iff_ne.mpr (Ne.symm (Nat.ne_of_lt (big_of I))), [], .nil, Heap.DictOf.new s.heap⟩, rfl, h _ (I.hok.fresh (Nat.le_refl _))⟩
end L2

/-! ### own rules: methods by the instance's own class, list(range(n)), a dict of the top, lists or tuples -/
namespace L2
open PySem PySem.Spec PyProof.Rows
/-- the method m of the class C keeps the promise sp -/
structure MethAt (P : Program) (w : World) (K : PySem.W.Frag) (mg : Str → Option Value) (base : Heap) (CX : CXT) (k : Nat) (C : Addr) (m : Str) (sp : Sp) : Prop where
  ex : ∃ (f : Addr) (fd : FuncData) (ps : List Str), Cls K C ∧ Meth K C m f ∧ Binds K fd ps [] ∧ FnOk P w K mg base CX k f fd ps sp
def tMethD (P : Program) (w : World) (K : PySem.W.Frag) (mg : Str → Option Value) (base : Heap) (CX : CXT) (k : Nat) (m : Str) (E : XK) (ta : TE) (t : TA) : TE := fun σ H Q => ta σ H fun x H1 => ∃ a C dx fs sp, x = .ref a ∧ H1 a = some (.ins C dx fs) ∧ fs.lookup m = none ∧
  MethAt P w K mg base CX k C m sp ∧ t σ H1 fun vs H2 => sp (x :: vs) H2 Q E
section
variable {X : Cx} {CX : CXT} {k : Nat} {E : XK} {m : Str} {pos apos : Pos} {e o : Expr} {es : List Expr} {ta : TE} {t : TA}
/-- o.m(e, ..), whatever o's class is -/
theorem pe_methD {pl : Sem Bool} (he : PE X o ta) (hr : Room k X.A) (hx : Passes CX X E) (ha : PA X (e :: es) t)
    (hst : starEach (e :: es) X.env = (false, eval e X.env) :: starEach es X.env := by rfl) (hpl : (backTo pos (starEach es X.env)).any (·.1) = false := by rfl)
    (ht : eval (.Call (.Attribute o m apos) (e :: es) [] pos) X.env = (do
      let ov ← eval o X.env
      standAt apos.atName
      let (f, first) ← holding [ov] (getMethod ov m pl)
      callWith pos f first (backTo pos (starEach (e :: es) X.env)) (backToKw pos (keywordEach [] X.env))) := by rfl) :
    PE X (.Call (.Attribute o m apos) (e :: es) [] pos) (tMethD X.prog X.w X.K X.mg X.base CX k m E ta t) := by
  intro pins s σ H Q I h
  refine PySem.W.methodCall_KW (pl := pl) (thn (he pins s σ H _ I h) fun u s1 ⟨x, H1, I1, rx, a, C, dx, fs, sp, ex, ea, l, ⟨f, fd, ps, c, hm, hb, F⟩, q⟩ => ?_) ht
  subst ex
  obtain rfl : u = Value.ref a := rx
  refine getmeth_ok I1 ea c hm l ?_
  refine PySem.W.callWith_K (first := [.ref a]) (h₀ := X.base) I.ok.mod.kin hm.kp (thn (ha pos pins s1 σ H1 _ I1 q) fun us s2 ⟨vs, H2, I2, r, q2⟩ => ⟨I2.kIn, ?_⟩) hst hpl
  exact run_fn (us := .ref a :: us) (vs := .ref a :: vs) (ds := []) (dvs := []) F hr hb .nil hx I2 (.cons rfl r) (by rw [List.append_nil]; exact q2)
/-- o.m() -/
theorem pe_methD0 {pl : Sem Bool} (he : PE X o ta) (hr : Room k X.A) (hx : Passes CX X E)
    (ht : eval (.Call (.Attribute o m apos) [] [] pos) X.env = (do
      let ov ← eval o X.env
      standAt apos.atName
      let (f, first) ← holding [ov] (getMethod ov m pl)
      callWith pos f first (backTo pos (starEach [] X.env)) (backToKw pos (keywordEach [] X.env))) := by rfl) :
    PE X (.Call (.Attribute o m apos) [] [] pos) (tMethD X.prog X.w X.K X.mg X.base CX k m E ta tNil) := by
  intro pins s σ H Q I h
  refine PySem.W.methodCall_KW (pl := pl) (thn (he pins s σ H _ I h) fun u s1 ⟨x, H1, I1, rx, a, C, dx, fs, sp, ex, ea, l, ⟨f, fd, ps, c, hm, hb, F⟩, q⟩ => ?_) ht
  subst ex
  obtain rfl : u = Value.ref a := rx
  refine getmeth_ok I1 ea c hm l ?_
  exact PySem.W.callWith_K0 (first := [.ref a]) I1.kIn hm.kp (run_fn (us := [.ref a]) (vs := [.ref a]) (ds := []) (dvs := []) F hr hb .nil hx I1 (.cons rfl .nil) (by rw [List.append_nil]; exact q))
end

/-! list(range(n)) -/
section
variable {X : Cx}
theorem bt_range : bootBuiltins "range" = some (.type "range") := by decide +kernel
theorem call_range1 : CallR X (.type "range") (fun xs H Q => ∃ j : Int, xs = [.int j] ∧ ∀ r, H r = none → Q (.ref r) (upd H r (.rng 0 j))) := by
  intro pins s σ H xs us Q I r h
  obtain ⟨j, rfl, q⟩ := h
  obtain ⟨u, rfl, t, rfl⟩ := vals1 r
  refine call_range_1 ⟨.ref s.heap.objs.size, upd H s.heap.objs.size (.rng 0 j), I.laid (fun b o e => Heap.get?_push_of_some _ e) (Nat.le_refl _) ?_, rfl, q _ (I.hok.fresh (Nat.le_refl _))⟩
  exact ⟨_, _, _, Heap.get?_push_size _ rfl⟩
def upV (n : Nat) : List V := (List.range n).map fun i => V.int (i : Nat)
theorem upV_len (n : Nat) : (upV n).length = n := by simp [upV]
theorem vals_upV : ∀ (n : Nat) (us : List Value), us.length = n → (∀ (j : Nat) (v : Value), us[j]? = some v → ∃ t, v = .int (j : Nat) t) → Vals (upV n) us := by
  intro n
  induction n with
  | zero => intro us hl _; cases us with | nil => exact .nil | cons _ _ => cases hl
  | succ n ih =>
    intro us hl h
    have e1 : upV (n + 1) = upV n ++ [V.int (n : Nat)] := by simp [upV, List.range_succ]
    have hn : n < us.length := by omega
    have e2 : us = us.take n ++ [us[n]] := by
      have := List.take_append_drop n us
      rw [List.drop_eq_getElem_cons hn] at this
      rw [List.drop_eq_nil_of_le (by omega)] at this
      exact this.symm
    rw [e1, e2]
    refine Vals.append (ih _ (by simp; omega) fun j v e => ?_) (.cons ?_ .nil)
    · rw [List.getElem?_take] at e
      split at e
      · exact h j v e
      · cases e
    · obtain ⟨t, e⟩ := h n us[n] (by simp [hn])
      exact ⟨t, e⟩
theorem call_list_rng (hc : X.calm = true) : CallR X (.type "list") (fun xs H Q => ∃ (r : Addr) (n : Nat), xs = [.ref r] ∧ H r = some (.rng 0 n) ∧ n ≤ 1000000 ∧ ∀ l, H l = none → Q (.ref l) (upd H l (.lst (upV n)))) := by
  intro pins s σ H xs us Q I rx h
  obtain ⟨r, n, rfl, hr, hn, q⟩ := h
  obtain ⟨u, rfl, ru⟩ := vals1 rx
  cases ru
  have hl : sizeLine = 16777216 := sizeLine_eq
  obtain ⟨t, u, v, e⟩ := (show ObjOk X.prog X.w H s.heap r (.rng 0 n) from I.hok r _ hr)
  refine call_list_range (n := n) (I.ok.hd hc) e (small_one (by omega) (by omega) (by omega) (by omega)) (by rw [rangeSize_one]; split <;> omega) (by omega) fun h' tk acc' c' kp e' hi => ?_
  refine ⟨.ref s.heap.objs.size, _, I.laid (t' := tk) kp (Nat.le_refl _) (show ObjOk X.prog X.w _ h' _ (.lst (upV n)) from ⟨by rw [upV_len]; omega, acc'.toList, c', vals_upV n _ (by simpa using hi.1) fun j v ej => ?_, by simpa using e'⟩), rfl, q _ (I.hok.fresh (Nat.le_refl _))⟩
  obtain ⟨t, ev⟩ := hi.2 j v (by simpa using ej)
  exact ⟨t, by rw [ev]; congr 1; omega⟩
end

/-! a dict of the top: its keys texts, its values tuples of ints -/
inductive KRows (w : World) (K : PySem.W.Frag) : List DictEntry → List (Str × List Int) → Prop
  | nil : KRows w K [] []
  | cons {x : Str} {t : Tok} {ad : Addr} {ns : List Int} {es : List DictEntry} {rows : List (Str × List Int)} {h : Int} {its : Array Value} {n : Nat} {o : Obj} :
      h = hashStr w x → K.lookup ad = some o → o.cls = .type "tuple" → o.data = .seq its n → Vals (ns.map V.int) its.toList → ns.length ≤ 1000 → KRows w K es rows → KRows w K (⟨h, .str x t, .ref ad⟩ :: es) ((x, ns) :: rows)
def KTab (w : World) (K : PySem.W.Frag) (a : Addr) (rows : List (Str × List Int)) : Prop :=
  ∃ (o : Obj) (es : Array DictEntry) (ep : Nat), K.lookup a = some o ∧ o.cls = .type "dict" ∧ o.dict = none ∧ o.slots = #[] ∧ o.data = .dict es ep ∧ (a == sysModules) = false ∧ KRows w K es.toList rows ∧ (rows.map (·.1)).Nodup
theorem KTab.mk' {w : World} {K : PySem.W.Frag} {a : Addr} {rows : List (Str × List Int)} {o : Obj} {es : Array DictEntry} {ep : Nat} (lk : K.lookup a = some o) (c1 : o.cls = .type "dict") (c2 : o.dict = none) (c3 : o.slots = #[]) (c4 : o.data = .dict es ep) (sm : (a == sysModules) = false)
    (rw' : KRows w K es.toList rows) (nd : (rows.map (·.1)).Nodup) : KTab w K a rows := ⟨o, es, ep, lk, c1, c2, c3, c4, sm, rw', nd⟩
def rowOf (rows : List (Str × List Int)) (z : Str) : Option (List Int) := (rows.find? fun r => decide (r.1 = z)).map (·.2)
section
variable {P : Program} {w : World} {K : PySem.W.Frag}
theorem KRows.kvs : ∀ {es : List DictEntry} {rows : List (Str × List Int)}, KRows w K es rows → ∃ kvs : List (Key × Value), Pairs (mixKind P w) es kvs ∧ kvs.map (·.1) = rows.map (fun r => (Sum.inr r.1 : Key)) ∧
    (∀ e ∈ es, ∃ k, (mixKind P w).is k e.key = true ∧ e.hash = (mixKind P w).hash k) ∧
    ∀ z, (rowOf rows z = none → valueAt kvs (Sum.inr z) = none) ∧ ∀ ns, rowOf rows z = some ns → ∃ ad, valueAt kvs (Sum.inr z) = some (.ref ad) ∧ ∀ H, SqT K H ad (ns.map V.int)
  | _, _, .nil => ⟨[], .nil, rfl, fun e he => (by cases he), fun z => ⟨fun _ => rfl, fun ns e => by cases e⟩⟩
  | _, _, @KRows.cons _ _ x t ad ns es rows h its n o hh hl hc hdt hv hz hr => by
    obtain ⟨kvs, p, hk, ho, hf⟩ := KRows.kvs hr
    refine ⟨(Sum.inr x, .ref ad) :: kvs, .cons (mixKind_str P w x t) rfl p, by rw [List.map_cons, List.map_cons, hk], fun e he => ?_, fun z => ?_⟩
    · rcases List.mem_cons.mp he with e1 | he
      · subst e1
        exact ⟨Sum.inr x, mixKind_str P w x t, hh⟩
      · exact ho e he
    · by_cases hx : x = z
      · subst hx
        have e1 : rowOf ((x, ns) :: rows) x = some ns := by simp [rowOf]
        have e2 : valueAt ((Sum.inr x, Value.ref ad) :: kvs) (Sum.inr x : Key) = some (.ref ad) := by simp [valueAt]
        rw [e1, e2]
        refine ⟨fun e => by (cases e), fun ms e => ⟨ad, rfl, fun H => .inr ⟨_, its, n, hl, hc, hdt, ?_, ?_⟩⟩⟩
        · have := hv.length
          have hs : sizeLine = 16777216 := sizeLine_eq
          simp at this
          omega
        · cases e; exact hv
      · have e1 : rowOf ((x, ns) :: rows) z = rowOf rows z := by simp [rowOf, hx]
        have hx' : ¬ (Sum.inr x : Key) = Sum.inr z := fun q => hx (Sum.inr.inj q)
        have e2 : valueAt ((Sum.inr x, Value.ref ad) :: kvs) (Sum.inr z : Key) = valueAt kvs (Sum.inr z) := by simp [valueAt, hx']
        rw [e1, e2]
        exact hf z
theorem KTab.map {a : Addr} {rows : List (Str × List Int)} {h : Heap} (T : KTab w K a rows) (hk : K.In h) : ∃ f : Key → Option Value, h.MapOf (mixKind P w) a f ∧ (a == sysModules) = false ∧
    ∀ z, (rowOf rows z = none → f (Sum.inr z) = none) ∧ ∀ ns, rowOf rows z = some ns → ∃ ad, f (Sum.inr z) = some (.ref ad) ∧ ∀ H, SqT K H ad (ns.map V.int) := by
  obtain ⟨o, es, ep, hl, c1, c2, c3, c4, hs, hr, nd⟩ := T
  obtain ⟨kvs, p, hkk, ho, hf⟩ := hr.kvs (P := P)
  have D : h.DictOf (mixKind P w) a kvs := ⟨o, es, ep, hk a _ hl, ⟨c1, c2, c3⟩, c4, fun e he => ho e (by simpa using he), p, ?_⟩
  · exact ⟨_, D.mapOf, hs, hf⟩
  · rw [hkk]
    have : rows.map (fun r => (Sum.inr r.1 : Key)) = (rows.map (·.1)).map Sum.inr := by rw [List.map_map]; rfl
    rw [this]
    exact List.Pairwise.map _ (fun a b hab e => hab (Sum.inr.inj e)) nd
end
section
variable {X : Cx} {i o : Expr} {ty td : TE} {pos : Pos}
def tInK (w : World) (K : PySem.W.Frag) (ty td : TE) : TE := fun σ H Q => ty σ H fun y H1 => td σ H1 fun x H2 => ∃ a rows z, x = .ref a ∧ KTab w K a rows ∧ y = .str z ∧ Q (.bl (rowOf rows z).isSome) H2
theorem pc_inK (hi : PE X i ty) (ho : PE X o td) : PC X .In i o (tInK X.w X.K ty td) := by
  intro pins s σ H Q I h
  refine thn (hi pins s σ H _ I h) fun iv s1 ⟨y, H1, I1, ry, q1⟩ => thn (ho pins s1 σ H1 _ I1 q1) fun u s2 ⟨x, H2, I2, rx, a, rows, z, ex, T, ey, q2⟩ => ?_
  subst ex
  subst ey
  obtain rfl : u = Value.ref a := rx
  obtain ⟨t, rfl⟩ := ry
  obtain ⟨f, M, hs, hf⟩ := T.map (P := X.prog) I2.kIn
  refine wpAny_in_of (k := (Sum.inr z : Key)) (mixKind_str X.prog X.w z t) hs M ?_
  refine ⟨.bl (rowOf rows z).isSome, H2, I2.tok _, ?_, q2⟩
  cases e : rowOf rows z with
  | none => rw [(hf z).1 e]; rfl
  | some ns => obtain ⟨ad, e1, _⟩ := (hf z).2 ns e; rw [e1]; rfl
def rIxK (w : World) (K : PySem.W.Frag) : R2 := fun x y H Q => ∃ a rows z ns, x = .ref a ∧ KTab w K a rows ∧ y = .str z ∧ rowOf rows z = some ns ∧ ∀ ad, SqT K H ad (ns.map V.int) → Q (.ref ad) H
theorem ix_K : IxR X (rIxK X.w X.K) := by
  intro value slice pins s σ H x y v u Q I rx ry h hs
  obtain ⟨a, rows, z, ns, rfl, T, rfl, e, q⟩ := h
  cases rx
  obtain ⟨t, rfl⟩ := ry
  obtain ⟨f, M, hsm, hf⟩ := T.map (P := X.prog) I.kIn
  obtain ⟨ad, e1, e2⟩ := (hf z).2 ns e
  exact tail_any M.typeIs PySem.F.slot_dict_getitem.lookup (wpAny_getItem_of (k := (Sum.inr z : Key)) (mixKind_str X.prog X.w z t) M e1 ⟨.ref ad, H, I.tok _, rfl, q ad (e2 H)⟩) hs
theorem pe_getK (ho : PE X o td) (hi : PE X i ty) (hs : PlainIx i) : PE X (.Subscript o i pos) (tOp (rIxK X.w X.K) td ty) := pe_ix ix_K ho hi hs
end

/-! lists or tuples -/
def SqA (K : PySem.W.Frag) (H : Hp) (a : Addr) (xs : List V) : Prop := SqL K H a xs ∨ SqT K H a xs
theorem Same.seqT {K : PySem.W.Frag} {H H' : Hp} {a : Addr} {xs : List V} (e : Same H H') (h : SqT K H a xs) : SqT K H' a xs := by
  rcases h with (h | ⟨o, h⟩) | h
  · exact .inl (.inl (e _ _ h))
  · exact .inl (.inr ⟨o, e _ _ h⟩)
  · exact .inr h
theorem Same.seqA {K : PySem.W.Frag} {H H' : Hp} {a : Addr} {xs : List V} (e : Same H H') (h : SqA K H a xs) : SqA K H' a xs := h.elim (fun h => .inl (e.seq h)) fun h => .inr (e.seqT h)
/-- all but p is as it was -/
def But (p : Addr) (H H' : Hp) : Prop := ∀ b o, b ≠ p → H b = some o → H' b = some o
theorem But.refl {p : Addr} (H : Hp) : But p H H := fun _ _ _ e => e
theorem But.trans {p : Addr} {H H1 H2 : Hp} (a : But p H H1) (b : But p H1 H2) : But p H H2 := fun c o n e => b c o n (a c o n e)
theorem But.of_same {p : Addr} {H H1 : Hp} (a : Same H H1) : But p H H1 := fun c o _ e => a c o e
theorem But.write {p : Addr} {H : Hp} {o : HO} : But p H (upd H p o) := fun b u n e => by rw [upd_ne n]; exact e
theorem But.same {p : Addr} {H H1 : Hp} (a : But p H H1) (n : H p = none) : Same H H1 := fun b o e => a b o (ne_of_none e n) e
theorem But.seqT {K : PySem.W.Frag} {H H' : Hp} {p a C dx : Addr} {fs : List (Str × V)} {xs : List V} (e : But p H H') (hp : H p = some (.ins C dx fs)) (h : SqT K H a xs) : SqT K H' a xs := by
  rcases h with (h | ⟨o, h⟩) | h
  · exact .inl (.inl (e _ _ (ne_of h hp (by intro z; cases z)) h))
  · exact .inl (.inr ⟨o, e _ _ (ne_of h hp (by intro z; cases z)) h⟩)
  · exact .inr h
theorem But.seqL {K : PySem.W.Frag} {H H' : Hp} {p a C dx : Addr} {fs : List (Str × V)} {xs : List V} (e : But p H H') (hp : H p = some (.ins C dx fs)) (h : SqL K H a xs) : SqL K H' a xs := by
  rcases h with (h | ⟨o, h⟩) | h
  · exact .inl (.inl (e _ _ (ne_of h hp (by intro z; cases z)) h))
  · exact .inl (.inr ⟨o, e _ _ (ne_of h hp (by intro z; cases z)) h⟩)
  · exact .inr h
theorem But.seqA {K : PySem.W.Frag} {H H' : Hp} {p a C dx : Addr} {fs : List (Str × V)} {xs : List V} (e : But p H H') (hp : H p = some (.ins C dx fs)) (h : SqA K H a xs) : SqA K H' a xs := h.elim (fun h => .inl (e.seqL hp h)) fun h => .inr (e.seqT hp h)
/-- tuple(x), x a list or a tuple -/
theorem tup_read {K : PySem.W.Frag} {H : Hp} {a : Addr} {xs : List V} {Q : VK} (h : SqA K H a xs) (k : ∀ H' u, Same H H' → SqT K H' u xs → Q (.ref u) H') :
    ∃ p ys, [V.ref a] = [.ref p] ∧ ((SqL K H p ys ∧ ∀ l, H l = none → Q (.ref l) (upd H l (.tup ys))) ∨ (SqT K H p ys ∧ Q (.ref p) H)) := by
  rcases h with h | h
  · exact ⟨a, xs, rfl, .inl ⟨h, fun l hl => k _ _ (same_new hl) (SqT.of upd_same)⟩⟩
  · exact ⟨a, xs, rfl, .inr ⟨h, k _ _ (Same.refl _) h⟩⟩
theorem call_tupA {X : Cx} : CallR X (.type "tuple") (fun xs H Q => ∃ a ys, xs = [.ref a] ∧ SqA X.K H a ys ∧ ∀ H' u, Same H H' → SqT X.K H' u ys → Q (.ref u) H') := by
  intro pins s σ H xs us Q I r h
  obtain ⟨a, ys, rfl, hq, q⟩ := h
  exact call_tuple_of pins s σ H _ us Q I r (tup_read hq q)
/-! a written argument that is not starred -/
section
variable {es : List Expr} {env : Env}
theorem star_Tuple {a b c} : starEach (.Tuple a b c :: es) env = (false, eval (.Tuple a b c) env) :: starEach es env := rfl
theorem star_List {a b} : starEach (.List a b :: es) env = (false, eval (.List a b) env) :: starEach es env := rfl
theorem star_Constant {a b c} : starEach (.Constant a b c :: es) env = (false, eval (.Constant a b c) env) :: starEach es env := rfl
theorem star_Name {a b} : starEach (.Name a b :: es) env = (false, eval (.Name a b) env) :: starEach es env := rfl
theorem star_Call {a b c d} : starEach (.Call a b c d :: es) env = (false, eval (.Call a b c d) env) :: starEach es env := rfl
theorem star_BinOp {a b c d} : starEach (.BinOp a b c d :: es) env = (false, eval (.BinOp a b c d) env) :: starEach es env := rfl
theorem star_Attribute {a b c} : starEach (.Attribute a b c :: es) env = (false, eval (.Attribute a b c) env) :: starEach es env := rfl
theorem star_Subscript {a b c} : starEach (.Subscript a b c :: es) env = (false, eval (.Subscript a b c) env) :: starEach es env := rfl
theorem star_ListComp {a b c d} : starEach (.ListComp a b c d :: es) env = (false, eval (.ListComp a b c d) env) :: starEach es env := rfl
theorem star_Compare {a b c d} : starEach (.Compare a b c d :: es) env = (false, eval (.Compare a b c d) env) :: starEach es env := rfl
theorem star_BoolOp {a b c} : starEach (.BoolOp a b c :: es) env = (false, eval (.BoolOp a b c) env) :: starEach es env := rfl
theorem star_UnaryOp {a b c} : starEach (.UnaryOp a b c :: es) env = (false, eval (.UnaryOp a b c) env) :: starEach es env := rfl
theorem star_IfExp {a b c d} : starEach (.IfExp a b c d :: es) env = (false, eval (.IfExp a b c d) env) :: starEach es env := rfl
end
/-! rules within a comprehension's block, read over the block's outside -/
section
variable {X : Cx} {scope : Scope} {x : Str} {js : List Nat} {cl : List (Str × Addr)} {C : Addr} {s : Shared} {H : Hp} {ex : List Addr}
theorem ix_listC : IxR (cxComp X scope x js cl C s H ex) (rIxL X.K) := ix_list
theorem ix_tupC : IxR (cxComp X scope x js cl C s H ex) (rIxT X.K) := ix_tup
end
/-! lists of tuples of written constants -/
def constE : Expr → Option V
  | .Constant (.int i) _ _ => some (.int i)
  | .Constant (.str x) _ _ => some (.str x)
  | .Constant (.bool b) _ _ => some (.bl b)
  | .Constant .none _ _ => some .non
  | _ => none
def ctupE : Expr → Option (List V)
  | .Tuple es _ _ => if (es.map constE).all (·.isSome) = true then some (es.filterMap constE) else none
  | _ => none
def tVs (vs : List V) : TA := fun _ H Q => Q vs H
/-- new tuples, each with its items -/
def Tups (H : Hp) : List Addr → List (List V) → Prop := Paired fun r vs => H r = some (.tup vs)
theorem Tups.same {H H' : Hp} (s : Same H H') : ∀ {rs : List Addr} {vss : List (List V)}, Tups H rs vss → Tups H' rs vss
  | _, _, .nil => .nil
  | _, _, .cons h t => .cons (s _ _ h) (Tups.same s t)
theorem Tups.append {H : Hp} : ∀ {rs rs' : List Addr} {vss vss' : List (List V)}, Tups H rs vss → Tups H rs' vss' → Tups H (rs ++ rs') (vss ++ vss')
  | _, _, _, _, .nil, q => q
  | _, _, _, _, .cons h t, q => .cons h (Tups.append t q)
theorem Tups.get {H : Hp} : ∀ {rs : List Addr} {vss : List (List V)} {i : Nat} {vs : List V}, Tups H rs vss → vss[i]? = some vs → ∃ r, rs[i]? = some r ∧ H r = some (.tup vs)
  | _, _, _, _, .nil, e => by simp at e
  | _, _, 0, _, .cons h _, e => by simp at e; subst e; exact ⟨_, rfl, h⟩
  | _, _, i + 1, vs, .cons _ t, e => by
    obtain ⟨r, h1, h2⟩ := Tups.get (i := i) (vs := vs) t (by simpa using e)
    exact ⟨r, by simpa using h1, h2⟩
def tCTups (vss : List (List V)) : TA := fun _ H Q => ∀ H' rs, Same H H' → Tups H' rs vss → Q (rs.map V.ref) H'
section
variable {X : Cx}
theorem pa_consts : ∀ {es : List Expr} {vs : List V}, es.map constE = vs.map some → PA X es (tVs vs)
  | [], [], _ => pa_nil
  | [], _ :: _, h => by simp at h
  | _ :: _, [], h => by simp at h
  | e :: es, v :: vs, h => by
    simp only [List.map_cons, List.cons.injEq] at h
    have ih := pa_consts (es := es) (vs := vs) h.2
    have h1 := h.1
    unfold constE at h1
    split at h1
    · cases h1; exact pa_cons pe_int ih star_Constant
    · cases h1; exact pa_cons pe_str ih star_Constant
    · cases h1; exact pa_cons pe_bl ih star_Constant
    · cases h1; exact pa_cons pe_non ih star_Constant
    · cases h1
theorem consts_of : ∀ {es : List Expr}, (es.map constE).all (·.isSome) = true → es.map constE = (es.filterMap constE).map some
  | [], _ => rfl
  | e :: es, h => by
    simp only [List.map_cons, List.all_cons, Bool.and_eq_true] at h
    have ih := consts_of (es := es) h.2
    cases q : constE e with
    | none => rw [q] at h; simp at h
    | some v => simp only [List.map_cons, q, List.filterMap_cons, ih]
theorem pa_ctups : ∀ {es : List Expr} {vss : List (List V)}, es.map ctupE = vss.map some → (vss.all fun vs => decide (vs.length ≤ 1000)) = true → PA X es (tCTups vss)
  | [], [], _, _ => fun pos pins s σ H Q I h => pa_nil pos pins s σ H Q I (h H [] (Same.refl _) .nil)
  | [], _ :: _, h, _ => by simp at h
  | _ :: _, [], h, _ => by simp at h
  | e :: es, vs :: vss, h, hz => by
    simp only [List.map_cons, List.cons.injEq] at h
    simp only [List.all_cons, Bool.and_eq_true, decide_eq_true_eq] at hz
    have ih := pa_ctups (es := es) (vss := vss) h.2 hz.2
    have h1 := h.1
    unfold ctupE at h1
    split at h1
    · rename_i cs k p
      split at h1
      · rename_i hc
        have e1 : cs.filterMap constE = vs := Option.some.inj h1
        have hT : PE X (.Tuple cs k p) (tTup (tVs vs)) := pe_tup (pa_consts (by rw [consts_of hc, e1]))
        have A := pa_cons hT ih star_Tuple
        intro pos pins s σ H Q I q
        have hl : sizeLine = 16777216 := sizeLine_eq
        refine A pos pins s σ H Q I ?_
        refine ⟨by show vs.length ≤ sizeLine; omega, fun p hp H' rs s' t' => ?_⟩
        exact q H' (p :: rs) ((same_new hp).trans s') (.cons (s' _ _ upd_same) t')
      · cases h1
    · cases h1
end
end L2

/-! ### own rules: enumerate(a list) -/
namespace L2
open PySem PySem.Spec PyProof.Rows
/-- the list at a with its places: a new tuple at each turn -/
def Iten (K : PySem.W.Frag) (a : Addr) : It :=
  ⟨fun i H => ∃ xs x, SqL K H a xs ∧ xs[i]? = some x, fun i H v H' => ∃ u y, H u = none ∧ v = .ref u ∧ H' = upd H u (.tup [.int (i : Nat), y]) ∧ ∀ xs, SqL K H a xs → xs[i]? = some y, fun i H => ∃ xs, SqL K H a xs ∧ xs.length ≤ i⟩
theorem turn_enum {P : Program} {w : World} {K : PySem.W.Frag} {elts : List Expr} {x1 : _} {tpos : Pos} (a e it : Addr) (hne : e ≠ it) :
    Turn P w K (.Tuple elts x1 tpos) (Iten K a) [e, it] e (fun i h => (∃ old, IsEnum h e it ((i : Nat) : Int) old) ∧ h.IsListIter it a i) where
  mem := by simp
  obj := fun i h st b hb => by
    obtain ⟨⟨old, he⟩, hit⟩ := st
    have hb' : b = e ∨ b = it := by simpa using hb
    rcases hb' with z | z
    · subst z
      exact ⟨_, he, fun v z => by cases z⟩
    · subst z
      obtain ⟨o, e1, c, d⟩ := hit
      exact ⟨o, e1, fun v z => by rw [d] at z; cases z⟩
  keep := fun i h h' st k => by
    obtain ⟨⟨old, he⟩, hit⟩ := st
    exact ⟨⟨old, k e (by simp) _ he⟩, hit.at fun o e1 => k it (by simp) o e1⟩
  item := by
    intro X hP hw hK hc i pins s σ H E I hf st hg
    subst hP hw hK
    obtain ⟨⟨old, he⟩, hit⟩ := st
    obtain ⟨xs, x, hq, hx⟩ := hg
    obtain ⟨its, rv, p, hz⟩ := I.list hq
    obtain ⟨u, hu, ru⟩ := rv.get hx
    obtain ⟨f0, f1, f2, f3, f4, f5⟩ := hf it (by simp)
    obtain ⟨g0, g1, g2, g3, g4, g5⟩ := hf e (by simp)
    refine wpAny_pyNext_enum_item he hit p.isList (x := u) (by simpa using hu) hne fun h1 heo hit1 ht1 hz1 hk1 => ?_
    refine ⟨_, rfl, wpAny_letOwnedTupleGo_enum heo fun h2 he2 hs2 => ?_⟩
    have hs2' : Heap.SameBut e h1 h2 := hs2
    have heS : e < s.heap.objs.size := Heap.lt_size he
    have hnE : s.heap.objs.size ≠ e := Nat.ne_of_gt heS
    have kp : ∀ b o, b ≠ e → b ≠ it → s.heap.get? b = some o → h2.get? b = some o := fun b o n1 n2 q => (hs2'.2 b n1).trans (hk1 b o n1 n2 q)
    have nn : ∀ b o, s.heap.get? b = some o → b ≠ s.heap.objs.size := fun b o q => Nat.ne_of_lt (Heap.lt_size q)
    have hfr : H s.heap.objs.size = none := I.hok.fresh (Nat.le_refl _)
    have tupN : h2.get? s.heap.objs.size = some { cls := .type "tuple", data := .seq #[.int i s.toks, u] } := (hs2'.2 _ hnE).trans ht1
    have tr : ∀ b o, H b = some o → b ≠ e ∧ b ≠ it := fun b o q => ⟨fun z => (by rw [z, g0] at q; cases q), fun z => (by rw [z, f0] at q; cases q)⟩
    have ok2 : HOk X.prog X.w (upd H s.heap.objs.size (.tup [.int (i : Nat), x])) h2 := fun b o q => by
      by_cases hb : b = s.heap.objs.size
      · rw [hb, upd_same] at q
        cases q
        rw [hb]
        exact ⟨by show 2 ≤ sizeLine; decide, [.int i s.toks, u], .cons ⟨_, rfl⟩ (.cons ru .nil), ⟨_, tupN, rfl, _, rfl⟩⟩
      · rw [upd_ne hb] at q
        refine (I.hok b o q).stay (fun c v hc q' => ?_) (fun c q' => by rw [upd_ne (ne_of_none q' hfr)]; exact q') fun c ys q' => by rw [upd_ne (ne_of_none q' hfr)]; exact q'
        rcases hc with z | z
        · rw [z] at q' ⊢
          exact kp _ _ (tr _ _ q).1 (tr _ _ q).2 q'
        · exact kp _ _ (tr _ _ z).1 (tr _ _ z).2 q'
    refine ⟨.ref s.heap.objs.size, upd H s.heap.objs.size (.tup [.int (i : Nat), x]), ?_, rfl, ⟨_, x, hfr, rfl, rfl, fun ys hy => by rw [I.list_inj hy hq]; exact hx⟩, ⟨⟨_, by simpa using he2⟩, hit1.at fun o e1 => (hs2'.2 _ (Ne.symm hne)).trans e1⟩, fun b hb => ?_⟩
    · show Inv X pins σ (upd H s.heap.objs.size (.tup [.int (i : Nat), x])) { s with heap := h2, gens := s.gens, drawn := s.drawn, toks := s.toks + 1 }
      refine I.step (g' := s.gens) (d' := s.drawn) (t' := s.toks + 1) (ch := [e, it]) (fun b hb => ?_) (fun b o _ _ hc q _ => kp b o (fun z => hc (by simp [z])) (fun z => hc (by simp [z])) q)
        (fun b o _ _ hc q _ => ⟨o.slots, kp b o (fun z => hc (by simp [z])) (fun z => hc (by simp [z])) q⟩) (fun b o _ q n => by rw [upd_ne (nn b o q)]; exact n)
        (fun b o hc q => ⟨o, kp b o (fun z => hc (by simp [z])) (fun z => hc (by simp [z])) q⟩) (fun b ys q => by rw [upd_ne (ne_of_none q hfr)]; exact q) (fun b o ys q => by rw [upd_ne (ne_of_none q hfr)]; exact q)
        (fun b ps q => ⟨#[], by rw [upd_ne (ne_of_none q hfr), q]; simp⟩) (fun m hm => ?_) ok2 I.bare
      · have hb' : b = e ∨ b = it := by simpa using hb
        rcases hb' with z | z
        · subst z; exact ⟨g3, g1, g4, g5⟩
        · subst z; exact ⟨f3, f1, f4, f5⟩
      · obtain ⟨o, es, ep, ho, r⟩ := hm
        exact ⟨o, es, ep, kp _ o (Ne.symm g1) (Ne.symm f1) ho, r⟩
    · have hb' : b = e ∨ b = it := by simpa using hb
      rcases hb' with z | z
      · subst z; rw [upd_ne (Ne.symm hnE)]; exact g0
      · subst z
        obtain ⟨o, e1, _⟩ := hit
        rw [upd_ne (nn _ o e1)]; exact f0
  done := by
    intro X hP hw hK hc i pins s σ H E I hf st hg
    subst hP hw hK
    obtain ⟨⟨old, he⟩, hit⟩ := st
    obtain ⟨xs, hq, hx⟩ := hg
    obtain ⟨its, rv, p, hz⟩ := I.list hq
    obtain ⟨f0, f1, f2, f3, f4, f5⟩ := hf it (by simp)
    have hl := rv.length
    exact wpAny_pyNext_enum_end (I.ok.hd hc) he hit p.isList (by simp; omega) fun h' eb => ⟨rfl, I.turned (t' := s.toks) (fun b o hb e => eb b o hb e) f0 f1 f3 f4 f5⟩
  self := fun _ _ _ _ _ st h => by
    obtain ⟨⟨old, he⟩, _⟩ := st
    exact wpAny_pyIter_enum he h
section
variable {X : Cx}
theorem bt_enumerate : bootBuiltins "enumerate" = some (.type "enumerate") := by decide +kernel
def iEnum (K : PySem.W.Frag) (ta : TA) : TI := fun σ H R => ta σ H fun vs H1 => ∃ a, vs = [.ref a] ∧ (∃ xs, SqL K H1 a xs) ∧ R (Iten K a) H1
theorem pi_enum {l : Expr} {ta : TA} {p pos tpos : Pos} {elts : List Expr} {x1 : _} (hg : Gl X "enumerate") (hm : X.mg "enumerate" = none) (ha : PA X [l] ta) (hs : starEach [l] X.env = [(false, eval l X.env)] := by rfl) :
    PI X (.Tuple elts x1 tpos) (.Call (.Name "enumerate" p) [l] [] pos) (iEnum X.K ta) := by
  intro pins s σ H R I h
  refine Call_ (ld_blt I hg hm bt_enumerate (PyProof.Rows.callWith_type1 (thn (ha pos pins s σ H _ I h) fun us s1 ⟨vs, H1, I1, r1, q1⟩ => ?_) hs rfl))
  obtain ⟨a, e, ⟨xs, hq⟩, q⟩ := q1
  subst e
  obtain ⟨u, rfl, ru⟩ := vals1 r1
  cases ru
  obtain ⟨its, rv, pl, hz⟩ := I1.list hq
  refine call_enumerate_list pl.isList fun h' he hit hz' kp => wpAny_pyIter_enum he ?_
  have I2 : Inv X pins σ H1 { s1 with heap := h' } := I1.kept (t' := s1.toks) kp
  refine ⟨s1.heap.objs.size + 1, [s1.heap.objs.size + 1, s1.heap.objs.size], _, _, H1, rfl, I2, turn_enum a _ _ (Nat.ne_of_gt (Nat.lt_succ_self _)), ⟨⟨_, he⟩, hit⟩, fun b hb => ?_, q⟩
  have hb' : b = s1.heap.objs.size + 1 ∨ b = s1.heap.objs.size := by simpa using hb
  rcases hb' with z | z <;> subst z
  · exact I1.fpOk (Nat.le_succ _) (I1.hok.fresh (Nat.le_succ _))
  · exact I1.fpOk (Nat.le_refl _) (I1.hok.fresh (Nat.le_refl _))
theorem for_enum {K : PySem.W.Frag} {a : Addr} {xs : List V} {g : TG} {tb : TS} {D : Ends} {σ : St} {H : Hp} (Pv : Nat → St → Hp → Prop) (h0 : Pv 0 σ H) (hl : ∀ i σ H, i ≤ xs.length → Pv i σ H → SqL K H a xs)
    (hs : ∀ i x σ H, xs[i]? = some x → Pv i σ H → ∀ u, H u = none → g (.ref u) σ (upd H u (.tup [.int (i : Nat), x])) fun σ' H' => tb { D with nx := Pv (i + 1), ct := Pv (i + 1), bk := D.nx } σ' H') (hd : ∀ σ H, Pv xs.length σ H → D.nx σ H) :
    ∃ W : Nat → Nat → St → Hp → Prop, (∃ m, W 0 m σ H) ∧ ∀ i m σ H, W i m σ H →
      ((Iten K a).stop i H ∧ D.nx σ H) ∨ ((Iten K a).go i H ∧ ∃ N : St → Hp → Prop, (∀ σ' H', N σ' H' → ∃ m', m' < m ∧ W (i + 1) m' σ' H') ∧ ∀ x H', (Iten K a).yld i H x H' → g x σ H' fun σ' H2 => tb { D with nx := N, ct := N, bk := D.nx } σ' H2) := by
  refine ⟨fun i m σ H => m = xs.length - i ∧ i ≤ xs.length ∧ Pv i σ H, ⟨xs.length, by simp, Nat.zero_le _, h0⟩, ?_⟩
  rintro i m σ H ⟨rfl, hi, p⟩
  have q := hl i σ H hi p
  by_cases hlt : i < xs.length
  · refine .inr ⟨⟨xs, xs[i], q, by simp [hlt]⟩, Pv (i + 1), fun σ' H' p' => ⟨xs.length - (i + 1), by omega, rfl, hlt, p'⟩, fun x H' y => ?_⟩
    obtain ⟨u, z, hu, ex, eH, hy⟩ := y
    subst ex eH
    exact hs i z σ H (hy xs q) p u hu
  · have e : i = xs.length := by omega
    subst e
    exact .inl ⟨⟨xs, q, Nat.le_refl _⟩, hd σ H p⟩
end
end L2

/-! ### own rules: exceptions, the first half: how one lies behind a call, passes a frame, is raised -/
namespace L2
open PySem PySem.Spec PyProof.Rows
/-- an exception behind a call: B holds, beside the base, all that is no frame and no record of the flight -/
def CX1 (P : Program) (w : World) : CXT := fun outer H s E e s' => ∃ (x : Addr) (cls a0 : Value) (H' : Hp) (B : Heap), e = .ref x ∧ s'.os = s.os ∧ AllBare s'.gens ∧ Heap.FlyingW B outer x cls a0 s'.heap ∧ HOk P w H' B ∧
  Un (frs outer) [] H H' s.heap s'.heap ∧ (∀ b o, s.heap.get? b = some o → b ∉ frs outer → ∃ o', B.get? b = some o') ∧ E cls none H'
/-- the heap goes on as an exception leaves a frame -/
theorem un_fly {fs : List Addr} {H H1 H2 : Hp} {h h1 h2 h3 B : Heap} {L : Addr} (u1 : Un fs [] H H1 h h1) (u2 : Un (L :: fs) [] H1 H2 h1 h2) (hL : ∀ b o, h.get? b = some o → b ≠ L)
    (inB : ∀ b o, h1.get? b = some o → b ∉ L :: fs → ∃ o', B.get? b = some o') (st2 : B.StaysIn h2) (st3 : B.StaysIn h3) (up : h2.UpToSlots h3)
    (fd : ∀ b o, h2.get? b = some o → b ∈ fs → ∀ vs, o.data ≠ .fields vs) : Un fs [] H H2 h h3 := by
  have out : ∀ b o, h.get? b = some o → b ∉ fs → b ∉ L :: fs := fun b o q hb z => (List.mem_cons.mp z).elim (hL b o q) hb
  have go : ∀ b o, h2.get? b = some o → (∃ o', B.get? b = some o') → h3.get? b = some o := fun b o q ⟨o', q'⟩ => by
    have := st2 b o' q'
    rw [q] at this
    cases this
    exact st3 b _ q'
  refine ⟨fun b o q n hb hx => ?_, fun b o q n hb hx => ?_, fun b o q n hx => ?_, fun b o q hx => ?_, fun b xs q => u2.tups b xs (u1.tups b xs q), fun b o xs q => u2.frzs b o xs (u1.frzs b o xs q), fun b ps q => ?_⟩
  · have k1 := u1.keep b o q n hb hx
    exact go b o (u2.keep b o k1 (u1.free b o q n hx) (out b o q hb) hx) (inB b o k1 (out b o q hb))
  · obtain ⟨sl, k1⟩ := u1.slot b o q n hb hx
    obtain ⟨sl2, k2⟩ := u2.slot b _ k1 (u1.free b o q n hx) (List.mem_cons_of_mem _ hb) hx
    obtain ⟨sl3, k3⟩ := up b _ k2 (fd b _ k2 hb)
    exact ⟨sl3, k3⟩
  · obtain ⟨o', k1⟩ := u1.there b o q hx
    exact u2.free b o' k1 (u1.free b o q n hx) hx
  · obtain ⟨o1, k1⟩ := u1.there b o q hx
    obtain ⟨o2, k2⟩ := u2.there b o1 k1 hx
    by_cases hb : b ∈ fs
    · obtain ⟨sl3, k3⟩ := up b _ k2 (fd b _ k2 hb)
      exact ⟨_, k3⟩
    · exact ⟨o2, go b o2 k2 (inB b o1 k1 (out b o q hb))⟩
  · obtain ⟨m1, e1⟩ := u1.tbls b ps q
    obtain ⟨m2, e2⟩ := u2.tbls b _ e1
    exact ⟨m1 ++ m2, by rw [e2, Array.append_assoc]⟩
section
variable {P : Program} {w : World} {K : PySem.W.Frag} {mg : Str → Option Value} {base : Heap} {N : List Str} {qual : Str} {scope : Scope} {f : Addr} {cd : Value} {A : Around} {outer : List Env} {s : Shared} {H : Hp} {E : XK}
/-- a callee's exception passes a def that has no try around it -/
theorem pass1 {E' : XK} (hE : ∀ c d H', E' c d H' → E c d H') : Passes (CX1 P w) (cxOf (CX1 P w) P w K mg base N qual scope f cd A outer s H E) E' := by
  intro pins σ H1 s1 e s' I c
  obtain ⟨x, cls, a0, H', B, rfl, hos, hg, fl, hok, un, inB, hE'⟩ := c
  refine wpAny_leaves_onW I.ok.frames rfl fl fun h' fl' up => ?_
  have nL : ∀ b o, s.heap.get? b = some o → b ≠ s.heap.objs.size := fun b o q => Nat.ne_of_lt (Heap.lt_size q)
  have fd : ∀ b o, s'.heap.get? b = some o → b ∈ frs outer → ∀ vs, o.data ≠ .fields vs := fun b o q hb => by
    obtain ⟨_, _, ff, _⟩ := fl
    have hb' : b ∈ frs (envOfC qual scope s.heap.objs.size f cd :: outer) := List.mem_cons_of_mem _ hb
    obtain ⟨_, o', q', d⟩ := ff.mem hb'
    rw [q] at q'
    cases q'
    exact d
  refine ⟨x, cls, a0, H', B, rfl, hos.trans I.os, hg, fl', hok, un_fly (L := s.heap.objs.size) I.base un nL inB fl.1 fl'.1 up fd, fun b o q hb => ?_, hE _ _ _ hE'⟩
  obtain ⟨o1, k1⟩ := I.base.there b o q (by simp [cxOf])
  exact inB b o1 k1 fun z => (List.mem_cons.mp z).elim (nL b o q) hb
/-- a new exception leaves the def that raises it -/
theorem raise1 {pins : List (Addr × Obj)} {σ : St} {H1 : Hp} {s1 : Shared} {h' : Heap} {e : Addr} {cls : Value} {args : List Value} (I : Inv (cxOf (CX1 P w) P w K mg base N qual scope f cd A outer s H E) pins σ H1 s1)
    (hx : Heap.MadeExcOf s1.heap h' e cls args) (hE : E cls none H1) : (cxOf (CX1 P w) P w K mg base N qual scope f cd A outer s H E).xe (.ref e) { s1 with heap := h' } := by
  have nL : ∀ b o, s.heap.get? b = some o → b ≠ s.heap.objs.size := fun b o q => Nat.ne_of_lt (Heap.lt_size q)
  have fin : frs (envOfC qual scope s.heap.objs.size f cd :: outer) = s.heap.objs.size :: frs outer := rfl
  have hmem : ∀ env ∈ (envOfC qual scope s.heap.objs.size f cd :: outer), ∀ b, env.frame = some b → b ∈ frs (envOfC qual scope s.heap.objs.size f cd :: outer) := fun env he b hb => List.mem_filterMap.mpr ⟨env, he, hb⟩
  have stk := I.stack
  have inB : ∀ b o, s1.heap.get? b = some o → b ∉ s.heap.objs.size :: frs outer → ∃ o', (PySem.W.hideAll s1.heap (frs (envOfC qual scope s.heap.objs.size f cd :: outer))).get? b = some o' := fun b o q hb => ⟨o, PySem.W.hideAll_get _ q hb⟩
  have hok : HOk P w H1 (PySem.W.hideAll s1.heap (frs (envOfC qual scope s.heap.objs.size f cd :: outer))) := fun b o q => by
    refine (I.hok b o q).stay (fun c v hc q' => PySem.W.hideAll_get _ q' fun hm => ?_) (fun _ q' => q') fun _ _ q' => q'
    have hn := I.stkFree c hm
    rcases hc with z | z
    · rw [z, q] at hn; cases hn
    · rw [z] at hn; cases hn
  have sB : (PySem.W.hideAll s1.heap (frs (envOfC qual scope s.heap.objs.size f cd :: outer))).StaysIn s1.heap := fun b o q => PySem.W.of_hideAll _ q
  refine wpAny_leaves_madeW (base := PySem.W.hideAll s1.heap (frs (envOfC qual scope s.heap.objs.size f cd :: outer))) (h := s1.heap) I.ok.frames rfl sB (PySem.W.funFrames_hide stk hmem) hx fun h2 t fl _ _ up => ?_
  have upA : s1.heap.UpToSlots h2 := (Heap.UpToSlots.of_keeps hx.keeps).trans up
  have fd : ∀ b o, s1.heap.get? b = some o → b ∈ frs outer → ∀ vs, o.data ≠ .fields vs := fun b o q hb => by
    have hb' : b ∈ frs (envOfC qual scope s.heap.objs.size f cd :: outer) := List.mem_cons_of_mem _ hb
    obtain ⟨_, o', q', d⟩ := stk.mem hb'
    rw [q] at q'
    cases q'
    exact d
  refine ⟨e, cls, _, H1, _, rfl, I.os, I.bare, fl, hok, un_fly (L := s.heap.objs.size) I.base Un.refl nL inB sB fl.1 upA fd, fun b o q hb => ?_, hE⟩
  obtain ⟨o1, k1⟩ := I.base.there b o q (by simp [cxOf])
  exact inB b o1 k1 fun z => (List.mem_cons.mp z).elim (nL b o q) hb
end
/-- what of the text an own exception class without __init__ must have, at any heap that the fragment is in -/
structure ExcCls (K : PySem.W.Frag) (C : Addr) : Prop where
  ex : ∃ (nm q : Str) (Nn : Addr) (bs bm bmB : List Value) (hdct : Bool) (sn : List Str) (sub : List Value) (ab : Bool) (col : Option Bool) (dd : Option Addr) (k0 k1 k2 k3 k5 : Option Value) (B newId initId : String) (mN : Str → Option Value),
    ExcBaseFacts B newId initId bmB ∧ bm.contains (.type "BaseException") = true ∧ mN "__init__" = none ∧
    ∀ h : Heap, K.In h → h.get? C = some (excClassObj nm q C Nn bs bm hdct sn sub ab col dd k0 k1 k2 k3 k5 newId) ∧ h.Ns Nn mN ∧ OwnTail h bmB bm
section
variable {P : Program} {w : World} {K : PySem.W.Frag} {mg : Str → Option Value} {base : Heap} {N : List Str} {qual : Str} {scope : Scope} {f : Addr} {cd : Value} {A : Around} {outer : List Env} {s : Shared} {H : Hp} {E : XK}
/-- raise C(..): the wish E of the def's caller, at the heap as it is -/
def tRaise (E : XK) (C : Addr) (ta : TA) : TS := fun _ σ H => ta σ H fun vs H1 => vs.length ≤ 1000 ∧ E (.ref C) none H1
theorem ps_raise {x : Str} {C : Addr} {np cpos pos : Pos} {e : Expr} {es : List Expr} {ta : TA} (c : ExcCls K C) (hm : mg x = some (.ref C))
    (hg : Gl (cxOf (CX1 P w) P w K mg base N qual scope f cd A outer s H E) x) (ha : PA (cxOf (CX1 P w) P w K mg base N qual scope f cd A outer s H E) (e :: es) ta)
    (he : starEach (e :: es) (cxOf (CX1 P w) P w K mg base N qual scope f cd A outer s H E).env = (false, eval e (cxOf (CX1 P w) P w K mg base N qual scope f cd A outer s H E).env) :: starEach es (cxOf (CX1 P w) P w K mg base N qual scope f cd A outer s H E).env := by rfl)
    (hpl : (backTo cpos (starEach (e :: es) (cxOf (CX1 P w) P w K mg base N qual scope f cd A outer s H E).env)).any (·.1) = false := by rfl) (hdb : (x == ("__debug__" : Str)) = false := by decide) :
    PS (cxOf (CX1 P w) P w K mg base N qual scope f cd A outer s H E) (.Raise (some (.Call (.Name x np) (e :: es) [] cpos)) none pos) (tRaise E C ta) := by
  intro pins s1 σ H1 D I h
  obtain ⟨nm, q, Nn, bs, bm, bmB, hdct, sn, sub, ab, col, dd, k0, k1, k2, k3, k5, B, newId, initId, mN, F, hb, hni, hf⟩ := c.ex
  have hl : sizeLine = 16777216 := sizeLine_eq
  refine wpAny_Raise_call_subT (nm := nm) (q := q) (N := Nn) (bs := bs) (bm := bm) (hdct := hdct) (sn := sn) (sub := sub) (ab := ab) (col := col) (dd := dd) (k0 := k0) (k1 := k1) (k2 := k2) (k3 := k3) (k5 := k5) F hb (I.ok.hd rfl) hpl hni (ld_glob I hg hm ⟨rfl, ?_⟩ hdb)
  have ha' := ha cpos pins s1 σ H1 _ I h
  rw [he] at ha' ⊢
  refine Calls.evalArgs_plain (thn ha' fun us s2 ⟨vs, H2, I2, r, hz, hE⟩ => ?_)
  obtain ⟨hC, hn, hT⟩ := hf s2.heap I2.kIn
  exact ⟨rfl, by have := r.length; show us.length ≤ sizeLine; omega, hC, hn, hT, fun h' e hx => raise1 I2 hx hE⟩
end
/-! a try: the exception lands in its frame -/
/-- the heap as the flight's records turn -/
theorem un_up {fs : List Addr} {H H2 : Hp} {h h2 h3 B : Heap} (u : Un fs [] H H2 h h2) (inB : ∀ b o, h.get? b = some o → b ∉ fs → ∃ o', B.get? b = some o') (st2 : B.StaysIn h2) (st3 : B.StaysIn h3) (up : h2.UpToSlots h3)
    (fd : ∀ b o, h2.get? b = some o → b ∈ fs → ∀ vs, o.data ≠ .fields vs) : Un fs [] H H2 h h3 := by
  have go : ∀ b o, h2.get? b = some o → (∃ o', B.get? b = some o') → h3.get? b = some o := fun b o q ⟨o', q'⟩ => by
    have := st2 b o' q'
    rw [q] at this
    cases this
    exact st3 b _ q'
  refine ⟨fun b o q n hb hx => go b o (u.keep b o q n hb hx) (inB b o q hb), fun b o q n hb hx => ?_, fun b o q n hx => u.free b o q n hx, fun b o q hx => ?_, u.tups, u.frzs, u.tbls⟩
  · obtain ⟨sl, k1⟩ := u.slot b o q n hb hx
    obtain ⟨sl2, k2⟩ := up b _ k1 (fd b _ k1 hb)
    exact ⟨sl2, k2⟩
  · obtain ⟨o2, k2⟩ := u.there b o q hx
    by_cases hb : b ∈ fs
    · obtain ⟨sl3, k3⟩ := up b _ k2 (fd b _ k2 hb)
      exact ⟨_, k3⟩
    · exact ⟨o2, go b o2 k2 (inB b o q hb)⟩
/-- a tracked thing is there -/
theorem ObjOk.some_at {P : Program} {w : World} {H : Hp} {h : Heap} {a : Addr} {o : HO} (x : ObjOk P w H h a o) : ∃ ob, h.get? a = some ob := by
  cases o with
  | lst xs => obtain ⟨_, _, _, _, e⟩ := x; exact ⟨_, e⟩
  | tup xs => obtain ⟨_, _, _, ob, e, _⟩ := x; exact ⟨_, e⟩
  | dK kvs => obtain ⟨_, _, _, _, o, _, _, e, _⟩ := x; exact ⟨_, e⟩
  | dT kvs => obtain ⟨_, _, _, _, o, _, _, e, _⟩ := x; exact ⟨_, e⟩
  | set S n => obtain ⟨o, _, _, _, e, _⟩ := x; exact ⟨_, e⟩
  | ins C dx fs => obtain ⟨_, _, _, e, _⟩ := x; exact ⟨_, e⟩
  | own y => exact x
  | xd fs => obtain ⟨_, ⟨_, _, _, e, _⟩, _⟩ := x; exact ⟨_, e⟩
  | rng lo hi => obtain ⟨_, _, _, e⟩ := x; exact ⟨_, e⟩
  | frz ob u => obtain ⟨e, _⟩ := x; exact ⟨_, e⟩
  | tbl ps => exact ⟨_, (show h.get? a = some _ from x)⟩
  | met f y => exact ⟨_, (show h.get? a = some _ from x)⟩
  | ext φ => obtain ⟨_, e, _⟩ := x; exact e
/-- the context of a try's body: the pins are kept, another wish about exceptions -/
def Cx.over (X : Cx) (pn : List (Addr × Obj)) (E : Value → Shared → Prop) : Cx := { X with pn := pn, xe := E }
/-- the context of an except suite -/
def Cx.marked (X : Cx) (x : Addr) : Cx := { X with A := X.A.mark (some (.ref x)), calm := false, xe := fun _ _ => False }
section
variable {X : Cx} {pins : List (Addr × Obj)} {σ : St} {H : Hp} {s : Shared} {E : Value → Shared → Prop}
theorem Cx.Ok.over {pn : List (Addr × Obj)} (ok : X.Ok) : (X.over pn E).Ok :=
  ⟨ok.mod, ok.kind, ok.glob, ok.blt, ok.above, ok.inj, ok.has, ok.cab, ok.hd, ok.frames, ok.stk, ok.exf, ok.bs, ok.bsz, ok.noex, ok.exfs, ok.funs, ok.frf⟩
theorem Cx.Ok.unover {pn : List (Addr × Obj)} (ok : (X.over pn E).Ok) : X.Ok :=
  ⟨ok.mod, ok.kind, ok.glob, ok.blt, ok.above, ok.inj, ok.has, ok.cab, ok.hd, ok.frames, ok.stk, ok.exf, ok.bs, ok.bsz, ok.noex, ok.exfs, ok.funs, ok.frf⟩
theorem Inv.over (I : Inv X pins σ H s) : Inv (X.over (X.pn ++ pins) E) [] σ H s := ⟨I.ok.over, I.os, I.bare, I.base, I.loc, I.cell, I.free, I.freeC, fun p hp => I.pin p (by simpa [Cx.over] using hp), I.hok, I.len⟩
theorem Inv.unover {pins' : List (Addr × Obj)} (I : Inv (X.over (X.pn ++ pins) E) pins' σ H s) : Inv X pins σ H s := ⟨I.ok.unover, I.os, I.bare, I.base, I.loc, I.cell, I.free, I.freeC, fun p hp => I.pin p (List.mem_append_left _ hp), I.hok, I.len⟩
theorem Inv.marked {x : Addr} (I : Inv X pins σ H s) : Inv (X.marked x) pins σ H s :=
  ⟨⟨I.ok.mod, I.ok.kind, I.ok.glob, I.ok.blt, I.ok.above, I.ok.inj, I.ok.has, I.ok.cab, fun h => absurd h (by simp [Cx.marked]), I.ok.frames, I.ok.stk, I.ok.exf, I.ok.bs, I.ok.bsz, I.ok.noex, I.ok.exfs, I.ok.funs, I.ok.frf⟩, I.os, I.bare, I.base, I.loc, I.cell, I.free, I.freeC, I.pin, I.hok, I.len⟩
theorem Inv.unmarked {x : Addr} (hc : X.calm = true → X.A.handled = none) (I : Inv (X.marked x) pins σ H s) : Inv X pins σ H s :=
  ⟨⟨I.ok.mod, I.ok.kind, I.ok.glob, I.ok.blt, I.ok.above, I.ok.inj, I.ok.has, I.ok.cab, hc, I.ok.frames, I.ok.stk, I.ok.exf, I.ok.bs, I.ok.bsz, I.ok.noex, I.ok.exfs, I.ok.funs, I.ok.frf⟩, I.os, I.bare, I.base, I.loc, I.cell, I.free, I.freeC, I.pin, I.hok, I.len⟩
/-- a thing of the call's own that was not tracked so far -/
theorem Inv.track {x : Addr} {o : HO} (I : Inv X pins σ H s) (hn : H x = none) (h0 : X.s₀.heap.get? x = none) (hL : x ≠ X.env.locals) (hc : ∀ y c, X.env.cells.lookup y = some c → c ≠ x) (hp : ∀ p ∈ X.pn ++ pins, p.1 ≠ x)
    (new : ObjOk X.prog X.w (upd H x o) s.heap x o) : Inv X pins σ (upd H x o) s := by
  have ne : ∀ b u, H b = some u → b ≠ x := fun b u q => ne_of_none q hn
  have ne0 : ∀ b u, X.s₀.heap.get? b = some u → b ≠ x := fun b u q z => by rw [z, h0] at q; cases q
  refine ⟨I.ok, I.os, I.bare, ⟨I.base.keep, I.base.slot, fun b u q n hx => ?_, I.base.there, fun b xs q => ?_, fun b u xs q => ?_, fun b ps q => ?_⟩, I.loc, I.cell, ?_, fun y c e => ?_, fun p h => ?_, hok_track I.hok hn new, I.len⟩
  · rw [upd_ne (ne0 b u q)]; exact I.base.free b u q n hx
  · have := I.base.tups b xs q; rw [upd_ne (ne b _ this)]; exact this
  · have := I.base.frzs b u xs q; rw [upd_ne (ne b _ this)]; exact this
  · obtain ⟨m, e⟩ := I.base.tbls b ps q; exact ⟨m, by rw [upd_ne (ne b _ e)]; exact e⟩
  · rw [upd_ne (Ne.symm hL)]; exact I.free
  · rw [upd_ne (hc y c e)]; exact I.freeC y c e
  · obtain ⟨e, n, r⟩ := I.pin p h; exact ⟨e, by rw [upd_ne (hp p h)]; exact n, r⟩
end
/-- what is known of an exception that has landed in the frame of X -/
structure Landed (X : Cx) (pins : List (Addr × Obj)) (σ : St) (H' : Hp) (x : Addr) (cls : Value) (s : Shared) (B : Heap) (a0 : Value) : Prop where
  inv : Inv X pins σ H' s
  fly : Heap.FlyingW B X.stack x cls a0 s.heap
  more : ∀ h6, Heap.FlyingW B X.stack x cls a0 h6 → s.heap.UpToSlots h6 → Inv X pins σ H' { s with heap := h6 }
  free : H' x = none
  new : X.s₀.heap.get? x = none
  neL : x ≠ X.env.locals
  neC : ∀ y c, X.env.cells.lookup y = some c → c ≠ x
  neP : ∀ p ∈ X.pn ++ pins, p.1 ≠ x
/-- behind a call that has raised: the two first steps of a try's except -/
theorem land1 {X : Cx} {pins : List (Addr × Obj)} {σ : St} {H : Hp} {s1 s' : Shared} {Ex : XK} {e : Value} {A : Around} {E : Value → Shared → Prop} {Q : Unit → Shared → Prop} (I : Inv X pins σ H s1) (c : CX1 X.prog X.w X.stack H s1 Ex e s')
    (hA : A.frames = some X.stack) (hst : X.stack = X.env :: X.outer) (hf : X.env.frame = some X.env.locals) (hex : X.ex = [])
    (k : ∀ x cls H' s2 B a0, e = .ref x → Landed X pins σ H' x cls s2 B a0 → Ex cls none H' → Q () s2) :
    wpAny (model X.prog X.w) A (noteFrame e X.env) (fun _ s2 => wpAny (model X.prog X.w) A (setFlight e none) Q E s2) E s' := by
  obtain ⟨x, cls, a0, H', B, rfl, hos, hg, fl, hok, un, inB, hE'⟩ := c
  have fd : ∀ b o, s'.heap.get? b = some o → b ∈ frs X.stack → ∀ vs, o.data ≠ .fields vs := fun b o q hb => by
    obtain ⟨_, _, ff, _⟩ := id fl
    obtain ⟨_, o', q', d⟩ := ff.mem hb
    rw [q] at q'
    cases q'
    exact d
  have nB : B.get? x = none := fl.2.1
  have hfree : H' x = none := by
    cases q : H' x with
    | none => rfl
    | some o =>
      obtain ⟨ob, z⟩ := (hok x o q).some_at
      rw [nB] at z; cases z
  have n1 : s1.heap.get? x = none := by
    cases q : s1.heap.get? x with
    | none => rfl
    | some o =>
      exfalso
      by_cases hb : x ∈ frs X.stack
      · obtain ⟨oe, vs, he, _, hd, _⟩ := fl.first
        exact fd x oe he hb vs hd
      · obtain ⟨o', z⟩ := inB x o q hb
        rw [nB] at z; cases z
  have here : ∀ b o, s1.heap.get? b = some o → b ≠ x := fun b o q z => by rw [z, n1] at q; cases q
  have fl0 : Heap.FlyingW B (X.env :: X.outer) x cls a0 s'.heap := by rw [← hst]; exact fl
  refine wpAny_looks_onW (by rw [hA, hst]) hf fl0 fun h2 hh up2 => wpAny_landsW hh fun h3 fl3 up3 => ?_
  have fl3' : Heap.FlyingW B X.stack x cls a0 h3 := by rw [hst]; exact fl3
  have go : ∀ h6, Heap.FlyingW B X.stack x cls a0 h6 → s'.heap.UpToSlots h6 → Inv X pins σ H' { s' with heap := h6 } := fun h6 f6 u6 =>
    I.call' (s' := { s' with heap := h6 }) hos (un_up un inB fl.1 f6.1 u6 fd) (hok.kept fun b o q => f6.1 b o q) hg fun b hb => absurd hb (by simp)
  refine k x cls H' _ B a0 rfl ⟨go h3 fl3' (up2.trans up3), fl3', fun h6 f6 u6 => go h6 f6 ((up2.trans up3).trans u6), hfree, ?_, ?_, fun y c e => ?_, fun p hp => here _ _ (I.pin p hp).1⟩ hE'
  · cases q : X.s₀.heap.get? x with
    | none => rfl
    | some o =>
      obtain ⟨o', z⟩ := I.base.there x o q (by rw [hex]; simp)
      rw [n1] at z; cases z
  · obtain ⟨m, ⟨o, _, _, q, _⟩, _⟩ := I.loc
    exact fun z => here _ _ q z.symm
  · obtain ⟨v, o, q, _⟩ := I.cell y c e
    exact here _ _ q
section
variable {X : Cx} {pins : List (Addr × Obj)} {σ : St} {H : Hp} {s : Shared}
/-- the name behind 'as' goes -/
theorem gone_ok {M : Model} {A : Around} {E : Value → Shared → Prop} {i : Nat} {x : Str} {pos : Pos} {Q : Unit → Shared → Prop} (I : Inv X pins σ H s) (hN : X.N.Nodup) (hi : X.N[i]? = some x) (hk : X.env.scope.names.lookup x = some .local)
    (h : ∀ s', Inv X pins (σ.set i none) H s' → Q () s') : wpAny M A (do bindName X.env x .none; unbindBehindTheSuite X.env x pos) Q E s := by
  obtain ⟨m, hn, hl⟩ := id I.loc
  have hcls : (X.env.scope.kind == .class || (X.env.scope.kind == .module && X.env.locals != X.env.globals)) = false := by rw [I.ok.kind]; rfl
  have hiσ : i < σ.length := by rw [I.len]; exact (List.getElem?_eq_some_iff.mp hi).1
  have cne := I.cne
  refine wpAny_nameGoes_keeps hk hn hcls fun h' v hn' hs => ?_
  refine h _ ⟨I.ok, I.os, I.bare, ⟨fun b o e n hb hx => ?_, fun b o e n hb hx => ?_, I.base.free, fun b o e hx => ?_, I.base.tups, I.base.frzs, I.base.tbls⟩, ⟨_, hn', fun j y v' e1 e2 e3 => ?_⟩, fun y c e => ?_, I.free, I.freeC, fun p hp => ?_, fun b ob e => ?_, by simpa using I.len⟩
  · exact (hs.2 b (Nat.ne_of_lt (Nat.lt_of_lt_of_le (Heap.lt_size e) I.ok.above))).trans (I.base.keep b o e n hb hx)
  · obtain ⟨sl, e1⟩ := I.base.slot b o e n hb hx
    exact ⟨sl, (hs.2 b (Nat.ne_of_lt (Nat.lt_of_lt_of_le (Heap.lt_size e) I.ok.above))).trans e1⟩
  · obtain ⟨o', e1⟩ := I.base.there b o e hx
    exact ⟨o', (hs.2 b (Nat.ne_of_lt (Nat.lt_of_lt_of_le (Heap.lt_size e) I.ok.above))).trans e1⟩
  · by_cases hj : j = i
    · subst hj
      rw [List.getElem?_set_self hiσ] at e2
      cases e2
    · rw [List.getElem?_set_ne (Ne.symm hj)] at e2
      obtain ⟨u', r', q⟩ := hl j y v' e1 e2 e3
      refine ⟨u', r', ?_⟩
      rcases q with ⟨k, e⟩ | ⟨k, c, e, z⟩
      · refine .inl ⟨k, ?_⟩
        have : y ≠ x := fun e => hj (nodup_ix hN e1 (e ▸ hi))
        simp [this, e]
      · exact .inr ⟨k, c, e, z.sameBut hs (cne y c e)⟩
  · obtain ⟨w', z⟩ := I.cell y c e
    exact ⟨w', z.sameBut hs (cne y c e)⟩
  · obtain ⟨e, n, ne, nf, d⟩ := I.pin p hp
    exact ⟨(hs.2 p.1 ne).trans e, n, ne, nf, d⟩
  · refine (I.hok b ob e).stay (fun c w' hc q => (hs.2 c ?_).trans q) (fun _ q => q) fun _ _ q => q
    rintro rfl
    rcases hc with rfl | hc
    · rw [I.free] at e; cases e
    · rw [I.free] at hc; cases hc
end
/-- a caught exception, by its class -/
def excO (x : Addr) (cls : Value) : HO := .ext fun h => ∃ ob, h.get? x = some ob ∧ ob.cls = cls
/-- what of the text a class must have to stand behind 'except' -/
structure ExcAt (K : PySem.W.Frag) (C : Addr) : Prop where
  ex : ∃ (nm q : Str) (Nn : Addr) (bs bm : List Value) (hdct : Bool) (sn : List Str) (sub : List Value) (ab : Bool) (col : Option Bool) (dd : Option Addr) (k0 k1 k2 k3 k5 : Option Value) (newId : String), bm.contains (.type "BaseException") = true ∧
    ∀ h : Heap, K.In h → h.get? C = some (excClassObj nm q C Nn bs bm hdct sn sub ab col dd k0 k1 k2 k3 k5 newId)
/-- try: body except C as n: suite. R: what is wished of an exception that the body's call lets out, by the frame's values at that call -/
def tTryAs (i : Nat) (C : Addr) (tb : (St → XK) → TS) (ts : TS) : TS := fun D σ H => ∃ R : St → XK,
  (∀ σ' cls d H', R σ' cls d H' → cls = .ref C ∧ ∀ y, H' y = none → ts { nx := fun σ2 H2 => D.nx (σ2.set i none) H2, rt := D.rt, bk := fun σ2 H2 => D.bk (σ2.set i none) H2, ct := fun σ2 H2 => D.ct (σ2.set i none) H2 } (σ'.set i (some (.ref y))) (upd H' y (excO y (.ref C)))) ∧ tb R D σ H
theorem ps_tryAs {X : Cx} {i : Nat} {n x : Str} {C : Addr} {body : List Stmt} {b₀ : Stmt} {suite : List Stmt} {np hpos pos : Pos} {tb : (St → XK) → TS} {ts : TS}
    (hst : X.stack = X.env :: X.outer) (hf : X.env.frame = some X.env.locals) (hex : X.ex = []) (hN : X.N.Nodup) (hi : X.N[i]? = some n) (hk : X.env.scope.names.lookup n = some .local)
    (hg : Gl X x) (hm : X.mg x = some (.ref C)) (cl : ExcAt X.K C)
    (hb : ∀ (pn : List (Addr × Obj)) (Ex : Value → Shared → Prop) (R : St → XK), (∀ pins σ H s e s', Inv (X.over pn Ex) pins σ H s → CX1 X.prog X.w X.stack H s (R σ) e s' → Ex e s') → PSs (X.over pn Ex) body (tb R))
    (hs : ∀ y, PSs (X.marked y) (b₀ :: suite) ts) (hdb : (x == ("__debug__" : Str)) = false := by decide) :
    PS X (.Try body [.ExceptHandler (some (.Name x np)) (some n) (b₀ :: suite) hpos] [] [] pos) (tTryAs i C tb ts) := by
  intro pins s σ H D I h
  obtain ⟨R, hR, hbody⟩ := h
  have hd := I.ok.hd
  refine wpAny_Try_except (wpAny_mono (hb (X.pn ++ pins) (fun e s₁ => wpAny (model X.prog X.w) X.A (noteFrame e X.env) (fun _ s₂ => wpAny (model X.prog X.w) X.A (setFlight e none) (fun _ s₃ =>
    wpAny (model X.prog X.w) X.A (handleBy e X.env [.ExceptHandler (some (.Name x np)) (some n) (b₀ :: suite) hpos]) (SP X pins D) X.xe s₃) X.xe s₂) X.xe s₁) R ?_ [] s σ H D I.over hbody) (fun f s₁ q => ?_) fun e s₁ q => q)
  · intro pins' σ' H' s1 e s2 I1 c
    refine land1 (I1.unover) c I.ok.frames hst hf hex fun y cls H2 s3 B a0 he L hE => ?_
    subst he
    obtain ⟨rfl, hsu⟩ := hR _ _ _ _ hE
    obtain ⟨nm, q, Nn, bs, bm, hdct, sn, sub, ab, col, dd, k0, k1, k2, k3, k5, newId, hbase, hC⟩ := cl.ex
    obtain ⟨ob, hob, hobc⟩ := L.fly.there
    have IL := L.inv
    refine wpAny_handleBy_cons (codeAny_handlers_test (Calls.Name_function_global IL.ok.kind hg (Calls.loadGlobal_global (by rw [IL.ok.glob]; exact IL.mod.glob.keeps IL.bk) hm ?_) hdb)) (by intro q; cases q)
    refine wpAny_excMatches_sub_self (hC s3.heap IL.kIn) hob hobc hbase ?_
    refine codeAny_handlers_suite_as ?_
    refine lands_againW L.fly fun h6 fl6 up6 => ?_
    obtain ⟨ob6, hob6, hobc6⟩ := fl6.there
    have I6 := (L.more h6 fl6 up6).track (x := y) (o := excO y (.ref C)) L.free L.new L.neL L.neC L.neP ⟨⟨ob6, hob6, hobc6⟩, ⟨ob6, hob6⟩, fun h1 h2 ⟨o, e1, e2⟩ k => ⟨o, k o e1, e2⟩⟩
    refine store_ok I6 hN hi (.inl hk) (v := .ref y) rfl (fun s7 I7 => ?_) (.inr hk)
    refine wpAny_mono (hs y pins s7 _ _ _ I7.marked (hsu y L.free)) (fun f s8 q8 => ?_) fun _ _ z => False.elim z
    cases f with
    | next =>
      obtain ⟨σ8, H8, I8, q8⟩ := q8
      exact gone_ok (I8.unmarked hd) hN hi hk fun s9 I9 => ⟨_, _, I9, q8⟩
    | brk =>
      obtain ⟨σ8, H8, I8, q8⟩ := q8
      exact gone_ok (I8.unmarked hd) hN hi hk fun s9 I9 => ⟨_, _, I9, q8⟩
    | cont =>
      obtain ⟨σ8, H8, I8, q8⟩ := q8
      exact gone_ok (I8.unmarked hd) hN hi hk fun s9 I9 => ⟨_, _, I9, q8⟩
    | ret u =>
      obtain ⟨v, σ8, H8, I8, rv, q8⟩ := q8
      exact gone_ok (I8.unmarked hd) hN hi hk fun s9 I9 => ⟨v, _, _, I9, rv, q8⟩
  · cases f with
    | next =>
      obtain ⟨σ1, H1, I1, q1⟩ := q
      exact wpAny_execs_nil ⟨σ1, H1, I1.unover, q1⟩
    | brk =>
      obtain ⟨σ1, H1, I1, q1⟩ := q
      exact ⟨σ1, H1, I1.unover, q1⟩
    | cont =>
      obtain ⟨σ1, H1, I1, q1⟩ := q
      exact ⟨σ1, H1, I1.unover, q1⟩
    | ret u =>
      obtain ⟨v, σ1, H1, I1, rv, q1⟩ := q
      exact ⟨v, σ1, H1, I1.unover, rv, q1⟩
/-- a call whose exception's wish may lean on the frame's values -/
def tCallR (sp : Sp) (R : St → XK) (t : TA) : TE := fun σ H Q => t σ H fun vs H1 => sp vs H1 Q (R σ)
theorem pe_callR {X : Cx} {CX : CXT} {k : Nat} {f : Addr} {fd : FuncData} {ps : List Str} {sp : Sp} {R : St → XK} {x : Str} {p pos : Pos} {e : Expr} {es : List Expr} {t : TA}
    (F : FnOk X.prog X.w X.K X.mg X.base CX k f fd ps sp) (hr : Room k X.A) (hg : Gl X x) (hm : X.mg x = some (.ref f)) (hk : PySem.W.keepIn X.K (.ref f) = true) (hb : Binds X.K fd ps [])
    (hx : ∀ pins σ H s e s', Inv X pins σ H s → CX X.stack H s (R σ) e s' → X.xe e s')
    (ha : PA X (e :: es) t) (hdb : (x == ("__debug__" : Str)) = false := by decide) (he : starEach (e :: es) X.env = (false, eval e X.env) :: starEach es X.env := by rfl) (hpl : (backTo pos (starEach es X.env)).any (·.1) = false := by rfl) :
    PE X (.Call (.Name x p) (e :: es) [] pos) (tCallR sp R t) := by
  intro pins s σ H Q I h
  refine wpAny_Call_Name_kw (ld_glob I hg hm ?_ hdb)
  refine PySem.W.callWith_K (h₀ := X.base) I.ok.mod.kin hk (thn (ha pos pins s σ H _ I h) fun us s1 ⟨vs, H1, I1, r, q⟩ => ⟨I1.kIn, ?_⟩) he hpl
  have hl : us.length = ps.length := by rw [← r.length]; exact F.len _ _ _ _ q
  have hb' := hb s1 us I1.kIn (by simpa using hl)
  rw [List.append_nil] at hb'
  refine wpAny_call (codeAny_mono (F.run X.A X.stack s1 H1 ⟨us, []⟩ us vs Q (R σ) hr I1.env0 hb' r q) fun r s' hq => ?_)
  cases r with
  | error e => exact hx pins σ H1 s1 e s' I1 hq
  | ok fl =>
    cases fl with
    | ret u => exact I1.after hq
    | next => exact False.elim hq
    | brk => exact False.elim hq
    | cont => exact False.elim hq
end L2

/-! ### own rules: own exception classes as the text has made them, isinstance of a caught exception, min of three -/
namespace L2
open PySem PySem.Spec PyProof.Rows
section
variable {prog : Program} {w : World} {A : Around} {E : Value → Shared → Prop} {h : Heap} {g : Array GenState} {d : Drawn} {t : Nat} {os : OsState} {a : Addr} {o : Obj} {C : Addr}
/-- what is asked of an own exception class, as a look at the heap -/
structure ExcLk (M : Model) (h : Heap) (C : Addr) : Prop where
  ga : ∀ {A : Around} {E : Value → Shared → Prop} {Q : Option Value → Shared → Prop} {g d t os}, Q (some (.builtin "BaseException.__getattribute__")) ⟨h, g, d, t, os⟩ → wpAny M A (typeLookup (.ref C) "__getattribute__") Q E ⟨h, g, d, t, os⟩
  gn : ∀ {A : Around} {E : Value → Shared → Prop} {Q : Option Value → Shared → Prop} {g d t os}, Q none ⟨h, g, d, t, os⟩ → wpAny M A (typeLookup (.ref C) "__getattr__") Q E ⟨h, g, d, t, os⟩
  cl : ∀ {A : Around} {E : Value → Shared → Prop} {Q : Option Value → Shared → Prop} {g d t os}, Q (some (.builtin "object.__class__")) ⟨h, g, d, t, os⟩ → wpAny M A (typeLookup (.ref C) "__class__") Q E ⟨h, g, d, t, os⟩
  ob : ∀ {A : Around} {E : Value → Shared → Prop} {Q : Bool → Shared → Prop} {g d t os}, Q true ⟨h, g, d, t, os⟩ → wpAny M A (isSubtype (.ref C) (.type "object")) Q E ⟨h, g, d, t, os⟩
  be : ∀ {A : Around} {E : Value → Shared → Prop} {Q : Bool → Shared → Prop} {g d t os}, Q true ⟨h, g, d, t, os⟩ → wpAny M A (isSubtype (.ref C) (.type "BaseException")) Q E ⟨h, g, d, t, os⟩

theorem xc_get {R : Result → Shared → Prop} (L : ExcLk (model prog w) h C) (hx : h.get? a = some o) (hc : o.cls = .ref C) (hq : R (.ok (.ret (.ref C))) ⟨h, g, d, t, os⟩) :
    codeAny (model prog w) A (.call (.builtin "getset_descriptor.__get__") ⟨[.builtin "object.__class__", .ref a, .ref C], []⟩) R ⟨h, g, d, t, os⟩ := by
  have hT5 : (⟨h, g, d, t, os⟩ : Shared).TypeIs (.builtin "object.__class__") "getset_descriptor" := F.typeOf_object_class
  refine codeAny_call_builtin F.slot_gs_get.plain F.entry_gs_get (F.slot_gs_get.check _ _ _ _ _ _ _ _ hT5 (F.args_gs_get _ _ _) ?_)
  repeat (any_goals (first | assumption | (with_reducible refine wpAny_loadPart_at hx ?_; rw [hc]) | (rw [F.owner_object_class]; with_reducible refine L.ob ?_) | wp_step))
  refine ⟨Code.quiet_builtin _ (by decide +kernel), codeAny_builtin F.entry_object_class ?_⟩
  repeat (any_goals (first | assumption | (with_reducible refine wpAny_loadPart_at hx ?_; rw [hc]) | wp_step))

theorem xc_check {M : Model} {nameV : Value} {Q : Unit → Shared → Prop} (L : ExcLk M h C)
    (hx : h.get? a = some o) (hc : o.cls = .ref C) (hq : Q () ⟨h, g, d, t, os⟩) : wpAny M A (checkBuiltinCall "BaseException.__getattribute__" ⟨[.ref a, nameV], []⟩) Q E ⟨h, g, d, t, os⟩ := by
  have hk : builtinKind "BaseException.__getattribute__" = some .slot := by decide +kernel
  have hsplit : splitId "BaseException.__getattribute__" = some ("BaseException", "__getattribute__") := by decide +kernel
  have ha := F.args_bexc_ga (.ref a) nameV
  simp only [checkBuiltinCall, hk, hsplit]
  refine wpAny_bind ?_
  · unfold isInstance
    repeat (first | (with_reducible refine wpAny_loadPart_at hx ?_; rw [hc]) | with_reducible refine L.be ?_ | wp_step)
    exact hq

theorem xc_entry {tk : Tok} {Q : Fin → Shared → Prop} (L : ExcLk (model prog w) h C) (hx : h.get? a = some o) (hc : o.cls = .ref C) (hq : Q (.done (.ret (.ref C))) ⟨h, g, d, t, os⟩) :
    wpAny (model prog w) A (Builtin.«object.__getattribute__» ⟨[.ref a, .str "__class__" tk], []⟩) Q E ⟨h, g, d, t, os⟩ := by
  have hT5 : (⟨h, g, d, t, os⟩ : Shared).TypeIs (.builtin "object.__class__") "getset_descriptor" := F.typeOf_object_class
  have f5 := F.typeOf_object_class
  have f6 := F.slot_gs_get.lookup
  have f7 := F.slot_gs_set.lookup
  repeat (any_goals (first | assumption | (with_reducible refine wpAny_loadPart_at hx ?_; rw [hc]) | with_reducible refine L.cl ?_ | wp_step))
  refine xc_get L hx hc ?_
  repeat (any_goals (first | assumption | wp_step))

theorem xc_by {tk : Tok} {fill expr : Bool} {Q : Value → Shared → Prop} (L : ExcLk (model prog w) h C) (FB : ExcAttrFacts "ValueError") (hx : h.get? a = some o) (hc : o.cls = .ref C) (hq : Q (.ref C) ⟨h, g, d, t, os⟩) :
    wpAny (model prog w) A (getAttrBy (.ref a) (.str "__class__" tk) fill expr) Q E ⟨h, g, d, t, os⟩ := by
  have f3 := FB.ga.bind (.ref a)
  have hx0 : (expr && onTheHeap (Value.builtin "BaseException.__getattribute__")) = false := by cases expr <;> rfl
  have hx2 : (Value.builtin "BaseException.__getattribute__" == Value.builtin "object.__getattribute__") = false := by decide +kernel
  have hx1 : (onTheHeap (Value.ref C) && Value.builtin "BaseException.__getattribute__" == Value.builtin "object.__getattribute__") = false := by rw [hx2]; rfl
  repeat (any_goals (first | assumption | (with_reducible refine wpAny_loadPart_at hx ?_; rw [hc]) | with_reducible refine L.ga ?_ | with_reducible refine L.gn ?_ | wp_step))
  refine codeAny_call_builtin FB.ga.plain F.entry_bexc_ga (xc_check L hx hc (xc_entry L hx hc ?_))
  repeat (any_goals (first | assumption | wp_step))

theorem xc_attr {Q : Option Value → Shared → Prop} (L : ExcLk (model prog w) h C) (FB : ExcAttrFacts "ValueError") (hx : h.get? a = some o) (hc : o.cls = .ref C) (hq : Q (some (.ref C)) ⟨h, g, d, t + 1, os⟩) :
    wpAny (model prog w) A (getAttr? (.ref a) "__class__") Q E ⟨h, g, d, t, os⟩ := by
  unfold getAttr? getAttrBy?
  repeat (any_goals (first | assumption | with_reducible apply xc_by L FB hx hc | wp_step))
end

/-- the bases of ValueError, itself first -/
abbrev vmro : List Value := [.type "ValueError", .type "Exception", .type "BaseException", .type "object"]
/-- a namespace of the text, as a map -/
def nsK (K : PySem.W.Frag) (N : Addr) (x : Str) : Option Value := match K.lookup N with
  | some o => (match o.data with | .dict es _ => nsFind es x | _ => none)
  | none => none
theorem nsK_eq {K : PySem.W.Frag} {h : Heap} {N : Addr} (X : K.In h) (ok : PySem.W.nsOkIn K N = true) : h.nsMap N = nsK K N := by
  funext x
  unfold PySem.W.nsOkIn at ok
  split at ok
  · rename_i look
    unfold Heap.nsMap nsK
    rw [X _ _ look, look]
  · cases ok
theorem nsK_none {K : PySem.W.Frag} {N : Addr} {x : Str} (e : PySem.W.nsIn K N x = some none) : nsK K N x = none := by
  unfold PySem.W.nsIn at e
  split at e
  · rename_i look
    split at e
    · cases e
    · rename_i f
      unfold nsK
      rw [look]
      show nsFind _ _ = none
      unfold nsFind findBy
      rw [← Array.find?_toList, f]
      rfl
  · cases e
theorem tail_base {K : PySem.W.Frag} : ∀ {l : List Value}, PySem.W.tailIn K vmro l = true → l.contains (.type "BaseException") = true
  | [], e => by simp [PySem.W.tailIn, vmro] at e
  | v :: r, e => by
    unfold PySem.W.tailIn at e
    rcases Bool.or_eq_true_iff.mp e with z | z
    · rw [beq_iff_eq.mp z]; decide +kernel
    · split at z
      · split at z
        · simp only [Bool.and_eq_true] at z
          rw [List.contains_cons, tail_base z.2, Bool.or_true]
        · cases z
      · cases z
/-- an own exception class without __init__, under ValueError, by one look at the text -/
theorem ExcCls.ofIn {K : PySem.W.Frag} {C : Addr} (z : PySem.W.excIn K C vmro "ValueError.__new__" = true) : ExcCls K C := by
  unfold PySem.W.excIn at z
  split at z
  · rename_i od kd slo look
    split at z
    · rename_i C1 up a0 a1 a2 a3 nid a5 em es
      simp only [Bool.and_eq_true, beq_iff_eq, Bool.not_eq_true'] at z
      obtain ⟨⟨⟨⟨⟨x1, x2⟩, x3⟩, x4⟩, x5⟩, x6⟩ := z
      subst x1 x2
      obtain ⟨g1, g2, g3, g4, g5, g6, g7, g8, g9, g10, g11⟩ := kd
      dsimp only at em x3 x5 x6
      subst em x3
      have hs : slo = #[a0, a1, a2, a3, some (.builtin "ValueError.__new__"), a5] := by
        obtain ⟨l⟩ := slo
        simp only at es
        rw [es]
      subst hs
      refine ⟨⟨g1, g5, g4, g2, up, vmro, g6, g7, g8, g9, g10, od, a0, a1, a2, a3, a5, "ValueError", "ValueError.__new__", "ValueError.__init__", nsK K g4, PySem.F.excBase_ValueError, tail_base x4, nsK_none x6, fun h X => ⟨X _ _ look, ?_, PySem.W.tail_of_in X x4⟩⟩⟩
      rw [← nsK_eq X x5]
      exact .of_isNs (PySem.W.isNs_of_in X x5)
    · cases z
  · cases z
theorem ExcCls.at {K : PySem.W.Frag} {C : Addr} (c : ExcCls K C) : ExcAt K C := by
  obtain ⟨nm, q, Nn, bs, bm, bmB, hdct, sn, sub, ab, col, dd, k0, k1, k2, k3, k5, B, newId, initId, mN, _, hb, _, hf⟩ := c.ex
  exact ⟨⟨nm, q, Nn, bs, bm, hdct, sn, sub, ab, col, dd, k0, k1, k2, k3, k5, newId, hb, fun h X => (hf h X).1⟩⟩
/-- what isinstance asks of the class of a caught exception -/
structure XcK (K : PySem.W.Frag) (C : Addr) : Prop where
  cls : (PySem.W.clsIn K C).isSome = true
  ga : PySem.W.findIn K (.ref C) "__getattribute__" = some (some (.builtin "BaseException.__getattribute__"))
  gn : PySem.W.findIn K (.ref C) "__getattr__" = some none
  cl : PySem.W.findIn K (.ref C) "__class__" = some (some (.builtin "object.__class__"))
  ob : PySem.W.subIn K (.ref C) (.type "object") = some true
  be : PySem.W.subIn K (.ref C) (.type "BaseException") = some true
theorem XcK.lk {K : PySem.W.Frag} {C : Addr} {M : Model} {h : Heap} (x : XcK K C) (X : K.In h) : ExcLk M h C :=
  ⟨fun q => (PySem.W.looks_findIn X x.ga).at q, fun q => (PySem.W.looks_findIn X x.gn).at q, fun q => (PySem.W.looks_findIn X x.cl).at q, fun q => (PySem.W.looks_subIn X x.ob).at q, fun q => (PySem.W.looks_subIn X x.be).at q⟩
def ExcHere (y C : Addr) (h : Heap) : Prop := ∃ ob, h.get? y = some ob ∧ ob.cls = .ref C
theorem XcK.obj {K : PySem.W.Frag} {C : Addr} (x : XcK K C) : ∃ c d cd sl, K.lookup C = some ⟨c, d, .cls cd, sl⟩ := by
  have z := x.cls
  unfold PySem.W.clsIn at z
  split at z
  · rename_i look
    exact ⟨_, _, _, _, look⟩
  · cases z
theorem kitx_exc {K : PySem.W.Frag} {y C : Addr} (x : XcK K C) : PySem.W.KitX K (.ref y) (.ref C) (ExcHere y C) where
  ty := fun _ _ _ ⟨_, e1, e2⟩ => e2 ▸ (PySem.W.Looks.ld e1).andThen .now
  it := fun _ h X _ => by
    obtain ⟨c, d, cd, sl, look⟩ := x.obj
    intro A Q E s k q
    unfold isType loadHead
    exact wpAny_bind (wpAny_loadPart (k _ _ (X _ _ look)) (wpAny_pure q))
  ne := fun h tp dd its n sl X e => by
    obtain ⟨c, d, cd, sl', look⟩ := x.obj
    refine Bool.eq_false_iff.mpr fun q => ?_
    obtain rfl : C = tp := Value.ref.inj (beq_iff_eq.mp q)
    have z := (X _ _ look).symm.trans e
    cases z
  ca := fun {_ _ _ _ _ s} X p k => by
    obtain ⟨h, g, d, t, os⟩ := s
    obtain ⟨ob, e1, e2⟩ := p
    exact xc_attr (x.lk X) PySem.F.attr_ValueError e1 e2 k
/-- isinstance(e, c), e caught -/
def isiE (K : PySem.W.Frag) (C : Addr) : V → Bool → Prop
  | .ref D, b => PySem.W.kitOne K (.ref C) (.ref D) = some b
  | .ty T, b => PySem.W.kitOne K (.ref C) (.type T) = some b
  | _, _ => False
theorem call_isiX {X : Cx} {K : PySem.W.Frag} {C : Addr} (hK : X.K = K) (x : XcK K C) : CallR X (.builtin "isinstance") (fun xs H Q => ∃ y c b, xs = [.ref y, c] ∧ H y = some (excO y (.ref C)) ∧ isiE K C c b ∧ Q (.bl b) H) := by
  subst hK
  intro pins s σ H xs us Q I r h
  obtain ⟨y, c, b, rfl, hy, hc, q⟩ := h
  obtain ⟨u, w', rfl, rx, ry⟩ := vals2 r
  cases rx
  have p : ExcHere y C s.heap := (I.hok y _ hy).1
  have fin : ∀ tk, EP X pins σ Q (.bool b) { s with toks := tk } := fun tk => ⟨.bl b, H, I.tok tk, rfl, q⟩
  cases c with
  | ref D => cases ry; exact PySem.W.kia_one (kitx_exc x) I.kIn p hc (by intro e; cases e) fin
  | ty T => cases ry; exact PySem.W.kia_one (kitx_exc x) I.kIn p hc (by intro e; cases e) fin
  | _ => exact (show False from hc).elim
theorem bt_ValueError : bootBuiltins "ValueError" = some (.type "ValueError") := by decide +kernel
section
variable {P : Program} {w : World} {K : PySem.W.Frag} {mg : Str → Option Value} {base : Heap}
/-- a def that may raise -/
theorem Fun.ok1 {x qual : Str} {st : Stmt} {f : Addr} {fd : FuncData} {N ps : List Str} {k : Nat} {sp : Sp} (F : Fun K x qual st f fd) (S : FnScope N ps (defScope st)) (len : ∀ vs H Q E, sp vs H Q E → vs.length = ps.length)
    (go : ∀ (cdv : Value) (A : Around) (outer : List Env) (s : Shared) (H : Hp) (vs : List V) (Q : VK) (E : XK), Room k (A.deeper (envOfC qual (defScope st) s.heap.objs.size f cdv)) → sp vs H Q E →
      ∃ t, PSs (cxOf (CX1 P w) P w K mg base N qual (defScope st) f cdv A outer s H E) (defBody st) t ∧ t { nx := fun _ H' => Q .non H', rt := Q } (start N vs) H) : FnOk P w K mg base (CX1 P w) (k + 1) f fd ps sp := by
  obtain ⟨oc, od, kV, doc, pm, an, cdv, ct, osl, e, lk, hcd⟩ := F.ex
  subst e
  exact fn_of lk hcd S len fun A outer s H vs Q E hr hsp => go cdv A outer s H vs Q E hr hsp
end
/-- min of three numbers -/
theorem call_min3 {X : Cx} (hc : X.calm = true) : CallR X (.builtin "min") (fun xs H Q => ∃ a b c : Int, xs = [.int a, .int b, .int c] ∧ ∀ n : Int, Q (.int n) H) := by
  intro pins s σ H xs us Q I r h
  obtain ⟨a, b, c, rfl, q⟩ := h
  cases r with
  | cons r1 r =>
    obtain ⟨u, w', rfl, ⟨t2, rfl⟩, ⟨t3, rfl⟩⟩ := vals2 r
    obtain ⟨t1, rfl⟩ := r1
    refine min_three_ints (I.ok.hd hc) fun h' tk k => ?_
    split <;> split <;> exact ⟨.int _, H, I.kept k, ⟨_, rfl⟩, q _⟩
end L2

/-! ### own rules, begun: an own exception class with an __init__ of its own (imports PyProof.ExcInit, PyProof.ExcClass2) -/
namespace L2
open PySem
section
variable {prog : Program} {w : World} {A : Around} {E : Value → Shared → Prop} {h : Heap} {g : Array GenState} {d : Drawn} {t : Nat} {os : OsState}
variable {nm q : Str} {C N : Addr} {bs bm bmB : List Value} {hdct : Bool} {sn : List Str} {sub : List Value} {ab : Bool} {col : Option Bool} {dd : Option Addr} {k0 k1 k2 k3 k5 : Option Value} {B newId initId : String}
theorem xi_lookup {mN : Str → Option Value} {name : Str} {v : Value} {Q : Option Value → Shared → Prop} {M : Model} (hC : h.get? C = some (excClassObj nm q C N bs bm hdct sn sub ab col dd k0 k1 k2 k3 k5 newId)) (hn : h.Ns N mN) (hv : mN name = some v)
    (hq : Q (some v) ⟨h, g, d, t, os⟩) : wpAny M A (typeLookup (.ref C) name) Q E ⟨h, g, d, t, os⟩ := by
  rw [typeLookup_eq]
  refine wpAny_bind (wpAny_mroOf_exc hC ?_)
  rw [lookupAlong_cons]
  refine wpAny_bind (wpAny_classOwn_exc hC hn ?_)
  rw [hv]
  exact wpAny_pure hq
theorem xi_type_call (F : ExcBaseFacts B newId initId bmB) (T : OwnTail h bmB bm) {mN : Str → Option Value} {us : List Value} {f : Addr} {fo : Obj} {Q : Fin → Shared → Prop}
    (hC : h.get? C = some (excClassObj nm q C N bs bm hdct sn sub ab col dd k0 k1 k2 k3 k5 newId)) (hn : h.Ns N mN) (hi : mN "__init__" = some (.ref f)) (hf : h.get? f = some fo) (hfc : fo.cls = .type "function")
    (go : ∀ h' e, h.objs.size ≤ e → Heap.MadeExcOf h h' e (.ref C) us → wpAny (model prog w) A (call (.ref f) (.ref e :: us)) (fun r s' => r = .none ∧ Q (.done (.ret (.ref e))) s') E ⟨h', g, d, t, os⟩) (hz : us.length ≤ sizeLine) :
    wpAny (model prog w) A (Builtin.«type.__call__» ⟨.ref C :: us, []⟩) Q E ⟨h, g, d, t, os⟩ := by
  repeat (first | with_reducible refine wpAny_loadPart_at hC ?_ | with_reducible refine wpAny_madeBy_exc hC ?_ | wp_step)
  refine codeAny_call_builtin_code (Code.quiet_builtin _ F.quiet) (wpAny_check_new_subT F T hC ?_)
  refine codeAny_exc_new_subT F T hC ?_ hz
  show wpAny _ _ _ _ _ _
  generalize ho : ({ cls := .ref C, data := .fields #[.ref h.objs.size, .none, .none, .none, .bool false, .none] } : Obj) = eo
  generalize hp : h.push { cls := .type "tuple", data := .seq us.toArray } = hp1
  have up : ∀ b o, h.get? b = some o → (hp1.push eo).get? b = some o := fun b o z => Heap.get?_push_of_some _ (by rw [← hp]; exact Heap.get?_push_of_some _ z)
  have hC1 := up _ _ hC
  have hn1 : (hp1.push eo).Ns N mN := hn.keeps up
  have sz : hp1.objs.size = h.objs.size + 1 := by rw [← hp, Heap.size_push]
  have he : (hp1.push eo).get? (h.objs.size + 1) = some eo := by rw [← sz]; exact Heap.get?_push_size _ (by rw [← ho]; rfl)
  have hcl : eo.cls = .ref C := by rw [← ho]
  have hsub : (Value.ref C :: bm).contains (.ref C) = true := by simp
  unfold isInstance
  repeat (first | (with_reducible refine wpAny_loadPart_at he ?_; rw [hcl]) | (with_reducible refine wpAny_isSubtype_exc hC1 ?_; rw [hsub]) | wp_step)
  show wpAny _ _ (typeLookup (.ref C) _) _ _ _
  refine xi_lookup hC1 hn1 hi ?_
  refine wpAny_holding (wpAny_bind ?_)
  unfold bindSpecial
  refine wpAny_bind (wpAny_typeOf (T := "function") ⟨_, up _ _ hf, hfc⟩ ?_)
  rw [if_pos (by decide)]
  have made : Heap.MadeExcOf h (hp1.push eo) (h.objs.size + 1) (.ref C) us := by
    refine ⟨up, Heap.get?_none_of_le (Nat.le_succ _), h.objs.size, by rw [he, ← ho], Heap.get?_none_of_le (Nat.le_refl _), ?_⟩
    refine Heap.get?_push_of_some _ ?_
    rw [← hp]
    exact Heap.get?_push_at rfl rfl
  refine wpAny_pure (wpAny_bind (wpAny_mono (go _ _ (Nat.le_succ _) made) (fun r s' hr => ?_) fun _ _ x => x))
  obtain ⟨rfl, hQ⟩ := hr
  wp_walk
  exact hQ
end
end L2
namespace L2
open PySem
section
variable {prog : Program} {w : World} {A : Around} {E : Value → Shared → Prop} {h : Heap} {g : Array GenState} {d : Drawn} {t : Nat} {os : OsState}
variable {nm q : Str} {C N : Addr} {bs bm bmB : List Value} {hdct : Bool} {sn : List Str} {sub : List Value} {ab : Bool} {col : Option Bool} {dd : Option Addr} {k0 k1 k2 k3 k5 : Option Value} {B newId initId : String}
/-- C(..), C with an __init__ of its own -/
theorem xi_call (F : ExcBaseFacts B newId initId bmB) (T : OwnTail h bmB bm) {mN : Str → Option Value} {us : List Value} {f : Addr} {fo : Obj} {Q : Value → Shared → Prop}
    (hC : h.get? C = some (excClassObj nm q C N bs bm hdct sn sub ab col dd k0 k1 k2 k3 k5 newId)) (hn : h.Ns N mN) (hi : mN "__init__" = some (.ref f)) (hf : h.get? f = some fo) (hfc : fo.cls = .type "function")
    (go : ∀ h' e, h.objs.size ≤ e → Heap.MadeExcOf h h' e (.ref C) us → wpAny (model prog w) (A.under (.builtin "type.__call__" ⟨.ref C :: us, []⟩)) (call (.ref f) (.ref e :: us)) (fun r s' => r = .none ∧ Q (.ref e) s') E ⟨h', g, d, t, os⟩) (hz : us.length ≤ sizeLine) :
    wpAny (model prog w) A (call (.ref C) us) Q E ⟨h, g, d, t, os⟩ := by
  have z1 := tc_lookup
  have z2 := tc_bind (.ref C)
  have z3 : (⟨h, g, d, t, os⟩ : Shared).TypeIs (.ref C) "type" := ⟨_, hC, rfl⟩
  refine wpAny_call (codeAny_of_tree ?_)
  show wpAny _ _ (callAny (.ref C) _) _ _ _
  repeat (any_goals (first | assumption | with_reducible refine wpAny_loadPart_at hC ?_ | wp_step))
  refine ⟨rfl, ?_⟩
  exact codeAny_call_builtin_at (Code.quiet_builtin _ (by decide +kernel)) entry_typeCall (wpAny_check_type_call_sub hC (xi_type_call F T hC hn hi hf hfc (fun h' e z m => go h' e z m) hz))
/-- the base's __init__ of an own exception: its arguments anew -/
theorem xi_base (F : ExcBaseFacts B newId initId bmB) (T : OwnTail h bmB bm) {e : Addr} {oe : Obj} {a0 : Addr} {vr : List Value} {us : List Value} {Q : Value → Shared → Prop}
    (hC : h.get? C = some (excClassObj nm q C N bs bm hdct sn sub ab col dd k0 k1 k2 k3 k5 newId)) (he : h.get? e = some oe) (hcls : oe.cls = .ref C) (hd : oe.data = .fields (.ref a0 :: vr).toArray) (hz : us.length ≤ sizeLine)
    (go : ∀ h' tp, h.get? tp = none → (∀ b o, b ≠ e → h.get? b = some o → h'.get? b = some o) → h'.get? e = some { oe with data := .fields (.ref tp :: vr).toArray } → Q .none ⟨h', g, d, t, os⟩) :
    wpAny (model prog w) A (call (.builtin initId) (.ref e :: us)) Q E ⟨h, g, d, t, os⟩ := by
  obtain ⟨oc, od, dt, osl⟩ := oe
  obtain rfl : oc = .ref C := hcls
  obtain rfl : dt = .fields (.ref a0 :: vr).toArray := hd
  refine wpAny_call (codeAny_call_builtin F.init.plain F.initEntry (wpAny_check_init_subT F T hC he rfl ?_))
  wp_walk
  refine go _ h.objs.size (Heap.get?_none_of_le (Nat.le_refl _)) (fun b o hb hq => ?_) ?_
  · rw [Heap.get?_update_other _ _ (Ne.symm hb)]
    exact Heap.get?_push_of_some _ hq
  · rw [Heap.get?_update_self _ (Heap.get?_push_of_some _ he) rfl]
    rfl
end
end L2
namespace L2
open PySem Builtin Builtin.ObjectAttr
/-- own exception classes, then ValueError's bases -/
def overExc : List Value → Bool
  | .ref _ :: r => overExc r
  | l => l == vmro
theorem overExc_passes (self : Value) : ∀ {l : List Value}, overExc l = true → refuseLoop self "__setattr__" l = pure ()
  | [], e => by cases (beq_iff_eq.mp (show (([] : List Value) == vmro) = true from e))
  | v :: r, e => by
    cases v with
    | ref c => rw [refuseLoop_ref]; exact overExc_passes self (l := r) e
    | _ => rw [beq_iff_eq.mp (show (_ == vmro) = true from e)]; exact PySem.F.store_ValueError.passes self
theorem overExc_has : ∀ {l : List Value}, overExc l = true → l.contains (.type "object") = true
  | [], e => by cases (beq_iff_eq.mp (show (([] : List Value) == vmro) = true from e))
  | v :: r, e => by
    cases v with
    | ref c => rw [List.contains_cons, overExc_has (l := r) e, Bool.or_true]
    | _ => rw [beq_iff_eq.mp (show (_ == vmro) = true from e)]; decide +kernel
/-- what is asked of an own exception class whose instances have fields -/
structure XfK (K : PySem.W.Frag) (C : Addr) : Prop where
  xc : XcK K C
  sa : PySem.W.findIn K (.ref C) "__setattr__" = some (some (.builtin "object.__setattr__"))
  ov : (PySem.W.clsIn K C).any (fun cd => overExc cd.mro && cd.hasDict) = true
section
variable {prog : Program} {w : World} {A : Around} {E : Value → Shared → Prop} {h : Heap} {g : Array GenState} {d : Drawn} {t : Nat} {os : OsState} {x C : Addr} {K : PySem.W.Frag} {mA : Str → Option Value} {name : Str} {v : Value}
theorem inst_at (I : h.Inst x C mA) : ∃ ox od, PySem.W.InstAt h x ox C od ∧ ((ox.dict = none ∧ od = none ∧ ∀ n, mA n = none) ∨ ∃ dx o, ox.dict = some dx ∧ dx ≠ x ∧ od = some o ∧ h.Ns1 dx mA ∧ ∀ n, PySem.W.lookIn n o = some (mA n)) := by
  obtain ⟨o, hx, hc, hnc, hd⟩ := I
  have no : PySem.W.notCls o = true := by
    unfold PySem.W.notCls
    split
    · rename_i c hcd; exact absurd hcd (hnc _)
    · rfl
  rcases hd with ⟨hdn, hm⟩ | ⟨dx, hdx, hne, hns⟩
  · exact ⟨o, none, ⟨hx, hc, no, by rw [hdn]; exact True.intro⟩, .inl ⟨hdn, rfl, hm⟩⟩
  · obtain ⟨od, ho, hl⟩ := lookIn_ns hns
    exact ⟨o, some od, ⟨hx, hc, no, by rw [hdx]; exact ho⟩, .inr ⟨dx, od, hdx, hne, rfl, hns, hl⟩⟩
theorem xf_store {tk : Tok} {ns : List Str} {R : Result → Shared → Prop} (X : K.In h) (c : XfK K C) (ht : PySem.W.takerIn K C name = some none) (I : h.Inst x C mA) (hw : PySem.Within mA ns) (hsz : ns.length ≤ sizeLine)
    (hq : ∀ h' tk', h'.Inst x C (fun y => if y = name then some v else mA y) →
      (∀ b o, b ≠ x → (∀ o₀ dx, h.get? x = some o₀ → o₀.dict = some dx → b ≠ dx) → h.get? b = some o → h'.get? b = some o) →
      (∀ o₀, h.get? x = some o₀ → ∃ o₁, h'.get? x = some o₁ ∧ o₁.cls = o₀.cls ∧ o₁.data = o₀.data ∧ o₁.slots = o₀.slots ∧ (∀ dx, o₀.dict = some dx → o₁.dict = some dx) ∧ (o₀.dict = none → o₁.dict = some h.objs.size)) → R (.ok (.ret .none)) ⟨h', g, d, tk', os⟩) :
    codeAny (model prog w) A (.call (.builtin "object.__setattr__") ⟨[.ref x, .str name tk, v], []⟩) R ⟨h, g, d, t, os⟩ := by
  have SF := PySem.F.store_object
  obtain ⟨cd, hc, ho⟩ := PySem.W.any_some c.ov
  simp only [Bool.and_eq_true] at ho
  obtain ⟨ho, hd'⟩ := ho
  obtain ⟨ox, od, J, _⟩ := inst_at I
  have ne : cd.mro.isEmpty = false := by cases q : cd.mro with | nil => rw [q] at ho; cases ho | cons _ _ => rfl
  have sub : PySem.W.Looks (model prog w) h (isInstance (.ref x) (.type "object")) true := J.type.andThen (PySem.W.looks_mroIn X (by unfold PySem.W.mroIn; rw [hc, Option.bind_some, if_neg (by rw [ne]; decide), overExc_has ho]))
  refine codeAny_call_builtin SF.slot.plain SF.entry (@PySem.W.check_slot (model prog w) _ _ ⟨h, g, d, t, os⟩ "object.__setattr__" "object" "__setattr__" (.ref x) [.str name tk, v] [] _ SF.kind SF.split sub (SF.args (.ref x) (.str name tk) v) ?_)
  obtain ⟨attr, ha, hr⟩ := Option.bind_eq_some_iff.mp ht
  have hm : PySem.W.Looks (model prog w) h (mroOf (.ref C)) cd.mro := (PySem.W.looks_clsIn X hc).andThen .now
  have L3 : PySem.W.Looks (model prog w) h (storeTaker? attr) none := by
    cases attr with
    | none => exact .now
    | some a =>
      obtain ⟨b, hb, e⟩ := Option.map_eq_some_iff.mp hr
      refine (PySem.W.looks_takesIn X hb).andThen ?_
      cases b with
      | true => cases e
      | false => exact .now
  rw [PySem.W.osa_eq, refuse_eq]
  refine wpAny_bind (wpAny_bind (J.type.at (wpAny_bind (hm.at ?_))))
  rw [overExc_passes _ ho]
  refine wpAny_pure (wpAny_bind (J.type.at (wpAny_bind ((PySem.W.looks_findIn X ha).at (wpAny_bind (L3.at ?_))))))
  obtain ⟨o, hx, hcl, hnc, hd⟩ := I
  obtain ⟨oc, odi, oda, osl⟩ := o
  dsimp only at hcl hnc hd
  subst hcl
  refine wpAny_bind (wpAny_pure (wpAny_bind (wpAny_bind (wpAny_loadPart hx (wpAny_bind ((PySem.W.looks_clsIn X hc).at ?_))))))
  rw [hd']
  rcases hd with ⟨hdn, hmA⟩ | ⟨dx, hdx, hne, hns⟩
  · subst hdn
    have hxs : x ≠ h.objs.size := Nat.ne_of_lt (Heap.lt_size hx)
    have hx₁ : (h.push { cls := .type "dict", data := .dict #[] }).get? x = some ⟨.ref C, none, oda, osl⟩ := Heap.get?_push_of_some _ hx
    dsimp only
    rw [if_neg (by simp)]
    split
    · rename_i z; cases z
    split
    · exact absurd rfl (hnc _)
    refine wpAny_bind (wpAny_alloc' (wpAny_bind (wpAny_update' hx₁ (wpAny_pure ?_))))
    have hgd : ((h.push { cls := .type "dict", data := .dict #[] }).update x fun o => { cls := o.cls, dict := some h.objs.size, data := o.data, slots := o.slots }).get? h.objs.size
        = some { cls := .type "dict", data := .dict #[] } := (Heap.get?_update_ne _ _ _ _ hxs.symm).trans (Heap.get?_push_at rfl rfl)
    have hnd : ((h.push { cls := .type "dict", data := .dict #[] }).update x fun o => { cls := o.cls, dict := some h.objs.size, data := o.data, slots := o.slots }).Ns h.objs.size (fun _ => none) :=
      ⟨_, #[], _, hgd, rfl, fun e he => absurd he (by simp), fun _ => rfl⟩
    show wpAny _ _ (storeInDict h.objs.size (.str name tk) name v) _ _ _
    unfold storeInDict newKeyGuard
    refine wpAny_bind (wpAny_pure (wpAny_bind (wpAny_nsSet1 (Heap.Ns1.of_empty hnd) fun h' hn' hs => ?_)))
    obtain ⟨oD, esD, epD, hoD, hdD, hcD⟩ := hn'.count (Within.cons name v Within.nil)
    refine wpAny_bind (wpAny_lookBehind hoD (by rw [hdD]; exact pastItsLine_dict (Nat.le_trans hcD (by rw [List.length_cons, List.length_nil, sizeLine_eq]; omega))) ?_)
    wp_walk
    have hx' : h'.get? x = some ⟨.ref C, some h.objs.size, oda, osl⟩ := by
      refine (hs.2 x hxs).trans (Heap.get?_update_self _ hx₁ ?_)
      have hfr := (Heap.get?_some_iff.mp hx).2
      cases oda <;> first | rfl | exact hfr
    refine hq h' _ ⟨_, hx', rfl, hnc, .inr ⟨h.objs.size, rfl, hxs.symm, ?_⟩⟩ (fun b ob hbx _ hb => ?_)
      (fun o₀ h₀ => by obtain rfl := Option.some.inj (hx.symm.trans h₀); exact ⟨_, hx', rfl, rfl, rfl, fun dx e => (by cases e), fun _ => rfl⟩)
    · obtain ⟨o', es, ep, e1, e2, e3, eu, e4⟩ := hn'
      exact ⟨o', es, ep, e1, e2, e3, eu, fun y => by rw [e4 y]; by_cases hy : y = name <;> simp [hy, hmA]⟩
    · exact (hs.2 b (Nat.ne_of_lt (Heap.lt_size hb))).trans ((Heap.get?_update_ne _ _ _ _ hbx).trans (Heap.get?_push_of_some _ hb))
  · subst hdx
    refine wpAny_pure (a := some dx) (wpAny_bind (wpAny_pure (wpAny_bind ?_)))
    refine wpAny_nsSet1 (s := ⟨h, g, d, t, os⟩) hns fun h' hn' hs => ?_
    obtain ⟨oD, esD, epD, hoD, hdD, hcD⟩ := hn'.count (PySem.Within.cons name v hw)
    refine wpAny_bind (wpAny_lookBehind hoD (by rw [hdD]; exact pastItsLine_dict (Nat.le_trans hcD (by rw [List.length_cons]; omega))) ?_)
    refine wpAny_pure (hq h' _ ⟨_, (hs.2 x hne.symm).trans hx, rfl, hnc, .inr ⟨dx, rfl, hne, hn'⟩⟩ (fun b ob _ hbd hb => ?_) (fun o₀ h₀ => ⟨o₀, (hs.2 x hne.symm).trans h₀, rfl, rfl, rfl, fun _ e => e, fun e => by obtain rfl := Option.some.inj (hx.symm.trans h₀); cases e⟩))
    exact (hs.2 b (hbd _ dx hx rfl)).trans hb
/-- self.f = x, of an own exception -/
theorem xf_set {ns : List Str} {Q : Unit → Shared → Prop} (X : K.In h) (c : XfK K C) (ht : PySem.W.takerIn K C name = some none) (I : h.Inst x C mA) (hw : PySem.Within mA ns) (hsz : ns.length ≤ sizeLine)
    (hq : ∀ h' tk', h'.Inst x C (fun y => if y = name then some v else mA y) →
      (∀ b o, b ≠ x → (∀ o₀ dx, h.get? x = some o₀ → o₀.dict = some dx → b ≠ dx) → h.get? b = some o → h'.get? b = some o) →
      (∀ o₀, h.get? x = some o₀ → ∃ o₁, h'.get? x = some o₁ ∧ o₁.cls = o₀.cls ∧ o₁.data = o₀.data ∧ o₁.slots = o₀.slots ∧ (∀ dx, o₀.dict = some dx → o₁.dict = some dx) ∧ (o₀.dict = none → o₁.dict = some h.objs.size)) → Q () ⟨h', g, d, tk', os⟩) :
    wpAny (model prog w) A (setAttr (.ref x) name v) Q E ⟨h, g, d, t, os⟩ := by
  obtain ⟨ox, od, J, _⟩ := inst_at I
  exact PySem.W.set_plain X J c.sa (xf_store X c ht I hw hsz fun h' tk' a b e => hq h' tk' a b e)
/-- e.f, of an own exception -/
theorem xf_get {ox : Obj} {od : Option Obj} {expr : Bool} {Q : Value → Shared → Prop} (X : K.In h) (c : XfK K C) (J : PySem.W.InstAt h x ox C od) (hf : PySem.W.findObj K C od name = some (.value v)) (hh : PySem.W.handedIn v = true)
    (hq : Q v ⟨h, g, d, t + 1, os⟩) : wpAny (model prog w) A (getAttr (.ref x) name expr) Q E ⟨h, g, d, t, os⟩ := by
  have L := c.xc.lk (M := model prog w) X
  have FB := PySem.F.attr_ValueError
  have hx := J.at_
  have hc := J.cls
  have L0 := J.type (M := model prog w)
  have L1 := PySem.W.looks_find (M := model prog w) X J hf
  have f3 := FB.ga.bind (.ref x)
  have hx0 : (expr && onTheHeap (Value.builtin "BaseException.__getattribute__")) = false := by cases expr <;> rfl
  have hx2 : (Value.builtin "BaseException.__getattribute__" == Value.builtin "object.__getattribute__") = false := by decide +kernel
  have hx1 : (onTheHeap (Value.ref C) && Value.builtin "BaseException.__getattribute__" == Value.builtin "object.__getattribute__") = false := by rw [hx2]; rfl
  unfold getAttr
  repeat (any_goals (first | assumption | (with_reducible refine wpAny_loadPart_at hx ?_; rw [hc]) | with_reducible refine L.ga ?_ | with_reducible refine L.gn ?_ | wp_step))
  refine codeAny_call_builtin FB.ga.plain PySem.F.entry_bexc_ga (xc_check L hx hc ?_)
  refine wpAny_bind (wpAny_pure (wpAny_bind (wpAny_pure (wpAny_bind (L0.at (wpAny_bind (L1.at (wpAny_pure ?_))))))))
  show wpAny _ _ (handedOut v) _ _ _
  rw [PySem.W.handedOut_of hh]
  exact wpAny_pure hq
end
end L2

/-! ### own exceptions with fields: made, read -/
namespace L2
open PySem PySem.Spec PyProof.Rows
/-- an own exception that was just made: no field yet -/
def excN (x C : Addr) : HO := .ext fun h => ∃ a0 vr sl, h.get? x = some ⟨.ref C, none, .fields (.ref a0 :: .none :: vr).toArray, sl⟩
/-- an own exception with its dict at dx -/
def excF (x C dx : Addr) : HO := .ext fun h => ∃ a0 vr sl, h.get? x = some ⟨.ref C, some dx, .fields (.ref a0 :: .none :: vr).toArray, sl⟩
section
variable {X : Cx} {pins : List (Addr × Obj)} {σ : St} {H : Hp} {s : Shared} {a C dx : Addr} {fs : List (Str × V)} {f : Str} {v : V} {A : Around} {E : Value → Shared → Prop}
theorem Inv.size (I : Inv X pins σ H s) : X.s₀.heap.objs.size ≤ s.heap.objs.size := by
  obtain ⟨m, ⟨o, _, _, ho, _⟩, _⟩ := I.loc
  exact Nat.le_of_lt (Nat.lt_of_le_of_lt I.ok.above (Heap.lt_size ho))
/-- a new object, laid by a step that also wrote another one -/
theorem Inv.track_new {s' : Shared} {H' : Hp} {x : Addr} {o : HO} (I : Inv X pins σ H s) (I' : Inv X pins σ H' s') (hx : s.heap.objs.size ≤ x) (hn : H' x = none) (new : ObjOk X.prog X.w (upd H' x o) s'.heap x o) : Inv X pins σ (upd H' x o) s' := by
  have ne : ∀ b u, s.heap.get? b = some u → b ≠ x := fun b u e z => Nat.lt_irrefl _ (Nat.lt_of_lt_of_le (Heap.lt_size e) (z ▸ hx))
  refine I'.track hn (Heap.get?_none_of_le (Nat.le_trans I.size hx)) ?_ (fun y c e => ?_) (fun p hp => ?_) new
  · obtain ⟨m, ⟨o, _, _, ho, _⟩, _⟩ := I.loc
    exact (ne _ _ ho).symm
  · obtain ⟨v, o, ho, _⟩ := I.cell y c e
    exact ne _ _ ho
  · exact ne _ _ (I.pin p hp).1
theorem XfK.dict {K : PySem.W.Frag} {C : Addr} (c : XfK K C) : PySem.W.hasDictIn K C = true := by
  obtain ⟨cd, hc, ho⟩ := PySem.W.any_some c.ov
  simp only [Bool.and_eq_true] at ho
  unfold PySem.W.hasDictIn
  rw [hc]
  exact ho.2
theorem setx_ok {y : V} {u : Value} {Q : Unit → Shared → Prop} (I : Inv X pins σ H s) (e : H a = some (excN a C)) (c : XfK X.K C) (n : NoAttr X.K C f) (ry : RelV y u)
    (h : ∀ dx s', H dx = none → dx ≠ a → Inv X pins σ (upd (upd H a (excF a C dx)) dx (.xd [(f, y)])) s' → Q () s') : wpAny (model X.prog X.w) A (setAttr (.ref a) f u) Q E s := by
  obtain ⟨⟨a0, vr, sl, hx⟩, _, _⟩ := (show ObjOk X.prog X.w H s.heap a (excN a C) from I.hok a _ e)
  obtain ⟨hp, g, d, t, os⟩ := s
  dsimp only at hx
  have inst : hp.Inst a C (fun _ => none) := ⟨_, hx, rfl, fun _ => Data.noConfusion, .inl ⟨rfl, fun _ => rfl⟩⟩
  refine xf_set (ns := []) I.kIn c n.taker inst PySem.Within.nil (Nat.zero_le _) fun h' tk' I' kb ks => ?_
  obtain ⟨o₁, e1, e2, e3, e4, _, e6⟩ := ks _ hx
  have ed := e6 rfl
  obtain ⟨o1c, o1d, o1t, o1s⟩ := o₁
  dsimp only at e2 e3 e4 ed
  subst e2 e3 e4 ed
  have ne : hp.objs.size ≠ a := Nat.ne_of_gt (Heap.lt_size hx)
  have fr : H hp.objs.size = none := I.hok.fresh (Nat.le_refl _)
  have I1 : Inv X pins σ (upd H a (excF a C hp.objs.size)) ⟨h', g, d, tk', os⟩ := by
    refine I.write (x := a) (e := a) (o := excF a C hp.objs.size) (by rw [e]; exact True.intro) (.inl rfl) (fun b o hb z => kb b o hb (fun o₀ dx q r => ?_) z) ⟨_, e1⟩ ?_
    · obtain rfl := Option.some.inj (hx.symm.trans q); cases r
    · exact ⟨⟨_, _, _, e1⟩, ⟨_, e1⟩, fun h1 h2 ⟨x1, x2, x3, z⟩ k => ⟨x1, x2, x3, k _ z⟩⟩
  refine h _ _ fr ne (I.track_new I1 (Nat.le_refl _) (by rw [upd_ne ne]; exact fr) ?_)
  obtain ⟨o2, f1, f2, f3, f4⟩ := I'
  obtain rfl := Option.some.inj (e1.symm.trans f1)
  rcases f4 with ⟨z, _⟩ | ⟨d2, z, _, hn⟩
  · cases z
  · obtain rfl := Option.some.inj (show some hp.objs.size = some d2 from z)
    refine ⟨_, hn, fun g => ?_⟩
    by_cases q : g = f
    · subst q
      rw [if_pos rfl]
      show RelO (List.lookup g [(g, y)]) (some u)
      simp only [List.lookup, beq_self_eq_true]
      exact ry
    · rw [if_neg q]
      have hb : (g == f) = false := beq_eq_false_iff_ne.mpr q
      show RelO (List.lookup g [(f, y)]) none
      simp only [List.lookup, hb]
      exact True.intro
theorem getx_at {b : Bool} {Q : Value → Shared → Prop} {fl : Array Value} {sl : Array (Option Value)} (I : Inv X pins σ H s) (hx : s.heap.get? a = some ⟨.ref C, some dx, .fields fl, sl⟩) (ed : H dx = some (.xd fs)) (c : XfK X.K C) (n : NoAttr X.K C f) (l : fs.lookup f = some v)
    (h : ∀ u s', Inv X pins σ H s' → RelV v u → Q u s') : wpAny (model X.prog X.w) A (getAttr (.ref a) f b) Q E s := by
  obtain ⟨mA, hn, r⟩ := (show ObjOk X.prog X.w H s.heap dx (.xd fs) from I.hok dx _ ed)
  obtain ⟨od, ho, hl⟩ := lookIn_ns hn
  obtain ⟨u, hu, ru⟩ := RelO.some_of (v := v) (o := mA f) (by rw [← l]; exact r f)
  have J : PySem.W.InstAt s.heap a ⟨.ref C, some dx, .fields fl, sl⟩ C (some od) := ⟨hx, rfl, rfl, ho⟩
  obtain ⟨hp, g, d, t, os⟩ := s
  exact xf_get I.kIn c J (PySem.W.findObj_own c.dict n rfl (by rw [hl, hu])) (handed_of ru) (h u _ (I.tok _) ru)
theorem getx_ok {b : Bool} {Q : Value → Shared → Prop} (I : Inv X pins σ H s) (e : H a = some (excF a C dx)) (ed : H dx = some (.xd fs)) (c : XfK X.K C) (n : NoAttr X.K C f) (l : fs.lookup f = some v)
    (h : ∀ u s', Inv X pins σ H s' → RelV v u → Q u s') : wpAny (model X.prog X.w) A (getAttr (.ref a) f b) Q E s := by
  obtain ⟨⟨a0, vr, sl, hx⟩, _, _⟩ := (show ObjOk X.prog X.w H s.heap a (excF a C dx) from I.hok a _ e)
  exact getx_at I hx ed c n l h
end
/-- e.f of an own exception -/
def tFldX (K : PySem.W.Frag) (ta : TE) (f : Str) : TE := fun σ H Q => ta σ H fun x H1 => ∃ a C dx fs v, x = .ref a ∧ H1 a = some (excF a C dx) ∧ H1 dx = some (.xd fs) ∧ XfK K C ∧ NoAttr K C f ∧ fs.lookup f = some v ∧ Q v H1
/-- self.f = value of an own exception, its first field -/
def sFldX (K : PySem.W.Frag) (ta tv : TE) (f : Str) : TS := fun D σ H => tv σ H fun y H1 => ta σ H1 fun x H2 => ∃ a C, x = .ref a ∧ H2 a = some (excN a C) ∧ XfK K C ∧ NoAttr K C f ∧
  ∀ dx, H2 dx = none → dx ≠ a → D.nx σ (upd (upd H2 a (excF a C dx)) dx (.xd [(f, y)]))
section
variable {X : Cx} {e o value : Expr} {f : Str} {pos pos' : Pos} {ta tv : TE}
theorem pe_fldX (he : PE X e ta) (hb : attributeBase e f X.env (eval e X.env) = eval e X.env) : PE X (.Attribute e f pos) (tFldX X.K ta f) := by
  intro pins s σ H Q I h
  refine attr_of hb (thn (he pins s σ H _ I h) fun u s1 ⟨x, H1, I1, rx, a, C, dx, fs, v, ex, ea, ed, c, n, l, q⟩ => ?_)
  subst ex
  obtain rfl : u = Value.ref a := rx
  exact getx_ok I1 ea ed c n l fun u' s2 I2 ru => ⟨v, H1, I2, ru, q⟩
theorem ps_fldX (ha : PE X o ta) (hv : PE X value tv) (hs : swapsWith value (some (.Attribute o f pos')) pos.line X.env = pure false) : PS X (.Assign [.Attribute o f pos'] value pos) (sFldX X.K ta tv f) := by
  intro pins s σ H D I h
  refine plainObj_wpAny_Assign_Attribute (thn (hv pins s σ H _ I h) fun u s1 ⟨y, H1, I1, ry, q⟩ => thn (ha pins s1 σ H1 _ I1 q) fun ov s2 ⟨x, H2, I2, rx, a, C, ex, ea, c, n, q2⟩ => ?_) hs
  subst ex
  obtain rfl : ov = Value.ref a := rx
  exact setx_ok I2 ea c n ry fun dx s3 h1 h2 I3 => ⟨σ, _, I3, q2 dx h1 h2⟩
end
end L2
/-! ### own exceptions with an own __init__: the class, the base's __init__ by hand, C(..) -/
namespace L2
open PySem PySem.Spec PyProof.Rows
/-- an own exception class under ValueError whose own __init__ is the def at f -/
def iniIn (K : PySem.W.Frag) (C f : Addr) : Bool := match K.lookup C with
  | some o => (match o.data with
    | .cls kd => o.cls == .type "type" && kd.mro.head? == some (.ref C) && PySem.W.tailIn K vmro kd.mro.tail && !kd.hasDel && PySem.W.nsOkIn K kd.ns && nsK K kd.ns "__init__" == some (.ref f) && o.slots.size == 6 && o.slots[4]? == some (some (.builtin "ValueError.__new__"))
    | _ => false)
  | none => false
structure ExcIni (K : PySem.W.Frag) (C f : Addr) : Prop where
  ex : ∃ (nm q : Str) (Nn : Addr) (bs bm : List Value) (hdct : Bool) (sn : List Str) (sub : List Value) (ab : Bool) (col : Option Bool) (dd : Option Addr) (k0 k1 k2 k3 k5 : Option Value) (mN : Str → Option Value),
    mN "__init__" = some (.ref f) ∧ ∀ h : Heap, K.In h → h.get? C = some (excClassObj nm q C Nn bs bm hdct sn sub ab col dd k0 k1 k2 k3 k5 "ValueError.__new__") ∧ h.Ns Nn mN ∧ OwnTail h vmro bm
theorem ExcIni.ofIn {K : PySem.W.Frag} {C f : Addr} (z : iniIn K C f = true) : ExcIni K C f := by
  unfold iniIn at z
  split at z
  · rename_i o look
    obtain ⟨oc, od, dt, slo⟩ := o
    dsimp only at z
    split at z
    · rename_i kd
      simp only [Bool.and_eq_true, beq_iff_eq, Bool.not_eq_true'] at z
      obtain ⟨⟨⟨⟨⟨⟨⟨x1, x2⟩, x3⟩, x4⟩, x5⟩, x6⟩, x7⟩, x8⟩ := z
      subst x1
      obtain ⟨g1, g2, g3, g4, g5, g6, g7, g8, g9, g10, g11⟩ := kd
      dsimp only at x2 x3 x4 x5 x6
      obtain ⟨sl⟩ := slo
      obtain ⟨a0, a1, a2, a3, a5, rfl⟩ : ∃ a0 a1 a2 a3 a5, sl = [a0, a1, a2, a3, some (.builtin "ValueError.__new__"), a5] := by
        match sl, x7, x8 with
        | [a0, a1, a2, a3, a4, a5], _, x8 =>
          have e : a4 = some (.builtin "ValueError.__new__") := Option.some.inj (show some a4 = _ from x8)
          subst e
          exact ⟨a0, a1, a2, a3, a5, rfl⟩
      obtain ⟨up, rfl⟩ : ∃ up, g3 = .ref C :: up := by
        cases g3 with
        | nil => cases x2
        | cons v r => cases (show some v = some (Value.ref C) from x2); exact ⟨r, rfl⟩
      subst x4
      refine ⟨⟨g1, g5, g4, g2, up, g6, g7, g8, g9, g10, od, a0, a1, a2, a3, a5, nsK K g4, x6, fun h X => ⟨X _ _ look, ?_, PySem.W.tail_of_in X x3⟩⟩⟩
      rw [← nsK_eq X x5]
      exact .of_isNs (PySem.W.isNs_of_in X x5)
    · cases z
  · cases z
/-- a class whose __init__ is ValueError's, as a thing that is asked for it -/
structure BaseI (K : PySem.W.Frag) (B : Addr) : Prop where
  sp : PySem.W.specialIn K (.ref B) "__getattribute__" = some (some (.builtin "type.__getattribute__"))
  rd : PySem.W.readsIn K B (.type "type") = true
  fi : PySem.W.findCls K (.ref B) (.type "type") "__init__" = some (.val (.builtin "ValueError.__init__"))
/-- B.__init__(self, ..): the new exception's arguments -/
def tBase (K : PySem.W.Frag) (t : TA) : TE := fun σ H Q => t σ H fun vs H1 => ∃ a C f us, vs = .ref a :: us ∧ H1 a = some (excN a C) ∧ ExcIni K C f ∧ us.length ≤ 1000 ∧ Q .non H1
section
variable {X : Cx} {CX : CXT} {k : Nat} {C B f : Addr} {fd : FuncData} {ps : List Str} {sp : Sp} {E : XK} {x : Str} {p pos apos : Pos} {e : Expr} {es : List Expr} {t : TA}
theorem call_base : CallR X (.builtin "ValueError.__init__") (fun xs H Q => ∃ a C f us, xs = .ref a :: us ∧ H a = some (excN a C) ∧ ExcIni X.K C f ∧ us.length ≤ 1000 ∧ Q .non H) := by
  intro pins s σ H xs us Q I r h
  obtain ⟨a, C, f, vs, rfl, ea, c, hz, q⟩ := h
  obtain ⟨nm, q', Nn, bs, bm, hdct, sn, sub, ab, col, dd, k0, k1, k2, k3, k5, mN, hi, hf⟩ := c.ex
  cases r with
  | cons r1 r =>
    rename_i u us
    obtain rfl : u = Value.ref a := r1
    obtain ⟨⟨a0, vr, sl, hx⟩, _, _⟩ := (show ObjOk X.prog X.w H s.heap a (excN a C) from I.hok a _ ea)
    obtain ⟨hC, hn, T⟩ := hf _ I.kIn
    obtain ⟨hp, g, d, t, os⟩ := s
    refine xi_base PySem.F.excBase_ValueError T hC hx rfl rfl (by rw [← r.length, sizeLine_eq]; omega) fun h' tp _ kb e2 => ⟨.non, H, ?_, rfl, q⟩
    have I1 := I.write (x := a) (e := a) (o := excN a C) (h' := h') (t' := t) (by rw [ea]; exact True.intro) (.inl rfl) kb ⟨_, e2⟩ ⟨⟨_, _, _, e2⟩, ⟨_, e2⟩, fun h1 h2 ⟨x1, x2, x3, z⟩ k => ⟨x1, x2, x3, k _ z⟩⟩
    rwa [show upd H a (excN a C) = H from by funext b; by_cases q : b = a <;> simp [upd, q, ea]] at I1
theorem pe_base {pl : Sem Bool} (hg : Gl X x) (hm : X.mg x = some (.ref B)) (b : BaseI X.K B) (ha : PA X (e :: es) t) (hdb : (x == ("__debug__" : Str)) = false := by decide)
    (hst : starEach (e :: es) X.env = (false, eval e X.env) :: starEach es X.env := by rfl) (hpl : (backTo pos (starEach es X.env)).any (·.1) = false := by rfl)
    (ht : eval (.Call (.Attribute (.Name x p) "__init__" apos) (e :: es) [] pos) X.env = (do
      let ov ← eval (.Name x p) X.env
      standAt apos.atName
      let (f, first) ← holding [ov] (getMethod ov "__init__" pl)
      callWith pos f first (backTo pos (starEach (e :: es) X.env)) (backToKw pos (keywordEach [] X.env))) := by rfl) :
    PE X (.Call (.Attribute (.Name x p) "__init__" apos) (e :: es) [] pos) (tBase X.K t) := by
  intro pins s σ H Q I h
  refine PySem.W.methodCall_KW (pl := pl) (ld_glob I hg hm ?_ hdb) ht
  refine PySem.W.method_cls I.kIn b.sp (PySem.W.cls_value I.kIn b.rd b.fi rfl ?_)
  have hA := ha pos pins _ σ H _ (I.tok (s.toks + 1)) h
  rw [hst] at hA ⊢
  refine Calls.callWith_builtin (by show (false || (backTo pos (starEach es X.env)).any (·.1)) = false; rw [hpl] <;> rfl) (Calls.evalArgs_plain ?_)
  exact thn hA fun us s2 ⟨vs, H2, I2, r2, q2⟩ => call_base pins s2 σ H2 vs us Q I2 r2 q2
end
end L2
namespace L2
open PySem PySem.Spec PyProof.Rows
/-- an own exception class with an __init__ of its own, to be called -/
structure MkX (K : PySem.W.Frag) (C f : Addr) : Prop where
  ini : ExcIni K C f
  fn : PySem.W.isFn K (.ref f) = true
  kp : PySem.W.keepIn K (.ref C) = true
def tMakeX (C : Addr) (sp : Sp) (E : XK) (t : TA) : TE := fun σ H Q => t σ H fun vs H1 => vs.length ≤ 1000 ∧ ∀ x, H1 x = none → sp (.ref x :: vs) (upd H1 x (excN x C)) (fun v H2 => v = .non ∧ Q (.ref x) H2) E
section
variable {X : Cx} {CX : CXT} {k : Nat} {C f : Addr} {fd : FuncData} {ps : List Str} {sp : Sp} {E : XK} {x : Str} {p pos : Pos} {e : Expr} {es : List Expr} {t : TA}
theorem run_makeX {pins : List (Addr × Obj)} {σ : St} {H : Hp} {s : Shared} {Q : VK} {us : List Value} {vs : List V} (M : MkX X.K C f) (F : FnOk X.prog X.w X.K X.mg X.base CX k f fd ps sp) (hr : Room (k + 1) X.A) (hb : Binds X.K fd ps [])
    (hx : Passes CX X E) (I : Inv X pins σ H s) (r : Vals vs us) (hz : vs.length ≤ 1000)
    (h : ∀ x, H x = none → X.s₀.heap.get? x = none → sp (.ref x :: vs) (upd H x (excN x C)) (fun v H2 => v = .non ∧ Q (.ref x) H2) E) :
    wpAny (model X.prog X.w) X.A (call (.ref C) us) (EP X pins σ Q) X.xe s := by
  obtain ⟨nm, q', Nn, bs, bm, hdct, sn, sub, ab, col, dd, k0, k1, k2, k3, k5, mN, hi, hf⟩ := M.ini.ex
  obtain ⟨hC, hn, T⟩ := hf _ I.kIn
  obtain ⟨fo, lf, hfc⟩ : ∃ fo, X.K.lookup f = some fo ∧ fo.cls = .type "function" := by
    have z := beq_iff_eq.mp M.fn
    exact Option.map_eq_some_iff.mp z
  obtain ⟨hp, g, d, t, os⟩ := s
  refine xi_call PySem.F.excBase_ValueError T hC hn hi (I.kIn _ _ lf) hfc (fun h' e hs made => ?_) (by rw [← r.length, sizeLine_eq]; omega)
  obtain ⟨tp, e1, _, _⟩ := made.there
  have I2 : Inv X pins σ (upd H e (excN e C)) ⟨h', g, d, t, os⟩ := I.laid (t' := t) made.keeps hs ⟨⟨_, _, _, e1⟩, ⟨_, e1⟩, fun h1 h2 ⟨x1, x2, x3, z⟩ k => ⟨x1, x2, x3, k _ z⟩⟩
  have hq := h e (I.hok.fresh hs) (Heap.get?_none_of_le (Nat.le_trans I.size hs))
  have r2 : Vals (V.ref e :: vs) (Value.ref e :: us) := .cons rfl r
  have hl : (Value.ref e :: us ++ []).length = ps.length := by
    have e := r2.length
    rw [F.len _ _ _ _ hq] at e
    rw [List.append_nil]
    exact e.symm
  have hb2 := hb ⟨h', g, d, t, os⟩ (Value.ref e :: us) I2.kIn hl
  rw [List.append_nil] at hb2
  refine wpAny_call (codeAny_mono (F.run _ X.stack _ _ ⟨Value.ref e :: us, []⟩ (Value.ref e :: us) _ _ E (hr.make C us []) (I2.env0.make C us []) hb2 r2 hq) fun r s' hq' => ?_)
  cases r with
  | error e => exact hx pins σ _ _ e s' I2 hq'
  | ok fl =>
    cases fl with
    | ret u =>
      obtain ⟨v, H', I3, rv, ev, q3⟩ := I2.after hq'
      subst ev
      exact ⟨rv, ⟨V.ref e, H', I3, rfl, q3⟩⟩
    | next => exact False.elim hq'
    | brk => exact False.elim hq'
    | cont => exact False.elim hq'
theorem pe_makeX (M : MkX X.K C f) (F : FnOk X.prog X.w X.K X.mg X.base CX k f fd ps sp) (hr : Room (k + 1) X.A) (hg : Gl X x) (hm : X.mg x = some (.ref C)) (hb : Binds X.K fd ps []) (hx : Passes CX X E)
    (ha : PA X (e :: es) t) (hdb : (x == ("__debug__" : Str)) = false := by decide) (he : starEach (e :: es) X.env = (false, eval e X.env) :: starEach es X.env := by rfl) (hpl : (backTo pos (starEach es X.env)).any (·.1) = false := by rfl) :
    PE X (.Call (.Name x p) (e :: es) [] pos) (tMakeX C sp E t) := by
  intro pins s σ H Q I h
  refine wpAny_Call_Name_kw (ld_glob I hg hm ?_ hdb)
  refine PySem.W.callWith_K (h₀ := X.base) I.ok.mod.kin M.kp (thn (ha pos pins s σ H _ I h) fun us s1 ⟨vs, H1, I1, r, hz, q⟩ => ⟨I1.kIn, ?_⟩) he hpl
  exact run_makeX M F hr hb hx I1 r hz fun x hn _ => q x hn
end
end L2
namespace L2
open PySem PySem.Spec PyProof.Rows
def tMakeX0 (C : Addr) (t : TA) : TE := fun σ H Q => t σ H fun vs H1 => vs.length ≤ 1000 ∧ ∀ x, H1 x = none → Q (.ref x) (upd H1 x (excN x C))
section
variable {X : Cx} {C : Addr} {x : Str} {p pos : Pos} {e : Expr} {es : List Expr} {t : TA}
/-- C(..), C an own exception class without __init__ -/
theorem pe_makeX0 (c : ExcCls X.K C) (kp : PySem.W.keepIn X.K (.ref C) = true) (hex : X.ex = []) (hg : Gl X x) (hm : X.mg x = some (.ref C))
    (ha : PA X (e :: es) t) (hdb : (x == ("__debug__" : Str)) = false := by decide) (he : starEach (e :: es) X.env = (false, eval e X.env) :: starEach es X.env := by rfl) (hpl : (backTo pos (starEach es X.env)).any (·.1) = false := by rfl) :
    PE X (.Call (.Name x p) (e :: es) [] pos) (tMakeX0 C t) := by
  intro pins s σ H Q I h
  refine wpAny_Call_Name_kw (ld_glob I hg hm ?_ hdb)
  refine PySem.W.callWith_K (h₀ := X.base) I.ok.mod.kin kp (thn (ha pos pins s σ H _ I h) fun us s1 ⟨vs, H1, I1, r, hz, q⟩ => ⟨I1.kIn, ?_⟩) he hpl
  obtain ⟨nm, q', Nn, bs, bm, bmB, hdct, sn, sub, ab, col, dd, k0, k1, k2, k3, k5, B, newId, initId, mN, F, _, hni, hf⟩ := c.ex
  obtain ⟨hC, hn, T⟩ := hf _ I1.kIn
  obtain ⟨hp, g, d, t, os⟩ := s1
  refine wpAny_call_exc_subT F T hC hn hni (fun h' y made => ?_) (by rw [List.nil_append, ← r.length, sizeLine_eq]; omega)
  obtain ⟨tp, e1, _, _⟩ := made.there
  have nw : hp.get? y = none := made.new
  have hn : H1 y = none := by
    cases z : H1 y with
    | none => rfl
    | some o =>
      obtain ⟨ob, w⟩ := (I1.hok y o z).some_at
      rw [show hp.get? y = some ob from w] at nw
      cases nw
  have ne : ∀ b u, hp.get? b = some u → b ≠ y := fun b u w z => by rw [z, nw] at w; cases w
  have I2 : Inv X pins σ H1 ⟨h', g, d, t, os⟩ := I1.kept (t' := t) made.keeps
  refine ⟨.ref y, upd H1 y (excN y C), I2.track hn ?_ ?_ (fun z c e => ?_) (fun p hp => ?_) ⟨⟨_, _, _, e1⟩, ⟨_, e1⟩, fun h1 h2 ⟨x1, x2, x3, z⟩ k => ⟨x1, x2, x3, k _ z⟩⟩, rfl, q y hn⟩
  · cases z : X.s₀.heap.get? y with
    | none => rfl
    | some o =>
      obtain ⟨o', w⟩ := I1.base.there y o z (by rw [hex]; simp)
      exact absurd rfl (ne _ _ w)
  · obtain ⟨m, ⟨o, _, _, ho, _⟩, _⟩ := I1.loc
    exact (ne _ _ ho).symm
  · obtain ⟨v, o, ho, _⟩ := I1.cell z c e
    exact ne _ _ ho
  · exact ne _ _ (I1.pin p hp).1
end
/-- an own exception that is at hand: new, or with its field -/
def ExcAtH (H : Hp) (y C : Addr) : Prop := H y = some (excN y C) ∨ ∃ dx, H y = some (excF y C dx)
/-- isinstance(e, c), e an own exception that was made -/
theorem call_isiY {X : Cx} {K : PySem.W.Frag} (hK : X.K = K) : CallR X (.builtin "isinstance") (fun xs H Q => ∃ y C c b, xs = [.ref y, c] ∧ ExcAtH H y C ∧ XcK K C ∧ isiE K C c b ∧ Q (.bl b) H) := by
  subst hK
  intro pins s σ H xs us Q I r h
  obtain ⟨y, C, c, b, rfl, hy, x, hc, q⟩ := h
  obtain ⟨u, w', rfl, rx, ry⟩ := vals2 r
  cases rx
  have p : ExcHere y C s.heap := by
    rcases hy with z | ⟨dx, z⟩
    · obtain ⟨⟨_, _, _, w⟩, _⟩ := I.hok y _ z
      exact ⟨_, w, rfl⟩
    · obtain ⟨⟨_, _, _, w⟩, _⟩ := I.hok y _ z
      exact ⟨_, w, rfl⟩
  have fin : ∀ tk, EP X pins σ Q (.bool b) { s with toks := tk } := fun tk => ⟨.bl b, H, I.tok tk, rfl, q⟩
  cases c with
  | ref D => cases ry; exact PySem.W.kia_one (kitx_exc x) I.kIn p hc (by intro e; cases e) fin
  | ty T => cases ry; exact PySem.W.kia_one (kitx_exc x) I.kIn p hc (by intro e; cases e) fin
  | _ => exact (show False from hc).elim
end L2
/-! ### what is asked of an own exception class, in one look -/
namespace L2
open PySem
def xcIn (K : PySem.W.Frag) (C : Addr) : Bool := (PySem.W.clsIn K C).isSome && PySem.W.findIn K (.ref C) "__getattribute__" == some (some (.builtin "BaseException.__getattribute__")) && PySem.W.findIn K (.ref C) "__getattr__" == some none &&
  PySem.W.findIn K (.ref C) "__class__" == some (some (.builtin "object.__class__")) && PySem.W.subIn K (.ref C) (.type "object") == some true && PySem.W.subIn K (.ref C) (.type "BaseException") == some true
theorem XcK.ofIn {K : PySem.W.Frag} {C : Addr} (h : xcIn K C = true) : XcK K C := by
  simp only [xcIn, Bool.and_eq_true, beq_iff_eq] at h
  obtain ⟨⟨⟨⟨⟨a, b⟩, c⟩, d⟩, e⟩, f⟩ := h
  exact ⟨a, b, c, d, e, f⟩
def xfIn (K : PySem.W.Frag) (C : Addr) : Bool := xcIn K C && PySem.W.findIn K (.ref C) "__setattr__" == some (some (.builtin "object.__setattr__")) && (PySem.W.clsIn K C).any (fun cd => overExc cd.mro && cd.hasDict)
theorem XfK.ofIn {K : PySem.W.Frag} {C : Addr} (h : xfIn K C = true) : XfK K C := by
  simp only [xfIn, Bool.and_eq_true, beq_iff_eq] at h
  obtain ⟨⟨a, b⟩, c⟩ := h
  exact ⟨.ofIn a, b, c⟩
/-- classes that are apart, all under B and ValueError -/
def tabIn (K : PySem.W.Frag) (cs : List Addr) (B : Addr) : Bool := (List.range cs.length).all fun i => PySem.W.kitOne K (.ref (cs.getD i 0)) (.ref B) == some true && PySem.W.kitOne K (.ref (cs.getD i 0)) (.type "ValueError") == some true &&
  (List.range cs.length).all fun j => PySem.W.kitOne K (.ref (cs.getD i 0)) (.ref (cs.getD j 0)) == some (decide (i = j))
theorem tab_of {K : PySem.W.Frag} {cs : List Addr} {B : Addr} (h : tabIn K cs B = true) {i : Nat} (hi : i < cs.length) :
    PySem.W.kitOne K (.ref (cs.getD i 0)) (.ref B) = some true ∧ PySem.W.kitOne K (.ref (cs.getD i 0)) (.type "ValueError") = some true ∧ ∀ j, j < cs.length → PySem.W.kitOne K (.ref (cs.getD i 0)) (.ref (cs.getD j 0)) = some (decide (i = j)) := by
  have z := List.all_eq_true.mp h i (List.mem_range.mpr hi)
  simp only [Bool.and_eq_true, beq_iff_eq] at z
  exact ⟨z.1.1, z.1.2, fun j hj => beq_iff_eq.mp (List.all_eq_true.mp z.2 j (List.mem_range.mpr hj))⟩
theorem ExcAtH.same {H H' : Hp} {y C : Addr} (h : ExcAtH H y C) (s : Same H H') : ExcAtH H' y C := h.elim (fun z => .inl (s _ _ z)) fun ⟨dx, z⟩ => .inr ⟨dx, s _ _ z⟩
end L2

/-! ### own rules: exceptions with fields in flight: no step of a flight moves a dict -/
namespace L2
open PySem
/-- no step of the tree moves an object's dict, and none calls -/
def Still {α : Type} : Sem α → Prop
  | .rule _ k | .at _ k | .point _ k => Still (k ())
  | .load _ _ k => ∀ o, Still (k o)
  | .update _ _ f k => (∀ o, (f o).dict = o.dict) ∧ Still (k ())
  | .loadIfAlive _ k => ∀ o, Still (k o)
  | .alloc _ k => ∀ a, Still (k a)
  | .fresh k => ∀ t, Still (k t)
  | .ask k => ∀ x, Still (k x)
  | .choose _ _ k => ∀ n, Still (k n)
  | .os _ _ k => ∀ r, Still (k r)
  | .handled _ k => ∀ x, Still (k x)
  | .genState _ k => ∀ x, Still (k x)
  | .newGen _ k => ∀ x, Still (k x)
  | .stack k => ∀ x, Still (k x)
  | .thread k => ∀ x, Still (k x)
  | .call .. | .resume .. => False
  | .pure _ | .raise _ | .unsupported _ | .finish _ | .register .. | .yield .. | .fork .. | .await .. => True
/-- each object has its dict still -/
def DK (h h' : Heap) : Prop := ∀ (b : Nat) (o : Obj), h.objs[b]? = some o → ∃ o', h'.objs[b]? = some o' ∧ o'.dict = o.dict
theorem DK.push {h h' : Heap} (x : DK h h') (u : Obj) : DK h (h'.push u) := fun b o e => by
  obtain ⟨o', e1, e2⟩ := x b o e
  have hb : b < h'.objs.size := (Array.getElem?_eq_some_iff.mp e1).1
  exact ⟨o', by show (h'.objs.push u)[b]? = some o'; rw [Array.getElem?_push_lt hb]; exact e1 ▸ (Array.getElem?_eq_getElem hb).symm, e2⟩
theorem DK.update {h h' : Heap} (x : DK h h') (a : Addr) {f : Obj → Obj} (hf : ∀ o, (f o).dict = o.dict) : DK h (h'.update a f) := fun b o e => by
  obtain ⟨o', e1, e2⟩ := x b o e
  show ∃ u, (h'.objs.modify a f)[b]? = some u ∧ u.dict = o.dict
  rw [Array.getElem?_modify]
  by_cases q : a = b
  · rw [if_pos q, e1]; exact ⟨f o', rfl, (hf o').trans e2⟩
  · rw [if_neg q]; exact ⟨o', e1, e2⟩
theorem still_wp {α : Type} (M : Model) (Γ : Ctx) {Q : α → Pos → Shared → Prop} {E : Value → Pos → Shared → Prop} (t : Sem α) : ∀ (p : Pos) (s : Shared) (h0 : Heap), Still t → DK h0 s.heap → Sem.wp M Γ t Q E p s → Sem.wp M Γ t (fun a p' s' => Q a p' s' ∧ DK h0 s'.heap) E p s := by
  induction t with
  | pure x => intro p s h0 _ d h; exact ⟨h, d⟩
  | raise v => intro p s h0 _ d h; exact h
  | unsupported | finish | yield | fork | await | register => intro p s h0 _ d h; exact h
  | rule _ k ih | «at» _ k ih | point _ k ih => intro p s h0 x d h; exact ih _ _ _ _ x d h
  | loadIfAlive _ k ih | fresh k ih | ask k ih | os _ _ k ih | handled _ k ih | newGen _ k ih | stack k ih | thread k ih => intro p s h0 x d h; exact ih _ _ _ _ (x _) d h
  | alloc o k ih => intro p s h0 x d h; exact ih _ _ _ _ (x _) (d.push o) h
  | load a _ k ih | genState a k ih => intro p s h0 x d h; obtain ⟨o, ho, h⟩ := h; exact ⟨o, ho, ih _ _ _ _ (x _) d h⟩
  | update a _ f k ih => intro p s h0 x d h; exact ⟨h.1, ih _ _ _ _ x.2 (d.update a x.1) h.2⟩
  | choose _ _ k ih => intro p s h0 x d h; exact ⟨h.1, ih _ _ _ _ (x _) d h.2⟩
  | call c h g l k ih => intro p s h0 x; exact x.elim
  | resume g r l k ih => intro p s h0 x; exact x.elim
theorem DK.refl (h : Heap) : DK h h := fun b o e => ⟨o, e, rfl⟩
theorem still_any {α : Type} {M : Model} {A : Around} {t : Sem α} {Q : α → Shared → Prop} {E : Value → Shared → Prop} {s : Shared} (x : Still t) (h : wpAny M A t Q E s) : wpAny M A t (fun a s' => Q a s' ∧ DK s.heap s'.heap) E s :=
  fun Γ p hΓ => still_wp M Γ t p s s.heap x (DK.refl _) (h Γ p hΓ)
theorem still_bind {α β : Type} {m : Sem α} {f : α → Sem β} (h1 : Still m) (h2 : ∀ a, Still (f a)) : Still (m >>= f) := by
  show Still (m.bind f)
  induction m with
  | pure x => exact h2 x
  | raise _ | unsupported _ | finish _ | register _ _ | yield _ _ _ _ | fork _ _ | await _ _ _ _ _ => exact True.intro
  | rule _ k ih | «at» _ k ih | point _ k ih => exact ih _ h1
  | loadIfAlive _ k ih | fresh k ih | ask k ih | os _ _ k ih | handled _ k ih | newGen _ k ih | stack k ih | thread k ih | alloc _ k ih | load _ _ k ih | genState _ k ih | choose _ _ k ih => exact fun o => ih o (h1 o)
  | update a _ f k ih => exact ⟨h1.1, ih _ h1.2⟩
  | call c h g l k ih => exact h1
  | resume g r l k ih => exact h1
theorem still_pure {α : Type} {a : α} : Still (Pure.pure a : Sem α) := True.intro
theorem still_uns {α : Type} {w : String} : Still (unsupported w : Sem α) := True.intro
theorem still_load {a : Addr} : Still (load a) := fun _ => True.intro
theorem still_stack : Still stack := fun _ => True.intro
theorem still_field {v : Value} {i : Nat} : Still (field v i) := by
  unfold field fieldsOf
  refine still_bind ?_ fun x => ?_
  · split
    · exact still_bind still_load fun o => by split <;> first | exact still_pure | exact still_uns
    · exact still_uns
  · split <;> first | exact still_pure | exact still_uns
theorem dict_mapFields (f : Array Value → Array Value) (o : Obj) : (Obj.mapFields f o).dict = o.dict := by
  unfold Obj.mapFields; split <;> rfl
theorem still_setField {v : Value} {i : Nat} {x : Value} : Still (setField v i x) := by
  unfold setField updateField
  split
  · refine still_bind still_load fun o => ?_
    split
    · split
      · exact ⟨dict_mapFields _, True.intro⟩
      · exact still_uns
    · exact still_uns
  · exact still_uns
theorem still_setFlight {e : Value} {f : Option Addr} : Still (setFlight e f) := by
  unfold setFlight
  refine still_bind still_field fun tb => ?_
  split
  · exact still_setField
  · exact still_pure
theorem still_place {f : Addr} {b : Bool} : Still (entryPlaceOf f b) := by
  unfold entryPlaceOf
  exact still_bind still_stack fun a => by split <;> exact still_pure
theorem still_entry {a b c d e : Value} {l : List Value} : Still (EntryCells.newEntry a b c d e l) := by
  unfold EntryCells.newEntry newFields newObj newObjAsIs
  dsimp only
  split <;> split <;> first | exact True.intro | exact fun _ => True.intro
theorem still_envs : Still frameEnvs := by unfold frameEnvs; exact still_bind still_stack fun _ => still_pure
theorem still_import {e : Env} {l : List Env} : Still (behindIsImport e l) := by
  unfold behindIsImport
  split
  · exact still_pure
  · split
    · exact still_pure
    · exact still_bind still_field fun _ => still_pure
theorem still_back {e : Env} {b : Bool} : ∀ {l : List Env}, Still (keptBack e b l)
  | [] => by
    rw [keptBack]
    unfold underTheClaimsCaller
    split
    · exact still_pure
    · exact still_bind (still_bind still_stack fun _ => still_pure) fun _ => still_pure
  | _ :: _ => by rw [keptBack]; exact still_pure
theorem still_ready : ∀ {l : List Env}, Still (readyFrames l)
  | [] => by unfold readyFrames; exact still_pure
  | e :: l => by
    unfold readyFrames
    split
    · refine still_bind still_load fun o => ?_
      split
      · exact still_pure
      · refine still_bind still_import fun i => still_bind still_back fun b => ?_
        exact still_bind (⟨fun _ => rfl, True.intro⟩) fun _ => still_ready
    · exact still_uns
theorem still_frame {e : Env} : Still (frameOf e) := by
  unfold frameOf
  refine still_bind still_envs fun l => still_bind ?_ fun o => ?_
  · unfold frameObject
    split
    · exact still_pure
    · exact still_bind still_ready fun _ => still_pure
  · split
    · exact still_pure
    · exact still_uns
theorem still_note {e : Value} {env : Env} : Still (noteFrame e env) := by
  unfold noteFrame
  split
  · refine still_bind still_field fun hd => ?_
    have tail : ∀ x : Value, Still (do setField e 1 (← EntryCells.newEntry hd (← frameOf env) .none x .none (← entryPlaceOf (env.frame.getD 0) (hd != .none)))) := fun x =>
      still_bind still_frame fun _ => still_bind still_place fun _ => still_bind still_entry fun _ => still_setField
    split
    · refine still_bind still_field fun x => ?_
      split
      · exact still_pure
      · refine still_bind still_setField fun _ => ?_
        exact still_bind still_frame fun _ => still_bind still_place fun _ => still_bind still_entry fun _ => still_setField
    · exact still_bind still_frame fun _ => still_bind still_place fun _ => still_bind still_entry fun _ => still_setField
  · exact still_uns
theorem still_leaving {e : Value} {env : Env} : Still (leaving env e) := by
  unfold leaving
  exact still_bind still_note fun _ => still_setFlight
end L2
/-! ### exceptions with fields: raised, passed on, caught by one of several handlers -/
namespace L2
open PySem PySem.Spec PyProof.Rows
/-- the dict of the object at x -/
def DictAt (h : Heap) (x : Addr) (d : Option Addr) : Prop := ∃ o, h.get? x = some o ∧ o.dict = d
theorem objs_of_get {h : Heap} {x : Addr} {o : Obj} (e : h.get? x = some o) : h.objs[x]? = some o := by
  unfold Heap.get? at e
  split at e
  · cases e
  · exact e
theorem DictAt.on {h h' : Heap} {x : Addr} {d : Option Addr} {o' : Obj} (a : DictAt h x d) (k : DK h h') (e : h'.get? x = some o') : DictAt h' x d := by
  obtain ⟨o, e1, e2⟩ := a
  obtain ⟨o2, e3, e4⟩ := k x o (objs_of_get e1)
  cases (objs_of_get e).symm.trans e3
  exact ⟨_, e, e4.trans e2⟩
/-- a heap's ledger less one thing -/
def del (H : Hp) (x : Addr) : Hp := fun b => if b = x then none else H b
theorem del_ne {H : Hp} {x b : Addr} (h : b ≠ x) : del H x b = H b := if_neg h
theorem del_some {H : Hp} {x b : Addr} {o : HO} (h : del H x b = some o) : b ≠ x ∧ H b = some o := by
  unfold del at h
  split at h
  · cases h
  · rename_i n; exact ⟨n, h⟩
theorem un_del {fs ex : List Addr} {H H1 : Hp} {h h1 : Heap} {x : Addr} {φ : Heap → Prop} (u : Un fs ex H H1 h h1) (e : H1 x = some (.ext φ)) : Un fs ex H (del H1 x) h h1 := by
  have ne : ∀ b o, H1 b = some o → (∀ φ, o ≠ .ext φ) → del H1 x b = some o := fun b o q n => by
    rw [del_ne]; exact q
    rintro rfl
    rw [e] at q
    exact n φ (Option.some.inj q).symm
  refine ⟨u.keep, u.slot, fun b o q n hx => ?_, u.there, fun b xs q => ne _ _ (u.tups b xs q) (by intro _ z; cases z), fun b o v q => ne _ _ (u.frzs b o v q) (by intro _ z; cases z), fun b ps q => ?_⟩
  · unfold del
    split
    · rfl
    · exact u.free b o q n hx
  · obtain ⟨m, z⟩ := u.tbls b ps q
    exact ⟨m, ne _ _ z (by intro _ z; cases z)⟩
/-- an exception behind a call, with the dict that it has -/
def CX2 (P : Program) (w : World) : CXT := fun outer H s E e s' => ∃ (x : Addr) (cls a0 : Value) (H' : Hp) (B : Heap) (d : Option Addr), e = .ref x ∧ s'.os = s.os ∧ AllBare s'.gens ∧ Heap.FlyingW B outer x cls a0 s'.heap ∧ DictAt s'.heap x d ∧ HOk P w H' B ∧
  Un (frs outer) [] H H' s.heap s'.heap ∧ (∀ b o, s.heap.get? b = some o → b ∉ frs outer → ∃ o', B.get? b = some o') ∧ E cls d H'
/-- as un_fly, where only what was there at first need be in B -/
theorem un_fly2 {fs : List Addr} {H H1 H2 : Hp} {h h1 h2 h3 B : Heap} {L : Addr} (u1 : Un fs [] H H1 h h1) (u2 : Un (L :: fs) [] H1 H2 h1 h2) (hL : ∀ b o, h.get? b = some o → b ≠ L)
    (inB : ∀ b o, h.get? b = some o → b ∉ fs → ∃ o', B.get? b = some o') (st2 : B.StaysIn h2) (st3 : B.StaysIn h3) (up : h2.UpToSlots h3)
    (fd : ∀ b o, h2.get? b = some o → b ∈ fs → ∀ vs, o.data ≠ .fields vs) : Un fs [] H H2 h h3 := by
  have out : ∀ b o, h.get? b = some o → b ∉ fs → b ∉ L :: fs := fun b o q hb z => (List.mem_cons.mp z).elim (hL b o q) hb
  have go : ∀ b o, h2.get? b = some o → (∃ o', B.get? b = some o') → h3.get? b = some o := fun b o q ⟨o', q'⟩ => by
    have z := st2 b o' q'
    rw [q] at z
    cases z
    exact st3 b _ q'
  refine ⟨fun b o q n hb hx => ?_, fun b o q n hb hx => ?_, fun b o q n hx => ?_, fun b o q hx => ?_, fun b xs q => u2.tups b xs (u1.tups b xs q), fun b o xs q => u2.frzs b o xs (u1.frzs b o xs q), fun b ps q => ?_⟩
  · have k1 := u1.keep b o q n hb hx
    exact go b o (u2.keep b o k1 (u1.free b o q n hx) (out b o q hb) hx) (inB b o q hb)
  · obtain ⟨sl, k1⟩ := u1.slot b o q n hb hx
    obtain ⟨sl2, k2⟩ := u2.slot b _ k1 (u1.free b o q n hx) (List.mem_cons_of_mem _ hb) hx
    obtain ⟨sl3, k3⟩ := up b _ k2 (fd b _ k2 hb)
    exact ⟨sl3, k3⟩
  · obtain ⟨o', k1⟩ := u1.there b o q hx
    exact u2.free b o' k1 (u1.free b o q n hx) hx
  · obtain ⟨o1, k1⟩ := u1.there b o q hx
    obtain ⟨o2, k2⟩ := u2.there b o1 k1 hx
    by_cases hb : b ∈ fs
    · obtain ⟨sl3, k3⟩ := up b _ k2 (fd b _ k2 hb)
      exact ⟨_, k3⟩
    · exact ⟨o2, go b o2 k2 (inB b o q hb)⟩
  · obtain ⟨m1, e1⟩ := u1.tbls b ps q
    obtain ⟨m2, e2⟩ := u2.tbls b _ e1
    exact ⟨m1 ++ m2, by rw [e2, Array.append_assoc]⟩
section
variable {P : Program} {w : World} {K : PySem.W.Frag} {mg : Str → Option Value} {base : Heap} {N : List Str} {qual : Str} {scope : Scope} {f : Addr} {cd : Value} {A : Around} {outer : List Env} {s : Shared} {H : Hp} {E : XK}
/-- a callee's exception passes a def that has no try around it -/
theorem pass2 {E' : XK} (hE : ∀ c d H', E' c d H' → E c d H') : Passes (CX2 P w) (cxOf (CX2 P w) P w K mg base N qual scope f cd A outer s H E) E' := by
  intro pins σ H1 s1 e s' I c
  obtain ⟨x, cls, a0, H', B, d, rfl, hos, hg, fl, da, hok, un, inB, hE'⟩ := c
  have go := still_any still_leaving (wpAny_leaves_onW (M := model P w) (E := fun e' s'' => CX2 P w outer H s E e' s'') (Q := fun _ s2 => ∃ h', s2 = { s' with heap := h' } ∧ Heap.FlyingW B outer x cls a0 h' ∧ s'.heap.UpToSlots h') I.ok.frames rfl fl fun h' fl' up => ⟨h', rfl, fl', up⟩)
  refine wpAny_mono go (fun _ s2 q => ?_) fun _ _ z => z
  obtain ⟨⟨h', rfl, fl', up⟩, dk⟩ := q
  obtain ⟨ob, hob, _⟩ := fl'.there
  have nL : ∀ b o, s.heap.get? b = some o → b ≠ s.heap.objs.size := fun b o q => Nat.ne_of_lt (Heap.lt_size q)
  have fd : ∀ b o, s'.heap.get? b = some o → b ∈ frs outer → ∀ vs, o.data ≠ .fields vs := fun b o q hb => by
    obtain ⟨_, _, ff, _⟩ := fl
    have hb' : b ∈ frs (envOfC qual scope s.heap.objs.size f cd :: outer) := List.mem_cons_of_mem _ hb
    obtain ⟨_, o', q', d⟩ := ff.mem hb'
    rw [q] at q'
    cases q'
    exact d
  have inB' : ∀ b o, s.heap.get? b = some o → b ∉ frs outer → ∃ o', B.get? b = some o' := fun b o q hb => by
    obtain ⟨o1, k1⟩ := I.base.there b o q (by simp [cxOf])
    exact inB b o1 k1 fun z => (List.mem_cons.mp z).elim (nL b o q) hb
  exact ⟨x, cls, a0, H', B, d, rfl, hos.trans I.os, hg, fl', da.on dk hob, hok, un_fly2 (L := s.heap.objs.size) I.base un nL inB' fl.1 fl'.1 up fd, inB', hE _ _ _ hE'⟩
/-- an own exception with its field leaves the def that raises it -/
theorem raise2 {pins : List (Addr × Obj)} {σ : St} {H1 : Hp} {s1 : Shared} {x C dx : Addr} (I : Inv (cxOf (CX2 P w) P w K mg base N qual scope f cd A outer s H E) pins σ H1 s1)
    (ex : H1 x = some (excF x C dx)) (hn : s.heap.get? x = none) (hE : E (.ref C) (some dx) (del H1 x)) : (cxOf (CX2 P w) P w K mg base N qual scope f cd A outer s H E).xe (.ref x) s1 := by
  obtain ⟨⟨a0, vr, sl, hx⟩, _, _⟩ := (show ObjOk P w H1 s1.heap x (excF x C dx) from I.hok x _ ex)
  have nL : ∀ b o, s.heap.get? b = some o → b ≠ s.heap.objs.size := fun b o q => Nat.ne_of_lt (Heap.lt_size q)
  have hmem : ∀ env ∈ (envOfC qual scope s.heap.objs.size f cd :: outer), ∀ b, env.frame = some b → b ∈ x :: frs (envOfC qual scope s.heap.objs.size f cd :: outer) := fun env he b hb => List.mem_cons_of_mem _ (List.mem_filterMap.mpr ⟨env, he, hb⟩)
  have stk := I.stack
  have xf : x ∉ frs (envOfC qual scope s.heap.objs.size f cd :: outer) := fun hm => by
    have z := I.stkFree x hm
    rw [ex] at z; cases z
  have inB : ∀ b o, s.heap.get? b = some o → b ∉ frs outer → ∃ o', (PySem.W.hideAll s1.heap (x :: frs (envOfC qual scope s.heap.objs.size f cd :: outer))).get? b = some o' := fun b o q hb => by
    obtain ⟨o1, k1⟩ := I.base.there b o q (by simp [cxOf])
    refine ⟨o1, PySem.W.hideAll_get _ k1 fun z => ?_⟩
    rcases List.mem_cons.mp z with rfl | z
    · rw [hn] at q; cases q
    · exact (List.mem_cons.mp z).elim (nL b o q) hb
  have hok : HOk P w (del H1 x) (PySem.W.hideAll s1.heap (x :: frs (envOfC qual scope s.heap.objs.size f cd :: outer))) := fun b o q => by
    obtain ⟨nb, q⟩ := del_some q
    have nx : ∀ c o, H1 c = some o → (∀ φ, o ≠ .ext φ) → c ≠ x := fun c o q n z => by
      rw [z, ex] at q
      exact n _ (Option.some.inj q).symm
    refine (I.hok b o q).stay (fun c v hc q' => PySem.W.hideAll_get _ q' fun hm => ?_) (fun c q' => ?_) fun c xs q' => ?_
    · rcases List.mem_cons.mp hm with rfl | hm
      · rcases hc with z | z
        · exact nb z.symm
        · exact nx _ _ z (by intro _ z; cases z) rfl
      · have hn := I.stkFree c hm
        rcases hc with z | z
        · rw [z, q] at hn; cases hn
        · rw [z] at hn; cases hn
    · rw [del_ne (nx _ _ q' (by intro _ z; cases z))]; exact q'
    · rw [del_ne (nx _ _ q' (by intro _ z; cases z))]; exact q'
  have sB : (PySem.W.hideAll s1.heap (x :: frs (envOfC qual scope s.heap.objs.size f cd :: outer))).StaysIn s1.heap := fun b o q => PySem.W.of_hideAll _ q
  have xB : (PySem.W.hideAll s1.heap (x :: frs (envOfC qual scope s.heap.objs.size f cd :: outer))).get? x = none := PySem.W.hideAll_none _ (List.mem_cons_self ..)
  have go := still_any still_leaving (wpAny_leaving_firstW (M := model P w) (E := fun e' s'' => CX2 P w outer H s E e' s'') (base := PySem.W.hideAll s1.heap (x :: frs (envOfC qual scope s.heap.objs.size f cd :: outer)))
    (Q := fun _ s2 => ∃ h', s2 = { s1 with heap := h' } ∧ Heap.LeftW (PySem.W.hideAll s1.heap (x :: frs (envOfC qual scope s.heap.objs.size f cd :: outer))) (envOfC qual scope s.heap.objs.size f cd :: outer) x (.ref C) (.ref a0) s1.heap h')
    I.ok.frames (PySem.W.funFrames_hide stk hmem) rfl hx sB xB rfl rfl rfl fun h' z => ⟨h', rfl, z⟩)
  refine wpAny_mono go (fun _ s2 q => ?_) fun _ _ z => z
  obtain ⟨⟨h', rfl, k1, ⟨_, _, k2⟩, k3, k4⟩, dk⟩ := q
  have fl : Heap.FlyingW (PySem.W.hideAll s1.heap (x :: frs (envOfC qual scope s.heap.objs.size f cd :: outer))) outer x (.ref C) (.ref a0) h' := ⟨k1, xB, k2, k3⟩
  obtain ⟨ob, hob, _⟩ := fl.there
  have fd : ∀ b o, s1.heap.get? b = some o → b ∈ frs outer → ∀ vs, o.data ≠ .fields vs := fun b o q hb => by
    have hb' : b ∈ frs (envOfC qual scope s.heap.objs.size f cd :: outer) := List.mem_cons_of_mem _ hb
    obtain ⟨_, o', q', d⟩ := stk.mem hb'
    rw [q] at q'
    cases q'
    exact d
  exact ⟨x, _, _, del H1 x, _, some dx, rfl, I.os, I.bare, fl, DictAt.on (h := s1.heap) ⟨_, hx, rfl⟩ dk hob, hok, un_del (un_fly2 (L := s.heap.objs.size) I.base Un.refl nL inB sB fl.1 k4 fd) ex, inB, hE⟩
end
/-! the statement 'raise C(..)' of a class with an own __init__ -/
section
variable {M : Model} {A : Around} {E : Value → Shared → Prop} {s : Shared} {env : Env} {nm q : Str} {C N : Addr} {bs bm : List Value} {hdct : Bool} {sn : List Str} {sub : List Value} {ab : Bool} {col : Option Bool} {dd : Option Addr} {k0 k1 k2 k3 k5 : Option Value} {newId : String}
theorem xr_stmt {x : Sem Value} {Q : Flow → Shared → Prop} (hb : bm.contains (.type "BaseException") = true) (hh : A.handled = none)
    (h : wpAny M A x (fun v s₁ => ∃ e od dt sl, v = .ref e ∧ s₁.heap.get? C = some (excClassObj nm q C N bs bm hdct sn sub ab col dd k0 k1 k2 k3 k5 newId) ∧ s₁.heap.get? e = some ⟨.ref C, od, .fields dt, sl⟩ ∧ dt[1]? = some .none ∧ E (.ref e) s₁) E s) : wpAny M A (raiseStmt env (some x) none) Q E s := by
  have hB : (Value.ref C :: bm).contains (.type "BaseException") = true := by rw [List.contains_cons, hb, Bool.or_true]
  unfold raiseStmt
  refine wpAny_bind (wpAny_mono h (fun v sx hx => ?_) fun _ _ z => z)
  obtain ⟨e, od, dt, sl, rfl, hC, he, hd, hE⟩ := hx
  obtain ⟨hs, gs, ds, ts, os⟩ := sx
  repeat (first | with_reducible refine wpAny_loadPart_at he ?_ | with_reducible refine wpAny_loadPart_at hC ?_ | (with_reducible refine wpAny_isSubtype_exc hC ?_; rw [hB]) | wp_step)
  rw [hd]
  refine wpAny_pure ?_
  rw [if_neg (by decide)]
  exact wpAny_pure (PySem.wpAny_raiseNew_none hh hE)
theorem xr_exec {x : Expr} {pos : Pos} {Q : Flow → Shared → Prop} (hb : bm.contains (.type "BaseException") = true) (hh : A.handled = none)
    (h : wpAny M A (eval x env) (fun v s₁ => ∃ e od dt sl, v = .ref e ∧ s₁.heap.get? C = some (excClassObj nm q C N bs bm hdct sn sub ab col dd k0 k1 k2 k3 k5 newId) ∧ s₁.heap.get? e = some ⟨.ref C, od, .fields dt, sl⟩ ∧ dt[1]? = some .none ∧ E (.ref e) s₁) E s) : wpAny M A (exec (.Raise (some x) none pos) env) Q E s := by
  rw [arm_exec_Raise]
  have go : wpAny M A (do let v ← eval x env; standAt pos; pure v) (fun v s₁ => ∃ e od dt sl, v = .ref e ∧ s₁.heap.get? C = some (excClassObj nm q C N bs bm hdct sn sub ab col dd k0 k1 k2 k3 k5 newId) ∧ s₁.heap.get? e = some ⟨.ref C, od, .fields dt, sl⟩ ∧ dt[1]? = some .none ∧ E (.ref e) s₁) E s :=
    wpAny_bind (wpAny_mono h (fun v s₁ z => wpAny_bind (wpAny_standAt (wpAny_pure z))) fun _ _ z => z)
  exact wpAny_bind (wpAny_standAt (xr_stmt hb hh go))
end
section
variable {P : Program} {w : World} {K : PySem.W.Frag} {mg : Str → Option Value} {base : Heap} {N : List Str} {qual : Str} {scope : Scope} {f : Addr} {cd : Value} {A : Around} {outer : List Env} {s : Shared} {H : Hp} {E : XK}
/-- raise C(..): the wish of the def's caller, at the heap less the exception itself, its fields' dict told beside it -/
def RaisedX (s : Shared) (E : XK) (C : Addr) : VK := fun v H3 => ∃ y dx, v = .ref y ∧ s.heap.get? y = none ∧ H3 y = some (excF y C dx) ∧ E (.ref C) (some dx) (del H3 y)
def tRaiseX (s : Shared) (E : XK) (C : Addr) (sp : Sp) (E1 : XK) (ta : TA) : TS := fun _ σ H => ta σ H fun vs H1 => vs.length ≤ 1000 ∧ ∀ x, H1 x = none → s.heap.get? x = none → sp (.ref x :: vs) (upd H1 x (excN x C)) (fun v H2 => v = .non ∧ RaisedX s E C (.ref x) H2) E1
theorem ps_raiseX {CX : CXT} {k : Nat} {fi : Addr} {fd : FuncData} {ps : List Str} {sp : Sp} {E1 : XK} {x : Str} {C : Addr} {np cpos pos : Pos} {e : Expr} {es : List Expr} {ta : TA} (Mk : MkX K C fi) (F : FnOk P w K mg base CX k fi fd ps sp)
    (hr : Room (k + 1) (cxOf (CX2 P w) P w K mg base N qual scope f cd A outer s H E).A) (hg : Gl (cxOf (CX2 P w) P w K mg base N qual scope f cd A outer s H E) x) (hm : mg x = some (.ref C)) (hb : Binds K fd ps []) (hx : Passes CX (cxOf (CX2 P w) P w K mg base N qual scope f cd A outer s H E) E1)
    (ha : PA (cxOf (CX2 P w) P w K mg base N qual scope f cd A outer s H E) (e :: es) ta) (hdb : (x == ("__debug__" : Str)) = false := by decide)
    (he : starEach (e :: es) (cxOf (CX2 P w) P w K mg base N qual scope f cd A outer s H E).env = (false, eval e (cxOf (CX2 P w) P w K mg base N qual scope f cd A outer s H E).env) :: starEach es (cxOf (CX2 P w) P w K mg base N qual scope f cd A outer s H E).env := by rfl)
    (hpl : (backTo cpos (starEach es (cxOf (CX2 P w) P w K mg base N qual scope f cd A outer s H E).env)).any (·.1) = false := by rfl) :
    PS (cxOf (CX2 P w) P w K mg base N qual scope f cd A outer s H E) (.Raise (some (.Call (.Name x np) (e :: es) [] cpos)) none pos) (tRaiseX s E C sp E1 ta) := by
  intro pins s1 σ H1 D I h
  obtain ⟨nm, q', Nn, bs, bm, hdct, sn, sub, ab, col, dd, k0, k1, k2, k3, k5, mN, hi, hf⟩ := Mk.ini.ex
  have hB : bm.contains (.type "BaseException") = true := (hf _ I.kIn).2.2.hasType (X := "BaseException") (b := true) (by decide +kernel)
  refine xr_exec (C := C) (nm := nm) (q := q') (N := Nn) (bs := bs) (bm := bm) (hdct := hdct) (sn := sn) (sub := sub) (ab := ab) (col := col) (dd := dd) (k0 := k0) (k1 := k1) (k2 := k2) (k3 := k3) (k5 := k5) (newId := "ValueError.__new__") hB (I.ok.hd rfl) ?_
  refine wpAny_mono (wpAny_Call_Name_kw (ld_glob I hg hm (PySem.W.callWith_K (h₀ := (cxOf (CX2 P w) P w K mg base N qual scope f cd A outer s H E).base) I.ok.mod.kin Mk.kp (thn (ha cpos pins s1 σ H1 _ I h) fun us s2 ⟨vs, H2, I2, r, hz, q⟩ => ⟨I2.kIn,
    run_makeX (X := cxOf (CX2 P w) P w K mg base N qual scope f cd A outer s H E) (Q := RaisedX s E C) Mk F hr hb hx I2 r hz q⟩) he hpl) hdb)) (fun v s3 z => ?_) fun _ _ z => z
  obtain ⟨v', H3, I3, rv, y, dx, rfl, n0, e1, e2⟩ := z
  obtain rfl : v = Value.ref y := rv
  obtain ⟨⟨a0, vr, sl, hx3⟩, _, _⟩ := (show ObjOk P w H3 s3.heap y (excF y C dx) from I3.hok y _ e1)
  exact ⟨y, _, _, _, rfl, (hf _ I3.kIn).1, hx3, rfl, raise2 I3 e1 n0 e2⟩
end
end L2

/-! a try with several handlers -/
namespace L2
open PySem PySem.Spec PyProof.Rows
/-- a caught exception with its dict at dx -/
def excG (x C dx : Addr) : HO := .ext fun h => ∃ fl sl, h.get? x = some ⟨.ref C, some dx, .fields fl, sl⟩
theorem land2 {X : Cx} {pins : List (Addr × Obj)} {σ : St} {H : Hp} {s1 s' : Shared} {Ex : XK} {e : Value} {A : Around} {E : Value → Shared → Prop} {Q : Unit → Shared → Prop} (I : Inv X pins σ H s1) (c : CX2 X.prog X.w X.stack H s1 Ex e s')
    (hA : A.frames = some X.stack) (hst : X.stack = X.env :: X.outer) (hf : X.env.frame = some X.env.locals) (hex : X.ex = [])
    (k : ∀ x cls H' s2 B a0 d, e = .ref x → Landed X pins σ H' x cls s2 B a0 → DictAt s2.heap x d → Ex cls d H' → Q () s2) :
    wpAny (model X.prog X.w) A (noteFrame e X.env) (fun _ s2 => wpAny (model X.prog X.w) A (setFlight e none) Q E s2) E s' := by
  obtain ⟨x, cls, a0, H', B, d, rfl, hos, hg, fl, da, hok, un, inB, hE'⟩ := c
  have fd : ∀ b o, s'.heap.get? b = some o → b ∈ frs X.stack → ∀ vs, o.data ≠ .fields vs := fun b o q hb => by
    obtain ⟨_, _, ff, _⟩ := id fl
    obtain ⟨_, o', q', d⟩ := ff.mem hb
    rw [q] at q'
    cases q'
    exact d
  have nB : B.get? x = none := fl.2.1
  have hfree : H' x = none := by
    cases q : H' x with
    | none => rfl
    | some o =>
      obtain ⟨ob, z⟩ := (hok x o q).some_at
      rw [nB] at z; cases z
  have n1 : s1.heap.get? x = none := by
    cases q : s1.heap.get? x with
    | none => rfl
    | some o =>
      exfalso
      by_cases hb : x ∈ frs X.stack
      · obtain ⟨oe, vs, he, _, hd, _⟩ := fl.first
        exact fd x oe he hb vs hd
      · obtain ⟨o', z⟩ := inB x o q hb
        rw [nB] at z; cases z
  have here : ∀ b o, s1.heap.get? b = some o → b ≠ x := fun b o q z => by rw [z, n1] at q; cases q
  have fl0 : Heap.FlyingW B (X.env :: X.outer) x cls a0 s'.heap := by rw [← hst]; exact fl
  have g1 := still_any still_note (wpAny_looks_onW (M := model X.prog X.w) (A := A) (E := E) (Q := fun _ s2 => ∃ h', s2 = { s' with heap := h' } ∧ Heap.HeldW B (X.env :: X.outer) x cls a0 X.env.locals h' ∧ s'.heap.UpToSlots h') (by rw [hA, hst]) hf fl0 fun h' hh up => ⟨h', rfl, hh, up⟩)
  refine wpAny_mono g1 (fun _ s2 q => ?_) fun _ _ z => z
  obtain ⟨⟨h2, rfl, hh, up2⟩, dk2⟩ := q
  have g2 := still_any still_setFlight (wpAny_landsW (M := model X.prog X.w) (A := A) (E := E) (s := { s' with heap := h2 }) (Q := fun _ s3 => ∃ h', s3 = { s' with heap := h' } ∧ Heap.FlyingW B (X.env :: X.outer) x cls a0 h' ∧ h2.UpToSlots h') hh fun h' f3 up => ⟨h', rfl, f3, up⟩)
  refine wpAny_mono g2 (fun _ s3 q => ?_) fun _ _ z => z
  obtain ⟨⟨h3, rfl, fl3, up3⟩, dk3⟩ := q
  obtain ⟨o2, ho2, _⟩ := hh.there
  obtain ⟨o3, ho3, _⟩ := fl3.there
  have fl3' : Heap.FlyingW B X.stack x cls a0 h3 := by rw [hst]; exact fl3
  have go : ∀ h6, Heap.FlyingW B X.stack x cls a0 h6 → s'.heap.UpToSlots h6 → Inv X pins σ H' { s' with heap := h6 } := fun h6 f6 u6 =>
    I.call' (s' := { s' with heap := h6 }) hos (un_up un inB fl.1 f6.1 u6 fd) (hok.kept fun b o q => f6.1 b o q) hg fun b hb => absurd hb (by simp)
  refine k x cls H' _ B a0 d rfl ⟨go h3 fl3' (up2.trans up3), fl3', fun h6 f6 u6 => go h6 f6 ((up2.trans up3).trans u6), hfree, ?_, ?_, fun y c e => ?_, fun p hp => here _ _ (I.pin p hp).1⟩ ((da.on dk2 ho2).on dk3 ho3) hE'
  · cases q : X.s₀.heap.get? x with
    | none => rfl
    | some o =>
      obtain ⟨o', z⟩ := I.base.there x o q (by rw [hex]; simp)
      rw [n1] at z; cases z
  · obtain ⟨m, ⟨o, _, _, q, _⟩, _⟩ := I.loc
    exact fun z => here _ _ q z.symm
  · obtain ⟨v, o, q, _⟩ := I.cell y c e
    exact here _ _ q
section
variable {M : Model} {A : Around} {E : Value → Shared → Prop} {nm q : Str} {C N : Addr} {bs bm : List Value} {hdct : Bool} {sn : List Str} {sub : List Value} {ab : Bool} {col : Option Bool} {dd : Option Addr} {k0 k1 k2 k3 k5 : Option Value} {newId : String}
/-- an exception of another class -/
theorem xm_other {h : Heap} {g : Array GenState} {d : Drawn} {t : Nat} {os : OsState} {e C1 : Addr} {oe : Obj} {Q : Bool → Shared → Prop}
    (hC : h.get? C = some (excClassObj nm q C N bs bm hdct sn sub ab col dd k0 k1 k2 k3 k5 newId)) (he : h.get? e = some oe) (hcls : oe.cls = .ref C1) (hbase : bm.contains (.type "BaseException") = true)
    (hs : ∀ {Q : Bool → Shared → Prop}, Q false ⟨h, g, d, t, os⟩ → wpAny M A (isSubtype (.ref C1) (.ref C)) Q E ⟨h, g, d, t, os⟩) (hq : Q false ⟨h, g, d, t, os⟩) : wpAny M A (excMatches (.ref e) (.ref C)) Q E ⟨h, g, d, t, os⟩ := by
  have hB : (Value.ref C :: bm).contains (.type "BaseException") = true := by rw [List.contains_cons, hbase, Bool.or_true]
  have f0 := tc_notTuple
  unfold excMatches
  repeat (first | (with_reducible refine wpAny_loadPart_at he ?_; rw [hcls]) | with_reducible refine wpAny_loadPart_at hC ?_ | (with_reducible refine wpAny_isSubtype_exc hC ?_; rw [hB]) | with_reducible refine hs ?_ | wp_step)
  exact hq
end
/-- what several handlers make of an exception -/
abbrev TH := Ends → Value → Option Addr → St → Hp → Prop
def PH (X : Cx) (hs : List ExceptHandler) (T : TH) : Prop := ∀ (pins : List (Addr × Obj)) (σ : St) (H' : Hp) (y : Addr) (cls : Value) (s : Shared) (B : Heap) (a0 : Value) (d : Option Addr) (D : Ends), Landed X pins σ H' y cls s B a0 → DictAt s.heap y d → T D cls d σ H' →
  wpAny (model X.prog X.w) X.A (handleBy (.ref y) X.env hs) (SP X pins D) X.xe s
def thNil : TH := fun _ _ _ _ _ => False
theorem ph_nil {X : Cx} : PH X [] thNil := fun _ _ _ _ _ _ _ _ _ _ _ _ h => h.elim
/-- one handler, and the others behind it -/
def thCons (K : PySem.W.Frag) (i : Nat) (C : Addr) (ts : TS) (tr : TH) : TH := fun D cls d σ H =>
  (cls = .ref C ∧ ∃ dx, d = some dx ∧ ∀ y, H y = none → ts { nx := fun σ2 H2 => D.nx (σ2.set i none) H2, rt := D.rt, bk := fun σ2 H2 => D.bk (σ2.set i none) H2, ct := fun σ2 H2 => D.ct (σ2.set i none) H2 } (σ.set i (some (.ref y))) (upd H y (excG y C dx))) ∨
  (∃ C1, cls = .ref C1 ∧ PySem.W.subIn K (.ref C1) (.ref C) = some false ∧ tr D cls d σ H)
theorem ph_cons {X : Cx} {K : PySem.W.Frag} {i : Nat} {n x : Str} {C : Addr} {b₀ : Stmt} {suite : List Stmt} {np hpos : Pos} {rest : List ExceptHandler} {ts : TS} {tr : TH} (hK : X.K = K)
    (hN : X.N.Nodup) (hi : X.N[i]? = some n) (hk : X.env.scope.names.lookup n = some .local) (hg : Gl X x) (hm : X.mg x = some (.ref C)) (cl : ExcAt K C)
    (hs : ∀ y, PSs (X.marked y) (b₀ :: suite) ts) (hr : PH X rest tr) (hdb : (x == ("__debug__" : Str)) = false := by decide) :
    PH X (.ExceptHandler (some (.Name x np)) (some n) (b₀ :: suite) hpos :: rest) (thCons K i C ts tr) := by
  subst hK
  intro pins σ H' y cls s B a0 d D L da h
  obtain ⟨nm, q, Nn, bs, bm, hdct, sn, sub, ab, col, dd, k0, k1, k2, k3, k5, newId, hbase, hC⟩ := cl.ex
  obtain ⟨ob, hob, hobc⟩ := L.fly.there
  have IL := L.inv
  have hd := IL.ok.hd
  refine wpAny_handleBy_cons (codeAny_handlers_test (Calls.Name_function_global IL.ok.kind hg (Calls.loadGlobal_global (by rw [IL.ok.glob]; exact IL.mod.glob.keeps IL.bk) hm ?_) hdb)) (by intro q; cases q)
  rcases h with ⟨rfl, dx, rfl, hsu⟩ | ⟨C1, rfl, hsub, hrest⟩
  · refine wpAny_excMatches_sub_self (hC s.heap IL.kIn) hob hobc hbase ?_
    refine codeAny_handlers_suite_as (e := .ref y) ?_
    have g1 := still_any still_setFlight (lands_againW (M := model X.prog X.w) (A := X.A.mark (some (.ref y))) (E := fun _ _ => False) (Q := fun _ s6 => ∃ h', s6 = { s with heap := h' } ∧ Heap.FlyingW B X.stack y (.ref C) a0 h' ∧ s.heap.UpToSlots h') L.fly fun h' f up => ⟨h', rfl, f, up⟩)
    refine wpAny_mono g1 (fun _ s6 q6 => ?_) fun _ _ z => False.elim z
    obtain ⟨⟨h6, rfl, fl6, up6⟩, dk6⟩ := q6
    obtain ⟨oe6, vs6, hob6, hobc6, hdat6, _⟩ := fl6.first
    obtain ⟨o7, ho7, hd7⟩ := da.on dk6 hob6
    obtain rfl : oe6 = o7 := Option.some.inj (hob6.symm.trans ho7)
    obtain ⟨oc, od, dt, osl⟩ := oe6
    dsimp only at hobc6 hdat6 hd7
    subst hobc6 hdat6 hd7
    have I6 := (L.more h6 fl6 up6).track (x := y) (o := excG y C dx) L.free L.new L.neL L.neC L.neP ⟨⟨_, _, hob6⟩, ⟨_, hob6⟩, fun h1 h2 ⟨x1, x2, z⟩ k => ⟨x1, x2, k _ z⟩⟩
    refine store_ok I6 hN hi (.inl hk) (v := .ref y) rfl (fun s7 I7 => ?_) (.inr hk)
    refine wpAny_mono (hs y pins s7 _ _ _ I7.marked (hsu y L.free)) (fun f s8 q8 => ?_) fun _ _ z => False.elim z
    cases f with
    | next =>
      obtain ⟨σ8, H8, I8, q8⟩ := q8
      exact gone_ok (I8.unmarked hd) hN hi hk fun s9 I9 => ⟨_, _, I9, q8⟩
    | brk =>
      obtain ⟨σ8, H8, I8, q8⟩ := q8
      exact gone_ok (I8.unmarked hd) hN hi hk fun s9 I9 => ⟨_, _, I9, q8⟩
    | cont =>
      obtain ⟨σ8, H8, I8, q8⟩ := q8
      exact gone_ok (I8.unmarked hd) hN hi hk fun s9 I9 => ⟨_, _, I9, q8⟩
    | ret u =>
      obtain ⟨v, σ8, H8, I8, rv, q8⟩ := q8
      exact gone_ok (I8.unmarked hd) hN hi hk fun s9 I9 => ⟨v, _, _, I9, rv, q8⟩
  · obtain ⟨hp, g, dr, tk, os⟩ := s
    refine xm_other (hC _ IL.kIn) hob hobc hbase (fun q => (PySem.W.looks_subIn IL.kIn hsub).at q) ?_
    exact hr pins σ H' y _ _ B a0 d D L da hrest
/-- try: body except C1 as n: .. except C2 as n: .. -/
def tTry2 (tb : (St → XK) → TS) (th : TH) : TS := fun D σ H => ∃ R : St → XK, (∀ σ' cls d H', R σ' cls d H' → th D cls d σ' H') ∧ tb R D σ H
theorem ps_try2 {X : Cx} {body : List Stmt} {h₀ : ExceptHandler} {hs : List ExceptHandler} {pos : Pos} {tb : (St → XK) → TS} {th : TH} (hst : X.stack = X.env :: X.outer) (hf : X.env.frame = some X.env.locals) (hex : X.ex = [])
    (hb : ∀ (pn : List (Addr × Obj)) (Ex : Value → Shared → Prop) (R : St → XK), (∀ pins σ H s e s', Inv (X.over pn Ex) pins σ H s → CX2 X.prog X.w X.stack H s (R σ) e s' → Ex e s') → PSs (X.over pn Ex) body (tb R)) (hh : PH X (h₀ :: hs) th) :
    PS X (.Try body (h₀ :: hs) [] [] pos) (tTry2 tb th) := by
  intro pins s σ H D I h
  obtain ⟨R, hR, hbody⟩ := h
  refine wpAny_Try_except (wpAny_mono (hb (X.pn ++ pins) (fun e s₁ => wpAny (model X.prog X.w) X.A (noteFrame e X.env) (fun _ s₂ => wpAny (model X.prog X.w) X.A (setFlight e none) (fun _ s₃ =>
    wpAny (model X.prog X.w) X.A (handleBy e X.env (h₀ :: hs)) (SP X pins D) X.xe s₃) X.xe s₂) X.xe s₁) R ?_ [] s σ H D I.over hbody) (fun f s₁ q => ?_) fun e s₁ q => q)
  · intro pins' σ' H' s1 e s2 I1 c
    refine land2 (I1.unover) c I.ok.frames hst hf hex fun y cls H2 s3 B a0 d he L da hE => ?_
    subst he
    exact hh pins σ' H2 y cls s3 B a0 d D L da (hR _ _ _ _ hE)
  · cases f with
    | next =>
      obtain ⟨σ1, H1, I1, q1⟩ := q
      exact wpAny_execs_nil ⟨σ1, H1, I1.unover, q1⟩
    | brk =>
      obtain ⟨σ1, H1, I1, q1⟩ := q
      exact ⟨σ1, H1, I1.unover, q1⟩
    | cont =>
      obtain ⟨σ1, H1, I1, q1⟩ := q
      exact ⟨σ1, H1, I1.unover, q1⟩
    | ret u =>
      obtain ⟨v, σ1, H1, I1, rv, q1⟩ := q
      exact ⟨v, σ1, H1, I1.unover, rv, q1⟩
/-- e.f of a caught exception -/
def tFldG (K : PySem.W.Frag) (ta : TE) (f : Str) : TE := fun σ H Q => ta σ H fun x H1 => ∃ a C dx fs v, x = .ref a ∧ H1 a = some (excG a C dx) ∧ H1 dx = some (.xd fs) ∧ XfK K C ∧ NoAttr K C f ∧ fs.lookup f = some v ∧ Q v H1
theorem pe_fldG {X : Cx} {K : PySem.W.Frag} {e : Expr} {f : Str} {pos : Pos} {ta : TE} (hK : X.K = K) (he : PE X e ta) (hb : attributeBase e f X.env (eval e X.env) = eval e X.env) : PE X (.Attribute e f pos) (tFldG K ta f) := by
  subst hK
  intro pins s σ H Q I h
  refine attr_of hb (thn (he pins s σ H _ I h) fun u s1 ⟨x, H1, I1, rx, a, C, dx, fs, v, ex, ea, ed, c, n, l, q⟩ => ?_)
  subst ex
  obtain rfl : u = Value.ref a := rx
  obtain ⟨⟨fl, sl, hx⟩, _, _⟩ := (show ObjOk X.prog X.w H1 s1.heap a (excG a C dx) from I1.hok a _ ea)
  exact getx_at I1 hx ed c n l fun u' s2 I2 ru => ⟨v, H1, I2, ru, q⟩
section
variable {P : Program} {w : World} {K : PySem.W.Frag} {mg : Str → Option Value} {base : Heap}
/-- a def that may raise exceptions with fields -/
theorem Fun.ok2 {x qual : Str} {st : Stmt} {f : Addr} {fd : FuncData} {N ps : List Str} {k : Nat} {sp : Sp} (F : Fun K x qual st f fd) (S : FnScope N ps (defScope st)) (len : ∀ vs H Q E, sp vs H Q E → vs.length = ps.length)
    (go : ∀ (cdv : Value) (A : Around) (outer : List Env) (s : Shared) (H : Hp) (vs : List V) (Q : VK) (E : XK), Room k (A.deeper (envOfC qual (defScope st) s.heap.objs.size f cdv)) → sp vs H Q E →
      ∃ t, PSs (cxOf (CX2 P w) P w K mg base N qual (defScope st) f cdv A outer s H E) (defBody st) t ∧ t { nx := fun _ H' => Q .non H', rt := Q } (start N vs) H) : FnOk P w K mg base (CX2 P w) (k + 1) f fd ps sp := by
  obtain ⟨oc, od, kV, doc, pm, an, cdv, ct, osl, e, lk, hcd⟩ := F.ex
  subst e
  exact fn_of lk hcd S len fun A outer s H vs Q E hr hsp => go cdv A outer s H vs Q E hr hsp
end
theorem ExcIni.at {K : PySem.W.Frag} {C f : Addr} (c : ExcIni K C f) {h : Heap} (X : K.In h) : ExcAt K C := by
  obtain ⟨nm, q, Nn, bs, bm, hdct, sn, sub, ab, col, dd, k0, k1, k2, k3, k5, mN, _, hf⟩ := c.ex
  exact ⟨⟨nm, q, Nn, bs, bm, hdct, sn, sub, ab, col, dd, k0, k1, k2, k3, k5, _, (hf h X).2.2.hasType (X := "BaseException") (b := true) (by decide +kernel), fun h X => (hf h X).1⟩⟩
end L2

/-! ### own rules: isinstance of an own object -/
namespace L2
open PySem PySem.Spec PyProof.Rows
/-- what isinstance asks of the class of an own object, in one look -/
def isoIn (K : PySem.W.Frag) (D : Addr) : Bool := PySem.W.plainGet K D "__class__" && PySem.W.hasDictIn K D && PySem.W.findIn K (.ref D) "__class__" == some (some (.builtin "object.__class__")) &&
  PySem.W.specialIn K (.builtin "object.__class__") "__get__" == some (some (.builtin "getset_descriptor.__get__")) && PySem.W.takesIn K (.builtin "object.__class__") == some true && PySem.W.mroIn K D (.type "object") == some true
theorem kitx_iso {K : PySem.W.Frag} {x D : Addr} {ox od : Obj} (z : isoIn K D = true) : PySem.W.KitX K (.ref x) (.ref D) (fun h => PySem.W.InstAt h x ox D (some od)) := by
  simp only [isoIn, Bool.and_eq_true, beq_iff_eq] at z
  obtain ⟨⟨⟨⟨⟨a, b⟩, c⟩, d⟩, e⟩, f⟩ := z
  exact PySem.W.kitx_own a b c d e f
/-- isinstance(x, c), x an object of an own class -/
theorem call_isiO {X : Cx} {K : PySem.W.Frag} (hK : X.K = K) : CallR X (.builtin "isinstance") (fun xs H Q => ∃ y D dx fs c b, xs = [.ref y, c] ∧ H y = some (.ins D dx fs) ∧ isoIn K D = true ∧ isiE K D c b ∧ Q (.bl b) H) := by
  subst hK
  intro pins s σ H xs us Q I r h
  obtain ⟨y, D, dx, fs, c, b, rfl, hy, x, hc, q⟩ := h
  obtain ⟨u, w', rfl, rx, ry⟩ := vals2 r
  cases rx
  obtain ⟨_, _, _, hx, mA, hn, _⟩ := (show ObjOk X.prog X.w H s.heap y (.ins D dx fs) from I.hok y _ hy)
  obtain ⟨od, ho, _⟩ := lookIn_ns hn
  have J : PySem.W.InstAt s.heap y (PySem.W.instObj D dx) D (some od) := ⟨hx, rfl, rfl, ho⟩
  have fin : ∀ tk, EP X pins σ Q (.bool b) { s with toks := tk } := fun tk => ⟨.bl b, H, I.tok tk, rfl, q⟩
  cases c with
  | ref E => cases ry; exact PySem.W.kia_one (kitx_iso (ox := PySem.W.instObj D dx) (od := od) x) I.kIn J hc (by intro e; cases e) fin
  | ty T => cases ry; exact PySem.W.kia_one (kitx_iso (ox := PySem.W.instObj D dx) (od := od) x) I.kIn J hc (by intro e; cases e) fin
  | _ => exact (show False from hc).elim
/-- classes that are apart, all under B, in one look -/
def tabO (K : PySem.W.Frag) (cs : List Addr) (B : Addr) : Bool := (List.range cs.length).all fun i => isoIn K (cs.getD i 0) && PySem.W.kitOne K (.ref (cs.getD i 0)) (.ref B) == some true &&
  (List.range cs.length).all fun j => PySem.W.kitOne K (.ref (cs.getD i 0)) (.ref (cs.getD j 0)) == some (decide (i = j))
theorem tabO_of {K : PySem.W.Frag} {cs : List Addr} {B : Addr} (h : tabO K cs B = true) {i : Nat} (hi : i < cs.length) :
    isoIn K (cs.getD i 0) = true ∧ PySem.W.kitOne K (.ref (cs.getD i 0)) (.ref B) = some true ∧ ∀ j, j < cs.length → PySem.W.kitOne K (.ref (cs.getD i 0)) (.ref (cs.getD j 0)) = some (decide (i = j)) := by
  have z := List.all_eq_true.mp h i (List.mem_range.mpr hi)
  simp only [Bool.and_eq_true, beq_iff_eq] at z
  exact ⟨z.1.1, z.1.2, fun j hj => beq_iff_eq.mp (List.all_eq_true.mp z.2 j (List.mem_range.mpr hj))⟩
/-! ### going over a list or a tuple -/
def iOr (a b : TI) : TI := fun σ H R => a σ H R ∨ b σ H R
theorem pi_or {X : Cx} {tg it : Expr} {a b : TI} (h1 : PI X tg it a) (h2 : PI X tg it b) : PI X tg it (iOr a b) := fun pins s σ H R I h => h.elim (h1 pins s σ H R I) (h2 pins s σ H R I)
theorem comp_tup {js : List Nat} {tt : TT} {te : TE} {σ : St} {Qd : List V → Hp → Prop} {K : PySem.W.Frag} {a : Addr} {xs : List V} {H : Hp} (Pv : Nat → List V → Hp → Prop) (hn : xs.length ≤ sizeLine) (h0 : Pv 0 [] H) (hl : ∀ i ys H, Pv i ys H → ys.length ≤ i) (hq : ∀ i ys H, i ≤ xs.length → Pv i ys H → SqT K H a xs)
    (hs : ∀ i x ys H, xs[i]? = some x → Pv i ys H → tt (some x :: valsAt σ js) H fun b H4 => if b = true then te (some x :: valsAt σ js) H4 fun y H5 => Pv (i + 1) (ys ++ [y]) H5 else Pv (i + 1) ys H4)
    (hd : ∀ ys H, Pv xs.length ys H → Qd ys H) : CompEnd js tt te σ Qd (Itt K a) H := by
  refine ⟨fun i m ys H => m = xs.length - i ∧ i ≤ xs.length ∧ Pv i ys H, ⟨xs.length, by simp, Nat.zero_le _, h0⟩, ?_⟩
  rintro i m ys H ⟨rfl, hi, p⟩
  have hlen := hl i ys H p
  have q := hq i ys H hi p
  by_cases hlt : i < xs.length
  · refine .inr ⟨⟨xs, xs[i], q, by simp [hlt]⟩, by omega, Pv (i + 1), fun ys' H' p' => ⟨xs.length - (i + 1), by omega, rfl, hlt, p'⟩, fun x H' y => ?_⟩
    obtain ⟨e, y⟩ := y
    subst e
    exact hs i x ys _ (y xs q) p
  · have e : i = xs.length := by omega
    subst e
    exact .inl ⟨⟨xs, q, Nat.le_refl _⟩, by omega, hd ys H p⟩
/-- a comprehension over a name that is a list or a tuple, where nothing changes on the way -/
theorem comp_A {js : List Nat} {tt : TT} {te : TE} {σ σ0 : St} {Qd : List V → Hp → Prop} {K : PySem.W.Frag} {a : Addr} {xs : List V} {H : Hp} {tl : TE} (ht : ∀ R : V → Hp → Prop, R (.ref a) H → tl σ0 H R) (ha : SqA K H a xs) (Pv : Nat → List V → Prop) (hn : xs.length ≤ sizeLine) (h0 : Pv 0 []) (hl : ∀ i ys, Pv i ys → ys.length ≤ i)
    (hs : ∀ i x ys, xs[i]? = some x → Pv i ys → tt (some x :: valsAt σ js) H fun b H4 => if b = true then te (some x :: valsAt σ js) H4 fun y H5 => H5 = H ∧ Pv (i + 1) (ys ++ [y]) else H4 = H ∧ Pv (i + 1) ys)
    (hd : ∀ ys, Pv xs.length ys → Qd ys H) : iOr (iList K tl) (iTup K tl) σ0 H (CompEnd js tt te σ Qd) := by
  rcases ha with ha | ha
  · refine .inl (ht _ ⟨a, rfl, ⟨xs, ha⟩, comp_list (K := K) (a := a) (xs := xs) (fun i ys H' => H' = H ∧ Pv i ys) hn ⟨rfl, h0⟩ (fun i ys _ z => hl i ys z.2) (fun i ys H' _ z => by rw [z.1]; exact ha) (fun i x ys H' hx z => ?_) fun ys H' z => ?_⟩)
    · obtain ⟨rfl, z⟩ := z; exact hs i x ys hx z
    · obtain ⟨rfl, z⟩ := z; exact hd ys z
  · refine .inr (ht _ ⟨a, rfl, ⟨xs, ha⟩, comp_tup (K := K) (a := a) (xs := xs) (fun i ys H' => H' = H ∧ Pv i ys) hn ⟨rfl, h0⟩ (fun i ys _ z => hl i ys z.2) (fun i ys H' _ z => by rw [z.1]; exact ha) (fun i x ys H' hx z => ?_) fun ys H' z => ?_⟩)
    · obtain ⟨rfl, z⟩ := z; exact hs i x ys hx z
    · obtain ⟨rfl, z⟩ := z; exact hd ys z
theorem SqA.len {K : PySem.W.Frag} {H : Hp} {a : Addr} {xs : List V} (h : SqA K H a xs) : LenV K (.ref a) H xs.length := h.elim (fun h => .inl ⟨xs, h, rfl⟩) fun h => .inr ⟨xs, h, rfl⟩
theorem ix_listK {X : Cx} {K : PySem.W.Frag} (hK : X.K = K) : IxR X (rIxL K) := by subst hK; exact ix_list
theorem ix_tupK {X : Cx} {K : PySem.W.Frag} (hK : X.K = K) : IxR X (rIxT K) := by subst hK; exact ix_tup
end L2

/-! ### an own head: the text's top run at once, with the heap as a tree -/
namespace One
open PySem PySem.W PySem.Calls PyProof.Rows
/-- objects put into a tree, one behind the other -/
def plant : Nat → BT → List Obj → BT
  | _, t, [] => t
  | n, t, o :: r => plant (n + 1) (t.ins n o) r
def planted : Nat → BT → List Obj → Bool
  | _, _, [] => true
  | n, t, o :: r => ((t.ins n o).get n).isSome && planted (n + 1) (t.ins n o) r
theorem plant_abs {life : Life} : ∀ (l : List Obj) (n : Nat) (t : BT) (as : List Obj), absHeap t n life = ⟨as.toArray, life⟩ → planted n t l = true → absHeap (plant n t l) (n + l.length) life = ⟨(as ++ l).toArray, life⟩
  | [], n, t, as, h, _ => by simpa [plant] using h
  | o :: r, n, t, as, h, k => by
    simp only [planted, Bool.and_eq_true] at k
    have e := absHeap_ins (life := life) k.1
    rw [h] at e
    have := plant_abs r (n + 1) (t.ins n o) (as ++ [o]) (by rw [e]; simp [Heap.push]) k.2
    rw [List.append_assoc] at this
    rw [List.length_cons, show n + (r.length + 1) = n + 1 + r.length by omega]
    exact this
/-- the top's run over a tree -/
def topT (tb : String → Option Builtin) (p : Program) (w : World) (m : Nat) (an : Option Value) : Nat → SharedT → Thread → Option SharedT
  | 0, _, _ => none
  | n + 1, s, t => match through t with
    | true => some s
    | false => match stepOk m an t with
      | false => none
      | true => match stepT (denote tb) p w s t with
        | some (s', t') => topT tb p w m an n s' t'
        | none => none
theorem topT_of {tb : String → Option Builtin} {p : Program} {w : World} {m : Nat} {an : Option Value} : ∀ {n : Nat} {s s' : SharedT} {t : Thread}, topT tb p w m an n s t = some s' → topRun tb p w m an n s.abs t = some s'.abs
  | 0, _, _, _, h => by cases h
  | n + 1, s, s', t, h => by
    unfold topT at h
    unfold topRun
    cases e1 : through t with
    | true => rw [e1] at h; cases h; rfl
    | false =>
      rw [e1] at h
      cases e2 : stepOk m an t with
      | false => rw [e2] at h; cases h
      | true =>
        rw [e2] at h
        cases e3 : stepT (denote tb) p w s t with
        | none => rw [e3] at h; cases h
        | some r =>
          obtain ⟨s2, t2⟩ := r
          rw [e3] at h
          rw [stepT_spec e3]
          exact topT_of h
noncomputable def ann0 (P : Params) : Option Value := (boot_heap P).nsMap mainGlobals "__annotations__"
noncomputable def S0 (w : World) (os : OsState) : SharedT := ⟨plant 0 .nil (boot_heap w.params).objs.toList, 11, {}, Array.mk [], boot_drawn, boot_toks, os⟩
theorem S0_abs (w : World) (os : OsState) : (S0 w os).abs = ⟨boot_heap w.params, Array.mk [], boot_drawn, boot_toks, os⟩ := by
  have e := plant_abs (life := {}) (boot_heap w.params).objs.toList 0 .nil [] rfl (by rfl)
  have e2 : absHeap (plant 0 .nil (boot_heap w.params).objs.toList) 11 {} = boot_heap w.params := e
  show (⟨absHeap (plant 0 .nil (boot_heap w.params).objs.toList) 11 {}, _, _, _, _⟩ : Shared) = _
  rw [e2]
  rfl
noncomputable def runX (p : Program) (M : Nat) (w : World) (os : OsState) : Option SharedT := topT treeTable p w 11 (ann0 w.params) M (S0 w os) (topStub p)
/-- what is looked at behind the top, without the text's objects -/
noncomputable def looksX (p q : Program) (loose : List Str) (Xt : Shared → Bool) (M : Nat) (w : World) (os : OsState) :=
  (runX p M w os).map fun s => (staticsOk (importedModules p.main.body) (boot_heap w.params) s.abs.heap && namesBound p s.abs.heap && gensDone s.abs && laidKept (boot_heap w.params) s.abs.heap, openSeen q loose (importedModules p.main.body) Xt true s.abs)
theorem left_of {p q : Program} {loose : List Str} {Xt : Shared → Bool} {α : Type} {Yf : Shared → α} {Ya : World → α} {N M : Nat} (e : opening p = plainProg p.main.scope.names) (hN : Nat.ble 600 N = true) (f : ∀ s, fenceModules? p s = some s) (le : Nat.ble M N = true)
    (A : ∀ w os, looksX p q loose Xt M w os = some (true, openGood q loose)) (B : ∀ w os, (runX p M w os).map (fun s => Yf s.abs) = some (Ya w)) : LeftO p q loose Xt Yf Ya N := fun w => by
  obtain ⟨⟨h, gs, d, k, os⟩, e1, e2⟩ := Option.map_eq_some_iff.mp (boot_open e hN f w)
  obtain ⟨rfl, rfl, rfl, rfl⟩ : h = boot_heap w.params ∧ gs = Array.mk [] ∧ d = boot_drawn ∧ k = boot_toks := by simpa using e2
  obtain ⟨s1, r1, l1⟩ := Option.map_eq_some_iff.mp (A w os)
  obtain ⟨s2, r2, l2⟩ := Option.map_eq_some_iff.mp (B w os)
  rw [r1] at r2
  cases r2
  obtain ⟨l3, l4⟩ := Prod.mk.inj l1
  have r3 := topT_of r1
  rw [S0_abs] at r3
  have r4 := topRun_mono (N - M) _ _ _ _ r3
  rw [show M + (N - M) = N by have := Nat.le_of_ble_eq_true le; omega] at r4
  have t : topFrom treeTable p w N ⟨boot_heap w.params, Array.mk [], boot_drawn, boot_toks, os⟩ = some s1.abs := by
    unfold topFrom
    have z1 : ((boot_heap w.params).isNs mainGlobals && (Array.mk [] : Array GenState).size == 0) = true := by kernel_rfl
    dsimp only
    rw [z1]
    show ((topRun treeTable p w 11 (ann0 w.params) N _ _).bind _) = _
    rw [r4]
    show (match staticsOk (importedModules p.main.body) (boot_heap w.params) s1.abs.heap && namesBound p s1.abs.heap && gensDone s1.abs && laidKept (boot_heap w.params) s1.abs.heap with | true => _ | false => _) = _
    rw [l3]
  unfold openEnds
  rw [e1]
  show (topFrom treeTable p w N _).map _ = _
  rw [t]
  exact congrArg some (Prod.ext l4 l2)
/-- an object of the tree -/
def getT (s : SharedT) (a : Addr) : Option Obj := match Nat.blt a s.n with
  | true => (match s.tree.get a with | some o => alive o | none => none)
  | false => none
theorem getT_abs {s : SharedT} {a : Addr} {o : Obj} (h : getT s a = some o) : s.abs.heap.get? a = some o := by
  unfold getT at h
  cases e : Nat.blt a s.n with
  | false => rw [e] at h; cases h
  | true =>
    rw [e] at h
    cases g : s.tree.get a with
    | none => rw [g] at h; cases h
    | some x =>
      rw [g] at h
      exact (abs_get (Nat.le_of_ble_eq_true e) g).trans h
theorem all_abs {s : SharedT} : ∀ {as : List Addr} {l : List (Addr × Obj)}, as.map (getT s) = l.map (fun p => some p.2) → as.map s.abs.heap.get? = l.map fun p => some p.2
  | [], [], _ => rfl
  | [], _ :: _, h => by cases h
  | _ :: _, [], h => by cases h
  | a :: as, x :: l, h => by
    have h1 := List.cons.inj h
    show s.abs.heap.get? a :: as.map _ = _
    rw [getT_abs h1.1, all_abs h1.2]
    rfl
/-- the objects looked at in two halves -/
theorem chunk {o : Option SharedT} {as : List Addr} {l : List (Addr × Obj)} (n : Nat) (h1 : o.map (fun s => (as.take n).map (getT s)) = some ((l.take n).map fun p => some p.2)) (h2 : o.map (fun s => (as.drop n).map (getT s)) = some ((l.drop n).map fun p => some p.2)) :
    o.map (fun s => as.map (getT s)) = some (l.map fun p => some p.2) := by
  obtain ⟨s, e1, e2⟩ := Option.map_eq_some_iff.mp h1
  subst e1
  have e3 := Option.some.inj h2
  show some (as.map (getT s)) = _
  rw [← List.take_append_drop n as, ← List.take_append_drop n l, List.map_append, List.map_append]
  exact congrArg some (congr (congrArg _ e2) e3)
theorem hook_of {o : Option SharedT} {w : World} {K : Params → Frag} {as : List Addr} {e : ∀ P, as = (K P).map (·.1)} (h : o.map (fun s => as.map (getT s)) = some ((K w.params).map fun p => some p.2)) :
    o.map (fun s => Hook.obs (kHook K as e) s.abs) = some (Hook.val (kHook K as e) w) := by
  obtain ⟨s, h1, h2⟩ := Option.map_eq_some_iff.mp h
  rw [h1]
  exact congrArg some (all_abs h2)
end One

namespace HD
open PySem PySem.W PySem.Calls PyProof.Rows
abbrev rr : OpenRow := OpenLaw.row PySem.Challenge.rw_holdlane_k15_parts_made_or_refused
def q : Program := view PySem.Challenge.pw_holdlane_k15_parts_made_or_refused [42]
def loose : List PySem.Str := (["_wall", "LaneError", "NoKind", "BadNumbers", "BadLanes", "VALUES", "is_whole", "is_value", "COUNTS", "Part", "Give", "Take", "Pass", "Copy", "Turn", "Heap"] : List PySem.Str) ++ (["Add", "Less", "Order", "Choose", "Split", "is_kind", "need_fit", "made_of", "part_made", "_law_mix", "_law_value", "_law_word", "_law_kinds", "_law_kind", "_law_many", "_law_lists"] : List PySem.Str) ++ (["_law_are_values", "_law_due", "_law_marks", "_law_good", "_law_by_class", "_law_made"] : List PySem.Str)
def Xt (s : Shared) : Bool := xlAt q [] s && recOk (RowW.records (OpenRow.toRowW (OpenLaw.row PySem.Challenge.rw_holdlane_k15_parts_made_or_refused))) s
structure KA where
  K : Params → Frag
  as : List Addr
/-- the text's objects, as the kit's head writes them -/
def pickK {r : OpenRow} {K : Params → Frag} {as : List Addr} (_ : (∀ H : Hook, (∃ e, H = kHook K as e) → r.Holds) → r.Holds) : KA := ⟨K, as⟩
local macro_rules | `(tactic| o_head $H) => `(tactic| (rename_i hh; exact hh $H ⟨_, rfl⟩))
noncomputable def ka : KA := pickK (r := rr) (fun _ => by k_head)
theorem ka_e (P : Params) : KA.as ka = (ka.heap_1 P).map (·.1) := by kernel_rfl
noncomputable def runC : World → OsState → Option SharedT := fun w os => One.runX PySem.Challenge.pw_holdlane_k15_parts_made_or_refused 5431 w os
noncomputable def looksC := fun (w : World) (os : OsState) => One.looksX PySem.Challenge.pw_holdlane_k15_parts_made_or_refused q loose Xt 5431 w os
noncomputable def goodC := some (true, openGood q loose)
theorem runC_e : runC = runC := rfl
name_quick runQ for HD.runC by HD.runC_e
theorem looksC_e : looksC = looksC := rfl
name_quick looksQ for HD.looksC by HD.looksC_e
theorem goodC_e : goodC = goodC := rfl
name_quick goodQ for HD.goodC by HD.goodC_e
theorem A0 (w : World) (os : OsState) : PySem.W.Fast.looksQ (w.withFollow "special-get-raises" false) os = PySem.W.Fast.goodQ := by kernel_rfl
theorem B0_0 (w : World) (os : OsState) : (PySem.W.Fast.runQ (w.withFollow "special-get-raises" false) os).map (fun s => (KA.as ka).map (One.getT s)) = some ((ka.heap_1 (w.withFollow "special-get-raises" false).params).map fun p => some p.2) := by kernel_rfl
theorem B0 (w : World) (os : OsState) : (PySem.W.Fast.runQ (w.withFollow "special-get-raises" false) os).map (fun s => (KA.as ka).map (One.getT s)) = some ((ka.heap_1 (w.withFollow "special-get-raises" false).params).map fun p => some p.2) := B0_0 w os
theorem A1 (w : World) (os : OsState) : PySem.W.Fast.looksQ (w.withFollow "special-get-raises" true) os = PySem.W.Fast.goodQ := by kernel_rfl
theorem B1_0 (w : World) (os : OsState) : (PySem.W.Fast.runQ (w.withFollow "special-get-raises" true) os).map (fun s => (KA.as ka).map (One.getT s)) = some ((ka.heap_1 (w.withFollow "special-get-raises" true).params).map fun p => some p.2) := by kernel_rfl
theorem B1 (w : World) (os : OsState) : (PySem.W.Fast.runQ (w.withFollow "special-get-raises" true) os).map (fun s => (KA.as ka).map (One.getT s)) = some ((ka.heap_1 (w.withFollow "special-get-raises" true).params).map fun p => some p.2) := B1_0 w os
theorem A (w : World) : ∀ os, looksC w os = goodC := by
  rw [PySem.W.Fast.looksQ_eq, PySem.W.Fast.goodQ_eq]
  exact byRow2 "special-get-raises" (P := fun w => ∀ os, PySem.W.Fast.looksQ w os = PySem.W.Fast.goodQ) A0 A1 w
theorem B (w : World) : ∀ os, (runC w os).map (fun s => (KA.as ka).map (One.getT s)) = some ((ka.heap_1 w.params).map fun p => some p.2) := by
  rw [PySem.W.Fast.runQ_eq]
  exact byRow2 "special-get-raises" (P := fun w => ∀ os, (PySem.W.Fast.runQ w os).map (fun s => (KA.as ka).map (One.getT s)) = some ((ka.heap_1 w.params).map fun p => some p.2)) B0 B1 w
theorem head {d : DefRec} {kwd : List (PySem.Str × Expr)}
    (hdef : defOf q rr.name = some (d, kwd)) (hp : rr.prog.theDef rr.name = some (d.params, d.body, d.scope)) (hk : kwWritten? d.params.kwonlyargs d.params.kw_defaults = some kwd) (hwr : (!rr.writes || rr.records.isEmpty) = true)
    (k1 : rr.wellSaid = true) (ok : (chainsOk q && opensWell rr.prog && (frees rr.toRowW && rr.within.isEmpty)) = true) (hb : rr.prog.bare) (ho : opening PySem.Challenge.pw_holdlane_k15_parts_made_or_refused = plainProg (PySem.Challenge.pw_holdlane_k15_parts_made_or_refused).main.scope.names) (f : ∀ s, fenceModules? PySem.Challenge.pw_holdlane_k15_parts_made_or_refused s = some s)
    (hw : rr.toRowW.promised) (hc : WalkO q loose (XL q []) (Hook.says (kHook ka.heap_1 (KA.as ka) ka_e)) rr.toRowW d kwd fun f vs => PySem.call f vs) : rr.Holds := by
  have left : LeftO PySem.Challenge.pw_holdlane_k15_parts_made_or_refused q loose Xt (Hook.obs (kHook ka.heap_1 (KA.as ka) ka_e)) (Hook.val (kHook ka.heap_1 (KA.as ka) ka_e)) 11442 := One.left_of (M := 5431) ho rfl f rfl A fun w os => One.hook_of (B w os)
  exact holds_open (XP := XL q []) (YP := Hook.says (kHook ka.heap_1 (KA.as ka) ka_e)) left (Hook.of _) (Hook.keeps _) (fun s z => xl_of s (Bool.and_eq_true_iff.mp z).1) XL.keeps hdef hp hk (fun s z => recFacts_of (Bool.and_eq_true_iff.mp z).2) hwr k1 ok hb hw hc
end HD
namespace K15
open PySem L2
def top (i : Nat) : Stmt := PySem.Challenge.pw_holdlane_k15_parts_made_or_refused.main.body.getD i (.Pass ⟨0, 0, 0, 0⟩)
abbrev s_NoKind___init__ : Stmt := inClass (top 3) 0
abbrev s_BadNumbers___init__ : Stmt := inClass (top 4) 0
abbrev s_BadLanes___init__ : Stmt := inClass (top 5) 0
abbrev s_is_whole : Stmt := top 8
abbrev s_is_value : Stmt := top 9
abbrev s_Part___init__ : Stmt := inClass (top 12) 0
abbrev s_Give_kind : Stmt := inClass (top 13) 0
abbrev s_Take_kind : Stmt := inClass (top 14) 0
abbrev s_Pass_kind : Stmt := inClass (top 15) 0
abbrev s_Copy_kind : Stmt := inClass (top 16) 0
abbrev s_Turn_kind : Stmt := inClass (top 17) 0
abbrev s_Heap_kind : Stmt := inClass (top 18) 0
abbrev s_Add_kind : Stmt := inClass (top 19) 0
abbrev s_Less_kind : Stmt := inClass (top 20) 0
abbrev s_Order_kind : Stmt := inClass (top 21) 0
abbrev s_Choose_kind : Stmt := inClass (top 22) 0
abbrev s_Split_kind : Stmt := inClass (top 23) 0
abbrev s_is_kind : Stmt := top 24
abbrev s_need_fit : Stmt := top 25
abbrev s_made_of : Stmt := top 26
abbrev s_part_made : Stmt := top 27
abbrev s__law_mix : Stmt := top 29
abbrev s__law_value : Stmt := top 30
abbrev s__law_word : Stmt := top 31
abbrev s__law_kinds : Stmt := top 32
abbrev s__law_kind : Stmt := top 33
abbrev s__law_many : Stmt := top 34
abbrev s__law_lists : Stmt := top 35
abbrev s__law_are_values : Stmt := top 36
abbrev s__law_due : Stmt := top 37
abbrev s__law_marks : Stmt := top 38
abbrev s__law_good : Stmt := top 39
abbrev s__law_by_class : Stmt := top 40
abbrev s__law_made : Stmt := top 41
abbrev s_law : Stmt := top 42
/-- the addresses that the top has given -/
structure Adr where
  f_NoKind___init__ : Addr
  fd_NoKind___init__ : FuncData
  f_BadNumbers___init__ : Addr
  fd_BadNumbers___init__ : FuncData
  f_BadLanes___init__ : Addr
  fd_BadLanes___init__ : FuncData
  f_is_whole : Addr
  fd_is_whole : FuncData
  f_is_value : Addr
  fd_is_value : FuncData
  f_Part___init__ : Addr
  fd_Part___init__ : FuncData
  f_Give_kind : Addr
  fd_Give_kind : FuncData
  f_Take_kind : Addr
  fd_Take_kind : FuncData
  f_Pass_kind : Addr
  fd_Pass_kind : FuncData
  f_Copy_kind : Addr
  fd_Copy_kind : FuncData
  f_Turn_kind : Addr
  fd_Turn_kind : FuncData
  f_Heap_kind : Addr
  fd_Heap_kind : FuncData
  f_Add_kind : Addr
  fd_Add_kind : FuncData
  f_Less_kind : Addr
  fd_Less_kind : FuncData
  f_Order_kind : Addr
  fd_Order_kind : FuncData
  f_Choose_kind : Addr
  fd_Choose_kind : FuncData
  f_Split_kind : Addr
  fd_Split_kind : FuncData
  f_is_kind : Addr
  fd_is_kind : FuncData
  f_need_fit : Addr
  fd_need_fit : FuncData
  f_made_of : Addr
  fd_made_of : FuncData
  f_part_made : Addr
  fd_part_made : FuncData
  f__law_mix : Addr
  fd__law_mix : FuncData
  f__law_value : Addr
  fd__law_value : FuncData
  f__law_word : Addr
  fd__law_word : FuncData
  f__law_kinds : Addr
  fd__law_kinds : FuncData
  f__law_kind : Addr
  fd__law_kind : FuncData
  f__law_many : Addr
  fd__law_many : FuncData
  f__law_lists : Addr
  fd__law_lists : FuncData
  f__law_are_values : Addr
  fd__law_are_values : FuncData
  f__law_due : Addr
  fd__law_due : FuncData
  f__law_marks : Addr
  fd__law_marks : FuncData
  f__law_good : Addr
  fd__law_good : FuncData
  f__law_by_class : Addr
  fd__law_by_class : FuncData
  f__law_made : Addr
  fd__law_made : FuncData
  f_law : Addr
  fd_law : FuncData
  C_Give : Addr
  C_Take : Addr
  C_Pass : Addr
  C_Copy : Addr
  C_Turn : Addr
  C_Heap : Addr
  C_Add : Addr
  C_Less : Addr
  C_Order : Addr
  C_Choose : Addr
  C_Split : Addr
  o_COUNTS : Addr
  C_LaneError : Addr
  C_Part : Addr
  C_NoKind : Addr
  C_BadNumbers : Addr
  C_BadLanes : Addr
/-- what the walk asks of the text as the top has made it -/

abbrev ROWS : List (Str × List Int) := [("give", [0, 0, 1]), ("take", [0, 1, 0]), ("pass", [0, 1, 1]), ("copy", [0, 1, 2]), ("turn", [2, 1, 1]), ("heap", [1, 1, 1]), ("add", [0, 2, 1]), ("less", [0, 2, 1]), ("order", [0, 2, 2]), ("choose", [0, 3, 1]), ("split", [0, 2, 2])]
structure Txt (w : World) (K : PySem.W.Frag) (mg : Str → Option Value) (t : Adr) : Prop where
  F_NoKind___init__ : Fun K "__init__" "NoKind.__init__" s_NoKind___init__ t.f_NoKind___init__ t.fd_NoKind___init__
  b_NoKind___init__ : Binds K t.fd_NoKind___init__ ["self", "word"] []
  F_BadNumbers___init__ : Fun K "__init__" "BadNumbers.__init__" s_BadNumbers___init__ t.f_BadNumbers___init__ t.fd_BadNumbers___init__
  b_BadNumbers___init__ : Binds K t.fd_BadNumbers___init__ ["self", "name"] []
  F_BadLanes___init__ : Fun K "__init__" "BadLanes.__init__" s_BadLanes___init__ t.f_BadLanes___init__ t.fd_BadLanes___init__
  b_BadLanes___init__ : Binds K t.fd_BadLanes___init__ ["self", "name"] []
  F_is_whole : Fun K "is_whole" "is_whole" s_is_whole t.f_is_whole t.fd_is_whole
  b_is_whole : Binds K t.fd_is_whole ["thing"] []
  m_is_whole : mg "is_whole" = some (.ref t.f_is_whole)
  F_is_value : Fun K "is_value" "is_value" s_is_value t.f_is_value t.fd_is_value
  b_is_value : Binds K t.fd_is_value ["thing"] []
  m_is_value : mg "is_value" = some (.ref t.f_is_value)
  F_Part___init__ : Fun K "__init__" "Part.__init__" s_Part___init__ t.f_Part___init__ t.fd_Part___init__
  b_Part___init__ : Binds K t.fd_Part___init__ ["self", "name", "numbers", "ins", "outs"] []
  F_Give_kind : Fun K "kind" "Give.kind" s_Give_kind t.f_Give_kind t.fd_Give_kind
  b_Give_kind : Binds K t.fd_Give_kind ["self"] []
  F_Take_kind : Fun K "kind" "Take.kind" s_Take_kind t.f_Take_kind t.fd_Take_kind
  b_Take_kind : Binds K t.fd_Take_kind ["self"] []
  F_Pass_kind : Fun K "kind" "Pass.kind" s_Pass_kind t.f_Pass_kind t.fd_Pass_kind
  b_Pass_kind : Binds K t.fd_Pass_kind ["self"] []
  F_Copy_kind : Fun K "kind" "Copy.kind" s_Copy_kind t.f_Copy_kind t.fd_Copy_kind
  b_Copy_kind : Binds K t.fd_Copy_kind ["self"] []
  F_Turn_kind : Fun K "kind" "Turn.kind" s_Turn_kind t.f_Turn_kind t.fd_Turn_kind
  b_Turn_kind : Binds K t.fd_Turn_kind ["self"] []
  F_Heap_kind : Fun K "kind" "Heap.kind" s_Heap_kind t.f_Heap_kind t.fd_Heap_kind
  b_Heap_kind : Binds K t.fd_Heap_kind ["self"] []
  F_Add_kind : Fun K "kind" "Add.kind" s_Add_kind t.f_Add_kind t.fd_Add_kind
  b_Add_kind : Binds K t.fd_Add_kind ["self"] []
  F_Less_kind : Fun K "kind" "Less.kind" s_Less_kind t.f_Less_kind t.fd_Less_kind
  b_Less_kind : Binds K t.fd_Less_kind ["self"] []
  F_Order_kind : Fun K "kind" "Order.kind" s_Order_kind t.f_Order_kind t.fd_Order_kind
  b_Order_kind : Binds K t.fd_Order_kind ["self"] []
  F_Choose_kind : Fun K "kind" "Choose.kind" s_Choose_kind t.f_Choose_kind t.fd_Choose_kind
  b_Choose_kind : Binds K t.fd_Choose_kind ["self"] []
  F_Split_kind : Fun K "kind" "Split.kind" s_Split_kind t.f_Split_kind t.fd_Split_kind
  b_Split_kind : Binds K t.fd_Split_kind ["self"] []
  F_is_kind : Fun K "is_kind" "is_kind" s_is_kind t.f_is_kind t.fd_is_kind
  b_is_kind : Binds K t.fd_is_kind ["word"] []
  m_is_kind : mg "is_kind" = some (.ref t.f_is_kind)
  F_need_fit : Fun K "need_fit" "need_fit" s_need_fit t.f_need_fit t.fd_need_fit
  b_need_fit : Binds K t.fd_need_fit ["kind", "name", "numbers", "ins", "outs"] []
  m_need_fit : mg "need_fit" = some (.ref t.f_need_fit)
  F_made_of : Fun K "made_of" "made_of" s_made_of t.f_made_of t.fd_made_of
  b_made_of : Binds K t.fd_made_of ["kind", "name", "numbers", "ins", "outs"] []
  m_made_of : mg "made_of" = some (.ref t.f_made_of)
  F_part_made : Fun K "part_made" "part_made" s_part_made t.f_part_made t.fd_part_made
  b_part_made : Binds K t.fd_part_made ["kind", "name", "numbers", "ins", "outs"] []
  m_part_made : mg "part_made" = some (.ref t.f_part_made)
  F__law_mix : Fun K "_law_mix" "_law_mix" s__law_mix t.f__law_mix t.fd__law_mix
  b__law_mix : Binds K t.fd__law_mix ["_law_cell", "_law_k"] []
  m__law_mix : mg "_law_mix" = some (.ref t.f__law_mix)
  F__law_value : Fun K "_law_value" "_law_value" s__law_value t.f__law_value t.fd__law_value
  b__law_value : Binds K t.fd__law_value ["_law_cell", "_law_k"] []
  m__law_value : mg "_law_value" = some (.ref t.f__law_value)
  F__law_word : Fun K "_law_word" "_law_word" s__law_word t.f__law_word t.fd__law_word
  b__law_word : Binds K t.fd__law_word ["_law_cell", "_law_k"] []
  m__law_word : mg "_law_word" = some (.ref t.f__law_word)
  F__law_kinds : Fun K "_law_kinds" "_law_kinds" s__law_kinds t.f__law_kinds t.fd__law_kinds
  b__law_kinds : Binds K t.fd__law_kinds [] []
  m__law_kinds : mg "_law_kinds" = some (.ref t.f__law_kinds)
  F__law_kind : Fun K "_law_kind" "_law_kind" s__law_kind t.f__law_kind t.fd__law_kind
  b__law_kind : Binds K t.fd__law_kind ["_law_cell"] []
  m__law_kind : mg "_law_kind" = some (.ref t.f__law_kind)
  F__law_many : Fun K "_law_many" "_law_many" s__law_many t.f__law_many t.fd__law_many
  b__law_many : Binds K t.fd__law_many ["_law_many_here", "_law_number"] []
  m__law_many : mg "_law_many" = some (.ref t.f__law_many)
  F__law_lists : Fun K "_law_lists" "_law_lists" s__law_lists t.f__law_lists t.fd__law_lists
  b__law_lists : Binds K t.fd__law_lists ["_law_cell", "_law_many_here", "_law_ins", "_law_outs"] []
  m__law_lists : mg "_law_lists" = some (.ref t.f__law_lists)
  F__law_are_values : Fun K "_law_are_values" "_law_are_values" s__law_are_values t.f__law_are_values t.fd__law_are_values
  b__law_are_values : Binds K t.fd__law_are_values ["_law_numbers"] []
  m__law_are_values : mg "_law_are_values" = some (.ref t.f__law_are_values)
  F__law_due : Fun K "_law_due" "_law_due" s__law_due t.f__law_due t.fd__law_due
  b__law_due : Binds K t.fd__law_due ["_law_kind_here", "_law_name", "_law_numbers", "_law_ins", "_law_outs"] []
  m__law_due : mg "_law_due" = some (.ref t.f__law_due)
  F__law_marks : Fun K "_law_marks" "_law_marks" s__law_marks t.f__law_marks t.fd__law_marks
  b__law_marks : Binds K t.fd__law_marks ["_law_one"] []
  m__law_marks : mg "_law_marks" = some (.ref t.f__law_marks)
  F__law_good : Fun K "_law_good" "_law_good" s__law_good t.f__law_good t.fd__law_good
  b__law_good : Binds K t.fd__law_good ["_law_one", "_law_kind_here", "_law_name", "_law_numbers", "_law_ins", "_law_outs"] []
  m__law_good : mg "_law_good" = some (.ref t.f__law_good)
  F__law_by_class : Fun K "_law_by_class" "_law_by_class" s__law_by_class t.f__law_by_class t.fd__law_by_class
  b__law_by_class : Binds K t.fd__law_by_class ["_law_kind_here", "_law_name", "_law_numbers", "_law_ins", "_law_outs"] []
  m__law_by_class : mg "_law_by_class" = some (.ref t.f__law_by_class)
  F__law_made : Fun K "_law_made" "_law_made" s__law_made t.f__law_made t.fd__law_made
  b__law_made : Binds K t.fd__law_made ["_law_cell"] []
  m__law_made : mg "_law_made" = some (.ref t.f__law_made)
  F_law : Fun K "law" "law" s_law t.f_law t.fd_law
  b_law : Binds K t.fd_law ["_law_script"] []
  m_law : mg "law" = some (.ref t.f_law)
  c_Give : Cls K t.C_Give
  mc_Give : mg "Give" = some (.ref t.C_Give)
  M_Give : Mk K t.C_Give t.f_Part___init__
  me_Give_kind : Meth K t.C_Give "kind" t.f_Give_kind
  na_Give_name : NoAttr K t.C_Give "name"
  na_Give_numbers : NoAttr K t.C_Give "numbers"
  na_Give_ins : NoAttr K t.C_Give "ins"
  na_Give_outs : NoAttr K t.C_Give "outs"
  c_Take : Cls K t.C_Take
  mc_Take : mg "Take" = some (.ref t.C_Take)
  M_Take : Mk K t.C_Take t.f_Part___init__
  me_Take_kind : Meth K t.C_Take "kind" t.f_Take_kind
  na_Take_name : NoAttr K t.C_Take "name"
  na_Take_numbers : NoAttr K t.C_Take "numbers"
  na_Take_ins : NoAttr K t.C_Take "ins"
  na_Take_outs : NoAttr K t.C_Take "outs"
  c_Pass : Cls K t.C_Pass
  mc_Pass : mg "Pass" = some (.ref t.C_Pass)
  M_Pass : Mk K t.C_Pass t.f_Part___init__
  me_Pass_kind : Meth K t.C_Pass "kind" t.f_Pass_kind
  na_Pass_name : NoAttr K t.C_Pass "name"
  na_Pass_numbers : NoAttr K t.C_Pass "numbers"
  na_Pass_ins : NoAttr K t.C_Pass "ins"
  na_Pass_outs : NoAttr K t.C_Pass "outs"
  c_Copy : Cls K t.C_Copy
  mc_Copy : mg "Copy" = some (.ref t.C_Copy)
  M_Copy : Mk K t.C_Copy t.f_Part___init__
  me_Copy_kind : Meth K t.C_Copy "kind" t.f_Copy_kind
  na_Copy_name : NoAttr K t.C_Copy "name"
  na_Copy_numbers : NoAttr K t.C_Copy "numbers"
  na_Copy_ins : NoAttr K t.C_Copy "ins"
  na_Copy_outs : NoAttr K t.C_Copy "outs"
  c_Turn : Cls K t.C_Turn
  mc_Turn : mg "Turn" = some (.ref t.C_Turn)
  M_Turn : Mk K t.C_Turn t.f_Part___init__
  me_Turn_kind : Meth K t.C_Turn "kind" t.f_Turn_kind
  na_Turn_name : NoAttr K t.C_Turn "name"
  na_Turn_numbers : NoAttr K t.C_Turn "numbers"
  na_Turn_ins : NoAttr K t.C_Turn "ins"
  na_Turn_outs : NoAttr K t.C_Turn "outs"
  c_Heap : Cls K t.C_Heap
  mc_Heap : mg "Heap" = some (.ref t.C_Heap)
  M_Heap : Mk K t.C_Heap t.f_Part___init__
  me_Heap_kind : Meth K t.C_Heap "kind" t.f_Heap_kind
  na_Heap_name : NoAttr K t.C_Heap "name"
  na_Heap_numbers : NoAttr K t.C_Heap "numbers"
  na_Heap_ins : NoAttr K t.C_Heap "ins"
  na_Heap_outs : NoAttr K t.C_Heap "outs"
  c_Add : Cls K t.C_Add
  mc_Add : mg "Add" = some (.ref t.C_Add)
  M_Add : Mk K t.C_Add t.f_Part___init__
  me_Add_kind : Meth K t.C_Add "kind" t.f_Add_kind
  na_Add_name : NoAttr K t.C_Add "name"
  na_Add_numbers : NoAttr K t.C_Add "numbers"
  na_Add_ins : NoAttr K t.C_Add "ins"
  na_Add_outs : NoAttr K t.C_Add "outs"
  c_Less : Cls K t.C_Less
  mc_Less : mg "Less" = some (.ref t.C_Less)
  M_Less : Mk K t.C_Less t.f_Part___init__
  me_Less_kind : Meth K t.C_Less "kind" t.f_Less_kind
  na_Less_name : NoAttr K t.C_Less "name"
  na_Less_numbers : NoAttr K t.C_Less "numbers"
  na_Less_ins : NoAttr K t.C_Less "ins"
  na_Less_outs : NoAttr K t.C_Less "outs"
  c_Order : Cls K t.C_Order
  mc_Order : mg "Order" = some (.ref t.C_Order)
  M_Order : Mk K t.C_Order t.f_Part___init__
  me_Order_kind : Meth K t.C_Order "kind" t.f_Order_kind
  na_Order_name : NoAttr K t.C_Order "name"
  na_Order_numbers : NoAttr K t.C_Order "numbers"
  na_Order_ins : NoAttr K t.C_Order "ins"
  na_Order_outs : NoAttr K t.C_Order "outs"
  c_Choose : Cls K t.C_Choose
  mc_Choose : mg "Choose" = some (.ref t.C_Choose)
  M_Choose : Mk K t.C_Choose t.f_Part___init__
  me_Choose_kind : Meth K t.C_Choose "kind" t.f_Choose_kind
  na_Choose_name : NoAttr K t.C_Choose "name"
  na_Choose_numbers : NoAttr K t.C_Choose "numbers"
  na_Choose_ins : NoAttr K t.C_Choose "ins"
  na_Choose_outs : NoAttr K t.C_Choose "outs"
  c_Split : Cls K t.C_Split
  mc_Split : mg "Split" = some (.ref t.C_Split)
  M_Split : Mk K t.C_Split t.f_Part___init__
  me_Split_kind : Meth K t.C_Split "kind" t.f_Split_kind
  na_Split_name : NoAttr K t.C_Split "name"
  na_Split_numbers : NoAttr K t.C_Split "numbers"
  na_Split_ins : NoAttr K t.C_Split "ins"
  na_Split_outs : NoAttr K t.C_Split "outs"
  mt_COUNTS : mg "COUNTS" = some (.ref t.o_COUNTS)
  t_COUNTS : KTab w K t.o_COUNTS ROWS
  n_all : mg "all" = none
  n_bool : mg "bool" = none
  n_int : mg "int" = none
  n_isinstance : mg "isinstance" = none
  n_len : mg "len" = none
  n_list : mg "list" = none
  n_max : mg "max" = none
  n_range : mg "range" = none
  n_str : mg "str" = none
  n_tuple : mg "tuple" = none
  g_VALUES : ∃ u, mg "VALUES" = some u ∧ RelV (.int 1000000000) u
  mc_LaneError : mg "LaneError" = some (.ref t.C_LaneError)
  mc_Part : mg "Part" = some (.ref t.C_Part)
  mc_NoKind : mg "NoKind" = some (.ref t.C_NoKind)
  mc_BadNumbers : mg "BadNumbers" = some (.ref t.C_BadNumbers)
  mc_BadLanes : mg "BadLanes" = some (.ref t.C_BadLanes)
  bi_LaneError : BaseI K t.C_LaneError
  tab : tabO K [t.C_Give, t.C_Take, t.C_Pass, t.C_Copy, t.C_Turn, t.C_Heap, t.C_Add, t.C_Less, t.C_Order, t.C_Choose, t.C_Split] t.C_Part = true
  sb_BadNumbers_NoKind : PySem.W.subIn K (.ref t.C_BadNumbers) (.ref t.C_NoKind) = some false
  sb_BadLanes_NoKind : PySem.W.subIn K (.ref t.C_BadLanes) (.ref t.C_NoKind) = some false
  sb_BadLanes_BadNumbers : PySem.W.subIn K (.ref t.C_BadLanes) (.ref t.C_BadNumbers) = some false
  X_NoKind : MkX K t.C_NoKind t.f_NoKind___init__
  xf_NoKind : XfK K t.C_NoKind
  na_NoKind : NoAttr K t.C_NoKind "word"
  xa_NoKind : ExcAt K t.C_NoKind
  X_BadNumbers : MkX K t.C_BadNumbers t.f_BadNumbers___init__
  xf_BadNumbers : XfK K t.C_BadNumbers
  na_BadNumbers : NoAttr K t.C_BadNumbers "name"
  xa_BadNumbers : ExcAt K t.C_BadNumbers
  X_BadLanes : MkX K t.C_BadLanes t.f_BadLanes___init__
  xf_BadLanes : XfK K t.C_BadLanes
  na_BadLanes : NoAttr K t.C_BadLanes "name"
  xa_BadLanes : ExcAt K t.C_BadLanes
section
variable {P : Program} {w : World} {K : PySem.W.Frag} {mg : Str → Option Value} {base : Heap} {t : Adr}

def kname (i : Nat) : Str := match i with
  | 0 => "give"
  | 1 => "take"
  | 2 => "pass"
  | 3 => "copy"
  | 4 => "turn"
  | 5 => "heap"
  | 6 => "add"
  | 7 => "less"
  | 8 => "order"
  | 9 => "choose"
  | _ => "split"
def cN (i : Nat) : Nat := match i with
  | 0 => 0
  | 1 => 0
  | 2 => 0
  | 3 => 0
  | 4 => 2
  | 5 => 1
  | 6 => 0
  | 7 => 0
  | 8 => 0
  | 9 => 0
  | _ => 0
def cI (i : Nat) : Nat := match i with
  | 0 => 0
  | 1 => 1
  | 2 => 1
  | 3 => 1
  | 4 => 1
  | 5 => 1
  | 6 => 2
  | 7 => 2
  | 8 => 2
  | 9 => 3
  | _ => 2
def cO (i : Nat) : Nat := match i with
  | 0 => 1
  | 1 => 0
  | 2 => 1
  | 3 => 2
  | 4 => 1
  | 5 => 1
  | 6 => 1
  | 7 => 1
  | 8 => 2
  | 9 => 1
  | _ => 2
def cls (t : Adr) (i : Nat) : Addr := match i with
  | 0 => t.C_Give
  | 1 => t.C_Take
  | 2 => t.C_Pass
  | 3 => t.C_Copy
  | 4 => t.C_Turn
  | 5 => t.C_Heap
  | 6 => t.C_Add
  | 7 => t.C_Less
  | 8 => t.C_Order
  | 9 => t.C_Choose
  | _ => t.C_Split
theorem row_of (i : Nat) : rowOf ROWS (kname i) = some [((cN i : Nat) : Int), ((cI i : Nat) : Int), ((cO i : Nat) : Int)] := match i with
  | 0 => by show rowOf ROWS "give" = some [0, 0, 1]; decide +kernel
  | 1 => by show rowOf ROWS "take" = some [0, 1, 0]; decide +kernel
  | 2 => by show rowOf ROWS "pass" = some [0, 1, 1]; decide +kernel
  | 3 => by show rowOf ROWS "copy" = some [0, 1, 2]; decide +kernel
  | 4 => by show rowOf ROWS "turn" = some [2, 1, 1]; decide +kernel
  | 5 => by show rowOf ROWS "heap" = some [1, 1, 1]; decide +kernel
  | 6 => by show rowOf ROWS "add" = some [0, 2, 1]; decide +kernel
  | 7 => by show rowOf ROWS "less" = some [0, 2, 1]; decide +kernel
  | 8 => by show rowOf ROWS "order" = some [0, 2, 2]; decide +kernel
  | 9 => by show rowOf ROWS "choose" = some [0, 3, 1]; decide +kernel
  | n + 10 => by show rowOf ROWS "split" = some [0, 2, 2]; decide +kernel
theorem cls_ok (T : Txt w K mg t) (i : Nat) : Cls K (cls t i) := match i with
  | 0 => T.c_Give
  | 1 => T.c_Take
  | 2 => T.c_Pass
  | 3 => T.c_Copy
  | 4 => T.c_Turn
  | 5 => T.c_Heap
  | 6 => T.c_Add
  | 7 => T.c_Less
  | 8 => T.c_Order
  | 9 => T.c_Choose
  | n + 10 => T.c_Split
theorem na_name (T : Txt w K mg t) (i : Nat) : NoAttr K (cls t i) "name" := match i with
  | 0 => T.na_Give_name
  | 1 => T.na_Take_name
  | 2 => T.na_Pass_name
  | 3 => T.na_Copy_name
  | 4 => T.na_Turn_name
  | 5 => T.na_Heap_name
  | 6 => T.na_Add_name
  | 7 => T.na_Less_name
  | 8 => T.na_Order_name
  | 9 => T.na_Choose_name
  | n + 10 => T.na_Split_name
theorem na_numbers (T : Txt w K mg t) (i : Nat) : NoAttr K (cls t i) "numbers" := match i with
  | 0 => T.na_Give_numbers
  | 1 => T.na_Take_numbers
  | 2 => T.na_Pass_numbers
  | 3 => T.na_Copy_numbers
  | 4 => T.na_Turn_numbers
  | 5 => T.na_Heap_numbers
  | 6 => T.na_Add_numbers
  | 7 => T.na_Less_numbers
  | 8 => T.na_Order_numbers
  | 9 => T.na_Choose_numbers
  | n + 10 => T.na_Split_numbers
theorem na_ins (T : Txt w K mg t) (i : Nat) : NoAttr K (cls t i) "ins" := match i with
  | 0 => T.na_Give_ins
  | 1 => T.na_Take_ins
  | 2 => T.na_Pass_ins
  | 3 => T.na_Copy_ins
  | 4 => T.na_Turn_ins
  | 5 => T.na_Heap_ins
  | 6 => T.na_Add_ins
  | 7 => T.na_Less_ins
  | 8 => T.na_Order_ins
  | 9 => T.na_Choose_ins
  | n + 10 => T.na_Split_ins
theorem na_outs (T : Txt w K mg t) (i : Nat) : NoAttr K (cls t i) "outs" := match i with
  | 0 => T.na_Give_outs
  | 1 => T.na_Take_outs
  | 2 => T.na_Pass_outs
  | 3 => T.na_Copy_outs
  | 4 => T.na_Turn_outs
  | 5 => T.na_Heap_outs
  | 6 => T.na_Add_outs
  | 7 => T.na_Less_outs
  | 8 => T.na_Order_outs
  | 9 => T.na_Choose_outs
  | n + 10 => T.na_Split_outs

theorem cN_le (i : Nat) : cN i ≤ 2 := match i with
  | 0 => by show 0 ≤ 2; decide
  | 1 => by show 0 ≤ 2; decide
  | 2 => by show 0 ≤ 2; decide
  | 3 => by show 0 ≤ 2; decide
  | 4 => by show 2 ≤ 2; decide
  | 5 => by show 1 ≤ 2; decide
  | 6 => by show 0 ≤ 2; decide
  | 7 => by show 0 ≤ 2; decide
  | 8 => by show 0 ≤ 2; decide
  | 9 => by show 0 ≤ 2; decide
  | n + 10 => by show 0 ≤ 2; decide
theorem cI_le (i : Nat) : cI i ≤ 3 := match i with
  | 0 => by show 0 ≤ 3; decide
  | 1 => by show 1 ≤ 3; decide
  | 2 => by show 1 ≤ 3; decide
  | 3 => by show 1 ≤ 3; decide
  | 4 => by show 1 ≤ 3; decide
  | 5 => by show 1 ≤ 3; decide
  | 6 => by show 2 ≤ 3; decide
  | 7 => by show 2 ≤ 3; decide
  | 8 => by show 2 ≤ 3; decide
  | 9 => by show 3 ≤ 3; decide
  | n + 10 => by show 2 ≤ 3; decide
theorem cO_le (i : Nat) : cO i ≤ 2 := match i with
  | 0 => by show 1 ≤ 2; decide
  | 1 => by show 0 ≤ 2; decide
  | 2 => by show 1 ≤ 2; decide
  | 3 => by show 2 ≤ 2; decide
  | 4 => by show 1 ≤ 2; decide
  | 5 => by show 1 ≤ 2; decide
  | 6 => by show 1 ≤ 2; decide
  | 7 => by show 1 ≤ 2; decide
  | 8 => by show 2 ≤ 2; decide
  | 9 => by show 1 ≤ 2; decide
  | n + 10 => by show 2 ≤ 2; decide
theorem lenP {f : Str} {y : V} {fs : List (Str × V)} {n : Nat} (h : fs.length ≤ n) : (putF f y fs).length ≤ n + 1 := Nat.le_trans (length_putF f y fs) (Nat.succ_le_succ h)
def flds (nm : V) (tn ti to : Addr) : List (Str × V) := putF "outs" (.ref to) (putF "ins" (.ref ti) (putF "numbers" (.ref tn) (putF "name" nm [])))
theorem flds_name (nm : V) (tn ti to : Addr) : (flds nm tn ti to).lookup ("name" : Str) = some nm := by
  unfold flds
  rw [lookup_putF, if_neg (by decide +kernel), lookup_putF, if_neg (by decide +kernel), lookup_putF, if_neg (by decide +kernel), lookup_putF, if_pos rfl]
theorem flds_numbers (nm : V) (tn ti to : Addr) : (flds nm tn ti to).lookup ("numbers" : Str) = some (.ref tn) := by
  unfold flds
  rw [lookup_putF, if_neg (by decide +kernel), lookup_putF, if_neg (by decide +kernel), lookup_putF, if_pos rfl]
theorem flds_ins (nm : V) (tn ti to : Addr) : (flds nm tn ti to).lookup ("ins" : Str) = some (.ref ti) := by
  unfold flds
  rw [lookup_putF, if_neg (by decide +kernel), lookup_putF, if_pos rfl]
theorem flds_outs (nm : V) (tn ti to : Addr) : (flds nm tn ti to).lookup ("outs" : Str) = some (.ref to) := by
  unfold flds
  rw [lookup_putF, if_pos rfl]
theorem flds_no (nm : V) (tn ti to : Addr) {m : Str} (h1 : ¬ m = "outs") (h2 : ¬ m = "ins") (h3 : ¬ m = "numbers") (h4 : ¬ m = "name") : (flds nm tn ti to).lookup m = none := by
  unfold flds
  rw [lookup_putF, if_neg h1, lookup_putF, if_neg h2, lookup_putF, if_neg h3, lookup_putF, if_neg h4]
  all_goals rfl
/-- a part stands at p -/
structure PartAt (K : PySem.W.Frag) (t : Adr) (H : Hp) (p : Addr) (i : Nat) (nm : V) (ns is os : List V) : Prop where
  ex : ∃ dx tn ti to, H p = some (.ins (cls t i) dx (flds nm tn ti to)) ∧ SqT K H tn ns ∧ SqT K H ti is ∧ SqT K H to os
theorem PartAt.same {H H' : Hp} {p : Addr} {i : Nat} {nm : V} {ns is os : List V} (h : PartAt K t H p i nm ns is os) (s : Same H H') : PartAt K t H' p i nm ns is os := by
  obtain ⟨dx, tn, ti, to, h1, h2, h3, h4⟩ := h
  exact ⟨dx, tn, ti, to, s _ _ h1, s.seqT h2, s.seqT h3, s.seqT h4⟩
def sp_kind (i : Nat) : Sp := fun vs H Q _ => ∃ x, vs = [x] ∧ Q (.str (kname i)) H
def nV (j : Nat) : V := .int (j : Nat)
/-- a value of the document -/
def Val (v : V) : Prop := ∃ n : Int, v = .int n ∧ 0 ≤ n ∧ n < 1000000000
/-- what says itself as flat data -/
inductive Flat : PyData → Prop
  | non : Flat .none
  | int (i : Int) : Flat (.int i)
theorem eqvAll_flat : ∀ {ds : List PyData}, (∀ d ∈ ds, Flat d) → PyData.eqvAll ds ds = true
  | [], _ => by simp [PyData.eqvAll]
  | d :: r, h => by
    have ih := eqvAll_flat (ds := r) fun x hx => h x (List.mem_cons_of_mem _ hx)
    cases h d List.mem_cons_self with
    | non => simp [PyData.eqvAll, PyData.eqv, ih]
    | int i => simp [PyData.eqvAll, PyData.eqv, ih]
theorem canLay_flat : ∀ {ds : List PyData}, (∀ d ∈ ds, Flat d) → PyData.canLayAll0 ds = true
  | [], _ => by simp [PyData.canLayAll0]
  | d :: r, h => by
    have ih := canLay_flat (ds := r) fun x hx => h x (List.mem_cons_of_mem _ hx)
    cases h d List.mem_cons_self with
    | non => simp [PyData.canLayAll0, PyData.canLay0, ih]
    | int i => simp [PyData.canLayAll0, PyData.canLay0, ih]
theorem depth_flat : ∀ {ds : List PyData}, (∀ d ∈ ds, Flat d) → PyData.depthAll ds = 0
  | [], _ => by simp [PyData.depthAll]
  | d :: r, h => by
    have ih := depth_flat (ds := r) fun x hx => h x (List.mem_cons_of_mem _ hx)
    cases h d List.mem_cons_self with
    | non => simp [PyData.depthAll, PyData.depth, ih]
    | int i => simp [PyData.depthAll, PyData.depth, ih]
theorem shaped_flat {ds : List PyData} (h : ∀ d ∈ ds, Flat d) : SeqAt.shaped (.list ds) = true := by
  simp [SeqAt.shaped, PyData.canLay0, PyData.depth, canLay_flat h, depth_flat h]

theorem len_codes (x : Str) : x.cps.toList.length = x.length := by simp [Str.length]
/-- a sign of a text at a place within it -/
theorem sign_at {x : Str} {i : Int} (h0 : 0 ≤ i) (h1 : i < (x.length : Int)) : ∃ c, atI x.cps.toList i = some c ∧ c ∈ x.cps.toList := by
  have hi : i.toNat < x.cps.toList.length := by rw [len_codes]; omega
  have e : ((i.toNat : Nat) : Int) = i := by omega
  refine ⟨x.cps.toList[i.toNat], ?_, List.getElem_mem hi⟩
  have := atI_nat (xs := x.cps.toList) (j := i.toNat) (List.getElem?_eq_getElem hi)
  rw [e] at this
  exact this
theorem slice_asc {x : Str} (h : Asc x) (l u : Option Int) : Asc (Txt.slice x l u) := by
  intro c hc
  unfold Txt.slice at hc
  split at hc
  · exact h c hc
  · simp only [List.mem_filterMap] at hc
    obtain ⟨i, _, hi⟩ := hc
    exact h c (by
      have := Array.mem_of_getElem? hi
      simpa using this)
theorem cat_asc {x y : Str} (h1 : Asc x) (h2 : Asc y) : Asc (x ++ y) := by
  intro c hc
  rw [Str.cps_append] at hc
  simp only [Array.toList_append, List.mem_append] at hc
  exact hc.elim (h1 c) (h2 c)
theorem one_asc {c : Nat} (h : c < 128) : Asc ⟨#[c]⟩ := fun d hd => by
  have : d = c := by simpa using hd
  omega
theorem join_empty : ∀ (ws : List Str), (Str.join Str.empty ws).cps.toList = (ws.map fun w => w.cps.toList).flatten
  | [] => rfl
  | [w] => by simp [Str.join]
  | w :: v :: r => by
    have ih := join_empty (v :: r)
    show (w.cps ++ #[] ++ (Str.join Str.empty (v :: r)).cps).toList = _
    rw [Array.toList_append, ih]
    simp
theorem flat_len : ∀ (ws : List Str), (∀ w ∈ ws, w.length = 1) → (ws.map fun w => w.cps.toList).flatten.length = ws.length
  | [], _ => rfl
  | w :: r, h => by
    have h1 := h w (by simp)
    have h2 := flat_len r fun v hv => h v (by simp [hv])
    have h3 : w.cps.toList.length = w.length := by simp [Str.length]
    simp only [List.map_cons, List.flatten_cons, List.length_append, List.length_cons, h2, h3, h1]
    omega
theorem sum_le {n : Nat} : ∀ (ws : List Str), (∀ w ∈ ws, w.length ≤ n) → (ws.map (·.length)).sum ≤ ws.length * n
  | [], _ => by simp
  | w :: r, h => by
    have h1 := h w (by simp)
    have h2 := sum_le r fun v hv => h v (by simp [hv])
    simp only [List.map_cons, List.sum_cons, List.length_cons, Nat.add_mul]
    omega
theorem join_asc {ws : List Str} (h : ∀ w ∈ ws, Asc w ∧ w.length = 1) : Asc (Txt.join Str.empty ws) ∧ (Txt.join Str.empty ws).length = ws.length := by
  unfold Txt.join
  rw [StrLaws.glued_eq_join]
  constructor
  · intro c hc
    rw [join_empty] at hc
    simp only [List.mem_flatten, List.mem_map] at hc
    obtain ⟨l, ⟨w, hw, rfl⟩, hc⟩ := hc
    exact (h w hw).1 c hc
  · rw [← len_codes, join_empty]
    exact flat_len ws fun w hw => (h w hw).2
abbrev LT : Str := "abcdefghijklmnopqrstuvwxyz"
theorem lt_len : LT.length = 26 := by decide +kernel
theorem lt_asc : LT.cps.toList.all (fun c => decide (c < 128)) = true := by decide +kernel
theorem letter {n : Int} : ∃ c, atI LT.cps.toList (n % 26) = some c ∧ c < 128 := by
  have m0 : 0 ≤ n % 26 := Int.emod_nonneg _ (by decide)
  have m1 : n % 26 < 26 := Int.emod_lt_of_pos _ (by decide)
  obtain ⟨c, e, hm⟩ := sign_at (x := LT) m0 (by rw [lt_len]; exact m1)
  exact ⟨c, e, of_decide_eq_true (List.all_eq_true.mp lt_asc _ hm)⟩
theorem str_tab : (List.range 1800).all (fun i => (toString (Int.ofNat i) : Str).cps.toList.all (fun c => decide (c < 128)) && decide ((toString (Int.ofNat i) : Str).length ≤ 10)) = true := by decide +kernel
theorem str_small {n : Int} (h0 : 0 ≤ n) (h1 : n < 1800) : Asc (toString n : Str) ∧ (toString n : Str).length ≤ 10 := by
  obtain ⟨i, rfl⟩ : ∃ i : Nat, n = (i : Int) := ⟨n.toNat, by omega⟩
  have z := List.all_eq_true.mp str_tab i (List.mem_range.mpr (by omega))
  simp only [Bool.and_eq_true, decide_eq_true_eq] at z
  exact ⟨fun c hc => of_decide_eq_true (List.all_eq_true.mp z.1 c hc), z.2⟩
theorem log_small {n : Int} (h0 : 0 ≤ n) (h1 : n < 1800) : n.natAbs.log2 < 1920 := by
  have h2 : n.natAbs.log2 ≤ n.natAbs := Nat.log2_le_self _
  omega
/-- what stands among the numbers -/
def Num (v : V) : Prop := (∃ n : Int, v = .int n) ∨ v = .bl true ∨ v = .non ∨ v = .str "5"
def valB : V → Bool
  | .int i => decide (0 ≤ i) && decide (i < 1000000000)
  | _ => false
theorem isv {H : Hp} {x : V} {Q : VK} (hn : Num x) (q : Q (.bl (valB x)) H) : (∃ i : Int, x = .int i ∧ Q (.bl (decide (0 ≤ i) && decide (i < 1000000000))) H) ∨ ∃ Tx, tyN K H x Tx ∧ Tx ∈ kindTab ∧ Tx ≠ "int" ∧ Q (.bl false) H := by
  rcases hn with ⟨n, rfl⟩ | rfl | rfl | rfl
  · exact .inl ⟨n, rfl, q⟩
  · exact .inr ⟨"bool", rfl, by decide, by decide, q⟩
  · exact .inr ⟨"NoneType", rfl, by decide, by decide, q⟩
  · exact .inr ⟨"str", rfl, by decide, by decide, q⟩
def goodN (i : Nat) (ns : List V) : Bool := decide (ns.length = cN i) && ns.all valB
def goodL (i : Nat) (is os : List V) : Bool := decide (is.length = cI i) && decide (os.length = cO i)
/-- which kind a word is -/
def Kd (z : Str) : Option Nat → Prop
  | some i => i ≤ 10 ∧ z = kname i
  | none => rowOf ROWS z = none
theorem kname_apart : ∀ i, i < 11 → ∀ j, j < 11 → kname i = kname j → i = j := by decide +kernel
theorem kname_asc : ∀ i, i < 11 → (kname i).cps.toList.all (fun c => decide (c < 128)) = true := by decide +kernel
theorem Kd.ne {z : Str} (h : Kd z none) (j : Nat) : kname j ≠ z := fun e => by
  have := row_of j
  rw [e, show rowOf ROWS z = none from h] at this
  cases this
/-- what comes of a part's making -/
def Fit (t : Adr) (H : Hp) (E : XK) (z : Str) (nm : V) (ns is os : List V) (ok : Nat → Prop) : Prop :=
  (Kd z none ∧ ∀ dx H', Same H H' → H' dx = some (.xd [("word", .str z)]) → E (.ref t.C_NoKind) (some dx) H') ∨
  ∃ i, i ≤ 10 ∧ z = kname i ∧ (goodN i ns = false → ∀ dx H', Same H H' → H' dx = some (.xd [("name", nm)]) → E (.ref t.C_BadNumbers) (some dx) H') ∧
    (goodN i ns = true → goodL i is os = false → ∀ dx H', Same H H' → H' dx = some (.xd [("name", nm)]) → E (.ref t.C_BadLanes) (some dx) H') ∧ (goodN i ns = true → goodL i is os = true → ok i)
theorem Fit.map {H : Hp} {E : XK} {z : Str} {nm : V} {ns is os : List V} {ok ok' : Nat → Prop} (h : Fit t H E z nm ns is os ok) (f : ∀ i, i ≤ 10 → z = kname i → ok i → ok' i) : Fit t H E z nm ns is os ok' := by
  rcases h with h | ⟨i, hi, hz, h1, h2, h3⟩
  · exact .inl h
  · exact .inr ⟨i, hi, hz, h1, h2, fun a b => f i hi hz (h3 a b)⟩
theorem raised {H : Hp} {x C dx : Addr} {fs : List (Str × V)} (nx : H x = none) (nd : (upd H x (excN x C)) dx = none) (ne : dx ≠ x) :
    Same H (del (upd (upd (upd H x (excN x C)) x (excF x C dx)) dx (.xd fs)) x) ∧ (del (upd (upd (upd H x (excN x C)) x (excF x C dx)) dx (.xd fs)) x) dx = some (.xd fs) := by
  constructor
  · intro b o e
    have b1 : b ≠ x := ne_of_none e nx
    have b2 : b ≠ dx := ne_of_none e (by rw [upd_ne ne] at nd; exact nd)
    rw [del_ne b1, upd_ne b2, upd_ne b1, upd_ne b1]
    exact e
  · rw [del_ne ne]; exact upd_same
/-- what the law holds to be due -/
def dueO (z : Str) (nm : V) (ns is os : List V) : Option Nat → Option (Str × V)
  | none => some ("kind", .str z)
  | some i => if goodN i ns = true then (if goodL i is os = true then none else some ("lanes", nm)) else some ("numbers", nm)
def DueV (H : Hp) (dv : V) : Option (Str × V) → Prop
  | none => dv = .non
  | some (w, v) => ∃ r, dv = .ref r ∧ H r = some (.tup [.str w, v])
inductive Pl : V → PyData → Prop
  | int (i : Int) : Pl (.int i) (.int i)
  | str (x : Str) : Asc x → Pl (.str x) (.str x)
abbrev Pls : List V → List PyData → Prop := Paired Pl
theorem Pls.dts {H : Hp} : ∀ {xs : List V} {ds : List PyData}, Pls xs ds → Dts K H xs ds
  | _, _, .nil => .nil
  | _, _, .cons h t => .cons (by cases h with | int i => exact .int i | str x _ => exact .str x) (Pls.dts t)
theorem Pls.eqv : ∀ {xs : List V} {ds : List PyData}, Pls xs ds → PyData.eqvAll ds ds = true
  | _, _, .nil => by simp [PyData.eqvAll]
  | _, _, .cons h t => by
    have ih := Pls.eqv t
    cases h with
    | int i => simp [PyData.eqvAll, PyData.eqv, ih]
    | str x _ => simp [PyData.eqvAll, PyData.eqv, ih]
theorem Pls.lay : ∀ {xs : List V} {ds : List PyData}, Pls xs ds → PyData.canLayAll0 ds = true
  | _, _, .nil => by simp [PyData.canLayAll0]
  | _, _, .cons h t => by
    have ih := Pls.lay t
    cases h with
    | int i => simp [PyData.canLayAll0, PyData.canLay0, ih]
    | str x hx =>
      have := strOk_asc hx
      unfold PyData.canLayAll0
      rw [this, ih]
      rfl
theorem Pls.depth : ∀ {xs : List V} {ds : List PyData}, Pls xs ds → PyData.depthAll ds = 0
  | _, _, .nil => by simp [PyData.depthAll]
  | _, _, .cons h t => by
    have ih := Pls.depth t
    cases h with
    | int i => simp [PyData.depthAll, PyData.depth, ih]
    | str x _ => simp [PyData.depthAll, PyData.depth, ih]
theorem pls_of : ∀ {xs : List V}, (∀ v ∈ xs, (∃ n : Int, v = .int n) ∨ ∃ z, v = .str z ∧ Asc z) → ∃ ds, Pls xs ds
  | [], _ => ⟨[], .nil⟩
  | x :: r, h => by
    obtain ⟨ds, hd⟩ := pls_of (xs := r) fun v hv => h v (List.mem_cons_of_mem _ hv)
    rcases h x List.mem_cons_self with ⟨n, rfl⟩ | ⟨z, rfl, hz⟩
    · exact ⟨_, .cons (.int n) hd⟩
    · exact ⟨_, .cons (.str z hz) hd⟩
theorem tri_shaped {a b c : List V} {d1 d2 d3 : List PyData} (h1 : Pls a d1) (h2 : Pls b d2) (h3 : Pls c d3) : SeqAt.shaped (.tuple [.tuple d1, .tuple d2, .tuple d3]) = true := by
  simp [SeqAt.shaped, PyData.canLay0, PyData.canLayAll0, PyData.depth, PyData.depthAll, h1.lay, h1.depth, h2.lay, h2.depth, h3.lay, h3.depth]
theorem tri_eqv {a b c : List V} {d1 d2 d3 : List PyData} (h1 : Pls a d1) (h2 : Pls b d2) (h3 : Pls c d3) : PyData.eqv (.tuple [.tuple d1, .tuple d2, .tuple d3]) (.tuple [.tuple d1, .tuple d2, .tuple d3]) = true := by
  simp [PyData.eqv, PyData.eqvAll, h1.eqv, h2.eqv, h3.eqv]
theorem pair_shaped {x y : Str} (hx : Asc x) (hy : Asc y) : SeqAt.shaped (.tuple [.str x, .str y]) = true := by
  have h1 := strOk_asc hx
  have h2 := strOk_asc hy
  simp [SeqAt.shaped, PyData.canLay0, PyData.canLayAll0, PyData.depth, PyData.depthAll] at h1 h2 ⊢
  simp [h1, h2]
theorem pair_eqv (x y : Str) : PyData.eqv (.tuple [.str x, .str y]) (.tuple [.str x, .str y]) = true := by simp [PyData.eqv, PyData.eqvAll]
/-- an ascii text -/
def AscV (v : V) : Prop := ∃ z, v = .str z ∧ Asc z
def sp_NoKind___init__ (C : Addr) : Sp := fun vs H Q _ => ∃ (a : Addr) (v : V), vs = [.ref a, v] ∧ H a = some (excN a C) ∧ ∀ dx, H dx = none → dx ≠ a → Q .non (upd (upd H a (excF a C dx)) dx (.xd [("word", v)]))
theorem sc_NoKind___init__ : FnScope ["self", "word"] ["self", "word"] (defScope s_NoKind___init__) := ⟨rfl, rfl, rfl, by decide +kernel, rfl, by decide +kernel, by decide +kernel⟩
theorem ok_NoKind___init__ (T : Txt w K mg t) : FnOk P w K mg base CX0 1 t.f_NoKind___init__ t.fd_NoKind___init__ ["self", "word"] (sp_NoKind___init__ t.C_NoKind) := by
  have sc := sc_NoKind___init__
  refine T.F_NoKind___init__.ok sc (fun vs H Q E h => ?_) (fun cdv A outer s H vs Q E hr h => ?_)
  · obtain ⟨a, v, rfl, _⟩ := h
    rfl
  · obtain ⟨a, v, rfl, ea, k⟩ := h
    refine ⟨_, (pss_cons (ps_expr (pe_base (by rfl) T.mc_LaneError T.bi_LaneError (pa_cons (pv 0) (pa_cons (pv 1) pa_nil star_Name) star_Name)))
      (pss_one (ps_fldX (pv 0) (pv 1) rfl))), ?_⟩
    refine ⟨_, rfl, _, rfl, a, _, _, [v], rfl, ea, T.X_NoKind.ini, by show 1 ≤ 1000; decide, ?_⟩
    exact ⟨_, rfl, _, rfl, a, _, rfl, ea, T.xf_NoKind, T.na_NoKind, k⟩
def sp_BadNumbers___init__ (C : Addr) : Sp := fun vs H Q _ => ∃ (a : Addr) (v : V), vs = [.ref a, v] ∧ H a = some (excN a C) ∧ ∀ dx, H dx = none → dx ≠ a → Q .non (upd (upd H a (excF a C dx)) dx (.xd [("name", v)]))
theorem sc_BadNumbers___init__ : FnScope ["self", "name"] ["self", "name"] (defScope s_BadNumbers___init__) := ⟨rfl, rfl, rfl, by decide +kernel, rfl, by decide +kernel, by decide +kernel⟩
theorem ok_BadNumbers___init__ (T : Txt w K mg t) : FnOk P w K mg base CX0 1 t.f_BadNumbers___init__ t.fd_BadNumbers___init__ ["self", "name"] (sp_BadNumbers___init__ t.C_BadNumbers) := by
  have sc := sc_BadNumbers___init__
  refine T.F_BadNumbers___init__.ok sc (fun vs H Q E h => ?_) (fun cdv A outer s H vs Q E hr h => ?_)
  · obtain ⟨a, v, rfl, _⟩ := h
    rfl
  · obtain ⟨a, v, rfl, ea, k⟩ := h
    refine ⟨_, (pss_cons (ps_expr (pe_base (by rfl) T.mc_LaneError T.bi_LaneError (pa_cons (pv 0) (pa_cons (pv 1) pa_nil star_Name) star_Name)))
      (pss_one (ps_fldX (pv 0) (pv 1) rfl))), ?_⟩
    refine ⟨_, rfl, _, rfl, a, _, _, [v], rfl, ea, T.X_BadNumbers.ini, by show 1 ≤ 1000; decide, ?_⟩
    exact ⟨_, rfl, _, rfl, a, _, rfl, ea, T.xf_BadNumbers, T.na_BadNumbers, k⟩
def sp_BadLanes___init__ (C : Addr) : Sp := fun vs H Q _ => ∃ (a : Addr) (v : V), vs = [.ref a, v] ∧ H a = some (excN a C) ∧ ∀ dx, H dx = none → dx ≠ a → Q .non (upd (upd H a (excF a C dx)) dx (.xd [("name", v)]))
theorem sc_BadLanes___init__ : FnScope ["self", "name"] ["self", "name"] (defScope s_BadLanes___init__) := ⟨rfl, rfl, rfl, by decide +kernel, rfl, by decide +kernel, by decide +kernel⟩
theorem ok_BadLanes___init__ (T : Txt w K mg t) : FnOk P w K mg base CX0 1 t.f_BadLanes___init__ t.fd_BadLanes___init__ ["self", "name"] (sp_BadLanes___init__ t.C_BadLanes) := by
  have sc := sc_BadLanes___init__
  refine T.F_BadLanes___init__.ok sc (fun vs H Q E h => ?_) (fun cdv A outer s H vs Q E hr h => ?_)
  · obtain ⟨a, v, rfl, _⟩ := h
    rfl
  · obtain ⟨a, v, rfl, ea, k⟩ := h
    refine ⟨_, (pss_cons (ps_expr (pe_base (by rfl) T.mc_LaneError T.bi_LaneError (pa_cons (pv 0) (pa_cons (pv 1) pa_nil star_Name) star_Name)))
      (pss_one (ps_fldX (pv 0) (pv 1) rfl))), ?_⟩
    refine ⟨_, rfl, _, rfl, a, _, _, [v], rfl, ea, T.X_BadLanes.ini, by show 1 ≤ 1000; decide, ?_⟩
    exact ⟨_, rfl, _, rfl, a, _, rfl, ea, T.xf_BadLanes, T.na_BadLanes, k⟩
def sp_is_whole (K : PySem.W.Frag) : Sp := fun vs H Q _ => ∃ x Tx b, vs = [x] ∧ tyN K H x Tx ∧ Tx ∈ kindTab ∧ decide (Tx = "int") = b ∧ Q (.bl b) H
theorem sc_is_whole : FnScope ["thing"] ["thing"] (defScope s_is_whole) := ⟨rfl, rfl, rfl, by decide +kernel, rfl, by decide +kernel, by decide +kernel⟩
theorem ok_is_whole (T : Txt w K mg t) : FnOk P w K mg base CX0 1 t.f_is_whole t.fd_is_whole ["thing"] (sp_is_whole K) := by
  have sc := sc_is_whole
  refine T.F_is_whole.ok sc (fun vs H Q E h => ?_) (fun cdv A outer s H vs Q E hr h => ?_)
  · obtain ⟨x, Tx, b, rfl, _⟩ := h
    rfl
  · obtain ⟨x, Tx, b, rfl, ty, hm, rfl, k⟩ := h
    refine ⟨_, (pss_one (ps_ret (pe_and (pe_callB call_isi (by rfl) T.n_isinstance bt_isinstance (pa_cons (pv 0) (pa_cons (pe_bltT (by rfl) T.n_int bt_int) pa_nil star_Name) star_Name)) (pe_one (pe_not (pe_callB call_isi (by rfl) T.n_isinstance bt_isinstance (pa_cons (pv 0) (pa_cons (pe_bltT (by rfl) T.n_bool bt_bool) pa_nil star_Name) star_Name))))))), ?_⟩
    have hm' : Tx = "int" ∨ Tx = "bool" ∨ (subT Tx "int" = false ∧ Tx ≠ "int") := by
      simp only [kindTab, List.mem_cons, List.not_mem_nil, or_false] at hm
      rcases hm with rfl | rfl | rfl | rfl | rfl | rfl | rfl
      · exact .inr (.inr (by decide))
      · exact .inr (.inl rfl)
      · exact .inl rfl
      · exact .inr (.inr (by decide))
      · exact .inr (.inr (by decide))
      · exact .inr (.inr (by decide))
      · exact .inr (.inr (by decide))
    rcases hm' with rfl | rfl | ⟨h1, h2⟩
    · exact ⟨_, rfl, x, "int", "int", true, rfl, ty, by decide, by decide, true, rfl, iteT ⟨_, rfl, x, "int", "bool", false, rfl, ty, by decide, by decide, _, rfl, k⟩⟩
    · exact ⟨_, rfl, x, "bool", "int", true, rfl, ty, by decide, by decide, true, rfl, iteT ⟨_, rfl, x, "bool", "bool", true, rfl, ty, by decide, by decide, _, rfl, k⟩⟩
    · rw [decide_eq_false h2] at k
      exact ⟨_, rfl, x, Tx, "int", false, rfl, ty, by decide, h1, false, rfl, iteF k⟩
def sp_is_value (K : PySem.W.Frag) : Sp := fun vs H Q _ => ∃ x, vs = [x] ∧ ((∃ i : Int, x = .int i ∧ Q (.bl (decide (0 ≤ i) && decide (i < 1000000000))) H) ∨ ∃ Tx, tyN K H x Tx ∧ Tx ∈ kindTab ∧ Tx ≠ "int" ∧ Q (.bl false) H)
theorem sc_is_value : FnScope ["thing"] ["thing"] (defScope s_is_value) := ⟨rfl, rfl, rfl, by decide +kernel, rfl, by decide +kernel, by decide +kernel⟩
theorem ok_is_value (T : Txt w K mg t) : FnOk P w K mg base CX0 2 t.f_is_value t.fd_is_value ["thing"] (sp_is_value K) := by
  have sc := sc_is_value
  refine T.F_is_value.ok sc (fun vs H Q E h => ?_) (fun cdv A outer s H vs Q E hr h => ?_)
  · obtain ⟨x, rfl, _⟩ := h
    rfl
  · obtain ⟨x, rfl, h⟩ := h
    refine ⟨_, (pss_one (ps_ret (pe_and (pe_call (ok_is_whole T) (hr.mono (by decide)) (by rfl) T.m_is_whole T.F_is_whole.kp T.b_is_whole .nil pass0 (pa_cons (pv 0) pa_nil star_Name)) (pe_one (pe_chain op_le op_lt pe_int (pv 0) (pe_globE (by rfl) T.g_VALUES)))))), ?_⟩
    rcases h with ⟨i, rfl, k⟩ | ⟨Tx, ty, hm, hne, k⟩
    · refine ⟨_, rfl, .int i, "int", true, rfl, rfl, by decide, by decide, true, rfl, iteT ⟨_, rfl, _, _, rfl, rfl, _, rfl, ite2 (fun h => ?_) (fun h => ?_)⟩⟩
      · have h' : 0 ≤ i := of_decide_eq_true h
        rw [decide_eq_true h', Bool.true_and] at k
        exact ⟨_, _, rfl, rfl, k⟩
      · have h' : ¬ 0 ≤ i := fun z => h (decide_eq_true z)
        rw [decide_eq_false h', Bool.false_and] at k
        exact k
    · exact ⟨_, rfl, x, Tx, false, rfl, ty, hm, decide_eq_false hne, false, rfl, iteF k⟩
def sp_Part___init__ (K : PySem.W.Frag) (t : Adr) : Sp := fun vs H Q _ => ∃ (i : Nat) (p dx a1 a2 a3 : Addr) (nm : V) (ns is os : List V), vs = [.ref p, nm, .ref a1, .ref a2, .ref a3] ∧ H p = some (.ins (cls t i) dx []) ∧ SqA K H a1 ns ∧ SqA K H a2 is ∧ SqA K H a3 os ∧
  ∀ H', But p H H' → PartAt K t H' p i nm ns is os → Q .non H'
theorem sc_Part___init__ : FnScope ["self", "name", "numbers", "ins", "outs"] ["self", "name", "numbers", "ins", "outs"] (defScope s_Part___init__) := ⟨rfl, rfl, rfl, by decide +kernel, rfl, by decide +kernel, by decide +kernel⟩
theorem ok_Part___init__ (T : Txt w K mg t) : FnOk P w K mg base CX0 1 t.f_Part___init__ t.fd_Part___init__ ["self", "name", "numbers", "ins", "outs"] (sp_Part___init__ K t) := by
  have sc := sc_Part___init__
  refine T.F_Part___init__.ok sc (fun vs H Q E h => ?_) (fun cdv A outer s H vs Q E hr h => ?_)
  · obtain ⟨i, p, dx, a1, a2, a3, nm, ns, is, os, rfl, _⟩ := h
    rfl
  · obtain ⟨i, p, dx, a1, a2, a3, nm, ns, is, os, rfl, hp, q1, q2, q3, k⟩ := h
    refine ⟨_, (pss_cons (ps_fld (pv 0) (pv 1) rfl)
      (pss_cons (ps_fld (pv 0) (pe_callTy call_tupA (by rfl) T.n_tuple bt_tuple (pa_cons (pv 2) pa_nil star_Name)) rfl)
      (pss_cons (ps_fld (pv 0) (pe_callTy call_tupA (by rfl) T.n_tuple bt_tuple (pa_cons (pv 3) pa_nil star_Name)) rfl)
      (pss_one (ps_fld (pv 0) (pe_callTy call_tupA (by rfl) T.n_tuple bt_tuple (pa_cons (pv 4) pa_nil star_Name)) rfl))))), ?_⟩
    refine ⟨_, rfl, _, rfl, p, cls t i, dx, [], rfl, hp, cls_ok T i, na_name T i, by show 0 < 1000; decide, ?_⟩
    have b1 : But p H (upd H p (.ins (cls t i) dx (putF "name" nm []))) := But.write
    have e1 : (upd H p (.ins (cls t i) dx (putF "name" nm []))) p = some (.ins (cls t i) dx (putF "name" nm [])) := upd_same
    generalize upd H p (.ins (cls t i) dx (putF "name" nm [])) = H1 at b1 e1 ⊢
    have r2 := b1.seqA hp q2
    have r3 := b1.seqA hp q3
    refine ⟨_, rfl, a1, ns, rfl, b1.seqA hp q1, fun H2 u2 s2 t2 => ⟨_, rfl, p, cls t i, dx, _, rfl, s2 _ _ e1, cls_ok T i, na_numbers T i, Nat.lt_of_le_of_lt (lenP (Nat.zero_le 0)) (by decide), ?_⟩⟩
    have e2 := s2 _ _ e1
    have b2 : But p H2 (upd H2 p (.ins (cls t i) dx (putF "numbers" (.ref u2) (putF "name" nm [])))) := But.write
    have e3 : (upd H2 p (.ins (cls t i) dx (putF "numbers" (.ref u2) (putF "name" nm [])))) p = some (.ins (cls t i) dx (putF "numbers" (.ref u2) (putF "name" nm []))) := upd_same
    generalize upd H2 p (.ins (cls t i) dx (putF "numbers" (.ref u2) (putF "name" nm []))) = H3 at b2 e3 ⊢
    have r2' := b2.seqA e2 (s2.seqA r2)
    have r3' := b2.seqA e2 (s2.seqA r3)
    have t2' := b2.seqT e2 t2
    refine ⟨_, rfl, a2, is, rfl, r2', fun H4 u4 s4 t4 => ⟨_, rfl, p, cls t i, dx, _, rfl, s4 _ _ e3, cls_ok T i, na_ins T i, Nat.lt_of_le_of_lt (lenP (lenP (Nat.zero_le 0))) (by decide), ?_⟩⟩
    have e4 := s4 _ _ e3
    have b4 : But p H4 (upd H4 p (.ins (cls t i) dx (putF "ins" (.ref u4) (putF "numbers" (.ref u2) (putF "name" nm []))))) := But.write
    have e5 : (upd H4 p (.ins (cls t i) dx (putF "ins" (.ref u4) (putF "numbers" (.ref u2) (putF "name" nm []))))) p = some (.ins (cls t i) dx (putF "ins" (.ref u4) (putF "numbers" (.ref u2) (putF "name" nm [])))) := upd_same
    generalize upd H4 p (.ins (cls t i) dx (putF "ins" (.ref u4) (putF "numbers" (.ref u2) (putF "name" nm [])))) = H5 at b4 e5 ⊢
    have r3'' := b4.seqA e4 (s4.seqA r3')
    have t2'' := b4.seqT e4 (s4.seqT t2')
    have t4' := b4.seqT e4 t4
    refine ⟨_, rfl, a3, os, rfl, r3'', fun H6 u6 s6 t6 => ⟨_, rfl, p, cls t i, dx, _, rfl, s6 _ _ e5, cls_ok T i, na_outs T i, Nat.lt_of_le_of_lt (lenP (lenP (lenP (Nat.zero_le 0)))) (by decide), ?_⟩⟩
    have e6 := s6 _ _ e5
    refine k _ (b1.trans ((But.of_same s2).trans (b2.trans ((But.of_same s4).trans (b4.trans ((But.of_same s6).trans But.write)))))) ⟨dx, u2, u4, u6, upd_same, ?_, ?_, ?_⟩
    · exact But.write.seqT e6 (s6.seqT t2'')
    · exact But.write.seqT e6 (s6.seqT t4')
    · exact But.write.seqT e6 t6

theorem sc_Give_kind : FnScope ["self"] ["self"] (defScope s_Give_kind) := ⟨rfl, rfl, rfl, by decide +kernel, rfl, by decide +kernel, by decide +kernel⟩
theorem ok_Give_kind (T : Txt w K mg t) : FnOk P w K mg base CX0 1 t.f_Give_kind t.fd_Give_kind ["self"] (sp_kind 0) := by
  have sc := sc_Give_kind
  refine T.F_Give_kind.ok sc (fun vs H Q E h => ?_) (fun cdv A outer s H vs Q E hr h => ?_)
  · obtain ⟨x, rfl, _⟩ := h
    rfl
  · obtain ⟨x, rfl, k⟩ := h
    refine ⟨_, (pss_one (ps_ret pe_str)), ?_⟩
    exact k

theorem sc_Take_kind : FnScope ["self"] ["self"] (defScope s_Take_kind) := ⟨rfl, rfl, rfl, by decide +kernel, rfl, by decide +kernel, by decide +kernel⟩
theorem ok_Take_kind (T : Txt w K mg t) : FnOk P w K mg base CX0 1 t.f_Take_kind t.fd_Take_kind ["self"] (sp_kind 1) := by
  have sc := sc_Take_kind
  refine T.F_Take_kind.ok sc (fun vs H Q E h => ?_) (fun cdv A outer s H vs Q E hr h => ?_)
  · obtain ⟨x, rfl, _⟩ := h
    rfl
  · obtain ⟨x, rfl, k⟩ := h
    refine ⟨_, (pss_one (ps_ret pe_str)), ?_⟩
    exact k

theorem sc_Pass_kind : FnScope ["self"] ["self"] (defScope s_Pass_kind) := ⟨rfl, rfl, rfl, by decide +kernel, rfl, by decide +kernel, by decide +kernel⟩
theorem ok_Pass_kind (T : Txt w K mg t) : FnOk P w K mg base CX0 1 t.f_Pass_kind t.fd_Pass_kind ["self"] (sp_kind 2) := by
  have sc := sc_Pass_kind
  refine T.F_Pass_kind.ok sc (fun vs H Q E h => ?_) (fun cdv A outer s H vs Q E hr h => ?_)
  · obtain ⟨x, rfl, _⟩ := h
    rfl
  · obtain ⟨x, rfl, k⟩ := h
    refine ⟨_, (pss_one (ps_ret pe_str)), ?_⟩
    exact k

theorem sc_Copy_kind : FnScope ["self"] ["self"] (defScope s_Copy_kind) := ⟨rfl, rfl, rfl, by decide +kernel, rfl, by decide +kernel, by decide +kernel⟩
theorem ok_Copy_kind (T : Txt w K mg t) : FnOk P w K mg base CX0 1 t.f_Copy_kind t.fd_Copy_kind ["self"] (sp_kind 3) := by
  have sc := sc_Copy_kind
  refine T.F_Copy_kind.ok sc (fun vs H Q E h => ?_) (fun cdv A outer s H vs Q E hr h => ?_)
  · obtain ⟨x, rfl, _⟩ := h
    rfl
  · obtain ⟨x, rfl, k⟩ := h
    refine ⟨_, (pss_one (ps_ret pe_str)), ?_⟩
    exact k

theorem sc_Turn_kind : FnScope ["self"] ["self"] (defScope s_Turn_kind) := ⟨rfl, rfl, rfl, by decide +kernel, rfl, by decide +kernel, by decide +kernel⟩
theorem ok_Turn_kind (T : Txt w K mg t) : FnOk P w K mg base CX0 1 t.f_Turn_kind t.fd_Turn_kind ["self"] (sp_kind 4) := by
  have sc := sc_Turn_kind
  refine T.F_Turn_kind.ok sc (fun vs H Q E h => ?_) (fun cdv A outer s H vs Q E hr h => ?_)
  · obtain ⟨x, rfl, _⟩ := h
    rfl
  · obtain ⟨x, rfl, k⟩ := h
    refine ⟨_, (pss_one (ps_ret pe_str)), ?_⟩
    exact k

theorem sc_Heap_kind : FnScope ["self"] ["self"] (defScope s_Heap_kind) := ⟨rfl, rfl, rfl, by decide +kernel, rfl, by decide +kernel, by decide +kernel⟩
theorem ok_Heap_kind (T : Txt w K mg t) : FnOk P w K mg base CX0 1 t.f_Heap_kind t.fd_Heap_kind ["self"] (sp_kind 5) := by
  have sc := sc_Heap_kind
  refine T.F_Heap_kind.ok sc (fun vs H Q E h => ?_) (fun cdv A outer s H vs Q E hr h => ?_)
  · obtain ⟨x, rfl, _⟩ := h
    rfl
  · obtain ⟨x, rfl, k⟩ := h
    refine ⟨_, (pss_one (ps_ret pe_str)), ?_⟩
    exact k

theorem sc_Add_kind : FnScope ["self"] ["self"] (defScope s_Add_kind) := ⟨rfl, rfl, rfl, by decide +kernel, rfl, by decide +kernel, by decide +kernel⟩
theorem ok_Add_kind (T : Txt w K mg t) : FnOk P w K mg base CX0 1 t.f_Add_kind t.fd_Add_kind ["self"] (sp_kind 6) := by
  have sc := sc_Add_kind
  refine T.F_Add_kind.ok sc (fun vs H Q E h => ?_) (fun cdv A outer s H vs Q E hr h => ?_)
  · obtain ⟨x, rfl, _⟩ := h
    rfl
  · obtain ⟨x, rfl, k⟩ := h
    refine ⟨_, (pss_one (ps_ret pe_str)), ?_⟩
    exact k

theorem sc_Less_kind : FnScope ["self"] ["self"] (defScope s_Less_kind) := ⟨rfl, rfl, rfl, by decide +kernel, rfl, by decide +kernel, by decide +kernel⟩
theorem ok_Less_kind (T : Txt w K mg t) : FnOk P w K mg base CX0 1 t.f_Less_kind t.fd_Less_kind ["self"] (sp_kind 7) := by
  have sc := sc_Less_kind
  refine T.F_Less_kind.ok sc (fun vs H Q E h => ?_) (fun cdv A outer s H vs Q E hr h => ?_)
  · obtain ⟨x, rfl, _⟩ := h
    rfl
  · obtain ⟨x, rfl, k⟩ := h
    refine ⟨_, (pss_one (ps_ret pe_str)), ?_⟩
    exact k

theorem sc_Order_kind : FnScope ["self"] ["self"] (defScope s_Order_kind) := ⟨rfl, rfl, rfl, by decide +kernel, rfl, by decide +kernel, by decide +kernel⟩
theorem ok_Order_kind (T : Txt w K mg t) : FnOk P w K mg base CX0 1 t.f_Order_kind t.fd_Order_kind ["self"] (sp_kind 8) := by
  have sc := sc_Order_kind
  refine T.F_Order_kind.ok sc (fun vs H Q E h => ?_) (fun cdv A outer s H vs Q E hr h => ?_)
  · obtain ⟨x, rfl, _⟩ := h
    rfl
  · obtain ⟨x, rfl, k⟩ := h
    refine ⟨_, (pss_one (ps_ret pe_str)), ?_⟩
    exact k

theorem sc_Choose_kind : FnScope ["self"] ["self"] (defScope s_Choose_kind) := ⟨rfl, rfl, rfl, by decide +kernel, rfl, by decide +kernel, by decide +kernel⟩
theorem ok_Choose_kind (T : Txt w K mg t) : FnOk P w K mg base CX0 1 t.f_Choose_kind t.fd_Choose_kind ["self"] (sp_kind 9) := by
  have sc := sc_Choose_kind
  refine T.F_Choose_kind.ok sc (fun vs H Q E h => ?_) (fun cdv A outer s H vs Q E hr h => ?_)
  · obtain ⟨x, rfl, _⟩ := h
    rfl
  · obtain ⟨x, rfl, k⟩ := h
    refine ⟨_, (pss_one (ps_ret pe_str)), ?_⟩
    exact k

theorem sc_Split_kind : FnScope ["self"] ["self"] (defScope s_Split_kind) := ⟨rfl, rfl, rfl, by decide +kernel, rfl, by decide +kernel, by decide +kernel⟩
theorem ok_Split_kind (T : Txt w K mg t) : FnOk P w K mg base CX0 1 t.f_Split_kind t.fd_Split_kind ["self"] (sp_kind 10) := by
  have sc := sc_Split_kind
  refine T.F_Split_kind.ok sc (fun vs H Q E h => ?_) (fun cdv A outer s H vs Q E hr h => ?_)
  · obtain ⟨x, rfl, _⟩ := h
    rfl
  · obtain ⟨x, rfl, k⟩ := h
    refine ⟨_, (pss_one (ps_ret pe_str)), ?_⟩
    exact k
def sp_is_kind : Sp := fun vs H Q _ => ∃ z : Str, vs = [.str z] ∧ Q (.bl (rowOf ROWS z).isSome) H
theorem sc_is_kind : FnScope ["word"] ["word"] (defScope s_is_kind) := ⟨rfl, rfl, rfl, by decide +kernel, rfl, by decide +kernel, by decide +kernel⟩
theorem ok_is_kind (T : Txt w K mg t) : FnOk P w K mg base CX0 1 t.f_is_kind t.fd_is_kind ["word"] (sp_is_kind) := by
  have sc := sc_is_kind
  refine T.F_is_kind.ok sc (fun vs H Q E h => ?_) (fun cdv A outer s H vs Q E hr h => ?_)
  · obtain ⟨z, rfl, _⟩ := h
    rfl
  · obtain ⟨z, rfl, k⟩ := h
    refine ⟨_, (pss_one (ps_ret (pe_cmp (pc_inK (pv 0) (pe_glob (v := .ref _) (by rfl) T.mt_COUNTS rfl)) (by with_unfolding_all rfl)))), ?_⟩
    exact ⟨_, rfl, t.o_COUNTS, ROWS, z, rfl, T.t_COUNTS, rfl, k⟩
def sp_need_fit (K : PySem.W.Frag) (t : Adr) : Sp := fun vs H Q E => ∃ (z : Str) (nm : V) (a1 a2 a3 : Addr) (ns is os : List V), vs = [.str z, nm, .ref a1, .ref a2, .ref a3] ∧ SqA K H a1 ns ∧ SqA K H a2 is ∧ SqA K H a3 os ∧ (∀ v ∈ ns, Num v) ∧ ns.length ≤ 1000 ∧
  Fit t H E z nm ns is os (fun _ => ∀ H', Same H H' → Q .non H')
theorem sc_need_fit : FnScope ["kind", "name", "numbers", "ins", "outs", "counts"] ["kind", "name", "numbers", "ins", "outs"] (defScope s_need_fit) := ⟨rfl, rfl, rfl, by decide +kernel, rfl, by decide +kernel, by decide +kernel⟩
theorem ok_need_fit (T : Txt w K mg t) : FnOk P w K mg base (CX2 P w) 3 t.f_need_fit t.fd_need_fit ["kind", "name", "numbers", "ins", "outs"] (sp_need_fit K t) := by
  have sc := sc_need_fit
  refine T.F_need_fit.ok2 sc (fun vs H Q E h => ?_) (fun cdv A outer s H vs Q E hr h => ?_)
  · obtain ⟨z, nm, a1, a2, a3, ns, is, os, rfl, _⟩ := h
    rfl
  · obtain ⟨z, nm, a1, a2, a3, ns, is, os, rfl, h1, h2, h3, hN, hz, F⟩ := h
    refine ⟨_, (pss_cons (ps_if (pt_not (pt_val (pe_call (ok_is_kind T) (hr.mono (by decide)) (by rfl) T.m_is_kind T.F_is_kind.kp T.b_is_kind .nil pass0 (pa_cons (pv 0) pa_nil star_Name))))
        (pss_one (ps_raiseX T.X_NoKind (ok_NoKind___init__ T) (hr.mono (by decide)) (by rfl) T.mc_NoKind T.b_NoKind___init__ pass0 (pa_cons (pv 0) pa_nil star_Name)))
        pss_nil)
      (pss_cons (ps_set (i := 5) sc.nd rfl (Or.inl rfl) (pe_getK (pe_glob (v := .ref _) (by rfl) T.mt_COUNTS rfl) (pv 0) (fun _ _ => rfl)))
      (pss_cons (ps_if (PW.pt (pw_or (pt_cmpR op_ne (pe_callB call_len (by rfl) T.n_len bt_len (pa_cons (pv 2) pa_nil star_Name)) (pe_ix ix_tup (pv 5) pe_int (fun _ _ => rfl)) (nomark _)) (pw_or1 (pt_not (pt_val (pe_callB (call_all rfl) (by rfl) T.n_all bt_all (pa_cons (pe_comp [] ["kind", "name", "numbers", "ins", "outs", "counts"] (defScope s_need_fit) rfl (pi_or (pi_list (pv 2)) (pi_tup (pv 2))) (fun _ _ _ _ _ => pf_nil) (fun _ _ _ _ _ => (pe_call (ok_is_value T) (hr.mono (by decide)) (by rfl) T.m_is_value T.F_is_value.kp T.b_is_value .nil pass0 (pa_cons (pv 0) pa_nil star_Name)))) pa_nil star_ListComp)))))))
        (pss_one (ps_raiseX T.X_BadNumbers (ok_BadNumbers___init__ T) (hr.mono (by decide)) (by rfl) T.mc_BadNumbers T.b_BadNumbers___init__ pass0 (pa_cons (pv 1) pa_nil star_Name)))
        pss_nil)
      (pss_one (ps_if (PW.pt (pw_or (pt_cmpR op_ne (pe_callB call_len (by rfl) T.n_len bt_len (pa_cons (pv 3) pa_nil star_Name)) (pe_ix ix_tup (pv 5) pe_int (fun _ _ => rfl)) (nomark _)) (pw_or1 (pt_cmpR op_ne (pe_callB call_len (by rfl) T.n_len bt_len (pa_cons (pv 4) pa_nil star_Name)) (pe_ix ix_tup (pv 5) pe_int (fun _ _ => rfl)) (nomark _)))))
        (pss_one (ps_raiseX T.X_BadLanes (ok_BadLanes___init__ T) (hr.mono (by decide)) (by rfl) T.mc_BadLanes T.b_BadLanes___init__ pass0 (pa_cons (pv 1) pa_nil star_Name)))
        pss_nil))))), ?_⟩
    have hl : sizeLine = 16777216 := sizeLine_eq
    rcases F with ⟨hk, kE⟩ | ⟨i, hi, rfl, k1, k2, k3⟩
    · refine ⟨_, rfl, z, rfl, false, by rw [show rowOf ROWS z = none from hk]; rfl, iteT ?_⟩
      refine ⟨_, rfl, by show 1 ≤ 1000; decide, fun x nx n0 => ⟨x, _, rfl, upd_same, fun dx nd ne => ⟨rfl, x, dx, rfl, n0, by rw [upd_ne ne.symm]; exact upd_same, ?_⟩⟩⟩
      have rz := raised (fs := [(("word" : Str), V.str z)]) nx nd ne
      exact kE dx _ rz.1 rz.2
    refine ⟨_, rfl, kname i, rfl, true, by rw [row_of]; rfl, iteF ?_⟩
    refine ⟨_, rfl, t.o_COUNTS, ROWS, kname i, _, rfl, T.t_COUNTS, rfl, row_of i, fun ad had => ?_⟩
    refine ⟨_, rfl, .ref a1, ns.length, rfl, h1.len, _, rfl, ad, _, 0, _, rfl, rfl, had, atI_nat (j := 0) rfl, rfl, _, rfl, ?_⟩
    by_cases hc : ns.length = cN i
    · rw [show (!decide (V.int ((ns.length : Nat) : Int) = V.int ((cN i : Nat) : Int))) = false by rw [hc]; simp]
      refine iteF ?_
      refine comp_A (a := a1) (xs := ns) ?_ h1 (fun j ys => ys = ((ns.take j).map valB).map V.bl) (by omega) rfl (fun j ys e => by rw [e]; simp; omega) (fun j x ys hx e => ?_) (fun ys e D hD => ?_)
      · exact fun R r => ⟨_, rfl, r⟩
      · subst e
        refine yes ⟨_, rfl, x, rfl, isv (Q := fun v H5 => H5 = H ∧ ((ns.take j).map valB).map V.bl ++ [v] = ((ns.take (j + 1)).map valB).map V.bl) (hN x (List.mem_of_getElem? hx)) ⟨rfl, ?_⟩⟩
        rw [List.take_succ, hx]
        simp
      · subst e
        refine ⟨D, _, rfl, SqL.of upd_same, _, rfl, ?_⟩
        have s1 : Same H (upd H D (.lst (((ns.take ns.length).map valB).map V.bl))) := same_new hD
        generalize upd H D (.lst (((ns.take ns.length).map valB).map V.bl)) = H1 at s1 ⊢
        rw [show (((ns.take ns.length).map valB).all id) = ns.all valB by rw [List.take_length, List.all_map]; rfl]
        by_cases hv : ns.all valB = true
        · rw [hv]
          have g1 : goodN i ns = true := by unfold goodN; rw [decide_eq_true hc, hv]; rfl
          refine iteF ?_
          refine ⟨_, rfl, .ref a2, is.length, rfl, (s1.seqA h2).len, _, rfl, ad, _, 1, _, rfl, rfl, s1.seqT had, atI_nat (j := 1) rfl, rfl, _, rfl, ?_⟩
          by_cases hI : is.length = cI i
          · rw [show (!decide (V.int ((is.length : Nat) : Int) = V.int ((cI i : Nat) : Int))) = false by rw [hI]; simp]
            refine iteF ?_
            refine ⟨_, rfl, .ref a3, os.length, rfl, (s1.seqA h3).len, _, rfl, ad, _, 2, _, rfl, rfl, s1.seqT had, atI_nat (j := 2) rfl, rfl, _, rfl, ?_⟩
            by_cases hO : os.length = cO i
            · rw [show (!decide (V.int ((os.length : Nat) : Int) = V.int ((cO i : Nat) : Int))) = false by rw [hO]; simp]
              exact iteF (k3 g1 (by unfold goodL; rw [decide_eq_true hI, decide_eq_true hO]; rfl) _ s1)
            · rw [show (!decide (V.int ((os.length : Nat) : Int) = V.int ((cO i : Nat) : Int))) = true by simp; omega]
              refine iteT ?_
              refine ⟨_, rfl, by show 1 ≤ 1000; decide, fun x nx n0 => ⟨x, _, rfl, upd_same, fun dx nd ne => ⟨rfl, x, dx, rfl, n0, by rw [upd_ne ne.symm]; exact upd_same, ?_⟩⟩⟩
              have rz := raised (fs := [(("name" : Str), nm)]) nx nd ne
              exact k2 g1 (by unfold goodL; rw [decide_eq_false hO, Bool.and_false]) dx _ (s1.trans rz.1) rz.2
          · rw [show (!decide (V.int ((is.length : Nat) : Int) = V.int ((cI i : Nat) : Int))) = true by simp; omega]
            refine iteT (iteT ?_)
            refine ⟨_, rfl, by show 1 ≤ 1000; decide, fun x nx n0 => ⟨x, _, rfl, upd_same, fun dx nd ne => ⟨rfl, x, dx, rfl, n0, by rw [upd_ne ne.symm]; exact upd_same, ?_⟩⟩⟩
            have rz := raised (fs := [(("name" : Str), nm)]) nx nd ne
            exact k2 g1 (by unfold goodL; rw [decide_eq_false hI, Bool.false_and]) dx _ (s1.trans rz.1) rz.2
        · have hv' : ns.all valB = false := by simpa using hv
          rw [hv']
          refine iteT ?_
          refine ⟨_, rfl, by show 1 ≤ 1000; decide, fun x nx n0 => ⟨x, _, rfl, upd_same, fun dx nd ne => ⟨rfl, x, dx, rfl, n0, by rw [upd_ne ne.symm]; exact upd_same, ?_⟩⟩⟩
          have rz := raised (fs := [(("name" : Str), nm)]) nx nd ne
          exact k1 (by unfold goodN; rw [hv', Bool.and_false]) dx _ (s1.trans rz.1) rz.2
    · rw [show (!decide (V.int ((ns.length : Nat) : Int) = V.int ((cN i : Nat) : Int))) = true by simp; omega]
      refine iteT (iteT ?_)
      refine ⟨_, rfl, by show 1 ≤ 1000; decide, fun x nx n0 => ⟨x, _, rfl, upd_same, fun dx nd ne => ⟨rfl, x, dx, rfl, n0, by rw [upd_ne ne.symm]; exact upd_same, ?_⟩⟩⟩
      have rz := raised (fs := [(("name" : Str), nm)]) nx nd ne
      exact k1 (by unfold goodN; rw [decide_eq_false hc, Bool.false_and]) dx _ rz.1 rz.2
def sp_made_of (K : PySem.W.Frag) (t : Adr) : Sp := fun vs H Q _ => ∃ (i : Nat) (nm : V) (a1 a2 a3 : Addr) (ns is os : List V), vs = [.str (kname i), nm, .ref a1, .ref a2, .ref a3] ∧ i ≤ 10 ∧ SqA K H a1 ns ∧ SqA K H a2 is ∧ SqA K H a3 os ∧
  ∀ H' p, Same H H' → H p = none → PartAt K t H' p i nm ns is os → Q (.ref p) H'
theorem sc_made_of : FnScope ["kind", "name", "numbers", "ins", "outs"] ["kind", "name", "numbers", "ins", "outs"] (defScope s_made_of) := ⟨rfl, rfl, rfl, by decide +kernel, rfl, by decide +kernel, by decide +kernel⟩
theorem ok_made_of (T : Txt w K mg t) : FnOk P w K mg base CX0 3 t.f_made_of t.fd_made_of ["kind", "name", "numbers", "ins", "outs"] (sp_made_of K t) := by
  have sc := sc_made_of
  refine T.F_made_of.ok sc (fun vs H Q E h => ?_) (fun cdv A outer s H vs Q E hr h => ?_)
  · obtain ⟨i, nm, a1, a2, a3, ns, is, os, rfl, _⟩ := h
    rfl
  · obtain ⟨i, nm, a1, a2, a3, ns, is, os, rfl, hi, h1, h2, h3, k⟩ := h
    refine ⟨_, (pss_cons (ps_if (pt_cmpR op_eq (pv 0) pe_str (nomark _))
        (pss_one (ps_ret (pe_make T.M_Give (ok_Part___init__ T) (hr.mono (by decide)) (by rfl) T.mc_Give T.b_Part___init__ .nil pass0 (pa_cons (pv 1) (pa_cons (pv 2) (pa_cons (pv 3) (pa_cons (pv 4) pa_nil star_Name) star_Name) star_Name) star_Name))))
        pss_nil)
      (pss_cons (ps_if (pt_cmpR op_eq (pv 0) pe_str (nomark _))
        (pss_one (ps_ret (pe_make T.M_Take (ok_Part___init__ T) (hr.mono (by decide)) (by rfl) T.mc_Take T.b_Part___init__ .nil pass0 (pa_cons (pv 1) (pa_cons (pv 2) (pa_cons (pv 3) (pa_cons (pv 4) pa_nil star_Name) star_Name) star_Name) star_Name))))
        pss_nil)
      (pss_cons (ps_if (pt_cmpR op_eq (pv 0) pe_str (nomark _))
        (pss_one (ps_ret (pe_make T.M_Pass (ok_Part___init__ T) (hr.mono (by decide)) (by rfl) T.mc_Pass T.b_Part___init__ .nil pass0 (pa_cons (pv 1) (pa_cons (pv 2) (pa_cons (pv 3) (pa_cons (pv 4) pa_nil star_Name) star_Name) star_Name) star_Name))))
        pss_nil)
      (pss_cons (ps_if (pt_cmpR op_eq (pv 0) pe_str (nomark _))
        (pss_one (ps_ret (pe_make T.M_Copy (ok_Part___init__ T) (hr.mono (by decide)) (by rfl) T.mc_Copy T.b_Part___init__ .nil pass0 (pa_cons (pv 1) (pa_cons (pv 2) (pa_cons (pv 3) (pa_cons (pv 4) pa_nil star_Name) star_Name) star_Name) star_Name))))
        pss_nil)
      (pss_cons (ps_if (pt_cmpR op_eq (pv 0) pe_str (nomark _))
        (pss_one (ps_ret (pe_make T.M_Turn (ok_Part___init__ T) (hr.mono (by decide)) (by rfl) T.mc_Turn T.b_Part___init__ .nil pass0 (pa_cons (pv 1) (pa_cons (pv 2) (pa_cons (pv 3) (pa_cons (pv 4) pa_nil star_Name) star_Name) star_Name) star_Name))))
        pss_nil)
      (pss_cons (ps_if (pt_cmpR op_eq (pv 0) pe_str (nomark _))
        (pss_one (ps_ret (pe_make T.M_Heap (ok_Part___init__ T) (hr.mono (by decide)) (by rfl) T.mc_Heap T.b_Part___init__ .nil pass0 (pa_cons (pv 1) (pa_cons (pv 2) (pa_cons (pv 3) (pa_cons (pv 4) pa_nil star_Name) star_Name) star_Name) star_Name))))
        pss_nil)
      (pss_cons (ps_if (pt_cmpR op_eq (pv 0) pe_str (nomark _))
        (pss_one (ps_ret (pe_make T.M_Add (ok_Part___init__ T) (hr.mono (by decide)) (by rfl) T.mc_Add T.b_Part___init__ .nil pass0 (pa_cons (pv 1) (pa_cons (pv 2) (pa_cons (pv 3) (pa_cons (pv 4) pa_nil star_Name) star_Name) star_Name) star_Name))))
        pss_nil)
      (pss_cons (ps_if (pt_cmpR op_eq (pv 0) pe_str (nomark _))
        (pss_one (ps_ret (pe_make T.M_Less (ok_Part___init__ T) (hr.mono (by decide)) (by rfl) T.mc_Less T.b_Part___init__ .nil pass0 (pa_cons (pv 1) (pa_cons (pv 2) (pa_cons (pv 3) (pa_cons (pv 4) pa_nil star_Name) star_Name) star_Name) star_Name))))
        pss_nil)
      (pss_cons (ps_if (pt_cmpR op_eq (pv 0) pe_str (nomark _))
        (pss_one (ps_ret (pe_make T.M_Order (ok_Part___init__ T) (hr.mono (by decide)) (by rfl) T.mc_Order T.b_Part___init__ .nil pass0 (pa_cons (pv 1) (pa_cons (pv 2) (pa_cons (pv 3) (pa_cons (pv 4) pa_nil star_Name) star_Name) star_Name) star_Name))))
        pss_nil)
      (pss_cons (ps_if (pt_cmpR op_eq (pv 0) pe_str (nomark _))
        (pss_one (ps_ret (pe_make T.M_Choose (ok_Part___init__ T) (hr.mono (by decide)) (by rfl) T.mc_Choose T.b_Part___init__ .nil pass0 (pa_cons (pv 1) (pa_cons (pv 2) (pa_cons (pv 3) (pa_cons (pv 4) pa_nil star_Name) star_Name) star_Name) star_Name))))
        pss_nil)
      (pss_one (ps_ret (pe_make T.M_Split (ok_Part___init__ T) (hr.mono (by decide)) (by rfl) T.mc_Split T.b_Part___init__ .nil pass0 (pa_cons (pv 1) (pa_cons (pv 2) (pa_cons (pv 3) (pa_cons (pv 4) pa_nil star_Name) star_Name) star_Name) star_Name)))))))))))))), ?_⟩
    match i, hi with
    | 0, _ =>
      refine ⟨_, rfl, rfl, _, rfl, iteY rfl ?_⟩
      refine ⟨_, rfl, _, rfl, _, rfl, _, rfl, fun x dx nx ndx nex => ?_⟩
      have s0 : Same H (upd (upd H dx (.own x)) x (.ins t.C_Give dx [])) := fun b o e => by rw [upd_ne (ne_of_none e nx), upd_ne (ne_of_none e ndx)]; exact e
      exact ⟨0, x, dx, a1, a2, a3, nm, ns, is, os, rfl, upd_same, s0.seqA h1, s0.seqA h2, s0.seqA h3, fun H' b P => ⟨rfl, k H' x (fun c o e => b c o (ne_of_none e nx) (s0 c o e)) nx P⟩⟩
    | 1, _ =>
      refine ⟨_, rfl, rfl, _, rfl, iteN (by decide +kernel) ?_⟩
      refine ⟨_, rfl, rfl, _, rfl, iteY rfl ?_⟩
      refine ⟨_, rfl, _, rfl, _, rfl, _, rfl, fun x dx nx ndx nex => ?_⟩
      have s0 : Same H (upd (upd H dx (.own x)) x (.ins t.C_Take dx [])) := fun b o e => by rw [upd_ne (ne_of_none e nx), upd_ne (ne_of_none e ndx)]; exact e
      exact ⟨1, x, dx, a1, a2, a3, nm, ns, is, os, rfl, upd_same, s0.seqA h1, s0.seqA h2, s0.seqA h3, fun H' b P => ⟨rfl, k H' x (fun c o e => b c o (ne_of_none e nx) (s0 c o e)) nx P⟩⟩
    | 2, _ =>
      refine ⟨_, rfl, rfl, _, rfl, iteN (by decide +kernel) ?_⟩
      refine ⟨_, rfl, rfl, _, rfl, iteN (by decide +kernel) ?_⟩
      refine ⟨_, rfl, rfl, _, rfl, iteY rfl ?_⟩
      refine ⟨_, rfl, _, rfl, _, rfl, _, rfl, fun x dx nx ndx nex => ?_⟩
      have s0 : Same H (upd (upd H dx (.own x)) x (.ins t.C_Pass dx [])) := fun b o e => by rw [upd_ne (ne_of_none e nx), upd_ne (ne_of_none e ndx)]; exact e
      exact ⟨2, x, dx, a1, a2, a3, nm, ns, is, os, rfl, upd_same, s0.seqA h1, s0.seqA h2, s0.seqA h3, fun H' b P => ⟨rfl, k H' x (fun c o e => b c o (ne_of_none e nx) (s0 c o e)) nx P⟩⟩
    | 3, _ =>
      refine ⟨_, rfl, rfl, _, rfl, iteN (by decide +kernel) ?_⟩
      refine ⟨_, rfl, rfl, _, rfl, iteN (by decide +kernel) ?_⟩
      refine ⟨_, rfl, rfl, _, rfl, iteN (by decide +kernel) ?_⟩
      refine ⟨_, rfl, rfl, _, rfl, iteY rfl ?_⟩
      refine ⟨_, rfl, _, rfl, _, rfl, _, rfl, fun x dx nx ndx nex => ?_⟩
      have s0 : Same H (upd (upd H dx (.own x)) x (.ins t.C_Copy dx [])) := fun b o e => by rw [upd_ne (ne_of_none e nx), upd_ne (ne_of_none e ndx)]; exact e
      exact ⟨3, x, dx, a1, a2, a3, nm, ns, is, os, rfl, upd_same, s0.seqA h1, s0.seqA h2, s0.seqA h3, fun H' b P => ⟨rfl, k H' x (fun c o e => b c o (ne_of_none e nx) (s0 c o e)) nx P⟩⟩
    | 4, _ =>
      refine ⟨_, rfl, rfl, _, rfl, iteN (by decide +kernel) ?_⟩
      refine ⟨_, rfl, rfl, _, rfl, iteN (by decide +kernel) ?_⟩
      refine ⟨_, rfl, rfl, _, rfl, iteN (by decide +kernel) ?_⟩
      refine ⟨_, rfl, rfl, _, rfl, iteN (by decide +kernel) ?_⟩
      refine ⟨_, rfl, rfl, _, rfl, iteY rfl ?_⟩
      refine ⟨_, rfl, _, rfl, _, rfl, _, rfl, fun x dx nx ndx nex => ?_⟩
      have s0 : Same H (upd (upd H dx (.own x)) x (.ins t.C_Turn dx [])) := fun b o e => by rw [upd_ne (ne_of_none e nx), upd_ne (ne_of_none e ndx)]; exact e
      exact ⟨4, x, dx, a1, a2, a3, nm, ns, is, os, rfl, upd_same, s0.seqA h1, s0.seqA h2, s0.seqA h3, fun H' b P => ⟨rfl, k H' x (fun c o e => b c o (ne_of_none e nx) (s0 c o e)) nx P⟩⟩
    | 5, _ =>
      refine ⟨_, rfl, rfl, _, rfl, iteN (by decide +kernel) ?_⟩
      refine ⟨_, rfl, rfl, _, rfl, iteN (by decide +kernel) ?_⟩
      refine ⟨_, rfl, rfl, _, rfl, iteN (by decide +kernel) ?_⟩
      refine ⟨_, rfl, rfl, _, rfl, iteN (by decide +kernel) ?_⟩
      refine ⟨_, rfl, rfl, _, rfl, iteN (by decide +kernel) ?_⟩
      refine ⟨_, rfl, rfl, _, rfl, iteY rfl ?_⟩
      refine ⟨_, rfl, _, rfl, _, rfl, _, rfl, fun x dx nx ndx nex => ?_⟩
      have s0 : Same H (upd (upd H dx (.own x)) x (.ins t.C_Heap dx [])) := fun b o e => by rw [upd_ne (ne_of_none e nx), upd_ne (ne_of_none e ndx)]; exact e
      exact ⟨5, x, dx, a1, a2, a3, nm, ns, is, os, rfl, upd_same, s0.seqA h1, s0.seqA h2, s0.seqA h3, fun H' b P => ⟨rfl, k H' x (fun c o e => b c o (ne_of_none e nx) (s0 c o e)) nx P⟩⟩
    | 6, _ =>
      refine ⟨_, rfl, rfl, _, rfl, iteN (by decide +kernel) ?_⟩
      refine ⟨_, rfl, rfl, _, rfl, iteN (by decide +kernel) ?_⟩
      refine ⟨_, rfl, rfl, _, rfl, iteN (by decide +kernel) ?_⟩
      refine ⟨_, rfl, rfl, _, rfl, iteN (by decide +kernel) ?_⟩
      refine ⟨_, rfl, rfl, _, rfl, iteN (by decide +kernel) ?_⟩
      refine ⟨_, rfl, rfl, _, rfl, iteN (by decide +kernel) ?_⟩
      refine ⟨_, rfl, rfl, _, rfl, iteY rfl ?_⟩
      refine ⟨_, rfl, _, rfl, _, rfl, _, rfl, fun x dx nx ndx nex => ?_⟩
      have s0 : Same H (upd (upd H dx (.own x)) x (.ins t.C_Add dx [])) := fun b o e => by rw [upd_ne (ne_of_none e nx), upd_ne (ne_of_none e ndx)]; exact e
      exact ⟨6, x, dx, a1, a2, a3, nm, ns, is, os, rfl, upd_same, s0.seqA h1, s0.seqA h2, s0.seqA h3, fun H' b P => ⟨rfl, k H' x (fun c o e => b c o (ne_of_none e nx) (s0 c o e)) nx P⟩⟩
    | 7, _ =>
      refine ⟨_, rfl, rfl, _, rfl, iteN (by decide +kernel) ?_⟩
      refine ⟨_, rfl, rfl, _, rfl, iteN (by decide +kernel) ?_⟩
      refine ⟨_, rfl, rfl, _, rfl, iteN (by decide +kernel) ?_⟩
      refine ⟨_, rfl, rfl, _, rfl, iteN (by decide +kernel) ?_⟩
      refine ⟨_, rfl, rfl, _, rfl, iteN (by decide +kernel) ?_⟩
      refine ⟨_, rfl, rfl, _, rfl, iteN (by decide +kernel) ?_⟩
      refine ⟨_, rfl, rfl, _, rfl, iteN (by decide +kernel) ?_⟩
      refine ⟨_, rfl, rfl, _, rfl, iteY rfl ?_⟩
      refine ⟨_, rfl, _, rfl, _, rfl, _, rfl, fun x dx nx ndx nex => ?_⟩
      have s0 : Same H (upd (upd H dx (.own x)) x (.ins t.C_Less dx [])) := fun b o e => by rw [upd_ne (ne_of_none e nx), upd_ne (ne_of_none e ndx)]; exact e
      exact ⟨7, x, dx, a1, a2, a3, nm, ns, is, os, rfl, upd_same, s0.seqA h1, s0.seqA h2, s0.seqA h3, fun H' b P => ⟨rfl, k H' x (fun c o e => b c o (ne_of_none e nx) (s0 c o e)) nx P⟩⟩
    | 8, _ =>
      refine ⟨_, rfl, rfl, _, rfl, iteN (by decide +kernel) ?_⟩
      refine ⟨_, rfl, rfl, _, rfl, iteN (by decide +kernel) ?_⟩
      refine ⟨_, rfl, rfl, _, rfl, iteN (by decide +kernel) ?_⟩
      refine ⟨_, rfl, rfl, _, rfl, iteN (by decide +kernel) ?_⟩
      refine ⟨_, rfl, rfl, _, rfl, iteN (by decide +kernel) ?_⟩
      refine ⟨_, rfl, rfl, _, rfl, iteN (by decide +kernel) ?_⟩
      refine ⟨_, rfl, rfl, _, rfl, iteN (by decide +kernel) ?_⟩
      refine ⟨_, rfl, rfl, _, rfl, iteN (by decide +kernel) ?_⟩
      refine ⟨_, rfl, rfl, _, rfl, iteY rfl ?_⟩
      refine ⟨_, rfl, _, rfl, _, rfl, _, rfl, fun x dx nx ndx nex => ?_⟩
      have s0 : Same H (upd (upd H dx (.own x)) x (.ins t.C_Order dx [])) := fun b o e => by rw [upd_ne (ne_of_none e nx), upd_ne (ne_of_none e ndx)]; exact e
      exact ⟨8, x, dx, a1, a2, a3, nm, ns, is, os, rfl, upd_same, s0.seqA h1, s0.seqA h2, s0.seqA h3, fun H' b P => ⟨rfl, k H' x (fun c o e => b c o (ne_of_none e nx) (s0 c o e)) nx P⟩⟩
    | 9, _ =>
      refine ⟨_, rfl, rfl, _, rfl, iteN (by decide +kernel) ?_⟩
      refine ⟨_, rfl, rfl, _, rfl, iteN (by decide +kernel) ?_⟩
      refine ⟨_, rfl, rfl, _, rfl, iteN (by decide +kernel) ?_⟩
      refine ⟨_, rfl, rfl, _, rfl, iteN (by decide +kernel) ?_⟩
      refine ⟨_, rfl, rfl, _, rfl, iteN (by decide +kernel) ?_⟩
      refine ⟨_, rfl, rfl, _, rfl, iteN (by decide +kernel) ?_⟩
      refine ⟨_, rfl, rfl, _, rfl, iteN (by decide +kernel) ?_⟩
      refine ⟨_, rfl, rfl, _, rfl, iteN (by decide +kernel) ?_⟩
      refine ⟨_, rfl, rfl, _, rfl, iteN (by decide +kernel) ?_⟩
      refine ⟨_, rfl, rfl, _, rfl, iteY rfl ?_⟩
      refine ⟨_, rfl, _, rfl, _, rfl, _, rfl, fun x dx nx ndx nex => ?_⟩
      have s0 : Same H (upd (upd H dx (.own x)) x (.ins t.C_Choose dx [])) := fun b o e => by rw [upd_ne (ne_of_none e nx), upd_ne (ne_of_none e ndx)]; exact e
      exact ⟨9, x, dx, a1, a2, a3, nm, ns, is, os, rfl, upd_same, s0.seqA h1, s0.seqA h2, s0.seqA h3, fun H' b P => ⟨rfl, k H' x (fun c o e => b c o (ne_of_none e nx) (s0 c o e)) nx P⟩⟩
    | 10, _ =>
      refine ⟨_, rfl, rfl, _, rfl, iteN (by decide +kernel) ?_⟩
      refine ⟨_, rfl, rfl, _, rfl, iteN (by decide +kernel) ?_⟩
      refine ⟨_, rfl, rfl, _, rfl, iteN (by decide +kernel) ?_⟩
      refine ⟨_, rfl, rfl, _, rfl, iteN (by decide +kernel) ?_⟩
      refine ⟨_, rfl, rfl, _, rfl, iteN (by decide +kernel) ?_⟩
      refine ⟨_, rfl, rfl, _, rfl, iteN (by decide +kernel) ?_⟩
      refine ⟨_, rfl, rfl, _, rfl, iteN (by decide +kernel) ?_⟩
      refine ⟨_, rfl, rfl, _, rfl, iteN (by decide +kernel) ?_⟩
      refine ⟨_, rfl, rfl, _, rfl, iteN (by decide +kernel) ?_⟩
      refine ⟨_, rfl, rfl, _, rfl, iteN (by decide +kernel) ?_⟩
      refine ⟨_, rfl, _, rfl, _, rfl, _, rfl, fun x dx nx ndx nex => ?_⟩
      have s0 : Same H (upd (upd H dx (.own x)) x (.ins t.C_Split dx [])) := fun b o e => by rw [upd_ne (ne_of_none e nx), upd_ne (ne_of_none e ndx)]; exact e
      exact ⟨10, x, dx, a1, a2, a3, nm, ns, is, os, rfl, upd_same, s0.seqA h1, s0.seqA h2, s0.seqA h3, fun H' b P => ⟨rfl, k H' x (fun c o e => b c o (ne_of_none e nx) (s0 c o e)) nx P⟩⟩
    | (n + 11), h => exact absurd h (by omega)
def sp_part_made (K : PySem.W.Frag) (t : Adr) : Sp := fun vs H Q E => ∃ (z : Str) (nm : V) (a1 a2 a3 : Addr) (ns is os : List V), vs = [.str z, nm, .ref a1, .ref a2, .ref a3] ∧ SqA K H a1 ns ∧ SqA K H a2 is ∧ SqA K H a3 os ∧ (∀ v ∈ ns, Num v) ∧ ns.length ≤ 1000 ∧
  Fit t H E z nm ns is os (fun i => ∀ H' p, Same H H' → H p = none → PartAt K t H' p i nm ns is os → Q (.ref p) H')
theorem sc_part_made : FnScope ["kind", "name", "numbers", "ins", "outs"] ["kind", "name", "numbers", "ins", "outs"] (defScope s_part_made) := ⟨rfl, rfl, rfl, by decide +kernel, rfl, by decide +kernel, by decide +kernel⟩
theorem ok_part_made (T : Txt w K mg t) : FnOk P w K mg base (CX2 P w) 4 t.f_part_made t.fd_part_made ["kind", "name", "numbers", "ins", "outs"] (sp_part_made K t) := by
  have sc := sc_part_made
  refine T.F_part_made.ok2 sc (fun vs H Q E h => ?_) (fun cdv A outer s H vs Q E hr h => ?_)
  · obtain ⟨z, nm, a1, a2, a3, ns, is, os, rfl, _⟩ := h
    rfl
  · obtain ⟨z, nm, a1, a2, a3, ns, is, os, rfl, h1, h2, h3, hN, hz, F⟩ := h
    refine ⟨_, (pss_cons (ps_expr (pe_call (ok_need_fit T) (hr.mono (by decide)) (by rfl) T.m_need_fit T.F_need_fit.kp T.b_need_fit .nil (pass2 fun _ _ _ h => h) (pa_cons (pv 0) (pa_cons (pv 1) (pa_cons (pv 2) (pa_cons (pv 3) (pa_cons (pv 4) pa_nil star_Name) star_Name) star_Name) star_Name) star_Name)))
      (pss_one (ps_ret (pe_call (ok_made_of T) (hr.mono (by decide)) (by rfl) T.m_made_of T.F_made_of.kp T.b_made_of .nil pass0 (pa_cons (pv 0) (pa_cons (pv 1) (pa_cons (pv 2) (pa_cons (pv 3) (pa_cons (pv 4) pa_nil star_Name) star_Name) star_Name) star_Name) star_Name))))), ?_⟩
    refine ⟨_, rfl, _, rfl, _, rfl, _, rfl, _, rfl, z, nm, a1, a2, a3, ns, is, os, rfl, h1, h2, h3, hN, hz, F.map fun i hi hk q H1 s1 => ?_⟩
    subst hk
    exact ⟨_, rfl, _, rfl, _, rfl, _, rfl, _, rfl, i, nm, a1, a2, a3, ns, is, os, rfl, hi, s1.seqA h1, s1.seqA h2, s1.seqA h3, fun H2 p s2 np P => q H2 p (s1.trans s2) (s1.free np) P⟩
def sp__law_mix : Sp := fun vs H Q _ => ∃ a b : Int, vs = [.int a, .int b] ∧ ∀ n : Int, 0 ≤ n → n < 2147483587 → Q (.int n) H
theorem sc__law_mix : FnScope ["_law_cell", "_law_k", "_law_number"] ["_law_cell", "_law_k"] (defScope s__law_mix) := ⟨rfl, rfl, rfl, by decide +kernel, rfl, by decide +kernel, by decide +kernel⟩
theorem ok__law_mix (T : Txt w K mg t) : FnOk P w K mg base CX0 1 t.f__law_mix t.fd__law_mix ["_law_cell", "_law_k"] (sp__law_mix) := by
  have sc := sc__law_mix
  refine T.F__law_mix.ok sc (fun vs H Q E h => ?_) (fun cdv A outer s H vs Q E hr h => ?_)
  · obtain ⟨a, b, rfl, _⟩ := h
    rfl
  · obtain ⟨a, b, rfl, k⟩ := h
    refine ⟨_, (pss_cons (ps_set (i := 2) sc.nd rfl (Or.inl rfl) (pe_op op_mod (pe_op op_add (pe_op op_add (pe_op op_mulB (pe_op op_mod (pv 0) pe_int) pe_int) (pe_op op_mulB pe_int (pv 1))) pe_int) pe_int))
      (pss_cons (ps_set (i := 2) sc.nd rfl (Or.inl rfl) (pe_op op_mod (pe_op op_mulB (pv 2) (pv 2)) pe_int))
      (pss_one (ps_ret (pe_op op_mod (pe_op op_mulB (pe_op op_add (pv 2) (pe_op op_mulB pe_int (pv 1))) (pv 2)) pe_int))))), ?_⟩
    refine ⟨_, rfl, _, _, rfl, rfl, by show (0 : Int) < 2147483647; decide, _, _, rfl, rfl, mulOk_smallR, _, rfl, _, _, rfl, rfl, mulOk_small, _, _, rfl, rfl, _, _, rfl, rfl, _, _, rfl, rfl, by show (0 : Int) < 2147483647; decide, ?_⟩
    have y0 : 0 ≤ (a % 2147483647 * 48271 + 7919 * b + 11) % 2147483647 := Int.emod_nonneg _ (by decide)
    have y1 : (a % 2147483647 * 48271 + 7919 * b + 11) % 2147483647 < 2147483647 := Int.emod_lt_of_pos _ (by decide)
    generalize (a % 2147483647 * 48271 + 7919 * b + 11) % 2147483647 = y at y0 y1
    refine ⟨_, rfl, _, rfl, _, _, rfl, rfl, .of_right (intBits_le_64 (by omega) (by omega)), _, _, rfl, rfl, by show (0 : Int) < 2147483629; decide, ?_⟩
    have z0 : 0 ≤ y * y % 2147483629 := Int.emod_nonneg _ (by decide)
    have z1 : y * y % 2147483629 < 2147483629 := Int.emod_lt_of_pos _ (by decide)
    generalize y * y % 2147483629 = z at z0 z1
    refine ⟨_, rfl, _, rfl, _, _, rfl, rfl, mulOk_small, _, _, rfl, rfl, _, rfl, _, _, rfl, rfl, .of_right (intBits_le_64 (by omega) (by omega)), _, _, rfl, rfl, by show (0 : Int) < 2147483587; decide, ?_⟩
    exact k _ (Int.emod_nonneg _ (by decide)) (Int.emod_lt_of_pos _ (by decide))
def sp__law_value : Sp := fun vs H Q _ => ∃ a b : Int, vs = [.int a, .int b] ∧ ∀ n : Int, 0 ≤ n → n < 1000000000 → Q (.int n) H
theorem sc__law_value : FnScope ["_law_cell", "_law_k", "_law_number", "_law_way"] ["_law_cell", "_law_k"] (defScope s__law_value) := ⟨rfl, rfl, rfl, by decide +kernel, rfl, by decide +kernel, by decide +kernel⟩
theorem ok__law_value (T : Txt w K mg t) : FnOk P w K mg base CX0 2 t.f__law_value t.fd__law_value ["_law_cell", "_law_k"] (sp__law_value) := by
  have sc := sc__law_value
  refine T.F__law_value.ok sc (fun vs H Q E h => ?_) (fun cdv A outer s H vs Q E hr h => ?_)
  · obtain ⟨a, b, rfl, _⟩ := h
    rfl
  · obtain ⟨a, b, rfl, k⟩ := h
    refine ⟨_, (pss_cons (ps_set (i := 2) sc.nd rfl (Or.inl rfl) (pe_call (ok__law_mix T) (hr.mono (by decide)) (by rfl) T.m__law_mix T.F__law_mix.kp T.b__law_mix .nil pass0 (pa_cons (pv 0) (pa_cons (pv 1) pa_nil star_Name) star_Name)))
      (pss_cons (ps_set (i := 3) sc.nd rfl (Or.inl rfl) (pe_op op_mod (pe_op op_fdivB (pv 2) pe_int) pe_int))
      (pss_cons (ps_if (pt_cmpR op_eq (pv 3) pe_int (nomark _))
        (pss_one (ps_ret (pe_op op_mod (pv 2) pe_int)))
        pss_nil)
      (pss_cons (ps_if (pt_cmpR op_eq (pv 3) pe_int (nomark _))
        (pss_one (ps_ret (pe_op op_mod (pv 2) (pe_op op_pow pe_int pe_int))))
        pss_nil)
      (pss_one (ps_ret (pe_op op_sub (pe_op op_sub (pe_op op_pow pe_int pe_int) pe_int) (pe_op op_mod (pv 2) pe_int)))))))), ?_⟩
    refine ⟨_, rfl, _, rfl, a, b, rfl, fun n n0 n1 => ?_⟩
    refine ⟨_, rfl, _, _, rfl, rfl, divOk (by decide) (by decide), _, _, rfl, rfl, by show (0 : Int) < 3; decide, ?_⟩
    refine ⟨_, rfl, rfl, _, rfl, ite2 (fun _ => ?_) (fun _ => ?_)⟩
    · refine ⟨_, rfl, _, _, rfl, rfl, by show (0 : Int) < 5; decide, k _ (Int.emod_nonneg _ (by decide)) ?_⟩
      have := Int.emod_lt_of_pos n (show (0 : Int) < 5 by decide)
      omega
    · refine ⟨_, rfl, rfl, _, rfl, ite2 (fun _ => ?_) (fun _ => ?_)⟩
      · exact ⟨_, rfl, _, _, rfl, rfl, ⟨by decide, by decide, by decide⟩, _, _, rfl, rfl, by show (0 : Int) < 10 ^ 9; decide, k _ (Int.emod_nonneg _ (by decide)) (Int.emod_lt_of_pos _ (by decide))⟩
      · refine ⟨_, _, rfl, rfl, ⟨by decide, by decide, by decide⟩, _, _, rfl, rfl, _, rfl, _, _, rfl, rfl, by show (0 : Int) < 3; decide, _, _, rfl, rfl, ?_⟩
        have h1 := Int.emod_lt_of_pos n (show (0 : Int) < 3 by decide)
        have h2 := Int.emod_nonneg n (show (3 : Int) ≠ 0 by decide)
        exact k _ (by show (0 : Int) ≤ 10 ^ 9 - 1 - n % 3; omega) (by show (10 : Int) ^ 9 - 1 - n % 3 < _; omega)
def sp__law_word : Sp := fun vs H Q _ => ∃ a b : Int, vs = [.int a, .int b] ∧ 0 ≤ b ∧ b ≤ 20 ∧ ∀ (x : Str) (H' : Hp), Asc x → x.length ≤ 100 → Same H H' → Q (.str x) H'
theorem sc__law_word : FnScope ["_law_cell", "_law_k", "_law_letters", "_law_many_here", "_law_base", "_law_at"] ["_law_cell", "_law_k"] (defScope s__law_word) := ⟨rfl, rfl, rfl, by decide +kernel, rfl, by decide +kernel, by decide +kernel⟩
theorem ok__law_word (T : Txt w K mg t) : FnOk P w K mg base CX0 2 t.f__law_word t.fd__law_word ["_law_cell", "_law_k"] (sp__law_word) := by
  have sc := sc__law_word
  refine T.F__law_word.ok sc (fun vs H Q E h => ?_) (fun cdv A outer s H vs Q E hr h => ?_)
  · obtain ⟨a, b, rfl, _⟩ := h
    rfl
  · obtain ⟨a, b, rfl, b0, b1, k⟩ := h
    refine ⟨_, (pss_cons (ps_set (i := 2) sc.nd rfl (Or.inr rfl) pe_str)
      (pss_cons (ps_if (pt_cmpR op_eq (pe_op op_mod (pe_call (ok__law_mix T) (hr.mono (by decide)) (by rfl) T.m__law_mix T.F__law_mix.kp T.b__law_mix .nil pass0 (pa_cons (pv 0) (pa_cons pe_int pa_nil star_Constant) star_Name)) pe_int) pe_int (nomark _))
        (pss_one (ps_ret (pe_op op_add_str (pe_ix ix_str (pv 2) (pe_op op_mod (pe_call (ok__law_mix T) (hr.mono (by decide)) (by rfl) T.m__law_mix T.F__law_mix.kp T.b__law_mix .nil pass0 (pa_cons (pv 0) (pa_cons pe_int pa_nil star_Constant) star_Name)) pe_int) (fun _ _ => rfl)) (pe_callTy call_str_int (by rfl) T.n_str bt_str (pa_cons (pe_op op_add (pe_op op_mod (pe_call (ok__law_mix T) (hr.mono (by decide)) (by rfl) T.m__law_mix T.F__law_mix.kp T.b__law_mix .nil pass0 (pa_cons (pv 0) (pa_cons pe_int pa_nil star_Constant) star_Name)) pe_int) (pe_op op_mulB pe_int (pv 1))) pa_nil star_BinOp)))))
        pss_nil)
      (pss_cons (ps_set (i := 3) sc.nd rfl (Or.inl rfl) (pe_op op_mod (pe_call (ok__law_mix T) (hr.mono (by decide)) (by rfl) T.m__law_mix T.F__law_mix.kp T.b__law_mix .nil pass0 (pa_cons (pv 0) (pa_cons pe_int pa_nil star_Constant) star_Name)) pe_int))
      (pss_cons (ps_set (i := 4) sc.nd rfl (Or.inl rfl) (pe_bm PySem.F.plainAttrs_str PySem.F.slot_str_join PySem.F.type_str_join mt_join pe_str (pa_cons (pe_comp [0, 2] ["_law_cell", "_law_k", "_law_letters", "_law_many_here", "_law_base", "_law_at"] (defScope s__law_word) rfl (pi_range1 rfl T.n_range (pa_cons (pv 3) pa_nil star_Name)) (fun _ _ _ _ _ => pf_nil) (fun _ _ _ _ _ => (pe_ix ix_str (pv 2) (pe_op op_mod (pe_call (ok__law_mix T) (hr.mono (by decide)) (by rfl) T.m__law_mix T.F__law_mix.kp T.b__law_mix .nil pass0 (pa_cons (pv 1) (pa_cons (pe_op op_add pe_int (pv 0)) pa_nil star_BinOp) star_Name)) pe_int) (fun _ _ => rfl)))) pa_nil star_ListComp)))
      (pss_cons (ps_set (i := 5) sc.nd rfl (Or.inl rfl) (pe_op op_mod (pe_call (ok__law_mix T) (hr.mono (by decide)) (by rfl) T.m__law_mix T.F__law_mix.kp T.b__law_mix .nil pass0 (pa_cons (pv 0) (pa_cons pe_int pa_nil star_Constant) star_Name)) (pe_op op_add (pv 3) pe_int)))
      (pss_one (ps_ret (pe_op op_add_str (pe_op op_add_str (pe_slice sl_str (pv 4) po_none (po_some (pv 5))) (pe_ix ix_str (pv 2) (pe_op op_mod (pe_op op_add (pe_call (ok__law_mix T) (hr.mono (by decide)) (by rfl) T.m__law_mix T.F__law_mix.kp T.b__law_mix .nil pass0 (pa_cons (pv 0) (pa_cons pe_int pa_nil star_Constant) star_Name)) (pv 1)) pe_int) (fun _ _ => rfl))) (pe_slice sl_str (pv 4) (po_some (pv 5)) po_none))))))))), ?_⟩
    have hl : sizeLine = 16777216 := sizeLine_eq
    refine ⟨_, rfl, _, _, rfl, fun n n0 n1 => ⟨_, _, rfl, rfl, by show (0 : Int) < 3; decide, rfl, _, rfl, ite2 (fun _ => ?_) (fun _ => ?_)⟩⟩
    · refine ⟨_, rfl, _, rfl, _, _, rfl, fun m m0 m1 => ?_⟩
      obtain ⟨c, ec, hc⟩ := letter (n := m)
      refine ⟨_, _, rfl, rfl, by show (0 : Int) < 26; decide, LT, _, c, rfl, rfl, by rw [lt_len]; omega, ec, ?_⟩
      refine ⟨_, rfl, _, _, rfl, fun p p0 p1 => ⟨_, _, rfl, rfl, by show (0 : Int) < 1000; decide, _, rfl, _, _, rfl, rfl, mulOk_small, _, _, rfl, rfl, ?_⟩⟩
      have q0 := Int.emod_nonneg p (show (1000 : Int) ≠ 0 by decide)
      have q1 := Int.emod_lt_of_pos p (show (0 : Int) < 1000 by decide)
      obtain ⟨g1, g2⟩ := str_small (n := p % 1000 + 37 * b) (by omega) (by omega)
      refine ⟨_, rfl, log_small (by omega) (by omega), _, _, rfl, rfl, by show 1 + _ ≤ sizeLine; omega, k _ _ (cat_asc (one_asc hc) g1) ?_ (Same.refl _)⟩
      rw [Str.length_append]
      show 1 + _ ≤ 100
      omega
    refine ⟨_, rfl, _, _, rfl, fun m m0 m1 => ⟨_, _, rfl, rfl, by show (0 : Int) < 7; decide, ?_⟩⟩
    have z0 := Int.emod_nonneg m (show (7 : Int) ≠ 0 by decide)
    have z1 := Int.emod_lt_of_pos m (show (0 : Int) < 7 by decide)
    refine ⟨rfl, _, rfl, m % 7, rfl, by omega, by omega, ?_⟩
    refine comp_range (fun i ys H' => H' = H ∧ ∃ ws : List Str, ys = ws.map V.str ∧ ws.length = i ∧ ∀ w ∈ ws, Asc w ∧ w.length = 1) (by omega) ⟨rfl, [], rfl, rfl, by simp⟩ (fun i ys H' ⟨_, ws, e, e2, _⟩ => by rw [e, List.length_map]; omega) ?_ ?_
    · rintro i ys H' hi ⟨rfl, ws, rfl, rfl, hw⟩
      refine yes ?_
      refine ⟨_, rfl, _, rfl, _, rfl, _, _, rfl, rfl, _, _, rfl, fun p p0 p1 => ?_⟩
      obtain ⟨c, ec, hc⟩ := letter (n := p)
      refine ⟨_, _, rfl, rfl, by show (0 : Int) < 26; decide, LT, _, c, rfl, rfl, by rw [lt_len]; omega, ec, ?_⟩
      refine ⟨rfl, ws ++ [⟨#[c]⟩], by simp, by simp, fun w h => ?_⟩
      rcases List.mem_append.mp h with h | h
      · exact hw w h
      · have e : w = ⟨#[c]⟩ := by simpa using h
        subst e
        exact ⟨one_asc hc, rfl⟩
    rintro ys H' ⟨rfl, ws, rfl, e, hw⟩ D hD
    obtain ⟨g1, g2⟩ := join_asc hw
    have s1 : Same H' (upd H' D (.lst (ws.map V.str))) := same_new hD
    refine ⟨Str.empty, D, ws, rfl, rfl, SqL.of upd_same, ?_, ?_⟩
    · have := sum_le (n := 1) ws fun w h => by rw [(hw w h).2]; exact Nat.le_refl _
      have he : Str.empty.length = 0 := rfl
      rw [he]
      omega
    generalize upd H' D (.lst (ws.map V.str)) = H1 at s1 ⊢
    generalize Txt.join Str.empty ws = x0 at g1 g2 ⊢
    have hx0 : x0.length ≤ 7 := by omega
    refine ⟨_, rfl, _, _, rfl, fun p p0 p1 => ⟨_, rfl, _, _, rfl, rfl, _, _, rfl, rfl, by show (0 : Int) < m % 7 + 1; omega, ?_⟩⟩
    have s0 := Txt.slice_le x0 none (some (p % (m % 7 + 1)))
    have s2 := Txt.slice_le x0 (some (p % (m % 7 + 1))) none
    refine ⟨_, rfl, _, rfl, _, rfl, x0, rfl, by omega, _, rfl, _, rfl, _, _, rfl, fun u u0 u1 => ⟨_, rfl, _, _, rfl, rfl, ?_⟩⟩
    obtain ⟨c, ec, hc⟩ := letter (n := u + b)
    have h1 : (⟨#[c]⟩ : Str).length = 1 := rfl
    refine ⟨_, _, rfl, rfl, by show (0 : Int) < 26; decide, LT, _, c, rfl, rfl, by rw [lt_len]; omega, ec, _, _, rfl, rfl, by rw [h1]; omega, ?_⟩
    refine ⟨_, rfl, _, rfl, _, rfl, x0, rfl, by omega, _, _, rfl, rfl, by rw [Str.length_append, h1]; omega, k _ _ (cat_asc (cat_asc (slice_asc g1 _ _) (one_asc hc)) (slice_asc g1 _ _)) ?_ s1⟩
    rw [Str.length_append, Str.length_append, h1]
    omega

def krow (j : Nat) : List V := [.str (kname j), nV (cN j), nV (cI j), nV (cO j)]
abbrev rowsA : List (List V) := [[.str "give", .int 0, .int 0, .int 1], [.str "take", .int 0, .int 1, .int 0], [.str "pass", .int 0, .int 1, .int 1], [.str "copy", .int 0, .int 1, .int 2], [.str "turn", .int 2, .int 1, .int 1]]
abbrev rowsB : List (List V) := [[.str "heap", .int 1, .int 1, .int 1], [.str "add", .int 0, .int 2, .int 1], [.str "less", .int 0, .int 2, .int 1], [.str "order", .int 0, .int 2, .int 2]]
abbrev rowsC : List (List V) := [[.str "choose", .int 0, .int 3, .int 1], [.str "split", .int 0, .int 2, .int 2]]
theorem rows_at {j : Nat} (h : j ≤ 10) : (rowsA ++ rowsB ++ rowsC)[j]? = some (krow j) := by
  match j, h with
  | 0, _ => rfl
  | 1, _ => rfl
  | 2, _ => rfl
  | 3, _ => rfl
  | 4, _ => rfl
  | 5, _ => rfl
  | 6, _ => rfl
  | 7, _ => rfl
  | 8, _ => rfl
  | 9, _ => rfl
  | 10, _ => rfl
  | (n + 11), h => exact absurd h (by omega)
theorem tups_len {H : Hp} : ∀ {rs : List Addr} {vss : List (List V)}, Tups H rs vss → rs.length = vss.length := fun h => Paired.length h
def sp__law_kinds : Sp := fun vs H Q _ => vs = [] ∧ ∀ H' L rs, Same H H' → H' L = some (.lst (rs.map V.ref)) → Tups H' rs (rowsA ++ rowsB ++ rowsC) → Q (.ref L) H'
theorem sc__law_kinds : FnScope ["_law_some"] [] (defScope s__law_kinds) := ⟨rfl, rfl, rfl, by decide +kernel, rfl, by decide +kernel, by decide +kernel⟩
theorem ok__law_kinds (T : Txt w K mg t) : FnOk P w K mg base CX0 1 t.f__law_kinds t.fd__law_kinds [] (sp__law_kinds) := by
  have sc := sc__law_kinds
  refine T.F__law_kinds.ok sc (fun vs H Q E h => ?_) (fun cdv A outer s H vs Q E hr h => ?_)
  · obtain ⟨rfl, _⟩ := h
    rfl
  · obtain ⟨rfl, k⟩ := h
    refine ⟨_, (@pss_cons _ _ _ _ _ (@ps_set _ _ 0 _ _ _ _ sc.nd rfl (Or.inl rfl) (@pe_lst _ _ _ _ (@pa_ctups _ _ rowsA (by rfl) (by decide +kernel))) (by rfl) (.inl rfl)) (@pss_cons _ _ _ _ _ (@ps_set _ _ 0 _ _ _ _ sc.nd rfl (Or.inl rfl) (@pe_op _ _ _ _ _ _ _ _ op_cat (pv 0) (@pe_lst _ _ _ _ (@pa_ctups _ _ rowsB (by rfl) (by decide +kernel)))) (by rfl) (.inl rfl)) (@pss_one _ _ _ (@ps_ret _ _ _ _ (@pe_op _ _ _ _ _ _ _ _ op_cat (pv 0) (@pe_lst _ _ _ _ (@pa_ctups _ _ rowsC (by rfl) (by decide +kernel)))))))), ?_⟩
    have hl : sizeLine = 16777216 := sizeLine_eq
    refine fun H1 r1 s1 t1 => ⟨by rw [List.length_map, tups_len t1]; show 5 ≤ sizeLine; omega, fun L1 n1 => ?_⟩
    have sA := same_new (o := .lst (r1.map V.ref)) n1
    have eA : (upd H1 L1 (.lst (r1.map V.ref))) L1 = some (.lst (r1.map V.ref)) := upd_same
    have tA := t1.same sA
    generalize upd H1 L1 (.lst (r1.map V.ref)) = H2 at sA eA tA ⊢
    refine ⟨_, rfl, fun H3 r3 s3 t3 => ⟨by rw [List.length_map, tups_len t3]; show 4 ≤ sizeLine; omega, fun L2 n2 => ?_⟩⟩
    have sB := same_new (o := .lst (r3.map V.ref)) n2
    have eB : (upd H3 L2 (.lst (r3.map V.ref))) L2 = some (.lst (r3.map V.ref)) := upd_same
    have tB := t3.same sB
    have tA' := (tA.same s3).same sB
    have eA' := sB _ _ (s3 _ _ eA)
    generalize upd H3 L2 (.lst (r3.map V.ref)) = H4 at sB eB tB tA' eA' ⊢
    refine ⟨L1, L2, _, _, rfl, rfl, eA', eB, by rw [List.length_map, List.length_map, tups_len t1, tups_len t3]; show 9 ≤ sizeLine; omega, fun L3 n3 => ?_⟩
    rw [← List.map_append]
    have sC := same_new (o := .lst ((r1 ++ r3).map V.ref)) n3
    have eC : (upd H4 L3 (.lst ((r1 ++ r3).map V.ref))) L3 = some (.lst ((r1 ++ r3).map V.ref)) := upd_same
    have tC := (tA'.append tB).same sC
    generalize upd H4 L3 (.lst ((r1 ++ r3).map V.ref)) = H5 at sC eC tC ⊢
    refine ⟨_, rfl, fun H6 r6 s6 t6 => ⟨by rw [List.length_map, tups_len t6]; show 2 ≤ sizeLine; omega, fun L4 n4 => ?_⟩⟩
    have sD := same_new (o := .lst (r6.map V.ref)) n4
    have eD : (upd H6 L4 (.lst (r6.map V.ref))) L4 = some (.lst (r6.map V.ref)) := upd_same
    have tD := t6.same sD
    have tC' := (tC.same s6).same sD
    have eC' := sD _ _ (s6 _ _ eC)
    generalize upd H6 L4 (.lst (r6.map V.ref)) = H7 at sD eD tD tC' eC' ⊢
    refine ⟨L3, L4, _, _, rfl, rfl, eC', eD, by rw [List.length_map, List.length_map, List.length_append, tups_len t1, tups_len t3, tups_len t6]; show 11 ≤ sizeLine; omega, fun L5 n5 => ?_⟩
    rw [← List.map_append]
    have sE := same_new (o := .lst (((r1 ++ r3) ++ r6).map V.ref)) n5
    exact k _ L5 ((r1 ++ r3) ++ r6) (s1.trans (sA.trans (s3.trans (sB.trans (sC.trans (s6.trans (sD.trans sE))))))) upd_same ((tC'.append tD).same sE)

abbrev BADW : List V := [.str "", .str "part", .str "Give", .str "takes", .str "lane", .str "gives ", .str "stage", .str "door"]
theorem badw_at {j : Nat} (h : j < 8) : ∃ w : Str, BADW[j]? = some (.str w) ∧ rowOf ROWS w = none ∧ w.cps.toList.all (fun c => decide (c < 128)) = true := by
  match j, h with
  | 0, _ => exact ⟨"", rfl, by decide +kernel, by decide +kernel⟩
  | 1, _ => exact ⟨"part", rfl, by decide +kernel, by decide +kernel⟩
  | 2, _ => exact ⟨"Give", rfl, by decide +kernel, by decide +kernel⟩
  | 3, _ => exact ⟨"takes", rfl, by decide +kernel, by decide +kernel⟩
  | 4, _ => exact ⟨"lane", rfl, by decide +kernel, by decide +kernel⟩
  | 5, _ => exact ⟨"gives ", rfl, by decide +kernel, by decide +kernel⟩
  | 6, _ => exact ⟨"stage", rfl, by decide +kernel, by decide +kernel⟩
  | 7, _ => exact ⟨"door", rfl, by decide +kernel, by decide +kernel⟩
  | (n + 8), h => omega
theorem asc_of {w : Str} (h : w.cps.toList.all (fun c => decide (c < 128)) = true) : Asc w := fun c hc => of_decide_eq_true (List.all_eq_true.mp h c hc)
def sp__law_kind : Sp := fun vs H Q _ => ∃ c : Int, vs = [.int c] ∧ ∀ (H' : Hp) (r : Addr) (z : Str) (n1 n2 n3 : Nat) (kd : Option Nat), Same H H' → H' r = some (.tup [.str z, nV n1, nV n2, nV n3]) → Kd z kd → Asc z → n1 ≤ 3 → n2 ≤ 3 → n3 ≤ 3 → Q (.ref r) H'
theorem sc__law_kind : FnScope ["_law_cell"] ["_law_cell"] (defScope s__law_kind) := ⟨rfl, rfl, rfl, by decide +kernel, rfl, by decide +kernel, by decide +kernel⟩
theorem ok__law_kind (T : Txt w K mg t) : FnOk P w K mg base CX0 2 t.f__law_kind t.fd__law_kind ["_law_cell"] (sp__law_kind) := by
  have sc := sc__law_kind
  refine T.F__law_kind.ok sc (fun vs H Q E h => ?_) (fun cdv A outer s H vs Q E hr h => ?_)
  · obtain ⟨c, rfl, _⟩ := h
    rfl
  · obtain ⟨c, rfl, k⟩ := h
    refine ⟨_, (@pss_cons _ _ _ _ _ (@ps_if _ _ _ _ _ _ _ _ (pt_cmpR op_eq (pe_op op_mod (pe_call (ok__law_mix T) (hr.mono (by decide)) (by rfl) T.m__law_mix T.F__law_mix.kp T.b__law_mix .nil pass0 (pa_cons (pv 0) (pa_cons pe_int pa_nil star_Constant) star_Name)) pe_int) pe_int (nomark _)) (@pss_one _ _ _ (@ps_ret _ _ _ _ (@pe_tup _ _ _ _ _ (@pa_cons _ _ _ _ _ (@pe_ix _ _ _ _ _ _ _ ix_list (@pe_lst _ _ _ _ (@pa_consts _ _ BADW (by rfl))) (pe_op op_mod (pe_call (ok__law_mix T) (hr.mono (by decide)) (by rfl) T.m__law_mix T.F__law_mix.kp T.b__law_mix .nil pass0 (pa_cons (pv 0) (pa_cons pe_int pa_nil star_Constant) star_Name)) pe_int) (fun _ _ => rfl)) (@pa_consts _ _ [.int 1, .int 1, .int 1] (by rfl)) star_Subscript)))) pss_nil) (@pss_one _ _ _ (@ps_ret _ _ _ _ (@pe_ix _ _ _ _ _ _ _ ix_list (pe_call0 (ok__law_kinds T) (hr.mono (by decide)) (by rfl) T.m__law_kinds T.F__law_kinds.kp T.b__law_kinds .nil pass0) (pe_op op_mod (pe_call (ok__law_mix T) (hr.mono (by decide)) (by rfl) T.m__law_mix T.F__law_mix.kp T.b__law_mix .nil pass0 (pa_cons (pv 0) (pa_cons pe_int pa_nil star_Constant) star_Name)) pe_int) (fun _ _ => rfl))))), ?_⟩
    have hl : sizeLine = 16777216 := sizeLine_eq
    refine ⟨_, rfl, _, _, rfl, fun n n0 n1 => ⟨_, _, rfl, rfl, by show (0 : Int) < 5; decide, rfl, _, rfl, ite2 (fun _ => ?_) (fun _ => ?_)⟩⟩
    · refine ⟨by show 8 ≤ sizeLine; omega, fun L nL => ?_⟩
      have s1 : Same H (upd H L (.lst BADW)) := same_new nL
      have e1 : (upd H L (.lst BADW)) L = some (.lst BADW) := upd_same
      generalize upd H L (.lst BADW) = H1 at s1 e1 ⊢
      refine ⟨_, rfl, _, _, rfl, fun m m0 m1 => ⟨_, _, rfl, rfl, by show (0 : Int) < 8; decide, ?_⟩⟩
      have z0 := Int.emod_nonneg m (show (8 : Int) ≠ 0 by decide)
      have z1 := Int.emod_lt_of_pos m (show (0 : Int) < 8 by decide)
      obtain ⟨j, ej⟩ : ∃ j : Nat, m % 8 = (j : Int) := ⟨(m % 8).toNat, by omega⟩
      obtain ⟨w, ew, hw, ha⟩ := badw_at (j := j) (by omega)
      refine ⟨L, _, _, _, rfl, rfl, SqL.of e1, by rw [ej]; exact atI_nat ew, by show 4 ≤ sizeLine; omega, fun r nr => ?_⟩
      exact k _ r w 1 1 1 none (s1.trans (same_new nr)) upd_same hw (asc_of ha) (by decide) (by decide) (by decide)
    refine ⟨rfl, fun H1 L rs s1 eL hK => ⟨_, rfl, _, _, rfl, fun m m0 m1 => ⟨_, _, rfl, rfl, by show (0 : Int) < 11; decide, ?_⟩⟩⟩
    have j0 := Int.emod_nonneg m (show (11 : Int) ≠ 0 by decide)
    have j1 := Int.emod_lt_of_pos m (show (0 : Int) < 11 by decide)
    obtain ⟨i, ei⟩ : ∃ i : Nat, m % 11 = (i : Int) := ⟨(m % 11).toNat, by omega⟩
    have hi : i ≤ 10 := by omega
    obtain ⟨r, er, eK⟩ := hK.get (rows_at hi)
    have ea : atI (rs.map V.ref) (m % 11) = some (.ref r) := by
      rw [ei]
      exact atI_nat (by rw [List.getElem?_map, er]; rfl)
    have hN := cN_le i
    have hI := cI_le i
    have hO := cO_le i
    exact ⟨L, _, _, _, rfl, rfl, SqL.of eL, ea, k _ r (kname i) (cN i) (cI i) (cO i) (some i) s1 eK ⟨hi, rfl⟩ (asc_of (kname_asc i (by omega))) (by omega) (by omega) (by omega)⟩

abbrev MANY : List V := [.int 0, .int 0, .int 0, .int 0, .int 0, .int 0, .int 1, .int (-1)]
theorem many_at {j : Nat} (h : j < 8) : ∃ d : Int, MANY[j]? = some (.int d) ∧ -1 ≤ d ∧ d ≤ 1 := by
  match j, h with
  | 0, _ => exact ⟨0, rfl, by decide, by decide⟩
  | 1, _ => exact ⟨0, rfl, by decide, by decide⟩
  | 2, _ => exact ⟨0, rfl, by decide, by decide⟩
  | 3, _ => exact ⟨0, rfl, by decide, by decide⟩
  | 4, _ => exact ⟨0, rfl, by decide, by decide⟩
  | 5, _ => exact ⟨0, rfl, by decide, by decide⟩
  | 6, _ => exact ⟨1, rfl, by decide, by decide⟩
  | 7, _ => exact ⟨-1, rfl, by decide, by decide⟩
  | (n + 8), h => omega
def sp__law_many : Sp := fun vs H Q _ => ∃ (m : Nat) (n : Int), vs = [nV m, .int n] ∧ m ≤ 3 ∧ ∀ (r : Nat) (H' : Hp), r ≤ 4 → Same H H' → Q (nV r) H'
theorem sc__law_many : FnScope ["_law_many_here", "_law_number"] ["_law_many_here", "_law_number"] (defScope s__law_many) := ⟨rfl, rfl, rfl, by decide +kernel, rfl, by decide +kernel, by decide +kernel⟩
theorem ok__law_many (T : Txt w K mg t) : FnOk P w K mg base CX0 1 t.f__law_many t.fd__law_many ["_law_many_here", "_law_number"] (sp__law_many) := by
  have sc := sc__law_many
  refine T.F__law_many.ok sc (fun vs H Q E h => ?_) (fun cdv A outer s H vs Q E hr h => ?_)
  · obtain ⟨m, n, rfl, _⟩ := h
    rfl
  · obtain ⟨m, n, rfl, hm, k⟩ := h
    refine ⟨_, (pss_one (ps_ret (pe_callB (call_max2 rfl) (by rfl) T.n_max bt_max (pa_cons pe_int (pa_cons (pe_op op_add (pv 0) (pe_ix ix_list (pe_lst (pa_cons pe_int (pa_cons pe_int (pa_cons pe_int (pa_cons pe_int (pa_cons pe_int (pa_cons pe_int (pa_cons pe_int (pa_cons (pe_un un_neg pe_int) pa_nil star_UnaryOp) star_Constant) star_Constant) star_Constant) star_Constant) star_Constant) star_Constant) star_Constant)) (pe_op op_mod (pv 1) pe_int) (fun _ _ => rfl))) pa_nil star_BinOp) star_Constant)))), ?_⟩
    have hl : sizeLine = 16777216 := sizeLine_eq
    refine ⟨_, rfl, _, rfl, by show 8 ≤ sizeLine; omega, fun L nL => ?_⟩
    have s1 : Same H (upd H L (.lst MANY)) := same_new nL
    have e1 : (upd H L (.lst MANY)) L = some (.lst MANY) := upd_same
    generalize upd H L (.lst MANY) = H1 at s1 e1 ⊢
    refine ⟨_, rfl, _, _, rfl, rfl, by show (0 : Int) < 8; decide, ?_⟩
    have z0 := Int.emod_nonneg n (show (8 : Int) ≠ 0 by decide)
    have z1 := Int.emod_lt_of_pos n (show (0 : Int) < 8 by decide)
    obtain ⟨j, ej⟩ : ∃ j : Nat, n % 8 = (j : Int) := ⟨(n % 8).toNat, by omega⟩
    obtain ⟨d, ed, d0, d1⟩ := many_at (j := j) (by omega)
    refine ⟨L, _, _, _, rfl, rfl, SqL.of e1, by rw [ej]; exact atI_nat ed, _, _, rfl, rfl, _, _, rfl, ?_⟩
    have h : ∃ r : Nat, (if (m : Int) + d > 0 then (m : Int) + d else 0) = (r : Int) ∧ r ≤ 4 := by
      refine ⟨((m : Int) + d).toNat, ?_, by omega⟩
      split <;> omega
    obtain ⟨r, er, hr'⟩ := h
    show _
    rw [er]
    exact k r _ hr' s1

theorem neq_nil : ∀ {ns : List V} {ds : List PyData}, Dts K H ns ds → (PyData.eqv (.list ds) (.list []) = true → ns = []) ∧ (PyData.eqv (.list ds) (.list []) = false → ns ≠ [])
  | _, _, .nil => ⟨fun _ => rfl, fun h => by simp [PyData.eqv, PyData.eqvAll] at h⟩
  | _, _, .cons _ _ => ⟨fun h => by simp [PyData.eqv, PyData.eqvAll] at h, fun _ => by simp⟩
theorem ints_flat {H : Hp} : ∀ {ns : List V}, (∀ v ∈ ns, ∃ n : Int, v = .int n) → ∃ ds, Dts K H ns ds ∧ ∀ d ∈ ds, Flat d
  | [], _ => ⟨[], .nil, by simp⟩
  | x :: r, h => by
    obtain ⟨ds, h1, h2⟩ := ints_flat (ns := r) fun v hv => h v (List.mem_cons_of_mem _ hv)
    obtain ⟨n, rfl⟩ := h x List.mem_cons_self
    exact ⟨.int n :: ds, .cons (.int n) h1, fun d hd => by
      rcases List.mem_cons.mp hd with rfl | hd
      · exact .int n
      · exact h2 d hd⟩
theorem spoil_at {j : Nat} (h : j < 6) (n : Int) : ∃ v, ([.int (-1), .int 1000000000, .bl true, .non, .str "5", .int n] : List V)[j]? = some v ∧ Num v := by
  match j, h with
  | 0, _ => exact ⟨_, rfl, .inl ⟨_, rfl⟩⟩
  | 1, _ => exact ⟨_, rfl, .inl ⟨_, rfl⟩⟩
  | 2, _ => exact ⟨_, rfl, .inr (.inl rfl)⟩
  | 3, _ => exact ⟨_, rfl, .inr (.inr (.inl rfl))⟩
  | 4, _ => exact ⟨_, rfl, .inr (.inr (.inr rfl))⟩
  | 5, _ => exact ⟨_, rfl, .inl ⟨_, rfl⟩⟩
  | (n + 6), h => omega
theorem cut_mem {xs : List V} {lo hi : Option Int} {v : V} (h : v ∈ cutV xs lo hi) : v ∈ xs := by
  unfold cutV at h
  exact List.mem_of_mem_drop (List.mem_of_mem_take h)
theorem pow9 : (10 : Int) ^ (9 : Int).toNat = 1000000000 := by decide
def sp__law_lists (K : PySem.W.Frag) : Sp := fun vs H Q _ => ∃ (c : Int) (m i o : Nat), vs = [.int c, nV m, nV i, nV o] ∧ m ≤ 3 ∧ i ≤ 3 ∧ o ≤ 3 ∧ ∀ (H' : Hp) (r A1 A2 A3 : Addr) (ns is os : List V), Same H H' → H' r = some (.tup [.ref A1, .ref A2, .ref A3]) → H' A1 = some (.lst ns) → H' A2 = some (.lst is) → H' A3 = some (.lst os) →
  (∀ v ∈ ns, Num v) → ns.length ≤ 4 → (∀ v ∈ is, AscV v) → is.length ≤ 9 → (∀ v ∈ os, AscV v) → os.length ≤ 9 → Q (.ref r) H'
theorem sc__law_lists : FnScope ["_law_cell", "_law_many_here", "_law_ins", "_law_outs", "_law_numbers", "_law_lanes", "_law_one", "_law_other"] ["_law_cell", "_law_many_here", "_law_ins", "_law_outs"] (defScope s__law_lists) := ⟨rfl, rfl, rfl, by decide +kernel, rfl, by decide +kernel, by decide +kernel⟩
theorem ok__law_lists (T : Txt w K mg t) : FnOk P w K mg base CX0 3 t.f__law_lists t.fd__law_lists ["_law_cell", "_law_many_here", "_law_ins", "_law_outs"] (sp__law_lists K) := by
  have sc := sc__law_lists
  refine T.F__law_lists.ok sc (fun vs H Q E h => ?_) (fun cdv A outer s H vs Q E hr h => ?_)
  · obtain ⟨c, m, i, o, rfl, _⟩ := h
    rfl
  · obtain ⟨c, m, i, o, rfl, hm, hi, ho, k⟩ := h
    refine ⟨_, (pss_cons (ps_comp (i := 4) [0] ["_law_cell", "_law_many_here", "_law_ins", "_law_outs", "_law_numbers", "_law_lanes", "_law_one", "_law_other"] (defScope s__law_lists) rfl sc.nd rfl (pi_range1 rfl T.n_range (pa_cons (pe_call (ok__law_many T) (hr.mono (by decide)) (by rfl) T.m__law_many T.F__law_many.kp T.b__law_many .nil pass0 (pa_cons (pv 1) (pa_cons (pe_call (ok__law_mix T) (hr.mono (by decide)) (by rfl) T.m__law_mix T.F__law_mix.kp T.b__law_mix .nil pass0 (pa_cons (pv 0) (pa_cons pe_int pa_nil star_Constant) star_Name)) pa_nil star_Call) star_Name)) pa_nil star_Call)) (fun _ _ _ _ _ => pf_nil) (fun _ _ _ _ _ => (pe_call (ok__law_value T) (hr.mono (by decide)) (by rfl) T.m__law_value T.F__law_value.kp T.b__law_value .nil pass0 (pa_cons (pv 1) (pa_cons (pe_op op_add pe_int (pv 0)) pa_nil star_BinOp) star_Name))))
      (pss_cons (ps_join (ps_if (PW.pt (pw_and (pt_cmpR op_eq (pe_op op_mod (pe_call (ok__law_mix T) (hr.mono (by decide)) (by rfl) T.m__law_mix T.F__law_mix.kp T.b__law_mix .nil pass0 (pa_cons (pv 0) (pa_cons pe_int pa_nil star_Constant) star_Name)) pe_int) pe_int (nomark _)) (pw_and1 (pt_cmpR (op_neD hr.units) (pv 4) (pe_lst pa_nil) (nomark _)))))
        (pss_one (ps_asg (pe_ix ix_list (pe_lst (pa_cons (pe_un un_neg pe_int) (pa_cons (pe_op op_pow pe_int pe_int) (pa_cons pe_bl (pa_cons pe_non (pa_cons pe_str (pa_cons (pe_op op_add (pe_op op_pow pe_int pe_int) (pe_op op_mod (pv 0) (pe_op op_pow pe_int pe_int))) pa_nil star_BinOp) star_Constant) star_Constant) star_Constant) star_BinOp) star_UnaryOp)) (pe_op op_mod (pe_call (ok__law_mix T) (hr.mono (by decide)) (by rfl) T.m__law_mix T.F__law_mix.kp T.b__law_mix .nil pass0 (pa_cons (pv 0) (pa_cons pe_int pa_nil star_Constant) star_Name)) pe_int) (fun _ _ => rfl)) (pg_sub (pv 4) (pe_un un_neg pe_int) set_list)))
        pss_nil))
      (pss_cons (ps_comp (i := 5) [0] ["_law_cell", "_law_many_here", "_law_ins", "_law_outs", "_law_numbers", "_law_lanes", "_law_one", "_law_other"] (defScope s__law_lists) rfl sc.nd rfl (pi_range1 rfl T.n_range (pa_cons pe_int pa_nil star_Constant)) (fun _ _ _ _ _ => pf_nil) (fun _ _ _ _ _ => (pe_call (ok__law_word T) (hr.mono (by decide)) (by rfl) T.m__law_word T.F__law_word.kp T.b__law_word .nil pass0 (pa_cons (pv 1) (pa_cons (pv 0) pa_nil star_Name) star_Name))))
      (pss_cons (ps_set (i := 6) sc.nd rfl (Or.inl rfl) (pe_call (ok__law_many T) (hr.mono (by decide)) (by rfl) T.m__law_many T.F__law_many.kp T.b__law_many .nil pass0 (pa_cons (pv 2) (pa_cons (pe_call (ok__law_mix T) (hr.mono (by decide)) (by rfl) T.m__law_mix T.F__law_mix.kp T.b__law_mix .nil pass0 (pa_cons (pv 0) (pa_cons pe_int pa_nil star_Constant) star_Name)) pa_nil star_Call) star_Name)))
      (pss_cons (ps_set (i := 7) sc.nd rfl (Or.inl rfl) (pe_call (ok__law_many T) (hr.mono (by decide)) (by rfl) T.m__law_many T.F__law_many.kp T.b__law_many .nil pass0 (pa_cons (pv 3) (pa_cons (pe_call (ok__law_mix T) (hr.mono (by decide)) (by rfl) T.m__law_mix T.F__law_mix.kp T.b__law_mix .nil pass0 (pa_cons (pv 0) (pa_cons pe_int pa_nil star_Constant) star_Name)) pa_nil star_Call) star_Name)))
      (pss_one (ps_ret (pe_tup (pa_cons (pv 4) (pa_cons (pe_slice sl_list (pv 5) po_none (po_some (pv 6))) (pa_cons (pe_slice sl_list (pv 5) (po_some pe_int) (po_some (pe_op op_add pe_int (pv 7)))) pa_nil star_Subscript) star_Subscript) star_Name))))))))), ?_⟩
    have hl : sizeLine = 16777216 := sizeLine_eq
    refine ⟨_, rfl, _, rfl, _, _, rfl, fun n2 _ _ => ⟨m, n2, rfl, hm, fun r H1 hr1 s1 => ⟨(r : Int), rfl, by omega, by omega, ?_⟩⟩⟩
    rw [Int.toNat_natCast]
    refine comp_range (fun j ys H' => H' = H1 ∧ ys.length = j ∧ ∀ v ∈ ys, ∃ n : Int, v = .int n) (by omega) ⟨rfl, rfl, by simp⟩ (fun j ys H' ⟨_, e, _⟩ => by omega) ?_ ?_
    · rintro j ys H' hj ⟨rfl, rfl, hv⟩
      refine yes ⟨_, rfl, _, rfl, _, _, rfl, rfl, _, _, rfl, fun n n0 n1 => ⟨rfl, by simp, fun v h => ?_⟩⟩
      rcases List.mem_append.mp h with h | h
      · exact hv v h
      · exact ⟨n, by simpa using h⟩
    rintro ns H' ⟨rfl, ln, hv⟩ A1 hA1
    have s2 := same_new (o := .lst ns) hA1
    have e2 : (upd H' A1 (.lst ns)) A1 = some (.lst ns) := upd_same
    have nA : H A1 = none := s1.free hA1
    have s12 := s1.trans s2
    generalize upd H' A1 (.lst ns) = H2 at s2 e2 s12 ⊢
    refine ⟨fun σ H3 => Same H H3 ∧ ∃ ns' : List V, σ = [some (.int c), some (nV m), some (nV i), some (nV o), some (.ref A1), none, none, none] ∧ H3 A1 = some (.lst ns') ∧ ns'.length = r ∧ ∀ v ∈ ns', Num v, ?_, ?_⟩
    · have keep : ∀ H3 : Hp, Same H2 H3 → Same H H3 ∧ ∃ ns' : List V, [some (V.int c), some (nV m), some (nV i), some (nV o), some (.ref A1), none, none, none] = [some (V.int c), some (nV m), some (nV i), some (nV o), some (.ref A1), none, none, none] ∧ H3 A1 = some (.lst ns') ∧ ns'.length = r ∧ ∀ v ∈ ns', Num v :=
        fun H3 s => ⟨s12.trans s, ns, rfl, s _ _ e2, ln, fun v h => .inl (hv v h)⟩
      refine ⟨_, rfl, _, _, rfl, fun n3 _ _ => ⟨_, _, rfl, rfl, by show (0 : Int) < 6; decide, rfl, _, rfl, ite2 (fun _ => ?_) (fun _ => ?_)⟩⟩
      · refine ⟨_, rfl, by show 0 ≤ sizeLine; omega, fun Z nZ => ?_⟩
        have s3 : Same H2 (upd H2 Z (.lst [])) := same_new nZ
        obtain ⟨ds, hd, hf⟩ := ints_flat (K := K) (H := upd H2 Z (.lst [])) hv
        refine ⟨_, _, .list (SqL.of (s3 _ _ e2)) hd, .list (SqL.of upd_same) .nil, shaped_flat hf, by decide +kernel, _, rfl, ?_⟩
        have nn := neq_nil hd
        have e3 := s3 _ _ e2
        generalize upd H2 Z (.lst []) = H3 at s3 hd e3 ⊢
        cases hq : PyData.eqv (.list ds) (.list []) with
        | true => exact iteF (keep H3 s3)
        | false =>
          refine iteT ?_
          have hne := nn.2 hq
          have hlen : 0 < ns.length := List.length_pos_iff.mpr hne
          refine ⟨_, rfl, _, _, rfl, rfl, ⟨by decide, by decide, by decide⟩, _, _, rfl, rfl, ⟨by decide, by decide, by decide⟩, _, rfl, _, _, rfl, rfl, ⟨by decide, by decide, by decide⟩, _, _, rfl, rfl, by show (0 : Int) < 10 ^ 20; decide, _, _, rfl, rfl, by show 6 ≤ sizeLine; omega, fun L nL => ?_⟩
          refine ⟨_, rfl, _, _, rfl, fun m4 _ _ => ⟨_, _, rfl, rfl, by show (0 : Int) < 6; decide, ?_⟩⟩
          have z0 := Int.emod_nonneg m4 (show (6 : Int) ≠ 0 by decide)
          have z1 := Int.emod_lt_of_pos m4 (show (0 : Int) < 6 by decide)
          obtain ⟨j, ej⟩ : ∃ j : Nat, m4 % 6 = (j : Int) := ⟨(m4 % 6).toNat, by omega⟩
          obtain ⟨v, ev, hvn⟩ := spoil_at (j := j) (by omega) (10 ^ 9 + c % 10 ^ 20)
          refine ⟨L, _, _, v, rfl, rfl, SqL.of upd_same, by rw [ej]; exact atI_nat ev, ?_⟩
          have s4 := s3.trans (same_new (o := .lst [.int (-1), .int (10 ^ (9 : Int).toNat), .bl true, .non, .str "5", .int (10 ^ (9 : Int).toNat + c % 10 ^ (20 : Int).toNat)]) nL)
          have e4 := s4 _ _ e2
          refine ⟨_, rfl, _, rfl, A1, ns, _, ((-1 : Int) + ns.length).toNat, rfl, rfl, e4, ?_, ?_⟩
          · show ixN ns.length (-1) = _
            unfold ixN
            rw [if_neg (by decide), if_pos (by omega)]
          · refine ⟨fun b o e => ?_, _, rfl, upd_same, by rw [List.length_set]; exact ln, fun v' hv' => ?_⟩
            · rw [upd_ne (ne_of_none e nA)]
              exact (s12.trans s4) b o e
            · rcases List.mem_or_eq_of_mem_set hv' with h | h
              · exact .inl (hv v' h)
              · rw [h]; exact hvn
      · exact keep H2 (Same.refl _)
    rintro σ H3 ⟨s3, ns', rfl, e3, ln', hn'⟩
    refine ⟨9, rfl, by decide, by decide, comp_range (fun j ys H' => Same H3 H' ∧ ys.length = j ∧ ∀ v ∈ ys, AscV v) (by decide +kernel) ⟨Same.refl _, rfl, by simp⟩ (fun j ys H' ⟨_, e, _⟩ => by omega) ?_ ?_⟩
    · rintro j ys H' hj ⟨s', rfl, hv⟩
      have hj' : ys.length < 9 := hj
      refine yes ⟨_, rfl, _, rfl, c, _, rfl, by omega, by omega, fun x H5 ax lx s5 => ⟨s'.trans s5, by simp, fun v h => ?_⟩⟩
      rcases List.mem_append.mp h with h | h
      · exact hv v h
      · exact ⟨x, by simpa using h, ax⟩
    rintro ls H4 ⟨s4, ll, hz⟩ D hD
    have ll' : ls.length = 9 := ll
    have s5 := s4.trans (same_new (o := .lst ls) hD)
    have e5 : (upd H4 D (.lst ls)) D = some (.lst ls) := upd_same
    generalize upd H4 D (.lst ls) = H5 at s5 e5 ⊢
    refine ⟨_, rfl, _, rfl, _, _, rfl, fun n5 _ _ => ⟨i, n5, rfl, hi, fun r1 H6 _ s6 => ?_⟩⟩
    refine ⟨_, rfl, _, rfl, _, _, rfl, fun n6 _ _ => ⟨o, n6, rfl, ho, fun r2 H7 _ s7 => ?_⟩⟩
    have e7 := s7 _ _ (s6 _ _ e5)
    have sA := s5.trans (s6.trans s7)
    refine ⟨_, rfl, _, rfl, _, rfl, _, rfl, D, ls, rfl, SqL.of e7, fun A2 nA2 => ?_⟩
    have s8 := same_new (o := .lst (cutV ls none (some (r1 : Int)))) nA2
    have e8 : (upd H7 A2 (.lst (cutV ls none (some (r1 : Int))))) A2 = some (.lst (cutV ls none (some (r1 : Int)))) := upd_same
    have g1 := cutV_length ls none (some (r1 : Int))
    have g2 : ∀ v ∈ cutV ls none (some (r1 : Int)), AscV v := fun v h => hz v (cut_mem h)
    refine ⟨_, rfl, _, rfl, _, rfl, _, _, rfl, rfl, _, rfl, D, ls, rfl, SqL.of (s8 _ _ e7), fun A3 nA3 => ?_⟩
    have s9 := same_new (o := .lst (cutV ls (some 4) (some (4 + (r2 : Int))))) nA3
    have g3 := cutV_length ls (some 4) (some (4 + (r2 : Int)))
    have g4 : ∀ v ∈ cutV ls (some 4) (some (4 + (r2 : Int))), AscV v := fun v h => hz v (cut_mem h)
    refine ⟨by show 3 ≤ sizeLine; omega, fun rr nr => ?_⟩
    have sZ := s9.trans (same_new (o := .tup [.ref A1, .ref A2, .ref A3]) nr)
    exact k _ rr A1 A2 A3 ns' _ _ (s3.trans (sA.trans (s8.trans sZ))) upd_same ((sA.trans (s8.trans sZ)) _ _ e3) (sZ _ _ e8) (same_new nr _ _ upd_same) hn' (by omega) g2 (by omega) g4 (by omega)
def sp__law_are_values (K : PySem.W.Frag) : Sp := fun vs H Q _ => ∃ (a : Addr) (ns : List V), vs = [.ref a] ∧ SqL K H a ns ∧ (∀ v ∈ ns, Num v) ∧ Q (.bl (ns.all valB)) H
theorem sc__law_are_values : FnScope ["_law_numbers", "_law_number"] ["_law_numbers"] (defScope s__law_are_values) := ⟨rfl, rfl, rfl, by decide +kernel, rfl, by decide +kernel, by decide +kernel⟩
theorem ok__law_are_values (T : Txt w K mg t) : FnOk P w K mg base CX0 1 t.f__law_are_values t.fd__law_are_values ["_law_numbers"] (sp__law_are_values K) := by
  have sc := sc__law_are_values
  refine T.F__law_are_values.ok sc (fun vs H Q E h => ?_) (fun cdv A outer s H vs Q E hr h => ?_)
  · obtain ⟨a, ns, rfl, _⟩ := h
    rfl
  · obtain ⟨a, ns, rfl, hS, hN, k⟩ := h
    refine ⟨_, (pss_cons (ps_for PassesOwn.never rfl (pi_list (pv 0)) (pg_name (i := 1) sc.nd rfl (Or.inl rfl))
        (pss_one (ps_if (PW.pt (pw_or (pt_not (pt_val (pe_callB call_isi (by rfl) T.n_isinstance bt_isinstance (pa_cons (pv 1) (pa_cons (pe_bltT (by rfl) T.n_int bt_int) pa_nil star_Name) star_Name)))) (pw_or (pt_val (pe_callB call_isi (by rfl) T.n_isinstance bt_isinstance (pa_cons (pv 1) (pa_cons (pe_bltT (by rfl) T.n_bool bt_bool) pa_nil star_Name) star_Name))) (pw_or1 (pt_not (pt_chain op_le op_lt pe_int (pv 1) (pe_op op_pow pe_int pe_int)))))))
          (pss_one (ps_ret pe_bl))
          pss_nil)))
      (pss_one (ps_ret pe_bl))), ?_⟩
    refine ⟨_, rfl, a, rfl, ⟨_, hS⟩, for_list (K := K) (a := a) (xs := ns) (fun j σ H' => H' = H ∧ (ns.take j).all valB = true ∧ ∃ v, σ = [some (.ref a), v]) ⟨rfl, rfl, none, rfl⟩ (fun j σ H' _ ⟨e, _⟩ => by rw [e]; exact hS) ?_ ?_⟩
    · rintro j x σ H' hx ⟨rfl, ha, v, rfl⟩
      have fin : valB x = true → (ns.take (j + 1)).all valB = true := fun h => by rw [List.take_succ, hx]; simp [ha, h]
      have bad : valB x = false → ns.all valB = false := fun h => by
        refine Bool.eq_false_iff.mpr fun z => ?_
        have := List.all_eq_true.mp z x (List.mem_of_getElem? hx)
        rw [h] at this; cases this
      rcases hN x (List.mem_of_getElem? hx) with ⟨n, rfl⟩ | rfl | rfl | rfl
      · refine ⟨_, rfl, .int n, "int", "int", true, rfl, rfl, by decide, by decide, true, rfl, iteF ?_⟩
        refine ⟨_, rfl, .int n, "int", "bool", false, rfl, rfl, by decide, by decide, false, rfl, iteF ?_⟩
        refine ⟨_, rfl, _, _, rfl, rfl, _, rfl, ite2 (fun h => ?_) (fun h => ?_)⟩
        · have h' : 0 ≤ n := of_decide_eq_true h
          refine ⟨_, _, rfl, rfl, ⟨by decide, by decide, by decide⟩, _, _, rfl, rfl, _, rfl, ?_⟩
          by_cases h2 : n < 1000000000
          · have e : decide (n < 10 ^ (9 : Int).toNat) = true := decide_eq_true h2
            rw [e]
            exact iteF ⟨rfl, fin (by show (decide (0 ≤ n) && decide (n < 1000000000)) = true; rw [decide_eq_true h', decide_eq_true h2]; rfl), _, rfl⟩
          · have e : decide (n < 10 ^ (9 : Int).toNat) = false := decide_eq_false h2
            rw [e]
            rw [bad (by show (decide (0 ≤ n) && decide (n < 1000000000)) = false; rw [decide_eq_false h2, Bool.and_false])] at k
            exact iteT k
        · have h' : ¬ 0 ≤ n := fun z => h (decide_eq_true z)
          rw [bad (by show (decide (0 ≤ n) && decide (n < 1000000000)) = false; rw [decide_eq_false h', Bool.false_and])] at k
          exact ⟨false, rfl, iteT k⟩
      · rw [bad rfl] at k
        refine ⟨_, rfl, .bl true, "bool", "int", true, rfl, rfl, by decide, by decide, true, rfl, iteF ?_⟩
        exact ⟨_, rfl, .bl true, "bool", "bool", true, rfl, rfl, by decide, by decide, true, rfl, iteT (iteT k)⟩
      · rw [bad rfl] at k
        exact ⟨_, rfl, .non, "NoneType", "int", false, rfl, rfl, by decide, by decide, false, rfl, iteT (iteT k)⟩
      · rw [bad rfl] at k
        exact ⟨_, rfl, .str "5", "str", "int", false, rfl, rfl, by decide, by decide, false, rfl, iteT (iteT k)⟩
    rintro σ H' ⟨rfl, ha, v, rfl⟩
    rw [List.take_length] at ha
    rw [ha] at k
    exact k
def sp__law_due (K : PySem.W.Frag) : Sp := fun vs H Q _ => ∃ (z : Str) (nm : V) (a1 a2 a3 : Addr) (ns is os : List V) (kd : Option Nat), vs = [.str z, nm, .ref a1, .ref a2, .ref a3] ∧ SqL K H a1 ns ∧ SqL K H a2 is ∧ SqL K H a3 os ∧ (∀ v ∈ ns, Num v) ∧ Kd z kd ∧
  ∀ H' dv, Same H H' → DueV H' dv (dueO z nm ns is os kd) → Q dv H'
theorem sc__law_due : FnScope ["_law_kind_here", "_law_name", "_law_numbers", "_law_ins", "_law_outs", "_law_word_here", "_law_many_here", "_law_many_in", "_law_many_out"] ["_law_kind_here", "_law_name", "_law_numbers", "_law_ins", "_law_outs"] (defScope s__law_due) := ⟨rfl, rfl, rfl, by decide +kernel, rfl, by decide +kernel, by decide +kernel⟩
theorem ok__law_due (T : Txt w K mg t) : FnOk P w K mg base CX0 2 t.f__law_due t.fd__law_due ["_law_kind_here", "_law_name", "_law_numbers", "_law_ins", "_law_outs"] (sp__law_due K) := by
  have sc := sc__law_due
  refine T.F__law_due.ok sc (fun vs H Q E h => ?_) (fun cdv A outer s H vs Q E hr h => ?_)
  · obtain ⟨z, nm, a1, a2, a3, ns, is, os, kd, rfl, _⟩ := h
    rfl
  · obtain ⟨z, nm, a1, a2, a3, ns, is, os, kd, rfl, h1, h2, h3, hN, hk, k⟩ := h
    refine ⟨_, (pss_cons (ps_for PassesOwn.never rfl (pi_list (pe_call0 (ok__law_kinds T) (hr.mono (by decide)) (by rfl) T.m__law_kinds T.F__law_kinds.kp T.b__law_kinds .nil pass0)) (pg_tup rfl (pgs_cons (pg_name (i := 5) sc.nd rfl (Or.inl rfl)) (pgs_cons (pg_name (i := 6) sc.nd rfl (Or.inl rfl)) (pgs_cons (pg_name (i := 7) sc.nd rfl (Or.inl rfl)) (pgs_cons (pg_name (i := 8) sc.nd rfl (Or.inl rfl)) pgs_nil)))))
        (pss_one (ps_if (pt_cmpR op_eq (pv 5) (pv 0) (nomark _))
          (pss_cons (ps_if (PW.pt (pw_or (pt_cmpR op_ne (pe_callB call_len (by rfl) T.n_len bt_len (pa_cons (pv 2) pa_nil star_Name)) (pv 6) (nomark _)) (pw_or1 (pt_not (pt_val (pe_call (ok__law_are_values T) (hr.mono (by decide)) (by rfl) T.m__law_are_values T.F__law_are_values.kp T.b__law_are_values .nil pass0 (pa_cons (pv 2) pa_nil star_Name)))))))
            (pss_one (ps_ret (pe_tup (pa_cons pe_str (pa_cons (pv 1) pa_nil star_Name) star_Constant))))
            pss_nil)
          (pss_cons (ps_if (PW.pt (pw_or (pt_cmpR op_ne (pe_callB call_len (by rfl) T.n_len bt_len (pa_cons (pv 3) pa_nil star_Name)) (pv 7) (nomark _)) (pw_or1 (pt_cmpR op_ne (pe_callB call_len (by rfl) T.n_len bt_len (pa_cons (pv 4) pa_nil star_Name)) (pv 8) (nomark _)))))
            (pss_one (ps_ret (pe_tup (pa_cons pe_str (pa_cons (pv 1) pa_nil star_Name) star_Constant))))
            pss_nil)
          (pss_one (ps_ret pe_non))))
          pss_nil)))
      (pss_one (ps_ret (pe_tup (pa_cons pe_str (pa_cons (pv 0) pa_nil star_Name) star_Constant))))), ?_⟩
    have k0 : ∀ H', Same H H' → dueO z nm ns is os kd = none → Q .non H' := fun H' s h => k H' _ s (by rw [h]; rfl)
    have k1 : ∀ H' r w v, Same H H' → dueO z nm ns is os kd = some (w, v) → H' r = some (.tup [.str w, v]) → Q (.ref r) H' := fun H' r w v s h e => k H' _ s (by rw [h]; exact ⟨r, rfl, e⟩)
    have hl : sizeLine = 16777216 := sizeLine_eq
    refine ⟨rfl, fun H1 L rs s1 eL hK => ⟨L, rfl, ⟨_, SqL.of eL⟩, for_list (K := K) (a := L) (xs := rs.map V.ref) (fun j σ H' => H' = H1 ∧ (∀ i, kd = some i → j ≤ i) ∧ ∃ v1 v2 v3 v4, σ = [some (.str z), some nm, some (.ref a1), some (.ref a2), some (.ref a3), v1, v2, v3, v4])
      ⟨rfl, fun _ _ => Nat.zero_le _, none, none, none, none, rfl⟩ (fun j σ H' _ ⟨e, _⟩ => by rw [e]; exact SqL.of eL) ?_ ?_⟩⟩
    · rintro j x σ H' hx ⟨rfl, hj, v1, v2, v3, v4, rfl⟩
      rw [List.getElem?_map] at hx
      obtain ⟨r, hq, rfl⟩ := Option.map_eq_some_iff.mp hx
      have hj10 : j ≤ 10 := by
        have := (List.getElem?_eq_some_iff.mp hq).1
        rw [tups_len hK] at this
        have e : (rowsA ++ rowsB ++ rowsC).length = 11 := rfl
        omega
      obtain ⟨r', er, eK⟩ := hK.get (rows_at hj10)
      obtain rfl : r = r' := Option.some.inj (hq.symm.trans er)
      refine ⟨r, krow j, rfl, SqT.of eK, rfl, _, _, rfl, _, _, rfl, _, _, rfl, _, _, rfl, rfl, ?_⟩
      refine ⟨_, rfl, _, rfl, rfl, _, rfl, ?_⟩
      by_cases e : kname j = z
      · rw [show decide (V.str (kname j) = V.str z) = true by rw [e]; simp]
        refine iteT ?_
        match kd, hk with
        | none, hk => exact absurd e (Kd.ne hk j)
        | some i, hk =>
          obtain rfl : j = i := kname_apart j (by omega) i (by have := hk.1; omega) (e.trans hk.2)
          refine ⟨_, rfl, .ref a1, ns.length, rfl, .inl ⟨ns, s1.seq h1, rfl⟩, _, rfl, rfl, _, rfl, ?_⟩
          have two : ∀ (w : Str) (v : V), dueO z nm ns is os (some j) = some (w, v) → ∀ r, H' r = none → Q (.ref r) (upd H' r (.tup [.str w, v])) := fun w v hd r nr => k1 _ r w v (s1.trans (same_new nr)) hd upd_same
          by_cases hc : ns.length = cN j
          · rw [show (!decide (V.int ((ns.length : Nat) : Int) = nV (cN j))) = false by rw [hc]; simp [nV]]
            refine iteF ⟨_, rfl, a1, ns, rfl, s1.seq h1, hN, _, rfl, ?_⟩
            by_cases hv : ns.all valB = true
            · rw [hv]
              have g1 : goodN j ns = true := by unfold goodN; rw [decide_eq_true hc, hv]; rfl
              refine iteF ?_
              refine ⟨_, rfl, .ref a2, is.length, rfl, .inl ⟨is, s1.seq h2, rfl⟩, _, rfl, rfl, _, rfl, ?_⟩
              by_cases hI : is.length = cI j
              · rw [show (!decide (V.int ((is.length : Nat) : Int) = nV (cI j))) = false by rw [hI]; simp [nV]]
                refine iteF ⟨_, rfl, .ref a3, os.length, rfl, .inl ⟨os, s1.seq h3, rfl⟩, _, rfl, rfl, _, rfl, ?_⟩
                by_cases hO : os.length = cO j
                · rw [show (!decide (V.int ((os.length : Nat) : Int) = nV (cO j))) = false by rw [hO]; simp [nV]]
                  refine iteF (k0 _ s1 ?_)
                  unfold dueO; dsimp only
                  rw [if_pos g1, if_pos (by unfold goodL; rw [decide_eq_true hI, decide_eq_true hO]; rfl)]
                · rw [show (!decide (V.int ((os.length : Nat) : Int) = nV (cO j))) = true by simp [nV]; omega]
                  refine iteT ⟨_, rfl, by show 2 ≤ sizeLine; omega, fun r nr => two "lanes" nm ?_ r nr⟩
                  unfold dueO; dsimp only
                  rw [if_pos g1, if_neg (by unfold goodL; rw [decide_eq_false hO, Bool.and_false]; exact Bool.false_ne_true)]
              · rw [show (!decide (V.int ((is.length : Nat) : Int) = nV (cI j))) = true by simp [nV]; omega]
                refine iteT (iteT ⟨_, rfl, by show 2 ≤ sizeLine; omega, fun r nr => two "lanes" nm ?_ r nr⟩)
                unfold dueO; dsimp only
                rw [if_pos g1, if_neg (by unfold goodL; rw [decide_eq_false hI, Bool.false_and]; exact Bool.false_ne_true)]
            · have hv' : ns.all valB = false := by simpa using hv
              rw [hv']
              refine iteT ⟨_, rfl, by show 2 ≤ sizeLine; omega, fun r nr => two "numbers" nm ?_ r nr⟩
              unfold dueO; dsimp only
              rw [if_neg (by unfold goodN; rw [hv', Bool.and_false]; exact Bool.false_ne_true)]
          · rw [show (!decide (V.int ((ns.length : Nat) : Int) = nV (cN j))) = true by simp [nV]; omega]
            refine iteT (iteT ⟨_, rfl, by show 2 ≤ sizeLine; omega, fun r nr => two "numbers" nm ?_ r nr⟩)
            unfold dueO; dsimp only
            rw [if_neg (by unfold goodN; rw [decide_eq_false hc, Bool.false_and]; exact Bool.false_ne_true)]
      · rw [show decide (V.str (kname j) = V.str z) = false by simp [e]]
        refine iteF ⟨rfl, fun i hi => ?_, _, _, _, _, rfl⟩
        have h1' := hj i hi
        have h2' : j ≠ i := fun q => by
          subst hi q
          exact e hk.2.symm
        omega
    rintro σ H' ⟨rfl, hj, v1, v2, v3, v4, rfl⟩
    match kd, hk with
    | none, hk => exact ⟨_, rfl, by show 2 ≤ sizeLine; omega, fun r nr => k1 _ r "kind" (.str z) (s1.trans (same_new nr)) rfl upd_same⟩
    | some i, hk =>
      have := hj i rfl
      rw [List.length_map, tups_len hK] at this
      have e : (rowsA ++ rowsB ++ rowsC).length = 11 := rfl
      have := hk.1
      omega

abbrev CSL (t : Adr) : List Addr := [t.C_Give, t.C_Take, t.C_Pass, t.C_Copy, t.C_Turn, t.C_Heap, t.C_Add, t.C_Less, t.C_Order, t.C_Choose, t.C_Split]
theorem cls_at {j : Nat} (h : j < 11) : (CSL t).getD j 0 = cls t j := by
  match j, h with
  | 0, _ => rfl
  | 1, _ => rfl
  | 2, _ => rfl
  | 3, _ => rfl
  | 4, _ => rfl
  | 5, _ => rfl
  | 6, _ => rfl
  | 7, _ => rfl
  | 8, _ => rfl
  | 9, _ => rfl
  | 10, _ => rfl
  | (n + 11), h => omega
def sp__law_marks (K : PySem.W.Frag) (t : Adr) : Sp := fun vs H Q _ => ∃ (p : Addr) (i : Nat) (nm : V) (ns is os : List V), vs = [.ref p] ∧ i ≤ 10 ∧ PartAt K t H p i nm ns is os ∧ ∀ H' r, Same H H' → H' r = some (.lst [.bl (decide (i = 0)), .bl (decide (i = 1)), .bl (decide (i = 2)), .bl (decide (i = 3)), .bl (decide (i = 4)), .bl (decide (i = 5)), .bl (decide (i = 6)), .bl (decide (i = 7)), .bl (decide (i = 8)), .bl (decide (i = 9)), .bl (decide (i = 10))]) → Q (.ref r) H'
theorem sc__law_marks : FnScope ["_law_one", "_law_some"] ["_law_one"] (defScope s__law_marks) := ⟨rfl, rfl, rfl, by decide +kernel, rfl, by decide +kernel, by decide +kernel⟩
theorem ok__law_marks (T : Txt w K mg t) : FnOk P w K mg base CX0 1 t.f__law_marks t.fd__law_marks ["_law_one"] (sp__law_marks K t) := by
  have sc := sc__law_marks
  refine T.F__law_marks.ok sc (fun vs H Q E h => ?_) (fun cdv A outer s H vs Q E hr h => ?_)
  · obtain ⟨p, i, nm, ns, is, os, rfl, _⟩ := h
    rfl
  · obtain ⟨p, i, nm, ns, is, os, rfl, hi, hP, k⟩ := h
    refine ⟨_, (pss_cons (ps_set (i := 1) sc.nd rfl (Or.inl rfl) (pe_lst (pa_cons (pe_callB (call_isiO (K := K) rfl) (by rfl) T.n_isinstance bt_isinstance (pa_cons (pv 0) (pa_cons (pe_glob (v := .ref _) (by rfl) T.mc_Give rfl) pa_nil star_Name) star_Name)) (pa_cons (pe_callB (call_isiO (K := K) rfl) (by rfl) T.n_isinstance bt_isinstance (pa_cons (pv 0) (pa_cons (pe_glob (v := .ref _) (by rfl) T.mc_Take rfl) pa_nil star_Name) star_Name)) (pa_cons (pe_callB (call_isiO (K := K) rfl) (by rfl) T.n_isinstance bt_isinstance (pa_cons (pv 0) (pa_cons (pe_glob (v := .ref _) (by rfl) T.mc_Pass rfl) pa_nil star_Name) star_Name)) (pa_cons (pe_callB (call_isiO (K := K) rfl) (by rfl) T.n_isinstance bt_isinstance (pa_cons (pv 0) (pa_cons (pe_glob (v := .ref _) (by rfl) T.mc_Copy rfl) pa_nil star_Name) star_Name)) pa_nil star_Call) star_Call) star_Call) star_Call)))
      (pss_cons (ps_set (i := 1) sc.nd rfl (Or.inl rfl) (pe_op op_cat (pv 1) (pe_lst (pa_cons (pe_callB (call_isiO (K := K) rfl) (by rfl) T.n_isinstance bt_isinstance (pa_cons (pv 0) (pa_cons (pe_glob (v := .ref _) (by rfl) T.mc_Turn rfl) pa_nil star_Name) star_Name)) (pa_cons (pe_callB (call_isiO (K := K) rfl) (by rfl) T.n_isinstance bt_isinstance (pa_cons (pv 0) (pa_cons (pe_glob (v := .ref _) (by rfl) T.mc_Heap rfl) pa_nil star_Name) star_Name)) (pa_cons (pe_callB (call_isiO (K := K) rfl) (by rfl) T.n_isinstance bt_isinstance (pa_cons (pv 0) (pa_cons (pe_glob (v := .ref _) (by rfl) T.mc_Add rfl) pa_nil star_Name) star_Name)) (pa_cons (pe_callB (call_isiO (K := K) rfl) (by rfl) T.n_isinstance bt_isinstance (pa_cons (pv 0) (pa_cons (pe_glob (v := .ref _) (by rfl) T.mc_Less rfl) pa_nil star_Name) star_Name)) pa_nil star_Call) star_Call) star_Call) star_Call))))
      (pss_one (ps_ret (pe_op op_cat (pv 1) (pe_lst (pa_cons (pe_callB (call_isiO (K := K) rfl) (by rfl) T.n_isinstance bt_isinstance (pa_cons (pv 0) (pa_cons (pe_glob (v := .ref _) (by rfl) T.mc_Order rfl) pa_nil star_Name) star_Name)) (pa_cons (pe_callB (call_isiO (K := K) rfl) (by rfl) T.n_isinstance bt_isinstance (pa_cons (pv 0) (pa_cons (pe_glob (v := .ref _) (by rfl) T.mc_Choose rfl) pa_nil star_Name) star_Name)) (pa_cons (pe_callB (call_isiO (K := K) rfl) (by rfl) T.n_isinstance bt_isinstance (pa_cons (pv 0) (pa_cons (pe_glob (v := .ref _) (by rfl) T.mc_Split rfl) pa_nil star_Name) star_Name)) pa_nil star_Call) star_Call) star_Call))))))), ?_⟩
    have hl : sizeLine = 16777216 := sizeLine_eq
    obtain ⟨io0, _, kt0⟩ := tabO_of T.tab (i := i) (show i < 11 by omega)
    have ec : ∀ j, j < 11 → (CSL t).getD j 0 = cls t j := fun j hj => cls_at hj
    have io : isoIn K (cls t i) = true := by rw [← ec i (by omega)]; exact io0
    have kt : ∀ j, j < 11 → PySem.W.kitOne K (.ref (cls t i)) (.ref (cls t j)) = some (decide (i = j)) := fun j hj => by rw [← ec i (by omega), ← ec j hj]; exact kt0 j hj
    obtain ⟨dx, tn, ti, to, hp, _, _, _⟩ := id hP.ex
    refine ⟨_, rfl, p, _, _, _, _, _, rfl, hp, io, kt 0 (by decide), _, rfl, p, _, _, _, _, _, rfl, hp, io, kt 1 (by decide), _, rfl, p, _, _, _, _, _, rfl, hp, io, kt 2 (by decide), _, rfl, p, _, _, _, _, _, rfl, hp, io, kt 3 (by decide), by show 4 ≤ sizeLine; omega, fun p0 n0 => ?_⟩
    have t0 : Same H (upd H p0 (.lst [.bl (decide (i = 0)), .bl (decide (i = 1)), .bl (decide (i = 2)), .bl (decide (i = 3))])) := same_new n0
    have q0 : (upd H p0 (.lst [.bl (decide (i = 0)), .bl (decide (i = 1)), .bl (decide (i = 2)), .bl (decide (i = 3))])) p0 = some (.lst [.bl (decide (i = 0)), .bl (decide (i = 1)), .bl (decide (i = 2)), .bl (decide (i = 3))]) := upd_same
    generalize upd H p0 (.lst [.bl (decide (i = 0)), .bl (decide (i = 1)), .bl (decide (i = 2)), .bl (decide (i = 3))]) = H0 at t0 q0 ⊢
    have hp0 := t0 _ _ hp
    refine ⟨_, rfl, _, rfl, p, _, _, _, _, _, rfl, hp0, io, kt 4 (by decide), _, rfl, p, _, _, _, _, _, rfl, hp0, io, kt 5 (by decide), _, rfl, p, _, _, _, _, _, rfl, hp0, io, kt 6 (by decide), _, rfl, p, _, _, _, _, _, rfl, hp0, io, kt 7 (by decide), by show 4 ≤ sizeLine; omega, fun p1 n1 => ?_⟩
    have t1 : Same H0 (upd H0 p1 (.lst [.bl (decide (i = 4)), .bl (decide (i = 5)), .bl (decide (i = 6)), .bl (decide (i = 7))])) := same_new n1
    have q1 : (upd H0 p1 (.lst [.bl (decide (i = 4)), .bl (decide (i = 5)), .bl (decide (i = 6)), .bl (decide (i = 7))])) p1 = some (.lst [.bl (decide (i = 4)), .bl (decide (i = 5)), .bl (decide (i = 6)), .bl (decide (i = 7))]) := upd_same
    have q0b := t1 _ _ q0
    generalize upd H0 p1 (.lst [.bl (decide (i = 4)), .bl (decide (i = 5)), .bl (decide (i = 6)), .bl (decide (i = 7))]) = H1 at t1 q1 q0b ⊢
    refine ⟨p0, p1, _, _, rfl, rfl, q0b, q1, by show 8 ≤ sizeLine; omega, fun p2 n2 => ?_⟩
    have t2 : Same H1 (upd H1 p2 (.lst ([.bl (decide (i = 0)), .bl (decide (i = 1)), .bl (decide (i = 2)), .bl (decide (i = 3))] ++ [.bl (decide (i = 4)), .bl (decide (i = 5)), .bl (decide (i = 6)), .bl (decide (i = 7))]))) := same_new n2
    have q2 : (upd H1 p2 (.lst ([.bl (decide (i = 0)), .bl (decide (i = 1)), .bl (decide (i = 2)), .bl (decide (i = 3))] ++ [.bl (decide (i = 4)), .bl (decide (i = 5)), .bl (decide (i = 6)), .bl (decide (i = 7))]))) p2 = some (.lst [.bl (decide (i = 0)), .bl (decide (i = 1)), .bl (decide (i = 2)), .bl (decide (i = 3)), .bl (decide (i = 4)), .bl (decide (i = 5)), .bl (decide (i = 6)), .bl (decide (i = 7))]) := upd_same
    generalize upd H1 p2 (.lst ([.bl (decide (i = 0)), .bl (decide (i = 1)), .bl (decide (i = 2)), .bl (decide (i = 3))] ++ [.bl (decide (i = 4)), .bl (decide (i = 5)), .bl (decide (i = 6)), .bl (decide (i = 7))])) = H2 at t2 q2 ⊢
    have hp2 := t2 _ _ (t1 _ _ hp0)
    refine ⟨_, rfl, _, rfl, p, _, _, _, _, _, rfl, hp2, io, kt 8 (by decide), _, rfl, p, _, _, _, _, _, rfl, hp2, io, kt 9 (by decide), _, rfl, p, _, _, _, _, _, rfl, hp2, io, kt 10 (by decide), by show 3 ≤ sizeLine; omega, fun p3 n3 => ?_⟩
    have t3 : Same H2 (upd H2 p3 (.lst [.bl (decide (i = 8)), .bl (decide (i = 9)), .bl (decide (i = 10))])) := same_new n3
    have q3 : (upd H2 p3 (.lst [.bl (decide (i = 8)), .bl (decide (i = 9)), .bl (decide (i = 10))])) p3 = some (.lst [.bl (decide (i = 8)), .bl (decide (i = 9)), .bl (decide (i = 10))]) := upd_same
    have q2b := t3 _ _ q2
    generalize upd H2 p3 (.lst [.bl (decide (i = 8)), .bl (decide (i = 9)), .bl (decide (i = 10))]) = H3 at t3 q3 q2b ⊢
    refine ⟨p2, p3, _, _, rfl, rfl, q2b, q3, by show 11 ≤ sizeLine; omega, fun p4 n4 => ?_⟩
    exact k _ p4 (t0.trans (t1.trans (t2.trans (t3.trans (same_new n4))))) upd_same
theorem kind_ok (T : Txt w K mg t) (i : Nat) : MethAt P w K mg base CX0 1 (cls t i) "kind" (sp_kind i) := match i with
  | 0 => ⟨_, _, _, T.c_Give, T.me_Give_kind, T.b_Give_kind, ok_Give_kind T⟩
  | 1 => ⟨_, _, _, T.c_Take, T.me_Take_kind, T.b_Take_kind, ok_Take_kind T⟩
  | 2 => ⟨_, _, _, T.c_Pass, T.me_Pass_kind, T.b_Pass_kind, ok_Pass_kind T⟩
  | 3 => ⟨_, _, _, T.c_Copy, T.me_Copy_kind, T.b_Copy_kind, ok_Copy_kind T⟩
  | 4 => ⟨_, _, _, T.c_Turn, T.me_Turn_kind, T.b_Turn_kind, ok_Turn_kind T⟩
  | 5 => ⟨_, _, _, T.c_Heap, T.me_Heap_kind, T.b_Heap_kind, ok_Heap_kind T⟩
  | 6 => ⟨_, _, _, T.c_Add, T.me_Add_kind, T.b_Add_kind, ok_Add_kind T⟩
  | 7 => ⟨_, _, _, T.c_Less, T.me_Less_kind, T.b_Less_kind, ok_Less_kind T⟩
  | 8 => ⟨_, _, _, T.c_Order, T.me_Order_kind, T.b_Order_kind, ok_Order_kind T⟩
  | 9 => ⟨_, _, _, T.c_Choose, T.me_Choose_kind, T.b_Choose_kind, ok_Choose_kind T⟩
  | n + 10 => ⟨_, _, _, T.c_Split, T.me_Split_kind, T.b_Split_kind, ok_Split_kind T⟩

theorem bools_dts {H : Hp} : ∀ bs : List Bool, Dts K H (bs.map V.bl) (bs.map PyData.bool)
  | [] => .nil
  | b :: r => .cons (.bl b) (bools_dts r)
theorem bools_lay : ∀ bs : List Bool, PyData.canLayAll0 (bs.map PyData.bool) = true ∧ PyData.depthAll (bs.map PyData.bool) = 0 ∧ PyData.eqvAll (bs.map PyData.bool) (bs.map PyData.bool) = true
  | [] => by simp [PyData.canLayAll0, PyData.depthAll, PyData.eqvAll]
  | b :: r => by
    obtain ⟨h1, h2, h3⟩ := bools_lay r
    simp [PyData.canLayAll0, PyData.canLay0, PyData.depthAll, PyData.depth, PyData.eqvAll, PyData.eqv, h1, h2, h3]
theorem bools_shaped (bs : List Bool) : SeqAt.shaped (.list (bs.map PyData.bool)) = true := by
  obtain ⟨h1, h2, _⟩ := bools_lay bs
  simp [SeqAt.shaped, PyData.canLay0, PyData.depth, h1, h2]
theorem bools_eqv (bs : List Bool) : PyData.eqv (.list (bs.map PyData.bool)) (.list (bs.map PyData.bool)) = true := by
  unfold PyData.eqv
  exact (bools_lay bs).2.2
def sp__law_good (K : PySem.W.Frag) (t : Adr) : Sp := fun vs H Q _ => ∃ (p a1 a2 a3 : Addr) (i : Nat) (nm : Str) (ns is os : List V) (d1 d2 d3 : List PyData), vs = [.ref p, .str (kname i), .str nm, .ref a1, .ref a2, .ref a3] ∧ i ≤ 10 ∧ PartAt K t H p i (.str nm) ns is os ∧
  SqL K H a1 ns ∧ SqL K H a2 is ∧ SqL K H a3 os ∧ Pls ns d1 ∧ Pls is d2 ∧ Pls os d3 ∧ ∀ H', Same H H' → Q (.bl true) H'
theorem sc__law_good : FnScope ["_law_one", "_law_kind_here", "_law_name", "_law_numbers", "_law_ins", "_law_outs"] ["_law_one", "_law_kind_here", "_law_name", "_law_numbers", "_law_ins", "_law_outs"] (defScope s__law_good) := ⟨rfl, rfl, rfl, by decide +kernel, rfl, by decide +kernel, by decide +kernel⟩
theorem ok__law_good (T : Txt w K mg t) : FnOk P w K mg base CX0 2 t.f__law_good t.fd__law_good ["_law_one", "_law_kind_here", "_law_name", "_law_numbers", "_law_ins", "_law_outs"] (sp__law_good K t) := by
  have sc := sc__law_good
  refine T.F__law_good.ok sc (fun vs H Q E h => ?_) (fun cdv A outer s H vs Q E hr h => ?_)
  · obtain ⟨p, a1, a2, a3, i, nm, ns, is, os, d1, d2, d3, rfl, _⟩ := h
    rfl
  · obtain ⟨p, a1, a2, a3, i, nm, ns, is, os, d1, d2, d3, rfl, hi, hP, q1, q2, q3, p1, p2, p3, k⟩ := h
    refine ⟨_, (pss_cons (ps_if (PW.pt (pw_or (pt_not (pt_val (pe_callB (call_isiO (K := K) rfl) (by rfl) T.n_isinstance bt_isinstance (pa_cons (pv 0) (pa_cons (pe_glob (v := .ref _) (by rfl) T.mc_Part rfl) pa_nil star_Name) star_Name)))) (pw_or1 (pt_cmpR (op_neD hr.units) (pe_call (ok__law_marks T) (hr.mono (by decide)) (by rfl) T.m__law_marks T.F__law_marks.kp T.b__law_marks .nil pass0 (pa_cons (pv 0) pa_nil star_Name)) (pe_comp [1] ["_law_one", "_law_kind_here", "_law_name", "_law_numbers", "_law_ins", "_law_outs"] (defScope s__law_good) rfl (pi_list (pe_call0 (ok__law_kinds T) (hr.mono (by decide)) (by rfl) T.m__law_kinds T.F__law_kinds.kp T.b__law_kinds .nil pass0)) (fun _ _ _ _ _ => pf_nil) (fun _ _ _ _ _ => (pe_cmpR op_eq (pe_ix ix_tupC (pv 0) pe_int (fun _ _ => rfl)) (pv 1) (nomark _)))) (nomark _)))))
        (pss_one (ps_ret pe_bl))
        pss_nil)
      (pss_cons (ps_if (PW.pt (pw_or (pt_cmpR op_ne (pe_methD0 (CX := CX0) (k := 1) (E := E0) (pv 0) (hr.mono (by decide)) pass0) (pv 1) (nomark _)) (pw_or1 (pt_cmpR op_ne (pe_fld (pv 0) rfl) (pv 2) (nomark _)))))
        (pss_one (ps_ret pe_bl))
        pss_nil)
      (pss_one (ps_ret (pe_cmpR (op_eqD hr.units) (pe_tup (pa_cons (pe_fld (pv 0) rfl) (pa_cons (pe_fld (pv 0) rfl) (pa_cons (pe_fld (pv 0) rfl) pa_nil star_Attribute) star_Attribute) star_Attribute)) (pe_tup (pa_cons (pe_callTy call_tupA (by rfl) T.n_tuple bt_tuple (pa_cons (pv 3) pa_nil star_Name)) (pa_cons (pe_callTy call_tupA (by rfl) T.n_tuple bt_tuple (pa_cons (pv 4) pa_nil star_Name)) (pa_cons (pe_callTy call_tupA (by rfl) T.n_tuple bt_tuple (pa_cons (pv 5) pa_nil star_Name)) pa_nil star_Call) star_Call) star_Call)) (nomark _)))))), ?_⟩
    have hl : sizeLine = 16777216 := sizeLine_eq
    obtain ⟨dx, tn, ti, to, hp, h2, h3, h4⟩ := id hP.ex
    obtain ⟨io0, kp0, _⟩ := tabO_of T.tab (i := i) (show i < 11 by omega)
    have io : isoIn K (cls t i) = true := by rw [← cls_at (t := t) (show i < 11 by omega)]; exact io0
    have kp : PySem.W.kitOne K (.ref (cls t i)) (.ref t.C_Part) = some true := by rw [← cls_at (t := t) (show i < 11 by omega)]; exact kp0
    refine ⟨_, rfl, p, _, _, _, _, _, rfl, hp, io, kp, true, rfl, iteF ?_⟩
    refine ⟨_, rfl, p, i, .str nm, ns, is, os, rfl, hi, hP, fun H1 R s1 eR => ?_⟩
    refine ⟨rfl, fun H2 L rs s2 eL hK => ⟨L, rfl, ⟨_, SqL.of eL⟩, comp_list (K := K) (a := L) (xs := rs.map V.ref) (fun j ys H' => H' = H2 ∧ ys = ((List.range j).map fun q => decide (i = q)).map V.bl) (by rw [List.length_map, tups_len hK]; show 11 ≤ sizeLine; omega) ⟨rfl, rfl⟩ (fun j ys H' ⟨_, e⟩ => by rw [e]; simp) (fun j ys H' _ ⟨e, _⟩ => by rw [e]; exact SqL.of eL) ?_ ?_⟩⟩
    · rintro j x ys H' hx ⟨rfl, rfl⟩
      rw [List.getElem?_map] at hx
      obtain ⟨r, hq, rfl⟩ := Option.map_eq_some_iff.mp hx
      have hj10 : j ≤ 10 := by
        have := (List.getElem?_eq_some_iff.mp hq).1
        rw [tups_len hK] at this
        have e : (rowsA ++ rowsB ++ rowsC).length = 11 := rfl
        omega
      obtain ⟨r', er, eK⟩ := hK.get (rows_at hj10)
      obtain rfl : r = r' := Option.some.inj (hq.symm.trans er)
      refine yes ⟨_, rfl, r, krow j, 0, _, rfl, rfl, SqT.of eK, atI_nat (j := 0) rfl, _, rfl, rfl, rfl, ?_⟩
      have e : decide (V.str (kname j) = V.str (kname i)) = decide (i = j) := by
        by_cases q : i = j
        · subst q; simp
        · have : kname j ≠ kname i := fun z => q (kname_apart j (by omega) i (by omega) z).symm
          simp [q, this]
      rw [e, List.range_succ]
      simp
    rintro ys H3 ⟨rfl, rfl⟩ D hD
    rw [List.length_map, tups_len hK, show (rowsA ++ rowsB ++ rowsC).length = 11 from rfl]
    have s3 := same_new (o := .lst (((List.range 11).map fun q => decide (i = q)).map V.bl)) hD
    refine ⟨_, _, .list (SqL.of (s3 _ _ (s2 _ _ eR))) (bools_dts ([decide (i = 0), decide (i = 1), decide (i = 2), decide (i = 3), decide (i = 4), decide (i = 5), decide (i = 6), decide (i = 7), decide (i = 8), decide (i = 9), decide (i = 10)])), .list (SqL.of upd_same) (bools_dts ((List.range 11).map fun q => decide (i = q))), bools_shaped _, bools_shaped _, false, ?_, iteF ?_⟩
    · have e : PyData.eqv (.list (((List.range 11).map fun q => decide (i = q)).map PyData.bool)) (.list (((List.range 11).map fun q => decide (i = q)).map PyData.bool)) = true := bools_eqv _
      show V.bl (!PyData.eqv (.list (((List.range 11).map fun q => decide (i = q)).map PyData.bool)) (.list (((List.range 11).map fun q => decide (i = q)).map PyData.bool))) = _
      rw [e]
      rfl
    have sA := s1.trans (s2.trans s3)
    generalize upd H3 D (.lst (((List.range 11).map fun q => decide (i = q)).map V.bl)) = H4 at s3 sA ⊢
    have hp4 := sA _ _ hp
    refine ⟨_, rfl, p, cls t i, dx, _, sp_kind i, rfl, hp4, (flds_no _ _ _ _ (by decide +kernel) (by decide +kernel) (by decide +kernel) (by decide +kernel)), kind_ok T i, _, rfl, _, rfl, rfl, _, rfl, iteNS rfl ?_⟩
    refine ⟨_, rfl, p, cls t i, dx, _, .str nm, rfl, hp4, cls_ok T i, na_name T i, flds_name _ _ _ _, _, rfl, rfl, _, rfl, iteNS rfl ?_⟩
    refine ⟨_, rfl, p, cls t i, dx, _, .ref tn, rfl, hp4, cls_ok T i, na_numbers T i, flds_numbers _ _ _ _, _, rfl, p, cls t i, dx, _, .ref ti, rfl, hp4, cls_ok T i, na_ins T i, flds_ins _ _ _ _, _, rfl, p, cls t i, dx, _, .ref to, rfl, hp4, cls_ok T i, na_outs T i, flds_outs _ _ _ _, by show 3 ≤ sizeLine; omega, fun U nU => ?_⟩
    have s5 := sA.trans (same_new (o := .tup [.ref tn, .ref ti, .ref to]) nU)
    have e5 : (upd H4 U (.tup [.ref tn, .ref ti, .ref to])) U = some (.tup [.ref tn, .ref ti, .ref to]) := upd_same
    generalize upd H4 U (.tup [.ref tn, .ref ti, .ref to]) = H5 at s5 e5 ⊢
    refine ⟨_, rfl, a1, ns, rfl, .inl (s5.seq q1), fun H6 u6 s6 t6 => ⟨_, rfl, a2, is, rfl, .inl (s6.seq (s5.seq q2)), fun H7 u7 s7 t7 => ⟨_, rfl, a3, os, rfl, .inl (s7.seq (s6.seq (s5.seq q3))), fun H8 u8 s8 t8 => ⟨by show 3 ≤ sizeLine; omega, fun W nW => ?_⟩⟩⟩⟩
    have s9 := same_new (o := .tup [.ref u6, .ref u7, .ref u8]) nW
    have sB := s6.trans (s7.trans (s8.trans s9))
    have sC := s5.trans sB
    refine ⟨_, _, .tuple (SqT.of (sB _ _ e5)) (.cons (.tuple (sC.seqT h2) p1.dts) (.cons (.tuple (sC.seqT h3) p2.dts) (.cons (.tuple (sC.seqT h4) p3.dts) .nil))), .tuple (SqT.of upd_same) (.cons (.tuple ((s7.trans (s8.trans s9)).seqT t6) p1.dts) (.cons (.tuple ((s8.trans s9).seqT t7) p2.dts) (.cons (.tuple (s9.seqT t8) p3.dts) .nil))), tri_shaped p1 p2 p3, tri_shaped p1 p2 p3, ?_⟩
    rw [tri_eqv p1 p2 p3]
    exact k _ sC

theorem sc__law_by_class : FnScope ["_law_kind_here", "_law_name", "_law_numbers", "_law_ins", "_law_outs"] ["_law_kind_here", "_law_name", "_law_numbers", "_law_ins", "_law_outs"] (defScope s__law_by_class) := ⟨rfl, rfl, rfl, by decide +kernel, rfl, by decide +kernel, by decide +kernel⟩
theorem ok__law_by_class (T : Txt w K mg t) : FnOk P w K mg base CX0 3 t.f__law_by_class t.fd__law_by_class ["_law_kind_here", "_law_name", "_law_numbers", "_law_ins", "_law_outs"] (sp_made_of K t) := by
  have sc := sc__law_by_class
  refine T.F__law_by_class.ok sc (fun vs H Q E h => ?_) (fun cdv A outer s H vs Q E hr h => ?_)
  · obtain ⟨i, nm, a1, a2, a3, ns, is, os, rfl, _⟩ := h
    rfl
  · obtain ⟨i, nm, a1, a2, a3, ns, is, os, rfl, hi, h1, h2, h3, k⟩ := h
    refine ⟨_, (pss_cons (ps_if (pt_cmpR op_eq (pv 0) pe_str (nomark _))
        (pss_one (ps_ret (pe_make T.M_Give (ok_Part___init__ T) (hr.mono (by decide)) (by rfl) T.mc_Give T.b_Part___init__ .nil pass0 (pa_cons (pv 1) (pa_cons (pv 2) (pa_cons (pv 3) (pa_cons (pv 4) pa_nil star_Name) star_Name) star_Name) star_Name))))
        pss_nil)
      (pss_cons (ps_if (pt_cmpR op_eq (pv 0) pe_str (nomark _))
        (pss_one (ps_ret (pe_make T.M_Take (ok_Part___init__ T) (hr.mono (by decide)) (by rfl) T.mc_Take T.b_Part___init__ .nil pass0 (pa_cons (pv 1) (pa_cons (pv 2) (pa_cons (pv 3) (pa_cons (pv 4) pa_nil star_Name) star_Name) star_Name) star_Name))))
        pss_nil)
      (pss_cons (ps_if (pt_cmpR op_eq (pv 0) pe_str (nomark _))
        (pss_one (ps_ret (pe_make T.M_Pass (ok_Part___init__ T) (hr.mono (by decide)) (by rfl) T.mc_Pass T.b_Part___init__ .nil pass0 (pa_cons (pv 1) (pa_cons (pv 2) (pa_cons (pv 3) (pa_cons (pv 4) pa_nil star_Name) star_Name) star_Name) star_Name))))
        pss_nil)
      (pss_cons (ps_if (pt_cmpR op_eq (pv 0) pe_str (nomark _))
        (pss_one (ps_ret (pe_make T.M_Copy (ok_Part___init__ T) (hr.mono (by decide)) (by rfl) T.mc_Copy T.b_Part___init__ .nil pass0 (pa_cons (pv 1) (pa_cons (pv 2) (pa_cons (pv 3) (pa_cons (pv 4) pa_nil star_Name) star_Name) star_Name) star_Name))))
        pss_nil)
      (pss_cons (ps_if (pt_cmpR op_eq (pv 0) pe_str (nomark _))
        (pss_one (ps_ret (pe_make T.M_Turn (ok_Part___init__ T) (hr.mono (by decide)) (by rfl) T.mc_Turn T.b_Part___init__ .nil pass0 (pa_cons (pv 1) (pa_cons (pv 2) (pa_cons (pv 3) (pa_cons (pv 4) pa_nil star_Name) star_Name) star_Name) star_Name))))
        pss_nil)
      (pss_cons (ps_if (pt_cmpR op_eq (pv 0) pe_str (nomark _))
        (pss_one (ps_ret (pe_make T.M_Heap (ok_Part___init__ T) (hr.mono (by decide)) (by rfl) T.mc_Heap T.b_Part___init__ .nil pass0 (pa_cons (pv 1) (pa_cons (pv 2) (pa_cons (pv 3) (pa_cons (pv 4) pa_nil star_Name) star_Name) star_Name) star_Name))))
        pss_nil)
      (pss_cons (ps_if (pt_cmpR op_eq (pv 0) pe_str (nomark _))
        (pss_one (ps_ret (pe_make T.M_Add (ok_Part___init__ T) (hr.mono (by decide)) (by rfl) T.mc_Add T.b_Part___init__ .nil pass0 (pa_cons (pv 1) (pa_cons (pv 2) (pa_cons (pv 3) (pa_cons (pv 4) pa_nil star_Name) star_Name) star_Name) star_Name))))
        pss_nil)
      (pss_cons (ps_if (pt_cmpR op_eq (pv 0) pe_str (nomark _))
        (pss_one (ps_ret (pe_make T.M_Less (ok_Part___init__ T) (hr.mono (by decide)) (by rfl) T.mc_Less T.b_Part___init__ .nil pass0 (pa_cons (pv 1) (pa_cons (pv 2) (pa_cons (pv 3) (pa_cons (pv 4) pa_nil star_Name) star_Name) star_Name) star_Name))))
        pss_nil)
      (pss_cons (ps_if (pt_cmpR op_eq (pv 0) pe_str (nomark _))
        (pss_one (ps_ret (pe_make T.M_Order (ok_Part___init__ T) (hr.mono (by decide)) (by rfl) T.mc_Order T.b_Part___init__ .nil pass0 (pa_cons (pv 1) (pa_cons (pv 2) (pa_cons (pv 3) (pa_cons (pv 4) pa_nil star_Name) star_Name) star_Name) star_Name))))
        pss_nil)
      (pss_cons (ps_if (pt_cmpR op_eq (pv 0) pe_str (nomark _))
        (pss_one (ps_ret (pe_make T.M_Choose (ok_Part___init__ T) (hr.mono (by decide)) (by rfl) T.mc_Choose T.b_Part___init__ .nil pass0 (pa_cons (pv 1) (pa_cons (pv 2) (pa_cons (pv 3) (pa_cons (pv 4) pa_nil star_Name) star_Name) star_Name) star_Name))))
        pss_nil)
      (pss_one (ps_ret (pe_make T.M_Split (ok_Part___init__ T) (hr.mono (by decide)) (by rfl) T.mc_Split T.b_Part___init__ .nil pass0 (pa_cons (pv 1) (pa_cons (pv 2) (pa_cons (pv 3) (pa_cons (pv 4) pa_nil star_Name) star_Name) star_Name) star_Name)))))))))))))), ?_⟩
    match i, hi with
    | 0, _ =>
      refine ⟨_, rfl, rfl, _, rfl, iteY rfl ?_⟩
      refine ⟨_, rfl, _, rfl, _, rfl, _, rfl, fun x dx nx ndx nex => ?_⟩
      have s0 : Same H (upd (upd H dx (.own x)) x (.ins t.C_Give dx [])) := fun b o e => by rw [upd_ne (ne_of_none e nx), upd_ne (ne_of_none e ndx)]; exact e
      exact ⟨0, x, dx, a1, a2, a3, nm, ns, is, os, rfl, upd_same, s0.seqA h1, s0.seqA h2, s0.seqA h3, fun H' b P => ⟨rfl, k H' x (fun c o e => b c o (ne_of_none e nx) (s0 c o e)) nx P⟩⟩
    | 1, _ =>
      refine ⟨_, rfl, rfl, _, rfl, iteN (by decide +kernel) ?_⟩
      refine ⟨_, rfl, rfl, _, rfl, iteY rfl ?_⟩
      refine ⟨_, rfl, _, rfl, _, rfl, _, rfl, fun x dx nx ndx nex => ?_⟩
      have s0 : Same H (upd (upd H dx (.own x)) x (.ins t.C_Take dx [])) := fun b o e => by rw [upd_ne (ne_of_none e nx), upd_ne (ne_of_none e ndx)]; exact e
      exact ⟨1, x, dx, a1, a2, a3, nm, ns, is, os, rfl, upd_same, s0.seqA h1, s0.seqA h2, s0.seqA h3, fun H' b P => ⟨rfl, k H' x (fun c o e => b c o (ne_of_none e nx) (s0 c o e)) nx P⟩⟩
    | 2, _ =>
      refine ⟨_, rfl, rfl, _, rfl, iteN (by decide +kernel) ?_⟩
      refine ⟨_, rfl, rfl, _, rfl, iteN (by decide +kernel) ?_⟩
      refine ⟨_, rfl, rfl, _, rfl, iteY rfl ?_⟩
      refine ⟨_, rfl, _, rfl, _, rfl, _, rfl, fun x dx nx ndx nex => ?_⟩
      have s0 : Same H (upd (upd H dx (.own x)) x (.ins t.C_Pass dx [])) := fun b o e => by rw [upd_ne (ne_of_none e nx), upd_ne (ne_of_none e ndx)]; exact e
      exact ⟨2, x, dx, a1, a2, a3, nm, ns, is, os, rfl, upd_same, s0.seqA h1, s0.seqA h2, s0.seqA h3, fun H' b P => ⟨rfl, k H' x (fun c o e => b c o (ne_of_none e nx) (s0 c o e)) nx P⟩⟩
    | 3, _ =>
      refine ⟨_, rfl, rfl, _, rfl, iteN (by decide +kernel) ?_⟩
      refine ⟨_, rfl, rfl, _, rfl, iteN (by decide +kernel) ?_⟩
      refine ⟨_, rfl, rfl, _, rfl, iteN (by decide +kernel) ?_⟩
      refine ⟨_, rfl, rfl, _, rfl, iteY rfl ?_⟩
      refine ⟨_, rfl, _, rfl, _, rfl, _, rfl, fun x dx nx ndx nex => ?_⟩
      have s0 : Same H (upd (upd H dx (.own x)) x (.ins t.C_Copy dx [])) := fun b o e => by rw [upd_ne (ne_of_none e nx), upd_ne (ne_of_none e ndx)]; exact e
      exact ⟨3, x, dx, a1, a2, a3, nm, ns, is, os, rfl, upd_same, s0.seqA h1, s0.seqA h2, s0.seqA h3, fun H' b P => ⟨rfl, k H' x (fun c o e => b c o (ne_of_none e nx) (s0 c o e)) nx P⟩⟩
    | 4, _ =>
      refine ⟨_, rfl, rfl, _, rfl, iteN (by decide +kernel) ?_⟩
      refine ⟨_, rfl, rfl, _, rfl, iteN (by decide +kernel) ?_⟩
      refine ⟨_, rfl, rfl, _, rfl, iteN (by decide +kernel) ?_⟩
      refine ⟨_, rfl, rfl, _, rfl, iteN (by decide +kernel) ?_⟩
      refine ⟨_, rfl, rfl, _, rfl, iteY rfl ?_⟩
      refine ⟨_, rfl, _, rfl, _, rfl, _, rfl, fun x dx nx ndx nex => ?_⟩
      have s0 : Same H (upd (upd H dx (.own x)) x (.ins t.C_Turn dx [])) := fun b o e => by rw [upd_ne (ne_of_none e nx), upd_ne (ne_of_none e ndx)]; exact e
      exact ⟨4, x, dx, a1, a2, a3, nm, ns, is, os, rfl, upd_same, s0.seqA h1, s0.seqA h2, s0.seqA h3, fun H' b P => ⟨rfl, k H' x (fun c o e => b c o (ne_of_none e nx) (s0 c o e)) nx P⟩⟩
    | 5, _ =>
      refine ⟨_, rfl, rfl, _, rfl, iteN (by decide +kernel) ?_⟩
      refine ⟨_, rfl, rfl, _, rfl, iteN (by decide +kernel) ?_⟩
      refine ⟨_, rfl, rfl, _, rfl, iteN (by decide +kernel) ?_⟩
      refine ⟨_, rfl, rfl, _, rfl, iteN (by decide +kernel) ?_⟩
      refine ⟨_, rfl, rfl, _, rfl, iteN (by decide +kernel) ?_⟩
      refine ⟨_, rfl, rfl, _, rfl, iteY rfl ?_⟩
      refine ⟨_, rfl, _, rfl, _, rfl, _, rfl, fun x dx nx ndx nex => ?_⟩
      have s0 : Same H (upd (upd H dx (.own x)) x (.ins t.C_Heap dx [])) := fun b o e => by rw [upd_ne (ne_of_none e nx), upd_ne (ne_of_none e ndx)]; exact e
      exact ⟨5, x, dx, a1, a2, a3, nm, ns, is, os, rfl, upd_same, s0.seqA h1, s0.seqA h2, s0.seqA h3, fun H' b P => ⟨rfl, k H' x (fun c o e => b c o (ne_of_none e nx) (s0 c o e)) nx P⟩⟩
    | 6, _ =>
      refine ⟨_, rfl, rfl, _, rfl, iteN (by decide +kernel) ?_⟩
      refine ⟨_, rfl, rfl, _, rfl, iteN (by decide +kernel) ?_⟩
      refine ⟨_, rfl, rfl, _, rfl, iteN (by decide +kernel) ?_⟩
      refine ⟨_, rfl, rfl, _, rfl, iteN (by decide +kernel) ?_⟩
      refine ⟨_, rfl, rfl, _, rfl, iteN (by decide +kernel) ?_⟩
      refine ⟨_, rfl, rfl, _, rfl, iteN (by decide +kernel) ?_⟩
      refine ⟨_, rfl, rfl, _, rfl, iteY rfl ?_⟩
      refine ⟨_, rfl, _, rfl, _, rfl, _, rfl, fun x dx nx ndx nex => ?_⟩
      have s0 : Same H (upd (upd H dx (.own x)) x (.ins t.C_Add dx [])) := fun b o e => by rw [upd_ne (ne_of_none e nx), upd_ne (ne_of_none e ndx)]; exact e
      exact ⟨6, x, dx, a1, a2, a3, nm, ns, is, os, rfl, upd_same, s0.seqA h1, s0.seqA h2, s0.seqA h3, fun H' b P => ⟨rfl, k H' x (fun c o e => b c o (ne_of_none e nx) (s0 c o e)) nx P⟩⟩
    | 7, _ =>
      refine ⟨_, rfl, rfl, _, rfl, iteN (by decide +kernel) ?_⟩
      refine ⟨_, rfl, rfl, _, rfl, iteN (by decide +kernel) ?_⟩
      refine ⟨_, rfl, rfl, _, rfl, iteN (by decide +kernel) ?_⟩
      refine ⟨_, rfl, rfl, _, rfl, iteN (by decide +kernel) ?_⟩
      refine ⟨_, rfl, rfl, _, rfl, iteN (by decide +kernel) ?_⟩
      refine ⟨_, rfl, rfl, _, rfl, iteN (by decide +kernel) ?_⟩
      refine ⟨_, rfl, rfl, _, rfl, iteN (by decide +kernel) ?_⟩
      refine ⟨_, rfl, rfl, _, rfl, iteY rfl ?_⟩
      refine ⟨_, rfl, _, rfl, _, rfl, _, rfl, fun x dx nx ndx nex => ?_⟩
      have s0 : Same H (upd (upd H dx (.own x)) x (.ins t.C_Less dx [])) := fun b o e => by rw [upd_ne (ne_of_none e nx), upd_ne (ne_of_none e ndx)]; exact e
      exact ⟨7, x, dx, a1, a2, a3, nm, ns, is, os, rfl, upd_same, s0.seqA h1, s0.seqA h2, s0.seqA h3, fun H' b P => ⟨rfl, k H' x (fun c o e => b c o (ne_of_none e nx) (s0 c o e)) nx P⟩⟩
    | 8, _ =>
      refine ⟨_, rfl, rfl, _, rfl, iteN (by decide +kernel) ?_⟩
      refine ⟨_, rfl, rfl, _, rfl, iteN (by decide +kernel) ?_⟩
      refine ⟨_, rfl, rfl, _, rfl, iteN (by decide +kernel) ?_⟩
      refine ⟨_, rfl, rfl, _, rfl, iteN (by decide +kernel) ?_⟩
      refine ⟨_, rfl, rfl, _, rfl, iteN (by decide +kernel) ?_⟩
      refine ⟨_, rfl, rfl, _, rfl, iteN (by decide +kernel) ?_⟩
      refine ⟨_, rfl, rfl, _, rfl, iteN (by decide +kernel) ?_⟩
      refine ⟨_, rfl, rfl, _, rfl, iteN (by decide +kernel) ?_⟩
      refine ⟨_, rfl, rfl, _, rfl, iteY rfl ?_⟩
      refine ⟨_, rfl, _, rfl, _, rfl, _, rfl, fun x dx nx ndx nex => ?_⟩
      have s0 : Same H (upd (upd H dx (.own x)) x (.ins t.C_Order dx [])) := fun b o e => by rw [upd_ne (ne_of_none e nx), upd_ne (ne_of_none e ndx)]; exact e
      exact ⟨8, x, dx, a1, a2, a3, nm, ns, is, os, rfl, upd_same, s0.seqA h1, s0.seqA h2, s0.seqA h3, fun H' b P => ⟨rfl, k H' x (fun c o e => b c o (ne_of_none e nx) (s0 c o e)) nx P⟩⟩
    | 9, _ =>
      refine ⟨_, rfl, rfl, _, rfl, iteN (by decide +kernel) ?_⟩
      refine ⟨_, rfl, rfl, _, rfl, iteN (by decide +kernel) ?_⟩
      refine ⟨_, rfl, rfl, _, rfl, iteN (by decide +kernel) ?_⟩
      refine ⟨_, rfl, rfl, _, rfl, iteN (by decide +kernel) ?_⟩
      refine ⟨_, rfl, rfl, _, rfl, iteN (by decide +kernel) ?_⟩
      refine ⟨_, rfl, rfl, _, rfl, iteN (by decide +kernel) ?_⟩
      refine ⟨_, rfl, rfl, _, rfl, iteN (by decide +kernel) ?_⟩
      refine ⟨_, rfl, rfl, _, rfl, iteN (by decide +kernel) ?_⟩
      refine ⟨_, rfl, rfl, _, rfl, iteN (by decide +kernel) ?_⟩
      refine ⟨_, rfl, rfl, _, rfl, iteY rfl ?_⟩
      refine ⟨_, rfl, _, rfl, _, rfl, _, rfl, fun x dx nx ndx nex => ?_⟩
      have s0 : Same H (upd (upd H dx (.own x)) x (.ins t.C_Choose dx [])) := fun b o e => by rw [upd_ne (ne_of_none e nx), upd_ne (ne_of_none e ndx)]; exact e
      exact ⟨9, x, dx, a1, a2, a3, nm, ns, is, os, rfl, upd_same, s0.seqA h1, s0.seqA h2, s0.seqA h3, fun H' b P => ⟨rfl, k H' x (fun c o e => b c o (ne_of_none e nx) (s0 c o e)) nx P⟩⟩
    | 10, _ =>
      refine ⟨_, rfl, rfl, _, rfl, iteN (by decide +kernel) ?_⟩
      refine ⟨_, rfl, rfl, _, rfl, iteN (by decide +kernel) ?_⟩
      refine ⟨_, rfl, rfl, _, rfl, iteN (by decide +kernel) ?_⟩
      refine ⟨_, rfl, rfl, _, rfl, iteN (by decide +kernel) ?_⟩
      refine ⟨_, rfl, rfl, _, rfl, iteN (by decide +kernel) ?_⟩
      refine ⟨_, rfl, rfl, _, rfl, iteN (by decide +kernel) ?_⟩
      refine ⟨_, rfl, rfl, _, rfl, iteN (by decide +kernel) ?_⟩
      refine ⟨_, rfl, rfl, _, rfl, iteN (by decide +kernel) ?_⟩
      refine ⟨_, rfl, rfl, _, rfl, iteN (by decide +kernel) ?_⟩
      refine ⟨_, rfl, rfl, _, rfl, iteN (by decide +kernel) ?_⟩
      refine ⟨_, rfl, _, rfl, _, rfl, _, rfl, fun x dx nx ndx nex => ?_⟩
      have s0 : Same H (upd (upd H dx (.own x)) x (.ins t.C_Split dx [])) := fun b o e => by rw [upd_ne (ne_of_none e nx), upd_ne (ne_of_none e ndx)]; exact e
      exact ⟨10, x, dx, a1, a2, a3, nm, ns, is, os, rfl, upd_same, s0.seqA h1, s0.seqA h2, s0.seqA h3, fun H' b P => ⟨rfl, k H' x (fun c o e => b c o (ne_of_none e nx) (s0 c o e)) nx P⟩⟩
    | (n + 11), h => exact absurd h (by omega)

/-- what was handed in: a list that may be emptied, or a tuple -/
def Hd (K : PySem.W.Frag) (H3 H : Hp) (h C : Addr) : Prop := ((∃ xs, H C = some (.lst xs)) ∧ C ≠ h ∧ H3 C = none) ∨ ∃ xs, SqT K H C xs
theorem Hd.same {H3 H H' : Hp} {h C : Addr} (x : Hd K H3 H h C) (s : Same H H') : Hd K H3 H' h C := x.elim (fun ⟨⟨xs, e⟩, r⟩ => .inl ⟨⟨xs, s _ _ e⟩, r⟩) fun ⟨xs, e⟩ => .inr ⟨xs, s.seqT e⟩
theorem seqT_clear {H : Hp} {C a : Addr} {xs zs ys : List V} (e : H C = some (.lst zs)) (h : SqT K H a xs) : SqT K (upd H C (.lst ys)) a xs := by
  rcases h with (h | ⟨o, h⟩) | h
  · exact .inl (.inl (by rw [upd_ne (ne_of h e (by intro z; cases z))]; exact h))
  · exact .inl (.inr ⟨o, by rw [upd_ne (ne_of h e (by intro z; cases z))]; exact h⟩)
  · exact .inr h
theorem Hd.clear {H3 H : Hp} {h C D : Addr} {zs : List V} (x : Hd K H3 H h C) (e : H D = some (.lst zs)) (n : D ≠ h) (m : H3 D = none) : Hd K H3 (upd H D (.lst [])) h C := by
  rcases x with ⟨⟨xs, q⟩, r⟩ | ⟨xs, q⟩
  · by_cases z : C = D
    · subst z; exact .inl ⟨⟨[], upd_same⟩, r⟩
    · exact .inl ⟨⟨xs, by rw [upd_ne z]; exact q⟩, r⟩
  · exact .inr ⟨xs, seqT_clear e q⟩
theorem PartAt.clear {H : Hp} {p D : Addr} {i : Nat} {nm : V} {ns is os zs : List V} (x : PartAt K t H p i nm ns is os) (e : H D = some (.lst zs)) : PartAt K t (upd H D (.lst [])) p i nm ns is os := by
  obtain ⟨dx, tn, ti, to, h1, h2, h3, h4⟩ := x
  exact ⟨dx, tn, ti, to, by rw [upd_ne (ne_of h1 e (by intro z; cases z))]; exact h1, seqT_clear e h2, seqT_clear e h3, seqT_clear e h4⟩
/-- what the try leaves -/
def Out (K : PySem.W.Frag) (t : Adr) (H : Hp) (z : Str) (nm : V) (ns is os : List V) (kd : Option Nat) (told one : V) : Prop := match dueO z nm ns is os kd with
  | none => told = .non ∧ ∃ p i, kd = some i ∧ one = .ref p ∧ PartAt K t H p i nm ns is os
  | some (w, v) => one = .non ∧ ∃ u, told = .ref u ∧ SqT K H u [.str w, v]
theorem Out.same {H H' : Hp} {z : Str} {nm : V} {ns is os : List V} {kd : Option Nat} {told one : V} (x : Out K t H z nm ns is os kd told one) (s : Same H H') : Out K t H' z nm ns is os kd told one := by
  unfold Out at x ⊢
  split at x
  · obtain ⟨a, p, i, b, c, d⟩ := x; exact ⟨a, p, i, b, c, d.same s⟩
  · obtain ⟨a, u, b, c⟩ := x; exact ⟨a, u, b, s.seqT c⟩
theorem asc_kind : Asc ("kind" : Str) := by show ∀ c ∈ _, _; decide +kernel
theorem asc_numbers : Asc ("numbers" : Str) := by show ∀ c ∈ _, _; decide +kernel
theorem asc_lanes : Asc ("lanes" : Str) := by show ∀ c ∈ _, _; decide +kernel
theorem due_str {z nm w : Str} {v : V} {ns is os : List V} {kd : Option Nat} (az : Asc z) (an : Asc nm) (h : dueO z (.str nm) ns is os kd = some (w, v)) : Asc w ∧ ∃ x, v = .str x ∧ Asc x := by
  unfold dueO at h
  split at h
  · cases h; exact ⟨asc_kind, _, rfl, az⟩
  · split at h
    · split at h
      · cases h
      · cases h; exact ⟨asc_lanes, _, rfl, an⟩
    · cases h; exact ⟨asc_numbers, _, rfl, an⟩
theorem due_none {z : Str} {nm : V} {ns is os : List V} {i : Nat} (h : dueO z nm ns is os (some i) = none) : ns.all valB = true := by
  unfold dueO at h
  dsimp only at h
  split at h
  · rename_i g
    unfold goodN at g
    exact (Bool.and_eq_true_iff.mp g).2
  · cases h
theorem due_data {H : Hp} {z nm : Str} {ns is os : List V} {kd : Option Nat} {told one dv : V} (x : Out K t H z (.str nm) ns is os kd told one) (y : DueV H dv (dueO z (.str nm) ns is os kd)) (az : Asc z) (an : Asc nm) :
    ∃ d, Dt K H told d ∧ Dt K H dv d ∧ SeqAt.shaped d = true ∧ PyData.eqv d d = true := by
  unfold Out at x
  cases hd : dueO z (.str nm) ns is os kd with
  | none =>
    rw [hd] at x y
    obtain ⟨rfl, _⟩ := x
    obtain rfl : dv = .non := y
    exact ⟨.none, .non, .non, by decide +kernel, by simp [PyData.eqv]⟩
  | some wv =>
    obtain ⟨w, v⟩ := wv
    obtain ⟨aw, x0, rfl, ax⟩ := due_str az an hd
    rw [hd] at x y
    obtain ⟨_, u, rfl, e1⟩ := x
    obtain ⟨r, rfl, e2⟩ := y
    exact ⟨_, .tuple e1 (.cons (.str w) (.cons (.str x0) .nil)), .tuple (SqT.of e2) (.cons (.str w) (.cons (.str x0) .nil)), pair_shaped aw ax, pair_eqv _ _⟩
theorem names_flat : ((((List.range 11).map kname).map V.str).all flatV) = true := by decide +kernel
theorem in_names {z : Str} {kd : Option Nat} (hk : Kd z kd) : inV (.str z) (((List.range 11).map kname).map V.str) = (rowOf ROWS z).isSome := by
  cases kd with
  | some i =>
    obtain ⟨hi, rfl⟩ := hk
    rw [row_of]
    show inV _ _ = true
    unfold inV
    rw [List.any_eq_true]
    exact ⟨.str (kname i), List.mem_map.mpr ⟨_, List.mem_map.mpr ⟨i, List.mem_range.mpr (by omega), rfl⟩, rfl⟩, by simp [eqV]⟩
  | none =>
    rw [show rowOf ROWS z = none from hk]
    show inV _ _ = false
    unfold inV
    rw [List.any_eq_false]
    intro v hv
    obtain ⟨_, hw, rfl⟩ := List.mem_map.mp hv
    obtain ⟨i, _, rfl⟩ := List.mem_map.mp hw
    have := Kd.ne hk i
    simp [eqV, this]
def sp__law_made (K : PySem.W.Frag) (t : Adr) : Sp := fun vs H Q _ => ∃ c : Int, vs = [.int c] ∧ ∀ H', Same H H' → Q (.bl true) H'
theorem sc__law_made : FnScope ["_law_cell", "_law_kind_here", "_law_many_here", "_law_many_in", "_law_many_out", "_law_name", "_law_numbers", "_law_ins", "_law_outs", "_law_handed", "_law_told", "_law_one", "e", "_law_due_here", "_law_known", "_law_some", "_law_other"] ["_law_cell"] (defScope s__law_made) := ⟨rfl, rfl, rfl, by decide +kernel, rfl, by decide +kernel, by decide +kernel⟩
theorem ok__law_made (T : Txt w K mg t) : FnOk P w K mg base CX0 5 t.f__law_made t.fd__law_made ["_law_cell"] (sp__law_made K t) := by
  have sc := sc__law_made
  refine T.F__law_made.ok sc (fun vs H Q E h => ?_) (fun cdv A outer s H vs Q E hr h => ?_)
  · obtain ⟨c, rfl, _⟩ := h
    rfl
  · obtain ⟨c, rfl, k⟩ := h
    refine ⟨_, (pss_cons (ps_asg (pe_call (ok__law_kind T) (hr.mono (by decide)) (by rfl) T.m__law_kind T.F__law_kind.kp T.b__law_kind .nil pass0 (pa_cons (pv 0) pa_nil star_Name)) (pg_tup rfl (pgs_cons (pg_name (i := 1) sc.nd rfl (Or.inl rfl)) (pgs_cons (pg_name (i := 2) sc.nd rfl (Or.inl rfl)) (pgs_cons (pg_name (i := 3) sc.nd rfl (Or.inl rfl)) (pgs_cons (pg_name (i := 4) sc.nd rfl (Or.inl rfl)) pgs_nil))))))
      (pss_cons (ps_set (i := 5) sc.nd rfl (Or.inl rfl) (pe_call (ok__law_word T) (hr.mono (by decide)) (by rfl) T.m__law_word T.F__law_word.kp T.b__law_word .nil pass0 (pa_cons (pv 0) (pa_cons pe_int pa_nil star_Constant) star_Name)))
      (pss_cons (ps_asg (pe_call (ok__law_lists T) (hr.mono (by decide)) (by rfl) T.m__law_lists T.F__law_lists.kp T.b__law_lists .nil pass0 (pa_cons (pv 0) (pa_cons (pv 2) (pa_cons (pv 3) (pa_cons (pv 4) pa_nil star_Name) star_Name) star_Name) star_Name)) (pg_tup rfl (pgs_cons (pg_name (i := 6) sc.nd rfl (Or.inl rfl)) (pgs_cons (pg_name (i := 7) sc.nd rfl (Or.inl rfl)) (pgs_cons (pg_name (i := 8) sc.nd rfl (Or.inl rfl)) pgs_nil)))))
      (pss_cons (ps_set (i := 9) sc.nd rfl (Or.inl rfl) (pe_lst (pa_cons (pe_callTy call_list_of (by rfl) T.n_list bt_list (pa_cons (pv 6) pa_nil star_Name)) (pa_cons (pe_callTy call_list_of (by rfl) T.n_list bt_list (pa_cons (pv 7) pa_nil star_Name)) (pa_cons (pe_callTy call_list_of (by rfl) T.n_list bt_list (pa_cons (pv 8) pa_nil star_Name)) pa_nil star_Call) star_Call) star_Call)))
      (pss_cons (ps_join (ps_if (pt_cmpR op_eq (pe_op op_mod (pe_call (ok__law_mix T) (hr.mono (by decide)) (by rfl) T.m__law_mix T.F__law_mix.kp T.b__law_mix .nil pass0 (pa_cons (pv 0) (pa_cons pe_int pa_nil star_Constant) star_Name)) pe_int) pe_int (nomark _))
        (pss_one (ps_set (i := 9) sc.nd rfl (Or.inl rfl) (pe_lst (pa_cons (pe_callTy call_tupA (by rfl) T.n_tuple bt_tuple (pa_cons (pv 6) pa_nil star_Name)) (pa_cons (pe_callTy call_tupA (by rfl) T.n_tuple bt_tuple (pa_cons (pv 7) pa_nil star_Name)) (pa_cons (pe_callTy call_tupA (by rfl) T.n_tuple bt_tuple (pa_cons (pv 8) pa_nil star_Name)) pa_nil star_Call) star_Call) star_Call))))
        pss_nil))
      (pss_cons (ps_set (i := 10) sc.nd rfl (Or.inl rfl) pe_non)
      (pss_cons (ps_set (i := 11) sc.nd rfl (Or.inl rfl) pe_non)
      (pss_cons (ps_join (ps_try2 rfl rfl rfl (fun _ _ _ hx => (pss_one (ps_set (i := 11) sc.nd rfl (Or.inl rfl) (pe_callR (ok_part_made T) (hr.mono (by decide)) (by rfl) T.m_part_made T.F_part_made.kp T.b_part_made hx (pa_cons (pv 1) (pa_cons (pv 5) (pa_cons (pe_ix (ix_listK (K := K) rfl) (pv 9) pe_int (fun _ _ => rfl)) (pa_cons (pe_ix (ix_listK (K := K) rfl) (pv 9) pe_int (fun _ _ => rfl)) (pa_cons (pe_ix (ix_listK (K := K) rfl) (pv 9) pe_int (fun _ _ => rfl)) pa_nil star_Subscript) star_Subscript) star_Subscript) star_Name) star_Name)))))
        (ph_cons (K := K) (i := 12) rfl sc.nd rfl rfl (by rfl) T.mc_NoKind T.xa_NoKind (fun _ => (pss_one (ps_set (i := 10) sc.nd rfl (Or.inl rfl) (pe_tup (pa_cons pe_str (pa_cons (pe_fldG (K := K) rfl (pv 12) rfl) pa_nil star_Attribute) star_Constant)))))
        (ph_cons (K := K) (i := 12) rfl sc.nd rfl rfl (by rfl) T.mc_BadNumbers T.xa_BadNumbers (fun _ => (pss_one (ps_set (i := 10) sc.nd rfl (Or.inl rfl) (pe_tup (pa_cons pe_str (pa_cons (pe_fldG (K := K) rfl (pv 12) rfl) pa_nil star_Attribute) star_Constant)))))
        (ph_cons (K := K) (i := 12) rfl sc.nd rfl rfl (by rfl) T.mc_BadLanes T.xa_BadLanes (fun _ => (pss_one (ps_set (i := 10) sc.nd rfl (Or.inl rfl) (pe_tup (pa_cons pe_str (pa_cons (pe_fldG (K := K) rfl (pv 12) rfl) pa_nil star_Attribute) star_Constant)))))
        ph_nil)))))
      (pss_cons (ps_set (i := 13) sc.nd rfl (Or.inl rfl) (pe_call (ok__law_due T) (hr.mono (by decide)) (by rfl) T.m__law_due T.F__law_due.kp T.b__law_due .nil pass0 (pa_cons (pv 1) (pa_cons (pv 5) (pa_cons (pv 6) (pa_cons (pv 7) (pa_cons (pv 8) pa_nil star_Name) star_Name) star_Name) star_Name) star_Name)))
      (pss_cons (ps_set (i := 14) sc.nd rfl (Or.inl rfl) (pe_call (ok_is_kind T) (hr.mono (by decide)) (by rfl) T.m_is_kind T.F_is_kind.kp T.b_is_kind .nil pass0 (pa_cons (pv 1) pa_nil star_Name)))
      (pss_cons (ps_if (PW.pt (pw_or (pt_cmpR (op_neD hr.units) (pv 10) (pv 13) (nomark _)) (pw_or (pt_not (pt_val (pe_callB call_isi (by rfl) T.n_isinstance bt_isinstance (pa_cons (pv 14) (pa_cons (pe_bltT (by rfl) T.n_bool bt_bool) pa_nil star_Name) star_Name)))) (pw_or1 (pt_cmpR op_ne (pv 14) (pe_cmpR op_in_seq (pv 1) (pe_comp [] ["_law_cell", "_law_kind_here", "_law_many_here", "_law_many_in", "_law_many_out", "_law_name", "_law_numbers", "_law_ins", "_law_outs", "_law_handed", "_law_told", "_law_one", "e", "_law_due_here", "_law_known", "_law_some", "_law_other"] (defScope s__law_made) rfl (pi_list (pe_call0 (ok__law_kinds T) (hr.mono (by decide)) (by rfl) T.m__law_kinds T.F__law_kinds.kp T.b__law_kinds .nil pass0)) (fun _ _ _ _ _ => pf_nil) (fun _ _ _ _ _ => (pe_ix ix_tupC (pv 0) pe_int (fun _ _ => rfl)))) (by with_unfolding_all rfl)) (nomark _))))))
        (pss_one (ps_ret pe_bl))
        pss_nil)
      (pss_cons (ps_for PassesOwn.never rfl (pi_list (pv 9)) (pg_name (i := 15) sc.nd rfl (Or.inl rfl))
        (pss_one (ps_join (ps_if (pt_val (pe_callB call_isi (by rfl) T.n_isinstance bt_isinstance (pa_cons (pv 15) (pa_cons (pe_bltT (by rfl) T.n_list bt_list) pa_nil star_Name) star_Name)))
          (pss_one (ps_expr (pe_bm0 PySem.F.plainAttrs_list PySem.F.slot_list_clear PySem.F.type_list_clear mt_clear (pv 15))))
          pss_nil))))
      (pss_cons (ps_if (pt_cmp (pc_notN (pv 13)))
        (pss_one (ps_ret pe_bl))
        pss_nil)
      (pss_cons (ps_set (i := 16) sc.nd rfl (Or.inl rfl) (pe_call (ok__law_by_class T) (hr.mono (by decide)) (by rfl) T.m__law_by_class T.F__law_by_class.kp T.b__law_by_class .nil pass0 (pa_cons (pv 1) (pa_cons (pv 5) (pa_cons (pv 6) (pa_cons (pv 7) (pa_cons (pv 8) pa_nil star_Name) star_Name) star_Name) star_Name) star_Name)))
      (pss_one (ps_ret (pe_and (pe_call (ok__law_good T) (hr.mono (by decide)) (by rfl) T.m__law_good T.F__law_good.kp T.b__law_good .nil pass0 (pa_cons (pv 11) (pa_cons (pv 1) (pa_cons (pv 5) (pa_cons (pv 6) (pa_cons (pv 7) (pa_cons (pv 8) pa_nil star_Name) star_Name) star_Name) star_Name) star_Name) star_Name)) (pe_one (pe_call (ok__law_good T) (hr.mono (by decide)) (by rfl) T.m__law_good T.F__law_good.kp T.b__law_good .nil pass0 (pa_cons (pv 16) (pa_cons (pv 1) (pa_cons (pv 5) (pa_cons (pv 6) (pa_cons (pv 7) (pa_cons (pv 8) pa_nil star_Name) star_Name) star_Name) star_Name) star_Name) star_Name)))))))))))))))))))), ?_⟩
    have hl : sizeLine = 16777216 := sizeLine_eq
    refine ⟨_, rfl, c, rfl, fun H1 r z n1 n2 n3 kd s1 er hk az b1 b2 b3 => ?_⟩
    refine ⟨r, _, rfl, SqT.of er, rfl, _, _, rfl, _, _, rfl, _, _, rfl, _, _, rfl, rfl, ?_⟩
    refine ⟨_, rfl, c, 12, rfl, by decide, by decide, fun nm H2 anm lnm s2 => ?_⟩
    refine ⟨_, rfl, _, rfl, _, rfl, _, rfl, c, n1, n2, n3, rfl, b1, b2, b3, fun H3 r3 A1 A2 A3 ns is os s3 er3 e1 e2 e3 hN lN hI lI hO lO => ?_⟩
    refine ⟨r3, _, rfl, SqT.of er3, rfl, _, _, rfl, _, _, rfl, _, _, rfl, rfl, ?_⟩
    have s03 := s1.trans (s2.trans s3)
    refine ⟨_, rfl, A1, ns, rfl, .inl (SqL.of e1), fun B1 nB1 => ?_⟩
    have t1 := same_new (o := .lst ns) nB1
    refine ⟨_, rfl, A2, is, rfl, .inl (SqL.of (t1 _ _ e2)), fun B2 nB2 => ?_⟩
    have t2 := same_new (o := .lst is) nB2
    refine ⟨_, rfl, A3, os, rfl, .inl (SqL.of (t2 _ _ (t1 _ _ e3))), fun B3 nB3 => ?_⟩
    have t3 := same_new (o := .lst os) nB3
    refine ⟨by show 3 ≤ sizeLine; omega, fun L nL => ?_⟩
    have t4 := same_new (o := .lst [.ref B1, .ref B2, .ref B3]) nL
    have f1 := t3 _ _ (t2 _ _ (upd_same (H := H3) (a := B1) (o := .lst ns)))
    have f2 := t3 _ _ (upd_same (H := upd H3 B1 (.lst ns)) (a := B2) (o := .lst is))
    have f3 := upd_same (H := upd (upd H3 B1 (.lst ns)) B2 (.lst is)) (a := B3) (o := .lst os)
    have m1 : B1 ≠ L := ne_of_none f1 nL
    have m2 : B2 ≠ L := ne_of_none f2 nL
    have m3 : B3 ≠ L := ne_of_none f3 nL
    have o2 : H3 B2 = none := t1.free nB2
    have o3 : H3 B3 = none := (t1.trans t2).free nB3
    have g1 := t4 _ _ f1
    have g2 := t4 _ _ f2
    have g3 := t4 _ _ f3
    have gL := upd_same (H := upd (upd (upd H3 B1 (.lst ns)) B2 (.lst is)) B3 (.lst os)) (a := L) (o := .lst [.ref B1, .ref B2, .ref B3])
    have s34 := t1.trans (t2.trans (t3.trans t4))
    generalize upd (upd (upd (upd H3 B1 (.lst ns)) B2 (.lst is)) B3 (.lst os)) L (.lst [.ref B1, .ref B2, .ref B3]) = H4 at g1 g2 g3 gL s34 ⊢
    clear f1 f2 f3 nL t1 t2 t3 t4 nB2 nB3
    refine ⟨fun σ H5 => ∃ h C1 C2 C3, σ = [some (.int c), some (.str z), some (nV n1), some (nV n2), some (nV n3), some (.str nm), some (.ref A1), some (.ref A2), some (.ref A3), some (.ref h), none, none, none, none, none, none, none] ∧ Same H3 H5 ∧ H5 h = some (.lst [.ref C1, .ref C2, .ref C3]) ∧ SqA K H5 C1 ns ∧ SqA K H5 C2 is ∧ SqA K H5 C3 os ∧ Hd K H3 H5 h C1 ∧ Hd K H3 H5 h C2 ∧ Hd K H3 H5 h C3, ?_, ?_⟩
    · refine ⟨_, rfl, _, _, rfl, fun n7 _ _ => ⟨_, _, rfl, rfl, by show (0 : Int) < 3; decide, rfl, _, rfl, ite2 (fun _ => ?_) (fun _ => ?_)⟩⟩
      · refine ⟨_, rfl, A1, ns, rfl, .inl (SqL.of (s34 _ _ e1)), fun G1 u1 v1 w1 => ⟨_, rfl, A2, is, rfl, .inl (SqL.of (v1 _ _ (s34 _ _ e2))), fun G2 u2 v2 w2 => ⟨_, rfl, A3, os, rfl, .inl (SqL.of (v2 _ _ (v1 _ _ (s34 _ _ e3)))), fun G3 u3 v3 w3 => ⟨by show 3 ≤ sizeLine; omega, fun M nM => ?_⟩⟩⟩⟩
        have v4 := same_new (o := .lst [.ref u1, .ref u2, .ref u3]) nM
        have x1 := (v2.trans (v3.trans v4)).seqT w1
        have x2 := (v3.trans v4).seqT w2
        have x3 := v4.seqT w3
        exact ⟨M, u1, u2, u3, rfl, s34.trans (v1.trans (v2.trans (v3.trans v4))), upd_same, .inr x1, .inr x2, .inr x3, .inr ⟨_, x1⟩, .inr ⟨_, x2⟩, .inr ⟨_, x3⟩⟩
      · exact ⟨L, B1, B2, B3, rfl, s34, gL, .inl (SqL.of g1), .inl (SqL.of g2), .inl (SqL.of g3), .inl ⟨⟨_, g1⟩, m1, nB1⟩, .inl ⟨⟨_, g2⟩, m2, o2⟩, .inl ⟨⟨_, g3⟩, m3, o3⟩⟩
    rintro σ H5 ⟨h, C1, C2, C3, rfl, s35, eh, q1, q2, q3, d1, d2, d3⟩
    clear g1 g2 g3 gL s34 m1 m2 m3 o2 o3 nB1
    refine ⟨fun σ H7 => ∃ told one : V, σ = [some (.int c), some (.str z), some (nV n1), some (nV n2), some (nV n3), some (.str nm), some (.ref A1), some (.ref A2), some (.ref A3), some (.ref h), some told, some one, none, none, none, none, none] ∧ Same H5 H7 ∧ Out K t H7 z (.str nm) ns is os kd told one, ?_, ?_⟩
    · refine ⟨fun σ' cls d H' => σ' = [some (.int c), some (.str z), some (nV n1), some (nV n2), some (nV n3), some (.str nm), some (.ref A1), some (.ref A2), some (.ref A3), some (.ref h), some .non, some .non, none, none, none, none, none] ∧ Same H5 H' ∧ ∃ dx, d = some dx ∧ ((cls = .ref t.C_NoKind ∧ H' dx = some (.xd [("word", .str z)]) ∧ dueO z (.str nm) ns is os kd = some (("kind" : Str), V.str z)) ∨
        (cls = .ref t.C_BadNumbers ∧ H' dx = some (.xd [("name", .str nm)]) ∧ dueO z (.str nm) ns is os kd = some (("numbers" : Str), V.str nm)) ∨ (cls = .ref t.C_BadLanes ∧ H' dx = some (.xd [("name", .str nm)]) ∧ dueO z (.str nm) ns is os kd = some (("lanes" : Str), V.str nm))), ?_, ?_⟩
      · rintro σ' cl d H' ⟨rfl, s', dx, rfl, hh⟩
        rcases hh with ⟨rfl, ed, hd⟩ | ⟨rfl, ed, hd⟩ | ⟨rfl, ed, hd⟩
        · refine .inl ⟨rfl, dx, rfl, fun y ny => ⟨_, rfl, y, _, dx, _, _, rfl, upd_same, by rw [upd_ne (ne_of_none ed ny)]; exact ed, T.xf_NoKind, T.na_NoKind, rfl, by show 2 ≤ sizeLine; omega, fun u nu => ⟨.ref u, .non, rfl, s'.trans ((same_new ny).trans (same_new nu)), ?_⟩⟩⟩
          unfold Out; rw [hd]; exact ⟨rfl, u, rfl, SqT.of upd_same⟩
        · refine .inr ⟨_, rfl, T.sb_BadNumbers_NoKind, .inl ⟨rfl, dx, rfl, fun y ny => ⟨_, rfl, y, _, dx, _, _, rfl, upd_same, by rw [upd_ne (ne_of_none ed ny)]; exact ed, T.xf_BadNumbers, T.na_BadNumbers, rfl, by show 2 ≤ sizeLine; omega, fun u nu => ⟨.ref u, .non, rfl, s'.trans ((same_new ny).trans (same_new nu)), ?_⟩⟩⟩⟩
          unfold Out; rw [hd]; exact ⟨rfl, u, rfl, SqT.of upd_same⟩
        · refine .inr ⟨_, rfl, T.sb_BadLanes_NoKind, .inr ⟨_, rfl, T.sb_BadLanes_BadNumbers, .inl ⟨rfl, dx, rfl, fun y ny => ⟨_, rfl, y, _, dx, _, _, rfl, upd_same, by rw [upd_ne (ne_of_none ed ny)]; exact ed, T.xf_BadLanes, T.na_BadLanes, rfl, by show 2 ≤ sizeLine; omega, fun u nu => ⟨.ref u, .non, rfl, s'.trans ((same_new ny).trans (same_new nu)), ?_⟩⟩⟩⟩⟩
          unfold Out; rw [hd]; exact ⟨rfl, u, rfl, SqT.of upd_same⟩
      · refine ⟨_, rfl, _, rfl, _, rfl, h, _, 0, _, rfl, rfl, SqL.of eh, atI_nat (j := 0) rfl, _, rfl, h, _, 1, _, rfl, rfl, SqL.of eh, atI_nat (j := 1) rfl, _, rfl, h, _, 2, _, rfl, rfl, SqL.of eh, atI_nat (j := 2) rfl, ?_⟩
        refine ⟨z, .str nm, C1, C2, C3, ns, is, os, rfl, q1, q2, q3, hN, by omega, ?_⟩
        match kd, hk with
        | none, hk => exact .inl ⟨hk, fun dx H' s' e => ⟨rfl, s', dx, rfl, .inl ⟨rfl, e, rfl⟩⟩⟩
        | some i, hk =>
          refine .inr ⟨i, hk.1, hk.2, fun g dx H' s' e => ⟨rfl, s', dx, rfl, .inr (.inl ⟨rfl, e, ?_⟩)⟩, fun g g' dx H' s' e => ⟨rfl, s', dx, rfl, .inr (.inr ⟨rfl, e, ?_⟩)⟩, fun g g' H' p s' np P => ⟨.non, .ref p, rfl, s', ?_⟩⟩
          · unfold dueO; dsimp only; rw [if_neg (by rw [g]; exact Bool.false_ne_true)]
          · unfold dueO; dsimp only; rw [if_pos g, if_neg (by rw [g']; exact Bool.false_ne_true)]
          · unfold Out dueO; dsimp only; rw [if_pos g, if_pos g']; exact ⟨rfl, p, i, rfl, rfl, P⟩
    rintro σ H7 ⟨told, one, rfl, s57, ho⟩
    have s37 := s35.trans s57
    refine ⟨_, rfl, _, rfl, _, rfl, _, rfl, _, rfl, z, .str nm, A1, A2, A3, ns, is, os, kd, rfl, SqL.of (s37 _ _ e1), SqL.of (s37 _ _ e2), SqL.of (s37 _ _ e3), hN, hk, fun H8 dv s78 hdv => ?_⟩
    refine ⟨_, rfl, z, rfl, ?_⟩
    obtain ⟨dd, dt1, dt2, sh, eq⟩ := due_data (ho.same s78) hdv az anm
    refine ⟨_, rfl, _, rfl, dd, dd, dt1, dt2, sh, sh, _, rfl, ?_⟩
    rw [eq]
    refine iteF ⟨_, rfl, .bl _, "bool", "bool", true, rfl, rfl, by decide, by decide, true, rfl, iteF ?_⟩
    refine ⟨_, rfl, _, rfl, rfl, fun H9 L9 rs s89 eL hK => ⟨L9, rfl, ⟨_, SqL.of eL⟩, comp_list (K := K) (a := L9) (xs := rs.map V.ref) (fun j ys H' => H' = H9 ∧ ys = ((List.range j).map kname).map V.str) (by rw [List.length_map, tups_len hK]; show 11 ≤ sizeLine; omega) ⟨rfl, rfl⟩ (fun j ys H' ⟨_, e⟩ => by rw [e]; simp) (fun j ys H' _ ⟨e, _⟩ => by rw [e]; exact SqL.of eL) ?_ ?_⟩⟩
    · rintro j x ys H' hx ⟨rfl, rfl⟩
      rw [List.getElem?_map] at hx
      obtain ⟨r', hq, rfl⟩ := Option.map_eq_some_iff.mp hx
      have hj10 : j ≤ 10 := by
        have := (List.getElem?_eq_some_iff.mp hq).1
        rw [tups_len hK] at this
        have e : (rowsA ++ rowsB ++ rowsC).length = 11 := rfl
        omega
      obtain ⟨r'', er', eK⟩ := hK.get (rows_at hj10)
      obtain rfl : r' = r'' := Option.some.inj (hq.symm.trans er')
      refine yes ⟨_, rfl, r', krow j, 0, _, rfl, rfl, SqT.of eK, atI_nat (j := 0) rfl, rfl, ?_⟩
      rw [List.range_succ]
      simp
    rintro ys H10 ⟨rfl, rfl⟩ D hD
    rw [List.length_map, tups_len hK, show (rowsA ++ rowsB ++ rowsC).length = 11 from rfl]
    refine ⟨D, _, rfl, .inl (SqL.of upd_same), rfl, names_flat, rfl, _, rfl, ?_⟩
    have ein := in_names hk
    rw [show (!decide (V.bl (rowOf ROWS z).isSome = V.bl (if false = true then !inV (.str z) (((List.range 11).map kname).map V.str) else inV (.str z) (((List.range 11).map kname).map V.str)))) = false by rw [if_neg Bool.false_ne_true, ein]; simp]
    refine iteF ?_
    have s7c := s78.trans (s89.trans (same_new (o := .lst (((List.range 11).map kname).map V.str)) hD))
    have e10 : Same H7 (upd H10 D (.lst (((List.range 11).map kname).map V.str))) := s7c
    generalize upd H10 D (.lst (((List.range 11).map kname).map V.str)) = Hc at s7c e10 ⊢
    have s5c := s57.trans s7c
    have s3c := s35.trans s5c
    have ehc := s5c _ _ eh
    refine ⟨_, rfl, h, rfl, ⟨_, SqL.of ehc⟩, for_list (K := K) (a := h) (xs := [.ref C1, .ref C2, .ref C3]) (fun j σ H' => (∃ v15, σ = [some (.int c), some (.str z), some (nV n1), some (nV n2), some (nV n3), some (.str nm), some (.ref A1), some (.ref A2), some (.ref A3), some (.ref h), some told, some one, none, some dv, some (.bl (rowOf ROWS z).isSome), v15, none]) ∧ Same H3 H' ∧ H' h = some (.lst [.ref C1, .ref C2, .ref C3]) ∧ Hd K H3 H' h C1 ∧ Hd K H3 H' h C2 ∧ Hd K H3 H' h C3 ∧ ∀ p i, PartAt K t Hc p i (.str nm) ns is os → PartAt K t H' p i (.str nm) ns is os)
      ⟨⟨none, rfl⟩, s3c, ehc, d1.same s5c, d2.same s5c, d3.same s5c, fun _ _ z => z⟩ (fun j σ H' _ z => SqL.of z.2.2.1) ?_ ?_⟩
    · rintro j x σ H' hx ⟨⟨v15, rfl⟩, sa, ea, x1, x2, x3, pp⟩
      have hC : ∃ C, x = .ref C ∧ Hd K H3 H' h C := by
        match j, hx with
        | 0, hx => exact ⟨C1, (Option.some.inj hx).symm, x1⟩
        | 1, hx => exact ⟨C2, (Option.some.inj hx).symm, x2⟩
        | 2, hx => exact ⟨C3, (Option.some.inj hx).symm, x3⟩
        | (n + 3), hx => cases hx
      obtain ⟨C, rfl, hc⟩ := hC
      refine ⟨fun σ H' => (∃ v15, σ = [some (.int c), some (.str z), some (nV n1), some (nV n2), some (nV n3), some (.str nm), some (.ref A1), some (.ref A2), some (.ref A3), some (.ref h), some told, some one, none, some dv, some (.bl (rowOf ROWS z).isSome), v15, none]) ∧ Same H3 H' ∧ H' h = some (.lst [.ref C1, .ref C2, .ref C3]) ∧ Hd K H3 H' h C1 ∧ Hd K H3 H' h C2 ∧ Hd K H3 H' h C3 ∧ ∀ p i, PartAt K t Hc p i (.str nm) ns is os → PartAt K t H' p i (.str nm) ns is os, ?_, fun _ _ z => z⟩
      rcases hc with ⟨⟨xs, ec⟩, nh, n3'⟩ | ⟨xs, ec⟩
      · refine ⟨_, rfl, .ref C, "list", "list", true, rfl, .inl ⟨rfl, xs, SqL.of ec⟩, by decide, by decide, true, rfl, iteT ?_⟩
        refine ⟨_, rfl, .inl ⟨rfl, xs, SqL.of ec⟩, C, xs, rfl, rfl, ec, ⟨_, rfl⟩, fun b o e => ?_, ?_, x1.clear ec nh n3', x2.clear ec nh n3', x3.clear ec nh n3', fun p i z => (pp p i z).clear ec⟩
        · rw [upd_ne (ne_of_none e n3')]; exact sa b o e
        · rw [upd_ne nh.symm]; exact ea
      · exact ⟨_, rfl, .ref C, "tuple", "list", false, rfl, .inr (.inl ⟨rfl, xs, ec⟩), by decide, by decide, false, rfl, iteF ⟨⟨_, rfl⟩, sa, ea, x1, x2, x3, pp⟩⟩
    rintro σ Hf ⟨⟨v15, rfl⟩, sf, eF, _, _, _, pp⟩
    cases hd : dueO z (.str nm) ns is os kd with
    | some wv =>
      obtain ⟨w, v⟩ := wv
      rw [hd] at hdv
      obtain ⟨r8, rfl, _⟩ := hdv
      exact ⟨_, rfl, _, rfl, iteT (k _ (s03.trans sf))⟩
    | none =>
      rw [hd] at hdv
      obtain rfl : dv = .non := hdv
      unfold Out at ho
      rw [hd] at ho
      obtain ⟨_, p, i, rfl, rfl, P7⟩ := ho
      obtain ⟨hi, rfl⟩ := hk
      have gg := due_none hd
      refine ⟨_, rfl, _, rfl, iteF ?_⟩
      refine ⟨_, rfl, _, rfl, _, rfl, _, rfl, _, rfl, i, .str nm, A1, A2, A3, ns, is, os, rfl, hi, .inl (SqL.of (sf _ _ e1)), .inl (SqL.of (sf _ _ e2)), .inl (SqL.of (sf _ _ e3)), fun Hg q sg nq Pq => ?_⟩
      obtain ⟨y1, p1⟩ := pls_of (xs := ns) fun v hv => by
        have := List.all_eq_true.mp gg v hv
        rcases hN v hv with h | rfl | rfl | rfl
        · exact .inl h
        · cases this
        · cases this
        · cases this
      obtain ⟨y2, p2⟩ := pls_of (xs := is) fun v hv => .inr (hI v hv)
      obtain ⟨y3, p3⟩ := pls_of (xs := os) fun v hv => .inr (hO v hv)
      have P8 := (pp p i (P7.same s7c)).same sg
      have sfg := sf.trans sg
      refine ⟨_, rfl, _, rfl, _, rfl, _, rfl, _, rfl, _, rfl, p, A1, A2, A3, i, nm, ns, is, os, y1, y2, y3, rfl, hi, P8, SqL.of (sfg _ _ e1), SqL.of (sfg _ _ e2), SqL.of (sfg _ _ e3), p1, p2, p3, fun Hh sh' => ⟨true, rfl, iteT ?_⟩⟩
      have sfh := sfg.trans sh'
      exact ⟨_, rfl, _, rfl, _, rfl, _, rfl, _, rfl, _, rfl, q, A1, A2, A3, i, nm, ns, is, os, y1, y2, y3, rfl, hi, Pq.same sh', SqL.of (sfh _ _ e1), SqL.of (sfh _ _ e2), SqL.of (sfh _ _ e3), p1, p2, p3, fun Hi si => k _ (s03.trans (sfh.trans si))⟩
def sp_law (K : PySem.W.Frag) : Sp := fun vs H Q _ => ∃ (a : Addr) (ns : List Int), vs = [.ref a] ∧ SqL K H a (ns.map V.int) ∧ ns.length ≤ 63 ∧ ∀ H', Q (.bl true) H'
theorem sc_law : FnScope ["_law_script", "_law_cell"] ["_law_script"] (defScope s_law) := ⟨rfl, rfl, rfl, by decide +kernel, rfl, by decide +kernel, by decide +kernel⟩
theorem ok_law (T : Txt w K mg t) : FnOk P w K mg base CX0 6 t.f_law t.fd_law ["_law_script"] (sp_law K) := by
  have sc := sc_law
  refine T.F_law.ok sc (fun vs H Q E h => ?_) (fun cdv A outer s H vs Q E hr h => ?_)
  · obtain ⟨a, ns, rfl, _⟩ := h
    rfl
  · obtain ⟨a, ns, rfl, hS, hlen, k⟩ := h
    refine ⟨_, (pss_cons (ps_for PassesOwn.never rfl (pi_list (pe_slice sl_list (pv 0) po_none (po_some pe_int))) (pg_name (i := 1) sc.nd rfl (Or.inl rfl))
        (pss_one (ps_if (pt_not (pt_val (pe_call (ok__law_made T) (hr.mono (by decide)) (by rfl) T.m__law_made T.F__law_made.kp T.b__law_made .nil pass0 (pa_cons (pv 1) pa_nil star_Name))))
          (pss_one (ps_ret pe_bl))
          pss_nil)))
      (pss_one (ps_ret pe_bl))), ?_⟩
    have hl : sizeLine = 16777216 := sizeLine_eq
    refine ⟨_, rfl, _, rfl, a, _, rfl, hS, fun S nS => ?_⟩
    have hcut : ∀ v ∈ cutV (ns.map V.int) none (some 40), ∃ c : Int, v = .int c := by
      intro v hv
      obtain ⟨c, _, rfl⟩ := List.mem_map.mp (cut_mem hv)
      exact ⟨c, rfl⟩
    have e5 : (upd H S (.lst (cutV (ns.map V.int) none (some 40)))) S = some (.lst (cutV (ns.map V.int) none (some 40))) := upd_same
    generalize cutV (ns.map V.int) none (some 40) = cs at e5 hcut ⊢
    generalize upd H S (.lst cs) = H5 at e5 ⊢
    refine ⟨S, rfl, ⟨_, SqL.of e5⟩, for_list (K := K) (a := S) (xs := cs) (fun j σ H6 => Same H5 H6 ∧ ∃ v1, σ = [some (.ref a), v1]) ⟨Same.refl _, none, rfl⟩ (fun j σ H6 _ ⟨s, _⟩ => s.seq (SqL.of e5)) ?_ ?_⟩
    · rintro j x σ H6 hx ⟨s6, v1, rfl⟩
      obtain ⟨c, rfl⟩ := hcut x (List.mem_of_getElem? hx)
      exact ⟨_, rfl, c, rfl, fun H7 s7 => ⟨true, rfl, iteF ⟨s6.trans s7, _, rfl⟩⟩⟩
    rintro σ H6 ⟨s6, v1, rfl⟩
    exact k _
end
theorem all_mk {l : PySem.W.OpenLaw} {w : World} {K : PySem.W.Frag} {h : Heap} {mg : Str → Option Value} {fa : Addr} (X : K.In h) (G : h.Ns mainGlobals mg) (hfa : mg "law" = some (.ref fa))
    {f0 : Addr} {od0 an0 : Option Addr} {sl0 : Array (Option Value)} {oc0 kV0 dc0 pm0 cd0 ct0 : Value}
    {f1 : Addr} {od1 an1 : Option Addr} {sl1 : Array (Option Value)} {oc1 kV1 dc1 pm1 cd1 ct1 : Value}
    {f2 : Addr} {od2 an2 : Option Addr} {sl2 : Array (Option Value)} {oc2 kV2 dc2 pm2 cd2 ct2 : Value}
    {f3 : Addr} {od3 an3 : Option Addr} {sl3 : Array (Option Value)} {oc3 kV3 dc3 pm3 cd3 ct3 : Value}
    {f4 : Addr} {od4 an4 : Option Addr} {sl4 : Array (Option Value)} {oc4 kV4 dc4 pm4 cd4 ct4 : Value}
    {f5 : Addr} {od5 an5 : Option Addr} {sl5 : Array (Option Value)} {oc5 kV5 dc5 pm5 cd5 ct5 : Value}
    {f6 : Addr} {od6 an6 : Option Addr} {sl6 : Array (Option Value)} {oc6 kV6 dc6 pm6 cd6 ct6 : Value}
    {f7 : Addr} {od7 an7 : Option Addr} {sl7 : Array (Option Value)} {oc7 kV7 dc7 pm7 cd7 ct7 : Value}
    {f8 : Addr} {od8 an8 : Option Addr} {sl8 : Array (Option Value)} {oc8 kV8 dc8 pm8 cd8 ct8 : Value}
    {f9 : Addr} {od9 an9 : Option Addr} {sl9 : Array (Option Value)} {oc9 kV9 dc9 pm9 cd9 ct9 : Value}
    {f10 : Addr} {od10 an10 : Option Addr} {sl10 : Array (Option Value)} {oc10 kV10 dc10 pm10 cd10 ct10 : Value}
    {f11 : Addr} {od11 an11 : Option Addr} {sl11 : Array (Option Value)} {oc11 kV11 dc11 pm11 cd11 ct11 : Value}
    {f12 : Addr} {od12 an12 : Option Addr} {sl12 : Array (Option Value)} {oc12 kV12 dc12 pm12 cd12 ct12 : Value}
    {f13 : Addr} {od13 an13 : Option Addr} {sl13 : Array (Option Value)} {oc13 kV13 dc13 pm13 cd13 ct13 : Value}
    {f14 : Addr} {od14 an14 : Option Addr} {sl14 : Array (Option Value)} {oc14 kV14 dc14 pm14 cd14 ct14 : Value}
    {f15 : Addr} {od15 an15 : Option Addr} {sl15 : Array (Option Value)} {oc15 kV15 dc15 pm15 cd15 ct15 : Value}
    {f16 : Addr} {od16 an16 : Option Addr} {sl16 : Array (Option Value)} {oc16 kV16 dc16 pm16 cd16 ct16 : Value}
    {f17 : Addr} {od17 an17 : Option Addr} {sl17 : Array (Option Value)} {oc17 kV17 dc17 pm17 cd17 ct17 : Value}
    {f18 : Addr} {od18 an18 : Option Addr} {sl18 : Array (Option Value)} {oc18 kV18 dc18 pm18 cd18 ct18 : Value}
    {f19 : Addr} {od19 an19 : Option Addr} {sl19 : Array (Option Value)} {oc19 kV19 dc19 pm19 cd19 ct19 : Value}
    {f20 : Addr} {od20 an20 : Option Addr} {sl20 : Array (Option Value)} {oc20 kV20 dc20 pm20 cd20 ct20 : Value}
    {f21 : Addr} {od21 an21 : Option Addr} {sl21 : Array (Option Value)} {oc21 kV21 dc21 pm21 cd21 ct21 : Value}
    {f22 : Addr} {od22 an22 : Option Addr} {sl22 : Array (Option Value)} {oc22 kV22 dc22 pm22 cd22 ct22 : Value}
    {f23 : Addr} {od23 an23 : Option Addr} {sl23 : Array (Option Value)} {oc23 kV23 dc23 pm23 cd23 ct23 : Value}
    {f24 : Addr} {od24 an24 : Option Addr} {sl24 : Array (Option Value)} {oc24 kV24 dc24 pm24 cd24 ct24 : Value}
    {f25 : Addr} {od25 an25 : Option Addr} {sl25 : Array (Option Value)} {oc25 kV25 dc25 pm25 cd25 ct25 : Value}
    {f26 : Addr} {od26 an26 : Option Addr} {sl26 : Array (Option Value)} {oc26 kV26 dc26 pm26 cd26 ct26 : Value}
    {f27 : Addr} {od27 an27 : Option Addr} {sl27 : Array (Option Value)} {oc27 kV27 dc27 pm27 cd27 ct27 : Value}
    {f28 : Addr} {od28 an28 : Option Addr} {sl28 : Array (Option Value)} {oc28 kV28 dc28 pm28 cd28 ct28 : Value}
    {f29 : Addr} {od29 an29 : Option Addr} {sl29 : Array (Option Value)} {oc29 kV29 dc29 pm29 cd29 ct29 : Value}
    {f30 : Addr} {od30 an30 : Option Addr} {sl30 : Array (Option Value)} {oc30 kV30 dc30 pm30 cd30 ct30 : Value}
    {f31 : Addr} {od31 an31 : Option Addr} {sl31 : Array (Option Value)} {oc31 kV31 dc31 pm31 cd31 ct31 : Value}
    {f32 : Addr} {od32 an32 : Option Addr} {sl32 : Array (Option Value)} {oc32 kV32 dc32 pm32 cd32 ct32 : Value}
    {f33 : Addr} {od33 an33 : Option Addr} {sl33 : Array (Option Value)} {oc33 kV33 dc33 pm33 cd33 ct33 : Value}
    {f34 : Addr} {od34 an34 : Option Addr} {sl34 : Array (Option Value)} {oc34 kV34 dc34 pm34 cd34 ct34 : Value}
    {C_Give : Addr}
    {C_Take : Addr}
    {C_Pass : Addr}
    {C_Copy : Addr}
    {C_Turn : Addr}
    {C_Heap : Addr}
    {C_Add : Addr}
    {C_Less : Addr}
    {C_Order : Addr}
    {C_Choose : Addr}
    {C_Split : Addr}
    {C_LaneError : Addr}
    {C_Part : Addr}
    {C_NoKind : Addr}
    {C_BadNumbers : Addr}
    {C_BadLanes : Addr}
    {u_VALUES : Value}
    {o_COUNTS : Addr}
    (aC_Give : PySem.W.nsIn K mainGlobals "Give" = some (some (.ref C_Give)))
    (pg_Give : PySem.W.plainGet K C_Give Str.empty = true)
    (hd_Give : PySem.W.hasDictIn K C_Give = true)
    (po_Give : PySem.W.plainOver K C_Give = true)
    (sa_Give : PySem.W.findIn K (.ref C_Give) "__setattr__" = some (some (.builtin "object.__setattr__")))
    (mk_Give : PySem.W.makesIn K C_Give = true)
    (kc_Give : PySem.W.keepIn K (.ref C_Give) = true)
    (fm_Give___init__ : PySem.W.findIn K (.ref C_Give) "__init__" = some (some (.ref f5)))
    (fm_Give_kind : PySem.W.findIn K (.ref C_Give) "kind" = some (some (.ref f6)))
    (na_Give_name : PySem.W.findIn K (.ref C_Give) "name" = some none)
    (na_Give_numbers : PySem.W.findIn K (.ref C_Give) "numbers" = some none)
    (na_Give_ins : PySem.W.findIn K (.ref C_Give) "ins" = some none)
    (na_Give_outs : PySem.W.findIn K (.ref C_Give) "outs" = some none)
    (aC_Take : PySem.W.nsIn K mainGlobals "Take" = some (some (.ref C_Take)))
    (pg_Take : PySem.W.plainGet K C_Take Str.empty = true)
    (hd_Take : PySem.W.hasDictIn K C_Take = true)
    (po_Take : PySem.W.plainOver K C_Take = true)
    (sa_Take : PySem.W.findIn K (.ref C_Take) "__setattr__" = some (some (.builtin "object.__setattr__")))
    (mk_Take : PySem.W.makesIn K C_Take = true)
    (kc_Take : PySem.W.keepIn K (.ref C_Take) = true)
    (fm_Take___init__ : PySem.W.findIn K (.ref C_Take) "__init__" = some (some (.ref f5)))
    (fm_Take_kind : PySem.W.findIn K (.ref C_Take) "kind" = some (some (.ref f7)))
    (na_Take_name : PySem.W.findIn K (.ref C_Take) "name" = some none)
    (na_Take_numbers : PySem.W.findIn K (.ref C_Take) "numbers" = some none)
    (na_Take_ins : PySem.W.findIn K (.ref C_Take) "ins" = some none)
    (na_Take_outs : PySem.W.findIn K (.ref C_Take) "outs" = some none)
    (aC_Pass : PySem.W.nsIn K mainGlobals "Pass" = some (some (.ref C_Pass)))
    (pg_Pass : PySem.W.plainGet K C_Pass Str.empty = true)
    (hd_Pass : PySem.W.hasDictIn K C_Pass = true)
    (po_Pass : PySem.W.plainOver K C_Pass = true)
    (sa_Pass : PySem.W.findIn K (.ref C_Pass) "__setattr__" = some (some (.builtin "object.__setattr__")))
    (mk_Pass : PySem.W.makesIn K C_Pass = true)
    (kc_Pass : PySem.W.keepIn K (.ref C_Pass) = true)
    (fm_Pass___init__ : PySem.W.findIn K (.ref C_Pass) "__init__" = some (some (.ref f5)))
    (fm_Pass_kind : PySem.W.findIn K (.ref C_Pass) "kind" = some (some (.ref f8)))
    (na_Pass_name : PySem.W.findIn K (.ref C_Pass) "name" = some none)
    (na_Pass_numbers : PySem.W.findIn K (.ref C_Pass) "numbers" = some none)
    (na_Pass_ins : PySem.W.findIn K (.ref C_Pass) "ins" = some none)
    (na_Pass_outs : PySem.W.findIn K (.ref C_Pass) "outs" = some none)
    (aC_Copy : PySem.W.nsIn K mainGlobals "Copy" = some (some (.ref C_Copy)))
    (pg_Copy : PySem.W.plainGet K C_Copy Str.empty = true)
    (hd_Copy : PySem.W.hasDictIn K C_Copy = true)
    (po_Copy : PySem.W.plainOver K C_Copy = true)
    (sa_Copy : PySem.W.findIn K (.ref C_Copy) "__setattr__" = some (some (.builtin "object.__setattr__")))
    (mk_Copy : PySem.W.makesIn K C_Copy = true)
    (kc_Copy : PySem.W.keepIn K (.ref C_Copy) = true)
    (fm_Copy___init__ : PySem.W.findIn K (.ref C_Copy) "__init__" = some (some (.ref f5)))
    (fm_Copy_kind : PySem.W.findIn K (.ref C_Copy) "kind" = some (some (.ref f9)))
    (na_Copy_name : PySem.W.findIn K (.ref C_Copy) "name" = some none)
    (na_Copy_numbers : PySem.W.findIn K (.ref C_Copy) "numbers" = some none)
    (na_Copy_ins : PySem.W.findIn K (.ref C_Copy) "ins" = some none)
    (na_Copy_outs : PySem.W.findIn K (.ref C_Copy) "outs" = some none)
    (aC_Turn : PySem.W.nsIn K mainGlobals "Turn" = some (some (.ref C_Turn)))
    (pg_Turn : PySem.W.plainGet K C_Turn Str.empty = true)
    (hd_Turn : PySem.W.hasDictIn K C_Turn = true)
    (po_Turn : PySem.W.plainOver K C_Turn = true)
    (sa_Turn : PySem.W.findIn K (.ref C_Turn) "__setattr__" = some (some (.builtin "object.__setattr__")))
    (mk_Turn : PySem.W.makesIn K C_Turn = true)
    (kc_Turn : PySem.W.keepIn K (.ref C_Turn) = true)
    (fm_Turn___init__ : PySem.W.findIn K (.ref C_Turn) "__init__" = some (some (.ref f5)))
    (fm_Turn_kind : PySem.W.findIn K (.ref C_Turn) "kind" = some (some (.ref f10)))
    (na_Turn_name : PySem.W.findIn K (.ref C_Turn) "name" = some none)
    (na_Turn_numbers : PySem.W.findIn K (.ref C_Turn) "numbers" = some none)
    (na_Turn_ins : PySem.W.findIn K (.ref C_Turn) "ins" = some none)
    (na_Turn_outs : PySem.W.findIn K (.ref C_Turn) "outs" = some none)
    (aC_Heap : PySem.W.nsIn K mainGlobals "Heap" = some (some (.ref C_Heap)))
    (pg_Heap : PySem.W.plainGet K C_Heap Str.empty = true)
    (hd_Heap : PySem.W.hasDictIn K C_Heap = true)
    (po_Heap : PySem.W.plainOver K C_Heap = true)
    (sa_Heap : PySem.W.findIn K (.ref C_Heap) "__setattr__" = some (some (.builtin "object.__setattr__")))
    (mk_Heap : PySem.W.makesIn K C_Heap = true)
    (kc_Heap : PySem.W.keepIn K (.ref C_Heap) = true)
    (fm_Heap___init__ : PySem.W.findIn K (.ref C_Heap) "__init__" = some (some (.ref f5)))
    (fm_Heap_kind : PySem.W.findIn K (.ref C_Heap) "kind" = some (some (.ref f11)))
    (na_Heap_name : PySem.W.findIn K (.ref C_Heap) "name" = some none)
    (na_Heap_numbers : PySem.W.findIn K (.ref C_Heap) "numbers" = some none)
    (na_Heap_ins : PySem.W.findIn K (.ref C_Heap) "ins" = some none)
    (na_Heap_outs : PySem.W.findIn K (.ref C_Heap) "outs" = some none)
    (aC_Add : PySem.W.nsIn K mainGlobals "Add" = some (some (.ref C_Add)))
    (pg_Add : PySem.W.plainGet K C_Add Str.empty = true)
    (hd_Add : PySem.W.hasDictIn K C_Add = true)
    (po_Add : PySem.W.plainOver K C_Add = true)
    (sa_Add : PySem.W.findIn K (.ref C_Add) "__setattr__" = some (some (.builtin "object.__setattr__")))
    (mk_Add : PySem.W.makesIn K C_Add = true)
    (kc_Add : PySem.W.keepIn K (.ref C_Add) = true)
    (fm_Add___init__ : PySem.W.findIn K (.ref C_Add) "__init__" = some (some (.ref f5)))
    (fm_Add_kind : PySem.W.findIn K (.ref C_Add) "kind" = some (some (.ref f12)))
    (na_Add_name : PySem.W.findIn K (.ref C_Add) "name" = some none)
    (na_Add_numbers : PySem.W.findIn K (.ref C_Add) "numbers" = some none)
    (na_Add_ins : PySem.W.findIn K (.ref C_Add) "ins" = some none)
    (na_Add_outs : PySem.W.findIn K (.ref C_Add) "outs" = some none)
    (aC_Less : PySem.W.nsIn K mainGlobals "Less" = some (some (.ref C_Less)))
    (pg_Less : PySem.W.plainGet K C_Less Str.empty = true)
    (hd_Less : PySem.W.hasDictIn K C_Less = true)
    (po_Less : PySem.W.plainOver K C_Less = true)
    (sa_Less : PySem.W.findIn K (.ref C_Less) "__setattr__" = some (some (.builtin "object.__setattr__")))
    (mk_Less : PySem.W.makesIn K C_Less = true)
    (kc_Less : PySem.W.keepIn K (.ref C_Less) = true)
    (fm_Less___init__ : PySem.W.findIn K (.ref C_Less) "__init__" = some (some (.ref f5)))
    (fm_Less_kind : PySem.W.findIn K (.ref C_Less) "kind" = some (some (.ref f13)))
    (na_Less_name : PySem.W.findIn K (.ref C_Less) "name" = some none)
    (na_Less_numbers : PySem.W.findIn K (.ref C_Less) "numbers" = some none)
    (na_Less_ins : PySem.W.findIn K (.ref C_Less) "ins" = some none)
    (na_Less_outs : PySem.W.findIn K (.ref C_Less) "outs" = some none)
    (aC_Order : PySem.W.nsIn K mainGlobals "Order" = some (some (.ref C_Order)))
    (pg_Order : PySem.W.plainGet K C_Order Str.empty = true)
    (hd_Order : PySem.W.hasDictIn K C_Order = true)
    (po_Order : PySem.W.plainOver K C_Order = true)
    (sa_Order : PySem.W.findIn K (.ref C_Order) "__setattr__" = some (some (.builtin "object.__setattr__")))
    (mk_Order : PySem.W.makesIn K C_Order = true)
    (kc_Order : PySem.W.keepIn K (.ref C_Order) = true)
    (fm_Order___init__ : PySem.W.findIn K (.ref C_Order) "__init__" = some (some (.ref f5)))
    (fm_Order_kind : PySem.W.findIn K (.ref C_Order) "kind" = some (some (.ref f14)))
    (na_Order_name : PySem.W.findIn K (.ref C_Order) "name" = some none)
    (na_Order_numbers : PySem.W.findIn K (.ref C_Order) "numbers" = some none)
    (na_Order_ins : PySem.W.findIn K (.ref C_Order) "ins" = some none)
    (na_Order_outs : PySem.W.findIn K (.ref C_Order) "outs" = some none)
    (aC_Choose : PySem.W.nsIn K mainGlobals "Choose" = some (some (.ref C_Choose)))
    (pg_Choose : PySem.W.plainGet K C_Choose Str.empty = true)
    (hd_Choose : PySem.W.hasDictIn K C_Choose = true)
    (po_Choose : PySem.W.plainOver K C_Choose = true)
    (sa_Choose : PySem.W.findIn K (.ref C_Choose) "__setattr__" = some (some (.builtin "object.__setattr__")))
    (mk_Choose : PySem.W.makesIn K C_Choose = true)
    (kc_Choose : PySem.W.keepIn K (.ref C_Choose) = true)
    (fm_Choose___init__ : PySem.W.findIn K (.ref C_Choose) "__init__" = some (some (.ref f5)))
    (fm_Choose_kind : PySem.W.findIn K (.ref C_Choose) "kind" = some (some (.ref f15)))
    (na_Choose_name : PySem.W.findIn K (.ref C_Choose) "name" = some none)
    (na_Choose_numbers : PySem.W.findIn K (.ref C_Choose) "numbers" = some none)
    (na_Choose_ins : PySem.W.findIn K (.ref C_Choose) "ins" = some none)
    (na_Choose_outs : PySem.W.findIn K (.ref C_Choose) "outs" = some none)
    (aC_Split : PySem.W.nsIn K mainGlobals "Split" = some (some (.ref C_Split)))
    (pg_Split : PySem.W.plainGet K C_Split Str.empty = true)
    (hd_Split : PySem.W.hasDictIn K C_Split = true)
    (po_Split : PySem.W.plainOver K C_Split = true)
    (sa_Split : PySem.W.findIn K (.ref C_Split) "__setattr__" = some (some (.builtin "object.__setattr__")))
    (mk_Split : PySem.W.makesIn K C_Split = true)
    (kc_Split : PySem.W.keepIn K (.ref C_Split) = true)
    (fm_Split___init__ : PySem.W.findIn K (.ref C_Split) "__init__" = some (some (.ref f5)))
    (fm_Split_kind : PySem.W.findIn K (.ref C_Split) "kind" = some (some (.ref f16)))
    (na_Split_name : PySem.W.findIn K (.ref C_Split) "name" = some none)
    (na_Split_numbers : PySem.W.findIn K (.ref C_Split) "numbers" = some none)
    (na_Split_ins : PySem.W.findIn K (.ref C_Split) "ins" = some none)
    (na_Split_outs : PySem.W.findIn K (.ref C_Split) "outs" = some none)
    (pc_LaneError : PySem.W.nsIn K mainGlobals "LaneError" = some (some (.ref C_LaneError)))
    (pc_Part : PySem.W.nsIn K mainGlobals "Part" = some (some (.ref C_Part)))
    (pc_NoKind : PySem.W.nsIn K mainGlobals "NoKind" = some (some (.ref C_NoKind)))
    (pc_BadNumbers : PySem.W.nsIn K mainGlobals "BadNumbers" = some (some (.ref C_BadNumbers)))
    (pc_BadLanes : PySem.W.nsIn K mainGlobals "BadLanes" = some (some (.ref C_BadLanes)))
    (fi_NoKind : PySem.W.findIn K (.ref C_NoKind) "__init__" = some (some (.ref f0)))
    (fi_BadNumbers : PySem.W.findIn K (.ref C_BadNumbers) "__init__" = some (some (.ref f1)))
    (fi_BadLanes : PySem.W.findIn K (.ref C_BadLanes) "__init__" = some (some (.ref f2)))
    (i0 : PySem.W.isFn K (.ref f0) = true)
    (l0 : K.lookup f0 = some ⟨oc0, od0, .func (PySem.W.fnOf "__init__" "NoKind.__init__" (defArgs s_NoKind___init__) (defBody s_NoKind___init__) (defScope s_NoKind___init__) .none kV0 dc0 pm0 an0 cd0 ct0), sl0⟩)
    (c0 : PySem.W.codeIn K cd0 "NoKind.__init__" = true)
    (k0 : PySem.W.keepIn K (.ref f0) = true)
    (i1 : PySem.W.isFn K (.ref f1) = true)
    (l1 : K.lookup f1 = some ⟨oc1, od1, .func (PySem.W.fnOf "__init__" "BadNumbers.__init__" (defArgs s_BadNumbers___init__) (defBody s_BadNumbers___init__) (defScope s_BadNumbers___init__) .none kV1 dc1 pm1 an1 cd1 ct1), sl1⟩)
    (c1 : PySem.W.codeIn K cd1 "BadNumbers.__init__" = true)
    (k1 : PySem.W.keepIn K (.ref f1) = true)
    (i2 : PySem.W.isFn K (.ref f2) = true)
    (l2 : K.lookup f2 = some ⟨oc2, od2, .func (PySem.W.fnOf "__init__" "BadLanes.__init__" (defArgs s_BadLanes___init__) (defBody s_BadLanes___init__) (defScope s_BadLanes___init__) .none kV2 dc2 pm2 an2 cd2 ct2), sl2⟩)
    (c2 : PySem.W.codeIn K cd2 "BadLanes.__init__" = true)
    (k2 : PySem.W.keepIn K (.ref f2) = true)
    (a3 : PySem.W.nsIn K mainGlobals "is_whole" = some (some (.ref f3)))
    (l3 : K.lookup f3 = some ⟨oc3, od3, .func (PySem.W.fnOf "is_whole" "is_whole" (defArgs s_is_whole) (defBody s_is_whole) (defScope s_is_whole) .none kV3 dc3 pm3 an3 cd3 ct3), sl3⟩)
    (c3 : PySem.W.codeIn K cd3 "is_whole" = true)
    (k3 : PySem.W.keepIn K (.ref f3) = true)
    (a4 : PySem.W.nsIn K mainGlobals "is_value" = some (some (.ref f4)))
    (l4 : K.lookup f4 = some ⟨oc4, od4, .func (PySem.W.fnOf "is_value" "is_value" (defArgs s_is_value) (defBody s_is_value) (defScope s_is_value) .none kV4 dc4 pm4 an4 cd4 ct4), sl4⟩)
    (c4 : PySem.W.codeIn K cd4 "is_value" = true)
    (k4 : PySem.W.keepIn K (.ref f4) = true)
    (i5 : PySem.W.isFn K (.ref f5) = true)
    (l5 : K.lookup f5 = some ⟨oc5, od5, .func (PySem.W.fnOf "__init__" "Part.__init__" (defArgs s_Part___init__) (defBody s_Part___init__) (defScope s_Part___init__) .none kV5 dc5 pm5 an5 cd5 ct5), sl5⟩)
    (c5 : PySem.W.codeIn K cd5 "Part.__init__" = true)
    (k5 : PySem.W.keepIn K (.ref f5) = true)
    (i6 : PySem.W.isFn K (.ref f6) = true)
    (l6 : K.lookup f6 = some ⟨oc6, od6, .func (PySem.W.fnOf "kind" "Give.kind" (defArgs s_Give_kind) (defBody s_Give_kind) (defScope s_Give_kind) .none kV6 dc6 pm6 an6 cd6 ct6), sl6⟩)
    (c6 : PySem.W.codeIn K cd6 "Give.kind" = true)
    (k6 : PySem.W.keepIn K (.ref f6) = true)
    (i7 : PySem.W.isFn K (.ref f7) = true)
    (l7 : K.lookup f7 = some ⟨oc7, od7, .func (PySem.W.fnOf "kind" "Take.kind" (defArgs s_Take_kind) (defBody s_Take_kind) (defScope s_Take_kind) .none kV7 dc7 pm7 an7 cd7 ct7), sl7⟩)
    (c7 : PySem.W.codeIn K cd7 "Take.kind" = true)
    (k7 : PySem.W.keepIn K (.ref f7) = true)
    (i8 : PySem.W.isFn K (.ref f8) = true)
    (l8 : K.lookup f8 = some ⟨oc8, od8, .func (PySem.W.fnOf "kind" "Pass.kind" (defArgs s_Pass_kind) (defBody s_Pass_kind) (defScope s_Pass_kind) .none kV8 dc8 pm8 an8 cd8 ct8), sl8⟩)
    (c8 : PySem.W.codeIn K cd8 "Pass.kind" = true)
    (k8 : PySem.W.keepIn K (.ref f8) = true)
    (i9 : PySem.W.isFn K (.ref f9) = true)
    (l9 : K.lookup f9 = some ⟨oc9, od9, .func (PySem.W.fnOf "kind" "Copy.kind" (defArgs s_Copy_kind) (defBody s_Copy_kind) (defScope s_Copy_kind) .none kV9 dc9 pm9 an9 cd9 ct9), sl9⟩)
    (c9 : PySem.W.codeIn K cd9 "Copy.kind" = true)
    (k9 : PySem.W.keepIn K (.ref f9) = true)
    (i10 : PySem.W.isFn K (.ref f10) = true)
    (l10 : K.lookup f10 = some ⟨oc10, od10, .func (PySem.W.fnOf "kind" "Turn.kind" (defArgs s_Turn_kind) (defBody s_Turn_kind) (defScope s_Turn_kind) .none kV10 dc10 pm10 an10 cd10 ct10), sl10⟩)
    (c10 : PySem.W.codeIn K cd10 "Turn.kind" = true)
    (k10 : PySem.W.keepIn K (.ref f10) = true)
    (i11 : PySem.W.isFn K (.ref f11) = true)
    (l11 : K.lookup f11 = some ⟨oc11, od11, .func (PySem.W.fnOf "kind" "Heap.kind" (defArgs s_Heap_kind) (defBody s_Heap_kind) (defScope s_Heap_kind) .none kV11 dc11 pm11 an11 cd11 ct11), sl11⟩)
    (c11 : PySem.W.codeIn K cd11 "Heap.kind" = true)
    (k11 : PySem.W.keepIn K (.ref f11) = true)
    (i12 : PySem.W.isFn K (.ref f12) = true)
    (l12 : K.lookup f12 = some ⟨oc12, od12, .func (PySem.W.fnOf "kind" "Add.kind" (defArgs s_Add_kind) (defBody s_Add_kind) (defScope s_Add_kind) .none kV12 dc12 pm12 an12 cd12 ct12), sl12⟩)
    (c12 : PySem.W.codeIn K cd12 "Add.kind" = true)
    (k12 : PySem.W.keepIn K (.ref f12) = true)
    (i13 : PySem.W.isFn K (.ref f13) = true)
    (l13 : K.lookup f13 = some ⟨oc13, od13, .func (PySem.W.fnOf "kind" "Less.kind" (defArgs s_Less_kind) (defBody s_Less_kind) (defScope s_Less_kind) .none kV13 dc13 pm13 an13 cd13 ct13), sl13⟩)
    (c13 : PySem.W.codeIn K cd13 "Less.kind" = true)
    (k13 : PySem.W.keepIn K (.ref f13) = true)
    (i14 : PySem.W.isFn K (.ref f14) = true)
    (l14 : K.lookup f14 = some ⟨oc14, od14, .func (PySem.W.fnOf "kind" "Order.kind" (defArgs s_Order_kind) (defBody s_Order_kind) (defScope s_Order_kind) .none kV14 dc14 pm14 an14 cd14 ct14), sl14⟩)
    (c14 : PySem.W.codeIn K cd14 "Order.kind" = true)
    (k14 : PySem.W.keepIn K (.ref f14) = true)
    (i15 : PySem.W.isFn K (.ref f15) = true)
    (l15 : K.lookup f15 = some ⟨oc15, od15, .func (PySem.W.fnOf "kind" "Choose.kind" (defArgs s_Choose_kind) (defBody s_Choose_kind) (defScope s_Choose_kind) .none kV15 dc15 pm15 an15 cd15 ct15), sl15⟩)
    (c15 : PySem.W.codeIn K cd15 "Choose.kind" = true)
    (k15 : PySem.W.keepIn K (.ref f15) = true)
    (i16 : PySem.W.isFn K (.ref f16) = true)
    (l16 : K.lookup f16 = some ⟨oc16, od16, .func (PySem.W.fnOf "kind" "Split.kind" (defArgs s_Split_kind) (defBody s_Split_kind) (defScope s_Split_kind) .none kV16 dc16 pm16 an16 cd16 ct16), sl16⟩)
    (c16 : PySem.W.codeIn K cd16 "Split.kind" = true)
    (k16 : PySem.W.keepIn K (.ref f16) = true)
    (a17 : PySem.W.nsIn K mainGlobals "is_kind" = some (some (.ref f17)))
    (l17 : K.lookup f17 = some ⟨oc17, od17, .func (PySem.W.fnOf "is_kind" "is_kind" (defArgs s_is_kind) (defBody s_is_kind) (defScope s_is_kind) .none kV17 dc17 pm17 an17 cd17 ct17), sl17⟩)
    (c17 : PySem.W.codeIn K cd17 "is_kind" = true)
    (k17 : PySem.W.keepIn K (.ref f17) = true)
    (a18 : PySem.W.nsIn K mainGlobals "need_fit" = some (some (.ref f18)))
    (l18 : K.lookup f18 = some ⟨oc18, od18, .func (PySem.W.fnOf "need_fit" "need_fit" (defArgs s_need_fit) (defBody s_need_fit) (defScope s_need_fit) .none kV18 dc18 pm18 an18 cd18 ct18), sl18⟩)
    (c18 : PySem.W.codeIn K cd18 "need_fit" = true)
    (k18 : PySem.W.keepIn K (.ref f18) = true)
    (a19 : PySem.W.nsIn K mainGlobals "made_of" = some (some (.ref f19)))
    (l19 : K.lookup f19 = some ⟨oc19, od19, .func (PySem.W.fnOf "made_of" "made_of" (defArgs s_made_of) (defBody s_made_of) (defScope s_made_of) .none kV19 dc19 pm19 an19 cd19 ct19), sl19⟩)
    (c19 : PySem.W.codeIn K cd19 "made_of" = true)
    (k19 : PySem.W.keepIn K (.ref f19) = true)
    (a20 : PySem.W.nsIn K mainGlobals "part_made" = some (some (.ref f20)))
    (l20 : K.lookup f20 = some ⟨oc20, od20, .func (PySem.W.fnOf "part_made" "part_made" (defArgs s_part_made) (defBody s_part_made) (defScope s_part_made) .none kV20 dc20 pm20 an20 cd20 ct20), sl20⟩)
    (c20 : PySem.W.codeIn K cd20 "part_made" = true)
    (k20 : PySem.W.keepIn K (.ref f20) = true)
    (a21 : PySem.W.nsIn K mainGlobals "_law_mix" = some (some (.ref f21)))
    (l21 : K.lookup f21 = some ⟨oc21, od21, .func (PySem.W.fnOf "_law_mix" "_law_mix" (defArgs s__law_mix) (defBody s__law_mix) (defScope s__law_mix) .none kV21 dc21 pm21 an21 cd21 ct21), sl21⟩)
    (c21 : PySem.W.codeIn K cd21 "_law_mix" = true)
    (k21 : PySem.W.keepIn K (.ref f21) = true)
    (a22 : PySem.W.nsIn K mainGlobals "_law_value" = some (some (.ref f22)))
    (l22 : K.lookup f22 = some ⟨oc22, od22, .func (PySem.W.fnOf "_law_value" "_law_value" (defArgs s__law_value) (defBody s__law_value) (defScope s__law_value) .none kV22 dc22 pm22 an22 cd22 ct22), sl22⟩)
    (c22 : PySem.W.codeIn K cd22 "_law_value" = true)
    (k22 : PySem.W.keepIn K (.ref f22) = true)
    (a23 : PySem.W.nsIn K mainGlobals "_law_word" = some (some (.ref f23)))
    (l23 : K.lookup f23 = some ⟨oc23, od23, .func (PySem.W.fnOf "_law_word" "_law_word" (defArgs s__law_word) (defBody s__law_word) (defScope s__law_word) .none kV23 dc23 pm23 an23 cd23 ct23), sl23⟩)
    (c23 : PySem.W.codeIn K cd23 "_law_word" = true)
    (k23 : PySem.W.keepIn K (.ref f23) = true)
    (a24 : PySem.W.nsIn K mainGlobals "_law_kinds" = some (some (.ref f24)))
    (l24 : K.lookup f24 = some ⟨oc24, od24, .func (PySem.W.fnOf "_law_kinds" "_law_kinds" (defArgs s__law_kinds) (defBody s__law_kinds) (defScope s__law_kinds) .none kV24 dc24 pm24 an24 cd24 ct24), sl24⟩)
    (c24 : PySem.W.codeIn K cd24 "_law_kinds" = true)
    (k24 : PySem.W.keepIn K (.ref f24) = true)
    (a25 : PySem.W.nsIn K mainGlobals "_law_kind" = some (some (.ref f25)))
    (l25 : K.lookup f25 = some ⟨oc25, od25, .func (PySem.W.fnOf "_law_kind" "_law_kind" (defArgs s__law_kind) (defBody s__law_kind) (defScope s__law_kind) .none kV25 dc25 pm25 an25 cd25 ct25), sl25⟩)
    (c25 : PySem.W.codeIn K cd25 "_law_kind" = true)
    (k25 : PySem.W.keepIn K (.ref f25) = true)
    (a26 : PySem.W.nsIn K mainGlobals "_law_many" = some (some (.ref f26)))
    (l26 : K.lookup f26 = some ⟨oc26, od26, .func (PySem.W.fnOf "_law_many" "_law_many" (defArgs s__law_many) (defBody s__law_many) (defScope s__law_many) .none kV26 dc26 pm26 an26 cd26 ct26), sl26⟩)
    (c26 : PySem.W.codeIn K cd26 "_law_many" = true)
    (k26 : PySem.W.keepIn K (.ref f26) = true)
    (a27 : PySem.W.nsIn K mainGlobals "_law_lists" = some (some (.ref f27)))
    (l27 : K.lookup f27 = some ⟨oc27, od27, .func (PySem.W.fnOf "_law_lists" "_law_lists" (defArgs s__law_lists) (defBody s__law_lists) (defScope s__law_lists) .none kV27 dc27 pm27 an27 cd27 ct27), sl27⟩)
    (c27 : PySem.W.codeIn K cd27 "_law_lists" = true)
    (k27 : PySem.W.keepIn K (.ref f27) = true)
    (a28 : PySem.W.nsIn K mainGlobals "_law_are_values" = some (some (.ref f28)))
    (l28 : K.lookup f28 = some ⟨oc28, od28, .func (PySem.W.fnOf "_law_are_values" "_law_are_values" (defArgs s__law_are_values) (defBody s__law_are_values) (defScope s__law_are_values) .none kV28 dc28 pm28 an28 cd28 ct28), sl28⟩)
    (c28 : PySem.W.codeIn K cd28 "_law_are_values" = true)
    (k28 : PySem.W.keepIn K (.ref f28) = true)
    (a29 : PySem.W.nsIn K mainGlobals "_law_due" = some (some (.ref f29)))
    (l29 : K.lookup f29 = some ⟨oc29, od29, .func (PySem.W.fnOf "_law_due" "_law_due" (defArgs s__law_due) (defBody s__law_due) (defScope s__law_due) .none kV29 dc29 pm29 an29 cd29 ct29), sl29⟩)
    (c29 : PySem.W.codeIn K cd29 "_law_due" = true)
    (k29 : PySem.W.keepIn K (.ref f29) = true)
    (a30 : PySem.W.nsIn K mainGlobals "_law_marks" = some (some (.ref f30)))
    (l30 : K.lookup f30 = some ⟨oc30, od30, .func (PySem.W.fnOf "_law_marks" "_law_marks" (defArgs s__law_marks) (defBody s__law_marks) (defScope s__law_marks) .none kV30 dc30 pm30 an30 cd30 ct30), sl30⟩)
    (c30 : PySem.W.codeIn K cd30 "_law_marks" = true)
    (k30 : PySem.W.keepIn K (.ref f30) = true)
    (a31 : PySem.W.nsIn K mainGlobals "_law_good" = some (some (.ref f31)))
    (l31 : K.lookup f31 = some ⟨oc31, od31, .func (PySem.W.fnOf "_law_good" "_law_good" (defArgs s__law_good) (defBody s__law_good) (defScope s__law_good) .none kV31 dc31 pm31 an31 cd31 ct31), sl31⟩)
    (c31 : PySem.W.codeIn K cd31 "_law_good" = true)
    (k31 : PySem.W.keepIn K (.ref f31) = true)
    (a32 : PySem.W.nsIn K mainGlobals "_law_by_class" = some (some (.ref f32)))
    (l32 : K.lookup f32 = some ⟨oc32, od32, .func (PySem.W.fnOf "_law_by_class" "_law_by_class" (defArgs s__law_by_class) (defBody s__law_by_class) (defScope s__law_by_class) .none kV32 dc32 pm32 an32 cd32 ct32), sl32⟩)
    (c32 : PySem.W.codeIn K cd32 "_law_by_class" = true)
    (k32 : PySem.W.keepIn K (.ref f32) = true)
    (a33 : PySem.W.nsIn K mainGlobals "_law_made" = some (some (.ref f33)))
    (l33 : K.lookup f33 = some ⟨oc33, od33, .func (PySem.W.fnOf "_law_made" "_law_made" (defArgs s__law_made) (defBody s__law_made) (defScope s__law_made) .none kV33 dc33 pm33 an33 cd33 ct33), sl33⟩)
    (c33 : PySem.W.codeIn K cd33 "_law_made" = true)
    (k33 : PySem.W.keepIn K (.ref f33) = true)
    (a34 : PySem.W.nsIn K mainGlobals "law" = some (some (.ref f34)))
    (l34 : K.lookup f34 = some ⟨oc34, od34, .func (PySem.W.fnOf "law" "law" (defArgs s_law) (defBody s_law) (defScope s_law) .none kV34 dc34 pm34 an34 cd34 ct34), sl34⟩)
    (c34 : PySem.W.codeIn K cd34 "law" = true)
    (k34 : PySem.W.keepIn K (.ref f34) = true)
    (z_all : PySem.W.nsIn K mainGlobals "all" = some none)
    (z_bool : PySem.W.nsIn K mainGlobals "bool" = some none)
    (z_int : PySem.W.nsIn K mainGlobals "int" = some none)
    (z_isinstance : PySem.W.nsIn K mainGlobals "isinstance" = some none)
    (z_len : PySem.W.nsIn K mainGlobals "len" = some none)
    (z_list : PySem.W.nsIn K mainGlobals "list" = some none)
    (z_max : PySem.W.nsIn K mainGlobals "max" = some none)
    (z_range : PySem.W.nsIn K mainGlobals "range" = some none)
    (z_str : PySem.W.nsIn K mainGlobals "str" = some none)
    (z_tuple : PySem.W.nsIn K mainGlobals "tuple" = some none)
    (y_VALUES : PySem.W.nsIn K mainGlobals "VALUES" = some (some u_VALUES))
    (r_VALUES : RelV (.int 1000000000) u_VALUES)
    (yt_COUNTS : PySem.W.nsIn K mainGlobals "COUNTS" = some (some (.ref o_COUNTS)))
    (rt_COUNTS : KTab w K o_COUNTS ROWS)
    (pb1 : PySem.W.specialIn K (.ref C_LaneError) "__getattribute__" = some (some (.builtin "type.__getattribute__")))
    (pb2 : PySem.W.readsIn K C_LaneError (.type "type") = true)
    (pb3 : PySem.W.findCls K (.ref C_LaneError) (.type "type") "__init__" = some (.val (.builtin "ValueError.__init__")))
    (ptab : tabO K [C_Give, C_Take, C_Pass, C_Copy, C_Turn, C_Heap, C_Add, C_Less, C_Order, C_Choose, C_Split] C_Part = true)
    (ps_BadNumbers_NoKind : PySem.W.subIn K (.ref C_BadNumbers) (.ref C_NoKind) = some false)
    (ps_BadLanes_NoKind : PySem.W.subIn K (.ref C_BadLanes) (.ref C_NoKind) = some false)
    (ps_BadLanes_BadNumbers : PySem.W.subIn K (.ref C_BadLanes) (.ref C_BadNumbers) = some false)
    (px_NoKind : iniIn K C_NoKind f0 = true)
    (pk_NoKind : PySem.W.keepIn K (.ref C_NoKind) = true)
    (pq_NoKind : xfIn K C_NoKind = true)
    (pn_NoKind : PySem.W.findIn K (.ref C_NoKind) "word" = some none)
    (px_BadNumbers : iniIn K C_BadNumbers f1 = true)
    (pk_BadNumbers : PySem.W.keepIn K (.ref C_BadNumbers) = true)
    (pq_BadNumbers : xfIn K C_BadNumbers = true)
    (pn_BadNumbers : PySem.W.findIn K (.ref C_BadNumbers) "name" = some none)
    (px_BadLanes : iniIn K C_BadLanes f2 = true)
    (pk_BadLanes : PySem.W.keepIn K (.ref C_BadLanes) = true)
    (pq_BadLanes : xfIn K C_BadLanes = true)
    (pn_BadLanes : PySem.W.findIn K (.ref C_BadLanes) "name" = some none)
    : ∃ fd : FuncData, (∀ (s : Shared) (v : Value), BindsTo s fd ⟨[v], []⟩ [("_law_script", v)]) ∧ ∀ base : Heap, K.In base → base.Ns mainGlobals mg → FnOk l.prog w K mg base CX0 6 fa fd ["_law_script"] (sp_law K) := by
  have e := hfa.symm.trans (PySem.W.mg_of X G a34)
  cases e
  have F0 := fun_mk (st := s_NoKind___init__) l0 c0 k0
  have b0 := F0.binds (ps := ["self", "word"]) fun _ _ _ _ _ _ us hl => match us, hl with | [_, _], _ => rfl
  have F1 := fun_mk (st := s_BadNumbers___init__) l1 c1 k1
  have b1 := F1.binds (ps := ["self", "name"]) fun _ _ _ _ _ _ us hl => match us, hl with | [_, _], _ => rfl
  have F2 := fun_mk (st := s_BadLanes___init__) l2 c2 k2
  have b2 := F2.binds (ps := ["self", "name"]) fun _ _ _ _ _ _ us hl => match us, hl with | [_, _], _ => rfl
  have F3 := fun_mk (st := s_is_whole) l3 c3 k3
  have b3 := F3.binds (ps := ["thing"]) fun _ _ _ _ _ _ us hl => match us, hl with | [_], _ => rfl
  have F4 := fun_mk (st := s_is_value) l4 c4 k4
  have b4 := F4.binds (ps := ["thing"]) fun _ _ _ _ _ _ us hl => match us, hl with | [_], _ => rfl
  have F5 := fun_mk (st := s_Part___init__) l5 c5 k5
  have b5 := F5.binds (ps := ["self", "name", "numbers", "ins", "outs"]) fun _ _ _ _ _ _ us hl => match us, hl with | [_, _, _, _, _], _ => rfl
  have F6 := fun_mk (st := s_Give_kind) l6 c6 k6
  have b6 := F6.binds (ps := ["self"]) fun _ _ _ _ _ _ us hl => match us, hl with | [_], _ => rfl
  have F7 := fun_mk (st := s_Take_kind) l7 c7 k7
  have b7 := F7.binds (ps := ["self"]) fun _ _ _ _ _ _ us hl => match us, hl with | [_], _ => rfl
  have F8 := fun_mk (st := s_Pass_kind) l8 c8 k8
  have b8 := F8.binds (ps := ["self"]) fun _ _ _ _ _ _ us hl => match us, hl with | [_], _ => rfl
  have F9 := fun_mk (st := s_Copy_kind) l9 c9 k9
  have b9 := F9.binds (ps := ["self"]) fun _ _ _ _ _ _ us hl => match us, hl with | [_], _ => rfl
  have F10 := fun_mk (st := s_Turn_kind) l10 c10 k10
  have b10 := F10.binds (ps := ["self"]) fun _ _ _ _ _ _ us hl => match us, hl with | [_], _ => rfl
  have F11 := fun_mk (st := s_Heap_kind) l11 c11 k11
  have b11 := F11.binds (ps := ["self"]) fun _ _ _ _ _ _ us hl => match us, hl with | [_], _ => rfl
  have F12 := fun_mk (st := s_Add_kind) l12 c12 k12
  have b12 := F12.binds (ps := ["self"]) fun _ _ _ _ _ _ us hl => match us, hl with | [_], _ => rfl
  have F13 := fun_mk (st := s_Less_kind) l13 c13 k13
  have b13 := F13.binds (ps := ["self"]) fun _ _ _ _ _ _ us hl => match us, hl with | [_], _ => rfl
  have F14 := fun_mk (st := s_Order_kind) l14 c14 k14
  have b14 := F14.binds (ps := ["self"]) fun _ _ _ _ _ _ us hl => match us, hl with | [_], _ => rfl
  have F15 := fun_mk (st := s_Choose_kind) l15 c15 k15
  have b15 := F15.binds (ps := ["self"]) fun _ _ _ _ _ _ us hl => match us, hl with | [_], _ => rfl
  have F16 := fun_mk (st := s_Split_kind) l16 c16 k16
  have b16 := F16.binds (ps := ["self"]) fun _ _ _ _ _ _ us hl => match us, hl with | [_], _ => rfl
  have F17 := fun_mk (st := s_is_kind) l17 c17 k17
  have b17 := F17.binds (ps := ["word"]) fun _ _ _ _ _ _ us hl => match us, hl with | [_], _ => rfl
  have F18 := fun_mk (st := s_need_fit) l18 c18 k18
  have b18 := F18.binds (ps := ["kind", "name", "numbers", "ins", "outs"]) fun _ _ _ _ _ _ us hl => match us, hl with | [_, _, _, _, _], _ => rfl
  have F19 := fun_mk (st := s_made_of) l19 c19 k19
  have b19 := F19.binds (ps := ["kind", "name", "numbers", "ins", "outs"]) fun _ _ _ _ _ _ us hl => match us, hl with | [_, _, _, _, _], _ => rfl
  have F20 := fun_mk (st := s_part_made) l20 c20 k20
  have b20 := F20.binds (ps := ["kind", "name", "numbers", "ins", "outs"]) fun _ _ _ _ _ _ us hl => match us, hl with | [_, _, _, _, _], _ => rfl
  have F21 := fun_mk (st := s__law_mix) l21 c21 k21
  have b21 := F21.binds (ps := ["_law_cell", "_law_k"]) fun _ _ _ _ _ _ us hl => match us, hl with | [_, _], _ => rfl
  have F22 := fun_mk (st := s__law_value) l22 c22 k22
  have b22 := F22.binds (ps := ["_law_cell", "_law_k"]) fun _ _ _ _ _ _ us hl => match us, hl with | [_, _], _ => rfl
  have F23 := fun_mk (st := s__law_word) l23 c23 k23
  have b23 := F23.binds (ps := ["_law_cell", "_law_k"]) fun _ _ _ _ _ _ us hl => match us, hl with | [_, _], _ => rfl
  have F24 := fun_mk (st := s__law_kinds) l24 c24 k24
  have b24 := F24.binds (ps := []) fun _ _ _ _ _ _ us hl => match us, hl with | [], _ => rfl
  have F25 := fun_mk (st := s__law_kind) l25 c25 k25
  have b25 := F25.binds (ps := ["_law_cell"]) fun _ _ _ _ _ _ us hl => match us, hl with | [_], _ => rfl
  have F26 := fun_mk (st := s__law_many) l26 c26 k26
  have b26 := F26.binds (ps := ["_law_many_here", "_law_number"]) fun _ _ _ _ _ _ us hl => match us, hl with | [_, _], _ => rfl
  have F27 := fun_mk (st := s__law_lists) l27 c27 k27
  have b27 := F27.binds (ps := ["_law_cell", "_law_many_here", "_law_ins", "_law_outs"]) fun _ _ _ _ _ _ us hl => match us, hl with | [_, _, _, _], _ => rfl
  have F28 := fun_mk (st := s__law_are_values) l28 c28 k28
  have b28 := F28.binds (ps := ["_law_numbers"]) fun _ _ _ _ _ _ us hl => match us, hl with | [_], _ => rfl
  have F29 := fun_mk (st := s__law_due) l29 c29 k29
  have b29 := F29.binds (ps := ["_law_kind_here", "_law_name", "_law_numbers", "_law_ins", "_law_outs"]) fun _ _ _ _ _ _ us hl => match us, hl with | [_, _, _, _, _], _ => rfl
  have F30 := fun_mk (st := s__law_marks) l30 c30 k30
  have b30 := F30.binds (ps := ["_law_one"]) fun _ _ _ _ _ _ us hl => match us, hl with | [_], _ => rfl
  have F31 := fun_mk (st := s__law_good) l31 c31 k31
  have b31 := F31.binds (ps := ["_law_one", "_law_kind_here", "_law_name", "_law_numbers", "_law_ins", "_law_outs"]) fun _ _ _ _ _ _ us hl => match us, hl with | [_, _, _, _, _, _], _ => rfl
  have F32 := fun_mk (st := s__law_by_class) l32 c32 k32
  have b32 := F32.binds (ps := ["_law_kind_here", "_law_name", "_law_numbers", "_law_ins", "_law_outs"]) fun _ _ _ _ _ _ us hl => match us, hl with | [_, _, _, _, _], _ => rfl
  have F33 := fun_mk (st := s__law_made) l33 c33 k33
  have b33 := F33.binds (ps := ["_law_cell"]) fun _ _ _ _ _ _ us hl => match us, hl with | [_], _ => rfl
  have F34 := fun_mk (st := s_law) l34 c34 k34
  have b34 := F34.binds (ps := ["_law_script"]) fun _ _ _ _ _ _ us hl => match us, hl with | [_], _ => rfl
  have T : Txt w K mg ⟨_, _, _, _, _, _, _, _, _, _, _, _, _, _, _, _, _, _, _, _, _, _, _, _, _, _, _, _, _, _, _, _, _, _, _, _, _, _, _, _, _, _, _, _, _, _, _, _, _, _, _, _, _, _, _, _, _, _, _, _, _, _, _, _, _, _, _, _, _, _, C_Give, C_Take, C_Pass, C_Copy, C_Turn, C_Heap, C_Add, C_Less, C_Order, C_Choose, C_Split, o_COUNTS, C_LaneError, C_Part, C_NoKind, C_BadNumbers, C_BadLanes⟩ := ⟨F0, b0,
    F1, b1,
    F2, b2,
    F3, b3, PySem.W.mg_of X G a3,
    F4, b4, PySem.W.mg_of X G a4,
    F5, b5,
    F6, b6,
    F7, b7,
    F8, b8,
    F9, b9,
    F10, b10,
    F11, b11,
    F12, b12,
    F13, b13,
    F14, b14,
    F15, b15,
    F16, b16,
    F17, b17, PySem.W.mg_of X G a17,
    F18, b18, PySem.W.mg_of X G a18,
    F19, b19, PySem.W.mg_of X G a19,
    F20, b20, PySem.W.mg_of X G a20,
    F21, b21, PySem.W.mg_of X G a21,
    F22, b22, PySem.W.mg_of X G a22,
    F23, b23, PySem.W.mg_of X G a23,
    F24, b24, PySem.W.mg_of X G a24,
    F25, b25, PySem.W.mg_of X G a25,
    F26, b26, PySem.W.mg_of X G a26,
    F27, b27, PySem.W.mg_of X G a27,
    F28, b28, PySem.W.mg_of X G a28,
    F29, b29, PySem.W.mg_of X G a29,
    F30, b30, PySem.W.mg_of X G a30,
    F31, b31, PySem.W.mg_of X G a31,
    F32, b32, PySem.W.mg_of X G a32,
    F33, b33, PySem.W.mg_of X G a33,
    F34, b34, PySem.W.mg_of X G a34,
    ⟨pg_Give, hd_Give, po_Give, sa_Give⟩, PySem.W.mg_of X G aC_Give, ⟨mk_Give, fm_Give___init__, i5, kc_Give⟩,
    ⟨fm_Give_kind, i6, k6⟩,
    na_Give_name,
    na_Give_numbers,
    na_Give_ins,
    na_Give_outs,
    ⟨pg_Take, hd_Take, po_Take, sa_Take⟩, PySem.W.mg_of X G aC_Take, ⟨mk_Take, fm_Take___init__, i5, kc_Take⟩,
    ⟨fm_Take_kind, i7, k7⟩,
    na_Take_name,
    na_Take_numbers,
    na_Take_ins,
    na_Take_outs,
    ⟨pg_Pass, hd_Pass, po_Pass, sa_Pass⟩, PySem.W.mg_of X G aC_Pass, ⟨mk_Pass, fm_Pass___init__, i5, kc_Pass⟩,
    ⟨fm_Pass_kind, i8, k8⟩,
    na_Pass_name,
    na_Pass_numbers,
    na_Pass_ins,
    na_Pass_outs,
    ⟨pg_Copy, hd_Copy, po_Copy, sa_Copy⟩, PySem.W.mg_of X G aC_Copy, ⟨mk_Copy, fm_Copy___init__, i5, kc_Copy⟩,
    ⟨fm_Copy_kind, i9, k9⟩,
    na_Copy_name,
    na_Copy_numbers,
    na_Copy_ins,
    na_Copy_outs,
    ⟨pg_Turn, hd_Turn, po_Turn, sa_Turn⟩, PySem.W.mg_of X G aC_Turn, ⟨mk_Turn, fm_Turn___init__, i5, kc_Turn⟩,
    ⟨fm_Turn_kind, i10, k10⟩,
    na_Turn_name,
    na_Turn_numbers,
    na_Turn_ins,
    na_Turn_outs,
    ⟨pg_Heap, hd_Heap, po_Heap, sa_Heap⟩, PySem.W.mg_of X G aC_Heap, ⟨mk_Heap, fm_Heap___init__, i5, kc_Heap⟩,
    ⟨fm_Heap_kind, i11, k11⟩,
    na_Heap_name,
    na_Heap_numbers,
    na_Heap_ins,
    na_Heap_outs,
    ⟨pg_Add, hd_Add, po_Add, sa_Add⟩, PySem.W.mg_of X G aC_Add, ⟨mk_Add, fm_Add___init__, i5, kc_Add⟩,
    ⟨fm_Add_kind, i12, k12⟩,
    na_Add_name,
    na_Add_numbers,
    na_Add_ins,
    na_Add_outs,
    ⟨pg_Less, hd_Less, po_Less, sa_Less⟩, PySem.W.mg_of X G aC_Less, ⟨mk_Less, fm_Less___init__, i5, kc_Less⟩,
    ⟨fm_Less_kind, i13, k13⟩,
    na_Less_name,
    na_Less_numbers,
    na_Less_ins,
    na_Less_outs,
    ⟨pg_Order, hd_Order, po_Order, sa_Order⟩, PySem.W.mg_of X G aC_Order, ⟨mk_Order, fm_Order___init__, i5, kc_Order⟩,
    ⟨fm_Order_kind, i14, k14⟩,
    na_Order_name,
    na_Order_numbers,
    na_Order_ins,
    na_Order_outs,
    ⟨pg_Choose, hd_Choose, po_Choose, sa_Choose⟩, PySem.W.mg_of X G aC_Choose, ⟨mk_Choose, fm_Choose___init__, i5, kc_Choose⟩,
    ⟨fm_Choose_kind, i15, k15⟩,
    na_Choose_name,
    na_Choose_numbers,
    na_Choose_ins,
    na_Choose_outs,
    ⟨pg_Split, hd_Split, po_Split, sa_Split⟩, PySem.W.mg_of X G aC_Split, ⟨mk_Split, fm_Split___init__, i5, kc_Split⟩,
    ⟨fm_Split_kind, i16, k16⟩,
    na_Split_name,
    na_Split_numbers,
    na_Split_ins,
    na_Split_outs,
    PySem.W.mg_of X G yt_COUNTS, rt_COUNTS,
    PySem.W.mg_none_of X G z_all,
    PySem.W.mg_none_of X G z_bool,
    PySem.W.mg_none_of X G z_int,
    PySem.W.mg_none_of X G z_isinstance,
    PySem.W.mg_none_of X G z_len,
    PySem.W.mg_none_of X G z_list,
    PySem.W.mg_none_of X G z_max,
    PySem.W.mg_none_of X G z_range,
    PySem.W.mg_none_of X G z_str,
    PySem.W.mg_none_of X G z_tuple,
    ⟨_, PySem.W.mg_of X G y_VALUES, r_VALUES⟩,
    PySem.W.mg_of X G pc_LaneError,
    PySem.W.mg_of X G pc_Part,
    PySem.W.mg_of X G pc_NoKind,
    PySem.W.mg_of X G pc_BadNumbers,
    PySem.W.mg_of X G pc_BadLanes,
    ⟨pb1, pb2, pb3⟩,
    ptab,
    ps_BadNumbers_NoKind,
    ps_BadLanes_NoKind,
    ps_BadLanes_BadNumbers,
    ⟨ExcIni.ofIn px_NoKind, i0, pk_NoKind⟩,
    XfK.ofIn pq_NoKind,
    pn_NoKind,
    (ExcIni.ofIn px_NoKind).at X,
    ⟨ExcIni.ofIn px_BadNumbers, i1, pk_BadNumbers⟩,
    XfK.ofIn pq_BadNumbers,
    pn_BadNumbers,
    (ExcIni.ofIn px_BadNumbers).at X,
    ⟨ExcIni.ofIn px_BadLanes, i2, pk_BadLanes⟩,
    XfK.ofIn pq_BadLanes,
    pn_BadLanes,
    (ExcIni.ofIn px_BadLanes).at X⟩
  exact ⟨_, fun s v => .of_eq rfl, fun base _ _ => ok_law T⟩
theorem walk {l : PySem.W.OpenLaw} {q : Program} {loose : List Str} {XP : (Str → Option Value) → Heap → Prop} {YP : World → Heap → Prop} {d : DefRec} {K : Params → PySem.W.Frag} (hn : l.most = some 63) (hdf : d.params.defaults = [])
    (hY : ∀ (w : World) (h : Heap), YP w h → (K w.params).In h)
    (F : ∀ (w : World) (mg : Str → Option Value) (fa : Addr) (h : Heap), (K w.params).In h → h.Ns mainGlobals mg → mg d.name = some (.ref fa) →
      ∃ fd : FuncData, (∀ (s : Shared) (u : Value), BindsTo s fd ⟨[u], []⟩ [("_law_script", u)]) ∧ ∀ base : Heap, (K w.params).In base → base.Ns mainGlobals mg → FnOk l.prog w (K w.params) mg base CX0 6 fa fd ["_law_script"] (sp_law (K w.params))) :
    PySem.W.WalkO q loose XP YP l.row.toRowW d [] (fun f vs => PySem.call f vs) :=
  L2.walk_of (n := 63) (k := 6) (x := "_law_script") (CX := fun _ => CX0) (sp := fun w => sp_law (K w.params)) hn (by decide) hdf ⟨rfl, by decide, by decide⟩ hY F (fun _ _ a ns hl _ hS => ⟨a, ns, rfl, hS, hl, fun _ => rfl⟩) fun _ _ _ _ _ z => z
end K15
open PySem PySem.W PyProof.Rows
set_option maxRecDepth 100000 in
set_option maxHeartbeats 0 in
theorem PySem.Challenge.cw_holdlane_k15_parts_made_or_refused_holds : PySem.Challenge.rw_holdlane_k15_parts_made_or_refused.Holds := by
  w_on; o_law
  refine HD.head (by rfl) (by rfl) (by rfl) (by rfl) (by first | assumption | decide +kernel) (by decide +kernel) ⟨rfl, rfl, rfl, rfl, rfl, by decide +kernel⟩ rfl (fun _ => rfl) ?_ ?_
  · w_witness2
  k_fill
  refine K15.walk (l := PySem.Challenge.rw_holdlane_k15_parts_made_or_refused) rfl rfl (fun w h Y => PySem.W.kIn_of Y) ?F
  case F =>
    intro w mg fa h KX G hmg
    refine' K15.all_mk KX G hmg ?aC_Give ?pg_Give ?hd_Give ?po_Give ?sa_Give ?mk_Give ?kc_Give ?fm_Give___init__ ?fm_Give_kind ?na_Give_name ?na_Give_numbers ?na_Give_ins ?na_Give_outs ?aC_Take ?pg_Take ?hd_Take ?po_Take ?sa_Take ?mk_Take ?kc_Take ?fm_Take___init__ ?fm_Take_kind ?na_Take_name ?na_Take_numbers ?na_Take_ins ?na_Take_outs ?aC_Pass ?pg_Pass ?hd_Pass ?po_Pass ?sa_Pass ?mk_Pass ?kc_Pass ?fm_Pass___init__ ?fm_Pass_kind ?na_Pass_name ?na_Pass_numbers ?na_Pass_ins ?na_Pass_outs ?aC_Copy ?pg_Copy ?hd_Copy ?po_Copy ?sa_Copy ?mk_Copy ?kc_Copy ?fm_Copy___init__ ?fm_Copy_kind ?na_Copy_name ?na_Copy_numbers ?na_Copy_ins ?na_Copy_outs ?aC_Turn ?pg_Turn ?hd_Turn ?po_Turn ?sa_Turn ?mk_Turn ?kc_Turn ?fm_Turn___init__ ?fm_Turn_kind ?na_Turn_name ?na_Turn_numbers ?na_Turn_ins ?na_Turn_outs ?aC_Heap ?pg_Heap ?hd_Heap ?po_Heap ?sa_Heap ?mk_Heap ?kc_Heap ?fm_Heap___init__ ?fm_Heap_kind ?na_Heap_name ?na_Heap_numbers ?na_Heap_ins ?na_Heap_outs ?aC_Add ?pg_Add ?hd_Add ?po_Add ?sa_Add ?mk_Add ?kc_Add ?fm_Add___init__ ?fm_Add_kind ?na_Add_name ?na_Add_numbers ?na_Add_ins ?na_Add_outs ?aC_Less ?pg_Less ?hd_Less ?po_Less ?sa_Less ?mk_Less ?kc_Less ?fm_Less___init__ ?fm_Less_kind ?na_Less_name ?na_Less_numbers ?na_Less_ins ?na_Less_outs ?aC_Order ?pg_Order ?hd_Order ?po_Order ?sa_Order ?mk_Order ?kc_Order ?fm_Order___init__ ?fm_Order_kind ?na_Order_name ?na_Order_numbers ?na_Order_ins ?na_Order_outs ?aC_Choose ?pg_Choose ?hd_Choose ?po_Choose ?sa_Choose ?mk_Choose ?kc_Choose ?fm_Choose___init__ ?fm_Choose_kind ?na_Choose_name ?na_Choose_numbers ?na_Choose_ins ?na_Choose_outs ?aC_Split ?pg_Split ?hd_Split ?po_Split ?sa_Split ?mk_Split ?kc_Split ?fm_Split___init__ ?fm_Split_kind ?na_Split_name ?na_Split_numbers ?na_Split_ins ?na_Split_outs ?pc_LaneError ?pc_Part ?pc_NoKind ?pc_BadNumbers ?pc_BadLanes ?fi_NoKind ?fi_BadNumbers ?fi_BadLanes ?i0 ?l0 ?c0 ?k0 ?i1 ?l1 ?c1 ?k1 ?i2 ?l2 ?c2 ?k2 ?a3 ?l3 ?c3 ?k3 ?a4 ?l4 ?c4 ?k4 ?i5 ?l5 ?c5 ?k5 ?i6 ?l6 ?c6 ?k6 ?i7 ?l7 ?c7 ?k7 ?i8 ?l8 ?c8 ?k8 ?i9 ?l9 ?c9 ?k9 ?i10 ?l10 ?c10 ?k10 ?i11 ?l11 ?c11 ?k11 ?i12 ?l12 ?c12 ?k12 ?i13 ?l13 ?c13 ?k13 ?i14 ?l14 ?c14 ?k14 ?i15 ?l15 ?c15 ?k15 ?i16 ?l16 ?c16 ?k16 ?a17 ?l17 ?c17 ?k17 ?a18 ?l18 ?c18 ?k18 ?a19 ?l19 ?c19 ?k19 ?a20 ?l20 ?c20 ?k20 ?a21 ?l21 ?c21 ?k21 ?a22 ?l22 ?c22 ?k22 ?a23 ?l23 ?c23 ?k23 ?a24 ?l24 ?c24 ?k24 ?a25 ?l25 ?c25 ?k25 ?a26 ?l26 ?c26 ?k26 ?a27 ?l27 ?c27 ?k27 ?a28 ?l28 ?c28 ?k28 ?a29 ?l29 ?c29 ?k29 ?a30 ?l30 ?c30 ?k30 ?a31 ?l31 ?c31 ?k31 ?a32 ?l32 ?c32 ?k32 ?a33 ?l33 ?c33 ?k33 ?a34 ?l34 ?c34 ?k34 ?z_all ?z_bool ?z_int ?z_isinstance ?z_len ?z_list ?z_max ?z_range ?z_str ?z_tuple ?y_VALUES ?r_VALUES ?yt_COUNTS ?rt_COUNTS ?pb1 ?pb2 ?pb3 ?ptab ?ps_BadNumbers_NoKind ?ps_BadLanes_NoKind ?ps_BadLanes_BadNumbers ?px_NoKind ?pk_NoKind ?pq_NoKind ?pn_NoKind ?px_BadNumbers ?pk_BadNumbers ?pq_BadNumbers ?pn_BadNumbers ?px_BadLanes ?pk_BadLanes ?pq_BadLanes ?pn_BadLanes
    (case aC_Give => k_is)
    (case pg_Give => k_is)
    (case hd_Give => k_is)
    (case po_Give => k_is)
    (case sa_Give => k_is)
    (case mk_Give => k_is)
    (case kc_Give => k_is)
    (case fm_Give___init__ => k_is)
    (case fm_Give_kind => k_is)
    (case na_Give_name => k_is)
    (case na_Give_numbers => k_is)
    (case na_Give_ins => k_is)
    (case na_Give_outs => k_is)
    (case aC_Take => k_is)
    (case pg_Take => k_is)
    (case hd_Take => k_is)
    (case po_Take => k_is)
    (case sa_Take => k_is)
    (case mk_Take => k_is)
    (case kc_Take => k_is)
    (case fm_Take___init__ => k_is)
    (case fm_Take_kind => k_is)
    (case na_Take_name => k_is)
    (case na_Take_numbers => k_is)
    (case na_Take_ins => k_is)
    (case na_Take_outs => k_is)
    (case aC_Pass => k_is)
    (case pg_Pass => k_is)
    (case hd_Pass => k_is)
    (case po_Pass => k_is)
    (case sa_Pass => k_is)
    (case mk_Pass => k_is)
    (case kc_Pass => k_is)
    (case fm_Pass___init__ => k_is)
    (case fm_Pass_kind => k_is)
    (case na_Pass_name => k_is)
    (case na_Pass_numbers => k_is)
    (case na_Pass_ins => k_is)
    (case na_Pass_outs => k_is)
    (case aC_Copy => k_is)
    (case pg_Copy => k_is)
    (case hd_Copy => k_is)
    (case po_Copy => k_is)
    (case sa_Copy => k_is)
    (case mk_Copy => k_is)
    (case kc_Copy => k_is)
    (case fm_Copy___init__ => k_is)
    (case fm_Copy_kind => k_is)
    (case na_Copy_name => k_is)
    (case na_Copy_numbers => k_is)
    (case na_Copy_ins => k_is)
    (case na_Copy_outs => k_is)
    (case aC_Turn => k_is)
    (case pg_Turn => k_is)
    (case hd_Turn => k_is)
    (case po_Turn => k_is)
    (case sa_Turn => k_is)
    (case mk_Turn => k_is)
    (case kc_Turn => k_is)
    (case fm_Turn___init__ => k_is)
    (case fm_Turn_kind => k_is)
    (case na_Turn_name => k_is)
    (case na_Turn_numbers => k_is)
    (case na_Turn_ins => k_is)
    (case na_Turn_outs => k_is)
    (case aC_Heap => k_is)
    (case pg_Heap => k_is)
    (case hd_Heap => k_is)
    (case po_Heap => k_is)
    (case sa_Heap => k_is)
    (case mk_Heap => k_is)
    (case kc_Heap => k_is)
    (case fm_Heap___init__ => k_is)
    (case fm_Heap_kind => k_is)
    (case na_Heap_name => k_is)
    (case na_Heap_numbers => k_is)
    (case na_Heap_ins => k_is)
    (case na_Heap_outs => k_is)
    (case aC_Add => k_is)
    (case pg_Add => k_is)
    (case hd_Add => k_is)
    (case po_Add => k_is)
    (case sa_Add => k_is)
    (case mk_Add => k_is)
    (case kc_Add => k_is)
    (case fm_Add___init__ => k_is)
    (case fm_Add_kind => k_is)
    (case na_Add_name => k_is)
    (case na_Add_numbers => k_is)
    (case na_Add_ins => k_is)
    (case na_Add_outs => k_is)
    (case aC_Less => k_is)
    (case pg_Less => k_is)
    (case hd_Less => k_is)
    (case po_Less => k_is)
    (case sa_Less => k_is)
    (case mk_Less => k_is)
    (case kc_Less => k_is)
    (case fm_Less___init__ => k_is)
    (case fm_Less_kind => k_is)
    (case na_Less_name => k_is)
    (case na_Less_numbers => k_is)
    (case na_Less_ins => k_is)
    (case na_Less_outs => k_is)
    (case aC_Order => k_is)
    (case pg_Order => k_is)
    (case hd_Order => k_is)
    (case po_Order => k_is)
    (case sa_Order => k_is)
    (case mk_Order => k_is)
    (case kc_Order => k_is)
    (case fm_Order___init__ => k_is)
    (case fm_Order_kind => k_is)
    (case na_Order_name => k_is)
    (case na_Order_numbers => k_is)
    (case na_Order_ins => k_is)
    (case na_Order_outs => k_is)
    (case aC_Choose => k_is)
    (case pg_Choose => k_is)
    (case hd_Choose => k_is)
    (case po_Choose => k_is)
    (case sa_Choose => k_is)
    (case mk_Choose => k_is)
    (case kc_Choose => k_is)
    (case fm_Choose___init__ => k_is)
    (case fm_Choose_kind => k_is)
    (case na_Choose_name => k_is)
    (case na_Choose_numbers => k_is)
    (case na_Choose_ins => k_is)
    (case na_Choose_outs => k_is)
    (case aC_Split => k_is)
    (case pg_Split => k_is)
    (case hd_Split => k_is)
    (case po_Split => k_is)
    (case sa_Split => k_is)
    (case mk_Split => k_is)
    (case kc_Split => k_is)
    (case fm_Split___init__ => k_is)
    (case fm_Split_kind => k_is)
    (case na_Split_name => k_is)
    (case na_Split_numbers => k_is)
    (case na_Split_ins => k_is)
    (case na_Split_outs => k_is)
    (case pc_LaneError => k_is)
    (case pc_Part => k_is)
    (case pc_NoKind => k_is)
    (case pc_BadNumbers => k_is)
    (case pc_BadLanes => k_is)
    (case fi_NoKind => k_is)
    (case fi_BadNumbers => k_is)
    (case fi_BadLanes => k_is)
    (case i0 => k_is)
    (case l0 => k_is)
    (case c0 => k_is)
    (case k0 => k_is)
    (case i1 => k_is)
    (case l1 => k_is)
    (case c1 => k_is)
    (case k1 => k_is)
    (case i2 => k_is)
    (case l2 => k_is)
    (case c2 => k_is)
    (case k2 => k_is)
    (case a3 => k_is)
    (case l3 => k_is)
    (case c3 => k_is)
    (case k3 => k_is)
    (case a4 => k_is)
    (case l4 => k_is)
    (case c4 => k_is)
    (case k4 => k_is)
    (case i5 => k_is)
    (case l5 => k_is)
    (case c5 => k_is)
    (case k5 => k_is)
    (case i6 => k_is)
    (case l6 => k_is)
    (case c6 => k_is)
    (case k6 => k_is)
    (case i7 => k_is)
    (case l7 => k_is)
    (case c7 => k_is)
    (case k7 => k_is)
    (case i8 => k_is)
    (case l8 => k_is)
    (case c8 => k_is)
    (case k8 => k_is)
    (case i9 => k_is)
    (case l9 => k_is)
    (case c9 => k_is)
    (case k9 => k_is)
    (case i10 => k_is)
    (case l10 => k_is)
    (case c10 => k_is)
    (case k10 => k_is)
    (case i11 => k_is)
    (case l11 => k_is)
    (case c11 => k_is)
    (case k11 => k_is)
    (case i12 => k_is)
    (case l12 => k_is)
    (case c12 => k_is)
    (case k12 => k_is)
    (case i13 => k_is)
    (case l13 => k_is)
    (case c13 => k_is)
    (case k13 => k_is)
    (case i14 => k_is)
    (case l14 => k_is)
    (case c14 => k_is)
    (case k14 => k_is)
    (case i15 => k_is)
    (case l15 => k_is)
    (case c15 => k_is)
    (case k15 => k_is)
    (case i16 => k_is)
    (case l16 => k_is)
    (case c16 => k_is)
    (case k16 => k_is)
    (case a17 => k_is)
    (case l17 => k_is)
    (case c17 => k_is)
    (case k17 => k_is)
    (case a18 => k_is)
    (case l18 => k_is)
    (case c18 => k_is)
    (case k18 => k_is)
    (case a19 => k_is)
    (case l19 => k_is)
    (case c19 => k_is)
    (case k19 => k_is)
    (case a20 => k_is)
    (case l20 => k_is)
    (case c20 => k_is)
    (case k20 => k_is)
    (case a21 => k_is)
    (case l21 => k_is)
    (case c21 => k_is)
    (case k21 => k_is)
    (case a22 => k_is)
    (case l22 => k_is)
    (case c22 => k_is)
    (case k22 => k_is)
    (case a23 => k_is)
    (case l23 => k_is)
    (case c23 => k_is)
    (case k23 => k_is)
    (case a24 => k_is)
    (case l24 => k_is)
    (case c24 => k_is)
    (case k24 => k_is)
    (case a25 => k_is)
    (case l25 => k_is)
    (case c25 => k_is)
    (case k25 => k_is)
    (case a26 => k_is)
    (case l26 => k_is)
    (case c26 => k_is)
    (case k26 => k_is)
    (case a27 => k_is)
    (case l27 => k_is)
    (case c27 => k_is)
    (case k27 => k_is)
    (case a28 => k_is)
    (case l28 => k_is)
    (case c28 => k_is)
    (case k28 => k_is)
    (case a29 => k_is)
    (case l29 => k_is)
    (case c29 => k_is)
    (case k29 => k_is)
    (case a30 => k_is)
    (case l30 => k_is)
    (case c30 => k_is)
    (case k30 => k_is)
    (case a31 => k_is)
    (case l31 => k_is)
    (case c31 => k_is)
    (case k31 => k_is)
    (case a32 => k_is)
    (case l32 => k_is)
    (case c32 => k_is)
    (case k32 => k_is)
    (case a33 => k_is)
    (case l33 => k_is)
    (case c33 => k_is)
    (case k33 => k_is)
    (case a34 => k_is)
    (case l34 => k_is)
    (case c34 => k_is)
    (case k34 => k_is)
    (case z_all => k_is)
    (case z_bool => k_is)
    (case z_int => k_is)
    (case z_isinstance => k_is)
    (case z_len => k_is)
    (case z_list => k_is)
    (case z_max => k_is)
    (case z_range => k_is)
    (case z_str => k_is)
    (case z_tuple => k_is)
    (case y_VALUES => k_is)
    (case r_VALUES => exact ⟨_, rfl⟩)
    (case yt_COUNTS => k_is)
    (case rt_COUNTS => 
      refine' L2.KTab.mk' ?lk ?c1 ?c2 ?c3 ?c4 ?sm ?rows ?nd
      (case lk => k_is)
      (case c1 => exact rfl)
      (case c2 => exact rfl)
      (case c3 => exact rfl)
      (case c4 => exact rfl)
      (case sm => exact rfl)
      (case nd => decide +kernel)
      (case rows =>
        refine' L2.KRows.cons ?hh0 ?lk0 ?cc0 ?dd0 ?vv0 ?zz0 ?rest0
        (case hh0 => exact rfl)
        (case lk0 => k_is)
        (case cc0 => exact rfl)
        (case dd0 => exact rfl)
        (case vv0 => exact .cons ⟨_, rfl⟩ (.cons ⟨_, rfl⟩ (.cons ⟨_, rfl⟩ .nil)))
        (case zz0 => decide)
        refine' L2.KRows.cons ?hh1 ?lk1 ?cc1 ?dd1 ?vv1 ?zz1 ?rest1
        (case hh1 => exact rfl)
        (case lk1 => k_is)
        (case cc1 => exact rfl)
        (case dd1 => exact rfl)
        (case vv1 => exact .cons ⟨_, rfl⟩ (.cons ⟨_, rfl⟩ (.cons ⟨_, rfl⟩ .nil)))
        (case zz1 => decide)
        refine' L2.KRows.cons ?hh2 ?lk2 ?cc2 ?dd2 ?vv2 ?zz2 ?rest2
        (case hh2 => exact rfl)
        (case lk2 => k_is)
        (case cc2 => exact rfl)
        (case dd2 => exact rfl)
        (case vv2 => exact .cons ⟨_, rfl⟩ (.cons ⟨_, rfl⟩ (.cons ⟨_, rfl⟩ .nil)))
        (case zz2 => decide)
        refine' L2.KRows.cons ?hh3 ?lk3 ?cc3 ?dd3 ?vv3 ?zz3 ?rest3
        (case hh3 => exact rfl)
        (case lk3 => k_is)
        (case cc3 => exact rfl)
        (case dd3 => exact rfl)
        (case vv3 => exact .cons ⟨_, rfl⟩ (.cons ⟨_, rfl⟩ (.cons ⟨_, rfl⟩ .nil)))
        (case zz3 => decide)
        refine' L2.KRows.cons ?hh4 ?lk4 ?cc4 ?dd4 ?vv4 ?zz4 ?rest4
        (case hh4 => exact rfl)
        (case lk4 => k_is)
        (case cc4 => exact rfl)
        (case dd4 => exact rfl)
        (case vv4 => exact .cons ⟨_, rfl⟩ (.cons ⟨_, rfl⟩ (.cons ⟨_, rfl⟩ .nil)))
        (case zz4 => decide)
        refine' L2.KRows.cons ?hh5 ?lk5 ?cc5 ?dd5 ?vv5 ?zz5 ?rest5
        (case hh5 => exact rfl)
        (case lk5 => k_is)
        (case cc5 => exact rfl)
        (case dd5 => exact rfl)
        (case vv5 => exact .cons ⟨_, rfl⟩ (.cons ⟨_, rfl⟩ (.cons ⟨_, rfl⟩ .nil)))
        (case zz5 => decide)
        refine' L2.KRows.cons ?hh6 ?lk6 ?cc6 ?dd6 ?vv6 ?zz6 ?rest6
        (case hh6 => exact rfl)
        (case lk6 => k_is)
        (case cc6 => exact rfl)
        (case dd6 => exact rfl)
        (case vv6 => exact .cons ⟨_, rfl⟩ (.cons ⟨_, rfl⟩ (.cons ⟨_, rfl⟩ .nil)))
        (case zz6 => decide)
        refine' L2.KRows.cons ?hh7 ?lk7 ?cc7 ?dd7 ?vv7 ?zz7 ?rest7
        (case hh7 => exact rfl)
        (case lk7 => k_is)
        (case cc7 => exact rfl)
        (case dd7 => exact rfl)
        (case vv7 => exact .cons ⟨_, rfl⟩ (.cons ⟨_, rfl⟩ (.cons ⟨_, rfl⟩ .nil)))
        (case zz7 => decide)
        refine' L2.KRows.cons ?hh8 ?lk8 ?cc8 ?dd8 ?vv8 ?zz8 ?rest8
        (case hh8 => exact rfl)
        (case lk8 => k_is)
        (case cc8 => exact rfl)
        (case dd8 => exact rfl)
        (case vv8 => exact .cons ⟨_, rfl⟩ (.cons ⟨_, rfl⟩ (.cons ⟨_, rfl⟩ .nil)))
        (case zz8 => decide)
        refine' L2.KRows.cons ?hh9 ?lk9 ?cc9 ?dd9 ?vv9 ?zz9 ?rest9
        (case hh9 => exact rfl)
        (case lk9 => k_is)
        (case cc9 => exact rfl)
        (case dd9 => exact rfl)
        (case vv9 => exact .cons ⟨_, rfl⟩ (.cons ⟨_, rfl⟩ (.cons ⟨_, rfl⟩ .nil)))
        (case zz9 => decide)
        refine' L2.KRows.cons ?hh10 ?lk10 ?cc10 ?dd10 ?vv10 ?zz10 ?rest10
        (case hh10 => exact rfl)
        (case lk10 => k_is)
        (case cc10 => exact rfl)
        (case dd10 => exact rfl)
        (case vv10 => exact .cons ⟨_, rfl⟩ (.cons ⟨_, rfl⟩ (.cons ⟨_, rfl⟩ .nil)))
        (case zz10 => decide)
        exact .nil))
    (case pb1 => kernel_rfl)
    (case pb2 => kernel_rfl)
    (case pb3 => kernel_rfl)
    (case ptab => kernel_rfl)
    (case ps_BadNumbers_NoKind => kernel_rfl)
    (case ps_BadLanes_NoKind => kernel_rfl)
    (case ps_BadLanes_BadNumbers => kernel_rfl)
    (case px_NoKind => kernel_rfl)
    (case pk_NoKind => kernel_rfl)
    (case pq_NoKind => kernel_rfl)
    (case pn_NoKind => kernel_rfl)
    (case px_BadNumbers => kernel_rfl)
    (case pk_BadNumbers => kernel_rfl)
    (case pq_BadNumbers => kernel_rfl)
    (case pn_BadNumbers => kernel_rfl)
    (case px_BadLanes => kernel_rfl)
    (case pk_BadLanes => kernel_rfl)
    (case pq_BadLanes => kernel_rfl)
    (case pn_BadLanes => kernel_rfl)

