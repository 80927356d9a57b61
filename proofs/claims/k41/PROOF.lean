import PyProof.Rows.All
import Wide.All
import OpenK.AllK
import Wide.FinOn
import Lean
import PyProof.EqAt
import PyProof.EqKinds
import PyProof.TupleCall
import PyProof.StrLawsChain
import PyProof.StrLawsOccR
import PyProof.StrLawsReplace
import PyProof.NeKinds
import PyProof.EnumStmt
import PyProof.EnumMake
import PyProof.ListRange
import PyProof.StationsW
import PyProof.ExcClass2
import PyProof.ExcInit
import PyProof.InstStoreFacts
import OpenK.KRaise
import PyProof.NsDelKeeps
import PyProof.RulesAs
import PyProof.Rows.Catch
import OpenK.KOwn
import PyProof.ExcArgsOwn
import PyProof.ExcAttrAll.ValueError
import PyProof.IsiBase
import PyProof.MaxThree
import PyProof.SeqI3
import KE.KIsAll
import KE.IntTextLaws
import PyProof.StrLawsIdx
import PyProof.FitsInt
import PySem.Challenge.RW_holdlane_k41_one_lane_between_doors
set_option Elab.async false
set_option linter.all false
set_option maxRecDepth 100000
/-! THE HAND LAYER, for ints, bools, texts, own classes, LISTS and tuples (index, slices, in, append, pop ..), calls, loops. Paste it whole ahead of your own text; what your proof does not reach may be deleted. -/
namespace L2
open PySem PySem.Spec PyProof.Rows
/-- a key: an int or a str -/
abbrev Key := Sum Int Str
def keyIs : Key → Value → Bool
  | .inl k, v => Value.isInt k v
  | .inr x, v => Value.isStrOf x v
def keyH (w : World) : Key → Int
  | .inl k => hashInt k
  | .inr x => hashStr w x
theorem keyIs_shape : ∀ {k : Key} {v : Value}, keyIs k v = true → (∃ i t, k = Sum.inl i ∧ v = Value.int i t) ∨ (∃ x t, k = Sum.inr x ∧ v = Value.str x t)
  | .inl i, v, h => by
    obtain ⟨t, e⟩ := Value.isInt_shape (k := i) (v := v) h
    exact .inl ⟨i, t, rfl, e⟩
  | .inr x, v, h => by
    obtain ⟨t, e⟩ := Value.isStrOf_shape (x := x) (v := v) h
    exact .inr ⟨x, t, rfl, e⟩
theorem keyIs_int (i : Int) (t : Tok) : keyIs (.inl i) (.int i t) = true := by simp [keyIs, Value.isInt]
theorem keyIs_str (x : Str) (t : Tok) : keyIs (.inr x) (.str x t) = true := by simp [keyIs, Value.isStrOf]
theorem key_ll (a b : Int) : decide ((Sum.inl a : Key) = Sum.inl b) = (a == b) := by
  by_cases e : a = b
  · subst e; simp
  · have h : ¬ (Sum.inl a : Key) = Sum.inl b := fun q => e (Sum.inl.inj q)
    rw [decide_eq_false h]
    exact (beq_eq_false_iff_ne.mpr e).symm
theorem key_rr (a b : Str) : decide ((Sum.inr a : Key) = Sum.inr b) = decide (a = b) := by
  by_cases e : a = b
  · subst e; simp
  · have h : ¬ (Sum.inr a : Key) = Sum.inr b := fun q => e (Sum.inr.inj q)
    rw [decide_eq_false h, decide_eq_false e]
theorem key_lr (a : Int) (b : Str) : decide ((Sum.inl a : Key) = Sum.inr b) = false := decide_eq_false (fun q => nomatch q)
theorem key_rl (a : Str) (b : Int) : decide ((Sum.inr a : Key) = Sum.inl b) = false := decide_eq_false (fun q => nomatch q)
def mixKind (prog : Program) (w : World) : PySem.KeyKind prog w Key where
  is := keyIs
  hash := keyH w
  inj := fun v a b ha hb => by
    rcases keyIs_shape ha with ⟨i, t, rfl, rfl⟩ | ⟨x, t, rfl, rfl⟩
    · rcases keyIs_shape hb with ⟨j, u, rfl, e⟩ | ⟨y, u, rfl, e⟩
      · injection e with e1 _; rw [e1]
      · exact nomatch e
    · rcases keyIs_shape hb with ⟨j, u, rfl, e⟩ | ⟨y, u, rfl, e⟩
      · exact nomatch e
      · injection e with e1 _; rw [e1]
  byValue := fun k v h => by
    rcases keyIs_shape h with ⟨i, t, rfl, rfl⟩ | ⟨x, t, rfl, rfl⟩ <;> rfl
  pyHash := fun hv h => by
    rcases keyIs_shape hv with ⟨i, t, rfl, rfl⟩ | ⟨x, t, rfl, rfl⟩
    · exact wpAny_pyHash_int h
    · exact wpAny_pyHash_str h
  eqBool := fun hu hv h => by
    rcases keyIs_shape hu with ⟨i, t, rfl, rfl⟩ | ⟨x, t, rfl, rfl⟩
    · rcases keyIs_shape hv with ⟨j, u, rfl, rfl⟩ | ⟨y, u, rfl, rfl⟩
      · rw [key_ll] at h; exact wpAny_eqBool_int h
      · rw [key_lr] at h; exact SeqAt.EqAt.int_str i t y u _ _ _ _ h
    · rcases keyIs_shape hv with ⟨j, u, rfl, rfl⟩ | ⟨y, u, rfl, rfl⟩
      · rw [key_rl] at h; exact SeqAt.EqAt.str_int x t j u _ _ _ _ h
      · rw [key_rr] at h; exact wpAny_eqBool_str h
  «strs» := fun k x t v h => by
    rcases keyIs_shape h with ⟨i, u, rfl, e⟩ | ⟨y, u, rfl, e⟩
    · exact nomatch e
    · injection e with e1 _
      subst e1
      cases v <;> rfl
theorem mixKind_int (prog : Program) (w : World) (i : Int) (t : Tok) : (mixKind prog w).is (.inl i) (.int i t) = true := keyIs_int i t
theorem mixKind_str (prog : Program) (w : World) (x : Str) (t : Tok) : (mixKind prog w).is (.inr x) (.str x t) = true := keyIs_str x t
end L2
namespace L2
open PySem PySem.Spec PyProof.Rows
/-- a value, without the heap -/
inductive V where
  | non | bl (b : Bool) | int (i : Int) | str (x : Str) | byt (b : Array UInt8) | flt (b : UInt64) | ref (a : Addr) | ty (n : String)
  deriving DecidableEq
def RelV : V → Value → Prop
  | .non, u => u = Value.none
  | .bl b, u => u = Value.bool b
  | .int i, u => ∃ t, u = Value.int i t
  | .str x, u => ∃ t, u = Value.str x t
  | .byt b, u => ∃ t, u = Value.bytes b t
  | .flt b, u => ∃ t, u = Value.float b t
  | .ref a, u => u = Value.ref a
  | .ty n, u => u = Value.type n
abbrev Vals : List V → List Value → Prop := Paired RelV
theorem Vals.length {xs : List V} {us : List Value} (r : Vals xs us) : xs.length = us.length := Paired.length r
theorem Vals.get : ∀ {xs : List V} {us : List Value} {i : Nat} {x : V}, Vals xs us → xs[i]? = some x → ∃ u, us[i]? = some u ∧ RelV x u
  | _, _, _, _, .nil, e => by simp at e
  | _, _, 0, _, .cons r _, e => by simp at e; subst e; exact ⟨_, rfl, r⟩
  | _, _, i + 1, x, .cons _ t, e => by
    obtain ⟨u, h1, h2⟩ := Vals.get (i := i) (x := x) t (by simpa using e)
    exact ⟨u, by simpa using h1, h2⟩
theorem Vals.append : ∀ {xs ys : List V} {us ws : List Value}, Vals xs us → Vals ys ws → Vals (xs ++ ys) (us ++ ws)
  | _, _, _, _, .nil, s => s
  | _, _, _, _, .cons r t, s => .cons r (Vals.append t s)
theorem Vals.take : ∀ {xs : List V} {us : List Value} (n : Nat), Vals xs us → Vals (xs.take n) (us.take n)
  | _, _, 0, _ => .nil
  | _, _, _ + 1, .nil => .nil
  | _, _, n + 1, .cons r t => .cons r (Vals.take n t)
theorem Vals.drop : ∀ {xs : List V} {us : List Value} (n : Nat), Vals xs us → Vals (xs.drop n) (us.drop n)
  | _, _, 0, r => r
  | _, _, _ + 1, .nil => .nil
  | _, _, n + 1, .cons _ t => Vals.drop n t
def RelO : Option V → Option Value → Prop
  | some v, some u => RelV v u
  | none, none => True
  | _, _ => False
def KV {κ : Type} : List (κ × V) → List (κ × Value) → Prop := Paired fun (p : κ × V) (q : κ × Value) => p.1 = q.1 ∧ RelV p.2 q.2
/-- a key of a dict (00_mix): an int or a text -/
def kV : Key → V
  | .inl i => .int i
  | .inr x => .str x
/-- what stands at a tracked address -/
inductive HO where
  /-- a list -/
  | lst (xs : List V)
  /-- a tuple (never changes) -/
  | tup (xs : List V)
  /-- a dict whose keys are ints and texts; one whose keys are tuples of ints and texts (the empty one is both) -/
  | dK (kvs : List (Key × V)) | dT (kvs : List (List Key × V))
  /-- a set of ints: its members, its size -/
  | set (S : Int → Bool) (n : Nat)
  /-- an instance of the class at C, its dict at dx, its attributes -/
  | ins (C dx : Addr) (fs : List (Str × V))
  /-- the dict of the instance at x -/
  | own (x : Addr)
  /-- the dict of an exception -/
  | xd (fs : List (Str × V))
  /-- a bound method, f of x -/
  | met (f x : Addr)
  /-- a range object lo, lo + 1, .. below hi -/
  | rng (lo hi : Int)
  /-- a thing that is known to the object (the script; a dict while a loop walks it): read, never written while it is so -/
  | frz (o : Obj) (u : HO)
  /-- a code object's table -/
  | tbl (ps : Array Value)
  /-- any other thing, by what is true of its one object (a def of one's own: SetO a S n := HO.ext fun h => ..) -/
  | ext (φ : Heap → Prop)
abbrev Hp := Addr → Option HO
def upd (H : Hp) (a : Addr) (o : HO) : Hp := fun b => if b = a then some o else H b
theorem upd_same {H : Hp} {a : Addr} {o : HO} : upd H a o a = some o := by unfold upd; rw [if_pos rfl]
theorem upd_ne {H : Hp} {a b : Addr} {o : HO} (h : b ≠ a) : upd H a o b = H b := by unfold upd; rw [if_neg h]
/-- two objects of different content stand apart -/
theorem ne_of {H : Hp} {a b : Addr} {o u : HO} (h : H a = some o) (h' : H b = some u) (d : o ≠ u) : a ≠ b := by
  intro e; subst e; rw [h] at h'; exact d (Option.some.inj h')
theorem ne_of_none {H : Hp} {a b : Addr} {o : HO} (h : H a = some o) (h' : H b = none) : a ≠ b := by
  intro e; subst e; rw [h] at h'; cases h'
section
variable (P : Program) (w : World)
def ObjOk (H : Hp) (h : Heap) (a : Addr) : HO → Prop
  | .lst xs => xs.length ≤ sizeLine ∧ ∃ (its : List Value) (n : Nat), Vals xs its ∧ h.get? a = some { cls := .type "list", data := .seq its.toArray n }
  | .tup xs => xs.length ≤ sizeLine ∧ ∃ its : List Value, Vals xs its ∧ IsTup h a its.toArray
  | .dK kvs => kvs.length ≤ sizeLine ∧ (a == sysModules) = false ∧ ∃ vs, KV kvs vs ∧ h.DictOf (mixKind P w) a vs
  | .dT kvs => kvs.length ≤ sizeLine ∧ (a == sysModules) = false ∧ ∃ xs : List (List Key × Addr × Value),
      Paired (fun (p : List Key × V) (q : List Key × Addr × Value) => p.1 = q.1 ∧ H q.2.1 = some (.tup (p.1.map kV)) ∧ RelV p.2 q.2.2) kvs xs ∧
      ∃ o es ep, h.get? a = some o ∧ o.ExactDict ∧ o.data = .dict es ep ∧ es.toList = xs.map (entryOfKey (tupleKind (mixKind P w))) ∧ (xs.map (·.1)).Nodup
  | .set S n => h.SetOf (intKind P w) a S n
  | .ins C dx fs => H dx = some (.own a) ∧ fs.length ≤ 1000 ∧ dx ≠ a ∧ h.get? a = some (PySem.W.instObj C dx) ∧
      ∃ mA, h.Ns1 dx mA ∧ (∀ f, RelO (fs.lookup f) (mA f)) ∧ PySem.Within mA (fs.map (·.1))
  | .own _ => ∃ o, h.get? a = some o
  | .xd fs => ∃ mA, h.Ns1 a mA ∧ ∀ f, RelO (fs.lookup f) (mA f)
  | .rng lo hi => ∃ t u v, h.get? a = some { cls := .type "range", data := .fields #[.int lo t, .int hi u, .int 1 v] }
  | .frz o u => h.get? a = some o ∧ ObjOk H h a u
  | .tbl ps => h.get? a = some { cls := .none, data := .fields ps }
  | .met f x => h.get? a = some (PySem.W.methodObj (.ref f) (.ref x))
  | .ext φ => φ h ∧ (∃ o, h.get? a = some o) ∧ ∀ h1 h2 : Heap, φ h1 → (∀ o, h1.get? a = some o → h2.get? a = some o) → φ h2
/-- the abstract heap is held -/
def HOk (H : Hp) (h : Heap) : Prop := ∀ a o, H a = some o → ObjOk P w H h a o
end
section
variable {P : Program} {w : World} {H H' : Hp} {h h' : Heap} {a : Addr} {o : HO}
theorem ObjOk.lt (x : ObjOk P w H h a o) : a < h.objs.size := by
  cases o with
  | lst xs => obtain ⟨_, _, _, _, e⟩ := x; exact Heap.lt_size e
  | tup xs => obtain ⟨_, _, _, p⟩ := x; exact p.lt
  | dK kvs => obtain ⟨_, _, _, _, o, _, _, e, _⟩ := x; exact Heap.lt_size e
  | dT kvs => obtain ⟨_, _, _, _, o, _, _, e, _⟩ := x; exact Heap.lt_size e
  | set S n => obtain ⟨o, _, _, _, e, _⟩ := x; exact Heap.lt_size e
  | ins C dx fs => obtain ⟨_, _, _, e, _⟩ := x; exact Heap.lt_size e
  | own y => obtain ⟨_, e⟩ := x; exact Heap.lt_size e
  | xd fs => obtain ⟨_, ⟨_, _, _, e, _⟩, _⟩ := x; exact Heap.lt_size e
  | rng lo hi => obtain ⟨_, _, _, e⟩ := x; exact Heap.lt_size e
  | frz ob u => obtain ⟨e, _⟩ := x; exact Heap.lt_size e
  | tbl ps => exact Heap.lt_size (show h.get? a = some _ from x)
  | met f y => exact Heap.lt_size (show h.get? a = some _ from x)
  | ext φ => obtain ⟨_, ⟨_, e⟩, _⟩ := x; exact Heap.lt_size e
theorem Paired.mapP {α β : Type} {F G : α → β → Prop} : ∀ {l₁ : List α} {l₂ : List β}, Paired F l₁ l₂ → (∀ a b, F a b → G a b) → Paired G l₁ l₂
  | _, _, .nil, _ => .nil
  | _, _, .cons r t, f => .cons (f _ _ r) (Paired.mapP t f)
/-- what an object's description leans on: its own object, its own dict, the tuples -/
theorem ObjOk.stay (x : ObjOk P w H h a o) (k : ∀ b u, (b = a ∨ H b = some (.own a)) → h.get? b = some u → h'.get? b = some u)
    (ho : ∀ b, H b = some (.own a) → H' b = some (.own a)) (ht : ∀ b xs, H b = some (.tup xs) → H' b = some (.tup xs)) : ObjOk P w H' h' a o := by
  induction o with
  | lst xs => obtain ⟨z, its, n, r, e⟩ := x; exact ⟨z, its, n, r, k _ _ (.inl rfl) e⟩
  | tup xs => obtain ⟨z, its, r, ob, e, c⟩ := x; exact ⟨z, its, r, ob, k _ _ (.inl rfl) e, c⟩
  | dK kvs => obtain ⟨z, y, vs, r, ob, es, ep, e, c⟩ := x; exact ⟨z, y, vs, r, ob, es, ep, k _ _ (.inl rfl) e, c⟩
  | dT kvs =>
    obtain ⟨z, y, xs, r, ob, es, ep, e, c⟩ := x
    exact ⟨z, y, xs, Paired.mapP r fun p q z => ⟨z.1, ht _ _ z.2.1, z.2.2⟩, ob, es, ep, k _ _ (.inl rfl) e, c⟩
  | set S n => obtain ⟨ob, es, ep, t, e, c⟩ := x; exact ⟨ob, es, ep, t, k _ _ (.inl rfl) e, c⟩
  | ins C dx fs =>
    obtain ⟨d, z, ne, e, mA, ⟨od, es, ep, e2, c⟩, r⟩ := x
    exact ⟨ho _ d, z, ne, k _ _ (.inl rfl) e, mA, ⟨od, es, ep, k _ _ (.inr d) e2, c⟩, r⟩
  | own y => obtain ⟨ob, e⟩ := x; exact ⟨ob, k _ _ (.inl rfl) e⟩
  | xd fs => obtain ⟨mA, ⟨od, es, ep, e, c⟩, r⟩ := x; exact ⟨mA, ⟨od, es, ep, k _ _ (.inl rfl) e, c⟩, r⟩
  | rng lo hi => obtain ⟨t, u, v, e⟩ := x; exact ⟨t, u, v, k _ _ (.inl rfl) e⟩
  | frz ob u ih => obtain ⟨e, q⟩ := x; exact ⟨k _ _ (.inl rfl) e, ih q⟩
  | tbl ps =>
    have e : h.get? a = some { cls := .none, data := .fields ps } := x
    show h'.get? a = some { cls := .none, data := .fields ps }
    exact k a _ (.inl rfl) e
  | met f y =>
    have e : h.get? a = some (PySem.W.methodObj (.ref f) (.ref y)) := x
    show h'.get? a = some (PySem.W.methodObj (.ref f) (.ref y))
    exact k a _ (.inl rfl) e
  | ext φ => obtain ⟨p, ⟨o, e⟩, st⟩ := x; exact ⟨st _ _ p fun o q => k _ _ (.inl rfl) q, ⟨o, k _ _ (.inl rfl) e⟩, st⟩
theorem HOk.lt (x : HOk P w H h) (e : H a = some o) : a < h.objs.size := (x a o e).lt
theorem HOk.fresh (x : HOk P w H h) (e : h.objs.size ≤ a) : H a = none := by
  cases q : H a with
  | none => rfl
  | some u => exact absurd (Nat.lt_of_lt_of_le (x.lt q) e) (Nat.lt_irrefl _)
/-- every object of the heap is kept -/
theorem HOk.kept (x : HOk P w H h) (k : ∀ b u, h.get? b = some u → h'.get? b = some u) : HOk P w H h' := fun a o e =>
  (x a o e).stay (fun b u _ q => k b u q) (fun _ q => q) fun _ _ q => q
/-- a new object is laid and tracked -/
theorem HOk.laid (x : HOk P w H h) (k : ∀ b u, h.get? b = some u → h'.get? b = some u) (hp : h.objs.size ≤ a) (new : ObjOk P w (upd H a o) h' a o) : HOk P w (upd H a o) h' := fun b u e => by
  have hn := x.fresh hp
  by_cases hb : b = a
  · subst hb; rw [upd_same] at e; cases e; exact new
  · rw [upd_ne hb] at e
    exact (x b u e).stay (fun c v _ q => k c v q) (fun c q => by rw [upd_ne (ne_of_none q hn)]; exact q) fun c xs q => by rw [upd_ne (ne_of_none q hn)]; exact q
end
/-- what may be read as u: it is u, or a known u -/
def Rd (H : Hp) (a : Addr) (u : HO) : Prop := H a = some u ∨ ∃ o, H a = some (.frz o u)
theorem Rd.ok {P : Program} {w : World} {H : Hp} {h : Heap} {a : Addr} {u : HO} (r : Rd H a u) (x : HOk P w H h) : ObjOk P w H h a u := by
  rcases r with r | ⟨o, r⟩
  · exact x a u r
  · obtain ⟨_, q⟩ := x a _ r
    exact q
/-- what may be written -/
def Mut : Option HO → Prop
  | some (.lst _) => True
  | some (.dK _) => True
  | some (.dT _) => True
  | some (.set _ _) => True
  | some (.ins _ _ _) => True
  | some (.ext _) => True
  | _ => False
section
variable {P : Program} {w : World} {H : Hp} {h h' : Heap} {x e : Addr} {o' : HO}
/-- the object at e is changed: x itself, or the dict of the instance x -/
theorem HOk.write (ok : HOk P w H h) (mu : Mut (H x)) (he : e = x ∨ H e = some (.own x)) (k : ∀ b u, b ≠ e → h.get? b = some u → h'.get? b = some u) (heo : ∃ u, h'.get? e = some u)
    (new : ObjOk P w (upd H x o') h' x o') : HOk P w (upd H x o') h' := fun b u q => by
  have nown : ∀ c y, H c = some (.own y) → c ≠ x := fun c y r z => by subst z; rw [r] at mu; exact mu
  have ntup : ∀ c xs, H c = some (.tup xs) → c ≠ x := fun c xs r z => by subst z; rw [r] at mu; exact mu
  by_cases hb : b = x
  · subst hb; rw [upd_same] at q; cases q; exact new
  · rw [upd_ne hb] at q
    by_cases hbe : b = e
    · have q' : H b = some (.own x) := by
        rcases he with z | z
        · exact absurd (hbe.trans z) hb
        · rw [hbe]; exact z
      rw [q] at q'; cases q'
      obtain ⟨v, hv⟩ := heo
      exact ⟨v, by rw [hbe]; exact hv⟩
    · refine (ok b u q).stay (fun c v hc r => k c v ?_ r) (fun c r => by rw [upd_ne (nown c b r)]; exact r) fun c xs r => by rw [upd_ne (ntup c xs r)]; exact r
      rcases hc with rfl | hc
      · exact hbe
      · rintro rfl
        rcases he with z | z
        · exact nown c b hc z
        · rw [hc] at z; cases z; exact hb rfl
end
/-! ### kept unless tracked; of the frames at fs (the callers') the slots may change (an exception that passes writes there); of the records at ex (iterators) nothing is said -/
structure Un (fs ex : List Addr) (H H' : Hp) (h h' : Heap) : Prop where
  keep : ∀ b o, h.get? b = some o → H b = none → b ∉ fs → b ∉ ex → h'.get? b = some o
  slot : ∀ b o, h.get? b = some o → H b = none → b ∈ fs → b ∉ ex → ∃ sl, h'.get? b = some { o with slots := sl }
  free : ∀ b o, h.get? b = some o → H b = none → b ∉ ex → H' b = none
  there : ∀ b o, h.get? b = some o → b ∉ ex → ∃ o', h'.get? b = some o'
  tups : ∀ b xs, H b = some (.tup xs) → H' b = some (.tup xs)
  frzs : ∀ b o u, H b = some (.frz o u) → H' b = some (.frz o u)
  tbls : ∀ b ps, H b = some (.tbl ps) → ∃ more, H' b = some (.tbl (ps ++ more))
section
variable {fs fs' ex ex' : List Addr} {H H1 H2 : Hp} {h h1 h2 h' : Heap} {a x e : Addr} {o : HO}
theorem Un.any (u : Un fs ex H H1 h h1) {b : Addr} {ob : Obj} (q : h.get? b = some ob) (n : H b = none) (hx : b ∉ ex) : ∃ sl, h1.get? b = some { ob with slots := sl } := by
  by_cases hb : b ∈ fs
  · exact u.slot b ob q n hb hx
  · exact ⟨ob.slots, u.keep b ob q n hb hx⟩
theorem Un.kept (k : ∀ b u, h.get? b = some u → h'.get? b = some u) : Un fs ex H H h h' :=
  ⟨fun b ob q _ _ _ => k b ob q, fun b ob q _ _ _ => ⟨ob.slots, k b ob q⟩, fun _ _ _ n _ => n, fun b ob q _ => ⟨ob, k b ob q⟩, fun _ _ q => q, fun _ _ _ q => q, fun _ ps q => ⟨#[], by rw [q]; simp⟩⟩
theorem Un.refl : Un fs ex H H h h := Un.kept fun _ _ q => q
theorem Un.laid (k : ∀ b u, h.get? b = some u → h'.get? b = some u) (hp : h.objs.size ≤ a) (hn : H a = none) : Un fs ex H (upd H a o) h h' where
  keep := fun b u q _ _ _ => k b u q
  slot := fun b u q _ _ _ => ⟨u.slots, k b u q⟩
  free := fun b u q n _ => by rw [upd_ne (Nat.ne_of_lt (Nat.lt_of_lt_of_le (Heap.lt_size q) hp))]; exact n
  there := fun b u q _ => ⟨u, k b u q⟩
  tups := fun b xs q => by rw [upd_ne (ne_of_none q hn)]; exact q
  frzs := fun b u xs q => by rw [upd_ne (ne_of_none q hn)]; exact q
  tbls := fun b ps q => ⟨#[], by rw [upd_ne (ne_of_none q hn), q]; simp⟩
theorem Un.write (mu : Mut (H x)) (he : e = x ∨ H e = some (.own x)) (k : ∀ b u, b ≠ e → h.get? b = some u → h'.get? b = some u) (heo : ∃ u, h'.get? e = some u) : Un fs ex H (upd H x o) h h' := by
  have hx : ∀ b, H b = none → b ≠ x := fun b n z => by subst z; rw [n] at mu; exact mu
  have hb : ∀ b, H b = none → b ≠ e := fun b n z => by
    subst z
    rcases he with r | r
    · exact hx b n r
    · rw [n] at r; cases r
  have hm : ∀ b u, H b = some u → ¬ Mut (some u) → b ≠ x := fun b u q nm z => by subst z; rw [q] at mu; exact nm mu
  refine ⟨fun b u q n _ _ => k b u (hb b n) q, fun b u q n _ _ => ⟨u.slots, k b u (hb b n) q⟩, fun b u q n _ => by rw [upd_ne (hx b n)]; exact n, fun b u q _ => ?_,
    fun b xs q => by rw [upd_ne (hm b _ q fun z => z)]; exact q, fun b u xs q => by rw [upd_ne (hm b _ q fun z => z)]; exact q, fun b ps q => ⟨#[], by rw [upd_ne (hm b _ q fun z => z), q]; simp⟩⟩
  by_cases hbe : b = e
  · subst hbe; exact heo
  · exact ⟨u, k b u hbe q⟩
end
/-! ### the heap without what is tracked -/
def trk (h : Heap) (H : Hp) : List Addr := (List.range h.objs.size).filter fun a => (H a).isSome
def hidT (h : Heap) (H : Hp) : Heap := PySem.W.hideAll h (trk h H)
theorem hidT_size (h : Heap) (H : Hp) : (hidT h H).objs.size = h.objs.size := PySem.W.hideAll_size _ _
theorem hidT_get {h : Heap} {H : Hp} {b : Addr} {o : Obj} (e : h.get? b = some o) (n : H b = none) : (hidT h H).get? b = some o :=
  PySem.W.hideAll_get _ e fun hm => by
    have q : (H b).isSome = true := (List.mem_filter.mp hm).2
    rw [n] at q; simp at q
theorem of_hidT {h : Heap} {H : Hp} {b : Addr} {o : Obj} (e : (hidT h H).get? b = some o) : h.get? b = some o ∧ H b = none := by
  have e' : h.get? b = some o := PySem.W.of_hideAll (trk h H) e
  refine ⟨e', ?_⟩
  cases q : H b with
  | none => rfl
  | some x =>
    have hm : b ∈ trk h H := List.mem_filter.mpr ⟨List.mem_range.mpr (Heap.lt_size e'), by simp [q]⟩
    have z : (hidT h H).get? b = none := PySem.W.hideAll_none (trk h H) hm
    rw [z] at e; cases e
/-! ### OpenK's ledger, filled with every new object but one -/
def allNews (g h : Heap) (L : Addr) : List (Addr × Obj) := (List.range h.objs.size).filterMap fun a => if a = L ∨ (g.get? a).isSome = true then none else (h.get? a).map fun o => (a, o)
def rest (g h : Heap) (L d : Addr) : List (Addr × Obj) := (allNews g h L).filter fun p => decide (p.1 ≠ d)
end L2
namespace L2
open PySem PySem.Spec PyProof.Rows
/-- the module's facts, over the base: the heap at the law's entry without what is tracked there -/
structure Mod (K : PySem.W.Frag) (mg : Str → Option Value) (base : Heap) : Prop where
  kin : K.In base
  glob : base.Ns mainGlobals mg
  blt : ∃ mb, base.Ns builtinsNs mb ∧ ∀ x : Str, x ≠ "__name__" → mb x = bootBuiltins x
  nolimit : base.NoLimit
/-- the context: a def's body (or a comprehension's block) running. base: fixed through the whole law; s₀, H₀: the entry; outer: the frames whose slots others may change (a def's callers); stack: all frames that run;
   ex: iterators that were made ahead of the entry and are walked here (a comprehension's); fn: the names whose cells were made at the entry (a def: all; a comprehension's block: its own); calm: not within an except suite; pn: pins that every state bears; xe: what is wanted of an exception that leaves the code -/
structure Cx where
  prog : Program
  w : World
  K : PySem.W.Frag
  mg : Str → Option Value
  base : Heap
  A : Around
  N : List Str
  s₀ : Shared
  H₀ : Hp
  env : Env
  outer : List Env
  stack : List Env
  ex : List Addr
  fn : Str → Bool
  calm : Bool
  pn : List (Addr × Obj)
  xe : Value → Shared → Prop
/-- the callers' frames -/
def frs (l : List Env) : List Addr := l.filterMap (·.frame)
abbrev Cx.fs (X : Cx) : List Addr := frs X.outer
def Vis (sc : Scope) (x : Str) : Prop := sc.names.lookup x = some .local ∨ sc.names.lookup x = some .cell ∨ sc.names.lookup x = some .free
def Loc (sc : Scope) (x : Str) : Prop := sc.names.lookup x = some .local ∨ sc.names.lookup x = some .cell
def Look (env : Env) (h : Heap) (m : Str → Option Value) (x : Str) (u : Value) : Prop :=
  (env.kindOf x = some .local ∧ m x = some u) ∨ ((env.kindOf x = some .cell ∨ env.kindOf x = some .free) ∧ ∃ c, env.cells.lookup x = some c ∧ h.IsCell c (some u))
structure Cx.Ok (X : Cx) : Prop where
  mod : Mod X.K X.mg X.base
  kind : X.env.scope.kind = .function
  glob : X.env.globals = mainGlobals
  blt : X.env.builtins = builtinsNs
  above : X.s₀.heap.objs.size ≤ X.env.locals
  inj : ∀ x y c, X.env.cells.lookup x = some c → X.env.cells.lookup y = some c → x = y
  has : ∀ x, (X.env.kindOf x = some .cell ∨ X.env.kindOf x = some .free) → ∃ c, X.env.cells.lookup x = some c
  cab : ∀ x c, X.fn x = true → X.env.cells.lookup x = some c → X.s₀.heap.objs.size ≤ c
  hd : X.calm = true → X.A.handled = none
  frames : X.A.frames = some X.stack
  stk : X.stack = X.outer ∨ (X.stack = X.env :: X.outer ∧ X.env.frame = some X.env.locals)
  exf : ∀ b ∈ X.ex, b ≠ X.env.locals ∧ ∀ x c, X.env.cells.lookup x = some c → c ≠ b
  bs : ∀ b o, X.base.get? b = some o → X.s₀.heap.get? b = some o ∧ X.H₀ b = none
  bsz : X.base.objs.size ≤ X.s₀.heap.objs.size
  noex : ∀ b o, X.base.get? b = some o → b ∉ X.ex
  exfs : ∀ b ∈ X.ex, b ∉ X.fs
  funs : X.s₀.heap.FunFrames X.base X.outer
  frf : ∀ b ∈ X.fs, X.H₀ b = none
structure Inv (X : Cx) (pins : List (Addr × Obj)) (σ : List (Option V)) (H : Hp) (s : Shared) : Prop where
  ok : X.Ok
  os : s.os = X.s₀.os
  bare : AllBare s.gens
  base : Un X.fs X.ex X.H₀ H X.s₀.heap s.heap
  loc : ∃ m, s.heap.Ns X.env.locals m ∧ ∀ (i : Nat) (x : Str) (v : V), X.N[i]? = some x → σ[i]? = some (some v) → Vis X.env.scope x → ∃ u, RelV v u ∧ Look X.env s.heap m x u
  cell : ∀ x c, X.env.cells.lookup x = some c → ∃ v, s.heap.IsCell c v
  free : H X.env.locals = none
  freeC : ∀ x c, X.env.cells.lookup x = some c → H c = none
  pin : ∀ p ∈ X.pn ++ pins, s.heap.get? p.1 = some p.2 ∧ H p.1 = none ∧ p.1 ≠ X.env.locals ∧ p.1 ∉ X.fs ∧ ∀ v, p.2.data ≠ .cell v
  hok : HOk X.prog X.w H s.heap
  len : σ.length = X.N.length
section
variable {X : Cx} {pins : List (Addr × Obj)} {σ : List (Option V)} {H H' : Hp} {s : Shared} {h' : Heap}
theorem Cx.Ok.nofr (ok : X.Ok) {b : Addr} {o : Obj} (e : X.base.get? b = some o) : b ∉ X.fs := fun hb => by
  have := (ok.funs.mem hb).1
  rw [e] at this; cases this
theorem Inv.bs (I : Inv X pins σ H s) : ∀ b o, X.base.get? b = some o → s.heap.get? b = some o ∧ H b = none := fun b o e =>
  ⟨I.base.keep b o (I.ok.bs b o e).1 (I.ok.bs b o e).2 (I.ok.nofr e) (I.ok.noex b o e), I.base.free b o (I.ok.bs b o e).1 (I.ok.bs b o e).2 (I.ok.noex b o e)⟩
theorem Inv.bk (I : Inv X pins σ H s) : ∀ b o, X.base.get? b = some o → s.heap.get? b = some o := fun b o e => (I.bs b o e).1
theorem Inv.mod (I : Inv X pins σ H s) : Mod X.K X.mg X.base := I.ok.mod
theorem Inv.kIn (I : Inv X pins σ H s) : X.K.In s.heap := I.ok.mod.kin.keeps I.bk
theorem Inv.lt (I : Inv X pins σ H s) : X.env.locals < s.heap.objs.size := let ⟨_, hn, _⟩ := I.loc; hn.lt
theorem Inv.sz (I : Inv X pins σ H s) : X.s₀.heap.objs.size ≤ s.heap.objs.size := Nat.le_trans I.ok.above (Nat.le_of_lt I.lt)
theorem Inv.nofs (I : Inv X pins σ H s) {a : Addr} (h : s.heap.objs.size ≤ a) : a ∉ X.fs := fun hb => by
  obtain ⟨_, o, ho, _⟩ := I.ok.funs.mem hb
  exact absurd (Nat.lt_of_lt_of_le (Heap.lt_size ho) (Nat.le_trans I.sz h)) (Nat.lt_irrefl _)
theorem Inv.cne (I : Inv X pins σ H s) : ∀ x c, X.env.cells.lookup x = some c → c ≠ X.env.locals := fun x c e z => by
  obtain ⟨v, o, ho, hd⟩ := I.cell x c e
  obtain ⟨m, ⟨o', es, ep, ho', hd', _⟩, _⟩ := I.loc
  rw [z, ho'] at ho; cases ho; rw [hd'] at hd; cases hd
theorem Inv.funs (I : Inv X pins σ H s) : s.heap.FunFrames X.base X.outer := by
  have all : ∀ (l : List Env), (∀ b ∈ frs l, b ∈ X.fs) → X.s₀.heap.FunFrames X.base l → s.heap.FunFrames X.base l := by
    intro l
    induction l with
    | nil => intro _ _; trivial
    | cons env r ih =>
      intro hs hl
      obtain ⟨hk, ⟨L, o, hf, hn, ho, hd⟩, hr⟩ := hl
      have hL : L ∈ X.fs := hs L (by unfold frs; rw [List.filterMap_cons, hf]; exact List.mem_cons_self)
      obtain ⟨sl, e⟩ := I.base.slot L o ho (I.ok.frf L hL) hL fun z => I.ok.exfs L z hL
      exact ⟨hk, ⟨L, _, hf, hn, e, hd⟩, ih (fun b hb => hs b (by unfold frs; rw [List.filterMap_cons, hf]; exact List.mem_cons_of_mem _ hb)) hr⟩
  exact all X.outer (fun _ hb => hb) I.ok.funs
/-- the frames that run, for a call -/
theorem Inv.stack (I : Inv X pins σ H s) : s.heap.FunFrames X.base X.stack := by
  rcases I.ok.stk with e | ⟨e, hf⟩
  · rw [e]; exact I.funs
  · rw [e]
    obtain ⟨m, hn, _⟩ := I.loc
    refine .cons (by rw [I.ok.kind]; decide) hf hn ?_ I.funs
    exact Heap.get?_none_of_le (Nat.le_trans I.ok.bsz I.ok.above)
theorem Inv.stkSub (I : Inv X pins σ H s) : ∀ b ∈ frs X.stack, b ∈ X.env.locals :: X.fs := fun b hb => by
  rcases I.ok.stk with e | ⟨e, hf⟩
  · rw [e] at hb; exact List.mem_cons_of_mem _ hb
  · rw [e] at hb
    unfold frs at hb
    rw [List.filterMap_cons, hf] at hb
    exact hb
theorem Inv.stkFree (I : Inv X pins σ H s) : ∀ b ∈ frs X.stack, H b = none := fun b hb => by
  rcases List.mem_cons.mp (I.stkSub b hb) with e | hb
  · rw [e]; exact I.free
  · obtain ⟨_, o, ho, _⟩ := I.ok.funs.mem hb
    exact I.base.free b o ho (I.ok.frf b hb) fun z => I.ok.exfs b z hb
/-- THE STEP: the untracked objects but the frame and the records at ch are kept (the callers' frames up to slots), the frame's map is kept, the new abstract heap is held -/
theorem Inv.step {g' : Array GenState} {t' : Nat} {d' : Drawn} {ch : List Addr} (I : Inv X pins σ H s)
    (hch : ∀ b ∈ ch, (b ∈ X.ex ∨ X.s₀.heap.objs.size ≤ b) ∧ b ≠ X.env.locals ∧ (∀ x c, X.env.cells.lookup x = some c → c ≠ b) ∧ ∀ p ∈ X.pn ++ pins, p.1 ≠ b)
    (keep : ∀ b o, b ≠ X.env.locals → b ∉ X.fs → b ∉ ch → s.heap.get? b = some o → H b = none → h'.get? b = some o)
    (slot : ∀ b o, b ≠ X.env.locals → b ∈ X.fs → b ∉ ch → s.heap.get? b = some o → H b = none → ∃ sl, h'.get? b = some { o with slots := sl }) (free : ∀ b o, b ∉ ch → s.heap.get? b = some o → H b = none → H' b = none)
    (there : ∀ b o, b ∉ ch → s.heap.get? b = some o → ∃ o', h'.get? b = some o')
    (tups : ∀ b xs, H b = some (.tup xs) → H' b = some (.tup xs)) (frzs : ∀ b o u, H b = some (.frz o u) → H' b = some (.frz o u)) (tbls : ∀ b ps, H b = some (.tbl ps) → ∃ more, H' b = some (.tbl (ps ++ more)))
    (ns : ∀ m, s.heap.Ns X.env.locals m → h'.Ns X.env.locals m) (hok : HOk X.prog X.w H' h') (hg : AllBare g') :
    Inv X pins σ H' { s with heap := h', gens := g', drawn := d', toks := t' } := by
  have neL : ∀ b o, X.s₀.heap.get? b = some o → b ≠ X.env.locals := fun b o e => Nat.ne_of_lt (Nat.lt_of_lt_of_le (Heap.lt_size e) I.ok.above)
  have neC : ∀ b o, X.s₀.heap.get? b = some o → b ∉ X.ex → b ∉ ch := fun b o e hx hb => by
    rcases (hch b hb).1 with z | z
    · exact hx z
    · exact absurd (Nat.lt_of_lt_of_le (Heap.lt_size e) z) (Nat.lt_irrefl _)
  have cellK : ∀ x c, X.env.cells.lookup x = some c → ∀ v, s.heap.IsCell c v → h'.IsCell c v := fun x c e v ⟨o, ho, hd⟩ => by
    have nch : c ∉ ch := fun z => (hch c z).2.2.1 x c e rfl
    by_cases hc : c ∈ X.fs
    · obtain ⟨sl, q⟩ := slot c o (I.cne x c e) hc nch ho (I.freeC x c e)
      exact ⟨_, q, hd⟩
    · exact ⟨o, keep c o (I.cne x c e) hc nch ho (I.freeC x c e), hd⟩
  refine ⟨I.ok, I.os, hg, ⟨fun b o e n hb hx => ?_, fun b o e n hb hx => ?_, fun b o e n hx => ?_, fun b o e hx => ?_, fun b xs e => tups b xs (I.base.tups b xs e), fun b o xs e => frzs b o xs (I.base.frzs b o xs e), fun b ps e => ?_⟩, ?_, fun x c e => ?_, ?_, fun x c e => ?_, fun p hp => ?_, hok, I.len⟩
  · exact keep b o (neL b o e) hb (neC b o e hx) (I.base.keep b o e n hb hx) (I.base.free b o e n hx)
  · obtain ⟨sl, e1⟩ := I.base.slot b o e n hb hx
    obtain ⟨sl', e2⟩ := slot b _ (neL b o e) hb (neC b o e hx) e1 (I.base.free b o e n hx)
    exact ⟨sl', e2⟩
  · obtain ⟨o', e1⟩ := I.base.there b o e hx
    exact free b o' (neC b o e hx) e1 (I.base.free b o e n hx)
  · obtain ⟨o', e1⟩ := I.base.there b o e hx
    exact there b o' (neC b o e hx) e1
  · obtain ⟨m1, e1⟩ := I.base.tbls b ps e
    obtain ⟨m2, e2⟩ := tbls b _ e1
    exact ⟨m1 ++ m2, by rw [e2, Array.append_assoc]⟩
  · obtain ⟨m, hn, hl⟩ := I.loc
    refine ⟨m, ns m hn, fun i x v e1 e2 e3 => ?_⟩
    obtain ⟨u, r, l⟩ := hl i x v e1 e2 e3
    refine ⟨u, r, ?_⟩
    rcases l with l | ⟨k, c, e, z⟩
    · exact .inl l
    · exact .inr ⟨k, c, e, cellK x c e _ z⟩
  · obtain ⟨v, z⟩ := I.cell x c e
    exact ⟨v, cellK x c e v z⟩
  · obtain ⟨m, ⟨o, _, _, ho, _⟩, _⟩ := I.loc
    exact free _ o (fun z => (hch _ z).2.1 rfl) ho I.free
  · obtain ⟨v, o, ho, hd⟩ := I.cell x c e
    exact free c o (fun z => (hch c z).2.2.1 x c e rfl) ho (I.freeC x c e)
  · obtain ⟨e, n, ne, nf, d⟩ := I.pin p hp
    have nch : p.1 ∉ ch := fun z => (hch p.1 z).2.2.2 p hp rfl
    exact ⟨keep p.1 p.2 ne nf nch e n, free p.1 p.2 nch e n, ne, nf, d⟩
/-- .. where the frame's own object is kept too -/
theorem Inv.un {t' : Nat} (I : Inv X pins σ H s) (u : Un X.fs [] H H' s.heap h') (hok : HOk X.prog X.w H' h') : Inv X pins σ H' { s with heap := h', toks := t' } := by
  obtain ⟨m, ⟨o, es, ep, ho, r⟩, _⟩ := id I.loc
  obtain ⟨sl, hL⟩ := u.any ho I.free (by simp)
  exact I.step (g' := s.gens) (d' := s.drawn) (ch := []) (fun _ z => nomatch z) (fun b o _ hb _ e n => u.keep b o e n hb (by simp)) (fun b o _ hb _ e n => u.slot b o e n hb (by simp)) (fun b o _ e n => u.free b o e n (by simp)) (fun b o _ e => u.there b o e (by simp)) u.tups u.frzs u.tbls (fun m' hm => by
    obtain ⟨o', es', ep', ho', r'⟩ := hm
    rw [ho] at ho'; cases ho'
    exact ⟨_, es', ep', hL, r'⟩) hok I.bare
/-- behind a call (or a comprehension's block): the slots of this frame may have changed too, the records at ch may have turned -/
theorem Inv.call {g' : Array GenState} {t' : Nat} {d' : Drawn} {ch : List Addr} (I : Inv X pins σ H s) (u : Un (frs X.stack) ch H H' s.heap h') (hok : HOk X.prog X.w H' h') (hg : AllBare g')
    (hch : ∀ b ∈ ch, (b ∈ X.ex ∨ X.s₀.heap.objs.size ≤ b) ∧ b ≠ X.env.locals ∧ (∀ x c, X.env.cells.lookup x = some c → c ≠ b) ∧ ∀ p ∈ X.pn ++ pins, p.1 ≠ b) :
    Inv X pins σ H' { s with heap := h', gens := g', drawn := d', toks := t' } := by
  obtain ⟨m, ⟨o, es, ep, ho, r⟩, _⟩ := id I.loc
  obtain ⟨sl, hL⟩ := u.any ho I.free fun z => (hch _ z).2.1 rfl
  exact I.step (ch := ch) hch (fun b o hL hb hc e n => u.keep b o e n (fun z => (List.mem_cons.mp (I.stkSub b z)).elim hL hb) hc) (fun b o _ _ hc e n => u.any e n hc) (fun b o hc e n => u.free b o e n hc) (fun b o hc e => u.there b o e hc) u.tups u.frzs u.tbls (fun m' hm => by
    obtain ⟨o', es', ep', ho', r'⟩ := hm
    rw [ho] at ho'; cases ho'
    exact ⟨_, es', ep', hL, r'⟩) hok hg
/-- an untracked record of ours (an iterator) has turned -/
theorem Inv.turned {t' : Nat} {it : Addr} (I : Inv X pins σ H s) (k : ∀ b o, b ≠ it → s.heap.get? b = some o → h'.get? b = some o) (hn : H it = none) (hL : it ≠ X.env.locals)
    (h1 : it ∈ X.ex ∨ X.s₀.heap.objs.size ≤ it) (h2 : ∀ x c, X.env.cells.lookup x = some c → c ≠ it) (h3 : ∀ p ∈ X.pn ++ pins, p.1 ≠ it) : Inv X pins σ H { s with heap := h', toks := t' } := by
  have nit : ∀ b u, H b = some u → b ≠ it := fun b u e z => by rw [z, hn] at e; cases e
  refine I.step (g' := s.gens) (d' := s.drawn) (ch := [it]) (fun b hb => ?_) (fun b o _ _ hc e _ => k b o (fun z => hc (by simp [z])) e) (fun b o _ _ hc e _ => ⟨o.slots, k b o (fun z => hc (by simp [z])) e⟩) (fun _ _ _ _ n => n)
    (fun b o hc e => ⟨o, k b o (fun z => hc (by simp [z])) e⟩) (fun _ _ e => e) (fun _ _ _ e => e) (fun b ps e => ⟨#[], by rw [e]; simp⟩) (fun m hm => ?_) (fun b u e => ?_) I.bare
  · have e : b = it := by simpa using hb
    subst e
    exact ⟨h1, hL, h2, h3⟩
  · obtain ⟨o, es, ep, ho, r⟩ := hm
    exact ⟨o, es, ep, k _ o (Ne.symm hL) ho, r⟩
  · refine (I.hok b u e).stay (fun c v hc q => k c v ?_ q) (fun _ q => q) fun _ _ q => q
    rcases hc with z | z
    · rw [z]; exact nit b u e
    · exact nit c _ z
theorem Inv.tok (I : Inv X pins σ H s) (t : Nat) : Inv X pins σ H { s with toks := t } := I.un (h' := s.heap) (t' := t) Un.refl I.hok
/-- all objects kept -/
theorem Inv.kept {t' : Nat} (I : Inv X pins σ H s) (k : ∀ b u, s.heap.get? b = some u → h'.get? b = some u) : Inv X pins σ H { s with heap := h', toks := t' } := I.un (Un.kept k) (I.hok.kept k)
/-- a new object laid and tracked -/
theorem Inv.laid {a : Addr} {o : HO} {t' : Nat} (I : Inv X pins σ H s) (k : ∀ b u, s.heap.get? b = some u → h'.get? b = some u) (hp : s.heap.objs.size ≤ a) (new : ObjOk X.prog X.w (upd H a o) h' a o) :
    Inv X pins σ (upd H a o) { s with heap := h', toks := t' } := I.un (Un.laid k hp (I.hok.fresh hp)) (I.hok.laid k hp new)
/-- an object written -/
theorem Inv.write {x e : Addr} {o : HO} {t' : Nat} (I : Inv X pins σ H s) (mu : Mut (H x)) (he : e = x ∨ H e = some (.own x)) (k : ∀ b u, b ≠ e → s.heap.get? b = some u → h'.get? b = some u) (heo : ∃ u, h'.get? e = some u)
    (new : ObjOk X.prog X.w (upd H x o) h' x o) : Inv X pins σ (upd H x o) { s with heap := h', toks := t' } := I.un (Un.write mu he k heo) (I.hok.write mu he k heo new)
/-- forgetting slots, pins -/
theorem Inv.weak {σ' : List (Option V)} (I : Inv X pins σ H s) (hl : σ'.length = σ.length) (w : ∀ (i : Nat) v, σ'[i]? = some (some v) → σ[i]? = some (some v)) : Inv X pins σ' H s :=
  ⟨I.ok, I.os, I.bare, I.base, let ⟨m, hn, hl'⟩ := I.loc; ⟨m, hn, fun i x v e1 e2 e3 => hl' i x v e1 (w i v e2) e3⟩, I.cell, I.free, I.freeC, I.pin, I.hok, hl.trans I.len⟩
theorem Inv.pins_of {pins' : List (Addr × Obj)} (I : Inv X pins σ H s) (h : ∀ p ∈ pins', s.heap.get? p.1 = some p.2 ∧ H p.1 = none ∧ p.1 ≠ X.env.locals ∧ p.1 ∉ X.fs ∧ ∀ v, p.2.data ≠ .cell v) : Inv X pins' σ H s :=
  ⟨I.ok, I.os, I.bare, I.base, I.loc, I.cell, I.free, I.freeC, fun p hp => (List.mem_append.mp hp).elim (fun z => I.pin p (List.mem_append_left _ z)) (h p), I.hok, I.len⟩
theorem nodup_ix {N : List Str} (hN : N.Nodup) {i j : Nat} {x : Str} (a : N[i]? = some x) (b : N[j]? = some x) : i = j := by
  obtain ⟨h1, e1⟩ := List.getElem?_eq_some_iff.mp a
  obtain ⟨h2, e2⟩ := List.getElem?_eq_some_iff.mp b
  exact (List.getElem_inj hN).mp (e1.trans e2.symm)
/-- a name is stored; what changed -/
theorem store_ok2 {M : Model} {A : Around} {E : Value → Shared → Prop} {i : Nat} {x : Str} {v : V} {u : Value} {Q : Unit → Shared → Prop} (I : Inv X pins σ H s) (hN : X.N.Nodup) (hi : X.N[i]? = some x) (hx : Loc X.env.scope x) (r : RelV v u)
    (h : ∀ s', Inv X pins (σ.set i (some v)) H s' → (∃ a, Heap.SameBut a s.heap s'.heap ∧ (a = X.env.locals ∨ X.env.cells.lookup x = some a)) → Q () s') (hf : X.fn x = true ∨ X.env.scope.names.lookup x = some .local := by first | exact .inl rfl | exact .inr rfl | assumption) : wpAny M A (storeName X.env x u) Q E s := by
  obtain ⟨m, hn, hl⟩ := id I.loc
  have hcls : (X.env.scope.kind == .class || (X.env.scope.kind == .module && X.env.locals != X.env.globals)) = false := by rw [I.ok.kind]; rfl
  have hiσ : i < σ.length := by rw [I.len]; exact (List.getElem?_eq_some_iff.mp hi).1
  have cne := I.cne
  have tracked : ∀ {a : Addr} {h' : Heap}, (∃ o, s.heap.get? a = some o ∧ H a = none) → Heap.SameBut a s.heap h' → HOk X.prog X.w H h' := fun {a h'} ha hs b ob e => by
    obtain ⟨_, _, hfree⟩ := ha
    refine (I.hok b ob e).stay (fun c w' hc q => (hs.2 c ?_).trans q) (fun _ q => q) fun _ _ q => q
    rintro rfl
    rcases hc with rfl | hc
    · rw [hfree] at e; cases e
    · rw [hfree] at hc; cases hc
  rcases hx with hk | hk
  · refine wpAny_storeName_local hk hn (fun h' hn' hs => ?_) hcls
    obtain ⟨oL, _, _, hoL, _⟩ := id hn
    refine h _ ⟨I.ok, I.os, I.bare, ⟨fun b o e n hb hx => ?_, fun b o e n hb hx => ?_, I.base.free, fun b o e hx => ?_, I.base.tups, I.base.frzs, I.base.tbls⟩, ⟨_, hn', fun j y v' e1 e2 e3 => ?_⟩, fun y c e => ?_, I.free, I.freeC, fun p hp => ?_, tracked ⟨oL, hoL, I.free⟩ hs, by simpa using I.len⟩ ⟨_, hs, .inl rfl⟩
    · exact (hs.2 b (Nat.ne_of_lt (Nat.lt_of_lt_of_le (Heap.lt_size e) I.ok.above))).trans (I.base.keep b o e n hb hx)
    · obtain ⟨sl, e1⟩ := I.base.slot b o e n hb hx
      exact ⟨sl, (hs.2 b (Nat.ne_of_lt (Nat.lt_of_lt_of_le (Heap.lt_size e) I.ok.above))).trans e1⟩
    · obtain ⟨o', e1⟩ := I.base.there b o e hx
      exact ⟨o', (hs.2 b (Nat.ne_of_lt (Nat.lt_of_lt_of_le (Heap.lt_size e) I.ok.above))).trans e1⟩
    · by_cases hj : j = i
      · subst hj
        rw [hi] at e1; cases e1
        rw [List.getElem?_set_self hiσ] at e2
        cases e2
        exact ⟨u, r, .inl ⟨hk, by simp⟩⟩
      · rw [List.getElem?_set_ne (Ne.symm hj)] at e2
        obtain ⟨u', r', q⟩ := hl j y v' e1 e2 e3
        refine ⟨u', r', ?_⟩
        rcases q with ⟨k, e⟩ | ⟨k, c, e, z⟩
        · refine .inl ⟨k, ?_⟩
          have : y ≠ x := fun e => hj (nodup_ix hN e1 (e ▸ hi))
          simp [this, e]
        · exact .inr ⟨k, c, e, z.sameBut hs (cne y c e)⟩
    · obtain ⟨w', z⟩ := I.cell y c e
      exact ⟨w', z.sameBut hs (cne y c e)⟩
    · obtain ⟨e, n, ne, nf, d⟩ := I.pin p hp
      exact ⟨(hs.2 p.1 ne).trans e, n, ne, nf, d⟩
  · have hfn : X.fn x = true := by
      rcases hf with z | z
      · exact z
      · rw [z] at hk; cases hk
    obtain ⟨c, hc⟩ := I.ok.has x (.inl hk)
    obtain ⟨w', z⟩ := I.cell x c hc
    refine wpAny_storeName_cell I.ok.kind hk hc z (fun h' hc' hs => ?_)
    obtain ⟨oc, hoc, hocd⟩ := id z
    refine h { s with heap := h' } ⟨I.ok, I.os, I.bare, ⟨fun b o e n hb hx => ?_, fun b o e n hb hx => ?_, I.base.free, fun b o e hx => ?_, I.base.tups, I.base.frzs, I.base.tbls⟩, ⟨m, hn.sameBut hs (Ne.symm (cne x c hc)), fun j y v' e1 e2 e3 => ?_⟩, fun y c' e => ?_, I.free, I.freeC, fun p hp => ?_, tracked ⟨oc, hoc, I.freeC x c hc⟩ hs, by simpa using I.len⟩ ⟨c, hs, .inr hc⟩
    · exact (hs.2 b (Nat.ne_of_lt (Nat.lt_of_lt_of_le (Heap.lt_size e) (I.ok.cab x c hfn hc)))).trans (I.base.keep b o e n hb hx)
    · obtain ⟨sl, e1⟩ := I.base.slot b o e n hb hx
      exact ⟨sl, (hs.2 b (Nat.ne_of_lt (Nat.lt_of_lt_of_le (Heap.lt_size e) (I.ok.cab x c hfn hc)))).trans e1⟩
    · obtain ⟨o', e1⟩ := I.base.there b o e hx
      exact ⟨o', (hs.2 b (Nat.ne_of_lt (Nat.lt_of_lt_of_le (Heap.lt_size e) (I.ok.cab x c hfn hc)))).trans e1⟩
    · by_cases hj : j = i
      · subst hj
        rw [hi] at e1; cases e1
        rw [List.getElem?_set_self hiσ] at e2
        cases e2
        exact ⟨u, r, .inr ⟨.inl hk, c, hc, hc'⟩⟩
      · rw [List.getElem?_set_ne (Ne.symm hj)] at e2
        obtain ⟨u', r', q⟩ := hl j y v' e1 e2 e3
        refine ⟨u', r', ?_⟩
        rcases q with q | ⟨k, c', e, z'⟩
        · exact .inl q
        · refine .inr ⟨k, c', e, z'.sameBut hs ?_⟩
          rintro rfl
          exact hj (nodup_ix hN e1 (I.ok.inj _ _ _ e hc ▸ hi))
    · by_cases hcc : c' = c
      · subst hcc; exact ⟨_, hc'⟩
      · obtain ⟨w2, z2⟩ := I.cell y c' e
        exact ⟨w2, z2.sameBut hs hcc⟩
    · obtain ⟨e, n, ne, nf, d⟩ := I.pin p hp
      refine ⟨(hs.2 p.1 ?_).trans e, n, ne, nf, d⟩
      intro q
      rw [q, hoc] at e
      have q' : oc = p.2 := Option.some.inj e
      exact d w' (by rw [← q']; exact hocd)
theorem store_ok {M : Model} {A : Around} {E : Value → Shared → Prop} {i : Nat} {x : Str} {v : V} {u : Value} {Q : Unit → Shared → Prop} (I : Inv X pins σ H s) (hN : X.N.Nodup) (hi : X.N[i]? = some x) (hx : Loc X.env.scope x) (r : RelV v u)
    (h : ∀ s', Inv X pins (σ.set i (some v)) H s' → Q () s') (hf : X.fn x = true ∨ X.env.scope.names.lookup x = some .local := by first | exact .inl rfl | exact .inr rfl | assumption) : wpAny M A (storeName X.env x u) Q E s :=
  store_ok2 I hN hi hx r (fun s' I' _ => h s' I') hf
/-- behind a call or a block, the state as it is -/
theorem Inv.call' {s' : Shared} {ch : List Addr} (I : Inv X pins σ H s) (ho : s'.os = s.os) (u : Un (frs X.stack) ch H H' s.heap s'.heap) (hok : HOk X.prog X.w H' s'.heap) (hg : AllBare s'.gens)
    (hch : ∀ b ∈ ch, (b ∈ X.ex ∨ X.s₀.heap.objs.size ≤ b) ∧ b ≠ X.env.locals ∧ (∀ x c, X.env.cells.lookup x = some c → c ≠ b) ∧ ∀ p ∈ X.pn ++ pins, p.1 ≠ b) : Inv X pins σ H' s' := by
  obtain ⟨h', g', d', t', o'⟩ := s'
  have e : o' = s.os := ho
  subst e
  exact I.call (g' := g') (t' := t') (d' := d') u hok hg hch
end
/-! ### the judgements -/
/-- an exception: its class, its own dict's address (where it has one), the abstract heap behind it -/
abbrev XK := Value → Option Addr → Hp → Prop
abbrev St := List (Option V)
abbrev VK := V → Hp → Prop
/-- an expression's reading; a test's; an argument list's -/
abbrev TE := St → Hp → VK → Prop
abbrev TT := St → Hp → (Bool → Hp → Prop) → Prop
abbrev TA := St → Hp → (List V → Hp → Prop) → Prop
/-- what is wanted behind a statement -/
structure Ends where
  nx : St → Hp → Prop
  rt : VK
  bk : St → Hp → Prop := fun _ _ => False
  ct : St → Hp → Prop := fun _ _ => False
abbrev TS := Ends → St → Hp → Prop
def EP (X : Cx) (pins : List (Addr × Obj)) (σ : St) (Q : VK) (u : Value) (s' : Shared) : Prop := ∃ v H', Inv X pins σ H' s' ∧ RelV v u ∧ Q v H'
def TP (X : Cx) (pins : List (Addr × Obj)) (σ : St) (Q : Bool → Hp → Prop) (b : Bool) (s' : Shared) : Prop := ∃ H', Inv X pins σ H' s' ∧ Q b H'
def AP (X : Cx) (pins : List (Addr × Obj)) (σ : St) (Q : List V → Hp → Prop) (us : List Value) (s' : Shared) : Prop := ∃ vs H', Inv X pins σ H' s' ∧ Vals vs us ∧ Q vs H'
def SP (X : Cx) (pins : List (Addr × Obj)) (D : Ends) (f : Flow) (s' : Shared) : Prop :=
  match f with
  | .next => ∃ σ' H', Inv X pins σ' H' s' ∧ D.nx σ' H'
  | .brk => ∃ σ' H', Inv X pins σ' H' s' ∧ D.bk σ' H'
  | .cont => ∃ σ' H', Inv X pins σ' H' s' ∧ D.ct σ' H'
  | .ret u => ∃ v σ' H', Inv X pins σ' H' s' ∧ RelV v u ∧ D.rt v H'
def PE (X : Cx) (e : Expr) (t : TE) : Prop :=
  ∀ (pins : List (Addr × Obj)) (s : Shared) (σ : St) (H : Hp) (Q : VK), Inv X pins σ H s → t σ H Q → wpAny (model X.prog X.w) X.A (eval e X.env) (EP X pins σ Q) X.xe s
def PT (X : Cx) (e : Expr) (t : TT) : Prop :=
  ∀ (pins : List (Addr × Obj)) (s : Shared) (σ : St) (H : Hp) (Q : Bool → Hp → Prop), Inv X pins σ H s → t σ H Q → wpAny (model X.prog X.w) X.A (isTrue e X.env (eval e X.env)) (TP X pins σ Q) X.xe s
/-- a test whatever its 'whole' is (and, or) -/
def PW (X : Cx) (e : Expr) (t : TT) : Prop :=
  ∀ (whole : Sem Value) (pins : List (Addr × Obj)) (s : Shared) (σ : St) (H : Hp) (Q : Bool → Hp → Prop), Inv X pins σ H s → t σ H Q → wpAny (model X.prog X.w) X.A (isTrue e X.env whole) (TP X pins σ Q) X.xe s
theorem PW.pt {X : Cx} {e : Expr} {t : TT} (h : PW X e t) : PT X e t := h _
/-- an argument list (no star), from the left -/
def PA (X : Cx) (es : List Expr) (t : TA) : Prop :=
  ∀ (pos : Pos) (pins : List (Addr × Obj)) (s : Shared) (σ : St) (H : Hp) (Q : List V → Hp → Prop), Inv X pins σ H s → t σ H Q → wpAny (model X.prog X.w) X.A (spliced (backTo pos (starEach es X.env))) (AP X pins σ Q) X.xe s
def PS (X : Cx) (st : Stmt) (t : TS) : Prop :=
  ∀ (pins : List (Addr × Obj)) (s : Shared) (σ : St) (H : Hp) (D : Ends), Inv X pins σ H s → t D σ H → wpAny (model X.prog X.w) X.A (exec st X.env) (SP X pins D) X.xe s
def PSs (X : Cx) (st : List Stmt) (t : TS) : Prop :=
  ∀ (pins : List (Addr × Obj)) (s : Shared) (σ : St) (H : Hp) (D : Ends), Inv X pins σ H s → t D σ H → wpAny (model X.prog X.w) X.A (execs st X.env) (SP X pins D) X.xe s
/-- weaken the end -/
theorem thn {α : Type} {t : Sem α} {Q Q' : α → Shared → Prop} {M : Model} {A : Around} {E : Value → Shared → Prop} {s : Shared} (h : wpAny M A t Q E s) (hQ : ∀ a s, Q a s → Q' a s) : wpAny M A t Q' E s := wpAny_mono h hQ fun _ _ x => x
end L2
namespace L2
open PySem PySem.Spec PyProof.Rows
section
variable {X : Cx}
/-! ### names and constants -/
def tVar (i : Nat) : TE := fun σ H Q => ∃ v, σ[i]? = some (some v) ∧ Q v H
def tC (v : V) : TE := fun _ H Q => Q v H
theorem pe_var {i : Nat} {x : Str} {pos : Pos} (hN : X.N[i]? = some x) (hv : Vis X.env.scope x) (hd : (x == ("__debug__" : Str)) = false := by decide) (hcd : (x == ("__classdict__" : Str)) = false := by decide) : PE X (.Name x pos) (tVar i) := by
  intro pins s σ H Q I h
  obtain ⟨v, e, h⟩ := h
  obtain ⟨m, hn, hl⟩ := I.loc
  obtain ⟨u, r, l⟩ := hl i x v hN e hv
  have fin : EP X pins σ Q u s := ⟨v, H, I, r, h⟩
  rcases l with ⟨hk, hm⟩ | ⟨hk, c, hc, hcell⟩
  · exact wpAny_Name (wpAny_loadName_local I.ok.kind hk hn hm fin) hd
  · rcases hk with hk | hk
    · exact wpAny_Name (wpAny_loadName_cell I.ok.kind hk hc hcell fin) hd
    · exact wpAny_Name (wpAny_loadName_free I.ok.kind hk hc hcell fin hcd) hd
theorem pe_int {i j pos} : PE X (.Constant (.int i) j pos) (tC (.int i)) := fun _ _ _ H _ I h => wpAny_Constant_int ⟨.int i, H, I.tok _, ⟨_, rfl⟩, h⟩
theorem pe_bl {b j pos} : PE X (.Constant (.bool b) j pos) (tC (.bl b)) := fun _ _ _ H _ I h => Constant_bool ⟨.bl b, H, I, rfl, h⟩
theorem pe_non {j pos} : PE X (.Constant .none j pos) (tC .non) := fun _ _ _ H _ I h => Constant_none ⟨.non, H, I, rfl, h⟩
theorem pe_str {x j pos} : PE X (.Constant (.str x) j pos) (tC (.str x)) := fun _ _ _ H _ I h => Calls.Constant_str ⟨.str x, H, I.tok _, ⟨_, rfl⟩, h⟩
/-- a global name of the def -/
def Gl (X : Cx) (x : Str) : Prop := X.env.kindOf x = some .globalImplicit
theorem ld_glob {E : Value → Shared → Prop} {pins : List (Addr × Obj)} {s : Shared} {σ : St} {H : Hp} {x : Str} {u : Value} {pos : Pos} {Q : Value → Shared → Prop} (I : Inv X pins σ H s) (hg : Gl X x) (hm : X.mg x = some u) (h : Q u s)
    (hd : (x == ("__debug__" : Str)) = false := by decide) : wpAny (model X.prog X.w) X.A (eval (.Name x pos) X.env) Q E s :=
  Calls.Name_function_global I.ok.kind hg (Calls.loadGlobal_global (by rw [I.ok.glob]; exact I.mod.glob.keeps I.bk) hm h) hd
theorem ld_blt {E : Value → Shared → Prop} {pins : List (Addr × Obj)} {s : Shared} {σ : St} {H : Hp} {x : Str} {u : Value} {pos : Pos} {Q : Value → Shared → Prop} (I : Inv X pins σ H s) (hg : Gl X x) (hm : X.mg x = none) (hv : bootBuiltins x = some u) (h : Q u s)
    (hn : x ≠ "__name__" := by decide) (hd : (x == ("__debug__" : Str)) = false := by decide) : wpAny (model X.prog X.w) X.A (eval (.Name x pos) X.env) Q E s := by
  obtain ⟨mb, h1, h2⟩ := I.mod.blt
  exact Calls.Name_function_global I.ok.kind hg (Calls.loadGlobal_builtin (by rw [I.ok.glob]; exact I.mod.glob.keeps I.bk) hm (by rw [I.ok.blt]; exact h1.keeps I.bk) ((h2 x hn).trans hv) h) hd
/-- a module's constant, a class, a function, as a value -/
theorem pe_glob {x : Str} {v : V} {u : Value} {pos : Pos} (hg : Gl X x) (hm : X.mg x = some u) (r : RelV v u) (hd : (x == ("__debug__" : Str)) = false := by decide) : PE X (.Name x pos) (tC v) :=
  fun _ _ _ H _ I h => ld_glob I hg hm ⟨v, H, I, r, h⟩ hd
theorem pe_bltn {x : Str} {v : V} {u : Value} {pos : Pos} (hg : Gl X x) (hm : X.mg x = none) (hv : bootBuiltins x = some u) (r : RelV v u) (hn : x ≠ "__name__" := by decide) (hd : (x == ("__debug__" : Str)) = false := by decide) : PE X (.Name x pos) (tC v) :=
  fun _ _ _ H _ I h => ld_blt I hg hm hv ⟨v, H, I, r, h⟩ hn hd
/-! ### arithmetic -/
variable {a b : Expr} {ta tb : TE} {pos : Pos}
/-! ### comparisons -/
def PC (X : Cx) (op : CmpOp) (a b : Expr) (t : TE) : Prop :=
  ∀ (pins : List (Addr × Obj)) (s : Shared) (σ : St) (H : Hp) (Q : VK), Inv X pins σ H s → t σ H Q →
    wpAny (model X.prog X.w) X.A (eval a X.env) (fun v s₁ => wpAny (model X.prog X.w) X.A (eval b X.env) (fun u s₂ => wpAny (model X.prog X.w) X.A (compareOp op v u) (EP X pins σ Q) X.xe s₂) X.xe s₁) X.xe s
theorem nobehind (b : Expr) {op : CmpOp} (h : op ≠ .In) (h2 : op ≠ .NotIn) : behindInMarks op b = false := by
  have e1 : (op == CmpOp.In) = false := by cases op <;> first | rfl | exact absurd rfl h
  have e2 : (op == CmpOp.NotIn) = false := by cases op <;> first | rfl | exact absurd rfl h2
  cases b <;> simp [behindInMarks, e1, e2]
/-- is None -/
def tIsN (ta : TE) : TE := fun σ H Q => ta σ H fun x H1 => Q (.bl (decide (x = .non))) H1
def tNotN (ta : TE) : TE := fun σ H Q => ta σ H fun x H1 => Q (.bl (!decide (x = .non))) H1
theorem RelV.none_iff {x : V} {v : Value} (r : RelV x v) : (v == Value.none) = decide (x = .non) := by
  cases x with
  | non => cases r; rfl
  | bl _ => cases r; rfl
  | int _ => obtain ⟨t, rfl⟩ := r; rfl
  | str _ => obtain ⟨t, rfl⟩ := r; rfl
  | byt _ => obtain ⟨t, rfl⟩ := r; rfl
  | flt _ => obtain ⟨t, rfl⟩ := r; rfl
  | ref _ => cases r; rfl
  | ty _ => cases r; rfl
theorem pc_isN {j pos'} (ha : PE X a ta) : PC X .Is a (.Constant .none j pos') (tIsN ta) := by
  intro pins s σ H Q I h
  refine thn (ha pins s σ H _ I h) fun v s1 ⟨x, H1, I1, r1, q1⟩ => ?_
  exact Constant_none (is_none_gen ⟨.bl _, H1, I1, by rw [r1.none_iff]; rfl, q1⟩)
theorem pc_notN {j pos'} (ha : PE X a ta) : PC X .IsNot a (.Constant .none j pos') (tNotN ta) := by
  intro pins s σ H Q I h
  refine thn (ha pins s σ H _ I h) fun v s1 ⟨x, H1, I1, r1, q1⟩ => ?_
  exact Constant_none (isnot_none_gen ⟨.bl _, H1, I1, by rw [r1.none_iff]; rfl, q1⟩)
/-- a comparison as a value, as a test -/
def tB (t : TE) : TT := fun σ H Q => t σ H fun x H1 => ∃ c, x = .bl c ∧ Q c H1
theorem pe_cmp {op : CmpOp} {t : TE} (h : PC X op a b t) (h1 : behindInMarks op b = false := by first | exact nobehind _ (by decide) (by decide) | rfl) : PE X (.Compare a [op] [b] pos) t := fun pins s σ H Q I hw => wpAny_Compare1 (h pins s σ H Q I hw) h1
theorem pt_cmp {op : CmpOp} {t : TE} (h : PC X op a b t) (h1 : behindInMarks op b = false := by first | exact nobehind _ (by decide) (by decide) | rfl) : PT X (.Compare a [op] [b] pos) (tB t) := by
  intro pins s σ H Q I hw
  refine wpAny_isTrue_Compare1 (thn (h pins s σ H _ I hw) fun v s1 h1 => thn h1 fun u s2 h2 => thn h2 fun c s3 ⟨x, H1, I1, r1, q1⟩ => ?_) h1
  obtain ⟨d, rfl, q⟩ := q1
  cases r1
  exact wpAny_truthy_bool ⟨H1, I1, q⟩
/-- an expression whose value is a bool, as a test -/
theorem pt_val {e : Expr} {t : TE} (h : PE X e t) (he : ∀ whole, isTrue e X.env whole = (do let v ← whole; standAt e.pos; holding [v] (truthy v)) := by intro _; rfl) : PT X e (tB t) := by
  intro pins s σ H Q I hw
  refine isTrue_plain (thn (h pins s σ H _ I hw) fun v s1 ⟨x, H1, I1, r1, q1⟩ => ?_) (he _)
  obtain ⟨d, rfl, q⟩ := q1
  cases r1
  exact wpAny_truthy_bool ⟨H1, I1, q⟩
/-! ### and, or, not -/
variable {tA tB' : TT} {rest : List Expr}
def tAnd (t u : TT) : TT := fun σ H Q => t σ H fun c H1 => if c = true then u σ H1 Q else Q false H1
def tOr (t u : TT) : TT := fun σ H Q => t σ H fun c H1 => if c = true then Q true H1 else u σ H1 Q
def tNot (t : TT) : TT := fun σ H Q => t σ H fun c H1 => Q (!c) H1
theorem pw_and1 (ha : PT X a tA) : PW X (.BoolOp .And [a] pos) tA := by
  intro wh pins s σ H Q I h
  refine isTrue_and (thn (ha pins s σ H Q I h) fun c s1 e => ?_)
  cases c with
  | true => exact isTrue_and_nil e
  | false => exact e
theorem pw_or1 (ha : PT X a tA) : PW X (.BoolOp .Or [a] pos) tA := by
  intro wh pins s σ H Q I h
  refine isTrue_or (thn (ha pins s σ H Q I h) fun c s1 e => ?_)
  cases c with
  | false => exact isTrue_or_nil e
  | true => exact e
theorem pw_and (ha : PT X a tA) (hb : PW X (.BoolOp .And (b :: rest) pos) tB') : PW X (.BoolOp .And (a :: b :: rest) pos) (tAnd tA tB') := by
  intro wh pins s σ H Q I h
  refine isTrue_and (thn (ha pins s σ H _ I h) fun c s1 ⟨H1, I1, q1⟩ => ?_)
  cases c with
  | true => exact hb wh pins s1 σ H1 Q I1 q1
  | false => exact ⟨H1, I1, q1⟩
theorem pw_or (ha : PT X a tA) (hb : PW X (.BoolOp .Or (b :: rest) pos) tB') : PW X (.BoolOp .Or (a :: b :: rest) pos) (tOr tA tB') := by
  intro wh pins s σ H Q I h
  refine isTrue_or (thn (ha pins s σ H _ I h) fun c s1 ⟨H1, I1, q1⟩ => ?_)
  cases c with
  | true => exact ⟨H1, I1, q1⟩
  | false => exact hb wh pins s1 σ H1 Q I1 q1
theorem pt_not (ha : PT X a tA) : PT X (.UnaryOp .Not a pos) (tNot tA) := by
  intro pins s σ H Q I h
  exact isTrue_not (ha pins s σ H (fun c H1 => Q (!c) H1) I h)
/-- .. as values (bools) -/
def tAndV (ta tb : TE) : TE := fun σ H Q => ta σ H fun x H1 => ∃ c, x = .bl c ∧ if c = true then tb σ H1 Q else Q (.bl false) H1
def tOrV (ta tb : TE) : TE := fun σ H Q => ta σ H fun x H1 => ∃ c, x = .bl c ∧ if c = true then Q (.bl true) H1 else tb σ H1 Q
def tNotV (ta : TE) : TE := fun σ H Q => ta σ H fun x H1 => ∃ c, x = .bl c ∧ Q (.bl (!c)) H1
theorem pe_one {op} {t : TE} (h : PE X a t) : PE X (.BoolOp op [a] pos) t := fun pins s σ H Q I hw => BoolOp_one (h pins s σ H Q I hw)
theorem pe_and (ha : PE X a ta) (hb : PE X (.BoolOp .And (b :: rest) pos) tb) : PE X (.BoolOp .And (a :: b :: rest) pos) (tAndV ta tb) := by
  intro pins s σ H Q I h
  refine BoolOp_and (thn (ha pins s σ H _ I h) fun v s1 ⟨x, H1, I1, r1, q1⟩ => ?_)
  obtain ⟨c, rfl, q1⟩ := q1
  cases r1
  refine wpAny_truthy_bool ?_
  cases c with
  | true => exact hb pins s1 σ H1 Q I1 q1
  | false => exact ⟨.bl false, H1, I1, rfl, q1⟩
theorem pe_or (ha : PE X a ta) (hb : PE X (.BoolOp .Or (b :: rest) pos) tb) : PE X (.BoolOp .Or (a :: b :: rest) pos) (tOrV ta tb) := by
  intro pins s σ H Q I h
  refine BoolOp_or (thn (ha pins s σ H _ I h) fun v s1 ⟨x, H1, I1, r1, q1⟩ => ?_)
  obtain ⟨c, rfl, q1⟩ := q1
  cases r1
  refine wpAny_truthy_bool ?_
  cases c with
  | false => exact hb pins s1 σ H1 Q I1 q1
  | true => exact ⟨.bl true, H1, I1, rfl, q1⟩
theorem pe_not (ha : PE X a ta) : PE X (.UnaryOp .Not a pos) (tNotV ta) := by
  intro pins s σ H Q I h
  refine UnaryOp_ (thn (ha pins s σ H _ I h) fun v s1 ⟨x, H1, I1, r1, q1⟩ => ?_)
  obtain ⟨c, rfl, q1⟩ := q1
  cases r1
  exact not_of (wpAny_truthy_bool ⟨.bl (!c), H1, I1, rfl, q1⟩)
/-- a if t else b -/
def tIf (t : TT) (ta tb : TE) : TE := fun σ H Q => t σ H fun c H1 => if c = true then ta σ H1 Q else tb σ H1 Q
theorem pe_ifExp {c : Expr} (hc : PT X c tA) (ha : PE X a ta) (hb : PE X b tb) : PE X (.IfExp c a b pos) (tIf tA ta tb) := by
  intro pins s σ H Q I h
  refine wpAny_IfExp (thn (hc pins s σ H _ I h) fun d s1 ⟨H1, I1, q1⟩ => ?_)
  cases d with
  | true => exact ha pins s1 σ H1 Q I1 q1
  | false => exact hb pins s1 σ H1 Q I1 q1
end
end L2
namespace L2
open PySem PySem.Spec PyProof.Rows
/-! ### a list, a tuple that is read: tracked, frozen, or an object of the module -/
def SqL (K : PySem.W.Frag) (H : Hp) (a : Addr) (xs : List V) : Prop :=
  Rd H a (.lst xs) ∨
    ∃ (o : Obj) (its : Array Value) (n : Nat), K.lookup a = some o ∧ o.cls = .type "list" ∧ o.dict = none ∧ o.data = .seq its n ∧ its.size ≤ sizeLine ∧ Vals xs its.toList
def SqT (K : PySem.W.Frag) (H : Hp) (a : Addr) (xs : List V) : Prop :=
  Rd H a (.tup xs) ∨
    ∃ (o : Obj) (its : Array Value) (n : Nat), K.lookup a = some o ∧ o.cls = .type "tuple" ∧ o.data = .seq its n ∧ its.size ≤ sizeLine ∧ Vals xs its.toList
def absV : Value → Option V
  | .none => some .non
  | .bool b => some (.bl b)
  | .int i _ => some (.int i)
  | .str x _ => some (.str x)
  | .bytes b _ => some (.byt b)
  | .float b _ => some (.flt b)
  | .ref a => some (.ref a)
  | .type n => some (.ty n)
  | _ => none
theorem RelV.abs {x : V} {u : Value} (r : RelV x u) : absV u = some x := by
  cases x with
  | non => cases r; rfl
  | bl _ => cases r; rfl
  | int _ => obtain ⟨t, rfl⟩ := r; rfl
  | str _ => obtain ⟨t, rfl⟩ := r; rfl
  | byt _ => obtain ⟨t, rfl⟩ := r; rfl
  | flt _ => obtain ⟨t, rfl⟩ := r; rfl
  | ref _ => cases r; rfl
  | ty _ => cases r; rfl
theorem RelV.inj {x y : V} {u : Value} (r : RelV x u) (q : RelV y u) : x = y := Option.some.inj (r.abs.symm.trans q.abs)
theorem Vals.inj : ∀ {xs ys : List V} {us : List Value}, Vals xs us → Vals ys us → xs = ys
  | _, _, _, .nil, .nil => rfl
  | _, _, _, .cons r t, .cons r' t' => by rw [r.inj r', Vals.inj t t']
section
variable {X : Cx} {pins : List (Addr × Obj)} {σ : St} {H : Hp} {s : Shared} {a : Addr} {xs ys : List V}
theorem SqL.of {K : PySem.W.Frag} (h : H a = some (.lst xs)) : SqL K H a xs := .inl (.inl h)
theorem SqT.of {K : PySem.W.Frag} (h : H a = some (.tup xs)) : SqT K H a xs := .inl (.inl h)
theorem Inv.list (I : Inv X pins σ H s) (h : SqL X.K H a xs) : ∃ its : List Value, Vals xs its ∧ PlainL s.heap a its.toArray ∧ xs.length ≤ sizeLine := by
  rcases h with h | ⟨o, its, n, hk, hc, hd, hs, hz, r⟩
  · obtain ⟨z, its, n, r, e⟩ := h.ok I.hok
    exact ⟨its, r, ⟨_, n, e, rfl, rfl, rfl⟩, z⟩
  · refine ⟨its.toList, r, ⟨o, n, I.kIn a o hk, hc, hd, by simpa using hs⟩, ?_⟩
    have e := r.length
    simp only [Array.length_toList] at e
    omega
theorem Inv.tuple (I : Inv X pins σ H s) (h : SqT X.K H a xs) : ∃ its : List Value, Vals xs its ∧ IsTup s.heap a its.toArray ∧ xs.length ≤ sizeLine := by
  rcases h with h | ⟨o, its, n, hk, hc, hs, hz, r⟩
  · obtain ⟨z, its, r, p⟩ := h.ok I.hok
    exact ⟨its, r, p, z⟩
  · refine ⟨its.toList, r, ⟨o, I.kIn a o hk, hc, n, by simpa using hs⟩, ?_⟩
    have e := r.length
    simp only [Array.length_toList] at e
    omega
theorem Inv.list_inj (I : Inv X pins σ H s) (h : SqL X.K H a xs) (h' : SqL X.K H a ys) : xs = ys := by
  obtain ⟨its, r, ⟨o, n, e, _, _, d⟩, _⟩ := I.list h
  obtain ⟨its', r', ⟨o', n', e', _, _, d'⟩, _⟩ := I.list h'
  rw [e] at e'; cases e'
  rw [d] at d'
  injection d' with d1 _
  have : its = its' := by simpa using congrArg Array.toList d1
  subst this
  exact r.inj r'
theorem Inv.tuple_inj (I : Inv X pins σ H s) (h : SqT X.K H a xs) (h' : SqT X.K H a ys) : xs = ys := by
  obtain ⟨its, r, ⟨o, e, _, n, d⟩, _⟩ := I.tuple h
  obtain ⟨its', r', ⟨o', e', _, n', d'⟩, _⟩ := I.tuple h'
  rw [e] at e'; cases e'
  rw [d] at d'
  injection d' with d1 _
  have : its = its' := by simpa using congrArg Array.toList d1
  subst this
  exact r.inj r'
end
/-! ### another wish about exceptions -/
abbrev Cx.wish (X : Cx) (E : Value → Shared → Prop) : Cx := { X with xe := E }
/-- no exception leaves -/
abbrev Cx.nox (X : Cx) : Cx := X.wish fun _ _ => False
theorem Cx.Ok.wish {X : Cx} (ok : X.Ok) (E : Value → Shared → Prop) : (X.wish E).Ok :=
  ⟨ok.mod, ok.kind, ok.glob, ok.blt, ok.above, ok.inj, ok.has, ok.cab, ok.hd, ok.frames, ok.stk, ok.exf, ok.bs, ok.bsz, ok.noex, ok.exfs, ok.funs, ok.frf⟩
theorem Cx.Ok.unwish {X : Cx} {E : Value → Shared → Prop} (ok : (X.wish E).Ok) : X.Ok :=
  ⟨ok.mod, ok.kind, ok.glob, ok.blt, ok.above, ok.inj, ok.has, ok.cab, ok.hd, ok.frames, ok.stk, ok.exf, ok.bs, ok.bsz, ok.noex, ok.exfs, ok.funs, ok.frf⟩
section
variable {X : Cx} {pins : List (Addr × Obj)} {σ : St} {H : Hp} {s : Shared} {E : Value → Shared → Prop}
theorem Inv.wish (I : Inv X pins σ H s) (E : Value → Shared → Prop) : Inv (X.wish E) pins σ H s := ⟨I.ok.wish E, I.os, I.bare, I.base, I.loc, I.cell, I.free, I.freeC, I.pin, I.hok, I.len⟩
theorem Inv.unwish (I : Inv (X.wish E) pins σ H s) : Inv X pins σ H s := ⟨I.ok.unwish, I.os, I.bare, I.base, I.loc, I.cell, I.free, I.freeC, I.pin, I.hok, I.len⟩
theorem SP.unwish {D : Ends} {f : Flow} {s' : Shared} (h : SP (X.wish E) pins D f s') : SP X pins D f s' := by
  cases f with
  | next => obtain ⟨σ', H', I, q⟩ := h; exact ⟨σ', H', I.unwish, q⟩
  | brk => obtain ⟨σ', H', I, q⟩ := h; exact ⟨σ', H', I.unwish, q⟩
  | cont => obtain ⟨σ', H', I, q⟩ := h; exact ⟨σ', H', I.unwish, q⟩
  | ret u => obtain ⟨v, σ', H', I, r, q⟩ := h; exact ⟨v, σ', H', I.unwish, r, q⟩
theorem PSs.nox {st : List Stmt} {t : TS} (h : PSs X.nox st t) : PSs X st t := fun pins s σ H D I hw =>
  wpAny_mono (h pins s σ H D (I.wish _) hw) (fun _ _ q => q.unwish) fun _ _ z => False.elim z
end
/-! ### blocks and small statements -/
section
variable {X : Cx} {st : Stmt} {rest : List Stmt} {t u : TS} {e : Expr} {te : TE} {pos : Pos}
def tNext : TS := fun D σ H => D.nx σ H
def tSeq (t u : TS) : TS := fun D σ H => t { D with nx := u D } σ H
theorem pss_nil : PSs X [] tNext := fun _ _ σ H _ I h => wpAny_execs_nil ⟨σ, H, I, h⟩
theorem pss_cons (h1 : PS X st t) (h2 : PSs X rest u) : PSs X (st :: rest) (tSeq t u) := by
  intro pins s σ H D I h
  refine wpAny_execs_cons (thn (h1 pins s σ H { D with nx := u D } I h) fun f s1 q => ?_)
  cases f with
  | next =>
    obtain ⟨σ', H', I', q⟩ := q
    exact h2 pins s1 σ' H' D I' q
  | ret v => exact q
  | brk => exact q
  | cont => exact q
theorem pss_one (h1 : PS X st t) : PSs X [st] t := by
  intro pins s σ H D I h
  refine wpAny_execs_cons (thn (h1 pins s σ H D I h) fun f s1 q => ?_)
  cases f with
  | next => exact wpAny_execs_nil q
  | ret v => exact q
  | brk => exact q
  | cont => exact q
/-- in a def's body nothing is shown -/
theorem Inv.quiet {pins : List (Addr × Obj)} {σ : St} {H : Hp} {s : Shared} (I : Inv X pins σ H s) : interactive X.env = false := by simp [interactive, I.ok.kind]
/-- an expression whose value is dropped -/
def tDrop (te : TE) : TS := fun D σ H => te σ H fun _ H1 => D.nx σ H1
theorem ps_expr (he : PE X e te) (hs : swapsWith e none pos.line X.env = pure false := by rfl) : PS X (.Expr e pos) (tDrop te) := by
  intro pins s σ H D I h
  exact wpAny_Expr_any (thn (he pins s σ H _ I h) fun v s1 ⟨x, H1, I1, r1, q1⟩ => ⟨σ, H1, I1, q1⟩) I.quiet hs
def tRet (te : TE) : TS := fun D σ H => te σ H D.rt
theorem ps_ret (he : PE X e te) : PS X (.Return (some e) pos) (tRet te) := by
  intro pins s σ H D I h
  exact wpAny_Return_some (thn (he pins s σ H _ I h) fun v s1 ⟨x, H1, I1, r1, q1⟩ => ⟨x, σ, H1, I1, r1, q1⟩)
def tIfS (c : TT) (t u : TS) : TS := fun D σ H => c σ H fun b H1 => if b = true then t D σ H1 else u D σ H1
theorem ps_if {c : Expr} {a b : List Stmt} {tc : TT} (hc : PT X c tc) (ha : PSs X a t) (hb : PSs X b u) : PS X (.If c a b pos) (tIfS tc t u) := by
  intro pins s σ H D I h
  refine wpAny_If (thn (hc pins s σ H _ I h) fun d s1 ⟨H1, I1, q1⟩ => ?_)
  cases d with
  | true => exact ha pins s1 σ H1 D I1 q1
  | false => exact hb pins s1 σ H1 D I1 q1
/-- code that the proof never comes to -/
def tNever : TS := fun _ _ _ => False
theorem ps_never : PS X st tNever := fun _ _ _ _ _ _ h => h.elim
end
/-! ### targets -/
abbrev TG := V → St → Hp → (St → Hp → Prop) → Prop
abbrev TGs := List V → St → Hp → (St → Hp → Prop) → Prop
def PG (X : Cx) (target : Expr) (t : TG) : Prop :=
  ∀ (pins : List (Addr × Obj)) (s : Shared) (σ : St) (H : Hp) (v : V) (u : Value) (Q : St → Hp → Prop), Inv X pins σ H s → RelV v u → t v σ H Q →
    wpAny (model X.prog X.w) X.A (assign target X.env u) (fun _ s' => ∃ σ' H', Inv X pins σ' H' s' ∧ Q σ' H') X.xe s
/-- several targets, one after another -/
def PGs (X : Cx) (ts : List Expr) (t : TGs) : Prop :=
  ∀ (pins : List (Addr × Obj)) (s : Shared) (σ : St) (H : Hp) (vs : List V) (us : List Value) (Q : St → Hp → Prop), Inv X pins σ H s → Vals vs us → t vs σ H Q →
    wpAny (model X.prog X.w) X.A (assignInOrder ((assignEach ts X.env).map (·.2)) us) (fun _ s' => ∃ σ' H', Inv X pins σ' H' s' ∧ Q σ' H') X.xe s
section
variable {X : Cx} {pos : Pos}
def gName (i : Nat) : TG := fun v σ H Q => Q (σ.set i (some v)) H
theorem pg_name {i : Nat} {x : Str} (hN : X.N.Nodup) (hi : X.N[i]? = some x) (hx : Loc X.env.scope x) (hf : X.fn x = true ∨ X.env.scope.names.lookup x = some .local := by first | exact .inl rfl | exact .inr rfl | assumption) : PG X (.Name x pos) (gName i) := by
  intro pins s σ H v u Q I r h
  exact wpAny_assign_Name (store_ok I hN hi hx r (fun s' I' => ⟨_, H, I', h⟩) hf)
def gNil : TGs := fun vs σ H Q => vs = [] ∧ Q σ H
def gCons (t : TG) (u : TGs) : TGs := fun vs σ H Q => ∃ v r, vs = v :: r ∧ t v σ H fun σ' H' => u r σ' H' Q
theorem pgs_nil : PGs X [] gNil := by
  intro pins s σ H vs us Q I r h
  obtain ⟨e, h⟩ := h
  subst e
  cases r
  exact assignInOrder_nil ⟨σ, H, I, h⟩
theorem pgs_cons {e : Expr} {es : List Expr} {t : TG} {u : TGs} (h1 : PG X e t) (h2 : PGs X es u)
    (hs : (assignEach (e :: es) X.env).map (·.2) = assign e X.env :: (assignEach es X.env).map (·.2) := by rfl) : PGs X (e :: es) (gCons t u) := by
  intro pins s σ H vs us Q I r h
  obtain ⟨v, vr, e1, h⟩ := h
  subst e1
  cases r with
  | cons r rr =>
    rw [hs]
    refine assignInOrder_cons (thn (h1 pins s σ H _ _ _ I r h) fun _ s1 ⟨σ1, H1, I1, q1⟩ => ?_)
    exact h2 pins s1 σ1 H1 _ _ Q I1 rr q1
/-- (a, b, ..) = a tuple of that length -/
def gTup (K : PySem.W.Frag) (n : Nat) (t : TGs) : TG := fun v σ H Q => ∃ a xs, v = .ref a ∧ SqT K H a xs ∧ xs.length = n ∧ t xs σ H Q
theorem pg_tup {es : List Expr} {k : Nat} {t : TGs} {n : Nat} (hc : X.calm = true) (h : PGs X es t)
    (hn : (assignEach es X.env).length = n := by rfl) (hst : (assignEach es X.env).findIdx? (·.1) = none := by rfl) : PG X (.Tuple es k pos) (gTup X.K n t) := by
  intro pins s σ H v u Q I r hw
  obtain ⟨a, xs, e1, hq, hl, hw⟩ := hw
  subst e1
  cases r
  obtain ⟨its, rv, ht, hz⟩ := I.tuple hq
  refine assign_Tuple_tuple (I.ok.hd hc) ht (by simp [hn, ← hl, rv.length]) hst fun h' hx => ?_
  have I1 : Inv X pins σ H { s with heap := h' } := I.kept (t' := s.toks) fun b o e => hx b o (Nat.ne_of_lt (Heap.lt_size e)) e
  exact h pins _ σ H xs _ Q I1 (by simpa using rv) hw
/-- target = value -/
def tAsg (te : TE) (g : TG) : TS := fun D σ H => te σ H fun x H1 => g x σ H1 D.nx
/-- name = value -/
theorem ps_set {i : Nat} {x : Str} {e : Expr} {te : TE} {pos' : Pos} (hN : X.N.Nodup) (hi : X.N[i]? = some x) (hx : Loc X.env.scope x) (he : PE X e te) (hs : swapsWith e (some (.Name x pos')) pos.line X.env = pure false := by rfl) (hf : X.fn x = true ∨ X.env.scope.names.lookup x = some .local := by first | exact .inl rfl | exact .inr rfl | assumption) :
    PS X (.Assign [.Name x pos'] e pos) (tAsg te (gName i)) := by
  intro pins s σ H D I h
  refine wpAny_Assign_Name (thn (he pins s σ H _ I h) fun v s1 ⟨y, H1, I1, r1, q1⟩ => ?_) hs
  exact store_ok I1 hN hi hx r1 (fun s2 I2 => ⟨_, H1, I2, q1⟩) hf
end
/-! ### while -/
section
variable {X : Cx} {pos : Pos}
/-- the invariant W with its measure -/
def tWhile (c : TT) (tb : TS) : TS := fun D σ H => ∃ W : Nat → St → Hp → Prop, (∃ m, W m σ H) ∧ ∀ m σ H, W m σ H →
  c σ H fun b H1 => if b = true then ∃ N : St → Hp → Prop, (∀ σ' H', N σ' H' → ∃ m', m' < m ∧ W m' σ' H') ∧ tb { D with nx := N, ct := N, bk := D.nx } σ H1 else D.nx σ H1
theorem ps_while {c : Expr} {body : List Stmt} {tc : TT} {tb : TS} (hp : PassesOwn (model X.prog X.w) X.A X.env X.xe) (hc : PT X c tc) (hb : PSs X body tb) : PS X (.While c body [] pos) (tWhile tc tb) := by
  intro pins s σ H D I h
  obtain ⟨W, ⟨m0, w0⟩, turn⟩ := h
  refine wpAny_While (codeAny_whileLoop (fun n s' => ∃ σ' H', Inv X pins σ' H' s' ∧ W n σ' H') ?_ m0 ⟨σ, H, I, w0⟩)
  rintro n s1 ⟨σ1, H1, I1, w1⟩
  refine wpAny_passesOwn hp (thn (hc pins s1 σ1 H1 _ I1 (turn n σ1 H1 w1)) fun b s2 ⟨H2, I2, q2⟩ => ?_)
  cases b with
  | true =>
    obtain ⟨N, hN, q2⟩ := q2
    rw [if_pos rfl]
    refine wpAny_passesOwn hp (thn (hb pins s2 σ1 H2 _ I2 q2) fun f s3 q3 => ?_)
    cases f with
    | next =>
      obtain ⟨σ3, H3, I3, n3⟩ := q3
      obtain ⟨m', hm, w3⟩ := hN σ3 H3 n3
      exact ⟨m', hm, σ3, H3, I3, w3⟩
    | cont =>
      obtain ⟨σ3, H3, I3, n3⟩ := q3
      obtain ⟨m', hm, w3⟩ := hN σ3 H3 n3
      exact ⟨m', hm, σ3, H3, I3, w3⟩
    | brk => exact q3
    | ret v => exact q3
  | false =>
    rw [if_neg Bool.false_ne_true]
    exact wpAny_execs_nil ⟨σ1, H2, I2, q2⟩
end
/-! ### what a loop or a comprehension walks -/
/-- at turn i: it yields x (the heap may grow), or it stops -/
structure It where
  go : Nat → Hp → Prop
  yld : Nat → Hp → V → Hp → Prop
  stop : Nat → Hp → Prop
/-- the iterator's own objects may turn: they are not the frame's, not pinned, younger than the entry (or a comprehension's own) -/
def FpOk (X : Cx) (pins : List (Addr × Obj)) (H : Hp) (b : Addr) : Prop :=
  H b = none ∧ b ≠ X.env.locals ∧ b ∉ X.fs ∧ (b ∈ X.ex ∨ X.s₀.heap.objs.size ≤ b) ∧ (∀ x c, X.env.cells.lookup x = some c → c ≠ b) ∧ ∀ p ∈ X.pn ++ pins, p.1 ≠ b
theorem Inv.fpOk {X : Cx} {pins : List (Addr × Obj)} {σ : St} {H H' : Hp} {s : Shared} {b : Addr} (I : Inv X pins σ H s) (hb : s.heap.objs.size ≤ b) (hn : H' b = none) : FpOk X pins H' b := by
  refine ⟨hn, Nat.ne_of_gt (Nat.lt_of_lt_of_le I.lt hb), I.nofs hb, .inr (Nat.le_trans I.sz hb), fun x c e z => ?_, fun p hp z => ?_⟩
  · obtain ⟨v, q⟩ := I.cell x c e
    exact absurd (Nat.lt_of_lt_of_le q.lt (by rw [z]; exact hb)) (Nat.lt_irrefl _)
  · exact absurd (Nat.lt_of_lt_of_le (Heap.lt_size (I.pin p hp).1) (by rw [z]; exact hb)) (Nat.lt_irrefl _)
structure Turn (P : Program) (w : World) (K : PySem.W.Frag) (tg : Expr) (J : It) (fp : List Addr) (it : Addr) (tn : Nat → Heap → Prop) : Prop where
  mem : it ∈ fp
  obj : ∀ i h, tn i h → ∀ b ∈ fp, ∃ o, h.get? b = some o ∧ ∀ v, o.data ≠ .cell v
  keep : ∀ i h h', tn i h → (∀ b ∈ fp, ∀ o, h.get? b = some o → h'.get? b = some o) → tn i h'
  item : ∀ (X : Cx), X.prog = P → X.w = w → X.K = K → X.calm = true → ∀ (i : Nat) (pins : List (Addr × Obj)) (s : Shared) (σ : St) (H : Hp) (E : Value → Shared → Prop), Inv X pins σ H s → (∀ b ∈ fp, FpOk X pins H b) → tn i s.heap → J.go i H →
    wpAny (model P w) X.A (pyNext (.ref it)) (fun r s1 => ∃ u, r = some u ∧
      wpAny (model P w) X.A (letOwnedTupleGo tg (.ref it) u) (fun _ s2 => ∃ x H', Inv X pins σ H' s2 ∧ RelV x u ∧ J.yld i H x H' ∧ tn (i + 1) s2.heap ∧ ∀ b ∈ fp, H' b = none) E s1) E s
  done : ∀ (X : Cx), X.prog = P → X.w = w → X.K = K → X.calm = true → ∀ (i : Nat) (pins : List (Addr × Obj)) (s : Shared) (σ : St) (H : Hp) (E : Value → Shared → Prop), Inv X pins σ H s → (∀ b ∈ fp, FpOk X pins H b) → tn i s.heap → J.stop i H →
    wpAny (model P w) X.A (pyNext (.ref it)) (fun r s1 => r = none ∧ Inv X pins σ H s1) E s
  self : ∀ (A : Around) (i : Nat) (s : Shared) (Q : Value → Shared → Prop) (E : Value → Shared → Prop), tn i s.heap → Q (.ref it) s → wpAny (model P w) A (pyIter (.ref it)) Q E s
abbrev TI := St → Hp → (It → Hp → Prop) → Prop
/-- an iterator has come -/
def PIE (X : Cx) (pins : List (Addr × Obj)) (σ : St) (tg : Expr) (R : It → Hp → Prop) (itv : Value) (s2 : Shared) : Prop :=
  ∃ (it : Addr) (fp : List Addr) (tn : Nat → Heap → Prop) (J : It) (H' : Hp), itv = .ref it ∧ Inv X pins σ H' s2 ∧ Turn X.prog X.w X.K tg J fp it tn ∧ tn 0 s2.heap ∧ (∀ b ∈ fp, FpOk X pins H' b) ∧ R J H'
def PI (X : Cx) (tg iter : Expr) (wi : TI) : Prop :=
  ∀ (pins : List (Addr × Obj)) (s : Shared) (σ : St) (H : Hp) (R : It → Hp → Prop), Inv X pins σ H s → wi σ H R →
    wpAny (model X.prog X.w) X.A (eval iter X.env) (fun v s1 => wpAny (model X.prog X.w) X.A (pyIter v) (PIE X pins σ tg R) X.xe s1) X.xe s
/-- the step ahead of the store is nothing for an iterator that keeps no tuple -/
theorem go_of {M : Model} {A : Around} {E : Value → Shared → Prop} {s : Shared} {tg : Expr} {it : Addr} {u : Value} {o : Obj} {n : String} {vs : Array Value} {Q : Unit → Shared → Prop} (ho : s.heap.get? it = some o) (hc : o.cls = .type n) (hd : o.data = .fields vs)
    (hn : ["enumerate", "zip", "dict_itemiterator", "dict_reverseitemiterator", "odict_iterator", "itertools.zip_longest", "itertools.pairwise"].contains n = false) (hQ : Q () s) : wpAny M A (letOwnedTupleGo tg (.ref it) u) Q E s := by
  unfold letOwnedTupleGo
  cases tg <;> first
    | exact wpAny_pure hQ
    | (cases u <;> first
        | exact wpAny_pure hQ
        | (refine wpAny_bind (wpAny_load ho ?_)
           rw [hc, hd]
           show wpAny M A (if (["enumerate", "zip", "dict_itemiterator", "dict_reverseitemiterator", "odict_iterator", "itertools.zip_longest", "itertools.pairwise"].contains n && vs[0]? == some (rawInt _)) = true then _ else _) Q E s
           rw [if_neg (by intro h; rw [hn, Bool.false_and] at h; cases h)]
           exact wpAny_pure hQ))
/-- the list at a, as it stands at each turn (a loop may append to it) -/
def Itl (K : PySem.W.Frag) (a : Addr) : It :=
  ⟨fun i H => ∃ xs x, SqL K H a xs ∧ xs[i]? = some x, fun i H x H' => H' = H ∧ ∀ xs, SqL K H a xs → xs[i]? = some x, fun i H => ∃ xs, SqL K H a xs ∧ xs.length ≤ i⟩
def Itt (K : PySem.W.Frag) (a : Addr) : It :=
  ⟨fun i H => ∃ xs x, SqT K H a xs ∧ xs[i]? = some x, fun i H x H' => H' = H ∧ ∀ xs, SqT K H a xs → xs[i]? = some x, fun i H => ∃ xs, SqT K H a xs ∧ xs.length ≤ i⟩
/-- lo, lo + 1, .. (n of them) -/
def Itr (lo : Int) (n : Nat) : It := ⟨fun i _ => i < n, fun i H x H' => H' = H ∧ x = .int (lo + i), fun i _ => n ≤ i⟩
theorem turn_list {P : Program} {w : World} {K : PySem.W.Frag} {tg : Expr} (a it : Addr) : Turn P w K tg (Itl K a) [it] it (fun i h => h.IsListIter it a i) where
  mem := by simp
  obj := fun i h st b hb => by
    have e : b = it := by simpa using hb
    subst e
    obtain ⟨o, e, c, d⟩ := st
    exact ⟨o, e, fun v z => by rw [d] at z; cases z⟩
  keep := fun i h h' st k => st.at fun o e => k it (by simp) o e
  item := by
    intro X hP hw hK hc i pins s σ H E I hf st hg
    subst hP hw hK
    obtain ⟨xs, x, hq, hx⟩ := hg
    obtain ⟨its, rv, p, hz⟩ := I.list hq
    obtain ⟨u, hu, ru⟩ := rv.get hx
    obtain ⟨f0, f1, f2, f3, f4, f5⟩ := hf it (by simp)
    refine wpAny_pyNext_list_item st p.isList (x := u) (by simpa using hu) fun h' st' sb => ?_
    have I1 : Inv X pins σ H { s with heap := h' } := I.turned (t' := s.toks) (fun b o hb e => (sb.2 b hb).trans e) f0 f1 f3 f4 f5
    obtain ⟨o, e, c, d⟩ := id st'
    exact ⟨u, rfl, go_of (s := { s with heap := h' }) e c d (by decide) ⟨x, H, I1, ru, ⟨rfl, fun ys hy => by rw [I.list_inj hy hq]; exact hx⟩, st', fun b hb => (hf b hb).1⟩⟩
  done := by
    intro X hP hw hK hc i pins s σ H E I hf st hg
    subst hP hw hK
    obtain ⟨xs, hq, hx⟩ := hg
    obtain ⟨its, rv, p, hz⟩ := I.list hq
    obtain ⟨f0, f1, f2, f3, f4, f5⟩ := hf it (by simp)
    have hl := rv.length
    exact wpAny_pyNext_list_end (I.ok.hd hc) st p.isList (by simp; omega) fun h' eb => ⟨rfl, I.turned (t' := s.toks) (fun b o hb e => eb b o hb e) f0 f1 f3 f4 f5⟩
  self := fun _ _ _ _ _ st h => wpAny_pyIter_listiter st h
theorem turn_tuple {P : Program} {w : World} {K : PySem.W.Frag} {tg : Expr} (a it : Addr) : Turn P w K tg (Itt K a) [it] it (fun i h => h.IsTupleIter it a i) where
  mem := by simp
  obj := fun i h st b hb => by
    have e : b = it := by simpa using hb
    subst e
    obtain ⟨o, e, c, d⟩ := st
    exact ⟨o, e, fun v z => by rw [d] at z; cases z⟩
  keep := fun i h h' st k => st.at fun o e => k it (by simp) o e
  item := by
    intro X hP hw hK hc i pins s σ H E I hf st hg
    subst hP hw hK
    obtain ⟨xs, x, hq, hx⟩ := hg
    obtain ⟨its, rv, p, hz⟩ := I.tuple hq
    obtain ⟨u, hu, ru⟩ := rv.get hx
    obtain ⟨f0, f1, f2, f3, f4, f5⟩ := hf it (by simp)
    refine wpAny_pyNext_tuple_item st (show s.heap.IsTuple a its.toArray from p) (x := u) (by simpa using hu) fun h' st' sb => ?_
    have I1 : Inv X pins σ H { s with heap := h' } := I.turned (t' := s.toks) (fun b o hb e => (sb.2 b hb).trans e) f0 f1 f3 f4 f5
    obtain ⟨o, e, c, d⟩ := id st'
    exact ⟨u, rfl, go_of (s := { s with heap := h' }) e c d (by decide) ⟨x, H, I1, ru, ⟨rfl, fun ys hy => by rw [I.tuple_inj hy hq]; exact hx⟩, st', fun b hb => (hf b hb).1⟩⟩
  done := by
    intro X hP hw hK hc i pins s σ H E I hf st hg
    subst hP hw hK
    obtain ⟨xs, hq, hx⟩ := hg
    obtain ⟨its, rv, p, hz⟩ := I.tuple hq
    obtain ⟨f0, f1, f2, f3, f4, f5⟩ := hf it (by simp)
    have hl := rv.length
    exact wpAny_pyNext_tuple_end (I.ok.hd hc) st (show s.heap.IsTuple a its.toArray from p) (by simp; omega) fun h' eb => ⟨rfl, I.turned (t' := s.toks) (fun b o hb e => eb b o hb e) f0 f1 f3 f4 f5⟩
  self := fun _ _ _ _ _ st h => wpAny_pyIter_tupleiter st h
theorem turn_range {P : Program} {w : World} {K : PySem.W.Frag} {tg : Expr} (it : Addr) (lo : Int) (n : Nat) : Turn P w K tg (Itr lo n) [it] it (fun i h => IsRangeIter h it (lo + (i : Nat) * 1) ((n : Int) - (i : Nat)) 1) where
  mem := by simp
  obj := fun i h st b hb => by
    have e : b = it := by simpa using hb
    subst e
    exact ⟨_, st, fun v z => by
      have z' : Data.fields _ = Data.cell v := z
      cases z'⟩
  keep := fun i h h' st k => k it (by simp) _ st
  item := by
    intro X hP hw hK hc i pins s σ H E I hf st hg
    subst hP hw hK
    obtain ⟨f0, f1, f2, f3, f4, f5⟩ := hf it (by simp)
    have W := Walks.range (prog := X.prog) (w := X.w) (I.ok.hd hc) it lo 1 n
    refine W.item i s _ _ hg st fun v h' tk hv st' kk => ?_
    obtain ⟨t, rfl⟩ := hv
    have I1 : Inv X pins σ H { s with heap := h', toks := tk } := I.turned (fun b o hb e => kk b o (by simpa using hb) e) f0 f1 f3 f4 f5
    refine ⟨_, rfl, go_of (s := { s with heap := h', toks := tk }) (n := "range_iterator") st' rfl rfl (by decide) ⟨.int (lo + i), H, I1, ⟨t, ?_⟩, ⟨rfl, rfl⟩, st', fun b hb => (hf b hb).1⟩⟩
    rw [Int.mul_one]
  done := by
    intro X hP hw hK hc i pins s σ H E I hf st hg
    subst hP hw hK
    obtain ⟨f0, f1, f2, f3, f4, f5⟩ := hf it (by simp)
    exact wpAny_pyNext_range_end (I.ok.hd hc) st (by have : n ≤ i := hg; omega) fun h' eb => ⟨rfl, I.turned (t' := s.toks) (fun b o hb e => eb b o hb e) f0 f1 f3 f4 f5⟩
  self := fun _ _ _ _ _ st h => wpAny_pyIter_rangeiter st h
end L2
namespace L2
open PySem PySem.Spec PyProof.Rows
section
variable {X : Cx} {tg : Expr}
def iList (K : PySem.W.Frag) (tl : TE) : TI := fun σ H R => tl σ H fun x H1 => ∃ a, x = .ref a ∧ (∃ xs, SqL K H1 a xs) ∧ R (Itl K a) H1
def iTup (K : PySem.W.Frag) (tl : TE) : TI := fun σ H R => tl σ H fun x H1 => ∃ a, x = .ref a ∧ (∃ xs, SqT K H1 a xs) ∧ R (Itt K a) H1
theorem pi_list {l : Expr} {tl : TE} (hl : PE X l tl) : PI X tg l (iList X.K tl) := by
  intro pins s σ H R I h
  refine thn (hl pins s σ H _ I h) fun v s1 ⟨x, H1, I1, r1, q1⟩ => ?_
  obtain ⟨a, e, ⟨xs, hq⟩, q⟩ := q1
  subst e
  cases r1
  obtain ⟨its, rv, p, hz⟩ := I1.list hq
  refine wpAny_pyIter_list p.isList ?_
  refine ⟨s1.heap.objs.size, [s1.heap.objs.size], _, _, H1, rfl, I1.kept (t' := s1.toks) fun b o e => Heap.get?_push_of_some _ e, turn_list a _, ⟨_, Heap.get?_push_size _ rfl, rfl, rfl⟩, fun b hb => ?_, q⟩
  have e : b = s1.heap.objs.size := by simpa using hb
  subst e
  exact I1.fpOk (Nat.le_refl _) (I1.hok.fresh (Nat.le_refl _))
theorem pi_tup {l : Expr} {tl : TE} (hl : PE X l tl) : PI X tg l (iTup X.K tl) := by
  intro pins s σ H R I h
  refine thn (hl pins s σ H _ I h) fun v s1 ⟨x, H1, I1, r1, q1⟩ => ?_
  obtain ⟨a, e, ⟨xs, hq⟩, q⟩ := q1
  subst e
  cases r1
  obtain ⟨its, rv, p, hz⟩ := I1.tuple hq
  refine wpAny_pyIter_tuple (show s1.heap.IsTuple a its.toArray from p) ?_
  refine ⟨s1.heap.objs.size, [s1.heap.objs.size], _, _, H1, rfl, I1.kept (t' := s1.toks) fun b o e => Heap.get?_push_of_some _ e, turn_tuple a _, ⟨_, Heap.get?_push_size _ rfl, rfl, rfl⟩, fun b hb => ?_, q⟩
  have e : b = s1.heap.objs.size := by simpa using hb
  subst e
  exact I1.fpOk (Nat.le_refl _) (I1.hok.fresh (Nat.le_refl _))
/-- a range object just made, walked -/
theorem range_it {pins : List (Addr × Obj)} {σ : St} {H : Hp} {s : Shared} {R : It → Hp → Prop} {E : Value → Shared → Prop} {lo hi : Int} {t u v : Tok} {tk : Nat} (I : Inv X pins σ H s) (h1 : -(2 ^ 62) ≤ lo) (h2 : lo < 2 ^ 62) (h3 : -(2 ^ 62) ≤ hi) (h4 : hi < 2 ^ 62)
    (q : R (Itr lo (hi - lo).toNat) H) : wpAny (model X.prog X.w) X.A (pyIter (.ref s.heap.objs.size)) (PIE X pins σ tg R) E { s with heap := s.heap.push { cls := .type "range", data := .fields #[.int lo t, .int hi u, .int 1 v] }, toks := tk } := by
  refine wpAny_pyIter_range (IsRange.new ..) (small_one h1 h2 h3 h4) ?_
  have I1 : Inv X pins σ H { s with heap := s.heap.push { cls := .type "range", data := .fields #[.int lo t, .int hi u, .int 1 v] }, toks := tk } := I.kept fun b o e => Heap.get?_push_of_some _ e
  refine ⟨(s.heap.push { cls := .type "range", data := .fields #[.int lo t, .int hi u, .int 1 v] }).objs.size, [(s.heap.push { cls := .type "range", data := .fields #[.int lo t, .int hi u, .int 1 v] }).objs.size], _, _, H, rfl,
    I1.kept (t' := tk) fun b o e => Heap.get?_push_of_some _ e, turn_range _ lo (hi - lo).toNat, ?_, fun b hb => ?_, q⟩
  · have e1 : lo + ((0 : Nat) : Int) * 1 = lo := by simp
    have e2 : (((hi - lo).toNat : Nat) : Int) - ((0 : Nat) : Int) = Builtin.Range.rangeSize lo hi 1 := by rw [rangeSize_one]; split <;> omega
    show IsRangeIter _ _ (lo + ((0 : Nat) : Int) * 1) ((((hi - lo).toNat : Nat) : Int) - ((0 : Nat) : Int)) 1
    rw [e1, e2]
    exact Heap.get?_push_size _ rfl
  · have e : b = (s.heap.push { cls := .type "range", data := .fields #[.int lo t, .int hi u, .int 1 v] }).objs.size := by simpa using hb
    subst e
    exact I1.fpOk (Nat.le_refl _) (I1.hok.fresh (Nat.le_refl _))
def iRng1 (ta : TA) : TI := fun σ H R => ta σ H fun vs H1 => ∃ j : Int, vs = [.int j] ∧ -(2 ^ 62) ≤ j ∧ j < 2 ^ 62 ∧ R (Itr 0 j.toNat) H1
theorem pi_range1 {a : Expr} {ta : TA} {p pos : Pos} (hg : Gl X "range") (hm : X.mg "range" = none) (ha : PA X [a] ta) (hs : starEach [a] X.env = [(false, eval a X.env)] := by rfl) : PI X tg (.Call (.Name "range" p) [a] [] pos) (iRng1 ta) := by
  intro pins s σ H R I h
  refine Call_ (ld_blt I hg hm boot_range (PyProof.Rows.callWith_type1 (thn (ha pos pins s σ H _ I h) fun us s1 ⟨vs, H1, I1, r1, q1⟩ => ?_) hs rfl))
  obtain ⟨j, e, q1, q2, q⟩ := q1
  subst e
  cases r1 with
  | cons r rr =>
    cases rr
    obtain ⟨t, rfl⟩ := r
    exact call_range_1 (range_it I1 (by omega) (by omega) q1 q2 (by simpa using q))
/-! ### for -/
/-- W: the invariant by the turn and a measure; N: what the body is to reach -/
def tFor (wi : TI) (g : TG) (tb : TS) : TS := fun D σ H => wi σ H fun J H1 => ∃ W : Nat → Nat → St → Hp → Prop, (∃ m, W 0 m σ H1) ∧ ∀ i m σ H, W i m σ H →
  (J.stop i H ∧ D.nx σ H) ∨ (J.go i H ∧ ∃ N : St → Hp → Prop, (∀ σ' H', N σ' H' → ∃ m', m' < m ∧ W (i + 1) m' σ' H') ∧ ∀ x H', J.yld i H x H' → g x σ H' fun σ2 H2 => tb { D with nx := N, ct := N, bk := D.nx } σ2 H2)
/-- the records at fp as they stand -/
def pinsAt (fp : List Addr) (h : Heap) : List (Addr × Obj) := fp.filterMap fun b => (h.get? b).map fun o => (b, o)
theorem mem_pinsAt {fp : List Addr} {h : Heap} {b : Addr} {o : Obj} (hb : b ∈ fp) (e : h.get? b = some o) : (b, o) ∈ pinsAt fp h := List.mem_filterMap.mpr ⟨b, hb, by rw [e]; rfl⟩
theorem of_pinsAt {fp : List Addr} {h : Heap} {p : Addr × Obj} (hp : p ∈ pinsAt fp h) : p.1 ∈ fp ∧ h.get? p.1 = some p.2 := by
  obtain ⟨b, hb, e⟩ := List.mem_filterMap.mp hp
  cases q : h.get? b with
  | none => rw [q] at e; cases e
  | some o =>
    rw [q] at e
    have e' : (b, o) = p := Option.some.inj e
    subst e'
    exact ⟨hb, q⟩
theorem Inv.pinned {pins : List (Addr × Obj)} {σ : St} {H : Hp} {s : Shared} {fp : List Addr} (I : Inv X pins σ H s) (hf : ∀ b ∈ fp, FpOk X pins H b) (ho : ∀ b ∈ fp, ∃ o, s.heap.get? b = some o ∧ ∀ v, o.data ≠ .cell v) : Inv X (pins ++ pinsAt fp s.heap) σ H s :=
  I.pins_of fun p hp => (List.mem_append.mp hp).elim (fun z => I.pin p (List.mem_append_right _ z)) fun z => by
    obtain ⟨hb, e⟩ := of_pinsAt z
    obtain ⟨f0, f1, f2, _⟩ := hf p.1 hb
    obtain ⟨o, e', d⟩ := ho p.1 hb
    rw [e] at e'; cases e'
    exact ⟨e, f0, f1, f2, d⟩
theorem Inv.unpinned {pins pl : List (Addr × Obj)} {σ : St} {H : Hp} {s : Shared} (I : Inv X (pins ++ pl) σ H s) : Inv X pins σ H s := I.pins_of fun p hp => I.pin p (List.mem_append_right _ (List.mem_append_left _ hp))
theorem ps_for {iter : Expr} {body : List Stmt} {wi : TI} {g : TG} {tb : TS} {pos : Pos} (hp : PassesOwn (model X.prog X.w) X.A X.env X.xe) (hc : X.calm = true) (hi : PI X tg iter wi) (hg : PG X tg g) (hb : PSs X body tb)
    (hs : ∀ x, foldedSetIterable iter X.env x = pure x := by intro _; rfl) : PS X (.For tg iter body [] pos) (tFor wi g tb) := by
  intro pins s σ H D I h
  refine wpAny_For (thn (hi pins s σ H _ I h) fun v s1 h1 => thn h1 fun itv s2 h2 => ?_) hs
  obtain ⟨it, fp, tn, J, H2, e, I2, T, st2, f2, W, ⟨m0, w0⟩, turn⟩ := h2
  subst e
  -- what stays true of the iterator's objects through the loop
  have stat : ∀ {H' : Hp}, (∀ b ∈ fp, H' b = none) → ∀ b ∈ fp, FpOk X pins H' b := fun hn b hb => ⟨hn b hb, (f2 b hb).2⟩
  refine codeAny_forLoop_any (fun n s' => ∃ i σ' H', Inv X pins σ' H' s' ∧ tn i s'.heap ∧ (∀ b ∈ fp, H' b = none) ∧ W i n σ' H') ?_ m0 ⟨0, σ, H2, I2, st2, fun b hb => (f2 b hb).1, w0⟩
  rintro n s3 ⟨i, σ3, H3, I3, st3, fr3, w3⟩
  rcases turn i n σ3 H3 w3 with ⟨stop, qn⟩ | ⟨go, N, hN, step⟩
  · refine wpAny_passesOwn hp (thn (T.done X rfl rfl rfl hc i pins s3 σ3 H3 X.xe I3 (stat fr3) st3 stop) fun r s4 ⟨hr, I4⟩ => ?_)
    subst hr
    exact wpAny_execs_nil ⟨σ3, H3, I4, qn⟩
  · refine wpAny_passesOwn hp (thn (T.item X rfl rfl rfl hc i pins s3 σ3 H3 X.xe I3 (stat fr3) st3 go) fun r s4 ⟨u, hr, h4⟩ => ?_)
    subst hr
    refine wpAny_passesOwn hp (thn h4 fun _ s5 ⟨x, H5, I5, r5, y5, st5, fr5⟩ => ?_)
    have I5' := I5.pinned (stat fr5) (T.obj _ _ st5)
    refine wpAny_passesOwn hp (thn (hg _ s5 σ3 H5 x u _ I5' r5 (step x H5 y5)) fun _ s6 ⟨σ6, H6, I6, q6⟩ => ?_)
    refine wpAny_passesOwn hp (thn (hb _ s6 σ6 H6 _ I6 q6) fun f s7 q7 => ?_)
    have again : ∀ {σ7 : St} {H7 : Hp}, Inv X (pins ++ pinsAt fp s5.heap) σ7 H7 s7 → N σ7 H7 → ∃ m, m < n ∧ ∃ i σ' H', Inv X pins σ' H' s7 ∧ tn i s7.heap ∧ (∀ b ∈ fp, H' b = none) ∧ W i m σ' H' := fun {σ7 H7} I7 n7 => by
      obtain ⟨m', hm, w7⟩ := hN σ7 H7 n7
      refine ⟨m', hm, i + 1, σ7, H7, I7.unpinned, T.keep _ _ _ st5 fun b hb o e => (I7.pin (b, o) (List.mem_append_right _ (List.mem_append_right _ (mem_pinsAt hb e)))).1, fun b hb => ?_, w7⟩
      obtain ⟨o, e, d⟩ := T.obj _ _ st5 b hb
      exact (I7.pin (b, o) (List.mem_append_right _ (List.mem_append_right _ (mem_pinsAt hb e)))).2.1
    cases f with
    | next => obtain ⟨σ7, H7, I7, n7⟩ := q7; exact again I7 n7
    | cont => obtain ⟨σ7, H7, I7, n7⟩ := q7; exact again I7 n7
    | brk => obtain ⟨σ7, H7, I7, q7⟩ := q7; exact ⟨σ7, H7, I7.unpinned, q7⟩
    | ret v => obtain ⟨x7, σ7, H7, I7, r7, q7⟩ := q7; exact ⟨x7, σ7, H7, I7.unpinned, r7, q7⟩
end
/-! ### the forms one uses -/
/-- over a list that the body leaves as it is -/
theorem for_list {K : PySem.W.Frag} {a : Addr} {xs : List V} {g : TG} {tb : TS} {D : Ends} {σ : St} {H : Hp} (Pv : Nat → St → Hp → Prop) (h0 : Pv 0 σ H) (hl : ∀ i σ H, i ≤ xs.length → Pv i σ H → SqL K H a xs)
    (hs : ∀ i x σ H, xs[i]? = some x → Pv i σ H → g x σ H fun σ2 H2 => tb { D with nx := Pv (i + 1), ct := Pv (i + 1), bk := D.nx } σ2 H2) (hd : ∀ σ H, Pv xs.length σ H → D.nx σ H) :
    ∃ W : Nat → Nat → St → Hp → Prop, (∃ m, W 0 m σ H) ∧ ∀ i m σ H, W i m σ H →
      ((Itl K a).stop i H ∧ D.nx σ H) ∨ ((Itl K a).go i H ∧ ∃ N : St → Hp → Prop, (∀ σ' H', N σ' H' → ∃ m', m' < m ∧ W (i + 1) m' σ' H') ∧ ∀ x H', (Itl K a).yld i H x H' → g x σ H' fun σ2 H2 => tb { D with nx := N, ct := N, bk := D.nx } σ2 H2) := by
  refine ⟨fun i m σ H => m = xs.length - i ∧ i ≤ xs.length ∧ Pv i σ H, ⟨xs.length, by simp, Nat.zero_le _, h0⟩, ?_⟩
  rintro i m σ H ⟨rfl, hi, p⟩
  have q := hl i σ H hi p
  by_cases hlt : i < xs.length
  · refine .inr ⟨⟨xs, xs[i], q, by simp [hlt]⟩, Pv (i + 1), fun σ' H' p' => ⟨xs.length - (i + 1), by omega, rfl, hlt, p'⟩, fun x H' y => ?_⟩
    obtain ⟨e, y⟩ := y
    subst e
    exact hs i x σ _ (y xs q) p
  · have e : i = xs.length := by omega
    subst e
    exact .inl ⟨⟨xs, q, Nat.le_refl _⟩, hd σ H p⟩
theorem for_tup {K : PySem.W.Frag} {a : Addr} {xs : List V} {g : TG} {tb : TS} {D : Ends} {σ : St} {H : Hp} (Pv : Nat → St → Hp → Prop) (h0 : Pv 0 σ H) (hl : ∀ i σ H, i ≤ xs.length → Pv i σ H → SqT K H a xs)
    (hs : ∀ i x σ H, xs[i]? = some x → Pv i σ H → g x σ H fun σ2 H2 => tb { D with nx := Pv (i + 1), ct := Pv (i + 1), bk := D.nx } σ2 H2) (hd : ∀ σ H, Pv xs.length σ H → D.nx σ H) :
    ∃ W : Nat → Nat → St → Hp → Prop, (∃ m, W 0 m σ H) ∧ ∀ i m σ H, W i m σ H →
      ((Itt K a).stop i H ∧ D.nx σ H) ∨ ((Itt K a).go i H ∧ ∃ N : St → Hp → Prop, (∀ σ' H', N σ' H' → ∃ m', m' < m ∧ W (i + 1) m' σ' H') ∧ ∀ x H', (Itt K a).yld i H x H' → g x σ H' fun σ2 H2 => tb { D with nx := N, ct := N, bk := D.nx } σ2 H2) := by
  refine ⟨fun i m σ H => m = xs.length - i ∧ i ≤ xs.length ∧ Pv i σ H, ⟨xs.length, by simp, Nat.zero_le _, h0⟩, ?_⟩
  rintro i m σ H ⟨rfl, hi, p⟩
  have q := hl i σ H hi p
  by_cases hlt : i < xs.length
  · refine .inr ⟨⟨xs, xs[i], q, by simp [hlt]⟩, Pv (i + 1), fun σ' H' p' => ⟨xs.length - (i + 1), by omega, rfl, hlt, p'⟩, fun x H' y => ?_⟩
    obtain ⟨e, y⟩ := y
    subst e
    exact hs i x σ _ (y xs q) p
  · have e : i = xs.length := by omega
    subst e
    exact .inl ⟨⟨xs, q, Nat.le_refl _⟩, hd σ H p⟩
/-- while, by a word and a measure of the state -/
theorem while_by {c : TT} {tb : TS} {D : Ends} {σ : St} {H : Hp} (Pv : St → Hp → Prop) (μ : St → Hp → Nat) (h0 : Pv σ H)
    (hs : ∀ σ H, Pv σ H → c σ H fun b H1 => if b = true then tb { D with nx := fun σ' H' => Pv σ' H' ∧ μ σ' H' < μ σ H, ct := fun σ' H' => Pv σ' H' ∧ μ σ' H' < μ σ H, bk := D.nx } σ H1 else D.nx σ H1)
    (mono : ∀ σ H Q Q', (∀ b H1, Q b H1 → Q' b H1) → c σ H Q → c σ H Q') : tWhile c tb D σ H := by
  refine ⟨fun m σ H => m = μ σ H ∧ Pv σ H, ⟨_, rfl, h0⟩, ?_⟩
  rintro m σ H ⟨rfl, p⟩
  refine mono σ H _ _ (fun b H1 q => ?_) (hs σ H p)
  cases b with
  | true => exact ⟨_, fun σ' H' ⟨p', l⟩ => ⟨_, l, rfl, p'⟩, q⟩
  | false => exact q
end L2
namespace L2
open PySem PySem.Spec PyProof.Rows
abbrev R2 := V → V → Hp → VK → Prop
/-- a two-place operation on values: f is binaryOp op, inplaceOp op or compareOp op -/
def OpR (X : Cx) (f : Value → Value → Sem Value) (r : R2) : Prop :=
  ∀ (pins : List (Addr × Obj)) (s : Shared) (σ : St) (H : Hp) (x y : V) (v u : Value) (Q : VK), Inv X pins σ H s → RelV x v → RelV y u → r x y H Q →
    wpAny (model X.prog X.w) X.A (f v u) (EP X pins σ Q) X.xe s
/-- a call of a value that is known (a builtin, a type) with values -/
def CallR (X : Cx) (f : Value) (r : List V → Hp → VK → Prop) : Prop :=
  ∀ (pins : List (Addr × Obj)) (s : Shared) (σ : St) (H : Hp) (xs : List V) (us : List Value) (Q : VK), Inv X pins σ H s → Vals xs us → r xs H Q →
    wpAny (model X.prog X.w) X.A (call f us) (EP X pins σ Q) X.xe s
def tOp (r : R2) (ta tb : TE) : TE := fun σ H Q => ta σ H fun x H1 => tb σ H1 fun y H2 => r x y H2 Q
/-- ints in, under C, and a value out -/
def rI (C : Int → Int → Prop) (g : Int → Int → V) : R2 := fun x y H Q => ∃ i j, x = .int i ∧ y = .int j ∧ C i j ∧ Q (g i j) H
def rI0 (g : Int → Int → V) : R2 := fun x y H Q => ∃ i j, x = .int i ∧ y = .int j ∧ Q (g i j) H
section
variable {X : Cx} {a b c : Expr} {ta tb tc : TE} {pos : Pos}
theorem binT (ha : PE X a ta) (hb : PE X b tb) {pins : List (Addr × Obj)} {s : Shared} {σ : St} {H : Hp} {R : V → V → Hp → Prop} (I : Inv X pins σ H s)
    (h : ta σ H fun x H1 => tb σ H1 fun y H2 => R x y H2) {Q : Value → Shared → Prop} {f : Value → Value → Sem Value}
    (hf : ∀ v u s2 x y H2, Inv X pins σ H2 s2 → RelV x v → RelV y u → R x y H2 → wpAny (model X.prog X.w) X.A (f v u) Q X.xe s2) :
    wpAny (model X.prog X.w) X.A (eval a X.env) (fun v s₁ => wpAny (model X.prog X.w) X.A (eval b X.env) (fun u s₂ => wpAny (model X.prog X.w) X.A (f v u) Q X.xe s₂) X.xe s₁) X.xe s := by
  refine thn (ha pins s σ H _ I h) fun v s1 ⟨x, H1, I1, r1, q1⟩ => ?_
  refine thn (hb pins s1 σ H1 _ I1 q1) fun u s2 ⟨y, H2, I2, r2, q2⟩ => ?_
  exact hf v u s2 x y H2 I2 r1 r2 q2
theorem pe_op {op : Operator} {r : R2} (ho : OpR X (binaryOp op) r) (ha : PE X a ta) (hb : PE X b tb) : PE X (.BinOp a op b pos) (tOp r ta tb) := by
  intro pins s σ H Q I h
  exact wpAny_BinOp (binT ha hb I h fun v u s2 x y H2 I2 rx ry q => ho pins s2 σ H2 x y v u Q I2 rx ry q)
/-! ### ints -/
theorem opI {f : Value → Value → Sem Value} {C : Int → Int → Prop} {g : Int → Int → Int}
    (rule : ∀ (i j : Int) (t u : Tok) (s : Shared) (Q : Value → Shared → Prop) (E : Value → Shared → Prop), C i j → Q (.int (g i j) s.toks) { s with toks := s.toks + 1 } → wpAny (model X.prog X.w) X.A (f (.int i t) (.int j u)) Q E s) :
    OpR X f (rI C fun i j => .int (g i j)) := by
  intro pins s σ H x y v u Q I rx ry h
  obtain ⟨i, j, rfl, rfl, hc, q⟩ := h
  obtain ⟨t, rfl⟩ := rx
  obtain ⟨t', rfl⟩ := ry
  exact rule i j t t' s _ _ hc ⟨.int (g i j), H, I.tok _, ⟨_, rfl⟩, q⟩
theorem opI0 {f : Value → Value → Sem Value} {g : Int → Int → Int}
    (rule : ∀ (i j : Int) (t u : Tok) (s : Shared) (Q : Value → Shared → Prop) (E : Value → Shared → Prop), Q (.int (g i j) s.toks) { s with toks := s.toks + 1 } → wpAny (model X.prog X.w) X.A (f (.int i t) (.int j u)) Q E s) :
    OpR X f (rI0 fun i j => .int (g i j)) := by
  intro pins s σ H x y v u Q I rx ry h
  obtain ⟨i, j, rfl, rfl, q⟩ := h
  obtain ⟨t, rfl⟩ := rx
  obtain ⟨t', rfl⟩ := ry
  exact rule i j t t' s _ _ ⟨.int (g i j), H, I.tok _, ⟨_, rfl⟩, q⟩
theorem opB0 {f : Value → Value → Sem Value} {g : Int → Int → Bool}
    (rule : ∀ (i j : Int) (t u : Tok) (s : Shared) (Q : Value → Shared → Prop) (E : Value → Shared → Prop), Q (.bool (g i j)) s → wpAny (model X.prog X.w) X.A (f (.int i t) (.int j u)) Q E s) :
    OpR X f (rI0 fun i j => .bl (g i j)) := by
  intro pins s σ H x y v u Q I rx ry h
  obtain ⟨i, j, rfl, rfl, q⟩ := h
  obtain ⟨t, rfl⟩ := rx
  obtain ⟨t', rfl⟩ := ry
  exact rule i j t t' s _ _ ⟨.bl (g i j), H, I, rfl, q⟩
def CPow (i j : Int) : Prop := 0 ≤ j ∧ j ≤ 1000000 ∧ i.natAbs < 2 ^ 64
theorem two_pow_nn (k : Nat) : (0 : Int) ≤ 2 ^ k := by
  rw [two_pow_cast]
  exact Int.natCast_nonneg _
theorem op_add : OpR X (binaryOp .Add) (rI0 fun i j => .int (i + j)) := opI0 fun _ _ _ _ _ _ _ q => add_int q
theorem op_sub : OpR X (binaryOp .Sub) (rI0 fun i j => .int (i - j)) := opI0 fun _ _ _ _ _ _ _ q => sub_int q
/-- % by a positive divisor of any size -/
theorem op_mod : OpR X (binaryOp .Mod) (rI (fun _ j => 0 < j) fun i j => .int (i % j)) := opI fun i j _ _ _ _ _ hc q => by
  have h1 : (0 : Int) < j := hc
  exact mod_int' (by omega) (by rw [Int.fmod_eq_emod_of_nonneg i (by omega)]; exact q)
theorem op_pow : OpR X (binaryOp .Pow) (rI CPow fun i j => .int (i ^ j.toNat)) := opI fun _ _ _ _ _ _ _ hc q => pow_int_small hc.1 hc.2.1 hc.2.2 q
theorem op_shr : OpR X (binaryOp .RShift) (rI (fun _ j => 0 ≤ j) fun i j => .int (i / 2 ^ j.toNat)) := opI fun i j _ _ _ _ _ hc q =>
  rshift_int hc (by rw [Int.fdiv_eq_ediv_of_nonneg i (two_pow_nn _)]; exact q)
theorem op_and : OpR X (binaryOp .BitAnd) (rI0 fun i j => .int (Builtin.bitAnd i j)) := opI0 fun _ _ _ _ _ _ _ q => and_int q
theorem iop_add : OpR X (inplaceOp .Add) (rI0 fun i j => .int (i + j)) := opI0 fun _ _ _ _ _ _ _ q => iadd_int q
/-! ### bools among ints: n += (a < b) -/
end
/-! ### comparisons -/
/-- the scalars that == tells apart as data does -/
def scal : V → V → Bool
  | .non, .non => true | .non, .int _ => true | .int _, .non => true | .non, .bl _ => true | .bl _, .non => true | .non, .str _ => true | .str _, .non => true
  | .int _, .int _ => true | .bl _, .bl _ => true | .str _, .str _ => true | .byt _, .byt _ => true
  | .int _, .str _ => true | .str _, .int _ => true | .bl _, .str _ => true | .str _, .bl _ => true
  | _, _ => false
def rEq : R2 := fun x y H Q => scal x y = true ∧ Q (.bl (decide (x = y))) H
def rNe : R2 := fun x y H Q => scal x y = true ∧ Q (.bl (!decide (x = y))) H
theorem dec_int {i j : Int} : decide (V.int i = V.int j) = (i == j) := by
  rw [Bool.eq_iff_iff]
  simp
theorem dec_bl {i j : Bool} : decide (V.bl i = V.bl j) = (i == j) := by
  rw [Bool.eq_iff_iff]
  simp
theorem dec_str {i j : Str} : decide (V.str i = V.str j) = (i == j) := by
  rw [Bool.eq_iff_iff]
  simp
theorem dec_byt {i j : Array UInt8} : decide (V.byt i = V.byt j) = (i.toList == j.toList) := by
  rw [Bool.eq_iff_iff]
  cases i
  cases j
  simp
section
variable {X : Cx} {a b c : Expr} {ta tb tc : TE} {pos : Pos}
theorem fin_bl {pins : List (Addr × Obj)} {σ : St} {H : Hp} {s : Shared} {Q : VK} {k k' : Bool} (I : Inv X pins σ H s) (q : Q (.bl k) H) (e : k = k') : EP X pins σ Q (.bool k') s := by
  subst e
  exact ⟨.bl k, H, I, rfl, q⟩
theorem op_eq : OpR X (compareOp .Eq) rEq := by
  intro pins s σ H x y v u Q I rx ry h
  obtain ⟨hs, q⟩ := h
  cases x with
  | non =>
    cases rx
    cases y with
    | non => cases ry; exact PySem.EqNone.eq_none_none (fin_bl I q (by simp))
    | bl j => cases ry; exact PySem.EqNone.eq_none_bool (fin_bl I q (by simp))
    | int j => obtain ⟨t', rfl⟩ := ry; exact PySem.EqNone.eq_none_int (fin_bl I q (by simp))
    | str j => obtain ⟨t', rfl⟩ := ry; exact PySem.EqNone.eq_none_str (fin_bl I q (by simp))
    | _ => exact absurd (show false = true from hs) Bool.false_ne_true
  | bl i =>
    cases rx
    cases y with
    | non => cases ry; exact PySem.EqNone.eq_bool_none (fin_bl I q (by simp))
    | bl j => cases ry; exact eq_bool (fin_bl I q dec_bl)
    | str j => obtain ⟨t', rfl⟩ := ry; exact PySem.EqMixed.eq_bool_str (fin_bl I q (by simp))
    | _ => exact absurd (show false = true from hs) Bool.false_ne_true
  | int i =>
    obtain ⟨t, rfl⟩ := rx
    cases y with
    | non => cases ry; exact PySem.EqNone.eq_int_none (fin_bl I q (by simp))
    | int j => obtain ⟨t', rfl⟩ := ry; exact eq_int (fin_bl I q dec_int)
    | str j => obtain ⟨t', rfl⟩ := ry; exact PySem.EqMixed.eq_int_str (fin_bl I q (by simp))
    | _ => exact absurd (show false = true from hs) Bool.false_ne_true
  | str i =>
    obtain ⟨t, rfl⟩ := rx
    cases y with
    | non => cases ry; exact PySem.EqNone.eq_str_none (fin_bl I q (by simp))
    | bl j => cases ry; exact PySem.EqMixed.eq_str_bool (fin_bl I q (by simp))
    | int j => obtain ⟨t', rfl⟩ := ry; exact PySem.EqMixed.eq_str_int (fin_bl I q (by simp))
    | str j => obtain ⟨t', rfl⟩ := ry; exact eq_str (fin_bl I q dec_str)
    | _ => exact absurd (show false = true from hs) Bool.false_ne_true
  | byt i =>
    obtain ⟨t, rfl⟩ := rx
    cases y with
    | byt j => obtain ⟨t', rfl⟩ := ry; exact PySem.W.eq_bytes (fin_bl I q dec_byt)
    | _ => exact absurd (show false = true from hs) Bool.false_ne_true
  | _ => cases y <;> exact absurd (show false = true from hs) Bool.false_ne_true
theorem op_ne : OpR X (compareOp .NotEq) rNe := by
  intro pins s σ H x y v u Q I rx ry h
  obtain ⟨hs, q⟩ := h
  cases x with
  | non =>
    cases rx
    cases y with
    | non => cases ry; exact PySem.EqNone.ne_none_none (fin_bl I q (by simp))
    | bl j => cases ry; exact PySem.EqNone.ne_none_bool (fin_bl I q (by simp))
    | int j => obtain ⟨t', rfl⟩ := ry; exact PySem.EqNone.ne_none_int (fin_bl I q (by simp))
    | str j => obtain ⟨t', rfl⟩ := ry; exact PySem.EqNone.ne_none_str (fin_bl I q (by simp))
    | _ => exact absurd (show false = true from hs) Bool.false_ne_true
  | bl i =>
    cases rx
    cases y with
    | non => cases ry; exact PySem.EqNone.ne_bool_none (fin_bl I q (by simp))
    | bl j => cases ry; exact ne_bool (fin_bl I q (congrArg not dec_bl))
    | str j => obtain ⟨t', rfl⟩ := ry; exact PySem.EqMixed.ne_bool_str (fin_bl I q (by simp))
    | _ => exact absurd (show false = true from hs) Bool.false_ne_true
  | int i =>
    obtain ⟨t, rfl⟩ := rx
    cases y with
    | non => cases ry; exact PySem.EqNone.ne_int_none (fin_bl I q (by simp))
    | int j => obtain ⟨t', rfl⟩ := ry; exact ne_int (fin_bl I q (congrArg not dec_int))
    | str j => obtain ⟨t', rfl⟩ := ry; exact PySem.EqMixed.ne_int_str (fin_bl I q (by simp))
    | _ => exact absurd (show false = true from hs) Bool.false_ne_true
  | str i =>
    obtain ⟨t, rfl⟩ := rx
    cases y with
    | non => cases ry; exact PySem.EqNone.ne_str_none (fin_bl I q (by simp))
    | bl j => cases ry; exact PySem.EqMixed.ne_str_bool (fin_bl I q (by simp))
    | int j => obtain ⟨t', rfl⟩ := ry; exact PySem.EqMixed.ne_str_int (fin_bl I q (by simp))
    | str j => obtain ⟨t', rfl⟩ := ry; exact ne_str (fin_bl I q (congrArg not dec_str))
    | _ => exact absurd (show false = true from hs) Bool.false_ne_true
  | byt i =>
    obtain ⟨t, rfl⟩ := rx
    cases y with
    | byt j => obtain ⟨t', rfl⟩ := ry; exact PySem.W.ne_bytes (fin_bl I q (congrArg not dec_byt))
    | _ => exact absurd (show false = true from hs) Bool.false_ne_true
  | _ => cases y <;> exact absurd (show false = true from hs) Bool.false_ne_true
theorem op_lt : OpR X (compareOp .Lt) (rI0 fun i j => .bl (decide (i < j))) := opB0 fun _ _ _ _ _ _ _ q => lt_int q
theorem op_le : OpR X (compareOp .LtE) (rI0 fun i j => .bl (decide (i ≤ j))) := opB0 fun _ _ _ _ _ _ _ q => le_int q
theorem op_gt : OpR X (compareOp .Gt) (rI0 fun i j => .bl (decide (j < i))) := opB0 fun _ _ _ _ _ _ _ q => gt_int q
theorem op_ge : OpR X (compareOp .GtE) (rI0 fun i j => .bl (decide (j ≤ i))) := opB0 fun _ _ _ _ _ _ _ q => ge_int q
/-- the one string within the other -/
theorem op_in_str : OpR X (compareOp .In) (fun x y H Q => ∃ i j, x = .str i ∧ y = .str j ∧ Q (.bl (!(Builtin.Str.occurrences j i 0 j.length 1).isEmpty)) H) := by
  intro pins s σ H x y v u Q I rx ry h
  obtain ⟨i, j, rfl, rfl, q⟩ := h
  obtain ⟨t, rfl⟩ := rx
  obtain ⟨t', rfl⟩ := ry
  exact in_str (fin_bl I q rfl)
theorem nomark (b : Expr) {op : CmpOp} (h : op ≠ .In := by decide) (h2 : op ≠ .NotIn := by decide) : behindInMarks op b = false := by
  have e1 : (op == CmpOp.In) = false := by cases op <;> first | rfl | exact absurd rfl h
  have e2 : (op == CmpOp.NotIn) = false := by cases op <;> first | rfl | exact absurd rfl h2
  cases b <;> simp [behindInMarks, e1, e2]
/-- a comparison as a value; hm: nomark b, or (for in, not in) by with_unfolding_all rfl -/
theorem pe_cmpR {op : CmpOp} {r : R2} (ho : OpR X (compareOp op) r) (ha : PE X a ta) (hb : PE X b tb) (hm : behindInMarks op b = false) : PE X (.Compare a [op] [b] pos) (tOp r ta tb) := by
  intro pins s σ H Q I h
  exact wpAny_Compare1 (binT ha hb I h fun v u s2 x y H2 I2 rx ry q => ho pins s2 σ H2 x y v u Q I2 rx ry q) hm
/-- a reading of a value as a test -/
def tTest (t : TE) : TT := fun σ H Q => t σ H fun x H' => ∃ k, x = .bl k ∧ Q k H'
theorem pt_cmpR {op : CmpOp} {r : R2} (ho : OpR X (compareOp op) r) (ha : PE X a ta) (hb : PE X b tb) (hm : behindInMarks op b = false) : PT X (.Compare a [op] [b] pos) (tTest (tOp r ta tb)) := by
  intro pins s σ H Q I h
  refine wpAny_isTrue_Compare1 (thn (ha pins s σ H _ I h) fun v s1 ⟨x, H1, I1, r1, q1⟩ => thn (hb pins s1 σ H1 _ I1 q1) fun u s2 ⟨y, H2, I2, r2, q2⟩ =>
    thn (ho pins s2 σ H2 x y v u _ I2 r1 r2 q2) fun c s3 ⟨z, H3, I3, r3, k, e, q3⟩ => ?_) hm
  subst e
  cases r3
  exact wpAny_truthy_bool ⟨H3, I3, q3⟩
/-- a op1 b op2 c -/
def tChain (r r' : R2) (ta tb tc : TE) : TE := fun σ H Q => ta σ H fun x H1 => tb σ H1 fun y H2 => r x y H2 fun z H3 => ∃ k, z = .bl k ∧
  (if k = true then tc σ H3 fun w' H4 => r' y w' H4 Q else Q (.bl false) H3)
theorem pe_chain {op op' : CmpOp} {r r' : R2} (ho : OpR X (compareOp op) r) (ho' : OpR X (compareOp op') r') (ha : PE X a ta) (hb : PE X b tb) (hc : PE X c tc)
    (hm : lastMarks [op, op'] [b, c] = false := by with_unfolding_all rfl) : PE X (.Compare a [op, op'] [b, c] pos) (tChain r r' ta tb tc) := by
  intro pins s σ H Q I h
  refine Compare_chain (thn (ha pins s σ H _ I h) fun v s1 ⟨x, H1, I1, r1, q1⟩ => chain_link (thn (hb pins s1 σ H1 _ I1 q1) fun u s2 ⟨y, H2, I2, r2, q2⟩ =>
    thn (ho pins s2 σ H2 x y v u _ I2 r1 r2 q2) fun d s3 ⟨z, H3, I3, r3, k, e, q3⟩ => ?_)) hm
  subst e
  cases r3
  refine wpAny_truthy_bool ?_
  cases k with
  | false => exact ite_ff ⟨.bl false, H3, I3, rfl, q3⟩
  | true => exact ite_tt (chain_last (thn (hc pins s3 σ H3 _ I3 q3) fun w' s4 ⟨z', H4, I4, r4, q4⟩ => ho' pins s4 σ H4 y z' u w' Q I4 r2 r4 q4))
theorem pt_chain {op op' : CmpOp} {r r' : R2} (ho : OpR X (compareOp op) r) (ho' : OpR X (compareOp op') r') (ha : PE X a ta) (hb : PE X b tb) (hc : PE X c tc)
    (hm : lastMarks [op, op'] [b, c] = false := by with_unfolding_all rfl) : PT X (.Compare a [op, op'] [b, c] pos) (tTest (tChain r r' ta tb tc)) := by
  intro pins s σ H Q I h
  refine isTrue_chain (thn (ha pins s σ H _ I h) fun v s1 ⟨x, H1, I1, r1, q1⟩ => test_link (thn (hb pins s1 σ H1 _ I1 q1) fun u s2 ⟨y, H2, I2, r2, q2⟩ =>
    thn (ho pins s2 σ H2 x y v u _ I2 r1 r2 q2) fun d s3 ⟨z, H3, I3, r3, k, e, q3⟩ => ?_)) hm
  subst e
  cases r3
  refine wpAny_truthy_bool ?_
  cases k with
  | false =>
    obtain ⟨k', e', q'⟩ := q3
    cases e'
    exact ite_ff ⟨H3, I3, q'⟩
  | true =>
    refine ite_tt (test_last (thn (hc pins s3 σ H3 _ I3 q3) fun w' s4 ⟨z', H4, I4, r4, q4⟩ => thn (ho' pins s4 σ H4 y z' u w' _ I4 r2 r4 q4) fun d' s5 ⟨z2, H5, I5, r5, k2, e2, q5⟩ => ?_))
    subst e2
    cases r5
    exact wpAny_truthy_bool ⟨H5, I5, q5⟩
/-! ### truth -/
theorem line63 : (sizeLine : Nat) < 2 ^ 63 := by rw [sizeLine_eq]; decide
/-! ### strs and bytes -/
/-! ### scalar builtins, by CallR -/
theorem vals1 {x : V} {us : List Value} (r : Vals [x] us) : ∃ u, us = [u] ∧ RelV x u := by
  cases r with
  | cons r1 r2 => cases r2; exact ⟨_, rfl, r1⟩
theorem vals2 {x y : V} {us : List Value} (r : Vals [x, y] us) : ∃ u w', us = [u, w'] ∧ RelV x u ∧ RelV y w' := by
  cases r with
  | cons r1 r2 =>
    cases r2 with
    | cons r3 r4 => cases r4; exact ⟨_, _, rfl, r1, r3⟩
theorem call_max2 (hc : X.calm = true) : CallR X (.builtin "max") (fun xs H Q => ∃ i j, xs = [.int i, .int j] ∧ Q (.int (if j > i then j else i)) H) := by
  intro pins s σ H xs us Q I r h
  obtain ⟨i, j, rfl, q⟩ := h
  obtain ⟨u, w', rfl, ⟨t, rfl⟩, ⟨t', rfl⟩⟩ := vals2 r
  refine max_two_ints (I.ok.hd hc) fun h' tk k => ⟨_, H, I.kept k, ?_, q⟩
  by_cases hj : j > i
  · rw [if_pos hj, if_pos hj]; exact ⟨_, rfl⟩
  · rw [if_neg hj, if_neg hj]; exact ⟨_, rfl⟩
theorem call_min2 (hc : X.calm = true) : CallR X (.builtin "min") (fun xs H Q => ∃ i j, xs = [.int i, .int j] ∧ Q (.int (if j < i then j else i)) H) := by
  intro pins s σ H xs us Q I r h
  obtain ⟨i, j, rfl, q⟩ := h
  obtain ⟨u, w', rfl, ⟨t, rfl⟩, ⟨t', rfl⟩⟩ := vals2 r
  refine min_two_ints (I.ok.hd hc) fun h' tk k => ⟨_, H, I.kept k, ?_, q⟩
  by_cases hj : j < i
  · rw [if_pos hj, if_pos hj]; exact ⟨_, rfl⟩
  · rw [if_neg hj, if_neg hj]; exact ⟨_, rfl⟩
theorem call_int1 : CallR X (.type "int") (fun xs H Q => (∃ i, xs = [.int i] ∧ Q (.int i) H) ∨ ∃ k, xs = [.bl k] ∧ Q (.int (if k then 1 else 0)) H) := by
  intro pins s σ H xs us Q I r h
  rcases h with ⟨i, rfl, q⟩ | ⟨k, rfl, q⟩
  · obtain ⟨u, rfl, t, rfl⟩ := vals1 r
    exact call_int_int ⟨.int i, H, I, ⟨_, rfl⟩, q⟩
  · obtain ⟨u, rfl, r1⟩ := vals1 r
    cases r1
    exact call_int_bool ⟨.int (if k then 1 else 0), H, I.tok _, ⟨_, rfl⟩, q⟩
/-- len of a str, a bytes, a list, a tuple -/
def LenV (K : PySem.W.Frag) (x : V) (H : Hp) (n : Nat) : Prop :=
  match x with
  | .str y => y.length ≤ sizeLine ∧ n = y.length
  | .byt y => y.size ≤ sizeLine ∧ n = y.size
  | .ref p => (∃ xs, SqL K H p xs ∧ n = xs.length) ∨ ∃ xs, SqT K H p xs ∧ n = xs.length
  | _ => False
theorem call_len : CallR X (.builtin "len") (fun xs H Q => ∃ x n, xs = [x] ∧ LenV X.K x H n ∧ Q (.int n) H) := by
  intro pins s σ H xs us Q I r h
  obtain ⟨x, n, rfl, e, q⟩ := h
  obtain ⟨u, rfl, rx⟩ := vals1 r
  have hl := line63
  have hs : sizeLine = 16777216 := sizeLine_eq
  cases x with
  | str y =>
    obtain ⟨t, rfl⟩ := rx
    obtain ⟨hy, e'⟩ : y.length ≤ sizeLine ∧ n = y.length := e
    subst e'
    exact len_str (by omega) ⟨.int _, H, I.tok _, ⟨_, rfl⟩, q⟩
  | byt y =>
    obtain ⟨t, rfl⟩ := rx
    obtain ⟨hy, e'⟩ : y.size ≤ sizeLine ∧ n = y.size := e
    subst e'
    exact PySem.W.len_bytes (by omega) ⟨.int _, H, I.tok _, ⟨_, rfl⟩, q⟩
  | ref p =>
    cases rx
    have e' : (∃ xs, SqL X.K H p xs ∧ n = xs.length) ∨ ∃ xs, SqT X.K H p xs ∧ n = xs.length := e
    rcases e' with ⟨xs, hx, e'⟩ | ⟨xs, hx, e'⟩
    · subst e'
      obtain ⟨its, r', pl, hz⟩ := I.list hx
      have hlen := r'.length
      exact Calls.call_len_list pl.isList (by simp only [List.size_toArray]; omega) ⟨.int xs.length, H, I.tok _, ⟨_, by simp only [List.size_toArray]; rw [hlen]⟩, q⟩
    · subst e'
      obtain ⟨its, r', pl, hz⟩ := I.tuple hx
      have hlen := r'.length
      exact len_tuple pl (by simp only [List.size_toArray]; omega) ⟨.int xs.length, H, I.tok _, ⟨_, by simp only [List.size_toArray]; rw [hlen]⟩, q⟩
  | _ => exact (show False from e).elim
end
end L2
namespace L2
open PySem PySem.Spec PyProof.Rows
/-! ### an instance, its attributes a map -/
structure ObjM (h : Heap) (x dx C : Addr) (mA : Str → Option Value) : Prop where
  obj : h.get? x = some (PySem.W.instObj C dx)
  ns : h.Ns1 dx mA
  ne : dx ≠ x
theorem lookIn_ns {h : Heap} {dx : Addr} {mA : Str → Option Value} (n : h.Ns1 dx mA) : ∃ od, h.get? dx = some od ∧ ∀ name, PySem.W.lookIn name od = some (mA name) := by
  obtain ⟨o, es, ep, ho, hd, hk, _, hm⟩ := n
  refine ⟨o, ho, fun name => ?_⟩
  have e := hm name
  unfold nsFind findBy at e
  rw [← Array.find?_toList] at e
  unfold PySem.W.lookIn
  rw [hd]
  dsimp only
  split
  · rename_i y q
    rw [q] at e
    exact congrArg some e
  · rename_i q
    rw [q] at e
    have a : es.toList.any (·.refKey) = false := by
      rw [List.any_eq_false]
      intro y hy
      obtain ⟨z, t, hkey⟩ := hk y (Array.mem_toList_iff.mp hy)
      simp [DictEntry.refKey, hkey]
    have a' : ¬ es.toList.any (·.refKey) = true := by rw [a]; exact Bool.false_ne_true
    rw [if_neg a']
    exact congrArg some e
theorem ObjM.look {h : Heap} {x dx C : Addr} {mA : Str → Option Value} (I : ObjM h x dx C mA) : ∃ od, PySem.W.InstAt h x (PySem.W.instObj C dx) C (some od) ∧ ∀ name, PySem.W.lookIn name od = some (mA name) :=
  let ⟨od, ho, hl⟩ := lookIn_ns I.ns
  ⟨od, ⟨I.obj, rfl, rfl, ho⟩, hl⟩
section
variable {prog : Program} {w : World} {A : Around} {E : Value → Shared → Prop} {s : Shared} {K : PySem.W.Frag} {x dx C f : Addr} {mA : Str → Option Value} {name : Str} {v : Value}
theorem get_map {expr : Bool} {Q : Value → Shared → Prop} (X : K.In s.heap) (I : ObjM s.heap x dx C mA) (hg : PySem.W.plainGet K C name = true) (hh : PySem.W.hasDictIn K C = true)
    (ha : PySem.W.findIn K (.ref C) name = some none) (hv : mA name = some v) (hv' : PySem.W.handedIn v = true) (h : Q v { s with toks := s.toks + 1 }) :
    wpAny (model prog w) A (getAttr (.ref x) name expr) Q E s := by
  obtain ⟨od, J, hl⟩ := I.look
  exact PySem.W.get_value X J (PySem.W.plainGet_of hg).1 (PySem.W.findObj_own hh ha rfl (by rw [hl, hv])) hv' h
theorem get_meth {pl : Sem Bool} {Q : Value × List Value → Shared → Prop} (X : K.In s.heap) (I : ObjM s.heap x dx C mA) (hg : PySem.W.plainGet K C name = true)
    (hf : PySem.W.findIn K (.ref C) name = some (some (.ref f))) (ht : PySem.W.isFn K (.ref f) = true) (hv : mA name = none) (h : Q (.ref f, [.ref x]) s) :
    wpAny (model prog w) A (getMethod (.ref x) name pl) Q E s := by
  obtain ⟨od, J, hl⟩ := I.look
  exact PySem.W.method_fn X J (PySem.W.plainGet_of hg).1 (PySem.W.plainGet_of hg).2 hf (beq_iff_eq.mp ht) (by show (PySem.W.lookIn name od).map (·.isSome) = some false; rw [hl, hv]; rfl) h
theorem set_map {ns : List Str} {Q : Unit → Shared → Prop} (X : K.In s.heap) (I : ObjM s.heap x dx C mA)
    (hs : PySem.W.findIn K (.ref C) "__setattr__" = some (some (.builtin "object.__setattr__"))) (hp : PySem.W.plainOver K C = true) (ht : PySem.W.takerIn K C name = some none) (hh : PySem.W.hasDictIn K C = true)
    (hw : PySem.Within mA ns) (hsz : ns.length ≤ sizeLine)
    (h : ∀ h', ObjM h' x dx C (fun y => if y = name then some v else mA y) → Heap.SameBut dx s.heap h' → Q () { s with heap := h', toks := s.toks + 2 }) :
    wpAny (model prog w) A (setAttr (.ref x) name v) Q E s := by
  obtain ⟨od, J, hl⟩ := I.look
  refine PySem.W.set_plain X J hs (PySem.W.osa_open (s := { s with toks := s.toks + 1 }) (r := none) X J hp ht fun b => ?_)
  obtain ⟨cd, hc, hd'⟩ := PySem.W.any_some hh
  have hx : s.heap.get? x = some ⟨.ref C, some dx, .plain, #[]⟩ := I.obj
  refine wpAny_bind (wpAny_pure (wpAny_bind (wpAny_bind (wpAny_loadPart hx (wpAny_bind (PySem.W.Looks.here (s := { s with toks := s.toks + 1 }) (PySem.W.looks_clsIn X hc) ?_))))))
  rw [hd']
  refine wpAny_pure (a := some dx) (wpAny_bind (wpAny_pure (wpAny_bind ?_)))
  refine wpAny_nsSet1 (s := { s with toks := s.toks + 1 }) I.ns fun h' hn2 hs2 => ?_
  obtain ⟨oD, esD, epD, hoD, hdD, hcD⟩ := hn2.count (PySem.Within.cons name v hw)
  refine wpAny_bind (wpAny_lookBehind hoD (by rw [hdD]; exact pastItsLine_dict (Nat.le_trans hcD (by rw [List.length_cons]; omega))) ?_)
  exact wpAny_pure (h _ ⟨(hs2.2 _ (Ne.symm I.ne)).trans I.obj, hn2, I.ne⟩ hs2)
/-- C(..): the dict at the heap's end, the instance behind it; then its __init__ -/
theorem make_map {R : Result → Shared → Prop} {vs : List Value} {kw : List (Str × Value)} (X : K.In s.heap) (hm : PySem.W.makesIn K C = true)
    (hi : PySem.W.findIn K (.ref C) "__init__" = some (some (.ref f))) (hf : PySem.W.typeIn K (.ref f) = some (.type "function"))
    (h : codeAny (model prog w) (A.under (.builtin "type.__call__" ⟨.ref C :: vs, kw⟩)) (.call (.ref f) ⟨.ref (s.heap.objs.size + 1) :: vs, kw⟩) (PySem.W.InitBack (s.heap.objs.size + 1) R)
      { s with heap := (s.heap.push PySem.W.emptyDict).push (PySem.W.instObj C s.heap.objs.size) }) :
    codeAny (model prog w) A (.call (.ref C) ⟨vs, kw⟩) R s := by
  obtain ⟨hh, g, d, t, os⟩ := s
  exact PySem.W.make_core (PySem.W.makes_of X hm) (PySem.W.looks_findIn X hi) (fun self => PySem.W.bind_fn X self hf) (.inl rfl) h
end
/-! ### the attributes as a list of pairs -/
def putF (f : Str) (v : V) : List (Str × V) → List (Str × V)
  | [] => [(f, v)]
  | (g, x) :: r => if g = f then (g, v) :: r else (g, x) :: putF f v r
theorem lookup_putF (f g : Str) (v : V) : ∀ fs : List (Str × V), (putF f v fs).lookup g = if g = f then some v else fs.lookup g
  | [] => by
    show List.lookup g [(f, v)] = _
    by_cases h : g = f
    · have hb : (g == f) = true := beq_iff_eq.mpr h
      simp only [List.lookup, hb, if_pos h]
    · have hb : (g == f) = false := beq_eq_false_iff_ne.mpr h
      simp only [List.lookup, hb, if_neg h]
  | (k, x) :: r => by
    have ih := lookup_putF f g v r
    rw [show putF f v ((k, x) :: r) = (if k = f then (k, v) :: r else (k, x) :: putF f v r) from rfl]
    by_cases hk : k = f
    · rw [if_pos hk]
      by_cases h : g = k
      · have hb : (g == k) = true := beq_iff_eq.mpr h
        simp only [List.lookup, hb, if_pos (h.trans hk)]
      · have hb : (g == k) = false := beq_eq_false_iff_ne.mpr h
        simp only [List.lookup, hb, if_neg (fun e : g = f => h (e.trans hk.symm))]
    · rw [if_neg hk]
      by_cases h : g = k
      · have hb : (g == k) = true := beq_iff_eq.mpr h
        simp only [List.lookup, hb, if_neg (fun e : g = f => hk (h.symm.trans e))]
      · have hb : (g == k) = false := beq_eq_false_iff_ne.mpr h
        simp only [List.lookup, hb]
        exact ih
theorem keys_putF (f : Str) (v : V) : ∀ fs : List (Str × V), f ∈ (putF f v fs).map (·.1) ∧ ∀ g, g ∈ fs.map (·.1) → g ∈ (putF f v fs).map (·.1)
  | [] => ⟨by simp [putF], fun g h => by simp at h⟩
  | (k, x) :: r => by
    obtain ⟨i1, i2⟩ := keys_putF f v r
    rw [show putF f v ((k, x) :: r) = (if k = f then (k, v) :: r else (k, x) :: putF f v r) from rfl]
    by_cases hk : k = f
    · rw [if_pos hk]
      subst hk
      exact ⟨by simp, fun g h => by simpa using h⟩
    · rw [if_neg hk]
      refine ⟨?_, fun g h => ?_⟩
      · rw [List.map_cons]
        exact List.mem_cons_of_mem _ i1
      · rw [List.map_cons] at h ⊢
        rcases List.mem_cons.mp h with e | e
        · exact List.mem_cons.mpr (.inl e)
        · exact List.mem_cons_of_mem _ (i2 g e)
theorem length_putF (f : Str) (v : V) : ∀ fs : List (Str × V), (putF f v fs).length ≤ fs.length + 1
  | [] => by simp [putF]
  | (k, x) :: r => by
    have ih := length_putF f v r
    rw [show putF f v ((k, x) :: r) = (if k = f then (k, v) :: r else (k, x) :: putF f v r) from rfl]
    by_cases hk : k = f
    · rw [if_pos hk, List.length_cons, List.length_cons]; omega
    · rw [if_neg hk, List.length_cons, List.length_cons]; omega
theorem RelO.some_of {v : V} {o : Option Value} (r : RelO (some v) o) : ∃ u, o = some u ∧ RelV v u := by
  cases o with
  | none => exact (show False from r).elim
  | some u => exact ⟨u, rfl, r⟩
theorem RelO.none_of {o : Option Value} (r : RelO none o) : o = none := by
  cases o with
  | none => rfl
  | some u => exact (show False from r).elim
theorem handed_of {v : V} {u : Value} (r : RelV v u) : PySem.W.handedIn u = true := by
  cases v with
  | non => cases (show u = Value.none from r); rfl
  | bl b => cases (show u = Value.bool b from r); rfl
  | int i => obtain ⟨t, e⟩ := (show ∃ t, u = Value.int i t from r); cases e; rfl
  | str x => obtain ⟨t, e⟩ := (show ∃ t, u = Value.str x t from r); cases e; rfl
  | byt b => obtain ⟨t, e⟩ := (show ∃ t, u = Value.bytes b t from r); cases e; rfl
  | flt b => obtain ⟨t, e⟩ := (show ∃ t, u = Value.float b t from r); cases e; rfl
  | ref a => cases (show u = Value.ref a from r); rfl
  | ty n => cases (show u = Value.type n from r); rfl
section
variable {P : Program} {w : World} {H H' : Hp} {h h' : Heap} {a C dx : Addr} {fs fs' : List (Str × V)}
theorem ins_get (hok : HOk P w H h) (e : H a = some (.ins C dx fs)) : ∃ mA, ObjM h a dx C mA ∧ (∀ f, RelO (fs.lookup f) (mA f)) ∧ PySem.Within mA (fs.map (·.1)) ∧ fs.length ≤ 1000 ∧ H dx = some (.own a) := by
  obtain ⟨d, z, ne, ob, mA, n, r, q⟩ := (show ObjOk P w H h a (.ins C dx fs) from hok a _ e)
  exact ⟨mA, ⟨ob, n, ne⟩, r, q, z, d⟩
end
/-! ### what of the text a class must have -/
structure Cls (K : PySem.W.Frag) (C : Addr) : Prop where
  pg : PySem.W.plainGet K C Str.empty = true
  hd : PySem.W.hasDictIn K C = true
  po : PySem.W.plainOver K C = true
  sa : PySem.W.findIn K (.ref C) "__setattr__" = some (some (.builtin "object.__setattr__"))
theorem Cls.get {K : PySem.W.Frag} {C : Addr} (c : Cls K C) (f : Str) : PySem.W.plainGet K C f = true := c.pg
/-- no class of it has the name -/
def NoAttr (K : PySem.W.Frag) (C : Addr) (f : Str) : Prop := PySem.W.findIn K (.ref C) f = some none
theorem NoAttr.taker {K : PySem.W.Frag} {C : Addr} {f : Str} (n : NoAttr K C f) : PySem.W.takerIn K C f = some none := by
  unfold PySem.W.takerIn
  rw [show PySem.W.findIn K (.ref C) f = some none from n]
  rfl
/-- a method: a plain def of the class or of one above it -/
structure Meth (K : PySem.W.Frag) (C : Addr) (m : Str) (f : Addr) : Prop where
  at_ : PySem.W.findIn K (.ref C) m = some (some (.ref f))
  fn : PySem.W.isFn K (.ref f) = true
  kp : PySem.W.keepIn K (.ref f) = true
section
variable {X : Cx} {pins : List (Addr × Obj)} {σ : St} {H : Hp} {s : Shared} {a C dx : Addr} {fs : List (Str × V)} {f : Str} {v : V} {A : Around} {E : Value → Shared → Prop}
theorem getattr_ok {b : Bool} {Q : Value → Shared → Prop} (I : Inv X pins σ H s) (e : H a = some (.ins C dx fs)) (c : Cls X.K C) (n : NoAttr X.K C f) (l : fs.lookup f = some v)
    (h : ∀ u s', Inv X pins σ H s' → RelV v u → Q u s') : wpAny (model X.prog X.w) A (getAttr (.ref a) f b) Q E s := by
  obtain ⟨mA, O, r, _, _, _⟩ := ins_get I.hok e
  obtain ⟨u, hu, ru⟩ := RelO.some_of (v := v) (o := mA f) (by rw [← l]; exact r f)
  exact get_map I.kIn O (c.get f) c.hd n hu (handed_of ru) (h u _ (I.tok _) ru)
theorem getmeth_ok {m : Str} {g : Addr} {pl : Sem Bool} {Q : Value × List Value → Shared → Prop} (I : Inv X pins σ H s) (e : H a = some (.ins C dx fs)) (c : Cls X.K C) (k : Meth X.K C m g) (l : fs.lookup m = none)
    (h : Q (.ref g, [.ref a]) s) : wpAny (model X.prog X.w) A (getMethod (.ref a) m pl) Q E s := by
  obtain ⟨mA, O, r, _, _, _⟩ := ins_get I.hok e
  have hn : mA m = none := RelO.none_of (by rw [← l]; exact r m)
  exact get_meth I.kIn O (c.get m) k.at_ k.fn hn h
theorem setattr_ok {y : V} {u : Value} {Q : Unit → Shared → Prop} (I : Inv X pins σ H s) (e : H a = some (.ins C dx fs)) (c : Cls X.K C) (n : NoAttr X.K C f) (hl : fs.length < 1000) (ry : RelV y u)
    (h : ∀ s', Inv X pins σ (upd H a (.ins C dx (putF f y fs))) s' → Q () s') : wpAny (model X.prog X.w) A (setAttr (.ref a) f u) Q E s := by
  obtain ⟨mA, O, r, wi, _, ho⟩ := ins_get I.hok e
  have hz : (fs.map (·.1)).length ≤ sizeLine := by rw [List.length_map, sizeLine_eq]; omega
  refine set_map I.kIn O c.sa c.po n.taker c.hd wi hz fun h' O' sb => h _ ?_
  have hd : ∃ o, h'.get? dx = some o := let ⟨o, _, _, e', _⟩ := O'.ns; ⟨o, e'⟩
  refine I.write (x := a) (e := dx) (by rw [e]; exact True.intro) (.inr ho) (fun b q hb z => (sb.2 b hb).trans z) hd ?_
  refine ⟨by rw [upd_ne O.ne]; exact ho, ?_, O.ne, O'.obj, _, O'.ns, fun g => ?_, fun g hg => ?_⟩
  · have := length_putF f y fs; omega
  · show RelO ((putF f y fs).lookup g) (if g = f then some u else mA g)
    rw [lookup_putF]
    by_cases q : g = f
    · rw [if_pos q, if_pos q]; exact ry
    · rw [if_neg q, if_neg q]; exact r g
  · by_cases q : g = f
    · rw [q]; exact (keys_putF f y fs).1
    · refine (keys_putF f y fs).2 g (wi g fun z => hg ?_)
      show (if g = f then some u else mA g) = none
      rw [if_neg q]; exact z
/-- a new instance, tracked, without attributes -/
theorem Inv.made (I : Inv X pins σ H s) : Inv X pins σ (upd (upd H s.heap.objs.size (.own (s.heap.objs.size + 1))) (s.heap.objs.size + 1) (.ins C s.heap.objs.size []))
    { s with heap := (s.heap.push PySem.W.emptyDict).push (PySem.W.instObj C s.heap.objs.size) } := by
  have e1 : (s.heap.push PySem.W.emptyDict).get? s.heap.objs.size = some PySem.W.emptyDict := Heap.get?_push_size s.heap rfl
  have e2 : ((s.heap.push PySem.W.emptyDict).push (PySem.W.instObj C s.heap.objs.size)).get? (s.heap.objs.size + 1) = some (PySem.W.instObj C s.heap.objs.size) := by
    have := Heap.get?_push_size (s.heap.push PySem.W.emptyDict) (o := PySem.W.instObj C s.heap.objs.size) rfl
    rwa [Heap.size_push] at this
  have e3 : (s.heap.push PySem.W.emptyDict).Ns s.heap.objs.size (fun _ => none) := ⟨PySem.W.emptyDict, #[], _, e1, rfl, (fun e he => absurd he (by simp)), fun _ => rfl⟩
  have I1 := I.laid (a := s.heap.objs.size) (o := .own (s.heap.objs.size + 1)) (h' := s.heap.push PySem.W.emptyDict) (t' := s.toks) (fun b u q => Heap.get?_push_of_some _ q) (Nat.le_refl _) ⟨_, e1⟩
  refine I1.laid (a := s.heap.objs.size + 1) (o := .ins C s.heap.objs.size []) (t' := s.toks) (fun b u q => Heap.get?_push_of_some _ q) (Nat.le_of_eq (Heap.size_push _ _)) ?_
  have ne : s.heap.objs.size ≠ s.heap.objs.size + 1 := Nat.ne_of_lt (Nat.lt_succ_self _)
  refine ⟨by rw [upd_ne ne, upd_same], Nat.zero_le _, ne, e2, fun _ => none, (Heap.Ns1.of_empty e3).at fun o q => Heap.get?_push_of_some _ q, fun _ => True.intro, fun y hy => absurd rfl hy⟩
/-- e.f where nothing but the object is asked: through attributeBase (super) and the last hold -/
theorem attr_of {prog : Program} {w : World} {env : Env} {e : Expr} {f : Str} {pos : Pos} {s : Shared} {Q : Value → Shared → Prop} (hb : attributeBase e f env (eval e env) = eval e env)
    (h : wpAny (model prog w) A (eval e env) (fun o s₁ => wpAny (model prog w) A (getAttr o f true) Q E s₁) E s) : wpAny (model prog w) A (eval (.Attribute e f pos) env) Q E s :=
  Attribute_any_ h (by rw [arm_eval_Attribute, hb])
end
/-! ### readings and rules -/
/-- e.f, an attribute of the instance -/
def tFld (K : PySem.W.Frag) (ta : TE) (f : Str) : TE := fun σ H Q => ta σ H fun x H1 => ∃ a C dx fs v, x = .ref a ∧ H1 a = some (.ins C dx fs) ∧ Cls K C ∧ NoAttr K C f ∧ fs.lookup f = some v ∧ Q v H1
/-- e.f = value -/
def sFld (K : PySem.W.Frag) (ta tv : TE) (f : Str) : TS := fun D σ H => tv σ H fun y H1 => ta σ H1 fun x H2 => ∃ a C dx fs, x = .ref a ∧ H2 a = some (.ins C dx fs) ∧ Cls K C ∧ NoAttr K C f ∧ fs.length < 1000 ∧
  D.nx σ (upd H2 a (.ins C dx (putF f y fs)))
/-- an augmented operator on two values -/
def InOp (X : Cx) (op : Operator) (rd : V → V → Hp → VK → Prop) : Prop :=
  ∀ (pins : List (Addr × Obj)) (s : Shared) (σ : St) (H : Hp) (x y : V) (u v : Value) (Q : VK), Inv X pins σ H s → RelV x u → RelV y v → rd x y H Q → wpAny (model X.prog X.w) X.A (inplaceOp op u v) (EP X pins σ Q) X.xe s
/-- e.f op= value -/
def sFldAug (K : PySem.W.Frag) (ta tv : TE) (rd : V → V → Hp → VK → Prop) (f : Str) : TS := fun D σ H => ta σ H fun x H1 => ∃ a C dx fs v, x = .ref a ∧ H1 a = some (.ins C dx fs) ∧ Cls K C ∧ NoAttr K C f ∧ fs.lookup f = some v ∧
  tv σ H1 fun y H2 => rd v y H2 fun z H3 => ∃ dx' fs', H3 a = some (.ins C dx' fs') ∧ fs'.length < 1000 ∧ D.nx σ (upd H3 a (.ins C dx' (putF f z fs')))
section
variable {X : Cx} {o e value : Expr} {f : Str} {pos pos' tpos : Pos} {ta tv : TE}
theorem pe_fld (he : PE X e ta) (hb : attributeBase e f X.env (eval e X.env) = eval e X.env) : PE X (.Attribute e f pos) (tFld X.K ta f) := by
  intro pins s σ H Q I h
  refine attr_of hb (thn (he pins s σ H _ I h) fun u s1 ⟨x, H1, I1, rx, a, C, dx, fs, v, ex, ea, c, n, l, q⟩ => ?_)
  subst ex
  obtain rfl : u = Value.ref a := rx
  exact getattr_ok I1 ea c n l fun u' s2 I2 ru => ⟨v, H1, I2, ru, q⟩
theorem ps_fld (ha : PE X o ta) (hv : PE X value tv) (hs : swapsWith value (some (.Attribute o f pos')) pos.line X.env = pure false) : PS X (.Assign [.Attribute o f pos'] value pos) (sFld X.K ta tv f) := by
  intro pins s σ H D I h
  refine plainObj_wpAny_Assign_Attribute (thn (hv pins s σ H _ I h) fun u s1 ⟨y, H1, I1, ry, q⟩ => thn (ha pins s1 σ H1 _ I1 q) fun ov s2 ⟨x, H2, I2, rx, a, C, dx, fs, ex, ea, c, n, l, q2⟩ => ?_) hs
  subst ex
  obtain rfl : ov = Value.ref a := rx
  exact setattr_ok I2 ea c n l ry fun s3 I3 => ⟨σ, _, I3, q2⟩
theorem ps_fldaug {op : Operator} {rd : V → V → Hp → VK → Prop} (ha : PE X o ta) (hv : PE X value tv) (hop : InOp X op rd) : PS X (.AugAssign (.Attribute o f tpos) op value pos) (sFldAug X.K ta tv rd f) := by
  intro pins s σ H D I h
  refine wpAny_AugAssign_AttributeAny (thn (ha pins s σ H _ I h) fun ov s1 ⟨x, H1, I1, rx, a, C, dx, fs, v, ex, ea, c, n, l, q⟩ => ?_)
  subst ex
  obtain rfl : ov = Value.ref a := rx
  refine getattr_ok I1 ea c n l fun u s2 I2 ru => thn (hv pins s2 σ H1 _ I2 q) fun w3 s3 ⟨y, H2, I3, ry, q3⟩ => thn (hop pins s3 σ H2 v y u w3 _ I3 ru ry q3) fun w4 s4 ⟨z, H3, I4, rz, dx', fs', ea', l', q4⟩ => ?_
  exact setattr_ok I4 ea' c n l' rz fun s5 I5 => ⟨σ, _, I5, q4⟩
end
/-! ### isinstance -/
section
variable {X : Cx} {pins : List (Addr × Obj)} {σ : St} {H : Hp} {s : Shared} {A : Around} {E : Value → Shared → Prop} {Q : Value → Shared → Prop} {c : Value} {b : Bool}
end
end L2
namespace L2
open PySem PySem.Spec PyProof.Rows
/-! ### room -/
structure Room (k : Nat) (A : Around) : Prop where
  hd : A.handled = none
  dp : A.depth + 3 * k + 5 < recursionLimit
  un : A.units + 16 * k + 200 < cLine
theorem Room.mono {j k : Nat} {A : Around} (r : Room k A) (h : j ≤ k) : Room j A := ⟨r.hd, by have := r.dp; omega, by have := r.un; omega⟩
theorem Room.deeper {k : Nat} {A : Around} (r : Room (k + 1) A) (env : Env) : Room k (A.deeper env) :=
  ⟨r.hd, by have := r.dp; show A.depth + 1 + 3 * k + 5 < _; omega, by have := r.un; show A.units + 3 + 16 * k + 200 < _; omega⟩
theorem make_depth {A : Around} {C : Addr} {us : List Value} {kw : List (Str × Value)} : (A.under (.builtin "type.__call__" ⟨.ref C :: us, kw⟩)).depth = A.depth + 1 := by
  first | rfl | simp [Around.under, Code.weight, Code.isCreation, Code.isGuard, Code.isCaller, Code.frames, Code.isFrame, guardIds]
theorem make_units {A : Around} {C : Addr} {us : List Value} {kw : List (Str × Value)} : (A.under (.builtin "type.__call__" ⟨.ref C :: us, kw⟩)).units = A.units + 1 := by
  first | rfl | simp [Around.under, Code.cUnits, Code.frames, Code.isFrame]
theorem Room.make {k : Nat} {A : Around} (r : Room (k + 1) A) (C : Addr) (us : List Value) (kw : List (Str × Value)) : Room k (A.under (.builtin "type.__call__" ⟨.ref C :: us, kw⟩)) :=
  ⟨r.hd, by have := r.dp; rw [make_depth]; omega, by have := r.un; rw [make_units]; omega⟩
theorem Room.depth {k : Nat} {A : Around} (r : Room k A) : A.depth < recursionLimit := by have := r.dp; omega
theorem Room.units {k : Nat} {A : Around} (r : Room k A) : A.units + 64 < cLine := by have := r.un; omega
/-! ### argument lists and displays -/
def tNil : TA := fun _ H Q => Q [] H
def tCons (ta : TE) (tr : TA) : TA := fun σ H Q => ta σ H fun x H1 => tr σ H1 fun xs H2 => Q (x :: xs) H2
section
variable {X : Cx} {e : Expr} {es : List Expr} {te : TE} {t : TA} {pos : Pos}
theorem pa_nil : PA X [] tNil := fun _ _ _ _ H Q I h => Calls.spliced_nil ⟨[], H, I, .nil, h⟩
theorem pa_cons (ha : PE X e te) (hr : PA X es t) (hs : starEach (e :: es) X.env = (false, eval e X.env) :: starEach es X.env := by rfl) : PA X (e :: es) (tCons te t) := by
  intro pos pins s σ H Q I h
  rw [hs]
  show wpAny _ _ (spliced ((false, eval e X.env) :: backTo pos (starEach es X.env))) _ _ s
  refine Calls.spliced_cons (thn (ha pins s σ H _ I h) fun u s1 ⟨x, H1, I1, r1, q1⟩ => ?_)
  exact thn (hr pos pins s1 σ H1 _ I1 q1) fun us s2 ⟨xs, H2, I2, r2, q2⟩ => ⟨x :: xs, H2, I2, .cons r1 r2, q2⟩
/-- a tuple, a list of written items -/
def tTup (t : TA) : TE := fun σ H Q => t σ H fun xs H1 => xs.length ≤ sizeLine ∧ ∀ p, H1 p = none → Q (.ref p) (upd H1 p (.tup xs))
def tLst (t : TA) : TE := fun σ H Q => t σ H fun xs H1 => xs.length ≤ sizeLine ∧ ∀ p, H1 p = none → Q (.ref p) (upd H1 p (.lst xs))
theorem pe_tup {x1} (h : PA X es t) : PE X (.Tuple es x1 pos) (tTup t) := by
  intro pins s σ H Q I hq
  refine wpAny_Tuple_spliced (thn (h pos pins s σ H _ I hq) fun us s1 ⟨xs, H1, I1, r, z, q⟩ => ⟨by rw [← r.length]; exact z, ?_⟩)
  have hf : H1 s1.heap.objs.size = none := I1.hok.fresh (Nat.le_refl _)
  refine ⟨.ref s1.heap.objs.size, upd H1 s1.heap.objs.size (.tup xs), I1.laid (t' := s1.toks) (fun b u e => Heap.get?_push_of_some _ e) (Nat.le_refl _) ?_, rfl, q _ hf⟩
  exact ⟨z, us, r, ⟨_, Heap.get?_push_size _ rfl, rfl, _, rfl⟩⟩
theorem pe_lst (h : PA X es t) : PE X (.List es pos) (tLst t) := by
  intro pins s σ H Q I hq
  refine wpAny_List_spliced (thn (h pos pins s σ H _ I hq) fun us s1 ⟨xs, H1, I1, r, z, q⟩ => ⟨by rw [← r.length]; exact z, ?_⟩)
  have hf : H1 s1.heap.objs.size = none := I1.hok.fresh (Nat.le_refl _)
  refine ⟨.ref s1.heap.objs.size, upd H1 s1.heap.objs.size (.lst xs), I1.laid (t' := s1.toks) (fun b u e => Heap.get?_push_of_some _ e) (Nat.le_refl _) ?_, rfl, q _ hf⟩
  exact ⟨z, us, 0, r, Heap.get?_push_size _ rfl⟩
end
/-! ### what a def promises -/
/-- a def's promise: the bound arguments in the parameters' order, the heap, the wanted end, the wanted exception -/
abbrev Sp := List V → Hp → VK → XK → Prop
/-- how an exception lies behind a call (file 08 gives it): the callers' frames, abstract heap and state ahead of the call, the wish, the exception, the state -/
abbrev CXT := List Env → Hp → Shared → XK → Value → Shared → Prop
/-- the state at a call -/
structure Env0 (P : Program) (w : World) (K : PySem.W.Frag) (mg : Str → Option Value) (base : Heap) (A : Around) (outer : List Env) (s : Shared) (H : Hp) : Prop where
  frames : A.frames = some outer
  mod : Mod K mg base
  bs : ∀ b o, base.get? b = some o → s.heap.get? b = some o ∧ H b = none
  bsz : base.objs.size ≤ s.heap.objs.size
  funs : s.heap.FunFrames base outer
  frf : ∀ b ∈ frs outer, H b = none
  hok : HOk P w H s.heap
  bare : AllBare s.gens
/-- a call's end -/
def CE (outer : List Env) (P : Program) (w : World) (H : Hp) (s : Shared) (Q : VK) (u : Value) (s' : Shared) : Prop :=
  ∃ v H', s'.os = s.os ∧ AllBare s'.gens ∧ Un (frs outer) [] H H' s.heap s'.heap ∧ HOk P w H' s'.heap ∧ RelV v u ∧ Q v H'
def CR (CX : CXT) (outer : List Env) (P : Program) (w : World) (H : Hp) (s : Shared) (Q : VK) (E : XK) (r : Result) (s' : Shared) : Prop :=
  match r with
  | .ok (.ret u) => CE outer P w H s Q u s'
  | .ok _ => False
  | .error e => CX outer H s E e s'
structure FnOk (P : Program) (w : World) (K : PySem.W.Frag) (mg : Str → Option Value) (base : Heap) (CX : CXT) (k : Nat) (f : Addr) (fd : FuncData) (ps : List Str) (sp : Sp) : Prop where
  len : ∀ vs H Q E, sp vs H Q E → vs.length = ps.length
  run : ∀ (A : Around) (outer : List Env) (s : Shared) (H : Hp) (args : Args) (us : List Value) (vs : List V) (Q : VK) (E : XK), Room k A → Env0 P w K mg base A outer s H → BindsTo s fd args (ps.zip us) → Vals vs us → sp vs H Q E →
    codeAny (model P w) A (.call (.ref f) args) (CR CX outer P w H s Q E) s
theorem FnOk.mono {P : Program} {w : World} {K : PySem.W.Frag} {mg : Str → Option Value} {base : Heap} {CX : CXT} {j k : Nat} {f : Addr} {fd : FuncData} {ps : List Str} {sp : Sp} (F : FnOk P w K mg base CX j f fd ps sp) (h : j ≤ k) :
    FnOk P w K mg base CX k f fd ps sp := ⟨F.len, fun A outer s H args us vs Q E hr => F.run A outer s H args us vs Q E (hr.mono h)⟩
/-- a weaker promise -/
theorem FnOk.imp {P : Program} {w : World} {K : PySem.W.Frag} {mg : Str → Option Value} {base : Heap} {CX : CXT} {k : Nat} {f : Addr} {fd : FuncData} {ps : List Str} {sp sp' : Sp} (F : FnOk P w K mg base CX k f fd ps sp)
    (h : ∀ vs H Q E, sp' vs H Q E → sp vs H Q E) : FnOk P w K mg base CX k f fd ps sp' :=
  ⟨fun vs H Q E q => F.len vs H Q E (h _ _ _ _ q), fun A outer s H args us vs Q E hr he hb hv hs => F.run A outer s H args us vs Q E hr he hb hv (h _ _ _ _ hs)⟩
theorem Env0.make {P : Program} {w : World} {K : PySem.W.Frag} {mg : Str → Option Value} {base : Heap} {A : Around} {outer : List Env} {s : Shared} {H : Hp} (e : Env0 P w K mg base A outer s H) (C : Addr) (us : List Value) (kw : List (Str × Value)) :
    Env0 P w K mg base (A.under (.builtin "type.__call__" ⟨.ref C :: us, kw⟩)) outer s H := ⟨by first | exact e.frames | (simpa [Around.under, Code.envs, Code.isFrame, pushEnvs] using e.frames), e.mod, e.bs, e.bsz, e.funs, e.frf, e.hok, e.bare⟩
section
variable {X : Cx} {pins : List (Addr × Obj)} {σ : St} {H : Hp} {s s' : Shared}
/-- from a body: what a callee wants -/
theorem Inv.env0 (I : Inv X pins σ H s) : Env0 X.prog X.w X.K X.mg X.base X.A X.stack s H :=
  ⟨I.ok.frames, I.ok.mod, I.bs, Nat.le_trans I.ok.bsz I.sz, I.stack, I.stkFree, I.hok, I.bare⟩
/-- behind a call -/
theorem Inv.after {Q : VK} {u : Value} (I : Inv X pins σ H s) (h : CE X.stack X.prog X.w H s Q u s') : EP X pins σ Q u s' := by
  obtain ⟨v, H', os, bare, un, hok, r, q⟩ := h
  obtain ⟨hh, g, d, t, os'⟩ := s'
  obtain rfl : os' = s.os := os
  exact ⟨v, H', I.call (h' := hh) (g' := g) (d' := d) (t' := t) (ch := []) un hok bare (fun b z => absurd z (by simp)), r, q⟩
end
/-! ### calls -/
/-- f(..): the written arguments, then the defaults dvs; E: what is wanted of an exception -/
def tCall (sp : Sp) (dvs : List V) (E : XK) (t : TA) : TE := fun σ H Q => t σ H fun vs H1 => sp (vs ++ dvs) H1 Q E
/-- o.m(..) of an instance of the class at C -/
def tMeth (C : Addr) (m : Str) (sp : Sp) (dvs : List V) (E : XK) (ta : TE) (t : TA) : TE := fun σ H Q => ta σ H fun x H1 => ∃ a dx fs, x = .ref a ∧ H1 a = some (.ins C dx fs) ∧ fs.lookup m = none ∧
  t σ H1 fun vs H2 => sp (x :: (vs ++ dvs)) H2 Q E
/-- C(..): a new instance and its dict, then __init__ -/
def tMake (C : Addr) (sp : Sp) (dvs : List V) (E : XK) (t : TA) : TE := fun σ H Q => t σ H fun vs H1 => ∀ x dx, H1 x = none → H1 dx = none → dx ≠ x →
  sp (.ref x :: (vs ++ dvs)) (upd (upd H1 dx (.own x)) x (.ins C dx [])) (fun v H2 => v = .non ∧ Q (.ref x) H2) E
/-- how the parameters are bound: us the positional arguments, kw the keywords' values by name, ds the defaults that fill up -/
def Binds (K : PySem.W.Frag) (fd : FuncData) (ps : List Str) (ds : List Value) : Prop :=
  ∀ (s : Shared) (us : List Value), K.In s.heap → (us ++ ds).length = ps.length → BindsTo s fd ⟨us, []⟩ (ps.zip (us ++ ds))
/-- every parameter is given -/
theorem Binds.all {K : PySem.W.Frag} {fd : FuncData} {ps : List Str} (h : ∀ us : List Value, us.length = ps.length → bindArgs fd ⟨us, []⟩ = pure (ps.zip us)) : Binds K fd ps [] := fun s us _ hl => by
  rw [List.append_nil] at hl ⊢
  exact .of_eq (h us hl)
/-- an exception of a callee reaches what this body wants of exceptions -/
def Passes (CX : CXT) (X : Cx) (E : XK) : Prop := ∀ (pins : List (Addr × Obj)) (σ : St) (H : Hp) (s : Shared) (e : Value) (s' : Shared), Inv X pins σ H s → CX X.stack H s E e s' → X.xe e s'
section
variable {X : Cx} {CX : CXT} {k : Nat} {f C : Addr} {fd : FuncData} {ps : List Str} {sp : Sp} {dvs : List V} {ds : List Value} {E : XK} {x m : Str} {p pos apos : Pos} {e o : Expr} {es : List Expr} {ta : TE} {t : TA}
/-- the callee runs -/
theorem run_fn {pins : List (Addr × Obj)} {σ : St} {H : Hp} {s : Shared} {Q : VK} {us : List Value} {vs : List V} (F : FnOk X.prog X.w X.K X.mg X.base CX k f fd ps sp) (hr : Room k X.A) (hb : Binds X.K fd ps ds) (hd : Vals dvs ds) (hx : Passes CX X E)
    (I : Inv X pins σ H s) (r : Vals vs us) (h : sp (vs ++ dvs) H Q E) : wpAny (model X.prog X.w) X.A (call (.ref f) us) (EP X pins σ Q) X.xe s := by
  have r2 : Vals (vs ++ dvs) (us ++ ds) := r.append hd
  have hl : (us ++ ds).length = ps.length := by rw [← r2.length]; exact F.len _ _ _ _ h
  refine wpAny_call (codeAny_mono (F.run X.A X.stack s H ⟨us, []⟩ (us ++ ds) (vs ++ dvs) Q E hr I.env0 (hb s us I.kIn hl) r2 h) fun r s' hq => ?_)
  cases r with
  | error e => exact hx pins σ H s e s' I hq
  | ok fl =>
    cases fl with
    | ret u => exact I.after hq
    | next => exact False.elim hq
    | brk => exact False.elim hq
    | cont => exact False.elim hq
theorem pe_call (F : FnOk X.prog X.w X.K X.mg X.base CX k f fd ps sp) (hr : Room k X.A) (hg : Gl X x) (hm : X.mg x = some (.ref f)) (hk : PySem.W.keepIn X.K (.ref f) = true) (hb : Binds X.K fd ps ds) (hd : Vals dvs ds) (hx : Passes CX X E)
    (ha : PA X (e :: es) t) (hdb : (x == ("__debug__" : Str)) = false := by decide) (he : starEach (e :: es) X.env = (false, eval e X.env) :: starEach es X.env := by rfl) (hpl : (backTo pos (starEach es X.env)).any (·.1) = false := by rfl) :
    PE X (.Call (.Name x p) (e :: es) [] pos) (tCall sp dvs E t) := by
  intro pins s σ H Q I h
  refine wpAny_Call_Name_kw (ld_glob I hg hm ?_ hdb)
  refine PySem.W.callWith_K (h₀ := X.base) I.ok.mod.kin hk (thn (ha pos pins s σ H _ I h) fun us s1 ⟨vs, H1, I1, r, q⟩ => ⟨I1.kIn, ?_⟩) he hpl
  exact run_fn F hr hb hd hx I1 r q
/-- o.m(e, ..) -/
theorem pe_meth {pl : Sem Bool} (he : PE X o ta) (c : Cls X.K C) (hm : Meth X.K C m f) (F : FnOk X.prog X.w X.K X.mg X.base CX k f fd ps sp) (hr : Room k X.A) (hb : Binds X.K fd ps ds) (hd : Vals dvs ds) (hx : Passes CX X E) (ha : PA X (e :: es) t)
    (hst : starEach (e :: es) X.env = (false, eval e X.env) :: starEach es X.env := by rfl) (hpl : (backTo pos (starEach es X.env)).any (·.1) = false := by rfl)
    (ht : eval (.Call (.Attribute o m apos) (e :: es) [] pos) X.env = (do
      let ov ← eval o X.env
      standAt apos.atName
      let (f, first) ← holding [ov] (getMethod ov m pl)
      callWith pos f first (backTo pos (starEach (e :: es) X.env)) (backToKw pos (keywordEach [] X.env))) := by rfl) :
    PE X (.Call (.Attribute o m apos) (e :: es) [] pos) (tMeth C m sp dvs E ta t) := by
  intro pins s σ H Q I h
  refine PySem.W.methodCall_KW (pl := pl) (thn (he pins s σ H _ I h) fun u s1 ⟨x, H1, I1, rx, a, dx, fs, ex, ea, l, q⟩ => ?_) ht
  subst ex
  obtain rfl : u = Value.ref a := rx
  refine getmeth_ok I1 ea c hm l ?_
  refine PySem.W.callWith_K (first := [.ref a]) (h₀ := X.base) I.ok.mod.kin hm.kp (thn (ha pos pins s1 σ H1 _ I1 q) fun us s2 ⟨vs, H2, I2, r, q2⟩ => ⟨I2.kIn, ?_⟩) hst hpl
  exact run_fn (us := .ref a :: us) (vs := .ref a :: vs) F hr hb hd hx I2 (.cons rfl r) q2
/-- o.m() -/
theorem pe_meth0 {pl : Sem Bool} (he : PE X o ta) (c : Cls X.K C) (hm : Meth X.K C m f) (F : FnOk X.prog X.w X.K X.mg X.base CX k f fd ps sp) (hr : Room k X.A) (hb : Binds X.K fd ps ds) (hd : Vals dvs ds) (hx : Passes CX X E)
    (ht : eval (.Call (.Attribute o m apos) [] [] pos) X.env = (do
      let ov ← eval o X.env
      standAt apos.atName
      let (f, first) ← holding [ov] (getMethod ov m pl)
      callWith pos f first (backTo pos (starEach [] X.env)) (backToKw pos (keywordEach [] X.env))) := by rfl) :
    PE X (.Call (.Attribute o m apos) [] [] pos) (tMeth C m sp dvs E ta tNil) := by
  intro pins s σ H Q I h
  refine PySem.W.methodCall_KW (pl := pl) (thn (he pins s σ H _ I h) fun u s1 ⟨x, H1, I1, rx, a, dx, fs, ex, ea, l, q⟩ => ?_) ht
  subst ex
  obtain rfl : u = Value.ref a := rx
  refine getmeth_ok I1 ea c hm l ?_
  exact PySem.W.callWith_K0 (first := [.ref a]) I1.kIn hm.kp (run_fn (us := [.ref a]) (vs := [.ref a]) F hr hb hd hx I1 (.cons rfl .nil) q)
/-- what a class must have to be made -/
structure Mk (K : PySem.W.Frag) (C f : Addr) : Prop where
  makes : PySem.W.makesIn K C = true
  init : PySem.W.findIn K (.ref C) "__init__" = some (some (.ref f))
  fn : PySem.W.isFn K (.ref f) = true
  kp : PySem.W.keepIn K (.ref C) = true
theorem run_make {pins : List (Addr × Obj)} {σ : St} {H : Hp} {s : Shared} {Q : VK} {us : List Value} {vs : List V} (M : Mk X.K C f) (F : FnOk X.prog X.w X.K X.mg X.base CX k f fd ps sp) (hr : Room (k + 1) X.A) (hb : Binds X.K fd ps ds) (hd : Vals dvs ds)
    (hx : Passes CX X E) (I : Inv X pins σ H s) (r : Vals vs us)
    (h : ∀ x dx, H x = none → H dx = none → dx ≠ x → sp (.ref x :: (vs ++ dvs)) (upd (upd H dx (.own x)) x (.ins C dx [])) (fun v H2 => v = .non ∧ Q (.ref x) H2) E) :
    wpAny (model X.prog X.w) X.A (call (.ref C) us) (EP X pins σ Q) X.xe s := by
  have hq := h (s.heap.objs.size + 1) s.heap.objs.size (I.hok.fresh (Nat.le_succ _)) (I.hok.fresh (Nat.le_refl _)) (Nat.ne_of_lt (Nat.lt_succ_self _))
  have I2 := Inv.made (C := C) I
  have r2 : Vals (V.ref (s.heap.objs.size + 1) :: (vs ++ dvs)) (Value.ref (s.heap.objs.size + 1) :: (us ++ ds)) := .cons rfl (r.append hd)
  have hl : (Value.ref (s.heap.objs.size + 1) :: us ++ ds).length = ps.length := by
    have e := r2.length
    rw [F.len _ _ _ _ hq] at e
    exact e.symm
  refine wpAny_call (make_map (f := f) I.kIn M.makes M.init (beq_iff_eq.mp M.fn) (codeAny_mono (F.run _ X.stack _ _ ⟨Value.ref (s.heap.objs.size + 1) :: us, []⟩ (Value.ref (s.heap.objs.size + 1) :: (us ++ ds)) _ _ E (hr.make C us [])
    (I2.env0.make C us []) (hb _ (Value.ref (s.heap.objs.size + 1) :: us) I2.kIn hl) r2 hq) fun r s' hq' => ?_))
  cases r with
  | error e => exact hx pins σ _ _ e s' I2 hq'
  | ok fl =>
    cases fl with
    | ret u =>
      obtain ⟨v, H', I3, rv, ev, q3⟩ := I2.after hq'
      subst ev
      exact ⟨rv, ⟨V.ref (s.heap.objs.size + 1), H', I3, rfl, q3⟩⟩
    | next => exact False.elim hq'
    | brk => exact False.elim hq'
    | cont => exact False.elim hq'
theorem pe_make (M : Mk X.K C f) (F : FnOk X.prog X.w X.K X.mg X.base CX k f fd ps sp) (hr : Room (k + 1) X.A) (hg : Gl X x) (hm : X.mg x = some (.ref C)) (hb : Binds X.K fd ps ds) (hd : Vals dvs ds) (hx : Passes CX X E)
    (ha : PA X (e :: es) t) (hdb : (x == ("__debug__" : Str)) = false := by decide) (he : starEach (e :: es) X.env = (false, eval e X.env) :: starEach es X.env := by rfl) (hpl : (backTo pos (starEach es X.env)).any (·.1) = false := by rfl) :
    PE X (.Call (.Name x p) (e :: es) [] pos) (tMake C sp dvs E t) := by
  intro pins s σ H Q I h
  refine wpAny_Call_Name_kw (ld_glob I hg hm ?_ hdb)
  refine PySem.W.callWith_K (h₀ := X.base) I.ok.mod.kin M.kp (thn (ha pos pins s σ H _ I h) fun us s1 ⟨vs, H1, I1, r, q⟩ => ⟨I1.kIn, ?_⟩) he hpl
  exact run_make M F hr hb hd hx I1 r q
end
/-! ### keywords -/
section
variable {X : Cx} {CX : CXT} {k : Nat} {f C : Addr} {fd : FuncData} {ps ks : List Str} {sp : Sp} {E : XK} {x m : Str} {p pos apos kpos : Pos} {e o : Expr} {es : List Expr} {kws : List Keyword} {te ta : TE} {t tk : TA} {nm : Option Str}
variable {g : List Value → List Value → List Value} {gV : List V → List V → List V}
end
/-! ### a def's body keeps its promise -/
/-- names: the parameters first -/
structure FnScope (N P : List Str) (sc : Scope) : Prop where
  kind : sc.kind = .function
  co : sc.isCoroutine = false
  gen : sc.isGenerator = false
  nd : N.Nodup
  pre : N.take P.length = P
  par : ∀ x ∈ P, sc.names.lookup x = some .local ∨ sc.names.lookup x = some .cell
  nofree : ∀ y ∈ sc.names, y.2 ≠ .free
theorem bindL_out {kindOf : Str → Option NameKind} {x : Str} : ∀ {binds : List (Str × Value)} {m : Str → Option Value}, (∀ v, (x, v) ∉ binds) → bindL kindOf binds m x = m x
  | [], _, _ => rfl
  | (n, v) :: r, m, h => by
    unfold bindL
    rw [bindL_out fun w hw => h w (List.mem_cons_of_mem _ hw)]
    split
    · have : x ≠ n := by rintro rfl; exact h v List.mem_cons_self
      simp [this]
    · rfl
theorem bindC_out {kindOf : Str → Option NameKind} {x : Str} : ∀ {binds : List (Str × Value)} {m : Str → Option Value}, (∀ v, (x, v) ∉ binds) → bindC kindOf binds m x = m x
  | [], _, _ => rfl
  | (n, v) :: r, m, h => by
    unfold bindC
    rw [bindC_out fun w hw => h w (List.mem_cons_of_mem _ hw)]
    split
    · rfl
    · have : x ≠ n := by rintro rfl; exact h v List.mem_cons_self
      simp [this]
theorem bindL_get {kindOf : Str → Option NameKind} {x : Str} {v : Value} : ∀ {P : List Str} {vs : List Value} {i : Nat} {m : Str → Option Value}, P.Nodup → P[i]? = some x → vs[i]? = some v → kindOf x = some .local →
    bindL kindOf (P.zip vs) m x = some v
  | [], _, _, _, _, h, _, _ => by simp at h
  | _ :: _, [], _, _, _, _, h, _ => by simp at h
  | p :: P, w :: vs, 0, m, nd, h1, h2, hk => by
    simp at h1 h2; subst h1; subst h2
    show bindL kindOf ((p, w) :: P.zip vs) m p = _
    unfold bindL
    rw [bindL_out fun v hv => (List.nodup_cons.mp nd).1 (List.of_mem_zip hv).1, if_pos hk]
    simp
  | p :: P, w :: vs, i + 1, m, nd, h1, h2, hk => by
    show bindL kindOf ((p, w) :: P.zip vs) m x = _
    unfold bindL
    exact bindL_get (i := i) (List.nodup_cons.mp nd).2 (by simpa using h1) (by simpa using h2) hk
theorem bindC_get {kindOf : Str → Option NameKind} {x : Str} {v : Value} : ∀ {P : List Str} {vs : List Value} {i : Nat} {m : Str → Option Value}, P.Nodup → P[i]? = some x → vs[i]? = some v → kindOf x ≠ some .local →
    bindC kindOf (P.zip vs) m x = some v
  | [], _, _, _, _, h, _, _ => by simp at h
  | _ :: _, [], _, _, _, _, h, _ => by simp at h
  | p :: P, w :: vs, 0, m, nd, h1, h2, hk => by
    simp at h1 h2; subst h1; subst h2
    show bindC kindOf ((p, w) :: P.zip vs) m p = _
    unfold bindC
    rw [bindC_out fun v hv => (List.nodup_cons.mp nd).1 (List.of_mem_zip hv).1, if_neg hk]
    simp
  | p :: P, w :: vs, i + 1, m, nd, h1, h2, hk => by
    show bindC kindOf ((p, w) :: P.zip vs) m x = _
    unfold bindC
    exact bindC_get (i := i) (List.nodup_cons.mp nd).2 (by simpa using h1) (by simpa using h2) hk
/-- the names' values at the entry -/
def start (N : List Str) (vs : List V) : St := vs.map some ++ List.replicate (N.length - vs.length) none
/-- the context of a def's body, at its entry; an exception leaves the frame, then lies as CX says -/
def cxOf (CX : CXT) (P : Program) (w : World) (K : PySem.W.Frag) (mg : Str → Option Value) (base : Heap) (N : List Str) (qual : Str) (scope : Scope) (f : Addr) (cd : Value) (A : Around) (outer : List Env) (s : Shared) (H : Hp) (E : XK) : Cx where
  prog := P
  w := w
  K := K
  mg := mg
  base := base
  A := A.deeper (envOfC qual scope s.heap.objs.size f cd)
  N := N
  s₀ := s
  H₀ := H
  env := envOfC qual scope s.heap.objs.size f cd
  outer := outer
  stack := envOfC qual scope s.heap.objs.size f cd :: outer
  ex := []
  calm := true
  fn := fun _ => true
  pn := []
  xe := fun e s' => wpAny (model P w) (A.deeper (envOfC qual scope s.heap.objs.size f cd)) (leaving (envOfC qual scope s.heap.objs.size f cd) e) (fun _ s'' => CX outer H s E e s'') (fun e' s'' => CX outer H s E e' s'') s'
theorem cell_has {sc : Scope} {n : Nat} {x : Str} (h : sc.names.lookup x = some .cell) : ∃ c, (cellsFrom n sc.names []).lookup x = some c := by
  have q := PySem.W.cellsFrom_some sc.names n [] (.inl h)
  exact Option.isSome_iff_exists.mp q
theorem inv_start {CX : CXT} {P : Program} {w : World} {K : PySem.W.Frag} {mg : Str → Option Value} {base : Heap} {N ps : List Str} {qual : Str} {scope : Scope} {f : Addr} {cd : Value} {A : Around} {outer : List Env} {s s1 : Shared} {H : Hp} {E : XK} {us : List Value} {vs : List V}
    (S : FnScope N ps scope) (hd : A.handled = none) (e0 : Env0 P w K mg base A outer s H) (hl : vs.length = ps.length) (r : Vals vs us)
    (x : InCallC s s.heap.objs.size (bindL (envOfC qual scope s.heap.objs.size f cd).kindOf (ps.zip us) fun _ => none) (cellsFrom (s.heap.objs.size + 1) scope.names []) (bindC (envOfC qual scope s.heap.objs.size f cd).kindOf (ps.zip us) fun _ => none) s1) :
    Inv (cxOf CX P w K mg base N qual scope f cd A outer s H E) [] (start N vs) H s1 := by
  have hpl : ps.length ≤ N.length := by have := congrArg List.length S.pre; rw [List.length_take] at this; omega
  obtain ⟨h1, tk, rfl, hk⟩ := x.done
  have noA : ∀ b : Addr, b ∉ (cxOf CX P w K mg base N qual scope f cd A outer s H E).ex := fun b z => absurd (show b ∈ ([] : List Addr) from z) (by simp)
  refine ⟨⟨e0.mod, S.kind, rfl, rfl, Nat.le_refl _, fun y z c h1 h2 => ?_, fun y hy => ?_, fun y c _ h => ?_, fun _ => hd, Around.frames_deeper e0.frames, .inr ⟨rfl, rfl⟩, fun b z => absurd z (noA b), e0.bs, e0.bsz, fun b _ _ => noA b, fun b z => absurd z (noA b), e0.funs, e0.frf⟩,
    rfl, e0.bare, Un.kept hk, ⟨_, x.toInCall.ns, fun i y v h1 h2 h3 => ?_⟩, fun y c h => ⟨_, x.cell y c h⟩, e0.hok.fresh (Nat.le_refl _), fun y c h => ?_, fun p hp => absurd (show p ∈ ([] : List (Addr × Obj)) from hp) (by simp), e0.hok.kept hk, ?_⟩
  · exact name_of_addr x.apart (PySem.mem_of_lookup h1) (PySem.mem_of_lookup h2)
  · have hy : scope.names.lookup y = some .cell ∨ scope.names.lookup y = some .free := hy
    rcases hy with hy | hy
    · exact cell_has hy
    · exact absurd rfl (S.nofree _ (PySem.mem_of_lookup hy))
  · exact Nat.le_of_lt (x.above y c (PySem.mem_of_lookup h))
  · have hi : i < vs.length := by
      unfold start at h2
      by_cases hi : i < vs.length
      · exact hi
      · rw [List.getElem?_append_right (by simpa using hi)] at h2
        rw [List.getElem?_replicate] at h2
        split at h2 <;> cases h2
    have ha : vs[i]? = some v := by
      unfold start at h2
      rw [List.getElem?_append_left (by simpa using hi), List.getElem?_map] at h2
      cases e : vs[i]? with
      | none => rw [e] at h2; cases h2
      | some a => rw [e] at h2; cases h2; rfl
    obtain ⟨u, hu, rv⟩ := r.get ha
    have hp : ps[i]? = some y := by
      rw [← S.pre, List.getElem?_take_of_lt (by omega)]; exact h1
    have ndP : ps.Nodup := by rw [← S.pre]; exact S.nd.sublist (List.take_sublist _ _)
    refine ⟨u, rv, ?_⟩
    rcases S.par y (List.mem_of_getElem? hp) with k | k
    · exact .inl ⟨k, bindL_get ndP hp hu k⟩
    · obtain ⟨c, e⟩ := cell_has (n := s.heap.objs.size + 1) k
      refine .inr ⟨.inl k, c, e, ?_⟩
      have q := x.cell y c e
      rw [bindC_get ndP hp hu (by show scope.names.lookup y ≠ _; rw [k]; decide)] at q
      exact q
  · exact e0.hok.fresh (Nat.le_of_lt (x.above y c (PySem.mem_of_lookup h)))
  · unfold start
    show _ = N.length
    rw [List.length_append, List.length_map, List.length_replicate]
    omega
/-- THE RULE: a def (or a method) of the text, by its body. The body's reading t is chosen for each entry; it is run at the parameters' values -/
theorem fn_of {CX : CXT} {P : Program} {w : World} {K : PySem.W.Frag} {mg : Str → Option Value} {base : Heap} {k : Nat} {f : Addr} {name qual : Str} {params : Arguments} {body : List Stmt} {scope : Scope} {dV kV doc pm cdv ct oc : Value} {an od : Option Addr}
    {osl : Array (Option Value)} {N ps : List Str} {sp : Sp} (lk : K.lookup f = some ⟨oc, od, .func (PySem.W.fnOf name qual params body scope dV kV doc pm an cdv ct), osl⟩) (hcd : PySem.W.codeIn K cdv qual = true) (S : FnScope N ps scope)
    (len : ∀ vs H Q E, sp vs H Q E → vs.length = ps.length)
    (hbody : ∀ (A : Around) (outer : List Env) (s : Shared) (H : Hp) (vs : List V) (Q : VK) (E : XK), Room k (A.deeper (envOfC qual scope s.heap.objs.size f cdv)) → sp vs H Q E →
      ∃ t, PSs (cxOf CX P w K mg base N qual scope f cdv A outer s H E) body t ∧ t { nx := fun _ H' => Q .non H', rt := Q } (start N vs) H) :
    FnOk P w K mg base CX (k + 1) f (PySem.W.fnOf name qual params body scope dV kV doc pm an cdv ct) ps sp := by
  refine ⟨len, fun A outer s H args us vs Q E hr e0 hb r hsp => ?_⟩
  have hl := len _ _ _ _ hsp
  have KX : K.In s.heap := e0.mod.kin.keeps fun b o e => (e0.bs b o e).1
  have lim : s.heap.NoLimit := e0.mod.nolimit.keeps fun b o e => (e0.bs b o e).1
  have hkind : ∀ y ∈ ps.zip us, scope.names.lookup y.1 = some .local ∨ (scope.names.lookup y.1 = some .cell ∧ ((cellsFrom (s.heap.objs.size + 1) scope.names []).lookup y.1).isSome = true) := fun ⟨n, v⟩ hy => by
    rcases S.par n (List.of_mem_zip hy).1 with q | q
    · exact .inl q
    · exact .inr ⟨q, PySem.W.cellsFrom_some _ _ _ (.inl q)⟩
  refine codeAny_call_function hr.depth (KX _ _ lk) rfl S.co S.gen rfl (PySem.W.codeRec_of KX hcd) (hb _ _ _ _ ?_)
  refine wpAny_newFunctionEnv_cells S.kind hkind fun env he s1 x => ?_
  subst he
  refine ⟨lim.keeps x.toInCall.keep, codeAny_func ?_⟩
  obtain ⟨t, ht, hq⟩ := hbody A outer s H vs Q E (hr.deeper _) hsp
  have I : Inv (cxOf CX P w K mg base N qual scope f cdv A outer s H E) [] (start N vs) H s1 := inv_start S hr.hd e0 hl r x
  refine wpAny_mono (ht [] s1 (start N vs) H _ I hq) (fun fl s' hs => ?_) fun e s' hs => hs
  have fin : ∀ {σ' : St} {H' : Hp} {v : V} {u : Value}, Inv (cxOf CX P w K mg base N qual scope f cdv A outer s H E) [] σ' H' s' → RelV v u → Q v H' → CE outer P w H s Q u s' :=
    fun {σ' H' v u} J rv q => ⟨v, H', J.os, J.bare, J.base, J.hok, rv, q⟩
  cases fl with
  | ret u =>
    obtain ⟨v, σ', H', J, rv, q⟩ := hs
    exact fin J rv q
  | next =>
    obtain ⟨σ', H', J, q⟩ := hs
    exact fin (v := V.non) (u := Value.none) J rfl q
  | brk =>
    obtain ⟨_, _, _, q⟩ := hs
    exact False.elim q
  | cont =>
    obtain ⟨_, _, _, q⟩ := hs
    exact False.elim q
end L2
namespace L2
open PySem PySem.Spec PyProof.Rows
section
variable {X : Cx} {x : Str} {p pos : Pos} {e : Expr} {es : List Expr} {t : TA} {id T : String} {r : List V → Hp → VK → Prop}
def tCB (r : List V → Hp → VK → Prop) (t : TA) : TE := fun σ H Q => t σ H fun vs H1 => r vs H1 Q
/-- f(e, ..), f a built-in function -/
theorem pe_callB (hc : CallR X (.builtin id) r) (hg : Gl X x) (hm : X.mg x = none) (hv : bootBuiltins x = some (.builtin id)) (ha : PA X (e :: es) t) (hn : x ≠ "__name__" := by decide) (hdb : (x == ("__debug__" : Str)) = false := by decide)
    (he : starEach (e :: es) X.env = (false, eval e X.env) :: starEach es X.env := by rfl) (hpl : (backTo pos (starEach es X.env)).any (·.1) = false := by rfl) : PE X (.Call (.Name x p) (e :: es) [] pos) (tCB r t) := by
  intro pins s σ H Q I h
  refine wpAny_Call_Name_kw (ld_blt I hg hm hv ?_ hn hdb)
  exact PyProof.Rows.callWith_builtin1 (thn (ha pos pins s σ H _ I h) fun us s1 ⟨vs, H1, I1, r1, q1⟩ => hc pins s1 σ H1 vs us Q I1 r1 q1) he hpl
/-- T(e, ..), T a built-in type -/
theorem pe_callTy (hc : CallR X (.type T) r) (hg : Gl X x) (hm : X.mg x = none) (hv : bootBuiltins x = some (.type T)) (ha : PA X (e :: es) t) (hn : x ≠ "__name__" := by decide) (hdb : (x == ("__debug__" : Str)) = false := by decide)
    (he : starEach (e :: es) X.env = (false, eval e X.env) :: starEach es X.env := by rfl) (hpl : (backTo pos (starEach es X.env)).any (·.1) = false := by rfl) : PE X (.Call (.Name x p) (e :: es) [] pos) (tCB r t) := by
  intro pins s σ H Q I h
  refine wpAny_Call_Name_kw (ld_blt I hg hm hv ?_ hn hdb)
  exact PyProof.Rows.callWith_type1 (thn (ha pos pins s σ H _ I h) fun us s1 ⟨vs, H1, I1, r1, q1⟩ => hc pins s1 σ H1 vs us Q I1 r1 q1) he hpl
end
end L2
namespace HT
open PySem PyProof.Rows
section
open PySem.SeqAt
open PySem.AutoSeq1 (wpAny_loadPart')
open PySem.MeetsSeq PySem.MeetsSeq2 PySem.MeetsSeq3
end
section
variable {prog : Program} {w : World} {A : Around} {E : Value → Shared → Prop} {s : Shared}
/-! ### t[a:b], not the whole -/
/-- a slice's bound as a place among n (d where it is left out) -/
def sIx (n d : Nat) : Option Int → Nat
  | none => d
  | some v => if v < 0 then (v + (n : Int)).toNat else min v.toNat n
theorem sIx_none (n d : Nat) : sIx n d none = d := rfl
theorem sIx_nat (n d k : Nat) : sIx n d (some (k : Int)) = min k n := by
  show (if (k : Int) < 0 then ((k : Int) + (n : Int)).toNat else min (k : Int).toNat n) = min k n
  rw [if_neg (by omega), Int.toNat_natCast]
end
end HT
namespace L2
open PySem PySem.Spec PyProof.Rows
/-! ### the parts of a slice -/
abbrev TO := St → Hp → (Option Int → Hp → Prop) → Prop
/-- a slice's part (left out, or an int) -/
def PO (X : Cx) (e : Option Expr) (t : TO) : Prop :=
  ∀ (pins : List (Addr × Obj)) (s : Shared) (σ : St) (H : Hp) (Q : Option Int → Hp → Prop), Inv X pins σ H s → t σ H Q →
    wpAny (model X.prog X.w) X.A (evalPart e X.env) (fun u s' => ∃ o H', Inv X pins σ H' s' ∧ IsPart u o ∧ Q o H') X.xe s
def tNoPart : TO := fun _ H Q => Q none H
def tPart (t : TE) : TO := fun σ H Q => t σ H fun x H1 => ∃ i, x = .int i ∧ Q (some i) H1
section
variable {X : Cx} {e : Expr} {te : TE} {lo hi : Option Expr} {tl th : TO} {pos p2 : Pos}
theorem po_none : PO X none tNoPart := by
  intro pins s σ H Q I h
  rw [evalPart_none]
  exact wpAny_pure ⟨none, H, I, .none, h⟩
theorem po_some (h : PE X e te) : PO X (some e) (tPart te) := by
  intro pins s σ H Q I hw
  rw [evalPart_some]
  refine thn (h pins s σ H _ I hw) fun u s1 ⟨x, H1, I1, r1, q1⟩ => ?_
  obtain ⟨i, rfl, q⟩ := q1
  obtain ⟨t, rfl⟩ := r1
  exact ⟨some i, H1, I1, .int i t, q⟩
/-- what a slice of a value is, by values: the slice object stands at sl -/
def SlR (X : Cx) (r : V → Option Int → Option Int → Hp → VK → Prop) : Prop :=
  ∀ (pins : List (Addr × Obj)) (s : Shared) (σ : St) (H : Hp) (x : V) (v vl vu : Value) (lo hi : Option Int) (sl : Addr) (Q : VK), Inv X pins σ H s → RelV x v → s.heap.IsSliceOf sl vl vu .none → IsPart vl lo → IsPart vu hi → r x lo hi H Q →
    ∃ T id, typeLookup (.type T) "__getitem__" = pure (some (.builtin id)) ∧ s.TypeIs v T ∧ wpAny (model X.prog X.w) X.A (getItem v (.ref sl)) (EP X pins σ Q) X.xe s
def tSl (r : V → Option Int → Option Int → Hp → VK → Prop) (te : TE) (tl th : TO) : TE := fun σ H Q => te σ H fun x H1 => tl σ H1 fun l H2 => th σ H2 fun u H3 => r x l u H3 Q
/-- a[lo:hi], any a -/
theorem pe_slice {r : V → Option Int → Option Int → Hp → VK → Prop} (hr : SlR X r) (he : PE X e te) (hl : PO X lo tl) (hu : PO X hi th) : PE X (.Subscript e (.Slice lo hi none p2) pos) (tSl r te tl th) := by
  intro pins s σ H Q I h
  refine Subscript_ (thn (he pins s σ H _ I h) fun v s1 ⟨x, H1, I1, r1, q1⟩ => ?_)
  refine wpAny_Slice (thn (hl pins s1 σ H1 _ I1 q1) fun vl s2 ⟨l, H2, I2, pl, q2⟩ => thn (hu pins s2 σ H2 _ I2 q2) fun vu s3 ⟨u, H3, I3, pu, q3⟩ => ?_)
  rw [evalPart_none]
  refine wpAny_pure ?_
  have I4 : Inv X pins σ H3 { s3 with heap := s3.heap.push { cls := .type "slice", data := .fields #[vl, vu, .none] } } := I3.kept (t' := s3.toks) fun b ob q => Heap.get?_push_of_some _ q
  obtain ⟨T, id, hT, ht, hg⟩ := hr pins { s3 with heap := s3.heap.push { cls := .type "slice", data := .fields #[vl, vu, .none] } } σ H3 x v vl vu l u s3.heap.objs.size Q I4 r1 (Heap.IsSliceOf.new ..) pl pu q3
  show wpAny (model X.prog X.w) X.A (subscriptTail e (.Slice lo hi none p2) v (.ref s3.heap.objs.size)) (EP X pins σ Q) X.xe { s3 with heap := s3.heap.push { cls := .type "slice", data := .fields #[vl, vu, .none] } }
  exact tail_any (ops := [.ref s3.heap.objs.size, v]) ht hT hg (by with_unfolding_all rfl)
/-- the items of xs[lo:hi] -/
def cutV (xs : List V) (lo hi : Option Int) : List V := (xs.drop (HT.sIx xs.length 0 lo)).take (HT.sIx xs.length xs.length hi - HT.sIx xs.length 0 lo)
theorem cutV_length (xs : List V) (lo hi : Option Int) : (cutV xs lo hi).length ≤ xs.length := by
  unfold cutV
  rw [List.length_take, List.length_drop]
  omega
/-! ### t < u, t + u -/
end
end L2
namespace L2
open PySem PySem.Spec PyProof.Rows
/-! ### places -/
/-- the place that an index of any sign means -/
def ixN (n : Nat) (i : Int) : Option Nat := if 0 ≤ i then (if i < n then some i.toNat else none) else if -(n : Int) ≤ i then some (i + n).toNat else none
def atI {α : Type} (xs : List α) (i : Int) : Option α := (ixN xs.length i).bind fun j => xs[j]?
theorem ixN_seq {n : Nat} {i : Int} {j : Nat} (h : ixN n i = some j) : seqIndex? i n = some j ∧ j < n ∧ -(n : Int) ≤ i ∧ i < n := by
  unfold ixN at h
  by_cases h0 : 0 ≤ i
  · rw [if_pos h0] at h
    by_cases h1 : i < n
    · rw [if_pos h1] at h
      have e : i.toNat = j := Option.some.inj h
      exact ⟨by rw [seqIndex_of h0 h1, e], by omega, by omega, h1⟩
    · rw [if_neg h1] at h; cases h
  · rw [if_neg h0] at h
    by_cases h1 : -(n : Int) ≤ i
    · rw [if_pos h1] at h
      have e : (i + n).toNat = j := Option.some.inj h
      exact ⟨by rw [seqIndex_neg (by omega) h1, e], by omega, h1, by omega⟩
    · rw [if_neg h1] at h; cases h
theorem atI_get {α : Type} {xs : List α} {i : Int} {v : α} (h : atI xs i = some v) : ∃ j, seqIndex? i xs.length = some j ∧ xs[j]? = some v ∧ j < xs.length ∧ -(xs.length : Int) ≤ i ∧ i < xs.length := by
  unfold atI at h
  cases e : ixN xs.length i with
  | none => rw [e] at h; cases h
  | some j =>
    rw [e] at h
    obtain ⟨h1, h2, h3, h4⟩ := ixN_seq e
    exact ⟨j, h1, h, h2, h3, h4⟩
theorem atI_nat {α : Type} {xs : List α} {j : Nat} {v : α} (h : xs[j]? = some v) : atI xs (j : Int) = some v := by
  have hj : j < xs.length := (List.getElem?_eq_some_iff.mp h).1
  have e : ixN xs.length (j : Int) = some j := by
    unfold ixN
    rw [if_pos (by omega), if_pos (by omega)]; simp
  unfold atI; rw [e]; exact h
/-! ### what may be subscripted -/
/-- what stands as an index of a plain subscript -/
def PlainIx (b : Expr) : Prop := ∀ o i, subscripted b false o i = operate [o, i] (getItem o i)
/-- a subscript by values -/
def IxR (X : Cx) (r : R2) : Prop :=
  ∀ (value slice : Expr) (pins : List (Addr × Obj)) (s : Shared) (σ : St) (H : Hp) (x y : V) (v u : Value) (Q : VK), Inv X pins σ H s → RelV x v → RelV y u → r x y H Q →
    subscripted slice false v u = operate [v, u] (getItem v u) → wpAny (model X.prog X.w) X.A (subscriptTail value slice v u) (EP X pins σ Q) X.xe s
/-- a call of a builtin's method by values: the receiver, the arguments -/
def MtR (X : Cx) (id : String) (r : V → List V → Hp → VK → Prop) : Prop :=
  ∀ (pins : List (Addr × Obj)) (s : Shared) (σ : St) (H : Hp) (x : V) (xs : List V) (v : Value) (us : List Value) (Q : VK), Inv X pins σ H s → RelV x v → Vals xs us → r x xs H Q →
    wpAny (model X.prog X.w) X.A (call (.builtin id) (v :: us)) (EP X pins σ Q) X.xe s
section
variable {X : Cx} {a b : Expr} {ta tb : TE} {pos : Pos}
theorem IxR.or {r r' : R2} (h : IxR X r) (h' : IxR X r') : IxR X (fun x y H Q => r x y H Q ∨ r' x y H Q) := by
  intro value slice pins s σ H x y v u Q I rx ry q hs
  rcases q with q | q
  · exact h value slice pins s σ H x y v u Q I rx ry q hs
  · exact h' value slice pins s σ H x y v u Q I rx ry q hs
/-- a[b] -/
theorem pe_ix {r : R2} (hr : IxR X r) (ha : PE X a ta) (hb : PE X b tb) (hs : PlainIx b) : PE X (.Subscript a b pos) (tOp r ta tb) := by
  intro pins s σ H Q I h
  exact Subscript_ (binT ha hb I h fun v u s2 x y H2 I2 rx ry q => hr a b pins s2 σ H2 x y v u Q I2 rx ry q (hs _ _))
def rIxL (K : PySem.W.Frag) : R2 := fun x y H Q => ∃ p xs i v, x = .ref p ∧ y = .int i ∧ SqL K H p xs ∧ atI xs i = some v ∧ Q v H
def rIxT (K : PySem.W.Frag) : R2 := fun x y H Q => ∃ p xs i v, x = .ref p ∧ y = .int i ∧ SqT K H p xs ∧ atI xs i = some v ∧ Q v H
def rIxS : R2 := fun x y H Q => ∃ z i c, x = .str z ∧ y = .int i ∧ z.length ≤ sizeLine ∧ atI z.cps.toList i = some c ∧ Q (.str ⟨#[c]⟩) H
theorem ix_list : IxR X (rIxL X.K) := by
  intro value slice pins s σ H x y v u Q I rx ry h hs
  obtain ⟨p, xs, i, z, rfl, rfl, hq, he, q⟩ := h
  cases rx
  obtain ⟨t, rfl⟩ := ry
  obtain ⟨its, r, pl, hz⟩ := I.list hq
  obtain ⟨j, h1, h2, h3, h4, h5⟩ := atI_get he
  obtain ⟨w, ew, rw'⟩ := r.get h2
  have hl := r.length
  have hn := line63
  have fin : EP X pins σ Q w s := ⟨z, H, I, rw', q⟩
  by_cases h0 : 0 ≤ i
  · have hj : i.toNat = j := by
      rw [seqIndex_of h0 h5] at h1
      exact Option.some.inj h1
    exact item_listR pl.isList h0 (by omega) (by rw [hj]; simpa using ew) fin hs
  · have hj : (i + (its.toArray.size : Int)).toNat = j := by
      rw [seqIndex_neg (by omega) h4] at h1
      rw [List.size_toArray, ← hl]
      exact Option.some.inj h1
    exact subscriptTail_builtinR (x := w) pl.isList.typeIs slot_list_getitem.lookup
      (wpAny_getItem_list_neg (Q := fun r s' => r = w ∧ EP X pins σ Q r s') pl.isList (by omega) (by rw [List.size_toArray] <;> omega) (by omega) (by rw [hj]; simpa using ew) ⟨rfl, fin⟩) hs
theorem ix_tup : IxR X (rIxT X.K) := by
  intro value slice pins s σ H x y v u Q I rx ry h hs
  obtain ⟨p, xs, i, z, rfl, rfl, hq, he, q⟩ := h
  cases rx
  obtain ⟨t, rfl⟩ := ry
  obtain ⟨its, r, pl, hz⟩ := I.tuple hq
  obtain ⟨j, h1, h2, h3, h4, h5⟩ := atI_get he
  obtain ⟨w, ew, rw'⟩ := r.get h2
  have hl := r.length
  have hn := line63
  have fin : EP X pins σ Q w s := ⟨z, H, I, rw', q⟩
  exact subscriptTail_builtinR (x := w) pl.typeIs slot_tuple_getitem.lookup
    (getItem_tuple (j := j) (Q := fun r s' => r = w ∧ EP X pins σ Q r s') pl (by omega) (by omega) (by rw [List.size_toArray, ← hl]; exact h1) (by simpa using ew) ⟨rfl, fin⟩) hs
theorem ix_str : IxR X rIxS := by
  intro value slice pins s σ H x y v u Q I rx ry h hs
  obtain ⟨z, i, c, rfl, rfl, hz, he, q⟩ := h
  obtain ⟨t, rfl⟩ := rx
  obtain ⟨t', rfl⟩ := ry
  obtain ⟨j, h1, h2, h3, h4, h5⟩ := atI_get he
  have hl : z.cps.toList.length = z.length := by simp [Str.length]
  rw [hl] at h1 h4 h5
  have hn := line63
  exact tail_any (typeIs_str s z t) slot_str_getitem.lookup (getItem_str (c := c) (by
    have e1 : decide (i < -(2 ^ 63 : Int)) = false := decide_eq_false (by omega)
    have e2 : decide (i ≥ 2 ^ 63) = false := decide_eq_false (by omega)
    rw [e1, e2, Bool.or_false]) (by rw [h1]; simpa using h2) ⟨.str ⟨#[c]⟩, H, I.tok _, ⟨_, rfl⟩, q⟩) hs
/-- list, tuple or str -/
def rIx (K : PySem.W.Frag) : R2 := fun x y H Q => rIxL K x y H Q ∨ rIxT K x y H Q ∨ rIxS x y H Q
theorem ix_seq : IxR X (rIx X.K) := ix_list.or (ix_tup.or ix_str)
/-! ### xs[i] = v, any sign -/
/-! ### slices -/
theorem slice_bounds (lo hi : Option Int) (n : Nat) : (sliceBounds lo hi none n).1 = ((HT.sIx n 0 lo : Nat) : Int) ∧ (sliceBounds lo hi none n).2.1 = ((HT.sIx n n hi : Nat) : Int) ∧ (sliceBounds lo hi none n).2.2 = 1 := by
  refine ⟨?_, ?_, rfl⟩
  · cases lo with
    | none => simp [sliceBounds, HT.sIx]
    | some i =>
      simp only [sliceBounds, HT.sIx, Option.getD_none, show (1 : Int) > 0 by decide, if_true]
      by_cases h : i < 0
      · simp only [h, if_true] <;> omega
      · simp only [h, if_false] <;> omega
  · cases hi with
    | none => simp [sliceBounds, HT.sIx]
    | some i =>
      simp only [sliceBounds, HT.sIx, Option.getD_none, show (1 : Int) > 0 by decide, if_true]
      by_cases h : i < 0
      · simp only [h, if_true] <;> omega
      · simp only [h, if_false] <;> omega
theorem slicePick_cut (its : List Value) (lo hi : Option Int) : slicePick its.toArray lo hi none = ((its.drop (HT.sIx its.length 0 lo)).take (HT.sIx its.length its.length hi - HT.sIx its.length 0 lo)).toArray := by
  obtain ⟨h1, h2, h3⟩ := slice_bounds lo hi its.toArray.size
  unfold slicePick
  rw [h1, h2, h3]
  simp only [sliceRange_one, pick_run, List.size_toArray] <;> rfl
/-- xs[lo:hi] of a list: a new list -/
def rSlL (K : PySem.W.Frag) : V → Option Int → Option Int → Hp → VK → Prop := fun x lo hi H Q => ∃ a xs, x = .ref a ∧ SqL K H a xs ∧ ∀ p, H p = none → Q (.ref p) (upd H p (.lst (cutV xs lo hi)))
theorem sl_list : SlR X (rSlL X.K) := by
  intro pins s σ H x v vl vu lo hi sl Q I rx hs pl pu h
  obtain ⟨a, xs, rfl, hx, q⟩ := h
  cases rx
  obtain ⟨its, r, ht, hz⟩ := I.list hx
  have hlen := r.length
  refine ⟨"list", _, slot_list_getitem.lookup, ht.isList.typeIs, ?_⟩
  refine wpAny_getItem_list_slice ht.isList hs pl pu .none (by simp) ?_ (by rw [List.size_toArray] <;> omega)
  rw [slicePick_cut, ← hlen]
  refine ⟨.ref s.heap.objs.size, _, I.laid (t' := s.toks) (o := .lst (cutV xs lo hi)) (fun b ob q => Heap.get?_push_of_some _ q) (Nat.le_refl _) ?_, rfl, q _ (I.hok.fresh (Nat.le_refl _))⟩
  exact ⟨Nat.le_trans (cutV_length xs lo hi) hz, _, 0, (r.drop (HT.sIx xs.length 0 lo)).take (HT.sIx xs.length xs.length hi - HT.sIx xs.length 0 lo), Heap.get?_push_size _ rfl⟩
/-! ### in, not in: flat items -/
def flatV : V → Bool
  | .non => true
  | .bl _ => true
  | .int _ => true
  | .str _ => true
  | _ => false
/-- == of flat values -/
def eqV : V → V → Bool
  | .non, .non => true
  | .bl a, .bl b => a == b
  | .bl a, .int b => (if a then 1 else 0) == b
  | .int a, .bl b => a == (if b then 1 else 0)
  | .int a, .int b => a == b
  | .str a, .str b => a == b
  | _, _ => false
theorem eqAt_V {A : Around} {s : Shared} {y x : V} {u v : Value} (ry : RelV y u) (rx : RelV x v) (fy : flatV y = true) (fx : flatV x = true) : SeqAt.EqAt A s u v (eqV y x) := by
  cases y with
  | non =>
    cases ry
    cases x with
    | non => cases rx; exact SeqAt.EqAt.same _
    | bl b => cases rx; exact SeqAt.EqAt.none_bool b
    | int b => obtain ⟨t, rfl⟩ := rx; exact SeqAt.EqAt.none_int b t
    | str b => obtain ⟨t, rfl⟩ := rx; exact SeqAt.EqAt.none_str b t
    | _ => exact absurd (show false = true from fx) Bool.false_ne_true
  | bl a =>
    cases ry
    cases x with
    | non => cases rx; exact SeqAt.EqAt.bool_none a
    | bl b => cases rx; exact SeqAt.EqAt.bool_bool a b
    | int b => obtain ⟨t, rfl⟩ := rx; exact SeqAt.EqAt.bool_int a b t
    | str b => obtain ⟨t, rfl⟩ := rx; exact SeqAt.EqAt.bool_str a b t
    | _ => exact absurd (show false = true from fx) Bool.false_ne_true
  | int a =>
    obtain ⟨t', rfl⟩ := ry
    cases x with
    | non => cases rx; exact SeqAt.EqAt.int_none a t'
    | bl b => cases rx; exact SeqAt.EqAt.int_bool a t' b
    | int b => obtain ⟨t, rfl⟩ := rx; exact SeqAt.EqAt.int_int a t' b t
    | str b => obtain ⟨t, rfl⟩ := rx; exact SeqAt.EqAt.int_str a t' b t
    | _ => exact absurd (show false = true from fx) Bool.false_ne_true
  | str a =>
    obtain ⟨t', rfl⟩ := ry
    cases x with
    | non => cases rx; exact SeqAt.EqAt.str_none a t'
    | bl b => cases rx; exact SeqAt.EqAt.str_bool a t' b
    | int b => obtain ⟨t, rfl⟩ := rx; exact SeqAt.EqAt.str_int a t' b t
    | str b => obtain ⟨t, rfl⟩ := rx; exact SeqAt.EqAt.str_str a t' b t
    | _ => exact absurd (show false = true from fx) Bool.false_ne_true
  | _ => exact absurd (show false = true from fy) Bool.false_ne_true
/-- the items' answers, read off the values (a value's own answer does not lean on its token) -/
def eqU (x : V) (u : Value) : Bool := match u with
  | .none => eqV .non x
  | .bool b => eqV (.bl b) x
  | .int i _ => eqV (.int i) x
  | .str z _ => eqV (.str z) x
  | _ => false
theorem eqU_of {x y : V} {u : Value} (r : RelV y u) (f : flatV y = true) : eqU x u = eqV y x := by
  cases y with
  | non => cases r; rfl
  | bl b => cases r; rfl
  | int i => obtain ⟨t, rfl⟩ := r; rfl
  | str z => obtain ⟨t, rfl⟩ := r; rfl
  | _ => exact absurd (show false = true from f) Bool.false_ne_true
theorem any_eqU {x : V} : ∀ {xs : List V} {us : List Value}, Vals xs us → xs.all flatV = true → us.any (eqU x) = xs.any fun y => eqV y x
  | _, _, .nil, _ => rfl
  | y :: xs, u :: us, .cons r t, f => by
    rw [List.all_cons, Bool.and_eq_true] at f
    rw [List.any_cons, List.any_cons, eqU_of r f.1, any_eqU t f.2]
theorem mem_eqAt {A : Around} {s : Shared} {x : V} {v : Value} (rx : RelV x v) (fx : flatV x = true) : ∀ {xs : List V} {us : List Value}, Vals xs us → xs.all flatV = true → ∀ u ∈ us, SeqAt.EqAt A s u v (eqU x u)
  | _, _, .nil, _ => fun u hu => by cases hu
  | y :: xs, u :: us, .cons r t, f => fun u' hu => by
    rw [List.all_cons, Bool.and_eq_true] at f
    rcases List.mem_cons.mp hu with rfl | hu
    · rw [eqU_of r f.1]; exact eqAt_V r rx f.1 fx
    · exact mem_eqAt rx fx t f.2 u' hu
def inV (x : V) (xs : List V) : Bool := xs.any fun y => eqV y x
/-- x in a list or tuple of flat items -/
def rIn (K : PySem.W.Frag) (neg : Bool) : R2 := fun x y H Q => ∃ p xs, y = .ref p ∧ (SqL K H p xs ∨ SqT K H p xs) ∧ flatV x = true ∧ xs.all flatV = true ∧ Q (.bl (if neg then !inV x xs else inV x xs)) H
theorem op_in_seq : OpR X (compareOp .In) (rIn X.K false) := by
  intro pins s σ H x y v u Q I rx ry h
  obtain ⟨p, xs, rfl, hq, fx, fs, q⟩ := h
  cases ry
  rcases hq with hq | hq
  · obtain ⟨its, r, pl, hz⟩ := I.list hq
    refine SeqAt.in_listAt (eqU x) pl.isList (fun w hw => mem_eqAt rx fx r fs w (by simpa using hw)) ⟨.bl _, H, I, rfl, ?_⟩
    rw [show its.toArray.any (eqU x) = its.any (eqU x) by simp, any_eqU r fs]
    exact q
  · obtain ⟨its, r, pl, hz⟩ := I.tuple hq
    refine SeqAt.in_tupleAt (eqU x) pl (fun w hw => mem_eqAt rx fx r fs w (by simpa using hw)) ⟨.bl _, H, I, rfl, ?_⟩
    rw [show its.toArray.any (eqU x) = its.any (eqU x) by simp, any_eqU r fs]
    exact q
theorem op_notIn_seq : OpR X (compareOp .NotIn) (rIn X.K true) := by
  intro pins s σ H x y v u Q I rx ry h
  obtain ⟨p, xs, rfl, hq, fx, fs, q⟩ := h
  cases ry
  rcases hq with hq | hq
  · obtain ⟨its, r, pl, hz⟩ := I.list hq
    refine SeqAt.notIn_listAt (eqU x) pl.isList (fun w hw => mem_eqAt rx fx r fs w (by simpa using hw)) ⟨.bl _, H, I, rfl, ?_⟩
    rw [show its.toArray.any (eqU x) = its.any (eqU x) by simp, any_eqU r fs]
    exact q
  · obtain ⟨its, r, pl, hz⟩ := I.tuple hq
    refine SeqAt.notIn_tupleAt (eqU x) pl (fun w hw => mem_eqAt rx fx r fs w (by simpa using hw)) ⟨.bl _, H, I, rfl, ?_⟩
    rw [show its.toArray.any (eqU x) = its.any (eqU x) by simp, any_eqU r fs]
    exact q
/-! ### len, list(x), tuple(x) of any list or tuple that is read -/
theorem call_list_of : CallR X (.type "list") (fun xs H Q => ∃ p ys, xs = [.ref p] ∧ (SqL X.K H p ys ∨ SqT X.K H p ys) ∧ ∀ l, H l = none → Q (.ref l) (upd H l (.lst ys))) := by
  intro pins s σ H xs us Q I r h
  obtain ⟨p, ys, rfl, hq, q⟩ := h
  obtain ⟨u, rfl, rx⟩ := vals1 r
  cases rx
  have fin : ∀ (its : List Value), Vals ys its → ys.length ≤ sizeLine → ∀ (h' : Heap) (c' : Nat), (∀ b o', s.heap.get? b = some o' → h'.get? b = some o') →
      h'.get? s.heap.objs.size = some { cls := .type "list", dict := none, data := .seq its.toArray c', slots := #[] } → EP X pins σ Q (.ref s.heap.objs.size) { s with heap := h' } := fun its r' hz h' c' kp e =>
    ⟨.ref s.heap.objs.size, _, I.laid (t' := s.toks) kp (Nat.le_refl _) (show ObjOk X.prog X.w _ h' _ (.lst ys) from ⟨hz, its, c', r', e⟩), rfl, q _ (I.hok.fresh (Nat.le_refl _))⟩
  rcases hq with hq | hq
  · obtain ⟨its, r', pl, hz⟩ := I.list hq
    have hlen := r'.length
    obtain ⟨o, ho, hc, n, hd⟩ := pl.isList
    exact call_list_seq p (.inl rfl) ho hc hd (fun h' c' kp e => fin its r' hz h' c' kp e) (by simp only [List.size_toArray] <;> omega)
  · obtain ⟨its, r', pl, hz⟩ := I.tuple hq
    have hlen := r'.length
    obtain ⟨o, ho, hc, n, hd⟩ := pl
    exact call_list_seq p (.inr rfl) ho hc hd (fun h' c' kp e => fin its r' hz h' c' kp e) (by simp only [List.size_toArray] <;> omega)
theorem call_tuple_of : CallR X (.type "tuple") (fun xs H Q => ∃ p ys, xs = [.ref p] ∧ ((SqL X.K H p ys ∧ ∀ l, H l = none → Q (.ref l) (upd H l (.tup ys))) ∨ (SqT X.K H p ys ∧ Q (.ref p) H))) := by
  intro pins s σ H xs us Q I r h
  obtain ⟨p, ys, rfl, h⟩ := h
  obtain ⟨u, rfl, rx⟩ := vals1 r
  cases rx
  rcases h with ⟨hq, q⟩ | ⟨hq, q⟩
  · obtain ⟨its, r', pl, hz⟩ := I.list hq
    have hlen := r'.length
    refine call_tuple_list pl.isList (fun h' kp => ?_) (by simp only [List.size_toArray] <;> omega)
    have I1 : Inv X pins σ H { s with heap := h' } := I.kept (t' := s.toks) kp
    have I2 : Inv X pins σ (upd H h'.objs.size (.tup ys)) { s with heap := h'.push { cls := .type "tuple", data := .seq its.toArray } } :=
      I1.laid (t' := s.toks) (fun b o e => Heap.get?_push_of_some _ e) (Nat.le_refl _) (show ObjOk X.prog X.w _ _ _ (.tup ys) from ⟨hz, its, r', IsTup.new _ _⟩)
    exact ⟨.ref h'.objs.size, _, I2, rfl, q _ (I1.hok.fresh (Nat.le_refl _))⟩
  · obtain ⟨its, r', pl, hz⟩ := I.tuple hq
    exact call_tuple_same pl ⟨.ref p, H, I, rfl, q⟩
/-! ### the call of a builtin's method: o.m(..) -/
/-- the value is of that builtin type -/
def tyV (K : PySem.W.Frag) (T : String) (x : V) (H : Hp) : Prop := match x with
  | .str _ => T = "str"
  | .int _ => T = "int"
  | .ref p => (T = "list" ∧ ∃ xs, SqL K H p xs) ∨ (T = "tuple" ∧ ∃ o, K.lookup p = some o ∧ o.cls = .type "tuple" ∧ o.dict = none) ∨
      (T = "dict" ∧ ((∃ kvs, H p = some (.dK kvs)) ∨ ∃ kvs, H p = some (.dT kvs))) ∨ (T = "set" ∧ ∃ S n, H p = some (.set S n))
  | _ => False
theorem tyV_is {pins : List (Addr × Obj)} {σ : St} {H : Hp} {s : Shared} {T : String} {x : V} {v : Value} (I : Inv X pins σ H s) (r : RelV x v) (ty : tyV X.K T x H) :
    s.TypeIs v T ∧ ∀ a, v = .ref a → ∃ ob, s.heap.get? a = some ob ∧ ob.dict = none := by
  cases x with
  | str z =>
    obtain ⟨t, rfl⟩ := r
    cases (show T = "str" from ty)
    exact ⟨typeIs_str s z t, fun _ e => nomatch e⟩
  | int i =>
    obtain ⟨t, rfl⟩ := r
    cases (show T = "int" from ty)
    exact ⟨typeIs_int s i t, fun _ e => nomatch e⟩
  | ref p =>
    cases r
    rcases ty with ⟨rfl, xs, hq⟩ | ⟨rfl, o, hk, hc, hd⟩ | ⟨rfl, hk⟩ | ⟨rfl, S, n, hk⟩
    · obtain ⟨its, _, pl, _⟩ := I.list hq
      refine ⟨pl.isList.typeIs, fun a e => ?_⟩
      cases e
      obtain ⟨o, n, e, c, hd, _⟩ := pl
      exact ⟨o, e, hd⟩
    · refine ⟨⟨o, I.kIn p o hk, hc⟩, fun a e => ?_⟩
      cases e
      exact ⟨o, I.kIn _ o hk, hd⟩
    · have z : ∃ o, s.heap.get? p = some o ∧ o.ExactDict := by
        rcases hk with ⟨kvs, hk⟩ | ⟨kvs, hk⟩
        · obtain ⟨_, _, _, _, o, _, _, e, ex, _⟩ := I.hok p _ hk
          exact ⟨o, e, ex⟩
        · obtain ⟨_, _, _, _, o, _, _, e, ex, _⟩ := I.hok p _ hk
          exact ⟨o, e, ex⟩
      obtain ⟨o, e, ex⟩ := z
      refine ⟨⟨o, e, ex.1⟩, fun a e2 => ?_⟩
      cases e2
      exact ⟨o, e, ex.2.1⟩
    · obtain ⟨o, _, _, _, e, ex, _⟩ := I.hok p _ hk
      refine ⟨⟨o, e, ex.1⟩, fun a e2 => ?_⟩
      cases e2
      exact ⟨o, e, ex.2.1⟩
  | _ => exact False.elim ty
def tBM (K : PySem.W.Frag) (T : String) (r : V → List V → Hp → VK → Prop) (to : TE) (t : TA) : TE := fun σ H Q => to σ H fun x H1 => tyV K T x H1 ∧ t σ H1 fun xs H2 => r x xs H2 Q
variable {o e : Expr} {es : List Expr} {to : TE} {t : TA} {name : Str} {apos cpos : Pos} {T id : String} {r : V → List V → Hp → VK → Prop}
theorem pe_bm (pa : PlainAttrs T) (slot : Slot T name id) (hty : typeOf (.builtin id) = pure (.type "method_descriptor")) (hm : MtR X id r) (ho : PE X o to) (ha : PA X (e :: es) t)
    (hbase : attributeBase o name X.env (eval o X.env) = eval o X.env := by rfl)
    (hfew : ((backTo cpos (starEach (e :: es) X.env)).all (fun x => !x.1) && (backToKw cpos (keywordEach [] X.env)).all (fun x => x.1.isSome)
      && decide ((e :: es).length + ([] : List Keyword).length + (if ([] : List Keyword).isEmpty then 0 else 1) < 30)) = true := by rfl)
    (hline : (apos.endLine == cpos.line) = true := by rfl) (hs : starEach (e :: es) X.env = (false, eval e X.env) :: starEach es X.env := by rfl) (hplain : (backTo cpos (starEach es X.env)).any (·.1) = false := by rfl) :
    PE X (.Call (.Attribute o name apos) (e :: es) [] cpos) (tBM X.K T r to t) := by
  intro pins s σ H Q I h
  refine wpAny_Call_method_late hbase hfew hline rfl (thn (ho pins s σ H _ I h) fun v s1 ⟨x, H1, I1, r1, ty, q1⟩ => ?_)
  obtain ⟨h1, h2⟩ := tyV_is I1 r1 ty
  refine ⟨T, id, pa, slot, hty, h1, h2, ?_⟩
  have hA := ha cpos pins s1 σ H1 _ I1 q1
  rw [hs] at hA ⊢
  refine Calls.callWith_builtin (by show (false || (backTo cpos (starEach es X.env)).any (·.1)) = false; rw [hplain] <;> rfl) (Calls.evalArgs_plain ?_)
  exact thn hA fun us s2 ⟨vs, H2, I2, r2, q2⟩ => hm pins s2 σ H2 x vs v us Q I2 r1 r2 q2
/- xs.append(e), list.index on a module's tuple .. are MtR facts of 06m -/
end
end L2
namespace L2
open PySem PySem.Spec PyProof.Rows
def MtM (X : Cx) (id : String) (r : V → List V → Hp → VK → Prop) : Prop :=
  ∀ (pins : List (Addr × Obj)) (s : Shared) (σ : St) (H : Hp) (x : V) (xs : List V) (v : Value) (us : List Value) (Q : VK), Inv X pins σ H s → RelV x v → Vals xs us → r x xs H Q →
    wpAny (model X.prog X.w) X.A (call (.builtin id) (v :: us)) (EP X pins σ Q) X.xe s
/-! ### lists of values -/
theorem Vals.one : ∀ {x : V} {us : List Value}, Vals [x] us → ∃ u, us = [u] ∧ RelV x u
  | _, _, .cons r .nil => ⟨_, rfl, r⟩
section
variable {X : Cx} {pins : List (Addr × Obj)} {σ : St} {H : Hp} {s : Shared} {l b : Addr} {xs ys zs : List V}
/-! ### the two steps: a tracked list is rewritten, a new list is laid -/
theorem Inv.lset {its its' : List Value} {n : Nat} {f : Array Value → Array Value} {t' : Nat} (I : Inv X pins σ H s) (hH : H l = some (.lst xs))
    (e : s.heap.get? l = some { cls := .type "list", data := .seq its.toArray n }) (hf : f its.toArray = its'.toArray) (hv : Vals ys its') (hz : ys.length ≤ sizeLine) :
    Inv X pins σ (upd H l (.lst ys)) { s with heap := s.heap.update l (Obj.mapSeq f), toks := t' } := by
  have q := PySem.IsL.update e f
  rw [hf] at q
  refine I.write (x := l) (e := l) (by rw [hH]; exact trivial) (.inl rfl) (fun b' u hb hu => (Heap.get?_update_other s.heap (Obj.mapSeq f) (Ne.symm hb)).trans hu) ⟨_, q⟩ ?_
  exact ⟨hz, its', _, hv, q⟩
theorem Inv.lnew {its : List Value} {t' : Nat} (I : Inv X pins σ H s) (hv : Vals ys its) (hz : ys.length ≤ sizeLine) :
    Inv X pins σ (upd H s.heap.objs.size (.lst ys)) { s with heap := s.heap.push { cls := .type "list", data := .seq its.toArray }, toks := t' } :=
  I.laid (fun _ _ q => Heap.get?_push_of_some _ q) (Nat.le_refl _) ⟨hz, its, 0, hv, Heap.get?_push_size _ rfl⟩
theorem Inv.fresh (I : Inv X pins σ H s) : H s.heap.objs.size = none := I.hok.fresh (Nat.le_refl _)
theorem Inv.lstM (I : Inv X pins σ H s) (hH : H l = some (.lst xs)) : xs.length ≤ sizeLine ∧ ∃ (its : List Value) (n : Nat), Vals xs its ∧ xs.length = its.length ∧ s.heap.get? l = some { cls := .type "list", data := .seq its.toArray n } := by
  obtain ⟨z, its, n, r, e⟩ := I.hok l _ hH
  exact ⟨z, its, n, r, r.length, e⟩
end
section
variable {X : Cx}
/-! ### methods -/
def rAppend : V → List V → Hp → VK → Prop := fun x vs H Q => ∃ l xs y, x = .ref l ∧ vs = [y] ∧ H l = some (.lst xs) ∧ xs.length < sizeLine ∧ Q .non (upd H l (.lst (xs ++ [y])))
theorem mt_append : MtM X "list.append" rAppend := by
  intro pins s σ H x vs v us Q I rx rv h
  obtain ⟨l, xs, y, rfl, rfl, hH, hz, q⟩ := h
  cases rx
  obtain ⟨u, rfl, ru⟩ := rv.one
  obtain ⟨z, its, n, r, hl, e⟩ := I.lstM hH
  refine call_meets F.slot_list_append ⟨_, e, rfl⟩ F.entry_list_append (F.args_list_append_2 _ _) (PySem.list_append l its.toArray n u (by rw [List.size_toArray]; omega)) ⟨e, ?_⟩
  refine ⟨.non, _, I.lset (its' := its ++ [u]) hH e (by simp) (r.append (.cons ru .nil)) ?_, rfl, q⟩
  rw [List.length_append, List.length_singleton]
  omega
/-! ### list + list, list += list, list * int -/
def rCat : R2 := fun x y H Q => ∃ l b xs zs, x = .ref l ∧ y = .ref b ∧ H l = some (.lst xs) ∧ H b = some (.lst zs) ∧ xs.length + zs.length ≤ sizeLine ∧ ∀ p, H p = none → Q (.ref p) (upd H p (.lst (xs ++ zs)))
theorem op_cat : OpR X (binaryOp .Add) rCat := by
  intro pins s σ H x y v u Q I rx ry h
  obtain ⟨l, b, xs, zs, rfl, rfl, hH, hB, hz, q⟩ := h
  cases rx
  cases ry
  obtain ⟨z, its, n, r, hl, e⟩ := I.lstM hH
  obtain ⟨z2, its2, n2, r2, hl2, e2⟩ := I.lstM hB
  refine PySem.P.add_list e e2 ?_ (by rw [List.size_toArray, List.size_toArray]; omega)
  have ea : its.toArray ++ its2.toArray = (its ++ its2).toArray := by simp
  rw [ea]
  exact ⟨.ref _, _, I.lnew (t' := s.toks) (r.append r2) (by rw [List.length_append]; omega), rfl, q _ I.fresh⟩
/-! ### del xs[i] -/
end
/-! ### xs[a:b] = ys -/
section
variable {prog : Program} {w : World} {A : Around} {E : Value → Shared → Prop} {s : Shared}
end
section
variable {X : Cx}
end
end L2
namespace Att
open PySem PySem.W PySem.Calls PyProof.Rows
/-! ### the script -/
theorem ints_of_wellAll {P : Params} {h : Heap} : ∀ (ns : List Int) (vs : List Value), WellAll P h vs (ns.map WData.int) → IntsAre vs ns := by
  intro ns
  induction ns with
  | nil =>
    intro vs w
    rw [List.map_nil] at w
    cases w
    exact .nil
  | cons n ns ih =>
    intro vs w
    rw [List.map_cons] at w
    cases w with
    | cons a b =>
      cases a
      exact .cons _ _ (ih _ b)
theorem script_of {l : OpenLaw} {n : Nat} (hn : l.most = some n) {P : Params} {h : Heap} {args : List WData} {vals : List Value}
    (hpre : l.row.toRowW.claim.pre args = true) (hwl : WellAll P h vals args) :
    ∃ a vs ns, vals = [Value.ref a] ∧ args = [WData.list (ns.map WData.int)] ∧ h.get? a = some { cls := .type "list", data := .seq vs.toArray } ∧ IntsAre vs ns ∧ ns.length ≤ n := by
  have hsh : WShape.hasAll [] args [.list .int] = true := (pre_splitW hpre).1
  have hc : l.pre.holds [] { args := args } = true := (pre_splitW hpre).2
  obtain ⟨d, r, rfl, h1, h2⟩ := hasAllW_cons hsh
  obtain rfl := hasAllW_nil h2
  obtain ⟨xs, rfl, h3⟩ := hasW_list h1
  obtain ⟨ns, rfl⟩ := items_int h3
  have hlen : ns.length ≤ n := by
    unfold OpenLaw.pre at hc
    have h4 : (WTm.not (.lt (.lit (.int (n : Int))) (.len (.arg 0)))).holds [] { args := [.list (ns.map .int)] } = true := by
      have h4 := (holds_andW hc).1
      rw [hn] at h4
      exact h4
    have h5 := condW_of h4 (w_not (w_lt w_lit (w_len_list (w_arg rfl))))
    rw [List.length_map] at h5
    refine Nat.le_of_not_lt fun q => ?_
    have q' : (n : Int) < ((ns.length : Nat) : Int) := by omega
    first
      | (rw [decide_eq_true q'] at h5; exact absurd h5 (by decide))
      | (simp at h5; omega)
  cases hwl with
  | cons w1 w2 =>
    cases w2
    cases w1 with
    | list ho hall => exact ⟨_, _, ns, rfl, rfl, ho, ints_of_wellAll ns _ hall, hlen⟩
theorem post_true (l : OpenLaw) (args : List WData) : l.row.toRowW.claim.post args (.bool true) args = true :=
  postW_of (r := l.row.toRowW) (X := (true == true))
    (show WShape.has [] (.bool true) .bool = true by first | rfl | decide | simp [WShape.has, WShape.arms, WShape.armsAll])
    (show (WTm.eq .res (.lit (.bool true))).value [] { args := args, res := some (.bool true), after := args } = some (.bool (true == true)) from w_eq_bool (w_res rfl) w_lit) rfl
/-! ### the attachment: holds_open's last premise (the goal 'hc' behind k_head) from a wpAny of the law's body -/
/-- the same from a codeAny of the CALL (for a layer whose function contracts speak of calls) -/
theorem attach_call {l : OpenLaw} {n : Nat} {q : Program} {loose : List Str} {XP : (Str → Option Value) → Heap → Prop} {YP : World → Heap → Prop} {d : DefRec}
    (hn : l.most = some n) (hdf : d.params.defaults = [])
    (call : ∀ (w : World) (s₀ s₁ : Shared) (mg mb : Str → Option Value) (fa : Addr) (o : Obj) (pm cd doc : Value) (a : Addr) (vs : List Value) (ns : List Int),
      Ground q loose [] XP w s₀ mg mb s₁.heap → YP w s₁.heap →
      s₁.heap.get? fa = some o → o.data = .func (docDef d.name d.params d.body d.scope pm cd doc) → s₁.heap.CodeRec cd d.name → mg d.name = some (.ref fa) →
      s₁.heap.get? a = some { cls := .type "list", data := .seq vs.toArray } → IntsAre vs ns → ns.length ≤ n → s₁.gens = #[] →
      codeAny (model l.prog w) callerA (.call (.ref fa) ⟨[.ref a], []⟩) (fun r s' => r = .ok (.ret (.bool true)) ∧ OldK s₁.heap s'.heap ∧ s'.os = s₁.os ∧ AllBare s'.gens) s₁) :
    WalkO q loose XP YP l.row.toRowW d [] (fun f vs => PySem.call f vs) := by
  intro w s₀ s₁ mg mb G Y fa o pm cd doc dV kV ho hd hcd hD hmg hg args vals as hpre hlay hrd hwl hlo
  obtain rfl : dV = .none := Dflts.none hD hdf
  obtain rfl : kV = .none := Dflts.noKw hD
  obtain ⟨a, vs, ns, rfl, rfl, hobj, hints, hlen⟩ := script_of hn hpre hwl
  refine enter_call (codeAny_mono (call w s₀ s₁ mg mb fa o pm cd doc a vs ns G Y ho (fd_plain hd) hcd hmg hobj hints hlen hg) fun r s' hq => ?_)
  obtain ⟨rfl, h2, h3, h4⟩ := hq
  exact ⟨.inl ⟨.bool true, .bool true, [], rfl, fun _ => rfl, .bool true, post_true l _, fun _ => ⟨List.Pairwise.nil, fun _ hm => (nomatch hm)⟩⟩, h2, h3, h4⟩
/-! ### rules over ANY heap (no ledger) from facts about the written part K: the library's own take a ledger (News) for what they write -/
section
variable {prog : Program} {w : World} {A : Around} {E : Value → Shared → Prop} {s : Shared} {K : Frag}
/-! the whole heap as the ledger: makes every rule that writes through a ledger a rule over any heap -/
end
end Att
namespace L2
open PySem PySem.Spec PyProof.Rows
theorem vals_ints : ∀ {vs : List Value} {ns : List Int}, IntsAre vs ns → Vals (ns.map V.int) vs
  | _, _, .nil => .nil
  | _, _, .cons n t h => .cons ⟨t, rfl⟩ (vals_ints h)
/-- nothing is tracked but the script, known to the object (or it is an object of the module) -/
def Only (H : Hp) : Prop := ∀ b, H b = none ∨ ∃ o xs, H b = some (.frz o (.lst xs))
/-- THE HEAD: the law's promise, at the heap behind the top. F, the promise of the law's def, may use that base is part of the heap (so K.In base, base.Ns mainGlobals mg stand in Mod) -/
theorem law_call {P : Program} {w : World} {K : PySem.W.Frag} {mg mb : Str → Option Value} {CX : CXT} {k : Nat} {fa a : Addr} {fd : FuncData} {x : Str} {sp : Sp} {s₁ : Shared} {vs : List Value} {ns : List Int}
    (KX : K.In s₁.heap) (hns : s₁.heap.Ns mainGlobals mg) (hb : s₁.heap.Ns builtinsNs mb) (hbb : ∀ x : Str, x ≠ "__name__" → mb x = bootBuiltins x) (hlim : s₁.heap.NoLimit) (hg : s₁.gens = #[])
    (ha : s₁.heap.get? a = some { cls := .type "list", data := .seq vs.toArray }) (hi : IntsAre vs ns) (hl : ns.length ≤ sizeLine) (hr : Room k callerA)
    (F : ∀ base : Heap, K.In base → base.Ns mainGlobals mg → FnOk P w K mg base CX k fa fd [x] sp) (hbind : ∀ (s : Shared) (u : Value), BindsTo s fd ⟨[u], []⟩ [(x, u)])
    (hsp : ∀ H : Hp, Only H → SqL K H a (ns.map V.int) → sp [.ref a] H (fun v _ => v = .bl true) fun _ _ _ => False)
    (hCX : ∀ H e s', CX [] H s₁ (fun _ _ _ => False) e s' → False) :
    codeAny (model P w) callerA (.call (.ref fa) ⟨[.ref a], []⟩) (fun r s' => r = .ok (.ret (.bool true)) ∧ OldK s₁.heap s'.heap ∧ s'.os = s₁.os ∧ AllBare s'.gens) s₁ := by
  have rv := vals_ints hi
  have lenV := hi.length
  -- from an abstract heap in which nothing but the script may be tracked
  have core : ∀ H : Hp, Only H → SqL K H a (ns.map V.int) → HOk P w H s₁.heap → (∀ b, H b ≠ none → b = a) → (H a ≠ none → K.lookup a = none) →
      codeAny (model P w) callerA (.call (.ref fa) ⟨[.ref a], []⟩) (fun r s' => r = .ok (.ret (.bool true)) ∧ OldK s₁.heap s'.heap ∧ s'.os = s₁.os ∧ AllBare s'.gens) s₁ := by
    intro H hO hS hok hA hK
    have base_of : ∀ {b : Addr} {o : Obj}, s₁.heap.get? b = some o → H b = none → (hidT s₁.heap H).get? b = some o := fun e n => hidT_get e n
    have noA : ∀ {b : Addr} {o : Obj} {es : Array DictEntry} {ep : Nat}, s₁.heap.get? b = some o → o.data = .dict es ep → H b = none := fun {b o es ep} e d => by
      cases q : H b with
      | none => rfl
      | some u =>
        have e' : b = a := hA b (by rw [q]; simp)
        subst e'
        rw [ha] at e; cases e
        have d' : Data.seq vs.toArray _ = Data.dict es ep := d
        cases d'
    have nsK : ∀ {b : Addr} {m : Str → Option Value}, s₁.heap.Ns b m → (hidT s₁.heap H).Ns b m := fun {b m} ⟨o, es, ep, e, d, r⟩ => ⟨o, es, ep, base_of e (noA e d), d, r⟩
    have hKb : K.In (hidT s₁.heap H) := fun b o e => base_of (KX b o e) (by
      cases q : H b with
      | none => rfl
      | some u =>
        have e' : b = a := hA b (by rw [q]; simp)
        subst e'
        rw [hK (by rw [q]; simp)] at e; cases e)
    have hM : Mod K mg (hidT s₁.heap H) := ⟨hKb, nsK hns, ⟨mb, nsK hb, hbb⟩, let ⟨mc, h1, h2⟩ := hlim; ⟨mc, nsK h1, h2⟩⟩
    have e0 : Env0 P w K mg (hidT s₁.heap H) callerA [] s₁ H := ⟨rfl, hM, fun b o e => of_hidT e, Nat.le_of_eq (hidT_size _ _), trivial, fun b hb => absurd (show b ∈ ([] : List Addr) from hb) (by simp), hok, .of_eq hg⟩
    refine codeAny_mono ((F _ hKb (nsK hns)).run callerA [] s₁ H ⟨[.ref a], []⟩ [.ref a] [.ref a] _ _ hr e0 (hbind s₁ (.ref a)) (.cons rfl .nil) (hsp H hO hS)) fun r s' h => ?_
    cases r with
    | error e => exact (hCX H e s' h).elim
    | ok fl =>
      cases fl with
      | next => exact False.elim h
      | brk => exact False.elim h
      | cont => exact False.elim h
      | ret u =>
        obtain ⟨v, H', os, bare, un, hok', r', q⟩ := h
        have q' : v = .bl true := q
        subst q'
        obtain rfl : u = Value.bool true := r'
        refine ⟨rfl, OldK.of_keep fun b o e => ?_, os, bare⟩
        cases q : H b with
        | none => exact un.keep b o e q (by intro z; exact absurd (show b ∈ ([] : List Addr) from z) (by simp)) (by simp)
        | some u =>
          rcases hO b with z | ⟨ob, xs, z⟩
          · rw [q] at z; cases z
          · have z2 := un.frzs b ob _ z
            obtain ⟨e1, _⟩ := hok b _ z
            obtain ⟨e2, _⟩ := hok' b _ z2
            rw [e] at e1; cases e1
            exact e2
  cases hk : K.lookup a with
  | some o =>
    -- the script is one of the module's own objects
    have e := KX a o hk
    rw [ha] at e
    cases e
    refine core (fun _ => none) (fun _ => .inl rfl) (.inr ⟨_, vs.toArray, _, hk, rfl, rfl, rfl, by rw [List.size_toArray, lenV]; exact hl, by simpa using rv⟩) (fun b u z => by have z' : (none : Option HO) = some u := z; cases z') (fun b z => absurd rfl z) fun z => absurd rfl z
  | none =>
    refine core (fun b => if b = a then some (.frz { cls := .type "list", data := .seq vs.toArray } (.lst (ns.map V.int))) else none) (fun b => ?_) (.inl (.inr ⟨{ cls := .type "list", data := .seq vs.toArray }, if_pos rfl⟩)) (fun b u z => ?_) (fun b z => ?_) fun _ => hk
    · by_cases hb : b = a
      · exact .inr ⟨_, _, if_pos hb⟩
      · exact .inl (if_neg hb)
    · by_cases hb : b = a
      · have z' := (if_pos hb).symm.trans z
        cases z'
        subst hb
        exact ⟨ha, by rw [List.length_map]; exact hl, vs, _, rv, ha⟩
      · have z' := (if_neg hb).symm.trans z
        cases z'
    · by_cases hb : b = a
      · exact hb
      · exact absurd (if_neg hb) z
end L2
namespace L2
open PySem PySem.Spec PyProof.Rows
/-- the goal that k_head leaves (case hc), from the law's promise. F gives the function object fd (K's own) once, then the promise over every base -/
theorem walk_of {l : PySem.W.OpenLaw} {n k : Nat} {q : Program} {loose : List Str} {XP : (Str → Option Value) → Heap → Prop} {YP : World → Heap → Prop} {d : DefRec} {K : Params → PySem.W.Frag} {CX : World → CXT} {sp : World → Sp} {x : Str}
    (hn : l.most = some n) (hn2 : n ≤ sizeLine) (hdf : d.params.defaults = []) (hr : Room k callerA)
    (hY : ∀ (w : World) (h : Heap), YP w h → (K w.params).In h)
    (F : ∀ (w : World) (mg : Str → Option Value) (fa : Addr) (h : Heap), (K w.params).In h → h.Ns mainGlobals mg → mg d.name = some (.ref fa) →
      ∃ fd : FuncData, (∀ (s : Shared) (u : Value), BindsTo s fd ⟨[u], []⟩ [(x, u)]) ∧
        ∀ base : Heap, (K w.params).In base → base.Ns mainGlobals mg → FnOk l.prog w (K w.params) mg base (CX w) k fa fd [x] (sp w))
    (hsp : ∀ (w : World) (H : Hp) (a : Addr) (ns : List Int), ns.length ≤ n → Only H → SqL (K w.params) H a (ns.map V.int) → sp w [.ref a] H (fun v _ => v = .bl true) fun _ _ _ => False)
    (hCX : ∀ (w : World) (H : Hp) (s : Shared) (e : Value) (s' : Shared), CX w [] H s (fun _ _ _ => False) e s' → False) :
    PySem.W.WalkO q loose XP YP l.row.toRowW d [] (fun f vs => PySem.call f vs) := by
  refine Att.attach_call hn hdf fun w s₀ s₁ mg mb fa o pm cd doc a vs ns G Y ho hd hcd hmg hobj hints hlen hg => ?_
  have KX := hY w _ Y
  obtain ⟨fd, hb, hF⟩ := F w mg fa _ KX G.T.g hmg
  exact law_call KX G.T.g G.T.b G.T.builtins G.T.nolimit hg hobj hints (Nat.le_trans hlen hn2) hr hF hb (fun H hO hS => hsp w H a ns hlen hO hS) fun H e s' => hCX w H s₁ e s'
end L2
/-! SHORT WORDS over the layer: a def of the text, its body, what a loop and a test want. -/
namespace L2
open PySem PySem.Spec PyProof.Rows
/-! ### the text by places -/
/-- the j-th statement of a class's body -/
def inClass (s : Stmt) (j : Nat) : Stmt := match s with
  | .ClassDef _ _ _ body _ _ _ _ _ _ _ => body.getD j (.Pass ⟨0, 0, 0, 0⟩)
  | _ => .Pass ⟨0, 0, 0, 0⟩
def defArgs (s : Stmt) : Arguments := match s with
  | .FunctionDef _ a _ _ _ _ _ _ _ _ => a
  | _ => { posonlyargs := [], args := [], vararg := none, kwonlyargs := [], kw_defaults := [], kwarg := none, defaults := [] }
def defBody (s : Stmt) : List Stmt := match s with
  | .FunctionDef _ _ b _ _ _ _ _ _ _ => b
  | _ => []
def defScope (s : Stmt) : Scope := match s with
  | .FunctionDef _ _ _ _ _ _ sc _ _ _ => sc
  | _ => { kind := .function, names := [], isGenerator := false, isCoroutine := false }
/-! ### no exception leaves a def -/
abbrev CX0 : CXT := fun _ _ _ _ _ _ => False
abbrev E0 : XK := fun _ _ _ => False
theorem pass0 {X : Cx} : Passes CX0 X E0 := fun _ _ _ _ _ _ _ h => h.elim
/-! ### a def (or method) of the text as it stands behind the top -/
structure Fun (K : PySem.W.Frag) (x qual : Str) (st : Stmt) (f : Addr) (fd : FuncData) : Prop where
  ex : ∃ (oc : Value) (od : Option Addr) (kV doc pm : Value) (an : Option Addr) (cdv ct : Value) (osl : Array (Option Value)),
    fd = PySem.W.fnOf x qual (defArgs st) (defBody st) (defScope st) .none kV doc pm an cdv ct ∧ K.lookup f = some ⟨oc, od, .func fd, osl⟩ ∧ PySem.W.codeIn K cdv qual = true
  kp : PySem.W.keepIn K (.ref f) = true
section
variable {P : Program} {w : World} {K : PySem.W.Frag} {mg : Str → Option Value} {base : Heap}
/-- THE RULE for a def: its body as a term of rules, and the reading of that term -/
theorem Fun.ok {x qual : Str} {st : Stmt} {f : Addr} {fd : FuncData} {N ps : List Str} {k : Nat} {sp : Sp} (F : Fun K x qual st f fd) (S : FnScope N ps (defScope st)) (len : ∀ vs H Q E, sp vs H Q E → vs.length = ps.length)
    (hbody : ∀ (cdv : Value) (A : Around) (outer : List Env) (s : Shared) (H : Hp) (vs : List V) (Q : VK) (E : XK), Room k (A.deeper (envOfC qual (defScope st) s.heap.objs.size f cdv)) → sp vs H Q E →
      ∃ t, PSs (cxOf CX0 P w K mg base N qual (defScope st) f cdv A outer s H E).nox (defBody st) t ∧ t { nx := fun _ H' => Q .non H', rt := Q } (start N vs) H) : FnOk P w K mg base CX0 (k + 1) f fd ps sp := by
  obtain ⟨oc, od, kV, doc, pm, an, cdv, ct, osl, rfl, lk, hcd⟩ := F.ex
  refine fn_of lk hcd S len fun A outer s H vs Q E hr hsp => ?_
  obtain ⟨t, h, q⟩ := hbody cdv A outer s H vs Q E hr hsp
  exact ⟨t, h.nox, q⟩
/-- how its arguments bind (no defaults): h is «fun _ _ _ _ _ _ us hl => match us, hl with | [_, _], _ => rfl», one _ a parameter -/
theorem Fun.binds {x qual : Str} {st : Stmt} {f : Addr} {fd : FuncData} {ps : List Str} (F : Fun K x qual st f fd)
    (h : ∀ (kV doc pm : Value) (an : Option Addr) (cdv ct : Value) (us : List Value), us.length = ps.length → bindArgs (PySem.W.fnOf x qual (defArgs st) (defBody st) (defScope st) .none kV doc pm an cdv ct) ⟨us, []⟩ = pure (ps.zip us)) : Binds K fd ps [] := by
  obtain ⟨oc, od, kV, doc, pm, an, cdv, ct, osl, rfl, lk, hcd⟩ := F.ex
  exact .all (h kV doc pm an cdv ct)
theorem fun_mk {x qual : Str} {st : Stmt} {f : Addr} {oc : Value} {od an : Option Addr} {osl : Array (Option Value)} {kV doc pm cdv ct : Value} (l : K.lookup f = some ⟨oc, od, .func (PySem.W.fnOf x qual (defArgs st) (defBody st) (defScope st) .none kV doc pm an cdv ct), osl⟩)
    (c : PySem.W.codeIn K cdv qual = true) (k : PySem.W.keepIn K (.ref f) = true) : Fun K x qual st f (PySem.W.fnOf x qual (defArgs st) (defBody st) (defScope st) .none kV doc pm an cdv ct) := ⟨⟨oc, od, kV, doc, pm, an, cdv, ct, osl, rfl, l, c⟩, k⟩
end
/-! ### expressions in short: the name that stands in the i-th slot -/
section
variable {X : Cx}
theorem pv (i : Nat) {x : Str} {pos : Pos} (hN : X.N[i]? = some x := by rfl) (hv : Vis X.env.scope x := by first | exact Or.inl rfl | exact Or.inr (Or.inl rfl) | exact Or.inr (Or.inr rfl)) (hd : (x == ("__debug__" : Str)) = false := by decide)
    (hcd : (x == ("__classdict__" : Str)) = false := by decide) : PE X (.Name x pos) (tVar i) := pe_var hN hv hd hcd
end
/-! ### tests -/
theorem iteF {A B : Prop} (h : B) : if false = true then A else B := by
  rw [if_neg Bool.false_ne_true]
  exact h
theorem iteT {A B : Prop} (h : A) : if true = true then A else B := by
  rw [if_pos rfl]
  exact h
theorem ite2 {c A B : Prop} [Decidable c] (h1 : c → A) (h2 : ¬ c → B) : if c then A else B := by
  by_cases h : c
  · rw [if_pos h]
    exact h1 h
  · rw [if_neg h]
    exact h2 h
/-! ### heaps -/
/-- all that was tracked is as it was -/
def Same (H H' : Hp) : Prop := ∀ b o, H b = some o → H' b = some o
theorem Same.refl (H : Hp) : Same H H := fun _ _ h => h
theorem Same.trans {H H1 H2 : Hp} (a : Same H H1) (b : Same H1 H2) : Same H H2 := fun c o h => b c o (a c o h)
theorem Same.free {H H' : Hp} (e : Same H H') {l : Addr} (h : H' l = Option.none) : H l = Option.none := by
  cases q : H l with
  | none => rfl
  | some o =>
    rw [e l o q] at h
    cases h
theorem Same.seq {K : PySem.W.Frag} {H H' : Hp} {a : Addr} {xs : List V} (e : Same H H') (h : SqL K H a xs) : SqL K H' a xs := by
  rcases h with (h | ⟨o, h⟩) | h
  · exact .inl (.inl (e _ _ h))
  · exact .inl (.inr ⟨o, e _ _ h⟩)
  · exact .inr h
end L2
set_option Elab.async false
set_option linter.all false
set_option maxRecDepth 100000
set_option Elab.async false
set_option maxHeartbeats 4000000
/-! ### own rules beside the layer: comprehensions -/
namespace L2
open PySem PySem.Spec PyProof.Rows
theorem hok_track {P : Program} {w : World} {H : Hp} {h : Heap} {a : Addr} {o : HO} (x : HOk P w H h) (hn : H a = none) (new : ObjOk P w (upd H a o) h a o) : HOk P w (upd H a o) h := fun b u e => by
  by_cases hb : b = a
  · subst hb; rw [upd_same] at e; cases e; exact new
  · rw [upd_ne hb] at e
    exact (x b u e).stay (fun c v _ q => q) (fun c q => by rw [upd_ne (ne_of_none q hn)]; exact q) fun c xs q => by rw [upd_ne (ne_of_none q hn)]; exact q
theorem forIn_fold {α β : Type} {f : α → β → Sem (ForInStep β)} (g : α → β → β) : ∀ (l : List α) (c : β), (∀ x ∈ l, ∀ c, f x c = pure (.yield (g x c))) → forIn l c f = pure (l.foldl (fun c x => g x c) c)
  | [], _, _ => rfl
  | x :: l, c, h => by
    rw [List.forIn_cons, h x List.mem_cons_self, pure_bind]
    exact forIn_fold g l (g x c) fun y hy => h y (List.mem_cons_of_mem _ hy)
def closG (env : Env) (x : Str × NameKind) (cs : List (Str × Addr)) : List (Str × Addr) :=
  if x.2 = .free then (match env.cells.lookup x.1 with | some c => (x.1, c) :: cs | none => cs) else cs
def clos (env : Env) (l : List (Str × NameKind)) (c : List (Str × Addr)) : List (Str × Addr) := l.foldl (fun c x => closG env x c) c
theorem closureFor_eq {env : Env} {scope : Scope} (h : ∀ y ∈ scope.names, y.2 = .free → ∃ c, env.cells.lookup y.1 = some c) : closureFor scope env = pure (clos env scope.names []) := by
  simp only [closureFor]
  rw [forIn_fold (closG env) scope.names [] fun x hx c => ?_]
  · rfl
  · obtain ⟨n, k⟩ := x
    by_cases hk : k = .free
    · subst hk
      obtain ⟨a, ha⟩ := h _ hx rfl
      have ha' : env.cells.lookup n = some a := ha
      simp [cellOf, ha', closG]
    · have : (k == NameKind.free) = false := by simpa using hk
      simp [this, closG, hk]
theorem clos_sub {env : Env} : ∀ (l : List (Str × NameKind)) (c : List (Str × Addr)), (∀ y a, c.lookup y = some a → env.cells.lookup y = some a) → ∀ y a, (clos env l c).lookup y = some a → env.cells.lookup y = some a
  | [], _, h => h
  | x :: l, c, h => by
    refine clos_sub l (closG env x c) fun y a e => ?_
    unfold closG at e
    by_cases hk : x.2 = .free
    · rw [if_pos hk] at e
      cases q : env.cells.lookup x.1 with
      | none => rw [q] at e; exact h y a e
      | some b =>
        rw [q] at e
        by_cases hy : (y == x.1) = true
        · have : y = x.1 := by simpa using hy
          subst this
          have e' : ((x.1, b) :: c).lookup x.1 = some a := e
          simp [List.lookup_cons] at e'
          rw [q, e']
        · have hy' : (y == x.1) = false := by simpa using hy
          have e' : ((x.1, b) :: c).lookup y = some a := e
          rw [List.lookup_cons, hy'] at e'
          exact h y a e'
    · rw [if_neg hk] at e; exact h y a e
theorem clos_has {env : Env} : ∀ (l : List (Str × NameKind)) (c : List (Str × Addr)) (y : Str), ((∃ a, c.lookup y = some a) ∨ ∃ k ∈ l, k.1 = y ∧ k.2 = .free ∧ ∃ a, env.cells.lookup y = some a) → ∃ a, (clos env l c).lookup y = some a
  | [], _, _, h => by
    rcases h with h | ⟨k, hk, _⟩
    · exact h
    · cases hk
  | x :: l, c, y, h => by
    refine clos_has l (closG env x c) y ?_
    have up : (∃ a, c.lookup y = some a) → ∃ a, (closG env x c).lookup y = some a := fun ⟨a, e⟩ => by
      unfold closG
      split
      · split
        · rename_i b q
          by_cases hy : (y == x.1) = true
          · exact ⟨b, by rw [List.lookup_cons, hy]⟩
          · have hy' : (y == x.1) = false := by simpa using hy
            exact ⟨a, by rw [List.lookup_cons, hy']; exact e⟩
        · exact ⟨a, e⟩
      · exact ⟨a, e⟩
    rcases h with h | ⟨k, hk, h1, h2, a, h3⟩
    · exact .inl (up h)
    · rcases List.mem_cons.mp hk with e | hk
      · subst e
        left
        unfold closG
        rw [if_pos h2, h1, h3]
        exact ⟨a, by simp [List.lookup_cons]⟩
      · exact .inr ⟨k, hk, h1, h2, a, h3⟩
theorem relabel_lookup (scope : Scope) (env : Env) (y : Str) : (relabel scope env).names.lookup y = (scope.names.lookup y).map fun k => if (k == NameKind.free && env.scope.kind == .function && env.kindOf y == some .cell) = true then .cell else k := by
  show (scope.names.map _).lookup y = _
  induction scope.names with
  | nil => rfl
  | cons p l ih =>
    obtain ⟨n, k⟩ := p
    rw [List.map_cons]
    show List.lookup y ((if (k == NameKind.free && env.scope.kind == .function && env.kindOf n == some .cell) = true then (n, NameKind.cell) else (n, k)) :: _) = _
    by_cases hy : (y == n) = true
    · have : y = n := by simpa using hy
      subst this
      by_cases hc : (k == NameKind.free && env.scope.kind == .function && env.kindOf y == some .cell) = true
      · rw [if_pos hc]
        simp only [List.lookup_cons, beq_self_eq_true, Option.map_some]
        rw [if_pos hc]
      · rw [if_neg hc]
        simp only [List.lookup_cons, beq_self_eq_true, Option.map_some]
        rw [if_neg hc]
    · have hy' : (y == n) = false := by simpa using hy
      by_cases hc : (k == NameKind.free && env.scope.kind == .function && env.kindOf n == some .cell) = true
      · rw [if_pos hc]
        simp only [List.lookup_cons, hy']
        exact ih
      · rw [if_neg hc]
        simp only [List.lookup_cons, hy']
        exact ih
theorem pure_elim {α β : Type} {M : Model} {A : Around} {a : α} {Q : α → Shared → Prop} {E : Value → Shared → Prop} {m : Sem β} {Q' : β → Shared → Prop} {E' : Value → Shared → Prop} {s : Shared} (h : wpAny M A (pure a) Q E s) (k : Q a s → wpAny M A m Q' E' s) :
    wpAny M A m Q' E' s := fun Γ p hΓ => k (h Γ p hΓ) Γ p hΓ
/-- the names of the slots js, the values -/
def namesAt (N : List Str) (js : List Nat) : List Str := js.map fun j => (N[j]?).getD Str.empty
def valsAt (σ : St) (js : List Nat) : St := js.map fun j => (σ[j]?).join
/-- a comprehension's block -/
def cxComp (X : Cx) (scope : Scope) (x : Str) (js : List Nat) (cl : List (Str × Addr)) (C : Addr) (s : Shared) (H : Hp) (ex : List Addr) : Cx where
  prog := X.prog
  w := X.w
  K := X.K
  mg := X.mg
  base := X.base
  A := X.A
  N := x :: namesAt X.N js
  s₀ := s
  H₀ := H
  env := compEnvC scope cl C X.env
  outer := X.stack
  stack := X.stack
  ex := ex
  fn := fun _ => false
  calm := X.calm
  pn := []
  xe := fun _ _ => False
/-- the tests of a comprehension's clause -/
def PF (X : Cx) (ifs : List Expr) (t : TT) : Prop :=
  ∀ (pins : List (Addr × Obj)) (s : Shared) (σ : St) (H : Hp) (Q : Bool → Hp → Prop), Inv X pins σ H s → t σ H Q →
    wpAny (model X.prog X.w) X.A (forIn ifs true fun c r => if r = true then do let ok ← isTrue c X.env (eval c X.env); pure (ForInStep.yield ok) else pure (ForInStep.yield r)) (TP X pins σ Q) X.xe s
def tYes : TT := fun _ H Q => Q true H
theorem pf_nil {X : Cx} : PF X [] tYes := fun _ _ _ H _ I h => wpAny_pure ⟨H, I, h⟩
theorem pf_one {X : Cx} {c : Expr} {t : TT} (hc : PT X c t) : PF X [c] t := by
  intro pins s σ H Q I h
  rw [List.forIn_cons, if_pos rfl]
  refine wpAny_bind (wpAny_bind (thn (hc pins s σ H Q I h) fun b s1 q => wpAny_pure ?_))
  show wpAny (model X.prog X.w) X.A (pure b) (TP X pins σ Q) X.xe s1
  exact wpAny_pure q
/-- what a comprehension reads: W the invariant by the turn, a measure and the items so far -/
def CompEnd (js : List Nat) (tt : TT) (te : TE) (σ : St) (Qd : List V → Hp → Prop) (J : It) (H1 : Hp) : Prop := ∃ W : Nat → Nat → List V → Hp → Prop, (∃ m, W 0 m [] H1) ∧ ∀ i m ys H2, W i m ys H2 →
  (J.stop i H2 ∧ ys.length ≤ sizeLine ∧ Qd ys H2) ∨
  (J.go i H2 ∧ ys.length < sizeLine ∧ ∃ N : List V → Hp → Prop, (∀ ys' H', N ys' H' → ∃ m', m' < m ∧ W (i + 1) m' ys' H') ∧ ∀ x H3, J.yld i H2 x H3 → tt (some x :: valsAt σ js) H3 fun b H4 =>
    if b = true then te (some x :: valsAt σ js) H4 fun y H5 => N (ys ++ [y]) H5 else N ys H4)
def tComp (js : List Nat) (wi : TI) (tt : TT) (te : TE) : TE := fun σ H Q => wi σ H (CompEnd js tt te σ fun ys H2 => ∀ D, H2 D = none → Q (.ref D) (upd H2 D (.lst ys)))
section
variable {X : Cx} {x : Str} {px pos : Pos} {iter elt : Expr} {ifs : List Expr} {scope : Scope} {wi : TI} {tt : TT} {te : TE}
/-- the block up to its end: RR is what is wanted of the end -/
theorem comp_block (js : List Nat) {pins : List (Addr × Obj)} {σ : St} {s : Shared} {itv : Value} {Q : List V → Hp → Prop} {RR : Value → Addr → Result → Shared → Prop} {E : Value → Shared → Prop}
    (hc : X.calm = true) (hk : scope.kind = .function) (hx : scope.names.lookup x = some .local) (hcell : ∀ y ∈ scope.names, y.2 ≠ .cell)
    (hfree : ∀ y ∈ scope.names, y.2 = .free → X.env.kindOf y.1 = some .cell ∨ X.env.kindOf y.1 = some .free)
    (hN : (x :: namesAt X.N js).Nodup) (hjs : ∀ y ∈ namesAt X.N js, scope.names.lookup y = some .free)
    (hif : ∀ cl C s H ex, PF (cxComp X scope x js cl C s H ex) ifs tt) (he : ∀ cl C s H ex, PE (cxComp X scope x js cl C s H ex) elt te)
    (hit : PIE X pins σ (.Name x px) (CompEnd js tt te σ Q) itv s)
    (hR : ∀ D C s' H2 ys m, Inv X pins σ (upd H2 D (.lst ys)) s' → H2 D = none → s'.heap.Ns C m → (∀ h', Heap.SameBut C s'.heap h' → Inv X pins σ (upd H2 D (.lst ys)) { s' with heap := h' }) → FpOk X pins (upd H2 D (.lst ys)) C → C ≠ D → Q ys H2 → RR (.ref D) C (.ok .next) s') :
    wpAny (model X.prog X.w) X.A (newList []) (fun acc s₃ => wpAny (model X.prog X.w) X.A (newFunctionEnv scope X.env.globals (clos X.env scope.names []) [] X.env.qual none .none (some X.env)) (fun cenv s₄ =>
      codeAny (model X.prog X.w) X.A (.compStart (.ListComp elt [⟨.Name x px, iter, ifs, 0⟩] scope pos) 0 itv acc { cenv with scope := relabel scope X.env }) (RR acc cenv.locals) s₄) E s₃) E s := by
  obtain ⟨it, fp, tn, J, H1, rfl, I1, T, st1, f1, W, ⟨m0, w0⟩, turn⟩ := hit
  refine wpAny_newObj_type (wpAny_newFunctionEnv hcell (by intro y hy; simp at hy) (fun h₁ hns₁ hsb₁ => ?_) hk)
  dsimp only at hns₁ hsb₁ ⊢
  generalize hH2 : s.heap.push { cls := .type "list", dict := none, data := .seq ([] : List Value).toArray } = Hl at hns₁ hsb₁ ⊢
  generalize hDe : s.heap.objs.size = D
  have hCe : Hl.objs.size = D + 1 := by rw [← hH2, Heap.size_push, hDe]
  generalize hC : Hl.objs.size = C at hns₁ hsb₁ hCe ⊢
  subst hCe
  have hDC : D ≠ D + 1 := Nat.ne_of_lt (Nat.lt_succ_self _)
  have lt : ∀ b o, s.heap.get? b = some o → b < D := fun b o e => hDe ▸ Heap.lt_size e
  have old : ∀ b o, s.heap.get? b = some o → h₁.get? b = some o := fun b o e => by
    have hb := lt b o e
    refine hsb₁.extBut b o (Nat.ne_of_lt (Nat.lt_succ_of_lt hb)) (Heap.get?_push_of_some _ ?_)
    rw [← hH2]; exact Heap.get?_push_of_some _ e
  have accD : h₁.get? D = some { cls := .type "list", dict := none, data := .seq ([] : List Value).toArray } := by
    refine hsb₁.extBut _ _ hDC (Heap.get?_push_of_some _ ?_)
    rw [← hH2, ← hDe]; exact Heap.get?_push_size _ rfl
  have fresh : ∀ a, D ≤ a → H1 a = none := fun a ha => I1.hok.fresh (by rw [hDe]; exact ha)
  have fpD : ∀ b ∈ fp, b < D := fun b hb => by
    obtain ⟨o, e, _⟩ := T.obj 0 s.heap st1 b hb
    exact lt b o e
  have cellD : ∀ y c, X.env.cells.lookup y = some c → c < D := fun y c e => by
    obtain ⟨v, q⟩ := I1.cell y c e
    exact hDe ▸ q.lt
  generalize hcl : clos X.env scope.names [] = cl
  have clsub : ∀ y c, cl.lookup y = some c → X.env.cells.lookup y = some c := by
    rw [← hcl]; exact clos_sub scope.names [] fun y a e => by simp at e
  have frD : ∀ b ∈ frs X.stack, b < D := fun b hb => by
    obtain ⟨_, o, ho, _⟩ := I1.stack.mem hb
    exact lt b o ho
  -- the block's context
  let Y : Cx := cxComp X scope x js cl (D + 1) s H1 fp
  have kinds : ∀ y, Y.env.kindOf y = some .cell ∨ Y.env.kindOf y = some .free → ∃ k ∈ scope.names, k.1 = y ∧ k.2 = .free := fun y hy => by
    have hy' : (relabel scope X.env).names.lookup y = some .cell ∨ (relabel scope X.env).names.lookup y = some .free := hy
    rw [relabel_lookup] at hy'
    cases q : scope.names.lookup y with
    | none => rw [q] at hy'; simp at hy'
    | some k =>
      have hm := PySem.mem_of_lookup q
      refine ⟨(y, k), hm, rfl, ?_⟩
      have h1 : k ≠ .cell := hcell _ hm
      rw [q] at hy'
      simp only [Option.map_some, Option.some.injEq] at hy'
      by_cases hkf : k = .free
      · exact hkf
      · have : (k == NameKind.free) = false := by simpa using hkf
        simp only [this, Bool.false_and, Bool.false_eq_true, if_false] at hy'
        rcases hy' with e | e
        · exact absurd e h1
        · exact absurd e hkf
  have okY : Y.Ok := by
    refine ⟨I1.ok.mod, hk, I1.ok.glob, I1.ok.blt, (by show s.heap.objs.size ≤ D + 1; rw [hDe]; exact Nat.le_succ _), fun y z c h1 h2 => I1.ok.inj y z c (clsub y c h1) (clsub z c h2), fun y hy => ?_, fun y c h _ => absurd h (by show ¬ (false = true); decide), I1.ok.hd, I1.ok.frames, .inl rfl, fun b hb => ⟨Nat.ne_of_lt (Nat.lt_succ_of_lt (fpD b hb)), fun y c e z => (f1 b hb).2.2.2.2.1 y c (clsub y c e) z⟩,
      fun b o e => I1.bs b o e, Nat.le_trans I1.ok.bsz I1.sz, fun b o e hb => ?_, fun b hb hf => ?_, I1.stack, I1.stkFree⟩
    · obtain ⟨k, hm, e1, e2⟩ := kinds y hy
      show ∃ c, cl.lookup y = some c
      rw [← hcl]
      refine clos_has scope.names [] y (.inr ⟨k, hm, e1, e2, ?_⟩)
      have := hfree k hm e2
      rw [e1] at this
      exact I1.ok.has y this
    · obtain ⟨_, _, _, h4, _, _⟩ := f1 b hb
      rcases h4 with z | z
      · exact I1.ok.noex b o e z
      · exact absurd (Nat.lt_of_lt_of_le (Heap.lt_size e) (Nat.le_trans I1.ok.bsz z)) (Nat.lt_irrefl _)
    · rcases List.mem_cons.mp (I1.stkSub b hf) with z | z
      · exact (f1 b hb).2.1 z
      · exact (f1 b hb).2.2.1 z
  have hxl : Y.env.scope.names.lookup x = some .local := lookup_relabel_local hx
  let σ0 : St := none :: valsAt σ js
  have IY : Inv Y [] σ0 H1 { s with heap := h₁, toks := s.toks + ([] : List (Str × Value)).length } := by
    refine ⟨okY, rfl, I1.bare, Un.kept old, ⟨_, hns₁, fun i y v e1 e2 e3 => ?_⟩, fun y c e => ?_, fresh _ (Nat.le_succ _), fun y c e => I1.freeC y c (clsub y c e), fun p hp => absurd (show p ∈ ([] : List (Addr × Obj)) from hp) (by simp), I1.hok.kept old, ?_⟩
    · cases i with
      | zero => cases e2
      | succ i =>
        have e1' : (namesAt X.N js)[i]? = some y := e1
        have e2' : (valsAt σ js)[i]? = some (some v) := e2
        unfold namesAt at e1'
        unfold valsAt at e2'
        rw [List.getElem?_map] at e1' e2'
        cases q : js[i]? with
        | none => rw [q] at e1'; cases e1'
        | some j =>
          rw [q] at e1' e2'
          simp only [Option.map_some, Option.some.injEq] at e1' e2'
          have hv : σ[j]? = some (some v) := by
            cases z : σ[j]? with
            | none => rw [z] at e2'; cases e2'
            | some w => rw [z] at e2'; simpa using e2'
          have hj : j < X.N.length := by
            rw [← I1.len]; exact (List.getElem?_eq_some_iff.mp hv).1
          have hy : X.N[j]? = some y := by
            rw [List.getElem?_eq_getElem hj] at e1' ⊢
            rw [← e1']; rfl
          obtain ⟨m, hn, hl⟩ := I1.loc
          have hmem : y ∈ namesAt X.N js := List.mem_map.mpr ⟨j, List.mem_of_getElem? q, by rw [hy]; rfl⟩
          have hfr := hjs y hmem
          have hkx := hfree _ (PySem.mem_of_lookup hfr) rfl
          have hvis : Vis X.env.scope y := hkx.elim (fun z => .inr (.inl z)) fun z => .inr (.inr z)
          obtain ⟨u, r, l⟩ := hl j y v hy hv hvis
          refine ⟨u, r, ?_⟩
          rcases l with ⟨kl, _⟩ | ⟨_, c, hc1, z⟩
          · exfalso
            have kl' : X.env.kindOf y = some .local := kl
            rcases hkx with w | w <;> · rw [show X.env.kindOf y = _ from w] at kl'; cases kl'
          · obtain ⟨c', hc'⟩ := clos_has (env := X.env) scope.names [] y (.inr ⟨_, PySem.mem_of_lookup hfr, rfl, rfl, c, hc1⟩)
            rw [hcl] at hc'
            have e4 := clsub y c' hc'
            rw [hc1] at e4
            cases e4
            obtain ⟨o, ho, hd⟩ := z
            refine .inr ⟨?_, c, hc', o, old c o ho, hd⟩
            rcases e3 with e3 | e3 | e3
            · exfalso
              have e3' : (relabel scope X.env).names.lookup y = some .local := e3
              rw [relabel_lookup, hfr] at e3'
              simp only [Option.map_some, Option.some.injEq] at e3'
              split at e3' <;> cases e3'
            · exact .inl e3
            · exact .inr e3
    · obtain ⟨v, q⟩ := I1.cell y c (clsub y c e)
      obtain ⟨o, ho, hd⟩ := q
      exact ⟨v, o, old c o ho, hd⟩
    · show (valsAt σ js).length + 1 = (namesAt X.N js).length + 1
      unfold valsAt namesAt
      rw [List.length_map, List.length_map]
  have mkR : ∀ (s' : Shared) (H2 : Hp) (ys : List V) (its : List Value) (σ' : St), Inv Y [] σ' H2 s' → s'.heap.PlainList D its.toArray → Vals ys its → ys.length ≤ sizeLine → H2 D = none → Q ys H2 → RR (.ref D) (D + 1) (.ok .next) s' := by
    intro s' H2 ys its σ' I' pl rv hz hD hq
    obtain ⟨m, hn, _⟩ := I'.loc
    have hn' : s'.heap.Ns (D + 1) m := hn
    have hCn : H2 (D + 1) = none := I'.free
    have hch : ∀ b ∈ fp, (b ∈ X.ex ∨ X.s₀.heap.objs.size ≤ b) ∧ b ≠ X.env.locals ∧ (∀ x c, X.env.cells.lookup x = some c → c ≠ b) ∧ ∀ p ∈ X.pn ++ pins, p.1 ≠ b := fun b hb => by
      obtain ⟨_, h2, _, h4, h5, h6⟩ := f1 b hb
      exact ⟨h4, h2, h5, h6⟩
    have bs : Un (frs X.stack) fp H1 H2 s.heap s'.heap := I'.base
    have all : ∀ h', Heap.SameBut (D + 1) s'.heap h' → Inv X pins σ (upd H2 D (.lst ys)) { s' with heap := h' } := fun h' sb => by
      have neD : ∀ b o, s.heap.get? b = some o → b ≠ D := fun b o e => Nat.ne_of_lt (lt b o e)
      have neC : ∀ b o, s.heap.get? b = some o → b ≠ D + 1 := fun b o e => Nat.ne_of_lt (Nat.lt_succ_of_lt (lt b o e))
      refine I1.call' (s' := { s' with heap := h' }) (ch := fp) I'.os ⟨fun b o e n hb hx => ?_, fun b o e n hb hx => ?_, fun b o e n hx => ?_, fun b o e hx => ?_, fun b xs e => ?_, fun b o u e => ?_, fun b ps e => ?_⟩ ?_ I'.bare hch
      · exact (sb.2 b (neC b o e)).trans (bs.keep b o e n hb hx)
      · obtain ⟨sl, q⟩ := bs.slot b o e n hb hx
        exact ⟨sl, (sb.2 b (neC b o e)).trans q⟩
      · rw [upd_ne (neD b o e)]; exact bs.free b o e n hx
      · obtain ⟨o', q⟩ := bs.there b o e hx
        exact ⟨o', (sb.2 b (neC b o e)).trans q⟩
      · have := bs.tups b xs e
        rw [upd_ne (ne_of_none this hD)]; exact this
      · have := bs.frzs b o u e
        rw [upd_ne (ne_of_none this hD)]; exact this
      · obtain ⟨more, q⟩ := bs.tbls b ps e
        exact ⟨more, by rw [upd_ne (ne_of_none q hD)]; exact q⟩
      · have h0 : HOk X.prog X.w H2 h' := fun b u e => (I'.hok b u e).stay (fun c v hc q => (sb.2 c (by
          rintro rfl
          rcases hc with z | z
          · rw [z, e] at hCn; cases hCn
          · rw [z] at hCn; cases hCn)).trans q) (fun _ q => q) fun _ _ q => q
        refine hok_track h0 hD ?_
        obtain ⟨n, e⟩ := pl
        exact ⟨hz, its, n, rv, (sb.2 D hDC).trans e⟩
    have hall := all s'.heap (.refl ..)
    refine hR D (D + 1) s' H2 ys m hall hD hn' all ?_ hDC.symm hq
    refine ⟨by rw [upd_ne hDC.symm]; exact hCn, ?_, ?_, .inr (Nat.le_trans I1.sz (by rw [hDe]; exact Nat.le_succ _)), fun y c e z => ?_, fun p hp z => ?_⟩
    · exact Nat.ne_of_gt (Nat.lt_trans (hDe ▸ I1.lt) (Nat.lt_succ_self _))
    · exact I1.nofs (by rw [hDe]; exact Nat.le_succ _)
    · exact absurd z (Nat.ne_of_lt (Nat.lt_succ_of_lt (cellD y c e)))
    · exact absurd z (Nat.ne_of_lt (Nat.lt_succ_of_lt (lt _ _ (I1.pin p hp).1)))
  have loop : ∀ s₃ : Shared, s₃ = { s with heap := h₁, toks := s.toks + ([] : List (Str × Value)).length } →
      codeAny (model X.prog X.w) X.A (.compLoop (.ListComp elt [⟨.Name x px, iter, ifs, 0⟩] scope pos) 0 (.ref it) (.ref D) Y.env) (RR (.ref D) (D + 1)) s₃ := by
    rintro s₃ rfl
    have stat : ∀ {H' : Hp} {ob : Obj}, (∀ b ∈ fp, H' b = none) → ∀ b ∈ fp, FpOk Y [(D, ob)] H' b := fun {H'} {ob} hn b hb => by
      refine ⟨hn b hb, Nat.ne_of_lt (Nat.lt_succ_of_lt (fpD b hb)), fun hf => okY.exfs b hb hf, .inl hb, fun y c e => (okY.exf b hb).2 y c e, fun p hp z => ?_⟩
      have hp' : p ∈ [(D, ob)] := hp
      have e : p = (D, ob) := by simpa using hp'
      rw [e] at z
      exact absurd z (Ne.symm (Nat.ne_of_lt (fpD b hb)))
    refine codeAny_compLoop_tests (fun n s' => ∃ i ys its H', ∃ ob : Obj, Inv Y [(D, ob)] σ0 H' s' ∧ (∃ n, ob = { cls := .type "list", data := .seq its.toArray n }) ∧ Vals ys its ∧ H' D = none ∧ tn i s'.heap ∧ (∀ b ∈ fp, H' b = none) ∧ W i n ys H') ?_ m0
      ⟨0, [], [], H1, { cls := .type "list", dict := none, data := .seq ([] : List Value).toArray }, ?_, ⟨_, rfl⟩, .nil, fresh _ (Nat.le_refl _), T.keep _ _ _ st1 fun b _ o e => old b o e, fun b hb => (f1 b hb).1, w0⟩
    · rintro n s3 ⟨i, ys, its, H3, ob, I3, ⟨cap, rfl⟩, rv, hD, st3, fr3, w3⟩
      rcases turn i n ys H3 w3 with ⟨stop, hz, hq⟩ | ⟨go, hz, N, hN7, step⟩
      · refine wpAny_mono (T.done Y rfl rfl rfl hc i _ s3 σ0 H3 (fun _ _ => False) I3 (stat fr3) st3 stop) (fun r s4 ⟨hr, I4⟩ => ?_) fun _ _ f => f.elim
        subst hr
        exact mkR s4 H3 ys its σ0 (I4.pins_of fun p hp => absurd hp (by simp)) ⟨cap, (I4.pin _ (List.mem_append_right _ List.mem_cons_self)).1⟩ rv hz hD hq
      · refine wpAny_mono (T.item Y rfl rfl rfl hc i _ s3 σ0 H3 (fun _ _ => False) I3 (stat fr3) st3 go) (fun r s4 ⟨u, hr, h4⟩ => ?_) fun _ _ f => f.elim
        subst hr
        have h4' : wpAny (model X.prog X.w) X.A (pure () : Sem Unit) (fun _ s2 => ∃ x H', Inv Y [(D, { cls := .type "list", data := .seq its.toArray cap })] σ0 H' s2 ∧ RelV x u ∧ J.yld i H3 x H' ∧ tn (i + 1) s2.heap ∧ ∀ b ∈ fp, H' b = none) (fun _ _ => False) s4 := h4
        refine pure_elim h4' fun ⟨xv, H5, I5, r5, y5, st5, fr5⟩ => ?_
        have I5' := I5.pinned (stat fr5) (T.obj _ _ st5)
        refine wpAny_mono (wpAny_assign_Name (store_ok (X := Y) (E := fun _ _ => False) (i := 0) (Q := fun _ s6 => Inv Y ([(D, { cls := .type "list", data := .seq its.toArray cap })] ++ pinsAt fp s4.heap) (some xv :: valsAt σ js) H5 s6) I5' hN rfl (.inl hxl) r5 (fun s6 I6 => I6) (.inr hxl))) (fun _ s6 I6 => ?_) fun _ _ f => f.elim
        have hD5 : H5 D = none := (I6.pin _ (List.mem_append_right _ (List.mem_append_left _ List.mem_cons_self))).2.1
        have again : ∀ {s7 : Shared} {H7 : Hp} {ys7 : List V} {its7 : List Value} {cap7 : Nat} {pl : List (Addr × Obj)}, Inv Y ([(D, { cls := .type "list", data := .seq its7.toArray cap7 })] ++ pl) (some xv :: valsAt σ js) H7 s7 → (∀ b ∈ fp, ∀ o, s4.heap.get? b = some o → s7.heap.get? b = some o ∧ H7 b = none) → Vals ys7 its7 → (∃ m', m' < n ∧ W (i + 1) m' ys7 H7) →
            ∃ m, m < n ∧ ∃ i ys its H', ∃ ob : Obj, Inv Y [(D, ob)] σ0 H' s7 ∧ (∃ n, ob = { cls := .type "list", data := .seq its.toArray n }) ∧ Vals ys its ∧ H' D = none ∧ tn i s7.heap ∧ (∀ b ∈ fp, H' b = none) ∧ W i m ys H' := by
          intro s7 H7 ys7 its7 cap7 pl I7 kf rv7 ⟨m', hm, w7⟩
          refine ⟨m', hm, i + 1, ys7, its7, H7, _, I7.unpinned.weak rfl fun j v e => ?_, ⟨cap7, rfl⟩, rv7, (I7.pin _ (List.mem_append_right _ (List.mem_append_left _ List.mem_cons_self))).2.1, T.keep _ _ _ st5 fun b hb o e => (kf b hb o e).1, fun b hb => ?_, w7⟩
          · cases j with
            | zero => cases e
            | succ j => exact e
          · obtain ⟨o, e, _⟩ := T.obj _ _ st5 b hb
            exact (kf b hb o e).2
        refine wpAny_mono (hif cl (D + 1) s H1 fp _ s6 _ H5 _ I6 (step xv H5 y5)) (fun ok s7 ⟨H7, I7, q7⟩ => ?_) fun _ _ f => False.elim f
        have kf7 : ∀ b ∈ fp, ∀ o, s4.heap.get? b = some o → s7.heap.get? b = some o ∧ H7 b = none := fun b hb o e =>
          have z := I7.pin (b, o) (List.mem_append_right _ (List.mem_append_right _ (mem_pinsAt hb e)))
          ⟨z.1, z.2.1⟩
        cases ok with
        | false =>
          rw [if_neg Bool.false_ne_true] at q7 ⊢
          exact again I7 kf7 rv (hN7 _ _ q7)
        | true =>
          rw [if_pos rfl] at q7 ⊢
          refine wpAny_mono (he cl (D + 1) s H1 fp _ s7 _ H7 _ I7 q7) (fun yv s8 ⟨y, H8, I8, r8, q8⟩ => ?_) fun _ _ f => False.elim f
          have pD := I8.pin _ (List.mem_append_right _ (List.mem_append_left _ List.mem_cons_self))
          have hlen := rv.length
          refine wpAny_list_append_plain (items := its.toArray) ⟨cap, pD.1⟩ (fun h9 pl9 sb9 => ?_) (by rw [List.size_toArray]; omega)
          obtain ⟨cap9, e9⟩ := pl9
          have I9 : Inv Y [] (some xv :: valsAt σ js) H8 { s8 with heap := h9 } := (I8.pins_of (pins' := []) fun p hp => absurd hp (by simp)).turned (t' := s8.toks) (it := D) (fun b o hb e => (sb9.2 b hb).trans e) pD.2.1 hDC
            (.inr (Nat.le_of_eq hDe)) (fun y c e z => absurd z (Nat.ne_of_lt (cellD y c (clsub y c e)))) fun p hp => absurd (show p ∈ ([] : List (Addr × Obj)) from hp) (by simp)
          have kf9 : ∀ b ∈ fp, ∀ o, s4.heap.get? b = some o → h9.get? b = some o ∧ H8 b = none := fun b hb o e => by
            have z := I8.pin (b, o) (List.mem_append_right _ (List.mem_append_right _ (mem_pinsAt hb e)))
            exact ⟨(sb9.2 b (Nat.ne_of_lt (fpD b hb))).trans z.1, z.2.1⟩
          refine again (s7 := { s8 with heap := h9 }) (its7 := its ++ [yv]) (cap7 := cap9) (pl := []) (I9.pins_of fun p hp => ?_) kf9 (rv.append (.cons r8 .nil)) (hN7 _ _ q8)
          have hp' : p = (D, { cls := .type "list", data := .seq (its ++ [yv]).toArray cap9 }) := by simpa using hp
          subst hp'
          refine ⟨?_, pD.2.1, pD.2.2.1, pD.2.2.2.1, fun v z => by cases z⟩
          rw [e9]
          simp
    · refine IY.pins_of fun p hp => ?_
      have hp' : p = (D, { cls := .type "list", dict := none, data := .seq ([] : List Value).toArray }) := by simpa using hp
      subst hp'
      exact ⟨accD, fresh _ (Nat.le_refl _), hDC, fun hf => Nat.lt_irrefl _ (frD _ hf), fun v z => by cases z⟩
  exact codeAny_compStart_list (loop _ rfl) (wpAny_mono (T.self X.A 0 _ (fun v s' => v = .ref it ∧ s' = { s with heap := h₁, toks := s.toks + ([] : List (Str × Value)).length }) (fun _ _ => False) (T.keep _ _ _ st1 fun b _ o e => old b o e) ⟨rfl, rfl⟩) (fun v s' ⟨e1, e2⟩ => by subst e1 e2; exact loop _ rfl) fun _ _ f => f.elim)
theorem pe_comp (js : List Nat) (N0 : List Str) (sc0 : Scope) (hc : X.calm = true) (hi : PI X (.Name x px) iter wi)
    (hif : ∀ cl C s H ex, PF (cxComp X scope x js cl C s H ex) ifs tt) (he : ∀ cl C s H ex, PE (cxComp X scope x js cl C s H ex) elt te)
    (hk : scope.kind = .function := by rfl) (hx : scope.names.lookup x = some .local := by rfl) (hcell : ∀ y ∈ scope.names, y.2 ≠ .cell := by decide +kernel)
    (hnames : ∀ y ∈ scope.names, y.2 = .local → scope.names.lookup y.1 = some .local := by decide +kernel)
    (hsc : X.env.scope = sc0 := by rfl) (hfree0 : ∀ y ∈ scope.names, y.2 = .free → sc0.names.lookup y.1 = some .cell ∨ sc0.names.lookup y.1 = some .free := by decide +kernel)
    (hNN : X.N = N0 := by rfl) (hN0 : (x :: namesAt N0 js).Nodup := by decide +kernel) (hj0 : ∀ y ∈ namesAt N0 js, scope.names.lookup y = some .free := by decide +kernel)
    (hs : ∀ x, foldedSetIterable iter X.env x = pure x := by intro _; rfl) :
    PE X (.ListComp elt [⟨.Name x px, iter, ifs, 0⟩] scope pos) (tComp js wi tt te) := by
  intro pins s σ H Q I h
  have hN : (x :: namesAt X.N js).Nodup := by rw [hNN]; exact hN0
  have hfree : ∀ y ∈ scope.names, y.2 = .free → X.env.kindOf y.1 = some .cell ∨ X.env.kindOf y.1 = some .free := fun y hy e => by
    show X.env.scope.names.lookup y.1 = some .cell ∨ X.env.scope.names.lookup y.1 = some .free
    rw [hsc]; exact hfree0 y hy e
  have hjs : ∀ y ∈ namesAt X.N js, scope.names.lookup y = some .free := by rw [hNN]; exact hj0
  rw [eval_ListComp]
  have hcl : closureFor scope X.env = pure (clos X.env scope.names []) := closureFor_eq fun y hy e => I.ok.has y.1 (hfree y hy e)
  refine wpAny_comprehension_free (use := none) rfl hs hcl hk hnames (thn (hi pins s σ H _ I h) fun xv s1 h1 => thn h1 fun it s2 h2 => ?_)
  refine comp_block js (RR := fun acc C => compPost (model X.prog X.w) X.A X.xe none (EP X pins σ Q) acc C) (Q := fun ys H2 => ∀ D, H2 D = none → Q (.ref D) (upd H2 D (.lst ys))) hc hk hx hcell hfree hN hjs hif he h2 ?_
  intro D C s' H2 ys m I' hD hn all fpC hCD hq
  exact ⟨m, hn, fun h' sb => ⟨.ref D, _, all h' sb, rfl, hq D hD⟩⟩
/-- y = [..], where y is a plain local name -/
theorem ps_comp {i : Nat} {y : Str} {py spos : Pos} (js : List Nat) (N0 : List Str) (sc0 : Scope) (hc : X.calm = true) (hNX : X.N.Nodup) (hiy : X.N[i]? = some y) (hi : PI X (.Name x px) iter wi)
    (hif : ∀ cl C s H ex, PF (cxComp X scope x js cl C s H ex) ifs tt) (he : ∀ cl C s H ex, PE (cxComp X scope x js cl C s H ex) elt te)
    (hsw : swapsWith (.ListComp elt [⟨.Name x px, iter, ifs, 0⟩] scope pos) (some (.Name y py)) spos.line X.env = pure true := by rfl) (hy : X.env.scope.names.lookup y = some .local := by rfl)
    (hk : scope.kind = .function := by rfl) (hx : scope.names.lookup x = some .local := by rfl) (hcell : ∀ y ∈ scope.names, y.2 ≠ .cell := by decide +kernel)
    (hnames : ∀ y ∈ scope.names, y.2 = .local → scope.names.lookup y.1 = some .local := by decide +kernel)
    (hsc : X.env.scope = sc0 := by rfl) (hfree0 : ∀ y ∈ scope.names, y.2 = .free → sc0.names.lookup y.1 = some .cell ∨ sc0.names.lookup y.1 = some .free := by decide +kernel)
    (hNN : X.N = N0 := by rfl) (hN0 : (x :: namesAt N0 js).Nodup := by decide +kernel) (hj0 : ∀ y ∈ namesAt N0 js, scope.names.lookup y = some .free := by decide +kernel)
    (hs : ∀ x, foldedSetIterable iter X.env x = pure x := by intro _; rfl) :
    PS X (.Assign [.Name y py] (.ListComp elt [⟨.Name x px, iter, ifs, 0⟩] scope pos) spos) (tAsg (tComp js wi tt te) (gName i)) := by
  intro pins s σ H D I h
  have hN : (x :: namesAt X.N js).Nodup := by rw [hNN]; exact hN0
  have hfree : ∀ y ∈ scope.names, y.2 = .free → X.env.kindOf y.1 = some .cell ∨ X.env.kindOf y.1 = some .free := fun y hy e => by
    show X.env.scope.names.lookup y.1 = some .cell ∨ X.env.scope.names.lookup y.1 = some .free
    rw [hsc]; exact hfree0 y hy e
  have hjs : ∀ y ∈ namesAt X.N js, scope.names.lookup y = some .free := by rw [hNN]; exact hj0
  rw [exec_Assign_Name_used _ _ _ _ hsw]
  refine wpAny_bind (wpAny_standAt (wpAny_bind ?_))
  show wpAny _ X.A (do let _ ← comprehension (.ListComp elt [⟨.Name x px, iter, ifs, 0⟩] scope pos) scope X.env _ (newList []) false (eval iter X.env) (some (assign (.Name y py) X.env))) _ _ s
  have hcl : closureFor scope X.env = pure (clos X.env scope.names []) := closureFor_eq fun y hy e => I.ok.has y.1 (hfree y hy e)
  refine wpAny_bind (wpAny_mono (wpAny_comprehension_free (use := some (assign (.Name y py) X.env)) (Q := fun _ s' => SP X pins D .next s') rfl hs hcl hk hnames
    (thn (hi pins s σ H _ I h) fun xv s1 h1 => thn h1 fun it s2 h2 => ?_)) (fun _ s' hq => wpAny_pure (wpAny_pure hq)) fun _ _ e => e)
  refine comp_block js (RR := fun acc C => compPost (model X.prog X.w) X.A X.xe (some (assign (.Name y py) X.env)) (fun _ s' => SP X pins D .next s') acc C) (Q := fun ys H2 => ∀ D', H2 D' = none → D.nx (σ.set i (some (.ref D'))) (upd H2 D' (.lst ys))) hc hk hx hcell hfree hN hjs hif he h2 ?_
  intro D' C s' H2 ys m I' hD hn all fpC hCD hq
  show wpAny _ X.A (assign (.Name y py) X.env (.ref D')) _ _ _
  refine wpAny_assign_Name (store_ok2 I' hNX hiy (.inl hy) (v := .ref D') rfl (fun s'' I'' ⟨a, sb, ha⟩ => ?_) (.inr hy))
  obtain ⟨f1, f2, f3, f4, f5, f6⟩ := fpC
  have hCa : C ≠ a := by
    rcases ha with z | z
    · rw [z]; exact f2
    · exact fun w => f5 _ _ z w.symm
  exact ⟨m, hn.sameBut sb hCa, fun h' sb' => ⟨_, _, I''.turned (t' := s''.toks) (it := C) (fun b o hb e => (sb'.2 b hb).trans e) f1 f2 f4 f5 f6, hq D' hD⟩⟩
end
end L2
set_option Elab.async false
set_option linter.all false
set_option maxRecDepth 100000
set_option Elab.async false
set_option maxHeartbeats 4000000
/-! ### own rules: numbers of any size, isinstance, texts -/
namespace L2
open PySem PySem.Spec PyProof.Rows
section
variable {X : Cx}
theorem op_mulB : OpR X (binaryOp .Mult) (rI IntMulOk fun i j => .int (i * j)) := opI fun _ _ _ _ _ _ _ hc q => mul_int q hc
def CDivB (_ j : Int) : Prop := 0 < j ∧ j.natAbs.log2 < 9000
theorem op_fdivB : OpR X (binaryOp .FloorDiv) (rI CDivB fun i j => .int (i / j)) := opI fun i j _ _ _ _ _ hc q => by
  have h1 : (0 : Int) < j := hc.1
  exact floordiv_int (by omega) (by rw [Int.fdiv_eq_ediv_of_nonneg i (by omega)]; exact q) (.inl (PyProof.noPylong_of_log2 hc.2))
theorem divOk {i j : Int} (h0 : 0 < j) (h : j.natAbs < 2 ^ 9000) : CDivB i j := ⟨h0, (Nat.log2_lt (by omega)).mpr h⟩
/-! isinstance against the kit's own types -/
def tyN (K : PySem.W.Frag) (H : Hp) (x : V) (T : String) : Prop := match x with
  | .non => T = "NoneType"
  | .bl _ => T = "bool"
  | .int _ => T = "int"
  | .str _ => T = "str"
  | .ref p => (T = "list" ∧ ∃ xs, SqL K H p xs) ∨ (T = "tuple" ∧ ∃ xs, SqT K H p xs) ∨ (T = "dict" ∧ ∃ kvs, H p = some (.dK kvs))
  | _ => False
def subT (a b : String) : Bool := a == b || (a == "bool" && b == "int")
def isTab : List String := ["int", "bool", "str", "list", "tuple"]
def kindTab : List String := ["NoneType", "bool", "int", "str", "list", "tuple", "dict"]
theorem kit_meta : ∀ T ∈ isTab, PySem.W.kitMeta T = true := by decide +kernel
theorem kit_mro : ∀ a ∈ kindTab, ∀ b ∈ isTab, (PySem.fastBuiltinMro a).map (·.contains (.type b)) = some (subT a b) := by decide +kernel
theorem kit_one (K : PySem.W.Frag) {a b : String} (ha : a ∈ kindTab) (hb : b ∈ isTab) : PySem.W.kitOne K (.type a) (.type b) = some (subT a b) := by
  unfold PySem.W.kitOne
  by_cases h : (Value.type a == Value.type b) = true
  · rw [if_pos h]
    have e : a = b := by
      have := beq_iff_eq.mp h
      injection this
    subst e
    simp [subT]
  · rw [if_neg h]
    show (if PySem.W.kitMeta b = true then PySem.W.subIn K (.type a) (.type b) else none) = _
    rw [if_pos (kit_meta b hb)]
    exact kit_mro a ha b hb
theorem call_isi : CallR X (.builtin "isinstance") (fun xs H Q => ∃ x Tx T b, xs = [x, .ty T] ∧ tyN X.K H x Tx ∧ T ∈ isTab ∧ subT Tx T = b ∧ Q (.bl b) H) := by
  intro pins s σ H xs us Q I r h
  obtain ⟨x, Tx, T, b, rfl, ty, hT, rfl, q⟩ := h
  obtain ⟨u, w', rfl, rx, ry⟩ := vals2 r
  cases ry
  have fin : ∀ {b : Bool}, b = subT Tx T → ∀ tk, EP X pins σ Q (.bool b) { s with toks := tk } := fun e tk => ⟨.bl (subT Tx T), H, I.tok tk, by rw [e]; rfl, q⟩
  have go : ∀ {P : Heap → Prop}, PySem.W.KitX X.K u (.type Tx) P → P s.heap → Tx ∈ kindTab → u ≠ .builtin "__main__.__loader__#opaque" → wpAny (model X.prog X.w) X.A (call (.builtin "isinstance") [u, .type T]) (EP X pins σ Q) X.xe s := fun Z p hm hx =>
    PySem.W.kia_one Z I.kIn p (kit_one X.K hm hT) hx fun tk => fin rfl tk
  cases x with
  | non => cases rx; cases (show Tx = "NoneType" from ty); exact go PySem.W.kitx_none trivial (by decide) (by intro e; cases e)
  | bl b => cases rx; cases (show Tx = "bool" from ty); exact go PySem.W.kitx_bool trivial (by decide) (by intro e; cases e)
  | int i => obtain ⟨t, rfl⟩ := rx; cases (show Tx = "int" from ty); exact go PySem.W.kitx_int trivial (by decide) (by intro e; cases e)
  | str z => obtain ⟨t, rfl⟩ := rx; cases (show Tx = "str" from ty); exact go PySem.W.kitx_str trivial (by decide) (by intro e; cases e)
  | ref p =>
    cases rx
    rcases ty with ⟨rfl, ys, hq⟩ | ⟨rfl, ys, hq⟩ | ⟨rfl, kvs, hq⟩
    · obtain ⟨its, _, pl, _⟩ := I.list hq
      obtain ⟨o, n, e, c, _, _⟩ := pl
      exact go PySem.W.kitx_list ⟨o, e, c⟩ (by decide) (by intro e; cases e)
    · obtain ⟨its, _, ⟨o, e, c, _⟩, _⟩ := I.tuple hq
      exact go PySem.W.kitx_tuple ⟨o, e, c⟩ (by decide) (by intro e; cases e)
    · obtain ⟨_, _, _, _, o, _, _, e, ex, _⟩ := I.hok p _ hq
      exact go PySem.W.kitx_dict ⟨o, e, ex.1⟩ (by decide) (by intro e; cases e)
  | _ => exact (show False from ty).elim
/-! texts -/
end
end L2
namespace L2
open PySem PySem.Spec PyProof.Rows
theorem bt_int : bootBuiltins "int" = some (.type "int") := by decide +kernel
theorem bt_bool : bootBuiltins "bool" = some (.type "bool") := by decide +kernel
theorem bt_str : bootBuiltins "str" = some (.type "str") := by decide +kernel
theorem bt_list : bootBuiltins "list" = some (.type "list") := by decide +kernel
theorem bt_tuple : bootBuiltins "tuple" = some (.type "tuple") := by decide +kernel
theorem bt_len : bootBuiltins "len" = some (.builtin "len") := by decide +kernel
theorem bt_isinstance : bootBuiltins "isinstance" = some (.builtin "isinstance") := by decide +kernel
theorem bt_min : bootBuiltins "min" = some (.builtin "min") := by decide +kernel
theorem bt_max : bootBuiltins "max" = some (.builtin "max") := by decide +kernel
theorem bt_all : bootBuiltins "all" = some (.builtin "all") := by decide +kernel
section
variable {X : Cx} {pos : Pos}
theorem pe_globE {x : Str} {v : V} (hg : Gl X x) (hm : ∃ u, X.mg x = some u ∧ RelV v u) (hd : (x == ("__debug__" : Str)) = false := by decide) : PE X (.Name x pos) (tC v) := by
  obtain ⟨u, h1, h2⟩ := hm
  exact pe_glob hg h1 h2 hd
theorem pe_bltT {x : Str} {T : String} (hg : Gl X x) (hm : X.mg x = none) (hv : bootBuiltins x = some (.type T)) (hn : x ≠ "__name__" := by decide) (hd : (x == ("__debug__" : Str)) = false := by decide) : PE X (.Name x pos) (tC (.ty T)) :=
  pe_bltn hg hm hv rfl hn hd
end
/-! ### the script's cells -/
theorem atI_int {ns : List Int} {k : Int} (h0 : 0 ≤ k) (h1 : k < (ns.length : Int)) : atI (ns.map V.int) k = some (.int (ns.getD k.toNat 0)) := by
  have e : ((k.toNat : Nat) : Int) = k := by omega
  have hl : k.toNat < ns.length := by omega
  have := atI_nat (xs := ns.map V.int) (j := k.toNat) (v := .int (ns.getD k.toNat 0)) (by
    rw [List.getElem?_map, List.getElem?_eq_getElem hl, List.getD_eq_getElem?_getD, List.getElem?_eq_getElem hl]
    rfl)
  rw [e] at this
  exact this
end L2
namespace L2
open PySem PySem.Spec PyProof.Rows
/-- a written factor below 2^64 -/
theorem mulOk_small {a b : Int} (h : -(2 ^ 64) < a ∧ a < 2 ^ 64 := by decide) : IntMulOk a b := .of_left (intBits_le_64 h.1 h.2)
theorem mulOk_smallR {a b : Int} (h : -(2 ^ 64) < b ∧ b < 2 ^ 64 := by decide) : IntMulOk a b := .of_right (intBits_le_64 h.1 h.2)
end L2
namespace L2
open PySem PySem.Spec PyProof.Rows
/-- a statement whose ways meet again -/
def tJoin (t : TS) : TS := fun D σ H => ∃ J : St → Hp → Prop, t { D with nx := J } σ H ∧ ∀ σ' H', J σ' H' → D.nx σ' H'
theorem ps_join {X : Cx} {st : Stmt} {t : TS} (h : PS X st t) : PS X st (tJoin t) := by
  intro pins s σ H D I hw
  obtain ⟨J, h1, h2⟩ := hw
  refine thn (h pins s σ H { D with nx := J } I h1) fun f s1 q => ?_
  cases f with
  | next => obtain ⟨σ', H', I', q⟩ := q; exact ⟨σ', H', I', h2 _ _ q⟩
  | ret v => exact q
  | brk => exact q
  | cont => exact q
theorem iteN {c A B : Prop} [Decidable c] (hc : ¬ c) (h : B) : if decide c = true then A else B := by rw [decide_eq_false hc]; exact iteF h
theorem iteY {c A B : Prop} [Decidable c] (hc : c) (h : A) : if decide c = true then A else B := by rw [decide_eq_true hc]; exact iteT h
end L2
set_option Elab.async false
set_option linter.all false
set_option maxRecDepth 100000
set_option Elab.async false
set_option maxHeartbeats 4000000
/-! ### own rules: equality of data, signs of a text, all, split, int of a text -/
namespace L2
open PySem PySem.Spec PyProof.Rows
mutual
/-- what a value says as data -/
inductive Dt (K : PySem.W.Frag) (H : Hp) : V → PyData → Prop
  | non : Dt K H .non .none
  | bl (b : Bool) : Dt K H (.bl b) (.bool b)
  | int (i : Int) : Dt K H (.int i) (.int i)
  | str (x : Str) : Dt K H (.str x) (.str x)
  | list {p : Addr} {xs : List V} {ds : List PyData} : SqL K H p xs → Dts K H xs ds → Dt K H (.ref p) (.list ds)
  | tuple {p : Addr} {xs : List V} {ds : List PyData} : SqT K H p xs → Dts K H xs ds → Dt K H (.ref p) (.tuple ds)
inductive Dts (K : PySem.W.Frag) (H : Hp) : List V → List PyData → Prop
  | nil : Dts K H [] []
  | cons {x : V} {xs : List V} {d : PyData} {ds : List PyData} : Dt K H x d → Dts K H xs ds → Dts K H (x :: xs) (d :: ds)
end
section
variable {X : Cx} {pins : List (Addr × Obj)} {σ : St} {H : Hp} {s : Shared}
mutual
theorem Dt.reads (I : Inv X pins σ H s) : ∀ {x : V} {d : PyData}, Dt X.K H x d → ∀ {u : Value}, RelV x u → ∃ as, Reads s.heap u d as
  | _, _, .non, _, r => by cases r; exact ⟨_, .none⟩
  | _, _, .bl b, _, r => by cases r; exact ⟨_, .bool b⟩
  | _, _, .int i, _, r => by obtain ⟨t, rfl⟩ := r; exact ⟨_, .int i t⟩
  | _, _, .str x, _, r => by obtain ⟨t, rfl⟩ := r; exact ⟨_, .str x t⟩
  | _, _, .list hq hd, _, r => by
    cases r
    obtain ⟨its, rv, ⟨o, n, e, c, _, d⟩, _⟩ := I.list hq
    obtain ⟨as, q⟩ := Dts.reads I hd rv
    exact ⟨_, .list e c d (by simpa using q)⟩
  | _, _, .tuple hq hd, _, r => by
    cases r
    obtain ⟨its, rv, ⟨o, e, c, n, d⟩, _⟩ := I.tuple hq
    obtain ⟨as, q⟩ := Dts.reads I hd rv
    exact ⟨_, .tuple e c d (by simpa using q)⟩
theorem Dts.reads (I : Inv X pins σ H s) : ∀ {xs : List V} {ds : List PyData}, Dts X.K H xs ds → ∀ {us : List Value}, Vals xs us → ∃ as, ReadsAll s.heap us ds as
  | _, _, .nil, _, r => by cases r; exact ⟨_, .nil⟩
  | _, _, .cons h t, _, r => by
    cases r with
    | cons r1 r2 =>
      obtain ⟨as, q⟩ := Dt.reads I h r1
      obtain ⟨bs, q'⟩ := Dts.reads I t r2
      exact ⟨_, .cons q q'⟩
end
def rNeD (K : PySem.W.Frag) : R2 := fun x y H Q => ∃ da db, Dt K H x da ∧ Dt K H y db ∧ SeqAt.shaped da = true ∧ SeqAt.shaped db = true ∧ Q (.bl (!PyData.eqv da db)) H
theorem op_neD (hu : X.A.units + 64 < cLine) : OpR X (compareOp .NotEq) (rNeD X.K) := by
  intro pins s σ H x y v u Q I rx ry h
  obtain ⟨da, db, h1, h2, s1, s2, q⟩ := h
  obtain ⟨as, r1⟩ := h1.reads I rx
  obtain ⟨bs, r2⟩ := h2.reads I ry
  exact ne_dataH r1 r2 s1 s2 hu (fin_bl I q rfl)
end
/-! the signs of a text -/
def Its (x : Str) : It := ⟨fun i _ => i < x.cps.size, fun i H v H' => H' = H ∧ ∃ c, x.cps[i]? = some c ∧ v = .str ⟨#[c]⟩, fun i _ => x.cps.size ≤ i⟩
theorem turn_str {P : Program} {w : World} {K : PySem.W.Frag} {tg : Expr} (it : Addr) (x : Str) (t : Tok) {ty : String} (hty : ty = "str_ascii_iterator" ∨ ty = "str_iterator") : Turn P w K tg (Its x) [it] it (fun i h => h.IsStrIter it ty x t i) where
  mem := by simp
  obj := fun i h st b hb => by
    have e : b = it := by simpa using hb
    subst e
    obtain ⟨o, e, c, d⟩ := st
    exact ⟨o, e, fun v z => by rw [d] at z; cases z⟩
  keep := fun i h h' st k => by
    obtain ⟨o, e, r⟩ := st
    exact ⟨o, k it (by simp) o e, r⟩
  item := by
    intro X hP hw hK hc i pins s σ H E I hf st hg
    subst hP hw hK
    obtain ⟨f0, f1, f2, f3, f4, f5⟩ := hf it (by simp)
    have fin : ∀ (v : Value) (h' : Heap) (tk : Nat), SignAt x i v → h'.IsStrIter it ty x t (i + 1) → (∀ b o, b ∉ [it] → s.heap.get? b = some o → h'.get? b = some o) →
        ∃ u, some v = some u ∧ wpAny (model X.prog X.w) X.A (letOwnedTupleGo tg (.ref it) u) (fun _ s2 => ∃ x' H', Inv X pins σ H' s2 ∧ RelV x' u ∧ (Its x).yld i H x' H' ∧ s2.heap.IsStrIter it ty x t (i + 1) ∧ ∀ b ∈ [it], H' b = none) E { s with heap := h', toks := tk } := by
      intro v h' tk hv st' kk
      obtain ⟨c, u, hcc, rfl⟩ := hv
      have I1 : Inv X pins σ H { s with heap := h', toks := tk } := I.turned (fun b o hb e => kk b o (by simpa using hb) e) f0 f1 f3 f4 f5
      obtain ⟨o, e, c', d⟩ := id st'
      refine ⟨_, rfl, go_of (s := { s with heap := h', toks := tk }) (n := ty) e c' d (by rcases hty with rfl | rfl <;> decide) ⟨.str ⟨#[c]⟩, H, I1, ⟨u, rfl⟩, ⟨rfl, c, hcc, rfl⟩, st', fun b hb => (hf b hb).1⟩⟩
    rcases hty with rfl | rfl
    · exact (Walks.strAscii (prog := X.prog) (w := X.w) (I.ok.hd hc) it x t).item i s _ _ hg st fun v h' tk hv st' kk => fin v h' tk hv st' kk
    · exact (Walks.strWide (prog := X.prog) (w := X.w) (I.ok.hd hc) it x t).item i s _ _ hg st fun v h' tk hv st' kk => fin v h' tk hv st' kk
  done := by
    intro X hP hw hK hc i pins s σ H E I hf st hg
    subst hP hw hK
    obtain ⟨f0, f1, f2, f3, f4, f5⟩ := hf it (by simp)
    have hx : x.cps[i]? = none := by
      have hg' : x.cps.size ≤ i := hg
      simp; omega
    rcases hty with rfl | rfl
    · exact wpAny_pyNext_ascii_end (I.ok.hd hc) st hx fun h' eb => ⟨rfl, I.turned (t' := s.toks) (fun b o hb e => eb b o hb e) f0 f1 f3 f4 f5⟩
    · exact wpAny_pyNext_wide_end (I.ok.hd hc) st hx fun h' eb => ⟨rfl, I.turned (t' := s.toks) (fun b o hb e => eb b o hb e) f0 f1 f3 f4 f5⟩
  self := fun _ _ _ _ _ st h => by
    rcases hty with rfl | rfl
    · exact wpAny_pyIter_striter_ascii st h
    · exact wpAny_pyIter_striter_wide st h
section
variable {X : Cx} {tg : Expr}
def iStr (tl : TE) : TI := fun σ H R => tl σ H fun x H1 => ∃ z, x = .str z ∧ R (Its z) H1
theorem pi_str {l : Expr} {tl : TE} (hl : PE X l tl) : PI X tg l (iStr tl) := by
  intro pins s σ H R I h
  refine thn (hl pins s σ H _ I h) fun v s1 ⟨x, H1, I1, r1, q1⟩ => ?_
  obtain ⟨z, e, q⟩ := q1
  subst e
  obtain ⟨t, rfl⟩ := r1
  cases ha : z.cps.all (· < 128)
  · refine wpAny_pyIter_wide ha ?_
    refine ⟨s1.heap.objs.size, [s1.heap.objs.size], _, _, H1, rfl, I1.kept (t' := s1.toks) fun b o e => Heap.get?_push_of_some _ e, turn_str _ z t (ty := "str_iterator") (.inr rfl), ⟨_, Heap.get?_push_size _ rfl, rfl, rfl⟩, fun b hb => ?_, q⟩
    have e : b = s1.heap.objs.size := by simpa using hb
    subst e
    exact I1.fpOk (Nat.le_refl _) (I1.hok.fresh (Nat.le_refl _))
  · refine wpAny_pyIter_ascii ha ?_
    refine ⟨s1.heap.objs.size, [s1.heap.objs.size], _, _, H1, rfl, I1.kept (t' := s1.toks) fun b o e => Heap.get?_push_of_some _ e, turn_str _ z t (ty := "str_ascii_iterator") (.inl rfl), ⟨_, Heap.get?_push_size _ rfl, rfl, rfl⟩, fun b hb => ?_, q⟩
    have e : b = s1.heap.objs.size := by simpa using hb
    subst e
    exact I1.fpOk (Nat.le_refl _) (I1.hok.fresh (Nat.le_refl _))
end
theorem yes {A B : Hp → Prop} {σ : St} {H : Hp} (h : A H) : tYes σ H (fun b H4 => if b = true then A H4 else B H4) := by
  show if true = true then A H else B H
  exact iteT h
/-! comprehensions, by what is gone over -/
section
variable {js : List Nat} {tt : TT} {te : TE} {σ : St} {Qd : List V → Hp → Prop}
theorem comp_range {lo : Int} {n : Nat} {H : Hp} (Pv : Nat → List V → Hp → Prop) (hn : n ≤ sizeLine) (h0 : Pv 0 [] H) (hl : ∀ i ys H, Pv i ys H → ys.length ≤ i)
    (hs : ∀ i ys H, i < n → Pv i ys H → tt (some (.int (lo + i)) :: valsAt σ js) H fun b H4 => if b = true then te (some (.int (lo + i)) :: valsAt σ js) H4 fun y H5 => Pv (i + 1) (ys ++ [y]) H5 else Pv (i + 1) ys H4)
    (hd : ∀ ys H, Pv n ys H → Qd ys H) : CompEnd js tt te σ Qd (Itr lo n) H := by
  refine ⟨fun i m ys H => m = n - i ∧ i ≤ n ∧ Pv i ys H, ⟨n, by simp, Nat.zero_le _, h0⟩, ?_⟩
  rintro i m ys H ⟨rfl, hi, p⟩
  have hlen := hl i ys H p
  by_cases hlt : i < n
  · refine .inr ⟨hlt, by omega, Pv (i + 1), fun ys' H' p' => ⟨n - (i + 1), by omega, rfl, hlt, p'⟩, fun x H' y => ?_⟩
    obtain ⟨e, y⟩ := y
    subst e y
    exact hs i ys _ hlt p
  · have e : i = n := by omega
    subst e
    exact .inl ⟨Nat.le_refl _, by omega, hd ys H p⟩
theorem comp_list {K : PySem.W.Frag} {a : Addr} {xs : List V} {H : Hp} (Pv : Nat → List V → Hp → Prop) (hn : xs.length ≤ sizeLine) (h0 : Pv 0 [] H) (hl : ∀ i ys H, Pv i ys H → ys.length ≤ i) (hq : ∀ i ys H, i ≤ xs.length → Pv i ys H → SqL K H a xs)
    (hs : ∀ i x ys H, xs[i]? = some x → Pv i ys H → tt (some x :: valsAt σ js) H fun b H4 => if b = true then te (some x :: valsAt σ js) H4 fun y H5 => Pv (i + 1) (ys ++ [y]) H5 else Pv (i + 1) ys H4)
    (hd : ∀ ys H, Pv xs.length ys H → Qd ys H) : CompEnd js tt te σ Qd (Itl K a) H := by
  refine ⟨fun i m ys H => m = xs.length - i ∧ i ≤ xs.length ∧ Pv i ys H, ⟨xs.length, by simp, Nat.zero_le _, h0⟩, ?_⟩
  rintro i m ys H ⟨rfl, hi, p⟩
  have hlen := hl i ys H p
  have q := hq i ys H hi p
  by_cases hlt : i < xs.length
  · refine .inr ⟨⟨xs, xs[i], q, by simp [hlt]⟩, by omega, Pv (i + 1), fun ys' H' p' => ⟨xs.length - (i + 1), by omega, rfl, hlt, p'⟩, fun x H' y => ?_⟩
    obtain ⟨e, y⟩ := y
    subst e
    exact hs i x ys _ (y xs q) p
  · have e : i = xs.length := by omega
    subst e
    exact .inl ⟨⟨xs, q, Nat.le_refl _⟩, by omega, hd ys H p⟩
theorem comp_str {z : Str} {H : Hp} (Pv : Nat → List V → Hp → Prop) (hn : z.cps.size ≤ sizeLine) (h0 : Pv 0 [] H) (hl : ∀ i ys H, Pv i ys H → ys.length ≤ i)
    (hs : ∀ i c ys H, z.cps[i]? = some c → Pv i ys H → tt (some (.str ⟨#[c]⟩) :: valsAt σ js) H fun b H4 => if b = true then te (some (.str ⟨#[c]⟩) :: valsAt σ js) H4 fun y H5 => Pv (i + 1) (ys ++ [y]) H5 else Pv (i + 1) ys H4)
    (hd : ∀ ys H, Pv z.cps.size ys H → Qd ys H) : CompEnd js tt te σ Qd (Its z) H := by
  refine ⟨fun i m ys H => m = z.cps.size - i ∧ i ≤ z.cps.size ∧ Pv i ys H, ⟨z.cps.size, by simp, Nat.zero_le _, h0⟩, ?_⟩
  rintro i m ys H ⟨rfl, hi, p⟩
  have hlen := hl i ys H p
  by_cases hlt : i < z.cps.size
  · refine .inr ⟨hlt, by omega, Pv (i + 1), fun ys' H' p' => ⟨z.cps.size - (i + 1), by omega, rfl, hlt, p'⟩, fun x H' y => ?_⟩
    obtain ⟨e, c, hc, y⟩ := y
    subst e y
    exact hs i c ys _ hc p
  · have e : i = z.cps.size := by omega
    subst e
    exact .inl ⟨Nat.le_refl _, by omega, hd ys H p⟩
end
section
variable {X : Cx}
/-- all(a list of truths) -/
theorem call_all (hc : X.calm = true) : CallR X (.builtin "all") (fun xs H Q => ∃ (p : Addr) (bs : List Bool), xs = [.ref p] ∧ SqL X.K H p (bs.map V.bl) ∧ Q (.bl (bs.all id)) H) := by
  intro pins s σ H xs us Q I r h
  obtain ⟨p, bs, rfl, hq, q⟩ := h
  obtain ⟨u, rfl, rx⟩ := vals1 r
  cases rx
  obtain ⟨its, rv, pl, _⟩ := I.list hq
  have hl := pl.isList
  have hlt : p < s.heap.objs.size := by obtain ⟨_, e, _⟩ := hl; exact Heap.lt_size e
  have hb : ∀ i v, its[i]? = some v → ∃ b, bs[i]? = some b ∧ v = Value.bool b := fun i v e => by
    have hi : i < its.length := (List.getElem?_eq_some_iff.mp e).1
    have hi' : i < bs.length := by have := rv.length; rw [List.length_map] at this; omega
    obtain ⟨u, e', r'⟩ := rv.get (i := i) (x := .bl bs[i]) (by rw [List.getElem?_map, List.getElem?_eq_getElem hi']; rfl)
    rw [e] at e'
    cases e'
    exact ⟨bs[i], List.getElem?_eq_getElem hi', r'⟩
  refine call_all_walk (wpAny_pyIter_list hl ?_)
  refine ⟨s.heap.objs.size, [s.heap.objs.size, p], [s.heap.objs.size], its.toArray.size, _, _, fun i => (bs[i]?).getD true, rfl, Walks.list (A := X.A.in1) (I.ok.hd hc) _ p (Nat.ne_of_lt hlt) its.toArray,
    ⟨⟨_, Heap.get?_push_size _ rfl, rfl, rfl⟩, hl.push _⟩, fun i v s' Q' E' hP hQ => ?_, fun h' tk hk => ?_⟩
  · obtain ⟨b, e, rfl⟩ := hb i v (by simpa using hP)
    simp only [e, Option.getD_some] at hQ
    exact wpAny_truthy_bool hQ
  · have e : ((List.range its.toArray.size).all fun i => (bs[i]?).getD true) = bs.all id := by
      have hlen := rv.length
      rw [List.length_map] at hlen
      rw [List.size_toArray, ← hlen]; exact LSm.range_all bs
    rw [e]
    exact ⟨.bl _, H, I.kept (LSm.kept_iter hk), rfl, q⟩
end
end L2
set_option Elab.async false
set_option linter.all false
set_option maxRecDepth 100000
set_option Elab.async false
set_option maxHeartbeats 4000000
/-! ### own mathematics: texts cut at a sign and put together; texts as data -/
namespace L2
open PySem PySem.StrLaws PySem.Builtin PySem.Builtin.Str
end L2
namespace L2
open PySem
theorem same_new {H : L2.Hp} {p : Addr} {o : L2.HO} (hp : H p = none) : L2.Same H (L2.upd H p o) := fun b o' e => by rw [L2.upd_ne (L2.ne_of_none e hp)]; exact e
end L2
namespace L2
open PySem PySem.SeqAt
open AutoSeq1 (wpAny_loadPart')
open MeetsSeq MeetsSeq2 MeetsSeq3 SeqRoads2
section
variable {A : Around} {s : Shared}
end
open PySem.Spec PyProof.Rows
end L2
set_option Elab.async false
set_option linter.all false
set_option maxRecDepth 100000
set_option Elab.async false
set_option maxHeartbeats 4000000
/-! ### own rules: methods by the instance's own class, list(range(n)), a dict of the top, lists or tuples -/
namespace L2
open PySem PySem.Spec PyProof.Rows
/-- the method m of the class C keeps the promise sp -/
structure MethAt (P : Program) (w : World) (K : PySem.W.Frag) (mg : Str → Option Value) (base : Heap) (CX : CXT) (k : Nat) (C : Addr) (m : Str) (sp : Sp) : Prop where
  ex : ∃ (f : Addr) (fd : FuncData) (ps : List Str), Cls K C ∧ Meth K C m f ∧ Binds K fd ps [] ∧ FnOk P w K mg base CX k f fd ps sp
def tMethD (P : Program) (w : World) (K : PySem.W.Frag) (mg : Str → Option Value) (base : Heap) (CX : CXT) (k : Nat) (m : Str) (E : XK) (ta : TE) (t : TA) : TE := fun σ H Q => ta σ H fun x H1 => ∃ a C dx fs sp, x = .ref a ∧ H1 a = some (.ins C dx fs) ∧ fs.lookup m = none ∧
  MethAt P w K mg base CX k C m sp ∧ t σ H1 fun vs H2 => sp (x :: vs) H2 Q E
section
variable {X : Cx} {CX : CXT} {k : Nat} {E : XK} {m : Str} {pos apos : Pos} {e o : Expr} {es : List Expr} {ta : TE} {t : TA}
/-- o.m(e, ..), whatever o's class is -/
theorem pe_methD {pl : Sem Bool} (he : PE X o ta) (hr : Room k X.A) (hx : Passes CX X E) (ha : PA X (e :: es) t)
    (hst : starEach (e :: es) X.env = (false, eval e X.env) :: starEach es X.env := by rfl) (hpl : (backTo pos (starEach es X.env)).any (·.1) = false := by rfl)
    (ht : eval (.Call (.Attribute o m apos) (e :: es) [] pos) X.env = (do
      let ov ← eval o X.env
      standAt apos.atName
      let (f, first) ← holding [ov] (getMethod ov m pl)
      callWith pos f first (backTo pos (starEach (e :: es) X.env)) (backToKw pos (keywordEach [] X.env))) := by rfl) :
    PE X (.Call (.Attribute o m apos) (e :: es) [] pos) (tMethD X.prog X.w X.K X.mg X.base CX k m E ta t) := by
  intro pins s σ H Q I h
  refine PySem.W.methodCall_KW (pl := pl) (thn (he pins s σ H _ I h) fun u s1 ⟨x, H1, I1, rx, a, C, dx, fs, sp, ex, ea, l, ⟨f, fd, ps, c, hm, hb, F⟩, q⟩ => ?_) ht
  subst ex
  obtain rfl : u = Value.ref a := rx
  refine getmeth_ok I1 ea c hm l ?_
  refine PySem.W.callWith_K (first := [.ref a]) (h₀ := X.base) I.ok.mod.kin hm.kp (thn (ha pos pins s1 σ H1 _ I1 q) fun us s2 ⟨vs, H2, I2, r, q2⟩ => ⟨I2.kIn, ?_⟩) hst hpl
  exact run_fn (us := .ref a :: us) (vs := .ref a :: vs) (ds := []) (dvs := []) F hr hb .nil hx I2 (.cons rfl r) (by rw [List.append_nil]; exact q2)
/-- o.m() -/
theorem pe_methD0 {pl : Sem Bool} (he : PE X o ta) (hr : Room k X.A) (hx : Passes CX X E)
    (ht : eval (.Call (.Attribute o m apos) [] [] pos) X.env = (do
      let ov ← eval o X.env
      standAt apos.atName
      let (f, first) ← holding [ov] (getMethod ov m pl)
      callWith pos f first (backTo pos (starEach [] X.env)) (backToKw pos (keywordEach [] X.env))) := by rfl) :
    PE X (.Call (.Attribute o m apos) [] [] pos) (tMethD X.prog X.w X.K X.mg X.base CX k m E ta tNil) := by
  intro pins s σ H Q I h
  refine PySem.W.methodCall_KW (pl := pl) (thn (he pins s σ H _ I h) fun u s1 ⟨x, H1, I1, rx, a, C, dx, fs, sp, ex, ea, l, ⟨f, fd, ps, c, hm, hb, F⟩, q⟩ => ?_) ht
  subst ex
  obtain rfl : u = Value.ref a := rx
  refine getmeth_ok I1 ea c hm l ?_
  exact PySem.W.callWith_K0 (first := [.ref a]) I1.kIn hm.kp (run_fn (us := [.ref a]) (vs := [.ref a]) (ds := []) (dvs := []) F hr hb .nil hx I1 (.cons rfl .nil) (by rw [List.append_nil]; exact q))
end
/-! list(range(n)) -/
section
variable {X : Cx}
theorem bt_range : bootBuiltins "range" = some (.type "range") := by decide +kernel
theorem call_range1 : CallR X (.type "range") (fun xs H Q => ∃ j : Int, xs = [.int j] ∧ ∀ r, H r = none → Q (.ref r) (upd H r (.rng 0 j))) := by
  intro pins s σ H xs us Q I r h
  obtain ⟨j, rfl, q⟩ := h
  obtain ⟨u, rfl, t, rfl⟩ := vals1 r
  refine call_range_1 ⟨.ref s.heap.objs.size, upd H s.heap.objs.size (.rng 0 j), I.laid (fun b o e => Heap.get?_push_of_some _ e) (Nat.le_refl _) ?_, rfl, q _ (I.hok.fresh (Nat.le_refl _))⟩
  exact ⟨_, _, _, Heap.get?_push_size _ rfl⟩
def upV (n : Nat) : List V := (List.range n).map fun i => V.int (i : Nat)
theorem upV_len (n : Nat) : (upV n).length = n := by simp [upV]
theorem vals_upV : ∀ (n : Nat) (us : List Value), us.length = n → (∀ (j : Nat) (v : Value), us[j]? = some v → ∃ t, v = .int (j : Nat) t) → Vals (upV n) us := by
  intro n
  induction n with
  | zero => intro us hl _; cases us with | nil => exact .nil | cons _ _ => cases hl
  | succ n ih =>
    intro us hl h
    have e1 : upV (n + 1) = upV n ++ [V.int (n : Nat)] := by simp [upV, List.range_succ]
    have hn : n < us.length := by omega
    have e2 : us = us.take n ++ [us[n]] := by
      have := List.take_append_drop n us
      rw [List.drop_eq_getElem_cons hn] at this
      rw [List.drop_eq_nil_of_le (by omega)] at this
      exact this.symm
    rw [e1, e2]
    refine Vals.append (ih _ (by simp; omega) fun j v e => ?_) (.cons ?_ .nil)
    · rw [List.getElem?_take] at e
      split at e
      · exact h j v e
      · cases e
    · obtain ⟨t, e⟩ := h n us[n] (by simp [hn])
      exact ⟨t, e⟩
theorem call_list_rng (hc : X.calm = true) : CallR X (.type "list") (fun xs H Q => ∃ (r : Addr) (n : Nat), xs = [.ref r] ∧ H r = some (.rng 0 n) ∧ n ≤ 1000000 ∧ ∀ l, H l = none → Q (.ref l) (upd H l (.lst (upV n)))) := by
  intro pins s σ H xs us Q I rx h
  obtain ⟨r, n, rfl, hr, hn, q⟩ := h
  obtain ⟨u, rfl, ru⟩ := vals1 rx
  cases ru
  have hl : sizeLine = 16777216 := sizeLine_eq
  obtain ⟨t, u, v, e⟩ := (show ObjOk X.prog X.w H s.heap r (.rng 0 n) from I.hok r _ hr)
  refine call_list_range (n := n) (I.ok.hd hc) e (small_one (by omega) (by omega) (by omega) (by omega)) (by rw [rangeSize_one]; split <;> omega) (by omega) fun h' tk acc' c' kp e' hi => ?_
  refine ⟨.ref s.heap.objs.size, _, I.laid (t' := tk) kp (Nat.le_refl _) (show ObjOk X.prog X.w _ h' _ (.lst (upV n)) from ⟨by rw [upV_len]; omega, acc'.toList, c', vals_upV n _ (by simpa using hi.1) fun j v ej => ?_, by simpa using e'⟩), rfl, q _ (I.hok.fresh (Nat.le_refl _))⟩
  obtain ⟨t, ev⟩ := hi.2 j v (by simpa using ej)
  exact ⟨t, by rw [ev]; congr 1; omega⟩
end
/-! a dict of the top: its keys texts, its values tuples of ints -/
inductive KRows (w : World) (K : PySem.W.Frag) : List DictEntry → List (Str × List Int) → Prop
  | nil : KRows w K [] []
  | cons {x : Str} {t : Tok} {ad : Addr} {ns : List Int} {es : List DictEntry} {rows : List (Str × List Int)} {h : Int} {its : Array Value} {n : Nat} {o : Obj} :
      h = hashStr w x → K.lookup ad = some o → o.cls = .type "tuple" → o.data = .seq its n → Vals (ns.map V.int) its.toList → ns.length ≤ 1000 → KRows w K es rows → KRows w K (⟨h, .str x t, .ref ad⟩ :: es) ((x, ns) :: rows)
def KTab (w : World) (K : PySem.W.Frag) (a : Addr) (rows : List (Str × List Int)) : Prop :=
  ∃ (o : Obj) (es : Array DictEntry) (ep : Nat), K.lookup a = some o ∧ o.cls = .type "dict" ∧ o.dict = none ∧ o.slots = #[] ∧ o.data = .dict es ep ∧ (a == sysModules) = false ∧ KRows w K es.toList rows ∧ (rows.map (·.1)).Nodup
theorem KTab.mk' {w : World} {K : PySem.W.Frag} {a : Addr} {rows : List (Str × List Int)} {o : Obj} {es : Array DictEntry} {ep : Nat} (lk : K.lookup a = some o) (c1 : o.cls = .type "dict") (c2 : o.dict = none) (c3 : o.slots = #[]) (c4 : o.data = .dict es ep) (sm : (a == sysModules) = false)
    (rw' : KRows w K es.toList rows) (nd : (rows.map (·.1)).Nodup) : KTab w K a rows := ⟨o, es, ep, lk, c1, c2, c3, c4, sm, rw', nd⟩
def rowOf (rows : List (Str × List Int)) (z : Str) : Option (List Int) := (rows.find? fun r => decide (r.1 = z)).map (·.2)
section
variable {P : Program} {w : World} {K : PySem.W.Frag}
theorem KRows.kvs : ∀ {es : List DictEntry} {rows : List (Str × List Int)}, KRows w K es rows → ∃ kvs : List (Key × Value), Pairs (mixKind P w) es kvs ∧ kvs.map (·.1) = rows.map (fun r => (Sum.inr r.1 : Key)) ∧
    (∀ e ∈ es, ∃ k, (mixKind P w).is k e.key = true ∧ e.hash = (mixKind P w).hash k) ∧
    ∀ z, (rowOf rows z = none → valueAt kvs (Sum.inr z) = none) ∧ ∀ ns, rowOf rows z = some ns → ∃ ad, valueAt kvs (Sum.inr z) = some (.ref ad) ∧ ∀ H, SqT K H ad (ns.map V.int)
  | _, _, .nil => ⟨[], .nil, rfl, fun e he => (by cases he), fun z => ⟨fun _ => rfl, fun ns e => by cases e⟩⟩
  | _, _, @KRows.cons _ _ x t ad ns es rows h its n o hh hl hc hdt hv hz hr => by
    obtain ⟨kvs, p, hk, ho, hf⟩ := KRows.kvs hr
    refine ⟨(Sum.inr x, .ref ad) :: kvs, .cons (mixKind_str P w x t) rfl p, by rw [List.map_cons, List.map_cons, hk], fun e he => ?_, fun z => ?_⟩
    · rcases List.mem_cons.mp he with e1 | he
      · subst e1
        exact ⟨Sum.inr x, mixKind_str P w x t, hh⟩
      · exact ho e he
    · by_cases hx : x = z
      · subst hx
        have e1 : rowOf ((x, ns) :: rows) x = some ns := by simp [rowOf]
        have e2 : valueAt ((Sum.inr x, Value.ref ad) :: kvs) (Sum.inr x : Key) = some (.ref ad) := by simp [valueAt]
        rw [e1, e2]
        refine ⟨fun e => by (cases e), fun ms e => ⟨ad, rfl, fun H => .inr ⟨_, its, n, hl, hc, hdt, ?_, ?_⟩⟩⟩
        · have := hv.length
          have hs : sizeLine = 16777216 := sizeLine_eq
          simp at this
          omega
        · cases e; exact hv
      · have e1 : rowOf ((x, ns) :: rows) z = rowOf rows z := by simp [rowOf, hx]
        have hx' : ¬ (Sum.inr x : Key) = Sum.inr z := fun q => hx (Sum.inr.inj q)
        have e2 : valueAt ((Sum.inr x, Value.ref ad) :: kvs) (Sum.inr z : Key) = valueAt kvs (Sum.inr z) := by simp [valueAt, hx']
        rw [e1, e2]
        exact hf z
theorem KTab.map {a : Addr} {rows : List (Str × List Int)} {h : Heap} (T : KTab w K a rows) (hk : K.In h) : ∃ f : Key → Option Value, h.MapOf (mixKind P w) a f ∧ (a == sysModules) = false ∧
    ∀ z, (rowOf rows z = none → f (Sum.inr z) = none) ∧ ∀ ns, rowOf rows z = some ns → ∃ ad, f (Sum.inr z) = some (.ref ad) ∧ ∀ H, SqT K H ad (ns.map V.int) := by
  obtain ⟨o, es, ep, hl, c1, c2, c3, c4, hs, hr, nd⟩ := T
  obtain ⟨kvs, p, hkk, ho, hf⟩ := hr.kvs (P := P)
  have D : h.DictOf (mixKind P w) a kvs := ⟨o, es, ep, hk a _ hl, ⟨c1, c2, c3⟩, c4, fun e he => ho e (by simpa using he), p, ?_⟩
  · exact ⟨_, D.mapOf, hs, hf⟩
  · rw [hkk]
    have : rows.map (fun r => (Sum.inr r.1 : Key)) = (rows.map (·.1)).map Sum.inr := by rw [List.map_map]; rfl
    rw [this]
    exact List.Pairwise.map _ (fun a b hab e => hab (Sum.inr.inj e)) nd
end
section
variable {X : Cx} {i o : Expr} {ty td : TE} {pos : Pos}
def tInK (w : World) (K : PySem.W.Frag) (ty td : TE) : TE := fun σ H Q => ty σ H fun y H1 => td σ H1 fun x H2 => ∃ a rows z, x = .ref a ∧ KTab w K a rows ∧ y = .str z ∧ Q (.bl (rowOf rows z).isSome) H2
theorem pc_inK (hi : PE X i ty) (ho : PE X o td) : PC X .In i o (tInK X.w X.K ty td) := by
  intro pins s σ H Q I h
  refine thn (hi pins s σ H _ I h) fun iv s1 ⟨y, H1, I1, ry, q1⟩ => thn (ho pins s1 σ H1 _ I1 q1) fun u s2 ⟨x, H2, I2, rx, a, rows, z, ex, T, ey, q2⟩ => ?_
  subst ex
  subst ey
  obtain rfl : u = Value.ref a := rx
  obtain ⟨t, rfl⟩ := ry
  obtain ⟨f, M, hs, hf⟩ := T.map (P := X.prog) I2.kIn
  refine wpAny_in_of (k := (Sum.inr z : Key)) (mixKind_str X.prog X.w z t) hs M ?_
  refine ⟨.bl (rowOf rows z).isSome, H2, I2.tok _, ?_, q2⟩
  cases e : rowOf rows z with
  | none => rw [(hf z).1 e]; rfl
  | some ns => obtain ⟨ad, e1, _⟩ := (hf z).2 ns e; rw [e1]; rfl
def rIxK (w : World) (K : PySem.W.Frag) : R2 := fun x y H Q => ∃ a rows z ns, x = .ref a ∧ KTab w K a rows ∧ y = .str z ∧ rowOf rows z = some ns ∧ ∀ ad, SqT K H ad (ns.map V.int) → Q (.ref ad) H
theorem ix_K : IxR X (rIxK X.w X.K) := by
  intro value slice pins s σ H x y v u Q I rx ry h hs
  obtain ⟨a, rows, z, ns, rfl, T, rfl, e, q⟩ := h
  cases rx
  obtain ⟨t, rfl⟩ := ry
  obtain ⟨f, M, hsm, hf⟩ := T.map (P := X.prog) I.kIn
  obtain ⟨ad, e1, e2⟩ := (hf z).2 ns e
  exact tail_any M.typeIs PySem.F.slot_dict_getitem.lookup (wpAny_getItem_of (k := (Sum.inr z : Key)) (mixKind_str X.prog X.w z t) M e1 ⟨.ref ad, H, I.tok _, rfl, q ad (e2 H)⟩) hs
theorem pe_getK (ho : PE X o td) (hi : PE X i ty) (hs : PlainIx i) : PE X (.Subscript o i pos) (tOp (rIxK X.w X.K) td ty) := pe_ix ix_K ho hi hs
end
/-! lists or tuples -/
def SqA (K : PySem.W.Frag) (H : Hp) (a : Addr) (xs : List V) : Prop := SqL K H a xs ∨ SqT K H a xs
theorem Same.seqT {K : PySem.W.Frag} {H H' : Hp} {a : Addr} {xs : List V} (e : Same H H') (h : SqT K H a xs) : SqT K H' a xs := by
  rcases h with (h | ⟨o, h⟩) | h
  · exact .inl (.inl (e _ _ h))
  · exact .inl (.inr ⟨o, e _ _ h⟩)
  · exact .inr h
theorem Same.seqA {K : PySem.W.Frag} {H H' : Hp} {a : Addr} {xs : List V} (e : Same H H') (h : SqA K H a xs) : SqA K H' a xs := h.elim (fun h => .inl (e.seq h)) fun h => .inr (e.seqT h)
/-- all but p is as it was -/
def But (p : Addr) (H H' : Hp) : Prop := ∀ b o, b ≠ p → H b = some o → H' b = some o
theorem But.refl {p : Addr} (H : Hp) : But p H H := fun _ _ _ e => e
theorem But.trans {p : Addr} {H H1 H2 : Hp} (a : But p H H1) (b : But p H1 H2) : But p H H2 := fun c o n e => b c o n (a c o n e)
theorem But.of_same {p : Addr} {H H1 : Hp} (a : Same H H1) : But p H H1 := fun c o _ e => a c o e
theorem But.write {p : Addr} {H : Hp} {o : HO} : But p H (upd H p o) := fun b u n e => by rw [upd_ne n]; exact e
theorem But.seqT {K : PySem.W.Frag} {H H' : Hp} {p a C dx : Addr} {fs : List (Str × V)} {xs : List V} (e : But p H H') (hp : H p = some (.ins C dx fs)) (h : SqT K H a xs) : SqT K H' a xs := by
  rcases h with (h | ⟨o, h⟩) | h
  · exact .inl (.inl (e _ _ (ne_of h hp (by intro z; cases z)) h))
  · exact .inl (.inr ⟨o, e _ _ (ne_of h hp (by intro z; cases z)) h⟩)
  · exact .inr h
theorem But.seqL {K : PySem.W.Frag} {H H' : Hp} {p a C dx : Addr} {fs : List (Str × V)} {xs : List V} (e : But p H H') (hp : H p = some (.ins C dx fs)) (h : SqL K H a xs) : SqL K H' a xs := by
  rcases h with (h | ⟨o, h⟩) | h
  · exact .inl (.inl (e _ _ (ne_of h hp (by intro z; cases z)) h))
  · exact .inl (.inr ⟨o, e _ _ (ne_of h hp (by intro z; cases z)) h⟩)
  · exact .inr h
theorem But.seqA {K : PySem.W.Frag} {H H' : Hp} {p a C dx : Addr} {fs : List (Str × V)} {xs : List V} (e : But p H H') (hp : H p = some (.ins C dx fs)) (h : SqA K H a xs) : SqA K H' a xs := h.elim (fun h => .inl (e.seqL hp h)) fun h => .inr (e.seqT hp h)
/-- tuple(x), x a list or a tuple -/
theorem tup_read {K : PySem.W.Frag} {H : Hp} {a : Addr} {xs : List V} {Q : VK} (h : SqA K H a xs) (k : ∀ H' u, Same H H' → SqT K H' u xs → Q (.ref u) H') :
    ∃ p ys, [V.ref a] = [.ref p] ∧ ((SqL K H p ys ∧ ∀ l, H l = none → Q (.ref l) (upd H l (.tup ys))) ∨ (SqT K H p ys ∧ Q (.ref p) H)) := by
  rcases h with h | h
  · exact ⟨a, xs, rfl, .inl ⟨h, fun l hl => k _ _ (same_new hl) (SqT.of upd_same)⟩⟩
  · exact ⟨a, xs, rfl, .inr ⟨h, k _ _ (Same.refl _) h⟩⟩
theorem call_tupA {X : Cx} : CallR X (.type "tuple") (fun xs H Q => ∃ a ys, xs = [.ref a] ∧ SqA X.K H a ys ∧ ∀ H' u, Same H H' → SqT X.K H' u ys → Q (.ref u) H') := by
  intro pins s σ H xs us Q I r h
  obtain ⟨a, ys, rfl, hq, q⟩ := h
  exact call_tuple_of pins s σ H _ us Q I r (tup_read hq q)
/-! a written argument that is not starred -/
section
variable {es : List Expr} {env : Env}
theorem star_Tuple {a b c} : starEach (.Tuple a b c :: es) env = (false, eval (.Tuple a b c) env) :: starEach es env := rfl
theorem star_List {a b} : starEach (.List a b :: es) env = (false, eval (.List a b) env) :: starEach es env := rfl
theorem star_Constant {a b c} : starEach (.Constant a b c :: es) env = (false, eval (.Constant a b c) env) :: starEach es env := rfl
theorem star_Name {a b} : starEach (.Name a b :: es) env = (false, eval (.Name a b) env) :: starEach es env := rfl
theorem star_Call {a b c d} : starEach (.Call a b c d :: es) env = (false, eval (.Call a b c d) env) :: starEach es env := rfl
theorem star_BinOp {a b c d} : starEach (.BinOp a b c d :: es) env = (false, eval (.BinOp a b c d) env) :: starEach es env := rfl
theorem star_Attribute {a b c} : starEach (.Attribute a b c :: es) env = (false, eval (.Attribute a b c) env) :: starEach es env := rfl
theorem star_Subscript {a b c} : starEach (.Subscript a b c :: es) env = (false, eval (.Subscript a b c) env) :: starEach es env := rfl
theorem star_ListComp {a b c d} : starEach (.ListComp a b c d :: es) env = (false, eval (.ListComp a b c d) env) :: starEach es env := rfl
theorem star_Compare {a b c d} : starEach (.Compare a b c d :: es) env = (false, eval (.Compare a b c d) env) :: starEach es env := rfl
theorem star_BoolOp {a b c} : starEach (.BoolOp a b c :: es) env = (false, eval (.BoolOp a b c) env) :: starEach es env := rfl
theorem star_IfExp {a b c d} : starEach (.IfExp a b c d :: es) env = (false, eval (.IfExp a b c d) env) :: starEach es env := rfl
end
/-! rules within a comprehension's block, read over the block's outside -/
section
variable {X : Cx} {scope : Scope} {x : Str} {js : List Nat} {cl : List (Str × Addr)} {C : Addr} {s : Shared} {H : Hp} {ex : List Addr}
end
/-! lists of tuples of written constants -/
/-- new tuples, each with its items -/
def Tups (H : Hp) : List Addr → List (List V) → Prop := Paired fun r vs => H r = some (.tup vs)
theorem Tups.same {H H' : Hp} (s : Same H H') : ∀ {rs : List Addr} {vss : List (List V)}, Tups H rs vss → Tups H' rs vss
  | _, _, .nil => .nil
  | _, _, .cons h t => .cons (s _ _ h) (Tups.same s t)
theorem Tups.append {H : Hp} : ∀ {rs rs' : List Addr} {vss vss' : List (List V)}, Tups H rs vss → Tups H rs' vss' → Tups H (rs ++ rs') (vss ++ vss')
  | _, _, _, _, .nil, q => q
  | _, _, _, _, .cons h t, q => .cons h (Tups.append t q)
section
variable {X : Cx}
end
end L2
set_option Elab.async false
set_option linter.all false
set_option maxRecDepth 100000
set_option Elab.async false
set_option maxHeartbeats 4000000
/-! ### own rules: enumerate(a list) -/
namespace L2
open PySem PySem.Spec PyProof.Rows
/-- the list at a with its places: a new tuple at each turn -/
def Iten (K : PySem.W.Frag) (a : Addr) : It :=
  ⟨fun i H => ∃ xs x, SqL K H a xs ∧ xs[i]? = some x, fun i H v H' => ∃ u y, H u = none ∧ v = .ref u ∧ H' = upd H u (.tup [.int (i : Nat), y]) ∧ ∀ xs, SqL K H a xs → xs[i]? = some y, fun i H => ∃ xs, SqL K H a xs ∧ xs.length ≤ i⟩
theorem turn_enum {P : Program} {w : World} {K : PySem.W.Frag} {elts : List Expr} {x1 : _} {tpos : Pos} (a e it : Addr) (hne : e ≠ it) :
    Turn P w K (.Tuple elts x1 tpos) (Iten K a) [e, it] e (fun i h => (∃ old, IsEnum h e it ((i : Nat) : Int) old) ∧ h.IsListIter it a i) where
  mem := by simp
  obj := fun i h st b hb => by
    obtain ⟨⟨old, he⟩, hit⟩ := st
    have hb' : b = e ∨ b = it := by simpa using hb
    rcases hb' with z | z
    · subst z
      exact ⟨_, he, fun v z => by cases z⟩
    · subst z
      obtain ⟨o, e1, c, d⟩ := hit
      exact ⟨o, e1, fun v z => by rw [d] at z; cases z⟩
  keep := fun i h h' st k => by
    obtain ⟨⟨old, he⟩, hit⟩ := st
    exact ⟨⟨old, k e (by simp) _ he⟩, hit.at fun o e1 => k it (by simp) o e1⟩
  item := by
    intro X hP hw hK hc i pins s σ H E I hf st hg
    subst hP hw hK
    obtain ⟨⟨old, he⟩, hit⟩ := st
    obtain ⟨xs, x, hq, hx⟩ := hg
    obtain ⟨its, rv, p, hz⟩ := I.list hq
    obtain ⟨u, hu, ru⟩ := rv.get hx
    obtain ⟨f0, f1, f2, f3, f4, f5⟩ := hf it (by simp)
    obtain ⟨g0, g1, g2, g3, g4, g5⟩ := hf e (by simp)
    refine wpAny_pyNext_enum_item he hit p.isList (x := u) (by simpa using hu) hne fun h1 heo hit1 ht1 hz1 hk1 => ?_
    refine ⟨_, rfl, wpAny_letOwnedTupleGo_enum heo fun h2 he2 hs2 => ?_⟩
    have hs2' : Heap.SameBut e h1 h2 := hs2
    have heS : e < s.heap.objs.size := Heap.lt_size he
    have hnE : s.heap.objs.size ≠ e := Nat.ne_of_gt heS
    have kp : ∀ b o, b ≠ e → b ≠ it → s.heap.get? b = some o → h2.get? b = some o := fun b o n1 n2 q => (hs2'.2 b n1).trans (hk1 b o n1 n2 q)
    have nn : ∀ b o, s.heap.get? b = some o → b ≠ s.heap.objs.size := fun b o q => Nat.ne_of_lt (Heap.lt_size q)
    have hfr : H s.heap.objs.size = none := I.hok.fresh (Nat.le_refl _)
    have tupN : h2.get? s.heap.objs.size = some { cls := .type "tuple", data := .seq #[.int i s.toks, u] } := (hs2'.2 _ hnE).trans ht1
    have tr : ∀ b o, H b = some o → b ≠ e ∧ b ≠ it := fun b o q => ⟨fun z => (by rw [z, g0] at q; cases q), fun z => (by rw [z, f0] at q; cases q)⟩
    have ok2 : HOk X.prog X.w (upd H s.heap.objs.size (.tup [.int (i : Nat), x])) h2 := fun b o q => by
      by_cases hb : b = s.heap.objs.size
      · rw [hb, upd_same] at q
        cases q
        rw [hb]
        exact ⟨by show 2 ≤ sizeLine; decide, [.int i s.toks, u], .cons ⟨_, rfl⟩ (.cons ru .nil), ⟨_, tupN, rfl, _, rfl⟩⟩
      · rw [upd_ne hb] at q
        refine (I.hok b o q).stay (fun c v hc q' => ?_) (fun c q' => by rw [upd_ne (ne_of_none q' hfr)]; exact q') fun c ys q' => by rw [upd_ne (ne_of_none q' hfr)]; exact q'
        rcases hc with z | z
        · rw [z] at q' ⊢
          exact kp _ _ (tr _ _ q).1 (tr _ _ q).2 q'
        · exact kp _ _ (tr _ _ z).1 (tr _ _ z).2 q'
    refine ⟨.ref s.heap.objs.size, upd H s.heap.objs.size (.tup [.int (i : Nat), x]), ?_, rfl, ⟨_, x, hfr, rfl, rfl, fun ys hy => by rw [I.list_inj hy hq]; exact hx⟩, ⟨⟨_, by simpa using he2⟩, hit1.at fun o e1 => (hs2'.2 _ (Ne.symm hne)).trans e1⟩, fun b hb => ?_⟩
    · show Inv X pins σ (upd H s.heap.objs.size (.tup [.int (i : Nat), x])) { s with heap := h2, gens := s.gens, drawn := s.drawn, toks := s.toks + 1 }
      refine I.step (g' := s.gens) (d' := s.drawn) (t' := s.toks + 1) (ch := [e, it]) (fun b hb => ?_) (fun b o _ _ hc q _ => kp b o (fun z => hc (by simp [z])) (fun z => hc (by simp [z])) q)
        (fun b o _ _ hc q _ => ⟨o.slots, kp b o (fun z => hc (by simp [z])) (fun z => hc (by simp [z])) q⟩) (fun b o _ q n => by rw [upd_ne (nn b o q)]; exact n)
        (fun b o hc q => ⟨o, kp b o (fun z => hc (by simp [z])) (fun z => hc (by simp [z])) q⟩) (fun b ys q => by rw [upd_ne (ne_of_none q hfr)]; exact q) (fun b o ys q => by rw [upd_ne (ne_of_none q hfr)]; exact q)
        (fun b ps q => ⟨#[], by rw [upd_ne (ne_of_none q hfr), q]; simp⟩) (fun m hm => ?_) ok2 I.bare
      · have hb' : b = e ∨ b = it := by simpa using hb
        rcases hb' with z | z
        · subst z; exact ⟨g3, g1, g4, g5⟩
        · subst z; exact ⟨f3, f1, f4, f5⟩
      · obtain ⟨o, es, ep, ho, r⟩ := hm
        exact ⟨o, es, ep, kp _ o (Ne.symm g1) (Ne.symm f1) ho, r⟩
    · have hb' : b = e ∨ b = it := by simpa using hb
      rcases hb' with z | z
      · subst z; rw [upd_ne (Ne.symm hnE)]; exact g0
      · subst z
        obtain ⟨o, e1, _⟩ := hit
        rw [upd_ne (nn _ o e1)]; exact f0
  done := by
    intro X hP hw hK hc i pins s σ H E I hf st hg
    subst hP hw hK
    obtain ⟨⟨old, he⟩, hit⟩ := st
    obtain ⟨xs, hq, hx⟩ := hg
    obtain ⟨its, rv, p, hz⟩ := I.list hq
    obtain ⟨f0, f1, f2, f3, f4, f5⟩ := hf it (by simp)
    have hl := rv.length
    exact wpAny_pyNext_enum_end (I.ok.hd hc) he hit p.isList (by simp; omega) fun h' eb => ⟨rfl, I.turned (t' := s.toks) (fun b o hb e => eb b o hb e) f0 f1 f3 f4 f5⟩
  self := fun _ _ _ _ _ st h => by
    obtain ⟨⟨old, he⟩, _⟩ := st
    exact wpAny_pyIter_enum he h
section
variable {X : Cx}
theorem bt_enumerate : bootBuiltins "enumerate" = some (.type "enumerate") := by decide +kernel
def iEnum (K : PySem.W.Frag) (ta : TA) : TI := fun σ H R => ta σ H fun vs H1 => ∃ a, vs = [.ref a] ∧ (∃ xs, SqL K H1 a xs) ∧ R (Iten K a) H1
theorem pi_enum {l : Expr} {ta : TA} {p pos tpos : Pos} {elts : List Expr} {x1 : _} (hg : Gl X "enumerate") (hm : X.mg "enumerate" = none) (ha : PA X [l] ta) (hs : starEach [l] X.env = [(false, eval l X.env)] := by rfl) :
    PI X (.Tuple elts x1 tpos) (.Call (.Name "enumerate" p) [l] [] pos) (iEnum X.K ta) := by
  intro pins s σ H R I h
  refine Call_ (ld_blt I hg hm bt_enumerate (PyProof.Rows.callWith_type1 (thn (ha pos pins s σ H _ I h) fun us s1 ⟨vs, H1, I1, r1, q1⟩ => ?_) hs rfl))
  obtain ⟨a, e, ⟨xs, hq⟩, q⟩ := q1
  subst e
  obtain ⟨u, rfl, ru⟩ := vals1 r1
  cases ru
  obtain ⟨its, rv, pl, hz⟩ := I1.list hq
  refine call_enumerate_list pl.isList fun h' he hit hz' kp => wpAny_pyIter_enum he ?_
  have I2 : Inv X pins σ H1 { s1 with heap := h' } := I1.kept (t' := s1.toks) kp
  refine ⟨s1.heap.objs.size + 1, [s1.heap.objs.size + 1, s1.heap.objs.size], _, _, H1, rfl, I2, turn_enum a _ _ (Nat.ne_of_gt (Nat.lt_succ_self _)), ⟨⟨_, he⟩, hit⟩, fun b hb => ?_, q⟩
  have hb' : b = s1.heap.objs.size + 1 ∨ b = s1.heap.objs.size := by simpa using hb
  rcases hb' with z | z <;> subst z
  · exact I1.fpOk (Nat.le_succ _) (I1.hok.fresh (Nat.le_succ _))
  · exact I1.fpOk (Nat.le_refl _) (I1.hok.fresh (Nat.le_refl _))
theorem for_enum {K : PySem.W.Frag} {a : Addr} {xs : List V} {g : TG} {tb : TS} {D : Ends} {σ : St} {H : Hp} (Pv : Nat → St → Hp → Prop) (h0 : Pv 0 σ H) (hl : ∀ i σ H, i ≤ xs.length → Pv i σ H → SqL K H a xs)
    (hs : ∀ i x σ H, xs[i]? = some x → Pv i σ H → ∀ u, H u = none → g (.ref u) σ (upd H u (.tup [.int (i : Nat), x])) fun σ' H' => tb { D with nx := Pv (i + 1), ct := Pv (i + 1), bk := D.nx } σ' H') (hd : ∀ σ H, Pv xs.length σ H → D.nx σ H) :
    ∃ W : Nat → Nat → St → Hp → Prop, (∃ m, W 0 m σ H) ∧ ∀ i m σ H, W i m σ H →
      ((Iten K a).stop i H ∧ D.nx σ H) ∨ ((Iten K a).go i H ∧ ∃ N : St → Hp → Prop, (∀ σ' H', N σ' H' → ∃ m', m' < m ∧ W (i + 1) m' σ' H') ∧ ∀ x H', (Iten K a).yld i H x H' → g x σ H' fun σ' H2 => tb { D with nx := N, ct := N, bk := D.nx } σ' H2) := by
  refine ⟨fun i m σ H => m = xs.length - i ∧ i ≤ xs.length ∧ Pv i σ H, ⟨xs.length, by simp, Nat.zero_le _, h0⟩, ?_⟩
  rintro i m σ H ⟨rfl, hi, p⟩
  have q := hl i σ H hi p
  by_cases hlt : i < xs.length
  · refine .inr ⟨⟨xs, xs[i], q, by simp [hlt]⟩, Pv (i + 1), fun σ' H' p' => ⟨xs.length - (i + 1), by omega, rfl, hlt, p'⟩, fun x H' y => ?_⟩
    obtain ⟨u, z, hu, ex, eH, hy⟩ := y
    subst ex eH
    exact hs i z σ H (hy xs q) p u hu
  · have e : i = xs.length := by omega
    subst e
    exact .inl ⟨⟨xs, q, Nat.le_refl _⟩, hd σ H p⟩
end
end L2
set_option Elab.async false
set_option linter.all false
set_option maxRecDepth 100000
set_option Elab.async false
set_option maxHeartbeats 4000000
/-! ### own rules: exceptions, the first half: how one lies behind a call, passes a frame, is raised -/
namespace L2
open PySem PySem.Spec PyProof.Rows
section
variable {P : Program} {w : World} {K : PySem.W.Frag} {mg : Str → Option Value} {base : Heap} {N : List Str} {qual : Str} {scope : Scope} {f : Addr} {cd : Value} {A : Around} {outer : List Env} {s : Shared} {H : Hp} {E : XK}
end
section
variable {P : Program} {w : World} {K : PySem.W.Frag} {mg : Str → Option Value} {base : Heap} {N : List Str} {qual : Str} {scope : Scope} {f : Addr} {cd : Value} {A : Around} {outer : List Env} {s : Shared} {H : Hp} {E : XK}
end
/-! a try: the exception lands in its frame -/
section
variable {X : Cx} {pins : List (Addr × Obj)} {σ : St} {H : Hp} {s : Shared} {E : Value → Shared → Prop}
end
section
variable {X : Cx} {pins : List (Addr × Obj)} {σ : St} {H : Hp} {s : Shared}
end
end L2
set_option Elab.async false
set_option linter.all false
set_option maxRecDepth 100000
set_option Elab.async false
set_option maxHeartbeats 4000000
/-! ### own rules: own exception classes as the text has made them, isinstance of a caught exception, min of three -/
namespace L2
open PySem PySem.Spec PyProof.Rows
section
variable {prog : Program} {w : World} {A : Around} {E : Value → Shared → Prop} {h : Heap} {g : Array GenState} {d : Drawn} {t : Nat} {os : OsState} {a : Addr} {o : Obj} {C : Addr}
end
section
variable {P : Program} {w : World} {K : PySem.W.Frag} {mg : Str → Option Value} {base : Heap}
end
end L2
set_option Elab.async false
set_option linter.all false
set_option maxRecDepth 100000
set_option Elab.async false
set_option maxHeartbeats 4000000
/-! ### own rules, begun: an own exception class with an __init__ of its own (imports PyProof.ExcInit, PyProof.ExcClass2) -/
namespace L2
open PySem
section
variable {prog : Program} {w : World} {A : Around} {E : Value → Shared → Prop} {h : Heap} {g : Array GenState} {d : Drawn} {t : Nat} {os : OsState}
variable {nm q : Str} {C N : Addr} {bs bm bmB : List Value} {hdct : Bool} {sn : List Str} {sub : List Value} {ab : Bool} {col : Option Bool} {dd : Option Addr} {k0 k1 k2 k3 k5 : Option Value} {B newId initId : String}
end
end L2
namespace L2
open PySem
section
variable {prog : Program} {w : World} {A : Around} {E : Value → Shared → Prop} {h : Heap} {g : Array GenState} {d : Drawn} {t : Nat} {os : OsState}
variable {nm q : Str} {C N : Addr} {bs bm bmB : List Value} {hdct : Bool} {sn : List Str} {sub : List Value} {ab : Bool} {col : Option Bool} {dd : Option Addr} {k0 k1 k2 k3 k5 : Option Value} {B newId initId : String}
end
end L2
namespace L2
open PySem Builtin Builtin.ObjectAttr
section
variable {prog : Program} {w : World} {A : Around} {E : Value → Shared → Prop} {h : Heap} {g : Array GenState} {d : Drawn} {t : Nat} {os : OsState} {x C : Addr} {K : PySem.W.Frag} {mA : Str → Option Value} {name : Str} {v : Value}
end
end L2
set_option Elab.async false
set_option linter.all false
set_option maxRecDepth 100000
set_option Elab.async false
set_option maxHeartbeats 4000000
/-! ### own exceptions with fields: made, read -/
namespace L2
open PySem PySem.Spec PyProof.Rows
section
variable {X : Cx} {pins : List (Addr × Obj)} {σ : St} {H : Hp} {s : Shared} {a C dx : Addr} {fs : List (Str × V)} {f : Str} {v : V} {A : Around} {E : Value → Shared → Prop}
end
section
variable {X : Cx} {e o value : Expr} {f : Str} {pos pos' : Pos} {ta tv : TE}
end
end L2
/-! ### own exceptions with an own __init__: the class, the base's __init__ by hand, C(..) -/
namespace L2
open PySem PySem.Spec PyProof.Rows
section
variable {X : Cx} {CX : CXT} {k : Nat} {C B f : Addr} {fd : FuncData} {ps : List Str} {sp : Sp} {E : XK} {x : Str} {p pos apos : Pos} {e : Expr} {es : List Expr} {t : TA}
end
end L2
namespace L2
open PySem PySem.Spec PyProof.Rows
section
variable {X : Cx} {CX : CXT} {k : Nat} {C f : Addr} {fd : FuncData} {ps : List Str} {sp : Sp} {E : XK} {x : Str} {p pos : Pos} {e : Expr} {es : List Expr} {t : TA}
end
end L2
namespace L2
open PySem PySem.Spec PyProof.Rows
section
variable {X : Cx} {C : Addr} {x : Str} {p pos : Pos} {e : Expr} {es : List Expr} {t : TA}
end
end L2
/-! ### what is asked of an own exception class, in one look -/
namespace L2
open PySem
end L2
set_option Elab.async false
set_option linter.all false
set_option maxRecDepth 100000
set_option Elab.async false
set_option maxHeartbeats 4000000
/-! ### own rules: exceptions with fields in flight: no step of a flight moves a dict -/
namespace L2
open PySem
end L2
/-! ### exceptions with fields: raised, passed on, caught by one of several handlers -/
namespace L2
open PySem PySem.Spec PyProof.Rows
section
variable {P : Program} {w : World} {K : PySem.W.Frag} {mg : Str → Option Value} {base : Heap} {N : List Str} {qual : Str} {scope : Scope} {f : Addr} {cd : Value} {A : Around} {outer : List Env} {s : Shared} {H : Hp} {E : XK}
end
/-! the statement 'raise C(..)' of a class with an own __init__ -/
section
variable {M : Model} {A : Around} {E : Value → Shared → Prop} {s : Shared} {env : Env} {nm q : Str} {C N : Addr} {bs bm : List Value} {hdct : Bool} {sn : List Str} {sub : List Value} {ab : Bool} {col : Option Bool} {dd : Option Addr} {k0 k1 k2 k3 k5 : Option Value} {newId : String}
end
section
variable {P : Program} {w : World} {K : PySem.W.Frag} {mg : Str → Option Value} {base : Heap} {N : List Str} {qual : Str} {scope : Scope} {f : Addr} {cd : Value} {A : Around} {outer : List Env} {s : Shared} {H : Hp} {E : XK}
end
end L2
/-! a try with several handlers -/
namespace L2
open PySem PySem.Spec PyProof.Rows
section
variable {M : Model} {A : Around} {E : Value → Shared → Prop} {nm q : Str} {C N : Addr} {bs bm : List Value} {hdct : Bool} {sn : List Str} {sub : List Value} {ab : Bool} {col : Option Bool} {dd : Option Addr} {k0 k1 k2 k3 k5 : Option Value} {newId : String}
end
section
variable {P : Program} {w : World} {K : PySem.W.Frag} {mg : Str → Option Value} {base : Heap}
end
end L2
set_option Elab.async false
set_option linter.all false
set_option maxRecDepth 100000
set_option Elab.async false
set_option maxHeartbeats 4000000
/-! ### own rules: isinstance of an own object -/
namespace L2
open PySem PySem.Spec PyProof.Rows
/-! ### going over a list or a tuple -/
theorem comp_tup {js : List Nat} {tt : TT} {te : TE} {σ : St} {Qd : List V → Hp → Prop} {K : PySem.W.Frag} {a : Addr} {xs : List V} {H : Hp} (Pv : Nat → List V → Hp → Prop) (hn : xs.length ≤ sizeLine) (h0 : Pv 0 [] H) (hl : ∀ i ys H, Pv i ys H → ys.length ≤ i) (hq : ∀ i ys H, i ≤ xs.length → Pv i ys H → SqT K H a xs)
    (hs : ∀ i x ys H, xs[i]? = some x → Pv i ys H → tt (some x :: valsAt σ js) H fun b H4 => if b = true then te (some x :: valsAt σ js) H4 fun y H5 => Pv (i + 1) (ys ++ [y]) H5 else Pv (i + 1) ys H4)
    (hd : ∀ ys H, Pv xs.length ys H → Qd ys H) : CompEnd js tt te σ Qd (Itt K a) H := by
  refine ⟨fun i m ys H => m = xs.length - i ∧ i ≤ xs.length ∧ Pv i ys H, ⟨xs.length, by simp, Nat.zero_le _, h0⟩, ?_⟩
  rintro i m ys H ⟨rfl, hi, p⟩
  have hlen := hl i ys H p
  have q := hq i ys H hi p
  by_cases hlt : i < xs.length
  · refine .inr ⟨⟨xs, xs[i], q, by simp [hlt]⟩, by omega, Pv (i + 1), fun ys' H' p' => ⟨xs.length - (i + 1), by omega, rfl, hlt, p'⟩, fun x H' y => ?_⟩
    obtain ⟨e, y⟩ := y
    subst e
    exact hs i x ys _ (y xs q) p
  · have e : i = xs.length := by omega
    subst e
    exact .inl ⟨⟨xs, q, Nat.le_refl _⟩, by omega, hd ys H p⟩
theorem ix_listK {X : Cx} {K : PySem.W.Frag} (hK : X.K = K) : IxR X (rIxL K) := by subst hK; exact ix_list
theorem ix_tupK {X : Cx} {K : PySem.W.Frag} (hK : X.K = K) : IxR X (rIxT K) := by subst hK; exact ix_tup
end L2
set_option Elab.async false
set_option linter.all false
set_option maxRecDepth 100000
set_option Elab.async false
set_option maxHeartbeats 4000000
/-! ### exceptions with and without fields beside one another: raised without, caught either way -/
namespace L2
open PySem PySem.Spec PyProof.Rows
section
variable {P : Program} {w : World} {K : PySem.W.Frag} {mg : Str → Option Value} {base : Heap} {N : List Str} {qual : Str} {scope : Scope} {f : Addr} {cd : Value} {A : Around} {outer : List Env} {s : Shared} {H : Hp} {E : XK}
end
end L2
set_option Elab.async false
set_option linter.all false
set_option maxRecDepth 100000
set_option Elab.async false
set_option maxHeartbeats 4000000
namespace L2
open PySem PySem.Spec PyProof.Rows
/-! ### lists of pairs as tables -/
section
variable {κ : Type} [DecidableEq κ]
def valV (kvs : List (κ × V)) (k : κ) : Option V := (kvs.find? fun kv => decide (kv.1 = k)).map (·.2)
/-- in its place, or at the end -/
def putK (kvs : List (κ × V)) (k : κ) (v : V) : List (κ × V) :=
  if (kvs.any fun kv => decide (kv.1 = k)) = true then kvs.map (fun kv => if kv.1 = k then (kv.1, v) else kv) else kvs ++ [(k, v)]
theorem valV_pos {p : κ × V} {r : List (κ × V)} {k : κ} (e : p.1 = k) : valV (p :: r) k = some p.2 := by simp [valV, List.find?_cons, e]
theorem valV_neg {p : κ × V} {r : List (κ × V)} {k : κ} (e : ¬ p.1 = k) : valV (p :: r) k = valV r k := by simp [valV, List.find?_cons, e]
theorem valV_any (k : κ) : ∀ kvs : List (κ × V), (kvs.any fun kv => decide (kv.1 = k)) = (valV kvs k).isSome
  | [] => rfl
  | p :: r => by
    rw [List.any_cons]
    by_cases e : p.1 = k
    · simp only [valV_pos e, decide_eq_true e, Bool.true_or, Option.isSome_some]
    · rw [valV_neg e, decide_eq_false e, Bool.false_or]; exact valV_any k r
theorem length_putK (kvs : List (κ × V)) (k : κ) (v : V) : (putK kvs k v).length ≤ kvs.length + 1 := by
  unfold putK
  split
  · rw [List.length_map]; omega
  · rw [List.length_append, List.length_cons, List.length_nil]; omega
theorem RelO.isSome_eq {o : Option V} {u : Option Value} (r : RelO o u) : o.isSome = u.isSome := by
  cases o with
  | none => cases u with
    | none => rfl
    | some _ => exact (show False from r).elim
  | some _ => cases u with
    | none => exact (show False from r).elim
    | some _ => rfl
theorem RelO.getD {o : Option V} {u : Option Value} {d : V} {d' : Value} (r : RelO o u) (rd : RelV d d') : RelV (o.getD d) (u.getD d') := by
  cases o with
  | none => cases u with
    | none => exact rd
    | some _ => exact (show False from r).elim
  | some _ => cases u with
    | none => exact (show False from r).elim
    | some _ => exact r
/-- raw tables of the same keys -/
theorem KV.val {kvs : List (κ × V)} {vs : List (κ × Value)} (r : KV kvs vs) (k : κ) : RelO (valV kvs k) (valueAt vs k) := by
  unfold KV at r
  induction r with
  | nil => exact True.intro
  | @cons p q ps qs h t ih =>
    obtain ⟨h1, h2⟩ := h
    by_cases e : p.1 = k
    · have e' : q.1 = k := h1.symm.trans e
      have b : valueAt (q :: qs) k = some q.2 := by simp [valueAt, List.find?_cons, e']
      rw [valV_pos e, b]; exact h2
    · have e' : ¬ q.1 = k := fun z => e (h1.trans z)
      have b : valueAt (q :: qs) k = valueAt qs k := by simp [valueAt, List.find?_cons, e']
      rw [valV_neg e, b]; exact ih
theorem KV.any {kvs : List (κ × V)} {vs : List (κ × Value)} (r : KV kvs vs) (k : κ) : (kvs.any fun kv => decide (kv.1 = k)) = vs.any fun kv => decide (kv.1 = k) := by
  unfold KV at r
  induction r with
  | nil => rfl
  | cons h t ih => rw [List.any_cons, List.any_cons, ih, h.1]
theorem KV.repl {kvs : List (κ × V)} {vs : List (κ × Value)} (r : KV kvs vs) (k : κ) {y : V} {u : Value} (ry : RelV y u) :
    KV (kvs.map fun kv => if kv.1 = k then (kv.1, y) else kv) (vs.map fun kv => if kv.1 = k then (kv.1, u) else kv) := by
  unfold KV at r ⊢
  induction r with
  | nil => exact .nil
  | @cons p q ps qs h t ih =>
    rw [List.map_cons, List.map_cons]
    refine .cons ?_ ih
    obtain ⟨h1, h2⟩ := h
    by_cases e : p.1 = k
    · rw [if_pos e, if_pos (h1.symm.trans e)]; exact ⟨h1, ry⟩
    · rw [if_neg e, if_neg (fun z => e (h1.trans z))]; exact ⟨h1, h2⟩
theorem KV.put {kvs : List (κ × V)} {vs : List (κ × Value)} (r : KV kvs vs) (k : κ) {y : V} {u : Value} (ry : RelV y u) : KV (putK kvs k y) (stored vs k u) := by
  unfold putK stored
  rw [r.any k]
  by_cases e : (vs.any fun kv => decide (kv.1 = k)) = true
  · rw [if_pos e, if_pos e]; exact r.repl k ry
  · rw [if_neg e, if_neg e]; exact Paired.snoc r ⟨rfl, ry⟩
theorem KV.length {kvs : List (κ × V)} {vs : List (κ × Value)} (r : KV kvs vs) : kvs.length = vs.length := Paired.length r
end
/-! ### a tracked dict, its keys ints and texts or tuples of these -/
theorem kV_is {P : Program} {w : World} {k : Key} {u : Value} (r : RelV (kV k) u) : (mixKind P w).is k u = true := by
  cases k with
  | inl i => obtain ⟨t, e⟩ := (show ∃ t, u = Value.int i t from r); subst e; exact mixKind_int P w i t
  | inr x => obtain ⟨t, e⟩ := (show ∃ t, u = Value.str x t from r); subst e; exact mixKind_str P w x t
theorem items_are {P : Program} {w : World} : ∀ {ks : List Key} {us : List Value}, Vals (ks.map kV) us → ItemsAre (mixKind P w) ks us
  | [], _, r => by rw [List.map_nil] at r; cases r; exact .nil
  | k :: ks, _, r => by
    rw [List.map_cons] at r
    cases r with
    | cons h t => exact .cons (kV_is h) (items_are t)
/-- raw entries of a dict with tuple keys -/
abbrev KT (H : Hp) : List (List Key × V) → List (List Key × Addr × Value) → Prop := Paired fun p q => p.1 = q.1 ∧ H q.2.1 = some (.tup (p.1.map kV)) ∧ RelV p.2 q.2.2
theorem KT.val {H : Hp} {kvs : List (List Key × V)} {xs : List (List Key × Addr × Value)} (r : KT H kvs xs) (k : List Key) : RelO (valV kvs k) ((atKey xs k).map (·.2)) := by
  induction r with
  | nil => exact True.intro
  | @cons p q ps qs h t ih =>
    obtain ⟨h1, _, h2⟩ := h
    by_cases e : p.1 = k
    · have e' : q.1 = k := h1.symm.trans e
      have b : atKey (q :: qs) k = some q.2 := by simp [atKey, List.find?_cons, e']
      rw [valV_pos e, b]; exact h2
    · have e' : ¬ q.1 = k := fun z => e (h1.trans z)
      have b : atKey (q :: qs) k = atKey qs k := by simp [atKey, List.find?_cons, e']
      rw [valV_neg e, b]; exact ih
theorem KT.repl {H : Hp} {kvs : List (List Key × V)} {xs : List (List Key × Addr × Value)} (r : KT H kvs xs) (k : List Key) {y : V} {u : Value} (ry : RelV y u) :
    KT H (kvs.map fun kv => if kv.1 = k then (kv.1, y) else kv) (xs.map (putAt k u)) := by
  induction r with
  | nil => exact .nil
  | @cons p q ps qs h t ih =>
    rw [List.map_cons, List.map_cons]
    refine .cons ?_ ih
    obtain ⟨h1, h2, h3⟩ := h
    unfold putAt
    by_cases e : p.1 = k
    · rw [if_pos e, if_pos (h1.symm.trans e)]; exact ⟨h1, h2, ry⟩
    · rw [if_neg e, if_neg (fun z => e (h1.trans z))]; exact ⟨h1, h2, h3⟩
theorem KT.put {H : Hp} {kvs : List (List Key × V)} {xs : List (List Key × Addr × Value)} (r : KT H kvs xs) (k : List Key) {b : Addr} {y : V} {u : Value} (hb : H b = some (.tup (k.map kV))) (ry : RelV y u) :
    KT H (putK kvs k y) (storedH xs k b u) := by
  have e : (kvs.any fun kv => decide (kv.1 = k)) = (atKey xs k).isSome := by
    rw [valV_any, (r.val k).isSome_eq, Option.isSome_map]
  unfold putK storedH
  rw [e]
  by_cases q : (atKey xs k).isSome = true
  · rw [if_pos q, if_pos q]; exact r.repl k ry
  · rw [if_neg q, if_neg q]; exact Paired.snoc r ⟨rfl, hb, ry⟩
theorem KT.keeps {H H' : Hp} {kvs : List (List Key × V)} {xs : List (List Key × Addr × Value)} (r : KT H kvs xs) (ht : ∀ b ys, H b = some (.tup ys) → H' b = some (.tup ys)) : KT H' kvs xs :=
  Paired.mapP r fun _ _ z => ⟨z.1, ht _ _ z.2.1, z.2.2⟩
section
variable {P : Program} {w : World} {H : Hp} {h : Heap} {a : Addr}
theorem rd_of {u : HO} (ok : HOk P w H h) (e : Rd H a u) : ObjOk P w H h a u := e.ok ok
theorem dk_rd {kvs : List (Key × V)} (ok : HOk P w H h) (e : Rd H a (.dK kvs)) : kvs.length ≤ sizeLine ∧ (a == sysModules) = false ∧ ∃ vs, KV kvs vs ∧ h.DictOf (mixKind P w) a vs :=
  show ObjOk P w H h a (.dK kvs) from rd_of ok e
theorem dk_of {kvs : List (Key × V)} (ok : HOk P w H h) (e : H a = some (.dK kvs)) : kvs.length ≤ sizeLine ∧ (a == sysModules) = false ∧ ∃ vs, KV kvs vs ∧ h.DictOf (mixKind P w) a vs := dk_rd ok (.inl e)
/-- a tracked tuple of ints and texts is a key -/
theorem key_of {ks : List Key} (ok : HOk P w H h) (e : H a = some (.tup (ks.map kV))) : (tupleKind (mixKind P w)).is h ks a := by
  obtain ⟨_, its, r, o, h1, h2, n, h3⟩ := (show ObjOk P w H h a (.tup (ks.map kV)) from ok a _ e)
  exact ⟨o, its.toArray, n, h1, h2, h3, by simpa using items_are r⟩
theorem dt_rd {kvs : List (List Key × V)} (ok : HOk P w H h) (e : Rd H a (.dT kvs)) : kvs.length ≤ sizeLine ∧ (a == sysModules) = false ∧
    ∃ xs, KT H kvs xs ∧ h.DictOfH (tupleKind (mixKind P w)) a xs := by
  obtain ⟨z, y, xs, r, o, es, ep, h1, h2, h3, h4, h5⟩ := (show ObjOk P w H h a (.dT kvs) from rd_of ok e)
  refine ⟨z, y, xs, r, o, es, ep, h1, h2, h3, h4, fun x hx => ?_, h5⟩
  have all : ∀ {l : List (List Key × V)} {m : List (List Key × Addr × Value)}, KT H l m → ∀ x ∈ m, (tupleKind (mixKind P w)).is h x.1 x.2.1 := by
    intro l m q
    induction q with
    | nil => intro x hx; exact nomatch hx
    | @cons p q ps qs hq t ih =>
      intro x hx
      rcases List.mem_cons.mp hx with e | hx
      · subst e
        exact key_of ok (by rw [← hq.1]; exact hq.2.1)
      · exact ih x hx
  exact all r x hx
theorem dt_of {kvs : List (List Key × V)} (ok : HOk P w H h) (e : H a = some (.dT kvs)) : kvs.length ≤ sizeLine ∧ (a == sysModules) = false ∧
    ∃ xs, KT H kvs xs ∧ h.DictOfH (tupleKind (mixKind P w)) a xs := dt_rd ok (.inl e)
end
/-- what the dict at a holds at the key y -/
def DGet (H : Hp) (a : Addr) (y : V) (r : Option V) : Prop :=
  (∃ kvs k, Rd H a (.dK kvs) ∧ y = kV k ∧ r = valV kvs k) ∨ ∃ kvs k b, Rd H a (.dT kvs) ∧ y = .ref b ∧ H b = some (.tup (k.map kV)) ∧ r = valV kvs k
/-- the heap behind a[y] = v -/
def DPut (H : Hp) (a : Addr) (y v : V) (H' : Hp) : Prop :=
  (∃ kvs k, H a = some (.dK kvs) ∧ y = kV k ∧ kvs.length < sizeLine ∧ H' = upd H a (.dK (putK kvs k v))) ∨
  ∃ kvs k b, H a = some (.dT kvs) ∧ y = .ref b ∧ H b = some (.tup (k.map kV)) ∧ kvs.length < sizeLine ∧ H' = upd H a (.dT (putK kvs k v))
theorem DGet.k {H : Hp} {a : Addr} {kvs : List (Key × V)} {k : Key} (e : H a = some (.dK kvs)) : DGet H a (kV k) (valV kvs k) := .inl ⟨kvs, k, .inl e, rfl, rfl⟩
theorem DPut.k {H : Hp} {a : Addr} {kvs : List (Key × V)} {k : Key} {v : V} (e : H a = some (.dK kvs)) (hl : kvs.length < sizeLine) : DPut H a (kV k) v (upd H a (.dK (putK kvs k v))) := .inl ⟨kvs, k, e, rfl, hl, rfl⟩
section
variable {X : Cx} {pins : List (Addr × Obj)} {σ : St} {H : Hp} {s : Shared} {a : Addr} {y v : V} {u r : Value} {o : Option V} {A : Around} {E : Value → Shared → Prop}
theorem Inv.big (I : Inv X pins σ H s) : sysModules < s.heap.objs.size := by
  have h : mainGlobals < s.heap.objs.size := (I.mod.glob.keeps I.bk).lt
  exact Nat.lt_trans (by decide) h
/-- d[y], there -/
theorem d_getItem {Q : Value → Shared → Prop} (hu : A.units + 1 < cLine) (I : Inv X pins σ H s) (g : DGet H a y (some v)) (ry : RelV y u) (h : ∀ w' s', Inv X pins σ H s' → RelV v w' → Q w' s') :
    wpAny (model X.prog X.w) A (getItem (.ref a) u) Q E s := by
  rcases g with ⟨kvs, k, e, ey, l⟩ | ⟨kvs, k, b, e, ey, eb, l⟩
  · subst ey
    obtain ⟨z, hd, vs, rel, dd⟩ := dk_rd I.hok e
    obtain ⟨w', hw, rw'⟩ := RelO.some_of (v := v) (o := valueAt vs k) (by rw [l]; exact rel.val k)
    exact wpAny_getItem_of (kV_is ry) dd.mapOf hw (h w' _ (I.tok _) rw')
  · subst ey
    cases (show u = Value.ref b from ry)
    obtain ⟨z, hd, xs, rel, dd⟩ := dt_rd I.hok e
    obtain ⟨w', hw, rw'⟩ := RelO.some_of (v := v) (o := (atKey xs k).map (·.2)) (by rw [l]; exact rel.val k)
    obtain ⟨p, hp, hp2⟩ := Option.map_eq_some_iff.mp hw
    refine wpAny_getItem_heap (tupleKind_room_in1 hu) (key_of I.hok eb) dd hp ?_
    rw [hp2]
    exact h w' _ (I.tok _) rw'
/-- y in d -/
theorem d_in {Q : Value → Shared → Prop} (hu : A.units + 1 < cLine) (I : Inv X pins σ H s) (g : DGet H a y o) (ry : RelV y u) (h : ∀ s', Inv X pins σ H s' → Q (.bool o.isSome) s') :
    wpAny (model X.prog X.w) A (compareOp .In u (.ref a)) Q E s := by
  rcases g with ⟨kvs, k, e, ey, l⟩ | ⟨kvs, k, b, e, ey, eb, l⟩
  · subst ey
    obtain ⟨z, hd, vs, rel, dd⟩ := dk_rd I.hok e
    refine wpAny_in_of (kV_is ry) hd dd.mapOf ?_
    rw [← (rel.val k).isSome_eq, ← l]
    exact h _ (I.tok _)
  · subst ey
    cases (show u = Value.ref b from ry)
    obtain ⟨z, hd, xs, rel, dd⟩ := dt_rd I.hok e
    refine wpAny_in_heap (tupleKind_room_in1 hu) (key_of I.hok eb) hd dd ?_
    have q := (rel.val k).isSome_eq
    rw [Option.isSome_map] at q
    rw [← q, ← l]
    exact h _ (I.tok _)
theorem d_notIn {Q : Value → Shared → Prop} (hu : A.units + 1 < cLine) (I : Inv X pins σ H s) (g : DGet H a y o) (ry : RelV y u) (h : ∀ s', Inv X pins σ H s' → Q (.bool (!o.isSome)) s') :
    wpAny (model X.prog X.w) A (compareOp .NotIn u (.ref a)) Q E s := by
  rcases g with ⟨kvs, k, e, ey, l⟩ | ⟨kvs, k, b, e, ey, eb, l⟩
  · subst ey
    obtain ⟨z, hd, vs, rel, dd⟩ := dk_rd I.hok e
    refine wpAny_notIn_of (kV_is ry) hd dd.mapOf ?_
    rw [← (rel.val k).isSome_eq, ← l]
    exact h _ (I.tok _)
  · subst ey
    cases (show u = Value.ref b from ry)
    obtain ⟨z, hd, xs, rel, dd⟩ := dt_rd I.hok e
    refine wpAny_notIn_heap (tupleKind_room_in1 hu) (key_of I.hok eb) hd dd ?_
    have q := (rel.val k).isSome_eq
    rw [Option.isSome_map] at q
    rw [← q, ← l]
    exact h _ (I.tok _)
/-- a dict's object is replaced -/
theorem d_write {h' : Heap} {t' : Nat} {ob : HO} (I : Inv X pins σ H s) (mu : Mut (H a)) (hs : Heap.SameBut a s.heap h') (he : ∃ q, h'.get? a = some q) (new : ObjOk X.prog X.w (upd H a ob) h' a ob) :
    Inv X pins σ (upd H a ob) { s with heap := h', toks := t' } :=
  I.write (x := a) (e := a) mu (.inl rfl) (fun b q hb z => (hs.2 b hb).trans z) he new
theorem dk_new {P : Program} {w : World} {H' : Hp} {h' : Heap} {kvs : List (Key × V)} {vs : List (Key × Value)} (z : kvs.length ≤ sizeLine) (hd : (a == sysModules) = false) (rel : KV kvs vs) (dd : h'.DictOf (mixKind P w) a vs) :
    ObjOk P w H' h' a (.dK kvs) := ⟨z, hd, vs, rel, dd⟩
/-- d[y] = v -/
theorem d_setItem {H' : Hp} {Q : Unit → Shared → Prop} (hu : A.units + 1 < cLine) (I : Inv X pins σ H s) (g : DPut H a y v H') (ry : RelV y u) (rv : RelV v r) (h : ∀ s', Inv X pins σ H' s' → Q () s') :
    wpAny (model X.prog X.w) A (setItem (.ref a) u r) Q E s := by
  rcases g with ⟨kvs, k, e, ey, l, eH⟩ | ⟨kvs, k, b, e, ey, eb, l, eH⟩
  · subst ey eH
    obtain ⟨z, hd, vs, rel, dd⟩ := dk_of I.hok e
    have hz : vs.length ≤ sizeLine := by rw [← rel.length]; exact z
    have hl : (putK kvs k v).length ≤ sizeLine := by have := length_putK kvs k v; omega
    refine wpAny_setItem_pairs (hsz := hz) (kV_is ry) dd fun h' dd' hs => h _ ?_
    have he : ∃ q, h'.get? a = some q := let ⟨q, _, _, hq, _⟩ := dd'; ⟨q, hq⟩
    exact d_write I (by rw [e]; exact True.intro) hs he (dk_new hl hd (rel.put k rv) dd')
  · subst ey eH
    cases (show u = Value.ref b from ry)
    obtain ⟨z, hd, xs, rel, dd⟩ := dt_of I.hok e
    have hz : xs.length ≤ sizeLine := by rw [← Paired.length rel]; exact z
    have hl : (putK kvs k v).length ≤ sizeLine := by have := length_putK kvs k v; omega
    refine wpAny_setItem_heap (hsz := hz) (tupleKind_room_in1 hu) (key_of I.hok eb) dd fun h' dd' hs => h _ ?_
    obtain ⟨q, es, ep, hq, h2, h3, h4, _, h5⟩ := dd'
    refine d_write I (by rw [e]; exact True.intro) hs ⟨q, hq⟩ ⟨hl, hd, _, (rel.put k eb rv).keeps fun c ys ec => ?_, q, es, ep, hq, h2, h3, h4, h5⟩
    rw [upd_ne (ne_of ec e (fun z => nomatch z))]
    exact ec
end
section
variable {X : Cx} {pins : List (Addr × Obj)} {σ : St} {H : Hp} {s : Shared} {a : Addr} {kvs : List (Key × V)} {k : Key} {u : Value} {A : Around} {E : Value → Shared → Prop}
end
/-! ### readings and rules -/
/-- the element of a subscription, not a slice -/
def NoSl (i : Expr) : Prop := ∀ ov iv, subscripted i false ov iv = operate [ov, iv] (getItem ov iv)
theorem subD_of {prog : Program} {w : World} {A : Around} {E : Value → Shared → Prop} {s : Shared} {env : Env} {value slice : Expr} {pos : Pos} {T id : String} {Q : Value → Shared → Prop}
    (hl : typeLookup (.type T) "__getitem__" = pure (some (.builtin id))) (hs : NoSl slice)
    (h : wpAny (model prog w) A (eval value env) (fun o s₁ => wpAny (model prog w) A (eval slice env) (fun i s₂ => s₂.TypeIs o T ∧ wpAny (model prog w) A (getItem o i) Q E s₂) E s₁) E s) :
    wpAny (model prog w) A (eval (.Subscript value slice pos) env) Q E s := by
  refine Subscript_ (wpAny_mono h (fun o s₁ h₁ => wpAny_mono h₁ (fun i s₂ h₂ => ?_) fun _ _ x => x) fun _ _ x => x)
  obtain ⟨hT, h₂⟩ := h₂
  unfold subscriptTail
  refine wpAny_bind ?_
  rw [getitemInPython_of_ne hT.not_modules]
  refine wpAny_bind (wpAny_specialOf hT hl ?_)
  have fin : wpAny (model prog w) A (subscripted slice false o i) (fun r s₃ => wpAny (model prog w) A (letTemporaryGo value o r >>= fun _ => pure r) Q E s₃) E s₂ := by
    rw [hs o i]
    exact wpAny_operating (wpAny_mono h₂ (fun r s₃ h₃ => wpAny_bind (wpAny_letTemporaryGo (wpAny_pure h₃))) fun _ _ x => x)
  first
    | exact wpAny_pure (wpAny_bind fin)
    | exact wpAny_bind (wpAny_pure (wpAny_bind fin))
    | exact wpAny_bind fin
theorem dict_typeIs {X : Cx} {pins : List (Addr × Obj)} {σ : St} {H : Hp} {s : Shared} {a : Addr} {y : V} {o : Option V} (I : Inv X pins σ H s) (g : DGet H a y o) : s.TypeIs (.ref a) "dict" := by
  rcases g with ⟨kvs, k, e, _, _⟩ | ⟨kvs, k, b, e, _, _, _⟩
  · obtain ⟨_, _, vs, _, dd⟩ := dk_rd I.hok e
    exact dd.typeIs
  · obtain ⟨_, _, xs, _, dd⟩ := dt_rd I.hok e
    exact dd.typeIs
/-- d[y] -/
def tDGet (td ty : TE) : TE := fun σ H Q => td σ H fun x H1 => ty σ H1 fun y H2 => ∃ a v, x = .ref a ∧ DGet H2 a y (some v) ∧ Q v H2
/-- y in d, y not in d -/
def tDIn (ty td : TE) : TE := fun σ H Q => ty σ H fun y H1 => td σ H1 fun x H2 => ∃ a o, x = .ref a ∧ DGet H2 a y o ∧ Q (.bl o.isSome) H2
def tDNotIn (ty td : TE) : TE := fun σ H Q => ty σ H fun y H1 => td σ H1 fun x H2 => ∃ a o, x = .ref a ∧ DGet H2 a y o ∧ Q (.bl (!o.isSome)) H2
/-- d[y] = v -/
def sDPut (td ty tv : TE) : TS := fun D σ H => tv σ H fun v H1 => td σ H1 fun x H2 => ty σ H2 fun y H3 => ∃ a H4, x = .ref a ∧ DPut H3 a y v H4 ∧ D.nx σ H4
/-- d[y] op= v -/
def sDAug (td ty tv : TE) (rd : V → V → Hp → VK → Prop) : TS := fun D σ H => td σ H fun x H1 => ty σ H1 fun y H2 => ∃ a v, x = .ref a ∧ DGet H2 a y (some v) ∧
  tv σ H2 fun y2 H3 => rd v y2 H3 fun z H4 => ∃ H5, DPut H4 a y z H5 ∧ D.nx σ H5
section
variable {X : Cx} {o i e value : Expr} {pos pos' tpos : Pos} {td ty tv : TE}
theorem pe_dget (hu : X.A.units + 1 < cLine) (ho : PE X o td) (hi : PE X i ty) (hs : NoSl i) : PE X (.Subscript o i pos) (tDGet td ty) := by
  intro pins s σ H Q I h
  refine subD_of PySem.F.slot_dict_getitem.lookup hs (thn (ho pins s σ H _ I h) fun u s1 ⟨x, H1, I1, rx, q1⟩ => thn (hi pins s1 σ H1 _ I1 q1) fun iv s2 ⟨y, H2, I2, ry, a, v, ex, g, q2⟩ => ?_)
  subst ex
  obtain rfl : u = Value.ref a := rx
  exact ⟨dict_typeIs I2 g, d_getItem hu I2 g ry fun w' s3 I3 rw' => ⟨v, H2, I3, rw', q2⟩⟩
theorem pc_din (hu : X.A.units + 1 < cLine) (hi : PE X i ty) (ho : PE X o td) : PC X .In i o (tDIn ty td) := by
  intro pins s σ H Q I h
  refine thn (hi pins s σ H _ I h) fun iv s1 ⟨y, H1, I1, ry, q1⟩ => thn (ho pins s1 σ H1 _ I1 q1) fun u s2 ⟨x, H2, I2, rx, a, ov, ex, g, q2⟩ => ?_
  subst ex
  obtain rfl : u = Value.ref a := rx
  exact d_in hu I2 g ry fun s3 I3 => ⟨.bl ov.isSome, H2, I3, rfl, q2⟩
theorem pc_dnotin (hu : X.A.units + 1 < cLine) (hi : PE X i ty) (ho : PE X o td) : PC X .NotIn i o (tDNotIn ty td) := by
  intro pins s σ H Q I h
  refine thn (hi pins s σ H _ I h) fun iv s1 ⟨y, H1, I1, ry, q1⟩ => thn (ho pins s1 σ H1 _ I1 q1) fun u s2 ⟨x, H2, I2, rx, a, ov, ex, g, q2⟩ => ?_
  subst ex
  obtain rfl : u = Value.ref a := rx
  exact d_notIn hu I2 g ry fun s3 I3 => ⟨.bl (!ov.isSome), H2, I3, rfl, q2⟩
theorem ps_dput (hu : X.A.units + 1 < cLine) (ho : PE X o td) (hi : PE X i ty) (hv : PE X value tv) (hs : swapsWith value (some (.Subscript o i pos')) pos.line X.env = pure false) :
    PS X (.Assign [.Subscript o i pos'] value pos) (sDPut td ty tv) := by
  intro pins s σ H D I h
  refine wpAny_Assign_Subscript (thn (hv pins s σ H _ I h) fun r s1 ⟨v, H1, I1, rv, q1⟩ => thn (ho pins s1 σ H1 _ I1 q1) fun u s2 ⟨x, H2, I2, rx, q2⟩ => thn (hi pins s2 σ H2 _ I2 q2) fun iv s3 ⟨y, H3, I3, ry, a, H4, ex, g, q3⟩ => ?_) hs
  subst ex
  obtain rfl : u = Value.ref a := rx
  exact d_setItem hu I3 g ry rv fun s4 I4 => ⟨σ, H4, I4, q3⟩
theorem ps_daug {op : Operator} {rd : V → V → Hp → VK → Prop} (hu : X.A.units + 1 < cLine) (ho : PE X o td) (hi : PE X i ty) (hv : PE X value tv) (hop : InOp X op rd)
    (ha : ∀ ov iv new, augStore i ov iv new = (do holding [new, ov, iv] (setItem ov iv new); release [new, ov, iv] []; pure .next)) : PS X (.AugAssign (.Subscript o i tpos) op value pos) (sDAug td ty tv rd) := by
  intro pins s σ H D I h
  refine wpAny_AugAssign_SubscriptAny (thn (ho pins s σ H _ I h) fun u s1 ⟨x, H1, I1, rx, q1⟩ => thn (hi pins s1 σ H1 _ I1 q1) fun iv s2 ⟨y, H2, I2, ry, a, v, ex, g, q2⟩ => ?_) ha
  subst ex
  obtain rfl : u = Value.ref a := rx
  refine d_getItem hu I2 g ry fun w' s3 I3 rw' => thn (hv pins s3 σ H2 _ I3 q2) fun w2 s4 ⟨y2, H3, I4, ry2, q3⟩ => thn (hop pins s4 σ H3 v y2 w' w2 _ I4 rw' ry2 q3) fun w3 s5 ⟨z, H4, I5, rz, H5, g5, q4⟩ => ?_
  exact d_setItem hu I5 g5 ry rz fun s6 I6 => ⟨σ, H5, I6, q4⟩
end
/-! ### displays -/
theorem dk_empty {P : Program} {w : World} {H : Hp} (h : Heap) (hb : sysModules < h.objs.size) : ObjOk P w H (h.push { cls := .type "dict", data := .dict #[] }) h.objs.size (.dK []) :=
  ⟨Nat.zero_le _, beq_eq_false_iff_ne.mpr (Ne.symm (Nat.ne_of_lt hb)), [], .nil, Heap.DictOf.new h⟩
/-- {}, to be a dict of the kind that is wanted -/
def tDNewK : TE := fun _ H Q => ∀ p, H p = none → Q (.ref p) (upd H p (.dK []))
section
variable {X : Cx} {pos : Pos}
theorem pe_dnewK : PE X (.Dict [] [] pos) tDNewK := fun pins s σ H Q I h =>
  wpAny_Dict_empty ⟨.ref s.heap.objs.size, _, I.laid (a := s.heap.objs.size) (o := .dK []) (t' := s.toks) (fun _ _ q => Heap.get?_push_of_some _ q) (Nat.le_refl _) (dk_empty s.heap I.big), rfl, h _ (I.hok.fresh (Nat.le_refl _))⟩
end
/-- the pairs of a display, from the left -/
def tPairs : List (TE × TE) → St → Hp → (List (V × V) → Hp → Prop) → Prop
  | [], _, H, Q => Q [] H
  | (tk, tv) :: r, σ, H, Q => tk σ H fun x H1 => tv σ H1 fun y H2 => tPairs r σ H2 fun ps H3 => Q ((x, y) :: ps) H3
abbrev VV : List (V × V) → List (Value × Value) → Prop := Paired fun p q => RelV p.1 q.1 ∧ RelV p.2 q.2
def PPs (X : Cx) (pos : Pos) (keys : List (Option Expr)) (values : List Expr) (trs : List (TE × TE)) : Prop :=
  ∀ (pins : List (Addr × Obj)) (s : Shared) (σ : St) (H : Hp) (Q : List (V × V) → Hp → Prop), Inv X pins σ H s → tPairs trs σ H Q →
    wpAny (model X.prog X.w) X.A (evalPairs (pairTrees keys values X.env pos)) (fun vs s' => ∃ ps H', Inv X pins σ H' s' ∧ VV ps vs ∧ Q ps H') X.xe s
theorem pps_nil {X : Cx} {pos : Pos} : PPs X pos [] [] [] := fun pins s σ H Q I h => pairTrees_nil_walk ⟨[], H, I, .nil, h⟩
theorem pps_cons {X : Cx} {pos : Pos} {k v : Expr} {ks : List (Option Expr)} {vs : List Expr} {tk tv : TE} {trs : List (TE × TE)} (hk : PE X k tk) (hv : PE X v tv) (hr : PPs X pos ks vs trs) :
    PPs X pos (some k :: ks) (v :: vs) ((tk, tv) :: trs) := fun pins s σ H Q I h =>
  pairTrees_cons_walk (thn (hk pins s σ H _ I h) fun u s1 ⟨x, H1, I1, rx, q1⟩ => thn (hv pins s1 σ H1 _ I1 q1) fun w2 s2 ⟨y, H2, I2, ry, q2⟩ =>
    thn (hr pins s2 σ H2 _ I2 q2) fun ws s3 ⟨ps, H3, I3, rel, q3⟩ => ⟨(x, y) :: ps, H3, I3, .cons ⟨rx, ry⟩ rel, q3⟩)
def mergeK (kvs more : List (Key × V)) : List (Key × V) := more.foldl (fun acc kv => putK acc kv.1 kv.2) kvs
theorem KV.merge : ∀ {more : List (Key × V)} {rs : List (Key × Value)} {kvs : List (Key × V)} {vs : List (Key × Value)}, KV more rs → KV kvs vs → KV (mergeK kvs more) (merged vs rs) := by
  intro more rs kvs vs r
  unfold KV at r
  induction r generalizing kvs vs with
  | nil => intro q; exact q
  | @cons p q ps qs h t ih =>
    intro r0
    have e : KV (putK kvs p.1 p.2) (stored vs q.1 q.2) := by
      have := r0.put p.1 h.2
      rw [← h.1]; exact this
    exact ih e
theorem length_mergeK : ∀ (more kvs : List (Key × V)), (mergeK kvs more).length ≤ kvs.length + more.length
  | [], kvs => by show kvs.length ≤ kvs.length + 0; omega
  | p :: r, kvs => by
    have h1 := length_mergeK r (putK kvs p.1 p.2)
    have h2 := length_putK kvs p.1 p.2
    show (mergeK (putK kvs p.1 p.2) r).length ≤ _
    rw [List.length_cons]; omega
theorem carries_of {P : Program} {w : World} : ∀ {kvs : List (Key × V)} {ws : List (Value × Value)}, VV (kvs.map fun kv => (kV kv.1, kv.2)) ws → ∃ rs, Carries (mixKind P w) ws rs ∧ KV kvs rs
  | [], _, r => by rw [List.map_nil] at r; cases r; exact ⟨[], True.intro, .nil⟩
  | p :: kvs, _, r => by
    rw [List.map_cons] at r
    cases r with
    | @cons a b as bs h t =>
      obtain ⟨rs, c, q⟩ := carries_of (P := P) (w := w) t
      obtain ⟨b1, b2⟩ := b
      exact ⟨(p.1, b2) :: rs, ⟨kV_is h.1, rfl, c⟩, .cons ⟨rfl, h.2⟩ q⟩
/-- {k: v, ..} with keys ints and texts; the new dict stands empty while the pairs are made -/
def tDisp (trs : List (TE × TE)) : TE := fun σ H Q => ∀ p, H p = none → tPairs trs σ (upd H p (.dK [])) fun ps H2 => H2 p = some (.dK []) ∧ ∃ kvs : List (Key × V), ps = kvs.map (fun kv => (kV kv.1, kv.2)) ∧ kvs.length ≤ 15 ∧ Q (.ref p) (upd H2 p (.dK (mergeK [] kvs)))
theorem pe_disp {X : Cx} {pos : Pos} {keys : List (Option Expr)} {values : List Expr} {trs : List (TE × TE)} (h : PPs X pos keys values trs) (hall : keys.all (·.isSome) = true) (hl : keys.length = values.length) (h0 : keys ≠ [])
    (h15 : keys.length ≤ 15) : PE X (.Dict keys values pos) (tDisp trs) := by
  intro pins s σ H Q I q
  have hn := I.hok.fresh (Nat.le_refl s.heap.objs.size)
  have I1 := I.laid (a := s.heap.objs.size) (o := .dK []) (h' := s.heap.push { cls := .type "dict", data := .dict #[] }) (t' := s.toks) (fun _ _ q => Heap.get?_push_of_some _ q) (Nat.le_refl _) (dk_empty s.heap I.big)
  refine wpAny_Dict_walk (knd := mixKind X.prog X.w) hall hl h0 h15 (thn (h pins _ σ _ _ I1 (q _ hn)) fun ws s2 ⟨ps, H2, I2, rel, e, kvs, ep, lk, q2⟩ => ?_)
  subst ep
  obtain ⟨rs, c, rk⟩ := carries_of (P := X.prog) (w := X.w) rel
  obtain ⟨z, hd, vs0, r0, dd⟩ := dk_of I2.hok e
  cases r0
  refine ⟨rs, c, dd, fun h' dd' hs => ⟨.ref s.heap.objs.size, _, ?_, rfl, q2⟩⟩
  have hz : (mergeK [] kvs).length ≤ sizeLine := by
    have h1 := length_mergeK kvs []
    rw [List.length_nil] at h1
    rw [sizeLine_eq]; omega
  have he : ∃ q, h'.get? s.heap.objs.size = some q := let ⟨q, _, _, hq, _⟩ := dd'; ⟨q, hq⟩
  exact d_write I2 (by rw [e]; exact True.intro) hs he (dk_new hz hd (rk.merge .nil) dd')
/-! ### methods -/
structure M2 (X : Cx) (o : Expr) (m : Str) (apos : Pos) (e f : Expr) (cpos : Pos) : Prop where
  base : attributeBase o m X.env (eval o X.env) = eval o X.env
  few : ((backTo cpos (starEach [e, f] X.env)).all (fun x => !x.1) && (backToKw cpos (keywordEach [] X.env)).all (fun x => x.1.isSome)
    && decide (([e, f] : List Expr).length + ([] : List Keyword).length + (if ([] : List Keyword).isEmpty then 0 else 1) < 30)) = true
  line : (apos.endLine == cpos.line) = true
  trees : backTo cpos (starEach [e, f] X.env) = [(false, eval e X.env), (false, eval f X.env)]
/-- a is a dict, whatever its keys -/
def IsD (H : Hp) (a : Addr) : Prop := (∃ kvs, Rd H a (.dK kvs)) ∨ ∃ kvs, Rd H a (.dT kvs)
theorem isD_at {X : Cx} {pins : List (Addr × Obj)} {σ : St} {H : Hp} {s : Shared} {a : Addr} (I : Inv X pins σ H s) (d : IsD H a) :
    s.TypeIs (.ref a) "dict" ∧ (∀ b, Value.ref a = .ref b → ∃ ob, s.heap.get? b = some ob ∧ ob.dict = none) ∧ (a == sysModules) = false := by
  rcases d with ⟨kvs, e⟩ | ⟨kvs, e⟩
  · obtain ⟨_, hd, vs, _, dd⟩ := dk_rd I.hok e
    refine ⟨dd.typeIs, fun b q => ?_, hd⟩
    cases q
    obtain ⟨ob, _, _, h1, h2, _⟩ := dd
    exact ⟨ob, h1, h2.2.1⟩
  · obtain ⟨_, hd, xs, _, dd⟩ := dt_rd I.hok e
    refine ⟨dd.typeIs, fun b q => ?_, hd⟩
    cases q
    obtain ⟨ob, _, _, h1, h2, _⟩ := dd
    exact ⟨ob, h1, h2.2.1⟩
section
variable {X : Cx} {pins : List (Addr × Obj)} {σ : St} {H : Hp} {s : Shared} {a : Addr} {y d : V} {u r : Value} {o : Option V} {A : Around} {E : Value → Shared → Prop}
/-- d.get(y, x) -/
theorem d_get2 {Q : Value → Shared → Prop} (hu : A.units + 1 < cLine) (I : Inv X pins σ H s) (g : DGet H a y o) (ry : RelV y u) (rd : RelV d r) (h : ∀ w' s', Inv X pins σ H s' → RelV (o.getD d) w' → Q w' s') :
    wpAny (model X.prog X.w) A (call (.builtin "dict.get") [.ref a, u, r]) Q E s := by
  rcases g with ⟨kvs, k, e, ey, l⟩ | ⟨kvs, k, b, e, ey, eb, l⟩
  · subst ey
    obtain ⟨z, hd, vs, rel, dd⟩ := dk_rd I.hok e
    refine call_meetsIn PySem.F.slot_dict_get dd.typeIs PySem.F.entry_dict_get (PySem.F.args_dict_get_3 _ _ _) (meets_dict_get_default (mixKind X.prog X.w) a (kV_is ry) hd r) ⟨_, dd.mapOf, h _ _ (I.tok _) ?_⟩
    rw [l]
    exact (rel.val k).getD rd
  · subst ey
    cases (show u = Value.ref b from ry)
    obtain ⟨z, hd, xs, rel, dd⟩ := dt_rd I.hok e
    refine call_meetsIn PySem.F.slot_dict_get dd.typeIs PySem.F.entry_dict_get (PySem.F.args_dict_get_3 _ _ _) (meetsH_dict_get_default (tupleKind (mixKind X.prog X.w)) a b hd r) ⟨tupleKind_room_in1 hu, k, xs, key_of I.hok eb, dd, h _ _ (I.tok _) ?_⟩
    rw [l]
    exact (rel.val k).getD rd
end
def tDGet2 (td ty tx : TE) : TE := fun σ H Q => td σ H fun x H1 => ∃ a, x = .ref a ∧ IsD H1 a ∧ ty σ H1 fun y H2 => tx σ H2 fun z H3 => ∃ o, DGet H3 a y o ∧ Q (o.getD z) H3
section
variable {X : Cx} {o e f : Expr} {apos cpos : Pos} {td ty tx : TE}
theorem pe_dget2 (hu : X.A.units + 1 < cLine) (ho : PE X o td) (he : PE X e ty) (hf : PE X f tx) (m : M2 X o "get" apos e f cpos) : PE X (.Call (.Attribute o "get" apos) [e, f] [] cpos) (tDGet2 td ty tx) := by
  intro pins s σ H Q I h
  refine wpAny_Call_method m.base m.few m.line PySem.F.plainAttrs_dict PySem.F.slot_dict_get PySem.F.type_dict_get (thn (ho pins s σ H _ I h) fun u s1 ⟨x, H1, I1, rx, a, ex, d, q1⟩ => ?_)
  subst ex
  obtain rfl : u = Value.ref a := rx
  obtain ⟨t1, t2, _⟩ := isD_at I1 d
  refine ⟨t1, t2, ?_⟩
  rw [m.trees]
  refine Calls.callWith_builtin rfl (Calls.evalArgs_plain (Calls.spliced_cons (thn (he pins s1 σ H1 _ I1 q1) fun iv s2 ⟨y, H2, I2, ry, q2⟩ =>
    Calls.spliced_cons (thn (hf pins s2 σ H2 _ I2 q2) fun fv s3 ⟨z, H3, I3, rz, ov, g, q3⟩ => Calls.spliced_nil ?_))))
  exact d_get2 hu I3 g ry rz fun w' s4 I4 rw' => ⟨_, H3, I4, rw', q3⟩
end
/-! ### dict(d): a copy -/
section
variable {X : Cx} {pins : List (Addr × Obj)} {σ : St} {H : Hp} {s : Shared} {a : Addr} {kvs : List (Key × V)} {A : Around} {E : Value → Shared → Prop}
end
section
variable {X : Cx} {pins : List (Addr × Obj)} {σ : St} {H : Hp} {s : Shared} {a : Addr} {y : V} {u : Value} {A : Around} {E : Value → Shared → Prop}
end
end L2
set_option Elab.async false
set_option linter.all false
set_option maxRecDepth 100000
set_option Elab.async false
set_option maxHeartbeats 4000000
/-! ### own rules: going over the keys of a dict. While one goes, the dict's object is held fast; behind it, it melts again. -/
namespace L2
open PySem PySem.Spec PyProof.Rows
section
variable {X : Cx} {pins : List (Addr × Obj)} {σ : St} {H : Hp} {s : Shared} {d : Addr} {kvs : List (Key × V)}
theorem Inv.chill (I : Inv X pins σ H s) (e : H d = some (.dK kvs)) : ∃ o, s.heap.get? d = some o ∧ Inv X pins σ (upd H d (.frz o (.dK kvs))) s := by
  obtain ⟨z, hd, vs, rel, o, es, ep, ho, r⟩ := (show ObjOk X.prog X.w H s.heap d (.dK kvs) from I.hok d _ e)
  refine ⟨o, ho, ?_⟩
  have := I.write (x := d) (e := d) (o := .frz o (.dK kvs)) (h' := s.heap) (t' := s.toks) (by rw [e]; exact True.intro) (.inl rfl) (fun b u _ q => q) ⟨o, ho⟩ ⟨ho, z, hd, vs, rel, o, es, ep, ho, r⟩
  exact this
theorem Inv.melt {o : Obj} (I : Inv X pins σ H s) (e : H d = some (.frz o (.dK kvs))) (h0 : ∀ o u, X.H₀ d ≠ some (.frz o u)) : Inv X pins σ (upd H d (.dK kvs)) s := by
  have ne : ∀ b u, H b = some u → (∀ o v, u ≠ .frz o v) → b ≠ d := fun b u q n z => by
    rw [z, e] at q
    exact n _ _ (Option.some.inj q).symm
  have no : ∀ b, H b = none → b ≠ d := fun b q z => by rw [z, e] at q; cases q
  refine ⟨I.ok, I.os, I.bare, ⟨I.base.keep, I.base.slot, fun b u q n hx => ?_, I.base.there, fun b xs q => ?_, fun b u v q => ?_, fun b ps q => ?_⟩, I.loc, I.cell, ?_, fun y c q => ?_, fun p h => ?_, fun b u q => ?_, I.len⟩
  · have z := I.base.free b u q n hx
    rw [upd_ne (no b z)]; exact z
  · have z := I.base.tups b xs q
    rw [upd_ne (ne b _ z (by intro _ _ w; cases w))]; exact z
  · have z := I.base.frzs b u v q
    rw [upd_ne (fun w => by rw [w] at q; exact h0 _ _ q)]; exact z
  · obtain ⟨m, z⟩ := I.base.tbls b ps q
    exact ⟨m, by rw [upd_ne (ne b _ z (by intro _ _ w; cases w))]; exact z⟩
  · rw [upd_ne (no _ I.free)]; exact I.free
  · rw [upd_ne (no _ (I.freeC y c q))]; exact I.freeC y c q
  · obtain ⟨z1, z2, r⟩ := I.pin p h
    exact ⟨z1, by rw [upd_ne (no _ z2)]; exact z2, r⟩
  · by_cases w : b = d
    · subst w
      rw [upd_same] at q
      cases q
      exact (I.hok b _ e).2
    · rw [upd_ne w] at q
      exact (I.hok b u q).stay (fun _ _ _ z => z) (fun c z => by rw [upd_ne (ne c _ z (by intro _ _ w; cases w))]; exact z) fun c xs z => by rw [upd_ne (ne c _ z (by intro _ _ w; cases w))]; exact z
end
/-- a dict that was held fast is as it was -/
def Melt (H0 H H' : Hp) : Prop := ∃ d o kvs, H d = some (.frz o (.dK kvs)) ∧ (∀ o u, H0 d ≠ some (.frz o u)) ∧ H' = upd H d (.dK kvs)
section
variable {X : Cx} {H0 : Hp} {st : Stmt} {sts : List Stmt} {e : Expr} {t : TS} {te : TE}
/-- behind a statement that goes on -/
theorem ps_meltN (hH : X.H₀ = H0) (h : PS X st t) : PS X st (fun D σ H => t { D with nx := fun σ' H' => ∃ H'', Melt H0 H' H'' ∧ D.nx σ' H'' } σ H) := by
  subst hH
  intro pins s σ H D I hh
  refine thn (h pins s σ H _ I hh) fun f s1 q => ?_
  cases f with
  | next => obtain ⟨σ', H', I', H'', ⟨d, o, kvs, e, n, rfl⟩, q⟩ := q; exact ⟨σ', _, I'.melt e n, q⟩
  | ret v => exact q
  | brk => exact q
  | cont => exact q
/-- behind an expression -/
theorem pe_melt (hH : X.H₀ = H0) (h : PE X e te) : PE X e (fun σ H Q => te σ H fun v H1 => ∃ H2, Melt H0 H1 H2 ∧ Q v H2) := by
  subst hH
  intro pins s σ H Q I hh
  refine thn (h pins s σ H _ I hh) fun u s1 q => ?_
  obtain ⟨v, H1, I1, r, H2, ⟨d, o, kvs, e, n, rfl⟩, q⟩ := q
  exact ⟨v, _, I1.melt e n, r, q⟩
end
/-- the keys of the dict at d, which is held fast -/
def Itd (d : Addr) (o : Obj) (kvs : List (Key × V)) : It :=
  ⟨fun i H => H d = some (.frz o (.dK kvs)) ∧ i < kvs.length, fun i H x H' => H' = H ∧ ∃ k v, kvs[i]? = some (k, v) ∧ x = kV k, fun i H => H d = some (.frz o (.dK kvs)) ∧ kvs.length ≤ i⟩
theorem kV_rel {P : Program} {w : World} {k : Key} {u : Value} (h : (mixKind P w).is k u = true) : RelV (kV k) u := by
  rcases keyIs_shape (k := k) (v := u) h with ⟨i, t, rfl, rfl⟩ | ⟨x, t, rfl, rfl⟩
  · exact ⟨t, rfl⟩
  · exact ⟨t, rfl⟩
theorem kv_get : ∀ {kvs : List (Key × V)} {vs : List (Key × Value)} {i : Nat} {k : Key} {v : V}, KV kvs vs → kvs[i]? = some (k, v) → ∃ v', vs[i]? = some (k, v')
  | _, _, 0, k, v, .cons h _, e => by
    cases (Option.some.inj e)
    exact ⟨_, by rw [List.getElem?_cons_zero, show k = _ from h.1]⟩
  | _, _, i + 1, k, v, .cons _ t, e => by
    obtain ⟨v', z⟩ := kv_get (i := i) (k := k) (v := v) t (by simpa using e)
    exact ⟨v', by simpa using z⟩
theorem turn_dict {P : Program} {w : World} {K : PySem.W.Frag} {tg : Expr} {d it : Addr} {o : Obj} {kvs : List (Key × V)} {vs : List (Key × Value)} {ep : Nat} (rel : KV kvs vs) (hD : ∀ h : Heap, h.get? d = some o → h.DictAt (mixKind P w) d vs ep) :
    Turn P w K tg (Itd d o kvs) [it] it (fun i h => h.IsKeyIter it d i vs.length ep) where
  mem := by simp
  obj := fun i h st b hb => by
    have e : b = it := by simpa using hb
    subst e
    obtain ⟨o, e, c, d⟩ := st
    exact ⟨o, e, fun v z => by rw [d] at z; cases z⟩
  keep := fun i h h' st k => st.at fun o e => k it (by simp) o e
  item := by
    intro X hP hw hK hc i pins s σ H E I hf st hg
    subst hP hw hK
    obtain ⟨hq, hi⟩ := hg
    obtain ⟨f0, f1, f2, f3, f4, f5⟩ := hf it (by simp)
    have ho : s.heap.get? d = some o := (I.hok d _ hq).1
    have hl : kvs.length = vs.length := Paired.length rel
    obtain ⟨k, v, ek⟩ : ∃ k v, kvs[i]? = some (k, v) := ⟨_, _, List.getElem?_eq_getElem hi⟩
    obtain ⟨v', ev⟩ := kv_get rel ek
    refine wpAny_pyNext_dict_item st (hD _ ho) ev fun key h' hk st' sb => ?_
    have I1 : Inv X pins σ H { s with heap := h' } := I.turned (t' := s.toks) (fun b o hb e => (sb.2 b hb).trans e) f0 f1 f3 f4 f5
    obtain ⟨o', e, c, dd⟩ := id st'
    exact ⟨key, rfl, go_of (s := { s with heap := h' }) e c dd (by decide) ⟨kV k, H, I1, kV_rel hk, ⟨rfl, k, v, ek, rfl⟩, st', fun b hb => (hf b hb).1⟩⟩
  done := by
    intro X hP hw hK hc i pins s σ H E I hf st hg
    subst hP hw hK
    obtain ⟨hq, hi⟩ := hg
    obtain ⟨f0, f1, f2, f3, f4, f5⟩ := hf it (by simp)
    have ho : s.heap.get? d = some o := (I.hok d _ hq).1
    have hl : kvs.length = vs.length := Paired.length rel
    exact wpAny_pyNext_dict_end (I.ok.hd hc) st (hD _ ho) (List.getElem?_eq_none (by omega)) fun h' eb => ⟨rfl, I.turned (t' := s.toks) (fun b o hb e => eb b o hb e) f0 f1 f3 f4 f5⟩
  self := fun _ _ _ _ _ st h => wpAny_pyIter_keyiter st h
/-- over the keys of a dict -/
def iDict (td : TE) : TI := fun σ H R => td σ H fun x H1 => ∃ d kvs, x = .ref d ∧ H1 d = some (.dK kvs) ∧ ∀ o, R (Itd d o kvs) (upd H1 d (.frz o (.dK kvs)))
theorem pi_dict {X : Cx} {tg l : Expr} {td : TE} (hl : PE X l td) : PI X tg l (iDict td) := by
  intro pins s σ H R I h
  refine thn (hl pins s σ H _ I h) fun v s1 ⟨x, H1, I1, r1, q1⟩ => ?_
  obtain ⟨d, kvs, e, ed, q⟩ := q1
  subst e
  cases r1
  obtain ⟨_, hd, vs, rel, o0, es, ep, ho0, r⟩ := (show ObjOk X.prog X.w H1 s1.heap d (.dK kvs) from I1.hok d _ ed)
  obtain ⟨o, ho, I2⟩ := I1.chill ed
  obtain rfl : o0 = o := Option.some.inj (ho0.symm.trans ho)
  have hD : ∀ h : Heap, h.get? d = some o0 → h.DictAt (mixKind X.prog X.w) d vs ep := fun h z => ⟨o0, es, z, r⟩
  refine wpAny_pyIter_dict hd (hD _ ho) ?_
  refine ⟨s1.heap.objs.size, [s1.heap.objs.size], _, _, _, rfl, I2.kept (t' := s1.toks) fun b o e => Heap.get?_push_of_some _ e, turn_dict rel hD, ⟨_, Heap.get?_push_size _ rfl, rfl, rfl⟩, fun b hb => ?_, q o0⟩
  have e : b = s1.heap.objs.size := by simpa using hb
  subst e
  exact I2.fpOk (Nat.le_refl _) (I2.hok.fresh (Nat.le_refl _))
theorem for_dict {d : Addr} {o : Obj} {kvs : List (Key × V)} {g : TG} {tb : TS} {D : Ends} {σ : St} {H : Hp} (Pv : Nat → St → Hp → Prop) (h0 : Pv 0 σ H) (hl : ∀ i σ H, i ≤ kvs.length → Pv i σ H → H d = some (.frz o (.dK kvs)))
    (hs : ∀ i k v σ H, kvs[i]? = some (k, v) → Pv i σ H → g (kV k) σ H fun σ2 H2 => tb { D with nx := Pv (i + 1), ct := Pv (i + 1), bk := D.nx } σ2 H2) (hd : ∀ σ H, Pv kvs.length σ H → D.nx σ H) :
    ∃ W : Nat → Nat → St → Hp → Prop, (∃ m, W 0 m σ H) ∧ ∀ i m σ H, W i m σ H →
      ((Itd d o kvs).stop i H ∧ D.nx σ H) ∨ ((Itd d o kvs).go i H ∧ ∃ N : St → Hp → Prop, (∀ σ' H', N σ' H' → ∃ m', m' < m ∧ W (i + 1) m' σ' H') ∧ ∀ x H', (Itd d o kvs).yld i H x H' → g x σ H' fun σ2 H2 => tb { D with nx := N, ct := N, bk := D.nx } σ2 H2) := by
  refine ⟨fun i m σ H => m = kvs.length - i ∧ i ≤ kvs.length ∧ Pv i σ H, ⟨kvs.length, by simp, Nat.zero_le _, h0⟩, ?_⟩
  rintro i m σ H ⟨rfl, hi, p⟩
  have q := hl i σ H hi p
  by_cases hlt : i < kvs.length
  · refine .inr ⟨⟨q, hlt⟩, Pv (i + 1), fun σ' H' p' => ⟨kvs.length - (i + 1), by omega, rfl, hlt, p'⟩, fun x H' y => ?_⟩
    obtain ⟨rfl, k, v, ek, rfl⟩ := y
    exact hs i k v σ _ ek p
  · obtain rfl : i = kvs.length := by omega
    exact .inl ⟨⟨q, Nat.le_refl _⟩, hd σ H p⟩
theorem comp_dict {js : List Nat} {tt : TT} {te : TE} {σ : St} {Qd : List V → Hp → Prop} {d : Addr} {o : Obj} {kvs : List (Key × V)} {H : Hp} (Pv : Nat → List V → Hp → Prop) (hn : kvs.length ≤ sizeLine) (h0 : Pv 0 [] H) (hl : ∀ i ys H, Pv i ys H → ys.length ≤ i) (hq : ∀ i ys H, i ≤ kvs.length → Pv i ys H → H d = some (.frz o (.dK kvs)))
    (hs : ∀ i k v ys H, kvs[i]? = some (k, v) → Pv i ys H → tt (some (kV k) :: valsAt σ js) H fun b H4 => if b = true then te (some (kV k) :: valsAt σ js) H4 fun y H5 => Pv (i + 1) (ys ++ [y]) H5 else Pv (i + 1) ys H4)
    (hd : ∀ ys H, Pv kvs.length ys H → Qd ys H) : CompEnd js tt te σ Qd (Itd d o kvs) H := by
  refine ⟨fun i m ys H => m = kvs.length - i ∧ i ≤ kvs.length ∧ Pv i ys H, ⟨kvs.length, by simp, Nat.zero_le _, h0⟩, ?_⟩
  rintro i m ys H ⟨rfl, hi, p⟩
  have hlen := hl i ys H p
  have q := hq i ys H hi p
  by_cases hlt : i < kvs.length
  · refine .inr ⟨⟨q, hlt⟩, by omega, Pv (i + 1), fun ys' H' p' => ⟨kvs.length - (i + 1), by omega, rfl, hlt, p'⟩, fun x H' y => ?_⟩
    obtain ⟨rfl, k, v, ek, rfl⟩ := y
    exact hs i k v ys _ ek p
  · obtain rfl : i = kvs.length := by omega
    exact .inl ⟨⟨q, Nat.le_refl _⟩, by omega, hd ys H p⟩
end L2
set_option Elab.async false
set_option linter.all false
set_option maxRecDepth 100000
set_option Elab.async false
set_option maxHeartbeats 4000000
/-! ### own rules: list(d) of a dict; equality of data with dicts among them -/
namespace L2
open PySem PySem.Spec PyProof.Rows
theorem vals_of_get : ∀ {xs : List V} {us : List Value}, us.length = xs.length → (∀ (j : Nat) x u, xs[j]? = some x → us[j]? = some u → RelV x u) → Vals xs us
  | [], [], _, _ => .nil
  | [], _ :: _, h, _ => by simp at h
  | _ :: _, [], h, _ => by simp at h
  | x :: xs, u :: us, h, r => .cons (r 0 x u rfl rfl) (vals_of_get (by simpa using h) fun j y v h1 h2 => r (j + 1) y v (by simpa using h1) (by simpa using h2))
/-- list(d): the keys -/
theorem call_list_dict {X : Cx} (hc : X.calm = true) : CallR X (.type "list") (fun xs H Q => ∃ d kvs, xs = [.ref d] ∧ Rd H d (.dK kvs) ∧ ∀ l, H l = none → Q (.ref l) (upd H l (.lst (kvs.map fun p => kV p.1)))) := by
  intro pins s σ H xs us Q I rx h
  obtain ⟨d, kvs, rfl, hr, q⟩ := h
  obtain ⟨u, rfl, ru⟩ := vals1 rx
  cases ru
  obtain ⟨z, hd, vs, rel, dd⟩ := dk_rd I.hok hr
  obtain ⟨ep, da⟩ := dd.dictAt
  have hl : kvs.length = vs.length := Paired.length rel
  refine PySem.W.kdl_call (PySem.W.kdl_dict (knd := mixKind X.prog X.w) (kvs := vs) (ep := ep) hd) (I.ok.hd hc) da (by omega) fun h' tk acc' c' kp e' hi => ?_
  refine ⟨.ref s.heap.objs.size, _, I.laid (t' := tk) kp (Nat.le_refl _) (show ObjOk X.prog X.w _ h' _ (.lst (kvs.map fun p => kV p.1)) from ⟨by rw [List.length_map]; exact z, acc'.toList, c', vals_of_get (by rw [Array.length_toList, hi.1, List.length_map, hl]) fun j x u hx hu => ?_, by simpa using e'⟩), rfl, q _ (I.hok.fresh (Nat.le_refl _))⟩
  obtain ⟨k, v, hkv, hk⟩ := hi.2 j u (by rw [← Array.getElem?_toList]; exact hu)
  rw [List.getElem?_map] at hx
  obtain ⟨p, hp, rfl⟩ := Option.map_eq_some_iff.mp hx
  obtain ⟨v', hv'⟩ := kv_get rel (k := p.1) (v := p.2) hp
  rw [hkv] at hv'
  cases hv'
  exact kV_rel hk
section
variable {X : Cx} {pins : List (Addr × Obj)} {σ : St} {H : Hp} {s : Shared}
end
end L2
set_option Elab.async false
set_option linter.all false
set_option maxRecDepth 100000
set_option Elab.async false
set_option maxHeartbeats 4000000
/-! ### own rules: range with a step, sum of a list of numbers, dict(d) -/
namespace L2
open PySem PySem.Spec PyProof.Rows
section
variable {X : Cx} {tg : Expr}
end
theorem Room.u1 {k : Nat} {A : Around} (r : Room k A) : A.units + 1 < cLine := by have := r.units; omega
end L2
set_option Elab.async false
set_option linter.all false
set_option maxRecDepth 100000
set_option Elab.async false
set_option maxHeartbeats 4000000
/-! ### own rules: equality of tuples whose items are equal, dicts among them -/
namespace L2
open PySem PySem.Spec PyProof.Rows
section
variable {prog : Program} {w : World} {A : Around} {E : Value → Shared → Prop} {s : Shared}
end
theorem valueAt_nodup : ∀ {vs : List (Key × Value)} {n : Nat} {k : Key} {v : Value}, (vs.map (·.1)).Nodup → vs[n]? = some (k, v) → valueAt vs k = some v
  | p :: r, 0, k, v, _, e => by
    cases (Option.some.inj e)
    simp [valueAt]
  | p :: r, n + 1, k, v, nd, e => by
    rw [List.map_cons, List.nodup_cons] at nd
    have e' : r[n]? = some (k, v) := by simpa using e
    have ne : p.1 ≠ k := fun z => nd.1 (by rw [z]; exact List.mem_map.mpr ⟨(k, v), List.mem_of_getElem? e', rfl⟩)
    have ih := valueAt_nodup nd.2 e'
    unfold valueAt at ih ⊢
    rw [List.find?_cons, decide_eq_false ne]
    exact ih
theorem kv_get3 : ∀ {kvs : List (Key × V)} {vs : List (Key × Value)} {i : Nat} {k : Key} {v : V}, KV kvs vs → kvs[i]? = some (k, v) → ∃ v', vs[i]? = some (k, v') ∧ RelV v v'
  | _, _, 0, k, v, .cons h _, e => by
    cases (Option.some.inj e)
    exact ⟨_, by rw [List.getElem?_cons_zero, show k = _ from h.1], h.2⟩
  | _, _, i + 1, k, v, .cons _ t, e => by
    obtain ⟨v', z, r⟩ := kv_get3 (i := i) (k := k) (v := v) t (by simpa using e)
    exact ⟨v', by simpa using z, r⟩
theorem Room.u100 {k : Nat} {A : Around} (r : Room k A) : A.units + 100 < cLine := by have := r.un; omega
end L2
set_option Elab.async false
set_option linter.all false
set_option maxRecDepth 100000
set_option Elab.async false
set_option maxHeartbeats 4000000
/-! ### own rules: fields and methods within a comprehension, over K by name -/
namespace L2
open PySem PySem.Spec PyProof.Rows
theorem pe_fldK {X : Cx} {K : PySem.W.Frag} {e : Expr} {f : Str} {pos : Pos} {ta : TE} (hK : X.K = K) (he : PE X e ta) (hb : attributeBase e f X.env (eval e X.env) = eval e X.env) : PE X (.Attribute e f pos) (tFld K ta f) := by subst hK; exact pe_fld he hb
theorem op_notIn_seqK {X : Cx} {K : PySem.W.Frag} (hK : X.K = K) : OpR X (compareOp .NotIn) (rIn K true) := by subst hK; exact op_notIn_seq
section
variable {X : Cx} {P : Program} {w : World} {K : PySem.W.Frag} {mg : Str → Option Value} {base : Heap} {CX : CXT} {k : Nat} {E : XK} {m : Str} {pos apos : Pos} {e o : Expr} {es : List Expr} {ta : TE} {t : TA}
theorem pe_methD0K {pl : Sem Bool} (hP : X.prog = P) (hw : X.w = w) (hK : X.K = K) (hm : X.mg = mg) (hb : X.base = base) (he : PE X o ta) (hr : Room k X.A) (hx : Passes CX X E)
    (ht : eval (.Call (.Attribute o m apos) [] [] pos) X.env = (do
      let ov ← eval o X.env
      standAt apos.atName
      let (f, first) ← holding [ov] (getMethod ov m pl)
      callWith pos f first (backTo pos (starEach [] X.env)) (backToKw pos (keywordEach [] X.env))) := by rfl) :
    PE X (.Call (.Attribute o m apos) [] [] pos) (tMethD P w K mg base CX k m E ta tNil) := by
  subst hP hw hK hm hb
  exact pe_methD0 he hr hx ht
end
end L2
set_option Elab.async false
set_option linter.all false
set_option maxRecDepth 100000
set_option Elab.async false
set_option maxHeartbeats 4000000
/-! ### own rules: a comprehension with any target, whose item looks at no name of the def -/
namespace L2
open PySem PySem.Spec PyProof.Rows
section
variable {prog : Program} {w : World} {A : Around} {R : Result → Shared → Prop} {s : Shared}
/-- a comprehension's turns, where a target of several names lets the iterator's own tuple go -/
theorem loopG {elt tg iter : Expr} {ifs : List Expr} {scope : Scope} {pos : Pos} {it acc : Value} {env : Env} (J : Nat → Shared → Prop)
    (turn : ∀ k s1, J k s1 → wpAny (model prog w) A (pyNext it) (fun r s2 => match r with
      | none => R (.ok .next) s2
      | some v => wpAny (model prog w) A (letOwnedTupleGo tg it v) (fun _ s3 => wpAny (model prog w) A (assign tg env v) (fun _ s4 =>
          wpAny (model prog w) A (forIn ifs true fun c r => if r = true then do let ok ← isTrue c env (eval c env); pure (ForInStep.yield ok) else pure (ForInStep.yield r)) (fun ok s5 =>
            if ok = true then wpAny (model prog w) A (eval elt env) (fun y s6 => wpAny (model prog w) A (call (.builtin "list.append") [acc, y]) (fun _ s7 => ∃ m, m < k ∧ J m s7) (notedBy (model prog w) A env fun e s' => R (.error e) s') s6)
              (notedBy (model prog w) A env fun e s' => R (.error e) s') s5
            else ∃ m, m < k ∧ J m s5) (notedBy (model prog w) A env fun e s' => R (.error e) s') s4) (notedBy (model prog w) A env fun e s' => R (.error e) s') s3) (notedBy (model prog w) A env fun e s' => R (.error e) s') s2)
      (notedBy (model prog w) A env fun e s' => R (.error e) s') s1)
    (k : Nat) (h : J k s) : codeAny (model prog w) A (.compLoop (.ListComp elt [⟨tg, iter, ifs, 0⟩] scope pos) 0 it acc env) R s := by
  refine codeAny_loop rfl J (fun k s1 hJ => ?_) k h
  show wpAny _ A ((compTurn (.ListComp elt [⟨tg, iter, ifs, 0⟩] scope pos) 0 it acc env).onRaise (fun e => do noteFrame e env; theTreesLotGoes e)) _ _ s1
  refine wpAny_noted ?_
  rw [compTurn_list]
  refine wpAny_bind (wpAny_standAt (wpAny_bind (wpAny_mono (turn k s1 hJ) (fun r s2 h2 => ?_) fun _ _ z => z)))
  cases r with
  | none => exact wpAny_pure h2
  | some v =>
    refine wpAny_bind (wpAny_mono h2 (fun _ s3 h3 => wpAny_bind (wpAny_mono h3 (fun _ s4 h4 => wpAny_bind (wpAny_mono h4 (fun ok s5 h5 => ?_) fun _ _ z => z)) fun _ _ z => z)) fun _ _ z => z)
    cases ok with
    | false => exact wpAny_pure ⟨rfl, h5⟩
    | true => exact wpAny_bind (wpAny_bind (wpAny_mono h5 (fun y s6 h6 => wpAny_bind (wpAny_mono h6 (fun _ s7 h7 => wpAny_pure (wpAny_pure ⟨rfl, h7⟩)) fun _ _ z => z)) fun _ _ z => z))
end
section
variable {X : Cx} {tg : Expr} {g : TG} {pos : Pos} {iter elt : Expr} {ifs : List Expr} {scope : Scope} {wi : TI} {tt : TT} {te : TE}
end
/-- min and max of a list of two numbers -/
theorem call_minL {X : Cx} (hc : X.calm = true) : CallR X (.builtin "min") (fun xs H Q => ∃ (p : Addr) (a b : Int), xs = [.ref p] ∧ SqL X.K H p [.int a, .int b] ∧ Q (.int (if b < a then b else a)) H) := by
  intro pins s σ H xs us Q I r h
  obtain ⟨p, a, b, rfl, hq, q⟩ := h
  obtain ⟨u, rfl, rx⟩ := vals1 r
  cases rx
  obtain ⟨its, rv, pl, _⟩ := I.list hq
  obtain ⟨v1, v2, rfl, ⟨t1, rfl⟩, ⟨t2, rfl⟩⟩ := vals2 rv
  have hl : s.heap.IsList p (intItems #[(a, t1), (b, t2)]) := by simpa [intItems] using pl.isList
  refine min_intList (I.ok.hd hc) hl (by simp) fun v h' tk hv hk => ?_
  obtain ⟨t, rfl⟩ := intItems_at hv
  obtain ⟨h1, h2⟩ := argBest_lt (numAt #[(a, t1), (b, t2)]) (#[(a, t1), (b, t2)].size - 1)
  have h1' : argBest (fun i j => decide (numAt #[(a, t1), (b, t2)] i < numAt #[(a, t1), (b, t2)] j)) (#[(a, t1), (b, t2)].size - 1) ≤ 1 := h1
  have ha : _ ≤ a := h2 0 (Nat.zero_le _)
  have hb : _ ≤ b := h2 1 (by simp)
  generalize argBest (fun i j => decide (numAt #[(a, t1), (b, t2)] i < numAt #[(a, t1), (b, t2)] j)) (#[(a, t1), (b, t2)].size - 1) = k at h1' ha hb ⊢
  refine ⟨.int (numAt #[(a, t1), (b, t2)] k), H, I.kept hk, ⟨_, rfl⟩, ?_⟩
  have e : numAt #[(a, t1), (b, t2)] k = if b < a then b else a := by
    match k, h1', ha, hb with
    | 0, _, _, hb =>
      have hb' : a ≤ b := hb
      rw [if_neg (by omega)]; rfl
    | 1, _, ha, _ =>
      have ha' : b ≤ a := ha
      show b = _
      by_cases z : b < a
      · rw [if_pos z]
      · rw [if_neg z]; omega
  rw [e]
  exact q
theorem call_maxL {X : Cx} (hc : X.calm = true) : CallR X (.builtin "max") (fun xs H Q => ∃ (p : Addr) (a b : Int), xs = [.ref p] ∧ SqL X.K H p [.int a, .int b] ∧ Q (.int (if b < a then a else b)) H) := by
  intro pins s σ H xs us Q I r h
  obtain ⟨p, a, b, rfl, hq, q⟩ := h
  obtain ⟨u, rfl, rx⟩ := vals1 r
  cases rx
  obtain ⟨its, rv, pl, _⟩ := I.list hq
  obtain ⟨v1, v2, rfl, ⟨t1, rfl⟩, ⟨t2, rfl⟩⟩ := vals2 rv
  have hl : s.heap.IsList p (intItems #[(a, t1), (b, t2)]) := by simpa [intItems] using pl.isList
  refine max_intList (I.ok.hd hc) hl (by simp) fun v h' tk hv hk => ?_
  obtain ⟨t, rfl⟩ := intItems_at hv
  obtain ⟨h1, h2⟩ := argBest_gt (numAt #[(a, t1), (b, t2)]) (#[(a, t1), (b, t2)].size - 1)
  have h1' : argBest (fun i j => decide (numAt #[(a, t1), (b, t2)] i > numAt #[(a, t1), (b, t2)] j)) (#[(a, t1), (b, t2)].size - 1) ≤ 1 := h1
  have ha : a ≤ _ := h2 0 (Nat.zero_le _)
  have hb : b ≤ _ := h2 1 (by simp)
  generalize argBest (fun i j => decide (numAt #[(a, t1), (b, t2)] i > numAt #[(a, t1), (b, t2)] j)) (#[(a, t1), (b, t2)].size - 1) = k at h1' ha hb ⊢
  refine ⟨.int (numAt #[(a, t1), (b, t2)] k), H, I.kept hk, ⟨_, rfl⟩, ?_⟩
  have e : numAt #[(a, t1), (b, t2)] k = if b < a then a else b := by
    match k, h1', ha, hb with
    | 0, _, _, hb =>
      have hb' : b ≤ a := hb
      show a = _
      by_cases z : b < a
      · rw [if_pos z]
      · rw [if_neg z]; omega
    | 1, _, ha, _ =>
      have ha' : a ≤ b := ha
      rw [if_neg (by omega)]; rfl
  rw [e]
  exact q
/-- a list of the heap is written: tuples stay -/
theorem But.seqTL {K : PySem.W.Frag} {H H' : Hp} {p a : Addr} {zs xs : List V} (e : But p H H') (hp : H p = some (.lst zs)) (h : SqT K H a xs) : SqT K H' a xs := by
  rcases h with (h | ⟨o, h⟩) | h
  · exact .inl (.inl (e _ _ (ne_of h hp (by intro z; cases z)) h))
  · exact .inl (.inr ⟨o, e _ _ (ne_of h hp (by intro z; cases z)) h⟩)
  · exact .inr h
/-- several targets, where the text's objects are said by name -/
theorem pg_tupK {X : Cx} {K : PySem.W.Frag} {es : List Expr} {k : Nat} {pos : Pos} {t : TGs} {n : Nat} (hK : X.K = K) (hc : X.calm = true) (h : PGs X es t)
    (hn : (assignEach es X.env).length = n := by rfl) (hst : (assignEach es X.env).findIdx? (·.1) = none := by rfl) : PG X (.Tuple es k pos) (gTup K n t) := by
  subst hK
  exact pg_tup hc h hn hst
end L2
set_option Elab.async false
set_option linter.all false
set_option maxRecDepth 100000
set_option Elab.async false
set_option maxHeartbeats 4000000
/-! ### own rules: a comprehension with several targets, whose item looks at names of the def -/
namespace L2
open PySem PySem.Spec PyProof.Rows
def cxCompH (X : Cx) (scope : Scope) (xs : List Str) (js : List Nat) (cl : List (Str × Addr)) (C : Addr) (s : Shared) (H : Hp) (ex : List Addr) : Cx where
  prog := X.prog
  w := X.w
  K := X.K
  mg := X.mg
  base := X.base
  A := X.A
  N := xs ++ namesAt X.N js
  s₀ := s
  H₀ := H
  env := compEnvC scope cl C X.env
  outer := X.stack
  stack := X.stack
  ex := ex
  fn := fun _ => false
  calm := X.calm
  pn := []
  xe := fun _ _ => False
def CompEndH (xs : List Str) (js : List Nat) (σ : St) (g : TG) (tt : TT) (te : TE) (Qd : List V → Hp → Prop) (J : It) (H1 : Hp) : Prop := ∃ W : Nat → Nat → List V → Hp → Prop, (∃ m, W 0 m [] H1) ∧ ∀ i m ys H2, W i m ys H2 →
  (J.stop i H2 ∧ ys.length ≤ sizeLine ∧ Qd ys H2) ∨
  (J.go i H2 ∧ ys.length < sizeLine ∧ ∃ N : List V → Hp → Prop, (∀ ys' H', N ys' H' → ∃ m', m' < m ∧ W (i + 1) m' ys' H') ∧ ∀ x H3, J.yld i H2 x H3 → g x ((xs.map fun _ => none) ++ valsAt σ js) H3 fun σ2 H4 => σ2.drop xs.length = valsAt σ js ∧ tt σ2 H4 fun b H5 =>
    if b = true then te σ2 H5 fun y H6 => N (ys ++ [y]) H6 else N ys H5)
def tCompH (xs : List Str) (js : List Nat) (wi : TI) (g : TG) (tt : TT) (te : TE) : TE := fun σ H Q => wi σ H (CompEndH xs js σ g tt te fun ys H2 => ∀ D, H2 D = none → Q (.ref D) (upd H2 D (.lst ys)))
section
variable {X : Cx} {tg : Expr} {g : TG} {pos : Pos} {iter elt : Expr} {ifs : List Expr} {scope : Scope} {wi : TI} {tt : TT} {te : TE}
/-- the block up to its end: RR is what is wanted of the end -/
theorem comp_blockH (xs : List Str) (js : List Nat) {pins : List (Addr × Obj)} {σ : St} {s : Shared} {itv : Value} {Q : List V → Hp → Prop} {RR : Value → Addr → Result → Shared → Prop} {E : Value → Shared → Prop}
    (hc : X.calm = true) (hk : scope.kind = .function) (hcell : ∀ y ∈ scope.names, y.2 ≠ .cell)
    (hfree : ∀ y ∈ scope.names, y.2 = .free → X.env.kindOf y.1 = some .cell ∨ X.env.kindOf y.1 = some .free)
    (hg : ∀ cl C s H ex, PG (cxCompH X scope xs js cl C s H ex) tg g)
    (hif : ∀ cl C s H ex, PF (cxCompH X scope xs js cl C s H ex) ifs tt) (he : ∀ cl C s H ex, PE (cxCompH X scope xs js cl C s H ex) elt te)
    (hjs : ∀ y ∈ namesAt X.N js, scope.names.lookup y = some .free) (hit : PIE X pins σ tg (CompEndH xs js σ g tt te Q) itv s)
    (hR : ∀ D C s' H2 ys m, Inv X pins σ (upd H2 D (.lst ys)) s' → H2 D = none → s'.heap.Ns C m → (∀ h', Heap.SameBut C s'.heap h' → Inv X pins σ (upd H2 D (.lst ys)) { s' with heap := h' }) → FpOk X pins (upd H2 D (.lst ys)) C → C ≠ D → Q ys H2 → RR (.ref D) C (.ok .next) s') :
    wpAny (model X.prog X.w) X.A (newList []) (fun acc s₃ => wpAny (model X.prog X.w) X.A (newFunctionEnv scope X.env.globals (clos X.env scope.names []) [] X.env.qual none .none (some X.env)) (fun cenv s₄ =>
      codeAny (model X.prog X.w) X.A (.compStart (.ListComp elt [⟨tg, iter, ifs, 0⟩] scope pos) 0 itv acc { cenv with scope := relabel scope X.env }) (RR acc cenv.locals) s₄) E s₃) E s := by
  obtain ⟨it, fp, tn, J, H1, rfl, I1, T, st1, f1, W, ⟨m0, w0⟩, turn⟩ := hit
  refine wpAny_newObj_type (wpAny_newFunctionEnv hcell (by intro y hy; simp at hy) (fun h₁ hns₁ hsb₁ => ?_) hk)
  dsimp only at hns₁ hsb₁ ⊢
  generalize hH2 : s.heap.push { cls := .type "list", dict := none, data := .seq ([] : List Value).toArray } = Hl at hns₁ hsb₁ ⊢
  generalize hDe : s.heap.objs.size = D
  have hCe : Hl.objs.size = D + 1 := by rw [← hH2, Heap.size_push, hDe]
  generalize hC : Hl.objs.size = C at hns₁ hsb₁ hCe ⊢
  subst hCe
  have hDC : D ≠ D + 1 := Nat.ne_of_lt (Nat.lt_succ_self _)
  have lt : ∀ b o, s.heap.get? b = some o → b < D := fun b o e => hDe ▸ Heap.lt_size e
  have old : ∀ b o, s.heap.get? b = some o → h₁.get? b = some o := fun b o e => by
    have hb := lt b o e
    refine hsb₁.extBut b o (Nat.ne_of_lt (Nat.lt_succ_of_lt hb)) (Heap.get?_push_of_some _ ?_)
    rw [← hH2]; exact Heap.get?_push_of_some _ e
  have accD : h₁.get? D = some { cls := .type "list", dict := none, data := .seq ([] : List Value).toArray } := by
    refine hsb₁.extBut _ _ hDC (Heap.get?_push_of_some _ ?_)
    rw [← hH2, ← hDe]; exact Heap.get?_push_size _ rfl
  have fresh : ∀ a, D ≤ a → H1 a = none := fun a ha => I1.hok.fresh (by rw [hDe]; exact ha)
  have fpD : ∀ b ∈ fp, b < D := fun b hb => by
    obtain ⟨o, e, _⟩ := T.obj 0 s.heap st1 b hb
    exact lt b o e
  have cellD : ∀ y c, X.env.cells.lookup y = some c → c < D := fun y c e => by
    obtain ⟨v, q⟩ := I1.cell y c e
    exact hDe ▸ q.lt
  generalize hcl : clos X.env scope.names [] = cl
  have clsub : ∀ y c, cl.lookup y = some c → X.env.cells.lookup y = some c := by
    rw [← hcl]; exact clos_sub scope.names [] fun y a e => by simp at e
  have frD : ∀ b ∈ frs X.stack, b < D := fun b hb => by
    obtain ⟨_, o, ho, _⟩ := I1.stack.mem hb
    exact lt b o ho
  -- the block's context
  let Y : Cx := cxCompH X scope xs js cl (D + 1) s H1 fp
  have kinds : ∀ y, Y.env.kindOf y = some .cell ∨ Y.env.kindOf y = some .free → ∃ k ∈ scope.names, k.1 = y ∧ k.2 = .free := fun y hy => by
    have hy' : (relabel scope X.env).names.lookup y = some .cell ∨ (relabel scope X.env).names.lookup y = some .free := hy
    rw [relabel_lookup] at hy'
    cases q : scope.names.lookup y with
    | none => rw [q] at hy'; simp at hy'
    | some k =>
      have hm := PySem.mem_of_lookup q
      refine ⟨(y, k), hm, rfl, ?_⟩
      have h1 : k ≠ .cell := hcell _ hm
      rw [q] at hy'
      simp only [Option.map_some, Option.some.injEq] at hy'
      by_cases hkf : k = .free
      · exact hkf
      · have : (k == NameKind.free) = false := by simpa using hkf
        simp only [this, Bool.false_and, Bool.false_eq_true, if_false] at hy'
        rcases hy' with e | e
        · exact absurd e h1
        · exact absurd e hkf
  have okY : Y.Ok := by
    refine ⟨I1.ok.mod, hk, I1.ok.glob, I1.ok.blt, (by show s.heap.objs.size ≤ D + 1; rw [hDe]; exact Nat.le_succ _), fun y z c h1 h2 => I1.ok.inj y z c (clsub y c h1) (clsub z c h2), fun y hy => ?_, fun y c h _ => absurd h (by show ¬ (false = true); decide), I1.ok.hd, I1.ok.frames, .inl rfl, fun b hb => ⟨Nat.ne_of_lt (Nat.lt_succ_of_lt (fpD b hb)), fun y c e z => (f1 b hb).2.2.2.2.1 y c (clsub y c e) z⟩,
      fun b o e => I1.bs b o e, Nat.le_trans I1.ok.bsz I1.sz, fun b o e hb => ?_, fun b hb hf => ?_, I1.stack, I1.stkFree⟩
    · obtain ⟨k, hm, e1, e2⟩ := kinds y hy
      show ∃ c, cl.lookup y = some c
      rw [← hcl]
      refine clos_has scope.names [] y (.inr ⟨k, hm, e1, e2, ?_⟩)
      have := hfree k hm e2
      rw [e1] at this
      exact I1.ok.has y this
    · obtain ⟨_, _, _, h4, _, _⟩ := f1 b hb
      rcases h4 with z | z
      · exact I1.ok.noex b o e z
      · exact absurd (Nat.lt_of_lt_of_le (Heap.lt_size e) (Nat.le_trans I1.ok.bsz z)) (Nat.lt_irrefl _)
    · rcases List.mem_cons.mp (I1.stkSub b hf) with z | z
      · exact (f1 b hb).2.1 z
      · exact (f1 b hb).2.2.1 z
  let σ0 : St := (xs.map fun _ => none) ++ valsAt σ js
  have IY : Inv Y [] σ0 H1 { s with heap := h₁, toks := s.toks + ([] : List (Str × Value)).length } := by
    refine ⟨okY, rfl, I1.bare, Un.kept old, ⟨_, hns₁, fun i y v e1 e2 e3 => ?_⟩, fun y c e => ?_, fresh _ (Nat.le_succ _), fun y c e => I1.freeC y c (clsub y c e), fun p hp => absurd (show p ∈ ([] : List (Addr × Obj)) from hp) (by simp), I1.hok.kept old, ?_⟩
    · by_cases hi : i < xs.length
      · exfalso
        have e2' : ((xs.map fun _ => (none : Option V)) ++ valsAt σ js)[i]? = some (some v) := e2
        rw [List.getElem?_append_left (by rw [List.length_map]; exact hi), List.getElem?_map, List.getElem?_eq_getElem hi] at e2'
        cases e2'
      · have e1' : (xs ++ namesAt X.N js)[i]? = some y := e1
        have e2' : ((xs.map fun _ => (none : Option V)) ++ valsAt σ js)[i]? = some (some v) := e2
        rw [List.getElem?_append_right (by omega)] at e1'
        rw [List.getElem?_append_right (by rw [List.length_map]; omega), List.length_map] at e2'
        generalize i - xs.length = i at e1' e2'
        unfold namesAt at e1'
        unfold valsAt at e2'
        rw [List.getElem?_map] at e1' e2'
        cases q : js[i]? with
        | none => rw [q] at e1'; cases e1'
        | some j =>
          rw [q] at e1' e2'
          simp only [Option.map_some, Option.some.injEq] at e1' e2'
          have hv : σ[j]? = some (some v) := by
            cases z : σ[j]? with
            | none => rw [z] at e2'; cases e2'
            | some w => rw [z] at e2'; simpa using e2'
          have hj : j < X.N.length := by
            rw [← I1.len]; exact (List.getElem?_eq_some_iff.mp hv).1
          have hy : X.N[j]? = some y := by
            rw [List.getElem?_eq_getElem hj] at e1' ⊢
            rw [← e1']; rfl
          obtain ⟨m, hn, hl⟩ := I1.loc
          have hmem : y ∈ namesAt X.N js := List.mem_map.mpr ⟨j, List.mem_of_getElem? q, by rw [hy]; rfl⟩
          have hfr := hjs y hmem
          have hkx := hfree _ (PySem.mem_of_lookup hfr) rfl
          have hvis : Vis X.env.scope y := hkx.elim (fun z => .inr (.inl z)) fun z => .inr (.inr z)
          obtain ⟨u, r, l⟩ := hl j y v hy hv hvis
          refine ⟨u, r, ?_⟩
          rcases l with ⟨kl, _⟩ | ⟨_, c, hc1, z⟩
          · exfalso
            have kl' : X.env.kindOf y = some .local := kl
            rcases hkx with w | w <;> · rw [show X.env.kindOf y = _ from w] at kl'; cases kl'
          · obtain ⟨c', hc'⟩ := clos_has (env := X.env) scope.names [] y (.inr ⟨_, PySem.mem_of_lookup hfr, rfl, rfl, c, hc1⟩)
            rw [hcl] at hc'
            have e4 := clsub y c' hc'
            rw [hc1] at e4
            cases e4
            obtain ⟨o, ho, hd⟩ := z
            refine .inr ⟨?_, c, hc', o, old c o ho, hd⟩
            rcases e3 with e3 | e3 | e3
            · exfalso
              have e3' : (relabel scope X.env).names.lookup y = some .local := e3
              rw [relabel_lookup, hfr] at e3'
              simp only [Option.map_some, Option.some.injEq] at e3'
              split at e3' <;> cases e3'
            · exact .inl e3
            · exact .inr e3
    · obtain ⟨v, q⟩ := I1.cell y c (clsub y c e)
      obtain ⟨o, ho, hd⟩ := q
      exact ⟨v, o, old c o ho, hd⟩
    · show ((xs.map fun _ => (none : Option V)) ++ valsAt σ js).length = (xs ++ namesAt X.N js).length
      unfold valsAt namesAt
      rw [List.length_append, List.length_append, List.length_map, List.length_map, List.length_map]
  have mkR : ∀ (s' : Shared) (H2 : Hp) (ys : List V) (its : List Value) (σ' : St), Inv Y [] σ' H2 s' → s'.heap.PlainList D its.toArray → Vals ys its → ys.length ≤ sizeLine → H2 D = none → Q ys H2 → RR (.ref D) (D + 1) (.ok .next) s' := by
    intro s' H2 ys its σ' I' pl rv hz hD hq
    obtain ⟨m, hn, _⟩ := I'.loc
    have hn' : s'.heap.Ns (D + 1) m := hn
    have hCn : H2 (D + 1) = none := I'.free
    have hch : ∀ b ∈ fp, (b ∈ X.ex ∨ X.s₀.heap.objs.size ≤ b) ∧ b ≠ X.env.locals ∧ (∀ x c, X.env.cells.lookup x = some c → c ≠ b) ∧ ∀ p ∈ X.pn ++ pins, p.1 ≠ b := fun b hb => by
      obtain ⟨_, h2, _, h4, h5, h6⟩ := f1 b hb
      exact ⟨h4, h2, h5, h6⟩
    have bs : Un (frs X.stack) fp H1 H2 s.heap s'.heap := I'.base
    have all : ∀ h', Heap.SameBut (D + 1) s'.heap h' → Inv X pins σ (upd H2 D (.lst ys)) { s' with heap := h' } := fun h' sb => by
      have neD : ∀ b o, s.heap.get? b = some o → b ≠ D := fun b o e => Nat.ne_of_lt (lt b o e)
      have neC : ∀ b o, s.heap.get? b = some o → b ≠ D + 1 := fun b o e => Nat.ne_of_lt (Nat.lt_succ_of_lt (lt b o e))
      refine I1.call' (s' := { s' with heap := h' }) (ch := fp) I'.os ⟨fun b o e n hb hx => ?_, fun b o e n hb hx => ?_, fun b o e n hx => ?_, fun b o e hx => ?_, fun b xs e => ?_, fun b o u e => ?_, fun b ps e => ?_⟩ ?_ I'.bare hch
      · exact (sb.2 b (neC b o e)).trans (bs.keep b o e n hb hx)
      · obtain ⟨sl, q⟩ := bs.slot b o e n hb hx
        exact ⟨sl, (sb.2 b (neC b o e)).trans q⟩
      · rw [upd_ne (neD b o e)]; exact bs.free b o e n hx
      · obtain ⟨o', q⟩ := bs.there b o e hx
        exact ⟨o', (sb.2 b (neC b o e)).trans q⟩
      · have := bs.tups b xs e
        rw [upd_ne (ne_of_none this hD)]; exact this
      · have := bs.frzs b o u e
        rw [upd_ne (ne_of_none this hD)]; exact this
      · obtain ⟨more, q⟩ := bs.tbls b ps e
        exact ⟨more, by rw [upd_ne (ne_of_none q hD)]; exact q⟩
      · have h0 : HOk X.prog X.w H2 h' := fun b u e => (I'.hok b u e).stay (fun c v hc q => (sb.2 c (by
          rintro rfl
          rcases hc with z | z
          · rw [z, e] at hCn; cases hCn
          · rw [z] at hCn; cases hCn)).trans q) (fun _ q => q) fun _ _ q => q
        refine hok_track h0 hD ?_
        obtain ⟨n, e⟩ := pl
        exact ⟨hz, its, n, rv, (sb.2 D hDC).trans e⟩
    have hall := all s'.heap (.refl ..)
    refine hR D (D + 1) s' H2 ys m hall hD hn' all ?_ hDC.symm hq
    refine ⟨by rw [upd_ne hDC.symm]; exact hCn, ?_, ?_, .inr (Nat.le_trans I1.sz (by rw [hDe]; exact Nat.le_succ _)), fun y c e z => ?_, fun p hp z => ?_⟩
    · exact Nat.ne_of_gt (Nat.lt_trans (hDe ▸ I1.lt) (Nat.lt_succ_self _))
    · exact I1.nofs (by rw [hDe]; exact Nat.le_succ _)
    · exact absurd z (Nat.ne_of_lt (Nat.lt_succ_of_lt (cellD y c e)))
    · exact absurd z (Nat.ne_of_lt (Nat.lt_succ_of_lt (lt _ _ (I1.pin p hp).1)))
  have loop : ∀ s₃ : Shared, s₃ = { s with heap := h₁, toks := s.toks + ([] : List (Str × Value)).length } →
      codeAny (model X.prog X.w) X.A (.compLoop (.ListComp elt [⟨tg, iter, ifs, 0⟩] scope pos) 0 (.ref it) (.ref D) Y.env) (RR (.ref D) (D + 1)) s₃ := by
    rintro s₃ rfl
    have stat : ∀ {H' : Hp} {ob : Obj}, (∀ b ∈ fp, H' b = none) → ∀ b ∈ fp, FpOk Y [(D, ob)] H' b := fun {H'} {ob} hn b hb => by
      refine ⟨hn b hb, Nat.ne_of_lt (Nat.lt_succ_of_lt (fpD b hb)), fun hf => okY.exfs b hb hf, .inl hb, fun y c e => (okY.exf b hb).2 y c e, fun p hp z => ?_⟩
      have hp' : p ∈ [(D, ob)] := hp
      have e : p = (D, ob) := by simpa using hp'
      rw [e] at z
      exact absurd z (Ne.symm (Nat.ne_of_lt (fpD b hb)))
    refine loopG (fun n s' => ∃ i ys its H', ∃ ob : Obj, Inv Y [(D, ob)] σ0 H' s' ∧ (∃ n, ob = { cls := .type "list", data := .seq its.toArray n }) ∧ Vals ys its ∧ H' D = none ∧ tn i s'.heap ∧ (∀ b ∈ fp, H' b = none) ∧ W i n ys H') ?_ m0
      ⟨0, [], [], H1, { cls := .type "list", dict := none, data := .seq ([] : List Value).toArray }, ?_, ⟨_, rfl⟩, .nil, fresh _ (Nat.le_refl _), T.keep _ _ _ st1 fun b _ o e => old b o e, fun b hb => (f1 b hb).1, w0⟩
    · rintro n s3 ⟨i, ys, its, H3, ob, I3, ⟨cap, rfl⟩, rv, hD, st3, fr3, w3⟩
      rcases turn i n ys H3 w3 with ⟨stop, hz, hq⟩ | ⟨go, hz, N, hN7, step⟩
      · refine wpAny_mono (T.done Y rfl rfl rfl hc i _ s3 σ0 H3 (fun _ _ => False) I3 (stat fr3) st3 stop) (fun r s4 ⟨hr, I4⟩ => ?_) fun _ _ f => f.elim
        subst hr
        exact mkR s4 H3 ys its σ0 (I4.pins_of fun p hp => absurd hp (by simp)) ⟨cap, (I4.pin _ (List.mem_append_right _ List.mem_cons_self)).1⟩ rv hz hD hq
      · refine wpAny_mono (T.item Y rfl rfl rfl hc i _ s3 σ0 H3 (fun _ _ => False) I3 (stat fr3) st3 go) (fun r s4 ⟨u, hr, h4⟩ => ?_) fun _ _ f => f.elim
        subst hr
        refine wpAny_mono h4 (fun _ s4 ⟨xv, H5, I5, r5, y5, st5, fr5⟩ => ?_) fun _ _ f => f.elim
        have I5' := I5.pinned (stat fr5) (T.obj _ _ st5)
        refine wpAny_mono (hg cl (D + 1) s H1 fp _ _ σ0 H5 xv u _ I5' r5 (step xv H5 y5)) (fun _ s6 ⟨σ6, H6, I6, hσ6, q6⟩ => ?_) fun _ _ f => False.elim f
        have again : ∀ {s7 : Shared} {H7 : Hp} {ys7 : List V} {its7 : List Value} {cap7 : Nat} {pl : List (Addr × Obj)}, Inv Y ([(D, { cls := .type "list", data := .seq its7.toArray cap7 })] ++ pl) σ6 H7 s7 → (∀ b ∈ fp, ∀ o, s4.heap.get? b = some o → s7.heap.get? b = some o ∧ H7 b = none) → Vals ys7 its7 → (∃ m', m' < n ∧ W (i + 1) m' ys7 H7) →
            ∃ m, m < n ∧ ∃ i ys its H', ∃ ob : Obj, Inv Y [(D, ob)] σ0 H' s7 ∧ (∃ n, ob = { cls := .type "list", data := .seq its.toArray n }) ∧ Vals ys its ∧ H' D = none ∧ tn i s7.heap ∧ (∀ b ∈ fp, H' b = none) ∧ W i m ys H' := by
          intro s7 H7 ys7 its7 cap7 pl I7 kf rv7 ⟨m', hm, w7⟩
          refine ⟨m', hm, i + 1, ys7, its7, H7, _, I7.unpinned.weak (by rw [I7.len]; show ((xs.map fun _ => (none : Option V)) ++ valsAt σ js).length = (xs ++ namesAt X.N js).length; unfold valsAt namesAt; rw [List.length_append, List.length_append, List.length_map, List.length_map, List.length_map]) fun j v e => ?_, ⟨cap7, rfl⟩, rv7, (I7.pin _ (List.mem_append_right _ (List.mem_append_left _ List.mem_cons_self))).2.1, T.keep _ _ _ st5 fun b hb o e => (kf b hb o e).1, fun b hb => ?_, w7⟩
          · have e' : ((xs.map fun _ => (none : Option V)) ++ valsAt σ js)[j]? = some (some v) := e
            by_cases hj : j < xs.length
            · exfalso
              rw [List.getElem?_append_left (by rw [List.length_map]; exact hj), List.getElem?_map, List.getElem?_eq_getElem hj] at e'
              cases e'
            · rw [List.getElem?_append_right (by rw [List.length_map]; omega), List.length_map, ← hσ6, List.getElem?_drop] at e'
              rw [show xs.length + (j - xs.length) = j by omega] at e'
              exact e'
          · obtain ⟨o, e, _⟩ := T.obj _ _ st5 b hb
            exact (kf b hb o e).2
        refine wpAny_mono (hif cl (D + 1) s H1 fp _ s6 _ H6 _ I6 q6) (fun ok s7 ⟨H7, I7, q7⟩ => ?_) fun _ _ f => False.elim f
        have kf7 : ∀ b ∈ fp, ∀ o, s4.heap.get? b = some o → s7.heap.get? b = some o ∧ H7 b = none := fun b hb o e =>
          have z := I7.pin (b, o) (List.mem_append_right _ (List.mem_append_right _ (mem_pinsAt hb e)))
          ⟨z.1, z.2.1⟩
        cases ok with
        | false =>
          rw [if_neg Bool.false_ne_true] at q7 ⊢
          exact again I7 kf7 rv (hN7 _ _ q7)
        | true =>
          rw [if_pos rfl] at q7 ⊢
          refine wpAny_mono (he cl (D + 1) s H1 fp _ s7 _ H7 _ I7 q7) (fun yv s8 ⟨y, H8, I8, r8, q8⟩ => ?_) fun _ _ f => False.elim f
          have pD := I8.pin _ (List.mem_append_right _ (List.mem_append_left _ List.mem_cons_self))
          have hlen := rv.length
          refine wpAny_list_append_plain (items := its.toArray) ⟨cap, pD.1⟩ (fun h9 pl9 sb9 => ?_) (by rw [List.size_toArray]; omega)
          obtain ⟨cap9, e9⟩ := pl9
          have I9 : Inv Y [] σ6 H8 { s8 with heap := h9 } := (I8.pins_of (pins' := []) fun p hp => absurd hp (by simp)).turned (t' := s8.toks) (it := D) (fun b o hb e => (sb9.2 b hb).trans e) pD.2.1 hDC
            (.inr (Nat.le_of_eq hDe)) (fun y c e z => absurd z (Nat.ne_of_lt (cellD y c (clsub y c e)))) fun p hp => absurd (show p ∈ ([] : List (Addr × Obj)) from hp) (by simp)
          have kf9 : ∀ b ∈ fp, ∀ o, s4.heap.get? b = some o → h9.get? b = some o ∧ H8 b = none := fun b hb o e => by
            have z := I8.pin (b, o) (List.mem_append_right _ (List.mem_append_right _ (mem_pinsAt hb e)))
            exact ⟨(sb9.2 b (Nat.ne_of_lt (fpD b hb))).trans z.1, z.2.1⟩
          refine again (s7 := { s8 with heap := h9 }) (its7 := its ++ [yv]) (cap7 := cap9) (pl := []) (I9.pins_of fun p hp => ?_) kf9 (rv.append (.cons r8 .nil)) (hN7 _ _ q8)
          have hp' : p = (D, { cls := .type "list", data := .seq (its ++ [yv]).toArray cap9 }) := by simpa using hp
          subst hp'
          refine ⟨?_, pD.2.1, pD.2.2.1, pD.2.2.2.1, fun v z => by cases z⟩
          rw [e9]
          simp
    · refine IY.pins_of fun p hp => ?_
      have hp' : p = (D, { cls := .type "list", dict := none, data := .seq ([] : List Value).toArray }) := by simpa using hp
      subst hp'
      exact ⟨accD, fresh _ (Nat.le_refl _), hDC, fun hf => Nat.lt_irrefl _ (frD _ hf), fun v z => by cases z⟩
  exact codeAny_compStart_list (loop _ rfl) (wpAny_mono (T.self X.A 0 _ (fun v s' => v = .ref it ∧ s' = { s with heap := h₁, toks := s.toks + ([] : List (Str × Value)).length }) (fun _ _ => False) (T.keep _ _ _ st1 fun b _ o e => old b o e) ⟨rfl, rfl⟩) (fun v s' ⟨e1, e2⟩ => by subst e1 e2; exact loop _ rfl) fun _ _ f => f.elim)
theorem pe_compH (xs : List Str) (js : List Nat) (N0 : List Str) (sc0 : Scope) (hc : X.calm = true) (hi : PI X tg iter wi) (hg : ∀ cl C s H ex, PG (cxCompH X scope xs js cl C s H ex) tg g)
    (hif : ∀ cl C s H ex, PF (cxCompH X scope xs js cl C s H ex) ifs tt) (he : ∀ cl C s H ex, PE (cxCompH X scope xs js cl C s H ex) elt te)
    (hk : scope.kind = .function := by rfl) (hcell : ∀ y ∈ scope.names, y.2 ≠ .cell := by decide +kernel)
    (hnames : ∀ y ∈ scope.names, y.2 = .local → scope.names.lookup y.1 = some .local := by decide +kernel)
    (hsc : X.env.scope = sc0 := by rfl) (hfree0 : ∀ y ∈ scope.names, y.2 = .free → sc0.names.lookup y.1 = some .cell ∨ sc0.names.lookup y.1 = some .free := by decide +kernel)
    (hNN : X.N = N0 := by rfl) (hj0 : ∀ y ∈ namesAt N0 js, scope.names.lookup y = some .free := by decide +kernel)
    (hs : ∀ x, foldedSetIterable iter X.env x = pure x := by intro _; rfl) :
    PE X (.ListComp elt [⟨tg, iter, ifs, 0⟩] scope pos) (tCompH xs js wi g tt te) := by
  intro pins s σ H Q I h
  have hfree : ∀ y ∈ scope.names, y.2 = .free → X.env.kindOf y.1 = some .cell ∨ X.env.kindOf y.1 = some .free := fun y hy e => by
    show X.env.scope.names.lookup y.1 = some .cell ∨ X.env.scope.names.lookup y.1 = some .free
    rw [hsc]; exact hfree0 y hy e
  rw [eval_ListComp]
  have hcl : closureFor scope X.env = pure (clos X.env scope.names []) := closureFor_eq fun y hy e => I.ok.has y.1 (hfree y hy e)
  refine wpAny_comprehension_free (use := none) rfl hs hcl hk hnames (thn (hi pins s σ H _ I h) fun xv s1 h1 => thn h1 fun it s2 h2 => ?_)
  have hjs : ∀ y ∈ namesAt X.N js, scope.names.lookup y = some .free := by rw [hNN]; exact hj0
  refine comp_blockH xs js (RR := fun acc C => compPost (model X.prog X.w) X.A X.xe none (EP X pins σ Q) acc C) (Q := fun ys H2 => ∀ D, H2 D = none → Q (.ref D) (upd H2 D (.lst ys))) hc hk hcell hfree hg hif he hjs h2 ?_
  intro D C s' H2 ys m I' hD hn all fpC hCD hq
  exact ⟨m, hn, fun h' sb => ⟨.ref D, _, all h' sb, rfl, hq D hD⟩⟩
/-- y = [..], where y is a plain local name -/
theorem ps_compH {i : Nat} {y : Str} {py spos : Pos} (xs : List Str) (js : List Nat) (N0 : List Str) (sc0 : Scope) (hc : X.calm = true) (hNX : X.N.Nodup) (hiy : X.N[i]? = some y) (hi : PI X tg iter wi) (hg : ∀ cl C s H ex, PG (cxCompH X scope xs js cl C s H ex) tg g)
    (hif : ∀ cl C s H ex, PF (cxCompH X scope xs js cl C s H ex) ifs tt) (he : ∀ cl C s H ex, PE (cxCompH X scope xs js cl C s H ex) elt te)
    (hsw : swapsWith (.ListComp elt [⟨tg, iter, ifs, 0⟩] scope pos) (some (.Name y py)) spos.line X.env = pure true := by rfl) (hy : X.env.scope.names.lookup y = some .local := by rfl)
    (hk : scope.kind = .function := by rfl) (hcell : ∀ y ∈ scope.names, y.2 ≠ .cell := by decide +kernel)
    (hnames : ∀ y ∈ scope.names, y.2 = .local → scope.names.lookup y.1 = some .local := by decide +kernel)
    (hsc : X.env.scope = sc0 := by rfl) (hfree0 : ∀ y ∈ scope.names, y.2 = .free → sc0.names.lookup y.1 = some .cell ∨ sc0.names.lookup y.1 = some .free := by decide +kernel)
    (hNN : X.N = N0 := by rfl) (hj0 : ∀ y ∈ namesAt N0 js, scope.names.lookup y = some .free := by decide +kernel)
    (hs : ∀ x, foldedSetIterable iter X.env x = pure x := by intro _; rfl) :
    PS X (.Assign [.Name y py] (.ListComp elt [⟨tg, iter, ifs, 0⟩] scope pos) spos) (tAsg (tCompH xs js wi g tt te) (gName i)) := by
  intro pins s σ H D I h
  have hfree : ∀ y ∈ scope.names, y.2 = .free → X.env.kindOf y.1 = some .cell ∨ X.env.kindOf y.1 = some .free := fun y hy e => by
    show X.env.scope.names.lookup y.1 = some .cell ∨ X.env.scope.names.lookup y.1 = some .free
    rw [hsc]; exact hfree0 y hy e
  have hjs : ∀ y ∈ namesAt X.N js, scope.names.lookup y = some .free := by rw [hNN]; exact hj0
  rw [exec_Assign_Name_used _ _ _ _ hsw]
  refine wpAny_bind (wpAny_standAt (wpAny_bind ?_))
  show wpAny _ X.A (do let _ ← comprehension (.ListComp elt [⟨tg, iter, ifs, 0⟩] scope pos) scope X.env _ (newList []) false (eval iter X.env) (some (assign (.Name y py) X.env))) _ _ s
  have hcl : closureFor scope X.env = pure (clos X.env scope.names []) := closureFor_eq fun y hy e => I.ok.has y.1 (hfree y hy e)
  refine wpAny_bind (wpAny_mono (wpAny_comprehension_free (use := some (assign (.Name y py) X.env)) (Q := fun _ s' => SP X pins D .next s') rfl hs hcl hk hnames
    (thn (hi pins s σ H _ I h) fun xv s1 h1 => thn h1 fun it s2 h2 => ?_)) (fun _ s' hq => wpAny_pure (wpAny_pure hq)) fun _ _ e => e)
  refine comp_blockH xs js (RR := fun acc C => compPost (model X.prog X.w) X.A X.xe (some (assign (.Name y py) X.env)) (fun _ s' => SP X pins D .next s') acc C) (Q := fun ys H2 => ∀ D', H2 D' = none → D.nx (σ.set i (some (.ref D'))) (upd H2 D' (.lst ys))) hc hk hcell hfree hg hif he hjs h2 ?_
  intro D' C s' H2 ys m I' hD hn all fpC hCD hq
  show wpAny _ X.A (assign (.Name y py) X.env (.ref D')) _ _ _
  refine wpAny_assign_Name (store_ok2 I' hNX hiy (.inl hy) (v := .ref D') rfl (fun s'' I'' ⟨a, sb, ha⟩ => ?_) (.inr hy))
  obtain ⟨f1, f2, f3, f4, f5, f6⟩ := fpC
  have hCa : C ≠ a := by
    rcases ha with z | z
    · rw [z]; exact f2
    · exact fun w => f5 _ _ z w.symm
  exact ⟨m, hn.sameBut sb hCa, fun h' sb' => ⟨_, _, I''.turned (t' := s''.toks) (it := C) (fun b o hb e => (sb'.2 b hb).trans e) f1 f2 f4 f5 f6, hq D' hD⟩⟩
end
theorem comp_listH {ts : List Str} {js : List Nat} {σ : St} {g : TG} {tt : TT} {te : TE} {Qd : List V → Hp → Prop} {K : PySem.W.Frag} {a : Addr} {xs : List V} {H : Hp} (Pv : Nat → List V → Hp → Prop) (hn : xs.length ≤ sizeLine) (h0 : Pv 0 [] H) (hl : ∀ i ys H, Pv i ys H → ys.length ≤ i) (hq : ∀ i ys H, i ≤ xs.length → Pv i ys H → SqL K H a xs)
    (hs : ∀ i x ys H, xs[i]? = some x → Pv i ys H → g x ((ts.map fun _ => none) ++ valsAt σ js) H fun σ2 H3 => σ2.drop ts.length = valsAt σ js ∧ tt σ2 H3 fun b H4 => if b = true then te σ2 H4 fun y H5 => Pv (i + 1) (ys ++ [y]) H5 else Pv (i + 1) ys H4)
    (hd : ∀ ys H, Pv xs.length ys H → Qd ys H) : CompEndH ts js σ g tt te Qd (Itl K a) H := by
  refine ⟨fun i m ys H => m = xs.length - i ∧ i ≤ xs.length ∧ Pv i ys H, ⟨xs.length, by simp, Nat.zero_le _, h0⟩, ?_⟩
  rintro i m ys H ⟨rfl, hi, p⟩
  have hlen := hl i ys H p
  have q := hq i ys H hi p
  by_cases hlt : i < xs.length
  · refine .inr ⟨⟨xs, xs[i], q, by simp [hlt]⟩, by omega, Pv (i + 1), fun ys' H' p' => ⟨xs.length - (i + 1), by omega, rfl, hlt, p'⟩, fun x H' y => ?_⟩
    obtain ⟨e, y⟩ := y
    subst e
    exact hs i x ys _ (y xs q) p
  · have e : i = xs.length := by omega
    subst e
    exact .inl ⟨⟨xs, q, Nat.le_refl _⟩, by omega, hd ys H p⟩
end L2
set_option Elab.async false
set_option linter.all false
set_option maxRecDepth 100000set_option Elab.async false
set_option maxHeartbeats 4000000
/-! own rules: a def with defaults, called with all its arguments -/
namespace L2
open PySem PySem.Spec PyProof.Rows
structure FunD (K : PySem.W.Frag) (x qual : Str) (st : Stmt) (f : Addr) (fd : FuncData) (its : Array Value) : Prop where
  ex : ∃ (oc : Value) (od : Option Addr) (T : Addr) (kV doc pm : Value) (an : Option Addr) (cdv ct : Value) (osl : Array (Option Value)) (o : Obj) (n : Nat),
    fd = PySem.W.fnOf x qual (defArgs st) (defBody st) (defScope st) (.ref T) kV doc pm an cdv ct ∧ K.lookup f = some ⟨oc, od, .func fd, osl⟩ ∧ PySem.W.codeIn K cdv qual = true ∧ K.lookup T = some o ∧ o.data = .seq its n
  kp : PySem.W.keepIn K (.ref f) = true
section
variable {P : Program} {w : World} {K : PySem.W.Frag} {mg : Str → Option Value} {base : Heap} {its : Array Value}
theorem FunD.ok {x qual : Str} {st : Stmt} {f : Addr} {fd : FuncData} {N ps : List Str} {k : Nat} {sp : Sp} (F : FunD K x qual st f fd its) (S : FnScope N ps (defScope st)) (len : ∀ vs H Q E, sp vs H Q E → vs.length = ps.length)
    (hbody : ∀ (cdv : Value) (A : Around) (outer : List Env) (s : Shared) (H : Hp) (vs : List V) (Q : VK) (E : XK), Room k (A.deeper (envOfC qual (defScope st) s.heap.objs.size f cdv)) → sp vs H Q E →
      ∃ t, PSs (cxOf CX0 P w K mg base N qual (defScope st) f cdv A outer s H E).nox (defBody st) t ∧ t { nx := fun _ H' => Q .non H', rt := Q } (start N vs) H) : FnOk P w K mg base CX0 (k + 1) f fd ps sp := by
  obtain ⟨oc, od, T, kV, doc, pm, an, cdv, ct, osl, o, n, rfl, lk, hcd, _⟩ := F.ex
  refine fn_of lk hcd S len fun A outer s H vs Q E hr hsp => ?_
  obtain ⟨t, h, q⟩ := hbody cdv A outer s H vs Q E hr hsp
  exact ⟨t, h.nox, q⟩
theorem FunD.binds {x qual : Str} {st : Stmt} {f : Addr} {fd : FuncData} {ps : List Str} (F : FunD K x qual st f fd its)
    (h : ∀ (T : Addr) (kV doc pm : Value) (an : Option Addr) (cdv ct : Value) (us : List Value), us.length = ps.length → ∃ k, bindArgs (PySem.W.fnOf x qual (defArgs st) (defBody st) (defScope st) (.ref T) kV doc pm an cdv ct) ⟨us, []⟩ = seqItems? (.ref T) >>= k ∧ k (some its) = pure (ps.zip us)) : Binds K fd ps [] := by
  obtain ⟨oc, od, T, kV, doc, pm, an, cdv, ct, osl, o, n, rfl, lk, hcd, hT, ho⟩ := F.ex
  intro s us X hl
  rw [List.append_nil] at hl ⊢
  obtain ⟨k, h1, h2⟩ := h T kV doc pm an cdv ct us hl
  exact .of_defaults rfl (X _ _ hT) ho h1 h2
theorem funD_mk {x qual : Str} {st : Stmt} {f T : Addr} {oc : Value} {od an : Option Addr} {osl : Array (Option Value)} {kV doc pm cdv ct : Value} {o : Obj} {n : Nat} (l : K.lookup f = some ⟨oc, od, .func (PySem.W.fnOf x qual (defArgs st) (defBody st) (defScope st) (.ref T) kV doc pm an cdv ct), osl⟩)
    (c : PySem.W.codeIn K cdv qual = true) (k : PySem.W.keepIn K (.ref f) = true) (d : K.lookup T = some o) (e : o.data = .seq its n) : FunD K x qual st f (PySem.W.fnOf x qual (defArgs st) (defBody st) (defScope st) (.ref T) kV doc pm an cdv ct) its := ⟨⟨oc, od, T, kV, doc, pm, an, cdv, ct, osl, o, n, rfl, l, c, d, e⟩, k⟩
end
end L2
namespace L2
open PySem PySem.Spec PyProof.Rows
/-- two dicts of one key whose values are equal data -/
def rEqK (K : PySem.W.Frag) : R2 := fun x y H Q => ∃ (p q : Addr) (k : Key) (v v' : V) (d : PyData), x = .ref p ∧ y = .ref q ∧ p ≠ q ∧ Rd H p (.dK [(k, v)]) ∧ Rd H q (.dK [(k, v')]) ∧ Dt K H v d ∧ Dt K H v' d ∧ SeqAt.shaped d = true ∧ PyData.eqv d d = true ∧ Q (.bl true) H
theorem op_eqK {X : Cx} (hu : X.A.units + 100 < cLine) : OpR X (compareOp .Eq) (rEqK X.K) := by
  intro pins s σ H x y v u Q I rx ry h
  obtain ⟨p, q, k, v1, v2, d, rfl, rfl, ne, h1, h2, t1, t2, sh, ev, hq⟩ := h
  cases rx
  cases ry
  obtain ⟨_, a1, va, r1, d1⟩ := dk_rd I.hok h1
  obtain ⟨_, a2, vb, r2, d2⟩ := dk_rd I.hok h2
  obtain ⟨_, _, _, _, _, _, _, _, nd⟩ := id d2
  obtain ⟨u1, e1, g1⟩ := kv_get3 (i := 0) r1 rfl
  obtain ⟨u2, e2, g2⟩ := kv_get3 (i := 0) r2 rfl
  have l1 : va.length = 1 := (Paired.length r1).symm
  have l2 : vb.length = 1 := (Paired.length r2).symm
  have ea : va = [(k, u1)] := by
    match va, l1, e1 with
    | [x], _, e1 => cases (Option.some.inj e1); rfl
  subst ea
  obtain ⟨as, q1⟩ := t1.reads I g1
  obtain ⟨bs, q2⟩ := t2.reads I g2
  have he := PySem.W.keq_at (A := X.A) q1 q2 sh sh (by show X.A.units + 1 + 64 < cLine; omega)
  rw [ev] at he
  refine PySem.W.keq_eq a1 a2 d1 d2 (by omega) (fun _ => PySem.W.KeqHits.hit (e := true) (b := true) (valueAt_nodup nd e2) he .nil) ?_
  rw [show ([(k, u1)] : List (Key × Value)).length = 1 from rfl, l2]
  exact fin_bl I hq rfl
end L2
namespace L2
open PySem PySem.Spec PyProof.Rows
/-- a comprehension over enumerate(list) with several targets -/
theorem comp_enumH {ts : List Str} {js : List Nat} {σ : St} {g : TG} {tt : TT} {te : TE} {Qd : List V → Hp → Prop} {K : PySem.W.Frag} {a : Addr} {xs : List V} {H : Hp} (Pv : Nat → List V → Hp → Prop) (hn : xs.length ≤ sizeLine) (h0 : Pv 0 [] H) (hl : ∀ i ys H, Pv i ys H → ys.length ≤ i) (hq : ∀ i ys H, i ≤ xs.length → Pv i ys H → SqL K H a xs)
    (hs : ∀ i x ys H p, xs[i]? = some x → Pv i ys H → H p = none → g (.ref p) ((ts.map fun _ => none) ++ valsAt σ js) (upd H p (.tup [.int (i : Nat), x])) fun σ2 H3 => σ2.drop ts.length = valsAt σ js ∧ tt σ2 H3 fun b H4 => if b = true then te σ2 H4 fun y H5 => Pv (i + 1) (ys ++ [y]) H5 else Pv (i + 1) ys H4)
    (hd : ∀ ys H, Pv xs.length ys H → Qd ys H) : CompEndH ts js σ g tt te Qd (Iten K a) H := by
  refine ⟨fun i m ys H => m = xs.length - i ∧ i ≤ xs.length ∧ Pv i ys H, ⟨xs.length, by simp, Nat.zero_le _, h0⟩, ?_⟩
  rintro i m ys H ⟨rfl, hi, p⟩
  have hlen := hl i ys H p
  have q := hq i ys H hi p
  by_cases hlt : i < xs.length
  · refine .inr ⟨⟨xs, xs[i], q, by simp [hlt]⟩, by omega, Pv (i + 1), fun ys' H' p' => ⟨xs.length - (i + 1), by omega, rfl, hlt, p'⟩, fun x H' y => ?_⟩
    obtain ⟨u, z, hu, ex, eH, hy⟩ := y
    subst ex eH
    exact hs i z ys H u (hy xs q) p hu
  · have e : i = xs.length := by omega
    subst e
    exact .inl ⟨⟨xs, q, Nat.le_refl _⟩, by omega, hd ys H p⟩
end L2
namespace L2
open PySem PySem.Spec PyProof.Rows
/-- the rules' kinds, shut: what holds displays of constants must not be run while a term is read -/
@[irreducible] def ZE (X : Cx) (e : Expr) (t : TE) : Prop := PE X e t
@[irreducible] def ZA (X : Cx) (es : List Expr) (t : TA) : Prop := PA X es t
@[irreducible] def ZS (X : Cx) (st : Stmt) (t : TS) : Prop := PS X st t
@[irreducible] def ZSs (X : Cx) (sts : List Stmt) (t : TS) : Prop := PSs X sts t
section
variable {X : Cx} {e : Expr} {es : List Expr} {te : TE} {t : TA} {pos : Pos} {st : Stmt} {rest : List Stmt} {ts us : TS}
theorem z_str {x j pos} : ZE X (.Constant (.str x) j pos) (tC (.str x)) := by unfold ZE; exact pe_str
theorem za_nil : ZA X [] tNil := by unfold ZA; exact pa_nil
theorem za_cons (ha : ZE X e te) (hr : ZA X es t) (hs : starEach (e :: es) X.env = (false, eval e X.env) :: starEach es X.env) : ZA X (e :: es) (tCons te t) := by unfold ZE at ha; unfold ZA at hr ⊢; exact pa_cons ha hr hs
theorem z_tup {x1} (h : ZA X es t) : ZE X (.Tuple es x1 pos) (tTup t) := by unfold ZA at h; unfold ZE; exact pe_tup h
theorem z_lst (h : ZA X es t) : ZE X (.List es pos) (tLst t) := by unfold ZA at h; unfold ZE; exact pe_lst h
theorem z_set {i : Nat} {x : Str} {pos' : Pos} (hN : X.N.Nodup) (hi : X.N[i]? = some x) (hx : Loc X.env.scope x) (he : ZE X e te) (hs : swapsWith e (some (.Name x pos')) pos.line X.env = pure false := by rfl) (hf : X.fn x = true ∨ X.env.scope.names.lookup x = some .local := by first | exact .inl rfl | exact .inr rfl | assumption) :
    ZS X (.Assign [.Name x pos'] e pos) (tAsg te (gName i)) := by unfold ZE at he; unfold ZS; exact ps_set hN hi hx he hs hf
theorem zss_cons (h1 : ZS X st ts) (h2 : PSs X rest us) : ZSs X (st :: rest) (tSeq ts us) := by unfold ZS at h1; unfold ZSs; exact pss_cons h1 h2
theorem pss_consZ (h1 : PS X st ts) (h2 : ZSs X rest us) : PSs X (st :: rest) (tSeq ts us) := by unfold ZSs at h2; exact pss_cons h1 h2
end
end L2

set_option maxHeartbeats 4000000
/-! ### an own head: the text's top run at once, with the heap as a tree -/
namespace One
open PySem PySem.W PySem.Calls PyProof.Rows
/-- objects put into a tree, one behind the other -/
def plant : Nat → BT → List Obj → BT
  | _, t, [] => t
  | n, t, o :: r => plant (n + 1) (t.ins n o) r
def planted : Nat → BT → List Obj → Bool
  | _, _, [] => true
  | n, t, o :: r => ((t.ins n o).get n).isSome && planted (n + 1) (t.ins n o) r
theorem plant_abs {life : Life} : ∀ (l : List Obj) (n : Nat) (t : BT) (as : List Obj), absHeap t n life = ⟨as.toArray, life⟩ → planted n t l = true → absHeap (plant n t l) (n + l.length) life = ⟨(as ++ l).toArray, life⟩
  | [], n, t, as, h, _ => by simpa [plant] using h
  | o :: r, n, t, as, h, k => by
    simp only [planted, Bool.and_eq_true] at k
    have e := absHeap_ins (life := life) k.1
    rw [h] at e
    have := plant_abs r (n + 1) (t.ins n o) (as ++ [o]) (by rw [e]; simp [Heap.push]) k.2
    rw [List.append_assoc] at this
    rw [List.length_cons, show n + (r.length + 1) = n + 1 + r.length by omega]
    exact this
/-- the top's run over a tree, with the thread at its end -/
def goT (tb : String → Option Builtin) (p : Program) (w : World) (m : Nat) (an : Option Value) : Nat → SharedT → Thread → Option (SharedT × Thread)
  | 0, s, t => some (s, t)
  | n + 1, s, t => match through t with
    | true => some (s, t)
    | false => match stepOk m an t with
      | false => none
      | true => match stepT (denote tb) p w s t with
        | some (s', t') => goT tb p w m an n s' t'
        | none => none
theorem goT_of {tb : String → Option Builtin} {p : Program} {w : World} {m : Nat} {an : Option Value} : ∀ {n : Nat} {s s' : SharedT} {t t' : Thread}, goT tb p w m an n s t = some (s', t') → through t' = true → topRun tb p w m an (n + 1) s.abs t = some s'.abs
  | 0, s, s', t, t', h, z => by
    obtain ⟨rfl, rfl⟩ := Prod.mk.inj (Option.some.inj h)
    unfold topRun
    rw [z]
  | n + 1, s, s', t, t', h, z => by
    unfold goT at h
    unfold topRun
    cases e1 : through t with
    | true =>
      rw [e1] at h
      obtain ⟨rfl, rfl⟩ := Prod.mk.inj (Option.some.inj h)
      rfl
    | false =>
      rw [e1] at h
      cases e2 : stepOk m an t with
      | false => rw [e2] at h; cases h
      | true =>
        rw [e2] at h
        cases e3 : stepT (denote tb) p w s t with
        | none => rw [e3] at h; cases h
        | some r =>
          obtain ⟨s2, t2⟩ := r
          rw [e3] at h
          rw [stepT_spec e3]
          exact goT_of h z
/-- the end of a run, where it is through -/
def ends (r : SharedT × Thread) : Option SharedT := match through r.2 with
  | true => some r.1
  | false => none
theorem topT_of {tb : String → Option Builtin} {p : Program} {w : World} {m : Nat} {an : Option Value} {n : Nat} {s s' : SharedT} {t : Thread} (h : (goT tb p w m an n s t).bind ends = some s') : topRun tb p w m an (n + 1) s.abs t = some s'.abs := by
  obtain ⟨⟨s2, t2⟩, e1, e2⟩ := Option.bind_eq_some_iff.mp h
  unfold ends at e2
  cases z : through t2 with
  | false => simp only [z] at e2; cases e2
  | true =>
    simp only [z] at e2
    cases e2
    exact goT_of e1 z
noncomputable def ann0 (P : Params) : Option Value := (boot_heap P).nsMap mainGlobals "__annotations__"
noncomputable def S0 (w : World) (os : OsState) : SharedT := ⟨plant 0 .nil (boot_heap w.params).objs.toList, 11, {}, Array.mk [], boot_drawn, boot_toks, os⟩
theorem S0_abs (w : World) (os : OsState) : (S0 w os).abs = ⟨boot_heap w.params, Array.mk [], boot_drawn, boot_toks, os⟩ := by
  have e := plant_abs (life := {}) (boot_heap w.params).objs.toList 0 .nil [] rfl (by rfl)
  have e2 : absHeap (plant 0 .nil (boot_heap w.params).objs.toList) 11 {} = boot_heap w.params := e
  show (⟨absHeap (plant 0 .nil (boot_heap w.params).objs.toList) 11 {}, _, _, _, _⟩ : Shared) = _
  rw [e2]
  rfl
noncomputable def runX (p : Program) (M : Nat) (w : World) (os : OsState) : Option SharedT := (goT treeTable p w 11 (ann0 w.params) M (S0 w os) (topStub p)).bind ends
/-- what is looked at behind the top, without the text's objects -/
noncomputable def looksX (p q : Program) (loose : List Str) (Xt : Shared → Bool) (M : Nat) (w : World) (os : OsState) :=
  (runX p M w os).map fun s => (staticsOk (importedModules p.main.body) (boot_heap w.params) s.abs.heap && namesBound p s.abs.heap && gensDone s.abs && laidKept (boot_heap w.params) s.abs.heap, openSeen q loose (importedModules p.main.body) Xt true s.abs)
theorem left_of {p q : Program} {loose : List Str} {Xt : Shared → Bool} {α : Type} {Yf : Shared → α} {Ya : World → α} {N M : Nat} (e : opening p = plainProg p.main.scope.names) (hN : Nat.ble 600 N = true) (f : ∀ s, fenceModules? p s = some s) (le : Nat.ble (M + 1) N = true)
    (A : ∀ w os, looksX p q loose Xt M w os = some (true, openGood q loose)) (B : ∀ w os, (runX p M w os).map (fun s => Yf s.abs) = some (Ya w)) : LeftO p q loose Xt Yf Ya N := fun w => by
  obtain ⟨⟨h, gs, d, k, os⟩, e1, e2⟩ := Option.map_eq_some_iff.mp (boot_open e hN f w)
  obtain ⟨rfl, rfl, rfl, rfl⟩ : h = boot_heap w.params ∧ gs = Array.mk [] ∧ d = boot_drawn ∧ k = boot_toks := by simpa using e2
  obtain ⟨s1, r1, l1⟩ := Option.map_eq_some_iff.mp (A w os)
  obtain ⟨s2, r2, l2⟩ := Option.map_eq_some_iff.mp (B w os)
  rw [r1] at r2
  cases r2
  obtain ⟨l3, l4⟩ := Prod.mk.inj l1
  have r3 := topT_of r1
  rw [S0_abs] at r3
  have r4 := topRun_mono (N - (M + 1)) _ _ _ _ r3
  rw [show M + 1 + (N - (M + 1)) = N by have := Nat.le_of_ble_eq_true le; omega] at r4
  have t : topFrom treeTable p w N ⟨boot_heap w.params, Array.mk [], boot_drawn, boot_toks, os⟩ = some s1.abs := by
    unfold topFrom
    have z1 : ((boot_heap w.params).isNs mainGlobals && (Array.mk [] : Array GenState).size == 0) = true := by kernel_rfl
    dsimp only
    rw [z1]
    show ((topRun treeTable p w 11 (ann0 w.params) N _ _).bind _) = _
    rw [r4]
    show (match staticsOk (importedModules p.main.body) (boot_heap w.params) s1.abs.heap && namesBound p s1.abs.heap && gensDone s1.abs && laidKept (boot_heap w.params) s1.abs.heap with | true => _ | false => _) = _
    rw [l3]
  unfold openEnds
  rw [e1]
  show (topFrom treeTable p w N _).map _ = _
  rw [t]
  exact congrArg some (Prod.ext l4 l2)
/-- an object of the tree -/
def getT (s : SharedT) (a : Addr) : Option Obj := match Nat.blt a s.n with
  | true => (match s.tree.get a with | some o => alive o | none => none)
  | false => none
theorem getT_abs {s : SharedT} {a : Addr} {o : Obj} (h : getT s a = some o) : s.abs.heap.get? a = some o := by
  unfold getT at h
  cases e : Nat.blt a s.n with
  | false => rw [e] at h; cases h
  | true =>
    rw [e] at h
    cases g : s.tree.get a with
    | none => rw [g] at h; cases h
    | some x =>
      rw [g] at h
      exact (abs_get (Nat.le_of_ble_eq_true e) g).trans h
theorem all_abs {s : SharedT} : ∀ {as : List Addr} {l : List (Addr × Obj)}, as.map (getT s) = l.map (fun p => some p.2) → as.map s.abs.heap.get? = l.map fun p => some p.2
  | [], [], _ => rfl
  | [], _ :: _, h => by cases h
  | _ :: _, [], h => by cases h
  | a :: as, x :: l, h => by
    have h1 := List.cons.inj h
    show s.abs.heap.get? a :: as.map _ = _
    rw [getT_abs h1.1, all_abs h1.2]
    rfl
/-- the objects looked at in two halves -/
theorem chunk {o : Option SharedT} {as : List Addr} {l : List (Addr × Obj)} (n : Nat) (h1 : o.map (fun s => (as.take n).map (getT s)) = some ((l.take n).map fun p => some p.2)) (h2 : o.map (fun s => (as.drop n).map (getT s)) = some ((l.drop n).map fun p => some p.2)) :
    o.map (fun s => as.map (getT s)) = some (l.map fun p => some p.2) := by
  obtain ⟨s, e1, e2⟩ := Option.map_eq_some_iff.mp h1
  subst e1
  have e3 := Option.some.inj h2
  show some (as.map (getT s)) = _
  rw [← List.take_append_drop n as, ← List.take_append_drop n l, List.map_append, List.map_append]
  exact congrArg some (congr (congrArg _ e2) e3)
theorem hook_of {o : Option SharedT} {w : World} {K : Params → Frag} {as : List Addr} {e : ∀ P, as = (K P).map (·.1)} (h : o.map (fun s => as.map (getT s)) = some ((K w.params).map fun p => some p.2)) :
    o.map (fun s => Hook.obs (kHook K as e) s.abs) = some (Hook.val (kHook K as e) w) := by
  obtain ⟨s, h1, h2⟩ := Option.map_eq_some_iff.mp h
  rw [h1]
  exact congrArg some (all_abs h2)
end One

namespace HD
open PySem PySem.W PySem.Calls PyProof.Rows
abbrev rr : OpenRow := OpenLaw.row PySem.Challenge.rw_holdlane_k41_one_lane_between_doors
def q : Program := view PySem.Challenge.pw_holdlane_k41_one_lane_between_doors [69]
def loose : List PySem.Str := (["_wall", "LaneError", "TooMany", "NoKind", "BadName", "Doubled", "NoSuch", "BadNumbers", "BadLanes", "BadRoom", "Open", "Loose", "BadRow", "Flow", "VALUES", "FIGURES"] : List PySem.Str) ++ (["LETTERS", "LONGEST_NAME", "is_whole", "is_value", "is_name", "rest", "COUNTS", "Part", "Give", "Take", "Pass", "Copy", "Turn", "Heap", "Add", "Less"] : List PySem.Str) ++ (["Order", "Choose", "Split", "is_kind", "need_fit", "made_of", "part_made", "MOST_LANES", "MOST_PARTS", "MOST_ROOM", "need_counts", "need_fresh", "need_lane", "fresh_part", "tie_lanes", "need_ends"] : List PySem.Str) ++ (["joined_with", "need_joined", "Net", "LONGEST_ROW", "is_row", "need_rows", "Run", "_law_cell", "_law_mix", "_law_value", "_law_given", "_law_whole", "_law_stands"] : List PySem.Str)
def Xt (s : Shared) : Bool := xlAt q [] s && recOk (RowW.records (OpenRow.toRowW (OpenLaw.row PySem.Challenge.rw_holdlane_k41_one_lane_between_doors))) s
structure KA where
  K : Params → Frag
  as : List Addr
/-- the text's objects, as the kit's head writes them -/
def pickK {r : OpenRow} {K : Params → Frag} {as : List Addr} (_ : (∀ H : Hook, (∃ e, H = kHook K as e) → r.Holds) → r.Holds) : KA := ⟨K, as⟩
local macro_rules | `(tactic| o_head $H) => `(tactic| (rename_i hh; exact hh $H ⟨_, rfl⟩))
noncomputable def ka : KA := pickK (r := rr) (fun _ => by k_head)
theorem ka_e (P : Params) : KA.as ka = (ka.heap_1 P).map (·.1) := by kernel_rfl
noncomputable def runC : World → OsState → Option SharedT := fun w os => One.runX PySem.Challenge.pw_holdlane_k41_one_lane_between_doors 9860 w os
noncomputable def looksC := fun (w : World) (os : OsState) => One.looksX PySem.Challenge.pw_holdlane_k41_one_lane_between_doors q loose Xt 9860 w os
noncomputable def goodC := some (true, openGood q loose)
theorem runC_e : runC = runC := rfl
name_quick runQ for HD.runC by HD.runC_e
theorem looksC_e : looksC = looksC := rfl
name_quick looksQ for HD.looksC by HD.looksC_e
theorem goodC_e : goodC = goodC := rfl
name_quick goodQ for HD.goodC by HD.goodC_e
theorem A0 (w : World) (os : OsState) : PySem.W.Fast.looksQ (w.withFollow "special-get-raises" false) os = PySem.W.Fast.goodQ := by kernel_rfl
theorem B0_0 (w : World) (os : OsState) : (PySem.W.Fast.runQ (w.withFollow "special-get-raises" false) os).map (fun s => (KA.as ka).map (One.getT s)) = some ((ka.heap_1 (w.withFollow "special-get-raises" false).params).map fun p => some p.2) := by kernel_rfl
theorem B0 (w : World) (os : OsState) : (PySem.W.Fast.runQ (w.withFollow "special-get-raises" false) os).map (fun s => (KA.as ka).map (One.getT s)) = some ((ka.heap_1 (w.withFollow "special-get-raises" false).params).map fun p => some p.2) := B0_0 w os
theorem A1 (w : World) (os : OsState) : PySem.W.Fast.looksQ (w.withFollow "special-get-raises" true) os = PySem.W.Fast.goodQ := by kernel_rfl
theorem B1_0 (w : World) (os : OsState) : (PySem.W.Fast.runQ (w.withFollow "special-get-raises" true) os).map (fun s => (KA.as ka).map (One.getT s)) = some ((ka.heap_1 (w.withFollow "special-get-raises" true).params).map fun p => some p.2) := by kernel_rfl
theorem B1 (w : World) (os : OsState) : (PySem.W.Fast.runQ (w.withFollow "special-get-raises" true) os).map (fun s => (KA.as ka).map (One.getT s)) = some ((ka.heap_1 (w.withFollow "special-get-raises" true).params).map fun p => some p.2) := B1_0 w os
theorem A (w : World) : ∀ os, looksC w os = goodC := by
  rw [PySem.W.Fast.looksQ_eq, PySem.W.Fast.goodQ_eq]
  exact byRow2 "special-get-raises" (P := fun w => ∀ os, PySem.W.Fast.looksQ w os = PySem.W.Fast.goodQ) A0 A1 w
theorem B (w : World) : ∀ os, (runC w os).map (fun s => (KA.as ka).map (One.getT s)) = some ((ka.heap_1 w.params).map fun p => some p.2) := by
  rw [PySem.W.Fast.runQ_eq]
  exact byRow2 "special-get-raises" (P := fun w => ∀ os, (PySem.W.Fast.runQ w os).map (fun s => (KA.as ka).map (One.getT s)) = some ((ka.heap_1 w.params).map fun p => some p.2)) B0 B1 w
theorem head {d : DefRec} {kwd : List (PySem.Str × Expr)}
    (hdef : defOf q rr.name = some (d, kwd)) (hp : rr.prog.theDef rr.name = some (d.params, d.body, d.scope)) (hk : kwWritten? d.params.kwonlyargs d.params.kw_defaults = some kwd) (hwr : (!rr.writes || rr.records.isEmpty) = true)
    (k1 : rr.wellSaid = true) (ok : (chainsOk q && opensWell rr.prog && (frees rr.toRowW && rr.within.isEmpty)) = true) (hb : rr.prog.bare) (ho : opening PySem.Challenge.pw_holdlane_k41_one_lane_between_doors = plainProg (PySem.Challenge.pw_holdlane_k41_one_lane_between_doors).main.scope.names) (f : ∀ s, fenceModules? PySem.Challenge.pw_holdlane_k41_one_lane_between_doors s = some s)
    (hw : rr.toRowW.promised) (hc : WalkO q loose (XL q []) (Hook.says (kHook ka.heap_1 (KA.as ka) ka_e)) rr.toRowW d kwd fun f vs => PySem.call f vs) : rr.Holds := by
  have left : LeftO PySem.Challenge.pw_holdlane_k41_one_lane_between_doors q loose Xt (Hook.obs (kHook ka.heap_1 (KA.as ka) ka_e)) (Hook.val (kHook ka.heap_1 (KA.as ka) ka_e)) 20300 := One.left_of (M := 9860) ho rfl f rfl A fun w os => One.hook_of (B w os)
  exact holds_open (XP := XL q []) (YP := Hook.says (kHook ka.heap_1 (KA.as ka) ka_e)) left (Hook.of _) (Hook.keeps _) (fun s z => xl_of s (Bool.and_eq_true_iff.mp z).1) XL.keeps hdef hp hk (fun s z => recFacts_of (Bool.and_eq_true_iff.mp z).2) hwr k1 ok hb hw hc
end HD
namespace K41
open PySem L2
def top (i : Nat) : Stmt := PySem.Challenge.pw_holdlane_k41_one_lane_between_doors.main.body.getD i (.Pass ⟨0, 0, 0, 0⟩)
abbrev s_is_whole : Stmt := top 21
abbrev s_is_value : Stmt := top 22
abbrev s_rest : Stmt := top 24
abbrev s_Part___init__ : Stmt := inClass (top 27) 0
abbrev s_Give_kind : Stmt := inClass (top 28) 0
abbrev s_Take_kind : Stmt := inClass (top 29) 0
abbrev s_Part_taking : Stmt := inClass (top 27) 4
abbrev s_Part_lacks : Stmt := inClass (top 27) 3
abbrev s_Give_worked : Stmt := inClass (top 28) 1
abbrev s_Take_worked : Stmt := inClass (top 29) 1
abbrev s_is_kind : Stmt := top 39
abbrev s_need_fit : Stmt := top 40
abbrev s_made_of : Stmt := top 41
abbrev s_part_made : Stmt := top 42
abbrev s__law_mix : Stmt := top 64
abbrev s__law_value : Stmt := top 65
abbrev s_Net_lane_names : Stmt := inClass (top 55) 1
abbrev s_Net_part_names : Stmt := inClass (top 55) 2
abbrev s_Net_need_lane_name : Stmt := inClass (top 55) 12
abbrev s_Net_room_of : Stmt := inClass (top 55) 7
abbrev s_Net_first_of : Stmt := inClass (top 55) 8
abbrev s_Net_part_of : Stmt := inClass (top 55) 11
abbrev s_Net_names_of_kind : Stmt := inClass (top 55) 5
abbrev s_Net_gives : Stmt := inClass (top 55) 3
abbrev s_Net_takes : Stmt := inClass (top 55) 4
abbrev s_Flow_holds : Stmt := inClass (top 15) 1
abbrev s_Flow_held_now : Stmt := inClass (top 15) 2
abbrev s_Flow_gone_by : Stmt := inClass (top 15) 3
abbrev s_Flow_row_left : Stmt := inClass (top 15) 4
abbrev s_Flow_head : Stmt := inClass (top 15) 5
abbrev s_Flow_row_ended : Stmt := inClass (top 15) 8
abbrev s_Flow_heads : Stmt := inClass (top 15) 6
abbrev s_Flow_lacking : Stmt := inClass (top 15) 7
abbrev s_Flow_deed : Stmt := inClass (top 15) 9
abbrev s_Flow_do : Stmt := inClass (top 15) 10
abbrev s_Run_full_lane : Stmt := inClass (top 61) 4
abbrev s_Run_next_deed : Stmt := inClass (top 61) 3
abbrev s_Run_can_work : Stmt := inClass (top 61) 5
abbrev s_Run_works : Stmt := inClass (top 61) 6
abbrev s_Run_taken : Stmt := inClass (top 61) 7
abbrev s_Run_lane_now : Stmt := inClass (top 61) 8
abbrev s_Run_had : Stmt := inClass (top 61) 9
abbrev s_Run_turn : Stmt := inClass (top 61) 10
abbrev s_Run_rows_left : Stmt := inClass (top 61) 13
abbrev s_Run_need_doors : Stmt := inClass (top 61) 2
abbrev s_Run_step : Stmt := inClass (top 61) 1
abbrev s_is_name : Stmt := top 23
abbrev s_need_counts : Stmt := top 47
abbrev s_need_fresh : Stmt := top 48
abbrev s_need_lane : Stmt := top 49
abbrev s_fresh_part : Stmt := top 50
abbrev s_tie_lanes : Stmt := top 51
abbrev s_need_ends : Stmt := top 52
abbrev s_joined_with : Stmt := top 53
abbrev s_need_joined : Stmt := top 54
abbrev s_Part_start : Stmt := inClass (top 27) 2
abbrev s_Net___init__ : Stmt := inClass (top 55) 0
abbrev s_Flow___init__ : Stmt := inClass (top 15) 0
abbrev s_is_row : Stmt := top 58
abbrev s_need_rows : Stmt := top 59
abbrev s_Run___init__ : Stmt := inClass (top 61) 0
abbrev s__law_cell : Stmt := top 63
abbrev s__law_given : Stmt := top 66
abbrev s__law_whole : Stmt := top 67
abbrev s__law_stands : Stmt := top 68
abbrev s_law : Stmt := top 69
/-- the addresses that the top has given -/
structure Adr where
  f_is_whole : Addr
  fd_is_whole : FuncData
  f_is_value : Addr
  fd_is_value : FuncData
  f_rest : Addr
  fd_rest : FuncData
  f_Part___init__ : Addr
  fd_Part___init__ : FuncData
  f_Give_kind : Addr
  fd_Give_kind : FuncData
  f_Take_kind : Addr
  fd_Take_kind : FuncData
  f_Part_taking : Addr
  fd_Part_taking : FuncData
  f_Part_lacks : Addr
  fd_Part_lacks : FuncData
  f_Give_worked : Addr
  fd_Give_worked : FuncData
  f_Take_worked : Addr
  fd_Take_worked : FuncData
  f_is_kind : Addr
  fd_is_kind : FuncData
  f_need_fit : Addr
  fd_need_fit : FuncData
  f_made_of : Addr
  fd_made_of : FuncData
  f_part_made : Addr
  fd_part_made : FuncData
  f__law_mix : Addr
  fd__law_mix : FuncData
  f__law_value : Addr
  fd__law_value : FuncData
  f_Net_lane_names : Addr
  fd_Net_lane_names : FuncData
  f_Net_part_names : Addr
  fd_Net_part_names : FuncData
  f_Net_need_lane_name : Addr
  fd_Net_need_lane_name : FuncData
  f_Net_room_of : Addr
  fd_Net_room_of : FuncData
  f_Net_first_of : Addr
  fd_Net_first_of : FuncData
  f_Net_part_of : Addr
  fd_Net_part_of : FuncData
  f_Net_names_of_kind : Addr
  fd_Net_names_of_kind : FuncData
  f_Net_gives : Addr
  fd_Net_gives : FuncData
  f_Net_takes : Addr
  fd_Net_takes : FuncData
  f_Flow_holds : Addr
  fd_Flow_holds : FuncData
  f_Flow_held_now : Addr
  fd_Flow_held_now : FuncData
  f_Flow_gone_by : Addr
  fd_Flow_gone_by : FuncData
  f_Flow_row_left : Addr
  fd_Flow_row_left : FuncData
  f_Flow_head : Addr
  fd_Flow_head : FuncData
  f_Flow_row_ended : Addr
  fd_Flow_row_ended : FuncData
  f_Flow_heads : Addr
  fd_Flow_heads : FuncData
  f_Flow_lacking : Addr
  fd_Flow_lacking : FuncData
  f_Flow_deed : Addr
  fd_Flow_deed : FuncData
  f_Flow_do : Addr
  fd_Flow_do : FuncData
  f_Run_full_lane : Addr
  fd_Run_full_lane : FuncData
  f_Run_next_deed : Addr
  fd_Run_next_deed : FuncData
  f_Run_can_work : Addr
  fd_Run_can_work : FuncData
  f_Run_works : Addr
  fd_Run_works : FuncData
  f_Run_taken : Addr
  fd_Run_taken : FuncData
  f_Run_lane_now : Addr
  fd_Run_lane_now : FuncData
  f_Run_had : Addr
  fd_Run_had : FuncData
  f_Run_turn : Addr
  fd_Run_turn : FuncData
  f_Run_rows_left : Addr
  fd_Run_rows_left : FuncData
  f_Run_need_doors : Addr
  fd_Run_need_doors : FuncData
  f_Run_step : Addr
  fd_Run_step : FuncData
  f_is_name : Addr
  fd_is_name : FuncData
  f_need_counts : Addr
  fd_need_counts : FuncData
  f_need_fresh : Addr
  fd_need_fresh : FuncData
  f_need_lane : Addr
  fd_need_lane : FuncData
  f_fresh_part : Addr
  fd_fresh_part : FuncData
  f_tie_lanes : Addr
  fd_tie_lanes : FuncData
  f_need_ends : Addr
  fd_need_ends : FuncData
  f_joined_with : Addr
  fd_joined_with : FuncData
  f_need_joined : Addr
  fd_need_joined : FuncData
  f_Part_start : Addr
  fd_Part_start : FuncData
  f_Net___init__ : Addr
  fd_Net___init__ : FuncData
  f_Flow___init__ : Addr
  fd_Flow___init__ : FuncData
  f_is_row : Addr
  fd_is_row : FuncData
  f_need_rows : Addr
  fd_need_rows : FuncData
  f_Run___init__ : Addr
  fd_Run___init__ : FuncData
  f__law_cell : Addr
  fd__law_cell : FuncData
  f__law_given : Addr
  fd__law_given : FuncData
  f__law_whole : Addr
  fd__law_whole : FuncData
  f__law_stands : Addr
  fd__law_stands : FuncData
  f_law : Addr
  fd_law : FuncData
  C_Give : Addr
  C_Take : Addr
  C_Net : Addr
  C_Flow : Addr
  C_Run : Addr
  o_COUNTS : Addr
/-- what the walk asks of the text as the top has made it -/

abbrev ROWS : List (Str × List Int) := [("give", [0, 0, 1]), ("take", [0, 1, 0]), ("pass", [0, 1, 1]), ("copy", [0, 1, 2]), ("turn", [2, 1, 1]), ("heap", [1, 1, 1]), ("add", [0, 2, 1]), ("less", [0, 2, 1]), ("order", [0, 2, 2]), ("choose", [0, 3, 1]), ("split", [0, 2, 2])]
structure Txt (w : World) (K : PySem.W.Frag) (mg : Str → Option Value) (t : Adr) : Prop where
  F_is_whole : Fun K "is_whole" "is_whole" s_is_whole t.f_is_whole t.fd_is_whole
  b_is_whole : Binds K t.fd_is_whole ["thing"] []
  m_is_whole : mg "is_whole" = some (.ref t.f_is_whole)
  F_is_value : Fun K "is_value" "is_value" s_is_value t.f_is_value t.fd_is_value
  b_is_value : Binds K t.fd_is_value ["thing"] []
  m_is_value : mg "is_value" = some (.ref t.f_is_value)
  F_rest : Fun K "rest" "rest" s_rest t.f_rest t.fd_rest
  b_rest : Binds K t.fd_rest ["number"] []
  m_rest : mg "rest" = some (.ref t.f_rest)
  F_Part___init__ : Fun K "__init__" "Part.__init__" s_Part___init__ t.f_Part___init__ t.fd_Part___init__
  b_Part___init__ : Binds K t.fd_Part___init__ ["self", "name", "numbers", "ins", "outs"] []
  F_Give_kind : Fun K "kind" "Give.kind" s_Give_kind t.f_Give_kind t.fd_Give_kind
  b_Give_kind : Binds K t.fd_Give_kind ["self"] []
  F_Take_kind : Fun K "kind" "Take.kind" s_Take_kind t.f_Take_kind t.fd_Take_kind
  b_Take_kind : Binds K t.fd_Take_kind ["self"] []
  F_Part_taking : Fun K "taking" "Part.taking" s_Part_taking t.f_Part_taking t.fd_Part_taking
  b_Part_taking : Binds K t.fd_Part_taking ["self", "heads"] []
  F_Part_lacks : Fun K "lacks" "Part.lacks" s_Part_lacks t.f_Part_lacks t.fd_Part_lacks
  b_Part_lacks : Binds K t.fd_Part_lacks ["self", "heads"] []
  F_Give_worked : Fun K "worked" "Give.worked" s_Give_worked t.f_Give_worked t.fd_Give_worked
  b_Give_worked : Binds K t.fd_Give_worked ["self", "values", "kept"] []
  F_Take_worked : Fun K "worked" "Take.worked" s_Take_worked t.f_Take_worked t.fd_Take_worked
  b_Take_worked : Binds K t.fd_Take_worked ["self", "values", "kept"] []
  F_is_kind : Fun K "is_kind" "is_kind" s_is_kind t.f_is_kind t.fd_is_kind
  b_is_kind : Binds K t.fd_is_kind ["word"] []
  m_is_kind : mg "is_kind" = some (.ref t.f_is_kind)
  F_need_fit : Fun K "need_fit" "need_fit" s_need_fit t.f_need_fit t.fd_need_fit
  b_need_fit : Binds K t.fd_need_fit ["kind", "name", "numbers", "ins", "outs"] []
  m_need_fit : mg "need_fit" = some (.ref t.f_need_fit)
  F_made_of : Fun K "made_of" "made_of" s_made_of t.f_made_of t.fd_made_of
  b_made_of : Binds K t.fd_made_of ["kind", "name", "numbers", "ins", "outs"] []
  m_made_of : mg "made_of" = some (.ref t.f_made_of)
  F_part_made : Fun K "part_made" "part_made" s_part_made t.f_part_made t.fd_part_made
  b_part_made : Binds K t.fd_part_made ["kind", "name", "numbers", "ins", "outs"] []
  m_part_made : mg "part_made" = some (.ref t.f_part_made)
  F__law_mix : Fun K "_law_mix" "_law_mix" s__law_mix t.f__law_mix t.fd__law_mix
  b__law_mix : Binds K t.fd__law_mix ["_law_cell_here", "_law_k"] []
  m__law_mix : mg "_law_mix" = some (.ref t.f__law_mix)
  F__law_value : Fun K "_law_value" "_law_value" s__law_value t.f__law_value t.fd__law_value
  b__law_value : Binds K t.fd__law_value ["_law_cell_here", "_law_k"] []
  m__law_value : mg "_law_value" = some (.ref t.f__law_value)
  F_Net_lane_names : Fun K "lane_names" "Net.lane_names" s_Net_lane_names t.f_Net_lane_names t.fd_Net_lane_names
  b_Net_lane_names : Binds K t.fd_Net_lane_names ["self"] []
  F_Net_part_names : Fun K "part_names" "Net.part_names" s_Net_part_names t.f_Net_part_names t.fd_Net_part_names
  b_Net_part_names : Binds K t.fd_Net_part_names ["self"] []
  F_Net_need_lane_name : Fun K "need_lane_name" "Net.need_lane_name" s_Net_need_lane_name t.f_Net_need_lane_name t.fd_Net_need_lane_name
  b_Net_need_lane_name : Binds K t.fd_Net_need_lane_name ["self", "name"] []
  F_Net_room_of : Fun K "room_of" "Net.room_of" s_Net_room_of t.f_Net_room_of t.fd_Net_room_of
  b_Net_room_of : Binds K t.fd_Net_room_of ["self", "name"] []
  F_Net_first_of : Fun K "first_of" "Net.first_of" s_Net_first_of t.f_Net_first_of t.fd_Net_first_of
  b_Net_first_of : Binds K t.fd_Net_first_of ["self", "name"] []
  F_Net_part_of : Fun K "part_of" "Net.part_of" s_Net_part_of t.f_Net_part_of t.fd_Net_part_of
  b_Net_part_of : Binds K t.fd_Net_part_of ["self", "name"] []
  F_Net_names_of_kind : Fun K "names_of_kind" "Net.names_of_kind" s_Net_names_of_kind t.f_Net_names_of_kind t.fd_Net_names_of_kind
  b_Net_names_of_kind : Binds K t.fd_Net_names_of_kind ["self", "kind"] []
  F_Net_gives : Fun K "gives" "Net.gives" s_Net_gives t.f_Net_gives t.fd_Net_gives
  b_Net_gives : Binds K t.fd_Net_gives ["self"] []
  F_Net_takes : Fun K "takes" "Net.takes" s_Net_takes t.f_Net_takes t.fd_Net_takes
  b_Net_takes : Binds K t.fd_Net_takes ["self"] []
  F_Flow_holds : Fun K "holds" "Flow.holds" s_Flow_holds t.f_Flow_holds t.fd_Flow_holds
  b_Flow_holds : Binds K t.fd_Flow_holds ["self", "lane"] []
  F_Flow_held_now : Fun K "held_now" "Flow.held_now" s_Flow_held_now t.f_Flow_held_now t.fd_Flow_held_now
  b_Flow_held_now : Binds K t.fd_Flow_held_now ["self", "lane"] []
  F_Flow_gone_by : Fun K "gone_by" "Flow.gone_by" s_Flow_gone_by t.f_Flow_gone_by t.fd_Flow_gone_by
  b_Flow_gone_by : Binds K t.fd_Flow_gone_by ["self", "lane"] []
  F_Flow_row_left : Fun K "row_left" "Flow.row_left" s_Flow_row_left t.f_Flow_row_left t.fd_Flow_row_left
  b_Flow_row_left : Binds K t.fd_Flow_row_left ["self", "door"] []
  F_Flow_head : Fun K "head" "Flow.head" s_Flow_head t.f_Flow_head t.fd_Flow_head
  b_Flow_head : Binds K t.fd_Flow_head ["self", "lane"] []
  F_Flow_row_ended : Fun K "row_ended" "Flow.row_ended" s_Flow_row_ended t.f_Flow_row_ended t.fd_Flow_row_ended
  b_Flow_row_ended : Binds K t.fd_Flow_row_ended ["self", "name"] []
  F_Flow_heads : Fun K "heads" "Flow.heads" s_Flow_heads t.f_Flow_heads t.fd_Flow_heads
  b_Flow_heads : Binds K t.fd_Flow_heads ["self", "part"] []
  F_Flow_lacking : Fun K "lacking" "Flow.lacking" s_Flow_lacking t.f_Flow_lacking t.fd_Flow_lacking
  b_Flow_lacking : Binds K t.fd_Flow_lacking ["self", "name"] []
  F_Flow_deed : Fun K "deed" "Flow.deed" s_Flow_deed t.f_Flow_deed t.fd_Flow_deed
  b_Flow_deed : Binds K t.fd_Flow_deed ["self", "name"] []
  F_Flow_do : Fun K "do" "Flow.do" s_Flow_do t.f_Flow_do t.fd_Flow_do
  b_Flow_do : Binds K t.fd_Flow_do ["self", "name", "deed"] []
  F_Run_full_lane : Fun K "full_lane" "Run.full_lane" s_Run_full_lane t.f_Run_full_lane t.fd_Run_full_lane
  b_Run_full_lane : Binds K t.fd_Run_full_lane ["self", "deed"] []
  F_Run_next_deed : Fun K "next_deed" "Run.next_deed" s_Run_next_deed t.f_Run_next_deed t.fd_Run_next_deed
  b_Run_next_deed : Binds K t.fd_Run_next_deed ["self", "name"] []
  F_Run_can_work : Fun K "can_work" "Run.can_work" s_Run_can_work t.f_Run_can_work t.fd_Run_can_work
  b_Run_can_work : Binds K t.fd_Run_can_work ["self", "name"] []
  F_Run_works : Fun K "works" "Run.works" s_Run_works t.f_Run_works t.fd_Run_works
  b_Run_works : Binds K t.fd_Run_works ["self", "name"] []
  F_Run_taken : Fun K "taken" "Run.taken" s_Run_taken t.f_Run_taken t.fd_Run_taken
  b_Run_taken : Binds K t.fd_Run_taken ["self", "name"] []
  F_Run_lane_now : Fun K "lane_now" "Run.lane_now" s_Run_lane_now t.f_Run_lane_now t.fd_Run_lane_now
  b_Run_lane_now : Binds K t.fd_Run_lane_now ["self", "name"] []
  F_Run_had : Fun K "had" "Run.had" s_Run_had t.f_Run_had t.fd_Run_had
  b_Run_had : Binds K t.fd_Run_had ["self", "name"] []
  F_Run_turn : Fun K "turn" "Run.turn" s_Run_turn t.f_Run_turn t.fd_Run_turn
  b_Run_turn : Binds K t.fd_Run_turn ["self"] []
  F_Run_rows_left : Fun K "rows_left" "Run.rows_left" s_Run_rows_left t.f_Run_rows_left t.fd_Run_rows_left
  b_Run_rows_left : Binds K t.fd_Run_rows_left ["self"] []
  F_Run_need_doors : Fun K "need_doors" "Run.need_doors" s_Run_need_doors t.f_Run_need_doors t.fd_Run_need_doors
  b_Run_need_doors : Binds K t.fd_Run_need_doors ["self", "names"] []
  F_Run_step : FunD K "step" "Run.step" s_Run_step t.f_Run_step t.fd_Run_step #[.none]
  b_Run_step : Binds K t.fd_Run_step ["self", "held"] []
  F_is_name : Fun K "is_name" "is_name" s_is_name t.f_is_name t.fd_is_name
  b_is_name : Binds K t.fd_is_name ["thing"] []
  m_is_name : mg "is_name" = some (.ref t.f_is_name)
  F_need_counts : Fun K "need_counts" "need_counts" s_need_counts t.f_need_counts t.fd_need_counts
  b_need_counts : Binds K t.fd_need_counts ["lanes", "parts"] []
  m_need_counts : mg "need_counts" = some (.ref t.f_need_counts)
  F_need_fresh : Fun K "need_fresh" "need_fresh" s_need_fresh t.f_need_fresh t.fd_need_fresh
  b_need_fresh : Binds K t.fd_need_fresh ["name", "known"] []
  m_need_fresh : mg "need_fresh" = some (.ref t.f_need_fresh)
  F_need_lane : Fun K "need_lane" "need_lane" s_need_lane t.f_need_lane t.fd_need_lane
  b_need_lane : Binds K t.fd_need_lane ["name", "room", "first"] []
  m_need_lane : mg "need_lane" = some (.ref t.f_need_lane)
  F_fresh_part : Fun K "fresh_part" "fresh_part" s_fresh_part t.f_fresh_part t.fd_fresh_part
  b_fresh_part : Binds K t.fd_fresh_part ["row", "known"] []
  m_fresh_part : mg "fresh_part" = some (.ref t.f_fresh_part)
  F_tie_lanes : Fun K "tie_lanes" "tie_lanes" s_tie_lanes t.f_tie_lanes t.fd_tie_lanes
  b_tie_lanes : Binds K t.fd_tie_lanes ["part", "lanes", "rooms", "ends"] []
  m_tie_lanes : mg "tie_lanes" = some (.ref t.f_tie_lanes)
  F_need_ends : Fun K "need_ends" "need_ends" s_need_ends t.f_need_ends t.fd_need_ends
  b_need_ends : Binds K t.fd_need_ends ["rooms", "givers", "takers"] []
  m_need_ends : mg "need_ends" = some (.ref t.f_need_ends)
  F_joined_with : Fun K "joined_with" "joined_with" s_joined_with t.f_joined_with t.fd_joined_with
  b_joined_with : Binds K t.fd_joined_with ["part", "givers", "takers"] []
  m_joined_with : mg "joined_with" = some (.ref t.f_joined_with)
  F_need_joined : Fun K "need_joined" "need_joined" s_need_joined t.f_need_joined t.fd_need_joined
  b_need_joined : Binds K t.fd_need_joined ["names", "givers", "takers"] []
  m_need_joined : mg "need_joined" = some (.ref t.f_need_joined)
  F_Part_start : Fun K "start" "Part.start" s_Part_start t.f_Part_start t.fd_Part_start
  b_Part_start : Binds K t.fd_Part_start ["self"] []
  F_Net___init__ : Fun K "__init__" "Net.__init__" s_Net___init__ t.f_Net___init__ t.fd_Net___init__
  b_Net___init__ : Binds K t.fd_Net___init__ ["self", "lanes", "parts"] []
  F_Flow___init__ : Fun K "__init__" "Flow.__init__" s_Flow___init__ t.f_Flow___init__ t.fd_Flow___init__
  b_Flow___init__ : Binds K t.fd_Flow___init__ ["self", "net", "rows"] []
  F_is_row : Fun K "is_row" "is_row" s_is_row t.f_is_row t.fd_is_row
  b_is_row : Binds K t.fd_is_row ["thing"] []
  m_is_row : mg "is_row" = some (.ref t.f_is_row)
  F_need_rows : Fun K "need_rows" "need_rows" s_need_rows t.f_need_rows t.fd_need_rows
  b_need_rows : Binds K t.fd_need_rows ["net", "rows"] []
  m_need_rows : mg "need_rows" = some (.ref t.f_need_rows)
  F_Run___init__ : Fun K "__init__" "Run.__init__" s_Run___init__ t.f_Run___init__ t.fd_Run___init__
  b_Run___init__ : Binds K t.fd_Run___init__ ["self", "net", "rows"] []
  F__law_cell : Fun K "_law_cell" "_law_cell" s__law_cell t.f__law_cell t.fd__law_cell
  b__law_cell : Binds K t.fd__law_cell ["_law_script", "_law_k"] []
  m__law_cell : mg "_law_cell" = some (.ref t.f__law_cell)
  F__law_given : Fun K "_law_given" "_law_given" s__law_given t.f__law_given t.fd__law_given
  b__law_given : Binds K t.fd__law_given ["_law_cell_here"] []
  m__law_given : mg "_law_given" = some (.ref t.f__law_given)
  F__law_whole : Fun K "_law_whole" "_law_whole" s__law_whole t.f__law_whole t.fd__law_whole
  b__law_whole : Binds K t.fd__law_whole ["_law_found", "_law_due"] []
  m__law_whole : mg "_law_whole" = some (.ref t.f__law_whole)
  F__law_stands : Fun K "_law_stands" "_law_stands" s__law_stands t.f__law_stands t.fd__law_stands
  b__law_stands : Binds K t.fd__law_stands ["_law_run", "_law_row", "_law_given_here", "_law_taken", "_law_turns"] []
  m__law_stands : mg "_law_stands" = some (.ref t.f__law_stands)
  F_law : Fun K "law" "law" s_law t.f_law t.fd_law
  b_law : Binds K t.fd_law ["_law_script"] []
  m_law : mg "law" = some (.ref t.f_law)
  c_Give : Cls K t.C_Give
  mc_Give : mg "Give" = some (.ref t.C_Give)
  M_Give : Mk K t.C_Give t.f_Part___init__
  me_Give_kind : Meth K t.C_Give "kind" t.f_Give_kind
  me_Give_taking : Meth K t.C_Give "taking" t.f_Part_taking
  me_Give_lacks : Meth K t.C_Give "lacks" t.f_Part_lacks
  me_Give_worked : Meth K t.C_Give "worked" t.f_Give_worked
  me_Give_start : Meth K t.C_Give "start" t.f_Part_start
  na_Give_name : NoAttr K t.C_Give "name"
  na_Give_numbers : NoAttr K t.C_Give "numbers"
  na_Give_ins : NoAttr K t.C_Give "ins"
  na_Give_outs : NoAttr K t.C_Give "outs"
  c_Take : Cls K t.C_Take
  mc_Take : mg "Take" = some (.ref t.C_Take)
  M_Take : Mk K t.C_Take t.f_Part___init__
  me_Take_kind : Meth K t.C_Take "kind" t.f_Take_kind
  me_Take_taking : Meth K t.C_Take "taking" t.f_Part_taking
  me_Take_lacks : Meth K t.C_Take "lacks" t.f_Part_lacks
  me_Take_worked : Meth K t.C_Take "worked" t.f_Take_worked
  me_Take_start : Meth K t.C_Take "start" t.f_Part_start
  na_Take_name : NoAttr K t.C_Take "name"
  na_Take_numbers : NoAttr K t.C_Take "numbers"
  na_Take_ins : NoAttr K t.C_Take "ins"
  na_Take_outs : NoAttr K t.C_Take "outs"
  c_Net : Cls K t.C_Net
  mc_Net : mg "Net" = some (.ref t.C_Net)
  M_Net : Mk K t.C_Net t.f_Net___init__
  me_Net_lane_names : Meth K t.C_Net "lane_names" t.f_Net_lane_names
  me_Net_part_names : Meth K t.C_Net "part_names" t.f_Net_part_names
  me_Net_need_lane_name : Meth K t.C_Net "need_lane_name" t.f_Net_need_lane_name
  me_Net_room_of : Meth K t.C_Net "room_of" t.f_Net_room_of
  me_Net_first_of : Meth K t.C_Net "first_of" t.f_Net_first_of
  me_Net_part_of : Meth K t.C_Net "part_of" t.f_Net_part_of
  me_Net_names_of_kind : Meth K t.C_Net "names_of_kind" t.f_Net_names_of_kind
  me_Net_gives : Meth K t.C_Net "gives" t.f_Net_gives
  me_Net_takes : Meth K t.C_Net "takes" t.f_Net_takes
  na_Net_rooms : NoAttr K t.C_Net "rooms"
  na_Net_firsts : NoAttr K t.C_Net "firsts"
  na_Net_parts : NoAttr K t.C_Net "parts"
  na_Net_givers : NoAttr K t.C_Net "givers"
  na_Net_takers : NoAttr K t.C_Net "takers"
  c_Flow : Cls K t.C_Flow
  mc_Flow : mg "Flow" = some (.ref t.C_Flow)
  M_Flow : Mk K t.C_Flow t.f_Flow___init__
  me_Flow_holds : Meth K t.C_Flow "holds" t.f_Flow_holds
  me_Flow_held_now : Meth K t.C_Flow "held_now" t.f_Flow_held_now
  me_Flow_gone_by : Meth K t.C_Flow "gone_by" t.f_Flow_gone_by
  me_Flow_row_left : Meth K t.C_Flow "row_left" t.f_Flow_row_left
  me_Flow_head : Meth K t.C_Flow "head" t.f_Flow_head
  me_Flow_row_ended : Meth K t.C_Flow "row_ended" t.f_Flow_row_ended
  me_Flow_heads : Meth K t.C_Flow "heads" t.f_Flow_heads
  me_Flow_lacking : Meth K t.C_Flow "lacking" t.f_Flow_lacking
  me_Flow_deed : Meth K t.C_Flow "deed" t.f_Flow_deed
  me_Flow_do : Meth K t.C_Flow "do" t.f_Flow_do
  na_Flow_net : NoAttr K t.C_Flow "net"
  na_Flow_ever : NoAttr K t.C_Flow "ever"
  na_Flow_gone : NoAttr K t.C_Flow "gone"
  na_Flow_kept : NoAttr K t.C_Flow "kept"
  na_Flow_done : NoAttr K t.C_Flow "done"
  na_Flow_rows : NoAttr K t.C_Flow "rows"
  c_Run : Cls K t.C_Run
  mc_Run : mg "Run" = some (.ref t.C_Run)
  M_Run : Mk K t.C_Run t.f_Run___init__
  me_Run_step : Meth K t.C_Run "step" t.f_Run_step
  me_Run_need_doors : Meth K t.C_Run "need_doors" t.f_Run_need_doors
  me_Run_next_deed : Meth K t.C_Run "next_deed" t.f_Run_next_deed
  me_Run_full_lane : Meth K t.C_Run "full_lane" t.f_Run_full_lane
  me_Run_can_work : Meth K t.C_Run "can_work" t.f_Run_can_work
  me_Run_works : Meth K t.C_Run "works" t.f_Run_works
  me_Run_taken : Meth K t.C_Run "taken" t.f_Run_taken
  me_Run_lane_now : Meth K t.C_Run "lane_now" t.f_Run_lane_now
  me_Run_had : Meth K t.C_Run "had" t.f_Run_had
  me_Run_turn : Meth K t.C_Run "turn" t.f_Run_turn
  me_Run_rows_left : Meth K t.C_Run "rows_left" t.f_Run_rows_left
  na_Run_net : NoAttr K t.C_Run "net"
  na_Run_flow : NoAttr K t.C_Run "flow"
  na_Run_turns : NoAttr K t.C_Run "turns"
  mt_COUNTS : mg "COUNTS" = some (.ref t.o_COUNTS)
  t_COUNTS : KTab w K t.o_COUNTS ROWS
  n_all : mg "all" = none
  n_bool : mg "bool" = none
  n_enumerate : mg "enumerate" = none
  n_int : mg "int" = none
  n_isinstance : mg "isinstance" = none
  n_len : mg "len" = none
  n_list : mg "list" = none
  n_max : mg "max" = none
  n_min : mg "min" = none
  n_range : mg "range" = none
  n_str : mg "str" = none
  n_tuple : mg "tuple" = none
  g_VALUES : ∃ u, mg "VALUES" = some u ∧ RelV (.int 1000000000) u
  g_LETTERS : ∃ u, mg "LETTERS" = some u ∧ RelV (.str "abcdefghijklmnopqrstuvwxyz") u
  g_LONGEST_NAME : ∃ u, mg "LONGEST_NAME" = some u ∧ RelV (.int 8) u
  g_FIGURES : ∃ u, mg "FIGURES" = some u ∧ RelV (.str "0123456789") u
  g_MOST_LANES : ∃ u, mg "MOST_LANES" = some u ∧ RelV (.int 24) u
  g_MOST_PARTS : ∃ u, mg "MOST_PARTS" = some u ∧ RelV (.int 16) u
  g_MOST_ROOM : ∃ u, mg "MOST_ROOM" = some u ∧ RelV (.int 199) u
  g_LONGEST_ROW : ∃ u, mg "LONGEST_ROW" = some u ∧ RelV (.int 300) u
section
variable {P : Program} {w : World} {K : PySem.W.Frag} {mg : Str → Option Value} {base : Heap} {t : Adr}

def kname (i : Nat) : Str := match i with
  | 0 => "give"
  | 1 => "take"
  | 2 => "pass"
  | 3 => "copy"
  | 4 => "turn"
  | 5 => "heap"
  | 6 => "add"
  | 7 => "less"
  | 8 => "order"
  | 9 => "choose"
  | _ => "split"
def cN (i : Nat) : Nat := match i with
  | 0 => 0
  | 1 => 0
  | 2 => 0
  | 3 => 0
  | 4 => 2
  | 5 => 1
  | 6 => 0
  | 7 => 0
  | 8 => 0
  | 9 => 0
  | _ => 0
def cI (i : Nat) : Nat := match i with
  | 0 => 0
  | 1 => 1
  | 2 => 1
  | 3 => 1
  | 4 => 1
  | 5 => 1
  | 6 => 2
  | 7 => 2
  | 8 => 2
  | 9 => 3
  | _ => 2
def cO (i : Nat) : Nat := match i with
  | 0 => 1
  | 1 => 0
  | 2 => 1
  | 3 => 2
  | 4 => 1
  | 5 => 1
  | 6 => 1
  | 7 => 1
  | 8 => 2
  | 9 => 1
  | _ => 2
def cls (t : Adr) (i : Nat) : Addr := match i with
  | 0 => t.C_Give
  | _ => t.C_Take
theorem row_of (i : Nat) : rowOf ROWS (kname i) = some [((cN i : Nat) : Int), ((cI i : Nat) : Int), ((cO i : Nat) : Int)] := match i with
  | 0 => by show rowOf ROWS "give" = some [0, 0, 1]; decide +kernel
  | 1 => by show rowOf ROWS "take" = some [0, 1, 0]; decide +kernel
  | 2 => by show rowOf ROWS "pass" = some [0, 1, 1]; decide +kernel
  | 3 => by show rowOf ROWS "copy" = some [0, 1, 2]; decide +kernel
  | 4 => by show rowOf ROWS "turn" = some [2, 1, 1]; decide +kernel
  | 5 => by show rowOf ROWS "heap" = some [1, 1, 1]; decide +kernel
  | 6 => by show rowOf ROWS "add" = some [0, 2, 1]; decide +kernel
  | 7 => by show rowOf ROWS "less" = some [0, 2, 1]; decide +kernel
  | 8 => by show rowOf ROWS "order" = some [0, 2, 2]; decide +kernel
  | 9 => by show rowOf ROWS "choose" = some [0, 3, 1]; decide +kernel
  | n + 10 => by show rowOf ROWS "split" = some [0, 2, 2]; decide +kernel
theorem cls_ok (T : Txt w K mg t) (i : Nat) : Cls K (cls t i) := match i with
  | 0 => T.c_Give
  | n + 1 => T.c_Take
theorem na_name (T : Txt w K mg t) (i : Nat) : NoAttr K (cls t i) "name" := match i with
  | 0 => T.na_Give_name
  | n + 1 => T.na_Take_name
theorem na_numbers (T : Txt w K mg t) (i : Nat) : NoAttr K (cls t i) "numbers" := match i with
  | 0 => T.na_Give_numbers
  | n + 1 => T.na_Take_numbers
theorem na_ins (T : Txt w K mg t) (i : Nat) : NoAttr K (cls t i) "ins" := match i with
  | 0 => T.na_Give_ins
  | n + 1 => T.na_Take_ins
theorem na_outs (T : Txt w K mg t) (i : Nat) : NoAttr K (cls t i) "outs" := match i with
  | 0 => T.na_Give_outs
  | n + 1 => T.na_Take_outs
theorem cN_le (i : Nat) : cN i ≤ 2 := match i with
  | 0 => by show 0 ≤ 2; decide
  | 1 => by show 0 ≤ 2; decide
  | 2 => by show 0 ≤ 2; decide
  | 3 => by show 0 ≤ 2; decide
  | 4 => by show 2 ≤ 2; decide
  | 5 => by show 1 ≤ 2; decide
  | 6 => by show 0 ≤ 2; decide
  | 7 => by show 0 ≤ 2; decide
  | 8 => by show 0 ≤ 2; decide
  | 9 => by show 0 ≤ 2; decide
  | n + 10 => by show 0 ≤ 2; decide
theorem cI_le (i : Nat) : cI i ≤ 3 := match i with
  | 0 => by show 0 ≤ 3; decide
  | 1 => by show 1 ≤ 3; decide
  | 2 => by show 1 ≤ 3; decide
  | 3 => by show 1 ≤ 3; decide
  | 4 => by show 1 ≤ 3; decide
  | 5 => by show 1 ≤ 3; decide
  | 6 => by show 2 ≤ 3; decide
  | 7 => by show 2 ≤ 3; decide
  | 8 => by show 2 ≤ 3; decide
  | 9 => by show 3 ≤ 3; decide
  | n + 10 => by show 2 ≤ 3; decide
theorem cO_le (i : Nat) : cO i ≤ 2 := match i with
  | 0 => by show 1 ≤ 2; decide
  | 1 => by show 0 ≤ 2; decide
  | 2 => by show 1 ≤ 2; decide
  | 3 => by show 2 ≤ 2; decide
  | 4 => by show 1 ≤ 2; decide
  | 5 => by show 1 ≤ 2; decide
  | 6 => by show 1 ≤ 2; decide
  | 7 => by show 1 ≤ 2; decide
  | 8 => by show 2 ≤ 2; decide
  | 9 => by show 1 ≤ 2; decide
  | n + 10 => by show 2 ≤ 2; decide
theorem lenP {f : Str} {y : V} {fs : List (Str × V)} {n : Nat} (h : fs.length ≤ n) : (putF f y fs).length ≤ n + 1 := Nat.le_trans (length_putF f y fs) (Nat.succ_le_succ h)
def flds (nm : V) (tn ti to : Addr) : List (Str × V) := putF "outs" (.ref to) (putF "ins" (.ref ti) (putF "numbers" (.ref tn) (putF "name" nm [])))
theorem flds_name (nm : V) (tn ti to : Addr) : (flds nm tn ti to).lookup ("name" : Str) = some nm := by
  unfold flds
  rw [lookup_putF, if_neg (by decide +kernel), lookup_putF, if_neg (by decide +kernel), lookup_putF, if_neg (by decide +kernel), lookup_putF, if_pos rfl]
theorem flds_numbers (nm : V) (tn ti to : Addr) : (flds nm tn ti to).lookup ("numbers" : Str) = some (.ref tn) := by
  unfold flds
  rw [lookup_putF, if_neg (by decide +kernel), lookup_putF, if_neg (by decide +kernel), lookup_putF, if_pos rfl]
theorem flds_ins (nm : V) (tn ti to : Addr) : (flds nm tn ti to).lookup ("ins" : Str) = some (.ref ti) := by
  unfold flds
  rw [lookup_putF, if_neg (by decide +kernel), lookup_putF, if_pos rfl]
theorem flds_outs (nm : V) (tn ti to : Addr) : (flds nm tn ti to).lookup ("outs" : Str) = some (.ref to) := by
  unfold flds
  rw [lookup_putF, if_pos rfl]
theorem flds_no (nm : V) (tn ti to : Addr) {m : Str} (h1 : ¬ m = "outs") (h2 : ¬ m = "ins") (h3 : ¬ m = "numbers") (h4 : ¬ m = "name") : (flds nm tn ti to).lookup m = none := by
  unfold flds
  rw [lookup_putF, if_neg h1, lookup_putF, if_neg h2, lookup_putF, if_neg h3, lookup_putF, if_neg h4]
  all_goals rfl
/-- a part stands at p -/
structure PartAt (K : PySem.W.Frag) (t : Adr) (H : Hp) (p : Addr) (i : Nat) (nm : V) (ns is os : List V) : Prop where
  ex : ∃ dx tn ti to, H p = some (.ins (cls t i) dx (flds nm tn ti to)) ∧ SqT K H tn ns ∧ SqT K H ti is ∧ SqT K H to os
theorem PartAt.same {H H' : Hp} {p : Addr} {i : Nat} {nm : V} {ns is os : List V} (h : PartAt K t H p i nm ns is os) (s : Same H H') : PartAt K t H' p i nm ns is os := by
  obtain ⟨dx, tn, ti, to, h1, h2, h3, h4⟩ := h
  exact ⟨dx, tn, ti, to, s _ _ h1, s.seqT h2, s.seqT h3, s.seqT h4⟩
def sp_kind (i : Nat) : Sp := fun vs H Q _ => ∃ x, vs = [x] ∧ Q (.str (kname i)) H
def nV (j : Nat) : V := .int (j : Nat)
/-- a value of the document -/
def Val (v : V) : Prop := ∃ n : Int, v = .int n ∧ 0 ≤ n ∧ n < 1000000000
/-- what says itself as flat data -/
inductive Flat : PyData → Prop
  | non : Flat .none
  | int (i : Int) : Flat (.int i)
theorem eqvAll_flat : ∀ {ds : List PyData}, (∀ d ∈ ds, Flat d) → PyData.eqvAll ds ds = true
  | [], _ => by simp [PyData.eqvAll]
  | d :: r, h => by
    have ih := eqvAll_flat (ds := r) fun x hx => h x (List.mem_cons_of_mem _ hx)
    cases h d List.mem_cons_self with
    | non => simp [PyData.eqvAll, PyData.eqv, ih]
    | int i => simp [PyData.eqvAll, PyData.eqv, ih]
theorem canLay_flat : ∀ {ds : List PyData}, (∀ d ∈ ds, Flat d) → PyData.canLayAll0 ds = true
  | [], _ => by simp [PyData.canLayAll0]
  | d :: r, h => by
    have ih := canLay_flat (ds := r) fun x hx => h x (List.mem_cons_of_mem _ hx)
    cases h d List.mem_cons_self with
    | non => simp [PyData.canLayAll0, PyData.canLay0, ih]
    | int i => simp [PyData.canLayAll0, PyData.canLay0, ih]
theorem depth_flat : ∀ {ds : List PyData}, (∀ d ∈ ds, Flat d) → PyData.depthAll ds = 0
  | [], _ => by simp [PyData.depthAll]
  | d :: r, h => by
    have ih := depth_flat (ds := r) fun x hx => h x (List.mem_cons_of_mem _ hx)
    cases h d List.mem_cons_self with
    | non => simp [PyData.depthAll, PyData.depth, ih]
    | int i => simp [PyData.depthAll, PyData.depth, ih]
theorem shaped_flat {ds : List PyData} (h : ∀ d ∈ ds, Flat d) : SeqAt.shaped (.list ds) = true := by
  simp [SeqAt.shaped, PyData.canLay0, PyData.depth, canLay_flat h, depth_flat h]

/-- the places from which a part of the kind i takes -/
def places (i : Nat) (hs : List V) : List Nat := if i = 9 then (match hs with | .int n :: _ => [0, 1 + (n % 2).toNat] | _ => [0]) else List.range hs.length
def HeadsOk (i : Nat) (hs : List V) : Prop := hs.length = cI i ∧ ∀ h ∈ hs, h = .non ∨ ∃ n : Int, h = .int n
def lackB (hs : List V) (q : Nat) : Bool := decide (hs[q]? = some V.non)
def lackV (i : Nat) (hs : List V) : V := match (places i hs).find? (lackB hs) with
  | some q => nV q
  | none => .non
theorem places_lt {i : Nat} {hs : List V} (h : HeadsOk i hs) : ∀ q ∈ places i hs, q < hs.length := by
  intro q hq
  unfold places at hq
  by_cases hi : i = 9
  · rw [if_pos hi] at hq
    have hl : hs.length = 3 := by rw [h.1, hi]; rfl
    rw [hl]
    split at hq
    · rename_i n r
      have h0 := Int.emod_nonneg n (show (2 : Int) ≠ 0 by decide)
      have h1 := Int.emod_lt_of_pos n (show (0 : Int) < 2 by decide)
      simp at hq
      omega
    · simp at hq
      omega
  · rw [if_neg hi] at hq
    simpa using hq
theorem find_at {f : Nat → Bool} : ∀ {l : List Nat} {j q : Nat}, l[j]? = some q → (∀ x ∈ l.take j, f x = false) → f q = true → l.find? f = some q
  | [], _, _, e, _, _ => by simp at e
  | x :: r, 0, q, e, _, hq => by
    simp at e
    subst e
    rw [List.find?_cons, hq]
  | x :: r, j + 1, q, e, h, hq => by
    have hx : f x = false := h x (by simp)
    rw [List.find?_cons, hx]
    exact find_at (l := r) (j := j) (by simpa using e) (fun y hy => h y (by simp [hy])) hq
theorem find_no {f : Nat → Bool} {l : List Nat} (h : ∀ x ∈ l, f x = false) : l.find? f = none := by
  rw [List.find?_eq_none]
  intro x hx
  rw [h x hx]
  decide
def dOf : V → PyData
  | .int n => .int n
  | _ => .none
theorem dts_heads {H : Hp} : ∀ {hs : List V}, (∀ h ∈ hs, h = .non ∨ ∃ n : Int, h = .int n) → Dts K H hs (hs.map dOf)
  | [], _ => .nil
  | x :: r, h => by
    refine .cons ?_ (dts_heads fun y hy => h y (List.mem_cons_of_mem _ hy))
    rcases h x List.mem_cons_self with e | ⟨n, e⟩ <;> subst e
    · exact .non
    · exact .int n
theorem flat_heads {hs : List V} : ∀ d ∈ hs.map dOf, Flat d := by
  intro d hd
  obtain ⟨v, _, rfl⟩ := List.mem_map.mp hd
  cases v <;> first | exact .non | exact .int _
theorem dts_nV {H : Hp} : ∀ (l : List Nat), Dts K H (l.map nV) (l.map fun (j : Nat) => PyData.int (j : Nat))
  | [] => .nil
  | x :: r => .cons (.int _) (dts_nV r)
theorem flat_nV (l : List Nat) : ∀ d ∈ l.map (fun (j : Nat) => PyData.int (j : Nat)), Flat d := by
  intro d hd
  obtain ⟨v, _, rfl⟩ := List.mem_map.mp hd
  exact .int _
theorem shaped_int (i : Int) : SeqAt.shaped (.int i) = true := by simp [SeqAt.shaped, PyData.canLay0, PyData.depth]
theorem eqv_int (i : Int) : PyData.eqv (.int i) (.int i) = true := by simp [PyData.eqv]
theorem eqv_list {ds : List PyData} (h : ∀ d ∈ ds, Flat d) : PyData.eqv (.list ds) (.list ds) = true := by
  unfold PyData.eqv
  exact eqvAll_flat h
theorem eqv_cons_nil {d : PyData} {ds : List PyData} : PyData.eqv (.list (d :: ds)) (.list []) = false := by
  simp [PyData.eqv, PyData.eqvAll]
def sp_taking (K : PySem.W.Frag) (t : Adr) (i : Nat) : Sp := fun vs H Q _ => ∃ (p a : Addr) (nm : V) (ns is os hs : List V), vs = [.ref p, .ref a] ∧ PartAt K t H p i nm ns is os ∧ is.length = cI i ∧ SqL K H a hs ∧ HeadsOk i hs ∧
  ∀ H' L, Same H H' → H L = none → H' L = some (.lst ((places i hs).map nV)) → Q (.ref L) H'
def sp_lacks (K : PySem.W.Frag) (t : Adr) (i : Nat) : Sp := fun vs H Q _ => ∃ (p a : Addr) (nm : V) (ns is os hs : List V), vs = [.ref p, .ref a] ∧ PartAt K t H p i nm ns is os ∧ is.length = cI i ∧ SqL K H a hs ∧ HeadsOk i hs ∧
  ∀ H', Same H H' → Q (lackV i hs) H'
theorem choose_iff {i : Nat} (hi : i ≤ 10) : kname i = "choose" ↔ i = 9 := by
  match i, hi with
  | 0, _ => exact ⟨fun h => absurd h (by decide +kernel), fun h => absurd h (by decide)⟩
  | 1, _ => exact ⟨fun h => absurd h (by decide +kernel), fun h => absurd h (by decide)⟩
  | 2, _ => exact ⟨fun h => absurd h (by decide +kernel), fun h => absurd h (by decide)⟩
  | 3, _ => exact ⟨fun h => absurd h (by decide +kernel), fun h => absurd h (by decide)⟩
  | 4, _ => exact ⟨fun h => absurd h (by decide +kernel), fun h => absurd h (by decide)⟩
  | 5, _ => exact ⟨fun h => absurd h (by decide +kernel), fun h => absurd h (by decide)⟩
  | 6, _ => exact ⟨fun h => absurd h (by decide +kernel), fun h => absurd h (by decide)⟩
  | 7, _ => exact ⟨fun h => absurd h (by decide +kernel), fun h => absurd h (by decide)⟩
  | 8, _ => exact ⟨fun h => absurd h (by decide +kernel), fun h => absurd h (by decide)⟩
  | 9, _ => exact ⟨fun _ => rfl, fun _ => rfl⟩
  | 10, _ => exact ⟨fun h => absurd h (by decide +kernel), fun h => absurd h (by decide)⟩
  | (n + 11), h => exact absurd h (by omega)

def g0 (l : List Int) : Int := l.getD 0 0
def g1 (l : List Int) : Int := l.getD 1 0
def cV (i : Nat) : Nat := match i with
  | 0 => 1
  | 1 => 1
  | 2 => 1
  | 3 => 1
  | 4 => 1
  | 5 => 1
  | 6 => 2
  | 7 => 2
  | 8 => 2
  | 9 => 2
  | _ => 2
def wOut (i : Nat) (ns ws : List Int) (kp : Int) : List (Int × Int) := match i with
  | 0 => [(0, g0 ws)]
  | 1 => []
  | 2 => [(0, g0 ws)]
  | 3 => [(0, g0 ws), (1, g0 ws)]
  | 4 => [(0, (g0 ns * g0 ws + g1 ns) % 1000000000)]
  | 5 => [(0, (kp + g0 ws) % 1000000000)]
  | 6 => [(0, (g0 ws + g1 ws) % 1000000000)]
  | 7 => [(0, if g0 ws < g1 ws then 1 else 0)]
  | 8 => [(0, if g1 ws < g0 ws then g1 ws else g0 ws), (1, if g1 ws < g0 ws then g0 ws else g1 ws)]
  | 9 => [(0, g1 ws)]
  | _ => [(g0 ws % 2, g1 ws)]
def wKept (i : Nat) (ws : List Int) (kp : Int) : Int := if i = 5 then (kp + g0 ws) % 1000000000 else kp
theorem wOut_kept {i : Nat} (hi : i ≤ 10) (h : i ≠ 5) (ns ws : List Int) (kp : Int) : wOut i ns ws kp = wOut i ns ws 0 := by
  match i, hi with
  | 0, _ => rfl
  | 1, _ => rfl
  | 2, _ => rfl
  | 3, _ => rfl
  | 4, _ => rfl
  | 5, _ => exact absurd rfl h
  | 6, _ => rfl
  | 7, _ => rfl
  | 8, _ => rfl
  | 9, _ => rfl
  | 10, _ => rfl
  | (n + 11), z => exact absurd z (by omega)
def pvs (ps : List (Int × Int)) : List (List V) := ps.map fun p => [.int p.1, .int p.2]
def Bnd (ws : List Int) : Prop := ∀ w ∈ ws, 0 ≤ w ∧ w < 1000000000
theorem cV_le (i : Nat) : cV i ≤ 2 := match i with
  | 0 => by show 1 ≤ 2; decide
  | 1 => by show 1 ≤ 2; decide
  | 2 => by show 1 ≤ 2; decide
  | 3 => by show 1 ≤ 2; decide
  | 4 => by show 1 ≤ 2; decide
  | 5 => by show 1 ≤ 2; decide
  | 6 => by show 2 ≤ 2; decide
  | 7 => by show 2 ≤ 2; decide
  | 8 => by show 2 ≤ 2; decide
  | 9 => by show 2 ≤ 2; decide
  | n + 10 => by show 2 ≤ 2; decide
theorem cV_pos (i : Nat) : 1 ≤ cV i := match i with
  | 0 => by show 1 ≤ 1; decide
  | 1 => by show 1 ≤ 1; decide
  | 2 => by show 1 ≤ 1; decide
  | 3 => by show 1 ≤ 1; decide
  | 4 => by show 1 ≤ 1; decide
  | 5 => by show 1 ≤ 1; decide
  | 6 => by show 1 ≤ 2; decide
  | 7 => by show 1 ≤ 2; decide
  | 8 => by show 1 ≤ 2; decide
  | 9 => by show 1 ≤ 2; decide
  | n + 10 => by show 1 ≤ 2; decide
theorem cV_is (i : Nat) : (if ((1 : Int)) < (if (2 : Int) < ((cI i : Nat) : Int) then 2 else ((cI i : Nat) : Int)) then (if (2 : Int) < ((cI i : Nat) : Int) then 2 else ((cI i : Nat) : Int)) else 1) = ((cV i : Nat) : Int) := match i with
  | 0 => by show (if ((1 : Int)) < (if (2 : Int) < ((0 : Nat) : Int) then 2 else ((0 : Nat) : Int)) then (if (2 : Int) < ((0 : Nat) : Int) then 2 else ((0 : Nat) : Int)) else 1) = ((1 : Nat) : Int); decide
  | 1 => by show (if ((1 : Int)) < (if (2 : Int) < ((1 : Nat) : Int) then 2 else ((1 : Nat) : Int)) then (if (2 : Int) < ((1 : Nat) : Int) then 2 else ((1 : Nat) : Int)) else 1) = ((1 : Nat) : Int); decide
  | 2 => by show (if ((1 : Int)) < (if (2 : Int) < ((1 : Nat) : Int) then 2 else ((1 : Nat) : Int)) then (if (2 : Int) < ((1 : Nat) : Int) then 2 else ((1 : Nat) : Int)) else 1) = ((1 : Nat) : Int); decide
  | 3 => by show (if ((1 : Int)) < (if (2 : Int) < ((1 : Nat) : Int) then 2 else ((1 : Nat) : Int)) then (if (2 : Int) < ((1 : Nat) : Int) then 2 else ((1 : Nat) : Int)) else 1) = ((1 : Nat) : Int); decide
  | 4 => by show (if ((1 : Int)) < (if (2 : Int) < ((1 : Nat) : Int) then 2 else ((1 : Nat) : Int)) then (if (2 : Int) < ((1 : Nat) : Int) then 2 else ((1 : Nat) : Int)) else 1) = ((1 : Nat) : Int); decide
  | 5 => by show (if ((1 : Int)) < (if (2 : Int) < ((1 : Nat) : Int) then 2 else ((1 : Nat) : Int)) then (if (2 : Int) < ((1 : Nat) : Int) then 2 else ((1 : Nat) : Int)) else 1) = ((1 : Nat) : Int); decide
  | 6 => by show (if ((1 : Int)) < (if (2 : Int) < ((2 : Nat) : Int) then 2 else ((2 : Nat) : Int)) then (if (2 : Int) < ((2 : Nat) : Int) then 2 else ((2 : Nat) : Int)) else 1) = ((2 : Nat) : Int); decide
  | 7 => by show (if ((1 : Int)) < (if (2 : Int) < ((2 : Nat) : Int) then 2 else ((2 : Nat) : Int)) then (if (2 : Int) < ((2 : Nat) : Int) then 2 else ((2 : Nat) : Int)) else 1) = ((2 : Nat) : Int); decide
  | 8 => by show (if ((1 : Int)) < (if (2 : Int) < ((2 : Nat) : Int) then 2 else ((2 : Nat) : Int)) then (if (2 : Int) < ((2 : Nat) : Int) then 2 else ((2 : Nat) : Int)) else 1) = ((2 : Nat) : Int); decide
  | 9 => by show (if ((1 : Int)) < (if (2 : Int) < ((3 : Nat) : Int) then 2 else ((3 : Nat) : Int)) then (if (2 : Int) < ((3 : Nat) : Int) then 2 else ((3 : Nat) : Int)) else 1) = ((2 : Nat) : Int); decide
  | n + 10 => by show (if ((1 : Int)) < (if (2 : Int) < ((2 : Nat) : Int) then 2 else ((2 : Nat) : Int)) then (if (2 : Int) < ((2 : Nat) : Int) then 2 else ((2 : Nat) : Int)) else 1) = ((2 : Nat) : Int); decide
def sp_worked (K : PySem.W.Frag) (t : Adr) (i : Nat) : Sp := fun vs H Q _ => ∃ (p a : Addr) (nm : V) (ns : List Int) (is os : List V) (ws : List Int) (kp : Int), vs = [.ref p, .ref a, .int kp] ∧ PartAt K t H p i nm (ns.map V.int) is os ∧ ns.length = cN i ∧
  SqL K H a (ws.map V.int) ∧ ws.length = cV i ∧ Bnd ws ∧ ∀ H' U L rs, Same H H' → H L = none → H' U = some (.tup [.ref L, .int (wKept i ws kp)]) → H' L = some (.lst (rs.map V.ref)) → Tups H' rs (pvs (wOut i ns ws kp)) → Q (.ref U) H'
theorem finL1 {H : Hp} {Q : VK} {a b x y : Int} (hx : x = a) (hy : y = b) (k : ∀ H' L rs, Same H H' → H L = none → H' L = some (.lst (rs.map V.ref)) → Tups H' rs (pvs [(a, b)]) → Q (.ref L) H') {t0 L : Addr} (n0 : H t0 = none)
    (nL : (upd H t0 (.tup [.int x, .int y])) L = none) : Q (.ref L) (upd (upd H t0 (.tup [.int x, .int y])) L (.lst [.ref t0])) := by
  subst hx hy
  have s0 := same_new (o := .tup [.int x, .int y]) n0
  have s1 := same_new (o := .lst [.ref t0]) nL
  exact k _ L [t0] (s0.trans s1) (s0.free nL) upd_same (.cons (s1 _ _ upd_same) .nil)
theorem finL2 {H : Hp} {Q : VK} {a b c d x y u v : Int} (hx : x = a) (hy : y = b) (hu : u = c) (hv : v = d) (k : ∀ H' L rs, Same H H' → H L = none → H' L = some (.lst (rs.map V.ref)) → Tups H' rs (pvs [(a, b), (c, d)]) → Q (.ref L) H') {t0 t1 L : Addr} (n0 : H t0 = none)
    (n1 : (upd H t0 (.tup [.int x, .int y])) t1 = none) (nL : (upd (upd H t0 (.tup [.int x, .int y])) t1 (.tup [.int u, .int v])) L = none) : Q (.ref L) (upd (upd (upd H t0 (.tup [.int x, .int y])) t1 (.tup [.int u, .int v])) L (.lst [.ref t0, .ref t1])) := by
  subst hx hy hu hv
  have s0 := same_new (o := .tup [.int x, .int y]) n0
  have s1 := same_new (o := .tup [.int u, .int v]) n1
  have s2 := same_new (o := .lst [.ref t0, .ref t1]) nL
  exact k _ L [t0, t1] (s0.trans (s1.trans s2)) (s0.free (s1.free nL)) upd_same (.cons (s2 _ _ (s1 _ _ upd_same)) (.cons (s2 _ _ upd_same) .nil))
/-- behind the list the tuple of it and what is remembered -/
theorem finU {H : Hp} {Q : VK} {c : Int} {ps : List (Int × Int)} (k : ∀ H' U L rs, Same H H' → H L = none → H' U = some (.tup [.ref L, .int c]) → H' L = some (.lst (rs.map V.ref)) → Tups H' rs (pvs ps) → Q (.ref U) H') :
    ∀ H' L rs, Same H H' → H L = none → H' L = some (.lst (rs.map V.ref)) → Tups H' rs (pvs ps) → ∀ U, H' U = none → Q (.ref U) (upd H' U (.tup [.ref L, .int c])) := fun H' L rs s nL eL tL U nU =>
  have s2 := same_new (o := .tup [.ref L, .int c]) nU
  k _ U L rs (s.trans s2) nL upd_same (s2 _ _ eL) (tL.same s2)
theorem two_le : (2 : Nat) ≤ sizeLine := by decide
theorem one_le : (1 : Nat) ≤ sizeLine := by decide
theorem mulV {a b : Int} {ws : List Int} (h : Bnd ws) (hb : b ∈ ws) : IntMulOk a b := .of_right (intBits_le_64 (by have := (h b hb).1; omega) (by have := (h b hb).2; omega))
theorem e9 : (10 : Int) ^ (9 : Int).toNat = 1000000000 := by decide
def dP (p : Int × Int) : PyData := .tuple [.int p.1, .int p.2]
theorem dts_ps {H : Hp} : ∀ {rs : List Addr} {ps : List (Int × Int)}, Tups H rs (pvs ps) → Dts K H (rs.map V.ref) (ps.map dP)
  | [], [], _ => .nil
  | [], _ :: _, h => by cases h
  | _ :: _, [], h => by cases h
  | r :: rs, p :: ps, h => by
    cases h with
    | cons h t => exact .cons (.tuple (SqT.of h) (.cons (.int _) (.cons (.int _) .nil))) (dts_ps t)
theorem lay_ps : ∀ (ps : List (Int × Int)), PyData.canLayAll0 (ps.map dP) = true
  | [] => by simp [PyData.canLayAll0]
  | p :: ps => by simp [PyData.canLayAll0, PyData.canLay0, dP, lay_ps ps]
theorem dep_ps : ∀ (ps : List (Int × Int)), PyData.depthAll (ps.map dP) ≤ 1
  | [] => by simp [PyData.depthAll]
  | p :: ps => by
    have := dep_ps ps
    simp [PyData.depthAll, PyData.depth, dP]
    omega
theorem eqv_ps : ∀ (ps : List (Int × Int)), PyData.eqvAll (ps.map dP) (ps.map dP) = true
  | [] => by simp [PyData.eqvAll]
  | p :: ps => by simp [PyData.eqvAll, PyData.eqv, dP, eqv_ps ps]
theorem shaped_w (ps : List (Int × Int)) (c : Int) : SeqAt.shaped (.tuple [.list (ps.map dP), .int c]) = true := by
  have h := dep_ps ps
  have h2 := lay_ps ps
  simp [SeqAt.shaped, PyData.canLay0, PyData.canLayAll0, PyData.depth, PyData.depthAll, h2]
  omega
theorem eqv_w (ps : List (Int × Int)) (c : Int) : PyData.eqv (.tuple [.list (ps.map dP), .int c]) (.tuple [.list (ps.map dP), .int c]) = true := by
  simp [PyData.eqv, PyData.eqvAll, eqv_ps ps]
theorem dts_ints {H : Hp} : ∀ (ws : List Int), Dts K H (ws.map V.int) (ws.map PyData.int)
  | [] => .nil
  | x :: r => .cons (.int _) (dts_ints r)
theorem flat_ints (l : List Int) : ∀ d ∈ l.map PyData.int, Flat d := by
  intro d hd
  obtain ⟨v, _, rfl⟩ := List.mem_map.mp hd
  exact .int _
theorem eqv_ints (l : List Int) : PyData.eqv (.list (l.map PyData.int)) (.list (l.map PyData.int)) = true := by
  unfold PyData.eqv
  exact eqvAll_flat (flat_ints l)
/-- a part, what is due of it, the values and what is remembered -/
def One (K : PySem.W.Frag) (t : Adr) (S : Addr) (H : Hp) (r : Addr) : Prop := ∃ (p U L wa i : Nat) (nm : V) (ns : List Int) (is os : List V) (ws : List Int) (kp : Int) (rs : List Addr), i ≤ 10 ∧ H r = some (.tup [.ref p, .ref U, .ref wa, .int kp]) ∧ PartAt K t H p i nm (ns.map V.int) is os ∧ ns.length = cN i ∧
  H U = some (.tup [.ref L, .int (wKept i ws kp)]) ∧ H L = some (.lst (rs.map V.ref)) ∧ Tups H rs (pvs (wOut i ns ws kp)) ∧ H wa = some (.lst (ws.map V.int)) ∧ ws.length = cV i ∧ Bnd ws ∧ L ≠ S ∧ wa ≠ S
theorem One.same {S : Addr} {H H' : Hp} {r : Addr} (h : One K t S H r) (s : Same H H') : One K t S H' r := by
  obtain ⟨p, U, L, wa, i, nm, ns, is, os, ws, kp, rs, h1, h2, h3, h4, h5, h6, h7, h8, h9, h10, h11, h12⟩ := h
  exact ⟨p, U, L, wa, i, nm, ns, is, os, ws, kp, rs, h1, s _ _ h2, h3.same s, h4, s _ _ h5, s _ _ h6, h7.same s, s _ _ h8, h9, h10, h11, h12⟩
theorem tups_but {S : Addr} {H H' : Hp} {zs : List V} (e : But S H H') (hS : H S = some (.lst zs)) : ∀ {rs : List Addr} {vss : List (List V)}, Tups H rs vss → Tups H' rs vss
  | _, _, .nil => .nil
  | _, _, .cons h t => .cons (e _ _ (ne_of h hS (by intro z; cases z)) h) (tups_but e hS t)
theorem One.but {S : Addr} {H H' : Hp} {zs : List V} {r : Addr} (h : One K t S H r) (e : But S H H') (hS : H S = some (.lst zs)) : One K t S H' r := by
  obtain ⟨p, U, L, wa, i, nm, ns, is, os, ws, kp, rs, h1, h2, ⟨dx, tn, ti, to, a1, a2, a3, a4⟩, h4, h5, h6, h7, h8, h9, h10, h11, h12⟩ := h
  exact ⟨p, U, L, wa, i, nm, ns, is, os, ws, kp, rs, h1, e _ _ (ne_of h2 hS (by intro z; cases z)) h2, ⟨dx, tn, ti, to, e _ _ (ne_of a1 hS (by intro z; cases z)) a1, e.seqTL hS a2, e.seqTL hS a3, e.seqTL hS a4⟩, h4, e _ _ (ne_of h5 hS (by intro z; cases z)) h5, e _ _ h11 h6, tups_but e hS h7, e _ _ h12 h8, h9, h10, h11, h12⟩

/-- the fields of an own object: what stands under each, and that no method's name is among them -/
structure Flds (ms : List Str) (want : List (Str × V)) (fs : List (Str × V)) : Prop where
  has : ∀ p ∈ want, fs.lookup p.1 = some p.2
  no : ∀ m ∈ ms, fs.lookup m = none
/-- a net stands at n: rooms, first values (tuples at F's addresses), parts -/
structure NetAt (K : PySem.W.Frag) (t : Adr) (H : Hp) (n : Addr) (rooms : List (Str × Int)) (firsts : List (Str × Addr)) (parts : List (Str × Addr)) : Prop where
  ex : ∃ dx fs R F Pd G Tk, H n = some (.ins t.C_Net dx fs) ∧ Flds ["lane_names", "part_names", "gives", "takes", "names_of_kind", "room_of", "first_of", "part_of", "need_lane_name", "__init__"] [("rooms", .ref R), ("firsts", .ref F), ("parts", .ref Pd), ("givers", .ref G), ("takers", .ref Tk)] fs ∧
    H R = some (.dK (rooms.map fun p => ((Sum.inr p.1 : Key), V.int p.2))) ∧ H F = some (.dK (firsts.map fun p => ((Sum.inr p.1 : Key), V.ref p.2))) ∧ H Pd = some (.dK (parts.map fun p => ((Sum.inr p.1 : Key), V.ref p.2)))
theorem NetAt.same {H H' : Hp} {n : Addr} {rooms : List (Str × Int)} {firsts parts : List (Str × Addr)} (h : NetAt K t H n rooms firsts parts) (s : Same H H') : NetAt K t H' n rooms firsts parts := by
  obtain ⟨dx, fs, R, F, Pd, G, Tk, h1, h2, h3, h4, h5⟩ := h
  exact ⟨dx, fs, R, F, Pd, G, Tk, s _ _ h1, h2, s _ _ h3, s _ _ h4, s _ _ h5⟩

/-- while a dict is held fast -/
theorem chill_get {H : Hp} {d : Addr} {kvs : List (Key × V)} {v : HO} (e : H d = some (.dK kvs)) {b : Addr} {u : HO} (h : H b = some u) (hu : ∀ ks, u ≠ .dK ks) : upd H d v b = some u := by
  rw [upd_ne]
  · exact h
  · rintro rfl
    rw [e] at h
    exact hu _ (Option.some.inj h).symm
theorem chill_seqT {H : Hp} {d a : Addr} {kvs : List (Key × V)} {v : HO} {xs : List V} (e : H d = some (.dK kvs)) (h : SqT K H a xs) : SqT K (upd H d v) a xs := by
  rcases h with (h | ⟨o, h⟩) | h
  · exact .inl (.inl (chill_get e h (by intro _ z; cases z)))
  · exact .inl (.inr ⟨o, chill_get e h (by intro _ z; cases z)⟩)
  · exact .inr h
theorem chill_seqL {H : Hp} {d a : Addr} {kvs : List (Key × V)} {v : HO} {xs : List V} (e : H d = some (.dK kvs)) (h : SqL K H a xs) : SqL K (upd H d v) a xs := by
  rcases h with (h | ⟨o, h⟩) | h
  · exact .inl (.inl (chill_get e h (by intro _ z; cases z)))
  · exact .inl (.inr ⟨o, chill_get e h (by intro _ z; cases z)⟩)
  · exact .inr h
theorem PartAt.chill {H : Hp} {d p : Addr} {kvs : List (Key × V)} {v : HO} {i : Nat} {nm : V} {ns is os : List V} (e : H d = some (.dK kvs)) (h : PartAt K t H p i nm ns is os) : PartAt K t (upd H d v) p i nm ns is os := by
  obtain ⟨dx, tn, ti, to, h1, h2, h3, h4⟩ := h
  exact ⟨dx, tn, ti, to, chill_get e h1 (by intro _ z; cases z), chill_seqT e h2, chill_seqT e h3, chill_seqT e h4⟩
theorem melt_back {H : Hp} {d D : Addr} {kvs : List (Key × V)} {o : Obj} {u : HO} (e : H d = some (.dK kvs)) (hD : (upd H d (.frz o (.dK kvs))) D = none) : upd (upd (upd H d (.frz o (.dK kvs))) D u) d (.dK kvs) = upd H D u := by
  have n : D ≠ d := by rintro rfl; rw [upd_same] at hD; cases hD
  funext b
  by_cases h : b = d
  · subst h
    rw [upd_same, upd_ne (Ne.symm n)]
    exact e.symm
  · rw [upd_ne h]
    unfold upd
    rw [if_neg h]
theorem free_chill {H : Hp} {d D : Addr} {v : HO} (hD : (upd H d v) D = none) : H D = none := by
  by_cases h : D = d
  · subst h; rw [upd_same] at hD; cases hD
  · rw [upd_ne h] at hD; exact hD
/-- the parts of a net, each with its kind -/
def PartsAt (K : PySem.W.Frag) (t : Adr) (H : Hp) (parts : List (Str × Addr)) (kd : Addr → Nat) : Prop :=
  ∀ q ∈ parts, valV (parts.map fun p => ((Sum.inr p.1 : Key), V.ref p.2)) (Sum.inr q.1) = some (.ref q.2) ∧ kd q.2 ≤ 1 ∧ ∃ nm ns is os, PartAt K t H q.2 (kd q.2) nm ns is os
def ofKind (parts : List (Str × Addr)) (kd : Addr → Nat) (x : Str) : List V := (parts.filter fun q => decide (kname (kd q.2) = x)).map fun q => V.str q.1
theorem ofKind_snoc (parts : List (Str × Addr)) (kd : Addr → Nat) (x : Str) (q : Str × Addr) : ofKind (parts ++ [q]) kd x = if kname (kd q.2) = x then ofKind parts kd x ++ [V.str q.1] else ofKind parts kd x := by
  unfold ofKind
  rw [List.filter_append, List.map_append]
  by_cases h : kname (kd q.2) = x
  · rw [if_pos h]; simp [h]
  · rw [if_neg h]; simp [h]
theorem ofKind_len (parts : List (Str × Addr)) (kd : Addr → Nat) (x : Str) : (ofKind parts kd x).length ≤ parts.length := by
  unfold ofKind
  rw [List.length_map]
  exact List.length_filter_le _ _
theorem cut_drop (xs : List V) (g : Nat) : cutV xs (some (g : Int)) none = xs.drop g := by
  unfold cutV
  rw [HT.sIx_none, HT.sIx_nat, ← List.length_drop, List.take_length]
  rcases Nat.le_total g xs.length with h | h
  · rw [Nat.min_eq_left h]
  · rw [Nat.min_eq_right h, List.drop_eq_nil_of_le h, List.drop_eq_nil_of_le (Nat.le_refl _)]
theorem cut_take (xs : List V) (g : Nat) : cutV xs none (some (g : Int)) = xs.take g := by
  unfold cutV
  rw [HT.sIx_none, HT.sIx_nat, List.drop_zero, Nat.sub_zero]
  rcases Nat.le_total g xs.length with h | h
  · rw [Nat.min_eq_left h]
  · rw [Nat.min_eq_right h, List.take_of_length_le h, List.take_of_length_le (Nat.le_refl _)]
/-- a flow stands at f, with its net and its five dicts -/
structure FlowAt (K : PySem.W.Frag) (t : Adr) (H : Hp) (f n E G Kp D Rw : Addr) : Prop where
  ex : ∃ dx fs, H f = some (.ins t.C_Flow dx fs) ∧ Flds ["holds", "held_now", "gone_by", "row_left", "head", "heads", "lacking", "row_ended", "deed", "do"] [("net", .ref n), ("ever", .ref E), ("gone", .ref G), ("kept", .ref Kp), ("done", .ref D), ("rows", .ref Rw)] fs
theorem FlowAt.same {H H' : Hp} {f n E G Kp D Rw : Addr} (h : FlowAt K t H f n E G Kp D Rw) (s : Same H H') : FlowAt K t H' f n E G Kp D Rw := by
  obtain ⟨dx, fs, h1, h2⟩ := h
  exact ⟨dx, fs, s _ _ h1, h2⟩

/-- the lane that a part lacks -/
def lackLane (i : Nat) (xs : List Str) (hs : List V) : V := match (places i hs).find? (lackB hs) with
  | some q => ((xs[q]?).map V.str).getD .non
  | none => .non

theorem tups_get {H : Hp} : ∀ {rs : List Addr} {vss : List (List V)} {j : Nat} {r : Addr}, Tups H rs vss → rs[j]? = some r → ∃ vs, vss[j]? = some vs ∧ H r = some (.tup vs)
  | _, _, _, _, .nil, e => by simp at e
  | _, _, 0, _, .cons h _, e => by simp at e; subst e; exact ⟨_, rfl, h⟩
  | _, _, j + 1, _, .cons _ t, e => by
    obtain ⟨vs, h1, h2⟩ := tups_get (j := j) t (by simpa using e)
    exact ⟨vs, by simpa using h1, h2⟩
theorem places_len {i : Nat} {hs : List V} (h : HeadsOk i hs) : (places i hs).length ≤ 3 := by
  have h3 := cI_le i
  have h1 := h.1
  unfold places
  by_cases hi : i = 9
  · rw [if_pos hi]
    split <;> simp
  · rw [if_neg hi, List.length_range]
    omega
theorem wlt_0 (ns ws : List Int) (kp : Int) : ∀ pv ∈ wOut 0 ns ws kp, ∃ q : Nat, pv.1 = (q : Int) ∧ q < cO 0 := by
  intro pv h
  simp [wOut] at h
  subst h
  exact ⟨0, rfl, by decide⟩
theorem wlt_1 (ns ws : List Int) (kp : Int) : ∀ pv ∈ wOut 1 ns ws kp, ∃ q : Nat, pv.1 = (q : Int) ∧ q < cO 1 := by
  intro pv h
  simp [wOut] at h
theorem wOut_lt {i : Nat} (hi : i ≤ 1) (ns ws : List Int) (kp : Int) : ∀ pv ∈ wOut i ns ws kp, ∃ q : Nat, pv.1 = (q : Int) ∧ q < cO i := by
  match i, hi with
  | 0, _ => exact wlt_0 ns ws kp
  | 1, _ => exact wlt_1 ns ws kp
  | (n + 2), z => exact absurd z (by omega)
theorem wOut_len (i : Nat) (ns ws : List Int) (kp : Int) : (wOut i ns ws kp).length ≤ 2 := match i with
  | 0 => by simp [wOut]
  | 1 => by simp [wOut]
  | 2 => by simp [wOut]
  | 3 => by simp [wOut]
  | 4 => by simp [wOut]
  | 5 => by simp [wOut]
  | 6 => by simp [wOut]
  | 7 => by simp [wOut]
  | 8 => by simp [wOut]
  | 9 => by simp [wOut]
  | n + 10 => by simp [wOut]
def nameAt (xs : List Str) (q : Nat) : V := V.str ((xs[q]?).getD Str.empty)

theorem upd_id {H : Hp} {a : Addr} {o : HO} (e : H a = some o) : upd H a o = H := by
  funext b
  unfold upd
  by_cases h : b = a
  · rw [if_pos h, h, e]
  · rw [if_neg h]
theorem upd_upd {H : Hp} {a : Addr} {o o' : HO} : upd (upd H a o) a o' = upd H a o' := by
  funext b
  unfold upd
  by_cases h : b = a
  · rw [if_pos h, if_pos h]
  · rw [if_neg h, if_neg h, if_neg h]
abbrev kb (v : V) : List (Key × V) := [((Sum.inr "b" : Key), v)]
theorem val_kb (v : V) : valV (kb v) (Sum.inr "b") = some v := by simp [valV, kb]
theorem put_kb (v u : V) : putK (kb v) (Sum.inr "b") u = kb u := by simp [putK, kb]
theorem getb {H : Hp} {a : Addr} {v : V} (e : H a = some (.dK (kb v))) : DGet H a (.str "b") (some v) := by
  have := DGet.k (k := Sum.inr "b") e
  rw [val_kb] at this
  exact this
theorem putb {H : Hp} {a : Addr} {v u : V} (e : H a = some (.dK (kb v))) : DPut H a (.str "b") u (upd H a (.dK (kb u))) := by
  have hl : sizeLine = 16777216 := sizeLine_eq
  have := DPut.k (k := Sum.inr "b") (v := u) e (by show 1 < sizeLine; omega)
  rw [put_kb] at this
  exact this

theorem n_ca : ¬ ("c" : Str) = "a" := by decide +kernel
theorem n_gt : ¬ ("give" : Str) = "take" := by decide +kernel
structure Pl where (r n f E G Kp D Rw pc pa le lr F0 : Addr)
def kca (v u : V) : List (Key × V) := [((Sum.inr "c" : Key), v), ((Sum.inr "a" : Key), u)]
def ka (v : V) : List (Key × V) := [((Sum.inr "a" : Key), v)]
theorem val_c (v u : V) : valV (kca v u) (Sum.inr "c") = some v := by simp [valV, kca]
theorem val_a (v u : V) : valV (kca v u) (Sum.inr "a") = some u := by simp [valV, kca, n_ca]
theorem val_ka (v : V) : valV (ka v) (Sum.inr "a") = some v := by simp [valV, ka]
theorem val_kac (v : V) : valV (ka v) (Sum.inr "c") = none := by simp [valV, ka, Ne.symm n_ca]
theorem put_c (v u x : V) : putK (kca v u) (Sum.inr "c") x = kca x u := by
  have h : ¬ ("a" : Str) = "c" := Ne.symm n_ca
  simp [putK, kca, h]
theorem put_a (v u x : V) : putK (kca v u) (Sum.inr "a") x = kca v x := by simp [putK, kca, n_ca]
/-- the run of k41 as it stands: of the row many values were in the lane at first, gv were given, tk taken -/
structure StAt (K : PySem.W.Frag) (t : Adr) (H : Hp) (A : Pl) (room : Int) (row : List Int) (many gv tk turns : Nat) : Prop where
  run : ∃ dx fs, H A.r = some (.ins t.C_Run dx fs) ∧ fs.length ≤ turns + 3 ∧ Flds ["step", "need_doors", "next_deed", "full_lane", "can_work", "works", "taken", "lane_now", "had", "turn", "rows_left"] [("net", .ref A.n), ("flow", .ref A.f), ("turns", .int turns)] fs
  net : ∃ dx fs R F Pd G Tk, H A.n = some (.ins t.C_Net dx fs) ∧ Flds ["lane_names", "part_names", "gives", "takes", "names_of_kind", "room_of", "first_of", "part_of", "need_lane_name", "__init__"] [("rooms", .ref R), ("firsts", .ref F), ("parts", .ref Pd), ("givers", .ref G), ("takers", .ref Tk)] fs ∧
    H R = some (.dK (kb (.int room))) ∧ H F = some (.dK (kb (.ref A.F0))) ∧ H Pd = some (.dK (kca (.ref A.pc) (.ref A.pa))) ∧ (∀ x ∈ [R, F, Pd], x ≠ A.G ∧ x ≠ A.Kp ∧ x ≠ A.D)
  cP : PartAt K t H A.pc 1 (.str "c") [] [.str "b"] []
  aP : PartAt K t H A.pa 0 (.str "a") [] [] [.str "b"]
  flow : FlowAt K t H A.f A.n A.E A.G A.Kp A.D A.Rw
  ever : H A.E = some (.dK (kb (.ref A.le)))
  gone : H A.G = some (.dK (kb (.int (tk : Nat))))
  kept : H A.Kp = some (.dK (kca (.int 0) (.int 0)))
  done : H A.D = some (.dK (kca (.int (tk : Nat)) (.int ((gv - many : Nat) : Nat))))
  rows : H A.Rw = some (.dK (ka (.ref A.lr)))
  le : H A.le = some (.lst ((row.take gv).map V.int))
  lr : H A.lr = some (.lst ((row.drop many).map V.int))
  ne : A.pc ≠ A.pa ∧ A.pc ≠ A.r ∧ A.pa ≠ A.r ∧ A.n ≠ A.r ∧ A.f ≠ A.r
  nd : A.E ≠ A.G ∧ A.Kp ≠ A.G ∧ A.D ≠ A.G ∧ A.D ≠ A.Kp ∧ A.Rw ≠ A.G ∧ A.Rw ≠ A.Kp ∧ A.Rw ≠ A.D ∧ A.E ≠ A.Kp ∧ A.E ≠ A.D ∧ A.le ≠ A.lr
  nb : many ≤ gv ∧ gv ≤ row.length ∧ tk ≤ gv ∧ (gv : Int) - tk ≤ room ∧ 1 ≤ room ∧ room ≤ 199 ∧ row.length ≤ 100 ∧ turns ≤ 500
  bd : Bnd row
section
variable {H : Hp} {A : Pl} {room : Int} {row : List Int} {many gv tk turns : Nat}
theorem StAt.same {H' : Hp} (S : StAt K t H A room row many gv tk turns) (s : Same H H') : StAt K t H' A room row many gv tk turns := by
  obtain ⟨dx, fs, r1, r2, r3⟩ := S.run
  obtain ⟨dxn, fsn, R, F, Pd, G, Tk, n1, n2, n3, n4, n5, n6⟩ := S.net
  exact ⟨⟨dx, fs, s _ _ r1, r2, r3⟩, ⟨dxn, fsn, R, F, Pd, G, Tk, s _ _ n1, n2, s _ _ n3, s _ _ n4, s _ _ n5, n6⟩, S.cP.same s, S.aP.same s, S.flow.same s, s _ _ S.ever, s _ _ S.gone, s _ _ S.kept, s _ _ S.done, s _ _ S.rows, s _ _ S.le, s _ _ S.lr, S.ne, S.nd, S.nb, S.bd⟩
theorem StAt.netAt (S : StAt K t H A room row many gv tk turns) : NetAt K t H A.n [("b", room)] [("b", A.F0)] [("c", A.pc), ("a", A.pa)] := by
  obtain ⟨dxn, fsn, R, F, Pd, G, Tk, n1, n2, n3, n4, n5, n6⟩ := S.net
  exact ⟨dxn, fsn, R, F, Pd, G, Tk, n1, n2, n3, n4, n5⟩
def kdA (A : Pl) (p : Addr) : Nat := if p = A.pc then 1 else 0
theorem StAt.parts (S : StAt K t H A room row many gv tk turns) : PartsAt K t H [("c", A.pc), ("a", A.pa)] (kdA A) := by
  intro q hq
  simp only [List.mem_cons, List.not_mem_nil, or_false] at hq
  rcases hq with rfl | rfl
  · exact ⟨val_c (.ref A.pc) (.ref A.pa), (by unfold kdA; split <;> decide), _, _, _, _, by rw [show kdA A A.pc = 1 by simp [kdA]]; exact S.cP⟩
  · exact ⟨val_a (.ref A.pc) (.ref A.pa), (by unfold kdA; split <;> decide), _, _, _, _, by rw [show kdA A A.pa = 0 by simp [kdA, Ne.symm S.ne.1]]; exact S.aP⟩
theorem StAt.gives (S : StAt K t H A room row many gv tk turns) : ofKind [("c", A.pc), ("a", A.pa)] (kdA A) "give" = [.str "a"] := by
  have e1 : kdA A A.pc = 1 := by simp [kdA]
  have e2 : kdA A A.pa = 0 := by simp [kdA, Ne.symm S.ne.1]
  simp [ofKind, e1, e2, kname, Ne.symm n_gt]
theorem StAt.takes (S : StAt K t H A room row many gv tk turns) : ofKind [("c", A.pc), ("a", A.pa)] (kdA A) "take" = [.str "c"] := by
  have e1 : kdA A A.pc = 1 := by simp [kdA]
  have e2 : kdA A A.pa = 0 := by simp [kdA, Ne.symm S.ne.1]
  simp [ofKind, e1, e2, kname, n_gt]
/-- a deed stands at U: k values are taken from the lane, ws are given to it -/
def DeedAt (H : Hp) (U : Addr) (k : Nat) (ws : List Int) : Prop := ∃ La Lg rs, H U = some (.tup [.ref La, .ref Lg, .int 0]) ∧ H La = some (.lst (List.replicate k (.str "b"))) ∧ H Lg = some (.lst (rs.map V.ref)) ∧ Tups H rs (ws.map fun v => [V.str "b", .int v])
theorem DeedAt.same {H' : Hp} {U : Addr} {k : Nat} {ws : List Int} (h : DeedAt H U k ws) (s : Same H H') : DeedAt H' U k ws := by
  obtain ⟨La, Lg, rs, h1, h2, h3, h4⟩ := h
  exact ⟨La, Lg, rs, s _ _ h1, s _ _ h2, s _ _ h3, Tups.same s h4⟩
end

def low (c : Nat) : Bool := decide (97 ≤ c) && decide (c ≤ 122)
def fig (c : Nat) : Bool := decide (48 ≤ c) && decide (c ≤ 57)
/-- a name, by its codes -/
def nameB (x : Str) : Bool := match x.cps.toList with
  | [] => false
  | c :: r => decide (r.length ≤ 7) && (low c && (c :: r).all fun d => low d || fig d)
abbrev LET : Str := "abcdefghijklmnopqrstuvwxyz"
abbrev FIG : Str := "0123456789"
theorem let_codes : LET.cps.toList = List.range' 97 26 := by decide +kernel
theorem fig_codes : FIG.cps.toList = List.range' 48 10 := by decide +kernel
theorem in_let (c : Nat) : (!(Builtin.Str.occurrences LET ⟨#[c]⟩ 0 LET.length 1).isEmpty) = low c := by
  rw [StrLaws.found_one, let_codes]
  unfold low
  rw [Bool.eq_iff_iff]
  simp [List.mem_range'_1]
  omega
theorem in_fig (c : Nat) : (!(Builtin.Str.occurrences FIG ⟨#[c]⟩ 0 FIG.length 1).isEmpty) = fig c := by
  rw [StrLaws.found_one, fig_codes]
  unfold fig
  rw [Bool.eq_iff_iff]
  simp [List.mem_range'_1]
  omega
theorem len_codes (x : Str) : x.cps.toList.length = x.length := by simp [Str.length]

theorem name_b : nameB "b" = true ∧ ("b" : Str).length ≤ 100 := by decide +kernel
theorem name_c : nameB "c" = true ∧ ("c" : Str).length ≤ 100 := by decide +kernel
def kc : List (Key × V) := [((Sum.inr "c" : Key), V.bl true)]
theorem val_kc_c : valV kc (Sum.inr "c") = some (.bl true) := by simp [valV, kc]
theorem val_kc_a : valV kc (Sum.inr "a") = none := by simp [valV, kc, n_ca]
theorem put_kc : putK kc (Sum.inr "a") (.bl true) = kca (.bl true) (.bl true) := by simp [putK, kc, kca, n_ca]
theorem name_a : nameB "a" = true ∧ ("a" : Str).length ≤ 100 := by decide +kernel

def startV (i : Nat) (ns : List V) : V := if i = 5 then ns.headD .non else .int 0
def sp_start (K : PySem.W.Frag) (t : Adr) (i : Nat) : Sp := fun vs H Q _ => ∃ (p : Addr) (nm : V) (ns is os : List V), vs = [.ref p] ∧ PartAt K t H p i nm ns is os ∧ ns.length = cN i ∧ Q (startV i ns) H
/-- the net of k41 stands at n -/
structure NetB (K : PySem.W.Frag) (t : Adr) (H : Hp) (n pc pa F0 : Addr) (room : Int) (ws : List Int) : Prop where
  ex : ∃ dx fs R F Pd G Tk, H n = some (.ins t.C_Net dx fs) ∧ Flds ["lane_names", "part_names", "gives", "takes", "names_of_kind", "room_of", "first_of", "part_of", "need_lane_name", "__init__"] [("rooms", .ref R), ("firsts", .ref F), ("parts", .ref Pd), ("givers", .ref G), ("takers", .ref Tk)] fs ∧
    H R = some (.dK (kb (.int room))) ∧ H F = some (.dK (kb (.ref F0))) ∧ H Pd = some (.dK (kca (.ref pc) (.ref pa)))
  f0 : SqT K H F0 (ws.map V.int)
  cP : PartAt K t H pc 1 (.str "c") [] [.str "b"] []
  aP : PartAt K t H pa 0 (.str "a") [] [] [.str "b"]
  ne : pc ≠ pa
  b0 : 1 ≤ room ∧ room ≤ 199 ∧ (ws.length : Int) ≤ room ∧ ws.length ≤ 100
  bd : Bnd ws
theorem NetB.same {H H' : Hp} {n pc pa F0 : Addr} {room : Int} {ws : List Int} (h : NetB K t H n pc pa F0 room ws) (s : Same H H') : NetB K t H' n pc pa F0 room ws := by
  obtain ⟨dx, fs, R, F, Pd, G, Tk, h1, h2, h3, h4, h5⟩ := h.ex
  exact ⟨⟨dx, fs, R, F, Pd, G, Tk, s _ _ h1, h2, s _ _ h3, s _ _ h4, s _ _ h5⟩, s.seqT h.f0, h.cP.same s, h.aP.same s, h.ne, h.b0, h.bd⟩
/-- what is handed in for the net -/
structure Handed (K : PySem.W.Frag) (H : Hp) (Ll Lp W : Addr) (room : Int) (ws : List Int) : Prop where
  ll : ∃ q, SqL K H Ll [.ref q] ∧ H q = some (.tup [.str "b", .int room, .ref W])
  w : SqL K H W (ws.map V.int)
  lp : ∃ p1 p2 a1 a2 a3 c1 c2 c3, SqL K H Lp [.ref p1, .ref p2] ∧ H p1 = some (.tup [.str "take", .str "c", .ref a1, .ref a2, .ref a3]) ∧ H p2 = some (.tup [.str "give", .str "a", .ref c1, .ref c2, .ref c3]) ∧
    SqL K H a1 [] ∧ SqL K H a2 [.str "b"] ∧ SqL K H a3 [] ∧ SqL K H c1 [] ∧ SqL K H c2 [] ∧ SqL K H c3 [.str "b"]
  b0 : 1 ≤ room ∧ room ≤ 199 ∧ (ws.length : Int) ≤ room ∧ ws.length ≤ 100
  bd : Bnd ws

/-- what an __init__ has made so far: its object at f, and what it has laid anew -/
structure Tr (H : Hp) (f : Addr) (L : List (Addr × HO)) (Hk : Hp) : Prop where
  but : But f H Hk
  all : ∀ p ∈ L, Hk p.1 = some p.2
  fre : ∀ p ∈ L, p.1 = f ∨ H p.1 = none
  nod : (L.map Prod.fst).Nodup
  obj : ∃ o, (f, o) ∈ L
theorem Tr.free {H Hk : Hp} {f x : Addr} {L : List (Addr × HO)} (T : Tr H f L Hk) (nx : Hk x = none) : H x = none := by
  cases e : H x with
  | none => rfl
  | some o =>
    by_cases h : x = f
    · obtain ⟨u, hu⟩ := T.obj
      have := T.all _ hu
      rw [h] at nx
      rw [nx] at this
      cases this
    · rw [T.but x o h e] at nx
      cases nx
theorem Tr.new {H Hk : Hp} {f x : Addr} {L : List (Addr × HO)} {o : HO} (T : Tr H f L Hk) (nx : Hk x = none) : Tr H f (L ++ [(x, o)]) (upd Hk x o) := by
  have hne : ∀ p ∈ L, p.1 ≠ x := fun p hp z => by have := T.all p hp; rw [z, nx] at this; cases this
  have hx := T.free nx
  refine ⟨fun b u n e => by rw [upd_ne (ne_of_none e hx)]; exact T.but b u n e, fun p hp => ?_, fun p hp => ?_, ?_, ?_⟩
  · rcases List.mem_append.mp hp with h | h
    · rw [upd_ne (hne p h)]; exact T.all p h
    · rw [List.mem_singleton] at h; subst h; exact upd_same
  · rcases List.mem_append.mp hp with h | h
    · exact T.fre p h
    · rw [List.mem_singleton] at h; subst h; exact .inr hx
  · rw [List.map_append, List.nodup_append]
    refine ⟨T.nod, by simp, fun a ha b hb => ?_⟩
    obtain ⟨p, hp, rfl⟩ := List.mem_map.mp ha
    simp at hb
    subst hb
    exact hne p hp
  · obtain ⟨u, hu⟩ := T.obj
    exact ⟨u, List.mem_append.mpr (.inl hu)⟩
theorem Tr.same {H Hk Hk' : Hp} {f : Addr} {L : List (Addr × HO)} (T : Tr H f L Hk) (s : Same Hk Hk') : Tr H f L Hk' :=
  ⟨fun b u n e => s _ _ (T.but b u n e), fun p hp => s _ _ (T.all p hp), T.fre, T.nod, T.obj⟩
theorem Tr.put {H Hk : Hp} {f x : Addr} {o o' : HO} {L1 L2 : List (Addr × HO)} (T : Tr H f (L1 ++ (x, o) :: L2) Hk) : Tr H f (L1 ++ (x, o') :: L2) (upd Hk x o') := by
  have hx : x = f ∨ H x = none := T.fre (x, o) (by simp)
  have nd := T.nod
  rw [List.map_append, List.map_cons, List.nodup_append] at nd
  obtain ⟨n1, n2, n3⟩ := nd
  rw [List.nodup_cons] at n2
  refine ⟨fun b u n e => ?_, fun p hp => ?_, fun p hp => ?_, ?_, ?_⟩
  · have : b ≠ x := by
      rcases hx with rfl | hx
      · exact n
      · exact ne_of_none e hx
    rw [upd_ne this]; exact T.but b u n e
  · rcases List.mem_append.mp hp with h | h
    · have : p.1 ≠ x := n3 p.1 (List.mem_map.mpr ⟨p, h, rfl⟩) x (by simp)
      rw [upd_ne this]; exact T.all p (by simp [h])
    · rcases List.mem_cons.mp h with rfl | h
      · exact upd_same
      · have : p.1 ≠ x := fun z => n2.1 (by rw [← z]; exact List.mem_map.mpr ⟨p, h, rfl⟩)
        rw [upd_ne this]; exact T.all p (by simp [h])
  · rcases List.mem_append.mp hp with h | h
    · exact T.fre p (by simp [h])
    · rcases List.mem_cons.mp h with rfl | h
      · exact hx
      · exact T.fre p (by simp [h])
  · have := T.nod
    rw [List.map_append, List.map_cons] at this ⊢
    exact this
  · obtain ⟨u, hu⟩ := T.obj
    rcases List.mem_append.mp hu with h | h
    · exact ⟨u, by simp [h]⟩
    · rcases List.mem_cons.mp h with h | h
      · cases h; exact ⟨o', by simp⟩
      · exact ⟨u, by simp [h]⟩
theorem Tr.start {H : Hp} {f : Addr} {o : HO} (e : H f = some o) : Tr H f [(f, o)] H := ⟨But.refl _, fun p hp => by rw [List.mem_singleton] at hp; subst hp; exact e, fun p hp => by rw [List.mem_singleton] at hp; subst hp; exact .inl rfl, by simp, o, by simp⟩
theorem flds_ne (nm : V) (tn ti to : Addr) : flds nm tn ti to ≠ [] := by
  unfold flds
  have h : ∀ (f : Str) (v : V) (l : List (Str × V)), putF f v l ≠ [] := fun f v l => by
    cases l with
    | nil => simp [putF]
    | cons q r => obtain ⟨g, x⟩ := q; unfold putF; split <;> simp
  exact h _ _ _
theorem part_but {H H' : Hp} {f q C dx : Addr} {i : Nat} {nm : V} {ns is os : List V} (b : But f H H') (e : H f = some (.ins C dx [])) (h : PartAt K t H q i nm ns is os) : PartAt K t H' q i nm ns is os := by
  obtain ⟨dx', tn, ti, to, h1, h2, h3, h4⟩ := h
  have hq : q ≠ f := by rintro rfl; rw [e] at h1; cases h1
  exact ⟨dx', tn, ti, to, b _ _ hq h1, b.seqT e h2, b.seqT e h3, b.seqT e h4⟩
theorem NetB.netAt {H : Hp} {n pc pa F0 : Addr} {room : Int} {ws : List Int} (h : NetB K t H n pc pa F0 room ws) : NetAt K t H n [("b", room)] [("b", F0)] [("c", pc), ("a", pa)] := by
  obtain ⟨dx, fs, R, F, Pd, G, Tk, h1, h2, h3, h4, h5⟩ := h.ex
  exact ⟨dx, fs, R, F, Pd, G, Tk, h1, h2, h3, h4, h5⟩
theorem NetB.but {H H' : Hp} {f n pc pa F0 C dx : Addr} {room : Int} {ws : List Int} (h : NetB K t H n pc pa F0 room ws) (b : But f H H') (e : H f = some (.ins C dx [])) (nf : n ≠ f) : NetB K t H' n pc pa F0 room ws := by
  obtain ⟨dx, fs, R, F, Pd, G, Tk, h1, h2, h3, h4, h5⟩ := h.ex
  have kd : ∀ {d : Addr} {kvs : List (Key × V)}, H d = some (.dK kvs) → H' d = some (.dK kvs) := fun q => b _ _ (ne_of q e (by intro z; cases z)) q
  exact ⟨⟨dx, fs, R, F, Pd, G, Tk, b _ _ nf h1, h2, kd h3, kd h4, kd h5⟩, b.seqT e h.f0, part_but b e h.cP, part_but b e h.aP, h.ne, h.b0, h.bd⟩
def kdB (pc : Addr) (p : Addr) : Nat := if p = pc then 1 else 0
theorem NetB.parts {H : Hp} {n pc pa F0 : Addr} {room : Int} {ws : List Int} (h : NetB K t H n pc pa F0 room ws) : PartsAt K t H [("c", pc), ("a", pa)] (kdB pc) := by
  intro q hq
  simp only [List.mem_cons, List.not_mem_nil, or_false] at hq
  rcases hq with rfl | rfl
  · exact ⟨val_c (.ref pc) (.ref pa), (by unfold kdB; split <;> decide), _, _, _, _, by rw [show kdB pc pc = 1 by simp [kdB]]; exact h.cP⟩
  · exact ⟨val_a (.ref pc) (.ref pa), (by unfold kdB; split <;> decide), _, _, _, _, by rw [show kdB pc pa = 0 by simp [kdB, Ne.symm h.ne]]; exact h.aP⟩
theorem NetB.gives {H : Hp} {n pc pa F0 : Addr} {room : Int} {ws : List Int} (h : NetB K t H n pc pa F0 room ws) : ofKind [("c", pc), ("a", pa)] (kdB pc) "give" = [.str "a"] := by
  have e1 : kdB pc pc = 1 := by simp [kdB]
  have e2 : kdB pc pa = 0 := by simp [kdB, Ne.symm h.ne]
  simp [ofKind, e1, e2, kname, Ne.symm n_gt]

theorem ints_dt {H : Hp} {p : Addr} {ws : List Int} (h : SqL K H p (ws.map V.int)) : Dt K H (.ref p) (.list (ws.map PyData.int)) := .list h (dts_ints ws)
theorem ints_flat (ws : List Int) : ∀ d ∈ ws.map PyData.int, Flat d := fun d hd => by
  obtain ⟨w, _, rfl⟩ := List.mem_map.mp hd
  exact .int w
theorem ints_shaped (ws : List Int) : SeqAt.shaped (.list (ws.map PyData.int)) = true := shaped_flat (ints_flat ws)
theorem ints_eqv (ws : List Int) : PyData.eqv (.list (ws.map PyData.int)) (.list (ws.map PyData.int)) = true := by
  unfold PyData.eqv
  exact eqvAll_flat (ints_flat ws)
theorem pick4 {m : Int} : ∃ c : Int, atI [V.int 1, .int 2, .int 3, .int 99] (m % 4) = some (.int c) ∧ 1 ≤ c ∧ c ≤ 99 := by
  have h0 := Int.emod_nonneg m (show (4 : Int) ≠ 0 by decide)
  have h1 := Int.emod_lt_of_pos m (show (0 : Int) < 4 by decide)
  have : m % 4 = 0 ∨ m % 4 = 1 ∨ m % 4 = 2 ∨ m % 4 = 3 := by omega
  rcases this with e | e | e | e <;> rw [e]
  · exact ⟨1, rfl, by decide, by decide⟩
  · exact ⟨2, rfl, by decide, by decide⟩
  · exact ⟨3, rfl, by decide, by decide⟩
  · exact ⟨99, rfl, by decide, by decide⟩
theorem cut_mid {xs : List V} {a b : Nat} (h : a ≤ b) (hb : b ≤ xs.length) : cutV xs (some (a : Int)) (some (b : Int)) = (xs.take b).drop a := by
  unfold cutV
  rw [HT.sIx_nat, HT.sIx_nat, Nat.min_eq_left hb, Nat.min_eq_left (Nat.le_trans h hb), List.drop_take]
def sp_is_whole (K : PySem.W.Frag) : Sp := fun vs H Q _ => ∃ x Tx b, vs = [x] ∧ tyN K H x Tx ∧ Tx ∈ kindTab ∧ decide (Tx = "int") = b ∧ Q (.bl b) H
theorem sc_is_whole : FnScope ["thing"] ["thing"] (defScope s_is_whole) := ⟨rfl, rfl, rfl, by decide +kernel, rfl, by decide +kernel, by decide +kernel⟩
theorem ok_is_whole (T : Txt w K mg t) : FnOk P w K mg base CX0 1 t.f_is_whole t.fd_is_whole ["thing"] (sp_is_whole K) := by
  have sc := sc_is_whole
  refine T.F_is_whole.ok sc (fun vs H Q E h => ?_) (fun cdv A outer s H vs Q E hr h => ?_)
  · obtain ⟨x, Tx, b, rfl, _⟩ := h
    rfl
  · obtain ⟨x, Tx, b, rfl, ty, hm, rfl, k⟩ := h
    refine ⟨_, (pss_one (ps_ret (pe_and (pe_callB call_isi (by rfl) T.n_isinstance bt_isinstance (pa_cons (pv 0) (pa_cons (pe_bltT (by rfl) T.n_int bt_int) pa_nil star_Name) star_Name)) (pe_one (pe_not (pe_callB call_isi (by rfl) T.n_isinstance bt_isinstance (pa_cons (pv 0) (pa_cons (pe_bltT (by rfl) T.n_bool bt_bool) pa_nil star_Name) star_Name))))))), ?_⟩
    have hm' : Tx = "int" ∨ Tx = "bool" ∨ (subT Tx "int" = false ∧ Tx ≠ "int") := by
      simp only [kindTab, List.mem_cons, List.not_mem_nil, or_false] at hm
      rcases hm with rfl | rfl | rfl | rfl | rfl | rfl | rfl
      · exact .inr (.inr (by decide))
      · exact .inr (.inl rfl)
      · exact .inl rfl
      · exact .inr (.inr (by decide))
      · exact .inr (.inr (by decide))
      · exact .inr (.inr (by decide))
      · exact .inr (.inr (by decide))
    rcases hm' with rfl | rfl | ⟨h1, h2⟩
    · exact ⟨_, rfl, x, "int", "int", true, rfl, ty, by decide, by decide, true, rfl, iteT ⟨_, rfl, x, "int", "bool", false, rfl, ty, by decide, by decide, _, rfl, k⟩⟩
    · exact ⟨_, rfl, x, "bool", "int", true, rfl, ty, by decide, by decide, true, rfl, iteT ⟨_, rfl, x, "bool", "bool", true, rfl, ty, by decide, by decide, _, rfl, k⟩⟩
    · rw [decide_eq_false h2] at k
      exact ⟨_, rfl, x, Tx, "int", false, rfl, ty, by decide, h1, false, rfl, iteF k⟩
def sp_is_value (K : PySem.W.Frag) : Sp := fun vs H Q _ => ∃ x, vs = [x] ∧ ((∃ i : Int, x = .int i ∧ Q (.bl (decide (0 ≤ i) && decide (i < 1000000000))) H) ∨ ∃ Tx, tyN K H x Tx ∧ Tx ∈ kindTab ∧ Tx ≠ "int" ∧ Q (.bl false) H)
theorem sc_is_value : FnScope ["thing"] ["thing"] (defScope s_is_value) := ⟨rfl, rfl, rfl, by decide +kernel, rfl, by decide +kernel, by decide +kernel⟩
theorem ok_is_value (T : Txt w K mg t) : FnOk P w K mg base CX0 2 t.f_is_value t.fd_is_value ["thing"] (sp_is_value K) := by
  have sc := sc_is_value
  refine T.F_is_value.ok sc (fun vs H Q E h => ?_) (fun cdv A outer s H vs Q E hr h => ?_)
  · obtain ⟨x, rfl, _⟩ := h
    rfl
  · obtain ⟨x, rfl, h⟩ := h
    refine ⟨_, (pss_one (ps_ret (pe_and (pe_call (ok_is_whole T) (hr.mono (by decide)) (by rfl) T.m_is_whole T.F_is_whole.kp T.b_is_whole .nil pass0 (pa_cons (pv 0) pa_nil star_Name)) (pe_one (pe_chain op_le op_lt pe_int (pv 0) (pe_globE (by rfl) T.g_VALUES)))))), ?_⟩
    rcases h with ⟨i, rfl, k⟩ | ⟨Tx, ty, hm, hne, k⟩
    · refine ⟨_, rfl, .int i, "int", true, rfl, rfl, by decide, by decide, true, rfl, iteT ⟨_, rfl, _, _, rfl, rfl, _, rfl, ite2 (fun h => ?_) (fun h => ?_)⟩⟩
      · have h' : 0 ≤ i := of_decide_eq_true h
        rw [decide_eq_true h', Bool.true_and] at k
        exact ⟨_, _, rfl, rfl, k⟩
      · have h' : ¬ 0 ≤ i := fun z => h (decide_eq_true z)
        rw [decide_eq_false h', Bool.false_and] at k
        exact k
    · exact ⟨_, rfl, x, Tx, false, rfl, ty, hm, decide_eq_false hne, false, rfl, iteF k⟩
def sp_rest : Sp := fun vs H Q _ => ∃ a : Int, vs = [.int a] ∧ Q (.int (a % 1000000000)) H
theorem sc_rest : FnScope ["number"] ["number"] (defScope s_rest) := ⟨rfl, rfl, rfl, by decide +kernel, rfl, by decide +kernel, by decide +kernel⟩
theorem ok_rest (T : Txt w K mg t) : FnOk P w K mg base CX0 1 t.f_rest t.fd_rest ["number"] (sp_rest) := by
  have sc := sc_rest
  refine T.F_rest.ok sc (fun vs H Q E h => ?_) (fun cdv A outer s H vs Q E hr h => ?_)
  · obtain ⟨a, rfl, _⟩ := h
    rfl
  · obtain ⟨a, rfl, k⟩ := h
    refine ⟨_, (pss_one (ps_ret (pe_op op_mod (pv 0) (pe_globE (by rfl) T.g_VALUES)))), ?_⟩
    exact ⟨_, rfl, _, _, rfl, rfl, by show (0 : Int) < 1000000000; decide, k⟩
def sp_Part___init__ (K : PySem.W.Frag) (t : Adr) : Sp := fun vs H Q _ => ∃ (i : Nat) (p dx a1 a2 a3 : Addr) (nm : V) (ns is os : List V), vs = [.ref p, nm, .ref a1, .ref a2, .ref a3] ∧ H p = some (.ins (cls t i) dx []) ∧ SqA K H a1 ns ∧ SqA K H a2 is ∧ SqA K H a3 os ∧
  ∀ H', But p H H' → PartAt K t H' p i nm ns is os → Q .non H'
theorem sc_Part___init__ : FnScope ["self", "name", "numbers", "ins", "outs"] ["self", "name", "numbers", "ins", "outs"] (defScope s_Part___init__) := ⟨rfl, rfl, rfl, by decide +kernel, rfl, by decide +kernel, by decide +kernel⟩
theorem ok_Part___init__ (T : Txt w K mg t) : FnOk P w K mg base CX0 1 t.f_Part___init__ t.fd_Part___init__ ["self", "name", "numbers", "ins", "outs"] (sp_Part___init__ K t) := by
  have sc := sc_Part___init__
  refine T.F_Part___init__.ok sc (fun vs H Q E h => ?_) (fun cdv A outer s H vs Q E hr h => ?_)
  · obtain ⟨i, p, dx, a1, a2, a3, nm, ns, is, os, rfl, _⟩ := h
    rfl
  · obtain ⟨i, p, dx, a1, a2, a3, nm, ns, is, os, rfl, hp, q1, q2, q3, k⟩ := h
    refine ⟨_, (pss_cons (ps_fld (pv 0) (pv 1) rfl)
      (pss_cons (ps_fld (pv 0) (pe_callTy call_tupA (by rfl) T.n_tuple bt_tuple (pa_cons (pv 2) pa_nil star_Name)) rfl)
      (pss_cons (ps_fld (pv 0) (pe_callTy call_tupA (by rfl) T.n_tuple bt_tuple (pa_cons (pv 3) pa_nil star_Name)) rfl)
      (pss_one (ps_fld (pv 0) (pe_callTy call_tupA (by rfl) T.n_tuple bt_tuple (pa_cons (pv 4) pa_nil star_Name)) rfl))))), ?_⟩
    refine ⟨_, rfl, _, rfl, p, cls t i, dx, [], rfl, hp, cls_ok T i, na_name T i, by show 0 < 1000; decide, ?_⟩
    have b1 : But p H (upd H p (.ins (cls t i) dx (putF "name" nm []))) := But.write
    have e1 : (upd H p (.ins (cls t i) dx (putF "name" nm []))) p = some (.ins (cls t i) dx (putF "name" nm [])) := upd_same
    generalize upd H p (.ins (cls t i) dx (putF "name" nm [])) = H1 at b1 e1 ⊢
    have r2 := b1.seqA hp q2
    have r3 := b1.seqA hp q3
    refine ⟨_, rfl, a1, ns, rfl, b1.seqA hp q1, fun H2 u2 s2 t2 => ⟨_, rfl, p, cls t i, dx, _, rfl, s2 _ _ e1, cls_ok T i, na_numbers T i, Nat.lt_of_le_of_lt (lenP (Nat.zero_le 0)) (by decide), ?_⟩⟩
    have e2 := s2 _ _ e1
    have b2 : But p H2 (upd H2 p (.ins (cls t i) dx (putF "numbers" (.ref u2) (putF "name" nm [])))) := But.write
    have e3 : (upd H2 p (.ins (cls t i) dx (putF "numbers" (.ref u2) (putF "name" nm [])))) p = some (.ins (cls t i) dx (putF "numbers" (.ref u2) (putF "name" nm []))) := upd_same
    generalize upd H2 p (.ins (cls t i) dx (putF "numbers" (.ref u2) (putF "name" nm []))) = H3 at b2 e3 ⊢
    have r2' := b2.seqA e2 (s2.seqA r2)
    have r3' := b2.seqA e2 (s2.seqA r3)
    have t2' := b2.seqT e2 t2
    refine ⟨_, rfl, a2, is, rfl, r2', fun H4 u4 s4 t4 => ⟨_, rfl, p, cls t i, dx, _, rfl, s4 _ _ e3, cls_ok T i, na_ins T i, Nat.lt_of_le_of_lt (lenP (lenP (Nat.zero_le 0))) (by decide), ?_⟩⟩
    have e4 := s4 _ _ e3
    have b4 : But p H4 (upd H4 p (.ins (cls t i) dx (putF "ins" (.ref u4) (putF "numbers" (.ref u2) (putF "name" nm []))))) := But.write
    have e5 : (upd H4 p (.ins (cls t i) dx (putF "ins" (.ref u4) (putF "numbers" (.ref u2) (putF "name" nm []))))) p = some (.ins (cls t i) dx (putF "ins" (.ref u4) (putF "numbers" (.ref u2) (putF "name" nm [])))) := upd_same
    generalize upd H4 p (.ins (cls t i) dx (putF "ins" (.ref u4) (putF "numbers" (.ref u2) (putF "name" nm [])))) = H5 at b4 e5 ⊢
    have r3'' := b4.seqA e4 (s4.seqA r3')
    have t2'' := b4.seqT e4 (s4.seqT t2')
    have t4' := b4.seqT e4 t4
    refine ⟨_, rfl, a3, os, rfl, r3'', fun H6 u6 s6 t6 => ⟨_, rfl, p, cls t i, dx, _, rfl, s6 _ _ e5, cls_ok T i, na_outs T i, Nat.lt_of_le_of_lt (lenP (lenP (lenP (Nat.zero_le 0)))) (by decide), ?_⟩⟩
    have e6 := s6 _ _ e5
    refine k _ (b1.trans ((But.of_same s2).trans (b2.trans ((But.of_same s4).trans (b4.trans ((But.of_same s6).trans But.write)))))) ⟨dx, u2, u4, u6, upd_same, ?_, ?_, ?_⟩
    · exact But.write.seqT e6 (s6.seqT t2'')
    · exact But.write.seqT e6 (s6.seqT t4')
    · exact But.write.seqT e6 t6

theorem sc_Give_kind : FnScope ["self"] ["self"] (defScope s_Give_kind) := ⟨rfl, rfl, rfl, by decide +kernel, rfl, by decide +kernel, by decide +kernel⟩
theorem ok_Give_kind (T : Txt w K mg t) : FnOk P w K mg base CX0 1 t.f_Give_kind t.fd_Give_kind ["self"] (sp_kind 0) := by
  have sc := sc_Give_kind
  refine T.F_Give_kind.ok sc (fun vs H Q E h => ?_) (fun cdv A outer s H vs Q E hr h => ?_)
  · obtain ⟨x, rfl, _⟩ := h
    rfl
  · obtain ⟨x, rfl, k⟩ := h
    refine ⟨_, (pss_one (ps_ret pe_str)), ?_⟩
    exact k

theorem sc_Take_kind : FnScope ["self"] ["self"] (defScope s_Take_kind) := ⟨rfl, rfl, rfl, by decide +kernel, rfl, by decide +kernel, by decide +kernel⟩
theorem ok_Take_kind (T : Txt w K mg t) : FnOk P w K mg base CX0 1 t.f_Take_kind t.fd_Take_kind ["self"] (sp_kind 1) := by
  have sc := sc_Take_kind
  refine T.F_Take_kind.ok sc (fun vs H Q E h => ?_) (fun cdv A outer s H vs Q E hr h => ?_)
  · obtain ⟨x, rfl, _⟩ := h
    rfl
  · obtain ⟨x, rfl, k⟩ := h
    refine ⟨_, (pss_one (ps_ret pe_str)), ?_⟩
    exact k
def sp_Part_taking (K : PySem.W.Frag) (t : Adr) : Sp := fun vs H Q E => ∃ i, i ≠ 9 ∧ sp_taking K t i vs H Q E
theorem sc_Part_taking : FnScope ["self", "heads"] ["self", "heads"] (defScope s_Part_taking) := ⟨rfl, rfl, rfl, by decide +kernel, rfl, by decide +kernel, by decide +kernel⟩
theorem ok_Part_taking (T : Txt w K mg t) : FnOk P w K mg base CX0 1 t.f_Part_taking t.fd_Part_taking ["self", "heads"] (sp_Part_taking K t) := by
  have sc := sc_Part_taking
  refine T.F_Part_taking.ok sc (fun vs H Q E h => ?_) (fun cdv A outer s H vs Q E hr h => ?_)
  · obtain ⟨i, _, p, a, nm, ns, is, os, hs, rfl, _⟩ := h
    rfl
  · obtain ⟨i, hi, p, a, nm, ns, is, os, hs, rfl, hP, hI, hS, hH, k⟩ := h
    refine ⟨_, (pss_one (ps_ret (pe_callTy (call_list_rng rfl) (by rfl) T.n_list bt_list (pa_cons (pe_callTy call_range1 (by rfl) T.n_range bt_range (pa_cons (pe_callB call_len (by rfl) T.n_len bt_len (pa_cons (pe_fld (pv 0) rfl) pa_nil star_Attribute)) pa_nil star_Call)) pa_nil star_Call)))), ?_⟩
    obtain ⟨dx, tn, ti, to, hp, h2, h3, h4⟩ := id hP.ex
    
    have h3' := cI_le i
    refine ⟨_, rfl, p, cls t i, dx, _, .ref ti, rfl, hp, cls_ok T i, na_ins T i, flds_ins _ _ _ _, .ref ti, is.length, rfl, .inr ⟨is, h3, rfl⟩, _, rfl, fun r hr => ⟨r, is.length, rfl, upd_same, by omega, fun l hl => ?_⟩⟩
    have e : (places i hs).map nV = upV is.length := by
      unfold places upV
      rw [if_neg hi, hH.1, hI]
      rfl
    refine k _ l ((same_new hr).trans (same_new hl)) ((same_new hr).free hl) ?_
    rw [e]
    exact upd_same
theorem taking_ok (T : Txt w K mg t) {i : Nat} (hi : i ≤ 1) : MethAt P w K mg base CX0 1 (cls t i) "taking" (sp_taking K t i) := match i, hi with
  | 0, _ => ⟨_, _, _, T.c_Give, T.me_Give_taking, T.b_Part_taking, (ok_Part_taking T).imp fun _ _ _ _ h => ⟨_, by decide, h⟩⟩
  | 1, _ => ⟨_, _, _, T.c_Take, T.me_Take_taking, T.b_Part_taking, (ok_Part_taking T).imp fun _ _ _ _ h => ⟨_, by decide, h⟩⟩
  | (n + 2), h => absurd h (by omega)
def sp_Part_lacks (K : PySem.W.Frag) (t : Adr) : Sp := fun vs H Q E => ∃ i, i ≤ 1 ∧ sp_lacks K t i vs H Q E
theorem sc_Part_lacks : FnScope ["self", "heads", "place"] ["self", "heads"] (defScope s_Part_lacks) := ⟨rfl, rfl, rfl, by decide +kernel, rfl, by decide +kernel, by decide +kernel⟩
theorem ok_Part_lacks (T : Txt w K mg t) : FnOk P w K mg base CX0 2 t.f_Part_lacks t.fd_Part_lacks ["self", "heads"] (sp_Part_lacks K t) := by
  have sc := sc_Part_lacks
  refine T.F_Part_lacks.ok sc (fun vs H Q E h => ?_) (fun cdv A outer s H vs Q E hr h => ?_)
  · obtain ⟨i, _, p, a, nm, ns, is, os, hs, rfl, _⟩ := h
    rfl
  · obtain ⟨i, hi1, p, a, nm, ns, is, os, hs, rfl, hP, hI, hS, hH, k⟩ := h
    refine ⟨_, (pss_cons (ps_for PassesOwn.never rfl (pi_list (pe_methD (CX := CX0) (k := 1) (E := E0) (pv 0) (hr.mono (by decide)) pass0 (pa_cons (pv 1) pa_nil star_Name))) (pg_name (i := 2) sc.nd rfl (Or.inl rfl))
        (pss_one (ps_if (pt_cmp (pc_isN (pe_ix ix_list (pv 1) (pv 2) (fun _ _ => rfl))))
          (pss_one (ps_ret (pv 2)))
          pss_nil)))
      (pss_one (ps_ret pe_non))), ?_⟩
    obtain ⟨dx, tn, ti, to, hp, h2, h3, h4⟩ := id hP.ex
    
    refine ⟨_, rfl, p, cls t i, dx, _, sp_taking K t i, rfl, hp, flds_no _ _ _ _ (by decide +kernel) (by decide +kernel) (by decide +kernel) (by decide +kernel), taking_ok T hi1, _, rfl, p, a, nm, ns, is, os, hs, rfl, hP, hI, hS, hH, fun H1 L s1 nL eL => ⟨L, rfl, ⟨_, SqL.of eL⟩, ?_⟩⟩
    refine for_list (K := K) (a := L) (xs := (places i hs).map nV) (fun j σ H2 => H2 = H1 ∧ ∃ v, σ = [some (.ref p), some (.ref a), v] ∧ ∀ q ∈ (places i hs).take j, lackB hs q = false)
      ⟨rfl, none, rfl, by simp⟩ (fun j σ H2 _ ⟨e, _⟩ => by rw [e]; exact SqL.of eL) ?_ ?_
    · rintro j x σ H2 hx ⟨rfl, v, rfl, hno⟩
      rw [List.getElem?_map] at hx
      obtain ⟨q, hq, rfl⟩ := Option.map_eq_some_iff.mp hx
      have hlt := places_lt hH q (List.mem_of_getElem? hq)
      obtain ⟨hv, ev⟩ : ∃ hv, hs[q]? = some hv := ⟨hs[q], List.getElem?_eq_getElem hlt⟩
      refine ⟨_, rfl, _, rfl, a, hs, _, hv, rfl, rfl, s1.seq hS, atI_nat ev, _, rfl, ite2 (fun hn => ?_) (fun hn => ?_)⟩
      · have hn' : hv = .non := of_decide_eq_true hn
        refine ⟨_, rfl, ?_⟩
        have := k H2 s1
        unfold lackV at this
        rw [find_at hq hno (by unfold lackB; rw [ev, hn']; simp)] at this
        exact this
      · have hn' : ¬ hv = .non := fun z => hn (decide_eq_true z)
        refine ⟨rfl, _, rfl, fun y hy => ?_⟩
        rw [List.take_add_one, hq] at hy
        rcases List.mem_append.mp hy with hy | hy
        · exact hno y hy
        · have e : y = q := by simpa using hy
          subst e
          unfold lackB
          rw [ev]
          simpa using hn'
    · rintro σ H2 ⟨rfl, v, rfl, hno⟩
      have := k H2 s1
      unfold lackV at this
      rw [List.length_map, List.take_of_length_le (Nat.le_refl _)] at hno
      rw [find_no hno] at this
      exact this

theorem sc_Give_worked : FnScope ["self", "values", "kept"] ["self", "values", "kept"] (defScope s_Give_worked) := ⟨rfl, rfl, rfl, by decide +kernel, rfl, by decide +kernel, by decide +kernel⟩
theorem ok_Give_worked (T : Txt w K mg t) : FnOk P w K mg base CX0 1 t.f_Give_worked t.fd_Give_worked ["self", "values", "kept"] (sp_worked K t 0) := by
  have sc := sc_Give_worked
  refine T.F_Give_worked.ok sc (fun vs H Q E h => ?_) (fun cdv A outer s H vs Q E hr h => ?_)
  · obtain ⟨p, a, nm, ns, is, os, ws, kp, rfl, _⟩ := h
    rfl
  · obtain ⟨p, a, nm, ns, is, os, ws, kp, rfl, hP, ln, hS, lw, hB, k⟩ := h
    refine ⟨_, (pss_one (ps_ret (pe_tup (pa_cons (pe_lst (pa_cons (pe_tup (pa_cons pe_int (pa_cons (pe_ix ix_list (pv 1) pe_int (fun _ _ => rfl)) pa_nil star_Subscript) star_Constant)) pa_nil star_Tuple)) (pa_cons (pv 2) pa_nil star_Name) star_List)))), ?_⟩
    obtain ⟨dx, tn, ti, to, hp, h2, h3, h4⟩ := id hP.ex
    match ws, lw with
    | [v], _ =>
      have fin : ∀ H' L rs, Same H H' → H L = none → H' L = some (.lst (rs.map V.ref)) → Tups H' rs (pvs (wOut 0 ns [v] kp)) → ∀ U, H' U = none → Q (.ref U) (upd H' U (.tup [.ref L, .int (wKept 0 [v] kp)])) := finU k
      exact ⟨_, rfl, a, _, 0, _, rfl, rfl, hS, rfl, two_le, fun t0 n0 => ⟨one_le, fun L nL => ⟨_, rfl, two_le, fun U nU => finL1 (Q := fun x H' => ∀ U, H' U = none → Q (.ref U) (upd H' U (.tup [x, .int (wKept 0 [v] kp)]))) rfl rfl fin n0 nL U nU⟩⟩⟩

theorem sc_Take_worked : FnScope ["self", "values", "kept"] ["self", "values", "kept"] (defScope s_Take_worked) := ⟨rfl, rfl, rfl, by decide +kernel, rfl, by decide +kernel, by decide +kernel⟩
theorem ok_Take_worked (T : Txt w K mg t) : FnOk P w K mg base CX0 1 t.f_Take_worked t.fd_Take_worked ["self", "values", "kept"] (sp_worked K t 1) := by
  have sc := sc_Take_worked
  refine T.F_Take_worked.ok sc (fun vs H Q E h => ?_) (fun cdv A outer s H vs Q E hr h => ?_)
  · obtain ⟨p, a, nm, ns, is, os, ws, kp, rfl, _⟩ := h
    rfl
  · obtain ⟨p, a, nm, ns, is, os, ws, kp, rfl, hP, ln, hS, lw, hB, k⟩ := h
    refine ⟨_, (pss_one (ps_ret (pe_tup (pa_cons (pe_lst pa_nil) (pa_cons (pv 2) pa_nil star_Name) star_List)))), ?_⟩
    obtain ⟨dx, tn, ti, to, hp, h2, h3, h4⟩ := id hP.ex
    match ws, lw with
    | [v], _ =>
      have fin : ∀ H' L rs, Same H H' → H L = none → H' L = some (.lst (rs.map V.ref)) → Tups H' rs (pvs (wOut 1 ns [v] kp)) → ∀ U, H' U = none → Q (.ref U) (upd H' U (.tup [.ref L, .int (wKept 1 [v] kp)])) := finU k
      exact ⟨by show 0 ≤ sizeLine; decide, fun L nL => ⟨_, rfl, two_le, fun U nU => fin _ L [] (same_new nL) nL upd_same .nil U nU⟩⟩
def sp_is_kind : Sp := fun vs H Q _ => ∃ z : Str, vs = [.str z] ∧ Q (.bl (rowOf ROWS z).isSome) H
theorem sc_is_kind : FnScope ["word"] ["word"] (defScope s_is_kind) := ⟨rfl, rfl, rfl, by decide +kernel, rfl, by decide +kernel, by decide +kernel⟩
theorem ok_is_kind (T : Txt w K mg t) : FnOk P w K mg base CX0 1 t.f_is_kind t.fd_is_kind ["word"] (sp_is_kind) := by
  have sc := sc_is_kind
  refine T.F_is_kind.ok sc (fun vs H Q E h => ?_) (fun cdv A outer s H vs Q E hr h => ?_)
  · obtain ⟨z, rfl, _⟩ := h
    rfl
  · obtain ⟨z, rfl, k⟩ := h
    refine ⟨_, (pss_one (ps_ret (pe_cmp (pc_inK (pv 0) (pe_glob (v := .ref _) (by rfl) T.mt_COUNTS rfl)) (by with_unfolding_all rfl)))), ?_⟩
    exact ⟨_, rfl, t.o_COUNTS, ROWS, z, rfl, T.t_COUNTS, rfl, k⟩
def sp_need_fit (K : PySem.W.Frag) : Sp := fun vs H Q _ => ∃ (i : Nat) (nm : V) (a1 a2 a3 : Addr) (ns is os : List V), vs = [.str (kname i), nm, .ref a1, .ref a2, .ref a3] ∧ SqL K H a1 ns ∧ SqL K H a2 is ∧ SqL K H a3 os ∧
  ns.length = cN i ∧ is.length = cI i ∧ os.length = cO i ∧ (∀ v ∈ ns, Val v) ∧ ∀ H', Same H H' → Q .non H'
theorem sc_need_fit : FnScope ["kind", "name", "numbers", "ins", "outs", "counts"] ["kind", "name", "numbers", "ins", "outs"] (defScope s_need_fit) := ⟨rfl, rfl, rfl, by decide +kernel, rfl, by decide +kernel, by decide +kernel⟩
theorem ok_need_fit (T : Txt w K mg t) : FnOk P w K mg base CX0 3 t.f_need_fit t.fd_need_fit ["kind", "name", "numbers", "ins", "outs"] (sp_need_fit K) := by
  have sc := sc_need_fit
  refine T.F_need_fit.ok sc (fun vs H Q E h => ?_) (fun cdv A outer s H vs Q E hr h => ?_)
  · obtain ⟨i, nm, a1, a2, a3, ns, is, os, rfl, _⟩ := h
    rfl
  · obtain ⟨i, nm, a1, a2, a3, ns, is, os, rfl, h1, h2, h3, l1, l2, l3, hv, k⟩ := h
    refine ⟨_, (pss_cons (ps_if (pt_not (pt_val (pe_call (ok_is_kind T) (hr.mono (by decide)) (by rfl) T.m_is_kind T.F_is_kind.kp T.b_is_kind .nil pass0 (pa_cons (pv 0) pa_nil star_Name))))
        (pss_one ps_never)
        pss_nil)
      (pss_cons (ps_set (i := 5) sc.nd rfl (Or.inl rfl) (pe_getK (pe_glob (v := .ref _) (by rfl) T.mt_COUNTS rfl) (pv 0) (fun _ _ => rfl)))
      (pss_cons (ps_if (PW.pt (pw_or (pt_cmpR op_ne (pe_callB call_len (by rfl) T.n_len bt_len (pa_cons (pv 2) pa_nil star_Name)) (pe_ix ix_tup (pv 5) pe_int (fun _ _ => rfl)) (nomark _)) (pw_or1 (pt_not (pt_val (pe_callB (call_all rfl) (by rfl) T.n_all bt_all (pa_cons (pe_comp [] ["kind", "name", "numbers", "ins", "outs", "counts"] (defScope s_need_fit) rfl (pi_list (pv 2)) (fun _ _ _ _ _ => pf_nil) (fun _ _ _ _ _ => (pe_call (ok_is_value T) (hr.mono (by decide)) (by rfl) T.m_is_value T.F_is_value.kp T.b_is_value .nil pass0 (pa_cons (pv 0) pa_nil star_Name)))) pa_nil star_ListComp)))))))
        (pss_one ps_never)
        pss_nil)
      (pss_one (ps_if (PW.pt (pw_or (pt_cmpR op_ne (pe_callB call_len (by rfl) T.n_len bt_len (pa_cons (pv 3) pa_nil star_Name)) (pe_ix ix_tup (pv 5) pe_int (fun _ _ => rfl)) (nomark _)) (pw_or1 (pt_cmpR op_ne (pe_callB call_len (by rfl) T.n_len bt_len (pa_cons (pv 4) pa_nil star_Name)) (pe_ix ix_tup (pv 5) pe_int (fun _ _ => rfl)) (nomark _)))))
        (pss_one ps_never)
        pss_nil))))), ?_⟩
    have hl : sizeLine = 16777216 := sizeLine_eq
    have hN := cN_le i
    have hI := cI_le i
    have hO := cO_le i
    refine ⟨_, rfl, kname i, rfl, true, by rw [row_of]; rfl, iteF ?_⟩
    refine ⟨_, rfl, t.o_COUNTS, ROWS, kname i, _, rfl, T.t_COUNTS, rfl, row_of i, fun ad had => ?_⟩
    refine ⟨_, rfl, .ref a1, ns.length, rfl, .inl ⟨ns, h1, rfl⟩, _, rfl, ad, _, 0, _, rfl, rfl, had, atI_nat (j := 0) rfl, rfl, _, rfl, ?_⟩
    rw [show (!decide (V.int ((ns.length : Nat) : Int) = V.int ((cN i : Nat) : Int))) = false by rw [l1]; simp]
    refine iteF ?_
    refine ⟨_, rfl, a1, rfl, ⟨ns, h1⟩, comp_list (K := K) (a := a1) (xs := ns) (fun j ys H' => H' = H ∧ ys = (List.replicate j true).map V.bl) (by omega) ⟨rfl, rfl⟩ (fun j ys H' ⟨_, e⟩ => by rw [e]; simp) (fun j ys H' _ ⟨e, _⟩ => by rw [e]; exact h1) ?_ ?_⟩
    · rintro j x ys H' hx ⟨rfl, rfl⟩
      obtain ⟨n, rfl, n0, n1⟩ := hv x (List.mem_of_getElem? hx)
      refine yes ⟨_, rfl, .int n, rfl, .inl ⟨n, rfl, rfl, ?_⟩⟩
      rw [decide_eq_true n0, decide_eq_true n1, List.replicate_succ']
      simp
    · rintro ys H' ⟨rfl, rfl⟩ D hD
      refine ⟨D, _, rfl, SqL.of upd_same, _, rfl, ?_⟩
      rw [show ((List.replicate ns.length true).all id) = true by simp]
      refine iteF ?_
      have s1 : Same H' (upd H' D (.lst ((List.replicate ns.length true).map V.bl))) := same_new hD
      refine ⟨_, rfl, .ref a2, is.length, rfl, .inl ⟨is, s1.seq h2, rfl⟩, _, rfl, ad, _, 1, _, rfl, rfl, s1.seqT had, atI_nat (j := 1) rfl, rfl, _, rfl, ?_⟩
      rw [show (!decide (V.int ((is.length : Nat) : Int) = V.int ((cI i : Nat) : Int))) = false by rw [l2]; simp]
      refine iteF ?_
      refine ⟨_, rfl, .ref a3, os.length, rfl, .inl ⟨os, s1.seq h3, rfl⟩, _, rfl, ad, _, 2, _, rfl, rfl, s1.seqT had, atI_nat (j := 2) rfl, rfl, _, rfl, ?_⟩
      rw [show (!decide (V.int ((os.length : Nat) : Int) = V.int ((cO i : Nat) : Int))) = false by rw [l3]; simp]
      exact iteF (k _ s1)
def sp_made_of (K : PySem.W.Frag) (t : Adr) : Sp := fun vs H Q _ => ∃ (i : Nat) (nm : V) (a1 a2 a3 : Addr) (ns is os : List V), vs = [.str (kname i), nm, .ref a1, .ref a2, .ref a3] ∧ i ≤ 1 ∧ SqA K H a1 ns ∧ SqA K H a2 is ∧ SqA K H a3 os ∧
  ∀ H' p, Same H H' → H p = none → PartAt K t H' p i nm ns is os → Q (.ref p) H'
theorem sc_made_of : FnScope ["kind", "name", "numbers", "ins", "outs"] ["kind", "name", "numbers", "ins", "outs"] (defScope s_made_of) := ⟨rfl, rfl, rfl, by decide +kernel, rfl, by decide +kernel, by decide +kernel⟩
theorem ok_made_of (T : Txt w K mg t) : FnOk P w K mg base CX0 3 t.f_made_of t.fd_made_of ["kind", "name", "numbers", "ins", "outs"] (sp_made_of K t) := by
  have sc := sc_made_of
  refine T.F_made_of.ok sc (fun vs H Q E h => ?_) (fun cdv A outer s H vs Q E hr h => ?_)
  · obtain ⟨i, nm, a1, a2, a3, ns, is, os, rfl, _⟩ := h
    rfl
  · obtain ⟨i, nm, a1, a2, a3, ns, is, os, rfl, hi, h1, h2, h3, k⟩ := h
    refine ⟨_, (pss_cons (ps_if (pt_cmpR op_eq (pv 0) pe_str (nomark _))
        (pss_one (ps_ret (pe_make T.M_Give (ok_Part___init__ T) (hr.mono (by decide)) (by rfl) T.mc_Give T.b_Part___init__ .nil pass0 (pa_cons (pv 1) (pa_cons (pv 2) (pa_cons (pv 3) (pa_cons (pv 4) pa_nil star_Name) star_Name) star_Name) star_Name))))
        pss_nil)
      (pss_cons (ps_if (pt_cmpR op_eq (pv 0) pe_str (nomark _))
        (pss_one (ps_ret (pe_make T.M_Take (ok_Part___init__ T) (hr.mono (by decide)) (by rfl) T.mc_Take T.b_Part___init__ .nil pass0 (pa_cons (pv 1) (pa_cons (pv 2) (pa_cons (pv 3) (pa_cons (pv 4) pa_nil star_Name) star_Name) star_Name) star_Name))))
        pss_nil)
      (pss_cons (ps_if (pt_cmpR op_eq (pv 0) pe_str (nomark _))
        (pss_one ps_never)
        pss_nil)
      (pss_cons (ps_if (pt_cmpR op_eq (pv 0) pe_str (nomark _))
        (pss_one ps_never)
        pss_nil)
      (pss_cons (ps_if (pt_cmpR op_eq (pv 0) pe_str (nomark _))
        (pss_one ps_never)
        pss_nil)
      (pss_cons (ps_if (pt_cmpR op_eq (pv 0) pe_str (nomark _))
        (pss_one ps_never)
        pss_nil)
      (pss_cons (ps_if (pt_cmpR op_eq (pv 0) pe_str (nomark _))
        (pss_one ps_never)
        pss_nil)
      (pss_cons (ps_if (pt_cmpR op_eq (pv 0) pe_str (nomark _))
        (pss_one ps_never)
        pss_nil)
      (pss_cons (ps_if (pt_cmpR op_eq (pv 0) pe_str (nomark _))
        (pss_one ps_never)
        pss_nil)
      (pss_cons (ps_if (pt_cmpR op_eq (pv 0) pe_str (nomark _))
        (pss_one ps_never)
        pss_nil)
      (pss_one ps_never))))))))))), ?_⟩
    match i, hi with
    | 0, _ =>
      refine ⟨_, rfl, rfl, _, rfl, iteY rfl ?_⟩
      refine ⟨_, rfl, _, rfl, _, rfl, _, rfl, fun x dx nx ndx nex => ?_⟩
      have s0 : Same H (upd (upd H dx (.own x)) x (.ins t.C_Give dx [])) := fun b o e => by rw [upd_ne (ne_of_none e nx), upd_ne (ne_of_none e ndx)]; exact e
      exact ⟨0, x, dx, a1, a2, a3, nm, ns, is, os, rfl, upd_same, s0.seqA h1, s0.seqA h2, s0.seqA h3, fun H' b P => ⟨rfl, k H' x (fun c o e => b c o (ne_of_none e nx) (s0 c o e)) nx P⟩⟩
    | 1, _ =>
      refine ⟨_, rfl, rfl, _, rfl, iteN (by decide +kernel) ?_⟩
      refine ⟨_, rfl, rfl, _, rfl, iteY rfl ?_⟩
      refine ⟨_, rfl, _, rfl, _, rfl, _, rfl, fun x dx nx ndx nex => ?_⟩
      have s0 : Same H (upd (upd H dx (.own x)) x (.ins t.C_Take dx [])) := fun b o e => by rw [upd_ne (ne_of_none e nx), upd_ne (ne_of_none e ndx)]; exact e
      exact ⟨1, x, dx, a1, a2, a3, nm, ns, is, os, rfl, upd_same, s0.seqA h1, s0.seqA h2, s0.seqA h3, fun H' b P => ⟨rfl, k H' x (fun c o e => b c o (ne_of_none e nx) (s0 c o e)) nx P⟩⟩
    | (n + 2), h => exact absurd h (by omega)
def sp_part_made (K : PySem.W.Frag) (t : Adr) : Sp := fun vs H Q _ => ∃ (i : Nat) (nm : V) (a1 a2 a3 : Addr) (ns is os : List V), vs = [.str (kname i), nm, .ref a1, .ref a2, .ref a3] ∧ i ≤ 1 ∧ SqL K H a1 ns ∧ SqL K H a2 is ∧ SqL K H a3 os ∧
  ns.length = cN i ∧ is.length = cI i ∧ os.length = cO i ∧ (∀ v ∈ ns, Val v) ∧ ∀ H' p, Same H H' → H p = none → PartAt K t H' p i nm ns is os → Q (.ref p) H'
theorem sc_part_made : FnScope ["kind", "name", "numbers", "ins", "outs"] ["kind", "name", "numbers", "ins", "outs"] (defScope s_part_made) := ⟨rfl, rfl, rfl, by decide +kernel, rfl, by decide +kernel, by decide +kernel⟩
theorem ok_part_made (T : Txt w K mg t) : FnOk P w K mg base CX0 4 t.f_part_made t.fd_part_made ["kind", "name", "numbers", "ins", "outs"] (sp_part_made K t) := by
  have sc := sc_part_made
  refine T.F_part_made.ok sc (fun vs H Q E h => ?_) (fun cdv A outer s H vs Q E hr h => ?_)
  · obtain ⟨i, nm, a1, a2, a3, ns, is, os, rfl, _⟩ := h
    rfl
  · obtain ⟨i, nm, a1, a2, a3, ns, is, os, rfl, hi, h1, h2, h3, l1, l2, l3, hv, k⟩ := h
    refine ⟨_, (pss_cons (ps_expr (pe_call (ok_need_fit T) (hr.mono (by decide)) (by rfl) T.m_need_fit T.F_need_fit.kp T.b_need_fit .nil pass0 (pa_cons (pv 0) (pa_cons (pv 1) (pa_cons (pv 2) (pa_cons (pv 3) (pa_cons (pv 4) pa_nil star_Name) star_Name) star_Name) star_Name) star_Name)))
      (pss_one (ps_ret (pe_call (ok_made_of T) (hr.mono (by decide)) (by rfl) T.m_made_of T.F_made_of.kp T.b_made_of .nil pass0 (pa_cons (pv 0) (pa_cons (pv 1) (pa_cons (pv 2) (pa_cons (pv 3) (pa_cons (pv 4) pa_nil star_Name) star_Name) star_Name) star_Name) star_Name))))), ?_⟩
    refine ⟨_, rfl, _, rfl, _, rfl, _, rfl, _, rfl, i, nm, a1, a2, a3, ns, is, os, rfl, h1, h2, h3, l1, l2, l3, hv, fun H1 s1 => ?_⟩
    exact ⟨_, rfl, _, rfl, _, rfl, _, rfl, _, rfl, i, nm, a1, a2, a3, ns, is, os, rfl, hi, .inl (s1.seq h1), .inl (s1.seq h2), .inl (s1.seq h3), fun H2 p s2 np P => k H2 p (s1.trans s2) (s1.free np) P⟩
def sp__law_mix : Sp := fun vs H Q _ => ∃ a b : Int, vs = [.int a, .int b] ∧ ∀ n : Int, 0 ≤ n → n < 2147483587 → Q (.int n) H
theorem sc__law_mix : FnScope ["_law_cell_here", "_law_k", "_law_number"] ["_law_cell_here", "_law_k"] (defScope s__law_mix) := ⟨rfl, rfl, rfl, by decide +kernel, rfl, by decide +kernel, by decide +kernel⟩
theorem ok__law_mix (T : Txt w K mg t) : FnOk P w K mg base CX0 1 t.f__law_mix t.fd__law_mix ["_law_cell_here", "_law_k"] (sp__law_mix) := by
  have sc := sc__law_mix
  refine T.F__law_mix.ok sc (fun vs H Q E h => ?_) (fun cdv A outer s H vs Q E hr h => ?_)
  · obtain ⟨a, b, rfl, _⟩ := h
    rfl
  · obtain ⟨a, b, rfl, k⟩ := h
    refine ⟨_, (pss_cons (ps_set (i := 2) sc.nd rfl (Or.inl rfl) (pe_op op_mod (pe_op op_add (pe_op op_add (pe_op op_mulB (pe_op op_mod (pv 0) pe_int) pe_int) (pe_op op_mulB pe_int (pv 1))) pe_int) pe_int))
      (pss_cons (ps_set (i := 2) sc.nd rfl (Or.inl rfl) (pe_op op_mod (pe_op op_mulB (pv 2) (pv 2)) pe_int))
      (pss_one (ps_ret (pe_op op_mod (pe_op op_mulB (pe_op op_add (pv 2) (pe_op op_mulB pe_int (pv 1))) (pv 2)) pe_int))))), ?_⟩
    refine ⟨_, rfl, _, _, rfl, rfl, by show (0 : Int) < 2147483647; decide, _, _, rfl, rfl, mulOk_smallR, _, rfl, _, _, rfl, rfl, mulOk_small, _, _, rfl, rfl, _, _, rfl, rfl, _, _, rfl, rfl, by show (0 : Int) < 2147483647; decide, ?_⟩
    have y0 : 0 ≤ (a % 2147483647 * 48271 + 7919 * b + 11) % 2147483647 := Int.emod_nonneg _ (by decide)
    have y1 : (a % 2147483647 * 48271 + 7919 * b + 11) % 2147483647 < 2147483647 := Int.emod_lt_of_pos _ (by decide)
    generalize (a % 2147483647 * 48271 + 7919 * b + 11) % 2147483647 = y at y0 y1
    refine ⟨_, rfl, _, rfl, _, _, rfl, rfl, .of_right (intBits_le_64 (by omega) (by omega)), _, _, rfl, rfl, by show (0 : Int) < 2147483629; decide, ?_⟩
    have z0 : 0 ≤ y * y % 2147483629 := Int.emod_nonneg _ (by decide)
    have z1 : y * y % 2147483629 < 2147483629 := Int.emod_lt_of_pos _ (by decide)
    generalize y * y % 2147483629 = z at z0 z1
    refine ⟨_, rfl, _, rfl, _, _, rfl, rfl, mulOk_small, _, _, rfl, rfl, _, rfl, _, _, rfl, rfl, .of_right (intBits_le_64 (by omega) (by omega)), _, _, rfl, rfl, by show (0 : Int) < 2147483587; decide, ?_⟩
    exact k _ (Int.emod_nonneg _ (by decide)) (Int.emod_lt_of_pos _ (by decide))
def sp__law_value : Sp := fun vs H Q _ => ∃ a b : Int, vs = [.int a, .int b] ∧ ∀ n : Int, 0 ≤ n → n < 1000000000 → Q (.int n) H
theorem sc__law_value : FnScope ["_law_cell_here", "_law_k", "_law_number", "_law_way"] ["_law_cell_here", "_law_k"] (defScope s__law_value) := ⟨rfl, rfl, rfl, by decide +kernel, rfl, by decide +kernel, by decide +kernel⟩
theorem ok__law_value (T : Txt w K mg t) : FnOk P w K mg base CX0 2 t.f__law_value t.fd__law_value ["_law_cell_here", "_law_k"] (sp__law_value) := by
  have sc := sc__law_value
  refine T.F__law_value.ok sc (fun vs H Q E h => ?_) (fun cdv A outer s H vs Q E hr h => ?_)
  · obtain ⟨a, b, rfl, _⟩ := h
    rfl
  · obtain ⟨a, b, rfl, k⟩ := h
    refine ⟨_, (pss_cons (ps_set (i := 2) sc.nd rfl (Or.inl rfl) (pe_call (ok__law_mix T) (hr.mono (by decide)) (by rfl) T.m__law_mix T.F__law_mix.kp T.b__law_mix .nil pass0 (pa_cons (pv 0) (pa_cons (pv 1) pa_nil star_Name) star_Name)))
      (pss_cons (ps_set (i := 3) sc.nd rfl (Or.inl rfl) (pe_op op_mod (pe_op op_fdivB (pv 2) pe_int) pe_int))
      (pss_cons (ps_if (pt_cmpR op_eq (pv 3) pe_int (nomark _))
        (pss_one (ps_ret (pe_op op_mod (pv 2) pe_int)))
        pss_nil)
      (pss_cons (ps_if (pt_cmpR op_eq (pv 3) pe_int (nomark _))
        (pss_one (ps_ret (pe_op op_mod (pv 2) (pe_op op_pow pe_int pe_int))))
        pss_nil)
      (pss_one (ps_ret (pe_op op_sub (pe_op op_sub (pe_op op_pow pe_int pe_int) pe_int) (pe_op op_mod (pv 2) pe_int)))))))), ?_⟩
    refine ⟨_, rfl, _, rfl, a, b, rfl, fun n n0 n1 => ?_⟩
    refine ⟨_, rfl, _, _, rfl, rfl, divOk (by decide) (by decide), _, _, rfl, rfl, by show (0 : Int) < 3; decide, ?_⟩
    refine ⟨_, rfl, rfl, _, rfl, ite2 (fun _ => ?_) (fun _ => ?_)⟩
    · refine ⟨_, rfl, _, _, rfl, rfl, by show (0 : Int) < 5; decide, k _ (Int.emod_nonneg _ (by decide)) ?_⟩
      have := Int.emod_lt_of_pos n (show (0 : Int) < 5 by decide)
      omega
    · refine ⟨_, rfl, rfl, _, rfl, ite2 (fun _ => ?_) (fun _ => ?_)⟩
      · exact ⟨_, rfl, _, _, rfl, rfl, ⟨by decide, by decide, by decide⟩, _, _, rfl, rfl, by show (0 : Int) < 10 ^ 9; decide, k _ (Int.emod_nonneg _ (by decide)) (Int.emod_lt_of_pos _ (by decide))⟩
      · refine ⟨_, _, rfl, rfl, ⟨by decide, by decide, by decide⟩, _, _, rfl, rfl, _, rfl, _, _, rfl, rfl, by show (0 : Int) < 3; decide, _, _, rfl, rfl, ?_⟩
        have h1 := Int.emod_lt_of_pos n (show (0 : Int) < 3 by decide)
        have h2 := Int.emod_nonneg n (show (3 : Int) ≠ 0 by decide)
        exact k _ (by show (0 : Int) ≤ 10 ^ 9 - 1 - n % 3; omega) (by show (10 : Int) ^ 9 - 1 - n % 3 < _; omega)
def sp_Net_lane_names (K : PySem.W.Frag) (t : Adr) : Sp := fun vs H Q _ => ∃ (n : Addr) (rooms : List (Str × Int)) (firsts parts : List (Str × Addr)), vs = [.ref n] ∧ NetAt K t H n rooms firsts parts ∧ ∀ l, H l = none → Q (.ref l) (upd H l (.lst (rooms.map fun p => V.str p.1)))
theorem sc_Net_lane_names : FnScope ["self"] ["self"] (defScope s_Net_lane_names) := ⟨rfl, rfl, rfl, by decide +kernel, rfl, by decide +kernel, by decide +kernel⟩
theorem ok_Net_lane_names (T : Txt w K mg t) : FnOk P w K mg base CX0 1 t.f_Net_lane_names t.fd_Net_lane_names ["self"] (sp_Net_lane_names K t) := by
  have sc := sc_Net_lane_names
  refine T.F_Net_lane_names.ok sc (fun vs H Q E h => ?_) (fun cdv A outer s H vs Q E hr h => ?_)
  · obtain ⟨n, rooms, firsts, parts, rfl, _⟩ := h
    rfl
  · obtain ⟨n, rooms, firsts, parts, rfl, N, k⟩ := h
    refine ⟨_, (pss_one (ps_ret (pe_callTy (call_list_dict rfl) (by rfl) T.n_list bt_list (pa_cons (pe_fld (pv 0) rfl) pa_nil star_Attribute)))), ?_⟩
    obtain ⟨dx, fs, R, F, Pd, G, Tk, h1, h2, h3, h4, h5⟩ := id N.ex
    refine ⟨_, rfl, n, _, dx, fs, _, rfl, h1, T.c_Net, T.na_Net_rooms, h2.has ("rooms", .ref R) (by simp), R, _, rfl, .inl h3, fun l hl => ?_⟩
    rw [List.map_map]
    exact k l hl
def sp_Net_part_names (K : PySem.W.Frag) (t : Adr) : Sp := fun vs H Q _ => ∃ (n : Addr) (rooms : List (Str × Int)) (firsts parts : List (Str × Addr)), vs = [.ref n] ∧ NetAt K t H n rooms firsts parts ∧ ∀ l, H l = none → Q (.ref l) (upd H l (.lst (parts.map fun p => V.str p.1)))
theorem sc_Net_part_names : FnScope ["self"] ["self"] (defScope s_Net_part_names) := ⟨rfl, rfl, rfl, by decide +kernel, rfl, by decide +kernel, by decide +kernel⟩
theorem ok_Net_part_names (T : Txt w K mg t) : FnOk P w K mg base CX0 1 t.f_Net_part_names t.fd_Net_part_names ["self"] (sp_Net_part_names K t) := by
  have sc := sc_Net_part_names
  refine T.F_Net_part_names.ok sc (fun vs H Q E h => ?_) (fun cdv A outer s H vs Q E hr h => ?_)
  · obtain ⟨n, rooms, firsts, parts, rfl, _⟩ := h
    rfl
  · obtain ⟨n, rooms, firsts, parts, rfl, N, k⟩ := h
    refine ⟨_, (pss_one (ps_ret (pe_callTy (call_list_dict rfl) (by rfl) T.n_list bt_list (pa_cons (pe_fld (pv 0) rfl) pa_nil star_Attribute)))), ?_⟩
    obtain ⟨dx, fs, R, F, Pd, G, Tk, h1, h2, h3, h4, h5⟩ := id N.ex
    refine ⟨_, rfl, n, _, dx, fs, _, rfl, h1, T.c_Net, T.na_Net_parts, h2.has ("parts", .ref Pd) (by simp), Pd, _, rfl, .inl h5, fun l hl => ?_⟩
    rw [List.map_map]
    exact k l hl
def sp_Net_need_lane_name (K : PySem.W.Frag) (t : Adr) : Sp := fun vs H Q _ => ∃ (n : Addr) (rooms : List (Str × Int)) (firsts parts : List (Str × Addr)) (x : Str), vs = [.ref n, .str x] ∧ NetAt K t H n rooms firsts parts ∧ x ∈ rooms.map (·.1) ∧ ∀ H', Same H H' → Q .non H'
theorem sc_Net_need_lane_name : FnScope ["self", "name"] ["self", "name"] (defScope s_Net_need_lane_name) := ⟨rfl, rfl, rfl, by decide +kernel, rfl, by decide +kernel, by decide +kernel⟩
theorem ok_Net_need_lane_name (T : Txt w K mg t) : FnOk P w K mg base CX0 2 t.f_Net_need_lane_name t.fd_Net_need_lane_name ["self", "name"] (sp_Net_need_lane_name K t) := by
  have sc := sc_Net_need_lane_name
  refine T.F_Net_need_lane_name.ok sc (fun vs H Q E h => ?_) (fun cdv A outer s H vs Q E hr h => ?_)
  · obtain ⟨n, rooms, firsts, parts, x, rfl, _⟩ := h
    rfl
  · obtain ⟨n, rooms, firsts, parts, x, rfl, N, hx, k⟩ := h
    refine ⟨_, (pss_one (ps_if (pt_cmpR op_notIn_seq (pv 1) (pe_meth0 (pv 0) T.c_Net T.me_Net_lane_names (ok_Net_lane_names T) (hr.mono (by decide)) T.b_Net_lane_names .nil pass0) (by with_unfolding_all rfl))
        (pss_one ps_never)
        pss_nil)), ?_⟩
    obtain ⟨dx, fs, R, F, Pd, G, Tk, h1, h2, h3, h4, h5⟩ := id N.ex
    refine ⟨_, rfl, _, rfl, n, dx, fs, rfl, h1, h2.no _ (by decide +kernel), n, rooms, firsts, parts, rfl, N, fun l hl => ?_⟩
    refine ⟨l, _, rfl, .inl (SqL.of upd_same), rfl, by simp [flatV], _, rfl, ?_⟩
    have e : inV (.str x) (rooms.map fun p => V.str p.1) = true := by
      unfold inV
      rw [List.any_eq_true]
      obtain ⟨p, hp, rfl⟩ := List.mem_map.mp hx
      exact ⟨.str p.1, List.mem_map.mpr ⟨p, hp, rfl⟩, by simp [eqV]⟩
    rw [e]
    exact iteF (k _ (same_new hl))
def sp_Net_room_of (K : PySem.W.Frag) (t : Adr) : Sp := fun vs H Q _ => ∃ (n : Addr) (rooms : List (Str × Int)) (firsts parts : List (Str × Addr)) (x : Str) (r : Int), vs = [.ref n, .str x] ∧ NetAt K t H n rooms firsts parts ∧ x ∈ rooms.map (·.1) ∧ valV (rooms.map fun p => ((Sum.inr p.1 : Key), V.int p.2)) (Sum.inr x) = some (.int r) ∧ ∀ H', Same H H' → Q (.int r) H'
theorem sc_Net_room_of : FnScope ["self", "name"] ["self", "name"] (defScope s_Net_room_of) := ⟨rfl, rfl, rfl, by decide +kernel, rfl, by decide +kernel, by decide +kernel⟩
theorem ok_Net_room_of (T : Txt w K mg t) : FnOk P w K mg base CX0 3 t.f_Net_room_of t.fd_Net_room_of ["self", "name"] (sp_Net_room_of K t) := by
  have sc := sc_Net_room_of
  refine T.F_Net_room_of.ok sc (fun vs H Q E h => ?_) (fun cdv A outer s H vs Q E hr h => ?_)
  · obtain ⟨n, rooms, firsts, parts, x, r, rfl, _⟩ := h
    rfl
  · obtain ⟨n, rooms, firsts, parts, x, r, rfl, N, hx, hr2, k⟩ := h
    refine ⟨_, (pss_cons (ps_expr (pe_meth (pv 0) T.c_Net T.me_Net_need_lane_name (ok_Net_need_lane_name T) (hr.mono (by decide)) T.b_Net_need_lane_name .nil pass0 (pa_cons (pv 1) pa_nil star_Name)))
      (pss_one (ps_ret (pe_dget hr.u1 (pe_fld (pv 0) rfl) (pv 1) (fun _ _ => rfl))))), ?_⟩
    obtain ⟨dx, fs, R, F, Pd, G, Tk, h1, h2, h3, h4, h5⟩ := id N.ex
    refine ⟨_, rfl, n, dx, fs, rfl, h1, h2.no _ (by decide +kernel), _, rfl, n, rooms, firsts, parts, x, rfl, N, hx, fun H1 s1 => ?_⟩
    refine ⟨_, rfl, n, _, dx, fs, _, rfl, s1 _ _ h1, T.c_Net, T.na_Net_rooms, h2.has ("rooms", .ref R) (by simp), _, rfl, R, _, rfl, (by rw [← hr2]; exact DGet.k (k := Sum.inr x) (s1 _ _ h3)), k _ s1⟩
def sp_Net_first_of (K : PySem.W.Frag) (t : Adr) : Sp := fun vs H Q _ => ∃ (n : Addr) (rooms : List (Str × Int)) (firsts parts : List (Str × Addr)) (x : Str) (l : Addr) (xs : List V), vs = [.ref n, .str x] ∧ NetAt K t H n rooms firsts parts ∧ x ∈ rooms.map (·.1) ∧ valV (firsts.map fun p => ((Sum.inr p.1 : Key), V.ref p.2)) (Sum.inr x) = some (.ref l) ∧ SqT K H l xs ∧ ∀ H' p, Same H H' → H' p = none → Q (.ref p) (upd H' p (.lst xs))
theorem sc_Net_first_of : FnScope ["self", "name"] ["self", "name"] (defScope s_Net_first_of) := ⟨rfl, rfl, rfl, by decide +kernel, rfl, by decide +kernel, by decide +kernel⟩
theorem ok_Net_first_of (T : Txt w K mg t) : FnOk P w K mg base CX0 3 t.f_Net_first_of t.fd_Net_first_of ["self", "name"] (sp_Net_first_of K t) := by
  have sc := sc_Net_first_of
  refine T.F_Net_first_of.ok sc (fun vs H Q E h => ?_) (fun cdv A outer s H vs Q E hr h => ?_)
  · obtain ⟨n, rooms, firsts, parts, x, l, xs, rfl, _⟩ := h
    rfl
  · obtain ⟨n, rooms, firsts, parts, x, l, xs, rfl, N, hx, hr2, hl, k⟩ := h
    refine ⟨_, (pss_cons (ps_expr (pe_meth (pv 0) T.c_Net T.me_Net_need_lane_name (ok_Net_need_lane_name T) (hr.mono (by decide)) T.b_Net_need_lane_name .nil pass0 (pa_cons (pv 1) pa_nil star_Name)))
      (pss_one (ps_ret (pe_callTy call_list_of (by rfl) T.n_list bt_list (pa_cons (pe_dget hr.u1 (pe_fld (pv 0) rfl) (pv 1) (fun _ _ => rfl)) pa_nil star_Subscript))))), ?_⟩
    obtain ⟨dx, fs, R, F, Pd, G, Tk, h1, h2, h3, h4, h5⟩ := id N.ex
    refine ⟨_, rfl, n, dx, fs, rfl, h1, h2.no _ (by decide +kernel), _, rfl, n, rooms, firsts, parts, x, rfl, N, hx, fun H1 s1 => ?_⟩
    refine ⟨_, rfl, n, _, dx, fs, _, rfl, s1 _ _ h1, T.c_Net, T.na_Net_firsts, h2.has ("firsts", .ref F) (by simp), _, rfl, F, _, rfl, (by rw [← hr2]; exact DGet.k (k := Sum.inr x) (s1 _ _ h4)), ?_⟩
    exact ⟨l, xs, rfl, .inr (s1.seqT hl), fun p hp => k H1 p s1 hp⟩
def sp_Net_part_of (K : PySem.W.Frag) (t : Adr) : Sp := fun vs H Q _ => ∃ (n : Addr) (rooms : List (Str × Int)) (firsts parts : List (Str × Addr)) (x : Str) (p : Addr), vs = [.ref n, .str x] ∧ NetAt K t H n rooms firsts parts ∧ x ∈ parts.map (·.1) ∧ valV (parts.map fun p => ((Sum.inr p.1 : Key), V.ref p.2)) (Sum.inr x) = some (.ref p) ∧ ∀ H', Same H H' → Q (.ref p) H'
theorem sc_Net_part_of : FnScope ["self", "name"] ["self", "name"] (defScope s_Net_part_of) := ⟨rfl, rfl, rfl, by decide +kernel, rfl, by decide +kernel, by decide +kernel⟩
theorem ok_Net_part_of (T : Txt w K mg t) : FnOk P w K mg base CX0 2 t.f_Net_part_of t.fd_Net_part_of ["self", "name"] (sp_Net_part_of K t) := by
  have sc := sc_Net_part_of
  refine T.F_Net_part_of.ok sc (fun vs H Q E h => ?_) (fun cdv A outer s H vs Q E hr h => ?_)
  · obtain ⟨n, rooms, firsts, parts, x, p, rfl, _⟩ := h
    rfl
  · obtain ⟨n, rooms, firsts, parts, x, p, rfl, N, hx, hr2, k⟩ := h
    refine ⟨_, (pss_cons (ps_if (pt_cmpR op_notIn_seq (pv 1) (pe_meth0 (pv 0) T.c_Net T.me_Net_part_names (ok_Net_part_names T) (hr.mono (by decide)) T.b_Net_part_names .nil pass0) (by with_unfolding_all rfl))
        (pss_one ps_never)
        pss_nil)
      (pss_one (ps_ret (pe_dget hr.u1 (pe_fld (pv 0) rfl) (pv 1) (fun _ _ => rfl))))), ?_⟩
    obtain ⟨dx, fs, R, F, Pd, G, Tk, h1, h2, h3, h4, h5⟩ := id N.ex
    refine ⟨_, rfl, _, rfl, n, dx, fs, rfl, h1, h2.no _ (by decide +kernel), n, rooms, firsts, parts, rfl, N, fun l hl => ?_⟩
    refine ⟨l, _, rfl, .inl (SqL.of upd_same), rfl, by simp [flatV], _, rfl, ?_⟩
    have e : inV (.str x) (parts.map fun p => V.str p.1) = true := by
      unfold inV
      rw [List.any_eq_true]
      obtain ⟨p, hp, rfl⟩ := List.mem_map.mp hx
      exact ⟨.str p.1, List.mem_map.mpr ⟨p, hp, rfl⟩, by simp [eqV]⟩
    rw [e]
    have s1 := same_new (H := H) (o := HO.lst (parts.map fun p => V.str p.1)) hl
    refine iteF ?_
    exact ⟨_, rfl, n, _, dx, fs, _, rfl, s1 _ _ h1, T.c_Net, T.na_Net_parts, h2.has ("parts", .ref Pd) (by simp), _, rfl, Pd, _, rfl, (by rw [← hr2]; exact DGet.k (k := Sum.inr x) (s1 _ _ h5)), k _ s1⟩
theorem kind_ok (T : Txt w K mg t) {i : Nat} (hi : i ≤ 1) : MethAt P w K mg base CX0 1 (cls t i) "kind" (sp_kind i) := match i, hi with
  | 0, _ => ⟨_, _, _, T.c_Give, T.me_Give_kind, T.b_Give_kind, ok_Give_kind T⟩
  | 1, _ => ⟨_, _, _, T.c_Take, T.me_Take_kind, T.b_Take_kind, ok_Take_kind T⟩
  | (n + 2), h => absurd h (by omega)
def sp_Net_names_of_kind (K : PySem.W.Frag) (t : Adr) : Sp := fun vs H Q _ => ∃ (n : Addr) (rooms : List (Str × Int)) (firsts parts : List (Str × Addr)) (kd : Addr → Nat) (x : Str), vs = [.ref n, .str x] ∧ NetAt K t H n rooms firsts parts ∧ PartsAt K t H parts kd ∧ parts.length ≤ 16 ∧ (∀ p, H p = none → Q (.ref p) (upd H p (.lst (ofKind parts kd x))))
theorem sc_Net_names_of_kind : FnScope ["self", "kind"] ["self", "kind"] (defScope s_Net_names_of_kind) := ⟨rfl, rfl, rfl, by decide +kernel, rfl, by decide +kernel, by decide +kernel⟩
theorem ok_Net_names_of_kind (T : Txt w K mg t) : FnOk P w K mg base CX0 2 t.f_Net_names_of_kind t.fd_Net_names_of_kind ["self", "kind"] (sp_Net_names_of_kind K t) := by
  have sc := sc_Net_names_of_kind
  refine T.F_Net_names_of_kind.ok sc (fun vs H Q E h => ?_) (fun cdv A outer s H vs Q E hr h => ?_)
  · obtain ⟨n, rooms, firsts, parts, kd, x, rfl, _⟩ := h
    rfl
  · obtain ⟨n, rooms, firsts, parts, kd, x, rfl, N, hP, hl, k⟩ := h
    refine ⟨_, (pss_one (ps_ret (pe_melt (H0 := H) rfl (pe_comp [0, 1] ["self", "kind"] (defScope s_Net_names_of_kind) rfl (pi_dict (pe_fld (pv 0) rfl)) (fun _ _ _ _ _ => (pf_one (pt_cmpR op_eq (pe_methD0K (P := P) (w := w) (K := K) (mg := mg) (base := base) (CX := CX0) (k := 1) (E := E0) rfl rfl rfl rfl rfl (pe_dget hr.u1 (pe_fldK (K := K) rfl (pv 1) rfl) (pv 0) (fun _ _ => rfl)) (hr.mono (by decide)) pass0) (pv 2) (nomark _)))) (fun _ _ _ _ _ => (pv 0)))))), ?_⟩
    obtain ⟨dx, fs, R, F, Pd, G, Tk, h1, h2, h3, h4, h5⟩ := id N.ex
    have hz : sizeLine = 16777216 := sizeLine_eq
    refine ⟨_, rfl, n, _, dx, fs, _, rfl, h1, T.c_Net, T.na_Net_parts, h2.has ("parts", .ref Pd) (by simp), Pd, _, rfl, h5, fun o => ?_⟩
    refine comp_dict (fun j ys H' => H' = upd H Pd (.frz o (.dK (parts.map fun p => ((Sum.inr p.1 : Key), V.ref p.2)))) ∧ ys = ofKind (parts.take j) kd x) (by simp; omega) ⟨rfl, by simp [ofKind]⟩ ?_ ?_ ?_ ?_
    · rintro j ys H' ⟨_, rfl⟩
      have := ofKind_len (parts.take j) kd x
      rw [List.length_take] at this
      omega
    · rintro j ys H' _ ⟨rfl, _⟩
      exact upd_same
    · rintro j kk v ys H' hj ⟨rfl, rfl⟩
      rw [List.getElem?_map] at hj
      obtain ⟨q, hq, e⟩ := Option.map_eq_some_iff.mp hj
      cases e
      obtain ⟨g1, hk1, nm, ns, is, os, g2⟩ := hP q (List.mem_of_getElem? hq)
      obtain ⟨dxp, tn, ti, to, p1, p2, p3, p4⟩ := (g2.chill (v := .frz o (.dK (parts.map fun p => ((Sum.inr p.1 : Key), V.ref p.2)))) h5).ex
      refine ⟨_, rfl, n, _, dx, fs, _, rfl, chill_get h5 h1 (by intro _ z; cases z), T.c_Net, T.na_Net_parts, h2.has ("parts", .ref Pd) (by simp), _, rfl, Pd, _, rfl, (by rw [← g1]; exact .inl ⟨_, Sum.inr q.1, .inr ⟨o, upd_same⟩, rfl, rfl⟩), ?_⟩
      refine ⟨q.2, cls t (kd q.2), dxp, _, sp_kind (kd q.2), rfl, p1, flds_no _ _ _ _ (by decide +kernel) (by decide +kernel) (by decide +kernel) (by decide +kernel), kind_ok T hk1, _, rfl, _, rfl, rfl, _, rfl, ?_⟩
      rw [List.take_succ, hq, Option.toList_some, ofKind_snoc]
      refine ite2 (fun e => ?_) (fun e => ?_)
      · have e' : kname (kd q.2) = x := by simpa using e
        rw [if_pos e']
        exact ⟨_, rfl, rfl, rfl⟩
      · have e' : ¬ kname (kd q.2) = x := by simpa using e
        rw [if_neg e']
        exact ⟨rfl, rfl⟩
    · rintro ys H' ⟨rfl, rfl⟩ D hD
      refine ⟨_, ⟨Pd, o, parts.map fun p => ((Sum.inr p.1 : Key), V.ref p.2), ?_, ?_, rfl⟩, ?_⟩
      · rw [upd_ne (by rintro rfl; rw [upd_same] at hD; cases hD)]
        exact upd_same
      · intro o' u z
        rw [show H Pd = _ from h5] at z
        cases z
      · rw [melt_back h5 hD]
        have := k D (free_chill hD)
        rw [List.length_map, List.take_length]
        exact this
def sp_Net_gives (K : PySem.W.Frag) (t : Adr) : Sp := fun vs H Q _ => ∃ (n : Addr) (rooms : List (Str × Int)) (firsts parts : List (Str × Addr)) (kd : Addr → Nat), vs = [.ref n] ∧ NetAt K t H n rooms firsts parts ∧ PartsAt K t H parts kd ∧ parts.length ≤ 16 ∧ (∀ p, H p = none → Q (.ref p) (upd H p (.lst (ofKind parts kd "give"))))
theorem sc_Net_gives : FnScope ["self"] ["self"] (defScope s_Net_gives) := ⟨rfl, rfl, rfl, by decide +kernel, rfl, by decide +kernel, by decide +kernel⟩
theorem ok_Net_gives (T : Txt w K mg t) : FnOk P w K mg base CX0 3 t.f_Net_gives t.fd_Net_gives ["self"] (sp_Net_gives K t) := by
  have sc := sc_Net_gives
  refine T.F_Net_gives.ok sc (fun vs H Q E h => ?_) (fun cdv A outer s H vs Q E hr h => ?_)
  · obtain ⟨n, rooms, firsts, parts, kd, rfl, _⟩ := h
    rfl
  · obtain ⟨n, rooms, firsts, parts, kd, rfl, N, hP, hl, k⟩ := h
    refine ⟨_, (pss_one (ps_ret (pe_meth (pv 0) T.c_Net T.me_Net_names_of_kind (ok_Net_names_of_kind T) (hr.mono (by decide)) T.b_Net_names_of_kind .nil pass0 (pa_cons pe_str pa_nil star_Constant)))), ?_⟩
    obtain ⟨dx, fs, R, F, Pd, G, Tk, h1, h2, h3, h4, h5⟩ := id N.ex
    exact ⟨_, rfl, n, dx, fs, rfl, h1, h2.no _ (by decide +kernel), n, rooms, firsts, parts, kd, _, rfl, N, hP, hl, k⟩
def sp_Net_takes (K : PySem.W.Frag) (t : Adr) : Sp := fun vs H Q _ => ∃ (n : Addr) (rooms : List (Str × Int)) (firsts parts : List (Str × Addr)) (kd : Addr → Nat), vs = [.ref n] ∧ NetAt K t H n rooms firsts parts ∧ PartsAt K t H parts kd ∧ parts.length ≤ 16 ∧ (∀ p, H p = none → Q (.ref p) (upd H p (.lst (ofKind parts kd "take"))))
theorem sc_Net_takes : FnScope ["self"] ["self"] (defScope s_Net_takes) := ⟨rfl, rfl, rfl, by decide +kernel, rfl, by decide +kernel, by decide +kernel⟩
theorem ok_Net_takes (T : Txt w K mg t) : FnOk P w K mg base CX0 3 t.f_Net_takes t.fd_Net_takes ["self"] (sp_Net_takes K t) := by
  have sc := sc_Net_takes
  refine T.F_Net_takes.ok sc (fun vs H Q E h => ?_) (fun cdv A outer s H vs Q E hr h => ?_)
  · obtain ⟨n, rooms, firsts, parts, kd, rfl, _⟩ := h
    rfl
  · obtain ⟨n, rooms, firsts, parts, kd, rfl, N, hP, hl, k⟩ := h
    refine ⟨_, (pss_one (ps_ret (pe_meth (pv 0) T.c_Net T.me_Net_names_of_kind (ok_Net_names_of_kind T) (hr.mono (by decide)) T.b_Net_names_of_kind .nil pass0 (pa_cons pe_str pa_nil star_Constant)))), ?_⟩
    obtain ⟨dx, fs, R, F, Pd, G, Tk, h1, h2, h3, h4, h5⟩ := id N.ex
    exact ⟨_, rfl, n, dx, fs, rfl, h1, h2.no _ (by decide +kernel), n, rooms, firsts, parts, kd, _, rfl, N, hP, hl, k⟩
def sp_Flow_holds (K : PySem.W.Frag) (t : Adr) : Sp := fun vs H Q _ => ∃ (f n E G Kp D Rw l : Addr) (ed gd : List (Key × V)) (x : Str) (vs' : List V) (g : Nat), vs = [.ref f, .str x] ∧ FlowAt K t H f n E G Kp D Rw ∧ H E = some (.dK ed) ∧ H G = some (.dK gd) ∧ valV ed (Sum.inr x) = some (.ref l) ∧ valV gd (Sum.inr x) = some (.int g) ∧ SqL K H l vs' ∧ Q (.int (vs'.length - g)) H
theorem sc_Flow_holds : FnScope ["self", "lane"] ["self", "lane"] (defScope s_Flow_holds) := ⟨rfl, rfl, rfl, by decide +kernel, rfl, by decide +kernel, by decide +kernel⟩
theorem ok_Flow_holds (T : Txt w K mg t) : FnOk P w K mg base CX0 1 t.f_Flow_holds t.fd_Flow_holds ["self", "lane"] (sp_Flow_holds K t) := by
  have sc := sc_Flow_holds
  refine T.F_Flow_holds.ok sc (fun vs H Q E h => ?_) (fun cdv A outer s H vs Q E hr h => ?_)
  · obtain ⟨f, n, E, G, Kp, D, Rw, l, ed, gd, x, vs', g, rfl, _⟩ := h
    rfl
  · obtain ⟨f, n, E, G, Kp, D, Rw, l, ed, gd, x, vs', g, rfl, N, hE, hG, h3, h4, h5, k⟩ := h
    refine ⟨_, (pss_one (ps_ret (pe_op op_sub (pe_callB call_len (by rfl) T.n_len bt_len (pa_cons (pe_dget hr.u1 (pe_fld (pv 0) rfl) (pv 1) (fun _ _ => rfl)) pa_nil star_Subscript)) (pe_dget hr.u1 (pe_fld (pv 0) rfl) (pv 1) (fun _ _ => rfl))))), ?_⟩
    obtain ⟨dx, fs, h1, h2⟩ := id N.ex
    refine ⟨_, rfl, f, _, dx, fs, _, rfl, h1, T.c_Flow, T.na_Flow_ever, h2.has ("ever", .ref E) (by simp), _, rfl, E, _, rfl, (by rw [← h3]; exact DGet.k (k := Sum.inr x) hE), ?_⟩
    refine ⟨.ref l, vs'.length, rfl, .inl ⟨vs', h5, rfl⟩, _, rfl, f, _, dx, fs, _, rfl, h1, T.c_Flow, T.na_Flow_gone, h2.has ("gone", .ref G) (by simp), _, rfl, G, _, rfl, (by rw [← h4]; exact DGet.k (k := Sum.inr x) hG), ?_⟩
    refine ⟨_, _, rfl, rfl, ?_⟩
    exact k
def sp_Flow_held_now (K : PySem.W.Frag) (t : Adr) : Sp := fun vs H Q _ => ∃ (f n E G Kp D Rw l : Addr) (ed gd : List (Key × V)) (x : Str) (vs' : List V) (g : Nat), vs = [.ref f, .str x] ∧ FlowAt K t H f n E G Kp D Rw ∧ H E = some (.dK ed) ∧ H G = some (.dK gd) ∧ valV ed (Sum.inr x) = some (.ref l) ∧ valV gd (Sum.inr x) = some (.int g) ∧ SqL K H l vs' ∧ ∀ p, H p = none → Q (.ref p) (upd H p (.lst (vs'.drop g)))
theorem sc_Flow_held_now : FnScope ["self", "lane"] ["self", "lane"] (defScope s_Flow_held_now) := ⟨rfl, rfl, rfl, by decide +kernel, rfl, by decide +kernel, by decide +kernel⟩
theorem ok_Flow_held_now (T : Txt w K mg t) : FnOk P w K mg base CX0 1 t.f_Flow_held_now t.fd_Flow_held_now ["self", "lane"] (sp_Flow_held_now K t) := by
  have sc := sc_Flow_held_now
  refine T.F_Flow_held_now.ok sc (fun vs H Q E h => ?_) (fun cdv A outer s H vs Q E hr h => ?_)
  · obtain ⟨f, n, E, G, Kp, D, Rw, l, ed, gd, x, vs', g, rfl, _⟩ := h
    rfl
  · obtain ⟨f, n, E, G, Kp, D, Rw, l, ed, gd, x, vs', g, rfl, N, hE, hG, h3, h4, h5, k⟩ := h
    refine ⟨_, (pss_one (ps_ret (pe_slice sl_list (pe_dget hr.u1 (pe_fld (pv 0) rfl) (pv 1) (fun _ _ => rfl)) (po_some (pe_dget hr.u1 (pe_fld (pv 0) rfl) (pv 1) (fun _ _ => rfl))) po_none))), ?_⟩
    obtain ⟨dx, fs, h1, h2⟩ := id N.ex
    refine ⟨_, rfl, f, _, dx, fs, _, rfl, h1, T.c_Flow, T.na_Flow_ever, h2.has ("ever", .ref E) (by simp), _, rfl, E, _, rfl, (by rw [← h3]; exact DGet.k (k := Sum.inr x) hE), ?_⟩
    refine ⟨_, rfl, f, _, dx, fs, _, rfl, h1, T.c_Flow, T.na_Flow_gone, h2.has ("gone", .ref G) (by simp), _, rfl, G, _, rfl, (by rw [← h4]; exact DGet.k (k := Sum.inr x) hG), ?_⟩
    refine ⟨_, rfl, l, vs', rfl, h5, fun p hp => ?_⟩
    rw [cut_drop]
    exact k p hp
def sp_Flow_gone_by (K : PySem.W.Frag) (t : Adr) : Sp := fun vs H Q _ => ∃ (f n E G Kp D Rw l : Addr) (ed gd : List (Key × V)) (x : Str) (vs' : List V) (g : Nat), vs = [.ref f, .str x] ∧ FlowAt K t H f n E G Kp D Rw ∧ H E = some (.dK ed) ∧ H G = some (.dK gd) ∧ valV ed (Sum.inr x) = some (.ref l) ∧ valV gd (Sum.inr x) = some (.int g) ∧ SqL K H l vs' ∧ ∀ p, H p = none → Q (.ref p) (upd H p (.lst (vs'.take g)))
theorem sc_Flow_gone_by : FnScope ["self", "lane"] ["self", "lane"] (defScope s_Flow_gone_by) := ⟨rfl, rfl, rfl, by decide +kernel, rfl, by decide +kernel, by decide +kernel⟩
theorem ok_Flow_gone_by (T : Txt w K mg t) : FnOk P w K mg base CX0 1 t.f_Flow_gone_by t.fd_Flow_gone_by ["self", "lane"] (sp_Flow_gone_by K t) := by
  have sc := sc_Flow_gone_by
  refine T.F_Flow_gone_by.ok sc (fun vs H Q E h => ?_) (fun cdv A outer s H vs Q E hr h => ?_)
  · obtain ⟨f, n, E, G, Kp, D, Rw, l, ed, gd, x, vs', g, rfl, _⟩ := h
    rfl
  · obtain ⟨f, n, E, G, Kp, D, Rw, l, ed, gd, x, vs', g, rfl, N, hE, hG, h3, h4, h5, k⟩ := h
    refine ⟨_, (pss_one (ps_ret (pe_slice sl_list (pe_dget hr.u1 (pe_fld (pv 0) rfl) (pv 1) (fun _ _ => rfl)) po_none (po_some (pe_dget hr.u1 (pe_fld (pv 0) rfl) (pv 1) (fun _ _ => rfl)))))), ?_⟩
    obtain ⟨dx, fs, h1, h2⟩ := id N.ex
    refine ⟨_, rfl, f, _, dx, fs, _, rfl, h1, T.c_Flow, T.na_Flow_ever, h2.has ("ever", .ref E) (by simp), _, rfl, E, _, rfl, (by rw [← h3]; exact DGet.k (k := Sum.inr x) hE), ?_⟩
    refine ⟨_, rfl, f, _, dx, fs, _, rfl, h1, T.c_Flow, T.na_Flow_gone, h2.has ("gone", .ref G) (by simp), _, rfl, G, _, rfl, (by rw [← h4]; exact DGet.k (k := Sum.inr x) hG), ?_⟩
    refine ⟨_, rfl, l, vs', rfl, h5, fun p hp => ?_⟩
    rw [cut_take]
    exact k p hp
def sp_Flow_row_left (K : PySem.W.Frag) (t : Adr) : Sp := fun vs H Q _ => ∃ (f n E G Kp D Rw l : Addr) (ed gd : List (Key × V)) (x : Str) (vs' : List V) (g : Nat), vs = [.ref f, .str x] ∧ FlowAt K t H f n E G Kp D Rw ∧ H Rw = some (.dK ed) ∧ H D = some (.dK gd) ∧ valV ed (Sum.inr x) = some (.ref l) ∧ valV gd (Sum.inr x) = some (.int g) ∧ SqL K H l vs' ∧ ∀ p, H p = none → Q (.ref p) (upd H p (.lst (vs'.drop g)))
theorem sc_Flow_row_left : FnScope ["self", "door"] ["self", "door"] (defScope s_Flow_row_left) := ⟨rfl, rfl, rfl, by decide +kernel, rfl, by decide +kernel, by decide +kernel⟩
theorem ok_Flow_row_left (T : Txt w K mg t) : FnOk P w K mg base CX0 1 t.f_Flow_row_left t.fd_Flow_row_left ["self", "door"] (sp_Flow_row_left K t) := by
  have sc := sc_Flow_row_left
  refine T.F_Flow_row_left.ok sc (fun vs H Q E h => ?_) (fun cdv A outer s H vs Q E hr h => ?_)
  · obtain ⟨f, n, E, G, Kp, D, Rw, l, ed, gd, x, vs', g, rfl, _⟩ := h
    rfl
  · obtain ⟨f, n, E, G, Kp, D, Rw, l, ed, gd, x, vs', g, rfl, N, hE, hG, h3, h4, h5, k⟩ := h
    refine ⟨_, (pss_one (ps_ret (pe_slice sl_list (pe_dget hr.u1 (pe_fld (pv 0) rfl) (pv 1) (fun _ _ => rfl)) (po_some (pe_dget hr.u1 (pe_fld (pv 0) rfl) (pv 1) (fun _ _ => rfl))) po_none))), ?_⟩
    obtain ⟨dx, fs, h1, h2⟩ := id N.ex
    refine ⟨_, rfl, f, _, dx, fs, _, rfl, h1, T.c_Flow, T.na_Flow_rows, h2.has ("rows", .ref Rw) (by simp), _, rfl, Rw, _, rfl, (by rw [← h3]; exact DGet.k (k := Sum.inr x) hE), ?_⟩
    refine ⟨_, rfl, f, _, dx, fs, _, rfl, h1, T.c_Flow, T.na_Flow_done, h2.has ("done", .ref D) (by simp), _, rfl, D, _, rfl, (by rw [← h4]; exact DGet.k (k := Sum.inr x) hG), ?_⟩
    refine ⟨_, rfl, l, vs', rfl, h5, fun p hp => ?_⟩
    rw [cut_drop]
    exact k p hp
def sp_Flow_head (K : PySem.W.Frag) (t : Adr) : Sp := fun vs H Q _ => ∃ (f n E G Kp D Rw l : Addr) (ed gd : List (Key × V)) (x : Str) (vs' : List V) (g : Nat), vs = [.ref f, .str x] ∧ FlowAt K t H f n E G Kp D Rw ∧ H E = some (.dK ed) ∧ H G = some (.dK gd) ∧ valV ed (Sum.inr x) = some (.ref l) ∧ valV gd (Sum.inr x) = some (.int g) ∧ SqL K H l vs' ∧ Q ((vs'[g]?).getD .non) H
theorem sc_Flow_head : FnScope ["self", "lane"] ["self", "lane"] (defScope s_Flow_head) := ⟨rfl, rfl, rfl, by decide +kernel, rfl, by decide +kernel, by decide +kernel⟩
theorem ok_Flow_head (T : Txt w K mg t) : FnOk P w K mg base CX0 2 t.f_Flow_head t.fd_Flow_head ["self", "lane"] (sp_Flow_head K t) := by
  have sc := sc_Flow_head
  refine T.F_Flow_head.ok sc (fun vs H Q E h => ?_) (fun cdv A outer s H vs Q E hr h => ?_)
  · obtain ⟨f, n, E, G, Kp, D, Rw, l, ed, gd, x, vs', g, rfl, _⟩ := h
    rfl
  · obtain ⟨f, n, E, G, Kp, D, Rw, l, ed, gd, x, vs', g, rfl, N, hE, hG, h3, h4, h5, k⟩ := h
    refine ⟨_, (pss_one (ps_ret (pe_ifExp (pt_cmpR op_gt (pe_meth (pv 0) T.c_Flow T.me_Flow_holds (ok_Flow_holds T) (hr.mono (by decide)) T.b_Flow_holds .nil pass0 (pa_cons (pv 1) pa_nil star_Name)) pe_int (nomark _)) (pe_ix ix_list (pe_dget hr.u1 (pe_fld (pv 0) rfl) (pv 1) (fun _ _ => rfl)) (pe_dget hr.u1 (pe_fld (pv 0) rfl) (pv 1) (fun _ _ => rfl)) (fun _ _ => rfl)) pe_non))), ?_⟩
    obtain ⟨dx, fs, h1, h2⟩ := id N.ex
    refine ⟨_, rfl, f, dx, fs, rfl, h1, h2.no _ (by decide +kernel), _, rfl, f, n, E, G, Kp, D, Rw, l, ed, gd, x, vs', g, rfl, N, hE, hG, h3, h4, h5, ?_⟩
    refine ⟨_, _, rfl, rfl, _, rfl, ite2 (fun e => ?_) (fun e => ?_)⟩
    · have e' : g < vs'.length := by have := of_decide_eq_true e; omega
      refine ⟨_, rfl, f, _, dx, fs, _, rfl, h1, T.c_Flow, T.na_Flow_ever, h2.has ("ever", .ref E) (by simp), _, rfl, E, _, rfl, (by rw [← h3]; exact DGet.k (k := Sum.inr x) hE), ?_⟩
      refine ⟨_, rfl, f, _, dx, fs, _, rfl, h1, T.c_Flow, T.na_Flow_gone, h2.has ("gone", .ref G) (by simp), _, rfl, G, _, rfl, (by rw [← h4]; exact DGet.k (k := Sum.inr x) hG), ?_⟩
      rw [List.getElem?_eq_getElem e'] at k
      exact ⟨l, vs', g, _, rfl, rfl, h5, atI_nat (List.getElem?_eq_getElem e'), k⟩
    · have e' : ¬ g < vs'.length := fun z => e (decide_eq_true (by omega))
      rw [List.getElem?_eq_none (by omega)] at k
      exact k
@[irreducible] def sp_Flow_row_ended (K : PySem.W.Frag) (t : Adr) : Sp := fun vs H Q _ => ∃ (f n E G Kp D Rw : Addr) (rd dd : List (Key × V)) (x : Str), vs = [.ref f, .str x] ∧ FlowAt K t H f n E G Kp D Rw ∧ H Rw = some (.dK rd) ∧ H D = some (.dK dd) ∧ ((valV rd (Sum.inr x) = none ∧ Q (.bl false) H) ∨ ∃ (l : Addr) (vs' : List V) (g : Nat), valV rd (Sum.inr x) = some (.ref l) ∧ valV dd (Sum.inr x) = some (.int g) ∧ SqL K H l vs' ∧ Q (.bl (decide (g = vs'.length))) H)
theorem sc_Flow_row_ended : FnScope ["self", "name"] ["self", "name"] (defScope s_Flow_row_ended) := ⟨rfl, rfl, rfl, by decide +kernel, rfl, by decide +kernel, by decide +kernel⟩
theorem ok_Flow_row_ended (T : Txt w K mg t) : FnOk P w K mg base CX0 1 t.f_Flow_row_ended t.fd_Flow_row_ended ["self", "name"] (sp_Flow_row_ended K t) := by
  have sc := sc_Flow_row_ended
  refine T.F_Flow_row_ended.ok sc (fun vs H Q E h => ?_) (fun cdv A outer s H vs Q E hr h => ?_)
  · unfold sp_Flow_row_ended at h
    obtain ⟨f, n, E, G, Kp, D, Rw, rd, dd, x, rfl, _⟩ := h
    rfl
  · unfold sp_Flow_row_ended at h
    obtain ⟨f, n, E, G, Kp, D, Rw, rd, dd, x, rfl, N, hR, hD, k⟩ := h
    refine ⟨_, (pss_one (ps_ret (pe_and (pe_cmp (pc_din hr.u1 (pv 1) (pe_fld (pv 0) rfl))) (pe_one (pe_cmpR op_eq (pe_dget hr.u1 (pe_fld (pv 0) rfl) (pv 1) (fun _ _ => rfl)) (pe_callB call_len (by rfl) T.n_len bt_len (pa_cons (pe_dget hr.u1 (pe_fld (pv 0) rfl) (pv 1) (fun _ _ => rfl)) pa_nil star_Subscript)) (nomark _)))))), ?_⟩
    obtain ⟨dx, fs, h1, h2⟩ := id N.ex
    refine ⟨_, rfl, _, rfl, f, _, dx, fs, _, rfl, h1, T.c_Flow, T.na_Flow_rows, h2.has ("rows", .ref Rw) (by simp), Rw, _, rfl, DGet.k (k := Sum.inr x) hR, ?_⟩
    rcases k with ⟨k1, k⟩ | ⟨l, vs', g, k1, k2, k3, k⟩
    · rw [k1]
      exact ⟨_, rfl, iteF k⟩
    · rw [k1]
      refine ⟨_, rfl, iteT ?_⟩
      refine ⟨_, rfl, f, _, dx, fs, _, rfl, h1, T.c_Flow, T.na_Flow_done, h2.has ("done", .ref D) (by simp), _, rfl, D, _, rfl, (by rw [← k2]; exact DGet.k (k := Sum.inr x) hD), ?_⟩
      refine ⟨_, rfl, f, _, dx, fs, _, rfl, h1, T.c_Flow, T.na_Flow_rows, h2.has ("rows", .ref Rw) (by simp), _, rfl, Rw, _, rfl, (by rw [← k1]; exact DGet.k (k := Sum.inr x) hR), ?_⟩
      refine ⟨.ref l, vs'.length, rfl, .inl ⟨vs', k3, rfl⟩, rfl, ?_⟩
      rw [show decide (V.int (g : Int) = V.int (vs'.length : Int)) = decide (g = vs'.length) by rw [decide_eq_decide, V.int.injEq]; omega]
      exact k
def sp_Flow_heads (K : PySem.W.Frag) (t : Adr) : Sp := fun vs H Q _ => ∃ (f n E G Kp D Rw p : Addr) (ed gd : List (Key × V)) (i : Nat) (nm : V) (ns os : List V) (xs : List Str) (hv : Str → V), vs = [.ref f, .ref p] ∧ FlowAt K t H f n E G Kp D Rw ∧ H E = some (.dK ed) ∧ H G = some (.dK gd) ∧ PartAt K t H p i nm ns (xs.map V.str) os ∧ xs.length ≤ 3 ∧ (∀ x ∈ xs, ∃ (l : Addr) (vs' : List V) (g : Nat), valV ed (Sum.inr x) = some (.ref l) ∧ valV gd (Sum.inr x) = some (.int g) ∧ SqL K H l vs' ∧ hv x = (vs'[g]?).getD .non) ∧ ∀ d, H d = none → Q (.ref d) (upd H d (.lst (xs.map hv)))
theorem sc_Flow_heads : FnScope ["self", "part"] ["self", "part"] (defScope s_Flow_heads) := ⟨rfl, rfl, rfl, by decide +kernel, rfl, by decide +kernel, by decide +kernel⟩
theorem ok_Flow_heads (T : Txt w K mg t) : FnOk P w K mg base CX0 3 t.f_Flow_heads t.fd_Flow_heads ["self", "part"] (sp_Flow_heads K t) := by
  have sc := sc_Flow_heads
  refine T.F_Flow_heads.ok sc (fun vs H Q E h => ?_) (fun cdv A outer s H vs Q E hr h => ?_)
  · obtain ⟨f, n, E, G, Kp, D, Rw, p, ed, gd, i, nm, ns, os, xs, hv, rfl, _⟩ := h
    rfl
  · obtain ⟨f, n, E, G, Kp, D, Rw, p, ed, gd, i, nm, ns, os, xs, hv, rfl, N, hE, hG, hP, hx, hh, k⟩ := h
    refine ⟨_, (pss_one (ps_ret (pe_comp [0] ["self", "part"] (defScope s_Flow_heads) rfl (pi_tup (pe_fld (pv 1) rfl)) (fun _ _ _ _ _ => pf_nil) (fun _ _ _ _ _ => (pe_meth (pv 1) T.c_Flow T.me_Flow_head (ok_Flow_head T) (hr.mono (by decide)) T.b_Flow_head .nil pass0 (pa_cons (pv 0) pa_nil star_Name)))))), ?_⟩
    obtain ⟨dx, fs, h1, h2⟩ := id N.ex
    obtain ⟨dxp, tn, ti, to, p1, p2, p3, p4⟩ := id hP.ex
    have hz : sizeLine = 16777216 := sizeLine_eq
    refine ⟨_, rfl, p, _, dxp, _, _, rfl, p1, cls_ok T i, na_ins T i, flds_ins _ _ _ _, ti, rfl, ⟨_, p3⟩, ?_⟩
    refine comp_tup (K := K) (a := ti) (xs := xs.map V.str) (fun j ys H' => H' = H ∧ ys = (xs.take j).map hv) (by simp; omega) ⟨rfl, rfl⟩ (fun j ys H' ⟨_, e⟩ => by rw [e]; simp; omega) (fun j ys H' _ ⟨e, _⟩ => by rw [e]; exact p3) ?_ ?_
    · rintro j y ys H' hy ⟨rfl, rfl⟩
      rw [List.getElem?_map] at hy
      obtain ⟨x, hq, rfl⟩ := Option.map_eq_some_iff.mp hy
      obtain ⟨l, vs', g, g1, g2, g3, g4⟩ := hh x (List.mem_of_getElem? hq)
      refine yes ⟨_, rfl, f, dx, fs, rfl, h1, h2.no _ (by decide +kernel), _, rfl, f, n, E, G, Kp, D, Rw, l, ed, gd, x, vs', g, rfl, N, hE, hG, g1, g2, g3, rfl, ?_⟩
      rw [List.take_succ, hq, Option.toList_some, List.map_append, ← g4]
      rfl
    · rintro ys H' ⟨rfl, rfl⟩ d hd
      rw [List.length_map, List.take_length]
      exact k d hd
theorem lacks_ok (T : Txt w K mg t) {i : Nat} (hi : i ≤ 1) : MethAt P w K mg base CX0 2 (cls t i) "lacks" (sp_lacks K t i) := match i, hi with
  | 0, _ => ⟨_, _, _, T.c_Give, T.me_Give_lacks, T.b_Part_lacks, (ok_Part_lacks T).imp fun _ _ _ _ h => ⟨_, by decide, h⟩⟩
  | 1, _ => ⟨_, _, _, T.c_Take, T.me_Take_lacks, T.b_Part_lacks, (ok_Part_lacks T).imp fun _ _ _ _ h => ⟨_, by decide, h⟩⟩
  | (n + 2), h => absurd h (by omega)
def sp_Flow_lacking (K : PySem.W.Frag) (t : Adr) : Sp := fun vs H Q _ => ∃ (f E G Kp D Rw p : Addr) (n : Addr) (rooms : List (Str × Int)) (firsts parts : List (Str × Addr)) (y : Str) (ed gd : List (Key × V)) (i : Nat) (nm : V) (ns os : List V) (xs : List Str) (hv : Str → V), vs = [.ref f, .str y] ∧ FlowAt K t H f n E G Kp D Rw ∧ H E = some (.dK ed) ∧ H G = some (.dK gd) ∧ NetAt K t H n rooms firsts parts ∧ y ∈ parts.map (·.1) ∧ valV (parts.map fun p => ((Sum.inr p.1 : Key), V.ref p.2)) (Sum.inr y) = some (.ref p) ∧ PartAt K t H p i nm ns (xs.map V.str) os ∧ xs.length = cI i ∧ i ≤ 1 ∧ HeadsOk i (xs.map hv) ∧ (∀ x ∈ xs, ∃ (l : Addr) (vs' : List V) (g : Nat), valV ed (Sum.inr x) = some (.ref l) ∧ valV gd (Sum.inr x) = some (.int g) ∧ SqL K H l vs' ∧ hv x = (vs'[g]?).getD .non) ∧ ∀ H', Same H H' → Q (lackLane i xs (xs.map hv)) H'
theorem sc_Flow_lacking : FnScope ["self", "name", "part", "place"] ["self", "name"] (defScope s_Flow_lacking) := ⟨rfl, rfl, rfl, by decide +kernel, rfl, by decide +kernel, by decide +kernel⟩
theorem ok_Flow_lacking (T : Txt w K mg t) : FnOk P w K mg base CX0 4 t.f_Flow_lacking t.fd_Flow_lacking ["self", "name"] (sp_Flow_lacking K t) := by
  have sc := sc_Flow_lacking
  refine T.F_Flow_lacking.ok sc (fun vs H Q E h => ?_) (fun cdv A outer s H vs Q E hr h => ?_)
  · obtain ⟨f, E, G, Kp, D, Rw, p, n, rooms, firsts, parts, y, ed, gd, i, nm, ns, os, xs, hv, rfl, _⟩ := h
    rfl
  · obtain ⟨f, E, G, Kp, D, Rw, p, n, rooms, firsts, parts, y, ed, gd, i, nm, ns, os, xs, hv, rfl, N, hE, hG, hN, hy, hp, hP, hI, hi1, hO, hh, k⟩ := h
    refine ⟨_, (pss_cons (ps_set (i := 2) sc.nd rfl (Or.inl rfl) (pe_meth (pe_fld (pv 0) rfl) T.c_Net T.me_Net_part_of (ok_Net_part_of T) (hr.mono (by decide)) T.b_Net_part_of .nil pass0 (pa_cons (pv 1) pa_nil star_Name)))
      (pss_cons (ps_set (i := 3) sc.nd rfl (Or.inl rfl) (pe_methD (CX := CX0) (k := 2) (E := E0) (pv 2) (hr.mono (by decide)) pass0 (pa_cons (pe_meth (pv 0) T.c_Flow T.me_Flow_heads (ok_Flow_heads T) (hr.mono (by decide)) T.b_Flow_heads .nil pass0 (pa_cons (pv 2) pa_nil star_Name)) pa_nil star_Call)))
      (pss_one (ps_ret (pe_ifExp (pt_cmp (pc_isN (pv 3))) pe_non (pe_ix ix_tup (pe_fld (pv 2) rfl) (pv 3) (fun _ _ => rfl))))))), ?_⟩
    obtain ⟨dx, fs, h1, h2⟩ := id N.ex
    obtain ⟨dxn, fsn, R, F, Pd, Gn, Tk, n1, n2, n3, n4, n5⟩ := id hN.ex
    obtain ⟨dxp, tn, ti, to, p1, p2, p3, p4⟩ := id hP.ex
    refine ⟨_, rfl, f, _, dx, fs, _, rfl, h1, T.c_Flow, T.na_Flow_net, h2.has ("net", .ref n) (by simp), n, dxn, fsn, rfl, n1, n2.no _ (by decide +kernel), _, rfl, n, rooms, firsts, parts, y, p, rfl, hN, hy, hp, fun H1 s1 => ?_⟩
    refine ⟨_, rfl, p, cls t i, dxp, _, sp_lacks K t i, rfl, s1 _ _ p1, flds_no _ _ _ _ (by decide +kernel) (by decide +kernel) (by decide +kernel) (by decide +kernel), lacks_ok T hi1, ?_⟩
    refine ⟨_, rfl, f, dx, fs, rfl, s1 _ _ h1, h2.no _ (by decide +kernel), _, rfl, f, n, E, G, Kp, D, Rw, p, ed, gd, i, nm, ns, os, xs, hv, rfl, N.same s1, s1 _ _ hE, s1 _ _ hG, hP.same s1, (by have := cI_le i; omega), ?_, fun d hd => ?_⟩
    · intro x hx
      obtain ⟨l, vs', g, g1, g2, g3, g4⟩ := hh x hx
      exact ⟨l, vs', g, g1, g2, s1.seq g3, g4⟩
    have s2 : Same H1 (upd H1 d (.lst (xs.map hv))) := same_new hd
    refine ⟨p, d, nm, ns, _, os, xs.map hv, rfl, (hP.same s1).same s2, by simp [hI], SqL.of upd_same, hO, fun H3 s3 => ?_⟩
    have k' := k H3 ((s1.trans s2).trans s3)
    have hlt := places_lt hO
    unfold lackLane at k'
    unfold lackV
    cases hf : (places i (xs.map hv)).find? (lackB (xs.map hv)) with
    | none =>
      rw [hf] at k'
      exact ⟨_, rfl, _, rfl, iteT k'⟩
    | some q =>
      rw [hf] at k'
      have hq : q < xs.length := by have := hlt q (List.mem_of_find?_eq_some hf); simpa using this
      have k' : Q (V.str xs[q]) H3 := by simpa only [List.getElem?_eq_getElem hq, Option.map_some, Option.getD_some] using k'
      have s13 := (s1.trans s2).trans s3
      refine ⟨_, rfl, _, rfl, iteF ⟨_, rfl, p, _, dxp, _, _, rfl, s13 _ _ p1, cls_ok T i, na_ins T i, flds_ins _ _ _ _, _, rfl, ti, xs.map V.str, q, _, rfl, rfl, s13.seqT p3, atI_nat (j := q) (by rw [List.getElem?_map, List.getElem?_eq_getElem hq]; rfl), k'⟩⟩
theorem worked_ok (T : Txt w K mg t) {i : Nat} (hi : i ≤ 1) : MethAt P w K mg base CX0 1 (cls t i) "worked" (sp_worked K t i) := match i, hi with
  | 0, _ => ⟨_, _, _, T.c_Give, T.me_Give_worked, T.b_Give_worked, ok_Give_worked T⟩
  | 1, _ => ⟨_, _, _, T.c_Take, T.me_Take_worked, T.b_Take_worked, ok_Take_worked T⟩
  | (n + 2), h => absurd h (by omega)
theorem re_of {H : Hp} {Q : VK} {Ex : XK} {f n E G Kp D Rw : Addr} {rd dd : List (Key × V)} {y : Str} (N : FlowAt K t H f n E G Kp D Rw) (hR : H Rw = some (.dK rd)) (hD : H D = some (.dK dd))
    (k : (valV rd (Sum.inr y) = none ∧ Q (.bl false) H) ∨ ∃ (l : Addr) (vs' : List V) (g : Nat), valV rd (Sum.inr y) = some (.ref l) ∧ valV dd (Sum.inr y) = some (.int g) ∧ SqL K H l vs' ∧ Q (.bl (decide (g = vs'.length))) H) : sp_Flow_row_ended K t [.ref f, .str y] H Q Ex := by
  unfold sp_Flow_row_ended
  exact ⟨f, n, E, G, Kp, D, Rw, rd, dd, y, rfl, N, hR, hD, k⟩
@[irreducible] def sp_Flow_deed (K : PySem.W.Frag) (t : Adr) : Sp := fun vs H Q _ => ∃ (f E G Kp D Rw p : Addr) (n : Addr) (rooms : List (Str × Int)) (firsts parts : List (Str × Addr)) (y : Str) (ed gd kd rd dd : List (Key × V)) (i : Nat) (nm : V) (ns : List Int) (xs os : List Str) (hv : Str → V) (kp : Int), vs = [.ref f, .str y] ∧ FlowAt K t H f n E G Kp D Rw ∧ H E = some (.dK ed) ∧ H G = some (.dK gd) ∧ H Kp = some (.dK kd) ∧ H Rw = some (.dK rd) ∧ H D = some (.dK dd) ∧ NetAt K t H n rooms firsts parts ∧ y ∈ parts.map (·.1) ∧ valV (parts.map fun p => ((Sum.inr p.1 : Key), V.ref p.2)) (Sum.inr y) = some (.ref p) ∧ PartAt K t H p i nm (ns.map V.int) (xs.map V.str) (os.map V.str) ∧ i ≤ 1 ∧ ns.length = cN i ∧ xs.length = cI i ∧ os.length = cO i ∧ HeadsOk i (xs.map hv) ∧ (∀ x ∈ xs, ∃ (l : Addr) (vs' : List V) (g : Nat), valV ed (Sum.inr x) = some (.ref l) ∧ valV gd (Sum.inr x) = some (.int g) ∧ SqL K H l vs' ∧ hv x = (vs'[g]?).getD .non) ∧ valV kd (Sum.inr y) = some (.int kp) ∧ 
  ((lackLane i xs (xs.map hv) ≠ .non ∧ ∀ H', Same H H' → Q .non H') ∨
   (lackLane i xs (xs.map hv) = .non ∧ ∃ (l : Addr) (rv : List V), valV rd (Sum.inr y) = some (.ref l) ∧ valV dd (Sum.inr y) = some (.int rv.length) ∧ SqL K H l rv ∧ ∀ H', Same H H' → Q .non H') ∨
   (lackLane i xs (xs.map hv) = .non ∧ ∃ ws : List Int, ws.length = cV i ∧ Bnd ws ∧
     ((valV rd (Sum.inr y) = none ∧ (places i (xs.map hv)).map (fun q => ((xs.map hv)[q]?).getD .non) = ws.map V.int) ∨ ∃ (l : Addr) (rv : List V) (g : Nat) (w : Int), valV rd (Sum.inr y) = some (.ref l) ∧ valV dd (Sum.inr y) = some (.int g) ∧ SqL K H l rv ∧ rv[g]? = some (.int w) ∧ ws = [w]) ∧
     ∀ H' U La Lg rs, Same H H' → H' U = some (.tup [.ref La, .ref Lg, .int (wKept i ws kp)]) → H' La = some (.lst ((places i (xs.map hv)).map (nameAt xs))) → H' Lg = some (.lst (rs.map V.ref)) → Tups H' rs ((wOut i ns ws kp).map fun pv => [nameAt os pv.1.toNat, .int pv.2]) → Q (.ref U) H'))
theorem sc_Flow_deed : FnScope ["self", "name", "part", "heads", "places", "values", "answer", "given"] ["self", "name"] (defScope s_Flow_deed) := ⟨rfl, rfl, rfl, by decide +kernel, rfl, by decide +kernel, by decide +kernel⟩
theorem ok_Flow_deed (T : Txt w K mg t) : FnOk P w K mg base CX0 5 t.f_Flow_deed t.fd_Flow_deed ["self", "name"] (sp_Flow_deed K t) := by
  have sc := sc_Flow_deed
  refine T.F_Flow_deed.ok sc (fun vs H Q E h => ?_) (fun cdv A outer s H vs Q E hr h => ?_)
  · unfold sp_Flow_deed at h
    obtain ⟨f, E, G, Kp, D, Rw, p, n, rooms, firsts, parts, y, ed, gd, kd, rd, dd, i, nm, ns, xs, os, hv, kp, rfl, _⟩ := h
    rfl
  · unfold sp_Flow_deed at h
    obtain ⟨f, E, G, Kp, D, Rw, p, n, rooms, firsts, parts, y, ed, gd, kd, rd, dd, i, nm, ns, xs, os, hv, kp, rfl, N, hE, hG, hKp, hRw, hD, hN, hy, hp, hP, hi, hns, hI, hos, hO, hh, hkp, k⟩ := h
    refine ⟨_, (pss_cons (ps_if (PW.pt (pw_or (pt_cmp (pc_notN (pe_meth (pv 0) T.c_Flow T.me_Flow_lacking (ok_Flow_lacking T) (hr.mono (by decide)) T.b_Flow_lacking .nil pass0 (pa_cons (pv 1) pa_nil star_Name)))) (pw_or1 (pt_val (pe_meth (pv 0) T.c_Flow T.me_Flow_row_ended (ok_Flow_row_ended T) (hr.mono (by decide)) T.b_Flow_row_ended .nil pass0 (pa_cons (pv 1) pa_nil star_Name))))))
        (pss_one (ps_ret pe_non))
        pss_nil)
      (pss_cons (ps_set (i := 2) sc.nd rfl (Or.inr rfl) (pe_meth (pe_fld (pv 0) rfl) T.c_Net T.me_Net_part_of (ok_Net_part_of T) (hr.mono (by decide)) T.b_Net_part_of .nil pass0 (pa_cons (pv 1) pa_nil star_Name)))
      (pss_cons (ps_set (i := 3) sc.nd rfl (Or.inr rfl) (pe_meth (pv 0) T.c_Flow T.me_Flow_heads (ok_Flow_heads T) (hr.mono (by decide)) T.b_Flow_heads .nil pass0 (pa_cons (pv 2) pa_nil star_Name)))
      (pss_cons (ps_set (i := 4) sc.nd rfl (Or.inl rfl) (pe_methD (CX := CX0) (k := 1) (E := E0) (pv 2) (hr.mono (by decide)) pass0 (pa_cons (pv 3) pa_nil star_Name)))
      (pss_cons (ps_comp (i := 5) [3] ["self", "name", "part", "heads", "places", "values", "answer", "given"] (defScope s_Flow_deed) rfl sc.nd rfl (pi_list (pv 4)) (fun _ _ _ _ _ => pf_nil) (fun _ _ _ _ _ => (pe_ix (ix_listK (K := K) rfl) (pv 1) (pv 0) (fun _ _ => rfl))))
      (pss_cons (ps_join (ps_if (pt_cmp (pc_din hr.u1 (pv 1) (pe_fld (pv 0) rfl)))
        (pss_one (ps_set (i := 5) sc.nd rfl (Or.inl rfl) (pe_lst (pa_cons (pe_ix ix_list (pe_dget hr.u1 (pe_fld (pv 0) rfl) (pv 1) (fun _ _ => rfl)) (pe_dget hr.u1 (pe_fld (pv 0) rfl) (pv 1) (fun _ _ => rfl)) (fun _ _ => rfl)) pa_nil star_Subscript))))
        pss_nil))
      (pss_cons (ps_set (i := 6) sc.nd rfl (Or.inl rfl) (pe_methD (CX := CX0) (k := 1) (E := E0) (pv 2) (hr.mono (by decide)) pass0 (pa_cons (pv 5) (pa_cons (pe_dget hr.u1 (pe_fld (pv 0) rfl) (pv 1) (fun _ _ => rfl)) pa_nil star_Subscript) star_Name)))
      (pss_cons (ps_compH (i := 7) ["place", "value"] [2] ["self", "name", "part", "heads", "places", "values", "answer", "given"] (defScope s_Flow_deed) rfl sc.nd rfl (pi_list (pe_ix ix_tup (pv 6) pe_int (fun _ _ => rfl))) (fun _ _ _ _ _ => pg_tupK (K := K) (n := 2) rfl rfl (pgs_cons (pg_name (i := 0) (show (["place", "value", "part"] : List Str).Nodup by decide +kernel) rfl (Or.inl rfl) (.inr rfl)) (pgs_cons (pg_name (i := 1) (show (["place", "value", "part"] : List Str).Nodup by decide +kernel) rfl (Or.inl rfl) (.inr rfl)) pgs_nil))) (fun _ _ _ _ _ => pf_nil) (fun _ _ _ _ _ => (pe_tup (pa_cons (pe_ix (ix_tupK (K := K) rfl) (pe_fldK (K := K) rfl (pv 2) rfl) (pv 0) (fun _ _ => rfl)) (pa_cons (pv 1) pa_nil star_Name) star_Subscript))))
      (pss_one (ps_ret (pe_tup (pa_cons (pe_comp [2] ["self", "name", "part", "heads", "places", "values", "answer", "given"] (defScope s_Flow_deed) rfl (pi_list (pv 4)) (fun _ _ _ _ _ => pf_nil) (fun _ _ _ _ _ => (pe_ix (ix_tupK (K := K) rfl) (pe_fldK (K := K) rfl (pv 1) rfl) (pv 0) (fun _ _ => rfl)))) (pa_cons (pv 7) (pa_cons (pe_ix ix_tup (pv 6) pe_int (fun _ _ => rfl)) pa_nil star_Subscript) star_Name) star_ListComp)))))))))))), ?_⟩
    obtain ⟨dx, fs, h1, h2⟩ := id N.ex
    obtain ⟨dxn, fsn, R, F, Pd, Gn, Tk, n1, n2, n3, n4, n5⟩ := id hN.ex
    obtain ⟨dxp, tn, ti, to, p1, p2, p3, p4⟩ := id hP.ex
    have hh1 : ∀ {H' : Hp}, Same H H' → (∀ x ∈ xs, ∃ (l : Addr) (vs' : List V) (g : Nat), valV ed (Sum.inr x) = some (.ref l) ∧ valV gd (Sum.inr x) = some (.int g) ∧ SqL K H' l vs' ∧ hv x = (vs'[g]?).getD .non) := fun s x hx => by
      obtain ⟨l, vs', g, g1, g2, g3, g4⟩ := hh x hx
      exact ⟨l, vs', g, g1, g2, s.seq g3, g4⟩
    refine ⟨_, rfl, f, dx, fs, rfl, h1, h2.no _ (by decide +kernel), _, rfl, f, E, G, Kp, D, Rw, p, n, rooms, firsts, parts, y, ed, gd, i, nm, _, _, xs, hv, rfl, N, hE, hG, hN, hy, hp, hP, hI, hi, hO, hh, fun H1 s1 => ?_⟩
    rcases k with ⟨k1, k⟩ | ⟨k1, l, rv, k2, k3, k4, k⟩ | ⟨k1, ws, k2, k3, k4, k⟩
    · have e : (!decide (lackLane i xs (xs.map hv) = V.non)) = true := by simp [k1]
      refine ⟨_, rfl, ?_⟩
      rw [e]
      exact iteT (iteT (k H1 s1))
    · rw [k1]
      have pick : ∀ (Q' : VK) (E' : XK), Q' (.bl true) H1 → sp_Flow_row_ended K t [.ref f, .str y] H1 Q' E' := by
        intro Q' E' z
        exact re_of (N.same s1) (s1 _ _ hRw) (s1 _ _ hD) (.inr ⟨l, rv, rv.length, k2, k3, s1.seq k4, by rw [decide_eq_true rfl]; exact z⟩)
      refine ⟨_, rfl, iteF ⟨_, rfl, f, dx, fs, rfl, s1 _ _ h1, h2.no _ (by decide +kernel), _, rfl, ?_⟩⟩
      refine pick _ _ ?_
      exact ⟨_, rfl, iteT (k H1 s1)⟩
    · rw [k1]
      have pick : ∀ (Q' : VK) (E' : XK), Q' (.bl false) H1 → sp_Flow_row_ended K t [.ref f, .str y] H1 Q' E' := by
        intro Q' E' z
        refine re_of (N.same s1) (s1 _ _ hRw) (s1 _ _ hD) ?_
        rcases k4 with ⟨k4, _⟩ | ⟨l, rv, g, w, a1, a2, a3, a4, _⟩
        · exact .inl ⟨k4, z⟩
        · refine .inr ⟨l, rv, g, a1, a2, s1.seq a3, ?_⟩
          have := (List.getElem?_eq_some_iff.mp a4).1
          rw [decide_eq_false (by omega)]
          exact z
      refine ⟨_, rfl, iteF ⟨_, rfl, f, dx, fs, rfl, s1 _ _ h1, h2.no _ (by decide +kernel), _, rfl, ?_⟩⟩
      refine pick _ _ ?_
      refine ⟨_, rfl, iteF ?_⟩
      refine ⟨_, rfl, f, _, dx, fs, _, rfl, s1 _ _ h1, T.c_Flow, T.na_Flow_net, h2.has ("net", .ref n) (by simp), n, dxn, fsn, rfl, s1 _ _ n1, n2.no _ (by decide +kernel), _, rfl, n, rooms, firsts, parts, y, p, rfl, hN.same s1, hy, hp, fun H2 s2' => ?_⟩
      have s2 := s1.trans s2'
      clear pick s2'
      refine ⟨_, rfl, f, dx, fs, rfl, s2 _ _ h1, h2.no _ (by decide +kernel), _, rfl, f, n, E, G, Kp, D, Rw, p, ed, gd, i, nm, _, _, xs, hv, rfl, N.same s2, s2 _ _ hE, s2 _ _ hG, hP.same s2, (by have := cI_le i; omega), hh1 s2, fun d hd => ?_⟩
      have s3 := s2.trans (same_new (o := .lst (xs.map hv)) hd)
      have ed3 : (upd H2 d (.lst (xs.map hv))) d = some (.lst (xs.map hv)) := upd_same
      generalize upd H2 d (.lst (xs.map hv)) = H3 at s3 ed3 ⊢
      refine ⟨_, rfl, p, cls t i, dxp, _, sp_taking K t i, rfl, s3 _ _ p1, flds_no _ _ _ _ (by decide +kernel) (by decide +kernel) (by decide +kernel) (by decide +kernel), taking_ok T hi, _, rfl, p, d, nm, _, _, _, xs.map hv, rfl, hP.same s3, by simp [hI], SqL.of ed3, hO, fun H4 L s4' nL eL => ?_⟩
      have s4 := s3.trans s4'
      have ed4 := s4' _ _ ed3
      have hz : sizeLine = 16777216 := sizeLine_eq
      have hpl : (places i (xs.map hv)).length ≤ 3 := places_len hO
      refine ⟨_, rfl, L, rfl, ⟨_, SqL.of eL⟩, comp_list (K := K) (a := L) (xs := (places i (xs.map hv)).map nV) (fun j ys H' => H' = H4 ∧ ys = ((places i (xs.map hv)).take j).map (fun q => ((xs.map hv)[q]?).getD .non)) (by simp; omega) ⟨rfl, rfl⟩ (fun j ys H' ⟨_, e⟩ => by rw [e]; simp; omega) (fun j ys H' _ ⟨e, _⟩ => by rw [e]; exact SqL.of eL) ?_ ?_⟩
      · rintro j v ys H' hv' ⟨rfl, rfl⟩
        rw [List.getElem?_map] at hv'
        obtain ⟨q, hq, rfl⟩ := Option.map_eq_some_iff.mp hv'
        have hql : q < (xs.map hv).length := places_lt hO q (List.mem_of_getElem? hq)
        refine yes ⟨_, rfl, _, rfl, d, xs.map hv, q, _, rfl, rfl, SqL.of ed4, atI_nat (j := q) (List.getElem?_eq_getElem hql), rfl, ?_⟩
        rw [List.take_succ, hq, Option.toList_some, List.map_append, List.map_cons, List.map_nil, List.getElem?_eq_getElem hql]
        rfl
      rintro ys H' ⟨rfl, rfl⟩ V1 hV1
      have e0 : (places i (xs.map hv)).take ((places i (xs.map hv)).map nV).length = places i (xs.map hv) := by rw [List.length_map, List.take_length]
      rw [e0] at *
      have s5' := same_new (o := .lst ((places i (xs.map hv)).map fun q => ((xs.map hv)[q]?).getD .non)) hV1
      have s5 := s4.trans s5'
      have eV : (upd H' V1 (.lst ((places i (xs.map hv)).map fun q => ((xs.map hv)[q]?).getD .non))) V1 = some (.lst ((places i (xs.map hv)).map fun q => ((xs.map hv)[q]?).getD .non)) := upd_same
      generalize upd H' V1 (.lst ((places i (xs.map hv)).map fun q => ((xs.map hv)[q]?).getD .non)) = H5 at s5' s5 eV ⊢
      refine ⟨fun σ' H6 => ∃ V2, Same H H6 ∧ Same H' H6 ∧ σ' = [some (.ref f), some (.str y), some (.ref p), some (.ref d), some (.ref L), some (.ref V2), none, none] ∧ H6 V2 = some (.lst (ws.map V.int)), ?_, ?_⟩
      · refine ⟨_, rfl, _, rfl, f, _, dx, fs, _, rfl, s5 _ _ h1, T.c_Flow, T.na_Flow_rows, h2.has ("rows", .ref Rw) (by simp), Rw, _, rfl, DGet.k (k := Sum.inr y) (s5 _ _ hRw), ?_⟩
        rcases k4 with ⟨k4, k5⟩ | ⟨l, rv, g, w, a1, a2, a3, a4, rfl⟩
        · rw [k4]
          exact ⟨_, rfl, iteF ⟨V1, s5, s5', rfl, by rw [← k5]; exact eV⟩⟩
        · rw [a1]
          refine ⟨_, rfl, iteT ?_⟩
          refine ⟨_, rfl, f, _, dx, fs, _, rfl, s5 _ _ h1, T.c_Flow, T.na_Flow_rows, h2.has ("rows", .ref Rw) (by simp), _, rfl, Rw, _, rfl, (by rw [← a1]; exact DGet.k (k := Sum.inr y) (s5 _ _ hRw)), ?_⟩
          refine ⟨_, rfl, f, _, dx, fs, _, rfl, s5 _ _ h1, T.c_Flow, T.na_Flow_done, h2.has ("done", .ref D) (by simp), _, rfl, D, _, rfl, (by rw [← a2]; exact DGet.k (k := Sum.inr y) (s5 _ _ hD)), ?_⟩
          refine ⟨l, rv, g, _, rfl, rfl, s5.seq a3, atI_nat (j := g) a4, by show 1 ≤ sizeLine; omega, fun V2 hV2 => ?_⟩
          exact ⟨V2, s5.trans (same_new hV2), s5'.trans (same_new hV2), rfl, upd_same⟩
      · rintro σ' H6 ⟨V2, s6, s6', rfl, eV2⟩
        refine ⟨_, rfl, p, cls t i, dxp, _, sp_worked K t i, rfl, s6 _ _ p1, flds_no _ _ _ _ (by decide +kernel) (by decide +kernel) (by decide +kernel) (by decide +kernel), worked_ok T hi, _, rfl, _, rfl, f, _, dx, fs, _, rfl, s6 _ _ h1, T.c_Flow, T.na_Flow_kept, h2.has ("kept", .ref Kp) (by simp), _, rfl, Kp, _, rfl, (by rw [← hkp]; exact DGet.k (k := Sum.inr y) (s6 _ _ hKp)), ?_⟩
        refine ⟨p, V2, nm, ns, _, _, ws, kp, rfl, hP.same s6, hns, SqL.of eV2, k2, k3, fun H7 U0 L0 rs s7 nL0 eU0 eL0 tU => ?_⟩
        have s7h := s6.trans s7
        have hwl := wOut_lt hi ns ws kp
        have hlr : rs.length = (wOut i ns ws kp).length := by have := Paired.length tU; unfold pvs at this; rw [List.length_map] at this; exact this
        have hw2 : (wOut i ns ws kp).length ≤ 2 := wOut_len i ns ws kp
        refine ⟨_, rfl, U0, _, 0, _, rfl, rfl, SqT.of eU0, atI_nat (j := 0) rfl, L0, rfl, ⟨_, SqL.of eL0⟩, ?_⟩
        refine comp_listH (K := K) (a := L0) (xs := rs.map V.ref) (fun j ys H8 => Same H7 H8 ∧ ∃ qs : List Addr, ys = qs.map V.ref ∧ Tups H8 qs (((wOut i ns ws kp).take j).map fun pv => [nameAt os pv.1.toNat, .int pv.2])) (by simp; omega) ⟨fun _ _ e => e, [], rfl, .nil⟩ ?_ (fun j ys H8 _ ⟨e, _⟩ => e.seq (SqL.of eL0)) ?_ ?_
        · rintro j ys H8 ⟨_, qs, rfl, tq⟩
          have := Paired.length tq
          rw [List.length_map, List.length_take] at this
          rw [List.length_map]
          omega
        · rintro j v ys H8 hj ⟨s8, qs, rfl, tq⟩
          rw [List.getElem?_map] at hj
          obtain ⟨r, hr', rfl⟩ := Option.map_eq_some_iff.mp hj
          have hjl : j < (wOut i ns ws kp).length := by have := (List.getElem?_eq_some_iff.mp hr').1; omega
          have hr2 : H7 r = some (.tup [.int ((wOut i ns ws kp)[j]).1, .int ((wOut i ns ws kp)[j]).2]) := by
            obtain ⟨vs2, z1, z2⟩ := tups_get tU hr'
            unfold pvs at z1
            rw [List.getElem?_map, List.getElem?_eq_getElem hjl] at z1
            cases z1
            exact z2
          obtain ⟨q, hq1, hq2⟩ := hwl _ (List.getElem_mem hjl)
          refine ⟨r, _, rfl, SqT.of (s8 _ _ hr2), rfl, _, _, rfl, _, _, rfl, rfl, rfl, ?_⟩
          have p1' := s8 _ _ (s7h _ _ p1)
          have hq3 : q < os.length := by omega
          have hn : nameAt os q = V.str os[q] := by unfold nameAt; rw [List.getElem?_eq_getElem hq3]; rfl
          refine yes ⟨_, rfl, p, _, dxp, _, _, rfl, p1', cls_ok T i, na_outs T i, flds_outs _ _ _ _, _, rfl, to, os.map V.str, _, nameAt os q, rfl, rfl, s8.seqT (s7h.seqT p4), ?_, _, rfl, by show 2 ≤ sizeLine; omega, fun u hu => ⟨s8.trans (same_new hu), qs ++ [u], by simp, ?_⟩⟩
          · rw [hq1, hn]
            exact atI_nat (j := q) (by rw [List.getElem?_map, List.getElem?_eq_getElem hq3]; rfl)
          · rw [List.take_succ, List.getElem?_eq_getElem hjl, Option.toList_some, List.map_append]
            refine (Tups.same (same_new hu) tq).append (.cons ?_ .nil)
            show upd H8 u _ u = some (HO.tup [nameAt os ((wOut i ns ws kp)[j]).1.toNat, V.int ((wOut i ns ws kp)[j]).2])
            rw [hq1, Int.toNat_natCast]
            exact upd_same
        · rintro ys H8 ⟨s8, qs, rfl, tq⟩ Lg hLg
          rw [List.length_map, hlr, List.take_length] at tq
          have s9' := s8.trans (same_new (o := .lst (qs.map V.ref)) hLg)
          have tq9 := Tups.same (same_new (o := .lst (qs.map V.ref)) hLg) tq
          have eLg : (upd H8 Lg (.lst (qs.map V.ref))) Lg = some (.lst (qs.map V.ref)) := upd_same
          generalize upd H8 Lg (.lst (qs.map V.ref)) = H9 at s9' tq9 eLg ⊢
          have s9 := s7h.trans s9'
          have eL9 := s9' _ _ (s7 _ _ (s6' _ _ eL))
          have eU9 := s9' _ _ eU0
          refine ⟨_, rfl, L, rfl, ⟨_, SqL.of eL9⟩, comp_list (K := K) (a := L) (xs := (places i (xs.map hv)).map nV) (fun j ys H' => H' = H9 ∧ ys = ((places i (xs.map hv)).take j).map (nameAt xs)) (by simp; omega) ⟨rfl, rfl⟩ (fun j ys H' ⟨_, e⟩ => by rw [e]; simp; omega) (fun j ys H' _ ⟨e, _⟩ => by rw [e]; exact SqL.of eL9) ?_ ?_⟩
          · rintro j v ys H' hv' ⟨rfl, rfl⟩
            rw [List.getElem?_map] at hv'
            obtain ⟨q, hq, rfl⟩ := Option.map_eq_some_iff.mp hv'
            have hql : q < xs.length := by have := places_lt hO q (List.mem_of_getElem? hq); simpa using this
            have hn : nameAt xs q = V.str xs[q] := by unfold nameAt; rw [List.getElem?_eq_getElem hql]; rfl
            refine yes ⟨_, rfl, p, _, dxp, _, _, rfl, s9 _ _ p1, cls_ok T i, na_ins T i, flds_ins _ _ _ _, _, rfl, ti, xs.map V.str, q, nameAt xs q, rfl, rfl, s9.seqT p3, by rw [hn]; exact atI_nat (j := q) (by rw [List.getElem?_map, List.getElem?_eq_getElem hql]; rfl), rfl, ?_⟩
            rw [List.take_succ, hq, Option.toList_some, List.map_append]
            rfl
          · rintro ys H10 ⟨rfl, rfl⟩ La hLa
            have e1 : (places i (xs.map hv)).take ((places i (xs.map hv)).map nV).length = places i (xs.map hv) := by rw [List.length_map, List.take_length]
            rw [e1]
            have s10' := same_new (o := .lst ((places i (xs.map hv)).map (nameAt xs))) hLa
            refine ⟨_, rfl, _, rfl, U0, _, 1, _, rfl, rfl, SqT.of (s10' _ _ eU9), atI_nat (j := 1) rfl, by show 3 ≤ sizeLine; omega, fun U hU => ?_⟩
            exact k _ U La Lg qs ((s9.trans s10').trans (same_new hU)) upd_same (same_new hU _ _ upd_same) (same_new hU _ _ (s10' _ _ eLg)) (Tups.same (s10'.trans (same_new hU)) tq9)
@[irreducible] def sp_Flow_do (K : PySem.W.Frag) (t : Adr) : Sp := fun vs H Q _ => ∃ (f n E G Kp D Rw le U La Lg : Addr) (kd dd : List (Key × V)) (y : Str) (g d0 kp : Int) (k : Nat) (rs : List Addr) (ws : List Int) (es : List V), vs = [.ref f, .str y, .ref U] ∧ FlowAt K t H f n E G Kp D Rw ∧ H E = some (.dK (kb (.ref le))) ∧ H G = some (.dK (kb (.int g))) ∧ H Kp = some (.dK kd) ∧ kd.length ≤ 16 ∧ H D = some (.dK dd) ∧ dd.length ≤ 16 ∧ valV dd (Sum.inr y) = some (.int d0) ∧ H U = some (.tup [.ref La, .ref Lg, .int kp]) ∧ H La = some (.lst (List.replicate k (.str "b"))) ∧ H Lg = some (.lst (rs.map V.ref)) ∧ Tups H rs (ws.map fun v => [V.str "b", .int v]) ∧ H le = some (.lst es) ∧ es.length ≤ 1000 ∧ ws.length ≤ 2 ∧ E ≠ G ∧ Kp ≠ G ∧ D ≠ G ∧ D ≠ Kp ∧ le ≠ Lg ∧
  Q .non (upd (upd (upd (upd H G (.dK (kb (.int (g + k))))) le (.lst (es ++ ws.map V.int))) Kp (.dK (putK kd (Sum.inr y) (.int kp)))) D (.dK (putK dd (Sum.inr y) (.int (d0 + 1)))))
theorem sc_Flow_do : FnScope ["self", "name", "deed", "lane", "value"] ["self", "name", "deed"] (defScope s_Flow_do) := ⟨rfl, rfl, rfl, by decide +kernel, rfl, by decide +kernel, by decide +kernel⟩
theorem ok_Flow_do (T : Txt w K mg t) : FnOk P w K mg base CX0 1 t.f_Flow_do t.fd_Flow_do ["self", "name", "deed"] (sp_Flow_do K t) := by
  have sc := sc_Flow_do
  refine T.F_Flow_do.ok sc (fun vs H Q E h => ?_) (fun cdv A outer s H vs Q E hr h => ?_)
  · unfold sp_Flow_do at h
    obtain ⟨f, n, E, G, Kp, D, Rw, le, U, La, Lg, kd, dd, y, g, d0, kp, k, rs, ws, es, rfl, _⟩ := h
    rfl
  · unfold sp_Flow_do at h
    obtain ⟨f, n, E, G, Kp, D, Rw, le, U, La, Lg, kd, dd, y, g, d0, kp, m, rs, ws, es, rfl, N, hE, hG, hKp, lk, hD, ld, hd0, hU, hLa, hLg, hT, hle, hes, hws, d1, d2, d3, d4, d6, k⟩ := h
    refine ⟨_, (pss_cons (ps_for PassesOwn.never rfl (pi_list (pe_ix ix_tup (pv 2) pe_int (fun _ _ => rfl))) (pg_name (i := 3) sc.nd rfl (Or.inl rfl))
        (pss_one (ps_daug hr.u1 (pe_fld (pv 0) rfl) (pv 3) pe_int iop_add (fun _ _ _ => rfl))))
      (pss_cons (ps_for PassesOwn.never rfl (pi_list (pe_ix ix_tup (pv 2) pe_int (fun _ _ => rfl))) (pg_tup rfl (pgs_cons (pg_name (i := 3) sc.nd rfl (Or.inl rfl)) (pgs_cons (pg_name (i := 4) sc.nd rfl (Or.inl rfl)) pgs_nil)))
        (pss_one (ps_expr (pe_bm PySem.F.plainAttrs_list PySem.F.slot_list_append PySem.F.type_list_append mt_append (pe_dget hr.u1 (pe_fld (pv 0) rfl) (pv 3) (fun _ _ => rfl)) (pa_cons (pv 4) pa_nil star_Name)))))
      (pss_cons (ps_dput hr.u1 (pe_fld (pv 0) rfl) (pv 1) (pe_ix ix_tup (pv 2) pe_int (fun _ _ => rfl)) rfl)
      (pss_one (ps_daug hr.u1 (pe_fld (pv 0) rfl) (pv 1) pe_int iop_add (fun _ _ _ => rfl)))))), ?_⟩
    have hl : sizeLine = 16777216 := sizeLine_eq
    obtain ⟨dx, fs, h1, h2⟩ := id N.ex
    have nd : ∀ {b : Addr} {u : HO}, H b = some u → (∀ ks, u ≠ .dK ks) → ∀ v, upd H G v b = some u := fun h hu v => chill_get hG h hu
    refine ⟨_, rfl, U, _, 0, _, rfl, rfl, SqT.of hU, atI_nat (j := 0) rfl, La, rfl, ⟨_, SqL.of hLa⟩, for_list (K := K) (a := La) (xs := List.replicate m (.str "b")) (fun j σ H' => H' = upd H G (.dK (kb (.int (g + j)))) ∧ ∃ v3, σ = [some (.ref f), some (.str y), some (.ref U), v3, none]) ⟨by rw [show g + ((0 : Nat) : Int) = g by omega, upd_id hG], none, rfl⟩ ?_ ?_ ?_⟩
    · rintro j σ H' _ ⟨rfl, _⟩
      exact SqL.of (nd hLa (by intro _ z; cases z) _)
    · rintro j x σ H' hx ⟨rfl, v3, rfl⟩
      have hx' : x = .str "b" := List.eq_of_mem_replicate (List.mem_of_getElem? hx)
      subst hx'
      refine ⟨_, rfl, f, _, dx, fs, _, rfl, nd h1 (by intro _ z; cases z) _, T.c_Flow, T.na_Flow_gone, h2.has ("gone", .ref G) (by simp), _, rfl, G, .int (g + j), rfl, getb upd_same, _, _, rfl, rfl, _, putb upd_same, ?_, some (.str "b"), rfl⟩
      rw [upd_upd]
      show upd H G (.dK (kb (.int (g + (j : Int) + 1)))) = _
      rw [show g + (j : Int) + 1 = g + ((j + 1 : Nat) : Int) by omega]
    rintro σ H' ⟨rfl, v3, rfl⟩
    rw [List.length_replicate]
    have f1 := nd h1 (by intro _ z; cases z) (.dK (kb (.int (g + m))))
    have f2 := nd hU (by intro _ z; cases z) (.dK (kb (.int (g + m))))
    have f3 := nd hLg (by intro _ z; cases z) (.dK (kb (.int (g + m))))
    have f4 := nd hle (by intro _ z; cases z) (.dK (kb (.int (g + m))))
    have f5 : upd H G (.dK (kb (.int (g + m)))) E = some (.dK (kb (.ref le))) := by rw [upd_ne d1]; exact hE
    have f6 : upd H G (.dK (kb (.int (g + m)))) Kp = some (.dK kd) := by rw [upd_ne d2]; exact hKp
    have f7 : upd H G (.dK (kb (.int (g + m)))) D = some (.dK dd) := by rw [upd_ne d3]; exact hD
    have f8 : ∀ {j : Nat} {r : Addr}, rs[j]? = some r → ∃ w, ws[j]? = some w ∧ upd H G (.dK (kb (.int (g + m)))) r = some (.tup [.str "b", .int w]) := fun hr' => by
      obtain ⟨vs2, z1, z2⟩ := tups_get hT hr'
      rw [List.getElem?_map] at z1
      obtain ⟨w, e1, rfl⟩ := Option.map_eq_some_iff.mp z1
      exact ⟨w, e1, nd z2 (by intro _ z; cases z) _⟩
    have hlr : rs.length = ws.length := by have := Paired.length hT; rw [List.length_map] at this; exact this
    generalize upd H G (.dK (kb (.int (g + m)))) = H1 at f1 f2 f3 f4 f5 f6 f7 f8 k ⊢
    refine ⟨_, rfl, U, _, 1, _, rfl, rfl, SqT.of f2, atI_nat (j := 1) rfl, Lg, rfl, ⟨_, SqL.of f3⟩, for_list (K := K) (a := Lg) (xs := rs.map V.ref) (fun j σ H' => H' = upd H1 le (.lst (es ++ (ws.take j).map V.int)) ∧ ∃ v3 v4, σ = [some (.ref f), some (.str y), some (.ref U), v3, v4]) ⟨by simp [upd_id f4], v3, none, rfl⟩ ?_ ?_ ?_⟩
    · rintro j σ H' _ ⟨rfl, _⟩
      exact SqL.of (by rw [upd_ne (Ne.symm d6)]; exact f3)
    · rintro j x σ H' hx ⟨rfl, v3, v4, rfl⟩
      rw [List.getElem?_map] at hx
      obtain ⟨r, hr', rfl⟩ := Option.map_eq_some_iff.mp hx
      obtain ⟨w, ew, er⟩ := f8 hr'
      have er' : upd H1 le (.lst (es ++ (ws.take j).map V.int)) r = some (.tup [.str "b", .int w]) := by rw [upd_ne (ne_of er f4 (by intro z; cases z))]; exact er
      have fe : upd H1 le (.lst (es ++ (ws.take j).map V.int)) f = some (.ins t.C_Flow dx fs) := by rw [upd_ne (ne_of f1 f4 (by intro z; cases z))]; exact f1
      have ee : upd H1 le (.lst (es ++ (ws.take j).map V.int)) E = some (.dK (kb (.ref le))) := by rw [upd_ne (ne_of f5 f4 (by intro z; cases z))]; exact f5
      refine ⟨r, _, rfl, SqT.of er', rfl, _, _, rfl, _, _, rfl, rfl, ?_⟩
      refine ⟨_, rfl, f, _, dx, fs, _, rfl, fe, T.c_Flow, T.na_Flow_ever, h2.has ("ever", .ref E) (by simp), _, rfl, E, _, rfl, getb ee, .inl ⟨rfl, _, SqL.of upd_same⟩, ?_⟩
      refine ⟨_, rfl, le, _, .int w, rfl, rfl, upd_same, ?_, ?_, some (.str "b"), some (.int w), rfl⟩
      · simp
        omega
      · rw [upd_upd, List.take_succ, ew, List.append_assoc]
        simp
    rintro σ H' ⟨rfl, v5, v6, rfl⟩
    rw [List.length_map, hlr, List.take_length]
    have g1 : upd H1 le (.lst (es ++ ws.map V.int)) f = some (.ins t.C_Flow dx fs) := by rw [upd_ne (ne_of f1 f4 (by intro z; cases z))]; exact f1
    have g2 : upd H1 le (.lst (es ++ ws.map V.int)) U = some (.tup [.ref La, .ref Lg, .int kp]) := by rw [upd_ne (ne_of f2 f4 (by intro z; cases z))]; exact f2
    have g6 : upd H1 le (.lst (es ++ ws.map V.int)) Kp = some (.dK kd) := by rw [upd_ne (ne_of f6 f4 (by intro z; cases z))]; exact f6
    have g7 : upd H1 le (.lst (es ++ ws.map V.int)) D = some (.dK dd) := by rw [upd_ne (ne_of f7 f4 (by intro z; cases z))]; exact f7
    refine ⟨_, rfl, U, _, 2, _, rfl, rfl, SqT.of g2, atI_nat (j := 2) rfl, _, rfl, f, _, dx, fs, _, rfl, g1, T.c_Flow, T.na_Flow_kept, h2.has ("kept", .ref Kp) (by simp), _, rfl, Kp, _, rfl, DPut.k (k := Sum.inr y) g6 (by omega), ?_⟩
    have i1 := chill_get (v := .dK (putK kd (Sum.inr y) (.int kp))) g6 g1 (by intro _ z; cases z)
    have i7 : upd (upd H1 le (.lst (es ++ ws.map V.int))) Kp (.dK (putK kd (Sum.inr y) (.int kp))) D = some (.dK dd) := by rw [upd_ne d4]; exact g7
    exact ⟨_, rfl, f, _, dx, fs, _, rfl, i1, T.c_Flow, T.na_Flow_done, h2.has ("done", .ref D) (by simp), _, rfl, D, .int d0, rfl, (by rw [← hd0]; exact DGet.k (k := Sum.inr y) i7), _, _, rfl, rfl, _, DPut.k (k := Sum.inr y) i7 (by omega), k⟩
def sp_Run_full_lane (K : PySem.W.Frag) (t : Adr) : Sp := fun vs H Q _ => ∃ (A : Pl) (room : Int) (row : List Int) (many gv tk turns : Nat) (U : Addr) (k : Nat) (ws : List Int), vs = [.ref A.r, .ref U] ∧ StAt K t H A room row many gv tk turns ∧ DeedAt H U k ws ∧ ws.length ≤ 1 ∧ ((ws = [] ∨ (gv : Int) - tk < room) ∧ (∀ H', Same H H' → Q .non H') ∨ (ws ≠ [] ∧ room ≤ (gv : Int) - tk) ∧ ∀ H', Same H H' → Q (.str "b") H')
theorem sc_Run_full_lane : FnScope ["self", "deed", "lane", "value"] ["self", "deed"] (defScope s_Run_full_lane) := ⟨rfl, rfl, rfl, by decide +kernel, rfl, by decide +kernel, by decide +kernel⟩
theorem ok_Run_full_lane (T : Txt w K mg t) : FnOk P w K mg base CX0 4 t.f_Run_full_lane t.fd_Run_full_lane ["self", "deed"] (sp_Run_full_lane K t) := by
  have sc := sc_Run_full_lane
  refine T.F_Run_full_lane.ok sc (fun vs H Q E h => ?_) (fun cdv A outer s H vs Q E hr h => ?_)
  · obtain ⟨A, room, row, many, gv, tk, turns, U, k, ws, rfl, _⟩ := h
    rfl
  · obtain ⟨A, room, row, many, gv, tk, turns, U, k, ws, rfl, S, hU, hw, kk⟩ := h
    refine ⟨_, (pss_cons (ps_for PassesOwn.never rfl (pi_list (pe_ix ix_tup (pv 1) pe_int (fun _ _ => rfl))) (pg_tup rfl (pgs_cons (pg_name (i := 2) sc.nd rfl (Or.inl rfl)) (pgs_cons (pg_name (i := 3) sc.nd rfl (Or.inl rfl)) pgs_nil)))
        (pss_one (ps_if (pt_cmpR op_ge (pe_meth (pe_fld (pv 0) rfl) T.c_Flow T.me_Flow_holds (ok_Flow_holds T) (hr.mono (by decide)) T.b_Flow_holds .nil pass0 (pa_cons (pv 2) pa_nil star_Name)) (pe_meth (pe_fld (pv 0) rfl) T.c_Net T.me_Net_room_of (ok_Net_room_of T) (hr.mono (by decide)) T.b_Net_room_of .nil pass0 (pa_cons (pv 2) pa_nil star_Name)) (nomark _))
          (pss_one (ps_ret (pv 2)))
          pss_nil)))
      (pss_one (ps_ret pe_non))), ?_⟩
    have hl : sizeLine = 16777216 := sizeLine_eq
    obtain ⟨dx, fs, r1, r2, r3⟩ := S.run
    obtain ⟨dxf, fsf, f1, f2⟩ := S.flow.ex
    obtain ⟨dxn, fsn, R, F, Pd, Gv, Tk, n1, n2, n3, n4, n5, n6⟩ := S.net
    obtain ⟨b1, b2, b3, b4, b5, b6, b7, b8⟩ := S.nb
    
    obtain ⟨La, Lg, rs, u1, u2, u3, u4⟩ := id hU
    have hlr : rs.length = ws.length := by have := Paired.length u4; rw [List.length_map] at this; exact this
    refine ⟨_, rfl, U, _, 1, _, rfl, rfl, SqT.of u1, atI_nat (j := 1) rfl, Lg, rfl, ⟨_, SqL.of u3⟩, for_list (K := K) (a := Lg) (xs := rs.map V.ref) (fun j σ H' => Same H H' ∧ (0 < j → (gv : Int) - tk < room) ∧ ∃ v2 v3, σ = [some (.ref A.r), some (.ref U), v2, v3]) ⟨Same.refl _, by omega, none, none, rfl⟩ (fun j σ H' _ ⟨s, _⟩ => s.seq (SqL.of u3)) ?_ ?_⟩
    · rintro j x σ H1 hx ⟨s1, hj, v2, v3, rfl⟩
      rw [List.getElem?_map] at hx
      obtain ⟨q, hq, rfl⟩ := Option.map_eq_some_iff.mp hx
      obtain ⟨vs2, z1, z2⟩ := tups_get u4 hq
      rw [List.getElem?_map] at z1
      obtain ⟨w, e1, rfl⟩ := Option.map_eq_some_iff.mp z1
      refine ⟨q, _, rfl, SqT.of (s1 _ _ z2), rfl, _, _, rfl, _, _, rfl, rfl, ?_⟩
      refine ⟨_, rfl, A.r, _, dx, fs, _, rfl, s1 _ _ r1, T.c_Run, T.na_Run_flow, r3.has ("flow", .ref A.f) (by simp), A.f, dxf, fsf, rfl, s1 _ _ f1, f2.no _ (by decide +kernel), _, rfl, A.f, A.n, A.E, A.G, A.Kp, A.D, A.Rw, A.le, _, _, "b", _, tk, rfl, S.flow.same s1, s1 _ _ S.ever, s1 _ _ S.gone, val_kb _, val_kb _, SqL.of (s1 _ _ S.le), ?_⟩
      refine ⟨_, rfl, A.r, _, dx, fs, _, rfl, s1 _ _ r1, T.c_Run, T.na_Run_net, r3.has ("net", .ref A.n) (by simp), A.n, dxn, fsn, rfl, s1 _ _ n1, n2.no _ (by decide +kernel), _, rfl, A.n, _, _, _, "b", room, rfl, S.netAt.same s1, by simp, val_kb _, fun H2 s2 => ?_⟩
      have el : ((List.map V.int (List.take gv row)).length : Int) = gv := by rw [List.length_map, List.length_take]; omega
      refine ⟨_, _, rfl, rfl, _, rfl, ite2 (fun h => ?_) (fun h => ?_)⟩
      · have h' : room ≤ (gv : Int) - tk := by have := of_decide_eq_true h; rw [el] at this; exact this
        rcases kk with ⟨h1 | h1, _⟩ | ⟨_, k⟩
        · rw [h1] at e1; cases e1
        · omega
        · exact ⟨_, rfl, k _ (s1.trans s2)⟩
      · have h' : ¬ room ≤ (gv : Int) - tk := fun z => h (decide_eq_true (by rw [el]; exact z))
        exact ⟨s1.trans s2, fun _ => by omega, _, _, rfl⟩
    · rintro σ H1 ⟨s1, hj, v2, v3, rfl⟩
      rcases kk with ⟨_, k⟩ | ⟨⟨hne, hge⟩, _⟩
      · exact k _ s1
      · exfalso
        have : 0 < (rs.map V.ref).length := by rw [List.length_map, hlr]; exact List.length_pos_iff.mpr hne
        have := hj this
        omega

theorem deed_c {H : Hp} {A : Pl} {room : Int} {row : List Int} {many gv tk turns : Nat} {Q : VK} {E : XK} (S : StAt K t H A room row many gv tk turns) (k : (¬ tk < gv ∧ ∀ H', Same H H' → Q .non H') ∨ tk < gv ∧ ∀ H' U, Same H H' → DeedAt H' U 1 [] → Q (.ref U) H') : sp_Flow_deed K t [.ref A.f, .str "c"] H Q E := by
  unfold sp_Flow_deed
  obtain ⟨b1, b2, b3, b4, b5, b6, b7, b8⟩ := S.nb
  have hq : tk < gv → ((row.take gv).map V.int)[tk]? = some (.int (row.getD tk 0)) := fun h => by
    rw [List.getElem?_map, List.getElem?_take_of_lt h, List.getD_eq_getElem?_getD, List.getElem?_eq_getElem (by omega)]
    rfl
  have hn : ¬ tk < gv → ((row.take gv).map V.int)[tk]? = none := fun h => List.getElem?_eq_none (by rw [List.length_map, List.length_take]; omega)
  refine ⟨A.f, A.E, A.G, A.Kp, A.D, A.Rw, A.pc, A.n, _, _, _, "c", _, _, _, _, _, 1, _, [], ["b"], [], fun _ => (((row.take gv).map V.int)[tk]?).getD .non, 0, rfl, S.flow, S.ever, S.gone, S.kept, S.rows, S.done, S.netAt, by simp, val_c _ _, S.cP, by decide, rfl, rfl, rfl, ⟨rfl, ?_⟩, ?_, val_c _ _, ?_⟩
  · intro h hh
    rw [List.map_cons, List.map_nil, List.mem_singleton] at hh
    subst hh
    by_cases h : tk < gv
    · rw [hq h]; exact .inr ⟨_, rfl⟩
    · rw [hn h]; exact .inl rfl
  · intro x hx
    rw [List.mem_singleton] at hx
    subst hx
    exact ⟨A.le, _, tk, val_kb _, val_kb _, SqL.of S.le, rfl⟩
  · rcases k with ⟨h, k⟩ | ⟨h, k⟩
    · refine .inl ⟨?_, k⟩
      rw [hn h]
      simp [lackLane, places, lackB]
    · have hb := S.bd (row.getD tk 0) (by rw [List.getD_eq_getElem?_getD, List.getElem?_eq_getElem (by omega)]; exact List.getElem_mem _)
      rw [hq h]
      refine .inr (.inr ⟨by simp [lackLane, places, lackB], [row.getD tk 0], rfl, fun w hw => by rw [List.mem_singleton] at hw; subst hw; exact hb, .inl ⟨val_kac _, by simp [places]⟩, fun H' U La Lg rs s' eU eLa eLg tT => ?_⟩)
      exact k _ U s' ⟨La, Lg, rs, eU, eLa, eLg, tT⟩
theorem deed_a {H : Hp} {A : Pl} {room : Int} {row : List Int} {many gv tk turns : Nat} {Q : VK} {E : XK} (S : StAt K t H A room row many gv tk turns) (k : (¬ gv < row.length ∧ ∀ H', Same H H' → Q .non H') ∨ gv < row.length ∧ ∀ H' U, Same H H' → DeedAt H' U 0 [row.getD gv 0] → Q (.ref U) H') : sp_Flow_deed K t [.ref A.f, .str "a"] H Q E := by
  unfold sp_Flow_deed
  obtain ⟨b1, b2, b3, b4, b5, b6, b7, b8⟩ := S.nb
  refine ⟨A.f, A.E, A.G, A.Kp, A.D, A.Rw, A.pa, A.n, _, _, _, "a", _, _, _, _, _, 0, _, [], [], ["b"], fun _ => .non, 0, rfl, S.flow, S.ever, S.gone, S.kept, S.rows, S.done, S.netAt, by simp, val_a _ _, S.aP, by decide, rfl, rfl, rfl, ⟨rfl, by simp⟩, by simp, val_a _ _, ?_⟩
  have el : lackLane 0 [] (List.map (fun _ => V.non) ([] : List Str)) = V.non := by simp [lackLane, places]
  rcases k with ⟨h, k⟩ | ⟨h, k⟩
  · refine .inr (.inl ⟨el, A.lr, (row.drop many).map V.int, val_ka _, ?_, SqL.of S.lr, k⟩)
    rw [val_a, List.length_map, List.length_drop, show gv - many = row.length - many by omega]
  · have hb := S.bd (row.getD gv 0) (by rw [List.getD_eq_getElem?_getD, List.getElem?_eq_getElem (by omega)]; exact List.getElem_mem _)
    refine .inr (.inr ⟨el, [row.getD gv 0], rfl, fun w hw => by rw [List.mem_singleton] at hw; subst hw; exact hb, .inr ⟨A.lr, (row.drop many).map V.int, gv - many, row.getD gv 0, val_ka _, val_a _ _, SqL.of S.lr, ?_, rfl⟩, fun H' U La Lg rs s' eU eLa eLg tT => ?_⟩)
    · rw [List.getElem?_map, List.getElem?_drop, show many + (gv - many) = gv by omega, List.getD_eq_getElem?_getD, List.getElem?_eq_getElem h]
      rfl
    · exact k _ U s' ⟨La, Lg, rs, eU, eLa, eLg, tT⟩
def sp_Run_next_deed (K : PySem.W.Frag) (t : Adr) : Sp := fun vs H Q _ => ∃ (A : Pl) (room : Int) (row : List Int) (many gv tk turns : Nat) (y : Str), vs = [.ref A.r, .str y] ∧ StAt K t H A room row many gv tk turns ∧ (y = "c" ∧ ((¬ tk < gv ∧ ∀ H', Same H H' → Q .non H') ∨ tk < gv ∧ ∀ H' U, Same H H' → DeedAt H' U 1 [] → Q (.ref U) H') ∨ y = "a" ∧ ((¬ (gv < row.length ∧ (gv : Int) - tk < room) ∧ ∀ H', Same H H' → Q .non H') ∨ (gv < row.length ∧ (gv : Int) - tk < room) ∧ ∀ H' U, Same H H' → DeedAt H' U 0 [row.getD gv 0] → Q (.ref U) H'))
theorem sc_Run_next_deed : FnScope ["self", "name", "deed"] ["self", "name"] (defScope s_Run_next_deed) := ⟨rfl, rfl, rfl, by decide +kernel, rfl, by decide +kernel, by decide +kernel⟩
theorem ok_Run_next_deed (T : Txt w K mg t) : FnOk P w K mg base CX0 6 t.f_Run_next_deed t.fd_Run_next_deed ["self", "name"] (sp_Run_next_deed K t) := by
  have sc := sc_Run_next_deed
  refine T.F_Run_next_deed.ok sc (fun vs H Q E h => ?_) (fun cdv A outer s H vs Q E hr h => ?_)
  · obtain ⟨A, room, row, many, gv, tk, turns, y, rfl, _⟩ := h
    rfl
  · obtain ⟨A, room, row, many, gv, tk, turns, y, rfl, S, hy⟩ := h
    refine ⟨_, (pss_cons (ps_set (i := 2) sc.nd rfl (Or.inl rfl) (pe_meth (pe_fld (pv 0) rfl) T.c_Flow T.me_Flow_deed (ok_Flow_deed T) (hr.mono (by decide)) T.b_Flow_deed .nil pass0 (pa_cons (pv 1) pa_nil star_Name)))
      (pss_one (ps_ret (pe_ifExp (PW.pt (pw_or (pt_cmp (pc_isN (pv 2))) (pw_or1 (pt_cmp (pc_notN (pe_meth (pv 0) T.c_Run T.me_Run_full_lane (ok_Run_full_lane T) (hr.mono (by decide)) T.b_Run_full_lane .nil pass0 (pa_cons (pv 2) pa_nil star_Name))))))) pe_non (pv 2))))), ?_⟩
    have hl : sizeLine = 16777216 := sizeLine_eq
    obtain ⟨dx, fs, r1, r2, r3⟩ := S.run
    obtain ⟨dxf, fsf, f1, f2⟩ := S.flow.ex
    obtain ⟨dxn, fsn, R, F, Pd, Gv, Tk, n1, n2, n3, n4, n5, n6⟩ := S.net
    obtain ⟨b1, b2, b3, b4, b5, b6, b7, b8⟩ := S.nb
    
    rcases hy with ⟨rfl, hy⟩ | ⟨rfl, hy⟩
    · refine ⟨_, rfl, A.r, _, dx, fs, _, rfl,  r1, T.c_Run, T.na_Run_flow, r3.has ("flow", .ref A.f) (by simp), A.f, dxf, fsf, rfl,  f1, f2.no _ (by decide +kernel), _, rfl, ?_⟩
      refine deed_c S ?_
      rcases hy with ⟨h, k⟩ | ⟨h, k⟩
      · exact .inl ⟨h, fun H1 s1 => ⟨_, rfl, _, rfl, iteT (iteT (k _ s1))⟩⟩
      · refine .inr ⟨h, fun H1 U s1 d1 => ⟨_, rfl, _, rfl, iteF ?_⟩⟩
        refine ⟨_, rfl, A.r, dx, fs, rfl, s1 _ _ r1, r3.no _ (by decide +kernel), _, rfl, A, room, row, many, gv, tk, turns, U, 1, [], rfl, S.same s1, d1, by simp, .inl ⟨.inl rfl, fun H2 s2 => ?_⟩⟩
        exact ⟨_, rfl, iteF ⟨_, rfl, k _ U (s1.trans s2) (d1.same s2)⟩⟩
    · refine ⟨_, rfl, A.r, _, dx, fs, _, rfl,  r1, T.c_Run, T.na_Run_flow, r3.has ("flow", .ref A.f) (by simp), A.f, dxf, fsf, rfl,  f1, f2.no _ (by decide +kernel), _, rfl, ?_⟩
      refine deed_a S ?_
      by_cases h0 : gv < row.length
      · refine .inr ⟨h0, fun H1 U s1 d1 => ⟨_, rfl, _, rfl, iteF ?_⟩⟩
        rcases hy with ⟨h, k⟩ | ⟨h, k⟩
        · refine ⟨_, rfl, A.r, dx, fs, rfl, s1 _ _ r1, r3.no _ (by decide +kernel), _, rfl, A, room, row, many, gv, tk, turns, U, 0, [row.getD gv 0], rfl, S.same s1, d1, by simp, .inr ⟨⟨by simp, by omega⟩, fun H2 s2 => ?_⟩⟩
          exact ⟨_, rfl, iteT (k _ (s1.trans s2))⟩
        · refine ⟨_, rfl, A.r, dx, fs, rfl, s1 _ _ r1, r3.no _ (by decide +kernel), _, rfl, A, room, row, many, gv, tk, turns, U, 0, [row.getD gv 0], rfl, S.same s1, d1, by simp, .inl ⟨.inr h.2, fun H2 s2 => ?_⟩⟩
          exact ⟨_, rfl, iteF ⟨_, rfl, k _ U (s1.trans s2) (d1.same s2)⟩⟩
      · refine .inl ⟨h0, fun H1 s1 => ⟨_, rfl, _, rfl, iteT (iteT ?_)⟩⟩
        rcases hy with ⟨h, k⟩ | ⟨h, k⟩
        · exact k _ s1
        · exact absurd h.1 h0
def sp_Run_can_work (K : PySem.W.Frag) (t : Adr) : Sp := fun vs H Q _ => ∃ (A : Pl) (room : Int) (row : List Int) (many gv tk turns : Nat) (y : Str), vs = [.ref A.r, .str y] ∧ StAt K t H A room row many gv tk turns ∧ (y = "c" ∧ (∀ H', Same H H' → Q (.bl (decide (tk < gv))) H') ∨ y = "a" ∧ ∀ H', Same H H' → Q (.bl (decide (gv < row.length ∧ (gv : Int) - tk < room))) H')
theorem sc_Run_can_work : FnScope ["self", "name"] ["self", "name"] (defScope s_Run_can_work) := ⟨rfl, rfl, rfl, by decide +kernel, rfl, by decide +kernel, by decide +kernel⟩
theorem ok_Run_can_work (T : Txt w K mg t) : FnOk P w K mg base CX0 7 t.f_Run_can_work t.fd_Run_can_work ["self", "name"] (sp_Run_can_work K t) := by
  have sc := sc_Run_can_work
  refine T.F_Run_can_work.ok sc (fun vs H Q E h => ?_) (fun cdv A outer s H vs Q E hr h => ?_)
  · obtain ⟨A, room, row, many, gv, tk, turns, y, rfl, _⟩ := h
    rfl
  · obtain ⟨A, room, row, many, gv, tk, turns, y, rfl, S, hy⟩ := h
    refine ⟨_, (pss_one (ps_ret (pe_cmp (pc_notN (pe_meth (pv 0) T.c_Run T.me_Run_next_deed (ok_Run_next_deed T) (hr.mono (by decide)) T.b_Run_next_deed .nil pass0 (pa_cons (pv 1) pa_nil star_Name)))))), ?_⟩
    have hl : sizeLine = 16777216 := sizeLine_eq
    obtain ⟨dx, fs, r1, r2, r3⟩ := S.run
    obtain ⟨dxf, fsf, f1, f2⟩ := S.flow.ex
    obtain ⟨dxn, fsn, R, F, Pd, Gv, Tk, n1, n2, n3, n4, n5, n6⟩ := S.net
    obtain ⟨b1, b2, b3, b4, b5, b6, b7, b8⟩ := S.nb
    
    rcases hy with ⟨rfl, k⟩ | ⟨rfl, k⟩
    · refine ⟨_, rfl, A.r, dx, fs, rfl,  r1, r3.no _ (by decide +kernel), _, rfl, A, room, row, many, gv, tk, turns, "c", rfl, S, .inl ⟨rfl, ?_⟩⟩
      by_cases h : tk < gv
      · refine .inr ⟨h, fun H1 U s1 _ => ?_⟩
        have := k _ s1
        rw [decide_eq_true h] at this
        exact this
      · refine .inl ⟨h, fun H1 s1 => ?_⟩
        have := k _ s1
        rw [decide_eq_false h] at this
        exact this
    · refine ⟨_, rfl, A.r, dx, fs, rfl,  r1, r3.no _ (by decide +kernel), _, rfl, A, room, row, many, gv, tk, turns, "a", rfl, S, .inr ⟨rfl, ?_⟩⟩
      by_cases h : gv < row.length ∧ (gv : Int) - tk < room
      · refine .inr ⟨h, fun H1 U s1 _ => ?_⟩
        have := k _ s1
        rw [decide_eq_true h] at this
        exact this
      · refine .inl ⟨h, fun H1 s1 => ?_⟩
        have := k _ s1
        rw [decide_eq_false h] at this
        exact this
def sp_Run_works (K : PySem.W.Frag) (t : Adr) : Sp := fun vs H Q _ => ∃ (A : Pl) (room : Int) (row : List Int) (many gv tk turns : Nat) (y : Str), vs = [.ref A.r, .str y] ∧ StAt K t H A room row many gv tk turns ∧ (y = "c" ∧ (∀ H', Same H H' → Q (.int (tk : Nat)) H') ∨ y = "a" ∧ ∀ H', Same H H' → Q (.int ((gv - many : Nat) : Nat)) H')
theorem sc_Run_works : FnScope ["self", "name"] ["self", "name"] (defScope s_Run_works) := ⟨rfl, rfl, rfl, by decide +kernel, rfl, by decide +kernel, by decide +kernel⟩
theorem ok_Run_works (T : Txt w K mg t) : FnOk P w K mg base CX0 3 t.f_Run_works t.fd_Run_works ["self", "name"] (sp_Run_works K t) := by
  have sc := sc_Run_works
  refine T.F_Run_works.ok sc (fun vs H Q E h => ?_) (fun cdv A outer s H vs Q E hr h => ?_)
  · obtain ⟨A, room, row, many, gv, tk, turns, y, rfl, _⟩ := h
    rfl
  · obtain ⟨A, room, row, many, gv, tk, turns, y, rfl, S, hy⟩ := h
    refine ⟨_, (pss_cons (ps_expr (pe_meth (pe_fld (pv 0) rfl) T.c_Net T.me_Net_part_of (ok_Net_part_of T) (hr.mono (by decide)) T.b_Net_part_of .nil pass0 (pa_cons (pv 1) pa_nil star_Name)))
      (pss_one (ps_ret (pe_dget hr.u1 (pe_fld (pe_fld (pv 0) rfl) rfl) (pv 1) (fun _ _ => rfl))))), ?_⟩
    have hl : sizeLine = 16777216 := sizeLine_eq
    obtain ⟨dx, fs, r1, r2, r3⟩ := S.run
    obtain ⟨dxf, fsf, f1, f2⟩ := S.flow.ex
    obtain ⟨dxn, fsn, R, F, Pd, Gv, Tk, n1, n2, n3, n4, n5, n6⟩ := S.net
    obtain ⟨b1, b2, b3, b4, b5, b6, b7, b8⟩ := S.nb
    
    rcases hy with ⟨rfl, k⟩ | ⟨rfl, k⟩
    · refine ⟨_, rfl, A.r, _, dx, fs, _, rfl,  r1, T.c_Run, T.na_Run_net, r3.has ("net", .ref A.n) (by simp), A.n, dxn, fsn, rfl,  n1, n2.no _ (by decide +kernel), _, rfl, A.n, _, _, _, "c", A.pc, rfl, S.netAt, by simp, val_c (.ref A.pc) (.ref A.pa), fun H1 s1 => ?_⟩
      exact ⟨_, rfl, A.r, _, dx, fs, _, rfl, s1 _ _ r1, T.c_Run, T.na_Run_flow, r3.has ("flow", .ref A.f) (by simp), A.f, _, dxf, fsf, _, rfl, s1 _ _ f1, T.c_Flow, T.na_Flow_done, f2.has ("done", .ref A.D) (by simp), _, rfl, A.D, _, rfl, (by rw [← val_c (.int tk) (.int ((gv - many : Nat) : Nat))]; exact DGet.k (k := Sum.inr "c") (s1 _ _ S.done)), k _ s1⟩
    · refine ⟨_, rfl, A.r, _, dx, fs, _, rfl,  r1, T.c_Run, T.na_Run_net, r3.has ("net", .ref A.n) (by simp), A.n, dxn, fsn, rfl,  n1, n2.no _ (by decide +kernel), _, rfl, A.n, _, _, _, "a", A.pa, rfl, S.netAt, by simp, val_a (.ref A.pc) (.ref A.pa), fun H1 s1 => ?_⟩
      exact ⟨_, rfl, A.r, _, dx, fs, _, rfl, s1 _ _ r1, T.c_Run, T.na_Run_flow, r3.has ("flow", .ref A.f) (by simp), A.f, _, dxf, fsf, _, rfl, s1 _ _ f1, T.c_Flow, T.na_Flow_done, f2.has ("done", .ref A.D) (by simp), _, rfl, A.D, _, rfl, (by rw [← val_a (.int tk) (.int ((gv - many : Nat) : Nat))]; exact DGet.k (k := Sum.inr "a") (s1 _ _ S.done)), k _ s1⟩
def sp_Run_taken (K : PySem.W.Frag) (t : Adr) : Sp := fun vs H Q _ => ∃ (A : Pl) (room : Int) (row : List Int) (many gv tk turns : Nat), vs = [.ref A.r, .str "c"] ∧ StAt K t H A room row many gv tk turns ∧ ∀ H' p, Same H H' → H p = none → H' p = some (.lst ((row.take tk).map V.int)) → Q (.ref p) H'
theorem sc_Run_taken : FnScope ["self", "name"] ["self", "name"] (defScope s_Run_taken) := ⟨rfl, rfl, rfl, by decide +kernel, rfl, by decide +kernel, by decide +kernel⟩
theorem ok_Run_taken (T : Txt w K mg t) : FnOk P w K mg base CX0 4 t.f_Run_taken t.fd_Run_taken ["self", "name"] (sp_Run_taken K t) := by
  have sc := sc_Run_taken
  refine T.F_Run_taken.ok sc (fun vs H Q E h => ?_) (fun cdv A outer s H vs Q E hr h => ?_)
  · obtain ⟨A, room, row, many, gv, tk, turns, rfl, _⟩ := h
    rfl
  · obtain ⟨A, room, row, many, gv, tk, turns, rfl, S, k⟩ := h
    refine ⟨_, (pss_cons (ps_if (pt_cmpR op_notIn_seq (pv 1) (pe_meth0 (pe_fld (pv 0) rfl) T.c_Net T.me_Net_takes (ok_Net_takes T) (hr.mono (by decide)) T.b_Net_takes .nil pass0) (by with_unfolding_all rfl))
        (pss_one ps_never)
        pss_nil)
      (pss_one (ps_ret (pe_meth (pe_fld (pv 0) rfl) T.c_Flow T.me_Flow_gone_by (ok_Flow_gone_by T) (hr.mono (by decide)) T.b_Flow_gone_by .nil pass0 (pa_cons (pe_ix ix_tup (pe_fld (pe_meth (pe_fld (pv 0) rfl) T.c_Net T.me_Net_part_of (ok_Net_part_of T) (hr.mono (by decide)) T.b_Net_part_of .nil pass0 (pa_cons (pv 1) pa_nil star_Name)) rfl) pe_int (fun _ _ => rfl)) pa_nil star_Subscript))))), ?_⟩
    have hl : sizeLine = 16777216 := sizeLine_eq
    obtain ⟨dx, fs, r1, r2, r3⟩ := S.run
    obtain ⟨dxf, fsf, f1, f2⟩ := S.flow.ex
    obtain ⟨dxn, fsn, R, F, Pd, Gv, Tk, n1, n2, n3, n4, n5, n6⟩ := S.net
    obtain ⟨b1, b2, b3, b4, b5, b6, b7, b8⟩ := S.nb
    
    obtain ⟨dxp, tn, ti, to, p1, p2, p3, p4⟩ := S.cP.ex
    refine ⟨_, rfl, _, rfl, A.r, _, dx, fs, _, rfl,  r1, T.c_Run, T.na_Run_net, r3.has ("net", .ref A.n) (by simp), A.n, dxn, fsn, rfl,  n1, n2.no _ (by decide +kernel), A.n, _, _, _, kdA A, rfl, S.netAt, S.parts, by show 2 ≤ 16; decide, fun l nl => ?_⟩
    rw [S.takes]
    have s1 := same_new (o := .lst [.str "c"]) nl
    refine ⟨l, _, rfl, .inl (SqL.of upd_same), rfl, rfl, _, rfl, iteF ?_⟩
    refine ⟨_, rfl, A.r, _, dx, fs, _, rfl, s1 _ _ r1, T.c_Run, T.na_Run_flow, r3.has ("flow", .ref A.f) (by simp), A.f, dxf, fsf, rfl, s1 _ _ f1, f2.no _ (by decide +kernel), _, rfl, A.r, _, dx, fs, _, rfl, s1 _ _ r1, T.c_Run, T.na_Run_net, r3.has ("net", .ref A.n) (by simp), A.n, dxn, fsn, rfl, s1 _ _ n1, n2.no _ (by decide +kernel), _, rfl, A.n, _, _, _, "c", A.pc, rfl, S.netAt.same s1, by simp, val_c (.ref A.pc) (.ref A.pa), fun H2 s2 => ?_⟩
    have s12 := s1.trans s2
    refine ⟨A.pc, _, dxp, _, _, rfl, s12 _ _ p1, cls_ok T 1, na_ins T 1, flds_ins _ _ _ _, ti, _, 0, _, rfl, rfl, s12.seqT p3, atI_nat (j := 0) rfl, A.f, A.n, A.E, A.G, A.Kp, A.D, A.Rw, A.le, _, _, "b", _, tk, rfl, S.flow.same s12, s12 _ _ S.ever, s12 _ _ S.gone, val_kb _, val_kb _, SqL.of (s12 _ _ S.le), fun p np => ?_⟩
    refine k _ p (s12.trans (same_new np)) (s12.free np) ?_
    rw [upd_same, ← List.map_take, List.take_take, Nat.min_eq_left b3]
def sp_Run_lane_now (K : PySem.W.Frag) (t : Adr) : Sp := fun vs H Q _ => ∃ (A : Pl) (room : Int) (row : List Int) (many gv tk turns : Nat), vs = [.ref A.r, .str "b"] ∧ StAt K t H A room row many gv tk turns ∧ ∀ H' p, Same H H' → H p = none → H' p = some (.lst (((row.take gv).drop tk).map V.int)) → Q (.ref p) H'
theorem sc_Run_lane_now : FnScope ["self", "name"] ["self", "name"] (defScope s_Run_lane_now) := ⟨rfl, rfl, rfl, by decide +kernel, rfl, by decide +kernel, by decide +kernel⟩
theorem ok_Run_lane_now (T : Txt w K mg t) : FnOk P w K mg base CX0 3 t.f_Run_lane_now t.fd_Run_lane_now ["self", "name"] (sp_Run_lane_now K t) := by
  have sc := sc_Run_lane_now
  refine T.F_Run_lane_now.ok sc (fun vs H Q E h => ?_) (fun cdv A outer s H vs Q E hr h => ?_)
  · obtain ⟨A, room, row, many, gv, tk, turns, rfl, _⟩ := h
    rfl
  · obtain ⟨A, room, row, many, gv, tk, turns, rfl, S, k⟩ := h
    refine ⟨_, (pss_cons (ps_expr (pe_meth (pe_fld (pv 0) rfl) T.c_Net T.me_Net_need_lane_name (ok_Net_need_lane_name T) (hr.mono (by decide)) T.b_Net_need_lane_name .nil pass0 (pa_cons (pv 1) pa_nil star_Name)))
      (pss_one (ps_ret (pe_meth (pe_fld (pv 0) rfl) T.c_Flow T.me_Flow_held_now (ok_Flow_held_now T) (hr.mono (by decide)) T.b_Flow_held_now .nil pass0 (pa_cons (pv 1) pa_nil star_Name))))), ?_⟩
    have hl : sizeLine = 16777216 := sizeLine_eq
    obtain ⟨dx, fs, r1, r2, r3⟩ := S.run
    obtain ⟨dxf, fsf, f1, f2⟩ := S.flow.ex
    obtain ⟨dxn, fsn, R, F, Pd, Gv, Tk, n1, n2, n3, n4, n5, n6⟩ := S.net
    obtain ⟨b1, b2, b3, b4, b5, b6, b7, b8⟩ := S.nb
    
    refine ⟨_, rfl, A.r, _, dx, fs, _, rfl,  r1, T.c_Run, T.na_Run_net, r3.has ("net", .ref A.n) (by simp), A.n, dxn, fsn, rfl,  n1, n2.no _ (by decide +kernel), _, rfl, A.n, _, _, _, "b", rfl, S.netAt, by simp, fun H1 s1 => ?_⟩
    refine ⟨_, rfl, A.r, _, dx, fs, _, rfl, s1 _ _ r1, T.c_Run, T.na_Run_flow, r3.has ("flow", .ref A.f) (by simp), A.f, dxf, fsf, rfl, s1 _ _ f1, f2.no _ (by decide +kernel), _, rfl, A.f, A.n, A.E, A.G, A.Kp, A.D, A.Rw, A.le, _, _, "b", _, tk, rfl, S.flow.same s1, s1 _ _ S.ever, s1 _ _ S.gone, val_kb _, val_kb _, SqL.of (s1 _ _ S.le), fun p np => ?_⟩
    refine k _ p (s1.trans (same_new np)) (s1.free np) ?_
    rw [upd_same, List.map_drop]
def sp_Run_had (K : PySem.W.Frag) (t : Adr) : Sp := fun vs H Q _ => ∃ (A : Pl) (room : Int) (row : List Int) (many gv tk turns : Nat), vs = [.ref A.r, .str "b"] ∧ StAt K t H A room row many gv tk turns ∧ ∀ H' p, Same H H' → H p = none → H' p = some (.lst ((row.take gv).map V.int)) → Q (.ref p) H'
theorem sc_Run_had : FnScope ["self", "name"] ["self", "name"] (defScope s_Run_had) := ⟨rfl, rfl, rfl, by decide +kernel, rfl, by decide +kernel, by decide +kernel⟩
theorem ok_Run_had (T : Txt w K mg t) : FnOk P w K mg base CX0 3 t.f_Run_had t.fd_Run_had ["self", "name"] (sp_Run_had K t) := by
  have sc := sc_Run_had
  refine T.F_Run_had.ok sc (fun vs H Q E h => ?_) (fun cdv A outer s H vs Q E hr h => ?_)
  · obtain ⟨A, room, row, many, gv, tk, turns, rfl, _⟩ := h
    rfl
  · obtain ⟨A, room, row, many, gv, tk, turns, rfl, S, k⟩ := h
    refine ⟨_, (pss_cons (ps_expr (pe_meth (pe_fld (pv 0) rfl) T.c_Net T.me_Net_need_lane_name (ok_Net_need_lane_name T) (hr.mono (by decide)) T.b_Net_need_lane_name .nil pass0 (pa_cons (pv 1) pa_nil star_Name)))
      (pss_one (ps_ret (pe_callTy call_list_of (by rfl) T.n_list bt_list (pa_cons (pe_dget hr.u1 (pe_fld (pe_fld (pv 0) rfl) rfl) (pv 1) (fun _ _ => rfl)) pa_nil star_Subscript))))), ?_⟩
    have hl : sizeLine = 16777216 := sizeLine_eq
    obtain ⟨dx, fs, r1, r2, r3⟩ := S.run
    obtain ⟨dxf, fsf, f1, f2⟩ := S.flow.ex
    obtain ⟨dxn, fsn, R, F, Pd, Gv, Tk, n1, n2, n3, n4, n5, n6⟩ := S.net
    obtain ⟨b1, b2, b3, b4, b5, b6, b7, b8⟩ := S.nb
    
    refine ⟨_, rfl, A.r, _, dx, fs, _, rfl,  r1, T.c_Run, T.na_Run_net, r3.has ("net", .ref A.n) (by simp), A.n, dxn, fsn, rfl,  n1, n2.no _ (by decide +kernel), _, rfl, A.n, _, _, _, "b", rfl, S.netAt, by simp, fun H1 s1 => ?_⟩
    refine ⟨_, rfl, A.r, _, dx, fs, _, rfl, s1 _ _ r1, T.c_Run, T.na_Run_flow, r3.has ("flow", .ref A.f) (by simp), A.f, _, dxf, fsf, _, rfl, s1 _ _ f1, T.c_Flow, T.na_Flow_ever, f2.has ("ever", .ref A.E) (by simp), _, rfl, A.E, _, rfl, getb (s1 _ _ S.ever), A.le, _, rfl, .inl (SqL.of (s1 _ _ S.le)), fun p np => ?_⟩
    exact k _ p (s1.trans (same_new np)) (s1.free np) upd_same
def sp_Run_turn (K : PySem.W.Frag) (t : Adr) : Sp := fun vs H Q _ => ∃ (A : Pl) (room : Int) (row : List Int) (many gv tk turns : Nat), vs = [.ref A.r] ∧ StAt K t H A room row many gv tk turns ∧ Q (.int (turns : Nat)) H
theorem sc_Run_turn : FnScope ["self"] ["self"] (defScope s_Run_turn) := ⟨rfl, rfl, rfl, by decide +kernel, rfl, by decide +kernel, by decide +kernel⟩
theorem ok_Run_turn (T : Txt w K mg t) : FnOk P w K mg base CX0 1 t.f_Run_turn t.fd_Run_turn ["self"] (sp_Run_turn K t) := by
  have sc := sc_Run_turn
  refine T.F_Run_turn.ok sc (fun vs H Q E h => ?_) (fun cdv A outer s H vs Q E hr h => ?_)
  · obtain ⟨A, room, row, many, gv, tk, turns, rfl, _⟩ := h
    rfl
  · obtain ⟨A, room, row, many, gv, tk, turns, rfl, S, k⟩ := h
    refine ⟨_, (pss_one (ps_ret (pe_fld (pv 0) rfl))), ?_⟩
    have hl : sizeLine = 16777216 := sizeLine_eq
    obtain ⟨dx, fs, r1, r2, r3⟩ := S.run
    obtain ⟨dxf, fsf, f1, f2⟩ := S.flow.ex
    obtain ⟨dxn, fsn, R, F, Pd, Gv, Tk, n1, n2, n3, n4, n5, n6⟩ := S.net
    obtain ⟨b1, b2, b3, b4, b5, b6, b7, b8⟩ := S.nb
    
    exact ⟨_, rfl, A.r, _, dx, fs, _, rfl, r1, T.c_Run, T.na_Run_turns, r3.has ("turns", .int turns) (by simp), k⟩
def sp_Run_rows_left (K : PySem.W.Frag) (t : Adr) : Sp := fun vs H Q _ => ∃ (A : Pl) (room : Int) (row : List Int) (many gv tk turns : Nat), vs = [.ref A.r] ∧ StAt K t H A room row many gv tk turns ∧ ∀ H' d p, Same H H' → H d = none → H p = none → H' d = some (.dK (ka (.ref p))) → H' p = some (.lst ((row.drop gv).map V.int)) → Q (.ref d) H'
theorem sc_Run_rows_left : FnScope ["self", "left", "door"] ["self"] (defScope s_Run_rows_left) := ⟨rfl, rfl, rfl, by decide +kernel, rfl, by decide +kernel, by decide +kernel⟩
theorem ok_Run_rows_left (T : Txt w K mg t) : FnOk P w K mg base CX0 4 t.f_Run_rows_left t.fd_Run_rows_left ["self"] (sp_Run_rows_left K t) := by
  have sc := sc_Run_rows_left
  refine T.F_Run_rows_left.ok sc (fun vs H Q E h => ?_) (fun cdv A outer s H vs Q E hr h => ?_)
  · obtain ⟨A, room, row, many, gv, tk, turns, rfl, _⟩ := h
    rfl
  · obtain ⟨A, room, row, many, gv, tk, turns, rfl, S, k⟩ := h
    refine ⟨_, (pss_cons (ps_set (i := 1) sc.nd rfl (Or.inl rfl) pe_dnewK)
      (pss_cons (ps_for PassesOwn.never rfl (pi_list (pe_meth0 (pe_fld (pv 0) rfl) T.c_Net T.me_Net_gives (ok_Net_gives T) (hr.mono (by decide)) T.b_Net_gives .nil pass0)) (pg_name (i := 2) sc.nd rfl (Or.inl rfl))
        (pss_one (ps_dput hr.u1 (pv 1) (pv 2) (pe_meth (pe_fld (pv 0) rfl) T.c_Flow T.me_Flow_row_left (ok_Flow_row_left T) (hr.mono (by decide)) T.b_Flow_row_left .nil pass0 (pa_cons (pv 2) pa_nil star_Name)) rfl)))
      (pss_one (ps_ret (pv 1))))), ?_⟩
    have hl : sizeLine = 16777216 := sizeLine_eq
    obtain ⟨dx, fs, r1, r2, r3⟩ := S.run
    obtain ⟨dxf, fsf, f1, f2⟩ := S.flow.ex
    obtain ⟨dxn, fsn, R, F, Pd, Gv, Tk, n1, n2, n3, n4, n5, n6⟩ := S.net
    obtain ⟨b1, b2, b3, b4, b5, b6, b7, b8⟩ := S.nb
    
    refine fun d nd => ?_
    have s1 := same_new (o := .dK []) nd
    refine ⟨_, rfl, A.r, _, dx, fs, _, rfl, s1 _ _ r1, T.c_Run, T.na_Run_net, r3.has ("net", .ref A.n) (by simp), A.n, dxn, fsn, rfl, s1 _ _ n1, n2.no _ (by decide +kernel), A.n, _, _, _, kdA A, rfl, S.netAt.same s1, (S.same s1).parts, by show 2 ≤ 16; decide, fun l nl => ?_⟩
    rw [S.gives]
    have s2 := same_new (o := .lst [.str "a"]) nl
    have s12 := s1.trans s2
    have nld : l ≠ d := Ne.symm (ne_of_none (upd_same (H := H) (a := d) (o := .dK [])) nl)
    refine ⟨l, rfl, ⟨_, SqL.of upd_same⟩, for_list (K := K) (a := l) (xs := [.str "a"]) (fun j σ H' => (j = 0 ∧ H' = upd (upd H d (.dK [])) l (.lst [.str "a"]) ∧ σ = [some (.ref A.r), some (.ref d), none]) ∨ (j = 1 ∧ Same H H' ∧ ∃ p v2, σ = [some (.ref A.r), some (.ref d), v2] ∧ H p = none ∧ H' d = some (.dK (ka (.ref p))) ∧ H' l = some (.lst [.str "a"]) ∧ H' p = some (.lst ((row.drop gv).map V.int)))) (.inl ⟨rfl, rfl, rfl⟩) ?_ ?_ ?_⟩
    · rintro j σ H' _ (⟨_, rfl, _⟩ | ⟨_, s', p, v2, _, _, _, e, _⟩)
      · exact SqL.of upd_same
      · exact SqL.of e
    · rintro j x σ H' hx hj
      have hj0 : j = 0 := by
        have := (List.getElem?_eq_some_iff.mp hx).1
        simp at this
        exact this
      subst hj0
      cases hx
      rcases hj with ⟨_, rfl, rfl⟩ | ⟨h, _⟩
      · refine ⟨_, rfl, A.r, _, dx, fs, _, rfl, s12 _ _ r1, T.c_Run, T.na_Run_flow, r3.has ("flow", .ref A.f) (by simp), A.f, dxf, fsf, rfl, s12 _ _ f1, f2.no _ (by decide +kernel), _, rfl, A.f, A.n, A.E, A.G, A.Kp, A.D, A.Rw, A.lr, _, _, "a", _, gv - many, rfl, S.flow.same s12, s12 _ _ S.rows, s12 _ _ S.done, val_ka _, val_a _ _, SqL.of (s12 _ _ S.lr), fun p np => ?_⟩
        have e1 : upd (upd (upd H d (.dK [])) l (.lst [.str "a"])) p (.lst (((row.drop many).map V.int).drop (gv - many))) d = some (.dK []) := by
          rw [upd_ne (ne_of_none (by rw [upd_ne (Ne.symm nld)]; exact upd_same) np), upd_ne (Ne.symm nld)]
          exact upd_same
        refine ⟨_, rfl, _, rfl, d, _, rfl, DPut.k (k := Sum.inr "a") e1 (by show 0 < sizeLine; omega), .inr ⟨rfl, ?_, p, _, rfl, s12.free np, ?_, ?_, ?_⟩⟩
        · intro b o e
          have hb : b ≠ d := ne_of_none e nd
          rw [upd_ne hb]
          exact same_new np _ _ (s12 _ _ e)
        · rw [upd_same]
          rfl
        · rw [upd_ne nld, upd_ne (ne_of_none upd_same np)]
          exact upd_same
        · rw [upd_ne (ne_of (upd_same (H := upd (upd H d (.dK [])) l (.lst [.str "a"])) (a := p)) e1 (by intro z; cases z)), upd_same, ← List.map_drop, List.drop_drop, show many + (gv - many) = gv by omega]
      · omega
    · rintro σ H' (⟨h, _⟩ | ⟨_, s', p, v2, rfl, np, e1, e2, e3⟩)
      · cases h
      · exact ⟨_, rfl, k _ d p s' nd np e1 e3⟩
def sp_Run_need_doors (K : PySem.W.Frag) (t : Adr) : Sp := fun vs H Q _ => ∃ (A : Pl) (room : Int) (row : List Int) (many gv tk turns : Nat) (L : Addr) (xs : List Str), vs = [.ref A.r, .ref L] ∧ StAt K t H A room row many gv tk turns ∧ SqL K H L (xs.map V.str) ∧ xs.length ≤ 100 ∧ (∀ x ∈ xs, x = "c" ∨ x = "a") ∧ ∀ H', Same H H' → Q .non H'
theorem sc_Run_need_doors : FnScope ["self", "names", "doors", "name"] ["self", "names"] (defScope s_Run_need_doors) := ⟨rfl, rfl, rfl, by decide +kernel, rfl, by decide +kernel, by decide +kernel⟩
theorem ok_Run_need_doors (T : Txt w K mg t) : FnOk P w K mg base CX0 4 t.f_Run_need_doors t.fd_Run_need_doors ["self", "names"] (sp_Run_need_doors K t) := by
  have sc := sc_Run_need_doors
  refine T.F_Run_need_doors.ok sc (fun vs H Q E h => ?_) (fun cdv A outer s H vs Q E hr h => ?_)
  · obtain ⟨A, room, row, many, gv, tk, turns, L, xs, rfl, _⟩ := h
    rfl
  · obtain ⟨A, room, row, many, gv, tk, turns, L, xs, rfl, S, hL, hn, hx, k⟩ := h
    refine ⟨_, (pss_cons (ps_set (i := 2) sc.nd rfl (Or.inl rfl) (pe_op op_cat (pe_meth0 (pe_fld (pv 0) rfl) T.c_Net T.me_Net_gives (ok_Net_gives T) (hr.mono (by decide)) T.b_Net_gives .nil pass0) (pe_meth0 (pe_fld (pv 0) rfl) T.c_Net T.me_Net_takes (ok_Net_takes T) (hr.mono (by decide)) T.b_Net_takes .nil pass0)))
      (pss_one (ps_for PassesOwn.never rfl (pi_list (pv 1)) (pg_name (i := 3) sc.nd rfl (Or.inl rfl))
        (pss_one (ps_if (pt_cmpR op_notIn_seq (pv 3) (pv 2) (by with_unfolding_all rfl))
          (pss_one ps_never)
          pss_nil))))), ?_⟩
    have hl : sizeLine = 16777216 := sizeLine_eq
    obtain ⟨dx, fs, r1, r2, r3⟩ := S.run
    obtain ⟨dxf, fsf, f1, f2⟩ := S.flow.ex
    obtain ⟨dxn, fsn, R, F, Pd, Gv, Tk, n1, n2, n3, n4, n5, n6⟩ := S.net
    obtain ⟨b1, b2, b3, b4, b5, b6, b7, b8⟩ := S.nb
    
    refine ⟨_, rfl, A.r, _, dx, fs, _, rfl,  r1, T.c_Run, T.na_Run_net, r3.has ("net", .ref A.n) (by simp), A.n, dxn, fsn, rfl,  n1, n2.no _ (by decide +kernel), A.n, _, _, _, kdA A, rfl, S.netAt, S.parts, by show 2 ≤ 16; decide, fun l nl => ?_⟩
    rw [S.gives]
    have s1 := same_new (o := .lst [.str "a"]) nl
    refine ⟨_, rfl, A.r, _, dx, fs, _, rfl, s1 _ _ r1, T.c_Run, T.na_Run_net, r3.has ("net", .ref A.n) (by simp), A.n, dxn, fsn, rfl, s1 _ _ n1, n2.no _ (by decide +kernel), A.n, _, _, _, kdA A, rfl, S.netAt.same s1, (S.same s1).parts, by show 2 ≤ 16; decide, fun l2 nl2 => ?_⟩
    rw [S.takes]
    have s2 := same_new (o := .lst [.str "c"]) nl2
    have e1 := s2 _ _ (upd_same (H := H) (a := l) (o := .lst [.str "a"]))
    refine ⟨l, l2, _, _, rfl, rfl, e1, upd_same, by show 1 + 1 ≤ sizeLine; omega, fun l3 nl3 => ?_⟩
    have s3 := same_new (o := .lst ([.str "a"] ++ [.str "c"])) nl3
    have s13 := s1.trans (s2.trans s3)
    have e3 : upd (upd (upd H l (.lst [.str "a"])) l2 (.lst [.str "c"])) l3 (.lst ([.str "a"] ++ [.str "c"])) l3 = some (.lst ([.str "a"] ++ [.str "c"])) := upd_same
    generalize upd (upd (upd H l (.lst [.str "a"])) l2 (.lst [.str "c"])) l3 (.lst ([.str "a"] ++ [.str "c"])) = H3 at s13 e3 ⊢
    refine ⟨_, rfl, L, rfl, ⟨_, s13.seq hL⟩, for_list (K := K) (a := L) (xs := xs.map V.str) (fun j σ H' => H' = H3 ∧ ∃ v3, σ = [some (.ref A.r), some (.ref L), some (.ref l3), v3]) ⟨rfl, none, rfl⟩ (fun j σ H' _ ⟨e, _⟩ => by rw [e]; exact s13.seq hL) ?_ ?_⟩
    · rintro j x σ H' hx' ⟨rfl, v3, rfl⟩
      rw [List.getElem?_map] at hx'
      obtain ⟨y, hy, rfl⟩ := Option.map_eq_some_iff.mp hx'
      refine ⟨_, rfl, _, rfl, l3, _, rfl, .inl (SqL.of e3), rfl, rfl, _, rfl, ?_⟩
      have hin : inV (.str y) ([.str "a"] ++ [.str "c"]) = true := by
        rcases hx y (List.mem_of_getElem? hy) with rfl | rfl <;> simp [inV, eqV]
      rw [hin]
      exact iteF ⟨rfl, _, rfl⟩
    · rintro σ H' ⟨rfl, v3, rfl⟩
      exact k _ s13

def goC (gv tk : Nat) (xs : List Str) : Bool := decide (tk < gv) && !decide (("c" : Str) ∈ xs)
def goA (row : List Int) (room : Int) (gv tk : Nat) (xs : List Str) : Bool := decide (gv < row.length ∧ (gv : Int) - tk < room) && !decide (("a" : Str) ∈ xs)
/-- what a turn leaves as it is -/
def Kept (A : Pl) (H H' : Hp) : Prop := ∀ b o, b ≠ A.r → b ≠ A.G → b ≠ A.le → b ≠ A.Kp → b ≠ A.D → H b = some o → H' b = some o
theorem Kept.trans {A : Pl} {H H1 H2 : Hp} (a : Kept A H H1) (b : Kept A H1 H2) : Kept A H H2 := fun x o h1 h2 h3 h4 h5 e => b x o h1 h2 h3 h4 h5 (a x o h1 h2 h3 h4 h5 e)
theorem Kept.of_same {A : Pl} {H H1 : Hp} (s : Same H H1) : Kept A H H1 := fun x o _ _ _ _ _ e => s x o e
section
variable {H H' : Hp} {A : Pl} {room : Int} {row : List Int} {many gv tk turns : Nat}
theorem seqT_ks {a : Addr} {xs : List V} (kx : ∀ {b : Addr} {o : HO}, H b = some o → (∀ ks, o ≠ .dK ks) → (∀ ys, o ≠ .lst ys) → (∀ C dx fs, o ≠ .ins C dx fs) → H' b = some o) (h : SqT K H a xs) : SqT K H' a xs := by
  rcases h with (h | ⟨o, h⟩) | h
  · exact .inl (.inl (kx h (by intro _ z; cases z) (by intro _ z; cases z) (by intro _ _ _ z; cases z)))
  · exact .inl (.inr ⟨o, kx h (by intro _ z; cases z) (by intro _ z; cases z) (by intro _ _ _ z; cases z)⟩)
  · exact .inr h
theorem part_ks {q : Addr} {i : Nat} {nm : V} {ns is os : List V} (kx : ∀ {b : Addr} {o : HO}, H b = some o → (∀ ks, o ≠ .dK ks) → (∀ ys, o ≠ .lst ys) → (∀ C dx fs, o ≠ .ins C dx fs) → H' b = some o) (h : PartAt K t H q i nm ns is os) (e : H' q = H q) : PartAt K t H' q i nm ns is os := by
  obtain ⟨dx, tn, ti, to, h1, h2, h3, h4⟩ := h
  exact ⟨dx, tn, ti, to, by rw [e]; exact h1, seqT_ks kx h2, seqT_ks kx h3, seqT_ks kx h4⟩
def H4 (H : Hp) (A : Pl) (row : List Int) (many gv tk : Nat) : Hp := upd (upd (upd (upd H A.G (.dK (kb (.int (tk : Nat))))) A.le (.lst ((row.take gv).map V.int))) A.Kp (.dK (kca (.int 0) (.int 0)))) A.D (.dK (kca (.int (tk : Nat)) (.int ((gv - many : Nat) : Nat))))
theorem H4_ne {b : Addr} (h1 : b ≠ A.G) (h2 : b ≠ A.le) (h3 : b ≠ A.Kp) (h4 : b ≠ A.D) : H4 H A row many gv tk b = H b := by
  unfold H4
  rw [upd_ne h4, upd_ne h3, upd_ne h2, upd_ne h1]
theorem H4_kept : Kept A H (H4 H A row many gv tk) := fun b o _ h2 h3 h4 h5 e => by rw [H4_ne h2 h3 h4 h5]; exact e
theorem StAt.upd4 {gv' tk' : Nat} (S : StAt K t H A room row many gv tk turns) (nb : many ≤ gv' ∧ gv' ≤ row.length ∧ tk' ≤ gv' ∧ (gv' : Int) - tk' ≤ room) : StAt K t (H4 H A row many gv' tk') A room row many gv' tk' turns := by
  obtain ⟨dx, fs, r1, r2, r3⟩ := S.run
  obtain ⟨dxf, fsf, f1, f2⟩ := S.flow.ex
  obtain ⟨dxn, fsn, R, F, Pd, Gv, Tk, n1, n2, n3, n4, n5, n6⟩ := S.net
  obtain ⟨d1, d2, d3, d4, d5, d6, d7, d8, d9, d10⟩ := S.nd
  have kz : ∀ {b : Addr} {o : HO}, H b = some o → (∀ ks, o ≠ .dK ks) → (∀ ys, o ≠ .lst ys) → H4 H A row many gv' tk' b = some o := fun {b o} e h1 h2 => by
    rw [H4_ne (ne_of e S.gone (fun z => h1 _ z)) (ne_of e S.le (fun z => h2 _ z)) (ne_of e S.kept (fun z => h1 _ z)) (ne_of e S.done (fun z => h1 _ z))]
    exact e
  have kx : ∀ {b : Addr} {o : HO}, H b = some o → (∀ ks, o ≠ .dK ks) → (∀ ys, o ≠ .lst ys) → (∀ C dx fs, o ≠ .ins C dx fs) → H4 H A row many gv' tk' b = some o := fun e h1 h2 _ => kz e h1 h2
  have kd : ∀ {b : Addr} {ks : List (Key × V)}, H b = some (.dK ks) → b ≠ A.G → b ≠ A.Kp → b ≠ A.D → H4 H A row many gv' tk' b = some (.dK ks) := fun {b ks} e h1 h2 h3 => by
    rw [H4_ne h1 (ne_of e S.le (by intro z; cases z)) h2 h3]
    exact e
  have ki : ∀ {b C dx : Addr} {fs : List (Str × V)}, H b = some (.ins C dx fs) → H4 H A row many gv' tk' b = some (.ins C dx fs) := fun e => kz e (by intro _ z; cases z) (by intro _ z; cases z)
  have g1 : A.G ≠ A.le := ne_of S.gone S.le (by intro z; cases z)
  have g2 : A.le ≠ A.Kp := ne_of S.le S.kept (by intro z; cases z)
  have g3 : A.le ≠ A.D := ne_of S.le S.done (by intro z; cases z)
  refine ⟨⟨dx, fs, ki r1, r2, r3⟩, ⟨dxn, fsn, R, F, Pd, Gv, Tk, ki n1, n2, ?_, ?_, ?_, n6⟩, part_ks kx S.cP ?_, part_ks kx S.aP ?_, ⟨dxf, fsf, ki f1, f2⟩, ?_, ?_, ?_, ?_, ?_, ?_, ?_, S.ne, S.nd, ⟨nb.1, nb.2.1, nb.2.2.1, nb.2.2.2, S.nb.2.2.2.2⟩, S.bd⟩
  · exact kd n3 (n6 R (by simp)).1 (n6 R (by simp)).2.1 (n6 R (by simp)).2.2
  · exact kd n4 (n6 F (by simp)).1 (n6 F (by simp)).2.1 (n6 F (by simp)).2.2
  · exact kd n5 (n6 Pd (by simp)).1 (n6 Pd (by simp)).2.1 (n6 Pd (by simp)).2.2
  · obtain ⟨_, _, _, _, h, _⟩ := S.cP.ex
    rw [ki h, h]
  · obtain ⟨_, _, _, _, h, _⟩ := S.aP.ex
    rw [ki h, h]
  · exact kd S.ever d1 d8 d9
  · unfold H4
    rw [upd_ne (Ne.symm d3), upd_ne (Ne.symm d2), upd_ne g1]
    exact upd_same
  · unfold H4
    rw [upd_ne (Ne.symm d4)]
    exact upd_same
  · exact upd_same
  · exact kd S.rows d5 d6 d7
  · unfold H4
    rw [upd_ne g3, upd_ne g2]
    exact upd_same
  · rw [H4_ne (ne_of S.lr S.gone (by intro z; cases z)) (Ne.symm d10) (ne_of S.lr S.kept (by intro z; cases z)) (ne_of S.lr S.done (by intro z; cases z))]
    exact S.lr
theorem StAt.deed_ne {U La Lg : Addr} {k : Nat} {rs : List Addr} (S : StAt K t H A room row many gv tk turns) (h0 : 0 < gv) (h : H La = some (.lst (List.replicate k (.str "b")))) : La ≠ A.le := by
  obtain ⟨b1, b2, b3, b4, b5, b6, b7, b8⟩ := S.nb
  rintro rfl
  rw [S.le] at h
  have h := HO.lst.inj (Option.some.inj h)
  cases hr : row.take gv with
  | nil => have := congrArg List.length hr; rw [List.length_take, List.length_nil] at this; omega
  | cons x l =>
    rw [hr] at h
    cases k with
    | zero => cases h
    | succ k => simp [List.replicate_succ] at h
theorem StAt.give_ne {Lg : Addr} {rs : List Addr} (S : StAt K t H A room row many gv tk turns) (h0 : 0 < gv ∨ rs ≠ []) (h : H Lg = some (.lst (rs.map V.ref))) : A.le ≠ Lg := by
  obtain ⟨b1, b2, b3, b4, b5, b6, b7, b8⟩ := S.nb
  rintro rfl
  rw [S.le] at h
  have h := HO.lst.inj (Option.some.inj h)
  cases rs with
  | nil =>
    rcases h0 with h0 | h0
    · have := congrArg List.length h
      rw [List.length_map, List.length_take, List.length_map, List.length_nil] at this
      omega
    · exact h0 rfl
  | cons x l =>
    cases hr : row.take gv with
    | nil => rw [hr] at h; cases h
    | cons y m => rw [hr] at h; simp at h
theorem do_c {Q : VK} {E : XK} {U : Addr} (S : StAt K t H A room row many gv tk turns) (h : tk < gv) (d : DeedAt H U 1 []) (k : ∀ H', Kept A H H' → StAt K t H' A room row many gv (tk + 1) turns → Q .non H') : sp_Flow_do K t [.ref A.f, .str "c", .ref U] H Q E := by
  unfold sp_Flow_do
  obtain ⟨La, Lg, rs, u1, u2, u3, u4⟩ := d
  obtain ⟨d1, d2, d3, d4, d5, d6, d7, d8, d9, d10⟩ := S.nd
  obtain ⟨b1, b2, b3, b4, b5, b6, b7, b8⟩ := S.nb
  refine ⟨A.f, A.n, A.E, A.G, A.Kp, A.D, A.Rw, A.le, U, La, Lg, _, _, "c", tk, tk, 0, 1, rs, [], _, rfl, S.flow, S.ever, S.gone, S.kept, by show 2 ≤ 16; decide, S.done, by show 2 ≤ 16; decide, val_c _ _, u1, u2, u3, u4, S.le, by rw [List.length_map, List.length_take]; omega, by simp, d1, d2, d3, d4, S.give_ne (.inl (by omega)) u3, ?_⟩
  have := k _ (H4_kept (H := H) (row := row) (many := many) (gv := gv) (tk := tk + 1)) (S.upd4 (gv' := gv) (tk' := tk + 1) ⟨b1, b2, by omega, by omega⟩)
  rw [put_c, put_c]
  unfold H4 at this
  rw [List.map_nil, List.append_nil]
  exact this
theorem do_a {Q : VK} {E : XK} {U : Addr} (S : StAt K t H A room row many gv tk turns) (h : gv < row.length) (h2 : (gv : Int) + 1 - tk ≤ room) (d : DeedAt H U 0 [row.getD gv 0]) (k : ∀ H', Kept A H H' → StAt K t H' A room row many (gv + 1) tk turns → Q .non H') : sp_Flow_do K t [.ref A.f, .str "a", .ref U] H Q E := by
  unfold sp_Flow_do
  obtain ⟨La, Lg, rs, u1, u2, u3, u4⟩ := d
  obtain ⟨d1, d2, d3, d4, d5, d6, d7, d8, d9, d10⟩ := S.nd
  obtain ⟨b1, b2, b3, b4, b5, b6, b7, b8⟩ := S.nb
  have hrs : rs ≠ [] := by rintro rfl; have := Paired.length u4; simp at this
  refine ⟨A.f, A.n, A.E, A.G, A.Kp, A.D, A.Rw, A.le, U, La, Lg, _, _, "a", tk, ((gv - many : Nat) : Nat), 0, 0, rs, [row.getD gv 0], _, rfl, S.flow, S.ever, S.gone, S.kept, by show 2 ≤ 16; decide, S.done, by show 2 ≤ 16; decide, val_a _ _, u1, u2, u3, u4, S.le, by rw [List.length_map, List.length_take]; omega, by simp, d1, d2, d3, d4, S.give_ne (.inr hrs) u3, ?_⟩
  have := k _ (H4_kept (H := H) (row := row) (many := many) (gv := gv + 1) (tk := tk)) (S.upd4 (gv' := gv + 1) (tk' := tk) ⟨by omega, by omega, by omega, by omega⟩)
  rw [put_a, put_a]
  unfold H4 at this
  have e1 : (row.take gv).map V.int ++ [row.getD gv 0].map V.int = (row.take (gv + 1)).map V.int := by
    rw [List.take_succ, List.getD_eq_getElem?_getD, List.getElem?_eq_getElem h, List.map_append]
    rfl
  have e2 : ((gv - many : Nat) : Int) + 1 = ((gv + 1 - many : Nat) : Int) := by omega
  rw [e1, e2, show (tk : Int) + ((0 : Nat) : Int) = (tk : Int) by omega]
  exact this
theorem DeedAt.kept {U : Addr} {k : Nat} {ws : List Int} (S : StAt K t H A room row many gv tk turns) (h0 : 0 < gv) (c : Kept A H H') (d : DeedAt H U k ws) : DeedAt H' U k ws := by
  obtain ⟨La, Lg, rs, u1, u2, u3, u4⟩ := d
  obtain ⟨dx, fs, r1, r2, r3⟩ := S.run
  have kt : ∀ {b : Addr} {vs : List V}, H b = some (.tup vs) → H' b = some (.tup vs) := fun e => c _ _ (ne_of e r1 (by intro z; cases z)) (ne_of e S.gone (by intro z; cases z)) (ne_of e S.le (by intro z; cases z)) (ne_of e S.kept (by intro z; cases z)) (ne_of e S.done (by intro z; cases z)) e
  have kl : ∀ {b : Addr} {vs : List V}, b ≠ A.le → H b = some (.lst vs) → H' b = some (.lst vs) := fun n e => c _ _ (ne_of e r1 (by intro z; cases z)) (ne_of e S.gone (by intro z; cases z)) n (ne_of e S.kept (by intro z; cases z)) (ne_of e S.done (by intro z; cases z)) e
  refine ⟨La, Lg, rs, kt u1, kl (S.deed_ne (U := U) (Lg := Lg) (rs := rs) h0 u2) u2, kl (Ne.symm (S.give_ne (.inl h0) u3)) u3, ?_⟩
  clear u1 u2 u3
  generalize ws.map (fun v => [V.str "b", V.int v]) = vss at u4
  induction u4 with
  | nil => exact .nil
  | cons h _ ih => exact .cons (kt h) ih
theorem StAt.turned (S : StAt K t H A room row many gv tk turns) (hb : turns < 500) {dx : Addr} {fs : List (Str × V)} (e : H A.r = some (.ins t.C_Run dx fs)) : StAt K t (upd H A.r (.ins t.C_Run dx (putF "turns" (.int ((turns : Int) + 1)) fs))) A room row many gv tk (turns + 1) := by
  obtain ⟨dx', fs', r1, r2, r3⟩ := S.run
  rw [e] at r1
  cases r1
  obtain ⟨dxf, fsf, f1, f2⟩ := S.flow.ex
  obtain ⟨dxn, fsn, R, F, Pd, Gv, Tk, n1, n2, n3, n4, n5, n6⟩ := S.net
  obtain ⟨e1, e2, e3, e4, e5⟩ := S.ne
  obtain ⟨b1, b2, b3, b4, b5, b6, b7, b8⟩ := S.nb
  have kz : ∀ {b : Addr} {o : HO}, H b = some o → (∀ C dx fs, o ≠ .ins C dx fs) → upd H A.r (.ins t.C_Run dx (putF "turns" (.int ((turns : Int) + 1)) fs)) b = some o := fun h1 h2 => by
    rw [upd_ne (ne_of h1 e (fun z => h2 _ _ _ z))]
    exact h1
  have kx : ∀ {b : Addr} {o : HO}, H b = some o → (∀ ks, o ≠ .dK ks) → (∀ ys, o ≠ .lst ys) → (∀ C dx fs, o ≠ .ins C dx fs) → upd H A.r (.ins t.C_Run dx (putF "turns" (.int ((turns : Int) + 1)) fs)) b = some o := fun h1 _ _ h2 => kz h1 h2
  refine ⟨⟨dx, _, upd_same, ?_, ?_, ?_⟩, ⟨dxn, fsn, R, F, Pd, Gv, Tk, by rw [upd_ne e4]; exact n1, n2, kz n3 (by intro _ _ _ z; cases z), kz n4 (by intro _ _ _ z; cases z), kz n5 (by intro _ _ _ z; cases z), n6⟩, part_ks kx S.cP (upd_ne e2), part_ks kx S.aP (upd_ne e3), ⟨dxf, fsf, by rw [upd_ne e5]; exact f1, f2⟩, kz S.ever (by intro _ _ _ z; cases z), kz S.gone (by intro _ _ _ z; cases z), kz S.kept (by intro _ _ _ z; cases z), kz S.done (by intro _ _ _ z; cases z), kz S.rows (by intro _ _ _ z; cases z), kz S.le (by intro _ _ _ z; cases z), kz S.lr (by intro _ _ _ z; cases z), S.ne, S.nd, ⟨b1, b2, b3, b4, b5, b6, b7, by omega⟩, S.bd⟩
  · have := length_putF "turns" (.int ((turns : Int) + 1)) fs
    omega
  · intro q hq
    rw [lookup_putF]
    simp only [List.mem_cons, List.not_mem_nil, or_false] at hq
    rcases hq with rfl | rfl | rfl
    · rw [if_neg (by show ¬ ("net" : Str) = "turns"; decide +kernel)]; exact r3.has ("net", .ref A.n) (by simp)
    · rw [if_neg (by show ¬ ("flow" : Str) = "turns"; decide +kernel)]; exact r3.has ("flow", .ref A.f) (by simp)
    · rw [if_pos rfl]; rfl
  · intro m hm
    rw [lookup_putF]
    have hne : ∀ m ∈ (["step", "need_doors", "next_deed", "full_lane", "can_work", "works", "taken", "lane_now", "had", "turn", "rows_left"] : List Str), ¬ m = "turns" := by decide +kernel
    rw [if_neg (hne m hm)]
    exact r3.no m hm
end
theorem Kept.free {H H' : Hp} {A : Pl} {room : Int} {row : List Int} {many gv tk turns : Nat} {p : Addr} (S : StAt K t H' A room row many gv tk turns) (c : Kept A H H') (np : H' p = none) : H p = none := by
  cases e : H p with
  | none => rfl
  | some o =>
    exfalso
    by_cases h1 : p = A.r
    · subst h1; obtain ⟨_, _, z, _⟩ := S.run; rw [z] at np; cases np
    by_cases h2 : p = A.G
    · subst h2; rw [S.gone] at np; cases np
    by_cases h3 : p = A.le
    · subst h3; rw [S.le] at np; cases np
    by_cases h4 : p = A.Kp
    · subst h4; rw [S.kept] at np; cases np
    by_cases h5 : p = A.D
    · subst h5; rw [S.done] at np; cases np
    rw [c p o h1 h2 h3 h4 h5 e] at np
    cases np
theorem inV_str (y : Str) (xs : List Str) : inV (.str y) (xs.map V.str) = decide (y ∈ xs) := by
  rw [Bool.eq_iff_iff, decide_eq_true_iff]
  unfold inV
  rw [List.any_eq_true]
  constructor
  · rintro ⟨v, hv, e⟩
    obtain ⟨z, hz, rfl⟩ := List.mem_map.mp hv
    have : z = y := by simpa [eqV] using e
    rw [← this]; exact hz
  · intro h
    exact ⟨.str y, List.mem_map.mpr ⟨y, h, rfl⟩, by simp [eqV]⟩
/-- what a turn's first list holds for a part -/
def Pr (H : Hp) (y : Str) (can : Bool) (k : Nat) (ws : List Int) (isin : Bool) (vs : List V) : Prop :=
  (isin = true ∧ vs = []) ∨ (isin = false ∧ ∃ q v, vs = [V.ref q] ∧ H q = some (.tup [.str y, v]) ∧ ((can = false ∧ v = .non) ∨ (can = true ∧ ∃ U, v = .ref U ∧ DeedAt H U k ws)))
theorem Pr.same {H H' : Hp} {y : Str} {can isin : Bool} {k : Nat} {ws : List Int} {vs : List V} (h : Pr H y can k ws isin vs) (s : Same H H') : Pr H' y can k ws isin vs := by
  rcases h with h | ⟨h1, q, v, h2, h3, h4⟩
  · exact .inl h
  · refine .inr ⟨h1, q, v, h2, s _ _ h3, ?_⟩
    rcases h4 with h4 | ⟨h4, U, h5, h6⟩
    · exact .inl h4
    · exact .inr ⟨h4, U, h5, h6.same s⟩
def fDue (H : Hp) : V → Bool
  | .ref q => (match H q with | some (.tup [_, .non]) => false | _ => true)
  | _ => true
theorem Pr.each {H : Hp} {y : Str} {can isin : Bool} {k : Nat} {ws : List Int} {vs : List V} (h : Pr H y can k ws isin vs) : ∀ v ∈ vs, ∃ q u, v = .ref q ∧ H q = some (.tup [.str y, u]) ∧ (u = .non ∧ fDue H v = false ∨ (∃ U, u = .ref U) ∧ fDue H v = true) := by
  intro v hv
  rcases h with ⟨_, rfl⟩ | ⟨h1, q, u, rfl, h3, h4⟩
  · cases hv
  · rw [List.mem_singleton] at hv
    subst hv
    refine ⟨q, u, rfl, h3, ?_⟩
    rcases h4 with ⟨_, rfl⟩ | ⟨_, U, rfl, _⟩
    · exact .inl ⟨rfl, by simp [fDue, h3]⟩
    · exact .inr ⟨⟨U, rfl⟩, by simp [fDue, h3]⟩
def DuF (H : Hp) (y : Str) (k : Nat) (ws : List Int) (go : Bool) (qs : List Addr) : Prop :=
  (go = false ∧ qs = []) ∨ (go = true ∧ ∃ q U, qs = [q] ∧ H q = some (.tup [.str y, .ref U]) ∧ DeedAt H U k ws)
theorem Pr.due {H : Hp} {y : Str} {can isin : Bool} {k : Nat} {ws : List Int} {vs : List V} (h : Pr H y can k ws isin vs) : ∃ qs : List Addr, vs.filter (fDue H) = qs.map V.ref ∧ DuF H y k ws (can && !isin) qs := by
  rcases h with ⟨rfl, rfl⟩ | ⟨rfl, q, u, rfl, h3, h4⟩
  · exact ⟨[], rfl, .inl ⟨by simp, rfl⟩⟩
  · rcases h4 with ⟨rfl, rfl⟩ | ⟨rfl, U, rfl, h5⟩
    · exact ⟨[], by simp [fDue, h3], .inl ⟨rfl, rfl⟩⟩
    · exact ⟨[q], by simp [fDue, h3], .inr ⟨rfl, q, U, rfl, h3, h5⟩⟩
theorem DuF.same {H H' : Hp} {y : Str} {k : Nat} {ws : List Int} {go : Bool} {qs : List Addr} (h : DuF H y k ws go qs) (s : Same H H') : DuF H' y k ws go qs := by
  rcases h with h | ⟨h1, q, U, h2, h3, h4⟩
  · exact .inl h
  · exact .inr ⟨h1, q, U, h2, s _ _ h3, h4.same s⟩
theorem DuF.len {H : Hp} {y : Str} {k : Nat} {ws : List Int} {go : Bool} {qs : List Addr} (h : DuF H y k ws go qs) : qs.length = if go = true then 1 else 0 := by
  rcases h with ⟨rfl, rfl⟩ | ⟨rfl, q, U, rfl, _⟩ <;> rfl
theorem DuF.get {H : Hp} {y : Str} {k : Nat} {ws : List Int} {go : Bool} {qs : List Addr} (h : DuF H y k ws go qs) {j : Nat} {q : Addr} (e : qs[j]? = some q) : go = true ∧ j = 0 ∧ qs.length = 1 ∧ ∃ U, H q = some (.tup [.str y, .ref U]) ∧ DeedAt H U k ws := by
  rcases h with ⟨rfl, rfl⟩ | ⟨rfl, q', U, rfl, h3, h4⟩
  · cases e
  · have hj := (List.getElem?_eq_some_iff.mp e).1
    have hj0 : j = 0 := by simp at hj; exact hj
    subst hj0
    cases e
    exact ⟨rfl, rfl, rfl, U, h3, h4⟩
def sp_Run_step (K : PySem.W.Frag) (t : Adr) : Sp := fun vs H Q _ => ∃ (A : Pl) (room : Int) (row : List Int) (many gv tk turns : Nat) (L : Addr) (xs : List Str), vs = [.ref A.r, .ref L] ∧ StAt K t H A room row many gv tk turns ∧ turns < 500 ∧ SqL K H L (xs.map V.str) ∧ xs.length ≤ 100 ∧ (∀ x ∈ xs, x = "c" ∨ x = "a") ∧ ∀ H' p, Kept A H H' → StAt K t H' A room row many (gv + (if goA row room gv tk xs = true then 1 else 0)) (tk + (if goC gv tk xs = true then 1 else 0)) (turns + 1) → H p = none → H' p = some (.lst ((if goC gv tk xs = true then [V.str "c"] else []) ++ (if goA row room gv tk xs = true then [V.str "a"] else []))) → Q (.ref p) H'
theorem sc_Run_step : FnScope ["self", "held", "back", "deeds", "due", "name", "deed"] ["self", "held"] (defScope s_Run_step) := ⟨rfl, rfl, rfl, by decide +kernel, rfl, by decide +kernel, by decide +kernel⟩
theorem ok_Run_step (T : Txt w K mg t) : FnOk P w K mg base CX0 7 t.f_Run_step t.fd_Run_step ["self", "held"] (sp_Run_step K t) := by
  have sc := sc_Run_step
  refine T.F_Run_step.ok sc (fun vs H Q E h => ?_) (fun cdv A outer s H vs Q E hr h => ?_)
  · obtain ⟨A, room, row, many, gv, tk, turns, L, xs, rfl, _⟩ := h
    rfl
  · obtain ⟨A, room, row, many, gv, tk, turns, L, xs, rfl, S, ht, hL, hn, hx, k⟩ := h
    refine ⟨_, (pss_cons (ps_set (i := 2) sc.nd rfl (Or.inr rfl) (pe_ifExp (pt_cmp (pc_isN (pv 1))) (pe_lst pa_nil) (pv 1)))
      (pss_cons (ps_expr (pe_meth (pv 0) T.c_Run T.me_Run_need_doors (ok_Run_need_doors T) (hr.mono (by decide)) T.b_Run_need_doors .nil pass0 (pa_cons (pv 2) pa_nil star_Name)))
      (pss_cons (ps_comp (i := 3) [0, 2] ["self", "held", "back", "deeds", "due", "name", "deed"] (defScope s_Run_step) rfl sc.nd rfl (pi_list (pe_meth0 (pe_fld (pv 0) rfl) T.c_Net T.me_Net_part_names (ok_Net_part_names T) (hr.mono (by decide)) T.b_Net_part_names .nil pass0)) (fun _ _ _ _ _ => (pf_one (pt_cmpR (op_notIn_seqK (K := K) rfl) (pv 0) (pv 2) (by with_unfolding_all rfl)))) (fun _ _ _ _ _ => (pe_tup (pa_cons (pv 0) (pa_cons (pe_meth (pv 1) T.c_Run T.me_Run_next_deed (ok_Run_next_deed T) (hr.mono (by decide)) T.b_Run_next_deed .nil pass0 (pa_cons (pv 0) pa_nil star_Name)) pa_nil star_Call) star_Name))))
      (pss_cons (ps_comp (i := 4) [] ["self", "held", "back", "deeds", "due", "name", "deed"] (defScope s_Run_step) rfl sc.nd rfl (pi_list (pv 3)) (fun _ _ _ _ _ => (pf_one (pt_cmp (pc_notN (pe_ix (ix_tupK (K := K) rfl) (pv 0) pe_int (fun _ _ => rfl)))))) (fun _ _ _ _ _ => (pv 0)))
      (pss_cons (ps_for PassesOwn.never rfl (pi_list (pv 4)) (pg_tup rfl (pgs_cons (pg_name (i := 5) sc.nd rfl (Or.inl rfl)) (pgs_cons (pg_name (i := 6) sc.nd rfl (Or.inl rfl)) pgs_nil)))
        (pss_one (ps_expr (pe_meth (pe_fld (pv 0) rfl) T.c_Flow T.me_Flow_do (ok_Flow_do T) (hr.mono (by decide)) T.b_Flow_do .nil pass0 (pa_cons (pv 5) (pa_cons (pv 6) pa_nil star_Name) star_Name)))))
      (pss_cons (ps_fldaug (pv 0) pe_int iop_add)
      (pss_one (ps_ret (pe_compH ["name", "deed"] [] ["self", "held", "back", "deeds", "due", "name", "deed"] (defScope s_Run_step) rfl (pi_list (pv 4)) (fun _ _ _ _ _ => pg_tupK (K := K) (n := 2) rfl rfl (pgs_cons (pg_name (i := 0) (show (["name", "deed"] : List Str).Nodup by decide +kernel) rfl (Or.inl rfl) (.inr rfl)) (pgs_cons (pg_name (i := 1) (show (["name", "deed"] : List Str).Nodup by decide +kernel) rfl (Or.inl rfl) (.inr rfl)) pgs_nil))) (fun _ _ _ _ _ => pf_nil) (fun _ _ _ _ _ => (pv 0))))))))))), ?_⟩
    have hl : sizeLine = 16777216 := sizeLine_eq
    obtain ⟨dx, fs, r1, r2, r3⟩ := S.run
    obtain ⟨dxf, fsf, f1, f2⟩ := S.flow.ex
    obtain ⟨dxn, fsn, R, F, Pd, Gv, Tk, n1, n2, n3, n4, n5, n6⟩ := S.net
    obtain ⟨b1, b2, b3, b4, b5, b6, b7, b8⟩ := S.nb
    
    have nc : A.r ≠ A.r → False := fun z => z rfl
    refine ⟨_, rfl, _, rfl, iteF ⟨_, rfl, ?_⟩⟩
    refine ⟨_, rfl, A.r, dx, fs, rfl,  r1, r3.no _ (by decide +kernel), _, rfl, A, room, row, many, gv, tk, turns, L, xs, rfl, S, hL, hn, hx, fun H1 s1 => ?_⟩
    have S1 := S.same s1
    refine ⟨_, rfl, A.r, _, dx, fs, _, rfl, s1 _ _ r1, T.c_Run, T.na_Run_net, r3.has ("net", .ref A.n) (by simp), A.n, dxn, fsn, rfl, s1 _ _ n1, n2.no _ (by decide +kernel), A.n, _, _, _, rfl, S1.netAt, fun l nl => ?_⟩
    have s2 := s1.trans (same_new (o := .lst [.str "c", .str "a"]) nl)
    have el : (upd H1 l (.lst [.str "c", .str "a"])) l = some (.lst [.str "c", .str "a"]) := upd_same
    refine ⟨l, rfl, ⟨_, SqL.of el⟩, comp_list (K := K) (a := l) (xs := [.str "c", .str "a"]) (fun j ys H' => Same (upd H1 l (.lst [.str "c", .str "a"])) H' ∧ ys.length ≤ j ∧ ((j = 0 ∧ ys = []) ∨ (j = 1 ∧ Pr H' "c" (decide (tk < gv)) 1 [] (decide (("c" : Str) ∈ xs)) ys) ∨ (j = 2 ∧ ∃ y1 y2, ys = y1 ++ y2 ∧ Pr H' "c" (decide (tk < gv)) 1 [] (decide (("c" : Str) ∈ xs)) y1 ∧ Pr H' "a" (decide (gv < row.length ∧ (gv : Int) - tk < room)) 0 [row.getD gv 0] (decide (("a" : Str) ∈ xs)) y2))) (by show 2 ≤ sizeLine; omega) ⟨Same.refl _, by simp, .inl ⟨rfl, rfl⟩⟩ (fun j ys H' h => h.2.1) (fun j ys H' _ h => h.1.seq (SqL.of el)) ?_ ?_⟩
    · rintro j x ys H' hj ⟨s3', hys, inv⟩
      have s3 := s2.trans s3'
      have hL3 := s3.seq hL
      have hflat : (xs.map V.str).all flatV = true := by simp [flatV]
      have hj2 : j < 2 := (List.getElem?_eq_some_iff.mp hj).1
      rcases inv with ⟨rfl, rfl⟩ | ⟨rfl, inv⟩ | ⟨rfl, _⟩
      · cases hj
        refine ⟨_, rfl, _, rfl, L, _, rfl, .inl hL3, rfl, hflat, _, rfl, ?_⟩
        rw [inV_str]
        refine ite2 (fun e => ?_) (fun e => ?_)
        · have e' : decide (("c" : Str) ∈ xs) = false := by simpa using e
          refine ⟨_, rfl, _, rfl, A.r, dx, fs, rfl, s3 _ _ r1, r3.no _ (by decide +kernel), _, rfl, A, room, row, many, gv, tk, turns, "c", rfl, S.same s3, .inl ⟨rfl, ?_⟩⟩
          by_cases h : tk < gv
          · refine .inr ⟨h, fun H4 U s4 d4 => ⟨by show 2 ≤ sizeLine; omega, fun q nq => ?_⟩⟩
            exact ⟨s3'.trans (s4.trans (same_new nq)), by simp, .inr (.inl ⟨rfl, .inr ⟨e', q, .ref U, rfl, upd_same, .inr ⟨decide_eq_true h, U, rfl, d4.same (same_new nq)⟩⟩⟩)⟩
          · refine .inl ⟨h, fun H4 s4 => ⟨by show 2 ≤ sizeLine; omega, fun q nq => ?_⟩⟩
            exact ⟨s3'.trans (s4.trans (same_new nq)), by simp, .inr (.inl ⟨rfl, .inr ⟨e', q, .non, rfl, upd_same, .inl ⟨decide_eq_false h, rfl⟩⟩⟩)⟩
        · have e' : decide (("c" : Str) ∈ xs) = true := by simpa using e
          exact ⟨s3', by simp, .inr (.inl ⟨rfl, .inl ⟨e', rfl⟩⟩)⟩
      · cases hj
        refine ⟨_, rfl, _, rfl, L, _, rfl, .inl hL3, rfl, hflat, _, rfl, ?_⟩
        rw [inV_str]
        refine ite2 (fun e => ?_) (fun e => ?_)
        · have e' : decide (("a" : Str) ∈ xs) = false := by simpa using e
          refine ⟨_, rfl, _, rfl, A.r, dx, fs, rfl, s3 _ _ r1, r3.no _ (by decide +kernel), _, rfl, A, room, row, many, gv, tk, turns, "a", rfl, S.same s3, .inr ⟨rfl, ?_⟩⟩
          by_cases h : gv < row.length ∧ (gv : Int) - tk < room
          · refine .inr ⟨h, fun H4 U s4 d4 => ⟨by show 2 ≤ sizeLine; omega, fun q nq => ?_⟩⟩
            exact ⟨s3'.trans (s4.trans (same_new nq)), by rw [List.length_append]; show ys.length + 1 ≤ 1 + 1; omega, .inr (.inr ⟨rfl, ys, [.ref q], rfl, inv.same (s4.trans (same_new nq)), .inr ⟨e', q, .ref U, rfl, upd_same, .inr ⟨decide_eq_true h, U, rfl, d4.same (same_new nq)⟩⟩⟩)⟩
          · refine .inl ⟨h, fun H4 s4 => ⟨by show 2 ≤ sizeLine; omega, fun q nq => ?_⟩⟩
            exact ⟨s3'.trans (s4.trans (same_new nq)), by rw [List.length_append]; show ys.length + 1 ≤ 1 + 1; omega, .inr (.inr ⟨rfl, ys, [.ref q], rfl, inv.same (s4.trans (same_new nq)), .inr ⟨e', q, .non, rfl, upd_same, .inl ⟨decide_eq_false h, rfl⟩⟩⟩)⟩
        · have e' : decide (("a" : Str) ∈ xs) = true := by simpa using e
          exact ⟨s3', by omega, .inr (.inr ⟨rfl, ys, [], by simp, inv, .inl ⟨e', rfl⟩⟩)⟩
      · omega
    rintro ys H3 ⟨s3', hys, inv⟩ D1 nD1
    have s3 := s2.trans s3'
    rcases inv with ⟨h, _⟩ | ⟨h, _⟩ | ⟨_, y1, y2, rfl, P1, P2⟩
    · cases h
    · cases h
    have s4' := same_new (o := .lst (y1 ++ y2)) nD1
    have s4 := s3.trans s4'
    have eD1 : (upd H3 D1 (.lst (y1 ++ y2))) D1 = some (.lst (y1 ++ y2)) := upd_same
    replace P1 := P1.same s4'
    replace P2 := P2.same s4'
    have hlen2 : (y1 ++ y2).length ≤ 2 := hys
    generalize upd H3 D1 (.lst (y1 ++ y2)) = H4 at s4 eD1 P1 P2 ⊢
    clear s4' nD1
    have each : ∀ v ∈ y1 ++ y2, ∃ (y : Str) (q : Addr) (u : V), v = .ref q ∧ H4 q = some (.tup [.str y, u]) ∧ (u = .non ∧ fDue H4 v = false ∨ (∃ U, u = .ref U) ∧ fDue H4 v = true) := by
      intro v hv
      rcases List.mem_append.mp hv with h | h
      · obtain ⟨q, u, h⟩ := P1.each v h
        exact ⟨_, q, u, h⟩
      · obtain ⟨q, u, h⟩ := P2.each v h
        exact ⟨_, q, u, h⟩
    refine ⟨_, rfl, D1, rfl, ⟨_, SqL.of eD1⟩, comp_list (K := K) (a := D1) (xs := y1 ++ y2) (fun j ys H' => H' = H4 ∧ ys = ((y1 ++ y2).take j).filter (fDue H4)) (by omega) ⟨rfl, rfl⟩ (fun j ys H' ⟨_, e⟩ => by rw [e]; exact Nat.le_trans (List.length_filter_le _ _) (by rw [List.length_take]; omega)) (fun j ys H' _ ⟨e, _⟩ => by rw [e]; exact SqL.of eD1) ?_ ?_⟩
    · rintro j x ys H' hj ⟨rfl, rfl⟩
      obtain ⟨y, q, u, rfl, h1, h2⟩ := each x (List.mem_of_getElem? hj)
      refine ⟨_, rfl, q, _, 1, _, rfl, rfl, SqT.of h1, atI_nat (j := 1) rfl, ?_⟩
      rw [List.take_succ, hj, Option.toList_some, List.filter_append]
      rcases h2 with ⟨rfl, h2⟩ | ⟨⟨U, rfl⟩, h2⟩
      · exact ⟨_, rfl, iteF ⟨rfl, by simp [List.filter_cons, h2]⟩⟩
      · exact ⟨_, rfl, iteT ⟨_, rfl, rfl, by simp [List.filter_cons, h2]⟩⟩
    rintro ys H' ⟨rfl, rfl⟩ D2 nD2
    rw [List.take_length, List.filter_append]
    obtain ⟨q1, e1, F1⟩ := P1.due
    obtain ⟨q2, e2, F2⟩ := P2.due
    rw [e1, e2, ← List.map_append]
    have hD2 : D2 ≠ A.le := Ne.symm (ne_of_none (s4 _ _ S.le) nD2)
    have s5' := same_new (o := .lst ((q1 ++ q2).map V.ref)) nD2
    have s5 := s4.trans s5'
    have eD2 : (upd H' D2 (.lst ((q1 ++ q2).map V.ref))) D2 = some (.lst ((q1 ++ q2).map V.ref)) := upd_same
    replace F1 := F1.same s5'
    replace F2 := F2.same s5'
    generalize upd H' D2 (.lst ((q1 ++ q2).map V.ref)) = H5 at s5 eD2 F1 F2 ⊢
    clear s5' nD2 e1 e2 P1 P2 each
    have S5 := S.same s5
    have l1 := F1.len
    have l2 := F2.len
    obtain ⟨dx5, fs5, r15, r25, r35⟩ := S5.run
    have kD : ∀ {Ha Hb : Hp} {gv' tk' : Nat} {vs : List V}, StAt K t Ha A room row many gv' tk' turns → Kept A Ha Hb → Ha D2 = some (.lst vs) → Hb D2 = some (.lst vs) := fun Sa c e => by
      obtain ⟨_, _, ra, _⟩ := Sa.run
      exact c _ _ (ne_of e ra (by intro z; cases z)) (ne_of e Sa.gone (by intro z; cases z)) hD2 (ne_of e Sa.kept (by intro z; cases z)) (ne_of e Sa.done (by intro z; cases z)) e
    have kT : ∀ {Ha Hb : Hp} {gv' tk' : Nat} {b : Addr} {vs : List V}, StAt K t Ha A room row many gv' tk' turns → Kept A Ha Hb → Ha b = some (.tup vs) → Hb b = some (.tup vs) := fun Sa c e => by
      obtain ⟨_, _, ra, _⟩ := Sa.run
      exact c _ _ (ne_of e ra (by intro z; cases z)) (ne_of e Sa.gone (by intro z; cases z)) (ne_of e Sa.le (by intro z; cases z)) (ne_of e Sa.kept (by intro z; cases z)) (ne_of e Sa.done (by intro z; cases z)) e
    refine ⟨_, rfl, D2, rfl, ⟨_, SqL.of eD2⟩, for_list (K := K) (a := D2) (xs := (q1 ++ q2).map V.ref) (fun j σ H' => (j ≤ q1.length + q2.length ∧ (j = 0 → H' = H5)) ∧ Kept A H5 H' ∧ StAt K t H' A room row many (gv + (j - q1.length)) (tk + min j q1.length) turns ∧ H' D2 = some (.lst ((q1 ++ q2).map V.ref)) ∧ ∃ v5 v6, σ = [some (.ref A.r), some (.ref L), some (.ref L), some (.ref D1), some (.ref D2), v5, v6]) ⟨⟨by omega, fun _ => rfl⟩, fun _ _ _ _ _ _ _ e => e, by simpa using S5, eD2, none, none, rfl⟩ (fun j σ H' _ h => SqL.of h.2.2.2.1) ?_ ?_⟩
    · rintro j x σ H' hj ⟨⟨hjl, hj00⟩, kp, Sj, eDj, v5, v6, rfl⟩
      rw [List.getElem?_map] at hj
      obtain ⟨q, hq, rfl⟩ := Option.map_eq_some_iff.mp hj
      obtain ⟨dxj, fsj, rj1, rj2, rj3⟩ := Sj.run
      obtain ⟨dxg, fsg, g1, g2⟩ := Sj.flow.ex
      by_cases hlt : j < q1.length
      · rw [List.getElem?_append_left hlt] at hq
        obtain ⟨hgo, rfl, hq1, U, t1, d1⟩ := F1.get hq
        have hgo' : tk < gv := by
          have : (decide (tk < gv) && !decide (("c" : Str) ∈ xs)) = true := hgo
          rw [Bool.and_eq_true] at this
          exact of_decide_eq_true this.1
        have Sj' : StAt K t H' A room row many gv tk turns := by simpa using Sj
        have t1' := kT S5 kp t1
        refine ⟨q, _, rfl, SqT.of t1', rfl, _, _, rfl, _, _, rfl, rfl, ?_⟩
        refine ⟨_, rfl, A.r, _, dxj, fsj, _, rfl, rj1, T.c_Run, T.na_Run_flow, rj3.has ("flow", .ref A.f) (by simp), A.f, dxg, fsg, rfl, g1, g2.no _ (by decide +kernel), _, rfl, _, rfl, ?_⟩
        refine do_c Sj' hgo' (d1.kept S5 (by omega) kp) fun H6 k6 S6 => ⟨⟨by omega, fun z => by omega⟩, kp.trans k6, ?_, kD Sj' k6 eDj, _, _, rfl⟩
        rw [hq1]
        exact S6
      · rw [List.getElem?_append_right (by omega)] at hq
        obtain ⟨hgo, hj0, hq2, U, t1, d1⟩ := F2.get hq
        have hgo' : gv < row.length ∧ (gv : Int) - tk < room := by
          have : (decide (gv < row.length ∧ (gv : Int) - tk < room) && !decide (("a" : Str) ∈ xs)) = true := hgo
          rw [Bool.and_eq_true] at this
          exact of_decide_eq_true this.1
        have hmin : min j q1.length = q1.length := by omega
        have Sj' : StAt K t H' A room row many gv (tk + q1.length) turns := by
          have := Sj
          rw [hj0, hmin, Nat.add_zero] at this
          exact this
        have t1' := kT S5 kp t1
        refine ⟨q, _, rfl, SqT.of t1', rfl, _, _, rfl, _, _, rfl, rfl, ?_⟩
        refine ⟨_, rfl, A.r, _, dxj, fsj, _, rfl, rj1, T.c_Run, T.na_Run_flow, rj3.has ("flow", .ref A.f) (by simp), A.f, dxg, fsg, rfl, g1, g2.no _ (by decide +kernel), _, rfl, _, rfl, ?_⟩
        have dj : DeedAt H' U 0 [row.getD gv 0] := by
          by_cases h0 : 0 < gv
          · exact d1.kept S5 h0 kp
          · have hq0 : q1.length = 0 := by
              rw [l1, if_neg]
              intro z
              rw [Bool.and_eq_true] at z
              have := of_decide_eq_true z.1
              omega
            rw [hj00 (by omega)]
            exact d1
        refine do_a Sj' hgo'.1 (by omega) dj fun H6 k6 S6 => ⟨⟨by omega, fun z => by omega⟩, kp.trans k6, ?_, kD Sj' k6 eDj, _, _, rfl⟩
        have ea : j + 1 - q1.length = 1 := by omega
        have eb : min (j + 1) q1.length = q1.length := by omega
        rw [ea, eb]
        exact S6
    rintro σ H6 ⟨_, k6, S6, eD6, v5, v6, rfl⟩
    rw [List.length_map, List.length_append, show q1.length + q2.length - q1.length = q2.length by omega, show min (q1.length + q2.length) q1.length = q1.length by omega] at S6
    obtain ⟨dx6, fs6, r61, r62, r63⟩ := S6.run
    refine ⟨_, rfl, A.r, _, dx6, fs6, .int turns, rfl, r61, T.c_Run, T.na_Run_turns, r63.has ("turns", .int turns) (by simp), _, _, rfl, rfl, dx6, fs6, r61, by omega, ?_⟩
    have S7 := S6.turned ht r61
    have k7 : Kept A H6 (upd H6 A.r (.ins t.C_Run dx6 (putF "turns" (.int ((turns : Int) + 1)) fs6))) := fun b o h _ _ _ _ e => by rw [upd_ne h]; exact e
    have k57 := k6.trans k7
    have eD7 := kD S6 k7 eD6
    have c1 : ∀ {j : Nat} {q : Addr}, q1[j]? = some q → ∃ U, upd H6 A.r (.ins t.C_Run dx6 (putF "turns" (.int ((turns : Int) + 1)) fs6)) q = some (.tup [.str "c", .ref U]) := fun e => by
      obtain ⟨_, _, _, U, t1, _⟩ := F1.get e
      exact ⟨U, kT S5 k57 t1⟩
    have c2 : ∀ {j : Nat} {q : Addr}, q2[j]? = some q → ∃ U, upd H6 A.r (.ins t.C_Run dx6 (putF "turns" (.int ((turns : Int) + 1)) fs6)) q = some (.tup [.str "a", .ref U]) := fun e => by
      obtain ⟨_, _, _, U, t1, _⟩ := F2.get e
      exact ⟨U, kT S5 k57 t1⟩
    have fin := fun p hp h => k (upd (upd H6 A.r (.ins t.C_Run dx6 (putF "turns" (.int ((turns : Int) + 1)) fs6))) p (.lst (List.replicate q1.length (.str "c") ++ List.replicate q2.length (.str "a")))) p ((Kept.of_same s5).trans (k57.trans (Kept.of_same (same_new hp)))) (by rw [show (if goA row room gv tk xs = true then 1 else 0) = q2.length from l2.symm, show (if goC gv tk xs = true then 1 else 0) = q1.length from l1.symm]; exact S7.same (same_new hp)) h (by rw [upd_same, l1, l2]; unfold goC goA; split <;> split <;> rfl)
    generalize upd H6 A.r (.ins t.C_Run dx6 (putF "turns" (.int ((turns : Int) + 1)) fs6)) = H7 at S7 k7 k57 eD7 c1 c2 fin ⊢
    refine ⟨_, rfl, D2, rfl, ⟨_, SqL.of eD7⟩, ?_⟩
    refine comp_listH (K := K) (a := D2) (xs := (q1 ++ q2).map V.ref) (fun j ys H8 => H8 = H7 ∧ j ≤ q1.length + q2.length ∧ ys = List.replicate (min j q1.length) (.str "c") ++ List.replicate (j - q1.length) (.str "a")) (by rw [List.length_map, List.length_append, l1, l2]; split <;> split <;> omega) ⟨rfl, by omega, by simp⟩ ?_ (fun j ys H8 _ ⟨e, _⟩ => by rw [e]; exact SqL.of eD7) ?_ ?_
    · rintro j ys H8 ⟨_, _, rfl⟩
      rw [List.length_append, List.length_replicate, List.length_replicate]
      omega
    · rintro j v ys H8 hj ⟨rfl, hjl, rfl⟩
      rw [List.getElem?_map] at hj
      obtain ⟨q, hq, rfl⟩ := Option.map_eq_some_iff.mp hj
      have hlt' := (List.getElem?_eq_some_iff.mp hq).1
      rw [List.length_append] at hlt'
      by_cases hlt : j < q1.length
      · rw [List.getElem?_append_left hlt] at hq
        obtain ⟨U, t1⟩ := c1 hq
        refine ⟨q, _, rfl, SqT.of t1, rfl, _, _, rfl, _, _, rfl, rfl, rfl, ?_⟩
        refine yes ⟨_, rfl, rfl, by omega, ?_⟩
        rw [show min j q1.length = j by omega, show j - q1.length = 0 by omega, show min (j + 1) q1.length = j + 1 by omega, show j + 1 - q1.length = 0 by omega]
        simp [List.replicate_succ']
      · rw [List.getElem?_append_right (by omega)] at hq
        obtain ⟨U, t1⟩ := c2 hq
        refine ⟨q, _, rfl, SqT.of t1, rfl, _, _, rfl, _, _, rfl, rfl, rfl, ?_⟩
        refine yes ⟨_, rfl, rfl, by omega, ?_⟩
        rw [show min (j + 1) q1.length = min j q1.length by omega, show j + 1 - q1.length = (j - q1.length) + 1 by omega]
        simp [List.replicate_succ']
    · rintro ys H8 ⟨rfl, _, rfl⟩ p np
      rw [List.length_map, List.length_append, show q1.length + q2.length - q1.length = q2.length by omega, show min (q1.length + q2.length) q1.length = q1.length by omega]
      exact fin p np (Kept.free S7 ((Kept.of_same s5).trans k57) np)
def sp_is_name (K : PySem.W.Frag) : Sp := fun vs H Q _ => ∃ x, vs = [x] ∧ ((∃ z : Str, x = .str z ∧ z.length ≤ 100 ∧ ∀ H', Same H H' → Q (.bl (nameB z)) H') ∨ ∃ Tx, tyN K H x Tx ∧ Tx ∈ kindTab ∧ Tx ≠ "str" ∧ Q (.bl false) H)
theorem sc_is_name : FnScope ["thing"] ["thing"] (defScope s_is_name) := ⟨rfl, rfl, rfl, by decide +kernel, rfl, by decide +kernel, by decide +kernel⟩
theorem ok_is_name (T : Txt w K mg t) : FnOk P w K mg base CX0 1 t.f_is_name t.fd_is_name ["thing"] (sp_is_name K) := by
  have sc := sc_is_name
  refine T.F_is_name.ok sc (fun vs H Q E h => ?_) (fun cdv A outer s H vs Q E hr h => ?_)
  · obtain ⟨x, rfl, _⟩ := h
    rfl
  · obtain ⟨x, rfl, h⟩ := h
    refine ⟨_, (pss_cons (ps_if (PW.pt (pw_or (pt_not (pt_val (pe_callB call_isi (by rfl) T.n_isinstance bt_isinstance (pa_cons (pv 0) (pa_cons (pe_bltT (by rfl) T.n_str bt_str) pa_nil star_Name) star_Name)))) (pw_or1 (pt_not (pt_chain op_le op_le pe_int (pe_callB call_len (by rfl) T.n_len bt_len (pa_cons (pv 0) pa_nil star_Name)) (pe_globE (by rfl) T.g_LONGEST_NAME))))))
        (pss_one (ps_ret pe_bl))
        pss_nil)
      (pss_one (ps_ret (pe_and (pe_cmpR op_in_str (pe_ix ix_str (pv 0) pe_int (fun _ _ => rfl)) (pe_globE (by rfl) T.g_LETTERS) (by with_unfolding_all rfl)) (pe_one (pe_callB (call_all rfl) (by rfl) T.n_all bt_all (pa_cons (pe_comp [] ["thing"] (defScope s_is_name) rfl (pi_str (pv 0)) (fun _ _ _ _ _ => pf_nil) (fun _ _ _ _ _ => (pe_or (pe_cmpR op_in_str (pv 0) (pe_globE (by rfl) T.g_LETTERS) (by with_unfolding_all rfl)) (pe_one (pe_cmpR op_in_str (pv 0) (pe_globE (by rfl) T.g_FIGURES) (by with_unfolding_all rfl)))))) pa_nil star_ListComp))))))), ?_⟩
    have hl : sizeLine = 16777216 := sizeLine_eq
    rcases h with ⟨z, rfl, hz, k⟩ | ⟨Tx, ty, hm, hne, k⟩
    · refine ⟨_, rfl, .str z, "str", "str", true, rfl, rfl, by decide, by decide, _, rfl, iteF ?_⟩
      refine ⟨_, rfl, .str z, z.length, rfl, ⟨by omega, rfl⟩, _, _, rfl, rfl, _, rfl, ?_⟩
      cases e : z.cps.toList with
      | nil =>
        have h0 : z.length = 0 := by rw [← len_codes, e]; rfl
        rw [h0]
        refine iteF ⟨_, rfl, iteT ?_⟩
        have := k H (Same.refl _)
        unfold nameB at this
        rw [e] at this
        exact this
      | cons c r =>
        have hlen : z.length = r.length + 1 := by rw [← len_codes, e]; rfl
        refine iteY (by omega) ⟨_, _, rfl, rfl, _, rfl, ite2 (fun h => ?_) (fun h => ?_)⟩
        · have h8 : ¬ (z.length : Int) ≤ 8 := by simpa using h
          have := k H (Same.refl _)
          unfold nameB at this
          rw [e] at this
          simp only [show ¬ r.length ≤ 7 by omega, decide_false, Bool.false_and] at this
          exact this
        · have h8 : (z.length : Int) ≤ 8 := by simpa using h
          have hc0 : atI z.cps.toList 0 = some c := by rw [e]; exact atI_nat (xs := c :: r) (j := 0) rfl
          refine ⟨_, rfl, z, _, c, rfl, rfl, by omega, hc0, _, _, rfl, rfl, _, rfl, ?_⟩
          have kk : ∀ H', Same H H' → Q (.bl (low c && z.cps.toList.all fun d => low d || fig d)) H' := fun H' s' => by
            have := k H' s'
            unfold nameB at this
            rw [e] at this ⊢
            simp only [show r.length ≤ 7 by omega, decide_true, Bool.true_and] at this
            exact this
          rw [in_let]
          refine ite2 (fun hc => ?_) (fun hc => ?_)
          · rw [hc, Bool.true_and] at kk
            refine ⟨_, rfl, z, rfl, comp_str (fun i ys H' => H' = H ∧ ys = ((z.cps.toList.take i).map fun d => low d || fig d).map V.bl) (by simp only [Str.length] at hz; omega) ⟨rfl, by simp⟩ (fun i ys H' ⟨_, e⟩ => by rw [e]; simp only [List.length_map, List.length_take]; omega) ?_ ?_⟩
            · rintro i d ys H' hd ⟨rfl, rfl⟩
              refine yes ⟨_, rfl, _, _, rfl, rfl, _, rfl, ?_⟩
              have hd' : z.cps.toList[i]? = some d := by simpa using hd
              have next : ∀ b, b = (low d || fig d) → (((z.cps.toList.take i).map fun d => low d || fig d).map V.bl) ++ [V.bl b] = ((z.cps.toList.take (i + 1)).map fun d => low d || fig d).map V.bl := fun b hb => by
                rw [List.take_add_one, hd', hb]
                simp
              rw [in_let]
              refine ite2 (fun hl' => ?_) (fun hl' => ?_)
              · exact ⟨rfl, next true (by rw [hl']; rfl)⟩
              · have hl2 : low d = false := by simpa using hl'
                refine ⟨_, rfl, _, _, rfl, rfl, rfl, next _ ?_⟩
                rw [in_fig, hl2, Bool.false_or]
            · rintro ys H' ⟨rfl, rfl⟩ D hD
              refine ⟨D, (z.cps.toList.take z.cps.size).map fun d => low d || fig d, rfl, SqL.of upd_same, ?_⟩
              have hall : ((z.cps.toList.take z.cps.size).map fun d => low d || fig d).all id = z.cps.toList.all fun d => low d || fig d := by
                rw [List.take_of_length_le (by simp), List.all_map]
                rfl
              rw [hall]
              exact kk _ (same_new hD)
          · have hc' : low c = false := by simpa using hc
            rw [hc', Bool.false_and] at kk
            exact kk H (Same.refl _)
    · have hb : subT Tx "str" = false := by
        simp only [kindTab, List.mem_cons, List.not_mem_nil, or_false] at hm
        rcases hm with rfl | rfl | rfl | rfl | rfl | rfl | rfl <;> first | decide | exact absurd rfl hne
      exact ⟨_, rfl, x, Tx, "str", false, rfl, ty, by decide, hb, _, rfl, iteT (iteT k)⟩
def sp_need_counts (K : PySem.W.Frag) : Sp := fun vs H Q _ => ∃ (a b : Addr) (xs ys : List V), vs = [.ref a, .ref b] ∧ SqL K H a xs ∧ SqL K H b ys ∧ 1 ≤ xs.length ∧ xs.length ≤ 24 ∧ 1 ≤ ys.length ∧ ys.length ≤ 16 ∧ Q .non H
theorem sc_need_counts : FnScope ["lanes", "parts"] ["lanes", "parts"] (defScope s_need_counts) := ⟨rfl, rfl, rfl, by decide +kernel, rfl, by decide +kernel, by decide +kernel⟩
theorem ok_need_counts (T : Txt w K mg t) : FnOk P w K mg base CX0 1 t.f_need_counts t.fd_need_counts ["lanes", "parts"] (sp_need_counts K) := by
  have sc := sc_need_counts
  refine T.F_need_counts.ok sc (fun vs H Q E h => ?_) (fun cdv A outer s H vs Q E hr h => ?_)
  · obtain ⟨a, b, xs, ys, rfl, _⟩ := h
    rfl
  · obtain ⟨a, b, xs, ys, rfl, h1, h2, c1, c2, c3, c4, k⟩ := h
    refine ⟨_, (pss_cons (ps_if (pt_not (pt_chain op_le op_le pe_int (pe_callB call_len (by rfl) T.n_len bt_len (pa_cons (pv 0) pa_nil star_Name)) (pe_globE (by rfl) T.g_MOST_LANES)))
        (pss_one ps_never)
        pss_nil)
      (pss_one (ps_if (pt_not (pt_chain op_le op_le pe_int (pe_callB call_len (by rfl) T.n_len bt_len (pa_cons (pv 1) pa_nil star_Name)) (pe_globE (by rfl) T.g_MOST_PARTS)))
        (pss_one ps_never)
        pss_nil))), ?_⟩
    have hl : sizeLine = 16777216 := sizeLine_eq
    refine ⟨_, rfl, .ref a, xs.length, rfl, .inl ⟨_, h1, rfl⟩, _, _, rfl, rfl, _, rfl, iteY (by omega) ⟨_, _, rfl, rfl, _, rfl, ?_⟩⟩
    rw [show decide ((xs.length : Int) ≤ 24) = true from decide_eq_true (by omega)]
    refine iteF ?_
    refine ⟨_, rfl, .ref b, ys.length, rfl, .inl ⟨_, h2, rfl⟩, _, _, rfl, rfl, _, rfl, iteY (by omega) ⟨_, _, rfl, rfl, _, rfl, ?_⟩⟩
    rw [show decide ((ys.length : Int) ≤ 16) = true from decide_eq_true (by omega)]
    exact iteF k
def sp_need_fresh (K : PySem.W.Frag) : Sp := fun vs H Q _ => ∃ (z : Str) (d : Addr) (kvs : List (Key × V)), vs = [.str z, .ref d] ∧ H d = some (.dK kvs) ∧ nameB z = true ∧ z.length ≤ 100 ∧ valV kvs (Sum.inr z) = none ∧ ∀ H', Same H H' → Q .non H'
theorem sc_need_fresh : FnScope ["name", "known"] ["name", "known"] (defScope s_need_fresh) := ⟨rfl, rfl, rfl, by decide +kernel, rfl, by decide +kernel, by decide +kernel⟩
theorem ok_need_fresh (T : Txt w K mg t) : FnOk P w K mg base CX0 2 t.f_need_fresh t.fd_need_fresh ["name", "known"] (sp_need_fresh K) := by
  have sc := sc_need_fresh
  refine T.F_need_fresh.ok sc (fun vs H Q E h => ?_) (fun cdv A outer s H vs Q E hr h => ?_)
  · obtain ⟨z, d, kvs, rfl, _⟩ := h
    rfl
  · obtain ⟨z, d, kvs, rfl, hd, hz, hl, hv, k⟩ := h
    refine ⟨_, (pss_cons (ps_if (pt_not (pt_val (pe_call (ok_is_name T) (hr.mono (by decide)) (by rfl) T.m_is_name T.F_is_name.kp T.b_is_name .nil pass0 (pa_cons (pv 0) pa_nil star_Name))))
        (pss_one ps_never)
        pss_nil)
      (pss_one (ps_if (pt_cmp (pc_din hr.u1 (pv 0) (pv 1)))
        (pss_one ps_never)
        pss_nil))), ?_⟩
    refine ⟨_, rfl, .str z, rfl, .inl ⟨z, rfl, hl, fun H1 s1 => ?_⟩⟩
    rw [hz]
    refine ⟨_, rfl, iteF ?_⟩
    refine ⟨_, rfl, _, rfl, d, _, rfl, DGet.k (k := Sum.inr z) (s1 _ _ hd), ?_⟩
    rw [hv]
    exact ⟨_, rfl, iteF (k _ s1)⟩
def sp_need_lane (K : PySem.W.Frag) : Sp := fun vs H Q _ => ∃ (nm : V) (room : Int) (L : Addr) (ws : List Int), vs = [nm, .int room, .ref L] ∧ SqL K H L (ws.map V.int) ∧ ws.length ≤ 100 ∧ Bnd ws ∧ 1 ≤ room ∧ (ws.length : Int) ≤ room ∧ room ≤ 199 ∧ ∀ H', Same H H' → Q .non H'
theorem sc_need_lane : FnScope ["name", "room", "first"] ["name", "room", "first"] (defScope s_need_lane) := ⟨rfl, rfl, rfl, by decide +kernel, rfl, by decide +kernel, by decide +kernel⟩
theorem ok_need_lane (T : Txt w K mg t) : FnOk P w K mg base CX0 3 t.f_need_lane t.fd_need_lane ["name", "room", "first"] (sp_need_lane K) := by
  have sc := sc_need_lane
  refine T.F_need_lane.ok sc (fun vs H Q E h => ?_) (fun cdv A outer s H vs Q E hr h => ?_)
  · obtain ⟨nm, room, L, ws, rfl, _⟩ := h
    rfl
  · obtain ⟨nm, room, L, ws, rfl, hL, hw, hB, c1, c2, c3, k⟩ := h
    refine ⟨_, (pss_cons (ps_if (PW.pt (pw_or (pt_not (pt_val (pe_call (ok_is_whole T) (hr.mono (by decide)) (by rfl) T.m_is_whole T.F_is_whole.kp T.b_is_whole .nil pass0 (pa_cons (pv 1) pa_nil star_Name)))) (pw_or1 (pt_not (pt_chain op_le op_le (pe_callB (call_max2 rfl) (by rfl) T.n_max bt_max (pa_cons pe_int (pa_cons (pe_callB call_len (by rfl) T.n_len bt_len (pa_cons (pv 2) pa_nil star_Name)) pa_nil star_Call) star_Constant)) (pv 1) (pe_globE (by rfl) T.g_MOST_ROOM))))))
        (pss_one ps_never)
        pss_nil)
      (pss_one (ps_if (pt_not (pt_val (pe_callB (call_all rfl) (by rfl) T.n_all bt_all (pa_cons (pe_comp [] ["name", "room", "first"] (defScope s_need_lane) rfl (pi_list (pv 2)) (fun _ _ _ _ _ => pf_nil) (fun _ _ _ _ _ => (pe_call (ok_is_value T) (hr.mono (by decide)) (by rfl) T.m_is_value T.F_is_value.kp T.b_is_value .nil pass0 (pa_cons (pv 0) pa_nil star_Name)))) pa_nil star_ListComp))))
        (pss_one ps_never)
        pss_nil))), ?_⟩
    have hl : sizeLine = 16777216 := sizeLine_eq
    refine ⟨_, rfl, .int room, "int", true, rfl, rfl, by decide, by decide, true, rfl, iteF ?_⟩
    refine ⟨_, rfl, .ref L, ws.length, rfl, .inl ⟨_, hL, by simp⟩, _, _, rfl, _, rfl, _, _, rfl, rfl, _, rfl, iteY ?_ ⟨_, _, rfl, rfl, _, rfl, ?_⟩⟩
    · split <;> omega
    rw [show decide (room ≤ 199) = true from decide_eq_true c3]
    refine iteF ?_
    refine ⟨_, rfl, L, rfl, ⟨_, hL⟩, comp_list (K := K) (a := L) (xs := ws.map V.int) (fun j ys H' => H' = H ∧ ys = (List.replicate j true).map V.bl) (by rw [List.length_map]; omega) ⟨rfl, rfl⟩ (fun j ys H' ⟨_, e⟩ => by rw [e]; simp) (fun j ys H' _ ⟨e, _⟩ => by rw [e]; exact hL) ?_ ?_⟩
    · rintro j x ys H' hx ⟨rfl, rfl⟩
      rw [List.getElem?_map] at hx
      obtain ⟨n, hn, rfl⟩ := Option.map_eq_some_iff.mp hx
      obtain ⟨n0, n1⟩ := hB n (List.mem_of_getElem? hn)
      refine yes ⟨_, rfl, .int n, rfl, .inl ⟨n, rfl, rfl, ?_⟩⟩
      rw [decide_eq_true n0, decide_eq_true n1, List.replicate_succ']
      simp
    · rintro ys H' ⟨rfl, rfl⟩ D hD
      refine ⟨D, _, rfl, SqL.of upd_same, _, rfl, ?_⟩
      rw [show ((List.replicate (ws.map V.int).length true).all id) = true by simp]
      exact iteF (k _ (same_new hD))
def sp_fresh_part (K : PySem.W.Frag) (t : Adr) : Sp := fun vs H Q _ => ∃ (i : Nat) (nm : Str) (r d a1 a2 a3 : Addr) (ns is os : List V) (kvs : List (Key × V)), vs = [.ref r, .ref d] ∧ H r = some (.tup [.str (kname i), .str nm, .ref a1, .ref a2, .ref a3]) ∧ i ≤ 1 ∧ H d = some (.dK kvs) ∧ nameB nm = true ∧ nm.length ≤ 100 ∧ valV kvs (Sum.inr nm) = none ∧ SqL K H a1 ns ∧ SqL K H a2 is ∧ SqL K H a3 os ∧ ns.length = cN i ∧ is.length = cI i ∧ os.length = cO i ∧ (∀ v ∈ ns, Val v) ∧ ∀ H' p, Same H H' → H p = none → PartAt K t H' p i (.str nm) ns is os → Q (.ref p) H'
theorem sc_fresh_part : FnScope ["row", "known"] ["row", "known"] (defScope s_fresh_part) := ⟨rfl, rfl, rfl, by decide +kernel, rfl, by decide +kernel, by decide +kernel⟩
theorem ok_fresh_part (T : Txt w K mg t) : FnOk P w K mg base CX0 5 t.f_fresh_part t.fd_fresh_part ["row", "known"] (sp_fresh_part K t) := by
  have sc := sc_fresh_part
  refine T.F_fresh_part.ok sc (fun vs H Q E h => ?_) (fun cdv A outer s H vs Q E hr h => ?_)
  · obtain ⟨i, nm, r, d, a1, a2, a3, ns, is, os, kvs, rfl, _⟩ := h
    rfl
  · obtain ⟨i, nm, r, d, a1, a2, a3, ns, is, os, kvs, rfl, hr1, hi, hd, hz, hl, hv, q1, q2, q3, l1, l2, l3, hV, k⟩ := h
    refine ⟨_, (pss_cons (ps_if (pt_not (pt_val (pe_call (ok_is_kind T) (hr.mono (by decide)) (by rfl) T.m_is_kind T.F_is_kind.kp T.b_is_kind .nil pass0 (pa_cons (pe_ix ix_tup (pv 0) pe_int (fun _ _ => rfl)) pa_nil star_Subscript))))
        (pss_one ps_never)
        pss_nil)
      (pss_cons (ps_expr (pe_call (ok_need_fresh T) (hr.mono (by decide)) (by rfl) T.m_need_fresh T.F_need_fresh.kp T.b_need_fresh .nil pass0 (pa_cons (pe_ix ix_tup (pv 0) pe_int (fun _ _ => rfl)) (pa_cons (pv 1) pa_nil star_Name) star_Subscript)))
      (pss_one (ps_ret (pe_call (ok_part_made T) (hr.mono (by decide)) (by rfl) T.m_part_made T.F_part_made.kp T.b_part_made .nil pass0 (pa_cons (pe_ix ix_tup (pv 0) pe_int (fun _ _ => rfl)) (pa_cons (pe_ix ix_tup (pv 0) pe_int (fun _ _ => rfl)) (pa_cons (pe_ix ix_tup (pv 0) pe_int (fun _ _ => rfl)) (pa_cons (pe_ix ix_tup (pv 0) pe_int (fun _ _ => rfl)) (pa_cons (pe_ix ix_tup (pv 0) pe_int (fun _ _ => rfl)) pa_nil star_Subscript) star_Subscript) star_Subscript) star_Subscript) star_Subscript)))))), ?_⟩
    refine ⟨_, rfl, r, _, 0, _, rfl, rfl, SqT.of hr1, atI_nat (j := 0) rfl, kname i, rfl, ?_⟩
    rw [row_of]
    refine ⟨_, rfl, iteF ?_⟩
    refine ⟨_, rfl, r, _, 1, _, rfl, rfl, SqT.of hr1, atI_nat (j := 1) rfl, _, rfl, nm, d, kvs, rfl, hd, hz, hl, hv, fun H1 s1 => ?_⟩
    have e1 := SqT.of (K := K) (s1 _ _ hr1)
    exact ⟨_, rfl, r, _, 0, _, rfl, rfl, e1, atI_nat (j := 0) rfl, _, rfl, r, _, 1, _, rfl, rfl, e1, atI_nat (j := 1) rfl, _, rfl, r, _, 2, _, rfl, rfl, e1, atI_nat (j := 2) rfl, _, rfl, r, _, 3, _, rfl, rfl, e1, atI_nat (j := 3) rfl, _, rfl, r, _, 4, _, rfl, rfl, e1, atI_nat (j := 4) rfl, i, .str nm, a1, a2, a3, ns, is, os, rfl, hi, s1.seq q1, s1.seq q2, s1.seq q3, l1, l2, l3, hV, fun H2 p s2 np P => k _ p (s1.trans s2) (s1.free np) P⟩
def sp_tie_lanes (K : PySem.W.Frag) : Sp := fun vs H Q _ => ∃ (y : Str) (a rd d : Addr) (room : Int) (k : Nat), vs = [.str y, .ref a, .ref rd, .ref d] ∧ SqT K H a (List.replicate k (.str "b")) ∧ H rd = some (.dK (kb (.int room))) ∧ rd ≠ d ∧ ((k = 0 ∧ Q .non H) ∨ (k = 1 ∧ H d = some (.dK []) ∧ Q .non (upd H d (.dK (kb (.str y))))))
theorem sc_tie_lanes : FnScope ["part", "lanes", "rooms", "ends", "lane"] ["part", "lanes", "rooms", "ends"] (defScope s_tie_lanes) := ⟨rfl, rfl, rfl, by decide +kernel, rfl, by decide +kernel, by decide +kernel⟩
theorem ok_tie_lanes (T : Txt w K mg t) : FnOk P w K mg base CX0 1 t.f_tie_lanes t.fd_tie_lanes ["part", "lanes", "rooms", "ends"] (sp_tie_lanes K) := by
  have sc := sc_tie_lanes
  refine T.F_tie_lanes.ok sc (fun vs H Q E h => ?_) (fun cdv A outer s H vs Q E hr h => ?_)
  · obtain ⟨y, a, rd, d, room, k, rfl, _⟩ := h
    rfl
  · obtain ⟨y, a, rd, d, room, m, rfl, hT, hrd, hne, k⟩ := h
    refine ⟨_, (pss_one (ps_for PassesOwn.never rfl (pi_tup (pv 1)) (pg_name (i := 4) sc.nd rfl (Or.inl rfl))
        (pss_cons (ps_if (PW.pt (pw_or (pt_cmp (pc_dnotin hr.u1 (pv 4) (pv 2))) (pw_or1 (pt_cmp (pc_din hr.u1 (pv 4) (pv 3))))))
          (pss_one ps_never)
          pss_nil)
        (pss_one (ps_dput hr.u1 (pv 3) (pv 4) (pv 0) rfl))))), ?_⟩
    have hl : sizeLine = 16777216 := sizeLine_eq
    rcases k with ⟨rfl, k⟩ | ⟨rfl, hd, k⟩
    · refine ⟨_, rfl, a, rfl, ⟨_, hT⟩, for_tup (K := K) (a := a) (xs := []) (fun j σ H' => H' = H ∧ ∃ v4, σ = [some (.str y), some (.ref a), some (.ref rd), some (.ref d), v4]) ⟨rfl, none, rfl⟩ (fun j σ H' _ ⟨e, _⟩ => by rw [e]; exact hT) ?_ ?_⟩
      · rintro j x σ H' hx _
        cases hx
      · rintro σ H' ⟨rfl, v4, rfl⟩
        exact k
    · have hT1 : SqT K (upd H d (.dK (kb (.str y)))) a [.str "b"] := chill_seqT hd hT
      refine ⟨_, rfl, a, rfl, ⟨_, hT⟩, for_tup (K := K) (a := a) (xs := [.str "b"]) (fun j σ H' => (j = 0 ∧ H' = H ∨ j = 1 ∧ H' = upd H d (.dK (kb (.str y)))) ∧ ∃ v4, σ = [some (.str y), some (.ref a), some (.ref rd), some (.ref d), v4]) ⟨.inl ⟨rfl, rfl⟩, none, rfl⟩ ?_ ?_ ?_⟩
      · rintro j σ H' _ ⟨⟨_, rfl⟩ | ⟨_, rfl⟩, _⟩
        · exact hT
        · exact hT1
      · rintro j x σ H' hx ⟨hj, v4, rfl⟩
        have hj0 : j = 0 := by
          have := (List.getElem?_eq_some_iff.mp hx).1
          simp at this
          exact this
        subst hj0
        cases hx
        rcases hj with ⟨_, rfl⟩ | ⟨h, _⟩
        · refine ⟨_, rfl, _, rfl, rd, _, rfl, getb hrd, _, rfl, iteF ?_⟩
          refine ⟨_, rfl, _, rfl, d, none, rfl, (by have := DGet.k (k := Sum.inr "b") hd; exact this), _, rfl, iteF ?_⟩
          refine ⟨_, rfl, _, rfl, _, rfl, d, _, rfl, DPut.k (k := Sum.inr "b") hd (by show 0 < sizeLine; omega), .inr ⟨rfl, ?_⟩, _, rfl⟩
          rfl
        · omega
      · rintro σ H' ⟨⟨h, _⟩ | ⟨_, rfl⟩, v4, rfl⟩
        · cases h
        · exact k
def sp_need_ends (K : PySem.W.Frag) : Sp := fun vs H Q _ => ∃ (r g d : Addr) (u v x : V), vs = [.ref r, .ref g, .ref d] ∧ H r = some (.dK (kb u)) ∧ H g = some (.dK (kb v)) ∧ H d = some (.dK (kb x)) ∧ r ≠ g ∧ r ≠ d ∧ Q .non H
theorem sc_need_ends : FnScope ["rooms", "givers", "takers", "lane"] ["rooms", "givers", "takers"] (defScope s_need_ends) := ⟨rfl, rfl, rfl, by decide +kernel, rfl, by decide +kernel, by decide +kernel⟩
theorem ok_need_ends (T : Txt w K mg t) : FnOk P w K mg base CX0 1 t.f_need_ends t.fd_need_ends ["rooms", "givers", "takers"] (sp_need_ends K) := by
  have sc := sc_need_ends
  refine T.F_need_ends.ok sc (fun vs H Q E h => ?_) (fun cdv A outer s H vs Q E hr h => ?_)
  · obtain ⟨r, g, d, u, v, x, rfl, _⟩ := h
    rfl
  · obtain ⟨r, g, d, u, v, x, rfl, h1, h2, h3, n1, n2, k⟩ := h
    refine ⟨_, (pss_one (ps_meltN (H0 := H) rfl (ps_for PassesOwn.never rfl (pi_dict (pv 0)) (pg_name (i := 3) sc.nd rfl (Or.inl rfl))
        (pss_one (ps_if (PW.pt (pw_or (pt_cmp (pc_dnotin hr.u1 (pv 3) (pv 1))) (pw_or1 (pt_cmp (pc_dnotin hr.u1 (pv 3) (pv 2))))))
          (pss_one ps_never)
          pss_nil))))), ?_⟩
    refine ⟨_, rfl, r, _, rfl, h1, fun o => for_dict (fun j σ H' => H' = upd H r (.frz o (.dK (kb u))) ∧ ∃ v3, σ = [some (.ref r), some (.ref g), some (.ref d), v3]) ⟨rfl, none, rfl⟩ (fun j σ H' _ ⟨e, _⟩ => by rw [e]; exact upd_same) ?_ ?_⟩
    · rintro j kk w σ H' hj ⟨rfl, v3, rfl⟩
      have hk : kk = Sum.inr ("b" : Str) := by
        match j, hj with
        | 0, hj => cases hj; rfl
        | (n + 1), hj => cases hj
      subst hk
      have e2 : upd H r (.frz o (.dK (kb u))) g = some (.dK (kb v)) := by rw [upd_ne (Ne.symm n1)]; exact h2
      have e3 : upd H r (.frz o (.dK (kb u))) d = some (.dK (kb x)) := by rw [upd_ne (Ne.symm n2)]; exact h3
      exact ⟨_, rfl, _, rfl, g, _, rfl, getb e2, _, rfl, iteF ⟨_, rfl, _, rfl, d, _, rfl, getb e3, _, rfl, iteF ⟨rfl, _, rfl⟩⟩⟩
    · rintro σ H' ⟨rfl, v3, rfl⟩
      refine ⟨_, ⟨r, o, _, upd_same, ?_, rfl⟩, ?_⟩
      · intro o' u' z
        rw [show H r = _ from h1] at z
        cases z
      · rw [upd_upd, upd_id h1]
        exact k
def sp_joined_with (K : PySem.W.Frag) : Sp := fun vs H Q _ => ∃ (g d : Addr), vs = [.str "c", .ref g, .ref d] ∧ H g = some (.dK (kb (.str "a"))) ∧ H d = some (.dK (kb (.str "c"))) ∧ g ≠ d ∧ ∀ H' j, Same H H' → H' j = some (.dK (kca (.bl true) (.bl true))) → Q (.ref j) H'
theorem sc_joined_with : FnScope ["part", "givers", "takers", "joined", "grown", "lane"] ["part", "givers", "takers"] (defScope s_joined_with) := ⟨rfl, rfl, rfl, by decide +kernel, rfl, by decide +kernel, by decide +kernel⟩
theorem ok_joined_with (T : Txt w K mg t) : FnOk P w K mg base CX0 1 t.f_joined_with t.fd_joined_with ["part", "givers", "takers"] (sp_joined_with K) := by
  have sc := sc_joined_with
  refine T.F_joined_with.ok sc (fun vs H Q E h => ?_) (fun cdv A outer s H vs Q E hr h => ?_)
  · obtain ⟨g, d, rfl, _⟩ := h
    rfl
  · obtain ⟨g, d, rfl, h1, h2, n1, k⟩ := h
    refine ⟨_, (pss_cons (ps_set (i := 3) sc.nd rfl (Or.inl rfl) (pe_disp (pps_cons (pv 0) pe_bl pps_nil) rfl rfl (by simp) (by decide)))
      (pss_cons (ps_set (i := 4) sc.nd rfl (Or.inl rfl) pe_bl)
      (pss_cons (ps_while PassesOwn.never (pt_val (pv 4))
        (pss_cons (ps_set (i := 4) sc.nd rfl (Or.inl rfl) pe_bl)
        (pss_one (ps_meltN (H0 := H) rfl (ps_for PassesOwn.never rfl (pi_dict (pv 1)) (pg_name (i := 5) sc.nd rfl (Or.inl rfl))
          (pss_one (ps_join (ps_if (pt_cmpR op_ne (pe_cmp (pc_din hr.u1 (pe_dget hr.u1 (pv 1) (pv 5) (fun _ _ => rfl)) (pv 3))) (pe_cmp (pc_din hr.u1 (pe_dget hr.u1 (pv 2) (pv 5) (fun _ _ => rfl)) (pv 3))) (nomark _))
            (pss_cons (ps_dput hr.u1 (pv 3) (pe_dget hr.u1 (pv 1) (pv 5) (fun _ _ => rfl)) pe_bl rfl)
            (pss_cons (ps_dput hr.u1 (pv 3) (pe_dget hr.u1 (pv 2) (pv 5) (fun _ _ => rfl)) pe_bl rfl)
            (pss_one (ps_set (i := 4) sc.nd rfl (Or.inl rfl) pe_bl))))
            pss_nil))))))))
      (pss_one (ps_ret (pv 3)))))), ?_⟩
    have hl : sizeLine = 16777216 := sizeLine_eq
    refine fun J nJ => ⟨_, rfl, upd_same, [((Sum.inr "c" : Key), V.bl true)], rfl, by decide, ?_⟩
    rw [upd_upd]
    have s0 : Same H (upd H J (.dK (mergeK [] [((Sum.inr "c" : Key), V.bl true)]))) := same_new nJ
    have e0 : (upd H J (.dK (mergeK [] [((Sum.inr "c" : Key), V.bl true)]))) J = some (.dK kc) := upd_same
    generalize upd H J (.dK (mergeK [] [((Sum.inr "c" : Key), V.bl true)])) = H0 at s0 e0 ⊢
    have ngJ : J ≠ g := Ne.symm (ne_of_none h1 nJ)
    have ndJ : J ≠ d := Ne.symm (ne_of_none h2 nJ)
    have melt : ∀ {H' : Hp} {o : Obj}, But g H H' → H' g = some (.frz o (.dK (kb (.str "a")))) → Same H (upd H' g (.dK (kb (.str "a")))) := fun hb hg b u e => by
      by_cases h : b = g
      · subst h; rw [upd_same]; rw [h1] at e; exact e
      · rw [upd_ne h]; exact hb b u h e
    refine while_by (fun σ H' => Same H H' ∧ ∃ b v5, σ = [some (.str "c"), some (.ref g), some (.ref d), some (.ref J), some (.bl b), v5] ∧ ((b = true ∧ H' J = some (.dK kc)) ∨ H' J = some (.dK (kca (.bl true) (.bl true)))))
      (fun σ H' => match σ with | [_, _, _, _, some (.bl b), _] => (if b then 1 else 0) + (match H' J with | some (.dK [_]) => 1 | _ => 0) | _ => 0) ⟨s0, true, none, rfl, .inl ⟨rfl, e0⟩⟩ ?_ ?_
    · rintro σ H1 ⟨s1, b, v5, rfl, hb⟩
      cases b with
      | false =>
        rcases hb with ⟨h, _⟩ | hb
        · cases h
        · exact ⟨_, rfl, _, rfl, iteF ⟨_, rfl, k _ J s1 hb⟩⟩
      | true =>
        refine ⟨_, rfl, _, rfl, iteT ?_⟩
        have fz : ∀ (o : Obj), But g H (upd H1 g (.frz o (.dK (kb (.str "a"))))) := fun o b u hn e => by rw [upd_ne hn]; exact s1 b u e
        refine ⟨_, rfl, g, _, rfl, s1 _ _ h1, fun o => ?_⟩
        have gG : ∀ {H' : Hp}, H' g = some (.frz o (.dK (kb (.str "a")))) → DGet H' g (.str "b") (some (.str "a")) := fun e => .inl ⟨_, Sum.inr "b", .inr ⟨o, e⟩, rfl, (val_kb _).symm⟩
        have gD : ∀ {H' : Hp}, But g H H' → DGet H' d (.str "b") (some (.str "c")) := fun hb => getb (hb d _ (Ne.symm n1) h2)
        rcases hb with ⟨_, hJ⟩ | hJ
        · refine for_dict (fun j σ H' => But g H H' ∧ H' g = some (.frz o (.dK (kb (.str "a")))) ∧ ∃ b v5, σ = [some (.str "c"), some (.ref g), some (.ref d), some (.ref J), some (.bl b), v5] ∧ ((j = 0 ∧ b = false ∧ H' J = some (.dK kc)) ∨ (j = 1 ∧ b = true ∧ H' J = some (.dK (kca (.bl true) (.bl true)))))) ⟨fz o, upd_same, false, v5, rfl, .inl ⟨rfl, rfl, by rw [upd_ne ngJ]; exact hJ⟩⟩ (fun j σ H' _ h => h.2.1) ?_ ?_
          · rintro j kk w σ H' hj ⟨hb, hg, b, v5, rfl, hv⟩
            have hk : kk = Sum.inr ("b" : Str) ∧ j = 0 := by
              match j, hj with
              | 0, hj => cases hj; exact ⟨rfl, rfl⟩
              | (n + 1), hj => cases hj
            obtain ⟨rfl, rfl⟩ := hk
            rcases hv with ⟨_, rfl, hJ'⟩ | ⟨h, _⟩
            · refine ⟨fun σ H' => But g H H' ∧ H' g = some (.frz o (.dK (kb (.str "a")))) ∧ σ = [some (.str "c"), some (.ref g), some (.ref d), some (.ref J), some (.bl true), some (.str "b")] ∧ H' J = some (.dK (kca (.bl true) (.bl true))), ?_, ?_⟩
              · refine ⟨_, rfl, _, rfl, g, _, rfl, gG hg, _, rfl, J, none, rfl, (by rw [← val_kc_a]; exact DGet.k (k := Sum.inr "a") hJ'), ?_⟩
                refine ⟨_, rfl, _, rfl, d, _, rfl, gD hb, _, rfl, J, some (.bl true), rfl, (by rw [← val_kc_c]; exact DGet.k (k := Sum.inr "c") hJ'), rfl, _, rfl, iteT ?_⟩
                refine ⟨_, rfl, _, rfl, _, rfl, g, _, rfl, gG hg, J, _, rfl, DPut.k (k := Sum.inr "a") hJ' (by show 1 < sizeLine; omega), ?_⟩
                rw [put_kc]
                have b2 : But g H (upd H' J (.dK (kca (.bl true) (.bl true)))) := fun x u hn e => by rw [upd_ne (ne_of_none e nJ)]; exact hb x u hn e
                have g2 : (upd H' J (.dK (kca (.bl true) (.bl true)))) g = some (.frz o (.dK (kb (.str "a")))) := by rw [upd_ne (Ne.symm ngJ)]; exact hg
                refine ⟨_, rfl, _, rfl, _, rfl, d, _, rfl, gD b2, J, _, rfl, DPut.k (k := Sum.inr "c") upd_same (by show 2 < sizeLine; omega), ?_⟩
                rw [put_c, upd_upd]
                exact ⟨b2, g2, rfl, upd_same⟩
              · rintro σ H'' ⟨hb, hg, rfl, hJ''⟩
                exact ⟨hb, hg, true, _, rfl, .inr ⟨rfl, rfl, hJ''⟩⟩
            · omega
          · rintro σ H' ⟨hb, hg, b, v5', rfl, ⟨h, _⟩ | ⟨_, rfl, hJ'⟩⟩
            · cases h
            · refine ⟨_, ⟨g, o, _, hg, (fun o' u' z => by rw [show H g = _ from h1] at z; cases z), rfl⟩, ?_⟩
              have eJ : (upd H' g (.dK (kb (.str "a")))) J = some (.dK (kca (.bl true) (.bl true))) := by rw [upd_ne ngJ]; exact hJ'
              refine ⟨⟨melt hb hg, true, v5', rfl, .inr eJ⟩, ?_⟩
              show (if true = true then 1 else 0) + _ < (if true = true then 1 else 0) + _
              simp only [eJ, hJ]
              decide
        · refine for_dict (fun j σ H' => But g H H' ∧ H' g = some (.frz o (.dK (kb (.str "a")))) ∧ H' J = some (.dK (kca (.bl true) (.bl true))) ∧ ∃ v5, σ = [some (.str "c"), some (.ref g), some (.ref d), some (.ref J), some (.bl false), v5]) ⟨fz o, upd_same, by rw [upd_ne ngJ]; exact hJ, v5, rfl⟩ (fun j σ H' _ h => h.2.1) ?_ ?_
          · rintro j kk w σ H' hj ⟨hb, hg, hJ', v5, rfl⟩
            have hk : kk = Sum.inr ("b" : Str) := by
              match j, hj with
              | 0, hj => cases hj; rfl
              | (n + 1), hj => cases hj
            subst hk
            refine ⟨fun σ H' => But g H H' ∧ H' g = some (.frz o (.dK (kb (.str "a")))) ∧ H' J = some (.dK (kca (.bl true) (.bl true))) ∧ σ = [some (.str "c"), some (.ref g), some (.ref d), some (.ref J), some (.bl false), some (.str "b")], ?_, ?_⟩
            · refine ⟨_, rfl, _, rfl, g, _, rfl, gG hg, _, rfl, J, some (.bl true), rfl, (by rw [← val_a (.bl true) (.bl true)]; exact DGet.k (k := Sum.inr "a") hJ'), ?_⟩
              refine ⟨_, rfl, _, rfl, d, _, rfl, gD hb, _, rfl, J, some (.bl true), rfl, (by rw [← val_c (.bl true) (.bl true)]; exact DGet.k (k := Sum.inr "c") hJ'), rfl, _, rfl, iteF ?_⟩
              exact ⟨hb, hg, hJ', rfl⟩
            · rintro σ H'' ⟨hb, hg, hJ'', rfl⟩
              exact ⟨hb, hg, hJ'', _, rfl⟩
          · rintro σ H' ⟨hb, hg, hJ', v5', rfl⟩
            refine ⟨_, ⟨g, o, _, hg, (fun o' u' z => by rw [show H g = _ from h1] at z; cases z), rfl⟩, ?_⟩
            have eJ : (upd H' g (.dK (kb (.str "a")))) J = some (.dK (kca (.bl true) (.bl true))) := by rw [upd_ne ngJ]; exact hJ'
            refine ⟨⟨melt hb hg, false, v5', rfl, .inr eJ⟩, ?_⟩
            show (if false = true then 1 else 0) + _ < (if true = true then 1 else 0) + _
            simp only [eJ, hJ]
            decide
    · intro σ H' Q' Q'' hm hq
      obtain ⟨v, e, b, e2, q⟩ := hq
      exact ⟨v, e, b, e2, hm _ _ q⟩
def sp_need_joined (K : PySem.W.Frag) : Sp := fun vs H Q _ => ∃ (L g d : Addr), vs = [.ref L, .ref g, .ref d] ∧ SqL K H L [.str "c", .str "a"] ∧ H g = some (.dK (kb (.str "a"))) ∧ H d = some (.dK (kb (.str "c"))) ∧ g ≠ d ∧ ∀ H', Same H H' → Q .non H'
theorem sc_need_joined : FnScope ["names", "givers", "takers", "joined", "name"] ["names", "givers", "takers"] (defScope s_need_joined) := ⟨rfl, rfl, rfl, by decide +kernel, rfl, by decide +kernel, by decide +kernel⟩
theorem ok_need_joined (T : Txt w K mg t) : FnOk P w K mg base CX0 2 t.f_need_joined t.fd_need_joined ["names", "givers", "takers"] (sp_need_joined K) := by
  have sc := sc_need_joined
  refine T.F_need_joined.ok sc (fun vs H Q E h => ?_) (fun cdv A outer s H vs Q E hr h => ?_)
  · obtain ⟨L, g, d, rfl, _⟩ := h
    rfl
  · obtain ⟨L, g, d, rfl, hL, h1, h2, n1, k⟩ := h
    refine ⟨_, (pss_cons (ps_set (i := 3) sc.nd rfl (Or.inl rfl) (pe_call (ok_joined_with T) (hr.mono (by decide)) (by rfl) T.m_joined_with T.F_joined_with.kp T.b_joined_with .nil pass0 (pa_cons (pe_ix ix_list (pv 0) pe_int (fun _ _ => rfl)) (pa_cons (pv 1) (pa_cons (pv 2) pa_nil star_Name) star_Name) star_Subscript)))
      (pss_one (ps_for PassesOwn.never rfl (pi_list (pv 0)) (pg_name (i := 4) sc.nd rfl (Or.inl rfl))
        (pss_one (ps_if (pt_cmp (pc_dnotin hr.u1 (pv 4) (pv 3)))
          (pss_one ps_never)
          pss_nil))))), ?_⟩
    refine ⟨_, rfl, L, _, 0, _, rfl, rfl, hL, atI_nat (j := 0) rfl, _, rfl, _, rfl, g, d, rfl, h1, h2, n1, fun H1 J s1 eJ => ?_⟩
    refine ⟨_, rfl, L, rfl, ⟨_, s1.seq hL⟩, for_list (K := K) (a := L) (xs := [.str "c", .str "a"]) (fun j σ H' => H' = H1 ∧ ∃ v4, σ = [some (.ref L), some (.ref g), some (.ref d), some (.ref J), v4]) ⟨rfl, none, rfl⟩ (fun j σ H' _ ⟨e, _⟩ => by rw [e]; exact s1.seq hL) ?_ ?_⟩
    · rintro j x σ H' hx ⟨rfl, v4, rfl⟩
      match j, hx with
      | 0, hx => cases hx; exact ⟨_, rfl, _, rfl, J, some (.bl true), rfl, (by rw [← val_c (.bl true) (.bl true)]; exact DGet.k (k := Sum.inr "c") eJ), _, rfl, iteF ⟨rfl, _, rfl⟩⟩
      | 1, hx => cases hx; exact ⟨_, rfl, _, rfl, J, some (.bl true), rfl, (by rw [← val_a (.bl true) (.bl true)]; exact DGet.k (k := Sum.inr "a") eJ), _, rfl, iteF ⟨rfl, _, rfl⟩⟩
      | (n + 2), hx => cases hx
    · rintro σ H' ⟨rfl, v4, rfl⟩
      exact k _ s1
def sp_Part_start (K : PySem.W.Frag) (t : Adr) : Sp := fun vs H Q E => ∃ i, i ≠ 5 ∧ sp_start K t i vs H Q E
theorem sc_Part_start : FnScope ["self"] ["self"] (defScope s_Part_start) := ⟨rfl, rfl, rfl, by decide +kernel, rfl, by decide +kernel, by decide +kernel⟩
theorem ok_Part_start (T : Txt w K mg t) : FnOk P w K mg base CX0 1 t.f_Part_start t.fd_Part_start ["self"] (sp_Part_start K t) := by
  have sc := sc_Part_start
  refine T.F_Part_start.ok sc (fun vs H Q E h => ?_) (fun cdv A outer s H vs Q E hr h => ?_)
  · obtain ⟨i, _, p, nm, ns, is, os, rfl, _⟩ := h
    rfl
  · obtain ⟨i, hi, p, nm, ns, is, os, rfl, hP, hn, k⟩ := h
    refine ⟨_, (pss_one (ps_ret pe_int)), ?_⟩
    unfold startV at k
    rw [if_neg hi] at k
    exact k
def sp_Net___init__ (K : PySem.W.Frag) (t : Adr) : Sp := fun vs H Q _ => ∃ (n dx Ll Lp W : Addr) (room : Int) (ws : List Int), vs = [.ref n, .ref Ll, .ref Lp] ∧ H n = some (.ins t.C_Net dx []) ∧ Handed K H Ll Lp W room ws ∧ ∀ H' pc pa F0, But n H H' → NetB K t H' n pc pa F0 room ws → Q .non H'
theorem sc_Net___init__ : FnScope ["self", "lanes", "parts", "lane", "row", "part"] ["self", "lanes", "parts"] (defScope s_Net___init__) := ⟨rfl, rfl, rfl, by decide +kernel, rfl, by decide +kernel, by decide +kernel⟩
theorem ok_Net___init__ (T : Txt w K mg t) : FnOk P w K mg base CX0 6 t.f_Net___init__ t.fd_Net___init__ ["self", "lanes", "parts"] (sp_Net___init__ K t) := by
  have sc := sc_Net___init__
  refine T.F_Net___init__.ok sc (fun vs H Q E h => ?_) (fun cdv A outer s H vs Q E hr h => ?_)
  · obtain ⟨n, dx, Ll, Lp, W, room, ws, rfl, _⟩ := h
    rfl
  · obtain ⟨n, dx, Ll, Lp, W, room, ws, rfl, hn, hH, k⟩ := h
    refine ⟨_, (pss_cons (ps_expr (pe_call (ok_need_counts T) (hr.mono (by decide)) (by rfl) T.m_need_counts T.F_need_counts.kp T.b_need_counts .nil pass0 (pa_cons (pv 1) (pa_cons (pv 2) pa_nil star_Name) star_Name)))
      (pss_cons (ps_fld (pv 0) pe_dnewK rfl)
      (pss_cons (ps_fld (pv 0) pe_dnewK rfl)
      (pss_cons (ps_for PassesOwn.never rfl (pi_list (pv 1)) (pg_name (i := 3) sc.nd rfl (Or.inl rfl))
        (pss_cons (ps_expr (pe_call (ok_need_fresh T) (hr.mono (by decide)) (by rfl) T.m_need_fresh T.F_need_fresh.kp T.b_need_fresh .nil pass0 (pa_cons (pe_ix ix_tup (pv 3) pe_int (fun _ _ => rfl)) (pa_cons (pe_fld (pv 0) rfl) pa_nil star_Attribute) star_Subscript)))
        (pss_cons (ps_expr (pe_call (ok_need_lane T) (hr.mono (by decide)) (by rfl) T.m_need_lane T.F_need_lane.kp T.b_need_lane .nil pass0 (pa_cons (pe_ix ix_tup (pv 3) pe_int (fun _ _ => rfl)) (pa_cons (pe_ix ix_tup (pv 3) pe_int (fun _ _ => rfl)) (pa_cons (pe_ix ix_tup (pv 3) pe_int (fun _ _ => rfl)) pa_nil star_Subscript) star_Subscript) star_Subscript)))
        (pss_cons (ps_dput hr.u1 (pe_fld (pv 0) rfl) (pe_ix ix_tup (pv 3) pe_int (fun _ _ => rfl)) (pe_ix ix_tup (pv 3) pe_int (fun _ _ => rfl)) rfl)
        (pss_one (ps_dput hr.u1 (pe_fld (pv 0) rfl) (pe_ix ix_tup (pv 3) pe_int (fun _ _ => rfl)) (pe_callTy call_tupA (by rfl) T.n_tuple bt_tuple (pa_cons (pe_ix ix_tup (pv 3) pe_int (fun _ _ => rfl)) pa_nil star_Subscript)) rfl))))))
      (pss_cons (ps_fld (pv 0) pe_dnewK rfl)
      (pss_cons (ps_fld (pv 0) pe_dnewK rfl)
      (pss_cons (ps_fld (pv 0) pe_dnewK rfl)
      (pss_cons (ps_for PassesOwn.never rfl (pi_list (pv 2)) (pg_name (i := 4) sc.nd rfl (Or.inl rfl))
        (pss_cons (ps_set (i := 5) sc.nd rfl (Or.inl rfl) (pe_call (ok_fresh_part T) (hr.mono (by decide)) (by rfl) T.m_fresh_part T.F_fresh_part.kp T.b_fresh_part .nil pass0 (pa_cons (pv 4) (pa_cons (pe_fld (pv 0) rfl) pa_nil star_Attribute) star_Name)))
        (pss_cons (ps_expr (pe_call (ok_tie_lanes T) (hr.mono (by decide)) (by rfl) T.m_tie_lanes T.F_tie_lanes.kp T.b_tie_lanes .nil pass0 (pa_cons (pe_fld (pv 5) rfl) (pa_cons (pe_fld (pv 5) rfl) (pa_cons (pe_fld (pv 0) rfl) (pa_cons (pe_fld (pv 0) rfl) pa_nil star_Attribute) star_Attribute) star_Attribute) star_Attribute)))
        (pss_cons (ps_expr (pe_call (ok_tie_lanes T) (hr.mono (by decide)) (by rfl) T.m_tie_lanes T.F_tie_lanes.kp T.b_tie_lanes .nil pass0 (pa_cons (pe_fld (pv 5) rfl) (pa_cons (pe_fld (pv 5) rfl) (pa_cons (pe_fld (pv 0) rfl) (pa_cons (pe_fld (pv 0) rfl) pa_nil star_Attribute) star_Attribute) star_Attribute) star_Attribute)))
        (pss_one (ps_dput hr.u1 (pe_fld (pv 0) rfl) (pe_fld (pv 5) rfl) (pv 5) rfl))))))
      (pss_cons (ps_expr (pe_call (ok_need_ends T) (hr.mono (by decide)) (by rfl) T.m_need_ends T.F_need_ends.kp T.b_need_ends .nil pass0 (pa_cons (pe_fld (pv 0) rfl) (pa_cons (pe_fld (pv 0) rfl) (pa_cons (pe_fld (pv 0) rfl) pa_nil star_Attribute) star_Attribute) star_Attribute)))
      (pss_one (ps_expr (pe_call (ok_need_joined T) (hr.mono (by decide)) (by rfl) T.m_need_joined T.F_need_joined.kp T.b_need_joined .nil pass0 (pa_cons (pe_callTy (call_list_dict rfl) (by rfl) T.n_list bt_list (pa_cons (pe_fld (pv 0) rfl) pa_nil star_Attribute)) (pa_cons (pe_fld (pv 0) rfl) (pa_cons (pe_fld (pv 0) rfl) pa_nil star_Attribute) star_Attribute) star_Call))))))))))))), ?_⟩
    have hl : sizeLine = 16777216 := sizeLine_eq
    obtain ⟨q, hLl, hq⟩ := hH.ll
    obtain ⟨p1, p2, a1, a2, a3, c1, c2, c3, hLp, hp1, hp2, ha1, ha2, ha3, hc1, hc2, hc3⟩ := hH.lp
    obtain ⟨v1, v2, v3, v4⟩ := hH.b0
    refine ⟨_, rfl, _, rfl, Ll, Lp, _, _, rfl, hLl, hLp, by show 1 ≤ 1; decide, by show 1 ≤ 24; decide, by show 1 ≤ 2; decide, by show 2 ≤ 16; decide, ?_⟩
    have T0 := Tr.start hn
    refine fun R nR => ?_
    have T1 := T0.new (o := .dK []) nR
    have gR := same_new (o := .dK []) nR
    generalize upd H R (.dK []) = H1 at T1 gR ⊢
    have cR := T1.all (n, .ins t.C_Net dx []) (.head _)
    refine ⟨_, rfl, n, _, dx, _, rfl, cR, T.c_Net, T.na_Net_rooms, Nat.lt_of_le_of_lt (show 0 ≤ 0 from Nat.le_refl 0) (by decide), ?_⟩
    have T2 := T1.put (L1 := []) (o' := .ins t.C_Net dx (putF "rooms" (.ref R) []))
    have wR : But n H1 (upd H1 n (.ins t.C_Net dx (putF "rooms" (.ref R) []))) := But.write
    generalize upd H1 n (.ins t.C_Net dx (putF "rooms" (.ref R) [])) = H2 at T2 wR ⊢
    refine fun F nF => ?_
    have T3 := T2.new (o := .dK []) nF
    have gF := same_new (o := .dK []) nF
    generalize upd H2 F (.dK []) = H3 at T3 gF ⊢
    have cF := T3.all (n, .ins t.C_Net dx (putF "rooms" (.ref R) [])) (.head _)
    refine ⟨_, rfl, n, _, dx, _, rfl, cF, T.c_Net, T.na_Net_firsts, Nat.lt_of_le_of_lt (lenP (Nat.zero_le 0)) (by decide), ?_⟩
    have T4 := T3.put (L1 := []) (o' := .ins t.C_Net dx (putF "firsts" (.ref F) (putF "rooms" (.ref R) [])))
    have wF : But n H3 (upd H3 n (.ins t.C_Net dx (putF "firsts" (.ref F) (putF "rooms" (.ref R) [])))) := But.write
    generalize upd H3 n (.ins t.C_Net dx (putF "firsts" (.ref F) (putF "rooms" (.ref R) []))) = H4 at T4 wF ⊢
    
    have kq : ∀ {Hk : Hp}, But n H Hk → Hk q = some (.tup [.str "b", .int room, .ref W]) := fun b => b _ _ (ne_of hq hn (by intro z; cases z)) hq
    refine ⟨_, rfl, Ll, rfl, ⟨_, T4.but.seqL hn hLl⟩, for_list (K := K) (a := Ll) (xs := [.ref q]) (fun j σ H' => But n H H' ∧ (∃ x3, σ = [some (.ref n), some (.ref Ll), some (.ref Lp), x3, none, none]) ∧ ((j = 0 ∧ H' = H4) ∨ (j = 1 ∧ ∃ F0, SqT K H' F0 (ws.map V.int) ∧ Tr H n [(n, .ins t.C_Net dx (putF "firsts" (.ref F) (putF "rooms" (.ref R) []))), (R, .dK (kb (.int room))), (F, .dK (kb (.ref F0)))] H'))) ⟨T4.but, ⟨none, rfl⟩, .inl ⟨rfl, rfl⟩⟩ (fun j σ H' _ h => h.1.seqL hn hLl) ?_ ?_⟩
    · rintro j x σ H' hx ⟨_, ⟨x3, rfl⟩, hj⟩
      have hj0 : j = 0 := by
        have := (List.getElem?_eq_some_iff.mp hx).1
        simp at this
        exact this
      subst hj0
      cases hx
      rcases hj with ⟨_, rfl⟩ | ⟨h, _⟩
      · have e4 := T4.all (n, .ins t.C_Net dx (putF "firsts" (.ref F) (putF "rooms" (.ref R) []))) (.head _)
        refine ⟨_, rfl, q, _, 0, _, rfl, rfl, SqT.of (kq T4.but), atI_nat (j := 0) rfl, _, rfl, n, _, dx, _, _, rfl, e4, T.c_Net, T.na_Net_rooms, (by (repeat first | (rw [lookup_putF, if_pos rfl]; done) | rw [lookup_putF, if_neg (by decide +kernel)])), "b", R, [], rfl, T4.all (R, .dK []) (by simp), name_b.1, name_b.2, rfl, fun H5 s5 => ?_⟩
        have T5 := T4.same s5
        refine ⟨_, rfl, q, _, 0, _, rfl, rfl, SqT.of (kq T5.but), atI_nat (j := 0) rfl, _, rfl, q, _, 1, _, rfl, rfl, SqT.of (kq T5.but), atI_nat (j := 1) rfl, _, rfl, q, _, 2, _, rfl, rfl, SqT.of (kq T5.but), atI_nat (j := 2) rfl, .str "b", room, W, ws, rfl, T5.but.seqL hn hH.w, v4, hH.bd, v1, v3, v2, fun H6 s6 => ?_⟩
        have T6 := T5.same s6
        have e6 := T6.all (n, .ins t.C_Net dx (putF "firsts" (.ref F) (putF "rooms" (.ref R) []))) (.head _)
        refine ⟨_, rfl, q, _, 1, _, rfl, rfl, SqT.of (kq T6.but), atI_nat (j := 1) rfl, _, rfl, n, _, dx, _, _, rfl, e6, T.c_Net, T.na_Net_rooms, (by (repeat first | (rw [lookup_putF, if_pos rfl]; done) | rw [lookup_putF, if_neg (by decide +kernel)])), _, rfl, q, _, 0, _, rfl, rfl, SqT.of (kq T6.but), atI_nat (j := 0) rfl, R, _, rfl, DPut.k (k := Sum.inr "b") (T6.all (R, .dK []) (by simp)) (by show 0 < sizeLine; omega), ?_⟩
        have T7 := T6.put (L1 := [_]) (o' := .dK (kb (.int room)))
        have e7 : putK ([] : List (Key × V)) (Sum.inr "b") (.int room) = kb (.int room) := rfl
        rw [e7]
        generalize upd H6 R (.dK (kb (.int room))) = H7 at T7 ⊢
        refine ⟨_, rfl, q, _, 2, _, rfl, rfl, SqT.of (kq T7.but), atI_nat (j := 2) rfl, W, _, rfl, .inl (T7.but.seqL hn hH.w), fun H8 F0 s8 t8 => ?_⟩
        have T8 := T7.same s8
        have e8 := T8.all (n, .ins t.C_Net dx (putF "firsts" (.ref F) (putF "rooms" (.ref R) []))) (.head _)
        refine ⟨_, rfl, n, _, dx, _, _, rfl, e8, T.c_Net, T.na_Net_firsts, (by (repeat first | (rw [lookup_putF, if_pos rfl]; done) | rw [lookup_putF, if_neg (by decide +kernel)])), _, rfl, q, _, 0, _, rfl, rfl, SqT.of (kq T8.but), atI_nat (j := 0) rfl, F, _, rfl, DPut.k (k := Sum.inr "b") (T8.all (F, .dK []) (by simp)) (by show 0 < sizeLine; omega), ?_⟩
        have T9 := T8.put (L1 := [_, _]) (o' := .dK (kb (.ref F0)))
        exact ⟨T9.but, ⟨_, rfl⟩, .inr ⟨rfl, F0, chill_seqT (T8.all (F, .dK []) (by simp)) t8, T9⟩⟩
      · omega
    rintro σ H9 ⟨_, ⟨x3, rfl⟩, ⟨h, _⟩ | ⟨_, F0, t9, T9⟩⟩
    · cases h
    clear T0 T1 T2 T3 T4
    refine fun Pd nPd => ?_
    have T10 := T9.new (o := .dK []) nPd
    have gPd := same_new (o := .dK []) nPd
    generalize upd H9 Pd (.dK []) = H10 at T10 gPd ⊢
    have cPd := T10.all (n, .ins t.C_Net dx (putF "firsts" (.ref F) (putF "rooms" (.ref R) []))) (.head _)
    refine ⟨_, rfl, n, _, dx, _, rfl, cPd, T.c_Net, T.na_Net_parts, Nat.lt_of_le_of_lt (lenP (lenP (Nat.zero_le 0))) (by decide), ?_⟩
    have T11 := T10.put (L1 := []) (o' := .ins t.C_Net dx (putF "parts" (.ref Pd) (putF "firsts" (.ref F) (putF "rooms" (.ref R) []))))
    have wPd : But n H10 (upd H10 n (.ins t.C_Net dx (putF "parts" (.ref Pd) (putF "firsts" (.ref F) (putF "rooms" (.ref R) []))))) := But.write
    generalize upd H10 n (.ins t.C_Net dx (putF "parts" (.ref Pd) (putF "firsts" (.ref F) (putF "rooms" (.ref R) [])))) = H11 at T11 wPd ⊢
    refine fun Gv nGv => ?_
    have T12 := T11.new (o := .dK []) nGv
    have gGv := same_new (o := .dK []) nGv
    generalize upd H11 Gv (.dK []) = H12 at T12 gGv ⊢
    have cGv := T12.all (n, .ins t.C_Net dx (putF "parts" (.ref Pd) (putF "firsts" (.ref F) (putF "rooms" (.ref R) [])))) (.head _)
    refine ⟨_, rfl, n, _, dx, _, rfl, cGv, T.c_Net, T.na_Net_givers, Nat.lt_of_le_of_lt (lenP (lenP (lenP (Nat.zero_le 0)))) (by decide), ?_⟩
    have T13 := T12.put (L1 := []) (o' := .ins t.C_Net dx (putF "givers" (.ref Gv) (putF "parts" (.ref Pd) (putF "firsts" (.ref F) (putF "rooms" (.ref R) [])))))
    have wGv : But n H12 (upd H12 n (.ins t.C_Net dx (putF "givers" (.ref Gv) (putF "parts" (.ref Pd) (putF "firsts" (.ref F) (putF "rooms" (.ref R) [])))))) := But.write
    generalize upd H12 n (.ins t.C_Net dx (putF "givers" (.ref Gv) (putF "parts" (.ref Pd) (putF "firsts" (.ref F) (putF "rooms" (.ref R) []))))) = H13 at T13 wGv ⊢
    refine fun Tk nTk => ?_
    have T14 := T13.new (o := .dK []) nTk
    have gTk := same_new (o := .dK []) nTk
    generalize upd H13 Tk (.dK []) = H14 at T14 gTk ⊢
    have cTk := T14.all (n, .ins t.C_Net dx (putF "givers" (.ref Gv) (putF "parts" (.ref Pd) (putF "firsts" (.ref F) (putF "rooms" (.ref R) []))))) (.head _)
    refine ⟨_, rfl, n, _, dx, _, rfl, cTk, T.c_Net, T.na_Net_takers, Nat.lt_of_le_of_lt (lenP (lenP (lenP (lenP (Nat.zero_le 0))))) (by decide), ?_⟩
    have T15 := T14.put (L1 := []) (o' := .ins t.C_Net dx (putF "takers" (.ref Tk) (putF "givers" (.ref Gv) (putF "parts" (.ref Pd) (putF "firsts" (.ref F) (putF "rooms" (.ref R) []))))))
    have wTk : But n H14 (upd H14 n (.ins t.C_Net dx (putF "takers" (.ref Tk) (putF "givers" (.ref Gv) (putF "parts" (.ref Pd) (putF "firsts" (.ref F) (putF "rooms" (.ref R) []))))))) := But.write
    generalize upd H14 n (.ins t.C_Net dx (putF "takers" (.ref Tk) (putF "givers" (.ref Gv) (putF "parts" (.ref Pd) (putF "firsts" (.ref F) (putF "rooms" (.ref R) [])))))) = H15 at T15 wTk ⊢
    
    have T15 : Tr H n [(n, .ins t.C_Net dx (putF "takers" (.ref Tk) (putF "givers" (.ref Gv) (putF "parts" (.ref Pd) (putF "firsts" (.ref F) (putF "rooms" (.ref R) [])))))), (R, .dK (kb (.int room))), (F, .dK (kb (.ref F0))), (Pd, .dK []), (Gv, .dK []), (Tk, .dK [])] H15 := T15
    have t15 := wTk.seqT cTk (gTk.seqT (wGv.seqT cGv (gGv.seqT (wPd.seqT cPd (gPd.seqT t9)))))
    have kp1 : ∀ {Hk : Hp}, But n H Hk → Hk p1 = some (.tup [.str "take", .str "c", .ref a1, .ref a2, .ref a3]) := fun b => b _ _ (ne_of hp1 hn (by intro z; cases z)) hp1
    have kp2 : ∀ {Hk : Hp}, But n H Hk → Hk p2 = some (.tup [.str "give", .str "a", .ref c1, .ref c2, .ref c3]) := fun b => b _ _ (ne_of hp2 hn (by intro z; cases z)) hp2
    refine ⟨_, rfl, Lp, rfl, ⟨_, T15.but.seqL hn hLp⟩, for_list (K := K) (a := Lp) (xs := [.ref p1, .ref p2]) (fun j σ H' => But n H H' ∧ SqT K H' F0 (ws.map V.int) ∧ (∃ x3 x4 x5, σ = [some (.ref n), some (.ref Ll), some (.ref Lp), x3, x4, x5]) ∧ ((j = 0 ∧ H' = H15) ∨ (j = 1 ∧ ∃ pc, PartAt K t H' pc 1 (.str "c") [] [.str "b"] [] ∧ Tr H n [(n, .ins t.C_Net dx (putF "takers" (.ref Tk) (putF "givers" (.ref Gv) (putF "parts" (.ref Pd) (putF "firsts" (.ref F) (putF "rooms" (.ref R) [])))))), (R, .dK (kb (.int room))), (F, .dK (kb (.ref F0))), (Pd, .dK [((Sum.inr "c" : Key), V.ref pc)]), (Gv, .dK []), (Tk, .dK (kb (.str "c")))] H') ∨ (j = 2 ∧ ∃ pc pa, pc ≠ pa ∧ PartAt K t H' pc 1 (.str "c") [] [.str "b"] [] ∧ PartAt K t H' pa 0 (.str "a") [] [] [.str "b"] ∧ Tr H n [(n, .ins t.C_Net dx (putF "takers" (.ref Tk) (putF "givers" (.ref Gv) (putF "parts" (.ref Pd) (putF "firsts" (.ref F) (putF "rooms" (.ref R) [])))))), (R, .dK (kb (.int room))), (F, .dK (kb (.ref F0))), (Pd, .dK (kca (.ref pc) (.ref pa))), (Gv, .dK (kb (.str "a"))), (Tk, .dK (kb (.str "c")))] H'))) ⟨T15.but, t15, ⟨x3, none, none, rfl⟩, .inl ⟨rfl, rfl⟩⟩ (fun j σ H' _ h => h.1.seqL hn hLp) ?_ ?_⟩
    · rintro j x σ H' hx ⟨_, tF, ⟨x3, x4, x5, rfl⟩, hj⟩
      have hj2 : j < 2 := (List.getElem?_eq_some_iff.mp hx).1
      rcases hj with ⟨rfl, rfl⟩ | ⟨rfl, pc, Pc, T15⟩ | ⟨rfl, _⟩
      · cases hx
        have nod := T15.nod
        simp only [List.map_append, List.map_cons, List.map_nil, List.nil_append, List.cons_append, List.nodup_cons, List.mem_cons, List.not_mem_nil, or_false, not_or] at nod
        have nRT : R ≠ Tk := nod.2.1.2.2.2
        have nRG : R ≠ Gv := nod.2.1.2.2.1
        have e15 := T15.all (n, .ins t.C_Net dx (putF "takers" (.ref Tk) (putF "givers" (.ref Gv) (putF "parts" (.ref Pd) (putF "firsts" (.ref F) (putF "rooms" (.ref R) [])))))) (.head _)
        refine ⟨_, rfl, _, rfl, n, _, dx, _, _, rfl, e15, T.c_Net, T.na_Net_parts, (by (repeat first | (rw [lookup_putF, if_pos rfl]; done) | rw [lookup_putF, if_neg (by decide +kernel)])), 1, "c", p1, Pd, a1, a2, a3, _, _, _, [], rfl, kp1 T15.but, by decide, T15.all (Pd, .dK []) (by simp), name_c.1, name_c.2, rfl, T15.but.seqL hn ha1, T15.but.seqL hn ha2, T15.but.seqL hn ha3, rfl, rfl, rfl, by simp, fun H16 pc s16 npc Pc => ?_⟩
        have T16 := T15.same s16
        obtain ⟨dxp, tn, ti, to, z1, z2, z3, z4⟩ := id Pc.ex
        have e16 := T16.all (n, .ins t.C_Net dx (putF "takers" (.ref Tk) (putF "givers" (.ref Gv) (putF "parts" (.ref Pd) (putF "firsts" (.ref F) (putF "rooms" (.ref R) [])))))) (.head _)
        have eTk := T16.all (Tk, .dK []) (by simp)
        refine ⟨_, rfl, pc, _, dxp, _, _, rfl, z1, cls_ok T 1, na_name T 1, flds_name _ _ _ _, _, rfl, pc, _, dxp, _, _, rfl, z1, cls_ok T 1, na_ins T 1, flds_ins _ _ _ _, _, rfl, n, _, dx, _, _, rfl, e16, T.c_Net, T.na_Net_rooms, (by (repeat first | (rw [lookup_putF, if_pos rfl]; done) | rw [lookup_putF, if_neg (by decide +kernel)])), _, rfl, n, _, dx, _, _, rfl, e16, T.c_Net, T.na_Net_takers, (by (repeat first | (rw [lookup_putF, if_pos rfl]; done) | rw [lookup_putF, if_neg (by decide +kernel)])), "c", ti, R, Tk, room, 1, rfl, z3, T16.all (R, .dK (kb (.int room))) (by simp), nRT, .inr ⟨rfl, eTk, ?_⟩⟩
        have T17 := T16.put (L1 := [_, _, _, _, _]) (o' := .dK (kb (.str "c")))
        have Pc17 := Pc.chill (v := .dK (kb (.str "c"))) eTk
        have tF17 := chill_seqT (v := .dK (kb (.str "c"))) eTk (s16.seqT tF)
        generalize upd H16 Tk (.dK (kb (.str "c"))) = H17 at T17 Pc17 tF17 ⊢
        obtain ⟨dxp, tn, ti, to, z1, z2, z3, z4⟩ := id Pc17.ex
        have e17 := T17.all (n, .ins t.C_Net dx (putF "takers" (.ref Tk) (putF "givers" (.ref Gv) (putF "parts" (.ref Pd) (putF "firsts" (.ref F) (putF "rooms" (.ref R) [])))))) (.head _)
        refine ⟨_, rfl, pc, _, dxp, _, _, rfl, z1, cls_ok T 1, na_name T 1, flds_name _ _ _ _, _, rfl, pc, _, dxp, _, _, rfl, z1, cls_ok T 1, na_outs T 1, flds_outs _ _ _ _, _, rfl, n, _, dx, _, _, rfl, e17, T.c_Net, T.na_Net_rooms, (by (repeat first | (rw [lookup_putF, if_pos rfl]; done) | rw [lookup_putF, if_neg (by decide +kernel)])), _, rfl, n, _, dx, _, _, rfl, e17, T.c_Net, T.na_Net_givers, (by (repeat first | (rw [lookup_putF, if_pos rfl]; done) | rw [lookup_putF, if_neg (by decide +kernel)])), "c", to, R, Gv, room, 0, rfl, z4, T17.all (R, .dK (kb (.int room))) (by simp), nRG, .inl ⟨rfl, ?_⟩⟩
        have ePd := T17.all (Pd, .dK []) (by simp)
        refine ⟨_, rfl, _, rfl, n, _, dx, _, _, rfl, e17, T.c_Net, T.na_Net_parts, (by (repeat first | (rw [lookup_putF, if_pos rfl]; done) | rw [lookup_putF, if_neg (by decide +kernel)])), _, rfl, pc, _, dxp, _, _, rfl, z1, cls_ok T 1, na_name T 1, flds_name _ _ _ _, Pd, _, rfl, DPut.k (k := Sum.inr "c") ePd (by show 0 < sizeLine; omega), ?_⟩
        have T18 := T17.put (L1 := [_, _, _]) (o' := .dK [((Sum.inr "c" : Key), V.ref pc)])
        exact ⟨T18.but, chill_seqT ePd tF17, ⟨_, _, _, rfl⟩, .inr (.inl ⟨rfl, pc, Pc17.chill ePd, T18⟩)⟩
      · cases hx
        have nod := T15.nod
        simp only [List.map_append, List.map_cons, List.map_nil, List.nil_append, List.cons_append, List.nodup_cons, List.mem_cons, List.not_mem_nil, or_false, not_or] at nod
        have nRT : R ≠ Tk := nod.2.1.2.2.2
        have nRG : R ≠ Gv := nod.2.1.2.2.1
        have e15 := T15.all (n, .ins t.C_Net dx (putF "takers" (.ref Tk) (putF "givers" (.ref Gv) (putF "parts" (.ref Pd) (putF "firsts" (.ref F) (putF "rooms" (.ref R) [])))))) (.head _)
        refine ⟨_, rfl, _, rfl, n, _, dx, _, _, rfl, e15, T.c_Net, T.na_Net_parts, (by (repeat first | (rw [lookup_putF, if_pos rfl]; done) | rw [lookup_putF, if_neg (by decide +kernel)])), 0, "a", p2, Pd, c1, c2, c3, _, _, _, [((Sum.inr "c" : Key), V.ref pc)], rfl, kp2 T15.but, by decide, T15.all (Pd, .dK [((Sum.inr "c" : Key), V.ref pc)]) (by simp), name_a.1, name_a.2, (by simp [valV, n_ca]), T15.but.seqL hn hc1, T15.but.seqL hn hc2, T15.but.seqL hn hc3, rfl, rfl, rfl, by simp, fun H16 pa s16 npa Pa => ?_⟩
        have npp : pc ≠ pa := by obtain ⟨_, _, _, _, z, _⟩ := Pc.ex; exact ne_of_none z npa
        have T16 := T15.same s16
        obtain ⟨dxp, tn, ti, to, z1, z2, z3, z4⟩ := id Pa.ex
        have e16 := T16.all (n, .ins t.C_Net dx (putF "takers" (.ref Tk) (putF "givers" (.ref Gv) (putF "parts" (.ref Pd) (putF "firsts" (.ref F) (putF "rooms" (.ref R) [])))))) (.head _)
        refine ⟨_, rfl, pa, _, dxp, _, _, rfl, z1, cls_ok T 0, na_name T 0, flds_name _ _ _ _, _, rfl, pa, _, dxp, _, _, rfl, z1, cls_ok T 0, na_ins T 0, flds_ins _ _ _ _, _, rfl, n, _, dx, _, _, rfl, e16, T.c_Net, T.na_Net_rooms, (by (repeat first | (rw [lookup_putF, if_pos rfl]; done) | rw [lookup_putF, if_neg (by decide +kernel)])), _, rfl, n, _, dx, _, _, rfl, e16, T.c_Net, T.na_Net_takers, (by (repeat first | (rw [lookup_putF, if_pos rfl]; done) | rw [lookup_putF, if_neg (by decide +kernel)])), "a", ti, R, Tk, room, 0, rfl, z3, T16.all (R, .dK (kb (.int room))) (by simp), nRT, .inl ⟨rfl, ?_⟩⟩
        have eGv := T16.all (Gv, .dK []) (by simp)
        refine ⟨_, rfl, pa, _, dxp, _, _, rfl, z1, cls_ok T 0, na_name T 0, flds_name _ _ _ _, _, rfl, pa, _, dxp, _, _, rfl, z1, cls_ok T 0, na_outs T 0, flds_outs _ _ _ _, _, rfl, n, _, dx, _, _, rfl, e16, T.c_Net, T.na_Net_rooms, (by (repeat first | (rw [lookup_putF, if_pos rfl]; done) | rw [lookup_putF, if_neg (by decide +kernel)])), _, rfl, n, _, dx, _, _, rfl, e16, T.c_Net, T.na_Net_givers, (by (repeat first | (rw [lookup_putF, if_pos rfl]; done) | rw [lookup_putF, if_neg (by decide +kernel)])), "a", to, R, Gv, room, 1, rfl, z4, T16.all (R, .dK (kb (.int room))) (by simp), nRG, .inr ⟨rfl, eGv, ?_⟩⟩
        have T17 := T16.put (L1 := [_, _, _, _]) (o' := .dK (kb (.str "a")))
        have Pa17 := Pa.chill (v := .dK (kb (.str "a"))) eGv
        have Pc17 := (Pc.same s16).chill (v := .dK (kb (.str "a"))) eGv
        have tF17 := chill_seqT (v := .dK (kb (.str "a"))) eGv (s16.seqT tF)
        generalize upd H16 Gv (.dK (kb (.str "a"))) = H17 at T17 Pc17 Pa17 tF17 ⊢
        obtain ⟨dxp, tn, ti, to, z1, z2, z3, z4⟩ := id Pa17.ex
        have e17 := T17.all (n, .ins t.C_Net dx (putF "takers" (.ref Tk) (putF "givers" (.ref Gv) (putF "parts" (.ref Pd) (putF "firsts" (.ref F) (putF "rooms" (.ref R) [])))))) (.head _)
        have ePd := T17.all (Pd, .dK [((Sum.inr "c" : Key), V.ref pc)]) (by simp)
        refine ⟨_, rfl, _, rfl, n, _, dx, _, _, rfl, e17, T.c_Net, T.na_Net_parts, (by (repeat first | (rw [lookup_putF, if_pos rfl]; done) | rw [lookup_putF, if_neg (by decide +kernel)])), _, rfl, pa, _, dxp, _, _, rfl, z1, cls_ok T 0, na_name T 0, flds_name _ _ _ _, Pd, _, rfl, DPut.k (k := Sum.inr "a") ePd (by show 1 < sizeLine; omega), ?_⟩
        have T18 := T17.put (L1 := [_, _, _]) (o' := .dK (kca (.ref pc) (.ref pa)))
        have e18 : putK ([((Sum.inr "c" : Key), V.ref pc)]) (Sum.inr "a") (.ref pa) = kca (.ref pc) (.ref pa) := by simp [putK, kca, n_ca]
        rw [e18]
        exact ⟨T18.but, chill_seqT ePd tF17, ⟨_, _, _, rfl⟩, .inr (.inr ⟨rfl, pc, pa, npp, Pc17.chill ePd, Pa17.chill ePd, T18⟩)⟩
      · omega
    rintro σ H18 ⟨_, tF, ⟨x3, x4, x5, rfl⟩, ⟨h, _⟩ | ⟨h, _⟩ | ⟨_, pc, pa, npp, Pc, Pa, T18⟩⟩
    · cases h
    · cases h
    have nod := T18.nod
    simp only [List.map_append, List.map_cons, List.map_nil, List.nil_append, List.cons_append, List.nodup_cons, List.mem_cons, List.not_mem_nil, or_false, not_or] at nod
    have nRT : R ≠ Tk := nod.2.1.2.2.2
    have nRG : R ≠ Gv := nod.2.1.2.2.1
    have nGT : Gv ≠ Tk := nod.2.2.2.2.1
    have e18 := T18.all (n, .ins t.C_Net dx (putF "takers" (.ref Tk) (putF "givers" (.ref Gv) (putF "parts" (.ref Pd) (putF "firsts" (.ref F) (putF "rooms" (.ref R) [])))))) (.head _)
    have eR := T18.all (R, .dK (kb (.int room))) (by simp)
    have eF := T18.all (F, .dK (kb (.ref F0))) (by simp)
    have ePd := T18.all (Pd, .dK (kca (.ref pc) (.ref pa))) (by simp)
    have eGv := T18.all (Gv, .dK (kb (.str "a"))) (by simp)
    have eTk := T18.all (Tk, .dK (kb (.str "c"))) (by simp)
    refine ⟨_, rfl, n, _, dx, _, _, rfl, e18, T.c_Net, T.na_Net_rooms, (by (repeat first | (rw [lookup_putF, if_pos rfl]; done) | rw [lookup_putF, if_neg (by decide +kernel)])), _, rfl, n, _, dx, _, _, rfl, e18, T.c_Net, T.na_Net_givers, (by (repeat first | (rw [lookup_putF, if_pos rfl]; done) | rw [lookup_putF, if_neg (by decide +kernel)])), _, rfl, n, _, dx, _, _, rfl, e18, T.c_Net, T.na_Net_takers, (by (repeat first | (rw [lookup_putF, if_pos rfl]; done) | rw [lookup_putF, if_neg (by decide +kernel)])), R, Gv, Tk, _, _, _, rfl, eR, eGv, eTk, nRG, nRT, ?_⟩
    refine ⟨_, rfl, n, _, dx, _, _, rfl, e18, T.c_Net, T.na_Net_parts, (by (repeat first | (rw [lookup_putF, if_pos rfl]; done) | rw [lookup_putF, if_neg (by decide +kernel)])), Pd, _, rfl, .inl ePd, fun l nl => ?_⟩
    have s19 := same_new (o := .lst ((kca (.ref pc) (.ref pa)).map fun p => kV p.1)) nl
    refine ⟨_, rfl, n, _, dx, _, _, rfl, (s19 _ _ e18), T.c_Net, T.na_Net_givers, (by (repeat first | (rw [lookup_putF, if_pos rfl]; done) | rw [lookup_putF, if_neg (by decide +kernel)])), _, rfl, n, _, dx, _, _, rfl, (s19 _ _ e18), T.c_Net, T.na_Net_takers, (by (repeat first | (rw [lookup_putF, if_pos rfl]; done) | rw [lookup_putF, if_neg (by decide +kernel)])), l, Gv, Tk, rfl, SqL.of upd_same, s19 _ _ eGv, s19 _ _ eTk, nGT, fun H20 s20 => ?_⟩
    have s := s19.trans s20
    refine k _ pc pa F0 (fun b u hb e => s _ _ (T18.but b u hb e)) ⟨⟨dx, _, R, F, Pd, Gv, Tk, s _ _ e18, ⟨?_, ?_⟩, s _ _ eR, s _ _ eF, s _ _ ePd⟩, s.seqT tF, Pc.same s, Pa.same s, npp, hH.b0, hH.bd⟩
    · intro q hq
      simp only [List.mem_cons, List.not_mem_nil, or_false] at hq
      rcases hq with rfl | rfl | rfl | rfl | rfl <;> (dsimp only; (repeat first | (rw [lookup_putF, if_pos rfl]; done) | rw [lookup_putF, if_neg (by decide +kernel)]))
    · intro m hm
      have hne : ∀ m ∈ (["lane_names", "part_names", "gives", "takes", "names_of_kind", "room_of", "first_of", "part_of", "need_lane_name", "__init__"] : List Str), ∀ g ∈ (["takers", "givers", "parts", "firsts", "rooms"] : List Str), ¬ m = g := by decide +kernel
      have h := hne m hm
      rw [lookup_putF, if_neg (h _ (by simp)), lookup_putF, if_neg (h _ (by simp)), lookup_putF, if_neg (h _ (by simp)), lookup_putF, if_neg (h _ (by simp)), lookup_putF, if_neg (h _ (by simp))]
      rfl
theorem start_ok (T : Txt w K mg t) {i : Nat} (hi : i ≤ 1) : MethAt P w K mg base CX0 1 (cls t i) "start" (sp_start K t i) := match i, hi with
  | 0, _ => ⟨_, _, _, T.c_Give, T.me_Give_start, T.b_Part_start, (ok_Part_start T).imp fun _ _ _ _ h => ⟨_, by decide, h⟩⟩
  | 1, _ => ⟨_, _, _, T.c_Take, T.me_Take_start, T.b_Part_start, (ok_Part_start T).imp fun _ _ _ _ h => ⟨_, by decide, h⟩⟩
  | (n + 2), h => absurd h (by omega)
def sp_Flow___init__ (K : PySem.W.Frag) (t : Adr) : Sp := fun vs H Q _ => ∃ (f dx n pc pa F0 rw L : Addr) (room : Int) (ws vs' : List Int), vs = [.ref f, .ref n, .ref rw] ∧ H f = some (.ins t.C_Flow dx []) ∧ f ≠ n ∧ NetB K t H n pc pa F0 room ws ∧ H rw = some (.dK (ka (.ref L))) ∧ SqL K H L (vs'.map V.int) ∧ ∀ H' E G Kp D Rw le lr, But f H H' → FlowAt K t H' f n E G Kp D Rw → H' E = some (.dK (kb (.ref le))) → H' G = some (.dK (kb (.int 0))) → H' Kp = some (.dK (kca (.int 0) (.int 0))) → H' D = some (.dK (kca (.int 0) (.int 0))) → H' Rw = some (.dK (ka (.ref lr))) → H' le = some (.lst (ws.map V.int)) → H' lr = some (.lst (vs'.map V.int)) → (∀ x ∈ [E, G, Kp, D, Rw, le, lr], H x = none) → [E, G, Kp, D, Rw, le, lr].Nodup → Q .non H'
theorem sc_Flow___init__ : FnScope ["self", "net", "rows", "lane", "name", "door"] ["self", "net", "rows"] (defScope s_Flow___init__) := ⟨rfl, rfl, rfl, by decide +kernel, rfl, by decide +kernel, by decide +kernel⟩
theorem ok_Flow___init__ (T : Txt w K mg t) : FnOk P w K mg base CX0 4 t.f_Flow___init__ t.fd_Flow___init__ ["self", "net", "rows"] (sp_Flow___init__ K t) := by
  have sc := sc_Flow___init__
  refine T.F_Flow___init__.ok sc (fun vs H Q E h => ?_) (fun cdv A outer s H vs Q E hr h => ?_)
  · obtain ⟨f, dx, n, pc, pa, F0, rw, L, room, ws, vs', rfl, _⟩ := h
    rfl
  · obtain ⟨f, dx, n, pc, pa, F0, rw, L, room, ws, vs', rfl, hf, nfn, hN, hrw, hL, k⟩ := h
    refine ⟨_, (pss_cons (ps_fld (pv 0) (pv 1) rfl)
      (pss_cons (ps_fld (pv 0) pe_dnewK rfl)
      (pss_cons (ps_fld (pv 0) pe_dnewK rfl)
      (pss_cons (ps_for PassesOwn.never rfl (pi_list (pe_meth0 (pv 1) T.c_Net T.me_Net_lane_names (ok_Net_lane_names T) (hr.mono (by decide)) T.b_Net_lane_names .nil pass0)) (pg_name (i := 3) sc.nd rfl (Or.inl rfl))
        (pss_cons (ps_dput hr.u1 (pe_fld (pv 0) rfl) (pv 3) (pe_meth (pv 1) T.c_Net T.me_Net_first_of (ok_Net_first_of T) (hr.mono (by decide)) T.b_Net_first_of .nil pass0 (pa_cons (pv 3) pa_nil star_Name)) rfl)
        (pss_one (ps_dput hr.u1 (pe_fld (pv 0) rfl) (pv 3) pe_int rfl))))
      (pss_cons (ps_fld (pv 0) pe_dnewK rfl)
      (pss_cons (ps_fld (pv 0) pe_dnewK rfl)
      (pss_cons (ps_for PassesOwn.never rfl (pi_list (pe_meth0 (pv 1) T.c_Net T.me_Net_part_names (ok_Net_part_names T) (hr.mono (by decide)) T.b_Net_part_names .nil pass0)) (pg_name (i := 4) sc.nd rfl (Or.inl rfl))
        (pss_cons (ps_dput hr.u1 (pe_fld (pv 0) rfl) (pv 4) (pe_methD0 (CX := CX0) (k := 1) (E := E0) (pe_meth (pv 1) T.c_Net T.me_Net_part_of (ok_Net_part_of T) (hr.mono (by decide)) T.b_Net_part_of .nil pass0 (pa_cons (pv 4) pa_nil star_Name)) (hr.mono (by decide)) pass0) rfl)
        (pss_one (ps_dput hr.u1 (pe_fld (pv 0) rfl) (pv 4) pe_int rfl))))
      (pss_cons (ps_fld (pv 0) pe_dnewK rfl)
      (pss_one (ps_for PassesOwn.never rfl (pi_list (pe_meth0 (pv 1) T.c_Net T.me_Net_gives (ok_Net_gives T) (hr.mono (by decide)) T.b_Net_gives .nil pass0)) (pg_name (i := 5) sc.nd rfl (Or.inl rfl))
        (pss_one (ps_dput hr.u1 (pe_fld (pv 0) rfl) (pv 5) (pe_callTy call_list_of (by rfl) T.n_list bt_list (pa_cons (pe_dget2 hr.u1 (pv 2) (pv 5) (pe_lst pa_nil) ⟨rfl, rfl, rfl, rfl⟩) pa_nil star_Call)) rfl)))))))))))), ?_⟩
    obtain ⟨dxn, fsn, R, F, Pd, Gn, Tk, n1, n2, n3, n4, n5⟩ := hN.ex
    have hl : sizeLine = 16777216 := sizeLine_eq
    have nnf : n ≠ f := Ne.symm nfn
    have T0 := Tr.start hf
    refine ⟨_, rfl, _, rfl, f, _, dx, [], rfl, hf, T.c_Flow, T.na_Flow_net, by show 0 < 1000; decide, ?_⟩
    have T1 := T0.put (L1 := []) (L2 := []) (o' := .ins t.C_Flow dx (putF "net" (.ref n) []))
    generalize upd H f (.ins t.C_Flow dx (putF "net" (.ref n) [])) = H1 at T1 ⊢
    refine fun E nE => ?_
    have T2 := T1.new (o := .dK []) nE
    generalize upd H1 E (.dK []) = H2 at T2 ⊢
    refine ⟨_, rfl, f, _, dx, _, rfl, T2.all (f, _) (.head _), T.c_Flow, T.na_Flow_ever, Nat.lt_of_le_of_lt (lenP (Nat.zero_le 0)) (by decide), ?_⟩
    have T3 := T2.put (L1 := []) (o' := .ins t.C_Flow dx (putF "ever" (.ref E) (putF "net" (.ref n) [])))
    generalize upd H2 f (.ins t.C_Flow dx (putF "ever" (.ref E) (putF "net" (.ref n) []))) = H3 at T3 ⊢
    refine fun G nG => ?_
    have T4 := T3.new (o := .dK []) nG
    generalize upd H3 G (.dK []) = H4 at T4 ⊢
    refine ⟨_, rfl, f, _, dx, _, rfl, T4.all (f, _) (.head _), T.c_Flow, T.na_Flow_gone, Nat.lt_of_le_of_lt (lenP (lenP (Nat.zero_le 0))) (by decide), ?_⟩
    have T5 := T4.put (L1 := []) (o' := .ins t.C_Flow dx (putF "gone" (.ref G) (putF "ever" (.ref E) (putF "net" (.ref n) []))))
    generalize upd H4 f (.ins t.C_Flow dx (putF "gone" (.ref G) (putF "ever" (.ref E) (putF "net" (.ref n) [])))) = H5 at T5 ⊢
    have N5 := hN.but T5.but hf nnf
    refine ⟨_, rfl, n, dxn, fsn, rfl, T5.but _ _ nnf n1, n2.no _ (by decide +kernel), n, _, _, _, rfl, N5.netAt, fun l nl => ?_⟩
    have T6 := T5.new (o := .lst [.str "b"]) nl
    have e6 : upd H5 l (.lst ([(("b" : Str), room)].map fun p : Str × Int => V.str p.1)) = upd H5 l (.lst [.str "b"]) := rfl
    rw [e6]
    generalize upd H5 l (.lst [.str "b"]) = H6 at T6 ⊢
    refine ⟨l, rfl, ⟨_, SqL.of (T6.all (l, .lst [.str "b"]) (by simp))⟩, for_list (K := K) (a := l) (xs := [.str "b"]) (fun j σ H' => (∃ v3, σ = [some (.ref f), some (.ref n), some (.ref rw), v3, none, none]) ∧ H' l = some (.lst [.str "b"]) ∧ ((j = 0 ∧ H' = H6) ∨ (j = 1 ∧ ∃ le, Tr H f [(f, .ins t.C_Flow dx (putF "gone" (.ref G) (putF "ever" (.ref E) (putF "net" (.ref n) [])))), (E, .dK (kb (.ref le))), (G, .dK (kb (.int 0))), (l, .lst [.str "b"]), (le, .lst (ws.map V.int))] H'))) ⟨⟨none, rfl⟩, T6.all (l, _) (by simp), .inl ⟨rfl, rfl⟩⟩ (fun j σ H' _ h => SqL.of h.2.1) ?_ ?_⟩
    · rintro j x σ H' hx ⟨⟨v3, rfl⟩, _, hj⟩
      have hj0 : j = 0 := by
        have := (List.getElem?_eq_some_iff.mp hx).1
        simp at this
        exact this
      subst hj0
      cases hx
      rcases hj with ⟨_, rfl⟩ | ⟨h, _⟩
      · have N6 := hN.but T6.but hf nnf
        refine ⟨_, rfl, n, dxn, fsn, rfl, T6.but _ _ nnf n1, n2.no _ (by decide +kernel), _, rfl, n, _, _, _, "b", F0, _, rfl, N6.netAt, by simp, val_kb (.ref F0), N6.f0, fun H7 le s7 nle => ?_⟩
        have T7 := (T6.same s7).new (o := .lst (ws.map V.int)) nle
        generalize upd H7 le (.lst (ws.map V.int)) = H8 at T7 ⊢
        refine ⟨_, rfl, f, _, dx, _, _, rfl, T7.all (f, _) (.head _), T.c_Flow, T.na_Flow_ever, (by (repeat first | (rw [lookup_putF, if_pos rfl]; done) | rw [lookup_putF, if_neg (by decide +kernel)])), _, rfl, E, _, rfl, DPut.k (k := Sum.inr "b") (T7.all (E, .dK []) (by simp)) (by show 0 < sizeLine; omega), ?_⟩
        have T8 := T7.put (L1 := [_]) (o' := .dK (kb (.ref le)))
        have e8 : putK ([] : List (Key × V)) (Sum.inr "b") (.ref le) = kb (.ref le) := rfl
        rw [e8]
        generalize upd H8 E (.dK (kb (.ref le))) = H9 at T8 ⊢
        refine ⟨_, rfl, f, _, dx, _, _, rfl, T8.all (f, _) (.head _), T.c_Flow, T.na_Flow_gone, (by (repeat first | (rw [lookup_putF, if_pos rfl]; done) | rw [lookup_putF, if_neg (by decide +kernel)])), _, rfl, G, _, rfl, DPut.k (k := Sum.inr "b") (T8.all (G, .dK []) (by simp)) (by show 0 < sizeLine; omega), ?_⟩
        have T9 := T8.put (L1 := [_, _]) (o' := .dK (kb (.int 0)))
        exact ⟨⟨_, rfl⟩, T9.all (l, _) (by simp), .inr ⟨rfl, le, T9⟩⟩
      · omega
    rintro σ H9 ⟨⟨v3, rfl⟩, _, ⟨h, _⟩ | ⟨_, le, T9⟩⟩
    · cases h
    clear T0 T1 T2 T3 T4 T5 T6 N5 e6
    refine fun Kp nKp => ?_
    have T10 := T9.new (o := .dK []) nKp
    generalize upd H9 Kp (.dK []) = H10 at T10 ⊢
    refine ⟨_, rfl, f, _, dx, _, rfl, T10.all (f, _) (.head _), T.c_Flow, T.na_Flow_kept, Nat.lt_of_le_of_lt (lenP (lenP (lenP (Nat.zero_le 0)))) (by decide), ?_⟩
    have T11 := T10.put (L1 := []) (o' := .ins t.C_Flow dx (putF "kept" (.ref Kp) (putF "gone" (.ref G) (putF "ever" (.ref E) (putF "net" (.ref n) [])))))
    generalize upd H10 f (.ins t.C_Flow dx (putF "kept" (.ref Kp) (putF "gone" (.ref G) (putF "ever" (.ref E) (putF "net" (.ref n) []))))) = H11 at T11 ⊢
    refine fun D nD => ?_
    have T12 := T11.new (o := .dK []) nD
    generalize upd H11 D (.dK []) = H12 at T12 ⊢
    refine ⟨_, rfl, f, _, dx, _, rfl, T12.all (f, _) (.head _), T.c_Flow, T.na_Flow_done, Nat.lt_of_le_of_lt (lenP (lenP (lenP (lenP (Nat.zero_le 0))))) (by decide), ?_⟩
    have T13 := T12.put (L1 := []) (o' := .ins t.C_Flow dx (putF "done" (.ref D) (putF "kept" (.ref Kp) (putF "gone" (.ref G) (putF "ever" (.ref E) (putF "net" (.ref n) []))))))
    generalize upd H12 f (.ins t.C_Flow dx (putF "done" (.ref D) (putF "kept" (.ref Kp) (putF "gone" (.ref G) (putF "ever" (.ref E) (putF "net" (.ref n) [])))))) = H13 at T13 ⊢
    have N13 := hN.but T13.but hf nnf
    refine ⟨_, rfl, n, dxn, fsn, rfl, T13.but _ _ nnf n1, n2.no _ (by decide +kernel), n, _, _, _, rfl, N13.netAt, fun l2 nl2 => ?_⟩
    have T14 := T13.new (o := .lst [.str "c", .str "a"]) nl2
    have e14 : upd H13 l2 (.lst ([(("c" : Str), pc), (("a" : Str), pa)].map fun p : Str × Addr => V.str p.1)) = upd H13 l2 (.lst [.str "c", .str "a"]) := rfl
    rw [e14]
    generalize upd H13 l2 (.lst [.str "c", .str "a"]) = H14 at T14 ⊢
    refine ⟨l2, rfl, ⟨_, SqL.of (T14.all (l2, .lst [.str "c", .str "a"]) (by simp))⟩, for_list (K := K) (a := l2) (xs := [.str "c", .str "a"]) (fun j σ H' => (∃ v3 v4, σ = [some (.ref f), some (.ref n), some (.ref rw), v3, v4, none]) ∧ H' l2 = some (.lst [.str "c", .str "a"]) ∧ ((j = 0 ∧ H' = H14) ∨ (j = 1 ∧ Tr H f [(f, .ins t.C_Flow dx (putF "done" (.ref D) (putF "kept" (.ref Kp) (putF "gone" (.ref G) (putF "ever" (.ref E) (putF "net" (.ref n) [])))))), (E, .dK (kb (.ref le))), (G, .dK (kb (.int 0))), (l, .lst [.str "b"]), (le, .lst (ws.map V.int)), (Kp, .dK [((Sum.inr "c" : Key), V.int 0)]), (D, .dK [((Sum.inr "c" : Key), V.int 0)]), (l2, .lst [.str "c", .str "a"])] H') ∨ (j = 2 ∧ Tr H f [(f, .ins t.C_Flow dx (putF "done" (.ref D) (putF "kept" (.ref Kp) (putF "gone" (.ref G) (putF "ever" (.ref E) (putF "net" (.ref n) [])))))), (E, .dK (kb (.ref le))), (G, .dK (kb (.int 0))), (l, .lst [.str "b"]), (le, .lst (ws.map V.int)), (Kp, .dK (kca (.int 0) (.int 0))), (D, .dK (kca (.int 0) (.int 0))), (l2, .lst [.str "c", .str "a"])] H'))) ⟨⟨v3, none, rfl⟩, T14.all (l2, _) (by simp), .inl ⟨rfl, rfl⟩⟩ (fun j σ H' _ h => SqL.of h.2.1) ?_ ?_⟩
    · rintro j x σ H' hx ⟨⟨v3, v4, rfl⟩, _, hj⟩
      have hj2 : j < 2 := (List.getElem?_eq_some_iff.mp hx).1
      rcases hj with ⟨rfl, rfl⟩ | ⟨rfl, T15⟩ | ⟨rfl, _⟩
      · cases hx
        have N14 := hN.but T14.but hf nnf
        obtain ⟨dxp, tn, ti, to, p1, _⟩ := id N14.cP.ex
        refine ⟨_, rfl, n, dxn, fsn, rfl, T14.but _ _ nnf n1, n2.no _ (by decide +kernel), _, rfl, n, _, _, _, "c", pc, rfl, N14.netAt, by simp, val_c (.ref pc) (.ref pa), fun H15 s15 => ?_⟩
        refine ⟨pc, cls t 1, dxp, _, sp_start K t 1, rfl, s15 _ _ p1, flds_no _ _ _ _ (by decide +kernel) (by decide +kernel) (by decide +kernel) (by decide +kernel), start_ok T (i := 1) (by decide), pc, _, _, _, _, rfl, N14.cP.same s15, rfl, ?_⟩
        have T15 := T14.same s15
        refine ⟨_, rfl, f, _, dx, _, _, rfl, T15.all (f, _) (.head _), T.c_Flow, T.na_Flow_kept, (by (repeat first | (rw [lookup_putF, if_pos rfl]; done) | rw [lookup_putF, if_neg (by decide +kernel)])), _, rfl, Kp, _, rfl, DPut.k (k := Sum.inr "c") (T15.all (Kp, .dK []) (by simp)) (by show 0 < sizeLine; omega), ?_⟩
        have T16 := T15.put (L1 := [_, _, _, _, _]) (o' := .dK [((Sum.inr "c" : Key), V.int 0)])
        have e16 : putK ([] : List (Key × V)) (Sum.inr "c") (startV 1 []) = [((Sum.inr "c" : Key), V.int 0)] := rfl
        rw [e16]
        generalize upd H15 Kp (.dK [((Sum.inr "c" : Key), V.int 0)]) = H16 at T16 ⊢
        refine ⟨_, rfl, f, _, dx, _, _, rfl, T16.all (f, _) (.head _), T.c_Flow, T.na_Flow_done, (by (repeat first | (rw [lookup_putF, if_pos rfl]; done) | rw [lookup_putF, if_neg (by decide +kernel)])), _, rfl, D, _, rfl, DPut.k (k := Sum.inr "c") (T16.all (D, .dK []) (by simp)) (by show 0 < sizeLine; omega), ?_⟩
        have T17 := T16.put (L1 := [_, _, _, _, _, _]) (o' := .dK [((Sum.inr "c" : Key), V.int 0)])
        exact ⟨⟨_, _, rfl⟩, T17.all (l2, _) (by simp), .inr (.inl ⟨rfl, T17⟩)⟩
      · cases hx
        have N14 := hN.but T15.but hf nnf
        obtain ⟨dxp, tn, ti, to, p1, _⟩ := id N14.aP.ex
        refine ⟨_, rfl, n, dxn, fsn, rfl, T15.but _ _ nnf n1, n2.no _ (by decide +kernel), _, rfl, n, _, _, _, "a", pa, rfl, N14.netAt, by simp, val_a (.ref pc) (.ref pa), fun H15 s15 => ?_⟩
        refine ⟨pa, cls t 0, dxp, _, sp_start K t 0, rfl, s15 _ _ p1, flds_no _ _ _ _ (by decide +kernel) (by decide +kernel) (by decide +kernel) (by decide +kernel), start_ok T (i := 0) (by decide), pa, _, _, _, _, rfl, N14.aP.same s15, rfl, ?_⟩
        have T15 := T15.same s15
        refine ⟨_, rfl, f, _, dx, _, _, rfl, T15.all (f, _) (.head _), T.c_Flow, T.na_Flow_kept, (by (repeat first | (rw [lookup_putF, if_pos rfl]; done) | rw [lookup_putF, if_neg (by decide +kernel)])), _, rfl, Kp, _, rfl, DPut.k (k := Sum.inr "a") (T15.all (Kp, .dK [((Sum.inr "c" : Key), V.int 0)]) (by simp)) (by show 1 < sizeLine; omega), ?_⟩
        have T16 := T15.put (L1 := [_, _, _, _, _]) (o' := .dK (kca (.int 0) (.int 0)))
        have e16 : putK ([((Sum.inr "c" : Key), V.int 0)]) (Sum.inr "a") (.int 0) = kca (.int 0) (.int 0) := by simp [putK, kca, n_ca]
        have e16' : putK ([((Sum.inr "c" : Key), V.int 0)]) (Sum.inr "a") (startV 0 []) = kca (.int 0) (.int 0) := e16
        rw [e16']
        generalize upd H15 Kp (.dK (kca (.int 0) (.int 0))) = H16 at T16 ⊢
        refine ⟨_, rfl, f, _, dx, _, _, rfl, T16.all (f, _) (.head _), T.c_Flow, T.na_Flow_done, (by (repeat first | (rw [lookup_putF, if_pos rfl]; done) | rw [lookup_putF, if_neg (by decide +kernel)])), _, rfl, D, _, rfl, DPut.k (k := Sum.inr "a") (T16.all (D, .dK [((Sum.inr "c" : Key), V.int 0)]) (by simp)) (by show 1 < sizeLine; omega), ?_⟩
        have T17 := T16.put (L1 := [_, _, _, _, _, _]) (o' := .dK (kca (.int 0) (.int 0)))
        rw [e16]
        exact ⟨⟨_, _, rfl⟩, T17.all (l2, _) (by simp), .inr (.inr ⟨rfl, T17⟩)⟩
      · omega
    rintro σ H17 ⟨⟨v3, v4, rfl⟩, _, ⟨h, _⟩ | ⟨h, _⟩ | ⟨_, T17⟩⟩
    · cases h
    · cases h
    clear T9 T10 T11 T12 T13 T14 N13 e14
    refine fun Rw nRw => ?_
    have T18 := T17.new (o := .dK []) nRw
    generalize upd H17 Rw (.dK []) = H18 at T18 ⊢
    refine ⟨_, rfl, f, _, dx, _, rfl, T18.all (f, _) (.head _), T.c_Flow, T.na_Flow_rows, Nat.lt_of_le_of_lt (lenP (lenP (lenP (lenP (lenP (Nat.zero_le 0)))))) (by decide), ?_⟩
    have T19 := T18.put (L1 := []) (o' := .ins t.C_Flow dx (putF "rows" (.ref Rw) (putF "done" (.ref D) (putF "kept" (.ref Kp) (putF "gone" (.ref G) (putF "ever" (.ref E) (putF "net" (.ref n) [])))))))
    generalize upd H18 f (.ins t.C_Flow dx (putF "rows" (.ref Rw) (putF "done" (.ref D) (putF "kept" (.ref Kp) (putF "gone" (.ref G) (putF "ever" (.ref E) (putF "net" (.ref n) []))))))) = H19 at T19 ⊢
    have N19 := hN.but T19.but hf nnf
    refine ⟨_, rfl, n, dxn, fsn, rfl, T19.but _ _ nnf n1, n2.no _ (by decide +kernel), n, _, _, _, kdB pc, rfl, N19.netAt, N19.parts, by show 2 ≤ 16; decide, fun l3 nl3 => ?_⟩
    rw [hN.gives]
    have T20 := T19.new (o := .lst [.str "a"]) nl3
    generalize upd H19 l3 (.lst [.str "a"]) = H20 at T20 ⊢
    refine ⟨l3, rfl, ⟨_, SqL.of (T20.all (l3, .lst [.str "a"]) (by simp))⟩, for_list (K := K) (a := l3) (xs := [.str "a"]) (fun j σ H' => (∃ v3 v4 v5, σ = [some (.ref f), some (.ref n), some (.ref rw), v3, v4, v5]) ∧ H' l3 = some (.lst [.str "a"]) ∧ ((j = 0 ∧ H' = H20) ∨ (j = 1 ∧ ∃ lr b3, Tr H f [(f, .ins t.C_Flow dx (putF "rows" (.ref Rw) (putF "done" (.ref D) (putF "kept" (.ref Kp) (putF "gone" (.ref G) (putF "ever" (.ref E) (putF "net" (.ref n) []))))))), (E, .dK (kb (.ref le))), (G, .dK (kb (.int 0))), (l, .lst [.str "b"]), (le, .lst (ws.map V.int)), (Kp, .dK (kca (.int 0) (.int 0))), (D, .dK (kca (.int 0) (.int 0))), (l2, .lst [.str "c", .str "a"]), (Rw, .dK (ka (.ref lr))), (l3, .lst [.str "a"]), (b3, .lst []), (lr, .lst (vs'.map V.int))] H'))) ⟨⟨v3, v4, none, rfl⟩, T20.all (l3, _) (by simp), .inl ⟨rfl, rfl⟩⟩ (fun j σ H' _ h => SqL.of h.2.1) ?_ ?_⟩
    · rintro j x σ H' hx ⟨⟨v3, v4, v5, rfl⟩, _, hj⟩
      have hj0 : j = 0 := by
        have := (List.getElem?_eq_some_iff.mp hx).1
        simp at this
        exact this
      subst hj0
      cases hx
      rcases hj with ⟨_, rfl⟩ | ⟨h, _⟩
      · have erw := T20.but _ _ (ne_of hrw hf (by intro z; cases z)) hrw
        refine ⟨_, rfl, rw, rfl, .inl ⟨_, .inl erw⟩, _, rfl, by show 0 ≤ sizeLine; omega, fun b3 nb3 => ?_⟩
        have T21 := T20.new (o := .lst []) nb3
        generalize upd H' b3 (.lst []) = H21 at T21 ⊢
        have erw := T21.but _ _ (ne_of hrw hf (by intro z; cases z)) hrw
        refine ⟨some (.ref L), (by rw [← val_ka (.ref L)]; exact DGet.k (k := Sum.inr "a") erw), L, _, rfl, .inl (T21.but.seqL hf hL), fun lr nlr => ?_⟩
        have T22 := T21.new (o := .lst (vs'.map V.int)) nlr
        generalize upd H21 lr (.lst (vs'.map V.int)) = H22 at T22 ⊢
        refine ⟨_, rfl, f, _, dx, _, _, rfl, T22.all (f, _) (.head _), T.c_Flow, T.na_Flow_rows, (by (repeat first | (rw [lookup_putF, if_pos rfl]; done) | rw [lookup_putF, if_neg (by decide +kernel)])), _, rfl, Rw, _, rfl, DPut.k (k := Sum.inr "a") (T22.all (Rw, .dK []) (by simp)) (by show 0 < sizeLine; omega), ?_⟩
        have T23 := T22.put (L1 := [_, _, _, _, _, _, _, _]) (o' := .dK (ka (.ref lr)))
        exact ⟨⟨_, _, _, rfl⟩, T23.all (l3, _) (by simp), .inr ⟨rfl, lr, b3, T23⟩⟩
      · omega
    rintro σ H23 ⟨⟨v3, v4, v5, rfl⟩, _, ⟨h, _⟩ | ⟨_, lr, b3, T23⟩⟩
    · cases h
    refine k _ E G Kp D Rw le lr T23.but ⟨dx, _, T23.all (f, _) (.head _), ?_, ?_⟩ (T23.all (E, _) (by simp)) (T23.all (G, _) (by simp)) (T23.all (Kp, _) (by simp)) (T23.all (D, _) (by simp)) (T23.all (Rw, _) (by simp)) (T23.all (le, _) (by simp)) (T23.all (lr, _) (by simp)) ?_ ?_
    · intro q hq
      simp only [List.mem_cons, List.not_mem_nil, or_false] at hq
      rcases hq with rfl | rfl | rfl | rfl | rfl | rfl <;> (dsimp only; (repeat first | (rw [lookup_putF, if_pos rfl]; done) | rw [lookup_putF, if_neg (by decide +kernel)]))
    · intro m hm
      have hne : ∀ m ∈ (["holds", "held_now", "gone_by", "row_left", "head", "heads", "lacking", "row_ended", "deed", "do"] : List Str), ∀ g ∈ (["rows", "done", "kept", "gone", "ever", "net"] : List Str), ¬ m = g := by decide +kernel
      have h := hne m hm
      rw [lookup_putF, if_neg (h _ (by simp)), lookup_putF, if_neg (h _ (by simp)), lookup_putF, if_neg (h _ (by simp)), lookup_putF, if_neg (h _ (by simp)), lookup_putF, if_neg (h _ (by simp)), lookup_putF, if_neg (h _ (by simp))]
      rfl
    · have nd := T23.nod
      have fr := T23.fre
      simp only [List.map_cons, List.map_nil, List.nodup_cons, List.mem_cons, List.not_mem_nil, or_false, not_or] at nd
      simp only [List.mem_cons, List.not_mem_nil, or_false, forall_eq_or_imp, forall_eq] at fr
      intro x hx
      simp only [List.mem_cons, List.not_mem_nil, or_false] at hx
      obtain ⟨⟨m1, m2, m3, m4, m5, m6, m7, m8, m9, m10, m11⟩, _⟩ := nd
      obtain ⟨_, g1, g2, g3, g4, g5, g6, g7, g8, g9, g10, g11⟩ := fr
      rcases hx with rfl | rfl | rfl | rfl | rfl | rfl | rfl
      · exact g1.resolve_left (Ne.symm m1)
      · exact g2.resolve_left (Ne.symm m2)
      · exact g5.resolve_left (Ne.symm m5)
      · exact g6.resolve_left (Ne.symm m6)
      · exact g8.resolve_left (Ne.symm m8)
      · exact g4.resolve_left (Ne.symm m4)
      · exact g11.resolve_left (Ne.symm m11)
    · have nd := T23.nod
      simp only [List.map_cons, List.map_nil, List.nodup_cons, List.mem_cons, List.not_mem_nil, or_false, not_or] at nd ⊢
      obtain ⟨_, ⟨a2, a3, a4, a5, a6, a7, a8, a9, a10, a11⟩, ⟨b3', b4, b5, b6, b7, b8, b9, b10, b11⟩, _, ⟨d5, d6, d7, d8, d9, d10, d11⟩, ⟨e6, e7, e8, e9, e10, e11⟩, ⟨f7, f8, f9, f10, f11⟩, _, ⟨h9, h10, h11⟩, _⟩ := nd
      exact ⟨⟨a2, a5, a6, a8, a4, a11⟩, ⟨b5, b6, b8, b4, b11⟩, ⟨e6, e8, Ne.symm d5, e11⟩, ⟨f8, Ne.symm d6, f11⟩, ⟨Ne.symm d8, h11⟩, d11, by simp⟩
def sp_is_row (K : PySem.W.Frag) : Sp := fun vs H Q _ => ∃ (L : Addr) (ws : List Int), vs = [.ref L] ∧ SqL K H L (ws.map V.int) ∧ ws.length ≤ 300 ∧ Bnd ws ∧ ∀ H', Same H H' → Q (.bl true) H'
theorem sc_is_row : FnScope ["thing"] ["thing"] (defScope s_is_row) := ⟨rfl, rfl, rfl, by decide +kernel, rfl, by decide +kernel, by decide +kernel⟩
theorem ok_is_row (T : Txt w K mg t) : FnOk P w K mg base CX0 3 t.f_is_row t.fd_is_row ["thing"] (sp_is_row K) := by
  have sc := sc_is_row
  refine T.F_is_row.ok sc (fun vs H Q E h => ?_) (fun cdv A outer s H vs Q E hr h => ?_)
  · obtain ⟨L, ws, rfl, _⟩ := h
    rfl
  · obtain ⟨L, ws, rfl, hL, hw, hB, k⟩ := h
    refine ⟨_, (pss_one (ps_ret (pe_and (pe_callB call_isi (by rfl) T.n_isinstance bt_isinstance (pa_cons (pv 0) (pa_cons (pe_bltT (by rfl) T.n_list bt_list) pa_nil star_Name) star_Name)) (pe_and (pe_cmpR op_le (pe_callB call_len (by rfl) T.n_len bt_len (pa_cons (pv 0) pa_nil star_Name)) (pe_globE (by rfl) T.g_LONGEST_ROW) (nomark _)) (pe_one (pe_callB (call_all rfl) (by rfl) T.n_all bt_all (pa_cons (pe_comp [] ["thing"] (defScope s_is_row) rfl (pi_list (pv 0)) (fun _ _ _ _ _ => pf_nil) (fun _ _ _ _ _ => (pe_call (ok_is_value T) (hr.mono (by decide)) (by rfl) T.m_is_value T.F_is_value.kp T.b_is_value .nil pass0 (pa_cons (pv 0) pa_nil star_Name)))) pa_nil star_ListComp))))))), ?_⟩
    have hl : sizeLine = 16777216 := sizeLine_eq
    refine ⟨_, rfl, .ref L, "list", "list", true, rfl, .inl ⟨rfl, _, hL⟩, by decide, by decide, true, rfl, iteT ?_⟩
    refine ⟨_, rfl, .ref L, ws.length, rfl, .inl ⟨_, hL, by simp⟩, _, _, rfl, rfl, _, rfl, iteY (by omega) ?_⟩
    refine ⟨_, rfl, L, rfl, ⟨_, hL⟩, comp_list (K := K) (a := L) (xs := ws.map V.int) (fun j ys H' => H' = H ∧ ys = (List.replicate j true).map V.bl) (by rw [List.length_map]; omega) ⟨rfl, rfl⟩ (fun j ys H' ⟨_, e⟩ => by rw [e]; simp) (fun j ys H' _ ⟨e, _⟩ => by rw [e]; exact hL) ?_ ?_⟩
    · rintro j x ys H' hx ⟨rfl, rfl⟩
      rw [List.getElem?_map] at hx
      obtain ⟨n, hn, rfl⟩ := Option.map_eq_some_iff.mp hx
      obtain ⟨n0, n1⟩ := hB n (List.mem_of_getElem? hn)
      refine yes ⟨_, rfl, .int n, rfl, .inl ⟨n, rfl, rfl, ?_⟩⟩
      rw [decide_eq_true n0, decide_eq_true n1, List.replicate_succ']
      simp
    · rintro ys H' ⟨rfl, rfl⟩ D hD
      refine ⟨D, _, rfl, SqL.of upd_same, ?_⟩
      rw [show ((List.replicate (ws.map V.int).length true).all id) = true by simp]
      exact k _ (same_new hD)
def sp_need_rows (K : PySem.W.Frag) (t : Adr) : Sp := fun vs H Q _ => ∃ (n pc pa F0 rw L : Addr) (room : Int) (ws vs' : List Int), vs = [.ref n, .ref rw] ∧ NetB K t H n pc pa F0 room ws ∧ H rw = some (.dK (ka (.ref L))) ∧ SqL K H L (vs'.map V.int) ∧ vs'.length ≤ 300 ∧ Bnd vs' ∧ ∀ H', Same H H' → Q .non H'
theorem sc_need_rows : FnScope ["net", "rows", "doors", "door"] ["net", "rows"] (defScope s_need_rows) := ⟨rfl, rfl, rfl, by decide +kernel, rfl, by decide +kernel, by decide +kernel⟩
theorem ok_need_rows (T : Txt w K mg t) : FnOk P w K mg base CX0 4 t.f_need_rows t.fd_need_rows ["net", "rows"] (sp_need_rows K t) := by
  have sc := sc_need_rows
  refine T.F_need_rows.ok sc (fun vs H Q E h => ?_) (fun cdv A outer s H vs Q E hr h => ?_)
  · obtain ⟨n, pc, pa, F0, rw, L, room, ws, vs', rfl, _⟩ := h
    rfl
  · obtain ⟨n, pc, pa, F0, rw, L, room, ws, vs', rfl, hN, hrw, hL, hl', hB, k⟩ := h
    refine ⟨_, (pss_cons (ps_set (i := 2) sc.nd rfl (Or.inl rfl) (pe_meth0 (pv 0) T.c_Net T.me_Net_gives (ok_Net_gives T) (hr.mono (by decide)) T.b_Net_gives .nil pass0))
      (pss_cons (ps_meltN (H0 := H) rfl (ps_for PassesOwn.never rfl (pi_dict (pv 1)) (pg_name (i := 3) sc.nd rfl (Or.inl rfl))
        (pss_one (ps_if (pt_cmpR op_notIn_seq (pv 3) (pv 2) (by with_unfolding_all rfl))
          (pss_one ps_never)
          pss_nil))))
      (pss_one (ps_meltN (H0 := H) rfl (ps_for PassesOwn.never rfl (pi_dict (pv 1)) (pg_name (i := 3) sc.nd rfl (Or.inl rfl))
        (pss_one (ps_if (pt_not (pt_val (pe_call (ok_is_row T) (hr.mono (by decide)) (by rfl) T.m_is_row T.F_is_row.kp T.b_is_row .nil pass0 (pa_cons (pe_dget hr.u1 (pv 1) (pv 3) (fun _ _ => rfl)) pa_nil star_Subscript))))
          (pss_one ps_never)
          pss_nil))))))), ?_⟩
    obtain ⟨dxn, fsn, R, F, Pd, Gn, Tk, n1, n2, n3, n4, n5⟩ := hN.ex
    refine ⟨_, rfl, n, dxn, fsn, rfl, n1, n2.no _ (by decide +kernel), n, _, _, _, kdB pc, rfl, hN.netAt, hN.parts, by show 2 ≤ 16; decide, fun l nl => ?_⟩
    rw [hN.gives]
    have s1 := same_new (o := .lst [.str "a"]) nl
    have el : upd H l (.lst [.str "a"]) l = some (.lst [.str "a"]) := upd_same
    generalize upd H l (.lst [.str "a"]) = H1 at s1 el ⊢
    have e1 := s1 _ _ hrw
    have nf : ∀ (o' : Obj) (u' : HO), H rw ≠ some (.frz o' u') := fun o' u' z => by rw [show H rw = _ from hrw] at z; cases z
    refine ⟨_, rfl, rw, _, rfl, e1, fun o => for_dict (fun j σ H' => H' = upd H1 rw (.frz o (.dK (ka (.ref L)))) ∧ ∃ v3, σ = [some (.ref n), some (.ref rw), some (.ref l), v3]) ⟨rfl, none, rfl⟩ (fun j σ H' _ ⟨e, _⟩ => by rw [e]; exact upd_same) ?_ ?_⟩
    · rintro j kk w σ H' hj ⟨rfl, v3, rfl⟩
      have hk : kk = Sum.inr ("a" : Str) := by
        match j, hj with
        | 0, hj => cases hj; rfl
        | (n + 1), hj => cases hj
      subst hk
      have el' := chill_get (v := .frz o (.dK (ka (.ref L)))) e1 el (by intro _ z; cases z)
      exact ⟨_, rfl, _, rfl, l, _, rfl, .inl (SqL.of el'), rfl, rfl, _, rfl, iteF ⟨rfl, _, rfl⟩⟩
    · rintro σ H' ⟨rfl, v3, rfl⟩
      refine ⟨_, ⟨rw, o, _, upd_same, nf, rfl⟩, ?_⟩
      rw [upd_upd, upd_id e1]
      refine ⟨_, rfl, rw, _, rfl, e1, fun o => for_dict (fun j σ H' => Same (upd H1 rw (.frz o (.dK (ka (.ref L))))) H' ∧ ∃ v3, σ = [some (.ref n), some (.ref rw), some (.ref l), v3]) ⟨Same.refl _, v3, rfl⟩ (fun j σ H' _ ⟨e, _⟩ => e _ _ upd_same) ?_ ?_⟩
      · rintro j kk w σ H' hj ⟨s2, v3, rfl⟩
        have hk : kk = Sum.inr ("a" : Str) := by
          match j, hj with
          | 0, hj => cases hj; rfl
          | (n + 1), hj => cases hj
        subst hk
        refine ⟨_, rfl, _, rfl, rw, .ref L, rfl, .inl ⟨_, Sum.inr "a", .inr ⟨o, s2 _ _ upd_same⟩, rfl, (val_ka _).symm⟩, L, vs', rfl, s2.seq (chill_seqL e1 (s1.seq hL)), hl', hB, fun H3 s3 => ?_⟩
        exact ⟨_, rfl, iteF ⟨s2.trans s3, _, rfl⟩⟩
      · rintro σ H' ⟨s2, v3, rfl⟩
        refine ⟨_, ⟨rw, o, _, s2 _ _ upd_same, nf, rfl⟩, k _ fun b u e => ?_⟩
        by_cases h : b = rw
        · subst h; rw [upd_same]; rw [hrw] at e; exact e
        · rw [upd_ne h]
          exact s2 _ _ (by rw [upd_ne h]; exact s1 _ _ e)
def sp_Run___init__ (K : PySem.W.Frag) (t : Adr) : Sp := fun vs H Q _ => ∃ (r dx n pc pa F0 rw L : Addr) (room : Int) (ws vs' : List Int), vs = [.ref r, .ref n, .ref rw] ∧ H r = some (.ins t.C_Run dx []) ∧ r ≠ n ∧ r ≠ pc ∧ r ≠ pa ∧ NetB K t H n pc pa F0 room ws ∧ H rw = some (.dK (ka (.ref L))) ∧ SqL K H L (vs'.map V.int) ∧ vs'.length ≤ 80 ∧ ws.length ≤ 20 ∧ Bnd vs' ∧ ∀ H' A, A.r = r → A.n = n → But r H H' → (∀ x ∈ [A.G, A.le, A.Kp, A.D, A.lr], H x = none) → StAt K t H' A room (ws ++ vs') ws.length ws.length 0 0 → Q .non H'
theorem sc_Run___init__ : FnScope ["self", "net", "rows"] ["self", "net", "rows"] (defScope s_Run___init__) := ⟨rfl, rfl, rfl, by decide +kernel, rfl, by decide +kernel, by decide +kernel⟩
theorem ok_Run___init__ (T : Txt w K mg t) : FnOk P w K mg base CX0 6 t.f_Run___init__ t.fd_Run___init__ ["self", "net", "rows"] (sp_Run___init__ K t) := by
  have sc := sc_Run___init__
  refine T.F_Run___init__.ok sc (fun vs H Q E h => ?_) (fun cdv A outer s H vs Q E hr h => ?_)
  · obtain ⟨r, dx, n, pc, pa, F0, rw, L, room, ws, vs', rfl, _⟩ := h
    rfl
  · obtain ⟨r, dx, n, pc, pa, F0, rw, L, room, ws, vs', rfl, hr1, nrn, nrc, nra, hN, hrw, hL, lv, lw, hB, k⟩ := h
    refine ⟨_, (pss_cons (ps_expr (pe_call (ok_need_rows T) (hr.mono (by decide)) (by rfl) T.m_need_rows T.F_need_rows.kp T.b_need_rows .nil pass0 (pa_cons (pv 1) (pa_cons (pv 2) pa_nil star_Name) star_Name)))
      (pss_cons (ps_fld (pv 0) (pv 1) rfl)
      (pss_cons (ps_fld (pv 0) (pe_make T.M_Flow (ok_Flow___init__ T) (hr.mono (by decide)) (by rfl) T.mc_Flow T.b_Flow___init__ .nil pass0 (pa_cons (pv 1) (pa_cons (pv 2) pa_nil star_Name) star_Name)) rfl)
      (pss_one (ps_fld (pv 0) pe_int rfl))))), ?_⟩
    obtain ⟨dxn, fsn, R, F, Pd, Gn, Tk, n1, n2, n3, n4, n5⟩ := hN.ex
    refine ⟨_, rfl, _, rfl, n, pc, pa, F0, rw, L, room, ws, vs', rfl, hN, hrw, hL, by omega, hB, fun H1 s1 => ?_⟩
    have T0 := (Tr.start hr1).same s1
    refine ⟨_, rfl, _, rfl, r, _, dx, [], rfl, s1 _ _ hr1, T.c_Run, T.na_Run_net, by show 0 < 1000; decide, ?_⟩
    have T1 := T0.put (L1 := []) (L2 := []) (o' := .ins t.C_Run dx (putF "net" (.ref n) []))
    generalize upd H1 r (.ins t.C_Run dx (putF "net" (.ref n) [])) = H2 at T1 ⊢
    have nnr : n ≠ r := Ne.symm nrn
    have N2 := hN.but T1.but hr1 nnr
    have erw := T1.but _ _ (ne_of hrw hr1 (by intro z; cases z)) hrw
    have hL2 := T1.but.seqL hr1 hL
    have er2 := T1.all (r, .ins t.C_Run dx (putF "net" (.ref n) [])) (.head _)
    refine ⟨_, rfl, _, rfl, fun f dxf nf ndf nef => ?_⟩
    have s3 : Same H2 (upd (upd H2 dxf (.own f)) f (.ins t.C_Flow dxf [])) := fun b o e => by rw [upd_ne (ne_of_none e nf), upd_ne (ne_of_none e ndf)]; exact e
    have ef : (upd (upd H2 dxf (.own f)) f (.ins t.C_Flow dxf [])) f = some (.ins t.C_Flow dxf []) := upd_same
    obtain ⟨dn, fn, R', F', Pd', Gn', Tk', m1, m2, m3, m4, m5⟩ := N2.ex
    have nfn : f ≠ n := Ne.symm (ne_of_none m1 nf)
    generalize upd (upd H2 dxf (.own f)) f (.ins t.C_Flow dxf []) = H3 at s3 ef ⊢
    refine ⟨f, dxf, n, pc, pa, F0, rw, L, room, ws, vs', rfl, ef, nfn, N2.same s3, s3 _ _ erw, s3.seq hL2, fun H4 E G Kp D Rw le lr b4 g1 g2 g3 g4 g5 g6 g7 g8 g9 g10 => ⟨rfl, ?_⟩⟩
    have nfr : f ≠ r := Ne.symm (ne_of_none er2 nf)
    have er4 := b4 r _ (Ne.symm nfr) (s3 _ _ er2)
    refine ⟨_, rfl, r, _, dx, _, rfl, er4, T.c_Run, T.na_Run_flow, Nat.lt_of_le_of_lt (lenP (Nat.zero_le 0)) (by decide), ?_⟩
    have er5 : upd H4 r (.ins t.C_Run dx (putF "flow" (.ref f) (putF "net" (.ref n) []))) r = some (.ins t.C_Run dx (putF "flow" (.ref f) (putF "net" (.ref n) []))) := upd_same
    refine ⟨_, rfl, r, _, dx, _, rfl, er5, T.c_Run, T.na_Run_turns, Nat.lt_of_le_of_lt (lenP (lenP (Nat.zero_le 0))) (by decide), ?_⟩
    rw [upd_upd]
    obtain ⟨fx, ffs, q1, q2⟩ := g1.ex
    have N4 := (N2.same s3).but b4 ef (Ne.symm nfn)
    obtain ⟨dn, fn, R', F', Pd', Gn', Tk', m1, m2, m3, m4, m5⟩ := N2.ex
    have kz : ∀ {b : Addr} {o : HO}, H4 b = some o → (∀ C dx fs, o ≠ .ins C dx fs) → upd H4 r (.ins t.C_Run dx (putF "turns" (.int 0) (putF "flow" (.ref f) (putF "net" (.ref n) [])))) b = some o := fun h1 h2 => by
      rw [upd_ne (ne_of h1 er4 (fun z => h2 _ _ _ z))]
      exact h1
    have kx : ∀ {b : Addr} {o : HO}, H4 b = some o → (∀ ks, o ≠ .dK ks) → (∀ ys, o ≠ .lst ys) → (∀ C dx fs, o ≠ .ins C dx fs) → upd H4 r (.ins t.C_Run dx (putF "turns" (.int 0) (putF "flow" (.ref f) (putF "net" (.ref n) [])))) b = some o := fun h1 _ _ h2 => kz h1 h2
    have dk : ∀ {d : Addr} {kvs : List (Key × V)}, H2 d = some (.dK kvs) → H4 d = some (.dK kvs) := fun q => b4 _ _ (ne_of (s3 _ _ q) ef (by intro z; cases z)) (s3 _ _ q)
    have fr : ∀ {d x : Addr} {o : HO}, H2 d = some o → H3 x = none → d ≠ x := fun e1 e2 => ne_of_none (s3 _ _ e1) e2
    have frH : ∀ {x : Addr}, H3 x = none → H x = none := fun {x} e => T1.free (s3.free e)
    simp only [List.nodup_cons, List.mem_cons, List.not_mem_nil, or_false, not_or] at g10
    obtain ⟨⟨o1, o2, o3, o4, o5, o6⟩, ⟨o7, o8, o9, o10, o11⟩, ⟨o12, o13, o14, o15⟩, ⟨o16, o17, o18⟩, ⟨o19, o20⟩, o21, _⟩ := g10
    have hb := hN.b0
    refine k _ ⟨r, n, f, E, G, Kp, D, Rw, pc, pa, le, lr, F0⟩ rfl rfl ?_ ?_ ⟨⟨dx, _, upd_same, ?_, ?_, ?_⟩, ⟨dn, fn, R', F', Pd', Gn', Tk', ?_, m2, kz (dk m3) (by intro _ _ _ z; cases z), kz (dk m4) (by intro _ _ _ z; cases z), kz (dk m5) (by intro _ _ _ z; cases z), ?_⟩, part_ks kx N4.cP (upd_ne (Ne.symm nrc)), part_ks kx N4.aP (upd_ne (Ne.symm nra)), ⟨fx, ffs, by rw [upd_ne nfr]; exact q1, q2⟩, kz g2 (by intro _ _ _ z; cases z), kz g3 (by intro _ _ _ z; cases z), kz g4 (by intro _ _ _ z; cases z), ?_, kz g6 (by intro _ _ _ z; cases z), ?_, ?_, ⟨hN.ne, Ne.symm nrc, Ne.symm nra, nnr, nfr⟩, ⟨o1, Ne.symm o7, Ne.symm o8, Ne.symm o12, Ne.symm o9, Ne.symm o13, Ne.symm o16, o2, o3, o21⟩, ⟨Nat.le_refl _, by simp, by omega, by omega, hb.1, hb.2.1, by simp; omega, by omega⟩, ?_⟩
    · intro b u hne e
      rw [upd_ne hne]
      have e2 := T1.but b u hne e
      have : b ≠ f := ne_of_none e2 nf
      exact b4 b u this (s3 _ _ e2)
    · intro x hx
      simp only [List.mem_cons, List.not_mem_nil, or_false] at hx
      rcases hx with rfl | rfl | rfl | rfl | rfl
      · exact frH (g9 _ (by simp))
      · exact frH (g9 _ (by simp))
      · exact frH (g9 _ (by simp))
      · exact frH (g9 _ (by simp))
      · exact frH (g9 _ (by simp))
    · exact lenP (lenP (lenP (Nat.zero_le 0)))
    · intro q hq
      simp only [List.mem_cons, List.not_mem_nil, or_false] at hq
      rcases hq with rfl | rfl | rfl
      · dsimp only; (repeat first | (rw [lookup_putF, if_pos rfl]; done) | rw [lookup_putF, if_neg (by decide +kernel)])
      · dsimp only; (repeat first | (rw [lookup_putF, if_pos rfl]; done) | rw [lookup_putF, if_neg (by decide +kernel)])
      · show List.lookup ("turns" : Str) _ = some (V.int 0)
        rw [lookup_putF, if_pos rfl]
    · intro m hm
      have hne : ∀ m ∈ (["step", "need_doors", "next_deed", "full_lane", "can_work", "works", "taken", "lane_now", "had", "turn", "rows_left"] : List Str), ∀ g ∈ (["turns", "flow", "net"] : List Str), ¬ m = g := by decide +kernel
      have h := hne m hm
      rw [lookup_putF, if_neg (h _ (by simp)), lookup_putF, if_neg (h _ (by simp)), lookup_putF, if_neg (h _ (by simp))]
      rfl
    · rw [upd_ne nnr]
      exact b4 _ _ (Ne.symm nfn) (s3 _ _ m1)
    · intro x hx
      simp only [List.mem_cons, List.not_mem_nil, or_false] at hx
      rcases hx with rfl | rfl | rfl
      · exact ⟨fr m3 (g9 _ (by simp)), fr m3 (g9 _ (by simp)), fr m3 (g9 _ (by simp))⟩
      · exact ⟨fr m4 (g9 _ (by simp)), fr m4 (g9 _ (by simp)), fr m4 (g9 _ (by simp))⟩
      · exact ⟨fr m5 (g9 _ (by simp)), fr m5 (g9 _ (by simp)), fr m5 (g9 _ (by simp))⟩
    · have e0 : ((ws.length - ws.length : Nat) : Int) = 0 := by omega
      rw [e0]
      exact kz g5 (by intro _ _ _ z; cases z)
    · rw [List.take_left]
      exact kz g7 (by intro _ _ _ z; cases z)
    · rw [List.drop_left]
      exact kz g8 (by intro _ _ _ z; cases z)
    · intro w hw
      rcases List.mem_append.mp hw with h | h
      · exact hN.bd w h
      · exact hB w h
def sp__law_cell (K : PySem.W.Frag) : Sp := fun vs H Q _ => ∃ (a : Addr) (ns : List Int) (j : Int), vs = [.ref a, .int j] ∧ SqL K H a (ns.map V.int) ∧ 0 ≤ j ∧ ∀ n : Int, Q (.int n) H
theorem sc__law_cell : FnScope ["_law_script", "_law_k"] ["_law_script", "_law_k"] (defScope s__law_cell) := ⟨rfl, rfl, rfl, by decide +kernel, rfl, by decide +kernel, by decide +kernel⟩
theorem ok__law_cell (T : Txt w K mg t) : FnOk P w K mg base CX0 1 t.f__law_cell t.fd__law_cell ["_law_script", "_law_k"] (sp__law_cell K) := by
  have sc := sc__law_cell
  refine T.F__law_cell.ok sc (fun vs H Q E h => ?_) (fun cdv A outer s H vs Q E hr h => ?_)
  · obtain ⟨a, ns, j, rfl, _⟩ := h
    rfl
  · obtain ⟨a, ns, j, rfl, hS, hj, k⟩ := h
    refine ⟨_, (pss_cons (ps_if (pt_cmpR op_lt (pv 1) (pe_callB call_len (by rfl) T.n_len bt_len (pa_cons (pv 0) pa_nil star_Name)) (nomark _))
        (pss_one (ps_ret (pe_ix ix_list (pv 0) (pv 1) (fun _ _ => rfl))))
        pss_nil)
      (pss_one (ps_ret (pe_op op_add (pe_op op_mulB pe_int (pv 1)) pe_int)))), ?_⟩
    refine ⟨_, rfl, _, rfl, .ref a, ns.length, rfl, .inl ⟨_, hS, by simp⟩, _, _, rfl, rfl, _, rfl, ite2 (fun h => ?_) (fun h => ?_)⟩
    · have h' : j < (ns.length : Int) := of_decide_eq_true h
      exact ⟨_, rfl, _, rfl, a, _, j, _, rfl, rfl, hS, atI_int hj h', k _⟩
    · exact ⟨_, rfl, _, _, rfl, rfl, mulOk_small, _, _, rfl, rfl, k _⟩
def sp__law_given : Sp := fun vs H Q _ => ∃ a : Int, vs = [.int a] ∧ ∀ n : Int, 0 ≤ n → n < 1000000000 → Q (.int n) H
theorem sc__law_given : FnScope ["_law_cell_here"] ["_law_cell_here"] (defScope s__law_given) := ⟨rfl, rfl, rfl, by decide +kernel, rfl, by decide +kernel, by decide +kernel⟩
theorem ok__law_given (T : Txt w K mg t) : FnOk P w K mg base CX0 3 t.f__law_given t.fd__law_given ["_law_cell_here"] (sp__law_given) := by
  have sc := sc__law_given
  refine T.F__law_given.ok sc (fun vs H Q E h => ?_) (fun cdv A outer s H vs Q E hr h => ?_)
  · obtain ⟨a, rfl, _⟩ := h
    rfl
  · obtain ⟨a, rfl, k⟩ := h
    refine ⟨_, (pss_cons (ps_if (pt_cmpR op_eq (pe_op op_and (pe_op op_shr (pv 0) pe_int) pe_int) pe_int (nomark _))
        (pss_one (ps_ret (pe_op op_mod (pe_op op_shr (pv 0) pe_int) (pe_op op_pow pe_int pe_int))))
        pss_nil)
      (pss_one (ps_ret (pe_call (ok__law_value T) (hr.mono (by decide)) (by rfl) T.m__law_value T.F__law_value.kp T.b__law_value .nil pass0 (pa_cons (pv 0) (pa_cons pe_int pa_nil star_Constant) star_Name))))), ?_⟩
    refine ⟨_, rfl, _, _, rfl, rfl, by show (0 : Int) ≤ 4; decide, _, _, rfl, rfl, rfl, _, rfl, ite2 (fun _ => ?_) (fun _ => ?_)⟩
    · exact ⟨_, rfl, _, _, rfl, rfl, by show (0 : Int) ≤ 5; decide, _, _, rfl, rfl, ⟨by decide, by decide, by decide⟩, _, _, rfl, rfl, by show (0 : Int) < 10 ^ 9; decide, k _ (Int.emod_nonneg _ (by decide)) (Int.emod_lt_of_pos _ (by decide))⟩
    · exact ⟨_, rfl, a, 1, rfl, fun n h0 h1 => k n h0 h1⟩
def sp__law_whole : Sp := fun vs H Q _ => ∃ a b : Int, vs = [.int a, .int b] ∧ Q (.bl (decide (a = b))) H
theorem sc__law_whole : FnScope ["_law_found", "_law_due"] ["_law_found", "_law_due"] (defScope s__law_whole) := ⟨rfl, rfl, rfl, by decide +kernel, rfl, by decide +kernel, by decide +kernel⟩
theorem ok__law_whole (T : Txt w K mg t) : FnOk P w K mg base CX0 1 t.f__law_whole t.fd__law_whole ["_law_found", "_law_due"] (sp__law_whole) := by
  have sc := sc__law_whole
  refine T.F__law_whole.ok sc (fun vs H Q E h => ?_) (fun cdv A outer s H vs Q E hr h => ?_)
  · obtain ⟨a, b, rfl, _⟩ := h
    rfl
  · obtain ⟨a, b, rfl, k⟩ := h
    refine ⟨_, (pss_one (ps_ret (pe_and (pe_callB call_isi (by rfl) T.n_isinstance bt_isinstance (pa_cons (pv 0) (pa_cons (pe_bltT (by rfl) T.n_int bt_int) pa_nil star_Name) star_Name)) (pe_and (pe_not (pe_callB call_isi (by rfl) T.n_isinstance bt_isinstance (pa_cons (pv 0) (pa_cons (pe_bltT (by rfl) T.n_bool bt_bool) pa_nil star_Name) star_Name))) (pe_one (pe_cmpR op_eq (pv 0) (pv 1) (nomark _))))))), ?_⟩
    refine ⟨_, rfl, .int a, "int", "int", true, rfl, rfl, by decide, by decide, true, rfl, iteT ?_⟩
    refine ⟨_, rfl, .int a, "int", "bool", false, rfl, rfl, by decide, by decide, false, rfl, true, rfl, iteT ?_⟩
    refine ⟨_, rfl, _, rfl, rfl, ?_⟩
    rw [show decide (V.int a = V.int b) = decide (a = b) by rw [decide_eq_decide, V.int.injEq]]
    exact k
def sp__law_stands (K : PySem.W.Frag) (t : Adr) : Sp := fun vs H Q _ => ∃ (A : Pl) (room : Int) (row : List Int) (many gv tk turns : Nat) (L : Addr), vs = [.ref A.r, .ref L, .int (gv : Nat), .int (tk : Nat), .int (turns : Nat)] ∧ StAt K t H A room row many gv tk turns ∧ SqL K H L (row.map V.int) ∧ ∀ H', Same H H' → Q (.bl true) H'
theorem sc__law_stands : FnScope ["_law_run", "_law_row", "_law_given_here", "_law_taken", "_law_turns"] ["_law_run", "_law_row", "_law_given_here", "_law_taken", "_law_turns"] (defScope s__law_stands) := ⟨rfl, rfl, rfl, by decide +kernel, rfl, by decide +kernel, by decide +kernel⟩
theorem ok__law_stands (T : Txt w K mg t) : FnOk P w K mg base CX0 5 t.f__law_stands t.fd__law_stands ["_law_run", "_law_row", "_law_given_here", "_law_taken", "_law_turns"] (sp__law_stands K t) := by
  have sc := sc__law_stands
  refine T.F__law_stands.ok sc (fun vs H Q E h => ?_) (fun cdv A outer s H vs Q E hr h => ?_)
  · obtain ⟨A, room, row, many, gv, tk, turns, L, rfl, _⟩ := h
    rfl
  · obtain ⟨A, room, row, many, gv, tk, turns, L, rfl, S, hL, k⟩ := h
    refine ⟨_, (pss_cons (ps_if (PW.pt (pw_or (pt_cmpR (op_neD hr.units) (pe_meth (pv 0) T.c_Run T.me_Run_had (ok_Run_had T) (hr.mono (by decide)) T.b_Run_had .nil pass0 (pa_cons pe_str pa_nil star_Constant)) (pe_slice sl_list (pv 1) po_none (po_some (pv 2))) (nomark _)) (pw_or (pt_cmpR (op_neD hr.units) (pe_meth (pv 0) T.c_Run T.me_Run_lane_now (ok_Run_lane_now T) (hr.mono (by decide)) T.b_Run_lane_now .nil pass0 (pa_cons pe_str pa_nil star_Constant)) (pe_slice sl_list (pv 1) (po_some (pv 3)) (po_some (pv 2))) (nomark _)) (pw_or1 (pt_cmpR (op_neD hr.units) (pe_meth (pv 0) T.c_Run T.me_Run_taken (ok_Run_taken T) (hr.mono (by decide)) T.b_Run_taken .nil pass0 (pa_cons pe_str pa_nil star_Constant)) (pe_slice sl_list (pv 1) po_none (po_some (pv 3))) (nomark _))))))
        (pss_one (ps_ret pe_bl))
        pss_nil)
      (pss_cons (ps_if (PW.pt (pw_or (pt_not (pt_val (pe_call (ok__law_whole T) (hr.mono (by decide)) (by rfl) T.m__law_whole T.F__law_whole.kp T.b__law_whole .nil pass0 (pa_cons (pe_meth (pv 0) T.c_Run T.me_Run_works (ok_Run_works T) (hr.mono (by decide)) T.b_Run_works .nil pass0 (pa_cons pe_str pa_nil star_Constant)) (pa_cons (pv 3) pa_nil star_Name) star_Call)))) (pw_or1 (pt_not (pt_val (pe_call (ok__law_whole T) (hr.mono (by decide)) (by rfl) T.m__law_whole T.F__law_whole.kp T.b__law_whole .nil pass0 (pa_cons (pe_meth0 (pv 0) T.c_Run T.me_Run_turn (ok_Run_turn T) (hr.mono (by decide)) T.b_Run_turn .nil pass0) (pa_cons (pv 4) pa_nil star_Name) star_Call)))))))
        (pss_one (ps_ret pe_bl))
        pss_nil)
      (pss_one (ps_ret (pe_cmpR (op_eqK hr.u100) (pe_meth0 (pv 0) T.c_Run T.me_Run_rows_left (ok_Run_rows_left T) (hr.mono (by decide)) T.b_Run_rows_left .nil pass0) (pe_disp (pps_cons pe_str (pe_slice sl_list (pv 1) (po_some (pv 2)) po_none) pps_nil) rfl rfl (by simp) (by decide)) (nomark _)))))), ?_⟩
    obtain ⟨dx, fs, r1, r2, r3⟩ := S.run
    obtain ⟨b1, b2, b3, b4, b5, b6, b7, b8⟩ := S.nb
    refine ⟨_, rfl, A.r, dx, fs, rfl, r1, r3.no _ (by decide +kernel), A, room, row, many, gv, tk, turns, rfl, S, fun H1 p1 s1 _ e1 => ?_⟩
    refine ⟨_, rfl, _, rfl, _, rfl, L, _, rfl, s1.seq hL, fun p2 n2 => ?_⟩
    have s2 := s1.trans (same_new (o := .lst (cutV (row.map V.int) none (some (gv : Int)))) n2)
    rw [cut_take, ← List.map_take] at *
    refine ⟨_, _, ints_dt (SqL.of (same_new n2 _ _ e1)), ints_dt (SqL.of upd_same), ints_shaped _, ints_shaped _, _, rfl, ?_⟩
    rw [ints_eqv]
    refine iteF ?_
    generalize upd H1 p2 (.lst ((row.take gv).map V.int)) = H2 at s2 ⊢
    refine ⟨_, rfl, A.r, dx, fs, rfl, s2 _ _ r1, r3.no _ (by decide +kernel), A, room, row, many, gv, tk, turns, rfl, S.same s2, fun H3 p3 s3 _ e3 => ?_⟩
    have s23 := s2.trans s3
    refine ⟨_, rfl, _, rfl, _, rfl, _, rfl, _, rfl, L, _, rfl, s23.seq hL, fun p4 n4 => ?_⟩
    rw [cut_mid b3 (by rw [List.length_map]; exact b2), ← List.map_take, ← List.map_drop]
    have s4 := s23.trans (same_new (o := .lst (((row.take gv).drop tk).map V.int)) n4)
    refine ⟨_, _, ints_dt (SqL.of (same_new n4 _ _ e3)), ints_dt (SqL.of upd_same), ints_shaped _, ints_shaped _, _, rfl, ?_⟩
    rw [ints_eqv]
    refine iteF ?_
    generalize upd H3 p4 (.lst (((row.take gv).drop tk).map V.int)) = H4' at s4 ⊢
    refine ⟨_, rfl, A.r, dx, fs, rfl, s4 _ _ r1, r3.no _ (by decide +kernel), A, room, row, many, gv, tk, turns, rfl, S.same s4, fun H5 p5 s5 _ e5 => ?_⟩
    have s45 := s4.trans s5
    refine ⟨_, rfl, _, rfl, _, rfl, L, _, rfl, s45.seq hL, fun p6 n6 => ?_⟩
    rw [cut_take, ← List.map_take]
    have s6 := s45.trans (same_new (o := .lst ((row.take tk).map V.int)) n6)
    refine ⟨_, _, ints_dt (SqL.of (same_new n6 _ _ e5)), ints_dt (SqL.of upd_same), ints_shaped _, ints_shaped _, _, rfl, ?_⟩
    rw [ints_eqv]
    refine iteF ?_
    generalize upd H5 p6 (.lst ((row.take tk).map V.int)) = H6 at s6 ⊢
    refine ⟨_, rfl, A.r, dx, fs, rfl, s6 _ _ r1, r3.no _ (by decide +kernel), A, room, row, many, gv, tk, turns, "c", rfl, S.same s6, .inl ⟨rfl, fun H7 s7 => ?_⟩⟩
    have s67 := s6.trans s7
    refine ⟨_, rfl, _, _, rfl, ?_⟩
    rw [decide_eq_true rfl]
    refine ⟨_, rfl, iteF ?_⟩
    refine ⟨_, rfl, A.r, dx, fs, rfl, s67 _ _ r1, r3.no _ (by decide +kernel), A, room, row, many, gv, tk, turns, rfl, S.same s67, ?_⟩
    refine ⟨_, rfl, _, _, rfl, ?_⟩
    rw [decide_eq_true rfl]
    refine ⟨_, rfl, iteF ?_⟩
    refine ⟨_, rfl, A.r, dx, fs, rfl, s67 _ _ r1, r3.no _ (by decide +kernel), A, room, row, many, gv, tk, turns, rfl, S.same s67, fun H8 d p s8 nd np ed ep => ?_⟩
    have s78 := s67.trans s8
    refine fun d2 nd2 => ?_
    have sd := same_new (o := .dK []) nd2
    refine ⟨_, rfl, _, rfl, _, rfl, L, _, rfl, sd.seq (s78.seq hL), fun p2' np2 => ?_⟩
    rw [cut_drop, ← List.map_drop]
    have sp := same_new (o := .lst ((row.drop gv).map V.int)) np2
    refine ⟨sp _ _ upd_same, [((Sum.inr "a" : Key), V.ref p2')], rfl, by show 1 ≤ 15; decide, ?_⟩
    have nde : d ≠ d2 := ne_of_none ed nd2
    have e0 : mergeK [] [((Sum.inr "a" : Key), V.ref p2')] = [((Sum.inr "a" : Key), V.ref p2')] := rfl
    rw [e0]
    have npd : p2' ≠ d2 := ne_of (upd_same (H := upd H8 d2 (.dK [])) (a := p2') (o := .lst ((row.drop gv).map V.int))) (sp _ _ upd_same) (by intro z; cases z)
    have kk : ∀ {b : Addr} {o : HO}, H8 b = some o → upd (upd (upd H8 d2 (.dK [])) p2' (.lst ((row.drop gv).map V.int))) d2 (.dK [((Sum.inr "a" : Key), V.ref p2')]) b = some o := fun e => by
      rw [upd_ne (ne_of_none e nd2)]
      exact sp _ _ (sd _ _ e)
    refine ⟨d, d2, Sum.inr "a", .ref p, .ref p2', .list ((row.drop gv).map PyData.int), rfl, rfl, nde, .inl (kk ed), .inl upd_same, ints_dt (SqL.of (kk ep)), ints_dt (SqL.of ?_), ints_shaped _, ints_eqv _, ?_⟩
    · rw [upd_ne npd]
      exact upd_same
    · exact k _ (s78.trans fun b o e => kk e)

theorem asg_new {te : TE} {i : Nat} {u : TS} {D : Ends} {σ : St} {H : Hp} (P : V → Hp → Prop) (h : ∀ Q' : VK, (∀ v H', P v H' → Q' v H') → te σ H Q') (k : ∀ v H', P v H' → u D (σ.set i (some v)) H') : tSeq (tAsg te (gName i)) u D σ H := h _ k
abbrev fdV (b1 b2 : Bool) : List V := (if b1 = true then [V.str "c"] else []) ++ (if b2 = true then [V.str "a"] else [])
abbrev fdD (b1 b2 : Bool) : List PyData := (if b1 = true then [PyData.str "c"] else []) ++ (if b2 = true then [PyData.str "a"] else [])
theorem fd_dts {H : Hp} (b1 b2 : Bool) : Dts K H (fdV b1 b2) (fdD b1 b2) := by
  cases b1 <;> cases b2
  · exact .nil
  · exact .cons (.str _) .nil
  · exact .cons (.str _) .nil
  · exact .cons (.str _) (.cons (.str _) .nil)
theorem fd_shaped : ∀ b1 b2 : Bool, SeqAt.shaped (.list (fdD b1 b2)) = true := by decide +kernel
theorem fd_eqv (b1 b2 : Bool) : PyData.eqv (.list (fdD b1 b2)) (.list (fdD b1 b2)) = true := by
  cases b1 <;> cases b2 <;> simp [fdD, PyData.eqv, PyData.eqvAll]
theorem fd_flat (b1 b2 : Bool) : (fdV b1 b2).all flatV = true := by cases b1 <;> cases b2 <;> rfl
theorem fd_len (b1 b2 : Bool) : (fdV b1 b2).length ≤ 2 := by cases b1 <;> cases b2 <;> simp
theorem fd_c (b1 b2 : Bool) : inV (.str "c") (fdV b1 b2) = b1 := by
  have h : ¬ ("a" : Str) = "c" := Ne.symm n_ca
  cases b1 <;> cases b2 <;> simp [inV, eqV, h]
theorem fd_a (b1 b2 : Bool) : inV (.str "a") (fdV b1 b2) = b2 := by
  cases b1 <;> cases b2 <;> simp [inV, eqV, n_ca]
theorem two_shaped : ∀ b1 b2 : Bool, SeqAt.shaped (.list [.bool b1, .bool b2]) = true := by decide +kernel
theorem two_eqv (b1 b2 : Bool) : PyData.eqv (.list [.bool b1, .bool b2]) (.list [.bool b1, .bool b2]) = true := by simp [PyData.eqv, PyData.eqvAll]
theorem StAt.poke {H : Hp} {A : Pl} {room : Int} {row : List Int} {many gv tk turns : Nat} {L : Addr} {xs ys : List V} (S : StAt K t H A room row many gv tk turns) (e : H L = some (.lst xs)) (h1 : L ≠ A.le) (h2 : L ≠ A.lr) : StAt K t (upd H L (.lst ys)) A room row many gv tk turns := by
  obtain ⟨dx, fs, r1, r2, r3⟩ := S.run
  obtain ⟨dxf, fsf, f1, f2⟩ := S.flow.ex
  obtain ⟨dxn, fsn, R, F, Pd, G, Tk, n1, n2, n3, n4, n5, n6⟩ := S.net
  have kz : ∀ {b : Addr} {o : HO}, H b = some o → (∀ ys, o ≠ .lst ys) → upd H L (.lst ys) b = some o := fun q h => by
    rw [upd_ne (ne_of q e (fun z => h _ z))]
    exact q
  have kx : ∀ {b : Addr} {o : HO}, H b = some o → (∀ ks, o ≠ .dK ks) → (∀ ys, o ≠ .lst ys) → (∀ C dx fs, o ≠ .ins C dx fs) → upd H L (.lst ys) b = some o := fun q _ h _ => kz q h
  obtain ⟨_, _, _, _, c1, _⟩ := id S.cP.ex
  obtain ⟨_, _, _, _, c2, _⟩ := id S.aP.ex
  exact ⟨⟨dx, fs, kz r1 (by intro _ z; cases z), r2, r3⟩, ⟨dxn, fsn, R, F, Pd, G, Tk, kz n1 (by intro _ z; cases z), n2, kz n3 (by intro _ z; cases z), kz n4 (by intro _ z; cases z), kz n5 (by intro _ z; cases z), n6⟩, part_ks kx S.cP (upd_ne (ne_of c1 e (by intro z; cases z))), part_ks kx S.aP (upd_ne (ne_of c2 e (by intro z; cases z))), ⟨dxf, fsf, kz f1 (by intro _ z; cases z), f2⟩, kz S.ever (by intro _ z; cases z), kz S.gone (by intro _ z; cases z), kz S.kept (by intro _ z; cases z), kz S.done (by intro _ z; cases z), kz S.rows (by intro _ z; cases z), by rw [upd_ne (Ne.symm h1)]; exact S.le, by rw [upd_ne (Ne.symm h2)]; exact S.lr, S.ne, S.nd, S.nb, S.bd⟩
def sp_law (K : PySem.W.Frag) : Sp := fun vs H Q _ => ∃ (a : Addr) (ns : List Int), vs = [.ref a] ∧ SqL K H a (ns.map V.int) ∧ ns.length ≤ 63 ∧ ∀ H', Q (.bl true) H'
theorem sc_law : FnScope ["_law_script", "_law_room", "_law_many", "_law_cells", "_law_row", "_law_handed", "_law_parts", "_law_run", "_law_given_here", "_law_taken", "_law_k", "_law_cell_here", "_law_able", "_law_held", "_law_found", "_law_told"] ["_law_script"] (defScope s_law) := ⟨rfl, rfl, rfl, by decide +kernel, rfl, by decide +kernel, by decide +kernel⟩
theorem ok_law (T : Txt w K mg t) : FnOk P w K mg base CX0 8 t.f_law t.fd_law ["_law_script"] (sp_law K) := by
  have sc := sc_law
  refine T.F_law.ok sc (fun vs H Q E h => ?_) (fun cdv A outer s H vs Q E hr h => ?_)
  · obtain ⟨a, ns, rfl, _⟩ := h
    rfl
  · obtain ⟨a, ns, rfl, hS, hlen, k⟩ := h
    refine ⟨_, (pss_cons (ps_set (i := 1) sc.nd rfl (Or.inl rfl) (pe_op op_sub (pe_ix ix_list (pe_lst (pa_cons pe_int (pa_cons pe_int (pa_cons pe_int (pa_cons pe_int pa_nil star_Constant) star_Constant) star_Constant) star_Constant)) (pe_op op_mod (pe_call (ok__law_mix T) (hr.mono (by decide)) (by rfl) T.m__law_mix T.F__law_mix.kp T.b__law_mix .nil pass0 (pa_cons (pe_call (ok__law_cell T) (hr.mono (by decide)) (by rfl) T.m__law_cell T.F__law_cell.kp T.b__law_cell .nil pass0 (pa_cons (pv 0) (pa_cons pe_int pa_nil star_Constant) star_Name)) (pa_cons pe_int pa_nil star_Constant) star_Call)) pe_int) (fun _ _ => rfl)) (pe_op op_mod (pe_call (ok__law_mix T) (hr.mono (by decide)) (by rfl) T.m__law_mix T.F__law_mix.kp T.b__law_mix .nil pass0 (pa_cons (pe_call (ok__law_cell T) (hr.mono (by decide)) (by rfl) T.m__law_cell T.F__law_cell.kp T.b__law_cell .nil pass0 (pa_cons (pv 0) (pa_cons pe_int pa_nil star_Constant) star_Name)) (pa_cons pe_int pa_nil star_Constant) star_Call)) pe_int)))
      (pss_cons (ps_set (i := 1) sc.nd rfl (Or.inl rfl) (pe_callB (call_max2 rfl) (by rfl) T.n_max bt_max (pa_cons (pv 1) (pa_cons pe_int pa_nil star_Constant) star_Name)))
      (pss_cons (ps_set (i := 2) sc.nd rfl (Or.inl rfl) (pe_op op_mod (pe_call (ok__law_mix T) (hr.mono (by decide)) (by rfl) T.m__law_mix T.F__law_mix.kp T.b__law_mix .nil pass0 (pa_cons (pe_call (ok__law_cell T) (hr.mono (by decide)) (by rfl) T.m__law_cell T.F__law_cell.kp T.b__law_cell .nil pass0 (pa_cons (pv 0) (pa_cons pe_int pa_nil star_Constant) star_Name)) (pa_cons pe_int pa_nil star_Constant) star_Call)) (pe_op op_add (pe_callB (call_min2 rfl) (by rfl) T.n_min bt_min (pa_cons (pv 1) (pa_cons pe_int pa_nil star_Constant) star_Name)) pe_int)))
      (pss_cons (ps_set (i := 3) sc.nd rfl (Or.inl rfl) (pe_slice sl_list (pv 0) (po_some pe_int) (po_some pe_int)))
      (pss_cons (ps_set (i := 4) sc.nd rfl (Or.inl rfl) (pe_op op_cat (pe_comp [0] ["_law_script", "_law_room", "_law_many", "_law_cells", "_law_row", "_law_handed", "_law_parts", "_law_run", "_law_given_here", "_law_taken", "_law_k", "_law_cell_here", "_law_able", "_law_held", "_law_found", "_law_told"] (defScope s_law) rfl (pi_range1 rfl T.n_range (pa_cons (pv 2) pa_nil star_Name)) (fun _ _ _ _ _ => pf_nil) (fun _ _ _ _ _ => (pe_call (ok__law_value T) (hr.mono (by decide)) (by rfl) T.m__law_value T.F__law_value.kp T.b__law_value .nil pass0 (pa_cons (pe_call (ok__law_cell T) (hr.mono (by decide)) (by rfl) T.m__law_cell T.F__law_cell.kp T.b__law_cell .nil pass0 (pa_cons (pv 1) (pa_cons pe_int pa_nil star_Constant) star_Name)) (pa_cons (pe_op op_add pe_int (pv 0)) pa_nil star_BinOp) star_Call)))) (pe_comp [] ["_law_script", "_law_room", "_law_many", "_law_cells", "_law_row", "_law_handed", "_law_parts", "_law_run", "_law_given_here", "_law_taken", "_law_k", "_law_cell_here", "_law_able", "_law_held", "_law_found", "_law_told"] (defScope s_law) rfl (pi_list (pv 3)) (fun _ _ _ _ _ => pf_nil) (fun _ _ _ _ _ => (pe_call (ok__law_given T) (hr.mono (by decide)) (by rfl) T.m__law_given T.F__law_given.kp T.b__law_given .nil pass0 (pa_cons (pv 0) pa_nil star_Name))))))
      (pss_cons (ps_set (i := 4) sc.nd rfl (Or.inl rfl) (pe_slice sl_list (pv 4) po_none (po_some (pe_callB (call_max2 rfl) (by rfl) T.n_max bt_max (pa_cons (pv 2) (pa_cons (pe_op op_sub (pe_callB call_len (by rfl) T.n_len bt_len (pa_cons (pv 4) pa_nil star_Name)) (pe_op op_mod (pe_call (ok__law_mix T) (hr.mono (by decide)) (by rfl) T.m__law_mix T.F__law_mix.kp T.b__law_mix .nil pass0 (pa_cons (pe_call (ok__law_cell T) (hr.mono (by decide)) (by rfl) T.m__law_cell T.F__law_cell.kp T.b__law_cell .nil pass0 (pa_cons (pv 0) (pa_cons pe_int pa_nil star_Constant) star_Name)) (pa_cons pe_int pa_nil star_Constant) star_Call)) pe_int)) pa_nil star_BinOp) star_Name)))))
      (pss_consZ (ps_set (i := 5) sc.nd rfl (Or.inl rfl) (pe_disp (pps_cons pe_str (pe_callTy call_list_of (by rfl) T.n_list bt_list (pa_cons (pe_slice sl_list (pv 4) (po_some (pv 2)) po_none) pa_nil star_Subscript)) pps_nil) rfl rfl (by simp) (by decide)))
      (zss_cons (z_set (i := 6) sc.nd rfl (Or.inl rfl) (z_lst (za_cons (z_tup (za_cons z_str (za_cons z_str (za_cons (z_lst za_nil) (za_cons (z_lst (za_cons z_str za_nil star_Constant)) (za_cons (z_lst za_nil) za_nil star_List) star_List) star_List) star_Constant) star_Constant)) (za_cons (z_tup (za_cons z_str (za_cons z_str (za_cons (z_lst za_nil) (za_cons (z_lst za_nil) (za_cons (z_lst (za_cons z_str za_nil star_Constant)) za_nil star_List) star_List) star_List) star_Constant) star_Constant)) za_nil star_Tuple) star_Tuple)))
      (pss_cons (ps_set (i := 7) sc.nd rfl (Or.inl rfl) (pe_make T.M_Run (ok_Run___init__ T) (hr.mono (by decide)) (by rfl) T.mc_Run T.b_Run___init__ .nil pass0 (pa_cons (pe_make T.M_Net (ok_Net___init__ T) (hr.mono (by decide)) (by rfl) T.mc_Net T.b_Net___init__ .nil pass0 (pa_cons (pe_lst (pa_cons (pe_tup (pa_cons pe_str (pa_cons (pv 1) (pa_cons (pe_slice sl_list (pv 4) po_none (po_some (pv 2))) pa_nil star_Subscript) star_Name) star_Constant)) pa_nil star_Tuple)) (pa_cons (pv 6) pa_nil star_Name) star_List)) (pa_cons (pv 5) pa_nil star_Name) star_Call)))
      (pss_cons (ps_expr (pe_bm PySem.F.plainAttrs_list PySem.F.slot_list_append PySem.F.type_list_append mt_append (pe_dget hr.u1 (pv 5) pe_str (fun _ _ => rfl)) (pa_cons pe_int pa_nil star_Constant)))
      (pss_cons (ps_set (i := 8) sc.nd rfl (Or.inl rfl) (pv 2))
      (pss_cons (ps_set (i := 9) sc.nd rfl (Or.inl rfl) pe_int)
      (pss_cons (ps_for PassesOwn.never rfl (pi_enum rfl T.n_enumerate (pa_cons (pv 3) pa_nil star_Name)) (pg_tup rfl (pgs_cons (pg_name (i := 10) sc.nd rfl (Or.inl rfl)) (pgs_cons (pg_name (i := 11) sc.nd rfl (Or.inr rfl)) pgs_nil)))
        (pss_cons (ps_set (i := 12) sc.nd rfl (Or.inr rfl) (pe_lst (pa_cons (pe_cmpR op_gt (pv 8) (pv 9) (nomark _)) (pa_cons (pe_and (pe_cmpR op_lt (pv 8) (pe_callB call_len (by rfl) T.n_len bt_len (pa_cons (pv 4) pa_nil star_Name)) (nomark _)) (pe_one (pe_cmpR op_lt (pe_op op_sub (pv 8) (pv 9)) (pv 1) (nomark _)))) pa_nil star_BoolOp) star_Compare)))
        (pss_cons (ps_set (i := 13) sc.nd rfl (Or.inr rfl) (pe_compH ["_law_j", "_law_name"] [11] ["_law_script", "_law_room", "_law_many", "_law_cells", "_law_row", "_law_handed", "_law_parts", "_law_run", "_law_given_here", "_law_taken", "_law_k", "_law_cell_here", "_law_able", "_law_held", "_law_found", "_law_told"] (defScope s_law) rfl (pi_enum rfl T.n_enumerate (pa_cons (pe_lst (pa_cons pe_str (pa_cons pe_str pa_nil star_Constant) star_Constant)) pa_nil star_List)) (fun _ _ _ _ _ => pg_tupK (K := K) (n := 2) rfl rfl (pgs_cons (pg_name (i := 0) (show (["_law_j", "_law_name", "_law_cell_here"] : List Str).Nodup by decide +kernel) rfl (Or.inl rfl) (.inr rfl)) (pgs_cons (pg_name (i := 1) (show (["_law_j", "_law_name", "_law_cell_here"] : List Str).Nodup by decide +kernel) rfl (Or.inl rfl) (.inr rfl)) pgs_nil))) (fun _ _ _ _ _ => (pf_one (pt_cmpR op_eq (pe_op op_and (pe_op op_shr (pv 2) (pe_op op_mulB pe_int (pv 0))) pe_int) pe_int (nomark _)))) (fun _ _ _ _ _ => (pv 1))))
        (pss_cons (ps_if (pt_cmpR (op_neD hr.units) (pe_lst (pa_cons (pe_meth (pv 7) T.c_Run T.me_Run_can_work (ok_Run_can_work T) (hr.mono (by decide)) T.b_Run_can_work .nil pass0 (pa_cons pe_str pa_nil star_Constant)) (pa_cons (pe_meth (pv 7) T.c_Run T.me_Run_can_work (ok_Run_can_work T) (hr.mono (by decide)) T.b_Run_can_work .nil pass0 (pa_cons pe_str pa_nil star_Constant)) pa_nil star_Call) star_Call)) (pv 12) (nomark _))
          (pss_one (ps_ret pe_bl))
          pss_nil)
        (pss_cons (ps_set (i := 14) sc.nd rfl (Or.inl rfl) (pe_meth (pv 7) T.c_Run T.me_Run_step (ok_Run_step T) (hr.mono (by decide)) T.b_Run_step .nil pass0 (pa_cons (pe_callTy call_list_of (by rfl) T.n_list bt_list (pa_cons (pv 13) pa_nil star_Name)) pa_nil star_Call)))
        (pss_cons (ps_if (pt_cmpR (op_neD hr.units) (pv 14) (pe_compH ["_law_j", "_law_name"] [12, 13] ["_law_script", "_law_room", "_law_many", "_law_cells", "_law_row", "_law_handed", "_law_parts", "_law_run", "_law_given_here", "_law_taken", "_law_k", "_law_cell_here", "_law_able", "_law_held", "_law_found", "_law_told"] (defScope s_law) rfl (pi_enum rfl T.n_enumerate (pa_cons (pe_lst (pa_cons pe_str (pa_cons pe_str pa_nil star_Constant) star_Constant)) pa_nil star_List)) (fun _ _ _ _ _ => pg_tupK (K := K) (n := 2) rfl rfl (pgs_cons (pg_name (i := 0) (show (["_law_j", "_law_name", "_law_able", "_law_held"] : List Str).Nodup by decide +kernel) rfl (Or.inl rfl) (.inr rfl)) (pgs_cons (pg_name (i := 1) (show (["_law_j", "_law_name", "_law_able", "_law_held"] : List Str).Nodup by decide +kernel) rfl (Or.inl rfl) (.inr rfl)) pgs_nil))) (fun _ _ _ _ _ => (pf_one (PW.pt (pw_and (pt_val (pe_ix (ix_listK (K := K) rfl) (pv 2) (pv 0) (fun _ _ => rfl))) (pw_and1 (pt_cmpR (op_notIn_seqK (K := K) rfl) (pv 1) (pv 3) (by with_unfolding_all rfl))))))) (fun _ _ _ _ _ => (pv 1))) (nomark _))
          (pss_one (ps_ret pe_bl))
          pss_nil)
        (pss_cons (ps_set (i := 9) sc.nd rfl (Or.inl rfl) (pe_op op_add (pv 9) (pe_callTy call_int1 (by rfl) T.n_int bt_int (pa_cons (pe_cmpR op_in_seq pe_str (pv 14) (by with_unfolding_all rfl)) pa_nil star_Compare))))
        (pss_cons (ps_set (i := 8) sc.nd rfl (Or.inl rfl) (pe_op op_add (pv 8) (pe_callTy call_int1 (by rfl) T.n_int bt_int (pa_cons (pe_cmpR op_in_seq pe_str (pv 14) (by with_unfolding_all rfl)) pa_nil star_Compare))))
        (pss_cons (ps_if (PW.pt (pw_or (pt_not (pt_val (pe_call (ok__law_whole T) (hr.mono (by decide)) (by rfl) T.m__law_whole T.F__law_whole.kp T.b__law_whole .nil pass0 (pa_cons (pe_meth (pv 7) T.c_Run T.me_Run_works (ok_Run_works T) (hr.mono (by decide)) T.b_Run_works .nil pass0 (pa_cons pe_str pa_nil star_Constant)) (pa_cons (pe_op op_sub (pv 8) (pv 2)) pa_nil star_BinOp) star_Call)))) (pw_or1 (pt_not (pt_val (pe_call (ok__law_stands T) (hr.mono (by decide)) (by rfl) T.m__law_stands T.F__law_stands.kp T.b__law_stands .nil pass0 (pa_cons (pv 7) (pa_cons (pv 4) (pa_cons (pv 8) (pa_cons (pv 9) (pa_cons (pe_op op_add (pv 10) pe_int) pa_nil star_BinOp) star_Name) star_Name) star_Name) star_Name)))))))
          (pss_one (ps_ret pe_bl))
          pss_nil)
        (pss_cons (ps_expr (pe_bm PySem.F.plainAttrs_list PySem.F.slot_list_append PySem.F.type_list_append mt_append (pv 14) (pa_cons pe_str pa_nil star_Constant)))
        (pss_one (ps_for PassesOwn.never rfl (pi_list (pe_lst (pa_cons (pe_meth (pv 7) T.c_Run T.me_Run_had (ok_Run_had T) (hr.mono (by decide)) T.b_Run_had .nil pass0 (pa_cons pe_str pa_nil star_Constant)) (pa_cons (pe_meth (pv 7) T.c_Run T.me_Run_lane_now (ok_Run_lane_now T) (hr.mono (by decide)) T.b_Run_lane_now .nil pass0 (pa_cons pe_str pa_nil star_Constant)) (pa_cons (pe_meth (pv 7) T.c_Run T.me_Run_taken (ok_Run_taken T) (hr.mono (by decide)) T.b_Run_taken .nil pass0 (pa_cons pe_str pa_nil star_Constant)) (pa_cons (pe_dget hr.u1 (pe_meth0 (pv 7) T.c_Run T.me_Run_rows_left (ok_Run_rows_left T) (hr.mono (by decide)) T.b_Run_rows_left .nil pass0) pe_str (fun _ _ => rfl)) pa_nil star_Subscript) star_Call) star_Call) star_Call))) (pg_name (i := 15) sc.nd rfl (Or.inl rfl))
          (pss_one (ps_expr (pe_bm PySem.F.plainAttrs_list PySem.F.slot_list_append PySem.F.type_list_append mt_append (pv 15) (pa_cons pe_int pa_nil star_Constant))))))))))))))))
      (pss_one (ps_ret (pe_call (ok__law_stands T) (hr.mono (by decide)) (by rfl) T.m__law_stands T.F__law_stands.kp T.b__law_stands .nil pass0 (pa_cons (pv 7) (pa_cons (pv 4) (pa_cons (pv 8) (pa_cons (pv 9) (pa_cons (pe_callB call_len (by rfl) T.n_len bt_len (pa_cons (pv 3) pa_nil star_Name)) pa_nil star_Call) star_Name) star_Name) star_Name) star_Name))))))))))))))))), ?_⟩
    have hl : sizeLine = 16777216 := sizeLine_eq
    refine ⟨by show 4 ≤ sizeLine; omega, fun l0 nl0 => ?_⟩
    have s0 := same_new (o := .lst [.int 1, .int 2, .int 3, .int 99]) nl0
    have e0 : upd H l0 (.lst [.int 1, .int 2, .int 3, .int 99]) l0 = some (.lst [.int 1, .int 2, .int 3, .int 99]) := upd_same
    have hS0 := s0.seq hS
    generalize upd H l0 (.lst [.int 1, .int 2, .int 3, .int 99]) = H0 at s0 e0 hS0 ⊢
    refine ⟨_, rfl, a, ns, 0, rfl, hS0, by omega, fun n0 => ⟨_, _, rfl, fun m0 _ _ => ⟨_, _, rfl, rfl, by show (0 : Int) < 4; decide, ?_⟩⟩⟩
    obtain ⟨c, ec, hc1, hc2⟩ := pick4 (m := m0)
    refine ⟨l0, _, _, _, rfl, rfl, SqL.of e0, ec, ?_⟩
    refine ⟨_, rfl, a, ns, 0, rfl, hS0, by omega, fun n1 => ⟨_, _, rfl, fun m1 _ _ => ⟨_, _, rfl, rfl, by show (0 : Int) < 2; decide, _, _, rfl, rfl, ?_⟩⟩⟩
    have x0 := Int.emod_nonneg m1 (show (2 : Int) ≠ 0 by decide)
    have x1 := Int.emod_lt_of_pos m1 (show (0 : Int) < 2 by decide)
    refine ⟨_, rfl, _, _, rfl, ?_⟩
    obtain ⟨room, er, hr0, hr1⟩ : ∃ room : Int, (if (1 : Int) > c - m1 % 2 then 1 else c - m1 % 2) = room ∧ 1 ≤ room ∧ room ≤ 99 := ⟨_, rfl, by split <;> omega, by split <;> omega⟩
    rw [er]
    refine ⟨_, rfl, a, ns, 1, rfl, hS0, by omega, fun n2 => ⟨_, _, rfl, fun m2 _ _ => ⟨_, rfl, _, _, rfl, _, _, rfl, rfl, m2, ((if (5 : Int) < room then 5 else room) + 1), rfl, rfl, ?_⟩⟩⟩
    have hmod : (0 : Int) < (if (5 : Int) < room then 5 else room) + 1 := by split <;> omega
    refine ⟨hmod, ?_⟩
    have y0 := Int.emod_nonneg m2 (show (if (5 : Int) < room then 5 else room) + 1 ≠ 0 by omega)
    have y1 := Int.emod_lt_of_pos m2 hmod
    obtain ⟨many, em⟩ : ∃ many : Nat, m2 % ((if (5 : Int) < room then 5 else room) + 1) = (many : Int) := ⟨_, (Int.toNat_of_nonneg y0).symm⟩
    have hm5 : many ≤ 5 ∧ (many : Int) ≤ room := by
      rw [em] at y1
      split at y1 <;> omega
    dsimp only
    rw [em]
    clear y0 y1
    refine ⟨_, rfl, _, rfl, _, rfl, a, _, rfl, hS0, fun Lc nLc => ?_⟩
    obtain ⟨cl, hcl, hcn⟩ : ∃ cl : List Int, cutV (ns.map V.int) (some 3) (some 43) = cl.map V.int ∧ cl.length ≤ 63 := by
      unfold cutV
      rw [← List.map_drop, ← List.map_take]
      refine ⟨_, rfl, ?_⟩
      rw [List.length_take, List.length_drop]
      omega
    rw [hcl]
    have s1 := s0.trans (same_new (o := .lst (cl.map V.int)) nLc)
    have eLc : upd H0 Lc (.lst (cl.map V.int)) Lc = some (.lst (cl.map V.int)) := upd_same
    have hS1 := (same_new (o := .lst (cl.map V.int)) nLc).seq hS0
    generalize upd H0 Lc (.lst (cl.map V.int)) = H1 at s1 eLc hS1 ⊢
    clear nLc nl0 e0 hS0 hcl
    -- the row
    refine ⟨_, rfl, (many : Int), rfl, by omega, by omega, ?_⟩
    rw [Int.toNat_natCast]
    refine comp_range (fun j ys H' => H' = H1 ∧ ∃ ws : List Int, ys = ws.map V.int ∧ ws.length = j ∧ Bnd ws) (by omega) ⟨rfl, [], rfl, rfl, by intro w hw; cases hw⟩ (fun j ys H' ⟨_, ws, e, e2, _⟩ => by rw [e, List.length_map]; omega) ?_ ?_
    · rintro j ys H' hj ⟨rfl, ws, rfl, hw, hB⟩
      refine yes ⟨_, rfl, a, ns, 1, rfl, hS1, by omega, fun n3 => ⟨_, rfl, _, _, rfl, rfl, _, _, rfl, fun v v0 v1 => ⟨rfl, ws ++ [v], by simp, by simp [hw], ?_⟩⟩⟩
      intro w hw'
      rcases List.mem_append.mp hw' with h | h
      · exact hB w h
      · rw [List.mem_singleton] at h; subst h; exact ⟨v0, v1⟩
    rintro ys H' ⟨rfl, ws, rfl, hw, hBw⟩ D1 nD1
    have t1 := same_new (o := .lst (ws.map V.int)) nD1
    have eD1 : upd H' D1 (.lst (ws.map V.int)) D1 = some (.lst (ws.map V.int)) := upd_same
    have eLc1 := t1 _ _ eLc
    have hS2 := t1.seq hS1
    have s2 := s1.trans t1
    generalize upd H' D1 (.lst (ws.map V.int)) = H2 at eD1 eLc1 hS2 s2 ⊢
    refine ⟨_, rfl, Lc, rfl, ⟨_, SqL.of eLc1⟩, ?_⟩
    refine comp_list (K := K) (a := Lc) (xs := cl.map V.int) (fun j ys H' => H' = H2 ∧ ∃ us : List Int, ys = us.map V.int ∧ us.length = j ∧ Bnd us) (by rw [List.length_map]; omega) ⟨rfl, [], rfl, rfl, by intro w hw; cases hw⟩ (fun j ys H' ⟨_, us, e, e2, _⟩ => by rw [e, List.length_map]; omega) (fun j ys H' _ ⟨e, _⟩ => by rw [e]; exact SqL.of eLc1) ?_ ?_
    · rintro j x ys H' hx ⟨rfl, us, rfl, hu, hB⟩
      rw [List.getElem?_map] at hx
      obtain ⟨c1, _, rfl⟩ := Option.map_eq_some_iff.mp hx
      refine yes ⟨_, rfl, c1, rfl, fun v v0 v1 => ⟨rfl, us ++ [v], by simp, by simp [hu], ?_⟩⟩
      intro w hw'
      rcases List.mem_append.mp hw' with h | h
      · exact hB w h
      · rw [List.mem_singleton] at h; subst h; exact ⟨v0, v1⟩
    rintro ys H' ⟨rfl, us, rfl, hu, hBu⟩ D2 nD2
    rw [List.length_map] at hu
    have t2 := same_new (o := .lst (us.map V.int)) nD2
    have eD2 : upd H' D2 (.lst (us.map V.int)) D2 = some (.lst (us.map V.int)) := upd_same
    have s3 := s2.trans t2
    have eLc2 := t2 _ _ eLc1
    have hS3 := t2.seq hS2
    have eD12 := t2 _ _ eD1
    generalize upd H' D2 (.lst (us.map V.int)) = H3 at eD2 s3 eLc2 hS3 eD12 ⊢
    refine ⟨D1, D2, _, _, rfl, rfl, eD12, eD2, by rw [List.length_map, List.length_map]; omega, fun L1 nL1 => ?_⟩
    rw [← List.map_append]
    have t3 := same_new (o := .lst ((ws ++ us).map V.int)) nL1
    have eL1 : upd H3 L1 (.lst ((ws ++ us).map V.int)) L1 = some (.lst ((ws ++ us).map V.int)) := upd_same
    have s4 := s3.trans t3
    have eLc3 := t3 _ _ eLc2
    have hS4 := t3.seq hS3
    generalize upd H3 L1 (.lst ((ws ++ us).map V.int)) = H4' at eL1 s4 eLc3 hS4 ⊢
    clear t1 t2 t3 nD1 nD2 nL1 eLc eLc1 eLc2 eD1 eD2 eD12 hS1 hS2 hS3 s1 s2 s3
    refine ⟨_, rfl, _, rfl, _, rfl, .ref L1, (ws ++ us).length, rfl, .inl ⟨_, SqL.of eL1, by simp⟩, _, rfl, a, ns, 2, rfl, hS4, by omega, fun n4 => ⟨_, _, rfl, fun m4 _ _ => ⟨_, _, rfl, rfl, by show (0 : Int) < 9; decide, _, _, rfl, rfl, _, _, rfl, ?_⟩⟩⟩
    have z0 := Int.emod_nonneg m4 (show (9 : Int) ≠ 0 by decide)
    have z1 := Int.emod_lt_of_pos m4 (show (0 : Int) < 9 by decide)
    have hlen2 : ((ws ++ us).length : Int) = many + us.length := by rw [List.length_append]; omega
    obtain ⟨e, ee, he0, he1⟩ : ∃ e : Nat, (if (((ws ++ us).length : Nat) : Int) - m4 % 9 > (many : Int) then (((ws ++ us).length : Nat) : Int) - m4 % 9 else (many : Int)) = (e : Int) ∧ many ≤ e ∧ e ≤ many + us.length := by
      refine ⟨(if (((ws ++ us).length : Nat) : Int) - m4 % 9 > (many : Int) then (((ws ++ us).length : Nat) : Int) - m4 % 9 else (many : Int)).toNat, ?_, ?_, ?_⟩
      · split <;> omega
      · split <;> omega
      · split <;> omega
    refine ⟨(e : Int), congrArg V.int ee, L1, _, rfl, SqL.of eL1, fun Lr nLr => ?_⟩
    obtain ⟨vs', hvs⟩ : ∃ vs' : List Int, us.take (e - many) = vs' := ⟨_, rfl⟩
    have erow : cutV ((ws ++ us).map V.int) none (some (e : Int)) = (ws ++ vs').map V.int := by
      rw [cut_take, ← List.map_take, List.take_append, List.take_of_length_le (by omega), hw, hvs]
    have hvl : vs'.length ≤ 63 := by rw [← hvs, List.length_take]; omega
    have hBv : Bnd vs' := fun w hw' => hBu w (by rw [← hvs] at hw'; exact List.mem_of_mem_take hw')
    rw [erow]
    have t4 := same_new (o := .lst ((ws ++ vs').map V.int)) nLr
    have eLr : upd H4' Lr (.lst ((ws ++ vs').map V.int)) Lr = some (.lst ((ws ++ vs').map V.int)) := upd_same
    have eLc4 := t4 _ _ eLc3
    generalize upd H4' Lr (.lst ((ws ++ vs').map V.int)) = H5 at eLr eLc4 ⊢
    clear t4 nLr eL1 s4 eLc3 hS4 erow hlen2 z0 z1 ee he0 he1 hvs hBu hu
    have hr5 : (ws ++ vs').length ≤ 100 := by rw [List.length_append]; omega
    generalize hrow : ws ++ vs' = row at eLr hr5 ⊢
    -- what is handed in for the doors
    refine fun d nd => ?_
    have g0 := same_new (o := .dK []) nd
    refine ⟨_, rfl, _, rfl, _, rfl, Lr, _, rfl, SqL.of (g0 _ _ eLr), fun pz npz => ?_⟩
    have edrop : cutV (row.map V.int) (some (many : Int)) none = vs'.map V.int := by
      rw [cut_drop, ← List.map_drop, ← hrow, ← hw, List.drop_left]
    rw [edrop]
    have gz := same_new (o := .lst (vs'.map V.int)) npz
    refine ⟨pz, _, rfl, .inl (SqL.of upd_same), fun L nL => ?_⟩
    have gL := same_new (o := .lst (vs'.map V.int)) nL
    refine ⟨gL _ _ (gz _ _ upd_same), [((Sum.inr "a" : Key), V.ref L)], rfl, by show 1 ≤ 15; decide, ?_⟩
    have e0' : mergeK [] [((Sum.inr "a" : Key), V.ref L)] = ka (.ref L) := rfl
    rw [e0']
    have nLc : Lc ≠ L := ne_of_none (gz _ _ (g0 _ _ eLc4)) nL
    have nLr' : Lr ≠ L := ne_of_none (gz _ _ (g0 _ _ eLr)) nL
    have nLd : L ≠ d := ne_of (upd_same (H := upd (upd H5 d (.dK [])) pz (.lst (vs'.map V.int))) (a := L) (o := .lst (vs'.map V.int))) (gL _ _ (gz _ _ upd_same)) (by intro z; cases z)
    have k5 : ∀ {x : Addr} {o : HO}, H5 x = some o → upd (upd (upd (upd H5 d (.dK [])) pz (.lst (vs'.map V.int))) L (.lst (vs'.map V.int))) d (.dK (ka (.ref L))) x = some o := fun q => by
      rw [upd_ne (ne_of_none q nd)]
      exact gL _ _ (gz _ _ (g0 _ _ q))
    have e6d : upd (upd (upd (upd H5 d (.dK [])) pz (.lst (vs'.map V.int))) L (.lst (vs'.map V.int))) d (.dK (ka (.ref L))) d = some (.dK (ka (.ref L))) := upd_same
    have e6L : upd (upd (upd (upd H5 d (.dK [])) pz (.lst (vs'.map V.int))) L (.lst (vs'.map V.int))) d (.dK (ka (.ref L))) L = some (.lst (vs'.map V.int)) := by rw [upd_ne nLd]; exact upd_same
    have e6c := k5 eLc4
    have e6r := k5 eLr
    generalize upd (upd (upd (upd H5 d (.dK [])) pz (.lst (vs'.map V.int))) L (.lst (vs'.map V.int))) d (.dK (ka (.ref L))) = H6 at e6d e6L e6c e6r ⊢
    clear k5 gL gz g0 nd nL npz e0' edrop eLc4 eLr
    -- the parts
    refine ⟨by show 0 ≤ sizeLine; omega, fun a1 n1' => ⟨by show 1 ≤ sizeLine; omega, fun a2 n2' => ⟨by show 0 ≤ sizeLine; omega, fun a3 n3' => ⟨by show 5 ≤ sizeLine; omega, fun p1 n4' => ⟨by show 0 ≤ sizeLine; omega, fun c1 n5' => ⟨by show 0 ≤ sizeLine; omega, fun c2 n6' => ⟨by show 1 ≤ sizeLine; omega, fun c3 n7' => ⟨by show 5 ≤ sizeLine; omega, fun p2 n8' => ⟨by show 2 ≤ sizeLine; omega, fun Lp n9' => ?_⟩⟩⟩⟩⟩⟩⟩⟩⟩
    have g1 := same_new (o := .lst []) n1'
    have g2 := same_new (o := .lst [.str "b"]) n2'
    have g3 := same_new (o := .lst []) n3'
    have g4 := same_new (o := .tup [.str "take", .str "c", .ref a1, .ref a2, .ref a3]) n4'
    have g5 := same_new (o := .lst []) n5'
    have g6 := same_new (o := .lst []) n6'
    have g7 := same_new (o := .lst [.str "b"]) n7'
    have g8 := same_new (o := .tup [.str "give", .str "a", .ref c1, .ref c2, .ref c3]) n8'
    have g9 := same_new (o := .lst [.ref p1, .ref p2]) n9'
    have f9 := g9
    have f8 := g8.trans f9
    have f7 := g7.trans f8
    have f6 := g6.trans f7
    have f5 := g5.trans f6
    have f4 := g4.trans f5
    have f3 := g3.trans f4
    have f2 := g2.trans f3
    have f1 := g1.trans f2
    have q1 := f2 _ _ (upd_same (H := H6) (a := a1) (o := .lst []))
    have q2 := f3 a2 (.lst [.str "b"]) upd_same
    have q3 := f4 a3 (.lst []) upd_same
    have q4 := f5 p1 (.tup [.str "take", .str "c", .ref a1, .ref a2, .ref a3]) upd_same
    have q5 := f6 c1 (.lst []) upd_same
    have q6 := f7 c2 (.lst []) upd_same
    have q7 := f8 c3 (.lst [.str "b"]) upd_same
    have q8 := f9 p2 (.tup [.str "give", .str "a", .ref c1, .ref c2, .ref c3]) upd_same
    have q9 := upd_same (H := upd (upd (upd (upd (upd (upd (upd (upd H6 a1 (.lst [])) a2 (.lst [.str "b"])) a3 (.lst [])) p1 (.tup [.str "take", .str "c", .ref a1, .ref a2, .ref a3])) c1 (.lst [])) c2 (.lst [])) c3 (.lst [.str "b"])) p2 (.tup [.str "give", .str "a", .ref c1, .ref c2, .ref c3])) (a := Lp) (o := .lst [.ref p1, .ref p2])
    generalize upd (upd (upd (upd (upd (upd (upd (upd (upd H6 a1 (.lst [])) a2 (.lst [.str "b"])) a3 (.lst [])) p1 (.tup [.str "take", .str "c", .ref a1, .ref a2, .ref a3])) c1 (.lst [])) c2 (.lst [])) c3 (.lst [.str "b"])) p2 (.tup [.str "give", .str "a", .ref c1, .ref c2, .ref c3])) Lp (.lst [.ref p1, .ref p2]) = H7 at f1 q1 q2 q3 q4 q5 q6 q7 q8 q9 ⊢
    have e7d := f1 _ _ e6d
    have e7L := f1 _ _ e6L
    have e7c := f1 _ _ e6c
    have e7r := f1 _ _ e6r
    clear g1 g2 g3 g4 g5 g6 g7 g8 g9 f9 f8 f7 f6 f5 f4 f3 f2 n1' n2' n3' n4' n5' n6' n7' n8' n9' e6d e6L e6c e6r
    -- the net and the run
    refine ⟨_, rfl, _, rfl, _, rfl, _, rfl, Lr, _, rfl, SqL.of e7r, fun W nW => ?_⟩
    have etk : cutV (row.map V.int) none (some (many : Int)) = ws.map V.int := by
      rw [cut_take, ← List.map_take, ← hrow, ← hw, List.take_left]
    rw [etk]
    refine ⟨by show 3 ≤ sizeLine; omega, fun q nq => ⟨by show 1 ≤ sizeLine; omega, fun Ll nLl => ⟨_, rfl, fun n dxn nn ndn nen => ?_⟩⟩⟩
    have g1 := same_new (o := .lst (ws.map V.int)) nW
    have g2 := same_new (o := .tup [.str "b", .int room, .ref W]) nq
    have g3 := same_new (o := .lst [.ref q]) nLl
    have g4 : Same (upd (upd (upd H7 W (.lst (ws.map V.int))) q (.tup [.str "b", .int room, .ref W])) Ll (.lst [.ref q])) (upd (upd (upd (upd (upd H7 W (.lst (ws.map V.int))) q (.tup [.str "b", .int room, .ref W])) Ll (.lst [.ref q])) dxn (.own n)) n (.ins t.C_Net dxn [])) := fun b o e => by rw [upd_ne (ne_of_none e nn), upd_ne (ne_of_none e ndn)]; exact e
    have w1 := g4 _ _ (g3 _ _ (g2 _ _ (upd_same (H := H7) (a := W) (o := .lst (ws.map V.int)))))
    have w2 := g4 _ _ (g3 q (.tup [.str "b", .int room, .ref W]) upd_same)
    have w3 := g4 Ll (.lst [.ref q]) upd_same
    have g := g1.trans (g2.trans (g3.trans g4))
    have wn := upd_same (H := upd (upd (upd (upd H7 W (.lst (ws.map V.int))) q (.tup [.str "b", .int room, .ref W])) Ll (.lst [.ref q])) dxn (.own n)) (a := n) (o := .ins t.C_Net dxn [])
    generalize upd (upd (upd (upd (upd H7 W (.lst (ws.map V.int))) q (.tup [.str "b", .int room, .ref W])) Ll (.lst [.ref q])) dxn (.own n)) n (.ins t.C_Net dxn []) = H8 at w1 w2 w3 g wn ⊢
    clear g1 g2 g3 g4 nW nq nLl nn ndn nen
    have hws : ws.length ≤ 5 := by omega
    refine ⟨n, dxn, Ll, Lp, W, room, ws, rfl, wn, ⟨⟨q, SqL.of w3, w2⟩, SqL.of w1, ⟨p1, p2, a1, a2, a3, c1, c2, c3, SqL.of (g _ _ q9), g _ _ q4, g _ _ q8, SqL.of (g _ _ q1), SqL.of (g _ _ q2), SqL.of (g _ _ q3), SqL.of (g _ _ q5), SqL.of (g _ _ q6), SqL.of (g _ _ q7)⟩, ⟨hr0, by omega, by omega, by omega⟩, hBw⟩, fun H10 pc pa F0 b10 N10 => ⟨rfl, _, rfl, fun r dxr nr ndr ner => ?_⟩⟩
    have g5 : Same H10 (upd (upd H10 dxr (.own r)) r (.ins t.C_Run dxr [])) := fun b o e => by rw [upd_ne (ne_of_none e nr), upd_ne (ne_of_none e ndr)]; exact e
    have k8 : ∀ {x : Addr} {o : HO}, H7 x = some o → (∀ C dx fs, o ≠ .ins C dx fs) → H10 x = some o := fun q h => b10 _ _ (ne_of (g _ _ q) wn (fun z => h _ _ _ z)) (g _ _ q)
    have e10d := g5 _ _ (k8 e7d (by intro _ _ _ z; cases z))
    have e10L := g5 _ _ (k8 e7L (by intro _ _ _ z; cases z))
    have e10c := g5 _ _ (k8 e7c (by intro _ _ _ z; cases z))
    have e10r := g5 _ _ (k8 e7r (by intro _ _ _ z; cases z))
    have wr := upd_same (H := upd H10 dxr (.own r)) (a := r) (o := .ins t.C_Run dxr [])
    obtain ⟨_, _, _, _, _, _, _, i1, _⟩ := N10.ex
    obtain ⟨_, _, _, _, i2, _⟩ := N10.cP.ex
    obtain ⟨_, _, _, _, i3, _⟩ := N10.aP.ex
    have nrn : r ≠ n := Ne.symm (ne_of_none i1 nr)
    have nrc : r ≠ pc := Ne.symm (ne_of_none i2 nr)
    have nra : r ≠ pa := Ne.symm (ne_of_none i3 nr)
    have N11 := N10.same g5
    generalize upd (upd H10 dxr (.own r)) r (.ins t.C_Run dxr []) = H11 at e10d e10L e10c e10r wr N11 ⊢
    refine ⟨r, dxr, n, pc, pa, F0, d, L, room, ws, vs', rfl, wr, nrn, nrc, nra, N11, e10d, SqL.of e10L, by omega, by omega, hBv, fun H12 A eAr eAn b12 fr12 S12 => ⟨rfl, ?_⟩⟩
    have k12 : ∀ {x : Addr} {o : HO}, H11 x = some o → (∀ C dx fs, o ≠ .ins C dx fs) → H12 x = some o := fun q h => b12 _ _ (ne_of q wr (fun z => h _ _ _ z)) q
    have e12d := k12 e10d (by intro _ _ _ z; cases z)
    have e12L := k12 e10L (by intro _ _ _ z; cases z)
    have e12c := k12 e10c (by intro _ _ _ z; cases z)
    have e12r := k12 e10r (by intro _ _ _ z; cases z)
    have nLle : L ≠ A.le := ne_of_none e10L (fr12 _ (by simp))
    have nLlr : L ≠ A.lr := ne_of_none e10L (fr12 _ (by simp))
    have ncle : Lc ≠ A.le := ne_of_none e10c (fr12 _ (by simp))
    have nrle : Lr ≠ A.le := ne_of_none e10r (fr12 _ (by simp))
    rw [hrow, hw] at S12
    refine ⟨_, rfl, d, .ref L, rfl, (by rw [← val_ka (.ref L)]; exact DGet.k (k := Sum.inr "a") e12d), .inl ⟨rfl, _, SqL.of e12L⟩, L, _, .int 7, rfl, rfl, e12L, by rw [List.length_map]; omega, ?_⟩
    have S13 := S12.poke (ys := vs'.map V.int ++ [.int 7]) e12L nLle nLlr
    have e13c : upd H12 L (.lst (vs'.map V.int ++ [.int 7])) Lc = some (.lst (cl.map V.int)) := by rw [upd_ne nLc]; exact e12c
    have e13r : upd H12 L (.lst (vs'.map V.int ++ [.int 7])) Lr = some (.lst (row.map V.int)) := by rw [upd_ne nLr']; exact e12r
    generalize upd H12 L (.lst (vs'.map V.int ++ [.int 7])) = H13 at S13 e13c e13r ⊢
    clear k12 k8 e12d e12L e12c e12r e10d e10L e10c e10r fr12 S12 b12 wr N11 g5 N10 b10 i1 i2 i3 q1 q2 q3 q4 q5 q6 q7 q8 q9 e7d e7L e7c e7r f1 w1 w2 w3 g wn etk nLle nLlr nLd
    subst eAr
    refine ⟨_, rfl, ?_⟩
    refine ⟨_, rfl, Lc, rfl, ⟨_, SqL.of e13c⟩, for_enum (K := K) (a := Lc) (xs := cl.map V.int) (fun j σ H' => ∃ gv tk, StAt K t H' A room row many gv tk j ∧ H' Lc = some (.lst (cl.map V.int)) ∧ H' Lr = some (.lst (row.map V.int)) ∧ ∃ v10 v11 v12 v13 v14 v15, σ = [some (.ref a), some (.int room), some (.int (many : Nat)), some (.ref Lc), some (.ref Lr), some (.ref d), some (.ref Lp), some (.ref A.r), some (.int (gv : Nat)), some (.int (tk : Nat)), v10, v11, v12, v13, v14, v15]) ⟨many, 0, S13, e13c, e13r, none, none, none, none, none, none, rfl⟩ (fun j σ H' _ ⟨_, _, _, h, _⟩ => SqL.of h) ?_ ?_⟩
    · rintro j x σ H' hx ⟨gv, tk, S, ec', er', v10, v11, v12, v13, v14, v15, rfl⟩ u nu
      have hj : j < 63 := by have := (List.getElem?_eq_some_iff.mp hx).1; rw [List.length_map] at this; omega
      rw [List.getElem?_map] at hx
      obtain ⟨cell, _, rfl⟩ := Option.map_eq_some_iff.mp hx
      refine ⟨u, _, rfl, SqT.of upd_same, rfl, _, _, rfl, _, _, rfl, rfl, ?_⟩
      have S1 := S.same (same_new (o := .tup [.int (j : Nat), .int cell]) nu)
      have c1' := same_new (o := .tup [.int (j : Nat), .int cell]) nu _ _ ec'
      have r1' := same_new (o := .tup [.int (j : Nat), .int cell]) nu _ _ er'
      generalize upd H' u (.tup [.int (j : Nat), .int cell]) = H1' at S1 c1' r1' ⊢
      clear S ec' er' nu
      obtain ⟨b1, b2, b3, b4, b5, b6, b7, b8⟩ := S1.nb
      -- able
      refine asg_new (fun v H2 => ∃ p, v = .ref p ∧ Same H1' H2 ∧ H1' p = none ∧ H2 p = some (.lst [.bl (decide (tk < gv)), .bl (decide (gv < row.length ∧ (gv : Int) - tk < room))])) (fun Q' q => ?_) ?_
      · have fin : ∀ (x y : Bool), x = decide (tk < gv) → y = decide (gv < row.length ∧ (gv : Int) - tk < room) → ∀ p, H1' p = none → Q' (.ref p) (upd H1' p (.lst [.bl x, .bl y])) := fun x y hx hy p np => q _ _ ⟨p, rfl, same_new np, np, by rw [upd_same, hx, hy]⟩
        have d1 : decide ((tk : Int) < (gv : Int)) = decide (tk < gv) := by rw [decide_eq_decide]; omega
        refine ⟨_, rfl, _, rfl, _, _, rfl, rfl, ?_⟩
        refine ⟨_, rfl, _, rfl, .ref Lr, row.length, rfl, .inl ⟨_, SqL.of r1', by simp⟩, _, _, rfl, rfl, _, rfl, ite2 (fun h => ?_) (fun h => ?_)⟩
        · have h' : gv < row.length := by have := of_decide_eq_true h; omega
          refine ⟨_, rfl, _, rfl, _, _, rfl, rfl, _, rfl, _, _, rfl, rfl, by show 2 ≤ sizeLine; omega, fun p np => ?_⟩
          exact fin _ _ d1 (by rw [decide_eq_decide]; exact ⟨fun z => ⟨h', z⟩, fun z => z.2⟩) p np
        · have h' : ¬ gv < row.length := fun z => h (decide_eq_true (by omega))
          refine ⟨by show 2 ≤ sizeLine; omega, fun p np => ?_⟩
          refine fin _ _ d1 ?_ p np
          exact (decide_eq_false (p := gv < row.length ∧ (gv : Int) - tk < room) (fun z => h' z.1)).symm
      rintro _ H2' ⟨Lab, rfl, s2, nab, eab⟩
      -- held
      refine asg_new (fun v H3 => ∃ (p : Addr) (hs : List Str), v = .ref p ∧ Same H2' H3 ∧ H2' p = none ∧ H3 p = some (.lst (hs.map V.str)) ∧ hs.length ≤ 2 ∧ ∀ x ∈ hs, x = "c" ∨ x = "a") (fun Q' q => ?_) ?_
      · refine ⟨by show 2 ≤ sizeLine; omega, fun l nl => ⟨l, rfl, ⟨_, SqL.of upd_same⟩, ?_⟩⟩
        have sl := same_new (o := .lst [.str "c", .str "a"]) nl
        have el : upd H2' l (.lst [.str "c", .str "a"]) l = some (.lst [.str "c", .str "a"]) := upd_same
        generalize upd H2' l (.lst [.str "c", .str "a"]) = Hl at sl el ⊢
        refine comp_enumH (K := K) (a := l) (xs := [.str "c", .str "a"]) (fun i ys H3 => Same Hl H3 ∧ ys.length ≤ i ∧ ∃ hs : List Str, ys = hs.map V.str ∧ ∀ x ∈ hs, x = "c" ∨ x = "a") (by show 2 ≤ sizeLine; omega) ⟨Same.refl _, by simp, [], rfl, by simp⟩ (fun i ys H3 h => h.2.1) (fun i ys H3 _ h => h.1.seq (SqL.of el)) ?_ ?_
        · rintro i x ys H3 p hx ⟨s3, hy, hs, rfl, hm⟩ np
          obtain ⟨z, rfl, hz⟩ : ∃ z : Str, x = .str z ∧ (z = "c" ∨ z = "a") := by
            match i, hx with
            | 0, hx => exact ⟨"c", (Option.some.inj hx).symm, .inl rfl⟩
            | 1, hx => exact ⟨"a", (Option.some.inj hx).symm, .inr rfl⟩
            | (n + 2), hx => cases hx
          refine ⟨p, _, rfl, SqT.of upd_same, rfl, _, _, rfl, _, _, rfl, rfl, rfl, ?_⟩
          have s4 := s3.trans (same_new (o := .tup [.int (i : Nat), .str z]) np)
          refine ⟨_, rfl, _, rfl, _, _, rfl, rfl, .of_left (intBits_le_64 (by decide) (by decide)), _, _, rfl, rfl, ?_, _, _, rfl, rfl, rfl, _, rfl, ite2 (fun _ => ?_) (fun _ => ?_)⟩
          · show (0 : Int) ≤ 2 * (i : Int)
            omega
          · refine ⟨_, rfl, s4, by rw [List.length_append]; show _ + 1 ≤ _; omega, hs ++ [z], by simp, ?_⟩
            intro y hy'
            rcases List.mem_append.mp hy' with h | h
            · exact hm y h
            · rw [List.mem_singleton] at h; subst h; exact hz
          · exact ⟨s4, by omega, hs, rfl, hm⟩
        · rintro ys H3 ⟨s3, hy, hs, rfl, hm⟩ p np
          have hy2 : hs.length ≤ 2 := by rw [List.length_map] at hy; exact hy
          exact q _ _ ⟨p, hs, rfl, sl.trans (s3.trans (same_new np)), (sl.trans s3).free np, upd_same, hy2, hm⟩
      rintro _ H3' ⟨Dh, hs, rfl, s3, nDh, eDh, hsl, hsm⟩
      have S3 := S1.same (s2.trans s3)
      have c3' := s3 _ _ (s2 _ _ c1')
      have r3' := s3 _ _ (s2 _ _ r1')
      have eab3 := s3 _ _ eab
      have nDle : Dh ≠ A.le := Ne.symm (ne_of_none (s2 _ _ S1.le) nDh)
      have nable : Lab ≠ A.le := Ne.symm (ne_of_none S1.le nab)
      clear s2 s3 nab eab nDh
      -- who can work
      obtain ⟨dx, fs, rr1, rr2, rr3⟩ := S3.run
      refine ⟨_, rfl, A.r, dx, fs, rfl, rr1, rr3.no _ (by decide +kernel), A, room, row, many, gv, tk, j, "c", rfl, S3, .inl ⟨rfl, fun H4 s4 => ?_⟩⟩
      refine ⟨_, rfl, A.r, dx, fs, rfl, s4 _ _ rr1, rr3.no _ (by decide +kernel), A, room, row, many, gv, tk, j, "a", rfl, S3.same s4, .inr ⟨rfl, fun H5 s5 => ⟨by show 2 ≤ sizeLine; omega, fun pl npl => ?_⟩⟩⟩
      have s6 := s4.trans (s5.trans (same_new (o := .lst [.bl (decide (tk < gv)), .bl (decide (gv < row.length ∧ (gv : Int) - tk < room))]) npl))
      refine ⟨_, rfl, _, _, .list (SqL.of upd_same) (.cons (.bl _) (.cons (.bl _) .nil)), .list (SqL.of (s6 _ _ eab3)) (.cons (.bl _) (.cons (.bl _) .nil)), two_shaped _ _, two_shaped _ _, _, rfl, ?_⟩
      rw [two_eqv]
      refine iteF ?_
      have S6 := S3.same s6
      have c6 := s6 _ _ c3'
      have r6 := s6 _ _ r3'
      have eab6 := s6 _ _ eab3
      have eDh6 := s6 _ _ eDh
      have rr6 := s6 _ _ rr1
      generalize upd H5 pl (.lst [.bl (decide (tk < gv)), .bl (decide (gv < row.length ∧ (gv : Int) - tk < room))]) = H6' at S6 c6 r6 eab6 eDh6 rr6 ⊢
      clear s6 s4 s5 npl S3 c3' r3' eab3 eDh rr1
      -- the turn
      refine ⟨_, rfl, A.r, dx, fs, rfl, rr6, rr3.no _ (by decide +kernel), _, rfl, Dh, _, rfl, .inl (SqL.of eDh6), fun Dl nDl => ?_⟩
      have sl := same_new (o := .lst (hs.map V.str)) nDl
      refine ⟨A, room, row, many, gv, tk, j, Dl, hs, rfl, S6.same sl, by omega, SqL.of upd_same, by omega, hsm, fun H7 Df k7 S7 nDf eDf => ?_⟩
      have kl : ∀ {b : Addr} {ys : List V}, b ≠ A.le → H6' b = some (.lst ys) → H7 b = some (.lst ys) := fun hb e => by
        have e' := sl _ _ e
        have Sx := S6.same sl
        obtain ⟨_, _, ra, _⟩ := Sx.run
        exact k7 _ _ (ne_of e' ra (by intro z; cases z)) (ne_of e' Sx.gone (by intro z; cases z)) hb (ne_of e' Sx.kept (by intro z; cases z)) (ne_of e' Sx.done (by intro z; cases z)) e'
      have c7 := kl ncle c6
      have r7 := kl nrle r6
      have eab7 := kl nable eab6
      have eDh7 := kl nDle eDh6
      have nDfle : Df ≠ A.le := Ne.symm (ne_of_none ((S6.same sl).le) nDf)
      have nDflr : Df ≠ A.lr := Ne.symm (ne_of_none ((S6.same sl).lr) nDf)
      have nDfc : Lc ≠ Df := ne_of_none (sl _ _ c6) nDf
      have nDfr : Lr ≠ Df := ne_of_none (sl _ _ r6) nDf
      clear kl k7 nDf S6 c6 r6 eab6 eDh6 rr6 rr2 rr3 sl nDl
      obtain ⟨C, eC⟩ : ∃ C, goC gv tk hs = C := ⟨_, rfl⟩
      obtain ⟨B, eB⟩ : ∃ B, goA row room gv tk hs = B := ⟨_, rfl⟩
      rw [eC, eB] at S7 eDf
      -- what was found
      refine ⟨_, rfl, by show 2 ≤ sizeLine; omega, fun l nl => ⟨l, rfl, ⟨_, SqL.of upd_same⟩, ?_⟩⟩
      have sl := same_new (o := .lst [.str "c", .str "a"]) nl
      have el : upd H7 l (.lst [.str "c", .str "a"]) l = some (.lst [.str "c", .str "a"]) := upd_same
      generalize upd H7 l (.lst [.str "c", .str "a"]) = Hl at sl el ⊢
      refine comp_enumH (K := K) (a := l) (xs := [.str "c", .str "a"]) (fun i ys H8 => Same Hl H8 ∧ ys.length ≤ i ∧ ((i = 0 ∧ ys = []) ∨ (i = 1 ∧ ys = if C = true then [.str "c"] else []) ∨ (i = 2 ∧ ys = fdV C B))) (by show 2 ≤ sizeLine; omega) ⟨Same.refl _, by simp, .inl ⟨rfl, rfl⟩⟩ (fun i ys H8 h => h.2.1) (fun i ys H8 _ h => h.1.seq (SqL.of el)) ?_ ?_
      · rintro i x ys H8 p hx ⟨s8, hy, inv⟩ np
        have hi2 : i < 2 := (List.getElem?_eq_some_iff.mp hx).1
        have hflat : (hs.map V.str).all flatV = true := by simp [flatV]
        refine ⟨p, _, rfl, SqT.of upd_same, rfl, _, _, rfl, _, _, rfl, rfl, rfl, ?_⟩
        have s9 := s8.trans (same_new (o := .tup [.int (i : Nat), x]) np)
        have eab9 := s9 _ _ (sl _ _ eab7)
        have eDh9 := s9 _ _ (sl _ _ eDh7)
        rcases inv with ⟨rfl, rfl⟩ | ⟨rfl, rfl⟩ | ⟨rfl, _⟩
        · cases hx
          refine ⟨_, rfl, _, rfl, Lab, _, 0, _, rfl, rfl, SqL.of eab9, atI_nat (j := 0) rfl, _, rfl, ?_⟩
          by_cases h : tk < gv
          · rw [decide_eq_true h]
            refine iteT ⟨_, rfl, _, rfl, Dh, _, rfl, .inl (SqL.of eDh9), rfl, hflat, _, rfl, ?_⟩
            rw [inV_str]
            by_cases h2 : ("c" : Str) ∈ hs
            · have : C = false := by rw [← eC]; unfold goC; rw [decide_eq_true h2, Bool.not_true, Bool.and_false]
              rw [decide_eq_true h2]
              exact iteF ⟨s9, by simp, .inr (.inl ⟨rfl, by rw [this]; rfl⟩)⟩
            · have : C = true := by rw [← eC]; unfold goC; rw [decide_eq_true h, decide_eq_false h2]; rfl
              rw [decide_eq_false h2]
              exact iteT ⟨_, rfl, s9, by simp, .inr (.inl ⟨rfl, by rw [this]; rfl⟩)⟩
          · have : C = false := by rw [← eC]; unfold goC; rw [decide_eq_false h]; rfl
            rw [decide_eq_false h]
            exact iteF (iteF ⟨s9, by simp, .inr (.inl ⟨rfl, by rw [this]; rfl⟩)⟩)
        · cases hx
          have hlen1 : (if C = true then [V.str "c"] else []).length ≤ 1 := by split <;> simp
          refine ⟨_, rfl, _, rfl, Lab, _, 1, _, rfl, rfl, SqL.of eab9, atI_nat (j := 1) rfl, _, rfl, ?_⟩
          by_cases h : gv < row.length ∧ (gv : Int) - tk < room
          · rw [decide_eq_true h]
            refine iteT ⟨_, rfl, _, rfl, Dh, _, rfl, .inl (SqL.of eDh9), rfl, hflat, _, rfl, ?_⟩
            rw [inV_str]
            by_cases h2 : ("a" : Str) ∈ hs
            · have : B = false := by rw [← eB]; unfold goA; rw [decide_eq_true h2, Bool.not_true, Bool.and_false]
              rw [decide_eq_true h2]
              exact iteF ⟨s9, by omega, .inr (.inr ⟨rfl, by rw [this]; show _ = _ ++ []; rw [List.append_nil]⟩)⟩
            · have : B = true := by rw [← eB]; unfold goA; rw [decide_eq_true h, decide_eq_false h2]; rfl
              rw [decide_eq_false h2]
              exact iteT ⟨_, rfl, s9, by rw [List.length_append]; show _ + 1 ≤ 1 + 1; omega, .inr (.inr ⟨rfl, by rw [this]; rfl⟩)⟩
          · have : B = false := by rw [← eB]; unfold goA; rw [decide_eq_false h]; rfl
            rw [decide_eq_false h]
            exact iteF (iteF ⟨s9, by omega, .inr (.inr ⟨rfl, by rw [this]; show _ = _ ++ []; rw [List.append_nil]⟩)⟩)
        · omega
      rintro ys H8 ⟨s8, hy, ⟨h, _⟩ | ⟨h, _⟩ | ⟨_, rfl⟩⟩ D8 nD8
      · cases h
      · cases h
      have s9 := sl.trans (s8.trans (same_new (o := .lst (fdV C B)) nD8))
      refine ⟨_, _, .list (SqL.of (s9 _ _ eDf)) (fd_dts C B), .list (SqL.of upd_same) (fd_dts C B), fd_shaped C B, fd_shaped C B, _, rfl, ?_⟩
      rw [fd_eqv]
      refine iteF ?_
      have S9 := S7.same s9
      have c9 := s9 _ _ c7
      have r9 := s9 _ _ r7
      have eDf9 : upd H8 D8 (.lst (fdV C B)) Df = some (.lst (fdV C B)) := s9 _ _ eDf
      generalize upd H8 D8 (.lst (fdV C B)) = H9 at S9 c9 r9 eDf9 ⊢
      clear s9 s8 sl el nl nD8 hy S7 c7 r7 eab7 eDh7 eDf
      -- the counts
      obtain ⟨tk', etk⟩ : ∃ tk', tk + (if C = true then 1 else 0) = tk' := ⟨_, rfl⟩
      obtain ⟨gv', egv⟩ : ∃ gv', gv + (if B = true then 1 else 0) = gv' := ⟨_, rfl⟩
      rw [etk, egv] at S9
      unfold tNext
      dsimp only
      refine asg_new (fun v H' => v = .int (tk' : Nat) ∧ H9 = H') (fun Q' q => ?_) ?_
      · refine ⟨_, rfl, _, rfl, Df, _, rfl, .inl (SqL.of eDf9), rfl, fd_flat C B, .inr ⟨_, rfl, _, _, rfl, rfl, ?_⟩⟩
        refine q _ _ ⟨?_, rfl⟩
        show V.int ((tk : Int) + (if inV (.str "c") (fdV C B) = true then 1 else 0)) = V.int (tk' : Int)
        rw [fd_c, ← etk]
        congr 1
        split <;> omega
      rintro _ _ ⟨rfl, rfl⟩
      refine asg_new (fun v H' => v = .int (gv' : Nat) ∧ H9 = H') (fun Q' q => ?_) ?_
      · refine ⟨_, rfl, _, rfl, Df, _, rfl, .inl (SqL.of eDf9), rfl, fd_flat C B, .inr ⟨_, rfl, _, _, rfl, rfl, ?_⟩⟩
        refine q _ _ ⟨?_, rfl⟩
        show V.int ((gv : Int) + (if inV (.str "a") (fdV C B) = true then 1 else 0)) = V.int (gv' : Int)
        rw [fd_a, ← egv]
        congr 1
        split <;> omega
      rintro _ _ ⟨rfl, rfl⟩
      clear etk egv eC eB
      obtain ⟨dx, fs, rr1, rr2, rr3⟩ := S9.run
      obtain ⟨d1, d2, d3, d4, d5, d6, d7, d8⟩ := S9.nb
      refine ⟨_, rfl, A.r, dx, fs, rfl, rr1, rr3.no _ (by decide +kernel), A, room, row, many, gv', tk', j + 1, "a", rfl, S9, .inr ⟨rfl, fun H10 s10 => ?_⟩⟩
      refine ⟨_, rfl, _, rfl, _, _, rfl, rfl, _, _, rfl, ?_⟩
      rw [show decide (((gv' - many : Nat) : Int) = (gv' : Int) - (many : Int)) = true from decide_eq_true (by omega)]
      refine ⟨_, rfl, iteF ?_⟩
      refine ⟨_, rfl, _, rfl, _, rfl, _, rfl, _, rfl, _, _, rfl, rfl, A, room, row, many, gv', tk', j + 1, Lr, rfl, S9.same s10, SqL.of (s10 _ _ r9), fun H11 s11 => ?_⟩
      refine ⟨_, rfl, iteF ?_⟩
      have s12 := s10.trans s11
      have S12 := S9.same s12
      have c12 := s12 _ _ c9
      have r12 := s12 _ _ r9
      have eDf12 := s12 _ _ eDf9
      clear s12 s10 s11 S9 c9 r9 eDf9 rr1 rr2 rr3
      -- what was told is changed
      refine ⟨_, rfl, .inl ⟨rfl, _, SqL.of eDf12⟩, Df, _, .str "a", rfl, rfl, eDf12, ?_, ?_⟩
      · have := fd_len C B
        omega
      have S13 := S12.poke (ys := fdV C B ++ [.str "a"]) eDf12 nDfle nDflr
      have c13 : upd H11 Df (.lst (fdV C B ++ [.str "a"])) Lc = some (.lst (cl.map V.int)) := by rw [upd_ne nDfc]; exact c12
      have r13 : upd H11 Df (.lst (fdV C B ++ [.str "a"])) Lr = some (.lst (row.map V.int)) := by rw [upd_ne nDfr]; exact r12
      generalize upd H11 Df (.lst (fdV C B ++ [.str "a"])) = H13' at S13 c13 r13 ⊢
      clear S12 c12 r12 eDf12
      obtain ⟨dx, fs, rr1, rr2, rr3⟩ := S13.run
      refine ⟨_, rfl, A.r, dx, fs, rfl, rr1, rr3.no _ (by decide +kernel), A, room, row, many, gv', tk', j + 1, rfl, S13, fun Ha qa sa na ea => ?_⟩
      refine ⟨_, rfl, A.r, dx, fs, rfl, sa _ _ rr1, rr3.no _ (by decide +kernel), A, room, row, many, gv', tk', j + 1, rfl, S13.same sa, fun Hb qb sb' nb' eb => ?_⟩
      have sb := sa.trans sb'
      refine ⟨_, rfl, A.r, dx, fs, rfl, sb _ _ rr1, rr3.no _ (by decide +kernel), A, room, row, many, gv', tk', j + 1, rfl, S13.same sb, fun Hc qc sc' nc' ec => ?_⟩
      have sc2 := sb.trans sc'
      refine ⟨_, rfl, A.r, dx, fs, rfl, sc2 _ _ rr1, rr3.no _ (by decide +kernel), A, room, row, many, gv', tk', j + 1, rfl, S13.same sc2, fun Hd dd qd sd' nd1 nd2 ed1 ed2 => ?_⟩
      have sd := sc2.trans sd'
      refine ⟨dd, .ref qd, rfl, (by rw [← val_ka (.ref qd)]; exact DGet.k (k := Sum.inr "a") ed1), by show 4 ≤ sizeLine; omega, fun Lt nLt => ?_⟩
      have st := sd.trans (same_new (o := .lst [.ref qa, .ref qb, .ref qc, .ref qd]) nLt)
      have t0 := same_new (o := .lst [.ref qa, .ref qb, .ref qc, .ref qd]) nLt
      have eLt : upd Hd Lt (.lst [.ref qa, .ref qb, .ref qc, .ref qd]) Lt = some (.lst [.ref qa, .ref qb, .ref qc, .ref qd]) := upd_same
      have lst4 : ∀ z ∈ [qa, qb, qc, qd], (z ≠ A.le ∧ z ≠ A.lr ∧ z ≠ Lc ∧ z ≠ Lr ∧ z ≠ Lt) ∧ ∃ ys, upd Hd Lt (.lst [.ref qa, .ref qb, .ref qc, .ref qd]) z = some (.lst ys) ∧ ys.length ≤ 200 := by
        intro z hz
        simp only [List.mem_cons, List.not_mem_nil, or_false] at hz
        rcases hz with rfl | rfl | rfl | rfl
        · exact ⟨⟨Ne.symm (ne_of_none S13.le na), Ne.symm (ne_of_none S13.lr na), Ne.symm (ne_of_none c13 na), Ne.symm (ne_of_none r13 na), ne_of_none (sd' _ _ (sc' _ _ (sb' _ _ ea))) nLt⟩, _, t0 _ _ (sd' _ _ (sc' _ _ (sb' _ _ ea))), by rw [List.length_map, List.length_take]; omega⟩
        · exact ⟨⟨Ne.symm (ne_of_none (sa _ _ S13.le) nb'), Ne.symm (ne_of_none (sa _ _ S13.lr) nb'), Ne.symm (ne_of_none (sa _ _ c13) nb'), Ne.symm (ne_of_none (sa _ _ r13) nb'), ne_of_none (sd' _ _ (sc' _ _ eb)) nLt⟩, _, t0 _ _ (sd' _ _ (sc' _ _ eb)), by rw [List.length_map, List.length_drop, List.length_take]; omega⟩
        · exact ⟨⟨Ne.symm (ne_of_none (sb _ _ S13.le) nc'), Ne.symm (ne_of_none (sb _ _ S13.lr) nc'), Ne.symm (ne_of_none (sb _ _ c13) nc'), Ne.symm (ne_of_none (sb _ _ r13) nc'), ne_of_none (sd' _ _ ec) nLt⟩, _, t0 _ _ (sd' _ _ ec), by rw [List.length_map, List.length_take]; omega⟩
        · exact ⟨⟨Ne.symm (ne_of_none (sc2 _ _ S13.le) nd2), Ne.symm (ne_of_none (sc2 _ _ S13.lr) nd2), Ne.symm (ne_of_none (sc2 _ _ c13) nd2), Ne.symm (ne_of_none (sc2 _ _ r13) nd2), ne_of_none ed2 nLt⟩, _, t0 _ _ ed2, by rw [List.length_map, List.length_drop]; omega⟩
      have S14 := S13.same st
      have c14 := st _ _ c13
      have r14 := st _ _ r13
      generalize upd Hd Lt (.lst [.ref qa, .ref qb, .ref qc, .ref qd]) = H14 at S14 c14 r14 eLt lst4 ⊢
      refine ⟨Lt, rfl, ⟨_, SqL.of eLt⟩, for_list (K := K) (a := Lt) (xs := [.ref qa, .ref qb, .ref qc, .ref qd]) (fun i σ H15 => StAt K t H15 A room row many gv' tk' (j + 1) ∧ H15 Lc = some (.lst (cl.map V.int)) ∧ H15 Lr = some (.lst (row.map V.int)) ∧ H15 Lt = some (.lst [.ref qa, .ref qb, .ref qc, .ref qd]) ∧ (∀ z ∈ [qa, qb, qc, qd], ∃ ys, H15 z = some (.lst ys) ∧ ys.length ≤ 200 + i) ∧ ∃ v10 v11 v12 v13 v14 v15, σ = [some (.ref a), some (.int room), some (.int (many : Nat)), some (.ref Lc), some (.ref Lr), some (.ref d), some (.ref Lp), some (.ref A.r), some (.int (gv' : Nat)), some (.int (tk' : Nat)), v10, v11, v12, v13, v14, v15]) ⟨S14, c14, r14, eLt, fun z hz => by obtain ⟨_, ys, e, h⟩ := lst4 z hz; exact ⟨ys, e, h⟩, _, _, _, _, _, _, rfl⟩ (fun i σ H15 _ h => SqL.of h.2.2.2.1) ?_ ?_⟩
      · rintro i x σ H15 hx ⟨S15, c15, r15, t15, l15, v10, v11, v12, v13, v14, v15, rfl⟩
        have hi4 : i < 4 := (List.getElem?_eq_some_iff.mp hx).1
        obtain ⟨z, rfl, hz⟩ : ∃ z, x = .ref z ∧ z ∈ [qa, qb, qc, qd] := by
          have := List.mem_of_getElem? hx
          have e : ([.ref qa, .ref qb, .ref qc, .ref qd] : List V) = [qa, qb, qc, qd].map V.ref := rfl
          rw [e] at this
          obtain ⟨z, hz, rfl⟩ := List.mem_map.mp this
          exact ⟨z, rfl, hz⟩
        obtain ⟨⟨m1', m2', m3', m4', m5'⟩, _⟩ := lst4 z hz
        obtain ⟨ys, ez, hzl⟩ := l15 z hz
        refine ⟨_, rfl, .inl ⟨rfl, _, SqL.of ez⟩, z, ys, .int 1, rfl, rfl, ez, by omega, ?_⟩
        refine ⟨S15.poke ez m1' m2', by rw [upd_ne (Ne.symm m3')]; exact c15, by rw [upd_ne (Ne.symm m4')]; exact r15, by rw [upd_ne (Ne.symm m5')]; exact t15, fun z' hz' => ?_, _, _, _, _, _, _, rfl⟩
        by_cases h : z' = z
        · subst h
          exact ⟨_, upd_same, by rw [List.length_append]; show _ + 1 ≤ _; omega⟩
        · obtain ⟨ys', e', h'⟩ := l15 z' hz'
          exact ⟨ys', by rw [upd_ne h]; exact e', by omega⟩
      · rintro σ H15 ⟨S15, c15, r15, t15, l15, v10, v11, v12, v13, v14, v15, rfl⟩
        exact ⟨gv', tk', S15, c15, r15, _, _, _, _, _, _, rfl⟩
    rintro σ H' ⟨gv, tk, S, ec', er', v10, v11, v12, v13, v14, v15, rfl⟩
    rw [List.length_map] at S
    exact ⟨_, rfl, _, rfl, _, rfl, _, rfl, _, rfl, .ref Lc, cl.length, rfl, .inl ⟨_, SqL.of ec', by simp⟩, A, room, row, many, gv, tk, cl.length, Lr, rfl, S, SqL.of er', fun H'' _ => k _⟩
end
theorem all_mk {l : PySem.W.OpenLaw} {w : World} {K : PySem.W.Frag} {h : Heap} {mg : Str → Option Value} {fa : Addr} (X : K.In h) (G : h.Ns mainGlobals mg) (hfa : mg "law" = some (.ref fa))
    {f0 : Addr} {od0 an0 : Option Addr} {sl0 : Array (Option Value)} {oc0 kV0 dc0 pm0 cd0 ct0 : Value}
    {f1 : Addr} {od1 an1 : Option Addr} {sl1 : Array (Option Value)} {oc1 kV1 dc1 pm1 cd1 ct1 : Value}
    {f2 : Addr} {od2 an2 : Option Addr} {sl2 : Array (Option Value)} {oc2 kV2 dc2 pm2 cd2 ct2 : Value}
    {f3 : Addr} {od3 an3 : Option Addr} {sl3 : Array (Option Value)} {oc3 kV3 dc3 pm3 cd3 ct3 : Value}
    {f4 : Addr} {od4 an4 : Option Addr} {sl4 : Array (Option Value)} {oc4 kV4 dc4 pm4 cd4 ct4 : Value}
    {f5 : Addr} {od5 an5 : Option Addr} {sl5 : Array (Option Value)} {oc5 kV5 dc5 pm5 cd5 ct5 : Value}
    {f6 : Addr} {od6 an6 : Option Addr} {sl6 : Array (Option Value)} {oc6 kV6 dc6 pm6 cd6 ct6 : Value}
    {f7 : Addr} {od7 an7 : Option Addr} {sl7 : Array (Option Value)} {oc7 kV7 dc7 pm7 cd7 ct7 : Value}
    {f8 : Addr} {od8 an8 : Option Addr} {sl8 : Array (Option Value)} {oc8 kV8 dc8 pm8 cd8 ct8 : Value}
    {f9 : Addr} {od9 an9 : Option Addr} {sl9 : Array (Option Value)} {oc9 kV9 dc9 pm9 cd9 ct9 : Value}
    {f10 : Addr} {od10 an10 : Option Addr} {sl10 : Array (Option Value)} {oc10 kV10 dc10 pm10 cd10 ct10 : Value}
    {f11 : Addr} {od11 an11 : Option Addr} {sl11 : Array (Option Value)} {oc11 kV11 dc11 pm11 cd11 ct11 : Value}
    {f12 : Addr} {od12 an12 : Option Addr} {sl12 : Array (Option Value)} {oc12 kV12 dc12 pm12 cd12 ct12 : Value}
    {f13 : Addr} {od13 an13 : Option Addr} {sl13 : Array (Option Value)} {oc13 kV13 dc13 pm13 cd13 ct13 : Value}
    {f14 : Addr} {od14 an14 : Option Addr} {sl14 : Array (Option Value)} {oc14 kV14 dc14 pm14 cd14 ct14 : Value}
    {f15 : Addr} {od15 an15 : Option Addr} {sl15 : Array (Option Value)} {oc15 kV15 dc15 pm15 cd15 ct15 : Value}
    {f16 : Addr} {od16 an16 : Option Addr} {sl16 : Array (Option Value)} {oc16 kV16 dc16 pm16 cd16 ct16 : Value}
    {f17 : Addr} {od17 an17 : Option Addr} {sl17 : Array (Option Value)} {oc17 kV17 dc17 pm17 cd17 ct17 : Value}
    {f18 : Addr} {od18 an18 : Option Addr} {sl18 : Array (Option Value)} {oc18 kV18 dc18 pm18 cd18 ct18 : Value}
    {f19 : Addr} {od19 an19 : Option Addr} {sl19 : Array (Option Value)} {oc19 kV19 dc19 pm19 cd19 ct19 : Value}
    {f20 : Addr} {od20 an20 : Option Addr} {sl20 : Array (Option Value)} {oc20 kV20 dc20 pm20 cd20 ct20 : Value}
    {f21 : Addr} {od21 an21 : Option Addr} {sl21 : Array (Option Value)} {oc21 kV21 dc21 pm21 cd21 ct21 : Value}
    {f22 : Addr} {od22 an22 : Option Addr} {sl22 : Array (Option Value)} {oc22 kV22 dc22 pm22 cd22 ct22 : Value}
    {f23 : Addr} {od23 an23 : Option Addr} {sl23 : Array (Option Value)} {oc23 kV23 dc23 pm23 cd23 ct23 : Value}
    {f24 : Addr} {od24 an24 : Option Addr} {sl24 : Array (Option Value)} {oc24 kV24 dc24 pm24 cd24 ct24 : Value}
    {f25 : Addr} {od25 an25 : Option Addr} {sl25 : Array (Option Value)} {oc25 kV25 dc25 pm25 cd25 ct25 : Value}
    {f26 : Addr} {od26 an26 : Option Addr} {sl26 : Array (Option Value)} {oc26 kV26 dc26 pm26 cd26 ct26 : Value}
    {f27 : Addr} {od27 an27 : Option Addr} {sl27 : Array (Option Value)} {oc27 kV27 dc27 pm27 cd27 ct27 : Value}
    {f28 : Addr} {od28 an28 : Option Addr} {sl28 : Array (Option Value)} {oc28 kV28 dc28 pm28 cd28 ct28 : Value}
    {f29 : Addr} {od29 an29 : Option Addr} {sl29 : Array (Option Value)} {oc29 kV29 dc29 pm29 cd29 ct29 : Value}
    {f30 : Addr} {od30 an30 : Option Addr} {sl30 : Array (Option Value)} {oc30 kV30 dc30 pm30 cd30 ct30 : Value}
    {f31 : Addr} {od31 an31 : Option Addr} {sl31 : Array (Option Value)} {oc31 kV31 dc31 pm31 cd31 ct31 : Value}
    {f32 : Addr} {od32 an32 : Option Addr} {sl32 : Array (Option Value)} {oc32 kV32 dc32 pm32 cd32 ct32 : Value}
    {f33 : Addr} {od33 an33 : Option Addr} {sl33 : Array (Option Value)} {oc33 kV33 dc33 pm33 cd33 ct33 : Value}
    {f34 : Addr} {od34 an34 : Option Addr} {sl34 : Array (Option Value)} {oc34 kV34 dc34 pm34 cd34 ct34 : Value}
    {f35 : Addr} {od35 an35 : Option Addr} {sl35 : Array (Option Value)} {oc35 kV35 dc35 pm35 cd35 ct35 : Value}
    {f36 : Addr} {od36 an36 : Option Addr} {sl36 : Array (Option Value)} {oc36 kV36 dc36 pm36 cd36 ct36 : Value}
    {f37 : Addr} {od37 an37 : Option Addr} {sl37 : Array (Option Value)} {oc37 kV37 dc37 pm37 cd37 ct37 : Value}
    {f38 : Addr} {od38 an38 : Option Addr} {sl38 : Array (Option Value)} {oc38 kV38 dc38 pm38 cd38 ct38 : Value}
    {f39 : Addr} {od39 an39 : Option Addr} {sl39 : Array (Option Value)} {oc39 kV39 dc39 pm39 cd39 ct39 : Value}
    {f40 : Addr} {od40 an40 : Option Addr} {sl40 : Array (Option Value)} {oc40 kV40 dc40 pm40 cd40 ct40 : Value}
    {f41 : Addr} {od41 an41 : Option Addr} {sl41 : Array (Option Value)} {oc41 kV41 dc41 pm41 cd41 ct41 : Value}
    {f42 : Addr} {od42 an42 : Option Addr} {sl42 : Array (Option Value)} {oc42 kV42 dc42 pm42 cd42 ct42 : Value}
    {f43 : Addr} {od43 an43 : Option Addr} {sl43 : Array (Option Value)} {oc43 kV43 dc43 pm43 cd43 ct43 : Value}
    {f44 : Addr} {od44 an44 : Option Addr} {sl44 : Array (Option Value)} {oc44 kV44 dc44 pm44 cd44 ct44 : Value}
    {f45 : Addr} {od45 an45 : Option Addr} {sl45 : Array (Option Value)} {oc45 kV45 dc45 pm45 cd45 ct45 : Value} {T45 : Addr} {oe45 : Value} {of45 : Option Addr} {en45 : Nat} {os45 : Array (Option Value)}
    {f46 : Addr} {od46 an46 : Option Addr} {sl46 : Array (Option Value)} {oc46 kV46 dc46 pm46 cd46 ct46 : Value}
    {f47 : Addr} {od47 an47 : Option Addr} {sl47 : Array (Option Value)} {oc47 kV47 dc47 pm47 cd47 ct47 : Value}
    {f48 : Addr} {od48 an48 : Option Addr} {sl48 : Array (Option Value)} {oc48 kV48 dc48 pm48 cd48 ct48 : Value}
    {f49 : Addr} {od49 an49 : Option Addr} {sl49 : Array (Option Value)} {oc49 kV49 dc49 pm49 cd49 ct49 : Value}
    {f50 : Addr} {od50 an50 : Option Addr} {sl50 : Array (Option Value)} {oc50 kV50 dc50 pm50 cd50 ct50 : Value}
    {f51 : Addr} {od51 an51 : Option Addr} {sl51 : Array (Option Value)} {oc51 kV51 dc51 pm51 cd51 ct51 : Value}
    {f52 : Addr} {od52 an52 : Option Addr} {sl52 : Array (Option Value)} {oc52 kV52 dc52 pm52 cd52 ct52 : Value}
    {f53 : Addr} {od53 an53 : Option Addr} {sl53 : Array (Option Value)} {oc53 kV53 dc53 pm53 cd53 ct53 : Value}
    {f54 : Addr} {od54 an54 : Option Addr} {sl54 : Array (Option Value)} {oc54 kV54 dc54 pm54 cd54 ct54 : Value}
    {f55 : Addr} {od55 an55 : Option Addr} {sl55 : Array (Option Value)} {oc55 kV55 dc55 pm55 cd55 ct55 : Value}
    {f56 : Addr} {od56 an56 : Option Addr} {sl56 : Array (Option Value)} {oc56 kV56 dc56 pm56 cd56 ct56 : Value}
    {f57 : Addr} {od57 an57 : Option Addr} {sl57 : Array (Option Value)} {oc57 kV57 dc57 pm57 cd57 ct57 : Value}
    {f58 : Addr} {od58 an58 : Option Addr} {sl58 : Array (Option Value)} {oc58 kV58 dc58 pm58 cd58 ct58 : Value}
    {f59 : Addr} {od59 an59 : Option Addr} {sl59 : Array (Option Value)} {oc59 kV59 dc59 pm59 cd59 ct59 : Value}
    {f60 : Addr} {od60 an60 : Option Addr} {sl60 : Array (Option Value)} {oc60 kV60 dc60 pm60 cd60 ct60 : Value}
    {f61 : Addr} {od61 an61 : Option Addr} {sl61 : Array (Option Value)} {oc61 kV61 dc61 pm61 cd61 ct61 : Value}
    {f62 : Addr} {od62 an62 : Option Addr} {sl62 : Array (Option Value)} {oc62 kV62 dc62 pm62 cd62 ct62 : Value}
    {f63 : Addr} {od63 an63 : Option Addr} {sl63 : Array (Option Value)} {oc63 kV63 dc63 pm63 cd63 ct63 : Value}
    {f64 : Addr} {od64 an64 : Option Addr} {sl64 : Array (Option Value)} {oc64 kV64 dc64 pm64 cd64 ct64 : Value}
    {f65 : Addr} {od65 an65 : Option Addr} {sl65 : Array (Option Value)} {oc65 kV65 dc65 pm65 cd65 ct65 : Value}
    {C_Give : Addr}
    {C_Take : Addr}
    {C_Net : Addr}
    {C_Flow : Addr}
    {C_Run : Addr}
    {u_VALUES : Value}
    {u_LETTERS : Value}
    {u_LONGEST_NAME : Value}
    {u_FIGURES : Value}
    {u_MOST_LANES : Value}
    {u_MOST_PARTS : Value}
    {u_MOST_ROOM : Value}
    {u_LONGEST_ROW : Value}
    {o_COUNTS : Addr}
    (aC_Give : PySem.W.nsIn K mainGlobals "Give" = some (some (.ref C_Give)))
    (pg_Give : PySem.W.plainGet K C_Give Str.empty = true)
    (hd_Give : PySem.W.hasDictIn K C_Give = true)
    (po_Give : PySem.W.plainOver K C_Give = true)
    (sa_Give : PySem.W.findIn K (.ref C_Give) "__setattr__" = some (some (.builtin "object.__setattr__")))
    (mk_Give : PySem.W.makesIn K C_Give = true)
    (kc_Give : PySem.W.keepIn K (.ref C_Give) = true)
    (fm_Give___init__ : PySem.W.findIn K (.ref C_Give) "__init__" = some (some (.ref f3)))
    (fm_Give_kind : PySem.W.findIn K (.ref C_Give) "kind" = some (some (.ref f4)))
    (fm_Give_taking : PySem.W.findIn K (.ref C_Give) "taking" = some (some (.ref f6)))
    (fm_Give_lacks : PySem.W.findIn K (.ref C_Give) "lacks" = some (some (.ref f7)))
    (fm_Give_worked : PySem.W.findIn K (.ref C_Give) "worked" = some (some (.ref f8)))
    (fm_Give_start : PySem.W.findIn K (.ref C_Give) "start" = some (some (.ref f55)))
    (na_Give_name : PySem.W.findIn K (.ref C_Give) "name" = some none)
    (na_Give_numbers : PySem.W.findIn K (.ref C_Give) "numbers" = some none)
    (na_Give_ins : PySem.W.findIn K (.ref C_Give) "ins" = some none)
    (na_Give_outs : PySem.W.findIn K (.ref C_Give) "outs" = some none)
    (aC_Take : PySem.W.nsIn K mainGlobals "Take" = some (some (.ref C_Take)))
    (pg_Take : PySem.W.plainGet K C_Take Str.empty = true)
    (hd_Take : PySem.W.hasDictIn K C_Take = true)
    (po_Take : PySem.W.plainOver K C_Take = true)
    (sa_Take : PySem.W.findIn K (.ref C_Take) "__setattr__" = some (some (.builtin "object.__setattr__")))
    (mk_Take : PySem.W.makesIn K C_Take = true)
    (kc_Take : PySem.W.keepIn K (.ref C_Take) = true)
    (fm_Take___init__ : PySem.W.findIn K (.ref C_Take) "__init__" = some (some (.ref f3)))
    (fm_Take_kind : PySem.W.findIn K (.ref C_Take) "kind" = some (some (.ref f5)))
    (fm_Take_taking : PySem.W.findIn K (.ref C_Take) "taking" = some (some (.ref f6)))
    (fm_Take_lacks : PySem.W.findIn K (.ref C_Take) "lacks" = some (some (.ref f7)))
    (fm_Take_worked : PySem.W.findIn K (.ref C_Take) "worked" = some (some (.ref f9)))
    (fm_Take_start : PySem.W.findIn K (.ref C_Take) "start" = some (some (.ref f55)))
    (na_Take_name : PySem.W.findIn K (.ref C_Take) "name" = some none)
    (na_Take_numbers : PySem.W.findIn K (.ref C_Take) "numbers" = some none)
    (na_Take_ins : PySem.W.findIn K (.ref C_Take) "ins" = some none)
    (na_Take_outs : PySem.W.findIn K (.ref C_Take) "outs" = some none)
    (aC_Net : PySem.W.nsIn K mainGlobals "Net" = some (some (.ref C_Net)))
    (pg_Net : PySem.W.plainGet K C_Net Str.empty = true)
    (hd_Net : PySem.W.hasDictIn K C_Net = true)
    (po_Net : PySem.W.plainOver K C_Net = true)
    (sa_Net : PySem.W.findIn K (.ref C_Net) "__setattr__" = some (some (.builtin "object.__setattr__")))
    (mk_Net : PySem.W.makesIn K C_Net = true)
    (kc_Net : PySem.W.keepIn K (.ref C_Net) = true)
    (fm_Net___init__ : PySem.W.findIn K (.ref C_Net) "__init__" = some (some (.ref f56)))
    (fm_Net_lane_names : PySem.W.findIn K (.ref C_Net) "lane_names" = some (some (.ref f16)))
    (fm_Net_part_names : PySem.W.findIn K (.ref C_Net) "part_names" = some (some (.ref f17)))
    (fm_Net_need_lane_name : PySem.W.findIn K (.ref C_Net) "need_lane_name" = some (some (.ref f18)))
    (fm_Net_room_of : PySem.W.findIn K (.ref C_Net) "room_of" = some (some (.ref f19)))
    (fm_Net_first_of : PySem.W.findIn K (.ref C_Net) "first_of" = some (some (.ref f20)))
    (fm_Net_part_of : PySem.W.findIn K (.ref C_Net) "part_of" = some (some (.ref f21)))
    (fm_Net_names_of_kind : PySem.W.findIn K (.ref C_Net) "names_of_kind" = some (some (.ref f22)))
    (fm_Net_gives : PySem.W.findIn K (.ref C_Net) "gives" = some (some (.ref f23)))
    (fm_Net_takes : PySem.W.findIn K (.ref C_Net) "takes" = some (some (.ref f24)))
    (na_Net_rooms : PySem.W.findIn K (.ref C_Net) "rooms" = some none)
    (na_Net_firsts : PySem.W.findIn K (.ref C_Net) "firsts" = some none)
    (na_Net_parts : PySem.W.findIn K (.ref C_Net) "parts" = some none)
    (na_Net_givers : PySem.W.findIn K (.ref C_Net) "givers" = some none)
    (na_Net_takers : PySem.W.findIn K (.ref C_Net) "takers" = some none)
    (aC_Flow : PySem.W.nsIn K mainGlobals "Flow" = some (some (.ref C_Flow)))
    (pg_Flow : PySem.W.plainGet K C_Flow Str.empty = true)
    (hd_Flow : PySem.W.hasDictIn K C_Flow = true)
    (po_Flow : PySem.W.plainOver K C_Flow = true)
    (sa_Flow : PySem.W.findIn K (.ref C_Flow) "__setattr__" = some (some (.builtin "object.__setattr__")))
    (mk_Flow : PySem.W.makesIn K C_Flow = true)
    (kc_Flow : PySem.W.keepIn K (.ref C_Flow) = true)
    (fm_Flow___init__ : PySem.W.findIn K (.ref C_Flow) "__init__" = some (some (.ref f57)))
    (fm_Flow_holds : PySem.W.findIn K (.ref C_Flow) "holds" = some (some (.ref f25)))
    (fm_Flow_held_now : PySem.W.findIn K (.ref C_Flow) "held_now" = some (some (.ref f26)))
    (fm_Flow_gone_by : PySem.W.findIn K (.ref C_Flow) "gone_by" = some (some (.ref f27)))
    (fm_Flow_row_left : PySem.W.findIn K (.ref C_Flow) "row_left" = some (some (.ref f28)))
    (fm_Flow_head : PySem.W.findIn K (.ref C_Flow) "head" = some (some (.ref f29)))
    (fm_Flow_row_ended : PySem.W.findIn K (.ref C_Flow) "row_ended" = some (some (.ref f30)))
    (fm_Flow_heads : PySem.W.findIn K (.ref C_Flow) "heads" = some (some (.ref f31)))
    (fm_Flow_lacking : PySem.W.findIn K (.ref C_Flow) "lacking" = some (some (.ref f32)))
    (fm_Flow_deed : PySem.W.findIn K (.ref C_Flow) "deed" = some (some (.ref f33)))
    (fm_Flow_do : PySem.W.findIn K (.ref C_Flow) "do" = some (some (.ref f34)))
    (na_Flow_net : PySem.W.findIn K (.ref C_Flow) "net" = some none)
    (na_Flow_ever : PySem.W.findIn K (.ref C_Flow) "ever" = some none)
    (na_Flow_gone : PySem.W.findIn K (.ref C_Flow) "gone" = some none)
    (na_Flow_kept : PySem.W.findIn K (.ref C_Flow) "kept" = some none)
    (na_Flow_done : PySem.W.findIn K (.ref C_Flow) "done" = some none)
    (na_Flow_rows : PySem.W.findIn K (.ref C_Flow) "rows" = some none)
    (aC_Run : PySem.W.nsIn K mainGlobals "Run" = some (some (.ref C_Run)))
    (pg_Run : PySem.W.plainGet K C_Run Str.empty = true)
    (hd_Run : PySem.W.hasDictIn K C_Run = true)
    (po_Run : PySem.W.plainOver K C_Run = true)
    (sa_Run : PySem.W.findIn K (.ref C_Run) "__setattr__" = some (some (.builtin "object.__setattr__")))
    (mk_Run : PySem.W.makesIn K C_Run = true)
    (kc_Run : PySem.W.keepIn K (.ref C_Run) = true)
    (fm_Run___init__ : PySem.W.findIn K (.ref C_Run) "__init__" = some (some (.ref f60)))
    (fm_Run_step : PySem.W.findIn K (.ref C_Run) "step" = some (some (.ref f45)))
    (fm_Run_need_doors : PySem.W.findIn K (.ref C_Run) "need_doors" = some (some (.ref f44)))
    (fm_Run_next_deed : PySem.W.findIn K (.ref C_Run) "next_deed" = some (some (.ref f36)))
    (fm_Run_full_lane : PySem.W.findIn K (.ref C_Run) "full_lane" = some (some (.ref f35)))
    (fm_Run_can_work : PySem.W.findIn K (.ref C_Run) "can_work" = some (some (.ref f37)))
    (fm_Run_works : PySem.W.findIn K (.ref C_Run) "works" = some (some (.ref f38)))
    (fm_Run_taken : PySem.W.findIn K (.ref C_Run) "taken" = some (some (.ref f39)))
    (fm_Run_lane_now : PySem.W.findIn K (.ref C_Run) "lane_now" = some (some (.ref f40)))
    (fm_Run_had : PySem.W.findIn K (.ref C_Run) "had" = some (some (.ref f41)))
    (fm_Run_turn : PySem.W.findIn K (.ref C_Run) "turn" = some (some (.ref f42)))
    (fm_Run_rows_left : PySem.W.findIn K (.ref C_Run) "rows_left" = some (some (.ref f43)))
    (na_Run_net : PySem.W.findIn K (.ref C_Run) "net" = some none)
    (na_Run_flow : PySem.W.findIn K (.ref C_Run) "flow" = some none)
    (na_Run_turns : PySem.W.findIn K (.ref C_Run) "turns" = some none)
    (a0 : PySem.W.nsIn K mainGlobals "is_whole" = some (some (.ref f0)))
    (l0 : K.lookup f0 = some ⟨oc0, od0, .func (PySem.W.fnOf "is_whole" "is_whole" (defArgs s_is_whole) (defBody s_is_whole) (defScope s_is_whole) .none kV0 dc0 pm0 an0 cd0 ct0), sl0⟩)
    (c0 : PySem.W.codeIn K cd0 "is_whole" = true)
    (k0 : PySem.W.keepIn K (.ref f0) = true)
    (a1 : PySem.W.nsIn K mainGlobals "is_value" = some (some (.ref f1)))
    (l1 : K.lookup f1 = some ⟨oc1, od1, .func (PySem.W.fnOf "is_value" "is_value" (defArgs s_is_value) (defBody s_is_value) (defScope s_is_value) .none kV1 dc1 pm1 an1 cd1 ct1), sl1⟩)
    (c1 : PySem.W.codeIn K cd1 "is_value" = true)
    (k1 : PySem.W.keepIn K (.ref f1) = true)
    (a2 : PySem.W.nsIn K mainGlobals "rest" = some (some (.ref f2)))
    (l2 : K.lookup f2 = some ⟨oc2, od2, .func (PySem.W.fnOf "rest" "rest" (defArgs s_rest) (defBody s_rest) (defScope s_rest) .none kV2 dc2 pm2 an2 cd2 ct2), sl2⟩)
    (c2 : PySem.W.codeIn K cd2 "rest" = true)
    (k2 : PySem.W.keepIn K (.ref f2) = true)
    (i3 : PySem.W.isFn K (.ref f3) = true)
    (l3 : K.lookup f3 = some ⟨oc3, od3, .func (PySem.W.fnOf "__init__" "Part.__init__" (defArgs s_Part___init__) (defBody s_Part___init__) (defScope s_Part___init__) .none kV3 dc3 pm3 an3 cd3 ct3), sl3⟩)
    (c3 : PySem.W.codeIn K cd3 "Part.__init__" = true)
    (k3 : PySem.W.keepIn K (.ref f3) = true)
    (i4 : PySem.W.isFn K (.ref f4) = true)
    (l4 : K.lookup f4 = some ⟨oc4, od4, .func (PySem.W.fnOf "kind" "Give.kind" (defArgs s_Give_kind) (defBody s_Give_kind) (defScope s_Give_kind) .none kV4 dc4 pm4 an4 cd4 ct4), sl4⟩)
    (c4 : PySem.W.codeIn K cd4 "Give.kind" = true)
    (k4 : PySem.W.keepIn K (.ref f4) = true)
    (i5 : PySem.W.isFn K (.ref f5) = true)
    (l5 : K.lookup f5 = some ⟨oc5, od5, .func (PySem.W.fnOf "kind" "Take.kind" (defArgs s_Take_kind) (defBody s_Take_kind) (defScope s_Take_kind) .none kV5 dc5 pm5 an5 cd5 ct5), sl5⟩)
    (c5 : PySem.W.codeIn K cd5 "Take.kind" = true)
    (k5 : PySem.W.keepIn K (.ref f5) = true)
    (i6 : PySem.W.isFn K (.ref f6) = true)
    (l6 : K.lookup f6 = some ⟨oc6, od6, .func (PySem.W.fnOf "taking" "Part.taking" (defArgs s_Part_taking) (defBody s_Part_taking) (defScope s_Part_taking) .none kV6 dc6 pm6 an6 cd6 ct6), sl6⟩)
    (c6 : PySem.W.codeIn K cd6 "Part.taking" = true)
    (k6 : PySem.W.keepIn K (.ref f6) = true)
    (i7 : PySem.W.isFn K (.ref f7) = true)
    (l7 : K.lookup f7 = some ⟨oc7, od7, .func (PySem.W.fnOf "lacks" "Part.lacks" (defArgs s_Part_lacks) (defBody s_Part_lacks) (defScope s_Part_lacks) .none kV7 dc7 pm7 an7 cd7 ct7), sl7⟩)
    (c7 : PySem.W.codeIn K cd7 "Part.lacks" = true)
    (k7 : PySem.W.keepIn K (.ref f7) = true)
    (i8 : PySem.W.isFn K (.ref f8) = true)
    (l8 : K.lookup f8 = some ⟨oc8, od8, .func (PySem.W.fnOf "worked" "Give.worked" (defArgs s_Give_worked) (defBody s_Give_worked) (defScope s_Give_worked) .none kV8 dc8 pm8 an8 cd8 ct8), sl8⟩)
    (c8 : PySem.W.codeIn K cd8 "Give.worked" = true)
    (k8 : PySem.W.keepIn K (.ref f8) = true)
    (i9 : PySem.W.isFn K (.ref f9) = true)
    (l9 : K.lookup f9 = some ⟨oc9, od9, .func (PySem.W.fnOf "worked" "Take.worked" (defArgs s_Take_worked) (defBody s_Take_worked) (defScope s_Take_worked) .none kV9 dc9 pm9 an9 cd9 ct9), sl9⟩)
    (c9 : PySem.W.codeIn K cd9 "Take.worked" = true)
    (k9 : PySem.W.keepIn K (.ref f9) = true)
    (a10 : PySem.W.nsIn K mainGlobals "is_kind" = some (some (.ref f10)))
    (l10 : K.lookup f10 = some ⟨oc10, od10, .func (PySem.W.fnOf "is_kind" "is_kind" (defArgs s_is_kind) (defBody s_is_kind) (defScope s_is_kind) .none kV10 dc10 pm10 an10 cd10 ct10), sl10⟩)
    (c10 : PySem.W.codeIn K cd10 "is_kind" = true)
    (k10 : PySem.W.keepIn K (.ref f10) = true)
    (a11 : PySem.W.nsIn K mainGlobals "need_fit" = some (some (.ref f11)))
    (l11 : K.lookup f11 = some ⟨oc11, od11, .func (PySem.W.fnOf "need_fit" "need_fit" (defArgs s_need_fit) (defBody s_need_fit) (defScope s_need_fit) .none kV11 dc11 pm11 an11 cd11 ct11), sl11⟩)
    (c11 : PySem.W.codeIn K cd11 "need_fit" = true)
    (k11 : PySem.W.keepIn K (.ref f11) = true)
    (a12 : PySem.W.nsIn K mainGlobals "made_of" = some (some (.ref f12)))
    (l12 : K.lookup f12 = some ⟨oc12, od12, .func (PySem.W.fnOf "made_of" "made_of" (defArgs s_made_of) (defBody s_made_of) (defScope s_made_of) .none kV12 dc12 pm12 an12 cd12 ct12), sl12⟩)
    (c12 : PySem.W.codeIn K cd12 "made_of" = true)
    (k12 : PySem.W.keepIn K (.ref f12) = true)
    (a13 : PySem.W.nsIn K mainGlobals "part_made" = some (some (.ref f13)))
    (l13 : K.lookup f13 = some ⟨oc13, od13, .func (PySem.W.fnOf "part_made" "part_made" (defArgs s_part_made) (defBody s_part_made) (defScope s_part_made) .none kV13 dc13 pm13 an13 cd13 ct13), sl13⟩)
    (c13 : PySem.W.codeIn K cd13 "part_made" = true)
    (k13 : PySem.W.keepIn K (.ref f13) = true)
    (a14 : PySem.W.nsIn K mainGlobals "_law_mix" = some (some (.ref f14)))
    (l14 : K.lookup f14 = some ⟨oc14, od14, .func (PySem.W.fnOf "_law_mix" "_law_mix" (defArgs s__law_mix) (defBody s__law_mix) (defScope s__law_mix) .none kV14 dc14 pm14 an14 cd14 ct14), sl14⟩)
    (c14 : PySem.W.codeIn K cd14 "_law_mix" = true)
    (k14 : PySem.W.keepIn K (.ref f14) = true)
    (a15 : PySem.W.nsIn K mainGlobals "_law_value" = some (some (.ref f15)))
    (l15 : K.lookup f15 = some ⟨oc15, od15, .func (PySem.W.fnOf "_law_value" "_law_value" (defArgs s__law_value) (defBody s__law_value) (defScope s__law_value) .none kV15 dc15 pm15 an15 cd15 ct15), sl15⟩)
    (c15 : PySem.W.codeIn K cd15 "_law_value" = true)
    (k15 : PySem.W.keepIn K (.ref f15) = true)
    (i16 : PySem.W.isFn K (.ref f16) = true)
    (l16 : K.lookup f16 = some ⟨oc16, od16, .func (PySem.W.fnOf "lane_names" "Net.lane_names" (defArgs s_Net_lane_names) (defBody s_Net_lane_names) (defScope s_Net_lane_names) .none kV16 dc16 pm16 an16 cd16 ct16), sl16⟩)
    (c16 : PySem.W.codeIn K cd16 "Net.lane_names" = true)
    (k16 : PySem.W.keepIn K (.ref f16) = true)
    (i17 : PySem.W.isFn K (.ref f17) = true)
    (l17 : K.lookup f17 = some ⟨oc17, od17, .func (PySem.W.fnOf "part_names" "Net.part_names" (defArgs s_Net_part_names) (defBody s_Net_part_names) (defScope s_Net_part_names) .none kV17 dc17 pm17 an17 cd17 ct17), sl17⟩)
    (c17 : PySem.W.codeIn K cd17 "Net.part_names" = true)
    (k17 : PySem.W.keepIn K (.ref f17) = true)
    (i18 : PySem.W.isFn K (.ref f18) = true)
    (l18 : K.lookup f18 = some ⟨oc18, od18, .func (PySem.W.fnOf "need_lane_name" "Net.need_lane_name" (defArgs s_Net_need_lane_name) (defBody s_Net_need_lane_name) (defScope s_Net_need_lane_name) .none kV18 dc18 pm18 an18 cd18 ct18), sl18⟩)
    (c18 : PySem.W.codeIn K cd18 "Net.need_lane_name" = true)
    (k18 : PySem.W.keepIn K (.ref f18) = true)
    (i19 : PySem.W.isFn K (.ref f19) = true)
    (l19 : K.lookup f19 = some ⟨oc19, od19, .func (PySem.W.fnOf "room_of" "Net.room_of" (defArgs s_Net_room_of) (defBody s_Net_room_of) (defScope s_Net_room_of) .none kV19 dc19 pm19 an19 cd19 ct19), sl19⟩)
    (c19 : PySem.W.codeIn K cd19 "Net.room_of" = true)
    (k19 : PySem.W.keepIn K (.ref f19) = true)
    (i20 : PySem.W.isFn K (.ref f20) = true)
    (l20 : K.lookup f20 = some ⟨oc20, od20, .func (PySem.W.fnOf "first_of" "Net.first_of" (defArgs s_Net_first_of) (defBody s_Net_first_of) (defScope s_Net_first_of) .none kV20 dc20 pm20 an20 cd20 ct20), sl20⟩)
    (c20 : PySem.W.codeIn K cd20 "Net.first_of" = true)
    (k20 : PySem.W.keepIn K (.ref f20) = true)
    (i21 : PySem.W.isFn K (.ref f21) = true)
    (l21 : K.lookup f21 = some ⟨oc21, od21, .func (PySem.W.fnOf "part_of" "Net.part_of" (defArgs s_Net_part_of) (defBody s_Net_part_of) (defScope s_Net_part_of) .none kV21 dc21 pm21 an21 cd21 ct21), sl21⟩)
    (c21 : PySem.W.codeIn K cd21 "Net.part_of" = true)
    (k21 : PySem.W.keepIn K (.ref f21) = true)
    (i22 : PySem.W.isFn K (.ref f22) = true)
    (l22 : K.lookup f22 = some ⟨oc22, od22, .func (PySem.W.fnOf "names_of_kind" "Net.names_of_kind" (defArgs s_Net_names_of_kind) (defBody s_Net_names_of_kind) (defScope s_Net_names_of_kind) .none kV22 dc22 pm22 an22 cd22 ct22), sl22⟩)
    (c22 : PySem.W.codeIn K cd22 "Net.names_of_kind" = true)
    (k22 : PySem.W.keepIn K (.ref f22) = true)
    (i23 : PySem.W.isFn K (.ref f23) = true)
    (l23 : K.lookup f23 = some ⟨oc23, od23, .func (PySem.W.fnOf "gives" "Net.gives" (defArgs s_Net_gives) (defBody s_Net_gives) (defScope s_Net_gives) .none kV23 dc23 pm23 an23 cd23 ct23), sl23⟩)
    (c23 : PySem.W.codeIn K cd23 "Net.gives" = true)
    (k23 : PySem.W.keepIn K (.ref f23) = true)
    (i24 : PySem.W.isFn K (.ref f24) = true)
    (l24 : K.lookup f24 = some ⟨oc24, od24, .func (PySem.W.fnOf "takes" "Net.takes" (defArgs s_Net_takes) (defBody s_Net_takes) (defScope s_Net_takes) .none kV24 dc24 pm24 an24 cd24 ct24), sl24⟩)
    (c24 : PySem.W.codeIn K cd24 "Net.takes" = true)
    (k24 : PySem.W.keepIn K (.ref f24) = true)
    (i25 : PySem.W.isFn K (.ref f25) = true)
    (l25 : K.lookup f25 = some ⟨oc25, od25, .func (PySem.W.fnOf "holds" "Flow.holds" (defArgs s_Flow_holds) (defBody s_Flow_holds) (defScope s_Flow_holds) .none kV25 dc25 pm25 an25 cd25 ct25), sl25⟩)
    (c25 : PySem.W.codeIn K cd25 "Flow.holds" = true)
    (k25 : PySem.W.keepIn K (.ref f25) = true)
    (i26 : PySem.W.isFn K (.ref f26) = true)
    (l26 : K.lookup f26 = some ⟨oc26, od26, .func (PySem.W.fnOf "held_now" "Flow.held_now" (defArgs s_Flow_held_now) (defBody s_Flow_held_now) (defScope s_Flow_held_now) .none kV26 dc26 pm26 an26 cd26 ct26), sl26⟩)
    (c26 : PySem.W.codeIn K cd26 "Flow.held_now" = true)
    (k26 : PySem.W.keepIn K (.ref f26) = true)
    (i27 : PySem.W.isFn K (.ref f27) = true)
    (l27 : K.lookup f27 = some ⟨oc27, od27, .func (PySem.W.fnOf "gone_by" "Flow.gone_by" (defArgs s_Flow_gone_by) (defBody s_Flow_gone_by) (defScope s_Flow_gone_by) .none kV27 dc27 pm27 an27 cd27 ct27), sl27⟩)
    (c27 : PySem.W.codeIn K cd27 "Flow.gone_by" = true)
    (k27 : PySem.W.keepIn K (.ref f27) = true)
    (i28 : PySem.W.isFn K (.ref f28) = true)
    (l28 : K.lookup f28 = some ⟨oc28, od28, .func (PySem.W.fnOf "row_left" "Flow.row_left" (defArgs s_Flow_row_left) (defBody s_Flow_row_left) (defScope s_Flow_row_left) .none kV28 dc28 pm28 an28 cd28 ct28), sl28⟩)
    (c28 : PySem.W.codeIn K cd28 "Flow.row_left" = true)
    (k28 : PySem.W.keepIn K (.ref f28) = true)
    (i29 : PySem.W.isFn K (.ref f29) = true)
    (l29 : K.lookup f29 = some ⟨oc29, od29, .func (PySem.W.fnOf "head" "Flow.head" (defArgs s_Flow_head) (defBody s_Flow_head) (defScope s_Flow_head) .none kV29 dc29 pm29 an29 cd29 ct29), sl29⟩)
    (c29 : PySem.W.codeIn K cd29 "Flow.head" = true)
    (k29 : PySem.W.keepIn K (.ref f29) = true)
    (i30 : PySem.W.isFn K (.ref f30) = true)
    (l30 : K.lookup f30 = some ⟨oc30, od30, .func (PySem.W.fnOf "row_ended" "Flow.row_ended" (defArgs s_Flow_row_ended) (defBody s_Flow_row_ended) (defScope s_Flow_row_ended) .none kV30 dc30 pm30 an30 cd30 ct30), sl30⟩)
    (c30 : PySem.W.codeIn K cd30 "Flow.row_ended" = true)
    (k30 : PySem.W.keepIn K (.ref f30) = true)
    (i31 : PySem.W.isFn K (.ref f31) = true)
    (l31 : K.lookup f31 = some ⟨oc31, od31, .func (PySem.W.fnOf "heads" "Flow.heads" (defArgs s_Flow_heads) (defBody s_Flow_heads) (defScope s_Flow_heads) .none kV31 dc31 pm31 an31 cd31 ct31), sl31⟩)
    (c31 : PySem.W.codeIn K cd31 "Flow.heads" = true)
    (k31 : PySem.W.keepIn K (.ref f31) = true)
    (i32 : PySem.W.isFn K (.ref f32) = true)
    (l32 : K.lookup f32 = some ⟨oc32, od32, .func (PySem.W.fnOf "lacking" "Flow.lacking" (defArgs s_Flow_lacking) (defBody s_Flow_lacking) (defScope s_Flow_lacking) .none kV32 dc32 pm32 an32 cd32 ct32), sl32⟩)
    (c32 : PySem.W.codeIn K cd32 "Flow.lacking" = true)
    (k32 : PySem.W.keepIn K (.ref f32) = true)
    (i33 : PySem.W.isFn K (.ref f33) = true)
    (l33 : K.lookup f33 = some ⟨oc33, od33, .func (PySem.W.fnOf "deed" "Flow.deed" (defArgs s_Flow_deed) (defBody s_Flow_deed) (defScope s_Flow_deed) .none kV33 dc33 pm33 an33 cd33 ct33), sl33⟩)
    (c33 : PySem.W.codeIn K cd33 "Flow.deed" = true)
    (k33 : PySem.W.keepIn K (.ref f33) = true)
    (i34 : PySem.W.isFn K (.ref f34) = true)
    (l34 : K.lookup f34 = some ⟨oc34, od34, .func (PySem.W.fnOf "do" "Flow.do" (defArgs s_Flow_do) (defBody s_Flow_do) (defScope s_Flow_do) .none kV34 dc34 pm34 an34 cd34 ct34), sl34⟩)
    (c34 : PySem.W.codeIn K cd34 "Flow.do" = true)
    (k34 : PySem.W.keepIn K (.ref f34) = true)
    (i35 : PySem.W.isFn K (.ref f35) = true)
    (l35 : K.lookup f35 = some ⟨oc35, od35, .func (PySem.W.fnOf "full_lane" "Run.full_lane" (defArgs s_Run_full_lane) (defBody s_Run_full_lane) (defScope s_Run_full_lane) .none kV35 dc35 pm35 an35 cd35 ct35), sl35⟩)
    (c35 : PySem.W.codeIn K cd35 "Run.full_lane" = true)
    (k35 : PySem.W.keepIn K (.ref f35) = true)
    (i36 : PySem.W.isFn K (.ref f36) = true)
    (l36 : K.lookup f36 = some ⟨oc36, od36, .func (PySem.W.fnOf "next_deed" "Run.next_deed" (defArgs s_Run_next_deed) (defBody s_Run_next_deed) (defScope s_Run_next_deed) .none kV36 dc36 pm36 an36 cd36 ct36), sl36⟩)
    (c36 : PySem.W.codeIn K cd36 "Run.next_deed" = true)
    (k36 : PySem.W.keepIn K (.ref f36) = true)
    (i37 : PySem.W.isFn K (.ref f37) = true)
    (l37 : K.lookup f37 = some ⟨oc37, od37, .func (PySem.W.fnOf "can_work" "Run.can_work" (defArgs s_Run_can_work) (defBody s_Run_can_work) (defScope s_Run_can_work) .none kV37 dc37 pm37 an37 cd37 ct37), sl37⟩)
    (c37 : PySem.W.codeIn K cd37 "Run.can_work" = true)
    (k37 : PySem.W.keepIn K (.ref f37) = true)
    (i38 : PySem.W.isFn K (.ref f38) = true)
    (l38 : K.lookup f38 = some ⟨oc38, od38, .func (PySem.W.fnOf "works" "Run.works" (defArgs s_Run_works) (defBody s_Run_works) (defScope s_Run_works) .none kV38 dc38 pm38 an38 cd38 ct38), sl38⟩)
    (c38 : PySem.W.codeIn K cd38 "Run.works" = true)
    (k38 : PySem.W.keepIn K (.ref f38) = true)
    (i39 : PySem.W.isFn K (.ref f39) = true)
    (l39 : K.lookup f39 = some ⟨oc39, od39, .func (PySem.W.fnOf "taken" "Run.taken" (defArgs s_Run_taken) (defBody s_Run_taken) (defScope s_Run_taken) .none kV39 dc39 pm39 an39 cd39 ct39), sl39⟩)
    (c39 : PySem.W.codeIn K cd39 "Run.taken" = true)
    (k39 : PySem.W.keepIn K (.ref f39) = true)
    (i40 : PySem.W.isFn K (.ref f40) = true)
    (l40 : K.lookup f40 = some ⟨oc40, od40, .func (PySem.W.fnOf "lane_now" "Run.lane_now" (defArgs s_Run_lane_now) (defBody s_Run_lane_now) (defScope s_Run_lane_now) .none kV40 dc40 pm40 an40 cd40 ct40), sl40⟩)
    (c40 : PySem.W.codeIn K cd40 "Run.lane_now" = true)
    (k40 : PySem.W.keepIn K (.ref f40) = true)
    (i41 : PySem.W.isFn K (.ref f41) = true)
    (l41 : K.lookup f41 = some ⟨oc41, od41, .func (PySem.W.fnOf "had" "Run.had" (defArgs s_Run_had) (defBody s_Run_had) (defScope s_Run_had) .none kV41 dc41 pm41 an41 cd41 ct41), sl41⟩)
    (c41 : PySem.W.codeIn K cd41 "Run.had" = true)
    (k41 : PySem.W.keepIn K (.ref f41) = true)
    (i42 : PySem.W.isFn K (.ref f42) = true)
    (l42 : K.lookup f42 = some ⟨oc42, od42, .func (PySem.W.fnOf "turn" "Run.turn" (defArgs s_Run_turn) (defBody s_Run_turn) (defScope s_Run_turn) .none kV42 dc42 pm42 an42 cd42 ct42), sl42⟩)
    (c42 : PySem.W.codeIn K cd42 "Run.turn" = true)
    (k42 : PySem.W.keepIn K (.ref f42) = true)
    (i43 : PySem.W.isFn K (.ref f43) = true)
    (l43 : K.lookup f43 = some ⟨oc43, od43, .func (PySem.W.fnOf "rows_left" "Run.rows_left" (defArgs s_Run_rows_left) (defBody s_Run_rows_left) (defScope s_Run_rows_left) .none kV43 dc43 pm43 an43 cd43 ct43), sl43⟩)
    (c43 : PySem.W.codeIn K cd43 "Run.rows_left" = true)
    (k43 : PySem.W.keepIn K (.ref f43) = true)
    (i44 : PySem.W.isFn K (.ref f44) = true)
    (l44 : K.lookup f44 = some ⟨oc44, od44, .func (PySem.W.fnOf "need_doors" "Run.need_doors" (defArgs s_Run_need_doors) (defBody s_Run_need_doors) (defScope s_Run_need_doors) .none kV44 dc44 pm44 an44 cd44 ct44), sl44⟩)
    (c44 : PySem.W.codeIn K cd44 "Run.need_doors" = true)
    (k44 : PySem.W.keepIn K (.ref f44) = true)
    (i45 : PySem.W.isFn K (.ref f45) = true)
    (l45 : K.lookup f45 = some ⟨oc45, od45, .func (PySem.W.fnOf "step" "Run.step" (defArgs s_Run_step) (defBody s_Run_step) (defScope s_Run_step) (.ref T45) kV45 dc45 pm45 an45 cd45 ct45), sl45⟩)
    (d45 : K.lookup T45 = some ⟨oe45, of45, .seq #[.none] en45, os45⟩)
    (c45 : PySem.W.codeIn K cd45 "Run.step" = true)
    (k45 : PySem.W.keepIn K (.ref f45) = true)
    (a46 : PySem.W.nsIn K mainGlobals "is_name" = some (some (.ref f46)))
    (l46 : K.lookup f46 = some ⟨oc46, od46, .func (PySem.W.fnOf "is_name" "is_name" (defArgs s_is_name) (defBody s_is_name) (defScope s_is_name) .none kV46 dc46 pm46 an46 cd46 ct46), sl46⟩)
    (c46 : PySem.W.codeIn K cd46 "is_name" = true)
    (k46 : PySem.W.keepIn K (.ref f46) = true)
    (a47 : PySem.W.nsIn K mainGlobals "need_counts" = some (some (.ref f47)))
    (l47 : K.lookup f47 = some ⟨oc47, od47, .func (PySem.W.fnOf "need_counts" "need_counts" (defArgs s_need_counts) (defBody s_need_counts) (defScope s_need_counts) .none kV47 dc47 pm47 an47 cd47 ct47), sl47⟩)
    (c47 : PySem.W.codeIn K cd47 "need_counts" = true)
    (k47 : PySem.W.keepIn K (.ref f47) = true)
    (a48 : PySem.W.nsIn K mainGlobals "need_fresh" = some (some (.ref f48)))
    (l48 : K.lookup f48 = some ⟨oc48, od48, .func (PySem.W.fnOf "need_fresh" "need_fresh" (defArgs s_need_fresh) (defBody s_need_fresh) (defScope s_need_fresh) .none kV48 dc48 pm48 an48 cd48 ct48), sl48⟩)
    (c48 : PySem.W.codeIn K cd48 "need_fresh" = true)
    (k48 : PySem.W.keepIn K (.ref f48) = true)
    (a49 : PySem.W.nsIn K mainGlobals "need_lane" = some (some (.ref f49)))
    (l49 : K.lookup f49 = some ⟨oc49, od49, .func (PySem.W.fnOf "need_lane" "need_lane" (defArgs s_need_lane) (defBody s_need_lane) (defScope s_need_lane) .none kV49 dc49 pm49 an49 cd49 ct49), sl49⟩)
    (c49 : PySem.W.codeIn K cd49 "need_lane" = true)
    (k49 : PySem.W.keepIn K (.ref f49) = true)
    (a50 : PySem.W.nsIn K mainGlobals "fresh_part" = some (some (.ref f50)))
    (l50 : K.lookup f50 = some ⟨oc50, od50, .func (PySem.W.fnOf "fresh_part" "fresh_part" (defArgs s_fresh_part) (defBody s_fresh_part) (defScope s_fresh_part) .none kV50 dc50 pm50 an50 cd50 ct50), sl50⟩)
    (c50 : PySem.W.codeIn K cd50 "fresh_part" = true)
    (k50 : PySem.W.keepIn K (.ref f50) = true)
    (a51 : PySem.W.nsIn K mainGlobals "tie_lanes" = some (some (.ref f51)))
    (l51 : K.lookup f51 = some ⟨oc51, od51, .func (PySem.W.fnOf "tie_lanes" "tie_lanes" (defArgs s_tie_lanes) (defBody s_tie_lanes) (defScope s_tie_lanes) .none kV51 dc51 pm51 an51 cd51 ct51), sl51⟩)
    (c51 : PySem.W.codeIn K cd51 "tie_lanes" = true)
    (k51 : PySem.W.keepIn K (.ref f51) = true)
    (a52 : PySem.W.nsIn K mainGlobals "need_ends" = some (some (.ref f52)))
    (l52 : K.lookup f52 = some ⟨oc52, od52, .func (PySem.W.fnOf "need_ends" "need_ends" (defArgs s_need_ends) (defBody s_need_ends) (defScope s_need_ends) .none kV52 dc52 pm52 an52 cd52 ct52), sl52⟩)
    (c52 : PySem.W.codeIn K cd52 "need_ends" = true)
    (k52 : PySem.W.keepIn K (.ref f52) = true)
    (a53 : PySem.W.nsIn K mainGlobals "joined_with" = some (some (.ref f53)))
    (l53 : K.lookup f53 = some ⟨oc53, od53, .func (PySem.W.fnOf "joined_with" "joined_with" (defArgs s_joined_with) (defBody s_joined_with) (defScope s_joined_with) .none kV53 dc53 pm53 an53 cd53 ct53), sl53⟩)
    (c53 : PySem.W.codeIn K cd53 "joined_with" = true)
    (k53 : PySem.W.keepIn K (.ref f53) = true)
    (a54 : PySem.W.nsIn K mainGlobals "need_joined" = some (some (.ref f54)))
    (l54 : K.lookup f54 = some ⟨oc54, od54, .func (PySem.W.fnOf "need_joined" "need_joined" (defArgs s_need_joined) (defBody s_need_joined) (defScope s_need_joined) .none kV54 dc54 pm54 an54 cd54 ct54), sl54⟩)
    (c54 : PySem.W.codeIn K cd54 "need_joined" = true)
    (k54 : PySem.W.keepIn K (.ref f54) = true)
    (i55 : PySem.W.isFn K (.ref f55) = true)
    (l55 : K.lookup f55 = some ⟨oc55, od55, .func (PySem.W.fnOf "start" "Part.start" (defArgs s_Part_start) (defBody s_Part_start) (defScope s_Part_start) .none kV55 dc55 pm55 an55 cd55 ct55), sl55⟩)
    (c55 : PySem.W.codeIn K cd55 "Part.start" = true)
    (k55 : PySem.W.keepIn K (.ref f55) = true)
    (i56 : PySem.W.isFn K (.ref f56) = true)
    (l56 : K.lookup f56 = some ⟨oc56, od56, .func (PySem.W.fnOf "__init__" "Net.__init__" (defArgs s_Net___init__) (defBody s_Net___init__) (defScope s_Net___init__) .none kV56 dc56 pm56 an56 cd56 ct56), sl56⟩)
    (c56 : PySem.W.codeIn K cd56 "Net.__init__" = true)
    (k56 : PySem.W.keepIn K (.ref f56) = true)
    (i57 : PySem.W.isFn K (.ref f57) = true)
    (l57 : K.lookup f57 = some ⟨oc57, od57, .func (PySem.W.fnOf "__init__" "Flow.__init__" (defArgs s_Flow___init__) (defBody s_Flow___init__) (defScope s_Flow___init__) .none kV57 dc57 pm57 an57 cd57 ct57), sl57⟩)
    (c57 : PySem.W.codeIn K cd57 "Flow.__init__" = true)
    (k57 : PySem.W.keepIn K (.ref f57) = true)
    (a58 : PySem.W.nsIn K mainGlobals "is_row" = some (some (.ref f58)))
    (l58 : K.lookup f58 = some ⟨oc58, od58, .func (PySem.W.fnOf "is_row" "is_row" (defArgs s_is_row) (defBody s_is_row) (defScope s_is_row) .none kV58 dc58 pm58 an58 cd58 ct58), sl58⟩)
    (c58 : PySem.W.codeIn K cd58 "is_row" = true)
    (k58 : PySem.W.keepIn K (.ref f58) = true)
    (a59 : PySem.W.nsIn K mainGlobals "need_rows" = some (some (.ref f59)))
    (l59 : K.lookup f59 = some ⟨oc59, od59, .func (PySem.W.fnOf "need_rows" "need_rows" (defArgs s_need_rows) (defBody s_need_rows) (defScope s_need_rows) .none kV59 dc59 pm59 an59 cd59 ct59), sl59⟩)
    (c59 : PySem.W.codeIn K cd59 "need_rows" = true)
    (k59 : PySem.W.keepIn K (.ref f59) = true)
    (i60 : PySem.W.isFn K (.ref f60) = true)
    (l60 : K.lookup f60 = some ⟨oc60, od60, .func (PySem.W.fnOf "__init__" "Run.__init__" (defArgs s_Run___init__) (defBody s_Run___init__) (defScope s_Run___init__) .none kV60 dc60 pm60 an60 cd60 ct60), sl60⟩)
    (c60 : PySem.W.codeIn K cd60 "Run.__init__" = true)
    (k60 : PySem.W.keepIn K (.ref f60) = true)
    (a61 : PySem.W.nsIn K mainGlobals "_law_cell" = some (some (.ref f61)))
    (l61 : K.lookup f61 = some ⟨oc61, od61, .func (PySem.W.fnOf "_law_cell" "_law_cell" (defArgs s__law_cell) (defBody s__law_cell) (defScope s__law_cell) .none kV61 dc61 pm61 an61 cd61 ct61), sl61⟩)
    (c61 : PySem.W.codeIn K cd61 "_law_cell" = true)
    (k61 : PySem.W.keepIn K (.ref f61) = true)
    (a62 : PySem.W.nsIn K mainGlobals "_law_given" = some (some (.ref f62)))
    (l62 : K.lookup f62 = some ⟨oc62, od62, .func (PySem.W.fnOf "_law_given" "_law_given" (defArgs s__law_given) (defBody s__law_given) (defScope s__law_given) .none kV62 dc62 pm62 an62 cd62 ct62), sl62⟩)
    (c62 : PySem.W.codeIn K cd62 "_law_given" = true)
    (k62 : PySem.W.keepIn K (.ref f62) = true)
    (a63 : PySem.W.nsIn K mainGlobals "_law_whole" = some (some (.ref f63)))
    (l63 : K.lookup f63 = some ⟨oc63, od63, .func (PySem.W.fnOf "_law_whole" "_law_whole" (defArgs s__law_whole) (defBody s__law_whole) (defScope s__law_whole) .none kV63 dc63 pm63 an63 cd63 ct63), sl63⟩)
    (c63 : PySem.W.codeIn K cd63 "_law_whole" = true)
    (k63 : PySem.W.keepIn K (.ref f63) = true)
    (a64 : PySem.W.nsIn K mainGlobals "_law_stands" = some (some (.ref f64)))
    (l64 : K.lookup f64 = some ⟨oc64, od64, .func (PySem.W.fnOf "_law_stands" "_law_stands" (defArgs s__law_stands) (defBody s__law_stands) (defScope s__law_stands) .none kV64 dc64 pm64 an64 cd64 ct64), sl64⟩)
    (c64 : PySem.W.codeIn K cd64 "_law_stands" = true)
    (k64 : PySem.W.keepIn K (.ref f64) = true)
    (a65 : PySem.W.nsIn K mainGlobals "law" = some (some (.ref f65)))
    (l65 : K.lookup f65 = some ⟨oc65, od65, .func (PySem.W.fnOf "law" "law" (defArgs s_law) (defBody s_law) (defScope s_law) .none kV65 dc65 pm65 an65 cd65 ct65), sl65⟩)
    (c65 : PySem.W.codeIn K cd65 "law" = true)
    (k65 : PySem.W.keepIn K (.ref f65) = true)
    (z_all : PySem.W.nsIn K mainGlobals "all" = some none)
    (z_bool : PySem.W.nsIn K mainGlobals "bool" = some none)
    (z_enumerate : PySem.W.nsIn K mainGlobals "enumerate" = some none)
    (z_int : PySem.W.nsIn K mainGlobals "int" = some none)
    (z_isinstance : PySem.W.nsIn K mainGlobals "isinstance" = some none)
    (z_len : PySem.W.nsIn K mainGlobals "len" = some none)
    (z_list : PySem.W.nsIn K mainGlobals "list" = some none)
    (z_max : PySem.W.nsIn K mainGlobals "max" = some none)
    (z_min : PySem.W.nsIn K mainGlobals "min" = some none)
    (z_range : PySem.W.nsIn K mainGlobals "range" = some none)
    (z_str : PySem.W.nsIn K mainGlobals "str" = some none)
    (z_tuple : PySem.W.nsIn K mainGlobals "tuple" = some none)
    (y_VALUES : PySem.W.nsIn K mainGlobals "VALUES" = some (some u_VALUES))
    (r_VALUES : RelV (.int 1000000000) u_VALUES)
    (y_LETTERS : PySem.W.nsIn K mainGlobals "LETTERS" = some (some u_LETTERS))
    (r_LETTERS : RelV (.str "abcdefghijklmnopqrstuvwxyz") u_LETTERS)
    (y_LONGEST_NAME : PySem.W.nsIn K mainGlobals "LONGEST_NAME" = some (some u_LONGEST_NAME))
    (r_LONGEST_NAME : RelV (.int 8) u_LONGEST_NAME)
    (y_FIGURES : PySem.W.nsIn K mainGlobals "FIGURES" = some (some u_FIGURES))
    (r_FIGURES : RelV (.str "0123456789") u_FIGURES)
    (y_MOST_LANES : PySem.W.nsIn K mainGlobals "MOST_LANES" = some (some u_MOST_LANES))
    (r_MOST_LANES : RelV (.int 24) u_MOST_LANES)
    (y_MOST_PARTS : PySem.W.nsIn K mainGlobals "MOST_PARTS" = some (some u_MOST_PARTS))
    (r_MOST_PARTS : RelV (.int 16) u_MOST_PARTS)
    (y_MOST_ROOM : PySem.W.nsIn K mainGlobals "MOST_ROOM" = some (some u_MOST_ROOM))
    (r_MOST_ROOM : RelV (.int 199) u_MOST_ROOM)
    (y_LONGEST_ROW : PySem.W.nsIn K mainGlobals "LONGEST_ROW" = some (some u_LONGEST_ROW))
    (r_LONGEST_ROW : RelV (.int 300) u_LONGEST_ROW)
    (yt_COUNTS : PySem.W.nsIn K mainGlobals "COUNTS" = some (some (.ref o_COUNTS)))
    (rt_COUNTS : KTab w K o_COUNTS ROWS)
    : ∃ fd : FuncData, (∀ (s : Shared) (v : Value), BindsTo s fd ⟨[v], []⟩ [("_law_script", v)]) ∧ ∀ base : Heap, K.In base → base.Ns mainGlobals mg → FnOk l.prog w K mg base CX0 8 fa fd ["_law_script"] (sp_law K) := by
  have e := hfa.symm.trans (PySem.W.mg_of X G a65)
  cases e
  have F0 := fun_mk (st := s_is_whole) l0 c0 k0
  have b0 := F0.binds (ps := ["thing"]) fun _ _ _ _ _ _ us hl => match us, hl with | [_], _ => rfl
  have F1 := fun_mk (st := s_is_value) l1 c1 k1
  have b1 := F1.binds (ps := ["thing"]) fun _ _ _ _ _ _ us hl => match us, hl with | [_], _ => rfl
  have F2 := fun_mk (st := s_rest) l2 c2 k2
  have b2 := F2.binds (ps := ["number"]) fun _ _ _ _ _ _ us hl => match us, hl with | [_], _ => rfl
  have F3 := fun_mk (st := s_Part___init__) l3 c3 k3
  have b3 := F3.binds (ps := ["self", "name", "numbers", "ins", "outs"]) fun _ _ _ _ _ _ us hl => match us, hl with | [_, _, _, _, _], _ => rfl
  have F4 := fun_mk (st := s_Give_kind) l4 c4 k4
  have b4 := F4.binds (ps := ["self"]) fun _ _ _ _ _ _ us hl => match us, hl with | [_], _ => rfl
  have F5 := fun_mk (st := s_Take_kind) l5 c5 k5
  have b5 := F5.binds (ps := ["self"]) fun _ _ _ _ _ _ us hl => match us, hl with | [_], _ => rfl
  have F6 := fun_mk (st := s_Part_taking) l6 c6 k6
  have b6 := F6.binds (ps := ["self", "heads"]) fun _ _ _ _ _ _ us hl => match us, hl with | [_, _], _ => rfl
  have F7 := fun_mk (st := s_Part_lacks) l7 c7 k7
  have b7 := F7.binds (ps := ["self", "heads"]) fun _ _ _ _ _ _ us hl => match us, hl with | [_, _], _ => rfl
  have F8 := fun_mk (st := s_Give_worked) l8 c8 k8
  have b8 := F8.binds (ps := ["self", "values", "kept"]) fun _ _ _ _ _ _ us hl => match us, hl with | [_, _, _], _ => rfl
  have F9 := fun_mk (st := s_Take_worked) l9 c9 k9
  have b9 := F9.binds (ps := ["self", "values", "kept"]) fun _ _ _ _ _ _ us hl => match us, hl with | [_, _, _], _ => rfl
  have F10 := fun_mk (st := s_is_kind) l10 c10 k10
  have b10 := F10.binds (ps := ["word"]) fun _ _ _ _ _ _ us hl => match us, hl with | [_], _ => rfl
  have F11 := fun_mk (st := s_need_fit) l11 c11 k11
  have b11 := F11.binds (ps := ["kind", "name", "numbers", "ins", "outs"]) fun _ _ _ _ _ _ us hl => match us, hl with | [_, _, _, _, _], _ => rfl
  have F12 := fun_mk (st := s_made_of) l12 c12 k12
  have b12 := F12.binds (ps := ["kind", "name", "numbers", "ins", "outs"]) fun _ _ _ _ _ _ us hl => match us, hl with | [_, _, _, _, _], _ => rfl
  have F13 := fun_mk (st := s_part_made) l13 c13 k13
  have b13 := F13.binds (ps := ["kind", "name", "numbers", "ins", "outs"]) fun _ _ _ _ _ _ us hl => match us, hl with | [_, _, _, _, _], _ => rfl
  have F14 := fun_mk (st := s__law_mix) l14 c14 k14
  have b14 := F14.binds (ps := ["_law_cell_here", "_law_k"]) fun _ _ _ _ _ _ us hl => match us, hl with | [_, _], _ => rfl
  have F15 := fun_mk (st := s__law_value) l15 c15 k15
  have b15 := F15.binds (ps := ["_law_cell_here", "_law_k"]) fun _ _ _ _ _ _ us hl => match us, hl with | [_, _], _ => rfl
  have F16 := fun_mk (st := s_Net_lane_names) l16 c16 k16
  have b16 := F16.binds (ps := ["self"]) fun _ _ _ _ _ _ us hl => match us, hl with | [_], _ => rfl
  have F17 := fun_mk (st := s_Net_part_names) l17 c17 k17
  have b17 := F17.binds (ps := ["self"]) fun _ _ _ _ _ _ us hl => match us, hl with | [_], _ => rfl
  have F18 := fun_mk (st := s_Net_need_lane_name) l18 c18 k18
  have b18 := F18.binds (ps := ["self", "name"]) fun _ _ _ _ _ _ us hl => match us, hl with | [_, _], _ => rfl
  have F19 := fun_mk (st := s_Net_room_of) l19 c19 k19
  have b19 := F19.binds (ps := ["self", "name"]) fun _ _ _ _ _ _ us hl => match us, hl with | [_, _], _ => rfl
  have F20 := fun_mk (st := s_Net_first_of) l20 c20 k20
  have b20 := F20.binds (ps := ["self", "name"]) fun _ _ _ _ _ _ us hl => match us, hl with | [_, _], _ => rfl
  have F21 := fun_mk (st := s_Net_part_of) l21 c21 k21
  have b21 := F21.binds (ps := ["self", "name"]) fun _ _ _ _ _ _ us hl => match us, hl with | [_, _], _ => rfl
  have F22 := fun_mk (st := s_Net_names_of_kind) l22 c22 k22
  have b22 := F22.binds (ps := ["self", "kind"]) fun _ _ _ _ _ _ us hl => match us, hl with | [_, _], _ => rfl
  have F23 := fun_mk (st := s_Net_gives) l23 c23 k23
  have b23 := F23.binds (ps := ["self"]) fun _ _ _ _ _ _ us hl => match us, hl with | [_], _ => rfl
  have F24 := fun_mk (st := s_Net_takes) l24 c24 k24
  have b24 := F24.binds (ps := ["self"]) fun _ _ _ _ _ _ us hl => match us, hl with | [_], _ => rfl
  have F25 := fun_mk (st := s_Flow_holds) l25 c25 k25
  have b25 := F25.binds (ps := ["self", "lane"]) fun _ _ _ _ _ _ us hl => match us, hl with | [_, _], _ => rfl
  have F26 := fun_mk (st := s_Flow_held_now) l26 c26 k26
  have b26 := F26.binds (ps := ["self", "lane"]) fun _ _ _ _ _ _ us hl => match us, hl with | [_, _], _ => rfl
  have F27 := fun_mk (st := s_Flow_gone_by) l27 c27 k27
  have b27 := F27.binds (ps := ["self", "lane"]) fun _ _ _ _ _ _ us hl => match us, hl with | [_, _], _ => rfl
  have F28 := fun_mk (st := s_Flow_row_left) l28 c28 k28
  have b28 := F28.binds (ps := ["self", "door"]) fun _ _ _ _ _ _ us hl => match us, hl with | [_, _], _ => rfl
  have F29 := fun_mk (st := s_Flow_head) l29 c29 k29
  have b29 := F29.binds (ps := ["self", "lane"]) fun _ _ _ _ _ _ us hl => match us, hl with | [_, _], _ => rfl
  have F30 := fun_mk (st := s_Flow_row_ended) l30 c30 k30
  have b30 := F30.binds (ps := ["self", "name"]) fun _ _ _ _ _ _ us hl => match us, hl with | [_, _], _ => rfl
  have F31 := fun_mk (st := s_Flow_heads) l31 c31 k31
  have b31 := F31.binds (ps := ["self", "part"]) fun _ _ _ _ _ _ us hl => match us, hl with | [_, _], _ => rfl
  have F32 := fun_mk (st := s_Flow_lacking) l32 c32 k32
  have b32 := F32.binds (ps := ["self", "name"]) fun _ _ _ _ _ _ us hl => match us, hl with | [_, _], _ => rfl
  have F33 := fun_mk (st := s_Flow_deed) l33 c33 k33
  have b33 := F33.binds (ps := ["self", "name"]) fun _ _ _ _ _ _ us hl => match us, hl with | [_, _], _ => rfl
  have F34 := fun_mk (st := s_Flow_do) l34 c34 k34
  have b34 := F34.binds (ps := ["self", "name", "deed"]) fun _ _ _ _ _ _ us hl => match us, hl with | [_, _, _], _ => rfl
  have F35 := fun_mk (st := s_Run_full_lane) l35 c35 k35
  have b35 := F35.binds (ps := ["self", "deed"]) fun _ _ _ _ _ _ us hl => match us, hl with | [_, _], _ => rfl
  have F36 := fun_mk (st := s_Run_next_deed) l36 c36 k36
  have b36 := F36.binds (ps := ["self", "name"]) fun _ _ _ _ _ _ us hl => match us, hl with | [_, _], _ => rfl
  have F37 := fun_mk (st := s_Run_can_work) l37 c37 k37
  have b37 := F37.binds (ps := ["self", "name"]) fun _ _ _ _ _ _ us hl => match us, hl with | [_, _], _ => rfl
  have F38 := fun_mk (st := s_Run_works) l38 c38 k38
  have b38 := F38.binds (ps := ["self", "name"]) fun _ _ _ _ _ _ us hl => match us, hl with | [_, _], _ => rfl
  have F39 := fun_mk (st := s_Run_taken) l39 c39 k39
  have b39 := F39.binds (ps := ["self", "name"]) fun _ _ _ _ _ _ us hl => match us, hl with | [_, _], _ => rfl
  have F40 := fun_mk (st := s_Run_lane_now) l40 c40 k40
  have b40 := F40.binds (ps := ["self", "name"]) fun _ _ _ _ _ _ us hl => match us, hl with | [_, _], _ => rfl
  have F41 := fun_mk (st := s_Run_had) l41 c41 k41
  have b41 := F41.binds (ps := ["self", "name"]) fun _ _ _ _ _ _ us hl => match us, hl with | [_, _], _ => rfl
  have F42 := fun_mk (st := s_Run_turn) l42 c42 k42
  have b42 := F42.binds (ps := ["self"]) fun _ _ _ _ _ _ us hl => match us, hl with | [_], _ => rfl
  have F43 := fun_mk (st := s_Run_rows_left) l43 c43 k43
  have b43 := F43.binds (ps := ["self"]) fun _ _ _ _ _ _ us hl => match us, hl with | [_], _ => rfl
  have F44 := fun_mk (st := s_Run_need_doors) l44 c44 k44
  have b44 := F44.binds (ps := ["self", "names"]) fun _ _ _ _ _ _ us hl => match us, hl with | [_, _], _ => rfl
  have F45 := funD_mk (st := s_Run_step) l45 c45 k45 d45 rfl
  have b45 := F45.binds (ps := ["self", "held"]) fun _ _ _ _ _ _ _ us hl => match us, hl with | [_, _], _ => ⟨_, rfl, rfl⟩
  have F46 := fun_mk (st := s_is_name) l46 c46 k46
  have b46 := F46.binds (ps := ["thing"]) fun _ _ _ _ _ _ us hl => match us, hl with | [_], _ => rfl
  have F47 := fun_mk (st := s_need_counts) l47 c47 k47
  have b47 := F47.binds (ps := ["lanes", "parts"]) fun _ _ _ _ _ _ us hl => match us, hl with | [_, _], _ => rfl
  have F48 := fun_mk (st := s_need_fresh) l48 c48 k48
  have b48 := F48.binds (ps := ["name", "known"]) fun _ _ _ _ _ _ us hl => match us, hl with | [_, _], _ => rfl
  have F49 := fun_mk (st := s_need_lane) l49 c49 k49
  have b49 := F49.binds (ps := ["name", "room", "first"]) fun _ _ _ _ _ _ us hl => match us, hl with | [_, _, _], _ => rfl
  have F50 := fun_mk (st := s_fresh_part) l50 c50 k50
  have b50 := F50.binds (ps := ["row", "known"]) fun _ _ _ _ _ _ us hl => match us, hl with | [_, _], _ => rfl
  have F51 := fun_mk (st := s_tie_lanes) l51 c51 k51
  have b51 := F51.binds (ps := ["part", "lanes", "rooms", "ends"]) fun _ _ _ _ _ _ us hl => match us, hl with | [_, _, _, _], _ => rfl
  have F52 := fun_mk (st := s_need_ends) l52 c52 k52
  have b52 := F52.binds (ps := ["rooms", "givers", "takers"]) fun _ _ _ _ _ _ us hl => match us, hl with | [_, _, _], _ => rfl
  have F53 := fun_mk (st := s_joined_with) l53 c53 k53
  have b53 := F53.binds (ps := ["part", "givers", "takers"]) fun _ _ _ _ _ _ us hl => match us, hl with | [_, _, _], _ => rfl
  have F54 := fun_mk (st := s_need_joined) l54 c54 k54
  have b54 := F54.binds (ps := ["names", "givers", "takers"]) fun _ _ _ _ _ _ us hl => match us, hl with | [_, _, _], _ => rfl
  have F55 := fun_mk (st := s_Part_start) l55 c55 k55
  have b55 := F55.binds (ps := ["self"]) fun _ _ _ _ _ _ us hl => match us, hl with | [_], _ => rfl
  have F56 := fun_mk (st := s_Net___init__) l56 c56 k56
  have b56 := F56.binds (ps := ["self", "lanes", "parts"]) fun _ _ _ _ _ _ us hl => match us, hl with | [_, _, _], _ => rfl
  have F57 := fun_mk (st := s_Flow___init__) l57 c57 k57
  have b57 := F57.binds (ps := ["self", "net", "rows"]) fun _ _ _ _ _ _ us hl => match us, hl with | [_, _, _], _ => rfl
  have F58 := fun_mk (st := s_is_row) l58 c58 k58
  have b58 := F58.binds (ps := ["thing"]) fun _ _ _ _ _ _ us hl => match us, hl with | [_], _ => rfl
  have F59 := fun_mk (st := s_need_rows) l59 c59 k59
  have b59 := F59.binds (ps := ["net", "rows"]) fun _ _ _ _ _ _ us hl => match us, hl with | [_, _], _ => rfl
  have F60 := fun_mk (st := s_Run___init__) l60 c60 k60
  have b60 := F60.binds (ps := ["self", "net", "rows"]) fun _ _ _ _ _ _ us hl => match us, hl with | [_, _, _], _ => rfl
  have F61 := fun_mk (st := s__law_cell) l61 c61 k61
  have b61 := F61.binds (ps := ["_law_script", "_law_k"]) fun _ _ _ _ _ _ us hl => match us, hl with | [_, _], _ => rfl
  have F62 := fun_mk (st := s__law_given) l62 c62 k62
  have b62 := F62.binds (ps := ["_law_cell_here"]) fun _ _ _ _ _ _ us hl => match us, hl with | [_], _ => rfl
  have F63 := fun_mk (st := s__law_whole) l63 c63 k63
  have b63 := F63.binds (ps := ["_law_found", "_law_due"]) fun _ _ _ _ _ _ us hl => match us, hl with | [_, _], _ => rfl
  have F64 := fun_mk (st := s__law_stands) l64 c64 k64
  have b64 := F64.binds (ps := ["_law_run", "_law_row", "_law_given_here", "_law_taken", "_law_turns"]) fun _ _ _ _ _ _ us hl => match us, hl with | [_, _, _, _, _], _ => rfl
  have F65 := fun_mk (st := s_law) l65 c65 k65
  have b65 := F65.binds (ps := ["_law_script"]) fun _ _ _ _ _ _ us hl => match us, hl with | [_], _ => rfl
  have T : Txt w K mg ⟨_, _, _, _, _, _, _, _, _, _, _, _, _, _, _, _, _, _, _, _, _, _, _, _, _, _, _, _, _, _, _, _, _, _, _, _, _, _, _, _, _, _, _, _, _, _, _, _, _, _, _, _, _, _, _, _, _, _, _, _, _, _, _, _, _, _, _, _, _, _, _, _, _, _, _, _, _, _, _, _, _, _, _, _, _, _, _, _, _, _, _, _, _, _, _, _, _, _, _, _, _, _, _, _, _, _, _, _, _, _, _, _, _, _, _, _, _, _, _, _, _, _, _, _, _, _, _, _, _, _, _, _, C_Give, C_Take, C_Net, C_Flow, C_Run, o_COUNTS⟩ := ⟨F0, b0, PySem.W.mg_of X G a0,
    F1, b1, PySem.W.mg_of X G a1,
    F2, b2, PySem.W.mg_of X G a2,
    F3, b3,
    F4, b4,
    F5, b5,
    F6, b6,
    F7, b7,
    F8, b8,
    F9, b9,
    F10, b10, PySem.W.mg_of X G a10,
    F11, b11, PySem.W.mg_of X G a11,
    F12, b12, PySem.W.mg_of X G a12,
    F13, b13, PySem.W.mg_of X G a13,
    F14, b14, PySem.W.mg_of X G a14,
    F15, b15, PySem.W.mg_of X G a15,
    F16, b16,
    F17, b17,
    F18, b18,
    F19, b19,
    F20, b20,
    F21, b21,
    F22, b22,
    F23, b23,
    F24, b24,
    F25, b25,
    F26, b26,
    F27, b27,
    F28, b28,
    F29, b29,
    F30, b30,
    F31, b31,
    F32, b32,
    F33, b33,
    F34, b34,
    F35, b35,
    F36, b36,
    F37, b37,
    F38, b38,
    F39, b39,
    F40, b40,
    F41, b41,
    F42, b42,
    F43, b43,
    F44, b44,
    F45, b45,
    F46, b46, PySem.W.mg_of X G a46,
    F47, b47, PySem.W.mg_of X G a47,
    F48, b48, PySem.W.mg_of X G a48,
    F49, b49, PySem.W.mg_of X G a49,
    F50, b50, PySem.W.mg_of X G a50,
    F51, b51, PySem.W.mg_of X G a51,
    F52, b52, PySem.W.mg_of X G a52,
    F53, b53, PySem.W.mg_of X G a53,
    F54, b54, PySem.W.mg_of X G a54,
    F55, b55,
    F56, b56,
    F57, b57,
    F58, b58, PySem.W.mg_of X G a58,
    F59, b59, PySem.W.mg_of X G a59,
    F60, b60,
    F61, b61, PySem.W.mg_of X G a61,
    F62, b62, PySem.W.mg_of X G a62,
    F63, b63, PySem.W.mg_of X G a63,
    F64, b64, PySem.W.mg_of X G a64,
    F65, b65, PySem.W.mg_of X G a65,
    ⟨pg_Give, hd_Give, po_Give, sa_Give⟩, PySem.W.mg_of X G aC_Give,
    ⟨mk_Give, fm_Give___init__, i3, kc_Give⟩,
    ⟨fm_Give_kind, i4, k4⟩,
    ⟨fm_Give_taking, i6, k6⟩,
    ⟨fm_Give_lacks, i7, k7⟩,
    ⟨fm_Give_worked, i8, k8⟩,
    ⟨fm_Give_start, i55, k55⟩,
    na_Give_name,
    na_Give_numbers,
    na_Give_ins,
    na_Give_outs,
    ⟨pg_Take, hd_Take, po_Take, sa_Take⟩, PySem.W.mg_of X G aC_Take,
    ⟨mk_Take, fm_Take___init__, i3, kc_Take⟩,
    ⟨fm_Take_kind, i5, k5⟩,
    ⟨fm_Take_taking, i6, k6⟩,
    ⟨fm_Take_lacks, i7, k7⟩,
    ⟨fm_Take_worked, i9, k9⟩,
    ⟨fm_Take_start, i55, k55⟩,
    na_Take_name,
    na_Take_numbers,
    na_Take_ins,
    na_Take_outs,
    ⟨pg_Net, hd_Net, po_Net, sa_Net⟩, PySem.W.mg_of X G aC_Net,
    ⟨mk_Net, fm_Net___init__, i56, kc_Net⟩,
    ⟨fm_Net_lane_names, i16, k16⟩,
    ⟨fm_Net_part_names, i17, k17⟩,
    ⟨fm_Net_need_lane_name, i18, k18⟩,
    ⟨fm_Net_room_of, i19, k19⟩,
    ⟨fm_Net_first_of, i20, k20⟩,
    ⟨fm_Net_part_of, i21, k21⟩,
    ⟨fm_Net_names_of_kind, i22, k22⟩,
    ⟨fm_Net_gives, i23, k23⟩,
    ⟨fm_Net_takes, i24, k24⟩,
    na_Net_rooms,
    na_Net_firsts,
    na_Net_parts,
    na_Net_givers,
    na_Net_takers,
    ⟨pg_Flow, hd_Flow, po_Flow, sa_Flow⟩, PySem.W.mg_of X G aC_Flow,
    ⟨mk_Flow, fm_Flow___init__, i57, kc_Flow⟩,
    ⟨fm_Flow_holds, i25, k25⟩,
    ⟨fm_Flow_held_now, i26, k26⟩,
    ⟨fm_Flow_gone_by, i27, k27⟩,
    ⟨fm_Flow_row_left, i28, k28⟩,
    ⟨fm_Flow_head, i29, k29⟩,
    ⟨fm_Flow_row_ended, i30, k30⟩,
    ⟨fm_Flow_heads, i31, k31⟩,
    ⟨fm_Flow_lacking, i32, k32⟩,
    ⟨fm_Flow_deed, i33, k33⟩,
    ⟨fm_Flow_do, i34, k34⟩,
    na_Flow_net,
    na_Flow_ever,
    na_Flow_gone,
    na_Flow_kept,
    na_Flow_done,
    na_Flow_rows,
    ⟨pg_Run, hd_Run, po_Run, sa_Run⟩, PySem.W.mg_of X G aC_Run,
    ⟨mk_Run, fm_Run___init__, i60, kc_Run⟩,
    ⟨fm_Run_step, i45, k45⟩,
    ⟨fm_Run_need_doors, i44, k44⟩,
    ⟨fm_Run_next_deed, i36, k36⟩,
    ⟨fm_Run_full_lane, i35, k35⟩,
    ⟨fm_Run_can_work, i37, k37⟩,
    ⟨fm_Run_works, i38, k38⟩,
    ⟨fm_Run_taken, i39, k39⟩,
    ⟨fm_Run_lane_now, i40, k40⟩,
    ⟨fm_Run_had, i41, k41⟩,
    ⟨fm_Run_turn, i42, k42⟩,
    ⟨fm_Run_rows_left, i43, k43⟩,
    na_Run_net,
    na_Run_flow,
    na_Run_turns,
    PySem.W.mg_of X G yt_COUNTS, rt_COUNTS,
    PySem.W.mg_none_of X G z_all,
    PySem.W.mg_none_of X G z_bool,
    PySem.W.mg_none_of X G z_enumerate,
    PySem.W.mg_none_of X G z_int,
    PySem.W.mg_none_of X G z_isinstance,
    PySem.W.mg_none_of X G z_len,
    PySem.W.mg_none_of X G z_list,
    PySem.W.mg_none_of X G z_max,
    PySem.W.mg_none_of X G z_min,
    PySem.W.mg_none_of X G z_range,
    PySem.W.mg_none_of X G z_str,
    PySem.W.mg_none_of X G z_tuple,
    ⟨_, PySem.W.mg_of X G y_VALUES, r_VALUES⟩,
    ⟨_, PySem.W.mg_of X G y_LETTERS, r_LETTERS⟩,
    ⟨_, PySem.W.mg_of X G y_LONGEST_NAME, r_LONGEST_NAME⟩,
    ⟨_, PySem.W.mg_of X G y_FIGURES, r_FIGURES⟩,
    ⟨_, PySem.W.mg_of X G y_MOST_LANES, r_MOST_LANES⟩,
    ⟨_, PySem.W.mg_of X G y_MOST_PARTS, r_MOST_PARTS⟩,
    ⟨_, PySem.W.mg_of X G y_MOST_ROOM, r_MOST_ROOM⟩,
    ⟨_, PySem.W.mg_of X G y_LONGEST_ROW, r_LONGEST_ROW⟩⟩
  exact ⟨_, fun s v => .of_eq rfl, fun base _ _ => ok_law T⟩
theorem walk {l : PySem.W.OpenLaw} {q : Program} {loose : List Str} {XP : (Str → Option Value) → Heap → Prop} {YP : World → Heap → Prop} {d : DefRec} {K : Params → PySem.W.Frag} (hn : l.most = some 63) (hdf : d.params.defaults = [])
    (hY : ∀ (w : World) (h : Heap), YP w h → (K w.params).In h)
    (F : ∀ (w : World) (mg : Str → Option Value) (fa : Addr) (h : Heap), (K w.params).In h → h.Ns mainGlobals mg → mg d.name = some (.ref fa) →
      ∃ fd : FuncData, (∀ (s : Shared) (u : Value), BindsTo s fd ⟨[u], []⟩ [("_law_script", u)]) ∧ ∀ base : Heap, (K w.params).In base → base.Ns mainGlobals mg → FnOk l.prog w (K w.params) mg base CX0 8 fa fd ["_law_script"] (sp_law (K w.params))) :
    PySem.W.WalkO q loose XP YP l.row.toRowW d [] (fun f vs => PySem.call f vs) :=
  L2.walk_of (n := 63) (k := 8) (x := "_law_script") (CX := fun _ => CX0) (sp := fun w => sp_law (K w.params)) hn (by decide) hdf ⟨rfl, by decide, by decide⟩ hY F (fun _ _ a ns hl _ hS => ⟨a, ns, rfl, hS, hl, fun _ => rfl⟩) fun _ _ _ _ _ z => z
end K41
open PySem PySem.W PyProof.Rows
set_option maxRecDepth 100000 in
set_option maxHeartbeats 0 in
theorem PySem.Challenge.cw_holdlane_k41_one_lane_between_doors_holds : PySem.Challenge.rw_holdlane_k41_one_lane_between_doors.Holds := by
  w_on; o_law
  refine HD.head (by rfl) (by rfl) (by rfl) (by rfl) (by first | assumption | decide +kernel) (by decide +kernel) ⟨rfl, rfl, rfl, rfl, rfl, by decide +kernel⟩ rfl (fun _ => rfl) ?_ ?_
  · w_witness2
  k_fill
  refine K41.walk (l := PySem.Challenge.rw_holdlane_k41_one_lane_between_doors) rfl rfl (fun w h Y => PySem.W.kIn_of Y) ?F
  case F =>
    intro w mg fa h KX G hmg
    refine' K41.all_mk KX G hmg ?aC_Give ?pg_Give ?hd_Give ?po_Give ?sa_Give ?mk_Give ?kc_Give ?fm_Give___init__ ?fm_Give_kind ?fm_Give_taking ?fm_Give_lacks ?fm_Give_worked ?fm_Give_start ?na_Give_name ?na_Give_numbers ?na_Give_ins ?na_Give_outs ?aC_Take ?pg_Take ?hd_Take ?po_Take ?sa_Take ?mk_Take ?kc_Take ?fm_Take___init__ ?fm_Take_kind ?fm_Take_taking ?fm_Take_lacks ?fm_Take_worked ?fm_Take_start ?na_Take_name ?na_Take_numbers ?na_Take_ins ?na_Take_outs ?aC_Net ?pg_Net ?hd_Net ?po_Net ?sa_Net ?mk_Net ?kc_Net ?fm_Net___init__ ?fm_Net_lane_names ?fm_Net_part_names ?fm_Net_need_lane_name ?fm_Net_room_of ?fm_Net_first_of ?fm_Net_part_of ?fm_Net_names_of_kind ?fm_Net_gives ?fm_Net_takes ?na_Net_rooms ?na_Net_firsts ?na_Net_parts ?na_Net_givers ?na_Net_takers ?aC_Flow ?pg_Flow ?hd_Flow ?po_Flow ?sa_Flow ?mk_Flow ?kc_Flow ?fm_Flow___init__ ?fm_Flow_holds ?fm_Flow_held_now ?fm_Flow_gone_by ?fm_Flow_row_left ?fm_Flow_head ?fm_Flow_row_ended ?fm_Flow_heads ?fm_Flow_lacking ?fm_Flow_deed ?fm_Flow_do ?na_Flow_net ?na_Flow_ever ?na_Flow_gone ?na_Flow_kept ?na_Flow_done ?na_Flow_rows ?aC_Run ?pg_Run ?hd_Run ?po_Run ?sa_Run ?mk_Run ?kc_Run ?fm_Run___init__ ?fm_Run_step ?fm_Run_need_doors ?fm_Run_next_deed ?fm_Run_full_lane ?fm_Run_can_work ?fm_Run_works ?fm_Run_taken ?fm_Run_lane_now ?fm_Run_had ?fm_Run_turn ?fm_Run_rows_left ?na_Run_net ?na_Run_flow ?na_Run_turns ?a0 ?l0 ?c0 ?k0 ?a1 ?l1 ?c1 ?k1 ?a2 ?l2 ?c2 ?k2 ?i3 ?l3 ?c3 ?k3 ?i4 ?l4 ?c4 ?k4 ?i5 ?l5 ?c5 ?k5 ?i6 ?l6 ?c6 ?k6 ?i7 ?l7 ?c7 ?k7 ?i8 ?l8 ?c8 ?k8 ?i9 ?l9 ?c9 ?k9 ?a10 ?l10 ?c10 ?k10 ?a11 ?l11 ?c11 ?k11 ?a12 ?l12 ?c12 ?k12 ?a13 ?l13 ?c13 ?k13 ?a14 ?l14 ?c14 ?k14 ?a15 ?l15 ?c15 ?k15 ?i16 ?l16 ?c16 ?k16 ?i17 ?l17 ?c17 ?k17 ?i18 ?l18 ?c18 ?k18 ?i19 ?l19 ?c19 ?k19 ?i20 ?l20 ?c20 ?k20 ?i21 ?l21 ?c21 ?k21 ?i22 ?l22 ?c22 ?k22 ?i23 ?l23 ?c23 ?k23 ?i24 ?l24 ?c24 ?k24 ?i25 ?l25 ?c25 ?k25 ?i26 ?l26 ?c26 ?k26 ?i27 ?l27 ?c27 ?k27 ?i28 ?l28 ?c28 ?k28 ?i29 ?l29 ?c29 ?k29 ?i30 ?l30 ?c30 ?k30 ?i31 ?l31 ?c31 ?k31 ?i32 ?l32 ?c32 ?k32 ?i33 ?l33 ?c33 ?k33 ?i34 ?l34 ?c34 ?k34 ?i35 ?l35 ?c35 ?k35 ?i36 ?l36 ?c36 ?k36 ?i37 ?l37 ?c37 ?k37 ?i38 ?l38 ?c38 ?k38 ?i39 ?l39 ?c39 ?k39 ?i40 ?l40 ?c40 ?k40 ?i41 ?l41 ?c41 ?k41 ?i42 ?l42 ?c42 ?k42 ?i43 ?l43 ?c43 ?k43 ?i44 ?l44 ?c44 ?k44 ?i45 ?l45 ?d45 ?c45 ?k45 ?a46 ?l46 ?c46 ?k46 ?a47 ?l47 ?c47 ?k47 ?a48 ?l48 ?c48 ?k48 ?a49 ?l49 ?c49 ?k49 ?a50 ?l50 ?c50 ?k50 ?a51 ?l51 ?c51 ?k51 ?a52 ?l52 ?c52 ?k52 ?a53 ?l53 ?c53 ?k53 ?a54 ?l54 ?c54 ?k54 ?i55 ?l55 ?c55 ?k55 ?i56 ?l56 ?c56 ?k56 ?i57 ?l57 ?c57 ?k57 ?a58 ?l58 ?c58 ?k58 ?a59 ?l59 ?c59 ?k59 ?i60 ?l60 ?c60 ?k60 ?a61 ?l61 ?c61 ?k61 ?a62 ?l62 ?c62 ?k62 ?a63 ?l63 ?c63 ?k63 ?a64 ?l64 ?c64 ?k64 ?a65 ?l65 ?c65 ?k65 ?z_all ?z_bool ?z_enumerate ?z_int ?z_isinstance ?z_len ?z_list ?z_max ?z_min ?z_range ?z_str ?z_tuple ?y_VALUES ?r_VALUES ?y_LETTERS ?r_LETTERS ?y_LONGEST_NAME ?r_LONGEST_NAME ?y_FIGURES ?r_FIGURES ?y_MOST_LANES ?r_MOST_LANES ?y_MOST_PARTS ?r_MOST_PARTS ?y_MOST_ROOM ?r_MOST_ROOM ?y_LONGEST_ROW ?r_LONGEST_ROW ?yt_COUNTS ?rt_COUNTS
    (case aC_Give => k_is)
    (case pg_Give => k_is)
    (case hd_Give => k_is)
    (case po_Give => k_is)
    (case sa_Give => k_is)
    (case mk_Give => k_is)
    (case kc_Give => k_is)
    (case fm_Give___init__ => k_is)
    (case fm_Give_kind => k_is)
    (case fm_Give_taking => k_is)
    (case fm_Give_lacks => k_is)
    (case fm_Give_worked => k_is)
    (case fm_Give_start => k_is)
    (case na_Give_name => k_is)
    (case na_Give_numbers => k_is)
    (case na_Give_ins => k_is)
    (case na_Give_outs => k_is)
    (case aC_Take => k_is)
    (case pg_Take => k_is)
    (case hd_Take => k_is)
    (case po_Take => k_is)
    (case sa_Take => k_is)
    (case mk_Take => k_is)
    (case kc_Take => k_is)
    (case fm_Take___init__ => k_is)
    (case fm_Take_kind => k_is)
    (case fm_Take_taking => k_is)
    (case fm_Take_lacks => k_is)
    (case fm_Take_worked => k_is)
    (case fm_Take_start => k_is)
    (case na_Take_name => k_is)
    (case na_Take_numbers => k_is)
    (case na_Take_ins => k_is)
    (case na_Take_outs => k_is)
    (case aC_Net => k_is)
    (case pg_Net => k_is)
    (case hd_Net => k_is)
    (case po_Net => k_is)
    (case sa_Net => k_is)
    (case mk_Net => k_is)
    (case kc_Net => k_is)
    (case fm_Net___init__ => k_is)
    (case fm_Net_lane_names => k_is)
    (case fm_Net_part_names => k_is)
    (case fm_Net_need_lane_name => k_is)
    (case fm_Net_room_of => k_is)
    (case fm_Net_first_of => k_is)
    (case fm_Net_part_of => k_is)
    (case fm_Net_names_of_kind => k_is)
    (case fm_Net_gives => k_is)
    (case fm_Net_takes => k_is)
    (case na_Net_rooms => k_is)
    (case na_Net_firsts => k_is)
    (case na_Net_parts => k_is)
    (case na_Net_givers => k_is)
    (case na_Net_takers => k_is)
    (case aC_Flow => k_is)
    (case pg_Flow => k_is)
    (case hd_Flow => k_is)
    (case po_Flow => k_is)
    (case sa_Flow => k_is)
    (case mk_Flow => k_is)
    (case kc_Flow => k_is)
    (case fm_Flow___init__ => k_is)
    (case fm_Flow_holds => k_is)
    (case fm_Flow_held_now => k_is)
    (case fm_Flow_gone_by => k_is)
    (case fm_Flow_row_left => k_is)
    (case fm_Flow_head => k_is)
    (case fm_Flow_row_ended => k_is)
    (case fm_Flow_heads => k_is)
    (case fm_Flow_lacking => k_is)
    (case fm_Flow_deed => k_is)
    (case fm_Flow_do => k_is)
    (case na_Flow_net => k_is)
    (case na_Flow_ever => k_is)
    (case na_Flow_gone => k_is)
    (case na_Flow_kept => k_is)
    (case na_Flow_done => k_is)
    (case na_Flow_rows => k_is)
    (case aC_Run => k_is)
    (case pg_Run => k_is)
    (case hd_Run => k_is)
    (case po_Run => k_is)
    (case sa_Run => k_is)
    (case mk_Run => k_is)
    (case kc_Run => k_is)
    (case fm_Run___init__ => k_is)
    (case fm_Run_step => k_is)
    (case fm_Run_need_doors => k_is)
    (case fm_Run_next_deed => k_is)
    (case fm_Run_full_lane => k_is)
    (case fm_Run_can_work => k_is)
    (case fm_Run_works => k_is)
    (case fm_Run_taken => k_is)
    (case fm_Run_lane_now => k_is)
    (case fm_Run_had => k_is)
    (case fm_Run_turn => k_is)
    (case fm_Run_rows_left => k_is)
    (case na_Run_net => k_is)
    (case na_Run_flow => k_is)
    (case na_Run_turns => k_is)
    (case a0 => k_is)
    (case l0 => k_is)
    (case c0 => k_is)
    (case k0 => k_is)
    (case a1 => k_is)
    (case l1 => k_is)
    (case c1 => k_is)
    (case k1 => k_is)
    (case a2 => k_is)
    (case l2 => k_is)
    (case c2 => k_is)
    (case k2 => k_is)
    (case i3 => k_is)
    (case l3 => k_is)
    (case c3 => k_is)
    (case k3 => k_is)
    (case i4 => k_is)
    (case l4 => k_is)
    (case c4 => k_is)
    (case k4 => k_is)
    (case i5 => k_is)
    (case l5 => k_is)
    (case c5 => k_is)
    (case k5 => k_is)
    (case i6 => k_is)
    (case l6 => k_is)
    (case c6 => k_is)
    (case k6 => k_is)
    (case i7 => k_is)
    (case l7 => k_is)
    (case c7 => k_is)
    (case k7 => k_is)
    (case i8 => k_is)
    (case l8 => k_is)
    (case c8 => k_is)
    (case k8 => k_is)
    (case i9 => k_is)
    (case l9 => k_is)
    (case c9 => k_is)
    (case k9 => k_is)
    (case a10 => k_is)
    (case l10 => k_is)
    (case c10 => k_is)
    (case k10 => k_is)
    (case a11 => k_is)
    (case l11 => k_is)
    (case c11 => k_is)
    (case k11 => k_is)
    (case a12 => k_is)
    (case l12 => k_is)
    (case c12 => k_is)
    (case k12 => k_is)
    (case a13 => k_is)
    (case l13 => k_is)
    (case c13 => k_is)
    (case k13 => k_is)
    (case a14 => k_is)
    (case l14 => k_is)
    (case c14 => k_is)
    (case k14 => k_is)
    (case a15 => k_is)
    (case l15 => k_is)
    (case c15 => k_is)
    (case k15 => k_is)
    (case i16 => k_is)
    (case l16 => k_is)
    (case c16 => k_is)
    (case k16 => k_is)
    (case i17 => k_is)
    (case l17 => k_is)
    (case c17 => k_is)
    (case k17 => k_is)
    (case i18 => k_is)
    (case l18 => k_is)
    (case c18 => k_is)
    (case k18 => k_is)
    (case i19 => k_is)
    (case l19 => k_is)
    (case c19 => k_is)
    (case k19 => k_is)
    (case i20 => k_is)
    (case l20 => k_is)
    (case c20 => k_is)
    (case k20 => k_is)
    (case i21 => k_is)
    (case l21 => k_is)
    (case c21 => k_is)
    (case k21 => k_is)
    (case i22 => k_is)
    (case l22 => k_is)
    (case c22 => k_is)
    (case k22 => k_is)
    (case i23 => k_is)
    (case l23 => k_is)
    (case c23 => k_is)
    (case k23 => k_is)
    (case i24 => k_is)
    (case l24 => k_is)
    (case c24 => k_is)
    (case k24 => k_is)
    (case i25 => k_is)
    (case l25 => k_is)
    (case c25 => k_is)
    (case k25 => k_is)
    (case i26 => k_is)
    (case l26 => k_is)
    (case c26 => k_is)
    (case k26 => k_is)
    (case i27 => k_is)
    (case l27 => k_is)
    (case c27 => k_is)
    (case k27 => k_is)
    (case i28 => k_is)
    (case l28 => k_is)
    (case c28 => k_is)
    (case k28 => k_is)
    (case i29 => k_is)
    (case l29 => k_is)
    (case c29 => k_is)
    (case k29 => k_is)
    (case i30 => k_is)
    (case l30 => k_is)
    (case c30 => k_is)
    (case k30 => k_is)
    (case i31 => k_is)
    (case l31 => k_is)
    (case c31 => k_is)
    (case k31 => k_is)
    (case i32 => k_is)
    (case l32 => k_is)
    (case c32 => k_is)
    (case k32 => k_is)
    (case i33 => k_is)
    (case l33 => k_is)
    (case c33 => k_is)
    (case k33 => k_is)
    (case i34 => k_is)
    (case l34 => k_is)
    (case c34 => k_is)
    (case k34 => k_is)
    (case i35 => k_is)
    (case l35 => k_is)
    (case c35 => k_is)
    (case k35 => k_is)
    (case i36 => k_is)
    (case l36 => k_is)
    (case c36 => k_is)
    (case k36 => k_is)
    (case i37 => k_is)
    (case l37 => k_is)
    (case c37 => k_is)
    (case k37 => k_is)
    (case i38 => k_is)
    (case l38 => k_is)
    (case c38 => k_is)
    (case k38 => k_is)
    (case i39 => k_is)
    (case l39 => k_is)
    (case c39 => k_is)
    (case k39 => k_is)
    (case i40 => k_is)
    (case l40 => k_is)
    (case c40 => k_is)
    (case k40 => k_is)
    (case i41 => k_is)
    (case l41 => k_is)
    (case c41 => k_is)
    (case k41 => k_is)
    (case i42 => k_is)
    (case l42 => k_is)
    (case c42 => k_is)
    (case k42 => k_is)
    (case i43 => k_is)
    (case l43 => k_is)
    (case c43 => k_is)
    (case k43 => k_is)
    (case i44 => k_is)
    (case l44 => k_is)
    (case c44 => k_is)
    (case k44 => k_is)
    (case i45 => k_is)
    (case l45 => k_is)
    (case d45 => k_is)
    (case c45 => k_is)
    (case k45 => k_is)
    (case a46 => k_is)
    (case l46 => k_is)
    (case c46 => k_is)
    (case k46 => k_is)
    (case a47 => k_is)
    (case l47 => k_is)
    (case c47 => k_is)
    (case k47 => k_is)
    (case a48 => k_is)
    (case l48 => k_is)
    (case c48 => k_is)
    (case k48 => k_is)
    (case a49 => k_is)
    (case l49 => k_is)
    (case c49 => k_is)
    (case k49 => k_is)
    (case a50 => k_is)
    (case l50 => k_is)
    (case c50 => k_is)
    (case k50 => k_is)
    (case a51 => k_is)
    (case l51 => k_is)
    (case c51 => k_is)
    (case k51 => k_is)
    (case a52 => k_is)
    (case l52 => k_is)
    (case c52 => k_is)
    (case k52 => k_is)
    (case a53 => k_is)
    (case l53 => k_is)
    (case c53 => k_is)
    (case k53 => k_is)
    (case a54 => k_is)
    (case l54 => k_is)
    (case c54 => k_is)
    (case k54 => k_is)
    (case i55 => k_is)
    (case l55 => k_is)
    (case c55 => k_is)
    (case k55 => k_is)
    (case i56 => k_is)
    (case l56 => k_is)
    (case c56 => k_is)
    (case k56 => k_is)
    (case i57 => k_is)
    (case l57 => k_is)
    (case c57 => k_is)
    (case k57 => k_is)
    (case a58 => k_is)
    (case l58 => k_is)
    (case c58 => k_is)
    (case k58 => k_is)
    (case a59 => k_is)
    (case l59 => k_is)
    (case c59 => k_is)
    (case k59 => k_is)
    (case i60 => k_is)
    (case l60 => k_is)
    (case c60 => k_is)
    (case k60 => k_is)
    (case a61 => k_is)
    (case l61 => k_is)
    (case c61 => k_is)
    (case k61 => k_is)
    (case a62 => k_is)
    (case l62 => k_is)
    (case c62 => k_is)
    (case k62 => k_is)
    (case a63 => k_is)
    (case l63 => k_is)
    (case c63 => k_is)
    (case k63 => k_is)
    (case a64 => k_is)
    (case l64 => k_is)
    (case c64 => k_is)
    (case k64 => k_is)
    (case a65 => k_is)
    (case l65 => k_is)
    (case c65 => k_is)
    (case k65 => k_is)
    (case z_all => k_is)
    (case z_bool => k_is)
    (case z_enumerate => k_is)
    (case z_int => k_is)
    (case z_isinstance => k_is)
    (case z_len => k_is)
    (case z_list => k_is)
    (case z_max => k_is)
    (case z_min => k_is)
    (case z_range => k_is)
    (case z_str => k_is)
    (case z_tuple => k_is)
    (case y_VALUES => k_is)
    (case r_VALUES => exact ⟨_, rfl⟩)
    (case y_LETTERS => k_is)
    (case r_LETTERS => exact ⟨_, rfl⟩)
    (case y_LONGEST_NAME => k_is)
    (case r_LONGEST_NAME => exact ⟨_, rfl⟩)
    (case y_FIGURES => k_is)
    (case r_FIGURES => exact ⟨_, rfl⟩)
    (case y_MOST_LANES => k_is)
    (case r_MOST_LANES => exact ⟨_, rfl⟩)
    (case y_MOST_PARTS => k_is)
    (case r_MOST_PARTS => exact ⟨_, rfl⟩)
    (case y_MOST_ROOM => k_is)
    (case r_MOST_ROOM => exact ⟨_, rfl⟩)
    (case y_LONGEST_ROW => k_is)
    (case r_LONGEST_ROW => exact ⟨_, rfl⟩)
    (case yt_COUNTS => k_is)
    (case rt_COUNTS => 
      refine' L2.KTab.mk' ?lk ?c1 ?c2 ?c3 ?c4 ?sm ?rows ?nd
      (case lk => k_is)
      (case c1 => exact rfl)
      (case c2 => exact rfl)
      (case c3 => exact rfl)
      (case c4 => exact rfl)
      (case sm => exact rfl)
      (case nd => decide +kernel)
      (case rows =>
        refine' L2.KRows.cons ?hh0 ?lk0 ?cc0 ?dd0 ?vv0 ?zz0 ?rest0
        (case hh0 => exact rfl)
        (case lk0 => k_is)
        (case cc0 => exact rfl)
        (case dd0 => exact rfl)
        (case vv0 => exact .cons ⟨_, rfl⟩ (.cons ⟨_, rfl⟩ (.cons ⟨_, rfl⟩ .nil)))
        (case zz0 => decide)
        refine' L2.KRows.cons ?hh1 ?lk1 ?cc1 ?dd1 ?vv1 ?zz1 ?rest1
        (case hh1 => exact rfl)
        (case lk1 => k_is)
        (case cc1 => exact rfl)
        (case dd1 => exact rfl)
        (case vv1 => exact .cons ⟨_, rfl⟩ (.cons ⟨_, rfl⟩ (.cons ⟨_, rfl⟩ .nil)))
        (case zz1 => decide)
        refine' L2.KRows.cons ?hh2 ?lk2 ?cc2 ?dd2 ?vv2 ?zz2 ?rest2
        (case hh2 => exact rfl)
        (case lk2 => k_is)
        (case cc2 => exact rfl)
        (case dd2 => exact rfl)
        (case vv2 => exact .cons ⟨_, rfl⟩ (.cons ⟨_, rfl⟩ (.cons ⟨_, rfl⟩ .nil)))
        (case zz2 => decide)
        refine' L2.KRows.cons ?hh3 ?lk3 ?cc3 ?dd3 ?vv3 ?zz3 ?rest3
        (case hh3 => exact rfl)
        (case lk3 => k_is)
        (case cc3 => exact rfl)
        (case dd3 => exact rfl)
        (case vv3 => exact .cons ⟨_, rfl⟩ (.cons ⟨_, rfl⟩ (.cons ⟨_, rfl⟩ .nil)))
        (case zz3 => decide)
        refine' L2.KRows.cons ?hh4 ?lk4 ?cc4 ?dd4 ?vv4 ?zz4 ?rest4
        (case hh4 => exact rfl)
        (case lk4 => k_is)
        (case cc4 => exact rfl)
        (case dd4 => exact rfl)
        (case vv4 => exact .cons ⟨_, rfl⟩ (.cons ⟨_, rfl⟩ (.cons ⟨_, rfl⟩ .nil)))
        (case zz4 => decide)
        refine' L2.KRows.cons ?hh5 ?lk5 ?cc5 ?dd5 ?vv5 ?zz5 ?rest5
        (case hh5 => exact rfl)
        (case lk5 => k_is)
        (case cc5 => exact rfl)
        (case dd5 => exact rfl)
        (case vv5 => exact .cons ⟨_, rfl⟩ (.cons ⟨_, rfl⟩ (.cons ⟨_, rfl⟩ .nil)))
        (case zz5 => decide)
        refine' L2.KRows.cons ?hh6 ?lk6 ?cc6 ?dd6 ?vv6 ?zz6 ?rest6
        (case hh6 => exact rfl)
        (case lk6 => k_is)
        (case cc6 => exact rfl)
        (case dd6 => exact rfl)
        (case vv6 => exact .cons ⟨_, rfl⟩ (.cons ⟨_, rfl⟩ (.cons ⟨_, rfl⟩ .nil)))
        (case zz6 => decide)
        refine' L2.KRows.cons ?hh7 ?lk7 ?cc7 ?dd7 ?vv7 ?zz7 ?rest7
        (case hh7 => exact rfl)
        (case lk7 => k_is)
        (case cc7 => exact rfl)
        (case dd7 => exact rfl)
        (case vv7 => exact .cons ⟨_, rfl⟩ (.cons ⟨_, rfl⟩ (.cons ⟨_, rfl⟩ .nil)))
        (case zz7 => decide)
        refine' L2.KRows.cons ?hh8 ?lk8 ?cc8 ?dd8 ?vv8 ?zz8 ?rest8
        (case hh8 => exact rfl)
        (case lk8 => k_is)
        (case cc8 => exact rfl)
        (case dd8 => exact rfl)
        (case vv8 => exact .cons ⟨_, rfl⟩ (.cons ⟨_, rfl⟩ (.cons ⟨_, rfl⟩ .nil)))
        (case zz8 => decide)
        refine' L2.KRows.cons ?hh9 ?lk9 ?cc9 ?dd9 ?vv9 ?zz9 ?rest9
        (case hh9 => exact rfl)
        (case lk9 => k_is)
        (case cc9 => exact rfl)
        (case dd9 => exact rfl)
        (case vv9 => exact .cons ⟨_, rfl⟩ (.cons ⟨_, rfl⟩ (.cons ⟨_, rfl⟩ .nil)))
        (case zz9 => decide)
        refine' L2.KRows.cons ?hh10 ?lk10 ?cc10 ?dd10 ?vv10 ?zz10 ?rest10
        (case hh10 => exact rfl)
        (case lk10 => k_is)
        (case cc10 => exact rfl)
        (case dd10 => exact rfl)
        (case vv10 => exact .cons ⟨_, rfl⟩ (.cons ⟨_, rfl⟩ (.cons ⟨_, rfl⟩ .nil)))
        (case zz10 => decide)
        exact .nil))

