/- Maps, as lists of what they hold. -/
import Derived.Test.YtkbomifmijafgaaDoorT0
import Derived.Maps.Keyed
import Derived.DeepKeys4
namespace Go.Proofs.YtkbomifmijafgaaDoor.Sx
open Go.RowKit Go.Sort Go.Maps Go.WideMaps

theorem laidOut : laidOutB Tryd.prog = true := by kernel_rfl
theorem law44 : Keyed Tryd.prog 44 := .of_law (deep_law_laid laidOut (m := 2) (by omega) (of_decide_eq_true (by kernel_rfl)) (by kernel_rfl) (by kernel_rfl))
theorem law62 : Keyed Tryd.prog 62 := .of_law (deep_law_laid laidOut (m := 2) (by omega) (of_decide_eq_true (by kernel_rfl)) (by kernel_rfl) (by kernel_rfl))
theorem law29 : Keyed Tryd.prog 29 := int_keyed Tryd.underlying29

/-- numbers that an int holds -/
def Fits (a : Int) : Prop := -9223372036854775808 ≤ a ∧ a ≤ 9223372036854775807

def Key (k : TypeId) (v : Value) : Prop := ∃ l, keyOf Tryd.prog k v = some l
theorem wf64 {a : Int} (h : Fits a) : (Lit.int .i64 a).wf = true := by
  have h1 : (IntKind.i64).min = -9223372036854775808 := by decide
  have h2 : (IntKind.i64).max = 9223372036854775807 := by decide
  unfold Fits at h
  simp [Lit.wf, h1, h2, h.1, h.2]
theorem lits_int {t : TypeId} (ht : Tryd.prog.underlying t = some (.int .i64)) (d : Nat) {a : Int} (ha : Fits a) : Tryd.prog.keyLits (d + 1) t [.int .i64 a] = some [.int .i64 a] := by
  have := wf64 ha
  simp [Program.keyLits, ht, this]
theorem size_two : ∃ d, Tryd.prog.types.size + 1 = d + 2 := ⟨131, by have hs : Tryd.prog.types.size = 132 := by kernel_rfl
                                                                     rw [hs]⟩
theorem key44 {a b c : Int} (ha : Fits a) (hb : Fits b) (hc : Fits c) : Key 44 (.agg #[.int .i64 a, .int .i64 b, .int .i64 c]) := by
  have ht : Tryd.prog.keyType 44 = true := by kernel_rfl
  have c44 : Tryd.prog.cellsOf 44 = 3 := by kernel_rfl
  have c3 : Tryd.prog.cellsOf 3 = 1 := by kernel_rfl
  have c29 : Tryd.prog.cellsOf 29 = 1 := by kernel_rfl
  obtain ⟨d, hd⟩ := size_two
  have hf : (Value.agg #[.int .i64 a, .int .i64 b, .int .i64 c]).formed Tryd.prog 44 = true := by simp only [Value.formed, Tryd.underlying44, c44]; rfl
  unfold Key keyOf
  simp only [Tryd.underlying44, ht, hd, hf, Bool.and_self, if_true, Value.cells]
  unfold Program.keyLits
  simp only [Tryd.underlying44, c44]
  simp [List.mapM_cons, c3, c29, lits_int Tryd.underlying3 _ ha, lits_int Tryd.underlying29 _ hb, lits_int Tryd.underlying29 _ hc]
theorem key62 {a b c : Int} (ha : Fits a) (hb : Fits b) (hc : Fits c) : Key 62 (.agg #[.int .i64 a, .int .i64 b, .int .i64 c]) := by
  have ht : Tryd.prog.keyType 62 = true := by kernel_rfl
  have c62 : Tryd.prog.cellsOf 62 = 3 := by kernel_rfl
  have c29 : Tryd.prog.cellsOf 29 = 1 := by kernel_rfl
  obtain ⟨d, hd⟩ := size_two
  have hr : List.range 3 = [0, 1, 2] := rfl
  have hf : (Value.agg #[.int .i64 a, .int .i64 b, .int .i64 c]).formed Tryd.prog 62 = true := by simp only [Value.formed, Tryd.underlying62, c62]; rfl
  unfold Key keyOf
  simp only [Tryd.underlying62, ht, hd, hf, Bool.and_self, if_true, Value.cells]
  unfold Program.keyLits
  simp only [Tryd.underlying62, c62]
  simp [hr, List.mapM_cons, c29, lits_int Tryd.underlying29 _ ha, lits_int Tryd.underlying29 _ hb, lits_int Tryd.underlying29 _ hc]
theorem key29 {a : Int} (ha : Fits a) : Key 29 (.int .i64 a) := by
  have h1 := wf64 ha
  unfold Key keyOf
  simp [Tryd.underlying29, mapKey, h1]

/-- a map holds these, one behind the other -/
def MapIs (k : TypeId) (w : World) (m : Nat) (l : List (Value × Value)) : Prop :=
  ∃ es clock, w.heap[m]? = some (.map es clock) ∧ es.toList.map (fun e => (e.key, e.val)) = l ∧ ∀ p ∈ l, Key k p.1

theorem MapIs.lt {k : TypeId} {w : World} {m : Nat} {l : List (Value × Value)} (h : MapIs k w m l) : m < w.heap.size := by
  obtain ⟨es, c, h1, _⟩ := h
  exact block_lt h1
theorem MapIs.of {k : TypeId} {w w' : World} {m : Nat} {l : List (Value × Value)} (h : MapIs k w m l) {P : Nat → Prop} (f : Fr P w w') (hp : P m) : MapIs k w' m l := by
  obtain ⟨es, c, h1, h2⟩ := h
  exact ⟨es, c, (f.block m (block_lt h1) hp).trans h1, h2⟩
theorem MapIs.new (k : TypeId) (w : World) : MapIs k (w.alloc (.map #[] 0)) w.heap.size [] := ⟨#[], 0, (MapKept.heap_alloc w _).1, by simp, by simp⟩

theorem MapIs.hit {k t e : TypeId} {w : World} {m : Nat} {l : List (Value × Value)} (h : MapIs k w m l) (K : Keyed Tryd.prog k) (ht : Tryd.prog.underlying t = some (.map k e)) {x v : Value} (hx : Key k x) (hm : (x, v) ∈ l) (hu : ∀ p ∈ l, p.1 = x → p.2 = v) :
    (Instr.lookup t (.map (some m)) x true).run Tryd.prog w = .ok (.tuple #[v, .bool true]) w := by
  obtain ⟨es, c, h1, rfl, h3⟩ := h
  obtain ⟨kl, hkey⟩ := hx
  have hk : ∀ e ∈ es.toList, ∃ l, keyOf Tryd.prog k e.key = some l := fun e he => h3 (e.key, e.val) (List.mem_map.2 ⟨e, he, rfl⟩)
  rcases K.find w hkey es.toList hk with ⟨_, q2⟩ | ⟨j, e0, q1, q2, q3⟩
  · obtain ⟨e1, he1, he2⟩ := List.mem_map.1 hm
    exact absurd (congrArg Prod.fst he2) (q2 e1 he1)
  · have := hu (e0.key, e0.val) (List.mem_map.2 ⟨e0, List.mem_of_getElem? q2, rfl⟩) q3
    simp only at this
    subst this
    simp [Instr.lookup, run_underlying ht, MapKept.run_getObj_map h1, K.check w _ hkey, q1, Result.andThen]
theorem MapIs.miss {k t e : TypeId} {w : World} {m : Nat} {l : List (Value × Value)} (h : MapIs k w m l) (K : Keyed Tryd.prog k) (ht : Tryd.prog.underlying t = some (.map k e)) {z : Value} (hz : (zeroValue e).run Tryd.prog w = .ok z w) {x : Value} (hx : Key k x) (hu : ∀ p ∈ l, p.1 ≠ x) :
    (Instr.lookup t (.map (some m)) x true).run Tryd.prog w = .ok (.tuple #[z, .bool false]) w := by
  obtain ⟨es, c, h1, rfl, h3⟩ := h
  obtain ⟨kl, hkey⟩ := hx
  have hk : ∀ e ∈ es.toList, ∃ l, keyOf Tryd.prog k e.key = some l := fun e he => h3 (e.key, e.val) (List.mem_map.2 ⟨e, he, rfl⟩)
  rcases K.find w hkey es.toList hk with ⟨q1, _⟩ | ⟨j, e0, q1, q2, q3⟩
  · simp [Instr.lookup, run_underlying ht, MapKept.run_getObj_map h1, K.check w _ hkey, q1, hz, Result.andThen]
  · exact absurd q3 (hu (e0.key, e0.val) (List.mem_map.2 ⟨e0, List.mem_of_getElem? q2, rfl⟩))
theorem MapIs.put {k t e : TypeId} {w : World} {m : Nat} {l : List (Value × Value)} (h : MapIs k w m l) (K : Keyed Tryd.prog k) (ht : Tryd.prog.underlying t = some (.map k e)) {x : Value} (hx : Key k x) (hu : ∀ p ∈ l, p.1 ≠ x) (v : Value) :
    ∃ w', (Instr.mapUpdate t (.map (some m)) x v).run Tryd.prog w = .ok () w' ∧ MapIs k w' m (l ++ [(x, v)]) ∧ Fr (· ≠ m) w w' := by
  obtain ⟨es, c, h1, rfl, h3⟩ := h
  obtain ⟨kl, hkey⟩ := hx
  have hk : ∀ e ∈ es.toList, ∃ l, keyOf Tryd.prog k e.key = some l := fun e he => h3 (e.key, e.val) (List.mem_map.2 ⟨e, he, rfl⟩)
  rcases K.find w hkey es.toList hk with ⟨q1, _⟩ | ⟨j, e0, q1, q2, q3⟩
  · refine ⟨ChangeMaps.setBlock w m (.map (es.push ⟨x, v, c⟩) (c + 1)), ?_, ⟨es.push ⟨x, v, c⟩, c + 1, ChangeMaps.heap_setBlock_same h1 _, by simp, ?_⟩, ⟨rfl, rfl, rfl, by simp [ChangeMaps.setBlock], fun i _ hi => ChangeMaps.heap_setBlock_other h1 _ hi⟩⟩
    · simp [Instr.mapUpdate, run_underlying ht, MapKept.run_getObj_map h1, K.check w false hkey, q1, MapKept.run_setObj_map _ h1, Result.andThen, ChangeMaps.setBlock]
    · intro p hp
      rcases List.mem_append.1 hp with hp | hp
      · exact h3 p hp
      · obtain rfl : p = (x, v) := by simpa using hp
        exact ⟨kl, hkey⟩
  · exact absurd q3 (hu (e0.key, e0.val) (List.mem_map.2 ⟨e0, List.mem_of_getElem? q2, rfl⟩))
theorem MapIs.clear {k : TypeId} {w : World} {m : Nat} {l : List (Value × Value)} (h : MapIs k w m l) (t : TypeId) (d : TypeDesc) (ht : Tryd.prog.underlying t = some d) (ty : TypeId) :
    ∃ w', (Builtin.clear_ #[t] ty #[.map (some m)]).run Tryd.prog w = .ok (.tuple #[]) w' ∧ MapIs k w' m [] ∧ Fr (· ≠ m) w w' := by
  obtain ⟨es, c, h1, rfl, h3⟩ := h
  refine ⟨ChangeMaps.setBlock w m (.map #[] c), ?_, ⟨#[], c, ChangeMaps.heap_setBlock_same h1 _, by simp, by simp⟩, ⟨rfl, rfl, rfl, by simp [ChangeMaps.setBlock], fun i _ hi => ChangeMaps.heap_setBlock_other h1 _ hi⟩⟩
  simp [Builtin.clear_, run_underlying ht, MapKept.run_getObj_map h1, MapKept.run_setObj_map _ h1, Result.andThen, ChangeMaps.setBlock]
theorem MapIs.len {k : TypeId} {w : World} {m : Nat} {l : List (Value × Value)} (h : MapIs k w m l) {t k' e' : TypeId} (ht : Tryd.prog.underlying t = some (.map k' e')) (ty : TypeId) :
    (Builtin.len_ #[t] ty #[.map (some m)]).run Tryd.prog w = .ok (.int .i64 (l.length : Int)) w := by
  obtain ⟨es, c, h1, rfl, h3⟩ := h
  simp [Builtin.len_, run_underlying ht, MapKept.run_getObj_map h1, Result.andThen, goInt]

end Go.Proofs.YtkbomifmijafgaaDoor.Sx
