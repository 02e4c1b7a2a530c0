/- What comes in: clauses and lines, out of the arguments. -/
import Derived.Test.YtbicefgjompnoaaRows
import Derived.Test.YtbicefgjompnoaaA04
import Derived.Test.YtbicefgjompnoaaA45
import Derived.ProofKit
import Derived.OpenShut
import Derived.ChangeOld
import Derived.Below
import Derived.JoinedCond
import Derived.Deep.Matrix
import Derived.Deep.SlicePairs
import Derived.Deep.Grids
namespace Go.Proofs.Ytbicefgjompnoaa.Sx
open Go.RowKit Go.Sort Go.ChangeShapes Go.WideShapes Go.ChangeAt Go.Deep

theorem own : ownKnob Try.prog.godebug = none := by kernel_rfl
theorem laidOut : laidOutB Try.prog = true := by kernel_rfl
theorem cells3 : Try.prog.cellsOf 3 = 1 := by kernel_rfl
theorem cells31 : Try.prog.cellsOf 31 = 1 := by kernel_rfl
theorem cells36 : Try.prog.cellsOf 36 = 2 := by kernel_rfl
theorem cells4 : Try.prog.cellsOf 4 = 1 := by kernel_rfl

/-! the bound -/
section
theorem one_le {H : Type} (d : DataW H) : 1 ≤ Rows.uptoBulk d := by
  cases d with
  | lit l => cases l <;> simp [Rows.uptoBulk]
  | nil => simp [Rows.uptoBulk]
  | ptr d => simp [Rows.uptoBulk]
  | slice elems spare => simp [Rows.uptoBulk]
  | agg parts => simp [Rows.uptoBulk]
  | iface t d => simp [Rows.uptoBulk]
  | map entries => simp [Rows.uptoBulk]
  | held h => simp [Rows.uptoBulk]
theorem part_le {H : Type} {d : DataW H} {l : List (DataW H)} (h : d ∈ l) : Rows.uptoBulk d ≤ Rows.uptoBulkAll l := by
  induction l with
  | nil => cases h
  | cons x r ih =>
    simp only [Rows.uptoBulkAll]
    cases List.mem_cons.1 h with
    | inl e => subst e; omega
    | inr e => have := ih e; omega
theorem length_le {H : Type} (l : List (DataW H)) : l.length ≤ Rows.uptoBulkAll l := by
  induction l with
  | nil => simp [Rows.uptoBulkAll]
  | cons x r ih => have := one_le x; simp only [Rows.uptoBulkAll, List.length_cons]; omega
theorem slice_le {H : Type} (elems spare : List (DataW H)) : elems.length + 1 ≤ Rows.uptoBulk (.slice elems spare) := by
  have h1 := length_le elems
  simp only [Rows.uptoBulk]
  omega
theorem elem_le {H : Type} {d : DataW H} {elems spare : List (DataW H)} (h : d ∈ elems) : Rows.uptoBulk d ≤ Rows.uptoBulk (.slice elems spare) := by
  have h1 := part_le h
  simp only [Rows.uptoBulk]
  omega
theorem agg_le {H : Type} {d : DataW H} {parts : List (DataW H)} (h : d ∈ parts) : Rows.uptoBulk d ≤ Rows.uptoBulk (.agg parts) := by
  have h1 := part_le h
  simp only [Rows.uptoBulk]
  omega
end

section
variable {H : Type} {enc : TypeId × Value → H} {w : World} {base : Nat} {held : Bool}
/-- numbers -/
theorem ints_of {A : Option Addr} {L C : Nat} {Z : List Int} (h1 : L ≤ C) (h2 : Z.length = C) (h3 : A = none → C = 0) (h4 : ∀ a', A = some a' → ∀ c, c < C → w.cell? (a'.add c) = some (.int .i64 (Z.getD c 0))) (hb : L ≤ 1000000000000) : IntsAt w w.heap.size (.slice A L C) (Z.take L) := by
  have hl : (Z.take L).length = L := by rw [List.length_take]; omega
  refine ⟨⟨A, C, by rw [hl], ?_⟩, by rw [hl]; exact hb⟩
  by_cases h0 : L = 0
  · left; rw [h0]; rfl
  · right
    cases A with
    | none => have := h3 rfl; omega
    | some a =>
      have hc := h4 a rfl
      refine ⟨a, rfl, World.block_lt_of_cell? w _ (hc 0 (by omega)), fun i x hx => ?_⟩
      have hi : i < L := by have := (List.getElem?_eq_some_iff.1 hx).1; omega
      rw [hc i (by omega)]
      rw [List.getElem?_take_of_lt hi] at hx
      rw [List.getD_eq_getElem?_getD, hx]; rfl

/-- clauses -/
theorem cls_of {a0 : Option Addr} {l0 c0 : Nat} {d : DataW H} {p : List MemPlace} (h : DataW.Trod enc Try.prog w base (fun _ => true) held 22 (.slice a0 l0 c0) d p) (hk : Rows.uptoBulk d ≤ 1048576) : ∃ C : List (List Int), ClsAt w w.heap.size (.slice a0 l0 c0) C ∧ C.length ≤ 1048576 ∧ (∀ x ∈ C, x.length ≤ 1048576) ∧ ∀ x ∈ C, ∀ l ∈ x, -9223372036854775808 ≤ l ∧ l ≤ 9223372036854775807 := by
  obtain ⟨fuel, hf⟩ := h
  rcases open_int_rows Try.underlying22 Try.underlying31 Try.underlying3 cells31 cells3 hf with ⟨hcs, _⟩ | ⟨a, len, cap, A, L, C, Z, hcs, _, hl, hm, hx, hall⟩
  · simp [Value.cells] at hcs
    obtain ⟨rfl, rfl, rfl⟩ := hcs
    exact ⟨[], ⟨⟨none, 0, rfl, .inl rfl⟩, by simp⟩, by simp, by simp, by simp⟩
  · simp [Value.cells] at hcs
    obtain ⟨rfl, rfl, rfl⟩ := hcs
    have hd : d = _ := congrArg Prod.fst hx
    dsimp only at hd
    have hlen : l0 ≤ 1048576 := by
      rw [hd] at hk
      have := slice_le (H := H) ((List.range l0).map fun r => intRow .i64 (A r) (L r) (Z r)) ((List.range (c0 - l0)).map fun j => intRow .i64 (A (l0 + j)) (L (l0 + j)) (Z (l0 + j)))
      rw [List.length_map, List.length_range] at this
      omega
    have hrow : ∀ r, r < l0 → L r ≤ 1048576 := fun r hr => by
      obtain ⟨_, q1, _, q2, _, q3, _⟩ := hall r (by omega)
      cases hA : A r with
      | none => have := q3 hA; omega
      | some a' =>
        rw [hd] at hk
        have h1 := elem_le (H := H) (d := intRow .i64 (A r) (L r) (Z r)) (elems := (List.range l0).map fun r => intRow .i64 (A r) (L r) (Z r)) (spare := (List.range (c0 - l0)).map fun j => intRow .i64 (A (l0 + j)) (L (l0 + j)) (Z (l0 + j))) (List.mem_map.2 ⟨r, List.mem_range.2 hr, rfl⟩)
        have h2 := slice_le (H := H) (lits .i64 ((Z r).take (L r))) (lits .i64 ((Z r).drop (L r)))
        have e : intRow (H := H) .i64 (A r) (L r) (Z r) = .slice (lits .i64 ((Z r).take (L r))) (lits .i64 ((Z r).drop (L r))) := by rw [hA]; rfl
        rw [e] at h1
        simp only [lits, List.length_map, List.length_take] at h1 h2
        omega
    refine ⟨(List.range l0).map fun r => (Z r).take (L r), ⟨⟨some a, c0, by simp, ?_⟩, by simp; omega⟩, by simpa using hlen, fun x hx' => ?_, fun x hx' l hl' => ?_⟩
    · by_cases h0 : l0 = 0
      · left; rw [h0]; rfl
      · right
        refine ⟨a, rfl, World.block_lt_of_cell? w _ (hall 0 (by omega)).1, fun i c hc => ?_⟩
        have hi : i < l0 := by have := (List.getElem?_eq_some_iff.1 hc).1; simpa using this
        have e : c = (Z i).take (L i) := by
          rw [List.getElem?_map, List.getElem?_range hi] at hc
          exact (Option.some.inj hc).symm
        obtain ⟨q0, q1, _, q2, _, q3, q4⟩ := hall i (by omega)
        refine ⟨_, q0, ?_⟩
        rw [e]
        exact ints_of q1 q2 q3 (fun a' ha => (q4 a' ha).2) (by have := hrow i hi; omega)
    · obtain ⟨r, hr, rfl⟩ := List.mem_map.1 hx'
      have := hrow r (List.mem_range.1 hr)
      rw [List.length_take]; omega
    · obtain ⟨r, hr, rfl⟩ := List.mem_map.1 hx'
      have hwf := (hall r (by have := List.mem_range.1 hr; omega)).2.2.2.2.1 l (List.mem_of_mem_take hl')
      simpa [Lit.wf, IntKind.min, IntKind.max, IntKind.signed, IntKind.bits] using hwf

/-- lines -/
theorem lines_of {a0 : Option Addr} {l0 c0 : Nat} {d : DataW H} {p : List MemPlace} (h : DataW.Trod enc Try.prog w base (fun _ => true) held 23 (.slice a0 l0 c0) d p) (hk : Rows.uptoBulk d ≤ 1048576) : ∃ P : List (Bool × List Int), LinesAt w w.heap.size (.slice a0 l0 c0) P ∧ P.length ≤ 1048576 ∧ ∀ x ∈ P, x.2.length ≤ 1048576 := by
  obtain ⟨fuel, hf⟩ := h
  rcases open_slice_pairs Try.underlying23 Try.underlying36 cells36 rfl rfl cells4 cells31 hf with ⟨hcs, _⟩ | ⟨a, len, cap, m, n, V0, V1, D0, D1, P0, P1, hcs, _, hl, hm, hmm, hx, hall⟩
  · simp [Value.cells] at hcs
    obtain ⟨rfl, rfl, rfl⟩ := hcs
    exact ⟨[], ⟨⟨none, 0, rfl, .inl rfl⟩, by simp⟩, by simp, by simp⟩
  · simp [Value.cells] at hcs
    obtain ⟨rfl, rfl, rfl⟩ := hcs
    simp only [if_true] at hmm
    subst hmm
    have hd : d = _ := congrArg Prod.fst hx
    dsimp only at hd
    have hlen : l0 ≤ 1048576 := by
      rw [hd] at hk
      have := slice_le (H := H) ((List.range l0).map fun i => DataW.agg [D0 i, D1 i]) ((List.range (m - l0)).map fun j => DataW.agg [D0 (l0 + j), D1 (l0 + j)])
      rw [List.length_map, List.length_range] at this
      omega
    have hdk : ∀ r, r < l0 → Rows.uptoBulk (D1 r) ≤ 1048576 := fun r hr => by
      rw [hd] at hk
      have h1 := elem_le (H := H) (d := DataW.agg [D0 r, D1 r]) (elems := (List.range l0).map fun i => DataW.agg [D0 i, D1 i]) (spare := (List.range (m - l0)).map fun j => DataW.agg [D0 (l0 + j), D1 (l0 + j)]) (List.mem_map.2 ⟨r, List.mem_range.2 hr, rfl⟩)
      have h2 := agg_le (H := H) (d := D1 r) (parts := [D0 r, D1 r]) (by simp)
      omega
    -- each line
    have each : ∀ r, r < l0 → ∃ y : Bool × List Int, V0 r = .bool y.1 ∧ IntsAt w w.heap.size (V1 r) y.2 ∧ y.2.length ≤ 1048576 := fun r hr => by
      obtain ⟨_, _, q2, q3⟩ := hall r (by omega)
      obtain ⟨b, b1, _⟩ := DataW.trod_bool Try.underlying4 q2
      have hV0 : V0 r = .bool b := by simpa using b1
      rcases open_ints Try.underlying31 Try.underlying3 cells3 q3 with ⟨hcs, _⟩ | ⟨a', l', c', zs, hcs, _, hl', hm', hz, hx', hcell, _⟩
      · have hV1 : V1 r = .slice none 0 0 := by simpa using hcs
        exact ⟨(b, []), hV0, by rw [hV1]; exact ⟨⟨none, 0, rfl, .inl rfl⟩, by simp⟩, by simp⟩
      · have hV1 : V1 r = .slice (some a') l' c' := by simpa using hcs
        simp only [if_true] at hz
        have hD1 : D1 r = _ := congrArg Prod.fst hx'
        dsimp only at hD1
        have hb := hdk r hr
        rw [hD1] at hb
        have h2 := slice_le (H := H) (lits .i64 (zs.take l')) (lits .i64 (zs.drop l'))
        simp only [lits, List.length_map, List.length_take] at h2 hb
        have hl2 : l' ≤ 1048576 := by omega
        refine ⟨(b, zs.take l'), hV0, ?_, by simp only [List.length_take]; omega⟩
        rw [hV1]
        exact ints_of (C := c') hl' hz (fun e => by cases e) (fun a'' e c hc => by cases e; exact hcell c (by omega)) (by omega)
    obtain ⟨y, hy⟩ := choose_lt each
    refine ⟨(List.range l0).map y, ⟨⟨some a, m, by simp, ?_⟩, by simp; omega⟩, by simpa using hlen, fun x hx' => ?_⟩
    · by_cases h0 : l0 = 0
      · left; rw [h0]; rfl
      · right
        have c0 := (hall 0 (by omega)).1
        obtain ⟨b, off, spot⟩ := a
        have hspot : spot = none := by simpa [Addr.add] using World.cell?_spot c0
        subst hspot
        have hadd : ∀ k, (⟨b, off, none⟩ : Addr).add k = ⟨b, off + k, none⟩ := fun k => Addr.add_lit _ _ _
        refine ⟨b, off, rfl, World.block_lt_of_cell? w _ c0, fun i g c hc => ?_⟩
        have hi : i < l0 := by have := (List.getElem?_eq_some_iff.1 hc).1; simpa using this
        have e : y i = (g, c) := by
          rw [List.getElem?_map, List.getElem?_range hi] at hc
          exact Option.some.inj hc
        obtain ⟨q0, q1, _, _⟩ := hall i (by omega)
        obtain ⟨r1, r2, _⟩ := hy i hi
        rw [hadd] at q0 q1
        rw [e] at r1 r2
        refine ⟨by rw [q0, r1], _, q1, r2⟩
    · obtain ⟨r, hr, rfl⟩ := List.mem_map.1 hx'
      exact (hy r (List.mem_range.1 hr)).2.2

end
end Go.Proofs.Ytbicefgjompnoaa.Sx
/- The law SatShown: the example lives. -/
namespace Go.Proofs.Ytbicefgjompnoaa.Sx
open Go.RowKit Go.Sort

def cEx : List (List Int) := [[1, 2], [1, -2], [-1, 2], [-1, -2]]
theorem ex_yes : checkedP 2 cEx [(false, [1]), (false, [])] = true := by decide +kernel
theorem ex_no : checkedP 2 cEx [(false, [])] = false := by decide +kernel

theorem ints2_at {w : World} {b : Nat} {x y : Int} (h : w.heap[b]? = some (.cells #[.int .i64 x, .int .i64 y] 3 (0, 0))) : IntsAt w w.heap.size (.slice (some ⟨b, 0, none⟩) 2 2) [x, y] := by
  refine ⟨⟨some ⟨b, 0, none⟩, 2, rfl, .inr ⟨_, rfl, block_lt h, fun i z hz => ?_⟩⟩, by simp⟩
  rw [show (⟨b, 0, none⟩ : Addr).add i = ⟨b, 0 + i, none⟩ from Addr.add_lit _ _ _, Nat.zero_add, block_cell h]
  match i, hz with
  | 0, hz => cases hz; rfl
  | 1, hz => cases hz; rfl
theorem ints1_at {w : World} {b : Nat} {x : Int} (h : w.heap[b]? = some (.cells #[.int .i64 x] 3 (0, 0))) : IntsAt w w.heap.size (.slice (some ⟨b, 0, none⟩) 1 1) [x] := by
  refine ⟨⟨some ⟨b, 0, none⟩, 1, rfl, .inr ⟨_, rfl, block_lt h, fun i z hz => ?_⟩⟩, by simp⟩
  rw [show (⟨b, 0, none⟩ : Addr).add i = ⟨b, 0 + i, none⟩ from Addr.add_lit _ _ _, Nat.zero_add, block_cell h]
  match i, hz with
  | 0, hz => cases hz; rfl
theorem cls4_at {w : World} {b : Nat} {u0 u1 u2 u3 : Value} {c0 c1 c2 c3 : List Int} (h : w.heap[b]? = some (.cells #[u0, u1, u2, u3] 31 (0, 0))) (h0 : IntsAt w w.heap.size u0 c0) (h1 : IntsAt w w.heap.size u1 c1) (h2 : IntsAt w w.heap.size u2 c2) (h3 : IntsAt w w.heap.size u3 c3) : ClsAt w w.heap.size (.slice (some ⟨b, 0, none⟩) 4 4) [c0, c1, c2, c3] := by
  refine ⟨⟨some ⟨b, 0, none⟩, 4, rfl, .inr ⟨_, rfl, block_lt h, fun i z hz => ?_⟩⟩, by simp⟩
  rw [show (⟨b, 0, none⟩ : Addr).add i = ⟨b, 0 + i, none⟩ from Addr.add_lit _ _ _, Nat.zero_add, block_cell h]
  match i, hz with
  | 0, hz => cases hz; exact ⟨u0, rfl, h0⟩
  | 1, hz => cases hz; exact ⟨u1, rfl, h1⟩
  | 2, hz => cases hz; exact ⟨u2, rfl, h2⟩
  | 3, hz => cases hz; exact ⟨u3, rfl, h3⟩
theorem nil_at (w : World) (lo : Nat) : IntsAt w lo (.slice none 0 0) [] := ⟨⟨none, 0, rfl, .inl rfl⟩, by simp⟩
theorem lines2_at {w : World} {b : Nat} {u : Value} {c : List Int} (h : w.heap[b]? = some (.cells #[.bool false, u, .bool false, .slice none 0 0] 36 (0, 0))) (hu : IntsAt w w.heap.size u c) : LinesAt w w.heap.size (.slice (some ⟨b, 0, none⟩) 2 2) [(false, c), (false, [])] := by
  refine ⟨⟨some ⟨b, 0, none⟩, 2, rfl, .inr ⟨b, 0, rfl, block_lt h, fun i g z hz => ?_⟩⟩, by simp⟩
  rw [block_cell h, block_cell h]
  match i, hz with
  | 0, hz => cases hz; exact ⟨rfl, u, rfl, hu⟩
  | 1, hz => cases hz; exact ⟨rfl, _, rfl, nil_at w _⟩
theorem lines1_at {w : World} {b : Nat} (h : w.heap[b]? = some (.cells #[.bool false, .slice none 0 0] 36 (0, 0))) : LinesAt w w.heap.size (.slice (some ⟨b, 0, none⟩) 1 1) [(false, [])] := by
  refine ⟨⟨some ⟨b, 0, none⟩, 1, rfl, .inr ⟨b, 0, rfl, block_lt h, fun i g z hz => ?_⟩⟩, by simp⟩
  rw [block_cell h, block_cell h]
  match i, hz with
  | 0, hz => cases hz; exact ⟨rfl, _, rfl, nil_at w _⟩
theorem keep_alloc {w : World} {b : Nat} {o : Obj} (p : Obj) (h : w.heap[b]? = some o) : (w.alloc p).heap[b]? = some o := (heap_alloc_old w p (block_lt h)).trans h

set_option maxRecDepth 100000 in
set_option maxHeartbeats 4000000 in
theorem lives_any (w : World) : Calls Try.prog 9 #[] w fun e w' => e = .returned (.bool true) ∧ Fr (fun _ => True) w w' := by
  have mo := follows
  go_enter Try.func9, Try.ntmps9
  go_upto_region 2 with fail
  have f0 : Fr (fun _ => True) w w := Fr.refl _ w
  have h1 := heap_new (W := w) (o := .cells #[.int .i64 1, .int .i64 2] 3) rfl
  have e1 : (w.alloc (.cells #[.int .i64 1, .int .i64 2] 3)).heap.size = w.heap.size + 1 := by simp
  have f1 := f0.alloc (.cells #[.int .i64 1, .int .i64 2] 3)
  generalize w.alloc (.cells #[.int .i64 1, .int .i64 2] 3) = W1 at h1 e1 f1 ⊢
  have h2 := heap_new (W := W1) (o := .cells #[.int .i64 1, .int .i64 (-2)] 3) e1
  replace h1 := keep_alloc (.cells #[.int .i64 1, .int .i64 (-2)] 3) h1
  have e2 : (W1.alloc (.cells #[.int .i64 1, .int .i64 (-2)] 3)).heap.size = w.heap.size + 1 + 1 := by simp [e1]
  have f2 := f1.alloc (.cells #[.int .i64 1, .int .i64 (-2)] 3)
  generalize W1.alloc (.cells #[.int .i64 1, .int .i64 (-2)] 3) = W2 at h1 h2 e2 f2 ⊢
  have h3 := heap_new (W := W2) (o := .cells #[.int .i64 (-1), .int .i64 2] 3) e2
  replace h1 := keep_alloc (.cells #[.int .i64 (-1), .int .i64 2] 3) h1
  replace h2 := keep_alloc (.cells #[.int .i64 (-1), .int .i64 2] 3) h2
  have e3 : (W2.alloc (.cells #[.int .i64 (-1), .int .i64 2] 3)).heap.size = w.heap.size + 1 + 1 + 1 := by simp [e2]
  have f3 := f2.alloc (.cells #[.int .i64 (-1), .int .i64 2] 3)
  generalize W2.alloc (.cells #[.int .i64 (-1), .int .i64 2] 3) = W3 at h1 h2 h3 e3 f3 ⊢
  have h4 := heap_new (W := W3) (o := .cells #[.int .i64 (-1), .int .i64 (-2)] 3) e3
  replace h1 := keep_alloc (.cells #[.int .i64 (-1), .int .i64 (-2)] 3) h1
  replace h2 := keep_alloc (.cells #[.int .i64 (-1), .int .i64 (-2)] 3) h2
  replace h3 := keep_alloc (.cells #[.int .i64 (-1), .int .i64 (-2)] 3) h3
  have e4 : (W3.alloc (.cells #[.int .i64 (-1), .int .i64 (-2)] 3)).heap.size = w.heap.size + 1 + 1 + 1 + 1 := by simp [e3]
  have f4 := f3.alloc (.cells #[.int .i64 (-1), .int .i64 (-2)] 3)
  generalize W3.alloc (.cells #[.int .i64 (-1), .int .i64 (-2)] 3) = W4 at h1 h2 h3 h4 e4 f4 ⊢
  have HD : Hid (∃ o, (Obj.cells #[.slice (some ⟨w.heap.size, 0, none⟩) 2 2, .slice (some ⟨w.heap.size + 1, 0, none⟩) 2 2, .slice (some ⟨w.heap.size + 1 + 1, 0, none⟩) 2 2, .slice (some ⟨w.heap.size + 1 + 1 + 1, 0, none⟩) 2 2] 31) = o) := ⟨_, rfl⟩
  obtain ⟨o5, ho5⟩ := HD.out
  rw [ho5]
  have h5 := heap_new (W := W4) (o := o5) e4
  replace h1 := keep_alloc o5 h1
  replace h2 := keep_alloc o5 h2
  replace h3 := keep_alloc o5 h3
  replace h4 := keep_alloc o5 h4
  have f5 := f4.alloc o5
  generalize W4.alloc o5 = W5 at h1 h2 h3 h4 h5 f5 ⊢
  rw [← ho5] at h5
  have HC : Hid (ClsAt W5 W5.heap.size (.slice (some ⟨w.heap.size + 1 + 1 + 1 + 1, 0, none⟩) 4 4) cEx) := cls4_at h5 (ints2_at h1) (ints2_at h2) (ints2_at h3) (ints2_at h4)
  have HF5 : Hid (Fr (fun _ => True) w W5) := f5
  generalize w.heap.size + 1 + 1 + 1 + 1 = q at HC ⊢
  clear h1 h2 h3 h4 h5 e1 e2 e3 e4 f0 f1 f2 f3 f4 f5 ho5 HD
  -- the first proof
  have g1 := heap_new (W := W5) (o := .cells #[.int .i64 1] 3) rfl
  have k1 : (W5.alloc (.cells #[.int .i64 1] 3)).heap.size = W5.heap.size + 1 := by simp
  have g2 := heap_new (W := W5.alloc (.cells #[.int .i64 1] 3)) (o := .cells #[.bool false, .slice (some ⟨W5.heap.size, 0, none⟩) 1 1, .bool false, .slice none 0 0] 36) k1
  replace g1 := keep_alloc (.cells #[.bool false, .slice (some ⟨W5.heap.size, 0, none⟩) 1 1, .bool false, .slice none 0 0] 36) g1
  have HCH : Hid (∀ W6, (W5.alloc (.cells #[.int .i64 1] 3)).alloc (.cells #[.bool false, .slice (some ⟨W5.heap.size, 0, none⟩) 1 1, .bool false, .slice none 0 0] 36) = W6 → Calls Try.prog 6 #[.int .i64 2, .slice (some ⟨q, 0, none⟩) 4 4, .slice (some ⟨W5.heap.size + 1, 0, none⟩) 2 2] W6 fun e w' => e = .returned (.bool true) ∧ Fr (fun _ => True) W5 w') := by
    rintro W6 rfl
    have f6 : Fr (fun _ => True) W5 ((W5.alloc (.cells #[.int .i64 1] 3)).alloc (.cells #[.bool false, .slice (some ⟨W5.heap.size, 0, none⟩) 1 1, .bool false, .slice none 0 0] 36)) := ((Fr.refl _ W5).alloc _).alloc _
    have := prog_checked _ 2 _ _ _ cEx [(false, [1]), (false, [])] (Nat.le_refl _) ((HC.out.of (f6.mono fun _ _ => trivial)).up f6.size) (lines2_at g2 (ints1_at g1)) (by simp [cEx]) (by simp) (by simp [cEx]) (by simp)
    rw [ex_yes] at this
    exact this.mono fun e w' h => ⟨h.1, f6.trans h.2⟩
  clear g1 g2 k1
  go_wp2_with fail
  go_at_call 6
  refine (HCH.out _ rfl).mono ?_
  rintro e W7 ⟨rfl, hF7⟩
  have HC7 : Hid (ClsAt W7 W7.heap.size (.slice (some ⟨q, 0, none⟩) 4 4) cEx) := (HC.out.of (hF7.mono fun _ _ => trivial)).up hF7.size
  have HF7 : Hid (Fr (fun _ => True) w W7) := HF5.out.trans hF7
  clear hF7 HCH HC HF5
  have HCN : Hid (∀ W8, W7.alloc (.cells #[.bool false, .slice none 0 0] 36) = W8 → Calls Try.prog 6 #[.int .i64 2, .slice (some ⟨q, 0, none⟩) 4 4, .slice (some ⟨W7.heap.size, 0, none⟩) 1 1] W8 fun e w' => e = .returned (.bool false) ∧ Fr (fun _ => True) w w') := by
    rintro W8 rfl
    have f6 : Fr (fun _ => True) W7 (W7.alloc (.cells #[.bool false, .slice none 0 0] 36)) := (Fr.refl _ W7).alloc _
    have := prog_checked _ 2 _ _ _ cEx [(false, [])] (Nat.le_refl _) ((HC7.out.of (f6.mono fun _ _ => trivial)).up f6.size) (lines1_at (heap_new (W := W7) rfl)) (by simp [cEx]) (by simp) (by simp [cEx]) (by simp)
    rw [ex_no] at this
    exact this.mono fun e w' h => ⟨h.1, HF7.out.trans (f6.trans h.2)⟩
  go_wp2_with fail
  go_at_call 6
  refine (HCN.out _ rfl).mono ?_
  rintro e W9 ⟨rfl, hF9⟩
  have HF9 : Hid (Fr (fun _ => True) w W9) := hF9
  clear hF9 HCN HC7 HF7
  go_wp2_with fail
  go_ret
  exact ⟨rfl, HF9.out⟩

end Go.Proofs.Ytbicefgjompnoaa.Sx
/- The law SatShown: what is proved is so. -/
namespace Go.Proofs.Ytbicefgjompnoaa.Sx
open Go.RowKit Go.Sort

section
variable {n : Nat} {m : List Bool} {L : List (List Int)}
theorem litP_neg {l : Int} (h1 : litP m l = true) (h2 : litP m (-l) = true) : False := by
  unfold litP at h1 h2
  simp only [Bool.and_eq_true, decide_eq_true_eq, beq_iff_eq, Int.natAbs_neg] at h1 h2
  obtain ⟨a1, _, a3⟩ := h1
  obtain ⟨_, _, b3⟩ := h2
  rw [a3] at b3
  rw [decide_eq_decide] at b3
  omega
theorem litP_or (hm : m.length = n) {l : Int} (hl : LitN n l) (h : litP m l = false) : litP m (-l) = true := by
  obtain ⟨h0, h1, h2⟩ := hl
  unfold litP at h ⊢
  have e1 : decide (0 < l.natAbs) = true := by rw [decide_eq_true_eq]; omega
  have e2 : decide (l.natAbs ≤ m.length) = true := by rw [decide_eq_true_eq]; omega
  rw [e1, e2, Bool.true_and, Bool.true_and] at h
  rw [Int.natAbs_neg, e1, e2, Bool.true_and, Bool.true_and]
  by_cases q : 0 < l
  · rw [decide_eq_true q] at h
    rw [decide_eq_false (by omega : ¬ 0 < -l)]
    cases hx : m.getD (l.natAbs - 1) false with
    | true => rw [hx] at h; cases h
    | false => rfl
  · rw [decide_eq_false q] at h
    rw [decide_eq_true (by omega : 0 < -l)]
    cases hx : m.getD (l.natAbs - 1) false with
    | true => rfl
    | false => rw [hx] at h; cases h
/-- where values make all true, they make true what follows -/
theorem sound {G : List Int} (hL : ∀ c ∈ L, c.any (litP m) = true) (hG : ∀ l ∈ G, litP m l = true) : ¬ Cannot L G := by
  have hS : Shut L G fun l => litP m l = true := by
    refine ⟨hG, fun c hc l hl ho => ?_⟩
    obtain ⟨x, hx, hxm⟩ := List.any_eq_true.1 (hL c hc)
    by_cases q : x = l
    · rw [← q]; exact hxm
    · exact (litP_neg hxm (ho x hx q)).elim
  rintro (⟨l, h1, h2⟩ | ⟨c, hc, hl⟩)
  · exact litP_neg (h1 _ hS) (h2 _ hS)
  · obtain ⟨x, hx, hxm⟩ := List.any_eq_true.1 (hL c hc)
    exact litP_neg hxm (hl x hx _ hS)
theorem steps_sound (hm : m.length = n) : ∀ (P : List (Bool × List Int)) (L : List (List Int)) (sh : Bool), (∀ c ∈ L, ∀ x ∈ c, LitN n x) → (∀ l ∈ P, ∀ x ∈ l.2, LitN n x) → (∀ c ∈ L, c.any (litP m) = true) → stepsP n P L sh = true → sh = true
  | [], L, sh, _, _, _, h => h
  | (true, c) :: P, L, sh, h1, h2, h3, h => by
    unfold stepsP at h
    exact steps_sound hm P _ sh (fun c' hc' => h1 c' (goneP_mem hc')) (fun l hl => h2 l (List.mem_cons_of_mem _ hl)) (fun c' hc' => h3 c' (goneP_mem hc')) h
  | (false, c) :: P, L, sh, h1, h2, h3, h => by
    unfold stepsP at h
    have hc := h2 (false, c) (by simp)
    have hneg : ∀ x ∈ c.map (- ·), LitN n x := fun x hx => by
      obtain ⟨y, hy, rfl⟩ := List.mem_map.1 hx
      have := hc y hy
      unfold LitN at this ⊢
      omega
    by_cases q : followP n L (c.map (- ·)) = some none
    · rw [if_pos q] at h
      have hcan := (follow_cannot h1 hneg).1 q
      have hct : c.any (litP m) = true := by
        cases hq : c.any (litP m) with
        | true => rfl
        | false =>
          refine (sound h3 (fun x hx => ?_) hcan).elim
          obtain ⟨y, hy, rfl⟩ := List.mem_map.1 hx
          have hf : litP m y = false := by
            have := List.any_eq_false.1 hq y hy
            simpa using this
          exact litP_or hm (hc y hy) hf
      have hne : decide (c.length = 0) = false := decide_eq_false fun e => by
        rw [List.eq_nil_of_length_eq_zero e] at hct
        simp at hct
      rw [hne, Bool.or_false] at h
      refine steps_sound hm P _ sh (fun c' hc' => ?_) (fun l hl => h2 l (List.mem_cons_of_mem _ hl)) (fun c' hc' => ?_) h
      · rcases List.mem_append.1 hc' with z | z
        · exact h1 c' z
        · rw [List.mem_singleton.1 z]; exact hc
      · rcases List.mem_append.1 hc' with z | z
        · exact h3 c' z
        · rw [List.mem_singleton.1 z]; exact hct
    · rw [if_neg q] at h
      cases h
/-- what is proved is so -/
theorem shown_so {n : Int} {C : List (List Int)} {P : List (Bool × List Int)} (h : checkedP n C P = true) (hM : (C.all fun c => c.any (litP m)) = true) : (m.length : Int) ≠ n := by
  intro hn
  unfold checkedP at h
  by_cases hf : faultR n C = 0
  · rw [if_pos hf] at h
    by_cases hp : (P.all fun l => l.2.all (isLit n.toNat)) = true
    · rw [if_pos hp] at h
      have hC : ∀ c ∈ C, ∀ l ∈ c, LitN n.toNat l := by
        unfold faultR at hf
        split at hf
        · simp at hf
        split at hf
        · simp at hf
        split at hf
        · rename_i h1 h2 h3
          intro c hc l hl
          rw [List.all_eq_true] at h3
          have := h3 c hc
          rw [List.all_eq_true] at this
          exact isLit_iff.1 (this l hl)
        · simp at hf
      have hP : ∀ l ∈ P, ∀ x ∈ l.2, LitN n.toNat x := fun l hl x hx => by
        rw [List.all_eq_true] at hp
        have := hp l hl
        rw [List.all_eq_true] at this
        exact isLit_iff.1 (this x hx)
      have hT : ∀ c ∈ C, c.any (litP m) = true := fun c hc => List.all_eq_true.1 hM c hc
      have := steps_sound (m := m) (n := n.toNat) (by omega) P C false hC hP hT h
      cases this
    · rw [if_neg hp] at h; cases h
  · rw [if_neg hf] at h; cases h
end

set_option maxRecDepth 100000 in
set_option maxHeartbeats 2000000 in
theorem law_shown (w : World) (n : Int) (lo : Nat) (cv pv bv : Value) (C : List (List Int)) (P : List (Bool × List Int)) (m : List Bool) (hlo : lo ≤ w.heap.size) (hc : ClsAt w lo cv C) (hp : LinesAt w lo pv P) (hb : BoolsAt w lo bv m) (h64 : ∀ c ∈ C, ∀ l ∈ c, -9223372036854775808 ≤ l ∧ l ≤ 9223372036854775807) (hCl : C.length ≤ 30000000) (hPl : P.length ≤ 100000000) (hCx : ∀ x ∈ C, x.length ≤ 4294967296) (hPx : ∀ l ∈ P, l.2.length ≤ 4294967296) :
    Calls Try.prog 4 #[.int .i64 n, cv, pv, bv] w fun e w' => e = .returned (.bool true) ∧ Fr (fun _ => True) w w' := by
  have mo := follows
  obtain ⟨R, hR⟩ : ∃ R, checkedP n C P = R := ⟨_, rfl⟩
  obtain ⟨M, hM⟩ : ∃ M, (C.all fun c => c.any (litP m)) = M := ⟨_, rfl⟩
  have hso : R = true → M = true → (m.length : Int) ≠ n := fun h1 h2 => shown_so (hR.trans h1) (hM.trans h2)
  have HLV : Hid (Calls _ _ _ _ _) := lives_any w
  have HC : Hid (ClsAt w lo cv C) := hc
  have HP : Hid (LinesAt w lo pv P) := hp
  have HBO : Hid (BoolsAt w lo bv m) := hb
  have HR : Hid (checkedP n C P = R) := hR
  have HM : Hid ((C.all fun c => c.any (litP m)) = M) := hM
  have HSO : Hid (R = true → M = true → (m.length : Int) ≠ n) := hso
  obtain ⟨ba, bc, hbv, _⟩ := hb.ex
  subst hbv
  clear hc hp hb hR hM hso
  go_enter Try.func4, Try.ntmps4
  go_wp2_with fail
  go_at_call 9
  refine HLV.out.mono ?_
  rintro e w1 ⟨rfl, hF1⟩
  have HF1 : Hid (Fr (fun _ => True) w w1) := hF1
  have HCH : Hid (Calls Try.prog 6 #[.int .i64 n, cv, pv] w1 (ChPost w1 R)) := by
    have := prog_checked w1 n lo cv pv C P (Nat.le_trans hlo hF1.size) (HC.out.of (hF1.mono fun _ _ => trivial)) (HP.out.of (hF1.mono fun _ _ => trivial)) (by omega) hPl hCx hPx
    rw [HR.out] at this
    exact this
  clear HLV hF1
  go_wp2_with fail
  go_at_call 6
  refine HCH.out.mono ?_
  rintro e w2 ⟨rfl, hF2⟩
  have HF2 : Hid (Fr (fun _ => True) w w2) := HF1.out.trans hF2
  have HMO : Hid (Calls Try.prog 10 #[cv, .slice ba m.length bc] w2 fun e w' => e = .returned (.bool M) ∧ Fr (fun _ => True) w2 w') := by
    have := Models_any w2 lo lo cv (.slice ba m.length bc) C m h64 (HC.out.of (HF2.out.mono fun _ _ => trivial)) (HBO.out.of (HF2.out.mono fun _ _ => trivial))
    rw [HM.out] at this
    exact this
  clear HCH HF1 hF2
  go_wp2_with fail
  go_at_call 10
  refine HMO.out.mono ?_
  rintro e w3 ⟨rfl, hF3⟩
  have HF3 : Hid (Fr (fun _ => True) w w3) := HF2.out.trans hF3
  clear HMO HF2 hF3
  cases R with
  | false =>
    go_wp2_with fail
    go_ret
    exact ⟨rfl, HF3.out⟩
  | true =>
    cases M with
    | false =>
      go_wp2_with fail
      go_ret
      exact ⟨rfl, HF3.out⟩
    | true =>
      have hne : ((m.length : Int) != n) = true := by rw [bne_iff_ne]; exact HSO.out rfl rfl
      go_wp2_with fail
      go_ret
      exact ⟨by simp, HF3.out⟩

end Go.Proofs.Ytbicefgjompnoaa.Sx
/- SatShown, second form: where sat.Checked takes lines (of any clauses, all of bulk at most 1048576), no values make all clauses true; and nothing that was handed in is changed. -/
namespace Go.Proofs.Ytbicefgjompnoaa.Sx
open Go.RowKit Go.Sort Go.ChangeShapes Go.WideShapes Go.ChangeAt Go.Deep

theorem Fr.toBelow2 {w w' : World} (h : Fr (fun _ => True) w w') : Below w.heap.size w w' := ⟨h.os, h.tape, h.output, h.size, fun k hk => h.block k hk trivial⟩

/-- values -/
theorem bools_of {H : Type} {enc : TypeId × Value → H} {w : World} {base : Nat} {held : Bool} {a0 : Option Addr} {l0 c0 : Nat} {d : DataW H} {p : List MemPlace} (h : DataW.Trod enc Try.prog w base (fun _ => true) held 27 (.slice a0 l0 c0) d p) (hk : Rows.uptoBulk d ≤ 1048576) : ∃ m : List Bool, BoolsAt w w.heap.size (.slice a0 l0 c0) m := by
  obtain ⟨fuel, hf⟩ := h
  rcases open_bools Try.underlying27 Try.underlying4 cells4 hf with ⟨hcs, _⟩ | ⟨a, len, cap, B, hcs, _, hl, hm, hx, hall⟩
  · simp [Value.cells] at hcs
    obtain ⟨rfl, rfl, rfl⟩ := hcs
    exact ⟨[], ⟨⟨none, 0, rfl, .inl rfl⟩, by simp⟩⟩
  · simp [Value.cells] at hcs
    obtain ⟨rfl, rfl, rfl⟩ := hcs
    have hd : d = _ := congrArg Prod.fst hx
    dsimp only at hd
    have hlen : l0 ≤ 1048576 := by
      rw [hd] at hk
      have := slice_le (H := H) ((List.range l0).map fun i => DataW.lit (.bool (B i))) ((List.range (c0 - l0)).map fun i => DataW.lit (.bool (B (l0 + i))))
      rw [List.length_map, List.length_range] at this
      have e : boolRow (H := H) (some a) l0 c0 B = .slice ((List.range l0).map fun i => DataW.lit (.bool (B i))) ((List.range (c0 - l0)).map fun i => DataW.lit (.bool (B (l0 + i)))) := rfl
      rw [e] at hk
      omega
    refine ⟨(List.range l0).map B, ⟨⟨some a, c0, by simp, ?_⟩, by simp; omega⟩⟩
    by_cases h0 : l0 = 0
    · left; rw [h0]; rfl
    · right
      refine ⟨a, rfl, World.block_lt_of_cell? w _ (hall 0 (by omega)), fun i x hx => ?_⟩
      have hi : i < l0 := by have := (List.getElem?_eq_some_iff.1 hx).1; simpa using this
      rw [List.getElem?_map, List.getElem?_range hi] at hx
      rw [hall i (by omega)]
      exact congrArg _ (congrArg _ (Option.some.inj hx))

set_option maxRecDepth 100000 in
theorem shown_lifted (os : Os) (started : os.Started) (H : Type) (enc : TypeId × Value → H) (F : Stop.Interp) :
    ReturnsInHanded {} Try.checked os 4 .any ((Rows.OpenSpec.upto Rows.satShownSpec).pre6 enc Try.prog Try.f4 Rows.satShownUptoRow.domain false) (((Rows.OpenSpec.upto Rows.satShownSpec).at F).post enc Try.prog Try.f4 false true false false) := by
  refine returnsInHanded_of_cond (C := Try.checked) (s := Rows.OpenSpec.upto Rows.satShownSpec) (k := Rows.uptoSmall) rfl own started (by kernel_rfl) Try.func4
    (OpenSpec.witness (enc := enc) (C := Try.checked) (s := Rows.OpenSpec.upto Rows.satShownSpec) (k := Rows.uptoSmall) rfl false ⟨#[], #[.int .i64 0, .slice none 0 0, .slice none 0 0, .slice none 0 0], []⟩ 8 (by kernel_rfl) (by kernel_rfl) (by kernel_rfl)
      (x := ([.lit (.int .i64 0), .nil, .nil, .nil], [], [])) (by kernel_rfl) rfl (by kernel_rfl)) ?_
  intro W base args ds gs before hval0 hW _ hk _
  have hval : ∀ (j : Nat) t v, Try.f4.params[j]? = some t → args[j]? = some v → Value.okWide Try.prog W .any base t v := hval0
  have hW' := hW
  obtain ⟨p, q, hA0, hV, rfl, hfz, hnd⟩ := hW
  have hA : DataW.TrodAll enc Try.prog W 0 (fun _ => true) true Try.f4.params.toList args.toList ds p := hA0
  rw [Try.params4] at hA hval
  obtain ⟨v0, vs0, d0, ds0, p0, q0, hargs, rfl, rfl, h0, r0⟩ := trodAll_cons hA
  obtain ⟨v1, vs1, d1, ds1, p1, q1, rfl, rfl, rfl, h1, r1⟩ := trodAll_cons r0
  obtain ⟨v2, vs2, d2, ds2, p2, q2, rfl, rfl, rfl, h2, r2⟩ := trodAll_cons r1
  obtain ⟨v3, vs3, d3, ds3, p3, q3, rfl, rfl, rfl, h3, r3⟩ := trodAll_cons r2
  obtain ⟨rfl, rfl, rfl⟩ := trodAll_nil r3
  obtain rfl : args = #[v0, v1, v2, v3] := by cases args; simp_all
  obtain ⟨rfl, rfl⟩ := trodVars_none hV
  obtain ⟨n, rfl, rfl, rfl, wn⟩ := open_int Try.underlying3 (hval 0 3 v0 rfl rfl) h0
  obtain ⟨a1, l1, c1, rfl⟩ := okWide_slice Try.underlying22 (hval 1 22 v1 rfl rfl)
  obtain ⟨a2, l2, c2, rfl⟩ := okWide_slice Try.underlying23 (hval 2 23 v2 rfl rfl)
  obtain ⟨a3, l3, c3, rfl⟩ := okWide_slice Try.underlying27 (hval 3 27 v3 rfl rfl)
  have hbulk : Rows.uptoBulkAll [DataW.lit (.int .i64 n), d1, d2, d3] ≤ 1048576 := by
    have := of_decide_eq_true hk
    simpa using this
  simp only [Rows.uptoBulkAll] at hbulk
  have lt1 : ∀ x ∈ p1, x.block < W.heap.size := by obtain ⟨m, hm⟩ := h1; exact DataW.trod_lt m _ _ _ hm
  have lt2 : ∀ x ∈ p2, x.block < W.heap.size := by obtain ⟨m, hm⟩ := h2; exact DataW.trod_lt m _ _ _ hm
  have lt3 : ∀ x ∈ p3, x.block < W.heap.size := by obtain ⟨m, hm⟩ := h3; exact DataW.trod_lt m _ _ _ hm
  obtain ⟨C, hC, hC1, hC2, hC3⟩ := cls_of h1 (by omega)
  obtain ⟨P, hP, hP1, hP2⟩ := lines_of h2 (by omega)
  obtain ⟨m, hm⟩ := bools_of h3 (by omega)
  clear hA0 hval0
  refine (law_shown W n W.heap.size _ _ _ C P m (Nat.le_refl _) hC hP hm hC3 (by omega) (by omega) (fun x hx => by have := hC2 x hx; omega) (fun x hx => by have := hP2 x hx; omega)).mono fun e W' ⟨he, hf⟩ => ?_
  subst he
  have bel := hf.toBelow2
  exact ⟨_, rfl, _, _, _, [], _, [], hW', trodAll_mk1 (shut_bool Try.underlying4 _), (trodAll_cons_mk (shut_int Try.underlying3 wn) (trodAll_cons_mk (Below.trod laidOut (by kernel_rfl) (of_decide_eq_true (by kernel_rfl)) h1 bel lt1) (trodAll_cons_mk (Below.trod laidOut (by kernel_rfl) (of_decide_eq_true (by kernel_rfl)) h2 bel lt2) (trodAll_cons_mk (Below.trod laidOut (by kernel_rfl) (of_decide_eq_true (by kernel_rfl)) h3 bel lt3) trodAll_mk0)))), rfl, bel.frame _, fun h => by cases h⟩

theorem shown_over : Rows.satShownUptoRow.holds Try.pinned (Rows.OpenSpec.upto Rows.satShownSpec) :=
  OpenClaim.holds_of_cond 4 Try.f4 rfl rfl rfl rfl rfl rfl rfl ⟨rfl, rfl, rfl, rfl, rfl⟩ rfl rfl rfl rfl rfl (by kernel_rfl) Try.func4 (by kernel_rfl)
    (of_decide_eq_true (by kernel_rfl)) (by unfold Func.isWrapper; rw [if_neg (of_decide_eq_false (by kernel_rfl))]; exact ⟨rfl, rfl⟩)
    (fun os started H enc _ F => shown_lifted os started H enc F)

end Go.Proofs.Ytbicefgjompnoaa.Sx
namespace Go.Proofs.Ytbicefgjompnoaa
theorem satShown_holds : Rows.SatShownUptoSaid := Sx.shown_over
end Go.Proofs.Ytbicefgjompnoaa
