/- What comes in: clauses and lines, out of the arguments. -/
import Derived.Test.YtbicefgjompnoaaRows
import Derived.Test.YtbicefgjompnoaaA45
import Derived.ProofKit
import Derived.OpenShut
import Derived.ChangeOld
import Derived.Below
import Derived.JoinedCond
import Derived.Deep.Matrix
import Derived.Deep.SlicePairs
namespace Go.Proofs.Ytbicefgjompnoaa.Sx
open Go.RowKit Go.Sort Go.ChangeShapes Go.WideShapes Go.ChangeAt Go.Deep

theorem own : ownKnob Try.prog.godebug = none := by kernel_rfl
theorem laidOut : laidOutB Try.prog = true := by kernel_rfl
theorem cells3 : Try.prog.cellsOf 3 = 1 := by kernel_rfl
theorem cells31 : Try.prog.cellsOf 31 = 1 := by kernel_rfl
theorem cells36 : Try.prog.cellsOf 36 = 2 := by kernel_rfl
theorem cells4 : Try.prog.cellsOf 4 = 1 := by kernel_rfl

/-! the bound -/
section
theorem one_le {H : Type} (d : DataW H) : 1 ≤ Rows.uptoBulk d := by
  cases d with
  | lit l => cases l <;> simp [Rows.uptoBulk]
  | nil => simp [Rows.uptoBulk]
  | ptr d => simp [Rows.uptoBulk]
  | slice elems spare => simp [Rows.uptoBulk]
  | agg parts => simp [Rows.uptoBulk]
  | iface t d => simp [Rows.uptoBulk]
  | map entries => simp [Rows.uptoBulk]
  | held h => simp [Rows.uptoBulk]
theorem part_le {H : Type} {d : DataW H} {l : List (DataW H)} (h : d ∈ l) : Rows.uptoBulk d ≤ Rows.uptoBulkAll l := by
  induction l with
  | nil => cases h
  | cons x r ih =>
    simp only [Rows.uptoBulkAll]
    cases List.mem_cons.1 h with
    | inl e => subst e; omega
    | inr e => have := ih e; omega
theorem length_le {H : Type} (l : List (DataW H)) : l.length ≤ Rows.uptoBulkAll l := by
  induction l with
  | nil => simp [Rows.uptoBulkAll]
  | cons x r ih => have := one_le x; simp only [Rows.uptoBulkAll, List.length_cons]; omega
theorem slice_le {H : Type} (elems spare : List (DataW H)) : elems.length + 1 ≤ Rows.uptoBulk (.slice elems spare) := by
  have h1 := length_le elems
  simp only [Rows.uptoBulk]
  omega
theorem elem_le {H : Type} {d : DataW H} {elems spare : List (DataW H)} (h : d ∈ elems) : Rows.uptoBulk d ≤ Rows.uptoBulk (.slice elems spare) := by
  have h1 := part_le h
  simp only [Rows.uptoBulk]
  omega
theorem agg_le {H : Type} {d : DataW H} {parts : List (DataW H)} (h : d ∈ parts) : Rows.uptoBulk d ≤ Rows.uptoBulk (.agg parts) := by
  have h1 := part_le h
  simp only [Rows.uptoBulk]
  omega
end

section
variable {H : Type} {enc : TypeId × Value → H} {w : World} {base : Nat} {held : Bool}
/-- numbers -/
theorem ints_of {A : Option Addr} {L C : Nat} {Z : List Int} (h1 : L ≤ C) (h2 : Z.length = C) (h3 : A = none → C = 0) (h4 : ∀ a', A = some a' → ∀ c, c < C → w.cell? (a'.add c) = some (.int .i64 (Z.getD c 0))) (hb : L ≤ 1000000000000) : IntsAt w w.heap.size (.slice A L C) (Z.take L) := by
  have hl : (Z.take L).length = L := by rw [List.length_take]; omega
  refine ⟨⟨A, C, by rw [hl], ?_⟩, by rw [hl]; exact hb⟩
  by_cases h0 : L = 0
  · left; rw [h0]; rfl
  · right
    cases A with
    | none => have := h3 rfl; omega
    | some a =>
      have hc := h4 a rfl
      refine ⟨a, rfl, World.block_lt_of_cell? w _ (hc 0 (by omega)), fun i x hx => ?_⟩
      have hi : i < L := by have := (List.getElem?_eq_some_iff.1 hx).1; omega
      rw [hc i (by omega)]
      rw [List.getElem?_take_of_lt hi] at hx
      rw [List.getD_eq_getElem?_getD, hx]; rfl

/-- clauses -/
theorem cls_of {a0 : Option Addr} {l0 c0 : Nat} {d : DataW H} {p : List MemPlace} (h : DataW.Trod enc Try.prog w base (fun _ => true) held 22 (.slice a0 l0 c0) d p) (hk : Rows.uptoBulk d ≤ 1048576) : ∃ C : List (List Int), ClsAt w w.heap.size (.slice a0 l0 c0) C ∧ C.length ≤ 1048576 ∧ (∀ x ∈ C, x.length ≤ 1048576) ∧ ∀ x ∈ C, ∀ l ∈ x, -9223372036854775808 ≤ l ∧ l ≤ 9223372036854775807 := by
  obtain ⟨fuel, hf⟩ := h
  rcases open_int_rows Try.underlying22 Try.underlying31 Try.underlying3 cells31 cells3 hf with ⟨hcs, _⟩ | ⟨a, len, cap, A, L, C, Z, hcs, _, hl, hm, hx, hall⟩
  · simp [Value.cells] at hcs
    obtain ⟨rfl, rfl, rfl⟩ := hcs
    exact ⟨[], ⟨⟨none, 0, rfl, .inl rfl⟩, by simp⟩, by simp, by simp, by simp⟩
  · simp [Value.cells] at hcs
    obtain ⟨rfl, rfl, rfl⟩ := hcs
    have hd : d = _ := congrArg Prod.fst hx
    dsimp only at hd
    have hlen : l0 ≤ 1048576 := by
      rw [hd] at hk
      have := slice_le (H := H) ((List.range l0).map fun r => intRow .i64 (A r) (L r) (Z r)) ((List.range (c0 - l0)).map fun j => intRow .i64 (A (l0 + j)) (L (l0 + j)) (Z (l0 + j)))
      rw [List.length_map, List.length_range] at this
      omega
    have hrow : ∀ r, r < l0 → L r ≤ 1048576 := fun r hr => by
      obtain ⟨_, q1, _, q2, _, q3, _⟩ := hall r (by omega)
      cases hA : A r with
      | none => have := q3 hA; omega
      | some a' =>
        rw [hd] at hk
        have h1 := elem_le (H := H) (d := intRow .i64 (A r) (L r) (Z r)) (elems := (List.range l0).map fun r => intRow .i64 (A r) (L r) (Z r)) (spare := (List.range (c0 - l0)).map fun j => intRow .i64 (A (l0 + j)) (L (l0 + j)) (Z (l0 + j))) (List.mem_map.2 ⟨r, List.mem_range.2 hr, rfl⟩)
        have h2 := slice_le (H := H) (lits .i64 ((Z r).take (L r))) (lits .i64 ((Z r).drop (L r)))
        have e : intRow (H := H) .i64 (A r) (L r) (Z r) = .slice (lits .i64 ((Z r).take (L r))) (lits .i64 ((Z r).drop (L r))) := by rw [hA]; rfl
        rw [e] at h1
        simp only [lits, List.length_map, List.length_take] at h1 h2
        omega
    refine ⟨(List.range l0).map fun r => (Z r).take (L r), ⟨⟨some a, c0, by simp, ?_⟩, by simp; omega⟩, by simpa using hlen, fun x hx' => ?_, fun x hx' l hl' => ?_⟩
    · by_cases h0 : l0 = 0
      · left; rw [h0]; rfl
      · right
        refine ⟨a, rfl, World.block_lt_of_cell? w _ (hall 0 (by omega)).1, fun i c hc => ?_⟩
        have hi : i < l0 := by have := (List.getElem?_eq_some_iff.1 hc).1; simpa using this
        have e : c = (Z i).take (L i) := by
          rw [List.getElem?_map, List.getElem?_range hi] at hc
          exact (Option.some.inj hc).symm
        obtain ⟨q0, q1, _, q2, _, q3, q4⟩ := hall i (by omega)
        refine ⟨_, q0, ?_⟩
        rw [e]
        exact ints_of q1 q2 q3 (fun a' ha => (q4 a' ha).2) (by have := hrow i hi; omega)
    · obtain ⟨r, hr, rfl⟩ := List.mem_map.1 hx'
      have := hrow r (List.mem_range.1 hr)
      rw [List.length_take]; omega
    · obtain ⟨r, hr, rfl⟩ := List.mem_map.1 hx'
      have hwf := (hall r (by have := List.mem_range.1 hr; omega)).2.2.2.2.1 l (List.mem_of_mem_take hl')
      simpa [Lit.wf, IntKind.min, IntKind.max, IntKind.signed, IntKind.bits] using hwf

/-- lines -/
theorem lines_of {a0 : Option Addr} {l0 c0 : Nat} {d : DataW H} {p : List MemPlace} (h : DataW.Trod enc Try.prog w base (fun _ => true) held 23 (.slice a0 l0 c0) d p) (hk : Rows.uptoBulk d ≤ 1048576) : ∃ P : List (Bool × List Int), LinesAt w w.heap.size (.slice a0 l0 c0) P ∧ P.length ≤ 1048576 ∧ ∀ x ∈ P, x.2.length ≤ 1048576 := by
  obtain ⟨fuel, hf⟩ := h
  rcases open_slice_pairs Try.underlying23 Try.underlying36 cells36 rfl rfl cells4 cells31 hf with ⟨hcs, _⟩ | ⟨a, len, cap, m, n, V0, V1, D0, D1, P0, P1, hcs, _, hl, hm, hmm, hx, hall⟩
  · simp [Value.cells] at hcs
    obtain ⟨rfl, rfl, rfl⟩ := hcs
    exact ⟨[], ⟨⟨none, 0, rfl, .inl rfl⟩, by simp⟩, by simp, by simp⟩
  · simp [Value.cells] at hcs
    obtain ⟨rfl, rfl, rfl⟩ := hcs
    simp only [if_true] at hmm
    subst hmm
    have hd : d = _ := congrArg Prod.fst hx
    dsimp only at hd
    have hlen : l0 ≤ 1048576 := by
      rw [hd] at hk
      have := slice_le (H := H) ((List.range l0).map fun i => DataW.agg [D0 i, D1 i]) ((List.range (m - l0)).map fun j => DataW.agg [D0 (l0 + j), D1 (l0 + j)])
      rw [List.length_map, List.length_range] at this
      omega
    have hdk : ∀ r, r < l0 → Rows.uptoBulk (D1 r) ≤ 1048576 := fun r hr => by
      rw [hd] at hk
      have h1 := elem_le (H := H) (d := DataW.agg [D0 r, D1 r]) (elems := (List.range l0).map fun i => DataW.agg [D0 i, D1 i]) (spare := (List.range (m - l0)).map fun j => DataW.agg [D0 (l0 + j), D1 (l0 + j)]) (List.mem_map.2 ⟨r, List.mem_range.2 hr, rfl⟩)
      have h2 := agg_le (H := H) (d := D1 r) (parts := [D0 r, D1 r]) (by simp)
      omega
    -- each line
    have each : ∀ r, r < l0 → ∃ y : Bool × List Int, V0 r = .bool y.1 ∧ IntsAt w w.heap.size (V1 r) y.2 ∧ y.2.length ≤ 1048576 := fun r hr => by
      obtain ⟨_, _, q2, q3⟩ := hall r (by omega)
      obtain ⟨b, b1, _⟩ := DataW.trod_bool Try.underlying4 q2
      have hV0 : V0 r = .bool b := by simpa using b1
      rcases open_ints Try.underlying31 Try.underlying3 cells3 q3 with ⟨hcs, _⟩ | ⟨a', l', c', zs, hcs, _, hl', hm', hz, hx', hcell, _⟩
      · have hV1 : V1 r = .slice none 0 0 := by simpa using hcs
        exact ⟨(b, []), hV0, by rw [hV1]; exact ⟨⟨none, 0, rfl, .inl rfl⟩, by simp⟩, by simp⟩
      · have hV1 : V1 r = .slice (some a') l' c' := by simpa using hcs
        simp only [if_true] at hz
        have hD1 : D1 r = _ := congrArg Prod.fst hx'
        dsimp only at hD1
        have hb := hdk r hr
        rw [hD1] at hb
        have h2 := slice_le (H := H) (lits .i64 (zs.take l')) (lits .i64 (zs.drop l'))
        simp only [lits, List.length_map, List.length_take] at h2 hb
        have hl2 : l' ≤ 1048576 := by omega
        refine ⟨(b, zs.take l'), hV0, ?_, by simp only [List.length_take]; omega⟩
        rw [hV1]
        exact ints_of (C := c') hl' hz (fun e => by cases e) (fun a'' e c hc => by cases e; exact hcell c (by omega)) (by omega)
    obtain ⟨y, hy⟩ := choose_lt each
    refine ⟨(List.range l0).map y, ⟨⟨some a, m, by simp, ?_⟩, by simp; omega⟩, by simpa using hlen, fun x hx' => ?_⟩
    · by_cases h0 : l0 = 0
      · left; rw [h0]; rfl
      · right
        have c0 := (hall 0 (by omega)).1
        obtain ⟨b, off, spot⟩ := a
        have hspot : spot = none := by simpa [Addr.add] using World.cell?_spot c0
        subst hspot
        have hadd : ∀ k, (⟨b, off, none⟩ : Addr).add k = ⟨b, off + k, none⟩ := fun k => Addr.add_lit _ _ _
        refine ⟨b, off, rfl, World.block_lt_of_cell? w _ c0, fun i g c hc => ?_⟩
        have hi : i < l0 := by have := (List.getElem?_eq_some_iff.1 hc).1; simpa using this
        have e : y i = (g, c) := by
          rw [List.getElem?_map, List.getElem?_range hi] at hc
          exact Option.some.inj hc
        obtain ⟨q0, q1, _, _⟩ := hall i (by omega)
        obtain ⟨r1, r2, _⟩ := hy i hi
        rw [hadd] at q0 q1
        rw [e] at r1 r2
        refine ⟨by rw [q0, r1], _, q1, r2⟩
    · obtain ⟨r, hr, rfl⟩ := List.mem_map.1 hx'
      exact (hy r (List.mem_range.1 hr)).2.2

end
end Go.Proofs.Ytbicefgjompnoaa.Sx
/- SatProofs, second form: for any clauses and any lines, of bulk at most 1048576, what sat.Checked tells is what the document's answer tells, and the clauses are as they were. -/
namespace Go.Proofs.Ytbicefgjompnoaa.Sx
open Go.RowKit Go.Sort Go.ChangeShapes Go.WideShapes Go.ChangeAt Go.Deep

theorem Fr.toBelow {w w' : World} (h : Fr (fun _ => True) w w') : Below w.heap.size w w' := ⟨h.os, h.tape, h.output, h.size, fun k hk => h.block k hk trivial⟩

set_option maxRecDepth 100000 in
theorem proofs_lifted (os : Os) (started : os.Started) (H : Type) (enc : TypeId × Value → H) (F : Stop.Interp) :
    ReturnsInHanded {} Try.checked os 3 .any ((Rows.OpenSpec.upto Rows.satProofsSpec).pre6 enc Try.prog Try.f3 Rows.satProofsUptoRow.domain false) (((Rows.OpenSpec.upto Rows.satProofsSpec).at F).post enc Try.prog Try.f3 false true false false) := by
  refine returnsInHanded_of_cond (C := Try.checked) (s := Rows.OpenSpec.upto Rows.satProofsSpec) (k := Rows.uptoSmall) rfl own started (by kernel_rfl) Try.func3
    (OpenSpec.witness (enc := enc) (C := Try.checked) (s := Rows.OpenSpec.upto Rows.satProofsSpec) (k := Rows.uptoSmall) rfl false ⟨#[], #[.int .i64 0, .slice none 0 0, .slice none 0 0], []⟩ 8 (by kernel_rfl) (by kernel_rfl) (by kernel_rfl)
      (x := ([.lit (.int .i64 0), .nil, .nil], [], [])) (by kernel_rfl) rfl (by kernel_rfl)) ?_
  intro W base args ds gs before hval0 hW _ hk _
  have hval : ∀ (j : Nat) t v, Try.f3.params[j]? = some t → args[j]? = some v → Value.okWide Try.prog W .any base t v := hval0
  have hW' := hW
  obtain ⟨p, q, hA0, hV, rfl, hfz, hnd⟩ := hW
  have hA : DataW.TrodAll enc Try.prog W 0 (fun _ => true) true Try.f3.params.toList args.toList ds p := hA0
  rw [Try.params3] at hA hval
  obtain ⟨v0, vs0, d0, ds0, p0, q0, hargs, rfl, rfl, h0, r0⟩ := trodAll_cons hA
  obtain ⟨v1, vs1, d1, ds1, p1, q1, rfl, rfl, rfl, h1, r1⟩ := trodAll_cons r0
  obtain ⟨v2, vs2, d2, ds2, p2, q2, rfl, rfl, rfl, h2, r2⟩ := trodAll_cons r1
  obtain ⟨rfl, rfl, rfl⟩ := trodAll_nil r2
  obtain rfl : args = #[v0, v1, v2] := by cases args; simp_all
  obtain ⟨rfl, rfl⟩ := trodVars_none hV
  obtain ⟨n, rfl, rfl, rfl, wn⟩ := open_int Try.underlying3 (hval 0 3 v0 rfl rfl) h0
  obtain ⟨a1, l1, c1, rfl⟩ := okWide_slice Try.underlying22 (hval 1 22 v1 rfl rfl)
  obtain ⟨a2, l2, c2, rfl⟩ := okWide_slice Try.underlying23 (hval 2 23 v2 rfl rfl)
  have hbulk : Rows.uptoBulkAll [DataW.lit (.int .i64 n), d1, d2] ≤ 1048576 := by
    have := of_decide_eq_true hk
    simpa using this
  simp only [Rows.uptoBulkAll] at hbulk
  have lt1 : ∀ x ∈ p1, x.block < W.heap.size := by obtain ⟨m, hm⟩ := h1; exact DataW.trod_lt m _ _ _ hm
  have lt2 : ∀ x ∈ p2, x.block < W.heap.size := by obtain ⟨m, hm⟩ := h2; exact DataW.trod_lt m _ _ _ hm
  obtain ⟨C, hC, hC1, hC2, _⟩ := cls_of h1 (by omega)
  obtain ⟨P, hP, hP1, hP2⟩ := lines_of h2 (by omega)
  clear hA0 hval0
  refine (law_proofs W n W.heap.size _ _ C P (Nat.le_refl _) hC hP (by omega) (by omega) (fun x hx => by have := hC2 x hx; omega) (fun x hx => by have := hP2 x hx; omega)).mono fun e W' ⟨he, hf⟩ => ?_
  subst he
  have bel := hf.toBelow
  exact ⟨_, rfl, _, _, _, [], _, [], hW', trodAll_mk1 (shut_bool Try.underlying4 _), (trodAll_cons_mk (shut_int Try.underlying3 wn) (trodAll_cons_mk (Below.trod laidOut (by kernel_rfl) (of_decide_eq_true (by kernel_rfl)) h1 bel lt1) (trodAll_cons_mk (Below.trod laidOut (by kernel_rfl) (of_decide_eq_true (by kernel_rfl)) h2 bel lt2) trodAll_mk0))), rfl, bel.frame _, fun h => by cases h⟩

theorem proofs_over : Rows.satProofsUptoRow.holds Try.pinned (Rows.OpenSpec.upto Rows.satProofsSpec) :=
  OpenClaim.holds_of_cond 3 Try.f3 rfl rfl rfl rfl rfl rfl rfl ⟨rfl, rfl, rfl, rfl, rfl⟩ rfl rfl rfl rfl rfl (by kernel_rfl) Try.func3 (by kernel_rfl)
    (of_decide_eq_true (by kernel_rfl)) (by unfold Func.isWrapper; rw [if_neg (of_decide_eq_false (by kernel_rfl))]; exact ⟨rfl, rfl⟩)
    (fun os started H enc _ F => proofs_lifted os started H enc F)

end Go.Proofs.Ytbicefgjompnoaa.Sx
namespace Go.Proofs.Ytbicefgjompnoaa
theorem satProofs_holds : Rows.SatProofsUptoSaid := Sx.proofs_over
end Go.Proofs.Ytbicefgjompnoaa
