/- The reference: its reader, at every level; what it tells of a text. -/
import Derived.Test.YtbogejmmkohbkaaGreatDoorGRb
namespace Go.Proofs.YtbogejmmkohbkaaGreatDoor.Sx
open Go.RowKit Go.Sort

theorem rval_all : ∀ d, d ≤ 24 → RVal d
  | 0, _ => rvalue_walk 0 (rowsOK_zero _ _ _ (.inl rfl) rfl (by decide)) (rowsOK_zero _ _ _ (.inr (.inl rfl)) rfl (by decide)) pairsOK_zero
  | k + 1, h => by
    have V := rval_all k (by omega)
    refine rvalue_walk (k + 1) (rowsOK_succ k V (by omega) _ _ _ (.inl rfl) (.inr (.inl rfl)) (by decide) (by decide) (fun T S q => bracketP_set q)) ?_ (pairsOK_succ k V (by omega))
    refine rowsOK_succ k V (by omega) _ _ _ ?_ ?_ (by decide) (by decide) (fun T S q => bracketP_seq q)
    · exact .inr (.inr (.inr (.inr (.inr (.inr (.inl rfl))))))
    · exact .inr (.inr (.inr (.inr (.inr (.inr (.inr rfl))))))

theorem digits_cls (l : List UInt8) : (digitsT l).1 = 2 ∨ (digitsT l).1 = 5 := by
  unfold digitsT
  repeat' split
  · exact .inr rfl
  · exact .inl rfl
  · exact .inr rfl
theorem tok_some (l : List UInt8) (h : l.length ≠ 0) : (tokT l).1 ≠ 0 := by
  unfold tokT
  rw [if_neg h]
  split
  · exact Nat.one_ne_zero
  · split
    · rcases digits_cls l with q | q <;> rw [q] <;> decide
    · split
      · unfold negT
        split
        · decide
        · rcases digits_cls (l.drop 1) with q | q
          · show (digitsT (l.drop 1)).1 ≠ 0; rw [q]; decide
          · show (digitsT (l.drop 1)).1 ≠ 0; rw [q]; decide
      · split
        · rcases qScan_cls (l.drop 1) 1 with q | q <;> rw [q] <;> decide
        · unfold signT
          repeat' split
          all_goals decide

/-- what stands behind a value tells what a text is -/
theorem read_ends {T : List UInt8} {x : AV 25} {s' : RSt} (ht : T.length ≤ 4000) (h : AgreeR T (valueP T 24 (pos T 0 false)) ⟨0, 0, 0, 0, false⟩ x s') :
    (s'.e ≠ 0 → readP T = .error (s'.e, s'.bad)) ∧ (s'.e = 0 → skipN T s'.at' < T.length → readP T = .error (1, skipN T s'.at')) ∧
    (s'.e = 0 → skipN T s'.at' = T.length → s'.hv = true → readP T = .error (6, 0)) ∧ (s'.e = 0 → skipN T s'.at' = T.length → s'.hv = false → readP T = .ok x) := by
  obtain ⟨a1, a2, a3, a4, a5⟩ := h
  have hr : readP T = match valueP T 24 (pos T 0 false) with
    | .error e => .error e
    | .ok (v, s) => if s.cl ≠ 0 then .error (1, s.at') else if s.hv then .error (6, 0) else .ok v := by
    unfold readP
    rw [if_neg (by omega)]
    rfl
  rcases a5 rfl with ⟨c1, c2⟩ | ⟨c1, c2⟩
  · rw [c2] at hr
    have hcl : (pos T s'.at' s'.hv).cl = (tokT (T.drop (skipN T s'.at'))).1 := rfl
    have hat : (pos T s'.at' s'.hv).at' = skipN T s'.at' := rfl
    have hhv : (pos T s'.at' s'.hv).hv = s'.hv := rfl
    have hr2 : readP T = if (pos T s'.at' s'.hv).cl ≠ 0 then .error (1, (pos T s'.at' s'.hv).at') else if (pos T s'.at' s'.hv).hv then .error (6, 0) else .ok x := hr
    refine ⟨fun q => absurd c1 q, fun _ q => ?_, fun _ q q2 => ?_, fun _ q q2 => ?_⟩
    · rw [hr2, if_pos (by rw [hcl]; exact tok_some _ (by rw [List.length_drop]; omega)), hat]
    · have e0 : T.drop (skipN T s'.at') = [] := List.drop_eq_nil_of_le (by omega)
      rw [hr2, if_neg (by rw [hcl, e0, tok_end]; simp), if_pos (by rw [hhv]; exact q2)]
    · have e0 : T.drop (skipN T s'.at') = [] := List.drop_eq_nil_of_le (by omega)
      rw [hr2, if_neg (by rw [hcl, e0, tok_end]; simp), if_neg (by rw [hhv, q2]; simp)]
  · rw [c2] at hr
    exact ⟨fun _ => hr, fun q => absurd q c1, fun q => absurd q c1, fun q => absurd q c1⟩

/-- what the reference tells of a text -/
def RSaid (w : World) (R : Except (Nat × Nat) (AV 25)) (e : Ending) (w' : World) : Prop :=
  ∃ (v : Value) (x : AV 25) (bad c : Nat), e = .returned (.tuple #[v, .int .i64 (bad : Int), .int .i64 (c : Int)]) ∧ Fr (fun _ => True) w w' ∧ Ref (fun k => w.heap.size ≤ k) w' 25 x v ∧ ((R = .ok x ∧ c = 0 ∧ bad = 0) ∨ (R = .error (c, bad) ∧ c ≠ 0 ∧ x = (mkNil : Node (AV 24))))
theorem said_end {w W : World} {v0 v1 v2 v3 v4 c0 c1 c2 c3 c4 : Value} {x : AV 25} {R : Except (Nat × Nat) (AV 25)} {bad c : Nat} (x2 : W.heap[w.heap.size]? = some (.cells #[v0, v1, v2, v3, v4] 30 (0, 0))) (F : Fr (fun _ => True) w W) (RF : Ref (fun k => w.heap.size + 1 ≤ k) W 25 x (.agg #[c0, c1, c2, c3, c4])) (hR : (R = .ok x ∧ c = 0 ∧ bad = 0) ∨ (R = .error (c, bad) ∧ c ≠ 0 ∧ x = (mkNil : Node (AV 24)))) :
    (set5 W w.heap.size 0 c0 c1 c2 c3 c4).heap[w.heap.size]? = some (.cells #[c0, c1, c2, c3, c4] 30 (0, 0)) ∧ RSaid w R (.returned (.tuple #[.agg #[c0, c1, c2, c3, c4], .int .i64 (bad : Int), .int .i64 (c : Int)])) (set5 W w.heap.size 0 c0 c1 c2 c3 c4) := by
  refine ⟨set5_block x2 c0 c1 c2 c3 c4, _, x, bad, c, rfl, fr_box F (Nat.le_refl _) 0 c0 c1 c2 c3 c4, ?_, hR⟩
  exact RF.fr (set5_fr (Fr.refl _ W) (by omega) _ _ _ _ _ _) (fun k _ hk => by omega) _ _ _
end Go.Proofs.YtbogejmmkohbkaaGreatDoor.Sx
