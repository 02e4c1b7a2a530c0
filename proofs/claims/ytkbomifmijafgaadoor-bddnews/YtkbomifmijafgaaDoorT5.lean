/- A table: nodes go out. -/
import Derived.Test.YtkbomifmijafgaaDoorT4
namespace Go.Proofs.YtkbomifmijafgaaDoor.Sx
open Go.RowKit Go.Sort Go.Maps Go.WideMaps

set_option maxRecDepth 100000 in
set_option maxHeartbeats 1000000 in
theorem has_any (T : TL) (w : World) (R : List Rw) (M Fo : List (Value × Value)) (fr : List Nat) (h : Tab T w R M Fo fr) (i : Int) (b : Bool) (hb : (decide (0 ≤ i) && decide (i < T.n)) = b) :
    Calls Tryd.prog 15 #[.pointer (some ⟨T.b, 0, none⟩), .int .i64 i] w fun e w' => e = .returned (.bool b) ∧ w' = w := by
  obtain ⟨g, cap, fresh, hG⟩ := h
  have h0 := block_cell hG.blk 0
  clear hG
  subst hb
  have mo := follows
  by_cases hi : 0 ≤ i
  · go_enter Tryd.func15, Tryd.ntmps15
    go_wp2_with fail
    go_ret
    exact ⟨by simp [hi], rfl⟩
  · have hi2 : decide (0 ≤ i) = false := by simpa using hi
    go_enter Tryd.func15, Tryd.ntmps15
    go_wp2_with fail
    go_ret
    exact ⟨rfl, rfl⟩

theorem Fr.setB {P : Nat → Prop} {a b : World} (h : Fr P a b) {p : Addr} (hp : a.heap.size ≤ p.block) (u : Value) : Fr P a (b.setCell p u) :=
  ⟨h.os, h.tape, h.output, by simpa using h.size, fun i hi hq => by rw [Below.heap_setCell b p u i (by omega)]; exact h.block i hi hq⟩

set_option maxRecDepth 100000 in
set_option maxHeartbeats 1000000 in
theorem drop_given (T : TL) (w : World) (R : List Rw) (M Fo : List (Value × Value)) (fr : List Nat) (h : Tab T w R M Fo fr) (f : Nat) (r : Rw) (hr : R[f]? = some r) (hg : r.given = true) :
    Calls Tryd.prog 26 #[.pointer (some ⟨T.b, 0, none⟩), .int .i64 (f : Int)] w fun e w' => e = .returned (.tuple #[]) ∧ Fr (fun _ => True) w w' := by
  obtain ⟨g, cap, fresh, hG⟩ := h
  have h2 := block_cell hG.blk 2
  have hf := hG.rows.lt' hr
  have c0 := hG.rows.c0 hr
  have c1 := hG.rows.c1 hr
  have c2 := hG.rows.c2 hr
  have c3 := hG.rows.c3 hr
  have c4 := hG.rows.c4 hr
  rw [hg] at c4
  have n1 : (0 : Int) ≤ (f : Int) := by omega
  clear hG
  have mo := follows
  go_enter Tryd.func26, Tryd.ntmps26
  go_wp2_with fail
  all_goals
    refine bodyPost_ret (v := .tuple #[]) (by simp [results, Tryd.results26]) rfl ⟨rfl, (Fr.refl _ w).alloc _⟩

theorem TabG.again {T : TL} {w : World} {g cap : Nat} {fresh : Value} {R : List Rw} {M Fo : List (Value × Value)} {fr : List Nat} (h : TabG T w g cap fresh R M Fo fr) : TabG T (w.setCell ⟨T.b, 5, none⟩ (.map (some T.fb))) g cap fresh R M Fo fr := by
  have f2 : Fr (· ≠ T.b) w (w.setCell ⟨T.b, 5, none⟩ (.map (some T.fb))) := (Fr.refl _ w).set (by simp) _
  have hge := h.rows.ge
  have k1 := h.ok.b
  exact
  { blk := set_block h.blk 5 _
    rows := RowsAt.mk' (ownsG_of h.rows.own fun k e hb hl => f2.block k hl (by omega))
    frs := ownsG_of h.frs fun k e hb hl => f2.block k hl (by omega)
    far := h.far
    ok := h.ok.of f2 (Ne.symm h.ok.d1)
    made := h.made.of f2 (Ne.symm h.ok.d2)
    found := h.found.of f2 (Ne.symm h.ok.d3) }

set_option maxRecDepth 100000 in
set_option maxHeartbeats 1000000 in
theorem give_any (T : TL) (w : World) (R : List Rw) (M Fo : List (Value × Value)) (fr : List Nat) (h : Tab T w R M Fo fr) (f : Nat) (r : Rw) (hr : R[f]? = some r) (hfr : ∀ x ∈ fr, x = f) (hl : fr.length ≤ 1000) (hFo : Fo.length ≤ 1000) :
    Calls Tryd.prog 16 #[.pointer (some ⟨T.b, 0, none⟩), .int .i64 (f : Int)] w fun e w' => e = .returned (.int .i64 (f : Int)) ∧ Tab T w' (R.set f { r with given := true }) M [] [] ∧ Fr (· < T.lo) w w' := by
  obtain ⟨g, cap, fresh, hG⟩ := h
  have h2 := block_cell hG.blk 2
  have hf := hG.rows.lt' hr
  have c4 := hG.rows.c4 hr
  have z4 := hG.rows.frz (f * 5 + 4)
  have h2d := block_cell (hG.grew (Fr.refl _ w).drew).blk 2
  have c4d := (hG.grew (Fr.refl _ w).drew).rows.c4 hr
  have z4d := (hG.grew (Fr.refl _ w).drew).rows.frz (f * 5 + 4)
  have n1 : (0 : Int) ≤ (f : Int) := by omega
  have q1 := hG.set { r with given := true } (j := 4) (v := .bool true) hr (by omega) rfl
  have hge := hG.rows.ge
  have klo := hG.ok.lob
  have kb := hG.ok.b
  have HG : Hid (TabG _ _ _ _ _ _ _ _ _) := q1
  have HF : Hid (Fr (· < T.lo) w (w.setCell ⟨g, f * 5 + 4, none⟩ (.bool true))) := (Fr.refl _ w).set (by simp; omega) _
  obtain ⟨fa, fc, hfs⟩ : ∃ fa fc, fresh = .slice fa fr.length fc := by
    rcases hG.frs.2 with ⟨e, hn⟩ | ⟨g', cap', cur, e, _⟩
    · exact ⟨none, 0, by rw [e, hn]⟩
    · exact ⟨_, _, e⟩
  subst hfs
  have c6 := block_cell q1.blk 6
  clear hG q1
  have mo := follows
  go_enter Tryd.func16, Tryd.ntmps16
  go_wp2_with fail
  clear h2 c4 z4 h2d c4d z4d c6
  have hr1 : (R.set f { r with given := true })[f]? = some { r with given := true } := List.getElem?_set_self hf
  generalize (w.setCell ⟨g, f * 5 + 4, none⟩ (.bool true)) = W1 at HG HF ⊢
  generalize hR1 : R.set f { r with given := true } = R1 at HG hr1 ⊢
  go_loopg [19] (fr.length) (fun k s19 wr => ∃ j : Nat, s19 = .int .i64 (j : Int) ∧ j + k = fr.length ∧ Hid (TabG T wr g cap (.slice fa fr.length fc) R1 M Fo fr) ∧ Hid (Fr (· < T.lo) w wr))
  case atStart => exact ⟨0, rfl, by omega, HG, HF⟩
  case round =>
    obtain ⟨j, rfl, hjk, X, F⟩ := hrel
    clear HG HF
    by_cases hj : j < fr.length
    · obtain ⟨k, rfl⟩ : ∃ k, gk = k + 1 := ⟨gk - 1, by omega⟩
      have hx : fr[j]? = some f := by
        rw [List.getElem?_eq_getElem hj, hfr _ (List.getElem_mem hj)]
      obtain ⟨fg, fcap, hfe, -, -⟩ := X.out.frs.form (by omega)
      cases hfe
      have cj : wr.cell? ⟨fg, j, none⟩ = some (.int .i64 (f : Int)) := by
        have := X.out.frs.cells (g := fg) rfl j (.int .i64 (f : Int)) (by simp [hx])
        rw [show (⟨fg, 0, none⟩ : Addr).add j = ⟨fg, j, none⟩ by unfold Addr.add; split <;> simp_all] at this
        exact this
      have hjl : (j : Int) < (fr.length : Int) := by omega
      have hj0 : (0 : Int) ≤ (j : Int) := by omega
      have HD : Hid (Calls _ _ _ _ _) := drop_given T wr R1 M Fo fr ⟨_, _, _, X.out⟩ f _ hr1 rfl
      go_wp2_with (go_at_call 26; refine HD.out.mono ?_; rintro e w' ⟨rfl, hf'⟩; have X2 : Hid (TabG T w' _ _ _ _ _ _ _) := X.out.grew hf'; have F2 : Hid (Fr (· < T.lo) w w') := F.out.trans (hf'.mono fun _ _ => trivial); clear hf' cj HD X F)
      go_roundg k
      case measure => omega
      case rel => exact ⟨j + 1, by simp, by omega, X2, F2⟩
    · have hjl : ¬ (j : Int) < (fr.length : Int) := by omega
      have c6 := block_cell X.out.blk 6
      have z6 := frozen_block X.out.blk 6
      have q2 := X.out.stale
      have kb2 := X.out.ok.b
      have X2 : Hid (TabG _ _ _ _ _ _ _ _ _) := q2
      have F2 : Hid (Fr (· < T.lo) w _) := F.out.trans ((Fr.refl _ wr).set (p := ⟨T.b, 6, none⟩) (by simp; omega) (.slice none 0 0))
      have HC : Hid (Calls _ _ _ _ _) := cleared62_any _ T.fb Fo q2.found hFo
      have c5 := block_cell q2.blk 5
      have z5 := frozen_block q2.blk 5
      clear q2
      go_wp2_with fail
      refine HC.out.mono ?_
      rintro e W2 ⟨rfl, hm, hf2⟩
      have q3 := X2.out.finds hf2 hm
      have k5 := X2.out.ok.fb
      have kl5 := X2.out.ok.lofb
      have c5' := block_cell q3.blk 5
      have z5' := frozen_block q3.blk 5
      have X3 : Hid (TabG _ _ _ _ _ _ _ _ _) := q3.again
      have F3 : Hid (Fr (· < T.lo) w (W2.setCell ⟨T.b, 5, none⟩ (.map (some T.fb)))) := (F2.out.trans (hf2.mono fun k hk => by omega)).trans ((Fr.refl _ W2).set (p := ⟨T.b, 5, none⟩) (by simp; omega) (.map (some T.fb)))
      clear q3 hf2 hm HC X2 F2 X F c6 z6 c5 z5
      go_wp2_with fail
      go_ret
      exact ⟨rfl, ⟨_, _, _, by rw [hR1]; exact X3.out⟩, F3.out⟩

end Go.Proofs.YtkbomifmijafgaaDoor.Sx
