/- The law of expressions: its walk. -/
import Derived.Test.YtjbekejcghjhbaaGreatDoorF22
import Derived.Test.YtjbekejcghjhbaaGreatDoorF47
import Derived.Test.YtjbekejcghjhbaaGreatDoorF38
import Derived.Lib.ItoaLen
import Derived.Lib.ParseIntBTie
namespace Go.Proofs.YtjbekejcghjhbaaGreatDoor.Sx
open Go.RowKit Go.Sort

theorem itoa_pos (v : Int) : 0 < (Lib.itoa v).length := by
  have hd : ∀ n, 0 < (Lib.decDigits n).length := fun n => by
    rw [Lib.decDigits.eq_def]
    split <;> simp
  unfold Lib.itoa
  split
  · simp
  · exact hd _
/-- every text, read in both ways to the same -/
theorem both_all (T : List UInt8) (hT : T.length ≤ 1000) : ∃ f g r, f ≤ 1000000 ∧ g ≤ 1000000 ∧ allX (tkF T) f = some r ∧ wholeX (tkF T) g = some r ∧ ∀ x j, r = .ok (x, j) → x.tx.length ≤ 1000000000 ∧ 0 < x.tx.length := by
  obtain ⟨N, hN, h, _⟩ := last_exists T
  obtain ⟨r, hr, hadv⟩ := refX_adv (last_of h) (N + 1) 0 0 0 (Nat.zero_le _) (by omega)
  have hg := (ref_prog (tkF_ok T) (N + 1) 0 0 0).some hr
  have hlen : ∀ x j, r = .ok (x, j) → x.tx.length ≤ 1000000000 ∧ 0 < x.tx.length := fun x j e => by
    subst e
    have h1 := progX_len (K := tkF T) (fun i v hv => by
      have hb := Lib.parseIntB_bounds hv
      have := Lib.itoa_length_le v (by omega) (by omega)
      omega) (tkF_short T (by omega)) _ _ _ _ x j hg
    have h2 := hadv x j rfl
    exact ⟨by omega, progX_pos (clF_pos T) itoa_pos _ _ _ _ x j hg⟩
  refine ⟨N + 1, 13 * (N + 1) + 20, ?_⟩
  unfold allX wholeX
  rw [hr, hg]
  rcases r with e | ⟨x, j⟩
  · exact ⟨_, by omega, by omega, rfl, rfl, fun x j e => by simp at e⟩
  · show ∃ r, _ ∧ _ ∧ (if (tkF T j).cl = 0 then okX x j else errX 1 (tkF T j).at') = some r ∧ (if (tkF T j).cl = 0 then okX x j else errX 1 (tkF T j).at') = some r ∧ _
    split
    · exact ⟨_, by omega, by omega, rfl, rfl, fun y k e => by
        have e1 := (Prod.mk.inj (Except.ok.inj e)).1
        rw [← e1]; exact hlen x j rfl⟩
    · exact ⟨_, by omega, by omega, rfl, rfl, fun x j e => by simp at e⟩
theorem Fr.allF {w w' : World} (h : Fr (fun _ => True) w w') : Below w.heap.size w w' := ⟨h.os, h.tape, h.output, h.size, fun i hi => h.block i hi trivial⟩
/-- both sides say the same of a text -/
theorem sides (t : ByteArray) (w : World) (hB : BaseF w) (hs : t.size ≤ 9223372036854775806) : ∃ r, Calls Tryz.prog 23 #[.string t] w (ExprPost w r) ∧ (∀ W, Calls Tryz.prog 24 #[.string t] W (ParsePost W r)) ∧ ∀ x j, r = .ok (x, j) → x.tx.length ≤ 1000000000 := by
  have hl : t.data.toList.length = t.size := by simp
  by_cases h : t.size ≤ 1000
  · obtain ⟨f, g, r, hf, hg, h1, h2, h3⟩ := both_all t.data.toList (by omega)
    exact ⟨r, fExpr_of t w r (fReadExpr_of t w r (fwhole_any t w h hB.envF g hg r h2)) hB.tab (by have := hB.env.1; omega) (fun x j e => ⟨by have := (h3 x j e).1; omega, (h3 x j e).2⟩), fun W => gParse_any t W h f hf r h1, fun x j e => (h3 x j e).1⟩
  · exact ⟨.error (6, 0), fExpr_of t w _ (fReadExpr_of t w _ (fwhole_full t w (by omega) (by omega))) hB.tab (by have := hB.env.1; omega) (fun x j e => by simp at e), fun W => gParse_full t W (by omega) (by omega), fun x j e => by simp at e⟩

set_option maxRecDepth 100000 in
set_option maxHeartbeats 2000000 in
theorem forms_any (t : ByteArray) (w : World) (hB : BaseF w) (hs : t.size ≤ 9223372036854775806) : GivesF 8 #[.string t] w (.bool true) := by
  obtain ⟨r, h1, h2, h3⟩ := sides t w hB hs
  have HE : Hid (Calls _ _ _ _ _) := h1
  have HG : Hid (∀ W, Calls Tryz.prog 24 #[.string t] W (ParsePost W r)) := h2
  have HB : Hid (BaseF w) := hB
  have mo := follows
  clear hB h1 h2 hs
  unfold GivesF
  go_enter Tryz.func8, Tryz.ntmps8
  go_wp2_with fail
  refine HE.out.mono ?_
  rcases r with ⟨c, p⟩ | ⟨x, j⟩
  · rintro e w1 ⟨hf1, rfl⟩
    have F1 : Hid (Fr (fun _ => True) w w1) := hf1
    clear hf1 HE h3
    go_wp2_with fail
    refine (HG.out w1).mono ?_
    rintro e w2 ⟨hf2, hc, rfl⟩
    have F2 : Hid (Fr (fun _ => True) w w2) := F1.out.newerT hf2 fun _ _ => trivial
    have hc0 : ((c : Int) == 0) = false := by rw [beq_eq_false_iff_ne]; omega
    have HT : Hid (Calls _ _ _ _ _) := same_errnoF w2 c c (HB.out.below F2.out.allF)
    rw [decide_eq_true rfl] at HT
    clear hf2 F1 HG HB hc
    go_wp2_with fail
    refine HT.out.mono ?_
    rintro e w3 ⟨rfl, hb⟩
    have B3 : Hid (Below w.heap.size w w3) := F2.out.allF.trans (hb.mono F2.out.size)
    clear hb F2 HT
    go_wp2_with fail
    go_ret
    exact ⟨by simp, B3.out⟩
  · rintro e w1 ⟨hf1, rfl⟩
    have hl := h3 x j rfl
    have F1 : Hid (Fr (fun _ => True) w w1) := hf1
    clear hf1 HE h3
    go_wp2_with fail
    refine (HG.out w1).mono ?_
    rintro e w2 ⟨hf2, b, rfl, ht⟩
    have F2 : Hid (Fr (fun _ => True) w w2) := F1.out.newerT hf2 fun _ _ => trivial
    obtain ⟨n, hn⟩ := ht
    have HC : Hid (Calls _ _ _ _ _) := prT n _ w2 x _ 0 hn hl (by omega)
    rw [part0] at HC
    generalize x.tx = l at HC ⊢
    clear hf2 F1 HG hn hl
    go_wp2_with fail
    refine HC.out.mono ?_
    rintro e w3 ⟨rfl, hg⟩
    have F3 : Hid (Fr (fun _ => True) w w3) := F2.out.trans (Fr.grew hg)
    have HT : Hid (Calls _ _ _ _ _) := same_nilF w3 0
    rw [decide_eq_true rfl] at HT
    clear hg F2 HC HB
    go_wp2_with fail
    refine HT.out.mono ?_
    rintro e w4 ⟨rfl, hb⟩
    have B4 : Hid (Below w.heap.size w w4) := F3.out.allF.trans (hb.mono F3.out.size)
    clear hb F3 HT
    go_wp2_with fail
    go_ret
    exact ⟨by simp, B4.out⟩
end Go.Proofs.YtjbekejcghjhbaaGreatDoor.Sx
