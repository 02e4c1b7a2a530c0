/- The law, whatever it is handed. -/
import Derived.Test.YtkbomifmijafgaaDoorT20
import Derived.Test.YtkbomifmijafgaaDoorT22
namespace Go.Proofs.YtkbomifmijafgaaDoor.Sx
open Go.RowKit Go.Sort Go.Maps Go.WideMaps

theorem w64 {x : Nat} (h : x ≤ 100000000) : wrap64 (x : Int) = (x : Int) := by
  unfold wrap64; omega
theorem td2 (x : Nat) : (x : Int).tdiv 2 = ((x / 2 : Nat) : Int) := (Int.ofNat_tdiv x 2).symm
theorem td4 (x : Nat) : (x : Int).tdiv 4 = ((x / 2 / 2 : Nat) : Int) := by
  rw [Nat.div_div_eq_div_mul]; exact (Int.ofNat_tdiv x 4).symm
theorem pw_two {n : Nat} (h : 1 ≤ n) : 0 < 2 ^ n / 2 := by
  obtain ⟨j, rfl⟩ : ∃ j, n = j + 1 := ⟨n - 1, by omega⟩
  rw [Nat.pow_succ, Nat.mul_div_cancel _ (by omega)]
  exact Nat.pos_of_ne_zero (by simp)
theorem pw_four {n : Nat} (h : 2 ≤ n) : 0 < 2 ^ n / 2 / 2 := by
  obtain ⟨j, rfl⟩ : ∃ j, n = j + 1 := ⟨n - 1, by omega⟩
  rw [Nat.pow_succ, Nat.mul_div_cancel _ (by omega)]
  exact pw_two (by omega)

theorem law_any (w : World) (n i k : Int) (p : Option Addr) (m c : Nat) (at' : List Bool) (hA : AtOK w p m at') (hE : EtB w) :
    Calls Tryd.prog 3 #[.int .i64 n, .int .i64 i, .int .i64 k, .slice p m c] w fun e w' => e = .returned (.bool true) ∧ Fr (fun _ => True) w w' := by
  by_cases hn0 : n < 0
  · exact law_no w n i k _ (.inl hn0) hE
  by_cases hn1 : 24 < n
  · exact law_no w n i k _ (.inr hn1) hE
  obtain ⟨N, rfl⟩ : ∃ N : Nat, n = (N : Int) := ⟨n.toNat, by omega⟩
  have hn : N ≤ 24 := by omega
  have hkc : ∀ k : Int, (¬ 0 ≤ k ∨ (0 ≤ k ∧ ¬ k < N)) ∨ ∃ K : Nat, k = (K : Int) ∧ K < N := by
    intro k
    by_cases h0 : 0 ≤ k
    · by_cases h1 : k < N
      · exact .inr ⟨k.toNat, by omega, by omega⟩
      · exact .inl (.inr ⟨h0, h1⟩)
    · exact .inl (.inl h0)
  have hno : ∀ k : Int, (¬ 0 ≤ k ∨ (0 ≤ k ∧ ¬ k < N)) → (decide (0 ≤ k) && decide (k < N)) = false := by
    intro k h
    simp only [Bool.and_eq_false_iff, decide_eq_false_iff_not]
    rcases h with h | h
    · exact .inl h
    · exact .inr h.2
  have hpw := wrap_pow N hn
  have hP := pw_le hn
  rcases hkc i with hi | ⟨I, rfl, hI⟩
  · rcases hkc k with hk | ⟨K, rfl, hK⟩
    · rcases hi with i1 | ⟨i1, i2⟩
      · exact law_neg w N i k p m c at' _ _ _ _ _ _ _ _ _ _ _ _ hn hA (way_A (hno i (.inl i1)) (hno k hk)) i1 rfl rfl ⟨hk.elim .inl fun q => .inr (.inl q), rfl, rfl⟩
      · exact law_big w N i k p m c at' _ _ _ _ _ _ _ _ _ _ _ _ hn hA (way_A (hno i (.inr ⟨i1, i2⟩)) (hno k hk)) i1 i2 rfl rfl ⟨hk.elim .inl fun q => .inr (.inl q), rfl, rfl⟩
    · rcases hi with i1 | ⟨i1, i2⟩
      · exact law_neg w N i K p m c at' _ _ _ _ _ _ _ _ _ _ _ _ hn hA (way_B (hno i (.inl i1)) hK) i1 rfl rfl ⟨.inr (.inr ⟨by omega, by omega⟩), rfl, rfl⟩
      · exact law_big w N i K p m c at' _ _ _ _ _ _ _ _ _ _ _ _ hn hA (way_B (hno i (.inr ⟨i1, i2⟩)) hK) i1 i2 rfl rfl ⟨.inr (.inr ⟨by omega, by omega⟩), rfl, rfl⟩
  · have hlen := hA.1
    by_cases hm : I < m
    · obtain ⟨eo, heo⟩ : ∃ eo, at'[I]? = some eo := ⟨at'[I], List.getElem?_eq_getElem (by omega)⟩
      have he : atE m I at' eo := .inr ⟨hm, heo⟩
      rcases hkc k with hk | ⟨K, rfl, hK⟩
      · exact law_in w N I k p m c at' _ _ _ _ _ _ _ _ _ _ _ _ hn hA (way_C hI he (hno k hk)) hI (by omega) hm heo _ _ _ hpw (td2 _) (td4 _) (w64 (by omega)) (w64 (by omega)) (.inl ⟨hk, rfl, rfl⟩)
      · rcases Nat.lt_trichotomy I K with q | q | q
        · exact law_in w N I K p m c at' _ _ _ _ _ _ _ _ _ _ _ _ hn hA (way_E hn hK q he) hI (by omega) hm heo _ _ _ hpw (td2 _) (td4 _) (w64 (by omega)) (w64 (by omega)) (.inr (.inr ⟨⟨by omega, by omega, by simp; omega, pw_four (by omega)⟩, rfl, rfl⟩))
        · subst q
          exact law_in w N I I p m c at' _ _ _ _ _ _ _ _ _ _ _ _ hn hA (way_D hn hI he) hI (by omega) hm heo _ _ _ hpw (td2 _) (td4 _) (w64 (by omega)) (w64 (by omega)) (.inr (.inl ⟨rfl, pw_two (by omega), rfl, rfl⟩))
        · exact law_in w N I K p m c at' _ _ _ _ _ _ _ _ _ _ _ _ hn hA (way_F hn hI q he) hI (by omega) hm heo _ _ _ hpw (td2 _) (td4 _) (w64 (by omega)) (w64 (by omega)) (.inr (.inr ⟨⟨by omega, by omega, by simp; omega, pw_four (by omega)⟩, rfl, rfl⟩))
    · have he : atE m I at' false := .inl ⟨by omega, rfl⟩
      rcases hkc k with hk | ⟨K, rfl, hK⟩
      · exact law_off w N I k p m c at' _ _ _ _ _ _ _ _ _ _ _ _ hn hA (way_C hI he (hno k hk)) hI (by omega) hm rfl _ _ _ hpw (td2 _) (td4 _) (w64 (by omega)) (w64 (by omega)) (.inl ⟨hk, rfl, rfl⟩)
      · rcases Nat.lt_trichotomy I K with q | q | q
        · exact law_off w N I K p m c at' _ _ _ _ _ _ _ _ _ _ _ _ hn hA (way_E hn hK q he) hI (by omega) hm rfl _ _ _ hpw (td2 _) (td4 _) (w64 (by omega)) (w64 (by omega)) (.inr (.inr ⟨⟨by omega, by omega, by simp; omega, pw_four (by omega)⟩, rfl, rfl⟩))
        · subst q
          exact law_off w N I I p m c at' _ _ _ _ _ _ _ _ _ _ _ _ hn hA (way_D hn hI he) hI (by omega) hm rfl _ _ _ hpw (td2 _) (td4 _) (w64 (by omega)) (w64 (by omega)) (.inr (.inl ⟨rfl, pw_two (by omega), rfl, rfl⟩))
        · exact law_off w N I K p m c at' _ _ _ _ _ _ _ _ _ _ _ _ hn hA (way_F hn hI q he) hI (by omega) hm rfl _ _ _ hpw (td2 _) (td4 _) (w64 (by omega)) (w64 (by omega)) (.inr (.inr ⟨⟨by omega, by omega, by simp; omega, pw_four (by omega)⟩, rfl, rfl⟩))

end Go.Proofs.YtkbomifmijafgaaDoor.Sx
