/- slices.Sort of literals: heaps. -/
import Derived.Test.YtbicefgjompnoaaDoorF06
import Derived.Outline
namespace Go.Proofs.YtbicefgjompnoaaDoor.Sx
open Go.RowKit Go.Sort

set_option maxRecDepth 100000 in
set_option maxHeartbeats 4000000 in
theorem siftDown_any (w : World) (g len cap lo hi first : Nat) (d : Array Nat) (h : LRow w g d) (hl : len ≤ 4294967296) (hd : len ≤ d.size) (hb : first + hi ≤ len) (hlo : lo ≤ len) :
    Calls Tryd.prog 80 #[.slice (some ⟨g, 0, none⟩) len cap, .int .i64 lo, .int .i64 hi, .int .i64 first] w (RowPost w g (siftDown ltN hi first lo d)) := by
  have H0 : Hid (LRow w g d) := h
  clear h
  have mo := follows
  obtain ⟨R, hR⟩ : ∃ R, siftDown ltN hi first lo d = R := ⟨_, rfl⟩
  rw [hR]
  have HR0 : Hid (siftDown ltN hi first lo d = R) := hR
  clear hR
  go_enter Tryd.func80, Tryd.ntmps80
  go_wp2_with fail
  go_loopg [8] (hi) (fun k s8 wr => ∃ (r : Nat) (f : Array Nat), s8 = .int .i64 (r : Int) ∧ r ≤ len ∧ r + k ≥ hi ∧ f.size = d.size ∧ Hid (LRow wr g f) ∧ Hid (Fr (· ≠ g) w wr) ∧ Hid (siftDown ltN hi first r f = R))
  case atStart => exact ⟨lo, d, rfl, hlo, by omega, rfl, H0, Fr.refl _ _, HR0⟩
  case round =>
    clear HR0 H0
    obtain ⟨r, f, rfl, hrh, hk1, hf, HL, HF, HU⟩ := hrel
    have hu := HU.out
    unfold siftDown at hu
    clear HU
    by_cases h1 : 2 * r + 1 ≥ hi
    · rw [dif_pos h1] at hu
      subst hu
      have i1 : (hi : Int) ≤ 2 * (r : Int) + 1 := by omega
      go_wp2_with fail
      go_end0
      exact ⟨rfl, HL.out, HF.out⟩
    rw [dif_neg h1] at hu
    obtain ⟨k, rfl⟩ : ∃ k, gk = k + 1 := ⟨gk - 1, by omega⟩
    have i1 : ¬ (hi : Int) ≤ 2 * (r : Int) + 1 := by omega
    have i2 : (0 : Int) ≤ (first : Int) + (2 * (r : Int) + 1) := by omega
    have i3 : (first : Int) + (2 * (r : Int) + 1) < (len : Int) := by omega
    have i4 : ((first : Int) + (2 * (r : Int) + 1)).toNat = first + (2 * r + 1) := by omega
    have i5 : (0 : Int) ≤ (first : Int) + (r : Int) := by omega
    have i6 : (first : Int) + (r : Int) < (len : Int) := by omega
    have i7 : ((first : Int) + (r : Int)).toNat = first + r := by omega
    obtain ⟨x, hx⟩ : ∃ x, f[first + r]! = x := ⟨_, rfl⟩
    have Hx : Hid (f[first + r]! = x) := hx
    obtain ⟨y, hy⟩ : ∃ y, f[first + (2 * r + 1)]! = y := ⟨_, rfl⟩
    have Hy : Hid (f[first + (2 * r + 1)]! = y) := hy
    by_cases h2 : 2 * r + 1 + 1 < hi
    · have j1 : 2 * (r : Int) + 1 + 1 < (hi : Int) := by omega
      have j2 : (0 : Int) ≤ (first : Int) + (2 * (r : Int) + 1) + 1 := by omega
      have j3 : (first : Int) + (2 * (r : Int) + 1) + 1 < (len : Int) := by omega
      have j4 : ((first : Int) + (2 * (r : Int) + 1) + 1).toNat = first + (2 * r + 2) := by omega
      have j5 : (0 : Int) ≤ (first : Int) + (2 * (r : Int) + 1 + 1) := by omega
      have j6 : (first : Int) + (2 * (r : Int) + 1 + 1) < (len : Int) := by omega
      have j7 : ((first : Int) + (2 * (r : Int) + 1 + 1)).toNat = first + (2 * r + 2) := by omega
      have e0 : first + (2 * r + 1) + 1 = first + (2 * r + 2) := by omega
      rw [e0] at hu
      obtain ⟨z, hz⟩ : ∃ z, f[first + (2 * r + 2)]! = z := ⟨_, rfl⟩
      have Hz : Hid (f[first + (2 * r + 2)]! = z) := hz
      rw [hx, hy, hz] at hu
      clear hx hy hz e0
      have ac0 := HL.out.cell (i := first + (2 * r + 1)) (by omega)
      have ad0 := HL.out.drew.cell (i := first + (2 * r + 1)) (by omega)
      have az0 := HL.out.free (first + (2 * r + 1))
      have ay0 := HL.out.drew.free (first + (2 * r + 1))
      rw [Hy.out] at ac0 ad0
      have ac1 := HL.out.cell (i := first + (2 * r + 2)) (by omega)
      have ad1 := HL.out.drew.cell (i := first + (2 * r + 2)) (by omega)
      have az1 := HL.out.free (first + (2 * r + 2))
      have ay1 := HL.out.drew.free (first + (2 * r + 2))
      rw [Hz.out] at ac1 ad1
      cases hyz : ltN y z with
      | true =>
        rw [hyz] at hu
        simp only [h2, decide_true, Bool.and_self, if_true] at hu
        have HC : Hid (∀ w, Calls Tryd.prog 77 #[.int .i32 (y : Int), .int .i32 (z : Int)] w fun e w' => e = .returned (.bool true) ∧ w' = w) := fun w => by rw [← hyz]; exact less_any w y z
        clear hyz
        go_wp2_with fail
        go_quiet ((go_at_call 77; exact Calls.quiet_of_same (HC.out _)))
        go_wp2_with fail
        have HL1 : LRow (wr.drewN nq) g f := HL.out.drewN _
        have HF1 : Fr (· ≠ g) w (wr.drewN nq) := HF.out.drewN _
        clear ac0 ad0 az0 ay0 ac1 ad1 az1 ay1 HL HF
        generalize wr.drewN nq = wA at HL1 HF1 ⊢
        have HL : Hid (LRow wA g f) := HL1
        have HF : Hid (Fr (· ≠ g) w wA) := HF1
        clear HL1 HF1
        have ac0 := HL.out.cell (i := first + r) (by omega)
        have ad0 := HL.out.drew.cell (i := first + r) (by omega)
        have az0 := HL.out.free (first + r)
        have ay0 := HL.out.drew.free (first + r)
        rw [Hx.out] at ac0 ad0
        have ac1 := HL.out.cell (i := first + (2 * r + 2)) (by omega)
        have ad1 := HL.out.drew.cell (i := first + (2 * r + 2)) (by omega)
        have az1 := HL.out.free (first + (2 * r + 2))
        have ay1 := HL.out.drew.free (first + (2 * r + 2))
        rw [Hz.out] at ac1 ad1
        cases hlt : ltN x z with
        | false =>
          rw [hlt] at hu
          have hq : f = R := by simpa using hu
          subst hq
          have HD : Hid (∀ w, Calls Tryd.prog 77 #[.int .i32 (x : Int), .int .i32 (z : Int)] w fun e w' => e = .returned (.bool false) ∧ w' = w) := fun w => by rw [← hlt]; exact less_any w x z
          clear hu hlt
          go_wp2_with fail
          go_quiet ((go_at_call 77; exact Calls.quiet_of_same (HD.out _)))
          go_wp2_with fail
          go_end0
          exact ⟨rfl, HL.out.drewN _, HF.out.drewN _⟩
        | true =>
          rw [hlt] at hu
          have hq : siftDown ltN hi first (2 * r + 2) (swp f (first + r) (first + (2 * r + 2))) = R := by simpa [show 2 * r + 2 < hi from by omega] using hu
          have HQ : Hid (siftDown ltN hi first (2 * r + 2) (swp f (first + r) (first + (2 * r + 2))) = R) := hq
          have HD : Hid (∀ w, Calls Tryd.prog 77 #[.int .i32 (x : Int), .int .i32 (z : Int)] w fun e w' => e = .returned (.bool true) ∧ w' = w) := fun w => by rw [← hlt]; exact less_any w x z
          clear hu hq hlt
          go_wp2_with fail
          go_quiet ((go_at_call 77; exact Calls.quiet_of_same (HD.out _)))
          go_wp2_with fail
          have HL1 : LRow (wA.drewN nq) g f := HL.out.drewN _
          have HF1 : Fr (· ≠ g) w (wA.drewN nq) := HF.out.drewN _
          clear ac0 ad0 az0 ay0 ac1 ad1 az1 ay1 HL HF
          generalize wA.drewN nq = W at HL1 HF1 ⊢
          have HL : Hid (LRow W g f) := HL1
          have HF : Hid (Fr (· ≠ g) w W) := HF1
          clear HL1 HF1
          have bc0 := HL.out.cell (i := first + r) (by omega)
          have bd0 := HL.out.drew.cell (i := first + r) (by omega)
          have bz0 := HL.out.free (first + r)
          have by0 := HL.out.drew.free (first + r)
          rw [Hx.out] at bc0 bd0
          have bc1 := HL.out.cell (i := first + (2 * r + 2)) (by omega)
          have bd1 := HL.out.drew.cell (i := first + (2 * r + 2)) (by omega)
          have bz1 := HL.out.free (first + (2 * r + 2))
          have by1 := HL.out.drew.free (first + (2 * r + 2))
          rw [Hz.out] at bc1 bd1
          have HL2 : Hid (LRow (swL W g (first + r) (first + (2 * r + 2)) x z) g (swp f (first + r) (first + (2 * r + 2)))) := by rw [← Hx.out, ← Hz.out]; exact HL.out.swap _ _
          have HF2 : Hid (Fr (· ≠ g) w (swL W g (first + r) (first + (2 * r + 2)) x z)) := HF.out.swapL _ _ _ _
          clear HL HF
          go_big_region_o
          go_wp2_with fail
          go_roundg k
          case measure => omega
          case rel => exact ⟨2 * r + 2, _, by simp <;> omega, by omega, by omega, by rw [size_swp]; exact hf, HL2, HF2, HQ⟩
      | false =>
        rw [hyz] at hu
        simp only [Bool.and_false, if_false, Bool.false_eq_true] at hu
        have HC : Hid (∀ w, Calls Tryd.prog 77 #[.int .i32 (y : Int), .int .i32 (z : Int)] w fun e w' => e = .returned (.bool false) ∧ w' = w) := fun w => by rw [← hyz]; exact less_any w y z
        clear hyz
        go_wp2_with fail
        go_quiet ((go_at_call 77; exact Calls.quiet_of_same (HC.out _)))
        go_wp2_with fail
        have HL1 : LRow (wr.drewN nq) g f := HL.out.drewN _
        have HF1 : Fr (· ≠ g) w (wr.drewN nq) := HF.out.drewN _
        clear ac0 ad0 az0 ay0 ac1 ad1 az1 ay1 HL HF
        generalize wr.drewN nq = wA at HL1 HF1 ⊢
        have HL : Hid (LRow wA g f) := HL1
        have HF : Hid (Fr (· ≠ g) w wA) := HF1
        clear HL1 HF1
        have ac0 := HL.out.cell (i := first + r) (by omega)
        have ad0 := HL.out.drew.cell (i := first + r) (by omega)
        have az0 := HL.out.free (first + r)
        have ay0 := HL.out.drew.free (first + r)
        rw [Hx.out] at ac0 ad0
        have ac1 := HL.out.cell (i := first + (2 * r + 1)) (by omega)
        have ad1 := HL.out.drew.cell (i := first + (2 * r + 1)) (by omega)
        have az1 := HL.out.free (first + (2 * r + 1))
        have ay1 := HL.out.drew.free (first + (2 * r + 1))
        rw [Hy.out] at ac1 ad1
        cases hlt : ltN x y with
        | false =>
          rw [hlt] at hu
          have hq : f = R := by simpa using hu
          subst hq
          have HD : Hid (∀ w, Calls Tryd.prog 77 #[.int .i32 (x : Int), .int .i32 (y : Int)] w fun e w' => e = .returned (.bool false) ∧ w' = w) := fun w => by rw [← hlt]; exact less_any w x y
          clear hu hlt
          go_wp2_with fail
          go_quiet ((go_at_call 77; exact Calls.quiet_of_same (HD.out _)))
          go_wp2_with fail
          go_end0
          exact ⟨rfl, HL.out.drewN _, HF.out.drewN _⟩
        | true =>
          rw [hlt] at hu
          have hq : siftDown ltN hi first (2 * r + 1) (swp f (first + r) (first + (2 * r + 1))) = R := by simpa using hu
          have HQ : Hid (siftDown ltN hi first (2 * r + 1) (swp f (first + r) (first + (2 * r + 1))) = R) := hq
          have HD : Hid (∀ w, Calls Tryd.prog 77 #[.int .i32 (x : Int), .int .i32 (y : Int)] w fun e w' => e = .returned (.bool true) ∧ w' = w) := fun w => by rw [← hlt]; exact less_any w x y
          clear hu hq hlt
          go_wp2_with fail
          go_quiet ((go_at_call 77; exact Calls.quiet_of_same (HD.out _)))
          go_wp2_with fail
          have HL1 : LRow (wA.drewN nq) g f := HL.out.drewN _
          have HF1 : Fr (· ≠ g) w (wA.drewN nq) := HF.out.drewN _
          clear ac0 ad0 az0 ay0 ac1 ad1 az1 ay1 HL HF
          generalize wA.drewN nq = W at HL1 HF1 ⊢
          have HL : Hid (LRow W g f) := HL1
          have HF : Hid (Fr (· ≠ g) w W) := HF1
          clear HL1 HF1
          have bc0 := HL.out.cell (i := first + r) (by omega)
          have bd0 := HL.out.drew.cell (i := first + r) (by omega)
          have bz0 := HL.out.free (first + r)
          have by0 := HL.out.drew.free (first + r)
          rw [Hx.out] at bc0 bd0
          have bc1 := HL.out.cell (i := first + (2 * r + 1)) (by omega)
          have bd1 := HL.out.drew.cell (i := first + (2 * r + 1)) (by omega)
          have bz1 := HL.out.free (first + (2 * r + 1))
          have by1 := HL.out.drew.free (first + (2 * r + 1))
          rw [Hy.out] at bc1 bd1
          have HL2 : Hid (LRow (swL W g (first + r) (first + (2 * r + 1)) x y) g (swp f (first + r) (first + (2 * r + 1)))) := by rw [← Hx.out, ← Hy.out]; exact HL.out.swap _ _
          have HF2 : Hid (Fr (· ≠ g) w (swL W g (first + r) (first + (2 * r + 1)) x y)) := HF.out.swapL _ _ _ _
          clear HL HF
          go_big_region_o
          go_wp2_with fail
          go_roundg k
          case measure => omega
          case rel => exact ⟨2 * r + 1, _, by simp <;> omega, by omega, by omega, by rw [size_swp]; exact hf, HL2, HF2, HQ⟩
    · have j1 : decide (2 * (r : Int) + 1 + 1 < (hi : Int)) = false := decide_eq_false (by omega)
      simp only [h2, decide_false, Bool.false_and, if_false, Bool.false_eq_true] at hu
      rw [hx, hy] at hu
      clear hx hy
      go_wp2_with fail
      go_quiet (fail)
      go_wp2_with fail
      have HL1 : LRow (wr.drewN nq) g f := HL.out.drewN _
      have HF1 : Fr (· ≠ g) w (wr.drewN nq) := HF.out.drewN _
      clear HL HF
      generalize wr.drewN nq = wA at HL1 HF1 ⊢
      have HL : Hid (LRow wA g f) := HL1
      have HF : Hid (Fr (· ≠ g) w wA) := HF1
      clear HL1 HF1
      have ac0 := HL.out.cell (i := first + r) (by omega)
      have ad0 := HL.out.drew.cell (i := first + r) (by omega)
      have az0 := HL.out.free (first + r)
      have ay0 := HL.out.drew.free (first + r)
      rw [Hx.out] at ac0 ad0
      have ac1 := HL.out.cell (i := first + (2 * r + 1)) (by omega)
      have ad1 := HL.out.drew.cell (i := first + (2 * r + 1)) (by omega)
      have az1 := HL.out.free (first + (2 * r + 1))
      have ay1 := HL.out.drew.free (first + (2 * r + 1))
      rw [Hy.out] at ac1 ad1
      cases hlt : ltN x y with
      | false =>
        rw [hlt] at hu
        have hq : f = R := by simpa using hu
        subst hq
        have HD : Hid (∀ w, Calls Tryd.prog 77 #[.int .i32 (x : Int), .int .i32 (y : Int)] w fun e w' => e = .returned (.bool false) ∧ w' = w) := fun w => by rw [← hlt]; exact less_any w x y
        clear hu hlt
        go_wp2_with fail
        go_quiet ((go_at_call 77; exact Calls.quiet_of_same (HD.out _)))
        go_wp2_with fail
        go_end0
        exact ⟨rfl, HL.out.drewN _, HF.out.drewN _⟩
      | true =>
        rw [hlt] at hu
        have hq : siftDown ltN hi first (2 * r + 1) (swp f (first + r) (first + (2 * r + 1))) = R := by simpa using hu
        have HQ : Hid (siftDown ltN hi first (2 * r + 1) (swp f (first + r) (first + (2 * r + 1))) = R) := hq
        have HD : Hid (∀ w, Calls Tryd.prog 77 #[.int .i32 (x : Int), .int .i32 (y : Int)] w fun e w' => e = .returned (.bool true) ∧ w' = w) := fun w => by rw [← hlt]; exact less_any w x y
        clear hu hq hlt
        go_wp2_with fail
        go_quiet ((go_at_call 77; exact Calls.quiet_of_same (HD.out _)))
        go_wp2_with fail
        have HL1 : LRow (wA.drewN nq) g f := HL.out.drewN _
        have HF1 : Fr (· ≠ g) w (wA.drewN nq) := HF.out.drewN _
        clear ac0 ad0 az0 ay0 ac1 ad1 az1 ay1 HL HF
        generalize wA.drewN nq = W at HL1 HF1 ⊢
        have HL : Hid (LRow W g f) := HL1
        have HF : Hid (Fr (· ≠ g) w W) := HF1
        clear HL1 HF1
        have bc0 := HL.out.cell (i := first + r) (by omega)
        have bd0 := HL.out.drew.cell (i := first + r) (by omega)
        have bz0 := HL.out.free (first + r)
        have by0 := HL.out.drew.free (first + r)
        rw [Hx.out] at bc0 bd0
        have bc1 := HL.out.cell (i := first + (2 * r + 1)) (by omega)
        have bd1 := HL.out.drew.cell (i := first + (2 * r + 1)) (by omega)
        have bz1 := HL.out.free (first + (2 * r + 1))
        have by1 := HL.out.drew.free (first + (2 * r + 1))
        rw [Hy.out] at bc1 bd1
        have HL2 : Hid (LRow (swL W g (first + r) (first + (2 * r + 1)) x y) g (swp f (first + r) (first + (2 * r + 1)))) := by rw [← Hx.out, ← Hy.out]; exact HL.out.swap _ _
        have HF2 : Hid (Fr (· ≠ g) w (swL W g (first + r) (first + (2 * r + 1)) x y)) := HF.out.swapL _ _ _ _
        clear HL HF
        go_big_region_o
        go_wp2_with fail
        go_roundg k
        case measure => omega
        case rel => exact ⟨2 * r + 1, _, by simp <;> omega, by omega, by omega, by rw [size_swp]; exact hf, HL2, HF2, HQ⟩

end Go.Proofs.YtbicefgjompnoaaDoor.Sx
/- slices.Sort of literals: by heaps. -/
namespace Go.Proofs.YtbicefgjompnoaaDoor.Sx
open Go.RowKit Go.Sort

theorem size_sift (hi first : Nat) : ∀ (n r : Nat) (d : Array Nat), hi - r ≤ n → (siftDown ltN hi first r d).size = d.size := by
  intro n
  induction n with
  | zero =>
    intro r d h
    unfold siftDown
    rw [dif_pos (by omega)]
  | succ n ih =>
    intro r d h
    unfold siftDown
    split
    · rfl
    · split
      · split
        · rfl
        · split
          · rw [ih _ _ (by omega), size_swp]
          · rfl
      · split
        · rfl
        · rw [ih _ _ (by omega), size_swp]

set_option maxRecDepth 100000 in
set_option maxHeartbeats 4000000 in
theorem heapSort_any (w : World) (g len cap a n : Nat) (d : Array Nat) (h : LRow w g d) (hl : len ≤ 4294967296) (hd : len ≤ d.size) (hb : a + n ≤ len) (hn : 0 < n) :
    Calls Tryd.prog 72 #[.slice (some ⟨g, 0, none⟩) len cap, .int .i64 a, .int .i64 ((a + n : Nat) : Int)] w (RowPost w g (heapSort ltN d a (a + n))) := by
  have H0 : Hid (LRow w g d) := h
  clear h
  have mo := follows
  obtain ⟨R, hR⟩ : ∃ R, heapSort ltN d a (a + n) = R := ⟨_, rfl⟩
  rw [hR]
  unfold heapSort at hR
  rw [Nat.add_sub_cancel_left] at hR
  obtain ⟨D, hD⟩ : ∃ D, heapBuild ltN n a ((n - 1) / 2 + 1) d = D := ⟨_, rfl⟩
  rw [hD] at hR
  have HR0 : Hid (heapPop ltN a n D = R) := hR
  have HD0 : Hid (heapBuild ltN n a ((n - 1) / 2 + 1) d = D) := hD
  clear hR hD
  have hi0 : (a : Int) + (n : Int) - (a : Int) = (n : Int) := by omega
  go_enter Tryd.func72, Tryd.ntmps72
  go_wp2_with fail
  go_loopg [9] (n + 1) (fun k s9 wr => ∃ (m : Nat) (f : Array Nat), s9 = .int .i64 ((m : Int) - 1) ∧ m ≤ k ∧ m ≤ n ∧ f.size = d.size ∧ Hid (LRow wr g f) ∧ Hid (Fr (· ≠ g) w wr) ∧ Hid (heapBuild ltN n a m f = D))
  case atStart => exact ⟨(n - 1) / 2 + 1, d, by simp <;> omega, by omega, by omega, rfl, H0, Fr.refl _ _, HD0⟩
  case round =>
    clear HD0 H0
    obtain ⟨m, f, rfl, hmk, hmn, hf, HL, HF, HU⟩ := hrel
    cases m with
    | succ m =>
      obtain ⟨k, rfl⟩ : ∃ k, gk = k + 1 := ⟨gk - 1, by omega⟩
      have i1 : (0 : Int) ≤ (m : Int) := by omega
      have e1 : ((m + 1 : Nat) : Int) - 1 = (m : Int) := by omega
      have HC : Hid (Calls _ _ _ _ _) := siftDown_any wr g len cap m n a f HL.out hl (by omega) (by omega) (by omega)
      have HQ : Hid (heapBuild ltN n a m (siftDown ltN n a m f) = D) := HU.out
      have hs : (siftDown ltN n a m f).size = d.size := by rw [size_sift _ _ _ _ _ (Nat.le_refl _)]; exact hf
      clear HU
      rw [e1]
      go_wp2_with (go_at_call 80; refine HC.out.mono ?_; rintro e w' ⟨rfl, HL2, HF2⟩)
      have HL3 : Hid (LRow w' g (siftDown ltN n a m f)) := HL2
      have HF3 : Hid (Fr (· ≠ g) w w') := HF.out.trans HF2
      clear HL2 HF2 HL HF HC
      go_wp2_with fail
      go_roundg k
      case measure => omega
      case rel => exact ⟨m, _, by simp, by omega, by omega, hs, HL3, HF3, HQ⟩
    | zero =>
      have HQ := HU.out
      unfold heapBuild at HQ
      subst HQ
      clear HU
      have i1 : ¬ (0 : Int) ≤ (((0 : Nat) : Int) - 1) := by omega
      go_wp2_with fail
      go_loopg [10] (n) (fun k s10 wr => ∃ (m : Nat) (f : Array Nat), s10 = .int .i64 ((m : Int) - 1) ∧ m ≤ k ∧ m ≤ n ∧ f.size = d.size ∧ Hid (LRow wr g f) ∧ Hid (Fr (· ≠ g) w wr) ∧ Hid (heapPop ltN a m f = R))
      case atStart => exact ⟨n, f, rfl, by omega, by omega, hf, HL, HF, HR0⟩
      case round =>
        clear HL HF hf HR0
        rename Array Nat => f0
        obtain ⟨m, f, rfl, hmk, hmn, hf, HL, HF, HU⟩ := hrel
        cases m with
        | succ m =>
          obtain ⟨k, rfl⟩ : ∃ k, gk = k + 1 := ⟨gk - 1, by omega⟩
          have i1 : (0 : Int) ≤ (m : Int) := by omega
          have e1 : ((m + 1 : Nat) : Int) - 1 = (m : Int) := by omega
          have i2 : (0 : Int) ≤ (a : Int) + (m : Int) := by omega
          have i3 : (a : Int) + (m : Int) < (len : Int) := by omega
          have i4 : ((a : Int) + (m : Int)).toNat = a + m := by omega
          have i5 : (a : Int) < (len : Int) := by omega
          have hq : heapPop ltN a m (siftDown ltN m a 0 (swp f a (a + m))) = R := HU.out
          have HQ : Hid (heapPop ltN a m (siftDown ltN m a 0 (swp f a (a + m))) = R) := hq
          have hs : (siftDown ltN m a 0 (swp f a (a + m))).size = d.size := by rw [size_sift _ _ _ _ _ (Nat.le_refl _), size_swp]; exact hf
          clear HU hq
          rw [e1]
          obtain ⟨x, hx⟩ : ∃ x, f[a]! = x := ⟨_, rfl⟩
          have Hx : Hid (f[a]! = x) := hx
          obtain ⟨y, hy⟩ : ∃ y, f[a + m]! = y := ⟨_, rfl⟩
          have Hy : Hid (f[a + m]! = y) := hy
          clear hx hy
          have cc0 := HL.out.cell (i := a) (by omega)
          have cd0 := HL.out.drew.cell (i := a) (by omega)
          have cz0 := HL.out.free (a)
          have cy0 := HL.out.drew.free (a)
          rw [Hx.out] at cc0 cd0
          have cc1 := HL.out.cell (i := a + m) (by omega)
          have cd1 := HL.out.drew.cell (i := a + m) (by omega)
          have cz1 := HL.out.free (a + m)
          have cy1 := HL.out.drew.free (a + m)
          rw [Hy.out] at cc1 cd1
          have HL2 : Hid (LRow (swL wr g a (a + m) x y) g (swp f a (a + m))) := by rw [← Hx.out, ← Hy.out]; exact HL.out.swap _ _
          have HF2 : Hid (Fr (· ≠ g) w (swL wr g a (a + m) x y)) := HF.out.swapL _ _ _ _
          have hy2 : (f.setIfInBounds a y)[a + m]! = y := by
            rw [getElem!_pos _ _ (by simp; omega), Array.getElem_setIfInBounds (by omega)]
            split
            · rfl
            · rw [← getElem!_pos f (a + m) (by omega)]; exact Hy.out
          have cs := (HL.out.set a y).cell (i := a + m) (by simp; omega)
          have ct := (HL.out.set a y).drew.cell (i := a + m) (by simp; omega)
          have cu := (HL.out.drew.set a y).cell (i := a + m) (by simp; omega)
          rw [hy2] at cs ct cu
          have zs := (HL.out.set a y).free (a + m)
          have zt := (HL.out.set a y).drew.free (a + m)
          clear hy2
          have HC : Hid (Calls _ _ _ _ _) := siftDown_any (swL wr g a (a + m) x y) g len cap 0 m a (swp f a (a + m)) HL2.out hl (by rw [size_swp]; omega) (by omega) (by omega)
          go_wp2_with fail
          go_big_region_o
          unfold swL at HL2 HF2 HC
          clear cc0 cd0 cz0 cy0 cc1 cd1 cz1 cy1 HL HF cs ct cu zs zt
          generalize ((wr.setCell ⟨g, a, none⟩ (.int .i32 (y : Int))).setCell ⟨g, a + m, none⟩ (.int .i32 (x : Int))).drew = W at HL2 HF2 HC ⊢
          go_wp2_with (go_at_call 80; refine HC.out.mono ?_; rintro e w' ⟨rfl, HL4, HF4⟩)
          have HL3 : Hid (LRow w' g (siftDown ltN m a 0 (swp f a (a + m)))) := HL4
          have HF3 : Hid (Fr (· ≠ g) w w') := HF2.out.trans HF4
          clear HL4 HF4 HL2 HF2 HC
          go_wp2_with fail
          go_roundg k
          case measure => omega
          case rel => exact ⟨m, _, by simp, by omega, by omega, hs, HL3, HF3, HQ⟩
        | zero =>
          have HQ := HU.out
          unfold heapPop at HQ
          subst HQ
          clear HU
          go_wp2_with fail
          go_end0
          exact ⟨rfl, HL.out, HF.out⟩

end Go.Proofs.YtbicefgjompnoaaDoor.Sx
/- slices.Sort of literals: turned round; pivots. -/
namespace Go.Proofs.YtbicefgjompnoaaDoor.Sx
open Go.RowKit Go.Sort

set_option maxRecDepth 100000 in
set_option maxHeartbeats 4000000 in
theorem revRange_any (w : World) (g len cap a b : Nat) (d : Array Nat) (h : LRow w g d) (hl : len ≤ 4294967296) (hd : len ≤ d.size) (hb : b ≤ len) (hab : a < b) :
    Calls Tryd.prog 75 #[.slice (some ⟨g, 0, none⟩) len cap, .int .i64 a, .int .i64 b] w (RowPost w g (reverseRange d a b)) := by
  have H0 : Hid (LRow w g d) := h
  clear h
  have mo := follows
  obtain ⟨R, hR⟩ : ∃ R, reverseRange d a b = R := ⟨_, rfl⟩
  rw [hR]
  have HR0 : Hid (reverseLoop a (b - 1) d = R) := hR
  clear hR
  go_enter Tryd.func75, Tryd.ntmps75
  go_wp2_with fail
  go_loopg [6, 7] (b) (fun k s6 s7 wr => ∃ (i j : Nat) (f : Array Nat), s6 = .int .i64 (i : Int) ∧ s7 = .int .i64 (j : Int) ∧ j ≤ i + k ∧ i ≤ len ∧ j < len ∧ f.size = d.size ∧ Hid (LRow wr g f) ∧ Hid (Fr (· ≠ g) w wr) ∧ Hid (reverseLoop i j f = R))
  case atStart => exact ⟨a, b - 1, d, rfl, by simp <;> omega, by omega, by omega, by omega, rfl, H0, Fr.refl _ _, HR0⟩
  case round =>
    clear HR0 H0
    obtain ⟨i, j, f, rfl, rfl, hk, hil, hjl, hf, HL, HF, HU⟩ := hrel
    have hu := HU.out
    unfold reverseLoop at hu
    clear HU
    by_cases hij : i < j
    · rw [if_pos hij] at hu
      have HQ : Hid (reverseLoop (i + 1) (j - 1) (swp f i j) = R) := hu
      clear hu
      obtain ⟨k, rfl⟩ : ∃ k, gk = k + 1 := ⟨gk - 1, by omega⟩
      have i1 : (i : Int) < (j : Int) := by omega
      have i2 : (j : Int) < (len : Int) := by omega
      have i3 : (i : Int) < (len : Int) := by omega
      obtain ⟨x, hx⟩ : ∃ x, f[i]! = x := ⟨_, rfl⟩
      have Hx : Hid (f[i]! = x) := hx
      obtain ⟨y, hy⟩ : ∃ y, f[j]! = y := ⟨_, rfl⟩
      have Hy : Hid (f[j]! = y) := hy
      clear hx hy
      have cc0 := HL.out.cell (i := i) (by omega)
      have cd0 := HL.out.drew.cell (i := i) (by omega)
      have cz0 := HL.out.free (i)
      have cy0 := HL.out.drew.free (i)
      rw [Hx.out] at cc0 cd0
      have cc1 := HL.out.cell (i := j) (by omega)
      have cd1 := HL.out.drew.cell (i := j) (by omega)
      have cz1 := HL.out.free (j)
      have cy1 := HL.out.drew.free (j)
      rw [Hy.out] at cc1 cd1
      have HL2 : Hid (LRow (swL wr g i j x y) g (swp f i j)) := by rw [← Hx.out, ← Hy.out]; exact HL.out.swap _ _
      have HF2 : Hid (Fr (· ≠ g) w (swL wr g i j x y)) := HF.out.swapL _ _ _ _
      have hne : i ≠ j := by omega
      clear HL HF
      go_wp2_with fail
      go_big_region_o
      go_wp2_with fail
      go_roundg k
      case measure => omega
      case rel => exact ⟨i + 1, j - 1, _, by simp <;> omega, by simp <;> omega, by omega, by omega, by omega, by rw [size_swp]; exact hf, HL2, HF2, HQ⟩
    · rw [if_neg hij] at hu
      subst hu
      have i1 : ¬ (i : Int) < (j : Int) := by omega
      go_wp2_with fail
      go_end0
      exact ⟨rfl, HL.out, HF.out⟩

/-- the counter of exchanges, in a block of its own -/
def Swaps (w : World) (q n : Nat) : Prop := w.heap[q]? = some (.cells #[.int .i64 (n : Int)] 3 (0, 0))
theorem Swaps.set {w : World} {q n : Nat} (h : Swaps w q n) (m : Nat) : Swaps (w.setCell ⟨q, 0, none⟩ (.int .i64 (m : Int))) q m := by
  have := set_block h 0 (.int .i64 (m : Int))
  unfold Swaps
  rw [this]
  rfl
theorem Swaps.cell {w : World} {q n : Nat} (h : Swaps w q n) : w.cell? ⟨q, 0, none⟩ = some (.int .i64 (n : Int)) := by rw [block_cell h]; rfl
/-- a call that counts exchanges alone -/
def SwPost (w : World) (q : Nat) (v : Value) (n : Nat) (e : Ending) (w' : World) : Prop := e = .returned v ∧ Swaps w' q n ∧ Fr (· ≠ q) w w'

set_option maxRecDepth 100000 in
set_option maxHeartbeats 4000000 in
theorem order2_any (w : World) (g len cap a b q n : Nat) (d : Array Nat) (h : LRow w g d) (hq : Swaps w q n) (hd : len ≤ d.size) (hb : b < len) (ha : a < len) (hn : n ≤ 1000) :
    Calls Tryd.prog 84 #[.slice (some ⟨g, 0, none⟩) len cap, .int .i64 a, .int .i64 b, .pointer (some ⟨q, 0, none⟩)] w (SwPost w q (.tuple #[.int .i64 ((order2 ltN d a b n).1 : Int), .int .i64 ((order2 ltN d a b n).2.1 : Int)]) (order2 ltN d a b n).2.2) := by
  have mo := follows
  have HL : Hid (LRow w g d) := h
  have HS : Hid (Swaps w q n) := hq
  have q0 := hq.cell
  have q1 := frozen_block hq 0
  have i2 : (b : Int) < (len : Int) := by omega
  have i3 : (a : Int) < (len : Int) := by omega
  obtain ⟨x, hx⟩ : ∃ x, d[b]! = x := ⟨_, rfl⟩
  have Hx : Hid (d[b]! = x) := hx
  obtain ⟨y, hy⟩ : ∃ y, d[a]! = y := ⟨_, rfl⟩
  have Hy : Hid (d[a]! = y) := hy
  unfold order2
  rw [hx, hy]
  clear hx hy h hq
  have cc0 := HL.out.cell (i := b) (by omega)
  have cd0 := HL.out.drew.cell (i := b) (by omega)
  have cz0 := HL.out.free (b)
  have cy0 := HL.out.drew.free (b)
  rw [Hx.out] at cc0 cd0
  have cc1 := HL.out.cell (i := a) (by omega)
  have cd1 := HL.out.drew.cell (i := a) (by omega)
  have cz1 := HL.out.free (a)
  have cy1 := HL.out.drew.free (a)
  rw [Hy.out] at cc1 cd1
  cases hlt : ltN x y with
  | true =>
    have HC : Hid (∀ w, Calls Tryd.prog 77 #[.int .i32 (x : Int), .int .i32 (y : Int)] w fun e w' => e = .returned (.bool true) ∧ w' = w) := fun w => by rw [← hlt]; exact less_any w x y
    clear hlt
    go_enter Tryd.func84, Tryd.ntmps84
    go_wp2_with fail
    go_quiet ((go_at_call 77; exact Calls.quiet_of_same (HC.out _)))
    go_wp2_with fail
    exact bodyPost_ret (v := .tuple #[.int .i64 (b : Int), .int .i64 (a : Int)]) (by simp [results, Tryd.results84, go_sem]) rfl ⟨rfl, by first | exact (HS.out : Swaps _ q n).set (n + 1) | exact HS.out.set (n + 1), by first | exact ((Fr.refl _ w).drewN _).set (by simp) _ | exact (Fr.refl _ w).set (by simp) _⟩
  | false =>
    have HC : Hid (∀ w, Calls Tryd.prog 77 #[.int .i32 (x : Int), .int .i32 (y : Int)] w fun e w' => e = .returned (.bool false) ∧ w' = w) := fun w => by rw [← hlt]; exact less_any w x y
    clear hlt
    go_enter Tryd.func84, Tryd.ntmps84
    go_wp2_with fail
    go_quiet ((go_at_call 77; exact Calls.quiet_of_same (HC.out _)))
    go_wp2_with fail
    exact bodyPost_ret (v := .tuple #[.int .i64 (a : Int), .int .i64 (b : Int)]) (by simp [results, Tryd.results84, go_sem]) rfl ⟨rfl, HS.out, (Fr.refl _ w).drewN _⟩

end Go.Proofs.YtbicefgjompnoaaDoor.Sx
