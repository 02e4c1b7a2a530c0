/- slices.Sort of literals: by insertion, in part. -/
import Derived.Test.YtbicefgjompnoaaDoorF09
namespace Go.Proofs.YtbicefgjompnoaaDoor.Sx
open Go.RowKit Go.Sort

theorem scanSorted_le {d : Array Nat} {b : Nat} : ∀ (n i : Nat), b - i ≤ n → i ≤ b → i ≤ scanSorted ltN d b i ∧ scanSorted ltN d b i ≤ b := by
  intro n
  induction n with
  | zero =>
    intro i h hb
    unfold scanSorted
    rw [if_neg (by simp; intro; omega)]
    omega
  | succ n ih =>
    intro i h hb
    unfold scanSorted
    split
    · rename_i hc
      simp at hc
      have := ih (i + 1) (by omega) (by omega)
      omega
    · omega
theorem size_shiftDown : ∀ (j : Nat) (d : Array Nat), (shiftDown ltN j d).size = d.size := by
  intro j
  induction j with
  | zero => intro d; rfl
  | succ j ih =>
    intro d
    unfold shiftDown
    split
    · rfl
    · rw [ih, size_swp]
theorem size_shiftUp (b : Nat) : ∀ (n j : Nat) (d : Array Nat), b - j ≤ n → (shiftUp ltN b j d).size = d.size := by
  intro n
  induction n with
  | zero => intro j d h; unfold shiftUp; rw [if_neg (by omega)]
  | succ n ih =>
    intro j d h
    unfold shiftUp
    split
    · split
      · rfl
      · rw [ih _ _ (by omega), size_swp]
    · rfl

set_option maxRecDepth 100000 in
set_option maxHeartbeats 8000000 in
theorem partialIns_any (w : World) (g len cap a b : Nat) (d : Array Nat) (h : LRow w g d) (hl : len ≤ 4294967296) (hd : len ≤ d.size) (hb : b ≤ len) (hab : a < b) :
    Calls Tryd.prog 76 #[.slice (some ⟨g, 0, none⟩) len cap, .int .i64 a, .int .i64 b] w fun e w' => e = .returned (.bool (partialInsertionSort ltN d a b).2) ∧ LRow w' g (partialInsertionSort ltN d a b).1 ∧ Fr (· ≠ g) w w' := by
  have mo := follows
  obtain ⟨R, hR⟩ : ∃ R, partialInsertionSort ltN d a b = R := ⟨_, rfl⟩
  rw [hR]
  have HR0 : Hid (partialIns ltN a b 5 (a + 1) d = R) := hR
  have HL0 : Hid (LRow w g d) := h
  clear h hR
  go_enter Tryd.func76, Tryd.ntmps76
  go_wp2_with fail
  go_loopg [7, 8] (5) (fun k s7 s8 wr => ∃ (i j : Nat) (e : Array Nat), s7 = .int .i64 (i : Int) ∧ s8 = .int .i64 (j : Int) ∧ j + k = 5 ∧ a < i ∧ i ≤ b ∧ e.size = d.size ∧ Hid (LRow wr g e) ∧ Hid (Fr (· ≠ g) w wr) ∧ Hid (partialIns ltN a b k i e = R))
  case atStart => exact ⟨a + 1, 0, d, by simp <;> omega, rfl, by omega, by omega, by omega, rfl, HL0, Fr.refl _ _, HR0⟩
  case round =>
    clear HL0 HR0
    obtain ⟨i0, jc, e, rfl, rfl, hjk, hai, hib, he, HL, HF, HR⟩ := hrel
    cases gk with
    | zero =>
      obtain rfl : jc = 5 := by omega
      have hr := HR.out
      unfold partialIns at hr
      subst hr
      go_wp2_with fail
      go_ret
      exact ⟨rfl, HL.out, HF.out⟩
    | succ k =>
      have hj5 : (jc : Int) < 5 := by omega
      have hr := HR.out
      unfold partialIns at hr
      try simp only at hr
      obtain ⟨I, hI⟩ : ∃ I, scanSorted ltN e b i0 = I := ⟨_, rfl⟩
      have bI := scanSorted_le (d := e) (b := b) _ i0 (Nat.le_refl _) hib
      rw [hI] at hr bI
      have HU : Hid (scanSorted ltN e b i0 = I) := hI
      have HR : Hid _ := hr
      clear hr hI
      go_upto_block 2 with fail
      go_cut [7] (fun s wc => s = .int .i64 (I : Int) ∧ Hid (LRow wc g e) ∧ Hid (Fr (· ≠ g) w wc))
      case first =>
        go_wp2_with fail
        go_loopg [7] (b) (fun k s wr => ∃ (i : Nat), s = .int .i64 (i : Int) ∧ a < i ∧ i ≤ b ∧ b ≤ i + k ∧ Hid (LRow wr g e) ∧ Hid (Fr (· ≠ g) w wr) ∧ Hid (scanSorted ltN e b i = I))
        case atStart => exact ⟨i0, rfl, by omega, by omega, by omega, HL, HF, HU⟩
        case round =>
          clear HL HF HU
          obtain ⟨i, rfl, hi1, hi2, hik, HL, HF, HU⟩ := hrel
          have hu := HU.out
          unfold scanSorted at hu
          clear HU
          by_cases hlb : i < b
          · obtain ⟨k, rfl⟩ : ∃ k, gk = k + 1 := ⟨gk - 1, by omega⟩
            obtain ⟨m, rfl⟩ : ∃ m, i = m + 1 := ⟨i - 1, by omega⟩
            have i1 : (m : Int) + 1 < (b : Int) := by omega
            have i2 : (m : Int) + 1 < (len : Int) := by omega
            have i3 : (m : Int) < (len : Int) := by omega
            have i4 : (0 : Int) ≤ (m : Int) + 1 := by omega
            rw [Nat.add_sub_cancel] at hu
            obtain ⟨x, hx⟩ : ∃ x, e[m + 1]! = x := ⟨_, rfl⟩
            have Hx : Hid (e[m + 1]! = x) := hx
            obtain ⟨y, hy⟩ : ∃ y, e[m]! = y := ⟨_, rfl⟩
            have Hy : Hid (e[m]! = y) := hy
            have c0 := HL.out.cell (i := m + 1) (by omega)
            have c1 := HL.out.cell (i := m) (by omega)
            rw [hx] at c0
            rw [hy] at c1
            rw [hx, hy] at hu
            clear hx hy Hx Hy
            cases hlt : ltN x y with
            | false =>
              simp only [hlb, hlt, decide_true, Bool.and_self, Bool.not_false, if_true] at hu
              have HU : Hid (scanSorted ltN e b (m + 1 + 1) = I) := hu
              have HC : Hid (∀ w, Calls Tryd.prog 77 #[.int .i32 (x : Int), .int .i32 (y : Int)] w fun e w' => e = .returned (.bool false) ∧ w' = w) := fun w => by rw [← hlt]; exact less_any w x y
              clear hu hlt
              go_wp2_with fail
              go_quiet ((go_at_call 77; exact Calls.quiet_of_same (HC.out _)))
              go_wp2_with fail
              go_roundg k
              case measure => omega
              case rel => exact ⟨m + 1 + 1, by simp <;> omega, by omega, by omega, by omega, HL.out.drewN _, HF.out.drewN _, HU⟩
            | true =>
              simp only [hlt, Bool.and_false, Bool.not_true, Bool.false_eq_true, if_false] at hu
              subst hu
              have HC : Hid (∀ w, Calls Tryd.prog 77 #[.int .i32 (x : Int), .int .i32 (y : Int)] w fun e w' => e = .returned (.bool true) ∧ w' = w) := fun w => by rw [← hlt]; exact less_any w x y
              clear hlt
              go_wp2_with fail
              go_quiet ((go_at_call 77; exact Calls.quiet_of_same (HC.out _)))
              go_wp2_with fail
              go_meet
              case rel => exact ⟨by simp, HL.out.drewN _, HF.out.drewN _⟩
          · have i1 : decide ((i : Int) < (b : Int)) = false := decide_eq_false (by omega)
            simp only [hlb, decide_false, Bool.false_and, Bool.false_eq_true, if_false] at hu
            subst hu
            go_wp2_with fail
            go_quiet (fail)
            go_wp2_with fail
            go_meet
            case rel => exact ⟨rfl, HL.out.drewN _, HF.out.drewN _⟩
      case rest =>
        clear HL HF HU
        obtain ⟨rfl, HL, HF⟩ := hcut
        have hr := HR.out
        clear HR
        by_cases q1 : I = b
        · subst q1
          rw [if_pos rfl] at hr
          subst hr
          have e1 : ((I : Int) == (I : Int)) = true := by simp
          go_wp2_with fail
          go_ret
          exact ⟨rfl, HL.out, HF.out⟩
        rw [if_neg q1] at hr
        have e1 : ((I : Int) == (b : Int)) = false := by rw [beq_eq_false_iff_ne]; omega
        by_cases q2 : b - a < 50
        · rw [if_pos q2] at hr
          subst hr
          have i1 : (b : Int) - (a : Int) < 50 := by omega
          go_wp2_with fail
          go_ret
          exact ⟨rfl, HL.out, HF.out⟩
        rw [if_neg q2] at hr
        have i1 : ¬ (b : Int) - (a : Int) < 50 := by omega
        obtain ⟨m, rfl⟩ : ∃ m, I = m + 1 := ⟨I - 1, by omega⟩
        rw [Nat.add_sub_cancel] at hr
        have i2 : (m : Int) + 1 < (len : Int) := by omega
        have i3 : (m : Int) < (len : Int) := by omega
        have i4 : (0 : Int) ≤ (m : Int) + 1 := by omega
        obtain ⟨x1, hx1⟩ : ∃ x1, e[m + 1]! = x1 := ⟨_, rfl⟩
        have Hx1 : Hid (e[m + 1]! = x1) := hx1
        obtain ⟨y1, hy1⟩ : ∃ y1, e[m]! = y1 := ⟨_, rfl⟩
        have Hy1 : Hid (e[m]! = y1) := hy1
        have cc0 := HL.out.cell (i := m + 1) (by omega)
        have cd0 := HL.out.drew.cell (i := m + 1) (by omega)
        have cz0 := HL.out.free (m + 1)
        have cy0 := HL.out.drew.free (m + 1)
        rw [Hx1.out] at cc0 cd0
        have cc1 := HL.out.cell (i := m) (by omega)
        have cd1 := HL.out.drew.cell (i := m) (by omega)
        have cz1 := HL.out.free (m)
        have cy1 := HL.out.drew.free (m)
        rw [Hy1.out] at cc1 cd1
        obtain ⟨k1, k2, k3, k4⟩ := HL.out.again (i := m + 1) (j := m) (by omega) hy1
        clear hx1 hy1
        have HL1 : Hid (LRow (swL wc g (m + 1) (m) x1 y1) g (swp e (m + 1) (m))) := by rw [← Hx1.out, ← Hy1.out]; exact HL.out.swap _ _
        have HF1 : Hid (Fr (· ≠ g) w (swL wc g (m + 1) (m) x1 y1)) := HF.out.swapL _ _ _ _
        clear HL HF
        go_wp2_with fail
        go_big_region_o
        unfold swL at HL1 HF1
        clear cc0 cd0 cz0 cy0 cc1 cd1 cz1 cy1 k1 k2 k3 k4
        generalize ((wc.setCell ⟨g, m + 1, none⟩ (.int .i32 (y1 : Int))).setCell ⟨g, m, none⟩ (.int .i32 (x1 : Int))).drew = W1 at HL1 HF1 ⊢
        have hs1 : (swp e (m + 1) m).size = d.size := by rw [size_swp]; exact he
        generalize swp e (m + 1) m = f1 at hr HL1 hs1
        have HL := HL1
        have HF := HF1
        clear HL1 HF1 Hx1 Hy1 he
        by_cases q3 : m + 1 - a ≥ 2
        · rw [if_pos q3] at hr
          have j9 : (2 : Int) ≤ (m : Int) + 1 - (a : Int) := by omega
          obtain ⟨f2, h2⟩ : ∃ f2, shiftDown ltN m f1 = f2 := ⟨_, rfl⟩
          have hs2 : f2.size = d.size := by rw [← h2, size_shiftDown]; exact hs1
          rw [h2] at hr
          have HD : Hid (shiftDown ltN m f1 = f2) := h2
          clear h2
          go_upto_block 4 with fail
          go_cut [] (fun wc => Hid (LRow wc g f2) ∧ Hid (Fr (· ≠ g) w wc))
          case first =>
            go_wp2_with fail
            go_loopg [9] (m + 1) (fun k s wr => ∃ (j : Nat) (e : Array Nat), s = .int .i64 (j : Int) ∧ j ≤ m ∧ j + 1 ≤ k ∧ e.size = d.size ∧ Hid (LRow wr g e) ∧ Hid (Fr (· ≠ g) w wr) ∧ Hid (shiftDown ltN j e = f2))
            case atStart => exact ⟨m, f1, by simp <;> omega, by omega, by omega, hs1, HL, HF, HD⟩
            case round =>
              clear HL HF HD
              obtain ⟨j, e, rfl, hj1, hjk, he, HL, HF, HD⟩ := hrel
              have hu := HD.out
              clear HD
              cases j with
              | zero =>
                unfold shiftDown at hu
                subst hu
                have i5 : ¬ (1 : Int) ≤ ((0 : Nat) : Int) := by omega
                go_wp2_with fail
                go_meet
                case rel => exact ⟨HL, HF⟩
              | succ q =>
                obtain ⟨k, rfl⟩ : ∃ k, gk = k + 1 := ⟨gk - 1, by omega⟩
                unfold shiftDown at hu
                have i5 : (1 : Int) ≤ (q : Int) + 1 := by omega
                have i6 : (q : Int) + 1 < (len : Int) := by omega
                have i7 : (q : Int) < (len : Int) := by omega
                have i8 : (0 : Int) ≤ (q : Int) + 1 := by omega
                obtain ⟨x, hx⟩ : ∃ x, e[q + 1]! = x := ⟨_, rfl⟩
                have Hx : Hid (e[q + 1]! = x) := hx
                obtain ⟨y, hy⟩ : ∃ y, e[q]! = y := ⟨_, rfl⟩
                have Hy : Hid (e[q]! = y) := hy
                rw [hx, hy] at hu
                clear hx hy
                have ac0 := HL.out.cell (i := q + 1) (by omega)
                have ad0 := HL.out.drew.cell (i := q + 1) (by omega)
                have az0 := HL.out.free (q + 1)
                have ay0 := HL.out.drew.free (q + 1)
                rw [Hx.out] at ac0 ad0
                have ac1 := HL.out.cell (i := q) (by omega)
                have ad1 := HL.out.drew.cell (i := q) (by omega)
                have az1 := HL.out.free (q)
                have ay1 := HL.out.drew.free (q)
                rw [Hy.out] at ac1 ad1
                cases hlt : ltN x y with
                | false =>
                  rw [hlt] at hu
                  have hq : e = f2 := by simpa using hu
                  subst hq
                  have HC : Hid (∀ w, Calls Tryd.prog 77 #[.int .i32 (x : Int), .int .i32 (y : Int)] w fun e w' => e = .returned (.bool false) ∧ w' = w) := fun w => by rw [← hlt]; exact less_any w x y
                  clear hlt hu
                  go_wp2_with fail
                  go_quiet ((go_at_call 77; exact Calls.quiet_of_same (HC.out _)))
                  go_wp2_with fail
                  go_meet
                  case rel => exact ⟨HL.out.drewN _, HF.out.drewN _⟩
                | true =>
                  rw [hlt] at hu
                  have hq : shiftDown ltN q (swp e (q + 1) q) = f2 := by simpa using hu
                  have HD : Hid (shiftDown ltN q (swp e (q + 1) q) = f2) := hq
                  have HC : Hid (∀ w, Calls Tryd.prog 77 #[.int .i32 (x : Int), .int .i32 (y : Int)] w fun e w' => e = .returned (.bool true) ∧ w' = w) := fun w => by rw [← hlt]; exact less_any w x y
                  clear hu hq hlt
                  go_wp2_with fail
                  go_quiet ((go_at_call 77; exact Calls.quiet_of_same (HC.out _)))
                  go_wp2_with fail
                  have HL1 : LRow (wr.drewN nq) g e := HL.out.drewN _
                  have HF1 : Fr (· ≠ g) w (wr.drewN nq) := HF.out.drewN _
                  clear ac0 ad0 az0 ay0 ac1 ad1 az1 ay1 HL HF
                  generalize wr.drewN nq = W at HL1 HF1 ⊢
                  have HL : Hid (LRow W g e) := HL1
                  have HF : Hid (Fr (· ≠ g) w W) := HF1
                  clear HL1 HF1
                  have bc0 := HL.out.cell (i := q + 1) (by omega)
                  have bd0 := HL.out.drew.cell (i := q + 1) (by omega)
                  have bz0 := HL.out.free (q + 1)
                  have by0 := HL.out.drew.free (q + 1)
                  rw [Hx.out] at bc0 bd0
                  have bc1 := HL.out.cell (i := q) (by omega)
                  have bd1 := HL.out.drew.cell (i := q) (by omega)
                  have bz1 := HL.out.free (q)
                  have by1 := HL.out.drew.free (q)
                  rw [Hy.out] at bc1 bd1
                  have HL2 : Hid (LRow (swL W g (q + 1) q x y) g (swp e (q + 1) q)) := by rw [← Hx.out, ← Hy.out]; exact HL.out.swap _ _
                  have HF2 : Hid (Fr (· ≠ g) w (swL W g (q + 1) q x y)) := HF.out.swapL _ _ _ _
                  clear HL HF
                  go_big_region_o
                  go_wp2_with fail
                  go_roundg k
                  case measure => omega
                  case rel => exact ⟨q, _, by simp <;> omega, by omega, by omega, by rw [size_swp]; exact he, HL2, HF2, HD⟩
          case rest =>
            clear HL HF HD
            obtain ⟨HL, HF⟩ := hcut
            by_cases q4 : b - (m + 1) ≥ 2
            · rw [if_pos q4] at hr
              have i9 : (2 : Int) ≤ (b : Int) - ((m : Int) + 1) := by omega
              obtain ⟨f3, h3⟩ : ∃ f3, shiftUp ltN b (m + 1 + 1) f2 = f3 := ⟨_, rfl⟩
              rw [h3] at hr
              have HD : Hid (shiftUp ltN b (m + 1 + 1) f2 = f3) := h3
              have HR : Hid (partialIns ltN a b k (m + 1) f3 = R) := hr
              clear hr h3
              go_wp2_with fail
              ·
                go_loopg [10] (b) (fun k s wr => ∃ (j : Nat) (e : Array Nat), s = .int .i64 (j : Int) ∧ 0 < j ∧ j ≤ b ∧ b ≤ j + k ∧ e.size = d.size ∧ Hid (LRow wr g e) ∧ Hid (Fr (· ≠ g) w wr) ∧ Hid (shiftUp ltN b j e = f3))
                case atStart => exact ⟨m + 1 + 1, f2, by simp <;> omega, by omega, by omega, by omega, hs2, HL, HF, HD⟩
                case round =>
                  clear HL HF HD
                  obtain ⟨j, e, rfl, hj0, hj1, hjk, he, HL, HF, HD⟩ := hrel
                  have hu := HD.out
                  clear HD
                  unfold shiftUp at hu
                  by_cases hjb : j < b
                  case neg =>
                    rw [if_neg hjb] at hu
                    subst hu
                    have i5 : ¬ (j : Int) < (b : Int) := by omega
                    go_wp2_with fail
                    go_roundg k
                    case measure => omega
                    case rel => exact ⟨m + 1, jc + 1, e, by simp, by simp, by omega, by omega, by omega, he, HL, HF, HR⟩
                  case pos =>
                    obtain ⟨kk, rfl⟩ : ∃ kk, gk = kk + 1 := ⟨gk - 1, by omega⟩
                    obtain ⟨q, rfl⟩ : ∃ q, j = q + 1 := ⟨j - 1, by omega⟩
                    rw [if_pos hjb, Nat.add_sub_cancel] at hu
                    have i5 : (q : Int) + 1 < (b : Int) := by omega
                    have i6 : (q : Int) + 1 < (len : Int) := by omega
                    have i7 : (q : Int) < (len : Int) := by omega
                    have i8 : (0 : Int) ≤ (q : Int) + 1 := by omega
                    obtain ⟨x, hx⟩ : ∃ x, e[q + 1]! = x := ⟨_, rfl⟩
                    have Hx : Hid (e[q + 1]! = x) := hx
                    obtain ⟨y, hy⟩ : ∃ y, e[q]! = y := ⟨_, rfl⟩
                    have Hy : Hid (e[q]! = y) := hy
                    rw [hx, hy] at hu
                    clear hx hy
                    have ac0 := HL.out.cell (i := q + 1) (by omega)
                    have ad0 := HL.out.drew.cell (i := q + 1) (by omega)
                    have az0 := HL.out.free (q + 1)
                    have ay0 := HL.out.drew.free (q + 1)
                    rw [Hx.out] at ac0 ad0
                    have ac1 := HL.out.cell (i := q) (by omega)
                    have ad1 := HL.out.drew.cell (i := q) (by omega)
                    have az1 := HL.out.free (q)
                    have ay1 := HL.out.drew.free (q)
                    rw [Hy.out] at ac1 ad1
                    cases hlt : ltN x y with
                    | false =>
                      rw [hlt] at hu
                      have hq : e = f3 := by simpa using hu
                      subst hq
                      have HC : Hid (∀ w, Calls Tryd.prog 77 #[.int .i32 (x : Int), .int .i32 (y : Int)] w fun e w' => e = .returned (.bool false) ∧ w' = w) := fun w => by rw [← hlt]; exact less_any w x y
                      clear hlt hu
                      go_wp2_with fail
                      go_quiet ((go_at_call 77; exact Calls.quiet_of_same (HC.out _)))
                      go_wp2_with fail
                      go_roundg k
                      case measure => omega
                      case rel => exact ⟨m + 1, jc + 1, e, by simp, by simp, by omega, by omega, by omega, he, HL.out.drewN _, HF.out.drewN _, HR⟩
                    | true =>
                      rw [hlt] at hu
                      have hq : shiftUp ltN b (q + 1 + 1) (swp e (q + 1) q) = f3 := by simpa using hu
                      have HD : Hid (shiftUp ltN b (q + 1 + 1) (swp e (q + 1) q) = f3) := hq
                      have HC : Hid (∀ w, Calls Tryd.prog 77 #[.int .i32 (x : Int), .int .i32 (y : Int)] w fun e w' => e = .returned (.bool true) ∧ w' = w) := fun w => by rw [← hlt]; exact less_any w x y
                      clear hu hq hlt
                      go_wp2_with fail
                      go_quiet ((go_at_call 77; exact Calls.quiet_of_same (HC.out _)))
                      go_wp2_with fail
                      have HL1 : LRow (wr.drewN nq) g e := HL.out.drewN _
                      have HF1 : Fr (· ≠ g) w (wr.drewN nq) := HF.out.drewN _
                      clear ac0 ad0 az0 ay0 ac1 ad1 az1 ay1 HL HF
                      generalize wr.drewN nq = W at HL1 HF1 ⊢
                      have HL : Hid (LRow W g e) := HL1
                      have HF : Hid (Fr (· ≠ g) w W) := HF1
                      clear HL1 HF1
                      have bc0 := HL.out.cell (i := q + 1) (by omega)
                      have bd0 := HL.out.drew.cell (i := q + 1) (by omega)
                      have bz0 := HL.out.free (q + 1)
                      have by0 := HL.out.drew.free (q + 1)
                      rw [Hx.out] at bc0 bd0
                      have bc1 := HL.out.cell (i := q) (by omega)
                      have bd1 := HL.out.drew.cell (i := q) (by omega)
                      have bz1 := HL.out.free (q)
                      have by1 := HL.out.drew.free (q)
                      rw [Hy.out] at bc1 bd1
                      have HL2 : Hid (LRow (swL W g (q + 1) q x y) g (swp e (q + 1) q)) := by rw [← Hx.out, ← Hy.out]; exact HL.out.swap _ _
                      have HF2 : Hid (Fr (· ≠ g) w (swL W g (q + 1) q x y)) := HF.out.swapL _ _ _ _
                      clear HL HF
                      go_big_region_o
                      go_wp2_with fail
                      go_roundg kk
                      case measure => omega
                      case rel => exact ⟨q + 1 + 1, _, by simp <;> omega, by omega, by omega, by omega, by rw [size_swp]; exact he, HL2, HF2, HD⟩
            · rw [if_neg q4] at hr
              have i9 : ¬ (2 : Int) ≤ (b : Int) - ((m : Int) + 1) := by omega
              have HR : Hid (partialIns ltN a b k (m + 1) f2 = R) := hr
              clear hr
              go_wp2_with fail
              go_roundg k
              case measure => omega
              case rel => exact ⟨m + 1, jc + 1, f2, by simp, by simp, by omega, by omega, by omega, hs2, HL, HF, HR⟩
        · rw [if_neg q3] at hr
          have j9 : ¬ (2 : Int) ≤ (m : Int) + 1 - (a : Int) := by omega
          have hs2 := hs1
          obtain ⟨f2, hf2⟩ : ∃ f2, f2 = f1 := ⟨_, rfl⟩
          subst hf2
          by_cases q4 : b - (m + 1) ≥ 2
          · rw [if_pos q4] at hr
            have i9 : (2 : Int) ≤ (b : Int) - ((m : Int) + 1) := by omega
            obtain ⟨f3, h3⟩ : ∃ f3, shiftUp ltN b (m + 1 + 1) f2 = f3 := ⟨_, rfl⟩
            rw [h3] at hr
            have HD : Hid (shiftUp ltN b (m + 1 + 1) f2 = f3) := h3
            have HR : Hid (partialIns ltN a b k (m + 1) f3 = R) := hr
            clear hr h3
            go_wp2_with fail
            ·
              go_loopg [10] (b) (fun k s wr => ∃ (j : Nat) (e : Array Nat), s = .int .i64 (j : Int) ∧ 0 < j ∧ j ≤ b ∧ b ≤ j + k ∧ e.size = d.size ∧ Hid (LRow wr g e) ∧ Hid (Fr (· ≠ g) w wr) ∧ Hid (shiftUp ltN b j e = f3))
              case atStart => exact ⟨m + 1 + 1, f2, by simp <;> omega, by omega, by omega, by omega, hs2, HL, HF, HD⟩
              case round =>
                clear HL HF HD
                obtain ⟨j, e, rfl, hj0, hj1, hjk, he, HL, HF, HD⟩ := hrel
                have hu := HD.out
                clear HD
                unfold shiftUp at hu
                by_cases hjb : j < b
                case neg =>
                  rw [if_neg hjb] at hu
                  subst hu
                  have i5 : ¬ (j : Int) < (b : Int) := by omega
                  go_wp2_with fail
                  go_roundg k
                  case measure => omega
                  case rel => exact ⟨m + 1, jc + 1, e, by simp, by simp, by omega, by omega, by omega, he, HL, HF, HR⟩
                case pos =>
                  obtain ⟨kk, rfl⟩ : ∃ kk, gk = kk + 1 := ⟨gk - 1, by omega⟩
                  obtain ⟨q, rfl⟩ : ∃ q, j = q + 1 := ⟨j - 1, by omega⟩
                  rw [if_pos hjb, Nat.add_sub_cancel] at hu
                  have i5 : (q : Int) + 1 < (b : Int) := by omega
                  have i6 : (q : Int) + 1 < (len : Int) := by omega
                  have i7 : (q : Int) < (len : Int) := by omega
                  have i8 : (0 : Int) ≤ (q : Int) + 1 := by omega
                  obtain ⟨x, hx⟩ : ∃ x, e[q + 1]! = x := ⟨_, rfl⟩
                  have Hx : Hid (e[q + 1]! = x) := hx
                  obtain ⟨y, hy⟩ : ∃ y, e[q]! = y := ⟨_, rfl⟩
                  have Hy : Hid (e[q]! = y) := hy
                  rw [hx, hy] at hu
                  clear hx hy
                  have ac0 := HL.out.cell (i := q + 1) (by omega)
                  have ad0 := HL.out.drew.cell (i := q + 1) (by omega)
                  have az0 := HL.out.free (q + 1)
                  have ay0 := HL.out.drew.free (q + 1)
                  rw [Hx.out] at ac0 ad0
                  have ac1 := HL.out.cell (i := q) (by omega)
                  have ad1 := HL.out.drew.cell (i := q) (by omega)
                  have az1 := HL.out.free (q)
                  have ay1 := HL.out.drew.free (q)
                  rw [Hy.out] at ac1 ad1
                  cases hlt : ltN x y with
                  | false =>
                    rw [hlt] at hu
                    have hq : e = f3 := by simpa using hu
                    subst hq
                    have HC : Hid (∀ w, Calls Tryd.prog 77 #[.int .i32 (x : Int), .int .i32 (y : Int)] w fun e w' => e = .returned (.bool false) ∧ w' = w) := fun w => by rw [← hlt]; exact less_any w x y
                    clear hlt hu
                    go_wp2_with fail
                    go_quiet ((go_at_call 77; exact Calls.quiet_of_same (HC.out _)))
                    go_wp2_with fail
                    go_roundg k
                    case measure => omega
                    case rel => exact ⟨m + 1, jc + 1, e, by simp, by simp, by omega, by omega, by omega, he, HL.out.drewN _, HF.out.drewN _, HR⟩
                  | true =>
                    rw [hlt] at hu
                    have hq : shiftUp ltN b (q + 1 + 1) (swp e (q + 1) q) = f3 := by simpa using hu
                    have HD : Hid (shiftUp ltN b (q + 1 + 1) (swp e (q + 1) q) = f3) := hq
                    have HC : Hid (∀ w, Calls Tryd.prog 77 #[.int .i32 (x : Int), .int .i32 (y : Int)] w fun e w' => e = .returned (.bool true) ∧ w' = w) := fun w => by rw [← hlt]; exact less_any w x y
                    clear hu hq hlt
                    go_wp2_with fail
                    go_quiet ((go_at_call 77; exact Calls.quiet_of_same (HC.out _)))
                    go_wp2_with fail
                    have HL1 : LRow (wr.drewN nq) g e := HL.out.drewN _
                    have HF1 : Fr (· ≠ g) w (wr.drewN nq) := HF.out.drewN _
                    clear ac0 ad0 az0 ay0 ac1 ad1 az1 ay1 HL HF
                    generalize wr.drewN nq = W at HL1 HF1 ⊢
                    have HL : Hid (LRow W g e) := HL1
                    have HF : Hid (Fr (· ≠ g) w W) := HF1
                    clear HL1 HF1
                    have bc0 := HL.out.cell (i := q + 1) (by omega)
                    have bd0 := HL.out.drew.cell (i := q + 1) (by omega)
                    have bz0 := HL.out.free (q + 1)
                    have by0 := HL.out.drew.free (q + 1)
                    rw [Hx.out] at bc0 bd0
                    have bc1 := HL.out.cell (i := q) (by omega)
                    have bd1 := HL.out.drew.cell (i := q) (by omega)
                    have bz1 := HL.out.free (q)
                    have by1 := HL.out.drew.free (q)
                    rw [Hy.out] at bc1 bd1
                    have HL2 : Hid (LRow (swL W g (q + 1) q x y) g (swp e (q + 1) q)) := by rw [← Hx.out, ← Hy.out]; exact HL.out.swap _ _
                    have HF2 : Hid (Fr (· ≠ g) w (swL W g (q + 1) q x y)) := HF.out.swapL _ _ _ _
                    clear HL HF
                    go_big_region_o
                    go_wp2_with fail
                    go_roundg kk
                    case measure => omega
                    case rel => exact ⟨q + 1 + 1, _, by simp <;> omega, by omega, by omega, by omega, by rw [size_swp]; exact he, HL2, HF2, HD⟩
          · rw [if_neg q4] at hr
            have i9 : ¬ (2 : Int) ≤ (b : Int) - ((m : Int) + 1) := by omega
            have HR : Hid (partialIns ltN a b k (m + 1) f2 = R) := hr
            clear hr
            go_wp2_with fail
            go_roundg k
            case measure => omega
            case rel => exact ⟨m + 1, jc + 1, f2, by simp, by simp, by omega, by omega, by omega, hs2, HL, HF, HR⟩

end Go.Proofs.YtbicefgjompnoaaDoor.Sx
