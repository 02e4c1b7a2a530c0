/- slices.Sort of literals: parted. -/
import Derived.Test.YtbicefgjompnoaaDoorF08
namespace Go.Proofs.YtbicefgjompnoaaDoor.Sx
open Go.RowKit Go.Sort

set_option maxRecDepth 100000 in
set_option maxHeartbeats 8000000 in
theorem part_any (w : World) (g len cap a b pv : Nat) (d : Array Nat) (h : LRow w g d) (hl : len ≤ 4294967296) (hd : len ≤ d.size) (hb : b ≤ len) (ha : a ≤ pv) (hp : pv < b) :
    Calls Tryd.prog 79 #[.slice (some ⟨g, 0, none⟩) len cap, .int .i64 a, .int .i64 b, .int .i64 pv] w fun e w' => e = .returned (.tuple #[.int .i64 ((partition ltN d a b pv).1 : Int), .bool (partition ltN d a b pv).2.1]) ∧ LRow w' g (partition ltN d a b pv).2.2 ∧ Fr (· ≠ g) w w' := by
  have mo := follows
  obtain ⟨R, hR⟩ : ∃ R, partition ltN d a b pv = R := ⟨_, rfl⟩
  rw [hR]
  unfold partition at hR
  have HL0 : Hid (LRow w g d) := h
  have HF : Hid (Fr (· ≠ g) w w) := Fr.refl _ w
  clear h
  have j1 : (a : Int) < (len : Int) := by omega
  have j2 : (pv : Int) < (len : Int) := by omega
  obtain ⟨x0, hx0⟩ : ∃ x0, d[a]! = x0 := ⟨_, rfl⟩
  have Hx0 : Hid (d[a]! = x0) := hx0
  obtain ⟨y0, hy0⟩ : ∃ y0, d[pv]! = y0 := ⟨_, rfl⟩
  have Hy0 : Hid (d[pv]! = y0) := hy0
  have cc0 := HL0.out.cell (i := a) (by omega)
  have cd0 := HL0.out.drew.cell (i := a) (by omega)
  have cz0 := HL0.out.free (a)
  have cy0 := HL0.out.drew.free (a)
  rw [Hx0.out] at cc0 cd0
  have cc1 := HL0.out.cell (i := pv) (by omega)
  have cd1 := HL0.out.drew.cell (i := pv) (by omega)
  have cz1 := HL0.out.free (pv)
  have cy1 := HL0.out.drew.free (pv)
  rw [Hy0.out] at cc1 cd1
  obtain ⟨k1, k2, k3, k4⟩ := HL0.out.again (i := a) (j := pv) (by omega) hy0
  clear hx0 hy0
  have HL1 : Hid (LRow (swL w g (a) (pv) x0 y0) g (swp d (a) (pv))) := by rw [← Hx0.out, ← Hy0.out]; exact HL0.out.swap _ _
  have HF1 : Hid (Fr (· ≠ g) w (swL w g (a) (pv) x0 y0)) := HF.out.swapL _ _ _ _
  clear HL0 HF
  have hs0 : (swp d a pv).size = d.size := size_swp _ _ _
  go_enter Tryd.func79, Tryd.ntmps79
  go_wp2_with fail
  go_big_region_o
  unfold swL at HL1 HF1
  clear cc0 cd0 cz0 cy0 cc1 cd1 cz1 cy1 k1 k2 k3 k4
  generalize ((w.setCell ⟨g, a, none⟩ (.int .i32 (y0 : Int))).setCell ⟨g, pv, none⟩ (.int .i32 (x0 : Int))).drew = W0 at HL1 HF1 ⊢
  generalize swp d a pv = e at hR HL1 hs0
  clear Hx0 Hy0
  have HL := HL1
  have HF := HF1
  clear HL1 HF1
  have he : e.size = d.size := hs0
  obtain ⟨y, hy⟩ : ∃ y, e[a]! = y := ⟨_, rfl⟩
  have HY : Hid (e[a]! = y) := hy
  rw [hy] at hR
  obtain ⟨I, hI⟩ : ∃ I, scanUp (fun x => ltN x y) e (b - 1) (a + 1) = I := ⟨_, rfl⟩
  have bI := scanUp_le (p := fun x => ltN x y) (d := e) (j := b - 1) _ (a + 1) (Nat.le_refl _)
  rw [hI] at hR bI
  try simp only at hR
  obtain ⟨J, hJ⟩ : ∃ J, scanDown (fun x => !ltN x y) e I (b - 1) = J := ⟨_, rfl⟩
  have bJ := scanDown_le (p := fun x => !ltN x y) (d := e) (i := I) (by omega) (b - 1)
  rw [hJ] at hR bJ
  try simp only at hR
  obtain ⟨b1, hb1⟩ : ∃ b1, b - 1 = b1 := ⟨_, rfl⟩
  obtain ⟨a1, ha1⟩ : ∃ a1, a + 1 = a1 := ⟨_, rfl⟩
  rw [hb1, ha1] at hI
  rw [hb1] at hJ bI bJ
  rw [ha1] at bI
  have HU : Hid (scanUp (fun x => ltN x y) e b1 a1 = I) := hI
  have HV : Hid (scanDown (fun x => !ltN x y) e I b1 = J) := hJ
  have HR : Hid _ := hR
  clear hy hI hJ hR hs0
  have eb : (b : Int) - 1 = (b1 : Int) := by omega
  have ea : (a : Int) + 1 = (a1 : Int) := by omega
  go_upto_block 0 with fail
  try rw [ea, eb]
  clear eb ea
  go_cut [10] (fun s wc => s = .int .i64 (I : Int) ∧ Hid (LRow wc g e) ∧ Hid (Fr (· ≠ g) w wc))
  case first =>
    go_wp2_with fail
    go_loopg [10] (len + 2) (fun k s wr => ∃ (i : Nat), s = .int .i64 (i : Int) ∧ a1 ≤ i ∧ i ≤ len + 1 ∧ len + 2 ≤ i + k ∧ Hid (LRow wr g e) ∧ Hid (Fr (· ≠ g) w wr) ∧ Hid (scanUp (fun x => ltN x y) e b1 i = I))
    case atStart => exact ⟨a1, by simp <;> omega, by omega, by omega, by omega, HL, HF, HU⟩
    case round =>
      clear HL HF HU
      obtain ⟨i, rfl, hi1, hi2, hik, HL, HF, HU⟩ := hrel
      have hu := HU.out
      unfold scanUp at hu
      clear HU
      by_cases hij : i ≤ b1
      · obtain ⟨k, rfl⟩ : ∃ k, gk = k + 1 := ⟨gk - 1, by omega⟩
        have i1 : (i : Int) ≤ (b1 : Int) := by omega
        have i2 : (i : Int) < (len : Int) := by omega
        have i3 : (a : Int) < (len : Int) := by omega
        obtain ⟨x, hx⟩ : ∃ x, e[i]! = x := ⟨_, rfl⟩
        have Hx : Hid (e[i]! = x) := hx
        have c0 := HL.out.cell (i := i) (by omega)
        rw [hx] at c0
        have c1 := HL.out.cell (i := a) (by omega)
        rw [HY.out] at c1
        rw [hx] at hu
        clear hx Hx
        cases hlt : ltN x y with
        | true =>
          simp only [hij, hlt, decide_true, Bool.and_self, if_true] at hu
          have HU : Hid (scanUp (fun x => ltN x y) e b1 (i + 1) = I) := hu
          have HC : Hid (∀ w, Calls Tryd.prog 77 #[.int .i32 (x : Int), .int .i32 (y : Int)] w fun e w' => e = .returned (.bool true) ∧ w' = w) := fun w => by rw [← hlt]; exact less_any w x y
          clear hu hlt
          go_wp2_with fail
          go_quiet ((go_at_call 77; exact Calls.quiet_of_same (HC.out _)))
          go_wp2_with fail
          go_roundg k
          case measure => omega
          case rel => exact ⟨i + 1, by simp <;> omega, by omega, by omega, by omega, HL.out.drewN _, HF.out.drewN _, HU⟩
        | false =>
          simp only [hlt, Bool.and_false, Bool.false_eq_true, if_false] at hu
          subst hu
          have HC : Hid (∀ w, Calls Tryd.prog 77 #[.int .i32 (x : Int), .int .i32 (y : Int)] w fun e w' => e = .returned (.bool false) ∧ w' = w) := fun w => by rw [← hlt]; exact less_any w x y
          clear hlt
          go_wp2_with fail
          go_quiet ((go_at_call 77; exact Calls.quiet_of_same (HC.out _)))
          go_wp2_with fail
          go_meet
          case rel => exact ⟨rfl, HL.out.drewN _, HF.out.drewN _⟩
      · have i1 : decide ((i : Int) ≤ (b1 : Int)) = false := decide_eq_false (by omega)
        simp only [hij, decide_false, Bool.false_and, Bool.false_eq_true, if_false] at hu
        subst hu
        go_wp2_with fail
        go_quiet (fail)
        go_wp2_with fail
        go_meet
        case rel => exact ⟨rfl, HL.out.drewN _, HF.out.drewN _⟩
  case rest =>
    clear HL HF
    obtain ⟨rfl, HL, HF⟩ := hcut
    have HU := HV
    clear HV
    go_upto_block 2 with fail
    go_cut [11] (fun s wc => s = .int .i64 (J : Int) ∧ Hid (LRow wc g e) ∧ Hid (Fr (· ≠ g) w wc))
    case first =>
      go_wp2_with fail
      go_loopg [11] (b1 + 1) (fun k s wr => ∃ (j : Nat), s = .int .i64 (j : Int) ∧ j ≤ b1 ∧ j + 1 ≤ k ∧ Hid (LRow wr g e) ∧ Hid (Fr (· ≠ g) w wr) ∧ Hid (scanDown (fun x => !ltN x y) e I j = J))
      case atStart => exact ⟨b1, by simp <;> omega, by omega, by omega, HL, HF, HU⟩
      case round =>
        clear HL HF HU
        obtain ⟨j, rfl, hj1, hjk, HL, HF, HU⟩ := hrel
        have hu := HU.out
        clear HU
        by_cases hij : I ≤ j
        · obtain ⟨m, rfl⟩ : ∃ m, j = m + 1 := ⟨j - 1, by omega⟩
          unfold scanDown at hu
          obtain ⟨k, rfl⟩ : ∃ k, gk = k + 1 := ⟨gk - 1, by omega⟩
          have i1 : (I : Int) ≤ (m : Int) + 1 := by omega
          have i2 : (m : Int) + 1 < (len : Int) := by omega
          have i3 : (a : Int) < (len : Int) := by omega
          have i4 : (0 : Int) ≤ (m : Int) + 1 := by omega
          obtain ⟨x, hx⟩ : ∃ x, e[m + 1]! = x := ⟨_, rfl⟩
          have Hx : Hid (e[m + 1]! = x) := hx
          have c0 := HL.out.cell (i := m + 1) (by omega)
          rw [hx] at c0
          have c1 := HL.out.cell (i := a) (by omega)
          rw [HY.out] at c1
          rw [hx] at hu
          clear hx Hx
          cases hlt : ltN x y with
          | false =>
            simp only [hij, hlt, decide_true, Bool.and_self, Bool.not_false, if_true] at hu
            have HU : Hid (scanDown (fun x => !ltN x y) e I m = J) := hu
            have HC : Hid (∀ w, Calls Tryd.prog 77 #[.int .i32 (x : Int), .int .i32 (y : Int)] w fun e w' => e = .returned (.bool false) ∧ w' = w) := fun w => by rw [← hlt]; exact less_any w x y
            clear hu hlt
            go_wp2_with fail
            go_quiet ((go_at_call 77; exact Calls.quiet_of_same (HC.out _)))
            go_wp2_with fail
            go_roundg k
            case measure => omega
            case rel => exact ⟨m, by simp <;> omega, by omega, by omega, HL.out.drewN _, HF.out.drewN _, HU⟩
          | true =>
            simp only [hlt, Bool.and_false, Bool.not_true, Bool.false_eq_true, if_false] at hu
            subst hu
            have HC : Hid (∀ w, Calls Tryd.prog 77 #[.int .i32 (x : Int), .int .i32 (y : Int)] w fun e w' => e = .returned (.bool true) ∧ w' = w) := fun w => by rw [← hlt]; exact less_any w x y
            clear hlt
            go_wp2_with fail
            go_quiet ((go_at_call 77; exact Calls.quiet_of_same (HC.out _)))
            go_wp2_with fail
            go_meet
            case rel => exact ⟨by simp, HL.out.drewN _, HF.out.drewN _⟩
        · have i1 : decide ((I : Int) ≤ (j : Int)) = false := decide_eq_false (by omega)
          have hq : j = J := by
            cases j with
            | zero => exact hu
            | succ m =>
              unfold scanDown at hu
              simpa [hij] using hu
          subst hq
          clear hu
          go_wp2_with fail
          go_quiet (fail)
          go_wp2_with fail
          go_meet
          case rel => exact ⟨rfl, HL.out.drewN _, HF.out.drewN _⟩
    case rest =>
      clear HL HF
      obtain ⟨rfl, HL, HF⟩ := hcut
      clear HU
      have hr := HR.out
      clear HR
      by_cases hc : J < I
      · rw [if_pos hc] at hr
        subst hr
        have i1 : (J : Int) < (I : Int) := by omega
        have i3 : (J : Int) < (len : Int) := by omega
        obtain ⟨x1, hx1⟩ : ∃ x1, e[J]! = x1 := ⟨_, rfl⟩
        have Hx1 : Hid (e[J]! = x1) := hx1
        obtain ⟨y1, hy1⟩ : ∃ y1, e[a]! = y1 := ⟨_, rfl⟩
        have Hy1 : Hid (e[a]! = y1) := hy1
        have cc0 := HL.out.cell (i := J) (by omega)
        have cd0 := HL.out.drew.cell (i := J) (by omega)
        have cz0 := HL.out.free (J)
        have cy0 := HL.out.drew.free (J)
        rw [Hx1.out] at cc0 cd0
        have cc1 := HL.out.cell (i := a) (by omega)
        have cd1 := HL.out.drew.cell (i := a) (by omega)
        have cz1 := HL.out.free (a)
        have cy1 := HL.out.drew.free (a)
        rw [Hy1.out] at cc1 cd1
        obtain ⟨k1, k2, k3, k4⟩ := HL.out.again (i := J) (j := a) (by omega) hy1
        clear hx1 hy1
        have HL1 : Hid (LRow (swL wc g (J) (a) x1 y1) g (swp e (J) (a))) := by rw [← Hx1.out, ← Hy1.out]; exact HL.out.swap _ _
        have HF1 : Hid (Fr (· ≠ g) w (swL wc g (J) (a) x1 y1)) := HF.out.swapL _ _ _ _
        clear HL HF
        go_wp2_with fail
        go_big_region_o
        go_wp2_with fail
        exact bodyPost_ret (v := .tuple #[.int .i64 (J : Int), .bool true]) (by simp [results, Tryd.results79, go_sem]) rfl ⟨rfl, HL1.out, HF1.out⟩
      · rw [if_neg hc] at hr
        obtain ⟨r1, r2, hr12⟩ : ∃ r1 r2, partLoop ltN a (I + 1) (J - 1) (swp e I J) = (r1, r2) := ⟨_, _, rfl⟩
        rw [hr12] at hr
        simp only at hr
        have HR : Hid (partLoop ltN a (I + 1) (J - 1) (swp e I J) = (r1, r2)) := hr12
        subst hr
        clear hr12
        have i1 : ¬ (J : Int) < (I : Int) := by omega
        have i2 : (I : Int) < (len : Int) := by omega
        have i3 : (J : Int) < (len : Int) := by omega
        obtain ⟨x1, hx1⟩ : ∃ x1, e[I]! = x1 := ⟨_, rfl⟩
        have Hx1 : Hid (e[I]! = x1) := hx1
        obtain ⟨y1, hy1⟩ : ∃ y1, e[J]! = y1 := ⟨_, rfl⟩
        have Hy1 : Hid (e[J]! = y1) := hy1
        have cc0 := HL.out.cell (i := I) (by omega)
        have cd0 := HL.out.drew.cell (i := I) (by omega)
        have cz0 := HL.out.free (I)
        have cy0 := HL.out.drew.free (I)
        rw [Hx1.out] at cc0 cd0
        have cc1 := HL.out.cell (i := J) (by omega)
        have cd1 := HL.out.drew.cell (i := J) (by omega)
        have cz1 := HL.out.free (J)
        have cy1 := HL.out.drew.free (J)
        rw [Hy1.out] at cc1 cd1
        obtain ⟨k1, k2, k3, k4⟩ := HL.out.again (i := I) (j := J) (by omega) hy1
        clear hx1 hy1
        have HL1 : Hid (LRow (swL wc g (I) (J) x1 y1) g (swp e (I) (J))) := by rw [← Hx1.out, ← Hy1.out]; exact HL.out.swap _ _
        have HF1 : Hid (Fr (· ≠ g) w (swL wc g (I) (J) x1 y1)) := HF.out.swapL _ _ _ _
        clear HL HF
        go_wp2_with fail
        go_big_region_o
        unfold swL at HL1 HF1
        clear cc0 cd0 cz0 cy0 cc1 cd1 cz1 cy1 k1 k2 k3 k4
        generalize ((wc.setCell ⟨g, I, none⟩ (.int .i32 (y1 : Int))).setCell ⟨g, J, none⟩ (.int .i32 (x1 : Int))).drew = W1 at HL1 HF1 ⊢
        have hs1 : (swp e I J).size = d.size := by rw [size_swp]; exact he
        generalize swp e I J = e1 at HR HL1 hs1
        clear Hx1 Hy1 HY
        go_wp2_with fail
        go_loopg [10, 11] (len + 1) (fun k s10 s11 wr => ∃ (i j : Nat) (e : Array Nat), s10 = .int .i64 (i : Int) ∧ s11 = .int .i64 (j : Int) ∧ a < i ∧ i ≤ b + 1 ∧ j < b ∧ a ≤ j ∧ j + 1 ≤ i + k ∧ i ≤ j + 2 ∧ e.size = d.size ∧ Hid (LRow wr g e) ∧ Hid (Fr (· ≠ g) w wr) ∧ Hid (partLoop ltN a i j e = (r1, r2)))
        case atStart => exact ⟨I + 1, J - 1, e1, by simp <;> omega, by simp <;> omega, by omega, by omega, by omega, by omega, by omega, by omega, hs1, HL1, HF1, HR⟩
        case round =>
          clear HL1 HF1 HR hs1 he
          clear bI bJ
          rename_i e_old _
          obtain ⟨i0, j0, e, rfl, rfl, hai, hib, hjb, haj, hk, hij, he, HL, HF, HR⟩ := hrel
          obtain ⟨y, hy⟩ : ∃ y, e[a]! = y := ⟨_, rfl⟩
          have HY : Hid (e[a]! = y) := hy
          have hr := HR.out
          unfold partLoop at hr
          rw [hy] at hr
          obtain ⟨I2, hI⟩ : ∃ I, scanUp (fun x => ltN x y) e j0 i0 = I := ⟨_, rfl⟩
          have bI := scanUp_le (p := fun x => ltN x y) (d := e) (j := j0) _ i0 (Nat.le_refl _)
          rw [hI] at hr bI
          try simp only at hr
          obtain ⟨J2, hJ⟩ : ∃ J, scanDown (fun x => !ltN x y) e I2 j0 = J := ⟨_, rfl⟩
          have bJ := scanDown_le (p := fun x => !ltN x y) (d := e) (i := I2) (by omega) j0
          rw [hJ] at hr bJ
          try simp only at hr
          have bJ2 : a ≤ J2 := by
            by_cases q : I2 ≤ j0
            · have := bJ.2 q; omega
            · have : J2 = j0 := by
                rw [← hJ]
                cases j0 with
                | zero => unfold scanDown; rfl
                | succ m => unfold scanDown; rw [if_neg (by simp; intro; omega)]
              omega
          have HU : Hid (scanUp (fun x => ltN x y) e j0 i0 = I2) := hI
          have HV : Hid (scanDown (fun x => !ltN x y) e I2 j0 = J2) := hJ
          have HR : Hid _ := hr
          clear hy hI hJ hr
          go_upto_block 6 with fail
          go_cut [10] (fun s wc => s = .int .i64 (I2 : Int) ∧ Hid (LRow wc g e) ∧ Hid (Fr (· ≠ g) w wc))
          case first =>
            go_wp2_with fail
            go_loopg [10] (len + 2) (fun k s wr => ∃ (i : Nat), s = .int .i64 (i : Int) ∧ i0 ≤ i ∧ i ≤ len + 1 ∧ len + 2 ≤ i + k ∧ Hid (LRow wr g e) ∧ Hid (Fr (· ≠ g) w wr) ∧ Hid (scanUp (fun x => ltN x y) e j0 i = I2))
            case atStart => exact ⟨i0, by simp <;> omega, by omega, by omega, by omega, HL, HF, HU⟩
            case round =>
              clear HL HF HU
              obtain ⟨i, rfl, hi1, hi2, hik, HL, HF, HU⟩ := hrel
              have hu := HU.out
              unfold scanUp at hu
              clear HU
              by_cases hij : i ≤ j0
              · obtain ⟨k, rfl⟩ : ∃ k, gk = k + 1 := ⟨gk - 1, by omega⟩
                have i1 : (i : Int) ≤ (j0 : Int) := by omega
                have i2 : (i : Int) < (len : Int) := by omega
                have i3 : (a : Int) < (len : Int) := by omega
                obtain ⟨x, hx⟩ : ∃ x, e[i]! = x := ⟨_, rfl⟩
                have Hx : Hid (e[i]! = x) := hx
                have c0 := HL.out.cell (i := i) (by omega)
                rw [hx] at c0
                have c1 := HL.out.cell (i := a) (by omega)
                rw [HY.out] at c1
                rw [hx] at hu
                clear hx Hx
                cases hlt : ltN x y with
                | true =>
                  simp only [hij, hlt, decide_true, Bool.and_self, if_true] at hu
                  have HU : Hid (scanUp (fun x => ltN x y) e j0 (i + 1) = I2) := hu
                  have HC : Hid (∀ w, Calls Tryd.prog 77 #[.int .i32 (x : Int), .int .i32 (y : Int)] w fun e w' => e = .returned (.bool true) ∧ w' = w) := fun w => by rw [← hlt]; exact less_any w x y
                  clear hu hlt
                  go_wp2_with fail
                  go_quiet ((go_at_call 77; exact Calls.quiet_of_same (HC.out _)))
                  go_wp2_with fail
                  go_roundg k
                  case measure => omega
                  case rel => exact ⟨i + 1, by simp <;> omega, by omega, by omega, by omega, HL.out.drewN _, HF.out.drewN _, HU⟩
                | false =>
                  simp only [hlt, Bool.and_false, Bool.false_eq_true, if_false] at hu
                  subst hu
                  have HC : Hid (∀ w, Calls Tryd.prog 77 #[.int .i32 (x : Int), .int .i32 (y : Int)] w fun e w' => e = .returned (.bool false) ∧ w' = w) := fun w => by rw [← hlt]; exact less_any w x y
                  clear hlt
                  go_wp2_with fail
                  go_quiet ((go_at_call 77; exact Calls.quiet_of_same (HC.out _)))
                  go_wp2_with fail
                  go_meet
                  case rel => exact ⟨rfl, HL.out.drewN _, HF.out.drewN _⟩
              · have i1 : decide ((i : Int) ≤ (j0 : Int)) = false := decide_eq_false (by omega)
                simp only [hij, decide_false, Bool.false_and, Bool.false_eq_true, if_false] at hu
                subst hu
                go_wp2_with fail
                go_quiet (fail)
                go_wp2_with fail
                go_meet
                case rel => exact ⟨rfl, HL.out.drewN _, HF.out.drewN _⟩
          case rest =>
            clear HL HF
            obtain ⟨rfl, HL, HF⟩ := hcut
            have HU := HV
            clear HV
            go_upto_block 8 with fail
            go_cut [11] (fun s wc => s = .int .i64 (J2 : Int) ∧ Hid (LRow wc g e) ∧ Hid (Fr (· ≠ g) w wc))
            case first =>
              go_wp2_with fail
              go_loopg [11] (j0 + 1) (fun k s wr => ∃ (j : Nat), s = .int .i64 (j : Int) ∧ j ≤ j0 ∧ j + 1 ≤ k ∧ Hid (LRow wr g e) ∧ Hid (Fr (· ≠ g) w wr) ∧ Hid (scanDown (fun x => !ltN x y) e I2 j = J2))
              case atStart => exact ⟨j0, by simp <;> omega, by omega, by omega, HL, HF, HU⟩
              case round =>
                clear HL HF HU
                obtain ⟨j, rfl, hj1, hjk, HL, HF, HU⟩ := hrel
                have hu := HU.out
                clear HU
                by_cases hij : I2 ≤ j
                · obtain ⟨m, rfl⟩ : ∃ m, j = m + 1 := ⟨j - 1, by omega⟩
                  unfold scanDown at hu
                  obtain ⟨k, rfl⟩ : ∃ k, gk = k + 1 := ⟨gk - 1, by omega⟩
                  have i1 : (I2 : Int) ≤ (m : Int) + 1 := by omega
                  have i2 : (m : Int) + 1 < (len : Int) := by omega
                  have i3 : (a : Int) < (len : Int) := by omega
                  have i4 : (0 : Int) ≤ (m : Int) + 1 := by omega
                  obtain ⟨x, hx⟩ : ∃ x, e[m + 1]! = x := ⟨_, rfl⟩
                  have Hx : Hid (e[m + 1]! = x) := hx
                  have c0 := HL.out.cell (i := m + 1) (by omega)
                  rw [hx] at c0
                  have c1 := HL.out.cell (i := a) (by omega)
                  rw [HY.out] at c1
                  rw [hx] at hu
                  clear hx Hx
                  cases hlt : ltN x y with
                  | false =>
                    simp only [hij, hlt, decide_true, Bool.and_self, Bool.not_false, if_true] at hu
                    have HU : Hid (scanDown (fun x => !ltN x y) e I2 m = J2) := hu
                    have HC : Hid (∀ w, Calls Tryd.prog 77 #[.int .i32 (x : Int), .int .i32 (y : Int)] w fun e w' => e = .returned (.bool false) ∧ w' = w) := fun w => by rw [← hlt]; exact less_any w x y
                    clear hu hlt
                    go_wp2_with fail
                    go_quiet ((go_at_call 77; exact Calls.quiet_of_same (HC.out _)))
                    go_wp2_with fail
                    go_roundg k
                    case measure => omega
                    case rel => exact ⟨m, by simp <;> omega, by omega, by omega, HL.out.drewN _, HF.out.drewN _, HU⟩
                  | true =>
                    simp only [hlt, Bool.and_false, Bool.not_true, Bool.false_eq_true, if_false] at hu
                    subst hu
                    have HC : Hid (∀ w, Calls Tryd.prog 77 #[.int .i32 (x : Int), .int .i32 (y : Int)] w fun e w' => e = .returned (.bool true) ∧ w' = w) := fun w => by rw [← hlt]; exact less_any w x y
                    clear hlt
                    go_wp2_with fail
                    go_quiet ((go_at_call 77; exact Calls.quiet_of_same (HC.out _)))
                    go_wp2_with fail
                    go_meet
                    case rel => exact ⟨by simp, HL.out.drewN _, HF.out.drewN _⟩
                · have i1 : decide ((I2 : Int) ≤ (j : Int)) = false := decide_eq_false (by omega)
                  have hq : j = J2 := by
                    cases j with
                    | zero => exact hu
                    | succ m =>
                      unfold scanDown at hu
                      simpa [hij] using hu
                  subst hq
                  clear hu
                  go_wp2_with fail
                  go_quiet (fail)
                  go_wp2_with fail
                  go_meet
                  case rel => exact ⟨rfl, HL.out.drewN _, HF.out.drewN _⟩
            case rest =>
              clear HL HF
              obtain ⟨rfl, HL, HF⟩ := hcut
              clear HU
              have hr := HR.out
              clear HR
              by_cases hc : J2 < I2
              · rw [if_pos hc] at hr
                cases hr
                have i1 : (r1 : Int) < (I2 : Int) := by omega
                have i3 : (r1 : Int) < (len : Int) := by omega
                obtain ⟨x1, hx1⟩ : ∃ x1, r2[r1]! = x1 := ⟨_, rfl⟩
                have Hx1 : Hid (r2[r1]! = x1) := hx1
                obtain ⟨y1, hy1⟩ : ∃ y1, r2[a]! = y1 := ⟨_, rfl⟩
                have Hy1 : Hid (r2[a]! = y1) := hy1
                have cc0 := HL.out.cell (i := r1) (by omega)
                have cd0 := HL.out.drew.cell (i := r1) (by omega)
                have cz0 := HL.out.free (r1)
                have cy0 := HL.out.drew.free (r1)
                rw [Hx1.out] at cc0 cd0
                have cc1 := HL.out.cell (i := a) (by omega)
                have cd1 := HL.out.drew.cell (i := a) (by omega)
                have cz1 := HL.out.free (a)
                have cy1 := HL.out.drew.free (a)
                rw [Hy1.out] at cc1 cd1
                obtain ⟨k1, k2, k3, k4⟩ := HL.out.again (i := r1) (j := a) (by omega) hy1
                clear hx1 hy1
                have HL1 : Hid (LRow (swL wc g (r1) (a) x1 y1) g (swp r2 (r1) (a))) := by rw [← Hx1.out, ← Hy1.out]; exact HL.out.swap _ _
                have HF1 : Hid (Fr (· ≠ g) w (swL wc g (r1) (a) x1 y1)) := HF.out.swapL _ _ _ _
                clear HL HF
                go_wp2_with fail
                go_big_region_o
                go_wp2_with fail
                exact bodyPost_ret (v := .tuple #[.int .i64 (r1 : Int), .bool false]) (by simp [results, Tryd.results79, go_sem]) rfl ⟨rfl, HL1.out, HF1.out⟩
              · rw [if_neg hc, dif_pos (by omega)] at hr
                obtain ⟨k, rfl⟩ : ∃ k, gk = k + 1 := ⟨gk - 1, by omega⟩
                have HR : Hid (partLoop ltN a (I2 + 1) (J2 - 1) (swp e I2 J2) = (r1, r2)) := hr
                clear hr
                have i1 : ¬ (J2 : Int) < (I2 : Int) := by omega
                have i2 : (I2 : Int) < (len : Int) := by omega
                have i3 : (J2 : Int) < (len : Int) := by omega
                obtain ⟨x1, hx1⟩ : ∃ x1, e[I2]! = x1 := ⟨_, rfl⟩
                have Hx1 : Hid (e[I2]! = x1) := hx1
                obtain ⟨y1, hy1⟩ : ∃ y1, e[J2]! = y1 := ⟨_, rfl⟩
                have Hy1 : Hid (e[J2]! = y1) := hy1
                have cc0 := HL.out.cell (i := I2) (by omega)
                have cd0 := HL.out.drew.cell (i := I2) (by omega)
                have cz0 := HL.out.free (I2)
                have cy0 := HL.out.drew.free (I2)
                rw [Hx1.out] at cc0 cd0
                have cc1 := HL.out.cell (i := J2) (by omega)
                have cd1 := HL.out.drew.cell (i := J2) (by omega)
                have cz1 := HL.out.free (J2)
                have cy1 := HL.out.drew.free (J2)
                rw [Hy1.out] at cc1 cd1
                obtain ⟨k1, k2, k3, k4⟩ := HL.out.again (i := I2) (j := J2) (by omega) hy1
                clear hx1 hy1
                have HL1 : Hid (LRow (swL wc g (I2) (J2) x1 y1) g (swp e (I2) (J2))) := by rw [← Hx1.out, ← Hy1.out]; exact HL.out.swap _ _
                have HF1 : Hid (Fr (· ≠ g) w (swL wc g (I2) (J2) x1 y1)) := HF.out.swapL _ _ _ _
                clear HL HF
                go_wp2_with fail
                go_big_region_o
                go_wp2_with fail
                go_roundg k
                case measure => omega
                case rel => exact ⟨I2 + 1, J2 - 1, _, by simp <;> omega, by simp <;> omega, by omega, by omega, by omega, by omega, by omega, by omega, by rw [size_swp]; exact he, HL1, HF1, HR⟩

end Go.Proofs.YtbicefgjompnoaaDoor.Sx
