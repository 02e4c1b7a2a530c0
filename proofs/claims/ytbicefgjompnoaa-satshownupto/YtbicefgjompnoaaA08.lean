/- slices.Sort of literals: parted, those that are alike. -/
import Derived.Deep.CutBlock
import Derived.Deep.DeepCutAuto
import Derived.Test.YtbicefgjompnoaaA07
namespace Go.Proofs.Ytbicefgjompnoaa.Sx
open Go.RowKit Go.Sort

theorem scanUp_le {p : Nat → Bool} {d : Array Nat} {j : Nat} : ∀ (n i : Nat), j + 1 - i ≤ n → i ≤ scanUp p d j i ∧ scanUp p d j i ≤ max i (j + 1) := by
  intro n
  induction n with
  | zero =>
    intro i h
    unfold scanUp
    rw [if_neg (by simp; intro; omega)]
    omega
  | succ n ih =>
    intro i h
    unfold scanUp
    split
    · have := ih (i + 1) (by omega)
      rename_i hc
      simp at hc
      omega
    · omega
theorem scanDown_le {p : Nat → Bool} {d : Array Nat} {i : Nat} (hi : 0 < i) : ∀ (j : Nat), scanDown p d i j ≤ j ∧ (i ≤ j → i ≤ scanDown p d i j + 1) := by
  intro j
  induction j with
  | zero => exact ⟨by unfold scanDown; omega, fun h => by omega⟩
  | succ j ih =>
    unfold scanDown
    split
    · rename_i hc
      simp at hc
      refine ⟨by omega, fun _ => ?_⟩
      by_cases q : i ≤ j
      · exact ih.2 q
      · have : i = j + 1 := by omega
        have : scanDown p d i j = j := by
          cases j with
          | zero => unfold scanDown; rfl
          | succ m => unfold scanDown; rw [if_neg (by simp; intro; omega)]
        omega
    · exact ⟨by omega, fun h => by omega⟩
/-- a store behind a store of the same row -/
theorem LRow.again {w : World} {g : Nat} {d : Array Nat} (h : LRow w g d) {i j y : Nat} (hj : j < d.size) (hy : d[j]! = y) : (w.setCell ⟨g, i, none⟩ (.int .i32 (y : Int))).cell? ⟨g, j, none⟩ = some (.int .i32 (y : Int)) ∧ (w.setCell ⟨g, i, none⟩ (.int .i32 (y : Int))).drew.cell? ⟨g, j, none⟩ = some (.int .i32 (y : Int)) ∧ (w.setCell ⟨g, i, none⟩ (.int .i32 (y : Int))).frozen? ⟨g, j, none⟩ = false ∧ (w.setCell ⟨g, i, none⟩ (.int .i32 (y : Int))).drew.frozen? ⟨g, j, none⟩ = false := by
  have hy2 : (d.setIfInBounds i y)[j]! = y := by
    rw [getElem!_pos _ _ (by simpa using hj), Array.getElem_setIfInBounds hj]
    split
    · rfl
    · rw [← getElem!_pos d j hj]; exact hy
  have cs := (h.set i y).cell (i := j) (by simpa using hj)
  have ct := (h.set i y).drew.cell (i := j) (by simpa using hj)
  rw [hy2] at cs ct
  exact ⟨cs, ct, (h.set i y).free j, (h.set i y).drew.free j⟩

set_option maxRecDepth 100000 in
set_option maxHeartbeats 8000000 in
theorem partEqual_any (w : World) (g len cap a b pv : Nat) (d : Array Nat) (h : LRow w g d) (hl : len ≤ 4294967296) (hd : len ≤ d.size) (hb : b ≤ len) (ha : a ≤ pv) (hp : pv < b) :
    Calls Try.prog 72 #[.slice (some ⟨g, 0, none⟩) len cap, .int .i64 a, .int .i64 b, .int .i64 pv] w fun e w' => e = .returned (.int .i64 ((partitionEqual ltN d a b pv).1 : Int)) ∧ LRow w' g (partitionEqual ltN d a b pv).2 ∧ Fr (· ≠ g) w w' := by
  have mo := follows
  obtain ⟨R, hR⟩ : ∃ R, partitionEqual ltN d a b pv = R := ⟨_, rfl⟩
  rw [hR]
  have HR0 : Hid (partEqLoop ltN a (a + 1) (b - 1) (swp d a pv) = R) := hR
  have HL0 : Hid (LRow w g d) := h
  clear hR h
  have j1 : (a : Int) < (len : Int) := by omega
  have j2 : (pv : Int) < (len : Int) := by omega
  obtain ⟨x0, hx0⟩ : ∃ x0, d[a]! = x0 := ⟨_, rfl⟩
  have Hx0 : Hid (d[a]! = x0) := hx0
  obtain ⟨y0, hy0⟩ : ∃ y0, d[pv]! = y0 := ⟨_, rfl⟩
  have Hy0 : Hid (d[pv]! = y0) := hy0
  have cc0 := HL0.out.cell (i := a) (by omega)
  have cd0 := HL0.out.drew.cell (i := a) (by omega)
  have cz0 := HL0.out.free (a)
  have cy0 := HL0.out.drew.free (a)
  rw [Hx0.out] at cc0 cd0
  have cc1 := HL0.out.cell (i := pv) (by omega)
  have cd1 := HL0.out.drew.cell (i := pv) (by omega)
  have cz1 := HL0.out.free (pv)
  have cy1 := HL0.out.drew.free (pv)
  rw [Hy0.out] at cc1 cd1
  obtain ⟨k1, k2, k3, k4⟩ := HL0.out.again (i := a) (j := pv) (by omega) hy0
  clear hx0 hy0
  have HL1 : Hid (LRow (swL w g a pv x0 y0) g (swp d a pv)) := by rw [← Hx0.out, ← Hy0.out]; exact HL0.out.swap _ _
  have HF1 : Hid (Fr (· ≠ g) w (swL w g a pv x0 y0)) := (Fr.refl _ w).swapL _ _ _ _
  have hs0 : (swp d a pv).size = d.size := size_swp _ _ _
  clear HL0
  go_enter Try.func72, Try.ntmps72
  go_wp2_with fail
  go_big_region_o
  unfold swL at HL1 HF1
  clear cc0 cd0 cz0 cy0 cc1 cd1 cz1 cy1 k1 k2 k3 k4
  generalize ((w.setCell ⟨g, a, none⟩ (.int .i32 (y0 : Int))).setCell ⟨g, pv, none⟩ (.int .i32 (x0 : Int))).drew = W0 at HL1 HF1 ⊢
  generalize swp d a pv = d0 at HR0 HL1 hs0
  clear Hx0 Hy0
  go_wp2_with fail
  go_loopg [9, 10] (len + 1) (fun k s9 s10 wr => ∃ (i j : Nat) (e : Array Nat), s9 = .int .i64 (i : Int) ∧ s10 = .int .i64 (j : Int) ∧ a < i ∧ i ≤ b ∧ j < b ∧ j + 1 ≤ i + k ∧ i ≤ j + 2 ∧ e.size = d.size ∧ Hid (LRow wr g e) ∧ Hid (Fr (· ≠ g) w wr) ∧ Hid (partEqLoop ltN a i j e = R))
  case atStart => exact ⟨a + 1, b - 1, d0, by simp <;> omega, by simp <;> omega, by omega, by omega, by omega, by omega, by omega, hs0, HL1, HF1, HR0⟩
  case round =>
    clear HL1 HF1 HR0 hs0
    obtain ⟨i0, j0, e, rfl, rfl, hai, hib, hjb, hk, hij, he, HL, HF, HR⟩ := hrel
    obtain ⟨y, hy⟩ : ∃ y, e[a]! = y := ⟨_, rfl⟩
    have HY : Hid (e[a]! = y) := hy
    have hr := HR.out
    unfold partEqLoop at hr
    rw [hy] at hr
    obtain ⟨I, hI⟩ : ∃ I, scanUp (fun x => !ltN y x) e j0 i0 = I := ⟨_, rfl⟩
    have bI := scanUp_le (p := fun x => !ltN y x) (d := e) (j := j0) _ i0 (Nat.le_refl _)
    rw [hI] at hr bI
    try simp only at hr
    obtain ⟨J, hJ⟩ : ∃ J, scanDown (fun x => ltN y x) e I j0 = J := ⟨_, rfl⟩
    have bJ := scanDown_le (p := fun x => ltN y x) (d := e) (i := I) (by omega) j0
    rw [hJ] at hr bJ
    try simp only at hr
    have HU : Hid (scanUp (fun x => !ltN y x) e j0 i0 = I) := hI
    have HV : Hid (scanDown (fun x => ltN y x) e I j0 = J) := hJ
    have HR : Hid _ := hr
    clear hy hI hJ hr
    go_upto_block 2 with fail
    go_cut [9] (fun s wc => s = .int .i64 (I : Int) ∧ Hid (LRow wc g e) ∧ Hid (Fr (· ≠ g) w wc))
    case first =>
      go_wp2_with fail
      go_loopg [9] (len + 2) (fun k s wr => ∃ (i : Nat), s = .int .i64 (i : Int) ∧ i0 ≤ i ∧ i ≤ len + 1 ∧ len + 2 ≤ i + k ∧ Hid (LRow wr g e) ∧ Hid (Fr (· ≠ g) w wr) ∧ Hid (scanUp (fun x => !ltN y x) e j0 i = I))
      case atStart => exact ⟨i0, by simp <;> omega, by omega, by omega, by omega, HL, HF, HU⟩
      case round =>
        clear HL HF HU
        obtain ⟨i, rfl, hi1, hi2, hik, HL, HF, HU⟩ := hrel
        have hu := HU.out
        unfold scanUp at hu
        clear HU
        by_cases hij : i ≤ j0
        · obtain ⟨k, rfl⟩ : ∃ k, gk = k + 1 := ⟨gk - 1, by omega⟩
          have i1 : (i : Int) ≤ (j0 : Int) := by omega
          have i2 : (i : Int) < (len : Int) := by omega
          have i3 : (a : Int) < (len : Int) := by omega
          obtain ⟨x, hx⟩ : ∃ x, e[i]! = x := ⟨_, rfl⟩
          have Hx : Hid (e[i]! = x) := hx
          have c0 := HL.out.cell (i := i) (by omega)
          rw [hx] at c0
          have c1 := HL.out.cell (i := a) (by omega)
          rw [HY.out] at c1
          rw [hx] at hu
          clear hx Hx
          cases hlt : ltN y x with
          | false =>
            simp only [hij, hlt, decide_true, Bool.and_self, Bool.not_false, if_true] at hu
            have HU : Hid (scanUp (fun x => !ltN y x) e j0 (i + 1) = I) := hu
            have HC : Hid (∀ w, Calls Try.prog 71 #[.int .i32 (y : Int), .int .i32 (x : Int)] w fun e w' => e = .returned (.bool false) ∧ w' = w) := fun w => by rw [← hlt]; exact less_any w y x
            clear hu hlt
            go_wp2_with fail
            go_quiet ((go_at_call 71; exact Calls.quiet_of_same (HC.out _)))
            go_wp2_with fail
            go_roundg k
            case measure => omega
            case rel => exact ⟨i + 1, by simp <;> omega, by omega, by omega, by omega, HL.out.drewN _, HF.out.drewN _, HU⟩
          | true =>
            simp only [hlt, Bool.and_false, Bool.not_true, Bool.false_eq_true, if_false] at hu
            subst hu
            have HC : Hid (∀ w, Calls Try.prog 71 #[.int .i32 (y : Int), .int .i32 (x : Int)] w fun e w' => e = .returned (.bool true) ∧ w' = w) := fun w => by rw [← hlt]; exact less_any w y x
            clear hlt
            go_wp2_with fail
            go_quiet ((go_at_call 71; exact Calls.quiet_of_same (HC.out _)))
            go_wp2_with fail
            go_meet
            case rel => exact ⟨rfl, HL.out.drewN _, HF.out.drewN _⟩
        · have i1 : decide ((i : Int) ≤ (j0 : Int)) = false := decide_eq_false (by omega)
          simp only [hij, decide_false, Bool.false_and, Bool.false_eq_true, if_false] at hu
          subst hu
          go_wp2_with fail
          go_quiet (fail)
          go_wp2_with fail
          go_meet
          case rel => exact ⟨rfl, HL.out.drewN _, HF.out.drewN _⟩
    case rest =>
      clear HL HF
      obtain ⟨rfl, HL, HF⟩ := hcut
      have HU := HV
      clear HV
      go_upto_block 4 with fail
      go_cut [10] (fun s wc => s = .int .i64 (J : Int) ∧ Hid (LRow wc g e) ∧ Hid (Fr (· ≠ g) w wc))
      case first =>
        go_wp2_with fail
        go_loopg [10] (j0 + 1) (fun k s wr => ∃ (j : Nat), s = .int .i64 (j : Int) ∧ j ≤ j0 ∧ j + 1 ≤ k ∧ Hid (LRow wr g e) ∧ Hid (Fr (· ≠ g) w wr) ∧ Hid (scanDown (fun x => ltN y x) e I j = J))
        case atStart => exact ⟨j0, by simp <;> omega, by omega, by omega, HL, HF, HU⟩
        case round =>
          clear HL HF HU
          obtain ⟨j, rfl, hj1, hjk, HL, HF, HU⟩ := hrel
          have hu := HU.out
          clear HU
          by_cases hij : I ≤ j
          · obtain ⟨m, rfl⟩ : ∃ m, j = m + 1 := ⟨j - 1, by omega⟩
            unfold scanDown at hu
            obtain ⟨k, rfl⟩ : ∃ k, gk = k + 1 := ⟨gk - 1, by omega⟩
            have i1 : (I : Int) ≤ (m : Int) + 1 := by omega
            have i2 : (m : Int) + 1 < (len : Int) := by omega
            have i3 : (a : Int) < (len : Int) := by omega
            have i4 : (0 : Int) ≤ (m : Int) + 1 := by omega
            obtain ⟨x, hx⟩ : ∃ x, e[m + 1]! = x := ⟨_, rfl⟩
            have Hx : Hid (e[m + 1]! = x) := hx
            have c0 := HL.out.cell (i := m + 1) (by omega)
            rw [hx] at c0
            have c1 := HL.out.cell (i := a) (by omega)
            rw [HY.out] at c1
            rw [hx] at hu
            clear hx Hx
            cases hlt : ltN y x with
            | true =>
              simp only [hij, hlt, decide_true, Bool.and_self, if_true] at hu
              have HU : Hid (scanDown (fun x => ltN y x) e I m = J) := hu
              have HC : Hid (∀ w, Calls Try.prog 71 #[.int .i32 (y : Int), .int .i32 (x : Int)] w fun e w' => e = .returned (.bool true) ∧ w' = w) := fun w => by rw [← hlt]; exact less_any w y x
              clear hu hlt
              go_wp2_with fail
              go_quiet ((go_at_call 71; exact Calls.quiet_of_same (HC.out _)))
              go_wp2_with fail
              go_roundg k
              case measure => omega
              case rel => exact ⟨m, by simp <;> omega, by omega, by omega, HL.out.drewN _, HF.out.drewN _, HU⟩
            | false =>
              simp only [hlt, Bool.and_false, Bool.false_eq_true, if_false] at hu
              subst hu
              have HC : Hid (∀ w, Calls Try.prog 71 #[.int .i32 (y : Int), .int .i32 (x : Int)] w fun e w' => e = .returned (.bool false) ∧ w' = w) := fun w => by rw [← hlt]; exact less_any w y x
              clear hlt
              go_wp2_with fail
              go_quiet ((go_at_call 71; exact Calls.quiet_of_same (HC.out _)))
              go_wp2_with fail
              go_meet
              case rel => exact ⟨by simp, HL.out.drewN _, HF.out.drewN _⟩
          · have i1 : decide ((I : Int) ≤ (j : Int)) = false := decide_eq_false (by omega)
            have hq : j = J := by
              cases j with
              | zero => exact hu
              | succ m =>
                unfold scanDown at hu
                simpa [hij] using hu
            subst hq
            clear hu
            go_wp2_with fail
            go_quiet (fail)
            go_wp2_with fail
            go_meet
            case rel => exact ⟨rfl, HL.out.drewN _, HF.out.drewN _⟩
      case rest =>
        clear HL HF
        obtain ⟨rfl, HL, HF⟩ := hcut
        clear HU
        have hr := HR.out
        clear HR
        by_cases hc : J < I
        · rw [if_pos hc] at hr
          subst hr
          have i1 : (J : Int) < (I : Int) := by omega
          go_wp2_with fail
          go_ret
          exact ⟨rfl, HL.out, HF.out⟩
        · rw [if_neg hc, dif_pos (by omega)] at hr
          obtain ⟨k, rfl⟩ : ∃ k, gk = k + 1 := ⟨gk - 1, by omega⟩
          have HR : Hid (partEqLoop ltN a (I + 1) (J - 1) (swp e I J) = R) := hr
          clear hr
          have i1 : ¬ (J : Int) < (I : Int) := by omega
          have i2 : (I : Int) < (len : Int) := by omega
          have i3 : (J : Int) < (len : Int) := by omega
          obtain ⟨x1, hx1⟩ : ∃ x1, e[I]! = x1 := ⟨_, rfl⟩
          have Hx1 : Hid (e[I]! = x1) := hx1
          obtain ⟨y1, hy1⟩ : ∃ y1, e[J]! = y1 := ⟨_, rfl⟩
          have Hy1 : Hid (e[J]! = y1) := hy1
          have cc0 := HL.out.cell (i := I) (by omega)
          have cd0 := HL.out.drew.cell (i := I) (by omega)
          have cz0 := HL.out.free (I)
          have cy0 := HL.out.drew.free (I)
          rw [Hx1.out] at cc0 cd0
          have cc1 := HL.out.cell (i := J) (by omega)
          have cd1 := HL.out.drew.cell (i := J) (by omega)
          have cz1 := HL.out.free (J)
          have cy1 := HL.out.drew.free (J)
          rw [Hy1.out] at cc1 cd1
          obtain ⟨k1, k2, k3, k4⟩ := HL.out.again (i := I) (j := J) (by omega) hy1
          clear hx1 hy1
          have HL1 : Hid (LRow (swL wc g I J x1 y1) g (swp e I J)) := by rw [← Hx1.out, ← Hy1.out]; exact HL.out.swap _ _
          have HF1 : Hid (Fr (· ≠ g) w (swL wc g I J x1 y1)) := HF.out.swapL _ _ _ _
          clear HL HF
          go_wp2_with fail
          go_big_region_o
          go_wp2_with fail
          go_roundg k
          case measure => omega
          case rel => exact ⟨I + 1, J - 1, _, by simp <;> omega, by simp <;> omega, by omega, by omega, by omega, by omega, by omega, by rw [size_swp]; exact he, HL1, HF1, HR⟩

end Go.Proofs.Ytbicefgjompnoaa.Sx
