/- slices.SortStableFunc of literals: by insertion. -/
import Derived.Test.YtbicefgjompnoaaA06
import Derived.Test.YtbicefgjompnoaaA30
import Derived.Test.YtbicefgjompnoaaA40
import Derived.Deep.LoopGhost
import Derived.Outline
namespace Go.Proofs.Ytbicefgjompnoaa.Sx
open Go.RowKit Go.Sort

def ltS (tr : Nat → Int) (x y : Nat) : Bool := decide (cS tr x y < 0)
theorem swp_allK {K i j len : Nat} {d : Array Nat} (hd : len ≤ d.size) (hi : i < len) (hj : j < len) (hK : ∀ t, t < len → d[t]! < K) : ∀ t, t < len → (swp d i j)[t]! < K := by
  intro t ht
  rw [swp_get d (by omega) (by omega)]
  split
  · exact hK _ hi
  · split
    · exact hK _ hj
    · exact hK _ ht

set_option maxRecDepth 100000 in
set_option maxHeartbeats 4000000 in
theorem insCmp_any (w W0 : World) (g K px : Nat) (tr : Nat → Int) (len cap a b : Nat) (d : Array Nat) (hC : CmpAt W0 g K px tr) (hK : ∀ t, t < len → d[t]! < K) (hW : Fr (· ≠ g) W0 w) (hd : len ≤ d.size) (h : LRow w g d) (hl : len ≤ 4294967296) (hab : a ≤ b) (hb : b ≤ len) :
    Calls Try.prog 78 #[.slice (some ⟨g, 0, none⟩) len cap, .int .i64 a, .int .i64 b, .func (.func 43) #[] #[.pointer (some ⟨px, 0, none⟩)]] w (RowPost w g (insertionSort (ltS tr) d a b)) := by
  have HCM : Hid (CmpAt W0 g K px tr) := hC
  have HK0 : Hid (∀ t, t < len → d[t]! < K) := hK
  have HB : Hid (Fr (· ≠ g) W0 w) := hW
  clear hC hK hW
  have H0 : Hid (LRow w g d) := h
  clear h
  have mo := follows
  obtain ⟨R, hR⟩ : ∃ R, insertionSort (ltS tr) d a b = R := ⟨_, rfl⟩
  rw [hR]
  have HR0 : Hid (insOuter (ltS tr) a b (a + 1) d = R) := hR
  clear hR
  go_enter Try.func78, Try.ntmps78
  go_wp2_with fail
  go_loopg [8] (b - a) (fun k s8 wr => ∃ (i : Nat) (e : Array Nat), s8 = .int .i64 (i : Int) ∧ a < i ∧ i + k = b + 1 ∧ e.size = d.size ∧ Hid (∀ t, t < len → e[t]! < K) ∧ Hid (LRow wr g e) ∧ Hid (Fr (· ≠ g) w wr) ∧ Hid (insOuter (ltS tr) a b i e = R))
  case atStart => exact ⟨a + 1, d, by simp, by omega, by omega, rfl, HK0, H0, Fr.refl _ _, HR0⟩
  case round =>
    clear HR0 H0 HK0
    obtain ⟨i, e, rfl, hai, hik, he, HK, HL, HF, HU⟩ := hrel
    by_cases hib : i < b
    · obtain ⟨k, rfl⟩ : ∃ k, gk = k + 1 := ⟨gk - 1, by omega⟩
      have hi : (i : Int) < (b : Int) := by omega
      have hu := HU.out
      unfold insOuter at hu
      rw [if_pos hib] at hu
      obtain ⟨E, hE⟩ : ∃ E, insInner (ltS tr) a i e = E := ⟨_, rfl⟩
      rw [hE] at hu
      have HQ : Hid (insOuter (ltS tr) a b (i + 1) E = R) := hu
      have HE : Hid (insInner (ltS tr) a i e = E) := hE
      clear hu HU hE
      go_wp2_with fail
      rename World => w1
      go_loopg [9] (i) (fun k' s9 wr2 => ∃ (j : Nat) (f : Array Nat), s9 = .int .i64 (j : Int) ∧ a ≤ j ∧ j ≤ i ∧ j ≤ k' ∧ f.size = d.size ∧ Hid (∀ t, t < len → f[t]! < K) ∧ Hid (LRow wr2 g f) ∧ Hid (Fr (· ≠ g) w wr2) ∧ Hid (insInner (ltS tr) a j f = E))
      case atStart => exact ⟨i, e, rfl, by omega, by omega, by omega, he, HK, HL, HF, HE⟩
      case round =>
        clear HL HF HE HK
        obtain ⟨j, f, rfl, haj, hji, hjk, hf, HK, HL, HF, HE⟩ := hrel
        have hu := HE.out
        by_cases hja : a < j
        · obtain ⟨m, rfl⟩ : ∃ m, j = m + 1 := ⟨j - 1, by omega⟩
          obtain ⟨k2, rfl⟩ : ∃ k2, gk = k2 + 1 := ⟨gk - 1, by omega⟩
          have c1 := LRow.grown HL.out (m + 1) (by omega)
          have c0 := LRow.grown HL.out m (by omega)
          have i1 : (a : Int) < (m : Int) + 1 := by omega
          have i2 : (m : Int) + 1 < (len : Int) := by omega
          have i3 : (m : Int) < (len : Int) := by omega
          have i4 : (0 : Int) ≤ (m : Int) + 1 := by omega
          have i5 : (0 : Int) ≤ (m : Int) := by omega
          have rm : IntKind.i64.wrap (m : Int) = (m : Int) := by rw [IntKind.wrap_i64]; omega
          have em : ((m : Int)).toNat = m := by omega
          have em1 : ((m : Int) + 1).toNat = m + 1 := by omega
          obtain ⟨x, hx⟩ : ∃ x, f[m + 1]! = x := ⟨_, rfl⟩
          obtain ⟨y, hy⟩ : ∃ y, f[m]! = y := ⟨_, rfl⟩
          have kx : x < K := by rw [← hx]; exact HK.out _ (by omega)
          have ky : y < K := by rw [← hy]; exact HK.out _ (by omega)
          unfold insInner at hu
          rw [hx, hy] at hu
          rw [hx] at c1
          rw [hy] at c0
          have HX : Hid (f[m + 1]! = x) := hx
          have HY : Hid (f[m]! = y) := hy
          clear hx hy
          have HC : Hid (∀ q os, Calls Try.prog 43 #[.int .i32 (x : Int), .int .i32 (y : Int), .pointer (some ⟨px, 0, none⟩)] (grow (wr.drewN q) os) fun e w' => e = .returned (.int .i64 (tr y - tr x)) ∧ Grew (grow (wr.drewN q) os) w') := fun q os => HCM.out _ (HB.out.trans (HF.out.trans (Fr.grew ((Grew.refl _).grown q os)))) _ _ kx ky
          have cI : (cS tr) x y < 0 ↔ tr y - tr x < 0 := cS_lt tr _ _
          clear kx ky
          cases hlt : (ltS tr) x y with
          | true =>
            rw [hlt] at hu
            have hq : insInner (ltS tr) a m (swp f (m + 1) m) = E := by simpa [hja] using hu
            have HE2 : Hid (insInner (ltS tr) a m (swp f (m + 1) m) = E) := hq
            have hv : tr y - tr x < 0 := cI.1 (by simpa [ltS] using hlt)
            have HK2 : Hid (∀ t, t < len → (swp f (m + 1) m)[t]! < K) := swp_allK (by omega) (by omega) (by omega) HK.out
            clear hu hq HE hlt cI
            generalize tr y - tr x = cv at HC hv
            have hcb : decide (cv < 0) = true := by simp [hv]
            go_wp2_with fail
            go_quiet_grown (first | (go_at_call 43; refine Calls.grown_of (HC.out _ _)))
            have HL1 : LRow (grow (wr.drewN nq) osq) g f := HL.out.of (P := fun _ => True) (Fr.grew ((Grew.refl _).grown nq osq)) trivial
            have HF1 : Fr (· ≠ g) w (grow (wr.drewN nq) osq) := HF.out.trans (Fr.grew ((Grew.refl _).grown nq osq))
            clear c1 c0 HL HF HC
            generalize grow (wr.drewN nq) osq = W at HL1 HF1 ⊢
            clear nq osq
            have c1 := HL1.cell (i := m + 1) (by omega)
            have c0 := HL1.cell (i := m) (by omega)
            have d1 := HL1.drew.cell (i := m + 1) (by omega)
            have d0 := HL1.drew.cell (i := m) (by omega)
            have z1 := HL1.free (m + 1)
            have z0 := HL1.free m
            have y1 := HL1.drew.free (m + 1)
            have y0 := HL1.drew.free m
            rw [HX.out] at c1 d1
            rw [HY.out] at c0 d0
            have HL2 : Hid (LRow (swL W g (m + 1) m x y) g (swp f (m + 1) m)) := by rw [← HX.out, ← HY.out]; exact HL1.swap _ _
            have HF2 : Hid (Fr (· ≠ g) w (swL W g (m + 1) m x y)) := HF1.swapL _ _ _ _
            clear HL1 HF1
            go_wp2_with fail
            go_big_region_o
            go_wp2_with fail
            go_roundg k2
            case measure => omega
            case rel => exact ⟨m, _, by simp, by omega, by omega, by omega, by rw [size_swp]; exact hf, HK2, HL2, HF2, HE2⟩
          | false =>
            rw [hlt] at hu
            have hq : f = E := by simpa using hu
            have hv : ¬ tr y - tr x < 0 := fun h => by have := cI.2 h; simp [ltS] at hlt; omega
            subst hq
            clear hu HE hlt cI
            generalize tr y - tr x = cv at HC hv
            have hcb : decide (cv < 0) = false := by simp [hv]
            go_wp2_with fail
            go_quiet_grown (first | (go_at_call 43; refine Calls.grown_of (HC.out _ _)))
            have HL1 : Hid (LRow (grow (wr.drewN nq) osq) g f) := HL.out.of (P := fun _ => True) (Fr.grew ((Grew.refl _).grown nq osq)) trivial
            have HF1 : Hid (Fr (· ≠ g) w (grow (wr.drewN nq) osq)) := HF.out.trans (Fr.grew ((Grew.refl _).grown nq osq))
            clear c1 c0 HL HF HC
            generalize grow (wr.drewN nq) osq = W at HL1 HF1 ⊢
            clear nq osq
            go_wp2_with fail
            go_roundg k
            case measure => omega
            case rel => exact ⟨i + 1, f, by simp, by omega, by omega, hf, HK, HL1, HF1, HQ⟩
        · obtain rfl : j = a := by omega
          have hq : f = E := by
            cases j with
            | zero => exact hu
            | succ m => unfold insInner at hu; simpa using hu
          subst hq
          have i1 : decide ((j : Int) < (j : Int)) = false := by simp
          clear hu HE
          go_wp2_with fail
          go_quiet (fail)
          go_wp2_with fail
          go_roundg k
          case measure => omega
          case rel => exact ⟨i + 1, f, by simp, by omega, by omega, hf, HK, HL.out.drewN nq, HF.out.drewN nq, HQ⟩
    · have hi : ¬ (i : Int) < (b : Int) := by omega
      have hu := HU.out
      unfold insOuter at hu
      rw [if_neg hib] at hu
      subst hu
      clear HU
      go_wp2_with fail
      go_end0
      exact ⟨rfl, HL.out, HF.out⟩

end Go.Proofs.Ytbicefgjompnoaa.Sx
/- slices.SortStableFunc of literals, by truth. -/
namespace Go.Proofs.Ytbicefgjompnoaa.Sx
open Go.RowKit Go.Sort Go.Lib

theorem swoS (tr : Nat → Int) : SWO (ltS tr) where
  irrefl x := by have := (ordS tr).self x; simp [ltS, this]
  trans x y z h1 h2 := by simp only [ltS, decide_eq_true_eq] at *; rw [cS_lt] at *; omega
  ntrans x y z h1 h2 := by simp only [ltS, decide_eq_false_iff_not] at *; rw [cS_lt] at *; omega
theorem ins_any (w W0 : World) (g K px : Nat) (tr : Nat → Int) (len cap a b : Nat) (d : Array Nat) (hC : CmpAt W0 g K px tr) (hK : ∀ t, t < len → d[t]! < K) (hW : Fr (· ≠ g) W0 w) (hd : len ≤ d.size) (hrow : LRow w g d) (hl : len ≤ 4294967296) (h1 : a ≤ b) (h2 : b ≤ len) :
    Calls Try.prog 78 #[.slice (some ⟨g, 0, none⟩) len cap, .int .i64 a, .int .i64 b, .func (.func 43) #[] #[.pointer (some ⟨px, 0, none⟩)]] w fun e w' => e = .returned (.tuple #[]) ∧ ∃ d' : Array Nat, Stb (cS tr) a b d d' ∧ Srt (cS tr) d' a b ∧ LRow w' g d' ∧ Fr (· ≠ g) w w' := by
  refine (insCmp_any w W0 g K px tr len cap a b d hC hK hW hd hrow hl h1 h2).mono ?_
  rintro e w' ⟨rfl, hr, hf⟩
  have hs := ins_outer (ordS tr) a b _ (a + 1) d (Nat.le_refl _) (by omega)
  have ho := (insertionSort_holds (lt := ltS tr) (swoS tr) d a b h1 (by omega)).2
  refine ⟨rfl, insertionSort (ltS tr) d a b, hs, fun i j q1 q2 q3 => ?_, hr, hf⟩
  have := ho i j q1 q2 q3
  simp only [ltS, decide_eq_false_iff_not] at this
  have := (ordS tr).anti (insertionSort (ltS tr) d a b)[i]! (insertionSort (ltS tr) d a b)[j]!
  omega

set_option maxRecDepth 100000 in
set_option maxHeartbeats 4000000 in
theorem stable_any (w W0 : World) (g K px : Nat) (tr : Nat → Int) (len cap : Nat) (d : Array Nat) (hC : CmpAt W0 g K px tr) (hK : ∀ t, t < len → d[t]! < K) (hW : Fr (· ≠ g) W0 w) (hd : len ≤ d.size) (hrow : LRow w g d) (hl : len ≤ 4294967296) :
    Calls Try.prog 62 #[.slice (some ⟨g, 0, none⟩) len cap, .int .i64 len, .func (.func 43) #[] #[.pointer (some ⟨px, 0, none⟩)]] w fun e w' => e = .returned (.tuple #[]) ∧ ∃ d' : Array Nat, Stb (cS tr) 0 len d d' ∧ Srt (cS tr) d' 0 len ∧ LRow w' g d' ∧ Fr (· ≠ g) w w' := by
  have H0 : Hid (LRow w g d) := hrow
  have HI : Hid (∀ (W : World) (a b : Nat) (e : Array Nat), Fr (· ≠ g) w W → Stb (cS tr) 0 len d e → LRow W g e → a ≤ b → b ≤ len → _) := fun W a b e hf hs hr q1 q2 => ins_any W W0 g K px tr len cap a b e hC (hs.allK (Nat.le_refl _) hK) (hW.trans hf) (by rw [hs.size]; exact hd) hr hl q1 q2
  have HM : Hid (∀ (W : World) (a m b : Nat) (e : Array Nat), Fr (· ≠ g) w W → Stb (cS tr) 0 len d e → LRow W g e → a < m → m < b → b ≤ len → _ → _ → _) := fun W a m b e hf hs hr q1 q2 q3 q4 q5 => symMerge_any W0 g K px tr hC len cap hl (b - a) W a m b e (Nat.le_refl _) (hs.allK (Nat.le_refl _) hK) (hW.trans hf) (by rw [hs.size]; exact hd) hr q1 q2 q3 q4 q5
  clear hrow hW hC hK
  go_enter Try.func62, Try.ntmps62
  go_wp2_with fail
  go_loopw [7, 8] (fun s t wr => ∃ (q : Nat) (e : Array Nat), s = .int .i64 ((q * 20 : Nat) : Int) ∧ t = .int .i64 ((q * 20 + 20 : Nat) : Int) ∧ q * 20 ≤ len ∧ e.size = d.size ∧ Hid (Done (cS tr) e 20 len (q * 20)) ∧ Hid (Stb (cS tr) 0 len d e) ∧ Hid (LRow wr g e) ∧ Hid (Fr (· ≠ g) w wr)) (fun s _ _ => len + 20 - (intOf s).toNat)
  case atStart => exact ⟨0, d, rfl, rfl, by omega, rfl, Done.start d 20 len, Stb.refl _ _ _ _, H0, Fr.refl _ _⟩
  case round =>
    obtain ⟨q, e, rfl, rfl, hq, he, HD, HSt, HR, HF⟩ := hrel
    by_cases hlt : q * 20 + 20 ≤ len
    · have HC : Hid (Calls _ 78 #[_, _, _, _] wr _) := HI.out wr (q * 20) _ e HF.out HSt.out HR.out (by omega) hlt
      have hm := Nat.min_eq_left hlt
      have HMn : Hid _ := hm
      clear hm
      obtain ⟨A, hA⟩ : ∃ A, A = q * 20 := ⟨_, rfl⟩
      rw [← hA] at HC
      have HAA : Hid (A = q * 20) := hA
      rw [← hA] at hlt hq ⊢
      clear hA
      rw [show ((A + 20 : Nat) : Int) = (A : Int) + 20 from by omega] at HC ⊢
      go_wp2_with fail
      refine HC.out.mono ?_
      rintro x w1 ⟨rfl, e1, hs1, ho1, hr1, hf1⟩
      have D1 : Hid (Done (cS tr) e1 20 len _) := HD.out.step (by rw [HMn.out, ← HAA.out]; exact hs1) (by rw [HMn.out, ← HAA.out]; exact ho1)
      have S1 : Hid _ := HSt.out.trans (hs1.mono (by omega) (by omega))
      have R1 : Hid (LRow w1 g e1) := hr1
      have F1 : Hid _ := HF.out.trans hf1
      have he1 : e1.size = d.size := hs1.size.trans he
      clear hs1 ho1 hr1 hf1 HC HD HSt HR HF
      go_wp2_with fail
      go_roundw
      case rel => exact ⟨q + 1, e1, by rw [show ((q + 1) * 20 : Nat) = A + 20 from by have := HAA.out; omega]; go_num, by rw [show ((q + 1) * 20 + 20 : Nat) = A + 20 + 20 from by have := HAA.out; omega]; go_num, by have := HAA.out; omega, he1, by rw [show (q + 1) * 20 = q * 20 + 20 from by omega]; exact D1, S1, R1, F1⟩
      case measure => simp [intOf]; omega
    · have HC : Hid (Calls _ 78 #[_, _, _, _] wr _) := HI.out wr _ len e HF.out HSt.out HR.out hq (Nat.le_refl _)
      have hm : min (q * 20 + 20) len = len := Nat.min_eq_right (by omega)
      have HMn : Hid _ := hm
      clear hm
      obtain ⟨A, hA⟩ : ∃ A, A = q * 20 := ⟨_, rfl⟩
      rw [← hA] at HC
      have HAA : Hid (A = q * 20) := hA
      rw [← hA] at hlt hq ⊢
      clear hA
      rw [show ((A + 20 : Nat) : Int) = (A : Int) + 20 from by omega]
      go_wp2_with fail
      refine HC.out.mono ?_
      rintro x w1 ⟨rfl, e1, hs1, ho1, hr1, hf1⟩
      have D1 : Hid (Done (cS tr) e1 20 len len) := (HD.out.step (by rw [HMn.out, ← HAA.out]; exact hs1) (by rw [HMn.out, ← HAA.out]; exact ho1)).mono (by have := HAA.out; omega)
      have S1 : Hid _ := HSt.out.trans (hs1.mono (by omega) (by omega))
      have R1 : Hid (LRow w1 g e1) := hr1
      have F1 : Hid _ := HF.out.trans hf1
      have he1 : e1.size = d.size := hs1.size.trans he
      clear hs1 ho1 hr1 hf1 HC HD HSt HR HF HMn HAA
      go_wp2_with fail
      go_loopw [6, 7, 8, 9] (fun s _ _ _ wr => ∃ (bs : Nat) (e : Array Nat), s = .int .i64 bs ∧ 0 < bs ∧ bs ≤ 2 * len + 20 ∧ e.size = d.size ∧ Hid (Done (cS tr) e bs len len) ∧ Hid (Stb (cS tr) 0 len d e) ∧ Hid (LRow wr g e) ∧ Hid (Fr (· ≠ g) w wr)) (fun s _ _ _ _ => 2 * len + 40 - (intOf s).toNat)
      case atStart => exact ⟨20, e1, rfl, by omega, by omega, he1, D1, S1, R1, F1⟩
      case round =>
        clear D1 S1 R1 F1 he1 e1
        obtain ⟨bs, e, rfl, hbs, hbl, he, HD, HSt, HR, HF⟩ := hrel
        by_cases hlt2 : bs < len
        · have HH0 : Hid _ := Half.start HD.out
          have HZ : Hid (0 = 0 * (2 * bs)) := by show 0 = _; omega
          go_wp2_with fail
          go_loopw [7, 8] (fun s t wr => ∃ (q A : Nat) (e : Array Nat), Hid (A = q * (2 * bs)) ∧ s = .int .i64 (A : Int) ∧ t = .int .i64 ((A : Int) + 2 * (bs : Int)) ∧ A ≤ len ∧ e.size = d.size ∧ Hid (Half (cS tr) e bs len q) ∧ Hid (Stb (cS tr) 0 len d e) ∧ Hid (LRow wr g e) ∧ Hid (Fr (· ≠ g) w wr)) (fun s _ _ => len + 1 - (intOf s).toNat)
          case atStart => exact ⟨0, 0, e, HZ, rfl, by simp, by omega, he, HH0, HSt, HR, HF⟩
          case round =>
            clear HH0 HZ HSt HR HF HD he e
            obtain ⟨q, A, e, HA, rfl, rfl, hA, he, HH, HSt, HR, HF⟩ := hrel
            have HA1 : Hid ((q + 1) * (2 * bs) = A + 2 * bs) := by show _ = _; rw [HA.out, Nat.add_mul, Nat.one_mul]
            by_cases hlt3 : A + 2 * bs ≤ len
            · have hp := HH.out.parts (by rw [← HA.out]; omega)
              rw [← HA.out, Nat.min_eq_left hlt3] at hp
              have HC : Hid (Calls _ 79 #[_, _, _, _, _] wr _) := HM.out wr A _ _ e HF.out HSt.out HR.out (by omega) (by omega) hlt3 hp.1 hp.2
              rw [show ((A + bs : Nat) : Int) = (A : Int) + (bs : Int) from by omega, show ((A + 2 * bs : Nat) : Int) = (A : Int) + 2 * (bs : Int) from by omega] at HC
              clear hp
              have l3 : (A : Int) + 2 * (bs : Int) ≤ (len : Int) := by omega
              go_wp2_with fail
              refine HC.out.mono ?_
              rintro x w1 ⟨rfl, e1, hs1, ho1, hr1, hf1⟩
              have H1 : Hid _ := HH.out.step hbs (by rw [← HA.out, Nat.min_eq_left hlt3]; exact hs1) (by rw [← HA.out, Nat.min_eq_left hlt3]; exact ho1)
              have S1 : Hid _ := HSt.out.trans (hs1.mono (by omega) (by omega))
              have R1 : Hid (LRow w1 g e1) := hr1
              have F1 : Hid _ := HF.out.trans hf1
              have he1 : e1.size = d.size := hs1.size.trans he
              clear hs1 ho1 hr1 hf1 HC HH HSt HR HF
              go_wp2_with fail
              go_roundw
              case rel => exact ⟨q + 1, A + 2 * bs, e1, HA1.out.symm, by go_num, by go_num, hlt3, he1, H1, S1, R1, F1⟩
              case measure => simp [intOf]; omega
            · have l3 : ¬ (A : Int) + 2 * (bs : Int) ≤ (len : Int) := by omega
              by_cases hlt4 : A + bs < len
              · have hp := HH.out.parts (by rw [← HA.out]; omega)
                rw [← HA.out, Nat.min_eq_right (by omega)] at hp
                have HC : Hid (Calls _ 79 #[_, _, _, _, _] wr _) := HM.out wr A _ len e HF.out HSt.out HR.out (by omega) hlt4 (Nat.le_refl _) hp.1 hp.2
                rw [show ((A + bs : Nat) : Int) = (A : Int) + (bs : Int) from by omega] at HC
                clear hp
                have l4 : (A : Int) + (bs : Int) < (len : Int) := by omega
                go_wp2_with fail
                refine HC.out.mono ?_
                rintro x w1 ⟨rfl, e1, hs1, ho1, hr1, hf1⟩
                have H1 : Hid _ := HH.out.step hbs (by rw [← HA.out, Nat.min_eq_right (by omega)]; exact hs1) (by rw [← HA.out, Nat.min_eq_right (by omega)]; exact ho1)
                have D1 : Hid (Done (cS tr) e1 _ len len) := H1.out.all (by rw [HA1.out]; omega)
                have S1 : Hid _ := HSt.out.trans (hs1.mono (by omega) (by omega))
                have R1 : Hid (LRow w1 g e1) := hr1
                have F1 : Hid _ := HF.out.trans hf1
                have he1 : e1.size = d.size := hs1.size.trans he
                clear hs1 ho1 hr1 hf1 HC HH HSt HR HF H1
                go_wp2_with fail
                go_roundw
                case rel => exact ⟨2 * bs, e1, by go_num, by omega, by omega, he1, D1, S1, R1, F1⟩
                case measure => simp [intOf]; omega
              · have D1 : Hid (Done (cS tr) e _ len len) := HH.out.finish hbs (by rw [← HA.out]; omega)
                have l4 : ¬ (A : Int) + (bs : Int) < (len : Int) := by omega
                clear HH
                go_wp2_with fail
                go_roundw
                case rel => exact ⟨2 * bs, e, by go_num, by omega, by omega, he, D1, HSt, HR, HF⟩
                case measure => simp [intOf]; omega
        · have HFin : Hid (Srt (cS tr) e 0 len) := HD.out.whole (by omega)
          go_wp2_with fail
          go_end0
          exact ⟨rfl, e, HSt.out, HFin.out, HR.out, HF.out⟩

set_option maxRecDepth 100000 in
theorem sortStable_any (w W0 : World) (g K px : Nat) (tr : Nat → Int) (len cap : Nat) (d : Array Nat) (hC : CmpAt W0 g K px tr) (hK : ∀ t, t < len → d[t]! < K) (hW : Fr (· ≠ g) W0 w) (hd : len ≤ d.size) (hrow : LRow w g d) (hl : len ≤ 4294967296) :
    Calls Try.prog 42 #[.slice (some ⟨g, 0, none⟩) len cap, .func (.func 43) #[] #[.pointer (some ⟨px, 0, none⟩)]] w fun e w' => e = .returned (.tuple #[]) ∧ ∃ d' : Array Nat, Stb (cS tr) 0 len d d' ∧ Srt (cS tr) d' 0 len ∧ LRow w' g d' ∧ Fr (· ≠ g) w w' := by
  have HS : Hid (Calls _ _ _ _ _) := stable_any w W0 g K px tr len cap d hC hK hW hd hrow hl
  clear hW hrow hC hK
  go_enter Try.func42, Try.ntmps42
  go_wp2_with fail
  refine HS.out.mono ?_
  rintro x w1 ⟨rfl, hx⟩
  have HX : Hid _ := hx
  clear hx
  go_wp2_with fail
  go_end0
  exact ⟨rfl, HX.out⟩
end Go.Proofs.Ytbicefgjompnoaa.Sx
/- The comparison of literals by truth; the sort of a clause. -/
namespace Go.Proofs.Ytbicefgjompnoaa.Sx
open Go.RowKit Go.Sort Go.Lib Go.Shelf

set_option maxRecDepth 100000 in
set_option maxHeartbeats 2000000 in
theorem add1_any (W : World) (px bb sb tb n x y : Nat) (tx ty : Int) (h1 : W.cell? ⟨px, 0, none⟩ = some (.pointer (some ⟨bb, 0, none⟩))) (h2 : W.cell? ⟨bb, 0, none⟩ = some (.pointer (some ⟨sb, 0, none⟩))) (h3 : W.cell? ⟨sb, 4, none⟩ = some (.slice (some ⟨tb, 0, none⟩) (2 * n) (2 * n))) (hx : W.cell? ⟨tb, x, none⟩ = some (.int .i8 tx)) (hy : W.cell? ⟨tb, y, none⟩ = some (.int .i8 ty)) (lx : x < 2 * n) (ly : y < 2 * n) (ax : tx = 1 ∨ tx = 0 ∨ tx = -1) (ay : ty = 1 ∨ ty = 0 ∨ ty = -1) :
    Calls Try.prog 43 #[.int .i32 (x : Int), .int .i32 (y : Int), .pointer (some ⟨px, 0, none⟩)] W fun e w' => e = .returned (.int .i64 (ty - tx)) ∧ Grew W w' := by
  have mo := follows
  have r1 : (x : Int) < ((2 * n : Nat) : Int) := by omega
  have r2 : (y : Int) < ((2 * n : Nat) : Int) := by omega
  have w1 : IntKind.i64.wrap tx = tx := by rw [IntKind.wrap_i64]; omega
  have w2 : IntKind.i64.wrap ty = ty := by rw [IntKind.wrap_i64]; omega
  have w3 : IntKind.i64.wrap (ty - tx) = ty - tx := by rw [IntKind.wrap_i64]; omega
  generalize 2 * n = N at *
  go_enter Try.func43, Try.ntmps43
  go_wp2_with fail
  go_quiet (fail)
  go_wp2_with fail
  go_ret
  exact ⟨rfl, (Grew.refl _).drewN nq⟩

/-- the comparison, while a row is sorted that is none of the store's -/
theorem cmpAt_of {w : World} {L : Ly} {n bb px g : Nat} {s : St} {mv : Value} {sure never : Bool} (h : BkAt w L n s bb sure never mv) (hp : w.cell? ⟨px, 0, none⟩ = some (.pointer (some ⟨bb, 0, none⟩))) (hpl : px < w.heap.size) (hg1 : g ≠ px) (hg2 : g ≠ bb) (hg3 : L.own g = (0, 0)) : CmpAt w g (2 * n) px (fun l => s.truth.getD l 0) := by
  intro W hW x y hx hy
  have n1 : L.sb ≠ g := fun e => by have := (h.at_.1.st trivial).2; rw [e, hg3] at this; cases this
  have n2 : L.tb ≠ g := fun e => by have := (h.at_.1.tr trivial).2; rw [e, hg3] at this; cases this
  have k : ∀ b i, b < w.heap.size → b ≠ g → W.cell? ⟨b, i, none⟩ = w.cell? ⟨b, i, none⟩ := fun b i hb hne => World.cell?_of_block (w := w) (hW.block b hb hne)
  refine add1_any W px bb L.sb L.tb n x y _ _ ?_ ?_ ?_ ?_ ?_ hx hy (h.at_.2.t3 x) (h.at_.2.t3 y)
  · rw [k px 0 hpl (Ne.symm hg1)]; exact hp
  · rw [k bb 0 (block_lt h.bk) (Ne.symm hg2), block_cell h.bk]; rfl
  · rw [k L.sb 4 (block_lt (h.at_.1.st trivial).1) n1, h.at_.cell]; rfl
  · rw [k L.tb x (block_lt (h.at_.1.tr trivial).1) n2]; exact h.at_.truth hx
  · rw [k L.tb y (block_lt (h.at_.1.tr trivial).1) n2]; exact h.at_.truth hy

/-- the same in each sort: the same in all -/
theorem StbL.perm {c : Nat → Nat → Int} (O : Ord3 c) {l m : List Nat} (h : StbL c l m) : l.Perm m := by
  rw [List.perm_iff_count]
  intro x
  have e := congrArg (List.count x) (h x)
  rwa [List.count_filter (by simp [O.self x]), List.count_filter (by simp [O.self x])] at e

/-- a clause, sorted by truth -/
theorem sortBy_any {w : World} {L : Ly} {n bb px g cap : Nat} {s : St} {mv : Value} {sure never : Bool} (h : BkAt w L n s bb sure never mv) (hp : w.cell? ⟨px, 0, none⟩ = some (.pointer (some ⟨bb, 0, none⟩))) (hpl : px < w.heap.size) (hg1 : g ≠ px) (hg2 : g ≠ bb) (hg3 : L.own g = (0, 0)) {c : List Nat} {d : Array Nat} (hrow : LRow w g d) (hd : c.length ≤ d.size) (hc : d.toList.take c.length = c) (hl : c.length ≤ 4294967296) (hn : ∀ x ∈ c, x < 2 * n) :
    Calls Try.prog 42 #[.slice (some ⟨g, 0, none⟩) c.length cap, .func (.func 43) #[] #[.pointer (some ⟨px, 0, none⟩)]] w fun e w' => e = .returned (.tuple #[]) ∧ Fr (· ≠ g) w w' ∧ ∃ (c' : List Nat) (d' : Array Nat), c'.Perm c ∧ (c'.Pairwise fun x y => s.truth.getD y 0 ≤ s.truth.getD x 0) ∧ d'.size = d.size ∧ d'.toList.take c'.length = c' ∧ LRow w' g d' := by
  have hget : ∀ t, t < c.length → d[t]! ∈ c := fun t ht => by
    have e1 : d[t]! = c[t] := by
      rw [getElem!_pos d t (by omega)]
      have : c[t]? = d.toList[t]? := by rw [← hc, List.getElem?_take, if_pos ht]
      rw [List.getElem?_eq_getElem ht, Array.getElem?_toList, Array.getElem?_eq_getElem (by omega)] at this
      exact (Option.some.inj this).symm
    rw [e1]; exact List.getElem_mem _
  refine (sortStable_any w w g (2 * n) px (fun l => s.truth.getD l 0) c.length cap d (cmpAt_of h hp hpl hg1 hg2 hg3) (fun t ht => hn _ (hget t ht)) (Fr.refl _ _) hd hrow hl).mono ?_
  rintro e w' ⟨rfl, d', hs, ho, hr, hf⟩
  have hz : d'.size = d.size := hs.size
  have hlen : (d'.toList.take c.length).length = c.length := by simp only [List.length_take, Array.length_toList]; omega
  have hdrop : d'.toList.drop c.length = d.toList.drop c.length := by
    apply List.ext_getElem?
    intro i
    rw [List.getElem?_drop, List.getElem?_drop, Array.getElem?_toList, Array.getElem?_toList]
    by_cases q : c.length + i < d.size
    · have := hs.out (c.length + i) (.inr (by omega))
      rw [getElem!_pos d _ q, getElem!_pos d' _ (by rw [hs.size]; exact q)] at this
      rw [Array.getElem?_eq_getElem q, Array.getElem?_eq_getElem (by rw [hs.size]; exact q), this]
    · rw [Array.getElem?_eq_none (xs := d') (by omega), Array.getElem?_eq_none (xs := d) (by omega)]
  have hperm : (d'.toList.take c.length).Perm c := by
    have := (hs.cls.perm (ordS _)).symm
    rw [← List.take_append_drop c.length d'.toList, ← List.take_append_drop c.length d.toList, hdrop, hc] at this
    exact (List.perm_append_right_iff _).1 this
  refine ⟨rfl, hf, d'.toList.take c.length, d', hperm, ?_, hs.size, by rw [hlen], hr⟩
  rw [List.pairwise_iff_getElem]
  intro i j hi hj hij
  have := ho i j (by omega) hij (by omega)
  rw [List.getElem_take, List.getElem_take, Array.getElem_toList, Array.getElem_toList]
  rw [getElem!_pos d' i (by omega), getElem!_pos d' j (by omega)] at this
  have h1 := (ordS (fun l => s.truth.getD l 0)).anti d'[i] d'[j]
  have h2 := cS_lt (fun l => s.truth.getD l 0) d'[j] d'[i]
  have h3 : ¬ (s.truth.getD d'[i] 0 - s.truth.getD d'[j] 0 < 0) := fun q => by have := h2.2 q; omega
  omega

end Go.Proofs.Ytbicefgjompnoaa.Sx
