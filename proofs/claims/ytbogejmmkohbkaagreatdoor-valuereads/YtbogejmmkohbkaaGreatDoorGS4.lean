/- Rows of pairs: one behind many goes to its place. -/
import Derived.Test.YtbogejmmkohbkaaGreatDoorGS1
namespace Go.Proofs.YtbogejmmkohbkaaGreatDoor.Sx
open Go.RowKit Go.Sort

section
variable {n g : Nat} {W0 : World} [Inhabited (PH n g W0)]
set_option maxRecDepth 100000 in
set_option maxHeartbeats 4000000 in
theorem sym_last (w : World) (len cap a m : Nat) (d : Array (PH n g W0)) (hW : Fr (· ≠ g) W0 w) (hd : d.size = len) (hrow : PRow w g d) (hl : len ≤ 4294967296) (h2 : a + 1 < m) (h3 : m + 1 ≤ len) (hs : Srt cP d a m) :
    Calls Tryz.prog 341 #[.slice (some ⟨g, 0, none⟩) len cap, .int .i64 a, .int .i64 m, .int .i64 ((m + 1 : Nat) : Int), .func (.func 303) #[] #[]] w fun e w' => e = .returned (.tuple #[]) ∧ ∃ d' : Array (PH n g W0), Stb cP a (m + 1) d d' ∧ Srt cP d' a (m + 1) ∧ PRow w' g d' ∧ Fr (· ≠ g) w w' := by
  have H0 : Hid (PRow w g d) := hrow
  have HB : Hid (Fr (· ≠ g) W0 w) := hW
  have HS : Hid (Srt cP d a m) := hs
  clear hrow hW hs
  have mo := follows
  obtain ⟨zm, hzm⟩ : ∃ z, z = d[m]! := ⟨_, rfl⟩
  have HZM : Hid (zm = d[m]!) := hzm
  obtain ⟨b, hb⟩ : ∃ b, b = m + 1 := ⟨_, rfl⟩
  rw [← hb]
  have b1 : ((m : Int) - (a : Int) == 1) = false := by simp; omega
  have b2 : ((b : Int) - (m : Int) == 1) = true := by simp; omega
  have HBM : Hid (b = m + 1) := hb
  have hmb : m < b := by omega
  have hbl : b ≤ len := by omega
  have hal : a < len := by omega
  clear hb hzm
  go_enter Tryz.func341, Tryz.ntmps341
  go_wp2_with fail
  go_loopw [14, 15] (fun s t wr => ∃ (i j : Nat), s = .int .i64 i ∧ t = .int .i64 j ∧ a ≤ i ∧ i ≤ j ∧ j ≤ m ∧ Hid (∀ t, a ≤ t → t < i → 0 ≤ cP zm d[t]!) ∧ Hid (∀ t, j ≤ t → t < m → cP zm d[t]! < 0) ∧ Hid (Grew w wr)) (fun s t _ => (intOf t).toNat - (intOf s).toNat)
  case atStart => exact ⟨a, m, rfl, rfl, Nat.le_refl _, by omega, Nat.le_refl _, fun t h1 h2 => by omega, fun t h1 h2 => by omega, Grew.refl w⟩
  case round =>
    obtain ⟨i, j, rfl, rfl, hi, hij, hj, HLo, HHi, HG⟩ := hrel
    by_cases hlt : i < j
    · obtain ⟨h, hh⟩ : ∃ h, h = (i + j) / 2 := ⟨_, rfl⟩
      obtain ⟨x1, x2⟩ := (H0.out.fr (P := fun _ => True) (Fr.grew HG.out) trivial).grown h (by omega)
      obtain ⟨y1, y2⟩ := (H0.out.fr (P := fun _ => True) (Fr.grew HG.out) trivial).grown m (by omega)
      rw [← HZM.out] at y1 y2
      have ea : (((i : Int) + (j : Int)) / 2).toNat = h := by omega
      have pa : (0 : Int) ≤ ((i : Int) + (j : Int)) / 2 := by omega
      have ba : ((i : Int) + (j : Int)) / 2 < (len : Int) := by omega
      have ra : IntKind.i64.wrap (((i : Int) + (j : Int)) / 2) = ((i : Int) + (j : Int)) / 2 := by rw [IntKind.wrap_i64]; omega
      have ec : ((m : Int)).toNat = m := by omega
      have pc : (0 : Int) ≤ (m : Int) := by omega
      have bc : (m : Int) < (len : Int) := by omega
      have rc : IntKind.i64.wrap ((m : Int)) = (m : Int) := by rw [IntKind.wrap_i64]; omega
      have HC : Hid (∀ q os, Calls Tryz.prog 303 #[.agg #[zm.k.v, zm.u.v], .agg #[d[h]!.k.v, d[h]!.u.v]] (grow (wr.drewN q) os) fun e w' => e = .returned (.int .i64 (cP zm d[h]!)) ∧ Grew (grow (wr.drewN q) os) w') := fun q os => cmpP_held _ _ _ (HB.out.trans (Fr.grew (HG.out.grown q os)))
      have HLt : Hid (cP zm d[h]! < 0 → ∀ t, h ≤ t → t < m → cP zm d[t]! < 0) := by
        intro q t q1 q2
        exact lt_le (ordP n g W0) q (HS.out.le (ordP n g W0) (by omega) q1 q2)
      have HGe : Hid (0 ≤ cP zm d[h]! → ∀ t, a ≤ t → t < h + 1 → 0 ≤ cP zm d[t]!) := by
        intro q t q1 q2
        by_cases q3 : cP zm d[t]! < 0
        · have := lt_le (ordP n g W0) q3 (HS.out.le (ordP n g W0) q1 (show t ≤ h by omega) (by omega))
          omega
        · omega
      generalize cP zm d[h]! = cv at HC HLt HGe
      generalize d[h]! = zh at x1 x2 HC
      have hh1 : i ≤ h := by omega
      have hh2 : h < j := by omega
      have HH : Hid (h = (i + j) / 2) := hh
      clear hh
      by_cases hc : cv < 0
      · have hcb : decide (cv < 0) = true := by simp [hc]
        go_wp2_with fail
        go_quiet_grown (first | (go_at_call 303; refine Calls.grown_of (HC.out _ _)))
        have G1 : Hid (Grew w (grow (wr.drewN nq) osq)) := HG.out.grown _ _
        clear x1 x2 y1 y2 HG HC ea pa ba ra ec pc bc rc
        generalize grow (wr.drewN nq) osq = W1 at G1 ⊢
        clear nq osq
        go_wp2_with fail
        go_roundw
        case rel => exact ⟨i, h, rfl, by rw [show ((i : Int) + (j : Int)) / 2 = ((h : Nat) : Int) from by have := HH.out; omega], hi, by omega, by omega, HLo, HLt.out hc, G1⟩
        case measure => have := HH.out; simp [intOf]; omega
      · have hcb : decide (cv < 0) = false := by simp [hc]
        go_wp2_with fail
        go_quiet_grown (first | (go_at_call 303; refine Calls.grown_of (HC.out _ _)))
        have G1 : Hid (Grew w (grow (wr.drewN nq) osq)) := HG.out.grown _ _
        clear x1 x2 y1 y2 HG HC ea pa ba ra ec pc bc rc
        generalize grow (wr.drewN nq) osq = W1 at G1 ⊢
        clear nq osq
        go_wp2_with fail
        go_roundw
        case rel => exact ⟨h + 1, j, by rw [show ((i : Int) + (j : Int)) / 2 + 1 = ((h + 1 : Nat) : Int) from by have := HH.out; omega], rfl, by omega, by omega, hj, HGe.out (by omega), HHi, G1⟩
        case measure => have := HH.out; simp [intOf]; omega
    · obtain rfl : i = j := by omega
      have HR1 : Hid (PRow wr g d) := H0.out.fr (P := fun _ => True) (Fr.grew HG.out) trivial
      have HF1 : Hid (Fr (· ≠ g) w wr) := Fr.grew HG.out
      have HRT : Hid (RotL d d m m (m + 1)) := RotL.same_l d m (m + 1) (by omega) (by omega)
      go_wp2_with fail
      go_loopw [17] (fun s wr => ∃ (k : Nat) (e : Array (PH n g W0)), s = .int .i64 k ∧ i ≤ k ∧ k ≤ m ∧ Hid (RotL d e k m (m + 1)) ∧ Hid (PRow wr g e) ∧ Hid (Fr (· ≠ g) w wr)) (fun s _ => (intOf s).toNat)
      case atStart => exact ⟨m, d, rfl, by omega, Nat.le_refl _, HRT, HR1, HF1⟩
      case round =>
        clear HR1 HF1 HRT
        obtain ⟨k, e, rfl, hak, hki, HRT, HR, HF⟩ := hrel
        by_cases hlt2 : i < k
        · obtain ⟨q, rfl⟩ : ∃ q, k = q + 1 := ⟨k - 1, by omega⟩
          have hes : e.size = len := HRT.out.size.trans hd
          have SR : Hid (RotL d (swp e (q + 1) q) q m (m + 1)) := HRT.out.down
          obtain ⟨k, hk⟩ : ∃ k, k = q + 1 := ⟨_, rfl⟩
          rw [← hk] at SR
          rw [show ((q + 1 : Nat) : Int) = (q : Int) + 1 from by omega]
          obtain ⟨x1, x2, x3, x4⟩ := HR.out.drew.2 k (by omega)
          obtain ⟨y1, y2, y3, y4⟩ := HR.out.drew.2 q (by omega)
          obtain ⟨_, _, z3, z4⟩ := HR.out.2 k (by omega)
          obtain ⟨_, _, r3, r4⟩ := HR.out.2 q (by omega)
          have ea : ((q : Int) + 1).toNat = k := by omega
          have pa : (0 : Int) ≤ (q : Int) + 1 := by omega
          have ba : (q : Int) + 1 < (len : Int) := by omega
          have ra : IntKind.i64.wrap ((q : Int) + 1) = (q : Int) + 1 := by rw [IntKind.wrap_i64]; omega
          have ec : ((q : Int)).toNat = q := by omega
          have pc : (0 : Int) ≤ (q : Int) := by omega
          have bc : (q : Int) < (len : Int) := by omega
          have rc : IntKind.i64.wrap ((q : Int)) = (q : Int) := by rw [IntKind.wrap_i64]; omega
          have lt2 : (i : Int) < (q : Int) + 1 := by omega
          have s1 := store_one e[k]!.k.one
          have s2 := store_one e[k]!.u.one
          have s3 := store_one e[q]!.k.one
          have s4 := store_one e[q]!.u.one
          have SW : Hid (PRow (swW wr g k q e[k]!.k.v e[k]!.u.v e[q]!.k.v e[q]!.u.v) g (swp e k q)) := HR.out.swapD k q (by omega) (by omega)
          have SF : Hid (Fr (· ≠ g) w (swW wr g k q e[k]!.k.v e[k]!.u.v e[q]!.k.v e[q]!.u.v)) := HF.out.swapD _ _ _ _ _ _
          have hkq : q < k := by omega
          clear hk HR HF HRT hes
          generalize swp e k q = e2 at SW SR
          generalize e[k]! = zp at x1 x2 s1 s2 SW SF
          generalize e[q]! = zq at y1 y2 s3 s4 SW SF
          go_wp2_with fail
          go_big_region_o
          change Exit.inBlock _ _ _ _ (swW wr g k q zp.k.v zp.u.v zq.k.v zq.u.v)
          clear x1 x2 x3 x4 y1 y2 y3 y4 z3 z4 r3 r4 s1 s2 s3 s4
          generalize swW wr g k q zp.k.v zp.u.v zq.k.v zq.u.v = W1 at SW SF ⊢
          go_wp2_with fail
          go_roundw
          case rel => exact ⟨q, e2, by go_num, by omega, by omega, SR, SW, SF⟩
          case measure => simp [intOf]
        · obtain rfl : k = i := by omega
          have HFin : Hid (Stb cP a (m + 1) d e ∧ Srt cP e a (m + 1)) := by
            have hz := HZM.out
            exact merge_last (ordP n g W0) HS.out hi hki (fun t q1 q2 => by rw [← hz]; have := HLo.out t q1 q2; omega) (fun t q1 q2 => by rw [← hz]; exact HHi.out t q1 q2) HRT.out
          go_wp2_with fail
          refine bodyPost_ret (results_none rfl _ _ _) rfl ?_
          rw [HBM.out]
          exact ⟨rfl, e, HFin.out.1, HFin.out.2, HR.out, HF.out⟩
end
end Go.Proofs.YtbogejmmkohbkaaGreatDoor.Sx
