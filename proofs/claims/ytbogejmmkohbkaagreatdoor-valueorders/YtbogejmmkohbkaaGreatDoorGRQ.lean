/- The reference: its reader: numbers. -/
import Derived.Test.YtbogejmmkohbkaaGreatDoorGRN
namespace Go.Proofs.YtbogejmmkohbkaaGreatDoor.Sx
open Go.RowKit Go.Sort

def zeroOK (l : List UInt8) (mi : Bool) : Bool := !decide ((byteAt l 0).toNat = 48) || (decide (l.length = 1) && !mi)
def numOK (l : List UInt8) (mi : Bool) : Bool := zeroOK l mi && l.all isDigit
def numV (l : List UInt8) (mi : Bool) : Value :=
  if numOK l mi && !(decide (9223372036854775808 < valD 0 l) || (decide (valD 0 l = 9223372036854775808) && !mi)) then .agg #[.int .i64 2, .int .i64 (if mi then -(valD 0 l : Int) else valD 0 l), .string ⟨#[]⟩, .slice none 0 0, .slice none 0 0] else nilV5
def numS (l : List UInt8) (mi : Bool) (s : RSt) (i en : Nat) : RSt :=
  if numOK l mi then (if decide (9223372036854775808 < valD 0 l) || (decide (valD 0 l = 9223372036854775808) && !mi) then failR s 5 i else { s with at' := en }) else failR s 1 i

theorem box_end {w W : World} {br : Nat} {t : ByteArray} {s : RSt} {v0 v1 v2 v3 v4 : Value} (x2 : W.heap[w.heap.size]? = some (.cells #[v0, v1, v2, v3, v4] 30 (0, 0))) (R : RR W br t s) (hb : br < w.heap.size) (F : Fr (· ≠ br) w W) (c0 c1 c2 c3 c4 : Value) :
    (set5 W w.heap.size 0 c0 c1 c2 c3 c4).heap[w.heap.size]? = some (.cells #[c0, c1, c2, c3, c4] 30 (0, 0)) ∧ RR (set5 W w.heap.size 0 c0 c1 c2 c3 c4) br t s ∧ Fr (· ≠ br) w (set5 W w.heap.size 0 c0 c1 c2 c3 c4) := by
  refine ⟨set5_block x2 c0 c1 c2 c3 c4, R.fr ((set5_fr (P := fun k => k ≠ w.heap.size) (Fr.refl _ W) (by simp) _ _ _ _ _ _).block br (block_lt R) (by omega)), ?_⟩
  have h2 : Fr (fun k => k < w.heap.size ∧ k ≠ br) w (set5 W w.heap.size 0 c0 c1 c2 c3 c4) := set5_fr (F.mono (fun _ h => h.2)) (by omega) _ _ _ _ _ _
  exact ⟨h2.os, h2.tape, h2.output, h2.size, fun i hi hp => h2.block i hi ⟨hi, hp⟩⟩

set_option maxRecDepth 100000 in
set_option maxHeartbeats 4000000 in
theorem rnumber_any (w : World) (br : Nat) (t x : ByteArray) (mi : Bool) (s : RSt) (i en : Nat) (h : RR w br t s) (hx : 1 ≤ x.size) (hx2 : x.size ≤ 4000) :
    Calls Tryz.prog 125 #[.pointer (some ⟨br, 0, none⟩), .string x, .bool mi, .int .i64 (i : Int), .int .i64 (en : Int)] w fun e w' => e = .returned (numV x.data.toList mi) ∧ RR w' br t (numS x.data.toList mi s i en) ∧ Fr (· ≠ br) w w' := by
  have hl : x.data.toList.length = x.size := by simp
  obtain ⟨Z, hZ⟩ : ∃ Z, zeroOK x.data.toList mi = Z := ⟨_, rfl⟩
  have hb0 : byteAt x.data.toList 0 = x[0] := byteAt_data x 0 (by omega)
  have HZ : Hid ((!decide ((x[0].toNat) = 48) || (decide (x.size = 1) && !mi)) = Z) := by
    show _ = _
    rw [← hZ]; unfold zeroOK; rw [hb0, hl]
  obtain ⟨A, hA⟩ : ∃ A, x.data.toList.all isDigit = A := ⟨_, rfl⟩
  have HAL : Hid (x.data.toList.all isDigit = A) := hA
  have hOK : numOK x.data.toList mi = (Z && A) := by unfold numOK; rw [hZ, hA]
  have HV : Hid (numV x.data.toList mi = if (Z && A) && !(decide (9223372036854775808 < valD 0 x.data.toList) || (decide (valD 0 x.data.toList = 9223372036854775808) && !mi)) then .agg #[.int .i64 2, .int .i64 (if mi then -(valD 0 x.data.toList : Int) else valD 0 x.data.toList), .string ⟨#[]⟩, .slice none 0 0, .slice none 0 0] else nilV5) := by
    show _ = _; unfold numV; rw [hOK]
  have HSS : Hid (numS x.data.toList mi s i en = if Z && A then (if decide (9223372036854775808 < valD 0 x.data.toList) || (decide (valD 0 x.data.toList = 9223372036854775808) && !mi) then failR s 5 i else { s with at' := en }) else failR s 1 i) := by
    show _ = _; unfold numS; rw [hOK]
  generalize numV x.data.toList mi = rv at HV ⊢
  generalize numS x.data.toList mi s i en = rs at HSS ⊢
  clear hZ hb0 hA hOK
  have HDG : Hid (∀ c W, Calls Tryz.prog 124 #[.int .u8 (UInt8.toNat c)] W _) := rdigit_any
  have hbl := block_lt h
  have x2 : Hid ((w.alloc (.cells #[.int .i64 0, .int .i64 0, .string ⟨#[]⟩, .slice none 0 0, .slice none 0 0] 30)).heap[w.heap.size]? = some (.cells #[.int .i64 0, .int .i64 0, .string ⟨#[]⟩, .slice none 0 0, .slice none 0 0] 30 (0, 0))) := heap_new rfl
  have G0 : Hid (Grew w (w.alloc (.cells #[.int .i64 0, .int .i64 0, .string ⟨#[]⟩, .slice none 0 0, .slice none 0 0] 30))) := (Grew.refl w).alloc _
  have R0 : Hid (RR (w.alloc (.cells #[.int .i64 0, .int .i64 0, .string ⟨#[]⟩, .slice none 0 0, .slice none 0 0] 30)) br t s) := h.fr (G0.out.below.block br hbl)
  clear h
  have mo := follows
  go_enter Tryz.func125, Tryz.ntmps125
  go_upto_region 1 with fail
  generalize w.alloc (.cells #[.int .i64 0, .int .i64 0, .string ⟨#[]⟩, .slice none 0 0, .slice none 0 0] 30) = W0 at x2 G0 R0 ⊢
  go_cut [11] from 16 (fun s11 wx => s11 = .bool Z ∧ W0 = wx)
  case first =>
    rcases (show ((x[0].toNat : Int) = 48 ∧ x.size = 1) ∨ ((x[0].toNat : Int) = 48 ∧ x.size ≠ 1) ∨ (x[0].toNat : Int) ≠ 48 from by omega) with ⟨c1, c2⟩ | ⟨c1, c2⟩ | c1
    · have k1 : ((x[0].toNat : Int) == 48) = true := by simp [c1]
      have k2 : ((x.size : Int) == 1) = true := by simp [c2]
      have HE : Hid ((!mi) = Z) := by show _ = _; rw [← HZ.out]; simp [c2, show x[0].toNat = 48 by omega]
      go_wp2_with fail
      all_goals go_meet
      all_goals exact ⟨by rw [← HE.out], rfl⟩
    · have k1 : ((x[0].toNat : Int) == 48) = true := by simp [c1]
      have k2 : ((x.size : Int) == 1) = false := by simp; omega
      have HE : Hid (false = Z) := by show _ = _; rw [← HZ.out]; simp [c2, show x[0].toNat = 48 by omega]
      go_wp2_with fail
      all_goals go_meet
      all_goals exact ⟨by rw [← HE.out], rfl⟩
    · have k1 : ((x[0].toNat : Int) == 48) = false := by simp [c1]
      have HE : Hid (true = Z) := by show _ = _; rw [← HZ.out]; simp [show ¬ x[0].toNat = 48 by omega]
      go_wp2_with fail
      all_goals go_meet
      all_goals exact ⟨by rw [← HE.out], rfl⟩
  case rest =>
    obtain ⟨rfl, rfl⟩ := hcut
    go_wp2_with fail
    go_loopw [11, 12] (fun o k' wr => ∃ k : Nat, k ≤ x.size ∧ o = .bool (Z && (x.data.toList.take k).all isDigit) ∧ k' = .int .i64 k ∧ Hid (wr = W0)) (fun _ k' _ => x.size - (intOf k').toNat)
    case atStart => exact ⟨0, Nat.zero_le _, by simp, rfl, rfl⟩
    case round =>
      obtain ⟨k, hk, rfl, rfl, HQ⟩ := hrel
      by_cases hlt : k < x.size
      · have hst : (x.data.toList.take (k + 1)).all isDigit = ((x.data.toList.take k).all isDigit && isDigit x[k]) := by
          rw [List.take_add_one, List.getElem?_eq_getElem (by omega)]
          simp
          rfl
        have HDK : Hid (∀ W, Calls Tryz.prog 124 #[.int .u8 (UInt8.toNat x[k])] W _) := HDG.out x[k]
        have HST : Hid ((Z && (x.data.toList.take (k + 1)).all isDigit) = ((Z && (x.data.toList.take k).all isDigit) && isDigit x[k])) := by show _ = _; rw [hst, Bool.and_assoc]
        clear hst
        generalize isDigit x[k] = dd at HDK HST
        generalize (Z && (x.data.toList.take k).all isDigit) = bb at HST ⊢
        cases bb <;> cases dd
        all_goals go_wp2_with (go_at_call 124; refine (HDK.out _).mono ?_; rintro e w' ⟨rfl, rfl⟩)
        all_goals go_roundw
        all_goals first | exact ⟨k + 1, by omega, by rw [HST.out]; rfl, by go_num, HQ⟩ | (simp [intOf]; omega)
      · have hke : k = x.size := by omega
        subst k
        have ha : (Z && (x.data.toList.take x.size).all isDigit) = (Z && A) := by rw [← hl, List.take_length, HAL.out]
        rw [ha]
        clear ha
        have HQ' := HQ.out
        subst HQ'
        clear HQ HZ HDG
        cases hZA : Z && A with
        | false =>
          rw [hZA] at HV HSS
          have HRV : Hid (rv = nilV5) := HV.out
          have HRS : Hid (rs = failR s 1 i) := HSS.out
          clear HV HSS
          have HFL : Hid (Calls Tryz.prog 29 #[.pointer (some ⟨br, 0, none⟩), .int .i64 (1 : Int), .int .i64 (i : Int)] wr _) := rfail_any wr br t s 1 i R0.out
          go_wp2_with fail
          refine HFL.out.mono ?_
          rintro e' w2 ⟨rfl, h2, f2⟩
          have y2 : Hid (w2.heap[w.heap.size]? = _) := (f2.block w.heap.size (block_lt x2.out) (by omega)).trans x2.out
          have R2 : Hid (RR w2 br t (failR s 1 i)) := h2
          have F2 : Hid (Fr (· ≠ br) w w2) := (Fr.grew G0.out).trans f2
          clear h2 f2 HFL x2 R0 G0
          have b0 := block_cell y2.out 0
          have b1 := block_cell y2.out 1
          have b2 := block_cell y2.out 2
          have b3 := block_cell y2.out 3
          have b4 := block_cell y2.out 4
          have g0 := frozen_block y2.out 0
          have g1 := frozen_block y2.out 1
          have g2 := frozen_block y2.out 2
          have g3 := frozen_block y2.out 3
          have g4 := frozen_block y2.out 4
          have z2 := block_lt y2.out
          go_wp2_with fail
          change bodyPost Tryz.prog _ _ _ _ (set5 w2 w.heap.size 0 (.int .i64 0) (.int .i64 0) (.string ⟨#[]⟩) (.slice none 0 0) (.slice none 0 0))
          obtain ⟨E, RZ, FZ⟩ := box_end y2.out R2.out hbl F2.out (.int .i64 0) (.int .i64 0) (.string ⟨#[]⟩) (.slice none 0 0) (.slice none 0 0)
          clear b0 b1 b2 b3 b4 g0 g1 g2 g3 g4
          generalize set5 w2 w.heap.size 0 (.int .i64 0) (.int .i64 0) (.string ⟨#[]⟩) (.slice none 0 0) (.slice none 0 0) = WZ at E RZ FZ ⊢
          have b0 := block_cell E 0
          have b1 := block_cell E 1
          have b2 := block_cell E 2
          have b3 := block_cell E 3
          have b4 := block_cell E 4
          rw [HRV.out, HRS.out]
          exact bodyPost_ret (v := nilV5) (by simp [results, Tryz.results125, go_sem, b0, b1, b2, b3, b4, nilV5]) rfl ⟨rfl, RZ, FZ⟩
        | true =>
          rw [hZA] at HV HSS
          have hA : A = true := by revert hZA; cases Z <;> cases A <;> simp
          have HSZ : Hid (Calls Tryz.prog 177 #[.string x] wr _) := size_any x wr (by omega) (by
            have := HAL.out
            rw [hA, List.all_eq_true] at this
            exact this)
          generalize valD 0 x.data.toList = N at HV HSS HSZ
          clear hA HAL
          rcases (show 9223372036854775808 < N ∨ (N = 9223372036854775808 ∧ mi = false) ∨ (N = 9223372036854775808 ∧ mi = true) ∨ (N < 9223372036854775808 ∧ mi = true) ∨ (N < 9223372036854775808 ∧ mi = false) from by cases mi <;> simp <;> omega) with hN | ⟨hN, rfl⟩ | ⟨hN, rfl⟩ | ⟨hN, rfl⟩ | ⟨hN, rfl⟩
          · rw [if_neg (by omega)] at HSZ
            have HRV : Hid (rv = nilV5) := by show _ = _; rw [HV.out]; simp [hN]
            have HRS : Hid (rs = failR s 5 i) := by show _ = _; rw [HSS.out]; simp [hN]
            clear HV HSS
            go_wp2_with fail
            refine HSZ.out.mono ?_
            rintro e' w' ⟨rfl, rfl⟩
            clear HSZ
            have HFL : Hid (Calls Tryz.prog 29 #[.pointer (some ⟨br, 0, none⟩), .int .i64 (5 : Int), .int .i64 (i : Int)] w' _) := rfail_any w' br t s 5 i R0.out
            go_wp2_with fail
            refine HFL.out.mono ?_
            rintro e' w2 ⟨rfl, h2, f2⟩
            have y2 : Hid (w2.heap[w.heap.size]? = _) := (f2.block w.heap.size (block_lt x2.out) (by omega)).trans x2.out
            have R2 : Hid (RR w2 br t (failR s 5 i)) := h2
            have F2 : Hid (Fr (· ≠ br) w w2) := (Fr.grew G0.out).trans f2
            clear h2 f2 HFL x2 R0 G0
            have b0 := block_cell y2.out 0
            have b1 := block_cell y2.out 1
            have b2 := block_cell y2.out 2
            have b3 := block_cell y2.out 3
            have b4 := block_cell y2.out 4
            have g0 := frozen_block y2.out 0
            have g1 := frozen_block y2.out 1
            have g2 := frozen_block y2.out 2
            have g3 := frozen_block y2.out 3
            have g4 := frozen_block y2.out 4
            have z2 := block_lt y2.out
            go_wp2_with fail
            change bodyPost Tryz.prog _ _ _ _ (set5 w2 w.heap.size 0 (.int .i64 0) (.int .i64 0) (.string ⟨#[]⟩) (.slice none 0 0) (.slice none 0 0))
            obtain ⟨E, RZ, FZ⟩ := box_end y2.out R2.out hbl F2.out (.int .i64 0) (.int .i64 0) (.string ⟨#[]⟩) (.slice none 0 0) (.slice none 0 0)
            clear b0 b1 b2 b3 b4 g0 g1 g2 g3 g4
            generalize set5 w2 w.heap.size 0 (.int .i64 0) (.int .i64 0) (.string ⟨#[]⟩) (.slice none 0 0) (.slice none 0 0) = WZ at E RZ FZ ⊢
            have b0 := block_cell E 0
            have b1 := block_cell E 1
            have b2 := block_cell E 2
            have b3 := block_cell E 3
            have b4 := block_cell E 4
            rw [HRV.out, HRS.out]
            exact bodyPost_ret (v := nilV5) (by simp [results, Tryz.results125, go_sem, b0, b1, b2, b3, b4, nilV5]) rfl ⟨rfl, RZ, FZ⟩
          · subst hN
            rw [if_pos (by omega)] at HSZ
            have HRV : Hid (rv = nilV5) := by show _ = _; rw [HV.out]; simp
            have HRS : Hid (rs = failR s 5 i) := by show _ = _; rw [HSS.out]; simp
            clear HV HSS
            go_wp2_with fail
            refine HSZ.out.mono ?_
            rintro e' w' ⟨rfl, rfl⟩
            clear HSZ
            have HFL : Hid (Calls Tryz.prog 29 #[.pointer (some ⟨br, 0, none⟩), .int .i64 (5 : Int), .int .i64 (i : Int)] w' _) := rfail_any w' br t s 5 i R0.out
            go_wp2_with fail
            refine HFL.out.mono ?_
            rintro e' w2 ⟨rfl, h2, f2⟩
            have y2 : Hid (w2.heap[w.heap.size]? = _) := (f2.block w.heap.size (block_lt x2.out) (by omega)).trans x2.out
            have R2 : Hid (RR w2 br t (failR s 5 i)) := h2
            have F2 : Hid (Fr (· ≠ br) w w2) := (Fr.grew G0.out).trans f2
            clear h2 f2 HFL x2 R0 G0
            have b0 := block_cell y2.out 0
            have b1 := block_cell y2.out 1
            have b2 := block_cell y2.out 2
            have b3 := block_cell y2.out 3
            have b4 := block_cell y2.out 4
            have g0 := frozen_block y2.out 0
            have g1 := frozen_block y2.out 1
            have g2 := frozen_block y2.out 2
            have g3 := frozen_block y2.out 3
            have g4 := frozen_block y2.out 4
            have z2 := block_lt y2.out
            go_wp2_with fail
            change bodyPost Tryz.prog _ _ _ _ (set5 w2 w.heap.size 0 (.int .i64 0) (.int .i64 0) (.string ⟨#[]⟩) (.slice none 0 0) (.slice none 0 0))
            obtain ⟨E, RZ, FZ⟩ := box_end y2.out R2.out hbl F2.out (.int .i64 0) (.int .i64 0) (.string ⟨#[]⟩) (.slice none 0 0) (.slice none 0 0)
            clear b0 b1 b2 b3 b4 g0 g1 g2 g3 g4
            generalize set5 w2 w.heap.size 0 (.int .i64 0) (.int .i64 0) (.string ⟨#[]⟩) (.slice none 0 0) (.slice none 0 0) = WZ at E RZ FZ ⊢
            have b0 := block_cell E 0
            have b1 := block_cell E 1
            have b2 := block_cell E 2
            have b3 := block_cell E 3
            have b4 := block_cell E 4
            rw [HRV.out, HRS.out]
            exact bodyPost_ret (v := nilV5) (by simp [results, Tryz.results125, go_sem, b0, b1, b2, b3, b4, nilV5]) rfl ⟨rfl, RZ, FZ⟩
          · subst hN
            have HRV : Hid (rv = .agg #[.int .i64 2, .int .i64 (-9223372036854775808), .string ⟨#[]⟩, .slice none 0 0, .slice none 0 0]) := by show _ = _; rw [HV.out]; simp
            have HRS : Hid (rs = { s with at' := en }) := by show _ = _; rw [HSS.out]; simp
            clear HV HSS
            have e3 : wrap64 (IntKind.u64.wrap (-9223372036854775808)) = -9223372036854775808 := by decide +kernel
            have HNU : Hid (∀ W, _) := fun W => rnumber_mk (-9223372036854775808) W
            rw [if_pos (by omega)] at HSZ
            go_wp2_with fail
            refine HSZ.out.mono ?_
            rintro e' w' ⟨rfl, rfl⟩
            clear HSZ
            have c1 := block_cell R0.out 1
            have f1 := frozen_block R0.out 1
            have hb2 := block_lt R0.out
            have R3 : Hid (RR (w'.setCell ⟨br, 1, none⟩ (.int .i64 (en : Int))) br t { s with at' := en }) := by
              have := set_block R0.out 1 (.int .i64 (en : Int))
              simpa [RR, Hid] using this
            have F3 : Hid (Fr (· ≠ br) w (w'.setCell ⟨br, 1, none⟩ (.int .i64 (en : Int)))) := (Fr.grew G0.out).set (by simp) _
            have y3 : Hid ((w'.setCell ⟨br, 1, none⟩ (.int .i64 (en : Int))).heap[w.heap.size]? = _) := (Below.heap_setCell _ _ _ _ (by simp; omega)).trans x2.out
            clear x2 R0 G0
            go_wp2_with fail
            generalize w'.setCell ⟨br, 1, none⟩ (.int .i64 (en : Int)) = W3 at R3 F3 y3 ⊢
            refine (HNU.out W3).mono ?_
            rintro e'' w2 ⟨rfl, hg⟩
            have y2 : Hid (w2.heap[w.heap.size]? = _) := Below.blockAt hg.below y3.out
            have R2 : Hid (RR w2 br t { s with at' := en }) := R3.out.fr (hg.below.block br (block_lt R3.out))
            have F2 : Hid (Fr (· ≠ br) w w2) := F3.out.trans (Fr.grew hg)
            clear hg R3 F3 y3 HNU c1 f1
            have b0 := block_cell y2.out 0
            have b1 := block_cell y2.out 1
            have b2 := block_cell y2.out 2
            have b3 := block_cell y2.out 3
            have b4 := block_cell y2.out 4
            have g0 := frozen_block y2.out 0
            have g1 := frozen_block y2.out 1
            have g2 := frozen_block y2.out 2
            have g3 := frozen_block y2.out 3
            have g4 := frozen_block y2.out 4
            have z2 := block_lt y2.out
            go_wp2_with fail
            change bodyPost Tryz.prog _ _ _ _ (set5 w2 w.heap.size 0 (.int .i64 2) (.int .i64 (-9223372036854775808)) (.string ⟨#[]⟩) (.slice none 0 0) (.slice none 0 0))
            obtain ⟨E, RZ, FZ⟩ := box_end y2.out R2.out hbl F2.out (.int .i64 2) (.int .i64 (-9223372036854775808)) (.string ⟨#[]⟩) (.slice none 0 0) (.slice none 0 0)
            clear b0 b1 b2 b3 b4 g0 g1 g2 g3 g4
            generalize set5 w2 w.heap.size 0 (.int .i64 2) (.int .i64 (-9223372036854775808)) (.string ⟨#[]⟩) (.slice none 0 0) (.slice none 0 0) = WZ at E RZ FZ ⊢
            have b0 := block_cell E 0
            have b1 := block_cell E 1
            have b2 := block_cell E 2
            have b3 := block_cell E 3
            have b4 := block_cell E 4
            rw [HRV.out, HRS.out]
            exact bodyPost_ret (v := .agg #[.int .i64 2, .int .i64 (-9223372036854775808), .string ⟨#[]⟩, .slice none 0 0, .slice none 0 0]) (by simp [results, Tryz.results125, go_sem, b0, b1, b2, b3, b4]) rfl ⟨rfl, RZ, FZ⟩
          · have HRV : Hid (rv = .agg #[.int .i64 2, .int .i64 (-(N : Int)), .string ⟨#[]⟩, .slice none 0 0, .slice none 0 0]) := by show _ = _; rw [HV.out]; simp; omega
            have HRS : Hid (rs = { s with at' := en }) := by show _ = _; rw [HSS.out]; simp; omega
            clear HV HSS
            have hNe : ((N : Int) == 9223372036854775808) = false := by simp; omega
            obtain ⟨M, hM⟩ : ∃ M, M = (-(N : Int)) % 18446744073709551616 := ⟨_, rfl⟩
            have e1 : IntKind.u64.wrap (-(N : Int)) = M := by rw [IntKind.wrap_u64, hM]
            have e2 : IntKind.i64.wrap M = -(N : Int) := by rw [IntKind.wrap_i64, hM]; omega
            have HNU : Hid (∀ W, _) := fun W => rnumber_mk (-(N : Int)) W
            clear hM
            rw [if_pos (by omega)] at HSZ
            go_wp2_with fail
            refine HSZ.out.mono ?_
            rintro e' w' ⟨rfl, rfl⟩
            clear HSZ
            have c1 := block_cell R0.out 1
            have f1 := frozen_block R0.out 1
            have hb2 := block_lt R0.out
            have R3 : Hid (RR (w'.setCell ⟨br, 1, none⟩ (.int .i64 (en : Int))) br t { s with at' := en }) := by
              have := set_block R0.out 1 (.int .i64 (en : Int))
              simpa [RR, Hid] using this
            have F3 : Hid (Fr (· ≠ br) w (w'.setCell ⟨br, 1, none⟩ (.int .i64 (en : Int)))) := (Fr.grew G0.out).set (by simp) _
            have y3 : Hid ((w'.setCell ⟨br, 1, none⟩ (.int .i64 (en : Int))).heap[w.heap.size]? = _) := (Below.heap_setCell _ _ _ _ (by simp; omega)).trans x2.out
            clear x2 R0 G0
            go_wp2_with fail
            generalize w'.setCell ⟨br, 1, none⟩ (.int .i64 (en : Int)) = W3 at R3 F3 y3 ⊢
            refine (HNU.out W3).mono ?_
            rintro e'' w2 ⟨rfl, hg⟩
            have y2 : Hid (w2.heap[w.heap.size]? = _) := Below.blockAt hg.below y3.out
            have R2 : Hid (RR w2 br t { s with at' := en }) := R3.out.fr (hg.below.block br (block_lt R3.out))
            have F2 : Hid (Fr (· ≠ br) w w2) := F3.out.trans (Fr.grew hg)
            clear hg R3 F3 y3 HNU c1 f1
            have b0 := block_cell y2.out 0
            have b1 := block_cell y2.out 1
            have b2 := block_cell y2.out 2
            have b3 := block_cell y2.out 3
            have b4 := block_cell y2.out 4
            have g0 := frozen_block y2.out 0
            have g1 := frozen_block y2.out 1
            have g2 := frozen_block y2.out 2
            have g3 := frozen_block y2.out 3
            have g4 := frozen_block y2.out 4
            have z2 := block_lt y2.out
            go_wp2_with fail
            change bodyPost Tryz.prog _ _ _ _ (set5 w2 w.heap.size 0 (.int .i64 2) (.int .i64 (-(N : Int))) (.string ⟨#[]⟩) (.slice none 0 0) (.slice none 0 0))
            obtain ⟨E, RZ, FZ⟩ := box_end y2.out R2.out hbl F2.out (.int .i64 2) (.int .i64 (-(N : Int))) (.string ⟨#[]⟩) (.slice none 0 0) (.slice none 0 0)
            clear b0 b1 b2 b3 b4 g0 g1 g2 g3 g4
            generalize set5 w2 w.heap.size 0 (.int .i64 2) (.int .i64 (-(N : Int))) (.string ⟨#[]⟩) (.slice none 0 0) (.slice none 0 0) = WZ at E RZ FZ ⊢
            have b0 := block_cell E 0
            have b1 := block_cell E 1
            have b2 := block_cell E 2
            have b3 := block_cell E 3
            have b4 := block_cell E 4
            rw [HRV.out, HRS.out]
            exact bodyPost_ret (v := .agg #[.int .i64 2, .int .i64 (-(N : Int)), .string ⟨#[]⟩, .slice none 0 0, .slice none 0 0]) (by simp [results, Tryz.results125, go_sem, b0, b1, b2, b3, b4]) rfl ⟨rfl, RZ, FZ⟩
          · have HRV : Hid (rv = .agg #[.int .i64 2, .int .i64 (N : Int), .string ⟨#[]⟩, .slice none 0 0, .slice none 0 0]) := by show _ = _; rw [HV.out]; simp; omega
            have HRS : Hid (rs = { s with at' := en }) := by show _ = _; rw [HSS.out]; simp; omega
            clear HV HSS
            have e2 : IntKind.i64.wrap (N : Int) = (N : Int) := by rw [IntKind.wrap_i64]; omega
            have HNU : Hid (∀ W, _) := fun W => rnumber_mk (N : Int) W
            rw [if_pos (by omega)] at HSZ
            go_wp2_with fail
            refine HSZ.out.mono ?_
            rintro e' w' ⟨rfl, rfl⟩
            clear HSZ
            have c1 := block_cell R0.out 1
            have f1 := frozen_block R0.out 1
            have hb2 := block_lt R0.out
            have R3 : Hid (RR (w'.setCell ⟨br, 1, none⟩ (.int .i64 (en : Int))) br t { s with at' := en }) := by
              have := set_block R0.out 1 (.int .i64 (en : Int))
              simpa [RR, Hid] using this
            have F3 : Hid (Fr (· ≠ br) w (w'.setCell ⟨br, 1, none⟩ (.int .i64 (en : Int)))) := (Fr.grew G0.out).set (by simp) _
            have y3 : Hid ((w'.setCell ⟨br, 1, none⟩ (.int .i64 (en : Int))).heap[w.heap.size]? = _) := (Below.heap_setCell _ _ _ _ (by simp; omega)).trans x2.out
            clear x2 R0 G0
            go_wp2_with fail
            generalize w'.setCell ⟨br, 1, none⟩ (.int .i64 (en : Int)) = W3 at R3 F3 y3 ⊢
            refine (HNU.out W3).mono ?_
            rintro e'' w2 ⟨rfl, hg⟩
            have y2 : Hid (w2.heap[w.heap.size]? = _) := Below.blockAt hg.below y3.out
            have R2 : Hid (RR w2 br t { s with at' := en }) := R3.out.fr (hg.below.block br (block_lt R3.out))
            have F2 : Hid (Fr (· ≠ br) w w2) := F3.out.trans (Fr.grew hg)
            clear hg R3 F3 y3 HNU c1 f1
            have b0 := block_cell y2.out 0
            have b1 := block_cell y2.out 1
            have b2 := block_cell y2.out 2
            have b3 := block_cell y2.out 3
            have b4 := block_cell y2.out 4
            have g0 := frozen_block y2.out 0
            have g1 := frozen_block y2.out 1
            have g2 := frozen_block y2.out 2
            have g3 := frozen_block y2.out 3
            have g4 := frozen_block y2.out 4
            have z2 := block_lt y2.out
            go_wp2_with fail
            change bodyPost Tryz.prog _ _ _ _ (set5 w2 w.heap.size 0 (.int .i64 2) (.int .i64 (N : Int)) (.string ⟨#[]⟩) (.slice none 0 0) (.slice none 0 0))
            obtain ⟨E, RZ, FZ⟩ := box_end y2.out R2.out hbl F2.out (.int .i64 2) (.int .i64 (N : Int)) (.string ⟨#[]⟩) (.slice none 0 0) (.slice none 0 0)
            clear b0 b1 b2 b3 b4 g0 g1 g2 g3 g4
            generalize set5 w2 w.heap.size 0 (.int .i64 2) (.int .i64 (N : Int)) (.string ⟨#[]⟩) (.slice none 0 0) (.slice none 0 0) = WZ at E RZ FZ ⊢
            have b0 := block_cell E 0
            have b1 := block_cell E 1
            have b2 := block_cell E 2
            have b3 := block_cell E 3
            have b4 := block_cell E 4
            rw [HRV.out, HRS.out]
            exact bodyPost_ret (v := .agg #[.int .i64 2, .int .i64 (N : Int), .string ⟨#[]⟩, .slice none 0 0, .slice none 0 0]) (by simp [results, Tryz.results125, go_sem, b0, b1, b2, b3, b4]) rfl ⟨rfl, RZ, FZ⟩
end Go.Proofs.YtbogejmmkohbkaaGreatDoor.Sx
