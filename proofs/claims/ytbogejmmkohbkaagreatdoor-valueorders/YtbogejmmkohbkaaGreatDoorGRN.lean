/- The reference: its reader: what it holds, blanks, faults, signs. -/
import Derived.Test.YtbogejmmkohbkaaGreatDoorGRA
import Derived.Test.YtbogejmmkohbkaaGreatDoorGT1
import Derived.Test.YtbogejmmkohbkaaGreatDoorGRE
namespace Go.Proofs.YtbogejmmkohbkaaGreatDoor.Sx
open Go.RowKit Go.Sort

structure RSt where
  at' : Nat
  deep : Nat
  e : Nat
  bad : Nat
  hv : Bool
def RR (w : World) (br : Nat) (t : ByteArray) (s : RSt) : Prop :=
  w.heap[br]? = some (.cells #[.string t, .int .i64 (s.at' : Int), .int .i64 (s.deep : Int), .int .i64 (s.e : Int), .int .i64 (s.bad : Int), .bool s.hv] 69 (0, 0))
theorem RR.fr {w w' : World} {br : Nat} {t : ByteArray} {s : RSt} (h : RR w br t s) (hb : w'.heap[br]? = w.heap[br]?) : RR w' br t s := hb.trans h
def failR (s : RSt) (c q : Nat) : RSt := if s.e = 0 then { s with e := c, bad := q } else s

set_option maxRecDepth 100000 in
set_option maxHeartbeats 1000000 in
theorem rfail_any (w : World) (br : Nat) (t : ByteArray) (s : RSt) (c q : Nat) (h : RR w br t s) :
    Calls Tryz.prog 29 #[.pointer (some ⟨br, 0, none⟩), .int .i64 (c : Int), .int .i64 (q : Int)] w fun e w' => e = .returned (.tuple #[]) ∧ RR w' br t (failR s c q) ∧ Fr (· ≠ br) w w' := by
  obtain ⟨at', deep, e, bad, hv⟩ := s
  have c3 := block_cell h 3
  have c4 := block_cell h 4
  have f3 := frozen_block h 3
  have f4 := frozen_block h 4
  have hl := block_lt h
  have H : Hid (RR w br t ⟨at', deep, e, bad, hv⟩) := h
  clear h
  by_cases he : e = 0
  · subst he
    have HF : Hid (failR ⟨at', deep, 0, bad, hv⟩ c q = ⟨at', deep, c, q, hv⟩) := rfl
    rw [HF.out]
    go_enter Tryz.func29, Tryz.ntmps29
    go_wp2_with fail
    go_end0
    exact ⟨rfl, set_block (set_block H.out 3 _) 4 _, ((Fr.refl _ w).set (by simp) _).set (by simp) _⟩
  · have hb : ((e : Int) == 0) = false := by simp; omega
    have HF : Hid (failR ⟨at', deep, e, bad, hv⟩ c q = ⟨at', deep, e, bad, hv⟩) := by show _ = _; simp [failR, he]
    rw [HF.out]
    go_enter Tryz.func29, Tryz.ntmps29
    go_wp2_with fail
    go_end0
    exact ⟨rfl, H.out, Fr.refl _ w⟩

set_option maxRecDepth 100000 in
set_option maxHeartbeats 2000000 in
theorem rskip_any (w : World) (br : Nat) (t : ByteArray) (s : RSt) (h : RR w br t s) (ha : s.at' ≤ t.size) (ht : t.size ≤ 4000) :
    Calls Tryz.prog 28 #[.pointer (some ⟨br, 0, none⟩)] w fun e w' => e = .returned (.tuple #[]) ∧ RR w' br t { s with at' := s.at' + blankLen (t.data.toList.drop s.at') } ∧ Fr (· ≠ br) w w' := by
  have hl : t.data.toList.length = t.size := by simp
  obtain ⟨a0, deep, e, bad, hv⟩ := s
  have H : Hid (RR w br t ⟨a0, deep, e, bad, hv⟩) := h
  clear h
  have hM := blankLen_le (t.data.toList.drop a0)
  rw [List.length_drop, hl] at hM
  obtain ⟨M, hMd⟩ : ∃ M, a0 + blankLen (t.data.toList.drop a0) = M := ⟨_, rfl⟩
  have HM : Hid (a0 + blankLen (t.data.toList.drop a0) = M) := hMd
  show Calls Tryz.prog 28 #[.pointer (some ⟨br, 0, none⟩)] w fun e' w' => e' = .returned (.tuple #[]) ∧ RR w' br t ⟨a0 + blankLen (t.data.toList.drop a0), deep, e, bad, hv⟩ ∧ Fr (· ≠ br) w w'
  rw [hMd]
  have hMs : M ≤ t.size := by have : a0 ≤ t.size := ha; omega
  have haM : a0 ≤ M := by omega
  clear hMd hM
  have mo := follows
  go_enter Tryz.func28, Tryz.ntmps28
  go_wp2_with fail
  go_loopg [] (t.size) (fun kx wr => ∃ p : Nat, a0 ≤ p ∧ p ≤ M ∧ t.size - p ≤ kx ∧ Hid (RR wr br t ⟨p, deep, e, bad, hv⟩) ∧ Hid (Fr (· ≠ br) w wr))
  case atStart => exact ⟨a0, Nat.le_refl _, haM, by omega, H, Fr.refl _ w⟩
  case round =>
    obtain ⟨p, hp1, hp2, hkx, HR, HF⟩ := hrel
    have hbl := block_lt HR.out
    have g0 := block_cell HR.out 0
    have g1 := block_cell HR.out 1
    by_cases hlt : p < t.size
    · have hst := takeWhile_step isBlank (t.data.toList.drop a0) (p - a0) t[p] (by have := HM.out; unfold blankLen at this; omega) (by
        rw [List.getElem?_drop, show a0 + (p - a0) = p from by omega, List.getElem?_eq_getElem (by omega)]; rfl)
      have hb : isBlank t[p] = (decide ((t[p].toNat : Int) = 32) || decide ((t[p].toNat : Int) = 9) || decide ((t[p].toNat : Int) = 10)) := by
        unfold isBlank; congr 1; · congr 1; · exact byte_eq _ 32 (by decide)
                                   · exact byte_eq _ 9 (by decide)
        · exact byte_eq _ 10 (by decide)
      have hst' : (isBlank t[p] = true → p + 1 ≤ M) ∧ (isBlank t[p] = false → M = p) := by
        have := HM.out
        unfold blankLen at this
        exact ⟨fun q => by have := hst.1 q; omega, fun q => by have := hst.2 q; omega⟩
      clear hst
      rw [hb] at hst'
      rcases (show (t[p].toNat : Int) = 32 ∨ ((t[p].toNat : Int) ≠ 32 ∧ (t[p].toNat : Int) = 9) ∨ ((t[p].toNat : Int) ≠ 32 ∧ (t[p].toNat : Int) ≠ 9 ∧ (t[p].toNat : Int) = 10) ∨ ((t[p].toNat : Int) ≠ 32 ∧ (t[p].toNat : Int) ≠ 9 ∧ (t[p].toNat : Int) ≠ 10) from by omega) with q1 | ⟨q1, q2⟩ | ⟨q1, q2, q3⟩ | ⟨q1, q2, q3⟩
      · have k1 : ((t[p].toNat : Int) == 32) = true := by simp [q1]
        have hle := hst'.1 (by simp [*])
        clear hst'
        go_wp2_with fail
        go_quiet (fail)
        have RN : Hid (RR (wr.drewN nq) br t ⟨p, deep, e, bad, hv⟩) := HR.out
        have FN : Hid (Fr (· ≠ br) w (wr.drewN nq)) := HF.out.trans (Fr.grew ((Grew.refl wr).drewN nq))
        clear g0 g1 HR HF
        generalize wr.drewN nq = W1 at RN FN ⊢
        have c1 := block_cell RN.out 1
        have f1 := frozen_block RN.out 1
        have hb1 := block_lt RN.out
        go_wp2_with fail
        go_roundg (t.size - (p + 1))
        case measure => omega
        case rel => exact ⟨p + 1, by omega, hle, Nat.le_refl _, by have := set_block RN.out 1 (.int .i64 ((p : Int) + 1)); simpa [RR, Hid] using this, FN.out.set (by simp) _⟩
      · have k1 : ((t[p].toNat : Int) == 32) = false := by simp [q1]
        have k2 : ((t[p].toNat : Int) == 9) = true := by simp [q2]
        have hle := hst'.1 (by simp [*])
        clear hst'
        go_wp2_with fail
        go_quiet (fail)
        have RN : Hid (RR (wr.drewN nq) br t ⟨p, deep, e, bad, hv⟩) := HR.out
        have FN : Hid (Fr (· ≠ br) w (wr.drewN nq)) := HF.out.trans (Fr.grew ((Grew.refl wr).drewN nq))
        clear g0 g1 HR HF
        generalize wr.drewN nq = W1 at RN FN ⊢
        have c1 := block_cell RN.out 1
        have f1 := frozen_block RN.out 1
        have hb1 := block_lt RN.out
        go_wp2_with fail
        go_roundg (t.size - (p + 1))
        case measure => omega
        case rel => exact ⟨p + 1, by omega, hle, Nat.le_refl _, by have := set_block RN.out 1 (.int .i64 ((p : Int) + 1)); simpa [RR, Hid] using this, FN.out.set (by simp) _⟩
      · have k1 : ((t[p].toNat : Int) == 32) = false := by simp [q1]
        have k2 : ((t[p].toNat : Int) == 9) = false := by simp [q2]
        have k3 : ((t[p].toNat : Int) == 10) = true := by simp [q3]
        have hle := hst'.1 (by simp [*])
        clear hst'
        go_wp2_with fail
        go_quiet (fail)
        have RN : Hid (RR (wr.drewN nq) br t ⟨p, deep, e, bad, hv⟩) := HR.out
        have FN : Hid (Fr (· ≠ br) w (wr.drewN nq)) := HF.out.trans (Fr.grew ((Grew.refl wr).drewN nq))
        clear g0 g1 HR HF
        generalize wr.drewN nq = W1 at RN FN ⊢
        have c1 := block_cell RN.out 1
        have f1 := frozen_block RN.out 1
        have hb1 := block_lt RN.out
        go_wp2_with fail
        go_roundg (t.size - (p + 1))
        case measure => omega
        case rel => exact ⟨p + 1, by omega, hle, Nat.le_refl _, by have := set_block RN.out 1 (.int .i64 ((p : Int) + 1)); simpa [RR, Hid] using this, FN.out.set (by simp) _⟩
      · have k1 : ((t[p].toNat : Int) == 32) = false := by simp [q1]
        have k2 : ((t[p].toNat : Int) == 9) = false := by simp [q2]
        have k3 : ((t[p].toNat : Int) == 10) = false := by simp [q3]
        have HE : Hid (M = p) := hst'.2 (by simp [*])
        clear hst'
        go_wp2_with fail
        go_quiet (fail)
        have RN : Hid (RR (wr.drewN nq) br t ⟨p, deep, e, bad, hv⟩) := HR.out
        have FN : Hid (Fr (· ≠ br) w (wr.drewN nq)) := HF.out.trans (Fr.grew ((Grew.refl wr).drewN nq))
        clear g0 g1 HR HF
        generalize wr.drewN nq = W1 at RN FN ⊢
        go_wp2_with fail
        go_end0
        exact ⟨rfl, by rw [HE.out]; exact RN.out, FN.out⟩
    · have HE : Hid (M = p) := by show _ = _; omega
      go_wp2_with fail
      go_quiet (fail)
      have RN : Hid (RR (wr.drewN nq) br t ⟨p, deep, e, bad, hv⟩) := HR.out
      have FN : Hid (Fr (· ≠ br) w (wr.drewN nq)) := HF.out.trans (Fr.grew ((Grew.refl wr).drewN nq))
      clear g0 g1 HR HF
      generalize wr.drewN nq = W1 at RN FN ⊢
      go_wp2_with fail
      go_end0
      exact ⟨rfl, by rw [HE.out]; exact RN.out, FN.out⟩
end Go.Proofs.YtbogejmmkohbkaaGreatDoor.Sx

namespace Go.Proofs.YtbogejmmkohbkaaGreatDoor.Sx
open Go.RowKit Go.Sort

def skipN (T : List UInt8) (p : Nat) : Nat := p + blankLen (T.drop p)
theorem skipN_le {T : List UInt8} {p : Nat} (h : p ≤ T.length) : p ≤ skipN T p ∧ skipN T p ≤ T.length := by
  have := blankLen_le (T.drop p)
  rw [List.length_drop] at this
  unfold skipN; omega
/-- does the sign stand here? -/
def signB (T : List UInt8) (m : List UInt8) (s : RSt) : Bool := decide (s.e = 0) && Lib.hasPrefix (T.drop (skipN T s.at')) m
def signS (T : List UInt8) (m : List UInt8) (s : RSt) : RSt := { s with at' := if signB T m s then skipN T s.at' + m.length else skipN T s.at' }

set_option maxRecDepth 100000 in
set_option maxHeartbeats 2000000 in
theorem rsign_any (w : World) (br : Nat) (t m : ByteArray) (s : RSt) (h : RR w br t s) (ha : s.at' ≤ t.size) (ht : t.size ≤ 4000) (hm : m.size ≤ 100) :
    Calls Tryz.prog 64 #[.pointer (some ⟨br, 0, none⟩), .string m] w fun e w' => e = .returned (.bool (signB t.data.toList m.data.toList s)) ∧ RR w' br t (signS t.data.toList m.data.toList s) ∧ Fr (· ≠ br) w w' := by
  have hl : t.data.toList.length = t.size := by simp
  have hlm : m.data.toList.length = m.size := by simp
  have HSK : Hid (Calls Tryz.prog 28 #[.pointer (some ⟨br, 0, none⟩)] w _) := rskip_any w br t s h ha ht
  obtain ⟨a0, deep, e, bad, hv⟩ := s
  have hq := skipN_le (T := t.data.toList) (p := a0) (by rw [hl]; exact ha)
  have HP : Hid (signB t.data.toList m.data.toList ⟨a0, deep, e, bad, hv⟩ = (decide (e = 0) && Lib.hasPrefix (t.data.toList.drop (skipN t.data.toList a0)) m.data.toList)) := rfl
  have HQ : Hid (signS t.data.toList m.data.toList ⟨a0, deep, e, bad, hv⟩ = ⟨if signB t.data.toList m.data.toList ⟨a0, deep, e, bad, hv⟩ then skipN t.data.toList a0 + m.size else skipN t.data.toList a0, deep, e, bad, hv⟩) := by
    show _ = _
    unfold signS
    rw [hlm]
  rw [HQ.out]
  generalize signB t.data.toList m.data.toList ⟨a0, deep, e, bad, hv⟩ = b at HP ⊢
  obtain ⟨q, hqd⟩ : ∃ q, skipN t.data.toList a0 = q := ⟨_, rfl⟩
  have HSK : Hid (Calls Tryz.prog 28 #[.pointer (some ⟨br, 0, none⟩)] w fun e' w' => e' = .returned (.tuple #[]) ∧ RR w' br t ⟨q, deep, e, bad, hv⟩ ∧ Fr (· ≠ br) w w') := by
    rw [← hqd]; exact HSK.out
  rw [hqd] at hq HP ⊢
  obtain ⟨r, hr⟩ : ∃ r : RSt, (⟨if b then q + m.size else q, deep, e, bad, hv⟩ : RSt) = r := ⟨_, rfl⟩
  rw [hr]
  have HR : Hid (_ = r) := hr
  clear hr hqd HQ h
  have hqs : q ≤ t.size := by omega
  clear hq
  go_enter Tryz.func64, Tryz.ntmps64
  go_wp2_with fail
  refine HSK.out.mono ?_
  rintro e' w1 ⟨rfl, h1, f1⟩
  have R1 : Hid (RR w1 br t ⟨q, deep, e, bad, hv⟩) := h1
  have F1 : Hid (Fr (· ≠ br) w w1) := f1
  clear h1 f1 HSK
  have c0 := block_cell R1.out 0
  have c1 := block_cell R1.out 1
  have c3 := block_cell R1.out 3
  have hbl := block_lt R1.out
  by_cases he : e = 0
  · subst he
    have hw0 : IntKind.i64.wrap ((t.size : Int) - (q : Int)) = (t.size : Int) - (q : Int) := by rw [IntKind.wrap_i64]; omega
    by_cases hlen : (t.size : Int) - (q : Int) < (m.size : Int)
    · have HB : Hid (b = false) := by
        show _ = _
        rw [HP.out]
        cases hp : Lib.hasPrefix (t.data.toList.drop q) m.data.toList with
        | false => rfl
        | true =>
          have := List.IsPrefix.length_le (List.isPrefixOf_iff_prefix.1 hp)
          rw [List.length_drop] at this
          omega
      go_wp2_with fail
      go_quiet (fail)
      have R2 : Hid (RR (w1.drewN nq) br t ⟨q, deep, 0, bad, hv⟩) := R1.out
      have F2 : Hid (Fr (· ≠ br) w (w1.drewN nq)) := F1.out.trans (Fr.grew ((Grew.refl w1).drewN nq))
      clear c0 c1 c3 R1 F1
      generalize w1.drewN nq = W2 at R2 F2 ⊢
      go_wp2_with fail
      go_ret
      exact ⟨by rw [HB.out]; rfl, by rw [← HR.out, HB.out]; exact R2.out, F2.out⟩
    · have hqm : q + m.size ≤ t.size := by omega
      obtain ⟨z, hz⟩ : ∃ z, z = q + m.size := ⟨_, rfl⟩
      have hw1 : (q : Int) + (m.size : Int) = (z : Int) := by omega
      have hw2 : IntKind.i64.wrap (z : Int) = (z : Int) := by rw [IntKind.wrap_i64]; omega
      have hqz : (q : Int) ≤ (z : Int) := by omega
      have hzt : (z : Int) ≤ (t.size : Int) := by omega
      have HZ : Hid (z = q + m.size) := hz
      rw [← hz] at HR
      clear hz
      cases hbb : (t.extract q z).toList == m.toList with
      | true =>
        have HB : Hid (b = true) := by
          show _ = _
          rw [HP.out]
          have := eq_of_beq hbb
          rw [HZ.out, ByteArray.toList_eq, ByteArray.toList_eq, extract_list, List.drop_take, show q + m.size - q = m.size from by omega] at this
          have hp : Lib.hasPrefix (t.data.toList.drop q) m.data.toList = true := List.isPrefixOf_iff_prefix.2 (by rw [← this]; exact List.take_prefix _ _)
          rw [hp]; rfl
        go_wp2_with fail
        go_quiet (fail)
        have R2 : Hid (RR (w1.drewN nq) br t ⟨q, deep, 0, bad, hv⟩) := R1.out
        have F2 : Hid (Fr (· ≠ br) w (w1.drewN nq)) := F1.out.trans (Fr.grew ((Grew.refl w1).drewN nq))
        clear c0 c1 c3 R1 F1
        generalize w1.drewN nq = W2 at R2 F2 ⊢
        have c1 := block_cell R2.out 1
        have f1 := frozen_block R2.out 1
        have hbl2 := block_lt R2.out
        go_wp2_with fail
        go_ret
        refine ⟨by rw [HB.out]; rfl, ?_, F2.out.set (by simp) _⟩
        rw [← HR.out, HB.out]
        have := set_block R2.out 1 (.int .i64 (z : Int))
        simpa [RR] using this
      | false =>
        have HB : Hid (b = false) := by
          show _ = _
          rw [HP.out]
          cases hp : Lib.hasPrefix (t.data.toList.drop q) m.data.toList with
          | false => rfl
          | true =>
            obtain ⟨r', hr'⟩ := List.isPrefixOf_iff_prefix.1 hp
            have : (t.extract q z).toList = m.toList := by
              rw [HZ.out, ByteArray.toList_eq, ByteArray.toList_eq, extract_list, List.drop_take, show q + m.size - q = m.size from by omega, ← hr', ← hlm, List.take_left']
              rfl
            rw [this] at hbb; simp at hbb
        go_wp2_with fail
        go_quiet (fail)
        have R2 : Hid (RR (w1.drewN nq) br t ⟨q, deep, 0, bad, hv⟩) := R1.out
        have F2 : Hid (Fr (· ≠ br) w (w1.drewN nq)) := F1.out.trans (Fr.grew ((Grew.refl w1).drewN nq))
        clear c0 c1 c3 R1 F1
        generalize w1.drewN nq = W2 at R2 F2 ⊢
        go_wp2_with fail
        go_ret
        exact ⟨by rw [HB.out]; rfl, by rw [← HR.out, HB.out]; exact R2.out, F2.out⟩
  · have hb : ((e : Int) == 0) = false := by simp; omega
    have hb2 : ((e : Int) != 0) = true := by simp; omega
    have hb3 : ¬ (e : Int) = 0 := by omega
    have HB : Hid (b = false) := by show _ = _; rw [HP.out]; simp [he]
    clear HP hlm hl ht hm hqs
    go_wp2_with fail
    go_quiet (fail)
    have R2 : Hid (RR (w1.drewN nq) br t ⟨q, deep, e, bad, hv⟩) := R1.out
    have F2 : Hid (Fr (· ≠ br) w (w1.drewN nq)) := F1.out.trans (Fr.grew ((Grew.refl w1).drewN nq))
    clear c0 c1 c3 R1 F1
    generalize w1.drewN nq = W2 at R2 F2 ⊢
    go_wp2_with fail
    go_ret
    exact ⟨by rw [HB.out]; rfl, by rw [← HR.out, HB.out]; exact R2.out, F2.out⟩
end Go.Proofs.YtbogejmmkohbkaaGreatDoor.Sx

namespace Go.Proofs.YtbogejmmkohbkaaGreatDoor.Sx
open Go.RowKit Go.Sort

def wantS (T : List UInt8) (m : List UInt8) (s : RSt) : RSt := if signB T m s then signS T m s else failR (signS T m s) 1 (signS T m s).at'

set_option maxRecDepth 100000 in
set_option maxHeartbeats 1000000 in
theorem rwant_any (w : World) (br : Nat) (t m : ByteArray) (s : RSt) (h : RR w br t s) (ha : s.at' ≤ t.size) (ht : t.size ≤ 4000) (hm : m.size ≤ 100) :
    Calls Tryz.prog 123 #[.pointer (some ⟨br, 0, none⟩), .string m] w fun e w' => e = .returned (.tuple #[]) ∧ RR w' br t (wantS t.data.toList m.data.toList s) ∧ Fr (· ≠ br) w w' := by
  have HS : Hid (Calls Tryz.prog 64 #[.pointer (some ⟨br, 0, none⟩), .string m] w _) := rsign_any w br t m s h ha ht hm
  have HW : Hid (wantS t.data.toList m.data.toList s = if signB t.data.toList m.data.toList s then signS t.data.toList m.data.toList s else failR (signS t.data.toList m.data.toList s) 1 (signS t.data.toList m.data.toList s).at') := rfl
  generalize wantS t.data.toList m.data.toList s = r at HW ⊢
  generalize signB t.data.toList m.data.toList s = b at HS HW
  generalize signS t.data.toList m.data.toList s = s1 at HS HW
  clear h ha
  go_enter Tryz.func123, Tryz.ntmps123
  go_wp2_with fail
  refine HS.out.mono ?_
  rintro e w1 ⟨rfl, h1, f1⟩
  have R1 : Hid (RR w1 br t s1) := h1
  have F1 : Hid (Fr (· ≠ br) w w1) := f1
  have HFL : Hid (Calls Tryz.prog 29 #[.pointer (some ⟨br, 0, none⟩), .int .i64 (1 : Int), .int .i64 (s1.at' : Int)] w1 _) := rfail_any w1 br t s1 1 s1.at' h1
  have c1 := block_cell h1 1
  have hbl := block_lt h1
  clear h1 f1 HS
  cases b with
  | true =>
    have HE : Hid (r = s1) := HW.out
    clear HFL
    go_wp2_with fail
    go_end0
    exact ⟨rfl, by rw [HE.out]; exact R1.out, F1.out⟩
  | false =>
    have HE : Hid (r = failR s1 1 s1.at') := HW.out
    go_wp2_with fail
    refine HFL.out.mono ?_
    rintro e w2 ⟨rfl, h2, f2⟩
    have R2 : Hid (RR w2 br t (failR s1 1 s1.at')) := h2
    have F2 : Hid (Fr (· ≠ br) w w2) := F1.out.trans f2
    clear h2 f2 R1 F1 c1 HFL
    go_wp2_with fail
    go_end0
    exact ⟨rfl, by rw [HE.out]; exact R2.out, F2.out⟩

set_option maxRecDepth 100000 in
set_option maxHeartbeats 2000000 in
theorem rlightR_any (w : World) (br : Nat) (t : ByteArray) (s : RSt) (k : Nat) (i0 : Int) (s1 : ByteArray) (K U : Value) (oK : K.oneCell' = true) (oU : U.oneCell' = true) (h : RR w br t s) :
    Calls Tryz.prog 66 #[.pointer (some ⟨br, 0, none⟩), .agg #[.int .i64 k, .int .i64 i0, .string s1, K, U]] w fun e w' => e = .returned (.agg #[.int .i64 k, .int .i64 i0, .string s1, K, U]) ∧ RR w' br t { s with hv := s.hv || decide (k = 0) } ∧ Fr (· ≠ br) w w' := by
  obtain ⟨a0, deep, e, bad, hv⟩ := s
  have hbl := block_lt h
  have x1 : Hid (((w.alloc (.cells #[.int .i64 k, .int .i64 i0, .string s1, K, U] 30)).alloc (.cells #[.int .i64 0, .int .i64 0, .string ⟨#[]⟩, .slice none 0 0, .slice none 0 0] 30)).heap[w.heap.size]? = some (.cells #[.int .i64 k, .int .i64 i0, .string s1, K, U] 30 (0, 0))) :=
    Below.blockAt ((Grew.refl _).alloc _).below (heap_new rfl)
  have x2 : Hid (((w.alloc (.cells #[.int .i64 k, .int .i64 i0, .string s1, K, U] 30)).alloc (.cells #[.int .i64 0, .int .i64 0, .string ⟨#[]⟩, .slice none 0 0, .slice none 0 0] 30)).heap[w.heap.size + 1]? = some (.cells #[.int .i64 0, .int .i64 0, .string ⟨#[]⟩, .slice none 0 0, .slice none 0 0] 30 (0, 0))) :=
    heap_new (by simp)
  have G0 : Hid (Grew w ((w.alloc (.cells #[.int .i64 k, .int .i64 i0, .string s1, K, U] 30)).alloc (.cells #[.int .i64 0, .int .i64 0, .string ⟨#[]⟩, .slice none 0 0, .slice none 0 0] 30))) := ((Grew.refl w).alloc _).alloc _
  have H : Hid (RR w br t ⟨a0, deep, e, bad, hv⟩) := h
  clear h
  have sK := store_one oK
  have sU := store_one oU
  go_enter Tryz.func66, Tryz.ntmps66
  have R0 : Hid (RR ((w.alloc (.cells #[.int .i64 k, .int .i64 i0, .string s1, K, U] 30)).alloc (.cells #[.int .i64 0, .int .i64 0, .string ⟨#[]⟩, .slice none 0 0, .slice none 0 0] 30)) br t ⟨a0, deep, e, bad, hv⟩) := H.out.fr (G0.out.below.block br hbl)
  go_upto_region 1 with (fail)
  generalize (w.alloc (.cells #[.int .i64 k, .int .i64 i0, .string s1, K, U] 30)).alloc (.cells #[.int .i64 0, .int .i64 0, .string ⟨#[]⟩, .slice none 0 0, .slice none 0 0] 30) = W0 at G0 x1 x2 R0 ⊢
  have a0' := block_cell x1.out 0
  have a1' := block_cell x1.out 1
  have a2' := block_cell x1.out 2
  have a3' := block_cell x1.out 3
  have a4' := block_cell x1.out 4
  have b0 := block_cell x2.out 0
  have b1 := block_cell x2.out 1
  have b2 := block_cell x2.out 2
  have b3 := block_cell x2.out 3
  have b4 := block_cell x2.out 4
  have g0 := frozen_block x2.out 0
  have g1 := frozen_block x2.out 1
  have g2 := frozen_block x2.out 2
  have g3 := frozen_block x2.out 3
  have g4 := frozen_block x2.out 4
  have d5 := block_cell R0.out 5
  have e5 := frozen_block R0.out 5
  have hbl2 := block_lt R0.out
  have z1 := block_lt x1.out
  have z2 := block_lt x2.out
  have n1 : br ≠ w.heap.size := by omega
  have n2 : br ≠ w.heap.size + 1 := by omega
  by_cases hk : k = 0
  · subst hk
    have y2 : (W0.setCell ⟨br, 5, none⟩ (.bool true)).heap[w.heap.size + 1]? = some (.cells #[.int .i64 0, .int .i64 0, .string ⟨#[]⟩, .slice none 0 0, .slice none 0 0] 30 (0, 0)) := (Below.heap_setCell _ _ _ _ (by simp; omega)).trans x2.out
    have RB : RR (W0.setCell ⟨br, 5, none⟩ (.bool true)) br t ⟨a0, deep, e, bad, true⟩ := by
      have := set_block R0.out 5 (.bool true)
      simpa [RR] using this
    have hbl3 := block_lt RB
    have Y2 : Hid _ := y2
    have RB2 : Hid _ := RB
    clear y2 RB
    go_wp2_with fail
    have y2 := Y2.out
    have RB := RB2.out
    change bodyPost Tryz.prog _ _ _ _ (set5 (W0.setCell ⟨br, 5, none⟩ (.bool true)) (w.heap.size + 1) 0 (.int .i64 0) (.int .i64 i0) (.string s1) K U)
    have E := set5_block y2 (.int .i64 0) (.int .i64 i0) (.string s1) K U
    have R9 : Fr (· ≠ w.heap.size + 1) (W0.setCell ⟨br, 5, none⟩ (.bool true)) (set5 (W0.setCell ⟨br, 5, none⟩ (.bool true)) (w.heap.size + 1) 0 (.int .i64 0) (.int .i64 i0) (.string s1) K U) := set5_fr (Fr.refl _ _) (by simp) _ _ _ _ _ _
    have F9 : Fr (fun k => k < w.heap.size ∧ k ≠ br) w (set5 (W0.setCell ⟨br, 5, none⟩ (.bool true)) (w.heap.size + 1) 0 (.int .i64 0) (.int .i64 i0) (.string s1) K U) := set5_fr (((Fr.grew G0.out).set (by simp) _)) (by omega) _ _ _ _ _ _
    have RZ : RR (set5 (W0.setCell ⟨br, 5, none⟩ (.bool true)) (w.heap.size + 1) 0 (.int .i64 0) (.int .i64 i0) (.string s1) K U) br t ⟨a0, deep, e, bad, true⟩ := (R9.block br hbl3 (by omega)).trans RB
    clear b0 b1 b2 b3 b4 g0 g1 g2 g3 g4 a0' a1' a2' a3' a4' d5 e5
    generalize set5 (W0.setCell ⟨br, 5, none⟩ (.bool true)) (w.heap.size + 1) 0 (.int .i64 0) (.int .i64 i0) (.string s1) K U = WZ at E F9 RZ R9 ⊢
    have b0 := block_cell E 0
    have b1 := block_cell E 1
    have b2 := block_cell E 2
    have b3 := block_cell E 3
    have b4 := block_cell E 4
    refine bodyPost_ret (v := .agg #[.int .i64 0, .int .i64 i0, .string s1, K, U]) (by simp [results, Tryz.results66, go_sem, b0, b1, b2, b3, b4]) rfl ⟨rfl, ?_, ⟨F9.os, F9.tape, F9.output, F9.size, fun i hi hp => F9.block i hi ⟨hi, hp⟩⟩⟩
    simpa [RR] using RZ
  · have hk2 : ((k : Int) == 0) = false := by simp; omega
    go_wp2_with fail
    change bodyPost Tryz.prog _ _ _ _ (set5 W0 (w.heap.size + 1) 0 (.int .i64 k) (.int .i64 i0) (.string s1) K U)
    have E := set5_block x2.out (.int .i64 k) (.int .i64 i0) (.string s1) K U
    have R9 : Fr (· ≠ w.heap.size + 1) W0 (set5 W0 (w.heap.size + 1) 0 (.int .i64 k) (.int .i64 i0) (.string s1) K U) := set5_fr (Fr.refl _ _) (by simp) _ _ _ _ _ _
    have F9 : Fr (fun k => k < w.heap.size ∧ k ≠ br) w (set5 W0 (w.heap.size + 1) 0 (.int .i64 k) (.int .i64 i0) (.string s1) K U) := set5_fr ((Fr.grew G0.out)) (by omega) _ _ _ _ _ _
    have RZ : RR (set5 W0 (w.heap.size + 1) 0 (.int .i64 k) (.int .i64 i0) (.string s1) K U) br t ⟨a0, deep, e, bad, hv⟩ := R0.out.fr (R9.block br hbl2 (by omega))
    clear b0 b1 b2 b3 b4 g0 g1 g2 g3 g4 a0' a1' a2' a3' a4' d5 e5
    generalize set5 W0 (w.heap.size + 1) 0 (.int .i64 k) (.int .i64 i0) (.string s1) K U = WZ at E F9 RZ R9 ⊢
    have b0 := block_cell E 0
    have b1 := block_cell E 1
    have b2 := block_cell E 2
    have b3 := block_cell E 3
    have b4 := block_cell E 4
    refine bodyPost_ret (v := .agg #[.int .i64 k, .int .i64 i0, .string s1, K, U]) (by simp [results, Tryz.results66, go_sem, b0, b1, b2, b3, b4]) rfl ⟨rfl, ?_, ⟨F9.os, F9.tape, F9.output, F9.size, fun i hi hp => F9.block i hi ⟨hi, hp⟩⟩⟩
    exact RZ
end Go.Proofs.YtbogejmmkohbkaaGreatDoor.Sx
