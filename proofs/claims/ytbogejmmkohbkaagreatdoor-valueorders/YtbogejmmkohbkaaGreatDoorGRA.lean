/- The reference: bytes, words, quotations. -/
import Derived.Test.YtbogejmmkohbkaaGreatDoorGA4
import Derived.Test.YtbogejmmkohbkaaGreatDoorGA8
namespace Go.Proofs.YtbogejmmkohbkaaGreatDoor.Sx
open Go.RowKit Go.Sort

set_option maxRecDepth 100000 in
theorem rletter_int (x : Int) (w : World) : Calls Tryz.prog 126 #[.int .u8 x] w fun e w' => e = .returned (.bool (decide (97 ≤ x ∧ x ≤ 122) || decide (65 ≤ x ∧ x ≤ 90))) ∧ w' = w := by
  have fin : ∀ b, (decide (97 ≤ x ∧ x ≤ 122) || decide (65 ≤ x ∧ x ≤ 90)) = b → (decide (97 ≤ x ∧ x ≤ 122) || decide (65 ≤ x ∧ x ≤ 90)) = b := fun _ h => h
  rcases (show x < 65 ∨ (65 ≤ x ∧ x ≤ 90) ∨ (90 < x ∧ x < 97) ∨ (97 ≤ x ∧ x ≤ 122) ∨ 122 < x from by omega) with h | h | h | h | h
  · rw [fin false (by simp; omega)]
    clear fin
    have h1 : ¬ 97 ≤ x := by omega
    have h2 : ¬ 65 ≤ x := by omega
    go_enter Tryz.func126, Tryz.ntmps126
    go_wp2
    go_ret
    exact ⟨rfl, rfl⟩
  · rw [fin true (by simp; omega)]
    clear fin
    obtain ⟨h3, h4⟩ := h
    have h1 : ¬ 97 ≤ x := by omega
    go_enter Tryz.func126, Tryz.ntmps126
    go_wp2
    go_ret
    exact ⟨rfl, rfl⟩
  · rw [fin false (by simp; omega)]
    clear fin
    have h1 : ¬ 97 ≤ x := by omega
    have h2 : 65 ≤ x := by omega
    have h3 : ¬ x ≤ 90 := by omega
    clear h
    go_enter Tryz.func126, Tryz.ntmps126
    go_wp2
    go_ret
    exact ⟨rfl, rfl⟩
  · rw [fin true (by simp; omega)]
    clear fin
    obtain ⟨h3, h4⟩ := h
    go_enter Tryz.func126, Tryz.ntmps126
    go_wp2
    go_ret
    exact ⟨rfl, rfl⟩
  · rw [fin false (by simp; omega)]
    clear fin
    have h1 : 97 ≤ x := by omega
    have h2 : 65 ≤ x := by omega
    have h3 : ¬ x ≤ 90 := by omega
    have h4 : ¬ x ≤ 122 := by omega
    clear h
    go_enter Tryz.func126, Tryz.ntmps126
    go_wp2
    go_ret
    exact ⟨rfl, rfl⟩

set_option maxRecDepth 100000 in
theorem rdigit_int (x : Int) (w : World) : Calls Tryz.prog 124 #[.int .u8 x] w fun e w' => e = .returned (.bool (decide (48 ≤ x ∧ x ≤ 57))) ∧ w' = w := by
  have fin : ∀ b, decide (48 ≤ x ∧ x ≤ 57) = b → decide (48 ≤ x ∧ x ≤ 57) = b := fun _ h => h
  rcases (show x < 48 ∨ (48 ≤ x ∧ x ≤ 57) ∨ 57 < x from by omega) with h | h | h
  · rw [fin false (by simp; omega)]
    clear fin
    have h1 : ¬ 48 ≤ x := by omega
    clear h
    go_enter Tryz.func124, Tryz.ntmps124
    go_wp2
    go_ret
    exact ⟨rfl, rfl⟩
  · rw [fin true (by simp; omega)]
    clear fin
    obtain ⟨h1, h2⟩ := h
    go_enter Tryz.func124, Tryz.ntmps124
    go_wp2
    go_ret
    exact ⟨rfl, rfl⟩
  · rw [fin false (by simp; omega)]
    clear fin
    have h1 : 48 ≤ x := by omega
    have h2 : ¬ x ≤ 57 := by omega
    clear h
    go_enter Tryz.func124, Tryz.ntmps124
    go_wp2
    go_ret
    exact ⟨rfl, rfl⟩

theorem rletter_any (c : UInt8) (w : World) : Calls Tryz.prog 126 #[.int .u8 c.toNat] w fun e w' => e = .returned (.bool (isLetter c)) ∧ w' = w := by
  rw [isLetter_eq]; exact rletter_int _ w
theorem rdigit_any (c : UInt8) (w : World) : Calls Tryz.prog 124 #[.int .u8 c.toNat] w fun e w' => e = .returned (.bool (isDigit c)) ∧ w' = w := by
  rw [isDigit_eq]; exact rdigit_int _ w


set_option maxRecDepth 100000 in
theorem inner_walk (x : Int) (b1 b2 : Bool) (w : World) (h1 : Calls Tryz.prog 126 #[.int .u8 x] w fun e w' => e = .returned (.bool b1) ∧ w' = w) (h2 : Calls Tryz.prog 124 #[.int .u8 x] w fun e w' => e = .returned (.bool b2) ∧ w' = w) :
    Calls Tryz.prog 102 #[.int .u8 x] w fun e w' => e = .returned (.bool (b1 || b2 || decide (x = 95))) ∧ w' = w := by
  have H1 : Hid (Calls _ _ _ _ _) := h1
  have H2 : Hid (Calls _ _ _ _ _) := h2
  clear h1 h2
  by_cases h : x = 95
  · rw [decide_eq_true h]
    have h' : (x == 95) = true := by simp [h]
    clear h
    cases b1 <;> cases b2 <;>
    (go_enter Tryz.func102, Tryz.ntmps102
     go_wp2_with (first | (go_at_call 126; refine H1.out.mono ?_; rintro e w' ⟨rfl, rfl⟩) | (go_at_call 124; refine H2.out.mono ?_; rintro e w' ⟨rfl, rfl⟩))
     go_ret
     exact ⟨rfl, rfl⟩)
  · rw [decide_eq_false h]
    have h' : (x == 95) = false := by simp [h]
    clear h
    cases b1 <;> cases b2 <;>
    (go_enter Tryz.func102, Tryz.ntmps102
     go_wp2_with (first | (go_at_call 126; refine H1.out.mono ?_; rintro e w' ⟨rfl, rfl⟩) | (go_at_call 124; refine H2.out.mono ?_; rintro e w' ⟨rfl, rfl⟩))
     go_ret
     exact ⟨rfl, rfl⟩)
theorem inner_any (c : UInt8) (w : World) : Calls Tryz.prog 102 #[.int .u8 c.toNat] w fun e w' => e = .returned (.bool (isPart c)) ∧ w' = w := by
  have e : isPart c = (isLetter c || isDigit c || decide ((c.toNat : Int) = 95)) := by
    unfold isPart; congr 1; exact byte_eq c 95 (by decide)
  rw [e]
  exact inner_walk _ _ _ w (rletter_any c w) (rdigit_any c w)

set_option maxRecDepth 100000 in
set_option maxHeartbeats 1000000 in
theorem rrun_any (s : ByteArray) (p : Nat) (w : World) (hs : s.size ≤ 4294967296) (hp : p ≤ s.size) : Calls Tryz.prog 103 #[.string s, .int .i64 p] w fun e w' => e = .returned (.int .i64 ((p + runLen (s.data.toList.drop p) : Nat) : Int)) ∧ w' = w := by
  have hR := runLen_le (s.data.toList.drop p)
  have hl : s.data.toList.length = s.size := by simp
  rw [List.length_drop] at hR
  have HP : Hid (∀ c W, Calls Tryz.prog 102 #[.int .u8 (UInt8.toNat c)] W _) := inner_any
  obtain ⟨N, hN⟩ : ∃ N, runLen (s.data.toList.drop p) = N := ⟨_, rfl⟩
  have HN : Hid (runLen (s.data.toList.drop p) = N) := hN
  rw [hN] at hR ⊢
  clear hN
  have mo := follows
  go_enter Tryz.func103, Tryz.ntmps103
  go_wp2_with fail
  go_loopw [1] (fun i wr => ∃ k : Nat, k ≤ N ∧ i = .int .i64 ((p + k : Nat) : Int) ∧ Hid (wr = w)) (fun i _ => s.size - (intOf i).toNat)
  case atStart => exact ⟨0, Nat.zero_le _, rfl, rfl⟩
  case round =>
    obtain ⟨k, hk, rfl, HQ⟩ := hrel
    obtain ⟨q, hq⟩ : ∃ q, p + k = q := ⟨_, rfl⟩
    rw [hq]
    by_cases hlt : q < s.size
    · have hc := takeWhile_step isPart (s.data.toList.drop p) k s[q] (by have := HN.out; unfold runLen at this; omega) (by rw [List.getElem?_drop, hq, List.getElem?_eq_getElem (by omega)]; rfl)
      have HPk := HP.out s[q]
      obtain ⟨b, hb⟩ : ∃ b, isPart s[q] = b := ⟨_, rfl⟩
      rw [hb] at HPk hc
      have HPK : Hid (∀ W, Calls Tryz.prog 102 #[.int .u8 (UInt8.toNat s[q])] W _) := HPk
      have hc' : (b = true → k + 1 ≤ N) ∧ (b = false → N = k) := by
        have := HN.out; unfold runLen at this; rw [← this]; exact hc
      clear HPk hc hb
      cases b with
      | true =>
        have hle := hc'.1 rfl
        clear hc'
        go_wp2_with (go_at_call 102; refine (HPK.out _).mono ?_; rintro e w' ⟨rfl, rfl⟩)
        go_roundw
        case rel => exact ⟨k + 1, hle, by have e : p + (k + 1) = q + 1 := by omega
                                          rw [e]; go_num, HQ⟩
        case measure => simp [intOf]; omega
      | false =>
        have hle := hc'.2 rfl
        clear hc'
        have HE : Hid (p + N = q) := by show _ = _; omega
        clear hle
        go_wp2_with (go_at_call 102; refine (HPK.out _).mono ?_; rintro e w' ⟨rfl, rfl⟩)
        go_ret
        exact ⟨by rw [HE.out]; rfl, HQ.out⟩
    · have HE : Hid (p + N = q) := by show _ = _; omega
      go_wp2_with fail
      go_ret
      exact ⟨by rw [HE.out]; rfl, HQ.out⟩
end Go.Proofs.YtbogejmmkohbkaaGreatDoor.Sx

namespace Go.Proofs.YtbogejmmkohbkaaGreatDoor.Sx
open Go.RowKit Go.Sort

/-- where a quotation ends; -1: it is none -/
def quotedR (l : List UInt8) (i : Nat) : Int := if (qScan (l.drop (i + 1)) (i + 1)).1 = 3 then ((qScan (l.drop (i + 1)) (i + 1)).2 : Int) else -1
def qEnd (r : Nat × Nat) : Int := if r.1 = 3 then (r.2 : Int) else -1
theorem qEnd_3 (n : Nat) : qEnd (3, n) = n := rfl
theorem qEnd_5 (n : Nat) : qEnd (5, n) = -1 := rfl

set_option maxRecDepth 100000 in
set_option maxHeartbeats 1000000 in
theorem quoted_any (s : ByteArray) (p : Nat) (w : World) (hs : s.size ≤ 4294967296) (hp : p < s.size) : Calls Tryz.prog 105 #[.string s, .int .i64 p] w fun e w' => e = .returned (.int .i64 (qEnd (qScan (s.data.toList.drop (p + 1)) (p + 1)))) ∧ w' = w := by
  have hl : s.data.toList.length = s.size := by simp
  obtain ⟨r, hr⟩ : ∃ r, qEnd (qScan (s.data.toList.drop (p + 1)) (p + 1)) = r := ⟨_, rfl⟩
  rw [hr]
  have HR : Hid (qEnd (qScan (s.data.toList.drop (p + 1)) (p + 1)) = r) := hr
  clear hr
  go_enter Tryz.func105, Tryz.ntmps105
  go_wp2_with fail
  go_loop [5] (fun i => ∃ k : Nat, p < k ∧ k ≤ s.size ∧ i = .int .i64 k ∧ Hid (qEnd (qScan (s.data.toList.drop k) k) = r)) (fun i => s.size - (intOf i).toNat)
  case atStart => exact ⟨p + 1, by omega, by omega, by go_num, HR⟩
  case round =>
    obtain ⟨k, hk1, hk, rfl, HQ⟩ := hrel
    by_cases hlt : k < s.size
    · have hst := qScan_step s.data.toList k s[k] (by rw [List.getElem?_eq_getElem (by omega)]; rfl)
      rw [(okText_int s[k]).1, (okText_int s[k]).2] at hst
      have hq := HQ.out
      rw [hst] at hq
      have HST : Hid (_ = r) := hq
      clear hst hq HQ HR
      rcases (show (s[k].toNat : Int) = 34 ∨ ((s[k].toNat : Int) ≠ 34 ∧ (s[k].toNat : Int) < 32) ∨ ((s[k].toNat : Int) ≠ 34 ∧ 126 < (s[k].toNat : Int)) ∨ (s[k].toNat : Int) = 92 ∨ ((s[k].toNat : Int) ≠ 34 ∧ (s[k].toNat : Int) ≠ 92 ∧ 32 ≤ (s[k].toNat : Int) ∧ (s[k].toNat : Int) ≤ 126) from by omega) with h | ⟨ha, hb⟩ | ⟨ha, hb⟩ | h | ⟨ha, hb, hc, hd⟩
      · have HF : Hid (r = ((k + 1 : Nat) : Int)) := by
          have := HST.out; simp [h] at this; rw [← this]; exact qEnd_3 (k + 1)
        have h' : ((s[k].toNat : Int) == 34) = true := by simp [h]
        clear HST h
        go_wp2_with fail
        go_ret
        exact ⟨by rw [HF.out]; go_num, rfl⟩
      · have HF : Hid (r = -1) := by
          have := HST.out; simp [ha, show ¬ 32 ≤ (s[k].toNat : Int) from by omega] at this; exact this.symm
        have h' : ((s[k].toNat : Int) == 34) = false := by simp [ha]
        clear HST ha
        go_wp2_with fail
        go_ret
        exact ⟨by rw [HF.out]; rfl, rfl⟩
      · have HF : Hid (r = -1) := by
          have := HST.out; simp [ha, show ¬ (s[k].toNat : Int) ≤ 126 from by omega] at this; exact this.symm
        have h' : ((s[k].toNat : Int) == 34) = false := by simp [ha]
        have h2 : ¬ (s[k].toNat : Int) < 32 := by omega
        clear HST ha
        go_wp2_with fail
        go_ret
        exact ⟨by rw [HF.out]; rfl, rfl⟩
      · have HF : Hid (r = -1) := by
          have := HST.out; simp [h] at this; exact this.symm
        have h1 : ((s[k].toNat : Int) == 34) = false := by simp [h]
        have h2 : ¬ (s[k].toNat : Int) < 32 := by omega
        have h3 : ¬ 126 < (s[k].toNat : Int) := by omega
        have h4 : ((s[k].toNat : Int) == 92) = true := by simp [h]
        clear HST h
        go_wp2_with fail
        go_ret
        exact ⟨by rw [HF.out]; rfl, rfl⟩
      · have HF : Hid (qEnd (qScan (s.data.toList.drop (k + 1)) (k + 1)) = r) := by
          have := HST.out; simp [ha, hb, hc, hd] at this; exact this
        have h1 : ((s[k].toNat : Int) == 34) = false := by simp [ha]
        have h2 : ¬ (s[k].toNat : Int) < 32 := by omega
        have h3 : ¬ 126 < (s[k].toNat : Int) := by omega
        have h4 : ((s[k].toNat : Int) == 92) = false := by simp [hb]
        clear HST ha hb hc hd
        go_wp2_with fail
        go_round
        case rel => exact ⟨k + 1, by omega, by omega, by go_num, HF⟩
        case measure => simp [intOf]; omega
    · have HF : Hid (r = -1) := by
        have := HQ.out
        rw [List.drop_of_length_le (by omega)] at this
        exact this.symm
      clear HQ HR
      go_wp2_with fail
      go_ret
      exact ⟨by rw [HF.out]; rfl, rfl⟩

def resRow : Array Value := (reservedWords.map fun l => Value.string ⟨l.toArray⟩).toArray
theorem resRow_len : reservedWords.length = 52 := by decide +kernel
theorem resRow_at (i : Nat) (h : i < 52) : ∃ s : ByteArray, resRow[i]? = some (.string s) ∧ reservedWords[i]? = some s.data.toList := by
  have hl := resRow_len
  have e : reservedWords[i]? = some reservedWords[i] := List.getElem?_eq_getElem (by omega)
  refine ⟨⟨reservedWords[i].toArray⟩, ?_, by rw [e]⟩
  unfold resRow
  rw [List.getElem?_toArray, List.getElem?_map, e]; rfl
theorem isRes_iff (l : List UInt8) : isReserved l = true ↔ ∃ i : Nat, i < 52 ∧ reservedWords[i]? = some l := by
  unfold isReserved
  rw [List.contains_iff_mem, List.mem_iff_getElem?]
  constructor
  · rintro ⟨i, h⟩
    have := (List.getElem?_eq_some_iff.1 h).1
    have hl := resRow_len
    exact ⟨i, by omega, h⟩
  · rintro ⟨i, _, h⟩; exact ⟨i, h⟩

set_option maxRecDepth 100000 in
set_option maxHeartbeats 4000000 in
theorem rreserved_any (s : ByteArray) (w : World) : Calls Tryz.prog 127 #[.string s] w fun e w' => e = .returned (.bool (isReserved s.data.toList)) ∧ Grew w w' := by
  obtain ⟨b, hb⟩ : ∃ b, isReserved s.data.toList = b := ⟨_, rfl⟩
  rw [hb]
  have HB : Hid (isReserved s.data.toList = b) := hb
  clear hb
  go_enter Tryz.func127, Tryz.ntmps127
  go_wp2_with fail
  generalize hW : w.alloc (.cells _ 9) = W
  have hW2 : W = w.alloc (.cells resRow 9) := by rw [← hW]; kernel_rfl
  clear hW
  have HG : Hid (Grew w W) := by show Grew w W; rw [hW2]; exact (Grew.refl w).alloc _
  have HX : Hid (W.heap[w.heap.size]? = some (.cells resRow 9 (0, 0))) := by show _ = _; rw [hW2]; exact heap_new rfl
  clear hW2
  have hlt := block_lt HX.out
  go_loop [4] (fun i => ∃ k : Nat, k ≤ 52 ∧ i = .int .i64 k ∧ Hid (∀ j, j < k → reservedWords[j]? ≠ some s.data.toList)) (fun i => 52 - (intOf i).toNat)
  case atStart => exact ⟨0, Nat.zero_le _, rfl, fun j h => absurd h (Nat.not_lt_zero j)⟩
  case round =>
    obtain ⟨k, hk, rfl, HQ⟩ := hrel
    by_cases hlt2 : k < 52
    · obtain ⟨t, ht1, ht2⟩ := resRow_at k hlt2
      have c0 : W.cell? ⟨w.heap.size, k, none⟩ = some (.string t) := (block_cell HX.out k).trans ht1
      clear ht1
      have et : (t.toList == s.toList) = (t.data.toList == s.data.toList) := by rw [ByteArray.toList_eq, ByteArray.toList_eq]
      cases hts : t.toList == s.toList with
      | true =>
        have HF : Hid (b = true) := by
          show _ = _
          rw [← HB.out, isRes_iff]
          refine ⟨k, hlt2, ?_⟩
          rw [ht2, eq_of_beq (et.symm.trans hts)]
        clear ht2 HB HQ et
        go_wp2_with fail
        go_ret
        exact ⟨by rw [HF.out]; rfl, HG.out⟩
      | false =>
        have HN : Hid (∀ j, j < k + 1 → reservedWords[j]? ≠ some s.data.toList) := by
          intro j hj
          by_cases e : j < k
          · exact HQ.out j e
          · have : j = k := by omega
            subst this
            rw [ht2]
            intro q
            rw [et] at hts
            exact absurd (beq_iff_eq.2 (Option.some.inj q)) (by rw [hts]; simp)
        clear ht2 HQ et
        go_wp2_with fail
        go_round
        case rel => exact ⟨k + 1, by omega, by go_num, HN⟩
        case measure => simp [intOf]; omega
    · have HF : Hid (b = false) := by
        show _ = _
        rw [← HB.out]
        cases q : isReserved s.data.toList with
        | false => rfl
        | true =>
          obtain ⟨i, h1, h2⟩ := (isRes_iff _).1 q
          exact absurd h2 (HQ.out i (by omega))
      go_wp2_with fail
      go_ret
      exact ⟨by rw [HF.out]; rfl, HG.out⟩
end Go.Proofs.YtbogejmmkohbkaaGreatDoor.Sx

namespace Go.Proofs.YtbogejmmkohbkaaGreatDoor.Sx
open Go.RowKit Go.Sort

/-- the number of digits -/
def valD : Nat → List UInt8 → Nat
  | a, [] => a
  | a, c :: l => valD (a * 10 + (c.toNat - 48)) l
theorem valD_le : ∀ (l : List UInt8) (a : Nat), a ≤ valD a l
  | [], a => Nat.le_refl a
  | c :: l, a => Nat.le_trans (Nat.le_trans (Nat.le_mul_of_pos_right a (by decide)) (Nat.le_add_right _ _)) (valD_le l (a * 10 + (c.toNat - 48)))
theorem valD_step (l : List UInt8) (k : Nat) (c : UInt8) (a : Nat) (h : l[k]? = some c) : valD a (l.drop k) = valD (a * 10 + (c.toNat - 48)) (l.drop (k + 1)) := by
  obtain ⟨h1, e1⟩ := List.getElem?_eq_some_iff.1 h
  rw [List.drop_eq_getElem_cons h1, e1]; rfl

set_option maxRecDepth 100000 in
set_option maxHeartbeats 1000000 in
theorem size_any (s : ByteArray) (w : World) (hs : s.size ≤ 4294967296) (hd : ∀ c ∈ s.data.toList, isDigit c = true) : Calls Tryz.prog 177 #[.string s] w fun e w' => e = .returned (if valD 0 s.data.toList ≤ 9223372036854775808 then .tuple #[.int .u64 (valD 0 s.data.toList), .bool true] else .tuple #[.int .u64 0, .bool false]) ∧ w' = w := by
  have hl : s.data.toList.length = s.size := by simp
  obtain ⟨r, hr⟩ : ∃ r, (if valD 0 s.data.toList ≤ 9223372036854775808 then Value.tuple #[.int .u64 (valD 0 s.data.toList), .bool true] else .tuple #[.int .u64 0, .bool false]) = r := ⟨_, rfl⟩
  rw [hr]
  obtain ⟨N, hN⟩ : ∃ N, valD 0 s.data.toList = N := ⟨_, rfl⟩
  have HN : Hid (valD 0 (s.data.toList.drop 0) = N) := hN
  rw [hN] at hr
  have HR : Hid (_ = r) := hr
  have HD : Hid (∀ k, (h : k < s.size) → 48 ≤ s[k].toNat ∧ s[k].toNat ≤ 57) := by
    intro k h
    have := hd s[k] (by
      have e : s[k] = s.data.toList[k] := rfl
      rw [e]; exact List.getElem_mem _)
    simpa [isDigit, UInt8.le_iff_toNat_le] using this
  clear hr hN hd
  go_enter Tryz.func177, Tryz.ntmps177
  go_wp2_with fail
  go_loop [4, 5] (fun n i => ∃ k m : Nat, k ≤ s.size ∧ m ≤ 9223372036854775808 ∧ n = .int .u64 m ∧ i = .int .i64 k ∧ Hid (valD m (s.data.toList.drop k) = N)) (fun _ i => s.size - (intOf i).toNat)
  case atStart => exact ⟨0, 0, Nat.zero_le _, Nat.zero_le _, rfl, rfl, HN⟩
  case round =>
    obtain ⟨k, m, hk, hm, rfl, rfl, HQ⟩ := hrel
    by_cases hlt : k < s.size
    · obtain ⟨c1, c2⟩ := HD.out k hlt
      have hst := HQ.out
      rw [valD_step s.data.toList k s[k] m (by rw [List.getElem?_eq_getElem (by omega)]; rfl)] at hst
      obtain ⟨d, hd⟩ : ∃ d, s[k].toNat - 48 = d := ⟨_, rfl⟩
      rw [hd] at hst
      have HST : Hid (valD (m * 10 + d) (s.data.toList.drop (k + 1)) = N) := hst
      have hc : ((s[k].toNat : Nat) : Int) - 48 = (d : Int) := by omega
      have hd9 : d ≤ 9 := by omega
      have e1 : IntKind.wrap .u8 (((s[k].toNat : Nat) : Int) - 48) = (d : Int) := by
        rw [hc, IntKind.wrap_u8]; omega
      clear hst HQ hd
      by_cases hgt : (9223372036854775808 - (d : Int)) / 10 < (m : Int)
      · have HF : Hid (r = .tuple #[.int .u64 0, .bool false]) := by
          show _ = _
          rw [← HR.out, if_neg]
          have := valD_le (s.data.toList.drop (k + 1)) (m * 10 + d)
          rw [HST.out] at this
          omega
        clear HST
        go_wp2_with fail
        go_ret2
        exact ⟨by rw [HF.out]; rfl, rfl⟩
      · have hle : m * 10 + d ≤ 9223372036854775808 := by omega
        have e2 : ((m : Int) * 10) + d = ((m * 10 + d : Nat) : Int) := by omega
        have e3 : IntKind.u64.wrap ((m : Int) * 10 + d) = ((m * 10 + d : Nat) : Int) := by rw [IntKind.wrap_u64]; omega
        clear e2
        go_wp2_with fail
        go_round
        case rel => exact ⟨k + 1, m * 10 + d, by omega, hle, rfl, by go_num, HST⟩
        case measure => simp [intOf]; omega
    · have HF : Hid (r = .tuple #[.int .u64 m, .bool true]) := by
        have := HQ.out
        rw [List.drop_of_length_le (by omega)] at this
        have h2 : m = N := this
        show _ = _
        rw [← HR.out, ← h2, if_pos hm]
      clear HQ
      go_wp2_with fail
      go_ret2
      exact ⟨by rw [HF.out]; rfl, rfl⟩
end Go.Proofs.YtbogejmmkohbkaaGreatDoor.Sx
