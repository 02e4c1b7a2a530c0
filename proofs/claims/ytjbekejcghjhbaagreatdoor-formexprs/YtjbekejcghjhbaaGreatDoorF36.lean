/- The reference: blanks, words and numbers, signs. -/
import Derived.Test.YtjbekejcghjhbaaGreatDoorF24
import Derived.Deep.LoopGhost
namespace Go.Proofs.YtjbekejcghjhbaaGreatDoor.Sx
open Go.RowKit Go.Sort

set_option maxRecDepth 100000 in
theorem gblank_int (x : Int) (w : World) : Calls Tryz.prog 101 #[.int .u8 x] w fun e w' => e = .returned (.bool (decide (x = 32) || decide (x = 9) || decide (x = 10))) ∧ w' = w := by
  rcases (show x = 32 ∨ x = 9 ∨ x = 10 ∨ (x ≠ 32 ∧ x ≠ 9 ∧ x ≠ 10) from by omega) with rfl | rfl | rfl | ⟨a, b, c⟩
  · go_enter Tryz.func101, Tryz.ntmps101
    go_wp2
    go_ret
    exact ⟨rfl, rfl⟩
  · go_enter Tryz.func101, Tryz.ntmps101
    go_wp2
    go_ret
    exact ⟨rfl, rfl⟩
  · go_enter Tryz.func101, Tryz.ntmps101
    go_wp2
    go_ret
    exact ⟨rfl, rfl⟩
  · rw [decide_eq_false a, decide_eq_false b, decide_eq_false c]
    have a' : (x == 32) = false := by simp [a]
    have b' : (x == 9) = false := by simp [b]
    have c' : (x == 10) = false := by simp [c]
    clear a b c
    go_enter Tryz.func101, Tryz.ntmps101
    go_wp2
    go_ret
    exact ⟨rfl, rfl⟩
theorem gblank_any (c : UInt8) (w : World) : Calls Tryz.prog 101 #[.int .u8 c.toNat] w fun e w' => e = .returned (.bool (isBlank c)) ∧ w' = w := by
  have e : isBlank c = (decide ((c.toNat : Int) = 32) || decide ((c.toNat : Int) = 9) || decide ((c.toNat : Int) = 10)) := by
    unfold isBlank
    congr 1
    · congr 1
      · exact byte_eq c 32 (by decide)
      · exact byte_eq c 9 (by decide)
    · exact byte_eq c 10 (by decide)
  rw [e]; exact gblank_int _ w

/-- what letters, digits and _ side by side are -/
def wordF (l : List UInt8) : Nat := if isLetter (byteAt l 0) then 119 else if l.all isDigit && (decide (l.length = 1) || !decide ((byteAt l 0).toNat = 48)) then 48 else 120
theorem byte0 (s : ByteArray) (h : 0 < s.size) : byteAt s.data.toList 0 = s[0] := by
  have hl : s.data.toList.length = s.size := by simp
  have := byteAt_get (l := s.data.toList) (k := 0) (by omega)
  rw [List.getElem?_eq_getElem (by omega)] at this
  simp only [Option.some.injEq] at this
  rw [← this]; rfl
theorem all_take {l : List UInt8} {k : Nat} {c : UInt8} (h : l[k]? = some c) (ha : (l.take k).all isDigit = true) : (l.take (k + 1)).all isDigit = isDigit c := by
  rw [List.take_add_one, h, List.all_append, ha]; simp
set_option maxRecDepth 100000 in
set_option maxHeartbeats 1000000 in
theorem gword_any (s : ByteArray) (w : World) (hs : s.size ≤ 4294967296) (h1 : 1 ≤ s.size) : Calls Tryz.prog 104 #[.string s] w fun e w' => e = .returned (.int .u8 (wordF s.data.toList : Int)) ∧ w' = w := by
  have hl : s.data.toList.length = s.size := by simp
  obtain ⟨v, hv⟩ : ∃ v, wordF s.data.toList = v := ⟨_, rfl⟩
  rw [hv]
  unfold wordF at hv
  rw [byte0 s (by omega)] at hv
  have HL : Hid (Calls _ _ _ _ _) := rletter_any s[0] w
  have HD : Hid _ := rdigit_any
  have h0 : 0 < s.size := by omega
  obtain ⟨b, hb⟩ : ∃ b, isLetter s[0] = b := ⟨_, rfl⟩
  rw [hb] at hv HL
  clear hb
  have mo := follows
  cases b with
  | true =>
    obtain rfl : v = 119 := by simpa using hv.symm
    clear hv
    go_enter Tryz.func104, Tryz.ntmps104
    go_wp2_with (go_at_call 126; refine HL.out.mono ?_; rintro e w' ⟨rfl, rfl⟩)
    go_ret
    exact ⟨rfl, rfl⟩
  | false =>
    have HV : Hid ((if s.data.toList.all isDigit && (decide (s.data.toList.length = 1) || !decide (s[0].toNat = 48)) then 48 else 120) = v) := by have := hv; rw [if_neg (by simp)] at this; exact this
    clear hv
    go_enter Tryz.func104, Tryz.ntmps104
    go_wp2_with (go_at_call 126; refine HL.out.mono ?_; rintro e w' ⟨rfl, rfl⟩)
    go_loop [4] (fun i => ∃ k : Nat, k ≤ s.size ∧ i = .int .i64 k ∧ Hid ((s.data.toList.take k).all isDigit = true ∧ (1 < k → s[0].toNat ≠ 48))) (fun i => s.size - (intOf i).toNat)
    case atStart => exact ⟨0, Nat.zero_le _, rfl, by simp, fun h => absurd h (by omega)⟩
    case round =>
      clear HL
      obtain ⟨k, hk, rfl, HQ⟩ := hrel
      by_cases hlt : k < s.size
      · have hg : s.data.toList[k]? = some s[k] := by rw [List.getElem?_eq_getElem (by omega)]; rfl
        have hT := all_take hg HQ.out.1
        have HDk := HD.out s[k]
        have hall : isDigit s[k] = false → s.data.toList.all isDigit = false := fun q => by
          rw [List.all_eq_false]
          exact ⟨s[k], List.mem_of_getElem? hg, by simp [q]⟩
        obtain ⟨b, hb⟩ : ∃ b, isDigit s[k] = b := ⟨_, rfl⟩
        rw [hb] at HDk hall hT
        have HDK : Hid (∀ W, Calls _ _ _ _ _) := HDk
        have HT : Hid (_ = b) := hT
        cases b with
        | false =>
          obtain rfl : 120 = v := by have := HV.out; rw [hall rfl] at this; simpa using this
          clear hT HDk hall hb hg HV HQ HT
          go_wp2_with (go_at_call 124; refine (HDK.out _).mono ?_; rintro e w' ⟨rfl, rfl⟩)
          go_ret
          exact ⟨rfl, rfl⟩
        | true =>
          by_cases hk1 : k = 1 ∧ s[0].toNat = 48
          · obtain rfl : 120 = v := by have := HV.out; rw [show decide (s.data.toList.length = 1) = false from by simp; omega, show decide (s[0].toNat = 48) = true from by simp [hk1.2]] at this; simpa using this
            have a1 : ((k : Int) == 1) = true := by simp; omega
            have a2 : ((s[0].toNat : Int) == 48) = true := by simp; omega
            clear hT HDk hall hb hg HV HQ HT hk1
            go_wp2_with (go_at_call 124; refine (HDK.out _).mono ?_; rintro e w' ⟨rfl, rfl⟩)
            go_ret
            exact ⟨rfl, rfl⟩
          · have HN : Hid ((s.data.toList.take (k + 1)).all isDigit = true ∧ (1 < k + 1 → s[0].toNat ≠ 48)) := ⟨hT, fun q e => by
              by_cases q1 : k = 1
              · exact hk1 ⟨q1, e⟩
              · exact HQ.out.2 (by omega) e⟩
            by_cases q1 : k = 1
            · have a1 : ((k : Int) == 1) = true := by simp; omega
              have a2 : ((s[0].toNat : Int) == 48) = false := by rw [beq_eq_false_iff_ne]; omega
              clear hT HDk hall hb hg HV HQ HT hk1 q1
              go_wp2_with (go_at_call 124; refine (HDK.out _).mono ?_; rintro e w' ⟨rfl, rfl⟩)
              go_round
              case rel => exact ⟨k + 1, by omega, by go_num, HN⟩
              case measure => simp [intOf]; omega
            · have a1 : ((k : Int) == 1) = false := by simp; omega
              clear hT HDk hall hb hg HV HQ HT hk1 q1
              go_wp2_with (go_at_call 124; refine (HDK.out _).mono ?_; rintro e w' ⟨rfl, rfl⟩)
              go_round
              case rel => exact ⟨k + 1, by omega, by go_num, HN⟩
              case measure => simp [intOf]; omega
      · obtain rfl : k = s.size := by omega
        obtain rfl : 48 = v := by
          have := HV.out
          obtain ⟨q1, q2⟩ := HQ.out
          rw [List.take_of_length_le (by omega)] at q1
          rw [q1, hl] at this
          by_cases q : s.size = 1
          · simpa [q] using this
          · have := q2 (by omega)
            simp_all
        clear HV HQ
        go_wp2_with fail
        go_ret
        exact ⟨rfl, rfl⟩

def signsB : List ByteArray := [⟨#[61, 61]⟩, ⟨#[58, 61]⟩, ⟨#[47, 61]⟩, ⟨#[60, 61]⟩, ⟨#[62, 61]⟩, ⟨#[60, 60]⟩, ⟨#[62, 62]⟩, ⟨#[46, 46]⟩, ⟨#[45, 62]⟩, ⟨#[43, 43]⟩, ⟨#[61]⟩, ⟨#[60]⟩, ⟨#[62]⟩, ⟨#[43]⟩, ⟨#[45]⟩, ⟨#[42]⟩, ⟨#[47]⟩, ⟨#[37]⟩, ⟨#[40]⟩, ⟨#[41]⟩, ⟨#[123]⟩, ⟨#[125]⟩, ⟨#[91]⟩, ⟨#[93]⟩, ⟨#[44]⟩, ⟨#[58]⟩, ⟨#[46]⟩, ⟨#[39]⟩]
set_option maxRecDepth 100000 in
set_option maxHeartbeats 1000000 in
theorem gsigns_any (w : World) : Calls Tryz.prog 106 #[] w fun e w' => e = .returned (.slice (some ⟨w.heap.size, 0, none⟩) 28 28) ∧ w' = w.alloc (.cells (signsB.map Value.string).toArray 9) := by
  go_enter Tryz.func106, Tryz.ntmps106
  go_wp2_with fail
  go_ret
  exact ⟨rfl, rfl⟩
/-- the first sign of a row that a text begins with: its length -/
def signK : List (List UInt8) → List UInt8 → Nat
  | [], _ => 0
  | g :: r, l => if decide (g.length ≤ l.length) && l.take g.length == g then g.length else signK r l
theorem signK_two : ∀ (a b : List (List UInt8)) (l : List UInt8), (∀ g ∈ a, g ≠ []) → signK (a ++ b) l = if signK a l = 0 then signK b l else signK a l
  | [], b, l, _ => by simp [signK]
  | g :: r, b, l, h => by
    have hg := h g (by simp)
    simp only [List.cons_append, signK]
    split
    · rw [if_neg (by intro e; exact hg (List.length_eq_zero_iff.1 e))]
    · exact signK_two r b l fun g q => h g (by simp [q])
theorem signK_all {n : Nat} (hn : n ≠ 0) : ∀ (a : List (List UInt8)) (l : List UInt8), (∀ g ∈ a, g.length = n) → signK a l = if decide (n ≤ l.length) && a.contains (l.take n) then n else 0
  | [], l, _ => by simp [signK]
  | g :: r, l, h => by
    have hg := h g (by simp)
    simp only [signK, hg, List.contains_cons]
    rw [signK_all hn r l fun g q => h g (by simp [q])]
    cases decide (n ≤ l.length) <;> cases (l.take n == g) <;> simp
theorem signK_eq (l : List UInt8) (h : l ≠ []) : signK (signsB.map fun b => b.data.toList) l = signF l := by
  have e : (signsB.map fun b => b.data.toList) = signs2 ++ signs1.map (fun c => [c]) := by decide
  rw [e, signK_two _ _ _ (by decide), signK_all (n := 2) (by decide) signs2 l (by decide), signK_all (n := 1) (by decide) (signs1.map fun c => [c]) l (by decide)]
  cases l with
  | nil => exact absurd rfl h
  | cons c r =>
    unfold signF
    have e1 : (signs1.map fun c => [c]).contains ((c :: r).take 1) = signs1.contains c := by
      simp [signs1]
    rw [e1]
    have e2 : byteAt (c :: r) 0 = c := rfl
    rw [e2]
    have e3 : decide (2 ≤ (c :: r).length) = decide (1 < (c :: r).length) := rfl
    rw [e3]
    have e4 : decide (1 ≤ (c :: r).length) = true := by simp
    rw [e4, Bool.true_and]
    split
    · simp
    · rfl
end Go.Proofs.YtjbekejcghjhbaaGreatDoor.Sx

namespace Go.Proofs.YtjbekejcghjhbaaGreatDoor.Sx
open Go.RowKit Go.Sort

theorem qs_shift : ∀ (l : List UInt8) (i j : Nat), qScan l (i + j) = ((qScan l j).1, i + (qScan l j).2)
  | [], i, j => rfl
  | c :: l, i, j => by
    simp only [qScan]
    split
    · simp; omega
    · split
      · rw [Nat.add_assoc, qs_shift l i (j + 1)]
      · rfl
theorem puM_of (M : Nat) (hM : M ≤ 18446744073709551615) : ∀ (l : List UInt8) (a : Nat), (∀ c ∈ l, isDigit c = true) → a ≤ M → Lib.parseUintM M a l = if valD a l ≤ M then .ok (valD a l) else .range
  | [], a, _, ha => by
    show Lib.NumEnd.ok a = if a ≤ M then .ok a else .range
    rw [if_pos ha]
  | c :: l, a, hd, ha => by
    have hc := hd c (by simp)
    simp [isDigit, UInt8.le_iff_toNat_le] at hc
    have e : valD a (c :: l) = valD _ l := rfl
    rw [e]
    have hmono := valD_le l (a * 10 + (c.toNat - 48))
    have ih := fun h => puM_of M hM l (a * 10 + (c.toNat - 48)) (fun d hd' => hd d (by simp [hd'])) h
    clear e
    rw [Lib.parseUintM, if_pos hc]
    obtain ⟨z, hz⟩ : ∃ z, a * 10 + (c.toNat - 48) = z := ⟨_, rfl⟩
    rw [hz] at hmono ih ⊢
    by_cases h1 : 1844674407370955162 ≤ a
    · rw [if_pos h1, if_neg (by omega)]
    · rw [if_neg h1]
      by_cases h2 : M < z
      · rw [if_pos h2, if_neg (by omega)]
      · rw [if_neg h2]
        exact ih (by omega)
theorem parse_dig (l : List UInt8) (hn : l ≠ []) (hd : ∀ c ∈ l, isDigit c = true) : Lib.parseIntB 64 l = if valD 0 l < 9223372036854775808 then .ok (valD 0 l : Int) else .range := by
  cases l with
  | nil => exact absurd rfl hn
  | cons c r =>
    have hc := hd c (by simp)
    simp [isDigit, UInt8.le_iff_toNat_le] at hc
    have c1 : ¬ (c.toNat = 43 ∨ c.toNat = 45) := by omega
    have c2 : ¬ c.toNat = 45 := by omega
    have hv := puM_of (2 ^ 64 - 1) (by decide) _ 0 hd (by omega)
    simp only [Lib.parseIntB]
    rw [if_neg c1]
    unfold Lib.parseUintB
    rw [if_neg (by simp), hv]
    generalize valD 0 (c :: r) = N
    by_cases h1 : N ≤ 2 ^ 64 - 1
    · rw [if_pos h1]
      simp only
      by_cases h2 : N < 9223372036854775808
      · rw [if_neg (by simp [c2]; omega), if_neg (by simp [c2]), if_neg c2, if_pos h2]
      · rw [if_pos (by simp [c2]; omega), if_neg h2]
    · rw [if_neg h1, if_neg (by omega)]
/-- where a text goes on behind a byte -/
theorem drop_at {T : List UInt8} {q : Nat} {c : UInt8} (h : T[q]? = some c) : T.drop q = c :: T.drop (q + 1) := by
  obtain ⟨h1, h2⟩ := List.getElem?_eq_some_iff.1 h
  rw [List.drop_eq_getElem_cons h1, h2]
theorem tokF_cons (c : UInt8) (l : List UInt8) : tokF (c :: l) = (if isLetter c then (1, runLen (c :: l)) else if isPart c then (if numB (c :: l) then 2 else 5, runLen (c :: l)) else if c.toNat = 34 then qScan l 1 else if signF (c :: l) = 0 then (5, 0) else (4, signF (c :: l))) := by
  unfold tokF; rw [if_neg (by simp), show byteAt (c :: l) 0 = c from rfl]; rfl
theorem runLen_pos {c : UInt8} {l : List UInt8} (h : isPart c = true) : 0 < runLen (c :: l) := by simp [runLen, h]
theorem take_byte0 {c : UInt8} {l : List UInt8} {n : Nat} (h : 0 < n) : byteAt ((c :: l).take n) 0 = c := by
  cases n with
  | zero => omega
  | succ n => rfl
/-- a word, a number, or neither -/
theorem tok_in {c : UInt8} {l : List UInt8} (h : isPart c = true) : (tokF (c :: l)).2 = runLen (c :: l) ∧ wordF ((c :: l).take (runLen (c :: l))) = sortB (tokF (c :: l)).1 := by
  have hp := runLen_pos (l := l) h
  have hle := runLen_le (c :: l)
  rw [tokF_cons]
  unfold wordF
  rw [take_byte0 hp]
  cases h1 : isLetter c with
  | true => exact ⟨rfl, rfl⟩
  | false =>
    rw [if_neg (show ¬ (false = true) by simp), if_pos h, if_neg (show ¬ (false = true) by simp)]
    refine ⟨rfl, ?_⟩
    show _ = sortB (if numB (c :: l) then 2 else 5)
    have hl : ((c :: l).take (runLen (c :: l))).length = runLen (c :: l) := by rw [List.length_take]; omega
    rw [hl]
    unfold numB
    rw [show byteAt (c :: l) 0 = c from rfl]
    generalize ((c :: l).take (runLen (c :: l))).all isDigit = b
    by_cases q : runLen (c :: l) = 1
    · rw [q]; cases b <;> rfl
    · rw [decide_eq_false q, decide_eq_true (show 1 < runLen (c :: l) by omega)]
      cases b <;> cases decide (c.toNat = 48) <;> rfl
/-- a text in quotes, or none -/
theorem tok_quote {T : List UInt8} {q : Nat} {c : UInt8} (hc : T[q]? = some c) (h : isPart c = false) (h4 : c.toNat = 34) :
    qEnd (qScan (T.drop (q + 1)) (q + 1)) = if (tokF (T.drop q)).1 = 3 then ((q + (tokF (T.drop q)).2 : Nat) : Int) else -1 := by
  have h1 : isLetter c = false := by simp only [isPart, Bool.or_eq_false_iff] at h; exact h.1.1
  have e : tokF (T.drop q) = qScan (T.drop (q + 1)) 1 := by rw [drop_at hc, tokF_cons, h1, h, if_neg (by simp), if_neg (by simp), if_pos h4]
  rw [e, qs_shift]
  rcases qScan_cls (T.drop (q + 1)) 1 with k | k
  · rw [if_pos k, k, qEnd_3]
  · rw [if_neg (by omega), k, qEnd_5]
theorem tok_quote_cl {T : List UInt8} {q : Nat} {c : UInt8} (hc : T[q]? = some c) (h : isPart c = false) (h4 : c.toNat = 34) : (tokF (T.drop q)).1 = 3 ∨ (tokF (T.drop q)).1 = 5 := by
  have h1 : isLetter c = false := by simp only [isPart, Bool.or_eq_false_iff] at h; exact h.1.1
  rw [drop_at hc, tokF_cons, h1, h, if_neg (by simp), if_neg (by simp), if_pos h4]
  exact qScan_cls _ _
theorem tok_sign {T : List UInt8} {q : Nat} {c : UInt8} (hc : T[q]? = some c) (h : isPart c = false) (h4 : c.toNat ≠ 34) : tokF (T.drop q) = if signF (T.drop q) = 0 then (5, 0) else (4, signF (T.drop q)) := by
  have h1 : isLetter c = false := by simp only [isPart, Bool.or_eq_false_iff] at h; exact h.1.1
  rw [drop_at hc, tokF_cons, h1, h, if_neg (by simp), if_neg (by simp), if_neg h4]
theorem btw_go {T : List UInt8} {q : Nat} {c : UInt8} (hc : T[q]? = some c) (r : Bool) : btw r (T.drop q) = if isBlank c || (c == 35 || r) then 1 + btw ((c == 35 || r) && !(c == 10)) (T.drop (q + 1)) else 0 := by
  rw [drop_at hc, btw]
theorem btw_end {T : List UInt8} {q : Nat} (h : T.length ≤ q) (r : Bool) : btw r (T.drop q) = 0 := by rw [List.drop_of_length_le h]; cases r <;> rfl
theorem ext_take (s : ByteArray) (a n : Nat) : s.extract a (a + n) = ⟨((s.data.toList.drop a).take n).toArray⟩ := by
  apply ByteArray.ext
  rw [ByteArray.data_extract]
  apply Array.ext'
  rw [Array.toList_extract]
  simp [List.extract]

/-- the cells of the first tokens -/
def flatT (T : List UInt8) (n : Nat) : List Value := (List.range n).flatMap fun j => [.int .u8 (sortB (clF T j) : Int), .string (tokB (tkF T j)), .int .i64 (atF T j : Int)]
theorem flatT_succ (T : List UInt8) (n : Nat) : flatT T (n + 1) = flatT T n ++ [.int .u8 (sortB (clF T n) : Int), .string (tokB (tkF T n)), .int .i64 (atF T n : Int)] := by
  unfold flatT; rw [List.range_succ, List.flatMap_append]; simp
theorem flatT_length (T : List UInt8) : ∀ n, (flatT T n).length = n * 3
  | 0 => rfl
  | n + 1 => by rw [flatT_succ, List.length_append, flatT_length T n]; simp; omega
theorem flatT_at (T : List UInt8) : ∀ n i, i < n → (flatT T n)[i * 3]? = some (.int .u8 (sortB (clF T i) : Int)) ∧ (flatT T n)[i * 3 + 1]? = some (.string (tokB (tkF T i))) ∧ (flatT T n)[i * 3 + 2]? = some (.int .i64 (atF T i : Int))
  | 0, i, h => absurd h (by omega)
  | n + 1, i, h => by
    rw [flatT_succ]
    have hl := flatT_length T n
    by_cases q : i < n
    · obtain ⟨a, b, c⟩ := flatT_at T n i q
      rw [List.getElem?_append_left (by omega), List.getElem?_append_left (by omega), List.getElem?_append_left (by omega)]
      exact ⟨a, b, c⟩
    · obtain rfl : i = n := by omega
      rw [List.getElem?_append_right (by omega), List.getElem?_append_right (by omega), List.getElem?_append_right (by omega), hl]
      rw [show i * 3 - i * 3 = 0 by omega, show i * 3 + 1 - i * 3 = 1 by omega, show i * 3 + 2 - i * 3 = 2 by omega]
      exact ⟨rfl, rfl, rfl⟩
/-- a row of tokens in memory -/
theorem TokRow.owns {T : List UInt8} {N g cap lo : Nat} {w : World} (h : w.ownsRow lo 106 3 (.slice (some ⟨g, 0, none⟩) (N + 1) cap) (N + 1) (flatT T (N + 1))) : TokRow (tkF T) N g w := by
  rcases h.2 with ⟨e, -⟩ | ⟨g2, cap2, cur, e, hg, hq, -, -, hs, ht⟩
  · simp at e
  · simp only [Value.slice.injEq, Option.some.injEq, Addr.mk.injEq, and_true, true_and] at e
    obtain ⟨rfl, rfl⟩ := e
    have hcur : ∀ (i : Nat) (v : Value), (flatT T (N + 1))[i]? = some v → w.cell? ⟨g, i, none⟩ = some v := by
      intro i v q
      rw [← ht, List.getElem?_take] at q
      split at q
      · rw [block_cell hq]; simpa using q
      · simp at q
    refine ⟨block_lt hq, fun i hi => ?_⟩
    obtain ⟨a, b, c⟩ := flatT_at T (N + 1) i (by omega)
    exact ⟨hcur _ _ a, hcur _ _ b, hcur _ _ c⟩
theorem infoTok : (Tryz.prog.info? 106).map (fun i => (i.zero, i.size, i.bytes)) = some (some (.agg #[.int .u8 0, .string ⟨#[]⟩, .int .i64 0]), 3, 32) := by kernel_rfl
theorem Fr.grownT {w w1 w2 : World} {o : Obj} {sl : Value} (h : Fr (fun _ => True) w w1) (hg : (w1.alloc o).grownBy w2 sl.ownBlock) (hsl : ∀ q, sl.ownBlock = some q → w.heap.size ≤ q) : Fr (fun _ => True) w w2 := by
  have a1 := World.grownBy_alloc w1 o sl.ownBlock
  exact ⟨hg.os.trans (a1.os.trans h.os), hg.tape.trans (a1.tape.trans h.tape), hg.output.trans (a1.output.trans h.output), Nat.le_trans h.size (Nat.le_trans a1.size hg.size), fun k hk hp => by
    have hne : ∀ q : Prop, (some k = sl.ownBlock → q) := fun q e => absurd (hsl k e.symm) (by omega)
    have hk1 := Nat.lt_of_lt_of_le hk h.size
    exact (hg.block k (Nat.lt_of_lt_of_le hk1 a1.size) (hne False)).trans ((a1.block k hk1 (hne False)).trans (h.block k hk trivial))⟩
end Go.Proofs.YtjbekejcghjhbaaGreatDoor.Sx
