/- Plain: the reference's signs and single values are the program's. -/
import Derived.Test.YtbogejmmkohbkaaGreatDoorGRR
import Derived.Test.YtbogejmmkohbkaaGreatDoorGT1
import Derived.Test.YtbogejmmkohbkaaGreatDoorGQ1
namespace Go.Proofs.YtbogejmmkohbkaaGreatDoor.Sx

theorem pos_skip (T : List UInt8) (p : Nat) (hv : Bool) : pos T p hv = ⟨skipN T p, skipN T p + (tokT (T.drop (skipN T p))).2, (tokT (T.drop (skipN T p))).1, hv⟩ := rfl
theorem piece_skip (T : List UInt8) (p : Nat) (hv : Bool) : pieceP T (pos T p hv) = (T.drop (skipN T p)).take (tokT (T.drop (skipN T p))).2 := by
  rw [pos_skip]
  simp only [pieceP]
  rw [List.drop_take]
  congr 1; omega
theorem isP_sign (T : List UInt8) (p : Nat) (hv : Bool) (m : List UInt8) (hm : Sgn m) : isP T (pos T p hv) m = Lib.hasPrefix (T.drop (skipN T p)) m ∧ (Lib.hasPrefix (T.drop (skipN T p)) m = true → advP T (pos T p hv) = pos T (skipN T p + m.length) hv) := by
  cases hp : Lib.hasPrefix (T.drop (skipN T p)) m with
  | true =>
    obtain ⟨r, hr⟩ := List.isPrefixOf_iff_prefix.1 hp
    have ht := tok_sign m r hm
    rw [hr] at ht
    constructor
    · unfold isP
      rw [piece_skip, pos_skip, ht, ← hr]
      simp
    · intro _
      have he : (pos T p hv).en = skipN T p + m.length := by rw [pos_skip, ht]
      rw [adv_pos, he]
      rfl
  | false =>
    refine ⟨?_, fun h => by simp at h⟩
    cases hi : isP T (pos T p hv) m with
    | false => rfl
    | true =>
      unfold isP at hi
      rw [Bool.and_eq_true, beq_iff_eq, piece_skip] at hi
      have : Lib.hasPrefix (T.drop (skipN T p)) m = true := List.isPrefixOf_iff_prefix.2 (by rw [← hi.2]; exact List.take_prefix _ _)
      rw [hp] at this; simp at this

theorem qScan_shift : ∀ (l : List UInt8) (i j : Nat), qScan l (i + j) = ((qScan l j).1, i + (qScan l j).2)
  | [], i, j => rfl
  | c :: l, i, j => by
    simp only [qScan]
    split
    · simp; omega
    · split
      · rw [Nat.add_assoc, qScan_shift l i (j + 1)]
      · rfl
theorem puM_val (M : Nat) (hM : M ≤ 18446744073709551615) : ∀ (l : List UInt8) (a : Nat), (∀ c ∈ l, isDigit c = true) → a ≤ M → Lib.parseUintM M a l = if valD a l ≤ M then .ok (valD a l) else .range
  | [], a, _, ha => by
    show Lib.NumEnd.ok a = if a ≤ M then .ok a else .range
    rw [if_pos ha]
  | c :: l, a, hd, ha => by
    have hc := hd c (by simp)
    simp [isDigit, UInt8.le_iff_toNat_le] at hc
    have e : valD a (c :: l) = valD (a * 10 + (c.toNat - 48)) l := rfl
    rw [e]
    have hmono := valD_le l (a * 10 + (c.toNat - 48))
    have ih := fun h => puM_val M hM l (a * 10 + (c.toNat - 48)) (fun d hd' => hd d (by simp [hd'])) h
    clear e
    rw [Lib.parseUintM, if_pos hc]
    obtain ⟨z, hz⟩ : ∃ z, a * 10 + (c.toNat - 48) = z := ⟨_, rfl⟩
    rw [hz] at hmono ih ⊢
    by_cases h1 : 1844674407370955162 ≤ a
    · rw [if_pos h1, if_neg (by omega)]
    · rw [if_neg h1]
      by_cases h2 : M < z
      · rw [if_pos h2, if_neg (by omega)]
      · rw [if_neg h2]
        exact ih (by omega)
theorem parse_pos (l : List UInt8) (hn : l ≠ []) (hd : ∀ c ∈ l, isDigit c = true) : Lib.parseIntB 64 l = if valD 0 l < 9223372036854775808 then .ok (valD 0 l : Int) else .range := by
  cases l with
  | nil => exact absurd rfl hn
  | cons c r =>
    have hc := hd c (by simp)
    simp [isDigit, UInt8.le_iff_toNat_le] at hc
    have c1 : ¬ (c.toNat = 43 ∨ c.toNat = 45) := by omega
    have c2 : ¬ c.toNat = 45 := by omega
    have hv := puM_val (2 ^ 64 - 1) (by decide) (c :: r) 0 hd (by omega)
    simp only [Lib.parseIntB]
    rw [if_neg c1]
    unfold Lib.parseUintB
    rw [if_neg (by simp), hv]
    generalize valD 0 (c :: r) = N
    by_cases h1 : N ≤ 2 ^ 64 - 1
    · rw [if_pos h1]
      simp only
      by_cases h2 : N < 9223372036854775808
      · rw [if_neg (by simp [c2]; omega), if_neg (by simp [c2]), if_neg c2, if_pos h2]
      · rw [if_pos (by simp [c2]; omega), if_neg h2]
    · rw [if_neg h1, if_neg (by omega)]
theorem parse_neg (l : List UInt8) (hn : l ≠ []) (hd : ∀ c ∈ l, isDigit c = true) : Lib.parseIntB 64 (45 :: l) = if valD 0 l ≤ 9223372036854775808 then .ok (-(valD 0 l : Int)) else .range := by
  have hv := puM_val (2 ^ 64 - 1) (by decide) l 0 hd (by omega)
  simp only [Lib.parseIntB]
  rw [if_pos (by decide)]
  unfold Lib.parseUintB
  rw [if_neg hn, hv]
  generalize valD 0 l = N
  by_cases h1 : N ≤ 2 ^ 64 - 1
  · rw [if_pos h1]
    simp only
    by_cases h2 : N ≤ 9223372036854775808
    · rw [if_neg (by simp), if_neg (by simp; omega), if_pos (by decide), if_pos h2]
    · rw [if_neg (by simp), if_pos (by simp; omega), if_neg h2]
  · rw [if_neg h1, if_neg (by omega)]

theorem numOK_pos (l : List UInt8) : numOK l false = (!(decide (l.headD 0 = 48) && decide (1 < l.length)) && l.all isDigit) ∨ l = [] := by
  cases l with
  | nil => exact .inr rfl
  | cons c r =>
    left
    unfold numOK zeroOK
    have e : byteAt (c :: r) 0 = c := rfl
    rw [e]
    have e2 : (c.toNat = 48) ↔ c = 48 := ⟨fun h => UInt8.toNat_inj.1 h, fun h => by rw [h]; rfl⟩
    congr 1
    cases r with
    | nil => by_cases h1 : c = 48 <;> simp [h1]
    | cons d r => by_cases h1 : c = 48 <;> simp [e2, h1]

theorem leaf_none {m : Nat} {T : List UInt8} {br : St → Except (Nat × Nat) (AV (m + 1) × St)} {p : Nat} {hv : Bool} (h : (tokT (T.drop (skipN T p))).1 = 0 ∨ (tokT (T.drop (skipN T p))).1 = 5) : leafP T br (pos T p hv) = .error (1, skipN T p) := by
  unfold leafP
  rw [pos_skip]
  simp only
  rw [if_neg (by omega), if_neg (by omega), if_neg (by omega), if_neg (by omega)]
/-- what the reference tells of a single value, as the program tells it -/
def toldP {m : Nat} (T : List UInt8) (q : Nat) (hv : Bool) (x : Nat × Int × List UInt8 × Nat × Nat) : Except (Nat × Nat) (AV (m + 1) × St) :=
  if x.2.2.2.1 = 0 then .ok ((⟨x.1, x.2.1, x.2.2.1, [], []⟩ : Node (AV m)), pos T x.2.2.2.2 hv) else .error (x.2.2.2.1, q)

theorem cut_run (T : List UInt8) (f : Nat) : (T.take (f + runLen (T.drop f))).drop f = (T.drop f).take (runLen (T.drop f)) := by
  rw [List.drop_take]; congr 1; omega
theorem byteAt_drop (T : List UInt8) (q : Nat) : byteAt (T.drop q) 0 = byteAt T q := by
  unfold byteAt List.getD
  rw [List.getElem?_drop, Nat.add_zero]
theorem run_nonempty {l : List UInt8} (h : isPart (byteAt l 0) = true) (hl : 0 < l.length) : ∃ c r, l.take (runLen l) = c :: r ∧ c = byteAt l 0 ∧ 1 ≤ runLen l := by
  cases l with
  | nil => simp at hl
  | cons c r =>
    have e : byteAt (c :: r) 0 = c := rfl
    rw [e] at h ⊢
    refine ⟨c, r.takeWhile isPart, ?_, rfl, ?_⟩
    · rw [take_run, List.takeWhile_cons, if_pos h]
    · unfold runLen; rw [List.takeWhile_cons, if_pos h]; simp
theorem run_empty {l : List UInt8} (h : isPart (byteAt l 0) = false) : l.take (runLen l) = [] := by
  rw [take_run]
  cases l with
  | nil => rfl
  | cons c r =>
    have e : byteAt (c :: r) 0 = c := rfl
    rw [e] at h
    rw [List.takeWhile_cons, if_neg (by simp [h])]

/-- a word -/
theorem single_word {m : Nat} {T : List UInt8} {br : St → Except (Nat × Nat) (AV (m + 1) × St)} {p : Nat} {hv : Bool} (hlen : skipN T p < T.length) (hc : isLetter (byteAt T (skipN T p)) = true) :
    leafP T br (pos T p hv) = toldP T (skipN T p) hv (singleP T (skipN T p)) := by
  obtain ⟨q, hq⟩ : ∃ q, skipN T p = q := ⟨_, rfl⟩
  rw [hq] at hlen hc
  have hb := byteAt_drop T q
  have hl0 : 0 < (T.drop q).length := by rw [List.length_drop]; omega
  have hpart : isPart (byteAt (T.drop q) 0) = true := by rw [hb]; simp [isPart, hc]
  obtain ⟨c, r, e1, e2, e3⟩ := run_nonempty hpart hl0
  have htok : tokT (T.drop q) = (1, runLen (T.drop q)) := by
    unfold tokT
    rw [if_neg (by omega), hb, if_pos hc]
  have hnd : isDigit (byteAt T q) = false := by
    cases h : isDigit (byteAt T q) with
    | false => rfl
    | true => have := (digit_ne _ h).2; rw [hc] at this; simp at this
  have h34 : ¬ (byteAt T q).toNat = 34 := fun h => by
    have : byteAt T q = 34 := UInt8.toNat_inj.1 h
    rw [this] at hc; exact absurd hc (by decide)
  have h45 : ¬ (byteAt T q).toNat = 45 := fun h => by
    have : byteAt T q = 45 := UInt8.toNat_inj.1 h
    rw [this] at hc; exact absurd hc (by decide)
  have hcut := cut_run T q
  have hsp : singleP T q = wordP ((T.drop q).take (runLen (T.drop q))) (q + runLen (T.drop q)) := by
    unfold singleP
    rw [if_neg (by omega), if_neg h34, if_neg h45]
    unfold tailP
    rw [hcut, e1]
    have hbc : byteAt (c :: r) 0 = byteAt T q := by show c = _; rw [e2, hb]
    rw [if_neg (by simp), hbc, hnd, if_neg (by simp), if_neg (by simp [hc])]
  rw [hq, hsp]
  unfold leafP
  rw [piece_skip, adv_pos, pos_skip, hq, htok]
  simp only
  rw [if_pos trivial]
  generalize (T.drop q).take (runLen (T.drop q)) = l
  unfold wordP toldP
  by_cases w1 : l = nilT
  · rw [if_pos w1, if_pos w1]; rfl
  · rw [if_neg w1, if_neg w1]
    by_cases w2 : l = trueT
    · rw [if_pos w2, if_pos w2]; rfl
    · rw [if_neg w2, if_neg w2]
      by_cases w3 : l = falseT
      · rw [if_pos w3, if_pos w3]; rfl
      · rw [if_neg w3, if_neg w3]
        by_cases w4 : isReserved l = true
        · rw [if_pos w4]; simp [w4]
        · rw [if_neg w4]
          by_cases w5 : 16 < l.length
          · rw [if_pos w5]; simp [w4, w5]
          · rw [if_neg w5]; simp [w4, w5]; rfl
end Go.Proofs.YtbogejmmkohbkaaGreatDoor.Sx

namespace Go.Proofs.YtbogejmmkohbkaaGreatDoor.Sx

theorem all_take_run (l : List UInt8) (h : (l.take (runLen l)).all isDigit = true) : ∀ c ∈ l.take (runLen l), isDigit c = true := List.all_eq_true.1 h
/-- a number without a sign -/
theorem single_digits {m : Nat} {T : List UInt8} {br : St → Except (Nat × Nat) (AV (m + 1) × St)} {p : Nat} {hv : Bool} (hlen : skipN T p < T.length) (hc : isDigit (byteAt T (skipN T p)) = true) :
    leafP T br (pos T p hv) = toldP T (skipN T p) hv (singleP T (skipN T p)) := by
  obtain ⟨q, hq⟩ : ∃ q, skipN T p = q := ⟨_, rfl⟩
  rw [hq] at hlen hc
  have hb := byteAt_drop T q
  have hl0 : 0 < (T.drop q).length := by rw [List.length_drop]; omega
  have hpart : isPart (byteAt (T.drop q) 0) = true := by rw [hb]; simp [isPart, hc]
  obtain ⟨c, r, e1, e2, e3⟩ := run_nonempty hpart hl0
  have hnl : isLetter (byteAt T q) = false := (digit_ne _ hc).2
  have h34 : ¬ (byteAt T q).toNat = 34 := fun h => by
    have : byteAt T q = 34 := UInt8.toNat_inj.1 h
    rw [this] at hc; exact absurd hc (by decide)
  have h45 : ¬ (byteAt T q).toNat = 45 := fun h => by
    have : byteAt T q = 45 := UInt8.toNat_inj.1 h
    rw [this] at hc; exact absurd hc (by decide)
  have htok : tokT (T.drop q) = digitsT (T.drop q) := by
    unfold tokT
    rw [if_neg (by omega), hb, if_neg (by simp [hnl]), if_pos hc]
  have hcut := cut_run T q
  have hbc : byteAt (c :: r) 0 = byteAt T q := by show c = _; rw [e2, hb]
  have hsp : singleP T q = numP ((T.drop q).take (runLen (T.drop q))) false q (q + runLen (T.drop q)) := by
    unfold singleP
    rw [if_neg (by omega), if_neg h34, if_neg h45]
    unfold tailP
    rw [hcut, e1, if_neg (by simp), hbc, hc, if_pos rfl]
    simp
  have hhead : (T.drop q).headD 0 = c := by
    cases hd : T.drop q with
    | nil => rw [hd] at hl0; simp at hl0
    | cons a b => rw [hd] at e2; exact e2.symm
  have hlenr : ((T.drop q).take (runLen (T.drop q))).length = runLen (T.drop q) := by rw [List.length_take]; have := runLen_le (T.drop q); omega
  have hok := (numOK_pos ((T.drop q).take (runLen (T.drop q)))).resolve_right (by rw [e1]; simp)
  have hh2 : ((T.drop q).take (runLen (T.drop q))).headD 0 = c := by rw [e1]; rfl
  rw [hh2, hlenr] at hok
  rw [hq, hsp]
  have hdg : digitsT (T.drop q) = (if numOK ((T.drop q).take (runLen (T.drop q))) false then 2 else 5, runLen (T.drop q)) := by
    unfold digitsT
    rw [hhead, hok]
    by_cases a1 : c = 48 ∧ 1 < runLen (T.drop q)
    · rw [if_pos a1]; simp [a1.1, a1.2]
    · rw [if_neg a1]
      have a2 : (decide (c = 48) && decide (1 < runLen (T.drop q))) = false := by
        rw [Bool.and_eq_false_iff]
        by_cases a3 : c = 48
        · right; simp only [decide_eq_false_iff_not]; exact fun h => a1 ⟨a3, h⟩
        · left; simp [a3]
      rw [a2]
      cases hall : ((T.drop q).take (runLen (T.drop q))).all isDigit <;> simp
  cases hn : numOK ((T.drop q).take (runLen (T.drop q))) false with
  | false =>
    rw [leaf_none (by rw [hq, htok, hdg, hn]; simp), hq]
    unfold numP toldP noneP
    rw [hn]; rfl
  | true =>
    have hall : ∀ d ∈ (T.drop q).take (runLen (T.drop q)), isDigit d = true := by
      rw [hok, Bool.and_eq_true] at hn
      exact List.all_eq_true.1 hn.2
    have hp := parse_pos _ (by rw [e1]; simp) hall
    unfold leafP
    rw [piece_skip, adv_pos, pos_skip, hq, htok, hdg, hn]
    simp only
    rw [if_neg (by simp), if_pos (by simp), hp]
    unfold numP toldP noneP
    rw [hn]
    generalize valD 0 ((T.drop q).take (runLen (T.drop q))) = N
    by_cases hN : N < 9223372036854775808
    · have h1 : ¬ 9223372036854775808 < N := by omega
      have h2 : ¬ N = 9223372036854775808 := by omega
      rw [if_pos hN]
      simp [h1, h2]
      rfl
    · rw [if_neg hN]
      by_cases h2 : N = 9223372036854775808
      · simp [h2]
      · have h1 : 9223372036854775808 < N := by omega
        simp [h1]
end Go.Proofs.YtbogejmmkohbkaaGreatDoor.Sx

namespace Go.Proofs.YtbogejmmkohbkaaGreatDoor.Sx

theorem digit_nat (c : UInt8) : isDigit c = true ↔ 48 ≤ c.toNat ∧ c.toNat ≤ 57 := by
  simp [isDigit, UInt8.le_iff_toNat_le]
theorem drop_eq {T : List UInt8} {q : Nat} (h : q < T.length) : T.drop q = byteAt T q :: T.drop (q + 1) := by
  rw [List.drop_eq_getElem_cons h]
  congr 1
  simp [byteAt, List.getD, List.getElem?_eq_getElem h]
/-- a number with a sign -/
theorem single_minus {m : Nat} {T : List UInt8} {br : St → Except (Nat × Nat) (AV (m + 1) × St)} {p : Nat} {hv : Bool} (hlen : skipN T p < T.length) (hc : byteAt T (skipN T p) = 45) :
    leafP T br (pos T p hv) = toldP T (skipN T p) hv (singleP T (skipN T p)) := by
  obtain ⟨q, hq⟩ : ∃ q, skipN T p = q := ⟨_, rfl⟩
  rw [hq] at hlen hc
  have hd := drop_eq hlen
  rw [hc] at hd
  have hb : byteAt (T.drop q) 0 = 45 := by rw [hd]; rfl
  have hb1 : byteAt (T.drop q) 1 = byteAt (T.drop (q + 1)) 0 := by rw [hd]; rfl
  have hd1 : (T.drop q).drop 1 = T.drop (q + 1) := by rw [hd]; rfl
  have hll : (T.drop q).length = (T.drop (q + 1)).length + 1 := by rw [hd]; rfl
  have htok : tokT (T.drop q) = negT (T.drop q) := by
    unfold tokT
    rw [if_neg (by omega), hb, if_neg (by decide), if_neg (by decide), if_pos (by decide)]
  have hcut := cut_run T (q + 1)
  have hsp : singleP T q = tailP T q (q + 1) := by
    unfold singleP
    rw [if_neg (by omega), hc, if_neg (by decide), if_pos (by decide)]
  rw [hq, hsp]
  unfold tailP
  rw [hcut]
  have hneg : negT (T.drop q) = if (T.drop (q + 1)).length < 1 ∨ (byteAt (T.drop (q + 1)) 0).toNat < 49 ∨ 57 < (byteAt (T.drop (q + 1)) 0).toNat then (5, 1) else ((digitsT (T.drop (q + 1))).1, (digitsT (T.drop (q + 1))).2 + 1) := by
    unfold negT
    rw [hb1, hd1, hll]
    simp only [Nat.add_lt_add_iff_right, show (2 : Nat) = 1 + 1 from rfl]
  obtain ⟨l, hl⟩ : ∃ l, T.drop (q + 1) = l := ⟨_, rfl⟩
  rw [hl] at hneg hd ⊢
  have hbad : (l.length < 1 ∨ (byteAt l 0).toNat < 49 ∨ 57 < (byteAt l 0).toNat) → leafP T br (pos T p hv) = .error (1, q) := fun h => by
    rw [leaf_none (by rw [hq, htok, hneg, if_pos h]; exact .inr rfl), hq]
  cases hpart : isPart (byteAt l 0) with
  | false =>
    rw [run_empty hpart, if_pos rfl]
    refine hbad ?_
    have : ¬ isDigit (byteAt l 0) = true := fun h => by simp [isPart, h] at hpart
    rw [digit_nat] at this
    omega
  | true =>
    by_cases hl0 : 0 < l.length
    · obtain ⟨c, r, e1, e2, e3⟩ := run_nonempty hpart hl0
      have hh : byteAt (l.take (runLen l)) 0 = byteAt l 0 := by rw [e1, ← e2]; rfl
      rw [if_neg (by rw [e1]; simp), hh]
      cases hdig : isDigit (byteAt l 0) with
      | false =>
        rw [if_neg (by simp), if_pos (.inl (by omega))]
        refine hbad ?_
        have : ¬ isDigit (byteAt l 0) = true := by simp [hdig]
        rw [digit_nat] at this
        omega
      | true =>
        rw [if_pos rfl]
        have hz : decide (q < q + 1) = true := by simp
        rw [hz]
        have hdn := (digit_nat _).1 hdig
        by_cases h48 : (byteAt l 0).toNat = 48
        · rw [hbad (by omega)]
          have : numOK (l.take (runLen l)) true = false := by
            unfold numOK zeroOK; rw [hh]; simp [h48]
          unfold numP toldP noneP
          rw [this]; rfl
        · have hnb : ¬ (l.length < 1 ∨ (byteAt l 0).toNat < 49 ∨ 57 < (byteAt l 0).toNat) := by omega
          rw [if_neg hnb] at hneg
          have hok : numOK (l.take (runLen l)) true = (l.take (runLen l)).all isDigit := by
            unfold numOK zeroOK; rw [hh]; simp [h48]
          have hhead : ¬ l.headD 0 = 48 := by
            have : l.headD 0 = byteAt l 0 := by cases l <;> rfl
            rw [this]; intro h; rw [h] at h48; exact h48 rfl
          have hdg : digitsT l = (if (l.take (runLen l)).all isDigit then 2 else 5, runLen l) := by
            unfold digitsT
            rw [if_neg (fun h => hhead h.1)]
            cases (l.take (runLen l)).all isDigit <;> simp
          rw [hdg] at hneg
          cases hall : (l.take (runLen l)).all isDigit with
          | false =>
            rw [hall] at hneg hok
            rw [leaf_none (by rw [hq, htok, hneg]; simp), hq]
            unfold numP toldP noneP
            rw [hok]; rfl
          | true =>
            rw [hall] at hneg hok
            have hp := parse_neg (l.take (runLen l)) (by rw [e1]; simp) (List.all_eq_true.1 hall)
            unfold leafP
            rw [piece_skip, adv_pos, pos_skip, hq, htok, hneg, hd]
            simp only
            rw [if_neg (by simp), if_pos (by simp), List.take_succ_cons, hp]
            unfold numP toldP noneP
            rw [hok]
            generalize valD 0 (l.take (runLen l)) = N
            have hen : q + (runLen l + 1) = q + 1 + runLen l := by omega
            rw [hen]
            by_cases hN : N ≤ 9223372036854775808
            · have h1 : ¬ 9223372036854775808 < N := by omega
              rw [if_pos hN]
              simp [h1]
              rfl
            · rw [if_neg hN]
              have h1 : 9223372036854775808 < N := by omega
              simp [h1]
    · rw [show l = [] from List.length_eq_zero_iff.1 (by omega)] at hpart
      exact absurd hpart (by decide)

/-- a text -/
theorem single_quote {m : Nat} {T : List UInt8} {br : St → Except (Nat × Nat) (AV (m + 1) × St)} {p : Nat} {hv : Bool} (hlen : skipN T p < T.length) (hc : byteAt T (skipN T p) = 34) :
    leafP T br (pos T p hv) = toldP T (skipN T p) hv (singleP T (skipN T p)) := by
  obtain ⟨q, hq⟩ : ∃ q, skipN T p = q := ⟨_, rfl⟩
  rw [hq] at hlen hc
  have hd := drop_eq hlen
  rw [hc] at hd
  have hb : byteAt (T.drop q) 0 = 34 := by rw [hd]; rfl
  have hd1 : (T.drop q).drop 1 = T.drop (q + 1) := by rw [hd]; rfl
  have hll : (T.drop q).length = (T.drop (q + 1)).length + 1 := by rw [hd]; rfl
  have htok : tokT (T.drop q) = qScan (T.drop (q + 1)) 1 := by
    unfold tokT
    rw [if_neg (by omega), hb, if_neg (by decide), if_neg (by decide), if_neg (by decide), if_pos (by decide), hd1]
  have hsh := qScan_shift (T.drop (q + 1)) q 1
  have hcls := qScan_cls (T.drop (q + 1)) 1
  have hsp : singleP T q = if (qScan (T.drop (q + 1)) 1).1 = 3 then (3, 0, (T.take (q + (qScan (T.drop (q + 1)) 1).2 - 1)).drop (q + 1), 0, q + (qScan (T.drop (q + 1)) 1).2) else noneP 1 q := by
    unfold singleP
    rw [if_neg (by omega), hc, if_pos (by decide), hsh]
  rw [hq, hsp]
  obtain ⟨cl, en, hqs⟩ : ∃ cl en, qScan (T.drop (q + 1)) 1 = (cl, en) := ⟨_, _, rfl⟩
  have hle : en ≤ (T.drop q).length := by
    have := (tokT_le (T.drop q))
    rw [htok, hqs] at this
    exact this
  rw [hqs] at htok hcls ⊢
  simp only at hcls ⊢
  rcases hcls with h | h
  · subst h
    rw [if_pos rfl]
    unfold leafP
    rw [piece_skip, adv_pos, pos_skip, hq, htok]
    simp only
    rw [if_neg (by decide), if_neg (by decide), if_pos trivial]
    unfold toldP
    rw [if_pos rfl]
    have e : ((((T.drop q).take en).take (((T.drop q).take en).length - 1)).drop 1) = (T.take (q + en - 1)).drop (q + 1) := by
      rw [List.length_take, Nat.min_eq_left hle, List.take_take, Nat.min_eq_left (by omega), List.drop_take, List.drop_take, List.drop_drop]
      congr 1; omega
    rw [e]
    rfl
  · subst h
    rw [if_neg (by decide), leaf_none (by rw [hq, htok]; exact .inr rfl), hq]
    rfl

/-- the end -/
theorem single_end {m : Nat} {T : List UInt8} {br : St → Except (Nat × Nat) (AV (m + 1) × St)} {p : Nat} {hv : Bool} (hlen : skipN T p = T.length) :
    leafP T br (pos T p hv) = toldP T (skipN T p) hv (singleP T (skipN T p)) := by
  rw [leaf_none (by rw [hlen, List.drop_length]; exact .inl rfl)]
  unfold singleP
  rw [if_pos hlen.symm]
  rfl
/-- what opens nothing -/
theorem single_other {m : Nat} {T : List UInt8} {br : St → Except (Nat × Nat) (AV (m + 1) × St)} {p : Nat} {hv : Bool} (hbr : br (pos T p hv) = .error (1, skipN T p)) (hlen : skipN T p < T.length) (h1 : isLetter (byteAt T (skipN T p)) = false) (h2 : isDigit (byteAt T (skipN T p)) = false) (h3 : ¬ byteAt T (skipN T p) = 45) (h4 : ¬ byteAt T (skipN T p) = 34) :
    leafP T br (pos T p hv) = toldP T (skipN T p) hv (singleP T (skipN T p)) := by
  obtain ⟨q, hq⟩ : ∃ q, skipN T p = q := ⟨_, rfl⟩
  rw [hq] at hlen h1 h2 h3 h4
  have hb := byteAt_drop T q
  have hl0 : 0 < (T.drop q).length := by rw [List.length_drop]; omega
  have h34 : ¬ (byteAt T q).toNat = 34 := fun h => h4 (UInt8.toNat_inj.1 h)
  have h45 : ¬ (byteAt T q).toNat = 45 := fun h => h3 (UInt8.toNat_inj.1 h)
  have htok : tokT (T.drop q) = signT (T.drop q) := by
    unfold tokT
    rw [if_neg (by omega), hb, if_neg (by simp [h1]), if_neg (by simp [h2]), if_neg h45, if_neg h34]
  have hcl : (signT (T.drop q)).1 = 4 ∨ (signT (T.drop q)).1 = 5 := by
    unfold signT; repeat' split
    all_goals simp
  have hsp : singleP T q = noneP 1 q := by
    unfold singleP
    rw [if_neg (by omega), if_neg h34, if_neg h45]
    unfold tailP
    rw [cut_run]
    cases hpart : isPart (byteAt (T.drop q) 0) with
    | false => rw [run_empty hpart, if_pos rfl]
    | true =>
      obtain ⟨c, r, e1, e2, e3⟩ := run_nonempty hpart hl0
      have hh : byteAt ((T.drop q).take (runLen (T.drop q))) 0 = byteAt T q := by rw [e1, ← hb, ← e2]; rfl
      rw [if_neg (by rw [e1]; simp), hh, h2, if_neg (by simp), if_pos (.inr h1)]
  have he : leafP T br (pos T p hv) = .error (1, q) := by
    rcases hcl with h | h
    · rw [hq] at hbr
      rw [← hbr]
      unfold leafP
      rw [show (pos T p hv).cl = 4 from by rw [pos_skip, hq, htok, h]]
      simp
    · rw [leaf_none (by rw [hq, htok]; exact .inr h), hq]
  rw [he, hq, hsp]
  rfl
/-- a single value is read as the reference reads it -/
theorem single_leaf {m : Nat} {T : List UInt8} {br : St → Except (Nat × Nat) (AV (m + 1) × St)} {p : Nat} {hv : Bool} (hle : skipN T p ≤ T.length) (hbr : br (pos T p hv) = .error (1, skipN T p)) :
    leafP T br (pos T p hv) = toldP T (skipN T p) hv (singleP T (skipN T p)) := by
  by_cases h0 : skipN T p = T.length
  · exact single_end h0
  · have hlen : skipN T p < T.length := by omega
    cases h1 : isLetter (byteAt T (skipN T p)) with
    | true => exact single_word hlen h1
    | false =>
      cases h2 : isDigit (byteAt T (skipN T p)) with
      | true => exact single_digits hlen h2
      | false =>
        by_cases h3 : byteAt T (skipN T p) = 45
        · exact single_minus hlen h3
        · by_cases h4 : byteAt T (skipN T p) = 34
          · exact single_quote hlen h4
          · exact single_other hbr hlen h1 h2 h3 h4
end Go.Proofs.YtbogejmmkohbkaaGreatDoor.Sx
