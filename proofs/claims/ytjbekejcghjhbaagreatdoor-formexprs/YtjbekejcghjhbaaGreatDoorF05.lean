/- What stands between tokens; the token that a text begins with. -/
import Derived.Test.YtjbekejcghjhbaaGreatDoorF04
import Derived.Lib.IndexAny
namespace Go.Proofs.YtjbekejcghjhbaaGreatDoor.Sx
open Go.RowKit Go.Sort

def rmkLen (l : List UInt8) : Nat := if Lib.indexByte l 10 < 0 then l.length else (Lib.indexByte l 10).toNat
theorem rmkLen_cons (c : UInt8) (l : List UInt8) : rmkLen (c :: l) = if c == 10 then 0 else rmkLen l + 1 := by
  have hg := Lib.indexByte_ge l 10
  unfold rmkLen
  rw [Lib.indexByte]
  by_cases h : (c == 10) = true
  · rw [if_pos h, if_pos h]; rfl
  · rw [if_neg h, if_neg h]
    by_cases q : Lib.indexByte l 10 = -1
    · rw [q]; simp
    · have e : (if (Lib.indexByte l 10 == -1) = true then (-1 : Int) else Lib.indexByte l 10 + 1) = Lib.indexByte l 10 + 1 := if_neg (by simpa using q)
      rw [e, if_neg (by omega), if_neg (by omega)]; omega
theorem btw_true : ∀ l : List UInt8, btw true l = rmkLen l + btw false (l.drop (rmkLen l))
  | [] => rfl
  | c :: l => by
    rw [rmkLen_cons]
    by_cases h : c = 10
    · subst h; simp [btw, isBlank]
    · have := btw_true l
      have h' : (c == 10) = false := by simpa using h
      rw [h', if_neg (by simp)]
      simp only [btw, h', Bool.or_true, if_true, Bool.not_false, Bool.and_self, List.drop_succ_cons]
      omega
theorem btw_step (l : List UInt8) (k : Nat) (c : UInt8) (h : l[k]? = some c) :
    (isBlank c = true → btw false (l.drop k) = 1 + btw false (l.drop (k + 1))) ∧ (isBlank c = false → c = 35 → btw false (l.drop k) = rmkLen (l.drop k) + btw false (l.drop (k + rmkLen (l.drop k))) ∧ 0 < rmkLen (l.drop k) ∧ k + rmkLen (l.drop k) ≤ l.length) ∧ (isBlank c = false → ¬ c = 35 → btw false (l.drop k) = 0) := by
  obtain ⟨h1, e1⟩ := List.getElem?_eq_some_iff.1 h
  rw [List.drop_eq_getElem_cons h1, e1]
  refine ⟨fun q => ?_, fun q e => ?_, fun q e => ?_⟩
  · have : (c == 35) = false := by
      unfold isBlank at q
      simp only [Bool.or_eq_true, beq_iff_eq] at q
      rcases q with (q | q) | q <;> subst q <;> rfl
    simp [btw, q, this]
  · subst e
    have e2 : rmkLen ((35 : UInt8) :: l.drop (k + 1)) = rmkLen (l.drop (k + 1)) + 1 := by rw [rmkLen_cons]; rfl
    have hle : rmkLen (l.drop (k + 1)) ≤ (l.drop (k + 1)).length := by
      generalize l.drop (k + 1) = m
      induction m with
      | nil => exact Nat.le_refl _
      | cons a m ih => rw [rmkLen_cons]; split <;> simp; omega
    rw [e2]
    simp only [List.length_drop] at hle
    refine ⟨?_, by omega, by omega⟩
    rw [btw, if_pos (by simp), show (((35 : UInt8) == 35 || false) && !((35 : UInt8) == 10)) = true from rfl, btw_true, List.drop_drop]
    rw [show k + 1 + rmkLen (l.drop (k + 1)) = k + (rmkLen (l.drop (k + 1)) + 1) from by omega]
    omega
  · have : (c == 35) = false := by simpa using e
    simp [btw, q, this]

set_option maxRecDepth 100000 in
theorem fremark_any (s : ByteArray) (w : World) : Calls Tryz.prog 287 #[.string s] w fun e w' => e = .returned (.int .i64 (rmkLen s.data.toList)) ∧ w' = w := by
  have hl : s.data.toList.length = s.size := by simp
  have hix := Tryz.strings_IndexByte s 10 w
  have hg := Lib.indexByte_ge s.data.toList 10
  unfold rmkLen
  rw [show ((10 : Int).toNat.toUInt8) = 10 from rfl] at hix
  generalize Lib.indexByte s.data.toList 10 = d at hix hg
  have HIX : Hid (Calls _ _ _ _ _) := hix
  clear hix
  by_cases q : d < 0
  · rw [if_pos q, hl]
    go_enter Tryz.func287, Tryz.ntmps287
    go_wp2_with (go_at_call 168; refine HIX.out.mono ?_; rintro e w' ⟨rfl, hw⟩; cases hw)
    go_ret
    exact ⟨rfl, rfl⟩
  · rw [if_neg q, Int.toNat_of_nonneg (by omega)]
    go_enter Tryz.func287, Tryz.ntmps287
    go_wp2_with (go_at_call 168; refine HIX.out.mono ?_; rintro e w' ⟨rfl, hw⟩; cases hw)
    go_ret
    exact ⟨rfl, rfl⟩

set_option maxRecDepth 100000 in
set_option maxHeartbeats 1000000 in
theorem fbetween_any (s : ByteArray) (w : World) (hs : s.size ≤ 4000) : Calls Tryz.prog 244 #[.string s] w fun e w' => e = .returned (.int .i64 (btw false s.data.toList)) ∧ w' = w := by
  have hl : s.data.toList.length = s.size := by simp
  have hB := btw_le false s.data.toList
  obtain ⟨N, hN⟩ : ∃ N, btw false s.data.toList = N := ⟨_, rfl⟩
  have HN : Hid (btw false s.data.toList = N) := hN
  rw [hN] at hB ⊢
  clear hN
  have mo := follows
  have HB : Hid _ := blank_any
  go_enter Tryz.func244, Tryz.ntmps244
  go_wp2_with fail
  go_loopw [3] (fun i wr => ∃ k : Nat, k ≤ s.size ∧ i = .int .i64 k ∧ Hid (wr = w) ∧ Hid (N = k + btw false (s.data.toList.drop k))) (fun i _ => s.size - (intOf i).toNat)
  case atStart => exact ⟨0, Nat.zero_le _, rfl, rfl, by show N = _; rw [← HN.out]; simp⟩
  case round =>
    obtain ⟨k, hk, rfl, HQ, HE⟩ := hrel
    by_cases hlt : k < s.size
    · have hst := btw_step s.data.toList k s[k] (by rw [List.getElem?_eq_getElem (by omega)]; rfl)
      have HBk := HB.out s[k]
      have hc35 : (s[k] = 35) ↔ (s[k].toNat : Int) = 35 := by rw [← UInt8.toNat_inj]; simp; omega
      rw [hc35] at hst
      generalize isBlank s[k] = b at hst HBk
      have HBK : Hid (∀ W, Calls Tryz.prog 117 #[.int .u8 (UInt8.toNat s[k])] W _) := HBk
      have HST : Hid _ := hst
      clear hst HBk hc35
      cases b with
      | true =>
        have HE' : Hid (N = (k + 1) + btw false (s.data.toList.drop (k + 1))) := by
          show N = _
          have := HST.out.1 rfl; have := HE.out; omega
        clear HST HE
        go_wp2_with (go_at_call 117; refine (HBK.out _).mono ?_; rintro e w' ⟨rfl, rfl⟩)
        go_roundw
        case rel => exact ⟨k + 1, hlt, by go_num, HQ, HE'⟩
        case measure => simp [intOf]; omega
      | false =>
        by_cases q : (s[k].toNat : Int) = 35
        · obtain ⟨h1, h2, h3⟩ := HST.out.2.1 rfl q
          have hr := fun W => fremark_any (s.extract k s.size) W
          rw [show (s.extract k s.size).data.toList = s.data.toList.drop k from by rw [extract_list, List.take_of_length_le (by omega)]] at hr
          generalize rmkLen (s.data.toList.drop k) = m at h1 h2 h3 hr
          have HR : Hid (∀ W, Calls Tryz.prog 287 #[.string (s.extract k s.size)] W _) := hr
          have HE' : Hid (N = (k + m) + btw false (s.data.toList.drop (k + m))) := by
            show N = _
            have := HE.out; omega
          have q' : ((s[k].toNat : Int) == 35) = true := by simp [q]
          have h3' : k + m ≤ s.size := by omega
          clear HST HE h1 q h3 hr
          go_wp2_with (first | (go_at_call 117; refine (HBK.out _).mono ?_; rintro e w' ⟨rfl, rfl⟩) | (go_at_call 287; refine (HR.out _).mono ?_; rintro e w' ⟨rfl, rfl⟩))
          go_roundw
          case rel => exact ⟨k + m, h3', by go_num, HQ, HE'⟩
          case measure => simp [intOf]; omega
        · have HF : Hid (N = k) := by
            show N = _
            have := HST.out.2.2 rfl q; have := HE.out; omega
          have q' : ((s[k].toNat : Int) == 35) = false := by simp [q]
          clear HST HE q
          go_wp2_with (go_at_call 117; refine (HBK.out _).mono ?_; rintro e w' ⟨rfl, rfl⟩)
          go_ret
          exact ⟨by rw [HF.out]; rfl, HQ.out⟩
    · have HF : Hid (N = k) := by
        show N = _
        have := HE.out
        rw [List.drop_of_length_le (by omega)] at this
        simpa [btw] using this
      clear HE
      go_wp2_with fail
      go_ret
      exact ⟨by rw [HF.out]; rfl, HQ.out⟩

set_option maxRecDepth 100000 in
theorem fsound_any (c n : Int) (b : Bool) (w : World) : Calls Tryz.prog 288 #[.int .i64 c, .int .i64 n, .bool b] w fun e w' => e = .returned (.tuple #[.int .i64 (if b then c else 5), .int .i64 n]) ∧ w' = w := by
  cases b with
  | true =>
    rw [if_pos rfl]
    go_enter Tryz.func288, Tryz.ntmps288
    go_wp2
    go_ret2
    exact ⟨rfl, rfl⟩
  | false =>
    rw [if_neg (by simp)]
    go_enter Tryz.func288, Tryz.ntmps288
    go_wp2
    go_ret2
    exact ⟨rfl, rfl⟩
end Go.Proofs.YtjbekejcghjhbaaGreatDoor.Sx

namespace Go.Proofs.YtjbekejcghjhbaaGreatDoor.Sx
open Go.RowKit Go.Sort

theorem two_yes {l v : List UInt8} {n : Nat} {c : Bool} {r : Nat} (H : Hid (r = if decide (1 < n) && signs2.contains l then 2 else if c then 1 else 0)) (hn : 1 < n) (h : (l == v) = true) (hv : signs2.contains v = true) : r = 2 := by
  have := eq_of_beq h
  subst this
  rw [H.out, hv]; simp [hn]
theorem two_no {l : List UInt8} {n : Nat} {c : Bool} {r : Nat} (H : Hid (r = if decide (1 < n) && signs2.contains l then 2 else if c then 1 else 0)) (h : signs2.contains l = false) : r = if c then 1 else 0 := by
  rw [H.out, h]; simp

set_option maxRecDepth 100000 in
set_option maxHeartbeats 2000000 in
theorem fsign_walk (s : ByteArray) (w : World) (h0 : 0 < s.size) (d : Int) (r : Nat) (hix : Calls Tryz.prog 168 #[.string ⟨#[61, 60, 62, 43, 45, 42, 47, 37, 40, 41, 123, 125, 91, 93, 44, 58, 46, 39]⟩, .int .u8 (s[0].toNat : Int)] w fun e w' => e = .returned (.int .i64 d) ∧ w' = w)
    (H : Hid (r = if decide (1 < s.size) && signs2.contains (s.extract 0 2).toList then 2 else if decide (0 ≤ d) then 1 else 0)) :
    Calls Tryz.prog 289 #[.string s] w fun e w' => e = .returned (.int .i64 r) ∧ w' = w := by
  have HIX : Hid (Calls _ _ _ _ _) := hix
  clear hix
  have mo := follows
  by_cases h1 : 1 < s.size
  · have h1' : (1 : Int) < (s.size : Int) := by omega
    have h2' : (2 : Int) ≤ (s.size : Int) := by omega
    go_enter Tryz.func289, Tryz.ntmps289
    go_wp2_with fail
    all_goals first
      | (exact bool_absurd ‹((s.extract 0 2).toList == _) = true› ‹((s.extract 0 2).toList == _) = false›)
      | (
        have q := two_yes H h1 ‹((s.extract 0 2).toList == _) = true› (by decide)
        subst q
        go_ret
        exact ⟨rfl, rfl⟩)
      | skip
    have q := two_no H (by
      simp only [signs2, List.contains_cons, List.contains_nil, Bool.or_false, Bool.or_eq_false_iff]
      repeat' constructor
      all_goals assumption)
    have HQ : Hid (r = _) := q
    clear H q
    by_cases hd : 0 ≤ d
    · have HD : Hid (0 ≤ d) := hd
      go_wp2_with (go_at_call 168; refine HIX.out.mono ?_; rintro e w' ⟨rfl, hw⟩; cases hw)
      go_ret
      exact ⟨by rw [HQ.out]; simp [HD.out], rfl⟩
    · have HD : Hid (¬ 0 ≤ d) := hd
      go_wp2_with (go_at_call 168; refine HIX.out.mono ?_; rintro e w' ⟨rfl, hw⟩; cases hw)
      go_ret
      exact ⟨by rw [HQ.out, decide_eq_false (by have := HD.out; omega)]; rfl, rfl⟩
  · have h1' : ¬ (1 : Int) < (s.size : Int) := by omega
    have HQ : Hid (r = if decide (0 ≤ d) then 1 else 0) := by show r = _; rw [H.out]; simp [h1]
    clear H
    by_cases hd : 0 ≤ d
    · have HD : Hid (0 ≤ d) := hd
      go_enter Tryz.func289, Tryz.ntmps289
      go_wp2_with (go_at_call 168; refine HIX.out.mono ?_; rintro e w' ⟨rfl, hw⟩; cases hw)
      go_ret
      exact ⟨by rw [HQ.out]; simp [HD.out], rfl⟩
    · have HD : Hid (¬ 0 ≤ d) := hd
      go_enter Tryz.func289, Tryz.ntmps289
      go_wp2_with (go_at_call 168; refine HIX.out.mono ?_; rintro e w' ⟨rfl, hw⟩; cases hw)
      go_ret
      exact ⟨by rw [HQ.out, decide_eq_false (by have := HD.out; omega)]; rfl, rfl⟩
theorem fsignLength_any (s : ByteArray) (w : World) (h0 : 0 < s.size) : Calls Tryz.prog 289 #[.string s] w fun e w' => e = .returned (.int .i64 (signF s.data.toList)) ∧ w' = w := by
  have hl : s.data.toList.length = s.size := by simp
  have hix := Tryz.strings_IndexByte ⟨#[61, 60, 62, 43, 45, 42, 47, 37, 40, 41, 123, 125, 91, 93, 44, 58, 46, 39]⟩ (s[0].toNat : Int) w
  rw [show ((s[0].toNat : Int).toNat.toUInt8) = byteAt s.data.toList 0 from by rw [byteAt_data s 0 h0]; simp] at hix
  refine fsign_walk s w h0 _ _ hix ?_
  show signF _ = _
  unfold signF
  rw [ByteArray.toList_eq, extract_list, List.drop_zero, hl, Lib.contains_iff_indexByte]
  rfl

set_option maxRecDepth 100000 in
theorem ftoken_empty (s : ByteArray) (w : World) (h : s.size = 0) : Calls Tryz.prog 245 #[.string s] w fun e w' => e = .returned (.tuple #[.int .i64 0, .int .i64 0]) ∧ w' = w := by
  have hs : s = ⟨#[]⟩ := by
    have : s.data.size = 0 := by simpa using h
    cases s; simp_all
  subst hs
  go_enter Tryz.func245, Tryz.ntmps245
  go_wp2_with fail
  go_ret2
  exact ⟨rfl, rfl⟩

set_option maxRecDepth 100000 in
set_option maxHeartbeats 2000000 in
theorem ftoken_walk (s : ByteArray) (w : World) (h0 : 0 < s.size) (b1 b2 : Bool) (r1 r2 : Nat)
    (hL : Calls Tryz.prog 160 #[.int .u8 (s[0].toNat : Int)] w fun e w' => e = .returned (.bool b1) ∧ w' = w)
    (hP : Calls Tryz.prog 255 #[.int .u8 (s[0].toNat : Int)] w fun e w' => e = .returned (.bool b2) ∧ w' = w)
    (h1 : b1 = true → r1 = 1 ∧ Calls Tryz.prog 161 #[.string s] w fun e w' => e = .returned (.int .i64 r2) ∧ w' = w)
    (h2 : b1 = false → b2 = true → ∃ b : Bool, r1 = (if b then 2 else 5) ∧ Calls Tryz.prog 163 #[.string s] w fun e w' => e = .returned (.tuple #[.int .i64 r2, .bool b]) ∧ Grew w w')
    (h3 : b1 = false → b2 = false → (s[0].toNat : Int) = 34 → ∃ b : Bool, r1 = (if b then 3 else 5) ∧ Calls Tryz.prog 166 #[.string s] w fun e w' => e = .returned (.tuple #[.int .i64 r2, .bool b]) ∧ w' = w)
    (h4 : b1 = false → b2 = false → (s[0].toNat : Int) ≠ 34 → r1 = (if decide (0 < r2) then 4 else 5) ∧ Calls Tryz.prog 289 #[.string s] w fun e w' => e = .returned (.int .i64 r2) ∧ w' = w) :
    Calls Tryz.prog 245 #[.string s] w fun e w' => e = .returned (.tuple #[.int .i64 r1, .int .i64 r2]) ∧ Grew w w' := by
  have HL : Hid (Calls _ _ _ _ _) := hL
  have HP : Hid (Calls _ _ _ _ _) := hP
  clear hL hP
  have mo := follows
  have hne : s.toList.isEmpty = false := by
    rw [ByteArray.toList_eq]
    cases q : s.data.toList with
    | nil => have : s.data.toList.length = s.size := by simp
             rw [q] at this; simp at this; omega
    | cons a l => rfl
  cases b1 with
  | true =>
    obtain ⟨h2', h1⟩ := h1 rfl
    have H1 : Hid (Calls _ _ _ _ _) := h1
    have H2 : Hid (r1 = 1) := h2'
    clear h1 h2' h2 h3 h4
    go_enter Tryz.func245, Tryz.ntmps245
    go_wp2_with (first | (go_at_call 160; refine HL.out.mono ?_; rintro e w' ⟨rfl, hw⟩; cases hw) | (go_at_call 161; refine H1.out.mono ?_; rintro e w' ⟨rfl, hw⟩; cases hw))
    go_ret2
    exact ⟨by rw [H2.out]; rfl, Grew.refl _⟩
  | false =>
    clear h1
    cases b2 with
    | true =>
      obtain ⟨b, hb, hc⟩ := h2 rfl rfl
      have H1 : Hid (Calls _ _ _ _ _) := hc
      have HS : Hid (∀ W : World, _) := fun W => fsound_any 2 (r2 : Int) b W
      have HBB : Hid (r1 = if b then 2 else 5) := hb
      clear h2 h3 h4 hc hb
      cases b
      all_goals
        go_enter Tryz.func245, Tryz.ntmps245
        go_wp2_with (first | (go_at_call 160; refine HL.out.mono ?_; rintro e w' ⟨rfl, hw⟩; cases hw) | (go_at_call 255; refine HP.out.mono ?_; rintro e w' ⟨rfl, hw⟩; cases hw) | (go_at_call 163; refine H1.out.mono ?_; rintro e w' ⟨rfl, hg⟩; have HG : Hid (Grew w w') := hg; clear hg) | (go_at_call 288; refine (HS.out _).mono ?_; rintro e w' ⟨rfl, hw⟩; cases hw))
        go_ret2
        rw [HBB.out]
        exact ⟨rfl, by assumption⟩
    | false =>
      clear h2
      have h3 := h3 rfl rfl
      have h4 := h4 rfl rfl
      by_cases q1 : (s[0].toNat : Int) = 34
      · obtain ⟨b, hb, hc⟩ := h3 q1
        have H1 : Hid (Calls _ _ _ _ _) := hc
        have HS : Hid (∀ W : World, _) := fun W => fsound_any 3 (r2 : Int) b W
        have HBB : Hid (r1 = if b then 3 else 5) := hb
        have q' : ((s[0].toNat : Int) == 34) = true := by simp [q1]
        clear h3 h4 q1 hc hb
        cases b
        all_goals
          go_enter Tryz.func245, Tryz.ntmps245
          go_wp2_with (first | (go_at_call 160; refine HL.out.mono ?_; rintro e w' ⟨rfl, hw⟩; cases hw) | (go_at_call 255; refine HP.out.mono ?_; rintro e w' ⟨rfl, hw⟩; cases hw) | (go_at_call 166; refine H1.out.mono ?_; rintro e w' ⟨rfl, hw⟩; cases hw) | (go_at_call 288; refine (HS.out _).mono ?_; rintro e w' ⟨rfl, hw⟩; cases hw))
          go_ret2
          rw [HBB.out]
          exact ⟨rfl, Grew.refl _⟩
      · obtain ⟨hb, hc⟩ := h4 q1
        have H1 : Hid (Calls _ _ _ _ _) := hc
        have HS : Hid (∀ (W : World) (b : Bool), _) := fun W b => fsound_any 4 (r2 : Int) b W
        have HBB : Hid (r1 = if decide (0 < r2) then 4 else 5) := hb
        have q' : ((s[0].toNat : Int) == 34) = false := by simp [q1]
        clear h3 h4 q1 hc hb
        by_cases hr : 0 < r2
        · have hr' : (0 : Int) < (r2 : Int) := by omega
          go_enter Tryz.func245, Tryz.ntmps245
          go_wp2_with (first | (go_at_call 160; refine HL.out.mono ?_; rintro e w' ⟨rfl, hw⟩; cases hw) | (go_at_call 255; refine HP.out.mono ?_; rintro e w' ⟨rfl, hw⟩; cases hw) | (go_at_call 289; refine H1.out.mono ?_; rintro e w' ⟨rfl, hw⟩; cases hw) | (go_at_call 288; refine (HS.out _ _).mono ?_; rintro e w' ⟨rfl, hw⟩; cases hw))
          go_ret2
          rw [HBB.out]
          exact ⟨by simp [hr], Grew.refl _⟩
        · have hr' : ¬ (0 : Int) < (r2 : Int) := by omega
          go_enter Tryz.func245, Tryz.ntmps245
          go_wp2_with (first | (go_at_call 160; refine HL.out.mono ?_; rintro e w' ⟨rfl, hw⟩; cases hw) | (go_at_call 255; refine HP.out.mono ?_; rintro e w' ⟨rfl, hw⟩; cases hw) | (go_at_call 289; refine H1.out.mono ?_; rintro e w' ⟨rfl, hw⟩; cases hw) | (go_at_call 288; refine (HS.out _ _).mono ?_; rintro e w' ⟨rfl, hw⟩; cases hw))
          go_ret2
          rw [HBB.out]
          exact ⟨by simp [hr], Grew.refl _⟩

theorem ftoken_any (s : ByteArray) (w : World) (hs : s.size ≤ 4294967296) : Calls Tryz.prog 245 #[.string s] w fun e w' => e = .returned (.tuple #[.int .i64 (tokF s.data.toList).1, .int .i64 (tokF s.data.toList).2]) ∧ Grew w w' := by
  have hl : s.data.toList.length = s.size := by simp
  by_cases h0 : s.size = 0
  · have : tokF s.data.toList = (0, 0) := by unfold tokF; rw [if_pos (by omega)]
    rw [this]
    exact (ftoken_empty s w h0).mono fun e w' h => ⟨h.1, by rw [h.2]; exact Grew.refl _⟩
  · have hb := byteAt_data s 0 (by omega)
    unfold tokF
    rw [if_neg (by omega), hb]
    refine ftoken_walk s w (by omega) (isLetter s[0]) (isPart s[0]) _ _ (letter_any _ w) (part_any _ w) ?_ ?_ ?_ ?_
    · intro h; rw [if_pos h]; exact ⟨rfl, run_any s w hs⟩
    · intro h h'; rw [if_neg (by simp [h]), if_pos h']; exact ⟨numB s.data.toList, rfl, number_any s w hs (by omega)⟩
    · intro h h' q; rw [if_neg (by simp [h]), if_neg (by simp [h']), if_pos (by omega)]
      refine ⟨decide ((qScan (s.data.toList.drop 1) 1).1 = 3), ?_, quote_any s w hs (by omega)⟩
      rcases qScan_cls (s.data.toList.drop 1) 1 with q | q <;> rw [q] <;> rfl
    · intro h h' q; rw [if_neg (by simp [h]), if_neg (by simp [h']), if_neg (by omega)]
      have := fsignLength_any s w (by omega)
      by_cases z : signF s.data.toList = 0
      · rw [if_pos z]; rw [z] at this; exact ⟨rfl, this⟩
      · rw [if_neg z]; exact ⟨by simp [Nat.pos_of_ne_zero z], this⟩
end Go.Proofs.YtjbekejcghjhbaaGreatDoor.Sx
