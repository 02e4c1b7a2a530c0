/- The token that a text begins with; the words of the language. -/
import Derived.Test.YtbogejmmkohbkaaGreatDoorGA4
namespace Go.Proofs.YtbogejmmkohbkaaGreatDoor.Sx
open Go.RowKit Go.Sort

def signT (l : List UInt8) : Nat × Nat :=
  if Lib.hasPrefix l [60, 60] then (4, 2) else if Lib.hasPrefix l [62, 62] then (4, 2) else if 0 ≤ Lib.indexByte [123, 125, 91, 93, 44, 58] (byteAt l 0) then (4, 1) else (5, 1)
def tokT (l : List UInt8) : Nat × Nat :=
  if l.length = 0 then (0, 0)
  else if isLetter (byteAt l 0) then (1, runLen l)
  else if isDigit (byteAt l 0) then digitsT l
  else if (byteAt l 0).toNat = 45 then negT l
  else if (byteAt l 0).toNat = 34 then qScan (l.drop 1) 1
  else signT l

theorem byteAt_data (s : ByteArray) (k : Nat) (h : k < s.size) : byteAt s.data.toList k = s[k] := by
  have hl : s.data.toList.length = s.size := by simp
  have := byteAt_get (l := s.data.toList) (k := k) (by omega)
  rw [List.getElem?_eq_getElem (by omega)] at this
  simp only [Option.some.injEq] at this
  rw [← this]; rfl

theorem qScan_cls : ∀ (l : List UInt8) (i : Nat), (qScan l i).1 = 3 ∨ (qScan l i).1 = 5
  | [], _ => .inr rfl
  | c :: r, i => by
    have := qScan_cls r (i + 1)
    simp only [qScan]
    repeat' split
    all_goals first | exact .inl rfl | exact .inr rfl | exact this

set_option maxRecDepth 100000 in
theorem token_empty (s : ByteArray) (w : World) (h : s.size = 0) : Calls Tryz.prog 118 #[.string s] w fun e w' => e = .returned (.tuple #[.int .i64 0, .int .i64 0]) ∧ w' = w := by
  have hs : s = ⟨#[]⟩ := by
    have : s.data.size = 0 := by simpa using h
    cases s; simp_all
  subst hs
  go_enter Tryz.func118, Tryz.ntmps118
  go_wp2_with fail
  go_ret2
  exact ⟨rfl, rfl⟩

set_option maxRecDepth 100000 in
set_option maxHeartbeats 2000000 in
theorem token_walk (s : ByteArray) (w : World) (h0 : 0 < s.size) (b1 b2 : Bool) (r1 r2 : Nat)
    (hL : Calls Tryz.prog 160 #[.int .u8 (s[0].toNat : Int)] w fun e w' => e = .returned (.bool b1) ∧ w' = w)
    (hD : Calls Tryz.prog 162 #[.int .u8 (s[0].toNat : Int)] w fun e w' => e = .returned (.bool b2) ∧ w' = w)
    (h1 : b1 = true → Calls Tryz.prog 161 #[.string s] w fun e w' => e = .returned (.int .i64 r2) ∧ w' = w) (h1' : b1 = true → r1 = 1)
    (h2 : b1 = false → b2 = true → ∃ b : Bool, r1 = (if b then 2 else 5) ∧ Calls Tryz.prog 163 #[.string s] w fun e w' => e = .returned (.tuple #[.int .i64 r2, .bool b]) ∧ Grew w w')
    (h3 : b1 = false → b2 = false → (s[0].toNat : Int) = 45 → Calls Tryz.prog 165 #[.string s] w fun e w' => e = .returned (.tuple #[.int .i64 r1, .int .i64 r2]) ∧ Grew w w')
    (h4 : b1 = false → b2 = false → (s[0].toNat : Int) ≠ 45 → (s[0].toNat : Int) = 34 → ∃ b : Bool, r1 = (if b then 3 else 5) ∧ Calls Tryz.prog 166 #[.string s] w fun e w' => e = .returned (.tuple #[.int .i64 r2, .bool b]) ∧ w' = w)
    (h5 : b1 = false → b2 = false → (s[0].toNat : Int) ≠ 45 → (s[0].toNat : Int) ≠ 34 → signT s.data.toList = (r1, r2)) :
    Calls Tryz.prog 118 #[.string s] w fun e w' => e = .returned (.tuple #[.int .i64 r1, .int .i64 r2]) ∧ Grew w w' := by
  have HL : Hid (Calls _ _ _ _ _) := hL
  have HD : Hid (Calls _ _ _ _ _) := hD
  clear hL hD
  have hne : s.toList.isEmpty = false := by
    rw [ByteArray.toList_eq]
    cases q : s.data.toList with
    | nil => have : s.data.toList.length = s.size := by simp
             rw [q] at this; simp at this; omega
    | cons a l => rfl
  cases b1 with
  | true =>
    have H1 : Hid (Calls _ _ _ _ _) := h1 rfl
    have H2 : Hid (r1 = 1) := h1' rfl
    clear h1 h1' h2 h3 h4 h5
    go_enter Tryz.func118, Tryz.ntmps118
    go_wp2_with (first | (go_at_call 160; refine HL.out.mono ?_; rintro e w' ⟨rfl, hw⟩; cases hw) | (go_at_call 161; refine H1.out.mono ?_; rintro e w' ⟨rfl, hw⟩; cases hw))
    go_ret2
    exact ⟨by rw [H2.out]; rfl, Grew.refl _⟩
  | false =>
    clear h1 h1'
    cases b2 with
    | true =>
      obtain ⟨b, hb, hc⟩ := h2 rfl rfl
      have H1 : Hid (Calls _ _ _ _ _) := hc
      have HS : Hid (∀ W : World, _) := fun W => sound_any 2 (r2 : Int) b W
      have HBB : Hid (r1 = if b then 2 else 5) := hb
      clear h2 h3 h4 h5 hc hb
      cases b with
      | true =>
        go_enter Tryz.func118, Tryz.ntmps118
        go_wp2_with (first | (go_at_call 160; refine HL.out.mono ?_; rintro e w' ⟨rfl, hw⟩; cases hw) | (go_at_call 162; refine HD.out.mono ?_; rintro e w' ⟨rfl, hw⟩; cases hw) | (go_at_call 163; refine H1.out.mono ?_; rintro e w' ⟨rfl, hg⟩; have HG : Hid (Grew w w') := hg; clear hg) | (go_at_call 164; refine (HS.out _).mono ?_; rintro e w' ⟨rfl, hw⟩; cases hw))
        go_ret2
        rw [HBB.out]
        exact ⟨rfl, by assumption⟩
      | false =>
        go_enter Tryz.func118, Tryz.ntmps118
        go_wp2_with (first | (go_at_call 160; refine HL.out.mono ?_; rintro e w' ⟨rfl, hw⟩; cases hw) | (go_at_call 162; refine HD.out.mono ?_; rintro e w' ⟨rfl, hw⟩; cases hw) | (go_at_call 163; refine H1.out.mono ?_; rintro e w' ⟨rfl, hg⟩; have HG : Hid (Grew w w') := hg; clear hg) | (go_at_call 164; refine (HS.out _).mono ?_; rintro e w' ⟨rfl, hw⟩; cases hw))
        go_ret2
        rw [HBB.out]
        exact ⟨rfl, by assumption⟩
    | false =>
      clear h2
      have h3 := h3 rfl rfl
      have h4 := h4 rfl rfl
      have h5 := h5 rfl rfl
      by_cases q1 : (s[0].toNat : Int) = 45
      · have H1 : Hid (Calls _ _ _ _ _) := h3 q1
        have q : ((s[0].toNat : Int) == 45) = true := by simp [q1]
        clear h3 h4 h5 q1
        go_enter Tryz.func118, Tryz.ntmps118
        go_wp2_with (first | (go_at_call 160; refine HL.out.mono ?_; rintro e w' ⟨rfl, hw⟩; cases hw) | (go_at_call 162; refine HD.out.mono ?_; rintro e w' ⟨rfl, hw⟩; cases hw) | (go_at_call 165; refine H1.out.mono ?_; rintro e w' ⟨rfl, hg⟩; have HG : Hid (Grew w w') := hg; clear hg))
        go_ret2
        exact ⟨rfl, by assumption⟩
      · have h4 := h4 q1
        have h5 := h5 q1
        clear h3
        have q : ((s[0].toNat : Int) == 45) = false := by simp [q1]
        clear q1
        by_cases q2 : (s[0].toNat : Int) = 34
        · obtain ⟨b, hb, hc⟩ := h4 q2
          have H1 : Hid (Calls _ _ _ _ _) := hc
          have HS : Hid (∀ W : World, _) := fun W => sound_any 3 (r2 : Int) b W
          have HBB : Hid (r1 = if b then 3 else 5) := hb
          have q' : ((s[0].toNat : Int) == 34) = true := by simp [q2]
          clear h4 h5 q2 hc hb
          cases b with
          | true =>
            go_enter Tryz.func118, Tryz.ntmps118
            go_wp2_with (first | (go_at_call 160; refine HL.out.mono ?_; rintro e w' ⟨rfl, hw⟩; cases hw) | (go_at_call 162; refine HD.out.mono ?_; rintro e w' ⟨rfl, hw⟩; cases hw) | (go_at_call 166; refine H1.out.mono ?_; rintro e w' ⟨rfl, hw⟩; cases hw) | (go_at_call 164; refine (HS.out _).mono ?_; rintro e w' ⟨rfl, hw⟩; cases hw))
            go_ret2
            rw [HBB.out]
            exact ⟨rfl, Grew.refl _⟩
          | false =>
            go_enter Tryz.func118, Tryz.ntmps118
            go_wp2_with (first | (go_at_call 160; refine HL.out.mono ?_; rintro e w' ⟨rfl, hw⟩; cases hw) | (go_at_call 162; refine HD.out.mono ?_; rintro e w' ⟨rfl, hw⟩; cases hw) | (go_at_call 166; refine H1.out.mono ?_; rintro e w' ⟨rfl, hw⟩; cases hw) | (go_at_call 164; refine (HS.out _).mono ?_; rintro e w' ⟨rfl, hw⟩; cases hw))
            go_ret2
            rw [HBB.out]
            exact ⟨rfl, Grew.refl _⟩
        · have h5 := h5 q2
          have q' : ((s[0].toNat : Int) == 34) = false := by simp [q2]
          clear h4 q2
          have hp1 := Tryz.strings_HasPrefix s ⟨#[60, 60]⟩ w
          have hp2 := Tryz.strings_HasPrefix s ⟨#[62, 62]⟩ w
          have hix := Tryz.strings_IndexByte ⟨#[123, 125, 91, 93, 44, 58]⟩ (s[0].toNat : Int) w
          rw [show ((s[0].toNat : Int).toNat.toUInt8) = byteAt s.data.toList 0 from by rw [byteAt_data s 0 h0]; simp] at hix
          unfold signT at h5
          simp only at hp1 hp2 hix
          generalize Lib.hasPrefix s.data.toList [60, 60] = c1 at hp1 h5
          generalize Lib.hasPrefix s.data.toList [62, 62] = c2 at hp2 h5
          generalize Lib.indexByte [123, 125, 91, 93, 44, 58] (byteAt s.data.toList 0) = d at hix h5
          have HP1 : Hid (Calls _ _ _ _ _) := hp1
          have HP2 : Hid (Calls _ _ _ _ _) := hp2
          have HIX : Hid (Calls _ _ _ _ _) := hix
          clear hp1 hp2 hix
          have H5 : Hid (_ = (r1, r2)) := h5
          clear h5
          cases c1 with
          | true =>
            have HF : Hid (r1 = 4 ∧ r2 = 2) := by have := H5.out; simp at this; exact ⟨this.1.symm, this.2.symm⟩
            clear H5
            go_enter Tryz.func118, Tryz.ntmps118
            go_wp2_with (first | (go_at_call 160; refine HL.out.mono ?_; rintro e w' ⟨rfl, hw⟩; cases hw) | (go_at_call 162; refine HD.out.mono ?_; rintro e w' ⟨rfl, hw⟩; cases hw) | (go_at_call 167; refine HP1.out.mono ?_; rintro e w' ⟨rfl, hw⟩; cases hw))
            go_ret2
            obtain ⟨e1, e2⟩ := HF.out
            subst e1 e2
            exact ⟨rfl, Grew.refl _⟩
          | false =>
            cases c2 with
            | true =>
              have HF : Hid (r1 = 4 ∧ r2 = 2) := by have := H5.out; simp at this; exact ⟨this.1.symm, this.2.symm⟩
              clear H5
              go_enter Tryz.func118, Tryz.ntmps118
              go_wp2_with (first | (go_at_call 160; refine HL.out.mono ?_; rintro e w' ⟨rfl, hw⟩; cases hw) | (go_at_call 162; refine HD.out.mono ?_; rintro e w' ⟨rfl, hw⟩; cases hw))
              refine HP1.out.mono ?_; rintro e w' ⟨rfl, hw⟩; cases hw
              go_wp2_with fail
              refine HP2.out.mono ?_; rintro e w' ⟨rfl, hw⟩; cases hw
              go_wp2_with fail
              go_ret2
              obtain ⟨e1, e2⟩ := HF.out
              subst e1 e2
              exact ⟨rfl, Grew.refl _⟩
            | false =>
              by_cases hd : 0 ≤ d
              · have HF : Hid (r1 = 4 ∧ r2 = 1) := by have := H5.out; simp [hd] at this; exact ⟨this.1.symm, this.2.symm⟩
                clear H5
                go_enter Tryz.func118, Tryz.ntmps118
                go_wp2_with (first | (go_at_call 160; refine HL.out.mono ?_; rintro e w' ⟨rfl, hw⟩; cases hw) | (go_at_call 162; refine HD.out.mono ?_; rintro e w' ⟨rfl, hw⟩; cases hw))
                refine HP1.out.mono ?_; rintro e w' ⟨rfl, hw⟩; cases hw
                go_wp2_with fail
                refine HP2.out.mono ?_; rintro e w' ⟨rfl, hw⟩; cases hw
                go_wp2_with (go_at_call 168; refine HIX.out.mono ?_; rintro e w' ⟨rfl, hw⟩; cases hw)
                go_ret2
                obtain ⟨e1, e2⟩ := HF.out
                subst e1 e2
                exact ⟨rfl, Grew.refl _⟩
              · have HF : Hid (r1 = 5 ∧ r2 = 1) := by have := H5.out; simp [hd] at this; exact ⟨this.1.symm, this.2.symm⟩
                clear H5
                go_enter Tryz.func118, Tryz.ntmps118
                go_wp2_with (first | (go_at_call 160; refine HL.out.mono ?_; rintro e w' ⟨rfl, hw⟩; cases hw) | (go_at_call 162; refine HD.out.mono ?_; rintro e w' ⟨rfl, hw⟩; cases hw))
                refine HP1.out.mono ?_; rintro e w' ⟨rfl, hw⟩; cases hw
                go_wp2_with fail
                refine HP2.out.mono ?_; rintro e w' ⟨rfl, hw⟩; cases hw
                go_wp2_with (go_at_call 168; refine HIX.out.mono ?_; rintro e w' ⟨rfl, hw⟩; cases hw)
                go_ret2
                obtain ⟨e1, e2⟩ := HF.out
                subst e1 e2
                exact ⟨rfl, Grew.refl _⟩

theorem token_any (s : ByteArray) (w : World) (hs : s.size ≤ 4294967296) : Calls Tryz.prog 118 #[.string s] w fun e w' => e = .returned (.tuple #[.int .i64 (tokT s.data.toList).1, .int .i64 (tokT s.data.toList).2]) ∧ Grew w w' := by
  have hl : s.data.toList.length = s.size := by simp
  by_cases h0 : s.size = 0
  · have : tokT s.data.toList = (0, 0) := by unfold tokT; rw [if_pos (by omega)]
    rw [this]
    exact (token_empty s w h0).mono fun e w' h => ⟨h.1, by rw [h.2]; exact Grew.refl _⟩
  · have hb := byteAt_data s 0 (by omega)
    unfold tokT
    rw [if_neg (by omega), hb]
    refine token_walk s w (by omega) (isLetter s[0]) (isDigit s[0]) _ _ (letter_any _ w) (digit_any _ w) ?_ ?_ ?_ ?_ ?_ ?_
    · intro h; rw [if_pos h]; exact run_any s w hs
    · intro h; rw [if_pos h]
    · intro h h'; rw [if_neg (by simp [h]), if_pos h', digits_num (by omega) (by rw [hb]; exact h')]; exact ⟨numB s.data.toList, rfl, number_any s w hs (by omega)⟩
    · intro h h' q; rw [if_neg (by simp [h]), if_neg (by simp [h']), if_pos (by omega)]; exact negative_any s w hs (by omega)
    · intro h h' q q'; rw [if_neg (by simp [h]), if_neg (by simp [h']), if_neg (by omega), if_pos (by omega)]
      refine ⟨decide ((qScan (s.data.toList.drop 1) 1).1 = 3), ?_, quote_any s w hs (by omega)⟩
      rcases qScan_cls (s.data.toList.drop 1) 1 with q | q <;> rw [q] <;> rfl
    · intro h h' q q'; rw [if_neg (by simp [h]), if_neg (by simp [h']), if_neg (by omega), if_neg (by omega)]
end Go.Proofs.YtbogejmmkohbkaaGreatDoor.Sx

namespace Go.Proofs.YtbogejmmkohbkaaGreatDoor.Sx
open Go.RowKit Go.Sort
theorem res_yes {l v : List UInt8} {b : Bool} (H : Hid (isReserved l = b)) (h : (l == v) = true) (hv : isReserved v = true) : b = true := by
  have := eq_of_beq h
  subst this
  rw [← H.out]; exact hv
theorem res_no {l : List UInt8} {b : Bool} (H : Hid (isReserved l = b)) (h : ∀ v ∈ reservedWords, (l == v) = false) : b = false := by
  rw [← H.out]
  unfold isReserved
  rw [List.contains_eq_any_beq, List.any_eq_false]
  intro v hv
  rw [h v hv]; simp
theorem bool_absurd {b : Bool} {p : Prop} (h : b = true) (h' : b = false) : p := by rw [h] at h'; simp at h'

theorem reserved_list : reservedWords = [[109, 111, 100, 117, 108, 101], [99, 111, 110, 115, 116, 97, 110, 116], [97, 116, 111, 109, 115], [115, 121, 109, 109, 101, 116, 114, 105, 99], [118, 97, 114, 105, 97, 98, 108, 101], [100, 101, 102, 105, 110, 101], [105, 110, 105, 116], [97, 99, 116, 105, 111, 110], [102, 97, 105, 114], [119, 101, 97, 107], [115, 116, 114, 111, 110, 103], [105, 110, 118, 97, 114, 105, 97, 110, 116], [112, 114, 111, 112, 101, 114, 116, 121], [97, 110, 100], [111, 114], [110, 111, 116], [105, 109, 112, 108, 105, 101, 115], [105, 102, 102], [105, 110], [117, 110, 105, 111, 110], [105, 110, 116, 101, 114], [109, 105, 110, 117, 115], [115, 117, 98, 115, 101, 116], [112, 111, 119, 101, 114, 115, 101, 116], [102, 108, 97, 116, 116, 101, 110], [100, 111, 109, 97, 105, 110], [117, 110, 99, 104, 97, 110, 103, 101, 100], [101, 110, 97, 98, 108, 101, 100], [97, 108, 119, 97, 121, 115], [101, 118, 101, 110, 116, 117, 97, 108, 108, 121], [117, 110, 116, 105, 108], [108, 101, 97, 100, 115, 116, 111], [99, 104, 111, 111, 115, 101], [97, 108, 108], [115, 111, 109, 101], [101, 97, 99, 104], [116, 104, 111, 115, 101], [102, 117, 110], [105, 102], [116, 104, 101, 110], [101, 108, 115, 101], [108, 101, 116], [110, 105, 108], [116, 114, 117, 101], [102, 97, 108, 115, 101], [115, 105, 122, 101], [108, 101, 110], [104, 101, 97, 100], [116, 97, 105, 108], [97, 112, 112, 101, 110, 100], [118, 97, 108, 117, 101, 115], [115, 101, 113, 115]] := by decide +kernel

set_option maxRecDepth 100000 in
set_option maxHeartbeats 4000000 in
theorem reserved_walk (s : ByteArray) (w : World) (b : Bool) (H : Hid (isReserved s.toList = b)) : Calls Tryz.prog 169 #[.string s] w fun e w' => e = .returned (.bool b) ∧ w' = w := by
  go_enter Tryz.func169, Tryz.ntmps169
  go_wp2_with fail
  all_goals first
    | (exact bool_absurd ‹(s.toList == _) = true› ‹(s.toList == _) = false›)
    | (have q := res_yes H ‹(s.toList == _) = true› (by decide +kernel)
       subst q
       go_ret
       exact ⟨rfl, rfl⟩)
    | (have q : b = false := by
         refine res_no H ?_
         rw [reserved_list]
         intro v hv
         simp only [List.mem_cons, List.not_mem_nil, or_false] at hv
         rcases hv with rfl | rfl | rfl | rfl | rfl | rfl | rfl | rfl | rfl | rfl | rfl | rfl | rfl | rfl | rfl | rfl | rfl | rfl | rfl | rfl | rfl | rfl | rfl | rfl | rfl | rfl | rfl | rfl | rfl | rfl | rfl | rfl | rfl | rfl | rfl | rfl | rfl | rfl | rfl | rfl | rfl | rfl | rfl | rfl | rfl | rfl | rfl | rfl | rfl | rfl | rfl | rfl <;> assumption
       subst q
       go_ret
       exact ⟨rfl, rfl⟩)
theorem reserved_any (s : ByteArray) (w : World) : Calls Tryz.prog 169 #[.string s] w fun e w' => e = .returned (.bool (isReserved s.data.toList)) ∧ w' = w := by
  refine reserved_walk s w _ ?_
  rw [ByteArray.toList_eq]; exact rfl
end Go.Proofs.YtbogejmmkohbkaaGreatDoor.Sx
