/- The writer: names. -/
import Derived.Test.YtjbekejcghjhbaaGreatDoorF18
namespace Go.Proofs.YtjbekejcghjhbaaGreatDoor.Sx
open Go.RowKit Go.Sort

theorem runLen_all : ∀ l : List UInt8, decide (runLen l = l.length) = l.all isPart
  | [] => rfl
  | c :: l => by
    have := runLen_all l
    unfold runLen at this ⊢
    cases h : isPart c with
    | true => simp only [List.takeWhile_cons, h, if_true, List.length_cons, List.all_cons, Bool.true_and, Nat.add_right_cancel_iff]; exact this
    | false => simp [h]
theorem isNameB_cons {l : List UInt8} {c : UInt8} {r : List UInt8} (h : l = c :: r) : isNameB l = (isLetter c && decide (l.length ≤ 16) && l.all isPart && !isReserved l) := by subst h; rfl
set_option maxRecDepth 100000 in
set_option maxHeartbeats 1000000 in
theorem isName_any (s : ByteArray) (w : World) : Calls Tryz.prog 252 #[.string s] w fun e w' => e = .returned (.bool (isNameB s.data.toList)) ∧ w' = w := by
  have mo := follows
  have hl : s.data.toList.length = s.size := by simp
  have htl : s.toList = s.data.toList := ByteArray.toList_eq s
  obtain ⟨q, hq⟩ : ∃ q, isNameB s.data.toList = q := ⟨_, rfl⟩
  rw [hq]
  have HQ : Hid (isNameB s.data.toList = q) := hq
  clear hq
  by_cases h0 : s.size = 0
  · have he : s.data.toList = [] := List.length_eq_zero_iff.1 (by omega)
    have h1 : s.toList = [] := by rw [htl, he]
    have hq := HQ.out
    rw [he] at hq
    have hq' : q = false := by rw [← hq]; rfl
    subst hq'
    clear hq HQ he htl hl h0
    go_enter Tryz.func252, Tryz.ntmps252
    go_wp2_with fail
    go_ret
    exact ⟨rfl, rfl⟩
  have hne : ¬ s.toList = [] := by rw [htl]; intro h; rw [h] at hl; simp at hl; omega
  by_cases h16 : s.size ≤ 16
  case neg =>
    have h16' : ¬ (s.size : Int) ≤ 16 := by omega
    have hq' : q = false := by rw [← HQ.out]; unfold isNameB; rw [show decide (s.data.toList.length ≤ 16) = false from by simp; omega]; simp
    subst hq'
    clear HQ htl hl h0 h16
    go_enter Tryz.func252, Tryz.ntmps252
    go_wp2_with fail
    go_ret
    exact ⟨rfl, rfl⟩
  have h16' : (s.size : Int) ≤ 16 := by omega
  have hlt : 0 < s.size := by omega
  have hc : ∃ r, s.data.toList = s[0] :: r := by
    have : s.data.toList.drop 0 = s.data.toList[0]'(by omega) :: s.data.toList.drop 1 := List.drop_eq_getElem_cons (by omega)
    exact ⟨_, this⟩
  obtain ⟨rr, hc⟩ := hc
  have HLt : Hid (∀ W : World, _) := fun W => letter_any s[0] W
  have HRn : Hid (∀ W : World, _) := fun W => run_any s W (by omega)
  have HRs : Hid (∀ W : World, _) := fun W => reserved_any s W
  have hq := HQ.out
  rw [isNameB_cons hc, ← runLen_all, show decide (s.data.toList.length ≤ 16) = true from by simp; omega, hl] at hq
  clear hc HQ hl htl h16
  generalize isLetter s[0] = b1 at HLt hq
  generalize isReserved s.data.toList = b3 at HRs hq
  generalize runLen s.data.toList = rn at HRn hq
  cases b1 with
  | false =>
    obtain rfl : false = q := by simpa using hq
    clear hq
    go_enter Tryz.func252, Tryz.ntmps252
    go_wp2_with (go_at_call 160; refine (HLt.out _).mono ?_; rintro e w2 ⟨rfl, hw⟩; cases hw)
    go_ret
    exact ⟨rfl, rfl⟩
  | true =>
    by_cases hr : rn = s.size
    · have k1 : ((rn : Int) == (s.size : Int)) = true := by simp; omega
      rw [show decide (rn = s.size) = true from by simpa using hr] at hq
      cases b3 with
      | false =>
        obtain rfl : true = q := by simpa using hq
        have he : s.toList.isEmpty = false := by simpa using hne
        clear hq hr
        go_enter Tryz.func252, Tryz.ntmps252
        go_wp2_with (first | (go_at_call 160; refine (HLt.out _).mono ?_; rintro e w2 ⟨rfl, hw⟩; cases hw) | (go_at_call 161; refine (HRn.out _).mono ?_; rintro e w2 ⟨rfl, hw⟩; cases hw) | (go_at_call 169; refine (HRs.out _).mono ?_; rintro e w2 ⟨rfl, hw⟩; cases hw))
        go_ret
        exact ⟨rfl, rfl⟩
      | true =>
        obtain rfl : false = q := by simpa using hq
        clear hq hr
        go_enter Tryz.func252, Tryz.ntmps252
        go_wp2_with (first | (go_at_call 160; refine (HLt.out _).mono ?_; rintro e w2 ⟨rfl, hw⟩; cases hw) | (go_at_call 161; refine (HRn.out _).mono ?_; rintro e w2 ⟨rfl, hw⟩; cases hw) | (go_at_call 169; refine (HRs.out _).mono ?_; rintro e w2 ⟨rfl, hw⟩; cases hw))
        go_ret
        exact ⟨rfl, rfl⟩
    · have k1 : ((rn : Int) == (s.size : Int)) = false := by simp; omega
      rw [show decide (rn = s.size) = false from by simpa using hr] at hq
      obtain rfl : false = q := by simpa using hq
      clear hq hr
      go_enter Tryz.func252, Tryz.ntmps252
      go_wp2_with (first | (go_at_call 160; refine (HLt.out _).mono ?_; rintro e w2 ⟨rfl, hw⟩; cases hw) | (go_at_call 161; refine (HRn.out _).mono ?_; rintro e w2 ⟨rfl, hw⟩; cases hw))
      go_ret
      exact ⟨rfl, rfl⟩
end Go.Proofs.YtjbekejcghjhbaaGreatDoor.Sx

namespace Go.Proofs.YtjbekejcghjhbaaGreatDoor.Sx
open Go.RowKit Go.Sort

theorem key_none {sort : Nat} {op nm : List UInt8} {n : Int} {kids : List PX} {x : PX} (h : Means sort op nm n kids x) (hs : sort ≠ 1) : x.key = none := by
  rcases h with ⟨rfl, -, -, rfl⟩ | ⟨rfl, rfl⟩ | ⟨rfl, rfl⟩ | ⟨rfl, rfl⟩ | ⟨rfl, rfl⟩ | ⟨rfl, rfl⟩ | ⟨rfl, rfl⟩ | ⟨rfl, rfl⟩ | ⟨rfl, a, b, c, rfl, rfl⟩ | ⟨rfl, a, b, rfl, rfl⟩ | ⟨rfl, ho, a, b, rfl, rfl⟩ | ⟨-, hop⟩
  case inr.inl => exact absurd rfl hs
  case inr.inr.inr.inr.inr.inr.inr.inr.inr.inr.inl => unfold dBind; split <;> rfl
  case inr.inr.inr.inr.inr.inr.inr.inr.inr.inr.inr =>
    rcases hop with ⟨hj, a, b, rfl, rfl⟩ | ⟨rfl, rfl⟩ | ⟨rfl, rfl⟩ | ⟨rfl, rfl⟩ | ⟨rfl, f, k, rfl, rfl⟩ | ⟨rfl, f, k, v, rfl, rfl⟩ | ⟨rfl, a, rfl, rfl⟩ | ⟨ho, a, rfl, rfl⟩ | ⟨ho, a, rfl, rfl⟩ | ⟨ho, rfl⟩ <;> rfl
  all_goals rfl
theorem key_one {op nm : List UInt8} {n : Int} {kids : List PX} {x : PX} (h : Means 1 op nm n kids x) : x = dTxt nm := by
  rcases h with ⟨q, -⟩ | ⟨-, h⟩ | ⟨q, -⟩ | ⟨q, -⟩ | ⟨q, -⟩ | ⟨q, -⟩ | ⟨q, -⟩ | ⟨q, -⟩ | ⟨q, -⟩ | ⟨q, -⟩ | ⟨q, -⟩ | ⟨q, -⟩
  case inr.inl => exact h
  all_goals omega

set_option maxRecDepth 100000 in
set_option maxHeartbeats 1000000 in
theorem wasked_dot {n : Nat} (hW : WrE n) (B b xf be sort at' len cap : Nat) (l : List UInt8) (w : World) (op nm : ByteArray) (i : Int) (pa : Option Addr) (kf kk : PX) (hf : RepE (· < B) w n kf (.pointer (some ⟨xf, 0, none⟩))) (hk : RepE (· < B) w n kk (.pointer (some ⟨be, 0, none⟩))) (he : EBlk w be sort op nm i at' pa len cap) (hbe : be < B) (hB : Bld B b l w) (hs : sort = 1) (hn : isNameB nm.data.toList = true)
    (hlen : l.length + (partX kf 13 ++ 46 :: nm.data.toList).length ≤ 140737488355328) :
    Calls Tryz.prog 153 #[.pointer (some ⟨b, 0, none⟩), .pointer (some ⟨xf, 0, none⟩), .pointer (some ⟨be, 0, none⟩)] w (WrotePost B b l (partX kf 13 ++ 46 :: nm.data.toList) w) := by
  have HE : Hid (EBlk w be sort op nm i at' pa len cap) := he
  have HW : Hid (WrE n) := hW
  have W0 : Hid (Wrote B b l ([] : List UInt8) w w) := Wrote.nil hB
  have HL : Hid (l.length + (partX kf 13 ++ 46 :: nm.data.toList).length ≤ 140737488355328) := hlen
  have HX0 : Hid (RepE (· < B) w n _ _) := hf
  have HX1 : Hid (RepE (· < B) w n _ _) := hk
  have HIN : Hid (∀ W : World, _) := fun W => isName_any nm W
  have mo := follows
  clear he hW hB hlen hf hk
  subst hs
  rw [hn] at HIN
  clear hn
  go_enter Tryz.func153, Tryz.ntmps153
  have c0 := block_cell (HE.out.kp W0.out.kp hbe) 0
  have c2 := block_cell (HE.out.kp W0.out.kp hbe) 2
  go_wp2_with fail
  clear c0 c2
  refine (wpart_any HW.out B b _ w kf _ 13 (HX0.out.kp W0.out.kp) W0.out.1 (by have hL := HL.out; simp only [List.length_append, List.length_cons, List.length_nil] at hL ⊢; omega)).mono ?_
  rintro e v1 ⟨rfl, hw⟩
  have V1 : Hid (Wrote B b l (([] : List UInt8) ++ partX kf 13) w v1) := W0.out.put hw rfl
  clear hw
  have c0 := block_cell (HE.out.kp V1.out.kp hbe) 0
  have c2 := block_cell (HE.out.kp V1.out.kp hbe) 2
  go_wp2_with (go_at_call 252; refine (HIN.out _).mono ?_; rintro e w3 ⟨rfl, hw⟩; cases hw)
  clear c0 c2
  refine (put_call B b _ v1 _ [⟨#[46]⟩, nm] 2 ([46] ++ nm.data.toList) rfl rfl (by decide) (by simp [catB]) V1.out.1 (by have hL := HL.out; simp only [List.length_append, List.length_cons, List.length_nil] at hL ⊢; omega)).mono ?_
  rintro e v2 ⟨rfl, hw⟩
  have V2 : Hid (Wrote B b l ((([] : List UInt8) ++ partX kf 13) ++ ([46] ++ nm.data.toList)) w v2) := V1.out.put hw rfl
  clear hw
  go_wp2_with fail
  refine bodyPost_ret (results_none rfl _ _ _) rfl ?_
  exact ⟨rfl, by have h := V2.out; simpa using h⟩
set_option maxRecDepth 100000 in
set_option maxHeartbeats 1000000 in
theorem wasked_in {n : Nat} (hW : WrE n) (B b xf be sort at' len cap : Nat) (l : List UInt8) (w : World) (op nm : ByteArray) (i : Int) (pa : Option Addr) (kf kk : PX) (hf : RepE (· < B) w n kf (.pointer (some ⟨xf, 0, none⟩))) (hk : RepE (· < B) w n kk (.pointer (some ⟨be, 0, none⟩))) (he : EBlk w be sort op nm i at' pa len cap) (hbe : be < B) (hB : Bld B b l w) (hs : sort ≠ 1 ∨ sort = 1 ∧ isNameB nm.data.toList = false)
    (hlen : l.length + (partX kf 13 ++ 91 :: (kk.tx ++ [93])).length ≤ 140737488355328) :
    Calls Tryz.prog 153 #[.pointer (some ⟨b, 0, none⟩), .pointer (some ⟨xf, 0, none⟩), .pointer (some ⟨be, 0, none⟩)] w (WrotePost B b l (partX kf 13 ++ 91 :: (kk.tx ++ [93])) w) := by
  have HE : Hid (EBlk w be sort op nm i at' pa len cap) := he
  have HW : Hid (WrE n) := hW
  have W0 : Hid (Wrote B b l ([] : List UInt8) w w) := Wrote.nil hB
  have HL : Hid (l.length + (partX kf 13 ++ 91 :: (kk.tx ++ [93])).length ≤ 140737488355328) := hlen
  have HX0 : Hid (RepE (· < B) w n _ _) := hf
  have HX1 : Hid (RepE (· < B) w n _ _) := hk
  have HIN : Hid (∀ W : World, _) := fun W => isName_any nm W
  have mo := follows
  clear he hW hB hlen hf hk
  go_enter Tryz.func153, Tryz.ntmps153
  have c0 := block_cell (HE.out.kp W0.out.kp hbe) 0
  have c2 := block_cell (HE.out.kp W0.out.kp hbe) 2
  go_wp2_with fail
  clear c0 c2
  refine (wpart_any HW.out B b _ w kf _ 13 (HX0.out.kp W0.out.kp) W0.out.1 (by have hL := HL.out; simp only [List.length_append, List.length_cons, List.length_nil] at hL ⊢; omega)).mono ?_
  rintro e v1 ⟨rfl, hw⟩
  have V1 : Hid (Wrote B b l (([] : List UInt8) ++ partX kf 13) w v1) := W0.out.put hw rfl
  clear hw
  rcases hs with hs | ⟨rfl, hn⟩
  · have hs' : ((sort : Int) == 1) = false := by simp; omega
    clear hs
    have c0 := block_cell (HE.out.kp V1.out.kp hbe) 0
    have c2 := block_cell (HE.out.kp V1.out.kp hbe) 2
    go_wp2_with (go_at_call 252; refine (HIN.out _).mono ?_; rintro e w3 ⟨rfl, hw⟩; cases hw)
    clear c0 c2
    refine (put_call B b _ v1 _ [⟨#[91]⟩] 1 [91] rfl rfl (by decide) (by simp [catB]) V1.out.1 (by have hL := HL.out; simp only [List.length_append, List.length_cons, List.length_nil] at hL ⊢; omega)).mono ?_
    rintro e v2 ⟨rfl, hw⟩
    have V2 : Hid (Wrote B b l ((([] : List UInt8) ++ partX kf 13) ++ [91]) w v2) := V1.out.put hw rfl
    clear hw
    have c0 := block_cell (HE.out.kp V2.out.kp hbe) 0
    have c2 := block_cell (HE.out.kp V2.out.kp hbe) 2
    go_wp2_with fail
    clear c0 c2
    refine (HW.out B b _ v2 kk _ (HX1.out.kp V2.out.kp) V2.out.1 (by have hL := HL.out; simp only [List.length_append, List.length_cons, List.length_nil] at hL ⊢; omega)).mono ?_
    rintro e v3 ⟨rfl, hw⟩
    have V3 : Hid (Wrote B b l (((([] : List UInt8) ++ partX kf 13) ++ [91]) ++ kk.tx) w v3) := V2.out.put hw rfl
    clear hw
    have c0 := block_cell (HE.out.kp V3.out.kp hbe) 0
    have c2 := block_cell (HE.out.kp V3.out.kp hbe) 2
    go_wp2_with fail
    clear c0 c2
    refine (put_call B b _ v3 _ [⟨#[93]⟩] 1 [93] rfl rfl (by decide) (by simp [catB]) V3.out.1 (by have hL := HL.out; simp only [List.length_append, List.length_cons, List.length_nil] at hL ⊢; omega)).mono ?_
    rintro e v4 ⟨rfl, hw⟩
    have V4 : Hid (Wrote B b l ((((([] : List UInt8) ++ partX kf 13) ++ [91]) ++ kk.tx) ++ [93]) w v4) := V3.out.put hw rfl
    clear hw
    go_wp2_with fail
    go_end0
    exact ⟨rfl, by have h := V4.out; simpa using h⟩
  · rw [hn] at HIN
    clear hn
    have c0 := block_cell (HE.out.kp V1.out.kp hbe) 0
    have c2 := block_cell (HE.out.kp V1.out.kp hbe) 2
    go_wp2_with (go_at_call 252; refine (HIN.out _).mono ?_; rintro e w3 ⟨rfl, hw⟩; cases hw)
    clear c0 c2
    refine (put_call B b _ v1 _ [⟨#[91]⟩] 1 [91] rfl rfl (by decide) (by simp [catB]) V1.out.1 (by have hL := HL.out; simp only [List.length_append, List.length_cons, List.length_nil] at hL ⊢; omega)).mono ?_
    rintro e v2 ⟨rfl, hw⟩
    have V2 : Hid (Wrote B b l ((([] : List UInt8) ++ partX kf 13) ++ [91]) w v2) := V1.out.put hw rfl
    clear hw
    have c0 := block_cell (HE.out.kp V2.out.kp hbe) 0
    have c2 := block_cell (HE.out.kp V2.out.kp hbe) 2
    go_wp2_with fail
    clear c0 c2
    refine (HW.out B b _ v2 kk _ (HX1.out.kp V2.out.kp) V2.out.1 (by have hL := HL.out; simp only [List.length_append, List.length_cons, List.length_nil] at hL ⊢; omega)).mono ?_
    rintro e v3 ⟨rfl, hw⟩
    have V3 : Hid (Wrote B b l (((([] : List UInt8) ++ partX kf 13) ++ [91]) ++ kk.tx) w v3) := V2.out.put hw rfl
    clear hw
    have c0 := block_cell (HE.out.kp V3.out.kp hbe) 0
    have c2 := block_cell (HE.out.kp V3.out.kp hbe) 2
    go_wp2_with fail
    clear c0 c2
    refine (put_call B b _ v3 _ [⟨#[93]⟩] 1 [93] rfl rfl (by decide) (by simp [catB]) V3.out.1 (by have hL := HL.out; simp only [List.length_append, List.length_cons, List.length_nil] at hL ⊢; omega)).mono ?_
    rintro e v4 ⟨rfl, hw⟩
    have V4 : Hid (Wrote B b l ((((([] : List UInt8) ++ partX kf 13) ++ [91]) ++ kk.tx) ++ [93]) w v4) := V3.out.put hw rfl
    clear hw
    go_wp2_with fail
    go_end0
    exact ⟨rfl, by have h := V4.out; simpa using h⟩
theorem wasked_any {n : Nat} (hW : WrE n) (B b xf xk : Nat) (l : List UInt8) (w : World) (kf kk : PX) (hf : RepE (· < B) w n kf (.pointer (some ⟨xf, 0, none⟩))) (hk : RepE (· < B) w n kk (.pointer (some ⟨xk, 0, none⟩))) (hB : Bld B b l w)
    (hlen : l.length + (dAt kf kk).tx.length ≤ 140737488355328) :
    Calls Tryz.prog 153 #[.pointer (some ⟨b, 0, none⟩), .pointer (some ⟨xf, 0, none⟩), .pointer (some ⟨xk, 0, none⟩)] w (WrotePost B b l (dAt kf kk).tx w) := by
  cases n with
  | zero => exact absurd hk id
  | succ n =>
    obtain ⟨be, sort, op, nm, i, a, pa, len, cap, kids, e, h2, h3, h4, h5⟩ := id hk
    obtain rfl : xk = be := by simpa using e
    by_cases hs : sort = 1
    · subst hs
      have hx := key_one h5
      cases hn : isNameB nm.data.toList with
      | true =>
        have ht : (dAt kf kk).tx = partX kf 13 ++ 46 :: nm.data.toList := by rw [hx]; simp [dAt, dTxt, hn]
        rw [ht] at hlen ⊢
        exact wasked_dot hW B b xf xk 1 a len cap l w op nm i pa kf kk hf hk h3 h2 hB rfl hn hlen
      | false =>
        have ht : (dAt kf kk).tx = partX kf 13 ++ 91 :: (kk.tx ++ [93]) := by simp only [dAt]; rw [show kk.key = none from by rw [hx]; simp [dTxt, hn]]
        rw [ht] at hlen ⊢
        exact wasked_in hW B b xf xk 1 a len cap l w op nm i pa kf kk hf hk h3 h2 hB (.inr ⟨rfl, hn⟩) hlen
    · have ht : (dAt kf kk).tx = partX kf 13 ++ 91 :: (kk.tx ++ [93]) := by simp only [dAt]; rw [key_none h5 hs]
      rw [ht] at hlen ⊢
      exact wasked_in hW B b xf xk sort a len cap l w op nm i pa kf kk hf hk h3 h2 hB (.inl hs) hlen
end Go.Proofs.YtjbekejcghjhbaaGreatDoor.Sx

namespace Go.Proofs.YtjbekejcghjhbaaGreatDoor.Sx
open Go.RowKit Go.Sort

set_option maxRecDepth 100000 in
set_option maxHeartbeats 1000000 in
theorem wworded_one {n : Nat} (hW : WrE n) (B b be sort at' len cap : Nat) (l : List UInt8) (w : World) (op nm : ByteArray) (i : Int) (pa : Option Addr) (ka : PX) (he : EBlk w be sort op nm i at' pa len cap) (hbe : be < B) (hr : RowP (· < B) w (RepE (· < B) w n) pa len [ka]) (hB : Bld B b l w) (q : Nat) (ho : openF op.data.toList = q) (hq : q ≠ 14)
    (hlen : l.length + (op.data.toList ++ 32 :: partX ka q).length ≤ 140737488355328) :
    Calls Tryz.prog 154 #[.pointer (some ⟨b, 0, none⟩), .pointer (some ⟨be, 0, none⟩)] w (WrotePost B b l (op.data.toList ++ 32 :: partX ka q) w) := by
  have HE : Hid (EBlk w be sort op nm i at' pa len cap) := he
  have HW : Hid (WrE n) := hW
  have HB : Hid (Bld B b l w) := hB
  have W0 : Hid (Wrote B b l ([] : List UInt8) w w) := Wrote.nil hB
  have mo := follows
  have HL : Hid (l.length + (op.data.toList ++ 32 :: partX ka q).length ≤ 140737488355328) := hlen
  obtain ⟨rfl, pb, off, hpa, hpB, hpl, x0, q0, r0⟩ := row1 hr
  subst hpa
  have HX0 : Hid (RepE (· < B) w n _ _) := r0
  have HY0 : Hid (∀ W, Kp B b w W → W.cell? ⟨pb, off, none⟩ = some (.pointer (some ⟨x0, 0, none⟩))) := fun W k => (World.cell?_of_block (w := w) (k.1.block pb hpB)).trans q0
  clear q0 r0
  clear he hW hB hr hlen
  have HO : Hid (Calls Tryz.prog 149 #[.string op] w fun e w' => e = .returned (.int .i64 (q : Int)) ∧ w' = w) := by have := fopening_any op w; rw [ho] at this; exact this
  have hq' : ((q : Int) != 14) = true := by rw [bne_iff_ne]; omega
  clear ho hq
  go_enter Tryz.func154, Tryz.ntmps154
  have c1 := block_cell (HE.out.kp W0.out.kp hbe) 1
  have c5 := block_cell (HE.out.kp W0.out.kp hbe) 5
  have y0 := HY0.out _ W0.out.kp
  go_wp2_with (go_at_call 149; refine HO.out.mono ?_; rintro e w3 ⟨rfl, hw⟩; cases hw)
  clear c1 c5 y0
  refine (put_call B b _ w _ [op, ⟨#[32]⟩] 2 (op.data.toList ++ [32]) rfl rfl (by decide) (by simp [catB]) W0.out.1 (by have hL := HL.out; simp only [List.length_append, List.length_cons, List.length_nil] at hL ⊢; omega)).mono ?_
  rintro e v1 ⟨rfl, hw⟩
  have V1 : Hid (Wrote B b l (([] : List UInt8) ++ (op.data.toList ++ [32])) w v1) := W0.out.put hw rfl
  clear hw
  have c1 := block_cell (HE.out.kp V1.out.kp hbe) 1
  have c5 := block_cell (HE.out.kp V1.out.kp hbe) 5
  have y0 := HY0.out _ V1.out.kp
  go_wp2_with fail
  clear c1 c5 y0
  refine (wpart_any HW.out B b _ v1 ka _ q (HX0.out.kp V1.out.kp) V1.out.1 (by have hL := HL.out; simp only [List.length_append, List.length_cons, List.length_nil] at hL ⊢; omega)).mono ?_
  rintro e v2 ⟨rfl, hw⟩
  have V2 : Hid (Wrote B b l ((([] : List UInt8) ++ (op.data.toList ++ [32])) ++ partX ka q) w v2) := V1.out.put hw rfl
  clear hw
  go_wp2_with fail
  refine bodyPost_ret (results_none rfl _ _ _) rfl ?_
  exact ⟨rfl, by have h := V2.out; simpa using h⟩
set_option maxRecDepth 100000 in
set_option maxHeartbeats 1000000 in
theorem wworded_call {n : Nat} (hW : WrE n) (B b be sort at' len cap : Nat) (l : List UInt8) (w : World) (op nm : ByteArray) (i : Int) (pa : Option Addr) (kids : List PX) (he : EBlk w be sort op nm i at' pa len cap) (hr : RowP (· < B) w (RepE (· < B) w n) pa len kids) (hB : Bld B b l w) (ho : openF op.data.toList = 14)
    (hlen : l.length + (dCall op.data.toList kids).tx.length ≤ 140737488355328) :
    Calls Tryz.prog 154 #[.pointer (some ⟨b, 0, none⟩), .pointer (some ⟨be, 0, none⟩)] w (WrotePost B b l (dCall op.data.toList kids).tx w) := by
  have HO : Hid (Calls Tryz.prog 149 #[.string op] w fun e w' => e = .returned (.int .i64 14) ∧ w' = w) := by have := fopening_any op w; rw [ho] at this; exact this
  have e1 : (op ++ ⟨#[40]⟩ : ByteArray).data.toList ++ (commasX kids ++ (⟨#[41]⟩ : ByteArray).data.toList) = (dCall op.data.toList kids).tx := by simp [dCall, ByteArray.data_append]
  have HC : Hid (∀ W, Grew w W → Calls Tryz.prog 97 #[.pointer (some ⟨b, 0, none⟩), .string (op ++ ⟨#[40]⟩), .slice pa len cap, .string ⟨#[41]⟩] W (WrotePost B b l (dCall op.data.toList kids).tx W)) := fun W hg => by
    have := wlist_any hW B b l W (op ++ ⟨#[40]⟩) ⟨#[41]⟩ pa len cap kids (hr.kp (Kp.grew (b := b) hg hB.low)) (hB.grew hg) (by rw [e1]; exact hlen)
    rw [e1] at this
    exact this
  have HB : Hid (Bld B b l w) := hB
  have HE : Hid (EBlk w be sort op nm i at' pa len cap) := he
  have hbl := block_lt he
  have hosz : op.size ≤ 140737488355328 := by simp [dCall] at hlen; omega
  have hosz2 : op.size ≤ 9223372036854775806 := by omega
  have c1 := block_cell he 1
  have c5 := block_cell he 5
  have mo := follows
  clear he hr hB hlen hW e1 ho
  go_enter Tryz.func154, Tryz.ntmps154
  go_wp2_with (go_at_call 149; refine HO.out.mono ?_; rintro e w3 ⟨rfl, hw⟩; cases hw)
  have d1 := block_cell (HE.out.of (P := fun _ => True) (Fr.grew (Grew.refl w).drew) trivial) 1
  have d5 := block_cell (HE.out.of (P := fun _ => True) (Fr.grew (Grew.refl w).drew) trivial) 5
  go_region_with (go_at_call 97; refine (HC.out _ (Grew.refl w).drew).mono ?_; rintro e v1 ⟨rfl, hw⟩; have V1 : Hid (Wrote B b l (dCall op.data.toList kids).tx w v1) := ⟨hw.1, (Kp.grew (Grew.refl w).drew HB.out.low).trans hw.2⟩; clear hw)
  all_goals go_wp2_with fail
  all_goals go_end0
  all_goals exact ⟨rfl, V1.out⟩
end Go.Proofs.YtjbekejcghjhbaaGreatDoor.Sx

namespace Go.Proofs.YtjbekejcghjhbaaGreatDoor.Sx
open Go.RowKit Go.Sort
attribute [local go_sem] grip_rank

set_option maxRecDepth 100000 in
set_option maxHeartbeats 1000000 in
theorem woperator_join {n : Nat} (hW : WrE n) (B b be sort at' len cap : Nat) (l : List UInt8) (w : World) (op nm : ByteArray) (i : Int) (pa : Option Addr) (ka kb : PX) (he : EBlk w be sort op nm i at' pa len cap) (hbe : be < B) (hr : RowP (· < B) w (RepE (· < B) w n) pa len [ka, kb]) (hB : Bld B b l w) (hj : levelF op.data.toList ≠ 0)
    (hlen : l.length + ((dBin op.data.toList ka kb).tx).length ≤ 140737488355328) :
    Calls Tryz.prog 100 #[.pointer (some ⟨b, 0, none⟩), .pointer (some ⟨be, 0, none⟩)] w (WrotePost B b l ((dBin op.data.toList ka kb).tx) w) := by
  have HE : Hid (EBlk w be sort op nm i at' pa len cap) := he
  have HW : Hid (WrE n) := hW
  have HB : Hid (Bld B b l w) := hB
  have W0 : Hid (Wrote B b l ([] : List UInt8) w w) := Wrote.nil hB
  have mo := follows
  have HL : Hid (l.length + ((dBin op.data.toList ka kb).tx).length ≤ 140737488355328) := hlen
  obtain ⟨rfl, pb, off, hpa, hpB, hpl, x0, q0, r0, x1, q1, r1⟩ := row2 hr
  subst hpa
  have HX0 : Hid (RepE (· < B) w n _ _) := r0
  have HY0 : Hid (∀ W, Kp B b w W → W.cell? ⟨pb, off, none⟩ = some (.pointer (some ⟨x0, 0, none⟩))) := fun W k => (World.cell?_of_block (w := w) (k.1.block pb hpB)).trans q0
  have HX1 : Hid (RepE (· < B) w n _ _) := r1
  have HY1 : Hid (∀ W, Kp B b w W → W.cell? ⟨pb, off + 1, none⟩ = some (.pointer (some ⟨x1, 0, none⟩))) := fun W k => (World.cell?_of_block (w := w) (k.1.block pb hpB)).trans q1
  clear q0 r0 q1 r1
  clear he hW hB hr hlen
  obtain ⟨lv, hlv⟩ : ∃ lv, levelF op.data.toList = lv := ⟨_, rfl⟩
  rw [hlv] at hj
  have HJ : Hid (Calls Tryz.prog 151 #[.string op] w fun e w' => e = .returned (.agg #[.int .i64 (lv : Int), .int .i64 (leftF lv : Int), .int .i64 (rightF lv : Int)]) ∧ Grew w w') := by
    have := fjoining_any op w
    rw [hlv] at this
    unfold gripV at this
    rw [if_neg hj] at this
    exact this
  simp only [dBin, hlv] at HL ⊢
  have k0 : ((lv : Int) != -1) = true := by rw [bne_iff_ne]; omega
  clear hj hlv
  go_enter Tryz.func100, Tryz.ntmps100
  have c1 := block_cell (HE.out.kp W0.out.kp hbe) 1
  have c2 := block_cell (HE.out.kp W0.out.kp hbe) 2
  have c5 := block_cell (HE.out.kp W0.out.kp hbe) 5
  have y0 := HY0.out _ W0.out.kp
  have y1 := HY1.out _ W0.out.kp
  go_wp2_with (go_at_call 151; refine HJ.out.mono ?_; rintro e w2 ⟨rfl, hg⟩; have G2 : Hid (Grew w w2) := hg; clear hg)
  clear c1 c2 c5 y0 y1
  have V0 : Hid (Wrote B b l ([] : List UInt8) w (w2.alloc (.cells #[.int .i64 (lv : Int), .int .i64 (leftF lv : Int), .int .i64 (rightF lv : Int)] 204))) := W0.out.grew (G2.out.alloc _)
  have GB : Hid ((w2.alloc (.cells #[.int .i64 (lv : Int), .int .i64 (leftF lv : Int), .int .i64 (rightF lv : Int)] 204)).heap[w2.heap.size]? = some (.cells #[.int .i64 (lv : Int), .int .i64 (leftF lv : Int), .int .i64 (rightF lv : Int)] 204 (0, 0))) := heap_new rfl
  have hbb : b < w2.heap.size := Nat.lt_of_lt_of_le HB.out.lt G2.out.below.size
  clear G2 HJ
  generalize w2.alloc (.cells #[.int .i64 (lv : Int), .int .i64 (leftF lv : Int), .int .i64 (rightF lv : Int)] 204) = v0 at V0 GB ⊢
  obtain ⟨bg, hbg⟩ : ∃ bg, w2.heap.size = bg := ⟨_, rfl⟩
  rw [hbg] at GB hbb ⊢
  clear hbg
  have hgb : bg ≠ b := by omega
  have c5 := block_cell (HE.out.kp V0.out.kp hbe) 5
  have y0 := HY0.out _ V0.out.kp
  have y1 := HY1.out _ V0.out.kp
  have hbl := block_lt (HE.out.kp V0.out.kp hbe)
  have z1 := block_cell GB.out 1
  have hgl := block_lt GB.out
  have hpl2 : pb < v0.heap.size := Nat.lt_of_lt_of_le hpl V0.out.kp.1.size
  have WD : Hid (Wrote B b l ([] : List UInt8) w v0.drew) := V0.out.grew (Grew.refl _).drew
  have GD : Hid (v0.drew.heap[bg]? = _) := ((Fr.grew (P := fun _ => True) (Grew.refl v0).drew).block bg hgl trivial).trans GB.out
  go_wp2_with fail
  go_region_held3 (fun w' => w'.cell? ⟨be, 5, none⟩ = some (.slice (some ⟨pb, off, none⟩) 2 cap) ∧ w'.cell? ⟨pb, off, none⟩ = some (.pointer (some ⟨x0, 0, none⟩)) ∧ w'.cell? ⟨bg, 1, none⟩ = some (.int .i64 (leftF lv : Int))) (first | (refine ⟨?_, ?_, ?_⟩ <;> assumption) | go_keep)
      ((go_at_call 150; refine (wpart_any HW.out B b _ v0.drew ka _ (leftF lv) (HX0.out.kp WD.out.kp) WD.out.1 (by have hL := HL.out; simp only [List.length_append, List.length_cons, List.length_nil] at hL ⊢; omega)).mono ?_; rintro e v1 ⟨rfl, hw⟩; have V1 : Hid (Wrote B b l (([] : List UInt8) ++ partX ka (leftF lv)) w v1) := WD.out.put hw rfl; have HV1 : Hid (v1.heap[bg]? = _) := hw.kp.kept (by decide) GD.out hgb; have j5 := block_cell (HE.out.kp V1.out.kp hbe) 5; have jy := HY0.out _ V1.out.kp; have jg := block_cell HV1.out 1; clear hw))
  clear hbl z1 hgl hpl2 WD GD j5 jy jg c5 y0 y1
  have c1 := block_cell (HE.out.kp V1.out.kp hbe) 1
  have y0 := HY0.out _ V1.out.kp
  have y1 := HY1.out _ V1.out.kp
  go_wp2_with fail
  clear c1 y0 y1
  refine (put_call B b _ v1 _ [⟨#[32]⟩, op, ⟨#[32]⟩] 3 ([32] ++ op.data.toList ++ [32]) rfl rfl (by decide) (by simp [catB]) V1.out.1 (by have hL := HL.out; simp only [List.length_append, List.length_cons, List.length_nil] at hL ⊢; omega)).mono ?_
  rintro e v2 ⟨rfl, hw⟩
  have HPUT : Hid (Wrote _ _ _ _ v1 v2) := hw
  have V2 : Hid (Wrote B b l ((([] : List UInt8) ++ partX ka (leftF lv)) ++ ([32] ++ op.data.toList ++ [32])) w v2) := V1.out.put hw rfl
  clear hw
  have HV2 : Hid (v2.heap[bg]? = _) := Kp.kept (Wrote.kp HPUT.out) (by decide) HV1.out hgb
  have c5 := block_cell (HE.out.kp V2.out.kp hbe) 5
  have y0 := HY0.out _ V2.out.kp
  have y1 := HY1.out _ V2.out.kp
  have hbl := block_lt (HE.out.kp V2.out.kp hbe)
  have z2 := block_cell HV2.out 2
  have hgl := block_lt HV2.out
  have hpl2 : pb < v2.heap.size := Nat.lt_of_lt_of_le hpl V2.out.kp.1.size
  have WD : Hid (Wrote B b l ((([] : List UInt8) ++ partX ka (leftF lv)) ++ ([32] ++ op.data.toList ++ [32])) w v2.drew) := V2.out.grew (Grew.refl _).drew
  have GD : Hid (v2.drew.heap[bg]? = _) := ((Fr.grew (P := fun _ => True) (Grew.refl v2).drew).block bg hgl trivial).trans HV2.out
  go_wp2_with fail
  go_region_held3 (fun w' => w'.cell? ⟨be, 5, none⟩ = some (.slice (some ⟨pb, off, none⟩) 2 cap) ∧ w'.cell? ⟨pb, off + 1, none⟩ = some (.pointer (some ⟨x1, 0, none⟩)) ∧ w'.cell? ⟨bg, 2, none⟩ = some (.int .i64 (rightF lv : Int))) (first | (refine ⟨?_, ?_, ?_⟩ <;> assumption) | go_keep)
      ((go_at_call 150; refine (wpart_any HW.out B b _ v2.drew kb _ (rightF lv) (HX1.out.kp WD.out.kp) WD.out.1 (by have hL := HL.out; simp only [List.length_append, List.length_cons, List.length_nil] at hL ⊢; omega)).mono ?_; rintro e v3 ⟨rfl, hw⟩; have V3 : Hid (Wrote B b l (((([] : List UInt8) ++ partX ka (leftF lv)) ++ ([32] ++ op.data.toList ++ [32])) ++ partX kb (rightF lv)) w v3) := WD.out.put hw rfl; have HV3 : Hid (v3.heap[bg]? = _) := hw.kp.kept (by decide) GD.out hgb; have j5 := block_cell (HE.out.kp V3.out.kp hbe) 5; have jy := HY1.out _ V3.out.kp; have jg := block_cell HV3.out 2; clear hw))
  clear hbl z2 hgl hpl2 WD GD j5 jy jg c5 y0 y1
  go_wp2_with fail
  refine bodyPost_ret (results_none rfl _ _ _) rfl ?_
  exact ⟨rfl, by have h := V3.out; simpa using h⟩
end Go.Proofs.YtjbekejcghjhbaaGreatDoor.Sx
