/- Compare. -/
import Derived.Test.YtjbekejcghjhbaaGreatDoorF01
import Derived.Test.YtjbekejcghjhbaaGreatDoorShelf
import Derived.Deep.RegionWith
import Derived.BigQuiet
import Derived.Lib.SlBytesConst
namespace Go.Proofs.YtjbekejcghjhbaaGreatDoor.Sx
open Go.RowKit Go.Sort
attribute [local go_sem] asn_4 asp_4 as_4_4 as_2_4 as_101_4 as_102_4 as_103_4 as_107_4 asn_2 asp_2 as_4_2 as_2_2 as_101_2 as_102_2 as_103_2 as_107_2 asn_101 asp_101 as_4_101 as_2_101 as_101_101 as_102_101 as_103_101 as_107_101 asn_102 asp_102 as_4_102 as_2_102 as_101_102 as_102_102 as_103_102 as_107_102 asn_103 asp_103 as_4_103 as_2_103 as_101_103 as_102_103 as_103_103 as_107_103 asn_107 asp_107 as_4_107 as_2_107 as_101_107 as_102_107 as_103_107 as_107_107

theorem strCmp_any (a b : ByteArray) (w : World) : Calls Tryz.prog 78 #[.string a, .string b] w fun e w' => e = .returned (.int .i64 (Lib.compareBytes a.data.toList b.data.toList)) ∧ w' = w :=
  Tryz.strings_Compare a b w

set_option maxRecDepth 100000 in
set_option maxHeartbeats 1000000 in
theorem compareAlike_any (n : Nat) (hC : CmpOK n) (w : World) (a b : Node (AV n)) (va vb : Value) (ha : Rep w (n + 1) a va) (hb : Rep w (n + 1) b vb) (hk : a.kind = b.kind) :
    Calls Tryz.prog 39 #[va, vb] w fun e w' => e = .returned (.int .i64 (cmpN (cmpV n) a b)) ∧ Grew w w' := by
  have HC : Hid (CmpOK n) := hC
  clear hC
  rcases ha with ⟨rfl, rfl⟩ | ⟨b1, rfl, rfl⟩ | ⟨i1, rfl, rfl⟩ | ⟨s1, rfl, rfl⟩ | ⟨s1, rfl, rfl⟩ | ⟨es1, p1, rfl, rfl, h1⟩ | ⟨ks1, us1, p1, d1, rfl, rfl, h1⟩ <;>
  rcases hb with ⟨rfl, rfl⟩ | ⟨b2, rfl, rfl⟩ | ⟨i2, rfl, rfl⟩ | ⟨s2, rfl, rfl⟩ | ⟨s2, rfl, rfl⟩ | ⟨es2, p2, rfl, rfl, h2⟩ | ⟨ks2, us2, p2, d2, rfl, rfl, h2⟩ <;>
  first | (exfalso; simp [mkNil, mkBool, mkInt, mkText, mkAtom, mkSet, mkFn] at hk; done) | clear hk
  · go_enter Tryz.func39, Tryz.ntmps39
    go_wp2_with fail
    go_ret
    exact ⟨rfl, Grew.refl w⟩
  · rw [cmpN_bool]
    have h := cmpBool_any b1 b2 w
    generalize (if b1 = b2 then (0 : Int) else if b2 = true then -1 else 1) = d at h ⊢
    have H : Hid (Calls _ _ _ _ _) := h
    clear h
    go_enter Tryz.func39, Tryz.ntmps39
    go_wp2_with (go_at_call 76; refine H.out.mono ?_; rintro e w' ⟨rfl, rfl⟩)
    go_ret
    exact ⟨rfl, Grew.refl _⟩
  · rw [cmpN_int]
    have h := cmpInt64_any i1 i2 w
    generalize Lib.compareInt i1 i2 = d at h ⊢
    have H : Hid (Calls _ _ _ _ _) := h
    clear h
    go_enter Tryz.func39, Tryz.ntmps39
    go_wp2_with (go_at_call 77; refine H.out.mono ?_; rintro e w' ⟨rfl, rfl⟩)
    go_ret
    exact ⟨rfl, Grew.refl _⟩
  · rw [cmpN_text]
    have h := strCmp_any s1 s2 w
    generalize Lib.compareBytes s1.data.toList s2.data.toList = d at h ⊢
    have H : Hid (Calls _ _ _ _ _) := h
    clear h
    go_enter Tryz.func39, Tryz.ntmps39
    go_wp2_with (go_at_call 78; refine H.out.mono ?_; rintro e w' ⟨rfl, rfl⟩)
    go_ret
    exact ⟨rfl, Grew.refl _⟩
  · rw [cmpN_atom]
    have h := strCmp_any s1 s2 w
    generalize Lib.compareBytes s1.data.toList s2.data.toList = d at h ⊢
    have H : Hid (Calls _ _ _ _ _) := h
    clear h
    go_enter Tryz.func39, Tryz.ntmps39
    go_wp2_with (go_at_call 78; refine H.out.mono ?_; rintro e w' ⟨rfl, rfl⟩)
    go_ret
    exact ⟨rfl, Grew.refl _⟩
  · rw [cmpN_set]
    have h := compareSets_any n HC.out w p1 p2 es1 es2 h1 h2
    generalize cmpS (cmpV n) es1 es2 = d at h ⊢
    have H : Hid (Calls _ _ _ _ _) := h
    clear h h1 h2
    go_enter Tryz.func39, Tryz.ntmps39
    go_wp2_with (go_at_call 79; refine H.out.mono ?_; rintro e w' ⟨rfl, hg⟩; have HG : Hid (Grew w w') := hg; clear hg)
    go_ret
    exact ⟨rfl, by assumption⟩
  · rw [cmpN_fn]
    have h := compareFunctions_any n HC.out w p1 p2 d1 d2 ks1 us1 ks2 us2 h1 h2
    generalize then2 (cmpS (cmpV n) ks1 ks2) (cmpS (cmpV n) us1 us2) = d at h ⊢
    have H : Hid (Calls _ _ _ _ _) := h
    clear h h1 h2
    go_enter Tryz.func39, Tryz.ntmps39
    go_wp2_with (go_at_call 80; refine H.out.mono ?_; rintro e w' ⟨rfl, hg⟩; have HG : Hid (Grew w w') := hg; clear hg)
    go_ret
    exact ⟨rfl, by assumption⟩

theorem two_boxes (w : World) (va vb : Value) (t : TypeId) : ((w.alloc (.cells #[va] t)).alloc (.cells #[vb] t)).cell? ⟨w.heap.size, 0, none⟩ = some va ∧ ((w.alloc (.cells #[va] t)).alloc (.cells #[vb] t)).cell? ⟨w.heap.size + 1, 0, none⟩ = some vb ∧ ((w.alloc (.cells #[va] t)).alloc (.cells #[vb] t)).heap.size = w.heap.size + 2 := by
  simp

set_option maxRecDepth 100000 in
set_option maxHeartbeats 1000000 in
theorem compare_walk (w : World) (va vb : Value) (k1 k2 : Nat) (d r : Int) (st1 : va.oneCell' = true) (st2 : vb.oneCell' = true)
    (hr1 : ∀ W : World, Grew w W → Calls Tryz.prog 38 #[va] W fun e w' => e = .returned (.int .i64 k1) ∧ w' = W)
    (hr2 : ∀ W : World, Grew w W → Calls Tryz.prog 38 #[vb] W fun e w' => e = .returned (.int .i64 k2) ∧ w' = W)
    (hci : ∀ W : World, Calls Tryz.prog 37 #[.int .i64 k1, .int .i64 k2] W fun e w' => e = .returned (.int .i64 d) ∧ w' = W)
    (hca : d = 0 → ∀ W : World, Grew w W → Calls Tryz.prog 39 #[va, vb] W fun e w' => e = .returned (.int .i64 r) ∧ Grew W w') :
    Calls Tryz.prog 17 #[.agg #[va], .agg #[vb]] w fun e w' => e = .returned (.int .i64 (then2 d r)) ∧ Grew w w' := by
  have HR1 : Hid (∀ (W : World), Grew w W → _) := hr1
  have HR2 : Hid (∀ (W : World), Grew w W → _) := hr2
  have HCI : Hid (∀ W, _) := hci
  have HCA : Hid (d = 0 → _) := hca
  clear hr1 hr2 hci hca
  have st1 := store_one st1
  have st2 := store_one st2
  have mo := follows
  obtain ⟨m1, m2, m3⟩ := two_boxes w va vb 23
  have G0 : Hid (Grew w ((w.alloc (.cells #[va] 23)).alloc (.cells #[vb] 23))) := ((Grew.refl w).alloc _).alloc _
  have z1 : w.heap.size < ((w.alloc (.cells #[va] 23)).alloc (.cells #[vb] 23)).heap.size := by omega
  have z2 : w.heap.size + 1 < ((w.alloc (.cells #[va] 23)).alloc (.cells #[vb] 23)).heap.size := by omega
  by_cases h0 : d = 0
  · subst h0
    have HF : Hid (then2 0 r = r) := then2_zero r
    have HCA' := HCA.out rfl
    have HCA' : Hid (∀ (W : World), Grew w W → _) := HCA'
    clear HCA
    go_enter Tryz.func17, Tryz.ntmps17
    go_wp2_with fail
    generalize (w.alloc (.cells #[va] 23)).alloc (.cells #[vb] 23) = W0 at m1 m2 m3 G0 z1 z2 ⊢
    have g1 := cell_grown (w := W0) (a := ⟨w.heap.size, 0, none⟩) z1 m1
    have g2 := cell_grown (w := W0) (a := ⟨w.heap.size + 1, 0, none⟩) z2 m2
    clear m3
    go_quiet_grown (first
      | (go_at_call_of 38 (va); refine Calls.grown_of ((HR1.out _ (G0.out.grown _ _)).mono fun e W h => ⟨h.1, by rw [h.2]; exact Grew.refl _⟩))
      | (go_at_call_of 38 (vb); refine Calls.grown_of ((HR2.out _ (G0.out.grown _ _)).mono fun e W h => ⟨h.1, by rw [h.2]; exact Grew.refl _⟩))
      | (go_at_call 37; refine Calls.grown_of ((HCI.out _).mono fun e W h => ⟨h.1, by rw [h.2]; exact Grew.refl _⟩)))
    have G1 : Hid (Grew w (grow (W0.drewN nq) osq)) := G0.out.grown _ _
    have n1 := g1 nq osq
    have n2 := g2 nq osq
    clear g1 g2 m1 m2 z1 z2
    generalize grow (W0.drewN nq) osq = W1 at G1 n1 n2 ⊢
    clear nq osq
    go_wp2_with (go_at_call 39; refine (HCA'.out _ G1.out).mono ?_; rintro e w' ⟨rfl, hg⟩; have HG : Hid (Grew w w') := G1.out.trans hg; clear hg)
    go_ret
    exact ⟨by rw [HF.out]; rfl, by assumption⟩
  · have hd : (d == 0) = false := by simp [h0]
    have HF : Hid (then2 d r = d) := by show _ = _; simp [then2, h0]
    clear HCA
    go_enter Tryz.func17, Tryz.ntmps17
    go_wp2_with fail
    generalize (w.alloc (.cells #[va] 23)).alloc (.cells #[vb] 23) = W0 at m1 m2 m3 G0 z1 z2 ⊢
    have g1 := cell_grown (w := W0) (a := ⟨w.heap.size, 0, none⟩) z1 m1
    have g2 := cell_grown (w := W0) (a := ⟨w.heap.size + 1, 0, none⟩) z2 m2
    clear m3
    go_quiet_grown (first
      | (go_at_call_of 38 (va); refine Calls.grown_of ((HR1.out _ (G0.out.grown _ _)).mono fun e W h => ⟨h.1, by rw [h.2]; exact Grew.refl _⟩))
      | (go_at_call_of 38 (vb); refine Calls.grown_of ((HR2.out _ (G0.out.grown _ _)).mono fun e W h => ⟨h.1, by rw [h.2]; exact Grew.refl _⟩))
      | (go_at_call 37; refine Calls.grown_of ((HCI.out _).mono fun e W h => ⟨h.1, by rw [h.2]; exact Grew.refl _⟩)))
    have G1 : Hid (Grew w (grow (W0.drewN nq) osq)) := G0.out.grown _ _
    clear g1 g2 m1 m2 z1 z2
    generalize grow (W0.drewN nq) osq = W1 at G1 ⊢
    clear nq osq
    go_wp2_with fail
    go_ret
    exact ⟨by rw [HF.out]; rfl, G1.out⟩

theorem compare_step (n : Nat) (hC : CmpOK n) : CmpOK (n + 1) := by
  intro w a b va vb ha hb
  have key : cmpV (n + 1) a b = then2 (Lib.compareInt (kindOf (n + 1) a) (kindOf (n + 1) b)) (cmpN (cmpV n) a b) := by
    show cmpN (cmpV n) a b = _
    by_cases h : Lib.compareInt (kindOf (n + 1) a) (kindOf (n + 1) b) = 0
    · rw [h, then2_zero]
    · simp only [then2, if_neg h]; exact cmpN_kind h
  rw [key]
  refine compare_walk w va vb _ _ _ _ ha.one hb.one (fun W hW => rank_any (n + 1) a va W (ha.grew hW)) (fun W hW => rank_any (n + 1) b vb W (hb.grew hW)) (fun W => cmpInt_any _ _ W) ?_
  intro hd W hW
  have hk := (cint_eq _ _).1 hd
  exact compareAlike_any n hC W a b va vb (ha.grew hW) (hb.grew hW) (by simp only [kindOf] at hk; omega)

theorem compare_any : ∀ n, CmpOK n
  | 0 => fun _ a => Empty.elim a
  | n + 1 => compare_step n (compare_any n)

set_option maxRecDepth 100000 in
theorem same_any (n : Nat) (w : World) (a b : AV n) (va vb : Value) (ha : Rep w n a va) (hb : Rep w n b vb) :
    Calls Tryz.prog 194 #[.agg #[va], .agg #[vb]] w fun e w' => e = .returned (.bool (cmpV n a b == 0)) ∧ Grew w w' := by
  have hc := fun (W : World) (hW : Grew w W) => compare_any n W a b va vb (ha.grew hW) (hb.grew hW)
  have HC : Hid (∀ (W : World), Grew w W → _) := hc
  have st1 := store_one ha.one
  have st2 := store_one hb.one
  clear hc ha hb
  generalize cmpV n a b = d at HC ⊢
  go_enter Tryz.func194, Tryz.ntmps194
  go_wp2_with (go_at_call 17; refine (HC.out _ (((Grew.refl w).alloc _).alloc _)).mono ?_; rintro e w' ⟨rfl, hg⟩; have HG : Hid (Grew w w') := (((Grew.refl w).alloc _).alloc _).trans hg; clear hg)
  go_ret
  exact ⟨rfl, by assumption⟩
end Go.Proofs.YtjbekejcghjhbaaGreatDoor.Sx

namespace Go.Proofs.YtjbekejcghjhbaaGreatDoor.Sx
open Go.RowKit Go.Sort

theorem isLetter_eq (c : UInt8) : isLetter c = (decide (97 ≤ (c.toNat : Int) ∧ (c.toNat : Int) ≤ 122) || decide (65 ≤ (c.toNat : Int) ∧ (c.toNat : Int) ≤ 90)) := by
  rw [Bool.eq_iff_iff]; simp [isLetter, UInt8.le_iff_toNat_le]; omega
theorem isDigit_eq (c : UInt8) : isDigit c = decide (48 ≤ (c.toNat : Int) ∧ (c.toNat : Int) ≤ 57) := by
  rw [Bool.eq_iff_iff]; simp [isDigit, UInt8.le_iff_toNat_le]; omega

set_option maxRecDepth 100000 in
theorem letter_int (x : Int) (w : World) : Calls Tryz.prog 160 #[.int .u8 x] w fun e w' => e = .returned (.bool (decide (97 ≤ x ∧ x ≤ 122) || decide (65 ≤ x ∧ x ≤ 90))) ∧ w' = w := by
  have fin : ∀ b, (decide (97 ≤ x ∧ x ≤ 122) || decide (65 ≤ x ∧ x ≤ 90)) = b → (decide (97 ≤ x ∧ x ≤ 122) || decide (65 ≤ x ∧ x ≤ 90)) = b := fun _ h => h
  rcases (show x < 65 ∨ (65 ≤ x ∧ x ≤ 90) ∨ (90 < x ∧ x < 97) ∨ (97 ≤ x ∧ x ≤ 122) ∨ 122 < x from by omega) with h | h | h | h | h
  · rw [fin false (by simp; omega)]
    clear fin
    have h1 : ¬ 97 ≤ x := by omega
    have h2 : ¬ 65 ≤ x := by omega
    go_enter Tryz.func160, Tryz.ntmps160
    go_wp2
    go_ret
    exact ⟨rfl, rfl⟩
  · rw [fin true (by simp; omega)]
    clear fin
    obtain ⟨h3, h4⟩ := h
    have h1 : ¬ 97 ≤ x := by omega
    go_enter Tryz.func160, Tryz.ntmps160
    go_wp2
    go_ret
    exact ⟨rfl, rfl⟩
  · rw [fin false (by simp; omega)]
    clear fin
    have h1 : ¬ 97 ≤ x := by omega
    have h2 : 65 ≤ x := by omega
    have h3 : ¬ x ≤ 90 := by omega
    clear h
    go_enter Tryz.func160, Tryz.ntmps160
    go_wp2
    go_ret
    exact ⟨rfl, rfl⟩
  · rw [fin true (by simp; omega)]
    clear fin
    obtain ⟨h3, h4⟩ := h
    go_enter Tryz.func160, Tryz.ntmps160
    go_wp2
    go_ret
    exact ⟨rfl, rfl⟩
  · rw [fin false (by simp; omega)]
    clear fin
    have h1 : 97 ≤ x := by omega
    have h2 : 65 ≤ x := by omega
    have h3 : ¬ x ≤ 90 := by omega
    have h4 : ¬ x ≤ 122 := by omega
    clear h
    go_enter Tryz.func160, Tryz.ntmps160
    go_wp2
    go_ret
    exact ⟨rfl, rfl⟩

set_option maxRecDepth 100000 in
theorem digit_int (x : Int) (w : World) : Calls Tryz.prog 162 #[.int .u8 x] w fun e w' => e = .returned (.bool (decide (48 ≤ x ∧ x ≤ 57))) ∧ w' = w := by
  have fin : ∀ b, decide (48 ≤ x ∧ x ≤ 57) = b → decide (48 ≤ x ∧ x ≤ 57) = b := fun _ h => h
  rcases (show x < 48 ∨ (48 ≤ x ∧ x ≤ 57) ∨ 57 < x from by omega) with h | h | h
  · rw [fin false (by simp; omega)]
    clear fin
    have h1 : ¬ 48 ≤ x := by omega
    clear h
    go_enter Tryz.func162, Tryz.ntmps162
    go_wp2
    go_ret
    exact ⟨rfl, rfl⟩
  · rw [fin true (by simp; omega)]
    clear fin
    obtain ⟨h1, h2⟩ := h
    go_enter Tryz.func162, Tryz.ntmps162
    go_wp2
    go_ret
    exact ⟨rfl, rfl⟩
  · rw [fin false (by simp; omega)]
    clear fin
    have h1 : 48 ≤ x := by omega
    have h2 : ¬ x ≤ 57 := by omega
    clear h
    go_enter Tryz.func162, Tryz.ntmps162
    go_wp2
    go_ret
    exact ⟨rfl, rfl⟩

theorem letter_any (c : UInt8) (w : World) : Calls Tryz.prog 160 #[.int .u8 c.toNat] w fun e w' => e = .returned (.bool (isLetter c)) ∧ w' = w := by
  rw [isLetter_eq]; exact letter_int _ w
theorem digit_any (c : UInt8) (w : World) : Calls Tryz.prog 162 #[.int .u8 c.toNat] w fun e w' => e = .returned (.bool (isDigit c)) ∧ w' = w := by
  rw [isDigit_eq]; exact digit_int _ w

set_option maxRecDepth 100000 in
theorem part_walk (x : Int) (b1 b2 : Bool) (w : World) (h1 : Calls Tryz.prog 160 #[.int .u8 x] w fun e w' => e = .returned (.bool b1) ∧ w' = w) (h2 : Calls Tryz.prog 162 #[.int .u8 x] w fun e w' => e = .returned (.bool b2) ∧ w' = w) :
    Calls Tryz.prog 255 #[.int .u8 x] w fun e w' => e = .returned (.bool (b1 || b2 || decide (x = 95))) ∧ w' = w := by
  have H1 : Hid (Calls _ _ _ _ _) := h1
  have H2 : Hid (Calls _ _ _ _ _) := h2
  clear h1 h2
  cases b1 with
  | true =>
    go_enter Tryz.func255, Tryz.ntmps255
    go_wp2_with (go_at_call 160; refine H1.out.mono ?_; rintro e w' ⟨rfl, rfl⟩)
    go_ret
    exact ⟨rfl, rfl⟩
  | false =>
    cases b2 with
    | true =>
      go_enter Tryz.func255, Tryz.ntmps255
      go_wp2_with (first | (go_at_call 160; refine H1.out.mono ?_; rintro e w' ⟨rfl, rfl⟩) | (go_at_call 162; refine H2.out.mono ?_; rintro e w' ⟨rfl, rfl⟩))
      go_ret
      exact ⟨rfl, rfl⟩
    | false =>
      by_cases h : x = 95
      · rw [decide_eq_true h]
        have h' : (x == 95) = true := by simp [h]
        clear h
        go_enter Tryz.func255, Tryz.ntmps255
        go_wp2_with (first | (go_at_call 160; refine H1.out.mono ?_; rintro e w' ⟨rfl, rfl⟩) | (go_at_call 162; refine H2.out.mono ?_; rintro e w' ⟨rfl, rfl⟩))
        go_ret
        exact ⟨rfl, rfl⟩
      · rw [decide_eq_false h]
        have h' : (x == 95) = false := by simp [h]
        clear h
        go_enter Tryz.func255, Tryz.ntmps255
        go_wp2_with (first | (go_at_call 160; refine H1.out.mono ?_; rintro e w' ⟨rfl, rfl⟩) | (go_at_call 162; refine H2.out.mono ?_; rintro e w' ⟨rfl, rfl⟩))
        go_ret
        exact ⟨rfl, rfl⟩

theorem byte_eq (c : UInt8) (k : Nat) (hk : k < 256) : (c == UInt8.ofNat k) = decide ((c.toNat : Int) = k) := by
  rw [Bool.eq_iff_iff]; simp [← UInt8.toNat_inj]; omega
theorem part_any (c : UInt8) (w : World) : Calls Tryz.prog 255 #[.int .u8 c.toNat] w fun e w' => e = .returned (.bool (isPart c)) ∧ w' = w := by
  have e : isPart c = (isLetter c || isDigit c || decide ((c.toNat : Int) = 95)) := by
    unfold isPart; congr 1; exact byte_eq c 95 (by decide)
  rw [e]
  exact part_walk _ _ _ w (letter_any c w) (digit_any c w)

def isBlank (c : UInt8) : Bool := c == 32 || c == 9 || c == 10
set_option maxRecDepth 100000 in
theorem blank_int (x : Int) (w : World) : Calls Tryz.prog 117 #[.int .u8 x] w fun e w' => e = .returned (.bool (decide (x = 32) || decide (x = 9) || decide (x = 10))) ∧ w' = w := by
  rcases (show x = 32 ∨ x = 9 ∨ x = 10 ∨ (x ≠ 32 ∧ x ≠ 9 ∧ x ≠ 10) from by omega) with rfl | rfl | rfl | ⟨a, b, c⟩
  · go_enter Tryz.func117, Tryz.ntmps117
    go_wp2
    go_ret
    exact ⟨rfl, rfl⟩
  · go_enter Tryz.func117, Tryz.ntmps117
    go_wp2
    go_ret
    exact ⟨rfl, rfl⟩
  · go_enter Tryz.func117, Tryz.ntmps117
    go_wp2
    go_ret
    exact ⟨rfl, rfl⟩
  · rw [decide_eq_false a, decide_eq_false b, decide_eq_false c]
    have a' : (x == 32) = false := by simp [a]
    have b' : (x == 9) = false := by simp [b]
    have c' : (x == 10) = false := by simp [c]
    clear a b c
    go_enter Tryz.func117, Tryz.ntmps117
    go_wp2
    go_ret
    exact ⟨rfl, rfl⟩
theorem blank_any (c : UInt8) (w : World) : Calls Tryz.prog 117 #[.int .u8 c.toNat] w fun e w' => e = .returned (.bool (isBlank c)) ∧ w' = w := by
  have e : isBlank c = (decide ((c.toNat : Int) = 32) || decide ((c.toNat : Int) = 9) || decide ((c.toNat : Int) = 10)) := by
    unfold isBlank
    congr 1
    · congr 1
      · exact byte_eq c 32 (by decide)
      · exact byte_eq c 9 (by decide)
    · exact byte_eq c 10 (by decide)
  rw [e]; exact blank_int _ w

def runLen (l : List UInt8) : Nat := (l.takeWhile isPart).length
theorem runLen_le (l : List UInt8) : runLen l ≤ l.length := List.Sublist.length_le (List.takeWhile_sublist _)
theorem takeWhile_step (p : UInt8 → Bool) (l : List UInt8) (k : Nat) (c : UInt8) (hk : k ≤ (l.takeWhile p).length) (hc : l[k]? = some c) :
    (p c = true → k + 1 ≤ (l.takeWhile p).length) ∧ (p c = false → (l.takeWhile p).length = k) := by
  induction l generalizing k with
  | nil => simp at hc
  | cons x l ih =>
    cases k with
    | zero =>
      simp only [List.getElem?_cons_zero, Option.some.injEq] at hc
      subst hc
      constructor
      · intro h; simp [h]
      · intro h; simp [h]
    | succ k =>
      have hx : p x = true := by
        cases hp : p x with
        | true => rfl
        | false => simp [hp] at hk
      simp only [List.getElem?_cons_succ] at hc
      simp only [List.takeWhile_cons, hx, if_true, List.length_cons] at hk ⊢
      obtain ⟨h1, h2⟩ := ih k (by omega) hc
      exact ⟨fun h => by have := h1 h; omega, fun h => by have := h2 h; omega⟩

set_option maxRecDepth 100000 in
set_option maxHeartbeats 1000000 in
theorem run_any (s : ByteArray) (w : World) (hs : s.size ≤ 4294967296) : Calls Tryz.prog 161 #[.string s] w fun e w' => e = .returned (.int .i64 (runLen s.data.toList)) ∧ w' = w := by
  have hR := runLen_le s.data.toList
  have hl : s.data.toList.length = s.size := by simp
  have HP : Hid (∀ c W, Calls Tryz.prog 255 #[.int .u8 (UInt8.toNat c)] W _) := part_any
  obtain ⟨N, hN⟩ : ∃ N, runLen s.data.toList = N := ⟨_, rfl⟩
  have HN : Hid (runLen s.data.toList = N) := hN
  rw [hN] at hR ⊢
  clear hN
  have mo := follows
  go_enter Tryz.func161, Tryz.ntmps161
  go_wp2_with fail
  go_loopw [3] (fun i wr => ∃ k : Nat, k ≤ N ∧ i = .int .i64 k ∧ Hid (wr = w)) (fun i _ => s.size - (intOf i).toNat)
  case atStart => exact ⟨0, Nat.zero_le _, rfl, rfl⟩
  case round =>
    obtain ⟨k, hk, rfl, HQ⟩ := hrel
    by_cases hlt : k < s.size
    · have hc := takeWhile_step isPart s.data.toList k s[k] (by have := HN.out; unfold runLen at this; omega) (by rw [List.getElem?_eq_getElem (by omega)]; rfl)
      have HPk := HP.out s[k]
      obtain ⟨b, hb⟩ : ∃ b, isPart s[k] = b := ⟨_, rfl⟩
      rw [hb] at HPk hc
      have HPK : Hid (∀ W, Calls Tryz.prog 255 #[.int .u8 (UInt8.toNat s[k])] W _) := HPk
      have hc' : (b = true → k + 1 ≤ N) ∧ (b = false → N = k) := by
        have := HN.out; unfold runLen at this; rw [← this]; exact hc
      clear HPk hc hb
      cases b with
      | true =>
        have hle := hc'.1 rfl
        clear hc'
        go_wp2_with (go_at_call 255; refine (HPK.out _).mono ?_; rintro e w' ⟨rfl, rfl⟩)
        go_roundw
        case rel => exact ⟨k + 1, hle, by go_num, HQ⟩
        case measure => simp [intOf]; omega
      | false =>
        have hle := hc'.2 rfl
        clear hc'
        have HE : Hid (N = k) := hle
        clear hle
        go_wp2_with (go_at_call 255; refine (HPK.out _).mono ?_; rintro e w' ⟨rfl, rfl⟩)
        go_ret
        exact ⟨by rw [HE.out]; rfl, HQ.out⟩
    · have HE : Hid (N = k) := by show _ = _; omega
      go_wp2_with fail
      go_ret
      exact ⟨by rw [HE.out]; rfl, HQ.out⟩
end Go.Proofs.YtjbekejcghjhbaaGreatDoor.Sx

namespace Go.Proofs.YtjbekejcghjhbaaGreatDoor.Sx
open Go.RowKit Go.Sort

def qScan : List UInt8 → Nat → Nat × Nat
  | [], i => (5, i)
  | c :: r, i => if c == 34 then (3, i + 1) else if okText c then qScan r (i + 1) else (5, i)

theorem qScan_step (l : List UInt8) (k : Nat) (c : UInt8) (h : l[k]? = some c) : qScan (l.drop k) k = if c == 34 then (3, k + 1) else if okText c then qScan (l.drop (k + 1)) (k + 1) else (5, k) := by
  obtain ⟨h1, e1⟩ := List.getElem?_eq_some_iff.1 h
  rw [List.drop_eq_getElem_cons h1, e1]; rfl

theorem okText_int (c : UInt8) : (c == 34) = decide ((c.toNat : Int) = 34) ∧ okText c = (decide (32 ≤ (c.toNat : Int)) && decide ((c.toNat : Int) ≤ 126) && decide ((c.toNat : Int) ≠ 34) && decide ((c.toNat : Int) ≠ 92)) := by
  refine ⟨byte_eq c 34 (by decide), ?_⟩
  rw [Bool.eq_iff_iff]; simp [okText, UInt8.le_iff_toNat_le, ← UInt8.toNat_inj]; omega

set_option maxRecDepth 100000 in
set_option maxHeartbeats 1000000 in
theorem quote_any (s : ByteArray) (w : World) (hs : s.size ≤ 4294967296) (h1 : 1 ≤ s.size) : Calls Tryz.prog 166 #[.string s] w fun e w' => e = .returned (.tuple #[.int .i64 (qScan (s.data.toList.drop 1) 1).2, .bool (decide ((qScan (s.data.toList.drop 1) 1).1 = 3))]) ∧ w' = w := by
  have hl : s.data.toList.length = s.size := by simp
  obtain ⟨r1, r2, hr⟩ : ∃ r1 r2, qScan (s.data.toList.drop 1) 1 = (r1, r2) := ⟨_, _, rfl⟩
  rw [hr]
  have HR : Hid (qScan (s.data.toList.drop 1) 1 = (r1, r2)) := hr
  clear hr
  obtain ⟨bq, hbq⟩ : ∃ b, decide (r1 = 3) = b := ⟨_, rfl⟩
  show Calls Tryz.prog 166 #[.string s] w fun e w' => e = .returned (.tuple #[.int .i64 r2, .bool (decide (r1 = 3))]) ∧ w' = w
  rw [hbq]
  have HBQ : Hid (decide (r1 = 3) = bq) := hbq
  clear hbq
  go_enter Tryz.func166, Tryz.ntmps166
  go_wp2_with fail
  go_loop [4] (fun i => ∃ k : Nat, 1 ≤ k ∧ k ≤ s.size ∧ i = .int .i64 k ∧ Hid (qScan (s.data.toList.drop k) k = (r1, r2))) (fun i => s.size - (intOf i).toNat)
  case atStart => exact ⟨1, Nat.le_refl _, h1, rfl, HR⟩
  case round =>
    obtain ⟨k, hk1, hk, rfl, HQ⟩ := hrel
    by_cases hlt : k < s.size
    · have hst := qScan_step s.data.toList k s[k] (by rw [List.getElem?_eq_getElem (by omega)]; rfl)
      rw [HQ.out, (okText_int s[k]).1, (okText_int s[k]).2] at hst
      have HST : Hid (_ = _) := hst
      clear hst HQ HR
      rcases (show (s[k].toNat : Int) = 34 ∨ ((s[k].toNat : Int) ≠ 34 ∧ (s[k].toNat : Int) < 32) ∨ ((s[k].toNat : Int) ≠ 34 ∧ 126 < (s[k].toNat : Int)) ∨ (s[k].toNat : Int) = 92 ∨ ((s[k].toNat : Int) ≠ 34 ∧ (s[k].toNat : Int) ≠ 92 ∧ 32 ≤ (s[k].toNat : Int) ∧ (s[k].toNat : Int) ≤ 126) from by omega) with h | ⟨ha, hb⟩ | ⟨ha, hb⟩ | h | ⟨ha, hb, hc, hd⟩
      · have HF : Hid (r1 = 3 ∧ r2 = k + 1) := by
          have := HST.out; simp [h] at this; exact this
        have h' : ((s[k].toNat : Int) == 34) = true := by simp [h]
        clear HST h
        go_wp2_with fail
        go_ret2
        obtain ⟨e1, e2⟩ := HF.out
        have hq := HBQ.out
        subst e1 e2
        simp at hq
        subst hq
        exact ⟨rfl, rfl⟩
      · have HF : Hid (r1 = 5 ∧ r2 = k) := by
          have := HST.out; simp [ha, show ¬ 32 ≤ (s[k].toNat : Int) from by omega] at this; exact this
        have h' : ((s[k].toNat : Int) == 34) = false := by simp [ha]
        clear HST ha
        go_wp2_with fail
        go_ret2
        obtain ⟨e1, e2⟩ := HF.out
        have hq := HBQ.out
        subst e1 e2
        simp at hq
        subst hq
        exact ⟨rfl, rfl⟩
      · have HF : Hid (r1 = 5 ∧ r2 = k) := by
          have := HST.out; simp [ha, show ¬ (s[k].toNat : Int) ≤ 126 from by omega] at this; exact this
        have h' : ((s[k].toNat : Int) == 34) = false := by simp [ha]
        have h2 : ¬ (s[k].toNat : Int) < 32 := by omega
        clear HST ha
        go_wp2_with fail
        go_ret2
        obtain ⟨e1, e2⟩ := HF.out
        have hq := HBQ.out
        subst e1 e2
        simp at hq
        subst hq
        exact ⟨rfl, rfl⟩
      · have HF : Hid (r1 = 5 ∧ r2 = k) := by
          have := HST.out; simp [h] at this; exact this
        have h1 : ((s[k].toNat : Int) == 34) = false := by simp [h]
        have h2 : ¬ (s[k].toNat : Int) < 32 := by omega
        have h3 : ¬ 126 < (s[k].toNat : Int) := by omega
        have h4 : ((s[k].toNat : Int) == 92) = true := by simp [h]
        clear HST h
        go_wp2_with fail
        go_ret2
        obtain ⟨e1, e2⟩ := HF.out
        have hq := HBQ.out
        subst e1 e2
        simp at hq
        subst hq
        exact ⟨rfl, rfl⟩
      · have HF : Hid (qScan (s.data.toList.drop (k + 1)) (k + 1) = (r1, r2)) := by
          have := HST.out; simp [ha, hb, hc, hd] at this; exact this.symm
        have h1 : ((s[k].toNat : Int) == 34) = false := by simp [ha]
        have h2 : ¬ (s[k].toNat : Int) < 32 := by omega
        have h3 : ¬ 126 < (s[k].toNat : Int) := by omega
        have h4 : ((s[k].toNat : Int) == 92) = false := by simp [hb]
        clear HST ha hb hc hd
        go_wp2_with fail
        go_round
        case rel => exact ⟨k + 1, by omega, by omega, by go_num, HF⟩
        case measure => simp [intOf]; omega
    · have HF : Hid (r1 = 5 ∧ r2 = s.size) := by
        have := HQ.out
        rw [List.drop_of_length_le (by omega)] at this
        simp [qScan] at this
        exact ⟨this.1.symm, by omega⟩
      clear HQ HR
      go_wp2_with fail
      go_ret2
      obtain ⟨e1, e2⟩ := HF.out
      have hq := HBQ.out
      subst e1 e2
      simp at hq
      subst hq
      exact ⟨rfl, rfl⟩
end Go.Proofs.YtjbekejcghjhbaaGreatDoor.Sx

namespace Go.Proofs.YtjbekejcghjhbaaGreatDoor.Sx
open Go.RowKit Go.Sort

def digitsT (l : List UInt8) : Nat × Nat :=
  if l.headD 0 = 48 ∧ 1 < runLen l then (5, runLen l) else if (l.take (runLen l)).all isDigit then (2, runLen l) else (5, runLen l)

def byteAt (l : List UInt8) (k : Nat) : UInt8 := l.getD k 0
theorem byteAt_get {l : List UInt8} {k : Nat} (h : k < l.length) : l[k]? = some (byteAt l k) := by
  simp [byteAt, List.getD, List.getElem?_eq_getElem h]
theorem conv_cell (w : World) (s : ByteArray) (N cap k : Nat) (f : Nat × Nat) (hN : N ≤ s.size) (hk : k < N) :
    (w.alloc (.cells (bytesRow (s.extract 0 N) cap) 5 f)).cell? ⟨w.heap.size, k, none⟩ = some (.int .u8 ((byteAt s.data.toList k).toNat : Int)) := by
  have hsz : (s.extract 0 N).data.size = N := by
    have : (s.extract 0 N).size = N := by simp [ByteArray.size_extract]; omega
    simpa using this
  have h1 := bytesRow_at (s.extract 0 N) cap k (by omega)
  have h2 : (w.alloc (.cells (bytesRow (s.extract 0 N) cap) 5 f)).heap[w.heap.size]? = some (.cells (bytesRow (s.extract 0 N) cap) 5 f) := by
    show (w.heap.push _)[w.heap.size]? = _
    simp
  rw [block_cell h2 k, h1]
  have h3 : (s.extract 0 N).data[k] = byteAt s.data.toList k := by
    have : s.data.toList[k]? = some (byteAt s.data.toList k) := byteAt_get (by simp; omega)
    simp only [Array.getElem?_toList] at this
    have h4 := (Array.getElem?_eq_some_iff.1 this).2
    rw [← h4]
    simp [ByteArray.data_extract]
  rw [h3]

/-- whether a number stands there -/
def numB (l : List UInt8) : Bool := (l.take (runLen l)).all isDigit && (decide (runLen l = 1) || (decide (1 < runLen l) && !decide ((byteAt l 0).toNat = 48)))

set_option maxRecDepth 100000 in
set_option maxHeartbeats 1000000 in
theorem number_any (s : ByteArray) (w : World) (hs : s.size ≤ 4294967296) (h1 : 1 ≤ s.size) : Calls Tryz.prog 163 #[.string s] w fun e w' => e = .returned (.tuple #[.int .i64 (runLen s.data.toList), .bool (numB s.data.toList)]) ∧ Grew w w' := by
  have hl : s.data.toList.length = s.size := by simp
  have hR := runLen_le s.data.toList
  have hrun := run_any s w hs
  obtain ⟨B, hB⟩ : ∃ B, numB s.data.toList = B := ⟨_, rfl⟩
  rw [hB]
  have HB : Hid (numB s.data.toList = B) := hB
  clear hB
  unfold numB at HB
  generalize runLen s.data.toList = N at hR hrun HB
  have HRUN : Hid (Calls _ _ _ _ _) := hrun
  clear hrun
  have hh : byteAt s.data.toList 0 = s[0] := by
    have := byteAt_get (l := s.data.toList) (k := 0) (by omega)
    rw [List.getElem?_eq_getElem (by omega)] at this
    simp only [Option.some.injEq] at this
    rw [← this]; rfl
  rw [hh] at HB
  clear hh
  have hcv := fun w s => run_bytes_of_string (P := Tryz.prog) w 9 74 5 s Tryz.underlying9 Tryz.underlying74 Tryz.underlying5
  have hmin : min N s.size = N := by omega
  have hcell := fun cap f k hk => conv_cell w s N cap k f (by omega) hk
  have HD : Hid (∀ c W, Calls Tryz.prog 162 #[.int .u8 (UInt8.toNat c)] W _) := digit_any
  have HL : Hid (∀ k, k < N → (s.data.toList.take (k + 1)).all isDigit = ((s.data.toList.take k).all isDigit && isDigit (byteAt s.data.toList k))) := by
    intro k hk
    rw [List.take_add_one, byteAt_get (by omega), List.all_append]; simp
  have HM : Hid (∀ k, k < N → isDigit (byteAt s.data.toList k) = false → (s.data.toList.take N).all isDigit = false) := by
    intro k hk hd
    rw [List.all_eq_false]
    exact ⟨byteAt s.data.toList k, List.mem_of_getElem? (i := k) (by rw [List.getElem?_take]; simp [hk, byteAt_get (show k < s.data.toList.length by omega)]), by simp [hd]⟩
  generalize hT : s.data.toList.take N = tN at HB HM
  have HT : Hid (s.data.toList.take N = tN) := hT
  clear hT
  have mo := follows
  go_enter Tryz.func163, Tryz.ntmps163
  go_wp2_with (go_at_call 161; refine HRUN.out.mono ?_; rintro e w' ⟨rfl, rfl⟩)
  generalize grownCap _ N 0 5 = cap
  go_loop [14] (fun i => ∃ k : Nat, k ≤ N ∧ i = .int .i64 k ∧ Hid ((s.data.toList.take k).all isDigit = true)) (fun i => N - (intOf i).toNat)
  case atStart => exact ⟨0, Nat.zero_le _, rfl, by simp [Hid]⟩
  case round =>
    obtain ⟨k, hk, rfl, HQ⟩ := hrel
    by_cases hlt : k < N
    · have hL := HL.out k hlt
      have hM := HM.out k hlt
      have hc1 := fun f => hcell cap f k hlt
      have HDk := HD.out (byteAt s.data.toList k)
      rw [HQ.out, Bool.true_and] at hL
      generalize isDigit (byteAt s.data.toList k) = b at hL hM HDk
      have HDK : Hid (∀ W, Calls Tryz.prog 162 #[.int .u8 (UInt8.toNat (byteAt s.data.toList k))] W _) := HDk
      have HLK : Hid (_ = b) := hL
      have HMK : Hid (b = false → _) := hM
      clear hL hM HDk HL HM HD hcell HRUN hcv
      cases b with
      | true =>
        go_wp2_with (go_at_call 162; refine (HDK.out _).mono ?_; rintro e w' ⟨rfl, rfl⟩)
        go_round
        case rel => exact ⟨k + 1, by omega, by go_num, HLK⟩
        case measure => simp [intOf]; omega
      | false =>
        have HF : Hid (B = false) := by
          have := HB.out; rw [HMK.out rfl] at this; exact this.symm
        go_wp2_with (go_at_call 162; refine (HDK.out _).mono ?_; rintro e w' ⟨rfl, rfl⟩)
        go_ret2
        have e1 := HF.out
        subst e1
        exact ⟨rfl, ((Grew.refl _).alloc _).drew⟩
    · obtain rfl : k = N := by omega
      have HF : Hid (B = (decide (k = 1) || (decide (1 < k) && !decide (s[0].toNat = 48)))) := by
        have := HB.out; rw [← HT.out, HQ.out, Bool.true_and] at this; exact this.symm
      clear HL HM HD hcell HRUN hcv HB HT HQ
      rcases (show k = 0 ∨ k = 1 ∨ (1 < k ∧ (s[0].toNat : Int) = 48) ∨ (1 < k ∧ (s[0].toNat : Int) ≠ 48) from by omega) with q | q | ⟨q, q'⟩ | ⟨q, q'⟩
      · have HE : Hid (B = false) := by show _ = _; rw [HF.out, q]; rfl
        have b1 : ((k : Int) == 1) = false := by simp; omega
        have b2 : decide ((1 : Int) < (k : Int)) = false := by simp; omega
        clear HF q
        go_wp2_with fail
        go_quiet (fail)
        go_wp2_with fail
        go_ret2
        have e1 := HE.out
        subst e1
        exact ⟨rfl, (((Grew.refl _).alloc _).drew).drewN _⟩
      · have HE : Hid (B = true) := by show _ = _; rw [HF.out, q]; rfl
        have b1 : ((k : Int) == 1) = true := by simp; omega
        clear HF q
        go_wp2_with fail
        go_quiet (fail)
        go_wp2_with fail
        go_ret2
        have e1 := HE.out
        subst e1
        exact ⟨rfl, (((Grew.refl _).alloc _).drew).drewN _⟩
      · have HE : Hid (B = false) := by
          show _ = _
          rw [HF.out, decide_eq_false (by omega), decide_eq_true q, decide_eq_true (show s[0].toNat = 48 by omega)]; rfl
        have b1 : ((k : Int) == 1) = false := by simp; omega
        have b2 : decide ((1 : Int) < (k : Int)) = true := by simp; omega
        have b0 : 0 < s.size := h1
        have b3 : ((s[0].toNat : Int) != 48) = false := by simp; omega
        clear HF q' q
        go_wp2_with fail
        go_quiet (fail)
        go_wp2_with fail
        go_ret2
        have e1 := HE.out
        subst e1
        exact ⟨rfl, (((Grew.refl _).alloc _).drew).drewN _⟩
      · have HE : Hid (B = true) := by
          show _ = _
          rw [HF.out, decide_eq_false (by omega), decide_eq_true q, decide_eq_false (show ¬ s[0].toNat = 48 by omega)]; rfl
        have b1 : ((k : Int) == 1) = false := by simp; omega
        have b2 : decide ((1 : Int) < (k : Int)) = true := by simp; omega
        have b0 : 0 < s.size := h1
        have b3 : ((s[0].toNat : Int) != 48) = true := by simp; omega
        clear HF q' q
        go_wp2_with fail
        go_quiet (fail)
        go_wp2_with fail
        go_ret2
        have e1 := HE.out
        subst e1
        exact ⟨rfl, (((Grew.refl _).alloc _).drew).drewN _⟩

set_option maxRecDepth 100000 in
theorem sound_any (c n : Int) (b : Bool) (w : World) : Calls Tryz.prog 164 #[.int .i64 c, .int .i64 n, .bool b] w fun e w' => e = .returned (.tuple #[.int .i64 (if b then c else 5), .int .i64 n]) ∧ w' = w := by
  cases b with
  | true =>
    rw [if_pos rfl]
    go_enter Tryz.func164, Tryz.ntmps164
    go_wp2
    go_ret2
    exact ⟨rfl, rfl⟩
  | false =>
    rw [if_neg (by simp)]
    go_enter Tryz.func164, Tryz.ntmps164
    go_wp2
    go_ret2
    exact ⟨rfl, rfl⟩

theorem run_pos {l : List UInt8} (h : 1 ≤ l.length) (hd : isDigit (byteAt l 0) = true) : 1 ≤ runLen l := by
  cases l with
  | nil => simp at h
  | cons x l =>
    have hx : isPart x = true := by
      have : isDigit x = true := hd
      simp [isPart, this]
    simp [runLen, hx]
theorem digits_num {l : List UInt8} (h : 1 ≤ l.length) (hd : isDigit (byteAt l 0) = true) : digitsT l = (if numB l then 2 else 5, runLen l) := by
  have hr := run_pos h hd
  have hh : l.headD 0 = byteAt l 0 := by cases l <;> rfl
  have h0 : (byteAt l 0 = 48) ↔ (byteAt l 0).toNat = 48 := by rw [← UInt8.toNat_inj]; simp
  unfold digitsT numB
  rw [hh]
  by_cases q : byteAt l 0 = 48 ∧ 1 < runLen l
  · rw [if_pos q, decide_eq_false (show ¬ runLen l = 1 by omega), decide_eq_true (h0.1 q.1)]
    simp
  · rw [if_neg q]
    have : (decide (runLen l = 1) || (decide (1 < runLen l) && !decide ((byteAt l 0).toNat = 48))) = true := by
      by_cases q1 : runLen l = 1
      · simp [q1]
      · have q2 : 1 < runLen l := by omega
        have q3 : ¬ (byteAt l 0).toNat = 48 := fun r => q ⟨h0.2 r, q2⟩
        simp [q2, q3]
    rw [this, Bool.and_true]
    split <;> rfl

def negT (l : List UInt8) : Nat × Nat :=
  if l.length < 2 ∨ (byteAt l 1).toNat < 49 ∨ 57 < (byteAt l 1).toNat then (5, 1) else ((digitsT (l.drop 1)).1, (digitsT (l.drop 1)).2 + 1)

theorem digitsT_le (l : List UInt8) : (digitsT l).2 ≤ l.length := by
  unfold digitsT; repeat' split
  all_goals exact runLen_le l

theorem extract_list (s : ByteArray) (i j : Nat) : (s.extract i j).data.toList = (s.data.toList.take j).drop i := by
  simp [ByteArray.data_extract, List.drop_take]

set_option maxRecDepth 100000 in
set_option maxHeartbeats 1000000 in
theorem negative_any (s : ByteArray) (w : World) (hs : s.size ≤ 4294967296) (h1 : 1 ≤ s.size) : Calls Tryz.prog 165 #[.string s] w fun e w' => e = .returned (.tuple #[.int .i64 (negT s.data.toList).1, .int .i64 (negT s.data.toList).2]) ∧ Grew w w' := by
  have hl : s.data.toList.length = s.size := by simp
  obtain ⟨r1, r2, hr⟩ : ∃ r1 r2, negT s.data.toList = (r1, r2) := ⟨_, _, rfl⟩
  rw [hr]
  have HR : Hid (negT s.data.toList = (r1, r2)) := hr
  clear hr
  unfold negT at HR
  by_cases h2 : s.size < 2
  · have HF : Hid (r1 = 5 ∧ r2 = 1) := by
      have := HR.out; rw [if_pos (.inl (by omega))] at this; simp at this; exact ⟨this.1.symm, this.2.symm⟩
    clear HR
    go_enter Tryz.func165, Tryz.ntmps165
    go_wp2_with fail
    go_ret2
    obtain ⟨e1, e2⟩ := HF.out
    subst e1 e2
    exact ⟨rfl, Grew.refl _⟩
  · have hb : byteAt s.data.toList 1 = s[1] := by
      have := byteAt_get (l := s.data.toList) (k := 1) (by omega)
      rw [List.getElem?_eq_getElem (by omega)] at this
      simp only [Option.some.injEq] at this
      rw [← this]; rfl
    rw [hb] at HR
    by_cases h3 : (s[1].toNat : Int) < 49
    · have HF : Hid (r1 = 5 ∧ r2 = 1) := by
        have := HR.out; rw [if_pos (.inr (.inl (by omega)))] at this; simp at this; exact ⟨this.1.symm, this.2.symm⟩
      clear HR hb
      go_enter Tryz.func165, Tryz.ntmps165
      go_wp2_with fail
      go_ret2
      obtain ⟨e1, e2⟩ := HF.out
      subst e1 e2
      exact ⟨rfl, Grew.refl _⟩
    · by_cases h4 : 57 < (s[1].toNat : Int)
      · have HF : Hid (r1 = 5 ∧ r2 = 1) := by
          have := HR.out; rw [if_pos (.inr (.inr (by omega)))] at this; simp at this; exact ⟨this.1.symm, this.2.symm⟩
        clear HR hb
        go_enter Tryz.func165, Tryz.ntmps165
        go_wp2_with fail
        go_ret2
        obtain ⟨e1, e2⟩ := HF.out
        subst e1 e2
        exact ⟨rfl, Grew.refl _⟩
      · have hd := number_any (s.extract 1 s.size) w (by simp; omega) (by simp; omega)
        have hx : (s.extract 1 s.size).data.toList = s.data.toList.drop 1 := by
          rw [extract_list, List.take_of_length_le (by omega)]
        have hxl : 1 ≤ (s.data.toList.drop 1).length := by simp; omega
        have hdg : isDigit (byteAt (s.data.toList.drop 1) 0) = true := by
          have : byteAt (s.data.toList.drop 1) 0 = s[1] := by rw [← hb]; simp [byteAt, List.getD]
          rw [this, isDigit_eq]; simp; omega
        rw [hx] at hd
        have hle := runLen_le (s.data.toList.drop 1)
        have HR' : Hid (((if numB (s.data.toList.drop 1) then 2 else 5), runLen (s.data.toList.drop 1) + 1) = (r1, r2)) := by
          have := HR.out; rw [if_neg (by omega), digits_num hxl hdg] at this; exact this
        clear HR hb hx hxl hdg
        generalize numB (s.data.toList.drop 1) = q1 at HR' hd
        generalize runLen (s.data.toList.drop 1) = q2 at HR' hd hle
        have HD : Hid (Calls _ _ _ _ _) := hd
        have HS : Hid (∀ W : World, _) := fun W => sound_any 2 ((q2 : Int) + 1) q1 W
        have hq : q2 ≤ s.size := by simp at hle; omega
        clear hd hle
        cases q1 with
        | true =>
          have HF : Hid (r1 = 2 ∧ r2 = q2 + 1) := by
            have := HR'.out; simp at this; exact ⟨this.1.symm, this.2.symm⟩
          clear HR'
          go_enter Tryz.func165, Tryz.ntmps165
          go_wp2_with (first | (go_at_call 163; refine HD.out.mono ?_; rintro e w' ⟨rfl, hg⟩; have HG : Hid (Grew w w') := hg; clear hg) | (go_at_call 164; refine (HS.out _).mono ?_; rintro e w' ⟨rfl, hw⟩; cases hw))
          go_ret2
          obtain ⟨e1, e2⟩ := HF.out
          subst e1 e2
          exact ⟨by go_num, by assumption⟩
        | false =>
          have HF : Hid (r1 = 5 ∧ r2 = q2 + 1) := by
            have := HR'.out; simp at this; exact ⟨this.1.symm, this.2.symm⟩
          clear HR'
          go_enter Tryz.func165, Tryz.ntmps165
          go_wp2_with (first | (go_at_call 163; refine HD.out.mono ?_; rintro e w' ⟨rfl, hg⟩; have HG : Hid (Grew w w') := hg; clear hg) | (go_at_call 164; refine (HS.out _).mono ?_; rintro e w' ⟨rfl, hw⟩; cases hw))
          go_ret2
          obtain ⟨e1, e2⟩ := HF.out
          subst e1 e2
          exact ⟨by go_num, by assumption⟩
end Go.Proofs.YtjbekejcghjhbaaGreatDoor.Sx

namespace Go.Proofs.YtjbekejcghjhbaaGreatDoor.Sx
open Go.RowKit Go.Sort

def signT (l : List UInt8) : Nat × Nat :=
  if Lib.hasPrefix l [60, 60] then (4, 2) else if Lib.hasPrefix l [62, 62] then (4, 2) else if 0 ≤ Lib.indexByte [123, 125, 91, 93, 44, 58] (byteAt l 0) then (4, 1) else (5, 1)
def tokT (l : List UInt8) : Nat × Nat :=
  if l.length = 0 then (0, 0)
  else if isLetter (byteAt l 0) then (1, runLen l)
  else if isDigit (byteAt l 0) then digitsT l
  else if (byteAt l 0).toNat = 45 then negT l
  else if (byteAt l 0).toNat = 34 then qScan (l.drop 1) 1
  else signT l

theorem byteAt_data (s : ByteArray) (k : Nat) (h : k < s.size) : byteAt s.data.toList k = s[k] := by
  have hl : s.data.toList.length = s.size := by simp
  have := byteAt_get (l := s.data.toList) (k := k) (by omega)
  rw [List.getElem?_eq_getElem (by omega)] at this
  simp only [Option.some.injEq] at this
  rw [← this]; rfl

theorem qScan_cls : ∀ (l : List UInt8) (i : Nat), (qScan l i).1 = 3 ∨ (qScan l i).1 = 5
  | [], _ => .inr rfl
  | c :: r, i => by
    have := qScan_cls r (i + 1)
    simp only [qScan]
    repeat' split
    all_goals first | exact .inl rfl | exact .inr rfl | exact this

set_option maxRecDepth 100000 in
theorem token_empty (s : ByteArray) (w : World) (h : s.size = 0) : Calls Tryz.prog 118 #[.string s] w fun e w' => e = .returned (.tuple #[.int .i64 0, .int .i64 0]) ∧ w' = w := by
  have hs : s = ⟨#[]⟩ := by
    have : s.data.size = 0 := by simpa using h
    cases s; simp_all
  subst hs
  go_enter Tryz.func118, Tryz.ntmps118
  go_wp2_with fail
  go_ret2
  exact ⟨rfl, rfl⟩

set_option maxRecDepth 100000 in
set_option maxHeartbeats 2000000 in
theorem token_walk (s : ByteArray) (w : World) (h0 : 0 < s.size) (b1 b2 : Bool) (r1 r2 : Nat)
    (hL : Calls Tryz.prog 160 #[.int .u8 (s[0].toNat : Int)] w fun e w' => e = .returned (.bool b1) ∧ w' = w)
    (hD : Calls Tryz.prog 162 #[.int .u8 (s[0].toNat : Int)] w fun e w' => e = .returned (.bool b2) ∧ w' = w)
    (h1 : b1 = true → Calls Tryz.prog 161 #[.string s] w fun e w' => e = .returned (.int .i64 r2) ∧ w' = w) (h1' : b1 = true → r1 = 1)
    (h2 : b1 = false → b2 = true → ∃ b : Bool, r1 = (if b then 2 else 5) ∧ Calls Tryz.prog 163 #[.string s] w fun e w' => e = .returned (.tuple #[.int .i64 r2, .bool b]) ∧ Grew w w')
    (h3 : b1 = false → b2 = false → (s[0].toNat : Int) = 45 → Calls Tryz.prog 165 #[.string s] w fun e w' => e = .returned (.tuple #[.int .i64 r1, .int .i64 r2]) ∧ Grew w w')
    (h4 : b1 = false → b2 = false → (s[0].toNat : Int) ≠ 45 → (s[0].toNat : Int) = 34 → ∃ b : Bool, r1 = (if b then 3 else 5) ∧ Calls Tryz.prog 166 #[.string s] w fun e w' => e = .returned (.tuple #[.int .i64 r2, .bool b]) ∧ w' = w)
    (h5 : b1 = false → b2 = false → (s[0].toNat : Int) ≠ 45 → (s[0].toNat : Int) ≠ 34 → signT s.data.toList = (r1, r2)) :
    Calls Tryz.prog 118 #[.string s] w fun e w' => e = .returned (.tuple #[.int .i64 r1, .int .i64 r2]) ∧ Grew w w' := by
  have HL : Hid (Calls _ _ _ _ _) := hL
  have HD : Hid (Calls _ _ _ _ _) := hD
  clear hL hD
  have hne : s.toList.isEmpty = false := by
    rw [ByteArray.toList_eq]
    cases q : s.data.toList with
    | nil => have : s.data.toList.length = s.size := by simp
             rw [q] at this; simp at this; omega
    | cons a l => rfl
  cases b1 with
  | true =>
    have H1 : Hid (Calls _ _ _ _ _) := h1 rfl
    have H2 : Hid (r1 = 1) := h1' rfl
    clear h1 h1' h2 h3 h4 h5
    go_enter Tryz.func118, Tryz.ntmps118
    go_wp2_with (first | (go_at_call 160; refine HL.out.mono ?_; rintro e w' ⟨rfl, hw⟩; cases hw) | (go_at_call 161; refine H1.out.mono ?_; rintro e w' ⟨rfl, hw⟩; cases hw))
    go_ret2
    exact ⟨by rw [H2.out]; rfl, Grew.refl _⟩
  | false =>
    clear h1 h1'
    cases b2 with
    | true =>
      obtain ⟨b, hb, hc⟩ := h2 rfl rfl
      have H1 : Hid (Calls _ _ _ _ _) := hc
      have HS : Hid (∀ W : World, _) := fun W => sound_any 2 (r2 : Int) b W
      have HBB : Hid (r1 = if b then 2 else 5) := hb
      clear h2 h3 h4 h5 hc hb
      cases b with
      | true =>
        go_enter Tryz.func118, Tryz.ntmps118
        go_wp2_with (first | (go_at_call 160; refine HL.out.mono ?_; rintro e w' ⟨rfl, hw⟩; cases hw) | (go_at_call 162; refine HD.out.mono ?_; rintro e w' ⟨rfl, hw⟩; cases hw) | (go_at_call 163; refine H1.out.mono ?_; rintro e w' ⟨rfl, hg⟩; have HG : Hid (Grew w w') := hg; clear hg) | (go_at_call 164; refine (HS.out _).mono ?_; rintro e w' ⟨rfl, hw⟩; cases hw))
        go_ret2
        rw [HBB.out]
        exact ⟨rfl, by assumption⟩
      | false =>
        go_enter Tryz.func118, Tryz.ntmps118
        go_wp2_with (first | (go_at_call 160; refine HL.out.mono ?_; rintro e w' ⟨rfl, hw⟩; cases hw) | (go_at_call 162; refine HD.out.mono ?_; rintro e w' ⟨rfl, hw⟩; cases hw) | (go_at_call 163; refine H1.out.mono ?_; rintro e w' ⟨rfl, hg⟩; have HG : Hid (Grew w w') := hg; clear hg) | (go_at_call 164; refine (HS.out _).mono ?_; rintro e w' ⟨rfl, hw⟩; cases hw))
        go_ret2
        rw [HBB.out]
        exact ⟨rfl, by assumption⟩
    | false =>
      clear h2
      have h3 := h3 rfl rfl
      have h4 := h4 rfl rfl
      have h5 := h5 rfl rfl
      by_cases q1 : (s[0].toNat : Int) = 45
      · have H1 : Hid (Calls _ _ _ _ _) := h3 q1
        have q : ((s[0].toNat : Int) == 45) = true := by simp [q1]
        clear h3 h4 h5 q1
        go_enter Tryz.func118, Tryz.ntmps118
        go_wp2_with (first | (go_at_call 160; refine HL.out.mono ?_; rintro e w' ⟨rfl, hw⟩; cases hw) | (go_at_call 162; refine HD.out.mono ?_; rintro e w' ⟨rfl, hw⟩; cases hw) | (go_at_call 165; refine H1.out.mono ?_; rintro e w' ⟨rfl, hg⟩; have HG : Hid (Grew w w') := hg; clear hg))
        go_ret2
        exact ⟨rfl, by assumption⟩
      · have h4 := h4 q1
        have h5 := h5 q1
        clear h3
        have q : ((s[0].toNat : Int) == 45) = false := by simp [q1]
        clear q1
        by_cases q2 : (s[0].toNat : Int) = 34
        · obtain ⟨b, hb, hc⟩ := h4 q2
          have H1 : Hid (Calls _ _ _ _ _) := hc
          have HS : Hid (∀ W : World, _) := fun W => sound_any 3 (r2 : Int) b W
          have HBB : Hid (r1 = if b then 3 else 5) := hb
          have q' : ((s[0].toNat : Int) == 34) = true := by simp [q2]
          clear h4 h5 q2 hc hb
          cases b with
          | true =>
            go_enter Tryz.func118, Tryz.ntmps118
            go_wp2_with (first | (go_at_call 160; refine HL.out.mono ?_; rintro e w' ⟨rfl, hw⟩; cases hw) | (go_at_call 162; refine HD.out.mono ?_; rintro e w' ⟨rfl, hw⟩; cases hw) | (go_at_call 166; refine H1.out.mono ?_; rintro e w' ⟨rfl, hw⟩; cases hw) | (go_at_call 164; refine (HS.out _).mono ?_; rintro e w' ⟨rfl, hw⟩; cases hw))
            go_ret2
            rw [HBB.out]
            exact ⟨rfl, Grew.refl _⟩
          | false =>
            go_enter Tryz.func118, Tryz.ntmps118
            go_wp2_with (first | (go_at_call 160; refine HL.out.mono ?_; rintro e w' ⟨rfl, hw⟩; cases hw) | (go_at_call 162; refine HD.out.mono ?_; rintro e w' ⟨rfl, hw⟩; cases hw) | (go_at_call 166; refine H1.out.mono ?_; rintro e w' ⟨rfl, hw⟩; cases hw) | (go_at_call 164; refine (HS.out _).mono ?_; rintro e w' ⟨rfl, hw⟩; cases hw))
            go_ret2
            rw [HBB.out]
            exact ⟨rfl, Grew.refl _⟩
        · have h5 := h5 q2
          have q' : ((s[0].toNat : Int) == 34) = false := by simp [q2]
          clear h4 q2
          have hp1 := Tryz.strings_HasPrefix s ⟨#[60, 60]⟩ w
          have hp2 := Tryz.strings_HasPrefix s ⟨#[62, 62]⟩ w
          have hix := Tryz.strings_IndexByte ⟨#[123, 125, 91, 93, 44, 58]⟩ (s[0].toNat : Int) w
          rw [show ((s[0].toNat : Int).toNat.toUInt8) = byteAt s.data.toList 0 from by rw [byteAt_data s 0 h0]; simp] at hix
          unfold signT at h5
          simp only at hp1 hp2 hix
          generalize Lib.hasPrefix s.data.toList [60, 60] = c1 at hp1 h5
          generalize Lib.hasPrefix s.data.toList [62, 62] = c2 at hp2 h5
          generalize Lib.indexByte [123, 125, 91, 93, 44, 58] (byteAt s.data.toList 0) = d at hix h5
          have HP1 : Hid (Calls _ _ _ _ _) := hp1
          have HP2 : Hid (Calls _ _ _ _ _) := hp2
          have HIX : Hid (Calls _ _ _ _ _) := hix
          clear hp1 hp2 hix
          have H5 : Hid (_ = (r1, r2)) := h5
          clear h5
          cases c1 with
          | true =>
            have HF : Hid (r1 = 4 ∧ r2 = 2) := by have := H5.out; simp at this; exact ⟨this.1.symm, this.2.symm⟩
            clear H5
            go_enter Tryz.func118, Tryz.ntmps118
            go_wp2_with (first | (go_at_call 160; refine HL.out.mono ?_; rintro e w' ⟨rfl, hw⟩; cases hw) | (go_at_call 162; refine HD.out.mono ?_; rintro e w' ⟨rfl, hw⟩; cases hw) | (go_at_call 167; refine HP1.out.mono ?_; rintro e w' ⟨rfl, hw⟩; cases hw))
            go_ret2
            obtain ⟨e1, e2⟩ := HF.out
            subst e1 e2
            exact ⟨rfl, Grew.refl _⟩
          | false =>
            cases c2 with
            | true =>
              have HF : Hid (r1 = 4 ∧ r2 = 2) := by have := H5.out; simp at this; exact ⟨this.1.symm, this.2.symm⟩
              clear H5
              go_enter Tryz.func118, Tryz.ntmps118
              go_wp2_with (first | (go_at_call 160; refine HL.out.mono ?_; rintro e w' ⟨rfl, hw⟩; cases hw) | (go_at_call 162; refine HD.out.mono ?_; rintro e w' ⟨rfl, hw⟩; cases hw))
              refine HP1.out.mono ?_; rintro e w' ⟨rfl, hw⟩; cases hw
              go_wp2_with fail
              refine HP2.out.mono ?_; rintro e w' ⟨rfl, hw⟩; cases hw
              go_wp2_with fail
              go_ret2
              obtain ⟨e1, e2⟩ := HF.out
              subst e1 e2
              exact ⟨rfl, Grew.refl _⟩
            | false =>
              by_cases hd : 0 ≤ d
              · have HF : Hid (r1 = 4 ∧ r2 = 1) := by have := H5.out; simp [hd] at this; exact ⟨this.1.symm, this.2.symm⟩
                clear H5
                go_enter Tryz.func118, Tryz.ntmps118
                go_wp2_with (first | (go_at_call 160; refine HL.out.mono ?_; rintro e w' ⟨rfl, hw⟩; cases hw) | (go_at_call 162; refine HD.out.mono ?_; rintro e w' ⟨rfl, hw⟩; cases hw))
                refine HP1.out.mono ?_; rintro e w' ⟨rfl, hw⟩; cases hw
                go_wp2_with fail
                refine HP2.out.mono ?_; rintro e w' ⟨rfl, hw⟩; cases hw
                go_wp2_with (go_at_call 168; refine HIX.out.mono ?_; rintro e w' ⟨rfl, hw⟩; cases hw)
                go_ret2
                obtain ⟨e1, e2⟩ := HF.out
                subst e1 e2
                exact ⟨rfl, Grew.refl _⟩
              · have HF : Hid (r1 = 5 ∧ r2 = 1) := by have := H5.out; simp [hd] at this; exact ⟨this.1.symm, this.2.symm⟩
                clear H5
                go_enter Tryz.func118, Tryz.ntmps118
                go_wp2_with (first | (go_at_call 160; refine HL.out.mono ?_; rintro e w' ⟨rfl, hw⟩; cases hw) | (go_at_call 162; refine HD.out.mono ?_; rintro e w' ⟨rfl, hw⟩; cases hw))
                refine HP1.out.mono ?_; rintro e w' ⟨rfl, hw⟩; cases hw
                go_wp2_with fail
                refine HP2.out.mono ?_; rintro e w' ⟨rfl, hw⟩; cases hw
                go_wp2_with (go_at_call 168; refine HIX.out.mono ?_; rintro e w' ⟨rfl, hw⟩; cases hw)
                go_ret2
                obtain ⟨e1, e2⟩ := HF.out
                subst e1 e2
                exact ⟨rfl, Grew.refl _⟩

theorem token_any (s : ByteArray) (w : World) (hs : s.size ≤ 4294967296) : Calls Tryz.prog 118 #[.string s] w fun e w' => e = .returned (.tuple #[.int .i64 (tokT s.data.toList).1, .int .i64 (tokT s.data.toList).2]) ∧ Grew w w' := by
  have hl : s.data.toList.length = s.size := by simp
  by_cases h0 : s.size = 0
  · have : tokT s.data.toList = (0, 0) := by unfold tokT; rw [if_pos (by omega)]
    rw [this]
    exact (token_empty s w h0).mono fun e w' h => ⟨h.1, by rw [h.2]; exact Grew.refl _⟩
  · have hb := byteAt_data s 0 (by omega)
    unfold tokT
    rw [if_neg (by omega), hb]
    refine token_walk s w (by omega) (isLetter s[0]) (isDigit s[0]) _ _ (letter_any _ w) (digit_any _ w) ?_ ?_ ?_ ?_ ?_ ?_
    · intro h; rw [if_pos h]; exact run_any s w hs
    · intro h; rw [if_pos h]
    · intro h h'; rw [if_neg (by simp [h]), if_pos h', digits_num (by omega) (by rw [hb]; exact h')]; exact ⟨numB s.data.toList, rfl, number_any s w hs (by omega)⟩
    · intro h h' q; rw [if_neg (by simp [h]), if_neg (by simp [h']), if_pos (by omega)]; exact negative_any s w hs (by omega)
    · intro h h' q q'; rw [if_neg (by simp [h]), if_neg (by simp [h']), if_neg (by omega), if_pos (by omega)]
      refine ⟨decide ((qScan (s.data.toList.drop 1) 1).1 = 3), ?_, quote_any s w hs (by omega)⟩
      rcases qScan_cls (s.data.toList.drop 1) 1 with q | q <;> rw [q] <;> rfl
    · intro h h' q q'; rw [if_neg (by simp [h]), if_neg (by simp [h']), if_neg (by omega), if_neg (by omega)]
end Go.Proofs.YtjbekejcghjhbaaGreatDoor.Sx

namespace Go.Proofs.YtjbekejcghjhbaaGreatDoor.Sx
open Go.RowKit Go.Sort
theorem res_yes {l v : List UInt8} {b : Bool} (H : Hid (isReserved l = b)) (h : (l == v) = true) (hv : isReserved v = true) : b = true := by
  have := eq_of_beq h
  subst this
  rw [← H.out]; exact hv
theorem res_no {l : List UInt8} {b : Bool} (H : Hid (isReserved l = b)) (h : ∀ v ∈ reservedWords, (l == v) = false) : b = false := by
  rw [← H.out]
  unfold isReserved
  rw [List.contains_eq_any_beq, List.any_eq_false]
  intro v hv
  rw [h v hv]; simp
theorem bool_absurd {b : Bool} {p : Prop} (h : b = true) (h' : b = false) : p := by rw [h] at h'; simp at h'

theorem reserved_list : reservedWords = [[109, 111, 100, 117, 108, 101], [99, 111, 110, 115, 116, 97, 110, 116], [97, 116, 111, 109, 115], [115, 121, 109, 109, 101, 116, 114, 105, 99], [118, 97, 114, 105, 97, 98, 108, 101], [100, 101, 102, 105, 110, 101], [105, 110, 105, 116], [97, 99, 116, 105, 111, 110], [102, 97, 105, 114], [119, 101, 97, 107], [115, 116, 114, 111, 110, 103], [105, 110, 118, 97, 114, 105, 97, 110, 116], [112, 114, 111, 112, 101, 114, 116, 121], [97, 110, 100], [111, 114], [110, 111, 116], [105, 109, 112, 108, 105, 101, 115], [105, 102, 102], [105, 110], [117, 110, 105, 111, 110], [105, 110, 116, 101, 114], [109, 105, 110, 117, 115], [115, 117, 98, 115, 101, 116], [112, 111, 119, 101, 114, 115, 101, 116], [102, 108, 97, 116, 116, 101, 110], [100, 111, 109, 97, 105, 110], [117, 110, 99, 104, 97, 110, 103, 101, 100], [101, 110, 97, 98, 108, 101, 100], [97, 108, 119, 97, 121, 115], [101, 118, 101, 110, 116, 117, 97, 108, 108, 121], [117, 110, 116, 105, 108], [108, 101, 97, 100, 115, 116, 111], [99, 104, 111, 111, 115, 101], [97, 108, 108], [115, 111, 109, 101], [101, 97, 99, 104], [116, 104, 111, 115, 101], [102, 117, 110], [105, 102], [116, 104, 101, 110], [101, 108, 115, 101], [108, 101, 116], [110, 105, 108], [116, 114, 117, 101], [102, 97, 108, 115, 101], [115, 105, 122, 101], [108, 101, 110], [104, 101, 97, 100], [116, 97, 105, 108], [97, 112, 112, 101, 110, 100], [118, 97, 108, 117, 101, 115], [115, 101, 113, 115]] := by decide +kernel

set_option maxRecDepth 100000 in
set_option maxHeartbeats 4000000 in
theorem reserved_walk (s : ByteArray) (w : World) (b : Bool) (H : Hid (isReserved s.toList = b)) : Calls Tryz.prog 169 #[.string s] w fun e w' => e = .returned (.bool b) ∧ w' = w := by
  go_enter Tryz.func169, Tryz.ntmps169
  go_wp2_with fail
  all_goals first
    | (exact bool_absurd ‹(s.toList == _) = true› ‹(s.toList == _) = false›)
    | (
      have q := res_yes H ‹(s.toList == _) = true› (by decide +kernel)
      subst q
      go_ret
      exact ⟨rfl, rfl⟩)
    | (
      have q : b = false := by
        refine res_no H ?_
        rw [reserved_list]
        intro v hv
        simp only [List.mem_cons, List.not_mem_nil, or_false] at hv
        rcases hv with rfl | rfl | rfl | rfl | rfl | rfl | rfl | rfl | rfl | rfl | rfl | rfl | rfl | rfl | rfl | rfl | rfl | rfl | rfl | rfl | rfl | rfl | rfl | rfl | rfl | rfl | rfl | rfl | rfl | rfl | rfl | rfl | rfl | rfl | rfl | rfl | rfl | rfl | rfl | rfl | rfl | rfl | rfl | rfl | rfl | rfl | rfl | rfl | rfl | rfl | rfl | rfl <;> assumption
      subst q
      go_ret
      exact ⟨rfl, rfl⟩)
theorem reserved_any (s : ByteArray) (w : World) : Calls Tryz.prog 169 #[.string s] w fun e w' => e = .returned (.bool (isReserved s.data.toList)) ∧ w' = w := by
  refine reserved_walk s w _ ?_
  rw [ByteArray.toList_eq]; exact rfl
end Go.Proofs.YtjbekejcghjhbaaGreatDoor.Sx
