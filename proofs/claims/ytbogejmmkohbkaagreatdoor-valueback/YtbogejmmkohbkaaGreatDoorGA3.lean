/- Compare. -/
import Derived.Test.YtbogejmmkohbkaaGreatDoorGA2
import Derived.Test.YtbogejmmkohbkaaGreatDoorShelf
import Derived.Deep.RegionWith
namespace Go.Proofs.YtbogejmmkohbkaaGreatDoor.Sx
open Go.RowKit Go.Sort
attribute [local go_sem] asn_4 asp_4 as_4_4 as_2_4 as_101_4 as_102_4 as_103_4 as_107_4 asn_2 asp_2 as_4_2 as_2_2 as_101_2 as_102_2 as_103_2 as_107_2 asn_101 asp_101 as_4_101 as_2_101 as_101_101 as_102_101 as_103_101 as_107_101 asn_102 asp_102 as_4_102 as_2_102 as_101_102 as_102_102 as_103_102 as_107_102 asn_103 asp_103 as_4_103 as_2_103 as_101_103 as_102_103 as_103_103 as_107_103 asn_107 asp_107 as_4_107 as_2_107 as_101_107 as_102_107 as_103_107 as_107_107

theorem strCmp_any (a b : ByteArray) (w : World) : Calls Tryz.prog 78 #[.string a, .string b] w fun e w' => e = .returned (.int .i64 (Lib.compareBytes a.data.toList b.data.toList)) ∧ w' = w :=
  Tryz.strings_Compare a b w

set_option maxRecDepth 100000 in
set_option maxHeartbeats 1000000 in
theorem compareAlike_any (n : Nat) (hC : CmpOK n) (w : World) (a b : Node (AV n)) (va vb : Value) (ha : Rep w (n + 1) a va) (hb : Rep w (n + 1) b vb) (hk : a.kind = b.kind) :
    Calls Tryz.prog 39 #[va, vb] w fun e w' => e = .returned (.int .i64 (cmpN (cmpV n) a b)) ∧ Grew w w' := by
  have HC : Hid (CmpOK n) := hC
  clear hC
  rcases ha with ⟨rfl, rfl⟩ | ⟨b1, rfl, rfl⟩ | ⟨i1, rfl, rfl⟩ | ⟨s1, rfl, rfl⟩ | ⟨s1, rfl, rfl⟩ | ⟨es1, p1, rfl, rfl, h1⟩ | ⟨ks1, us1, p1, d1, rfl, rfl, h1⟩ <;>
  rcases hb with ⟨rfl, rfl⟩ | ⟨b2, rfl, rfl⟩ | ⟨i2, rfl, rfl⟩ | ⟨s2, rfl, rfl⟩ | ⟨s2, rfl, rfl⟩ | ⟨es2, p2, rfl, rfl, h2⟩ | ⟨ks2, us2, p2, d2, rfl, rfl, h2⟩ <;>
  first | (exfalso; simp [mkNil, mkBool, mkInt, mkText, mkAtom, mkSet, mkFn] at hk; done) | clear hk
  · go_enter Tryz.func39, Tryz.ntmps39
    go_wp2_with fail
    go_ret
    exact ⟨rfl, Grew.refl w⟩
  · rw [cmpN_bool]
    have h := cmpBool_any b1 b2 w
    generalize (if b1 = b2 then (0 : Int) else if b2 = true then -1 else 1) = d at h ⊢
    have H : Hid (Calls _ _ _ _ _) := h
    clear h
    go_enter Tryz.func39, Tryz.ntmps39
    go_wp2_with (go_at_call 76; refine H.out.mono ?_; rintro e w' ⟨rfl, rfl⟩)
    go_ret
    exact ⟨rfl, Grew.refl _⟩
  · rw [cmpN_int]
    have h := cmpInt64_any i1 i2 w
    generalize Lib.compareInt i1 i2 = d at h ⊢
    have H : Hid (Calls _ _ _ _ _) := h
    clear h
    go_enter Tryz.func39, Tryz.ntmps39
    go_wp2_with (go_at_call 77; refine H.out.mono ?_; rintro e w' ⟨rfl, rfl⟩)
    go_ret
    exact ⟨rfl, Grew.refl _⟩
  · rw [cmpN_text]
    have h := strCmp_any s1 s2 w
    generalize Lib.compareBytes s1.data.toList s2.data.toList = d at h ⊢
    have H : Hid (Calls _ _ _ _ _) := h
    clear h
    go_enter Tryz.func39, Tryz.ntmps39
    go_wp2_with (go_at_call 78; refine H.out.mono ?_; rintro e w' ⟨rfl, rfl⟩)
    go_ret
    exact ⟨rfl, Grew.refl _⟩
  · rw [cmpN_atom]
    have h := strCmp_any s1 s2 w
    generalize Lib.compareBytes s1.data.toList s2.data.toList = d at h ⊢
    have H : Hid (Calls _ _ _ _ _) := h
    clear h
    go_enter Tryz.func39, Tryz.ntmps39
    go_wp2_with (go_at_call 78; refine H.out.mono ?_; rintro e w' ⟨rfl, rfl⟩)
    go_ret
    exact ⟨rfl, Grew.refl _⟩
  · rw [cmpN_set]
    have h := compareSets_any n HC.out w p1 p2 es1 es2 h1 h2
    generalize cmpS (cmpV n) es1 es2 = d at h ⊢
    have H : Hid (Calls _ _ _ _ _) := h
    clear h h1 h2
    go_enter Tryz.func39, Tryz.ntmps39
    go_wp2_with (go_at_call 79; refine H.out.mono ?_; rintro e w' ⟨rfl, hg⟩; have HG : Hid (Grew w w') := hg; clear hg)
    go_ret
    exact ⟨rfl, by assumption⟩
  · rw [cmpN_fn]
    have h := compareFunctions_any n HC.out w p1 p2 d1 d2 ks1 us1 ks2 us2 h1 h2
    generalize then2 (cmpS (cmpV n) ks1 ks2) (cmpS (cmpV n) us1 us2) = d at h ⊢
    have H : Hid (Calls _ _ _ _ _) := h
    clear h h1 h2
    go_enter Tryz.func39, Tryz.ntmps39
    go_wp2_with (go_at_call 80; refine H.out.mono ?_; rintro e w' ⟨rfl, hg⟩; have HG : Hid (Grew w w') := hg; clear hg)
    go_ret
    exact ⟨rfl, by assumption⟩

theorem two_boxes (w : World) (va vb : Value) (t : TypeId) : ((w.alloc (.cells #[va] t)).alloc (.cells #[vb] t)).cell? ⟨w.heap.size, 0, none⟩ = some va ∧ ((w.alloc (.cells #[va] t)).alloc (.cells #[vb] t)).cell? ⟨w.heap.size + 1, 0, none⟩ = some vb ∧ ((w.alloc (.cells #[va] t)).alloc (.cells #[vb] t)).heap.size = w.heap.size + 2 := by
  simp

set_option maxRecDepth 100000 in
set_option maxHeartbeats 1000000 in
theorem compare_walk (w : World) (va vb : Value) (k1 k2 : Nat) (d r : Int) (st1 : va.oneCell' = true) (st2 : vb.oneCell' = true)
    (hr1 : ∀ W : World, Grew w W → Calls Tryz.prog 38 #[va] W fun e w' => e = .returned (.int .i64 k1) ∧ w' = W)
    (hr2 : ∀ W : World, Grew w W → Calls Tryz.prog 38 #[vb] W fun e w' => e = .returned (.int .i64 k2) ∧ w' = W)
    (hci : ∀ W : World, Calls Tryz.prog 37 #[.int .i64 k1, .int .i64 k2] W fun e w' => e = .returned (.int .i64 d) ∧ w' = W)
    (hca : d = 0 → ∀ W : World, Grew w W → Calls Tryz.prog 39 #[va, vb] W fun e w' => e = .returned (.int .i64 r) ∧ Grew W w') :
    Calls Tryz.prog 17 #[.agg #[va], .agg #[vb]] w fun e w' => e = .returned (.int .i64 (then2 d r)) ∧ Grew w w' := by
  have HR1 : Hid (∀ (W : World), Grew w W → _) := hr1
  have HR2 : Hid (∀ (W : World), Grew w W → _) := hr2
  have HCI : Hid (∀ W, _) := hci
  have HCA : Hid (d = 0 → _) := hca
  clear hr1 hr2 hci hca
  have st1 := store_one st1
  have st2 := store_one st2
  have mo := follows
  obtain ⟨m1, m2, m3⟩ := two_boxes w va vb 23
  have G0 : Hid (Grew w ((w.alloc (.cells #[va] 23)).alloc (.cells #[vb] 23))) := ((Grew.refl w).alloc _).alloc _
  have z1 : w.heap.size < ((w.alloc (.cells #[va] 23)).alloc (.cells #[vb] 23)).heap.size := by omega
  have z2 : w.heap.size + 1 < ((w.alloc (.cells #[va] 23)).alloc (.cells #[vb] 23)).heap.size := by omega
  by_cases h0 : d = 0
  · subst h0
    have HF : Hid (then2 0 r = r) := then2_zero r
    have HCA' := HCA.out rfl
    have HCA' : Hid (∀ (W : World), Grew w W → _) := HCA'
    clear HCA
    go_enter Tryz.func17, Tryz.ntmps17
    go_wp2_with fail
    generalize (w.alloc (.cells #[va] 23)).alloc (.cells #[vb] 23) = W0 at m1 m2 m3 G0 z1 z2 ⊢
    have g1 := cell_grown (w := W0) (a := ⟨w.heap.size, 0, none⟩) z1 m1
    have g2 := cell_grown (w := W0) (a := ⟨w.heap.size + 1, 0, none⟩) z2 m2
    clear m3
    go_quiet_grown (first
      | (go_at_call_of 38 (va); refine Calls.grown_of ((HR1.out _ (G0.out.grown _ _)).mono fun e W h => ⟨h.1, by rw [h.2]; exact Grew.refl _⟩))
      | (go_at_call_of 38 (vb); refine Calls.grown_of ((HR2.out _ (G0.out.grown _ _)).mono fun e W h => ⟨h.1, by rw [h.2]; exact Grew.refl _⟩))
      | (go_at_call 37; refine Calls.grown_of ((HCI.out _).mono fun e W h => ⟨h.1, by rw [h.2]; exact Grew.refl _⟩)))
    have G1 : Hid (Grew w (grow (W0.drewN nq) osq)) := G0.out.grown _ _
    have n1 := g1 nq osq
    have n2 := g2 nq osq
    clear g1 g2 m1 m2 z1 z2
    generalize grow (W0.drewN nq) osq = W1 at G1 n1 n2 ⊢
    clear nq osq
    go_wp2_with (go_at_call 39; refine (HCA'.out _ G1.out).mono ?_; rintro e w' ⟨rfl, hg⟩; have HG : Hid (Grew w w') := G1.out.trans hg; clear hg)
    go_ret
    exact ⟨by rw [HF.out]; rfl, by assumption⟩
  · have hd : (d == 0) = false := by simp [h0]
    have HF : Hid (then2 d r = d) := by show _ = _; simp [then2, h0]
    clear HCA
    go_enter Tryz.func17, Tryz.ntmps17
    go_wp2_with fail
    generalize (w.alloc (.cells #[va] 23)).alloc (.cells #[vb] 23) = W0 at m1 m2 m3 G0 z1 z2 ⊢
    have g1 := cell_grown (w := W0) (a := ⟨w.heap.size, 0, none⟩) z1 m1
    have g2 := cell_grown (w := W0) (a := ⟨w.heap.size + 1, 0, none⟩) z2 m2
    clear m3
    go_quiet_grown (first
      | (go_at_call_of 38 (va); refine Calls.grown_of ((HR1.out _ (G0.out.grown _ _)).mono fun e W h => ⟨h.1, by rw [h.2]; exact Grew.refl _⟩))
      | (go_at_call_of 38 (vb); refine Calls.grown_of ((HR2.out _ (G0.out.grown _ _)).mono fun e W h => ⟨h.1, by rw [h.2]; exact Grew.refl _⟩))
      | (go_at_call 37; refine Calls.grown_of ((HCI.out _).mono fun e W h => ⟨h.1, by rw [h.2]; exact Grew.refl _⟩)))
    have G1 : Hid (Grew w (grow (W0.drewN nq) osq)) := G0.out.grown _ _
    clear g1 g2 m1 m2 z1 z2
    generalize grow (W0.drewN nq) osq = W1 at G1 ⊢
    clear nq osq
    go_wp2_with fail
    go_ret
    exact ⟨by rw [HF.out]; rfl, G1.out⟩

theorem compare_step (n : Nat) (hC : CmpOK n) : CmpOK (n + 1) := by
  intro w a b va vb ha hb
  have key : cmpV (n + 1) a b = then2 (Lib.compareInt (kindOf (n + 1) a) (kindOf (n + 1) b)) (cmpN (cmpV n) a b) := by
    show cmpN (cmpV n) a b = _
    by_cases h : Lib.compareInt (kindOf (n + 1) a) (kindOf (n + 1) b) = 0
    · rw [h, then2_zero]
    · simp only [then2, if_neg h]; exact cmpN_kind h
  rw [key]
  refine compare_walk w va vb _ _ _ _ ha.one hb.one (fun W hW => rank_any (n + 1) a va W (ha.grew hW)) (fun W hW => rank_any (n + 1) b vb W (hb.grew hW)) (fun W => cmpInt_any _ _ W) ?_
  intro hd W hW
  have hk := (cint_eq _ _).1 hd
  exact compareAlike_any n hC W a b va vb (ha.grew hW) (hb.grew hW) (by simp only [kindOf] at hk; omega)

theorem compare_any : ∀ n, CmpOK n
  | 0 => fun _ a => Empty.elim a
  | n + 1 => compare_step n (compare_any n)

set_option maxRecDepth 100000 in
theorem same_any (n : Nat) (w : World) (a b : AV n) (va vb : Value) (ha : Rep w n a va) (hb : Rep w n b vb) :
    Calls Tryz.prog 194 #[.agg #[va], .agg #[vb]] w fun e w' => e = .returned (.bool (cmpV n a b == 0)) ∧ Grew w w' := by
  have hc := fun (W : World) (hW : Grew w W) => compare_any n W a b va vb (ha.grew hW) (hb.grew hW)
  have HC : Hid (∀ (W : World), Grew w W → _) := hc
  have st1 := store_one ha.one
  have st2 := store_one hb.one
  clear hc ha hb
  generalize cmpV n a b = d at HC ⊢
  go_enter Tryz.func194, Tryz.ntmps194
  go_wp2_with (go_at_call 17; refine (HC.out _ (((Grew.refl w).alloc _).alloc _)).mono ?_; rintro e w' ⟨rfl, hg⟩; have HG : Hid (Grew w w') := (((Grew.refl w).alloc _).alloc _).trans hg; clear hg)
  go_ret
  exact ⟨rfl, by assumption⟩
end Go.Proofs.YtbogejmmkohbkaaGreatDoor.Sx
