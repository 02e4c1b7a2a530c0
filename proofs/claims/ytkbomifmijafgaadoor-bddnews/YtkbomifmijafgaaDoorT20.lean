/- The law: its walk, where the first variable is one. -/
import Derived.Test.YtkbomifmijafgaaDoorT19
namespace Go.Proofs.YtkbomifmijafgaaDoor.Sx
open Go.RowKit Go.Sort Go.Maps Go.WideMaps

set_option maxRecDepth 100000 in
set_option maxHeartbeats 4000000 in
theorem law_in (w : World) (n : Nat) (i : Nat) (k : Int) (p : Option Addr) (m c : Nat) (at' : List Bool) (v u x cn sn : Nat) (eo : Bool) (R1 R2 R3 : List Rw) (M1 M2 M3 : List (Value × Value)) (hn : n ≤ 24) (hA : AtOK w p m at') (hW : Way n i k p m c at' v u x cn sn eo R1 R2 R3 M1 M2 M3) (i2 : i < n) (hv : 2 ≤ v) (i3 : i < m) (hq0 : at'[i]? = some eo) (pw q2 q4 : Nat) (hpw : IntKind.i64.wrap (2 ^ n) = (pw : Int)) (hq2 : (pw : Int).tdiv 2 = (q2 : Int)) (hq4 : (pw : Int).tdiv 4 = (q4 : Int)) (hw2 : wrap64 (q2 : Int) = (q2 : Int)) (hw4 : wrap64 (q4 : Int) = (q4 : Int))
    (hk : ((¬ 0 ≤ k ∨ (0 ≤ k ∧ ¬ k < n)) ∧ cn = 0 ∧ sn = 0) ∨ ((i : Int) = k ∧ 0 < q2 ∧ cn = q2 ∧ sn = 1) ∨ ((0 ≤ k ∧ k < n ∧ ((i : Int) == k) = false ∧ 0 < q4) ∧ cn = q4 ∧ sn = 2)) :
    Calls Tryd.prog 3 #[.int .i64 (n : Int), .int .i64 i, .int .i64 k, .slice p m c] w fun e w' => e = .returned (.bool true) ∧ Fr (fun _ => True) w w' := by
  have HN : Hid (Calls _ _ _ _ _) := New_ok w n hn
  have HW : Hid (Way n i k p m c at' v u x cn sn eo R1 R2 R3 M1 M2 M3) := hW
  have HA : Hid (AtOK w p m at') := hA
  have mo := follows
  have n1 : ¬ (n : Int) < 0 := by omega
  have n2 : ¬ (24 : Int) < (n : Int) := by omega
  have i1 : (0 : Int) ≤ (i : Int) := by omega
  have i2' : (i : Int) < (n : Int) := by omega
  have v1 : ((v : Int) == 0) = false := by simp; omega
  have i3' : (i : Int) < (m : Int) := by omega
  clear hW hA
  rcases hk with ⟨k1 | ⟨k1, k2⟩, rfl, rfl⟩ | ⟨rfl, kq, rfl, rfl⟩ | ⟨⟨k1, k2, k3, kq⟩, rfl, rfl⟩
  all_goals
    go_enter Tryd.func3, Tryd.ntmps3
    go_wp2_with fail
    refine HN.out.mono ?_
    rintro e W1 ⟨T, hTn, hTl, rfl, hX1, hF1⟩
    have X1 : Hid (Tab T W1 (R0 n) [] [] []) := hX1
    have F1 : Hid (Fr (· < w.heap.size) w W1) := by rw [← hTl]; exact hF1
    clear HN hX1 hF1
    go_wp2_with fail
    refine (HW.out.h1 T W1 hTn X1.out).mono ?_
    rintro e W2 ⟨rfl, hX2, hF2⟩
    have X2 : Hid (Tab T W2 R1 M1 [] []) := hX2
    have F2 : Hid (Fr (· < w.heap.size) w W2) := F1.out.trans (by rw [← hTl]; exact hF2)
    clear hX2 hF2 X1 F1
    go_wp2_with fail
    refine (HW.out.h2 T W2 hTn X2.out).mono ?_
    rintro e W3 ⟨rfl, hX3, hF3⟩
    have X3 : Hid (Tab T W3 R2 M2 [] []) := hX3
    have F3 : Hid (Fr (· < w.heap.size) w W3) := F2.out.trans (by rw [← hTl]; exact hF3)
    clear hX3 hF3 X2 F2
    go_wp2_with fail
    refine (HW.out.h3 T W3 hTn X3.out).mono ?_
    rintro e W4 ⟨rfl, hX4, hF4⟩
    have X4 : Hid (Tab T W4 R3 M3 [] []) := hX4
    have F4 : Hid (Fr (fun _ => True) w W4) := by
      have q : Fr (· < w.heap.size) w W4 := F3.out.trans (by rw [← hTl]; exact hF4)
      exact ⟨q.os, q.tape, q.output, q.size, fun y hy _ => q.block y hy hy⟩
    clear hX4 hF4 X3 F3
    have A4 : AtOK W4 p m at' := HA.out.fr F4.out
    go_wp2_with fail
    refine (HW.out.h4 T W4 hTn X4.out A4).mono ?_
    rintro e W5 ⟨rfl, hF5⟩
    have X5 : Hid (Tab T W5 R3 M3 [] []) := X4.out.grewT hF5
    have F5 : Hid (Fr (fun _ => True) w W5) := F4.out.trans hF5
    clear hF5 X4 F4 A4
    obtain ⟨q, hpq, hq⟩ := (HA.out.fr F5.out).2 i eo hq0
    subst hpq
    go_wp2_with fail
    refine (HW.out.h5 T W5 hTn X5.out).mono ?_
    rintro e W6 ⟨rfl, hF6⟩
    have X6 : Hid (Tab T (W6.alloc (.cells #[.int .i64 (x : Int)] 29)) R3 M3 [] []) := X5.out.grewT (hF6.alloc _)
    have F6 : Hid (Fr (fun _ => True) w (W6.alloc (.cells #[.int .i64 (x : Int)] 29))) := (F5.out.trans hF6).alloc _
    have HF := false_any W6 (.pointer (some ⟨T.b, 0, none⟩))
    have HT := true_any W6 (.pointer (some ⟨T.b, 0, none⟩))
    clear hF6 X5 F5
    go_wp2_with (first | (go_at_call 10; refine HF.mono ?_; rintro e w' ⟨rfl, hw⟩; replace hw := hw.symm; subst hw) | (go_at_call 11; refine HT.mono ?_; rintro e w' ⟨rfl, hw⟩; replace hw := hw.symm; subst hw))
    refine (HW.out.h6 T _ W6.heap.size hTn X6.out (heap_new rfl)).mono ?_
    rintro e W7 ⟨rfl, hF7⟩
    have F7 : Hid (Fr (fun _ => True) w W7) := F6.out.trans hF7
    clear hF7 X6 F6
    go_wp2_with fail
    go_ret
    exact ⟨rfl, F7.out⟩

set_option maxRecDepth 100000 in
set_option maxHeartbeats 4000000 in
theorem law_off (w : World) (n : Nat) (i : Nat) (k : Int) (p : Option Addr) (m c : Nat) (at' : List Bool) (v u x cn sn : Nat) (eo : Bool) (R1 R2 R3 : List Rw) (M1 M2 M3 : List (Value × Value)) (hn : n ≤ 24) (hA : AtOK w p m at') (hW : Way n i k p m c at' v u x cn sn eo R1 R2 R3 M1 M2 M3) (i2 : i < n) (hv : 2 ≤ v) (i3 : ¬ i < m) (he : eo = false) (pw q2 q4 : Nat) (hpw : IntKind.i64.wrap (2 ^ n) = (pw : Int)) (hq2 : (pw : Int).tdiv 2 = (q2 : Int)) (hq4 : (pw : Int).tdiv 4 = (q4 : Int)) (hw2 : wrap64 (q2 : Int) = (q2 : Int)) (hw4 : wrap64 (q4 : Int) = (q4 : Int))
    (hk : ((¬ 0 ≤ k ∨ (0 ≤ k ∧ ¬ k < n)) ∧ cn = 0 ∧ sn = 0) ∨ ((i : Int) = k ∧ 0 < q2 ∧ cn = q2 ∧ sn = 1) ∨ ((0 ≤ k ∧ k < n ∧ ((i : Int) == k) = false ∧ 0 < q4) ∧ cn = q4 ∧ sn = 2)) :
    Calls Tryd.prog 3 #[.int .i64 (n : Int), .int .i64 i, .int .i64 k, .slice p m c] w fun e w' => e = .returned (.bool true) ∧ Fr (fun _ => True) w w' := by
  have HN : Hid (Calls _ _ _ _ _) := New_ok w n hn
  have HW : Hid (Way n i k p m c at' v u x cn sn eo R1 R2 R3 M1 M2 M3) := hW
  have HA : Hid (AtOK w p m at') := hA
  have mo := follows
  have n1 : ¬ (n : Int) < 0 := by omega
  have n2 : ¬ (24 : Int) < (n : Int) := by omega
  have i1 : (0 : Int) ≤ (i : Int) := by omega
  have i2' : (i : Int) < (n : Int) := by omega
  have v1 : ((v : Int) == 0) = false := by simp; omega
  have i3' : ¬ (i : Int) < (m : Int) := by omega
  subst he
  clear hW hA
  rcases hk with ⟨k1 | ⟨k1, k2⟩, rfl, rfl⟩ | ⟨rfl, kq, rfl, rfl⟩ | ⟨⟨k1, k2, k3, kq⟩, rfl, rfl⟩
  all_goals
    go_enter Tryd.func3, Tryd.ntmps3
    go_wp2_with fail
    refine HN.out.mono ?_
    rintro e W1 ⟨T, hTn, hTl, rfl, hX1, hF1⟩
    have X1 : Hid (Tab T W1 (R0 n) [] [] []) := hX1
    have F1 : Hid (Fr (· < w.heap.size) w W1) := by rw [← hTl]; exact hF1
    clear HN hX1 hF1
    go_wp2_with fail
    refine (HW.out.h1 T W1 hTn X1.out).mono ?_
    rintro e W2 ⟨rfl, hX2, hF2⟩
    have X2 : Hid (Tab T W2 R1 M1 [] []) := hX2
    have F2 : Hid (Fr (· < w.heap.size) w W2) := F1.out.trans (by rw [← hTl]; exact hF2)
    clear hX2 hF2 X1 F1
    go_wp2_with fail
    refine (HW.out.h2 T W2 hTn X2.out).mono ?_
    rintro e W3 ⟨rfl, hX3, hF3⟩
    have X3 : Hid (Tab T W3 R2 M2 [] []) := hX3
    have F3 : Hid (Fr (· < w.heap.size) w W3) := F2.out.trans (by rw [← hTl]; exact hF3)
    clear hX3 hF3 X2 F2
    go_wp2_with fail
    refine (HW.out.h3 T W3 hTn X3.out).mono ?_
    rintro e W4 ⟨rfl, hX4, hF4⟩
    have X4 : Hid (Tab T W4 R3 M3 [] []) := hX4
    have F4 : Hid (Fr (fun _ => True) w W4) := by
      have q : Fr (· < w.heap.size) w W4 := F3.out.trans (by rw [← hTl]; exact hF4)
      exact ⟨q.os, q.tape, q.output, q.size, fun y hy _ => q.block y hy hy⟩
    clear hX4 hF4 X3 F3
    have A4 : AtOK W4 p m at' := HA.out.fr F4.out
    go_wp2_with fail
    refine (HW.out.h4 T W4 hTn X4.out A4).mono ?_
    rintro e W5 ⟨rfl, hF5⟩
    have X5 : Hid (Tab T W5 R3 M3 [] []) := X4.out.grewT hF5
    have F5 : Hid (Fr (fun _ => True) w W5) := F4.out.trans hF5
    clear hF5 X4 F4 A4

    go_wp2_with fail
    refine (HW.out.h5 T W5 hTn X5.out).mono ?_
    rintro e W6 ⟨rfl, hF6⟩
    have X6 : Hid (Tab T (W6.alloc (.cells #[.int .i64 (x : Int)] 29)) R3 M3 [] []) := X5.out.grewT (hF6.alloc _)
    have F6 : Hid (Fr (fun _ => True) w (W6.alloc (.cells #[.int .i64 (x : Int)] 29))) := (F5.out.trans hF6).alloc _
    have HF := false_any W6 (.pointer (some ⟨T.b, 0, none⟩))
    have HT := true_any W6 (.pointer (some ⟨T.b, 0, none⟩))
    clear hF6 X5 F5
    go_wp2_with (first | (go_at_call 10; refine HF.mono ?_; rintro e w' ⟨rfl, hw⟩; replace hw := hw.symm; subst hw) | (go_at_call 11; refine HT.mono ?_; rintro e w' ⟨rfl, hw⟩; replace hw := hw.symm; subst hw))
    refine (HW.out.h6 T _ W6.heap.size hTn X6.out (heap_new rfl)).mono ?_
    rintro e W7 ⟨rfl, hF7⟩
    have F7 : Hid (Fr (fun _ => True) w W7) := F6.out.trans hF7
    clear hF7 X6 F6
    go_wp2_with fail
    go_ret
    exact ⟨rfl, F7.out⟩

end Go.Proofs.YtkbomifmijafgaaDoor.Sx
