/- The law: its walk. -/
import Derived.Test.YtkbomifmijafgaaDoorT10
import Derived.Test.YtkbomifmijafgaaDoorT11
import Derived.Test.YtkbomifmijafgaaDoorT13
import Derived.Test.YtkbomifmijafgaaDoorT15
import Derived.Test.YtkbomifmijafgaaDoorT17
import Derived.Test.YtkbomifmijafgaaDoorT18
namespace Go.Proofs.YtkbomifmijafgaaDoor.Sx
open Go.RowKit Go.Sort Go.Maps Go.WideMaps

set_option maxRecDepth 100000 in
set_option maxHeartbeats 1000000 in
theorem law_no (w : World) (n i k : Int) (av : Value) (hn : n < 0 ∨ 24 < n) (hE : EtB w) :
    Calls Tryd.prog 3 #[.int .i64 n, .int .i64 i, .int .i64 k, av] w fun e w' => e = .returned (.bool true) ∧ Fr (fun _ => True) w w' := by
  have HN : Hid (Calls _ _ _ _ _) := New_no w n hn
  have HS : Hid (Calls _ _ _ _ _) := same_errno w hE
  have mo := follows
  clear hE
  have hb : (decide (n < 0) || decide (24 < n)) = true := by simpa using hn
  rcases hn with n1 | n1
  · go_enter Tryd.func3, Tryd.ntmps3
    go_wp2_with (first | (go_at_call 4; refine HN.out.mono ?_; rintro e w' ⟨rfl, hw⟩; replace hw := hw.symm; subst hw) | (go_at_call 5; refine HS.out.mono ?_; rintro e w1 ⟨rfl, hf⟩; have F1 : Hid (Fr (fun _ => True) w w1) := hf; clear hf))
    go_ret
    exact ⟨rfl, F1.out⟩
  · have n0 : ¬ n < 0 := by omega
    go_enter Tryd.func3, Tryd.ntmps3
    go_wp2_with (first | (go_at_call 4; refine HN.out.mono ?_; rintro e w' ⟨rfl, hw⟩; replace hw := hw.symm; subst hw) | (go_at_call 5; refine HS.out.mono ?_; rintro e w1 ⟨rfl, hf⟩; have F1 : Hid (Fr (fun _ => True) w w1) := hf; clear hf))
    go_ret
    exact ⟨rfl, F1.out⟩

def R0 (n : Nat) : List Rw := [⟨n, 0, 0, 0, true⟩, ⟨n, 0, 0, 0, true⟩]
def AtOK (W : World) (p : Option Addr) (m : Nat) (at' : List Bool) : Prop := at'.length = m ∧ ∀ j x, at'[j]? = some x → ∃ q : Addr, p = some q ∧ W.cell? (q.add j) = some (.bool x)

/-- what the calls of the law come to, one behind the other -/
structure Way (n : Nat) (i k : Int) (p : Option Addr) (m c : Nat) (at' : List Bool) (v u x cn sn : Nat) (eo : Bool) (R1 R2 R3 : List Rw) (M1 M2 M3 : List (Value × Value)) : Prop where
  h1 : ∀ (T : TL) (W : World), T.n = n → Tab T W (R0 n) [] [] [] → Calls Tryd.prog 6 #[.pointer (some ⟨T.b, 0, none⟩), .int .i64 i] W fun e w' => e = .returned (.int .i64 (v : Int)) ∧ Tab T w' R1 M1 [] [] ∧ Fr (· < T.lo) W w'
  h2 : ∀ (T : TL) (W : World), T.n = n → Tab T W R1 M1 [] [] → Calls Tryd.prog 6 #[.pointer (some ⟨T.b, 0, none⟩), .int .i64 k] W fun e w' => e = .returned (.int .i64 (u : Int)) ∧ Tab T w' R2 M2 [] [] ∧ Fr (· < T.lo) W w'
  h3 : ∀ (T : TL) (W : World), T.n = n → Tab T W R2 M2 [] [] → Calls Tryd.prog 7 #[.pointer (some ⟨T.b, 0, none⟩), .int .i64 (v : Int), .int .i64 (u : Int)] W fun e w' => e = .returned (.int .i64 (x : Int)) ∧ Tab T w' R3 M3 [] [] ∧ Fr (· < T.lo) W w'
  h4 : ∀ (T : TL) (W : World), T.n = n → Tab T W R3 M3 [] [] → AtOK W p m at' → Calls Tryd.prog 8 #[.pointer (some ⟨T.b, 0, none⟩), .int .i64 (v : Int), .slice p m c] W fun e w' => e = .returned (.bool eo) ∧ Fr (fun _ => True) W w'
  h5 : ∀ (T : TL) (W : World), T.n = n → Tab T W R3 M3 [] [] → Calls Tryd.prog 9 #[.pointer (some ⟨T.b, 0, none⟩), .int .i64 (x : Int)] W fun e w' => e = .returned (.int .i64 (cn : Int)) ∧ Fr (fun _ => True) W w'
  h6 : ∀ (T : TL) (W : World) (bf : Nat), T.n = n → Tab T W R3 M3 [] [] → W.heap[bf]? = some (.cells #[.int .i64 (x : Int)] 29 (0, 0)) → Calls Tryd.prog 12 #[.pointer (some ⟨T.b, 0, none⟩), .slice (some ⟨bf, 0, none⟩) 1 1] W fun e w' => e = .returned (.int .i64 (sn : Int)) ∧ Fr (fun _ => True) W w'

set_option maxRecDepth 100000 in
theorem false_any (w : World) (p : Value) : Calls Tryd.prog 10 #[p] w fun e w' => e = .returned (.int .i64 0) ∧ w' = w := by
  go_enter Tryd.func10, Tryd.ntmps10
  go_wp2_with fail
  go_ret
  exact ⟨rfl, rfl⟩
set_option maxRecDepth 100000 in
theorem true_any (w : World) (p : Value) : Calls Tryd.prog 11 #[p] w fun e w' => e = .returned (.int .i64 1) ∧ w' = w := by
  go_enter Tryd.func11, Tryd.ntmps11
  go_wp2_with fail
  go_ret
  exact ⟨rfl, rfl⟩

theorem AtOK.fr {w w' : World} {p : Option Addr} {m : Nat} {at' : List Bool} (h : AtOK w p m at') (f : Fr (fun _ => True) w w') : AtOK w' p m at' := ⟨h.1, fun j x hj => by
  obtain ⟨q, e, hc⟩ := h.2 j x hj
  exact ⟨q, e, (World.cell?_of_block (w := w) (f.block _ (World.block_lt_of_cell? w _ hc) trivial)).trans hc⟩⟩
theorem Tab.grewT {T : TL} {w w' : World} {R : List Rw} {M Fo : List (Value × Value)} {fr : List Nat} (h : Tab T w R M Fo fr) (f : Fr (fun _ => True) w w') : Tab T w' R M Fo fr := by
  obtain ⟨_, _, _, hG⟩ := h
  exact ⟨_, _, _, hG.grew f⟩

set_option maxRecDepth 100000 in
set_option maxHeartbeats 4000000 in
theorem law_neg (w : World) (n : Nat) (i : Int) (k : Int) (p : Option Addr) (m c : Nat) (at' : List Bool) (v u x cn sn : Nat) (eo : Bool) (R1 R2 R3 : List Rw) (M1 M2 M3 : List (Value × Value)) (hn : n ≤ 24) (hA : AtOK w p m at') (hW : Way n i k p m c at' v u x cn sn eo R1 R2 R3 M1 M2 M3) (i1 : ¬ 0 ≤ i) (he : eo = false) (hv : v = 0)
    (hk : (¬ 0 ≤ k ∨ (0 ≤ k ∧ ¬ k < n) ∨ (0 ≤ k ∧ k < n)) ∧ cn = 0 ∧ sn = 0) :
    Calls Tryd.prog 3 #[.int .i64 (n : Int), .int .i64 i, .int .i64 k, .slice p m c] w fun e w' => e = .returned (.bool true) ∧ Fr (fun _ => True) w w' := by
  have HN : Hid (Calls _ _ _ _ _) := New_ok w n hn
  have HW : Hid (Way n i k p m c at' v u x cn sn eo R1 R2 R3 M1 M2 M3) := hW
  have HA : Hid (AtOK w p m at') := hA
  have mo := follows
  have n1 : ¬ (n : Int) < 0 := by omega
  have n2 : ¬ (24 : Int) < (n : Int) := by omega
  subst he
  subst hv
  clear hW hA
  rcases hk with ⟨k1 | ⟨k1, k2⟩ | ⟨k1, k2⟩, rfl, rfl⟩
  all_goals
    go_enter Tryd.func3, Tryd.ntmps3
    go_wp2_with fail
    refine HN.out.mono ?_
    rintro e W1 ⟨T, hTn, hTl, rfl, hX1, hF1⟩
    have X1 : Hid (Tab T W1 (R0 n) [] [] []) := hX1
    have F1 : Hid (Fr (· < w.heap.size) w W1) := by rw [← hTl]; exact hF1
    clear HN hX1 hF1
    go_wp2_with fail
    refine (HW.out.h1 T W1 hTn X1.out).mono ?_
    rintro e W2 ⟨rfl, hX2, hF2⟩
    have X2 : Hid (Tab T W2 R1 M1 [] []) := hX2
    have F2 : Hid (Fr (· < w.heap.size) w W2) := F1.out.trans (by rw [← hTl]; exact hF2)
    clear hX2 hF2 X1 F1
    go_wp2_with fail
    refine (HW.out.h2 T W2 hTn X2.out).mono ?_
    rintro e W3 ⟨rfl, hX3, hF3⟩
    have X3 : Hid (Tab T W3 R2 M2 [] []) := hX3
    have F3 : Hid (Fr (· < w.heap.size) w W3) := F2.out.trans (by rw [← hTl]; exact hF3)
    clear hX3 hF3 X2 F2
    go_wp2_with fail
    refine (HW.out.h3 T W3 hTn X3.out).mono ?_
    rintro e W4 ⟨rfl, hX4, hF4⟩
    have X4 : Hid (Tab T W4 R3 M3 [] []) := hX4
    have F4 : Hid (Fr (fun _ => True) w W4) := by
      have q : Fr (· < w.heap.size) w W4 := F3.out.trans (by rw [← hTl]; exact hF4)
      exact ⟨q.os, q.tape, q.output, q.size, fun y hy _ => q.block y hy hy⟩
    clear hX4 hF4 X3 F3
    have A4 : AtOK W4 p m at' := HA.out.fr F4.out
    go_wp2_with fail
    refine (HW.out.h4 T W4 hTn X4.out A4).mono ?_
    rintro e W5 ⟨rfl, hF5⟩
    have X5 : Hid (Tab T W5 R3 M3 [] []) := X4.out.grewT hF5
    have F5 : Hid (Fr (fun _ => True) w W5) := F4.out.trans hF5
    clear hF5 X4 F4 A4

    go_wp2_with fail
    refine (HW.out.h5 T W5 hTn X5.out).mono ?_
    rintro e W6 ⟨rfl, hF6⟩
    have X6 : Hid (Tab T (W6.alloc (.cells #[.int .i64 (x : Int)] 29)) R3 M3 [] []) := X5.out.grewT (hF6.alloc _)
    have F6 : Hid (Fr (fun _ => True) w (W6.alloc (.cells #[.int .i64 (x : Int)] 29))) := (F5.out.trans hF6).alloc _
    have HF := false_any W6 (.pointer (some ⟨T.b, 0, none⟩))
    have HT := true_any W6 (.pointer (some ⟨T.b, 0, none⟩))
    clear hF6 X5 F5
    go_wp2_with (first | (go_at_call 10; refine HF.mono ?_; rintro e w' ⟨rfl, hw⟩; replace hw := hw.symm; subst hw) | (go_at_call 11; refine HT.mono ?_; rintro e w' ⟨rfl, hw⟩; replace hw := hw.symm; subst hw))
    refine (HW.out.h6 T _ W6.heap.size hTn X6.out (heap_new rfl)).mono ?_
    rintro e W7 ⟨rfl, hF7⟩
    have F7 : Hid (Fr (fun _ => True) w W7) := F6.out.trans hF7
    clear hF7 X6 F6
    go_wp2_with fail
    go_ret
    exact ⟨rfl, F7.out⟩

set_option maxRecDepth 100000 in
set_option maxHeartbeats 4000000 in
theorem law_big (w : World) (n : Nat) (i : Int) (k : Int) (p : Option Addr) (m c : Nat) (at' : List Bool) (v u x cn sn : Nat) (eo : Bool) (R1 R2 R3 : List Rw) (M1 M2 M3 : List (Value × Value)) (hn : n ≤ 24) (hA : AtOK w p m at') (hW : Way n i k p m c at' v u x cn sn eo R1 R2 R3 M1 M2 M3) (i1 : 0 ≤ i) (i2 : ¬ i < n) (he : eo = false) (hv : v = 0)
    (hk : (¬ 0 ≤ k ∨ (0 ≤ k ∧ ¬ k < n) ∨ (0 ≤ k ∧ k < n)) ∧ cn = 0 ∧ sn = 0) :
    Calls Tryd.prog 3 #[.int .i64 (n : Int), .int .i64 i, .int .i64 k, .slice p m c] w fun e w' => e = .returned (.bool true) ∧ Fr (fun _ => True) w w' := by
  have HN : Hid (Calls _ _ _ _ _) := New_ok w n hn
  have HW : Hid (Way n i k p m c at' v u x cn sn eo R1 R2 R3 M1 M2 M3) := hW
  have HA : Hid (AtOK w p m at') := hA
  have mo := follows
  have n1 : ¬ (n : Int) < 0 := by omega
  have n2 : ¬ (24 : Int) < (n : Int) := by omega
  subst he
  subst hv
  clear hW hA
  rcases hk with ⟨k1 | ⟨k1, k2⟩ | ⟨k1, k2⟩, rfl, rfl⟩
  all_goals
    go_enter Tryd.func3, Tryd.ntmps3
    go_wp2_with fail
    refine HN.out.mono ?_
    rintro e W1 ⟨T, hTn, hTl, rfl, hX1, hF1⟩
    have X1 : Hid (Tab T W1 (R0 n) [] [] []) := hX1
    have F1 : Hid (Fr (· < w.heap.size) w W1) := by rw [← hTl]; exact hF1
    clear HN hX1 hF1
    go_wp2_with fail
    refine (HW.out.h1 T W1 hTn X1.out).mono ?_
    rintro e W2 ⟨rfl, hX2, hF2⟩
    have X2 : Hid (Tab T W2 R1 M1 [] []) := hX2
    have F2 : Hid (Fr (· < w.heap.size) w W2) := F1.out.trans (by rw [← hTl]; exact hF2)
    clear hX2 hF2 X1 F1
    go_wp2_with fail
    refine (HW.out.h2 T W2 hTn X2.out).mono ?_
    rintro e W3 ⟨rfl, hX3, hF3⟩
    have X3 : Hid (Tab T W3 R2 M2 [] []) := hX3
    have F3 : Hid (Fr (· < w.heap.size) w W3) := F2.out.trans (by rw [← hTl]; exact hF3)
    clear hX3 hF3 X2 F2
    go_wp2_with fail
    refine (HW.out.h3 T W3 hTn X3.out).mono ?_
    rintro e W4 ⟨rfl, hX4, hF4⟩
    have X4 : Hid (Tab T W4 R3 M3 [] []) := hX4
    have F4 : Hid (Fr (fun _ => True) w W4) := by
      have q : Fr (· < w.heap.size) w W4 := F3.out.trans (by rw [← hTl]; exact hF4)
      exact ⟨q.os, q.tape, q.output, q.size, fun y hy _ => q.block y hy hy⟩
    clear hX4 hF4 X3 F3
    have A4 : AtOK W4 p m at' := HA.out.fr F4.out
    go_wp2_with fail
    refine (HW.out.h4 T W4 hTn X4.out A4).mono ?_
    rintro e W5 ⟨rfl, hF5⟩
    have X5 : Hid (Tab T W5 R3 M3 [] []) := X4.out.grewT hF5
    have F5 : Hid (Fr (fun _ => True) w W5) := F4.out.trans hF5
    clear hF5 X4 F4 A4

    go_wp2_with fail
    refine (HW.out.h5 T W5 hTn X5.out).mono ?_
    rintro e W6 ⟨rfl, hF6⟩
    have X6 : Hid (Tab T (W6.alloc (.cells #[.int .i64 (x : Int)] 29)) R3 M3 [] []) := X5.out.grewT (hF6.alloc _)
    have F6 : Hid (Fr (fun _ => True) w (W6.alloc (.cells #[.int .i64 (x : Int)] 29))) := (F5.out.trans hF6).alloc _
    have HF := false_any W6 (.pointer (some ⟨T.b, 0, none⟩))
    have HT := true_any W6 (.pointer (some ⟨T.b, 0, none⟩))
    clear hF6 X5 F5
    go_wp2_with (first | (go_at_call 10; refine HF.mono ?_; rintro e w' ⟨rfl, hw⟩; replace hw := hw.symm; subst hw) | (go_at_call 11; refine HT.mono ?_; rintro e w' ⟨rfl, hw⟩; replace hw := hw.symm; subst hw))
    refine (HW.out.h6 T _ W6.heap.size hTn X6.out (heap_new rfl)).mono ?_
    rintro e W7 ⟨rfl, hF7⟩
    have F7 : Hid (Fr (fun _ => True) w W7) := F6.out.trans hF7
    clear hF7 X6 F6
    go_wp2_with fail
    go_ret
    exact ⟨rfl, F7.out⟩

end Go.Proofs.YtkbomifmijafgaaDoor.Sx
