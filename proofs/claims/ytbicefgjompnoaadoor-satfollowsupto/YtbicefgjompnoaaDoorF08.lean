/- slices.Sort of literals: the pivot. -/
import Derived.Test.YtbicefgjompnoaaDoorF07
import Derived.Outline
import Derived.Deep.CutBlock
import Derived.Deep.DeepCutAuto
namespace Go.Proofs.YtbicefgjompnoaaDoor.Sx
open Go.RowKit Go.Sort

theorem order2_lt {d : Array Nat} {a b n L : Nat} (ha : a < L) (hb : b < L) : (order2 ltN d a b n).1 < L ∧ (order2 ltN d a b n).2.1 < L ∧ (order2 ltN d a b n).2.2 ≤ n + 1 := by
  unfold order2; split <;> exact ⟨by assumption, by assumption, by simp⟩
theorem order2_ge {d : Array Nat} {a b n L : Nat} (ha : L ≤ a) (hb : L ≤ b) : L ≤ (order2 ltN d a b n).1 ∧ L ≤ (order2 ltN d a b n).2.1 := by
  unfold order2; split <;> exact ⟨by assumption, by assumption⟩
theorem median_lt {d : Array Nat} {a b c n L : Nat} (ha : a < L) (hb : b < L) (hc : c < L) : (median ltN d a b c n).1 < L ∧ (median ltN d a b c n).2 ≤ n + 3 := by
  unfold median
  have h1 := order2_lt (d := d) (n := n) ha hb
  have h2 := order2_lt (d := d) (n := (order2 ltN d a b n).2.2) h1.2.1 hc
  have h3 := order2_lt (d := d) (n := (order2 ltN d (order2 ltN d a b n).2.1 c (order2 ltN d a b n).2.2).2.2) h1.1 h2.1
  exact ⟨h3.2.1, by have := h1.2.2; have := h2.2.2; have := h3.2.2; simp only; omega⟩

set_option maxRecDepth 100000 in
set_option maxHeartbeats 4000000 in
theorem median_any (w : World) (g len cap a b c q n : Nat) (d : Array Nat) (h : LRow w g d) (hq : Swaps w q n) (hgq : g ≠ q) (hd : len ≤ d.size) (ha : a < len) (hb : b < len) (hc : c < len) (hn : n ≤ 900) :
    Calls Tryd.prog 82 #[.slice (some ⟨g, 0, none⟩) len cap, .int .i64 a, .int .i64 b, .int .i64 c, .pointer (some ⟨q, 0, none⟩)] w (SwPost w q (.int .i64 ((median ltN d a b c n).1 : Int)) (median ltN d a b c n).2) := by
  have mo := follows
  have HL : Hid (LRow w g d) := h
  have HS : Hid (Swaps w q n) := hq
  obtain ⟨a1, b1, n1, e1⟩ : ∃ a1 b1 n1, order2 ltN d a b n = (a1, b1, n1) := ⟨_, _, _, rfl⟩
  have l1 := order2_lt (d := d) (n := n) ha hb
  have C1 := order2_any w g len cap a b q n d h hq hd hb ha (by omega)
  rw [e1] at l1 C1
  obtain ⟨b2, c2, n2, e2⟩ : ∃ b2 c2 n2, order2 ltN d b1 c n1 = (b2, c2, n2) := ⟨_, _, _, rfl⟩
  have l2 := order2_lt (d := d) (n := n1) l1.2.1 hc
  rw [e2] at l2
  obtain ⟨a3, b3, n3, e3⟩ : ∃ a3 b3 n3, order2 ltN d a1 b2 n2 = (a3, b3, n3) := ⟨_, _, _, rfl⟩
  have em : median ltN d a b c n = (b3, n3) := by unfold median; simp only [e1, e2, e3]
  rw [em]
  simp only at l1 l2 C1 ⊢
  have C2 : Hid (∀ w', LRow w' g d → Swaps w' q n1 → Calls Tryd.prog 84 #[.slice (some ⟨g, 0, none⟩) len cap, .int .i64 b1, .int .i64 c, .pointer (some ⟨q, 0, none⟩)] w' (SwPost w' q (.tuple #[.int .i64 (b2 : Int), .int .i64 (c2 : Int)]) n2)) := fun w' h1 h2 => by
    have := order2_any w' g len cap b1 c q n1 d h1 h2 hd hc l1.2.1 (by omega)
    rw [e2] at this
    exact this
  have C3 : Hid (∀ w', LRow w' g d → Swaps w' q n2 → Calls Tryd.prog 84 #[.slice (some ⟨g, 0, none⟩) len cap, .int .i64 a1, .int .i64 b2, .pointer (some ⟨q, 0, none⟩)] w' (SwPost w' q (.tuple #[.int .i64 (a3 : Int), .int .i64 (b3 : Int)]) n3)) := fun w' h1 h2 => by
    have := order2_any w' g len cap a1 b2 q n2 d h1 h2 hd l2.1 l1.1 (by omega)
    rw [e3] at this
    exact this
  have C1' : Hid (Calls Tryd.prog 84 #[.slice (some ⟨g, 0, none⟩) len cap, .int .i64 a, .int .i64 b, .pointer (some ⟨q, 0, none⟩)] w (SwPost w q (.tuple #[.int .i64 (a1 : Int), .int .i64 (b1 : Int)]) n1)) := C1
  clear e1 e2 e3 em l1 l2 C1 h hq
  go_enter Tryd.func82, Tryd.ntmps82
  go_wp2_with fail
  go_at_call 84
  refine C1'.out.mono ?_
  rintro e w1 ⟨rfl, S1, F1⟩
  have L1 : LRow w1 g d := HL.out.of F1 hgq
  have D2 := C2.out w1 L1 S1
  have F1' : Hid (Fr (· ≠ q) w w1) := F1
  clear C1' S1 F1
  go_wp2_with fail
  go_at_call 84
  refine D2.mono ?_
  rintro e w2 ⟨rfl, S2, F2⟩
  have L2 : LRow w2 g d := L1.of F2 hgq
  have D3 := C3.out w2 L2 S2
  have F2' : Hid (Fr (· ≠ q) w w2) := F1'.out.trans F2
  clear S2 F2 L1 F1' D2
  go_wp2_with fail
  go_at_call 84
  refine D3.mono ?_
  rintro e w3 ⟨rfl, S3, F3⟩
  have F3' : Hid (Fr (· ≠ q) w w3) := F2'.out.trans F3
  have S3' : Hid (Swaps w3 q n3) := S3
  clear D3 F3 F2' S3 L2
  go_wp2_with fail
  go_ret
  exact ⟨rfl, S3'.out, F3'.out⟩

set_option maxRecDepth 100000 in
set_option maxHeartbeats 4000000 in
theorem medianAdj_any (w : World) (g len cap a q n : Nat) (d : Array Nat) (h : LRow w g d) (hq : Swaps w q n) (hgq : g ≠ q) (hl : len ≤ 4294967296) (hd : len ≤ d.size) (ha : a + 1 < len) (ha0 : 0 < a) (hn : n ≤ 900) :
    Calls Tryd.prog 81 #[.slice (some ⟨g, 0, none⟩) len cap, .int .i64 a, .pointer (some ⟨q, 0, none⟩)] w (SwPost w q (.int .i64 ((medianAdjacent ltN d a n).1 : Int)) (medianAdjacent ltN d a n).2) := by
  have mo := follows
  have C1 := median_any w g len cap (a - 1) a (a + 1) q n d h hq hgq hd (by omega) (by omega) ha hn
  unfold medianAdjacent
  generalize median ltN d (a - 1) a (a + 1) n = r at C1 ⊢
  have e1 : ((a - 1 : Nat) : Int) = (a : Int) - 1 := by omega
  have e2 : ((a + 1 : Nat) : Int) = (a : Int) + 1 := by omega
  rw [e1, e2] at C1
  have C : Hid (Calls Tryd.prog 82 #[.slice (some ⟨g, 0, none⟩) len cap, .int .i64 ((a : Int) - 1), .int .i64 a, .int .i64 ((a : Int) + 1), .pointer (some ⟨q, 0, none⟩)] w (SwPost w q (.int .i64 (r.1 : Int)) r.2)) := C1
  clear C1 e1 e2 h hq
  go_enter Tryd.func81, Tryd.ntmps81
  go_wp2_with (go_at_call 82; refine C.out.mono ?_; rintro e w1 ⟨rfl, S1, F1⟩)
  have S1' : Hid (Swaps w1 q r.2) := S1
  have F1' : Hid (Fr (· ≠ q) w w1) := F1
  clear S1 F1 C
  go_wp2_with fail
  go_ret
  exact ⟨rfl, S1'.out, F1'.out⟩

end Go.Proofs.YtbicefgjompnoaaDoor.Sx
/- slices.Sort of literals: the pivot. -/
namespace Go.Proofs.YtbicefgjompnoaaDoor.Sx
open Go.RowKit Go.Sort

def hintN : Hint → Int
  | .unknown => 0
  | .increasing => 1
  | .decreasing => 2
/-- what a count of exchanges says -/
def hintOf (k : Nat) : Hint := if k = 0 then .increasing else if k = 12 then .decreasing else .unknown

set_option maxRecDepth 100000 in
set_option maxHeartbeats 4000000 in
theorem choosePivot_any (w : World) (g len cap a n : Nat) (d : Array Nat) (h : LRow w g d) (hl : len ≤ 4294967296) (hd : len ≤ d.size) (hb : a + n ≤ len) (hn : 12 < n) :
    Calls Tryd.prog 74 #[.slice (some ⟨g, 0, none⟩) len cap, .int .i64 a, .int .i64 ((a + n : Nat) : Int)] w fun e w' => e = .returned (.tuple #[.int .i64 ((choosePivot ltN d a (a + n)).1 : Int), .int .i64 (hintN (choosePivot ltN d a (a + n)).2)]) ∧ Fr (fun _ => True) w w' := by
  have mo := follows
  have HL : Hid (LRow w g d) := h
  have hi0 : (a : Int) + (n : Int) - (a : Int) = (n : Int) := by omega
  have hgs : g ≠ w.heap.size := by have := block_lt h; omega
  obtain ⟨R, hR⟩ : ∃ R, choosePivot ltN d a (a + n) = R := ⟨_, rfl⟩
  rw [hR]
  unfold choosePivot at hR
  rw [Nat.add_sub_cancel_left] at hR
  simp only [show n ≥ 8 from by omega, if_true] at hR
  obtain ⟨i, hi⟩ : ∃ i, a + n / 4 * 1 = i := ⟨_, rfl⟩
  obtain ⟨j, hj⟩ : ∃ j, a + n / 4 * 2 = j := ⟨_, rfl⟩
  obtain ⟨k, hk⟩ : ∃ k, a + n / 4 * 3 = k := ⟨_, rfl⟩
  rw [hi, hj, hk] at hR
  by_cases h50 : 50 ≤ n
  · have h50' : (50 : Int) ≤ (n : Int) := by omega
    rw [if_pos h50] at hR
    have HR : Hid _ := hR
    clear hR
    go_enter Tryd.func74, Tryd.ntmps74
    go_wp2_with fail
    have ei : (a : Int) + (n : Int) / 4 = (i : Int) := by omega
    have ej : (a : Int) + (n : Int) / 4 * 2 = (j : Int) := by omega
    have ek : (a : Int) + (n : Int) / 4 * 3 = (k : Int) := by omega
    rw [ei, ej, ek]
    have L0 : LRow (w.alloc (.cells #[.int .i64 0] 3)) g d := HL.out.of ((Fr.refl (fun _ => True) w).alloc _) trivial
    have S0 : Swaps (w.alloc (.cells #[.int .i64 0] 3)) w.heap.size 0 := heap_alloc_new w _
    have F0 : Fr (· ≠ w.heap.size) w (w.alloc (.cells #[.int .i64 0] 3)) := (Fr.refl _ w).alloc _
    generalize w.alloc (.cells #[.int .i64 0] 3) = W0 at L0 S0 F0 ⊢
    obtain ⟨q, hq⟩ : ∃ q, w.heap.size = q := ⟨_, rfl⟩
    have FT : Hid (∀ W, Fr (· ≠ q) w W → Fr (fun _ => True) w W) := fun W f => ⟨f.os, f.tape, f.output, f.size, fun t ht _ => f.block t ht (by show t ≠ q; omega)⟩
    rw [hq] at S0 F0 hgs ⊢
    clear hq hi0 ei ej ek HL h
    have F0 : Hid (Fr (· ≠ q) w W0) := F0
    obtain ⟨i1, n1, e1⟩ : ∃ i1 n1, medianAdjacent ltN d i 0 = (i1, n1) := ⟨_, _, rfl⟩
    have C1 := medianAdj_any W0 g len cap i q 0 d L0 S0 hgs hl hd (by omega) (by omega) (by omega)
    have l1 := median_lt (d := d) (n := 0) (L := len) (a := i - 1) (b := i) (c := i + 1) (by omega) (by omega) (by omega)
    have l1 : (medianAdjacent ltN d i 0).1 < len ∧ (medianAdjacent ltN d i 0).2 ≤ 0 + 3 := l1
    rw [e1] at C1 l1
    obtain ⟨u1, v1⟩ := l1
    simp only at u1 v1
    go_at_call 81
    refine C1.mono ?_
    rintro e W1 ⟨rfl, S1, G1⟩
    have L1 : LRow W1 g d := L0.of G1 hgs
    have F1 : Hid (Fr (· ≠ q) w W1) := F0.out.trans G1
    clear C1 G1 S0 F0
    obtain ⟨j1, n2, e2⟩ : ∃ j1 n2, medianAdjacent ltN d j n1 = (j1, n2) := ⟨_, _, rfl⟩
    have C2 := medianAdj_any W1 g len cap j q n1 d L1 S1 hgs hl hd (by omega) (by omega) (by omega)
    have l2 := median_lt (d := d) (n := n1) (L := len) (a := j - 1) (b := j) (c := j + 1) (by omega) (by omega) (by omega)
    have l2 : (medianAdjacent ltN d j n1).1 < len ∧ (medianAdjacent ltN d j n1).2 ≤ n1 + 3 := l2
    rw [e2] at C2 l2
    obtain ⟨u2, v2⟩ := l2
    simp only at u2 v2
    go_wp2_with fail
    go_at_call 81
    refine C2.mono ?_
    rintro e W2 ⟨rfl, S2, G2⟩
    have L2 : LRow W2 g d := L1.of G2 hgs
    have F2 : Hid (Fr (· ≠ q) w W2) := F1.out.trans G2
    clear C2 G2 S1 F1
    obtain ⟨k1, n3, e3⟩ : ∃ k1 n3, medianAdjacent ltN d k n2 = (k1, n3) := ⟨_, _, rfl⟩
    have C3 := medianAdj_any W2 g len cap k q n2 d L2 S2 hgs hl hd (by omega) (by omega) (by omega)
    have l3 := median_lt (d := d) (n := n2) (L := len) (a := k - 1) (b := k) (c := k + 1) (by omega) (by omega) (by omega)
    have l3 : (medianAdjacent ltN d k n2).1 < len ∧ (medianAdjacent ltN d k n2).2 ≤ n2 + 3 := l3
    rw [e3] at C3 l3
    obtain ⟨u3, v3⟩ := l3
    simp only at u3 v3
    go_wp2_with fail
    go_at_call 81
    refine C3.mono ?_
    rintro e W3 ⟨rfl, S3, G3⟩
    have L3 : LRow W3 g d := L2.of G3 hgs
    have F3 : Hid (Fr (· ≠ q) w W3) := F2.out.trans G3
    clear C3 G3 S2 F2
    have hR := HR.out
    simp only [e1, e2, e3] at hR
    clear e1 e2 e3 HR
    have C4 := median_any W3 g len cap i1 j1 k1 q n3 d L3 S3 hgs hd u1 u2 u3 (by omega)
    obtain ⟨p, m, hM⟩ : ∃ p m, median ltN d i1 j1 k1 n3 = (p, m) := ⟨_, _, rfl⟩
    rw [hM] at C4 hR
    have HR : Hid ((p, hintOf m) = R) := hR
    go_wp2_with fail
    go_at_call 82
    refine C4.mono ?_
    rintro e W4 ⟨rfl, S4, G4⟩
    have F4 : Hid (Fr (· ≠ q) w W4) := F3.out.trans G4
    clear C4 G4 S3 F3
    clear hi hj hk hR hM
    try simp only at S4
    have c4 := S4.cell
    have S4 : Hid (Swaps W4 q m) := S4
    clear L3
    by_cases m0 : m = 0
    · subst m0
      go_wp2_with fail
      exact bodyPost_ret (v := .tuple #[.int .i64 (p : Int), .int .i64 1]) (by simp [results, Tryd.results74, go_sem]) rfl ⟨by rw [← HR.out]; first | rfl | (unfold hintOf; rw [if_neg m0, if_neg m1]; rfl), FT.out _ F4.out⟩
    · by_cases m1 : m = 12
      · subst m1
        go_wp2_with fail
        exact bodyPost_ret (v := .tuple #[.int .i64 (p : Int), .int .i64 2]) (by simp [results, Tryd.results74, go_sem]) rfl ⟨by rw [← HR.out]; first | rfl | (unfold hintOf; rw [if_neg m0, if_neg m1]; rfl), FT.out _ F4.out⟩
      · have e0 : ((m : Int) == 0) = false := by rw [beq_eq_false_iff_ne]; omega
        have e1 : ((m : Int) == 12) = false := by rw [beq_eq_false_iff_ne]; omega
        go_wp2_with fail
        exact bodyPost_ret (v := .tuple #[.int .i64 (p : Int), .int .i64 0]) (by simp [results, Tryd.results74, go_sem]) rfl ⟨by rw [← HR.out]; first | rfl | (unfold hintOf; rw [if_neg m0, if_neg m1]; rfl), FT.out _ F4.out⟩
  · have h50' : ¬ (50 : Int) ≤ (n : Int) := by omega
    rw [if_neg h50] at hR
    have HR : Hid _ := hR
    clear hR
    go_enter Tryd.func74, Tryd.ntmps74
    go_wp2_with fail
    have ei : (a : Int) + (n : Int) / 4 = (i : Int) := by omega
    have ej : (a : Int) + (n : Int) / 4 * 2 = (j : Int) := by omega
    have ek : (a : Int) + (n : Int) / 4 * 3 = (k : Int) := by omega
    rw [ei, ej, ek]
    have L0 : LRow (w.alloc (.cells #[.int .i64 0] 3)) g d := HL.out.of ((Fr.refl (fun _ => True) w).alloc _) trivial
    have S0 : Swaps (w.alloc (.cells #[.int .i64 0] 3)) w.heap.size 0 := heap_alloc_new w _
    have F0 : Fr (· ≠ w.heap.size) w (w.alloc (.cells #[.int .i64 0] 3)) := (Fr.refl _ w).alloc _
    generalize w.alloc (.cells #[.int .i64 0] 3) = W0 at L0 S0 F0 ⊢
    obtain ⟨q, hq⟩ : ∃ q, w.heap.size = q := ⟨_, rfl⟩
    have FT : Hid (∀ W, Fr (· ≠ q) w W → Fr (fun _ => True) w W) := fun W f => ⟨f.os, f.tape, f.output, f.size, fun t ht _ => f.block t ht (by show t ≠ q; omega)⟩
    rw [hq] at S0 F0 hgs ⊢
    clear hq hi0 ei ej ek HL h
    have F0 : Hid (Fr (· ≠ q) w W0) := F0
    have L3 := L0
    have C4 := median_any W0 g len cap i j k q 0 d L0 S0 hgs hd (by omega) (by omega) (by omega) (by omega)
    obtain ⟨p, m, hM⟩ : ∃ p m, median ltN d i j k 0 = (p, m) := ⟨_, _, rfl⟩
    have hR := HR.out
    rw [hM] at C4 hR
    clear HR
    have HR : Hid ((p, hintOf m) = R) := hR
    go_at_call 82
    refine C4.mono ?_
    rintro e W4 ⟨rfl, S4, G4⟩
    have F4 : Hid (Fr (· ≠ q) w W4) := F0.out.trans G4
    clear C4 G4 S0 F0 L0
    clear hi hj hk hR hM
    try simp only at S4
    have c4 := S4.cell
    have S4 : Hid (Swaps W4 q m) := S4
    clear L3
    by_cases m0 : m = 0
    · subst m0
      go_wp2_with fail
      exact bodyPost_ret (v := .tuple #[.int .i64 (p : Int), .int .i64 1]) (by simp [results, Tryd.results74, go_sem]) rfl ⟨by rw [← HR.out]; first | rfl | (unfold hintOf; rw [if_neg m0, if_neg m1]; rfl), FT.out _ F4.out⟩
    · by_cases m1 : m = 12
      · subst m1
        go_wp2_with fail
        exact bodyPost_ret (v := .tuple #[.int .i64 (p : Int), .int .i64 2]) (by simp [results, Tryd.results74, go_sem]) rfl ⟨by rw [← HR.out]; first | rfl | (unfold hintOf; rw [if_neg m0, if_neg m1]; rfl), FT.out _ F4.out⟩
      · have e0 : ((m : Int) == 0) = false := by rw [beq_eq_false_iff_ne]; omega
        have e1 : ((m : Int) == 12) = false := by rw [beq_eq_false_iff_ne]; omega
        go_wp2_with fail
        exact bodyPost_ret (v := .tuple #[.int .i64 (p : Int), .int .i64 0]) (by simp [results, Tryd.results74, go_sem]) rfl ⟨by rw [← HR.out]; first | rfl | (unfold hintOf; rw [if_neg m0, if_neg m1]; rfl), FT.out _ F4.out⟩

end Go.Proofs.YtbicefgjompnoaaDoor.Sx
/- slices.Sort of literals: parted, those that are alike. -/
namespace Go.Proofs.YtbicefgjompnoaaDoor.Sx
open Go.RowKit Go.Sort

theorem scanUp_le {p : Nat → Bool} {d : Array Nat} {j : Nat} : ∀ (n i : Nat), j + 1 - i ≤ n → i ≤ scanUp p d j i ∧ scanUp p d j i ≤ max i (j + 1) := by
  intro n
  induction n with
  | zero =>
    intro i h
    unfold scanUp
    rw [if_neg (by simp; intro; omega)]
    omega
  | succ n ih =>
    intro i h
    unfold scanUp
    split
    · have := ih (i + 1) (by omega)
      rename_i hc
      simp at hc
      omega
    · omega
theorem scanDown_le {p : Nat → Bool} {d : Array Nat} {i : Nat} (hi : 0 < i) : ∀ (j : Nat), scanDown p d i j ≤ j ∧ (i ≤ j → i ≤ scanDown p d i j + 1) := by
  intro j
  induction j with
  | zero => exact ⟨by unfold scanDown; omega, fun h => by omega⟩
  | succ j ih =>
    unfold scanDown
    split
    · rename_i hc
      simp at hc
      refine ⟨by omega, fun _ => ?_⟩
      by_cases q : i ≤ j
      · exact ih.2 q
      · have : i = j + 1 := by omega
        have : scanDown p d i j = j := by
          cases j with
          | zero => unfold scanDown; rfl
          | succ m => unfold scanDown; rw [if_neg (by simp; intro; omega)]
        omega
    · exact ⟨by omega, fun h => by omega⟩
/-- a store behind a store of the same row -/
theorem LRow.again {w : World} {g : Nat} {d : Array Nat} (h : LRow w g d) {i j y : Nat} (hj : j < d.size) (hy : d[j]! = y) : (w.setCell ⟨g, i, none⟩ (.int .i32 (y : Int))).cell? ⟨g, j, none⟩ = some (.int .i32 (y : Int)) ∧ (w.setCell ⟨g, i, none⟩ (.int .i32 (y : Int))).drew.cell? ⟨g, j, none⟩ = some (.int .i32 (y : Int)) ∧ (w.setCell ⟨g, i, none⟩ (.int .i32 (y : Int))).frozen? ⟨g, j, none⟩ = false ∧ (w.setCell ⟨g, i, none⟩ (.int .i32 (y : Int))).drew.frozen? ⟨g, j, none⟩ = false := by
  have hy2 : (d.setIfInBounds i y)[j]! = y := by
    rw [getElem!_pos _ _ (by simpa using hj), Array.getElem_setIfInBounds hj]
    split
    · rfl
    · rw [← getElem!_pos d j hj]; exact hy
  have cs := (h.set i y).cell (i := j) (by simpa using hj)
  have ct := (h.set i y).drew.cell (i := j) (by simpa using hj)
  rw [hy2] at cs ct
  exact ⟨cs, ct, (h.set i y).free j, (h.set i y).drew.free j⟩

set_option maxRecDepth 100000 in
set_option maxHeartbeats 8000000 in
theorem partEqual_any (w : World) (g len cap a b pv : Nat) (d : Array Nat) (h : LRow w g d) (hl : len ≤ 4294967296) (hd : len ≤ d.size) (hb : b ≤ len) (ha : a ≤ pv) (hp : pv < b) :
    Calls Tryd.prog 78 #[.slice (some ⟨g, 0, none⟩) len cap, .int .i64 a, .int .i64 b, .int .i64 pv] w fun e w' => e = .returned (.int .i64 ((partitionEqual ltN d a b pv).1 : Int)) ∧ LRow w' g (partitionEqual ltN d a b pv).2 ∧ Fr (· ≠ g) w w' := by
  have mo := follows
  obtain ⟨R, hR⟩ : ∃ R, partitionEqual ltN d a b pv = R := ⟨_, rfl⟩
  rw [hR]
  have HR0 : Hid (partEqLoop ltN a (a + 1) (b - 1) (swp d a pv) = R) := hR
  have HL0 : Hid (LRow w g d) := h
  clear hR h
  have j1 : (a : Int) < (len : Int) := by omega
  have j2 : (pv : Int) < (len : Int) := by omega
  obtain ⟨x0, hx0⟩ : ∃ x0, d[a]! = x0 := ⟨_, rfl⟩
  have Hx0 : Hid (d[a]! = x0) := hx0
  obtain ⟨y0, hy0⟩ : ∃ y0, d[pv]! = y0 := ⟨_, rfl⟩
  have Hy0 : Hid (d[pv]! = y0) := hy0
  have cc0 := HL0.out.cell (i := a) (by omega)
  have cd0 := HL0.out.drew.cell (i := a) (by omega)
  have cz0 := HL0.out.free (a)
  have cy0 := HL0.out.drew.free (a)
  rw [Hx0.out] at cc0 cd0
  have cc1 := HL0.out.cell (i := pv) (by omega)
  have cd1 := HL0.out.drew.cell (i := pv) (by omega)
  have cz1 := HL0.out.free (pv)
  have cy1 := HL0.out.drew.free (pv)
  rw [Hy0.out] at cc1 cd1
  obtain ⟨k1, k2, k3, k4⟩ := HL0.out.again (i := a) (j := pv) (by omega) hy0
  clear hx0 hy0
  have HL1 : Hid (LRow (swL w g a pv x0 y0) g (swp d a pv)) := by rw [← Hx0.out, ← Hy0.out]; exact HL0.out.swap _ _
  have HF1 : Hid (Fr (· ≠ g) w (swL w g a pv x0 y0)) := (Fr.refl _ w).swapL _ _ _ _
  have hs0 : (swp d a pv).size = d.size := size_swp _ _ _
  clear HL0
  go_enter Tryd.func78, Tryd.ntmps78
  go_wp2_with fail
  go_big_region_o
  unfold swL at HL1 HF1
  clear cc0 cd0 cz0 cy0 cc1 cd1 cz1 cy1 k1 k2 k3 k4
  generalize ((w.setCell ⟨g, a, none⟩ (.int .i32 (y0 : Int))).setCell ⟨g, pv, none⟩ (.int .i32 (x0 : Int))).drew = W0 at HL1 HF1 ⊢
  generalize swp d a pv = d0 at HR0 HL1 hs0
  clear Hx0 Hy0
  go_wp2_with fail
  go_loopg [9, 10] (len + 1) (fun k s9 s10 wr => ∃ (i j : Nat) (e : Array Nat), s9 = .int .i64 (i : Int) ∧ s10 = .int .i64 (j : Int) ∧ a < i ∧ i ≤ b ∧ j < b ∧ j + 1 ≤ i + k ∧ i ≤ j + 2 ∧ e.size = d.size ∧ Hid (LRow wr g e) ∧ Hid (Fr (· ≠ g) w wr) ∧ Hid (partEqLoop ltN a i j e = R))
  case atStart => exact ⟨a + 1, b - 1, d0, by simp <;> omega, by simp <;> omega, by omega, by omega, by omega, by omega, by omega, hs0, HL1, HF1, HR0⟩
  case round =>
    clear HL1 HF1 HR0 hs0
    obtain ⟨i0, j0, e, rfl, rfl, hai, hib, hjb, hk, hij, he, HL, HF, HR⟩ := hrel
    obtain ⟨y, hy⟩ : ∃ y, e[a]! = y := ⟨_, rfl⟩
    have HY : Hid (e[a]! = y) := hy
    have hr := HR.out
    unfold partEqLoop at hr
    rw [hy] at hr
    obtain ⟨I, hI⟩ : ∃ I, scanUp (fun x => !ltN y x) e j0 i0 = I := ⟨_, rfl⟩
    have bI := scanUp_le (p := fun x => !ltN y x) (d := e) (j := j0) _ i0 (Nat.le_refl _)
    rw [hI] at hr bI
    try simp only at hr
    obtain ⟨J, hJ⟩ : ∃ J, scanDown (fun x => ltN y x) e I j0 = J := ⟨_, rfl⟩
    have bJ := scanDown_le (p := fun x => ltN y x) (d := e) (i := I) (by omega) j0
    rw [hJ] at hr bJ
    try simp only at hr
    have HU : Hid (scanUp (fun x => !ltN y x) e j0 i0 = I) := hI
    have HV : Hid (scanDown (fun x => ltN y x) e I j0 = J) := hJ
    have HR : Hid _ := hr
    clear hy hI hJ hr
    go_upto_block 2 with fail
    go_cut [9] (fun s wc => s = .int .i64 (I : Int) ∧ Hid (LRow wc g e) ∧ Hid (Fr (· ≠ g) w wc))
    case first =>
      go_wp2_with fail
      go_loopg [9] (len + 2) (fun k s wr => ∃ (i : Nat), s = .int .i64 (i : Int) ∧ i0 ≤ i ∧ i ≤ len + 1 ∧ len + 2 ≤ i + k ∧ Hid (LRow wr g e) ∧ Hid (Fr (· ≠ g) w wr) ∧ Hid (scanUp (fun x => !ltN y x) e j0 i = I))
      case atStart => exact ⟨i0, by simp <;> omega, by omega, by omega, by omega, HL, HF, HU⟩
      case round =>
        clear HL HF HU
        obtain ⟨i, rfl, hi1, hi2, hik, HL, HF, HU⟩ := hrel
        have hu := HU.out
        unfold scanUp at hu
        clear HU
        by_cases hij : i ≤ j0
        · obtain ⟨k, rfl⟩ : ∃ k, gk = k + 1 := ⟨gk - 1, by omega⟩
          have i1 : (i : Int) ≤ (j0 : Int) := by omega
          have i2 : (i : Int) < (len : Int) := by omega
          have i3 : (a : Int) < (len : Int) := by omega
          obtain ⟨x, hx⟩ : ∃ x, e[i]! = x := ⟨_, rfl⟩
          have Hx : Hid (e[i]! = x) := hx
          have c0 := HL.out.cell (i := i) (by omega)
          rw [hx] at c0
          have c1 := HL.out.cell (i := a) (by omega)
          rw [HY.out] at c1
          rw [hx] at hu
          clear hx Hx
          cases hlt : ltN y x with
          | false =>
            simp only [hij, hlt, decide_true, Bool.and_self, Bool.not_false, if_true] at hu
            have HU : Hid (scanUp (fun x => !ltN y x) e j0 (i + 1) = I) := hu
            have HC : Hid (∀ w, Calls Tryd.prog 77 #[.int .i32 (y : Int), .int .i32 (x : Int)] w fun e w' => e = .returned (.bool false) ∧ w' = w) := fun w => by rw [← hlt]; exact less_any w y x
            clear hu hlt
            go_wp2_with fail
            go_quiet ((go_at_call 77; exact Calls.quiet_of_same (HC.out _)))
            go_wp2_with fail
            go_roundg k
            case measure => omega
            case rel => exact ⟨i + 1, by simp <;> omega, by omega, by omega, by omega, HL.out.drewN _, HF.out.drewN _, HU⟩
          | true =>
            simp only [hlt, Bool.and_false, Bool.not_true, Bool.false_eq_true, if_false] at hu
            subst hu
            have HC : Hid (∀ w, Calls Tryd.prog 77 #[.int .i32 (y : Int), .int .i32 (x : Int)] w fun e w' => e = .returned (.bool true) ∧ w' = w) := fun w => by rw [← hlt]; exact less_any w y x
            clear hlt
            go_wp2_with fail
            go_quiet ((go_at_call 77; exact Calls.quiet_of_same (HC.out _)))
            go_wp2_with fail
            go_meet
            case rel => exact ⟨rfl, HL.out.drewN _, HF.out.drewN _⟩
        · have i1 : decide ((i : Int) ≤ (j0 : Int)) = false := decide_eq_false (by omega)
          simp only [hij, decide_false, Bool.false_and, Bool.false_eq_true, if_false] at hu
          subst hu
          go_wp2_with fail
          go_quiet (fail)
          go_wp2_with fail
          go_meet
          case rel => exact ⟨rfl, HL.out.drewN _, HF.out.drewN _⟩
    case rest =>
      clear HL HF
      obtain ⟨rfl, HL, HF⟩ := hcut
      have HU := HV
      clear HV
      go_upto_block 4 with fail
      go_cut [10] (fun s wc => s = .int .i64 (J : Int) ∧ Hid (LRow wc g e) ∧ Hid (Fr (· ≠ g) w wc))
      case first =>
        go_wp2_with fail
        go_loopg [10] (j0 + 1) (fun k s wr => ∃ (j : Nat), s = .int .i64 (j : Int) ∧ j ≤ j0 ∧ j + 1 ≤ k ∧ Hid (LRow wr g e) ∧ Hid (Fr (· ≠ g) w wr) ∧ Hid (scanDown (fun x => ltN y x) e I j = J))
        case atStart => exact ⟨j0, by simp <;> omega, by omega, by omega, HL, HF, HU⟩
        case round =>
          clear HL HF HU
          obtain ⟨j, rfl, hj1, hjk, HL, HF, HU⟩ := hrel
          have hu := HU.out
          clear HU
          by_cases hij : I ≤ j
          · obtain ⟨m, rfl⟩ : ∃ m, j = m + 1 := ⟨j - 1, by omega⟩
            unfold scanDown at hu
            obtain ⟨k, rfl⟩ : ∃ k, gk = k + 1 := ⟨gk - 1, by omega⟩
            have i1 : (I : Int) ≤ (m : Int) + 1 := by omega
            have i2 : (m : Int) + 1 < (len : Int) := by omega
            have i3 : (a : Int) < (len : Int) := by omega
            have i4 : (0 : Int) ≤ (m : Int) + 1 := by omega
            obtain ⟨x, hx⟩ : ∃ x, e[m + 1]! = x := ⟨_, rfl⟩
            have Hx : Hid (e[m + 1]! = x) := hx
            have c0 := HL.out.cell (i := m + 1) (by omega)
            rw [hx] at c0
            have c1 := HL.out.cell (i := a) (by omega)
            rw [HY.out] at c1
            rw [hx] at hu
            clear hx Hx
            cases hlt : ltN y x with
            | true =>
              simp only [hij, hlt, decide_true, Bool.and_self, if_true] at hu
              have HU : Hid (scanDown (fun x => ltN y x) e I m = J) := hu
              have HC : Hid (∀ w, Calls Tryd.prog 77 #[.int .i32 (y : Int), .int .i32 (x : Int)] w fun e w' => e = .returned (.bool true) ∧ w' = w) := fun w => by rw [← hlt]; exact less_any w y x
              clear hu hlt
              go_wp2_with fail
              go_quiet ((go_at_call 77; exact Calls.quiet_of_same (HC.out _)))
              go_wp2_with fail
              go_roundg k
              case measure => omega
              case rel => exact ⟨m, by simp <;> omega, by omega, by omega, HL.out.drewN _, HF.out.drewN _, HU⟩
            | false =>
              simp only [hlt, Bool.and_false, Bool.false_eq_true, if_false] at hu
              subst hu
              have HC : Hid (∀ w, Calls Tryd.prog 77 #[.int .i32 (y : Int), .int .i32 (x : Int)] w fun e w' => e = .returned (.bool false) ∧ w' = w) := fun w => by rw [← hlt]; exact less_any w y x
              clear hlt
              go_wp2_with fail
              go_quiet ((go_at_call 77; exact Calls.quiet_of_same (HC.out _)))
              go_wp2_with fail
              go_meet
              case rel => exact ⟨by simp, HL.out.drewN _, HF.out.drewN _⟩
          · have i1 : decide ((I : Int) ≤ (j : Int)) = false := decide_eq_false (by omega)
            have hq : j = J := by
              cases j with
              | zero => exact hu
              | succ m =>
                unfold scanDown at hu
                simpa [hij] using hu
            subst hq
            clear hu
            go_wp2_with fail
            go_quiet (fail)
            go_wp2_with fail
            go_meet
            case rel => exact ⟨rfl, HL.out.drewN _, HF.out.drewN _⟩
      case rest =>
        clear HL HF
        obtain ⟨rfl, HL, HF⟩ := hcut
        clear HU
        have hr := HR.out
        clear HR
        by_cases hc : J < I
        · rw [if_pos hc] at hr
          subst hr
          have i1 : (J : Int) < (I : Int) := by omega
          go_wp2_with fail
          go_ret
          exact ⟨rfl, HL.out, HF.out⟩
        · rw [if_neg hc, dif_pos (by omega)] at hr
          obtain ⟨k, rfl⟩ : ∃ k, gk = k + 1 := ⟨gk - 1, by omega⟩
          have HR : Hid (partEqLoop ltN a (I + 1) (J - 1) (swp e I J) = R) := hr
          clear hr
          have i1 : ¬ (J : Int) < (I : Int) := by omega
          have i2 : (I : Int) < (len : Int) := by omega
          have i3 : (J : Int) < (len : Int) := by omega
          obtain ⟨x1, hx1⟩ : ∃ x1, e[I]! = x1 := ⟨_, rfl⟩
          have Hx1 : Hid (e[I]! = x1) := hx1
          obtain ⟨y1, hy1⟩ : ∃ y1, e[J]! = y1 := ⟨_, rfl⟩
          have Hy1 : Hid (e[J]! = y1) := hy1
          have cc0 := HL.out.cell (i := I) (by omega)
          have cd0 := HL.out.drew.cell (i := I) (by omega)
          have cz0 := HL.out.free (I)
          have cy0 := HL.out.drew.free (I)
          rw [Hx1.out] at cc0 cd0
          have cc1 := HL.out.cell (i := J) (by omega)
          have cd1 := HL.out.drew.cell (i := J) (by omega)
          have cz1 := HL.out.free (J)
          have cy1 := HL.out.drew.free (J)
          rw [Hy1.out] at cc1 cd1
          obtain ⟨k1, k2, k3, k4⟩ := HL.out.again (i := I) (j := J) (by omega) hy1
          clear hx1 hy1
          have HL1 : Hid (LRow (swL wc g I J x1 y1) g (swp e I J)) := by rw [← Hx1.out, ← Hy1.out]; exact HL.out.swap _ _
          have HF1 : Hid (Fr (· ≠ g) w (swL wc g I J x1 y1)) := HF.out.swapL _ _ _ _
          clear HL HF
          go_wp2_with fail
          go_big_region_o
          go_wp2_with fail
          go_roundg k
          case measure => omega
          case rel => exact ⟨I + 1, J - 1, _, by simp <;> omega, by simp <;> omega, by omega, by omega, by omega, by omega, by omega, by rw [size_swp]; exact he, HL1, HF1, HR⟩

end Go.Proofs.YtbicefgjompnoaaDoor.Sx
