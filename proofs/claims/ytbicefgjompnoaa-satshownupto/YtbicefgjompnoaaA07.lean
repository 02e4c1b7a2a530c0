/- slices.Sort of literals: turned round; pivots. -/
import Derived.Outline
import Derived.Test.YtbicefgjompnoaaA06
namespace Go.Proofs.Ytbicefgjompnoaa.Sx
open Go.RowKit Go.Sort

set_option maxRecDepth 100000 in
set_option maxHeartbeats 4000000 in
theorem revRange_any (w : World) (g len cap a b : Nat) (d : Array Nat) (h : LRow w g d) (hl : len ≤ 4294967296) (hd : len ≤ d.size) (hb : b ≤ len) (hab : a < b) :
    Calls Try.prog 69 #[.slice (some ⟨g, 0, none⟩) len cap, .int .i64 a, .int .i64 b] w (RowPost w g (reverseRange d a b)) := by
  have H0 : Hid (LRow w g d) := h
  clear h
  have mo := follows
  obtain ⟨R, hR⟩ : ∃ R, reverseRange d a b = R := ⟨_, rfl⟩
  rw [hR]
  have HR0 : Hid (reverseLoop a (b - 1) d = R) := hR
  clear hR
  go_enter Try.func69, Try.ntmps69
  go_wp2_with fail
  go_loopg [6, 7] (b) (fun k s6 s7 wr => ∃ (i j : Nat) (f : Array Nat), s6 = .int .i64 (i : Int) ∧ s7 = .int .i64 (j : Int) ∧ j ≤ i + k ∧ i ≤ len ∧ j < len ∧ f.size = d.size ∧ Hid (LRow wr g f) ∧ Hid (Fr (· ≠ g) w wr) ∧ Hid (reverseLoop i j f = R))
  case atStart => exact ⟨a, b - 1, d, rfl, by simp <;> omega, by omega, by omega, by omega, rfl, H0, Fr.refl _ _, HR0⟩
  case round =>
    clear HR0 H0
    obtain ⟨i, j, f, rfl, rfl, hk, hil, hjl, hf, HL, HF, HU⟩ := hrel
    have hu := HU.out
    unfold reverseLoop at hu
    clear HU
    by_cases hij : i < j
    · rw [if_pos hij] at hu
      have HQ : Hid (reverseLoop (i + 1) (j - 1) (swp f i j) = R) := hu
      clear hu
      obtain ⟨k, rfl⟩ : ∃ k, gk = k + 1 := ⟨gk - 1, by omega⟩
      have i1 : (i : Int) < (j : Int) := by omega
      have i2 : (j : Int) < (len : Int) := by omega
      have i3 : (i : Int) < (len : Int) := by omega
      obtain ⟨x, hx⟩ : ∃ x, f[i]! = x := ⟨_, rfl⟩
      have Hx : Hid (f[i]! = x) := hx
      obtain ⟨y, hy⟩ : ∃ y, f[j]! = y := ⟨_, rfl⟩
      have Hy : Hid (f[j]! = y) := hy
      clear hx hy
      have cc0 := HL.out.cell (i := i) (by omega)
      have cd0 := HL.out.drew.cell (i := i) (by omega)
      have cz0 := HL.out.free (i)
      have cy0 := HL.out.drew.free (i)
      rw [Hx.out] at cc0 cd0
      have cc1 := HL.out.cell (i := j) (by omega)
      have cd1 := HL.out.drew.cell (i := j) (by omega)
      have cz1 := HL.out.free (j)
      have cy1 := HL.out.drew.free (j)
      rw [Hy.out] at cc1 cd1
      have HL2 : Hid (LRow (swL wr g i j x y) g (swp f i j)) := by rw [← Hx.out, ← Hy.out]; exact HL.out.swap _ _
      have HF2 : Hid (Fr (· ≠ g) w (swL wr g i j x y)) := HF.out.swapL _ _ _ _
      have hne : i ≠ j := by omega
      clear HL HF
      go_wp2_with fail
      go_big_region_o
      go_wp2_with fail
      go_roundg k
      case measure => omega
      case rel => exact ⟨i + 1, j - 1, _, by simp <;> omega, by simp <;> omega, by omega, by omega, by omega, by rw [size_swp]; exact hf, HL2, HF2, HQ⟩
    · rw [if_neg hij] at hu
      subst hu
      have i1 : ¬ (i : Int) < (j : Int) := by omega
      go_wp2_with fail
      go_end0
      exact ⟨rfl, HL.out, HF.out⟩

/-- the counter of exchanges, in a block of its own -/
def Swaps (w : World) (q n : Nat) : Prop := w.heap[q]? = some (.cells #[.int .i64 (n : Int)] 3 (0, 0))
theorem Swaps.set {w : World} {q n : Nat} (h : Swaps w q n) (m : Nat) : Swaps (w.setCell ⟨q, 0, none⟩ (.int .i64 (m : Int))) q m := by
  have := set_block h 0 (.int .i64 (m : Int))
  unfold Swaps
  rw [this]
  rfl
theorem Swaps.cell {w : World} {q n : Nat} (h : Swaps w q n) : w.cell? ⟨q, 0, none⟩ = some (.int .i64 (n : Int)) := by rw [block_cell h]; rfl
/-- a call that counts exchanges alone -/
def SwPost (w : World) (q : Nat) (v : Value) (n : Nat) (e : Ending) (w' : World) : Prop := e = .returned v ∧ Swaps w' q n ∧ Fr (· ≠ q) w w'

set_option maxRecDepth 100000 in
set_option maxHeartbeats 4000000 in
theorem order2_any (w : World) (g len cap a b q n : Nat) (d : Array Nat) (h : LRow w g d) (hq : Swaps w q n) (hd : len ≤ d.size) (hb : b < len) (ha : a < len) (hn : n ≤ 1000) :
    Calls Try.prog 87 #[.slice (some ⟨g, 0, none⟩) len cap, .int .i64 a, .int .i64 b, .pointer (some ⟨q, 0, none⟩)] w (SwPost w q (.tuple #[.int .i64 ((order2 ltN d a b n).1 : Int), .int .i64 ((order2 ltN d a b n).2.1 : Int)]) (order2 ltN d a b n).2.2) := by
  have mo := follows
  have HL : Hid (LRow w g d) := h
  have HS : Hid (Swaps w q n) := hq
  have q0 := hq.cell
  have q1 := frozen_block hq 0
  have i2 : (b : Int) < (len : Int) := by omega
  have i3 : (a : Int) < (len : Int) := by omega
  obtain ⟨x, hx⟩ : ∃ x, d[b]! = x := ⟨_, rfl⟩
  have Hx : Hid (d[b]! = x) := hx
  obtain ⟨y, hy⟩ : ∃ y, d[a]! = y := ⟨_, rfl⟩
  have Hy : Hid (d[a]! = y) := hy
  unfold order2
  rw [hx, hy]
  clear hx hy h hq
  have cc0 := HL.out.cell (i := b) (by omega)
  have cd0 := HL.out.drew.cell (i := b) (by omega)
  have cz0 := HL.out.free (b)
  have cy0 := HL.out.drew.free (b)
  rw [Hx.out] at cc0 cd0
  have cc1 := HL.out.cell (i := a) (by omega)
  have cd1 := HL.out.drew.cell (i := a) (by omega)
  have cz1 := HL.out.free (a)
  have cy1 := HL.out.drew.free (a)
  rw [Hy.out] at cc1 cd1
  cases hlt : ltN x y with
  | true =>
    have HC : Hid (∀ w, Calls Try.prog 71 #[.int .i32 (x : Int), .int .i32 (y : Int)] w fun e w' => e = .returned (.bool true) ∧ w' = w) := fun w => by rw [← hlt]; exact less_any w x y
    clear hlt
    go_enter Try.func87, Try.ntmps87
    go_wp2_with fail
    go_quiet ((go_at_call 71; exact Calls.quiet_of_same (HC.out _)))
    go_wp2_with fail
    exact bodyPost_ret (v := .tuple #[.int .i64 (b : Int), .int .i64 (a : Int)]) (by simp [results, Try.results87, go_sem]) rfl ⟨rfl, by first | exact (HS.out : Swaps _ q n).set (n + 1) | exact HS.out.set (n + 1), by first | exact ((Fr.refl _ w).drewN _).set (by simp) _ | exact (Fr.refl _ w).set (by simp) _⟩
  | false =>
    have HC : Hid (∀ w, Calls Try.prog 71 #[.int .i32 (x : Int), .int .i32 (y : Int)] w fun e w' => e = .returned (.bool false) ∧ w' = w) := fun w => by rw [← hlt]; exact less_any w x y
    clear hlt
    go_enter Try.func87, Try.ntmps87
    go_wp2_with fail
    go_quiet ((go_at_call 71; exact Calls.quiet_of_same (HC.out _)))
    go_wp2_with fail
    exact bodyPost_ret (v := .tuple #[.int .i64 (a : Int), .int .i64 (b : Int)]) (by simp [results, Try.results87, go_sem]) rfl ⟨rfl, HS.out, (Fr.refl _ w).drewN _⟩

end Go.Proofs.Ytbicefgjompnoaa.Sx
/- slices.Sort of literals: the pivot. -/
namespace Go.Proofs.Ytbicefgjompnoaa.Sx
open Go.RowKit Go.Sort

theorem order2_lt {d : Array Nat} {a b n L : Nat} (ha : a < L) (hb : b < L) : (order2 ltN d a b n).1 < L ∧ (order2 ltN d a b n).2.1 < L ∧ (order2 ltN d a b n).2.2 ≤ n + 1 := by
  unfold order2; split <;> exact ⟨by assumption, by assumption, by simp⟩
theorem order2_ge {d : Array Nat} {a b n L : Nat} (ha : L ≤ a) (hb : L ≤ b) : L ≤ (order2 ltN d a b n).1 ∧ L ≤ (order2 ltN d a b n).2.1 := by
  unfold order2; split <;> exact ⟨by assumption, by assumption⟩
theorem median_lt {d : Array Nat} {a b c n L : Nat} (ha : a < L) (hb : b < L) (hc : c < L) : (median ltN d a b c n).1 < L ∧ (median ltN d a b c n).2 ≤ n + 3 := by
  unfold median
  have h1 := order2_lt (d := d) (n := n) ha hb
  have h2 := order2_lt (d := d) (n := (order2 ltN d a b n).2.2) h1.2.1 hc
  have h3 := order2_lt (d := d) (n := (order2 ltN d (order2 ltN d a b n).2.1 c (order2 ltN d a b n).2.2).2.2) h1.1 h2.1
  exact ⟨h3.2.1, by have := h1.2.2; have := h2.2.2; have := h3.2.2; simp only; omega⟩

set_option maxRecDepth 100000 in
set_option maxHeartbeats 4000000 in
theorem median_any (w : World) (g len cap a b c q n : Nat) (d : Array Nat) (h : LRow w g d) (hq : Swaps w q n) (hgq : g ≠ q) (hd : len ≤ d.size) (ha : a < len) (hb : b < len) (hc : c < len) (hn : n ≤ 900) :
    Calls Try.prog 84 #[.slice (some ⟨g, 0, none⟩) len cap, .int .i64 a, .int .i64 b, .int .i64 c, .pointer (some ⟨q, 0, none⟩)] w (SwPost w q (.int .i64 ((median ltN d a b c n).1 : Int)) (median ltN d a b c n).2) := by
  have mo := follows
  have HL : Hid (LRow w g d) := h
  have HS : Hid (Swaps w q n) := hq
  obtain ⟨a1, b1, n1, e1⟩ : ∃ a1 b1 n1, order2 ltN d a b n = (a1, b1, n1) := ⟨_, _, _, rfl⟩
  have l1 := order2_lt (d := d) (n := n) ha hb
  have C1 := order2_any w g len cap a b q n d h hq hd hb ha (by omega)
  rw [e1] at l1 C1
  obtain ⟨b2, c2, n2, e2⟩ : ∃ b2 c2 n2, order2 ltN d b1 c n1 = (b2, c2, n2) := ⟨_, _, _, rfl⟩
  have l2 := order2_lt (d := d) (n := n1) l1.2.1 hc
  rw [e2] at l2
  obtain ⟨a3, b3, n3, e3⟩ : ∃ a3 b3 n3, order2 ltN d a1 b2 n2 = (a3, b3, n3) := ⟨_, _, _, rfl⟩
  have em : median ltN d a b c n = (b3, n3) := by unfold median; simp only [e1, e2, e3]
  rw [em]
  simp only at l1 l2 C1 ⊢
  have C2 : Hid (∀ w', LRow w' g d → Swaps w' q n1 → Calls Try.prog 87 #[.slice (some ⟨g, 0, none⟩) len cap, .int .i64 b1, .int .i64 c, .pointer (some ⟨q, 0, none⟩)] w' (SwPost w' q (.tuple #[.int .i64 (b2 : Int), .int .i64 (c2 : Int)]) n2)) := fun w' h1 h2 => by
    have := order2_any w' g len cap b1 c q n1 d h1 h2 hd hc l1.2.1 (by omega)
    rw [e2] at this
    exact this
  have C3 : Hid (∀ w', LRow w' g d → Swaps w' q n2 → Calls Try.prog 87 #[.slice (some ⟨g, 0, none⟩) len cap, .int .i64 a1, .int .i64 b2, .pointer (some ⟨q, 0, none⟩)] w' (SwPost w' q (.tuple #[.int .i64 (a3 : Int), .int .i64 (b3 : Int)]) n3)) := fun w' h1 h2 => by
    have := order2_any w' g len cap a1 b2 q n2 d h1 h2 hd l2.1 l1.1 (by omega)
    rw [e3] at this
    exact this
  have C1' : Hid (Calls Try.prog 87 #[.slice (some ⟨g, 0, none⟩) len cap, .int .i64 a, .int .i64 b, .pointer (some ⟨q, 0, none⟩)] w (SwPost w q (.tuple #[.int .i64 (a1 : Int), .int .i64 (b1 : Int)]) n1)) := C1
  clear e1 e2 e3 em l1 l2 C1 h hq
  go_enter Try.func84, Try.ntmps84
  go_wp2_with fail
  go_at_call 87
  refine C1'.out.mono ?_
  rintro e w1 ⟨rfl, S1, F1⟩
  have L1 : LRow w1 g d := HL.out.of F1 hgq
  have D2 := C2.out w1 L1 S1
  have F1' : Hid (Fr (· ≠ q) w w1) := F1
  clear C1' S1 F1
  go_wp2_with fail
  go_at_call 87
  refine D2.mono ?_
  rintro e w2 ⟨rfl, S2, F2⟩
  have L2 : LRow w2 g d := L1.of F2 hgq
  have D3 := C3.out w2 L2 S2
  have F2' : Hid (Fr (· ≠ q) w w2) := F1'.out.trans F2
  clear S2 F2 L1 F1' D2
  go_wp2_with fail
  go_at_call 87
  refine D3.mono ?_
  rintro e w3 ⟨rfl, S3, F3⟩
  have F3' : Hid (Fr (· ≠ q) w w3) := F2'.out.trans F3
  have S3' : Hid (Swaps w3 q n3) := S3
  clear D3 F3 F2' S3 L2
  go_wp2_with fail
  go_ret
  exact ⟨rfl, S3'.out, F3'.out⟩

set_option maxRecDepth 100000 in
set_option maxHeartbeats 4000000 in
theorem medianAdj_any (w : World) (g len cap a q n : Nat) (d : Array Nat) (h : LRow w g d) (hq : Swaps w q n) (hgq : g ≠ q) (hl : len ≤ 4294967296) (hd : len ≤ d.size) (ha : a + 1 < len) (ha0 : 0 < a) (hn : n ≤ 900) :
    Calls Try.prog 83 #[.slice (some ⟨g, 0, none⟩) len cap, .int .i64 a, .pointer (some ⟨q, 0, none⟩)] w (SwPost w q (.int .i64 ((medianAdjacent ltN d a n).1 : Int)) (medianAdjacent ltN d a n).2) := by
  have mo := follows
  have C1 := median_any w g len cap (a - 1) a (a + 1) q n d h hq hgq hd (by omega) (by omega) ha hn
  unfold medianAdjacent
  generalize median ltN d (a - 1) a (a + 1) n = r at C1 ⊢
  have e1 : ((a - 1 : Nat) : Int) = (a : Int) - 1 := by omega
  have e2 : ((a + 1 : Nat) : Int) = (a : Int) + 1 := by omega
  rw [e1, e2] at C1
  have C : Hid (Calls Try.prog 84 #[.slice (some ⟨g, 0, none⟩) len cap, .int .i64 ((a : Int) - 1), .int .i64 a, .int .i64 ((a : Int) + 1), .pointer (some ⟨q, 0, none⟩)] w (SwPost w q (.int .i64 (r.1 : Int)) r.2)) := C1
  clear C1 e1 e2 h hq
  go_enter Try.func83, Try.ntmps83
  go_wp2_with (go_at_call 84; refine C.out.mono ?_; rintro e w1 ⟨rfl, S1, F1⟩)
  have S1' : Hid (Swaps w1 q r.2) := S1
  have F1' : Hid (Fr (· ≠ q) w w1) := F1
  clear S1 F1 C
  go_wp2_with fail
  go_ret
  exact ⟨rfl, S1'.out, F1'.out⟩

end Go.Proofs.Ytbicefgjompnoaa.Sx
/- slices.Sort of literals: the pivot. -/
namespace Go.Proofs.Ytbicefgjompnoaa.Sx
open Go.RowKit Go.Sort

def hintN : Hint → Int
  | .unknown => 0
  | .increasing => 1
  | .decreasing => 2
/-- what a count of exchanges says -/
def hintOf (k : Nat) : Hint := if k = 0 then .increasing else if k = 12 then .decreasing else .unknown

set_option maxRecDepth 100000 in
set_option maxHeartbeats 4000000 in
theorem choosePivot_any (w : World) (g len cap a n : Nat) (d : Array Nat) (h : LRow w g d) (hl : len ≤ 4294967296) (hd : len ≤ d.size) (hb : a + n ≤ len) (hn : 12 < n) :
    Calls Try.prog 68 #[.slice (some ⟨g, 0, none⟩) len cap, .int .i64 a, .int .i64 ((a + n : Nat) : Int)] w fun e w' => e = .returned (.tuple #[.int .i64 ((choosePivot ltN d a (a + n)).1 : Int), .int .i64 (hintN (choosePivot ltN d a (a + n)).2)]) ∧ Fr (fun _ => True) w w' := by
  have mo := follows
  have HL : Hid (LRow w g d) := h
  have hi0 : (a : Int) + (n : Int) - (a : Int) = (n : Int) := by omega
  have hgs : g ≠ w.heap.size := by have := block_lt h; omega
  obtain ⟨R, hR⟩ : ∃ R, choosePivot ltN d a (a + n) = R := ⟨_, rfl⟩
  rw [hR]
  unfold choosePivot at hR
  rw [Nat.add_sub_cancel_left] at hR
  simp only [show n ≥ 8 from by omega, if_true] at hR
  obtain ⟨i, hi⟩ : ∃ i, a + n / 4 * 1 = i := ⟨_, rfl⟩
  obtain ⟨j, hj⟩ : ∃ j, a + n / 4 * 2 = j := ⟨_, rfl⟩
  obtain ⟨k, hk⟩ : ∃ k, a + n / 4 * 3 = k := ⟨_, rfl⟩
  rw [hi, hj, hk] at hR
  by_cases h50 : 50 ≤ n
  · have h50' : (50 : Int) ≤ (n : Int) := by omega
    rw [if_pos h50] at hR
    have HR : Hid _ := hR
    clear hR
    go_enter Try.func68, Try.ntmps68
    go_wp2_with fail
    have ei : (a : Int) + (n : Int) / 4 = (i : Int) := by omega
    have ej : (a : Int) + (n : Int) / 4 * 2 = (j : Int) := by omega
    have ek : (a : Int) + (n : Int) / 4 * 3 = (k : Int) := by omega
    rw [ei, ej, ek]
    have L0 : LRow (w.alloc (.cells #[.int .i64 0] 3)) g d := HL.out.of ((Fr.refl (fun _ => True) w).alloc _) trivial
    have S0 : Swaps (w.alloc (.cells #[.int .i64 0] 3)) w.heap.size 0 := heap_alloc_new w _
    have F0 : Fr (· ≠ w.heap.size) w (w.alloc (.cells #[.int .i64 0] 3)) := (Fr.refl _ w).alloc _
    generalize w.alloc (.cells #[.int .i64 0] 3) = W0 at L0 S0 F0 ⊢
    obtain ⟨q, hq⟩ : ∃ q, w.heap.size = q := ⟨_, rfl⟩
    have FT : Hid (∀ W, Fr (· ≠ q) w W → Fr (fun _ => True) w W) := fun W f => ⟨f.os, f.tape, f.output, f.size, fun t ht _ => f.block t ht (by show t ≠ q; omega)⟩
    rw [hq] at S0 F0 hgs ⊢
    clear hq hi0 ei ej ek HL h
    have F0 : Hid (Fr (· ≠ q) w W0) := F0
    obtain ⟨i1, n1, e1⟩ : ∃ i1 n1, medianAdjacent ltN d i 0 = (i1, n1) := ⟨_, _, rfl⟩
    have C1 := medianAdj_any W0 g len cap i q 0 d L0 S0 hgs hl hd (by omega) (by omega) (by omega)
    have l1 := median_lt (d := d) (n := 0) (L := len) (a := i - 1) (b := i) (c := i + 1) (by omega) (by omega) (by omega)
    have l1 : (medianAdjacent ltN d i 0).1 < len ∧ (medianAdjacent ltN d i 0).2 ≤ 0 + 3 := l1
    rw [e1] at C1 l1
    obtain ⟨u1, v1⟩ := l1
    simp only at u1 v1
    go_at_call 83
    refine C1.mono ?_
    rintro e W1 ⟨rfl, S1, G1⟩
    have L1 : LRow W1 g d := L0.of G1 hgs
    have F1 : Hid (Fr (· ≠ q) w W1) := F0.out.trans G1
    clear C1 G1 S0 F0
    obtain ⟨j1, n2, e2⟩ : ∃ j1 n2, medianAdjacent ltN d j n1 = (j1, n2) := ⟨_, _, rfl⟩
    have C2 := medianAdj_any W1 g len cap j q n1 d L1 S1 hgs hl hd (by omega) (by omega) (by omega)
    have l2 := median_lt (d := d) (n := n1) (L := len) (a := j - 1) (b := j) (c := j + 1) (by omega) (by omega) (by omega)
    have l2 : (medianAdjacent ltN d j n1).1 < len ∧ (medianAdjacent ltN d j n1).2 ≤ n1 + 3 := l2
    rw [e2] at C2 l2
    obtain ⟨u2, v2⟩ := l2
    simp only at u2 v2
    go_wp2_with fail
    go_at_call 83
    refine C2.mono ?_
    rintro e W2 ⟨rfl, S2, G2⟩
    have L2 : LRow W2 g d := L1.of G2 hgs
    have F2 : Hid (Fr (· ≠ q) w W2) := F1.out.trans G2
    clear C2 G2 S1 F1
    obtain ⟨k1, n3, e3⟩ : ∃ k1 n3, medianAdjacent ltN d k n2 = (k1, n3) := ⟨_, _, rfl⟩
    have C3 := medianAdj_any W2 g len cap k q n2 d L2 S2 hgs hl hd (by omega) (by omega) (by omega)
    have l3 := median_lt (d := d) (n := n2) (L := len) (a := k - 1) (b := k) (c := k + 1) (by omega) (by omega) (by omega)
    have l3 : (medianAdjacent ltN d k n2).1 < len ∧ (medianAdjacent ltN d k n2).2 ≤ n2 + 3 := l3
    rw [e3] at C3 l3
    obtain ⟨u3, v3⟩ := l3
    simp only at u3 v3
    go_wp2_with fail
    go_at_call 83
    refine C3.mono ?_
    rintro e W3 ⟨rfl, S3, G3⟩
    have L3 : LRow W3 g d := L2.of G3 hgs
    have F3 : Hid (Fr (· ≠ q) w W3) := F2.out.trans G3
    clear C3 G3 S2 F2
    have hR := HR.out
    simp only [e1, e2, e3] at hR
    clear e1 e2 e3 HR
    have C4 := median_any W3 g len cap i1 j1 k1 q n3 d L3 S3 hgs hd u1 u2 u3 (by omega)
    obtain ⟨p, m, hM⟩ : ∃ p m, median ltN d i1 j1 k1 n3 = (p, m) := ⟨_, _, rfl⟩
    rw [hM] at C4 hR
    have HR : Hid ((p, hintOf m) = R) := hR
    go_wp2_with fail
    go_at_call 84
    refine C4.mono ?_
    rintro e W4 ⟨rfl, S4, G4⟩
    have F4 : Hid (Fr (· ≠ q) w W4) := F3.out.trans G4
    clear C4 G4 S3 F3
    clear hi hj hk hR hM
    try simp only at S4
    have c4 := S4.cell
    have S4 : Hid (Swaps W4 q m) := S4
    clear L3
    by_cases m0 : m = 0
    · subst m0
      go_wp2_with fail
      exact bodyPost_ret (v := .tuple #[.int .i64 (p : Int), .int .i64 1]) (by simp [results, Try.results68, go_sem]) rfl ⟨by rw [← HR.out]; first | rfl | (unfold hintOf; rw [if_neg m0, if_neg m1]; rfl), FT.out _ F4.out⟩
    · by_cases m1 : m = 12
      · subst m1
        go_wp2_with fail
        exact bodyPost_ret (v := .tuple #[.int .i64 (p : Int), .int .i64 2]) (by simp [results, Try.results68, go_sem]) rfl ⟨by rw [← HR.out]; first | rfl | (unfold hintOf; rw [if_neg m0, if_neg m1]; rfl), FT.out _ F4.out⟩
      · have e0 : ((m : Int) == 0) = false := by rw [beq_eq_false_iff_ne]; omega
        have e1 : ((m : Int) == 12) = false := by rw [beq_eq_false_iff_ne]; omega
        go_wp2_with fail
        exact bodyPost_ret (v := .tuple #[.int .i64 (p : Int), .int .i64 0]) (by simp [results, Try.results68, go_sem]) rfl ⟨by rw [← HR.out]; first | rfl | (unfold hintOf; rw [if_neg m0, if_neg m1]; rfl), FT.out _ F4.out⟩
  · have h50' : ¬ (50 : Int) ≤ (n : Int) := by omega
    rw [if_neg h50] at hR
    have HR : Hid _ := hR
    clear hR
    go_enter Try.func68, Try.ntmps68
    go_wp2_with fail
    have ei : (a : Int) + (n : Int) / 4 = (i : Int) := by omega
    have ej : (a : Int) + (n : Int) / 4 * 2 = (j : Int) := by omega
    have ek : (a : Int) + (n : Int) / 4 * 3 = (k : Int) := by omega
    rw [ei, ej, ek]
    have L0 : LRow (w.alloc (.cells #[.int .i64 0] 3)) g d := HL.out.of ((Fr.refl (fun _ => True) w).alloc _) trivial
    have S0 : Swaps (w.alloc (.cells #[.int .i64 0] 3)) w.heap.size 0 := heap_alloc_new w _
    have F0 : Fr (· ≠ w.heap.size) w (w.alloc (.cells #[.int .i64 0] 3)) := (Fr.refl _ w).alloc _
    generalize w.alloc (.cells #[.int .i64 0] 3) = W0 at L0 S0 F0 ⊢
    obtain ⟨q, hq⟩ : ∃ q, w.heap.size = q := ⟨_, rfl⟩
    have FT : Hid (∀ W, Fr (· ≠ q) w W → Fr (fun _ => True) w W) := fun W f => ⟨f.os, f.tape, f.output, f.size, fun t ht _ => f.block t ht (by show t ≠ q; omega)⟩
    rw [hq] at S0 F0 hgs ⊢
    clear hq hi0 ei ej ek HL h
    have F0 : Hid (Fr (· ≠ q) w W0) := F0
    have L3 := L0
    have C4 := median_any W0 g len cap i j k q 0 d L0 S0 hgs hd (by omega) (by omega) (by omega) (by omega)
    obtain ⟨p, m, hM⟩ : ∃ p m, median ltN d i j k 0 = (p, m) := ⟨_, _, rfl⟩
    have hR := HR.out
    rw [hM] at C4 hR
    clear HR
    have HR : Hid ((p, hintOf m) = R) := hR
    go_at_call 84
    refine C4.mono ?_
    rintro e W4 ⟨rfl, S4, G4⟩
    have F4 : Hid (Fr (· ≠ q) w W4) := F0.out.trans G4
    clear C4 G4 S0 F0 L0
    clear hi hj hk hR hM
    try simp only at S4
    have c4 := S4.cell
    have S4 : Hid (Swaps W4 q m) := S4
    clear L3
    by_cases m0 : m = 0
    · subst m0
      go_wp2_with fail
      exact bodyPost_ret (v := .tuple #[.int .i64 (p : Int), .int .i64 1]) (by simp [results, Try.results68, go_sem]) rfl ⟨by rw [← HR.out]; first | rfl | (unfold hintOf; rw [if_neg m0, if_neg m1]; rfl), FT.out _ F4.out⟩
    · by_cases m1 : m = 12
      · subst m1
        go_wp2_with fail
        exact bodyPost_ret (v := .tuple #[.int .i64 (p : Int), .int .i64 2]) (by simp [results, Try.results68, go_sem]) rfl ⟨by rw [← HR.out]; first | rfl | (unfold hintOf; rw [if_neg m0, if_neg m1]; rfl), FT.out _ F4.out⟩
      · have e0 : ((m : Int) == 0) = false := by rw [beq_eq_false_iff_ne]; omega
        have e1 : ((m : Int) == 12) = false := by rw [beq_eq_false_iff_ne]; omega
        go_wp2_with fail
        exact bodyPost_ret (v := .tuple #[.int .i64 (p : Int), .int .i64 0]) (by simp [results, Try.results68, go_sem]) rfl ⟨by rw [← HR.out]; first | rfl | (unfold hintOf; rw [if_neg m0, if_neg m1]; rfl), FT.out _ F4.out⟩

end Go.Proofs.Ytbicefgjompnoaa.Sx
