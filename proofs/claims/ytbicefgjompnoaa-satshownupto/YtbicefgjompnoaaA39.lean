/- slices.SortStableFunc of literals: ranges changed round, rotated. -/
import Derived.Test.YtbicefgjompnoaaA14
import Derived.Test.YtbicefgjompnoaaA38
import Derived.Outline
import Derived.Deep.QuietTactic
import Derived.Shelf.SlSortCmp.QuietGrown
namespace Go.Proofs.Ytbicefgjompnoaa.Sx
open Go.RowKit Go.Sort

theorem swap_step {α : Type} [Inhabited α] {d e : Array α} {a b m k : Nat} (hab : a + m ≤ b) (hk : k < m) (hb : b + m ≤ e.size) (HE : ∀ t, e[t]! = if a ≤ t ∧ t < a + k then d[t + (b - a)]! else if b ≤ t ∧ t < b + k then d[t - (b - a)]! else d[t]!) :
    ∀ t, (swp e (a + k) (b + k))[t]! = if a ≤ t ∧ t < a + (k + 1) then d[t + (b - a)]! else if b ≤ t ∧ t < b + (k + 1) then d[t - (b - a)]! else d[t]! := by
  intro t
  rw [swp_get e (by omega) (by omega)]
  have e1 : e[a + k]! = d[a + k]! := by rw [HE, if_neg (by omega), if_neg (by omega)]
  have e2 : e[b + k]! = d[b + k]! := by rw [HE, if_neg (by omega), if_neg (by omega)]
  by_cases q1 : t = b + k
  · subst q1
    rw [if_pos rfl, if_neg (by omega), if_pos (by omega), e1, show b + k - (b - a) = a + k from by omega]
  · rw [if_neg q1]
    by_cases q2 : t = a + k
    · subst q2
      rw [if_pos rfl, if_pos (by omega), e2, show a + k + (b - a) = b + k from by omega]
    · rw [if_neg q2, HE]
      by_cases q3 : a ≤ t ∧ t < a + k
      · rw [if_pos q3, if_pos (by omega)]
      · rw [if_neg q3]
        by_cases q4 : b ≤ t ∧ t < b + k
        · rw [if_pos q4, if_neg (by omega), if_pos (by omega)]
        · rw [if_neg q4, if_neg (by omega), if_neg (by omega)]

section
variable {α : Type} [Inhabited α]
def SwapP (d e : Array α) (a b m : Nat) : Prop := e.size = d.size ∧ ∀ t, e[t]! = if a ≤ t ∧ t < a + m then d[t + (b - a)]! else if b ≤ t ∧ t < b + m then d[t - (b - a)]! else d[t]!
theorem SwapP.list {d e : Array α} {P X M Y Q : List α} {m : Nat} (h : SwapP d e P.length (P.length + m + M.length) m) (hd : d.toList = P ++ (X ++ (M ++ (Y ++ Q)))) (hx : X.length = m) (hy : Y.length = m) : e.toList = P ++ (Y ++ (M ++ (X ++ Q))) := by
  have hs := congrArg List.length hd
  simp at hs
  refine ext_get (by rw [h.1]; simp; omega) fun t ht => ?_
  rw [h.2 t, at_list, at_list, at_list, hd]
  by_cases q1 : t < P.length
  · rw [if_neg (by omega), if_neg (by omega), List.getElem?_append_left q1, List.getElem?_append_left q1]
  · by_cases q2 : t < P.length + m
    · rw [if_pos (by omega)]
      congr 1
      rw [List.getElem?_append_right (by omega), List.getElem?_append_right (by omega), List.getElem?_append_right (by omega), List.getElem?_append_left (by omega), List.getElem?_append_right (by omega), List.getElem?_append_left (by omega)]
      congr 1; omega
    · rw [if_neg (by omega)]
      by_cases q3 : t < P.length + m + M.length
      · rw [if_neg (by omega)]
        congr 1
        rw [List.getElem?_append_right (by omega), List.getElem?_append_right (by omega), List.getElem?_append_left (by omega), List.getElem?_append_right (by omega), List.getElem?_append_right (by omega), List.getElem?_append_left (by omega)]
        congr 1; omega
      · by_cases q4 : t < P.length + m + M.length + m
        · rw [if_pos (by omega)]
          congr 1
          rw [List.getElem?_append_right (by omega), List.getElem?_append_left (by omega), List.getElem?_append_right (by omega), List.getElem?_append_right (by omega), List.getElem?_append_right (by omega), List.getElem?_append_left (by omega)]
          congr 1; omega
        · rw [if_neg (by omega)]
          congr 1
          rw [List.getElem?_append_right (by omega), List.getElem?_append_right (by omega), List.getElem?_append_right (by omega), List.getElem?_append_right (by omega), List.getElem?_append_right (by omega), List.getElem?_append_right (by omega), List.getElem?_append_right (by omega), List.getElem?_append_right (by omega)]
          congr 1; omega

/-- what is left to be exchanged -/
def RInv (e : Array α) (tg : List α) (i j m : Nat) : Prop := ∃ P X Y Q : List α, e.toList = P ++ (X ++ (Y ++ Q)) ∧ tg = P ++ (Y ++ (X ++ Q)) ∧ P.length + i = m ∧ X.length = i ∧ Y.length = j
theorem RInv.gt {e e' : Array α} {tg : List α} {i j m : Nat} (h : RInv e tg i j m) (hij : j < i) (hs : SwapP e e' (m - i) m j) : RInv e' tg (i - j) j m := by
  obtain ⟨P, X, Y, Q, h1, h2, h3, h4, h5⟩ := h
  obtain ⟨X1, X2, rfl, l1, l2⟩ : ∃ X1 X2, X = X1 ++ X2 ∧ X1.length = j ∧ X2.length = i - j := ⟨_, _, (List.take_append_drop j X).symm, by simp; omega, by simp; omega⟩
  have := SwapP.list (P := P) (Q := Q) (by rw [l2, show P.length = m - i from by omega, show m - i + j + (i - j) = m from by omega]; exact hs) (by rw [h1]; simp) l1 h5
  exact ⟨P ++ Y, X2, X1, Q, by rw [this]; simp, by rw [h2]; simp, by simp; omega, l2, l1⟩
theorem RInv.lt {e e' : Array α} {tg : List α} {i j m : Nat} (h : RInv e tg i j m) (hij : i < j) (hs : SwapP e e' (m - i) (m + j - i) i) : RInv e' tg i (j - i) m := by
  obtain ⟨P, X, Y, Q, h1, h2, h3, h4, h5⟩ := h
  obtain ⟨Y1, Y2, rfl, l1, l2⟩ : ∃ Y1 Y2, Y = Y1 ++ Y2 ∧ Y1.length = j - i ∧ Y2.length = i := ⟨_, _, (List.take_append_drop (j - i) Y).symm, by simp; omega, by simp; omega⟩
  have := SwapP.list (P := P) (Q := Q) (by rw [l1, show P.length = m - i from by omega, show m - i + i + (j - i) = m + j - i from by omega]; exact hs) (by rw [h1]; simp) h4 l2
  exact ⟨P, Y2, Y1, X ++ Q, this, by rw [h2]; simp, h3, l2, l1⟩
theorem RInv.eq {e e' : Array α} {tg : List α} {i m : Nat} (h : RInv e tg i i m) (hs : SwapP e e' (m - i) m i) : e'.toList = tg := by
  obtain ⟨P, X, Y, Q, h1, h2, h3, h4, h5⟩ := h
  have := SwapP.list (M := []) (Q := Q) (by rw [show P.length = m - i from by omega, show m - i + i + ([] : List α).length = m from by simp; omega]; exact hs) (by rw [h1]; simp) h4 h5
  rw [this, h2]; simp
end

set_option maxRecDepth 100000 in
set_option maxHeartbeats 2000000 in
theorem swapRange_any (w : World) (g len cap a b m : Nat) (fv : Value) (d : Array Nat) (hd : len ≤ d.size) (hrow : LRow w g d) (hl : len ≤ 4294967296) (hab : a + m ≤ b) (hb : b + m ≤ len) :
    Calls Try.prog 88 #[.slice (some ⟨g, 0, none⟩) len cap, .int .i64 a, .int .i64 b, .int .i64 m, fv] w fun e w' => e = .returned (.tuple #[]) ∧ ∃ d' : Array Nat, d'.size = d.size ∧ LRow w' g d' ∧ Fr (· ≠ g) w w' ∧
      ∀ t, d'[t]! = if a ≤ t ∧ t < a + m then d[t + (b - a)]! else if b ≤ t ∧ t < b + m then d[t - (b - a)]! else d[t]! := by
  have H0 : Hid (LRow w g d) := hrow
  clear hrow
  have mo := follows
  go_enter Try.func88, Try.ntmps88
  go_wp2_with fail
  go_loopw [10] (fun s wr => ∃ (k : Nat) (e : Array Nat), k ≤ m ∧ s = .int .i64 k ∧ e.size = d.size ∧ Hid (LRow wr g e) ∧ Hid (Fr (· ≠ g) w wr) ∧ Hid (∀ t, e[t]! = if a ≤ t ∧ t < a + k then d[t + (b - a)]! else if b ≤ t ∧ t < b + k then d[t - (b - a)]! else d[t]!)) (fun s _ => m - (intOf s).toNat)
  case atStart => exact ⟨0, d, Nat.zero_le _, rfl, rfl, H0, Fr.refl _ _, fun t => by rw [if_neg (by omega), if_neg (by omega)]⟩
  case round =>
    obtain ⟨k, e, hk, rfl, he, HR, HF, HE⟩ := hrel
    by_cases hlt : k < m
    · obtain ⟨p, hp⟩ : ∃ p, p = a + k := ⟨_, rfl⟩
      obtain ⟨q, hq⟩ : ∃ q, q = b + k := ⟨_, rfl⟩
      have ea : ((a : Int) + (k : Int)).toNat = p := by omega
      have pa : (0 : Int) ≤ (a : Int) + (k : Int) := by omega
      have ba : (a : Int) + (k : Int) < (len : Int) := by omega
      have ra : IntKind.i64.wrap ((a : Int) + (k : Int)) = (a : Int) + (k : Int) := by rw [IntKind.wrap_i64]; omega
      have ec : ((b : Int) + (k : Int)).toNat = q := by omega
      have pc : (0 : Int) ≤ (b : Int) + (k : Int) := by omega
      have bc : (b : Int) + (k : Int) < (len : Int) := by omega
      have rc : IntKind.i64.wrap ((b : Int) + (k : Int)) = (b : Int) + (k : Int) := by rw [IntKind.wrap_i64]; omega
      obtain ⟨x, hx⟩ : ∃ x, e[p]! = x := ⟨_, rfl⟩
      have Hx : Hid (e[p]! = x) := hx
      obtain ⟨y, hy⟩ : ∃ y, e[q]! = y := ⟨_, rfl⟩
      have Hy : Hid (e[q]! = y) := hy
      clear hx hy
      have cc0 := HR.out.cell (i := p) (by omega)
      have cd0 := HR.out.drew.cell (i := p) (by omega)
      have cz0 := HR.out.free p
      have cy0 := HR.out.drew.free p
      rw [Hx.out] at cc0 cd0
      have cc1 := HR.out.cell (i := q) (by omega)
      have cd1 := HR.out.drew.cell (i := q) (by omega)
      have cz1 := HR.out.free q
      have cy1 := HR.out.drew.free q
      rw [Hy.out] at cc1 cd1
      have SW : Hid (LRow (swL wr g p q x y) g (swp e p q)) := by rw [← Hx.out, ← Hy.out]; exact HR.out.swap _ _
      have SF : Hid (Fr (· ≠ g) w (swL wr g p q x y)) := HF.out.swapL _ _ _ _
      have SE : Hid (∀ t, (swp e p q)[t]! = if a ≤ t ∧ t < a + (k + 1) then d[t + (b - a)]! else if b ≤ t ∧ t < b + (k + 1) then d[t - (b - a)]! else d[t]!) := by
        rw [hp, hq]; exact swap_step hab hlt (by omega) HE.out
      have hsz : (swp e p q).size = d.size := by rw [swp_size]; exact he
      have hpq : p < q := by omega
      clear hp hq HR HF HE Hx Hy
      generalize swp e p q = e2 at SW SE hsz
      go_wp2_with fail
      go_big_region_o
      go_wp2_with fail
      go_roundw
      case rel => exact ⟨k + 1, e2, by omega, by go_num, hsz, SW, SF, SE⟩
      case measure => simp [intOf]; omega
    · obtain rfl : k = m := by omega
      go_wp2_with fail
      go_end0
      exact ⟨rfl, e, he, HR.out, HF.out, HE.out⟩

set_option maxRecDepth 100000 in
set_option maxHeartbeats 2000000 in
theorem rotate_any (w : World) (g len cap a m b : Nat) (fv : Value) (d : Array Nat) (hd : len ≤ d.size) (hrow : LRow w g d) (hl : len ≤ 4294967296) (h1 : a < m) (h2 : m < b) (h3 : b ≤ len) :
    Calls Try.prog 86 #[.slice (some ⟨g, 0, none⟩) len cap, .int .i64 a, .int .i64 m, .int .i64 b, fv] w fun e w' => e = .returned (.tuple #[]) ∧ ∃ d' : Array Nat, LRow w' g d' ∧ Fr (· ≠ g) w w' ∧ RotL d d' a m b := by
  obtain ⟨P, A, B, Q, c1, c2, c3, c4⟩ := cut4 d a m b (by omega) (by omega) (by omega)
  have HI : Hid (RInv d _ (m - a) (b - m) m) := ⟨P, A, B, Q, c1, rfl, by omega, by omega, by omega⟩
  have HT : Hid (∀ e : _, _ = P ++ _ → RotL d e a m b) := fun e he => ⟨P, A, B, Q, c1, he, c2, c3, c4⟩
  clear c1 c2 c3 c4
  generalize P ++ (B ++ (A ++ Q)) = tg at HI HT
  have H0 : Hid (LRow w g d) := hrow
  have HS : Hid (∀ (W : World) (e : Array Nat) (p q k : Nat), len ≤ e.size → _ → p + k ≤ q → q + k ≤ len → _) := fun W e p q k he hr hpq hq => swapRange_any W g len cap p q k fv e he hr hl hpq hq
  clear hrow
  go_enter Try.func86, Try.ntmps86
  go_wp2_with fail
  go_loopw [10, 11] (fun s t wr => ∃ (i j : Nat) (e : Array Nat), s = .int .i64 i ∧ t = .int .i64 j ∧ 0 < i ∧ 0 < j ∧ i ≤ m ∧ m + j ≤ b ∧ e.size = d.size ∧ Hid (RInv e tg i j m) ∧ Hid (LRow wr g e) ∧ Hid (Fr (· ≠ g) w wr)) (fun s t _ => (intOf s).toNat + (intOf t).toNat)
  case atStart => exact ⟨m - a, b - m, d, by go_num, by go_num, by omega, by omega, by omega, by omega, rfl, HI, H0, Fr.refl _ _⟩
  case round =>
    obtain ⟨i, j, e, rfl, rfl, hi, hj, him, hjb, he, HV, HR, HF⟩ := hrel
    rcases (show j < i ∨ i < j ∨ i = j from by omega) with q | q | q
    · have b1 : ((i : Int) != (j : Int)) = true := by rw [bne_iff_ne]; omega
      have HC : Hid (Calls _ 88 #[_, _, _, _, fv] wr _) := HS.out wr e (m - i) m j (by omega) HR.out (by omega) (by omega)
      rw [show ((m - i : Nat) : Int) = (m : Int) - (i : Int) from by omega] at HC
      go_wp2_with fail
      refine HC.out.mono ?_
      rintro x w1 ⟨rfl, e1, he1, hr1, hf1, hs1⟩
      have V1 : Hid (RInv e1 tg (i - j) j m) := HV.out.gt q ⟨he1, hs1⟩
      have R1 : Hid (LRow w1 g e1) := hr1
      have F1 : Hid _ := HF.out.trans hf1
      clear hr1 hf1 hs1 HC HV HR HF
      go_wp2_with fail
      go_roundw
      case rel => exact ⟨i - j, j, e1, by go_num, rfl, by omega, hj, by omega, hjb, he1.trans he, V1, R1, F1⟩
      case measure => simp [intOf]; omega
    · have b1 : ((i : Int) != (j : Int)) = true := by rw [bne_iff_ne]; omega
      have b2 : ¬ (j : Int) < (i : Int) := by omega
      have HC : Hid (Calls _ 88 #[_, _, _, _, fv] wr _) := HS.out wr e (m - i) (m + j - i) i (by omega) HR.out (by omega) (by omega)
      rw [show ((m - i : Nat) : Int) = (m : Int) - (i : Int) from by omega, show ((m + j - i : Nat) : Int) = (m : Int) + (j : Int) - (i : Int) from by omega] at HC
      go_wp2_with fail
      refine HC.out.mono ?_
      rintro x w1 ⟨rfl, e1, he1, hr1, hf1, hs1⟩
      have V1 : Hid (RInv e1 tg i (j - i) m) := HV.out.lt q ⟨he1, hs1⟩
      have R1 : Hid (LRow w1 g e1) := hr1
      have F1 : Hid _ := HF.out.trans hf1
      clear hr1 hf1 hs1 HC HV HR HF
      go_wp2_with fail
      go_roundw
      case rel => exact ⟨i, j - i, e1, rfl, by go_num, hi, by omega, him, by omega, he1.trans he, V1, R1, F1⟩
      case measure => simp [intOf]; omega
    · subst q
      have b1 : ((i : Int) != (i : Int)) = false := by simp
      have HC : Hid (Calls _ 88 #[_, _, _, _, fv] wr _) := HS.out wr e (m - i) m i (by omega) HR.out (by omega) (by omega)
      rw [show ((m - i : Nat) : Int) = (m : Int) - (i : Int) from by omega] at HC
      go_wp2_with fail
      refine HC.out.mono ?_
      rintro x w1 ⟨rfl, e1, he1, hr1, hf1, hs1⟩
      have V1 : Hid _ := HV.out.eq ⟨he1, hs1⟩
      have R1 : Hid (LRow w1 g e1) := hr1
      have F1 : Hid _ := HF.out.trans hf1
      clear hr1 hf1 hs1 HC HV HR HF
      go_wp2_with fail
      go_end0
      exact ⟨rfl, e1, R1.out, F1.out, HT.out e1 V1.out⟩
end Go.Proofs.Ytbicefgjompnoaa.Sx
/- slices.SortStableFunc of literals: one before many goes to its place. -/
namespace Go.Proofs.Ytbicefgjompnoaa.Sx
open Go.RowKit Go.Sort

/-- by truth, the truest first -/
def cS (tr : Nat → Int) (x y : Nat) : Int := Int.sign (tr y - tr x)
theorem cS_lt (tr : Nat → Int) (x y : Nat) : cS tr x y < 0 ↔ tr y - tr x < 0 := Int.sign_neg_iff
theorem ordS (tr : Nat → Int) : Ord3 (cS tr) where
  rng a b := by
    unfold cS
    rcases Int.lt_trichotomy (tr b - tr a) 0 with h | h | h
    · exact .inl (Int.sign_eq_neg_one_of_neg h)
    · rw [h]; exact .inr (.inl rfl)
    · exact .inr (.inr (Int.sign_eq_one_of_pos h))
  anti a b := by unfold cS; rw [← Int.sign_neg]; congr 1; omega
  trans a b d h1 h2 := by
    have n1 : ¬ 0 < tr b - tr a := fun h => by rw [cS, Int.sign_eq_one_of_pos h] at h1; omega
    have n2 : ¬ 0 < tr d - tr b := fun h => by rw [cS, Int.sign_eq_one_of_pos h] at h2; omega
    unfold cS
    rcases Int.lt_trichotomy (tr d - tr a) 0 with h | h | h
    · rw [Int.sign_eq_neg_one_of_neg h]; omega
    · rw [h]; exact Int.le_refl _
    · omega
/-- what the comparison answers, in every world that keeps all but the row -/
def CmpAt (W0 : World) (g K px : Nat) (tr : Nat → Int) : Prop := ∀ W, Fr (· ≠ g) W0 W → ∀ x y, x < K → y < K → Calls Try.prog 43 #[.int .i32 (x : Int), .int .i32 (y : Int), .pointer (some ⟨px, 0, none⟩)] W fun e w' => e = .returned (.int .i64 (tr y - tr x)) ∧ Grew W w'
theorem Grew.grown {a b : World} (h : Grew a b) (n : Nat) (os : Array Obj) : Grew a (grow (b.drewN n) os) := h.trans ⟨n, os, rfl⟩
theorem LRow.grown {w : World} {g : Nat} {d : Array Nat} (h : LRow w g d) (i : Nat) (hi : i < d.size) (q : Nat) (os : Array Obj) : (grow (w.drewN q) os).cell? ⟨g, i, none⟩ = some (.int .i32 (d[i]! : Int)) := cell_grown (a := ⟨g, i, none⟩) (show g < w.heap.size from block_lt h) (h.cell hi) q os

set_option maxRecDepth 100000 in
set_option maxHeartbeats 4000000 in
theorem sym_first (w W0 : World) (g K px : Nat) (tr : Nat → Int) (len cap a b : Nat) (d : Array Nat) (hC : CmpAt W0 g K px tr) (hK : ∀ t, t < len → d[t]! < K) (hW : Fr (· ≠ g) W0 w) (hd : len ≤ d.size) (hrow : LRow w g d) (hl : len ≤ 4294967296) (h2 : a + 1 < b) (h3 : b ≤ len) (hs : Srt (cS tr) d (a + 1) b) :
    Calls Try.prog 79 #[.slice (some ⟨g, 0, none⟩) len cap, .int .i64 a, .int .i64 ((a + 1 : Nat) : Int), .int .i64 b, .func (.func 43) #[] #[.pointer (some ⟨px, 0, none⟩)]] w fun e w' => e = .returned (.tuple #[]) ∧ ∃ d' : Array Nat, Stb (cS tr) a b d d' ∧ Srt (cS tr) d' a b ∧ LRow w' g d' ∧ Fr (· ≠ g) w w' := by
  have H0 : Hid (LRow w g d) := hrow
  have HB : Hid (Fr (· ≠ g) W0 w) := hW
  have HS : Hid (Srt (cS tr) d (a + 1) b) := hs
  have HCM : Hid (CmpAt W0 g K px tr) := hC
  have HK : Hid (∀ t, t < len → d[t]! < K) := hK
  clear hrow hW hs hC hK
  have mo := follows
  obtain ⟨za, hza⟩ : ∃ z, z = d[a]! := ⟨_, rfl⟩
  have HZA : Hid (za = d[a]!) := hza
  obtain ⟨m, hm⟩ : ∃ m, m = a + 1 := ⟨_, rfl⟩
  rw [← hm]
  have b1 : ((m : Int) - (a : Int) == 1) = true := by simp; omega
  have hma : a < m := by omega
  have HM : Hid (m = a + 1) := hm
  have hmb : m < b := by omega
  clear hm hza
  go_enter Try.func79, Try.ntmps79
  go_wp2_with fail
  go_loopw [10, 11] (fun s t wr => ∃ (i j : Nat), s = .int .i64 i ∧ t = .int .i64 j ∧ m ≤ i ∧ i ≤ j ∧ j ≤ b ∧ Hid (∀ t, m ≤ t → t < i → (cS tr) d[t]! za < 0) ∧ Hid (∀ t, j ≤ t → t < b → 0 ≤ (cS tr) d[t]! za) ∧ Hid (Grew w wr)) (fun s t _ => (intOf t).toNat - (intOf s).toNat)
  case atStart => exact ⟨m, b, rfl, rfl, Nat.le_refl _, by omega, Nat.le_refl _, fun t h1 h2 => by omega, fun t h1 h2 => by omega, Grew.refl w⟩
  case round =>
    obtain ⟨i, j, rfl, rfl, hi, hij, hj, HLo, HHi, HG⟩ := hrel
    by_cases hlt : i < j
    · obtain ⟨h, hh⟩ : ∃ h, h = (i + j) / 2 := ⟨_, rfl⟩
      have x1 := LRow.grown (H0.out.of (P := fun _ => True) (Fr.grew HG.out) trivial) h (by omega)
      have y1 := LRow.grown (H0.out.of (P := fun _ => True) (Fr.grew HG.out) trivial) a (by omega)
      rw [← HZA.out] at y1
      have ea : (((i : Int) + (j : Int)) / 2).toNat = h := by omega
      have pa : (0 : Int) ≤ ((i : Int) + (j : Int)) / 2 := by omega
      have ba : ((i : Int) + (j : Int)) / 2 < (len : Int) := by omega
      have ra : IntKind.i64.wrap (((i : Int) + (j : Int)) / 2) = ((i : Int) + (j : Int)) / 2 := by rw [IntKind.wrap_i64]; omega
      have ec : ((a : Int)).toNat = a := by omega
      have pc : (0 : Int) ≤ (a : Int) := by omega
      have bc : (a : Int) < (len : Int) := by omega
      have rc : IntKind.i64.wrap ((a : Int)) = (a : Int) := by rw [IntKind.wrap_i64]; omega
      have hzK : za < K := by rw [HZA.out]; exact HK.out a (by omega)
      have HC : Hid (∀ q os, Calls Try.prog 43 #[.int .i32 ((d[h]! : Nat) : Int), .int .i32 ((za : Nat) : Int), .pointer (some ⟨px, 0, none⟩)] (grow (wr.drewN q) os) fun e w' => e = .returned (.int .i64 (tr za - tr d[h]!)) ∧ Grew (grow (wr.drewN q) os) w') := fun q os => HCM.out _ (HB.out.trans (Fr.grew (HG.out.grown q os))) _ _ (HK.out h (by omega)) hzK
      have cI : (cS tr) d[h]! za < 0 ↔ tr za - tr d[h]! < 0 := cS_lt tr _ _
      have HLt : Hid (tr za - tr d[h]! < 0 → ∀ t, m ≤ t → t < h + 1 → (cS tr) d[t]! za < 0) := by
        intro q t q1 q2
        have cI := cI
        have := HM.out
        exact le_lt (ordS tr) (HS.out.le (ordS tr) (by omega) (show t ≤ h by omega) (by omega)) (cI.2 q)
      have HGe : Hid (0 ≤ tr za - tr d[h]! → ∀ t, h ≤ t → t < b → 0 ≤ (cS tr) d[t]! za) := by
        intro q t q1 q2
        have cI := cI
        have := HM.out
        by_cases q3 : (cS tr) d[t]! za < 0
        · have := le_lt (ordS tr) (HS.out.le (ordS tr) (by omega) q1 q2) q3
          omega
        · omega
      clear cI hzK
      generalize tr za - tr d[h]! = cv at HC HLt HGe
      generalize d[h]! = zh at x1 HC
      have hh1 : i ≤ h := by omega
      have hh2 : h < j := by omega
      have HH : Hid (h = (i + j) / 2) := hh
      clear hh
      by_cases hc : cv < 0
      · have hcb : decide (cv < 0) = true := by simp [hc]
        go_wp2_with fail
        go_quiet_grown (first | (go_at_call 43; refine Calls.grown_of (HC.out _ _)))
        have G1 : Hid (Grew w (grow (wr.drewN nq) osq)) := HG.out.grown _ _
        clear x1 y1 HG HC ea pa ba ra ec pc bc rc
        generalize grow (wr.drewN nq) osq = W1 at G1 ⊢
        clear nq osq
        go_wp2_with fail
        go_roundw
        case rel => exact ⟨h + 1, j, by rw [show ((i : Int) + (j : Int)) / 2 + 1 = ((h + 1 : Nat) : Int) from by have := HH.out; omega], rfl, by omega, by omega, hj, HLt.out hc, HHi, G1⟩
        case measure => have := HH.out; simp [intOf]; omega
      · have hcb : decide (cv < 0) = false := by simp [hc]
        go_wp2_with fail
        go_quiet_grown (first | (go_at_call 43; refine Calls.grown_of (HC.out _ _)))
        have G1 : Hid (Grew w (grow (wr.drewN nq) osq)) := HG.out.grown _ _
        clear x1 y1 HG HC ea pa ba ra ec pc bc rc
        generalize grow (wr.drewN nq) osq = W1 at G1 ⊢
        clear nq osq
        go_wp2_with fail
        go_roundw
        case rel => exact ⟨i, h, rfl, by rw [show ((i : Int) + (j : Int)) / 2 = ((h : Nat) : Int) from by have := HH.out; omega], hi, by omega, by omega, HLo, HGe.out (by omega), G1⟩
        case measure => have := HH.out; simp [intOf]; omega
    · obtain rfl : i = j := by omega
      have HR1 : Hid (LRow wr g d) := H0.out.of (P := fun _ => True) (Fr.grew HG.out) trivial
      have HF1 : Hid (Fr (· ≠ g) w wr) := Fr.grew HG.out
      have HRT : Hid (RotL d d a (a + 1) (a + 1)) := RotL.same_r d a (a + 1) (by omega) (by omega)
      go_wp2_with fail
      go_loopw [13] (fun s wr => ∃ (k : Nat) (e : Array Nat), s = .int .i64 k ∧ a ≤ k ∧ k + 1 ≤ i ∧ Hid (RotL d e a (a + 1) (k + 1)) ∧ Hid (LRow wr g e) ∧ Hid (Fr (· ≠ g) w wr)) (fun s _ => i - (intOf s).toNat)
      case atStart => exact ⟨a, d, rfl, Nat.le_refl _, by omega, HRT, HR1, HF1⟩
      case round =>
        clear HR1 HF1 HRT
        obtain ⟨k, e, rfl, hak, hki, HRT, HR, HF⟩ := hrel
        by_cases hlt2 : k + 1 < i
        · obtain ⟨q, hq⟩ : ∃ q, q = k + 1 := ⟨_, rfl⟩
          have hes : e.size = d.size := HRT.out.size
          obtain ⟨x, hx⟩ : ∃ x, e[k]! = x := ⟨_, rfl⟩
          have Hx : Hid (e[k]! = x) := hx
          obtain ⟨y, hy⟩ : ∃ y, e[q]! = y := ⟨_, rfl⟩
          have Hy : Hid (e[q]! = y) := hy
          clear hx hy
          have cc0 := HR.out.cell (i := k) (by omega)
          have cd0 := HR.out.drew.cell (i := k) (by omega)
          have cz0 := HR.out.free k
          have cy0 := HR.out.drew.free k
          rw [Hx.out] at cc0 cd0
          have cc1 := HR.out.cell (i := q) (by omega)
          have cd1 := HR.out.drew.cell (i := q) (by omega)
          have cz1 := HR.out.free q
          have cy1 := HR.out.drew.free q
          rw [Hy.out] at cc1 cd1
          have ea : ((k : Int)).toNat = k := by omega
          have pa : (0 : Int) ≤ (k : Int) := by omega
          have ba : (k : Int) < (len : Int) := by omega
          have ra : IntKind.i64.wrap ((k : Int)) = (k : Int) := by rw [IntKind.wrap_i64]; omega
          have ec : ((k : Int) + 1).toNat = q := by omega
          have pc : (0 : Int) ≤ (k : Int) + 1 := by omega
          have bc : (k : Int) + 1 < (len : Int) := by omega
          have rc : IntKind.i64.wrap ((k : Int) + 1) = (k : Int) + 1 := by rw [IntKind.wrap_i64]; omega
          have lt2 : (k : Int) < (i : Int) - 1 := by omega
          have SW : Hid (LRow (swL wr g k q x y) g (swp e k q)) := by rw [← Hx.out, ← Hy.out]; exact HR.out.swap _ _
          have SF : Hid (Fr (· ≠ g) w (swL wr g k q x y)) := HF.out.swapL _ _ _ _
          have SR : Hid (RotL d (swp e k q) a (a + 1) (k + 2)) := by rw [hq]; exact HRT.out.up (by omega)
          have hkq : k < q := by omega
          clear hq HR HF HRT hes Hx Hy
          generalize swp e k q = e2 at SW SR
          go_wp2_with fail
          go_big_region_o
          go_wp2_with fail
          go_roundw
          case rel => exact ⟨k + 1, e2, by go_num, by omega, by omega, SR, SW, SF⟩
          case measure => simp [intOf]; omega
        · have hki2 : k + 1 = i := by omega
          have HFin : Hid (Stb (cS tr) a b d e ∧ Srt (cS tr) e a b) := by
            have hr := HRT.out
            rw [hki2] at hr
            have := HM.out
            have hz := HZA.out
            exact merge_first (ordS tr) HS.out (by omega) hj (fun t q1 q2 => by rw [← hz]; exact HLo.out t (by omega) q2) (fun t q1 q2 => by rw [← hz]; have := HHi.out t q1 q2; omega) hr
          have lt2 : ¬ (k : Int) < (i : Int) - 1 := by omega
          clear hki2
          go_wp2_with fail
          refine bodyPost_ret (results_none rfl _ _ _) rfl ?_
          exact ⟨rfl, e, HFin.out.1, HFin.out.2, HR.out, HF.out⟩
end Go.Proofs.Ytbicefgjompnoaa.Sx
