/- Rows of pairs: exchanges. -/
import Derived.Test.YtbogejmmkohbkaaGreatDoorGA9
import Derived.Shelf.SlSortCmp.QuietGrown
namespace Go.Proofs.YtbogejmmkohbkaaGreatDoor.Sx
open Go.RowKit Go.Sort

/-- a value and its tree, in a world, none of it in the block g -/
structure HeldG (n g : Nat) (W : World) where
  x : AV n
  v : Value
  h : RepP (· ≠ g) W n x v
theorem HeldG.one {n g : Nat} {W : World} (a : HeldG n g W) : a.v.oneCell' = true := (a.h.rep _ _ _).one
/-- a pair of values -/
structure PH (n g : Nat) (W : World) where
  k : HeldG n g W
  u : HeldG n g W
def encP {n γ : Nat} {W : World} (a : PH n γ W) : List Value := [a.k.v, a.u.v]
def cP {n γ : Nat} {W : World} (a b : PH n γ W) : Int := cmpV n a.k.x b.k.x
theorem ordP (n γ : Nat) (W : World) : Ord3 (cP (n := n) (γ := γ) (W := W)) := (ord n).pull (fun a : PH n γ W => a.k.x)

/-- a row of pairs that the call may write -/
def PRow {n γ : Nat} {W0 : World} [Inhabited (PH n γ W0)] (w : World) (g : Nat) (d : Array (PH n γ W0)) : Prop :=
  g < w.heap.size ∧ ∀ i, i < d.size → w.cell? ⟨g, i * 2, none⟩ = some d[i]!.k.v ∧ w.cell? ⟨g, i * 2 + 1, none⟩ = some d[i]!.u.v ∧ w.frozen? ⟨g, i * 2, none⟩ = false ∧ w.frozen? ⟨g, i * 2 + 1, none⟩ = false

/-- the world behind an exchange -/
def swW (w : World) (g i j : Nat) (vi ui vj uj : Value) : World := ((((w.setCell ⟨g, i * 2, none⟩ vj).setCell ⟨g, i * 2 + 1, none⟩ uj).setCell ⟨g, j * 2, none⟩ vi).setCell ⟨g, j * 2 + 1, none⟩ ui).drew
theorem Fr.swapD {a b : World} {g : Nat} (h : Fr (· ≠ g) a b) (i j : Nat) (vi ui vj uj : Value) : Fr (· ≠ g) a (swW b g i j vi ui vj uj) :=
  ((((h.set (by simp) _).set (by simp) _).set (by simp) _).set (by simp) _).drew

theorem swap_step {α : Type} [Inhabited α] {d e : Array α} {a b m k : Nat} (hab : a + m ≤ b) (hk : k < m) (hb : b + m ≤ e.size) (HE : ∀ t, e[t]! = if a ≤ t ∧ t < a + k then d[t + (b - a)]! else if b ≤ t ∧ t < b + k then d[t - (b - a)]! else d[t]!) :
    ∀ t, (swp e (a + k) (b + k))[t]! = if a ≤ t ∧ t < a + (k + 1) then d[t + (b - a)]! else if b ≤ t ∧ t < b + (k + 1) then d[t - (b - a)]! else d[t]! := by
  intro t
  rw [swp_get e (by omega) (by omega)]
  have e1 : e[a + k]! = d[a + k]! := by rw [HE, if_neg (by omega), if_neg (by omega)]
  have e2 : e[b + k]! = d[b + k]! := by rw [HE, if_neg (by omega), if_neg (by omega)]
  by_cases q1 : t = b + k
  · subst q1
    rw [if_pos rfl, if_neg (by omega), if_pos (by omega), e1, show b + k - (b - a) = a + k from by omega]
  · rw [if_neg q1]
    by_cases q2 : t = a + k
    · subst q2
      rw [if_pos rfl, if_pos (by omega), e2, show a + k + (b - a) = b + k from by omega]
    · rw [if_neg q2, HE]
      by_cases q3 : a ≤ t ∧ t < a + k
      · rw [if_pos q3, if_pos (by omega)]
      · rw [if_neg q3]
        by_cases q4 : b ≤ t ∧ t < b + k
        · rw [if_pos q4, if_neg (by omega), if_pos (by omega)]
        · rw [if_neg q4, if_neg (by omega), if_neg (by omega)]

section
variable {n γ : Nat} {W0 : World} [Inhabited (PH n γ W0)]
theorem PRow.fr {w w' : World} {g : Nat} {d : Array (PH n γ W0)} (h : PRow w g d) {P : Nat → Prop} (f : Fr P w w') (hg : P g) : PRow w' g d := by
  have hb := f.block g h.1 hg
  refine ⟨Nat.lt_of_lt_of_le h.1 f.size, fun i hi => ?_⟩
  obtain ⟨a, b, c, e⟩ := h.2 i hi
  exact ⟨(World.cell?_of_block (w := w) hb).trans a, (World.cell?_of_block (w := w) hb).trans b, (World.frozen?_of_block (w := w) hb).trans c, (World.frozen?_of_block (w := w) hb).trans e⟩
theorem PRow.drew {w : World} {g : Nat} {d : Array (PH n γ W0)} (h : PRow w g d) : PRow w.drew g d := h.fr (P := fun _ => True) ((Fr.refl _ w).drew) trivial

theorem PRow.put {w : World} {g : Nat} {d : Array (PH n γ W0)} (h : PRow w g d) (i : Nat) (hi : i < d.size) (x : PH n γ W0) : PRow ((w.setCell ⟨g, i * 2, none⟩ x.k.v).setCell ⟨g, i * 2 + 1, none⟩ x.u.v) g (d.setIfInBounds i x) := by
  refine ⟨by simpa using h.1, fun t ht => ?_⟩
  rw [Array.size_setIfInBounds] at ht
  obtain ⟨a, b, c, e⟩ := h.2 t ht
  have off : ∀ (w : World) (o j : Nat) (v : Value), j ≠ o → (w.setCell ⟨g, o, none⟩ v).cell? ⟨g, j, none⟩ = w.cell? ⟨g, j, none⟩ := fun w o j v q => World.cell?_setCell_other _ _ _ _ (fun e => q (congrArg Addr.off e).symm)
  refine ⟨?_, ?_, by simpa using c, by simpa using e⟩
  · by_cases q : t = i
    · subst q
      rw [off _ _ _ _ (by omega), World.cell?_setCell_same _ _ _ a, getElem!_pos _ t (by simpa using ht), Array.getElem_setIfInBounds_self]
    · rw [off _ _ _ _ (by omega), off _ _ _ _ (by omega), a, getElem!_pos (d.setIfInBounds i x) t (by simpa using ht), Array.getElem_setIfInBounds_ne _ (Ne.symm q), getElem!_pos d t ht]
  · by_cases q : t = i
    · subst q
      rw [World.cell?_setCell_same _ _ _ ((off _ _ _ _ (by omega)).trans b), getElem!_pos _ t (by simpa using ht), Array.getElem_setIfInBounds_self]
    · rw [off _ _ _ _ (by omega), off _ _ _ _ (by omega), b, getElem!_pos (d.setIfInBounds i x) t (by simpa using ht), Array.getElem_setIfInBounds_ne _ (Ne.symm q), getElem!_pos d t ht]
theorem PRow.put2 {w : World} {g : Nat} {d : Array (PH n γ W0)} (h : PRow w g d) (i : Nat) (hi : i < d.size) (x : PH n γ W0) : PRow (w.setCells g (i * 2) (encP x)) g (d.setIfInBounds i x) := h.put i hi x
theorem PRow.store {w : World} {g : Nat} {d : Array (PH n γ W0)} (h : PRow w g d) (i : Nat) (hi : i < d.size) (x : PH n γ W0) : Sem.run Tryz.prog (storeCells ⟨g, i * 2, none⟩ (encP x) 0) w = .ok () (w.setCells g (i * 2) (encP x)) := by
  obtain ⟨a, b, c, e⟩ := h.2 i hi
  have hst := run_storeCells_cells (P := Tryz.prog) g (i * 2) (encP x) 0 w (fun j hj => ?_) (fun j hj => ?_) (fun v hv => ?_)
  · simpa using hst
  · match j, hj with
    | 0, _ => simp [a]
    | 1, _ => simp [b]
    | j + 2, hj => exact absurd hj (by simp [encP])
  · match j, hj with
    | 0, _ => simpa using c
    | 1, _ => simpa using e
    | j + 2, hj => exact absurd hj (by simp [encP])
  · simp only [encP, List.mem_cons, List.not_mem_nil, or_false] at hv
    rcases hv with rfl | rfl
    · exact x.k.one
    · exact x.u.one
theorem PRow.swap {w : World} {g : Nat} {d : Array (PH n γ W0)} (h : PRow w g d) (i j : Nat) (hi : i < d.size) (hj : j < d.size) :
    PRow ((w.setCells g (i * 2) (encP d[j]!)).setCells g (j * 2) (encP d[i]!)) g (swp d i j) :=
  (h.put2 i hi d[j]!).put2 j (by simpa using hj) d[i]!
theorem PRow.swapD {w : World} {g : Nat} {d : Array (PH n γ W0)} (h : PRow w g d) (i j : Nat) (hi : i < d.size) (hj : j < d.size) : PRow (swW w g i j d[i]!.k.v d[i]!.u.v d[j]!.k.v d[j]!.u.v) g (swp d i j) := (h.swap i j hi hj).drew
set_option maxRecDepth 100000 in
set_option maxHeartbeats 2000000 in
theorem swapRange_any (w : World) (g len cap a b m : Nat) (fv : Value) (d : Array (PH n γ W0)) (hd : d.size = len) (hrow : PRow w g d) (hl : len ≤ 4294967296) (hab : a + m ≤ b) (hb : b + m ≤ len) :
    Calls Tryz.prog 356 #[.slice (some ⟨g, 0, none⟩) len cap, .int .i64 a, .int .i64 b, .int .i64 m, fv] w fun e w' => e = .returned (.tuple #[]) ∧ ∃ d' : Array (PH n γ W0), d'.size = len ∧ PRow w' g d' ∧ Fr (· ≠ g) w w' ∧
      ∀ t, d'[t]! = if a ≤ t ∧ t < a + m then d[t + (b - a)]! else if b ≤ t ∧ t < b + m then d[t - (b - a)]! else d[t]! := by
  have H0 : Hid (PRow w g d) := hrow
  clear hrow
  have mo := follows
  go_enter Tryz.func356, Tryz.ntmps356
  go_wp2_with fail
  go_loopw [10] (fun s wr => ∃ (k : Nat) (e : Array (PH n γ W0)), k ≤ m ∧ s = .int .i64 k ∧ e.size = len ∧ Hid (PRow wr g e) ∧ Hid (Fr (· ≠ g) w wr) ∧ Hid (∀ t, e[t]! = if a ≤ t ∧ t < a + k then d[t + (b - a)]! else if b ≤ t ∧ t < b + k then d[t - (b - a)]! else d[t]!)) (fun s _ => m - (intOf s).toNat)
  case atStart => exact ⟨0, d, Nat.zero_le _, rfl, hd, H0, Fr.refl _ _, fun t => by rw [if_neg (by omega), if_neg (by omega)]⟩
  case round =>
    obtain ⟨k, e, hk, rfl, he, HR, HF, HE⟩ := hrel
    by_cases hlt : k < m
    · obtain ⟨p, hp⟩ : ∃ p, p = a + k := ⟨_, rfl⟩
      obtain ⟨q, hq⟩ : ∃ q, q = b + k := ⟨_, rfl⟩
      obtain ⟨x1, x2, x3, x4⟩ := HR.out.drew.2 p (by omega)
      obtain ⟨y1, y2, y3, y4⟩ := HR.out.drew.2 q (by omega)
      have ea : ((a : Int) + (k : Int)).toNat = p := by omega
      have pa : (0 : Int) ≤ (a : Int) + (k : Int) := by omega
      have ba : (a : Int) + (k : Int) < (len : Int) := by omega
      have ra : IntKind.i64.wrap ((a : Int) + (k : Int)) = (a : Int) + (k : Int) := by rw [IntKind.wrap_i64]; omega
      have ec : ((b : Int) + (k : Int)).toNat = q := by omega
      have pc : (0 : Int) ≤ (b : Int) + (k : Int) := by omega
      have bc : (b : Int) + (k : Int) < (len : Int) := by omega
      have rc : IntKind.i64.wrap ((b : Int) + (k : Int)) = (b : Int) + (k : Int) := by rw [IntKind.wrap_i64]; omega
      obtain ⟨_, _, z3, z4⟩ := HR.out.2 p (by omega)
      obtain ⟨_, _, r3, r4⟩ := HR.out.2 q (by omega)
      have s1 := store_one e[p]!.k.one
      have s2 := store_one e[p]!.u.one
      have s3 := store_one e[q]!.k.one
      have s4 := store_one e[q]!.u.one
      have SW : Hid (PRow (swW wr g p q e[p]!.k.v e[p]!.u.v e[q]!.k.v e[q]!.u.v) g (swp e p q)) := HR.out.swapD p q (by omega) (by omega)
      have SF : Hid (Fr (· ≠ g) w (swW wr g p q e[p]!.k.v e[p]!.u.v e[q]!.k.v e[q]!.u.v)) := HF.out.swapD _ _ _ _ _ _
      have SE : Hid (∀ t, (swp e p q)[t]! = if a ≤ t ∧ t < a + (k + 1) then d[t + (b - a)]! else if b ≤ t ∧ t < b + (k + 1) then d[t - (b - a)]! else d[t]!) := by
        rw [hp, hq]; exact swap_step hab hlt (by omega) HE.out
      have hsz : (swp e p q).size = len := by rw [swp_size]; exact he
      have hpq : p < q := by omega
      clear hp hq HR HF HE
      generalize swp e p q = e2 at SW SE hsz
      generalize e[p]! = zp at x1 x2 s1 s2 SW SF
      generalize e[q]! = zq at y1 y2 s3 s4 SW SF
      go_wp2_with fail
      go_big_region_o
      change Exit.inBlock _ _ _ _ (swW wr g p q zp.k.v zp.u.v zq.k.v zq.u.v)
      clear x1 x2 x3 x4 y1 y2 y3 y4 z3 z4 r3 r4 s1 s2 s3 s4
      generalize swW wr g p q zp.k.v zp.u.v zq.k.v zq.u.v = W1 at SW SF ⊢
      go_wp2_with fail
      go_roundw
      case rel => exact ⟨k + 1, e2, by omega, by go_num, hsz, SW, SF, SE⟩
      case measure => simp [intOf]; omega
    · obtain rfl : k = m := by omega
      go_wp2_with fail
      go_end0
      exact ⟨rfl, e, he, HR.out, HF.out, HE.out⟩
end
end Go.Proofs.YtbogejmmkohbkaaGreatDoor.Sx

namespace Go.Proofs.YtbogejmmkohbkaaGreatDoor.Sx
open Go.RowKit Go.Sort

section
variable {α : Type} [Inhabited α]
/-- m places from a on and m from b on are exchanged -/
def SwapP (d e : Array α) (a b m : Nat) : Prop := e.size = d.size ∧ ∀ t, e[t]! = if a ≤ t ∧ t < a + m then d[t + (b - a)]! else if b ≤ t ∧ t < b + m then d[t - (b - a)]! else d[t]!
theorem SwapP.list {d e : Array α} {P X M Y Q : List α} {m : Nat} (h : SwapP d e P.length (P.length + m + M.length) m) (hd : d.toList = P ++ (X ++ (M ++ (Y ++ Q)))) (hx : X.length = m) (hy : Y.length = m) : e.toList = P ++ (Y ++ (M ++ (X ++ Q))) := by
  have hs := congrArg List.length hd
  simp at hs
  refine ext_get (by rw [h.1]; simp; omega) fun t ht => ?_
  rw [h.2 t, at_list, at_list, at_list, hd]
  by_cases q1 : t < P.length
  · rw [if_neg (by omega), if_neg (by omega), List.getElem?_append_left q1, List.getElem?_append_left q1]
  · by_cases q2 : t < P.length + m
    · rw [if_pos (by omega)]
      congr 1
      rw [List.getElem?_append_right (by omega), List.getElem?_append_right (by omega), List.getElem?_append_right (by omega), List.getElem?_append_left (by omega), List.getElem?_append_right (by omega), List.getElem?_append_left (by omega)]
      congr 1; omega
    · rw [if_neg (by omega)]
      by_cases q3 : t < P.length + m + M.length
      · rw [if_neg (by omega)]
        congr 1
        rw [List.getElem?_append_right (by omega), List.getElem?_append_right (by omega), List.getElem?_append_left (by omega), List.getElem?_append_right (by omega), List.getElem?_append_right (by omega), List.getElem?_append_left (by omega)]
        congr 1; omega
      · by_cases q4 : t < P.length + m + M.length + m
        · rw [if_pos (by omega)]
          congr 1
          rw [List.getElem?_append_right (by omega), List.getElem?_append_left (by omega), List.getElem?_append_right (by omega), List.getElem?_append_right (by omega), List.getElem?_append_right (by omega), List.getElem?_append_left (by omega)]
          congr 1; omega
        · rw [if_neg (by omega)]
          congr 1
          rw [List.getElem?_append_right (by omega), List.getElem?_append_right (by omega), List.getElem?_append_right (by omega), List.getElem?_append_right (by omega), List.getElem?_append_right (by omega), List.getElem?_append_right (by omega), List.getElem?_append_right (by omega), List.getElem?_append_right (by omega)]
          congr 1; omega

/-- what is left to be exchanged -/
def RInv (e : Array α) (tg : List α) (i j m : Nat) : Prop := ∃ P X Y Q : List α, e.toList = P ++ (X ++ (Y ++ Q)) ∧ tg = P ++ (Y ++ (X ++ Q)) ∧ P.length + i = m ∧ X.length = i ∧ Y.length = j
theorem RInv.gt {e e' : Array α} {tg : List α} {i j m : Nat} (h : RInv e tg i j m) (hij : j < i) (hs : SwapP e e' (m - i) m j) : RInv e' tg (i - j) j m := by
  obtain ⟨P, X, Y, Q, h1, h2, h3, h4, h5⟩ := h
  obtain ⟨X1, X2, rfl, l1, l2⟩ : ∃ X1 X2, X = X1 ++ X2 ∧ X1.length = j ∧ X2.length = i - j := ⟨X.take j, X.drop j, (List.take_append_drop j X).symm, by simp; omega, by simp; omega⟩
  have := SwapP.list (P := P) (X := X1) (M := X2) (Y := Y) (Q := Q) (m := j) (by rw [l2, show P.length = m - i from by omega, show m - i + j + (i - j) = m from by omega]; exact hs) (by rw [h1]; simp) l1 h5
  exact ⟨P ++ Y, X2, X1, Q, by rw [this]; simp, by rw [h2]; simp, by simp; omega, l2, l1⟩
theorem RInv.lt {e e' : Array α} {tg : List α} {i j m : Nat} (h : RInv e tg i j m) (hij : i < j) (hs : SwapP e e' (m - i) (m + j - i) i) : RInv e' tg i (j - i) m := by
  obtain ⟨P, X, Y, Q, h1, h2, h3, h4, h5⟩ := h
  obtain ⟨Y1, Y2, rfl, l1, l2⟩ : ∃ Y1 Y2, Y = Y1 ++ Y2 ∧ Y1.length = j - i ∧ Y2.length = i := ⟨Y.take (j - i), Y.drop (j - i), (List.take_append_drop (j - i) Y).symm, by simp; omega, by simp; omega⟩
  have := SwapP.list (P := P) (X := X) (M := Y1) (Y := Y2) (Q := Q) (m := i) (by rw [l1, show P.length = m - i from by omega, show m - i + i + (j - i) = m + j - i from by omega]; exact hs) (by rw [h1]; simp) h4 l2
  exact ⟨P, Y2, Y1, X ++ Q, this, by rw [h2]; simp, h3, l2, l1⟩
theorem RInv.eq {e e' : Array α} {tg : List α} {i m : Nat} (h : RInv e tg i i m) (hs : SwapP e e' (m - i) m i) : e'.toList = tg := by
  obtain ⟨P, X, Y, Q, h1, h2, h3, h4, h5⟩ := h
  have := SwapP.list (P := P) (X := X) (M := []) (Y := Y) (Q := Q) (m := i) (by rw [show P.length = m - i from by omega, show m - i + i + ([] : List α).length = m from by simp; omega]; exact hs) (by rw [h1]; simp) h4 h5
  rw [this, h2]; simp
end

section
variable {n γ : Nat} {W0 : World} [Inhabited (PH n γ W0)]
set_option maxRecDepth 100000 in
set_option maxHeartbeats 2000000 in
theorem rotate_any (w : World) (g len cap a m b : Nat) (fv : Value) (d : Array (PH n γ W0)) (hd : d.size = len) (hrow : PRow w g d) (hl : len ≤ 4294967296) (h1 : a < m) (h2 : m < b) (h3 : b ≤ len) :
    Calls Tryz.prog 353 #[.slice (some ⟨g, 0, none⟩) len cap, .int .i64 a, .int .i64 m, .int .i64 b, fv] w fun e w' => e = .returned (.tuple #[]) ∧ ∃ d' : Array (PH n γ W0), PRow w' g d' ∧ Fr (· ≠ g) w w' ∧ RotL d d' a m b := by
  obtain ⟨P, A, B, Q, c1, c2, c3, c4⟩ := cut4 d a m b (by omega) (by omega) (by omega)
  have HI : Hid (RInv d (P ++ (B ++ (A ++ Q))) (m - a) (b - m) m) := ⟨P, A, B, Q, c1, rfl, by omega, by omega, by omega⟩
  have HT : Hid (∀ e : Array (PH n γ W0), e.toList = P ++ (B ++ (A ++ Q)) → RotL d e a m b) := fun e he => ⟨P, A, B, Q, c1, he, c2, c3, c4⟩
  clear c1 c2 c3 c4
  generalize P ++ (B ++ (A ++ Q)) = tg at HI HT
  have H0 : Hid (PRow w g d) := hrow
  have HS : Hid (∀ (W : World) (e : Array (PH n γ W0)) (p q k : Nat), e.size = len → PRow W g e → p + k ≤ q → q + k ≤ len → _) := fun W e p q k he hr hpq hq => swapRange_any W g len cap p q k fv e he hr hl hpq hq
  clear hrow
  go_enter Tryz.func353, Tryz.ntmps353
  go_wp2_with fail
  go_loopw [10, 11] (fun s t wr => ∃ (i j : Nat) (e : Array (PH n γ W0)), s = .int .i64 i ∧ t = .int .i64 j ∧ 0 < i ∧ 0 < j ∧ i ≤ m ∧ m + j ≤ b ∧ e.size = len ∧ Hid (RInv e tg i j m) ∧ Hid (PRow wr g e) ∧ Hid (Fr (· ≠ g) w wr)) (fun s t _ => (intOf s).toNat + (intOf t).toNat)
  case atStart => exact ⟨m - a, b - m, d, by go_num, by go_num, by omega, by omega, by omega, by omega, hd, HI, H0, Fr.refl _ _⟩
  case round =>
    obtain ⟨i, j, e, rfl, rfl, hi, hj, him, hjb, he, HV, HR, HF⟩ := hrel
    rcases (show j < i ∨ i < j ∨ i = j from by omega) with q | q | q
    · have b1 : ((i : Int) != (j : Int)) = true := by rw [bne_iff_ne]; omega
      have HC : Hid (Calls Tryz.prog 356 #[.slice (some ⟨g, 0, none⟩) len cap, .int .i64 ((m - i : Nat) : Int), .int .i64 (m : Int), .int .i64 (j : Int), fv] wr _) := HS.out wr e (m - i) m j he HR.out (by omega) (by omega)
      rw [show ((m - i : Nat) : Int) = (m : Int) - (i : Int) from by omega] at HC
      go_wp2_with fail
      refine HC.out.mono ?_
      rintro x w1 ⟨rfl, e1, he1, hr1, hf1, hs1⟩
      have V1 : Hid (RInv e1 tg (i - j) j m) := HV.out.gt q ⟨he1.trans he.symm, hs1⟩
      have R1 : Hid (PRow w1 g e1) := hr1
      have F1 : Hid (Fr (· ≠ g) w w1) := HF.out.trans hf1
      clear hr1 hf1 hs1 HC HV HR HF
      go_wp2_with fail
      go_roundw
      case rel => exact ⟨i - j, j, e1, by go_num, rfl, by omega, hj, by omega, hjb, he1, V1, R1, F1⟩
      case measure => simp [intOf]; omega
    · have b1 : ((i : Int) != (j : Int)) = true := by rw [bne_iff_ne]; omega
      have b2 : ¬ (j : Int) < (i : Int) := by omega
      have HC : Hid (Calls Tryz.prog 356 #[.slice (some ⟨g, 0, none⟩) len cap, .int .i64 ((m - i : Nat) : Int), .int .i64 ((m + j - i : Nat) : Int), .int .i64 (i : Int), fv] wr _) := HS.out wr e (m - i) (m + j - i) i he HR.out (by omega) (by omega)
      rw [show ((m - i : Nat) : Int) = (m : Int) - (i : Int) from by omega, show ((m + j - i : Nat) : Int) = (m : Int) + (j : Int) - (i : Int) from by omega] at HC
      go_wp2_with fail
      refine HC.out.mono ?_
      rintro x w1 ⟨rfl, e1, he1, hr1, hf1, hs1⟩
      have V1 : Hid (RInv e1 tg i (j - i) m) := HV.out.lt q ⟨he1.trans he.symm, hs1⟩
      have R1 : Hid (PRow w1 g e1) := hr1
      have F1 : Hid (Fr (· ≠ g) w w1) := HF.out.trans hf1
      clear hr1 hf1 hs1 HC HV HR HF
      go_wp2_with fail
      go_roundw
      case rel => exact ⟨i, j - i, e1, rfl, by go_num, hi, by omega, him, by omega, he1, V1, R1, F1⟩
      case measure => simp [intOf]; omega
    · subst q
      have b1 : ((i : Int) != (i : Int)) = false := by simp
      have HC : Hid (Calls Tryz.prog 356 #[.slice (some ⟨g, 0, none⟩) len cap, .int .i64 ((m - i : Nat) : Int), .int .i64 (m : Int), .int .i64 (i : Int), fv] wr _) := HS.out wr e (m - i) m i he HR.out (by omega) (by omega)
      rw [show ((m - i : Nat) : Int) = (m : Int) - (i : Int) from by omega] at HC
      go_wp2_with fail
      refine HC.out.mono ?_
      rintro x w1 ⟨rfl, e1, he1, hr1, hf1, hs1⟩
      have V1 : Hid (e1.toList = tg) := HV.out.eq ⟨he1.trans he.symm, hs1⟩
      have R1 : Hid (PRow w1 g e1) := hr1
      have F1 : Hid (Fr (· ≠ g) w w1) := HF.out.trans hf1
      clear hr1 hf1 hs1 HC HV HR HF
      go_wp2_with fail
      go_end0
      exact ⟨rfl, e1, R1.out, F1.out, HT.out e1 V1.out⟩
end
end Go.Proofs.YtbogejmmkohbkaaGreatDoor.Sx

namespace Go.Proofs.YtbogejmmkohbkaaGreatDoor.Sx
open Go.RowKit Go.Sort

set_option maxRecDepth 100000 in
theorem cmpP_any (n : Nat) (w : World) (a b : AV n) (va vb ua ub : Value) (ha : Rep w n a va) (hb : Rep w n b vb) (oa : ua.oneCell' = true) (ob : ub.oneCell' = true) :
    Calls Tryz.prog 303 #[.agg #[va, ua], .agg #[vb, ub]] w fun e w' => e = .returned (.int .i64 (cmpV n a b)) ∧ Grew w w' := by
  have s1 := store_one ha.one
  have s2 := store_one hb.one
  have s3 := store_one oa
  have s4 := store_one ob
  have HC : Hid (∀ W : World, Grew w W → _) := fun (W : World) (hW : Grew w W) => compare_any n W a b va vb (ha.grew hW) (hb.grew hW)
  clear ha hb
  go_enter Tryz.func303, Tryz.ntmps303
  go_wp2_with (go_at_call 17; refine (HC.out _ (((Grew.refl w).alloc _).alloc _)).mono ?_; rintro e w' ⟨rfl, hg⟩; have HG : Hid (Grew w w') := (((Grew.refl w).alloc _).alloc _).trans hg; clear hg)
  go_ret
  exact ⟨rfl, by assumption⟩
set_option maxRecDepth 100000 in
theorem sameP_any (n : Nat) (w : World) (a b : AV n) (va vb ua ub : Value) (ha : Rep w n a va) (hb : Rep w n b vb) (oa : ua.oneCell' = true) (ob : ub.oneCell' = true) :
    Calls Tryz.prog 305 #[.agg #[va, ua], .agg #[vb, ub]] w fun e w' => e = .returned (.bool (cmpV n a b == 0)) ∧ Grew w w' := by
  have s1 := store_one ha.one
  have s2 := store_one hb.one
  have s3 := store_one oa
  have s4 := store_one ob
  have hc := fun (W : World) (hW : Grew w W) => same_any n W a b va vb (ha.grew hW) (hb.grew hW)
  generalize (cmpV n a b == 0) = B at hc ⊢
  have HC : Hid (∀ W : World, Grew w W → _) := hc
  clear ha hb hc
  go_enter Tryz.func305, Tryz.ntmps305
  go_wp2_with (go_at_call 194; refine (HC.out _ (((Grew.refl w).alloc _).alloc _)).mono ?_; rintro e w' ⟨rfl, hg⟩; have HG : Hid (Grew w w') := (((Grew.refl w).alloc _).alloc _).trans hg; clear hg)
  go_ret
  exact ⟨rfl, by assumption⟩

/-- the comparison, wherever the sort has come to -/
theorem cmpP_held {n g : Nat} {W0 : World} (W : World) (a b : PH n g W0) (hW : Fr (· ≠ g) W0 W) : Calls Tryz.prog 303 #[.agg #[a.k.v, a.u.v], .agg #[b.k.v, b.u.v]] W fun e w' => e = .returned (.int .i64 (cP a b)) ∧ Grew W w' :=
  cmpP_any n W a.k.x b.k.x a.k.v b.k.v a.u.v b.u.v ((a.k.h.keep hW).rep _ _ _) ((b.k.h.keep hW).rep _ _ _) a.u.one b.u.one

section
variable {n g : Nat} {W0 : World} [Inhabited (PH n g W0)]
theorem PRow.grown {w : World} {d : Array (PH n g W0)} (h : PRow w g d) (i : Nat) (hi : i < d.size) :
    (∀ q os, (grow (w.drewN q) os).cell? ⟨g, i * 2, none⟩ = some d[i]!.k.v) ∧ (∀ q os, (grow (w.drewN q) os).cell? ⟨g, i * 2 + 1, none⟩ = some d[i]!.u.v) := by
  obtain ⟨a, b, _, _⟩ := h.2 i hi
  exact ⟨cell_grown (w := w) (a := ⟨g, i * 2, none⟩) h.1 a, cell_grown (w := w) (a := ⟨g, i * 2 + 1, none⟩) h.1 b⟩

set_option maxRecDepth 100000 in
set_option maxHeartbeats 4000000 in
theorem sym_first (w : World) (len cap a b : Nat) (d : Array (PH n g W0)) (hW : Fr (· ≠ g) W0 w) (hd : d.size = len) (hrow : PRow w g d) (hl : len ≤ 4294967296) (h2 : a + 1 < b) (h3 : b ≤ len) (hs : Srt cP d (a + 1) b) :
    Calls Tryz.prog 341 #[.slice (some ⟨g, 0, none⟩) len cap, .int .i64 a, .int .i64 ((a + 1 : Nat) : Int), .int .i64 b, .func (.func 303) #[] #[]] w fun e w' => e = .returned (.tuple #[]) ∧ ∃ d' : Array (PH n g W0), Stb cP a b d d' ∧ Srt cP d' a b ∧ PRow w' g d' ∧ Fr (· ≠ g) w w' := by
  have H0 : Hid (PRow w g d) := hrow
  have HB : Hid (Fr (· ≠ g) W0 w) := hW
  have HS : Hid (Srt cP d (a + 1) b) := hs
  clear hrow hW hs
  have mo := follows
  obtain ⟨za, hza⟩ : ∃ z, z = d[a]! := ⟨_, rfl⟩
  have HZA : Hid (za = d[a]!) := hza
  obtain ⟨m, hm⟩ : ∃ m, m = a + 1 := ⟨_, rfl⟩
  rw [← hm]
  have b1 : ((m : Int) - (a : Int) == 1) = true := by simp; omega
  have hma : a < m := by omega
  have HM : Hid (m = a + 1) := hm
  have hmb : m < b := by omega
  clear hm hza
  go_enter Tryz.func341, Tryz.ntmps341
  go_wp2_with fail
  go_loopw [10, 11] (fun s t wr => ∃ (i j : Nat), s = .int .i64 i ∧ t = .int .i64 j ∧ m ≤ i ∧ i ≤ j ∧ j ≤ b ∧ Hid (∀ t, m ≤ t → t < i → cP d[t]! za < 0) ∧ Hid (∀ t, j ≤ t → t < b → 0 ≤ cP d[t]! za) ∧ Hid (Grew w wr)) (fun s t _ => (intOf t).toNat - (intOf s).toNat)
  case atStart => exact ⟨m, b, rfl, rfl, Nat.le_refl _, by omega, Nat.le_refl _, fun t h1 h2 => by omega, fun t h1 h2 => by omega, Grew.refl w⟩
  case round =>
    obtain ⟨i, j, rfl, rfl, hi, hij, hj, HLo, HHi, HG⟩ := hrel
    by_cases hlt : i < j
    · obtain ⟨h, hh⟩ : ∃ h, h = (i + j) / 2 := ⟨_, rfl⟩
      obtain ⟨x1, x2⟩ := (H0.out.fr (P := fun _ => True) (Fr.grew HG.out) trivial).grown h (by omega)
      obtain ⟨y1, y2⟩ := (H0.out.fr (P := fun _ => True) (Fr.grew HG.out) trivial).grown a (by omega)
      rw [← HZA.out] at y1 y2
      have ea : (((i : Int) + (j : Int)) / 2).toNat = h := by omega
      have pa : (0 : Int) ≤ ((i : Int) + (j : Int)) / 2 := by omega
      have ba : ((i : Int) + (j : Int)) / 2 < (len : Int) := by omega
      have ra : IntKind.i64.wrap (((i : Int) + (j : Int)) / 2) = ((i : Int) + (j : Int)) / 2 := by rw [IntKind.wrap_i64]; omega
      have ec : ((a : Int)).toNat = a := by omega
      have pc : (0 : Int) ≤ (a : Int) := by omega
      have bc : (a : Int) < (len : Int) := by omega
      have rc : IntKind.i64.wrap ((a : Int)) = (a : Int) := by rw [IntKind.wrap_i64]; omega
      have HC : Hid (∀ q os, Calls Tryz.prog 303 #[.agg #[d[h]!.k.v, d[h]!.u.v], .agg #[za.k.v, za.u.v]] (grow (wr.drewN q) os) fun e w' => e = .returned (.int .i64 (cP d[h]! za)) ∧ Grew (grow (wr.drewN q) os) w') := fun q os => cmpP_held _ _ _ (HB.out.trans (Fr.grew (HG.out.grown q os)))
      have HLt : Hid (cP d[h]! za < 0 → ∀ t, m ≤ t → t < h + 1 → cP d[t]! za < 0) := by
        intro q t q1 q2
        have := HM.out
        exact le_lt (ordP n g W0) (HS.out.le (ordP n g W0) (by omega) (show t ≤ h by omega) (by omega)) q
      have HGe : Hid (0 ≤ cP d[h]! za → ∀ t, h ≤ t → t < b → 0 ≤ cP d[t]! za) := by
        intro q t q1 q2
        have := HM.out
        by_cases q3 : cP d[t]! za < 0
        · have := le_lt (ordP n g W0) (HS.out.le (ordP n g W0) (by omega) q1 q2) q3
          omega
        · omega
      generalize cP d[h]! za = cv at HC HLt HGe
      generalize d[h]! = zh at x1 x2 HC
      have hh1 : i ≤ h := by omega
      have hh2 : h < j := by omega
      have HH : Hid (h = (i + j) / 2) := hh
      clear hh
      by_cases hc : cv < 0
      · have hcb : decide (cv < 0) = true := by simp [hc]
        go_wp2_with fail
        go_quiet_grown (first | (go_at_call 303; refine Calls.grown_of (HC.out _ _)))
        have G1 : Hid (Grew w (grow (wr.drewN nq) osq)) := HG.out.grown _ _
        clear x1 x2 y1 y2 HG HC ea pa ba ra ec pc bc rc
        generalize grow (wr.drewN nq) osq = W1 at G1 ⊢
        clear nq osq
        go_wp2_with fail
        go_roundw
        case rel => exact ⟨h + 1, j, by rw [show ((i : Int) + (j : Int)) / 2 + 1 = ((h + 1 : Nat) : Int) from by have := HH.out; omega], rfl, by omega, by omega, hj, HLt.out hc, HHi, G1⟩
        case measure => have := HH.out; simp [intOf]; omega
      · have hcb : decide (cv < 0) = false := by simp [hc]
        go_wp2_with fail
        go_quiet_grown (first | (go_at_call 303; refine Calls.grown_of (HC.out _ _)))
        have G1 : Hid (Grew w (grow (wr.drewN nq) osq)) := HG.out.grown _ _
        clear x1 x2 y1 y2 HG HC ea pa ba ra ec pc bc rc
        generalize grow (wr.drewN nq) osq = W1 at G1 ⊢
        clear nq osq
        go_wp2_with fail
        go_roundw
        case rel => exact ⟨i, h, rfl, by rw [show ((i : Int) + (j : Int)) / 2 = ((h : Nat) : Int) from by have := HH.out; omega], hi, by omega, by omega, HLo, HGe.out (by omega), G1⟩
        case measure => have := HH.out; simp [intOf]; omega
    · obtain rfl : i = j := by omega
      have HR1 : Hid (PRow wr g d) := H0.out.fr (P := fun _ => True) (Fr.grew HG.out) trivial
      have HF1 : Hid (Fr (· ≠ g) w wr) := Fr.grew HG.out
      have HRT : Hid (RotL d d a (a + 1) (a + 1)) := RotL.same_r d a (a + 1) (by omega) (by omega)
      go_wp2_with fail
      go_loopw [13] (fun s wr => ∃ (k : Nat) (e : Array (PH n g W0)), s = .int .i64 k ∧ a ≤ k ∧ k + 1 ≤ i ∧ Hid (RotL d e a (a + 1) (k + 1)) ∧ Hid (PRow wr g e) ∧ Hid (Fr (· ≠ g) w wr)) (fun s _ => i - (intOf s).toNat)
      case atStart => exact ⟨a, d, rfl, Nat.le_refl _, by omega, HRT, HR1, HF1⟩
      case round =>
        clear HR1 HF1 HRT
        obtain ⟨k, e, rfl, hak, hki, HRT, HR, HF⟩ := hrel
        by_cases hlt2 : k + 1 < i
        · obtain ⟨q, hq⟩ : ∃ q, q = k + 1 := ⟨_, rfl⟩
          have hes : e.size = len := HRT.out.size.trans hd
          obtain ⟨x1, x2, x3, x4⟩ := HR.out.drew.2 k (by omega)
          obtain ⟨y1, y2, y3, y4⟩ := HR.out.drew.2 q (by omega)
          obtain ⟨_, _, z3, z4⟩ := HR.out.2 k (by omega)
          obtain ⟨_, _, r3, r4⟩ := HR.out.2 q (by omega)
          have ea : ((k : Int)).toNat = k := by omega
          have pa : (0 : Int) ≤ (k : Int) := by omega
          have ba : (k : Int) < (len : Int) := by omega
          have ra : IntKind.i64.wrap ((k : Int)) = (k : Int) := by rw [IntKind.wrap_i64]; omega
          have ec : ((k : Int) + 1).toNat = q := by omega
          have pc : (0 : Int) ≤ (k : Int) + 1 := by omega
          have bc : (k : Int) + 1 < (len : Int) := by omega
          have rc : IntKind.i64.wrap ((k : Int) + 1) = (k : Int) + 1 := by rw [IntKind.wrap_i64]; omega
          have lt2 : (k : Int) < (i : Int) - 1 := by omega
          have s1 := store_one e[k]!.k.one
          have s2 := store_one e[k]!.u.one
          have s3 := store_one e[q]!.k.one
          have s4 := store_one e[q]!.u.one
          have SW : Hid (PRow (swW wr g k q e[k]!.k.v e[k]!.u.v e[q]!.k.v e[q]!.u.v) g (swp e k q)) := HR.out.swapD k q (by omega) (by omega)
          have SF : Hid (Fr (· ≠ g) w (swW wr g k q e[k]!.k.v e[k]!.u.v e[q]!.k.v e[q]!.u.v)) := HF.out.swapD _ _ _ _ _ _
          have SR : Hid (RotL d (swp e k q) a (a + 1) (k + 2)) := by rw [hq]; exact HRT.out.up (by omega)
          have hkq : k < q := by omega
          clear hq HR HF HRT hes
          generalize swp e k q = e2 at SW SR
          generalize e[k]! = zp at x1 x2 s1 s2 SW SF
          generalize e[q]! = zq at y1 y2 s3 s4 SW SF
          go_wp2_with fail
          go_big_region_o
          change Exit.inBlock _ _ _ _ (swW wr g k q zp.k.v zp.u.v zq.k.v zq.u.v)
          clear x1 x2 x3 x4 y1 y2 y3 y4 z3 z4 r3 r4 s1 s2 s3 s4
          generalize swW wr g k q zp.k.v zp.u.v zq.k.v zq.u.v = W1 at SW SF ⊢
          go_wp2_with fail
          go_roundw
          case rel => exact ⟨k + 1, e2, by go_num, by omega, by omega, SR, SW, SF⟩
          case measure => simp [intOf]; omega
        · have hki2 : k + 1 = i := by omega
          have HFin : Hid (Stb cP a b d e ∧ Srt cP e a b) := by
            have hr := HRT.out
            rw [hki2] at hr
            have := HM.out
            have hz := HZA.out
            exact merge_first (ordP n g W0) HS.out (by omega) hj (fun t q1 q2 => by rw [← hz]; exact HLo.out t (by omega) q2) (fun t q1 q2 => by rw [← hz]; have := HHi.out t q1 q2; omega) hr
          have lt2 : ¬ (k : Int) < (i : Int) - 1 := by omega
          clear hki2
          go_wp2_with fail
          refine bodyPost_ret (results_none rfl _ _ _) rfl ?_
          exact ⟨rfl, e, HFin.out.1, HFin.out.2, HR.out, HF.out⟩
end
end Go.Proofs.YtbogejmmkohbkaaGreatDoor.Sx
