/- slices.SortStableFunc of literals: ranges changed round, rotated. -/
import Derived.Test.YtbicefgjompnoaaDoorF04
import Derived.Test.YtbicefgjompnoaaDoorF06
import Derived.Test.YtbicefgjompnoaaDoorF14
import Derived.Test.YtbicefgjompnoaaDoorF29
import Derived.Test.YtbicefgjompnoaaDoorF30
import Derived.Test.YtbicefgjompnoaaDoorF31
import Derived.Test.YtbicefgjompnoaaDoorF32
import Derived.Outline
import Derived.Deep.QuietTactic
import Derived.Shelf.SlSortCmp.QuietGrown
import Derived.Deep.Cut
import Derived.Deep.CutRange
import Derived.Deep.LoopGhost
import Derived.BigQuiet
namespace Go.Proofs.YtbicefgjompnoaaDoor.Sx
open Go.RowKit Go.Sort

theorem swap_step {α : Type} [Inhabited α] {d e : Array α} {a b m k : Nat} (hab : a + m ≤ b) (hk : k < m) (hb : b + m ≤ e.size) (HE : ∀ t, e[t]! = if a ≤ t ∧ t < a + k then d[t + (b - a)]! else if b ≤ t ∧ t < b + k then d[t - (b - a)]! else d[t]!) :
    ∀ t, (swp e (a + k) (b + k))[t]! = if a ≤ t ∧ t < a + (k + 1) then d[t + (b - a)]! else if b ≤ t ∧ t < b + (k + 1) then d[t - (b - a)]! else d[t]! := by
  intro t
  rw [swp_get e (by omega) (by omega)]
  have e1 : e[a + k]! = d[a + k]! := by rw [HE, if_neg (by omega), if_neg (by omega)]
  have e2 : e[b + k]! = d[b + k]! := by rw [HE, if_neg (by omega), if_neg (by omega)]
  by_cases q1 : t = b + k
  · subst q1
    rw [if_pos rfl, if_neg (by omega), if_pos (by omega), e1, show b + k - (b - a) = a + k from by omega]
  · rw [if_neg q1]
    by_cases q2 : t = a + k
    · subst q2
      rw [if_pos rfl, if_pos (by omega), e2, show a + k + (b - a) = b + k from by omega]
    · rw [if_neg q2, HE]
      by_cases q3 : a ≤ t ∧ t < a + k
      · rw [if_pos q3, if_pos (by omega)]
      · rw [if_neg q3]
        by_cases q4 : b ≤ t ∧ t < b + k
        · rw [if_pos q4, if_neg (by omega), if_pos (by omega)]
        · rw [if_neg q4, if_neg (by omega), if_neg (by omega)]

section
variable {α : Type} [Inhabited α]
def SwapP (d e : Array α) (a b m : Nat) : Prop := e.size = d.size ∧ ∀ t, e[t]! = if a ≤ t ∧ t < a + m then d[t + (b - a)]! else if b ≤ t ∧ t < b + m then d[t - (b - a)]! else d[t]!
theorem SwapP.list {d e : Array α} {P X M Y Q : List α} {m : Nat} (h : SwapP d e P.length (P.length + m + M.length) m) (hd : d.toList = P ++ (X ++ (M ++ (Y ++ Q)))) (hx : X.length = m) (hy : Y.length = m) : e.toList = P ++ (Y ++ (M ++ (X ++ Q))) := by
  have hs := congrArg List.length hd
  simp at hs
  refine ext_get (by rw [h.1]; simp; omega) fun t ht => ?_
  rw [h.2 t, at_list, at_list, at_list, hd]
  by_cases q1 : t < P.length
  · rw [if_neg (by omega), if_neg (by omega), List.getElem?_append_left q1, List.getElem?_append_left q1]
  · by_cases q2 : t < P.length + m
    · rw [if_pos (by omega)]
      congr 1
      rw [List.getElem?_append_right (by omega), List.getElem?_append_right (by omega), List.getElem?_append_right (by omega), List.getElem?_append_left (by omega), List.getElem?_append_right (by omega), List.getElem?_append_left (by omega)]
      congr 1; omega
    · rw [if_neg (by omega)]
      by_cases q3 : t < P.length + m + M.length
      · rw [if_neg (by omega)]
        congr 1
        rw [List.getElem?_append_right (by omega), List.getElem?_append_right (by omega), List.getElem?_append_left (by omega), List.getElem?_append_right (by omega), List.getElem?_append_right (by omega), List.getElem?_append_left (by omega)]
        congr 1; omega
      · by_cases q4 : t < P.length + m + M.length + m
        · rw [if_pos (by omega)]
          congr 1
          rw [List.getElem?_append_right (by omega), List.getElem?_append_left (by omega), List.getElem?_append_right (by omega), List.getElem?_append_right (by omega), List.getElem?_append_right (by omega), List.getElem?_append_left (by omega)]
          congr 1; omega
        · rw [if_neg (by omega)]
          congr 1
          rw [List.getElem?_append_right (by omega), List.getElem?_append_right (by omega), List.getElem?_append_right (by omega), List.getElem?_append_right (by omega), List.getElem?_append_right (by omega), List.getElem?_append_right (by omega), List.getElem?_append_right (by omega), List.getElem?_append_right (by omega)]
          congr 1; omega

/-- what is left to be exchanged -/
def RInv (e : Array α) (tg : List α) (i j m : Nat) : Prop := ∃ P X Y Q : List α, e.toList = P ++ (X ++ (Y ++ Q)) ∧ tg = P ++ (Y ++ (X ++ Q)) ∧ P.length + i = m ∧ X.length = i ∧ Y.length = j
theorem RInv.gt {e e' : Array α} {tg : List α} {i j m : Nat} (h : RInv e tg i j m) (hij : j < i) (hs : SwapP e e' (m - i) m j) : RInv e' tg (i - j) j m := by
  obtain ⟨P, X, Y, Q, h1, h2, h3, h4, h5⟩ := h
  obtain ⟨X1, X2, rfl, l1, l2⟩ : ∃ X1 X2, X = X1 ++ X2 ∧ X1.length = j ∧ X2.length = i - j := ⟨_, _, (List.take_append_drop j X).symm, by simp; omega, by simp; omega⟩
  have := SwapP.list (P := P) (Q := Q) (by rw [l2, show P.length = m - i from by omega, show m - i + j + (i - j) = m from by omega]; exact hs) (by rw [h1]; simp) l1 h5
  exact ⟨P ++ Y, X2, X1, Q, by rw [this]; simp, by rw [h2]; simp, by simp; omega, l2, l1⟩
theorem RInv.lt {e e' : Array α} {tg : List α} {i j m : Nat} (h : RInv e tg i j m) (hij : i < j) (hs : SwapP e e' (m - i) (m + j - i) i) : RInv e' tg i (j - i) m := by
  obtain ⟨P, X, Y, Q, h1, h2, h3, h4, h5⟩ := h
  obtain ⟨Y1, Y2, rfl, l1, l2⟩ : ∃ Y1 Y2, Y = Y1 ++ Y2 ∧ Y1.length = j - i ∧ Y2.length = i := ⟨_, _, (List.take_append_drop (j - i) Y).symm, by simp; omega, by simp; omega⟩
  have := SwapP.list (P := P) (Q := Q) (by rw [l1, show P.length = m - i from by omega, show m - i + i + (j - i) = m + j - i from by omega]; exact hs) (by rw [h1]; simp) h4 l2
  exact ⟨P, Y2, Y1, X ++ Q, this, by rw [h2]; simp, h3, l2, l1⟩
theorem RInv.eq {e e' : Array α} {tg : List α} {i m : Nat} (h : RInv e tg i i m) (hs : SwapP e e' (m - i) m i) : e'.toList = tg := by
  obtain ⟨P, X, Y, Q, h1, h2, h3, h4, h5⟩ := h
  have := SwapP.list (M := []) (Q := Q) (by rw [show P.length = m - i from by omega, show m - i + i + ([] : List α).length = m from by simp; omega]; exact hs) (by rw [h1]; simp) h4 h5
  rw [this, h2]; simp
end

end Go.Proofs.YtbicefgjompnoaaDoor.Sx
/- slices.SortStableFunc of literals: one before many goes to its place. -/
namespace Go.Proofs.YtbicefgjompnoaaDoor.Sx
open Go.RowKit Go.Sort

/-- by truth, the truest first -/
def cS (tr : Nat → Int) (x y : Nat) : Int := Int.sign (tr y - tr x)
theorem cS_lt (tr : Nat → Int) (x y : Nat) : cS tr x y < 0 ↔ tr y - tr x < 0 := Int.sign_neg_iff
theorem ordS (tr : Nat → Int) : Ord3 (cS tr) where
  rng a b := by
    unfold cS
    rcases Int.lt_trichotomy (tr b - tr a) 0 with h | h | h
    · exact .inl (Int.sign_eq_neg_one_of_neg h)
    · rw [h]; exact .inr (.inl rfl)
    · exact .inr (.inr (Int.sign_eq_one_of_pos h))
  anti a b := by unfold cS; rw [← Int.sign_neg]; congr 1; omega
  trans a b d h1 h2 := by
    have n1 : ¬ 0 < tr b - tr a := fun h => by rw [cS, Int.sign_eq_one_of_pos h] at h1; omega
    have n2 : ¬ 0 < tr d - tr b := fun h => by rw [cS, Int.sign_eq_one_of_pos h] at h2; omega
    unfold cS
    rcases Int.lt_trichotomy (tr d - tr a) 0 with h | h | h
    · rw [Int.sign_eq_neg_one_of_neg h]; omega
    · rw [h]; exact Int.le_refl _
    · omega
theorem Grew.grown {a b : World} (h : Grew a b) (n : Nat) (os : Array Obj) : Grew a (grow (b.drewN n) os) := h.trans ⟨n, os, rfl⟩
theorem LRow.grown {w : World} {g : Nat} {d : Array Nat} (h : LRow w g d) (i : Nat) (hi : i < d.size) (q : Nat) (os : Array Obj) : (grow (w.drewN q) os).cell? ⟨g, i, none⟩ = some (.int .i32 (d[i]! : Int)) := cell_grown (a := ⟨g, i, none⟩) (show g < w.heap.size from block_lt h) (h.cell hi) q os

end Go.Proofs.YtbicefgjompnoaaDoor.Sx
/- slices.SortStableFunc of literals: one behind many goes to its place. -/
namespace Go.Proofs.YtbicefgjompnoaaDoor.Sx
open Go.RowKit Go.Sort

end Go.Proofs.YtbicefgjompnoaaDoor.Sx
/- slices.SortStableFunc of literals: two sorted neighbours are merged. -/
namespace Go.Proofs.YtbicefgjompnoaaDoor.Sx
open Go.RowKit Go.Sort

theorem RotL.allK {K s m t len : Nat} {d e : Array Nat} (h : RotL d e s m t) (ht : t ≤ len) (hK : ∀ i, i < len → d[i]! < K) : ∀ i, i < len → e[i]! < K := by
  intro i hi
  have hle := h.le
  by_cases q1 : i < s ∨ t ≤ i
  · rw [h.out i q1]; exact hK i hi
  · by_cases q2 : i < s + (t - m)
    · rw [h.lo i (by omega) q2]; exact hK _ (by omega)
    · rw [h.hi i (by omega) (by omega)]; exact hK _ (by omega)
theorem Stb.allK {c : Nat → Nat → Int} {K a b len : Nat} {d e : Array Nat} (h : Stb c a b d e) (hb : b ≤ len) (hK : ∀ t, t < len → d[t]! < K) : ∀ t, t < len → e[t]! < K := by
  intro t ht
  by_cases q : a ≤ t ∧ t < b
  · obtain ⟨j, _, h2, h3⟩ := h.mem t q.1 q.2
    rw [h3]; exact hK j (by omega)
  · rw [h.out t (by omega)]; exact hK t ht

/-- the search's end -/
theorem found_of {α : Type} [Inhabited α] {c : α → α → Int} (O : Ord3 c) {d : Array α} {a m b mid s s0 r0 : Nat} (hmid : mid = (a + b) / 2) (h1 : a < m) (h2 : m < b) (hs0 : s0 = if m > mid then mid + m - b else a) (hr0 : r0 = if m > mid then mid else m) (hs1 : s0 ≤ s) (hs2 : s ≤ r0)
    (lo : s0 < s → 0 ≤ c d[mid + m - 1 - (s - 1)]! d[s - 1]!) (hi : s < r0 → c d[mid + m - 1 - s]! d[s]! < 0) : Found c d a m b mid s (mid + m - s) := by
  by_cases q : m > mid
  · rw [if_pos q] at hs0 hr0
    refine ⟨hmid, by omega, by omega, by omega, by omega, by omega, fun p1 p2 => ?_, fun p1 p2 => ?_⟩
    · have := hi (by omega)
      rwa [show mid + m - 1 - s = mid + m - s - 1 from by omega] at this
    · have := lo (by omega)
      rw [show mid + m - 1 - (s - 1) = mid + m - s from by omega, O.anti] at this
      omega
  · rw [if_neg q] at hs0 hr0
    refine ⟨hmid, by omega, by omega, by omega, by omega, by omega, fun p1 p2 => ?_, fun p1 p2 => ?_⟩
    · have := hi (by omega)
      rwa [show mid + m - 1 - s = mid + m - s - 1 from by omega] at this
    · have := lo (by omega)
      rw [show mid + m - 1 - (s - 1) = mid + m - s from by omega, O.anti] at this
      omega

end Go.Proofs.YtbicefgjompnoaaDoor.Sx
/- slices.SortStableFunc of literals: by insertion. -/
namespace Go.Proofs.YtbicefgjompnoaaDoor.Sx
open Go.RowKit Go.Sort

def ltS (tr : Nat → Int) (x y : Nat) : Bool := decide (cS tr x y < 0)
theorem swp_allK {K i j len : Nat} {d : Array Nat} (hd : len ≤ d.size) (hi : i < len) (hj : j < len) (hK : ∀ t, t < len → d[t]! < K) : ∀ t, t < len → (swp d i j)[t]! < K := by
  intro t ht
  rw [swp_get d (by omega) (by omega)]
  split
  · exact hK _ hi
  · split
    · exact hK _ hj
    · exact hK _ ht

end Go.Proofs.YtbicefgjompnoaaDoor.Sx
/- slices.SortStableFunc of literals, by truth. -/
namespace Go.Proofs.YtbicefgjompnoaaDoor.Sx
open Go.RowKit Go.Sort Go.Lib

theorem swoS (tr : Nat → Int) : SWO (ltS tr) where
  irrefl x := by have := (ordS tr).self x; simp [ltS, this]
  trans x y z h1 h2 := by simp only [ltS, decide_eq_true_eq] at *; rw [cS_lt] at *; omega
  ntrans x y z h1 h2 := by simp only [ltS, decide_eq_false_iff_not] at *; rw [cS_lt] at *; omega
end Go.Proofs.YtbicefgjompnoaaDoor.Sx
/- The comparison of literals by truth; the sort of a clause. -/
namespace Go.Proofs.YtbicefgjompnoaaDoor.Sx
open Go.RowKit Go.Sort Go.Lib Go.Shelf

/-- the same in each sort: the same in all -/
theorem StbL.perm {c : Nat → Nat → Int} (O : Ord3 c) {l m : List Nat} (h : StbL c l m) : l.Perm m := by
  rw [List.perm_iff_count]
  intro x
  have e := congrArg (List.count x) (h x)
  rwa [List.count_filter (by simp [O.self x]), List.count_filter (by simp [O.self x])] at e

end Go.Proofs.YtbicefgjompnoaaDoor.Sx
/- The program: the book's add. -/
namespace Go.Proofs.YtbicefgjompnoaaDoor.Sx
open Go.RowKit Go.Sort Go.Maps Go.Lib

end Go.Proofs.YtbicefgjompnoaaDoor.Sx
/- The lines of a proof (plain): what is heard, what must be. -/
namespace Go.Proofs.YtbicefgjompnoaaDoor.Sx
open Go.RowKit Go.Sort

theorem hearC_ok {n : Nat} : ∀ (C : List (List Int)) {s : List Nat × List Nat}, NmOK n s → (∀ c ∈ C, ∀ x ∈ c, LitN n x) → NmOK n (hearC s C) ∧ (∀ c ∈ C, ∀ x ∈ c, (hearC s C).1.getD x.natAbs 0 ≠ 0) ∧ ∀ u, s.1.getD u 0 ≠ 0 → (hearC s C).1.getD u 0 ≠ 0
  | [], s, h, _ => ⟨h, by simp, fun _ z => z⟩
  | c :: C, s, h, hC => by
    obtain ⟨q1, q2, q3⟩ := hear_ok c h (hC c (by simp))
    obtain ⟨p1, p2, p3⟩ := hearC_ok C q1 (fun c' hc' => hC c' (List.mem_cons_of_mem _ hc'))
    refine ⟨p1, fun c' hc' x hx => ?_, fun u hu => p3 u (by rw [q3 u hu]; exact hu)⟩
    rcases List.mem_cons.1 hc' with e | e
    · rw [e] at hx; exact p3 _ (q2 x hx)
    · exact p2 c' e x hx
/-- all that is spoken of is named -/
theorem named {n : Nat} {C O : List (List Int)} (hC : ∀ c ∈ C, ∀ x ∈ c, LitN n x) (hO : ∀ c ∈ O, ∀ x ∈ c, LitN n x) : NmOK n (hearC (hearC (List.replicate (n + 1) 0, []) C) O) ∧ (∀ c ∈ C, ∀ x ∈ c, Nm n (hearC (hearC (List.replicate (n + 1) 0, []) C) O) x) ∧ ∀ c ∈ O, ∀ x ∈ c, Nm n (hearC (hearC (List.replicate (n + 1) 0, []) C) O) x := by
  obtain ⟨q1, q2, _⟩ := hearC_ok C (NmOK.nil n) hC
  obtain ⟨p1, p2, p3⟩ := hearC_ok O q1 hO
  exact ⟨p1, fun c hc x hx => ⟨hC c hc x hx, p3 _ (q2 c hc x hx)⟩, fun c hc x hx => ⟨hO c hc x hx, p2 c hc x hx⟩⟩

section
variable {n n' : Nat} {s : List Nat × List Nat} {L : List (List Int)} {t : St}
theorem follow_cannot (hL : ∀ c ∈ L, ∀ x ∈ c, LitN n x) {G : List Int} (hG : ∀ x ∈ G, LitN n x) : followP n L G = some none ↔ Cannot L G := by
  obtain ⟨r, hr, he⟩ := follow_spec (n := n) (C := L) (G := G) hL hG
  rw [hr]
  cases r with
  | none => exact ⟨fun _ => he, fun _ => rfl⟩
  | some v => exact ⟨fun q => (by simp at q), fun q => absurd q he.1⟩
theorem neg_lits {c : List Int} (hc : ∀ x ∈ c, Nm n s x) : ∀ x ∈ c.map (- ·), Nm n s x := fun x hx => by
  obtain ⟨y, hy, rfl⟩ := List.mem_map.1 hx
  exact (hc y hy).neg
/-- a line comes in, by the program, just where it does by the reference -/
theorem comes_in (h : NmOK n s) (hc : Cor n s L t) (hB : BB n' t) {x : List Int} {c : List Nat} (hx : ∀ y ∈ x, Nm n s y) (hs : SetOf (x.map (litV s)) c) : NCannot (Cl t) (c.map opp) ↔ followP n L (x.map (- ·)) = some none := by
  rw [follow_cannot (fun c hc' y hy => (hc.nm c hc' y hy).1) (fun y hy => (neg_lits hx y hy).1), hc.cannot h hB (neg_lits hx)]
  have e : ∀ k, k ∈ (x.map (- ·)).map (litV s) ↔ k ∈ c.map opp := fun k => by
    constructor
    · intro hk
      obtain ⟨z, hz, rfl⟩ := List.mem_map.1 hk
      obtain ⟨y, hy, rfl⟩ := List.mem_map.1 hz
      rw [litV_neg (hx y hy)]
      exact List.mem_map.2 ⟨_, (hs.mem _).2 (List.mem_map.2 ⟨y, hy, rfl⟩), rfl⟩
    · intro hk
      obtain ⟨l, hl, rfl⟩ := List.mem_map.1 hk
      obtain ⟨y, hy, rfl⟩ := List.mem_map.1 ((hs.mem l).1 hl)
      exact List.mem_map.2 ⟨-y, List.mem_map.2 ⟨y, hy, rfl⟩, litV_neg (hx y hy)⟩
  exact ⟨fun q => q.mono (fun d hd => ⟨d, hd, fun _ => Iff.rfl⟩) fun k hk => (e k).2 hk, fun q => q.mono (fun d hd => ⟨d, hd, fun _ => Iff.rfl⟩) fun k hk => (e k).1 hk⟩
/-- what is always true comes in -/
theorem always_in (hL : ∀ c ∈ L, ∀ x ∈ c, Nm n s x) {x : List Int} (hx : ∀ y ∈ x, Nm n s y) (ha : alwaysI x = true) : followP n L (x.map (- ·)) = some none := by
  rw [follow_cannot (fun c hc' y hy => (hL c hc' y hy).1) (fun y hy => (neg_lits hx y hy).1)]
  obtain ⟨y, h1, h2⟩ := alwaysI_iff.1 ha
  exact .inl ⟨y, .given (List.mem_map.2 ⟨-y, h2, by simp⟩), .given (List.mem_map.2 ⟨y, h1, rfl⟩)⟩
/-- an empty line comes in only where it cannot be -/
theorem not_empty (h : BI n' t true false) : ¬ NCannot (Cl t) [] := by
  have hS := h.su rfl
  exact (closed_N hS.F hS.d (by simp) hS.e hS.o h.b.R.no0).2
theorem set_nil {x : List Int} {c : List Nat} (hs : SetOf (x.map (litV s)) c) : c.length = 0 ↔ x.length = 0 := by
  constructor
  · intro q
    cases x with
    | nil => rfl
    | cons a x =>
      have := (hs.mem (litV s a)).2 (by simp)
      rw [List.eq_nil_of_length_eq_zero q] at this
      simp at this
  · intro q
    rw [List.eq_nil_of_length_eq_zero q] at hs
    cases c with
    | nil => rfl
    | cons a c => have := (hs.mem a).1 (by simp); simp at this
end

/-- a store as it begins -/
theorem SO.bb {n k : Nat} {t : St} (h : SO n k t) : BB n t := ⟨h.F.I, h.F.W, h.F.tt, h.F.wy, h.R, h.cu, h.F.dn⟩
theorem addAll_some : ∀ (cs : List (List Nat)) (t : St), (∀ r : Nat, t.rows[r]? ≠ some none) → ∀ r : Nat, (addAll t cs).rows[r]? ≠ some none
  | [], t, h => h
  | c :: cs, t, h => by
    unfold addAll
    refine addAll_some cs _ ?_
    cases ha : alwaysP c with
    | true => rw [if_pos rfl]; exact h
    | false =>
      rw [if_neg (by simp)]
      intro r hr
      by_cases hne : c = []
      · subst hne; exact h r hr
      · rw [addP_rows t hne] at hr
        by_cases hl : r < t.rows.length
        · rw [List.getElem?_append_left hl] at hr; exact h r hr
        · have hb := (List.getElem?_eq_some_iff.1 hr).1
          simp at hb
          have e : r = t.rows.length := by omega
          subst e
          simp at hr
theorem newP_SO0 (n : Nat) {C : List (List Int)} {cs : List (List Nat)} {s : List Nat × List Nat} {N : Nat} (h : NmOK N s) (hn : n = s.2.length) (hC : ∀ c ∈ C, ∀ x ∈ c, Nm N s x) (hl : cs.length = C.length) (hb : C.length ≤ 900000000) (hs : ∀ (i : Nat) (x : List Int) (c : List Nat), C[i]? = some x → cs[i]? = some c → SetOf (x.map (litV s)) c) : SO n C.length (addAll (newP n) cs) := by
  have := addAll_SO cs 0 (newP n) (newP_SO n) (fun c hc => by
    obtain ⟨i, hi⟩ := List.getElem?_of_mem hc
    have hil : i < C.length := by have := (List.getElem?_eq_some_iff.1 hi).1; omega
    have hq := hs i C[i] c (List.getElem?_eq_getElem hil) hi
    refine ⟨hq.nodup, fun l hl' => ?_⟩
    obtain ⟨x, hx, rfl⟩ := List.mem_map.1 ((hq.mem l).1 hl')
    rw [hn]
    exact litV_lt h (hC _ (List.getElem_mem hil) x hx).2) (by omega)
  rw [Nat.zero_add, hl] at this
  exact this
theorem IntsAt.up {w : World} {lo lo' : Nat} {v : Value} {l : List Int} (h : IntsAt w lo v l) (hl : lo ≤ lo') : IntsAt w lo' v l := by
  obtain ⟨a, cap, e, q⟩ := h.ex
  refine ⟨⟨a, cap, e, ?_⟩, h.big⟩
  rcases q with q | ⟨p, e1, e2, e3⟩
  · exact .inl q
  · exact .inr ⟨p, e1, Nat.lt_of_lt_of_le e2 hl, e3⟩
theorem ClsAt.up {w : World} {lo lo' : Nat} {v : Value} {C : List (List Int)} (h : ClsAt w lo v C) (hl : lo ≤ lo') : ClsAt w lo' v C := by
  obtain ⟨a, cap, e, q⟩ := h.ex
  refine ⟨⟨a, cap, e, ?_⟩, h.big⟩
  rcases q with q | ⟨p, e1, e2, e3⟩
  · exact .inl q
  · refine .inr ⟨p, e1, Nat.lt_of_lt_of_le e2 hl, fun i c hc => ?_⟩
    obtain ⟨u, u1, u2⟩ := e3 i c hc
    exact ⟨u, u1, u2.up hl⟩

end Go.Proofs.YtbicefgjompnoaaDoor.Sx
/- The program: a line of a proof. -/
namespace Go.Proofs.YtbicefgjompnoaaDoor.Sx
open Go.RowKit Go.Sort Go.Maps Go.Lib

section
variable {w1 w4 : World} {N bb cb k0 : Nat} {s : List Nat × List Nat} {Lc : List (List Int)} {L4 : Ly} {t : St} {sure never : Bool} {mv : Value} {c : List Int} {cc : List Nat} {d : Array Nat}

theorem lits_lt (hNm : NmOK N s) (hcN : ∀ y ∈ c, Nm N s y) (hset : SetOf (c.map (litV s)) cc) : ∀ x ∈ cc, x < 2 * s.2.length := fun x hx => by
  obtain ⟨y, hy, rfl⟩ := List.mem_map.1 ((hset.mem x).1 hx)
  exact litV_lt hNm (hcN y hy).2

end

end Go.Proofs.YtbicefgjompnoaaDoor.Sx
/- The program: Checked. -/
namespace Go.Proofs.YtbicefgjompnoaaDoor.Sx
open Go.RowKit Go.Sort Go.Maps Go.Lib

end Go.Proofs.YtbicefgjompnoaaDoor.Sx
/- The law: lists that are the same, copies. -/
namespace Go.Proofs.YtbicefgjompnoaaDoor.Sx
open Go.RowKit Go.Sort

set_option maxRecDepth 100000 in
set_option maxHeartbeats 1000000 in
theorem ints_same (w : World) (la lb : Nat) (va vb : Value) (l : List Int) (ha : IntsAt w la va l) (hb : IntsAt w lb vb l) : Calls Tryd.prog 10 #[va, vb] w fun e w' => e = .returned (.bool true) ∧ Fr (fun _ => True) w w' := by
  have mo := follows
  obtain ⟨aa, ca, rfl, _⟩ := ha.ex
  obtain ⟨ab, cb, rfl, _⟩ := hb.ex
  have hbg := ha.big
  have HA : Hid (IntsAt w la (.slice aa l.length ca) l) := ha
  have HB : Hid (IntsAt w lb (.slice ab l.length cb) l) := hb
  clear ha hb
  go_enter Tryd.func10, Tryd.ntmps10
  go_wp2_with fail
  go_loopg [5] (l.length) (fun k s5 wr => ∃ j : Nat, s5 = .int .i64 (j : Int) ∧ j + k = l.length ∧ Hid (Fr (fun _ => True) w wr))
  case atStart => exact ⟨0, rfl, by omega, Fr.refl _ _⟩
  case round =>
    obtain ⟨j, rfl, hjk, HF⟩ := hrel
    by_cases hj : j < l.length
    · obtain ⟨k, rfl⟩ : ∃ k, gk = k + 1 := ⟨gk - 1, by omega⟩
      obtain ⟨pa, rfl, c1, c2⟩ := HA.out.cell HF.out hj
      obtain ⟨pb, rfl, c3, c4⟩ := HB.out.cell HF.out hj
      generalize l[j] = x at c1 c2 c3 c4
      have j0 : (0 : Int) ≤ (j : Int) := by omega
      have j1 : (j : Int) < (l.length : Int) := by omega
      go_wp2_with fail
      go_quiet (fail)
      go_wp2_with fail
      have HF2 : Hid (Fr (fun _ => True) w (wr.drewN nq)) := HF.out.trans (Fr.grew (Grew.drewN (Grew.refl _) nq))
      clear HF
      go_roundg k
      case measure => omega
      case rel => exact ⟨j + 1, by simp, by omega, HF2⟩
    · have j1 : ¬ (j : Int) < (l.length : Int) := by omega
      go_wp2_with fail
      go_ret
      exact ⟨rfl, HF.out⟩

end Go.Proofs.YtbicefgjompnoaaDoor.Sx
