/- Plain: stable sorting (wip/s1 Ord3, Stab, Stab2). -/
import Derived.Test.YtbicefgjompnoaaDoorF06
import Derived.Sort.LotA
import Derived.Sort.WalkA
namespace Go.Proofs.YtbicefgjompnoaaDoor.Sx
open Go.Sort

/-- a comparison in three that is an order -/
structure Ord3 {α : Type} (c : α → α → Int) : Prop where
  rng : ∀ a b, c a b = -1 ∨ c a b = 0 ∨ c a b = 1
  anti : ∀ a b, c b a = - c a b
  trans : ∀ a b d, c a b ≤ 0 → c b d ≤ 0 → c a d ≤ 0

theorem Ord3.sub {α : Type} {c : α → α → Int} (h : Ord3 c) {a b : α} (e : c a b = 0) (d : α) : c a d = c b d := by
  have e' : c b a = 0 := by rw [h.anti a b, e]; rfl
  have h1 := h.trans a b d (by omega)
  have h2 := h.trans b a d (by omega)
  have h3 := fun q => h.trans d a b q (by omega)
  have h4 := fun q => h.trans d b a q (by omega)
  have r1 := h.rng a d
  have r2 := h.rng b d
  rw [h.anti a d, h.anti b d] at h3
  rw [h.anti a d, h.anti b d] at h4
  omega
theorem Ord3.self {α : Type} {c : α → α → Int} (h : Ord3 c) (a : α) : c a a = 0 := by
  have := h.anti a a; omega

theorem Ord3.pull {α β : Type} {c : α → α → Int} (h : Ord3 c) (f : β → α) : Ord3 (fun a b => c (f a) (f b)) :=
  ⟨fun _ _ => h.rng _ _, fun _ _ => h.anti _ _, fun _ _ _ => h.trans _ _ _⟩

/-- of each sort the elements stand in the same order -/
def StbL {α : Type} (c : α → α → Int) (l m : List α) : Prop := ∀ x, l.filter (fun y => c x y == 0) = m.filter (fun y => c x y == 0)
theorem StbL.refl {α : Type} (c : α → α → Int) (l : List α) : StbL c l l := fun _ => rfl
theorem StbL.trans {α : Type} {c : α → α → Int} {l m n : List α} (h : StbL c l m) (k : StbL c m n) : StbL c l n := fun x => (h x).trans (k x)
theorem StbL.find {α : Type} {c : α → α → Int} {l m : List α} (h : StbL c l m) (x : α) : l.find? (fun y => c x y == 0) = m.find? (fun y => c x y == 0) := by
  rw [← List.head?_filter, ← List.head?_filter, h x]

theorem StbL.rot {α : Type} {c : α → α → Int} (O : Ord3 c) (P A B Q : List α) (h : ∀ a ∈ A, ∀ b ∈ B, c b a < 0) : StbL c (P ++ (A ++ (B ++ Q))) (P ++ (B ++ (A ++ Q))) := by
  intro x
  have e : A.filter (fun y => c x y == 0) ++ B.filter (fun y => c x y == 0) = B.filter (fun y => c x y == 0) ++ A.filter (fun y => c x y == 0) := by
    by_cases q : A.filter (fun y => c x y == 0) = []
    · rw [q]; simp
    · obtain ⟨a, ha⟩ := List.exists_mem_of_ne_nil _ q
      obtain ⟨ha1, ha2⟩ := List.mem_filter.1 ha
      have : B.filter (fun y => c x y == 0) = [] := by
        rw [List.filter_eq_nil_iff]
        intro b hb hq
        have h1 : c x a = 0 := by simpa using ha2
        have h2 : c x b = 0 := by simpa using hq
        have h3 := h a ha1 b hb
        have h4 := O.sub h2 a
        omega
      rw [this]; simp
  simp only [List.filter_append]
  rw [← List.append_assoc (A.filter _), ← List.append_assoc (B.filter _), e]

section
variable {α : Type}
/-- e is d with the places from s to m and those from m to t exchanged -/
def RotL (d e : Array α) (s m t : Nat) : Prop := ∃ P A B Q : List α, d.toList = P ++ (A ++ (B ++ Q)) ∧ e.toList = P ++ (B ++ (A ++ Q)) ∧ P.length = s ∧ s + A.length = m ∧ m + B.length = t

theorem cut4 (d : Array α) (s m t : Nat) (h1 : s ≤ m) (h2 : m ≤ t) (h3 : t ≤ d.size) : ∃ P A B Q : List α, d.toList = P ++ (A ++ (B ++ Q)) ∧ P.length = s ∧ s + A.length = m ∧ m + B.length = t := by
  refine ⟨d.toList.take s, (d.toList.drop s).take (m - s), (d.toList.drop m).take (t - m), d.toList.drop t, ?_, ?_, ?_, ?_⟩
  · have e1 : d.toList.drop m = (d.toList.drop m).take (t - m) ++ d.toList.drop t := by
      conv => lhs; rw [← List.take_append_drop (t - m) (d.toList.drop m)]
      rw [List.drop_drop, show m + (t - m) = t from by omega]
    have e2 : d.toList.drop s = (d.toList.drop s).take (m - s) ++ d.toList.drop m := by
      conv => lhs; rw [← List.take_append_drop (m - s) (d.toList.drop s)]
      rw [List.drop_drop, show s + (m - s) = m from by omega]
    rw [← e1, ← e2, List.take_append_drop]
  · simp; omega
  · simp; omega
  · simp; omega

theorem RotL.size {d e : Array α} {s m t : Nat} (h : RotL d e s m t) : e.size = d.size := by
  obtain ⟨P, A, B, Q, h1, h2, _⟩ := h
  have a := congrArg List.length h1
  have b := congrArg List.length h2
  simp at a b
  omega
theorem RotL.le {d e : Array α} {s m t : Nat} (h : RotL d e s m t) : s ≤ m ∧ m ≤ t ∧ t ≤ d.size := by
  obtain ⟨P, A, B, Q, h1, h2, h3, h4, h5⟩ := h
  have a := congrArg List.length h1
  simp at a
  omega
theorem RotL.same_l (d : Array α) (s t : Nat) (h : s ≤ t) (h2 : t ≤ d.size) : RotL d d s s t := by
  obtain ⟨P, A, B, Q, h1, h3, h4, h5⟩ := cut4 d s s t (Nat.le_refl _) h h2
  obtain rfl : A = [] := List.length_eq_zero_iff.1 (by omega)
  exact ⟨P, [], B, Q, h1, h1, h3, h4, h5⟩
theorem RotL.same_r (d : Array α) (s t : Nat) (h : s ≤ t) (h2 : t ≤ d.size) : RotL d d s t t := by
  obtain ⟨P, A, B, Q, h1, h3, h4, h5⟩ := cut4 d s t t h (Nat.le_refl _) h2
  obtain rfl : B = [] := List.length_eq_zero_iff.1 (by omega)
  exact ⟨P, A, [], Q, h1, h1, h3, h4, h5⟩
end
theorem lt_le {α : Type} {c : α → α → Int} (O : Ord3 c) {x y z : α} (h1 : c x y < 0) (h2 : c y z ≤ 0) : c x z < 0 := by
  have := O.trans x y z (by omega) h2
  rcases O.rng x z with q | q | q
  · omega
  · have := O.sub q y
    have := O.anti y z
    omega
  · omega
theorem le_lt {α : Type} {c : α → α → Int} (O : Ord3 c) {x y z : α} (h1 : c x y ≤ 0) (h2 : c y z < 0) : c x z < 0 := by
  have h3 := O.anti z y
  have h4 := O.anti y x
  have h5 := O.trans x y z h1 (by omega)
  rcases O.rng x z with q | q | q
  · omega
  · have := O.sub q y
    have := O.anti z y
    omega
  · omega


section
variable {α : Type} [Inhabited α]

theorem at_list (d : Array α) (i : Nat) : d[i]! = (d.toList[i]?).getD default := by
  simp [getElem!_def]
  cases d[i]? <;> rfl

theorem RotL.out {d e : Array α} {s m t : Nat} (h : RotL d e s m t) (i : Nat) (hi : i < s ∨ t ≤ i) : e[i]! = d[i]! := by
  obtain ⟨P, A, B, Q, h1, h2, h3, h4, h5⟩ := h
  rw [at_list, at_list, h1, h2]
  congr 1
  by_cases q : i < P.length
  · rw [List.getElem?_append_left q, List.getElem?_append_left q]
  · rw [List.getElem?_append_right (by omega), List.getElem?_append_right (by omega), List.getElem?_append_right (by omega), List.getElem?_append_right (by omega), List.getElem?_append_right (by omega), List.getElem?_append_right (by omega)]
    congr 1
    omega
theorem RotL.lo {d e : Array α} {s m t : Nat} (h : RotL d e s m t) (i : Nat) (h6 : s ≤ i) (h7 : i < s + (t - m)) : e[i]! = d[i + (m - s)]! := by
  obtain ⟨P, A, B, Q, h1, h2, h3, h4, h5⟩ := h
  rw [at_list, at_list, h1, h2]
  congr 1
  rw [List.getElem?_append_right (by omega), List.getElem?_append_left (by omega), List.getElem?_append_right (by omega), List.getElem?_append_right (by omega), List.getElem?_append_left (by omega)]
  congr 1
  omega
theorem RotL.hi {d e : Array α} {s m t : Nat} (h : RotL d e s m t) (i : Nat) (h6 : s + (t - m) ≤ i) (h7 : i < t) : e[i]! = d[i - (t - m)]! := by
  obtain ⟨P, A, B, Q, h1, h2, h3, h4, h5⟩ := h
  rw [at_list, at_list, h1, h2]
  congr 1
  rw [List.getElem?_append_right (by omega), List.getElem?_append_right (by omega), List.getElem?_append_left (by omega), List.getElem?_append_right (by omega), List.getElem?_append_left (by omega)]
  congr 1
  omega
theorem ext_get {e : Array α} {l : List α} (hs : e.size = l.length) (h : ∀ i, i < l.length → e[i]! = (l[i]?).getD default) : e.toList = l := by
  apply List.ext_getElem
  · simpa using hs
  · intro i h1 h2
    have := h i h2
    rw [getElem!_pos e i (by simpa using h1), List.getElem?_eq_getElem h2] at this
    simpa using this

/-- two places exchanged, as a list -/
theorem swp_list {d : Array α} {P M Q : List α} {x y : α} (h : d.toList = P ++ (x :: (M ++ (y :: Q)))) : (swp d P.length (P.length + 1 + M.length)).toList = P ++ (y :: (M ++ (x :: Q))) := by
  have hs := congrArg List.length h
  simp at hs
  have hx : d[P.length]! = x := by rw [at_list, h]; simp
  have hy : d[P.length + 1 + M.length]! = y := by
    rw [at_list, h, List.getElem?_append_right (by omega), show P.length + 1 + M.length - P.length = M.length + 1 from by omega, List.getElem?_cons_succ, List.getElem?_append_right (by omega)]
    simp
  refine ext_get (by rw [swp_size]; simp; omega) fun i hi => ?_
  rw [swp_get d (by omega) (by omega), hx, hy, at_list, h]
  by_cases q1 : i = P.length + 1 + M.length
  · rw [if_pos q1, q1, List.getElem?_append_right (by omega), show P.length + 1 + M.length - P.length = M.length + 1 from by omega, List.getElem?_cons_succ, List.getElem?_append_right (by omega)]
    simp
  · rw [if_neg q1]
    by_cases q2 : i = P.length
    · rw [if_pos q2, q2]; simp
    · rw [if_neg q2]
      congr 1
      by_cases q3 : i < P.length
      · rw [List.getElem?_append_left q3, List.getElem?_append_left q3]
      · obtain ⟨j, rfl⟩ : ∃ j, i = P.length + (j + 1) := ⟨i - P.length - 1, by omega⟩
        rw [List.getElem?_append_right (by omega), List.getElem?_append_right (by omega), show P.length + (j + 1) - P.length = j + 1 from by omega, List.getElem?_cons_succ, List.getElem?_cons_succ]
        by_cases q4 : j < M.length
        · rw [List.getElem?_append_left q4, List.getElem?_append_left q4]
        · obtain ⟨k, rfl⟩ : ∃ k, j = M.length + (k + 1) := ⟨j - M.length - 1, by omega⟩
          rw [List.getElem?_append_right (by omega), List.getElem?_append_right (by omega), show M.length + (k + 1) - M.length = k + 1 from by omega, List.getElem?_cons_succ, List.getElem?_cons_succ]
theorem swp_comm (d : Array α) (i j : Nat) (hi : i < d.size) (hj : j < d.size) : swp d i j = swp d j i := by
  apply Array.toList_inj.1
  refine ext_get (by simp [swp_size]) fun k hk => ?_
  rw [← at_list, swp_get d hi hj, swp_get d hj hi]
  by_cases q : k = j
  · by_cases r : k = i
    · subst q; subst r; rfl
    · rw [if_pos q, if_neg r, if_pos q]
  · rw [if_neg q]
    by_cases r : k = i
    · rw [if_pos r, if_pos r]
    · rw [if_neg r, if_neg r, if_neg q]

/-- the first one goes up -/
theorem RotL.up {d e : Array α} {a k : Nat} (h : RotL d e a (a + 1) (k + 1)) (hk : k + 1 < d.size) : RotL d (swp e k (k + 1)) a (a + 1) (k + 2) := by
  obtain ⟨P, A, B, Q, h1, h2, h3, h4, h5⟩ := h
  match A, h4 with
  | [], h4 => simp at h4
  | x :: y :: A, h4 => simp at h4
  | [x], _ =>
    have hs := congrArg List.length h1
    simp at hs
    match Q with
    | [] => simp at hs; omega
    | q :: Q =>
      have e1 : e.toList = (P ++ B) ++ (x :: ([] ++ (q :: Q))) := by rw [h2]; simp
      have := swp_list e1
      rw [show (P ++ B).length = k from by simp; omega] at this
      refine ⟨P, [x], B ++ [q], Q, by rw [h1]; simp, ?_, h3, rfl, by simp; omega⟩
      simp only [List.length_nil, Nat.add_zero] at this
      rw [this]; simp
/-- the last one goes down -/
theorem RotL.down {d e : Array α} {m k : Nat} (h : RotL d e (k + 1) m (m + 1)) : RotL d (swp e (k + 1) k) k m (m + 1) := by
  have hle := h.le
  have hsz := h.size
  obtain ⟨P, A, B, Q, h1, h2, h3, h4, h5⟩ := h
  match B, h5 with
  | [], h5 => simp at h5
  | x :: y :: B, h5 => simp at h5
  | [y], _ =>
    obtain ⟨P', p, rfl⟩ : ∃ P' p, P = P' ++ [p] := by
      have : P ≠ [] := fun q => by rw [q] at h3; simp at h3
      exact ⟨_, _, (List.dropLast_concat_getLast this).symm⟩
    have hp : P'.length = k := by simpa using h3
    have e1 : e.toList = P' ++ (p :: ([] ++ (y :: (A ++ Q)))) := by rw [h2]; simp
    have := swp_list e1
    simp only [List.length_nil, Nat.add_zero, hp] at this
    rw [swp_comm e (k + 1) k (by omega) (by omega)]
    exact ⟨P', p :: A, [y], Q, by rw [h1]; simp, by rw [this]; simp, hp, by simp; omega, rfl⟩

/-- a stable rearrangement of the places from a to b -/
structure Stb (c : α → α → Int) (a b : Nat) (d e : Array α) : Prop where
  size : e.size = d.size
  out : ∀ i, i < a ∨ b ≤ i → e[i]! = d[i]!
  cls : StbL c d.toList e.toList
  mem : ∀ i, a ≤ i → i < b → ∃ j, a ≤ j ∧ j < b ∧ e[i]! = d[j]!
def Srt (c : α → α → Int) (d : Array α) (a b : Nat) : Prop := ∀ i j, a ≤ i → i < j → j < b → c d[i]! d[j]! ≤ 0

variable {c : α → α → Int}
theorem Stb.refl (c : α → α → Int) (a b : Nat) (d : Array α) : Stb c a b d d := ⟨rfl, fun _ _ => rfl, StbL.refl _ _, fun i h1 h2 => ⟨i, h1, h2, rfl⟩⟩
theorem Stb.trans {a b : Nat} {d e f : Array α} (h : Stb c a b d e) (k : Stb c a b e f) : Stb c a b d f :=
  ⟨k.size.trans h.size, fun i hi => (k.out i hi).trans (h.out i hi), h.cls.trans k.cls, fun i h1 h2 => by
    obtain ⟨j, j1, j2, e1⟩ := k.mem i h1 h2
    obtain ⟨l, l1, l2, e2⟩ := h.mem j j1 j2
    exact ⟨l, l1, l2, e1.trans e2⟩⟩
theorem Stb.mono {a b a' b' : Nat} {d e : Array α} (h : Stb c a b d e) (ha : a' ≤ a) (hb : b ≤ b') : Stb c a' b' d e :=
  ⟨h.size, fun i hi => h.out i (by omega), h.cls, fun i h1 h2 => by
    by_cases q : a ≤ i ∧ i < b
    · obtain ⟨j, j1, j2, e1⟩ := h.mem i q.1 q.2
      exact ⟨j, by omega, by omega, e1⟩
    · exact ⟨i, h1, h2, h.out i (by omega)⟩⟩
theorem Srt.keep {a b : Nat} {d e : Array α} (h : Srt c d a b) (k : ∀ i, a ≤ i → i < b → e[i]! = d[i]!) : Srt c e a b := fun i j h1 h2 h3 => by
  rw [k i h1 (by omega), k j (by omega) h3]; exact h i j h1 h2 h3
theorem Srt.sub {a b a' b' : Nat} {d : Array α} (h : Srt c d a b) (ha : a ≤ a') (hb : b' ≤ b) : Srt c d a' b' := fun i j h1 h2 h3 => h i j (by omega) h2 (by omega)
theorem Srt.le (O : Ord3 c) {a b : Nat} {d : Array α} (h : Srt c d a b) {i j : Nat} (h1 : a ≤ i) (h2 : i ≤ j) (h3 : j < b) : c d[i]! d[j]! ≤ 0 := by
  by_cases q : i = j
  · subst q; rw [O.self]; exact Int.le_refl _
  · exact h i j h1 (by omega) h3

theorem Stb.rot (O : Ord3 c) {d e : Array α} {s m t : Nat} (h : RotL d e s m t) (hlt : ∀ i j, s ≤ i → i < m → m ≤ j → j < t → c d[j]! d[i]! < 0) : Stb c s t d e := by
  refine ⟨h.size, h.out, ?_, fun i h1 h2 => ?_⟩
  · obtain ⟨P, A, B, Q, h1, h2, h3, h4, h5⟩ := h
    rw [h1, h2]
    refine StbL.rot O P A B Q fun x hx y hy => ?_
    obtain ⟨i, hi, rfl⟩ := List.getElem_of_mem hx
    obtain ⟨j, hj, rfl⟩ := List.getElem_of_mem hy
    have := hlt (s + i) (m + j) (by omega) (by omega) (by omega) (by omega)
    rw [at_list, at_list, h1] at this
    rw [List.getElem?_append_right (by omega), List.getElem?_append_right (by omega), List.getElem?_append_left (by omega), List.getElem?_append_right (by omega), List.getElem?_append_left (by omega)] at this
    rw [show m + j - P.length - A.length = j from by omega, show s + i - P.length = i from by omega, List.getElem?_eq_getElem hi, List.getElem?_eq_getElem hj] at this
    simpa using this
  · have hle := h.le
    by_cases q : i < s + (t - m)
    · exact ⟨i + (m - s), by omega, by omega, h.lo i h1 q⟩
    · exact ⟨i - (t - m), by omega, by omega, h.hi i (by omega) h2⟩

/-- one ahead of many: it goes up to its place -/
theorem merge_first (O : Ord3 c) {d e : Array α} {a i b : Nat} (hs : Srt c d (a + 1) b) (h1 : a + 1 ≤ i) (h2 : i ≤ b) (lo : ∀ t, a + 1 ≤ t → t < i → c d[t]! d[a]! < 0) (hi : ∀ t, i ≤ t → t < b → ¬ c d[t]! d[a]! < 0) (h : RotL d e a (a + 1) i) : Stb c a b d e ∧ Srt c e a b := by
  refine ⟨(Stb.rot O h fun p q h3 h4 h5 h6 => by obtain rfl : p = a := by omega
                                                 exact lo q h5 h6).mono (Nat.le_refl _) h2, fun p q h3 h4 h5 => ?_⟩
  have f1 : ∀ p, a ≤ p → p < i - 1 → e[p]! = d[p + 1]! := fun p h6 h7 => by rw [h.lo p h6 (by omega)]; congr 1; omega
  have f2 : e[i - 1]! = d[a]! := by rw [h.hi (i - 1) (by omega) (by omega)]; congr 1; omega
  have f3 := fun p h6 => h.out p (.inr h6)
  by_cases q1 : p < i - 1
  · rw [f1 p h3 q1]
    by_cases q2 : q < i - 1
    · rw [f1 q (by omega) q2]; exact hs _ _ (by omega) (by omega) (by omega)
    · by_cases q3 : q = i - 1
      · rw [q3, f2]; have := lo (p + 1) (by omega) (by omega); omega
      · rw [f3 q (by omega)]; exact hs _ _ (by omega) (by omega) (by omega)
  · by_cases q2 : p = i - 1
    · rw [q2, f2, f3 q (by omega)]
      have := hi q (by omega) h5
      have := O.anti d[q]! d[a]!
      omega
    · rw [f3 p (by omega), f3 q (by omega)]; exact hs _ _ (by omega) (by omega) (by omega)
/-- one behind many: it goes down to its place -/
theorem merge_last (O : Ord3 c) {d e : Array α} {a i m : Nat} (hs : Srt c d a m) (h1 : a ≤ i) (h2 : i ≤ m) (lo : ∀ t, a ≤ t → t < i → ¬ c d[m]! d[t]! < 0) (hi : ∀ t, i ≤ t → t < m → c d[m]! d[t]! < 0) (h : RotL d e i m (m + 1)) : Stb c a (m + 1) d e ∧ Srt c e a (m + 1) := by
  refine ⟨(Stb.rot O h fun p q h3 h4 h5 h6 => by obtain rfl : q = m := by omega
                                                 exact hi p h3 h4).mono h1 (Nat.le_refl _), fun p q h3 h4 h5 => ?_⟩
  have f1 := fun p h6 => h.out p (.inl h6)
  have f2 : e[i]! = d[m]! := by rw [h.lo i (by omega) (by omega)]; congr 1; omega
  have f3 : ∀ p, i < p → p ≤ m → e[p]! = d[p - 1]! := fun p h6 h7 => by rw [h.hi p (by omega) (by omega)]; congr 1; omega
  by_cases q1 : p < i
  · rw [f1 p q1]
    by_cases q2 : q < i
    · rw [f1 q q2]; exact hs _ _ h3 h4 (by omega)
    · by_cases q3 : q = i
      · rw [q3, f2]
        have := lo p h3 q1
        have := O.anti d[m]! d[p]!
        omega
      · rw [f3 q (by omega) (by omega)]; exact hs.le O h3 (by omega) (by omega)
  · by_cases q2 : p = i
    · rw [q2, f2, f3 q (by omega) (by omega)]
      have := hi (q - 1) (by omega) (by omega)
      omega
    · rw [f3 p (by omega) (by omega), f3 q (by omega) (by omega)]; exact hs _ _ (by omega) (by omega) (by omega)

/-- what the search has found -/
structure Found (c : α → α → Int) (d : Array α) (a m b mid s t : Nat) : Prop where
  half : mid = (a + b) / 2
  sum : s + t = mid + m
  s1 : a ≤ s
  s2 : s ≤ m
  t1 : m ≤ t
  t2 : t ≤ b
  rot : s < m → m < t → c d[t - 1]! d[s]! < 0
  cross : a < s → t < b → c d[s - 1]! d[t]! ≤ 0

theorem merge_halves (O : Ord3 c) {d d1 d2 d3 : Array α} {a m b mid s t : Nat} (h1 : Srt c d a m) (h2 : Srt c d m b) (F : Found c d a m b mid s t) (hr : RotL d d1 s m t)
    (k1 : Stb c a mid d1 d2) (k2 : Srt c d2 a mid) (k3 : Stb c mid b d2 d3) (k4 : Srt c d3 mid b) : Stb c a b d d3 ∧ Srt c d3 a b := by
  have hle := hr.le
  have am := F.half; have sm := F.sum; have s1 := F.s1; have s2 := F.s2; have t1 := F.t1; have t2 := F.t2
  have hst := Stb.rot O hr fun i j i1 i2 j1 j2 => by
    have r := F.rot (by omega) (by omega)
    exact le_lt O (h2.le O j1 (by omega) (by omega) : c d[j]! d[t - 1]! ≤ 0) (lt_le O r (h1.le O s1 i1 i2))
  have g1 : ∀ i, a ≤ i → i < s → d1[i]! = d[i]! := fun i _ q => hr.out i (.inl q)
  have g2 : ∀ i, s ≤ i → i < mid → d1[i]! = d[i + (m - s)]! := fun i q r => hr.lo i q (by omega)
  have g3 : ∀ i, mid ≤ i → i < t → d1[i]! = d[i - (t - m)]! := fun i q r => hr.hi i (by omega) r
  have g4 := fun i q => hr.out i (.inr q)
  have cross : ∀ i j, a ≤ i → i < mid → mid ≤ j → j < b → c d1[i]! d1[j]! ≤ 0 := by
    intro i j i1 i2 j1 j2
    by_cases qi : i < s
    · rw [g1 i i1 qi]
      by_cases qj : j < t
      · rw [g3 j j1 qj]; exact h1 _ _ i1 (by omega) (by omega)
      · rw [g4 j (by omega)]
        exact O.trans _ _ _ (h1.le O i1 (show i ≤ s - 1 by omega) (by omega)) (O.trans _ _ _ (F.cross (by omega) (by omega)) (h2.le O t1 (by omega) j2))
    · rw [g2 i (by omega) i2]
      by_cases qj : j < t
      · rw [g3 j j1 qj]
        have r := F.rot (by omega) (by omega)
        have := le_lt O (h2.le O (show m ≤ i + (m - s) by omega) (show i + (m - s) ≤ t - 1 by omega) (by omega)) (lt_le O r (h1.le O s1 (show s ≤ j - (t - m) by omega) (by omega)))
        omega
      · rw [g4 j (by omega)]; exact h2 _ _ (by omega) (by omega) j2
  refine ⟨((hst.mono s1 t2).trans (k1.mono (Nat.le_refl _) (by omega))).trans (k3.mono (by omega) (Nat.le_refl _)), fun i j i1 ij j2 => ?_⟩
  by_cases qj : j < mid
  · rw [k3.out i (.inl (by omega)), k3.out j (.inl qj)]; exact k2 i j i1 ij qj
  · by_cases qi : i < mid
    · rw [k3.out i (.inl qi)]
      obtain ⟨p, p1, p2, ep⟩ := k1.mem i i1 qi
      obtain ⟨q, q1, q2, eq⟩ := k3.mem j (by omega) j2
      rw [ep, eq, k1.out q (.inr q1)]
      exact cross p q p1 p2 q1 q2
    · exact k4 i j (by omega) ij j2

theorem rot_parts {d d1 : Array α} {a m b mid s t : Nat} (h1 : Srt c d a m) (h2 : Srt c d m b) (F : Found c d a m b mid s t) (hr : RotL d d1 s m t) :
    Srt c d1 a s ∧ Srt c d1 s mid ∧ Srt c d1 mid t ∧ Srt c d1 t b := by
  have hle := hr.le
  have am := F.half; have sm := F.sum; have s1 := F.s1; have s2 := F.s2; have t1 := F.t1; have t2 := F.t2
  refine ⟨(h1.sub (Nat.le_refl _) s2).keep fun i _ q => hr.out i (.inl q), fun i j p q r => ?_, fun i j p q r => ?_, (h2.sub t1 (Nat.le_refl _)).keep fun i q _ => hr.out i (.inr q)⟩
  · rw [hr.lo i p (by omega), hr.lo j (by omega) (by omega)]; exact h2 _ _ (by omega) (by omega) (by omega)
  · rw [hr.hi i (by omega) (by omega), hr.hi j (by omega) r]; exact h1 _ _ (by omega) (by omega) (by omega)
theorem Srt.none (c : α → α → Int) (d : Array α) {a b : Nat} (h : b ≤ a + 1) : Srt c d a b := fun i j _ _ _ => by omega
theorem Srt.join0 {d : Array α} {a s b : Nat} (h : Srt c d a s) (k : Srt c d s b) (e : s = a ∨ s = b) : Srt c d a b := by
  rcases e with rfl | rfl
  · exact k
  · exact h

/-- the library's insertion is stable -/
theorem ins_inner (O : Ord3 c) (a b : Nat) : ∀ (j : Nat) (d : Array α), j < b → b ≤ d.size → Stb c a b d (insInner (fun x y => decide (c x y < 0)) a j d)
  | 0, d, _, _ => Stb.refl _ _ _ _
  | j + 1, d, h1, h2 => by
    simp only [insInner]
    split
    · rename_i hq
      simp only [gt_iff_lt, Bool.and_eq_true, decide_eq_true_eq] at hq
      have r0 := (RotL.same_l d (j + 1) (j + 1 + 1) (by omega) (by omega)).down
      have s0 := Stb.rot O r0 fun p q h3 h4 h5 h6 => by
        obtain rfl : p = j := by omega
        obtain rfl : q = p + 1 := by omega
        exact hq.2
      exact (s0.mono (by omega) (by omega)).trans (ins_inner O a b j _ (by omega) (by rw [swp_size]; exact h2))
    · exact Stb.refl _ _ _ _
theorem ins_outer (O : Ord3 c) (a b : Nat) : ∀ (f i : Nat) (d : Array α), b - i ≤ f → b ≤ d.size → Stb c a b d (insOuter (fun x y => decide (c x y < 0)) a b i d)
  | 0, i, d, hf, h2 => by rw [insOuter_stop _ _ _ _ _ (by omega)]; exact Stb.refl _ _ _ _
  | f + 1, i, d, hf, h2 => by
    by_cases q : i < b
    · rw [insOuter_go _ _ _ _ _ q]
      have s := ins_inner O a b i d q h2
      exact s.trans (ins_outer O a b f (i + 1) _ (by omega) (by rw [s.size]; exact h2))
    · rw [insOuter_stop _ _ _ _ _ q]; exact Stb.refl _ _ _ _
end
section
variable {α : Type} [Inhabited α] {c : α → α → Int}
/-- from lo on, each block is sorted -/
def Blocks (c : α → α → Int) (d : Array α) (bs n lo : Nat) : Prop := ∀ k, lo ≤ k * bs → Srt c d (k * bs) (min (k * bs + bs) n)
/-- up to hi, each block is sorted -/
def Done (c : α → α → Int) (d : Array α) (bs n hi : Nat) : Prop := ∀ k, k * bs < hi → Srt c d (k * bs) (min (k * bs + bs) n)

theorem Done.step {d e : Array α} {bs n q : Nat} (h : Done c d bs n (q * bs)) (hs : Stb c (q * bs) (min (q * bs + bs) n) d e) (hk : Srt c e (q * bs) (min (q * bs + bs) n)) : Done c e bs n (q * bs + bs) := by
  intro k hk2
  by_cases r : k < q
  · have hm := by
      have := Nat.mul_le_mul_right bs (show k + 1 ≤ q from r)
      rwa [Nat.add_mul, Nat.one_mul] at this
    exact (h k (by omega)).keep fun i h1 h2 => hs.out i (.inl (by omega))
  · have : k = q := by
      by_cases r2 : q < k
      · have := Nat.mul_le_mul_right bs (show q + 1 ≤ k from r2)
        rw [Nat.add_mul, Nat.one_mul] at this
        omega
      · omega
    subst this
    exact hk
theorem Done.start (d : Array α) (bs n : Nat) : Done c d bs n 0 := fun k h => by omega
theorem Done.whole {d : Array α} {bs n : Nat} (h : Done c d bs n n) (hb : n ≤ bs) : Srt c d 0 n := by
  by_cases q : 0 < n
  · have := h 0 (by omega)
    rw [Nat.zero_mul, Nat.zero_add, Nat.min_eq_right hb] at this
    exact this
  · exact Srt.none _ _ (by omega)
theorem Done.mono {d : Array α} {bs n hi hi' : Nat} (h : Done c d bs n hi) (hh : hi' ≤ hi) : Done c d bs n hi' := fun k hk => h k (by omega)

/-- blocks of bs, of which those up to q twos are merged -/
structure Half (c : α → α → Int) (d : Array α) (bs n q : Nat) : Prop where
  two : Done c d (2 * bs) n (q * (2 * bs))
  one : ∀ k, q * (2 * bs) ≤ k * bs → k * bs < n → Srt c d (k * bs) (min (k * bs + bs) n)
theorem Half.start {d : Array α} {bs n : Nat} (h : Done c d bs n n) : Half c d bs n 0 := ⟨by rw [Nat.zero_mul]; exact Done.start d _ n, fun k _ hk => h k hk⟩
theorem Half.step {d e : Array α} {bs n q : Nat} (hb : 0 < bs) (h : Half c d bs n q) (hs : Stb c (q * (2 * bs)) (min (q * (2 * bs) + 2 * bs) n) d e) (hk : Srt c e (q * (2 * bs)) (min (q * (2 * bs) + 2 * bs) n)) : Half c e bs n (q + 1) := by
  have e1 : (q + 1) * (2 * bs) = q * (2 * bs) + 2 * bs := by rw [Nat.add_mul, Nat.one_mul]
  refine ⟨by rw [e1]; exact Done.step h.two hs hk, fun k h1 h2 => ?_⟩
  rw [e1] at h1
  exact (h.one k (by omega) h2).keep fun i h3 h4 => hs.out i (.inr (by omega))
theorem Half.parts {d : Array α} {bs n q : Nat} (h : Half c d bs n q) (h1 : q * (2 * bs) + bs < n) : Srt c d (q * (2 * bs)) (q * (2 * bs) + bs) ∧ Srt c d (q * (2 * bs) + bs) (min (q * (2 * bs) + 2 * bs) n) := by
  have e1 : 2 * q * bs = q * (2 * bs) := by rw [Nat.mul_comm 2 q, Nat.mul_assoc]
  have e2 : (2 * q + 1) * bs = q * (2 * bs) + bs := by rw [Nat.add_mul, Nat.one_mul, e1]
  have a := h.one (2 * q) (by omega) (by omega)
  have b := h.one (2 * q + 1) (by omega) (by omega)
  rw [e1, Nat.min_eq_left (by omega)] at a
  rw [e2, show q * (2 * bs) + bs + bs = q * (2 * bs) + 2 * bs from by omega] at b
  exact ⟨a, b⟩
/-- the last ones: merged, or there was but one block -/
theorem Half.finish {d : Array α} {bs n q : Nat} (hb : 0 < bs) (h : Half c d bs n q) (h1 : n ≤ q * (2 * bs) + bs) : Done c d (2 * bs) n n := by
  intro k hk
  by_cases r : k < q
  · exact h.two k (Nat.mul_lt_mul_of_pos_right r (by omega))
  · have hm := Nat.mul_le_mul_right (2 * bs) (show q ≤ k by omega)
    have e1 : 2 * k * bs = k * (2 * bs) := by rw [Nat.mul_comm 2 k, Nat.mul_assoc]
    have a := h.one (2 * k) (by omega) (by omega)
    rw [e1] at a
    exact a.sub (Nat.le_refl _) (by omega)
theorem Half.all {d : Array α} {bs n q : Nat} (h : Half c d bs n q) (h1 : n ≤ q * (2 * bs)) : Done c d (2 * bs) n n := h.two.mono h1
end
end Go.Proofs.YtbicefgjompnoaaDoor.Sx
