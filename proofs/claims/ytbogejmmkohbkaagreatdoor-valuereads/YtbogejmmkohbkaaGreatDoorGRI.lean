/- The reference: the set of values. -/
import Derived.Test.YtbogejmmkohbkaaGreatDoorGRH
import Derived.Test.YtbogejmmkohbkaaGreatDoorGC1
namespace Go.Proofs.YtbogejmmkohbkaaGreatDoor.Sx
open Go.RowKit Go.Sort

theorem Fr.top {a b c : World} {B : Nat} (h : Fr (fun _ => True) a b) (k : Fr (fun k => k < B) b c) (hB : a.heap.size ≤ B) : Fr (fun _ => True) a c :=
  ⟨k.os.trans h.os, k.tape.trans h.tape, k.output.trans h.output, Nat.le_trans h.size k.size, fun i hi _ => (k.block i (Nat.lt_of_lt_of_le hi h.size) (Nat.lt_of_lt_of_le hi hB)).trans (h.block i hi trivial)⟩

/-- how many come ahead -/
def posOf (n : Nat) (es : List (AV n)) (x : AV n) : Nat := (es.filter fun y => decide (cmpV n y x < 0)).length
def isIn (n : Nat) (es : List (AV n)) (x : AV n) : Bool := es.any fun y => cmpV n y x == 0
theorem pos_iff {n : Nat} {x : AV n} : ∀ (es : List (AV n)), Asc (cmpV n) es → ∀ (j : Nat) (y : AV n), es[j]? = some y → (j < posOf n es x ↔ cmpV n y x < 0)
  | [], _, j, y, h => by simp at h
  | e :: es, hA, j, y, h => by
    obtain ⟨h1, h2⟩ := List.pairwise_cons.1 hA
    by_cases hc : cmpV n e x < 0
    · have hp : posOf n (e :: es) x = posOf n es x + 1 := by simp [posOf, hc]
      rw [hp]
      cases j with
      | zero => simp at h; subst h; simp [hc]
      | succ j => rw [← pos_iff es h2 j y (by simpa using h)]; omega
    · have hall : ∀ z ∈ es, ¬ cmpV n z x < 0 := fun z hz q => hc (lt_tr (h1 z hz) q)
      have hp : posOf n (e :: es) x = 0 := by
        unfold posOf
        rw [List.filter_cons, if_neg (by simpa using hc), List.filter_eq_nil_iff.2 (fun z hz => by simpa using hall z hz)]; rfl
      rw [hp]
      refine ⟨fun q => by omega, fun q => ?_⟩
      cases j with
      | zero => simp at h; subst h; exact absurd q hc
      | succ j => exact absurd q (hall y (List.mem_of_getElem? (by simpa using h)))
theorem placed_of {n : Nat} {es : List (AV n)} {x : AV n} (hA : Asc (cmpV n) es) : Placed n es x (posOf n es x) (isIn n es x) := by
  have hle : posOf n es x ≤ es.length := List.length_filter_le _ _
  refine ⟨hle, fun hf => ?_, fun hf j y hy => ⟨fun q => (pos_iff es hA j y hy).1 q, fun q => ?_⟩⟩
  · obtain ⟨y, hy, e⟩ := List.any_eq_true.1 hf
    have hyx : y = x := (cmpV_eq n y x).1 (by simpa using e)
    subst hyx
    obtain ⟨j, hj⟩ := List.mem_iff_getElem?.1 hy
    have h1 : ¬ j < posOf n es y := fun q => by
      have := (pos_iff es hA j y hj).1 q
      rw [(ord n).self] at this; omega
    have h2 : ¬ posOf n es y < j := fun q => by
      have hlt : posOf n es y < es.length := by have := (List.getElem?_eq_some_iff.1 hj).1; omega
      have hp : es[posOf n es y]? = some es[posOf n es y] := List.getElem?_eq_getElem hlt
      have := asc_at hA q hp hj
      have := (pos_iff es hA _ _ hp).2 this
      omega
    rw [show posOf n es y = j by omega]; exact hj
  · have h1 : ¬ cmpV n y x < 0 := fun e => by have := (pos_iff es hA j y hy).2 e; omega
    have h2 : cmpV n y x ≠ 0 := fun e => by
      have := List.any_eq_false.1 hf y (List.mem_of_getElem? hy)
      simp [e] at this
    omega
theorem Placed.one {n : Nat} {es : List (AV n)} {x : AV n} {i : Nat} {f : Bool} (h : Placed n es x i f) (hA : Asc (cmpV n) es) : i = posOf n es x ∧ f = isIn n es x := by
  have k := placed_of (x := x) hA
  have key : ∀ (i j : Nat), es[i]? = some x → es[j]? = some x → i = j := fun i j hi hj => by
    have s0 := (ord n).self x
    rcases Nat.lt_trichotomy i j with q | q | q
    · have := asc_at hA q hi hj; omega
    · exact q
    · have := asc_at hA q hj hi; omega
  cases f with
  | true =>
    have hx := h.yes rfl
    have hin : isIn n es x = true := List.any_eq_true.2 ⟨x, List.mem_of_getElem? hx, by simp [(ord n).self x]⟩
    exact ⟨key _ _ hx (k.yes hin), hin.symm⟩
  | false =>
    have hno := h.no rfl
    have hin : isIn n es x = false := by
      cases q : isIn n es x with
      | false => rfl
      | true =>
        have hx := k.yes q
        have := hno _ x hx
        rw [(ord n).self] at this
        omega
    have kno := k.no hin
    refine ⟨?_, hin.symm⟩
    rcases Nat.lt_trichotomy i (posOf n es x) with q | q | q
    · have hlt : i < es.length := by have := k.le; omega
      have a := (hno i _ (List.getElem?_eq_getElem hlt)).2 (Nat.le_refl _)
      have b := (kno i _ (List.getElem?_eq_getElem hlt)).1 q
      omega
    · exact q
    · have hlt : posOf n es x < es.length := by have := h.le; omega
      have a := (kno _ _ (List.getElem?_eq_getElem hlt)).2 (Nat.le_refl _)
      have b := (hno _ _ (List.getElem?_eq_getElem hlt)).1 q
      omega
theorem place_det (n : Nat) (P : Nat → Prop) (w : World) (a : Option Addr) (len cap : Nat) (es : List (AV n)) (x : AV n) (v : Value) (h1 : Row5 P w (Ref P w n) a len es) (hx : Ref P w n x v) (hA : Asc (cmpV n) es) (hv : ∃ c0 c1 c2 c3 c4, v = .agg #[c0, c1, c2, c3, c4]) :
    Calls Tryz.prog 83 #[.slice a len cap, v] w fun e w' => e = .returned (.tuple #[.int .i64 (posOf n es x), .bool (isIn n es x)]) ∧ Grew w w' := by
  refine (place_any n P w a len cap es x v h1 hx hA hv).mono ?_
  rintro e w' ⟨i, f, rfl, hg, hp⟩
  obtain ⟨rfl, rfl⟩ := hp.one hA
  exact ⟨rfl, hg⟩

theorem Placed.asc {n : Nat} {es : List (AV n)} {x : AV n} {i : Nat} (h : Placed n es x i false) (hA : Asc (cmpV n) es) : Asc (cmpV n) (es.take i ++ x :: es.drop i) := by
  have hno := h.no rfl
  unfold Asc at *
  rw [List.pairwise_append]
  refine ⟨hA.sublist (List.take_sublist _ _), List.pairwise_cons.2 ⟨fun y hy => ?_, hA.sublist (List.drop_sublist _ _)⟩, fun a ha b hb => ?_⟩
  · obtain ⟨j, hj⟩ := List.mem_iff_getElem?.1 hy
    rw [List.getElem?_drop] at hj
    have := (hno _ y hj).2 (by omega)
    have a2 := (ord n).anti y x
    omega
  · obtain ⟨j, hj⟩ := List.mem_iff_getElem?.1 ha
    have hji : j < i := by
      have := (List.getElem?_eq_some_iff.1 hj).1
      rw [List.length_take] at this; omega
    rw [List.getElem?_take_of_lt hji] at hj
    have h1 := (hno _ a hj).1 hji
    rcases List.mem_cons.1 hb with rfl | hb
    · exact h1
    · obtain ⟨j2, hj2⟩ := List.mem_iff_getElem?.1 hb
      rw [List.getElem?_drop] at hj2
      exact asc_at hA (by omega) hj hj2
theorem mem_put {α : Type} (es : List α) (x z : α) (i : Nat) : z ∈ es.take i ++ x :: es.drop i ↔ z = x ∨ z ∈ es := by
  have : z ∈ es ↔ z ∈ es.take i ++ es.drop i := by rw [List.take_append_drop]
  rw [this]
  simp only [List.mem_append, List.mem_cons]
  constructor
  · rintro (h | h | h)
    · exact .inr (.inl h)
    · exact .inl h
    · exact .inr (.inr h)
  · rintro (h | h | h)
    · exact .inr (.inl h)
    · exact .inl h
    · exact .inr (.inr h)

/-- rows of five cells that are values -/
def Are (P : Nat → Prop) (w : World) (n : Nat) (es : List (AV n)) (hs : List H5) : Prop :=
  hs.length = es.length ∧ ∀ (i : Nat) (x : AV n) (h : H5), es[i]? = some x → hs[i]? = some h → Ref P w n x h.v
theorem Are.put {P : Nat → Prop} {w : World} {n : Nat} {es : List (AV n)} {hs : List H5} (h : Are P w n es hs) {x : AV n} {u : H5} (hx : Ref P w n x u.v) (i : Nat) (hi : i ≤ es.length) : Are P w n (es.take i ++ x :: es.drop i) (hs.take i ++ u :: hs.drop i) := by
  have hl := h.1
  refine ⟨by simp [hl], fun j y g hy hg => ?_⟩
  have l1 : (es.take i).length = i := by rw [List.length_take]; omega
  have l2 : (hs.take i).length = i := by rw [List.length_take]; omega
  rcases Nat.lt_trichotomy j i with q | q | q
  · rw [List.getElem?_append_left (by omega), List.getElem?_take_of_lt q] at hy hg
    exact h.2 j y g hy hg
  · subst q
    rw [List.getElem?_append_right (by omega), l1, Nat.sub_self] at hy
    rw [List.getElem?_append_right (by omega), l2, Nat.sub_self] at hg
    simp at hy hg
    subst hy hg
    exact hx
  · rw [List.getElem?_append_right (by omega), l1] at hy
    rw [List.getElem?_append_right (by omega), l2] at hg
    obtain ⟨m, hm⟩ : ∃ m, j - i = m + 1 := ⟨j - i - 1, by omega⟩
    rw [hm, List.getElem?_cons_succ, List.getElem?_drop] at hy hg
    exact h.2 _ y g hy hg
theorem Ref.ones {P : Nat → Prop} {w : World} : ∀ {n : Nat} {x : AV n} {v : Value}, Ref P w n x v → ∃ h : H5, v = h.v
  | 0, _, _, h => absurd h id
  | n + 1, x, v, h => by
    obtain ⟨s, ka, kl, kc, va, vl, vc, e, _⟩ := h
    exact ⟨⟨_, _, _, _, _, rfl, rfl, rfl, rfl, rfl⟩, e⟩
/-- what a slice owns is a row -/
theorem row_of_owns {w wr : World} {base n : Nat} {P : Nat → Prop} {sl : Value} {es : List (AV n)} {hs : List H5} (ho : wr.ownsRow base 30 5 sl hs.length (flat5 hs)) (ha : Are P w n es hs) (hl : hs.length ≤ 4294967296) (hf : Fr P w wr) : ∃ a len cap, sl = .slice a len cap ∧ Row5 (fun _ => True) wr (Ref (fun _ => True) wr n) a len es := by
  rcases ho.2 with ⟨rfl, h0⟩ | ⟨g, cap, cur, rfl, h1⟩
  · have : es = [] := List.eq_nil_of_length_eq_zero (by rw [← ha.1]; exact h0)
    subst this
    exact ⟨none, 0, 0, rfl, row5_none _ _ _ _⟩
  · have O := (Own5.of ho).1
    refine ⟨_, _, _, rfl, ha.1, hl, .inr ⟨g, 0, rfl, O.lt, trivial, fun i x hx => ?_⟩⟩
    have hi := (List.getElem?_eq_some_iff.1 hx).1
    obtain ⟨h, hh⟩ : ∃ h, hs[i]? = some h := ⟨_, List.getElem?_eq_getElem (by rw [ha.1]; exact hi)⟩
    obtain ⟨⟨c0, c1, c2, c3, c4⟩, _⟩ := O.at hh
    refine ⟨h.v, ⟨h.c0, h.c1, h.c2, h.c3, h.c4, rfl, ?_, ?_, ?_, ?_, ?_⟩, (ha.2 i x h hx hh).fr hf (fun _ _ _ => trivial) n x h.v⟩
    all_goals rw [Nat.zero_add]; assumption

/-- the set's list so far -/
structure SetSo (n : Nat) (es : List (AV n)) (k : Nat) (acc : List (AV n)) : Prop where
  asc : Asc (cmpV n) acc
  mem : ∀ z, z ∈ acc ↔ z ∈ es.take k
  len : acc.length ≤ k
theorem SetSo.start (n : Nat) (es : List (AV n)) : SetSo n es 0 [] := ⟨List.Pairwise.nil, fun z => by simp, Nat.le_refl _⟩
theorem SetSo.skip {n : Nat} {es : List (AV n)} {k : Nat} {acc : List (AV n)} {x : AV n} (h : SetSo n es k acc) (hx : es[k]? = some x) (hin : isIn n acc x = true) : SetSo n es (k + 1) acc := by
  refine ⟨h.asc, fun z => ?_, by have := h.len; omega⟩
  rw [List.take_add_one, hx, List.mem_append, ← h.mem z]
  constructor
  · exact .inl
  · rintro (q | q)
    · exact q
    · simp at q
      subst q
      exact List.mem_of_getElem? ((placed_of h.asc).yes hin)
theorem SetSo.put {n : Nat} {es : List (AV n)} {k : Nat} {acc : List (AV n)} {x : AV n} (h : SetSo n es k acc) (hx : es[k]? = some x) (hin : isIn n acc x = false) : SetSo n es (k + 1) (acc.take (posOf n acc x) ++ x :: acc.drop (posOf n acc x)) := by
  have hp := placed_of (x := x) h.asc
  rw [hin] at hp
  refine ⟨hp.asc h.asc, fun z => ?_, ?_⟩
  · rw [mem_put, List.take_add_one, hx, List.mem_append, ← h.mem z]
    constructor
    · rintro (q | q)
      · exact .inr (by simp [q])
      · exact .inl q
    · rintro (q | q)
      · exact .inr q
      · exact .inl (by simpa using q)
  · have := h.len
    have := hp.le
    rw [List.length_append, List.length_cons, List.length_take, List.length_drop]; omega
theorem SetSo.done {n : Nat} {es acc : List (AV n)} (h : SetSo n es es.length acc) : acc = normA (cmpV n) es := by
  refine asc_one (ord n) _ _ h.asc (normA_asc (ord n) (fun a b e => (cmpV_eq n a b).1 e) es) (fun z => ?_)
  rw [h.mem z, List.take_length]
  exact (normA_mem (fun a b e => (cmpV_eq n a b).1 e) es z).symm
end Go.Proofs.YtbogejmmkohbkaaGreatDoor.Sx
