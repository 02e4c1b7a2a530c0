/- The reference: the set of values. -/
import Derived.Test.YtbogejmmkohbkaaGreatDoorGRH
import Derived.Test.YtbogejmmkohbkaaGreatDoorGC1
namespace Go.Proofs.YtbogejmmkohbkaaGreatDoor.Sx
open Go.RowKit Go.Sort

theorem Fr.top {a b c : World} {B : Nat} (h : Fr (fun _ => True) a b) (k : Fr (fun k => k < B) b c) (hB : a.heap.size ≤ B) : Fr (fun _ => True) a c :=
  ⟨k.os.trans h.os, k.tape.trans h.tape, k.output.trans h.output, Nat.le_trans h.size k.size, fun i hi _ => (k.block i (Nat.lt_of_lt_of_le hi h.size) (Nat.lt_of_lt_of_le hi hB)).trans (h.block i hi trivial)⟩

/-- how many come ahead -/
def posOf (n : Nat) (es : List (AV n)) (x : AV n) : Nat := (es.filter fun y => decide (cmpV n y x < 0)).length
def isIn (n : Nat) (es : List (AV n)) (x : AV n) : Bool := es.any fun y => cmpV n y x == 0
theorem pos_iff {n : Nat} {x : AV n} : ∀ (es : List (AV n)), Asc (cmpV n) es → ∀ (j : Nat) (y : AV n), es[j]? = some y → (j < posOf n es x ↔ cmpV n y x < 0)
  | [], _, j, y, h => by simp at h
  | e :: es, hA, j, y, h => by
    obtain ⟨h1, h2⟩ := List.pairwise_cons.1 hA
    by_cases hc : cmpV n e x < 0
    · have hp : posOf n (e :: es) x = posOf n es x + 1 := by simp [posOf, hc]
      rw [hp]
      cases j with
      | zero => simp at h; subst h; simp [hc]
      | succ j => rw [← pos_iff es h2 j y (by simpa using h)]; omega
    · have hall : ∀ z ∈ es, ¬ cmpV n z x < 0 := fun z hz q => hc (lt_tr (h1 z hz) q)
      have hp : posOf n (e :: es) x = 0 := by
        unfold posOf
        rw [List.filter_cons, if_neg (by simpa using hc), List.filter_eq_nil_iff.2 (fun z hz => by simpa using hall z hz)]; rfl
      rw [hp]
      refine ⟨fun q => by omega, fun q => ?_⟩
      cases j with
      | zero => simp at h; subst h; exact absurd q hc
      | succ j => exact absurd q (hall y (List.mem_of_getElem? (by simpa using h)))
theorem placed_of {n : Nat} {es : List (AV n)} {x : AV n} (hA : Asc (cmpV n) es) : Placed n es x (posOf n es x) (isIn n es x) := by
  have hle : posOf n es x ≤ es.length := List.length_filter_le _ _
  refine ⟨hle, fun hf => ?_, fun hf j y hy => ⟨fun q => (pos_iff es hA j y hy).1 q, fun q => ?_⟩⟩
  · obtain ⟨y, hy, e⟩ := List.any_eq_true.1 hf
    have hyx : y = x := (cmpV_eq n y x).1 (by simpa using e)
    subst hyx
    obtain ⟨j, hj⟩ := List.mem_iff_getElem?.1 hy
    have h1 : ¬ j < posOf n es y := fun q => by
      have := (pos_iff es hA j y hj).1 q
      rw [(ord n).self] at this; omega
    have h2 : ¬ posOf n es y < j := fun q => by
      have hlt : posOf n es y < es.length := by have := (List.getElem?_eq_some_iff.1 hj).1; omega
      have hp : es[posOf n es y]? = some es[posOf n es y] := List.getElem?_eq_getElem hlt
      have := asc_at hA q hp hj
      have := (pos_iff es hA _ _ hp).2 this
      omega
    rw [show posOf n es y = j by omega]; exact hj
  · have h1 : ¬ cmpV n y x < 0 := fun e => by have := (pos_iff es hA j y hy).2 e; omega
    have h2 : cmpV n y x ≠ 0 := fun e => by
      have := List.any_eq_false.1 hf y (List.mem_of_getElem? hy)
      simp [e] at this
    omega
theorem Placed.one {n : Nat} {es : List (AV n)} {x : AV n} {i : Nat} {f : Bool} (h : Placed n es x i f) (hA : Asc (cmpV n) es) : i = posOf n es x ∧ f = isIn n es x := by
  have k := placed_of (x := x) hA
  have key : ∀ (i j : Nat), es[i]? = some x → es[j]? = some x → i = j := fun i j hi hj => by
    have s0 := (ord n).self x
    rcases Nat.lt_trichotomy i j with q | q | q
    · have := asc_at hA q hi hj; omega
    · exact q
    · have := asc_at hA q hj hi; omega
  cases f with
  | true =>
    have hx := h.yes rfl
    have hin : isIn n es x = true := List.any_eq_true.2 ⟨x, List.mem_of_getElem? hx, by simp [(ord n).self x]⟩
    exact ⟨key _ _ hx (k.yes hin), hin.symm⟩
  | false =>
    have hno := h.no rfl
    have hin : isIn n es x = false := by
      cases q : isIn n es x with
      | false => rfl
      | true =>
        have hx := k.yes q
        have := hno _ x hx
        rw [(ord n).self] at this
        omega
    have kno := k.no hin
    refine ⟨?_, hin.symm⟩
    rcases Nat.lt_trichotomy i (posOf n es x) with q | q | q
    · have hlt : i < es.length := by have := k.le; omega
      have a := (hno i _ (List.getElem?_eq_getElem hlt)).2 (Nat.le_refl _)
      have b := (kno i _ (List.getElem?_eq_getElem hlt)).1 q
      omega
    · exact q
    · have hlt : posOf n es x < es.length := by have := h.le; omega
      have a := (kno _ _ (List.getElem?_eq_getElem hlt)).2 (Nat.le_refl _)
      have b := (hno _ _ (List.getElem?_eq_getElem hlt)).1 q
      omega
theorem place_det (n : Nat) (P : Nat → Prop) (w : World) (a : Option Addr) (len cap : Nat) (es : List (AV n)) (x : AV n) (v : Value) (h1 : Row5 P w (Ref P w n) a len es) (hx : Ref P w n x v) (hA : Asc (cmpV n) es) (hv : ∃ c0 c1 c2 c3 c4, v = .agg #[c0, c1, c2, c3, c4]) :
    Calls Tryz.prog 83 #[.slice a len cap, v] w fun e w' => e = .returned (.tuple #[.int .i64 (posOf n es x), .bool (isIn n es x)]) ∧ Grew w w' := by
  refine (place_any n P w a len cap es x v h1 hx hA hv).mono ?_
  rintro e w' ⟨i, f, rfl, hg, hp⟩
  obtain ⟨rfl, rfl⟩ := hp.one hA
  exact ⟨rfl, hg⟩

theorem Placed.asc {n : Nat} {es : List (AV n)} {x : AV n} {i : Nat} (h : Placed n es x i false) (hA : Asc (cmpV n) es) : Asc (cmpV n) (es.take i ++ x :: es.drop i) := by
  have hno := h.no rfl
  unfold Asc at *
  rw [List.pairwise_append]
  refine ⟨hA.sublist (List.take_sublist _ _), List.pairwise_cons.2 ⟨fun y hy => ?_, hA.sublist (List.drop_sublist _ _)⟩, fun a ha b hb => ?_⟩
  · obtain ⟨j, hj⟩ := List.mem_iff_getElem?.1 hy
    rw [List.getElem?_drop] at hj
    have := (hno _ y hj).2 (by omega)
    have a2 := (ord n).anti y x
    omega
  · obtain ⟨j, hj⟩ := List.mem_iff_getElem?.1 ha
    have hji : j < i := by
      have := (List.getElem?_eq_some_iff.1 hj).1
      rw [List.length_take] at this; omega
    rw [List.getElem?_take_of_lt hji] at hj
    have h1 := (hno _ a hj).1 hji
    rcases List.mem_cons.1 hb with rfl | hb
    · exact h1
    · obtain ⟨j2, hj2⟩ := List.mem_iff_getElem?.1 hb
      rw [List.getElem?_drop] at hj2
      exact asc_at hA (by omega) hj hj2
theorem mem_put {α : Type} (es : List α) (x z : α) (i : Nat) : z ∈ es.take i ++ x :: es.drop i ↔ z = x ∨ z ∈ es := by
  have : z ∈ es ↔ z ∈ es.take i ++ es.drop i := by rw [List.take_append_drop]
  rw [this]
  simp only [List.mem_append, List.mem_cons]
  constructor
  · rintro (h | h | h)
    · exact .inr (.inl h)
    · exact .inl h
    · exact .inr (.inr h)
  · rintro (h | h | h)
    · exact .inr (.inl h)
    · exact .inl h
    · exact .inr (.inr h)

/-- rows of five cells that are values -/
def Are (P : Nat → Prop) (w : World) (n : Nat) (es : List (AV n)) (hs : List H5) : Prop :=
  hs.length = es.length ∧ ∀ (i : Nat) (x : AV n) (h : H5), es[i]? = some x → hs[i]? = some h → Ref P w n x h.v
theorem Are.put {P : Nat → Prop} {w : World} {n : Nat} {es : List (AV n)} {hs : List H5} (h : Are P w n es hs) {x : AV n} {u : H5} (hx : Ref P w n x u.v) (i : Nat) (hi : i ≤ es.length) : Are P w n (es.take i ++ x :: es.drop i) (hs.take i ++ u :: hs.drop i) := by
  have hl := h.1
  refine ⟨by simp [hl], fun j y g hy hg => ?_⟩
  have l1 : (es.take i).length = i := by rw [List.length_take]; omega
  have l2 : (hs.take i).length = i := by rw [List.length_take]; omega
  rcases Nat.lt_trichotomy j i with q | q | q
  · rw [List.getElem?_append_left (by omega), List.getElem?_take_of_lt q] at hy hg
    exact h.2 j y g hy hg
  · subst q
    rw [List.getElem?_append_right (by omega), l1, Nat.sub_self] at hy
    rw [List.getElem?_append_right (by omega), l2, Nat.sub_self] at hg
    simp at hy hg
    subst hy hg
    exact hx
  · rw [List.getElem?_append_right (by omega), l1] at hy
    rw [List.getElem?_append_right (by omega), l2] at hg
    obtain ⟨m, hm⟩ : ∃ m, j - i = m + 1 := ⟨j - i - 1, by omega⟩
    rw [hm, List.getElem?_cons_succ, List.getElem?_drop] at hy hg
    exact h.2 _ y g hy hg
theorem Ref.ones {P : Nat → Prop} {w : World} : ∀ {n : Nat} {x : AV n} {v : Value}, Ref P w n x v → ∃ h : H5, v = h.v
  | 0, _, _, h => absurd h id
  | n + 1, x, v, h => by
    obtain ⟨s, ka, kl, kc, va, vl, vc, e, _⟩ := h
    exact ⟨⟨_, _, _, _, _, rfl, rfl, rfl, rfl, rfl⟩, e⟩
/-- what a slice owns is a row -/
theorem row_of_owns {w wr : World} {base n : Nat} {P : Nat → Prop} {sl : Value} {es : List (AV n)} {hs : List H5} (ho : wr.ownsRow base 30 5 sl hs.length (flat5 hs)) (ha : Are P w n es hs) (hl : hs.length ≤ 4294967296) (hf : Fr P w wr) : ∃ a len cap, sl = .slice a len cap ∧ Row5 (fun _ => True) wr (Ref (fun _ => True) wr n) a len es := by
  rcases ho.2 with ⟨rfl, h0⟩ | ⟨g, cap, cur, rfl, h1⟩
  · have : es = [] := List.eq_nil_of_length_eq_zero (by rw [← ha.1]; exact h0)
    subst this
    exact ⟨none, 0, 0, rfl, row5_none _ _ _ _⟩
  · have O := (Own5.of ho).1
    refine ⟨_, _, _, rfl, ha.1, hl, .inr ⟨g, 0, rfl, O.lt, trivial, fun i x hx => ?_⟩⟩
    have hi := (List.getElem?_eq_some_iff.1 hx).1
    obtain ⟨h, hh⟩ : ∃ h, hs[i]? = some h := ⟨_, List.getElem?_eq_getElem (by rw [ha.1]; exact hi)⟩
    obtain ⟨⟨c0, c1, c2, c3, c4⟩, _⟩ := O.at hh
    refine ⟨h.v, ⟨h.c0, h.c1, h.c2, h.c3, h.c4, rfl, ?_, ?_, ?_, ?_, ?_⟩, (ha.2 i x h hx hh).fr hf (fun _ _ _ => trivial) n x h.v⟩
    all_goals rw [Nat.zero_add]; assumption

/-- the set's list so far -/
structure SetSo (n : Nat) (es : List (AV n)) (k : Nat) (acc : List (AV n)) : Prop where
  asc : Asc (cmpV n) acc
  mem : ∀ z, z ∈ acc ↔ z ∈ es.take k
  len : acc.length ≤ k
theorem SetSo.start (n : Nat) (es : List (AV n)) : SetSo n es 0 [] := ⟨List.Pairwise.nil, fun z => by simp, Nat.le_refl _⟩
theorem SetSo.skip {n : Nat} {es : List (AV n)} {k : Nat} {acc : List (AV n)} {x : AV n} (h : SetSo n es k acc) (hx : es[k]? = some x) (hin : isIn n acc x = true) : SetSo n es (k + 1) acc := by
  refine ⟨h.asc, fun z => ?_, by have := h.len; omega⟩
  rw [List.take_add_one, hx, List.mem_append, ← h.mem z]
  constructor
  · exact .inl
  · rintro (q | q)
    · exact q
    · simp at q
      subst q
      exact List.mem_of_getElem? ((placed_of h.asc).yes hin)
theorem SetSo.put {n : Nat} {es : List (AV n)} {k : Nat} {acc : List (AV n)} {x : AV n} (h : SetSo n es k acc) (hx : es[k]? = some x) (hin : isIn n acc x = false) : SetSo n es (k + 1) (acc.take (posOf n acc x) ++ x :: acc.drop (posOf n acc x)) := by
  have hp := placed_of (x := x) h.asc
  rw [hin] at hp
  refine ⟨hp.asc h.asc, fun z => ?_, ?_⟩
  · rw [mem_put, List.take_add_one, hx, List.mem_append, ← h.mem z]
    constructor
    · rintro (q | q)
      · exact .inr (by simp [q])
      · exact .inl q
    · rintro (q | q)
      · exact .inr q
      · exact .inl (by simpa using q)
  · have := h.len
    have := hp.le
    rw [List.length_append, List.length_cons, List.length_take, List.length_drop]; omega
theorem SetSo.done {n : Nat} {es acc : List (AV n)} (h : SetSo n es es.length acc) : acc = normA (cmpV n) es := by
  refine asc_one (ord n) _ _ h.asc (normA_asc (ord n) (fun a b e => (cmpV_eq n a b).1 e) es) (fun z => ?_)
  rw [h.mem z, List.take_length]
  exact (normA_mem (fun a b e => (cmpV_eq n a b).1 e) es z).symm
end Go.Proofs.YtbogejmmkohbkaaGreatDoor.Sx

namespace Go.Proofs.YtbogejmmkohbkaaGreatDoor.Sx
open Go.RowKit Go.Sort

theorem owns5_of {w w' : World} {base : Nat} {sl : Value} {n : Nat} {vs : List Value} (h : w.ownsRow base 30 5 sl n vs) (hb : ∀ g, base ≤ g → g < w.heap.size → w'.heap[g]? = w.heap[g]?) : w'.ownsRow base 30 5 sl n vs := by
  refine ⟨h.1, ?_⟩
  rcases h.2 with h' | ⟨g, cap, cur, e, hg, hq, r⟩
  · exact .inl h'
  · exact .inr ⟨g, cap, cur, e, hg, (hb g hg (block_lt hq)).trans hq, r⟩
theorem owns5_nil (w : World) (base : Nat) : w.ownsRow base 30 5 (.slice none 0 0) 0 (flat5 []) := ⟨rfl, .inl ⟨rfl, rfl⟩⟩
theorem row_of_owns2 {w wr : World} {base n : Nat} {P Q : Nat → Prop} {sl : Value} {es : List (AV n)} {hs : List H5} (ho : wr.ownsRow base 30 5 sl hs.length (flat5 hs)) (ha : Are P w n es hs) (hl : hs.length ≤ 4294967296) (hf : Fr P w wr) (h1 : ∀ g, base ≤ g → Q g) (h2 : ∀ k, k < w.heap.size → P k → Q k) : ∃ a len cap, sl = .slice a len cap ∧ Row5 Q wr (Ref Q wr n) a len es := by
  rcases ho.2 with ⟨rfl, h0⟩ | ⟨g, cap, cur, rfl, hb, _⟩
  · have : es = [] := List.eq_nil_of_length_eq_zero (by rw [← ha.1]; exact h0)
    subst this
    exact ⟨none, 0, 0, rfl, row5_none _ _ _ _⟩
  · have O := (Own5.of ho).1
    refine ⟨_, _, _, rfl, ha.1, hl, .inr ⟨g, 0, rfl, O.lt, h1 g hb, fun i x hx => ?_⟩⟩
    have hi := (List.getElem?_eq_some_iff.1 hx).1
    obtain ⟨h, hh⟩ : ∃ h, hs[i]? = some h := ⟨_, List.getElem?_eq_getElem (by rw [ha.1]; exact hi)⟩
    obtain ⟨⟨c0, c1, c2, c3, c4⟩, _⟩ := O.at hh
    refine ⟨h.v, ⟨h.c0, h.c1, h.c2, h.c3, h.c4, rfl, ?_, ?_, ?_, ?_, ?_⟩, (ha.2 i x h hx hh).fr hf h2 n x h.v⟩
    all_goals rw [Nat.zero_add]; assumption
theorem cell_far {w : World} {b b' i j : Nat} {u v : Value} (h : w.cell? ⟨b', i, none⟩ = some v) (hb : b' ≠ b) : (w.setCell ⟨b, j, none⟩ u).cell? ⟨b', i, none⟩ = some v :=
  (World.cell?_setCell_other w _ _ u (fun e => hb (congrArg Addr.block e).symm)).trans h
def MadeR (n : Nat) (P : Nat → Prop) (w : World) (r : AV n) (e : Ending) (w' : World) : Prop :=
  ∃ v, e = .returned v ∧ Ref (fun k => P k ∨ w.heap.size ≤ k) w' n r v ∧ Fr (fun _ => True) w w'

theorem fr_box {w w' : World} (h : Fr (fun _ => True) w w') {b : Nat} (hb : w.heap.size ≤ b) (o : Nat) (c0 c1 c2 c3 c4 : Value) : Fr (fun _ => True) w (set5 w' b o c0 c1 c2 c3 c4) := by
  have h2 : Fr (fun k => k < w.heap.size) w (set5 w' b o c0 c1 c2 c3 c4) := set5_fr (h.mono (fun _ _ => trivial)) (by omega) _ _ _ _ _ _
  exact ⟨h2.os, h2.tape, h2.output, h2.size, fun i hi _ => h2.block i hi hi⟩
theorem key_put {w W1 w' : World} {g cap L : Nat} {hs : List H5} {sl0 : Value} (OW : Own5 w' (w.heap.size + 2) g cap hs) (hl : hs.length = L) (BW : w'.heap[w.heap.size + 1]? = some (.cells #[.int .i64 5, .int .i64 0, .string ⟨#[]⟩, sl0, .slice none 0 0] 30 (0, 0)))
    (HR : W1.heap[w.heap.size]? = some (.cells #[.int .i64 0, .int .i64 0, .string ⟨#[]⟩, .slice none 0 0, .slice none 0 0] 30 (0, 0))) (FW : Fr (fun k => k < w.heap.size + 2) W1.drew w') (HF : Fr (fun _ => True) w W1) :
    (w'.setCell ⟨w.heap.size + 1, 3, none⟩ (.slice (some ⟨g, 0, none⟩) L cap)).ownsRow (w.heap.size + 2) 30 5 (.slice (some ⟨g, 0, none⟩) L cap) hs.length (flat5 hs) ∧
    (w'.setCell ⟨w.heap.size + 1, 3, none⟩ (.slice (some ⟨g, 0, none⟩) L cap)).heap[w.heap.size + 1]? = some (.cells #[.int .i64 5, .int .i64 0, .string ⟨#[]⟩, .slice (some ⟨g, 0, none⟩) L cap, .slice none 0 0] 30 (0, 0)) ∧
    (w'.setCell ⟨w.heap.size + 1, 3, none⟩ (.slice (some ⟨g, 0, none⟩) L cap)).heap[w.heap.size]? = some (.cells #[.int .i64 0, .int .i64 0, .string ⟨#[]⟩, .slice none 0 0, .slice none 0 0] 30 (0, 0)) ∧
    Fr (fun _ => True) w (w'.setCell ⟨w.heap.size + 1, 3, none⟩ (.slice (some ⟨g, 0, none⟩) L cap)) := by
  have hgb := OW.low
  refine ⟨?_, set_block BW 3 _, ?_, ?_⟩
  · have h := OW.owns
    rw [hl] at h ⊢
    exact owns5_of h (fun q hq _ => Below.heap_setCell _ _ _ _ (by simp; omega))
  · exact (Below.heap_setCell _ _ _ _ (by simp)).trans ((FW.block w.heap.size (block_lt HR) (by omega)).trans HR)
  · have h1 : Fr (fun _ => True) w w' := Fr.top (HF.trans (Fr.grew ((Grew.refl W1).drew))) FW (by omega)
    have h2 : Fr (fun k => k < w.heap.size) w (w'.setCell ⟨w.heap.size + 1, 3, none⟩ (.slice (some ⟨g, 0, none⟩) L cap)) := (h1.mono (fun _ _ => trivial)).set (by simp) _
    exact ⟨h2.os, h2.tape, h2.output, h2.size, fun i hi _ => h2.block i hi hi⟩
theorem put_len {α : Type} (l : List α) (x : α) (i : Nat) (h : i ≤ l.length) : (l.take i ++ x :: l.drop i).length = l.length + 1 := by
  rw [List.length_append, List.length_cons, List.length_take, List.length_drop]; omega

set_option maxRecDepth 100000 in
set_option maxHeartbeats 4000000 in
theorem setOf_ref (n : Nat) (P : Nat → Prop) (w : World) (a : Option Addr) (len cap : Nat) (es : List (AV n)) (h : Row5 P w (Ref P w n) a len es) (hl : len ≤ 5000) (hW : ∀ x ∈ es, wtR n x = wt n x ∧ wt n x ≤ 1024) :
    Calls Tryz.prog 44 #[.slice a len cap] w (MadeR (n + 1) P w (mkS (wt n) (normA (cmpV n) es) : Node (AV n))) := by
  obtain ⟨e1, b1, r1⟩ := h
  have E1 : Hid (len = es.length) := e1
  clear e1
  have HW : Hid (∀ x ∈ es, wtR n x = wt n x ∧ wt n x ≤ 1024) := hW
  clear hW
  have mo := follows
  go_enter Tryz.func44, Tryz.ntmps44
  go_wp2_with fail
  have HB0 : Hid (((w.alloc (.cells #[.int .i64 0, .int .i64 0, .string ⟨#[]⟩, .slice none 0 0, .slice none 0 0] 30)).alloc (.cells #[.int .i64 5, .int .i64 0, .string ⟨#[]⟩, .slice none 0 0, .slice none 0 0] 30)).heap[w.heap.size + 1]? = some (.cells #[.int .i64 5, .int .i64 0, .string ⟨#[]⟩, .slice none 0 0, .slice none 0 0] 30 (0, 0))) := heap_new (by simp)
  have HR0 : Hid (((w.alloc (.cells #[.int .i64 0, .int .i64 0, .string ⟨#[]⟩, .slice none 0 0, .slice none 0 0] 30)).alloc (.cells #[.int .i64 5, .int .i64 0, .string ⟨#[]⟩, .slice none 0 0, .slice none 0 0] 30)).heap[w.heap.size]? = some (.cells #[.int .i64 0, .int .i64 0, .string ⟨#[]⟩, .slice none 0 0, .slice none 0 0] 30 (0, 0))) := Below.blockAt ((Grew.refl _).alloc _).below (heap_new rfl)
  have HF0 : Hid (Fr (fun _ => True) w ((w.alloc (.cells #[.int .i64 0, .int .i64 0, .string ⟨#[]⟩, .slice none 0 0, .slice none 0 0] 30)).alloc (.cells #[.int .i64 5, .int .i64 0, .string ⟨#[]⟩, .slice none 0 0, .slice none 0 0] 30))) := Fr.grew (((Grew.refl w).alloc _).alloc _)
  generalize World.alloc (World.alloc _ _) _ = W0 at HB0 HR0 HF0 ⊢
  go_loopw [4] (fun s wr => ∃ (k : Nat) (acc : List (AV n)) (hs : List H5) (sl : Value), s = .int .i64 k ∧ k ≤ len ∧ Hid (SetSo n es k acc) ∧ Hid (Are P w n acc hs) ∧ Hid (wr.ownsRow (w.heap.size + 2) 30 5 sl hs.length (flat5 hs)) ∧ Hid (wr.heap[w.heap.size + 1]? = some (.cells #[.int .i64 5, .int .i64 0, .string ⟨#[]⟩, sl, .slice none 0 0] 30 (0, 0))) ∧ Hid (wr.heap[w.heap.size]? = some (.cells #[.int .i64 0, .int .i64 0, .string ⟨#[]⟩, .slice none 0 0, .slice none 0 0] 30 (0, 0))) ∧ Hid (Fr (fun _ => True) w wr)) (fun s _ => len - (intOf s).toNat)
  case atStart => exact ⟨0, [], [], _, rfl, Nat.zero_le _, SetSo.start n es, ⟨rfl, fun i x h hx => by simp at hx⟩, owns5_nil _ _, HB0, HR0, HF0⟩
  case round =>
    clear HB0 HR0 HF0
    obtain ⟨k, acc, hs, sl, rfl, hk, HS, HA, HO, HB, HR, HF⟩ := hrel
    have hlen : hs.length ≤ 5000 := by have := HS.out.len; have := HA.out.1; omega
    have zb := block_lt HB.out
    by_cases hlt : k < len
    · have hx : k < es.length := by rw [← E1.out]; exact hlt
      have hex : es[k]? = some es[k] := List.getElem?_eq_getElem hx
      obtain ⟨p1, o1, rfl, hp1, hP1, hc1⟩ := r1.resolve_left (by omega)
      obtain ⟨v1, hv1, hr1⟩ := hc1 k es[k] hex
      obtain ⟨u, rfl⟩ := hr1.ones
      have hv2 : Five wr p1 (o1 + k * 5) u.v := hv1.fr (HF.out.block p1 hp1 trivial)
      obtain ⟨x0, x1, x2, x3, x4, eu, g0, g1, g2, g3, g4⟩ := hv2
      have s1 : p1 < wr.heap.size := Nat.lt_of_lt_of_le hp1 HF.out.size
      obtain ⟨sa, sn, sc, rfl, hrow⟩ := row_of_owns HO.out HA.out (by omega) (HF.out.mono (fun _ _ => trivial))
      have hru : Ref (fun _ => True) wr n es[k] u.v := hr1.fr (HF.out.mono (fun _ _ => trivial)) (fun _ _ _ => trivial) n es[k] u.v
      have HPL : Hid (∀ W : World, Grew wr W → Calls Tryz.prog 83 #[.slice sa sn sc, .agg #[x0, x1, x2, x3, x4]] W fun e w' => e = .returned (.tuple #[.int .i64 (posOf n acc es[k]), .bool (isIn n acc es[k])]) ∧ Grew W w') := fun W hW => by
        rw [← eu]
        exact place_det n (fun _ => True) W sa sn sc acc es[k] u.v (hrow.grew hW) (hru.grew hW) HS.out.asc ⟨_, _, _, _, _, eu⟩
      have HSK : Hid (isIn n acc es[k] = true → SetSo n es (k + 1) acc) := HS.out.skip hex
      have HSP : Hid (isIn n acc es[k] = false → SetSo n es (k + 1) (acc.take (posOf n acc es[k]) ++ es[k] :: acc.drop (posOf n acc es[k]))) := HS.out.put hex
      have HAP : Hid (posOf n acc es[k] ≤ acc.length ∧ Are P w n (acc.take (posOf n acc es[k]) ++ es[k] :: acc.drop (posOf n acc es[k])) (hs.take (posOf n acc es[k]) ++ u :: hs.drop (posOf n acc es[k]))) :=
        ⟨(placed_of HS.out.asc).le, HA.out.put hr1 _ (placed_of HS.out.asc).le⟩
      have HAL := HA.out.1
      clear hc1 hv1 hr1 r1 hrow hru HS
      generalize posOf n acc es[k] = pp at HPL HSP HAP
      generalize hb : isIn n acc es[k] = bb at HPL HSK HSP
      clear hb
      have i0 := cell_grown (w := wr) (a := ⟨p1, o1 + k * 5, none⟩) s1 g0
      have i1 := cell_grown (w := wr) (a := ⟨p1, o1 + k * 5 + 1, none⟩) s1 g1
      have i2 := cell_grown (w := wr) (a := ⟨p1, o1 + k * 5 + 2, none⟩) s1 g2
      have i3 := cell_grown (w := wr) (a := ⟨p1, o1 + k * 5 + 3, none⟩) s1 g3
      have i4 := cell_grown (w := wr) (a := ⟨p1, o1 + k * 5 + 4, none⟩) s1 g4
      have j3 := cell_grown (w := wr) (a := ⟨w.heap.size + 1, 3, none⟩) zb (block_cell HB.out 3)
      clear g0 g1 g2 g3 g4
      go_wp2_with fail
      go_quiet_grown (first | (go_at_call 83; refine Calls.grown_of (HPL.out _ ⟨_, _, rfl⟩)))
      have G1 : Grew wr (grow (wr.drewN nq) osq) := ⟨nq, osq, rfl⟩
      have HO1 : Hid ((grow (wr.drewN nq) osq).ownsRow (w.heap.size + 2) 30 5 (.slice sa sn sc) hs.length (flat5 hs)) := owns5_of HO.out (fun g _ hg => G1.below.block g hg)
      have HB1 : Hid ((grow (wr.drewN nq) osq).heap[w.heap.size + 1]? = _) := Below.blockAt G1.below HB.out
      have HR1 : Hid ((grow (wr.drewN nq) osq).heap[w.heap.size]? = _) := Below.blockAt G1.below HR.out
      have HF1 : Hid (Fr (fun _ => True) w (grow (wr.drewN nq) osq)) := HF.out.trans (Fr.grew G1)
      have m0 := i0 nq osq
      have m1 := i1 nq osq
      have m2 := i2 nq osq
      have m3 := i3 nq osq
      have m4 := i4 nq osq
      have n1 : p1 < (grow (wr.drewN nq) osq).heap.size := Nat.lt_of_lt_of_le s1 G1.below.size
      show Exit.then _ _ _ _ (grow (wr.drewN nq) osq)
      clear i0 i1 i2 i3 i4 j3 HPL HO HB HR HF G1 s1 zb
      generalize grow (wr.drewN nq) osq = W1 at HO1 HB1 HR1 HF1 m0 m1 m2 m3 m4 n1 ⊢
      clear nq osq
      have zb := block_lt HB1.out
      cases bb with
      | true =>
        have HSN : Hid (SetSo n es (k + 1) acc) := HSK.out rfl
        clear m0 m1 m2 m3 m4
        go_wp2_with fail
        go_roundw
        case rel => exact ⟨k + 1, acc, hs, _, by go_num, by omega, HSN, HA, HO1, HB1, HR1, HF1⟩
        case measure => simp [intOf]; omega
      | false =>
        have HSN : Hid (SetSo n es (k + 1) (acc.take pp ++ es[k] :: acc.drop pp)) := HSP.out rfl
        have HPU : Hid (∀ W : World, Grew W1 W → Calls Tryz.prog 84 #[.slice sa sn sc, .int .i64 pp, .agg #[x0, x1, x2, x3, x4]] W fun e w' => ∃ g cap, e = .returned (.slice (some ⟨g, 0, none⟩) (hs.length + 1) cap) ∧ Own5 w' (w.heap.size + 2) g cap (hs.take pp ++ u :: hs.drop pp) ∧ Fr (fun k => k < w.heap.size + 2) W w') := fun W hW => by
          rw [← eu]
          exact put_any W (w.heap.size + 2) (.slice sa sn sc) hs u pp (by rw [HAL]; exact HAP.out.1) (owns5_of HO1.out (fun g _ hg => hW.below.block g hg)) (by have := hW.below.size; omega) hlen
        have c3 := block_cell HB1.out 3
        have f3 := frozen_block HB1.out 3
        clear HSK HSP
        go_wp2_with fail
        have hpb : p1 < w.heap.size + 2 := by omega
        have hpn : p1 ≠ w.heap.size + 1 := by omega
        have c3d : W1.drew.cell? ⟨w.heap.size + 1, 3, none⟩ = some (.slice sa sn sc) := c3
        have d0 : W1.drew.cell? ⟨p1, o1 + k * 5, none⟩ = some x0 := m0
        have d1 : W1.drew.cell? ⟨p1, o1 + k * 5 + 1, none⟩ = some x1 := m1
        have d2 : W1.drew.cell? ⟨p1, o1 + k * 5 + 2, none⟩ = some x2 := m2
        have d3 : W1.drew.cell? ⟨p1, o1 + k * 5 + 3, none⟩ = some x3 := m3
        have d4 : W1.drew.cell? ⟨p1, o1 + k * 5 + 4, none⟩ = some x4 := m4
        go_region_with (go_at_call 84; refine (HPU.out _ ?_).mono ?_; exact (Grew.refl W1).drew; rintro e w' ⟨g, cap2, rfl, ho, hf⟩; have qb := (hf.block (w.heap.size + 1) zb (by omega)).trans HB1.out; have q5 := block_cell qb 3; have q6 := frozen_block qb 3; have OW : Hid (Own5 w' _ g cap2 _) := ho; have FW : Hid (Fr _ W1.drew w') := hf; have BW : Hid (_ = _) := qb; clear ho hf qb)
        all_goals clear d0 d1 d2 d3 d4 c3d m0 m1 m2 m3 m4 c3 f3 q5 q6 HPU
        all_goals have hl2 := (put_len hs u pp (by have := HAP.out.1; omega)).trans (show hs.length + 1 = acc.length + 1 by omega)
        all_goals obtain ⟨ko, kb, kr, kf⟩ := key_put OW.out hl2 BW.out HR1.out FW.out HF1.out
        all_goals have HO2 : Hid _ := ko
        all_goals have HB2 : Hid _ := kb
        all_goals have HR2 : Hid _ := kr
        all_goals have HF2 : Hid _ := kf
        all_goals clear ko kb kr kf
        all_goals clear OW FW BW HO1 HB1 HR1 HF1
        all_goals generalize w'.setCell ⟨w.heap.size + 1, 3, none⟩ (.slice (some ⟨g, 0, none⟩) (acc.length + 1) cap2) = WN at HO2 HB2 HR2 HF2 ⊢
        all_goals go_wp2_with fail
        all_goals go_roundw
        all_goals first | exact ⟨k + 1, _, _, _, by go_num, by omega, HSN, HAP.out.2, HO2, HB2, HR2, HF2⟩ | (simp [intOf]; omega)
    · have hke : k = len := by omega
      subst k
      have HD : Hid (acc = normA (cmpV n) es) := by
        have h := HS.out
        rw [E1.out] at h
        exact h.done
      obtain ⟨sa, sn, sc, rfl, hrow⟩ := row_of_owns2 (Q := fun k => (k < w.heap.size ∧ P k) ∨ w.heap.size + 2 ≤ k) HO.out HA.out (by omega) (HF.out.mono (fun _ _ => trivial)) (fun g hg => .inr hg) (fun k hk hp => .inl ⟨hk, hp⟩)
      have hmem : ∀ x ∈ acc, wtR n x = wt n x ∧ wt n x ≤ 1024 := fun x hx => HW.out x (List.mem_of_mem_take ((HS.out.mem x).1 hx))
      have hwt : wtL (wtR n) acc = wtL (wt n) acc := wtL_congr acc (fun x hx => (hmem x hx).1)
      have hwb : wtL (wt n) acc ≤ 1024 * acc.length := wtL_le (wt n) acc (fun x hx => (hmem x hx).2)
      have hal : acc.length ≤ 5000 := by have := HS.out.len; omega
      have hrf : Ref (fun k => (k < w.heap.size ∧ P k) ∨ w.heap.size + 2 ≤ k) wr (n + 1) (mkSet acc : Node (AV n)) (.agg #[.int .i64 5, .int .i64 0, .string ⟨#[]⟩, .slice sa sn sc, .slice none 0 0]) := ⟨⟨#[]⟩, sa, sn, sc, none, 0, 0, rfl, rfl, hrow, row5_none _ _ _ _⟩
      have hw2 : wtR (n + 1) (mkSet acc : Node (AV n)) = 1 + wtL (wt n) acc := by show 1 + wtL (wtR n) acc + 0 = _; rw [hwt]; rfl
      have HLI : Hid (∀ W : World, Grew wr W → Calls Tryz.prog 85 #[.agg #[.int .i64 5, .int .i64 0, .string ⟨#[]⟩, .slice sa sn sc, .slice none 0 0]] W fun e w' => e = .returned (if 1 + wtL (wt n) acc ≤ 1024 then .agg #[.int .i64 5, .int .i64 0, .string ⟨#[]⟩, .slice sa sn sc, .slice none 0 0] else nilV5) ∧ Grew W w') := fun W hW => by
        have := rlight_mk n (fun k => (k < w.heap.size ∧ P k) ∨ w.heap.size + 2 ≤ k) W (mkSet acc : Node (AV n)) _ (hrf.grew hW) (by rw [hw2]; omega)
        rw [hw2] at this
        exact this
      have HRF : Hid (Ref (fun k => (k < w.heap.size ∧ P k) ∨ w.heap.size + 2 ≤ k) wr (n + 1) (mkSet acc : Node (AV n)) (.agg #[.int .i64 5, .int .i64 0, .string ⟨#[]⟩, .slice sa sn sc, .slice none 0 0])) := hrf
      have HM : Hid ((mkS (wt n) (normA (cmpV n) es) : Node (AV n)) = if 1 + wtL (wt n) acc ≤ 1024 then mkSet acc else mkNil) := by show _ = _; rw [← HD.out]; rfl
      have a0 := block_cell HB.out 0
      have a1 := block_cell HB.out 1
      have a2 := block_cell HB.out 2
      have a3 := block_cell HB.out 3
      have a4 := block_cell HB.out 4
      clear hrf hrow hmem hwt hwb hw2 r1
      generalize 1 + wtL (wt n) acc = q at HLI HM
      by_cases hq : q ≤ 1024
      · rw [if_pos hq] at HLI HM
        go_wp2_with fail
        refine (HLI.out wr (Grew.refl _)).mono ?_
        rintro e w' ⟨rfl, hg⟩
        have y2 : Hid (_ = _) := Below.blockAt hg.below HR.out
        have RF : Hid (Ref (fun k => (k < w.heap.size ∧ P k) ∨ w.heap.size + 2 ≤ k) w' (n + 1) (mkSet acc : Node (AV n)) _) := HRF.out.grew hg
        have FF : Hid (Fr (fun _ => True) w w') := HF.out.trans (Fr.grew hg)
        clear a0 a1 a2 a3 a4 hg HRF HF
        have b0 := block_cell y2.out 0
        have b1 := block_cell y2.out 1
        have b2 := block_cell y2.out 2
        have b3 := block_cell y2.out 3
        have b4 := block_cell y2.out 4
        have f0 := frozen_block y2.out 0
        have f1 := frozen_block y2.out 1
        have f2 := frozen_block y2.out 2
        have f3 := frozen_block y2.out 3
        have f4 := frozen_block y2.out 4
        have z2 := block_lt y2.out
        go_wp2_with fail
        change bodyPost Tryz.prog _ _ _ _ (set5 w' w.heap.size 0 (.int .i64 5) (.int .i64 0) (.string ⟨#[]⟩) (.slice sa sn sc) (.slice none 0 0))
        have E := set5_block y2.out (.int .i64 5) (.int .i64 0) (.string ⟨#[]⟩) (.slice sa sn sc) (.slice none 0 0)
        rw [HM.out]
        have R1 : Ref (fun k => P k ∨ w.heap.size ≤ k) (set5 w' w.heap.size 0 (.int .i64 5) (.int .i64 0) (.string ⟨#[]⟩) (.slice sa sn sc) (.slice none 0 0)) (n + 1) (mkSet acc : Node (AV n)) _ := RF.out.fr (set5_fr (Fr.refl _ w') (by omega) _ _ _ _ _ _) (fun k _ hk => hk.elim (fun q => .inl q.2) (fun q => .inr (by omega))) _ _ _
        have R2 := fr_box FF.out (Nat.le_refl _) 0 (.int .i64 5) (.int .i64 0) (.string ⟨#[]⟩) (.slice sa sn sc) (.slice none 0 0)
        clear b0 b1 b2 b3 b4 f0 f1 f2 f3 f4
        generalize set5 w' w.heap.size 0 (.int .i64 5) (.int .i64 0) (.string ⟨#[]⟩) (.slice sa sn sc) (.slice none 0 0) = WZ at E R1 R2 ⊢
        have b0 := block_cell E 0
        have b1 := block_cell E 1
        have b2 := block_cell E 2
        have b3 := block_cell E 3
        have b4 := block_cell E 4
        exact bodyPost_ret (v := .agg #[.int .i64 5, .int .i64 0, .string ⟨#[]⟩, .slice sa sn sc, .slice none 0 0]) (by simp [results, Tryz.results44, go_sem, b0, b1, b2, b3, b4]) rfl ⟨_, rfl, R1, R2⟩
      · rw [if_neg hq] at HLI HM
        unfold nilV5 at HLI
        go_wp2_with fail
        refine (HLI.out wr (Grew.refl _)).mono ?_
        rintro e w' ⟨rfl, hg⟩
        have y2 : Hid (_ = _) := Below.blockAt hg.below HR.out
        have FF : Hid (Fr (fun _ => True) w w') := HF.out.trans (Fr.grew hg)
        clear a0 a1 a2 a3 a4 hg HRF HF
        have b0 := block_cell y2.out 0
        have b1 := block_cell y2.out 1
        have b2 := block_cell y2.out 2
        have b3 := block_cell y2.out 3
        have b4 := block_cell y2.out 4
        have f0 := frozen_block y2.out 0
        have f1 := frozen_block y2.out 1
        have f2 := frozen_block y2.out 2
        have f3 := frozen_block y2.out 3
        have f4 := frozen_block y2.out 4
        have z2 := block_lt y2.out
        go_wp2_with fail
        change bodyPost Tryz.prog _ _ _ _ (set5 w' w.heap.size 0 (.int .i64 0) (.int .i64 0) (.string ⟨#[]⟩) (.slice none 0 0) (.slice none 0 0))
        have E := set5_block y2.out (.int .i64 0) (.int .i64 0) (.string ⟨#[]⟩) (.slice none 0 0) (.slice none 0 0)
        rw [HM.out]
        have R2 := fr_box FF.out (Nat.le_refl _) 0 (.int .i64 0) (.int .i64 0) (.string ⟨#[]⟩) (.slice none 0 0) (.slice none 0 0)
        clear b0 b1 b2 b3 b4 f0 f1 f2 f3 f4
        generalize set5 w' w.heap.size 0 (.int .i64 0) (.int .i64 0) (.string ⟨#[]⟩) (.slice none 0 0) (.slice none 0 0) = WZ at E R2 ⊢
        have b0 := block_cell E 0
        have b1 := block_cell E 1
        have b2 := block_cell E 2
        have b3 := block_cell E 3
        have b4 := block_cell E 4
        exact bodyPost_ret (v := nilV5) (by simp [results, Tryz.results44, go_sem, b0, b1, b2, b3, b4, nilV5]) rfl ⟨_, rfl, ref_nil _ _ n, R2⟩
end Go.Proofs.YtbogejmmkohbkaaGreatDoor.Sx
