/- The reference: a value is put among values. -/
import Derived.Test.YtbogejmmkohbkaaGreatDoorGRE
import Derived.Deep.AppendLies
namespace Go.Proofs.YtbogejmmkohbkaaGreatDoor.Sx
open Go.RowKit Go.Sort

theorem Fr.grownBy {P : Nat → Prop} {a b c : World} {row : Option Nat} (h : Fr P a b) (g : b.grownBy c row) (hp : ∀ k, k < b.heap.size → row = some k → ¬ P k) : Fr P a c :=
  h.trans ⟨g.os, g.tape, g.output, g.size, fun k hk hP => g.block k hk (fun e => hp k hk e.symm hP)⟩
theorem info5 : (Tryz.prog.info? 30).map (fun i => (i.zero, i.size, i.bytes)) = some (some nilV5, 5, 80) := by kernel_rfl

/-- five cells that are values of one cell each -/
structure H5 where
  c0 : Value
  c1 : Value
  c2 : Value
  c3 : Value
  c4 : Value
  o0 : c0.oneCell' = true
  o1 : c1.oneCell' = true
  o2 : c2.oneCell' = true
  o3 : c3.oneCell' = true
  o4 : c4.oneCell' = true
def H5.v (h : H5) : Value := .agg #[h.c0, h.c1, h.c2, h.c3, h.c4]
def H5.l (h : H5) : List Value := [h.c0, h.c1, h.c2, h.c3, h.c4]
def flat5 (d : List H5) : List Value := d.flatMap H5.l
theorem flat5_len : ∀ d : List H5, (flat5 d).length = d.length * 5
  | [] => rfl
  | h :: d => by
    show (H5.l h ++ flat5 d).length = _
    rw [List.length_append, flat5_len d]; simp [H5.l]; omega
theorem flat5_at : ∀ (d : List H5) (i : Nat) (h : H5), d[i]? = some h → (flat5 d)[i * 5]? = some h.c0 ∧ (flat5 d)[i * 5 + 1]? = some h.c1 ∧ (flat5 d)[i * 5 + 2]? = some h.c2 ∧ (flat5 d)[i * 5 + 3]? = some h.c3 ∧ (flat5 d)[i * 5 + 4]? = some h.c4
  | [], i, h, e => by simp at e
  | g :: d, 0, h, e => by
    simp at e; subst e
    exact ⟨rfl, rfl, rfl, rfl, rfl⟩
  | g :: d, i + 1, h, e => by
    have ih := flat5_at d i h (by simpa using e)
    have key : ∀ j, (flat5 (g :: d))[(i + 1) * 5 + j]? = (flat5 d)[i * 5 + j]? := by
      intro j
      show (H5.l g ++ flat5 d)[(i + 1) * 5 + j]? = _
      rw [List.getElem?_append_right (by simp [H5.l]; omega)]
      congr 1
      simp [H5.l]; omega
    exact ⟨(key 0).trans ih.1, (key 1).trans ih.2.1, (key 2).trans ih.2.2.1, (key 3).trans ih.2.2.2.1, (key 4).trans ih.2.2.2.2⟩
theorem flat5_app (d e : List H5) : flat5 (d ++ e) = flat5 d ++ flat5 e := by simp [flat5]

theorem flat5_set : ∀ (d : List H5) (k : Nat) (x : H5), k < d.length → ((((((flat5 d).set (k * 5) x.c0).set (k * 5 + 1) x.c1).set (k * 5 + 2) x.c2).set (k * 5 + 3) x.c3).set (k * 5 + 4) x.c4) = flat5 (d.set k x)
  | [], k, x, h => by simp at h
  | g :: d, 0, x, _ => rfl
  | g :: d, k + 1, x, h => by
    have ih := flat5_set d k x (by simpa using h)
    have key : ∀ (l : List Value) (j : Nat) (u : Value), (H5.l g ++ l).set ((k + 1) * 5 + j) u = H5.l g ++ l.set (k * 5 + j) u := by
      intro l j u
      rw [List.set_append_right _ _ (by simp [H5.l]; omega)]
      congr 2
      simp [H5.l]; omega
    show ((((((H5.l g ++ flat5 d).set ((k + 1) * 5 + 0) x.c0).set ((k + 1) * 5 + 1) x.c1).set ((k + 1) * 5 + 2) x.c2).set ((k + 1) * 5 + 3) x.c3).set ((k + 1) * 5 + 4) x.c4) = H5.l g ++ flat5 (d.set k x)
    rw [key, key, key, key, key, ← ih]
    rfl

/-- a row of the reference's values that lies in one block -/
structure Own5 (w : World) (base g cap : Nat) (d : List H5) : Prop where
  low : base ≤ g
  row : ∃ cur, w.heap[g]? = some (.cells cur 30 (0, 0)) ∧ d.length ≤ cap ∧ cap ≤ maxLen ∧ cur.size = cap * 5 ∧ cur.toList.take (d.length * 5) = flat5 d
theorem Own5.owns {w : World} {base g cap : Nat} {d : List H5} (h : Own5 w base g cap d) : w.ownsRow base 30 5 (.slice (some ⟨g, 0, none⟩) d.length cap) d.length (flat5 d) := by
  obtain ⟨cur, h1, h2, h3, h4, h5⟩ := h.row
  exact ⟨flat5_len d, .inr ⟨g, cap, cur, rfl, h.low, h1, h2, h3, h4, h5⟩⟩
theorem Own5.of {w : World} {base g cap n : Nat} {d : List H5} (h : w.ownsRow base 30 5 (.slice (some ⟨g, 0, none⟩) n cap) n (flat5 d)) : Own5 w base g cap d ∧ n = d.length := by
  have hl := h.1
  rw [flat5_len] at hl
  have hn : n = d.length := by omega
  subst hn
  rcases h.2 with ⟨h1, _⟩ | ⟨g', cap', cur, h1, h2, h3, h4, h5, h6, h7⟩
  · cases h1
  · cases h1
    exact ⟨⟨h2, cur, h3, h4, h5, h6, h7⟩, rfl⟩
theorem Own5.lt {w : World} {base g cap : Nat} {d : List H5} (h : Own5 w base g cap d) : g < w.heap.size := by
  obtain ⟨cur, h1, _⟩ := h.row
  exact block_lt h1
theorem Own5.fr {w w' : World} {base g cap : Nat} {d : List H5} (h : Own5 w base g cap d) (hb : w'.heap[g]? = w.heap[g]?) : Own5 w' base g cap d := by
  obtain ⟨cur, h1, h2⟩ := h.row
  exact ⟨h.low, cur, hb.trans h1, h2⟩
theorem Own5.at {w : World} {base g cap : Nat} {d : List H5} (h : Own5 w base g cap d) {i : Nat} {e : H5} (he : d[i]? = some e) :
    (w.cell? ⟨g, i * 5, none⟩ = some e.c0 ∧ w.cell? ⟨g, i * 5 + 1, none⟩ = some e.c1 ∧ w.cell? ⟨g, i * 5 + 2, none⟩ = some e.c2 ∧ w.cell? ⟨g, i * 5 + 3, none⟩ = some e.c3 ∧ w.cell? ⟨g, i * 5 + 4, none⟩ = some e.c4) ∧ ∀ j, w.frozen? ⟨g, j, none⟩ = false := by
  obtain ⟨cur, h1, h2, h3, h4, h5⟩ := h.row
  have hi := (List.getElem?_eq_some_iff.1 he).1
  have key : ∀ j, j < 5 → w.cell? ⟨g, i * 5 + j, none⟩ = (flat5 d)[i * 5 + j]? := by
    intro j hj
    rw [block_cell h1, ← h5, List.getElem?_take_of_lt (by omega)]
    simp
  obtain ⟨f0, f1, f2, f3, f4⟩ := flat5_at d i e he
  exact ⟨⟨(key 0 (by omega)).trans f0, (key 1 (by omega)).trans f1, (key 2 (by omega)).trans f2, (key 3 (by omega)).trans f3, (key 4 (by omega)).trans f4⟩, fun j => frozen_block h1 j⟩
theorem Own5.set {w : World} {base g cap : Nat} {d : List H5} (h : Own5 w base g cap d) {k : Nat} (hk : k < d.length) (x : H5) : Own5 (set5 w g (k * 5) x.c0 x.c1 x.c2 x.c3 x.c4) base g cap (d.set k x) := by
  obtain ⟨cur, h1, h2, h3, h4, h5⟩ := h.row
  refine ⟨h.low, _, set_block (set_block (set_block (set_block (set_block h1 (k * 5) x.c0) (k * 5 + 1) x.c1) (k * 5 + 2) x.c2) (k * 5 + 3) x.c3) (k * 5 + 4) x.c4, by simpa using h2, h3, by simpa using h4, ?_⟩
  rw [List.length_set, ← flat5_set d k x hk, ← h5]
  simp [List.take_set]

theorem shift_step (d : List H5) (q : Nat) (hq : q < d.length) (y : H5) : (d.take (q + 1) ++ y :: d.drop (q + 1)).set (q + 1) d[q] = d.take q ++ d[q] :: d.drop q := by
  have h1 : (d.take (q + 1)).length = q + 1 := by rw [List.length_take]; omega
  have h2 : d.take (q + 1) = d.take q ++ [d[q]] := by rw [List.take_add_one, List.getElem?_eq_getElem hq]; rfl
  have h3 : d.drop q = d[q] :: d.drop (q + 1) := List.drop_eq_getElem_cons hq
  rw [List.set_append_right _ _ (by omega), h1, Nat.sub_self, List.set_cons_zero, h2, h3, List.append_assoc]
  rfl
theorem shift_at (d : List H5) (q : Nat) (hq : q < d.length) (y : H5) : (d.take (q + 1) ++ y :: d.drop (q + 1))[q]? = some d[q] := by
  rw [List.getElem?_append_left (by rw [List.length_take]; omega), List.getElem?_take_of_lt (by omega), List.getElem?_eq_getElem hq]

set_option maxRecDepth 100000 in
set_option maxHeartbeats 2000000 in
theorem put_all (w : World) (base : Nat) (sl : Value) (d : List H5) (x : H5) (i : Nat) (hi : i ≤ d.length) (hown : w.ownsRow base 30 5 sl d.length (flat5 d)) (hb : base ≤ w.heap.size) (hl : d.length ≤ 5000) :
    Calls Tryz.prog 84 #[sl, .int .i64 i, x.v] w fun e w' => ∃ g cap, e = .returned (.slice (some ⟨g, 0, none⟩) (d.length + 1) cap) ∧ Own5 w' base g cap (d.take i ++ x :: d.drop i) ∧ Fr (fun k => k < w.heap.size ∧ sl.ownBlock ≠ some k) w w' ∧ (sl.ownBlock = some g ∨ w.heap.size ≤ g) := by
  obtain ⟨i0, hi0, hz0, hz1, hz2⟩ := info_parts info5
  obtain ⟨x0, x1, x2, x3, x4, p0, p1, p2, p3, p4⟩ := x
  obtain ⟨X, hX⟩ : ∃ X : H5, X = ⟨x0, x1, x2, x3, x4, p0, p1, p2, p3, p4⟩ := ⟨_, rfl⟩
  obtain ⟨Z, hZ⟩ : ∃ Z : H5, Z = ⟨.int .i64 0, .int .i64 0, .string ⟨#[]⟩, .slice none 0 0, .slice none 0 0, rfl, rfl, rfl, rfl, rfl⟩ := ⟨_, rfl⟩
  show Calls Tryz.prog 84 #[sl, .int .i64 i, .agg #[x0, x1, x2, x3, x4]] w _
  rw [← hX]
  have HX : Hid (X = ⟨x0, x1, x2, x3, x4, p0, p1, p2, p3, p4⟩) := hX
  have HO : Hid (((w.alloc (.cells #[x0, x1, x2, x3, x4] 30)).alloc (.cells #[.int .i64 0, .int .i64 0, .string ⟨#[]⟩, .slice none 0 0, .slice none 0 0] 30)).ownsRow base 30 5 sl d.length (flat5 d)) := (hown.alloc _).alloc _
  have hzl : H5.l Z = [.int .i64 0, .int .i64 0, .string ⟨#[]⟩, .slice none 0 0, .slice none 0 0] := by rw [hZ]; rfl
  have HZ : Hid (_ = _) := hzl
  clear hX hZ hzl
  have HS : Hid (∀ g, sl.ownBlock = some g → base ≤ g ∧ g < w.heap.size) := by
    intro g hg
    rcases hown.2 with ⟨rfl, _⟩ | ⟨g', cap, cur, rfl, h1, h2, _⟩
    · simp [Value.ownBlock] at hg
    · simp [Value.ownBlock] at hg; subst hg; exact ⟨h1, block_lt h2⟩
  clear hown
  go_enter Tryz.func84, Tryz.ntmps84
  go_wp2_with (at_builtin; refine wpList_append_lies _ rfl (.tmp 8) (.tmp 10) 28 rfl base 30 i0 nilV5 5 80 Tryz.underlying28 hi0 hz0 hz1 hz2 rfl (by decide) sl d.length (flat5 d) rfl HO.out ⟨w.heap.size + 1, 0, none⟩ 1 1 [.int .i64 0, .int .i64 0, .string ⟨#[]⟩, .slice none 0 0, .slice none 0 0] rfl rfl ?q1 ?q2 (by decide) ?q3 ?q4 ?q5 (w.heap.size + 2) ?q6 ?_)
  case q1 =>
    have hx : ((w.alloc (.cells #[x0, x1, x2, x3, x4] 30)).alloc (.cells #[.int .i64 0, .int .i64 0, .string ⟨#[]⟩, .slice none 0 0, .slice none 0 0] 30)).heap[w.heap.size + 1]? = some (.cells #[.int .i64 0, .int .i64 0, .string ⟨#[]⟩, .slice none 0 0, .slice none 0 0] 30 (0, 0)) := heap_new (by simp)
    exact World.news_of_block hx
  case q2 =>
    intro q hq
    simp only [List.mem_cons, List.not_mem_nil, or_false] at hq
    rcases hq with rfl | rfl | rfl | rfl | rfl <;> rfl
  case q3 => unfold maxLen; omega
  case q4 => omega
  case q5 => simp; omega
  case q6 => simp
  intro g cap w4 ho hg hat hlt
  have hgne : g ≠ w.heap.size := by
    rcases hat with q | q
    · have := (HS.out g q).2; omega
    · omega
  have XB : Hid (w4.heap[w.heap.size]? = some (.cells #[x0, x1, x2, x3, x4] 30 (0, 0))) := by
    refine (hg.block w.heap.size (by simp; omega) (fun e => ?_)).trans (Below.blockAt ((Grew.refl _).alloc _).below (heap_new rfl))
    have := (HS.out _ e.symm).2; omega
  have HG2 : Hid (sl.ownBlock = some g ∨ w.heap.size ≤ g) := hat.imp id (fun e => by omega)
  have FB : Hid (Fr (fun k => k < w.heap.size ∧ sl.ownBlock ≠ some k) w w4) := by
    have f1 : Fr (fun k => k < w.heap.size ∧ sl.ownBlock ≠ some k) w ((w.alloc (.cells #[x0, x1, x2, x3, x4] 30)).alloc (.cells #[.int .i64 0, .int .i64 0, .string ⟨#[]⟩, .slice none 0 0, .slice none 0 0] 30)) := Fr.grew (((Grew.refl w).alloc _).alloc _)
    exact f1.grownBy hg (fun k _ e hp => hp.2 e)
  have NG : Hid (¬ (g < w.heap.size ∧ sl.ownBlock ≠ some g)) := by
    rintro ⟨q1, q2⟩
    rcases HG2.out with q | q
    · exact q2 q
    · omega
  have O4 : Hid (Own5 w4 base g cap (d ++ [Z])) := by
    rw [← HZ.out] at ho
    have e : flat5 d ++ H5.l Z = flat5 (d ++ [Z]) := by rw [flat5_app]; simp [flat5]
    rw [e] at ho
    exact (Own5.of ho).1
  clear ho hg hat hlt HS HO hi0 hz0 hz1 hz2
  have hgb := O4.out.low
  have mo := follows
  obtain ⟨N, hN⟩ : ∃ N, d.length = N := ⟨_, rfl⟩
  have HN : Hid (d.length = N) := hN
  rw [hN] at hi hl ⊢
  clear hN
  go_wp2_with fail
  have hst : d ++ [Z] = d.take N ++ Z :: d.drop N := by rw [← HN.out]; simp
  rw [hst] at O4
  clear hst
  go_loopw [7] (fun s wr => ∃ (k : Nat) (y : H5), s = .int .i64 k ∧ i ≤ k ∧ k ≤ N ∧ Hid (Own5 wr base g cap (d.take k ++ y :: d.drop k)) ∧ Hid (wr.heap[w.heap.size]? = some (.cells #[x0, x1, x2, x3, x4] 30 (0, 0))) ∧ Hid (Fr (fun k => k < w.heap.size ∧ sl.ownBlock ≠ some k) w wr)) (fun s _ => (intOf s).toNat)
  case atStart => exact ⟨N, Z, rfl, hi, Nat.le_refl _, O4, XB, FB⟩
  case round =>
    clear O4 XB FB
    obtain ⟨k, y, rfl, hk1, hk2, HW, HXB, HF⟩ := hrel
    by_cases hlt : i < k
    · obtain ⟨q, rfl⟩ : ∃ q, k = q + 1 := ⟨k - 1, by omega⟩
      have hq : q < d.length := by rw [HN.out]; omega
      have hdq : d[q]? = some d[q] := List.getElem?_eq_getElem hq
      have hlen : (d.take (q + 1) ++ y :: d.drop (q + 1)).length = N + 1 := by simp; have := HN.out; omega
      have e1 := shift_at d q hq y
      have e2 := shift_step d q hq y
      have SW : Hid (Own5 (set5 wr g ((q + 1) * 5) d[q].c0 d[q].c1 d[q].c2 d[q].c3 d[q].c4) base g cap (d.take q ++ d[q] :: d.drop q)) := by
        rw [← e2]; exact HW.out.set (by omega) d[q]
      have SX : Hid ((set5 wr g ((q + 1) * 5) d[q].c0 d[q].c1 d[q].c2 d[q].c3 d[q].c4).heap[w.heap.size]? = some (.cells #[x0, x1, x2, x3, x4] 30 (0, 0))) :=
        ((set5_fr (P := fun k => k ≠ g) (Fr.refl _ wr) (by simp) _ _ _ _ _ _).block w.heap.size (block_lt HXB.out) (Ne.symm hgne)).trans HXB.out
      have SF : Hid (Fr (fun k => k < w.heap.size ∧ sl.ownBlock ≠ some k) w (set5 wr g ((q + 1) * 5) d[q].c0 d[q].c1 d[q].c2 d[q].c3 d[q].c4)) := set5_fr HF.out NG.out _ _ _ _ _ _
      obtain ⟨⟨a0, a1, a2, a3, a4⟩, fz⟩ := HW.out.at e1
      obtain ⟨h', hh'⟩ : ∃ h', (d.take (q + 1) ++ y :: d.drop (q + 1))[q + 1]? = some h' := ⟨_, List.getElem?_eq_getElem (by omega)⟩
      obtain ⟨⟨b0, b1, b2, b3, b4⟩, _⟩ := HW.out.at hh'
      have gl := HW.out.lt
      obtain ⟨z0, z1, z2, z3, z4⟩ := (⟨fz ((q + 1) * 5), fz ((q + 1) * 5 + 1), fz ((q + 1) * 5 + 2), fz ((q + 1) * 5 + 3), fz ((q + 1) * 5 + 4)⟩ : _ ∧ _ ∧ _ ∧ _ ∧ _)
      generalize d[q] = u at *
      have s0 := store_one u.o0
      have s1 := store_one u.o1
      have s2 := store_one u.o2
      have s3 := store_one u.o3
      have s4 := store_one u.o4
      obtain ⟨K, hK⟩ : ∃ K, K = q + 1 := ⟨_, rfl⟩
      rw [← hK] at b0 b1 b2 b3 b4 z0 z1 z2 z3 z4 SW SX SF
      rw [show ((q + 1 : Nat) : Int) = (q : Int) + 1 from by omega]
      have ea : ((q : Int) + 1).toNat = K := by omega
      have pa : (0 : Int) ≤ (q : Int) + 1 := by omega
      have ba : (q : Int) + 1 < (N : Int) + 1 := by omega
      have ra : IntKind.i64.wrap ((q : Int) + 1) = (q : Int) + 1 := by rw [IntKind.wrap_i64]; omega
      clear hh' e1 e2 hlen hdq fz HW HXB HF hK
      go_wp2_with fail
      go_roundw
      case rel => exact ⟨q, u, rfl, by omega, by omega, SW, SX, SF⟩
      case measure => simp [intOf]
    · obtain rfl : k = i := by omega
      have hlen : (d.take k ++ y :: d.drop k).length = N + 1 := by
        rw [List.length_append, List.length_cons, List.length_take, List.length_drop]; have := HN.out; omega
      have hke : (d.take k).length = k := by rw [List.length_take]; have := HN.out; omega
      have e2 : (d.take k ++ y :: d.drop k).set k X = d.take k ++ X :: d.drop k := by
        rw [List.set_append_right _ _ (by omega), hke, Nat.sub_self, List.set_cons_zero]
      have e1 : (d.take k ++ y :: d.drop k)[k]? = some y := by
        rw [List.getElem?_append_right (by omega), hke, Nat.sub_self]; rfl
      have SW : Hid (Own5 (set5 wr g (k * 5) x0 x1 x2 x3 x4) base g cap (d.take k ++ X :: d.drop k)) := by
        have h := HW.out.set (k := k) (by omega) X
        rw [e2] at h
        have := HX.out
        subst this
        exact h
      have SF : Hid (Fr (fun k => k < w.heap.size ∧ sl.ownBlock ≠ some k) w (set5 wr g (k * 5) x0 x1 x2 x3 x4)) := set5_fr HF.out NG.out _ _ _ _ _ _
      obtain ⟨⟨b0, b1, b2, b3, b4⟩, fz⟩ := HW.out.at e1
      obtain ⟨z0, z1, z2, z3, z4⟩ := (⟨fz (k * 5), fz (k * 5 + 1), fz (k * 5 + 2), fz (k * 5 + 3), fz (k * 5 + 4)⟩ : _ ∧ _ ∧ _ ∧ _ ∧ _)
      have gl := HW.out.lt
      have a0 := block_cell HXB.out 0
      have a1 := block_cell HXB.out 1
      have a2 := block_cell HXB.out 2
      have a3 := block_cell HXB.out 3
      have a4 := block_cell HXB.out 4
      have s0 := store_one p0
      have s1 := store_one p1
      have s2 := store_one p2
      have s3 := store_one p3
      have s4 := store_one p4
      clear e1 e2 hlen hke fz HW HXB HF HX
      go_wp2_with fail
      change bodyPost Tryz.prog _ _ _ _ (set5 wr g (k * 5) x0 x1 x2 x3 x4)
      generalize set5 wr g (k * 5) x0 x1 x2 x3 x4 = WZ at SW SF ⊢
      go_ret
      exact ⟨g, cap, by rw [HN.out]; rfl, SW.out, SF.out, HG2.out⟩
theorem own5_low {w : World} {base n : Nat} {sl : Value} {vs : List Value} (h : w.ownsRow base 30 5 sl n vs) {g : Nat} (hg : sl.ownBlock = some g) : base ≤ g ∧ g < w.heap.size := by
  rcases h.2 with ⟨rfl, _⟩ | ⟨g', cap, cur, rfl, h1, h2, _⟩
  · simp [Value.ownBlock] at hg
  · simp [Value.ownBlock] at hg; subst hg; exact ⟨h1, block_lt h2⟩
theorem put_any (w : World) (base : Nat) (sl : Value) (d : List H5) (x : H5) (i : Nat) (hi : i ≤ d.length) (hown : w.ownsRow base 30 5 sl d.length (flat5 d)) (hb : base ≤ w.heap.size) (hl : d.length ≤ 5000) :
    Calls Tryz.prog 84 #[sl, .int .i64 i, x.v] w fun e w' => ∃ g cap, e = .returned (.slice (some ⟨g, 0, none⟩) (d.length + 1) cap) ∧ Own5 w' base g cap (d.take i ++ x :: d.drop i) ∧ Fr (fun k => k < base) w w' := by
  refine (put_all w base sl d x i hi hown hb hl).mono ?_
  rintro e w' ⟨g, cap, rfl, h1, h2, _⟩
  exact ⟨g, cap, rfl, h1, h2.mono (fun k hk => ⟨by omega, fun q => by have := (own5_low hown q).1; omega⟩)⟩
end Go.Proofs.YtbogejmmkohbkaaGreatDoor.Sx
