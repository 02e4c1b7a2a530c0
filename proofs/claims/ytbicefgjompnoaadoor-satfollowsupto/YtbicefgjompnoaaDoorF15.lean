/- The store in memory: what an append to one of its rows leaves. -/
import Derived.Test.YtbicefgjompnoaaDoorF14
namespace Go.Proofs.YtbicefgjompnoaaDoor.Sx
open Go.RowKit Go.Sort

theorem SAtK.setSt {K : Nat × Nat → Prop} {w : World} {L : Ly} {n : Nat} {s : St} (h : SAtK K w L n s) (hs : K (1, 0)) (i : Nat) (v : Value) : SAtK (fun t => K t ∧ t ≠ (1, 0)) (w.setCell ⟨L.sb, i, none⟩ v) L n s ∧ (w.setCell ⟨L.sb, i, none⟩ v).heap[L.sb]? = some (.cells ((stC L n s).set! i v) 54 (0, 0)) ∧ L.own L.sb = (1, 0) := by
  obtain ⟨h1, h2⟩ := h.st hs
  refine ⟨(h.mono (K' := fun t => K t ∧ t ≠ (1, 0)) fun _ q => q.1).fr fun b hb hk => ?_, set_block h1 i v, h2⟩
  exact Below.heap_setCell w ⟨L.sb, i, none⟩ v b (fun e => hk.2 (by rw [e]; exact h2))

theorem SAt.app_cuts {w W w9 : World} {L : Ly} {n : Nat} {s : St} (h : SAt W L n s) (hw : Fr (fun _ => True) w W) {x g cap : Nat} (ho : w9.ownsRow 0 3 1 (.slice (some ⟨g, 0, none⟩) (s.cuts.length + 1) cap) (s.cuts.length + 1) (i64C s.cuts ++ [.int .i64 (x : Int)])) (hg : W.grownBy w9 L.cv.ownBlock) (hat : L.cv.ownBlock = some g ∨ g = W.heap.size) :
    w9.cell? ⟨L.sb, 9, none⟩ = some L.cv ∧ w9.frozen? ⟨L.sb, 9, none⟩ = false ∧ SAt (w9.setCell ⟨L.sb, 9, none⟩ (.slice (some ⟨g, 0, none⟩) (s.cuts.length + 1) cap)) { L with cv := .slice (some ⟨g, 0, none⟩) (s.cuts.length + 1) cap, own := ownT L.own W.heap.size (9, 0) } n { s with cuts := s.cuts ++ [x] } ∧ FrS L { L with cv := .slice (some ⟨g, 0, none⟩) (s.cuts.length + 1) cap, own := ownT L.own W.heap.size (9, 0) } w (w9.setCell ⟨L.sb, 9, none⟩ (.slice (some ⟨g, 0, none⟩) (s.cuts.length + 1) cap)) := by
  have hr := h.1.cu trivial
  have h1 := h.grown hr hg
  obtain ⟨h2, h3⟩ := h1.st (by decide)
  have hsb : W.heap[L.sb]? = some (.cells (stC L n s) 54 (0, 0)) := (h.1.st trivial).1
  obtain ⟨k1, k2, k3⟩ := h1.setSt (by decide) 9 (.slice (some ⟨g, 0, none⟩) (s.cuts.length + 1) cap)
  have hro := hr.app ho (by
    rcases hat with q | q
    · exact .inl (by rw [q]; rfl)
    · exact .inr (by rw [← q]; rfl))
  have hgs : g ≠ L.sb := by
    rcases hat with q | q
    · intro e
      have e1 := hr.2 g q
      rw [e, (h.1.st trivial).2] at e1
      cases e1
    · have := block_lt hsb; omega
  refine ⟨by rw [block_cell h2]; rfl, frozen_block h2 9, ⟨?_, ?_⟩, ?_⟩
  · refine ⟨fun _ => ⟨k2, k3⟩, fun _ => k1.wt (by decide), fun _ => k1.tr (by decide), fun _ => k1.wy (by decide), fun _ => k1.dp (by decide), fun _ => k1.ro (by decide), fun _ => k1.si (by decide), fun _ => k1.ta (by decide), fun _ => ?_, fun l _ => k1.wl l (by simp), fun r _ => k1.rl r (by simp)⟩
    have e1 : (s.cuts ++ [x]).length = s.cuts.length + 1 := by simp
    have e2 : i64C (s.cuts ++ [x]) = i64C s.cuts ++ [.int .i64 (x : Int)] := by simp [i64C]
    show OwnR _ _ _ _ _ _ (s.cuts ++ [x]).length (i64C (s.cuts ++ [x]))
    rw [e1, e2]
    refine ⟨⟨hro.1.1, ?_⟩, hro.2⟩
    rcases hro.1.2 with q | ⟨g', cap', cur, e3, hb, hg', q⟩
    · exact .inl q
    · refine .inr ⟨g', cap', cur, e3, hb, ?_, q⟩
      cases e3
      rw [Below.heap_setCell w9 ⟨L.sb, 9, none⟩ _ g (by exact hgs)]
      exact hg'
  · exact ⟨h.2.n_, h.2.tr, h.2.wy, h.2.dp, h.2.wt, h.2.wv, h.2.rr, h.2.t3, h.2.lit, h.2.few, h.2.rows⟩
  · refine ⟨hg.os.trans hw.os, hg.tape.trans hw.tape, hg.output.trans hw.output, by have := hg.size; have := hw.size; simp; omega, fun b hb ho => ?_, fun b hb => ?_, rfl⟩
    · have hb2 : b < W.heap.size := Nat.lt_of_lt_of_le hb hw.size
      rw [Below.heap_setCell w9 ⟨L.sb, 9, none⟩ _ b (fun e => by rw [show b = L.sb from e, (h.1.st trivial).2] at ho; cases ho), hr.kept hg hb2 (by rw [ho]; decide), hw.block b hb trivial]
    · exact ownT_old (Nat.lt_of_lt_of_le hb hw.size)

theorem SAt.app_trail {w W w9 : World} {L : Ly} {n : Nat} {s : St} (h : SAt W L n s) (hw : Fr (fun _ => True) w W) {x g cap : Nat} (ho : w9.ownsRow 0 45 1 (.slice (some ⟨g, 0, none⟩) (s.trail.length + 1) cap) (s.trail.length + 1) (v32 s.trail ++ [.int .i32 (x : Int)])) (hg : W.grownBy w9 L.tv.ownBlock) (hat : L.tv.ownBlock = some g ∨ g = W.heap.size) (hx : x < 2 * n) (hfew : s.trail.length + 1 ≤ n) :
    w9.cell? ⟨L.sb, 7, none⟩ = some L.tv ∧ w9.frozen? ⟨L.sb, 7, none⟩ = false ∧ SAt (w9.setCell ⟨L.sb, 7, none⟩ (.slice (some ⟨g, 0, none⟩) (s.trail.length + 1) cap)) { L with tv := .slice (some ⟨g, 0, none⟩) (s.trail.length + 1) cap, own := ownT L.own W.heap.size (8, 0) } n { s with trail := s.trail ++ [x] } ∧ FrS L { L with tv := .slice (some ⟨g, 0, none⟩) (s.trail.length + 1) cap, own := ownT L.own W.heap.size (8, 0) } w (w9.setCell ⟨L.sb, 7, none⟩ (.slice (some ⟨g, 0, none⟩) (s.trail.length + 1) cap)) := by
  have hr := h.1.ta trivial
  have h1 := h.grown hr hg
  obtain ⟨h2, h3⟩ := h1.st (by decide)
  have hsb : W.heap[L.sb]? = some (.cells (stC L n s) 54 (0, 0)) := (h.1.st trivial).1
  obtain ⟨k1, k2, k3⟩ := h1.setSt (by decide) 7 (.slice (some ⟨g, 0, none⟩) (s.trail.length + 1) cap)
  have hro := hr.app ho (by
    rcases hat with q | q
    · exact .inl (by rw [q]; rfl)
    · exact .inr (by rw [← q]; rfl))
  have hgs : g ≠ L.sb := by
    rcases hat with q | q
    · intro e
      have e1 := hr.2 g q
      rw [e, (h.1.st trivial).2] at e1
      cases e1
    · have := block_lt hsb; omega
  refine ⟨by rw [block_cell h2]; rfl, frozen_block h2 7, ⟨?_, ?_⟩, ?_⟩
  · refine ⟨fun _ => ⟨k2, k3⟩, fun _ => k1.wt (by decide), fun _ => k1.tr (by decide), fun _ => k1.wy (by decide), fun _ => k1.dp (by decide), fun _ => k1.ro (by decide), fun _ => k1.si (by decide), fun _ => ?_, fun _ => k1.cu (by decide), fun l _ => k1.wl l (by simp), fun r _ => k1.rl r (by simp)⟩
    have e1 : (s.trail ++ [x]).length = s.trail.length + 1 := by simp
    have e2 : v32 (s.trail ++ [x]) = v32 s.trail ++ [.int .i32 (x : Int)] := by simp [v32]
    show OwnR _ _ _ _ _ _ (s.trail ++ [x]).length (v32 (s.trail ++ [x]))
    rw [e1, e2]
    refine ⟨⟨hro.1.1, ?_⟩, hro.2⟩
    rcases hro.1.2 with q | ⟨g', cap', cur, e3, hb, hg', q⟩
    · exact .inl q
    · refine .inr ⟨g', cap', cur, e3, hb, ?_, q⟩
      cases e3
      rw [Below.heap_setCell w9 ⟨L.sb, 7, none⟩ _ g (by exact hgs)]
      exact hg'
  · exact ⟨h.2.n_, h.2.tr, h.2.wy, h.2.dp, h.2.wt, h.2.wv, h.2.rr, h.2.t3, fun l hl => by rcases List.mem_append.1 hl with q | q; exact h.2.lit l q; rw [List.mem_singleton.1 q]; exact hx, by show (s.trail ++ [x]).length ≤ n; simp; omega, h.2.rows⟩
  · refine ⟨hg.os.trans hw.os, hg.tape.trans hw.tape, hg.output.trans hw.output, by have := hg.size; have := hw.size; simp; omega, fun b hb ho => ?_, fun b hb => ?_, rfl⟩
    · have hb2 : b < W.heap.size := Nat.lt_of_lt_of_le hb hw.size
      rw [Below.heap_setCell w9 ⟨L.sb, 7, none⟩ _ b (fun e => by rw [show b = L.sb from e, (h.1.st trivial).2] at ho; cases ho), hr.kept hg hb2 (by rw [ho]; decide), hw.block b hb trivial]
    · exact ownT_old (Nat.lt_of_lt_of_le hb hw.size)

theorem SAt.app_single {w W w9 : World} {L : Ly} {n : Nat} {s : St} (h : SAt W L n s) (hw : Fr (fun _ => True) w W) {x g cap : Nat} (ho : w9.ownsRow 0 21 1 (.slice (some ⟨g, 0, none⟩) (s.single.length + 1) cap) (s.single.length + 1) (v32 s.single ++ [.int .i32 (x : Int)])) (hg : W.grownBy w9 L.sv.ownBlock) (hat : L.sv.ownBlock = some g ∨ g = W.heap.size) :
    w9.cell? ⟨L.sb, 1, none⟩ = some L.sv ∧ w9.frozen? ⟨L.sb, 1, none⟩ = false ∧ SAt (w9.setCell ⟨L.sb, 1, none⟩ (.slice (some ⟨g, 0, none⟩) (s.single.length + 1) cap)) { L with sv := .slice (some ⟨g, 0, none⟩) (s.single.length + 1) cap, own := ownT L.own W.heap.size (3, 0) } n { s with single := s.single ++ [x] } ∧ FrS L { L with sv := .slice (some ⟨g, 0, none⟩) (s.single.length + 1) cap, own := ownT L.own W.heap.size (3, 0) } w (w9.setCell ⟨L.sb, 1, none⟩ (.slice (some ⟨g, 0, none⟩) (s.single.length + 1) cap)) := by
  have hr := h.1.si trivial
  have h1 := h.grown hr hg
  obtain ⟨h2, h3⟩ := h1.st (by decide)
  have hsb : W.heap[L.sb]? = some (.cells (stC L n s) 54 (0, 0)) := (h.1.st trivial).1
  obtain ⟨k1, k2, k3⟩ := h1.setSt (by decide) 1 (.slice (some ⟨g, 0, none⟩) (s.single.length + 1) cap)
  have hro := hr.app ho (by
    rcases hat with q | q
    · exact .inl (by rw [q]; rfl)
    · exact .inr (by rw [← q]; rfl))
  have hgs : g ≠ L.sb := by
    rcases hat with q | q
    · intro e
      have e1 := hr.2 g q
      rw [e, (h.1.st trivial).2] at e1
      cases e1
    · have := block_lt hsb; omega
  refine ⟨by rw [block_cell h2]; rfl, frozen_block h2 1, ⟨?_, ?_⟩, ?_⟩
  · refine ⟨fun _ => ⟨k2, k3⟩, fun _ => k1.wt (by decide), fun _ => k1.tr (by decide), fun _ => k1.wy (by decide), fun _ => k1.dp (by decide), fun _ => k1.ro (by decide), fun _ => ?_, fun _ => k1.ta (by decide), fun _ => k1.cu (by decide), fun l _ => k1.wl l (by simp), fun r _ => k1.rl r (by simp)⟩
    have e1 : (s.single ++ [x]).length = s.single.length + 1 := by simp
    have e2 : v32 (s.single ++ [x]) = v32 s.single ++ [.int .i32 (x : Int)] := by simp [v32]
    show OwnR _ _ _ _ _ _ (s.single ++ [x]).length (v32 (s.single ++ [x]))
    rw [e1, e2]
    refine ⟨⟨hro.1.1, ?_⟩, hro.2⟩
    rcases hro.1.2 with q | ⟨g', cap', cur, e3, hb, hg', q⟩
    · exact .inl q
    · refine .inr ⟨g', cap', cur, e3, hb, ?_, q⟩
      cases e3
      rw [Below.heap_setCell w9 ⟨L.sb, 1, none⟩ _ g (by exact hgs)]
      exact hg'
  · exact ⟨h.2.n_, h.2.tr, h.2.wy, h.2.dp, h.2.wt, h.2.wv, h.2.rr, h.2.t3, h.2.lit, h.2.few, h.2.rows⟩
  · refine ⟨hg.os.trans hw.os, hg.tape.trans hw.tape, hg.output.trans hw.output, by have := hg.size; have := hw.size; simp; omega, fun b hb ho => ?_, fun b hb => ?_, rfl⟩
    · have hb2 : b < W.heap.size := Nat.lt_of_lt_of_le hb hw.size
      rw [Below.heap_setCell w9 ⟨L.sb, 1, none⟩ _ b (fun e => by rw [show b = L.sb from e, (h.1.st trivial).2] at ho; cases ho), hr.kept hg hb2 (by rw [ho]; decide), hw.block b hb trivial]
    · exact ownT_old (Nat.lt_of_lt_of_le hb hw.size)

end Go.Proofs.YtbicefgjompnoaaDoor.Sx
/- The store: open. -/
namespace Go.Proofs.YtbicefgjompnoaaDoor.Sx
open Go.RowKit Go.Sort

/-- a call that turns the store, and gives something back -/
def StPost (w : World) (L : Ly) (n : Nat) (s : St) (v : Value) (e : Ending) (w' : World) : Prop := e = .returned v ∧ ∃ L', SAt w' L' n s ∧ FrS L L' w w'

theorem one1 {u : Value} (h : u.oneCell' = true) : ∀ x ∈ [u], x.oneCell' = true := fun x hx => by rw [List.mem_singleton.1 hx]; exact h

end Go.Proofs.YtbicefgjompnoaaDoor.Sx
/- The store: believe. -/
namespace Go.Proofs.YtbicefgjompnoaaDoor.Sx
open Go.RowKit Go.Sort

/-- a literal becomes true, because of a row, or of none -/
def believeP (s : St) (l : Nat) (y : Int) : St := { s with truth := (s.truth.set l 1).set (opp l) (-1), why := s.why.set (l / 2) y, depth := s.depth.set (l / 2) (s.cuts.length : Int), trail := s.trail ++ [l] }
theorem opp_lt {l n : Nat} (h : l < 2 * n) : opp l < 2 * n := by unfold opp; split <;> omega

theorem SAt.setTruth {w : World} {L : Ly} {n : Nat} {s : St} (h : SAt w L n s) (l : Nat) (v : Int) (hv : v = 1 ∨ v = 0 ∨ v = -1) : SAt (w.setCell ⟨L.tb, l, none⟩ (.int .i8 v)) L n { s with truth := s.truth.set l v } := by
  obtain ⟨h1, h2⟩ := h.1.tr trivial
  have k : SAtK (· ≠ (5, 0)) (w.setCell ⟨L.tb, l, none⟩ (.int .i8 v)) L n s := (h.1.mono (K' := (· ≠ (5, 0))) fun _ _ => trivial).fr fun b hb hk => Below.heap_setCell w ⟨L.tb, l, none⟩ _ b (fun e => hk (by rw [e]; exact h2))
  refine ⟨⟨fun _ => k.st (by decide), fun _ => k.wt (by decide), fun _ => ⟨?_, h2⟩, fun _ => k.wy (by decide), fun _ => k.dp (by decide), fun _ => k.ro (by decide), fun _ => k.si (by decide), fun _ => k.ta (by decide), fun _ => k.cu (by decide), fun l _ => k.wl l (by simp), fun r _ => k.rl r (by simp)⟩, ⟨h.2.n_, ?_, h.2.wy, h.2.dp, h.2.wt, h.2.wv, h.2.rr, ?_, h.2.lit, h.2.few, h.2.rows⟩⟩
  · have := set_block h1 l (.int .i8 v)
    rw [this]
    simp [i8C, List.map_set]
  · simp [h.2.tr]
  · intro x
    show (s.truth.set l v).getD x 0 = 1 ∨ _
    rw [List.getD_eq_getElem?_getD, List.getElem?_set]
    by_cases q : l = x
    · rw [if_pos q]
      split
      · simpa using hv
      · simp
    · rw [if_neg q, ← List.getD_eq_getElem?_getD]
      exact h.2.t3 x
theorem SAt.setWhy {w : World} {L : Ly} {n : Nat} {s : St} (h : SAt w L n s) (l : Nat) (v : Int) : SAt (w.setCell ⟨L.yb, l, none⟩ (.int .i32 v)) L n { s with why := s.why.set l v } := by
  obtain ⟨h1, h2⟩ := h.1.wy trivial
  have k : SAtK (· ≠ (6, 0)) (w.setCell ⟨L.yb, l, none⟩ (.int .i32 v)) L n s := (h.1.mono (K' := (· ≠ (6, 0))) fun _ _ => trivial).fr fun b hb hk => Below.heap_setCell w ⟨L.yb, l, none⟩ _ b (fun e => hk (by rw [e]; exact h2))
  refine ⟨⟨fun _ => k.st (by decide), fun _ => k.wt (by decide), fun _ => k.tr (by decide), fun _ => ⟨?_, h2⟩, fun _ => k.dp (by decide), fun _ => k.ro (by decide), fun _ => k.si (by decide), fun _ => k.ta (by decide), fun _ => k.cu (by decide), fun l _ => k.wl l (by simp), fun r _ => k.rl r (by simp)⟩, ⟨h.2.n_, h.2.tr, ?_, h.2.dp, h.2.wt, h.2.wv, h.2.rr, h.2.t3, h.2.lit, h.2.few, h.2.rows⟩⟩
  · have := set_block h1 l (.int .i32 v)
    rw [this]
    simp [i32C, List.map_set]
  · simp [h.2.wy]
theorem SAt.setDepth {w : World} {L : Ly} {n : Nat} {s : St} (h : SAt w L n s) (l : Nat) (v : Int) : SAt (w.setCell ⟨L.db, l, none⟩ (.int .i32 v)) L n { s with depth := s.depth.set l v } := by
  obtain ⟨h1, h2⟩ := h.1.dp trivial
  have k : SAtK (· ≠ (7, 0)) (w.setCell ⟨L.db, l, none⟩ (.int .i32 v)) L n s := (h.1.mono (K' := (· ≠ (7, 0))) fun _ _ => trivial).fr fun b hb hk => Below.heap_setCell w ⟨L.db, l, none⟩ _ b (fun e => hk (by rw [e]; exact h2))
  refine ⟨⟨fun _ => k.st (by decide), fun _ => k.wt (by decide), fun _ => k.tr (by decide), fun _ => k.wy (by decide), fun _ => ⟨?_, h2⟩, fun _ => k.ro (by decide), fun _ => k.si (by decide), fun _ => k.ta (by decide), fun _ => k.cu (by decide), fun l _ => k.wl l (by simp), fun r _ => k.rl r (by simp)⟩, ⟨h.2.n_, h.2.tr, h.2.wy, ?_, h.2.wt, h.2.wv, h.2.rr, h.2.t3, h.2.lit, h.2.few, h.2.rows⟩⟩
  · have := set_block h1 l (.int .i32 v)
    rw [this]
    simp [i32C, List.map_set]
  · simp [h.2.dp]
/-- a store into a block of the store's -/
theorem FrS.set {L L' : Ly} {w w' : World} (h : FrS L L' w w') {b i : Nat} {v : Value} (hb : L'.own b ≠ (0, 0)) : FrS L L' w (w'.setCell ⟨b, i, none⟩ v) :=
  ⟨h.os, h.tape, h.output, by simpa using h.size, fun k hk ho => by rw [Below.heap_setCell w' ⟨b, i, none⟩ v k (fun e => hb (by rw [← show k = b from e, h.own k hk, ho]))]; exact h.block k hk ho, h.own, h.sb⟩
theorem FrS.drew {L L' : Ly} {w w' : World} (h : FrS L L' w w') : FrS L L' w w'.drew := ⟨h.os, h.tape, h.output, h.size, h.block, h.own, h.sb⟩
theorem FrS.drewN {L L' : Ly} {w w' : World} (h : FrS L L' w w') (q : Nat) : FrS L L' w (w'.drewN q) := ⟨h.os, h.tape, h.output, h.size, h.block, h.own, h.sb⟩
theorem FrS.alloc {L L' : Ly} {w w' : World} (h : FrS L L' w w') (o : Obj) : FrS L L' w (w'.alloc o) := ⟨h.os, h.tape, h.output, by have := h.size; simp; omega, fun k hk ho => (heap_alloc_old w' o (Nat.lt_of_lt_of_le hk h.size)).trans (h.block k hk ho), h.own, h.sb⟩
/-- cells of the struct that hold the tables -/
theorem SAt.c4 {w : World} {L : Ly} {n : Nat} {s : St} (h : SAt w L n s) : w.cell? ⟨L.sb, 4, none⟩ = some (.slice (some ⟨L.tb, 0, none⟩) (2 * n) (2 * n)) := h.cell 4
theorem SAt.c5 {w : World} {L : Ly} {n : Nat} {s : St} (h : SAt w L n s) : w.cell? ⟨L.sb, 5, none⟩ = some (.slice (some ⟨L.yb, 0, none⟩) n n) := h.cell 5
theorem SAt.c6 {w : World} {L : Ly} {n : Nat} {s : St} (h : SAt w L n s) : w.cell? ⟨L.sb, 6, none⟩ = some (.slice (some ⟨L.db, 0, none⟩) n n) := h.cell 6
theorem SAt.tfree {w : World} {L : Ly} {n : Nat} {s : St} (h : SAt w L n s) (i : Nat) : w.frozen? ⟨L.tb, i, none⟩ = false := frozen_block (h.1.tr trivial).1 i
theorem SAt.yfree {w : World} {L : Ly} {n : Nat} {s : St} (h : SAt w L n s) (i : Nat) : w.frozen? ⟨L.yb, i, none⟩ = false := frozen_block (h.1.wy trivial).1 i
theorem SAt.dfree {w : World} {L : Ly} {n : Nat} {s : St} (h : SAt w L n s) (i : Nat) : w.frozen? ⟨L.db, i, none⟩ = false := frozen_block (h.1.dp trivial).1 i
theorem SAt.why_ {w : World} {L : Ly} {n : Nat} {s : St} (h : SAt w L n s) {l : Nat} (hl : l < n) : w.cell? ⟨L.yb, l, none⟩ = some (.int .i32 (s.why.getD l 0)) := by
  rw [block_cell (h.1.wy trivial).1]
  have : l < s.why.length := by rw [h.2.wy]; exact hl
  simp [i32C, this]
theorem SAt.depth_ {w : World} {L : Ly} {n : Nat} {s : St} (h : SAt w L n s) {l : Nat} (hl : l < n) : w.cell? ⟨L.db, l, none⟩ = some (.int .i32 (s.depth.getD l 0)) := by
  rw [block_cell (h.1.dp trivial).1]
  have : l < s.depth.length := by rw [h.2.dp]; exact hl
  simp [i32C, this]
set_option maxRecDepth 100000 in
set_option maxHeartbeats 1000000 in
theorem level_cell (w : World) (b k cap : Nat) (a : Option Addr) (hc : w.cell? ⟨b, 9, none⟩ = some (.slice a k cap)) : Calls Tryd.prog 34 #[.pointer (some ⟨b, 0, none⟩)] w fun e w' => e = .returned (.int .i64 (k : Int)) ∧ w' = w := by
  have mo := follows
  go_enter Tryd.func34, Tryd.ntmps34
  go_wp2_with fail
  go_ret
  exact ⟨rfl, rfl⟩

end Go.Proofs.YtbicefgjompnoaaDoor.Sx
/- The store: forget, back. -/
namespace Go.Proofs.YtbicefgjompnoaaDoor.Sx
open Go.RowKit Go.Sort

/-- literals are neither true nor false any more -/
def unP (t : List Int) (ls : List Nat) : List Int := ls.foldl (fun t l => (t.set l 0).set (opp l) 0) t
/-- all but so many of what is true is taken back -/
def forgetP (s : St) (k : Nat) : St := { s with truth := unP s.truth (s.trail.drop k), trail := s.trail.take k, done := min s.done k }

theorem v32_get {l : List Nat} {i x : Nat} (h : l[i]? = some x) : (v32 l)[i]? = some (.int .i32 (x : Int)) := by simp [v32, h]
/-- a cell of a row of literals or numbers -/
theorem OwnR.cell1 {w : World} {own : Nat → Nat × Nat} {t : Nat × Nat} {e : Nat} {a : Option Addr} {n m cap : Nat} {xs : List Value} (h : OwnR w own t e 1 (.slice a m cap) n xs) {i : Nat} {u : Value} (hu : xs[i]? = some u) : ∃ g, a = some ⟨g, 0, none⟩ ∧ own g = t ∧ w.cell? ⟨g, i, none⟩ = some u ∧ m ≤ cap := by
  have hi : i < xs.length := (List.getElem?_eq_some_iff.1 hu).1
  rcases h.1.2 with ⟨e1, hn⟩ | ⟨g, cap', cur, e1, hb, hg, hc, _, hs, ht⟩
  · have := h.1.1; rw [hn] at this; omega
  · cases e1
    refine ⟨g, rfl, h.2 g rfl, ?_, hc⟩
    rw [block_cell hg]
    rw [← ht, List.getElem?_take] at hu
    split at hu
    · simpa using hu
    · simp at hu
/-- a row that is cut short -/
theorem OwnR.take1 {w : World} {own : Nat → Nat × Nat} {t : Nat × Nat} {e : Nat} {a : Option Addr} {n cap : Nat} {xs : List Value} (h : OwnR w own t e 1 (.slice a n cap) n xs) {k : Nat} (hk : k ≤ n) : OwnR w own t e 1 (.slice a k cap) k (xs.take k) := by
  refine ⟨⟨by rw [List.length_take, h.1.1]; omega, ?_⟩, fun g hg => h.2 g (by cases a <;> exact hg)⟩
  rcases h.1.2 with ⟨e1, hn⟩ | ⟨g, cap', cur, e1, hb, hg, hc, hm, hs, ht⟩
  · cases e1
    exact .inl ⟨by rw [show k = 0 from by omega], by omega⟩
  · cases e1
    refine .inr ⟨g, _, cur, rfl, hb, hg, by omega, hm, hs, ?_⟩
    rw [← ht, List.take_take]
    congr 1
    omega

end Go.Proofs.YtbicefgjompnoaaDoor.Sx
/- The store: its struct's fields. -/
namespace Go.Proofs.YtbicefgjompnoaaDoor.Sx
open Go.RowKit Go.Sort

section
variable {w : World} {L : Ly} {n : Nat} {s : St}
theorem SAt.sbne (h : SAt w L n s) {b : Nat} {t : Nat × Nat} (hb : L.own b = t) (ht : t ≠ (1, 0)) : b ≠ L.sb := fun e => ht (by rw [← hb, e]; exact (h.1.st trivial).2)
theorem OwnR.setSb {t : Nat × Nat} {e k i : Nat} {v u : Value} {m : Nat} {xs : List Value} (h : SAt w L n s) (hr : OwnR w L.own t e k v m xs) (ht : t ≠ (1, 0)) : OwnR (w.setCell ⟨L.sb, i, none⟩ u) L.own t e k v m xs :=
  hr.fr fun _ _ ho => Below.heap_setCell w ⟨L.sb, i, none⟩ u _ (h.sbne ho ht)
theorem SAt.setDone (h : SAt w L n s) (d : Nat) : SAt (w.setCell ⟨L.sb, 8, none⟩ (.int .i64 (d : Int))) L n { s with done := d } := by
  obtain ⟨k1, k2, k3⟩ := h.1.setSt trivial 8 (.int .i64 (d : Int))
  exact ⟨⟨fun _ => ⟨k2, k3⟩, fun _ => k1.wt (by decide), fun _ => k1.tr (by decide), fun _ => k1.wy (by decide), fun _ => k1.dp (by decide), fun _ => k1.ro (by decide), fun _ => k1.si (by decide), fun _ => k1.ta (by decide), fun _ => k1.cu (by decide), fun l _ => k1.wl l (by simp), fun r _ => k1.rl r (by simp)⟩, ⟨h.2.n_, h.2.tr, h.2.wy, h.2.dp, h.2.wt, h.2.wv, h.2.rr, h.2.t3, h.2.lit, h.2.few, h.2.rows⟩⟩
theorem SAt.setEmpty (h : SAt w L n s) (d : Nat) : SAt (w.setCell ⟨L.sb, 2, none⟩ (.int .i64 (d : Int))) L n { s with empty := d } := by
  obtain ⟨k1, k2, k3⟩ := h.1.setSt trivial 2 (.int .i64 (d : Int))
  exact ⟨⟨fun _ => ⟨k2, k3⟩, fun _ => k1.wt (by decide), fun _ => k1.tr (by decide), fun _ => k1.wy (by decide), fun _ => k1.dp (by decide), fun _ => k1.ro (by decide), fun _ => k1.si (by decide), fun _ => k1.ta (by decide), fun _ => k1.cu (by decide), fun l _ => k1.wl l (by simp), fun r _ => k1.rl r (by simp)⟩, ⟨h.2.n_, h.2.tr, h.2.wy, h.2.dp, h.2.wt, h.2.wv, h.2.rr, h.2.t3, h.2.lit, h.2.few, h.2.rows⟩⟩
theorem SAt.cutTrail (h : SAt w L n s) {a : Option Addr} {cap k : Nat} (hv : L.tv = .slice a s.trail.length cap) (hk : k ≤ s.trail.length) : SAt (w.setCell ⟨L.sb, 7, none⟩ (.slice a k cap)) { L with tv := .slice a k cap } n { s with trail := s.trail.take k } := by
  obtain ⟨k1, k2, k3⟩ := h.1.setSt trivial 7 (.slice a k cap)
  have hr := h.1.ta trivial
  rw [hv] at hr
  refine ⟨⟨fun _ => ⟨k2, k3⟩, fun _ => k1.wt (by decide), fun _ => k1.tr (by decide), fun _ => k1.wy (by decide), fun _ => k1.dp (by decide), fun _ => k1.ro (by decide), fun _ => k1.si (by decide), fun _ => ?_, fun _ => k1.cu (by decide), fun l _ => k1.wl l (by simp), fun r _ => k1.rl r (by simp)⟩, ⟨h.2.n_, h.2.tr, h.2.wy, h.2.dp, h.2.wt, h.2.wv, h.2.rr, h.2.t3, fun l hl => h.2.lit l (List.mem_of_mem_take hl), by show (s.trail.take k).length ≤ n; have := h.2.few; rw [List.length_take]; omega, h.2.rows⟩⟩
  have := OwnR.setSb (i := 7) (u := .slice a k cap) h (hr.take1 hk) (by decide)
  have e1 : (s.trail.take k).length = k := by rw [List.length_take]; omega
  have e2 : v32 (s.trail.take k) = (v32 s.trail).take k := by simp [v32, List.map_take]
  show OwnR _ _ _ _ _ _ (s.trail.take k).length (v32 (s.trail.take k))
  rw [e1, e2]
  exact this
theorem SAt.cutCuts (h : SAt w L n s) {a : Option Addr} {cap k : Nat} (hv : L.cv = .slice a s.cuts.length cap) (hk : k ≤ s.cuts.length) : SAt (w.setCell ⟨L.sb, 9, none⟩ (.slice a k cap)) { L with cv := .slice a k cap } n { s with cuts := s.cuts.take k } := by
  obtain ⟨k1, k2, k3⟩ := h.1.setSt trivial 9 (.slice a k cap)
  have hr := h.1.cu trivial
  rw [hv] at hr
  refine ⟨⟨fun _ => ⟨k2, k3⟩, fun _ => k1.wt (by decide), fun _ => k1.tr (by decide), fun _ => k1.wy (by decide), fun _ => k1.dp (by decide), fun _ => k1.ro (by decide), fun _ => k1.si (by decide), fun _ => k1.ta (by decide), fun _ => ?_, fun l _ => k1.wl l (by simp), fun r _ => k1.rl r (by simp)⟩, ⟨h.2.n_, h.2.tr, h.2.wy, h.2.dp, h.2.wt, h.2.wv, h.2.rr, h.2.t3, h.2.lit, h.2.few, h.2.rows⟩⟩
  have := OwnR.setSb (i := 9) (u := .slice a k cap) h (hr.take1 hk) (by decide)
  have e1 : (s.cuts.take k).length = k := by rw [List.length_take]; omega
  have e2 : i64C (s.cuts.take k) = (i64C s.cuts).take k := by simp [i64C, List.map_take]
  show OwnR _ _ _ _ _ _ (s.cuts.take k).length (i64C (s.cuts.take k))
  rw [e1, e2]
  exact this
end

end Go.Proofs.YtbicefgjompnoaaDoor.Sx
/- The store: forget, in memory. -/
namespace Go.Proofs.YtbicefgjompnoaaDoor.Sx
open Go.RowKit Go.Sort

end Go.Proofs.YtbicefgjompnoaaDoor.Sx
/- The store: back to level 0. -/
namespace Go.Proofs.YtbicefgjompnoaaDoor.Sx
open Go.RowKit Go.Sort

def backP (s : St) : St := match s.cuts with
  | [] => s
  | c :: _ => { forgetP s c with cuts := [] }

end Go.Proofs.YtbicefgjompnoaaDoor.Sx
/- The store: a new one. -/
namespace Go.Proofs.YtbicefgjompnoaaDoor.Sx
open Go.RowKit Go.Sort

theorem info92 : ∃ i0, Tryd.prog.info? 86 = some i0 ∧ i0.zero = some (.slice none 0 0) ∧ i0.size = 1 ∧ i0.bytes = 24 := by
  have h : ((Tryd.prog.info? 86).map fun i => (i.zero, i.size, i.bytes)) = some (some (.slice none 0 0), 1, 24) := by kernel_rfl
  cases hq : Tryd.prog.info? 86 with
  | none => rw [hq] at h; simp at h
  | some j => rw [hq] at h; simp at h; exact ⟨j, rfl, h.1, h.2.1, h.2.2⟩
theorem info84 : ∃ i0, Tryd.prog.info? 72 = some i0 ∧ i0.zero = some (.int .i8 0) ∧ i0.size = 1 ∧ i0.bytes = 1 := by
  have h : ((Tryd.prog.info? 72).map fun i => (i.zero, i.size, i.bytes)) = some (some (.int .i8 0), 1, 1) := by kernel_rfl
  cases hq : Tryd.prog.info? 72 with
  | none => rw [hq] at h; simp at h
  | some j => rw [hq] at h; simp at h; exact ⟨j, rfl, h.1, h.2.1, h.2.2⟩
theorem made_one {v : Value} (hv : v.cells = #[v]) (m : Nat) : madeCells v.cells (m * 1) = Array.replicate m v := by
  apply Array.ext
  · simp [madeCells]
  · intro i h1 h2
    have e : i % 1 = 0 := Nat.mod_one i
    simp [madeCells, hv, e]
/-- a store without clauses -/
def newP (n : Nat) : St := ⟨[], [], 0, List.replicate (2 * n) [], List.replicate (2 * n) 0, List.replicate n 0, List.replicate n 0, [], 0, []⟩

def NewPost (w : World) (n : Nat) (e : Ending) (w' : World) : Prop := ∃ L : Ly, e = .returned (.pointer (some ⟨L.sb, 0, none⟩)) ∧ SAt w' L n (newP n) ∧ Fr (fun _ => True) w w' ∧ ∀ b, b < w.heap.size → L.own b = (0, 0)
theorem new_at (w W : World) (n wb tb yb db : Nat) (hn : n ≤ 16777216) (h1 : W.heap[wb]? = some (.cells (Array.replicate (2 * n) (Value.slice none 0 0)) 86 (0, 0))) (h2 : W.heap[tb]? = some (.cells (Array.replicate (2 * n) (Value.int .i8 0)) 72 (0, 0))) (h3 : W.heap[yb]? = some (.cells (Array.replicate n (Value.int .i32 0)) 21 (0, 0))) (h4 : W.heap[db]? = some (.cells (Array.replicate n (Value.int .i32 0)) 21 (0, 0)))
    (d1 : w.heap.size ≤ wb ∧ w.heap.size ≤ tb ∧ w.heap.size ≤ yb ∧ w.heap.size ≤ db) (d2 : wb ≠ tb ∧ wb ≠ yb ∧ wb ≠ db ∧ tb ≠ yb ∧ tb ≠ db ∧ yb ≠ db) (hF : Fr (fun _ => True) w W) {q : Nat} (hq : q = W.heap.size) {W' : World} (hW : W' = W.alloc (.cells #[.slice none 0 0, .slice none 0 0, .int .i64 0, .slice (some ⟨wb, 0, none⟩) (2 * n) (2 * n), .slice (some ⟨tb, 0, none⟩) (2 * n) (2 * n), .slice (some ⟨yb, 0, none⟩) n n, .slice (some ⟨db, 0, none⟩) n n, .slice none 0 0, .int .i64 0, .slice none 0 0] 54)) :
    NewPost w n (.returned (.pointer (some ⟨q, 0, none⟩))) W' := by
  subst hq
  subst hW
  have l1 := block_lt h1
  have l2 := block_lt h2
  have l3 := block_lt h3
  have l4 := block_lt h4
  have hs := hF.size
  refine ⟨⟨W.heap.size, wb, tb, yb, db, .slice none 0 0, .slice none 0 0, .slice none 0 0, .slice none 0 0, List.replicate (2 * n) (.slice none 0 0), [], fun b => if b = W.heap.size then (1, 0) else if b = wb then (4, 0) else if b = tb then (5, 0) else if b = yb then (6, 0) else if b = db then (7, 0) else (0, 0)⟩, rfl, ⟨?_, ?_⟩, hF.alloc _, fun b hb => ?_⟩
  · refine ⟨fun _ => ⟨heap_new rfl, by simp⟩, fun _ => ⟨?_, ?_⟩, fun _ => ⟨?_, ?_⟩, fun _ => ⟨?_, ?_⟩, fun _ => ⟨?_, ?_⟩, fun _ => ⟨World.ownsRow_nil _ _ _ _, fun g hg => by cases hg⟩, fun _ => ⟨World.ownsRow_nil _ _ _ _, fun g hg => by cases hg⟩, fun _ => ⟨World.ownsRow_nil _ _ _ _, fun g hg => by cases hg⟩, fun _ => ⟨World.ownsRow_nil _ _ _ _, fun g hg => by cases hg⟩, fun l _ hl => ⟨.slice none 0 0, ?_, ?_⟩, fun r _ c hc => by simp [newP] at hc⟩
    · rw [heap_alloc_old W _ l1, h1]; simp
    · simp only; rw [if_neg (by omega), if_pos trivial]
    · rw [heap_alloc_old W _ l2, h2]; simp [newP, i8C]
    · simp only; rw [if_neg (by omega), if_neg (by omega), if_pos trivial]
    · rw [heap_alloc_old W _ l3, h3]; simp [newP, i32C]
    · simp only; rw [if_neg (by omega), if_neg (by omega), if_neg (by omega), if_pos trivial]
    · rw [heap_alloc_old W _ l4, h4]; simp [newP, i32C]
    · simp only; rw [if_neg (by omega), if_neg (by omega), if_neg (by omega), if_neg (by omega), if_pos trivial]
    · simp [hl]
    · have e : (newP n).watches.getD l [] = [] := by simp [newP, hl]
      rw [e]
      exact ⟨World.ownsRow_nil _ _ _ _, fun g hg => by cases hg⟩
  · refine ⟨hn, by simp [newP], by simp [newP], by simp [newP], by simp [newP], by simp, by simp [newP], fun l => ?_, fun l hl => by simp [newP] at hl, by simp [newP], by simp [newP]⟩
    by_cases hl : l < 2 * n
    · simp [newP, hl]
    · simp [newP, hl]
  · simp only
    rw [if_neg (by omega), if_neg (by omega), if_neg (by omega), if_neg (by omega), if_neg (by omega)]

end Go.Proofs.YtbicefgjompnoaaDoor.Sx
