/- The store: what an append to a literal's watches leaves; rows that come in. -/
import Derived.Test.YtbicefgjompnoaaDoorF04
import Derived.Test.YtbicefgjompnoaaDoorF06
import Derived.Test.YtbicefgjompnoaaDoorF15
import Derived.Maps.Keyed
import Derived.Laws.IdiomStrings
namespace Go.Proofs.YtbicefgjompnoaaDoor.Sx
open Go.RowKit Go.Sort

theorem flatW_snoc (l : List (Nat × Nat)) (r o : Nat) : flatW (l ++ [(r, o)]) = flatW l ++ [.int .i32 (r : Int), .int .i32 (o : Int)] := by simp [flatW]
/-- a literal's watches with one more -/
def pushW (s : St) (l r o : Nat) : St := { s with watches := s.watches.set l (s.watches.getD l [] ++ [(r, o)]) }
theorem pushW_getD {s : St} {l r o k : Nat} (hl : l < s.watches.length) : (pushW s l r o).watches.getD k [] = if k = l then s.watches.getD l [] ++ [(r, o)] else s.watches.getD k [] := by
  show (s.watches.set l _).getD k [] = _
  rw [List.getD_eq_getElem?_getD, List.getElem?_set]
  by_cases q : l = k
  · rw [if_pos q, if_pos hl, if_pos q.symm]; rfl
  · rw [if_neg q, if_neg (fun e => q e.symm), ← List.getD_eq_getElem?_getD]

theorem SAt.app_watch {w W w9 : World} {L : Ly} {n : Nat} {s : St} (h : SAt W L n s) (hw : Fr (fun _ => True) w W) {l r o g cap : Nat} {v : Value} (hl : l < 2 * n) (hv : L.wv[l]? = some v) (ho : w9.ownsRow 0 88 2 (.slice (some ⟨g, 0, none⟩) ((s.watches.getD l []).length + 1) cap) ((s.watches.getD l []).length + 1) (flatW (s.watches.getD l []) ++ [.int .i32 (r : Int), .int .i32 (o : Int)])) (hg : W.grownBy w9 v.ownBlock) (hat : v.ownBlock = some g ∨ g = W.heap.size) :
    w9.cell? ⟨L.wb, l, none⟩ = some v ∧ w9.frozen? ⟨L.wb, l, none⟩ = false ∧ SAt (w9.setCell ⟨L.wb, l, none⟩ (.slice (some ⟨g, 0, none⟩) ((s.watches.getD l []).length + 1) cap)) { L with wv := L.wv.set l (.slice (some ⟨g, 0, none⟩) ((s.watches.getD l []).length + 1) cap), own := ownT L.own W.heap.size (10, l) } n (pushW s l r o) ∧ FrS L { L with wv := L.wv.set l (.slice (some ⟨g, 0, none⟩) ((s.watches.getD l []).length + 1) cap), own := ownT L.own W.heap.size (10, l) } w (w9.setCell ⟨L.wb, l, none⟩ (.slice (some ⟨g, 0, none⟩) ((s.watches.getD l []).length + 1) cap)) := by
  obtain ⟨v', e', hr⟩ := h.1.wl l trivial hl
  rw [hv] at e'
  cases e'
  have h1 := h.grown hr hg
  obtain ⟨h2, h3⟩ := h1.wt (by simp)
  have hwb : W.heap[L.wb]? = some (.cells L.wv.toArray 86 (0, 0)) := (h.1.wt trivial).1
  have hwo : L.own L.wb = (4, 0) := (h.1.wt trivial).2
  have hro := hr.app ho (by
    rcases hat with q | q
    · exact .inl (by rw [q]; rfl)
    · exact .inr (by rw [← q]; rfl))
  have hgw : g ≠ L.wb := by
    rcases hat with q | q
    · intro e
      have e1 := hr.2 g q
      rw [e, hwo] at e1
      cases e1
    · have := block_lt hwb; omega
  have k1 : SAtK (fun t => t ≠ (10, l) ∧ t ≠ (4, 0)) (w9.setCell ⟨L.wb, l, none⟩ (.slice (some ⟨g, 0, none⟩) ((s.watches.getD l []).length + 1) cap)) { L with own := ownT L.own W.heap.size (10, l) } n s := by
    refine (h1.mono (K' := fun t => t ≠ (10, l) ∧ t ≠ (4, 0)) fun _ q => q.1).fr fun b hb hk => ?_
    exact Below.heap_setCell w9 ⟨L.wb, l, none⟩ _ b (fun e => hk.2 (by rw [show b = L.wb from e]; exact h3))
  have hwl : s.watches.length = 2 * n := h.2.wt
  refine ⟨?_, frozen_block h2 l, ⟨?_, ?_⟩, ?_⟩
  · rw [block_cell h2]; simpa using hv
  · refine ⟨fun _ => k1.st (by simp), fun _ => ⟨?_, h3⟩, fun _ => k1.tr (by simp), fun _ => k1.wy (by simp), fun _ => k1.dp (by simp), fun _ => k1.ro (by simp), fun _ => k1.si (by simp), fun _ => k1.ta (by simp), fun _ => k1.cu (by simp), fun l' _ hl' => ?_, fun r' _ => k1.rl r' (by simp)⟩
    · rw [set_block h2 l]
      simp [Array.set!_eq_setIfInBounds]
    · by_cases q : l' = l
      · subst q
        refine ⟨_, List.getElem?_set_self (by rw [h.2.wv]; exact hl), ?_⟩
        rw [pushW_getD (by rw [hwl]; exact hl), if_pos rfl, flatW_snoc, List.length_append]
        refine ⟨⟨hro.1.1, ?_⟩, hro.2⟩
        rcases hro.1.2 with q | ⟨g', cap', cur, e3, hb, hg', q⟩
        · exact .inl q
        · refine .inr ⟨g', cap', cur, e3, hb, ?_, q⟩
          cases e3
          rw [Below.heap_setCell w9 ⟨L.wb, l', none⟩ _ g (by exact hgw)]
          exact hg'
      · obtain ⟨u, e1, e2⟩ := k1.wl l' (by simp [q]) hl'
        refine ⟨u, ?_, ?_⟩
        · show (L.wv.set l _)[l']? = some u
          rw [List.getElem?_set_ne (fun e => q e.symm)]
          exact e1
        · rw [pushW_getD (by rw [hwl]; exact hl), if_neg q]
          exact e2
  · exact ⟨h.2.n_, h.2.tr, h.2.wy, h.2.dp, by simp [pushW, hwl], by simp [h.2.wv], h.2.rr, h.2.t3, h.2.lit, h.2.few, h.2.rows⟩
  · refine ⟨hg.os.trans hw.os, hg.tape.trans hw.tape, hg.output.trans hw.output, by have := hg.size; have := hw.size; simp; omega, fun b hb ho => ?_, fun b hb => ?_, rfl⟩
    · have hb2 : b < W.heap.size := Nat.lt_of_lt_of_le hb hw.size
      rw [Below.heap_setCell w9 ⟨L.wb, l, none⟩ _ b (fun e => by rw [show b = L.wb from e, hwo] at ho; cases ho), hr.kept hg hb2 (by rw [ho]; simp), hw.block b hb trivial]
    · exact ownT_old (Nat.lt_of_lt_of_le hb hw.size)

end Go.Proofs.YtbicefgjompnoaaDoor.Sx
/- The store: a row that comes in. -/
namespace Go.Proofs.YtbicefgjompnoaaDoor.Sx
open Go.RowKit Go.Sort

/-- a block that was none of the store's becomes one -/
def reT (own : Nat → Nat × Nat) (cb : Nat) (t : Nat × Nat) (b : Nat) : Nat × Nat := if b = cb then t else own b
theorem reT_of {own : Nat → Nat × Nat} {cb b : Nat} {t t' : Nat × Nat} (hc : own cb = (0, 0)) (h : own b = t') (ht : t' ≠ (0, 0)) : reT own cb t b = t' := by
  unfold reT
  rw [if_neg (fun e => ht (by rw [← h, e]; exact hc))]
  exact h
theorem OwnR.retag {w : World} {own : Nat → Nat × Nat} {t t' : Nat × Nat} {e k cb : Nat} {v : Value} {n : Nat} {xs : List Value} (h : OwnR w own t e k v n xs) (hc : own cb = (0, 0)) (ht : t ≠ (0, 0)) : OwnR w (reT own cb t') t e k v n xs := ⟨h.1, fun g hg => reT_of hc (h.2 g hg) ht⟩
theorem SAtK.retag {K : Nat × Nat → Prop} {w : World} {L : Ly} {n : Nat} {s : St} (h : SAtK K w L n s) {cb : Nat} (hc : L.own cb = (0, 0)) (t : Nat × Nat) : SAtK K w { L with own := reT L.own cb t } n s :=
  ⟨fun k => ⟨(h.st k).1, reT_of hc (h.st k).2 (by decide)⟩, fun k => ⟨(h.wt k).1, reT_of hc (h.wt k).2 (by decide)⟩, fun k => ⟨(h.tr k).1, reT_of hc (h.tr k).2 (by decide)⟩, fun k => ⟨(h.wy k).1, reT_of hc (h.wy k).2 (by decide)⟩, fun k => ⟨(h.dp k).1, reT_of hc (h.dp k).2 (by decide)⟩,
    fun k => (h.ro k).retag hc (by decide), fun k => (h.si k).retag hc (by decide), fun k => (h.ta k).retag hc (by decide), fun k => (h.cu k).retag hc (by decide),
    fun l k hl => by obtain ⟨v, h1, h2⟩ := h.wl l k hl; exact ⟨v, h1, h2.retag hc (by simp)⟩,
    fun r k c hr => by
      obtain ⟨v, h1, h2⟩ := h.rl r k c hr
      refine ⟨v, h1, ?_⟩
      cases c with
      | none => exact h2
      | some c =>
        obtain ⟨b, d, e1, e2, e3⟩ := h2
        exact ⟨b, d, e1, reT_of hc e2 (by simp), e3⟩⟩
/-- as FrS, but for one block that became a row -/
structure FrX (cb : Nat) (L L' : Ly) (w w' : World) : Prop where
  os : w'.os = w.os
  tape : w'.tape = w.tape
  output : w'.output = w.output
  size : w.heap.size ≤ w'.heap.size
  block : ∀ b, b < w.heap.size → b ≠ cb → L.own b = (0, 0) → w'.heap[b]? = w.heap[b]?
  own : ∀ b, b < w.heap.size → b ≠ cb → L'.own b = L.own b
  sb : L'.sb = L.sb
theorem FrS.x {L L' : Ly} {w w' : World} (h : FrS L L' w w') (cb : Nat) : FrX cb L L' w w' := ⟨h.os, h.tape, h.output, h.size, fun b hb _ => h.block b hb, fun b hb _ => h.own b hb, h.sb⟩
theorem FrX.trans {cb : Nat} {L L' L'' : Ly} {a b c : World} (h : FrX cb L L' a b) (k : FrS L' L'' b c) : FrX cb L L'' a c :=
  ⟨k.os.trans h.os, k.tape.trans h.tape, k.output.trans h.output, Nat.le_trans h.size k.size, fun i hi hn ho => (k.block i (Nat.lt_of_lt_of_le hi h.size) ((h.own i hi hn).trans ho)).trans (h.block i hi hn ho), fun i hi hn => (k.own i (Nat.lt_of_lt_of_le hi h.size)).trans (h.own i hi hn), k.sb.trans h.sb⟩

/-- the clause as it is handed in: a row of its own, none of the store's yet -/
structure CAt (w : World) (L : Ly) (cb : Nat) (d : Array Nat) (c : List Nat) : Prop where
  row : LRow w cb d
  tk : d.toList.take c.length = c
  sz : d.size ≤ 4294967296
  own : L.own cb = (0, 0)

theorem SAt.app_rows {w W w9 : World} {L : Ly} {n : Nat} {s : St} (h : SAt W L n s) (hw : Fr (fun _ => True) w W) {cb g cap : Nat} {d : Array Nat} {c : List Nat} (hc : CAt w L cb d c) (hrw : s.rows.length + 1 ≤ 1000000000) (ho : w9.ownsRow 0 43 1 (.slice (some ⟨g, 0, none⟩) (s.rows.length + 1) cap) (s.rows.length + 1) (L.rr ++ [.slice (some ⟨cb, 0, none⟩) c.length d.size])) (hg : W.grownBy w9 L.rv.ownBlock) (hat : L.rv.ownBlock = some g ∨ g = W.heap.size) :
    w9.cell? ⟨L.sb, 0, none⟩ = some L.rv ∧ w9.frozen? ⟨L.sb, 0, none⟩ = false ∧ ∃ L', SAt (w9.setCell ⟨L.sb, 0, none⟩ (.slice (some ⟨g, 0, none⟩) (s.rows.length + 1) cap)) L' n { s with rows := s.rows ++ [some c] } ∧ FrX cb L L' w (w9.setCell ⟨L.sb, 0, none⟩ (.slice (some ⟨g, 0, none⟩) (s.rows.length + 1) cap)) ∧ L'.rr[s.rows.length]? = some (.slice (some ⟨cb, 0, none⟩) c.length d.size) := by
  have hr := h.1.ro trivial
  have h1 := h.grown hr hg
  obtain ⟨h2, h3⟩ := h1.st (by decide)
  have hsb : W.heap[L.sb]? = some (.cells (stC L n s) 54 (0, 0)) := (h.1.st trivial).1
  have hso : L.own L.sb = (1, 0) := (h.1.st trivial).2
  obtain ⟨k1, k2, k3⟩ := h1.setSt (by decide) 0 (.slice (some ⟨g, 0, none⟩) (s.rows.length + 1) cap)
  have hro := hr.app ho (by
    rcases hat with q | q
    · exact .inl (by rw [q]; rfl)
    · exact .inr (by rw [← q]; rfl))
  have hgs : g ≠ L.sb := by
    rcases hat with q | q
    · intro e
      have e1 := hr.2 g q
      rw [e, hso] at e1
      cases e1
    · have := block_lt hsb; omega
  have hcl : cb < w.heap.size := block_lt hc.row
  have hcW : cb < W.heap.size := Nat.lt_of_lt_of_le hcl hw.size
  have hcs : cb ≠ L.sb := fun e => by have := hc.own; rw [e, hso] at this; cases this
  have hco : ownT L.own W.heap.size (2, 0) cb = (0, 0) := by rw [ownT_old hcW]; exact hc.own
  have k4 := k1.retag hco (11, s.rows.length)
  have hrr : L.rr.length = s.rows.length := h.2.rr
  have hrow : LRow (w9.setCell ⟨L.sb, 0, none⟩ (.slice (some ⟨g, 0, none⟩) (s.rows.length + 1) cap)) cb d := by
    unfold LRow
    rw [Below.heap_setCell w9 ⟨L.sb, 0, none⟩ _ cb (by exact hcs), hr.kept hg hcW (by rw [hc.own]; decide), hw.block cb hcl trivial]
    exact hc.row
  refine ⟨by rw [block_cell h2]; rfl, frozen_block h2 0, { L with rv := .slice (some ⟨g, 0, none⟩) (s.rows.length + 1) cap, rr := L.rr ++ [.slice (some ⟨cb, 0, none⟩) c.length d.size], own := reT (ownT L.own W.heap.size (2, 0)) cb (11, s.rows.length) }, ⟨?_, ?_⟩, ?_, by rw [← hrr]; simp⟩
  · refine ⟨fun _ => ⟨k2, reT_of hco k3 (by decide)⟩, fun _ => k4.wt (by decide), fun _ => k4.tr (by decide), fun _ => k4.wy (by decide), fun _ => k4.dp (by decide), fun _ => ?_, fun _ => k4.si (by decide), fun _ => k4.ta (by decide), fun _ => k4.cu (by decide), fun l _ => k4.wl l (by simp), fun r _ c' hc' => ?_⟩
    · have e1 : (s.rows ++ [some c]).length = s.rows.length + 1 := by simp
      show OwnR _ _ _ _ _ _ (s.rows ++ [some c]).length _
      rw [e1]
      refine ⟨⟨hro.1.1, ?_⟩, fun g' hg' => reT_of hco (hro.2 g' hg') (by decide)⟩
      rcases hro.1.2 with q | ⟨g', cap', cur, e3, hb, hg', q⟩
      · exact .inl q
      · refine .inr ⟨g', cap', cur, e3, hb, ?_, q⟩
        cases e3
        rw [Below.heap_setCell w9 ⟨L.sb, 0, none⟩ _ g (by exact hgs)]
        exact hg'
    · have hc2 : (s.rows ++ [some c])[r]? = some c' := hc'
      by_cases hlt : r < s.rows.length
      · rw [List.getElem?_append_left hlt] at hc2
        obtain ⟨v, e1, e2⟩ := k4.rl r (by simp) c' hc2
        refine ⟨v, ?_, e2⟩
        show (L.rr ++ _)[r]? = some v
        rw [List.getElem?_append_left (by rw [hrr]; exact hlt)]
        exact e1
      · have hr2 : r < (s.rows ++ [some c]).length := (List.getElem?_eq_some_iff.1 hc2).1
        simp at hr2
        obtain rfl : r = s.rows.length := by omega
        have : c' = some c := by simpa using hc2.symm
        subst this
        refine ⟨.slice (some ⟨cb, 0, none⟩) c.length d.size, ?_, cb, d, rfl, ?_, hrow, hc.tk, hc.sz⟩
        · show (L.rr ++ _)[s.rows.length]? = _
          rw [← hrr]; simp
        · show reT _ cb _ cb = _
          unfold reT; rw [if_pos rfl]
  · exact ⟨h.2.n_, h.2.tr, h.2.wy, h.2.dp, h.2.wt, h.2.wv, by show (L.rr ++ _).length = (s.rows ++ _).length; simp [hrr], h.2.t3, h.2.lit, h.2.few, by show (s.rows ++ [some c]).length ≤ _; simp; omega⟩
  · refine ⟨hg.os.trans hw.os, hg.tape.trans hw.tape, hg.output.trans hw.output, by have := hg.size; have := hw.size; simp; omega, fun b hb hne ho => ?_, fun b hb hne => ?_, rfl⟩
    · have hb2 : b < W.heap.size := Nat.lt_of_lt_of_le hb hw.size
      rw [Below.heap_setCell w9 ⟨L.sb, 0, none⟩ _ b (fun e => by rw [show b = L.sb from e, hso] at ho; cases ho), hr.kept hg hb2 (by rw [ho]; decide), hw.block b hb trivial]
    · show reT _ cb _ b = L.own b
      unfold reT
      rw [if_neg hne]
      exact ownT_old (Nat.lt_of_lt_of_le hb hw.size)

/-- the cells of a row -/
theorem SAt.rowcell {w : World} {L : Ly} {n : Nat} {s : St} (h : SAt w L n s) {r cb k cap i x : Nat} {c : List Nat} (hr : s.rows[r]? = some (some c)) (hv : L.rr[r]? = some (.slice (some ⟨cb, 0, none⟩) k cap)) (hx : c[i]? = some x) : w.cell? ⟨cb, i, none⟩ = some (.int .i32 (x : Int)) ∧ w.frozen? ⟨cb, i, none⟩ = false ∧ L.own cb = (11, r) := by
  obtain ⟨v, h1, b, d, h2, h3, h4, h5, _⟩ := h.1.rl r trivial _ hr
  rw [hv] at h1
  cases h1
  cases h2
  have hi : i < c.length := (List.getElem?_eq_some_iff.1 hx).1
  rw [← h5, List.getElem?_take, if_pos hi] at hx
  have hid : i < d.size := by
    have := (List.getElem?_eq_some_iff.1 hx).1
    simpa using this
  refine ⟨?_, h4.free i, h3⟩
  rw [h4.cell hid]
  have : d[i]! = x := by simpa [hid] using hx
  rw [this]

end Go.Proofs.YtbicefgjompnoaaDoor.Sx
/- The book's map: rows' numbers in memory; an append to them, wherever they begin. -/
namespace Go.Proofs.YtbicefgjompnoaaDoor.Sx
open Go.RowKit Go.Sort

/-- rows' numbers -/
def RwsAt (w : World) (v : Value) (l : List Nat) : Prop :=
  (v = .slice none 0 0 ∧ l = []) ∨ ∃ g off cap cur, v = .slice (some ⟨g, off, none⟩) l.length cap ∧ w.heap[g]? = some (.cells cur 21 (0, 0)) ∧ l.length ≤ cap ∧ cap ≤ maxLen ∧ off + cap ≤ cur.size ∧ ∀ (i x : Nat), l[i]? = some x → cur[off + i]? = some (.int .i32 (x : Int))
theorem RwsAt.fr {w w' : World} {v : Value} {l : List Nat} (h : RwsAt w v l) (f : ∀ g, v.ownBlock = some g → w'.heap[g]? = w.heap[g]?) : RwsAt w' v l := by
  rcases h with q | ⟨g, off, cap, cur, e, h1, h2⟩
  · exact .inl q
  · exact .inr ⟨g, off, cap, cur, e, (f g (by rw [e]; rfl)).trans h1, h2⟩
theorem RwsAt.lt {w : World} {v : Value} {l : List Nat} (h : RwsAt w v l) {g : Nat} (hg : v.ownBlock = some g) : g < w.heap.size := by
  rcases h with ⟨e, _⟩ | ⟨g', off, cap, cur, e, h1, _⟩
  · rw [e] at hg; cases hg
  · have : g' = g := by rw [e] at hg; exact Option.some.inj hg
    subst this
    exact block_lt h1
theorem RwsAt.form {w : World} {v : Value} {l : List Nat} (h : RwsAt w v l) : ∃ a cap, v = .slice a l.length cap ∧ (l ≠ [] → ∃ g off, a = some ⟨g, off, none⟩) := by
  rcases h with ⟨e, q⟩ | ⟨g, off, cap, cur, e, _⟩
  · exact ⟨none, 0, by rw [e, q]; rfl, fun z => absurd q z⟩
  · exact ⟨_, cap, e, fun _ => ⟨g, off, rfl⟩⟩

set_option maxHeartbeats 1000000 in
theorem app_rws {w : World} {v : Value} {l : List Nat} (h : RwsAt w v l) (x B c : Nat) (hB : w.heap[B]? = some (.cells #[.int .i32 (x : Int)] 21 (0, 0))) (hl : l.length + 1 ≤ 1000000000001) (ty : TypeId) :
    ∃ v' w', (Builtin.append_ #[50, 50] ty #[v, .slice (some ⟨B, 0, none⟩) 1 c]).run Tryd.prog w = .ok v' w' ∧ RwsAt w' v' (l ++ [x]) ∧ w.grownBy w' v.ownBlock ∧ (v'.ownBlock = v.ownBlock ∨ v'.ownBlock = some w.heap.size) := by
  obtain ⟨i0, hi0, hz0, hz1, hz2⟩ := info21
  have hnews := World.news_of_block hB
  have one : ∀ u ∈ [Value.int .i32 (x : Int)], u.oneCell' = true := fun u hu => by
    rw [List.mem_singleton] at hu; subst hu; rfl
  have h63 : l.length + 1 ≤ maxLen := by unfold maxLen; omega
  -- what is made anew
  have made : ∀ (old : Nat) (xs : List Value), xs = v32 l → old < l.length + 1 → RwsAt (w.drew.alloc (.cells (xs.toArray ++ #[Value.int .i32 (x : Int)] ++ Builtin.zeroCells (Value.int .i32 0).cells (grownCap w (l.length + 1) old 21 - (l.length + 1))) 21)) (.slice (some ⟨w.heap.size, 0, none⟩) (l.length + 1) (grownCap w (l.length + 1) old 21)) (l ++ [x]) := by
    intro old xs hxs ho
    have hge := grownCap_ge w (l.length + 1) old 21
    refine .inr ⟨w.heap.size, 0, _, _, by simp, heap_alloc_new w.drew _, by simpa using hge, grownCap_le_maxLen w _ old 21 h63, ?_, fun i y hy => ?_⟩
    · rw [hxs]
      simp only [Array.size_append, List.size_toArray, size_zeroCells, v32, List.length_map]
      show 0 + _ ≤ _ + 1 + _ * 1
      omega
    · have hi : i < l.length + 1 := by have := (List.getElem?_eq_some_iff.1 hy).1; simpa using this
      rw [hxs, Nat.zero_add, Array.getElem?_append_left (by simp [v32]; omega)]
      by_cases q : i < l.length
      · rw [List.getElem?_append_left q] at hy
        rw [Array.getElem?_append_left (by simp [v32]; omega)]
        simp [v32, hy]
      · have : i = l.length := by omega
        subst this
        have e : x = y := by simpa using hy
        subst e
        rw [Array.getElem?_append_right (by simp [v32])]
        simp [v32]
  rcases h with ⟨rfl, rfl⟩ | ⟨g, off, cap, cur, rfl, h1, h2, h3, h4, h5⟩
  · have hr := run_append_nil (P := Tryd.prog) w 50 ty 21 i0 _ Tryd.underlying50 hi0 hz0 ⟨B, 0, none⟩ 1 c [.int .i32 (x : Int)] (by rw [hz1]; rfl) hnews (by omega) (by omega) (by rw [hz2]; omega)
    have hm := made 0 [] rfl (by simp)
    refine ⟨_, _, hr, by simpa using hm, ⟨rfl, rfl, rfl, by simp, fun k hk _ => heap_alloc_old w.drew _ hk⟩, .inr rfl⟩
  · by_cases hroom : l.length + 1 ≤ cap
    · have hf := run_firstCells_some (P := Tryd.prog) w i0.size 1 ⟨B, 0, none⟩ 1 c [.int .i32 (x : Int)] (by rw [hz1]; rfl) hnews
      have hfit : off + l.length + 0 + [Value.int .i32 (x : Int)].length ≤ cur.size := by simp; omega
      have hst := run_storeCells_at Tryd.prog g (off + l.length) 21 [.int .i32 (x : Int)] 0 cur w h1 hfit one
      simp only [Nat.add_zero] at hst
      have hr : (Builtin.append_ #[50, 50] ty #[.slice (some ⟨g, off, none⟩) l.length cap, .slice (some ⟨B, 0, none⟩) 1 c]).run Tryd.prog w = .ok (.slice (some ⟨g, off, none⟩) (l.length + 1) cap) (w.setRow g (cur.toList.take (off + l.length) ++ [Value.int .i32 (x : Int)] ++ cur.toList.drop (off + l.length + 1)).toArray) := by
        rw [hz1] at hf
        simp [Builtin.append_, run_underlying Tryd.underlying50, sizeOf, typeInfo, hi0, Builtin.lenOf, hroom, hf, Addr.add_lit, hz1] at hst ⊢
        simp [hst]
      refine ⟨_, _, hr, .inr ⟨g, off, cap, _, by simp, setRow_heap w g cur _ 21 _ h1, by simpa using hroom, h3, ?_, fun i y hy => ?_⟩, ⟨rfl, rfl, rfl, by simp, fun k _ hk => setRow_other w g k _ (fun e => hk (by simp [Value.ownBlock, e]))⟩, .inl rfl⟩
      · simp only [List.size_toArray, List.length_append, List.length_take, List.length_drop, Array.length_toList, List.length_singleton]
        omega
      · have hi : i < l.length + 1 := by have := (List.getElem?_eq_some_iff.1 hy).1; simpa using this
        rw [List.getElem?_toArray, List.append_assoc]
        by_cases q : i < l.length
        · rw [List.getElem?_append_left q] at hy
          rw [List.getElem?_append_left (by simp; omega), List.getElem?_take_of_lt (by omega)]
          have := h5 i y hy
          simpa using this
        · have : i = l.length := by omega
          subst this
          have e : x = y := by simpa using hy
          subst e
          rw [List.getElem?_append_right (by simp; omega)]
          have e2 : off + l.length - (List.take (off + l.length) cur.toList).length = 0 := by simp; omega
          rw [e2]
          simp
    · have holds : ∀ j u, (v32 l)[j]? = some u → w.cell? ((⟨g, off, none⟩ : Addr).add j) = some u := fun j u hu => by
        obtain ⟨y, hy, rfl⟩ : ∃ y, l[j]? = some y ∧ Value.int .i32 (y : Int) = u := by
          unfold v32 at hu
          rw [List.getElem?_map] at hu
          cases hq : l[j]? with
          | none => rw [hq] at hu; cases hu
          | some y => rw [hq] at hu; exact ⟨y, rfl, Option.some.inj hu⟩
        rw [show (⟨g, off, none⟩ : Addr).add j = ⟨g, off + j, none⟩ from Addr.add_lit _ _ _, block_cell h1]
        exact h5 j y hy
      have hr := run_append_grow (P := Tryd.prog) w 50 ty 21 i0 _ Tryd.underlying50 hi0 hz0 ⟨g, off, none⟩ l.length cap (v32 l) (by rw [hz1]; simp [v32]) holds ⟨B, 0, none⟩ 1 c [.int .i32 (x : Int)] (by rw [hz1]; rfl) hnews (by omega) (by omega) (growslice_fits (by omega) (by rw [hz2]; omega))
      have hm := made cap _ rfl (by omega)
      refine ⟨_, _, hr, by simpa using hm, ⟨rfl, rfl, rfl, by simp, fun k hk _ => heap_alloc_old w.drew _ hk⟩, .inr rfl⟩

end Go.Proofs.YtbicefgjompnoaaDoor.Sx
/- The book's map, as a function of keys. -/
namespace Go.Proofs.YtbicefgjompnoaaDoor.Sx
open Go.RowKit Go.Sort Go.Maps Go.WideMaps

theorem lawS : Keyed Tryd.prog 9 := string_keyed Tryd.underlying9
theorem keyS {k : ByteArray} (h : k.size ≤ maxLen) : keyOf Tryd.prog 9 (.string k) = some (.string k.data.toList) := keyOf_string_mk Tryd.underlying9 h

/-- what it gives for a key -/
structure MapF (w : World) (m : Nat) (F : ByteArray → Value) : Prop where
  ex : ∃ es clock, w.heap[m]? = some (.map es clock) ∧ (∀ e ∈ es.toList, ∃ k : ByteArray, k.size ≤ maxLen ∧ e.key = .string k ∧ e.val = F k) ∧ (∀ (i j : Nat) (a b : MapEntry), es.toList[i]? = some a → es.toList[j]? = some b → a.key = b.key → i = j) ∧ ∀ k, F k ≠ .slice none 0 0 → ∃ e ∈ es.toList, e.key = .string k
theorem MapF.lt {w : World} {m : Nat} {F : ByteArray → Value} (h : MapF w m F) : m < w.heap.size := by
  obtain ⟨es, c, h1, _⟩ := h.ex
  exact block_lt h1
theorem MapF.of {w w' : World} {m : Nat} {F : ByteArray → Value} (h : MapF w m F) (f : w'.heap[m]? = w.heap[m]?) : MapF w' m F := by
  obtain ⟨es, c, h1, h2⟩ := h.ex
  exact ⟨es, c, f.trans h1, h2⟩
theorem MapF.new (w : World) : MapF (w.alloc (.map #[] 0)) w.heap.size fun _ => .slice none 0 0 := ⟨#[], 0, (MapKept.heap_alloc w _).1, by simp, by simp, fun k h => absurd rfl h⟩
/-- a value put -/
def putF (F : ByteArray → Value) (k : ByteArray) (v : Value) (k' : ByteArray) : Value := if k' = k then v else F k'
theorem putF_same (F : ByteArray → Value) (k : ByteArray) (v : Value) : putF F k v k = v := by unfold putF; rw [if_pos rfl]
theorem putF_other {F : ByteArray → Value} {k k' : ByteArray} {v : Value} (h : k' ≠ k) : putF F k v k' = F k' := by unfold putF; rw [if_neg h]
end Go.Proofs.YtbicefgjompnoaaDoor.Sx
/- The program: key, a text for ascending literals. -/
namespace Go.Proofs.YtbicefgjompnoaaDoor.Sx
open Go.RowKit Go.Sort

/-- four bytes a literal -/
def key4 (x : Nat) : List UInt8 := [UInt8.ofNat x, UInt8.ofNat (x / 256), UInt8.ofNat (x / 65536), UInt8.ofNat (x / 16777216)]
def keyL (c : List Nat) : List UInt8 := c.flatMap key4
def keyB (c : List Nat) : ByteArray := ⟨(keyL c).toArray⟩
theorem keyL_len (c : List Nat) : (keyL c).length = 4 * c.length := by
  unfold keyL
  induction c with
  | nil => rfl
  | cons x c ih => rw [List.flatMap_cons, List.length_append, ih, List.length_cons]; show 4 + _ = _; omega
theorem keyB_size (c : List Nat) : (keyB c).size = 4 * c.length := by
  have := keyL_len c
  show (keyL c).toArray.size = _
  simpa using this
theorem key4_inj {x y : Nat} (hx : x < 4294967296) (hy : y < 4294967296) (h : key4 x = key4 y) : x = y := by
  unfold key4 at h
  injection h with h0 h
  injection h with h1 h
  injection h with h2 h
  injection h with h3 h
  have e : ∀ a b : Nat, UInt8.ofNat a = UInt8.ofNat b → a % 256 = b % 256 := fun a b q => by
    have := congrArg UInt8.toNat q
    simpa using this
  have := e _ _ h0
  have := e _ _ h1
  have := e _ _ h2
  have := e _ _ h3
  omega
theorem keyL_inj : ∀ (c c' : List Nat), (∀ x ∈ c, x < 4294967296) → (∀ x ∈ c', x < 4294967296) → keyL c = keyL c' → c = c'
  | [], [], _, _, _ => rfl
  | [], y :: c', _, _, h => by have := congrArg List.length h; rw [keyL_len, keyL_len] at this; simp at this
  | x :: c, [], _, _, h => by have := congrArg List.length h; rw [keyL_len, keyL_len] at this; simp at this
  | x :: c, y :: c', h1, h2, h => by
    have h' : key4 x ++ keyL c = key4 y ++ keyL c' := h
    obtain ⟨q1, q2⟩ := List.append_inj h' rfl
    rw [key4_inj (h1 x (by simp)) (h2 y (by simp)) q1, keyL_inj c c' (fun z hz => h1 z (List.mem_cons_of_mem _ hz)) (fun z hz => h2 z (List.mem_cons_of_mem _ hz)) q2]
theorem keyB_inj {c c' : List Nat} (h1 : ∀ x ∈ c, x < 4294967296) (h2 : ∀ x ∈ c', x < 4294967296) (h : keyB c = keyB c') : c = c' := by
  refine keyL_inj c c' h1 h2 ?_
  have := congrArg (fun b : ByteArray => b.data.toList) h
  simpa [keyB] using this

def u8V (b : UInt8) : Value := .int .u8 (b.toNat : Int)
theorem info5 : ∃ i0, Tryd.prog.info? 5 = some i0 ∧ i0.zero = some (.int .u8 0) ∧ i0.size = 1 ∧ i0.bytes = 1 := by
  have h : ((Tryd.prog.info? 5).map fun i => (i.zero, i.size, i.bytes)) = some (some (.int .u8 0), 1, 1) := by kernel_rfl
  cases hq : Tryd.prog.info? 5 with
  | none => rw [hq] at h; simp at h
  | some j => rw [hq] at h; simp at h; exact ⟨j, rfl, h.1, h.2.1, h.2.2⟩
/-- bytes in a row of the call's own -/
def OwnU (w : World) (base : Nat) (v : Value) (l : List UInt8) : Prop := w.ownsRow base 5 1 v l.length (l.map u8V)
theorem OwnU.form {w : World} {base : Nat} {v : Value} {l : List UInt8} (h : OwnU w base v l) : ∃ a cap, v = .slice a l.length cap := by
  rcases h.2 with ⟨e, hn⟩ | ⟨g', cap', cur, e, _⟩
  · exact ⟨none, 0, by rw [e, hn]⟩
  · exact ⟨_, _, e⟩
theorem u8cells {x : Nat} (hx : x < 33554434) : [Value.int .u8 ((x : Int) % 256), .int .u8 ((x : Int) / 256 % 256), .int .u8 ((x : Int) / 65536 % 256), .int .u8 ((x : Int) / 16777216)] = (key4 x).map u8V := by
  have e : x / 16777216 % 256 = x / 16777216 := by omega
  simp [key4, u8V, e]

end Go.Proofs.YtbicefgjompnoaaDoor.Sx
