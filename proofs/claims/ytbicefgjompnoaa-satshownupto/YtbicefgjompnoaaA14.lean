/- The store in memory. -/
import Derived.Deep.RegionLawGrows
import Derived.Test.YtbicefgjompnoaaA13
namespace Go.Proofs.Ytbicefgjompnoaa.Sx
open Go.RowKit Go.Sort

/-- a store (plain) -/
structure St where
  rows : List (Option (List Nat))
  single : List Nat
  empty : Nat
  watches : List (List (Nat × Nat))
  truth : List Int
  why : List Int
  depth : List Int
  trail : List Nat
  done : Nat
  cuts : List Nat
/-- where it lies: blocks, rows' values, and which block is whose: (1, 0) the struct, (2, 0) rows, (3, 0) single, (4, 0) watches, (5, 0) truth, (6, 0) why, (7, 0) depth, (8, 0) trail, (9, 0) cuts, (10, l) the watches of a literal, (11, r) a row; (0, 0) none of it -/
structure Ly where
  sb : Nat
  wb : Nat
  tb : Nat
  yb : Nat
  db : Nat
  rv : Value
  sv : Value
  tv : Value
  cv : Value
  wv : List Value
  rr : List Value
  own : Nat → Nat × Nat

def stC (L : Ly) (n : Nat) (s : St) : Array Value := #[L.rv, L.sv, .int .i64 (s.empty : Int), .slice (some ⟨L.wb, 0, none⟩) (2 * n) (2 * n), .slice (some ⟨L.tb, 0, none⟩) (2 * n) (2 * n), .slice (some ⟨L.yb, 0, none⟩) n n, .slice (some ⟨L.db, 0, none⟩) n n, L.tv, .int .i64 (s.done : Int), L.cv]
def i8C (l : List Int) : Array Value := (l.map fun x => Value.int .i8 x).toArray
def i32C (l : List Int) : Array Value := (l.map fun x => Value.int .i32 x).toArray
def i64C (l : List Nat) : List Value := l.map fun x : Nat => Value.int .i64 (x : Int)
def flatW (l : List (Nat × Nat)) : List Value := l.flatMap fun p => [Value.int .i32 (p.1 : Int), Value.int .i32 (p.2 : Int)]
/-- a row of its own whose block is the tag's -/
def OwnR (w : World) (own : Nat → Nat × Nat) (t : Nat × Nat) (e k : Nat) (v : Value) (n : Nat) (xs : List Value) : Prop := w.ownsRow 0 e k v n xs ∧ ∀ g, v.ownBlock = some g → own g = t
/-- a row of literals, or one that is gone -/
def RowAt (w : World) (own : Nat → Nat × Nat) (r : Nat) (v : Value) : Option (List Nat) → Prop
  | none => v = .slice none 0 0
  | some c => ∃ (b : Nat) (d : Array Nat), v = .slice (some ⟨b, 0, none⟩) c.length d.size ∧ own b = (11, r) ∧ LRow w b d ∧ d.toList.take c.length = c ∧ d.size ≤ 4294967296

/-- the store in memory, as far as the tags are asked for -/
structure SAtK (K : Nat × Nat → Prop) (w : World) (L : Ly) (n : Nat) (s : St) : Prop where
  st : K (1, 0) → w.heap[L.sb]? = some (.cells (stC L n s) 77 (0, 0)) ∧ L.own L.sb = (1, 0)
  wt : K (4, 0) → w.heap[L.wb]? = some (.cells L.wv.toArray 92 (0, 0)) ∧ L.own L.wb = (4, 0)
  tr : K (5, 0) → w.heap[L.tb]? = some (.cells (i8C s.truth) 84 (0, 0)) ∧ L.own L.tb = (5, 0)
  wy : K (6, 0) → w.heap[L.yb]? = some (.cells (i32C s.why) 21 (0, 0)) ∧ L.own L.yb = (6, 0)
  dp : K (7, 0) → w.heap[L.db]? = some (.cells (i32C s.depth) 21 (0, 0)) ∧ L.own L.db = (7, 0)
  ro : K (2, 0) → OwnR w L.own (2, 0) 44 1 L.rv s.rows.length L.rr
  si : K (3, 0) → OwnR w L.own (3, 0) 21 1 L.sv s.single.length (v32 s.single)
  ta : K (8, 0) → OwnR w L.own (8, 0) 70 1 L.tv s.trail.length (v32 s.trail)
  cu : K (9, 0) → OwnR w L.own (9, 0) 3 1 L.cv s.cuts.length (i64C s.cuts)
  wl : ∀ l, K (10, l) → l < 2 * n → ∃ v, L.wv[l]? = some v ∧ OwnR w L.own (10, l) 94 2 v (s.watches.getD l []).length (flatW (s.watches.getD l []))
  rl : ∀ r, K (11, r) → ∀ c, s.rows[r]? = some c → ∃ v, L.rr[r]? = some v ∧ RowAt w L.own r v c
/-- lengths -/
structure SzS (L : Ly) (n : Nat) (s : St) : Prop where
  n_ : n ≤ 16777216
  tr : s.truth.length = 2 * n
  wy : s.why.length = n
  dp : s.depth.length = n
  wt : s.watches.length = 2 * n
  wv : L.wv.length = 2 * n
  rr : L.rr.length = s.rows.length
  t3 : ∀ l, s.truth.getD l 0 = 1 ∨ s.truth.getD l 0 = 0 ∨ s.truth.getD l 0 = -1
  lit : ∀ l ∈ s.trail, l < 2 * n
  few : s.trail.length ≤ n
  rows : s.rows.length ≤ 1000000000
def SAt (w : World) (L : Ly) (n : Nat) (s : St) : Prop := SAtK (fun _ => True) w L n s ∧ SzS L n s

theorem OwnR.fr {w w' : World} {own : Nat → Nat × Nat} {t : Nat × Nat} {e k : Nat} {v : Value} {n : Nat} {xs : List Value} (h : OwnR w own t e k v n xs) (f : ∀ b, b < w.heap.size → own b = t → w'.heap[b]? = w.heap[b]?) : OwnR w' own t e k v n xs := by
  refine ⟨⟨h.1.1, ?_⟩, h.2⟩
  rcases h.1.2 with q | ⟨g, cap, cur, e1, hb, hg, q⟩
  · exact .inl q
  · exact .inr ⟨g, cap, cur, e1, hb, (f g (block_lt hg) (h.2 g (by rw [e1]; rfl))).trans hg, q⟩
theorem RowAt.fr {w w' : World} {own : Nat → Nat × Nat} {r : Nat} {v : Value} {c : Option (List Nat)} (h : RowAt w own r v c) (f : ∀ b, b < w.heap.size → own b = (11, r) → w'.heap[b]? = w.heap[b]?) : RowAt w' own r v c := by
  cases c with
  | none => exact h
  | some c =>
    obtain ⟨b, d, h1, h2, h3, h4⟩ := h
    exact ⟨b, d, h1, h2, (f b (block_lt h3) h2).trans h3, h4⟩
theorem SAtK.fr {K : Nat × Nat → Prop} {w w' : World} {L : Ly} {n : Nat} {s : St} (h : SAtK K w L n s) (f : ∀ b, b < w.heap.size → K (L.own b) → w'.heap[b]? = w.heap[b]?) : SAtK K w' L n s := by
  have g : ∀ t, K t → ∀ b, b < w.heap.size → L.own b = t → w'.heap[b]? = w.heap[b]? := fun t ht b hb e => f b hb (by rw [e]; exact ht)
  have g1 : ∀ {b : Nat} {o : Obj} {t : Nat × Nat}, K t → (w.heap[b]? = some o ∧ L.own b = t) → (w'.heap[b]? = some o ∧ L.own b = t) := fun ht q => ⟨(g _ ht _ (block_lt q.1) q.2).trans q.1, q.2⟩
  exact ⟨fun k => g1 k (h.st k), fun k => g1 k (h.wt k), fun k => g1 k (h.tr k), fun k => g1 k (h.wy k), fun k => g1 k (h.dp k), fun k => (h.ro k).fr (g _ k), fun k => (h.si k).fr (g _ k), fun k => (h.ta k).fr (g _ k), fun k => (h.cu k).fr (g _ k),
    fun l k hl => by obtain ⟨v, h1, h2⟩ := h.wl l k hl; exact ⟨v, h1, h2.fr (g _ k)⟩,
    fun r k c hc => by obtain ⟨v, h1, h2⟩ := h.rl r k c hc; exact ⟨v, h1, h2.fr (g _ k)⟩⟩
theorem SAtK.mono {K K' : Nat × Nat → Prop} {w : World} {L : Ly} {n : Nat} {s : St} (h : SAtK K w L n s) (f : ∀ t, K' t → K t) : SAtK K' w L n s :=
  ⟨fun k => h.st (f _ k), fun k => h.wt (f _ k), fun k => h.tr (f _ k), fun k => h.wy (f _ k), fun k => h.dp (f _ k), fun k => h.ro (f _ k), fun k => h.si (f _ k), fun k => h.ta (f _ k), fun k => h.cu (f _ k), fun l k => h.wl l (f _ k), fun r k => h.rl r (f _ k)⟩
/-- the same blocks, other names for blocks that are new -/
theorem OwnR.own {w : World} {own own' : Nat → Nat × Nat} {t : Nat × Nat} {e k : Nat} {v : Value} {n : Nat} {xs : List Value} (h : OwnR w own t e k v n xs) (f : ∀ b, b < w.heap.size → own' b = own b) : OwnR w own' t e k v n xs := by
  refine ⟨h.1, fun g hg => ?_⟩
  rcases h.1.2 with ⟨e1, _⟩ | ⟨g', cap, cur, e1, hb, hg', q⟩
  · rw [e1] at hg; cases hg
  · have : g' = g := by rw [e1] at hg; exact Option.some.inj hg
    subst this
    rw [f _ (block_lt hg')]
    exact h.2 _ hg
theorem SAtK.own {K : Nat × Nat → Prop} {w : World} {L : Ly} {n : Nat} {s : St} (h : SAtK K w L n s) (own' : Nat → Nat × Nat) (f : ∀ b, b < w.heap.size → own' b = L.own b) : SAtK K w { L with own := own' } n s := by
  have g1 : ∀ {b : Nat} {o : Obj} {t : Nat × Nat}, (w.heap[b]? = some o ∧ L.own b = t) → (w.heap[b]? = some o ∧ own' b = t) := fun q => ⟨q.1, (f _ (block_lt q.1)).trans q.2⟩
  exact ⟨fun k => g1 (h.st k), fun k => g1 (h.wt k), fun k => g1 (h.tr k), fun k => g1 (h.wy k), fun k => g1 (h.dp k), fun k => (h.ro k).own f, fun k => (h.si k).own f, fun k => (h.ta k).own f, fun k => (h.cu k).own f,
    fun l k hl => by obtain ⟨v, h1, h2⟩ := h.wl l k hl; exact ⟨v, h1, h2.own f⟩,
    fun r k c hc => by
      obtain ⟨v, h1, h2⟩ := h.rl r k c hc
      refine ⟨v, h1, ?_⟩
      cases c with
      | none => exact h2
      | some c =>
        obtain ⟨b, d, e1, e2, e3, e4⟩ := h2
        exact ⟨b, d, e1, (f _ (block_lt e3)).trans e2, e3, e4⟩⟩
/-- what is none of the store's is as it was; old blocks keep their tags -/
structure FrS (L L' : Ly) (w w' : World) : Prop where
  os : w'.os = w.os
  tape : w'.tape = w.tape
  output : w'.output = w.output
  size : w.heap.size ≤ w'.heap.size
  block : ∀ b, b < w.heap.size → L.own b = (0, 0) → w'.heap[b]? = w.heap[b]?
  own : ∀ b, b < w.heap.size → L'.own b = L.own b
  sb : L'.sb = L.sb
theorem FrS.refl (L : Ly) (w : World) : FrS L L w w := ⟨rfl, rfl, rfl, Nat.le_refl _, fun _ _ _ => rfl, fun _ _ => rfl, rfl⟩
theorem FrS.trans {L L' L'' : Ly} {a b c : World} (h : FrS L L' a b) (k : FrS L' L'' b c) : FrS L L'' a c :=
  ⟨k.os.trans h.os, k.tape.trans h.tape, k.output.trans h.output, Nat.le_trans h.size k.size, fun i hi ho => (k.block i (Nat.lt_of_lt_of_le hi h.size) ((h.own i hi).trans ho)).trans (h.block i hi ho), fun i hi => (k.own i (Nat.lt_of_lt_of_le hi h.size)).trans (h.own i hi), k.sb.trans h.sb⟩

end Go.Proofs.Ytbicefgjompnoaa.Sx
/- The store in memory: cells, appends; level, open. -/
namespace Go.Proofs.Ytbicefgjompnoaa.Sx
open Go.RowKit Go.Sort

section
variable {w : World} {L : Ly} {n : Nat} {s : St}
theorem SAt.cell (h : SAt w L n s) (i : Nat) : w.cell? ⟨L.sb, i, none⟩ = (stC L n s)[i]? := block_cell (h.1.st trivial).1 i
theorem SAt.free (h : SAt w L n s) (i : Nat) : w.frozen? ⟨L.sb, i, none⟩ = false := frozen_block (h.1.st trivial).1 i
theorem SAt.drew (h : SAt w L n s) : SAt w.drew L n s := ⟨h.1.fr fun _ _ _ => rfl, h.2⟩
theorem SAt.drewN (h : SAt w L n s) (q : Nat) : SAt (w.drewN q) L n s := ⟨h.1.fr fun _ _ _ => rfl, h.2⟩
theorem SAt.alloc (h : SAt w L n s) (o : Obj) : SAt (w.alloc o) L n s := ⟨h.1.fr fun _ hb _ => heap_alloc_old w o hb, h.2⟩
theorem SAt.truth (h : SAt w L n s) {l : Nat} (hl : l < 2 * n) : w.cell? ⟨L.tb, l, none⟩ = some (.int .i8 (s.truth.getD l 0)) := by
  rw [block_cell (h.1.tr trivial).1]
  have : l < s.truth.length := by rw [h.2.tr]; exact hl
  simp [i8C, this]
end
/-- the tag of the block that comes next -/
def ownT (own : Nat → Nat × Nat) (k : Nat) (t : Nat × Nat) (b : Nat) : Nat × Nat := if b = k then t else own b
theorem ownT_old {own : Nat → Nat × Nat} {k b : Nat} {t : Nat × Nat} (h : b < k) : ownT own k t b = own b := by unfold ownT; rw [if_neg (by omega)]
/-- a row that has grown -/
theorem OwnR.app {w w1 : World} {own : Nat → Nat × Nat} {t : Nat × Nat} {e k : Nat} {v v' : Value} {n n' : Nat} {xs xs' : List Value} (h : OwnR w own t e k v n xs) (ho : w1.ownsRow 0 e k v' n' xs') (hb : v'.ownBlock = v.ownBlock ∨ v'.ownBlock = some w.heap.size) : OwnR w1 (ownT own w.heap.size t) t e k v' n' xs' := by
  refine ⟨ho, fun g hg => ?_⟩
  unfold ownT
  split
  · rfl
  · rename_i hne
    rcases hb with q | q
    · rw [q] at hg
      exact h.2 g hg
    · rw [q] at hg
      exact absurd (Option.some.inj hg).symm hne
theorem OwnR.lt {w : World} {own : Nat → Nat × Nat} {t : Nat × Nat} {e k : Nat} {v : Value} {n : Nat} {xs : List Value} (h : OwnR w own t e k v n xs) {g : Nat} (hg : v.ownBlock = some g) : g < w.heap.size := by
  rcases h.1.2 with ⟨e1, _⟩ | ⟨g', cap, cur, e1, hb, hg', q⟩
  · rw [e1] at hg; cases hg
  · have : g' = g := by rw [e1] at hg; exact Option.some.inj hg
    subst this
    exact block_lt hg'
theorem OwnR.form {w : World} {own : Nat → Nat × Nat} {t : Nat × Nat} {e k : Nat} {v : Value} {n : Nat} {xs : List Value} (h : OwnR w own t e k v n xs) : ∃ a cap, v = .slice a n cap := by
  rcases h.1.2 with ⟨e, hn⟩ | ⟨g', cap', cur, e, _⟩
  · exact ⟨none, 0, by rw [e, hn]⟩
  · exact ⟨_, _, e⟩
/-- what an append leaves: the blocks of all other tags -/
theorem OwnR.kept {w w1 : World} {own : Nat → Nat × Nat} {t : Nat × Nat} {e k : Nat} {v : Value} {n : Nat} {xs : List Value} (h : OwnR w own t e k v n xs) (hg : w.grownBy w1 v.ownBlock) {b : Nat} (hb : b < w.heap.size) (ht : own b ≠ t) : w1.heap[b]? = w.heap[b]? := hg.block b hb fun q => ht (h.2 b q.symm)
/-- the store, when a row of one tag has grown, and nothing else: what is left of it -/
theorem SAt.grown {w w1 : World} {L : Ly} {n : Nat} {s : St} (h : SAt w L n s) {t : Nat × Nat} {e k : Nat} {v : Value} {m : Nat} {xs : List Value} (hr : OwnR w L.own t e k v m xs) (hg : w.grownBy w1 v.ownBlock) : SAtK (· ≠ t) w1 { L with own := ownT L.own w.heap.size t } n s := by
  have h1 : SAtK (· ≠ t) w { L with own := ownT L.own w.heap.size t } n s := (h.1.mono (K' := (· ≠ t)) fun _ _ => trivial).own _ fun b hb => ownT_old hb
  refine h1.fr fun b hb ht => hr.kept hg hb ?_
  have : ownT L.own w.heap.size t b = L.own b := ownT_old hb
  exact fun q => ht (this.trans q)

set_option maxRecDepth 100000 in
set_option maxHeartbeats 1000000 in
theorem level_any (w : World) (L : Ly) (n : Nat) (s : St) (h : SAt w L n s) : Calls Try.prog 60 #[.pointer (some ⟨L.sb, 0, none⟩)] w fun e w' => e = .returned (.int .i64 (s.cuts.length : Int)) ∧ w' = w := by
  have mo := follows
  obtain ⟨a, cap, hv⟩ := (h.1.cu trivial).form
  have c9 := h.cell 9
  simp only [stC, hv] at c9
  have c9 : w.cell? ⟨L.sb, 9, none⟩ = some (.slice a s.cuts.length cap) := c9
  go_enter Try.func60, Try.ntmps60
  go_wp2_with fail
  go_ret
  exact ⟨rfl, rfl⟩

end Go.Proofs.Ytbicefgjompnoaa.Sx
/- The store in memory: what an append to one of its rows leaves. -/
namespace Go.Proofs.Ytbicefgjompnoaa.Sx
open Go.RowKit Go.Sort

theorem SAtK.setSt {K : Nat × Nat → Prop} {w : World} {L : Ly} {n : Nat} {s : St} (h : SAtK K w L n s) (hs : K (1, 0)) (i : Nat) (v : Value) : SAtK (fun t => K t ∧ t ≠ (1, 0)) (w.setCell ⟨L.sb, i, none⟩ v) L n s ∧ (w.setCell ⟨L.sb, i, none⟩ v).heap[L.sb]? = some (.cells ((stC L n s).set! i v) 77 (0, 0)) ∧ L.own L.sb = (1, 0) := by
  obtain ⟨h1, h2⟩ := h.st hs
  refine ⟨(h.mono (K' := fun t => K t ∧ t ≠ (1, 0)) fun _ q => q.1).fr fun b hb hk => ?_, set_block h1 i v, h2⟩
  exact Below.heap_setCell w ⟨L.sb, i, none⟩ v b (fun e => hk.2 (by rw [e]; exact h2))

theorem SAt.app_cuts {w W w9 : World} {L : Ly} {n : Nat} {s : St} (h : SAt W L n s) (hw : Fr (fun _ => True) w W) {x g cap : Nat} (ho : w9.ownsRow 0 3 1 (.slice (some ⟨g, 0, none⟩) (s.cuts.length + 1) cap) (s.cuts.length + 1) (i64C s.cuts ++ [.int .i64 (x : Int)])) (hg : W.grownBy w9 L.cv.ownBlock) (hat : L.cv.ownBlock = some g ∨ g = W.heap.size) :
    w9.cell? ⟨L.sb, 9, none⟩ = some L.cv ∧ w9.frozen? ⟨L.sb, 9, none⟩ = false ∧ SAt (w9.setCell ⟨L.sb, 9, none⟩ (.slice (some ⟨g, 0, none⟩) (s.cuts.length + 1) cap)) { L with cv := .slice (some ⟨g, 0, none⟩) (s.cuts.length + 1) cap, own := ownT L.own W.heap.size (9, 0) } n { s with cuts := s.cuts ++ [x] } ∧ FrS L { L with cv := .slice (some ⟨g, 0, none⟩) (s.cuts.length + 1) cap, own := ownT L.own W.heap.size (9, 0) } w (w9.setCell ⟨L.sb, 9, none⟩ (.slice (some ⟨g, 0, none⟩) (s.cuts.length + 1) cap)) := by
  have hr := h.1.cu trivial
  have h1 := h.grown hr hg
  obtain ⟨h2, h3⟩ := h1.st (by decide)
  have hsb : W.heap[L.sb]? = some (.cells (stC L n s) 77 (0, 0)) := (h.1.st trivial).1
  obtain ⟨k1, k2, k3⟩ := h1.setSt (by decide) 9 (.slice (some ⟨g, 0, none⟩) (s.cuts.length + 1) cap)
  have hro := hr.app ho (by
    rcases hat with q | q
    · exact .inl (by rw [q]; rfl)
    · exact .inr (by rw [← q]; rfl))
  have hgs : g ≠ L.sb := by
    rcases hat with q | q
    · intro e
      have e1 := hr.2 g q
      rw [e, (h.1.st trivial).2] at e1
      cases e1
    · have := block_lt hsb; omega
  refine ⟨by rw [block_cell h2]; rfl, frozen_block h2 9, ⟨?_, ?_⟩, ?_⟩
  · refine ⟨fun _ => ⟨k2, k3⟩, fun _ => k1.wt (by decide), fun _ => k1.tr (by decide), fun _ => k1.wy (by decide), fun _ => k1.dp (by decide), fun _ => k1.ro (by decide), fun _ => k1.si (by decide), fun _ => k1.ta (by decide), fun _ => ?_, fun l _ => k1.wl l (by simp), fun r _ => k1.rl r (by simp)⟩
    have e1 : (s.cuts ++ [x]).length = s.cuts.length + 1 := by simp
    have e2 : i64C (s.cuts ++ [x]) = i64C s.cuts ++ [.int .i64 (x : Int)] := by simp [i64C]
    show OwnR _ _ _ _ _ _ (s.cuts ++ [x]).length (i64C (s.cuts ++ [x]))
    rw [e1, e2]
    refine ⟨⟨hro.1.1, ?_⟩, hro.2⟩
    rcases hro.1.2 with q | ⟨g', cap', cur, e3, hb, hg', q⟩
    · exact .inl q
    · refine .inr ⟨g', cap', cur, e3, hb, ?_, q⟩
      cases e3
      rw [Below.heap_setCell w9 ⟨L.sb, 9, none⟩ _ g (by exact hgs)]
      exact hg'
  · exact ⟨h.2.n_, h.2.tr, h.2.wy, h.2.dp, h.2.wt, h.2.wv, h.2.rr, h.2.t3, h.2.lit, h.2.few, h.2.rows⟩
  · refine ⟨hg.os.trans hw.os, hg.tape.trans hw.tape, hg.output.trans hw.output, by have := hg.size; have := hw.size; simp; omega, fun b hb ho => ?_, fun b hb => ?_, rfl⟩
    · have hb2 : b < W.heap.size := Nat.lt_of_lt_of_le hb hw.size
      rw [Below.heap_setCell w9 ⟨L.sb, 9, none⟩ _ b (fun e => by rw [show b = L.sb from e, (h.1.st trivial).2] at ho; cases ho), hr.kept hg hb2 (by rw [ho]; decide), hw.block b hb trivial]
    · exact ownT_old (Nat.lt_of_lt_of_le hb hw.size)

theorem SAt.app_trail {w W w9 : World} {L : Ly} {n : Nat} {s : St} (h : SAt W L n s) (hw : Fr (fun _ => True) w W) {x g cap : Nat} (ho : w9.ownsRow 0 70 1 (.slice (some ⟨g, 0, none⟩) (s.trail.length + 1) cap) (s.trail.length + 1) (v32 s.trail ++ [.int .i32 (x : Int)])) (hg : W.grownBy w9 L.tv.ownBlock) (hat : L.tv.ownBlock = some g ∨ g = W.heap.size) (hx : x < 2 * n) (hfew : s.trail.length + 1 ≤ n) :
    w9.cell? ⟨L.sb, 7, none⟩ = some L.tv ∧ w9.frozen? ⟨L.sb, 7, none⟩ = false ∧ SAt (w9.setCell ⟨L.sb, 7, none⟩ (.slice (some ⟨g, 0, none⟩) (s.trail.length + 1) cap)) { L with tv := .slice (some ⟨g, 0, none⟩) (s.trail.length + 1) cap, own := ownT L.own W.heap.size (8, 0) } n { s with trail := s.trail ++ [x] } ∧ FrS L { L with tv := .slice (some ⟨g, 0, none⟩) (s.trail.length + 1) cap, own := ownT L.own W.heap.size (8, 0) } w (w9.setCell ⟨L.sb, 7, none⟩ (.slice (some ⟨g, 0, none⟩) (s.trail.length + 1) cap)) := by
  have hr := h.1.ta trivial
  have h1 := h.grown hr hg
  obtain ⟨h2, h3⟩ := h1.st (by decide)
  have hsb : W.heap[L.sb]? = some (.cells (stC L n s) 77 (0, 0)) := (h.1.st trivial).1
  obtain ⟨k1, k2, k3⟩ := h1.setSt (by decide) 7 (.slice (some ⟨g, 0, none⟩) (s.trail.length + 1) cap)
  have hro := hr.app ho (by
    rcases hat with q | q
    · exact .inl (by rw [q]; rfl)
    · exact .inr (by rw [← q]; rfl))
  have hgs : g ≠ L.sb := by
    rcases hat with q | q
    · intro e
      have e1 := hr.2 g q
      rw [e, (h.1.st trivial).2] at e1
      cases e1
    · have := block_lt hsb; omega
  refine ⟨by rw [block_cell h2]; rfl, frozen_block h2 7, ⟨?_, ?_⟩, ?_⟩
  · refine ⟨fun _ => ⟨k2, k3⟩, fun _ => k1.wt (by decide), fun _ => k1.tr (by decide), fun _ => k1.wy (by decide), fun _ => k1.dp (by decide), fun _ => k1.ro (by decide), fun _ => k1.si (by decide), fun _ => ?_, fun _ => k1.cu (by decide), fun l _ => k1.wl l (by simp), fun r _ => k1.rl r (by simp)⟩
    have e1 : (s.trail ++ [x]).length = s.trail.length + 1 := by simp
    have e2 : v32 (s.trail ++ [x]) = v32 s.trail ++ [.int .i32 (x : Int)] := by simp [v32]
    show OwnR _ _ _ _ _ _ (s.trail ++ [x]).length (v32 (s.trail ++ [x]))
    rw [e1, e2]
    refine ⟨⟨hro.1.1, ?_⟩, hro.2⟩
    rcases hro.1.2 with q | ⟨g', cap', cur, e3, hb, hg', q⟩
    · exact .inl q
    · refine .inr ⟨g', cap', cur, e3, hb, ?_, q⟩
      cases e3
      rw [Below.heap_setCell w9 ⟨L.sb, 7, none⟩ _ g (by exact hgs)]
      exact hg'
  · exact ⟨h.2.n_, h.2.tr, h.2.wy, h.2.dp, h.2.wt, h.2.wv, h.2.rr, h.2.t3, fun l hl => by rcases List.mem_append.1 hl with q | q; exact h.2.lit l q; rw [List.mem_singleton.1 q]; exact hx, by show (s.trail ++ [x]).length ≤ n; simp; omega, h.2.rows⟩
  · refine ⟨hg.os.trans hw.os, hg.tape.trans hw.tape, hg.output.trans hw.output, by have := hg.size; have := hw.size; simp; omega, fun b hb ho => ?_, fun b hb => ?_, rfl⟩
    · have hb2 : b < W.heap.size := Nat.lt_of_lt_of_le hb hw.size
      rw [Below.heap_setCell w9 ⟨L.sb, 7, none⟩ _ b (fun e => by rw [show b = L.sb from e, (h.1.st trivial).2] at ho; cases ho), hr.kept hg hb2 (by rw [ho]; decide), hw.block b hb trivial]
    · exact ownT_old (Nat.lt_of_lt_of_le hb hw.size)

theorem SAt.app_single {w W w9 : World} {L : Ly} {n : Nat} {s : St} (h : SAt W L n s) (hw : Fr (fun _ => True) w W) {x g cap : Nat} (ho : w9.ownsRow 0 21 1 (.slice (some ⟨g, 0, none⟩) (s.single.length + 1) cap) (s.single.length + 1) (v32 s.single ++ [.int .i32 (x : Int)])) (hg : W.grownBy w9 L.sv.ownBlock) (hat : L.sv.ownBlock = some g ∨ g = W.heap.size) :
    w9.cell? ⟨L.sb, 1, none⟩ = some L.sv ∧ w9.frozen? ⟨L.sb, 1, none⟩ = false ∧ SAt (w9.setCell ⟨L.sb, 1, none⟩ (.slice (some ⟨g, 0, none⟩) (s.single.length + 1) cap)) { L with sv := .slice (some ⟨g, 0, none⟩) (s.single.length + 1) cap, own := ownT L.own W.heap.size (3, 0) } n { s with single := s.single ++ [x] } ∧ FrS L { L with sv := .slice (some ⟨g, 0, none⟩) (s.single.length + 1) cap, own := ownT L.own W.heap.size (3, 0) } w (w9.setCell ⟨L.sb, 1, none⟩ (.slice (some ⟨g, 0, none⟩) (s.single.length + 1) cap)) := by
  have hr := h.1.si trivial
  have h1 := h.grown hr hg
  obtain ⟨h2, h3⟩ := h1.st (by decide)
  have hsb : W.heap[L.sb]? = some (.cells (stC L n s) 77 (0, 0)) := (h.1.st trivial).1
  obtain ⟨k1, k2, k3⟩ := h1.setSt (by decide) 1 (.slice (some ⟨g, 0, none⟩) (s.single.length + 1) cap)
  have hro := hr.app ho (by
    rcases hat with q | q
    · exact .inl (by rw [q]; rfl)
    · exact .inr (by rw [← q]; rfl))
  have hgs : g ≠ L.sb := by
    rcases hat with q | q
    · intro e
      have e1 := hr.2 g q
      rw [e, (h.1.st trivial).2] at e1
      cases e1
    · have := block_lt hsb; omega
  refine ⟨by rw [block_cell h2]; rfl, frozen_block h2 1, ⟨?_, ?_⟩, ?_⟩
  · refine ⟨fun _ => ⟨k2, k3⟩, fun _ => k1.wt (by decide), fun _ => k1.tr (by decide), fun _ => k1.wy (by decide), fun _ => k1.dp (by decide), fun _ => k1.ro (by decide), fun _ => ?_, fun _ => k1.ta (by decide), fun _ => k1.cu (by decide), fun l _ => k1.wl l (by simp), fun r _ => k1.rl r (by simp)⟩
    have e1 : (s.single ++ [x]).length = s.single.length + 1 := by simp
    have e2 : v32 (s.single ++ [x]) = v32 s.single ++ [.int .i32 (x : Int)] := by simp [v32]
    show OwnR _ _ _ _ _ _ (s.single ++ [x]).length (v32 (s.single ++ [x]))
    rw [e1, e2]
    refine ⟨⟨hro.1.1, ?_⟩, hro.2⟩
    rcases hro.1.2 with q | ⟨g', cap', cur, e3, hb, hg', q⟩
    · exact .inl q
    · refine .inr ⟨g', cap', cur, e3, hb, ?_, q⟩
      cases e3
      rw [Below.heap_setCell w9 ⟨L.sb, 1, none⟩ _ g (by exact hgs)]
      exact hg'
  · exact ⟨h.2.n_, h.2.tr, h.2.wy, h.2.dp, h.2.wt, h.2.wv, h.2.rr, h.2.t3, h.2.lit, h.2.few, h.2.rows⟩
  · refine ⟨hg.os.trans hw.os, hg.tape.trans hw.tape, hg.output.trans hw.output, by have := hg.size; have := hw.size; simp; omega, fun b hb ho => ?_, fun b hb => ?_, rfl⟩
    · have hb2 : b < W.heap.size := Nat.lt_of_lt_of_le hb hw.size
      rw [Below.heap_setCell w9 ⟨L.sb, 1, none⟩ _ b (fun e => by rw [show b = L.sb from e, (h.1.st trivial).2] at ho; cases ho), hr.kept hg hb2 (by rw [ho]; decide), hw.block b hb trivial]
    · exact ownT_old (Nat.lt_of_lt_of_le hb hw.size)

end Go.Proofs.Ytbicefgjompnoaa.Sx
/- The store: open. -/
namespace Go.Proofs.Ytbicefgjompnoaa.Sx
open Go.RowKit Go.Sort

/-- a call that turns the store, and gives something back -/
def StPost (w : World) (L : Ly) (n : Nat) (s : St) (v : Value) (e : Ending) (w' : World) : Prop := e = .returned v ∧ ∃ L', SAt w' L' n s ∧ FrS L L' w w'

theorem one1 {u : Value} (h : u.oneCell' = true) : ∀ x ∈ [u], x.oneCell' = true := fun x hx => by rw [List.mem_singleton.1 hx]; exact h

set_option maxRecDepth 100000 in
set_option maxHeartbeats 2000000 in
theorem open_any (w : World) (L : Ly) (n : Nat) (s : St) (h : SAt w L n s) (hc : s.cuts.length ≤ 1000) : Calls Try.prog 38 #[.pointer (some ⟨L.sb, 0, none⟩)] w (StPost w L n { s with cuts := s.cuts ++ [s.trail.length] } (.tuple #[])) := by
  have mo := follows
  obtain ⟨i0, hi0, hz0, hz1, hz2⟩ := info3
  obtain ⟨ca, cc, hcv⟩ := (h.1.cu trivial).form
  obtain ⟨ta, tc, htv⟩ := (h.1.ta trivial).form
  have HS : Hid (SAt w L n s) := h
  have c9 : w.cell? ⟨L.sb, 9, none⟩ = some (.slice ca s.cuts.length cc) := by have := h.cell 9; simp only [stC, hcv] at this; exact this
  have c7 : w.cell? ⟨L.sb, 7, none⟩ = some (.slice ta s.trail.length tc) := by have := h.cell 7; simp only [stC, htv] at this; exact this
  have d9 : w.drew.cell? ⟨L.sb, 9, none⟩ = some (.slice ca s.cuts.length cc) := c9
  have d7 : w.drew.cell? ⟨L.sb, 7, none⟩ = some (.slice ta s.trail.length tc) := c7
  have HW : Hid (SAt (w.drew.alloc (.cells #[.int .i64 (s.trail.length : Int)] 3)) L n s) := h.drew.alloc _
  have HF : Hid (Fr (fun _ => True) w (w.drew.alloc (.cells #[.int .i64 (s.trail.length : Int)] 3))) := (Fr.refl _ w).drew.alloc _
  have OW : Hid ((w.drew.alloc (.cells #[.int .i64 (s.trail.length : Int)] 3)).ownsRow 0 3 1 (.slice ca s.cuts.length cc) s.cuts.length (i64C s.cuts)) := by rw [← hcv]; exact (HW.out.1.cu trivial).1
  have NB : Hid ((w.drew.alloc (.cells #[.int .i64 (s.trail.length : Int)] 3)).heap[w.heap.size]? = some (.cells #[.int .i64 (s.trail.length : Int)] 3 (0, 0))) := heap_new (by simp)
  have e9 : (w.alloc (.cells #[.int .i64 (s.trail.length : Int)] 3)).cell? ⟨L.sb, 9, none⟩ = some (.slice ca s.cuts.length cc) := by have := (h.alloc (.cells #[.int .i64 (s.trail.length : Int)] 3)).cell 9; simp only [stC, hcv] at this; exact this
  have hfew := h.2.few
  have hn := h.2.n_
  have hmx : s.cuts.length + 1 ≤ maxLen := by unfold maxLen; omega
  have hby : (s.cuts.length + 1) * 8 ≤ 140737488355328 := by omega
  have HP : Hid (∀ (g cap : Nat) (w9 : World), w9.ownsRow 0 3 1 (.slice (some ⟨g, 0, none⟩) (s.cuts.length + 1) cap) (s.cuts.length + 1) (i64C s.cuts ++ [.int .i64 (s.trail.length : Int)]) → (w.drew.alloc (.cells #[.int .i64 (s.trail.length : Int)] 3)).grownBy w9 (Value.slice ca s.cuts.length cc).ownBlock → ((Value.slice ca s.cuts.length cc).ownBlock = some g ∨ g = w.heap.size + 1) →
      w9.cell? ⟨L.sb, 9, none⟩ = some (.slice ca s.cuts.length cc) ∧ w9.frozen? ⟨L.sb, 9, none⟩ = false ∧ ∃ L', SAt (w9.setCell ⟨L.sb, 9, none⟩ (.slice (some ⟨g, 0, none⟩) (s.cuts.length + 1) cap)) L' n { s with cuts := s.cuts ++ [s.trail.length] } ∧ FrS L L' w (w9.setCell ⟨L.sb, 9, none⟩ (.slice (some ⟨g, 0, none⟩) (s.cuts.length + 1) cap))) := by
    intro g cap w9 ho hg hat
    rw [← hcv] at hg hat
    obtain ⟨k1, k2, k3, k4⟩ := HW.out.app_cuts HF.out ho hg (by simpa using hat)
    exact ⟨by rw [k1, hcv], k2, _, k3, k4⟩
  generalize s.trail.length = T at c7 d7 e9 HW HF OW NB HP hfew ⊢
  obtain ⟨S', hS'⟩ : ∃ S', { s with cuts := s.cuts ++ [T] } = S' := ⟨_, rfl⟩
  rw [hS'] at HP ⊢
  generalize s.cuts.length = C at c9 d9 e9 OW hmx hby HP hc
  clear h hcv htv hS' HW HF
  go_enter Try.func38, Try.ntmps38
  go_wp2_with fail
  go_region_law (refine step_append_lies _ rfl _ _ 31 rfl 0 3 i0 _ 1 8 Try.underlying31 hi0 hz0 hz1 hz2 rfl (by decide) (.slice ca C cc) _ (i64C s.cuts) (by simp [Act.eval]) OW.out ⟨w.heap.size, 0, none⟩ 1 1 [.int .i64 (T : Int)] (by simp [Act.eval]) rfl (World.news_of_block NB.out) (one1 rfl) (by decide) hmx hby (Nat.zero_le _) (w.heap.size + 1) (by simp) ?_; intro g cap4 w9 ho9 hg9 hat9 hlt9; obtain ⟨q1, q2, q3⟩ := HP.out g cap4 w9 ho9 hg9 hat9; have Q3 : Hid (∃ L', SAt (w9.setCell ⟨L.sb, 9, none⟩ (.slice (some ⟨g, 0, none⟩) (C + 1) cap4)) L' n S' ∧ FrS L L' w (w9.setCell ⟨L.sb, 9, none⟩ (.slice (some ⟨g, 0, none⟩) (C + 1) cap4))) := q3; clear ho9 hg9 hat9 q3)
  all_goals
    go_wp2_with fail
    go_end0
    exact ⟨rfl, Q3.out⟩

end Go.Proofs.Ytbicefgjompnoaa.Sx
