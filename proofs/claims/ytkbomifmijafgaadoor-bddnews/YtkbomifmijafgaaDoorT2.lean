/- A table of diagrams in memory. -/
import Derived.Test.YtkbomifmijafgaaDoorT1
import Derived.Maps.AppendAt
import Derived.OwnWalk
import Derived.Deep.AppendLies
namespace Go.Proofs.YtkbomifmijafgaaDoor.Sx
open Go.RowKit Go.Sort Go.Maps Go.WideMaps

/-- a row of the table: what it asks about, its two parts, how many have it for a part, whether it was given out -/
structure Rw where
  about : Int
  low : Nat
  high : Nat
  users : Nat
  given : Bool

def rwV (r : Rw) : List Value := [.int .i64 r.about, .int .i64 (r.low : Int), .int .i64 (r.high : Int), .int .i64 (r.users : Int), .bool r.given]
def flatR (R : List Rw) : List Value := R.flatMap rwV

theorem flatR_len (R : List Rw) : (flatR R).length = R.length * 5 := by
  induction R with
  | nil => rfl
  | cons r R ih => simp [flatR, rwV] at ih ⊢; omega
theorem flatR_at : ∀ (R : List Rw) (i j : Nat) (r : Rw), R[i]? = some r → j < 5 → (flatR R)[i * 5 + j]? = (rwV r)[j]?
  | [], i, j, r, h, _ => by simp at h
  | x :: R, 0, j, r, h, hj => by
    obtain rfl : x = r := by simpa using h
    simp only [flatR, List.flatMap_cons]
    rw [List.getElem?_append_left (by simp [rwV]; omega)]
    simp
  | x :: R, i + 1, j, r, h, hj => by
    have := flatR_at R i j r (by simpa using h) hj
    simp only [flatR, List.flatMap_cons]
    rw [List.getElem?_append_right (by simp [rwV]; omega)]
    have e : (i + 1) * 5 + j - (rwV x).length = i * 5 + j := by simp [rwV]; omega
    rw [e]
    exact this

/-- where a table lies -/
structure TL where
  b : Nat
  n : Nat
  lb : Nat
  lc : Nat
  mb : Nat
  fb : Nat
  hi : Nat
  lo : Nat
  oa : Option Addr
  oc : Nat

def TBlk (T : TL) (w : World) (rows fresh : Value) : Prop :=
  w.heap[T.b]? = some (.cells #[.slice T.oa T.n T.oc, .slice (some ⟨T.lb, 0, none⟩) (T.n + 1) T.lc, rows, .slice none 0 0, .map (some T.mb), .map (some T.fb), fresh] 53 (0, 0))

structure TOk (T : TL) (w : World) : Prop where
  lev : ∀ i : Nat, i ≤ T.n → w.cell? ⟨T.lb, i, none⟩ = some (.int .i64 (i : Int))
  n24 : T.n ≤ 24
  hi : T.hi ≤ w.heap.size
  lob : T.lo ≤ T.b
  lolb : T.lo ≤ T.lb
  lomb : T.lo ≤ T.mb
  lofb : T.lo ≤ T.fb
  b : T.b < T.hi
  lb : T.lb < T.hi
  mb : T.mb < T.hi
  fb : T.fb < T.hi
  d1 : T.b ≠ T.lb
  d2 : T.b ≠ T.mb
  d3 : T.b ≠ T.fb
  d4 : T.lb ≠ T.mb
  d5 : T.lb ≠ T.fb
  d6 : T.mb ≠ T.fb

/-- rows of a table: its cells, from the start of block g on -/
structure RowsAt (w : World) (hi g cap : Nat) (R : List Rw) : Prop where
  own : w.ownsRow hi 46 5 (.slice (some ⟨g, 0, none⟩) R.length cap) R.length (flatR R)
  lt : g < w.heap.size
  ge : hi ≤ g
  cell : ∀ (i j : Nat) (r : Rw), R[i]? = some r → j < 5 → w.cell? ⟨g, i * 5 + j, none⟩ = (rwV r)[j]?
  frz : ∀ i : Nat, w.frozen? ⟨g, i, none⟩ = false

theorem RowsAt.mk' {w : World} {hi g cap : Nat} {R : List Rw} (h : w.ownsRow hi 46 5 (.slice (some ⟨g, 0, none⟩) R.length cap) R.length (flatR R)) : RowsAt w hi g cap R := by
  rcases h.2 with ⟨e, _⟩ | ⟨g', cap', cur, e, h1, h2, h3, h4, h5, h6⟩
  · cases e
  · cases e
    refine ⟨h, block_lt h2, h1, fun i j r hr hj => ?_, fun i => frozen_block h2 i⟩
    rw [block_cell h2]
    have hl : i < R.length := (List.getElem?_eq_some_iff.1 hr).1
    have e1 := flatR_at R i j r hr hj
    rw [← h6, List.getElem?_take_of_lt (by omega)] at e1
    simpa using e1

theorem RowsAt.lt' {w : World} {hi g cap : Nat} {R : List Rw} (_ : RowsAt w hi g cap R) {f : Nat} {r : Rw} (hr : R[f]? = some r) : f < R.length := (List.getElem?_eq_some_iff.1 hr).1
theorem RowsAt.c0 {w : World} {hi g cap : Nat} {R : List Rw} (h : RowsAt w hi g cap R) {f : Nat} {r : Rw} (hr : R[f]? = some r) : w.cell? ⟨g, f * 5, none⟩ = some (.int .i64 r.about) := h.cell f 0 r hr (by omega)
theorem RowsAt.c1 {w : World} {hi g cap : Nat} {R : List Rw} (h : RowsAt w hi g cap R) {f : Nat} {r : Rw} (hr : R[f]? = some r) : w.cell? ⟨g, f * 5 + 1, none⟩ = some (.int .i64 (r.low : Int)) := h.cell f 1 r hr (by omega)
theorem RowsAt.c2 {w : World} {hi g cap : Nat} {R : List Rw} (h : RowsAt w hi g cap R) {f : Nat} {r : Rw} (hr : R[f]? = some r) : w.cell? ⟨g, f * 5 + 2, none⟩ = some (.int .i64 (r.high : Int)) := h.cell f 2 r hr (by omega)
theorem RowsAt.c3 {w : World} {hi g cap : Nat} {R : List Rw} (h : RowsAt w hi g cap R) {f : Nat} {r : Rw} (hr : R[f]? = some r) : w.cell? ⟨g, f * 5 + 3, none⟩ = some (.int .i64 (r.users : Int)) := h.cell f 3 r hr (by omega)
theorem RowsAt.c4 {w : World} {hi g cap : Nat} {R : List Rw} (h : RowsAt w hi g cap R) {f : Nat} {r : Rw} (hr : R[f]? = some r) : w.cell? ⟨g, f * 5 + 4, none⟩ = some (.bool r.given) := h.cell f 4 r hr (by omega)

structure TabG (T : TL) (w : World) (g cap : Nat) (fresh : Value) (R : List Rw) (M Fo : List (Value × Value)) (fr : List Nat) : Prop where
  blk : TBlk T w (.slice (some ⟨g, 0, none⟩) R.length cap) fresh
  rows : RowsAt w T.hi g cap R
  frs : w.ownsRow T.hi 29 1 fresh fr.length (fr.map fun x : Nat => Value.int .i64 (x : Int))
  far : fresh.ownBlock ≠ some g
  ok : TOk T w
  made : MapIs 44 w T.mb M
  found : MapIs 62 w T.fb Fo

def Tab (T : TL) (w : World) (R : List Rw) (M Fo : List (Value × Value)) (fr : List Nat) : Prop := ∃ g cap fresh, TabG T w g cap fresh R M Fo fr

theorem heap_new {W : World} {o : Obj} {k : Nat} (h : W.heap.size = k) : (W.alloc o).heap[k]? = some o := by subst h; exact heap_alloc_new W o
theorem ownsG_of {w w' : World} {base sz n : Nat} {e : TypeId} {sl : Value} {vs : List Value} (h : w.ownsRow base e sz sl n vs) (hb : ∀ g, sl.ownBlock = some g → base ≤ g → g < w.heap.size → w'.heap[g]? = w.heap[g]?) : w'.ownsRow base e sz sl n vs := by
  refine ⟨h.1, ?_⟩
  rcases h.2 with h' | ⟨g, cap, cur, e', hg, hq, r⟩
  · exact .inl h'
  · exact .inr ⟨g, cap, cur, e', hg, (hb g (by rw [e']; rfl) hg (block_lt hq)).trans hq, r⟩
theorem TOk.of {T : TL} {w w' : World} (h : TOk T w) {P : Nat → Prop} (f : Fr P w w') (hp : P T.lb) : TOk T w' :=
  { h with
    lev := fun i hi => (World.cell?_of_block (w := w) (f.block T.lb (Nat.lt_of_lt_of_le h.lb h.hi) hp)).trans (h.lev i hi)
    hi := Nat.le_trans h.hi f.size }

section
variable {T : TL} {w w' : World} {g cap : Nat} {fresh : Value} {R : List Rw} {M Fo : List (Value × Value)} {fr : List Nat}

/-- what else is written does not touch a table -/
theorem TabG.of (h : TabG T w g cap fresh R M Fo fr) {P : Nat → Prop} (f : Fr P w w') (p1 : P T.b) (p2 : P T.lb) (p3 : P T.mb) (p4 : P T.fb) (p5 : P g) (p6 : ∀ k, fresh.ownBlock = some k → P k) : TabG T w' g cap fresh R M Fo fr :=
  { blk := (f.block T.b (block_lt h.blk) p1).trans h.blk
    rows := RowsAt.mk' (ownsG_of h.rows.own fun k e _ hl => f.block k hl (by cases e; exact p5))
    frs := ownsG_of h.frs fun k e _ hl => f.block k hl (p6 k e)
    far := h.far
    ok := h.ok.of f p2
    made := h.made.of f p3
    found := h.found.of f p4 }
theorem TabG.grew (h : TabG T w g cap fresh R M Fo fr) (f : Fr (fun _ => True) w w') : TabG T w' g cap fresh R M Fo fr := h.of f trivial trivial trivial trivial trivial fun _ _ => trivial

theorem flatR_set : ∀ (R : List Rw) (i j : Nat) (r r' : Rw) (v : Value), R[i]? = some r → j < 5 → rwV r' = (rwV r).set j v → flatR (R.set i r') = (flatR R).set (i * 5 + j) v
  | [], i, j, r, r', v, h, _, _ => by simp at h
  | x :: R, 0, j, r, r', v, h, hj, hv => by
    obtain rfl : x = r := by simpa using h
    simp only [flatR, List.set_cons_zero, List.flatMap_cons, hv]
    rw [List.set_append_left _ _ (by simp [rwV]; omega)]
    simp
  | x :: R, i + 1, j, r, r', v, h, hj, hv => by
    have := flatR_set R i j r r' v (by simpa using h) hj hv
    simp only [flatR, List.set_cons_succ, List.flatMap_cons] at this ⊢
    rw [List.set_append_right _ _ (by simp [rwV]; omega), this]
    have e : (i + 1) * 5 + j - (rwV x).length = i * 5 + j := by simp [rwV]; omega
    rw [e]

/-- a cell of a row is written -/
theorem TabG.set (h : TabG T w g cap fresh R M Fo fr) {f j : Nat} {r : Rw} (r' : Rw) {v : Value} (hr : R[f]? = some r) (hj : j < 5) (hv : rwV r' = (rwV r).set j v) : TabG T (w.setCell ⟨g, f * 5 + j, none⟩ v) g cap fresh (R.set f r') M Fo fr := by
  have f1 : Fr (· ≠ g) w (w.setCell ⟨g, f * 5 + j, none⟩ v) := (Fr.refl _ w).set (by simp) _
  have hge := h.rows.ge
  have k1 := h.ok.b
  have k2 := h.ok.lb
  have k3 := h.ok.mb
  have k4 := h.ok.fb
  refine { blk := ?_, rows := ?_, frs := ?_, far := h.far, ok := h.ok.of f1 (by omega), made := h.made.of f1 (by omega), found := h.found.of f1 (by omega) }
  · rw [List.length_set]
    exact (f1.block T.b (block_lt h.blk) (by omega)).trans h.blk
  · refine RowsAt.mk' ?_
    rw [List.length_set, flatR_set R f j r r' v hr hj hv]
    have hl := h.rows.lt' hr
    rcases h.rows.own.2 with ⟨e, _⟩ | ⟨g', cap', cur, e, h1, h2, h3, h4, h5, h6⟩
    · cases e
    · cases e
      refine ⟨by rw [List.length_set]; exact h.rows.own.1, .inr ⟨g, cap, _, rfl, h1, set_block h2 _ v, h3, h4, by simpa using h5, ?_⟩⟩
      rw [← h6]
      simp [List.take_set]
  · exact ownsG_of h.frs fun k e _ hl => f1.block k hl (fun e2 => h.far (e2 ▸ e))

/-- the map of nodes, the map of what was found, are others -/
theorem TabG.maps (h : TabG T w g cap fresh R M Fo fr) {M' : List (Value × Value)} (f : Fr (· ≠ T.mb) w w') (hm : MapIs 44 w' T.mb M') : TabG T w' g cap fresh R M' Fo fr := by
  have hge := h.rows.ge
  have k3 := h.ok.mb
  exact
  { blk := (f.block T.b (block_lt h.blk) h.ok.d2).trans h.blk
    rows := RowsAt.mk' (ownsG_of h.rows.own fun k e _ hl => f.block k hl (by cases e; show g ≠ T.mb; omega))
    frs := ownsG_of h.frs fun k e hb hl => f.block k hl (by omega)
    far := h.far
    ok := h.ok.of f h.ok.d4
    made := hm
    found := h.found.of f (Ne.symm h.ok.d6) }
theorem TabG.finds (h : TabG T w g cap fresh R M Fo fr) {Fo' : List (Value × Value)} (f : Fr (· ≠ T.fb) w w') (hm : MapIs 62 w' T.fb Fo') : TabG T w' g cap fresh R M Fo' fr := by
  have hge := h.rows.ge
  have k3 := h.ok.fb
  exact
  { blk := (f.block T.b (block_lt h.blk) h.ok.d3).trans h.blk
    rows := RowsAt.mk' (ownsG_of h.rows.own fun k e _ hl => f.block k hl (by cases e; show g ≠ T.fb; omega))
    frs := ownsG_of h.frs fun k e hb hl => f.block k hl (by omega)
    far := h.far
    ok := h.ok.of f h.ok.d5
    made := h.made.of f h.ok.d6
    found := hm }

/-- a row more -/
theorem TabG.push (h : TabG T w g cap fresh R M Fo fr) {wa w1 : World} {g' cap' H : Nat} (r : Rw) (fa : Fr (fun _ => True) w wa) (ho : w1.ownsRow T.hi 46 5 (.slice (some ⟨g', 0, none⟩) (R.length + 1) cap') (R.length + 1) (flatR R ++ rwV r)) (hg : wa.grownBy w1 (some g)) (hat : some g = some g' ∨ g' = H) (hH : w.heap.size ≤ H) :
    TBlk T w1 (.slice (some ⟨g, 0, none⟩) R.length cap) fresh ∧ TabG T (w1.setCell ⟨T.b, 2, none⟩ (.slice (some ⟨g', 0, none⟩) (R.length + 1) cap')) g' cap' fresh (R ++ [r]) M Fo fr ∧ Fr (fun k => k ≠ T.b ∧ k ≠ g) w (w1.setCell ⟨T.b, 2, none⟩ (.slice (some ⟨g', 0, none⟩) (R.length + 1) cap')) := by
  have f1 : Fr (· ≠ g) w w1 := (fa.mono fun _ _ => trivial).trans ⟨hg.os, hg.tape, hg.output, hg.size, fun k hk hp => hg.block k hk (fun e => hp (by cases e; rfl))⟩
  have hge := h.rows.ge
  have hgl := h.rows.lt
  have k1 := h.ok.b
  have k2 := h.ok.lb
  have k3 := h.ok.mb
  have k4 := h.ok.fb
  have k5 := h.ok.hi
  have hb1 : TBlk T w1 (.slice (some ⟨g, 0, none⟩) R.length cap) fresh := (f1.block T.b (block_lt h.blk) (by omega)).trans h.blk
  have f2 : Fr (· ≠ T.b) w1 (w1.setCell ⟨T.b, 2, none⟩ (.slice (some ⟨g', 0, none⟩) (R.length + 1) cap')) := (Fr.refl _ w1).set (by simp) _
  have hg' : T.hi ≤ g' := (ho.lt g' rfl).1
  have hl : (R ++ [r]).length = R.length + 1 := by simp
  have hfr : ∀ k, fresh.ownBlock = some k → T.hi ≤ k ∧ k < w.heap.size := fun k e => h.frs.lt k e
  refine ⟨hb1, { blk := ?_, rows := ?_, frs := ?_, far := ?_, ok := (h.ok.of f1 (by omega)).of f2 (Ne.symm h.ok.d1), made := (h.made.of f1 (by omega)).of f2 (Ne.symm h.ok.d2), found := (h.found.of f1 (by omega)).of f2 (Ne.symm h.ok.d3) }, ?_⟩
  · rw [hl]
    exact set_block hb1 2 _
  · refine RowsAt.mk' ?_
    rw [hl, show flatR (R ++ [r]) = flatR R ++ rwV r by simp [flatR]]
    exact ownsG_of ho fun k e hb hl => f2.block k hl (by omega)
  · refine ownsG_of (ownsG_of h.frs fun k e _ hl => f1.block k hl ?_) fun k e hb hl => f2.block k hl (by omega)
    rintro rfl
    exact h.far e
  · intro e
    rcases hat with q | q
    · cases q; exact h.far e
    · have := (hfr g' e).2; omega
  · exact (f1.mono fun k hk => hk.2).trans (f2.mono fun k hk => hk.1)

/-- a node more that was made -/
theorem TabG.freshen (h : TabG T w g cap fresh R M Fo fr) {wa w1 : World} {g' cap' H : Nat} (x : Nat) (fa : Fr (fun _ => True) w wa) (ho : w1.ownsRow T.hi 29 1 (.slice (some ⟨g', 0, none⟩) (fr.length + 1) cap') (fr.length + 1) ((fr.map fun x : Nat => Value.int .i64 (x : Int)) ++ [.int .i64 (x : Int)])) (hg : wa.grownBy w1 fresh.ownBlock) (hat : fresh.ownBlock = some g' ∨ g' = H) (hH : w.heap.size ≤ H) :
    TBlk T w1 (.slice (some ⟨g, 0, none⟩) R.length cap) fresh ∧ TabG T (w1.setCell ⟨T.b, 6, none⟩ (.slice (some ⟨g', 0, none⟩) (fr.length + 1) cap')) g cap (.slice (some ⟨g', 0, none⟩) (fr.length + 1) cap') R M Fo (fr ++ [x]) ∧ Fr (· < T.lo) w (w1.setCell ⟨T.b, 6, none⟩ (.slice (some ⟨g', 0, none⟩) (fr.length + 1) cap')) := by
  have f1 : Fr (fun k => fresh.ownBlock ≠ some k) w w1 := (fa.mono fun _ _ => trivial).trans ⟨hg.os, hg.tape, hg.output, hg.size, fun k hk hp => hg.block k hk (fun e => hp e.symm)⟩
  have hge := h.rows.ge
  have hgl := h.rows.lt
  have k1 := h.ok.b
  have k2 := h.ok.lb
  have k3 := h.ok.mb
  have k4 := h.ok.fb
  have k5 := h.ok.hi
  have kl := h.ok.lob
  have hlow : ∀ k, k < T.hi → fresh.ownBlock ≠ some k := fun k hk e => by have := (h.frs.lt k e).1; omega
  have hb1 : TBlk T w1 (.slice (some ⟨g, 0, none⟩) R.length cap) fresh := (f1.block T.b (block_lt h.blk) (hlow _ k1)).trans h.blk
  have f2 : Fr (· ≠ T.b) w1 (w1.setCell ⟨T.b, 6, none⟩ (.slice (some ⟨g', 0, none⟩) (fr.length + 1) cap')) := (Fr.refl _ w1).set (by simp) _
  have hl : (fr ++ [x]).length = fr.length + 1 := by simp
  have hg' : T.hi ≤ g' := (ho.lt g' rfl).1
  refine ⟨hb1, { blk := ?_, rows := ?_, frs := ?_, far := ?_, ok := (h.ok.of f1 (hlow _ k2)).of f2 (Ne.symm h.ok.d1), made := (h.made.of f1 (hlow _ k3)).of f2 (Ne.symm h.ok.d2), found := (h.found.of f1 (hlow _ k4)).of f2 (Ne.symm h.ok.d3) }, ?_⟩
  · exact set_block hb1 6 _
  · refine RowsAt.mk' (ownsG_of (ownsG_of h.rows.own fun k e _ hl => f1.block k hl ?_) fun k e hb hl => f2.block k hl (by omega))
    cases e
    exact h.far
  · rw [hl, List.map_append]
    exact ownsG_of ho fun k e hb hl => f2.block k hl (by omega)
  · intro e
    have e2 : g' = g := by simpa [Value.ownBlock] using e
    subst e2
    rcases hat with q | q
    · exact h.far q
    · omega
  · exact (f1.mono fun k hk => hlow k (by omega)).trans (f2.mono fun k hk => by omega)

/-- none that was made is noted any more -/
theorem TabG.stale (h : TabG T w g cap fresh R M Fo fr) : TabG T (w.setCell ⟨T.b, 6, none⟩ (.slice none 0 0)) g cap (.slice none 0 0) R M Fo [] := by
  have f2 : Fr (· ≠ T.b) w (w.setCell ⟨T.b, 6, none⟩ (.slice none 0 0)) := (Fr.refl _ w).set (by simp) _
  have hge := h.rows.ge
  have k1 := h.ok.b
  exact
  { blk := set_block h.blk 6 _
    rows := RowsAt.mk' (ownsG_of h.rows.own fun k e hb hl => f2.block k hl (by omega))
    frs := World.ownsRow_nil _ _ _ _
    far := by simp [Value.ownBlock]
    ok := h.ok.of f2 (Ne.symm h.ok.d1)
    made := h.made.of f2 (Ne.symm h.ok.d2)
    found := h.found.of f2 (Ne.symm h.ok.d3) }
end

/-- blocks of cells of other types than a table's are as they were -/
def Kept (w w' : World) : Prop := ∀ (k : Nat) (vs : Array Value) (t : TypeId) (f : Nat × Nat), w.heap[k]? = some (Obj.cells vs t f) → t ≠ 53 → t ≠ 46 → t ≠ 29 → w'.heap[k]? = some (Obj.cells vs t f)
theorem Kept.trans {a b c : World} (h : Kept a b) (k : Kept b c) : Kept a c := fun i vs t f e h1 h2 h3 => k i vs t f (h i vs t f e h1 h2 h3) h1 h2 h3
theorem Kept.fr {w w' : World} (h : Fr (fun _ => True) w w') : Kept w w' := fun i _ _ _ e _ _ _ => (h.block i (block_lt e) trivial).trans e
theorem Kept.but {w w' : World} {b : Nat} (h : Fr (· ≠ b) w w') (hb : ∀ vs t f, w.heap[b]? = some (.cells vs t f) → t = 53 ∨ t = 46 ∨ t = 29) : Kept w w' := fun i vs t f e h1 h2 h3 =>
  (h.block i (block_lt e) (by rintro rfl; rcases hb vs t f e with q | q | q <;> contradiction)).trans e
section
variable {T : TL} {w w' : World} {g cap : Nat} {fresh : Value} {R : List Rw} {M Fo : List (Value × Value)} {fr : List Nat}
theorem RowsAt.ty {hi : Nat} (h : RowsAt w hi g cap R) : ∃ cur, w.heap[g]? = some (.cells cur 46 (0, 0)) := by
  rcases h.own.2 with ⟨e, _⟩ | ⟨g', cap', cur, e, h1, h2, _⟩
  · cases e
  · cases e; exact ⟨cur, h2⟩
theorem TabG.keptG (h : TabG T w g cap fresh R M Fo fr) (f : Fr (· ≠ g) w w') : Kept w w' := Kept.but f fun vs t z e => by
  obtain ⟨cur, q⟩ := h.rows.ty
  rw [q] at e; cases e; exact .inr (.inl rfl)
theorem TabG.keptM (h : TabG T w g cap fresh R M Fo fr) (f : Fr (· ≠ T.mb) w w') : Kept w w' := Kept.but f fun vs t z e => by
  obtain ⟨es, c, q, _⟩ := h.made
  rw [q] at e; cases e
theorem TabG.keptF (h : TabG T w g cap fresh R M Fo fr) (f : Fr (· ≠ T.fb) w w') : Kept w w' := Kept.but f fun vs t z e => by
  obtain ⟨es, c, q, _⟩ := h.found
  rw [q] at e; cases e
theorem TBlk.kept {rows : Value} (h : TBlk T w rows fresh) (f : Fr (· ≠ T.b) w w') : Kept w w' := Kept.but f fun vs t z e => by
  rw [h] at e; cases e; exact .inl rfl
theorem TabG.keptR (h : TabG T w g cap fresh R M Fo fr) (f : Fr (fun k => fresh.ownBlock ≠ some k) w w') : Kept w w' := by
  intro k vs t z e h1 h2 h3
  refine (f.block k (block_lt e) ?_).trans e
  intro q
  rcases h.frs.2 with ⟨e2, _⟩ | ⟨gg, cc, cur, e2, _, e3, _⟩
  · rw [e2] at q; simp [Value.ownBlock] at q
  · rw [e2] at q
    obtain rfl : gg = k := by simpa [Value.ownBlock] using q
    rw [e] at e3; cases e3; exact h3 rfl
theorem TabG.keptN (h : TabG T w g cap fresh R M Fo fr) (f : Fr (fun k => k ≠ T.b ∧ k ≠ g) w w') : Kept w w' := by
  intro k vs t z e h1 h2 h3
  refine (f.block k (block_lt e) ⟨?_, ?_⟩).trans e
  · rintro rfl
    have := h.blk
    unfold TBlk at this
    rw [e] at this; cases this; exact h1 rfl
  · rintro rfl
    obtain ⟨cur, q⟩ := h.rows.ty
    rw [e] at q; cases q; exact h2 rfl
end

set_option maxRecDepth 100000 in
set_option maxHeartbeats 1000000 in
theorem known_any (T : TL) (w : World) (R : List Rw) (M Fo : List (Value × Value)) (fr : List Nat) (h : Tab T w R M Fo fr) (f : Nat) (r : Rw) (hr : R[f]? = some r) (hn : r.about ≠ -1) :
    Calls Tryd.prog 19 #[.pointer (some ⟨T.b, 0, none⟩), .int .i64 (f : Int)] w fun e w' => e = .returned (.int .i64 (f : Int)) ∧ w' = w := by
  obtain ⟨g, cap, fresh, hG⟩ := h
  have hb := hG.blk
  have hR := hG.rows
  have h2 := block_cell hb 2
  have hf := hR.lt' hr
  have c0 := hR.c0 hr
  have n1 : ¬ (f : Int) < 0 := by omega
  have n2 : ¬ R.length ≤ f := by omega
  have n3 : (r.about == -1) = false := by simpa using hn
  clear hb hR hG
  have mo := follows
  go_enter Tryd.func19, Tryd.ntmps19
  go_wp2_with fail
  go_ret
  exact ⟨rfl, rfl⟩

end Go.Proofs.YtkbomifmijafgaaDoor.Sx
