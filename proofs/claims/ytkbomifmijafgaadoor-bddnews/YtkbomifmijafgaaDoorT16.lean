/- The nodes of a function. -/
import Derived.Test.YtkbomifmijafgaaDoorT14
namespace Go.Proofs.YtkbomifmijafgaaDoor.Sx
open Go.RowKit Go.Sort Go.Maps Go.WideMaps

theorem zero68 (w : World) : (zeroValue 68).run Tryd.prog w = .ok (.agg #[]) w := by kernel_rfl

/-- what a walk through a diagram stands on; it has told k nodes -/
structure VE (T : TL) (w : World) (lo2 lo3 bs bv bt bl mm g cap : Nat) (fresh : Value) (R : List Rw) (M Fo : List (Value × Value)) (fr : List Nat) (L : List (Value × Value)) (sl : Value) (k : Nat) : Prop where
  tb : TabG T w g cap fresh R M Fo fr
  s : w.heap[bs]? = some (.cells #[.map (some mm)] 69 (0, 0))
  v : w.heap[bv]? = some (.cells #[.func (.func 32) #[] #[.pointer (some ⟨bs, 0, none⟩), .pointer (some ⟨bv, 0, none⟩), .pointer (some ⟨bt, 0, none⟩), .pointer (some ⟨bl, 0, none⟩)]] 58 (0, 0))
  t : w.heap[bt]? = some (.cells #[.pointer (some ⟨T.b, 0, none⟩)] 23 (0, 0))
  l : w.heap[bl]? = some (.cells #[sl] 49 (0, 0))
  map : MapIs 29 w mm L
  own : ∃ xs, w.ownsRow lo3 29 1 sl k xs
  d1 : mm ≠ T.mb
  d2 : mm ≠ T.fb
  d3 : mm ≠ T.lb
  d4 : bl ≠ T.lb
  h1 : bs < lo3
  h2 : bv < lo3
  h3 : bt < lo3
  h4 : bl < lo3
  h5 : mm < lo3
  h6 : T.hi ≤ lo3
  h7 : g < lo3
  h8 : ∀ q, fresh.ownBlock = some q → q < lo3
  h9 : lo3 ≤ w.heap.size
  k1 : lo2 ≤ mm
  k2 : lo2 ≤ bl
  k3 : lo2 ≤ lo3

section
variable {T : TL} {w w' : World} {lo2 lo3 bs bv bt bl mm g cap : Nat} {fresh : Value} {R : List Rw} {M Fo : List (Value × Value)} {fr : List Nat} {L L' : List (Value × Value)} {sl : Value} {k : Nat}
theorem VE.own_map (h : VE T w lo2 lo3 bs bv bt bl mm g cap fresh R M Fo fr L sl k) (f : Fr (· ≠ mm) w w') : ∃ xs, w'.ownsRow lo3 29 1 sl k xs := by
  obtain ⟨xs, hx⟩ := h.own
  have := h.h5
  exact ⟨xs, ownsG_of hx fun q e hb hl => f.block q hl (by omega)⟩
theorem VE.put (h : VE T w lo2 lo3 bs bv bt bl mm g cap fresh R M Fo fr L sl k) (f : Fr (· ≠ mm) w w') (hm : MapIs 29 w' mm L') : VE T w' lo2 lo3 bs bv bt bl mm g cap fresh R M Fo fr L' sl k :=
  { h with
    tb := h.tb.beside h.map h.d1 h.d2 h.d3 f
    s := cells_beside h.map f h.s
    v := cells_beside h.map f h.v
    t := cells_beside h.map f h.t
    l := cells_beside h.map f h.l
    map := hm
    own := h.own_map f
    h9 := Nat.le_trans h.h9 f.size }
theorem VE.grew (h : VE T w lo2 lo3 bs bv bt bl mm g cap fresh R M Fo fr L sl k) (f : Fr (fun _ => True) w w') : VE T w' lo2 lo3 bs bv bt bl mm g cap fresh R M Fo fr L sl k := h.put (f.mono fun _ _ => trivial) (h.map.of f trivial)
/-- a node more is told -/
theorem VE.push (h : VE T w lo2 lo3 bs bv bt bl mm g cap fresh R M Fo fr L sl k) {wa w1 : World} {g' cap' : Nat} {xs : List Value} (fa : Fr (fun _ => True) w wa) (ho : w1.ownsRow lo3 29 1 (.slice (some ⟨g', 0, none⟩) (k + 1) cap') (k + 1) xs) (hg : wa.grownBy w1 sl.ownBlock) :
    w1.heap[bl]? = some (.cells #[sl] 49 (0, 0)) ∧ VE T (w1.setCell ⟨bl, 0, none⟩ (.slice (some ⟨g', 0, none⟩) (k + 1) cap')) lo2 lo3 bs bv bt bl mm g cap fresh R M Fo fr L (.slice (some ⟨g', 0, none⟩) (k + 1) cap') (k + 1) ∧ Fr (· < lo2) w (w1.setCell ⟨bl, 0, none⟩ (.slice (some ⟨g', 0, none⟩) (k + 1) cap')) := by
  obtain ⟨ys, hy⟩ := h.own
  have f1 : Fr (fun q => sl.ownBlock ≠ some q) w w1 := (fa.mono fun _ _ => trivial).trans ⟨hg.os, hg.tape, hg.output, hg.size, fun q hq hp => hg.block q hq (fun e => hp e.symm)⟩
  have hlow : ∀ q, q < lo3 → sl.ownBlock ≠ some q := fun q hq e => by have := (hy.lt q e).1; omega
  have f2 : Fr (· ≠ bl) w1 (w1.setCell ⟨bl, 0, none⟩ (.slice (some ⟨g', 0, none⟩) (k + 1) cap')) := (Fr.refl _ w1).set (by simp) _
  have b1 := h.tb.ok.b
  have b2 := h.tb.ok.lb
  have b3 := h.tb.ok.mb
  have b4 := h.tb.ok.fb
  have c1 := h.h1
  have c2 := h.h2
  have c3 := h.h3
  have c4 := h.h4
  have c5 := h.h5
  have c6 := h.h6
  have c7 := h.h7
  have e1 := h.k1
  have e2 := h.k2
  have e3 := h.k3
  have l1 := (f1.block bl (block_lt h.l) (hlow _ c4)).trans h.l
  have t1 : TabG T w1 g cap fresh R M Fo fr := h.tb.of f1 (hlow _ (by omega)) (hlow _ (by omega)) (hlow _ (by omega)) (hlow _ (by omega)) (hlow _ c7) (fun q e => hlow _ (h.h8 q e))
  have m1 : MapIs 29 w1 mm L := h.map.of f1 (hlow _ c5)
  have n1 : bl ≠ mm := by
    rintro rfl
    obtain ⟨es, c, q, _⟩ := m1
    rw [l1] at q; cases q
  have ty : ∀ {b : Nat} {vs : Array Value} {t : TypeId} {z : Nat × Nat}, w1.heap[b]? = some (.cells vs t z) → t ≠ 49 → b ≠ bl := by
    rintro b vs t z hb ht rfl
    rw [l1] at hb; cases hb; exact ht rfl
  have t2 : TabG T (w1.setCell ⟨bl, 0, none⟩ (.slice (some ⟨g', 0, none⟩) (k + 1) cap')) g cap fresh R M Fo fr := by
    refine t1.of f2 (ty t1.blk (by decide)) (Ne.symm h.d4) ?_ ?_ ?_ ?_
    · rintro q
      obtain ⟨es, c, q2, _⟩ := t1.made
      rw [q, l1] at q2; cases q2
    · rintro q
      obtain ⟨es, c, q2, _⟩ := t1.found
      rw [q, l1] at q2; cases q2
    · obtain ⟨cur, q⟩ := t1.rows.ty
      exact ty q (by decide)
    · intro q e
      rcases t1.frs.2 with ⟨e2, _⟩ | ⟨gg, cc, cur, e2, _, e3, _⟩
      · rw [e2] at e; simp [Value.ownBlock] at e
      · rw [e2] at e
        obtain rfl : gg = q := by simpa [Value.ownBlock] using e
        exact ty e3 (by decide)
  have s1 := (f1.block bs (block_lt h.s) (hlow _ c1)).trans h.s
  have v1 := (f1.block bv (block_lt h.v) (hlow _ c2)).trans h.v
  have u1 := (f1.block bt (block_lt h.t) (hlow _ c3)).trans h.t
  refine ⟨l1, { h with tb := t2, s := ?_, v := ?_, t := ?_, l := set_block l1 0 _, map := m1.of f2 (Ne.symm n1), own := ⟨xs, ownsG_of ho fun q e hb hl => f2.block q hl (by omega)⟩, h9 := Nat.le_trans h.h9 (Nat.le_trans f1.size f2.size) }, (f1.mono fun q hq => hlow q (by omega)).trans (f2.mono fun q hq => by omega)⟩
  · exact (f2.block _ (block_lt s1) (ty s1 (by decide))).trans s1
  · exact (f2.block _ (block_lt v1) (ty v1 (by decide))).trans v1
  · exact (f2.block _ (block_lt u1) (ty u1 (by decide))).trans u1
end

/-- the call for a node -/
structure VisC (T : TL) (lo2 lo3 bs bv bt bl mm g cap : Nat) (fresh : Value) (R : List Rw) (M Fo : List (Value × Value)) (fr : List Nat) (f : Nat) (L L' : List (Value × Value)) (k k' : Nat) : Prop where
  run : ∀ (W : World) (sl : Value), VE T W lo2 lo3 bs bv bt bl mm g cap fresh R M Fo fr L sl k → Calls Tryd.prog 32 #[.int .i64 (f : Int), .pointer (some ⟨bs, 0, none⟩), .pointer (some ⟨bv, 0, none⟩), .pointer (some ⟨bt, 0, none⟩), .pointer (some ⟨bl, 0, none⟩)] W fun e w' => e = .returned (.tuple #[]) ∧ (∃ sl', VE T w' lo2 lo3 bs bv bt bl mm g cap fresh R M Fo fr L' sl' k') ∧ Fr (· < lo2) W w'

set_option maxRecDepth 100000 in
set_option maxHeartbeats 1000000 in
theorem vis_hit {T : TL} {lo2 lo3 bs bv bt bl mm g cap : Nat} {fresh : Value} {R : List Rw} {M Fo : List (Value × Value)} {fr : List Nat} {L : List (Value × Value)} {k f : Nat} (hf : f ≤ 1000) (hm : (Value.int .i64 (f : Int), Value.agg #[]) ∈ L) (hu : ∀ p ∈ L, p.1 = .int .i64 (f : Int) → p.2 = .agg #[]) : VisC T lo2 lo3 bs bv bt bl mm g cap fresh R M Fo fr f L L k k := by
  refine ⟨fun w sl h => ?_⟩
  have mo := follows
  have HE : Hid (VE T w lo2 lo3 bs bv bt bl mm g cap fresh R M Fo fr L sl k) := h
  have m0 := block_cell h.s 0
  have l1 := h.map.hit law29 Tryd.underlying69 (key29n hf) hm hu
  clear h
  go_enter Tryd.func32, Tryd.ntmps32
  go_wp2_with fail
  exact bodyPost_ret (v := .tuple #[]) (by simp [results, Tryd.results32]) rfl ⟨rfl, ⟨_, HE.out.grew ((Fr.refl _ w).alloc _)⟩, (Fr.refl _ w).alloc _⟩

set_option maxRecDepth 100000 in
set_option maxHeartbeats 2000000 in
theorem vis_miss {T : TL} {lo2 lo3 bs bv bt bl mm g cap : Nat} {fresh : Value} {R : List Rw} {M Fo : List (Value × Value)} {fr : List Nat} {L L1 L2 : List (Value × Value)} {k k1 k2 f : Nat} {r : Rw} (hr : R[f]? = some r) (hf : f ≤ 1000) (hk : k2 ≤ 1000) (hu : ∀ p ∈ L, p.1 ≠ .int .i64 (f : Int))
    (HL : VisC T lo2 lo3 bs bv bt bl mm g cap fresh R M Fo fr r.low (L ++ [(.int .i64 (f : Int), .agg #[])]) L1 k k1) (HH : VisC T lo2 lo3 bs bv bt bl mm g cap fresh R M Fo fr r.high L1 L2 k1 k2) : VisC T lo2 lo3 bs bv bt bl mm g cap fresh R M Fo fr f L L2 k (k2 + 1) := by
  refine ⟨fun w sl h => ?_⟩
  have mo := follows
  have ha := h.grew ((Fr.refl _ w).alloc (.cells #[] 68))
  have fA : Fr (fun _ => True) w (w.alloc (.cells #[] 68)) := (Fr.refl _ w).alloc _
  obtain ⟨W1, p1, M1, f1⟩ := ha.map.put law29 Tryd.underlying69 (key29n hf) hu (.agg #[])
  have h1 := ha.put f1 M1
  have HE : Hid (VE T W1 lo2 lo3 bs bv bt bl mm g cap fresh R M Fo fr (L ++ [(.int .i64 (f : Int), .agg #[])]) sl k) := h1
  have kk := h.k1
  have HF : Hid (Fr (· < lo2) w W1) := (fA.mono fun _ _ => trivial).trans (f1.mono fun q hq => by omega)
  have m0 := block_cell h.s 0
  have m0a := block_cell ha.s 0
  have l1 := h.map.miss law29 Tryd.underlying69 (zero68 w) (key29n hf) hu
  have hfl := h.tb.rows.lt' hr
  have hf0 : (0 : Int) ≤ (f : Int) := by omega
  have t0 := block_cell h1.t 0
  have v0 := block_cell h1.v 0
  have b2 := block_cell h1.tb.blk 2
  have c1 := h1.tb.rows.c1 hr
  clear h h1 ha M1 f1 fA
  go_enter Tryd.func32, Tryd.ntmps32
  go_wp2_with fail
  clear m0 m0a l1 p1 t0 v0 b2 c1
  have HC : Hid (∀ W LL sl kk, VE T W lo2 lo3 bs bv bt bl mm g cap fresh R M Fo fr LL sl kk → W.cell? ⟨bv, 0, none⟩ = some (.func (.func 32) #[] #[.pointer (some ⟨bs, 0, none⟩), .pointer (some ⟨bv, 0, none⟩), .pointer (some ⟨bt, 0, none⟩), .pointer (some ⟨bl, 0, none⟩)]) ∧ W.cell? ⟨bt, 0, none⟩ = some (.pointer (some ⟨T.b, 0, none⟩)) ∧ W.cell? ⟨T.b, 2, none⟩ = some (.slice (some ⟨g, 0, none⟩) R.length cap) ∧ W.cell? ⟨g, f * 5 + 1, none⟩ = some (.int .i64 (r.low : Int))) := fun W LL sl kk q => ⟨block_cell q.v 0, block_cell q.t 0, block_cell q.tb.blk 2, q.tb.rows.c1 hr⟩
  have ED := HE.out.grew (Fr.refl _ _).drew
  obtain ⟨x0, x1, x2, x3⟩ := HC.out _ _ _ _ HE.out
  obtain ⟨y0, y1, y2, y3⟩ := HC.out _ _ _ _ ED
  have HR : Hid (Calls _ _ _ _ _) := HL.run _ _ ED
  clear ED
  go_region_held3 (fun w' => w'.cell? ⟨bv, 0, none⟩ = some (.func (.func 32) #[] #[.pointer (some ⟨bs, 0, none⟩), .pointer (some ⟨bv, 0, none⟩), .pointer (some ⟨bt, 0, none⟩), .pointer (some ⟨bl, 0, none⟩)]) ∧ w'.cell? ⟨bt, 0, none⟩ = some (.pointer (some ⟨T.b, 0, none⟩)) ∧ w'.cell? ⟨T.b, 2, none⟩ = some (.slice (some ⟨g, 0, none⟩) R.length cap) ∧ w'.cell? ⟨g, f * 5 + 1, none⟩ = some (.int .i64 (r.low : Int))) (first | (refine ⟨?_, ?_, ?_, ?_⟩ <;> assumption) | go_keep)
    ((go_at_call 32; refine HR.out.mono ?_; rintro e W2 ⟨rfl, ⟨sl2, hE2⟩, hF2⟩; have E2 : Hid (VE T W2 lo2 lo3 bs bv bt bl mm g cap fresh R M Fo fr L1 sl2 k1) := hE2; have F2 : Hid (Fr (· < lo2) w W2) := (HF.out.drew).trans hF2; obtain ⟨z0, z1, z2, z3⟩ := HC.out _ _ _ _ hE2; clear hE2 hF2))
  clear x0 x1 x2 x3 y0 y1 y2 y3 z0 z1 z2 z3 HC HR HE HF
  go_wp2_with fail
  have HC : Hid (∀ W LL sl kk, VE T W lo2 lo3 bs bv bt bl mm g cap fresh R M Fo fr LL sl kk → W.cell? ⟨bv, 0, none⟩ = some (.func (.func 32) #[] #[.pointer (some ⟨bs, 0, none⟩), .pointer (some ⟨bv, 0, none⟩), .pointer (some ⟨bt, 0, none⟩), .pointer (some ⟨bl, 0, none⟩)]) ∧ W.cell? ⟨bt, 0, none⟩ = some (.pointer (some ⟨T.b, 0, none⟩)) ∧ W.cell? ⟨T.b, 2, none⟩ = some (.slice (some ⟨g, 0, none⟩) R.length cap) ∧ W.cell? ⟨g, f * 5 + 2, none⟩ = some (.int .i64 (r.high : Int))) := fun W LL sl kk q => ⟨block_cell q.v 0, block_cell q.t 0, block_cell q.tb.blk 2, q.tb.rows.c2 hr⟩
  have ED := E2.out.grew (Fr.refl _ _).drew
  obtain ⟨x0, x1, x2, x3⟩ := HC.out _ _ _ _ E2.out
  obtain ⟨y0, y1, y2, y3⟩ := HC.out _ _ _ _ ED
  have HR : Hid (Calls _ _ _ _ _) := HH.run _ _ ED
  clear ED
  go_region_held3 (fun w' => w'.cell? ⟨bv, 0, none⟩ = some (.func (.func 32) #[] #[.pointer (some ⟨bs, 0, none⟩), .pointer (some ⟨bv, 0, none⟩), .pointer (some ⟨bt, 0, none⟩), .pointer (some ⟨bl, 0, none⟩)]) ∧ w'.cell? ⟨bt, 0, none⟩ = some (.pointer (some ⟨T.b, 0, none⟩)) ∧ w'.cell? ⟨T.b, 2, none⟩ = some (.slice (some ⟨g, 0, none⟩) R.length cap) ∧ w'.cell? ⟨g, f * 5 + 2, none⟩ = some (.int .i64 (r.high : Int))) (first | (refine ⟨?_, ?_, ?_, ?_⟩ <;> assumption) | go_keep)
    ((go_at_call 32; refine HR.out.mono ?_; rintro e W3 ⟨rfl, ⟨sl3, hE3⟩, hF3⟩; have E3 : Hid (VE T W3 lo2 lo3 bs bv bt bl mm g cap fresh R M Fo fr L2 sl3 k2) := hE3; have F3 : Hid (Fr (· < lo2) w W3) := (F2.out.drew).trans hF3; obtain ⟨z0, z1, z2, z3⟩ := HC.out _ _ _ _ hE3; clear hE3 hF3))
  clear x0 x1 x2 x3 y0 y1 y2 y3 z0 z1 z2 z3 HC HR E2 F2
  obtain ⟨xs, hxs⟩ := E3.out.own
  obtain ⟨la, lc, hls⟩ : ∃ la lc, sl3 = .slice la k2 lc := by
    rcases hxs.2 with ⟨e, hn⟩ | ⟨g', cap', cur, e, _⟩
    · exact ⟨none, 0, by rw [e, hn]⟩
    · exact ⟨_, _, e⟩
  subst hls
  obtain ⟨i0, hi0, hz0, hz1, hz2⟩ := info29
  have hbs := E3.out.h9
  have HOA : Hid ((W3.alloc (.cells #[.int .i64 (f : Int)] 29)).ownsRow lo3 29 1 (.slice la k2 lc) k2 xs) := hxs.alloc _
  have c0 := block_cell E3.out.l 0
  clear hxs
  go_wp2_with (at_builtin; refine wpList_append_lies _ rfl _ _ 49 rfl lo3 29 i0 _ 1 8 Tryd.underlying49 hi0 hz0 hz1 hz2 rfl (by decide) (.slice la k2 lc) _ _ rfl HOA.out ⟨W3.heap.size, 0, none⟩ 1 1 [.int .i64 (f : Int)] rfl rfl ?q1 ?q2 (by decide) ?q3 ?q4 ?q5 (W3.heap.size + 1) ?q6 ?_)
  case q1 => exact World.news_of_block (heap_new rfl)
  case q2 =>
    intro u hu
    simp only [List.mem_cons, List.not_mem_nil, or_false] at hu
    rcases hu with rfl; rfl
  case q3 => unfold maxLen; omega
  case q4 => omega
  case q5 => simp; omega
  case q6 => simp
  intro g' cap' w1 ho hg hat hlt
  obtain ⟨n1, n2, n3⟩ := E3.out.push ((Fr.refl _ W3).alloc _) ho hg
  have X4 : Hid (VE _ _ _ _ _ _ _ _ _ _ _ _ _ _ _ _ _ _ _) := n2
  have F4 : Hid (Fr (· < lo2) w _) := F3.out.trans n3
  have q0 := block_cell n1 0
  have q1 := frozen_block n1 0
  clear n1 n2 n3 ho hg hat hlt HOA c0 E3 F3
  go_wp2_with fail
  go_end0
  exact ⟨rfl, ⟨_, X4.out⟩, F4.out⟩

end Go.Proofs.YtkbomifmijafgaaDoor.Sx
