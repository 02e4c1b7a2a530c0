/- Counting: what a node comes to, from its parts. -/
import Derived.Test.YtkbomifmijafgaaDoorT7
import Derived.Carry
import Derived.Deep.RegionHeld3
namespace Go.Proofs.YtkbomifmijafgaaDoor.Sx
open Go.RowKit Go.Sort Go.Maps Go.WideMaps

theorem zero3 (w : World) : (zeroValue 3).run Tryd.prog w = .ok (.int .i64 0) w := by kernel_rfl
theorem key29n {x : Nat} (h : x ≤ 1000) : Key 29 (.int .i64 (x : Int)) := key29 ⟨by omega, by omega⟩
theorem store_one {v : Value} (h : v.oneCell' = true) (a : Addr) (m : Mode) (w : World) : Sem.run Tryd.prog (store a v m) w = stored Tryd.prog w a v m := run_store _ w a _ m h

/-- a map is none of a table's blocks, if it is none of its maps -/
theorem TabG.beside {T : TL} {w w' : World} {g cap : Nat} {fresh : Value} {R : List Rw} {M Fo : List (Value × Value)} {fr : List Nat} (h : TabG T w g cap fresh R M Fo fr) {k : TypeId} {mm : Nat} {L : List (Value × Value)} (hm : MapIs k w mm L) (d1 : mm ≠ T.mb) (d2 : mm ≠ T.fb) (d3 : mm ≠ T.lb) (f : Fr (· ≠ mm) w w') : TabG T w' g cap fresh R M Fo fr := by
  obtain ⟨es, c, hb, _⟩ := hm
  refine h.of f ?_ (Ne.symm d3) (Ne.symm d1) (Ne.symm d2) ?_ ?_
  · rintro rfl
    have := h.blk
    unfold TBlk at this
    rw [hb] at this; cases this
  · rintro rfl
    obtain ⟨cur, q⟩ := h.rows.ty
    rw [hb] at q; cases q
  · rintro k2 e rfl
    rcases h.frs.2 with ⟨e2, _⟩ | ⟨gg, cc, cur, e2, _, e3, _⟩
    · rw [e2] at e; simp [Value.ownBlock] at e
    · rw [e2] at e
      obtain rfl : gg = k2 := by simpa [Value.ownBlock] using e
      rw [hb] at e3; cases e3
theorem cells_beside {w w' : World} {k : TypeId} {mm b : Nat} {L : List (Value × Value)} (hm : MapIs k w mm L) (f : Fr (· ≠ mm) w w') {vs : Array Value} {t : TypeId} {z : Nat × Nat} (h : w.heap[b]? = some (.cells vs t z)) : w'.heap[b]? = some (.cells vs t z) := by
  obtain ⟨es, c, hb, _⟩ := hm
  refine (f.block b (block_lt h) ?_).trans h
  rintro rfl
  rw [hb] at h; cases h

/-- what a count under way stands on -/
structure FE (T : TL) (w : World) (bm bt bj bo mm g cap : Nat) (fresh : Value) (R : List Rw) (M Fo : List (Value × Value)) (fr : List Nat) (L : List (Value × Value)) : Prop where
  tb : TabG T w g cap fresh R M Fo fr
  m : w.heap[bm]? = some (.cells #[.map (some mm)] 66 (0, 0))
  t : w.heap[bt]? = some (.cells #[.pointer (some ⟨T.b, 0, none⟩)] 23 (0, 0))
  j : w.heap[bj]? = some (.cells #[.func (.func 22) #[] #[]] 56 (0, 0))
  o : w.heap[bo]? = some (.cells #[.func (.func 31) #[] #[.pointer (some ⟨bm, 0, none⟩), .pointer (some ⟨bt, 0, none⟩), .pointer (some ⟨bj, 0, none⟩), .pointer (some ⟨bo, 0, none⟩)]] 33 (0, 0))
  map : MapIs 29 w mm L
  d1 : mm ≠ T.mb
  d2 : mm ≠ T.fb
  d3 : mm ≠ T.lb

section
variable {T : TL} {w w' : World} {bm bt bj bo mm g cap : Nat} {fresh : Value} {R : List Rw} {M Fo : List (Value × Value)} {fr : List Nat} {L L' : List (Value × Value)}
theorem FE.of (h : FE T w bm bt bj bo mm g cap fresh R M Fo fr L) (f : Fr (· ≠ mm) w w') (hm : MapIs 29 w' mm L') : FE T w' bm bt bj bo mm g cap fresh R M Fo fr L' :=
  ⟨h.tb.beside h.map h.d1 h.d2 h.d3 f, cells_beside h.map f h.m, cells_beside h.map f h.t, cells_beside h.map f h.j, cells_beside h.map f h.o, hm, h.d1, h.d2, h.d3⟩
theorem FE.grew (h : FE T w bm bt bj bo mm g cap fresh R M Fo fr L) (f : Fr (fun _ => True) w w') : FE T w' bm bt bj bo mm g cap fresh R M Fo fr L := h.of (f.mono fun _ _ => trivial) (h.map.of f trivial)
end

set_option maxRecDepth 100000 in
set_option maxHeartbeats 1000000 in
theorem join_any (w : World) (a : Int) (x y : Nat) (hx : x ≤ 100000000) (hy : y ≤ 100000000) :
    Calls Tryd.prog 22 #[.int .i64 a, .int .i64 (x : Int), .int .i64 (y : Int)] w fun e w' => e = .returned (.int .i64 ((x + y) / 2 : Nat)) ∧ w' = w := by
  have mo := follows
  have e : (((x + y) / 2 : Nat) : Int) = ((x : Int) + (y : Int)).tdiv 2 := by
    rw [← Int.natCast_add]
    exact (Int.ofNat_tdiv (x + y) 2).symm
  go_enter Tryd.func22, Tryd.ntmps22
  go_wp2_with fail
  go_ret
  exact ⟨by rw [e]; rfl, rfl⟩

set_option maxRecDepth 100000 in
set_option maxHeartbeats 1000000 in
theorem of_hit (T : TL) (w : World) (bm bt bj bo mm g cap : Nat) (fresh : Value) (R : List Rw) (M Fo : List (Value × Value)) (fr : List Nat) (L : List (Value × Value)) (h : FE T w bm bt bj bo mm g cap fresh R M Fo fr L) (f v : Nat) (hf : f ≤ 1000) (hm : (Value.int .i64 (f : Int), Value.int .i64 (v : Int)) ∈ L) (hu : ∀ p ∈ L, p.1 = .int .i64 (f : Int) → p.2 = .int .i64 (v : Int)) :
    Calls Tryd.prog 31 #[.int .i64 (f : Int), .pointer (some ⟨bm, 0, none⟩), .pointer (some ⟨bt, 0, none⟩), .pointer (some ⟨bj, 0, none⟩), .pointer (some ⟨bo, 0, none⟩)] w fun e w' => e = .returned (.int .i64 (v : Int)) ∧ w' = w := by
  have mo := follows
  have m0 := block_cell h.m 0
  have l1 := h.map.hit law29 Tryd.underlying66 (key29n hf) hm hu
  clear h
  go_enter Tryd.func31, Tryd.ntmps31
  go_wp2_with fail
  go_ret
  exact ⟨rfl, rfl⟩

/-- the call of a count for a node -/
structure OfC (T : TL) (bm bt bj bo mm g cap : Nat) (fresh : Value) (R : List Rw) (M Fo : List (Value × Value)) (fr : List Nat) (f v : Nat) (L L' : List (Value × Value)) : Prop where
  run : ∀ W : World, FE T W bm bt bj bo mm g cap fresh R M Fo fr L → Calls Tryd.prog 31 #[.int .i64 (f : Int), .pointer (some ⟨bm, 0, none⟩), .pointer (some ⟨bt, 0, none⟩), .pointer (some ⟨bj, 0, none⟩), .pointer (some ⟨bo, 0, none⟩)] W fun e w' => e = .returned (.int .i64 (v : Int)) ∧ MapIs 29 w' mm L' ∧ Fr (· ≠ mm) W w'

/-- a block of what is asked -/
structure AB (w : World) (b : Nat) (x : Int) (l h : Nat) : Prop where
  b : w.heap[b]? = some (.cells #[.int .i64 x, .int .i64 (l : Int), .int .i64 (h : Int)] 44 (0, 0))

set_option maxRecDepth 100000 in
set_option maxHeartbeats 2000000 in
theorem of_miss {T : TL} {bm bt bj bo mm g cap : Nat} {fresh : Value} {R : List Rw} {M Fo : List (Value × Value)} {fr : List Nat} {L L1 L2 : List (Value × Value)} {f vl vh : Nat} {r : Rw} (hr : R[f]? = some r) (hf : f ≤ 1000) (hu : ∀ p ∈ L, p.1 ≠ .int .i64 (f : Int)) (hu2 : ∀ p ∈ L2, p.1 ≠ .int .i64 (f : Int)) (hvl : vl ≤ 100000000) (hvh : vh ≤ 100000000)
    (HL : OfC T bm bt bj bo mm g cap fresh R M Fo fr r.low vl L L1) (HH : OfC T bm bt bj bo mm g cap fresh R M Fo fr r.high vh L1 L2) : OfC T bm bt bj bo mm g cap fresh R M Fo fr f ((vl + vh) / 2) L (L2 ++ [(.int .i64 (f : Int), .int .i64 (((vl + vh) / 2 : Nat) : Int))]) := by
  obtain ⟨vv, hvv⟩ : ∃ vv, (vl + vh) / 2 = vv := ⟨_, rfl⟩
  have HJ : ∀ (W : World) (a : Int), Calls Tryd.prog 22 #[.int .i64 a, .int .i64 (vl : Int), .int .i64 (vh : Int)] W fun e w' => e = .returned (.int .i64 (vv : Int)) ∧ w' = W := fun W a => by rw [← hvv]; exact join_any W a vl vh hvl hvh
  rw [hvv]
  refine ⟨fun w h => ?_⟩
  have mo := follows
  have HE : Hid (FE T (w.alloc (.cells #[.int .i64 r.about, .int .i64 (r.low : Int), .int .i64 (r.high : Int)] 44)) bm bt bj bo mm g cap fresh R M Fo fr L) := h.grew ((Fr.refl _ w).alloc _)
  have HF : Hid (Fr (fun _ => True) w (w.alloc (.cells #[.int .i64 r.about, .int .i64 (r.low : Int), .int .i64 (r.high : Int)] 44))) := (Fr.refl _ w).alloc _
  have HB : Hid ((w.alloc (.cells #[.int .i64 r.about, .int .i64 (r.low : Int), .int .i64 (r.high : Int)] 44)).heap[w.heap.size]? = some (.cells #[.int .i64 r.about, .int .i64 (r.low : Int), .int .i64 (r.high : Int)] 44 (0, 0))) := heap_new rfl
  have m0 := block_cell h.m 0
  have t0 := block_cell h.t 0
  have b2 := block_cell h.tb.blk 2
  have hfl := h.tb.rows.lt' hr
  have hf0 : (0 : Int) ≤ (f : Int) := by omega
  have c0 := h.tb.rows.c0 hr
  have c1 := h.tb.rows.c1 hr
  have c2 := h.tb.rows.c2 hr
  have l1 := h.map.miss law29 Tryd.underlying66 (zero3 w) (key29n hf) hu
  clear h
  go_enter Tryd.func31, Tryd.ntmps31
  go_wp2_with fail
  clear m0 t0 b2 c0 c1 c2 l1
  have E0 := HE.out.grew (Fr.refl _ _).drew
  have A0 : AB _ _ r.about r.low r.high := ⟨HB.out⟩
  have F0 := (HF.out.drew).mono (Q := (· ≠ mm)) fun _ _ => trivial
  generalize (w.alloc (.cells #[.int .i64 r.about, .int .i64 (r.low : Int), .int .i64 (r.high : Int)] 44)) = W at E0 A0 F0 ⊢
  clear HE HF HB
  generalize w.heap.size = ba at A0 ⊢
  have A0d : AB W.drew ba r.about r.low r.high := ⟨A0.b⟩
  clear hr A0 hfl hf0
  generalize r.low = rl at HL A0d ⊢
  generalize r.high = rh at HH A0d ⊢
  generalize r.about = ra at A0d ⊢
  have x0 := block_cell E0.j 0
  have x1 := block_cell E0.o 0
  have x2 := block_cell A0d.b 0
  have x3 := block_cell A0d.b 1
  have x4 := block_cell A0d.b 2
  go_wp2_with fail
  go_region_held3 (fun w' => w'.cell? ⟨bj, 0, none⟩ = some (.func (.func 22) #[] #[]) ∧ w'.cell? ⟨bo, 0, none⟩ = some (.func (.func 31) #[] #[.pointer (some ⟨bm, 0, none⟩), .pointer (some ⟨bt, 0, none⟩), .pointer (some ⟨bj, 0, none⟩), .pointer (some ⟨bo, 0, none⟩)]) ∧ w'.cell? ⟨ba, 0, none⟩ = some (.int .i64 ra) ∧ w'.cell? ⟨ba, 1, none⟩ = some (.int .i64 (rl : Int)) ∧ w'.cell? ⟨ba, 2, none⟩ = some (.int .i64 (rh : Int))) (first | (refine ⟨?_, ?_, ?_, ?_, ?_⟩ <;> assumption) | go_keep)
    ((first | (go_at_call 31; refine (OfC.run (by assumption) _ (by assumption)).mono ?_; rintro e W5 ⟨rfl, hm5, hf5⟩; have E5 := FE.of (by assumption) hf5 hm5; have A5 : AB W5 ba ra rl rh := ⟨cells_beside (FE.map (by assumption)) hf5 (AB.b (by assumption))⟩; have F5 := Fr.trans (by assumption) hf5; have z0 := block_cell E5.j 0; have z1 := block_cell E5.o 0; have z2 := block_cell A5.b 0; have z3 := block_cell A5.b 1; have z4 := block_cell A5.b 2; clear hf5 hm5) | (go_at_call 22; refine (HJ _ _).mono ?_; rintro e w' ⟨rfl, hw⟩; replace hw := hw.symm; subst hw)))
  have HX : Hid (FE T W5 bm bt bj bo mm g cap fresh R M Fo fr L2) := E5
  have HF : Hid (Fr (· ≠ mm) w W5) := F5
  obtain ⟨W6, p6, M6, f6⟩ := HX.out.map.put law29 Tryd.underlying66 (key29n hf) hu2 (.int .i64 (vv : Int))
  have HM : Hid (MapIs 29 W6 mm _) := M6
  have F6 : Hid (Fr (· ≠ mm) w W6) := HF.out.trans f6
  have m0 := block_cell HX.out.m 0
  clear E0 A0d F0 x0 x1 x2 x3 x4 z0 z1 z2 z3 z4 A5 HJ HL HH M6 f6 E5 F5
  go_wp2_with fail
  go_ret
  exact ⟨rfl, HM.out, F6.out⟩

end Go.Proofs.YtkbomifmijafgaaDoor.Sx
