/- The size of a function. -/
import Derived.Test.YtkbomifmijafgaaDoorT16
namespace Go.Proofs.YtkbomifmijafgaaDoor.Sx
open Go.RowKit Go.Sort Go.Maps Go.WideMaps

def ends2 : List (Value × Value) := [(.int .i64 0, .agg #[]), (.int .i64 1, .agg #[])]

set_option maxRecDepth 100000 in
set_option maxHeartbeats 1000000 in
theorem diagram_any (T : TL) (w : World) (R : List Rw) (M Fo : List (Value × Value)) (fr : List Nat) (h : Tab T w R M Fo fr) (f bf k : Nat) (hb : w.heap[bf]? = some (.cells #[.int .i64 (f : Int)] 29 (0, 0))) (r : Rw) (hr : R[f]? = some r) (hn : r.about ≠ -1) (L' : List (Value × Value)) (HO : ∀ lo2 lo3 bs bv bt bl mm g cap fresh, VisC T lo2 lo3 bs bv bt bl mm g cap fresh R M Fo fr f ends2 L' 0 k) :
    Calls Tryd.prog 23 #[.pointer (some ⟨T.b, 0, none⟩), .slice (some ⟨bf, 0, none⟩) 1 1] w fun e w' => (∃ la lc, e = .returned (.slice la k lc)) ∧ Fr (fun _ => True) w w' := by
  have mo := follows
  obtain ⟨g, cap, fresh, hG⟩ := h
  obtain ⟨W0, hW0⟩ : ∃ W0, ((w.alloc (.cells #[.pointer (some ⟨T.b, 0, none⟩)] 23)).alloc (.cells #[.slice none 0 0] 49)) = W0 := ⟨_, rfl⟩
  have fW : Fr (fun _ => True) w W0 := by rw [← hW0]; exact ((Fr.refl _ w).alloc _).alloc _
  have t0 : W0.heap[w.heap.size]? = some (.cells #[.pointer (some ⟨T.b, 0, none⟩)] 23 (0, 0)) := by
    rw [← hW0]; exact (((Fr.refl (fun _ => True) _).alloc _).block _ (by simp) trivial).trans (heap_new rfl)
  have j0 : W0.heap[w.heap.size + 1]? = some (.cells #[.slice none 0 0] 49 (0, 0)) := by
    rw [← hW0]; exact heap_new (by simp)
  have m1 : (Instr.makeMap 69 none).run Tryd.prog W0 = .ok (.map (some W0.heap.size)) (W0.alloc (.map #[] 0)) := run_makeMap _ _
  have hz : W0.heap.size = w.heap.size + 2 := by rw [← hW0]; simp
  rw [hz] at m1
  have M1 : MapIs 29 (W0.alloc (.map #[] 0)) (w.heap.size + 2) [] := hz ▸ MapIs.new 29 W0
  obtain ⟨W1, p1, M2, f1⟩ := M1.put law29 Tryd.underlying69 (x := .int .i64 0) (key29n (x := 0) (by omega)) (by simp) (.agg #[])
  obtain ⟨W2, p2, M3, f2⟩ := M2.put law29 Tryd.underlying69 (x := .int .i64 1) (key29n (x := 1) (by omega)) (by simp) (.agg #[])
  have f02 : Fr (· ≠ w.heap.size + 2) W0 W2 := ((Fr.refl _ W0).alloc _).trans (f1.trans f2)
  have g2 : TabG T W2 g cap fresh R M Fo fr := by
    have hg0 := hG.grew fW
    have hg1 := hg0.grew ((Fr.refl (fun _ => True) W0).alloc (.map #[] 0))
    have k := hG.ok.hi
    have k1 := hG.ok.mb
    have k2 := hG.ok.fb
    have k3 := hG.ok.lb
    exact (hg1.beside M1 (by omega) (by omega) (by omega) f1).beside M2 (by omega) (by omega) (by omega) f2
  have t2 : W2.heap[w.heap.size]? = some (.cells #[.pointer (some ⟨T.b, 0, none⟩)] 23 (0, 0)) := (f02.block _ (block_lt t0) (by omega)).trans t0
  have j2 : W2.heap[w.heap.size + 1]? = some (.cells #[.slice none 0 0] 49 (0, 0)) := (f02.block _ (block_lt j0) (by omega)).trans j0
  have hbl := block_lt hb
  have b2 : W2.heap[bf]? = some (.cells #[.int .i64 (f : Int)] 29 (0, 0)) := by
    have q := (fW.block bf hbl trivial).trans hb
    exact (f02.block _ (block_lt q) (by omega)).trans q
  have hs2 := f02.size
  have hm2 := M3.lt
  have HM3 : Hid (MapIs 29 W2 (w.heap.size + 2) ends2) := M3
  have HG2 : Hid (TabG T W2 g cap fresh R M Fo fr) := g2
  have HT2 : Hid (_ = _) := t2
  have HJ2 : Hid (_ = _) := j2
  have HB2 : Hid (_ = _) := b2
  have HFW : Hid (Fr (fun _ => True) w W0) := fW
  have HF02 : Hid (Fr (· ≠ w.heap.size + 2) W0 W2) := f02
  have hlow : T.mb < w.heap.size ∧ T.fb < w.heap.size ∧ T.lb < w.heap.size := ⟨Nat.lt_of_lt_of_le hG.ok.mb hG.ok.hi, Nat.lt_of_lt_of_le hG.ok.fb hG.ok.hi, Nat.lt_of_lt_of_le hG.ok.lb hG.ok.hi⟩
  have hhi := hG.ok.hi
  have hgl := hG.rows.lt
  have hfl : ∀ q, fresh.ownBlock = some q → q < w.heap.size := fun q e => (hG.frs.lt q e).2
  have HOO : Hid (∀ lo2 lo3 bs bv bt bl mm g cap fresh, VisC T lo2 lo3 bs bv bt bl mm g cap fresh R M Fo fr f ends2 L' 0 k) := HO
  have st := fun (W : World) (m : Mode) => store_one (v := (.func (.func 32) #[] #[.pointer (some ⟨W2.heap.size, 0, none⟩), .pointer (some ⟨W2.heap.size + 1, 0, none⟩), .pointer (some ⟨w.heap.size, 0, none⟩), .pointer (some ⟨w.heap.size + 1, 0, none⟩)])) rfl ⟨W2.heap.size + 1, 0, none⟩ m W
  clear M1 M2 M3 f1 f2 g2 t2 j2 b2 fW f02 t0 j0 hG HO hb
  go_enter Tryd.func23, Tryd.ntmps23
  go_wp2_with fail
  clear m1 p1 p2 st
  obtain ⟨W4, hW4⟩ : ∃ W4, ((W2.alloc (.cells #[.map (some (w.heap.size + 2))] 69)).alloc (.cells #[(.func (.func 32) #[] #[.pointer (some ⟨W2.heap.size, 0, none⟩), .pointer (some ⟨W2.heap.size + 1, 0, none⟩), .pointer (some ⟨w.heap.size, 0, none⟩), .pointer (some ⟨w.heap.size + 1, 0, none⟩)])] 58)) = W4 := ⟨_, rfl⟩
  have f24 : Fr (fun _ => True) W2 W4 := by rw [← hW4]; exact ((Fr.refl _ _).alloc _).alloc _
  have hz4 : W4.heap.size = W2.heap.size + 2 := by rw [← hW4]; simp
  have m4 : W4.heap[W2.heap.size]? = some (.cells #[.map (some (w.heap.size + 2))] 69 (0, 0)) := by
    rw [← hW4]; exact (((Fr.refl (fun _ => True) _).alloc _).block _ (by simp) trivial).trans (heap_new rfl)
  have o4 : W4.heap[W2.heap.size + 1]? = some (.cells #[(.func (.func 32) #[] #[.pointer (some ⟨W2.heap.size, 0, none⟩), .pointer (some ⟨W2.heap.size + 1, 0, none⟩), .pointer (some ⟨w.heap.size, 0, none⟩), .pointer (some ⟨w.heap.size + 1, 0, none⟩)])] 58 (0, 0)) := by
    rw [← hW4]; exact heap_new (by simp)
  have hE : VE T W4 w.heap.size W4.heap.size W2.heap.size (W2.heap.size + 1) w.heap.size (w.heap.size + 1) (w.heap.size + 2) g cap fresh R M Fo fr ends2 (.slice none 0 0) 0 :=
    { tb := HG2.out.grew f24, s := m4, v := o4, t := (f24.block _ (block_lt HT2.out) trivial).trans HT2.out, l := (f24.block _ (block_lt HJ2.out) trivial).trans HJ2.out, map := HM3.out.of f24 trivial, own := ⟨_, World.ownsRow_nil _ _ _ _⟩,
      d1 := by omega, d2 := by omega, d3 := by omega, d4 := by omega, h1 := by omega, h2 := by omega, h3 := by omega, h4 := by omega, h5 := by omega, h6 := by omega, h7 := by omega, h8 := fun q e => by have := hfl q e; omega, h9 := Nat.le_refl _, k1 := by omega, k2 := by omega, k3 := by omega }
  have B4 : Hid (W4.heap[bf]? = some (.cells #[.int .i64 (f : Int)] 29 (0, 0))) := (f24.block _ (block_lt HB2.out) trivial).trans HB2.out
  have F4 : Hid (Fr (· < w.heap.size) w W4) := by
    have q := HF02.out.trans (f24.mono fun _ _ => trivial)
    refine ⟨q.os.trans HFW.out.os, q.tape.trans HFW.out.tape, q.output.trans HFW.out.output, Nat.le_trans HFW.out.size q.size, fun x hk _ => ?_⟩
    exact (q.block x (by omega) (by omega)).trans (HFW.out.block x hk trivial)
  have HE : Hid (VE T W4 w.heap.size W4.heap.size W2.heap.size (W2.heap.size + 1) w.heap.size (w.heap.size + 1) (w.heap.size + 2) g cap fresh R M Fo fr ends2 (.slice none 0 0) 0) := hE
  have HV := HOO.out w.heap.size W4.heap.size W2.heap.size (W2.heap.size + 1) w.heap.size (w.heap.size + 1) (w.heap.size + 2) g cap fresh
  rw [hW4]
  have n0 : w.heap.size ≤ w.heap.size := Nat.le_refl _
  clear hE m4 o4 f24 hW4 hW0 hz HOO HF02 HFW HB2 HJ2 HT2 HG2 HM3 hs2 hm2 hlow hhi hgl hfl hbl hz4
  generalize W4.heap.size = lo3 at HE HV
  generalize W2.heap.size + 1 = bv at HE HV ⊢
  generalize W2.heap.size = bs at HE HV ⊢
  generalize w.heap.size + 2 = mm at HE HV ⊢
  generalize w.heap.size + 1 = bl at HE HV ⊢
  obtain ⟨bt, hbt⟩ : ∃ bt, w.heap.size = bt := ⟨_, rfl⟩
  rw [hbt] at HE HV F4 ⊢
  go_loopg [17] (1) (fun q s17 wr => (q = 1 ∧ s17 = .int .i64 0 ∧ wr = W4) ∨ (q = 0 ∧ s17 = .int .i64 1 ∧ ∃ sl, Hid (VE T wr bt lo3 bs bv bt bl mm g cap fresh R M Fo fr L' sl k) ∧ Hid (Fr (· < bt) w wr)))
  case atStart => exact .inl ⟨rfl, rfl, rfl⟩
  case round =>
    rcases hrel with ⟨rfl, rfl, rfl⟩ | ⟨rfl, rfl, sl, X, F⟩
    · have ED := HE.out.grew (Fr.refl _ _).drew
      have x0 := block_cell HE.out.v 0
      have x1 := block_cell HE.out.t 0
      have y0 := block_cell ED.v 0
      have y1 := block_cell ED.t 0
      have e0 := block_cell B4.out 0
      have HK : Hid (Calls _ _ _ _ _) := known_any T wr.drew R M Fo fr ⟨_, _, _, ED.tb⟩ f r hr hn
      have HR : Hid (Calls _ _ _ _ _) := HV.run _ _ ED
      clear ED
      go_wp2_with fail
      go_region_held3 (fun w' => w'.cell? ⟨bv, 0, none⟩ = some (.func (.func 32) #[] #[.pointer (some ⟨bs, 0, none⟩), .pointer (some ⟨bv, 0, none⟩), .pointer (some ⟨bt, 0, none⟩), .pointer (some ⟨bl, 0, none⟩)]) ∧ w'.cell? ⟨bt, 0, none⟩ = some (.pointer (some ⟨T.b, 0, none⟩))) (first | (refine ⟨?_, ?_⟩ <;> assumption) | go_keep)
        ((first | (go_at_call 19; refine HK.out.mono ?_; rintro e w' ⟨rfl, hw⟩; replace hw := hw.symm; subst hw) | (go_at_call 32; refine HR.out.mono ?_; rintro e W5 ⟨rfl, ⟨sl5, hE5⟩, hF5⟩; have E5 : Hid (VE T W5 bt lo3 bs bv bt bl mm g cap fresh R M Fo fr L' sl5 k) := hE5; have F5 : Hid (Fr (· < bt) w W5) := (F4.out.drew).trans hF5; have z0 := block_cell hE5.v 0; have z1 := block_cell hE5.t 0; clear hE5 hF5)))
      clear x0 x1 y0 y1 z0 z1 e0 HK HR
      go_wp2_with fail
      go_roundg 0
      case measure => omega
      case rel => exact .inr ⟨rfl, rfl, _, E5, F5⟩
    · obtain ⟨xs, hxs⟩ := X.out.own
      obtain ⟨la, lc, hls⟩ : ∃ la lc, sl = .slice la k lc := by
        rcases hxs.2 with ⟨e, hn⟩ | ⟨g', cap', cur, e, _⟩
        · exact ⟨none, 0, by rw [e, hn]⟩
        · exact ⟨_, _, e⟩
      subst hls
      have c0 := block_cell X.out.l 0
      have F6 : Hid (Fr (fun _ => True) w wr) := ⟨F.out.os, F.out.tape, F.out.output, F.out.size, fun q hq _ => F.out.block q hq (by omega)⟩
      clear hxs
      go_wp2_with fail
      go_ret
      exact ⟨⟨_, _, rfl⟩, F6.out⟩

set_option maxRecDepth 100000 in
set_option maxHeartbeats 1000000 in
theorem Size_any (T : TL) (w : World) (R : List Rw) (M Fo : List (Value × Value)) (fr : List Nat) (h : Tab T w R M Fo fr) (f bf k : Nat) (hb : w.heap[bf]? = some (.cells #[.int .i64 (f : Int)] 29 (0, 0))) (r : Rw) (hr : R[f]? = some r) (hn : r.about ≠ -1) (L' : List (Value × Value)) (HO : ∀ lo2 lo3 bs bv bt bl mm g cap fresh, VisC T lo2 lo3 bs bv bt bl mm g cap fresh R M Fo fr f ends2 L' 0 k) :
    Calls Tryd.prog 12 #[.pointer (some ⟨T.b, 0, none⟩), .slice (some ⟨bf, 0, none⟩) 1 1] w fun e w' => e = .returned (.int .i64 (k : Int)) ∧ Fr (fun _ => True) w w' := by
  have HD : Hid (Calls _ _ _ _ _) := diagram_any T w R M Fo fr h f bf k hb r hr hn L' HO
  have mo := follows
  clear h HO hb
  go_enter Tryd.func12, Tryd.ntmps12
  go_wp2_with (go_at_call 23; refine HD.out.mono ?_; rintro e W5 ⟨⟨la, lc, rfl⟩, hF5⟩)
  go_ret
  exact ⟨rfl, hF5⟩

end Go.Proofs.YtkbomifmijafgaaDoor.Sx
