/- The reference: sequences. -/
import Derived.Test.YtbogejmmkohbkaaGreatDoorGRK
import Derived.Deep.RegionLaw
namespace Go.Proofs.YtbogejmmkohbkaaGreatDoor.Sx
open Go.RowKit Go.Sort

def numH (i : Int) : H5 := ⟨.int .i64 2, .int .i64 i, .string ⟨#[]⟩, .slice none 0 0, .slice none 0 0, rfl, rfl, rfl, rfl, rfl⟩
theorem flat5_one (d : List H5) (x : H5) : flat5 d ++ [x.c0, x.c1, x.c2, x.c3, x.c4] = flat5 (d ++ [x]) := by rw [flat5_app]; simp [flat5, H5.l]
theorem Are.snoc {P : Nat → Prop} {w : World} {n : Nat} {es : List (AV n)} {hs : List H5} {x : AV n} {u : H5} (h : Are P w n es hs) (hx : Ref P w n x u.v) : Are P w n (es ++ [x]) (hs ++ [u]) := by
  have q := h.put hx es.length (Nat.le_refl _)
  rw [List.take_length, List.drop_length] at q
  have hl := h.1
  have e1 : hs.take es.length = hs := by rw [← hl]; exact List.take_length
  have e2 : hs.drop es.length = [] := by rw [← hl]; exact List.drop_length
  rw [e1, e2] at q
  exact q
theorem H5.c_of {t : H5} {y0 y1 y2 y3 y4 : Value} (h : t.v = .agg #[y0, y1, y2, y3, y4]) : t.c0 = y0 ∧ t.c1 = y1 ∧ t.c2 = y2 ∧ t.c3 = y3 ∧ t.c4 = y4 := by
  simp only [H5.v, Value.agg.injEq, Array.mk.injEq, List.cons.injEq, and_true] at h
  exact h

set_option maxRecDepth 100000 in
set_option maxHeartbeats 4000000 in
theorem seqOf_ref (n : Nat) (P : Nat → Prop) (w : World) (a : Option Addr) (len cap : Nat) (vs : List (AV (n + 1))) (h : Row5 P w (Ref P w (n + 1)) a len vs) (hl : len ≤ 5000) (hW : ∀ x ∈ vs, wtR (n + 1) x = wt (n + 1) x ∧ wt (n + 1) x ≤ 1024) :
    Calls Tryz.prog 45 #[.slice a len cap] w (MadeR (n + 2) P w (mkF (wt (n + 1)) (seqKeys n vs.length) vs : Node (AV (n + 1)))) := by
  obtain ⟨e1, b1, r1⟩ := h
  have E1 : Hid (len = vs.length) := e1
  rw [← e1]
  clear e1
  have HW : Hid (∀ x ∈ vs, wtR (n + 1) x = wt (n + 1) x ∧ wt (n + 1) x ≤ 1024) := hW
  clear hW
  have mo := follows
  obtain ⟨i0, hi0, hz0, hz1, hz2⟩ := info_parts info5
  have T0 : Hid (Two w ((w.alloc (.cells #[.int .i64 0, .int .i64 0, .string ⟨#[]⟩, .slice none 0 0, .slice none 0 0] 30)).alloc (.cells #[.int .i64 6, .int .i64 0, .string ⟨#[]⟩, .slice none 0 0, .slice none 0 0] 30)) 6 (.slice none 0 0) (.slice none 0 0) [] []) :=
    ⟨owns5_nil _ _, owns5_nil _ _, fun g e => by simp [Value.ownBlock] at e, heap_new (by simp), Below.blockAt ((Grew.refl _).alloc _).below (heap_new rfl), Fr.grew (((Grew.refl w).alloc _).alloc _)⟩
  go_enter Tryz.func45, Tryz.ntmps45
  go_wp2_with fail
  generalize World.alloc (World.alloc _ _) _ = W0 at T0 ⊢
  go_loopw [4] (fun s wr => ∃ (k : Nat) (hk hv : List H5) (sk sv : Value), s = .int .i64 k ∧ k ≤ len ∧ Hid (Are P w (n + 1) ((seqKeys n len).take k) hk) ∧ Hid (Are P w (n + 1) (vs.take k) hv) ∧ Hid (Two w wr 6 sk sv hk hv)) (fun s _ => len - (intOf s).toNat)
  case atStart => exact ⟨0, [], [], _, _, rfl, Nat.zero_le _, ⟨rfl, fun i x h hx => by simp at hx⟩, ⟨rfl, fun i x h hx => by simp at hx⟩, T0⟩
  case round =>
    clear T0
    obtain ⟨k, hs, us, sk, sv, rfl, hk, HA, HU, HT⟩ := hrel
    have hls : hs.length = k := by rw [HA.out.1, List.length_take, seqKeys_len]; omega
    have hlu : us.length = k := by rw [HU.out.1, List.length_take, ← E1.out]; omega
    have zb := block_lt HT.out.box
    by_cases hlt : k < len
    · have hy : k < vs.length := by rw [← E1.out]; exact hlt
      have hey : vs[k]? = some vs[k] := List.getElem?_eq_getElem hy
      obtain ⟨p2, o2, rfl, hp2, hP2, hc2⟩ := r1.resolve_left (by omega)
      obtain ⟨v2, hv2, hr2⟩ := hc2 k vs[k] hey
      obtain ⟨t, rfl⟩ := hr2.ones
      obtain ⟨y0, y1, y2, y3, y4, et, _⟩ := hv2
      have HY : Hid (∀ W : World, Fr (fun _ => True) w W → W.cell? ⟨p2, o2 + k * 5, none⟩ = some y0 ∧ W.cell? ⟨p2, o2 + k * 5 + 1, none⟩ = some y1 ∧ W.cell? ⟨p2, o2 + k * 5 + 2, none⟩ = some y2 ∧ W.cell? ⟨p2, o2 + k * 5 + 3, none⟩ = some y3 ∧ W.cell? ⟨p2, o2 + k * 5 + 4, none⟩ = some y4 ∧ p2 < W.heap.size) := by
        intro W hW
        have q := (show Five w p2 (o2 + k * 5) t.v from ⟨y0, y1, y2, y3, y4, et, by assumption⟩).fr (hW.block p2 hp2 trivial)
        obtain ⟨z0, z1, z2, z3, z4, ez, q0, q1, q2, q3, q4⟩ := q
        rw [et] at ez
        simp only [Value.agg.injEq, Array.mk.injEq, List.cons.injEq, and_true] at ez
        obtain ⟨rfl, rfl, rfl, rfl, rfl⟩ := ez
        exact ⟨q0, q1, q2, q3, q4, Nat.lt_of_lt_of_le hp2 hW.size⟩
      have HNU : Hid (∀ W, _) := fun W => rnumber_mk ((k : Int) + 1) W
      have HAN : Hid (Are P w (n + 1) ((seqKeys n len).take (k + 1)) (hs ++ [numH ((k : Int) + 1)])) := by
        rw [List.take_add_one, seqKeys_at n len k hlt]
        exact HA.out.snoc (ref_int P w n ((k : Int) + 1))
      have HUN : Hid (Are P w (n + 1) (vs.take (k + 1)) (us ++ [t])) := by
        rw [List.take_add_one, hey]
        exact HU.out.snoc hr2
      obtain ⟨t0, t1, t2, t3, t4⟩ := H5.c_of et
      have o0 := t.o0
      have o1' := t.o1
      have o2' := t.o2
      have o3 := t.o3
      have o4 := t.o4
      rw [t0] at o0
      rw [t1] at o1'
      rw [t2] at o2'
      rw [t3] at o3
      rw [t4] at o4
      have HF1 : Hid (flat5 us ++ [y0, y1, y2, y3, y4] = flat5 (us ++ [t])) := by
        have q := flat5_one us t
        rw [t0, t1, t2, t3, t4] at q
        exact q
      clear hc2 hr2 hey r1 t0 t1 t2 t3 t4 HA HU
      go_wp2_with fail
      refine (HNU.out _).mono ?_
      rintro e w' ⟨rfl, hg⟩
      have T1 : Hid (Two w w' 6 sk sv hs us) := HT.out.grew hg
      clear hg HT HNU zb
      have zb := block_lt T1.out.box
      have c3 := block_cell T1.out.box 3
      have G2 : Grew w' ((w'.alloc (.cells #[.int .i64 2, .int .i64 ((k : Int) + 1), .string ⟨#[]⟩, .slice none 0 0, .slice none 0 0] 30)).alloc (.cells #[.int .i64 2, .int .i64 ((k : Int) + 1), .string ⟨#[]⟩, .slice none 0 0, .slice none 0 0] 30)) := ((Grew.refl w').alloc _).alloc _
      have T2 : Hid (Two w ((w'.alloc (.cells #[.int .i64 2, .int .i64 ((k : Int) + 1), .string ⟨#[]⟩, .slice none 0 0, .slice none 0 0] 30)).alloc (.cells #[.int .i64 2, .int .i64 ((k : Int) + 1), .string ⟨#[]⟩, .slice none 0 0, .slice none 0 0] 30)) 6 sk sv hs us) := T1.out.grew G2
      have hxn : ((w'.alloc (.cells #[.int .i64 2, .int .i64 ((k : Int) + 1), .string ⟨#[]⟩, .slice none 0 0, .slice none 0 0] 30)).alloc (.cells #[.int .i64 2, .int .i64 ((k : Int) + 1), .string ⟨#[]⟩, .slice none 0 0, .slice none 0 0] 30)).heap[w'.heap.size + 1]? = some (.cells #[.int .i64 2, .int .i64 ((k : Int) + 1), .string ⟨#[]⟩, .slice none 0 0, .slice none 0 0] 30 (0, 0)) := heap_new (by simp)
      have HXN : Hid (_ = _) := hxn
      clear hxn G2
      go_wp2_with (at_builtin; refine wpList_append_lies _ rfl (.tmp 17) (.tmp 19) 28 rfl (w.heap.size + 2) 30 i0 nilV5 5 80 Tryz.underlying28 hi0 hz0 hz1 hz2 rfl (by decide) sk hs.length (flat5 hs) rfl T2.out.o1 ⟨w'.heap.size + 1, 0, none⟩ 1 1 [.int .i64 2, .int .i64 ((k : Int) + 1), .string ⟨#[]⟩, .slice none 0 0, .slice none 0 0] rfl rfl (World.news_of_block HXN.out) ?q2 (by decide) ?q3 ?q4 ?q5 (w'.heap.size + 2) ?q6 ?_)
      case q2 =>
        intro q hq
        simp only [List.mem_cons, List.not_mem_nil, or_false] at hq
        rcases hq with rfl | rfl | rfl | rfl | rfl <;> rfl
      case q3 => unfold maxLen; omega
      case q4 => omega
      case q5 => simp; omega
      case q6 => simp
      intro g cap2 w4 ho hg hat hlt4
      obtain ⟨qb, qt⟩ := T2.out.put1 (L := k + 1) (cap := cap2) (hs := hs ++ [numH ((k : Int) + 1)]) (Own5.of (by rw [← flat5_one]; exact ho)).1 (by rw [List.length_append, hls]; rfl) ((Fr.refl _ _).grownBy hg (fun k' _ e hp => hp.2 e)) (hat.imp id (fun e => by simp; omega))
      have q5 := block_cell qb 3
      have q6 := frozen_block qb 3
      have zw := block_lt qb
      have TW : Hid (Two w _ 6 _ sv _ us) := qt
      clear ho hg hat hlt4 qb qt T2 T1 HXN zb c3
      go_wp2_with fail
      generalize w4.setCell ⟨w.heap.size + 1, 3, none⟩ (.slice (some ⟨g, 0, none⟩) (k + 1) cap2) = W2 at TW ⊢
      clear q5 q6 zw w4
      have zb := block_lt TW.out.box
      have c4 := block_cell TW.out.box 4
      have f4 := frozen_block TW.out.box 4
      obtain ⟨m0, m1, m2, m3, m4, zp⟩ := HY.out W2 TW.out.fr
      have T3 : Hid (Two w (W2.drew.alloc (.cells #[y0, y1, y2, y3, y4] 30)) 6 (.slice (some ⟨g, 0, none⟩) (k + 1) cap2) sv (hs ++ [numH ((k : Int) + 1)]) us) := TW.out.grew ((Grew.refl W2).drew.alloc _)
      have HXN : Hid ((W2.drew.alloc (.cells #[y0, y1, y2, y3, y4] 30)).heap[W2.heap.size]? = some (.cells #[y0, y1, y2, y3, y4] 30 (0, 0))) := heap_new rfl
      have st0 := store_one o0
      have st1 := store_one o1'
      have st2 := store_one o2'
      have st3 := store_one o3
      have st4 := store_one o4
      have c4d : W2.drew.cell? ⟨w.heap.size + 1, 4, none⟩ = some sv := c4
      have d0 : W2.drew.cell? ⟨p2, o2 + k * 5, none⟩ = some y0 := m0
      have d1 : W2.drew.cell? ⟨p2, o2 + k * 5 + 1, none⟩ = some y1 := m1
      have d2 : W2.drew.cell? ⟨p2, o2 + k * 5 + 2, none⟩ = some y2 := m2
      have d3 : W2.drew.cell? ⟨p2, o2 + k * 5 + 3, none⟩ = some y3 := m3
      have d4 : W2.drew.cell? ⟨p2, o2 + k * 5 + 4, none⟩ = some y4 := m4
      have hones : ∀ u ∈ [y0, y1, y2, y3, y4], Value.oneCell' u = true := by
        intro q hq
        simp only [List.mem_cons, List.not_mem_nil, or_false] at hq
        rcases hq with rfl | rfl | rfl | rfl | rfl <;> assumption
      have HON : Hid (∀ u ∈ [y0, y1, y2, y3, y4], Value.oneCell' u = true) := hones
      have hmx : us.length + 1 ≤ maxLen := by unfold maxLen; omega
      have hby : (us.length + 1) * 80 ≤ 140737488355328 := by omega
      have hbs : w.heap.size + 2 ≤ (W2.drew.alloc (.cells #[y0, y1, y2, y3, y4] 30)).heap.size := by simp; omega
      clear hones
      go_region_law (refine step_append_lies _ rfl (.tmp 23) (.tmp 28) 28 rfl (w.heap.size + 2) 30 i0 nilV5 5 80 Tryz.underlying28 hi0 hz0 hz1 hz2 rfl (by decide) sv us.length (flat5 us) (by simp [Act.eval]) T3.out.o2 ⟨W2.heap.size, 0, none⟩ 1 1 [y0, y1, y2, y3, y4] (by simp [Act.eval]) rfl (World.news_of_block HXN.out) HON.out (by decide) hmx hby hbs (W2.heap.size + 1) (by simp) ?_; intro g3 cap3 w5 ho hg hat hlt5; obtain ⟨qb, qt⟩ := T3.out.put2 (L := k + 1) (cap := cap3) (hs := us ++ [t]) (Own5.of (by rw [← HF1.out]; exact ho)).1 (by rw [List.length_append, hlu]; rfl) ((Fr.refl _ _).grownBy hg (fun k' _ e hp => hp.2 e)) (hat.imp id (fun e => by simp; omega)); have q5 := block_cell qb 4; have q6 := frozen_block qb 4; have zw := block_lt qb; have TZ : Hid (Two w _ 6 _ _ _ _) := qt; clear ho hg hat hlt5 qb qt)
      all_goals clear d0 d1 d2 d3 d4 c4d m0 m1 m2 m3 m4 c4 f4 q5 q6 T3 TW zw st0 st1 st2 st3 st4
      all_goals generalize w5.setCell ⟨w.heap.size + 1, 4, none⟩ (.slice (some ⟨g3, 0, none⟩) (k + 1) cap3) = W4 at TZ ⊢
      all_goals go_wp2_with fail
      all_goals go_roundw
      all_goals first | exact ⟨k + 1, _, _, _, _, by go_num, by omega, HAN, HUN, TZ⟩ | (simp [intOf]; omega)
    · have hke : k = len := by omega
      subst k
      have hA2 := HA.out
      have hU2 := HU.out
      rw [List.take_of_length_le (by rw [seqKeys_len]; omega)] at hA2
      rw [List.take_of_length_le (by rw [← E1.out]; omega)] at hU2
      have HA : Hid (Are P w (n + 1) (seqKeys n len) hs) := hA2
      have HU : Hid (Are P w (n + 1) vs us) := hU2
      clear hA2 hU2
      obtain ⟨sa, sn, sc, rfl, hrow⟩ := row_of_owns2 (Q := fun k => (k < w.heap.size ∧ P k) ∨ w.heap.size + 2 ≤ k) HT.out.o1 HA.out (by omega) (HT.out.fr.mono (fun _ _ => trivial)) (fun g hg => .inr hg) (fun k hk hp => .inl ⟨hk, hp⟩)
      obtain ⟨ta, tn, tc, rfl, hrow2⟩ := row_of_owns2 (Q := fun k => (k < w.heap.size ∧ P k) ∨ w.heap.size + 2 ≤ k) HT.out.o2 HU.out (by omega) (HT.out.fr.mono (fun _ _ => trivial)) (fun g hg => .inr hg) (fun k hk hp => .inl ⟨hk, hp⟩)
      have hmk : ∀ x ∈ seqKeys n len, wtR (n + 1) x = wt (n + 1) x ∧ wt (n + 1) x ≤ 1024 := fun x hx => ⟨wtR_eq (n + 1) x (seqKeys_fine n len (by omega) x hx).1, seqKeys_one n len x hx⟩
      have hmv := HW.out
      have hwk : wtL (wtR (n + 1)) (seqKeys n len) = wtL (wt (n + 1)) (seqKeys n len) := wtL_congr _ (fun x hx => (hmk x hx).1)
      have hwv : wtL (wtR (n + 1)) (vs) = wtL (wt (n + 1)) (vs) := wtL_congr _ (fun x hx => (hmv x hx).1)
      have hb1 : wtL (wt (n + 1)) (seqKeys n len) ≤ 1024 * (seqKeys n len).length := wtL_le (wt (n + 1)) _ (fun x hx => (hmk x hx).2)
      have hb2 : wtL (wt (n + 1)) (vs) ≤ 1024 * (vs).length := wtL_le (wt (n + 1)) _ (fun x hx => (hmv x hx).2)
      rw [seqKeys_len] at hb1
      have hvl := E1.out
      have hrf : Ref (fun k => (k < w.heap.size ∧ P k) ∨ w.heap.size + 2 ≤ k) wr (n + 2) (mkFn (seqKeys n len) (vs) : Node (AV (n + 1))) (.agg #[.int .i64 6, .int .i64 0, .string ⟨#[]⟩, .slice sa sn sc, .slice ta tn tc]) := ⟨⟨#[]⟩, sa, sn, sc, ta, tn, tc, rfl, rfl, hrow, hrow2⟩
      have hw2 : wtR (n + 2) (mkFn (seqKeys n len) (vs) : Node (AV (n + 1))) = 1 + wtL (wt (n + 1)) (seqKeys n len) + wtL (wt (n + 1)) (vs) := by show 1 + wtL (wtR (n + 1)) (seqKeys n len) + wtL (wtR (n + 1)) vs = _; rw [hwk, hwv]
      have HLI : Hid (∀ W : World, Grew wr W → Calls Tryz.prog 85 #[.agg #[.int .i64 6, .int .i64 0, .string ⟨#[]⟩, .slice sa sn sc, .slice ta tn tc]] W fun e w' => e = .returned (if 1 + wtL (wt (n + 1)) (seqKeys n len) + wtL (wt (n + 1)) (vs) ≤ 1024 then .agg #[.int .i64 6, .int .i64 0, .string ⟨#[]⟩, .slice sa sn sc, .slice ta tn tc] else nilV5) ∧ Grew W w') := fun W hW => by
        have := rlight_mk (n + 1) (fun k => (k < w.heap.size ∧ P k) ∨ w.heap.size + 2 ≤ k) W (mkFn (seqKeys n len) (vs) : Node (AV (n + 1))) _ (hrf.grew hW) (by rw [hw2]; omega)
        rw [hw2] at this
        exact this
      have HRF : Hid (Ref (fun k => (k < w.heap.size ∧ P k) ∨ w.heap.size + 2 ≤ k) wr (n + 2) (mkFn (seqKeys n len) (vs) : Node (AV (n + 1))) (.agg #[.int .i64 6, .int .i64 0, .string ⟨#[]⟩, .slice sa sn sc, .slice ta tn tc])) := hrf
      have HM : Hid ((mkF (wt (n + 1)) (seqKeys n len) vs : Node (AV (n + 1))) = if 1 + wtL (wt (n + 1)) (seqKeys n len) + wtL (wt (n + 1)) (vs) ≤ 1024 then mkFn (seqKeys n len) (vs) else mkNil) := rfl
      have a0 := block_cell HT.out.box 0
      have a1 := block_cell HT.out.box 1
      have a2 := block_cell HT.out.box 2
      have a3 := block_cell HT.out.box 3
      have a4 := block_cell HT.out.box 4
      clear hrf hrow hrow2 hmk hmv hwk hwv hb1 hb2 hw2 r1
      generalize 1 + wtL (wt (n + 1)) (seqKeys n len) + wtL (wt (n + 1)) (vs) = q at HLI HM
      by_cases hq : q ≤ 1024
      · rw [if_pos hq] at HLI HM
        go_wp2_with fail
        refine (HLI.out wr (Grew.refl _)).mono ?_
        rintro e w' ⟨rfl, hg⟩
        have y2 : Hid (_ = _) := Below.blockAt hg.below HT.out.res
        have RF : Hid (Ref (fun k => (k < w.heap.size ∧ P k) ∨ w.heap.size + 2 ≤ k) w' (n + 2) (mkFn (seqKeys n len) (vs) : Node (AV (n + 1))) _) := HRF.out.grew hg
        have FF : Hid (Fr (fun _ => True) w w') := HT.out.fr.trans (Fr.grew hg)
        clear a0 a1 a2 a3 a4 hg HRF HT
        have b0 := block_cell y2.out 0
        have b1 := block_cell y2.out 1
        have b2 := block_cell y2.out 2
        have b3 := block_cell y2.out 3
        have b4 := block_cell y2.out 4
        have f0 := frozen_block y2.out 0
        have f1 := frozen_block y2.out 1
        have f2 := frozen_block y2.out 2
        have f3 := frozen_block y2.out 3
        have f4 := frozen_block y2.out 4
        have z2 := block_lt y2.out
        go_wp2_with fail
        change bodyPost Tryz.prog _ _ _ _ (set5 w' w.heap.size 0 (.int .i64 6) (.int .i64 0) (.string ⟨#[]⟩) (.slice sa sn sc) (.slice ta tn tc))
        have E := set5_block y2.out (.int .i64 6) (.int .i64 0) (.string ⟨#[]⟩) (.slice sa sn sc) (.slice ta tn tc)
        rw [HM.out]
        have R1 : Ref (fun k => P k ∨ w.heap.size ≤ k) (set5 w' w.heap.size 0 (.int .i64 6) (.int .i64 0) (.string ⟨#[]⟩) (.slice sa sn sc) (.slice ta tn tc)) (n + 2) (mkFn (seqKeys n len) (vs) : Node (AV (n + 1))) _ := RF.out.fr (set5_fr (Fr.refl _ w') (by omega) _ _ _ _ _ _) (fun k _ hk => hk.elim (fun q => .inl q.2) (fun q => .inr (by omega))) _ _ _
        have R2 := fr_box FF.out (Nat.le_refl _) 0 (.int .i64 6) (.int .i64 0) (.string ⟨#[]⟩) (.slice sa sn sc) (.slice ta tn tc)
        clear b0 b1 b2 b3 b4 f0 f1 f2 f3 f4
        generalize set5 w' w.heap.size 0 (.int .i64 6) (.int .i64 0) (.string ⟨#[]⟩) (.slice sa sn sc) (.slice ta tn tc) = WZ at E R1 R2 ⊢
        have b0 := block_cell E 0
        have b1 := block_cell E 1
        have b2 := block_cell E 2
        have b3 := block_cell E 3
        have b4 := block_cell E 4
        exact bodyPost_ret (v := .agg #[.int .i64 6, .int .i64 0, .string ⟨#[]⟩, .slice sa sn sc, .slice ta tn tc]) (by simp [results, Tryz.results45, go_sem, b0, b1, b2, b3, b4]) rfl ⟨_, rfl, R1, R2⟩
      · rw [if_neg hq] at HLI HM
        unfold nilV5 at HLI
        go_wp2_with fail
        refine (HLI.out wr (Grew.refl _)).mono ?_
        rintro e w' ⟨rfl, hg⟩
        have y2 : Hid (_ = _) := Below.blockAt hg.below HT.out.res
        have FF : Hid (Fr (fun _ => True) w w') := HT.out.fr.trans (Fr.grew hg)
        clear a0 a1 a2 a3 a4 hg HRF HT
        have b0 := block_cell y2.out 0
        have b1 := block_cell y2.out 1
        have b2 := block_cell y2.out 2
        have b3 := block_cell y2.out 3
        have b4 := block_cell y2.out 4
        have f0 := frozen_block y2.out 0
        have f1 := frozen_block y2.out 1
        have f2 := frozen_block y2.out 2
        have f3 := frozen_block y2.out 3
        have f4 := frozen_block y2.out 4
        have z2 := block_lt y2.out
        go_wp2_with fail
        change bodyPost Tryz.prog _ _ _ _ (set5 w' w.heap.size 0 (.int .i64 0) (.int .i64 0) (.string ⟨#[]⟩) (.slice none 0 0) (.slice none 0 0))
        have E := set5_block y2.out (.int .i64 0) (.int .i64 0) (.string ⟨#[]⟩) (.slice none 0 0) (.slice none 0 0)
        rw [HM.out]
        have R2 := fr_box FF.out (Nat.le_refl _) 0 (.int .i64 0) (.int .i64 0) (.string ⟨#[]⟩) (.slice none 0 0) (.slice none 0 0)
        clear b0 b1 b2 b3 b4 f0 f1 f2 f3 f4
        generalize set5 w' w.heap.size 0 (.int .i64 0) (.int .i64 0) (.string ⟨#[]⟩) (.slice none 0 0) (.slice none 0 0) = WZ at E R2 ⊢
        have b0 := block_cell E 0
        have b1 := block_cell E 1
        have b2 := block_cell E 2
        have b3 := block_cell E 3
        have b4 := block_cell E 4
        exact bodyPost_ret (v := nilV5) (by simp [results, Tryz.results45, go_sem, b0, b1, b2, b3, b4, nilV5]) rfl ⟨_, rfl, ref_nil _ _ (n + 1), R2⟩
end Go.Proofs.YtbogejmmkohbkaaGreatDoor.Sx
