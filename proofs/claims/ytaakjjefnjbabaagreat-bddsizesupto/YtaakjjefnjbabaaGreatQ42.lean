/- The law: a row of its world made anew; world. -/
import Derived.Test.YtaakjjefnjbabaaGreatQ41
set_option maxRecDepth 100000
namespace Go.Proofs.YtaakjjefnjbabaaGreat.Sx
open Go.RowKit Go.Sort Go.Maps Go.WideMaps
section
variable {lo wb tb n : Nat} {W W3 W4 : World} {L : Ly} {T : Tb} {nodes : List Nat} {fs given : List (List Bool)} {ord : List Nat} {nv fv ov gv : Value}
theorem LM.lt (h : LM lo wb tb W L n T nodes fs given ord nv fv ov gv) : lo ≤ W.heap.size := by have := block_lt h.blk; have := h.wlo; omega
theorem LM.setN (h : LM lo wb tb W L n T nodes fs given ord nv fv ov gv) (ns : List Nat) (hm : ns.length ≤ 65536) {cs : Array Value} (hcs : cs = (i64C ns).toArray) {m : Nat} (hml : m = ns.length) :
 LM lo wb tb ((W.alloc (.cells cs 32)).setCell ⟨wb, 2, none⟩ (.slice (some ⟨W.heap.size, 0, none⟩) m m)) L n T ns fs given ord (.slice (some ⟨W.heap.size, 0, none⟩) m m) fv ov gv ∧ Fr (fun b => b ≠ wb) W ((W.alloc (.cells cs 32)).setCell ⟨wb, 2, none⟩ (.slice (some ⟨W.heap.size, 0, none⟩) m m)) := by
 subst hcs hml
 have hw : ∃ cs fz, W.heap[wb]? = some (.cells cs 39 fz) := ⟨_, _, h.blk⟩
 have hwb := block_lt h.blk
 have hlo := h.lt
 have hfr : Fr (fun b => b ≠ wb) W ((W.alloc (.cells (i64C ns).toArray 32)).setCell ⟨wb, 2, none⟩ (.slice (some ⟨W.heap.size, 0, none⟩) ns.length ns.length)) := ((Fr.refl _ W).alloc _).set (by simp) _
 obtain ⟨p1, _, p3, p4, p5⟩ := h.parts (ob := none) (ety := 32) (hfr.mono fun b hb => hb.2) (fun k e => by cases e) (fun k e => by cases e) (by decide)
 have hb1 : (W.alloc (.cells (i64C ns).toArray 32)).heap[wb]? = _ := (heap_old hwb).trans h.blk
 refine ⟨⟨h.low, p1, h.wlo, h.wown, set_block hb1 2 _, ⟨⟨by unfold i64C; simp, .inr ⟨W.heap.size, ns.length, (i64C ns).toArray, rfl, hlo, ?_, Nat.le_refl _, by unfold maxLen; omega, by unfold i64C; simp, by unfold i64C; simp [List.take_of_length_le]⟩⟩, fun k hk => ?_⟩, p3 fun k _ e => (by cases e), p4 fun k _ e => (by cases e), p5 fun k _ e => (by cases e), h.dis⟩, hfr⟩
 · rw [Below.heap_setCell _ ⟨wb, 2, none⟩ _ W.heap.size (by show W.heap.size ≠ wb; omega)]
   exact heap_new rfl
 · have hk : some W.heap.size = some k := hk
   cases hk
   exact h.tat.hi _ (Nat.le_refl _)
theorem row_new (h : LM lo wb tb W L n T nodes fs given ord nv fv ov gv) {i : Nat} {vs : List Value} {R : List (List Bool)} {m : Nat} {cs : Array Value} (hcs : cs = vs.toArray) (hml : m = R.length) (hm : m ≤ 65536) (hvs : vs.length = R.length) (hel : ∀ (i : Nat) vx x, vs[i]? = some vx → R[i]? = some x → BVz L W vx x) :
 Fr (fun b => b ≠ wb) W ((W.alloc (.cells cs 28)).setCell ⟨wb, i, none⟩ (.slice (some ⟨W.heap.size, 0, none⟩) m m)) ∧ RowZ lo L ((W.alloc (.cells cs 28)).setCell ⟨wb, i, none⟩ (.slice (some ⟨W.heap.size, 0, none⟩) m m)) (.slice (some ⟨W.heap.size, 0, none⟩) m m) R := by
 subst hcs hml
 have hw : ∃ cs fz, W.heap[wb]? = some (.cells cs 39 fz) := ⟨_, _, h.blk⟩
 have hwb := block_lt h.blk
 have hlo := h.lt
 have hfr : Fr (fun b => b ≠ wb) W ((W.alloc (.cells vs.toArray 28)).setCell ⟨wb, i, none⟩ (.slice (some ⟨W.heap.size, 0, none⟩) R.length R.length)) := ((Fr.refl _ W).alloc _).set (by simp) _
 refine ⟨hfr, vs, hvs, ⟨by omega, .inr ⟨W.heap.size, R.length, vs.toArray, rfl, hlo, ?_, Nat.le_refl _, by unfold maxLen; omega, by simp [hvs], by simp [← hvs]⟩⟩, fun j vx x q1 q2 => (hel j vx x q1 q2).frg hfr fun b _ hb => ty_ne hb hw (by decide), fun k hk => ?_⟩
 · rw [Below.heap_setCell _ ⟨wb, i, none⟩ _ W.heap.size (by show W.heap.size ≠ wb; omega)]
   exact heap_new rfl
 · have hk : some W.heap.size = some k := hk
   cases hk
   exact h.tat.hi _ (Nat.le_refl _)
theorem LM.setF (h : LM lo wb tb W L n T nodes fs given ord nv fv ov gv) {vs : List Value} {R : List (List Bool)} {m : Nat} {cs : Array Value} (hcs : cs = vs.toArray) (hml : m = R.length) (hm : m ≤ 65536) (hvs : vs.length = R.length) (hel : ∀ (i : Nat) vx x, vs[i]? = some vx → R[i]? = some x → BVz L W vx x) :
 LM lo wb tb ((W.alloc (.cells cs 28)).setCell ⟨wb, 3, none⟩ (.slice (some ⟨W.heap.size, 0, none⟩) m m)) L n T nodes R given ord nv (.slice (some ⟨W.heap.size, 0, none⟩) m m) ov gv ∧ Fr (fun b => b ≠ wb) W ((W.alloc (.cells cs 28)).setCell ⟨wb, 3, none⟩ (.slice (some ⟨W.heap.size, 0, none⟩) m m)) := by
 have hwb := block_lt h.blk
 obtain ⟨hfr, hrow⟩ := row_new h (i := 3) hcs hml hm hvs hel
 obtain ⟨p1, p2, _, p4, p5⟩ := h.parts (ob := none) (ety := 32) (hfr.mono fun b hb => hb.2) (fun k e => by cases e) (fun k e => by cases e) (by decide)
 have hb1 : (W.alloc (.cells cs 28)).heap[wb]? = _ := (heap_old hwb).trans h.blk
 refine ⟨⟨h.low, p1, h.wlo, h.wown, set_block hb1 3 _, p2 fun k _ e => (by cases e), hrow, p4 fun k _ e => (by cases e), p5 fun k _ e => (by cases e), .inr fun e => ?_⟩, hfr⟩
 have e : some W.heap.size = gv.ownBlock := e
 obtain ⟨_, _, q, _⟩ := h.giv
 have := (q.lt _ e.symm).2
 omega
theorem LM.setG (h : LM lo wb tb W L n T nodes fs given ord nv fv ov gv) {vs : List Value} {R : List (List Bool)} {m : Nat} {cs : Array Value} (hcs : cs = vs.toArray) (hml : m = R.length) (hm : m ≤ 65536) (hvs : vs.length = R.length) (hel : ∀ (i : Nat) vx x, vs[i]? = some vx → R[i]? = some x → BVz L W vx x) :
 LM lo wb tb ((W.alloc (.cells cs 28)).setCell ⟨wb, 5, none⟩ (.slice (some ⟨W.heap.size, 0, none⟩) m m)) L n T nodes fs R ord nv fv ov (.slice (some ⟨W.heap.size, 0, none⟩) m m) ∧ Fr (fun b => b ≠ wb) W ((W.alloc (.cells cs 28)).setCell ⟨wb, 5, none⟩ (.slice (some ⟨W.heap.size, 0, none⟩) m m)) := by
 have hwb := block_lt h.blk
 obtain ⟨hfr, hrow⟩ := row_new h (i := 5) hcs hml hm hvs hel
 obtain ⟨p1, p2, p3, p4, _⟩ := h.parts (ob := none) (ety := 32) (hfr.mono fun b hb => hb.2) (fun k e => by cases e) (fun k e => by cases e) (by decide)
 have hb1 : (W.alloc (.cells cs 28)).heap[wb]? = _ := (heap_old hwb).trans h.blk
 refine ⟨⟨h.low, p1, h.wlo, h.wown, set_block hb1 5 _, p2 fun k _ e => (by cases e), p3 fun k _ e => (by cases e), p4 fun k _ e => (by cases e), hrow, .inr fun e => ?_⟩, hfr⟩
 have e : fv.ownBlock = some W.heap.size := e
 obtain ⟨_, _, q, _⟩ := h.fun_
 have := (q.lt _ e).2
 omega
end
theorem False_any (w : World) (v : Value) : Calls Tryz.prog 14 #[v] w fun e w' => e = .returned (.int .i64 0) ∧ w' = w := by
 go_enter Tryz.func14, Tryz.ntmps14
 go_wp2_with fail
 go_ret
 exact ⟨rfl, rfl⟩
theorem True_any (w : World) (v : Value) : Calls Tryz.prog 15 #[v] w fun e w' => e = .returned (.int .i64 1) ∧ w' = w := by
 go_enter Tryz.func15, Tryz.ntmps15
 go_wp2_with fail
 go_ret
 exact ⟨rfl, rfl⟩
theorem own_slice {w : World} {b m : Nat} {e : TypeId} {v : Value} {xs : List Value} (h : w.ownsRow b e 1 v m xs) : ∃ a c, v = .slice a m c := by
 rcases h.2 with ⟨rfl, h0⟩ | ⟨g, cap, cur, rfl, _⟩
 · exact ⟨none, 0, by rw [h0]⟩
 · exact ⟨_, _, rfl⟩
set_option maxHeartbeats 2000000 in
theorem world_any (w : World) (n : Nat) (hn : n ≤ 9) :
 Calls Tryz.prog 8 #[.int .i64 (n : Int)] w fun e w' => ∃ (wb tb : Nat) (L : Ly) (nv fv ov gv : Value), e = .returned (.pointer (some ⟨wb, 0, none⟩)) ∧ LM w.heap.size wb tb w' L n (Tb0 n) [0, 1] [tab n fun _ => false, tab n fun _ => true] [] (List.range n) nv fv ov gv ∧ Fr (fun _ => True) w w' := by
 have HN : Hid (Calls _ _ _ _ _) := New_ok w n (by omega)
 obtain ⟨i0, hi0, hz0, hz1, hz2⟩ := infoInt
 have mo := follows
 go_enter Tryz.func8, Tryz.ntmps8
 go_wp2_with fail
 refine HN.out.mono ?_
 rintro e w1 ⟨tb, L, rfl, hX, hF, hO⟩
 have F1 : Hid (Fr (fun _ => True) w w1) := hF
 have LM0 : Hid (LM w.heap.size w1.heap.size tb (w1.alloc (.cells #[.pointer (some ⟨tb, 0, none⟩), .int .i64 (n : Int), .slice none 0 0, .slice none 0 0, .slice none 0 0, .slice none 0 0] 39)) L n (Tb0 n) [] [] [] (List.range 0) (.slice none 0 0) (.slice none 0 0) (.slice none 0 0) (.slice none 0 0)) := by
  have hn0 : ∀ k, (Value.slice none 0 0).ownBlock = some k → L.own k = 0 := fun k e => by cases e
  exact ⟨fun b hb => hO b hb, hX.alloc _, hF.size, hX.hi _ (Nat.le_refl _), heap_new rfl, ⟨World.ownsRow_nil _ _ _ _, hn0⟩, ⟨[], rfl, World.ownsRow_nil _ _ _ _, fun i vx x q => (by cases q), hn0⟩, ⟨World.ownsRow_nil _ _ _ _, hn0⟩, ⟨[], rfl, World.ownsRow_nil _ _ _ _, fun i vx x q => (by cases q), hn0⟩, .inl rfl⟩
 have F2 : Hid (Fr (fun _ => True) w (w1.alloc (.cells #[.pointer (some ⟨tb, 0, none⟩), .int .i64 (n : Int), .slice none 0 0, .slice none 0 0, .slice none 0 0, .slice none 0 0] 39))) := hF.alloc _
 clear hX hF hO HN
 go_wp2_with fail
 obtain ⟨wb, hwb⟩ : ∃ wb, w1.heap.size = wb := ⟨_, rfl⟩
 rw [hwb] at LM0 ⊢
 generalize w1.alloc (.cells #[.pointer (some ⟨tb, 0, none⟩), .int .i64 (n : Int), .slice none 0 0, .slice none 0 0, .slice none 0 0, .slice none 0 0] 39) = W2 at LM0 F2 ⊢
 clear hwb
 go_loopg [6] (n) (fun k s6 wr => ∃ (j : Nat) (oa : Option Addr) (oc : Nat), s6 = .int .i64 (j : Int) ∧ j + k = n ∧ Hid (LM w.heap.size wb tb wr L n (Tb0 n) [] [] [] (List.range j) (.slice none 0 0) (.slice none 0 0) (.slice oa j oc) (.slice none 0 0)) ∧ Hid (Fr (fun _ => True) w wr))
 case atStart => exact ⟨0, none, 0, rfl, by omega, LM0.out, F2.out⟩
 case round =>
  clear LM0 F2
  obtain ⟨j, oa, oc, rfl, hjk, X, F⟩ := hrel
  by_cases hj : j < n
  · obtain ⟨k, rfl⟩ : ∃ k, gk = k + 1 := ⟨gk - 1, by omega⟩
    have hjl : (j : Int) < (n : Int) := by omega
    have c4 := X.out.c.2.2.2.2.1
    have HOA : Hid ((wr.alloc (.cells #[.int .i64 (j : Int)] 3)).ownsRow w.heap.size 3 1 (.slice oa j oc) j (i64C (List.range j))) := by
     have := X.out.ordr.1.alloc (.cells #[.int .i64 (j : Int)] 3)
     rw [List.length_range] at this
     exact this
    have hws := F.out.size
    go_wp2_with (at_builtin; refine wpList_append_lies _ rfl _ _ 27 rfl w.heap.size 3 i0 _ 1 8 Tryz.underlying27 hi0 hz0 hz1 hz2 rfl (by decide) (.slice oa j oc) j _ rfl HOA.out ⟨wr.heap.size, 0, none⟩ 1 1 [.int .i64 (j : Int)] rfl rfl (World.news_of_block (heap_new rfl)) ?q2 (by decide) ?q3 ?q4 ?q5 (wr.heap.size + 1) (by simp) ?_)
    case q2 => first | rfl | (intro u hu; rw [List.mem_singleton.1 hu]; rfl)
    case q3 => unfold maxLen; omega
    case q4 => omega
    case q5 => first | omega | (simp; omega)
    intro g' cap' w3 ho hg hat _
    have hlr : (List.range j).length = j := List.length_range
    have hp := X.out.pushO (x := j) (by rw [hlr]; exact ho) hg hat (by omega)
    rw [hlr] at hp
    obtain ⟨x1, c4', z4'⟩ := hp
    have e : List.range j ++ [j] = List.range (j + 1) := List.range_succ.symm
    rw [e] at x1
    have X2 : Hid (LM _ _ _ _ _ _ _ _ _ _ _ _ _ _ _) := x1
    have F2 : Hid (Fr (fun _ => True) w (w3.setCell ⟨wb, 4, none⟩ (.slice (some ⟨g', 0, none⟩) (j + 1) cap'))) := by
     have hl := X.out.ordr.1.lt
     have hwb : w.heap.size ≤ wb := X.out.wlo
     have h3 := hg.size
     simp at h3
     refine ⟨hg.os.trans F.out.os, hg.tape.trans F.out.tape, hg.output.trans F.out.output, by simp; omega, fun b hb _ => ?_⟩
     rw [Below.heap_setCell w3 ⟨wb, 4, none⟩ _ b (by show b ≠ wb; omega)]
     exact ((hg.block b (by simp; omega) fun e => by have := (hl b e.symm).1; omega).trans (heap_old (by omega))).trans (F.out.block b hb trivial)
    clear ho hg hat x1 HOA X F c4 e hlr
    go_wp2_with fail
    go_roundg k
    case measure => omega
    case rel => exact ⟨j + 1, _, _, by simp, by omega, X2, F2⟩
  · have hjl : ¬ (j : Int) < (n : Int) := by omega
    obtain rfl : j = n := by omega
    have HC : Hid (∀ W b, Calls Tryz.prog 16 #[.int .i64 (j : Int), .bool b] W fun e w' => ∃ r, e = .returned r ∧ (BV w' r (List.replicate (2 ^ j) b) ∧ New W r) ∧ Fr (fun _ => True) W w') := fun W b => rConst_any W j hn b
    go_wp2_with fail
    refine (False_any _ _).mono ?_
    rintro e w' ⟨rfl, hw⟩; replace hw := hw.symm; subst hw
    go_wp2_with fail
    refine (True_any _ _).mono ?_
    rintro e w' ⟨rfl, hw⟩; replace hw := hw.symm; subst hw
    go_wp2_with fail
    refine (HC.out wr false).mono ?_
    rintro e w4 ⟨r4, rfl, ⟨hb4, hn4⟩, hf4⟩
    have B4 : Hid (BVz L w4 r4 (tab j fun _ => false)) := by rw [← const_tab]; exact hb4.z hn4 X.out.tat.hi
    have F4 : Hid (Fr (fun _ => True) wr w4) := hf4
    clear hb4 hn4 hf4
    go_wp2_with fail
    refine (HC.out w4 true).mono ?_
    rintro e w5 ⟨r5, rfl, ⟨hb5, hn5⟩, hf5⟩
    have X4 : Hid (LM _ _ _ _ _ _ _ _ _ _ _ _ _ _ _) := X.out.grew F4.out
    have B5 : Hid (BVz L w5 r5 (tab j fun _ => true)) := by rw [← const_tab]; exact hb5.z hn5 X4.out.tat.hi
    have B45 : Hid (BVz L w5 r4 (tab j fun _ => false)) := B4.out.frg hf5 fun _ _ _ => trivial
    have X5 : Hid (LM _ _ _ _ _ _ _ _ _ _ _ _ _ _ _) := X4.out.grew hf5
    have F5 : Hid (Fr (fun _ => True) w w5) := F.out.trans (F4.out.trans hf5)
    obtain ⟨p1, q1, hr4, -⟩ := B45.out.bv.old
    obtain ⟨p2, q2, hr5, -⟩ := B5.out.bv.old
    obtain ⟨l1, hl1⟩ : ∃ l1, r4 = .slice p1 l1 q1 := ⟨_, hr4⟩
    obtain ⟨l2, hl2⟩ : ∃ l2, r5 = .slice p2 l2 q2 := ⟨_, hr5⟩
    clear hr4 hr5 hb5 hn5 hf5 X4 F4 B4 X F
    subst hl1 hl2
    obtain ⟨x6, f6⟩ := X5.out.setN [0, 1] (by simp) (cs := #[.int .i64 0, .int .i64 1]) rfl (m := 2) rfl
    have c2 := X5.out.c.2.2.1
    have z2 := X5.out.z 2
    have c2a : (w5.alloc (.cells #[.int .i64 0, .int .i64 1] 32)).cell? ⟨wb, 2, none⟩ = some (.slice none 0 0) := (World.cell?_of_block (w := w5) (heap_old (block_lt X5.out.blk))).trans c2
    have z2a : (w5.alloc (.cells #[.int .i64 0, .int .i64 1] 32)).frozen? ⟨wb, 2, none⟩ = false := frozen_block ((heap_old (block_lt X5.out.blk)).trans X5.out.blk) 2
    have X6 : Hid (LM _ _ _ _ _ _ _ _ _ _ _ _ _ _ _) := x6
    have F56 : Hid (Fr (fun b => b ≠ wb) w5 _) := f6
    have HWT : Hid (∃ cs fz, w5.heap[wb]? = some (.cells cs 39 fz)) := ⟨_, _, X5.out.blk⟩
    have E1 : Hid (BVz L _ _ _) := B45.out.frg F56.out fun b _ hb => ty_ne hb HWT.out (by decide)
    have E2 : Hid (BVz L _ _ _) := B5.out.frg F56.out fun b _ hb => ty_ne hb HWT.out (by decide)
    clear x6 f6 c2 z2
    obtain ⟨W6, hW6⟩ : ∃ W6, (w5.alloc (.cells #[.int .i64 0, .int .i64 1] 32)).setCell ⟨wb, 2, none⟩ (.slice (some ⟨w5.heap.size, 0, none⟩) 2 2) = W6 := ⟨_, rfl⟩
    rw [hW6] at X6 F56 E1 E2
    obtain ⟨x7, f7⟩ := X6.out.setF (vs := [.slice p1 l1 q1, .slice p2 l2 q2]) (R := [tab j fun _ => false, tab j fun _ => true]) (m := 2) (cs := #[.slice p1 l1 q1, .slice p2 l2 q2]) rfl rfl (by omega) rfl (fun i vx x h1 h2 => by
     match i with
     | 0 => cases h1; cases h2; exact E1.out
     | 1 => cases h1; cases h2; exact E2.out
     | i + 2 => cases h1)
    have c3a : (W6.alloc (.cells #[.slice p1 l1 q1, .slice p2 l2 q2] 28)).cell? ⟨wb, 3, none⟩ = some (.slice none 0 0) := (World.cell?_of_block (w := W6) (heap_old (block_lt X6.out.blk))).trans X6.out.c.2.2.2.1
    have z3a : (W6.alloc (.cells #[.slice p1 l1 q1, .slice p2 l2 q2] 28)).frozen? ⟨wb, 3, none⟩ = false := frozen_block ((heap_old (block_lt X6.out.blk)).trans X6.out.blk) 3
    have X7 : Hid (LM _ _ _ _ _ _ _ _ _ _ _ _ _ _ _) := x7
    have F7 : Hid (Fr (fun _ => True) w _) := ⟨f7.os.trans (F56.out.os.trans F5.out.os), f7.tape.trans (F56.out.tape.trans F5.out.tape), f7.output.trans (F56.out.output.trans F5.out.output), Nat.le_trans F5.out.size (Nat.le_trans F56.out.size f7.size), fun b hb _ => (f7.block b (Nat.lt_of_lt_of_le hb (Nat.le_trans F5.out.size F56.out.size)) (by have := X6.out.wlo; omega)).trans ((F56.out.block b (Nat.lt_of_lt_of_le hb F5.out.size) (by have := X6.out.wlo; omega)).trans (F5.out.block b hb trivial))⟩
    clear x7 f7
    have hs6 : W6.heap.size = w5.heap.size + 1 := by rw [← hW6]; simp
    rw [hs6] at X7 F7
    rw [← hW6] at c3a z3a X7 F7
    clear hs6
    clear hW6
    go_wp2_with fail
    go_ret
    exact ⟨wb, tb, L, _, _, _, _, rfl, X7.out, F7.out⟩
end Go.Proofs.YtaakjjefnjbabaaGreat.Sx
namespace Go.Proofs.YtaakjjefnjbabaaGreat.Sx
open Go.RowKit Go.Sort Go.Maps Go.WideMaps
theorem IW.at {w : World} {v : Value} {l : List Int} (h : IW w v l) : ∃ a c, v = .slice a l.length c ∧ IntsV w a l := by
 obtain ⟨a, c, e, h⟩ := h
 exact ⟨a, c, e, ⟨h⟩⟩
theorem OpV.fr {w w' : World} {v : Value} {o : OpR} (h : OpV w v o) (f : Fr (fun _ => True) w w') : OpV w' v o := by
 obtain ⟨va, vb, e, ⟨h1, h0⟩, a, c, e2, h2⟩ := h
 refine ⟨va, vb, e, ⟨h1.fr f, h0⟩, a, c, e2, fun i x hx => ?_⟩
 obtain ⟨q, e3, h3⟩ := h2 i x hx
 exact ⟨q, e3, (World.cell?_of_block (w := w) (f.block _ (World.block_lt_of_cell? w _ h3) trivial)).trans h3⟩
theorem Fr.table {w0 w w' : World} {L L' : Ly} (f : Fr (fun _ => True) w0 w) (h : FrT L L' w w') (hl : ∀ b, b < w0.heap.size → L.own b = 0) : Fr (fun _ => True) w0 w' :=
 ⟨h.os.trans f.os, h.tape.trans f.tape, h.output.trans f.output, Nat.le_trans f.size h.size, fun b hb _ => (h.block b (Nat.lt_of_lt_of_le hb f.size) (hl b hb)).trans (f.block b hb trivial)⟩
theorem LP.nlt {k n : Nat} {lv : Nat → Nat} {T : Tb} {nodes : List Nat} {fs given : List (List Bool)} (h : LP k n lv T nodes fs given) : 0 < nodes.length ∧ nodes.length < 9223372036854775808 := by
 have h1 := h.two
 have h2 := h.nk
 have h3 := h.k20
 omega
theorem LM.fat {lo wb tb n : Nat} {W : World} {L : Ly} {T : Tb} {nodes : List Nat} {fs given : List (List Bool)} {ord : List Nat} {nv fv ov gv : Value} (h : LM lo wb tb W L n T nodes fs given ord nv fv ov gv) {i : Nat} {x : List Bool} (hx : fs[i]? = some x) : ∃ g c p l q, fv = .slice (some ⟨g, 0, none⟩) fs.length c ∧ W.cell? ⟨g, i, none⟩ = some (.slice p l q) ∧ BVz L W (.slice p l q) x := by
 obtain ⟨g, c, vx, e, h1, h2⟩ := h.fun_.at hx
 obtain ⟨p, q, e2, _⟩ := id h2
 subst e2
 exact ⟨g, c, p, _, q, e, h1, h2⟩
end Go.Proofs.YtaakjjefnjbabaaGreat.Sx
namespace Go.Proofs.YtaakjjefnjbabaaGreat.Sx
open Go.RowKit Go.Sort Go.Maps Go.WideMaps
theorem varF_tab {n : Nat} (i : Int) : tab n (varF n i) = varL n i := by
 by_cases h : 0 ≤ i ∧ i < (n : Int)
 · obtain ⟨a, rfl⟩ : ∃ a : Nat, i = (a : Int) := ⟨i.toNat, by omega⟩
   rw [varL_tab (by omega)]
   congr 1
   funext σ
   unfold varF
   rw [decide_eq_true h.1, decide_eq_true h.2, Int.toNat_natCast]
   rfl
 · rw [varL_no h]
   congr 1
   funext σ
   unfold varF
   by_cases h0 : 0 ≤ i
   · rw [decide_eq_false (show ¬ i < (n : Int) by omega)]; simp
   · rw [decide_eq_false h0]; rfl
theorem BV.zo {L : Ly} {w w' : World} {v r : Value} {l l2 : List Bool} (h : BV w' r l) (hn : r = v ∨ New w r) (hz : BVz L w' v l2) (hl : l.length = l2.length) (hi : ∀ b, w.heap.size ≤ b → L.own b = 0) : BVz L w' r l := by
 rcases hn with rfl | hn
 · obtain ⟨a, c, e, h⟩ := h
   obtain ⟨a2, c2, e2, hz⟩ := hz
   rw [e] at e2
   injection e2 with e3 _ e4
   refine ⟨a, c, e, fun i x hx => ?_⟩
   obtain ⟨q, e1, h1, h2⟩ := h i x hx
   obtain ⟨y, hy⟩ : ∃ y, l2[i]? = some y := ⟨_, List.getElem?_eq_getElem (by rw [← hl]; exact lt_of_at hx)⟩
   obtain ⟨q2, e5, _, _, h4⟩ := hz i y hy
   rw [← e3, e1] at e5
   cases e5
   exact ⟨q, e1, h1, h2, h4⟩
 · exact h.z hn hi
set_option maxHeartbeats 4000000 in
theorem made_none (w0 W : World) (wb tb n k : Nat) (L : Ly) (lv : Nat → Nat) (T : Tb) (nodes : List Nat) (fs given : List (List Bool)) (ord : List Nat) (nv fv ov gv vo : Value) (o : OpR) (h : LM w0.heap.size wb tb W L n T nodes fs given ord nv fv ov gv) (hp : LP k n lv T nodes fs given) (hv : OpV w0 vo o) (hok : OpOK o) (hF : Fr (fun _ => True) w0 W) (hk : o.kind < 1 ∨ 9 < o.kind) :
 Calls Tryz.prog 10 #[.pointer (some ⟨wb, 0, none⟩), vo] W fun e w' => ∃ v f, e = .returned (.tuple #[v, f, .bool false]) ∧ LM w0.heap.size wb tb w' L n T nodes fs given ord nv fv ov gv ∧ Fr (fun _ => True) w0 w' := by
 obtain ⟨va, vb, rfl, ⟨hva, hvnil⟩, hvb⟩ := hv
 obtain ⟨ok, oa, ob, oc, vars, vals⟩ := o
 have hka := hok.a
 have hkb := hok.b
 have hkc := hok.c
 have hvl : vars.length ≤ 1099511627776 := hok.vl
 obtain ⟨hn0, hn63⟩ := hp.nlt
 have hlen := hp.len
 have h512 := pow9 hp.n9
 have hN9 : Hid (n ≤ 9) := hp.n9
 have HVA : Hid (∀ W, Fr (fun _ => True) w0 W → IW W va vars) := fun W F => hva.fr F
 have HP : Hid (LP k n lv T nodes fs given) := hp
 obtain ⟨ia, hia⟩ : ∃ i, pickN oa nodes.length = i := ⟨_, rfl⟩
 obtain ⟨ib, hib⟩ : ∃ i, pickN ob nodes.length = i := ⟨_, rfl⟩
 obtain ⟨ic, hic⟩ : ∃ i, pickN oc nodes.length = i := ⟨_, rfl⟩
 have hial : ia < nodes.length := by rw [← hia]; exact pickN_lt hn0
 have hibl : ib < nodes.length := by rw [← hib]; exact pickN_lt hn0
 have hicl : ic < nodes.length := by rw [← hic]; exact pickN_lt hn0
 obtain ⟨x, hx⟩ : ∃ x, nodes[ia]? = some x := ⟨_, List.getElem?_eq_getElem hial⟩
 obtain ⟨y, hy⟩ : ∃ y, nodes[ib]? = some y := ⟨_, List.getElem?_eq_getElem hibl⟩
 obtain ⟨z, hz⟩ : ∃ z, nodes[ic]? = some z := ⟨_, List.getElem?_eq_getElem hicl⟩
 obtain ⟨fa, hfa, hgx, hex⟩ := hp.live hx
 obtain ⟨fb, hfb, hgy, hey⟩ := hp.live hy
 obtain ⟨fc, hfc, hgz, hez⟩ := hp.live hz
 have B1 : Hid ((W.alloc (.cells #[.int .i64 ok, .int .i64 oa, .int .i64 ob, .int .i64 oc, va, vb] 30)).heap[W.heap.size]? = some (.cells #[.int .i64 ok, .int .i64 oa, .int .i64 ob, .int .i64 oc, va, vb] 30 (0, 0))) := heap_new rfl
 have X1 : Hid (LM _ _ _ (W.alloc (.cells #[.int .i64 ok, .int .i64 oa, .int .i64 ob, .int .i64 oc, va, vb] 30)) _ _ _ _ _ _ _ _ _ _ _) := h.grew ((Fr.refl _ W).alloc _)
 have F1 : Hid (Fr (fun _ => True) w0 (W.alloc (.cells #[.int .i64 ok, .int .i64 oa, .int .i64 ob, .int .i64 oc, va, vb] 30))) := hF.alloc _
 have hsz1 : (W.alloc (.cells #[.int .i64 ok, .int .i64 oa, .int .i64 ob, .int .i64 oc, va, vb] 30)).heap.size = W.heap.size + 1 := by simp
 obtain ⟨W1, hW1⟩ : ∃ W1, W.alloc (.cells #[.int .i64 ok, .int .i64 oa, .int .i64 ob, .int .i64 oc, va, vb] 30) = W1 := ⟨_, rfl⟩
 obtain ⟨bx, hbx⟩ : ∃ bx, W.heap.size = bx := ⟨_, rfl⟩
 rw [hW1] at B1 X1 F1 hsz1
 rw [hbx] at B1 hsz1
 have LBX0 : Hid (L.own bx = 0) := h.tat.hi bx (by omega)
 have HPA : Hid (∀ W', Calls Tryz.prog 17 #[.int .i64 oa, .int .i64 (nodes.length : Int)] W' fun e w' => e = .returned (.int .i64 (ia : Int)) ∧ w' = W') := fun W' => by rw [← hia]; exact pick_any W' oa _ hka.1 hka.2 hn0 hn63
 have HPB : Hid (∀ W', Calls Tryz.prog 17 #[.int .i64 ob, .int .i64 (nodes.length : Int)] W' fun e w' => e = .returned (.int .i64 (ib : Int)) ∧ w' = W') := fun W' => by rw [← hib]; exact pick_any W' ob _ hkb.1 hkb.2 hn0 hn63
 have HPC : Hid (∀ W', Calls Tryz.prog 17 #[.int .i64 oc, .int .i64 (nodes.length : Int)] W' fun e w' => e = .returned (.int .i64 (ic : Int)) ∧ w' = W') := fun W' => by rw [← hic]; exact pick_any W' oc _ hkc.1 hkc.2 hn0 hn63
 obtain ⟨ng, nc, hnv, cx⟩ := X1.out.node hx
 obtain ⟨ng2, nc2, hnv2, cy⟩ := X1.out.node hy
 obtain ⟨ng3, nc3, hnv3, cz⟩ := X1.out.node hz
 rw [hnv] at hnv2 hnv3
 injection hnv2 with e1 _ e2
 injection hnv3 with e3 _ e4
 cases e1; cases e2; cases e3; cases e4
 obtain ⟨fg, fcc, pa, la, qa, hfv, cfa, zfa⟩ := X1.out.fat hfa
 obtain ⟨fg1, fc1, pb, lb, qb, hfv1, cfb, zfb⟩ := X1.out.fat hfb
 obtain ⟨fg2, fc2, pc, lc, qc, hfv2, cfc, zfc⟩ := X1.out.fat hfc
 obtain ⟨fg3, fc3, p0, l0, q0, hfv3, cf0, zf0⟩ := X1.out.fat hp.h0
 obtain ⟨fg4, fc4, p1, l1, q1, hfv4, cf1, zf1⟩ := X1.out.fat hp.h1
 rw [hfv] at hfv1 hfv2 hfv3 hfv4
 injection hfv1 with e1 _ e2
 cases e1; cases e2
 injection hfv2 with e1 _ e2
 cases e1; cases e2
 injection hfv3 with e1 _ e2
 cases e1; cases e2
 injection hfv4 with e1 _ e2
 cases e1; cases e2
 have ZA : Hid (BVz L W1 (.slice pa la qa) (tab n (vl n T x))) := by rw [← hex]; exact zfa
 have ZB : Hid (BVz L W1 (.slice pb lb qb) (tab n (vl n T y))) := by rw [← hey]; exact zfb
 have ZC : Hid (BVz L W1 (.slice pc lc qc) (tab n (vl n T z))) := by rw [← hez]; exact zfc
 have Z0 : Hid (BVz L W1 (.slice p0 l0 q0) (tab n fun _ => false)) := zf0
 have Z1 : Hid (BVz L W1 (.slice p1 l1 q1) (tab n fun _ => true)) := zf1
 have HGX : Hid (Giv T x ∧ Giv T y ∧ Giv T z) := ⟨hgx, hgy, hgz⟩
 obtain ⟨-, c1, c2, c3, -, -⟩ := X1.out.c
 rw [hnv] at c2
 rw [hfv] at c3
 obtain ⟨N, hNN⟩ : ∃ N, nodes.length = N := ⟨_, rfl⟩
 rw [← hlen] at c3
 have HNV : Hid (nv = .slice (some ⟨ng, 0, none⟩) nodes.length nc ∧ fv = .slice (some ⟨fg, 0, none⟩) fs.length fcc) := ⟨hnv, hfv⟩
 have HLEN : Hid (nodes.length = N ∧ fs.length = N) := ⟨hNN, by rw [← hlen]; exact hNN⟩
 have hn2 := hp.two
 rw [hNN] at c2 c3 HPA HPB HPC hial hibl hicl hn2
 have hial' : (ia : Int) < (N : Int) := by omega
 have hibl' : (ib : Int) < (N : Int) := by omega
 have hicl' : (ic : Int) < (N : Int) := by omega
 have hi0 : (0 : Int) < (N : Int) := by omega
 have hi1 : (1 : Int) < (N : Int) := by omega
 have d0 := block_cell B1.out 0
 have d1 := block_cell B1.out 1
 have d2 := block_cell B1.out 2
 have d3 := block_cell B1.out 3
 have d4 := block_cell B1.out 4
 obtain ⟨vp, vc, hvv, hvi⟩ := (HVA.out W1 F1.out).at
 subst hvv
 obtain ⟨vn, hvn⟩ : ∃ vn, vars.length = vn := ⟨_, rfl⟩
 have HVN : Hid (vars.length = vn) := hvn
 have HVI : Hid (∀ W, Fr (fun _ => True) w0 W → IntsV W vp vars) := fun W F => by
  obtain ⟨a, c, e, h⟩ := (HVA.out W F).at
  injection e with e1 _ _
  rw [e1]; exact h
 rw [hvn] at hvl d4 HVA B1 hW1 ⊢
 have HNI : Hid (vp = none → vn = 0 ∧ vc = 0) := fun e => by
  have := hvnil vars.length vc (by rw [e])
  rw [hvn] at this
  exact this
 have mo := follows
 obtain ⟨i0, hI0, hZ0, hZ1, hZ2⟩ := infoInt
 have hk : ok < 1 ∨ 9 < ok := hk
 have k1 : ¬ ok = 1 := by omega
 have k2 : ¬ ok = 2 := by omega
 have k3 : ¬ ok = 3 := by omega
 have k4 : ¬ ok = 4 := by omega
 have k5 : ¬ ok = 5 := by omega
 have k6 : ¬ ok = 6 := by omega
 have k7 : ¬ ok = 7 := by omega
 have k8 : ¬ ok = 8 := by omega
 have k9 : ¬ ok = 9 := by omega
 clear hk
 clear h hp hok hF hgx hgy hgz hex hey hez hx hy hz hfa hfb hfc hnv hfv hlen hNN zfa zfb zfc zf0 zf1 hvi hvn hka hkb hkc hia hib hic hn0 hn63 hva hvb hvnil
 go_enter Tryz.func10, Tryz.ntmps10
 go_wp2_with fail
 clear hW1 hbx
 refine (HPA.out _).mono ?_
 rintro e w' ⟨rfl, hw⟩; replace hw := hw.symm; subst hw
 go_wp2_with fail
 refine (HPB.out _).mono ?_
 rintro e w' ⟨rfl, hw⟩; replace hw := hw.symm; subst hw
 go_wp2_with fail
 refine (HPC.out _).mono ?_
 rintro e w' ⟨rfl, hw⟩; replace hw := hw.symm; subst hw
 clear HPA HPB HPC
 have HOE : Hid ((W1.alloc (.cells #[] 3)).ownsRow W1.heap.size 3 1 (.slice (some ⟨W1.heap.size, 0, none⟩) 0 0) 0 []) := ⟨rfl, .inr ⟨W1.heap.size, 0, #[], rfl, Nat.le_refl _, heap_new rfl, Nat.le_refl _, by unfold maxLen; omega, rfl, rfl⟩⟩
 rw [hsz1] at HOE
 have HVC : Hid (∀ ad, vp = some ad → ∀ j u, (vars.map (Value.int .i64))[j]? = some u → (W1.alloc (.cells #[] 3)).cell? (ad.add j) = some u) := fun ad had j u hu => by
  rw [List.getElem?_map] at hu
  cases hx : vars[j]? with
  | none => rw [hx] at hu; cases hu
  | some a =>
    rw [hx] at hu
    obtain rfl : Value.int .i64 a = u := Option.some.inj hu
    obtain ⟨q, e, hc⟩ := (HVI.out W1 F1.out).cell j a hx
    rw [had] at e
    cases e
    exact (World.cell?_of_block (w := W1) (heap_old (World.block_lt_of_cell? W1 _ hc))).trans hc
 have hmx : 0 + vn ≤ maxLen := by unfold maxLen; omega
 have hlv : (vars.map (Value.int .i64)).length = vn := by rw [List.length_map]; exact HVN.out
 have hsz2 : bx + 1 ≤ (W1.alloc (.cells #[] 3)).heap.size := by simp; omega
 go_wp2_with (at_builtin; refine wpList_append_own_any rfl _ _ 27 rfl (bx + 1) 3 i0 _ 8 Tryz.underlying27 hI0 hZ0 hZ1 hZ2 rfl (.slice (some ⟨bx + 1, 0, none⟩) 0 0) 0 [] rfl HOE.out vp vn vc (vars.map (Value.int .i64)) rfl hlv HNI.out HVC.out (ints_oneCell .i64 vars) hmx (by omega) hsz2 ?_)
 intro v3 W3 ho3 hg3
 have F13 : Hid (Fr (fun _ => True) W1 W3) := own_grown ((Fr.refl _ W1).alloc _) (by rw [hsz1]; exact HOE.out) hg3
 have F3 : Hid (Fr (fun _ => True) w0 W3) := F1.out.trans F13.out
 have X3 : Hid (LM _ _ _ W3 _ _ _ _ _ _ _ _ _ _ _) := X1.out.grew F13.out
 have B3 : Hid (W3.heap[bx]? = some (.cells #[.int .i64 ok, .int .i64 oa, .int .i64 ob, .int .i64 oc, .slice vp vn vc, vb] 30 (0, 0))) := (F13.out.block bx (block_lt B1.out) trivial).trans B1.out
 have ZA3 : Hid (BVz L W3 _ _) := ZA.out.frg F13.out fun _ _ _ => trivial
 have ZB3 : Hid (BVz L W3 _ _) := ZB.out.frg F13.out fun _ _ _ => trivial
 have ZC3 : Hid (BVz L W3 _ _) := ZC.out.frg F13.out fun _ _ _ => trivial
 have Z03 : Hid (BVz L W3 _ _) := Z0.out.frg F13.out fun _ _ _ => trivial
 have Z13 : Hid (BVz L W3 _ _) := Z1.out.frg F13.out fun _ _ _ => trivial
 obtain ⟨vq, vqc, hv3⟩ := own_slice ho3
 subst hv3
 have HQ3 : Hid (W3.ownsRow (bx + 1) 3 1 (.slice vq vn vqc) vn (vars.map (Value.int .i64))) := by first | exact ho3 | (rw [Nat.zero_add, List.nil_append] at ho3; exact ho3)
 have LQ3 : Hid (∀ k, (Value.slice vq vn vqc).ownBlock = some k → L.own k = 0) := fun k hk => X1.out.tat.hi k (by have := (HQ3.out.lt k hk).1; omega)
 have c0 := X3.out.c.1
 have d0 := block_cell B3.out 0
 obtain ⟨hroom1, hroom2, hroom3, hroom4⟩ := HP.out.rooms
 clear ho3 hg3 HOE HVC hmx hlv hsz2 ZA ZB ZC Z0 Z1 F13 F1 X1 B1 c1 c2 c3 d1 d2 d3 d4 cx cy cz cfa cfb cfc cf0 cf1 hsz1
 clear hroom1 hroom2 hroom3 hroom4 ZA3 ZB3 ZC3 Z03 Z13 c0
 go_wp2_with fail
 go_ret3
 exact ⟨_, _, rfl, X3.out, F3.out⟩
end Go.Proofs.YtaakjjefnjbabaaGreat.Sx
namespace Go.Proofs.YtaakjjefnjbabaaGreat.Sx
open Go.RowKit Go.Sort Go.Maps Go.WideMaps
def MadePost2 (w0 W : World) (L : Ly) (wb tb n : Nat) (lv : Nat → Nat) (T : Tb) (nodes : List Nat) (fs given : List (List Bool)) (ord : List Nat) (nv fv ov gv : Value) (e : Ending) (w' : World) : Prop := ∃ (x : Nat) (F : (Nat → Bool) → Bool) (T' : Tb) (L' : Ly) (fx : Value), e = .returned (.tuple #[.int .i64 (x : Int), fx, .bool true]) ∧ LM w0.heap.size wb tb w' L' n T' nodes fs given ord nv fv ov gv ∧ Out n lv MM T x F T' ∧ BVz L' w' fx (tab n (vl n T' x)) ∧ Fr (fun _ => True) w0 w' ∧ Fr (fun b => L.own b = 0) W w'
theorem Fr.tableK {L L' : Ly} {W w w' : World} (f : Fr (fun b => L.own b = 0) W w) (h : FrT L L' w w') : Fr (fun b => L.own b = 0) W w' :=
 ⟨h.os.trans f.os, h.tape.trans f.tape, h.output.trans f.output, Nat.le_trans f.size h.size, fun b hb hq => (h.block b (Nat.lt_of_lt_of_le hb f.size) hq).trans (f.block b hb hq)⟩
end Go.Proofs.YtaakjjefnjbabaaGreat.Sx
