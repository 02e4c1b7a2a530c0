/- A table in memory: its rows, cell by cell; has, known, parts. -/
import Derived.Test.YtaakjjefnjbabaaGreatQ00
import Derived.Deep.LoopGhost
import Derived.Shelf.RegionOpenPlain
import Derived.Deep.RegionHeld3
set_option maxRecDepth 100000
namespace Go.Proofs.YtaakjjefnjbabaaGreat.Sx
open Go.RowKit Go.Sort Go.Maps Go.WideMaps
structure RowsG (w : World) (L : Ly) (T : Tb) (g cap : Nat) : Prop where
 eq : L.val 4 = .slice (some ⟨g, 0, none⟩) T.rows.length cap
 own : L.own g = 4
 lt : g < w.heap.size
 cell : ∀ (i j : Nat) (r : Rw), T.rows[i]? = some r → j < 5 → w.cell? ⟨g, i * 5 + j, none⟩ = (rwV r)[j]?
 frz : ∀ i : Nat, w.frozen? ⟨g, i, none⟩ = false
theorem lt_of_at {α : Type} {l : List α} {i : Nat} {x : α} (h : l[i]? = some x) : i < l.length := (List.getElem?_eq_some_iff.1 h).1
section
variable {w w' : World} {tb : Nat} {L : Ly} {T : Tb} {g cap f : Nat} {r : Rw}
theorem TAt.rowsG (h : TAt w tb L T) (hr : T.rows[f]? = some r) : ∃ g cap, RowsG w L T g cap := by
 have h4 := h.sl 4 (by omega) (by omega) trivial
 have hl : 0 < T.rows.length := by have := lt_of_at hr; omega
 have e1 : T.len 4 = T.rows.length := rfl
 have e2 : T.cells 4 = flatR T.rows := rfl
 rw [e1, e2] at h4
 rcases h4.1.2 with ⟨_, hn⟩ | ⟨g, cap, cur, e, _, hg, hc, _, hs, ht⟩
 · omega
 · refine ⟨g, cap, e, h4.2 g (by rw [e]; rfl), block_lt hg, fun i j r hr hj => ?_, fun i => frozen_block hg i⟩
   have := flatR_at T.rows i j r hr hj
   rw [block_cell hg, ← this, ← ht, List.getElem?_take]
   have hi := lt_of_at hr
   rw [if_pos (by show i * 5 + j < T.rows.length * esz 4; have : esz 4 = 5 := rfl; rw [this]; omega)]
   simp
theorem RowsG.next (h : RowsG w L T g cap) (h' : TAt w' tb L T) (hr : T.rows[f]? = some r) : RowsG w' L T g cap := by
 obtain ⟨g', cap', k⟩ := h'.rowsG hr
 have e := h.eq
 rw [k.eq] at e
 cases e
 exact k
theorem RowsG.of {n : Nat} (e : L.val 4 = .slice (some ⟨g, 0, none⟩) n cap) (h : TAt w tb L T) (hl : T.rows.length = n) (h0 : 0 < n) : RowsG w L T g cap := by
 obtain ⟨g', cap', k⟩ := h.rowsG (f := 0) (r := T.rows[0]'(by omega)) (List.getElem?_eq_getElem _)
 have e2 := k.eq
 rw [e] at e2
 cases e2
 exact k
theorem RowsG.c0 (h : RowsG w L T g cap) (hr : T.rows[f]? = some r) : w.cell? ⟨g, f * 5, none⟩ = some (.int .i64 r.about) := h.cell f 0 r hr (by omega)
theorem RowsG.c1 (h : RowsG w L T g cap) (hr : T.rows[f]? = some r) : w.cell? ⟨g, f * 5 + 1, none⟩ = some (.int .i64 (r.low : Int)) := h.cell f 1 r hr (by omega)
theorem RowsG.c2 (h : RowsG w L T g cap) (hr : T.rows[f]? = some r) : w.cell? ⟨g, f * 5 + 2, none⟩ = some (.int .i64 (r.high : Int)) := h.cell f 2 r hr (by omega)
theorem RowsG.c3 (h : RowsG w L T g cap) (hr : T.rows[f]? = some r) : w.cell? ⟨g, f * 5 + 3, none⟩ = some (.int .i64 (r.users : Int)) := h.cell f 3 r hr (by omega)
theorem RowsG.c4 (h : RowsG w L T g cap) (hr : T.rows[f]? = some r) : w.cell? ⟨g, f * 5 + 4, none⟩ = some (.bool r.given) := h.cell f 4 r hr (by omega)
theorem TAt.b2 (h : TAt w tb L T) (hg : RowsG w' L T g cap) : w.cell? ⟨tb, 2, none⟩ = some (.slice (some ⟨g, 0, none⟩) T.rows.length cap) := by
 rw [h.cell 2]; show some (L.val 4) = _; rw [hg.eq]
theorem TAt.len (h : TAt w tb L T) (t : Nat) (h1 : 2 ≤ t) (h2 : t ≤ 6) : ∃ a cap, L.val t = .slice a (T.len t) cap := (h.sl t h1 h2 trivial).form
theorem TAt.setRow (h : TAt w tb L T) (hg : RowsG w L T g cap) {j : Nat} (r' : Rw) {v : Value} (hr : T.rows[f]? = some r) (hj : j < 5) (hv : rwV r' = (rwV r).set j v) :
 TAt (w.setCell ⟨g, f * 5 + j, none⟩ v) tb L { T with rows := T.rows.set f r' } ∧ FrT L L w (w.setCell ⟨g, f * 5 + j, none⟩ v) := by
 have f1 : Fr (· ≠ g) w (w.setCell ⟨g, f * 5 + j, none⟩ v) := (Fr.refl _ w).set (by simp) _
 have h4 := h.sl 4 (by omega) (by omega) trivial
 refine ⟨?_, FrT.of f1 fun b _ h0 e => by rw [e, hg.own] at h0; cases h0⟩
 have hk : TAtK (· ≠ 4) (w.setCell ⟨g, f * 5 + j, none⟩ v) tb L T := (h.mono (K := (· ≠ 4))).fr fun b hb q => f1.block b hb fun e => q (by rw [e]; exact hg.own)
 refine ⟨hk.join (t := 4) ⟨fun s hs => ?_, fun _ => rfl, fun _ => rfl⟩ (by omega) ⟨fun q => absurd q (by omega), fun t _ _ q => ?_, fun q => absurd q (by omega), fun q => absurd q (by omega)⟩, fun b hb => h.hi b (by simpa using hb)⟩
 · unfold Tb.len Tb.cells
   simp [hs]
 · subst q
   have e1 : T.len 4 = T.rows.length := rfl
   have e2 : T.cells 4 = flatR T.rows := rfl
   rw [e1, e2, hg.eq] at h4
   rcases h4.1.2 with ⟨e, _⟩ | ⟨g', cap', cur, e, h1, h2, h3, h5, h6, h7⟩
   · cases e
   · cases e
     rw [hg.eq]
     have e3 : Tb.len { T with rows := T.rows.set f r' } 4 = T.rows.length := by show (T.rows.set f r').length = _; rw [List.length_set]
     have e4 : Tb.cells { T with rows := T.rows.set f r' } 4 = (flatR T.rows).set (f * 5 + j) v := flatR_set T.rows f j r r' v hr hj hv
     rw [e3, e4]
     refine ⟨⟨?_, .inr ⟨g, cap, _, rfl, h1, set_block h2 _ v, h3, h5, by simpa using h6, ?_⟩⟩, h4.2⟩
     · rw [List.length_set]; exact h4.1.1
     · rw [← h7]; simp [List.take_set]
end
section
variable {w : World} {tb : Nat} {L : Ly} {T : Tb}
theorem TAt.b0 (h : TAt w tb L T) : ∃ a cap, w.cell? ⟨tb, 0, none⟩ = some (.slice a T.ord.length cap) := by
 obtain ⟨a, cap, e⟩ := h.len 2 (by omega) (by omega)
 exact ⟨a, cap, by rw [h.cell 0]; show some (L.val 2) = _; rw [e]; rfl⟩
set_option maxHeartbeats 1000000 in
theorem has_any (h : TAt w tb L T) (i : Int) (b : Bool) (hb : (decide (0 ≤ i) && decide (i < T.ord.length)) = b) :
 Calls Tryz.prog 62 #[.pointer (some ⟨tb, 0, none⟩), .int .i64 i] w fun e w' => e = .returned (.bool b) ∧ w' = w := by
 obtain ⟨a, cap, h0⟩ := h.b0
 subst hb
 clear h
 have mo := follows
 by_cases hi : 0 ≤ i
 · go_enter Tryz.func62, Tryz.ntmps62
   go_wp2_with fail
   go_ret
   exact ⟨by simp [hi], rfl⟩
 · have hi2 : decide (0 ≤ i) = false := by simpa using hi
   go_enter Tryz.func62, Tryz.ntmps62
   go_wp2_with fail
   go_ret
   exact ⟨rfl, rfl⟩
set_option maxHeartbeats 1000000 in
theorem known_any (h : TAt w tb L T) (f : Nat) (r : Rw) (hr : T.rows[f]? = some r) (hn : r.about ≠ -1) :
 Calls Tryz.prog 58 #[.pointer (some ⟨tb, 0, none⟩), .int .i64 (f : Int)] w fun e w' => e = .returned (.int .i64 (f : Int)) ∧ w' = w := by
 obtain ⟨g, cap, hG⟩ := h.rowsG hr
 have h2 := h.b2 hG
 have hf := lt_of_at hr
 have c0 := hG.c0 hr
 have n1 : ¬ (f : Int) < 0 := by omega
 have n2 : ¬ T.rows.length ≤ f := by omega
 have n3 : (r.about == -1) = false := by simpa using hn
 clear hG h
 have mo := follows
 go_enter Tryz.func58, Tryz.ntmps58
 go_wp2_with fail
 go_ret
 exact ⟨rfl, rfl⟩
set_option maxHeartbeats 1000000 in
theorem parts_any (h : TAt w tb L T) (f : Nat) (r : Rw) (hr : T.rows[f]? = some r) (ab : Int) (b : Bool) (hb : (r.about == ab) = b) :
 Calls Tryz.prog 92 #[.pointer (some ⟨tb, 0, none⟩), .int .i64 (f : Int), .int .i64 ab] w fun e w' => e = .returned (.tuple #[.int .i64 ((if b then r.low else f : Nat) : Int), .int .i64 ((if b then r.high else f : Nat) : Int)]) ∧ Fr (fun _ => True) w w' := by
 obtain ⟨g, cap, hG⟩ := h.rowsG hr
 have h2 := h.b2 hG
 have hf := lt_of_at hr
 have c0 := hG.c0 hr
 have c1 := hG.c1 hr
 have c2 := hG.c2 hr
 clear hG h
 have mo := follows
 cases b with
 | true =>
   obtain rfl : r.about = ab := by simpa using hb
   go_enter Tryz.func92, Tryz.ntmps92
   go_wp2_with fail
   have HF : Hid (Fr (fun _ => True) w (w.alloc (.cells #[.int .i64 r.about, .int .i64 (r.low : Int), .int .i64 (r.high : Int)] 89))) := (Fr.refl _ w).alloc _
   have HB : Hid ((w.alloc (.cells #[.int .i64 r.about, .int .i64 (r.low : Int), .int .i64 (r.high : Int)] 89)).heap[w.heap.size]? = some (.cells #[.int .i64 r.about, .int .i64 (r.low : Int), .int .i64 (r.high : Int)] 89 (0, 0))) := heap_new rfl
   clear h2 c0 c1 c2
   generalize (w.alloc (.cells #[.int .i64 r.about, .int .i64 (r.low : Int), .int .i64 (r.high : Int)] 89)) = W at HF HB ⊢
   generalize w.heap.size = ba at HB ⊢
   have HBd : Hid (W.drew.heap[ba]? = _) := HB.out
   have a1 := block_cell HB.out 1
   have a2 := block_cell HB.out 2
   have a1d := block_cell HBd.out 1
   have a2d := block_cell HBd.out 2
   go_big_region_o
   all_goals
    clear a1 a2 a1d a2d
    go_wp2_with fail
    exact bodyPost_ret (v := .tuple #[.int .i64 (r.low : Int), .int .i64 (r.high : Int)]) (by simp [results, Tryz.results92, go_sem]) rfl ⟨rfl, HF.out.drew⟩
 | false =>
   go_enter Tryz.func92, Tryz.ntmps92
   go_wp2_with fail
   exact bodyPost_ret (v := .tuple #[.int .i64 (f : Int), .int .i64 (f : Int)]) (by simp [results, Tryz.results92, go_sem]) rfl ⟨rfl, (Fr.refl _ w).alloc _⟩
end
end Go.Proofs.YtaakjjefnjbabaaGreat.Sx
namespace Go.Proofs.YtaakjjefnjbabaaGreat.Sx
open Go.RowKit Go.Sort Go.Maps Go.WideMaps
theorem idxT_0 (a b c : Value) (w : World) : (Instr.index 115 (.agg #[a, b, c]) (.int .i64 ((0 : Nat) : Int))).run Tryz.prog w = .ok a w := by kernel_rfl
theorem idxT_1 (a b c : Value) (w : World) : (Instr.index 115 (.agg #[a, b, c]) (.int .i64 ((1 : Nat) : Int))).run Tryz.prog w = .ok b w := by kernel_rfl
theorem idxT_2 (a b c : Value) (w : World) : (Instr.index 115 (.agg #[a, b, c]) (.int .i64 ((2 : Nat) : Int))).run Tryz.prog w = .ok c w := by kernel_rfl
def upr (lv : Nat → Nat) (t a : Nat) : Nat := if lv a < lv t then a else t
def topN (lv : Nat → Nat) (n a0 a1 a2 : Nat) : Nat → Nat
 | 0 => n
 | 1 => upr lv n a0
 | 2 => upr lv (upr lv n a0) a1
 | _ => upr lv (upr lv (upr lv n a0) a1) a2
theorem upr_le {lv : Nat → Nat} {t a n : Nat} (h1 : t ≤ n) (h2 : a ≤ n) : upr lv t a ≤ n := by unfold upr; split <;> assumption
structure LevG (w : World) (L : Ly) (T : Tb) (g cap : Nat) : Prop where
 eq : L.val 3 = .slice (some ⟨g, 0, none⟩) T.lev.length cap
 own : L.own g = 3
 lt : g < w.heap.size
 cell : ∀ (i x : Nat), T.lev[i]? = some x → w.cell? ⟨g, i, none⟩ = some (.int .i64 (x : Int))
 frz : ∀ i : Nat, w.frozen? ⟨g, i, none⟩ = false
theorem i64C_at {l : List Nat} {i x : Nat} (h : l[i]? = some x) : (i64C l)[i]? = some (.int .i64 (x : Int)) := by simp [i64C, h]
section
variable {w w' : World} {tb : Nat} {L : Ly} {T : Tb} {g cap f : Nat} {r : Rw}
theorem OwnR.ints {own : Nat → Nat} {t e : Nat} {v : Value} {l : List Nat} (h : OwnR w own t e 1 v l.length (i64C l)) (hl : l ≠ []) : ∃ g cap, v = .slice (some ⟨g, 0, none⟩) l.length cap ∧ own g = t ∧ g < w.heap.size ∧ (∀ (i x : Nat), l[i]? = some x → w.cell? ⟨g, i, none⟩ = some (.int .i64 (x : Int))) ∧ (∀ i : Nat, w.frozen? ⟨g, i, none⟩ = false) ∧ cap ≤ maxLen ∧ l.length ≤ cap := by
 have h0 : 0 < l.length := List.length_pos_iff.2 hl
 rcases h.1.2 with ⟨_, hn⟩ | ⟨g, cap, cur, e1, _, hg, hc, hm, hs, ht⟩
 · omega
 · refine ⟨g, cap, e1, h.2 g (by rw [e1]; rfl), block_lt hg, fun i x hx => ?_, fun i => frozen_block hg i, hm, hc⟩
   have hi := lt_of_at hx
   rw [block_cell hg]
   have := i64C_at hx
   rw [← ht, List.getElem?_take, if_pos (by omega)] at this
   simpa using this
theorem TAt.levG (h : TAt w tb L T) (hl : T.lev ≠ []) : ∃ g cap, LevG w L T g cap := by
 obtain ⟨g, cap, a1, a2, a3, a4, a5, _⟩ := (show OwnR w L.own 3 (ety 3) 1 (L.val 3) T.lev.length (i64C T.lev) from h.sl 3 (by omega) (by omega) trivial).ints hl
 exact ⟨g, cap, a1, a2, a3, a4, a5⟩
theorem LevG.next (h : LevG w L T g cap) (h' : TAt w' tb L T) (hl : T.lev ≠ []) : LevG w' L T g cap := by
 obtain ⟨g', cap', k⟩ := h'.levG hl
 have e := h.eq
 rw [k.eq] at e
 cases e
 exact k
theorem TAt.b1 (h : TAt w tb L T) (hg : LevG w' L T g cap) : w.cell? ⟨tb, 1, none⟩ = some (.slice (some ⟨g, 0, none⟩) T.lev.length cap) := by
 rw [h.cell 1]; show some (L.val 3) = _; rw [hg.eq]
end
set_option maxHeartbeats 1000000 in
theorem top_any {w : World} {tb : Nat} {L : Ly} {T : Tb} (h : TAt w tb L T) (lv : Nat → Nat) (hlen : T.lev.length = T.ord.length + 1) (hlv : ∀ a, a ≤ T.ord.length → T.lev[a]? = some (lv a)) (f0 f1 f2 a0 a1 a2 : Nat) (r0 r1 r2 : Rw) (hr0 : T.rows[f0]? = some r0) (hr1 : T.rows[f1]? = some r1) (hr2 : T.rows[f2]? = some r2) (e0 : r0.about = (a0 : Int)) (e1 : r1.about = (a1 : Int)) (e2 : r2.about = (a2 : Int)) (l0 : a0 ≤ T.ord.length) (l1 : a1 ≤ T.ord.length) (l2 : a2 ≤ T.ord.length) :
 Calls Tryz.prog 91 #[.pointer (some ⟨tb, 0, none⟩), .agg #[.int .i64 (f0 : Int), .int .i64 (f1 : Int), .int .i64 (f2 : Int)]] w fun e w' => e = .returned (.int .i64 (topN lv T.ord.length a0 a1 a2 3 : Int)) ∧ Fr (fun _ => True) w w' := by
 obtain ⟨oa, oc, h0⟩ := (h.alloc (.cells #[.int .i64 (f0 : Int), .int .i64 (f1 : Int), .int .i64 (f2 : Int)] 115)).b0
 have HG : Hid (TAt (w.alloc (.cells #[.int .i64 (f0 : Int), .int .i64 (f1 : Int), .int .i64 (f2 : Int)] 115)) tb L T) := h.alloc _
 have HF : Hid (Fr (fun _ => True) w (w.alloc (.cells #[.int .i64 (f0 : Int), .int .i64 (f1 : Int), .int .i64 (f2 : Int)] 115))) := (Fr.refl _ w).alloc _
 have hle : T.lev ≠ [] := fun q => by rw [q] at hlen; simp at hlen
 obtain ⟨n, hn⟩ : ∃ n, T.ord.length = n := ⟨_, rfl⟩
 rw [hn] at hlen hlv l0 l1 l2 h0 ⊢
 obtain ⟨g, cap, G⟩ := h.rowsG hr0
 obtain ⟨lg, lcap, LG⟩ := h.levG hle
 have HGG : Hid (RowsG w L T g cap) := G
 have HLG : Hid (LevG w L T lg lcap) := LG
 have HLV : Hid (∀ a, a ≤ n → T.lev[a]? = some (lv a)) := hlv
 have HR0 : Hid (T.rows[f0]? = some r0) := hr0
 have mo := follows
 have HN : Hid (T.ord.length = n) := hn
 clear h G LG hlv hn
 go_enter Tryz.func91, Tryz.ntmps91
 go_wp2_with fail
 clear h0
 generalize (w.alloc (.cells #[.int .i64 (f0 : Int), .int .i64 (f1 : Int), .int .i64 (f2 : Int)] 115)) = W at HG HF ⊢
 generalize w.heap.size = ba
 have HA : Hid (∀ j : Nat, j < 3 → ∃ (f a : Nat) (r : Rw), (∀ W : World, (Instr.index 115 (.agg #[.int .i64 (f0 : Int), .int .i64 (f1 : Int), .int .i64 (f2 : Int)]) (.int .i64 (j : Int))).run Tryz.prog W = .ok (.int .i64 (f : Int)) W) ∧ T.rows[f]? = some r ∧ r.about = (a : Int) ∧ a ≤ n ∧ topN lv n a0 a1 a2 (j + 1) = upr lv (topN lv n a0 a1 a2 j) a) := by
  intro j hj
  match j, hj with
  | 0, _ => exact ⟨f0, a0, r0, fun W => idxT_0 _ _ _ W, hr0, e0, l0, rfl⟩
  | 1, _ => exact ⟨f1, a1, r1, fun W => idxT_1 _ _ _ W, hr1, e1, l1, rfl⟩
  | 2, _ => exact ⟨f2, a2, r2, fun W => idxT_2 _ _ _ W, hr2, e2, l2, rfl⟩
 go_loopg [5, 15] (3) (fun k s5 s15 wr => ∃ j : Nat, s15 = .int .i64 (j : Int) ∧ s5 = .int .i64 (topN lv n a0 a1 a2 j : Int) ∧ j + k = 3 ∧ topN lv n a0 a1 a2 j ≤ n ∧ Hid (TAt wr tb L T) ∧ Hid (Fr (fun _ => True) w wr))
 case atStart => exact ⟨0, rfl, rfl, rfl, Nat.le_refl _, HG, HF⟩
 case round =>
  clear HG HF
  obtain ⟨j, rfl, rfl, hjk, htl, X, F⟩ := hrel
  by_cases hj : j < 3
  · obtain ⟨f, a, r, q1, q2, q3, q4, q5⟩ := HA.out j hj
    obtain ⟨k, rfl⟩ : ∃ k, gk = k + 1 := ⟨gk - 1, by omega⟩
    have hjl : (j : Int) < 3 := by omega
    have hj0 : (0 : Int) ≤ (j : Int) := by omega
    have XG := HGG.out.next X.out HR0.out
    have b2 := X.out.b2 XG
    have hf := lt_of_at q2
    have hf0 : (0 : Int) ≤ (f : Int) := by omega
    have c0 := XG.c0 q2
    rw [q3] at c0
    have qi := q1 wr
    clear q1 XG
    obtain ⟨t, ht⟩ : ∃ t, topN lv n a0 a1 a2 j = t := ⟨_, rfl⟩
    rw [ht] at htl q5 ⊢
    have XD : Hid (TAt wr.drew tb L T) := X.out.drew
    have FD : Hid (Fr (fun _ => True) w wr.drew) := F.out.drew
    have HQ5 : Hid (topN lv n a0 a1 a2 (j + 1) = upr lv t a) := q5
    clear q5 ht
    go_wp2_with fail
    have b1 := X.out.b1 HLG.out
    have b1d := XD.out.b1 HLG.out
    have v1 := (HLG.out.next X.out hle).cell a _ (HLV.out a q4)
    have v1d := (HLG.out.next XD.out hle).cell a _ (HLV.out a q4)
    have v2 := (HLG.out.next X.out hle).cell t _ (HLV.out t htl)
    have v2d := (HLG.out.next XD.out hle).cell t _ (HLV.out t htl)
    have g1 : (a : Int) < (T.lev.length : Int) := by omega
    have g2 : (t : Int) < (T.lev.length : Int) := by omega
    have g3 : (0 : Int) ≤ (a : Int) := by omega
    have g4 : (0 : Int) ≤ (t : Int) := by omega
    clear b2 c0 qi
    obtain ⟨x, hx⟩ : ∃ x, lv a = x := ⟨_, rfl⟩
    obtain ⟨y, hy⟩ : ∃ y, lv t = y := ⟨_, rfl⟩
    rw [hx] at v1 v1d
    rw [hy] at v2 v2d
    have hu : Hid (upr lv t a = if x < y then a else t) := by unfold upr; rw [hx, hy]; exact rfl
    clear hx hy
    go_big_region_o
    clear b1 b1d v1 v1d v2 v2d
    by_cases hat : x < y
    · have hat' : (x : Int) < (y : Int) := by omega
      have hr : Hid (topN lv n a0 a1 a2 (j + 1) = a) := HQ5.out.trans (hu.out.trans (if_pos hat))
      clear hu HQ5
      go_wp2_with fail
      go_roundg k
      case measure => omega
      case rel => exact ⟨j + 1, by simp, by rw [hr.out], by omega, by rw [hr.out]; omega, XD, FD⟩
    · have hat' : ¬ (x : Int) < (y : Int) := by omega
      have hr : Hid (topN lv n a0 a1 a2 (j + 1) = t) := HQ5.out.trans (hu.out.trans (if_neg hat))
      clear hu HQ5
      go_wp2_with fail
      go_roundg k
      case measure => omega
      case rel => exact ⟨j + 1, by simp, by rw [hr.out], by omega, by rw [hr.out]; omega, XD, FD⟩
  · obtain rfl : j = 3 := by omega
    have hjl : ¬ ((3 : Nat) : Int) < 3 := by omega
    go_wp2_with fail
    go_ret
    exact ⟨rfl, F.out⟩
end Go.Proofs.YtaakjjefnjbabaaGreat.Sx
namespace Go.Proofs.YtaakjjefnjbabaaGreat.Sx
open Go.RowKit Go.Sort Go.Maps Go.WideMaps
section
variable {w w' : World} {tb : Nat} {L : Ly} {T : Tb}
theorem TAt.maps (h : TAt w tb L T) {M : List ((Int × Nat × Nat) × Nat)} (f : Fr (· ≠ L.mb) w w') (hm : MapIs 89 w' L.mb (madeL M)) (hn : (M.map Prod.fst).Nodup) : TAt w' tb L { T with made := M } ∧ FrT L L w w' := by
 have ho := (h.md trivial).2.1
 have hk : TAtK (· ≠ 7) w' tb L T := (h.mono (K := (· ≠ 7))).fr fun b hb q => f.block b hb fun e => q (by rw [e]; exact ho)
 exact ⟨⟨hk.join (t := 7) ⟨fun s _ => ⟨rfl, rfl⟩, fun q => absurd rfl q, fun _ => rfl⟩ (by omega) ⟨fun q => absurd q (by omega), fun t _ h6 q => absurd q (by omega), fun _ => ⟨hm, ho, hn⟩, fun q => absurd q (by omega)⟩, fun b hb => h.hi b (Nat.le_trans f.size hb)⟩, FrT.of f fun b _ h0 e => by rw [e, ho] at h0; cases h0⟩
theorem TAt.finds (h : TAt w tb L T) {M : List ((Nat × Nat × Nat) × Nat)} (f : Fr (· ≠ L.fb) w w') (hm : MapIs 115 w' L.fb (foundL M)) (hn : (M.map Prod.fst).Nodup) : TAt w' tb L { T with found := M } ∧ FrT L L w w' := by
 have ho := (h.fd trivial).2.1
 have hk : TAtK (· ≠ 8) w' tb L T := (h.mono (K := (· ≠ 8))).fr fun b hb q => f.block b hb fun e => q (by rw [e]; exact ho)
 exact ⟨⟨hk.join (t := 8) ⟨fun s _ => ⟨rfl, rfl⟩, fun _ => rfl, fun q => absurd rfl q⟩ (by omega) ⟨fun q => absurd q (by omega), fun t _ h6 q => absurd q (by omega), fun q => absurd q (by omega), fun _ => ⟨hm, ho, hn⟩⟩, fun b hb => h.hi b (Nat.le_trans f.size hb)⟩, FrT.of f fun b _ h0 e => by rw [e, ho] at h0; cases h0⟩
theorem TAt.b4 (h : TAt w tb L T) : w.cell? ⟨tb, 4, none⟩ = some (.map (some L.mb)) := h.cell 4
theorem TAt.b5 (h : TAt w tb L T) : w.cell? ⟨tb, 5, none⟩ = some (.map (some L.fb)) := h.cell 5
end
theorem askV_inj {a b : Int × Nat × Nat} (h : askV a = askV b) : a = b := by
 obtain ⟨a1, a2, a3⟩ := a
 obtain ⟨b1, b2, b3⟩ := b
 simp only [askV, Value.agg.injEq] at h
 have h := congrArg Array.toList h
 simp only [List.cons.injEq, Value.int.injEq, true_and, and_true] at h
 obtain ⟨q1, q2, q3⟩ := h
 have q1 : a1 = b1 := q1
 have q2 : (a2 : Int) = b2 := q2
 have q3 : (a3 : Int) = b3 := q3
 rw [q1, Int.ofNat_inj.1 q2, Int.ofNat_inj.1 q3]
theorem triV_inj {a b : Nat × Nat × Nat} (h : triV a = triV b) : a = b := by
 obtain ⟨a1, a2, a3⟩ := a
 obtain ⟨b1, b2, b3⟩ := b
 simp only [triV, Value.agg.injEq] at h
 have h := congrArg Array.toList h
 simp only [List.cons.injEq, Value.int.injEq, true_and, and_true] at h
 obtain ⟨q1, q2, q3⟩ := h
 have q1 : (a1 : Int) = b1 := q1
 have q2 : (a2 : Int) = b2 := q2
 have q3 : (a3 : Int) = b3 := q3
 rw [Int.ofNat_inj.1 q1, Int.ofNat_inj.1 q2, Int.ofNat_inj.1 q3]
theorem nodup_push {α β : Type} {l : List (α × β)} {k : α} {v : β} (hn : (l.map Prod.fst).Nodup) (hk : ∀ p ∈ l, p.1 ≠ k) : ((l ++ [(k, v)]).map Prod.fst).Nodup := by
 simp only [List.map_append, List.map_cons, List.map_nil]
 refine List.nodup_append.2 ⟨hn, by simp, fun a ha b hb => ?_⟩
 simp only [List.mem_singleton] at hb
 subst hb
 obtain ⟨p, hp, rfl⟩ := List.mem_map.1 ha
 exact hk p hp
theorem madeL_push (M : List ((Int × Nat × Nat) × Nat)) (k : Int × Nat × Nat) (f : Nat) : madeL (M ++ [(k, f)]) = madeL M ++ [(askV k, .int .i64 (f : Int))] := by simp [madeL]
theorem madeL_ne {M : List ((Int × Nat × Nat) × Nat)} {k : Int × Nat × Nat} (hk : ∀ p ∈ M, p.1 ≠ k) : ∀ p ∈ madeL M, p.1 ≠ askV k := by
 intro p hp q
 obtain ⟨x, hx, rfl⟩ := List.mem_map.1 hp
 exact hk x hx (askV_inj q)
def Sm (x : Nat) : Prop := x ≤ 1099511627776
theorem Sm.fits {x : Nat} (h : Sm x) : Fits (x : Int) := by unfold Sm at h; exact ⟨by omega, by omega⟩
def layR (R : List Rw) (f : Nat) (ab : Int) (lo hh : Nat) (r r1 r2 : Rw) : List Rw := ((R.set f { r with about := ab, low := lo, high := hh }).set lo { r1 with users := r1.users + 1 }).set hh { r2 with users := r2.users + 1 }
set_option maxHeartbeats 1000000 in
theorem lay_any {w : World} {tb : Nat} {L : Ly} {T : Tb} (h : TAt w tb L T) (f : Nat) (ab : Int) (lo hh : Nat) (r r1 r2 : Rw) (hab : Fits ab) (hlo : Sm lo) (hhi : Sm hh)
 (hr : T.rows[f]? = some r) (h1 : (T.rows.set f { r with about := ab, low := lo, high := hh })[lo]? = some r1) (h2 : ((T.rows.set f { r with about := ab, low := lo, high := hh }).set lo { r1 with users := r1.users + 1 })[hh]? = some r2) (hu1 : Sm r1.users) (hu2 : Sm r2.users)
 (hk : ∀ p ∈ T.made, p.1 ≠ (ab, lo, hh)) :
 Calls Tryz.prog 60 #[.pointer (some ⟨tb, 0, none⟩), .int .i64 (f : Int), askV (ab, lo, hh)] w fun e w' => e = .returned (.tuple #[]) ∧ TAt w' tb L { T with rows := layR T.rows f ab lo hh r r1 r2, made := T.made ++ [((ab, lo, hh), f)] } ∧ FrT L L w w' := by
 obtain ⟨g, cap, G⟩ := h.rowsG hr
 have hu1' : r1.users ≤ 1099511627776 := hu1
 have hu2' : r2.users ≤ 1099511627776 := hu2
 have b2 := h.b2 G
 have hfl := lt_of_at hr
 have z0 := G.frz (f * 5)
 have z1 := G.frz (f * 5 + 1)
 have z2 := G.frz (f * 5 + 2)
 have c0 := G.c0 hr
 have c1 := G.c1 hr
 have c2 := G.c2 hr
 have HG : Hid (TAt w tb L T) := h
 have HR : Hid (RowsG w L T g cap) := G
 have mo := follows
 unfold askV
 have hsz := block_lt (h.st trivial).1
 have hga := G.lt
 clear G h
 go_enter Tryz.func60, Tryz.ntmps60
 go_wp2_with fail
 have HB : Hid (TAt (w.alloc (.cells #[.int .i64 ab, .int .i64 (lo : Int), .int .i64 (hh : Int)] 89)) tb L T) := HG.out.alloc _
 have HF : Hid (FrT L L w (w.alloc (.cells #[.int .i64 ab, .int .i64 (lo : Int), .int .i64 (hh : Int)] 89))) := FrT.of ((Fr.refl (fun _ => True) w).alloc _) fun _ _ _ => trivial
 have hBk : Hid ((w.alloc (.cells #[.int .i64 ab, .int .i64 (lo : Int), .int .i64 (hh : Int)] 89)).heap[w.heap.size]? = some (.cells #[.int .i64 ab, .int .i64 (lo : Int), .int .i64 (hh : Int)] 89 (0, 0))) := heap_new rfl
 have hba0 : L.own w.heap.size = 0 := HG.out.hi _ (Nat.le_refl _)
 clear b2 z0 z1 z2 c0 c1 c2
 generalize (w.alloc (.cells #[.int .i64 ab, .int .i64 (lo : Int), .int .i64 (hh : Int)] 89)) = W at HB HF hBk ⊢
 obtain ⟨ba, hba⟩ : ∃ ba, w.heap.size = ba := ⟨_, rfl⟩
 rw [hba] at hBk hga hsz hba0 ⊢
 have HBA : Hid (L.own ba = 0) := hba0
 clear HG hba0
 have HD : Hid (TAt W.drew tb L T) := HB.out.drew
 have hBd : W.drew.heap[ba]? = some (.cells #[.int .i64 ab, .int .i64 (lo : Int), .int .i64 (hh : Int)] 89 (0, 0)) := hBk.out
 have G1 := HR.out.next HB.out hr
 have G1d := HR.out.next HD.out hr
 have b2 := HB.out.b2 G1
 have b2d := HD.out.b2 G1
 have a0 := block_cell hBk.out 0
 have a1 := block_cell hBk.out 1
 have a2 := block_cell hBk.out 2
 have a0d := block_cell hBd 0
 have a1d := block_cell hBd 1
 have a2d := block_cell hBd 2
 have z0 := G1.frz (f * 5)
 have z1 := G1.frz (f * 5 + 1)
 have z2 := G1.frz (f * 5 + 2)
 have z0d := G1d.frz (f * 5)
 have z1d := G1d.frz (f * 5 + 1)
 have z2d := G1d.frz (f * 5 + 2)
 have c0 := G1.c0 hr
 have c1 := G1.c1 hr
 have c2 := G1.c2 hr
 have c0d := G1d.c0 hr
 have c1d := G1d.c1 hr
 have c2d := G1d.c2 hr
 have hgb : g ≠ ba := by omega
 have hbb : tb ≠ ba := by omega
 clear hBd
 have HG1 : Hid (RowsG W L T g cap) := G1
 clear G1 G1d HR
 go_big_region_o
 have e1 : ((T.rows.set f { r with about := ab }).set f { r with about := ab, low := lo }).set f { r with about := ab, low := lo, high := hh } = T.rows.set f { r with about := ab, low := lo, high := hh } := by simp
 obtain ⟨q1, p1⟩ := HB.out.setRow HG1.out { r with about := ab } (j := 0) (v := .int .i64 ab) hr (by omega) rfl
 have k1 : ({ T with rows := T.rows.set f { r with about := ab } } : Tb).rows[f]? = some { r with about := ab } := List.getElem?_set_self hfl
 have hv4 := HG1.out.eq
 have h0l : 0 < T.rows.length := by omega
 have hG2 : ∀ (W' : World) (T' : Tb), T'.rows.length = T.rows.length → TAt W' tb L T' → RowsG W' L T' g cap := fun W' T' hl hT => RowsG.of hv4 hT hl h0l
 have HG2 : Hid (∀ (W' : World) (T' : Tb), T'.rows.length = T.rows.length → TAt W' tb L T' → RowsG W' L T' g cap) := hG2
 clear hG2 hv4 h0l
 obtain ⟨q2, p2⟩ := q1.setRow (HG2.out _ _ (by simp) q1) { r with about := ab, low := lo } (j := 1) (v := .int .i64 (lo : Int)) k1 (by omega) rfl
 obtain ⟨q3, p3⟩ := q2.setRow (HG2.out _ _ (by simp) q2) { r with about := ab, low := lo, high := hh } (j := 2) (v := .int .i64 (hh : Int)) (r := { r with about := ab, low := lo }) (by show ((T.rows.set f _).set f _)[f]? = _; exact List.getElem?_set_self (by simpa using hfl)) (by omega) rfl
 have q3 : TAt (((W.setCell ⟨g, f * 5, none⟩ (.int .i64 ab)).setCell ⟨g, f * 5 + 1, none⟩ (.int .i64 (lo : Int))).setCell ⟨g, f * 5 + 2, none⟩ (.int .i64 (hh : Int))) tb L { T with rows := ((T.rows.set f { r with about := ab }).set f { r with about := ab, low := lo }).set f { r with about := ab, low := lo, high := hh } } := q3
 rw [e1] at q3
 have F3 : Hid (FrT L L w _) := HF.out.trans (((p1.trans p2).trans p3))
 have B3 : Hid (_ = _) := (((p1.trans p2).trans p3).block ba (block_lt hBk.out) HBA.out).trans hBk.out
 have HX : Hid (TAt _ tb L _) := q3
 clear q1 q2 q3 e1 p1 p2 p3 k1 b2 b2d a0 a1 a2 a0d a1d a2d z0 z1 z2 z0d z1d z2d c0 c1 c2 c0d c1d c2d HB HD HF hBk HG1
 simp only [Nat.add_zero] at HX F3 B3
 have HX' : Hid (TAt _ tb L _) := HX.out.drew
 have F3' : Hid (FrT L L w _) := F3.out.trans (FrT.of (Fr.refl (fun _ => True) _).drew fun _ _ _ => trivial)
 have B3' : Hid ((((W.setCell ⟨g, f * 5, none⟩ (.int .i64 ab)).setCell ⟨g, f * 5 + 1, none⟩ (.int .i64 (lo : Int))).setCell ⟨g, f * 5 + 2, none⟩ (.int .i64 (hh : Int))).drew.heap[ba]? = _) := B3.out
 clear HX F3 B3
 generalize (((W.setCell ⟨g, f * 5, none⟩ (.int .i64 ab)).setCell ⟨g, f * 5 + 1, none⟩ (.int .i64 (lo : Int))).setCell ⟨g, f * 5 + 2, none⟩ (.int .i64 (hh : Int))).drew = W3 at HX' F3' B3' ⊢
 generalize hR1 : T.rows.set f { r with about := ab, low := lo, high := hh } = R1 at HX' h1 h2 ⊢
 have hRl : R1.length = T.rows.length := by rw [← hR1]; simp
 have HX : Hid (TAt W3.drew tb L { T with rows := R1 }) := HX'.out.drew
 have F3 : Hid (FrT L L w W3.drew) := F3'.out.trans (FrT.of (Fr.refl (fun _ => True) _).drew fun _ _ _ => trivial)
 have B3 : Hid (W3.drew.heap[ba]? = _) := B3'.out
 obtain ⟨W4, hput, hm4, hf4, -⟩ := (HX.out.md trivial).1.put lawA Tryz.underlying77 (x := .agg #[.int .i64 ab, .int .i64 (lo : Int), .int .i64 (hh : Int)]) (keyA hab hlo.fits hhi.fits) (madeL_ne hk) (.int .i64 (f : Int))
 obtain ⟨x4, f4⟩ := HX.out.maps (M := T.made ++ [((ab, lo, hh), f)]) hf4 (by rw [madeL_push]; exact hm4) (nodup_push (HX.out.md trivial).2.2 hk)
 have X4 : Hid (TAt W4 tb L { T with rows := R1, made := T.made ++ [((ab, lo, hh), f)] }) := x4
 have F4 : Hid (FrT L L w W4) := F3.out.trans f4
 have B4 : Hid (W4.heap[ba]? = some (.cells #[.int .i64 ab, .int .i64 (lo : Int), .int .i64 (hh : Int)] 89 (0, 0))) := (f4.block ba (block_lt B3.out) HBA.out).trans B3.out
 have b4 := HX'.out.b4
 have a0 := block_cell B3'.out 0
 have a1 := block_cell B3'.out 1
 have a2 := block_cell B3'.out 2
 have b4d := HX.out.b4
 have a0d := block_cell B3.out 0
 have a1d := block_cell B3.out 1
 have a2d := block_cell B3.out 2
 clear x4 f4 hm4 hf4
 go_wp2_with fail
 go_big_region_o
 clear b4 a0 a1 a2 b4d a0d a1d a2d hput HX F3 B3 HX' F3' B3'
 have hl1 : lo < R1.length := lt_of_at h1
 have G4 := HG2.out _ _ (by exact hRl) X4.out
 have G4d := HG2.out _ _ (by exact hRl) X4.out.drew
 have b2 := X4.out.b2 G4
 have b2d := X4.out.drew.b2 G4
 have a1 := block_cell B4.out 1
 have B4d : W4.drew.heap[ba]? = _ := B4.out
 have a1d := block_cell B4d 1
 have c3 := G4.c3 h1
 have c3d := G4d.c3 h1
 have z3 := G4.frz (lo * 5 + 3)
 have z3d := G4d.frz (lo * 5 + 3)
 have n1 : (0 : Int) ≤ (lo : Int) := by omega
 have hc1 : ((r1.users + 1 : Nat) : Int) = (r1.users : Int) + 1 := by omega
 have HG4 : Hid (RowsG _ _ _ _ _) := G4
 clear B4d G4 G4d
 go_wp2_with fail
 go_big_region_o
 obtain ⟨q5, f5⟩ := X4.out.setRow HG4.out { r1 with users := r1.users + 1 } (j := 3) (v := .int .i64 ((r1.users : Int) + 1)) h1 (by omega) (by simp [rwV])
 have X5 : Hid (TAt (W4.setCell ⟨g, lo * 5 + 3, none⟩ (.int .i64 ((r1.users : Int) + 1))).drew tb L { T with rows := R1.set lo { r1 with users := r1.users + 1 }, made := T.made ++ [((ab, lo, hh), f)] }) := q5.drew
 have F5 : Hid (FrT L L w (W4.setCell ⟨g, lo * 5 + 3, none⟩ (.int .i64 ((r1.users : Int) + 1))).drew) := F4.out.trans (f5.trans (FrT.of (Fr.refl (fun _ => True) _).drew fun _ _ _ => trivial))
 have B5 : Hid ((W4.setCell ⟨g, lo * 5 + 3, none⟩ (.int .i64 ((r1.users : Int) + 1))).drew.heap[ba]? = _) := (f5.block ba (block_lt B4.out) HBA.out).trans B4.out
 clear q5 f5 b2 b2d a1 a1d c3 c3d z3 z3d n1 X4 F4 B4 hl1 HG4
 generalize (W4.setCell ⟨g, lo * 5 + 3, none⟩ (.int .i64 ((r1.users : Int) + 1))).drew = W5 at X5 F5 B5 ⊢
 generalize hR2 : R1.set lo { r1 with users := r1.users + 1 } = R2 at X5 h2 ⊢
 have hRl2 : R2.length = T.rows.length := by rw [← hR2]; simpa using hRl
 have hl1 : hh < R2.length := lt_of_at h2
 have G5 := HG2.out _ _ (by exact hRl2) X5.out
 have G5d := HG2.out _ _ (by exact hRl2) X5.out.drew
 have b2 := X5.out.b2 G5
 have b2d := X5.out.drew.b2 G5
 have a1 := block_cell B5.out 2
 have B5d : W5.drew.heap[ba]? = _ := B5.out
 have a1d := block_cell B5d 2
 have c3 := G5.c3 h2
 have c3d := G5d.c3 h2
 have z3 := G5.frz (hh * 5 + 3)
 have z3d := G5d.frz (hh * 5 + 3)
 have n1 : (0 : Int) ≤ (hh : Int) := by omega
 have hc2 : ((r2.users + 1 : Nat) : Int) = (r2.users : Int) + 1 := by omega
 have HG5 : Hid (RowsG _ _ _ _ _) := G5
 clear B5d G5 G5d
 go_wp2_with fail
 go_big_region_o
 obtain ⟨q6, f6⟩ := X5.out.setRow HG5.out { r2 with users := r2.users + 1 } (j := 3) (v := .int .i64 ((r2.users : Int) + 1)) h2 (by omega) (by simp [rwV])
 have X6 : Hid (TAt (W5.setCell ⟨g, hh * 5 + 3, none⟩ (.int .i64 ((r2.users : Int) + 1))).drew tb L { T with rows := R2.set hh { r2 with users := r2.users + 1 }, made := T.made ++ [((ab, lo, hh), f)] }) := q6.drew
 have F6 : Hid (FrT L L w (W5.setCell ⟨g, hh * 5 + 3, none⟩ (.int .i64 ((r2.users : Int) + 1))).drew) := F5.out.trans (f6.trans (FrT.of (Fr.refl (fun _ => True) _).drew fun _ _ _ => trivial))
 clear q6 f6 b2 b2d a1 a1d c3 c3d z3 z3d n1 X5 F5 B5 HG5
 generalize (W5.setCell ⟨g, hh * 5 + 3, none⟩ (.int .i64 ((r2.users : Int) + 1))).drew = W6 at X6 F6 ⊢
 go_wp2_with fail
 go_end0
 exact ⟨rfl, by unfold layR; rw [hR1, hR2]; exact X6.out, F6.out⟩
end Go.Proofs.YtaakjjefnjbabaaGreat.Sx
