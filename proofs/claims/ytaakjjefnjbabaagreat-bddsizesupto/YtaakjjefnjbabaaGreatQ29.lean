/- A range over a function whose rounds all go on, where what is handed on lies in memory. -/
import Derived.Test.YtaakjjefnjbabaaGreatQ28
import Derived.RangeFuncNested
import Derived.RangeFuncCalls
import Derived.RangeFuncLeaves
import Derived.OwnWalkIn
import Derived.TacticsInMore
import Derived.LoopNIn
import Derived.LoopIn
set_option maxRecDepth 100000
namespace Go.Proofs.YtaakjjefnjbabaaGreat.Sx
open Go.RowKit Go.Sort Go.Maps Go.WideMaps
def rgW (w : World) (fn : FuncId) (tmps : Array Value) (ps : Array Tmp) (assign body : Code) : World := (w.alloc (.deferred (some []))).alloc (.loop { state := .ready, pending := none, fn := fn, tmps := tmps, params := ps, assign := assign, body := body, defers := w.heap.size })
def goPost (b : Nat) (Kp : World → World → Prop) (I : Nat → World → Prop) (i : Nat) (W : World) : Exit → Act → World → Prop
 | .normal, _, W' => W'.heap[b]? = W.heap[b]? ∧ W'.heap[b + 1]? = W.heap[b + 1]? ∧ Kp W W' ∧ I (i + 1) W'
 | _, _, _ => False
theorem range_go {F : Fence} {n : Nat} {P : Program} {g : Operand} {ps : Array Tmp} {assign body : Code} {Q : Exit → Act → World → Prop} {a : Act} {w : World} (hro : F.round = none) (h1 : 1 ≤ n)
 {gf : Nat} {lb : Array Value} (hg : a.eval g = .func (.func gf) #[] lb) (hFg : F.fn gf) (eg : ∀ args w, (callFunc gf args).run P w = .ok (.enter gf args) w)
 (N : Nat) (I : Nat → World → Prop) (A : Nat → World → Array Value → Prop) (Kp : World → World → Prop)
 (hKt : ∀ X Y Z : World, Kp X Y → Kp Y Z → Kp X Z) (hKp : ∀ (W : World) (o : Obj), Kp W (W.putObj (w.heap.size + 1) o))
 (hIb : ∀ i W W', I i W → Below W.heap.size W W' → I i W') (hIp : ∀ i (W : World) o, I i W → I i (W.putObj (w.heap.size + 1) o)) (hAp : ∀ i (W : World) v o, A i W v → A i (W.putObj (w.heap.size + 1) o) v) (hAs : ∀ i W v, A i W v → v.size = ps.size)
 (hit : ∀ (fn : FuncId) (J : Nat → World → Prop), (∀ i W W', J i W → Below W.heap.size W W' → J i W') → (∀ i W, J i W → I i W) → (∀ i W, J i W → I (i + 1) W → J (i + 1) W) →
   (∀ i W v, J i W → A i W v → YieldAt F (n - 1 - 1) P (w.heap.size + 1) v W fun e W' => e = .returned (.bool true) ∧ J (i + 1) W' ∧ Kp W W') → J 0 (rgW w fn a.tmps ps assign body) →
   CallsIn F (n - 1) P gf (#[.func (.yield (w.heap.size + 1)) #[] #[]] ++ lb) (rgW w fn a.tmps ps assign body) fun e W' => (∃ v, e = .returned v) ∧ J N W')
 (h0 : ∀ fn, I 0 (rgW w fn a.tmps ps assign body)) (a₁ : Array Value → Act)
 (hassign : ∀ i (v : Array Value) (W : World) (K : Act → World → Prop), A i W v → K (a₁ v) W → assign.wpIn (F.inRound (w.heap.size + 1)) (n - 1 - 1) P (Exit.then K (fun _ _ _ => False)) { tmps := (ps.zip v).foldl (fun t (p, v) => t.setIfInBounds p v) a.tmps, defers := [] } W)
 (hbody : ∀ i v W, I i W → A i W v → body.wpIn (F.inRound (w.heap.size + 1)) (n - 1 - 1) P (goPost w.heap.size Kp I i W) (a₁ v) W)
 (hdone : ∀ W, I N W → W.heap[w.heap.size]? = some (.deferred (some [])) → Q .normal { a with defers := { target := .collected w.heap.size, args := #[] } :: a.defers } W) :
 (Code.rangeFunc g ps assign body).wpIn F n P Q a w := by
 refine wpIn_rangeFunc fun fn hfn => ?_
 rw [hro]
 generalize hL : w.heap.size + 1 = l at *
 obtain ⟨rec, hrec⟩ : ∃ rec : LoopState → Loop, rec = fun st => { state := st, pending := none, fn := fn, tmps := a.tmps, params := ps, assign := assign, body := body, defers := w.heap.size } := ⟨_, rfl⟩
 have hW1 : rgW w fn a.tmps ps assign body = (w.alloc (.deferred (some []))).alloc (.loop (rec .ready)) := by rw [hrec]; rfl
 have hl1 : (rgW w fn a.tmps ps assign body).heap[l]? = some (.loop (rec .ready)) := by
  rw [hW1, ← hL]
  have := World.alloc_heap_new (w.alloc (.deferred (some []))) (.loop (rec .ready))
  rwa [World.size_alloc] at this
 have hd1 : (rgW w fn a.tmps ps assign body).heap[w.heap.size]? = some (.deferred (some [])) := by
  rw [hW1]
  exact (Below.heap_alloc _ _ _ (by simp)).trans (World.alloc_heap_new w _)
 have hi1 := h0 fn
 refine ⟨l, [{ target := .collected w.heap.size, args := #[] }], rgW w fn a.tmps ps assign body, { target := .fn (.func gf) lb, args := #[.func (.yield l) #[] #[]] }, rgW w fn a.tmps ps assign body, gf, #[.func (.yield l) #[] #[]] ++ lb, rgW w fn a.tmps ps assign body, by rw [← hL]; exact run_enterLoop_outer _ _ _ _ _, by simp only [resolve, hg]; simp [go_sem], fun f' hf' => by simp [Target.leads] at hf'; subst hf'; exact hFg, by simp [invoke, go_sem, eg], fun _ => h1, ?_⟩
 refine (hit fn (fun i W => I i W ∧ W.heap[l]? = some (.loop (rec .ready)) ∧ W.heap[w.heap.size]? = some (.deferred (some []))) (fun i W W' hJ hb => ⟨hIb i W W' hJ.1 hb, (hb.block l (block_lt hJ.2.1)).trans hJ.2.1, (hb.block _ (block_lt hJ.2.2)).trans hJ.2.2⟩) (fun _ _ hJ => hJ.1) (fun _ _ hJ hi => ⟨hi, hJ.2⟩) ?_ ⟨hi1, hl1, hd1⟩).mono ?_
 · rintro i W v ⟨hi, hl, hd⟩ hv
   have hlt := block_lt hl
   have hy := run_yield (P := P) (args := v) hl (by rw [hrec]; exact hAs i W v hv)
   rw [hrec] at hy
   refine ⟨fn, _, assign, body, hy, roundIn_of_wpIn hfn (hassign i v W _ hv ⟨_, run_beginRound hl (by rw [hrec]), ?_⟩)⟩
   have e2 : (Loop.mk .busy none fn a.tmps ps assign body w.heap.size) = rec .busy := by rw [hrec]
   have hl2 : (W.putObj l (.loop { rec .ready with state := .busy })).heap[l]? = some (.loop (rec .busy)) := by rw [World.putObj_heap_same hlt, hrec]
   have hd2 : (W.putObj l (.loop { rec .ready with state := .busy })).heap[w.heap.size]? = some (.deferred (some [])) := (World.putObj_heap_other (by omega)).trans hd
   refine wpIn_mono (hbody i v _ (hIp i W _ hi) (hAp i W v _ hv)) fun e a3 W3 hp => ?_
   cases e with
   | normal =>
     obtain ⟨q1, q2, q3, q4⟩ := hp
     rw [hL] at q2
     have hl3 : W3.heap[l]? = some (.loop (rec .busy)) := q2.trans hl2
     have hend := run_endRound (P := P) none hl3
     have e3 : ({ rec .busy with state := .ready, pending := none } : Loop) = rec .ready := by rw [hrec]
     refine ⟨_, _, hend, rfl, ⟨hIp _ _ _ q4, ?_, (World.putObj_heap_other (by omega)).trans (q1.trans hd2)⟩, hKt _ _ _ (hKp W _) (hKt _ _ _ q3 (hKp W3 _))⟩
     rw [World.putObj_heap_same (block_lt hl3)]
     simp only [Option.isNone_none, if_true]
     rw [e3]
   | exit id => exact hp.elim
   | goto t => exact hp.elim
   | ret => exact hp.elim
   | panic c => exact hp.elim
   | outgrown => exact hp.elim
 · rintro e W2 ⟨⟨v, rfl⟩, hi, hl, hd⟩
   have := run_endLoop (P := P) hl (by rw [hrec]; simp)
   have e4 : (rec .ready).pending = none := by rw [hrec]
   rw [e4] at this
   exact ⟨none, _, this, hdone _ (hIp _ _ _ hi) ((World.putObj_heap_other (by omega)).trans hd)⟩
end Go.Proofs.YtaakjjefnjbabaaGreat.Sx
namespace Go.Proofs.YtaakjjefnjbabaaGreat.Sx
open Go.RowKit Go.Sort Go.Maps Go.WideMaps
attribute [local go_sem] Oper.semAt_some
set_option maxHeartbeats 4000000 in
theorem values1_in (m lp vb : Nat) (l : List Nat) (oa : Option Addr) (oc : Nat) (J : Nat → World → Prop) (hn : l.length ≤ 4294967296)
 (hF : ∀ i W, J i W → W.cell? ⟨vb, 0, none⟩ = some (.slice oa l.length oc) ∧ IntsV W oa (nodesI l))
 (hY : ∀ i W x, J i W → l[i]? = some x → YieldAt Fence.wide (m - 1) Tryz.prog lp #[.int .i64 (x : Int)] W fun e W' => e = .returned (.bool true) ∧ J (i + 1) W')
 (W : World) (h0 : J 0 W) :
 CallsIn Fence.wide m Tryz.prog 101 #[.func (.yield lp) #[] #[], .pointer (some ⟨vb, 0, none⟩)] W fun e W' => (∃ v, e = .returned v) ∧ J l.length W' := by
 obtain ⟨k1, _⟩ := hF 0 W h0
 have hro : Fence.wide.round = none := rfl
 refine callsIn_of_wp Tryz.func101 rfl trivial ?_ hro
 simp only [Tryz.ntmps101, List.size_toArray, List.length_cons, List.length_nil, Nat.reduceAdd, Nat.reduceSub, Array.replicate_succ, Array.replicate_zero, List.push_toArray, List.append_toArray, List.nil_append, List.cons_append]
 gi_wp2_with fail
 gi_loopw [7] (fun i wr => ∃ k : Nat, i = .int .i64 (k : Int) ∧ k ≤ l.length ∧ Hid (J k wr)) (fun i _ => l.length - (intOf i).toNat)
 case atStart => exact ⟨0, rfl, by omega, h0⟩
 case round =>
  clear k1
  obtain ⟨k, rfl, hk, HJ⟩ := hrel
  by_cases hlt : k < l.length
  · obtain ⟨x, hx⟩ : ∃ x, l[k]? = some x := ⟨_, List.getElem?_eq_getElem hlt⟩
    obtain ⟨q1, q2⟩ := hF k wr HJ.out
    obtain ⟨a', rfl, cj⟩ := q2.cell k (x : Int) (by unfold nodesI; rw [List.getElem?_map, hx]; rfl)
    have i1 : (k : Int) < (l.length : Int) := by omega
    obtain ⟨fn, tmps, assign, body, hy, hR⟩ := hY k wr x HJ.out hx
    have HRR : Hid (RoundIn Fence.wide (m - 1) Tryz.prog lp fn tmps assign body wr fun e W' => e = .returned (.bool true) ∧ J (k + 1) W') := hR
    clear hR q2 hx q1
    gi_wp2_with fail
    refine ⟨fun h => by simp [Fence.wide] at h, HRR.out.mono ?_⟩
    rintro e w3 ⟨rfl, h3⟩
    have HJ3 : Hid (J (k + 1) w3) := h3
    clear h3 HRR
    gi_wp2_with fail
    go_roundw
    case rel => exact ⟨k + 1, by go_num, by omega, HJ3⟩
    case measure => simp [intOf]; omega
  · have i1 : ¬ (k : Int) < (l.length : Int) := by omega
    obtain rfl : k = l.length := by omega
    gi_wp2_with fail
    go_end0
    exact ⟨⟨_, rfl⟩, HJ.out⟩
theorem rg_below (w : World) (fn : FuncId) (tmps : Array Value) (ps : Array Tmp) (a b : Code) : Below w.heap.size w (rgW w fn tmps ps a b) := ((Below.refl _ w).alloc (Nat.le_refl _) _).alloc (by simp) _
structure ApI (w : World) (l : List Nat) (i : Nat) (W : World) : Prop where
 fr : Fr (fun _ => True) w W
 big : w.heap.size + 3 ≤ W.heap.size
 box : ∃ sv, W.heap[w.heap.size]? = some (.cells #[sv] 27 (0, 0)) ∧ W.ownsRow (w.heap.size + 3) 3 1 sv i (i64C (l.take i))
theorem ownsRow_fr {w w' : World} {b e k n : Nat} {v : Value} {xs : List Value} (h : w.ownsRow b e k v n xs) (f : ∀ g, b ≤ g → g < w.heap.size → w'.heap[g]? = w.heap[g]?) : w'.ownsRow b e k v n xs := by
 refine ⟨h.1, ?_⟩
 rcases h.2 with q | ⟨g, cap, cur, e1, hb, hg, q⟩
 · exact .inl q
 · exact .inr ⟨g, cap, cur, e1, hb, (f g hb (block_lt hg)).trans hg, q⟩
theorem Fr.put {P : Nat → Prop} {a b : World} (h : Fr P a b) {l : Nat} (hl : ¬ P l ∨ a.heap.size ≤ l) (o : Obj) : Fr P a (b.putObj l o) :=
 ⟨h.os, h.tape, h.output, by have := h.size; simpa using this, fun k hk hp => (World.putObj_heap_other (fun e => by
   rcases hl with q | q
   · exact q (by rw [← e]; exact hp)
   · omega)).trans (h.block k hk hp)⟩
set_option maxHeartbeats 4000000 in
theorem appendSeq_any (w : World) (vb : Nat) (l : List Nat) (oa : Option Addr) (oc : Nat) (hn : l.length ≤ 65536) (hc : w.cell? ⟨vb, 0, none⟩ = some (.slice oa l.length oc)) (hv : IntsV w oa (nodesI l)) :
 Calls Tryz.prog 106 #[.slice none 0 0, .func (.func 101) #[] #[.pointer (some ⟨vb, 0, none⟩)]] w fun e w' => ∃ v, e = .returned v ∧ w'.ownsRow w.heap.size 3 1 v l.length (i64C l) ∧ Fr (fun _ => True) w w' := by
 refine (callsIn_wide (n := 3)).1 ?_
 refine callsIn_of_wp_marks Tryz.func106 rfl trivial ?_ rfl
 simp only [Tryz.ntmps106, List.size_toArray, List.length_cons, List.length_nil, Nat.reduceAdd, Nat.reduceSub, Array.replicate_succ, Array.replicate_zero, List.push_toArray, List.append_toArray, List.nil_append, List.cons_append]
 obtain ⟨i0, hi0, hz0, hz1, hz2⟩ := infoInt
 gi_wp2_with fail
 obtain ⟨W0, hW0⟩ : ∃ W0, w.alloc (.cells #[.slice none 0 0] 27) = W0 := ⟨_, rfl⟩
 have hs0 : W0.heap.size = w.heap.size + 1 := by rw [← hW0]; simp
 have hB0 : Fr (fun _ => True) w W0 := by rw [← hW0]; exact (Fr.refl _ w).alloc _
 have hbox0 : W0.heap[w.heap.size]? = some (.cells #[.slice none 0 0] 27 (0, 0)) := by rw [← hW0]; exact heap_new rfl
 rw [hW0]
 clear hW0
 refine range_go (F := Fence.wide) (n := 3) rfl (by omega) (gf := 101) (lb := #[.pointer (some ⟨vb, 0, none⟩)]) rfl trivial (enters_of Tryz.func101 (by kernel_rfl) rfl) l.length (ApI w l)
  (fun i W v => ∃ x, l[i]? = some x ∧ v = #[.int .i64 (x : Int)]) (fun _ _ => True) (fun _ _ _ _ _ => trivial) (fun _ _ => trivial) (fun i W W' h hb => ?hIb) (fun i W o h => ?hIp) (fun i W v o h => h) (fun i W v h => ?hAs) ?hit (fun fn => ?h0)
  (fun v => { tmps := #[.slice none 0 0, .func (.func 101) #[] #[.pointer (some ⟨vb, 0, none⟩)], .pointer (some ⟨w.heap.size, 0, none⟩), undef, .slice none 0 0, v.getD 0 undef, .func (.func 101) #[] #[.pointer (some ⟨vb, 0, none⟩)], v.getD 0 undef, undef, undef, undef, undef, undef], defers := [] }) ?hassign ?hbody ?hdone
 case hIb =>
  obtain ⟨sv, h1, h2⟩ := h.box
  exact ⟨h.fr.trans (Fr.below hb), Nat.le_trans h.big hb.size, sv, (hb.block _ (block_lt h1)).trans h1, ownsRow_fr h2 fun g _ hg => hb.block g hg⟩
 case hIp =>
  obtain ⟨sv, h1, h2⟩ := h.box
  have hbig := h.big
  exact ⟨h.fr.put (.inr (by omega)) o, by simpa using hbig, sv, (World.putObj_heap_other (by omega)).trans h1, ownsRow_fr h2 fun g hg _ => World.putObj_heap_other (by omega)⟩
 case hAs =>
  obtain ⟨x, _, rfl⟩ := h
  rfl
 case hit =>
  intro fn J hJb hJI hJs hY hJ0
  refine values1_in 2 (W0.heap.size + 1) vb l oa oc J (by omega) (fun i W hJ => ?_) (fun i W x hJ hx => ?_) _ hJ0
  · have hf := (hJI i W hJ).fr
    exact ⟨(World.cell?_of_block (w := w) (hf.block vb (World.block_lt_of_cell? w _ hc) trivial)).trans hc, ⟨fun j x hx => by
     obtain ⟨a, e, hcx⟩ := hv.cell j x hx
     exact ⟨a, e, (World.cell?_of_block (w := w) (hf.block _ (World.block_lt_of_cell? w _ hcx) trivial)).trans hcx⟩⟩⟩
  · obtain ⟨f1, f2, f3, f4, f5, f6⟩ := hY i W _ hJ ⟨x, hx, rfl⟩
    exact ⟨f1, f2, f3, f4, f5, f6.mono fun e W' q => ⟨q.1, q.2.1⟩⟩
 case h0 =>
  have hb := rg_below W0 fn #[.slice none 0 0, .func (.func 101) #[] #[.pointer (some ⟨vb, 0, none⟩)], .pointer (some ⟨w.heap.size, 0, none⟩), undef, .slice none 0 0, undef, .func (.func 101) #[] #[.pointer (some ⟨vb, 0, none⟩)], undef, undef, undef, undef, undef, undef] #[7]
  refine ⟨hB0.trans (Fr.below (hb _ _)), ?_, .slice none 0 0, ((hb _ _).block _ (block_lt hbox0)).trans hbox0, ?_⟩
  · unfold rgW; simp; omega
  · exact World.ownsRow_nil _ _ _ _
 case hassign =>
  rintro i v W K ⟨x, hx, rfl⟩ hK
  gi_wp2_with fail
  exact hK
 case hbody =>
  rintro i v W ⟨hfr, hbig, sv, hbox, hrow⟩ ⟨x, hx, rfl⟩
  have hi := lt_of_at hx
  have hil : (i64C (l.take i)).length = i := by simp [i64C]; omega
  obtain ⟨sa, sc, rfl⟩ : ∃ sa sc, sv = .slice sa i sc := by
   rcases hrow.2 with ⟨e, hn⟩ | ⟨g, cap, cur, e, _⟩
   · exact ⟨none, 0, by rw [e, hn]⟩
   · exact ⟨_, _, e⟩
  have hc0 := block_cell hbox 0
  have hlt := block_lt hbox
  have HOA : Hid ((W.alloc (.cells #[.int .i64 (x : Int)] 3)).ownsRow (w.heap.size + 3) 3 1 (.slice sa i sc) i (i64C (l.take i))) := hrow.alloc _
  have HFR : Hid (Fr (fun _ => True) w W) := hfr
  have HBX : Hid (W.heap[w.heap.size]? = some (.cells #[.slice sa i sc] 27 (0, 0))) := hbox
  have HRW : Hid (W.ownsRow (w.heap.size + 3) 3 1 (.slice sa i sc) i (i64C (l.take i))) := hrow
  clear hrow hbox hfr
  gi_wp2_with (gi_at_builtin; refine wpListIn_append_own _ rfl _ _ 27 rfl (w.heap.size + 3) 3 i0 _ 1 8 Tryz.underlying27 hi0 hz0 hz1 hz2 rfl (by decide) (.slice sa i sc) i _ rfl HOA.out ⟨W.heap.size, 0, none⟩ 1 1 [.int .i64 (x : Int)] rfl rfl (World.news_of_block (heap_new rfl)) ?q2 ?q3 ?q4 ?q5 ?_)
  case q2 =>
   intro u hu
   rw [List.mem_singleton.1 hu]; rfl
  case q3 => unfold maxLen; omega
  case q4 => omega
  case q5 => simp; omega
  intro v' w3 ho hg hnn
  obtain ⟨g', cap', cur', rfl, hgb, hgc, hgl, hgm, hgs, hgt⟩ : ∃ g' cap' cur', v' = .slice (some ⟨g', 0, none⟩) (i + 1) cap' ∧ w.heap.size + 3 ≤ g' ∧ w3.heap[g']? = some (.cells cur' 3 (0, 0)) ∧ i + 1 ≤ cap' ∧ cap' ≤ maxLen ∧ cur'.size = cap' * 1 ∧ cur'.toList.take ((i + 1) * 1) = i64C (l.take i) ++ [.int .i64 (x : Int)] := by
   rcases ho.2 with ⟨_, h0⟩ | h'
   · exact absurd h0 (by omega)
   · exact h'
  have hold : ∀ b, b < w.heap.size + 3 → w3.heap[b]? = W.heap[b]? := fun b hb => by
   have hne : (Value.slice sa i sc).ownBlock ≠ some b := fun e => by
    have := (HRW.out.lt b e).1
    omega
   exact (hg.block b (by simp; omega) (fun e => hne e.symm)).trans (heap_old (by omega))
  have hsz3 : W.heap.size ≤ w3.heap.size := by have := hg.size; simp at this; omega
  have hb3 : w3.heap[w.heap.size]? = some (.cells #[.slice sa i sc] 27 (0, 0)) := (hold _ (by omega)).trans HBX.out
  have k1 := block_cell hb3 0
  have k2 := frozen_block hb3 0
  have HI : Hid (ApI w l (i + 1) (w3.setCell ⟨w.heap.size, 0, none⟩ (.slice (some ⟨g', 0, none⟩) (i + 1) cap'))) := by
   have f3 : Fr (fun _ => True) w w3 := ⟨hg.os.trans HFR.out.os, hg.tape.trans HFR.out.tape, hg.output.trans HFR.out.output, Nat.le_trans HFR.out.size hsz3, fun b hb _ => (hold b (by omega)).trans (HFR.out.block b hb trivial)⟩
   refine ⟨⟨f3.os, f3.tape, f3.output, by simpa using f3.size, fun b hb _ => ?_⟩, by simp; omega, _, set_block hb3 0 _, ?_⟩
   · rw [Below.heap_setCell w3 ⟨w.heap.size, 0, none⟩ _ b (by show b ≠ w.heap.size; omega)]
     exact f3.block b hb trivial
   · have e : i64C (l.take (i + 1)) = i64C (l.take i) ++ [.int .i64 (x : Int)] := by
      rw [List.take_add_one, hx]; simp [i64C]
     rw [e]
     exact ownsRow_fr ho fun g hg2 _ => Below.heap_setCell w3 ⟨w.heap.size, 0, none⟩ _ g (by show g ≠ w.heap.size; omega)
  have h9a : (w3.setCell ⟨w.heap.size, 0, none⟩ (.slice (some ⟨g', 0, none⟩) (i + 1) cap')).heap[w.heap.size + 1]? = W.heap[w.heap.size + 1]? := by
   rw [Below.heap_setCell w3 ⟨w.heap.size, 0, none⟩ _ _ (by show w.heap.size + 1 ≠ w.heap.size; omega)]; exact hold _ (by omega)
  have h9b : (w3.setCell ⟨w.heap.size, 0, none⟩ (.slice (some ⟨g', 0, none⟩) (i + 1) cap')).heap[w.heap.size + 1 + 1]? = W.heap[w.heap.size + 1 + 1]? := by
   rw [Below.heap_setCell w3 ⟨w.heap.size, 0, none⟩ _ _ (by show w.heap.size + 1 + 1 ≠ w.heap.size; omega)]; exact hold _ (by omega)
  have H9 : Hid (_ ∧ _) := ⟨h9a, h9b⟩
  clear ho hg hnn hgc hgt hb3 HOA h9a h9b hc0
  gi_wp2_with fail
  refine ⟨?_, ?_, trivial, HI.out⟩
  · rw [hs0]; exact H9.out.1
  · rw [hs0]; exact H9.out.2
 case hdone =>
  rintro W ⟨hfr, hbig, sv, hbox, hrow⟩ hK
  have hc0 := block_cell hbox 0
  gi_wp2_with fail
  refine ⟨by simp, .inl ⟨_, _, rfl, run_takeDeferred hK, ?_⟩⟩
  refine ⟨_, results_tmp rfl _ _ _, sv, rfl, ?_, hfr.put (.inr (by omega)) _⟩
  have h1 : (W.putObj W0.heap.size (.deferred none)).ownsRow (w.heap.size + 3) 3 1 sv l.length (i64C (l.take l.length)) := ownsRow_fr hrow fun g hg _ => World.putObj_heap_other (by omega)
  rw [List.take_of_length_le (Nat.le_refl _)] at h1
  refine ⟨h1.1, ?_⟩
  rcases h1.2 with q | ⟨g, cap, cur, e1, hb, q⟩
  · exact .inl q
  · exact .inr ⟨g, cap, cur, e1, by omega, q⟩
end Go.Proofs.YtaakjjefnjbabaaGreat.Sx
namespace Go.Proofs.YtaakjjefnjbabaaGreat.Sx
open Go.RowKit Go.Sort Go.Maps Go.WideMaps
def IRow (m : Nat) (w : World) (g : Nat) (l : List Nat) : Prop := ∃ cur : Array Value, w.heap[g]? = some (.cells cur 3 (0, 0)) ∧ cur.toList.take l.length = i64C l ∧ cur.size = m
section
variable {w w' : World} {g i x m : Nat} {l : List Nat}
theorem IRow.of (h : IRow m w g l) (f : w'.heap[g]? = w.heap[g]?) : IRow m w' g l := by
 obtain ⟨cur, h1, h2⟩ := h
 exact ⟨cur, f.trans h1, h2⟩
theorem IRow.lt (h : IRow m w g l) : g < w.heap.size := by
 obtain ⟨cur, h1, _⟩ := h
 exact block_lt h1
theorem IRow.size {cur : Array Value} (h : cur.toList.take l.length = i64C l) : l.length ≤ cur.size := by
 have := congrArg List.length h
 simp only [List.length_take, Array.length_toList, i64C, List.length_map] at this
 omega
theorem IRow.cell (h : IRow m w g l) (hx : l[i]? = some x) : w.cell? ⟨g, i, none⟩ = some (.int .i64 (x : Int)) := by
 obtain ⟨cur, h1, h2, _⟩ := h
 rw [block_cell h1]
 have hi := lt_of_at hx
 have := congrArg (fun z => z[i]?) h2
 simp only [List.getElem?_take, if_pos hi, Array.getElem?_toList] at this
 rw [this]
 exact i64C_at hx
theorem IRow.frz (h : IRow m w g l) (i : Nat) : w.frozen? ⟨g, i, none⟩ = false := by
 obtain ⟨cur, h1, _⟩ := h
 exact frozen_block h1 i
theorem IRow.set (h : IRow m w g l) (i x : Nat) : IRow m (w.setCell ⟨g, i, none⟩ (.int .i64 (x : Int))) g (l.set i x) := by
 obtain ⟨cur, h1, h2, h3⟩ := h
 refine ⟨_, set_block h1 i _, ?_, by simpa using h3⟩
 have e : i64C (l.set i x) = (i64C l).set i (.int .i64 (x : Int)) := by simp [i64C, List.map_set]
 rw [e, ← h2, List.length_set]
 simp [List.take_set]
end
set_option maxHeartbeats 1000000 in
theorem isNaN_any (w : World) (x : Int) : Calls Tryz.prog 103 #[.int .i64 x] w fun e w' => e = .returned (.bool false) ∧ w' = w := by
 have mo := follows
 go_enter Tryz.func103, Tryz.ntmps103
 go_wp2_with fail
 go_ret
 exact ⟨by simp, rfl⟩
def cmpI (x y : Int) : Int := if x < y then -1 else if y < x then 1 else 0
set_option maxHeartbeats 1000000 in
theorem compare_any (w : World) (x y : Int) : Calls Tryz.prog 83 #[.int .i64 x, .int .i64 y] w fun e w' => e = .returned (.int .i64 (cmpI x y)) ∧ w' = w := by
 have mo := follows
 have H1 : Hid (∀ (w : World) (x : Int), Calls Tryz.prog 103 #[.int .i64 x] w fun e w' => e = .returned (.bool false) ∧ w' = w) := isNaN_any
 unfold cmpI
 by_cases h1 : x < y
 · rw [if_pos h1]
   go_enter Tryz.func83, Tryz.ntmps83
   go_wp2_with (go_at_call 103; refine (H1.out _ _).mono ?_; rintro e w' ⟨rfl, hw⟩; subst hw)
   go_ret
   exact ⟨rfl, rfl⟩
 · rw [if_neg h1]
   by_cases h2 : y < x
   · rw [if_pos h2]
     go_enter Tryz.func83, Tryz.ntmps83
     go_wp2_with (go_at_call 103; refine (H1.out _ _).mono ?_; rintro e w' ⟨rfl, hw⟩; subst hw)
     go_ret
     exact ⟨rfl, rfl⟩
   · rw [if_neg h2]
     go_enter Tryz.func83, Tryz.ntmps83
     go_wp2_with (go_at_call 103; refine (H1.out _ _).mono ?_; rintro e w' ⟨rfl, hw⟩; subst hw)
     go_ret
     exact ⟨rfl, rfl⟩
def CmpBox (w : World) (px ga : Nat) (aks : List Nat) : Prop := (∃ cap, w.cell? ⟨px, 0, none⟩ = some (.slice (some ⟨ga, 0, none⟩) aks.length cap)) ∧ ∃ m, IRow m w ga aks
set_option maxHeartbeats 1000000 in
theorem cmp1_any (w : World) (px ga : Nat) (aks : List Nat) (h : CmpBox w px ga aks) (x y a b : Nat) (hx : aks[x]? = some a) (hy : aks[y]? = some b) :
 Calls Tryz.prog 82 #[.int .i64 (x : Int), .int .i64 (y : Int), .pointer (some ⟨px, 0, none⟩)] w fun e w' => e = .returned (.int .i64 (cmpI (b : Int) (a : Int))) ∧ Grew w w' := by
 obtain ⟨⟨cap, h1⟩, m, h2⟩ := h
 have mo := follows
 have c1 := h2.cell hx
 have c2 := h2.cell hy
 have hxl := lt_of_at hx
 have hyl := lt_of_at hy
 have i1 : (x : Int) < (aks.length : Int) := by omega
 have i2 : (y : Int) < (aks.length : Int) := by omega
 have i3 : (0 : Int) ≤ (x : Int) := by omega
 have i4 : (0 : Int) ≤ (y : Int) := by omega
 have HC : Hid (∀ (w : World) (x y : Int), Calls Tryz.prog 83 #[.int .i64 x, .int .i64 y] w fun e w' => e = .returned (.int .i64 (cmpI x y)) ∧ w' = w) := compare_any
 clear h2
 go_enter Tryz.func82, Tryz.ntmps82
 go_wp2_with fail
 go_quiet (first | (go_at_call 83; refine Calls.quiet_of_same (HC.out _ _ _)))
 go_wp2_with fail
 go_ret
 exact ⟨rfl, (Grew.refl w).drewN _⟩
end Go.Proofs.YtaakjjefnjbabaaGreat.Sx
