/- A range over a function whose rounds all go on, where what is handed on lies in memory. -/
import Derived.Test.YtbicefgjompnoaaA15
import Derived.Test.YtbicefgjompnoaaA18
import Derived.Test.YtbicefgjompnoaaA23
import Derived.Test.YtbicefgjompnoaaA25
import Derived.RangeFuncNested
import Derived.RangeFuncCalls
import Derived.RangeFuncLeaves
import Derived.OwnWalkIn
import Derived.TacticsInMore
import Derived.LoopNIn
import Derived.LoopIn
namespace Go.Proofs.Ytbicefgjompnoaa.Sx
open Go.RowKit Go.Sort

/-- the world where the rounds begin -/
def rgW (w : World) (fn : FuncId) (tmps : Array Value) (ps : Array Tmp) (assign body : Code) : World := (w.alloc (.deferred (some []))).alloc (.loop { state := .ready, pending := none, fn := fn, tmps := tmps, params := ps, assign := assign, body := body, defers := w.heap.size })
/-- how a round is left -/
def goPost (b : Nat) (Kp : World → World → Prop) (I : Nat → World → Prop) (i : Nat) (W : World) : Exit → Act → World → Prop
  | .normal, _, W' => W'.heap[b]? = W.heap[b]? ∧ W'.heap[b + 1]? = W.heap[b + 1]? ∧ Kp W W' ∧ I (i + 1) W'
  | _, _, _ => False

theorem range_go {F : Fence} {n : Nat} {P : Program} {g : Operand} {ps : Array Tmp} {assign body : Code} {Q : Exit → Act → World → Prop} {a : Act} {w : World} (hro : F.round = none) (h1 : 1 ≤ n)
    {gf : Nat} {lb : Array Value} (hg : a.eval g = .func (.func gf) #[] lb) (hFg : F.fn gf) (eg : ∀ args w, (callFunc gf args).run P w = .ok (.enter gf args) w)
    (N : Nat) (I : Nat → World → Prop) (A : Nat → World → Array Value → Prop) (Kp : World → World → Prop)
    (hKt : ∀ X Y Z : World, Kp X Y → Kp Y Z → Kp X Z) (hKp : ∀ (W : World) (o : Obj), Kp W (W.putObj (w.heap.size + 1) o))
    (hIb : ∀ i W W', I i W → Below W.heap.size W W' → I i W') (hIp : ∀ i (W : World) o, I i W → I i (W.putObj (w.heap.size + 1) o)) (hAp : ∀ i (W : World) v o, A i W v → A i (W.putObj (w.heap.size + 1) o) v) (hAs : ∀ i W v, A i W v → v.size = ps.size)
    (hit : ∀ (fn : FuncId) (J : Nat → World → Prop), (∀ i W W', J i W → Below W.heap.size W W' → J i W') → (∀ i W, J i W → I i W) → (∀ i W, J i W → I (i + 1) W → J (i + 1) W) →
      (∀ i W v, J i W → A i W v → YieldAt F (n - 1 - 1) P (w.heap.size + 1) v W fun e W' => e = .returned (.bool true) ∧ J (i + 1) W' ∧ Kp W W') → J 0 (rgW w fn a.tmps ps assign body) →
      CallsIn F (n - 1) P gf (#[.func (.yield (w.heap.size + 1)) #[] #[]] ++ lb) (rgW w fn a.tmps ps assign body) fun e W' => (∃ v, e = .returned v) ∧ J N W')
    (h0 : ∀ fn, I 0 (rgW w fn a.tmps ps assign body)) (a₁ : Array Value → Act)
    (hassign : ∀ i (v : Array Value) (W : World) (K : Act → World → Prop), A i W v → K (a₁ v) W → assign.wpIn (F.inRound (w.heap.size + 1)) (n - 1 - 1) P (Exit.then K (fun _ _ _ => False)) { tmps := (ps.zip v).foldl (fun t (p, v) => t.setIfInBounds p v) a.tmps, defers := [] } W)
    (hbody : ∀ i v W, I i W → A i W v → body.wpIn (F.inRound (w.heap.size + 1)) (n - 1 - 1) P (goPost w.heap.size Kp I i W) (a₁ v) W)
    (hdone : ∀ W, I N W → W.heap[w.heap.size]? = some (.deferred (some [])) → Q .normal { a with defers := { target := .collected w.heap.size, args := #[] } :: a.defers } W) :
    (Code.rangeFunc g ps assign body).wpIn F n P Q a w := by
  refine wpIn_rangeFunc fun fn hfn => ?_
  rw [hro]
  generalize hL : w.heap.size + 1 = l at *
  obtain ⟨rec, hrec⟩ : ∃ rec : LoopState → Loop, rec = fun st => { state := st, pending := none, fn := fn, tmps := a.tmps, params := ps, assign := assign, body := body, defers := w.heap.size } := ⟨_, rfl⟩
  have hW1 : rgW w fn a.tmps ps assign body = (w.alloc (.deferred (some []))).alloc (.loop (rec .ready)) := by rw [hrec]; rfl
  have hl1 : (rgW w fn a.tmps ps assign body).heap[l]? = some (.loop (rec .ready)) := by
    rw [hW1, ← hL]
    have := World.alloc_heap_new (w.alloc (.deferred (some []))) (.loop (rec .ready))
    rwa [World.size_alloc] at this
  have hd1 : (rgW w fn a.tmps ps assign body).heap[w.heap.size]? = some (.deferred (some [])) := by
    rw [hW1]
    exact (Below.heap_alloc _ _ _ (by simp)).trans (World.alloc_heap_new w _)
  have hi1 := h0 fn
  refine ⟨l, [{ target := .collected w.heap.size, args := #[] }], rgW w fn a.tmps ps assign body, { target := .fn (.func gf) lb, args := #[.func (.yield l) #[] #[]] }, rgW w fn a.tmps ps assign body, gf, #[.func (.yield l) #[] #[]] ++ lb, rgW w fn a.tmps ps assign body, by rw [← hL]; exact run_enterLoop_outer _ _ _ _ _, by simp only [resolve, hg]; simp [go_sem], fun f' hf' => by simp [Target.leads] at hf'; subst hf'; exact hFg, by simp [invoke, go_sem, eg], fun _ => h1, ?_⟩
  refine (hit fn (fun i W => I i W ∧ W.heap[l]? = some (.loop (rec .ready)) ∧ W.heap[w.heap.size]? = some (.deferred (some []))) (fun i W W' hJ hb => ⟨hIb i W W' hJ.1 hb, (hb.block l (block_lt hJ.2.1)).trans hJ.2.1, (hb.block _ (block_lt hJ.2.2)).trans hJ.2.2⟩) (fun _ _ hJ => hJ.1) (fun _ _ hJ hi => ⟨hi, hJ.2⟩) ?_ ⟨hi1, hl1, hd1⟩).mono ?_
  · rintro i W v ⟨hi, hl, hd⟩ hv
    have hlt := block_lt hl
    have hy := run_yield (P := P) (args := v) hl (by rw [hrec]; exact hAs i W v hv)
    rw [hrec] at hy
    refine ⟨fn, _, assign, body, hy, roundIn_of_wpIn hfn (hassign i v W _ hv ⟨_, run_beginRound hl (by rw [hrec]), ?_⟩)⟩
    have e2 : (Loop.mk .busy none fn a.tmps ps assign body w.heap.size) = rec .busy := by rw [hrec]
    have hl2 : (W.putObj l (.loop { rec .ready with state := .busy })).heap[l]? = some (.loop (rec .busy)) := by rw [World.putObj_heap_same hlt, hrec]
    have hd2 : (W.putObj l (.loop { rec .ready with state := .busy })).heap[w.heap.size]? = some (.deferred (some [])) := (World.putObj_heap_other (by omega)).trans hd
    refine wpIn_mono (hbody i v _ (hIp i W _ hi) (hAp i W v _ hv)) fun e a3 W3 hp => ?_
    cases e with
    | normal =>
      obtain ⟨q1, q2, q3, q4⟩ := hp
      rw [hL] at q2
      have hl3 : W3.heap[l]? = some (.loop (rec .busy)) := q2.trans hl2
      have hend := run_endRound (P := P) none hl3
      have e3 : ({ rec .busy with state := .ready, pending := none } : Loop) = rec .ready := by rw [hrec]
      refine ⟨_, _, hend, rfl, ⟨hIp _ _ _ q4, ?_, (World.putObj_heap_other (by omega)).trans (q1.trans hd2)⟩, hKt _ _ _ (hKp W _) (hKt _ _ _ q3 (hKp W3 _))⟩
      rw [World.putObj_heap_same (block_lt hl3)]
      simp only [Option.isNone_none, if_true]
      rw [e3]
    | exit id => exact hp.elim
    | goto t => exact hp.elim
    | ret => exact hp.elim
    | panic c => exact hp.elim
    | outgrown => exact hp.elim
  · rintro e W2 ⟨⟨v, rfl⟩, hi, hl, hd⟩
    have := run_endLoop (P := P) hl (by rw [hrec]; simp)
    have e4 : (rec .ready).pending = none := by rw [hrec]
    rw [e4] at this
    exact ⟨none, _, this, hdone _ (hIp _ _ _ hi) ((World.putObj_heap_other (by omega)).trans hd)⟩

end Go.Proofs.Ytbicefgjompnoaa.Sx
/- The program: sets, one by one. -/
namespace Go.Proofs.Ytbicefgjompnoaa.Sx
open Go.RowKit Go.Sort
attribute [local go_sem] Oper.semAt_some

/-- a clause that is handed on -/
structure Hand (s : List Nat × List Nat) (C : List (List Int)) (i : Nat) (Wb W : World) (x : List Int) (c : List Nat) (b : Nat) (d : Array Nat) : Prop where
  x_ : C[i]? = some x
  set : SetOf (x.map (litV s)) c
  al : alwaysP c = false
  new : Wb.heap.size ≤ b
  row : LRow W b d
  tk : d.toList.take c.length = c
  sz : d.size = x.length

set_option maxRecDepth 100000 in
set_option maxHeartbeats 4000000 in
theorem sets1_in (m l cx fx n pb fb base lo : Nat) (s : List Nat × List Nat) (C : List (List Int)) (cv : Value) (J : Nat → World → Prop) (hn : n ≤ 16777216)
    (hC : ∀ x ∈ C, x.length ≤ 4294967296 ∧ ∀ y ∈ x, LitN n y ∧ s.1.getD y.natAbs 0 ≠ 0)
    (hJb : ∀ i W W', J i W → Below W.heap.size W W' → J i W')
    (hF : ∀ i W, J i W → W.cell? ⟨cx, 0, none⟩ = some cv ∧ W.cell? ⟨fx, 0, none⟩ = some (.pointer (some ⟨fb, 0, none⟩)) ∧ NmAt W n pb fb base s ∧ ClsAt W lo cv C)
    (hsk : ∀ i W x c, J i W → C[i]? = some x → SetOf (x.map (litV s)) c → alwaysP c = true → J (i + 1) W)
    (hY : ∀ i Wb W x c b d, J i Wb → Below Wb.heap.size Wb W → Hand s C i Wb W x c b d → YieldAt Fence.wide (m - 1) Try.prog l #[.slice (some ⟨b, 0, none⟩) c.length x.length] W fun e W' => e = .returned (.bool true) ∧ J (i + 1) W')
    (W : World) (h0 : J 0 W) :
    CallsIn Fence.wide m Try.prog 50 #[.func (.yield l) #[] #[], .pointer (some ⟨cx, 0, none⟩), .pointer (some ⟨fx, 0, none⟩)] W fun e W' => (∃ v, e = .returned v) ∧ J C.length W' := by
  obtain ⟨k1, k2, _, k4⟩ := hF 0 W h0
  obtain ⟨ca, cc, rfl, hcq⟩ := k4.ex
  have hbig := k4.big
  have hro : Fence.wide.round = none := rfl
  refine callsIn_of_wp Try.func50 rfl trivial ?_ hro
  simp only [Try.ntmps50, List.size_toArray, List.length_cons, List.length_nil, Nat.reduceAdd, Nat.reduceSub, Array.replicate_succ, Array.replicate_zero, List.push_toArray, List.append_toArray, List.nil_append, List.cons_append]
  gi_wp2_with fail
  gi_loopw [10] (fun i wr => ∃ k : Nat, i = .int .i64 (k : Int) ∧ k ≤ C.length ∧ Hid (J k wr)) (fun i _ => C.length - (intOf i).toNat)
  case atStart => exact ⟨0, rfl, by omega, h0⟩
  case round =>
    clear k1 k2 k4 hcq
    obtain ⟨k, rfl, hk, HJ⟩ := hrel
    by_cases hlt : k < C.length
    · obtain ⟨x, hx⟩ : ∃ x, C[k]? = some x := ⟨_, List.getElem?_eq_getElem hlt⟩
      obtain ⟨q1, q2, q3, q4⟩ := hF k wr HJ.out
      obtain ⟨a', c', e', q5⟩ := q4.ex
      cases e'
      rcases q5 with q5 | ⟨p, rfl, hpl, hp⟩
      · rw [q5] at hlt; simp at hlt
      obtain ⟨u, hu, hi⟩ := hp k x hx
      have hm : x ∈ C := List.mem_of_getElem? hx
      have HS : Hid (Calls _ _ _ _ _) := set2_any wr n pb fb base lo s u x hn q3 hi (hC x hm).1 (hC x hm).2
      obtain ⟨ua, uc, rfl, _⟩ := hi.ex
      have i1 : (k : Int) < (C.length : Int) := by omega
      have HX : Hid (C[k]? = some x) := hx
      clear q3 q4 hp hi hx q1
      gi_wp2_with fail
      refine ⟨trivial, fun h => by simp [Fence.wide] at h, (callsIn_wide.2 HS.out).mono ?_⟩
      rintro e w2 ⟨hfr, c, hset, ⟨hal, rfl⟩ | ⟨hal, rfl, d, hd1, hd2, hd3⟩⟩
      · have hb2 : Below wr.heap.size wr w2 := ⟨hfr.os, hfr.tape, hfr.output, hfr.size, fun b hb => hfr.block b hb trivial⟩
        have HJ2 : Hid (J (k + 1) w2) := hsk k w2 x c (hJb k wr w2 HJ.out hb2) HX.out hset hal
        clear HS hfr hb2
        gi_wp2_with fail
        refine ⟨fun _ h => (by cases h), ?_⟩
        gi_wp2_with fail
        go_roundw
        case rel => exact ⟨k + 1, by go_num, by omega, HJ2⟩
        case measure => simp [intOf]; omega
      · have hb2 : Below wr.heap.size wr w2 := ⟨hfr.os, hfr.tape, hfr.output, hfr.size, fun b hb => hfr.block b hb trivial⟩
        obtain ⟨fn, tmps, assign, body, hy, hR⟩ := hY k wr w2 x c wr.heap.size d HJ.out hb2 ⟨HX.out, hset, hal, Nat.le_refl _, hd3, hd2, hd1⟩
        have HRR : Hid (RoundIn Fence.wide (m - 1) Try.prog l fn tmps assign body w2 fun e W' => e = .returned (.bool true) ∧ J (k + 1) W') := hR
        clear hR HS hfr hb2 hd1 hd2 hd3
        gi_wp2_with fail
        refine ⟨fun h => by simp [Fence.wide] at h, HRR.out.mono ?_⟩
        rintro e w3 ⟨rfl, h3⟩
        have HJ3 : Hid (J (k + 1) w3) := h3
        clear h3 HRR
        gi_wp2_with fail
        go_roundw
        case rel => exact ⟨k + 1, by go_num, by omega, HJ3⟩
        case measure => simp [intOf]; omega
    · have i1 : ¬ (k : Int) < (C.length : Int) := by omega
      obtain rfl : k = C.length := by omega
      gi_wp2_with fail
      go_end0
      exact ⟨⟨_, rfl⟩, HJ.out⟩

end Go.Proofs.Ytbicefgjompnoaa.Sx
/- The store of clauses (plain): what is so of it. -/
namespace Go.Proofs.Ytbicefgjompnoaa.Sx

/-- a store that nothing is true of yet -/
structure SO (n k : Nat) (s : St) : Prop where
  F : SF n [] [] s.rows s
  R : RW s
  tr : s.trail = []
  dn : s.done = 0
  cu : s.cuts = []
  rl : s.rows.length ≤ k
  em : s.empty ≤ k
theorem getD_rep0 (k l : Nat) : (List.replicate k (0 : Int)).getD l 0 = 0 := by
  rw [List.getD_eq_getElem?_getD, List.getElem?_replicate]
  split <;> rfl
theorem getD_repN (k l : Nat) : (List.replicate k ([] : List (Nat × Nat))).getD l [] = [] := by
  rw [List.getD_eq_getElem?_getD, List.getElem?_replicate]
  split <;> rfl
theorem sum_rep (k : Nat) : ((List.replicate k ([] : List (Nat × Nat))).map List.length).sum = 0 := by
  induction k with
  | zero => rfl
  | succ k ih => simp [List.replicate_succ]
theorem newP_SO (n : Nat) : SO n 0 (newP n) := by
  refine ⟨⟨⟨⟨by simp [newP], by simp [newP], fun l hl => by simp [newP] at hl, fun l hl => by simp [newP] at hl⟩, by simp [newP], by simp [newP], fun l p hp => ?_, fun r c hc => by simp [newP] at hc, ?_, by simp [newP]⟩, ⟨fun r c i hc => by simp [newP] at hc, fun l r o c hm hc => by simp [newP] at hc, fun l => ?_, fun r c hc => by simp [newP] at hc⟩, ⟨fun l hl => ?_, fun l hl => ?_⟩, by simp [newP], fun x hx => by simp at hx, fun r c i hc => by simp [newP] at hc, fun r c i hc => by simp [newP] at hc, fun i l hl => by simp [newP] at hl, RP.refl _, by simp [newP]⟩, ⟨fun r hr => by simp [newP] at hr, fun r l hl => by simp [newP] at hl, fun r hr => by simp [newP] at hr, by simp [newP], fun r hr => by simp [newP] at hr⟩, rfl, rfl, rfl, by simp [newP], by simp [newP]⟩
  · have : p ∈ (List.replicate (2 * n) ([] : List (Nat × Nat))).getD l [] := hp
    rw [getD_repN] at this
    simp at this
  · show ((List.replicate (2 * n) ([] : List (Nat × Nat))).map List.length).sum ≤ _
    rw [sum_rep]
    simp
  · show (((List.replicate (2 * n) ([] : List (Nat × Nat))).getD l []).map Prod.fst).Nodup
    rw [getD_repN]
    simp
  · have : 0 < (List.replicate (2 * n) (0 : Int)).getD l 0 := hl
    rw [getD_rep0] at this
    omega
  · have : (List.replicate (2 * n) (0 : Int)).getD l 0 < 0 := hl
    rw [getD_rep0] at this
    omega
theorem SO.add {n k : Nat} {s : St} (h : SO n k s) {c : List Nat} (hnd : c.Nodup) (hl : ∀ x ∈ c, x < 2 * n) (hk : k + 1 ≤ 1000000000) : SO n (k + 1) (addP s c).1 := by
  obtain ⟨e1, e2, e3, e4, e5, _⟩ := addP_same s c
  have hrl := h.rl
  have hem := h.em
  by_cases hne : c = []
  · subst hne
    refine ⟨⟨⟨⟨h.F.I.tr.len, h.F.I.tr.nd, h.F.I.tr.lt, h.F.I.tr.tr⟩, h.F.I.cuts, h.F.I.wl, h.F.I.wat, h.F.I.lit, h.F.I.sum, h.F.I.rw_⟩, h.F.W, ⟨h.F.tt.pos, h.F.tt.neg⟩, h.F.wy, h.F.s0, h.F.lk, h.F.l0, h.F.y, RP.refl _, h.F.dn⟩, h.R.add [], h.tr, h.dn, h.cu, by show s.rows.length ≤ _; omega, by show s.empty + 1 ≤ _; omega⟩
  · have er := addP_rows s hne
    refine ⟨h.F.add hne hnd hl (by omega) (fun _ i _ hm => ?_) (fun _ i _ hm => by simp at hm), h.R.add c, by rw [e2]; exact h.tr, by rw [e4]; exact h.dn, by rw [e5]; exact h.cu, by rw [er]; simp; omega, ?_⟩
    · rw [h.tr] at hm
      simp at hm
    · have : (addP s c).1.empty = s.empty := by
        match c, hne with
        | [a], _ => rfl
        | a :: b :: t, _ => rfl
      omega
theorem SO.more {n k k' : Nat} {s : St} (h : SO n k s) (hk : k ≤ k') : SO n k' s := ⟨h.F, h.R, h.tr, h.dn, h.cu, Nat.le_trans h.rl hk, Nat.le_trans h.em hk⟩
theorem addAll_SO {n : Nat} : ∀ (cs : List (List Nat)) (k : Nat) (s : St), SO n k s → (∀ c ∈ cs, c.Nodup ∧ ∀ x ∈ c, x < 2 * n) → k + cs.length ≤ 1000000000 → SO n (k + cs.length) (addAll s cs)
  | [], k, s, h, _, _ => h
  | c :: cs, k, s, h, hc, hk => by
    have e : k + (c :: cs).length = (k + 1) + cs.length := by simp; omega
    rw [e] at hk ⊢
    unfold addAll
    obtain ⟨h1, h2⟩ := hc c (List.mem_cons_self)
    refine addAll_SO cs (k + 1) _ ?_ (fun d hd => hc d (List.mem_cons_of_mem _ hd)) hk
    split
    · exact h.more (by omega)
    · exact h.add h1 h2 (by omega)
theorem wl_le {s : St} (l : Nat) : (s.watches.getD l []).length ≤ wsum s := by
  unfold wsum
  generalize s.watches = m
  induction m generalizing l with
  | nil => simp
  | cons a m ih =>
    cases l with
    | zero => simp
    | succ l => have := ih l; simp only [List.getD_cons_succ, List.map_cons, List.sum_cons]; omega

end Go.Proofs.Ytbicefgjompnoaa.Sx
/- The store: a new one, in memory. -/
namespace Go.Proofs.Ytbicefgjompnoaa.Sx
open Go.RowKit Go.Sort

theorem old1 {w : World} {o : Obj} {k : Nat} (h : k < w.heap.size) : (w.alloc o).heap[k]? = w.heap[k]? := heap_alloc_old w o h
theorem al0 {w : World} {A B C D : Obj} : ((((w.alloc A).alloc B).alloc C).alloc D).heap[w.heap.size]? = some A := by
  rw [old1 (by simp <;> omega), old1 (by simp <;> omega), old1 (by simp), heap_new rfl]
theorem al1 {w : World} {A B C D : Obj} : ((((w.alloc A).alloc B).alloc C).alloc D).heap[w.heap.size + 1]? = some B := by
  rw [old1 (by simp), old1 (by simp), heap_new (by simp)]
theorem al2 {w : World} {A B C D : Obj} : ((((w.alloc A).alloc B).alloc C).alloc D).heap[w.heap.size + 1 + 1]? = some C := by
  rw [old1 (by simp), heap_new (by simp)]
theorem al3 {w : World} {A B C D : Obj} : ((((w.alloc A).alloc B).alloc C).alloc D).heap[w.heap.size + 1 + 1 + 1]? = some D := heap_new (by simp)
theorem NewPost.drew {w w' : World} {n : Nat} {e : Ending} (h : NewPost w n e w') : NewPost w n e w'.drew := by
  obtain ⟨L, e1, h1, h2, h3⟩ := h
  exact ⟨L, e1, h1.drew, h2.drew, h3⟩

set_option maxRecDepth 100000 in
set_option maxHeartbeats 4000000 in
theorem newStore_any (w : World) (n : Nat) (hn : n ≤ 16777216) : Calls Try.prog 27 #[.int .i64 (n : Int)] w (NewPost w n) := by
  have mo := follows
  obtain ⟨i1, hi1, hz1, hs1, hb1⟩ := info92
  obtain ⟨i2, hi2, hz2, hs2, hb2⟩ := info84
  obtain ⟨i3, hi3, hz3, hs3, hb3⟩ := info21
  have m1 : ∀ W, (Instr.makeSlice 74 (.int .i64 (2 * (n : Int))) (.int .i64 (2 * (n : Int)))).run Try.prog W = .ok (.slice (some ⟨W.heap.size, 0, none⟩) (2 * n) (2 * n)) (W.alloc (.cells (Array.replicate (2 * n) (Value.slice none 0 0)) 92)) := fun W => by
    have := run_make (P := Try.prog) W 74 92 i1 _ Try.underlying74 hi1 hz1 .i64 .i64 (2 * (n : Int)) (2 * (n : Int)) (by omega) (by omega) (by rw [hb1]; omega) (by omega)
    rw [this, show (2 * (n : Int)).toNat = 2 * n from by omega, hs1, made_one rfl]
  have m2 : ∀ W, (Instr.makeSlice 75 (.int .i64 (2 * (n : Int))) (.int .i64 (2 * (n : Int)))).run Try.prog W = .ok (.slice (some ⟨W.heap.size, 0, none⟩) (2 * n) (2 * n)) (W.alloc (.cells (Array.replicate (2 * n) (Value.int .i8 0)) 84)) := fun W => by
    have := run_make (P := Try.prog) W 75 84 i2 _ Try.underlying75 hi2 hz2 .i64 .i64 (2 * (n : Int)) (2 * (n : Int)) (by omega) (by omega) (by rw [hb2]; omega) (by omega)
    rw [this, show (2 * (n : Int)).toNat = 2 * n from by omega, hs2, made_one rfl]
  have m3 : ∀ W, (Instr.makeSlice 56 (.int .i64 (n : Int)) (.int .i64 (n : Int))).run Try.prog W = .ok (.slice (some ⟨W.heap.size, 0, none⟩) n n) (W.alloc (.cells (Array.replicate n (Value.int .i32 0)) 21)) := fun W => by
    have := run_make (P := Try.prog) W 56 21 i3 _ Try.underlying56 hi3 hz3 .i64 .i64 (n : Int) (n : Int) (by omega) (by omega) (by rw [hb3]; omega) (by omega)
    rw [this, Int.toNat_natCast, hs3, made_32]
  have hwr : IntKind.i64.wrap (2 * (n : Int)) = 2 * (n : Int) := by rw [IntKind.wrap_i64]; omega
  go_enter Try.func27, Try.ntmps27
  go_wp2_with fail
  go_region_with fail
  all_goals
    go_wp2_with fail
    go_ret
    refine NewPost.drew (new_at w _ n _ _ _ _ hn ?_ ?_ ?_ ?_ ?_ ?_ ?_ ?_ rfl)
  all_goals first | exact al0 | exact al1 | exact al2 | exact al3 | omega | exact ((((Fr.refl _ w).alloc _).alloc _).alloc _).alloc _ | simp

end Go.Proofs.Ytbicefgjompnoaa.Sx
/- The program: the store of clauses. -/
namespace Go.Proofs.Ytbicefgjompnoaa.Sx
open Go.RowKit Go.Sort
attribute [local go_sem] Oper.semAt_some

/-- all blocks from here on are none of the store's -/
def nrm (L : Ly) (k : Nat) : Ly := { L with own := fun b => if b < k then L.own b else (0, 0) }
theorem nrm_old {L : Ly} {k b : Nat} (h : b < k) : (nrm L k).own b = L.own b := by show (if b < k then L.own b else (0, 0)) = _; rw [if_pos h]
theorem nrm_new {L : Ly} {k b : Nat} (h : k ≤ b) : (nrm L k).own b = (0, 0) := by show (if b < k then L.own b else (0, 0)) = _; rw [if_neg (by omega)]
theorem nrm_zero {L : Ly} {k b : Nat} (h : b < k → L.own b = (0, 0)) : (nrm L k).own b = (0, 0) := by
  by_cases q : b < k
  · rw [nrm_old q]; exact h q
  · exact nrm_new (by omega)
/-- the store, where nothing of it has changed -/
theorem SAt.frl {W W' : World} {L : Ly} {n : Nat} {s : St} (h : SAt W L n s) {P : Nat → Prop} (f : Fr P W W') (hP : ∀ b, ¬ P b → L.own b = (0, 0)) : SAt W' (nrm L W.heap.size) n s := by
  have h1 : SAtK (fun _ => True) W (nrm L W.heap.size) n s := h.1.own _ fun b hb => by rw [if_pos hb]
  refine ⟨((h1.mono (K' := (· ≠ (0, 0))) fun _ _ => trivial).fr fun b hb hne => f.block b hb (Classical.byContradiction fun q => ?_)).full, ⟨h.2.n_, h.2.tr, h.2.wy, h.2.dp, h.2.wt, h.2.wv, h.2.rr, h.2.t3, h.2.lit, h.2.few, h.2.rows⟩⟩
  have := hP b q
  rw [nrm_old hb] at hne
  exact hne this
theorem NmAt.fr {w w' : World} {n pb fb base : Nat} {s : List Nat × List Nat} (h : NmAt w n pb fb base s) (f : Fr (fun _ => True) w w') : NmAt w' n pb fb base s := by
  obtain ⟨vv, e1, e2⟩ := h.ex
  refine ⟨⟨vv, (f.block fb (block_lt e1) trivial).trans e1, e2.1, ?_⟩, (f.block pb (block_lt h.pl) trivial).trans h.pl, h.ok, h.lt, Nat.le_trans h.hb f.size⟩
  rcases e2.2 with q | ⟨g, cap, cur, a1, a2, a3, a4⟩
  · exact .inl q
  · exact .inr ⟨g, cap, cur, a1, a2, (f.block g (block_lt a3) trivial).trans a3, a4⟩
theorem Fr.put {P : Nat → Prop} {a b : World} (h : Fr P a b) {l : Nat} (hl : ¬ P l) (o : Obj) : Fr P a (b.putObj l o) :=
  ⟨h.os, h.tape, h.output, by have := h.size; simpa using this, fun k hk hp => (World.putObj_heap_other (fun e => hl (by rw [← e]; exact hp))).trans (h.block k hk hp)⟩

/-- what store comes to -/
def StorePost (w : World) (s : List Nat × List Nat) (C : List (List Int)) (e : Ending) (w' : World) : Prop :=
  ∃ (cs : List (List Nat)) (L : Ly), e = .returned (.pointer (some ⟨L.sb, 0, none⟩)) ∧ cs.length = C.length ∧ (∀ (i : Nat) (x : List Int) (c : List Nat), C[i]? = some x → cs[i]? = some c → SetOf (x.map (litV s)) c) ∧ SAt w' L s.2.length (addAll (newP s.2.length) cs) ∧ Fr (fun _ => True) w w' ∧ ∀ b, b < w.heap.size → L.own b = (0, 0)

set_option maxRecDepth 100000 in
set_option maxHeartbeats 1000000 in
theorem sets_any (w : World) (fb : Nat) (ca : Option Addr) (cl cc : Nat) : Calls Try.prog 28 #[.pointer (some ⟨fb, 0, none⟩), .slice ca cl cc] w fun e w' => e = .returned (.func (.func 50) #[] #[.pointer (some ⟨w.heap.size + 1, 0, none⟩), .pointer (some ⟨w.heap.size, 0, none⟩)]) ∧ w' = (w.alloc (.cells #[.pointer (some ⟨fb, 0, none⟩)] 38)).alloc (.cells #[.slice ca cl cc] 22) := by
  have mo := follows
  have hmf : ∀ (fn : Fn) (first cap : Array Value) (w : World), (Instr.makeFunc fn first cap).run Try.prog w = .ok (.func fn first cap) w := fun _ _ _ _ => rfl
  go_enter Try.func28, Try.ntmps28
  go_wp2_with fail
  go_ret
  exact ⟨rfl, rfl⟩

/-- a clause's literals -/
theorem litV_lt {n : Nat} {s : List Nat × List Nat} (h : NmOK n s) {x : Int} (hx : s.1.getD x.natAbs 0 ≠ 0) : litV s x < 2 * s.2.length := by
  obtain ⟨k, hk⟩ : ∃ k, s.1.getD x.natAbs 0 = k + 1 := ⟨s.1.getD x.natAbs 0 - 1, by omega⟩
  have := (List.getElem?_eq_some_iff.1 (h.back _ _ hk)).1
  unfold litV
  rw [hk]
  split <;> omega
theorem SetOf.nodup {l c : List Nat} (h : SetOf l c) : c.Nodup := by
  have := h.asc
  unfold Asc at this
  exact this.imp (fun q => Nat.ne_of_lt q)

/-- add, whatever the clause -/
theorem add_any (w : World) (L : Ly) (n k : Nat) (s : St) (cb : Nat) (c : List Nat) (d : Array Nat) (h : SAt w L n s) (hO : LkI n s) (hR : s.single.length ≤ s.rows.length) (hem : s.empty ≤ 1000000000) (hk : s.rows.length ≤ k) (hk2 : k + 1 ≤ 1000000000) (hc : CAt w L cb d c) (hl : ∀ x ∈ c, x < 2 * n) :
    Calls Try.prog 29 #[.pointer (some ⟨L.sb, 0, none⟩), .slice (some ⟨cb, 0, none⟩) c.length d.size] w (AddPost w L n cb (addP s c)) := by
  match c, hc, hl with
  | [], _, _ => exact add_none w L n s cb d.size h (by omega)
  | [a], hc, _ => exact add_one w L n s cb a d h hc (by omega) hR
  | a :: b :: t, hc, hl =>
    refine add_two w L n s cb a b t d h hc (hl a (by simp)) (hl b (by simp)) (by omega) (fun l => ?_)
    have h1 := wl_le (s := s) l
    have h2 := hO.sum
    omega

end Go.Proofs.Ytbicefgjompnoaa.Sx
