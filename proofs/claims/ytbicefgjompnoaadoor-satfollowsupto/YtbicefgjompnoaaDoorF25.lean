/- The store: begin, if look does what it should. -/
import Derived.Test.YtbicefgjompnoaaDoorF19
import Derived.Test.YtbicefgjompnoaaDoorF22
import Derived.Test.YtbicefgjompnoaaDoorF24
import Derived.RangeFuncNested
import Derived.RangeFuncCalls
import Derived.RangeFuncLeaves
import Derived.OwnWalkIn
import Derived.TacticsInMore
import Derived.LoopNIn
import Derived.LoopIn
namespace Go.Proofs.YtbicefgjompnoaaDoor.Sx
open Go.RowKit Go.Sort

/-- what begin comes to -/
def BegS (w : World) (L : Ly) (n : Nat) (I : St → Prop) (s : St) (e : Ending) (w' : World) : Prop :=
  (0 < s.empty ∧ StPost w L n s (.bool false) e w') ∨ (s.empty = 0 ∧ (singlesP s s.single).2 = false ∧ StPost w L n (singlesP s s.single).1 (.bool false) e w') ∨ (s.empty = 0 ∧ (singlesP s s.single).2 = true ∧ ∃ k r, followS k (singlesP s s.single).1 = some r ∧ (r.2 = -1 → I r.1) ∧ StPost w L n r.1 (.bool (decide (r.2 = -1))) e w')

/-- what the walk through the rows of one literal keeps -/
structure SgOK (n : Nat) (s t : St) : Prop where
  tr : TrOK n t
  rows : t.rows = s.rows
  single : t.single = s.single
  cuts : t.cuts = s.cuts
  done : t.done ≤ t.trail.length

set_option maxRecDepth 100000 in
set_option maxHeartbeats 4000000 in
theorem begin_any (w : World) (L : Ly) (n : Nat) (s : St) (I : St → Prop) (HL : LookOK n I) (h : SAt w L n s) (ht : TrOK n s) (hs : ∀ r ∈ s.single, ∃ l rest, s.rows[r]? = some (some (l :: rest)) ∧ l < 2 * n) (hc : s.cuts.length ≤ 1000) (hd : s.done ≤ s.trail.length) (hI : (singlesP s s.single).2 = true → I (singlesP s s.single).1) (hem : s.empty ≤ 1000000000000) (hsl : s.single.length ≤ 1000000000000) :
    Calls Tryd.prog 18 #[.pointer (some ⟨L.sb, 0, none⟩)] w (BegS w L n I s) := by
  have mo := follows
  have hn := h.2.n_
  have HS : Hid (SAt w L n s) := h
  have c2 : w.cell? ⟨L.sb, 2, none⟩ = some (.int .i64 (s.empty : Int)) := h.cell 2
  by_cases he : 0 < s.empty
  · have e1 : (0 : Int) < (s.empty : Int) := by omega
    clear h hs hI ht
    go_enter Tryd.func18, Tryd.ntmps18
    go_wp2_with fail
    go_ret
    exact .inl ⟨he, rfl, L, HS.out, FrS.refl _ _⟩
  have he0 : s.empty = 0 := by omega
  rw [he0] at c2
  obtain ⟨sa, sc, hsv⟩ := (h.1.si trivial).form
  obtain ⟨ra, rc, hrv⟩ := (h.1.ro trivial).form
  have c1 : w.cell? ⟨L.sb, 1, none⟩ = some (.slice sa s.single.length sc) := by have := h.cell 1; simp only [stC, hsv] at this; exact this
  obtain ⟨R, hR⟩ : ∃ R, singlesP s s.single = R := ⟨_, rfl⟩
  have HR0 : Hid (singlesP s (s.single.drop 0) = R) := hR
  have HI : Hid (R.2 = true → I R.1) := by rw [← hR]; exact hI
  have HPO : Hid (∀ e w', ((R.2 = false ∧ StPost w L n R.1 (.bool false) e w') ∨ (R.2 = true ∧ ∃ k r, followS k R.1 = some r ∧ (r.2 = -1 → I r.1) ∧ StPost w L n r.1 (.bool (decide (r.2 = -1))) e w')) → BegS w L n I s e w') := by
    intro e w' q
    unfold BegS
    rw [hR]
    rcases q with q | q
    · exact .inr (.inl ⟨he0, q⟩)
    · exact .inr (.inr ⟨he0, q⟩)
  have HSV : Hid (L.sv = .slice sa s.single.length sc) := hsv
  have HRV : Hid (L.rv = .slice ra s.rows.length rc) := hrv
  have HSI : Hid (∀ r ∈ s.single, ∃ l rest, s.rows[r]? = some (some (l :: rest)) ∧ l < 2 * n) := hs
  have HG0 : Hid (SgOK n s s) := ⟨ht, rfl, rfl, rfl, hd⟩
  have HCU : Hid (s.cuts.length ≤ 1000) := hc
  have HW0 : Hid (SAt w { L with tv := L.tv, own := L.own } n s) := h
  have HF0 : Hid (FrS L { L with tv := L.tv, own := L.own } w w) := FrS.refl L w
  clear h hs hI ht hsv hrv hR hc hd HS
  go_enter Tryd.func18, Tryd.ntmps18
  go_wp2_with fail
  go_loopg [15] (s.single.length) (fun k s15 wr => ∃ (j : Nat) (t : St) (tv : Value) (own : Nat → Nat × Nat), s15 = .int .i64 (j : Int) ∧ j + k = s.single.length ∧ Hid (SAt wr { L with tv := tv, own := own } n t) ∧ Hid (FrS L { L with tv := tv, own := own } w wr) ∧ Hid (SgOK n s t) ∧ Hid (singlesP t (s.single.drop j) = R))
  case atStart => exact ⟨0, s, L.tv, L.own, rfl, by omega, HW0, HF0, HG0, HR0⟩
  case round =>
    clear HW0 HF0 HG0 HR0 c1 c2
    obtain ⟨j, t, tv, own, rfl, hjk, HS, HF, HG, HR⟩ := hrel
    by_cases hj : j < s.single.length
    · obtain ⟨k, rfl⟩ : ∃ k, gk = k + 1 := ⟨gk - 1, by omega⟩
      obtain ⟨r, hr⟩ : ∃ r, s.single[j] = r := ⟨_, rfl⟩
      have hrj : s.single[j]? = some r := by rw [List.getElem?_eq_getElem hj, hr]
      obtain ⟨l, rest, hrow, hl⟩ := HSI.out r (hr ▸ List.getElem_mem hj)
      have hrow2 : t.rows[r]? = some (some (l :: rest)) := by rw [HG.out.rows]; exact hrow
      have hrl : r < s.rows.length := (List.getElem?_eq_some_iff.1 hrow).1
      have hrs := HS.out.2.rows
      rw [HG.out.rows] at hrs
      obtain ⟨sg, hsg, _, cs, _⟩ := (show OwnR wr own (3, 0) 21 1 (.slice sa s.single.length sc) s.single.length (v32 s.single) from by have := HS.out.1.si trivial; rw [HG.out.single] at this; rw [← HSV.out]; exact this).cell1 (v32_get hrj)
      subst hsg
      obtain ⟨v, hv, cb, d, hvv, hcb, hlr, htk, hds⟩ := HS.out.1.rl r trivial _ hrow2
      subst hvv
      have hv2 : L.rr[r]? = some (.slice (some ⟨cb, 0, none⟩) (l :: rest).length d.size) := hv
      obtain ⟨rg, hrg, _, crr, _⟩ := (show OwnR wr own (2, 0) 43 1 (.slice ra s.rows.length rc) s.rows.length L.rr from by have := HS.out.1.ro trivial; rw [HG.out.rows] at this; rw [← HRV.out]; exact this).cell1 hv2
      subst hrg
      have cl := (HS.out.rowcell hrow2 hv (i := 0) (x := l) rfl).1
      have c0 : wr.cell? ⟨L.sb, 0, none⟩ = some (.slice (some ⟨rg, 0, none⟩) s.rows.length rc) := by have := HS.out.cell 0; simp only [stC, HRV.out] at this; exact this
      have hd : s.single.drop j = r :: s.single.drop (j + 1) := by rw [List.drop_eq_getElem_cons hj, hr]
      have hu := HR.out
      rw [hd] at hu
      unfold singlesP at hu
      have hgr : t.rows.getD r none = some (l :: rest) := by rw [List.getD_eq_getElem?_getD, hrow2]; rfl
      rw [hgr] at hu
      simp only at hu
      have HB := believe_any wr { L with tv := tv, own := own } n t l (r : Int) HS.out hl (by rw [HG.out.cuts]; exact HCU.out) (fun q => HG.out.tr.room hl q)
      have j0 : (0 : Int) ≤ (j : Int) := by omega
      have j1 : (j : Int) < (s.single.length : Int) := by omega
      have r1 : (r : Int) < (s.rows.length : Int) := by omega
      have g1 : (0 : Int) < (rest.length : Int) + 1 := by omega
      have g2 : (0 : Int) < (((l :: rest).length : Nat) : Int) := by simp <;> omega
      clear HR hd hgr hrow hrow2 hv hv2 hlr htk hcb hrj hr
      by_cases h0 : t.truth.getD l 0 = 0
      · rw [if_pos h0] at hu
        have HR2 : Hid (singlesP (believeP t l (r : Int)) (s.single.drop (j + 1)) = R) := hu
        have HB2 : Hid (Calls Tryd.prog 17 #[.pointer (some ⟨L.sb, 0, none⟩), .int .i32 (l : Int), .int .i32 (r : Int)] wr fun e w' => e = .returned (.bool true) ∧ ∃ tv own, SAt w' { L with tv := tv, own := own } n (believeP t l (r : Int)) ∧ FrS L { L with tv := tv, own := own } w w') := HB.mono fun e w' q => by
          rcases q with ⟨q, _⟩ | ⟨_, q1, tv1, own1, q2, q3⟩
          · exact absurd h0 q
          · exact ⟨q1, tv1, own1, q2, HF.out.trans q3⟩
        have HG2 : Hid (SgOK n s (believeP t l (r : Int))) := ⟨HG.out.tr.believe hl h0 _, HG.out.rows, HG.out.single, HG.out.cuts, by have := HG.out.done; show t.done ≤ (t.trail ++ [l]).length; simp; omega⟩
        clear HB hu HS HF HG h0
        go_wp2_with (go_at_call 17; refine HB2.out.mono ?_; rintro e w2 ⟨rfl, tv1, own1, q2, q3⟩)
        have Q2 : Hid (SAt w2 { L with tv := tv1, own := own1 } n (believeP t l (r : Int))) := q2
        have Q3 : Hid (FrS L { L with tv := tv1, own := own1 } w w2) := q3
        clear q2 q3 HB2
        go_wp2_with fail
        go_roundg k
        case measure => omega
        case rel => exact ⟨j + 1, _, tv1, own1, by simp, by omega, Q2, Q3, HG2, HR2⟩
      · rw [if_neg h0] at hu
        by_cases hp : 0 < t.truth.getD l 0
        · rw [if_pos hp] at hu
          have HR2 : Hid (singlesP t (s.single.drop (j + 1)) = R) := hu
          have HB2 : Hid (Calls Tryd.prog 17 #[.pointer (some ⟨L.sb, 0, none⟩), .int .i32 (l : Int), .int .i32 (r : Int)] wr fun e w' => e = .returned (.bool true) ∧ w' = wr) := HB.mono fun e w' q => by
            rcases q with ⟨_, q1, q2⟩ | ⟨q, _⟩
            · rw [decide_eq_true hp] at q1; exact ⟨q1, q2⟩
            · exact absurd q h0
          clear HB hu h0 hp
          go_wp2_with (go_at_call 17; refine HB2.out.mono ?_; rintro e w2 ⟨rfl, hw⟩; obtain rfl := hw.symm)
          go_roundg k
          case measure => omega
          case rel => exact ⟨j + 1, t, tv, own, by simp, by omega, HS, HF, HG, HR2⟩
        · rw [if_neg hp] at hu
          have HR2 : Hid ((t, false) = R) := hu
          have HB2 : Hid (Calls Tryd.prog 17 #[.pointer (some ⟨L.sb, 0, none⟩), .int .i32 (l : Int), .int .i32 (r : Int)] wr fun e w' => e = .returned (.bool false) ∧ w' = wr) := HB.mono fun e w' q => by
            rcases q with ⟨_, q1, q2⟩ | ⟨q, _⟩
            · rw [decide_eq_false hp] at q1; exact ⟨q1, q2⟩
            · exact absurd q h0
          clear HB hu h0 hp
          go_wp2_with (go_at_call 17; refine HB2.out.mono ?_; rintro e w2 ⟨rfl, hw⟩; obtain rfl := hw.symm)
          go_ret
          exact HPO.out _ _ (.inl ⟨by rw [← HR2.out], rfl, _, by rw [← HR2.out]; exact HS.out, HF.out⟩)
    · have j1 : ¬ (j : Int) < (s.single.length : Int) := by omega
      obtain rfl : j = s.single.length := by omega
      have hu := HR.out
      rw [List.drop_length] at hu
      have HR2 : Hid ((t, true) = R) := hu
      have hIt : I t := by have := HI.out (by rw [← HR2.out]); rw [← HR2.out] at this; exact this
      have HFL : Hid (Calls _ _ _ _ _) := follow2_any wr { L with tv := tv, own := own } n t I HL HS.out hIt HG.out.done
      clear hu HR hIt
      go_wp2_with (go_at_call 36; refine HFL.out.mono ?_; rintro e w2 ⟨m, ⟨r1, r2⟩, q1, q2, rfl, L2, q3, q4⟩)
      have e1 : (r2 == -1) = decide (r2 = -1) := by
        by_cases q : r2 = -1
        · rw [q]; rfl
        · rw [decide_eq_false q, beq_eq_false_iff_ne]; exact q
      have HX : Hid (BegS w L n I s (.returned (.bool (decide (r2 = -1)))) w2) := HPO.out _ _ (.inr ⟨by rw [← HR2.out], m, (r1, r2), by rw [← HR2.out]; exact q1, q2, rfl, L2, q3, HF.out.trans q4⟩)
      clear q1 q2 q3 q4 HFL
      go_wp2_with fail
      go_ret
      first | exact HX.out | (have := HX.out; rw [← e1] at this; exact this)

end Go.Proofs.YtbicefgjompnoaaDoor.Sx
/- A range over a function whose rounds all go on, where what is handed on lies in memory. -/
namespace Go.Proofs.YtbicefgjompnoaaDoor.Sx
open Go.RowKit Go.Sort

/-- the world where the rounds begin -/
def rgW (w : World) (fn : FuncId) (tmps : Array Value) (ps : Array Tmp) (assign body : Code) : World := (w.alloc (.deferred (some []))).alloc (.loop { state := .ready, pending := none, fn := fn, tmps := tmps, params := ps, assign := assign, body := body, defers := w.heap.size })
/-- how a round is left -/
def goPost (b : Nat) (Kp : World → World → Prop) (I : Nat → World → Prop) (i : Nat) (W : World) : Exit → Act → World → Prop
  | .normal, _, W' => W'.heap[b]? = W.heap[b]? ∧ W'.heap[b + 1]? = W.heap[b + 1]? ∧ Kp W W' ∧ I (i + 1) W'
  | _, _, _ => False

theorem range_go {F : Fence} {n : Nat} {P : Program} {g : Operand} {ps : Array Tmp} {assign body : Code} {Q : Exit → Act → World → Prop} {a : Act} {w : World} (hro : F.round = none) (h1 : 1 ≤ n)
    {gf : Nat} {lb : Array Value} (hg : a.eval g = .func (.func gf) #[] lb) (hFg : F.fn gf) (eg : ∀ args w, (callFunc gf args).run P w = .ok (.enter gf args) w)
    (N : Nat) (I : Nat → World → Prop) (A : Nat → World → Array Value → Prop) (Kp : World → World → Prop)
    (hKt : ∀ X Y Z : World, Kp X Y → Kp Y Z → Kp X Z) (hKp : ∀ (W : World) (o : Obj), Kp W (W.putObj (w.heap.size + 1) o))
    (hIb : ∀ i W W', I i W → Below W.heap.size W W' → I i W') (hIp : ∀ i (W : World) o, I i W → I i (W.putObj (w.heap.size + 1) o)) (hAp : ∀ i (W : World) v o, A i W v → A i (W.putObj (w.heap.size + 1) o) v) (hAs : ∀ i W v, A i W v → v.size = ps.size)
    (hit : ∀ (fn : FuncId) (J : Nat → World → Prop), (∀ i W W', J i W → Below W.heap.size W W' → J i W') → (∀ i W, J i W → I i W) → (∀ i W, J i W → I (i + 1) W → J (i + 1) W) →
      (∀ i W v, J i W → A i W v → YieldAt F (n - 1 - 1) P (w.heap.size + 1) v W fun e W' => e = .returned (.bool true) ∧ J (i + 1) W' ∧ Kp W W') → J 0 (rgW w fn a.tmps ps assign body) →
      CallsIn F (n - 1) P gf (#[.func (.yield (w.heap.size + 1)) #[] #[]] ++ lb) (rgW w fn a.tmps ps assign body) fun e W' => (∃ v, e = .returned v) ∧ J N W')
    (h0 : ∀ fn, I 0 (rgW w fn a.tmps ps assign body)) (a₁ : Array Value → Act)
    (hassign : ∀ i (v : Array Value) (W : World) (K : Act → World → Prop), A i W v → K (a₁ v) W → assign.wpIn (F.inRound (w.heap.size + 1)) (n - 1 - 1) P (Exit.then K (fun _ _ _ => False)) { tmps := (ps.zip v).foldl (fun t (p, v) => t.setIfInBounds p v) a.tmps, defers := [] } W)
    (hbody : ∀ i v W, I i W → A i W v → body.wpIn (F.inRound (w.heap.size + 1)) (n - 1 - 1) P (goPost w.heap.size Kp I i W) (a₁ v) W)
    (hdone : ∀ W, I N W → W.heap[w.heap.size]? = some (.deferred (some [])) → Q .normal { a with defers := { target := .collected w.heap.size, args := #[] } :: a.defers } W) :
    (Code.rangeFunc g ps assign body).wpIn F n P Q a w := by
  refine wpIn_rangeFunc fun fn hfn => ?_
  rw [hro]
  generalize hL : w.heap.size + 1 = l at *
  obtain ⟨rec, hrec⟩ : ∃ rec : LoopState → Loop, rec = fun st => { state := st, pending := none, fn := fn, tmps := a.tmps, params := ps, assign := assign, body := body, defers := w.heap.size } := ⟨_, rfl⟩
  have hW1 : rgW w fn a.tmps ps assign body = (w.alloc (.deferred (some []))).alloc (.loop (rec .ready)) := by rw [hrec]; rfl
  have hl1 : (rgW w fn a.tmps ps assign body).heap[l]? = some (.loop (rec .ready)) := by
    rw [hW1, ← hL]
    have := World.alloc_heap_new (w.alloc (.deferred (some []))) (.loop (rec .ready))
    rwa [World.size_alloc] at this
  have hd1 : (rgW w fn a.tmps ps assign body).heap[w.heap.size]? = some (.deferred (some [])) := by
    rw [hW1]
    exact (Below.heap_alloc _ _ _ (by simp)).trans (World.alloc_heap_new w _)
  have hi1 := h0 fn
  refine ⟨l, [{ target := .collected w.heap.size, args := #[] }], rgW w fn a.tmps ps assign body, { target := .fn (.func gf) lb, args := #[.func (.yield l) #[] #[]] }, rgW w fn a.tmps ps assign body, gf, #[.func (.yield l) #[] #[]] ++ lb, rgW w fn a.tmps ps assign body, by rw [← hL]; exact run_enterLoop_outer _ _ _ _ _, by simp only [resolve, hg]; simp [go_sem], fun f' hf' => by simp [Target.leads] at hf'; subst hf'; exact hFg, by simp [invoke, go_sem, eg], fun _ => h1, ?_⟩
  refine (hit fn (fun i W => I i W ∧ W.heap[l]? = some (.loop (rec .ready)) ∧ W.heap[w.heap.size]? = some (.deferred (some []))) (fun i W W' hJ hb => ⟨hIb i W W' hJ.1 hb, (hb.block l (block_lt hJ.2.1)).trans hJ.2.1, (hb.block _ (block_lt hJ.2.2)).trans hJ.2.2⟩) (fun _ _ hJ => hJ.1) (fun _ _ hJ hi => ⟨hi, hJ.2⟩) ?_ ⟨hi1, hl1, hd1⟩).mono ?_
  · rintro i W v ⟨hi, hl, hd⟩ hv
    have hlt := block_lt hl
    have hy := run_yield (P := P) (args := v) hl (by rw [hrec]; exact hAs i W v hv)
    rw [hrec] at hy
    refine ⟨fn, _, assign, body, hy, roundIn_of_wpIn hfn (hassign i v W _ hv ⟨_, run_beginRound hl (by rw [hrec]), ?_⟩)⟩
    have e2 : (Loop.mk .busy none fn a.tmps ps assign body w.heap.size) = rec .busy := by rw [hrec]
    have hl2 : (W.putObj l (.loop { rec .ready with state := .busy })).heap[l]? = some (.loop (rec .busy)) := by rw [World.putObj_heap_same hlt, hrec]
    have hd2 : (W.putObj l (.loop { rec .ready with state := .busy })).heap[w.heap.size]? = some (.deferred (some [])) := (World.putObj_heap_other (by omega)).trans hd
    refine wpIn_mono (hbody i v _ (hIp i W _ hi) (hAp i W v _ hv)) fun e a3 W3 hp => ?_
    cases e with
    | normal =>
      obtain ⟨q1, q2, q3, q4⟩ := hp
      rw [hL] at q2
      have hl3 : W3.heap[l]? = some (.loop (rec .busy)) := q2.trans hl2
      have hend := run_endRound (P := P) none hl3
      have e3 : ({ rec .busy with state := .ready, pending := none } : Loop) = rec .ready := by rw [hrec]
      refine ⟨_, _, hend, rfl, ⟨hIp _ _ _ q4, ?_, (World.putObj_heap_other (by omega)).trans (q1.trans hd2)⟩, hKt _ _ _ (hKp W _) (hKt _ _ _ q3 (hKp W3 _))⟩
      rw [World.putObj_heap_same (block_lt hl3)]
      simp only [Option.isNone_none, if_true]
      rw [e3]
    | exit id => exact hp.elim
    | goto t => exact hp.elim
    | ret => exact hp.elim
    | panic c => exact hp.elim
    | outgrown => exact hp.elim
  · rintro e W2 ⟨⟨v, rfl⟩, hi, hl, hd⟩
    have := run_endLoop (P := P) hl (by rw [hrec]; simp)
    have e4 : (rec .ready).pending = none := by rw [hrec]
    rw [e4] at this
    exact ⟨none, _, this, hdone _ (hIp _ _ _ hi) ((World.putObj_heap_other (by omega)).trans hd)⟩

end Go.Proofs.YtbicefgjompnoaaDoor.Sx
/- The program: sets, one by one. -/
namespace Go.Proofs.YtbicefgjompnoaaDoor.Sx
open Go.RowKit Go.Sort
attribute [local go_sem] Oper.semAt_some

/-- a clause that is handed on -/
structure Hand (s : List Nat × List Nat) (C : List (List Int)) (i : Nat) (Wb W : World) (x : List Int) (c : List Nat) (b : Nat) (d : Array Nat) : Prop where
  x_ : C[i]? = some x
  set : SetOf (x.map (litV s)) c
  al : alwaysP c = false
  new : Wb.heap.size ≤ b
  row : LRow W b d
  tk : d.toList.take c.length = c
  sz : d.size = x.length

set_option maxRecDepth 100000 in
set_option maxHeartbeats 4000000 in
theorem sets1_in (m l cx fx n pb fb base lo : Nat) (s : List Nat × List Nat) (C : List (List Int)) (cv : Value) (J : Nat → World → Prop) (hn : n ≤ 16777216)
    (hC : ∀ x ∈ C, x.length ≤ 4294967296 ∧ ∀ y ∈ x, LitN n y ∧ s.1.getD y.natAbs 0 ≠ 0)
    (hJb : ∀ i W W', J i W → Below W.heap.size W W' → J i W')
    (hF : ∀ i W, J i W → W.cell? ⟨cx, 0, none⟩ = some cv ∧ W.cell? ⟨fx, 0, none⟩ = some (.pointer (some ⟨fb, 0, none⟩)) ∧ NmAt W n pb fb base s ∧ ClsAt W lo cv C)
    (hsk : ∀ i W x c, J i W → C[i]? = some x → SetOf (x.map (litV s)) c → alwaysP c = true → J (i + 1) W)
    (hY : ∀ i Wb W x c b d, J i Wb → Below Wb.heap.size Wb W → Hand s C i Wb W x c b d → YieldAt Fence.wide (m - 1) Tryd.prog l #[.slice (some ⟨b, 0, none⟩) c.length x.length] W fun e W' => e = .returned (.bool true) ∧ J (i + 1) W')
    (W : World) (h0 : J 0 W) :
    CallsIn Fence.wide m Tryd.prog 42 #[.func (.yield l) #[] #[], .pointer (some ⟨cx, 0, none⟩), .pointer (some ⟨fx, 0, none⟩)] W fun e W' => (∃ v, e = .returned v) ∧ J C.length W' := by
  obtain ⟨k1, k2, _, k4⟩ := hF 0 W h0
  obtain ⟨ca, cc, rfl, hcq⟩ := k4.ex
  have hbig := k4.big
  have hro : Fence.wide.round = none := rfl
  refine callsIn_of_wp Tryd.func42 rfl trivial ?_ hro
  simp only [Tryd.ntmps42, List.size_toArray, List.length_cons, List.length_nil, Nat.reduceAdd, Nat.reduceSub, Array.replicate_succ, Array.replicate_zero, List.push_toArray, List.append_toArray, List.nil_append, List.cons_append]
  gi_wp2_with fail
  gi_loopw [10] (fun i wr => ∃ k : Nat, i = .int .i64 (k : Int) ∧ k ≤ C.length ∧ Hid (J k wr)) (fun i _ => C.length - (intOf i).toNat)
  case atStart => exact ⟨0, rfl, by omega, h0⟩
  case round =>
    clear k1 k2 k4 hcq
    obtain ⟨k, rfl, hk, HJ⟩ := hrel
    by_cases hlt : k < C.length
    · obtain ⟨x, hx⟩ : ∃ x, C[k]? = some x := ⟨_, List.getElem?_eq_getElem hlt⟩
      obtain ⟨q1, q2, q3, q4⟩ := hF k wr HJ.out
      obtain ⟨a', c', e', q5⟩ := q4.ex
      cases e'
      rcases q5 with q5 | ⟨p, rfl, hpl, hp⟩
      · rw [q5] at hlt; simp at hlt
      obtain ⟨u, hu, hi⟩ := hp k x hx
      have hm : x ∈ C := List.mem_of_getElem? hx
      have HS : Hid (Calls _ _ _ _ _) := set2_any wr n pb fb base lo s u x hn q3 hi (hC x hm).1 (hC x hm).2
      obtain ⟨ua, uc, rfl, _⟩ := hi.ex
      have i1 : (k : Int) < (C.length : Int) := by omega
      have HX : Hid (C[k]? = some x) := hx
      clear q3 q4 hp hi hx q1
      gi_wp2_with fail
      refine ⟨trivial, fun h => by simp [Fence.wide] at h, (callsIn_wide.2 HS.out).mono ?_⟩
      rintro e w2 ⟨hfr, c, hset, ⟨hal, rfl⟩ | ⟨hal, rfl, d, hd1, hd2, hd3⟩⟩
      · have hb2 : Below wr.heap.size wr w2 := ⟨hfr.os, hfr.tape, hfr.output, hfr.size, fun b hb => hfr.block b hb trivial⟩
        have HJ2 : Hid (J (k + 1) w2) := hsk k w2 x c (hJb k wr w2 HJ.out hb2) HX.out hset hal
        clear HS hfr hb2
        gi_wp2_with fail
        refine ⟨fun _ h => (by cases h), ?_⟩
        gi_wp2_with fail
        go_roundw
        case rel => exact ⟨k + 1, by go_num, by omega, HJ2⟩
        case measure => simp [intOf]; omega
      · have hb2 : Below wr.heap.size wr w2 := ⟨hfr.os, hfr.tape, hfr.output, hfr.size, fun b hb => hfr.block b hb trivial⟩
        obtain ⟨fn, tmps, assign, body, hy, hR⟩ := hY k wr w2 x c wr.heap.size d HJ.out hb2 ⟨HX.out, hset, hal, Nat.le_refl _, hd3, hd2, hd1⟩
        have HRR : Hid (RoundIn Fence.wide (m - 1) Tryd.prog l fn tmps assign body w2 fun e W' => e = .returned (.bool true) ∧ J (k + 1) W') := hR
        clear hR HS hfr hb2 hd1 hd2 hd3
        gi_wp2_with fail
        refine ⟨fun h => by simp [Fence.wide] at h, HRR.out.mono ?_⟩
        rintro e w3 ⟨rfl, h3⟩
        have HJ3 : Hid (J (k + 1) w3) := h3
        clear h3 HRR
        gi_wp2_with fail
        go_roundw
        case rel => exact ⟨k + 1, by go_num, by omega, HJ3⟩
        case measure => simp [intOf]; omega
    · have i1 : ¬ (k : Int) < (C.length : Int) := by omega
      obtain rfl : k = C.length := by omega
      gi_wp2_with fail
      go_end0
      exact ⟨⟨_, rfl⟩, HJ.out⟩

end Go.Proofs.YtbicefgjompnoaaDoor.Sx
/- The store of clauses (plain): what is so of it. -/
namespace Go.Proofs.YtbicefgjompnoaaDoor.Sx

/-- a store that nothing is true of yet -/
structure SO (n k : Nat) (s : St) : Prop where
  F : SF n [] [] s.rows s
  R : RW s
  tr : s.trail = []
  dn : s.done = 0
  cu : s.cuts = []
  rl : s.rows.length ≤ k
  em : s.empty ≤ k
theorem getD_rep0 (k l : Nat) : (List.replicate k (0 : Int)).getD l 0 = 0 := by
  rw [List.getD_eq_getElem?_getD, List.getElem?_replicate]
  split <;> rfl
theorem getD_repN (k l : Nat) : (List.replicate k ([] : List (Nat × Nat))).getD l [] = [] := by
  rw [List.getD_eq_getElem?_getD, List.getElem?_replicate]
  split <;> rfl
theorem sum_rep (k : Nat) : ((List.replicate k ([] : List (Nat × Nat))).map List.length).sum = 0 := by
  induction k with
  | zero => rfl
  | succ k ih => simp [List.replicate_succ]
theorem newP_SO (n : Nat) : SO n 0 (newP n) := by
  refine ⟨⟨⟨⟨by simp [newP], by simp [newP], fun l hl => by simp [newP] at hl, fun l hl => by simp [newP] at hl⟩, by simp [newP], by simp [newP], fun l p hp => ?_, fun r c hc => by simp [newP] at hc, ?_, by simp [newP]⟩, ⟨fun r c i hc => by simp [newP] at hc, fun l r o c hm hc => by simp [newP] at hc, fun l => ?_, fun r c hc => by simp [newP] at hc⟩, ⟨fun l hl => ?_, fun l hl => ?_⟩, by simp [newP], fun x hx => by simp at hx, fun r c i hc => by simp [newP] at hc, fun r c i hc => by simp [newP] at hc, fun i l hl => by simp [newP] at hl, RP.refl _, by simp [newP]⟩, ⟨fun r hr => by simp [newP] at hr, fun r l hl => by simp [newP] at hl, fun r hr => by simp [newP] at hr, by simp [newP], fun r hr => by simp [newP] at hr⟩, rfl, rfl, rfl, by simp [newP], by simp [newP]⟩
  · have : p ∈ (List.replicate (2 * n) ([] : List (Nat × Nat))).getD l [] := hp
    rw [getD_repN] at this
    simp at this
  · show ((List.replicate (2 * n) ([] : List (Nat × Nat))).map List.length).sum ≤ _
    rw [sum_rep]
    simp
  · show (((List.replicate (2 * n) ([] : List (Nat × Nat))).getD l []).map Prod.fst).Nodup
    rw [getD_repN]
    simp
  · have : 0 < (List.replicate (2 * n) (0 : Int)).getD l 0 := hl
    rw [getD_rep0] at this
    omega
  · have : (List.replicate (2 * n) (0 : Int)).getD l 0 < 0 := hl
    rw [getD_rep0] at this
    omega
theorem SO.add {n k : Nat} {s : St} (h : SO n k s) {c : List Nat} (hnd : c.Nodup) (hl : ∀ x ∈ c, x < 2 * n) (hk : k + 1 ≤ 1000000000) : SO n (k + 1) (addP s c).1 := by
  obtain ⟨e1, e2, e3, e4, e5, _⟩ := addP_same s c
  have hrl := h.rl
  have hem := h.em
  by_cases hne : c = []
  · subst hne
    refine ⟨⟨⟨⟨h.F.I.tr.len, h.F.I.tr.nd, h.F.I.tr.lt, h.F.I.tr.tr⟩, h.F.I.cuts, h.F.I.wl, h.F.I.wat, h.F.I.lit, h.F.I.sum, h.F.I.rw_⟩, h.F.W, ⟨h.F.tt.pos, h.F.tt.neg⟩, h.F.wy, h.F.s0, h.F.lk, h.F.l0, h.F.y, RP.refl _, h.F.dn⟩, h.R.add [], h.tr, h.dn, h.cu, by show s.rows.length ≤ _; omega, by show s.empty + 1 ≤ _; omega⟩
  · have er := addP_rows s hne
    refine ⟨h.F.add hne hnd hl (by omega) (fun _ i _ hm => ?_) (fun _ i _ hm => by simp at hm), h.R.add c, by rw [e2]; exact h.tr, by rw [e4]; exact h.dn, by rw [e5]; exact h.cu, by rw [er]; simp; omega, ?_⟩
    · rw [h.tr] at hm
      simp at hm
    · have : (addP s c).1.empty = s.empty := by
        match c, hne with
        | [a], _ => rfl
        | a :: b :: t, _ => rfl
      omega
theorem SO.more {n k k' : Nat} {s : St} (h : SO n k s) (hk : k ≤ k') : SO n k' s := ⟨h.F, h.R, h.tr, h.dn, h.cu, Nat.le_trans h.rl hk, Nat.le_trans h.em hk⟩
theorem addAll_SO {n : Nat} : ∀ (cs : List (List Nat)) (k : Nat) (s : St), SO n k s → (∀ c ∈ cs, c.Nodup ∧ ∀ x ∈ c, x < 2 * n) → k + cs.length ≤ 1000000000 → SO n (k + cs.length) (addAll s cs)
  | [], k, s, h, _, _ => h
  | c :: cs, k, s, h, hc, hk => by
    have e : k + (c :: cs).length = (k + 1) + cs.length := by simp; omega
    rw [e] at hk ⊢
    unfold addAll
    obtain ⟨h1, h2⟩ := hc c (List.mem_cons_self)
    refine addAll_SO cs (k + 1) _ ?_ (fun d hd => hc d (List.mem_cons_of_mem _ hd)) hk
    split
    · exact h.more (by omega)
    · exact h.add h1 h2 (by omega)
theorem wl_le {s : St} (l : Nat) : (s.watches.getD l []).length ≤ wsum s := by
  unfold wsum
  generalize s.watches = m
  induction m generalizing l with
  | nil => simp
  | cons a m ih =>
    cases l with
    | zero => simp
    | succ l => have := ih l; simp only [List.getD_cons_succ, List.map_cons, List.sum_cons]; omega

end Go.Proofs.YtbicefgjompnoaaDoor.Sx
