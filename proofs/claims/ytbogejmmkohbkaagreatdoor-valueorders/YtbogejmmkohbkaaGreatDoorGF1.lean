/- Lists of pairs: one item. -/
import Derived.Test.YtbogejmmkohbkaaGreatDoorGP1
import Derived.Test.YtbogejmmkohbkaaGreatDoorGS6
import Derived.Deep.Cut
import Derived.Deep.CutRange
import Derived.Test.YtbogejmmkohbkaaGreatDoorGP3
namespace Go.Proofs.YtbogejmmkohbkaaGreatDoor.Sx
open Go.RowKit Go.Sort

theorem infoP : (Tryz.prog.info? 273).map (fun i => (i.zero, i.size, i.bytes)) = some (some (.agg #[.nilIface, .nilIface]), 2, 32) := by kernel_rfl

/-- the pairs so far: their variable, their row, their values -/
def LPx (n : Nat) (w : World) (bl base : Nat) (es : List (AV n × AV n)) (sl : Value) (vs : List Value) : Prop :=
  w.heap[bl]? = some (.cells #[sl] 270 (0, 0)) ∧ w.ownsRow base 273 2 sl es.length vs ∧ (∀ (i : Nat) (p : AV n × AV n), es[i]? = some p → ∃ v u, vs[i * 2]? = some v ∧ vs[i * 2 + 1]? = some u ∧ RepP (fun k => base ≤ k ∧ sl.ownBlock ≠ some k) w n p.1 v ∧ RepP (fun k => base ≤ k ∧ sl.ownBlock ≠ some k) w n p.2 u) ∧ (∀ p ∈ es, wt n p.1 ≤ 1024 ∧ wt n p.2 ≤ 1024) ∧ (sl = .slice none 0 0 ∨ 0 < es.length)
def LP (n : Nat) (w : World) (bl base : Nat) (es : List (AV n × AV n)) : Prop := ∃ (sl : Value) (vs : List Value), LPx n w bl base es sl vs

theorem owns2_of {w w' : World} {base : Nat} {sl : Value} {n : Nat} {vs : List Value} (h : w.ownsRow base 273 2 sl n vs) (hb : ∀ g, sl.ownBlock = some g → base ≤ g → g < w.heap.size → w'.heap[g]? = w.heap[g]?) : w'.ownsRow base 273 2 sl n vs := by
  refine ⟨h.1, ?_⟩
  rcases h.2 with h' | ⟨g, cap, cur, e, hg, hq, r⟩
  · exact .inl h'
  · exact .inr ⟨g, cap, cur, e, hg, (hb g (by rw [e]; rfl) hg (block_lt hq)).trans hq, r⟩
theorem own2_lt {w : World} {base : Nat} {sl : Value} {n g : Nat} {vs : List Value} (h : w.ownsRow base 273 2 sl n vs) (hg : sl.ownBlock = some g) : base ≤ g ∧ g < w.heap.size := by
  rcases h.2 with ⟨rfl, _⟩ | ⟨g', cap, cur, rfl, hb, hq, _⟩
  · simp [Value.ownBlock] at hg
  · simp [Value.ownBlock] at hg; subst hg; exact ⟨hb, block_lt hq⟩
theorem LPx.fr {n : Nat} {w w' : World} {bl base br : Nat} {es : List (AV n × AV n)} {sl : Value} {vs : List Value} (h : LPx n w bl base es sl vs) (f : Fr (· ≠ br) w w') (hbr : br < base) (hbl : bl ≠ br) : LPx n w' bl base es sl vs := by
  obtain ⟨h1, h2, h3, h4, h5⟩ := h
  refine ⟨(f.block bl (block_lt h1) hbl).trans h1, owns2_of h2 (fun g _ hg hlt => f.block g hlt (by omega)), fun i p hp => ?_, h4, h5⟩
  obtain ⟨v, u, hv, hu, hr, hs⟩ := h3 i p hp
  exact ⟨v, u, hv, hu, hr.keep (f.mono fun k hk => by have := hk.1; omega), hs.keep (f.mono fun k hk => by have := hk.1; omega)⟩

/-- one pair more -/
theorem LP.push {n : Nat} {w w1 w2 : World} {bl base g cap : Nat} {es : List (AV n × AV n)} {sl u0 : Value} {vs : List Value} {x y : AV n} {v u : Value}
    (h2 : w1.ownsRow base 273 2 sl es.length vs) (h3 : ∀ (i : Nat) (p : AV n × AV n), es[i]? = some p → ∃ v u, vs[i * 2]? = some v ∧ vs[i * 2 + 1]? = some u ∧ RepP (fun k => base ≤ k ∧ sl.ownBlock ≠ some k) w1 n p.1 v ∧ RepP (fun k => base ≤ k ∧ sl.ownBlock ≠ some k) w1 n p.2 u) (h4 : ∀ p ∈ es, wt n p.1 ≤ 1024 ∧ wt n p.2 ≤ 1024)
    (hx : RepP (fun k => w.heap.size ≤ k) w1 n x v) (hy : RepP (fun k => w.heap.size ≤ k) w1 n y u) (hw : wt n x ≤ 1024 ∧ wt n y ≤ 1024) (hbase : base ≤ w.heap.size) (hsl : ∀ q, sl.ownBlock = some q → q < w.heap.size)
    (ho : w2.ownsRow base 273 2 (.slice (some ⟨g, 0, none⟩) (es.length + 1) cap) (es.length + 1) (vs ++ [v, u])) (hg : w1.grownBy w2 sl.ownBlock) (hat : sl.ownBlock = some g ∨ w1.heap.size ≤ g)
    (hbl : bl < base) (hb : w2.heap[bl]? = some (.cells #[u0] 270 (0, 0))) :
    LP n (w2.setCell ⟨bl, 0, none⟩ (.slice (some ⟨g, 0, none⟩) (es.length + 1) cap)) bl base (es ++ [(x, y)]) := by
  have hgb : base ≤ g := (own2_lt ho (by rfl)).1
  have keep : ∀ (z : AV n) (q : Value), RepP (fun k => base ≤ k ∧ sl.ownBlock ≠ some k) w1 n z q → RepP (fun k => base ≤ k ∧ (Value.slice (some ⟨g, 0, none⟩) (es.length + 1) cap).ownBlock ≠ some k) (w2.setCell ⟨bl, 0, none⟩ (.slice (some ⟨g, 0, none⟩) (es.length + 1) cap)) n z q := by
    intro z q hz
    have f1 : Fr (fun k => base ≤ k ∧ sl.ownBlock ≠ some k) w1 w2 := (Fr.refl _ w1).grown hg (fun k _ e hp => hp.2 e)
    refine hz.fr (f1.set (by simp; omega) _) (fun k hk hp => ⟨hp.1, fun e => ?_⟩) n z q
    simp only [Value.ownBlock, Option.some.injEq] at e
    subst e
    rcases hat with q | q
    · exact hp.2 q
    · omega
  have hvl : vs.length = es.length * 2 := h2.1
  refine ⟨_, vs ++ [v, u], set_block hb 0 _, ?_, fun i p hp => ?_, fun p hp => ?_, .inr (by simp)⟩
  · rw [List.length_append]
    exact owns2_of ho (fun q hq hbq _ => by rw [Below.heap_setCell _ _ _ _ (by simp; omega)])
  · by_cases hi : i < es.length
    · rw [List.getElem?_append_left hi] at hp
      obtain ⟨v', u', hv, hu, hr, hs⟩ := h3 i p hp
      exact ⟨v', u', by rw [List.getElem?_append_left (by omega)]; exact hv, by rw [List.getElem?_append_left (by omega)]; exact hu, keep _ _ hr, keep _ _ hs⟩
    · have hie : i = es.length := by
        have := (List.getElem?_eq_some_iff.1 hp).1
        simp at this; omega
      subst hie
      rw [List.getElem?_append_right (Nat.le_refl _)] at hp
      simp at hp
      subst hp
      refine ⟨v, u, by rw [List.getElem?_append_right (by omega)]; simp [hvl], by rw [List.getElem?_append_right (by omega), hvl, show es.length * 2 + 1 - es.length * 2 = 1 from by omega]; rfl, ?_, ?_⟩
      · exact keep x v (hx.fr (Fr.refl _ w1) (fun k _ hk => ⟨by omega, fun e => by have := hsl k e; omega⟩) n x v)
      · exact keep y u (hy.fr (Fr.refl _ w1) (fun k _ hk => ⟨by omega, fun e => by have := hsl k e; omega⟩) n y u)
  · rcases List.mem_append.1 hp with q | q
    · exact h4 p q
    · simp at q; subst q; exact hw

def PairPost (w : World) (br bl base : Nat) (t : ByteArray) (op d : Nat) (es : List (AV (d + 1) × AV (d + 1))) (R : Except (Nat × Nat) ((AV (d + 1) × AV (d + 1)) × St)) (e : Ending) (w' : World) : Prop :=
  ∃ er, e = .returned er ∧ Fr (fun k => k < base ∧ k ≠ br ∧ k ≠ bl) w w' ∧
    match R with
    | .ok (p, s') => er = .nilIface ∧ LP (d + 1) w' bl base (es ++ [p]) ∧ RdS w' br t s' op
    | .error (c, q) => er = .iface 61 (.int .i64 (c : Int)) ∧ (∃ es', LP (d + 1) w' bl base es' ∧ es'.length ≤ es.length + 1) ∧ ∃ s' : St, s'.at' = q ∧ RdS w' br t s' op

def joinP {α : Type} (x : α) (R : Except (Nat × Nat) (α × St)) : Except (Nat × Nat) ((α × α) × St) :=
  match R with
  | .error e => .error e
  | .ok (y, s2) => .ok ((x, y), s2)

set_option maxRecDepth 100000 in
set_option maxHeartbeats 4000000 in
theorem pair_any (d : Nat) (V : ValOK d) (w : World) (br bR bl base : Nat) (t : ByteArray) (s : St) (es : List (AV (d + 1) × AV (d + 1))) (hE : Env w br) (hr : RdS w br t s (24 - d)) (ha : s.at' ≤ s.en) (hk : TokOK s) (hen : s.en ≤ t.size) (ht : t.size ≤ 4000)
    (hR : w.heap[bR]? = some (.cells #[.pointer (some ⟨br, 0, none⟩)] 108 (0, 0))) (hL : LP (d + 1) w bl base es) (h1 : br < base) (h3 : bl < base) (h4 : base ≤ w.heap.size) (n1 : br ≠ bl) (n2 : br ≠ bR) (hlen : es.length ≤ 5000) :
    Calls Tryz.prog 265 #[.pointer (some ⟨bR, 0, none⟩), .pointer (some ⟨bl, 0, none⟩)] w (PairPost w br bl base t (24 - d) d es (pairP t.data.toList (valueP t.data.toList d) s)) := by
  have hl : t.data.toList.length = t.size := by simp
  have HV : Hid (Calls _ _ _ _ _) := V w br t s hE hr ha hk hen ht
  have HVV : Hid (∀ (W : World) (s' : St), Env W br → RdS W br t s' (24 - d) → s'.at' ≤ s'.en → TokOK s' → s'.en ≤ t.size → _) := fun W s' e r a k b => V W br t s' e r a k b ht
  have HSK : Hid (∀ (W : World) (s : St) (m : ByteArray), RdS W br t s (24 - d) → s.at' ≤ s.en → s.en ≤ t.size → _) := fun (W : World) (s : St) (m : ByteArray) h1 h2 h3 => skip_any W br t s (24 - d) m h1 h2 h3 ht
  have HG : Hid (GoodI t.data.toList (valueP t.data.toList d)) := valueP_good _ d
  have k0 := block_cell hR 0
  have HRR : Hid (w.heap[bR]? = _) := hR
  have HE0 : Hid (Env w br) := hE
  obtain ⟨i0, hi, hz0, hz1, hz2⟩ := info_parts infoP
  have HL : Hid (LP (d + 1) w bl base es) := hL
  clear hE hr hR hL V hk
  obtain ⟨RR, hRR⟩ : ∃ RR, pairP t.data.toList (valueP t.data.toList d) s = RR := ⟨_, rfl⟩
  rw [hRR]
  have HPP : Hid (pairP t.data.toList (valueP t.data.toList d) s = RR) := hRR
  clear hRR
  have hgood := HG.out s
  generalize hval : valueP t.data.toList d s = R at HV hgood
  have HVAL : Hid (valueP t.data.toList d s = R) := hval
  clear hval
  go_enter Tryz.func265, Tryz.ntmps265
  go_wp2_with fail
  refine HV.out.mono ?_
  intro e w1 hp
  obtain ⟨v, er, x, rfl, hf, hx, hw, her, hm⟩ := post_split hp
  clear hp HV
  have st := store_one (hx.rep _ _ _).one
  have hbr1 : br < w1.heap.size := by have := hf.size; omega
  have hle := hf.size
  have FA : Hid (Fr (· ≠ br) w (w1.alloc (.cells #[v] 23))) := hf.alloc _
  have XA : Hid (RepP (fun k => w.heap.size ≤ k) (w1.alloc (.cells #[v] 23)) (d + 1) x v) := hx.keep (Fr.grew ((Grew.refl w1).alloc _))
  have BA : Hid ((w1.alloc (.cells #[v] 23)).heap[w1.heap.size]? = some (.cells #[v] 23 (0, 0))) := heap_new rfl
  have RA : Hid ((w1.alloc (.cells #[v] 23)).heap[bR]? = some (.cells #[.pointer (some ⟨br, 0, none⟩)] 108 (0, 0))) := (FA.out.block _ (block_lt HRR.out) (Ne.symm n2)).trans HRR.out
  have c0 := block_cell RA.out 0
  cases R with
  | error q =>
    obtain ⟨c, p⟩ := q
    obtain ⟨rfl, s', hs', hrd⟩ := hm
    have HZ : Hid (∃ s' : St, s'.at' = p ∧ RdS (w1.alloc (.cells #[v] 23)) br t s' (24 - d)) := ⟨s', hs', hrd.of (P := fun _ => True) (Fr.grew ((Grew.refl w1).alloc _)) trivial⟩
    have HLP : Hid (∃ es', LP (d + 1) (w1.alloc (.cells #[v] 23)) bl base es' ∧ es'.length ≤ es.length + 1) := by
      obtain ⟨sl, vs, hlx⟩ := HL.out
      exact ⟨es, ⟨sl, vs, hlx.fr FA.out h1 (Ne.symm n1)⟩, by omega⟩
    have HQ : Hid (RR = .error (c, p)) := by show _ = _; rw [← HPP.out]; unfold pairP; rw [HVAL.out]
    clear hs' hrd hf hx her hgood
    go_wp2_with fail
    go_ret
    rw [HQ.out]
    exact ⟨_, rfl, FA.out.mono (fun k hk => hk.2.1), rfl, HLP.out, HZ.out⟩
  | ok q =>
    obtain ⟨x', s1⟩ := q
    obtain ⟨rfl, rfl, hrd⟩ := hm
    obtain ⟨g1, g2, g3⟩ := hgood x s1 (by omega) rfl
    have hadv := fwd_adv t.data.toList s1 g2
    have RD : Hid (RdS (w1.alloc (.cells #[v] 23)) br t s1 (24 - d)) := hrd.of (P := fun _ => True) (Fr.grew ((Grew.refl w1).alloc _)) trivial
    have EA : Hid (Env (w1.alloc (.cells #[v] 23)) br) := HE0.out.fr FA.out
    have HS1 : Hid (Calls Tryz.prog 266 #[.pointer (some ⟨br, 0, none⟩), .string ⟨#[58]⟩] (w1.alloc (.cells #[v] 23)) _) := HSK.out (w1.alloc (.cells #[v] 23)) s1 ⟨#[58]⟩ RD.out g1 (by omega)
    have e58 : (⟨#[58]⟩ : ByteArray).data.toList = [58] := rfl
    rw [e58] at HS1
    clear hf hx hrd hgood e58 her
    generalize hB : isP t.data.toList s1 [58] = B at HS1
    have HB0 : Hid (isP t.data.toList s1 [58] = B) := hB
    clear hB
    go_wp2_with fail
    clear c0
    generalize hWA : w1.alloc (.cells #[v] 23) = WA at FA XA BA RA RD EA HS1 ⊢
    have hszA : w1.heap.size + 1 ≤ WA.heap.size := by rw [← hWA]; simp
    clear hWA
    refine HS1.out.mono ?_
    rintro e w2 ⟨rfl, hr2, hf2⟩
    have F2 : Hid (Fr (· ≠ br) w w2) := FA.out.trans hf2
    have X2 : Hid (RepP (fun k => w.heap.size ≤ k) w2 (d + 1) x v) := XA.out.keep (hf2.mono fun k hk => by omega)
    have B2 : Hid (w2.heap[w1.heap.size]? = some (.cells #[v] 23 (0, 0))) := (hf2.block _ (block_lt BA.out) (by omega)).trans BA.out
    have R2 : Hid (w2.heap[bR]? = some (.cells #[.pointer (some ⟨br, 0, none⟩)] 108 (0, 0))) := (hf2.block _ (block_lt RA.out) (Ne.symm n2)).trans RA.out
    have E2 : Hid (Env w2 br) := EA.out.fr hf2
    have d0 := block_cell R2.out 0
    have hs2 : WA.heap.size ≤ w2.heap.size := hf2.size
    clear hf2 FA XA BA RA RD EA HS1
    cases B with
    | false =>
      have RD2 : Hid (RdS w2 br t s1 (24 - d)) := hr2
      have HLP : Hid (∃ es', LP (d + 1) w2 bl base es' ∧ es'.length ≤ es.length + 1) := by
        obtain ⟨sl, vs, hlx⟩ := HL.out
        exact ⟨es, ⟨sl, vs, hlx.fr F2.out h1 (Ne.symm n1)⟩, by omega⟩
      have HQ : Hid (RR = .error (1, s1.at')) := by show _ = _; rw [← HPP.out]; unfold pairP; rw [HVAL.out]; simp only; rw [HB0.out]; rfl
      clear hr2
      go_wp2_with fail
      go_ret
      rw [HQ.out]
      exact ⟨_, rfl, F2.out.mono (fun k hk => hk.2.1), rfl, HLP.out, s1, rfl, RD2.out⟩
    | true =>
      obtain ⟨a1, a2, a3⟩ := hadv
      have HV2 : Hid (Calls Tryz.prog 63 #[.pointer (some ⟨br, 0, none⟩)] w2 _) := HVV.out w2 (advP t.data.toList s1) E2.out hr2 a1 (tok_adv _ _) (by omega)
      have hj : RR = joinP x (valueP t.data.toList d (advP t.data.toList s1)) := by
        rw [← HPP.out]; unfold pairP; rw [HVAL.out]; simp only; rw [HB0.out]; rfl
      generalize valueP t.data.toList d (advP t.data.toList s1) = R2v at HV2 hj
      have HPP2 : Hid (RR = joinP x R2v) := hj
      clear hj
      clear hr2
      go_wp2_with fail
      refine HV2.out.mono ?_
      intro e w3 hp
      obtain ⟨u, er, y, rfl, hf3, hy, hwy, her, hm⟩ := post_split hp
      clear hp HV2
      have st2 := store_one (hy.rep _ _ _).one
      have hs3 : w2.heap.size ≤ w3.heap.size := hf3.size
      obtain ⟨sl, vs, hlx⟩ := HL.out
      have hslb : ∀ q, sl.ownBlock = some q → q < w.heap.size := fun q hq => (own2_lt hlx.2.1 hq).2
      have F3 := F2.out.trans hf3
      obtain ⟨l1, l2, l3, l4, l5⟩ := hlx.fr F3 h1 (Ne.symm n1)
      have x3 : RepP (fun k => w.heap.size ≤ k) w3 (d + 1) x v := X2.out.keep (hf3.mono fun k hk => by omega)
      have y3 : RepP (fun k => w.heap.size ≤ k) w3 (d + 1) y u := hy.fr (Fr.refl _ w3) (fun k _ hk => by omega) _ _ _
      have B3 := (hf3.block _ (block_lt B2.out) (by omega)).trans B2.out
      have b0 := block_cell B3 0
      have c1 := block_cell l1 0
      have c2 := frozen_block l1 0
      have hblt := block_lt l1
      have cc := (x3.rep _ _ _).one
      have cd := (y3.rep _ _ _).one
      have HOWN : Hid (((w3.alloc (.cells #[u] 23)).alloc (.cells #[v, u] 273)).ownsRow base 273 2 sl es.length vs) := (l2.alloc _).alloc _
      have hsz13 : w1.heap.size < w3.heap.size := by omega
      have HB1 : Hid (w3.heap[bl]? = _) := l1
      have HX3 : Hid (RepP _ w3 (d + 1) x v) := x3
      have HY3 : Hid (RepP _ w3 (d + 1) y u) := y3
      have HT : Hid (PTail w3 br t (24 - d) R2v er y) := hm
      have HF3 : Hid (Fr (· ≠ br) w w3) := F3
      have HL2 : Hid (w3.ownsRow base 273 2 sl es.length vs) := l2
      have HL3 : Hid (∀ (i : Nat) (p : AV (d + 1) × AV (d + 1)), _) := l3
      have HL4 : Hid (∀ p ∈ es, _) := l4
      clear l1 l2 l3 l4 l5 x3 y3 hm F3 hf3 hlx HL hy B3 X2 F2 B2 R2 E2 d0
      go_wp2_with (at_builtin; refine wpList_append_lies _ rfl (.tmp 23) (.tmp 27) 270 rfl base 273 i0 (.agg #[.nilIface, .nilIface]) 2 32 Tryz.underlying270 hi hz0 hz1 hz2 rfl (by decide) sl es.length vs rfl HOWN.out ⟨w3.heap.size + 1, 0, none⟩ 1 1 [v, u] rfl rfl ?q1 ?q2 (by decide) ?q3 ?q4 ?q5 (w3.heap.size + 2) ?q6 ?_)
      case q1 =>
        intro j q hj
        match j, hj with
        | 0, hj =>
          simp at hj
          subst hj
          simp [Addr.add]
        | 1, hj =>
          simp at hj
          subst hj
          simp [Addr.add]
      case q2 =>
        intro q hq
        simp only [List.mem_cons, List.not_mem_nil, or_false] at hq
        rcases hq with rfl | rfl
        · exact cc
        · exact cd
      case q3 => unfold maxLen; omega
      case q4 => omega
      case q5 => simp; omega
      case q6 => simp
      intro g cap w4 ho hg hat hlt
      have hgr : w3.grownBy w4 sl.ownBlock := by
        have a1 := World.grownBy_alloc w3 (.cells #[u] 23) sl.ownBlock
        have a2 := World.grownBy_alloc (w3.alloc (.cells #[u] 23)) (.cells #[v, u] 273) sl.ownBlock
        refine ⟨hg.os, hg.tape, hg.output, ?_, fun k hk hne => ?_⟩
        · have := hg.size; simp at this; omega
        · rw [hg.block k (by simp; omega) hne, a2.block k (by simp; omega) hne, a1.block k hk hne]
      have nb : ∀ k, k < base → some k ≠ sl.ownBlock := fun k hk e => by have := (own2_lt HL2.out e.symm).1; omega
      have hB2 : w4.heap[bl]? = some (.cells #[sl] 270 (0, 0)) := (hgr.block bl hblt (nb bl h3)).trans HB1.out
      have f1 := block_cell hB2 0
      have f2 := frozen_block hB2 0
      have hbr2 : w4.heap[br]? = w3.heap[br]? := hgr.block br (by omega) (nb br h1)
      have HLI : Hid (LP (d + 1) (w4.setCell ⟨bl, 0, none⟩ (.slice (some ⟨g, 0, none⟩) (es.length + 1) cap)) bl base (es ++ [(x, y)])) :=
        LP.push HL2.out HL3.out HL4.out HX3.out HY3.out ⟨hw, hwy⟩ h4 hslb ho hgr (hat.imp id fun e => by omega) h3 hB2
      have HTT : Hid (PTail (w4.setCell ⟨bl, 0, none⟩ (.slice (some ⟨g, 0, none⟩) (es.length + 1) cap)) br t (24 - d) R2v er y) := HT.out.keep ((Below.heap_setCell _ _ _ _ n1).trans hbr2)
      have HFF : Hid (Fr (fun k => k < base ∧ k ≠ br ∧ k ≠ bl) w (w4.setCell ⟨bl, 0, none⟩ (.slice (some ⟨g, 0, none⟩) (es.length + 1) cap))) :=
        ((HF3.out.mono (Q := fun k => k < base ∧ k ≠ br ∧ k ≠ bl) fun k hk => hk.2.1).grown hgr (fun k _ e hp => nb k hp.1 e.symm)).set (by simp) _
      clear ho hg hat hlt hgr nb hB2 hbr2 HL2 HL3 HL4 HX3 HY3 HT HF3 HB1 HOWN
      go_wp2_with fail
      go_ret
      refine ⟨er, rfl, HFF.out, ?_⟩
      have hT := HTT.out
      rw [HPP2.out]
      cases R2v with
      | ok q =>
        obtain ⟨z, s'⟩ := q
        obtain ⟨e1, rfl, e3⟩ := hT
        exact ⟨e1, HLI.out, e3⟩
      | error q =>
        obtain ⟨c, p⟩ := q
        obtain ⟨e1, s', e2, e3⟩ := hT
        exact ⟨e1, ⟨es ++ [(x, y)], HLI.out, by simp⟩, s', e2, e3⟩
end Go.Proofs.YtbogejmmkohbkaaGreatDoor.Sx

namespace Go.Proofs.YtbogejmmkohbkaaGreatDoor.Sx
open Go.RowKit Go.Sort

attribute [local go_sem] asn_4 asp_4 as_4_4 as_2_4 as_101_4 as_102_4 as_103_4 as_107_4 asn_2 asp_2 as_4_2 as_2_2 as_101_2 as_102_2 as_103_2 as_107_2 asn_101 asp_101 as_4_101 as_2_101 as_101_101 as_102_101 as_103_101 as_107_101 asn_102 asp_102 as_4_102 as_2_102 as_101_102 as_102_102 as_103_102 as_107_102 asn_103 asp_103 as_4_103 as_2_103 as_101_103 as_102_103 as_103_103 as_107_103 asn_107 asp_107 as_4_107 as_2_107 as_101_107 as_102_107 as_103_107 as_107_107
def xyP {n γ : Nat} {W : World} (a : PH n γ W) : AV n × AV n := (a.k.x, a.u.x)
theorem insF_map {n γ : Nat} {W : World} (a : PH n γ W) : ∀ l : List (PH n γ W), (insF cP a l).map xyP = insP (cmpV n) (xyP a) (l.map xyP)
  | [] => rfl
  | b :: l => by
    have ih := insF_map a l
    simp only [insF, insP, List.map_cons]
    show (if cmpV n a.k.x b.k.x < 0 then a :: b :: l else if cmpV n a.k.x b.k.x = 0 then a :: l else b :: insF cP a l).map xyP = if cmpV n a.k.x b.k.x < 0 then _ else if cmpV n a.k.x b.k.x = 0 then _ else _
    split
    · rfl
    · split
      · rfl
      · simp [ih]
theorem normF_map {n γ : Nat} {W : World} (l : List (PH n γ W)) : (normF cP l).map xyP = normP (cmpV n) (l.map xyP) := by
  induction l with
  | nil => rfl
  | cons a l ih =>
    show (insF cP a (normF cP l)).map xyP = insP (cmpV n) (xyP a) (normP (cmpV n) (l.map xyP))
    rw [insF_map, ih]
theorem normF_mem {α : Type} {c : α → α → Int} (l : List α) (z : α) (h : z ∈ normF c l) : z ∈ l := by
  induction l with
  | nil => simp [normF] at h
  | cons x l ih =>
    rcases insF_mem x (normF c l) z h with q | q
    · simp [q]
    · exact List.mem_cons_of_mem _ (ih q)

theorem QRow.arr {n g : Nat} {W0 w : World} [Inhabited (PH n g W0)] {len : Nat} {l : List (PH n g W0)} (h : QRow w g len l) : PRow w g l.toArray := by
  refine ⟨h.1, fun i hi => ?_⟩
  have hi' : i < l.length := by simpa using hi
  rw [getElem!_pos l.toArray i hi]
  exact h.2.2 i _ (by simp)

theorem sorted_list {α : Type} [Inhabited α] {c : α → α → Int} {d : Array α} (h : Srt c d 0 d.size) : d.toList.Pairwise fun a b => c a b ≤ 0 := by
  rw [List.pairwise_iff_getElem]
  intro i j hi hj hij
  have := h i j (Nat.zero_le _) hij (by simpa using hj)
  rw [getElem!_pos d i (by simpa using hi), getElem!_pos d j (by simpa using hj)] at this
  simpa using this

/-- sorted, each key once -/
theorem rows_sorted (n g : Nat) (W0 w : World) (len cap : Nat) (hs : List (PH n g W0)) (hpos : 0 < len) (hW : Fr (· ≠ g) W0 w) (hrow : QRow w g len hs) (hl : len ≤ 4294967296) :
    Calls Tryz.prog 302 #[.slice (some ⟨g, 0, none⟩) len cap, .func (.func 303) #[] #[]] w fun e w' => e = .returned (.tuple #[]) ∧ ∃ rs : List (PH n g W0), QRow w' g len rs ∧ compC (fun a b => cP a b == 0) rs = normF cP hs ∧ Fr (· ≠ g) w w' := by
  have hlen := hrow.2.1
  obtain ⟨x0, hx0⟩ : ∃ x, hs[0]? = some x := ⟨_, List.getElem?_eq_getElem (by omega)⟩
  let inst : Inhabited (PH n g W0) := ⟨x0⟩
  refine (sortStable_any w len cap hs.toArray hW (by simpa using hlen) hrow.arr hl).mono ?_
  rintro e w' ⟨rfl, d', hst, hso, hr, hf⟩
  have hsz : d'.size = len := hst.size.trans (by simpa using hlen)
  refine ⟨rfl, d'.toList, by rw [← hsz]; exact hr.list, ?_, hf⟩
  exact comp_first (ordP n g W0) hs d'.toList hst.cls (sorted_list (by rw [hsz]; exact hso))

set_option maxRecDepth 100000 in
set_option maxHeartbeats 4000000 in
theorem functionOf_any (n : Nat) (P : Nat → Prop) (w : World) (g len cap : Nat) (hs : List (PH n g w)) (hP1 : ∀ a ∈ hs, RepP P w n a.k.x a.k.v ∧ RepP P w n a.u.x a.u.v) (hrow : QRow w g len hs) (hpos : 0 < len) (hl : len ≤ 5001) (hcap : len ≤ cap) (hPg : ¬ P g) (hP : ∀ k, w.heap.size ≤ k → P k) (hw : ∀ a ∈ hs, wt n a.k.x ≤ 1024 ∧ wt n a.u.x ≤ 1024) :
    Calls Tryz.prog 267 #[.slice (some ⟨g, 0, none⟩) len cap] w fun e w' => ∃ v, e = .returned (.agg #[v]) ∧ RepP P w' (n + 1) (mkP (wt n) (normP (cmpV n) (hs.map xyP))) v ∧ Fr (· ≠ g) w w' := by
  have hgl := hrow.1
  have HR1 : Hid (QRow (w.alloc (.cells #[.nilIface] 23)) g len hs) := hrow.fr (P := fun _ => True) (Fr.grew ((Grew.refl w).alloc _)) trivial
  have HS : Hid (Calls Tryz.prog 302 #[.slice (some ⟨g, 0, none⟩) len cap, .func (.func 303) #[] #[]] (w.alloc (.cells #[.nilIface] 23)) _) := rows_sorted n g w (w.alloc (.cells #[.nilIface] 23)) len cap hs hpos (Fr.grew ((Grew.refl w).alloc _)) HR1.out (by omega)
  have HNM : Hid ((normF cP hs).map xyP = normP (cmpV n) (hs.map xyP)) := normF_map hs
  have HNP : Hid (∀ a ∈ normF cP hs, (RepP P w n a.k.x a.k.v ∧ RepP P w n a.u.x a.u.v) ∧ wt n a.k.x ≤ 1024 ∧ wt n a.u.x ≤ 1024) := fun a ha => ⟨hP1 a (normF_mem hs a ha), hw a (normF_mem hs a ha)⟩
  rw [← HNM.out]
  have HPg : Hid (¬ P g) := hPg
  have HP : Hid (∀ k, w.heap.size ≤ k → P k) := hP
  clear hrow hP1 hw HNM hPg hP
  obtain ⟨i0, hi, hz0, hz1, hz2⟩ := info_parts info23
  have mo := follows
  go_enter Tryz.func267, Tryz.ntmps267
  go_wp2_with fail
  refine HS.out.mono ?_
  rintro x w2 ⟨rfl, rs, hr2, hn2, hf2⟩
  have F2 : Fr (· ≠ g) w w2 := ((Fr.refl _ w).alloc _).trans hf2
  have HK : Hid (Calls Tryz.prog 304 #[.slice (some ⟨g, 0, none⟩) len cap, .func (.func 305) #[] #[]] w2 _) := compactP_any n g w w2 len cap rs F2 hr2.2.1 (by omega) hcap hr2
  have X2 : Hid (w2.heap[w.heap.size]? = some (.cells #[.nilIface] 23 (0, 0))) := (hf2.block _ (by simp) (by omega)).trans (heap_new rfl)
  have HF2 : Hid (Fr (· ≠ g) w w2) := F2
  have hrl : (compC (fun a b => cP a b == 0) rs).length ≤ len := by have := compC_len (fun a b => cP a b == 0) rs; rw [hr2.2.1] at this; exact this
  rw [hn2] at hrl
  have HN2 : Hid (compC (fun a b => cP a b == 0) rs = normF cP hs) := hn2
  clear hr2 hn2 hf2 F2 HR1
  go_wp2_with fail
  refine HK.out.mono ?_
  rintro x w3 ⟨ms, hms, rfl, hc3, hf3⟩
  obtain rfl : ms = normF cP hs := hms.trans HN2.out
  have X3 : Hid (w3.heap[w.heap.size]? = some (.cells #[.nilIface] 23 (0, 0))) := (hf3.block _ (block_lt X2.out) (by omega)).trans X2.out
  have F3 : Hid (Fr (· ≠ g) w w3) := HF2.out.trans hf3
  have G3 : g < w3.heap.size := Nat.lt_of_lt_of_le hgl F3.out.size
  have C3 : Hid (∀ (i : Nat) (r : PH n g w), (normF cP hs)[i]? = some r → w3.cell? ⟨g, i * 2, none⟩ = some r.k.v ∧ w3.cell? ⟨g, i * 2 + 1, none⟩ = some r.u.v) := hc3
  clear hms HN2 hc3 hf3 X2 HF2 HS HK
  generalize hms : normF cP hs = ms at HNP hrl C3 ⊢
  have HMS : Hid (normF cP hs = ms) := hms
  clear hms
  generalize hL : ms.length = L at hrl ⊢
  have HL : Hid (ms.length = L) := hL
  clear hL
  go_upto_region 3 with fail
  go_cut [3, 4] from 13 (fun s3 s4 wx => ∃ bd bg, s3 = .slice (some ⟨bd, 0, none⟩) L L ∧ s4 = .slice (some ⟨bg, 0, none⟩) L L ∧ w3.heap.size ≤ bd ∧ w3.heap.size ≤ bg ∧ bd ≠ bg ∧ Hid (∃ vs, MRow wx bd L vs) ∧ Hid (∃ us, MRow wx bg L us) ∧ Hid (Below w3.heap.size w3 wx))
  case first =>
    obtain ⟨wa, ra, oa, ga⟩ := run_make_full (P := Tryz.prog) w3.drew w3.heap.size 47 23 i0 (.agg #[.nilIface]) 1 Tryz.underlying47 hi hz0 hz1 .i64 .i64 L (by rw [hz2]; omega) (by unfold maxLen; omega) (by simp)
    obtain ⟨wb, rb, ob, gb⟩ := run_make_full (P := Tryz.prog) wa w3.heap.size 47 23 i0 (.agg #[.nilIface]) 1 Tryz.underlying47 hi hz0 hz1 .i64 .i64 L (by rw [hz2]; omega) (by unfold maxLen; omega) (by have := ga.size; simpa using this)
    have oc : ∀ (W : World) (b : Nat) (xs : List Value), W.ownsRow w3.heap.size 23 1 (.slice (some ⟨b, 0, none⟩) L L) L xs → ∃ vs, MRow W b L vs := by
      intro W b xs ho
      refine ⟨xs, ?_, by have := ho.1; omega, fun i hi => ⟨?_, ho.frozenAt i⟩⟩
      · rcases ho.2 with ⟨h', _⟩ | ⟨g', cap', cur, h', _, hg, _⟩
        · simp at h'
        · simp at h'; obtain ⟨rfl, _⟩ := h'; exact block_lt hg
      · have hlx : xs.length = L := by have := ho.1; omega
        rw [ho.cellAt i (by omega), List.getElem?_eq_getElem (by omega)]
        simp [List.getD, show i < xs.length by omega]
    have ma : ∃ vs, MRow wb w3.heap.size L vs := by
      obtain ⟨vs, hv⟩ := oc wa _ _ oa
      exact ⟨vs, hv.fr (P := fun k => k < wa.heap.size) ((Fr.refl _ wa).grown gb (fun k _ e => by simp at e)) hv.1⟩
    have mb : ∃ vs, MRow wb wa.heap.size L vs := oc wb _ _ ob
    have hsa : w3.heap.size < wa.heap.size := by obtain ⟨vs, hv⟩ := oc wa _ _ oa; exact hv.1
    have bel : Below w3.heap.size w3 wb := ((Below.refl _ w3).drew.grown ga (by simp) (fun k hk => by simp at hk)).grown gb (by omega) (fun k hk => by simp at hk)
    have MA : Hid (∃ vs, MRow wb w3.heap.size L vs) := ma
    have MB : Hid (∃ vs, MRow wb wa.heap.size L vs) := mb
    have BB : Hid (Below w3.heap.size w3 wb) := bel
    clear oc ma mb bel oa ob ga gb
    go_region
    · clear ra rb
      go_wp2_with fail
      go_meet
      exact ⟨_, _, rfl, rfl, Nat.le_refl _, by omega, by omega, MA, MB, BB⟩
    · clear ra rb
      go_wp2_with fail
      go_meet
      exact ⟨_, _, rfl, rfl, by omega, Nat.le_refl _, by omega, MB, MA, BB⟩
  case rest =>
    obtain ⟨bd, bg, rfl, rfl, hbd, hbg, hne, HMD, HMG, HBL⟩ := hcut
    generalize wc = w4 at HMD HMG HBL ⊢
    obtain ⟨vs0, hv0⟩ := HMD.out
    obtain ⟨us0, hu0⟩ := HMG.out
    have M0 : Hid (MRow w4 bd L vs0) := hv0
    have N0 : Hid (MRow w4 bg L us0) := hu0
    have hw4 : w3.heap.size ≤ w4.heap.size := HBL.out.size
    clear hv0 hu0 HMD HMG hi hz0 hz1 hz2
    go_wp2_with fail
    go_loopw [21, 5, 6] (fun i _ _ wr => ∃ (k : Nat) (vs us : List Value), k ≤ L ∧ i = .int .i64 k ∧ Hid (MRow wr bd L vs) ∧ Hid (MRow wr bg L us) ∧ Hid (∀ (j : Nat) (r : PH n g w), j < k → ms[j]? = some r → vs[j]? = some r.k.v ∧ us[j]? = some r.u.v) ∧ Hid (Fr (fun q => q ≠ bd ∧ q ≠ bg) w4 wr)) (fun i _ _ _ => L - (intOf i).toNat)
    case atStart => exact ⟨0, vs0, us0, Nat.zero_le _, rfl, M0, N0, fun j r q => by omega, Fr.refl _ _⟩
    case round =>
      clear M0 N0
      obtain ⟨k, vs, us, hk, rfl, HM, HN, HQ, HF⟩ := hrel
      by_cases hlt : k < L
      · obtain ⟨r, hr⟩ : ∃ r, ms[k]? = some r := ⟨_, List.getElem?_eq_getElem (by have := HL.out; omega)⟩
        have hgs : g < w4.heap.size := by omega
        have x0 := (HF.out.block g hgs ⟨by omega, by omega⟩).trans (HBL.out.block g G3)
        obtain ⟨c1, c2⟩ := C3.out k r hr
        have e1 : wr.cell? ⟨g, k * 2, none⟩ = some r.k.v := (World.cell?_of_block (w := w3) (a := ⟨g, k * 2, none⟩) x0).trans c1
        have e2 : wr.cell? ⟨g, k * 2 + 1, none⟩ = some r.u.v := (World.cell?_of_block (w := w3) (a := ⟨g, k * 2 + 1, none⟩) x0).trans c2
        have s1 := store_one r.k.one
        have s2 := store_one r.u.one
        have hgw : g < wr.heap.size := Nat.lt_of_lt_of_le hgs HF.out.size
        have HRr : Hid (ms[k]? = some r) := hr
        have ng1 : bd < wr.heap.size := HM.out.1
        have ng2 : bg < wr.heap.size := HN.out.1
        clear x0 c1 c2 hr
        go_upto_region 7 with fail
        have hb0 : (wr.alloc (.cells #[r.k.v, r.u.v] 273)).heap[wr.heap.size]? = some (.cells #[r.k.v, r.u.v] 273 (0, 0)) := heap_new rfl
        have MA : MRow (wr.alloc (.cells #[r.k.v, r.u.v] 273)) bd L vs := HM.out.fr (P := fun _ => True) (Fr.grew ((Grew.refl wr).alloc _)) trivial
        have NA : MRow (wr.alloc (.cells #[r.k.v, r.u.v] 273)) bg L us := HN.out.fr (P := fun _ => True) (Fr.grew ((Grew.refl wr).alloc _)) trivial
        have FA : Hid (Fr (fun q => q ≠ bd ∧ q ≠ bg) w4 (wr.alloc (.cells #[r.k.v, r.u.v] 273))) := HF.out.alloc _
        have bx : wr.heap.size ≠ bd ∧ wr.heap.size ≠ bg := ⟨by omega, by omega⟩
        generalize wr.alloc (.cells #[r.k.v, r.u.v] 273) = Wb at hb0 MA NA FA ⊢
        generalize wr.heap.size = bb at hb0 bx ⊢
        obtain ⟨bx1, bx2⟩ := bx
        have q0 := block_cell hb0 0
        have q1 := block_cell hb0 1
        obtain ⟨m1, m2⟩ := MA.2.2 k hlt
        obtain ⟨n1, n2⟩ := NA.2.2 k hlt
        have q0' := block_cell ((Fr.refl (fun _ => True) Wb).drew.block _ (block_lt hb0) trivial |>.trans hb0) 0
        have q1' := block_cell ((Fr.refl (fun _ => True) Wb).drew.block _ (block_lt hb0) trivial |>.trans hb0) 1
        obtain ⟨m1', m2'⟩ := (MA.fr (P := fun _ => True) ((Fr.refl _ Wb).drew) trivial).2.2 k hlt
        obtain ⟨n1', n2'⟩ := (NA.fr (P := fun _ => True) ((Fr.refl _ Wb).drew) trivial).2.2 k hlt
        have M1 : Hid (MRow ((Wb.setCell ⟨bd, k, none⟩ r.k.v).setCell ⟨bg, k, none⟩ r.u.v).drew bd L (vs.set k r.k.v)) :=
          ((MA.set k hlt r.k.v).fr (P := fun q => q ≠ bg) ((Fr.refl _ _).set (by simp) _) hne).fr (P := fun _ => True) ((Fr.refl _ _).drew) trivial
        have N1 : Hid (MRow ((Wb.setCell ⟨bd, k, none⟩ r.k.v).setCell ⟨bg, k, none⟩ r.u.v).drew bg L (us.set k r.u.v)) :=
          ((NA.fr (P := fun q => q ≠ bd) ((Fr.refl _ _).set (by simp) _) (Ne.symm hne)).set k hlt r.u.v).fr (P := fun _ => True) ((Fr.refl _ _).drew) trivial
        have F1 : Hid (Fr (fun q => q ≠ bd ∧ q ≠ bg) w4 ((Wb.setCell ⟨bd, k, none⟩ r.k.v).setCell ⟨bg, k, none⟩ r.u.v).drew) := ((FA.out.set (by simp) _).set (by simp) _).drew
        have Q1 : Hid (∀ (j : Nat) (r' : PH n g w), j < k + 1 → ms[j]? = some r' → (vs.set k r.k.v)[j]? = some r'.k.v ∧ (us.set k r.u.v)[j]? = some r'.u.v) := by
          intro j r' hj hr'
          have l1 := HM.out.2.1
          have l2 := HN.out.2.1
          by_cases e : j = k
          · subst e
            rw [HRr.out] at hr'
            simp only [Option.some.injEq] at hr'
            subst hr'
            exact ⟨by rw [List.getElem?_set_self (by omega)], by rw [List.getElem?_set_self (by omega)]⟩
          · rw [List.getElem?_set_ne (Ne.symm e), List.getElem?_set_ne (Ne.symm e)]
            exact HQ.out j r' (by omega) hr'
        clear hb0 MA NA FA HM HN HF HQ HRr
        generalize vs.set k r.k.v = vs' at M1 Q1
        generalize us.set k r.u.v = us' at N1 Q1
        generalize vs.getD k .nilIface = ov at m1 m1'
        generalize us.getD k .nilIface = ou at n1 n1'
        go_big_region_o
        clear m1 m2 n1 n2 q0 q1 m1' m2' n1' n2' q0' q1' s1 s2
        generalize ((Wb.setCell ⟨bd, k, none⟩ r.k.v).setCell ⟨bg, k, none⟩ r.u.v).drew = W1 at M1 N1 F1 ⊢
        go_wp2_with fail
        go_roundw
        case rel => exact ⟨k + 1, vs', us', by omega, by go_num, M1, N1, Q1, F1⟩
        case measure => simp [intOf]; omega
      · obtain rfl : k = L := by omega
        have hml := HL.out
        have hnil : w.heap.size < w3.heap.size := block_lt X3.out
        have hs4 : w4.heap.size ≤ wr.heap.size := HF.out.size
        have fw : Fr (fun q => q ≠ g ∧ q < w3.heap.size) w wr := by
          have f3 := F3.out
          have f4 := HBL.out
          have f5 := HF.out
          exact ⟨f5.os.trans (f4.os.trans f3.os), f5.tape.trans (f4.tape.trans f3.tape), f5.output.trans (f4.output.trans f3.output), by have := f3.size; omega, fun q hq hp => (f5.block q (by omega) ⟨by omega, by omega⟩).trans ((f4.block q hp.2).trans (f3.block q hq hp.1))⟩
        have npg : ∀ q, P q → q ≠ g := fun q hq e => HPg.out (by rw [← e]; exact hq)
        have fP : Fr P w wr := ⟨fw.os, fw.tape, fw.output, fw.size, fun q hq hp => fw.block q hq ⟨npg q hp, by have := F3.out.size; omega⟩⟩
        have lift : ∀ (x : AV n) (v : Value), RepP P w n x v → RepP (fun q => P q ∧ q ≠ w.heap.size) wr n x v := fun x v h => h.fr fP (fun q hq hp => ⟨hp, by omega⟩) n x v
        have rowD : RowP (fun q => P q ∧ q ≠ w.heap.size) wr (RepP (fun q => P q ∧ q ≠ w.heap.size) wr n) (some ⟨bd, 0, none⟩) k (ms.map fun a => a.k.x) := by
          refine ⟨by simp [hml], by omega, .inr ⟨bd, 0, rfl, HM.out.1, ⟨HP.out bd (by have := F3.out.size; omega), by omega⟩, fun i x hix => ?_⟩⟩
          rw [List.getElem?_map] at hix
          obtain ⟨r, hr, rfl⟩ := Option.map_eq_some_iff.1 hix
          have hik : i < k := by have := (List.getElem?_eq_some_iff.1 hr).1; omega
          refine ⟨r.k.v, ?_, lift _ _ (HNP.out r (List.mem_of_getElem? hr)).1.1⟩
          rw [Nat.zero_add, (HM.out.2.2 i hik).1]
          simp [List.getD, (HQ.out i r hik hr).1]
        have rowG : RowP (fun q => P q ∧ q ≠ w.heap.size) wr (RepP (fun q => P q ∧ q ≠ w.heap.size) wr n) (some ⟨bg, 0, none⟩) k (ms.map fun a => a.u.x) := by
          refine ⟨by simp [hml], by omega, .inr ⟨bg, 0, rfl, HN.out.1, ⟨HP.out bg (by have := F3.out.size; omega), by omega⟩, fun i x hix => ?_⟩⟩
          rw [List.getElem?_map] at hix
          obtain ⟨r, hr, rfl⟩ := Option.map_eq_some_iff.1 hix
          have hik : i < k := by have := (List.getElem?_eq_some_iff.1 hr).1; omega
          refine ⟨r.u.v, ?_, lift _ _ (HNP.out r (List.mem_of_getElem? hr)).1.2⟩
          rw [Nat.zero_add, (HN.out.2.2 i hik).1]
          simp [List.getD, (HQ.out i r hik hr).2]
        have hPn : ∀ q, wr.heap.size ≤ q → P q ∧ q ≠ w.heap.size := fun q hq => ⟨HP.out q (by have := fw.size; omega), by have := fw.size; omega⟩
        have hwk : ∀ x ∈ ms.map (fun a => a.k.x), wt n x ≤ 1024 := fun x hx => by
          obtain ⟨a, ha, rfl⟩ := List.mem_map.1 hx
          exact (HNP.out a ha).2.1
        have hwu : ∀ x ∈ ms.map (fun a => a.u.x), wt n x ≤ 1024 := fun x hx => by
          obtain ⟨a, ha, rfl⟩ := List.mem_map.1 hx
          exact (HNP.out a ha).2.2
        have HS5 : Hid (Calls Tryz.prog 220 #[.slice (some ⟨bd, 0, none⟩) k k] wr _) := newSet_any n (fun q => P q ∧ q ≠ w.heap.size) wr (some ⟨bd, 0, none⟩) k k (ms.map fun a => a.k.x) rowD hPn hwk (by simp; omega)
        have HF5 : Hid (∀ (W : World) (d : Nat), Grew wr W → SetP (fun q => P q ∧ q ≠ w.heap.size) W (RepP (fun q => P q ∧ q ≠ w.heap.size) W n) (wt n) d (ms.map fun a => a.k.x) → 1 + wtL (wt n) (ms.map fun a => a.k.x) ≤ 1024 → _) := fun W d hW hd hle =>
          newFunction_any n (fun q => P q ∧ q ≠ w.heap.size) W d (some ⟨bg, 0, none⟩) k k (ms.map fun a => a.k.x) (ms.map fun a => a.u.x) hd (rowG.keepB hW.below) (fun q hq => hPn q (Nat.le_trans hW.below.size hq)) hle hwu (by simp)
        have hX : wr.heap[w.heap.size]? = some (.cells #[.nilIface] 23 (0, 0)) := (HF.out.block _ (by omega) ⟨by omega, by omega⟩).trans ((HBL.out.block _ hnil).trans X3.out)
        have X5 : Hid (wr.heap[w.heap.size]? = some (.cells #[.nilIface] 23 (0, 0))) := hX
        have FW : Hid (Fr (· ≠ g) w wr) := ⟨fw.os, fw.tape, fw.output, fw.size, fun q hq hp => fw.block q hq ⟨hp, by have := F3.out.size; omega⟩⟩
        have e1 : (ms.map xyP).map Prod.fst = ms.map fun a => a.k.x := by simp [xyP]
        have e2 : (ms.map xyP).map Prod.snd = ms.map fun a => a.u.x := by simp [xyP]
        have HPK : Hid (mkP (wt n) (ms.map xyP) = if 1 + wtL (wt n) (ms.map fun a => a.k.x) ≤ 1024 then mkF (wt n) (ms.map fun a => a.k.x) (ms.map fun a => a.u.x) else mkNil) := by
          show _ = _
          unfold mkP; rw [e1, e2]
        clear rowD rowG lift fP fw npg hPn hwk hwu hX e1 e2 HM HN HQ HF HBL C3 HNP F3 X3
        generalize (ms.map fun a => a.k.x) = ks at HS5 HF5 HPK
        generalize (ms.map fun a => a.u.x) = us at HF5 HPK
        by_cases hle : 1 + wtL (wt n) ks ≤ 1024
        · have HK : Hid (mkS (wt n) ks = mkSet ks) := by show _ = _; unfold mkS; rw [if_pos hle]
          have HPF : Hid (mkP (wt n) (ms.map xyP) = mkF (wt n) ks us) := by show _ = _; rw [HPK.out, if_pos hle]
          go_wp2_with (go_at_call 220; refine HS5.out.mono ?_; rintro e w5 ⟨v, rfl, hrep, hg⟩; rw [HK.out] at hrep; obtain ⟨b, rfl, hset⟩ := hrep.set_inv; have ff := fun W => field_23 (.iface 121 (.pointer (some ⟨b, 0, none⟩))) W rfl; have HX : Hid (w5.heap[w.heap.size]? = _) := Below.blockAt hg.below X5.out; have HG : Hid (Grew wr w5) := hg; have HR : Hid (SetP _ w5 _ _ b _) := hset; clear hg hrep hset)
          refine (HF5.out w5 b HG.out HR.out hle).mono ?_
          rintro e w6 ⟨v, rfl, hrep, hg⟩
          have hbx := Below.blockAt hg.below HX.out
          have x0 := block_cell hbx 0
          have x1 := frozen_block hbx 0
          have st := store_one (hrep.rep _ _ _).one
          have HV : Hid (RepP _ w6 (n + 1) _ v) := hrep
          have FW2 : Hid (Fr (· ≠ g) w w6) := FW.out.trans ((Fr.grew HG.out).trans (Fr.grew hg))
          clear hg hrep hbx
          go_wp2_with fail
          have r0 := World.cell?_setCell_same _ _ v x0
          refine bodyPost_ret (v := .agg #[v]) (by simp [results, Tryz.results267, go_sem, r0]) rfl ⟨_, rfl, ?_, FW2.out.setNew (Nat.le_refl _) _⟩
          rw [HMS.out, HPF.out]
          exact HV.out.boxed (w := w) v rfl
        · have HK : Hid (mkS (wt n) ks = mkNil) := by show _ = _; unfold mkS; rw [if_neg hle]
          have HPF : Hid (mkP (wt n) (ms.map xyP) = mkNil) := by show _ = _; rw [HPK.out, if_neg hle]
          go_wp2_with (go_at_call 220; refine HS5.out.mono ?_; rintro e w5 ⟨v, rfl, hrep, hg⟩; rw [HK.out] at hrep; obtain rfl := hrep.nil_inv; have ff := fun W => field_23 .nilIface W rfl; have hbx := Below.blockAt hg.below X5.out; have x0 := block_cell hbx 0; have x1 := frozen_block hbx 0; have HG : Hid (Grew wr w5) := hg; clear hg hrep hbx)
          have r0 := World.cell?_setCell_same _ _ .nilIface x0
          refine bodyPost_ret (v := .agg #[.nilIface]) (by simp [results, Tryz.results267, go_sem, r0]) rfl ⟨_, rfl, ?_, (FW.out.trans (Fr.grew HG.out)).setNew (Nat.le_refl _) _⟩
          rw [HMS.out, HPF.out]
          exact .inl ⟨rfl, rfl⟩
end Go.Proofs.YtbogejmmkohbkaaGreatDoor.Sx

namespace Go.Proofs.YtbogejmmkohbkaaGreatDoor.Sx
open Go.RowKit Go.Sort
attribute [local go_sem] asn_4 asp_4 as_4_4 as_2_4 as_101_4 as_102_4 as_103_4 as_107_4 asn_2 asp_2 as_4_2 as_2_2 as_101_2 as_102_2 as_103_2 as_107_2 asn_101 asp_101 as_4_101 as_2_101 as_101_101 as_102_101 as_103_101 as_107_101 asn_102 asp_102 as_4_102 as_2_102 as_101_102 as_102_102 as_103_102 as_107_102 asn_103 asp_103 as_4_103 as_2_103 as_101_103 as_102_103 as_103_103 as_107_103 asn_107 asp_107 as_4_107 as_2_107 as_101_107 as_102_107 as_103_107 as_107_107

set_option maxRecDepth 100000 in
theorem ins_nil (fv : Value) (w : World) : Calls Tryz.prog 340 #[.slice none 0 0, .int .i64 0, .int .i64 0, fv] w fun e w' => e = .returned (.tuple #[]) ∧ w' = w := by
  go_enter Tryz.func340, Tryz.ntmps340
  go_wp2_with fail
  go_loopw [8] (fun i wr => i = .int .i64 1 ∧ Hid (wr = w)) (fun _ _ => 0)
  case atStart => exact ⟨rfl, rfl⟩
  case round =>
    obtain ⟨rfl, HW⟩ := hrel
    go_wp2_with fail
    go_end0
    exact ⟨rfl, HW.out⟩
set_option maxRecDepth 100000 in
theorem stable_nil (fv : Value) (w : World) : Calls Tryz.prog 324 #[.slice none 0 0, .int .i64 0, fv] w fun e w' => e = .returned (.tuple #[]) ∧ w' = w := by
  have HI : Hid (∀ W : World, _) := fun W => ins_nil fv W
  go_enter Tryz.func324, Tryz.ntmps324
  go_wp2_with fail
  go_loopw [7, 8] (fun s t wr => s = .int .i64 0 ∧ t = .int .i64 20 ∧ Hid (wr = w)) (fun _ _ _ => 0)
  case atStart => exact ⟨rfl, rfl, rfl⟩
  case round =>
    obtain ⟨rfl, rfl, HW⟩ := hrel
    go_wp2_with (go_at_call 340; refine (HI.out _).mono ?_; rintro e w' ⟨rfl, hw⟩; cases hw)
    go_loopw [6, 7, 8, 9] (fun s _ _ _ wr' => s = .int .i64 20 ∧ Hid (wr' = w)) (fun _ _ _ _ _ => 0)
    case atStart => exact ⟨rfl, HW⟩
    case round =>
      clear HW
      obtain ⟨rfl, HW⟩ := hrel
      go_wp2_with fail
      go_end0
      exact ⟨rfl, HW.out⟩
set_option maxRecDepth 100000 in
theorem sortStable_nil (fv : Value) (w : World) : Calls Tryz.prog 302 #[.slice none 0 0, fv] w fun e w' => e = .returned (.tuple #[]) ∧ w' = w := by
  have HI : Hid (Calls _ _ _ _ _) := stable_nil fv w
  go_enter Tryz.func302, Tryz.ntmps302
  go_wp2_with fail
  refine HI.out.mono ?_
  rintro e w' ⟨rfl, hw⟩
  cases hw
  go_wp2_with fail
  go_end0
  exact ⟨rfl, rfl⟩
set_option maxRecDepth 100000 in
theorem compactP_nil (fv : Value) (w : World) : Calls Tryz.prog 304 #[.slice none 0 0, fv] w fun e w' => e = .returned (.slice none 0 0) ∧ w' = w := by
  go_enter Tryz.func304, Tryz.ntmps304
  go_wp2_with fail
  go_ret
  exact ⟨rfl, rfl⟩

set_option maxRecDepth 100000 in
set_option maxHeartbeats 4000000 in
theorem functionOf_nil (n : Nat) (P : Nat → Prop) (w : World) (hP : ∀ k, w.heap.size ≤ k → P k) :
    Calls Tryz.prog 267 #[.slice none 0 0] w fun e w' => ∃ v, e = .returned (.agg #[v]) ∧ RepP P w' (n + 1) (mkP (wt n) (normP (cmpV n) [])) v ∧ Below w.heap.size w w' := by
  have HP : Hid (∀ k, w.heap.size ≤ k → P k) := hP
  have HS1 : Hid (∀ (fv : Value) (W : World), _) := sortStable_nil
  have HS2 : Hid (∀ (fv : Value) (W : World), _) := compactP_nil
  have HPF : Hid (mkP (wt n) (normP (cmpV n) []) = mkF (wt n) [] []) := by show _ = _; unfold mkP; rw [if_pos (by simp [normP, wtL])]; rfl
  rw [HPF.out]
  clear hP
  have X0 : Hid ((w.alloc (.cells #[.nilIface] 23)).heap[w.heap.size]? = some (.cells #[.nilIface] 23 (0, 0))) := heap_new rfl
  have B0 : Hid (Below w.heap.size w (w.alloc (.cells #[.nilIface] 23))) := (Below.refl _ w).alloc (Nat.le_refl _) _
  have hsz0 : w.heap.size + 1 = (w.alloc (.cells #[.nilIface] 23)).heap.size := by simp
  have HSZ : Hid (w.heap.size + 1 = (w.alloc (.cells #[.nilIface] 23)).heap.size) := hsz0
  clear hsz0
  obtain ⟨i0, hi, hz0, hz1, hz2⟩ := info_parts info23
  have mo := follows
  go_enter Tryz.func267, Tryz.ntmps267
  go_wp2_with fail
  refine (HS1.out _ _).mono ?_
  rintro e w' ⟨rfl, hw⟩
  cases hw
  go_wp2_with fail
  refine (HS2.out _ _).mono ?_
  rintro e w' ⟨rfl, hw⟩
  cases hw
  generalize w.alloc (.cells #[.nilIface] 23) = w3 at X0 B0 HSZ ⊢
  have hsz : w.heap.size < w3.heap.size := by have := HSZ.out; omega
  go_upto_region 3 with fail
  go_cut [3, 4] from 13 (fun s3 s4 wx => ∃ bd bg, s3 = .slice (some ⟨bd, 0, none⟩) 0 0 ∧ s4 = .slice (some ⟨bg, 0, none⟩) 0 0 ∧ Hid (Below w3.heap.size w3 wx))
  case first =>
    obtain ⟨wa, ra, oa, ga⟩ := run_make_full (P := Tryz.prog) w3.drew w3.heap.size 47 23 i0 (.agg #[.nilIface]) 1 Tryz.underlying47 hi hz0 hz1 .i64 .i64 0 (by omega) (by unfold maxLen; omega) (by simp)
    obtain ⟨wb, rb, ob, gb⟩ := run_make_full (P := Tryz.prog) wa w3.heap.size 47 23 i0 (.agg #[.nilIface]) 1 Tryz.underlying47 hi hz0 hz1 .i64 .i64 0 (by omega) (by unfold maxLen; omega) (by have := ga.size; simpa using this)
    have bel : Below w3.heap.size w3 wb := ((Below.refl _ w3).drew.grown ga (by simp) (fun k hk => by simp at hk)).grown gb (by have := ga.size; simp at this; omega) (fun k hk => by simp at hk)
    have BB : Hid (Below w3.heap.size w3 wb) := bel
    clear bel oa ob ga gb
    rw [show ((0 : Nat) : Int) = 0 from rfl] at ra rb
    go_region
    · clear ra rb
      go_wp2_with fail
      go_meet
      exact ⟨_, _, rfl, rfl, BB⟩
    · clear ra rb
      go_wp2_with fail
      go_meet
      exact ⟨_, _, rfl, rfl, BB⟩
  case rest =>
    obtain ⟨bd, bg, rfl, rfl, HBL⟩ := hcut
    generalize wc = w4 at HBL ⊢
    have hw4 : w3.heap.size ≤ w4.heap.size := HBL.out.size
    clear hi hz0 hz1 hz2
    go_wp2_with fail
    go_loopw [21, 5, 6] (fun i _ _ wr => i = .int .i64 0 ∧ Hid (wr = w4)) (fun _ _ _ _ => 0)
    case atStart => exact ⟨rfl, rfl⟩
    case round =>
      obtain ⟨rfl, HW⟩ := hrel
      have hwe := HW.out
      subst hwe
      have hPn : ∀ q, wr.heap.size ≤ q → P q ∧ q ≠ w.heap.size := fun q hq => ⟨HP.out q (by omega), by omega⟩
      have HS5 : Hid (Calls Tryz.prog 220 #[.slice (some ⟨bd, 0, none⟩) 0 0] wr _) := newSet_any n (fun q => P q ∧ q ≠ w.heap.size) wr (some ⟨bd, 0, none⟩) 0 0 [] ⟨rfl, by decide, .inl rfl⟩ hPn (by simp) (by simp)
      have HF5 : Hid (∀ (W : World) (d : Nat), Grew wr W → SetP (fun q => P q ∧ q ≠ w.heap.size) W (RepP (fun q => P q ∧ q ≠ w.heap.size) W n) (wt n) d [] → _) := fun W d hW hd =>
        newFunction_any n (fun q => P q ∧ q ≠ w.heap.size) W d (some ⟨bg, 0, none⟩) 0 0 [] [] hd ⟨rfl, by decide, .inl rfl⟩ (fun q hq => hPn q (Nat.le_trans hW.below.size hq)) (by simp [wtL]) (by simp) rfl
      have X5 : Hid (wr.heap[w.heap.size]? = some (.cells #[.nilIface] 23 (0, 0))) := (HBL.out.block _ hsz).trans X0.out
      have B5 : Hid (Below w.heap.size w wr) := B0.out.trans (HBL.out.mono (by omega))
      have HK : Hid (mkS (wt n) [] = mkSet []) := by show _ = _; unfold mkS; rw [if_pos (by simp [wtL])]
      clear hPn HW HBL X0 B0
      go_wp2_with (go_at_call 220; refine HS5.out.mono ?_; rintro e w5 ⟨v, rfl, hrep, hg⟩; rw [HK.out] at hrep; obtain ⟨b, rfl, hset⟩ := hrep.set_inv; have ff := fun W => field_23 (.iface 121 (.pointer (some ⟨b, 0, none⟩))) W rfl; have HX : Hid (w5.heap[w.heap.size]? = _) := Below.blockAt hg.below X5.out; have HG : Hid (Grew wr w5) := hg; have HR : Hid (SetP _ w5 _ _ b _) := hset; clear hg hrep hset)
      refine (HF5.out w5 b HG.out HR.out).mono ?_
      rintro e w6 ⟨v, rfl, hrep, hg⟩
      have hbx := Below.blockAt hg.below HX.out
      have x0 := block_cell hbx 0
      have x1 := frozen_block hbx 0
      have st := store_one (hrep.rep _ _ _).one
      have HV : Hid (RepP _ w6 (n + 1) _ v) := hrep
      have BW : Hid (Below w.heap.size w w6) := B5.out.trans ((HG.out.trans hg).below.mono (by have := B5.out.size; omega))
      clear hg hrep hbx
      go_wp2_with fail
      have r0 := World.cell?_setCell_same _ _ v x0
      exact bodyPost_ret (v := .agg #[v]) (by simp [results, Tryz.results267, go_sem, r0]) rfl ⟨_, rfl, HV.out.boxed (w := w) v rfl, BW.out.setCell (Nat.le_refl _) _⟩
end Go.Proofs.YtbogejmmkohbkaaGreatDoor.Sx

namespace Go.Proofs.YtbogejmmkohbkaaGreatDoor.Sx
open Go.RowKit Go.Sort

theorem heldP_of {n : Nat} {P : Nat → Prop} {w : World} {g : Nat} (hPg : ∀ k, P k → k ≠ g) : ∀ (es : List (AV n × AV n)) (off : Nat), (∀ (i : Nat) (p : AV n × AV n), es[i]? = some p → ∃ v u, w.cell? ⟨g, (off + i) * 2, none⟩ = some v ∧ w.cell? ⟨g, (off + i) * 2 + 1, none⟩ = some u ∧ RepP P w n p.1 v ∧ RepP P w n p.2 u) →
    ∃ hs : List (PH n g w), hs.map xyP = es ∧ (∀ (i : Nat) (r : PH n g w), hs[i]? = some r → w.cell? ⟨g, (off + i) * 2, none⟩ = some r.k.v ∧ w.cell? ⟨g, (off + i) * 2 + 1, none⟩ = some r.u.v) ∧ ∀ a ∈ hs, RepP P w n a.k.x a.k.v ∧ RepP P w n a.u.x a.u.v
  | [], _, _ => ⟨[], rfl, by simp, by simp⟩
  | p :: es, off, h => by
    obtain ⟨v, u, hv, hu, hr, hs⟩ := h 0 p rfl
    obtain ⟨l, h1, h2, h3⟩ := heldP_of hPg es (off + 1) fun i y hy => by
      obtain ⟨v, u, hv, hu, hr, hs⟩ := h (i + 1) y (by simpa using hy)
      exact ⟨v, u, by rw [show off + 1 + i = off + (i + 1) from by omega]; exact hv, by rw [show off + 1 + i = off + (i + 1) from by omega]; exact hu, hr, hs⟩
    refine ⟨⟨⟨p.1, v, hr.fr (Fr.refl _ w) (fun k _ hk => hPg k hk) _ _ _⟩, ⟨p.2, u, hs.fr (Fr.refl _ w) (fun k _ hk => hPg k hk) _ _ _⟩⟩ :: l, by simp [h1, xyP], fun i r hir => ?_, fun a ha => ?_⟩
    · cases i with
      | zero => simp at hir; subst hir; exact ⟨by simpa using hv, by simpa using hu⟩
      | succ i => rw [show off + (i + 1) = off + 1 + i from by omega]; exact h2 i r (by simpa using hir)
    · rcases List.mem_cons.1 ha with q | q
      · subst q; exact ⟨hr, hs⟩
      · exact h3 a q

theorem close_post2 {β : Type} {d : Nat} {w w2 w3 : World} {br b g : Nat} {t : ByteArray} {op : Nat} {R : Except (Nat × Nat) (List β × St)} {er v u : Value} {l : List β} (f : List β → AV (d + 1)) (hbr : br < w.heap.size)
    (hf : Fr (· ≠ br) w w2) (ht : Tail w2 br t op R er l) (hb : Fr (· ≠ g) w2 w3) (hg : w.heap.size ≤ g) (hbw : w.heap.size ≤ b) (hv : RepP (fun k => w.heap.size ≤ k ∧ k ≠ b) w3 (d + 1) (f l) v) (hw : ∀ l, wt (d + 1) (f l) ≤ 1024) :
    Post w br t op d (closeP f R) (.returned (.tuple #[.agg #[v], er])) (w3.setCell ⟨b, 0, none⟩ u) := by
  have hrd : ∀ s', RdS w2 br t s' op → RdS (w3.setCell ⟨b, 0, none⟩ u) br t s' op := fun s' h => RdS.setOther (RdAt.of h (P := fun k => k ≠ g) hb (by omega)) (by simp; omega) u
  have hF : Fr (· ≠ br) w (w3.setCell ⟨b, 0, none⟩ u) := by
    refine Fr.setNew ⟨hb.os.trans hf.os, hb.tape.trans hf.tape, hb.output.trans hf.output, Nat.le_trans hf.size hb.size, fun k hk hp => ?_⟩ hbw u
    exact (hb.block k (Nat.lt_of_lt_of_le hk hf.size) (by omega)).trans (hf.block k hk hp)
  refine ⟨v, er, rfl, hF, ?_⟩
  rcases ht with ⟨s', rfl, rfl, h⟩ | ⟨c, p, s', rfl, rfl, hp, h⟩
  · exact ⟨rfl, hv.boxed (w := w) u rfl, hw l, hrd s' h⟩
  · exact ⟨rfl, ⟨f l, hv.boxed (w := w) u rfl, hw l⟩, s', hp, hrd s' h⟩

theorem LPost.split {β : Type} {Pp : Nat → Prop} {Inv : World → List β → Prop} {w w' : World} {br : Nat} {t : ByteArray} {op : Nat} {R : Except (Nat × Nat) (List β × St)} {e : Ending} (h : LPost Pp Inv w br t op R e w') :
    ∃ er l, e = .returned er ∧ Fr Pp w w' ∧ Inv w' l ∧ Tail w' br t op R er l := by
  obtain ⟨er, he, hf, hm⟩ := h
  cases R with
  | ok q => obtain ⟨l, s'⟩ := q; exact ⟨er, l, he, hf, hm.2.1, .inl ⟨s', rfl, hm.1, hm.2.2⟩⟩
  | error q => obtain ⟨c, p⟩ := q; obtain ⟨h1, ⟨l, h2⟩, s', h4, h5⟩ := hm; exact ⟨er, l, he, hf, h2, .inr ⟨c, p, s', rfl, h1, h4, h5⟩⟩

set_option maxRecDepth 100000 in
set_option maxHeartbeats 4000000 in
theorem function_any (d : Nat) (V : ValOK d) : FunOK d := by
  intro w br t s hE hr ha hk hen hen1 ht
  have hl : t.data.toList.length = t.size := by simp
  have hbr := block_lt hr
  have hmf : ∀ (fn : Fn) (first cap : Array Value) (w : World), (Instr.makeFunc fn first cap).run Tryz.prog w = .ok (.func fn first cap) w := fun _ _ _ _ => rfl
  obtain ⟨bR, hbR⟩ : ∃ b, b = w.heap.size := ⟨_, rfl⟩
  obtain ⟨bb, hbb⟩ : ∃ b, b = w.heap.size + 1 := ⟨_, rfl⟩
  obtain ⟨bl, hbl⟩ : ∃ b, b = w.heap.size + 2 := ⟨_, rfl⟩
  have hs0 : (((w.alloc (.cells #[.pointer (some ⟨br, 0, none⟩)] 108)).alloc (.cells #[.nilIface] 23)).alloc (.cells #[.slice none 0 0] 270)).heap.size = bl + 1 := by simp [hbl]
  have hN : (((w.alloc (.cells #[.pointer (some ⟨br, 0, none⟩)] 108)).alloc (.cells #[.nilIface] 23)).alloc (.cells #[.slice none 0 0] 270)).heap[bl]? = some (.cells #[.slice none 0 0] 270 (0, 0)) := heap_new (by simp [hbl])
  have hXR : (((w.alloc (.cells #[.pointer (some ⟨br, 0, none⟩)] 108)).alloc (.cells #[.nilIface] 23)).alloc (.cells #[.slice none 0 0] 270)).heap[bR]? = some (.cells #[.pointer (some ⟨br, 0, none⟩)] 108 (0, 0)) :=
    (Below.heap_alloc _ _ _ (by simp [hbR]; omega)).trans ((Below.heap_alloc _ _ _ (by simp [hbR])).trans (heap_new hbR.symm))
  have hXB : (((w.alloc (.cells #[.pointer (some ⟨br, 0, none⟩)] 108)).alloc (.cells #[.nilIface] 23)).alloc (.cells #[.slice none 0 0] 270)).heap[bb]? = some (.cells #[.nilIface] 23 (0, 0)) :=
    (Below.heap_alloc _ _ _ (by simp [hbb])).trans (heap_new (by simp [hbb]))
  have F2 : Fr (· ≠ br) w (((w.alloc (.cells #[.pointer (some ⟨br, 0, none⟩)] 108)).alloc (.cells #[.nilIface] 23)).alloc (.cells #[.slice none 0 0] 270)) := (((Fr.refl _ w).alloc _).alloc _).alloc _
  have R2 : RdS (((w.alloc (.cells #[.pointer (some ⟨br, 0, none⟩)] 108)).alloc (.cells #[.nilIface] 23)).alloc (.cells #[.slice none 0 0] 270)) br t s (24 - d) := hr.of (P := fun _ => True) (Fr.grew ((((Grew.refl w).alloc _).alloc _).alloc _)) trivial
  have E2 := hE.fr F2
  have x0 := block_cell hXR 0
  obtain ⟨R, hRR⟩ : ∃ R, listP t.data.toList [93] (pairP t.data.toList (valueP t.data.toList d)) (t.data.toList.length + 1) s = R := ⟨_, rfl⟩
  have HRR : Hid (listP t.data.toList [93] (pairP t.data.toList (valueP t.data.toList d)) (t.data.toList.length + 1) s = R) := hRR
  rw [hRR]
  clear hRR
  have HLI : Hid (Calls Tryz.prog 264 #[.pointer (some ⟨br, 0, none⟩), .string ⟨#[93]⟩, .func (.func 265) #[] #[.pointer (some ⟨bR, 0, none⟩), .pointer (some ⟨bl, 0, none⟩)]] (((w.alloc (.cells #[.pointer (some ⟨br, 0, none⟩)] 108)).alloc (.cells #[.nilIface] 23)).alloc (.cells #[.slice none 0 0] 270)) _) :=
    list_function1 (fun k => k < bl + 1 ∧ k ≠ br ∧ k ≠ bl) (fun W l => LP (d + 1) W bl (bl + 1) l ∧ bl + 1 ≤ W.heap.size ∧ W.heap[bR]? = some (.cells #[.pointer (some ⟨br, 0, none⟩)] 108 (0, 0)) ∧ l.length ≤ 5001) br t ⟨#[93]⟩ (24 - d) #[.pointer (some ⟨bR, 0, none⟩), .pointer (some ⟨bl, 0, none⟩)] (pairP t.data.toList (valueP t.data.toList d)) 93 [] rfl (pairP_good (valueP_good _ d)) (fun k hk => hk.2.1) ⟨⟨by have := hE.2.1; omega, Ne.symm hE.1, by have := hE.2.1; omega⟩, by have := hE.2.1; omega, Ne.symm hE.2.2.2.1, by have := hE.2.1; omega⟩
      (fun W W' l h f => ⟨by obtain ⟨sl, vs, hx⟩ := h.1; exact ⟨sl, vs, hx.fr f (by omega) (by omega)⟩, Nat.le_trans h.2.1 f.size, (f.block _ (block_lt h.2.2.1) (by omega)).trans h.2.2.1, h.2.2.2⟩) ht
      (fun W s1 acc hE1 hr1 ha1 hk1 he1 hinv hlen => by
        refine (pair_any d V W br bR bl (bl + 1) t s1 acc hE1 hr1 ha1 hk1 he1 ht hinv.2.2.1 hinv.1 (by omega) (by omega) hinv.2.1 (by omega) (by omega) hlen).mono ?_
        rintro e W' ⟨er, he, hf, hm⟩
        have k1 : bl + 1 ≤ W'.heap.size := Nat.le_trans hinv.2.1 hf.size
        have k2 : W'.heap[bR]? = some (.cells #[.pointer (some ⟨br, 0, none⟩)] 108 (0, 0)) := (hf.block _ (block_lt hinv.2.2.1) ⟨by omega, by omega, by omega⟩).trans hinv.2.2.1
        refine ⟨er, he, hf, ?_⟩
        cases hv : pairP t.data.toList (valueP t.data.toList d) s1 with
        | ok q => rw [hv] at hm; obtain ⟨x, s'⟩ := q; exact ⟨hm.1, ⟨hm.2.1, k1, k2, by simp; omega⟩, hm.2.2⟩
        | error q => rw [hv] at hm; obtain ⟨c, p⟩ := q; obtain ⟨m1, ⟨es', m2, m4⟩, m3⟩ := hm; exact ⟨m1, ⟨es', m2, k1, k2, by omega⟩, m3⟩)
      _ s E2 R2 ha hk hen ⟨⟨.slice none 0 0, [], hN, ⟨rfl, .inl ⟨rfl, rfl⟩⟩, by simp, by simp, .inl rfl⟩, by omega, hXR, by simp⟩
  have e93 : (⟨#[93]⟩ : ByteArray).data.toList = [93] := rfl
  rw [e93, HRR.out] at HLI
  clear e93
  have H1 : Hid (Fr (· ≠ br) w _) := F2
  have H2 : Hid (_ = _) := hXB
  have hs0' : bl + 1 ≤ (((w.alloc (.cells #[.pointer (some ⟨br, 0, none⟩)] 108)).alloc (.cells #[.nilIface] 23)).alloc (.cells #[.slice none 0 0] 270)).heap.size := by omega
  rw [hbR] at x0 HLI
  have HBL : Hid (bl = w.heap.size + 2 ∧ bb = w.heap.size + 1 ∧ bR = w.heap.size) := ⟨hbl, hbb, hbR⟩
  rw [hbl] at HLI
  clear hE hr hk F2 R2 E2 hXR hXB V HRR hbl hbb hbR hs0 hN
  go_enter Tryz.func175, Tryz.ntmps175
  go_wp2_with fail
  generalize ((w.alloc (.cells #[.pointer (some ⟨br, 0, none⟩)] 108)).alloc (.cells #[.nilIface] 23)).alloc (.cells #[.slice none 0 0] 270) = W2 at H1 H2 HLI hs0' x0 ⊢
  refine HLI.out.mono ?_
  intro e w3 hp
  obtain ⟨er, l, rfl, hf3, ⟨⟨sl, vs, hlx⟩, hs3, _, hl5⟩, htail⟩ := hp.split
  have hbe := HBL.out
  obtain ⟨hbl, hbb, hbR⟩ := hbe
  rw [← hbl] at hlx hf3 hs3
  have F3 : Hid (Fr (· ≠ br) w w3) := by
    have f2 := H1.out
    refine ⟨hf3.os.trans f2.os, hf3.tape.trans f2.tape, hf3.output.trans f2.output, Nat.le_trans f2.size hf3.size, fun k hk hp => ?_⟩
    exact (hf3.block k (by omega) ⟨by omega, hp, by omega⟩).trans (f2.block k hk hp)
  have B3 : Hid (w3.heap[bb]? = some (.cells #[.nilIface] 23 (0, 0))) := (hf3.block bb (by omega) ⟨by omega, by omega, by omega⟩).trans H2.out
  have HT : Hid (Tail w3 br t (24 - d) R er l) := htail
  have c0 := block_cell hlx.1 0
  have hbb1 : w.heap.size ≤ bb := by omega
  have hbb2 : bb < bl := by omega
  rw [hbl] at c0
  have hF2 : ∀ l, wt (d + 2) (mkP (wt (d + 1)) (normP (cmpV (d + 1)) l) : Node (AV (d + 1))) ≤ 1024 := fun l => wt_mkP (d + 1) _
  rcases hlx.2.2.2.2 with rfl | hpos
  · have hl0 : l = [] := by
      rcases hlx.2.1.2 with ⟨_, h0⟩ | ⟨g, cap, cur, e, _⟩
      · exact List.length_eq_zero_iff.1 h0
      · simp at e
    have HC : Hid (Calls Tryz.prog 267 #[.slice none 0 0] w3 _) := functionOf_nil (d + 1) (fun k => w.heap.size ≤ k ∧ k ≠ bb) w3 (fun k hk => ⟨by omega, by omega⟩)
    have HL0 : Hid (l = []) := hl0
    have HE : Hid (bb = w.heap.size + 1) := hbb
    clear hl0 hlx hf3 htail hp HLI H1 H2 x0 hbl hbb hbR
    go_wp2_with fail
    refine HC.out.mono ?_
    rintro e w4 ⟨v, rfl, hv, hb4⟩
    have k0 := Below.blockAt hb4 B3.out
    rw [HE.out] at k0
    have y0 := block_cell k0 0
    have y1 := frozen_block k0 0
    have HV : Hid (RepP (fun k => w.heap.size ≤ k ∧ k ≠ bb) w4 (d + 2) (mkP (wt (d + 1)) (normP (cmpV (d + 1)) []) : Node (AV (d + 1))) v) := hv
    have HB : Hid (Below w3.heap.size w3 w4) := hb4
    have st := store_one (hv.rep _ _ _).one
    clear hv hb4 k0 HC
    go_wp2_with fail
    have r0 := World.cell?_setCell_same _ _ v y0
    refine bodyPost_ret (v := .tuple #[.agg #[v], er]) (by simp [results, Tryz.results175, go_sem, r0]) rfl ?_
    have := close_post2 (d := d + 1) (u := v) (g := w3.heap.size) (fun l => (mkP (wt (d + 1)) (normP (cmpV (d + 1)) l) : Node (AV (d + 1)))) hbr F3.out HT.out (Fr.below HB.out) (by omega) hbb1 (by rw [HL0.out]; exact HV.out) hF2
    rw [HE.out] at this
    exact this
  · obtain ⟨g, cap, cur, rfl, hgb, hq, hn1, hn2, hn3, hn4⟩ : ∃ g cap cur, sl = .slice (some ⟨g, 0, none⟩) l.length cap ∧ bl + 1 ≤ g ∧ w3.heap[g]? = some (.cells cur 273 (0, 0)) ∧ l.length ≤ cap ∧ cap ≤ maxLen ∧ cur.size = cap * 2 ∧ cur.toList.take (l.length * 2) = vs := by
      rcases hlx.2.1.2 with ⟨_, h0⟩ | h
      · omega
      · exact h
    have hcell : ∀ i, i < l.length * 2 → w3.cell? ⟨g, i, none⟩ = vs[i]? := fun i hi => hlx.2.1.cellAt i hi
    obtain ⟨hs, hx, hc, hrp⟩ := heldP_of (n := d + 1) (P := fun k => bl + 1 ≤ k ∧ k ≠ g) (w := w3) (g := g) (fun k hk => hk.2) l 0 fun i p hp => by
      have hi := (List.getElem?_eq_some_iff.1 hp).1
      obtain ⟨v, u, hv, hu, hr, hs⟩ := hlx.2.2.1 i p hp
      refine ⟨v, u, by rw [Nat.zero_add, hcell _ (by omega), hv], by rw [Nat.zero_add, hcell _ (by omega), hu], ?_, ?_⟩
      · exact hr.fr (Fr.refl _ w3) (fun k _ hk => ⟨hk.1, fun e => hk.2 (by rw [e]; rfl)⟩) _ _ _
      · exact hs.fr (Fr.refl _ w3) (fun k _ hk => ⟨hk.1, fun e => hk.2 (by rw [e]; rfl)⟩) _ _ _
    have hhl : hs.length = l.length := by rw [← hx]; simp
    have hrow : QRow w3 g l.length hs := by
      refine ⟨block_lt hq, hhl, fun i x hix => ?_⟩
      obtain ⟨a, b⟩ := hc i x hix
      rw [Nat.zero_add] at a b
      exact ⟨a, b, hlx.2.1.frozenAt _, hlx.2.1.frozenAt _⟩
    have HC : Hid (Calls Tryz.prog 267 #[.slice (some ⟨g, 0, none⟩) l.length cap] w3 _) := functionOf_any (d + 1) (fun k => bl + 1 ≤ k ∧ k ≠ g) w3 g l.length cap hs hrp hrow hpos hl5 hn1 (fun h => h.2 rfl) (fun k hk => ⟨by omega, by have := block_lt hq; omega⟩) (fun a ha => by
      have : xyP a ∈ l := by rw [← hx]; exact List.mem_map_of_mem ha
      exact hlx.2.2.2.1 _ this)
    rw [hx] at HC
    have HE : Hid (bb = w.heap.size + 1) := hbb
    have hgw : w.heap.size ≤ g ∧ g ≠ bb := ⟨by omega, by omega⟩
    obtain ⟨hg1, hg2⟩ := hgw
    have HBG : Hid (∀ k, bl + 1 ≤ k → w.heap.size ≤ k ∧ k ≠ bb) := fun k hk => ⟨by omega, by omega⟩
    clear hx hc hrp hrow hlx hf3 htail hp HLI H1 H2 x0 hbl hbb hbR hcell hq hn2 hn3 hn4 hhl
    go_wp2_with fail
    refine HC.out.mono ?_
    rintro e w4 ⟨v, rfl, hv, hf4⟩
    have k0 := (hf4.block bb (block_lt B3.out) (Ne.symm hg2)).trans B3.out
    rw [HE.out] at k0
    have y0 := block_cell k0 0
    have y1 := frozen_block k0 0
    have HV : Hid (RepP (fun k => w.heap.size ≤ k ∧ k ≠ bb) w4 (d + 2) (mkP (wt (d + 1)) (normP (cmpV (d + 1)) l) : Node (AV (d + 1))) v) := hv.fr (Fr.refl _ w4) (fun k _ hk => HBG.out k hk.1) _ _ _
    have HF4 : Hid (Fr (· ≠ g) w3 w4) := hf4
    have st := store_one (hv.rep _ _ _).one
    clear hv hf4 k0 HC
    go_wp2_with fail
    have r0 := World.cell?_setCell_same _ _ v y0
    refine bodyPost_ret (v := .tuple #[.agg #[v], er]) (by simp [results, Tryz.results175, go_sem, r0]) rfl ?_
    have := close_post2 (d := d + 1) (u := v) (fun l => (mkP (wt (d + 1)) (normP (cmpV (d + 1)) l) : Node (AV (d + 1)))) hbr F3.out HT.out HF4.out hg1 hbb1 HV.out hF2
    rw [HE.out] at this
    exact this
end Go.Proofs.YtbogejmmkohbkaaGreatDoor.Sx
