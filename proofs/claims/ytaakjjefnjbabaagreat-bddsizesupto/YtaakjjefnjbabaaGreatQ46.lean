/- The law: the order's cells are changed; what is new of a list that is spoiled. -/
import Derived.Test.YtaakjjefnjbabaaGreatQ42
set_option maxRecDepth 100000
namespace Go.Proofs.YtaakjjefnjbabaaGreat.Sx
open Go.RowKit Go.Sort Go.Maps Go.WideMaps
section
variable {lo wb tb n : Nat} {W W' W1 W2 W3 : World} {L L' : Ly} {T : Tb} {nodes : List Nat} {fs given : List (List Bool)} {ord : List Nat} {nv fv ov gv : Value}
theorem own_set {w : World} {b g m cap i x : Nat} {l : List Nat} (h : w.ownsRow b 3 1 (.slice (some ⟨g, 0, none⟩) m cap) m (i64C l)) : (w.setCell ⟨g, i, none⟩ (.int .i64 (x : Int))).ownsRow b 3 1 (.slice (some ⟨g, 0, none⟩) m cap) m (i64C (l.set i x)) := by
 obtain ⟨h1, h2⟩ := h
 have e : i64C (l.set i x) = (i64C l).set i (.int .i64 (x : Int)) := by simp [i64C, List.map_set]
 refine ⟨by rw [e, List.length_set]; exact h1, .inr ?_⟩
 rcases h2 with ⟨q, _⟩ | ⟨g2, cap2, cur, q, hb, hg, h3, h4, h5, h6⟩
 · cases q
 · injection q with q1 _ q2
   cases q1; cases q2
   refine ⟨g, cap, _, rfl, hb, set_block hg i _, h3, h4, by simpa using h5, ?_⟩
   rw [e, ← h6]
   simp [List.take_set]
theorem LM.setO (h : LM lo wb tb W L n T nodes fs given ord nv fv ov gv) {g m cap : Nat} (ho : ov = .slice (some ⟨g, 0, none⟩) m cap) (i x : Nat) :
 LM lo wb tb (W.setCell ⟨g, i, none⟩ (.int .i64 (x : Int))) L n T nodes fs given (ord.set i x) nv fv ov gv ∧ Fr (fun b => b ≠ g) W (W.setCell ⟨g, i, none⟩ (.int .i64 (x : Int))) := by
 have hfr : Fr (fun b => b ≠ g) W (W.setCell ⟨g, i, none⟩ (.int .i64 (x : Int))) := (Fr.refl _ W).set (by simp) _
 obtain ⟨vs, _, hv, _⟩ := id h.fun_
 obtain ⟨vg, _, hv2, _⟩ := id h.giv
 have hot := own_type h.ordr.1
 have ow := h.ordr.2
 obtain ⟨p1, p2, p3, _, p5⟩ := h.parts (ob := ov.ownBlock) (ety := 3) (hfr.mono fun b hb e => hb.1 (by rw [ho, e]; rfl)) ow hot (by decide)
 have hw : ∃ cs fz, W.heap[wb]? = some (.cells cs 39 fz) := ⟨_, _, h.blk⟩
 have hgw : wb ≠ g := fun e => ty_ne (hot g (by rw [ho]; rfl)) hw (by decide) e.symm
 have hx := h.ordr.1
 have hml : ord.length = m := by
  obtain ⟨a, c, e⟩ := own_slice hx
  rw [ho] at e
  injection e with _ e2 _
  exact e2.symm
 refine ⟨⟨h.low, p1, h.wlo, h.wown, (hfr.block wb (block_lt h.blk) hgw).trans h.blk, p2 fun k hk e => ?_, p3 fun k hk e => ?_, ⟨?_, ow⟩, p5 fun k hk e => ?_, h.dis⟩, hfr⟩
 · exact ty_ne (own_type h.nod.1 k hk) (hot k e) (by decide) rfl
 · exact ty_ne (own_type hv k hk) (hot k e) (by decide) rfl
 · rw [ho, hml] at hx
   rw [ho, List.length_set, hml]
   exact own_set hx
 · exact ty_ne (own_type hv2 k hk) (hot k e) (by decide) rfl
theorem LM.ordAt (h : LM lo wb tb W L n T nodes fs given ord nv fv ov gv) {i x : Nat} (hx : ord[i]? = some x) : ∃ g c, ov = .slice (some ⟨g, 0, none⟩) ord.length c ∧ W.cell? ⟨g, i, none⟩ = some (.int .i64 (x : Int)) ∧ W.frozen? ⟨g, i, none⟩ = false := by
 have hl := lt_of_at hx
 rcases h.ordr.1.2 with ⟨_, h0⟩ | ⟨g, cap, cur, e, hb, hg, q⟩
 · omega
 · have h1 := h.ordr.1
   rw [e] at h1
   have := h1.cells rfl i (.int .i64 (x : Int)) (by unfold i64C; rw [List.getElem?_map, hx]; rfl)
   rw [add0] at this
   exact ⟨g, cap, e, this, frozen_block hg i⟩
theorem LM.newO (h : LM lo wb tb W L n T nodes fs given ord nv fv ov gv) {r : Value} {m : Nat} {ord' : List Nat} (hr : W.ownsRow lo 3 1 r m (i64C ord')) (hm : ord'.length = m) (hz : ∀ k, r.ownBlock = some k → L.own k = 0) :
 LM lo wb tb (W.setCell ⟨wb, 4, none⟩ r) L n T nodes fs given ord' nv fv r gv ∧ Fr (fun b => b ≠ wb) W (W.setCell ⟨wb, 4, none⟩ r) := by
 have hfr : Fr (fun b => b ≠ wb) W (W.setCell ⟨wb, 4, none⟩ r) := (Fr.refl _ W).set (by simp) _
 have hw : ∃ cs fz, W.heap[wb]? = some (.cells cs 39 fz) := ⟨_, _, h.blk⟩
 obtain ⟨p1, p2, p3, _, p5⟩ := h.parts (ob := none) (ety := 32) (hfr.mono fun b hb => hb.2) (fun k e => by cases e) (fun k e => by cases e) (by decide)
 refine ⟨⟨h.low, p1, h.wlo, h.wown, set_block h.blk 4 _, p2 fun k _ e => (by cases e), p3 fun k _ e => (by cases e), ⟨?_, hz⟩, p5 fun k _ e => (by cases e), h.dis⟩, hfr⟩
 rw [hm]
 exact own_fr hr hfr fun k hk => ty_ne (own_type hr k hk) hw (by decide)
theorem Fr.over {w0 : World} {P : Nat → Prop} (f : Fr (fun _ => True) w0 W) (g : Fr P W W') (hp : ∀ b, b < w0.heap.size → P b) : Fr (fun _ => True) w0 W' :=
 ⟨g.os.trans f.os, g.tape.trans f.tape, g.output.trans f.output, Nat.le_trans f.size g.size, fun b hb _ => (g.block b (Nat.lt_of_lt_of_le hb f.size) (hp b hb)).trans (f.block b hb trivial)⟩
theorem spoil_fr {v : Value} {m : Nat} {xs : List Value} (f1 : Fr (fun _ => True) W W1) (h : W1.ownsRow W.heap.size 3 1 v m xs) (f2 : Fr (fun _ => True) W1 W2) (f3 : Fr (fun b => some b ≠ v.ownBlock) W2 W3) : Fr (fun _ => True) W W3 := by
 have f := f1.trans f2
 refine ⟨f3.os.trans f.os, f3.tape.trans f.tape, f3.output.trans f.output, Nat.le_trans f.size f3.size, fun b hb _ => (f3.block b (Nat.lt_of_lt_of_le hb f.size) fun e => ?_).trans (f.block b hb trivial)⟩
 have := (h.lt b e.symm).1
 omega
end
def TurnPost (w0 : World) (wb tb n k : Nat) (e : Ending) (w' : World) : Prop := ∃ (lv : Nat → Nat) (T : Tb) (L : Ly) (nodes : List Nat) (fs given : List (List Bool)) (nv fv ov gv : Value), e = .returned (.bool true) ∧ LM w0.heap.size wb tb w' L n T nodes fs given T.ord nv fv ov gv ∧ LP k n lv T nodes fs given ∧ Fr (fun _ => True) w0 w'
theorem own_iwN {w : World} {b m : Nat} {v : Value} {l : List Nat} (hn : l.length = m) (h : w.ownsRow b 3 1 v m (i64C l)) : IW w v (nodesI l) := by
 obtain ⟨a, c, e, h⟩ := own_irN hn h
 exact ⟨a, c, e, fun i x hx => by obtain ⟨q, e1, h1, _⟩ := h i x hx; exact ⟨q, e1, h1⟩⟩
end Go.Proofs.YtaakjjefnjbabaaGreat.Sx
namespace Go.Proofs.YtaakjjefnjbabaaGreat.Sx
section
variable {n k M : Nat} {o : List Nat} {fs R S : List (List Bool)} {T T' Tg : Tb} {lv lv' : Nat → Nat}
theorem AskSt.sub (h : AskSt o fs R.length R) (g : AskSt o fs S.length S) : ∀ f ∈ R, f ∈ S :=
 h.gen (· ∈ S) g.has fun f a v hf ha => by
  obtain ⟨i, hi⟩ := List.getElem?_of_mem hf
  exact g.clo i f a v (lt_of_at hi) hi ha
theorem AskSt.perm (h : AskSt o fs R.length R) (g : AskSt o fs S.length S) : R.Perm S :=
 (List.perm_ext_iff_of_nodup h.nd g.nd).2 fun f => ⟨h.sub g f, g.sub h f⟩
theorem AskSt.askN (h : AskSt o fs R.length R) (g : AskSt o fs S.length S) : Sx.askN o R = Sx.askN o S := (h.perm g).countP_eq _
theorem ask_more (hl : ∀ f ∈ fs, f.length = 2 ^ n) (ho : ∀ a ∈ o, a < n) : ∀ (m k : Nat) (R : List (List Bool)), AskSt o fs k R → k ≤ R.length → fs.length * 3 ^ n < k + m → ∃ S, AskSt o fs S.length S
 | 0, k, R, h, hk, hm => by have := h.bound hl ho; omega
 | m + 1, k, R, h, hk, hm => by
   by_cases e : k = R.length
   · subst e; exact ⟨R, h⟩
   · obtain ⟨f, hf⟩ : ∃ f, R[k]? = some f := ⟨_, List.getElem?_eq_getElem (by omega)⟩
     cases h0 : firstO o f with
     | none => exact ask_more hl ho m (k + 1) R (h.skip hf h0) (by omega) (by omega)
     | some a =>
       refine ask_more hl ho m (k + 1) _ (h.step hf h0) ?_ (by omega)
       obtain ⟨S, e⟩ := joinR_pre [withL f a false, withL f a true] R
       rw [e, List.length_append]
       omega
theorem ask_ex (hl : ∀ f ∈ fs, f.length = 2 ^ n) (ho : ∀ a ∈ o, a < n) : ∃ R, AskSt o fs R.length R := ask_more hl ho (fs.length * 3 ^ n + 1) 0 _ (AskSt.start o fs) (by omega) (by omega)
theorem szR_ex (fs : List (List Bool)) : ∃ sz : List Nat → Nat, ∀ (o : List Nat) (R : List (List Bool)), AskSt o fs R.length R → Sx.askN o R = sz o := by
 classical
 refine ⟨fun o => if h : ∃ R, AskSt o fs R.length R then Sx.askN o h.choose else 0, fun o R h => ?_⟩
 have e : ∃ R, AskSt o fs R.length R := ⟨R, h⟩
 show _ = dite _ _ _
 rw [dif_pos e]
 exact h.askN e.choose_spec
theorem szR_of {Fs : List ((Nat → Bool) → Bool)} {sz : List Nat → Nat} (hs : ∀ R, AskSt o (Fs.map (tab n)) R.length R → Sx.askN o R = sz o) (ho : o.Perm (List.range n)) : SizeOf n Fs o (sz o) := by
 obtain ⟨R, hR⟩ : ∃ R, AskSt o (Fs.map (tab n)) R.length R := ask_ex (n := n) (fun f hf => by
  obtain ⟨F, _, rfl⟩ := List.mem_map.1 hf
  exact tab_len _ _) fun a ha => List.mem_range.1 (ho.mem_iff.1 ha)
 rw [← hs R hR]
 exact SizeOf.ask hR
theorem AlnP.same {fs : List Nat} {d d' : List Nat} (h : AlnP n lv M T fs Tg) (hO : Ords n lv T) (hA : AskSt T.ord ((fs.map (vl n T)).map (tab n)) R.length R) (h1 : d.Perm (List.range n)) (h2 : d.Pairwise (Rk (cntV Tg))) (h3 : d'.Perm (List.range n)) (h4 : d'.Pairwise (Rk (askC T.ord R))) : d = d' := by
 have he : ∀ g, vl n { Tg with fresh := [] } g = vl n Tg g := fun g => funext fun σ => ev_rows (T := Tg) (T' := { Tg with fresh := [] }) rfl σ _ _
 have hOF : OnlyF n { Tg with fresh := [] } (fs.map (vl n T)) := ⟨fun F hF => by
  obtain ⟨f, hf, rfl⟩ := List.mem_map.1 hF
  obtain ⟨g, hg, e⟩ := h.has f hf
  exact ⟨g, hg, (he g).trans e⟩, fun g hg => by
  rcases h.only g hg with q | ⟨f, hf, e⟩
  · exact .inl q
  · exact .inr ⟨_, List.mem_map.2 ⟨f, hf, rfl⟩, (he g).trans e⟩⟩
 have hOg : Ords n lv { Tg with fresh := [] } := fun i hi => by
  show ∃ v, Tg.ord[i]? = some v ∧ v < n ∧ lv v = i
  rw [h.ord]; exact hO i hi
 have hA2 : AskSt ({ Tg with fresh := [] } : Tb).ord ((fs.map (vl n T)).map (tab n)) R.length R := by
  show AskSt Tg.ord _ _ _
  rw [h.ord]; exact hA
 have hc := (hOF.nodes h.base hOg hA2).2
 have e : askC T.ord R = cntV Tg := funext fun v => by
  have := hc v
  have e2 : ({ Tg with fresh := [] } : Tb).ord = T.ord := h.ord
  rw [e2] at this
  exact this
 rw [e] at h4
 exact Rk.unique h2 h4 (h1.trans h3.symm)
theorem SfI.lp {nodes : List Nat} {fs given : List (List Bool)} (hp : LP k n lv T nodes fs given) (h : SfI n MM T o lv' T') : LP k n lv' T' nodes fs given := by
 have hf := h.fre hp.base.fresh
 have hb := h.base
 have e : ({ T' with fresh := [] } : Tb) = T' := by rw [← hf]
 rw [e] at hb
 exact hp.moved rfl hb h.ords h.giv h.only
theorem TurnP.lp {nodes : List Nat} {fs given : List (List Bool)} {u l i : Nat} (hp : LP k n lv T nodes fs given) (h : TurnP n lv u l i MM T T') : LP k n (swapL lv u l) T' nodes fs given := hp.moved rfl h.base h.ords h.giv h.only
theorem LP.big {nodes : List Nat} {fs given : List (List Bool)} (h : LP k n lv T nodes fs given) : ∃ gs : List Nat, (∀ y, Giv T y → y ∈ gs) ∧ gs.length * 3 ^ n + 2 ≤ MM ∧ (2 + 2) * 3 ^ n + 2 ≤ MM := by
 obtain ⟨gs, hg, hgs⟩ := h.gs
 have h1 := pow39 h.n9
 have h2 : gs.length * 3 ^ n ≤ 2097152 * 19683 := Nat.mul_le_mul (Nat.le_trans hg h.k20) h1
 refine ⟨gs, hgs, ?_, ?_⟩ <;> unfold MM <;> omega
end
end Go.Proofs.YtaakjjefnjbabaaGreat.Sx
namespace Go.Proofs.YtaakjjefnjbabaaGreat.Sx
theorem num_skip {j : Nat} {σ : Nat → Bool} (h : σ j = false) : num (j + 1) σ = num j σ := by
 show num j σ + (if σ j then 2 ^ j else 0) = num j σ
 rw [h]; rfl
theorem num_or {j : Nat} {σ : Nat → Bool} (h : σ j = true) : num j σ ||| 2 ^ j = num (j + 1) σ := Nat.eq_of_testBit_eq fun x => by
 rw [Nat.testBit_or, num_bit, num_bit, Nat.testBit_two_pow]
 by_cases e : j = x
 · subst e; simp [h]
 · rw [decide_eq_false e, Bool.or_false]
   congr 1
   exact decide_eq_decide.2 (by omega)
theorem num_end {m : Nat} {σ : Nat → Bool} (h : ∀ i, m ≤ i → σ i = false) : ∀ d, num (m + d) σ = num m σ
 | 0 => rfl
 | d + 1 => by
   show num (m + d + 1) σ = num m σ
   rw [num_skip (h (m + d) (by omega)), num_end h d]
theorem num_at {n m j : Nat} {σ : Nat → Bool} (h : ∀ i, m ≤ i → σ i = false) (hj : ¬ (j < n ∧ j < m)) (h1 : j ≤ n) (h2 : j ≤ m) : num j σ = num n σ := by
 by_cases e : j < n
 · obtain rfl : j = m := by omega
   obtain ⟨d, rfl⟩ : ∃ d, n = j + d := ⟨n - j, by omega⟩
   exact (num_end h d).symm
 · obtain rfl : j = n := by omega
   rfl
theorem asg_at {bs : List Bool} {i : Nat} {b : Bool} (h : bs[i]? = some b) : asg bs i = b := by
 unfold asg
 rw [List.getD_eq_getElem?_getD, h]; rfl
theorem asg_no {bs : List Bool} {i : Nat} (h : bs.length ≤ i) : asg bs i = false := by
 unfold asg
 rw [List.getD_eq_getElem?_getD, List.getElem?_eq_none h]; rfl
theorem tab_num {n : Nat} {F : (Nat → Bool) → Bool} (hF : Dep n F) (σ : Nat → Bool) : (tab n F)[num n σ]? = some (F σ) := by rw [tab_get (num_lt n σ), hF.num]
theorem tab_mod {n i : Nat} {F : (Nat → Bool) → Bool} {l : List Bool} (hF : Dep n F) (hl : l = (List.range n).map i.testBit) : (tab n F)[i % 2 ^ n]? = some (F (asg l)) := by
 rw [tab_get (Nat.mod_lt _ (Nat.two_pow_pos n))]
 congr 1
 refine hF _ _ fun x hx => ?_
 rw [asg_at (b := i.testBit x) (by rw [hl, List.getElem?_map, List.getElem?_range hx]; rfl), Nat.testBit_mod_two_pow, decide_eq_true hx, Bool.true_and]
section
variable {w : World} {tb : Nat} {L : Ly} {T : Tb} {n k : Nat} {lv : Nat → Nat} {nodes : List Nat} {fs given : List (List Bool)}
theorem LP.cntOK (_ : LP k n lv T nodes fs given) {x : Nat} : (cntR n (vl n T x) zs : Nat) = cntL (tab n (vl n T x)) := cntR_tab
theorem LP.fit (h : LP k n lv T nodes fs given) : (T.rows.length - T.free.length) + T.fresh.length ≤ MM := by
 have h1 := h.base.mid.rl
 rw [h.base.fresh]
 simp only [List.length_nil]
 omega
theorem First_both (h : TAt w tb L T) (hp : LP k n lv T nodes fs given) (x : Nat) (hx : Live T x) :
 Calls Tryz.prog 44 #[.pointer (some ⟨tb, 0, none⟩), .int .i64 (x : Int)] w fun e w' => ∃ r, e = .returned (.tuple #[r, .bool (fstO (tab n (vl n T x)))]) ∧ BV w' r (fstR n (tab n (vl n T x))) ∧ TAt w' tb L T ∧ FrT L L w w' := by
 have t := hp.base.mid.t
 by_cases h0 : x = 0
 · subst h0
   have hz : cntL (tab n (vl n T 0)) = 0 := (cntL_zero (t.dp hx)).2 fun τ => vl_zero τ
   refine (First_none h hp.base.mid).mono ?_
   rintro e w' ⟨rfl, a, b⟩
   refine ⟨.slice none 0 0, ?_, ?_, a, b⟩
   · unfold fstO; rw [hz]; rfl
   · unfold fstR
     rw [if_pos hz]
     exact ⟨none, 0, rfl, fun i y q => by cases q⟩
 · have hz : cntL (tab n (vl n T x)) ≠ 0 := fun e => h0 <| by
    have g0 : Live T 0 := by obtain ⟨u, e⟩ := t.inv.e0; exact ⟨_, e, by show (n : Int) ≠ -1; omega⟩
    refine (t.tab_same hx g0).1 (congrArg (tab n) (funext fun τ => ?_))
    rw [(cntL_zero (t.dp hx)).1 e τ, vl_zero]
   refine (First_any h hp.base.mid hp.fit x hx h0).mono ?_
   rintro e w' ⟨a, rfl, hb, -, -, ht, hf⟩
   rw [first_tab (t.dp hx) hz] at hb
   refine ⟨.slice (some ⟨a, 0, none⟩) n n, ?_, ?_, ht, hf⟩
   · unfold fstO; rw [decide_eq_true hz]
   · unfold fstR
     rw [if_neg hz]
     have hl : (fstL n (tab n (vl n T x))).length = n := by unfold fstL; simp
     refine ⟨some ⟨a, 0, none⟩, n, by rw [hl], fun i y hy => ⟨_, rfl, ?_, _, _, hb⟩⟩
     rw [add0]
     have := block_cell hb i
     rw [this]
     simp [hy]
end
end Go.Proofs.YtaakjjefnjbabaaGreat.Sx
