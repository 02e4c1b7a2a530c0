/- Watched literals (plain): follow, begin, and what follows. -/
import Derived.Test.YtbicefgjompnoaaDoorF21
namespace Go.Proofs.YtbicefgjompnoaaDoor.Sx

/-- a store whose watches are in order: T0 is what level 0 has, G what is given, A the rows -/
structure SF (n : Nat) (T0 G : List Nat) (A : List (Option (List Nat))) (s : St) : Prop where
  I : LkI n s
  W : WOK s.rows (fun l => s.watches.getD l [])
  tt : TT s
  wy : s.why.length = n
  s0 : ∀ x ∈ T0, x ∈ s.trail
  lk : LK (s.trail.take s.done) (fun _ => True) s.rows s.trail
  l0 : LK T0 (fun _ => True) s.rows T0
  y : YOK T0.length G s
  rp : RP A s.rows
  dn : s.done ≤ s.trail.length
/-- .. behind it, whatever came of it -/
structure FB (n : Nat) (T0 G : List Nat) (A : List (Option (List Nat))) (s s' : St) : Prop where
  I : LkI n s'
  W : WOK s'.rows (fun l => s'.watches.getD l [])
  tt : TT s'
  wy : s'.why.length = n
  l0 : LK T0 (fun _ => True) s'.rows T0
  y : YOK T0.length G s'
  rp : RP A s'.rows
  dn : s'.done ≤ s'.trail.length
  tr : ∃ more, s'.trail = s.trail ++ more
  cuts : s'.cuts = s.cuts
  empty : s'.empty = s.empty
  single : s'.single = s.single
  dm : s.done ≤ s'.done
theorem FB.trans {n : Nat} {T0 G : List Nat} {A : List (Option (List Nat))} {a b c : St} (h : FB n T0 G A a b) (k : FB n T0 G A b c) : FB n T0 G A a c := by
  obtain ⟨m1, e1⟩ := h.tr
  obtain ⟨m2, e2⟩ := k.tr
  exact ⟨k.I, k.W, k.tt, k.wy, k.l0, k.y, k.rp, k.dn, ⟨m1 ++ m2, by rw [e2, e1, List.append_assoc]⟩, k.cuts.trans h.cuts, k.empty.trans h.empty, k.single.trans h.single, Nat.le_trans h.dm k.dm⟩
theorem SF.fb {n : Nat} {T0 G : List Nat} {A : List (Option (List Nat))} {s : St} (h : SF n T0 G A s) : FB n T0 G A s s := ⟨h.I, h.W, h.tt, h.wy, h.l0, h.y, h.rp, h.dn, ⟨[], by simp⟩, rfl, rfl, rfl, Nat.le_refl _⟩
/-- a row that has only false literals -/
def BadRow (s : St) : Prop := ∃ (r : Nat) (c : List Nat), s.rows[r]? = some (some c) ∧ ∀ x ∈ c, opp x ∈ s.trail

theorem upd_self (W : Nat → List (Nat × Nat)) (l : Nat) : upd W l (W l) = W := by
  funext k
  unfold upd
  split
  · rename_i e; rw [e]
  · rfl
theorem wset_upd {s : St} {no : Nat} {M : List (Nat × Nat)} (h : no < s.watches.length) : (fun l => (wset s no M).watches.getD l []) = upd (fun l => s.watches.getD l []) no M := by
  funext k
  exact wset_getD h
theorem WOK.eq {rows : List (Option (List Nat))} {W W' : Nat → List (Nat × Nat)} (h : WOK rows W) (e : W = W') : WOK rows W' := e ▸ h

theorem next_sem {n : Nat} {T0 G : List Nat} {A : List (Option (List Nat))} {s : St} (h : SF n T0 G A s) (hd : s.done < s.trail.length) :
    FB n T0 G A s (nextS s).1 ∧ ((nextS s).2 = -1 → SF n T0 G A (nextS s).1) ∧ ((nextS s).2 ≠ -1 → BadRow (nextS s).1) := by
  obtain ⟨l, hl⟩ : ∃ l, s.trail[s.done]? = some l := ⟨_, List.getElem?_eq_getElem hd⟩
  have hlg : s.trail.getD s.done 0 = l := by rw [List.getD_eq_getElem?_getD, hl]; rfl
  have hlm : l ∈ s.trail := List.mem_of_getElem? hl
  have hno : opp l < 2 * n := opp_lt (h.I.tr.lt l hlm)
  have hnt : s.truth.getD (opp l) 0 = -1 := (h.I.tr.tr l hlm).2
  have hI' := h.I.done (s.done + 1)
  have hLS : LS n (opp l) (wsum s) (s.trail.take s.done) T0 G A { s with done := s.done + 1 } [] (s.watches.getD (opp l) []) :=
    ⟨hI'.start hnt, by rw [List.nil_append, upd_self]; exact h.W, ⟨h.tt.pos, h.tt.neg⟩, h.wy, fun x hx => List.mem_of_mem_take hx, h.s0, fun r c i h1 h2 h3 h4 _ => h.lk r c i h1 h2 h3 h4 trivial, fun _ _ _ hm => by simp at hm, h.l0, h.y, h.rp⟩
  have hF := lookG_sem hno _ _ _ hLS
  have hK := lookG_keep hno _ _ _ hLS.J
  obtain ⟨R, hR⟩ : ∃ R, lookG (opp l) (s.watches.getD (opp l) []) [] { s with done := s.done + 1 } = R := ⟨_, rfl⟩
  have hN : nextS s = (wset R.1 (opp l) R.2.1, R.2.2) := by unfold nextS lookP; rw [hlg]; show (match lookG (opp l) (s.watches.getD (opp l) []) [] { s with done := s.done + 1 } with | (s', kept, bad) => _) = _; rw [hR]; rfl
  rw [hR] at hF hK
  rw [hN]
  have hIn : LkI n (wset R.1 (opp l) R.2.1) := by
    rcases hK with q | q
    · exact q.1
    · exact absurd hI'.sum q
  have hwl : opp l < R.1.watches.length := by
    have := hIn.wl
    simp only [wset, List.length_set] at this
    rw [this]; exact hno
  have hW : WOK R.1.rows (fun l' => (wset R.1 (opp l) R.2.1).watches.getD l' []) := hF.W.eq (wset_upd hwl).symm
  obtain ⟨more, hmore⟩ := hF.tr
  have hdn : R.1.done = s.done + 1 := hF.done
  have htk : R.1.trail.take (s.done + 1) = s.trail.take s.done ++ [l] := by
    rw [hmore]
    show (s.trail ++ more).take (s.done + 1) = _
    rw [List.take_append_of_le_length (by omega), List.take_succ_eq_append_getElem hd]
    congr 1
    rw [List.getElem?_eq_getElem hd] at hl
    simpa using hl
  have hdl : R.1.done ≤ R.1.trail.length := by rw [hdn, hmore]; simp; omega
  have hlk : R.2.2 = -1 → LK (R.1.trail.take R.1.done) (fun _ => True) R.1.rows R.1.trail := fun e r c i h1 h2 h3 h4 _ => by
    obtain ⟨o1, o2⟩ := hF.ok e
    have hfin : c.getD i 0 = opp l → ∃ x ∈ c, x ∈ R.1.trail := fun q => by
      obtain ⟨o, hm⟩ := hF.W.wat r c i h1 h2 h3
      rw [q, upd_same] at hm
      exact o2 r o c hm h1
    rw [hdn, htk] at h4
    rcases List.mem_append.1 h4 with q | q
    · by_cases e2 : c.getD i 0 = opp l
      · exact hfin e2
      · exact o1 r c i h1 h2 h3 q e2
    · have := List.mem_singleton.1 q
      exact hfin (by rw [← this, opp_opp])
  refine ⟨⟨hIn, hW, ⟨hF.tt.pos, hF.tt.neg⟩, hF.wy, hF.l0, hF.y, hF.rp, hdl, ⟨more, hmore⟩, hF.cuts, hF.empty, hF.single, by show s.done ≤ R.1.done; omega⟩, fun e => ⟨hIn, hW, ⟨hF.tt.pos, hF.tt.neg⟩, hF.wy, fun x hx => ?_, hlk e, hF.l0, hF.y, hF.rp, hdl⟩, fun e => ?_⟩
  · have := h.s0 x hx
    show x ∈ R.1.trail
    rw [hmore]
    exact List.mem_append_left _ this
  · obtain ⟨r, c, _, q2, q3⟩ := hF.ng e
    exact ⟨r, c, q2, q3⟩

theorem followS_sem {n : Nat} {T0 G : List Nat} {A : List (Option (List Nat))} : ∀ (f : Nat) (s : St) (R : St × Int), SF n T0 G A s → followS f s = some R →
    FB n T0 G A s R.1 ∧ (R.2 = -1 → SF n T0 G A R.1 ∧ R.1.done = R.1.trail.length) ∧ (R.2 ≠ -1 → BadRow R.1)
  | 0, s, R, _, h => by simp [followS] at h
  | f + 1, s, R, hS, h => by
    unfold followS at h
    by_cases hd : s.done < s.trail.length
    · rw [if_pos hd] at h
      obtain ⟨h1, h2, h3⟩ := next_sem hS hd
      unfold nextS at h1 h2 h3
      by_cases hb : (lookP { s with done := s.done + 1 } (opp (s.trail.getD s.done 0))).2 ≠ -1
      · rw [if_pos hb] at h
        cases h
        exact ⟨h1, fun e => absurd e hb, fun _ => h3 hb⟩
      · rw [if_neg hb] at h
        have hb' := Classical.not_not.1 hb
        obtain ⟨q1, q2, q3⟩ := followS_sem f _ R (h2 hb') h
        exact ⟨h1.trans q1, q2, q3⟩
    · rw [if_neg hd] at h
      cases h
      exact ⟨hS.fb, fun _ => ⟨hS, by have := hS.dn; show s.done = s.trail.length; omega⟩, fun e => absurd rfl e⟩

/-- one literal more is true -/
theorem SF.believe {n : Nat} {T0 G : List Nat} {A : List (Option (List Nat))} {s : St} (h : SF n T0 G A s) {l : Nat} (hl : l < 2 * n) (h0 : s.truth.getD l 0 = 0) {y : Int} (hw : (T0.length ≤ s.trail.length ∧ l ∈ G) ∨ ∃ (r : Nat) (c : List Nat), y = (r : Int) ∧ s.rows[r]? = some (some c) ∧ l ∈ c ∧ ∀ x ∈ c, x ≠ l → opp x ∈ s.trail) : SF n T0 G A (believeP s l y) := by
  have hgr : ∀ x ∈ s.trail, x ∈ (believeP s l y).trail := fun x hx => List.mem_append_left _ hx
  refine ⟨⟨h.I.tr.believe hl h0 y, h.I.cuts, h.I.wl, h.I.wat, h.I.lit, h.I.sum, h.I.rw_⟩, h.W, h.tt.believe h.I.tr.len hl y, by show (s.why.set _ _).length = n; rw [List.length_set]; exact h.wy, fun x hx => hgr x (h.s0 x hx), ?_, h.l0, h.y.believe h.I.tr h.wy hl h0 hw, h.rp, ?_⟩
  · have : (believeP s l y).trail.take (believeP s l y).done = s.trail.take s.done := by
      show (s.trail ++ [l]).take s.done = _
      rw [List.take_append_of_le_length h.dn]
    rw [this]
    exact h.lk.mono hgr
  · show s.done ≤ (s.trail ++ [l]).length
    have := h.dn
    simp; omega
theorem SF.fb_believe {n : Nat} {T0 G : List Nat} {A : List (Option (List Nat))} {s : St} {l : Nat} {y : Int} (h : SF n T0 G A (believeP s l y)) : FB n T0 G A s (believeP s l y) :=
  ⟨h.I, h.W, h.tt, h.wy, h.l0, h.y, h.rp, h.dn, ⟨[l], rfl⟩, rfl, rfl, rfl, Nat.le_refl _⟩

/-- the rows of one literal -/
theorem singles_sem {n : Nat} {T0 G : List Nat} {A : List (Option (List Nat))} : ∀ (rs : List Nat) (s : St), SF n T0 G A s → (∀ r ∈ rs, ∃ l, s.rows[r]? = some (some [l])) →
    FB n T0 G A s (singlesP s rs).1 ∧ (singlesP s rs).1.rows = s.rows ∧ (singlesP s rs).1.done = s.done ∧ ((singlesP s rs).2 = true → SF n T0 G A (singlesP s rs).1 ∧ ∀ r ∈ rs, ∀ l, s.rows[r]? = some (some [l]) → l ∈ (singlesP s rs).1.trail) ∧ ((singlesP s rs).2 = false → BadRow (singlesP s rs).1)
  | [], s, h, _ => ⟨h.fb, rfl, rfl, fun _ => ⟨h, by simp⟩, fun q => by simp [singlesP] at q⟩
  | r :: rs, s, h, hr => by
    obtain ⟨l, hl⟩ := hr r (List.mem_cons_self)
    have hg : s.rows.getD r none = some [l] := by rw [List.getD_eq_getElem?_getD, hl]; rfl
    have hl2 : l < 2 * n := h.I.lit r [l] hl l (by simp)
    unfold singlesP
    rw [hg]
    simp only
    by_cases h0 : s.truth.getD l 0 = 0
    · rw [if_pos h0]
      have hb := h.believe hl2 h0 (y := (r : Int)) (.inr ⟨r, [l], rfl, hl, by simp, fun x hx hxl => absurd (List.mem_singleton.1 hx) hxl⟩)
      obtain ⟨q1, q2, q3, q4, q5⟩ := singles_sem rs (believeP s l (r : Int)) hb (fun r' hr' => hr r' (List.mem_cons_of_mem _ hr'))
      obtain ⟨m, hm⟩ := q1.tr
      refine ⟨hb.fb_believe.trans q1, q2, q3, fun e => ⟨(q4 e).1, fun r' hr' l' hl' => ?_⟩, q5⟩
      rcases List.mem_cons.1 hr' with q | q
      · rw [q, hl] at hl'
        have : l = l' := by simpa using hl'
        rw [← this, hm]
        exact List.mem_append_left _ (List.mem_append_right _ (List.mem_singleton.2 rfl))
      · exact (q4 e).2 r' q l' hl'
    · rw [if_neg h0]
      by_cases hp : 0 < s.truth.getD l 0
      · rw [if_pos hp]
        obtain ⟨q1, q2, q3, q4, q5⟩ := singles_sem rs s h (fun r' hr' => hr r' (List.mem_cons_of_mem _ hr'))
        obtain ⟨m, hm⟩ := q1.tr
        refine ⟨q1, q2, q3, fun e => ⟨(q4 e).1, fun r' hr' l' hl' => ?_⟩, q5⟩
        rcases List.mem_cons.1 hr' with q | q
        · rw [q, hl] at hl'
          have : l = l' := by simpa using hl'
          rw [← this, hm]
          exact List.mem_append_left _ (h.tt.pos l hp)
        · exact (q4 e).2 r' q l' hl'
      · rw [if_neg hp]
        exact ⟨h.fb, rfl, rfl, fun q => by simp at q, fun _ => ⟨r, [l], hl, fun x hx => by rw [List.mem_singleton.1 hx]; exact h.tt.neg l (by omega)⟩⟩

/-- the clauses of a store -/
def Cl (s : St) (c : List Nat) : Prop := (∃ r : Nat, s.rows[r]? = some (some c)) ∨ (c = [] ∧ 0 < s.empty)
/-- what is true follows -/
theorem trail_der {k : Nat} {G : List Nat} {s : St} (h : YOK k G s) : ∀ (i l : Nat), s.trail[i]? = some l → NDer (Cl s) G l := by
  intro i
  induction i using Nat.strongRecOn with
  | _ i ih =>
    intro l hl
    rcases h i l hl with q | ⟨r, c, _, h2, h3, h4⟩
    · exact NDer.given q.2
    · refine NDer.step (.inl ⟨r, h2⟩) h3 fun x hx hxl => ?_
      obtain ⟨j, hj, he⟩ := List.getElem_of_mem (h4 x hx hxl)
      simp only [List.length_take] at hj
      refine ih j (by omega) _ ?_
      rw [List.getElem_take] at he
      rw [List.getElem?_eq_getElem (by omega), he]
theorem trail_mem_der {k : Nat} {G : List Nat} {s : St} (h : YOK k G s) {l : Nat} (hl : l ∈ s.trail) : NDer (Cl s) G l := by
  obtain ⟨j, hj, he⟩ := List.getElem_of_mem hl
  exact trail_der h j l (by rw [List.getElem?_eq_getElem hj, he])
theorem bad_cannot {k : Nat} {G : List Nat} {s : St} (h : YOK k G s) (hb : BadRow s) : NCannot (Cl s) G := by
  obtain ⟨r, c, h1, h2⟩ := hb
  exact .inr ⟨c, .inl ⟨r, h1⟩, fun x hx => trail_mem_der h (h2 x hx)⟩
/-- all was looked at: nothing else follows -/
theorem closed_N {n : Nat} {T0 G : List Nat} {A : List (Option (List Nat))} {s : St} (h : SF n T0 G A s) (hd : s.done = s.trail.length) (hG : ∀ l ∈ G, l ∈ s.trail) (he : s.empty = 0) (h1 : ∀ (r l : Nat), s.rows[r]? = some (some [l]) → l ∈ s.trail) (h0 : ∀ r : Nat, s.rows[r]? ≠ some (some [])) :
    (∀ l, NDer (Cl s) G l → l ∈ s.trail) ∧ ¬ NCannot (Cl s) G := by
  have hcon : ∀ l, l ∈ s.trail → opp l ∈ s.trail → False := fun l q1 q2 => by
    have e1 := (h.I.tr.tr l q1).1
    have e2 := (h.I.tr.tr _ q2).2
    rw [opp_opp] at e2
    omega
  have hlk := h.lk
  rw [hd, List.take_length] at hlk
  -- no row has all but one false
  have key : ∀ (r : Nat) (c : List Nat) (l : Nat), s.rows[r]? = some (some c) → (∀ x ∈ c, x ≠ l → opp x ∈ s.trail) → l ∈ s.trail ∧ l ∈ c := fun r c l hc hx => by
    match c, hc with
    | [], hc => exact absurd hc (h0 r)
    | [a], hc =>
      have ha := h1 r a hc
      by_cases e : a = l
      · rw [← e]; exact ⟨ha, by simp⟩
      · exact (hcon a ha (hx a (by simp) e)).elim
    | a :: b :: t, hc =>
      have hnd := h.W.nd r _ hc
      simp only [List.nodup_cons, List.mem_cons, not_or] at hnd
      have hab : a ≠ b := hnd.1.1
      have hex : ∃ x ∈ a :: b :: t, x ∈ s.trail := by
        by_cases e : a = l
        · exact hlk r _ 1 hc (by simp) (by omega) (hx b (by simp) (fun q => hab (e.trans q.symm))) trivial
        · exact hlk r _ 0 hc (by simp) (by omega) (hx a (by simp) e) trivial
      obtain ⟨x, q1, q2⟩ := hex
      by_cases e : x = l
      · rw [← e]; exact ⟨q2, q1⟩
      · exact (hcon x q2 (hx x q1 e)).elim
  have hder : ∀ l, NDer (Cl s) G l → l ∈ s.trail := fun l hl => by
    refine hl (· ∈ s.trail) ⟨hG, fun c hc l hlc hx => ?_⟩
    rcases hc with ⟨r, hc⟩ | ⟨_, hc⟩
    · exact (key r c l hc hx).1
    · omega
  refine ⟨hder, ?_⟩
  rintro (⟨l, q1, q2⟩ | ⟨c, hc, hx⟩)
  · exact hcon l (hder l q1) (hder _ q2)
  · rcases hc with ⟨r, hc⟩ | ⟨_, hc⟩
    · have hx' : ∀ x ∈ c, opp x ∈ s.trail := fun x hx' => hder _ (hx x hx')
      match c, hc with
      | [], hc => exact h0 r hc
      | a :: t, hc =>
        have := (key r _ a hc (fun x q _ => hx' x q)).1
        exact hcon a this (hx' a (by simp))
    · omega

end Go.Proofs.YtbicefgjompnoaaDoor.Sx
/- A clause that comes in (plain). -/
namespace Go.Proofs.YtbicefgjompnoaaDoor.Sx

theorem WOK.one {rows : List (Option (List Nat))} {W : Nat → List (Nat × Nat)} (h : WOK rows W) (hW : ∀ l p, p ∈ W l → p.1 < rows.length) (a : Nat) : WOK (rows ++ [some [a]]) W := by
  have hget : ∀ r' c, (rows ++ [some [a]])[r']? = some (some c) → (r' = rows.length ∧ c = [a]) ∨ rows[r']? = some (some c) := fun r' c hc => by
    by_cases hlt : r' < rows.length
    · rw [List.getElem?_append_left hlt] at hc; exact .inr hc
    · have := (List.getElem?_eq_some_iff.1 hc).1
      simp at this
      obtain rfl : r' = rows.length := by omega
      have : [a] = c := by simpa using hc
      exact .inl ⟨rfl, this.symm⟩
  refine ⟨fun r' c i hc h2 hi => ?_, fun l r' o c hm hc => ?_, h.uq, fun r' c hc => ?_⟩
  · rcases hget r' c hc with ⟨_, rfl⟩ | q
    · simp at h2
    · exact h.wat r' c i q h2 hi
  · rcases hget r' c hc with ⟨rfl, rfl⟩ | q
    · have := hW l _ hm; simp at this
    · exact h.oth l r' o c hm q
  · rcases hget r' c hc with ⟨_, rfl⟩ | q
    · simp
    · exact h.nd r' c q
theorem WOK.two {rows : List (Option (List Nat))} {W : Nat → List (Nat × Nat)} {a b : Nat} {t : List Nat} (h : WOK rows W) (hW : ∀ l p, p ∈ W l → p.1 < rows.length) (hnd : (a :: b :: t).Nodup) : WOK (rows ++ [some (a :: b :: t)]) (upd (upd W a (W a ++ [(rows.length, b)])) b (W b ++ [(rows.length, a)])) := by
  have hab : a ≠ b := by simp only [List.nodup_cons, List.mem_cons, not_or] at hnd; exact hnd.1.1
  have hget : ∀ r' c, (rows ++ [some (a :: b :: t)])[r']? = some (some c) → (r' = rows.length ∧ c = a :: b :: t) ∨ rows[r']? = some (some c) := fun r' c hc => by
    by_cases hlt : r' < rows.length
    · rw [List.getElem?_append_left hlt] at hc; exact .inr hc
    · have := (List.getElem?_eq_some_iff.1 hc).1
      simp at this
      obtain rfl : r' = rows.length := by omega
      have : a :: b :: t = c := by simpa using hc
      exact .inl ⟨rfl, this.symm⟩
  have hup : ∀ l p, p ∈ W l → p ∈ upd (upd W a (W a ++ [(rows.length, b)])) b (W b ++ [(rows.length, a)]) l := fun l p hp => by
    by_cases e : l = b
    · subst e; rw [upd_same]; simp [hp]
    · rw [upd_other _ _ e]
      by_cases e2 : l = a
      · subst e2; rw [upd_same]; simp [hp]
      · rw [upd_other _ _ e2]; exact hp
  have hdn : ∀ l p, p ∈ upd (upd W a (W a ++ [(rows.length, b)])) b (W b ++ [(rows.length, a)]) l → p ∈ W l ∨ (l = a ∧ p = (rows.length, b)) ∨ (l = b ∧ p = (rows.length, a)) := fun l p hp => by
    by_cases e : l = b
    · subst e
      rw [upd_same] at hp
      rcases List.mem_append.1 hp with q | q
      · exact .inl q
      · exact .inr (.inr ⟨rfl, List.mem_singleton.1 q⟩)
    · rw [upd_other _ _ e] at hp
      by_cases e2 : l = a
      · subst e2
        rw [upd_same] at hp
        rcases List.mem_append.1 hp with q | q
        · exact .inl q
        · exact .inr (.inl ⟨rfl, List.mem_singleton.1 q⟩)
      · rw [upd_other _ _ e2] at hp; exact .inl hp
  refine ⟨fun r' c i hc h2 hi => ?_, fun l r' o c hm hc => ?_, fun l => ?_, fun r' c hc => ?_⟩
  · rcases hget r' c hc with ⟨rfl, rfl⟩ | q
    · have hi : i = 0 ∨ i = 1 := by omega
      rcases hi with rfl | rfl
      · exact ⟨b, by rw [List.getD_cons_zero, upd_other _ _ hab, upd_same]; simp⟩
      · exact ⟨a, by rw [List.getD_cons_succ, List.getD_cons_zero, upd_same]; simp⟩
    · obtain ⟨o, ho⟩ := h.wat r' c i q h2 hi
      exact ⟨o, hup _ _ ho⟩
  · rcases hdn l _ hm with q | ⟨e, q⟩ | ⟨e, q⟩
    · rcases hget r' c hc with ⟨rfl, _⟩ | z
      · have := hW l _ q; simp at this
      · exact h.oth l r' o c q z
    · cases q
      rcases hget _ c hc with ⟨_, rfl⟩ | z
      · exact ⟨by simp, by simp, .inl (by rw [e]; rfl)⟩
      · have := (List.getElem?_eq_some_iff.1 z).1; omega
    · cases q
      rcases hget _ c hc with ⟨_, rfl⟩ | z
      · exact ⟨by simp, by simp, .inr (by rw [e]; rfl)⟩
      · have := (List.getElem?_eq_some_iff.1 z).1; omega
  · have key : ∀ (l x : Nat), ((W l ++ [(rows.length, x)]).map Prod.fst).Nodup := fun l x => by
      rw [List.map_append, List.nodup_append]
      refine ⟨h.uq l, by simp, fun p hp q hq => ?_⟩
      simp at hq
      obtain ⟨z, hz, rfl⟩ := List.mem_map.1 hp
      have := hW l z hz
      omega
    by_cases e : l = b
    · subst e; rw [upd_same]; exact key l a
    · rw [upd_other _ _ e]
      by_cases e2 : l = a
      · subst e2; rw [upd_same]; exact key l b
      · rw [upd_other _ _ e2]; exact h.uq l
  · rcases hget r' c hc with ⟨_, rfl⟩ | q
    · exact hnd
    · exact h.nd r' c q

theorem POK.app {n : Nat} {s : St} {p : Nat × Nat} (h : POK n s p) {s' : St} (c : List Nat) (hs : s'.rows = s.rows ++ [some c]) : POK n s' p := by
  refine ⟨h.1, by rw [hs]; simp; have := h.2.1; omega, fun d hd => ?_⟩
  rw [hs, List.getElem?_append_left h.2.1] at hd
  exact h.2.2 d hd
theorem LK.app {T D : List Nat} {P : Nat → Prop} {rows : List (Option (List Nat))} (h : LK T P rows D) (c : List Nat) (hc : 2 ≤ c.length → ∀ i, i < 2 → opp (c.getD i 0) ∈ T → P (c.getD i 0) → ∃ x ∈ c, x ∈ D) : LK T P (rows ++ [some c]) D := by
  intro r d i hd h2 hi h4 h5
  by_cases hlt : r < rows.length
  · rw [List.getElem?_append_left hlt] at hd
    exact h r d i hd h2 hi h4 h5
  · have := (List.getElem?_eq_some_iff.1 hd).1
    simp at this
    obtain rfl : r = rows.length := by omega
    have : c = d := by simpa using hd
    subst this
    exact hc h2 i hi h4 h5
theorem YOK.app {k : Nat} {G : List Nat} {s s' : St} (h : YOK k G s) (c : List Nat) (hr : s'.rows = s.rows ++ [some c]) (ht : s'.trail = s.trail) (hw : s'.why = s.why) : YOK k G s' := by
  intro i l hi
  rw [ht] at hi
  rcases h i l hi with q | ⟨r, d, h1, h2, h3, h4⟩
  · exact .inl q
  · refine .inr ⟨r, d, by rw [hw]; exact h1, ?_, h3, by rw [ht]; exact h4⟩
    rw [hr, List.getElem?_append_left (List.getElem?_eq_some_iff.1 h2).1]
    exact h2

/-- rows of one literal are told apart; no row is empty -/
structure RW (s : St) : Prop where
  one : ∀ r ∈ s.single, (∃ l, s.rows[r]? = some (some [l])) ∨ s.rows[r]? = some none
  all1 : ∀ (r l : Nat), s.rows[r]? = some (some [l]) → r ∈ s.single
  no0 : ∀ r : Nat, s.rows[r]? ≠ some (some [])
  nd : s.single.Nodup
  lt : ∀ r ∈ s.single, r < s.rows.length
theorem RW.few {s : St} (h : RW s) : s.single.length ≤ s.rows.length := holes _ _ h.nd h.lt

theorem addP_rows (s : St) {c : List Nat} (h : c ≠ []) : (addP s c).1.rows = s.rows ++ [some c] := by
  match c, h with
  | [a], _ => rfl
  | a :: b :: t, _ => rfl
theorem addP_same (s : St) (c : List Nat) : (addP s c).1.truth = s.truth ∧ (addP s c).1.trail = s.trail ∧ (addP s c).1.why = s.why ∧ (addP s c).1.done = s.done ∧ (addP s c).1.cuts = s.cuts ∧ (addP s c).1.depth = s.depth := by
  match c with
  | [] => exact ⟨rfl, rfl, rfl, rfl, rfl, rfl⟩
  | [a] => exact ⟨rfl, rfl, rfl, rfl, rfl, rfl⟩
  | a :: b :: t => exact ⟨rfl, rfl, rfl, rfl, rfl, rfl⟩

theorem addP_W {n : Nat} {s : St} (h : LkI n s) (hW : WOK s.rows (fun l => s.watches.getD l [])) {c : List Nat} (hne : c ≠ []) (hnd : c.Nodup) (hl : ∀ x ∈ c, x < 2 * n) (hrw : s.rows.length + 1 ≤ 1000000000) :
    LkI n (addP s c).1 ∧ WOK (addP s c).1.rows (fun l => (addP s c).1.watches.getD l []) := by
  have hlt : ∀ l p, p ∈ s.watches.getD l [] → p.1 < s.rows.length := fun l p hp => (h.wat l p hp).2.1
  have hlit : ∀ (r : Nat) (d : List Nat), (s.rows ++ [some c])[r]? = some (some d) → ∀ x ∈ d, x < 2 * n := fun r d hd => by
    by_cases hr : r < s.rows.length
    · rw [List.getElem?_append_left hr] at hd; exact h.lit r d hd
    · have := (List.getElem?_eq_some_iff.1 hd).1
      simp at this
      obtain rfl : r = s.rows.length := by omega
      have : c = d := by simpa using hd
      rw [← this]; exact hl
  match c, hne with
  | [a], _ =>
    refine ⟨⟨⟨h.tr.len, h.tr.nd, h.tr.lt, h.tr.tr⟩, h.cuts, h.wl, fun l p hp => (h.wat l p hp).app [a] rfl, hlit, ?_, ?_⟩, hW.one hlt a⟩
    · have := h.sum
      show wsum s ≤ 2 * (s.rows ++ [some [a]]).length
      simp; omega
    · show (s.rows ++ [some [a]]).length ≤ _
      simp; omega
  | a :: b :: t, _ =>
    have ha : a < 2 * n := hl a (by simp)
    have hb : b < 2 * n := hl b (by simp)
    obtain ⟨s1, hs1⟩ : ∃ s1, ({ s with rows := s.rows ++ [some (a :: b :: t)] } : St) = s1 := ⟨_, rfl⟩
    have e1 : (addP s (a :: b :: t)).1 = pushW (pushW s1 a s.rows.length b) b s.rows.length a := by rw [← hs1]; rfl
    have hw1 : s1.watches = s.watches := by rw [← hs1]
    have ha1 : a < s1.watches.length := by rw [hw1, h.wl]; exact ha
    have hb1 : b < (pushW s1 a s.rows.length b).watches.length := by simp [pushW, hw1, h.wl, hb]
    have hab : a ≠ b := by simp only [List.nodup_cons, List.mem_cons, not_or] at hnd; exact hnd.1.1
    have eW : (fun l => (pushW (pushW s1 a s.rows.length b) b s.rows.length a).watches.getD l []) = upd (upd (fun l => s.watches.getD l []) a (s.watches.getD a [] ++ [(s.rows.length, b)])) b (s.watches.getD b [] ++ [(s.rows.length, a)]) := by
      funext l
      rw [pushW_getD hb1, pushW_getD ha1, if_neg (Ne.symm hab), hw1]
      unfold upd
      split
      · rfl
      · rw [pushW_getD ha1, hw1]
    have hrows : (pushW (pushW s1 a s.rows.length b) b s.rows.length a).rows = s.rows ++ [some (a :: b :: t)] := by rw [← hs1]; rfl
    have hWn := (hW.two hlt hnd).eq eW.symm
    rw [e1]
    refine ⟨⟨⟨by rw [← hs1]; exact h.tr.len, by rw [← hs1]; exact h.tr.nd, by rw [← hs1]; exact h.tr.lt, by rw [← hs1]; exact h.tr.tr⟩, by rw [← hs1]; exact h.cuts, by simp [pushW, hw1, h.wl], fun l p hp => ?_, by rw [hrows]; exact hlit, ?_, by rw [hrows]; simp; omega⟩, by rw [hrows]; exact hWn⟩
    · have hp' : p ∈ (fun l => (pushW (pushW s1 a s.rows.length b) b s.rows.length a).watches.getD l []) l := hp
      rw [eW] at hp'
      have hnew : ∀ x, x < 2 * n → POK n (pushW (pushW s1 a s.rows.length b) b s.rows.length a) (s.rows.length, x) := fun x hx => ⟨hx, by rw [hrows]; simp, fun d hd => by
        rw [hrows] at hd
        have : a :: b :: t = d := by simpa using hd
        rw [← this]; simp⟩
      have hold : ∀ l' q, q ∈ s.watches.getD l' [] → POK n (pushW (pushW s1 a s.rows.length b) b s.rows.length a) q := fun l' q hq => (h.wat l' q hq).app _ hrows
      unfold upd at hp'
      split at hp'
      · rcases List.mem_append.1 hp' with q | q
        · exact hold b p q
        · rw [List.mem_singleton.1 q]; exact hnew a ha
      · split at hp'
        · rcases List.mem_append.1 hp' with q | q
          · exact hold a p q
          · rw [List.mem_singleton.1 q]; exact hnew b hb
        · exact hold l p hp'
    · have h1 := sum_set s1.watches a (s1.watches.getD a [] ++ [(s.rows.length, b)]) ha1
      have h2 := sum_set (pushW s1 a s.rows.length b).watches b ((pushW s1 a s.rows.length b).watches.getD b [] ++ [(s.rows.length, a)]) hb1
      have h3 := h.sum
      have e3 : wsum (pushW (pushW s1 a s.rows.length b) b s.rows.length a) = (((pushW s1 a s.rows.length b).watches.set b ((pushW s1 a s.rows.length b).watches.getD b [] ++ [(s.rows.length, a)])).map List.length).sum := rfl
      have e4 : ((pushW s1 a s.rows.length b).watches.map List.length).sum = ((s1.watches.set a (s1.watches.getD a [] ++ [(s.rows.length, b)])).map List.length).sum := rfl
      have e5 : wsum s = (s1.watches.map List.length).sum := by rw [hw1]; rfl
      rw [hrows]
      simp only [List.length_append, List.length_cons, List.length_nil] at h1 h2 ⊢
      omega

theorem SF.add {n : Nat} {T0 G : List Nat} {A : List (Option (List Nat))} {s : St} (h : SF n T0 G A s) {c : List Nat} (hne : c ≠ []) (hnd : c.Nodup) (hl : ∀ x ∈ c, x < 2 * n) (hrw : s.rows.length + 1 ≤ 1000000000)
    (hk : 2 ≤ c.length → ∀ i, i < 2 → opp (c.getD i 0) ∈ s.trail.take s.done → ∃ x ∈ c, x ∈ s.trail) (hk0 : 2 ≤ c.length → ∀ i, i < 2 → opp (c.getD i 0) ∈ T0 → ∃ x ∈ c, x ∈ T0) : SF n T0 G (addP s c).1.rows (addP s c).1 := by
  obtain ⟨h1, h2⟩ := addP_W h.I h.W hne hnd hl hrw
  obtain ⟨e1, e2, e3, e4, e5, _⟩ := addP_same s c
  have er := addP_rows s hne
  refine ⟨h1, h2, ⟨by rw [e1, e2]; exact h.tt.pos, by rw [e1, e2]; exact h.tt.neg⟩, by rw [e3]; exact h.wy, by rw [e2]; exact h.s0, ?_, ?_, h.y.app c er e2 e3, RP.refl _, by rw [e4, e2]; exact h.dn⟩
  · rw [e2, e4, er]
    exact h.lk.app c (fun q i hi hm _ => hk q i hi hm)
  · rw [er]
    exact h.l0.app c (fun q i hi hm _ => hk0 q i hi hm)
theorem RW.add {s : St} (h : RW s) (c : List Nat) : RW (addP s c).1 := by
  have key : ∀ (R : List (Option (List Nat))) (r : Nat) (d : Option (List Nat)), r < R.length → ∀ x, (R ++ [x])[r]? = some d ↔ R[r]? = some d := fun R r d hr x => by rw [List.getElem?_append_left hr]
  have last : ∀ (R : List (Option (List Nat))) (x d : Option (List Nat)) (r : Nat), (R ++ [x])[r]? = some d → r < R.length ∧ R[r]? = some d ∨ r = R.length ∧ x = d := fun R x d r hd => by
    by_cases hr : r < R.length
    · exact .inl ⟨hr, (key R r d hr x).1 hd⟩
    · have := (List.getElem?_eq_some_iff.1 hd).1
      simp at this
      obtain rfl : r = R.length := by omega
      exact .inr ⟨rfl, by simpa using hd⟩
  match c with
  | [] => exact ⟨h.one, h.all1, h.no0, h.nd, h.lt⟩
  | [a] =>
    refine ⟨fun r hr => ?_, fun r l hl => ?_, fun r hr => ?_, ?_, fun r hr => ?_⟩
    · rcases List.mem_append.1 hr with q | q
      · have hlt := h.lt r q
        rcases h.one r q with ⟨l, z⟩ | z
        · exact .inl ⟨l, (key _ _ _ hlt _).2 z⟩
        · exact .inr ((key _ _ _ hlt _).2 z)
      · rw [List.mem_singleton.1 q]
        exact .inl ⟨a, by show (s.rows ++ [some [a]])[s.rows.length]? = _; simp⟩
    · rcases last _ _ _ _ hl with ⟨_, q⟩ | ⟨rfl, _⟩
      · exact List.mem_append_left _ (h.all1 r l q)
      · exact List.mem_append_right _ (List.mem_singleton.2 rfl)
    · rcases last _ _ _ _ hr with ⟨_, q⟩ | ⟨_, q⟩
      · exact h.no0 r q
      · simp at q
    · show (s.single ++ [s.rows.length]).Nodup
      rw [List.nodup_append]
      refine ⟨h.nd, by simp, fun x hx y hy => ?_⟩
      simp at hy
      have := h.lt x hx
      omega
    · show r < (s.rows ++ [some [a]]).length
      rcases List.mem_append.1 hr with q | q
      · have := h.lt r q; simp; omega
      · rw [List.mem_singleton.1 q]; simp
  | a :: b :: t =>
    refine ⟨fun r hr => ?_, fun r l hl => ?_, fun r hr => ?_, h.nd, fun r hr => ?_⟩
    · have hlt := h.lt r hr
      rcases h.one r hr with ⟨l, z⟩ | z
      · exact .inl ⟨l, (key _ _ _ hlt _).2 z⟩
      · exact .inr ((key _ _ _ hlt _).2 z)
    · rcases last _ _ _ _ hl with ⟨_, q⟩ | ⟨_, q⟩
      · exact h.all1 r l q
      · simp at q
    · rcases last _ _ _ _ hr with ⟨_, q⟩ | ⟨_, q⟩
      · exact h.no0 r q
      · simp at q
    · show r < (s.rows ++ [some (a :: b :: t)]).length
      have := h.lt r hr
      simp; omega

/-- clauses, one by one -/
def addAll (s : St) : List (List Nat) → St
  | [] => s
  | c :: cs => addAll (if alwaysP c then s else (addP s c).1) cs
theorem addAll_snoc (s : St) (cs : List (List Nat)) (c : List Nat) : addAll s (cs ++ [c]) = if alwaysP c then addAll s cs else (addP (addAll s cs) c).1 := by
  induction cs generalizing s with
  | nil => rfl
  | cons d cs ih => exact ih _

end Go.Proofs.YtbicefgjompnoaaDoor.Sx
