/- A book of clauses (plain): what is taken back, what must be. -/
import Derived.Test.YtbicefgjompnoaaDoorF14
import Derived.Test.YtbicefgjompnoaaDoorF16
import Derived.Test.YtbicefgjompnoaaDoorF22
namespace Go.Proofs.YtbicefgjompnoaaDoor.Sx

/-- what is taken back is neither true nor false -/
theorem unP_len (ls : List Nat) (t : List Int) : (unP t ls).length = t.length := by
  unfold unP
  induction ls generalizing t with
  | nil => rfl
  | cons l ls ih => rw [List.foldl_cons, ih]; simp
theorem unP_getD {n : Nat} : ∀ (ls : List Nat) (t : List Int), t.length = 2 * n → (∀ l ∈ ls, l < 2 * n) → ∀ k, (unP t ls).getD k 0 = if k ∈ ls ∨ opp k ∈ ls then 0 else t.getD k 0
  | [], t, _, _, k => by simp [unP]
  | l :: ls, t, ht, hl, k => by
    have hll := hl l (List.mem_cons_self)
    have e : unP t (l :: ls) = unP ((t.set l 0).set (opp l) 0) ls := rfl
    rw [e, unP_getD ls _ (by simp [ht]) (fun x hx => hl x (List.mem_cons_of_mem _ hx)) k]
    have hg := set2_getD (t := t) (l := l) (k := k) (u := 0) (v := 0) (by rw [ht]; exact hll) (by rw [ht]; exact opp_lt hll)
    by_cases h1 : k ∈ ls ∨ opp k ∈ ls
    · rw [if_pos h1, if_pos (by rcases h1 with q | q; exact .inl (List.mem_cons_of_mem _ q); exact .inr (List.mem_cons_of_mem _ q))]
    · rw [if_neg h1, hg]
      by_cases h2 : k = opp l
      · rw [if_pos h2, if_pos (.inr (by rw [h2, opp_opp]; exact List.mem_cons_self))]
      · rw [if_neg h2]
        by_cases h3 : k = l
        · rw [if_pos h3, if_pos (.inl (by rw [h3]; exact List.mem_cons_self))]
        · rw [if_neg h3, if_neg]
          rintro (q | q)
          · rcases List.mem_cons.1 q with z | z
            · exact h3 z
            · exact h1 (.inl z)
          · rcases List.mem_cons.1 q with z | z
            · exact h2 (by rw [← z, opp_opp])
            · exact h1 (.inr z)

/-- a store, back at so many of what is true -/
theorem forget_tr {n k : Nat} {s : St} (h : TrOK n s) (ht : TT s) : TrOK n (forgetP s k) ∧ TT (forgetP s k) := by
  have hdl : ∀ l ∈ s.trail.drop k, l < 2 * n := fun l hl => h.lt l (List.mem_of_mem_drop hl)
  have hg := unP_getD (s.trail.drop k) s.truth h.len hdl
  have hsp : s.trail.take k ++ s.trail.drop k = s.trail := List.take_append_drop k s.trail
  -- what is kept is none of what is taken back
  have hdis : ∀ a b, a ∈ s.trail.take k → b ∈ s.trail.drop k → a / 2 ≠ b / 2 := fun a b ha hb e => by
    have := h.nd
    rw [← hsp, List.map_append, List.nodup_append] at this
    exact this.2.2 (a / 2) (List.mem_map.2 ⟨a, ha, rfl⟩) (b / 2) (List.mem_map.2 ⟨b, hb, rfl⟩) e
  have hno : ∀ l, l ∈ s.trail.take k → ¬ (l ∈ s.trail.drop k ∨ opp l ∈ s.trail.drop k) := fun l hl q => by
    rcases q with q | q
    · exact hdis l l hl q rfl
    · exact hdis l _ hl q (opp_half l).symm
  have hno2 : ∀ l, l ∈ s.trail.take k → ¬ (opp l ∈ s.trail.drop k ∨ opp (opp l) ∈ s.trail.drop k) := fun l hl q => by
    rw [opp_opp] at q
    exact hno l hl q.symm
  refine ⟨⟨?_, ?_, fun l hl => h.lt l (List.mem_of_mem_take hl), fun l hl => ?_⟩, ⟨fun l hl => ?_, fun l hl => ?_⟩⟩
  · show (unP s.truth (s.trail.drop k)).length = 2 * n
    rw [unP_len]; exact h.len
  · have := h.nd
    rw [← hsp, List.map_append, List.nodup_append] at this
    exact this.1
  · have hl' : l ∈ s.trail.take k := hl
    have := h.tr l (List.mem_of_mem_take hl')
    show (unP s.truth (s.trail.drop k)).getD l 0 = 1 ∧ (unP s.truth (s.trail.drop k)).getD (opp l) 0 = -1
    rw [hg, hg, if_neg (hno l hl'), if_neg (hno2 l hl')]
    exact this
  · have hl' : 0 < (unP s.truth (s.trail.drop k)).getD l 0 := hl
    rw [hg] at hl'
    split at hl'
    · omega
    · rename_i q
      have hm := ht.pos l hl'
      rw [← hsp] at hm
      rcases List.mem_append.1 hm with z | z
      · exact z
      · exact absurd (.inl z) q
  · have hl' : (unP s.truth (s.trail.drop k)).getD l 0 < 0 := hl
    rw [hg] at hl'
    split at hl'
    · omega
    · rename_i q
      have hm := ht.neg l hl'
      rw [← hsp] at hm
      rcases List.mem_append.1 hm with z | z
      · exact z
      · exact absurd (.inr z) q
theorem LkI.forget {n k : Nat} {s : St} (h : LkI n s) (ht : TT s) : LkI n (forgetP s k) := ⟨(forget_tr h.tr ht).1, h.cuts, h.wl, h.wat, h.lit, h.sum, h.rw_⟩

/-- back at level 0 -/
theorem FB.back {n : Nat} {T0 G : List Nat} {A : List (Option (List Nat))} {s s' : St} (h : FB n T0 G A s s') (hs : ∃ m, s'.trail = T0 ++ m) (hd : T0.length ≤ s'.done) : SF n T0 [] s'.rows { forgetP s' T0.length with cuts := [] } ∧ (forgetP s' T0.length).trail = T0 ∧ (forgetP s' T0.length).done = T0.length := by
  obtain ⟨m, hm⟩ := hs
  have et : (forgetP s' T0.length).trail = T0 := by show s'.trail.take T0.length = T0; rw [hm]; exact List.take_left
  have ed : (forgetP s' T0.length).done = T0.length := by show min s'.done T0.length = T0.length; omega
  obtain ⟨q1, q2⟩ := forget_tr (k := T0.length) h.I.tr h.tt
  have hI := h.I.forget (k := T0.length) h.tt
  refine ⟨⟨⟨⟨q1.len, q1.nd, q1.lt, q1.tr⟩, by simp, hI.wl, hI.wat, hI.lit, hI.sum, hI.rw_⟩, h.W, ⟨q2.pos, q2.neg⟩, h.wy, fun x hx => by show x ∈ (forgetP s' T0.length).trail; rw [et]; exact hx, ?_, h.l0, ?_, RP.refl _, by show (forgetP s' T0.length).done ≤ (forgetP s' T0.length).trail.length; rw [et, ed]; exact Nat.le_refl _⟩, et, ed⟩
  · show LK ((forgetP s' T0.length).trail.take (forgetP s' T0.length).done) (fun _ => True) s'.rows (forgetP s' T0.length).trail
    rw [et, ed, List.take_length]
    exact h.l0
  · intro i l hi
    have hi' : (forgetP s' T0.length).trail[i]? = some l := hi
    rw [et] at hi'
    have hil : i < T0.length := (List.getElem?_eq_some_iff.1 hi').1
    have hs2 : s'.trail[i]? = some l := by rw [hm, List.getElem?_append_left hil]; exact hi'
    rcases h.y i l hs2 with ⟨q, _⟩ | ⟨r, c, h1, h2, h3, h4⟩
    · omega
    · refine .inr ⟨r, c, h1, h2, h3, fun x hx hxl => ?_⟩
      show opp x ∈ (forgetP s' T0.length).trail.take i
      have := h4 x hx hxl
      rw [hm, List.take_append_of_le_length (by omega)] at this
      rw [et]
      exact this

/-- .. nothing is true: from the beginning -/
theorem start_SF {n : Nat} {s : St} (hI : LkI n s) (hW : WOK s.rows (fun l => s.watches.getD l [])) (ht : TT s) (hy : s.why.length = n) : SF n [] [] s.rows (forgetP s 0) ∧ (forgetP s 0).trail = [] := by
  have et : (forgetP s 0).trail = [] := rfl
  obtain ⟨q1, q2⟩ := forget_tr (k := 0) hI.tr ht
  refine ⟨⟨hI.forget ht, hW, q2, hy, fun x hx => by simp at hx, fun r c i _ _ _ h4 _ => ?_, fun r c i _ _ _ h4 _ => by simp at h4, fun i l hi => ?_, RP.refl _, ?_⟩, et⟩
  · rw [et] at h4; simp at h4
  · rw [et] at hi; simp at hi
  · show min s.done 0 ≤ _
    omega

/-- the same clauses follow of rows in another order -/
theorem NDer.mono {C C' : List Nat → Prop} {G G' : List Nat} {l : Nat} (h : NDer C G l) (hC : ∀ c, C c → ∃ c', C' c' ∧ ∀ x, x ∈ c' ↔ x ∈ c) (hG : ∀ x ∈ G, x ∈ G') : NDer C' G' l := fun S hS => h S ⟨fun x hx => hS.given x (hG x hx), fun c hc l hl hx => by
  obtain ⟨c', h1, h2⟩ := hC c hc
  exact hS.step c' h1 l ((h2 l).2 hl) fun l' q1 q2 => hx l' ((h2 l').1 q1) q2⟩
theorem NCannot.mono {C C' : List Nat → Prop} {G G' : List Nat} (h : NCannot C G) (hC : ∀ c, C c → ∃ c', C' c' ∧ ∀ x, x ∈ c' ↔ x ∈ c) (hG : ∀ x ∈ G, x ∈ G') : NCannot C' G' := by
  rcases h with ⟨l, q1, q2⟩ | ⟨c, q1, q2⟩
  · exact .inl ⟨l, q1.mono hC hG, q2.mono hC hG⟩
  · obtain ⟨c', h1, h2⟩ := hC c q1
    exact .inr ⟨c', h1, fun l hl => (q2 l ((h2 l).1 hl)).mono hC hG⟩
theorem RP.cl {s s' : St} (h : RP s.rows s'.rows) (he : s'.empty = s.empty) : (∀ c, Cl s c → ∃ c', Cl s' c' ∧ ∀ x, x ∈ c' ↔ x ∈ c) ∧ (∀ c, Cl s' c → ∃ c', Cl s c' ∧ ∀ x, x ∈ c' ↔ x ∈ c) := by
  refine ⟨fun c hc => ?_, fun c hc => ?_⟩
  · rcases hc with ⟨r, q⟩ | ⟨q1, q2⟩
    · obtain ⟨b, h1, h2⟩ := h.fw r c q
      exact ⟨b, .inl ⟨r, h1⟩, fun x => h2.mem_iff⟩
    · exact ⟨c, .inr ⟨q1, by rw [he]; exact q2⟩, fun x => Iff.rfl⟩
  · rcases hc with ⟨r, q⟩ | ⟨q1, q2⟩
    · obtain ⟨b, h1, h2⟩ := h.bw r c q
      exact ⟨b, .inl ⟨r, h1⟩, fun x => h2.mem_iff.symm⟩
    · exact ⟨c, .inr ⟨q1, by rw [← he]; exact q2⟩, fun x => Iff.rfl⟩
theorem RP.cannot {s s' : St} (h : RP s.rows s'.rows) (he : s'.empty = s.empty) (G : List Nat) : NCannot (Cl s) G ↔ NCannot (Cl s') G :=
  ⟨fun q => q.mono (h.cl he).1 fun _ z => z, fun q => q.mono (h.cl he).2 fun _ z => z⟩
theorem RW.rp {s s' : St} (h : RW s) (hr : RP s.rows s'.rows) (he : s'.single = s.single) : RW s' := by
  have hl := hr.len
  refine ⟨fun r q => ?_, fun r l q => ?_, fun r q => ?_, by rw [he]; exact h.nd, fun r q => by rw [hl]; rw [he] at q; exact h.lt r q⟩
  · rw [he] at q
    rcases h.one r q with ⟨l, z⟩ | z
    · obtain ⟨b, h1, h2⟩ := hr.fw r [l] z
      exact .inl ⟨l, by rw [h1, List.perm_singleton.1 h2]⟩
    · exact .inr (hr.none_ z)
  · obtain ⟨a, h1, h2⟩ := hr.bw r [l] q
    rw [← List.singleton_perm.1 h2] at h1
    rw [he]
    exact h.all1 r l h1
  · obtain ⟨a, h1, h2⟩ := hr.bw r [] q
    rw [List.nil_perm.1 h2] at h1
    exact h.no0 r h1

end Go.Proofs.YtbicefgjompnoaaDoor.Sx
/- A book of clauses (plain): settled, and what must be. -/
namespace Go.Proofs.YtbicefgjompnoaaDoor.Sx

/-- what is so of a store between two lines -/
structure BB (n : Nat) (s : St) : Prop where
  I : LkI n s
  W : WOK s.rows (fun l => s.watches.getD l [])
  tt : TT s
  wy : s.why.length = n
  R : RW s
  cu : s.cuts = []
  dn : s.done ≤ s.trail.length
/-- .. all that follows is true -/
structure BS (n : Nat) (s : St) : Prop where
  F : SF n s.trail [] s.rows s
  d : s.done = s.trail.length
  e : s.empty = 0
  o : ∀ (r l : Nat), s.rows[r]? = some (some [l]) → l ∈ s.trail
/-- the book: its store, whether all that follows is known, whether it cannot be -/
structure BI (n : Nat) (s : St) (sure never : Bool) : Prop where
  b : BB n s
  su : sure = true → BS n s
  ne : never = true → NCannot (Cl s) []
/-- the same clauses -/
structure SC (s s' : St) : Prop where
  rp : RP s.rows s'.rows
  em : s'.empty = s.empty
theorem SC.refl (s : St) : SC s s := ⟨RP.refl _, rfl⟩
theorem SC.trans {a b c : St} (h : SC a b) (k : SC b c) : SC a c := ⟨h.rp.trans k.rp, k.em.trans h.em⟩
theorem SC.cannot {s s' : St} (h : SC s s') (G : List Nat) : NCannot (Cl s) G ↔ NCannot (Cl s') G := h.rp.cannot h.em G

/-- rows of one literal that are gone are struck -/
def liveS (s : St) : List Nat := s.single.filter fun r => (s.rows.getD r none).isSome
/-- where begin begins -/
def freshS (s : St) : St := { forgetP s 0 with single := liveS s }
theorem liveS_one {s : St} (h : RW s) : ∀ r ∈ liveS s, ∃ l, s.rows[r]? = some (some [l]) := fun r hr => by
  obtain ⟨h1, h2⟩ := List.mem_filter.1 hr
  rcases h.one r h1 with q | q
  · exact q
  · rw [List.getD_eq_getElem?_getD, q] at h2
    simp at h2
theorem freshS_RW {s : St} (h : RW s) : RW (freshS s) := by
  refine ⟨fun r hr => .inl (liveS_one h r hr), fun r l hl => ?_, h.no0, h.nd.filter _, fun r hr => h.lt r (List.mem_filter.1 hr).1⟩
  have hl' : s.rows[r]? = some (some [l]) := hl
  refine List.mem_filter.2 ⟨h.all1 r l hl', ?_⟩
  rw [List.getD_eq_getElem?_getD, hl']
  rfl
theorem freshS_SF {n : Nat} {s : St} (h : BB n s) : SF n [] [] (freshS s).rows (freshS s) := by
  obtain ⟨q, _⟩ := start_SF h.I h.W h.tt h.wy
  exact ⟨⟨⟨q.I.tr.len, q.I.tr.nd, q.I.tr.lt, q.I.tr.tr⟩, q.I.cuts, q.I.wl, q.I.wat, q.I.lit, q.I.sum, q.I.rw_⟩, q.W, ⟨q.tt.pos, q.tt.neg⟩, q.wy, q.s0, q.lk, q.l0, q.y, RP.refl _, q.dn⟩
theorem FB.bb {n : Nat} {T0 G : List Nat} {s s' : St} (h : FB n T0 G s.rows s s') (hR : RW s) (hc : s.cuts = []) : BB n s' ∧ SC s s' :=
  ⟨⟨h.I, h.W, h.tt, h.wy, hR.rp h.rp h.single, h.cuts.trans hc, h.dn⟩, h.rp, h.empty⟩

section
variable {n : Nat} {s : St}
theorem freshS_BB (h : BB n s) : BB n (freshS s) := ⟨(freshS_SF h).I, (freshS_SF h).W, (freshS_SF h).tt, (freshS_SF h).wy, freshS_RW h.R, h.cu, (freshS_SF h).dn⟩
theorem settle_empty (h : BB n s) (he : 0 < s.empty) : BI n (freshS s) false true := ⟨freshS_BB h, fun q => by simp at q, fun _ => .inr ⟨[], .inr ⟨rfl, he⟩, by simp⟩⟩
theorem settle_single (h : BB n s) (hf : (singlesP (freshS s) (freshS s).single).2 = false) : BI n (singlesP (freshS s) (freshS s).single).1 false true ∧ SC s (singlesP (freshS s) (freshS s).single).1 := by
  obtain ⟨q1, _, _, _, q5⟩ := singles_sem (freshS s).single (freshS s) (freshS_SF h) (liveS_one h.R)
  obtain ⟨b1, b2⟩ := q1.bb (freshS_RW h.R) h.cu
  exact ⟨⟨b1, fun q => by simp at q, fun _ => bad_cannot q1.y (q5 hf)⟩, b2.rp, b2.em⟩
theorem singles_I (h : BB n s) : LkI n (singlesP (freshS s) (freshS s).single).1 := (singles_sem (freshS s).single (freshS s) (freshS_SF h) (liveS_one h.R)).1.I
theorem settle_follow (h : BB n s) (he : s.empty = 0) (ht : (singlesP (freshS s) (freshS s).single).2 = true) {k : Nat} {r : St × Int} (hr : followS k (singlesP (freshS s) (freshS s).single).1 = some r) :
    BI n r.1 (decide (r.2 = -1)) (!decide (r.2 = -1)) ∧ SC s r.1 := by
  obtain ⟨q1, q2, _, q4, _⟩ := singles_sem (freshS s).single (freshS s) (freshS_SF h) (liveS_one h.R)
  obtain ⟨q6, q7⟩ := q4 ht
  obtain ⟨p1, p2, p3⟩ := followS_sem k _ r q6 hr
  have hF := q1.trans p1
  obtain ⟨b1, b2⟩ := hF.bb (freshS_RW h.R) h.cu
  refine ⟨⟨b1, fun q => ?_, fun q => ?_⟩, b2.rp, b2.em⟩
  · have e : r.2 = -1 := by simpa using q
    obtain ⟨z1, z2⟩ := p2 e
    refine ⟨⟨z1.I, z1.W, z1.tt, z1.wy, fun _ z => z, z1.lk, ?_, ?_, RP.refl _, z1.dn⟩, z2, b2.em.trans he, fun r' l hl => ?_⟩
    · have := z1.lk
      rw [z2, List.take_length] at this
      exact this
    · intro i l hi
      rcases z1.y i l hi with ⟨_, z⟩ | z
      · simp at z
      · exact .inr z
    · obtain ⟨a, a1, a2⟩ := hF.rp.bw r' [l] hl
      rw [← List.singleton_perm.1 a2] at a1
      have hm := (freshS_RW h.R).all1 r' l a1
      have := q7 r' hm l a1
      obtain ⟨m, em⟩ := p1.tr
      rw [em]
      exact List.mem_append_left _ this
  · have e : r.2 ≠ -1 := by simpa using q
    exact bad_cannot p1.y (p3 e)
end

/-- what is supposed, one by one -/
def supP (s : St) : List Nat → St × Bool
  | [] => (s, true)
  | l :: ls => if s.truth.getD (opp l) 0 = 0 then supP (believeP s (opp l) (-1)) ls else if 0 < s.truth.getD (opp l) 0 then supP s ls else (s, false)
/-- a level is opened -/
def openP (s : St) : St := { s with cuts := s.cuts ++ [s.trail.length] }

theorem sup_sem {n : Nat} {T0 G : List Nat} {A : List (Option (List Nat))} : ∀ (c : List Nat) (s : St), SF n T0 G A s → T0.length ≤ s.trail.length → (∀ l ∈ c, l < 2 * n ∧ opp l ∈ G) →
    FB n T0 G A s (supP s c).1 ∧ (supP s c).1.rows = s.rows ∧ ((supP s c).2 = true → SF n T0 G A (supP s c).1 ∧ ∀ l ∈ c, opp l ∈ (supP s c).1.trail) ∧ ((supP s c).2 = false → ∃ l ∈ c, l ∈ (supP s c).1.trail)
  | [], s, h, _, _ => ⟨h.fb, rfl, fun _ => ⟨h, by simp⟩, fun q => by simp [supP] at q⟩
  | l :: c, s, h, hT, hc => by
    obtain ⟨h1, h2⟩ := hc l (List.mem_cons_self)
    unfold supP
    by_cases h0 : s.truth.getD (opp l) 0 = 0
    · rw [if_pos h0]
      have hb := h.believe (opp_lt h1) h0 (y := -1) (.inl ⟨hT, h2⟩)
      obtain ⟨q1, q2, q3, q4⟩ := sup_sem c _ hb (by show T0.length ≤ (s.trail ++ [opp l]).length; simp; omega) (fun x hx => hc x (List.mem_cons_of_mem _ hx))
      obtain ⟨m, hm⟩ := q1.tr
      refine ⟨hb.fb_believe.trans q1, q2, fun e => ⟨(q3 e).1, fun x hx => ?_⟩, fun e => ?_⟩
      · rcases List.mem_cons.1 hx with q | q
        · rw [q, hm]
          exact List.mem_append_left _ (List.mem_append_right _ (List.mem_singleton.2 rfl))
        · exact (q3 e).2 x q
      · obtain ⟨x, hx, hy⟩ := q4 e
        exact ⟨x, List.mem_cons_of_mem _ hx, hy⟩
    · rw [if_neg h0]
      by_cases hp : 0 < s.truth.getD (opp l) 0
      · rw [if_pos hp]
        obtain ⟨q1, q2, q3, q4⟩ := sup_sem c s h hT (fun x hx => hc x (List.mem_cons_of_mem _ hx))
        obtain ⟨m, hm⟩ := q1.tr
        refine ⟨q1, q2, fun e => ⟨(q3 e).1, fun x hx => ?_⟩, fun e => ?_⟩
        · rcases List.mem_cons.1 hx with q | q
          · rw [q, hm]
            exact List.mem_append_left _ (h.tt.pos _ hp)
          · exact (q3 e).2 x q
        · obtain ⟨x, hx, hy⟩ := q4 e
          exact ⟨x, List.mem_cons_of_mem _ hx, hy⟩
      · rw [if_neg hp]
        refine ⟨h.fb, rfl, fun q => by simp at q, fun _ => ⟨l, List.mem_cons_self, ?_⟩⟩
        have := h.tt.neg (opp l) (by omega)
        rw [opp_opp] at this
        exact this

section
variable {n : Nat} {s : St} {c : List Nat}
/-- where a level begins -/
theorem open_SF (h : BS n s) (hc : s.cuts = []) (G : List Nat) : SF n s.trail G s.rows (openP s) :=
  ⟨⟨⟨h.F.I.tr.len, h.F.I.tr.nd, h.F.I.tr.lt, h.F.I.tr.tr⟩, by show (s.cuts ++ [_]).length ≤ 1000; rw [hc]; simp, h.F.I.wl, h.F.I.wat, h.F.I.lit, h.F.I.sum, h.F.I.rw_⟩, h.F.W, ⟨h.F.tt.pos, h.F.tt.neg⟩, h.F.wy, fun _ z => z, h.F.lk, h.F.l0, fun i l hi => by
    rcases h.F.y i l hi with ⟨_, z⟩ | z
    · simp at z
    · exact .inr z, RP.refl _, h.F.dn⟩
/-- the level is taken back -/
theorem back_BS {G : List Nat} {s' : St} (h : BS n s) (hR : RW s) (hc : s.cuts = []) (f : FB n s.trail G s.rows (openP s) s') : backP s' = { forgetP s' s.trail.length with cuts := [] } ∧ BI n (backP s') true false ∧ SC s (backP s') := by
  obtain ⟨m, hm⟩ := f.tr
  have hm' : s'.trail = s.trail ++ m := hm
  have hcu : s'.cuts = [s.trail.length] := by rw [f.cuts]; show s.cuts ++ [s.trail.length] = _; rw [hc]; rfl
  have hbk : backP s' = { forgetP s' s.trail.length with cuts := [] } := by unfold backP; rw [hcu]
  obtain ⟨q1, q2, q3⟩ := f.back ⟨m, hm'⟩ (by have := f.dm; have e : (openP s).done = s.done := rfl; have := h.d; omega)
  have hrp : RP s.rows s'.rows := f.rp
  refine ⟨hbk, ?_, ?_⟩
  · rw [hbk]
    have hR' : RW ({ forgetP s' s.trail.length with cuts := [] } : St) := hR.rp hrp f.single
    refine ⟨⟨q1.I, q1.W, q1.tt, q1.wy, hR', rfl, q1.dn⟩, fun _ => ⟨?_, ?_, f.empty.trans h.e, fun r l hl => ?_⟩, fun q => by simp at q⟩
    · have e : ({ forgetP s' s.trail.length with cuts := [] } : St).trail = s.trail := q2
      rw [e]
      exact ⟨q1.I, q1.W, q1.tt, q1.wy, q1.s0, q1.lk, q1.l0, q1.y, RP.refl _, q1.dn⟩
    · show (forgetP s' s.trail.length).done = (forgetP s' s.trail.length).trail.length
      rw [q2, q3]
    · show l ∈ (forgetP s' s.trail.length).trail
      rw [q2]
      obtain ⟨a, a1, a2⟩ := hrp.bw r [l] hl
      rw [← List.singleton_perm.1 a2] at a1
      exact h.o r l a1
  · rw [hbk]
    exact ⟨hrp, f.empty⟩
/-- what cannot be -/
theorem must_sup (h : BS n s) (hc : s.cuts = []) (hl : ∀ l ∈ c, l < 2 * n) (hf : (supP (openP s) c).2 = false) : FB n s.trail (c.map opp) s.rows (openP s) (supP (openP s) c).1 ∧ NCannot (Cl s) (c.map opp) := by
  obtain ⟨q1, q2, _, q4⟩ := sup_sem c (openP s) (open_SF h hc (c.map opp)) (Nat.le_refl _) (fun l hx => ⟨hl l hx, List.mem_map.2 ⟨l, hx, rfl⟩⟩)
  refine ⟨q1, ?_⟩
  obtain ⟨l, hx, hy⟩ := q4 hf
  have hsc : SC s (supP (openP s) c).1 := ⟨q1.rp, q1.empty⟩
  refine (hsc.cannot _).2 (.inl ⟨l, trail_mem_der q1.y hy, NDer.given (List.mem_map.2 ⟨l, hx, rfl⟩)⟩)
theorem must_follow (h : BS n s) (hR : RW s) (hc : s.cuts = []) (hl : ∀ l ∈ c, l < 2 * n) (ht : (supP (openP s) c).2 = true) {k : Nat} {r : St × Int} (hr : followS k (supP (openP s) c).1 = some r) : FB n s.trail (c.map opp) s.rows (openP s) r.1 ∧ (r.2 ≠ -1 ↔ NCannot (Cl s) (c.map opp)) := by
  obtain ⟨q1, q2, q3, _⟩ := sup_sem c (openP s) (open_SF h hc (c.map opp)) (Nat.le_refl _) (fun l hx => ⟨hl l hx, List.mem_map.2 ⟨l, hx, rfl⟩⟩)
  obtain ⟨z1, z2⟩ := q3 ht
  obtain ⟨p1, p2, p3⟩ := followS_sem k _ r z1 hr
  have hF := q1.trans p1
  have hsc : SC s r.1 := ⟨hF.rp, hF.empty⟩
  refine ⟨hF, fun e => (hsc.cannot _).2 (bad_cannot hF.y (p3 e)), fun e e2 => ?_⟩
  obtain ⟨y1, y2⟩ := p2 e2
  obtain ⟨m, hm⟩ := hF.tr
  have hR' : RW r.1 := hR.rp hF.rp hF.single
  refine (closed_N y1 y2 (fun l hx => ?_) (hF.empty.trans h.e) (fun r' l hx => ?_) hR'.no0).2 ((hsc.cannot _).1 e)
  · obtain ⟨x, hx1, rfl⟩ := List.mem_map.1 hx
    obtain ⟨m2, hm2⟩ := p1.tr
    rw [hm2]
    exact List.mem_append_left _ (z2 x hx1)
  · obtain ⟨a, a1, a2⟩ := hF.rp.bw r' [l] hx
    rw [← List.singleton_perm.1 a2] at a1
    have := h.o r' l a1
    rw [hm]
    exact List.mem_append_left _ this
end

end Go.Proofs.YtbicefgjompnoaaDoor.Sx
/- The book's map against the store: rows by their literals. -/
namespace Go.Proofs.YtbicefgjompnoaaDoor.Sx
open Go.RowKit Go.Sort

/-- ascending lists of the same members are the same -/
theorem Asc.ext : ∀ {c c' : List Nat}, Asc c → Asc c' → (∀ x, x ∈ c ↔ x ∈ c') → c = c'
  | [], [], _, _, _ => rfl
  | [], y :: c', _, _, h => absurd ((h y).2 (by simp)) (by simp)
  | x :: c, [], _, _, h => absurd ((h x).1 (by simp)) (by simp)
  | x :: c, y :: c', h1, h2, h => by
    unfold Asc at h1 h2
    obtain ⟨a1, a2⟩ := List.pairwise_cons.1 h1
    obtain ⟨b1, b2⟩ := List.pairwise_cons.1 h2
    have e : x = y := by
      have p1 := (h x).1 (by simp)
      have p2 := (h y).2 (by simp)
      rcases List.mem_cons.1 p1 with q | q
      · exact q
      · rcases List.mem_cons.1 p2 with z | z
        · exact z.symm
        · have := b1 x q; have := a1 y z; omega
    subst e
    refine congrArg (x :: ·) (Asc.ext a2 b2 fun z => ?_)
    constructor
    · intro hz
      rcases List.mem_cons.1 ((h z).1 (List.mem_cons_of_mem _ hz)) with q | q
      · subst q; exact absurd (a1 z hz) (by omega)
      · exact q
    · intro hz
      rcases List.mem_cons.1 ((h z).2 (List.mem_cons_of_mem _ hz)) with q | q
      · subst q; exact absurd (b1 z hz) (by omega)
      · exact q
theorem SetOf.uniq {l c c' : List Nat} (h : SetOf l c) (h' : SetOf l c') : c = c' := h.asc.ext h'.asc fun x => (h.mem x).trans (h'.mem x).symm

/-- a row's key -/
def HasKey (rows : List (Option (List Nat))) (k : ByteArray) (r : Nat) : Prop := ∃ d c, rows[r]? = some (some d) ∧ SetOf d c ∧ keyB c = k
theorem HasKey.key {rows : List (Option (List Nat))} {k k' : ByteArray} {r : Nat} (h : HasKey rows k r) (h' : HasKey rows k' r) : k = k' := by
  obtain ⟨d, c, h1, h2, h3⟩ := h
  obtain ⟨d', c', e1, e2, e3⟩ := h'
  rw [h1] at e1
  cases e1
  rw [← h3, ← e3, h2.uniq e2]
theorem HasKey.lt {rows : List (Option (List Nat))} {k : ByteArray} {r : Nat} (h : HasKey rows k r) : r < rows.length := by
  obtain ⟨d, c, h1, _⟩ := h
  exact (List.getElem?_eq_some_iff.1 h1).1
theorem HasKey.rp {A B : List (Option (List Nat))} (h : RP A B) (k : ByteArray) (r : Nat) : HasKey A k r ↔ HasKey B k r := by
  constructor
  · rintro ⟨d, c, h1, h2, h3⟩
    obtain ⟨d', q1, q2⟩ := h.fw r d h1
    exact ⟨d', c, q1, ⟨h2.asc, fun x => (h2.mem x).trans q2.mem_iff.symm⟩, h3⟩
  · rintro ⟨d, c, h1, h2, h3⟩
    obtain ⟨d', q1, q2⟩ := h.bw r d h1
    exact ⟨d', c, q1, ⟨h2.asc, fun x => (h2.mem x).trans q2.mem_iff⟩, h3⟩

/-- the map: for each key the rows (of those that H names) that have it; its blocks are P's -/
structure SameAt (w : World) (P H : Nat → Prop) (rows : List (Option (List Nat))) (m : Nat) (F : ByteArray → Value) : Prop where
  mp : MapF w m F
  pm : P m
  bl : ∀ k b, (F k).ownBlock = some b → P b
  ap : ∀ k k' b, (F k).ownBlock = some b → (F k').ownBlock = some b → k = k'
  rw_ : ∀ k, ∃ l : List Nat, RwsAt w (F k) l ∧ l.Nodup ∧ ∀ r, r ∈ l ↔ (HasKey rows k r ∧ H r)
theorem SameAt.fr {w w' : World} {P P' H : Nat → Prop} {rows rows' : List (Option (List Nat))} {m : Nat} {F : ByteArray → Value} (h : SameAt w P H rows m F) (hb : ∀ b, b < w.heap.size → P b → w'.heap[b]? = w.heap[b]?) (hp : ∀ b, b < w.heap.size → P b → P' b) (hr : ∀ k r, HasKey rows k r ↔ HasKey rows' k r) : SameAt w' P' H rows' m F := by
  refine ⟨h.mp.of (hb m h.mp.lt h.pm), hp m h.mp.lt h.pm, fun k b q => ?_, h.ap, fun k => ?_⟩
  · obtain ⟨l, h1, _⟩ := h.rw_ k
    exact hp b (h1.lt q) (h.bl k b q)
  · obtain ⟨l, h1, h2, h3⟩ := h.rw_ k
    exact ⟨l, h1.fr fun g hg => hb g (h1.lt hg) (h.bl k g hg), h2, fun r => by rw [h3, hr]⟩
theorem SameAt.lt {w : World} {P H : Nat → Prop} {rows : List (Option (List Nat))} {m : Nat} {F : ByteArray → Value} (h : SameAt w P H rows m F) (k : ByteArray) {b : Nat} (hb : (F k).ownBlock = some b) : b < w.heap.size := by
  obtain ⟨l, h1, _⟩ := h.rw_ k
  exact h1.lt hb
/-- few rows have one key -/
theorem few_keys {rows : List (Option (List Nat))} {H : Nat → Prop} {k : ByteArray} {l : List Nat} (h1 : l.Nodup) (h2 : ∀ r, r ∈ l ↔ (HasKey rows k r ∧ H r)) : l.length ≤ rows.length :=
  holes _ _ h1 fun r hr => ((h2 r).1 hr).1.lt

/-- nil, or the map of all rows -/
def MvAt (w : World) (P : Nat → Prop) (rows : List (Option (List Nat))) (mv : Value) : Prop := (mv = .map none ∧ ∀ r : Nat, rows[r]? ≠ some none) ∨ ∃ m F, mv = .map (some m) ∧ SameAt w P (fun _ => True) rows m F
theorem MvAt.fr {w w' : World} {P P' : Nat → Prop} {rows rows' : List (Option (List Nat))} {mv : Value} (h : MvAt w P rows mv) (hb : ∀ b, b < w.heap.size → P b → w'.heap[b]? = w.heap[b]?) (hp : ∀ b, b < w.heap.size → P b → P' b) (hr : RP rows rows') : MvAt w' P' rows' mv := by
  rcases h with ⟨h1, h2⟩ | ⟨m, F, h1, h2⟩
  · refine .inl ⟨h1, fun r q => ?_⟩
    have hl : r < rows.length := by rw [← hr.len]; exact (List.getElem?_eq_some_iff.1 q).1
    cases hq : rows[r] with
    | none => exact h2 r (by rw [List.getElem?_eq_getElem hl, hq])
    | some d =>
      obtain ⟨b, q1, _⟩ := hr.fw r d (by rw [List.getElem?_eq_getElem hl, hq])
      rw [q] at q1
      cases q1
  · exact .inr ⟨m, F, h1, h2.fr hb hp fun k r => HasKey.rp hr k r⟩

/-- a row noted -/
theorem SameAt.note {w w' : World} {P H : Nat → Prop} {rows : List (Option (List Nat))} {m row : Nat} {F : ByteArray → Value} (h : SameAt w P H rows m F) {k : ByteArray} (hk : HasKey rows k row) (hH : ¬ H row) {l : List Nat} (hl : ∀ r, r ∈ l ↔ (HasKey rows k r ∧ H r)) (hnd : l.Nodup) {v' : Value} (hm : MapF w' m (putF F k v')) (hv : RwsAt w' v' (l ++ [row])) (hbl : v'.ownBlock = (F k).ownBlock ∨ v'.ownBlock = some w.heap.size)
    (hfr : ∀ b, b < w.heap.size → b ≠ m → (F k).ownBlock ≠ some b → w'.heap[b]? = w.heap[b]?) (hmo : ∀ k', (F k').ownBlock ≠ some m) : SameAt w' (fun b => P b ∨ w.heap.size ≤ b) (fun r => H r ∨ r = row) rows m (putF F k v') := by
  refine ⟨hm, .inl h.pm, fun k' b q => ?_, fun k1 k2 b q1 q2 => ?_, fun k' => ?_⟩
  · by_cases e : k' = k
    · subst e
      rw [putF_same] at q
      rcases hbl with z | z
      · rw [z] at q; exact .inl (h.bl _ _ q)
      · rw [z] at q; have := Option.some.inj q; exact .inr (by omega)
    · rw [putF_other e] at q
      exact .inl (h.bl _ _ q)
  · by_cases e1 : k1 = k <;> by_cases e2 : k2 = k
    · rw [e1, e2]
    · exfalso
      subst e1
      rw [putF_same] at q1
      rw [putF_other e2] at q2
      rcases hbl with z | z
      · rw [z] at q1; exact e2 (h.ap _ _ _ q2 q1)
      · rw [z] at q1; have := Option.some.inj q1; have := h.lt k2 q2; omega
    · exfalso
      subst e2
      rw [putF_same] at q2
      rw [putF_other e1] at q1
      rcases hbl with z | z
      · rw [z] at q2; exact e1 (h.ap _ _ _ q1 q2)
      · rw [z] at q2; have := Option.some.inj q2; have := h.lt k1 q1; omega
    · rw [putF_other e1] at q1
      rw [putF_other e2] at q2
      exact h.ap _ _ _ q1 q2
  · by_cases e : k' = k
    · subst e
      refine ⟨l ++ [row], by rw [putF_same]; exact hv, ?_, fun r => ?_⟩
      · rw [List.nodup_append]
        refine ⟨hnd, by simp, fun a ha b hb e => ?_⟩
        rw [List.mem_singleton] at hb
        subst hb; subst e
        exact hH ((hl a).1 ha).2
      · rw [List.mem_append, List.mem_singleton, hl]
        constructor
        · rintro (⟨z1, z2⟩ | rfl)
          · exact ⟨z1, .inl z2⟩
          · exact ⟨hk, .inr rfl⟩
        · rintro ⟨z1, z2 | z2⟩
          · exact .inl ⟨z1, z2⟩
          · exact .inr z2
    · obtain ⟨l', h1, h2, h3⟩ := h.rw_ k'
      refine ⟨l', ?_, h2, fun r => ?_⟩
      · rw [putF_other e]
        refine h1.fr fun g hg => hfr g (h1.lt hg) (fun q => hmo k' (by rw [hg, q])) (fun q => e (h.ap _ _ _ hg q))
      · rw [h3]
        constructor
        · rintro ⟨z1, z2⟩; exact ⟨z1, .inl z2⟩
        · rintro ⟨z1, z2 | z2⟩
          · exact ⟨z1, z2⟩
          · subst z2; exact absurd (z1.key hk) e
/-- no row of numbers lies in the map's block -/
theorem SameAt.mo {w : World} {P H : Nat → Prop} {rows : List (Option (List Nat))} {m : Nat} {F : ByteArray → Value} (h : SameAt w P H rows m F) (k : ByteArray) : (F k).ownBlock ≠ some m := by
  intro q
  obtain ⟨l, h1, _⟩ := h.rw_ k
  obtain ⟨es, c, h2, _⟩ := h.mp.ex
  rcases h1 with ⟨e, _⟩ | ⟨g, off, cap, cur, e, h3, _⟩
  · rw [e] at q; cases q
  · rw [e] at q
    have : g = m := Option.some.inj q
    subst this
    rw [h2] at h3
    cases h3

end Go.Proofs.YtbicefgjompnoaaDoor.Sx
/- The program: slices.Clone of literals. -/
namespace Go.Proofs.YtbicefgjompnoaaDoor.Sx
open Go.RowKit Go.Sort

end Go.Proofs.YtbicefgjompnoaaDoor.Sx
