/- What stays so of a store while the watches of a literal are gone through (plain). -/
import Derived.Test.YtbicefgjompnoaaDoorF19
namespace Go.Proofs.YtbicefgjompnoaaDoor.Sx

/-- a watch: its literal and its row are there -/
def POK (n : Nat) (s : St) (p : Nat × Nat) : Prop := p.2 < 2 * n ∧ p.1 < s.rows.length ∧ ∀ c, s.rows[p.1]? = some (some c) → 2 ≤ c.length
def wsum (s : St) : Nat := (s.watches.map List.length).sum

theorem sum_set (l : List (List (Nat × Nat))) (i : Nat) (x : List (Nat × Nat)) (h : i < l.length) : ((l.set i x).map List.length).sum + (l.getD i []).length = (l.map List.length).sum + x.length := by
  induction l generalizing i with
  | nil => simp at h
  | cons a l ih =>
    cases i with
    | zero => simp; omega
    | succ i =>
      have := ih i (by simpa using h)
      simp only [List.set_cons_succ, List.map_cons, List.sum_cons, List.getD_cons_succ]
      omega
theorem sum_two (l : List (List (Nat × Nat))) (i j : Nat) (hi : i < l.length) (hne : i ≠ j) : (l.getD i []).length + (l.getD j []).length ≤ (l.map List.length).sum := by
  have h1 := sum_set l i [] hi
  have h2 : ((l.set i []).getD j []).length ≤ ((l.set i []).map List.length).sum := by
    generalize l.set i [] = m
    clear h1 hi hne
    induction m generalizing j with
    | nil => simp
    | cons a m ih =>
      cases j with
      | zero => simp
      | succ j => have := ih j; simp only [List.getD_cons_succ, List.map_cons, List.sum_cons]; omega
  have h3 : (l.set i []).getD j [] = l.getD j [] := by
    rw [List.getD_eq_getElem?_getD, List.getElem?_set_ne hne, ← List.getD_eq_getElem?_getD]
  rw [h3] at h2
  simp only [List.length_nil] at h1
  omega

/-- .. while they are gone through: S0 bounds how many watches there are -/
structure LkJ (n no S0 : Nat) (s : St) (kept rest : List (Nat × Nat)) : Prop where
  tr : TrOK n s
  cuts : s.cuts.length ≤ 1000
  wl : s.watches.length = 2 * n
  no_ : s.truth.getD no 0 = -1
  wat : ∀ l p, p ∈ s.watches.getD l [] → POK n s p
  kp : ∀ p ∈ kept, POK n s p
  rp : ∀ p ∈ rest, POK n s p
  lit : ∀ (r : Nat) (c : List Nat), s.rows[r]? = some (some c) → ∀ x ∈ c, x < 2 * n
  sum : wsum s + kept.length + rest.length ≤ S0 + (s.watches.getD no []).length
  rw_ : s.rows.length ≤ 1000000000
  big : S0 ≤ 3000000000

theorem POK.row {n r : Nat} {s : St} {p : Nat × Nat} {c c' : List Nat} (h : POK n s p) (hr : s.rows[r]? = some (some c)) (hl : c'.length = c.length) : POK n { s with rows := s.rows.set r (some c') } p := by
  refine ⟨h.1, by show _ < (s.rows.set r _).length; rw [List.length_set]; exact h.2.1, fun d hd => ?_⟩
  have hd' : (s.rows.set r (some c'))[p.1]? = some (some d) := hd
  by_cases q : r = p.1
  · rw [← q, List.getElem?_set_self (List.getElem?_eq_some_iff.1 hr).1] at hd'
    have : c' = d := by simpa using hd'
    rw [← this, hl]
    exact h.2.2 c (by rw [← q]; exact hr)
  · rw [List.getElem?_set_ne q] at hd'
    exact h.2.2 d hd'

section
variable {n no S0 : Nat} {s : St} {kept rest : List (Nat × Nat)} {r o : Nat}
theorem LkJ.row {c c' : List Nat} (h : LkJ n no S0 s kept rest) (hr : s.rows[r]? = some (some c)) (hl : c'.length = c.length) (hx : ∀ x ∈ c', x < 2 * n) : LkJ n no S0 { s with rows := s.rows.set r (some c') } kept rest := by
  refine ⟨⟨h.tr.len, h.tr.nd, h.tr.lt, h.tr.tr⟩, h.cuts, h.wl, h.no_, fun l p hp => (h.wat l p hp).row hr hl, fun p hp => (h.kp p hp).row hr hl, fun p hp => (h.rp p hp).row hr hl, fun r' d hd x hx' => ?_, h.sum, by show (s.rows.set r _).length ≤ _; rw [List.length_set]; exact h.rw_, h.big⟩
  have hd' : (s.rows.set r (some c'))[r']? = some (some d) := hd
  by_cases q : r = r'
  · rw [← q, List.getElem?_set_self (List.getElem?_eq_some_iff.1 hr).1] at hd'
    have : c' = d := by simpa using hd'
    rw [← this] at hx'
    exact hx x hx'
  · rw [List.getElem?_set_ne q] at hd'
    exact h.lit r' d hd' x hx'
theorem LkJ.keep {o' : Nat} (h : LkJ n no S0 s kept ((r, o) :: rest)) (ho : o' < 2 * n) : LkJ n no S0 s (kept ++ [(r, o')]) rest := by
  refine ⟨h.tr, h.cuts, h.wl, h.no_, h.wat, fun p hp => ?_, fun p hp => h.rp p (List.mem_cons_of_mem _ hp), h.lit, by have := h.sum; simp only [List.length_append, List.length_cons, List.length_nil] at this ⊢; omega, h.rw_, h.big⟩
  rcases List.mem_append.1 hp with q | q
  · exact h.kp p q
  · rw [List.mem_singleton.1 q]
    exact ⟨ho, (h.rp _ (List.mem_cons_self)).2⟩
theorem LkJ.drop (h : LkJ n no S0 s kept ((r, o) :: rest)) : LkJ n no S0 s kept rest :=
  ⟨h.tr, h.cuts, h.wl, h.no_, h.wat, h.kp, fun p hp => h.rp p (List.mem_cons_of_mem _ hp), h.lit, by have := h.sum; simp only [List.length_cons] at this; omega, h.rw_, h.big⟩
theorem LkJ.push {l o' : Nat} (h : LkJ n no S0 s kept ((r, o) :: rest)) (hl : l < 2 * n) (hne : l ≠ no) (ho : o' < 2 * n) : LkJ n no S0 (pushW s l r o') kept rest := by
  have hlw : l < s.watches.length := by rw [h.wl]; exact hl
  refine ⟨⟨h.tr.len, h.tr.nd, h.tr.lt, h.tr.tr⟩, h.cuts, by simp [pushW, h.wl], h.no_, fun l' p hp => ?_, h.kp, fun p hp => h.rp p (List.mem_cons_of_mem _ hp), h.lit, ?_, h.rw_, h.big⟩
  · rw [pushW_getD hlw] at hp
    split at hp
    · rcases List.mem_append.1 hp with q | q
      · exact h.wat l p q
      · rw [List.mem_singleton.1 q]
        exact ⟨ho, (h.rp _ (List.mem_cons_self)).2⟩
    · exact h.wat l' p hp
  · have h1 := h.sum
    have h2 := sum_set s.watches l (s.watches.getD l [] ++ [(r, o')]) hlw
    have h3 : (pushW s l r o').watches.getD no [] = s.watches.getD no [] := by rw [pushW_getD hlw, if_neg (fun e => hne e.symm)]
    rw [h3]
    simp only [List.length_cons, List.length_append, List.length_nil] at h1 h2
    have h4 : wsum (pushW s l r o') = ((s.watches.set l (s.watches.getD l [] ++ [(r, o')])).map List.length).sum := rfl
    have h5 : wsum s = (s.watches.map List.length).sum := rfl
    omega
theorem LkJ.few {l : Nat} (h : LkJ n no S0 s kept rest) (hl : l < 2 * n) (hne : l ≠ no) : (s.watches.getD l []).length ≤ 3000000000 := by
  have h1 := sum_two s.watches l no (by rw [h.wl]; exact hl) hne
  have h2 := h.sum
  have h3 := h.big
  have h5 : wsum s = (s.watches.map List.length).sum := rfl
  omega
theorem LkJ.believe {l : Nat} (h : LkJ n no S0 s kept rest) (hl : l < 2 * n) (h0 : s.truth.getD l 0 = 0) (y : Int) : LkJ n no S0 (believeP s l y) kept rest := by
  have ho := opp_lt hl
  have hg : ∀ k, (believeP s l y).truth.getD k 0 = if k = opp l then -1 else if k = l then 1 else s.truth.getD k 0 := fun k => set2_getD (by rw [h.tr.len]; exact hl) (by rw [h.tr.len]; exact ho)
  refine ⟨h.tr.believe hl h0 y, h.cuts, h.wl, ?_, h.wat, h.kp, h.rp, h.lit, h.sum, h.rw_, h.big⟩
  rw [hg]
  split
  · rfl
  · split
    · rename_i _ q
      have := h.no_
      rw [q, h0] at this
      omega
    · exact h.no_
end

/-- .. when they were gone through -/
structure LkI (n : Nat) (s : St) : Prop where
  tr : TrOK n s
  cuts : s.cuts.length ≤ 1000
  wl : s.watches.length = 2 * n
  wat : ∀ l p, p ∈ s.watches.getD l [] → POK n s p
  lit : ∀ (r : Nat) (c : List Nat), s.rows[r]? = some (some c) → ∀ x ∈ c, x < 2 * n
  sum : wsum s ≤ 2 * s.rows.length
  rw_ : s.rows.length ≤ 1000000000
theorem LkI.start {n no : Nat} {s : St} (h : LkI n s) (hno : s.truth.getD no 0 = -1) : LkJ n no (wsum s) s [] (s.watches.getD no []) :=
  ⟨h.tr, h.cuts, h.wl, hno, h.wat, by simp, fun p hp => h.wat no p hp, h.lit, by simp, h.rw_, by have := h.sum; have := h.rw_; omega⟩
theorem LkJ.stop {n no S0 : Nat} {s : St} {kept rest : List (Nat × Nat)} (h : LkJ n no S0 s kept rest) (hno : no < 2 * n) (hS : S0 ≤ 2 * s.rows.length) : LkI n (wset s no (kept ++ rest)) := by
  have hw : no < s.watches.length := by rw [h.wl]; exact hno
  refine ⟨⟨h.tr.len, h.tr.nd, h.tr.lt, h.tr.tr⟩, h.cuts, by simp [wset, h.wl], fun l p hp => ?_, h.lit, ?_, h.rw_⟩
  · rw [wset_getD hw] at hp
    split at hp
    · rcases List.mem_append.1 hp with q | q
      · exact h.kp p q
      · exact h.rp p q
    · exact h.wat l p hp
  · have h1 := sum_set s.watches no (kept ++ rest) hw
    have h2 := h.sum
    have h4 : wsum (wset s no (kept ++ rest)) = ((s.watches.set no (kept ++ rest)).map List.length).sum := rfl
    have h5 : wsum s = (s.watches.map List.length).sum := rfl
    have h6 : (wset s no (kept ++ rest)).rows.length = s.rows.length := rfl
    rw [List.length_append] at h1
    omega
theorem LkI.done {n : Nat} {s : St} (h : LkI n s) (d : Nat) : LkI n { s with done := d } := ⟨⟨h.tr.len, h.tr.nd, h.tr.lt, h.tr.tr⟩, h.cuts, h.wl, h.wat, h.lit, h.sum, h.rw_⟩

/-- the first two literals, when the false one comes second -/
theorem swap0_len (c : List Nat) (no : Nat) : (swap0 c no).length = c.length := by unfold swap0; split <;> simp
theorem swap0_mem {c : List Nat} {no x : Nat} (h2 : 2 ≤ c.length) (hx : x ∈ swap0 c no) : x ∈ c := by
  unfold swap0 at hx
  split at hx
  · rename_i q
    rcases List.mem_or_eq_of_mem_set hx with hx | hx
    · rcases List.mem_or_eq_of_mem_set hx with hx | hx
      · exact hx
      · rw [hx, List.getD_eq_getElem?_getD, List.getElem?_eq_getElem (by omega)]
        exact List.getElem_mem (by omega)
    · rw [hx, ← q, List.getD_eq_getElem?_getD, List.getElem?_eq_getElem (by omega)]
      exact List.getElem_mem (by omega)
  · exact hx
theorem getD_mem {c : List Nat} {i : Nat} (h : i < c.length) : c.getD i 0 ∈ c := by
  rw [List.getD_eq_getElem?_getD, List.getElem?_eq_getElem h]
  exact List.getElem_mem h

/-- the walk through the watches keeps it so -/
theorem lookG_keep {n no S0 : Nat} (hno : no < 2 * n) : ∀ (rest kept : List (Nat × Nat)) (s : St), LkJ n no S0 s kept rest →
    LkI n (wset (lookG no rest kept s).1 no (lookG no rest kept s).2.1) ∧ (lookG no rest kept s).1.done = s.done ∧ (lookG no rest kept s).1.rows.length = s.rows.length ∧ -1 ≤ (lookG no rest kept s).2.2 ∧ (lookG no rest kept s).2.2 ≤ 2147483647 ∨ ¬ S0 ≤ 2 * s.rows.length
  | [], kept, s, h => by
    by_cases hS : S0 ≤ 2 * s.rows.length
    · refine .inl ⟨?_, rfl, rfl, by simp [lookG], by simp [lookG]⟩
      have := h.stop hno hS
      simpa [lookG] using this
    · exact .inr hS
  | (r, o) :: rest, kept, s, h => by
    by_cases hS : S0 ≤ 2 * s.rows.length
    · have hp := h.rp (r, o) (List.mem_cons_self)
      unfold lookG
      split
      · exact lookG_keep hno rest _ s (h.keep hp.1)
      · split
        · exact lookG_keep hno rest _ s h.drop
        · rename_i c hc
          have hrl := hp.2.1
          have hrow : s.rows[r]? = some (some c) := by
            rw [List.getD_eq_getElem?_getD, List.getElem?_eq_getElem hrl] at hc
            rw [List.getElem?_eq_getElem hrl]
            exact congrArg some hc
          have h2 := hp.2.2 c hrow
          have hm : ∀ x ∈ swap0 c no, x < 2 * n := fun x hx => h.lit r c hrow x (swap0_mem h2 hx)
          have hl := swap0_len c no
          have h0 : (swap0 c no).getD 0 0 < 2 * n := hm _ (getD_mem (by omega))
          have h' := h.row hrow hl hm
          have hrr : (s.rows.set r (some (swap0 c no))).length = s.rows.length := List.length_set
          have hS' : S0 ≤ 2 * (s.rows.set r (some (swap0 c no))).length := by rw [hrr]; exact hS
          split
          · rcases lookG_keep hno rest _ _ (h'.keep h0) with q | q
            · exact .inl ⟨q.1, q.2.1, by rw [q.2.2.1]; exact hrr, q.2.2.2⟩
            · exact absurd hS' q
          · split
            · rename_i k hk
              have hk1 := List.mem_of_find?_eq_some hk
              have hk2 := List.find?_some hk
              simp only [List.mem_range] at hk1
              simp only [decide_eq_true_eq] at hk2
              have hkl : k + 2 < (swap0 c no).length := by omega
              have hl' : (swap0 c no).getD (k + 2) 0 < 2 * n := hm _ (getD_mem hkl)
              have hne : (swap0 c no).getD (k + 2) 0 ≠ no := fun e => by rw [e, h.no_] at hk2; omega
              have h'' := h.row (c' := ((swap0 c no).set 1 ((swap0 c no).getD (k + 2) 0)).set (k + 2) no) hrow (by simp [hl]) (fun x hx => by
                rcases List.mem_or_eq_of_mem_set hx with hx | hx
                · rcases List.mem_or_eq_of_mem_set hx with hx | hx
                  · exact hm x hx
                  · rw [hx]; exact hl'
                · rw [hx]; exact hno)
              rcases lookG_keep hno rest _ _ (h''.push hl' hne h0) with q | q
              · exact .inl ⟨q.1, q.2.1, by rw [q.2.2.1]; exact List.length_set, q.2.2.2⟩
              · exact absurd (show S0 ≤ 2 * (s.rows.set r _).length by rw [List.length_set]; exact hS) q
            · split
              · refine .inl ⟨?_, rfl, hrr, by simp only []; omega, by have := h.rw_; simp only []; omega⟩
                have := (h'.keep h0).stop hno hS'
                simpa using this
              · rename_i hb1 _ hb2
                have hz : s.truth.getD ((swap0 c no).getD 0 0) 0 = 0 := by omega
                rcases lookG_keep hno rest _ _ ((h'.keep h0).believe (s := { s with rows := s.rows.set r (some (swap0 c no)) }) h0 hz (r : Int)) with q | q
                · exact .inl ⟨q.1, q.2.1, by rw [q.2.2.1]; exact hrr, q.2.2.2⟩
                · exact absurd hS' q
    · exact .inr hS

end Go.Proofs.YtbicefgjompnoaaDoor.Sx
/- Watched literals (plain): what stays so of rows and watches. -/
namespace Go.Proofs.YtbicefgjompnoaaDoor.Sx

/-- sets of literals that bear what is given, and what follows -/
structure NShut (C : List Nat → Prop) (G : List Nat) (S : Nat → Prop) : Prop where
  given : ∀ l ∈ G, S l
  step : ∀ c, C c → ∀ l ∈ c, (∀ l' ∈ c, l' ≠ l → S (opp l')) → S l
/-- what is true, if what is given is -/
def NDer (C : List Nat → Prop) (G : List Nat) (l : Nat) : Prop := ∀ S : Nat → Prop, NShut C G S → S l
theorem NDer.given {C : List Nat → Prop} {G : List Nat} {l : Nat} (h : l ∈ G) : NDer C G l := fun _ hS => hS.given l h
theorem NDer.step {C : List Nat → Prop} {G c : List Nat} {l : Nat} (hc : C c) (hl : l ∈ c) (h : ∀ l' ∈ c, l' ≠ l → NDer C G (opp l')) : NDer C G l := fun S hS => hS.step c hc l hl fun l' h1 h2 => h l' h1 h2 S hS
/-- it cannot be -/
def NCannot (C : List Nat → Prop) (G : List Nat) : Prop := (∃ l, NDer C G l ∧ NDer C G (opp l)) ∨ ∃ c, C c ∧ ∀ l ∈ c, NDer C G (opp l)

/-- rows that are the same but for their order -/
structure RP (A B : List (Option (List Nat))) : Prop where
  fw : ∀ (r : Nat) (a : List Nat), A[r]? = some (some a) → ∃ b, B[r]? = some (some b) ∧ b.Perm a
  bw : ∀ (r : Nat) (b : List Nat), B[r]? = some (some b) → ∃ a, A[r]? = some (some a) ∧ b.Perm a
  len : B.length = A.length
theorem RP.refl (A : List (Option (List Nat))) : RP A A := ⟨fun _ a h => ⟨a, h, List.Perm.refl _⟩, fun _ a h => ⟨a, h, List.Perm.refl _⟩, rfl⟩
theorem RP.trans {A B C : List (Option (List Nat))} (h : RP A B) (k : RP B C) : RP A C :=
  ⟨fun r a ha => by obtain ⟨b, hb, p⟩ := h.fw r a ha; obtain ⟨c, hc, q⟩ := k.fw r b hb; exact ⟨c, hc, q.trans p⟩, fun r c hc => by obtain ⟨b, hb, p⟩ := k.bw r c hc; obtain ⟨a, ha, q⟩ := h.bw r b hb; exact ⟨a, ha, p.trans q⟩, k.len.trans h.len⟩
theorem RP.set {A : List (Option (List Nat))} {r : Nat} {c c' : List Nat} (h : A[r]? = some (some c)) (p : c'.Perm c) : RP A (A.set r (some c')) := by
  have hl := (List.getElem?_eq_some_iff.1 h).1
  refine ⟨fun q a ha => ?_, fun q b hb => ?_, List.length_set⟩
  · by_cases e : r = q
    · subst e
      rw [h] at ha
      have : c = a := by simpa using ha
      subst this
      exact ⟨c', List.getElem?_set_self hl, p⟩
    · exact ⟨a, by rw [List.getElem?_set_ne e]; exact ha, List.Perm.refl _⟩
  · by_cases e : r = q
    · subst e
      rw [List.getElem?_set_self hl] at hb
      have : c' = b := by simpa using hb
      subst this
      exact ⟨c, h, p⟩
    · rw [List.getElem?_set_ne e] at hb
      exact ⟨b, hb, List.Perm.refl _⟩

theorem set_perm : ∀ (t : List Nat) (k l x : Nat), t[k]? = some l → (l :: t.set k x).Perm (x :: t)
  | [], k, l, x, h => by simp at h
  | a :: t, 0, l, x, h => by
    have : a = l := by simpa using h
    subst this
    exact List.Perm.swap x a t
  | a :: t, k + 1, l, x, h => by
    have ih := set_perm t k l x (by simpa using h)
    exact (List.Perm.swap a l _).trans ((ih.cons a).trans (List.Perm.swap x a t))

theorem RP.none_ {A B : List (Option (List Nat))} (h : RP A B) {r : Nat} (hr : A[r]? = some none) : B[r]? = some none := by
  have hl : r < B.length := by rw [h.len]; exact (List.getElem?_eq_some_iff.1 hr).1
  cases hb : B[r] with
  | none => rw [List.getElem?_eq_getElem hl, hb]
  | some b =>
    obtain ⟨a, q, _⟩ := h.bw r b (by rw [List.getElem?_eq_getElem hl, hb])
    rw [hr] at q
    cases q

def upd (W : Nat → List (Nat × Nat)) (l : Nat) (x : List (Nat × Nat)) (k : Nat) : List (Nat × Nat) := if k = l then x else W k
theorem upd_same (W : Nat → List (Nat × Nat)) (l : Nat) (x : List (Nat × Nat)) : upd W l x l = x := if_pos rfl
theorem upd_other (W : Nat → List (Nat × Nat)) {l k : Nat} (x : List (Nat × Nat)) (h : k ≠ l) : upd W l x k = W k := if_neg h

/-- each row of two or more is watched by its first two, and by nothing else -/
structure WOK (rows : List (Option (List Nat))) (W : Nat → List (Nat × Nat)) : Prop where
  wat : ∀ (r : Nat) (c : List Nat) (i : Nat), rows[r]? = some (some c) → 2 ≤ c.length → i < 2 → ∃ o, (r, o) ∈ W (c.getD i 0)
  oth : ∀ (l r o : Nat) (c : List Nat), (r, o) ∈ W l → rows[r]? = some (some c) → o ∈ c ∧ 2 ≤ c.length ∧ (l = c.getD 0 0 ∨ l = c.getD 1 0)
  uq : ∀ l, ((W l).map Prod.fst).Nodup
  nd : ∀ (r : Nat) (c : List Nat), rows[r]? = some (some c) → c.Nodup

section
variable {rows : List (Option (List Nat))} {W : Nat → List (Nat × Nat)} {no r o : Nat} {kept rest : List (Nat × Nat)}
theorem WOK.keep {o' : Nat} (h : WOK rows (upd W no (kept ++ (r, o) :: rest))) (ho : ∀ c, rows[r]? = some (some c) → o' ∈ c) : WOK rows (upd W no ((kept ++ [(r, o')]) ++ rest)) := by
  refine ⟨fun r' c i hc h2 hi => ?_, fun l r' o1 c hm hc => ?_, fun l => ?_, h.nd⟩
  · obtain ⟨o1, hm⟩ := h.wat r' c i hc h2 hi
    by_cases e : c.getD i 0 = no
    · rw [e, upd_same] at hm
      rw [e, upd_same]
      rcases List.mem_append.1 hm with q | q
      · exact ⟨o1, by simp [q]⟩
      · rcases List.mem_cons.1 q with q | q
        · cases q; exact ⟨o', by simp⟩
        · exact ⟨o1, by simp [q]⟩
    · rw [upd_other _ _ e] at hm
      exact ⟨o1, by rw [upd_other _ _ e]; exact hm⟩
  · by_cases e : l = no
    · subst e
      rw [upd_same] at hm
      rcases List.mem_append.1 hm with q | q
      · rcases List.mem_append.1 q with q | q
        · exact h.oth l r' o1 c (by rw [upd_same]; simp [q]) hc
        · cases List.mem_singleton.1 q
          exact ⟨ho c hc, (h.oth l r o c (by rw [upd_same]; simp) hc).2⟩
      · exact h.oth l r' o1 c (by rw [upd_same]; simp [q]) hc
    · rw [upd_other _ _ e] at hm
      exact h.oth l r' o1 c (by rw [upd_other _ _ e]; exact hm) hc
  · have := h.uq l
    by_cases e : l = no
    · subst e
      rw [upd_same] at this ⊢
      simpa using this
    · rw [upd_other _ _ e] at this ⊢
      exact this
theorem WOK.gone (h : WOK rows (upd W no (kept ++ (r, o) :: rest))) (hg : ∀ c, rows[r]? ≠ some (some c)) : WOK rows (upd W no (kept ++ rest)) := by
  refine ⟨fun r' c i hc h2 hi => ?_, fun l r' o1 c hm hc => ?_, fun l => ?_, h.nd⟩
  · obtain ⟨o1, hm⟩ := h.wat r' c i hc h2 hi
    by_cases e : c.getD i 0 = no
    · rw [e, upd_same] at hm
      rw [e, upd_same]
      rcases List.mem_append.1 hm with q | q
      · exact ⟨o1, by simp [q]⟩
      · rcases List.mem_cons.1 q with q | q
        · cases q; exact absurd hc (hg c)
        · exact ⟨o1, by simp [q]⟩
    · rw [upd_other _ _ e] at hm
      exact ⟨o1, by rw [upd_other _ _ e]; exact hm⟩
  · refine h.oth l r' o1 c ?_ hc
    by_cases e : l = no
    · subst e
      rw [upd_same] at hm ⊢
      rcases List.mem_append.1 hm with q | q <;> simp [q]
    · rw [upd_other _ _ e] at hm ⊢
      exact hm
  · have := h.uq l
    by_cases e : l = no
    · subst e
      rw [upd_same] at this ⊢
      refine this.sublist ?_
      simp
    · rw [upd_other _ _ e] at this ⊢
      exact this
theorem WOK.swap {a b : Nat} {t : List Nat} (h : WOK rows W) (hr : rows[r]? = some (some (a :: b :: t))) : WOK (rows.set r (some (b :: a :: t))) W := by
  have hl := (List.getElem?_eq_some_iff.1 hr).1
  have hget : ∀ r' c, (rows.set r (some (b :: a :: t)))[r']? = some (some c) → (r' = r ∧ c = b :: a :: t) ∨ (r' ≠ r ∧ rows[r']? = some (some c)) := fun r' c hc => by
    by_cases e : r = r'
    · subst e
      rw [List.getElem?_set_self hl] at hc
      exact .inl ⟨rfl, by simpa using hc.symm⟩
    · rw [List.getElem?_set_ne e] at hc
      exact .inr ⟨fun q => e q.symm, hc⟩
  refine ⟨fun r' c i hc h2 hi => ?_, fun l r' o1 c hm hc => ?_, h.uq, fun r' c hc => ?_⟩
  · rcases hget r' c hc with ⟨rfl, rfl⟩ | ⟨_, hc⟩
    · have hi : i = 0 ∨ i = 1 := by omega
      rcases hi with rfl | rfl
      · exact h.wat r' (a :: b :: t) 1 hr (by simp) (by omega)
      · exact h.wat r' (a :: b :: t) 0 hr (by simp) (by omega)
    · exact h.wat r' c i hc h2 hi
  · rcases hget r' c hc with ⟨rfl, rfl⟩ | ⟨_, hc⟩
    · obtain ⟨q1, _, q2⟩ := h.oth l r' o1 _ hm hr
      refine ⟨?_, by simp, ?_⟩
      · simp only [List.mem_cons] at q1 ⊢
        rcases q1 with q | q | q <;> simp [q]
      · exact q2.symm
    · exact h.oth l r' o1 c hm hc
  · rcases hget r' c hc with ⟨rfl, rfl⟩ | ⟨_, hc⟩
    · exact (List.Perm.swap b a t).nodup_iff.1 (h.nd r' _ hr) |> fun q => q
    · exact h.nd r' c hc
/-- the watch goes to another literal -/
theorem WOK.move {x0 k l : Nat} {t : List Nat} (h : WOK rows (upd W no (kept ++ (r, o) :: rest))) (hr : rows[r]? = some (some (x0 :: no :: t))) (hl : t[k]? = some l) : WOK (rows.set r (some (x0 :: l :: t.set k no))) (upd (upd W l (W l ++ [(r, x0)])) no (kept ++ rest)) ∧ (x0 :: l :: t.set k no).Perm (x0 :: no :: t) ∧ l ≠ no := by
  have hrl := (List.getElem?_eq_some_iff.1 hr).1
  obtain ⟨hk, hkl⟩ := List.getElem?_eq_some_iff.1 hl
  have hnd := h.nd r _ hr
  have hlt : l ∈ t := hkl ▸ List.getElem_mem hk
  simp only [List.nodup_cons, List.mem_cons, not_or] at hnd
  have hln : l ≠ no := fun e => hnd.2.1 (e ▸ hlt)
  have hlx : l ≠ x0 := fun e => hnd.1.2 (e ▸ hlt)
  have hxn : x0 ≠ no := hnd.1.1
  have hperm : (x0 :: l :: t.set k no).Perm (x0 :: no :: t) := by
    refine List.Perm.cons x0 ?_
    exact set_perm t k l no hl
  have hget : ∀ r' c, (rows.set r (some (x0 :: l :: t.set k no)))[r']? = some (some c) → (r' = r ∧ c = x0 :: l :: t.set k no) ∨ (r' ≠ r ∧ rows[r']? = some (some c)) := fun r' c hc => by
    by_cases e : r = r'
    · subst e
      rw [List.getElem?_set_self hrl] at hc
      exact .inl ⟨rfl, by simpa using hc.symm⟩
    · rw [List.getElem?_set_ne e] at hc
      exact .inr ⟨fun q => e q.symm, hc⟩
  have hW : ∀ k', k' ≠ no → upd W no (kept ++ (r, o) :: rest) k' = W k' := fun k' hk' => upd_other _ _ hk'
  have hno : r ∉ (kept ++ rest).map Prod.fst := by
    have := h.uq no
    rw [upd_same] at this
    simp only [List.map_append, List.map_cons] at this ⊢
    have p : (kept.map Prod.fst ++ r :: rest.map Prod.fst).Perm (r :: (kept.map Prod.fst ++ rest.map Prod.fst)) := List.perm_middle
    exact (List.nodup_cons.1 (p.nodup_iff.1 this)).1
  have hrW : ∀ o1, (r, o1) ∉ W l := fun o1 hm => by
    have := (h.oth l r o1 _ (by rw [hW l hln]; exact hm) hr).2.2
    simp only [List.getD_cons_zero, List.getD_cons_succ] at this
    rcases this with q | q
    · exact hlx q
    · exact hln q
  refine ⟨⟨fun r' c i hc h2 hi => ?_, fun l' r' o1 c hm hc => ?_, fun l' => ?_, fun r' c hc => ?_⟩, hperm, hln⟩
  · rcases hget r' c hc with ⟨rfl, rfl⟩ | ⟨hne, hc⟩
    · have hi : i = 0 ∨ i = 1 := by omega
      rcases hi with rfl | rfl
      · obtain ⟨o1, hm⟩ := h.wat r' _ 0 hr (by simp) (by omega)
        simp only [List.getD_cons_zero] at hm ⊢
        rw [hW x0 hxn] at hm
        exact ⟨o1, by rw [upd_other _ _ hxn, upd_other _ _ (Ne.symm hlx)]; exact hm⟩
      · simp only [List.getD_cons_succ, List.getD_cons_zero]
        exact ⟨x0, by rw [upd_other _ _ hln, upd_same]; simp⟩
    · obtain ⟨o1, hm⟩ := h.wat r' c i hc h2 hi
      refine ⟨o1, ?_⟩
      generalize c.getD i 0 = y at hm ⊢
      by_cases e : y = no
      · subst e
        rw [upd_same] at hm ⊢
        rcases List.mem_append.1 hm with q | q
        · simp [q]
        · rcases List.mem_cons.1 q with q | q
          · cases q; exact absurd rfl hne
          · simp [q]
      · rw [hW y e] at hm
        rw [upd_other _ _ e]
        by_cases e2 : y = l
        · subst e2
          rw [upd_same]
          simp [hm]
        · rw [upd_other _ _ e2]
          exact hm
  · by_cases e : l' = no
    · subst e
      rw [upd_same] at hm
      have hne : r' ≠ r := fun q => hno (by rw [← q]; exact List.mem_map.2 ⟨(r', o1), hm, rfl⟩)
      rcases hget r' c hc with ⟨q, _⟩ | ⟨_, hc⟩
      · exact absurd q hne
      · refine h.oth l' r' o1 c ?_ hc
        rw [upd_same]
        rcases List.mem_append.1 hm with q | q <;> simp [q]
    · rw [upd_other _ _ e] at hm
      by_cases e2 : l' = l
      · subst e2
        rw [upd_same] at hm
        rcases List.mem_append.1 hm with q | q
        · have hne : r' ≠ r := fun z => hrW o1 (by rw [← z]; exact q)
          rcases hget r' c hc with ⟨z, _⟩ | ⟨_, hc⟩
          · exact absurd z hne
          · exact h.oth l' r' o1 c (by rw [hW l' e]; exact q) hc
        · cases List.mem_singleton.1 q
          rcases hget r c hc with ⟨_, rfl⟩ | ⟨z, _⟩
          · exact ⟨by simp, by simp, .inr rfl⟩
          · exact absurd rfl z
      · rw [upd_other _ _ e2] at hm
        have hm' : (r', o1) ∈ upd W no (kept ++ (r, o) :: rest) l' := by rw [hW l' e]; exact hm
        rcases hget r' c hc with ⟨rfl, rfl⟩ | ⟨_, hc⟩
        · obtain ⟨q1, _, q2⟩ := h.oth l' r' o1 _ hm' hr
          refine ⟨hperm.mem_iff.2 q1, by simp, ?_⟩
          simp only [List.getD_cons_zero, List.getD_cons_succ] at q2 ⊢
          rcases q2 with q | q
          · exact .inl q
          · exact absurd q e
        · exact h.oth l' r' o1 c hm' hc
  · by_cases e : l' = no
    · subst e
      rw [upd_same]
      have := h.uq l'
      rw [upd_same] at this
      exact this.sublist (by simp)
    · rw [upd_other _ _ e]
      by_cases e2 : l' = l
      · subst e2
        rw [upd_same, List.map_append]
        have := h.uq l'
        rw [hW l' e] at this
        rw [List.nodup_append]
        refine ⟨this, by simp, fun a ha b hb => ?_⟩
        simp at hb
        rw [hb]
        intro z
        obtain ⟨p, hp, hpe⟩ := List.mem_map.1 ha
        obtain ⟨p1, p2⟩ := p
        simp only at hpe
        rw [hpe, z] at hp
        exact hrW p2 hp
      · rw [upd_other _ _ e2]
        have := h.uq l'
        rw [hW l' e] at this
        exact this
  · rcases hget r' c hc with ⟨rfl, rfl⟩ | ⟨_, hc⟩
    · exact hperm.nodup_iff.2 (h.nd r' _ hr)
    · exact h.nd r' c hc
end

end Go.Proofs.YtbicefgjompnoaaDoor.Sx
