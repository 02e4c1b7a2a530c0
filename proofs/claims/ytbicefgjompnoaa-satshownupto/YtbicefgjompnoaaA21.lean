/- Watched literals (plain): what stays so of rows and watches. -/
import Derived.Test.YtbicefgjompnoaaA20
namespace Go.Proofs.Ytbicefgjompnoaa.Sx

/-- sets of literals that bear what is given, and what follows -/
structure NShut (C : List Nat → Prop) (G : List Nat) (S : Nat → Prop) : Prop where
  given : ∀ l ∈ G, S l
  step : ∀ c, C c → ∀ l ∈ c, (∀ l' ∈ c, l' ≠ l → S (opp l')) → S l
/-- what is true, if what is given is -/
def NDer (C : List Nat → Prop) (G : List Nat) (l : Nat) : Prop := ∀ S : Nat → Prop, NShut C G S → S l
theorem NDer.given {C : List Nat → Prop} {G : List Nat} {l : Nat} (h : l ∈ G) : NDer C G l := fun _ hS => hS.given l h
theorem NDer.step {C : List Nat → Prop} {G c : List Nat} {l : Nat} (hc : C c) (hl : l ∈ c) (h : ∀ l' ∈ c, l' ≠ l → NDer C G (opp l')) : NDer C G l := fun S hS => hS.step c hc l hl fun l' h1 h2 => h l' h1 h2 S hS
/-- it cannot be -/
def NCannot (C : List Nat → Prop) (G : List Nat) : Prop := (∃ l, NDer C G l ∧ NDer C G (opp l)) ∨ ∃ c, C c ∧ ∀ l ∈ c, NDer C G (opp l)

/-- rows that are the same but for their order -/
structure RP (A B : List (Option (List Nat))) : Prop where
  fw : ∀ (r : Nat) (a : List Nat), A[r]? = some (some a) → ∃ b, B[r]? = some (some b) ∧ b.Perm a
  bw : ∀ (r : Nat) (b : List Nat), B[r]? = some (some b) → ∃ a, A[r]? = some (some a) ∧ b.Perm a
  len : B.length = A.length
theorem RP.refl (A : List (Option (List Nat))) : RP A A := ⟨fun _ a h => ⟨a, h, List.Perm.refl _⟩, fun _ a h => ⟨a, h, List.Perm.refl _⟩, rfl⟩
theorem RP.trans {A B C : List (Option (List Nat))} (h : RP A B) (k : RP B C) : RP A C :=
  ⟨fun r a ha => by obtain ⟨b, hb, p⟩ := h.fw r a ha; obtain ⟨c, hc, q⟩ := k.fw r b hb; exact ⟨c, hc, q.trans p⟩, fun r c hc => by obtain ⟨b, hb, p⟩ := k.bw r c hc; obtain ⟨a, ha, q⟩ := h.bw r b hb; exact ⟨a, ha, p.trans q⟩, k.len.trans h.len⟩
theorem RP.set {A : List (Option (List Nat))} {r : Nat} {c c' : List Nat} (h : A[r]? = some (some c)) (p : c'.Perm c) : RP A (A.set r (some c')) := by
  have hl := (List.getElem?_eq_some_iff.1 h).1
  refine ⟨fun q a ha => ?_, fun q b hb => ?_, List.length_set⟩
  · by_cases e : r = q
    · subst e
      rw [h] at ha
      have : c = a := by simpa using ha
      subst this
      exact ⟨c', List.getElem?_set_self hl, p⟩
    · exact ⟨a, by rw [List.getElem?_set_ne e]; exact ha, List.Perm.refl _⟩
  · by_cases e : r = q
    · subst e
      rw [List.getElem?_set_self hl] at hb
      have : c' = b := by simpa using hb
      subst this
      exact ⟨c, h, p⟩
    · rw [List.getElem?_set_ne e] at hb
      exact ⟨b, hb, List.Perm.refl _⟩

theorem set_perm : ∀ (t : List Nat) (k l x : Nat), t[k]? = some l → (l :: t.set k x).Perm (x :: t)
  | [], k, l, x, h => by simp at h
  | a :: t, 0, l, x, h => by
    have : a = l := by simpa using h
    subst this
    exact List.Perm.swap x a t
  | a :: t, k + 1, l, x, h => by
    have ih := set_perm t k l x (by simpa using h)
    exact (List.Perm.swap a l _).trans ((ih.cons a).trans (List.Perm.swap x a t))

theorem RP.none_ {A B : List (Option (List Nat))} (h : RP A B) {r : Nat} (hr : A[r]? = some none) : B[r]? = some none := by
  have hl : r < B.length := by rw [h.len]; exact (List.getElem?_eq_some_iff.1 hr).1
  cases hb : B[r] with
  | none => rw [List.getElem?_eq_getElem hl, hb]
  | some b =>
    obtain ⟨a, q, _⟩ := h.bw r b (by rw [List.getElem?_eq_getElem hl, hb])
    rw [hr] at q
    cases q

def upd (W : Nat → List (Nat × Nat)) (l : Nat) (x : List (Nat × Nat)) (k : Nat) : List (Nat × Nat) := if k = l then x else W k
theorem upd_same (W : Nat → List (Nat × Nat)) (l : Nat) (x : List (Nat × Nat)) : upd W l x l = x := if_pos rfl
theorem upd_other (W : Nat → List (Nat × Nat)) {l k : Nat} (x : List (Nat × Nat)) (h : k ≠ l) : upd W l x k = W k := if_neg h

/-- each row of two or more is watched by its first two, and by nothing else -/
structure WOK (rows : List (Option (List Nat))) (W : Nat → List (Nat × Nat)) : Prop where
  wat : ∀ (r : Nat) (c : List Nat) (i : Nat), rows[r]? = some (some c) → 2 ≤ c.length → i < 2 → ∃ o, (r, o) ∈ W (c.getD i 0)
  oth : ∀ (l r o : Nat) (c : List Nat), (r, o) ∈ W l → rows[r]? = some (some c) → o ∈ c ∧ 2 ≤ c.length ∧ (l = c.getD 0 0 ∨ l = c.getD 1 0)
  uq : ∀ l, ((W l).map Prod.fst).Nodup
  nd : ∀ (r : Nat) (c : List Nat), rows[r]? = some (some c) → c.Nodup

section
variable {rows : List (Option (List Nat))} {W : Nat → List (Nat × Nat)} {no r o : Nat} {kept rest : List (Nat × Nat)}
theorem WOK.keep {o' : Nat} (h : WOK rows (upd W no (kept ++ (r, o) :: rest))) (ho : ∀ c, rows[r]? = some (some c) → o' ∈ c) : WOK rows (upd W no ((kept ++ [(r, o')]) ++ rest)) := by
  refine ⟨fun r' c i hc h2 hi => ?_, fun l r' o1 c hm hc => ?_, fun l => ?_, h.nd⟩
  · obtain ⟨o1, hm⟩ := h.wat r' c i hc h2 hi
    by_cases e : c.getD i 0 = no
    · rw [e, upd_same] at hm
      rw [e, upd_same]
      rcases List.mem_append.1 hm with q | q
      · exact ⟨o1, by simp [q]⟩
      · rcases List.mem_cons.1 q with q | q
        · cases q; exact ⟨o', by simp⟩
        · exact ⟨o1, by simp [q]⟩
    · rw [upd_other _ _ e] at hm
      exact ⟨o1, by rw [upd_other _ _ e]; exact hm⟩
  · by_cases e : l = no
    · subst e
      rw [upd_same] at hm
      rcases List.mem_append.1 hm with q | q
      · rcases List.mem_append.1 q with q | q
        · exact h.oth l r' o1 c (by rw [upd_same]; simp [q]) hc
        · cases List.mem_singleton.1 q
          exact ⟨ho c hc, (h.oth l r o c (by rw [upd_same]; simp) hc).2⟩
      · exact h.oth l r' o1 c (by rw [upd_same]; simp [q]) hc
    · rw [upd_other _ _ e] at hm
      exact h.oth l r' o1 c (by rw [upd_other _ _ e]; exact hm) hc
  · have := h.uq l
    by_cases e : l = no
    · subst e
      rw [upd_same] at this ⊢
      simpa using this
    · rw [upd_other _ _ e] at this ⊢
      exact this
theorem WOK.gone (h : WOK rows (upd W no (kept ++ (r, o) :: rest))) (hg : ∀ c, rows[r]? ≠ some (some c)) : WOK rows (upd W no (kept ++ rest)) := by
  refine ⟨fun r' c i hc h2 hi => ?_, fun l r' o1 c hm hc => ?_, fun l => ?_, h.nd⟩
  · obtain ⟨o1, hm⟩ := h.wat r' c i hc h2 hi
    by_cases e : c.getD i 0 = no
    · rw [e, upd_same] at hm
      rw [e, upd_same]
      rcases List.mem_append.1 hm with q | q
      · exact ⟨o1, by simp [q]⟩
      · rcases List.mem_cons.1 q with q | q
        · cases q; exact absurd hc (hg c)
        · exact ⟨o1, by simp [q]⟩
    · rw [upd_other _ _ e] at hm
      exact ⟨o1, by rw [upd_other _ _ e]; exact hm⟩
  · refine h.oth l r' o1 c ?_ hc
    by_cases e : l = no
    · subst e
      rw [upd_same] at hm ⊢
      rcases List.mem_append.1 hm with q | q <;> simp [q]
    · rw [upd_other _ _ e] at hm ⊢
      exact hm
  · have := h.uq l
    by_cases e : l = no
    · subst e
      rw [upd_same] at this ⊢
      refine this.sublist ?_
      simp
    · rw [upd_other _ _ e] at this ⊢
      exact this
theorem WOK.swap {a b : Nat} {t : List Nat} (h : WOK rows W) (hr : rows[r]? = some (some (a :: b :: t))) : WOK (rows.set r (some (b :: a :: t))) W := by
  have hl := (List.getElem?_eq_some_iff.1 hr).1
  have hget : ∀ r' c, (rows.set r (some (b :: a :: t)))[r']? = some (some c) → (r' = r ∧ c = b :: a :: t) ∨ (r' ≠ r ∧ rows[r']? = some (some c)) := fun r' c hc => by
    by_cases e : r = r'
    · subst e
      rw [List.getElem?_set_self hl] at hc
      exact .inl ⟨rfl, by simpa using hc.symm⟩
    · rw [List.getElem?_set_ne e] at hc
      exact .inr ⟨fun q => e q.symm, hc⟩
  refine ⟨fun r' c i hc h2 hi => ?_, fun l r' o1 c hm hc => ?_, h.uq, fun r' c hc => ?_⟩
  · rcases hget r' c hc with ⟨rfl, rfl⟩ | ⟨_, hc⟩
    · have hi : i = 0 ∨ i = 1 := by omega
      rcases hi with rfl | rfl
      · exact h.wat r' (a :: b :: t) 1 hr (by simp) (by omega)
      · exact h.wat r' (a :: b :: t) 0 hr (by simp) (by omega)
    · exact h.wat r' c i hc h2 hi
  · rcases hget r' c hc with ⟨rfl, rfl⟩ | ⟨_, hc⟩
    · obtain ⟨q1, _, q2⟩ := h.oth l r' o1 _ hm hr
      refine ⟨?_, by simp, ?_⟩
      · simp only [List.mem_cons] at q1 ⊢
        rcases q1 with q | q | q <;> simp [q]
      · exact q2.symm
    · exact h.oth l r' o1 c hm hc
  · rcases hget r' c hc with ⟨rfl, rfl⟩ | ⟨_, hc⟩
    · exact (List.Perm.swap b a t).nodup_iff.1 (h.nd r' _ hr) |> fun q => q
    · exact h.nd r' c hc
/-- the watch goes to another literal -/
theorem WOK.move {x0 k l : Nat} {t : List Nat} (h : WOK rows (upd W no (kept ++ (r, o) :: rest))) (hr : rows[r]? = some (some (x0 :: no :: t))) (hl : t[k]? = some l) : WOK (rows.set r (some (x0 :: l :: t.set k no))) (upd (upd W l (W l ++ [(r, x0)])) no (kept ++ rest)) ∧ (x0 :: l :: t.set k no).Perm (x0 :: no :: t) ∧ l ≠ no := by
  have hrl := (List.getElem?_eq_some_iff.1 hr).1
  obtain ⟨hk, hkl⟩ := List.getElem?_eq_some_iff.1 hl
  have hnd := h.nd r _ hr
  have hlt : l ∈ t := hkl ▸ List.getElem_mem hk
  simp only [List.nodup_cons, List.mem_cons, not_or] at hnd
  have hln : l ≠ no := fun e => hnd.2.1 (e ▸ hlt)
  have hlx : l ≠ x0 := fun e => hnd.1.2 (e ▸ hlt)
  have hxn : x0 ≠ no := hnd.1.1
  have hperm : (x0 :: l :: t.set k no).Perm (x0 :: no :: t) := by
    refine List.Perm.cons x0 ?_
    exact set_perm t k l no hl
  have hget : ∀ r' c, (rows.set r (some (x0 :: l :: t.set k no)))[r']? = some (some c) → (r' = r ∧ c = x0 :: l :: t.set k no) ∨ (r' ≠ r ∧ rows[r']? = some (some c)) := fun r' c hc => by
    by_cases e : r = r'
    · subst e
      rw [List.getElem?_set_self hrl] at hc
      exact .inl ⟨rfl, by simpa using hc.symm⟩
    · rw [List.getElem?_set_ne e] at hc
      exact .inr ⟨fun q => e q.symm, hc⟩
  have hW : ∀ k', k' ≠ no → upd W no (kept ++ (r, o) :: rest) k' = W k' := fun k' hk' => upd_other _ _ hk'
  have hno : r ∉ (kept ++ rest).map Prod.fst := by
    have := h.uq no
    rw [upd_same] at this
    simp only [List.map_append, List.map_cons] at this ⊢
    have p : (kept.map Prod.fst ++ r :: rest.map Prod.fst).Perm (r :: (kept.map Prod.fst ++ rest.map Prod.fst)) := List.perm_middle
    exact (List.nodup_cons.1 (p.nodup_iff.1 this)).1
  have hrW : ∀ o1, (r, o1) ∉ W l := fun o1 hm => by
    have := (h.oth l r o1 _ (by rw [hW l hln]; exact hm) hr).2.2
    simp only [List.getD_cons_zero, List.getD_cons_succ] at this
    rcases this with q | q
    · exact hlx q
    · exact hln q
  refine ⟨⟨fun r' c i hc h2 hi => ?_, fun l' r' o1 c hm hc => ?_, fun l' => ?_, fun r' c hc => ?_⟩, hperm, hln⟩
  · rcases hget r' c hc with ⟨rfl, rfl⟩ | ⟨hne, hc⟩
    · have hi : i = 0 ∨ i = 1 := by omega
      rcases hi with rfl | rfl
      · obtain ⟨o1, hm⟩ := h.wat r' _ 0 hr (by simp) (by omega)
        simp only [List.getD_cons_zero] at hm ⊢
        rw [hW x0 hxn] at hm
        exact ⟨o1, by rw [upd_other _ _ hxn, upd_other _ _ (Ne.symm hlx)]; exact hm⟩
      · simp only [List.getD_cons_succ, List.getD_cons_zero]
        exact ⟨x0, by rw [upd_other _ _ hln, upd_same]; simp⟩
    · obtain ⟨o1, hm⟩ := h.wat r' c i hc h2 hi
      refine ⟨o1, ?_⟩
      generalize c.getD i 0 = y at hm ⊢
      by_cases e : y = no
      · subst e
        rw [upd_same] at hm ⊢
        rcases List.mem_append.1 hm with q | q
        · simp [q]
        · rcases List.mem_cons.1 q with q | q
          · cases q; exact absurd rfl hne
          · simp [q]
      · rw [hW y e] at hm
        rw [upd_other _ _ e]
        by_cases e2 : y = l
        · subst e2
          rw [upd_same]
          simp [hm]
        · rw [upd_other _ _ e2]
          exact hm
  · by_cases e : l' = no
    · subst e
      rw [upd_same] at hm
      have hne : r' ≠ r := fun q => hno (by rw [← q]; exact List.mem_map.2 ⟨(r', o1), hm, rfl⟩)
      rcases hget r' c hc with ⟨q, _⟩ | ⟨_, hc⟩
      · exact absurd q hne
      · refine h.oth l' r' o1 c ?_ hc
        rw [upd_same]
        rcases List.mem_append.1 hm with q | q <;> simp [q]
    · rw [upd_other _ _ e] at hm
      by_cases e2 : l' = l
      · subst e2
        rw [upd_same] at hm
        rcases List.mem_append.1 hm with q | q
        · have hne : r' ≠ r := fun z => hrW o1 (by rw [← z]; exact q)
          rcases hget r' c hc with ⟨z, _⟩ | ⟨_, hc⟩
          · exact absurd z hne
          · exact h.oth l' r' o1 c (by rw [hW l' e]; exact q) hc
        · cases List.mem_singleton.1 q
          rcases hget r c hc with ⟨_, rfl⟩ | ⟨z, _⟩
          · exact ⟨by simp, by simp, .inr rfl⟩
          · exact absurd rfl z
      · rw [upd_other _ _ e2] at hm
        have hm' : (r', o1) ∈ upd W no (kept ++ (r, o) :: rest) l' := by rw [hW l' e]; exact hm
        rcases hget r' c hc with ⟨rfl, rfl⟩ | ⟨_, hc⟩
        · obtain ⟨q1, _, q2⟩ := h.oth l' r' o1 _ hm' hr
          refine ⟨hperm.mem_iff.2 q1, by simp, ?_⟩
          simp only [List.getD_cons_zero, List.getD_cons_succ] at q2 ⊢
          rcases q2 with q | q
          · exact .inl q
          · exact absurd q e
        · exact h.oth l' r' o1 c hm' hc
  · by_cases e : l' = no
    · subst e
      rw [upd_same]
      have := h.uq l'
      rw [upd_same] at this
      exact this.sublist (by simp)
    · rw [upd_other _ _ e]
      by_cases e2 : l' = l
      · subst e2
        rw [upd_same, List.map_append]
        have := h.uq l'
        rw [hW l' e] at this
        rw [List.nodup_append]
        refine ⟨this, by simp, fun a ha b hb => ?_⟩
        simp at hb
        rw [hb]
        intro z
        obtain ⟨p, hp, hpe⟩ := List.mem_map.1 ha
        obtain ⟨p1, p2⟩ := p
        simp only at hpe
        rw [hpe, z] at hp
        exact hrW p2 hp
      · rw [upd_other _ _ e2]
        have := h.uq l'
        rw [hW l' e] at this
        exact this
  · rcases hget r' c hc with ⟨rfl, rfl⟩ | ⟨_, hc⟩
    · exact hperm.nodup_iff.2 (h.nd r' _ hr)
    · exact h.nd r' c hc
end

end Go.Proofs.Ytbicefgjompnoaa.Sx
