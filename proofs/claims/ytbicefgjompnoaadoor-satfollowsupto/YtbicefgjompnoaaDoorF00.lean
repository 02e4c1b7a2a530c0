/- What follows of clauses: what can be derived, and the reference's way to find it. -/
import Derived.Test.YtbicefgjompnoaaDoorProg
import Derived.Deep.LoopGhost
import Derived.Deep.RegionHeld3
import Derived.Shelf.RegionOpenPlain
import Derived.OwnWalk
import Derived.Laws.MakeOwn
import Derived.WalkKit
import Derived.WalkSpells
import Derived.WalkLawsBesides
import Derived.Sort.Grow
import Derived.Deep.Draws
import Derived.Shelf.SlSortCmp.QuietGrown
namespace Go.Proofs.YtbicefgjompnoaaDoor.Sx

/-- sets of literals that bear what is given, and what follows -/
structure Shut (C : List (List Int)) (G : List Int) (S : Int → Prop) : Prop where
  given : ∀ l ∈ G, S l
  step : ∀ c ∈ C, ∀ l ∈ c, (∀ l' ∈ c, l' ≠ l → S (-l')) → S l
/-- what is true, if what is given is -/
def Der (C : List (List Int)) (G : List Int) (l : Int) : Prop := ∀ S : Int → Prop, Shut C G S → S l
theorem Der.given {C : List (List Int)} {G : List Int} {l : Int} (h : l ∈ G) : Der C G l := fun _ hS => hS.given l h
theorem Der.step {C : List (List Int)} {G : List Int} {c : List Int} {l : Int} (hc : c ∈ C) (hl : l ∈ c) (h : ∀ l' ∈ c, l' ≠ l → Der C G (-l')) : Der C G l := fun S hS => hS.step c hc l hl fun l' h1 h2 => h l' h1 h2 S hS
/-- it cannot be -/
def Cannot (C : List (List Int)) (G : List Int) : Prop := (∃ l, Der C G l ∧ Der C G (-l)) ∨ ∃ c ∈ C, ∀ l ∈ c, Der C G (-l)

/-- what a literal is by a table of variables: 1 true, -1 false, 0 neither -/
def vAt (val : List Int) (l : Int) : Int := if l < 0 then -(val.getD l.natAbs 0) else val.getD l.natAbs 0
def sgn (l : Int) : Int := if l < 0 then -1 else 1
def setV (val : List Int) (l : Int) : List Int := val.set l.natAbs (sgn l)
/-- a literal over n variables -/
def LitN (n : Nat) (l : Int) : Prop := l ≠ 0 ∧ -(n : Int) ≤ l ∧ l ≤ n

theorem vAt_neg {val : List Int} {l : Int} (h : l ≠ 0) : vAt val (-l) = -vAt val l := by
  unfold vAt
  rw [Int.natAbs_neg]
  by_cases h1 : l < 0
  · rw [if_neg (by omega), if_pos h1]; simp
  · rw [if_pos (by omega), if_neg h1]
theorem vAt_set_same {val : List Int} {n : Nat} {l : Int} (hl : LitN n l) (hv : val.length = n + 1) : vAt (setV val l) l = 1 := by
  have : l.natAbs < val.length := by unfold LitN at hl; omega
  unfold vAt setV sgn
  rw [List.getD_eq_getElem?_getD, List.getElem?_set_self this]
  split <;> simp
theorem vAt_set_other {val : List Int} {l l' : Int} (h : l'.natAbs ≠ l.natAbs) : vAt (setV val l) l' = vAt val l' := by
  unfold vAt setV
  rw [List.getD_eq_getElem?_getD, List.getD_eq_getElem?_getD, List.getElem?_set_ne (Ne.symm h)]
theorem natAbs_cases {l l' : Int} (h : l'.natAbs = l.natAbs) : l' = l ∨ l' = -l := by omega

/-- a table of n variables whose truths can all be derived -/
structure Tv (n : Nat) (C : List (List Int)) (G : List Int) (val : List Int) : Prop where
  len : val.length = n + 1
  three : ∀ l, vAt val l = 1 ∨ vAt val l = 0 ∨ vAt val l = -1
  der : ∀ l, l ≠ 0 → vAt val l = 1 → Der C G l

theorem Tv.neg {n : Nat} {C : List (List Int)} {G val : List Int} (h : Tv n C G val) {l : Int} (hl : l ≠ 0) (hv : vAt val l = -1) : Der C G (-l) := h.der (-l) (by omega) (by rw [vAt_neg hl, hv]; rfl)
theorem Tv.set {n : Nat} {C : List (List Int)} {G val : List Int} (h : Tv n C G val) {l : Int} (hl : LitN n l) (hd : Der C G l) : Tv n C G (setV val l) := by
  have e := vAt_set_same hl h.len
  have hz := hl.1
  refine ⟨by simp [setV, h.len], fun l' => ?_, fun l' h0 h1 => ?_⟩
  · by_cases q : l'.natAbs = l.natAbs
    · rcases natAbs_cases q with rfl | rfl
      · exact .inl e
      · exact .inr (.inr (by rw [vAt_neg hz, e]))
    · rw [vAt_set_other q]; exact h.three l'
  · by_cases q : l'.natAbs = l.natAbs
    · rcases natAbs_cases q with rfl | rfl
      · exact hd
      · rw [vAt_neg hz, e] at h1; omega
    · rw [vAt_set_other q] at h1; exact h.der l' h0 h1

/-- how many unlike literals of a clause are open, and the open one -/
def unitP (val : List Int) : List Int → Int → Int × Nat
  | [], o => if o = 0 then (0, 0) else (o, 1)
  | l :: c, o => if 0 < vAt val l then (0, 2) else if vAt val l = 0 ∧ o ≠ 0 ∧ l ≠ o then (0, 2) else unitP val c (if vAt val l = 0 then l else o)

theorem unitP_none {val : List Int} : ∀ (c : List Int) (o : Int) (x : Int), (∀ l ∈ c, l ≠ 0) → unitP val c o = (x, 0) → o = 0 ∧ ∀ l ∈ c, vAt val l < 0
  | [], o, x, _, h => by
    unfold unitP at h
    by_cases q : o = 0
    · exact ⟨q, by simp⟩
    · rw [if_neg q] at h; cases h
  | l :: c, o, x, h0, h => by
    unfold unitP at h
    by_cases q1 : 0 < vAt val l
    · rw [if_pos q1] at h; cases h
    rw [if_neg q1] at h
    by_cases q2 : vAt val l = 0 ∧ o ≠ 0 ∧ l ≠ o
    · rw [if_pos q2] at h; cases h
    rw [if_neg q2] at h
    obtain ⟨e1, e2⟩ := unitP_none c _ x (fun l hl => h0 l (List.mem_cons_of_mem _ hl)) h
    by_cases q3 : vAt val l = 0
    · rw [if_pos q3] at e1; exact absurd e1 (h0 l (List.mem_cons_self ..))
    · rw [if_neg q3] at e1
      refine ⟨e1, fun l' hl' => ?_⟩
      rcases List.mem_cons.1 hl' with rfl | hl'
      · omega
      · exact e2 l' hl'
theorem unitP_one {val : List Int} : ∀ (c : List Int) (o : Int) (x : Int), (∀ l ∈ c, l ≠ 0) → unitP val c o = (x, 1) → x ≠ 0 ∧ (x = o ∨ (x ∈ c ∧ vAt val x = 0)) ∧ (o ≠ 0 → x = o) ∧ ∀ l ∈ c, l ≠ x → vAt val l < 0
  | [], o, x, _, h => by
    unfold unitP at h
    by_cases q : o = 0
    · rw [if_pos q] at h; cases h
    · rw [if_neg q] at h; cases h; exact ⟨q, .inl rfl, fun _ => rfl, by simp⟩
  | l :: c, o, x, h0, h => by
    unfold unitP at h
    by_cases q1 : 0 < vAt val l
    · rw [if_pos q1] at h; cases h
    rw [if_neg q1] at h
    by_cases q2 : vAt val l = 0 ∧ o ≠ 0 ∧ l ≠ o
    · rw [if_pos q2] at h; cases h
    rw [if_neg q2] at h
    obtain ⟨e0, e1, e2, e3⟩ := unitP_one c _ x (fun l hl => h0 l (List.mem_cons_of_mem _ hl)) h
    have hl0 := h0 l (List.mem_cons_self ..)
    by_cases q3 : vAt val l = 0
    · rw [if_pos q3] at e1 e2
      have exl : x = l := e2 hl0
      refine ⟨e0, .inr ⟨by rw [exl]; exact List.mem_cons_self .., by rw [exl]; exact q3⟩, fun ho => ?_, fun l' hl' hne => ?_⟩
      · rw [exl]
        rcases Classical.em (l = o) with e | e
        · exact e
        · exact absurd ⟨q3, ho, e⟩ q2
      · rcases List.mem_cons.1 hl' with rfl | hl'
        · exact absurd exl.symm hne
        · exact e3 l' hl' hne
    · rw [if_neg q3] at e1 e2
      refine ⟨e0, ?_, e2, fun l' hl' hne => ?_⟩
      · rcases e1 with e | ⟨e, e'⟩
        · exact .inl e
        · exact .inr ⟨List.mem_cons_of_mem _ e, e'⟩
      · rcases List.mem_cons.1 hl' with rfl | hl'
        · omega
        · exact e3 l' hl' hne
/-- two: one is true, or two unlike ones are open -/
theorem unitP_two {val : List Int} : ∀ (c : List Int) (o : Int) (x : Int), unitP val c o = (x, 2) → (∃ l ∈ c, 0 < vAt val l) ∨ (∃ l ∈ c, vAt val l = 0 ∧ o ≠ 0 ∧ l ≠ o) ∨ ∃ l ∈ c, ∃ l' ∈ c, l ≠ l' ∧ vAt val l = 0 ∧ vAt val l' = 0
  | [], o, x, h => by
    unfold unitP at h
    by_cases q : o = 0
    · rw [if_pos q] at h; cases h
    · rw [if_neg q] at h; cases h
  | l :: c, o, x, h => by
    unfold unitP at h
    by_cases q1 : 0 < vAt val l
    · exact .inl ⟨l, List.mem_cons_self .., q1⟩
    rw [if_neg q1] at h
    by_cases q2 : vAt val l = 0 ∧ o ≠ 0 ∧ l ≠ o
    · exact .inr (.inl ⟨l, List.mem_cons_self .., q2⟩)
    rw [if_neg q2] at h
    rcases unitP_two c _ x h with ⟨a, ha, hb⟩ | ⟨a, ha, hb, hc, hd⟩ | ⟨a, ha, b, hb, hc⟩
    · exact .inl ⟨a, List.mem_cons_of_mem _ ha, hb⟩
    · by_cases q3 : vAt val l = 0
      · rw [if_pos q3] at hd
        exact .inr (.inr ⟨l, List.mem_cons_self .., a, List.mem_cons_of_mem _ ha, Ne.symm hd, q3, hb⟩)
      · rw [if_neg q3] at hc hd
        exact .inr (.inl ⟨a, List.mem_cons_of_mem _ ha, hb, hc, hd⟩)
    · exact .inr (.inr ⟨a, List.mem_cons_of_mem _ ha, b, List.mem_cons_of_mem _ hb, hc⟩)
theorem unitP_three {val : List Int} : ∀ (c : List Int) (o : Int), (unitP val c o).2 = 0 ∨ (unitP val c o).2 = 1 ∨ (unitP val c o).2 = 2
  | [], o => by unfold unitP; split <;> simp
  | l :: c, o => by
    unfold unitP
    split
    · simp
    · split
      · simp
      · exact unitP_three c _

/-- what is closed bears all that can be derived -/
theorem closed_der {C : List (List Int)} {G val : List Int} (h0 : ∀ c ∈ C, ∀ l ∈ c, l ≠ 0) (hG0 : ∀ l ∈ G, l ≠ 0) (hG : ∀ l ∈ G, 0 < vAt val l) (hC : ∀ c ∈ C, (unitP val c 0).2 = 2) {l : Int} (h : Der C G l) : l ≠ 0 ∧ 0 < vAt val l := by
  refine h (fun l => l ≠ 0 ∧ 0 < vAt val l) ⟨fun l hl => ⟨hG0 _ hl, hG _ hl⟩, ?_⟩
  · intro c hc l hl ih
    have hl0 := h0 c hc l hl
    refine ⟨hl0, ?_⟩
    have oth : ∀ l' ∈ c, l' ≠ l → vAt val l' < 0 := fun l' hl' hne => by
      have := (ih l' hl' hne).2
      rw [vAt_neg (h0 c hc l' hl')] at this
      omega
    have h2 := hC c hc
    rcases unitP_two c 0 (unitP val c 0).1 (by rw [← h2]) with ⟨a, ha, hb⟩ | ⟨a, _, _, q, _⟩ | ⟨a, ha, b, hb, hne, h3, h4⟩
    · rcases Classical.em (a = l) with e | e
      · rw [← e]; exact hb
      · have := oth a ha e; omega
    · exact absurd rfl q
    · rcases Classical.em (a = l) with e | e
      · have := oth b hb (fun q => hne (e.trans q.symm)); omega
      · have := oth a ha e; omega
theorem closed_can {C : List (List Int)} {G val : List Int} (h0 : ∀ c ∈ C, ∀ l ∈ c, l ≠ 0) (hG0 : ∀ l ∈ G, l ≠ 0) (hG : ∀ l ∈ G, 0 < vAt val l) (hC : ∀ c ∈ C, (unitP val c 0).2 = 2) : ¬ Cannot C G := by
  rintro (⟨l, h1, h2⟩ | ⟨c, hc, h⟩)
  · obtain ⟨e0, e1⟩ := closed_der h0 hG0 hG hC h1
    have e2 := (closed_der h0 hG0 hG hC h2).2
    rw [vAt_neg e0] at e2
    omega
  · have oth : ∀ l ∈ c, vAt val l < 0 := fun l hl => by
      have := (closed_der h0 hG0 hG hC (h l hl)).2
      rw [vAt_neg (h0 c hc l hl)] at this
      omega
    rcases unitP_two c 0 (unitP val c 0).1 (by rw [← hC c hc]) with ⟨a, ha, hb⟩ | ⟨a, _, _, q, _⟩ | ⟨a, ha, b, hb, hne, h3, h4⟩
    · have := oth a ha; omega
    · exact absurd rfl q
    · have := oth a ha; omega

end Go.Proofs.YtbicefgjompnoaaDoor.Sx
/- What follows of clauses: the reference's rounds, and that they come to an end. -/
namespace Go.Proofs.YtbicefgjompnoaaDoor.Sx

/-- one round through the clauses -/
def passP (val : List Int) : List (List Int) → Bool → Option (List Int × Bool)
  | [], more => some (val, more)
  | c :: C, more => match unitP val c 0 with
    | (_, 0) => none
    | (l, 1) => passP (setV val l) C true
    | _ => passP val C more
/-- rounds, as long as something came of them -/
def loopP : Nat → List Int → List (List Int) → Option (Option (List Int))
  | 0, _, _ => none
  | f + 1, val, C => match passP val C false with
    | none => some none
    | some (v, false) => some (some v)
    | some (v, true) => loopP f v C
/-- what is given -/
def givenP (val : List Int) : List Int → Option (List Int)
  | [] => some val
  | l :: G => if vAt val l < 0 then none else givenP (setV val l) G

section
variable {n : Nat} {C : List (List Int)} {G : List Int}

theorem count_set {val : List Int} {i : Nat} {v : Int} (hv : v ≠ 0) (h : val[i]? = some 0) : (val.set i v).count 0 + 1 = val.count 0 := by
  induction val generalizing i with
  | nil => simp at h
  | cons x r ih =>
    cases i with
    | zero =>
      obtain rfl : x = 0 := by simpa using h
      simp [hv]
    | succ i =>
      have := ih (i := i) (by simpa using h)
      simp only [List.set_cons_succ, List.count_cons]
      omega
theorem vAt_zero {val : List Int} {l : Int} (hl : LitN n l) (hlen : val.length = n + 1) (h : vAt val l = 0) : val[l.natAbs]? = some 0 := by
  have hi : l.natAbs < val.length := by unfold LitN at hl; omega
  unfold vAt at h
  rw [List.getD_eq_getElem?_getD, List.getElem?_eq_getElem hi] at h
  rw [List.getElem?_eq_getElem hi]
  split at h <;> simp at h <;> simp [h]
theorem sgn_ne (l : Int) : sgn l ≠ 0 := by unfold sgn; split <;> omega

theorem pass_spec (hC : ∀ c ∈ C, ∀ l ∈ c, LitN n l) : ∀ (D : List (List Int)) (val : List Int) (more : Bool), (∀ c ∈ D, c ∈ C) → Tv n C G val →
    match passP val D more with
    | none => Cannot C G
    | some (v, m) => Tv n C G v ∧ v.count 0 ≤ val.count 0 ∧ (∀ l, l ≠ 0 → 0 < vAt val l → 0 < vAt v l) ∧ (m = false → more = false ∧ v = val ∧ ∀ c ∈ D, (unitP val c 0).2 = 2) ∧ (m = true → more = true ∨ v.count 0 < val.count 0)
  | [], val, more, _, hT => by
    unfold passP
    exact ⟨hT, Nat.le_refl _, fun _ _ h => h, fun h => ⟨h, rfl, by simp⟩, fun h => .inl h⟩
  | c :: D, val, more, hD, hT => by
    have hc : c ∈ C := hD c (List.mem_cons_self ..)
    have hD' : ∀ c ∈ D, c ∈ C := fun c h => hD c (List.mem_cons_of_mem _ h)
    have h0 : ∀ l ∈ c, l ≠ 0 := fun l hl => (hC c hc l hl).1
    unfold passP
    rcases hu : unitP val c 0 with ⟨x, k⟩
    have h3 := unitP_three (val := val) c 0
    rw [hu] at h3
    have fls : ∀ l ∈ c, vAt val l < 0 → Der C G (-l) := fun l hl hv => hT.neg (h0 l hl) (by rcases hT.three l with q | q | q <;> omega)
    rcases h3 with rfl | rfl | rfl
    · exact .inr ⟨c, hc, fun l hl => fls l hl ((unitP_none c 0 x h0 hu).2 l hl)⟩
    · obtain ⟨e0, e1, _, e3⟩ := unitP_one c 0 x h0 hu
      obtain ⟨hx, hv⟩ : x ∈ c ∧ vAt val x = 0 := by
        rcases e1 with e | e
        · exact absurd e e0
        · exact e
      have hd : Der C G x := .step hc hx fun l' hl' hne => fls l' hl' (e3 l' hl' hne)
      have hT2 := hT.set (hC c hc x hx) hd
      have hcnt : (setV val x).count 0 + 1 = val.count 0 := count_set (sgn_ne x) (vAt_zero (hC c hc x hx) hT.len hv)
      have ih := pass_spec hC D (setV val x) true hD' hT2
      simp only
      cases hp : passP (setV val x) D true with
      | none => rw [hp] at ih; exact ih
      | some r =>
        obtain ⟨v, m⟩ := r
        rw [hp] at ih
        obtain ⟨i1, i2, i3, i4, i5⟩ := ih
        refine ⟨i1, by omega, fun l hl h => i3 l hl ?_, fun hm => absurd (i4 hm).1 (by decide), fun _ => .inr (by omega)⟩
        by_cases q : l.natAbs = x.natAbs
        · rcases natAbs_cases q with rfl | rfl
          · omega
          · rw [vAt_neg e0, hv] at h; omega
        · rw [vAt_set_other q]; exact h
    · have ih := pass_spec hC D val more hD' hT
      simp only
      cases hp : passP val D more with
      | none => rw [hp] at ih; exact ih
      | some r =>
        obtain ⟨v, m⟩ := r
        rw [hp] at ih
        obtain ⟨i1, i2, i3, i4, i5⟩ := ih
        refine ⟨i1, i2, i3, fun hm => ?_, i5⟩
        obtain ⟨j1, j2, j3⟩ := i4 hm
        refine ⟨j1, j2, fun c' hc' => ?_⟩
        rcases List.mem_cons.1 hc' with rfl | hc'
        · rw [hu]
        · exact j3 c' hc'

/-- what the rounds come to -/
def Ends (n : Nat) (C : List (List Int)) (G : List Int) : Option (List Int) → Prop
  | none => Cannot C G
  | some v => ¬ Cannot C G ∧ v.length = n + 1 ∧ (∀ l, vAt v l = 1 ∨ vAt v l = 0 ∨ vAt v l = -1) ∧ ∀ l, l ≠ 0 → (0 < vAt v l ↔ Der C G l)

theorem loop_spec (hC : ∀ c ∈ C, ∀ l ∈ c, LitN n l) (hG : ∀ l ∈ G, LitN n l) : ∀ (f : Nat) (val : List Int), val.count 0 < f → Tv n C G val → (∀ l ∈ G, 0 < vAt val l) → ∃ r, loopP f val C = some r ∧ Ends n C G r
  | 0, val, h, _, _ => by omega
  | f + 1, val, h, hT, hg => by
    have ps := pass_spec (C := C) (G := G) hC C val false (fun _ h => h) hT
    unfold loopP
    cases hp : passP val C false with
    | none => rw [hp] at ps; exact ⟨none, rfl, ps⟩
    | some r =>
      obtain ⟨v, m⟩ := r
      rw [hp] at ps
      obtain ⟨i1, i2, i3, i4, i5⟩ := ps
      have h0C : ∀ c ∈ C, ∀ l ∈ c, l ≠ 0 := fun c hc l hl => (hC c hc l hl).1
      have h0G : ∀ l ∈ G, l ≠ 0 := fun l hl => (hG l hl).1
      cases m with
      | false =>
        obtain ⟨_, rfl, j3⟩ := i4 rfl
        refine ⟨some v, rfl, closed_can h0C h0G hg j3, i1.len, i1.three, fun l hl => ⟨fun hv => i1.der l hl (by rcases i1.three l with q | q | q <;> omega), fun hd => (closed_der h0C h0G hg j3 hd).2⟩⟩
      | true =>
        have hlt : v.count 0 < val.count 0 := by
          rcases i5 rfl with q | q
          · cases q
          · exact q
        exact loop_spec hC hG f v (by omega) i1 (fun l hl => i3 l (h0G l hl) (hg l hl))

theorem given_spec (hG : ∀ l ∈ G, LitN n l) : ∀ (D : List Int) (val : List Int), (∀ l ∈ D, l ∈ G) → Tv n C G val →
    match givenP val D with
    | none => Cannot C G
    | some v => Tv n C G v ∧ (∀ l, l ≠ 0 → 0 < vAt val l → 0 < vAt v l) ∧ ∀ l ∈ D, 0 < vAt v l
  | [], val, _, hT => by unfold givenP; exact ⟨hT, fun _ _ h => h, by simp⟩
  | l :: D, val, hD, hT => by
    have hl := hD l (List.mem_cons_self ..)
    have hL := hG l hl
    have hd : Der C G l := .given hl
    unfold givenP
    by_cases q : vAt val l < 0
    · rw [if_pos q]
      exact .inl ⟨l, hd, hT.neg hL.1 (by rcases hT.three l with p | p | p <;> omega)⟩
    · rw [if_neg q]
      have ih := given_spec hG D (setV val l) (fun l h => hD l (List.mem_cons_of_mem _ h)) (hT.set hL hd)
      have e := vAt_set_same hL hT.len
      cases hp : givenP (setV val l) D with
      | none => rw [hp] at ih; exact ih
      | some v =>
        rw [hp] at ih
        obtain ⟨i1, i2, i3⟩ := ih
        refine ⟨i1, fun l' h0 h1 => i2 l' h0 ?_, fun l' hl' => ?_⟩
        · by_cases q2 : l'.natAbs = l.natAbs
          · rcases natAbs_cases q2 with rfl | rfl
            · omega
            · rw [vAt_neg hL.1] at h1; omega
          · rw [vAt_set_other q2]; exact h1
        · rcases List.mem_cons.1 hl' with rfl | hl'
          · exact i2 l' hL.1 (by omega)
          · exact i3 l' hl'

theorem Tv.start (n : Nat) : Tv n C G (List.replicate (n + 1) 0) := by
  have z : ∀ l, vAt (List.replicate (n + 1) 0) l = 0 := by
    intro l
    have : (List.replicate (n + 1) (0 : Int)).getD l.natAbs 0 = 0 := by
      rw [List.getD_eq_getElem?_getD, List.getElem?_replicate]
      split <;> rfl
    unfold vAt
    rw [this]
    split <;> rfl
  exact ⟨by simp, fun l => .inr (.inl (z l)), fun l _ h => by rw [z l] at h; omega⟩

/-- what the reference finds: what is given first, then rounds -/
def followP (n : Nat) (C : List (List Int)) (G : List Int) : Option (Option (List Int)) :=
  match givenP (List.replicate (n + 1) 0) G with
  | none => some none
  | some v => loopP (n + 3) v C
theorem follow_spec (hC : ∀ c ∈ C, ∀ l ∈ c, LitN n l) (hG : ∀ l ∈ G, LitN n l) : ∃ r, followP n C G = some r ∧ Ends n C G r := by
  have gs := given_spec (C := C) hG G (List.replicate (n + 1) 0) (fun _ h => h) (Tv.start n)
  unfold followP
  cases hp : givenP (List.replicate (n + 1) 0) G with
  | none => rw [hp] at gs; exact ⟨none, rfl, gs⟩
  | some v =>
    rw [hp] at gs
    obtain ⟨i1, _, i3⟩ := gs
    have hc : v.count 0 ≤ v.length := List.count_le_length
    exact loop_spec hC hG (n + 3) v (by have := i1.len; omega) i1 i3
end

end Go.Proofs.YtbicefgjompnoaaDoor.Sx
/- Worlds: what stays, what is new; blocks of cells; rows of numbers. -/
namespace Go.Proofs.YtbicefgjompnoaaDoor.Sx
open Go.RowKit Go.Sort

/-- the world has only grown, and drawn -/
def Grew (w w' : World) : Prop := ∃ q os, w' = grow (w.drewN q) os

theorem Grew.refl (w : World) : Grew w w := ⟨0, #[], by simp [World.drewN]⟩
theorem Grew.trans {a b c : World} (h : Grew a b) (k : Grew b c) : Grew a c := by
  obtain ⟨q, os, rfl⟩ := h
  obtain ⟨q', os', rfl⟩ := k
  refine ⟨q + q', os ++ os', ?_⟩
  show grow (grow ((a.drewN q).drewN q') os) os' = _
  rw [grow_grow]
  show grow (World.drewN (World.drewN a q) q') _ = _
  simp only [World.drewN, Nat.add_assoc]
theorem Grew.alloc {a b : World} (h : Grew a b) (o : Obj) : Grew a (b.alloc o) := h.trans ⟨0, #[o], by rw [alloc_eq_grow]; simp [World.drewN]⟩
theorem Grew.drew {a b : World} (h : Grew a b) : Grew a b.drew := h.trans ⟨1, #[], by simp; rfl⟩
theorem Grew.drewN {a b : World} (h : Grew a b) (n : Nat) : Grew a (b.drewN n) := h.trans ⟨n, #[], by simp⟩
theorem Grew.below {w w' : World} (h : Grew w w') : Below w.heap.size w w' := by
  obtain ⟨q, os, rfl⟩ := h
  refine ⟨rfl, rfl, rfl, by simp [World.drewN], fun k hk => ?_⟩
  exact heap_grow_old (w.drewN q) os hk

theorem block_lt {w : World} {b : Nat} {o : Obj} (h : w.heap[b]? = some o) : b < w.heap.size := (Array.getElem?_eq_some_iff.1 h).1
theorem block_cell {w : World} {b : Nat} {vs : Array Value} {t : TypeId} {f : Nat × Nat} (h : w.heap[b]? = some (.cells vs t f)) (i : Nat) : w.cell? ⟨b, i, none⟩ = vs[i]? := by
  simp [World.cell?, h]
theorem frozen_block {w : World} {b : Nat} {vs : Array Value} {t : TypeId} (h : w.heap[b]? = some (.cells vs t (0, 0))) (i : Nat) : w.frozen? ⟨b, i, none⟩ = false := by
  simp [World.frozen?, h]
theorem set_block {w : World} {b : Nat} {vs : Array Value} {t : TypeId} {f : Nat × Nat} (h : w.heap[b]? = some (.cells vs t f)) (i : Nat) (u : Value) : (w.setCell ⟨b, i, none⟩ u).heap[b]? = some (.cells (vs.set! i u) t f) := by
  simp [World.setCell, Array.getElem?_modify, h]

/-- the old blocks of which something is so are as they were -/
structure Fr (P : Nat → Prop) (w w' : World) : Prop where
  os : w'.os = w.os
  tape : w'.tape = w.tape
  output : w'.output = w.output
  size : w.heap.size ≤ w'.heap.size
  block : ∀ k, k < w.heap.size → P k → w'.heap[k]? = w.heap[k]?

theorem Fr.refl (P : Nat → Prop) (w : World) : Fr P w w := ⟨rfl, rfl, rfl, Nat.le_refl _, fun _ _ _ => rfl⟩
theorem Fr.trans {P : Nat → Prop} {a b c : World} (h : Fr P a b) (k : Fr P b c) : Fr P a c :=
  ⟨k.os.trans h.os, k.tape.trans h.tape, k.output.trans h.output, Nat.le_trans h.size k.size, fun i hi hp => (k.block i (Nat.lt_of_lt_of_le hi h.size) hp).trans (h.block i hi hp)⟩
theorem Fr.mono {P Q : Nat → Prop} {a b : World} (h : Fr P a b) (hq : ∀ k, Q k → P k) : Fr Q a b := ⟨h.os, h.tape, h.output, h.size, fun i hi hp => h.block i hi (hq i hp)⟩
theorem Fr.below {P : Nat → Prop} {a b : World} (h : Below a.heap.size a b) : Fr P a b := ⟨h.os, h.tape, h.output, h.size, fun i hi _ => h.block i hi⟩
theorem Fr.grew {P : Nat → Prop} {a b : World} (h : Grew a b) : Fr P a b := Fr.below h.below
theorem Fr.set {P : Nat → Prop} {a b : World} (h : Fr P a b) {p : Addr} (hp : ¬ P p.block) (u : Value) : Fr P a (b.setCell p u) :=
  ⟨h.os, h.tape, h.output, by simpa using h.size, fun i hi hq => by rw [Below.heap_setCell b p u i (fun e => hp (by rw [← e]; exact hq))]; exact h.block i hi hq⟩
theorem Fr.drew {P : Nat → Prop} {a b : World} (h : Fr P a b) : Fr P a b.drew := h.trans (Fr.grew (Grew.drew (Grew.refl _)))
theorem Fr.alloc {P : Nat → Prop} {a b : World} (h : Fr P a b) (o : Obj) : Fr P a (b.alloc o) := h.trans (Fr.grew (Grew.alloc (Grew.refl _) o))

theorem follows : Tryd.prog.follows .mixedOrders = true := by kernel_rfl

theorem heap_new {W : World} {o : Obj} {k : Nat} (h : W.heap.size = k) : (W.alloc o).heap[k]? = some o := by subst h; exact heap_alloc_new W o
theorem Fr.setB {P : Nat → Prop} {a b : World} (h : Fr P a b) {p : Addr} (hp : a.heap.size ≤ p.block) (u : Value) : Fr P a (b.setCell p u) :=
  ⟨h.os, h.tape, h.output, by simpa using h.size, fun i hi hq => by rw [Below.heap_setCell b p u i (by omega)]; exact h.block i hi hq⟩

/-- numbers in a row that lies below lo -/
structure IntsAt (w : World) (lo : Nat) (v : Value) (l : List Int) : Prop where
  ex : ∃ a cap, v = .slice a l.length cap ∧ (l = [] ∨ ∃ p : Addr, a = some p ∧ p.block < lo ∧ ∀ i x, l[i]? = some x → w.cell? (p.add i) = some (.int .i64 x))
  big : l.length ≤ 1000000000000
/-- clauses -/
structure ClsAt (w : World) (lo : Nat) (v : Value) (C : List (List Int)) : Prop where
  ex : ∃ a cap, v = .slice a C.length cap ∧ (C = [] ∨ ∃ p : Addr, a = some p ∧ p.block < lo ∧ ∀ i c, C[i]? = some c → ∃ u, w.cell? (p.add i) = some u ∧ IntsAt w lo u c)
  big : C.length ≤ 1000000000000
theorem IntsAt.of {w w' : World} {lo : Nat} {v : Value} {l : List Int} (h : IntsAt w lo v l) (f : Fr (· < lo) w w') : IntsAt w' lo v l := by
  obtain ⟨a, cap, e, q⟩ := h.ex
  refine ⟨⟨a, cap, e, ?_⟩, h.big⟩
  rcases q with q | ⟨p, e1, e2, e3⟩
  · exact .inl q
  · refine .inr ⟨p, e1, e2, fun i x hx => ?_⟩
    have hb : (p.add i).block = p.block := by unfold Addr.add; split <;> rfl
    exact (World.cell?_of_block (w := w) (f.block _ (World.block_lt_of_cell? w _ (e3 i x hx)) (by rw [hb]; exact e2))).trans (e3 i x hx)
theorem ClsAt.of {w w' : World} {lo : Nat} {v : Value} {C : List (List Int)} (h : ClsAt w lo v C) (f : Fr (· < lo) w w') : ClsAt w' lo v C := by
  obtain ⟨a, cap, e, q⟩ := h.ex
  refine ⟨⟨a, cap, e, ?_⟩, h.big⟩
  rcases q with q | ⟨p, e1, e2, e3⟩
  · exact .inl q
  · refine .inr ⟨p, e1, e2, fun i c hc => ?_⟩
    obtain ⟨u, hu, hi⟩ := e3 i c hc
    refine ⟨u, ?_, hi.of f⟩
    have hb : (p.add i).block = p.block := by unfold Addr.add; split <;> rfl
    exact (World.cell?_of_block (w := w) (f.block _ (World.block_lt_of_cell? w _ hu) (by rw [hb]; exact e2))).trans hu
/-- a table of variables, a block of its own -/
def ValB (w : World) (b : Nat) (val : List Int) : Prop := w.heap[b]? = some (.cells (val.map fun x : Int => Value.int .i64 x).toArray 3 (0, 0))
theorem ValB.cell {w : World} {b : Nat} {val : List Int} (h : ValB w b val) {i : Nat} {x : Int} (hx : val[i]? = some x) : w.cell? ⟨b, i, none⟩ = some (.int .i64 x) := by
  rw [block_cell h]; simp [hx]
theorem ValB.set {w : World} {b : Nat} {val : List Int} (h : ValB w b val) (i : Nat) (x : Int) : ValB (w.setCell ⟨b, i, none⟩ (.int .i64 x)) b (val.set i x) := by
  have := set_block h i (.int .i64 x)
  unfold ValB
  rw [this]
  simp [List.map_set]

set_option maxRecDepth 100000 in
set_option maxHeartbeats 1000000 in
theorem size_any (w : World) (l : Int) (h : -9223372036854775807 ≤ l) (h2 : l ≤ 9223372036854775807) : Calls Tryd.prog 41 #[.int .i64 l] w fun e w' => e = .returned (.int .i64 (l.natAbs : Int)) ∧ w' = w := by
  have mo := follows
  by_cases hl : l < 0
  · have e : (l.natAbs : Int) = -l := by omega
    go_enter Tryd.func41, Tryd.ntmps41
    go_wp2_with fail
    go_ret
    first | exact ⟨rfl, rfl⟩ | exact ⟨by rw [e]; rfl, rfl⟩
  · have e : (l.natAbs : Int) = l := by omega
    go_enter Tryd.func41, Tryd.ntmps41
    go_wp2_with fail
    go_ret
    first | exact ⟨rfl, rfl⟩ | exact ⟨by rw [e]; rfl, rfl⟩

def SetPost (w : World) (b : Nat) (val : List Int) (l : Int) (e : Ending) (w' : World) : Prop := Fr (· ≠ b) w w' ∧ if vAt val l < 0 then e = .returned (.bool false) ∧ ValB w' b val else e = .returned (.bool true) ∧ ValB w' b (setV val l)

set_option maxRecDepth 100000 in
set_option maxHeartbeats 1000000 in
theorem set_any (w : World) (n b cap : Nat) (val : List Int) (l : Int) (hn : n ≤ 16777216) (hl : LitN n l) (hv : val.length = n + 1) (h3 : ∀ l, vAt val l = 1 ∨ vAt val l = 0 ∨ vAt val l = -1) (h : ValB w b val) :
    Calls Tryd.prog 26 #[.slice (some ⟨b, 0, none⟩) (n + 1) cap, .int .i64 l] w (SetPost w b val l) := by
  have mo := follows
  have hl' := hl
  unfold LitN at hl'
  have HS : Hid (Calls _ _ _ _ _) := size_any w l (by omega) (by omega)
  have hi : l.natAbs < val.length := by omega
  have c0 := h.cell (List.getElem?_eq_getElem hi)
  obtain ⟨x, hx⟩ : ∃ x, val[l.natAbs] = x := ⟨_, rfl⟩
  rw [hx] at c0
  have z0 := frozen_block h l.natAbs
  have hxv : vAt val l = if l < 0 then -x else x := by unfold vAt; rw [List.getD_eq_getElem?_getD, List.getElem?_eq_getElem hi, hx]; rfl
  have i1 : (l.natAbs : Int) < ((n + 1 : Nat) : Int) := by omega
  have i2 : (l.natAbs : Int) < (n : Int) + 1 := by omega
  have i0 : (0 : Int) ≤ (l.natAbs : Int) := by omega
  have hx3 := h3 l
  rw [hxv] at hx3
  have HV : Hid (ValB w b val) := h
  clear h h3
  by_cases hneg : l < 0
  · have es : setV val l = val.set l.natAbs (-1) := by unfold setV sgn; rw [if_pos hneg]
    rw [if_pos hneg] at hx3 hxv
    by_cases hq : -x < 0
    · obtain rfl : x = 1 := by omega
      go_enter Tryd.func26, Tryd.ntmps26
      go_wp2_with (go_at_call 41; refine HS.out.mono ?_; rintro e w' ⟨rfl, hw⟩; replace hw := hw.symm; subst hw)
      go_ret
      exact ⟨Fr.refl _ _, by rw [if_pos (by rw [hxv]; exact hq)]; exact ⟨rfl, HV.out⟩⟩
    · have hx1 : (x == 1) = false := by simp; omega
      go_enter Tryd.func26, Tryd.ntmps26
      go_wp2_with (go_at_call 41; refine HS.out.mono ?_; rintro e w' ⟨rfl, hw⟩; replace hw := hw.symm; subst hw)
      go_ret
      exact ⟨(Fr.refl _ _).set (by simp) _, by rw [if_neg (by rw [hxv]; omega), es]; exact ⟨rfl, HV.out.set _ _⟩⟩
  · have es : setV val l = val.set l.natAbs 1 := by unfold setV sgn; rw [if_neg hneg]
    rw [if_neg hneg] at hx3 hxv
    by_cases hq : x < 0
    · obtain rfl : x = -1 := by omega
      go_enter Tryd.func26, Tryd.ntmps26
      go_wp2_with (go_at_call 41; refine HS.out.mono ?_; rintro e w' ⟨rfl, hw⟩; replace hw := hw.symm; subst hw)
      go_ret
      exact ⟨Fr.refl _ _, by rw [if_pos (by rw [hxv]; exact hq)]; exact ⟨rfl, HV.out⟩⟩
    · have hx1 : (x == -1) = false := by simp; omega
      go_enter Tryd.func26, Tryd.ntmps26
      go_wp2_with (go_at_call 41; refine HS.out.mono ?_; rintro e w' ⟨rfl, hw⟩; replace hw := hw.symm; subst hw)
      go_ret
      exact ⟨(Fr.refl _ _).set (by simp) _, by rw [if_neg (by rw [hxv]; omega), es]; exact ⟨rfl, HV.out.set _ _⟩⟩

end Go.Proofs.YtbicefgjompnoaaDoor.Sx
