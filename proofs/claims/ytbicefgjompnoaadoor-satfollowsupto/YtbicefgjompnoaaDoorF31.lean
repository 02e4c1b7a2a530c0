/- Clauses as numbers and as literals (plain): the same cannot be. -/
import Derived.Test.YtbicefgjompnoaaDoorF04
import Derived.Test.YtbicefgjompnoaaDoorF29
import Derived.Test.YtbicefgjompnoaaDoorF30
namespace Go.Proofs.YtbicefgjompnoaaDoor.Sx
open Go.RowKit Go.Sort

/-- a number that was named -/
def Nm (n : Nat) (s : List Nat × List Nat) (x : Int) : Prop := LitN n x ∧ s.1.getD x.natAbs 0 ≠ 0

section
variable {n : Nat} {s : List Nat × List Nat}
theorem Nm.place (h : NmOK n s) {x : Int} (hx : Nm n s x) : ∃ k, s.1.getD x.natAbs 0 = k + 1 ∧ s.2[k]? = some x.natAbs := by
  obtain ⟨k, hk⟩ : ∃ k, s.1.getD x.natAbs 0 = k + 1 := ⟨s.1.getD x.natAbs 0 - 1, by have := hx.2; omega⟩
  exact ⟨k, hk, h.back _ _ hk⟩
theorem litV_inj (h : NmOK n s) {x y : Int} (hx : Nm n s x) (hy : Nm n s y) (e : litV s x = litV s y) : x = y := by
  obtain ⟨k, k1, k2⟩ := hx.place h
  obtain ⟨j, j1, j2⟩ := hy.place h
  have hx0 := hx.1.1
  have hy0 := hy.1.1
  unfold litV at e
  rw [k1, j1] at e
  have hkj : k = j := by split at e <;> split at e <;> omega
  subst hkj
  rw [k2] at j2
  have ha : x.natAbs = y.natAbs := Option.some.inj j2
  split at e <;> split at e <;> omega
theorem Nm.neg {x : Int} (hx : Nm n s x) : Nm n s (-x) := by
  obtain ⟨⟨h0, h1, h2⟩, h3⟩ := hx
  exact ⟨⟨by omega, by omega, by omega⟩, by rw [Int.natAbs_neg]; exact h3⟩
theorem litV_neg {x : Int} (hx : Nm n s x) : litV s (-x) = opp (litV s x) := by
  have h0 := hx.1.1
  unfold litV opp
  rw [Int.natAbs_neg]
  by_cases q : 0 < x
  · rw [if_neg (by omega), if_pos q, if_pos (by omega)]
  · rw [if_pos (by omega), if_neg q, if_neg (by omega)]; omega

/-- it is always true -/
def alwaysI (c : List Int) : Bool := c.any fun l => c.contains (-l)
theorem alwaysI_iff {c : List Int} : alwaysI c = true ↔ ∃ l ∈ c, -l ∈ c := by
  unfold alwaysI
  simp [List.any_eq_true]
theorem alwaysP_iff {c : List Nat} : alwaysP c = true ↔ ∃ l ∈ c, opp l ∈ c := by
  unfold alwaysP
  simp [List.any_eq_true]
theorem alwaysP_key {d c : List Nat} (h : isKey d c = true) : alwaysP d = alwaysP c := by
  have k := isKey_iff.1 h
  rw [Bool.eq_iff_iff, alwaysP_iff, alwaysP_iff]
  exact ⟨fun ⟨l, h1, h2⟩ => ⟨l, (k l).2 h1, (k _).2 h2⟩, fun ⟨l, h1, h2⟩ => ⟨l, (k l).1 h1, (k _).1 h2⟩⟩
theorem always_map (h : NmOK n s) {c : List Int} (hc : ∀ x ∈ c, Nm n s x) : alwaysP (c.map (litV s)) = alwaysI c := by
  rw [Bool.eq_iff_iff, alwaysP_iff, alwaysI_iff]
  constructor
  · rintro ⟨l, h1, h2⟩
    obtain ⟨x, hx, rfl⟩ := List.mem_map.1 h1
    obtain ⟨y, hy, e⟩ := List.mem_map.1 h2
    refine ⟨x, hx, ?_⟩
    rw [← litV_neg (hc x hx)] at e
    rw [← litV_inj h (hc y hy) (hc x hx).neg e]
    exact hy
  · rintro ⟨x, h1, h2⟩
    exact ⟨litV s x, List.mem_map.2 ⟨x, h1, rfl⟩, by rw [← litV_neg (hc x h1)]; exact List.mem_map.2 ⟨-x, h2, rfl⟩⟩

/-- more clauses, more follows -/
theorem Der.mono {C C' : List (List Int)} {G : List Int} {l : Int} (h : Der C G l) (hC : ∀ c ∈ C, c ∈ C') : Der C' G l := fun S hS => h S ⟨hS.given, fun c hc => hS.step c (hC c hc)⟩
/-- what is always true makes nothing follow -/
theorem always_out {C : List (List Int)} {G : List Int} (h0 : ∀ c ∈ C, ∀ l ∈ c, l ≠ 0) : Cannot C G ↔ Cannot (C.filter fun c => !alwaysI c) G := by
  have sub : ∀ c ∈ C.filter (fun c => !alwaysI c), c ∈ C := fun c hc => (List.mem_filter.1 hc).1
  constructor
  · intro h
    refine Classical.byContradiction fun hn => ?_
    have hcon : ∀ x, Der (C.filter fun c => !alwaysI c) G x → Der (C.filter fun c => !alwaysI c) G (-x) → False := fun x h1 h2 => hn (.inl ⟨x, h1, h2⟩)
    have hS : Shut C G (Der (C.filter fun c => !alwaysI c) G) := by
      refine ⟨fun l hl => .given hl, fun c hc l hl ho => ?_⟩
      cases ha : alwaysI c with
      | false => exact .step (List.mem_filter.2 ⟨hc, by simp [ha]⟩) hl ho
      | true =>
        obtain ⟨x, hx1, hx2⟩ := alwaysI_iff.1 ha
        by_cases q1 : x = l
        · subst q1
          have := ho (-x) hx2 (fun e => by have := h0 c hc x hx1; omega)
          rwa [Int.neg_neg] at this
        · by_cases q2 : -x = l
          · have := ho x hx1 q1
            rwa [q2] at this
          · have h1 := ho x hx1 q1
            have h2 := ho (-x) hx2 q2
            exact (hcon _ h1 (by simpa using h2)).elim
    rcases h with ⟨l, h1, h2⟩ | ⟨c, hc, hl⟩
    · exact hcon l (h1 _ hS) (h2 _ hS)
    · cases ha : alwaysI c with
      | false => exact hn (.inr ⟨c, List.mem_filter.2 ⟨hc, by simp [ha]⟩, fun l hl' => hl l hl' _ hS⟩)
      | true =>
        obtain ⟨x, hx1, hx2⟩ := alwaysI_iff.1 ha
        exact hcon (-x) (hl x hx1 _ hS) (hl (-x) hx2 _ hS)
  · rintro (⟨l, h1, h2⟩ | ⟨c, hc, hl⟩)
    · exact .inl ⟨l, h1.mono sub, h2.mono sub⟩
    · exact .inr ⟨c, sub c hc, fun l hl' => (hl l hl').mono sub⟩

/-- the same, of literals -/
def MapC (s : List Nat × List Nat) (L : List (List Int)) (d : List Nat) : Prop := ∃ x ∈ L, d = x.map (litV s)
theorem der_map {L : List (List Int)} {G : List Int} (hL : ∀ c ∈ L, ∀ x ∈ c, Nm n s x) (hG : ∀ x ∈ G, Nm n s x) {l : Int} (hd : Der L G l) : Nm n s l ∧ NDer (MapC s L) (G.map (litV s)) (litV s l) := by
  have key : ∀ S' : Nat → Prop, NShut (MapC s L) (G.map (litV s)) S' → Nm n s l ∧ S' (litV s l) := fun S' hS' => by
    refine hd (fun x => Nm n s x ∧ S' (litV s x)) ⟨fun x hx => ⟨hG x hx, hS'.given _ (List.mem_map.2 ⟨x, hx, rfl⟩)⟩, fun c hc x hx ho => ⟨hL c hc x hx, ?_⟩⟩
    refine hS'.step (c.map (litV s)) ⟨c, hc, rfl⟩ _ (List.mem_map.2 ⟨x, hx, rfl⟩) fun l' hl' hne => ?_
    obtain ⟨y, hy, rfl⟩ := List.mem_map.1 hl'
    have := (ho y hy (fun e => hne (by rw [e]))).2
    rwa [litV_neg (hL c hc y hy)] at this
  exact ⟨(key (fun _ => True) ⟨fun _ _ => trivial, fun _ _ _ _ _ => trivial⟩).1, fun S' hS' => (key S' hS').2⟩
theorem map_der (h : NmOK n s) {L : List (List Int)} {G : List Int} (hL : ∀ c ∈ L, ∀ x ∈ c, Nm n s x) (hG : ∀ x ∈ G, Nm n s x) {k : Nat} (hd : NDer (MapC s L) (G.map (litV s)) k) : ∃ x, Nm n s x ∧ litV s x = k ∧ Der L G x := by
  refine hd (fun k => ∃ x, Nm n s x ∧ litV s x = k ∧ Der L G x) ⟨fun k hk => ?_, fun d hd l hl ho => ?_⟩
  · obtain ⟨x, hx, rfl⟩ := List.mem_map.1 hk
    exact ⟨x, hG x hx, rfl, .given hx⟩
  · obtain ⟨c, hc, rfl⟩ := hd
    obtain ⟨x, hx, rfl⟩ := List.mem_map.1 hl
    refine ⟨x, hL c hc x hx, rfl, .step hc hx fun y hy hne => ?_⟩
    obtain ⟨z, hz1, hz2, hz3⟩ := ho (litV s y) (List.mem_map.2 ⟨y, hy, rfl⟩) (fun e => hne (litV_inj h (hL c hc y hy) (hL c hc x hx) e))
    rw [← litV_neg (hL c hc y hy)] at hz2
    rw [← litV_inj h hz1 (hL c hc y hy).neg hz2]
    exact hz3
theorem cannot_map (h : NmOK n s) {L : List (List Int)} {G : List Int} (hL : ∀ c ∈ L, ∀ x ∈ c, Nm n s x) (hG : ∀ x ∈ G, Nm n s x) : Cannot L G ↔ NCannot (MapC s L) (G.map (litV s)) := by
  constructor
  · rintro (⟨l, h1, h2⟩ | ⟨c, hc, hl⟩)
    · obtain ⟨q1, q2⟩ := der_map hL hG h1
      have := (der_map hL hG h2).2
      rw [litV_neg q1] at this
      exact .inl ⟨_, q2, this⟩
    · refine .inr ⟨c.map (litV s), ⟨c, hc, rfl⟩, fun l hl' => ?_⟩
      obtain ⟨x, hx, rfl⟩ := List.mem_map.1 hl'
      rw [← litV_neg (hL c hc x hx)]
      exact (der_map hL hG (hl x hx)).2
  · rintro (⟨k, h1, h2⟩ | ⟨d, ⟨c, hc, rfl⟩, hl⟩)
    · obtain ⟨x, x1, rfl, x3⟩ := map_der h hL hG h1
      obtain ⟨y, y1, y2, y3⟩ := map_der h hL hG h2
      rw [← litV_neg x1] at y2
      rw [litV_inj h y1 x1.neg y2] at y3
      exact .inl ⟨x, x3, y3⟩
    · refine .inr ⟨c, hc, fun x hx => ?_⟩
      obtain ⟨y, y1, y2, y3⟩ := map_der h hL hG (hl (litV s x) (List.mem_map.2 ⟨x, hx, rfl⟩))
      rw [← litV_neg (hL c hc x hx)] at y2
      rw [← litV_inj h y1 (hL c hc x hx).neg y2]
      exact y3

/-- ascending literals, each once -/
theorem setOf_ex (l : List Nat) : ∃ c, SetOf l c := by
  have := (sorts_set (pdq_sorted l.toArray l.toArray.size 0 (Nat.le_refl _))).2
  exact ⟨_, by simpa using this⟩
theorem SetOf.key {l c : List Nat} (h : SetOf l c) : isKey l c = true := isKey_iff.2 h.mem
theorem key_set {l c : List Nat} (hc : Asc c) (h : isKey l c = true) : SetOf l c := ⟨hc, isKey_iff.1 h⟩

/-- how many of the reference's clauses have just these literals -/
def numIs (s : List Nat × List Nat) (c : List Nat) (x : List Int) : Bool := isKey (x.map (litV s)) c
def cntL (s : List Nat × List Nat) (L : List (List Int)) (c : List Nat) : Nat := L.countP (numIs s c)
/-- the same clauses are there, but for those that are always true -/
structure Cor (n : Nat) (s : List Nat × List Nat) (L : List (List Int)) (t : St) : Prop where
  nm : ∀ c ∈ L, ∀ x ∈ c, Nm n s x
  cnt : ∀ c, Asc c → alwaysP c = false → liveN t c = cntL s L c
  na : ∀ (r : Nat) (d : List Nat), t.rows[r]? = some (some d) → alwaysP d = false

theorem liveN_pos {t : St} {c : List Nat} (h : 0 < liveN t c) : ∃ d, Cl t d ∧ isKey d c = true := by
  unfold liveN at h
  split at h
  · rename_i e
    subst e
    exact ⟨[], .inr ⟨rfl, h⟩, rfl⟩
  · obtain ⟨o, ho, q⟩ := List.countP_pos_iff.1 h
    obtain ⟨r, hr⟩ := List.getElem?_of_mem ho
    cases o with
    | none => exact absurd q Bool.false_ne_true
    | some d => exact ⟨d, .inl ⟨r, hr⟩, q⟩
theorem cl_live {n' : Nat} {t : St} (hB : BB n' t) {d c : List Nat} (h : Cl t d) (hc : SetOf d c) : 0 < liveN t c := by
  unfold liveN
  rcases h with ⟨r, hr⟩ | ⟨rfl, he⟩
  · have hne : c ≠ [] := fun e => by
      cases d with
      | nil => exact hB.R.no0 r hr
      | cons a d => have := (hc.mem a).2 (by simp); rw [e] at this; simp at this
    rw [if_neg hne]
    exact List.countP_pos_iff.2 ⟨_, List.mem_of_getElem? hr, hc.key⟩
  · have : c = [] := by
      cases c with
      | nil => rfl
      | cons a c => have := (hc.mem a).1 (by simp); simp at this
    rw [if_pos this]; exact he
theorem Cor.cannot (h : NmOK n s) {L : List (List Int)} {t : St} (hc : Cor n s L t) {n' : Nat} (hB : BB n' t) {G : List Int} (hG : ∀ x ∈ G, Nm n s x) : Cannot L G ↔ NCannot (Cl t) (G.map (litV s)) := by
  have hf : ∀ c ∈ L.filter (fun c => !alwaysI c), ∀ x ∈ c, Nm n s x := fun c q => hc.nm c (List.mem_filter.1 q).1
  rw [always_out (fun c q l hl => (hc.nm c q l hl).1.1), cannot_map h hf hG]
  constructor
  · refine fun q => q.mono (fun d hd => ?_) fun _ z => z
    obtain ⟨x, hx, rfl⟩ := hd
    obtain ⟨hx1, hx2⟩ := List.mem_filter.1 hx
    obtain ⟨c, hcs⟩ := setOf_ex (x.map (litV s))
    have ha : alwaysP c = false := by
      rw [← alwaysP_key hcs.key, always_map h (hc.nm x hx1)]
      simpa using hx2
    have hp : 0 < liveN t c := by
      rw [hc.cnt c hcs.asc ha]
      exact List.countP_pos_iff.2 ⟨x, hx1, hcs.key⟩
    obtain ⟨d, d1, d2⟩ := liveN_pos hp
    exact ⟨d, d1, fun y => ((isKey_iff.1 d2 y).symm).trans (hcs.mem y)⟩
  · refine fun q => q.mono (fun d hd => ?_) fun _ z => z
    obtain ⟨c, hcs⟩ := setOf_ex d
    have hda : alwaysP d = false := by
      rcases hd with ⟨r, hr⟩ | ⟨rfl, _⟩
      · exact hc.na r d hr
      · rfl
    have ha : alwaysP c = false := by rw [← alwaysP_key hcs.key]; exact hda
    have hp := cl_live hB hd hcs
    rw [hc.cnt c hcs.asc ha] at hp
    obtain ⟨x, hx, hk⟩ := List.countP_pos_iff.1 hp
    have hk' : isKey (x.map (litV s)) c = true := hk
    refine ⟨x.map (litV s), ⟨x, List.mem_filter.2 ⟨hx, ?_⟩, rfl⟩, fun y => ((isKey_iff.1 hk' y).symm).trans (hcs.mem y)⟩
    rw [← always_map h (hc.nm x hx), alwaysP_key hk', ha]
    rfl

theorem isKey_nil {c : List Nat} : isKey [] c = decide (c = []) := by
  cases c with
  | nil => rfl
  | cons a c => simp [isKey]
theorem isKey_nil2 {d : List Nat} : isKey d [] = decide (d = []) := by
  cases d with
  | nil => rfl
  | cons a d => simp [isKey]
theorem liveN_addP (t : St) (c' c : List Nat) : liveN (addP t c').1 c = liveN t c + (if isKey c' c = true then 1 else 0) := by
  unfold liveN
  by_cases hne : c' = []
  · subst hne
    rw [isKey_nil]
    by_cases hc : c = []
    · rw [if_pos hc, if_pos hc, if_pos (by simpa using hc)]; rfl
    · rw [if_neg hc, if_neg hc, if_neg (by simpa using hc)]; rfl
  · rw [addP_rows t hne, add_empty hne]
    by_cases hc : c = []
    · subst hc
      rw [if_pos rfl, if_pos rfl, isKey_nil2, if_neg (by simpa using hne)]; rfl
    · rw [if_neg hc, if_neg hc, List.countP_append]
      congr 1
      rw [List.countP_singleton]
      rfl
theorem liveN_addAll (c : List Nat) : ∀ (cs : List (List Nat)) (t : St), liveN (addAll t cs) c = liveN t c + cs.countP (fun d => !alwaysP d && isKey d c)
  | [], t => rfl
  | d :: cs, t => by
    unfold addAll
    rw [liveN_addAll c cs, List.countP_cons]
    cases ha : alwaysP d with
    | true => simp
    | false =>
      rw [if_neg (by simp), liveN_addP]
      simp only [Bool.not_false, Bool.true_and]
      omega
theorem liveN_new (n : Nat) (c : List Nat) : liveN (newP n) c = 0 := by
  unfold liveN
  split <;> rfl
theorem addP_na {t : St} {c : List Nat} (h : ∀ (r : Nat) (d : List Nat), t.rows[r]? = some (some d) → alwaysP d = false) (hc : alwaysP c = false) : ∀ (r : Nat) (d : List Nat), (addP t c).1.rows[r]? = some (some d) → alwaysP d = false := fun r d hr => by
  by_cases hne : c = []
  · subst hne; exact h r d hr
  · rw [addP_rows t hne] at hr
    by_cases hl : r < t.rows.length
    · rw [List.getElem?_append_left hl] at hr; exact h r d hr
    · have hb := (List.getElem?_eq_some_iff.1 hr).1
      simp at hb
      have e : r = t.rows.length := by omega
      subst e
      have : c = d := by simpa using hr
      rw [← this]; exact hc
theorem addAll_na : ∀ (cs : List (List Nat)) (t : St), (∀ (r : Nat) (d : List Nat), t.rows[r]? = some (some d) → alwaysP d = false) → ∀ (r : Nat) (d : List Nat), (addAll t cs).rows[r]? = some (some d) → alwaysP d = false
  | [], t, h => h
  | c :: cs, t, h => by
    unfold addAll
    refine addAll_na cs _ ?_
    cases ha : alwaysP c with
    | true => rw [if_pos rfl]; exact h
    | false => rw [if_neg (by simp)]; exact addP_na h ha
/-- as it begins -/
theorem Cor.start {C : List (List Int)} {cs : List (List Nat)} (n' : Nat) (hC : ∀ c ∈ C, ∀ x ∈ c, Nm n s x) (hl : cs.length = C.length) (hs : ∀ (i : Nat) (x : List Int) (c : List Nat), C[i]? = some x → cs[i]? = some c → SetOf (x.map (litV s)) c) : Cor n s C (addAll (newP n') cs) := by
  refine ⟨hC, fun c hc ha => ?_, addAll_na cs _ (fun r d hr => by simp [newP] at hr)⟩
  rw [liveN_addAll, liveN_new, Nat.zero_add]
  unfold cntL
  have e : cs.map (fun d => !alwaysP d && isKey d c) = C.map (numIs s c) := by
    apply List.ext_getElem?
    intro i
    rw [List.getElem?_map, List.getElem?_map]
    by_cases hi : i < C.length
    · have hi' : i < cs.length := by omega
      have q := hs i C[i] cs[i] (List.getElem?_eq_getElem hi) (List.getElem?_eq_getElem hi')
      rw [List.getElem?_eq_getElem hi, List.getElem?_eq_getElem hi']
      show some (!alwaysP cs[i] && isKey cs[i] c) = some (isKey (C[i].map (litV s)) c)
      have k1 : isKey cs[i] c = isKey (C[i].map (litV s)) c := by
        rw [Bool.eq_iff_iff, isKey_iff, isKey_iff]
        exact ⟨fun z x => (z x).trans (q.mem x), fun z x => (z x).trans (q.mem x).symm⟩
      rw [← k1]
      cases hk : isKey cs[i] c with
      | false => rw [Bool.and_false]
      | true => rw [alwaysP_key hk, ha]; rfl
    · rw [List.getElem?_eq_none (by omega : cs.length ≤ i), List.getElem?_eq_none (by omega : C.length ≤ i)]; rfl
  have e1 : ∀ {α : Type} (p : α → Bool) (A : List α), A.countP p = (A.map p).countP id := fun p A => by rw [List.countP_map]; rfl
  rw [e1, e, ← e1]

/-- what a clause that comes in brings -/
def AddRel (t t' : St) (c : List Nat) : Prop := ∀ c', Asc c' → liveN t' c' = liveN t c' + (if c' = c then 1 else 0)
theorem Cor.add {L : List (List Int)} {t t' : St} (hc : Cor n s L t) {x : List Int} {c : List Nat} (hx : ∀ y ∈ x, Nm n s y) (hs : SetOf (x.map (litV s)) c) (hr : AddRel t t' c) (hna : ∀ (r : Nat) (d : List Nat), t'.rows[r]? = some (some d) → alwaysP d = false) : Cor n s (L ++ [x]) t' := by
  refine ⟨fun c' h' => ?_, fun c' h1 h2 => ?_, hna⟩
  · rcases List.mem_append.1 h' with q | q
    · exact hc.nm c' q
    · rw [List.mem_singleton.1 q]; exact hx
  · rw [hr c' h1, hc.cnt c' h1 h2]
    unfold cntL
    rw [List.countP_append, List.countP_singleton]
    congr 1
    have : (numIs s c' x = true) ↔ c' = c := ⟨fun q => (key_set h1 q).uniq hs, fun q => by rw [q]; exact hs.key⟩
    by_cases q : c' = c
    · rw [if_pos q, if_pos (this.2 q)]
    · rw [if_neg q, if_neg (fun z => q (this.1 z))]
theorem Cor.skip (h : NmOK n s) {L : List (List Int)} {t : St} (hc : Cor n s L t) {x : List Int} (hx : ∀ y ∈ x, Nm n s y) (ha : alwaysI x = true) : Cor n s (L ++ [x]) t := by
  refine ⟨fun c' h' => ?_, fun c' h1 h2 => ?_, hc.na⟩
  · rcases List.mem_append.1 h' with q | q
    · exact hc.nm c' q
    · rw [List.mem_singleton.1 q]; exact hx
  · rw [hc.cnt c' h1 h2]
    unfold cntL
    rw [List.countP_append, List.countP_singleton, if_neg]
    · rfl
    · intro q
      have q' : isKey (x.map (litV s)) c' = true := q
      rw [← always_map h hx, alwaysP_key q', h2] at ha
      cases ha
/-- clauses alike -/
theorem alk_key (h : NmOK n s) {x y : List Int} (hx : ∀ z ∈ x, Nm n s z) (hy : ∀ z ∈ y, Nm n s z) {c : List Nat} (hc : SetOf (x.map (litV s)) c) : alk y x = numIs s c y := by
  unfold numIs
  rw [Bool.eq_iff_iff, alk_iff, isKey_iff]
  constructor
  · intro q z
    rw [hc.mem]
    constructor
    · intro hz
      obtain ⟨v, v1, rfl⟩ := List.mem_map.1 hz
      exact List.mem_map.2 ⟨v, (q v).2 v1, rfl⟩
    · intro hz
      obtain ⟨v, v1, rfl⟩ := List.mem_map.1 hz
      exact List.mem_map.2 ⟨v, (q v).1 v1, rfl⟩
  · intro q z
    constructor
    · intro hz
      have := (hc.mem _).1 ((q (litV s z)).2 (List.mem_map.2 ⟨z, hz, rfl⟩))
      obtain ⟨v, v1, v2⟩ := List.mem_map.1 this
      rw [← litV_inj h (hx v v1) (hy z hz) v2]; exact v1
    · intro hz
      have := (q (litV s z)).1 ((hc.mem _).2 (List.mem_map.2 ⟨z, hz, rfl⟩))
      obtain ⟨v, v1, v2⟩ := List.mem_map.1 this
      rw [← litV_inj h (hy v v1) (hx z hz) v2]; exact v1
theorem gone_cnt (h : NmOK n s) {x : List Int} (hx : ∀ z ∈ x, Nm n s z) {c : List Nat} (hs : SetOf (x.map (litV s)) c) {c' : List Nat} (hc' : Asc c') : ∀ (L : List (List Int)), (∀ c ∈ L, ∀ x ∈ c, Nm n s x) → cntL s (goneP x L) c' = cntL s L c' - (if c' = c then 1 else 0)
  | [], _ => by simp [goneP, cntL]
  | y :: L, hL => by
    have hy := hL y (by simp)
    have ih := gone_cnt h hx hs hc' L fun c hc => hL c (List.mem_cons_of_mem _ hc)
    have ha := alk_key h hx hy hs
    unfold goneP
    by_cases q : alk y x = true
    · rw [if_pos q]
      rw [q] at ha
      unfold cntL
      rw [List.countP_cons]
      by_cases z : c' = c
      · subst z; rw [← ha]; simp
      · rw [if_neg z, if_neg]
        · simp
        · intro k
          have k1 : isKey (y.map (litV s)) c' = true := k
          have k2 : isKey (y.map (litV s)) c = true := ha.symm
          exact z ((key_set hc' k1).uniq (key_set hs.asc k2))
    · rw [if_neg q]
      have hf : numIs s c y = false := by rw [← ha]; simpa using q
      unfold cntL at ih ⊢
      rw [List.countP_cons, List.countP_cons, ih]
      by_cases z : c' = c
      · subst z; rw [hf]; simp
      · rw [if_neg z]; simp
theorem Cor.gone (h : NmOK n s) {L : List (List Int)} {t t' : St} (hc : Cor n s L t) {x : List Int} {c : List Nat} (hx : ∀ y ∈ x, Nm n s y) (hs : SetOf (x.map (litV s)) c) (hr : DropRel t t' c) (hna : ∀ (r : Nat) (d : List Nat), t'.rows[r]? = some (some d) → t.rows[r]? = some (some d)) : Cor n s (goneP x L) t' :=
  ⟨fun c' h' => hc.nm c' (goneP_mem h'), fun c' h1 h2 => by rw [hr c' h1, hc.cnt c' h1 h2, gone_cnt h hx hs h1 L hc.nm], fun r d hr' => hc.na r d (hna r d hr')⟩
theorem Cor.goneA (h : NmOK n s) {L : List (List Int)} {t : St} (hc : Cor n s L t) {x : List Int} (hx : ∀ y ∈ x, Nm n s y) (ha : alwaysI x = true) : Cor n s (goneP x L) t := by
  obtain ⟨c, hs⟩ := setOf_ex (x.map (litV s))
  refine ⟨fun c' h' => hc.nm c' (goneP_mem h'), fun c' h1 h2 => ?_, hc.na⟩
  rw [gone_cnt h hx hs h1 L hc.nm, if_neg, hc.cnt c' h1 h2]
  · rfl
  · rintro rfl
    rw [← always_map h hx, alwaysP_key hs.key, h2] at ha
    cases ha
theorem SC.cor {L : List (List Int)} {t t' : St} (h : Cor n s L t) (hs : SC t t') : Cor n s L t' :=
  ⟨h.nm, fun c h1 h2 => by rw [liveN_sc hs]; exact h.cnt c h1 h2, fun r d hr => by
    obtain ⟨a, q1, q2⟩ := hs.rp.bw r d hr
    have := h.na r a q1
    rw [← this]
    exact alwaysP_key (isKey_iff.2 fun x => q2.mem_iff.symm)⟩

end

end Go.Proofs.YtbicefgjompnoaaDoor.Sx
