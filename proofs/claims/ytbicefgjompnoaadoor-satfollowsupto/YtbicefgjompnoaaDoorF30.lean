/- A row goes: how many clauses of each kind are there; the store in memory. -/
import Derived.Test.YtbicefgjompnoaaDoorF29
namespace Go.Proofs.YtbicefgjompnoaaDoor.Sx
open Go.RowKit Go.Sort Go.Maps

/-- the same literals -/
def isKey (d c : List Nat) : Bool := d.all (fun x => c.contains x) && c.all (fun x => d.contains x)
theorem isKey_iff {d c : List Nat} : isKey d c = true ↔ ∀ x, x ∈ c ↔ x ∈ d := by
  unfold isKey
  simp only [Bool.and_eq_true, List.all_eq_true, List.contains_eq_mem, decide_eq_true_eq]
  exact ⟨fun h x => ⟨h.2 x, h.1 x⟩, fun h => ⟨fun x hx => (h x).2 hx, fun x hx => (h x).1 hx⟩⟩
def rowIs (c : List Nat) : Option (List Nat) → Bool
  | none => false
  | some d => isKey d c
/-- how many clauses have just these literals -/
def liveN (t : St) (c : List Nat) : Nat := if c = [] then t.empty else t.rows.countP (rowIs c)

theorem countP_set {α : Type} (p : α → Bool) : ∀ (A : List α) (r : Nat) (x y : α), A[r]? = some x → (A.set r y).countP p + (if p x = true then 1 else 0) = A.countP p + (if p y = true then 1 else 0)
  | [], r, x, y, h => by simp at h
  | a :: A, 0, x, y, h => by
    obtain rfl : a = x := by simpa using h
    rw [List.set_cons_zero, List.countP_cons, List.countP_cons]
    omega
  | a :: A, r + 1, x, y, h => by
    have ih := countP_set p A r x y (by simpa using h)
    rw [List.set_cons_succ, List.countP_cons, List.countP_cons]
    omega
theorem liveN_sc {s s' : St} (h : SC s s') (c : List Nat) : liveN s' c = liveN s c := by
  unfold liveN
  by_cases hc : c = []
  · rw [if_pos hc, if_pos hc]; exact h.em
  · rw [if_neg hc, if_neg hc]
    have e : s'.rows.map (rowIs c) = s.rows.map (rowIs c) := by
      apply List.ext_getElem?
      intro r
      rw [List.getElem?_map, List.getElem?_map]
      by_cases hr : r < s.rows.length
      · have hr' : r < s'.rows.length := by rw [h.rp.len]; exact hr
        rw [List.getElem?_eq_getElem hr, List.getElem?_eq_getElem hr']
        cases hq : s.rows[r] with
        | none =>
          have := h.rp.none_ (r := r) (by rw [List.getElem?_eq_getElem hr, hq])
          rw [List.getElem?_eq_getElem hr'] at this
          rw [Option.some.inj this]
        | some d =>
          obtain ⟨b, q1, q2⟩ := h.rp.fw r d (by rw [List.getElem?_eq_getElem hr, hq])
          rw [List.getElem?_eq_getElem hr'] at q1
          rw [Option.some.inj q1]
          show some (isKey b c) = some (isKey d c)
          congr 1
          rw [Bool.eq_iff_iff, isKey_iff, isKey_iff]
          exact ⟨fun z x => (z x).trans q2.mem_iff, fun z x => (z x).trans q2.mem_iff.symm⟩
      · have hl := h.rp.len
        rw [List.getElem?_eq_none (by omega : s'.rows.length ≤ r), List.getElem?_eq_none (by omega : s.rows.length ≤ r)]
    have e2 : ∀ A : List (Option (List Nat)), A.countP (rowIs c) = (A.map (rowIs c)).countP id := fun A => by rw [List.countP_map]; rfl
    rw [e2, e2, e]
theorem liveN_drop {t : St} {r : Nat} {d : List Nat} (h : t.rows[r]? = some (some d)) (c : List Nat) (hc : c ≠ []) : liveN (dropR t r) c + (if isKey d c = true then 1 else 0) = liveN t c := by
  have := countP_set (rowIs c) t.rows r (some d) none h
  unfold liveN
  rw [if_neg hc, if_neg hc]
  have e1 : rowIs c (some d) = isKey d c := rfl
  have e2 : rowIs c none = false := rfl
  rw [e1, e2] at this
  show List.countP (rowIs c) (t.rows.set r none) + _ = _
  simpa using this
theorem liveN_drop0 (t : St) (r : Nat) : liveN (dropR t r) [] = liveN t [] := rfl
/-- no row has these literals -/
theorem liveN_none {t : St} {c : List Nat} (hc : c ≠ []) (h : ∀ (r : Nat) (d : List Nat), t.rows[r]? = some (some d) → isKey d c = false) : liveN t c = 0 := by
  unfold liveN
  rw [if_neg hc, List.countP_eq_zero]
  intro o ho
  obtain ⟨r, hr⟩ := List.getElem?_of_mem ho
  cases o with
  | none => exact Bool.false_ne_true
  | some d =>
    show ¬ isKey d c = true
    rw [h r d hr]
    exact Bool.false_ne_true

/-- what goes where a clause with these literals goes, if there is one -/
def DropRel (t t' : St) (c : List Nat) : Prop := ∀ c', Asc c' → liveN t' c' = liveN t c' - (if c' = c then 1 else 0)

theorem HasKey.drop {t : St} {k' : ByteArray} {r r' : Nat} : HasKey (dropR t r).rows k' r' ↔ (HasKey t.rows k' r' ∧ r' ≠ r) := by
  constructor
  · rintro ⟨d, c, h1, h2, h3⟩
    obtain ⟨q1, q2⟩ := dropR_get h1
    exact ⟨⟨d, c, q2, h2, h3⟩, q1⟩
  · rintro ⟨⟨d, c, h1, h2, h3⟩, hne⟩
    refine ⟨d, c, ?_, h2, h3⟩
    show (t.rows.set r none)[r']? = _
    rw [List.getElem?_set_ne (fun e => hne e.symm)]
    exact h1

/-- the map, when the first row of a key goes -/
theorem SameAt.drop {w w' : World} {P : Nat → Prop} {t : St} {m r : Nat} {F : ByteArray → Value} (h : SameAt w P (fun _ => True) t.rows m F) {k : ByteArray} {l : List Nat} (hl : ∀ x, x ∈ r :: l ↔ (HasKey t.rows k x ∧ True)) (hnd : (r :: l).Nodup) {v' : Value} (hm : MapF w' m (putF F k v')) (hv : RwsAt w' v' l) (hbl : v'.ownBlock = (F k).ownBlock)
    (hfr : ∀ b, b < w.heap.size → b ≠ m → w'.heap[b]? = w.heap[b]?) : SameAt w' P (fun _ => True) (dropR t r).rows m (putF F k v') := by
  have hk : HasKey t.rows k r := ((hl r).1 (by simp)).1
  have hob : ∀ k', (putF F k v' k').ownBlock = (F k').ownBlock := fun k' => by
    by_cases e : k' = k
    · subst e; rw [putF_same]; exact hbl
    · rw [putF_other e]
  refine ⟨hm, h.pm, fun k' b q => h.bl k' b (by rw [← hob]; exact q), fun k1 k2 b q1 q2 => h.ap k1 k2 b (by rw [← hob]; exact q1) (by rw [← hob]; exact q2), fun k' => ?_⟩
  by_cases e : k' = k
  · subst e
    refine ⟨l, by rw [putF_same]; exact hv, (List.nodup_cons.1 hnd).2, fun x => ?_⟩
    rw [HasKey.drop]
    constructor
    · intro hx
      exact ⟨⟨((hl x).1 (List.mem_cons_of_mem _ hx)).1, fun q => (List.nodup_cons.1 hnd).1 (by rw [← q]; exact hx)⟩, trivial⟩
    · rintro ⟨⟨z1, z2⟩, _⟩
      rcases List.mem_cons.1 ((hl x).2 ⟨z1, trivial⟩) with q | q
      · exact absurd q z2
      · exact q
  · obtain ⟨l', h1, h2, h3⟩ := h.rw_ k'
    refine ⟨l', ?_, h2, fun x => ?_⟩
    · rw [putF_other e]
      exact h1.fr fun g hg => hfr g (h1.lt hg) (fun q => h.mo k' (by rw [hg, q]))
    · rw [h3, HasKey.drop]
      constructor
      · rintro ⟨z1, _⟩; exact ⟨⟨z1, fun q => by subst q; exact e (z1.key hk)⟩, trivial⟩
      · rintro ⟨⟨z1, _⟩, _⟩; exact ⟨z1, trivial⟩

/-- .. in memory -/
theorem SAt.dropRow {w : World} {L : Ly} {n : Nat} {t : St} (h : SAt w L n t) {rg r rc : Nat} (hv : L.rv = .slice (some ⟨rg, 0, none⟩) t.rows.length rc) (hr : r < t.rows.length) :
    L.own rg = (2, 0) ∧ w.frozen? ⟨rg, r, none⟩ = false ∧ (∃ u, w.cell? ⟨rg, r, none⟩ = some u) ∧ SAt (w.setCell ⟨rg, r, none⟩ (.slice none 0 0)) { L with rr := L.rr.set r (.slice none 0 0) } n (dropR t r) := by
  have hro := h.1.ro trivial
  have hog : L.own rg = (2, 0) := hro.2 rg (by rw [hv]; rfl)
  obtain ⟨hl0, hq⟩ := hro.1
  rcases hq with ⟨e, q⟩ | ⟨g, cap, cur, e, hb, hg, hc1, hc2, hc3, hc4⟩
  · rw [hv] at e; cases e
  · have : rg = g := by rw [hv] at e; injection e with e1 _ _; have := Option.some.inj e1; exact congrArg Addr.block this
    subst this
    have hrc : r < cur.size := by omega
    refine ⟨hog, frozen_block hg r, ⟨cur[r], by rw [block_cell hg]; exact Array.getElem?_eq_getElem hrc⟩, ⟨?_, ?_⟩⟩
    · have k1 : SAtK (· ≠ (2, 0)) (w.setCell ⟨rg, r, none⟩ (.slice none 0 0)) L n t := (h.1.mono (K' := (· ≠ (2, 0))) fun _ _ => trivial).fr fun b _ hk => Below.heap_setCell w ⟨rg, r, none⟩ _ b (fun e => hk (by rw [show b = rg from e]; exact hog))
      refine ⟨fun _ => k1.st (by simp), fun _ => k1.wt (by simp), fun _ => k1.tr (by simp), fun _ => k1.wy (by simp), fun _ => k1.dp (by simp), fun _ => ?_, fun _ => k1.si (by simp), fun _ => k1.ta (by simp), fun _ => k1.cu (by simp), fun l _ => k1.wl l (by simp), fun r' _ c hc => ?_⟩
      · refine ⟨⟨?_, .inr ⟨rg, cap, cur.set! r (.slice none 0 0), ?_, hb, set_block hg r _, ?_, hc2, ?_, ?_⟩⟩, hro.2⟩
        · show (L.rr.set r _).length = (t.rows.set r none).length * 1
          rw [List.length_set, List.length_set]; exact hl0
        · show L.rv = .slice _ (t.rows.set r none).length _
          rw [List.length_set]; exact e
        · show (t.rows.set r none).length ≤ cap
          rw [List.length_set]; exact hc1
        · simp [Array.set!_eq_setIfInBounds]; omega
        · show ((cur.set! r (.slice none 0 0)).toList.take ((t.rows.set r none).length * 1)) = L.rr.set r _
          rw [List.length_set, ← hc4, Array.set!_eq_setIfInBounds, Array.toList_setIfInBounds, List.take_set]
      · by_cases q : r' = r
        · subst q
          have : c = none := by
            have h2 : (t.rows.set r' none)[r']? = some c := hc
            rw [List.getElem?_set_self hr] at h2
            exact (Option.some.inj h2).symm
          subst this
          exact ⟨_, List.getElem?_set_self (by rw [h.2.rr]; exact hr), rfl⟩
        · have h2 : (t.rows.set r none)[r']? = some c := hc
          rw [List.getElem?_set_ne (fun e => q e.symm)] at h2
          obtain ⟨v, q1, q2⟩ := k1.rl r' (by simp) c h2
          exact ⟨v, by show (L.rr.set r _)[r']? = some v; rw [List.getElem?_set_ne (fun e => q e.symm)]; exact q1, q2⟩
    · exact ⟨h.2.n_, h.2.tr, h.2.wy, h.2.dp, h.2.wt, h.2.wv, by show (L.rr.set r _).length = (t.rows.set r none).length; rw [List.length_set, List.length_set]; exact h.2.rr, h.2.t3, h.2.lit, h.2.few, by show (t.rows.set r none).length ≤ _; rw [List.length_set]; exact h.2.rows⟩

end Go.Proofs.YtbicefgjompnoaaDoor.Sx
/- The program: drop. -/
namespace Go.Proofs.YtbicefgjompnoaaDoor.Sx
open Go.RowKit Go.Sort Go.Maps Go.Lib

/-- fewer empty ones -/
theorem BB.empty {n : Nat} {t : St} (h : BB n t) (e : Nat) : BB n { t with empty := e } :=
  ⟨⟨⟨h.I.tr.len, h.I.tr.nd, h.I.tr.lt, h.I.tr.tr⟩, h.I.cuts, h.I.wl, h.I.wat, h.I.lit, h.I.sum, h.I.rw_⟩, h.W, ⟨h.tt.pos, h.tt.neg⟩, h.wy, ⟨h.R.one, h.R.all1, h.R.no0, h.R.nd, h.R.lt⟩, h.cu, h.dn⟩

end Go.Proofs.YtbicefgjompnoaaDoor.Sx
/- The program: drop, of a clause with literals. -/
namespace Go.Proofs.YtbicefgjompnoaaDoor.Sx
open Go.RowKit Go.Sort Go.Maps Go.Lib

theorem run_slice1 (W : World) (g off n cap : Nat) : (Instr.slice 50 (.slice (some ⟨g, off, none⟩) (n + 1) cap) (some (.int .i64 1)) none none).run Tryd.prog W = .ok (.slice (some ⟨g, if cap = 1 then off else off + 1, none⟩) n (cap - 1)) W := by
  have ht : Tryd.prog.underlying 50 = some (.slice (Tryd.prog.elem 50)) := by simp [Program.elem, Tryd.underlying50]
  have he : Tryd.prog.elem 50 = 21 := by simp [Program.elem, Tryd.underlying50]
  obtain ⟨i0, hi0, _, hz1, _⟩ := info21
  have hz : (sizeOf 21).run Tryd.prog W = .ok 1 W := by simp [sizeOf, typeInfo, hi0, hz1]
  rw [run_slice_l W 50 _ _ _ ht .i64 1 (by omega) (by omega), he, hz]
  have hadd : (⟨g, off, none⟩ : Addr).add 1 = ⟨g, off + 1, none⟩ := Addr.add_lit _ _ _
  have e1 : ((1 : Int).toNat) = 1 := rfl
  simp only [Result.andThen, sliced, e1, Nat.mul_one, Option.map_some, hadd, Nat.add_sub_cancel]
  by_cases q : cap = 1
  · rw [if_pos q, if_pos q]
  · rw [if_neg q, if_neg q]

end Go.Proofs.YtbicefgjompnoaaDoor.Sx
