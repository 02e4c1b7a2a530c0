/- Watched literals (plain): going through the watches of a literal. -/
import Derived.Test.YtbicefgjompnoaaDoorF20
namespace Go.Proofs.YtbicefgjompnoaaDoor.Sx

/-- what is true is in the trail -/
structure TT (s : St) : Prop where
  pos : ∀ l, 0 < s.truth.getD l 0 → l ∈ s.trail
  neg : ∀ l, s.truth.getD l 0 < 0 → opp l ∈ s.trail
theorem TT.believe {n : Nat} {s : St} (h : TT s) (ht : s.truth.length = 2 * n) {l : Nat} (hl : l < 2 * n) (y : Int) : TT (believeP s l y) := by
  have hg : ∀ k, (believeP s l y).truth.getD k 0 = if k = opp l then -1 else if k = l then 1 else s.truth.getD k 0 := fun k => set2_getD (by rw [ht]; exact hl) (by rw [ht]; exact opp_lt hl)
  refine ⟨fun k hk => ?_, fun k hk => ?_⟩
  · rw [hg] at hk
    split at hk
    · omega
    · split at hk
      · rename_i q; rw [q]; exact List.mem_append_right _ (List.mem_singleton.2 rfl)
      · exact List.mem_append_left _ (h.pos k hk)
  · rw [hg] at hk
    split at hk
    · rename_i q; rw [q, opp_opp]; exact List.mem_append_right _ (List.mem_singleton.2 rfl)
    · split at hk
      · omega
      · exact List.mem_append_left _ (h.neg k hk)
/-- why each literal is true: it was given (none of the first k), or all others of a row are false before it -/
def YOK (k : Nat) (G : List Nat) (s : St) : Prop := ∀ (i l : Nat), s.trail[i]? = some l → (k ≤ i ∧ l ∈ G) ∨ ∃ (r : Nat) (c : List Nat), s.why.getD (l / 2) 0 = (r : Int) ∧ s.rows[r]? = some (some c) ∧ l ∈ c ∧ ∀ x ∈ c, x ≠ l → opp x ∈ s.trail.take i
theorem YOK.rows {k : Nat} {G : List Nat} {s : St} (h : YOK k G s) {R : List (Option (List Nat))} (hp : RP s.rows R) : YOK k G { s with rows := R } := by
  intro i l hi
  rcases h i l hi with q | ⟨r, c, h1, h2, h3, h4⟩
  · exact .inl q
  · obtain ⟨c', h5, h6⟩ := hp.fw r c h2
    exact .inr ⟨r, c', h1, h5, h6.mem_iff.2 h3, fun x hx => h4 x (h6.mem_iff.1 hx)⟩
theorem YOK.believe {n k : Nat} {G : List Nat} {s : St} (h : YOK k G s) (ht : TrOK n s) (hy : s.why.length = n) {l : Nat} (hl : l < 2 * n) (h0 : s.truth.getD l 0 = 0) {y : Int} (hw : (k ≤ s.trail.length ∧ l ∈ G) ∨ ∃ (r : Nat) (c : List Nat), y = (r : Int) ∧ s.rows[r]? = some (some c) ∧ l ∈ c ∧ ∀ x ∈ c, x ≠ l → opp x ∈ s.trail) : YOK k G (believeP s l y) := by
  intro i l' hi
  have hi' : (s.trail ++ [l])[i]? = some l' := hi
  have hwy : ∀ k, k ≠ l / 2 → (believeP s l y).why.getD k 0 = s.why.getD k 0 := fun k hk => by
    show (s.why.set (l / 2) y).getD k 0 = _
    rw [List.getD_eq_getElem?_getD, List.getElem?_set_ne (Ne.symm hk), ← List.getD_eq_getElem?_getD]
  by_cases hlt : i < s.trail.length
  · rw [List.getElem?_append_left hlt] at hi'
    have hm : l' ∈ s.trail := List.mem_of_getElem? hi'
    rcases h i l' hi' with q | ⟨r, c, h1, h2, h3, h4⟩
    · exact .inl q
    · have hne : l' / 2 ≠ l / 2 := fun e => by
        have := ht.tr l' hm
        rcases half_cases e.symm with q | q
        · rw [q] at h0; omega
        · rw [q] at h0; omega
      refine .inr ⟨r, c, by rw [hwy _ hne]; exact h1, h2, h3, fun x hx hxl => ?_⟩
      show opp x ∈ (s.trail ++ [l]).take i
      rw [List.take_append_of_le_length (by omega)]
      exact h4 x hx hxl
  · have hlen : i < (s.trail ++ [l]).length := (List.getElem?_eq_some_iff.1 hi').1
    simp only [List.length_append, List.length_cons, List.length_nil] at hlen
    obtain rfl : i = s.trail.length := by omega
    have : l = l' := by simpa using hi'
    subst this
    rcases hw with q | ⟨r, c, h1, h2, h3, h4⟩
    · exact .inl q
    · refine .inr ⟨r, c, ?_, h2, h3, fun x hx hxl => ?_⟩
      · show (s.why.set (l / 2) y).getD (l / 2) 0 = _
        rw [List.getD_eq_getElem?_getD, List.getElem?_set_self (by rw [hy]; omega), h1]
        rfl
      · show opp x ∈ (s.trail ++ [l]).take s.trail.length
        rw [List.take_left]
        exact h4 x hx hxl

/-- a row of two or more whose first two are looked at: .. bears something that is true -/
def LK (T : List Nat) (P : Nat → Prop) (rows : List (Option (List Nat))) (D : List Nat) : Prop := ∀ (r : Nat) (c : List Nat) (i : Nat), rows[r]? = some (some c) → 2 ≤ c.length → i < 2 → opp (c.getD i 0) ∈ T → P (c.getD i 0) → ∃ x ∈ c, x ∈ D
theorem LK.mono {T D D' : List Nat} {P : Nat → Prop} {rows : List (Option (List Nat))} (h : LK T P rows D) (hs : ∀ x ∈ D, x ∈ D') : LK T P rows D' := fun r c i h1 h2 h3 h4 h5 => by
  obtain ⟨x, q1, q2⟩ := h r c i h1 h2 h3 h4 h5
  exact ⟨x, q1, hs x q2⟩
/-- .. when the first two are exchanged -/
theorem LK.swap {T D : List Nat} {P : Nat → Prop} {rows : List (Option (List Nat))} {r a b : Nat} {t : List Nat} (h : LK T P rows D) (hr : rows[r]? = some (some (a :: b :: t))) : LK T P (rows.set r (some (b :: a :: t))) D := by
  intro r' c i hc h2 hi h4 h5
  by_cases e : r = r'
  · subst e
    rw [List.getElem?_set_self (List.getElem?_eq_some_iff.1 hr).1] at hc
    have : b :: a :: t = c := by simpa using hc
    subst this
    have hi : i = 0 ∨ i = 1 := by omega
    have key : ∃ x ∈ a :: b :: t, x ∈ D := by
      rcases hi with rfl | rfl
      · exact h r (a :: b :: t) 1 hr (by simp) (by omega) h4 h5
      · exact h r (a :: b :: t) 0 hr (by simp) (by omega) h4 h5
    obtain ⟨x, q1, q2⟩ := key
    exact ⟨x, (List.Perm.swap b a t).mem_iff.1 q1 |> fun q => q, q2⟩
  · rw [List.getElem?_set_ne e] at hc
    exact h r' c i hc h2 hi h4 h5
/-- .. when the second is exchanged for one that is not looked at -/
theorem LK.move {T D : List Nat} {P : Nat → Prop} {rows : List (Option (List Nat))} {r x0 y l : Nat} {t t' : List Nat} (h : LK T P rows D) (hr : rows[r]? = some (some (x0 :: y :: t))) (hp : (x0 :: l :: t').Perm (x0 :: y :: t)) (hl : opp l ∉ T) : LK T P (rows.set r (some (x0 :: l :: t'))) D := by
  intro r' c i hc h2 hi h4 h5
  by_cases e : r = r'
  · subst e
    rw [List.getElem?_set_self (List.getElem?_eq_some_iff.1 hr).1] at hc
    have : x0 :: l :: t' = c := by simpa using hc
    subst this
    have hi : i = 0 ∨ i = 1 := by omega
    rcases hi with rfl | rfl
    · obtain ⟨x, q1, q2⟩ := h r _ 0 hr (by simp) (by omega) h4 h5
      exact ⟨x, hp.mem_iff.2 q1, q2⟩
    · exact absurd h4 hl
  · rw [List.getElem?_set_ne e] at hc
    exact h r' c i hc h2 hi h4 h5

/-- while the watches of a literal are gone through: T is looked at, T0 is what level 0 has -/
structure LS (n no S0 : Nat) (T T0 G : List Nat) (A : List (Option (List Nat))) (s : St) (kept rest : List (Nat × Nat)) : Prop where
  J : LkJ n no S0 s kept rest
  W : WOK s.rows (upd (fun l => s.watches.getD l []) no (kept ++ rest))
  tt : TT s
  wy : s.why.length = n
  sub : ∀ x ∈ T, x ∈ s.trail
  s0 : ∀ x ∈ T0, x ∈ s.trail
  lk : LK T (· ≠ no) s.rows s.trail
  kp : ∀ (r o : Nat) (c : List Nat), (r, o) ∈ kept → s.rows[r]? = some (some c) → ∃ x ∈ c, x ∈ s.trail
  l0 : LK T0 (fun _ => True) s.rows T0
  y : YOK T0.length G s
  rp : RP A s.rows
/-- .. and behind it -/
structure LF (n no : Nat) (T T0 G : List Nat) (A : List (Option (List Nat))) (s : St) (R : St × List (Nat × Nat) × Int) : Prop where
  W : WOK R.1.rows (upd (fun l => R.1.watches.getD l []) no R.2.1)
  tt : TT R.1
  wy : R.1.why.length = n
  l0 : LK T0 (fun _ => True) R.1.rows T0
  y : YOK T0.length G R.1
  rp : RP A R.1.rows
  tr : ∃ more, R.1.trail = s.trail ++ more
  cuts : R.1.cuts = s.cuts
  empty : R.1.empty = s.empty
  single : R.1.single = s.single
  done : R.1.done = s.done
  ok : R.2.2 = -1 → LK T (· ≠ no) R.1.rows R.1.trail ∧ ∀ (r o : Nat) (c : List Nat), (r, o) ∈ R.2.1 → R.1.rows[r]? = some (some c) → ∃ x ∈ c, x ∈ R.1.trail
  ng : R.2.2 ≠ -1 → ∃ (r : Nat) (c : List Nat), R.2.2 = (r : Int) ∧ R.1.rows[r]? = some (some c) ∧ ∀ x ∈ c, opp x ∈ R.1.trail

theorem LF.of {n no : Nat} {T T0 G : List Nat} {A : List (Option (List Nat))} {s s' : St} {R : St × List (Nat × Nat) × Int} (h : LF n no T T0 G A s' R) (ht : ∃ more, s'.trail = s.trail ++ more) (hc : s'.cuts = s.cuts) (he : s'.empty = s.empty) (hs : s'.single = s.single) (hd : s'.done = s.done) : LF n no T T0 G A s R := by
  obtain ⟨m1, e1⟩ := h.tr
  obtain ⟨m2, e2⟩ := ht
  exact ⟨h.W, h.tt, h.wy, h.l0, h.y, h.rp, ⟨m2 ++ m1, by rw [e1, e2, List.append_assoc]⟩, h.cuts.trans hc, h.empty.trans he, h.single.trans hs, h.done.trans hd, h.ok, h.ng⟩

theorem not_false {n : Nat} {s : St} (h : TrOK n s) {l : Nat} (hl : 0 ≤ s.truth.getD l 0) : opp l ∉ s.trail := fun hm => by
  have := (h.tr _ hm).2
  rw [opp_opp] at this
  omega

theorem lookG_sem {n no S0 : Nat} (hno : no < 2 * n) {T T0 G : List Nat} {A : List (Option (List Nat))} : ∀ (rest kept : List (Nat × Nat)) (s : St), LS n no S0 T T0 G A s kept rest → LF n no T T0 G A s (lookG no rest kept s)
  | [], kept, s, h => by
    unfold lookG
    refine ⟨by simpa using h.W, h.tt, h.wy, h.l0, h.y, h.rp, ⟨[], by simp⟩, rfl, rfl, rfl, rfl, fun _ => ⟨h.lk, h.kp⟩, fun q => absurd rfl q⟩
  | (r, o) :: rest, kept, s, h => by
    have hp := h.J.rp (r, o) (List.mem_cons_self)
    unfold lookG
    split
    · rename_i hto
      refine lookG_sem hno rest _ s ⟨h.J.keep hp.1, by have := h.W; simpa using this, h.tt, h.wy, h.sub, h.s0, h.lk, fun r' o' c hm hc => ?_, h.l0, h.y, h.rp⟩
      rcases List.mem_append.1 hm with q | q
      · exact h.kp r' o' c q hc
      · cases List.mem_singleton.1 q
        exact ⟨o, (h.W.oth no r o c (by rw [upd_same]; simp) hc).1, h.tt.pos o hto⟩
    · split
      · rename_i _ hg
        refine lookG_sem hno rest _ s ⟨h.J.drop, h.W.gone (fun c hc => ?_), h.tt, h.wy, h.sub, h.s0, h.lk, h.kp, h.l0, h.y, h.rp⟩
        rw [List.getD_eq_getElem?_getD, hc] at hg
        cases hg
      · rename_i c hc
        have hrl := hp.2.1
        have hrow : s.rows[r]? = some (some c) := by
          rw [List.getD_eq_getElem?_getD, List.getElem?_eq_getElem hrl] at hc
          rw [List.getElem?_eq_getElem hrl]
          exact congrArg some hc
        have h2 := hp.2.2 c hrow
        obtain ⟨a, b, t, rfl⟩ : ∃ a b t, c = a :: b :: t := by
          match c, h2 with
          | a :: b :: t, _ => exact ⟨a, b, t, rfl⟩
        -- the false one comes second
        have hab := (h.W.oth no r o _ (by rw [upd_same]; simp) hrow).2.2
        have hnd := h.W.nd r _ hrow
        obtain ⟨x0, hx0, hLS⟩ : ∃ x0, swap0 (a :: b :: t) no = x0 :: no :: t ∧ LS n no S0 T T0 G A { s with rows := s.rows.set r (some (x0 :: no :: t)) } kept ((r, o) :: rest) := by
          simp only [List.getD_cons_zero, List.getD_cons_succ] at hab
          by_cases e : a = no
          · subst e
            have e1 : swap0 (a :: b :: t) a = b :: a :: t := by unfold swap0; simp
            have hpm : (b :: a :: t).Perm (a :: b :: t) := List.Perm.swap a b t
            have hrp := RP.set hrow hpm
            refine ⟨b, e1, h.J.row hrow rfl (fun x hx => h.J.lit r _ hrow x (hpm.mem_iff.1 hx)), h.W.swap hrow, ⟨h.tt.pos, h.tt.neg⟩, h.wy, h.sub, h.s0, h.lk.swap hrow, fun r' o' c' hm hc' => ?_, h.l0.swap hrow, h.y.rows hrp, h.rp.trans hrp⟩
            obtain ⟨c0, q1, q2⟩ := hrp.bw r' c' hc'
            obtain ⟨x, q3, q4⟩ := h.kp r' o' c0 hm q1
            exact ⟨x, q2.mem_iff.2 q3, q4⟩
          · have eb : no = b := by rcases hab with q | q; exact absurd q.symm e; exact q
            subst eb
            have e1 : swap0 (a :: no :: t) no = a :: no :: t := by unfold swap0; rw [if_neg (by simpa using e)]
            have hse : ({ s with rows := s.rows.set r (some (a :: no :: t)) } : St) = s := by
              have : s.rows.set r (some (a :: no :: t)) = s.rows := by
                obtain ⟨q1, q2⟩ := List.getElem?_eq_some_iff.1 hrow
                rw [← q2]
                exact List.set_getElem_self q1
              rw [this]
            exact ⟨a, e1, by rw [hse]; exact h⟩
        rw [hx0]
        simp only [List.getD_cons_zero]
        obtain ⟨s2, hs2⟩ : ∃ s2, ({ s with rows := s.rows.set r (some (x0 :: no :: t)) } : St) = s2 := ⟨_, rfl⟩
        rw [hs2] at hLS ⊢
        have hro2 : s2.rows[r]? = some (some (x0 :: no :: t)) := by rw [← hs2]; exact List.getElem?_set_self hrl
        have htr2 : s2.truth = s.truth := by rw [← hs2]
        have back : ∀ R, LF n no T T0 G A s2 R → LF n no T T0 G A s R := fun R q => q.of ⟨[], by rw [← hs2]; simp⟩ (by rw [← hs2]) (by rw [← hs2]) (by rw [← hs2]) (by rw [← hs2])
        have hx2 : x0 < 2 * n := hLS.J.lit r _ hro2 x0 (by simp)
        have keepW : WOK s2.rows (upd (fun l => s2.watches.getD l []) no ((kept ++ [(r, x0)]) ++ rest)) := hLS.W.keep fun c hc => by
          rw [hro2] at hc
          have : x0 :: no :: t = c := by simpa using hc
          rw [← this]; simp
        split
        · rename_i htx
          refine back _ (lookG_sem hno rest _ s2 ⟨hLS.J.keep hx2, keepW, hLS.tt, hLS.wy, hLS.sub, hLS.s0, hLS.lk, fun r' o' c' hm hc' => ?_, hLS.l0, hLS.y, hLS.rp⟩)
          rcases List.mem_append.1 hm with q | q
          · exact hLS.kp r' o' c' q hc'
          · cases List.mem_singleton.1 q
            rw [hro2] at hc'
            have : x0 :: no :: t = c' := by simpa using hc'
            exact ⟨x0, by rw [← this]; simp, hLS.tt.pos x0 (by rw [htr2]; exact htx)⟩
        · rename_i htx
          split
          · rename_i k hk
            unfold freeAt at hk
            rw [List.find?_range_eq_some] at hk
            obtain ⟨hk1, hk2, _⟩ := hk
            have hkt : k < t.length := by simpa using hk2
            obtain ⟨l, hl⟩ : ∃ l, t[k]? = some l := ⟨_, List.getElem?_eq_getElem hkt⟩
            have hlg : (x0 :: no :: t).getD (k + 2) 0 = l := by rw [List.getD_eq_getElem?_getD]; simp [hl]
            rw [hlg] at hk1 ⊢
            have htl : 0 ≤ s2.truth.getD l 0 := by rw [htr2]; simpa using hk1
            obtain ⟨hW3, hpm, hln⟩ := hLS.W.move hro2 hl
            have hl2 : l < 2 * n := hLS.J.lit r _ hro2 l (by simp [List.mem_of_getElem? hl])
            have hnf := not_false hLS.J.tr htl
            have hrp := RP.set hro2 hpm
            have e3 : ((x0 :: no :: t).set 1 l).set (k + 2) no = x0 :: l :: t.set k no := by simp
            rw [e3]
            have e4 : ({ s with rows := s.rows.set r (some (x0 :: l :: t.set k no)) } : St) = { s2 with rows := s2.rows.set r (some (x0 :: l :: t.set k no)) } := by rw [← hs2]; simp
            rw [e4]
            have hJ3 := (hLS.J.row (c' := x0 :: l :: t.set k no) hro2 hpm.length_eq (fun x hx => hLS.J.lit r _ hro2 x (hpm.mem_iff.1 hx)))
            have hwl2 : l < s2.watches.length := by rw [hLS.J.wl]; exact hl2
            have e5 : upd (fun l' => (pushW { s2 with rows := s2.rows.set r (some (x0 :: l :: t.set k no)) } l r x0).watches.getD l' []) no (kept ++ rest) = upd (upd (fun l' => s2.watches.getD l' []) l (s2.watches.getD l [] ++ [(r, x0)])) no (kept ++ rest) := by
              funext k'
              unfold upd
              split
              · rfl
              · exact pushW_getD (s := { s2 with rows := s2.rows.set r (some (x0 :: l :: t.set k no)) }) hwl2
            refine back _ ((lookG_sem hno rest kept _ ⟨hJ3.push hl2 hln hx2, by rw [e5]; exact hW3, ⟨hLS.tt.pos, hLS.tt.neg⟩, hLS.wy, hLS.sub, hLS.s0, hLS.lk.move hro2 hpm (fun q => hnf (hLS.sub _ q)), fun r' o' c' hm hc' => ?_, hLS.l0.move hro2 hpm (fun q => hnf (hLS.s0 _ q)), hLS.y.rows hrp, hLS.rp.trans hrp⟩).of ⟨[], by simp [pushW]⟩ rfl rfl rfl rfl)
            obtain ⟨c0, q1, q2⟩ := hrp.bw r' c' hc'
            obtain ⟨x, q3, q4⟩ := hLS.kp r' o' c0 hm q1
            exact ⟨x, q2.mem_iff.2 q3, q4⟩
          · rename_i hk
            have hall : ∀ x ∈ t, opp x ∈ s2.trail := fun x hx => by
              obtain ⟨j, hj, he⟩ := List.getElem_of_mem hx
              unfold freeAt at hk
              rw [List.find?_eq_none] at hk
              have := hk j (by simpa using hj)
              have e : (x0 :: no :: t).getD (j + 2) 0 = x := by rw [List.getD_eq_getElem?_getD]; simp [hj, he]
              rw [e] at this
              exact hLS.tt.neg x (by rw [htr2]; simpa using this)
            have hnoT : opp no ∈ s2.trail := hLS.tt.neg no (by rw [hLS.J.no_]; omega)
            split
            · rename_i htn
              refine back _ ⟨by simpa using keepW, hLS.tt, hLS.wy, hLS.l0, hLS.y, hLS.rp, ⟨[], by simp⟩, rfl, rfl, rfl, rfl, fun q => ?_, fun _ => ⟨r, _, rfl, hro2, fun x hx => ?_⟩⟩
              · simp only at q; omega
              · rcases List.mem_cons.1 hx with q | q
                · rw [q]; exact hLS.tt.neg x0 (by rw [htr2]; exact htn)
                · rcases List.mem_cons.1 q with q | q
                  · rw [q]; exact hnoT
                  · exact hall x q
            · rename_i htn
              have h0 : s2.truth.getD x0 0 = 0 := by rw [htr2]; omega
              have hgr : ∀ x ∈ s2.trail, x ∈ (believeP s2 x0 (r : Int)).trail := fun x hx => List.mem_append_left _ hx
              refine back _ ((lookG_sem hno rest _ (believeP s2 x0 (r : Int)) ⟨(hLS.J.keep hx2).believe hx2 h0 _, keepW, hLS.tt.believe hLS.J.tr.len hx2 _, by show (s2.why.set _ _).length = n; rw [List.length_set]; exact hLS.wy, fun x hx => hgr x (hLS.sub x hx), fun x hx => hgr x (hLS.s0 x hx), hLS.lk.mono hgr, fun r' o' c' hm hc' => ?_, hLS.l0, hLS.y.believe hLS.J.tr hLS.wy hx2 h0 (.inr ⟨r, _, rfl, hro2, by simp, fun x hx hxl => ?_⟩), hLS.rp⟩).of ⟨[x0], rfl⟩ rfl rfl rfl rfl)
              · rcases List.mem_append.1 hm with q | q
                · obtain ⟨x, q1, q2⟩ := hLS.kp r' o' c' q hc'
                  exact ⟨x, q1, hgr x q2⟩
                · cases List.mem_singleton.1 q
                  have hc2 : s2.rows[r]? = some (some c') := hc'
                  rw [hro2] at hc2
                  have : x0 :: no :: t = c' := by simpa using hc2
                  exact ⟨x0, by rw [← this]; simp, List.mem_append_right _ (List.mem_singleton.2 rfl)⟩
              · rcases List.mem_cons.1 hx with q | q
                · exact absurd q hxl
                · rcases List.mem_cons.1 q with q | q
                  · rw [q]; exact hnoT
                  · exact hall x q

end Go.Proofs.YtbicefgjompnoaaDoor.Sx
