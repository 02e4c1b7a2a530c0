/- The store: what is written while the watches of a literal are gone through. -/
import Derived.Test.YtbicefgjompnoaaA16
import Derived.Test.YtbicefgjompnoaaA19
namespace Go.Proofs.Ytbicefgjompnoaa.Sx
open Go.RowKit Go.Sort

theorem SAtK.full {w : World} {L : Ly} {n : Nat} {s : St} (h : SAtK (· ≠ (0, 0)) w L n s) : SAtK (fun _ => True) w L n s :=
  ⟨fun _ => h.st (by decide), fun _ => h.wt (by decide), fun _ => h.tr (by decide), fun _ => h.wy (by decide), fun _ => h.dp (by decide), fun _ => h.ro (by decide), fun _ => h.si (by decide), fun _ => h.ta (by decide), fun _ => h.cu (by decide), fun l _ => h.wl l (by simp), fun r _ => h.rl r (by simp)⟩

/-- a block that is none of the store's is written -/
theorem SAt.offSet {w : World} {L : Ly} {n : Nat} {s : St} (h : SAt w L n s) {b : Nat} (hb : L.own b = (0, 0)) (i : Nat) (u : Value) : SAt (w.setCell ⟨b, i, none⟩ u) L n s :=
  ⟨((h.1.mono (K' := (· ≠ (0, 0))) fun _ _ => trivial).fr fun k _ hne => Below.heap_setCell w ⟨b, i, none⟩ u k (fun e => hne (by rw [show k = b from e]; exact hb))).full, h.2⟩
/-- the next block is none of the store's -/
def newT (L : Ly) (k : Nat) : Ly := { L with own := ownT L.own k (0, 0) }
theorem SAt.allocT {w : World} {L : Ly} {n : Nat} {s : St} (h : SAt w L n s) (o : Obj) : SAt (w.alloc o) (newT L w.heap.size) n s :=
  ⟨(h.1.own (ownT L.own w.heap.size (0, 0)) fun _ hb => ownT_old hb).fr fun _ hb _ => heap_alloc_old w o hb, ⟨h.2.n_, h.2.tr, h.2.wy, h.2.dp, h.2.wt, h.2.wv, h.2.rr, h.2.t3, h.2.lit, h.2.few, h.2.rows⟩⟩
theorem newT_own (L : Ly) (k : Nat) : (newT L k).own k = (0, 0) := by show ownT L.own k (0, 0) k = _; unfold ownT; rw [if_pos rfl]
theorem FrS.allocT {L0 L : Ly} {w0 w : World} (h : FrS L0 L w0 w) (o : Obj) : FrS L0 (newT L w.heap.size) w0 (w.alloc o) :=
  ⟨h.os, h.tape, h.output, by have := h.size; simp; omega, fun b hb ho => (heap_alloc_old w o (Nat.lt_of_lt_of_le hb h.size)).trans (h.block b hb ho), fun b hb => (ownT_old (Nat.lt_of_lt_of_le hb h.size)).trans (h.own b hb), h.sb⟩
theorem FrS.offSet {L0 L : Ly} {w0 w : World} (h : FrS L0 L w0 w) {b : Nat} (hb : w0.heap.size ≤ b) (i : Nat) (u : Value) : FrS L0 L w0 (w.setCell ⟨b, i, none⟩ u) :=
  ⟨h.os, h.tape, h.output, by have := h.size; simpa using this, fun k hk ho => (Below.heap_setCell w ⟨b, i, none⟩ u k (fun e => by have : k = b := e; omega)).trans (h.block k hk ho), h.own, h.sb⟩

/-- a cell of a row is written -/
theorem SAt.rowSet {w : World} {L : Ly} {n : Nat} {s : St} (h : SAt w L n s) {r cb k cap i x : Nat} {c : List Nat} (hr : s.rows[r]? = some (some c)) (hv : L.rr[r]? = some (.slice (some ⟨cb, 0, none⟩) k cap)) :
    SAt (w.setCell ⟨cb, i, none⟩ (.int .i32 (x : Int))) L n { s with rows := s.rows.set r (some (c.set i x)) } := by
  obtain ⟨v, h1, b, d, h2, h3, h4, h5, h6⟩ := h.1.rl r trivial _ hr
  rw [hv] at h1
  cases h1
  cases h2
  have hrl : r < s.rows.length := (List.getElem?_eq_some_iff.1 hr).1
  have k1 : SAtK (· ≠ (11, r)) (w.setCell ⟨cb, i, none⟩ (.int .i32 (x : Int))) L n s := (h.1.mono (K' := (· ≠ (11, r))) fun _ _ => trivial).fr fun b' _ hne => Below.heap_setCell w ⟨cb, i, none⟩ _ b' (fun e => hne (by rw [show b' = cb from e]; exact h3))
  refine ⟨⟨fun _ => k1.st (by simp), fun _ => k1.wt (by simp), fun _ => k1.tr (by simp), fun _ => k1.wy (by simp), fun _ => k1.dp (by simp), fun _ => ?_, fun _ => k1.si (by simp), fun _ => k1.ta (by simp), fun _ => k1.cu (by simp), fun l _ => k1.wl l (by simp), fun r' _ c' hc' => ?_⟩, ⟨h.2.n_, h.2.tr, h.2.wy, h.2.dp, h.2.wt, h.2.wv, by show L.rr.length = (s.rows.set r _).length; rw [List.length_set]; exact h.2.rr, h.2.t3, h.2.lit, h.2.few, by show (s.rows.set r _).length ≤ _; rw [List.length_set]; exact h.2.rows⟩⟩
  · show OwnR _ _ _ _ _ _ (s.rows.set r _).length _
    rw [List.length_set]
    exact k1.ro (by simp)
  · have hc2 : (s.rows.set r (some (c.set i x)))[r']? = some c' := hc'
    by_cases q : r' = r
    · subst q
      rw [List.getElem?_set_self hrl] at hc2
      cases hc2
      refine ⟨_, hv, cb, d.setIfInBounds i x, by simp, h3, h4.set i x, ?_, by simpa using h6⟩
      rw [List.length_set, Array.toList_setIfInBounds, List.take_set]
      exact congrArg (fun l : List Nat => l.set i x) h5
    · rw [List.getElem?_set_ne (fun e => q e.symm)] at hc2
      exact k1.rl r' (by simp [q]) c' hc2

/-- the watches of a literal, said otherwise -/
def wset (s : St) (no : Nat) (M : List (Nat × Nat)) : St := { s with watches := s.watches.set no M }
theorem wset_getD {s : St} {no k : Nat} {M : List (Nat × Nat)} (h : no < s.watches.length) : (wset s no M).watches.getD k [] = if k = no then M else s.watches.getD k [] := by
  show (s.watches.set no M).getD k [] = _
  rw [List.getD_eq_getElem?_getD, List.getElem?_set]
  by_cases q : no = k
  · rw [if_pos q, if_pos h, if_pos q.symm]; rfl
  · rw [if_neg q, if_neg (fun e => q e.symm), ← List.getD_eq_getElem?_getD]
theorem wset_wset (s : St) (no : Nat) (M M' : List (Nat × Nat)) : wset (wset s no M) no M' = wset s no M' := by simp [wset]
theorem wset_self {s : St} {no : Nat} (h : no < s.watches.length) : wset s no (s.watches.getD no []) = s := by
  have : s.watches.set no (s.watches.getD no []) = s.watches := by
    rw [List.getD_eq_getElem?_getD, List.getElem?_eq_getElem h]
    exact List.set_getElem_self h
  unfold wset
  rw [this]
theorem wset_push {s : St} {no l r o : Nat} {M : List (Nat × Nat)} (h : no < s.watches.length) (hne : l ≠ no) : pushW (wset s no M) l r o = wset (pushW s l r o) no M := by
  have e1 : (wset s no M).watches.getD l [] = s.watches.getD l [] := by rw [wset_getD h, if_neg hne]
  unfold pushW
  rw [e1]
  simp only [wset]
  rw [List.set_comm _ _ (fun e => hne e.symm)]

theorem flatW_cons (p : Nat × Nat) (l : List (Nat × Nat)) : flatW (p :: l) = Value.int .i32 (p.1 : Int) :: Value.int .i32 (p.2 : Int) :: flatW l := rfl
theorem flatW_len (l : List (Nat × Nat)) : (flatW l).length = l.length * 2 := by
  induction l with
  | nil => rfl
  | cons p l ih => rw [flatW_cons, List.length_cons, List.length_cons, ih, List.length_cons]; omega
theorem flatW_app (a b : List (Nat × Nat)) : flatW (a ++ b) = flatW a ++ flatW b := by simp [flatW]
theorem flatW_take (l : List (Nat × Nat)) (k : Nat) : flatW (l.take k) = (flatW l).take (k * 2) := by
  induction l generalizing k with
  | nil => simp [flatW]
  | cons p l ih =>
    cases k with
    | zero => simp [flatW]
    | succ k =>
      have e : (k + 1) * 2 = k * 2 + 1 + 1 := by omega
      rw [List.take_succ_cons, flatW_cons, flatW_cons, ih, e, List.take_succ_cons, List.take_succ_cons]
theorem flatW_drop (l : List (Nat × Nat)) (k : Nat) : flatW (l.drop k) = (flatW l).drop (k * 2) := by
  induction l generalizing k with
  | nil => simp [flatW]
  | cons p l ih =>
    cases k with
    | zero => simp
    | succ k =>
      have e : (k + 1) * 2 = k * 2 + 1 + 1 := by omega
      rw [List.drop_succ_cons, flatW_cons, ih, e, List.drop_succ_cons, List.drop_succ_cons]
theorem flatW_get {l : List (Nat × Nat)} {i r o : Nat} (h : l[i]? = some (r, o)) : (flatW l)[i * 2]? = some (.int .i32 (r : Int)) ∧ (flatW l)[i * 2 + 1]? = some (.int .i32 (o : Int)) := by
  induction l generalizing i with
  | nil => simp at h
  | cons p l ih =>
    cases i with
    | zero => simp at h; subst h; exact ⟨rfl, rfl⟩
    | succ i =>
      have e : (i + 1) * 2 = i * 2 + 1 + 1 := by omega
      rw [flatW_cons, e]
      simpa using ih (by simpa using h)
theorem flatW_one (l : List (Nat × Nat)) : ∀ u ∈ flatW l, u.oneCell' = true := by
  intro u hu
  obtain ⟨p, _, hp⟩ := List.mem_flatMap.1 hu
  simp only [List.mem_cons, List.not_mem_nil, or_false] at hp
  rcases hp with rfl | rfl <;> rfl
/-- some of a list written over -/
def over (M : List (Nat × Nat)) (k : Nat) (news : List (Nat × Nat)) : List (Nat × Nat) := M.take k ++ news ++ M.drop (k + news.length)
theorem over_len {M news : List (Nat × Nat)} {k : Nat} (h : k + news.length ≤ M.length) : (over M k news).length = M.length := by
  simp [over]; omega
theorem over_take {M news kept : List (Nat × Nat)} {k : Nat} (hk : M.take k = kept) (hl : kept.length = k) : (over M k news).take (k + news.length) = kept ++ news := by
  unfold over
  rw [hk, ← hl, ← List.length_append]
  exact List.take_left
theorem over_drop {M news : List (Nat × Nat)} {k i : Nat} (h : k + news.length ≤ i) (hM : k ≤ M.length) : (over M k news).drop i = M.drop i := by
  unfold over
  rw [List.drop_append, List.drop_drop]
  have e1 : (M.take k ++ news).length = k + news.length := by simp; omega
  rw [List.drop_eq_nil_of_le (by rw [e1]; exact h), e1, List.nil_append]
  congr 1
  omega
theorem over_cells {A : List Value} {M news : List (Nat × Nat)} {k : Nat} (hA : A.take (M.length * 2) = flatW M) (h : k + news.length ≤ M.length) (hl : M.length * 2 ≤ A.length) :
    (A.take (k * 2) ++ flatW news ++ A.drop (k * 2 + (flatW news).length)).take (M.length * 2) = flatW (over M k news) := by
  have hn := flatW_len news
  unfold over
  rw [flatW_app, flatW_app, flatW_take, flatW_drop, ← hA, List.take_take, Nat.min_eq_left (by omega), List.drop_take]
  have e1 : (A.take (k * 2) ++ flatW news).length = k * 2 + news.length * 2 := by simp [hn]; omega
  rw [List.take_append, e1, List.take_of_length_le (by rw [e1]; omega), hn]
  congr 2
  · omega
  · congr 1; omega

section
variable {w : World} {L : Ly} {n : Nat} {s : St} {no wg K cap k : Nat} {M news : List (Nat × Nat)}
/-- the block of the watches -/
theorem SAt.wblk (h : SAt w L n (wset s no M)) (hno : no < 2 * n) (hv : L.wv[no]? = some (.slice (some ⟨wg, 0, none⟩) K cap)) : M.length = K ∧ L.own wg = (10, no) ∧ ∃ cur : Array Value, w.heap[wg]? = some (.cells cur 94 (0, 0)) ∧ K ≤ cap ∧ cap ≤ maxLen ∧ cur.size = cap * 2 ∧ cur.toList.take (K * 2) = flatW M := by
  obtain ⟨v, e1, e2⟩ := h.1.wl no trivial hno
  rw [hv] at e1
  cases e1
  have hw : s.watches.length = 2 * n := by have := h.2.wt; simpa [wset] using this
  rw [wset_getD (by omega), if_pos rfl] at e2
  rcases e2.1.2 with ⟨q, _⟩ | ⟨g, cap', cur, e, _, q1, q2, q3, q4, q5⟩
  · cases q
  · cases e
    exact ⟨rfl, e2.2 wg rfl, cur, q1, q2, q3, q4, q5⟩
/-- what is kept is written over what was gone through -/
theorem SAt.overW (h : SAt w L n (wset s no M)) (hno : no < 2 * n) (hv : L.wv[no]? = some (.slice (some ⟨wg, 0, none⟩) K cap)) (hk : k + news.length ≤ K) {cur : Array Value} (hc : w.heap[wg]? = some (.cells cur 94 (0, 0))) :
    SAt (w.setRow wg (cur.toList.take (k * 2) ++ flatW news ++ cur.toList.drop (k * 2 + (flatW news).length)).toArray) L n (wset s no (over M k news)) := by
  obtain ⟨hM, ho, cur', q1, q2, q3, q4, q5⟩ := h.wblk hno hv
  rw [hc] at q1
  cases q1
  have hn := flatW_len news
  have hw : s.watches.length = 2 * n := by have := h.2.wt; simpa [wset] using this
  have k1 : SAtK (· ≠ (10, no)) (w.setRow wg (cur.toList.take (k * 2) ++ flatW news ++ cur.toList.drop (k * 2 + (flatW news).length)).toArray) L n (wset s no M) := (h.1.mono (K' := (· ≠ (10, no))) fun _ _ => trivial).fr fun b _ hne => setRow_other w wg b _ (fun e => hne (by rw [e]; exact ho))
  refine ⟨⟨fun _ => k1.st (by simp), fun _ => k1.wt (by simp), fun _ => k1.tr (by simp), fun _ => k1.wy (by simp), fun _ => k1.dp (by simp), fun _ => k1.ro (by simp), fun _ => k1.si (by simp), fun _ => k1.ta (by simp), fun _ => k1.cu (by simp), fun l _ hl => ?_, fun r _ => k1.rl r (by simp)⟩, ⟨h.2.n_, h.2.tr, h.2.wy, h.2.dp, by simpa [wset] using hw, h.2.wv, h.2.rr, h.2.t3, h.2.lit, h.2.few, h.2.rows⟩⟩
  by_cases q : l = no
  · subst q
    refine ⟨_, hv, ?_, fun g hg => by cases hg; exact ho⟩
    rw [wset_getD (by omega), if_pos rfl]
    have e1 := over_len (M := M) (news := news) (k := k) (by omega)
    rw [e1, hM]
    refine ⟨by rw [flatW_len, e1, hM], .inr ⟨wg, cap, _, rfl, Nat.zero_le _, setRow_heap w wg cur _ 94 _ hc, q2, q3, ?_, ?_⟩⟩
    · simp [hn]; omega
    · rw [← hM] at q5 ⊢
      exact over_cells q5 (by omega) (by simp; omega)
  · obtain ⟨u, e1, e2⟩ := k1.wl l (by simp [q]) hl
    rw [wset_getD (by omega), if_neg q] at e2
    refine ⟨u, e1, ?_⟩
    rw [wset_getD (by omega), if_neg q]
    exact e2
theorem FrS.overW {L0 : Ly} {w0 : World} (h : FrS L0 L w0 w) (ho : L.own wg ≠ (0, 0)) (cs : Array Value) : FrS L0 L w0 (w.setRow wg cs) :=
  ⟨h.os, h.tape, h.output, by have := h.size; simpa [World.setRow] using this, fun b hb hz => (setRow_other w wg b cs (fun e => ho (by rw [← e, h.own b hb]; exact hz))).trans (h.block b hb hz), h.own, h.sb⟩
/-- the watches of a literal are put back -/
theorem SAt.putW (h : SAt w L n s) (hno : no < 2 * n) {v' : Value} {kept : List (Nat × Nat)} (ho : OwnR w L.own (10, no) 94 2 v' kept.length (flatW kept)) : SAt (w.setCell ⟨L.wb, no, none⟩ v') { L with wv := L.wv.set no v' } n (wset s no kept) := by
  obtain ⟨h2, h3⟩ := h.1.wt trivial
  have hw : s.watches.length = 2 * n := h.2.wt
  have k1 : SAtK (· ≠ (4, 0)) (w.setCell ⟨L.wb, no, none⟩ v') L n s := (h.1.mono (K' := (· ≠ (4, 0))) fun _ _ => trivial).fr fun b _ hne => Below.heap_setCell w ⟨L.wb, no, none⟩ _ b (fun e => hne (by rw [show b = L.wb from e]; exact h3))
  refine ⟨⟨fun _ => k1.st (by simp), fun _ => ⟨?_, h3⟩, fun _ => k1.tr (by simp), fun _ => k1.wy (by simp), fun _ => k1.dp (by simp), fun _ => k1.ro (by simp), fun _ => k1.si (by simp), fun _ => k1.ta (by simp), fun _ => k1.cu (by simp), fun l _ hl => ?_, fun r _ => k1.rl r (by simp)⟩, ⟨h.2.n_, h.2.tr, h.2.wy, h.2.dp, by simpa [wset] using hw, by simp [h.2.wv], h.2.rr, h.2.t3, h.2.lit, h.2.few, h.2.rows⟩⟩
  · rw [set_block h2 no]
    simp [Array.set!_eq_setIfInBounds]
  · by_cases q : l = no
    · subst q
      refine ⟨v', List.getElem?_set_self (by rw [h.2.wv]; exact hl), ?_⟩
      rw [wset_getD (by omega), if_pos rfl]
      exact ho.fr fun b hb hk => Below.heap_setCell w ⟨L.wb, l, none⟩ _ b (fun e => by rw [show b = L.wb from e, h3] at hk; cases hk)
    · obtain ⟨u, e1, e2⟩ := k1.wl l (by simp) hl
      refine ⟨u, ?_, ?_⟩
      · show (L.wv.set no v')[l]? = some u
        rw [List.getElem?_set_ne (fun e => q e.symm)]
        exact e1
      · rw [wset_getD (by omega), if_neg q]
        exact e2
end

end Go.Proofs.Ytbicefgjompnoaa.Sx
/- What stays so of a store while the watches of a literal are gone through (plain). -/
namespace Go.Proofs.Ytbicefgjompnoaa.Sx

/-- a watch: its literal and its row are there -/
def POK (n : Nat) (s : St) (p : Nat × Nat) : Prop := p.2 < 2 * n ∧ p.1 < s.rows.length ∧ ∀ c, s.rows[p.1]? = some (some c) → 2 ≤ c.length
def wsum (s : St) : Nat := (s.watches.map List.length).sum

theorem sum_set (l : List (List (Nat × Nat))) (i : Nat) (x : List (Nat × Nat)) (h : i < l.length) : ((l.set i x).map List.length).sum + (l.getD i []).length = (l.map List.length).sum + x.length := by
  induction l generalizing i with
  | nil => simp at h
  | cons a l ih =>
    cases i with
    | zero => simp; omega
    | succ i =>
      have := ih i (by simpa using h)
      simp only [List.set_cons_succ, List.map_cons, List.sum_cons, List.getD_cons_succ]
      omega
theorem sum_two (l : List (List (Nat × Nat))) (i j : Nat) (hi : i < l.length) (hne : i ≠ j) : (l.getD i []).length + (l.getD j []).length ≤ (l.map List.length).sum := by
  have h1 := sum_set l i [] hi
  have h2 : ((l.set i []).getD j []).length ≤ ((l.set i []).map List.length).sum := by
    generalize l.set i [] = m
    clear h1 hi hne
    induction m generalizing j with
    | nil => simp
    | cons a m ih =>
      cases j with
      | zero => simp
      | succ j => have := ih j; simp only [List.getD_cons_succ, List.map_cons, List.sum_cons]; omega
  have h3 : (l.set i []).getD j [] = l.getD j [] := by
    rw [List.getD_eq_getElem?_getD, List.getElem?_set_ne hne, ← List.getD_eq_getElem?_getD]
  rw [h3] at h2
  simp only [List.length_nil] at h1
  omega

/-- .. while they are gone through: S0 bounds how many watches there are -/
structure LkJ (n no S0 : Nat) (s : St) (kept rest : List (Nat × Nat)) : Prop where
  tr : TrOK n s
  cuts : s.cuts.length ≤ 1000
  wl : s.watches.length = 2 * n
  no_ : s.truth.getD no 0 = -1
  wat : ∀ l p, p ∈ s.watches.getD l [] → POK n s p
  kp : ∀ p ∈ kept, POK n s p
  rp : ∀ p ∈ rest, POK n s p
  lit : ∀ (r : Nat) (c : List Nat), s.rows[r]? = some (some c) → ∀ x ∈ c, x < 2 * n
  sum : wsum s + kept.length + rest.length ≤ S0 + (s.watches.getD no []).length
  rw_ : s.rows.length ≤ 1000000000
  big : S0 ≤ 3000000000

theorem POK.row {n r : Nat} {s : St} {p : Nat × Nat} {c c' : List Nat} (h : POK n s p) (hr : s.rows[r]? = some (some c)) (hl : c'.length = c.length) : POK n { s with rows := s.rows.set r (some c') } p := by
  refine ⟨h.1, by show _ < (s.rows.set r _).length; rw [List.length_set]; exact h.2.1, fun d hd => ?_⟩
  have hd' : (s.rows.set r (some c'))[p.1]? = some (some d) := hd
  by_cases q : r = p.1
  · rw [← q, List.getElem?_set_self (List.getElem?_eq_some_iff.1 hr).1] at hd'
    have : c' = d := by simpa using hd'
    rw [← this, hl]
    exact h.2.2 c (by rw [← q]; exact hr)
  · rw [List.getElem?_set_ne q] at hd'
    exact h.2.2 d hd'

section
variable {n no S0 : Nat} {s : St} {kept rest : List (Nat × Nat)} {r o : Nat}
theorem LkJ.row {c c' : List Nat} (h : LkJ n no S0 s kept rest) (hr : s.rows[r]? = some (some c)) (hl : c'.length = c.length) (hx : ∀ x ∈ c', x < 2 * n) : LkJ n no S0 { s with rows := s.rows.set r (some c') } kept rest := by
  refine ⟨⟨h.tr.len, h.tr.nd, h.tr.lt, h.tr.tr⟩, h.cuts, h.wl, h.no_, fun l p hp => (h.wat l p hp).row hr hl, fun p hp => (h.kp p hp).row hr hl, fun p hp => (h.rp p hp).row hr hl, fun r' d hd x hx' => ?_, h.sum, by show (s.rows.set r _).length ≤ _; rw [List.length_set]; exact h.rw_, h.big⟩
  have hd' : (s.rows.set r (some c'))[r']? = some (some d) := hd
  by_cases q : r = r'
  · rw [← q, List.getElem?_set_self (List.getElem?_eq_some_iff.1 hr).1] at hd'
    have : c' = d := by simpa using hd'
    rw [← this] at hx'
    exact hx x hx'
  · rw [List.getElem?_set_ne q] at hd'
    exact h.lit r' d hd' x hx'
theorem LkJ.keep {o' : Nat} (h : LkJ n no S0 s kept ((r, o) :: rest)) (ho : o' < 2 * n) : LkJ n no S0 s (kept ++ [(r, o')]) rest := by
  refine ⟨h.tr, h.cuts, h.wl, h.no_, h.wat, fun p hp => ?_, fun p hp => h.rp p (List.mem_cons_of_mem _ hp), h.lit, by have := h.sum; simp only [List.length_append, List.length_cons, List.length_nil] at this ⊢; omega, h.rw_, h.big⟩
  rcases List.mem_append.1 hp with q | q
  · exact h.kp p q
  · rw [List.mem_singleton.1 q]
    exact ⟨ho, (h.rp _ (List.mem_cons_self)).2⟩
theorem LkJ.drop (h : LkJ n no S0 s kept ((r, o) :: rest)) : LkJ n no S0 s kept rest :=
  ⟨h.tr, h.cuts, h.wl, h.no_, h.wat, h.kp, fun p hp => h.rp p (List.mem_cons_of_mem _ hp), h.lit, by have := h.sum; simp only [List.length_cons] at this; omega, h.rw_, h.big⟩
theorem LkJ.push {l o' : Nat} (h : LkJ n no S0 s kept ((r, o) :: rest)) (hl : l < 2 * n) (hne : l ≠ no) (ho : o' < 2 * n) : LkJ n no S0 (pushW s l r o') kept rest := by
  have hlw : l < s.watches.length := by rw [h.wl]; exact hl
  refine ⟨⟨h.tr.len, h.tr.nd, h.tr.lt, h.tr.tr⟩, h.cuts, by simp [pushW, h.wl], h.no_, fun l' p hp => ?_, h.kp, fun p hp => h.rp p (List.mem_cons_of_mem _ hp), h.lit, ?_, h.rw_, h.big⟩
  · rw [pushW_getD hlw] at hp
    split at hp
    · rcases List.mem_append.1 hp with q | q
      · exact h.wat l p q
      · rw [List.mem_singleton.1 q]
        exact ⟨ho, (h.rp _ (List.mem_cons_self)).2⟩
    · exact h.wat l' p hp
  · have h1 := h.sum
    have h2 := sum_set s.watches l (s.watches.getD l [] ++ [(r, o')]) hlw
    have h3 : (pushW s l r o').watches.getD no [] = s.watches.getD no [] := by rw [pushW_getD hlw, if_neg (fun e => hne e.symm)]
    rw [h3]
    simp only [List.length_cons, List.length_append, List.length_nil] at h1 h2
    have h4 : wsum (pushW s l r o') = ((s.watches.set l (s.watches.getD l [] ++ [(r, o')])).map List.length).sum := rfl
    have h5 : wsum s = (s.watches.map List.length).sum := rfl
    omega
theorem LkJ.few {l : Nat} (h : LkJ n no S0 s kept rest) (hl : l < 2 * n) (hne : l ≠ no) : (s.watches.getD l []).length ≤ 3000000000 := by
  have h1 := sum_two s.watches l no (by rw [h.wl]; exact hl) hne
  have h2 := h.sum
  have h3 := h.big
  have h5 : wsum s = (s.watches.map List.length).sum := rfl
  omega
theorem LkJ.believe {l : Nat} (h : LkJ n no S0 s kept rest) (hl : l < 2 * n) (h0 : s.truth.getD l 0 = 0) (y : Int) : LkJ n no S0 (believeP s l y) kept rest := by
  have ho := opp_lt hl
  have hg : ∀ k, (believeP s l y).truth.getD k 0 = if k = opp l then -1 else if k = l then 1 else s.truth.getD k 0 := fun k => set2_getD (by rw [h.tr.len]; exact hl) (by rw [h.tr.len]; exact ho)
  refine ⟨h.tr.believe hl h0 y, h.cuts, h.wl, ?_, h.wat, h.kp, h.rp, h.lit, h.sum, h.rw_, h.big⟩
  rw [hg]
  split
  · rfl
  · split
    · rename_i _ q
      have := h.no_
      rw [q, h0] at this
      omega
    · exact h.no_
end

/-- .. when they were gone through -/
structure LkI (n : Nat) (s : St) : Prop where
  tr : TrOK n s
  cuts : s.cuts.length ≤ 1000
  wl : s.watches.length = 2 * n
  wat : ∀ l p, p ∈ s.watches.getD l [] → POK n s p
  lit : ∀ (r : Nat) (c : List Nat), s.rows[r]? = some (some c) → ∀ x ∈ c, x < 2 * n
  sum : wsum s ≤ 2 * s.rows.length
  rw_ : s.rows.length ≤ 1000000000
theorem LkI.start {n no : Nat} {s : St} (h : LkI n s) (hno : s.truth.getD no 0 = -1) : LkJ n no (wsum s) s [] (s.watches.getD no []) :=
  ⟨h.tr, h.cuts, h.wl, hno, h.wat, by simp, fun p hp => h.wat no p hp, h.lit, by simp, h.rw_, by have := h.sum; have := h.rw_; omega⟩
theorem LkJ.stop {n no S0 : Nat} {s : St} {kept rest : List (Nat × Nat)} (h : LkJ n no S0 s kept rest) (hno : no < 2 * n) (hS : S0 ≤ 2 * s.rows.length) : LkI n (wset s no (kept ++ rest)) := by
  have hw : no < s.watches.length := by rw [h.wl]; exact hno
  refine ⟨⟨h.tr.len, h.tr.nd, h.tr.lt, h.tr.tr⟩, h.cuts, by simp [wset, h.wl], fun l p hp => ?_, h.lit, ?_, h.rw_⟩
  · rw [wset_getD hw] at hp
    split at hp
    · rcases List.mem_append.1 hp with q | q
      · exact h.kp p q
      · exact h.rp p q
    · exact h.wat l p hp
  · have h1 := sum_set s.watches no (kept ++ rest) hw
    have h2 := h.sum
    have h4 : wsum (wset s no (kept ++ rest)) = ((s.watches.set no (kept ++ rest)).map List.length).sum := rfl
    have h5 : wsum s = (s.watches.map List.length).sum := rfl
    have h6 : (wset s no (kept ++ rest)).rows.length = s.rows.length := rfl
    rw [List.length_append] at h1
    omega
theorem LkI.done {n : Nat} {s : St} (h : LkI n s) (d : Nat) : LkI n { s with done := d } := ⟨⟨h.tr.len, h.tr.nd, h.tr.lt, h.tr.tr⟩, h.cuts, h.wl, h.wat, h.lit, h.sum, h.rw_⟩

/-- the first two literals, when the false one comes second -/
theorem swap0_len (c : List Nat) (no : Nat) : (swap0 c no).length = c.length := by unfold swap0; split <;> simp
theorem swap0_mem {c : List Nat} {no x : Nat} (h2 : 2 ≤ c.length) (hx : x ∈ swap0 c no) : x ∈ c := by
  unfold swap0 at hx
  split at hx
  · rename_i q
    rcases List.mem_or_eq_of_mem_set hx with hx | hx
    · rcases List.mem_or_eq_of_mem_set hx with hx | hx
      · exact hx
      · rw [hx, List.getD_eq_getElem?_getD, List.getElem?_eq_getElem (by omega)]
        exact List.getElem_mem (by omega)
    · rw [hx, ← q, List.getD_eq_getElem?_getD, List.getElem?_eq_getElem (by omega)]
      exact List.getElem_mem (by omega)
  · exact hx
theorem getD_mem {c : List Nat} {i : Nat} (h : i < c.length) : c.getD i 0 ∈ c := by
  rw [List.getD_eq_getElem?_getD, List.getElem?_eq_getElem h]
  exact List.getElem_mem h

/-- the walk through the watches keeps it so -/
theorem lookG_keep {n no S0 : Nat} (hno : no < 2 * n) : ∀ (rest kept : List (Nat × Nat)) (s : St), LkJ n no S0 s kept rest →
    LkI n (wset (lookG no rest kept s).1 no (lookG no rest kept s).2.1) ∧ (lookG no rest kept s).1.done = s.done ∧ (lookG no rest kept s).1.rows.length = s.rows.length ∧ -1 ≤ (lookG no rest kept s).2.2 ∧ (lookG no rest kept s).2.2 ≤ 2147483647 ∨ ¬ S0 ≤ 2 * s.rows.length
  | [], kept, s, h => by
    by_cases hS : S0 ≤ 2 * s.rows.length
    · refine .inl ⟨?_, rfl, rfl, by simp [lookG], by simp [lookG]⟩
      have := h.stop hno hS
      simpa [lookG] using this
    · exact .inr hS
  | (r, o) :: rest, kept, s, h => by
    by_cases hS : S0 ≤ 2 * s.rows.length
    · have hp := h.rp (r, o) (List.mem_cons_self)
      unfold lookG
      split
      · exact lookG_keep hno rest _ s (h.keep hp.1)
      · split
        · exact lookG_keep hno rest _ s h.drop
        · rename_i c hc
          have hrl := hp.2.1
          have hrow : s.rows[r]? = some (some c) := by
            rw [List.getD_eq_getElem?_getD, List.getElem?_eq_getElem hrl] at hc
            rw [List.getElem?_eq_getElem hrl]
            exact congrArg some hc
          have h2 := hp.2.2 c hrow
          have hm : ∀ x ∈ swap0 c no, x < 2 * n := fun x hx => h.lit r c hrow x (swap0_mem h2 hx)
          have hl := swap0_len c no
          have h0 : (swap0 c no).getD 0 0 < 2 * n := hm _ (getD_mem (by omega))
          have h' := h.row hrow hl hm
          have hrr : (s.rows.set r (some (swap0 c no))).length = s.rows.length := List.length_set
          have hS' : S0 ≤ 2 * (s.rows.set r (some (swap0 c no))).length := by rw [hrr]; exact hS
          split
          · rcases lookG_keep hno rest _ _ (h'.keep h0) with q | q
            · exact .inl ⟨q.1, q.2.1, by rw [q.2.2.1]; exact hrr, q.2.2.2⟩
            · exact absurd hS' q
          · split
            · rename_i k hk
              have hk1 := List.mem_of_find?_eq_some hk
              have hk2 := List.find?_some hk
              simp only [List.mem_range] at hk1
              simp only [decide_eq_true_eq] at hk2
              have hkl : k + 2 < (swap0 c no).length := by omega
              have hl' : (swap0 c no).getD (k + 2) 0 < 2 * n := hm _ (getD_mem hkl)
              have hne : (swap0 c no).getD (k + 2) 0 ≠ no := fun e => by rw [e, h.no_] at hk2; omega
              have h'' := h.row (c' := ((swap0 c no).set 1 ((swap0 c no).getD (k + 2) 0)).set (k + 2) no) hrow (by simp [hl]) (fun x hx => by
                rcases List.mem_or_eq_of_mem_set hx with hx | hx
                · rcases List.mem_or_eq_of_mem_set hx with hx | hx
                  · exact hm x hx
                  · rw [hx]; exact hl'
                · rw [hx]; exact hno)
              rcases lookG_keep hno rest _ _ (h''.push hl' hne h0) with q | q
              · exact .inl ⟨q.1, q.2.1, by rw [q.2.2.1]; exact List.length_set, q.2.2.2⟩
              · exact absurd (show S0 ≤ 2 * (s.rows.set r _).length by rw [List.length_set]; exact hS) q
            · split
              · refine .inl ⟨?_, rfl, hrr, by simp only []; omega, by have := h.rw_; simp only []; omega⟩
                have := (h'.keep h0).stop hno hS'
                simpa using this
              · rename_i hb1 _ hb2
                have hz : s.truth.getD ((swap0 c no).getD 0 0) 0 = 0 := by omega
                rcases lookG_keep hno rest _ _ ((h'.keep h0).believe (s := { s with rows := s.rows.set r (some (swap0 c no)) }) h0 hz (r : Int)) with q | q
                · exact .inl ⟨q.1, q.2.1, by rw [q.2.2.1]; exact hrr, q.2.2.2⟩
                · exact absurd hS' q
    · exact .inr hS

end Go.Proofs.Ytbicefgjompnoaa.Sx
