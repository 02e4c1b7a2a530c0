/- The program: the store of clauses. -/
import Derived.Test.YtbicefgjompnoaaDoorF18
import Derived.Test.YtbicefgjompnoaaDoorF23
import Derived.Test.YtbicefgjompnoaaDoorF25
import Derived.Test.YtbicefgjompnoaaDoorF26
namespace Go.Proofs.YtbicefgjompnoaaDoor.Sx
open Go.RowKit Go.Sort
attribute [local go_sem] Oper.semAt_some

/-- all blocks from here on are none of the store's -/
def nrm (L : Ly) (k : Nat) : Ly := { L with own := fun b => if b < k then L.own b else (0, 0) }
theorem nrm_old {L : Ly} {k b : Nat} (h : b < k) : (nrm L k).own b = L.own b := by show (if b < k then L.own b else (0, 0)) = _; rw [if_pos h]
theorem nrm_new {L : Ly} {k b : Nat} (h : k ≤ b) : (nrm L k).own b = (0, 0) := by show (if b < k then L.own b else (0, 0)) = _; rw [if_neg (by omega)]
theorem nrm_zero {L : Ly} {k b : Nat} (h : b < k → L.own b = (0, 0)) : (nrm L k).own b = (0, 0) := by
  by_cases q : b < k
  · rw [nrm_old q]; exact h q
  · exact nrm_new (by omega)
/-- the store, where nothing of it has changed -/
theorem SAt.frl {W W' : World} {L : Ly} {n : Nat} {s : St} (h : SAt W L n s) {P : Nat → Prop} (f : Fr P W W') (hP : ∀ b, ¬ P b → L.own b = (0, 0)) : SAt W' (nrm L W.heap.size) n s := by
  have h1 : SAtK (fun _ => True) W (nrm L W.heap.size) n s := h.1.own _ fun b hb => by rw [if_pos hb]
  refine ⟨((h1.mono (K' := (· ≠ (0, 0))) fun _ _ => trivial).fr fun b hb hne => f.block b hb (Classical.byContradiction fun q => ?_)).full, ⟨h.2.n_, h.2.tr, h.2.wy, h.2.dp, h.2.wt, h.2.wv, h.2.rr, h.2.t3, h.2.lit, h.2.few, h.2.rows⟩⟩
  have := hP b q
  rw [nrm_old hb] at hne
  exact hne this
theorem NmAt.fr {w w' : World} {n pb fb base : Nat} {s : List Nat × List Nat} (h : NmAt w n pb fb base s) (f : Fr (fun _ => True) w w') : NmAt w' n pb fb base s := by
  obtain ⟨vv, e1, e2⟩ := h.ex
  refine ⟨⟨vv, (f.block fb (block_lt e1) trivial).trans e1, e2.1, ?_⟩, (f.block pb (block_lt h.pl) trivial).trans h.pl, h.ok, h.lt, Nat.le_trans h.hb f.size⟩
  rcases e2.2 with q | ⟨g, cap, cur, a1, a2, a3, a4⟩
  · exact .inl q
  · exact .inr ⟨g, cap, cur, a1, a2, (f.block g (block_lt a3) trivial).trans a3, a4⟩
theorem Fr.put {P : Nat → Prop} {a b : World} (h : Fr P a b) {l : Nat} (hl : ¬ P l) (o : Obj) : Fr P a (b.putObj l o) :=
  ⟨h.os, h.tape, h.output, by have := h.size; simpa using this, fun k hk hp => (World.putObj_heap_other (fun e => hl (by rw [← e]; exact hp))).trans (h.block k hk hp)⟩

/-- what store comes to -/
def StorePost (w : World) (s : List Nat × List Nat) (C : List (List Int)) (e : Ending) (w' : World) : Prop :=
  ∃ (cs : List (List Nat)) (L : Ly), e = .returned (.pointer (some ⟨L.sb, 0, none⟩)) ∧ cs.length = C.length ∧ (∀ (i : Nat) (x : List Int) (c : List Nat), C[i]? = some x → cs[i]? = some c → SetOf (x.map (litV s)) c) ∧ SAt w' L s.2.length (addAll (newP s.2.length) cs) ∧ Fr (fun _ => True) w w' ∧ ∀ b, b < w.heap.size → L.own b = (0, 0)

set_option maxRecDepth 100000 in
set_option maxHeartbeats 1000000 in
theorem sets_any (w : World) (fb : Nat) (ca : Option Addr) (cl cc : Nat) : Calls Tryd.prog 31 #[.pointer (some ⟨fb, 0, none⟩), .slice ca cl cc] w fun e w' => e = .returned (.func (.func 42) #[] #[.pointer (some ⟨w.heap.size + 1, 0, none⟩), .pointer (some ⟨w.heap.size, 0, none⟩)]) ∧ w' = (w.alloc (.cells #[.pointer (some ⟨fb, 0, none⟩)] 39)).alloc (.cells #[.slice ca cl cc] 22) := by
  have mo := follows
  have hmf : ∀ (fn : Fn) (first cap : Array Value) (w : World), (Instr.makeFunc fn first cap).run Tryd.prog w = .ok (.func fn first cap) w := fun _ _ _ _ => rfl
  go_enter Tryd.func31, Tryd.ntmps31
  go_wp2_with fail
  go_ret
  exact ⟨rfl, rfl⟩

/-- a clause's literals -/
theorem litV_lt {n : Nat} {s : List Nat × List Nat} (h : NmOK n s) {x : Int} (hx : s.1.getD x.natAbs 0 ≠ 0) : litV s x < 2 * s.2.length := by
  obtain ⟨k, hk⟩ : ∃ k, s.1.getD x.natAbs 0 = k + 1 := ⟨s.1.getD x.natAbs 0 - 1, by omega⟩
  have := (List.getElem?_eq_some_iff.1 (h.back _ _ hk)).1
  unfold litV
  rw [hk]
  split <;> omega
theorem SetOf.nodup {l c : List Nat} (h : SetOf l c) : c.Nodup := by
  have := h.asc
  unfold Asc at this
  exact this.imp (fun q => Nat.ne_of_lt q)

/-- add, whatever the clause -/
theorem add_any (w : World) (L : Ly) (n k : Nat) (s : St) (cb : Nat) (c : List Nat) (d : Array Nat) (h : SAt w L n s) (hO : LkI n s) (hR : s.single.length ≤ s.rows.length) (hem : s.empty ≤ 1000000000) (hk : s.rows.length ≤ k) (hk2 : k + 1 ≤ 1000000000) (hc : CAt w L cb d c) (hl : ∀ x ∈ c, x < 2 * n) :
    Calls Tryd.prog 32 #[.pointer (some ⟨L.sb, 0, none⟩), .slice (some ⟨cb, 0, none⟩) c.length d.size] w (AddPost w L n cb (addP s c)) := by
  match c, hc, hl with
  | [], _, _ => exact add_none w L n s cb d.size h (by omega)
  | [a], hc, _ => exact add_one w L n s cb a d h hc (by omega) hR
  | a :: b :: t, hc, hl =>
    refine add_two w L n s cb a b t d h hc (hl a (by simp)) (hl b (by simp)) (by omega) (fun l => ?_)
    have h1 := wl_le (s := s) l
    have h2 := hO.sum
    omega

end Go.Proofs.YtbicefgjompnoaaDoor.Sx
/- The program: note. -/
namespace Go.Proofs.YtbicefgjompnoaaDoor.Sx
open Go.RowKit Go.Sort Go.Maps

theorem sorted_set {len : Nat} {D D' : Array Nat} {d : List Nat} (h : SortsTo len D D') (hd : D.toList.take len = d) (hnd : d.Nodup) : SetOf d (D'.toList.take len) := by
  obtain ⟨⟨h1, _, h3⟩, h2⟩ := h
  have hp : (D'.toList.take len).Perm d := by
    rw [← hd]
    simpa using h3
  have hn : (D'.toList.take len).Nodup := hp.nodup_iff.2 hnd
  refine ⟨?_, fun x => hp.mem_iff⟩
  unfold Asc
  rw [List.pairwise_iff_getElem]
  intro i j hi hj hij
  have hi' : i < D'.size ∧ i < len := by simp at hi; omega
  have hj' : j < D'.size ∧ j < len := by simp at hj; omega
  have hle := h2 i j (Nat.zero_le _) hij hj'.2
  have e1 : (D'.toList.take len)[i] = D'[i]! := by simp [hi'.1]
  have e2 : (D'.toList.take len)[j] = D'[j]! := by simp [hj'.1]
  have hne : (D'.toList.take len)[i] ≠ (D'.toList.take len)[j] := fun e => by
    have := (List.nodup_iff_pairwise_ne.1 hn)
    rw [List.pairwise_iff_getElem] at this
    exact this i j hi hj hij e
  rw [e1, e2] at hne ⊢
  simp [ltN] at hle
  omega

/-- an append at a step of a region that draws, by its run -/
theorem step_append_run {P : Program} {w : World} {ops : Array Oper} {o : Oper} {a : Act} {K : Act → World → Prop} {Q : Exit → Act → World → Prop} {E : Prop} (hgd : o.guard = none) (s x : Operand) (t : TypeId)
    (ho : o.op = .call { callee := .builtin .append, args := #[s, x], argTypes := #[t, t] }) (v u v1 : Value) (w1 : World) (hs : a.eval s = v) (hx : a.eval x = u) (hr : (Builtin.append_ #[t, t] o.type #[v, u]).run P w = .ok v1 w1) (h : K (a.put o.dst v1) w1) :
    if Region.wanted o (yielded ops a.tmps) = true then Oper.wp P o a w K Q else E := by
  have hw : Region.wanted o (yielded ops a.tmps) = true := by simp [Region.wanted, hgd]
  rw [if_pos hw]
  unfold Oper.wp execOp
  simp only [ho, resolve, invoke, builtin, Sem.run_bind, Sem.run_pure, Result.andThen_ok, List.map_toArray, List.map_cons, List.map_nil, hs, hx, hr]
  exact h

/-- what note comes to -/
def NotePost (w : World) (P H : Nat → Prop) (rows : List (Option (List Nat))) (m row : Nat) (e : Ending) (w' : World) : Prop :=
  e = .returned (.tuple #[]) ∧ Fr (fun b => ¬ P b) w w' ∧ ∃ F', SameAt w' (fun b => P b ∨ w.heap.size ≤ b) (fun r => H r ∨ r = row) rows m F'

end Go.Proofs.YtbicefgjompnoaaDoor.Sx
/- A book of clauses (plain): a clause comes in, a clause goes. -/
namespace Go.Proofs.YtbicefgjompnoaaDoor.Sx

/-- .. from the beginning on -/
theorem BS.sf0 {n : Nat} {s : St} (h : BS n s) : SF n [] [] s.rows s :=
  ⟨h.F.I, h.F.W, h.F.tt, h.F.wy, fun x hx => by simp at hx, h.F.lk, fun r c i _ _ _ h4 _ => by simp at h4, fun i l hi => by
    rcases h.F.y i l hi with ⟨_, z⟩ | z
    · simp at z
    · exact .inr z, RP.refl _, h.F.dn⟩
theorem SF.bs {n : Nat} {A : List (Option (List Nat))} {s : St} (h : SF n [] [] A s) (hd : s.done = s.trail.length) (he : s.empty = 0) (ho : ∀ (r l : Nat), s.rows[r]? = some (some [l]) → l ∈ s.trail) : BS n s := by
  refine ⟨⟨h.I, h.W, h.tt, h.wy, fun _ z => z, h.lk, ?_, ?_, RP.refl _, h.dn⟩, hd, he, ho⟩
  · have := h.lk
    rw [hd, List.take_length] at this
    exact this
  · intro i l hi
    rcases h.y i l hi with ⟨_, z⟩ | z
    · simp at z
    · exact .inr z

/-- clauses, and one more -/
def Plus (s : St) (c : List Nat) (s' : St) : Prop := (∀ d, Cl s' d → (∃ d', Cl s d' ∧ ∀ x, x ∈ d' ↔ x ∈ d) ∨ ∀ x, x ∈ d ↔ x ∈ c) ∧ (∀ d, Cl s d → ∃ d', Cl s' d' ∧ ∀ x, x ∈ d' ↔ x ∈ d) ∧ ∃ d', Cl s' d' ∧ ∀ x, x ∈ d' ↔ x ∈ c
theorem add_plus (s : St) {c c' : List Nat} (hp : ∀ x, x ∈ c' ↔ x ∈ c) : Plus s c (addP s c').1 := by
  by_cases hne : c' = []
  · subst hne
    refine ⟨fun d hd => ?_, fun d hd => ?_, [], .inr ⟨rfl, by show 0 < s.empty + 1; omega⟩, hp⟩
    · rcases hd with ⟨r, q⟩ | ⟨q, _⟩
      · exact .inl ⟨d, .inl ⟨r, q⟩, fun x => Iff.rfl⟩
      · exact .inr fun x => by rw [q]; exact hp x
    · rcases hd with ⟨r, q⟩ | ⟨q, _⟩
      · exact ⟨d, .inl ⟨r, q⟩, fun x => Iff.rfl⟩
      · exact ⟨d, .inr ⟨q, by show 0 < s.empty + 1; omega⟩, fun x => Iff.rfl⟩
  · have er := addP_rows s hne
    have ee : (addP s c').1.empty = s.empty := by
      match c', hne with
      | [a], _ => rfl
      | a :: b :: t, _ => rfl
    refine ⟨fun d hd => ?_, fun d hd => ?_, c', .inl ⟨s.rows.length, by rw [er]; simp⟩, hp⟩
    · rcases hd with ⟨r, q⟩ | ⟨q1, q2⟩
      · rw [er] at q
        by_cases hr : r < s.rows.length
        · rw [List.getElem?_append_left hr] at q
          exact .inl ⟨d, .inl ⟨r, q⟩, fun x => Iff.rfl⟩
        · have := (List.getElem?_eq_some_iff.1 q).1
          simp at this
          have e : r = s.rows.length := by omega
          rw [e] at q
          have : c' = d := by simpa using q
          exact .inr fun x => by rw [← this]; exact hp x
      · exact .inl ⟨d, .inr ⟨q1, by rw [← ee]; exact q2⟩, fun x => Iff.rfl⟩
    · rcases hd with ⟨r, q⟩ | ⟨q1, q2⟩
      · exact ⟨d, .inl ⟨r, by rw [er, List.getElem?_append_left (List.getElem?_eq_some_iff.1 q).1]; exact q⟩, fun x => Iff.rfl⟩
      · exact ⟨d, .inr ⟨q1, by rw [ee]; exact q2⟩, fun x => Iff.rfl⟩
theorem Plus.sc {s a b : St} {c : List Nat} (h : Plus s c a) (k : SC a b) : Plus s c b := by
  obtain ⟨k1, k2⟩ := k.rp.cl k.em
  obtain ⟨h1, h2, d0, h3, h4⟩ := h
  refine ⟨fun d hd => ?_, fun d hd => ?_, ?_⟩
  · obtain ⟨d1, q1, q2⟩ := k2 d hd
    rcases h1 d1 q1 with ⟨d2, q3, q4⟩ | q3
    · exact .inl ⟨d2, q3, fun x => (q4 x).trans (q2 x)⟩
    · exact .inr fun x => (q2 x).symm.trans (q3 x)
  · obtain ⟨d1, q1, q2⟩ := h2 d hd
    obtain ⟨d2, q3, q4⟩ := k1 d1 q1
    exact ⟨d2, q3, fun x => (q4 x).trans (q2 x)⟩
  · obtain ⟨d2, q3, q4⟩ := k1 d0 h3
    exact ⟨d2, q3, fun x => (q4 x).trans (h4 x)⟩

section
variable {n : Nat} {s : St} {c : List Nat}
theorem add_BB (h : BB n s) (hnd : c.Nodup) (hl : ∀ x ∈ c, x < 2 * n) (hrw : s.rows.length + 1 ≤ 1000000000) : BB n (addP s c).1 := by
  obtain ⟨e1, e2, e3, e4, e5, _⟩ := addP_same s c
  by_cases hne : c = []
  · subst hne
    exact ⟨⟨⟨h.I.tr.len, h.I.tr.nd, h.I.tr.lt, h.I.tr.tr⟩, h.I.cuts, h.I.wl, h.I.wat, h.I.lit, h.I.sum, h.I.rw_⟩, h.W, ⟨h.tt.pos, h.tt.neg⟩, h.wy, h.R.add [], h.cu, h.dn⟩
  · obtain ⟨q1, q2⟩ := addP_W h.I h.W hne hnd hl hrw
    exact ⟨q1, q2, ⟨by rw [e1, e2]; exact h.tt.pos, by rw [e1, e2]; exact h.tt.neg⟩, by rw [e3]; exact h.wy, h.R.add c, by rw [e5]; exact h.cu, by rw [e4, e2]; exact h.dn⟩
/-- it cannot be anyway -/
theorem add_never (h : BI n s false true) (hnd : c.Nodup) (hl : ∀ x ∈ c, x < 2 * n) (hrw : s.rows.length + 1 ≤ 1000000000) : BI n (addP s c).1 false true :=
  ⟨add_BB h.b hnd hl hrw, fun q => by simp at q, fun _ => (h.ne rfl).mono (add_plus s (c := c) (c' := c) fun _ => Iff.rfl).2.1 fun _ z => z⟩
theorem new_one (hS : BS n s) (hne : c ≠ []) : ∀ (r l : Nat), (addP s c).1.rows[r]? = some (some [l]) → l ∈ s.trail ∨ c = [l] := fun r l hl => by
  rw [addP_rows s hne] at hl
  by_cases hr : r < s.rows.length
  · rw [List.getElem?_append_left hr] at hl
    exact .inl (hS.o r l hl)
  · have := (List.getElem?_eq_some_iff.1 hl).1
    simp at this
    have e : r = s.rows.length := by omega
    rw [e] at hl
    exact .inr (by simpa using hl)
theorem add_empty (hne : c ≠ []) : (addP s c).1.empty = s.empty := by
  match c, hne with
  | [a], _ => rfl
  | a :: b :: t, _ => rfl
/-- nothing follows of it -/
theorem add_quiet {a b : Nat} {t : List Nat} (h : BI n s true false) (hnd : (a :: b :: t).Nodup) (hl : ∀ x ∈ a :: b :: t, x < 2 * n) (hrw : s.rows.length + 1 ≤ 1000000000) (ha : 0 ≤ s.truth.getD a 0) (hb : 0 ≤ s.truth.getD b 0) : BI n (addP s (a :: b :: t)).1 true false := by
  have hS := h.su rfl
  obtain ⟨e1, e2, e3, e4, e5, _⟩ := addP_same s (a :: b :: t)
  refine ⟨add_BB h.b hnd hl hrw, fun _ => ?_, fun q => by simp at q⟩
  have hF := hS.sf0.add (c := a :: b :: t) (by simp) hnd hl hrw (fun _ i hi hm => ?_) (fun _ i _ hm => by simp at hm)
  · refine hF.bs (by rw [e4, e2]; exact hS.d) ((add_empty (by simp)).trans hS.e) (fun r l hx => ?_)
    rcases new_one hS (by simp) r l hx with q | q
    · rw [e2]; exact q
    · simp at q
  · exfalso
    have hm' := List.mem_of_mem_take hm
    have hi : i = 0 ∨ i = 1 := by omega
    rcases hi with rfl | rfl
    · exact not_false h.b.I.tr ha hm'
    · exact not_false h.b.I.tr hb hm'
/-- all its others are false: its first is true, or it cannot be -/
theorem add_bad {a : Nat} {t : List Nat} (h : BI n s true false) (hnd : (a :: t).Nodup) (hl : ∀ x ∈ a :: t, x < 2 * n) (hrw : s.rows.length + 1 ≤ 1000000000) (ht : ∀ x ∈ t, s.truth.getD x 0 < 0) (ha : s.truth.getD a 0 < 0) : BI n (addP s (a :: t)).1 false true := by
  have hS := h.su rfl
  obtain ⟨e1, e2, e3, e4, e5, _⟩ := addP_same s (a :: t)
  refine ⟨add_BB h.b hnd hl hrw, fun q => by simp at q, fun _ => ?_⟩
  refine bad_cannot (k := s.trail.length) (hS.F.y.app (a :: t) (addP_rows s (by simp)) e2 e3) ⟨s.rows.length, a :: t, by rw [addP_rows s (by simp)]; simp, fun x hx => ?_⟩
  rw [e2]
  rcases List.mem_cons.1 hx with q | q
  · rw [q]; exact hS.F.tt.neg a ha
  · exact hS.F.tt.neg x (ht x q)
/-- .. it is true already, or becomes so: where follow begins -/
theorem add_unit {a : Nat} {t : List Nat} (h : BI n s true false) (hnd : (a :: t).Nodup) (hl : ∀ x ∈ a :: t, x < 2 * n) (hrw : s.rows.length + 1 ≤ 1000000000) (ht : ∀ x ∈ t, s.truth.getD x 0 < 0) {s1 : St}
    (h1 : (0 < s.truth.getD a 0 ∧ s1 = (addP s (a :: t)).1) ∨ (s.truth.getD a 0 = 0 ∧ s1 = believeP (addP s (a :: t)).1 a (s.rows.length : Int))) : SF n [] [] (addP s (a :: t)).1.rows s1 ∧ a ∈ s1.trail ∧ s1.rows = (addP s (a :: t)).1.rows ∧ s1.empty = 0 ∧ s1.single = (addP s (a :: t)).1.single ∧ s1.cuts = [] ∧ (∀ x ∈ s.trail, x ∈ s1.trail) := by
  have hS := h.su rfl
  obtain ⟨e1, e2, e3, e4, e5, _⟩ := addP_same s (a :: t)
  have er := addP_rows s (c := a :: t) (by simp)
  have ee := add_empty (s := s) (c := a :: t) (by simp)
  have hB := add_BB h.b hnd hl hrw
  rcases h1 with ⟨hp, rfl⟩ | ⟨h0, rfl⟩
  · have hm := hS.F.tt.pos a hp
    have hF := hS.sf0.add (c := a :: t) (by simp) hnd hl hrw (fun _ i _ _ => ⟨a, by simp, hm⟩) (fun _ i _ hm => by simp at hm)
    exact ⟨hF, by rw [e2]; exact hm, rfl, ee.trans hS.e, rfl, by rw [e5]; exact h.b.cu, fun x hx => by rw [e2]; exact hx⟩
  · have ha2 : a < 2 * n := hl a (by simp)
    have h0' : (addP s (a :: t)).1.truth.getD a 0 = 0 := by rw [e1]; exact h0
    have et : (believeP (addP s (a :: t)).1 a (s.rows.length : Int)).trail = s.trail ++ [a] := by show (addP s (a :: t)).1.trail ++ [a] = _; rw [e2]
    have hgr : ∀ x ∈ s.trail, x ∈ s.trail ++ [a] := fun x hx => List.mem_append_left _ hx
    refine ⟨⟨⟨hB.I.tr.believe ha2 h0' _, hB.I.cuts, hB.I.wl, hB.I.wat, hB.I.lit, hB.I.sum, hB.I.rw_⟩, hB.W, hB.tt.believe hB.I.tr.len ha2 _, by show ((addP s (a :: t)).1.why.set _ _).length = n; rw [List.length_set]; exact hB.wy, fun x hx => by simp at hx, ?_, fun r c i _ _ _ h4 _ => by simp at h4, ?_, RP.refl _, ?_⟩, by rw [et]; simp, rfl, ee.trans hS.e, rfl, by show (addP s (a :: t)).1.cuts = []; rw [e5]; exact h.b.cu, fun x hx => by rw [et]; exact hgr x hx⟩
    · have ed : (believeP (addP s (a :: t)).1 a (s.rows.length : Int)).done = s.done := e4
      rw [et, ed, List.take_append_of_le_length hS.F.dn]
      show LK _ _ (addP s (a :: t)).1.rows _
      rw [er]
      exact (hS.F.lk.mono hgr).app (a :: t) (fun _ i _ _ _ => ⟨a, by simp, by simp⟩)
    · have hy0 : YOK 0 [] (addP s (a :: t)).1 := hS.sf0.y.app (a :: t) er e2 e3
      refine hy0.believe hB.I.tr hB.wy ha2 h0' (.inr ⟨s.rows.length, a :: t, rfl, by rw [er]; simp, by simp, fun x hx hxa => ?_⟩)
      rw [e2]
      rcases List.mem_cons.1 hx with q | q
      · exact absurd q hxa
      · exact hS.F.tt.neg x (ht x q)
    · rw [et]
      show (addP s (a :: t)).1.done ≤ _
      rw [e4]
      have := hS.F.dn
      simp; omega
theorem add_follow {a : Nat} {t : List Nat} (h : BI n s true false) (hnd : (a :: t).Nodup) (hl : ∀ x ∈ a :: t, x < 2 * n) (hrw : s.rows.length + 1 ≤ 1000000000) (ht : ∀ x ∈ t, s.truth.getD x 0 < 0) {s1 : St}
    (h1 : (0 < s.truth.getD a 0 ∧ s1 = (addP s (a :: t)).1) ∨ (s.truth.getD a 0 = 0 ∧ s1 = believeP (addP s (a :: t)).1 a (s.rows.length : Int))) {k : Nat} {r : St × Int} (hr : followS k s1 = some r) : BI n r.1 (decide (r.2 = -1)) (!decide (r.2 = -1)) ∧ SC (addP s (a :: t)).1 r.1 := by
  have hS := h.su rfl
  obtain ⟨q1, q2, q3, q4, q5, q6, q7⟩ := add_unit h hnd hl hrw ht h1
  obtain ⟨p1, p2, p3⟩ := followS_sem k s1 r q1 hr
  have hB := add_BB h.b hnd hl hrw
  have hsc : SC (addP s (a :: t)).1 r.1 := ⟨p1.rp, p1.empty.trans (q4.trans ((add_empty (by simp)).trans hS.e).symm)⟩
  obtain ⟨m, hm⟩ := p1.tr
  refine ⟨⟨⟨p1.I, p1.W, p1.tt, p1.wy, hB.R.rp p1.rp (p1.single.trans q5), p1.cuts.trans q6, p1.dn⟩, fun q => ?_, fun q => ?_⟩, hsc⟩
  · have e : r.2 = -1 := by simpa using q
    obtain ⟨z1, z2⟩ := p2 e
    refine z1.bs z2 (p1.empty.trans q4) (fun r' l hx => ?_)
    obtain ⟨b, b1, b2⟩ := p1.rp.bw r' [l] hx
    rw [← List.singleton_perm.1 b2] at b1
    rw [hm]
    refine List.mem_append_left _ ?_
    rcases new_one hS (by simp) r' l b1 with z | z
    · exact q7 l z
    · have : a = l := by simpa using (List.cons.inj z).1
      rw [← this]; exact q2
  · have e : r.2 ≠ -1 := by simpa using q
    exact bad_cannot p1.y (p3 e)

/-- a row goes -/
def dropR (s : St) (r : Nat) : St := { s with rows := s.rows.set r none }
theorem dropR_get {r r' : Nat} {d : List Nat} (h : (dropR s r).rows[r']? = some (some d)) : r' ≠ r ∧ s.rows[r']? = some (some d) := by
  have h' : (s.rows.set r none)[r']? = some (some d) := h
  by_cases e : r = r'
  · subst e
    by_cases hl : r < s.rows.length
    · rw [List.getElem?_set_self hl] at h'; cases h'
    · rw [List.getElem?_eq_none (by simp; omega)] at h'; cases h'
  · rw [List.getElem?_set_ne e] at h'
    exact ⟨fun q => e q.symm, h'⟩
theorem drop_BB (h : BB n s) (r : Nat) : BB n (dropR s r) := by
  have hlen : (dropR s r).rows.length = s.rows.length := List.length_set
  refine ⟨⟨⟨h.I.tr.len, h.I.tr.nd, h.I.tr.lt, h.I.tr.tr⟩, h.I.cuts, h.I.wl, fun l p hp => ?_, fun r' d hd => h.I.lit r' d (dropR_get hd).2, by show wsum s ≤ 2 * (dropR s r).rows.length; rw [hlen]; exact h.I.sum, by rw [hlen]; exact h.I.rw_⟩, ⟨fun r' d i hd => h.W.wat r' d i (dropR_get hd).2, fun l r' o d hm hd => h.W.oth l r' o d hm (dropR_get hd).2, h.W.uq, fun r' d hd => h.W.nd r' d (dropR_get hd).2⟩, ⟨h.tt.pos, h.tt.neg⟩, h.wy, ⟨fun r' hr' => ?_, fun r' l hl => h.R.all1 r' l (dropR_get hl).2, fun r' hr' => h.R.no0 r' (dropR_get hr').2, h.R.nd, fun r' hr' => by rw [hlen]; exact h.R.lt r' hr'⟩, h.cu, h.dn⟩
  · have := h.I.wat l p hp
    exact ⟨this.1, by rw [hlen]; exact this.2.1, fun d hd => this.2.2 d (dropR_get hd).2⟩
  · by_cases e : r = r'
    · subst e
      exact .inr (List.getElem?_set_self (h.R.lt r hr'))
    · have hne : (dropR s r).rows[r']? = s.rows[r']? := List.getElem?_set_ne e
      rw [hne]
      exact h.R.one r' hr'
/-- .. nothing is true because of it -/
theorem drop_sure {r : Nat} {d : List Nat} (h : BI n s true false) (hr : s.rows[r]? = some (some d)) (hb : d.any (bearsL s r) = false) : BI n (dropR s r) true false := by
  have hS := h.su rfl
  have hB := drop_BB h.b r
  refine ⟨hB, fun _ => ⟨⟨hB.I, hB.W, hB.tt, hB.wy, fun _ z => z, fun r' e i hd => hS.F.lk r' e i (dropR_get hd).2, fun r' e i hd => hS.F.l0 r' e i (dropR_get hd).2, fun i l hi => ?_, RP.refl _, hB.dn⟩, hS.d, hS.e, fun r' l hl => hS.o r' l (dropR_get hl).2⟩, fun q => by simp at q⟩
  rcases hS.F.y i l hi with q | ⟨r', c', h1, h2, h3, h4⟩
  · exact .inl q
  · refine .inr ⟨r', c', h1, ?_, h3, h4⟩
    have hne : r ≠ r' := fun e => by
      subst e
      rw [hr] at h2
      have e2 : d = c' := by simpa using h2
      rw [← e2] at h3
      rw [List.any_eq_false] at hb
      refine hb l h3 ?_
      unfold bearsL
      rw [h1, (h.b.I.tr.tr l (List.mem_of_getElem? hi)).1]
      simp
    show (s.rows.set r none)[r']? = _
    rw [List.getElem?_set_ne hne]
    exact h2
theorem drop_else (h : BB n s) (r : Nat) : BI n (dropR s r) false false := ⟨drop_BB h r, fun q => by simp at q, fun q => by simp at q⟩
end

end Go.Proofs.YtbicefgjompnoaaDoor.Sx
