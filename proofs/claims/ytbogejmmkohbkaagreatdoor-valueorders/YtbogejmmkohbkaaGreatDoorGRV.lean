/- The reference: its reader: rows of values. -/
import Derived.Test.YtbogejmmkohbkaaGreatDoorGRS
import Derived.Test.YtbogejmmkohbkaaGreatDoorGRM
import Derived.Test.YtbogejmmkohbkaaGreatDoorGP2
namespace Go.Proofs.YtbogejmmkohbkaaGreatDoor.Sx
open Go.RowKit Go.Sort

/-- what the reference holds behind a reading that came to R -/
def AgreeR {β : Type} (T : List UInt8) (R : Except (Nat × Nat) (β × St)) (s : RSt) (x : β) (s' : RSt) : Prop :=
  s'.deep = s.deep ∧ s'.at' ≤ T.length ∧ s.at' ≤ s'.at' ∧ (s.e ≠ 0 → s'.e = s.e ∧ s'.bad = s.bad) ∧ (s.e = 0 → (s'.e = 0 ∧ R = .ok (x, pos T s'.at' s'.hv)) ∨ (s'.e ≠ 0 ∧ R = .error (s'.e, s'.bad)))
def RPost (w : World) (br : Nat) (t : ByteArray) (s : RSt) (d : Nat) (e : Ending) (w' : World) : Prop :=
  ∃ (v : Value) (x : AV (d + 1)) (s' : RSt), e = .returned v ∧ Fr (· ≠ br) w w' ∧ Ref (fun k => w.heap.size ≤ k) w' (d + 1) x v ∧ (wtR (d + 1) x = wt (d + 1) x ∧ wt (d + 1) x ≤ 1024) ∧ RR w' br t s' ∧ AgreeR t.data.toList (valueP t.data.toList d (pos t.data.toList s.at' s.hv)) s x s'
def RVal (d : Nat) : Prop := ∀ (w : World) (br : Nat) (t : ByteArray) (s : RSt), RR w br t s → s.deep = 24 - d → s.at' ≤ t.size → t.size ≤ 4000 →
  Calls Tryz.prog 27 #[.pointer (some ⟨br, 0, none⟩)] w (RPost w br t s d)

/-- two slices own rows of their own; what stands in them -/
structure Rows2 (base : Nat) (wr : World) (n : Nat) (s1 s2 : Value) (h1 h2 : List H5) (k1 k2 : List (AV n)) : Prop where
  o1 : wr.ownsRow base 30 5 s1 h1.length (flat5 h1)
  o2 : wr.ownsRow base 30 5 s2 h2.length (flat5 h2)
  dis : ∀ g, s1.ownBlock = some g → s2.ownBlock ≠ some g
  a1 : Are (fun k => base ≤ k ∧ s1.ownBlock ≠ some k ∧ s2.ownBlock ≠ some k) wr n k1 h1
  a2 : Are (fun k => base ≤ k ∧ s1.ownBlock ≠ some k ∧ s2.ownBlock ≠ some k) wr n k2 h2
  m1 : ∀ x ∈ k1, wtR n x = wt n x ∧ wt n x ≤ 1024
  m2 : ∀ x ∈ k2, wtR n x = wt n x ∧ wt n x ≤ 1024

theorem Are.fr {P Q : Nat → Prop} {w w' : World} {n : Nat} {es : List (AV n)} {hs : List H5} (h : Are P w n es hs) (hf : Fr P w w') (hQ : ∀ k, k < w.heap.size → P k → Q k) : Are Q w' n es hs :=
  ⟨h.1, fun i x g hx hg => (h.2 i x g hx hg).fr hf hQ _ _ _⟩
theorem Rows2.keep {base n : Nat} {w w' : World} {s1 s2 : Value} {h1 h2 : List H5} {k1 k2 : List (AV n)} (h : Rows2 base w n s1 s2 h1 h2 k1 k2) (hf : Fr (fun k => base ≤ k) w w') : Rows2 base w' n s1 s2 h1 h2 k1 k2 :=
  ⟨owns5_of h.o1 (fun g hg hl => hf.block g hl hg), owns5_of h.o2 (fun g hg hl => hf.block g hl hg), h.dis, h.a1.fr (hf.mono (fun _ q => q.1)) (fun _ _ q => q), h.a2.fr (hf.mono (fun _ q => q.1)) (fun _ _ q => q), h.m1, h.m2⟩
theorem Rows2.nil (base : Nat) (w : World) (n : Nat) : Rows2 base w n (.slice none 0 0) (.slice none 0 0) [] [] [] [] :=
  ⟨owns5_nil _ _, owns5_nil _ _, fun g e => by simp [Value.ownBlock] at e, ⟨rfl, fun i x h hx => by simp at hx⟩, ⟨rfl, fun i x h hx => by simp at hx⟩, fun x hx => by simp at hx, fun x hx => by simp at hx⟩

theorem skipN_idem (T : List UInt8) (p : Nat) : skipN T (skipN T p) = skipN T p := by
  unfold skipN
  rw [← List.drop_drop]
  have : ∀ l : List UInt8, blankLen (l.drop (blankLen l)) = 0 := by
    intro l
    induction l with
    | nil => rfl
    | cons c r ih =>
      unfold blankLen at ih ⊢
      rw [List.takeWhile_cons]
      split
      · simpa using ih
      · rename_i h; simp [h]
  rw [this]; rfl
theorem pos_idem (T : List UInt8) (p : Nat) (hv : Bool) : pos T (skipN T p) hv = pos T p hv := by
  rw [pos_skip, pos_skip, skipN_idem]

/-- how a loop over values stands -/
def LoopA {β : Type} (T cl : List UInt8) (item : St → Except (Nat × Nat) (β × St)) (R : Except (Nat × Nat) (List β × St)) (f : Nat) (ks : List β) (en : Bool) (s1 : RSt) : Prop :=
  s1.at' ≤ T.length ∧ ks.length ≤ s1.at' + 1 ∧
  ((s1.e ≠ 0 ∧ R = .error (s1.e, s1.bad)) ∨ (s1.e = 0 ∧ en = true ∧ R = .ok (ks, pos T s1.at' s1.hv)) ∨
    (s1.e = 0 ∧ en = false ∧ R = pend ks (listP T cl item f (pos T s1.at' s1.hv)) ∧ T.length + 1 ≤ f + s1.at' ∧ ks.length ≤ s1.at'))
theorem pend_pend {β : Type} (a b : List β) (r : Except (Nat × Nat) (List β × St)) : pend a (pend b r) = pend (a ++ b) r := by
  cases r with
  | error e => rfl
  | ok q => obtain ⟨l, s⟩ := q; simp [pend]
theorem listP_one {β : Type} {T cl : List UInt8} {item : St → Except (Nat × Nat) (β × St)} {f : Nat} {S : St} {x : β} {S1 : St} (h : item S = .ok (x, S1)) :
    listP T cl item (f + 1) S = if isP T S1 cl then .ok ([x], advP T S1) else if isP T S1 [44] then pend [x] (listP T cl item f (advP T S1)) else .error (1, S1.at') := by
  simp only [listP, h]
  split
  · rfl
  · split
    · unfold pend; cases listP T cl item f (advP T S1) <;> rfl
    · rfl
theorem sign_err (T m : List UInt8) (s : RSt) (h : s.e ≠ 0) : signB T m s = false ∧ (signS T m s).e = s.e ∧ (signS T m s).bad = s.bad := by
  have : signB T m s = false := by unfold signB; simp [h]
  exact ⟨this, rfl, rfl⟩
theorem sign_at (T m : List UInt8) (s : RSt) (ha : s.at' ≤ T.length) : s.at' ≤ (signS T m s).at' ∧ (signS T m s).at' ≤ T.length := by
  have h := skipN_le ha
  unfold signS
  simp only
  split
  · rename_i hb
    unfold signB at hb
    rw [Bool.and_eq_true] at hb
    have := List.IsPrefix.length_le (List.isPrefixOf_iff_prefix.1 hb.2)
    rw [List.length_drop] at this
    omega
  · exact h
theorem want_at (T m : List UInt8) (s : RSt) (ha : s.at' ≤ T.length) : s.at' ≤ (wantS T m s).at' ∧ (wantS T m s).at' ≤ T.length ∧ (wantS T m s).deep = s.deep := by
  have h := sign_at T m s ha
  unfold wantS
  split
  · exact ⟨h.1, h.2, rfl⟩
  · unfold failR
    split
    · exact ⟨h.1, h.2, rfl⟩
    · exact ⟨h.1, h.2, rfl⟩
theorem want_err (T m : List UInt8) (s : RSt) (h : s.e ≠ 0) : (wantS T m s).e = s.e ∧ (wantS T m s).bad = s.bad := by
  have q := sign_err T m s h
  unfold wantS
  rw [q.1, if_neg (by simp)]
  unfold failR
  rw [if_neg (by rw [q.2.1]; exact h)]
  exact ⟨rfl, rfl⟩
/-- what is wanted stands there, or not -/
theorem want_so (T m : List UInt8) (s : RSt) (hm : Sgn m) (h : s.e = 0) :
    (isP T (pos T s.at' s.hv) m = true ∧ (wantS T m s).e = 0 ∧ advP T (pos T s.at' s.hv) = pos T (wantS T m s).at' s.hv ∧ (wantS T m s).hv = s.hv) ∨ (isP T (pos T s.at' s.hv) m = false ∧ (wantS T m s).e = 1 ∧ (wantS T m s).bad = skipN T s.at') := by
  have hi := isP_sign T s.at' s.hv m hm
  have hb : signB T m s = Lib.hasPrefix (T.drop (skipN T s.at')) m := by unfold signB; simp [h]
  rw [hi.1]
  unfold wantS
  rw [hb]
  cases hp : Lib.hasPrefix (T.drop (skipN T s.at')) m with
  | true =>
    left
    refine ⟨rfl, ?_, ?_, ?_⟩
    · simp [signS, h]
    · rw [hi.2 hp]; simp [signS, hb, hp]
    · simp [signS]
  | false =>
    right
    refine ⟨rfl, ?_, ?_⟩
    · simp [failR, signS, h]
    · simp [failR, signS, h, hb, hp]
theorem sign_so (T m : List UInt8) (s : RSt) (hm : Sgn m) (h : s.e = 0) :
    signB T m s = isP T (pos T s.at' s.hv) m ∧ (signB T m s = true → advP T (pos T s.at' s.hv) = pos T (signS T m s).at' s.hv ∧ (signS T m s).at' = skipN T s.at' + m.length) ∧ (signB T m s = false → pos T (signS T m s).at' s.hv = pos T s.at' s.hv) := by
  have hi := isP_sign T s.at' s.hv m hm
  have hb : signB T m s = Lib.hasPrefix (T.drop (skipN T s.at')) m := by unfold signB; simp [h]
  refine ⟨by rw [hb, hi.1], fun q => ?_, fun q => ?_⟩
  · rw [hi.2 (by rw [← hb]; exact q)]
    simp [signS, q]
  · simp only [signS, q]
    exact pos_idem T s.at' s.hv
theorem sgn_44 : Sgn [44] := by unfold Sgn; simp
theorem isP_both {T : List UInt8} {S : St} {c m : List UInt8} (h1 : isP T S m = true) (h2 : isP T S c = true) : m = c := by
  unfold isP at h1 h2
  rw [Bool.and_eq_true, beq_iff_eq] at h1 h2
  rw [← h1.2, h2.2]
/-- a round -/
theorem LoopA.round {β : Type} {T cl : List UInt8} {item : St → Except (Nat × Nat) (β × St)} {R : Except (Nat × Nat) (List β × St)} {f : Nat} {ks : List β} {s1 s2 : RSt} {x : β} (hcl : Sgn cl) (h44 : [44] ≠ cl) (h : LoopA T cl item R f ks false s1) (he : s1.e = 0) (ha : AgreeR T (item (pos T s1.at' s1.hv)) s1 x s2) :
    (signB T [44] s2 = true → LoopA T cl item R (f - 1) (ks ++ [x]) false (signS T [44] s2) ∧ 1 ≤ f) ∧ (signB T [44] s2 = false → ∀ f', LoopA T cl item R f' (ks ++ [x]) true (wantS T cl (signS T [44] s2))) := by
  obtain ⟨h1, h2, h3⟩ := h
  obtain ⟨a1, a2, a3, a4, a5⟩ := ha
  obtain ⟨b1, b2, b3⟩ : R = pend ks (listP T cl item f (pos T s1.at' s1.hv)) ∧ T.length + 1 ≤ f + s1.at' ∧ ks.length ≤ s1.at' := by
    rcases h3 with q | q | q
    · exact absurd he q.1
    · exact absurd q.2.1 (by simp)
    · exact q.2.2
  obtain ⟨g, rfl⟩ : ∃ g, f = g + 1 := ⟨f - 1, by omega⟩
  have sa := sign_at T [44] s2 a2
  have wa := want_at T cl (signS T [44] s2) sa.2
  have hlen : (ks ++ [x]).length = ks.length + 1 := by simp
  rcases a5 he with ⟨c1, c2⟩ | ⟨c1, c2⟩
  · rw [listP_one c2] at b1
    have so := sign_so T [44] s2 sgn_44 c1
    constructor
    · intro hs
      obtain ⟨d1, d2⟩ := so.2.1 hs
      rw [hs] at so
      have hnc : isP T (pos T s2.at' s2.hv) cl = false := by
        cases hq : isP T (pos T s2.at' s2.hv) cl with
        | false => rfl
        | true => exact absurd (isP_both so.1.symm hq) h44
      rw [hnc, if_neg (by simp), ← so.1, if_pos rfl, pend_pend, d1] at b1
      have hk := (skipN_le a2).1
      simp only [List.length_singleton] at d2
      refine ⟨⟨sa.2, by omega, .inr (.inr ⟨c1, rfl, b1, by simp only [Nat.add_sub_cancel]; omega, by omega⟩)⟩, by omega⟩
    · intro hs f'
      have d3 := so.2.2 hs
      rw [hs] at so
      rw [← so.1] at b1
      have ws := want_so T cl (signS T [44] s2) hcl c1
      have hhv : (signS T [44] s2).hv = s2.hv := rfl
      rw [hhv, d3] at ws
      refine ⟨wa.2.1, by omega, ?_⟩
      rcases ws with ⟨w1, w2, w3, w4⟩ | ⟨w1, w2, w3⟩
      · rw [w1, if_pos rfl, w3] at b1
        exact .inr (.inl ⟨w2, rfl, by rw [b1, w4]; rfl⟩)
      · rw [w1, if_neg (by simp), if_neg (by simp)] at b1
        refine .inl ⟨by rw [w2]; decide, ?_⟩
        rw [b1, w2, w3]
        have : (signS T [44] s2).at' = skipN T s2.at' := by simp [signS, hs]
        rw [this, skipN_idem]
        rfl
  · have se := sign_err T [44] s2 c1
    constructor
    · intro hs; rw [se.1] at hs; simp at hs
    · intro _ f'
      have we := want_err T cl (signS T [44] s2) (by rw [se.2.1]; exact c1)
      refine ⟨wa.2.1, by omega, .inl ⟨by rw [we.1, se.2.1]; exact c1, ?_⟩⟩
      rw [b1, we.1, we.2, se.2.1, se.2.2]
      simp only [listP, c2]
      rfl
/-- an end -/
theorem LoopA.agree {β : Type} {T cl : List UInt8} {item : St → Except (Nat × Nat) (β × St)} {R : Except (Nat × Nat) (List β × St)} {f : Nat} {ks : List β} {en : Bool} {s s1 : RSt} {dp : Nat} (h : LoopA T cl item R f ks en s1) (hd : s1.e ≠ 0 ∨ en = true) (he : s.e = 0) (hdp : dp = s.deep) (ha : s.at' ≤ s1.at') : AgreeR T R s ks { s1 with deep := dp } := by
  refine ⟨hdp, h.1, ha, fun q => absurd he q, fun _ => ?_⟩
  rcases h.2.2 with q | q | q
  · exact .inr ⟨q.1, q.2⟩
  · exact .inl ⟨q.1, q.2.2⟩
  · rcases hd with r | r
    · exact absurd q.1 r
    · rw [q.2.1] at r; simp at r
end Go.Proofs.YtbogejmmkohbkaaGreatDoor.Sx

namespace Go.Proofs.YtbogejmmkohbkaaGreatDoor.Sx
open Go.RowKit Go.Sort

theorem owns5_off {w w' : World} {base : Nat} {sl : Value} {n : Nat} {vs : List Value} (h : w.ownsRow base 30 5 sl n vs) (hb : ∀ g, g < w.heap.size → sl.ownBlock = some g → w'.heap[g]? = w.heap[g]?) : w'.ownsRow base 30 5 sl n vs := by
  refine ⟨h.1, ?_⟩
  rcases h.2 with q | ⟨g2, c2, cur, e, q1, q2, q3⟩
  · exact .inl q
  · exact .inr ⟨g2, c2, cur, e, q1, (hb g2 (block_lt q2) (by rw [e]; rfl)).trans q2, q3⟩
/-- one more in the first row -/
theorem Rows2.put1 {base n : Nat} {W w' : World} {s1 s2 : Value} {h1 h2 : List H5} {k1 k2 : List (AV n)} {g cap L : Nat} {u : H5} {x : AV n} (h : Rows2 base W n s1 s2 h1 h2 k1 k2) (ow : Own5 w' base g cap (h1 ++ [u])) (hL : L = (h1 ++ [u]).length) (fw : Fr (fun k => k < W.heap.size ∧ s1.ownBlock ≠ some k) W w') (hg : s1.ownBlock = some g ∨ W.heap.size ≤ g)
    (hx : Ref (fun k => base ≤ k ∧ s1.ownBlock ≠ some k ∧ s2.ownBlock ≠ some k) W n x u.v) (hm : wtR n x = wt n x ∧ wt n x ≤ 1024) : Rows2 base w' n (.slice (some ⟨g, 0, none⟩) L cap) s2 (h1 ++ [u]) h2 (k1 ++ [x]) k2 := by
  have hfr : Fr (fun k => base ≤ k ∧ s1.ownBlock ≠ some k ∧ s2.ownBlock ≠ some k) W w' := ⟨fw.os, fw.tape, fw.output, fw.size, fun i hi hp => fw.block i hi ⟨hi, hp.2.1⟩⟩
  have hQ : ∀ k, k < W.heap.size → (base ≤ k ∧ s1.ownBlock ≠ some k ∧ s2.ownBlock ≠ some k) → (base ≤ k ∧ (Value.slice (some ⟨g, 0, none⟩) L cap).ownBlock ≠ some k ∧ s2.ownBlock ≠ some k) := by
    intro k hk q
    refine ⟨q.1, ?_, q.2.2⟩
    intro e
    simp only [Value.ownBlock, Option.some.injEq] at e
    subst e
    rcases hg with r | r
    · exact q.2.1 r
    · omega
  subst hL
  refine ⟨ow.owns, owns5_off h.o2 (fun k hk e => fw.block k hk ⟨hk, fun q => h.dis k q e⟩), ?_, (h.a1.snoc hx).fr hfr hQ, h.a2.fr hfr hQ, ?_, h.m2⟩
  · intro k hk
    simp only [Value.ownBlock, Option.some.injEq] at hk
    subst hk
    rcases hg with q | q
    · exact h.dis g q
    · intro e; have := (own5_low h.o2 e).2; omega
  · intro y hy
    rcases List.mem_append.1 hy with q | q
    · exact h.m1 y q
    · rw [List.mem_singleton.1 q]; exact hm
/-- one more in the second row -/
theorem Rows2.put2 {base n : Nat} {W w' : World} {s1 s2 : Value} {h1 h2 : List H5} {k1 k2 : List (AV n)} {g cap L : Nat} {u : H5} {x : AV n} (h : Rows2 base W n s1 s2 h1 h2 k1 k2) (ow : Own5 w' base g cap (h2 ++ [u])) (hL : L = (h2 ++ [u]).length) (fw : Fr (fun k => k < W.heap.size ∧ s2.ownBlock ≠ some k) W w') (hg : s2.ownBlock = some g ∨ W.heap.size ≤ g)
    (hx : Ref (fun k => base ≤ k ∧ s1.ownBlock ≠ some k ∧ s2.ownBlock ≠ some k) W n x u.v) (hm : wtR n x = wt n x ∧ wt n x ≤ 1024) : Rows2 base w' n s1 (.slice (some ⟨g, 0, none⟩) L cap) h1 (h2 ++ [u]) k1 (k2 ++ [x]) := by
  have hfr : Fr (fun k => base ≤ k ∧ s1.ownBlock ≠ some k ∧ s2.ownBlock ≠ some k) W w' := ⟨fw.os, fw.tape, fw.output, fw.size, fun i hi hp => fw.block i hi ⟨hi, hp.2.2⟩⟩
  have hQ : ∀ k, k < W.heap.size → (base ≤ k ∧ s1.ownBlock ≠ some k ∧ s2.ownBlock ≠ some k) → (base ≤ k ∧ s1.ownBlock ≠ some k ∧ (Value.slice (some ⟨g, 0, none⟩) L cap).ownBlock ≠ some k) := by
    intro k hk q
    refine ⟨q.1, q.2.1, ?_⟩
    intro e
    simp only [Value.ownBlock, Option.some.injEq] at e
    subst e
    rcases hg with r | r
    · exact q.2.2 r
    · omega
  subst hL
  refine ⟨owns5_off h.o1 (fun k hk e => fw.block k hk ⟨hk, fun q => h.dis k e q⟩), ow.owns, ?_, h.a1.fr hfr hQ, (h.a2.snoc hx).fr hfr hQ, h.m1, ?_⟩
  · intro k hk e
    simp only [Value.ownBlock, Option.some.injEq] at e
    subst e
    rcases hg with q | q
    · exact h.dis g hk q
    · have := (own5_low h.o1 hk).2; omega
  · intro y hy
    rcases List.mem_append.1 hy with q | q
    · exact h.m2 y q
    · rw [List.mem_singleton.1 q]; exact hm
/-- a value just read stands apart from both rows -/
theorem Rows2.apart {base n : Nat} {w W : World} {s1 s2 : Value} {h1 h2 : List H5} {k1 k2 : List (AV n)} (h : Rows2 base w n s1 s2 h1 h2 k1 k2) (hb : base ≤ w.heap.size) {x : AV n} {v : Value} (hx : Ref (fun k => w.heap.size ≤ k) W n x v) : Ref (fun k => base ≤ k ∧ s1.ownBlock ≠ some k ∧ s2.ownBlock ≠ some k) W n x v :=
  hx.fr (Fr.refl _ W) (fun k _ hk => ⟨Nat.le_trans hb hk, fun e => by have := (own5_low h.o1 e).2; omega, fun e => by have := (own5_low h.o2 e).2; omega⟩) _ _ _

/-- what is told of a row -/
def VRow (w : World) (br : Nat) (t : ByteArray) (s : RSt) (k : Nat) (R : Except (Nat × Nat) (List (AV (k + 1)) × St)) (e : Ending) (w' : World) : Prop :=
  ∃ (a : Option Addr) (len cap : Nat) (ks : List (AV (k + 1))) (s' : RSt), e = .returned (.tuple #[.slice a len cap, .slice none 0 0]) ∧ Fr (· ≠ br) w w' ∧ Row5 (fun j => w.heap.size ≤ j) w' (Ref (fun j => w.heap.size ≤ j) w' (k + 1)) a len ks ∧ len ≤ 4001 ∧ (∀ x ∈ ks, wtR (k + 1) x = wt (k + 1) x ∧ wt (k + 1) x ≤ 1024) ∧ RR w' br t s' ∧ AgreeR t.data.toList R s ks s'

set_option maxRecDepth 100000 in
set_option maxHeartbeats 4000000 in
theorem rvalues_list (k : Nat) (hV : RVal k) (hk : k ≤ 23) (w : World) (br : Nat) (t m : ByteArray) (s : RSt) (h : RR w br t s) (he : s.e = 0) (hd : s.deep = 23 - k) (ha : s.at' ≤ t.size) (ht : t.size ≤ 4000) (hm : Sgn m.data.toList) (h44 : [44] ≠ m.data.toList) (hms : m.size ≤ 2) :
    Calls Tryz.prog 65 #[.pointer (some ⟨br, 0, none⟩), .string m, .int .i64 0, .bool false] w (VRow w br t s k (valuesP t.data.toList m.data.toList (valueP t.data.toList k) (pos t.data.toList s.at' s.hv))) := by
  have hlt : t.data.toList.length = t.size := by simp
  obtain ⟨R, hR⟩ : ∃ R, valuesP t.data.toList m.data.toList (valueP t.data.toList k) (pos t.data.toList s.at' s.hv) = R := ⟨_, rfl⟩
  rw [hR]
  have HR : Hid (_ = R) := hR
  clear hR
  have HV : Hid (RVal k) := hV
  have HM : Hid (Sgn m.data.toList ∧ [44] ≠ m.data.toList) := ⟨hm, h44⟩
  clear hV hm h44
  obtain ⟨at', deep, e, bad, hv⟩ := s
  simp only at he hd ha HR
  subst he
  have c2 := block_cell h 2
  have f2 := frozen_block h 2
  have hl := block_lt h
  have hdb : deep ≤ 23 := by omega
  have HD : Hid (deep = 23 - k) := hd
  clear hd
  obtain ⟨z, hz⟩ : ∃ z, z = deep + 1 := ⟨_, rfl⟩
  have hw1 : (deep : Int) + 1 = (z : Int) := by omega
  have hw2 : wrap64 (z : Int) = (z : Int) := by unfold wrap64; omega
  have hn : ¬ (24 : Int) < (z : Int) := by omega
  have HZ : Hid (z = deep + 1) := hz
  clear hz
  have HX : Hid (RR (w.setCell ⟨br, 2, none⟩ (.int .i64 (z : Int))) br t ⟨at', z, 0, bad, hv⟩) := by
    have := set_block h 2 (.int .i64 (z : Int))
    exact this
  have HF : Hid (Fr (· ≠ br) w (w.setCell ⟨br, 2, none⟩ (.int .i64 (z : Int)))) := (Fr.refl _ w).set (by simp) _
  clear h
  have HSG : Hid (∀ (W : World) (s : RSt) (mm : ByteArray), RR W br t s → s.at' ≤ t.size → mm.size ≤ 100 → _) := fun W s mm q1 q2 q3 => rsign_any W br t mm s q1 q2 ht q3
  have HWA : Hid (∀ (W : World) (s : RSt), RR W br t s → s.at' ≤ t.size → _) := fun W s q1 q2 => rwant_any W br t m s q1 q2 ht (by omega)
  generalize hP : VRow w br t ⟨at', deep, 0, bad, hv⟩ k R = PP
  have HP : Hid (_ = PP) := hP
  clear hP
  go_enter Tryz.func65, Tryz.ntmps65
  go_wp2_with fail
  generalize w.setCell ⟨br, 2, none⟩ (.int .i64 (z : Int)) = w0 at HX HF ⊢
  refine (HSG.out w0 _ m HX.out ha (by omega)).mono ?_
  rintro e' w1 ⟨rfl, hr1, hf1⟩
  have sa := sign_at t.data.toList m.data.toList ⟨at', z, 0, bad, hv⟩ (by rw [hlt]; exact ha)
  have so := sign_so t.data.toList m.data.toList ⟨at', z, 0, bad, hv⟩ HM.out.1 rfl
  obtain ⟨s1, hs1⟩ : ∃ s1, signS t.data.toList m.data.toList ⟨at', z, 0, bad, hv⟩ = s1 := ⟨_, rfl⟩
  obtain ⟨b, hb⟩ : ∃ b, signB t.data.toList m.data.toList ⟨at', z, 0, bad, hv⟩ = b := ⟨_, rfl⟩
  have hse : s1.e = 0 ∧ s1.deep = z ∧ s1.hv = hv := by rw [← hs1]; exact ⟨rfl, rfl, rfl⟩
  rw [hs1] at hr1 sa so
  rw [hb] at so ⊢
  have HL : Hid (LoopA t.data.toList m.data.toList (valueP t.data.toList k) R (t.size + 1) [] b s1 ∧ s1.deep = z ∧ at' ≤ s1.at') := by
    refine ⟨⟨sa.2, by simp, ?_⟩, hse.2.1, sa.1⟩
    have hR := HR.out
    unfold valuesP at hR
    simp only at so
    cases b with
    | true =>
      rw [← so.1, if_pos rfl, (so.2.1 rfl).1] at hR
      exact .inr (.inl ⟨hse.1, rfl, by rw [hse.2.2]; exact hR.symm⟩)
    | false =>
      rw [← so.1, if_neg (by simp), hlt] at hR
      refine .inr (.inr ⟨hse.1, rfl, ?_, by rw [hlt]; omega, by simp⟩)
      rw [hse.2.2, so.2.2 rfl, ← hR]
      unfold pend
      cases listP t.data.toList m.data.toList (valueP t.data.toList k) (t.size + 1) (pos t.data.toList at' hv) <;> rfl
  have HR1 : Hid (RR w1 br t s1) := hr1
  have HF1 : Hid (Fr (· ≠ br) w w1) := HF.out.trans hf1
  clear hr1 hf1 hs1 hb so sa hse HF HX HR w0 c2 f2
  go_wp2_with fail
  go_loopg [10, 11, 12] (t.size + 1) (fun f sk sl en wr => ∃ (s2 : RSt) (ks : List (AV (k + 1))) (hs : List H5) (b2 : Bool), sl = .slice none 0 0 ∧ en = .bool b2 ∧ Hid (LoopA t.data.toList m.data.toList (valueP t.data.toList k) R f ks b2 s2 ∧ s2.deep = z ∧ at' ≤ s2.at') ∧ Hid (Rows2 w.heap.size wr (k + 1) sk (.slice none 0 0) hs [] ks []) ∧ Hid (RR wr br t s2) ∧ Hid (Fr (· ≠ br) w wr))
  case atStart => exact ⟨s1, [], [], b, rfl, rfl, HL, Rows2.nil _ _ _, HR1, HF1⟩
  case round =>
    clear HL HR1 HF1
    obtain ⟨s2, ks, hs, b2, rfl, rfl, HL, HW, HR1, HF1⟩ := hrel
    have hs2 := HL.out.1.1
    obtain ⟨at2, deep2, e2, bad2, hv2⟩ := s2
    have hdz : deep2 = z := HL.out.2.1
    subst deep2
    have c3 := block_cell HR1.out 3
    have c2 := block_cell HR1.out 2
    have f2 := frozen_block HR1.out 2
    have hbl := block_lt HR1.out
    have hw3 : wrap64 ((z : Int) - 1) = (z : Int) - 1 := by have := HZ.out; unfold wrap64; omega
    have HW4 : Hid ((z : Int) - 1 = (deep : Int)) := by show _ = _; have := HZ.out; omega
    have HEND : Hid ((e2 ≠ 0 ∨ b2 = true) → PP (.returned (.tuple #[u10, .slice none 0 0])) (wr.setCell ⟨br, 2, none⟩ (.int .i64 (deep : Int)))) := by
      intro hd
      have hA := HL.out.1.agree (s := ⟨at', deep, 0, bad, hv⟩) (dp := deep) hd rfl rfl HL.out.2.2
      have hlk : hs.length = ks.length := HW.out.a1.1
      have hkl := HL.out.1.2.1
      have hfw : Fr (fun k => w.heap.size ≤ k) wr (wr.setCell ⟨br, 2, none⟩ (.int .i64 (deep : Int))) := (Fr.refl _ wr).set (by simp; omega) _
      have HW2 := HW.out.keep hfw
      obtain ⟨sa, sn, sc, rfl, hrow⟩ := row_of_owns2 (Q := fun k => w.heap.size ≤ k) HW2.o1 HW2.a1 (by simp only at hkl hs2; omega) (Fr.refl _ _) (fun g hg => hg) (fun k hk hp => hp.1)
      rw [← HP.out]
      refine ⟨sa, sn, sc, ks, _, rfl, HF1.out.set (by simp) _, hrow, ?_, HW2.m1, ?_, hA⟩
      · have := hrow.1; simp only at hkl hs2; omega
      · exact set_block HR1.out 2 _
    by_cases he2 : e2 = 0
    · subst he2
      cases b2 with
      | true =>
        have HE := HEND.out (.inr rfl)
        clear HEND
        go_wp2_with fail
        rw [HW4.out]; exact HE
      | false =>
        clear HEND
        have hgk0 : 1 ≤ gk := by
          rcases HL.out.1.2.2 with q | q | q
          · exact absurd rfl q.1
          · exact absurd q.2.1 (by simp)
          · have := q.2.2.2.1; simp only at hs2 this; omega
        go_wp2_with fail
        refine (HV.out wr br t _ HR1.out (by have := HZ.out; have := HD.out; show z = 24 - k; omega) (by rw [← hlt]; exact hs2) ht).mono ?_
        rintro e' w2 ⟨v, x, s3, rfl, hf2, hx, hmx, hr3, hag⟩
        have HX : Hid (Ref _ w2 (k + 1) x v) := HW.out.apart HF1.out.size hx
        have HW2 : Hid (Rows2 w.heap.size w2 (k + 1) u10 (.slice none 0 0) hs [] ks []) := HW.out.keep (hf2.mono (fun j hj => by omega))
        have hrd := HL.out.1.round HM.out.1 HM.out.2 rfl hag
        have HRD : Hid (_ ∧ _) := hrd
        have HSD : Hid (s3.deep = z ∧ at' ≤ s3.at') := ⟨hag.1, Nat.le_trans HL.out.2.2 hag.2.2.1⟩
        have hs3 : s3.at' ≤ t.size := by rw [← hlt]; exact hag.2.1
        have HR3 : Hid (RR w2 br t s3) := hr3
        have HF3 : Hid (Fr (· ≠ br) w w2) := HF1.out.trans hf2
        have HMX : Hid (_ ∧ _) := hmx
        have hlk : hs.length ≤ 4001 := by
          have q1 : hs.length = ks.length := HW.out.a1.1
          have q2 := HL.out.1.2.1
          simp only at q2 hs2
          omega
        obtain ⟨u, rfl⟩ := hx.ones
        obtain ⟨i0, hi0, hz0, hz1, hz2⟩ := info_parts info5
        have hbw : w.heap.size ≤ w2.heap.size := HF3.out.size
        clear hrd hag hmx hx hf2 hr3 HW HL HR1 HF1 c3 c2 f2 hbl
        have mo := follows
        unfold H5.v
        have st0 := store_one u.o0
        have st1 := store_one u.o1
        have st2 := store_one u.o2
        have st3 := store_one u.o3
        have st4 := store_one u.o4
        have G2 : Grew w2 ((w2.alloc (.cells #[u.c0, u.c1, u.c2, u.c3, u.c4] 30)).alloc (.cells #[u.c0, u.c1, u.c2, u.c3, u.c4] 30)) := ((Grew.refl w2).alloc _).alloc _
        have HXN : Hid (((w2.alloc (.cells #[u.c0, u.c1, u.c2, u.c3, u.c4] 30)).alloc (.cells #[u.c0, u.c1, u.c2, u.c3, u.c4] 30)).heap[w2.heap.size + 1]? = some (.cells #[u.c0, u.c1, u.c2, u.c3, u.c4] 30 (0, 0))) := heap_new (by simp)
        have HW4' : Hid (Rows2 w.heap.size ((w2.alloc (.cells #[u.c0, u.c1, u.c2, u.c3, u.c4] 30)).alloc (.cells #[u.c0, u.c1, u.c2, u.c3, u.c4] 30)) (k + 1) u10 (.slice none 0 0) hs [] ks []) := HW2.out.keep (Fr.grew G2)
        have HX4 : Hid (Ref (fun j => w.heap.size ≤ j ∧ u10.ownBlock ≠ some j ∧ (Value.slice none 0 0).ownBlock ≠ some j) ((w2.alloc (.cells #[u.c0, u.c1, u.c2, u.c3, u.c4] 30)).alloc (.cells #[u.c0, u.c1, u.c2, u.c3, u.c4] 30)) (k + 1) x u.v) := HX.out.grew G2
        have HF4 : Hid (Fr (· ≠ br) w ((w2.alloc (.cells #[u.c0, u.c1, u.c2, u.c3, u.c4] 30)).alloc (.cells #[u.c0, u.c1, u.c2, u.c3, u.c4] 30))) := HF3.out.trans (Fr.grew G2)
        have HR4 : Hid (RR ((w2.alloc (.cells #[u.c0, u.c1, u.c2, u.c3, u.c4] 30)).alloc (.cells #[u.c0, u.c1, u.c2, u.c3, u.c4] 30)) br t s3) := HR3.out.fr (G2.below.block br (block_lt HR3.out))
        clear G2 HW2 HX HF3 HR3
        have hones : ∀ q ∈ [u.c0, u.c1, u.c2, u.c3, u.c4], Value.oneCell' q = true := by
          intro q hq
          simp only [List.mem_cons, List.not_mem_nil, or_false] at hq
          rcases hq with rfl | rfl | rfl | rfl | rfl
          · exact u.o0
          · exact u.o1
          · exact u.o2
          · exact u.o3
          · exact u.o4
        have HON : Hid (∀ q ∈ [u.c0, u.c1, u.c2, u.c3, u.c4], Value.oneCell' q = true) := hones
        clear hones
        go_wp2_with (at_builtin; refine wpList_append_lies _ rfl (.tmp 54) (.tmp 56) 28 rfl w.heap.size 30 i0 nilV5 5 80 Tryz.underlying28 hi0 hz0 hz1 hz2 rfl (by decide) u10 hs.length (flat5 hs) rfl HW4'.out.o1 ⟨w2.heap.size + 1, 0, none⟩ 1 1 [u.c0, u.c1, u.c2, u.c3, u.c4] rfl rfl (World.news_of_block HXN.out) HON.out (by decide) ?q3 ?q4 ?q5 (w2.heap.size + 2) ?q6 ?_)
        case q3 => unfold maxLen; omega
        case q4 => omega
        case q5 => simp; omega
        case q6 => simp
        intro g cap2 w4 ho hg hat hlt4
        have hfw : Fr (fun j => j < ((w2.alloc (.cells #[u.c0, u.c1, u.c2, u.c3, u.c4] 30)).alloc (.cells #[u.c0, u.c1, u.c2, u.c3, u.c4] 30)).heap.size ∧ u10.ownBlock ≠ some j) ((w2.alloc (.cells #[u.c0, u.c1, u.c2, u.c3, u.c4] 30)).alloc (.cells #[u.c0, u.c1, u.c2, u.c3, u.c4] 30)) w4 := (Fr.refl _ _).grownBy hg (fun k' _ e hp => hp.2 e)
        have HW5 : Hid (Rows2 w.heap.size w4 (k + 1) (.slice (some ⟨g, 0, none⟩) (hs.length + 1) cap2) (.slice none 0 0) (hs ++ [u]) [] (ks ++ [x]) []) := HW4'.out.put1 (Own5.of (by rw [← flat5_one]; exact ho)).1 (by simp) hfw (hat.imp id (fun e => by simp; omega)) HX4.out HMX.out
        have hzr := block_lt HR4.out
        have HR5 : Hid (RR w4 br t s3) := HR4.out.fr (hfw.block br hzr ⟨hzr, fun e => by have := (own5_low HW4'.out.o1 e).1; omega⟩)
        have HF5 : Hid (Fr (· ≠ br) w w4) := ⟨hfw.os.trans HF4.out.os, hfw.tape.trans HF4.out.tape, hfw.output.trans HF4.out.output, Nat.le_trans HF4.out.size hfw.size, fun i hi hp => (hfw.block i (Nat.lt_of_lt_of_le hi HF4.out.size) ⟨Nat.lt_of_lt_of_le hi HF4.out.size, fun e => by have := (own5_low HW4'.out.o1 e).1; omega⟩).trans (HF4.out.block i hi hp)⟩
        clear ho hg hat hlt4 hfw hzr HW4' HX4 HF4 HR4 HXN HON st0 st1 st2 st3 st4
        go_wp2_with fail
        refine (HSG.out w4 s3 ⟨#[44]⟩ HR5.out hs3 (by decide)).mono ?_
        rintro e' w5 ⟨rfl, hr6, hf6⟩
        have e44 : (⟨#[44]⟩ : ByteArray).data.toList = [44] := rfl
        rw [e44] at hr6 ⊢
        clear e44
        have sa := sign_at t.data.toList [44] s3 (by rw [hlt]; exact hs3)
        have sd : (signS t.data.toList [44] s3).deep = z := HSD.out.1
        have sw := want_at t.data.toList m.data.toList _ sa.2
        have HW6 : Hid (Rows2 w.heap.size w5 (k + 1) (.slice (some ⟨g, 0, none⟩) (hs.length + 1) cap2) (.slice none 0 0) (hs ++ [u]) [] (ks ++ [x]) []) := HW5.out.keep (hf6.mono (fun j hj => by omega))
        have HF6 : Hid (Fr (· ≠ br) w w5) := HF5.out.trans hf6
        have hsa : (signS t.data.toList [44] s3).at' ≤ t.size := by rw [← hlt]; exact sa.2
        have HSA : Hid (at' ≤ (signS t.data.toList [44] s3).at' ∧ (signS t.data.toList [44] s3).deep = z ∧ (signS t.data.toList [44] s3).at' ≤ (wantS t.data.toList m.data.toList (signS t.data.toList [44] s3)).at' ∧ (wantS t.data.toList m.data.toList (signS t.data.toList [44] s3)).deep = (signS t.data.toList [44] s3).deep) := ⟨Nat.le_trans HSD.out.2 sa.1, sd, sw.1, sw.2.2⟩
        clear sa sd sw HW5 HF5 hf6 HR5 HSD
        generalize signS t.data.toList [44] s3 = s4 at hr6 HRD HSA hsa
        generalize signB t.data.toList [44] s3 = b4 at HRD ⊢
        have HR6 : Hid (RR w5 br t s4) := hr6
        clear hr6
        cases b4 with
        | true =>
          have HL7 := HRD.out.1 rfl
          have HL : Hid (LoopA t.data.toList m.data.toList (valueP t.data.toList k) R (gk - 1) (ks ++ [x]) false s4 ∧ s4.deep = z ∧ at' ≤ s4.at') := ⟨HL7.1, HSA.out.2.1, HSA.out.1⟩
          have hgk := HL7.2
          clear HL7 HRD
          go_wp2_with fail
          go_roundg (gk - 1)
          case measure => omega
          case rel => exact ⟨s4, ks ++ [x], hs ++ [u], false, rfl, rfl, HL, HW6, HR6, HF6⟩
        | false =>
          have HL7 := HRD.out.2 rfl
          have HL8 : Hid (∀ f', _) := HL7
          clear HL7 HRD
          go_wp2_with fail
          refine (HWA.out w5 s4 HR6.out hsa).mono ?_
          rintro e' w6 ⟨rfl, hr7, hf7⟩
          have HR7 : Hid (RR w6 br t (wantS t.data.toList m.data.toList s4)) := hr7
          have HF7 : Hid (Fr (· ≠ br) w w6) := HF6.out.trans hf7
          have HW7 : Hid (Rows2 w.heap.size w6 (k + 1) (.slice (some ⟨g, 0, none⟩) (hs.length + 1) cap2) (.slice none 0 0) (hs ++ [u]) [] (ks ++ [x]) []) := HW6.out.keep (hf7.mono (fun j hj => by omega))
          clear hr7 hf7 HR6 HF6 HW6
          go_wp2_with fail
          go_roundg (gk - 1)
          case measure => omega
          case rel => exact ⟨_, ks ++ [x], hs ++ [u], true, rfl, rfl, ⟨HL8.out _, HSA.out.2.2.2.trans HSA.out.2.1, Nat.le_trans HSA.out.1 HSA.out.2.2.1⟩, HW7, HR7, HF7⟩
    · have HE := HEND.out (.inl he2)
      have hne : ((e2 : Int) == 0) = false := by simp; omega
      clear HEND
      go_wp2_with fail
      rw [HW4.out]; exact HE
end Go.Proofs.YtbogejmmkohbkaaGreatDoor.Sx
