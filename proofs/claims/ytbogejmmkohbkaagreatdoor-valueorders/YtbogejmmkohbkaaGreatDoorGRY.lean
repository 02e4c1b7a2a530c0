/- The reference: its reader: rows too far in. -/
import Derived.Test.YtbogejmmkohbkaaGreatDoorGRX
import Derived.Test.YtbogejmmkohbkaaGreatDoorGT1
import Derived.Test.YtbogejmmkohbkaaGreatDoorGV1
namespace Go.Proofs.YtbogejmmkohbkaaGreatDoor.Sx
open Go.RowKit Go.Sort

def VDeep (w : World) (br : Nat) (t m : ByteArray) (s : RSt) (e : Ending) (w' : World) : Prop :=
  ∃ s' : RSt, e = .returned (.tuple #[.slice none 0 0, .slice none 0 0]) ∧ Fr (· ≠ br) w w' ∧ RR w' br t s' ∧ s'.deep = s.deep ∧ s'.at' ≤ t.size ∧ s.at' ≤ s'.at' ∧ s'.e = 6 ∧ s'.bad = s.at' - m.size
set_option maxRecDepth 100000 in
set_option maxHeartbeats 4000000 in
theorem rvalues_deep (le : Bool) (w : World) (br : Nat) (t m : ByteArray) (s : RSt) (h : RR w br t s) (he : s.e = 0) (hd : s.deep = 24) (ha : s.at' ≤ t.size) (hb : m.size ≤ s.at') (ht : t.size ≤ 4000) (hms : m.size ≤ 2) :
    Calls Tryz.prog 65 #[.pointer (some ⟨br, 0, none⟩), .string m, .int .i64 (if le then 1 else 0), .bool le] w (VDeep w br t m s) := by
  have hlt : t.data.toList.length = t.size := by simp
  obtain ⟨at', deep, e, bad, hv⟩ := s
  simp only at he hd ha hb
  subst he hd
  generalize hP : VDeep w br t m ⟨at', 24, 0, bad, hv⟩ = PP
  have HP : Hid (_ = PP) := hP
  clear hP
  have c1 := block_cell h 1
  have c2 := block_cell h 2
  have f2 := frozen_block h 2
  have hl := block_lt h
  obtain ⟨q, hq⟩ : ∃ q, q = at' - m.size := ⟨_, rfl⟩
  have hw3 : (at' : Int) - (m.size : Int) = (q : Int) := by omega
  have hw4 : wrap64 (q : Int) = (q : Int) := by unfold wrap64; omega
  have HQ : Hid (q = at' - m.size) := hq
  clear hq
  have HX : Hid (RR (w.setCell ⟨br, 2, none⟩ (.int .i64 25)) br t ⟨at', 25, 0, bad, hv⟩) := by
    have := set_block h 2 (.int .i64 25)
    exact this
  have HF : Hid (Fr (· ≠ br) w (w.setCell ⟨br, 2, none⟩ (.int .i64 25))) := (Fr.refl _ w).set (by simp) _
  have c1' : (w.setCell ⟨br, 2, none⟩ (.int .i64 25)).cell? ⟨br, 1, none⟩ = some (.int .i64 (at' : Int)) := block_cell HX.out 1
  clear h
  have HSG : Hid (∀ (W : World) (s : RSt) (mm : ByteArray), RR W br t s → s.at' ≤ t.size → mm.size ≤ 100 → _) := fun W s mm q1 q2 q3 => rsign_any W br t mm s q1 q2 ht q3
  have HFA : Hid (∀ (W : World), RR W br t ⟨at', 25, 0, bad, hv⟩ → _) := fun W q1 => rfail_any W br t ⟨at', 25, 0, bad, hv⟩ 6 q q1
  cases le with
  | false =>
    go_enter Tryz.func65, Tryz.ntmps65
    go_wp2_with fail
    refine (HFA.out _ HX.out).mono ?_
    rintro e' w1 ⟨rfl, hr1, hf1⟩
    have HR1 : Hid (RR w1 br t ⟨at', 25, 6, q, hv⟩) := hr1
    have HF1 : Hid (Fr (· ≠ br) w w1) := HF.out.trans hf1
    clear hr1 hf1 HF HX c1 c2 f2 c1' HFA
    go_wp2_with fail
    refine (HSG.out w1 _ m HR1.out ha (by omega)).mono ?_
    rintro e' w2 ⟨rfl, hr2, hf2⟩
    have se := sign_err t.data.toList m.data.toList ⟨at', 25, 6, q, hv⟩ (by simp)
    have sa := sign_at t.data.toList m.data.toList ⟨at', 25, 6, q, hv⟩ (by rw [hlt]; exact ha)
    rw [se.1]
    have HF2 : Hid (Fr (· ≠ br) w w2) := HF1.out.trans hf2
    obtain ⟨a2, ha2⟩ : ∃ a2, (signS t.data.toList m.data.toList ⟨at', 25, 6, q, hv⟩).at' = a2 := ⟨_, rfl⟩
    have HR2 : Hid (RR w2 br t ⟨a2, 25, 6, q, hv⟩) := by rw [← ha2]; exact hr2
    rw [ha2, hlt] at sa
    have HSA : Hid (at' ≤ a2 ∧ a2 ≤ t.size) := sa
    clear hr2 hf2 se sa ha2 HF1 HR1
    have c3 := block_cell HR2.out 3
    have c2 := block_cell HR2.out 2
    have f2 := frozen_block HR2.out 2
    have hbl := block_lt HR2.out
    go_wp2_with fail
    go_loopg [10, 11, 12] 1 (fun f sk sl en wr => sk = .slice none 0 0 ∧ sl = .slice none 0 0 ∧ en = .bool false ∧ wr = w2)
    case atStart => exact ⟨rfl, rfl, rfl, rfl⟩
    case round =>
      obtain ⟨rfl, rfl, rfl, rfl⟩ := hrel
      go_wp2_with fail
      rw [← HP.out]
      refine ⟨⟨a2, 24, 6, q, hv⟩, rfl, HF2.out.set (by simp) _, set_block HR2.out 2 _, rfl, HSA.out.2, HSA.out.1, rfl, HQ.out⟩
  | true =>
    go_enter Tryz.func65, Tryz.ntmps65
    go_wp2_with fail
    refine (HFA.out _ HX.out).mono ?_
    rintro e' w1 ⟨rfl, hr1, hf1⟩
    have HR1 : Hid (RR w1 br t ⟨at', 25, 6, q, hv⟩) := hr1
    have HF1 : Hid (Fr (· ≠ br) w w1) := HF.out.trans hf1
    clear hr1 hf1 HF HX c1 c2 f2 c1' HFA
    have c3 := block_cell HR1.out 3
    have c2 := block_cell HR1.out 2
    have f2 := frozen_block HR1.out 2
    have hbl := block_lt HR1.out
    go_wp2_with fail
    go_loopg [10, 11, 12] 1 (fun f sk sl en wr => sk = .slice none 0 0 ∧ sl = .slice none 0 0 ∧ en = .bool false ∧ wr = w1)
    case atStart => exact ⟨rfl, rfl, rfl, rfl⟩
    case round =>
      obtain ⟨rfl, rfl, rfl, rfl⟩ := hrel
      go_wp2_with fail
      rw [← HP.out]
      refine ⟨⟨at', 24, 6, q, hv⟩, rfl, HF1.out.set (by simp) _, set_block HR1.out 2 _, rfl, ha, Nat.le_refl _, rfl, HQ.out⟩
end Go.Proofs.YtbogejmmkohbkaaGreatDoor.Sx

namespace Go.Proofs.YtbogejmmkohbkaaGreatDoor.Sx

def Wgt (n : Nat) (x : AV n) : Prop := wtR n x = wt n x ∧ wt n x ≤ 1024
theorem leaf_fine (n k : Nat) (i : Int) (l : List UInt8) : Wgt (n + 1) (⟨k, i, l, [], []⟩ : Node (AV n)) := by
  have h1 : wtR (n + 1) (⟨k, i, l, [], []⟩ : Node (AV n)) = 1 := rfl
  have h2 : wt (n + 1) (⟨k, i, l, [], []⟩ : Node (AV n)) = 1 := by
    show wtN (wt n) (⟨k, i, l, [], []⟩ : Node (AV n)) = 1
    unfold wtN; simp [wtL]
  exact ⟨h1.trans h2.symm, Nat.le_trans (Nat.le_of_eq h2) (by decide)⟩
theorem nil_fine (n : Nat) : Wgt (n + 1) (mkNil : Node (AV n)) := leaf_fine n 0 0 []
theorem mkF_fine (n : Nat) (ks vs : List (AV n)) (h1 : ∀ x ∈ ks, Wgt n x) (h2 : ∀ x ∈ vs, Wgt n x) : Wgt (n + 1) (mkF (wt n) ks vs : Node (AV n)) := by
  refine ⟨?_, wt_mkF n ks vs⟩
  unfold mkF
  split
  · show 1 + wtL (wtR n) ks + wtL (wtR n) vs = 1 + wtL (wt n) ks + wtL (wt n) vs
    rw [wtL_congr ks (fun x hx => (h1 x hx).1), wtL_congr vs (fun x hx => (h2 x hx).1)]
  · rfl
theorem mkS_fine (n : Nat) (es : List (AV n)) (h : ∀ x ∈ es, Wgt n x) : Wgt (n + 1) (mkS (wt n) es : Node (AV n)) := by
  refine ⟨?_, wt_mkS n es⟩
  unfold mkS
  split
  · show 1 + wtL (wtR n) es + wtL (wtR n) [] = 1 + wtL (wt n) es
    rw [wtL_congr es (fun x hx => (h x hx).1)]; rfl
  · rfl
theorem mkP_fine (n : Nat) (ps : List (AV n × AV n)) (h1 : ∀ x ∈ ps.map Prod.fst, Wgt n x) (h2 : ∀ x ∈ ps.map Prod.snd, Wgt n x) : Wgt (n + 1) (mkP (wt n) ps : Node (AV n)) := by
  refine ⟨?_, wt_mkP n ps⟩
  unfold mkP
  split
  · exact (mkF_fine n _ _ h1 h2).1
  · rfl
/-- what stands in brackets, told by the reference -/
theorem close_agree {β : Type} {n : Nat} {T : List UInt8} {R : Except (Nat × Nat) (β × St)} {f : β → AV (n + 1)} {s s2 s3 : RSt} {ks : β} (he : s.e = 0) (he2 : s2.e = 0) (hd : s2.deep = s.deep) (ha : s.at' ≤ s2.at') (h : AgreeR T R s2 ks s3) :
    AgreeR T (heavyK (match R with | .ok (l, s') => .ok (f l, s') | .error e => .error e)) s (f ks) { s3 with hv := s3.hv || heavyP (α := AV n) (f ks) } := by
  obtain ⟨a1, a2, a3, a4, a5⟩ := h
  refine ⟨a1.trans hd, a2, Nat.le_trans ha a3, fun q => absurd he q, fun _ => ?_⟩
  rcases a5 he2 with ⟨c1, c2⟩ | ⟨c1, c2⟩
  · left
    refine ⟨c1, ?_⟩
    rw [c2]
    rfl
  · right
    refine ⟨c1, ?_⟩
    rw [c2]
    rfl
theorem value_open {k : Nat} {T : List UInt8} {S : St} {m : List UInt8} (h : isP T S m = true) : valueP T (k + 1) S = bracketP T (valueP T k) S ∧ pieceP T S = m := by
  unfold isP at h
  rw [Bool.and_eq_true, beq_iff_eq, decide_eq_true_iff] at h
  refine ⟨?_, h.2⟩
  show leafP T (bracketP T (valueP T k)) S = _
  unfold leafP
  rw [h.1]
  simp
theorem value_open0 {T : List UInt8} {S : St} {m : List UInt8} (h : isP T S m = true) (hm : m = [123] ∨ m = [60, 60] ∨ m = [91]) : valueP T 0 S = .error (6, S.at') := by
  unfold isP at h
  rw [Bool.and_eq_true, beq_iff_eq, decide_eq_true_iff] at h
  show leafP T _ S = _
  unfold leafP
  rw [h.1]
  simp only [h.2]
  rw [if_neg (by decide), if_neg (by decide), if_neg (by decide), if_pos trivial, if_pos hm]
/-- nothing opens here -/
theorem value_single {d : Nat} {T : List UInt8} {p : Nat} {hv : Bool} (hp : p ≤ T.length) (h1 : isP T (pos T p hv) [123] = false) (h2 : isP T (pos T p hv) [60, 60] = false) (h3 : isP T (pos T p hv) [91] = false) :
    valueP T d (pos T p hv) = toldP T (skipN T p) hv (singleP T (skipN T p)) := by
  have hne : ∀ m, (pos T p hv).cl = 4 → isP T (pos T p hv) m = false → ¬ pieceP T (pos T p hv) = m := by
    intro m hc h q
    unfold isP at h
    rw [hc, q] at h
    simp at h
  by_cases hc : (pos T p hv).cl = 4
  · have g1 := hne _ hc h1
    have g2 := hne _ hc h2
    have g3 := hne _ hc h3
    cases d with
    | zero =>
      show leafP T _ (pos T p hv) = _
      refine single_leaf (skipN_le hp).2 ?_
      rw [if_neg (by simp [g1, g2, g3])]
      rfl
    | succ k =>
      show leafP T _ (pos T p hv) = _
      refine single_leaf (skipN_le hp).2 ?_
      unfold bracketP
      rw [if_neg g1, if_neg g2, if_neg g3]
      rfl
  · have key : ∀ br br' : St → Except (Nat × Nat) (AV (d + 1) × St), leafP T br (pos T p hv) = leafP T br' (pos T p hv) := by
      intro br br'
      unfold leafP
      rw [if_neg hc, if_neg hc]
    have hk := single_leaf (T := T) (p := p) (hv := hv) (br := fun _ => (.error (1, skipN T p) : Except (Nat × Nat) (AV (d + 1) × St))) (skipN_le hp).2 rfl
    cases d with
    | zero => exact (key _ _).trans hk
    | succ k => exact (key _ _).trans hk
end Go.Proofs.YtbogejmmkohbkaaGreatDoor.Sx

namespace Go.Proofs.YtbogejmmkohbkaaGreatDoor.Sx
open Go.RowKit Go.Sort

/-- the keys of a sequence, at any level -/
def seqK : (d : Nat) → Nat → List (AV d)
  | 0, _ => []
  | n + 1, len => seqKeys n len
theorem seqOf_d (d : Nat) (P : Nat → Prop) (w : World) (a : Option Addr) (len cap : Nat) (vs : List (AV d)) (h : Row5 P w (Ref P w d) a len vs) (hl : len ≤ 5000) (hW : ∀ x ∈ vs, Wgt d x) :
    Calls Tryz.prog 45 #[.slice a len cap] w (MadeR (d + 1) P w (mkF (wt d) (seqK d vs.length) vs : Node (AV d))) := by
  cases d with
  | succ n => exact seqOf_ref n P w a len cap vs h hl hW
  | zero =>
    have hv : vs = [] := by
      cases vs with
      | nil => rfl
      | cons x _ => exact (show Empty from x).elim
    subst hv
    have hlen : len = 0 := h.1
    subst hlen
    refine (seqOf_ref 0 P w a 0 cap [] (row5_none P w _ a) (by omega) (by simp)).mono ?_
    rintro e w' ⟨v, rfl, hr, hf⟩
    refine ⟨v, rfl, ?_, hf⟩
    have em : (mkF (wt 1) (seqKeys 0 ([] : List (AV 1)).length) [] : Node (AV 1)) = mkFn [] [] := by unfold mkF; simp [seqKeys, wtL]
    have em2 : (mkF (wt 0) (seqK 0 ([] : List (AV 0)).length) [] : Node (AV 0)) = mkFn [] [] := by unfold mkF; simp [seqK, wtL]
    rw [em2]
    have hr2 : Ref (fun k => P k ∨ w.heap.size ≤ k) w' 2 (mkFn [] [] : Node (AV 1)) v := by rw [← em]; exact hr
    obtain ⟨s, ka, kl, kc, va, vl, vc, rfl, htx, hk, hv⟩ := hr2
    have e1 : kl = 0 := hk.1
    have e2 : vl = 0 := hv.1
    subst e1 e2
    exact ⟨s, ka, 0, kc, va, 0, vc, rfl, htx, row5_none _ _ _ _, row5_none _ _ _ _⟩
theorem mkQ_fine (d : Nat) (vs : List (AV d)) (h : ∀ x ∈ vs, Wgt d x) : Wgt (d + 1) (mkF (wt d) (seqK d vs.length) vs : Node (AV d)) := by
  refine mkF_fine d _ _ ?_ h
  cases d with
  | zero => intro x hx; exact (show Empty from x).elim
  | succ n =>
    intro x hx
    have hx' : x ∈ (List.range vs.length).map fun (i : Nat) => intAV n ((i : Int) + 1) := hx
    obtain ⟨i, _, rfl⟩ := List.mem_map.1 hx'
    exact leaf_fine n 2 _ []
theorem mkN_fine (d : Nat) (vs : List (AV d)) (h : ∀ x ∈ vs, Wgt d x) : Wgt (d + 1) (mkS (wt d) (normA (cmpV d) vs) : Node (AV d)) :=
  mkS_fine d _ (fun x hx => h x ((normA_mem (fun a b e => (cmpV_eq d a b).1 e) vs x).1 hx))
theorem mkM_fine (d : Nat) (ps : List (AV d × AV d)) (h : ∀ x, x ∈ ps.map Prod.fst ∨ x ∈ ps.map Prod.snd → Wgt d x) : Wgt (d + 1) (mkP (wt d) (normP (cmpV d) ps) : Node (AV d)) := by
  refine mkP_fine d _ (fun x hx => ?_) (fun x hx => ?_)
  · obtain ⟨p, hp, rfl⟩ := List.mem_map.1 hx
    exact h _ (.inl (List.mem_map.2 ⟨p, normP_mem _ ps p hp, rfl⟩))
  · obtain ⟨p, hp, rfl⟩ := List.mem_map.1 hx
    exact h _ (.inr (List.mem_map.2 ⟨p, normP_mem _ ps p hp, rfl⟩))

theorem agree_err {β : Type} {T : List UInt8} {R : Except (Nat × Nat) (β × St)} {s s' : RSt} {x y : β} {b : Bool} (h : AgreeR T R s x { s' with hv := b }) (he : s'.e ≠ 0) : AgreeR T R s y s' := by
  obtain ⟨a1, a2, a3, a4, a5⟩ := h
  refine ⟨a1, a2, a3, a4, fun q => ?_⟩
  rcases a5 q with ⟨c1, _⟩ | ⟨c1, c2⟩
  · exact absurd c1 he
  · exact .inr ⟨c1, c2⟩
theorem agree_skip {d : Nat} {T : List UInt8} {a0 deep e bad : Nat} {hv : Bool} {s' : RSt} {x : AV (d + 1)} (ha : a0 ≤ T.length) (h : AgreeR T (valueP T d (pos T (skipN T a0) hv)) ⟨skipN T a0, deep, e, bad, hv⟩ x s') : AgreeR T (valueP T d (pos T a0 hv)) ⟨a0, deep, e, bad, hv⟩ x s' := by
  rw [pos_idem] at h
  obtain ⟨a1, a2, a3, a4, a5⟩ := h
  exact ⟨a1, a2, Nat.le_trans (skipN_le ha).1 a3, a4, a5⟩

theorem qScan_ge : ∀ (l : List UInt8) (i : Nat), i ≤ (qScan l i).2
  | [], i => Nat.le_refl _
  | c :: r, i => by
    have := qScan_ge r (i + 1)
    simp only [qScan]
    split
    · exact Nat.le_succ i
    · split
      · omega
      · exact Nat.le_refl _
theorem num_at (l : List UInt8) (mi : Bool) (q en : Nat) : (numP l mi q en).2.2.2.2 = q ∨ (numP l mi q en).2.2.2.2 = en := by
  unfold numP
  split
  · split
    · exact .inl rfl
    · exact .inr rfl
  · exact .inl rfl
theorem word_at (l : List UInt8) (en : Nat) : (wordP l en).2.2.2.2 = en := by
  unfold wordP
  repeat' split
  all_goals rfl
theorem tail_at (T : List UInt8) (q f : Nat) (h1 : q ≤ f) (h2 : f ≤ T.length) : q ≤ (tailP T q f).2.2.2.2 ∧ (tailP T q f).2.2.2.2 ≤ T.length := by
  have hr := runLen_le (T.drop f)
  rw [List.length_drop] at hr
  unfold tailP
  split
  · exact ⟨Nat.le_refl q, Nat.le_trans h1 h2⟩
  · split
    · rcases num_at ((T.take (f + runLen (T.drop f))).drop f) (decide (q < f)) q (f + runLen (T.drop f)) with h | h
      · rw [h]; omega
      · rw [h]; omega
    · split
      · exact ⟨Nat.le_refl q, Nat.le_trans h1 h2⟩
      · rw [word_at]; omega
theorem single_at (T : List UInt8) (q : Nat) (h : q ≤ T.length) : q ≤ (singleP T q).2.2.2.2 ∧ (singleP T q).2.2.2.2 ≤ T.length := by
  unfold singleP
  split
  · exact ⟨Nat.le_refl q, h⟩
  · have hq : q + 1 ≤ T.length := by omega
    split
    · have h1 := qScan_ge (T.drop (q + 1)) (q + 1)
      have h2 := qScan_le (T.drop (q + 1)) (q + 1)
      rw [List.length_drop] at h2
      split
      · show q ≤ (qScan (T.drop (q + 1)) (q + 1)).2 ∧ (qScan (T.drop (q + 1)) (q + 1)).2 ≤ T.length
        omega
      · exact ⟨Nat.le_refl q, h⟩
    · split
      · exact tail_at T q (q + 1) (by omega) hq
      · exact tail_at T q q (Nat.le_refl q) h
theorem single_agree {d : Nat} {T : List UInt8} {p deep e bad : Nat} {hv : Bool} (he : e = 0) (hp : p ≤ T.length) (h : valueP T d (pos T p hv) = toldP T p hv (singleP T p)) :
    AgreeR T (valueP T d (pos T p hv)) ⟨p, deep, e, bad, hv⟩ (⟨(singleP T p).1, (singleP T p).2.1, (singleP T p).2.2.1, [], []⟩ : Node (AV d)) (endS ⟨p, deep, e, bad, hv⟩ (singleP T p) p) := by
  have ha := single_at T p hp
  rw [h]
  generalize singleP T p = X at ha ⊢
  subst he
  by_cases hx : X.2.2.2.1 = 0
  · have e1 : endS ⟨p, deep, 0, bad, hv⟩ X p = ⟨X.2.2.2.2, deep, 0, bad, hv⟩ := by unfold endS; rw [if_pos hx]
    rw [e1]
    refine ⟨rfl, ha.2, ha.1, fun q => absurd rfl q, fun _ => .inl ⟨rfl, ?_⟩⟩
    unfold toldP; rw [if_pos hx]
  · have e1 : endS ⟨p, deep, 0, bad, hv⟩ X p = ⟨X.2.2.2.2, deep, X.2.2.2.1, p, hv⟩ := by unfold endS; rw [if_neg hx]
    rw [e1]
    refine ⟨rfl, ha.2, ha.1, fun q => absurd rfl q, fun _ => .inr ⟨hx, ?_⟩⟩
    unfold toldP; rw [if_neg hx]

theorem close_agree2 {β : Type} {n : Nat} {T : List UInt8} {R : Except (Nat × Nat) (List β × St)} {f : List β → AV (n + 1)} {s s2 s3 : RSt} {ks : List β} (he : s.e = 0) (he2 : s2.e = 0) (hd : s2.deep = s.deep) (ha : s.at' ≤ s2.at') (h : AgreeR T R s2 ks s3) :
    AgreeR T (heavyK (closeP f R)) s (f ks) { s3 with hv := s3.hv || heavyP (α := AV n) (f ks) } := by
  obtain ⟨a1, a2, a3, a4, a5⟩ := h
  refine ⟨a1.trans hd, a2, Nat.le_trans ha a3, fun q => absurd he q, fun _ => ?_⟩
  rcases a5 he2 with ⟨c1, c2⟩ | ⟨c1, c2⟩
  · left
    refine ⟨c1, ?_⟩
    rw [c2]
    rfl
  · right
    refine ⟨c1, ?_⟩
    rw [c2]
    rfl
def Opens (T m : List UInt8) (n d : Nat) (s0 s : RSt) : Prop := s0.e = 0 ∧ s0.at' ≤ n ∧ s0.deep = 24 - d ∧ signB T m s0 = true ∧ s = signS T m s0
/-- a row behind a bracket; f: what is made of it -/
def RowsOK (d : Nat) (m c : ByteArray) (f : List (AV d) → AV (d + 1)) : Prop :=
  ∀ (w : World) (br : Nat) (t : ByteArray) (s0 s : RSt), RR w br t s → t.size ≤ 4000 → Opens t.data.toList m.data.toList t.size d s0 s →
  Calls Tryz.prog 65 #[.pointer (some ⟨br, 0, none⟩), .string c, .int .i64 0, .bool false] w fun e w' =>
    ∃ (a : Option Addr) (len cap : Nat) (ks : List (AV d)) (s' : RSt), e = .returned (.tuple #[.slice a len cap, .slice none 0 0]) ∧ Fr (· ≠ br) w w' ∧ Row5 (fun j => w.heap.size ≤ j) w' (Ref (fun j => w.heap.size ≤ j) w' d) a len ks ∧ len ≤ 4001 ∧ (∀ x ∈ ks, Wgt d x) ∧ RR w' br t s' ∧
      AgreeR t.data.toList (valueP t.data.toList d (pos t.data.toList s0.at' s0.hv)) s0 (f ks) { s' with hv := s'.hv || heavyP (α := AV d) (f ks) }
def PairsOK (d : Nat) (m c : ByteArray) : Prop :=
  ∀ (w : World) (br : Nat) (t : ByteArray) (s0 s : RSt), RR w br t s → t.size ≤ 4000 → Opens t.data.toList m.data.toList t.size d s0 s →
  Calls Tryz.prog 65 #[.pointer (some ⟨br, 0, none⟩), .string c, .int .i64 1, .bool true] w fun e w' =>
    ∃ (a a' : Option Addr) (len cap cap' : Nat) (ps : List (AV d × AV d)) (s' : RSt), e = .returned (.tuple #[.slice a len cap, .slice a' len cap']) ∧ Fr (· ≠ br) w w' ∧ Row5 (fun j => w.heap.size ≤ j) w' (Ref (fun j => w.heap.size ≤ j) w' d) a len (ps.map Prod.fst) ∧ Row5 (fun j => w.heap.size ≤ j) w' (Ref (fun j => w.heap.size ≤ j) w' d) a' len (ps.map Prod.snd) ∧ len ≤ 4001 ∧ (∀ x, x ∈ ps.map Prod.fst ∨ x ∈ ps.map Prod.snd → Wgt d x) ∧ RR w' br t s' ∧
      (s'.e ≠ 0 → AgreeR t.data.toList (valueP t.data.toList d (pos t.data.toList s0.at' s0.hv)) s0 (mkNil : Node (AV d)) s') ∧
      (s'.e = 0 → AgreeR t.data.toList (valueP t.data.toList d (pos t.data.toList s0.at' s0.hv)) s0 (mkP (wt d) (normP (cmpV d) ps) : Node (AV d)) { s' with hv := s'.hv || heavyP (α := AV d) (mkP (wt d) (normP (cmpV d) ps)) })

theorem opens_so {T m : List UInt8} {n d : Nat} {s0 s : RSt} (hn : T.length = n) (hm : Sgn m) (h : Opens T m n d s0 s) : isP T (pos T s0.at' s0.hv) m = true ∧ advP T (pos T s0.at' s0.hv) = pos T s.at' s.hv ∧ s.at' = skipN T s0.at' + m.length ∧ s.e = 0 ∧ s.deep = 24 - d ∧ s.hv = s0.hv ∧ s0.at' ≤ s.at' ∧ s.at' ≤ n := by
  obtain ⟨h1, h2, h3, h4, rfl⟩ := h
  have so := sign_so T m s0 hm h1
  have sa := sign_at T m s0 (by omega)
  have q := so.2.1 h4
  exact ⟨so.1.symm.trans h4, q.1, q.2, h1, h3, rfl, sa.1, by omega⟩
theorem rowsOK_succ (k : Nat) (hV : RVal k) (hk : k ≤ 23) (m c : ByteArray) (f : List (AV (k + 1)) → AV (k + 2)) (hm : Sgn m.data.toList) (hc : Sgn c.data.toList) (h44 : [44] ≠ c.data.toList) (hms : c.size ≤ 2)
    (hB : ∀ (T : List UInt8) (S : St), pieceP T S = m.data.toList → bracketP T (valueP T k) S = heavyK (closeP f (valuesP T c.data.toList (valueP T k) (advP T S)))) : RowsOK (k + 1) m c f := by
  intro w br t s0 s hr ht ho
  obtain ⟨o1, o2, o3, o4, o5, o6, o7, o8⟩ := opens_so (by simp) hm ho
  refine (rvalues_list k hV hk w br t c s hr o4 (by omega) o8 ht hc h44 hms).mono ?_
  rintro e w' ⟨a, len, cap, ks, s', rfl, hf, hrow, hl, hw, hr', hag⟩
  refine ⟨a, len, cap, ks, s', rfl, hf, hrow, hl, hw, hr', ?_⟩
  have hv := value_open (k := k) o1
  rw [hv.1, hB _ _ hv.2, o2]
  exact close_agree2 (n := k + 1) (f := f) ho.1 o4 (o5.trans ho.2.2.1.symm) o7 hag
theorem pairsOK_succ (k : Nat) (hV : RVal k) (hk : k ≤ 23) : PairsOK (k + 1) ⟨#[91]⟩ ⟨#[93]⟩ := by
  intro w br t s0 s hr ht ho
  have e91 : (⟨#[91]⟩ : ByteArray).data.toList = [91] := rfl
  have e93 : (⟨#[93]⟩ : ByteArray).data.toList = [93] := rfl
  rw [e91] at ho
  obtain ⟨o1, o2, o3, o4, o5, o6, o7, o8⟩ := opens_so (by simp) (by unfold Sgn; simp) ho
  refine (rvalues_pairs k hV hk w br t ⟨#[93]⟩ s hr o4 (by omega) o8 ht (by rw [e93]; unfold Sgn; simp) (by rw [e93]; decide) (by decide)).mono ?_
  rintro e w' ⟨a, a', len, cap, cap', ps, s', rfl, hf, hrow, hrow', hl, hw, hr', hag⟩
  have hv := value_open (k := k) o1
  have hA : AgreeR t.data.toList (valueP t.data.toList (k + 1) (pos t.data.toList s0.at' s0.hv)) s0 (mkP (wt (k + 1)) (normP (cmpV (k + 1)) ps) : Node (AV (k + 1))) { s' with hv := s'.hv || heavyP (α := AV (k + 1)) (mkP (wt (k + 1)) (normP (cmpV (k + 1)) ps)) } := by
    rw [hv.1, bracketP_fun hv.2, o2]
    rw [e93] at hag
    exact close_agree2 (n := k + 1) (f := fun l => (mkP (wt (k + 1)) (normP (cmpV (k + 1)) l) : Node (AV (k + 1)))) ho.1 o4 (o5.trans ho.2.2.1.symm) o7 hag
  exact ⟨a, a', len, cap, cap', ps, s', rfl, hf, hrow, hrow', hl, hw, hr', fun q => agree_err hA q, fun _ => hA⟩
theorem deep_agree {T : List UInt8} {m : List UInt8} {s0 s s' : RSt} {x : AV 1} {b : Bool} {n c : Nat} (hn : T.length = n) (hm : m = [123] ∨ m = [60, 60] ∨ m = [91]) (ho : Opens T m n 0 s0 s) (h1 : s'.deep = s.deep) (h2 : s'.at' ≤ n) (h3 : s.at' ≤ s'.at') (h4 : s'.e = 6) (h5 : s'.bad = s.at' - c) (hc : c = m.length) :
    AgreeR T (valueP T 0 (pos T s0.at' s0.hv)) s0 x { s' with hv := b } := by
  obtain ⟨o1, o2, o3, o4, o5, o6, o7, o8⟩ := opens_so hn (by unfold Sgn; rcases hm with rfl | rfl | rfl <;> simp) ho
  refine ⟨h1.trans (o5.trans ho.2.2.1.symm), by rw [hn]; exact h2, Nat.le_trans o7 h3, fun q => absurd ho.1 q, fun _ => .inr ⟨by rw [show ({ s' with hv := b } : RSt).e = s'.e from rfl, h4]; decide, ?_⟩⟩
  rw [value_open0 o1 hm]
  have : (pos T s0.at' s0.hv).at' = skipN T s0.at' := by rw [pos_skip]
  rw [this]
  show _ = Except.error (s'.e, s'.bad)
  rw [h4, h5, o3, hc, Nat.add_sub_cancel]
theorem rowsOK_zero (m c : ByteArray) (f : List (AV 0) → AV 1) (hm : m.data.toList = [123] ∨ m.data.toList = [60, 60] ∨ m.data.toList = [91]) (hc : c.size = m.size) (hms : c.size ≤ 2) : RowsOK 0 m c f := by
  intro w br t s0 s hr ht ho
  have hlm : m.data.toList.length = m.size := by simp
  obtain ⟨o1, o2, o3, o4, o5, o6, o7, o8⟩ := opens_so (by simp) (by unfold Sgn; rcases hm with h | h | h <;> rw [h] <;> simp) ho
  have H : Calls Tryz.prog 65 #[.pointer (some ⟨br, 0, none⟩), .string c, .int .i64 0, .bool false] w (VDeep w br t c s) := rvalues_deep false w br t c s hr o4 o5 o8 (by omega) ht hms
  refine H.mono ?_
  rintro e w' ⟨s', rfl, hf, hr', h1, h2, h3, h4, h5⟩
  exact ⟨none, 0, 0, [], s', rfl, hf, row5_none _ _ _ _, by omega, (fun x hx => by simp at hx), hr', deep_agree (by simp) hm ho h1 h2 h3 h4 h5 (by omega)⟩
theorem pairsOK_zero : PairsOK 0 ⟨#[91]⟩ ⟨#[93]⟩ := by
  intro w br t s0 s hr ht ho
  have e91 : (⟨#[91]⟩ : ByteArray).data.toList = [91] := rfl
  rw [e91] at ho
  obtain ⟨o1, o2, o3, o4, o5, o6, o7, o8⟩ := opens_so (by simp) (by unfold Sgn; simp) ho
  have hz : (⟨#[93]⟩ : ByteArray).size = 1 := rfl
  have H : Calls Tryz.prog 65 #[.pointer (some ⟨br, 0, none⟩), .string ⟨#[93]⟩, .int .i64 1, .bool true] w (VDeep w br t ⟨#[93]⟩ s) := rvalues_deep true w br t ⟨#[93]⟩ s hr o4 o5 o8 (by rw [hz, o3]; simp) ht (by decide)
  refine H.mono ?_
  rintro e w' ⟨s', rfl, hf, hr', h1, h2, h3, h4, h5⟩
  refine ⟨none, none, 0, 0, 0, [], s', rfl, hf, row5_none _ _ _ _, row5_none _ _ _ _, by omega, (fun x hx => by simp at hx), hr', fun q => ?_, fun q => absurd (h4.symm.trans q) (by decide)⟩
  exact agree_err (x := (mkNil : Node (AV 0))) (b := false) (deep_agree (by simp) (.inr (.inr rfl)) ho h1 h2 h3 h4 h5 rfl) (by rw [h4]; decide)
end Go.Proofs.YtbogejmmkohbkaaGreatDoor.Sx
