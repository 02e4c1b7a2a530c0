/- The reference: its reader: rows too far in. -/
import Derived.Test.YtbogejmmkohbkaaGreatDoorGRX
import Derived.Test.YtbogejmmkohbkaaGreatDoorGT1
import Derived.Test.YtbogejmmkohbkaaGreatDoorGV1
namespace Go.Proofs.YtbogejmmkohbkaaGreatDoor.Sx
open Go.RowKit Go.Sort

def VDeep (w : World) (br : Nat) (t m : ByteArray) (s : RSt) (e : Ending) (w' : World) : Prop :=
  ∃ s' : RSt, e = .returned (.tuple #[.slice none 0 0, .slice none 0 0]) ∧ Fr (· ≠ br) w w' ∧ RR w' br t s' ∧ s'.deep = s.deep ∧ s'.at' ≤ t.size ∧ s.at' ≤ s'.at' ∧ s'.e = 6 ∧ s'.bad = s.at' - m.size
set_option maxRecDepth 100000 in
set_option maxHeartbeats 4000000 in
theorem rvalues_deep (le : Bool) (w : World) (br : Nat) (t m : ByteArray) (s : RSt) (h : RR w br t s) (he : s.e = 0) (hd : s.deep = 24) (ha : s.at' ≤ t.size) (hb : m.size ≤ s.at') (ht : t.size ≤ 4000) (hms : m.size ≤ 2) :
    Calls Tryz.prog 65 #[.pointer (some ⟨br, 0, none⟩), .string m, .int .i64 (if le then 1 else 0), .bool le] w (VDeep w br t m s) := by
  have hlt : t.data.toList.length = t.size := by simp
  obtain ⟨at', deep, e, bad, hv⟩ := s
  simp only at he hd ha hb
  subst he hd
  generalize hP : VDeep w br t m ⟨at', 24, 0, bad, hv⟩ = PP
  have HP : Hid (_ = PP) := hP
  clear hP
  have c1 := block_cell h 1
  have c2 := block_cell h 2
  have f2 := frozen_block h 2
  have hl := block_lt h
  obtain ⟨q, hq⟩ : ∃ q, q = at' - m.size := ⟨_, rfl⟩
  have hw3 : (at' : Int) - (m.size : Int) = (q : Int) := by omega
  have hw4 : wrap64 (q : Int) = (q : Int) := by unfold wrap64; omega
  have HQ : Hid (q = at' - m.size) := hq
  clear hq
  have HX : Hid (RR (w.setCell ⟨br, 2, none⟩ (.int .i64 25)) br t ⟨at', 25, 0, bad, hv⟩) := by
    have := set_block h 2 (.int .i64 25)
    exact this
  have HF : Hid (Fr (· ≠ br) w (w.setCell ⟨br, 2, none⟩ (.int .i64 25))) := (Fr.refl _ w).set (by simp) _
  have c1' : (w.setCell ⟨br, 2, none⟩ (.int .i64 25)).cell? ⟨br, 1, none⟩ = some (.int .i64 (at' : Int)) := block_cell HX.out 1
  clear h
  have HSG : Hid (∀ (W : World) (s : RSt) (mm : ByteArray), RR W br t s → s.at' ≤ t.size → mm.size ≤ 100 → _) := fun W s mm q1 q2 q3 => rsign_any W br t mm s q1 q2 ht q3
  have HFA : Hid (∀ (W : World), RR W br t ⟨at', 25, 0, bad, hv⟩ → _) := fun W q1 => rfail_any W br t ⟨at', 25, 0, bad, hv⟩ 6 q q1
  cases le with
  | false =>
    go_enter Tryz.func65, Tryz.ntmps65
    go_wp2_with fail
    refine (HFA.out _ HX.out).mono ?_
    rintro e' w1 ⟨rfl, hr1, hf1⟩
    have HR1 : Hid (RR w1 br t ⟨at', 25, 6, q, hv⟩) := hr1
    have HF1 : Hid (Fr (· ≠ br) w w1) := HF.out.trans hf1
    clear hr1 hf1 HF HX c1 c2 f2 c1' HFA
    go_wp2_with fail
    refine (HSG.out w1 _ m HR1.out ha (by omega)).mono ?_
    rintro e' w2 ⟨rfl, hr2, hf2⟩
    have se := sign_err t.data.toList m.data.toList ⟨at', 25, 6, q, hv⟩ (by simp)
    have sa := sign_at t.data.toList m.data.toList ⟨at', 25, 6, q, hv⟩ (by rw [hlt]; exact ha)
    rw [se.1]
    have HF2 : Hid (Fr (· ≠ br) w w2) := HF1.out.trans hf2
    obtain ⟨a2, ha2⟩ : ∃ a2, (signS t.data.toList m.data.toList ⟨at', 25, 6, q, hv⟩).at' = a2 := ⟨_, rfl⟩
    have HR2 : Hid (RR w2 br t ⟨a2, 25, 6, q, hv⟩) := by rw [← ha2]; exact hr2
    rw [ha2, hlt] at sa
    have HSA : Hid (at' ≤ a2 ∧ a2 ≤ t.size) := sa
    clear hr2 hf2 se sa ha2 HF1 HR1
    have c3 := block_cell HR2.out 3
    have c2 := block_cell HR2.out 2
    have f2 := frozen_block HR2.out 2
    have hbl := block_lt HR2.out
    go_wp2_with fail
    go_loopg [10, 11, 12] 1 (fun f sk sl en wr => sk = .slice none 0 0 ∧ sl = .slice none 0 0 ∧ en = .bool false ∧ wr = w2)
    case atStart => exact ⟨rfl, rfl, rfl, rfl⟩
    case round =>
      obtain ⟨rfl, rfl, rfl, rfl⟩ := hrel
      go_wp2_with fail
      rw [← HP.out]
      refine ⟨⟨a2, 24, 6, q, hv⟩, rfl, HF2.out.set (by simp) _, set_block HR2.out 2 _, rfl, HSA.out.2, HSA.out.1, rfl, HQ.out⟩
  | true =>
    go_enter Tryz.func65, Tryz.ntmps65
    go_wp2_with fail
    refine (HFA.out _ HX.out).mono ?_
    rintro e' w1 ⟨rfl, hr1, hf1⟩
    have HR1 : Hid (RR w1 br t ⟨at', 25, 6, q, hv⟩) := hr1
    have HF1 : Hid (Fr (· ≠ br) w w1) := HF.out.trans hf1
    clear hr1 hf1 HF HX c1 c2 f2 c1' HFA
    have c3 := block_cell HR1.out 3
    have c2 := block_cell HR1.out 2
    have f2 := frozen_block HR1.out 2
    have hbl := block_lt HR1.out
    go_wp2_with fail
    go_loopg [10, 11, 12] 1 (fun f sk sl en wr => sk = .slice none 0 0 ∧ sl = .slice none 0 0 ∧ en = .bool false ∧ wr = w1)
    case atStart => exact ⟨rfl, rfl, rfl, rfl⟩
    case round =>
      obtain ⟨rfl, rfl, rfl, rfl⟩ := hrel
      go_wp2_with fail
      rw [← HP.out]
      refine ⟨⟨at', 24, 6, q, hv⟩, rfl, HF1.out.set (by simp) _, set_block HR1.out 2 _, rfl, ha, Nat.le_refl _, rfl, HQ.out⟩
end Go.Proofs.YtbogejmmkohbkaaGreatDoor.Sx

namespace Go.Proofs.YtbogejmmkohbkaaGreatDoor.Sx

def Wgt (n : Nat) (x : AV n) : Prop := wtR n x = wt n x ∧ wt n x ≤ 1024
theorem leaf_fine (n k : Nat) (i : Int) (l : List UInt8) : Wgt (n + 1) (⟨k, i, l, [], []⟩ : Node (AV n)) := by
  have h1 : wtR (n + 1) (⟨k, i, l, [], []⟩ : Node (AV n)) = 1 := rfl
  have h2 : wt (n + 1) (⟨k, i, l, [], []⟩ : Node (AV n)) = 1 := by
    show wtN (wt n) (⟨k, i, l, [], []⟩ : Node (AV n)) = 1
    unfold wtN; simp [wtL]
  exact ⟨h1.trans h2.symm, Nat.le_trans (Nat.le_of_eq h2) (by decide)⟩
theorem nil_fine (n : Nat) : Wgt (n + 1) (mkNil : Node (AV n)) := leaf_fine n 0 0 []
theorem mkF_fine (n : Nat) (ks vs : List (AV n)) (h1 : ∀ x ∈ ks, Wgt n x) (h2 : ∀ x ∈ vs, Wgt n x) : Wgt (n + 1) (mkF (wt n) ks vs : Node (AV n)) := by
  refine ⟨?_, wt_mkF n ks vs⟩
  unfold mkF
  split
  · show 1 + wtL (wtR n) ks + wtL (wtR n) vs = 1 + wtL (wt n) ks + wtL (wt n) vs
    rw [wtL_congr ks (fun x hx => (h1 x hx).1), wtL_congr vs (fun x hx => (h2 x hx).1)]
  · rfl
theorem mkS_fine (n : Nat) (es : List (AV n)) (h : ∀ x ∈ es, Wgt n x) : Wgt (n + 1) (mkS (wt n) es : Node (AV n)) := by
  refine ⟨?_, wt_mkS n es⟩
  unfold mkS
  split
  · show 1 + wtL (wtR n) es + wtL (wtR n) [] = 1 + wtL (wt n) es
    rw [wtL_congr es (fun x hx => (h x hx).1)]; rfl
  · rfl
theorem mkP_fine (n : Nat) (ps : List (AV n × AV n)) (h1 : ∀ x ∈ ps.map Prod.fst, Wgt n x) (h2 : ∀ x ∈ ps.map Prod.snd, Wgt n x) : Wgt (n + 1) (mkP (wt n) ps : Node (AV n)) := by
  refine ⟨?_, wt_mkP n ps⟩
  unfold mkP
  split
  · exact (mkF_fine n _ _ h1 h2).1
  · rfl
/-- what stands in brackets, told by the reference -/
theorem close_agree {β : Type} {n : Nat} {T : List UInt8} {R : Except (Nat × Nat) (β × St)} {f : β → AV (n + 1)} {s s2 s3 : RSt} {ks : β} (he : s.e = 0) (he2 : s2.e = 0) (hd : s2.deep = s.deep) (ha : s.at' ≤ s2.at') (h : AgreeR T R s2 ks s3) :
    AgreeR T (heavyK (match R with | .ok (l, s') => .ok (f l, s') | .error e => .error e)) s (f ks) { s3 with hv := s3.hv || heavyP (α := AV n) (f ks) } := by
  obtain ⟨a1, a2, a3, a4, a5⟩ := h
  refine ⟨a1.trans hd, a2, Nat.le_trans ha a3, fun q => absurd he q, fun _ => ?_⟩
  rcases a5 he2 with ⟨c1, c2⟩ | ⟨c1, c2⟩
  · left
    refine ⟨c1, ?_⟩
    rw [c2]
    rfl
  · right
    refine ⟨c1, ?_⟩
    rw [c2]
    rfl
theorem value_open {k : Nat} {T : List UInt8} {S : St} {m : List UInt8} (h : isP T S m = true) : valueP T (k + 1) S = bracketP T (valueP T k) S ∧ pieceP T S = m := by
  unfold isP at h
  rw [Bool.and_eq_true, beq_iff_eq, decide_eq_true_iff] at h
  refine ⟨?_, h.2⟩
  show leafP T (bracketP T (valueP T k)) S = _
  unfold leafP
  rw [h.1]
  simp
theorem value_open0 {T : List UInt8} {S : St} {m : List UInt8} (h : isP T S m = true) (hm : m = [123] ∨ m = [60, 60] ∨ m = [91]) : valueP T 0 S = .error (6, S.at') := by
  unfold isP at h
  rw [Bool.and_eq_true, beq_iff_eq, decide_eq_true_iff] at h
  show leafP T _ S = _
  unfold leafP
  rw [h.1]
  simp only [h.2]
  rw [if_neg (by decide), if_neg (by decide), if_neg (by decide), if_pos trivial, if_pos hm]
/-- nothing opens here -/
theorem value_single {d : Nat} {T : List UInt8} {p : Nat} {hv : Bool} (hp : p ≤ T.length) (h1 : isP T (pos T p hv) [123] = false) (h2 : isP T (pos T p hv) [60, 60] = false) (h3 : isP T (pos T p hv) [91] = false) :
    valueP T d (pos T p hv) = toldP T (skipN T p) hv (singleP T (skipN T p)) := by
  have hne : ∀ m, (pos T p hv).cl = 4 → isP T (pos T p hv) m = false → ¬ pieceP T (pos T p hv) = m := by
    intro m hc h q
    unfold isP at h
    rw [hc, q] at h
    simp at h
  by_cases hc : (pos T p hv).cl = 4
  · have g1 := hne _ hc h1
    have g2 := hne _ hc h2
    have g3 := hne _ hc h3
    cases d with
    | zero =>
      show leafP T _ (pos T p hv) = _
      refine single_leaf (skipN_le hp).2 ?_
      rw [if_neg (by simp [g1, g2, g3])]
      rfl
    | succ k =>
      show leafP T _ (pos T p hv) = _
      refine single_leaf (skipN_le hp).2 ?_
      unfold bracketP
      rw [if_neg g1, if_neg g2, if_neg g3]
      rfl
  · have key : ∀ br br' : St → Except (Nat × Nat) (AV (d + 1) × St), leafP T br (pos T p hv) = leafP T br' (pos T p hv) := by
      intro br br'
      unfold leafP
      rw [if_neg hc, if_neg hc]
    have hk := single_leaf (T := T) (p := p) (hv := hv) (br := fun _ => (.error (1, skipN T p) : Except (Nat × Nat) (AV (d + 1) × St))) (skipN_le hp).2 rfl
    cases d with
    | zero => exact (key _ _).trans hk
    | succ k => exact (key _ _).trans hk
end Go.Proofs.YtbogejmmkohbkaaGreatDoor.Sx
