/- The law of reading: its walk. -/
import Derived.Test.YtbogejmmkohbkaaGreatDoorGX4
import Derived.Test.YtbogejmmkohbkaaGreatDoorGEa
import Derived.Test.YtbogejmmkohbkaaGreatDoorGEg
namespace Go.Proofs.YtbogejmmkohbkaaGreatDoor.Sx
open Go.RowKit Go.Sort

theorem rshow_any : ∀ n, ShR n
  | 0 => fun _ _ a => Empty.elim a
  | n + 1 => rshow_step n (rshow_any n)

/-- where the law of reading stands -/
structure NowE (w0 w : World) : Prop where
  base : BaseE w
  low : Below w0.heap.size w0 w
theorem NowE.below {w0 w w' : World} (h : NowE w0 w) (hb : Below w.heap.size w w') : NowE w0 w' := ⟨h.base.below hb, h.low.trans (hb.mono h.low.size)⟩

/-- the reader's error, and the reference's number -/
def Errs (er : Value) (c : Nat) : Prop := (er = .nilIface ∧ c = 0) ∨ er = .iface 61 (.int .i64 (c : Int))
theorem same_errs (w : World) (er : Value) (c : Nat) (h : Errs er c) (hE : BaseE w) : Gives 11 #[er, .int .i64 (c : Int)] w (.bool true) := by
  rcases h with ⟨rfl, rfl⟩ | rfl
  · exact same_nil w 0
  · have q := same_errno w c c hE
    rw [decide_eq_true rfl] at q
    exact q

theorem rshow_both {w : World} {x : AV 25} {v u : Value} (h : Both w x v u) : Gives 13 #[u] w (.string ⟨(sh 25 x).toArray⟩) := by
  refine Calls.mono (rshow_any 25 _ w x u h.ref h.had.fine.1 (by have := h.had.fine.2; have := h.had.wt; omega)) ?_
  rintro e w' ⟨rfl, hg⟩
  exact ⟨rfl, hg.below⟩
theorem rweight_both {w : World} {x : AV 25} {v u : Value} (h : Both w x v u) : Gives 15 #[u] w (.int .i64 (wt 25 x)) := by
  have e := wtR_eq 25 x h.had.fine.1
  have q := h.had.wt
  refine Calls.mono (rweight_any 25 _ w x u h.ref (by omega)) ?_
  rintro e w' ⟨rfl, hg⟩
  exact ⟨by rw [wtR_eq 25 x h.had.fine.1], hg.below⟩

set_option maxRecDepth 100000 in
set_option maxHeartbeats 8000000 in
theorem reads_any (t : ByteArray) (w : World) (hB : BaseE w) (hs : t.size ≤ 9223372036854775806) : Gives 3 #[.string t] w (.bool true) := by
  have N0 : Hid (NowE w w) := ⟨hB, Below.refl _ _⟩
  have HR : Hid (∀ W : World, Base W → Calls Tryz.prog 9 #[.string t] W (ReadPost W (readP t.data.toList))) := fun W h => read_any t W h.env hs
  have HQ : Hid (∀ W : World, Calls Tryz.prog 10 #[.string t] W (RSaid W (readP t.data.toList))) := fun W => rread_any W t hs
  clear hB hs
  unfold Gives
  go_enter Tryz.func3, Tryz.ntmps3
  go_wp2_with fail
  refine (HR.out w N0.out.base.base).mono ?_
  rintro e w1 ⟨hb, v, er, p, rfl, x, hx, hw, hr⟩
  have hx' : RepP (fun _ => True) w1 25 x v := hx.fr (Fr.refl _ w1) (fun _ _ _ => trivial) 25 x v
  have HH : Hid (Had w1 x v) := ⟨hx', by
    rcases hr with ⟨h1, _⟩ | ⟨c, h1, h2, _⟩
    · exact readP_fine h1
    · rw [h2]; exact fine_nil 24, hw⟩
  have HRR : Hid ((readP t.data.toList = .ok x ∧ p = 0 ∧ er = .nilIface) ∨ ∃ c, readP t.data.toList = .error (c, p) ∧ x = (mkNil : Node (AV 24)) ∧ er = .iface 61 (.int .i64 (c : Int))) := hr
  have N1 : Hid (NowE w w1) := N0.out.below hb
  have st := store_one (hx'.rep _ _ _).one
  clear hb hx hx' hw hr N0 HR
  go_wp2_with fail
  have G1 : Below w1.heap.size w1 (w1.alloc (.cells #[v] 23)) := ((Grew.refl w1).alloc _).below
  have NA : Hid (NowE w (w1.alloc (.cells #[v] 23))) := N1.out.below G1
  have VA : Hid ((w1.alloc (.cells #[v] 23)).heap[w1.heap.size]? = some (.cells #[v] 23 (0, 0))) := heap_new rfl
  have HA : Hid (Had (w1.alloc (.cells #[v] 23)) x v) := HH.out.below G1
  clear G1 N1 HH
  generalize w1.alloc (.cells #[v] 23) = wA at NA VA HA ⊢
  refine (HQ.out wA).mono ?_
  rintro e w2 ⟨u, y, bad, c, rfl, hf, hry, hR⟩
  have hb := Fr.all hf
  have HC : Hid (y = x ∧ bad = p ∧ Errs er c) := by
    rcases hR with ⟨h1, h2, h3⟩ | ⟨h1, h2, h3⟩
    · rcases HRR.out with ⟨q1, q2, q3⟩ | ⟨c', q1, q2, q3⟩
      · rw [h1] at q1; injection q1 with q1; exact ⟨q1, by omega, .inl ⟨q3, h2⟩⟩
      · rw [h1] at q1; cases q1
    · rcases HRR.out with ⟨q1, q2, q3⟩ | ⟨c', q1, q2, q3⟩
      · rw [h1] at q1; cases q1
      · rw [h1] at q1; injection q1 with q1; injection q1 with q4 q5
        subst q4
        exact ⟨h3.trans q2.symm, q5, .inr q3⟩
  clear hR HRR HQ
  obtain ⟨rfl, rfl, hE⟩ := HC.out
  have HE : Hid (Errs er c) := hE
  clear hE HC
  have hry' : Ref (fun _ => True) w2 25 y u := hry.fr (Fr.refl _ w2) (fun _ _ _ => trivial) _ _ _
  have B2 : Hid (Both w2 y v u) := ⟨HA.out.below hb, hry'⟩
  have N2 : Hid (NowE w w2) := NA.out.below hb
  have V2 : Hid (w2.heap[w1.heap.size]? = some (.cells #[v] 23 (0, 0))) := Below.blockAt hb VA.out
  obtain ⟨sb, ka, kl, kc, va, vl, vc, rfl, _, _, _⟩ := id hry'
  clear hry hry' hf hb NA VA HA
  go_wp2_with fail
  have G3 : Below w2.heap.size w2 (w2.alloc (.cells #[.int .i64 y.kind, .int .i64 y.int, .string sb, .slice ka kl kc, .slice va vl vc] 30)) := ((Grew.refl w2).alloc _).below
  have N3 : Hid (NowE w (w2.alloc (.cells #[.int .i64 y.kind, .int .i64 y.int, .string sb, .slice ka kl kc, .slice va vl vc] 30))) := N2.out.below G3
  have V3 : Hid ((w2.alloc (.cells #[.int .i64 y.kind, .int .i64 y.int, .string sb, .slice ka kl kc, .slice va vl vc] 30)).heap[w1.heap.size]? = _) := Below.blockAt G3 V2.out
  have U3 : Hid ((w2.alloc (.cells #[.int .i64 y.kind, .int .i64 y.int, .string sb, .slice ka kl kc, .slice va vl vc] 30)).heap[w2.heap.size]? = some (.cells #[.int .i64 y.kind, .int .i64 y.int, .string sb, .slice ka kl kc, .slice va vl vc] 30 (0, 0))) := heap_new rfl
  have B3 : Hid (Both (w2.alloc (.cells #[.int .i64 y.kind, .int .i64 y.int, .string sb, .slice ka kl kc, .slice va vl vc] 30)) y v (.agg #[.int .i64 y.kind, .int .i64 y.int, .string sb, .slice ka kl kc, .slice va vl vc])) := B2.out.below G3
  clear G3 N2 V2 B2
  generalize w2.alloc (.cells #[.int .i64 y.kind, .int .i64 y.int, .string sb, .slice ka kl kc, .slice va vl vc] 30) = wB at N3 V3 U3 B3 ⊢
  refine Calls.mono (same_errs wB er c HE.out N3.out.base) ?_
  rintro e w4 ⟨rfl, hb⟩
  have N4 : Hid (NowE w w4) := N3.out.below hb
  have V4 : Hid (w4.heap[w1.heap.size]? = _) := Below.blockAt hb V3.out
  have U4 : Hid (w4.heap[w2.heap.size]? = _) := Below.blockAt hb U3.out
  have B4 : Hid (Both w4 y v (.agg #[.int .i64 y.kind, .int .i64 y.int, .string sb, .slice ka kl kc, .slice va vl vc])) := B3.out.below hb
  clear hb N3 V3 U3 B3 HE
  have y0 := block_cell V4.out 0
  have l0 := block_lt V4.out
  go_wp2_with fail
  refine Calls.mono (show_had B4.out.had N4.out.base.base) ?_
  rintro e w5 ⟨rfl, hb⟩
  have N5 : Hid (NowE w w5) := N4.out.below hb
  have V5 : Hid (w5.heap[w1.heap.size]? = _) := Below.blockAt hb V4.out
  have U5 : Hid (w5.heap[w2.heap.size]? = _) := Below.blockAt hb U4.out
  have B5 : Hid (Both w5 y v (.agg #[.int .i64 y.kind, .int .i64 y.int, .string sb, .slice ka kl kc, .slice va vl vc])) := B4.out.below hb
  clear hb N4 V4 U4 B4 y0 l0
  have p0 := block_cell U5.out 0
  have p1 := block_cell U5.out 1
  have p2 := block_cell U5.out 2
  have p3 := block_cell U5.out 3
  have p4 := block_cell U5.out 4
  have l1 := block_lt U5.out
  go_wp2_with fail
  clear p0 p1 p2 p3 p4
  refine Calls.mono (rshow_both B5.out) ?_
  rintro e w6 ⟨rfl, hb⟩
  have N6 : Hid (NowE w w6) := N5.out.below hb
  have V6 : Hid (w6.heap[w1.heap.size]? = _) := Below.blockAt hb V5.out
  have U6 : Hid (w6.heap[w2.heap.size]? = _) := Below.blockAt hb U5.out
  have B6 : Hid (Both w6 y v (.agg #[.int .i64 y.kind, .int .i64 y.int, .string sb, .slice ka kl kc, .slice va vl vc])) := B5.out.below hb
  clear hb N5 V5 U5 B5 l1
  have y0 := block_cell V6.out 0
  have l0 := block_lt V6.out
  go_wp2_with fail
  clear y0
  refine Calls.mono (weight_had B6.out.had) ?_
  rintro e w7 ⟨rfl, hb⟩
  have N7 : Hid (NowE w w7) := N6.out.below hb
  have U7 : Hid (w7.heap[w2.heap.size]? = _) := Below.blockAt hb U6.out
  have B7 : Hid (Both w7 y v (.agg #[.int .i64 y.kind, .int .i64 y.int, .string sb, .slice ka kl kc, .slice va vl vc])) := B6.out.below hb
  clear hb N6 V6 U6 B6 l0
  have p0 := block_cell U7.out 0
  have p1 := block_cell U7.out 1
  have p2 := block_cell U7.out 2
  have p3 := block_cell U7.out 3
  have p4 := block_cell U7.out 4
  have l1 := block_lt U7.out
  go_wp2_with fail
  clear p0 p1 p2 p3 p4
  refine Calls.mono (rweight_both B7.out) ?_
  rintro e w8 ⟨rfl, hb⟩
  have HZ : Hid (Below w.heap.size w w8) := (N7.out.below hb).low
  clear hb N7 U7 B7 l1
  go_wp2_with fail
  go_ret
  exact ⟨by simp, HZ.out⟩
end Go.Proofs.YtbogejmmkohbkaaGreatDoor.Sx
