/- The law of orders: its walk. -/
import Derived.Test.YtbogejmmkohbkaaGreatDoorGX1
import Derived.Test.YtbogejmmkohbkaaGreatDoorGRc
namespace Go.Proofs.YtbogejmmkohbkaaGreatDoor.Sx
open Go.RowKit Go.Sort

/-- a text read on both sides: the same value -/
structure Both (w : World) (x : AV 25) (v u : Value) : Prop where
  had : Had w x v
  ref : Ref (fun _ => True) w 25 x u
theorem Both.below {w w' : World} {x : AV 25} {v u : Value} (h : Both w x v u) (hb : Below w.heap.size w w') : Both w' x v u := ⟨h.had.below hb, h.ref.keep (Fr.below hb)⟩
theorem Fr.all {w w' : World} (h : Fr (fun _ => True) w w') : Below w.heap.size w w' := ⟨h.os, h.tape, h.output, h.size, fun i hi => h.block i hi trivial⟩
def BothSaid (w : World) (e : Ending) (w' : World) : Prop := Below w.heap.size w w' ∧ ∃ (v u : Value) (x : AV 25), e = .returned (.tuple #[.agg #[v], u]) ∧ Both w' x v u

theorem both_end {w wB : World} {x : AV 25} {v c0 c1 c2 c3 c4 : Value} (X : wB.heap[w.heap.size]? = some (.cells #[.nilIface] 23 (0, 0))) (Y : wB.heap[w.heap.size + 1]? = some (.cells #[.int .i64 0, .int .i64 0, .string ⟨#[]⟩, .slice none 0 0, .slice none 0 0] 30 (0, 0))) (L : Below w.heap.size w wB)
    (H : RepP (fun k => w.heap.size + 2 ≤ k) wB 25 x v) (hf : Fine 25 x) (hw : wt 25 x ≤ 1024) (U : Ref (fun k => w.heap.size + 2 ≤ k) wB 25 x (.agg #[c0, c1, c2, c3, c4])) :
    (set5 (wB.setCell ⟨w.heap.size, 0, none⟩ v) (w.heap.size + 1) 0 c0 c1 c2 c3 c4).drew.heap[w.heap.size]? = some (.cells #[v] 23 (0, 0)) ∧ (set5 (wB.setCell ⟨w.heap.size, 0, none⟩ v) (w.heap.size + 1) 0 c0 c1 c2 c3 c4).drew.heap[w.heap.size + 1]? = some (.cells #[c0, c1, c2, c3, c4] 30 (0, 0)) ∧
    BothSaid w (.returned (.tuple #[.agg #[v], .agg #[c0, c1, c2, c3, c4]])) (set5 (wB.setCell ⟨w.heap.size, 0, none⟩ v) (w.heap.size + 1) 0 c0 c1 c2 c3 c4).drew := by
  have F1 : Fr (fun k => w.heap.size + 2 ≤ k) wB (set5 (wB.setCell ⟨w.heap.size, 0, none⟩ v) (w.heap.size + 1) 0 c0 c1 c2 c3 c4).drew := (set5_fr ((Fr.refl _ wB).set (by simp) v) (by omega) _ _ _ _ _ _).drew
  have F2 : Fr (fun k => k < w.heap.size) w (set5 (wB.setCell ⟨w.heap.size, 0, none⟩ v) (w.heap.size + 1) 0 c0 c1 c2 c3 c4).drew := (set5_fr ((Fr.below L).set (by simp) v) (by omega) _ _ _ _ _ _).drew
  have B1 : (wB.setCell ⟨w.heap.size, 0, none⟩ v).heap[w.heap.size]? = some (.cells #[v] 23 (0, 0)) := set_block X 0 v
  have B2 : (wB.setCell ⟨w.heap.size, 0, none⟩ v).heap[w.heap.size + 1]? = some (.cells #[.int .i64 0, .int .i64 0, .string ⟨#[]⟩, .slice none 0 0, .slice none 0 0] 30 (0, 0)) := (Below.heap_setCell _ _ _ _ (by simp)).trans Y
  have E2 := set5_block B2 c0 c1 c2 c3 c4
  have E1 := ((set5_fr (b := w.heap.size + 1) (P := fun k => k ≠ w.heap.size + 1) (Fr.refl _ (wB.setCell ⟨w.heap.size, 0, none⟩ v)) (by simp) 0 c0 c1 c2 c3 c4).block w.heap.size (block_lt B1) (by omega)).trans B1
  generalize set5 (wB.setCell ⟨w.heap.size, 0, none⟩ v) (w.heap.size + 1) 0 c0 c1 c2 c3 c4 = S at F1 F2 E1 E2 ⊢
  have hB : Below w.heap.size w S.drew := ⟨F2.os, F2.tape, F2.output, F2.size, fun i hi => F2.block i hi hi⟩
  have hH : Had S.drew x v := ⟨H.fr F1 (fun _ _ _ => trivial) _ _ _, hf, hw⟩
  have hU : Ref (fun _ => True) S.drew 25 x (.agg #[c0, c1, c2, c3, c4]) := U.fr F1 (fun _ _ _ => trivial) _ _ _
  exact ⟨E1, E2, hB, v, .agg #[c0, c1, c2, c3, c4], x, rfl, hH, hU⟩

set_option maxRecDepth 100000 in
set_option maxHeartbeats 8000000 in
theorem lawread_any (t : ByteArray) (w : World) (hB : Base w) (hs : t.size ≤ 9223372036854775806) : Calls Tryz.prog 16 #[.string t] w (BothSaid w) := by
  have HR : Hid (∀ W : World, Base W → Calls Tryz.prog 9 #[.string t] W (ReadPost W (readP t.data.toList))) := fun W h => read_any t W h.env hs
  have HQ : Hid (∀ W : World, Calls Tryz.prog 10 #[.string t] W (RSaid W (readP t.data.toList))) := fun W => rread_any W t hs
  have G0 : Hid (Grew w ((w.alloc (.cells #[.nilIface] 23)).alloc (.cells #[.int .i64 0, .int .i64 0, .string ⟨#[]⟩, .slice none 0 0, .slice none 0 0] 30))) := ((Grew.refl w).alloc _).alloc _
  have B0 : Hid (Base ((w.alloc (.cells #[.nilIface] 23)).alloc (.cells #[.int .i64 0, .int .i64 0, .string ⟨#[]⟩, .slice none 0 0, .slice none 0 0] 30))) := hB.below G0.out.below
  have X0 : Hid (((w.alloc (.cells #[.nilIface] 23)).alloc (.cells #[.int .i64 0, .int .i64 0, .string ⟨#[]⟩, .slice none 0 0, .slice none 0 0] 30)).heap[w.heap.size]? = some (.cells #[.nilIface] 23 (0, 0))) := Below.blockAt ((Grew.refl _).alloc _).below (heap_new rfl)
  have Y0 : Hid (((w.alloc (.cells #[.nilIface] 23)).alloc (.cells #[.int .i64 0, .int .i64 0, .string ⟨#[]⟩, .slice none 0 0, .slice none 0 0] 30)).heap[w.heap.size + 1]? = some (.cells #[.int .i64 0, .int .i64 0, .string ⟨#[]⟩, .slice none 0 0, .slice none 0 0] 30 (0, 0))) := heap_new (by simp)
  have hz0 : ((w.alloc (.cells #[.nilIface] 23)).alloc (.cells #[.int .i64 0, .int .i64 0, .string ⟨#[]⟩, .slice none 0 0, .slice none 0 0] 30)).heap.size = w.heap.size + 2 := by simp
  clear hB hs
  go_enter Tryz.func16, Tryz.ntmps16
  go_wp2_with fail
  generalize ((w.alloc (.cells #[.nilIface] 23)).alloc (.cells #[.int .i64 0, .int .i64 0, .string ⟨#[]⟩, .slice none 0 0, .slice none 0 0] 30)) = W0 at G0 B0 X0 Y0 hz0 ⊢
  refine (HR.out W0 B0.out).mono ?_
  rintro e w1 ⟨hb, v, er, p, rfl, x, hx, hw, hr⟩
  have hx' : RepP (fun k => w.heap.size + 2 ≤ k) w1 25 x v := hx.fr (Fr.refl _ w1) (fun k _ hk => by omega) 25 x v
  have HH : Hid (RepP (fun k => w.heap.size + 2 ≤ k) w1 25 x v) := hx'
  have HFI : Hid (Fine 25 x ∧ wt 25 x ≤ 1024) := by
    rcases hr with ⟨h1, _⟩ | ⟨c, h1, h2, _⟩
    · exact ⟨readP_fine h1, hw⟩
    · exact ⟨by rw [h2]; exact fine_nil 24, hw⟩
  have HRR : Hid (readP t.data.toList = .ok x ∨ ∃ c p, readP t.data.toList = .error (c, p) ∧ x = (mkNil : Node (AV 24))) := by
    rcases hr with ⟨h1, _⟩ | ⟨c, h1, h2, _⟩
    · exact .inl h1
    · exact .inr ⟨c, p, h1, h2⟩
  have L1 : Hid (Below w.heap.size w w1) := G0.out.below.trans (hb.mono G0.out.below.size)
  have X1 : Hid (w1.heap[w.heap.size]? = some (.cells #[.nilIface] 23 (0, 0))) := Below.blockAt hb X0.out
  have Y1 : Hid (w1.heap[w.heap.size + 1]? = some (.cells #[.int .i64 0, .int .i64 0, .string ⟨#[]⟩, .slice none 0 0, .slice none 0 0] 30 (0, 0))) := Below.blockAt hb Y0.out
  have st := store_one (hx'.rep _ _ _).one
  have zy : w.heap.size + 1 < w1.heap.size := block_lt Y1.out
  clear hb hx hx' hw hr G0 B0 X0 Y0 HR hz0
  go_wp2_with fail
  have G1 : Below w1.heap.size w1 (w1.alloc (.cells #[v] 23)) := ((Grew.refl w1).alloc _).below
  have LA : Hid (Below w.heap.size w (w1.alloc (.cells #[v] 23))) := L1.out.trans (G1.mono L1.out.size)
  have XA : Hid ((w1.alloc (.cells #[v] 23)).heap[w.heap.size]? = _) := Below.blockAt G1 X1.out
  have YA : Hid ((w1.alloc (.cells #[v] 23)).heap[w.heap.size + 1]? = _) := Below.blockAt G1 Y1.out
  have VA : Hid ((w1.alloc (.cells #[v] 23)).heap[w1.heap.size]? = some (.cells #[v] 23 (0, 0))) := heap_new rfl
  have HA : Hid (RepP (fun k => w.heap.size + 2 ≤ k) (w1.alloc (.cells #[v] 23)) 25 x v) := HH.out.keep (Fr.below G1)
  clear G1 L1 X1 Y1 HH
  generalize w1.alloc (.cells #[v] 23) = wA at LA XA YA VA HA ⊢
  refine (HQ.out wA).mono ?_
  rintro e w2 ⟨u, y, bad, c, rfl, hf, hry, hR⟩
  have hb := Fr.all hf
  have L2 : Hid (Below w.heap.size w w2) := LA.out.trans (hb.mono LA.out.size)
  have X2 : Hid (w2.heap[w.heap.size]? = some (.cells #[.nilIface] 23 (0, 0))) := Below.blockAt hb XA.out
  have Y2 : Hid (w2.heap[w.heap.size + 1]? = some (.cells #[.int .i64 0, .int .i64 0, .string ⟨#[]⟩, .slice none 0 0, .slice none 0 0] 30 (0, 0))) := Below.blockAt hb YA.out
  have V2 : Hid (w2.heap[w1.heap.size]? = some (.cells #[v] 23 (0, 0))) := Below.blockAt hb VA.out
  have H2 : Hid (RepP (fun k => w.heap.size + 2 ≤ k) w2 25 x v) := HA.out.keep (Fr.below hb)
  have z12 : w1.heap.size < w2.heap.size := block_lt V2.out
  have zA : w.heap.size + 2 ≤ wA.heap.size := by have := block_lt VA.out; omega
  have hry' : Ref (fun k => w.heap.size + 2 ≤ k) w2 25 y u := hry.fr (Fr.refl _ w2) (fun k _ hk => by omega) _ _ _
  obtain ⟨sb, ka, kl, kc, va, vl, vc, rfl, htx, hk, hvl⟩ := id hry'
  have U2 : Hid (Ref (fun k => w.heap.size + 2 ≤ k) w2 25 y (.agg #[.int .i64 y.kind, .int .i64 y.int, .string sb, .slice ka kl kc, .slice va vl vc])) := hry'
  have HC : Hid ((c = 0 ∧ x = y) ∨ (c ≠ 0 ∧ x = (mkNil : Node (AV 24)))) := by
    rcases hR with ⟨h1, h2, _⟩ | ⟨h1, h2, h3⟩
    · rcases HRR.out with q | ⟨c', p', q, _⟩
      · rw [h1] at q; injection q with q; exact .inl ⟨h2, q.symm⟩
      · rw [h1] at q; cases q
    · rcases HRR.out with q | ⟨c', p', q, q2⟩
      · rw [h1] at q; cases q
      · exact .inr ⟨h2, q2⟩
  clear hf hb hry hry' hR htx hk hvl LA XA YA VA HA HRR HQ
  rcases HC.out with ⟨hc, hxy⟩ | ⟨hc, hxm⟩
  · subst hc
    subst hxy
    have G3 : Grew w2 (w2.alloc (.cells #[.int .i64 x.kind, .int .i64 x.int, .string sb, .slice ka kl kc, .slice va vl vc] 30)) := (Grew.refl w2).alloc _
    have L3 : Hid (Below w.heap.size w (w2.alloc (.cells #[.int .i64 x.kind, .int .i64 x.int, .string sb, .slice ka kl kc, .slice va vl vc] 30))) := L2.out.trans (G3.below.mono L2.out.size)
    have X3 : Hid ((w2.alloc (.cells #[.int .i64 x.kind, .int .i64 x.int, .string sb, .slice ka kl kc, .slice va vl vc] 30)).heap[w.heap.size]? = _) := Below.blockAt G3.below X2.out
    have Y3 : Hid ((w2.alloc (.cells #[.int .i64 x.kind, .int .i64 x.int, .string sb, .slice ka kl kc, .slice va vl vc] 30)).heap[w.heap.size + 1]? = _) := Below.blockAt G3.below Y2.out
    have V3 : Hid ((w2.alloc (.cells #[.int .i64 x.kind, .int .i64 x.int, .string sb, .slice ka kl kc, .slice va vl vc] 30)).heap[w1.heap.size]? = _) := Below.blockAt G3.below V2.out
    have U3 : Hid ((w2.alloc (.cells #[.int .i64 x.kind, .int .i64 x.int, .string sb, .slice ka kl kc, .slice va vl vc] 30)).heap[w2.heap.size]? = some (.cells #[.int .i64 x.kind, .int .i64 x.int, .string sb, .slice ka kl kc, .slice va vl vc] 30 (0, 0))) := heap_new rfl
    have H3 : Hid (RepP (fun k => w.heap.size + 2 ≤ k) (w2.alloc (.cells #[.int .i64 x.kind, .int .i64 x.int, .string sb, .slice ka kl kc, .slice va vl vc] 30)) 25 x v) := H2.out.keep (Fr.below G3.below)
    have R3 : Hid (Ref (fun k => w.heap.size + 2 ≤ k) (w2.alloc (.cells #[.int .i64 x.kind, .int .i64 x.int, .string sb, .slice ka kl kc, .slice va vl vc] 30)) 25 x (.agg #[.int .i64 x.kind, .int .i64 x.int, .string sb, .slice ka kl kc, .slice va vl vc])) := U2.out.grew G3
    clear G3 L2 X2 Y2 V2 U2 H2
    go_wp2_with fail
    generalize (w2.alloc (.cells #[.int .i64 x.kind, .int .i64 x.int, .string sb, .slice ka kl kc, .slice va vl vc] 30)) = wB at L3 X3 Y3 V3 U3 H3 R3 ⊢
    obtain ⟨E1', E2', RP'⟩ := both_end X3.out Y3.out L3.out H3.out HFI.out.1 HFI.out.2 R3.out
    have E1 : Hid (_ = _) := E1'
    have E2 : Hid (_ = _) := E2'
    have RP : Hid (BothSaid w _ _) := RP'
    clear E1' E2' RP'
    have z0 := block_lt X3.out
    have z1 := block_lt Y3.out
    have z2 := block_lt V3.out
    have z3 := block_lt U3.out
    have n1 := block_cell V3.out 0
    have n1' : wB.drew.cell? ⟨w1.heap.size, 0, none⟩ = some v := n1
    have r0 := block_cell X3.out 0
    have r0' : wB.drew.cell? ⟨w.heap.size, 0, none⟩ = some _ := r0
    have s0 := frozen_block X3.out 0
    have s0' : wB.drew.frozen? ⟨w.heap.size, 0, none⟩ = _ := s0
    have u0 := block_cell U3.out 0
    have u0' : wB.drew.cell? ⟨w2.heap.size, 0, none⟩ = some _ := u0
    have b0 := block_cell Y3.out 0
    have b0' : wB.drew.cell? ⟨w.heap.size + 1, 0, none⟩ = some _ := b0
    have g0 := frozen_block Y3.out 0
    have g0' : wB.drew.frozen? ⟨w.heap.size + 1, 0, none⟩ = _ := g0
    have u1 := block_cell U3.out 1
    have u1' : wB.drew.cell? ⟨w2.heap.size, 1, none⟩ = some _ := u1
    have b1 := block_cell Y3.out 1
    have b1' : wB.drew.cell? ⟨w.heap.size + 1, 1, none⟩ = some _ := b1
    have g1 := frozen_block Y3.out 1
    have g1' : wB.drew.frozen? ⟨w.heap.size + 1, 1, none⟩ = _ := g1
    have u2 := block_cell U3.out 2
    have u2' : wB.drew.cell? ⟨w2.heap.size, 2, none⟩ = some _ := u2
    have b2 := block_cell Y3.out 2
    have b2' : wB.drew.cell? ⟨w.heap.size + 1, 2, none⟩ = some _ := b2
    have g2 := frozen_block Y3.out 2
    have g2' : wB.drew.frozen? ⟨w.heap.size + 1, 2, none⟩ = _ := g2
    have u3 := block_cell U3.out 3
    have u3' : wB.drew.cell? ⟨w2.heap.size, 3, none⟩ = some _ := u3
    have b3 := block_cell Y3.out 3
    have b3' : wB.drew.cell? ⟨w.heap.size + 1, 3, none⟩ = some _ := b3
    have g3 := frozen_block Y3.out 3
    have g3' : wB.drew.frozen? ⟨w.heap.size + 1, 3, none⟩ = _ := g3
    have u4 := block_cell U3.out 4
    have u4' : wB.drew.cell? ⟨w2.heap.size, 4, none⟩ = some _ := u4
    have b4 := block_cell Y3.out 4
    have b4' : wB.drew.cell? ⟨w.heap.size + 1, 4, none⟩ = some _ := b4
    have g4 := frozen_block Y3.out 4
    have g4' : wB.drew.frozen? ⟨w.heap.size + 1, 4, none⟩ = _ := g4
    have q1 : w2.heap.size ≠ w.heap.size := by omega
    have q2 : w2.heap.size ≠ w.heap.size + 1 := by omega
    have q3 : w1.heap.size ≠ w.heap.size := by omega
    have q4 : w1.heap.size ≠ w.heap.size + 1 := by omega
    have u02 : (wB.setCell ⟨w.heap.size, 0, none⟩ v).drew.cell? ⟨w2.heap.size, 0, none⟩ = some _ := cell_far u0 q1
    have u12 : (wB.setCell ⟨w.heap.size, 0, none⟩ v).drew.cell? ⟨w2.heap.size, 1, none⟩ = some _ := cell_far u1 q1
    have u22 : (wB.setCell ⟨w.heap.size, 0, none⟩ v).drew.cell? ⟨w2.heap.size, 2, none⟩ = some _ := cell_far u2 q1
    have u32 : (wB.setCell ⟨w.heap.size, 0, none⟩ v).drew.cell? ⟨w2.heap.size, 3, none⟩ = some _ := cell_far u3 q1
    have u42 : (wB.setCell ⟨w.heap.size, 0, none⟩ v).drew.cell? ⟨w2.heap.size, 4, none⟩ = some _ := cell_far u4 q1
    have mo := follows
    go_big_region_o
    change Exit.then _ _ _ _ (set5 (wB.setCell ⟨w.heap.size, 0, none⟩ v) (w.heap.size + 1) 0 (.int .i64 x.kind) (.int .i64 x.int) (.string sb) (.slice ka kl kc) (.slice va vl vc)).drew
    clear u02 u12 u22 u32 u42 n1 n1' r0 r0' s0 s0' u0 u0' b0 b0' g0 g0' u1 u1' b1 b1' g1 g1' u2 u2' b2 b2' g2 g2' u3 u3' b3 b3' g3 g3' u4 u4' b4 b4' g4 g4'
    generalize (set5 (wB.setCell ⟨w.heap.size, 0, none⟩ v) (w.heap.size + 1) 0 (.int .i64 x.kind) (.int .i64 x.int) (.string sb) (.slice ka kl kc) (.slice va vl vc)).drew = WZ at E1 E2 RP ⊢
    go_wp2_with fail
    have r0 := block_cell E1.out 0
    have b0 := block_cell E2.out 0
    have b1 := block_cell E2.out 1
    have b2 := block_cell E2.out 2
    have b3 := block_cell E2.out 3
    have b4 := block_cell E2.out 4
    exact bodyPost_ret (v := .tuple #[.agg #[v], .agg #[.int .i64 x.kind, .int .i64 x.int, .string sb, .slice ka kl kc, .slice va vl vc]]) (by simp [results, Tryz.results16, go_sem, r0, b0, b1, b2, b3, b4]) rfl RP.out
  · have hcn : ((c : Int) == 0) = false := by simp; omega
    have hcn2 : ((c : Int) != 0) = true := by simp; omega
    have G3 : Grew w2 (w2.alloc (.cells #[.int .i64 0, .int .i64 0, .string ⟨#[]⟩, .slice none 0 0, .slice none 0 0] 30)) := (Grew.refl w2).alloc _
    have L3 : Hid (Below w.heap.size w (w2.alloc (.cells #[.int .i64 0, .int .i64 0, .string ⟨#[]⟩, .slice none 0 0, .slice none 0 0] 30))) := L2.out.trans (G3.below.mono L2.out.size)
    have X3 : Hid ((w2.alloc (.cells #[.int .i64 0, .int .i64 0, .string ⟨#[]⟩, .slice none 0 0, .slice none 0 0] 30)).heap[w.heap.size]? = _) := Below.blockAt G3.below X2.out
    have Y3 : Hid ((w2.alloc (.cells #[.int .i64 0, .int .i64 0, .string ⟨#[]⟩, .slice none 0 0, .slice none 0 0] 30)).heap[w.heap.size + 1]? = _) := Below.blockAt G3.below Y2.out
    have V3 : Hid ((w2.alloc (.cells #[.int .i64 0, .int .i64 0, .string ⟨#[]⟩, .slice none 0 0, .slice none 0 0] 30)).heap[w1.heap.size]? = _) := Below.blockAt G3.below V2.out
    have U3 : Hid ((w2.alloc (.cells #[.int .i64 0, .int .i64 0, .string ⟨#[]⟩, .slice none 0 0, .slice none 0 0] 30)).heap[w2.heap.size]? = some (.cells #[.int .i64 0, .int .i64 0, .string ⟨#[]⟩, .slice none 0 0, .slice none 0 0] 30 (0, 0))) := heap_new rfl
    have H3 : Hid (RepP (fun k => w.heap.size + 2 ≤ k) (w2.alloc (.cells #[.int .i64 0, .int .i64 0, .string ⟨#[]⟩, .slice none 0 0, .slice none 0 0] 30)) 25 x v) := H2.out.keep (Fr.below G3.below)
    have R3 : Hid (Ref (fun k => w.heap.size + 2 ≤ k) (w2.alloc (.cells #[.int .i64 0, .int .i64 0, .string ⟨#[]⟩, .slice none 0 0, .slice none 0 0] 30)) 25 x (.agg #[.int .i64 0, .int .i64 0, .string ⟨#[]⟩, .slice none 0 0, .slice none 0 0])) := by rw [hxm]; exact ref_nil _ _ 24
    clear G3 L2 X2 Y2 V2 U2 H2
    go_wp2_with fail
    generalize (w2.alloc (.cells #[.int .i64 0, .int .i64 0, .string ⟨#[]⟩, .slice none 0 0, .slice none 0 0] 30)) = wB at L3 X3 Y3 V3 U3 H3 R3 ⊢
    obtain ⟨E1', E2', RP'⟩ := both_end X3.out Y3.out L3.out H3.out HFI.out.1 HFI.out.2 R3.out
    have E1 : Hid (_ = _) := E1'
    have E2 : Hid (_ = _) := E2'
    have RP : Hid (BothSaid w _ _) := RP'
    clear E1' E2' RP'
    have z0 := block_lt X3.out
    have z1 := block_lt Y3.out
    have z2 := block_lt V3.out
    have z3 := block_lt U3.out
    have n1 := block_cell V3.out 0
    have n1' : wB.drew.cell? ⟨w1.heap.size, 0, none⟩ = some v := n1
    have r0 := block_cell X3.out 0
    have r0' : wB.drew.cell? ⟨w.heap.size, 0, none⟩ = some _ := r0
    have s0 := frozen_block X3.out 0
    have s0' : wB.drew.frozen? ⟨w.heap.size, 0, none⟩ = _ := s0
    have u0 := block_cell U3.out 0
    have u0' : wB.drew.cell? ⟨w2.heap.size, 0, none⟩ = some _ := u0
    have b0 := block_cell Y3.out 0
    have b0' : wB.drew.cell? ⟨w.heap.size + 1, 0, none⟩ = some _ := b0
    have g0 := frozen_block Y3.out 0
    have g0' : wB.drew.frozen? ⟨w.heap.size + 1, 0, none⟩ = _ := g0
    have u1 := block_cell U3.out 1
    have u1' : wB.drew.cell? ⟨w2.heap.size, 1, none⟩ = some _ := u1
    have b1 := block_cell Y3.out 1
    have b1' : wB.drew.cell? ⟨w.heap.size + 1, 1, none⟩ = some _ := b1
    have g1 := frozen_block Y3.out 1
    have g1' : wB.drew.frozen? ⟨w.heap.size + 1, 1, none⟩ = _ := g1
    have u2 := block_cell U3.out 2
    have u2' : wB.drew.cell? ⟨w2.heap.size, 2, none⟩ = some _ := u2
    have b2 := block_cell Y3.out 2
    have b2' : wB.drew.cell? ⟨w.heap.size + 1, 2, none⟩ = some _ := b2
    have g2 := frozen_block Y3.out 2
    have g2' : wB.drew.frozen? ⟨w.heap.size + 1, 2, none⟩ = _ := g2
    have u3 := block_cell U3.out 3
    have u3' : wB.drew.cell? ⟨w2.heap.size, 3, none⟩ = some _ := u3
    have b3 := block_cell Y3.out 3
    have b3' : wB.drew.cell? ⟨w.heap.size + 1, 3, none⟩ = some _ := b3
    have g3 := frozen_block Y3.out 3
    have g3' : wB.drew.frozen? ⟨w.heap.size + 1, 3, none⟩ = _ := g3
    have u4 := block_cell U3.out 4
    have u4' : wB.drew.cell? ⟨w2.heap.size, 4, none⟩ = some _ := u4
    have b4 := block_cell Y3.out 4
    have b4' : wB.drew.cell? ⟨w.heap.size + 1, 4, none⟩ = some _ := b4
    have g4 := frozen_block Y3.out 4
    have g4' : wB.drew.frozen? ⟨w.heap.size + 1, 4, none⟩ = _ := g4
    have q1 : w2.heap.size ≠ w.heap.size := by omega
    have q2 : w2.heap.size ≠ w.heap.size + 1 := by omega
    have q3 : w1.heap.size ≠ w.heap.size := by omega
    have q4 : w1.heap.size ≠ w.heap.size + 1 := by omega
    have u02 : (wB.setCell ⟨w.heap.size, 0, none⟩ v).drew.cell? ⟨w2.heap.size, 0, none⟩ = some _ := cell_far u0 q1
    have u12 : (wB.setCell ⟨w.heap.size, 0, none⟩ v).drew.cell? ⟨w2.heap.size, 1, none⟩ = some _ := cell_far u1 q1
    have u22 : (wB.setCell ⟨w.heap.size, 0, none⟩ v).drew.cell? ⟨w2.heap.size, 2, none⟩ = some _ := cell_far u2 q1
    have u32 : (wB.setCell ⟨w.heap.size, 0, none⟩ v).drew.cell? ⟨w2.heap.size, 3, none⟩ = some _ := cell_far u3 q1
    have u42 : (wB.setCell ⟨w.heap.size, 0, none⟩ v).drew.cell? ⟨w2.heap.size, 4, none⟩ = some _ := cell_far u4 q1
    have mo := follows
    go_big_region_o
    change Exit.then _ _ _ _ (set5 (wB.setCell ⟨w.heap.size, 0, none⟩ v) (w.heap.size + 1) 0 (.int .i64 0) (.int .i64 0) (.string ⟨#[]⟩) (.slice none 0 0) (.slice none 0 0)).drew
    clear u02 u12 u22 u32 u42 n1 n1' r0 r0' s0 s0' u0 u0' b0 b0' g0 g0' u1 u1' b1 b1' g1 g1' u2 u2' b2 b2' g2 g2' u3 u3' b3 b3' g3 g3' u4 u4' b4 b4' g4 g4'
    generalize (set5 (wB.setCell ⟨w.heap.size, 0, none⟩ v) (w.heap.size + 1) 0 (.int .i64 0) (.int .i64 0) (.string ⟨#[]⟩) (.slice none 0 0) (.slice none 0 0)).drew = WZ at E1 E2 RP ⊢
    go_wp2_with fail
    have r0 := block_cell E1.out 0
    have b0 := block_cell E2.out 0
    have b1 := block_cell E2.out 1
    have b2 := block_cell E2.out 2
    have b3 := block_cell E2.out 3
    have b4 := block_cell E2.out 4
    exact bodyPost_ret (v := .tuple #[.agg #[v], .agg #[.int .i64 0, .int .i64 0, .string ⟨#[]⟩, .slice none 0 0, .slice none 0 0]]) (by simp [results, Tryz.results16, go_sem, r0, b0, b1, b2, b3, b4]) rfl RP.out

set_option maxRecDepth 100000 in
set_option maxHeartbeats 8000000 in
theorem orders_any (a b : ByteArray) (w : World) (hB : Base w) (ha : a.size ≤ 9223372036854775806) (hb : b.size ≤ 9223372036854775806) : Gives 4 #[.string a, .string b] w (.bool true) := by
  have N0 : Hid (Now w w) := ⟨hB, Below.refl _ _⟩
  have HL : Hid (∀ W : World, Base W → Calls Tryz.prog 16 #[.string a] W (BothSaid W) ∧ Calls Tryz.prog 16 #[.string b] W (BothSaid W)) := fun W h => ⟨lawread_any a W h ha, lawread_any b W h hb⟩
  clear hB ha hb
  unfold Gives
  go_enter Tryz.func4, Tryz.ntmps4
  go_wp2_with fail
  refine (HL.out w N0.out.base).1.mono ?_
  rintro e w1 ⟨hb, v, u, x, rfl, hx⟩
  obtain ⟨sb, ka, kl, kc, va, vl, vc, rfl, _, _, _⟩ := id hx.ref
  have N1 : Hid (Now w w1) := N0.out.below hb
  have st1 := store_one (hx.had.rep.rep _ _ _).one
  have HX : Hid (Both w1 x v _) := hx
  clear hx hb N0
  go_wp2_with fail
  have G : Below w1.heap.size w1 ((w1.alloc (.cells #[v] 23)).alloc (.cells #[.int .i64 x.kind, .int .i64 x.int, .string sb, .slice ka kl kc, .slice va vl vc] 30)) := (((Grew.refl w1).alloc _).alloc _).below
  have NA : Hid (Now w ((w1.alloc (.cells #[v] 23)).alloc (.cells #[.int .i64 x.kind, .int .i64 x.int, .string sb, .slice ka kl kc, .slice va vl vc] 30))) := N1.out.below G
  have XA : Hid (((w1.alloc (.cells #[v] 23)).alloc (.cells #[.int .i64 x.kind, .int .i64 x.int, .string sb, .slice ka kl kc, .slice va vl vc] 30)).heap[w1.heap.size]? = some (.cells #[v] 23 (0, 0))) := Below.blockAt ((Grew.refl _).alloc _).below (heap_new rfl)
  have PA : Hid (((w1.alloc (.cells #[v] 23)).alloc (.cells #[.int .i64 x.kind, .int .i64 x.int, .string sb, .slice ka kl kc, .slice va vl vc] 30)).heap[w1.heap.size + 1]? = some (.cells #[.int .i64 x.kind, .int .i64 x.int, .string sb, .slice ka kl kc, .slice va vl vc] 30 (0, 0))) := heap_new (by simp)
  have BA : Hid (Both ((w1.alloc (.cells #[v] 23)).alloc (.cells #[.int .i64 x.kind, .int .i64 x.int, .string sb, .slice ka kl kc, .slice va vl vc] 30)) x v (.agg #[.int .i64 x.kind, .int .i64 x.int, .string sb, .slice ka kl kc, .slice va vl vc])) := HX.out.below G
  clear G HX N1
  generalize ((w1.alloc (.cells #[v] 23)).alloc (.cells #[.int .i64 x.kind, .int .i64 x.int, .string sb, .slice ka kl kc, .slice va vl vc] 30)) = wA at NA XA PA BA ⊢
  refine (HL.out wA NA.out.base).2.mono ?_
  rintro e w2 ⟨hb, v2, u2, y, rfl, hy⟩
  obtain ⟨sb2, ka2, kl2, kc2, va2, vl2, vc2, rfl, _, _, _⟩ := id hy.ref
  have N2 : Hid (Now w w2) := NA.out.below hb
  have X2 : Hid (w2.heap[w1.heap.size]? = _) := Below.blockAt hb XA.out
  have P2 : Hid (w2.heap[w1.heap.size + 1]? = _) := Below.blockAt hb PA.out
  have B2 : Hid (Both w2 x v (.agg #[.int .i64 x.kind, .int .i64 x.int, .string sb, .slice ka kl kc, .slice va vl vc])) := BA.out.below hb
  have st2 := store_one (hy.had.rep.rep _ _ _).one
  have HY : Hid (Both w2 y v2 _) := hy
  have y0 := block_cell X2.out 0
  have l0 : w1.heap.size + 1 < w2.heap.size := block_lt P2.out
  clear hy hb NA XA PA BA HL
  have G : Below w2.heap.size w2 ((w2.alloc (.cells #[v2] 23)).alloc (.cells #[.int .i64 y.kind, .int .i64 y.int, .string sb2, .slice ka2 kl2 kc2, .slice va2 vl2 vc2] 30)) := (((Grew.refl w2).alloc _).alloc _).below
  have N3 : Hid (Now w ((w2.alloc (.cells #[v2] 23)).alloc (.cells #[.int .i64 y.kind, .int .i64 y.int, .string sb2, .slice ka2 kl2 kc2, .slice va2 vl2 vc2] 30))) := N2.out.below G
  have X3 : Hid (((w2.alloc (.cells #[v2] 23)).alloc (.cells #[.int .i64 y.kind, .int .i64 y.int, .string sb2, .slice ka2 kl2 kc2, .slice va2 vl2 vc2] 30)).heap[w1.heap.size]? = _) := Below.blockAt G X2.out
  have P3 : Hid (((w2.alloc (.cells #[v2] 23)).alloc (.cells #[.int .i64 y.kind, .int .i64 y.int, .string sb2, .slice ka2 kl2 kc2, .slice va2 vl2 vc2] 30)).heap[w1.heap.size + 1]? = _) := Below.blockAt G P2.out
  have B3 : Hid (Both ((w2.alloc (.cells #[v2] 23)).alloc (.cells #[.int .i64 y.kind, .int .i64 y.int, .string sb2, .slice ka2 kl2 kc2, .slice va2 vl2 vc2] 30)) x v (.agg #[.int .i64 x.kind, .int .i64 x.int, .string sb, .slice ka kl kc, .slice va vl vc])) := B2.out.below G
  have Y3 : Hid (((w2.alloc (.cells #[v2] 23)).alloc (.cells #[.int .i64 y.kind, .int .i64 y.int, .string sb2, .slice ka2 kl2 kc2, .slice va2 vl2 vc2] 30)).heap[w2.heap.size]? = some (.cells #[v2] 23 (0, 0))) := Below.blockAt ((Grew.refl _).alloc _).below (heap_new rfl)
  have Q3 : Hid (((w2.alloc (.cells #[v2] 23)).alloc (.cells #[.int .i64 y.kind, .int .i64 y.int, .string sb2, .slice ka2 kl2 kc2, .slice va2 vl2 vc2] 30)).heap[w2.heap.size + 1]? = some (.cells #[.int .i64 y.kind, .int .i64 y.int, .string sb2, .slice ka2 kl2 kc2, .slice va2 vl2 vc2] 30 (0, 0))) := heap_new (by simp)
  have C3 : Hid (Both ((w2.alloc (.cells #[v2] 23)).alloc (.cells #[.int .i64 y.kind, .int .i64 y.int, .string sb2, .slice ka2 kl2 kc2, .slice va2 vl2 vc2] 30)) y v2 (.agg #[.int .i64 y.kind, .int .i64 y.int, .string sb2, .slice ka2 kl2 kc2, .slice va2 vl2 vc2])) := HY.out.below G
  clear y0
  have y0 := block_cell X3.out 0
  have y1 := block_cell Y3.out 0
  clear G HY N2 X2 P2 B2
  go_wp2_with fail
  clear y0 y1
  generalize ((w2.alloc (.cells #[v2] 23)).alloc (.cells #[.int .i64 y.kind, .int .i64 y.int, .string sb2, .slice ka2 kl2 kc2, .slice va2 vl2 vc2] 30)) = w3 at N3 X3 P3 B3 Y3 Q3 C3 ⊢
  refine Calls.mono (compare_had B3.out.had C3.out.had) ?_
  rintro e w4 ⟨rfl, hb⟩
  have N4 : Hid (Now w w4) := N3.out.below hb
  have X4 : Hid (w4.heap[w1.heap.size]? = _) := Below.blockAt hb X3.out
  have P4 : Hid (w4.heap[w1.heap.size + 1]? = _) := Below.blockAt hb P3.out
  have B4 : Hid (Both w4 x v (.agg #[.int .i64 x.kind, .int .i64 x.int, .string sb, .slice ka kl kc, .slice va vl vc])) := B3.out.below hb
  have Y4 : Hid (w4.heap[w2.heap.size]? = _) := Below.blockAt hb Y3.out
  have Q4 : Hid (w4.heap[w2.heap.size + 1]? = _) := Below.blockAt hb Q3.out
  have C4 : Hid (Both w4 y v2 (.agg #[.int .i64 y.kind, .int .i64 y.int, .string sb2, .slice ka2 kl2 kc2, .slice va2 vl2 vc2])) := C3.out.below hb
  have y0 := block_cell X4.out 0
  have y1 := block_cell Y4.out 0
  have l1 := block_lt X4.out
  have l2 := block_lt Y4.out
  clear hb N3 X3 P3 B3 Y3 Q3 C3
  go_wp2_with fail
  clear y0 y1
  refine Calls.mono (compare_had C4.out.had B4.out.had) ?_
  rintro e w5 ⟨rfl, hb⟩
  have N5 : Hid (Now w w5) := N4.out.below hb
  have P5 : Hid (w5.heap[w1.heap.size + 1]? = _) := Below.blockAt hb P4.out
  have B5 : Hid (Both w5 x v (.agg #[.int .i64 x.kind, .int .i64 x.int, .string sb, .slice ka kl kc, .slice va vl vc])) := B4.out.below hb
  have Q5 : Hid (w5.heap[w2.heap.size + 1]? = _) := Below.blockAt hb Q4.out
  have C5 : Hid (Both w5 y v2 (.agg #[.int .i64 y.kind, .int .i64 y.int, .string sb2, .slice ka2 kl2 kc2, .slice va2 vl2 vc2])) := C4.out.below hb
  have p0 := block_cell P5.out 0
  have q0 := block_cell Q5.out 0
  have p1 := block_cell P5.out 1
  have q1 := block_cell Q5.out 1
  have p2 := block_cell P5.out 2
  have q2 := block_cell Q5.out 2
  have p3 := block_cell P5.out 3
  have q3 := block_cell Q5.out 3
  have p4 := block_cell P5.out 4
  have q4 := block_cell Q5.out 4
  have l3 := block_lt P5.out
  have l4 := block_lt Q5.out
  clear hb N4 X4 P4 B4 Y4 Q4 C4
  go_wp2_with fail
  clear p0 p1 p2 p3 p4 q0 q1 q2 q3 q4
  have AO := (ord 25).anti x y
  have HP := (ord 25).rng x y
  refine Calls.mono (rcompare_any 25 _ w5 x y _ _ B5.out.ref C5.out.ref) ?_
  rintro e w6 ⟨rfl, hg⟩
  have HZ : Hid (Below w.heap.size w w6) := (N5.out.below hg.below).low
  rw [AO]
  clear hg AO
  generalize cmpV 25 x y = c at HP ⊢
  rcases HP with rfl | rfl | rfl
  all_goals go_wp2_with fail
  all_goals go_ret
  all_goals exact ⟨by simp, HZ.out⟩
end Go.Proofs.YtbogejmmkohbkaaGreatDoor.Sx
