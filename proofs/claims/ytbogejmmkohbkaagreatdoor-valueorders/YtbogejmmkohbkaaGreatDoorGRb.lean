/- The reference: its reader: a value: its walk. -/
import Derived.Test.YtbogejmmkohbkaaGreatDoorGRY
namespace Go.Proofs.YtbogejmmkohbkaaGreatDoor.Sx
open Go.RowKit Go.Sort

/-- a value goes into the result's box -/
theorem val_end {d : Nat} {w W : World} {br : Nat} {t : ByteArray} {a0 deep e bad : Nat} {hv : Bool} {s' : RSt} {x : AV (d + 1)} {v0 v1 v2 v3 v4 c0 c1 c2 c3 c4 : Value} (x2 : W.heap[w.heap.size]? = some (.cells #[v0, v1, v2, v3, v4] 30 (0, 0))) (R : RR W br t s') (hb : br < w.heap.size) (F : Fr (· ≠ br) w W)
    (RF : Ref (fun k => w.heap.size + 1 ≤ k) W (d + 1) x (.agg #[c0, c1, c2, c3, c4])) (hW : Wgt (d + 1) x) (ha : a0 ≤ t.size) (hA : AgreeR t.data.toList (valueP t.data.toList d (pos t.data.toList (skipN t.data.toList a0) hv)) ⟨skipN t.data.toList a0, deep, e, bad, hv⟩ x s') :
    (set5 W w.heap.size 0 c0 c1 c2 c3 c4).heap[w.heap.size]? = some (.cells #[c0, c1, c2, c3, c4] 30 (0, 0)) ∧ RPost w br t ⟨a0, deep, e, bad, hv⟩ d (.returned (.agg #[c0, c1, c2, c3, c4])) (set5 W w.heap.size 0 c0 c1 c2 c3 c4) := by
  obtain ⟨E, RZ, FZ⟩ := box_end x2 R hb F c0 c1 c2 c3 c4
  have R1 : Ref (fun k => w.heap.size ≤ k) (set5 W w.heap.size 0 c0 c1 c2 c3 c4) (d + 1) x (.agg #[c0, c1, c2, c3, c4]) := RF.fr (set5_fr (Fr.refl _ W) (by omega) _ _ _ _ _ _) (fun k _ hk => by omega) _ _ _
  exact ⟨E, _, x, s', rfl, FZ, R1, hW, RZ, agree_skip (by simpa using ha) hA⟩
theorem sign_no (T m : List UInt8) (a0 deep e bad : Nat) (hv : Bool) (h : signB T m ⟨skipN T a0, deep, e, bad, hv⟩ = false) : signS T m ⟨skipN T a0, deep, e, bad, hv⟩ = ⟨skipN T a0, deep, e, bad, hv⟩ := by
  unfold signS
  rw [h]
  simp only [skipN_idem]
  rfl
theorem heavy_kind {d : Nat} (x : Node (AV d)) : decide (x.kind = 0) = heavyP x := by unfold heavyP; cases x.kind <;> simp

set_option maxRecDepth 100000 in
set_option maxHeartbeats 8000000 in
theorem rvalue_walk (d : Nat) (H1 : RowsOK d ⟨#[123]⟩ ⟨#[125]⟩ (fun l => (mkS (wt d) (normA (cmpV d) l) : Node (AV d)))) (H2 : RowsOK d ⟨#[60, 60]⟩ ⟨#[62, 62]⟩ (fun l => (mkF (wt d) (seqK d l.length) l : Node (AV d)))) (H3 : PairsOK d ⟨#[91]⟩ ⟨#[93]⟩) : RVal d := by
  intro w br t s h hdp ha ht
  obtain ⟨a0, deep, e, bad, hv⟩ := s
  simp only at hdp ha
  have hlt : t.data.toList.length = t.size := by simp
  obtain ⟨PP, hP⟩ : ∃ PP, RPost w br t ⟨a0, deep, e, bad, hv⟩ d = PP := ⟨_, rfl⟩
  have hbl := block_lt h
  have HEND : Hid (∀ (W : World) (x : AV (d + 1)) (c0 c1 c2 c3 c4 : Value) (s' : RSt), W.heap[w.heap.size]? = some (.cells #[.int .i64 0, .int .i64 0, .string ⟨#[]⟩, .slice none 0 0, .slice none 0 0] 30 (0, 0)) → RR W br t s' → Fr (· ≠ br) w W → Ref (fun k => w.heap.size + 1 ≤ k) W (d + 1) x (.agg #[c0, c1, c2, c3, c4]) → Wgt (d + 1) x →
      AgreeR t.data.toList (valueP t.data.toList d (pos t.data.toList (skipN t.data.toList a0) hv)) ⟨skipN t.data.toList a0, deep, e, bad, hv⟩ x s' →
      (set5 W w.heap.size 0 c0 c1 c2 c3 c4).heap[w.heap.size]? = some (.cells #[c0, c1, c2, c3, c4] 30 (0, 0)) ∧ PP (.returned (.agg #[c0, c1, c2, c3, c4])) (set5 W w.heap.size 0 c0 c1 c2 c3 c4)) := by
    intro W x c0 c1 c2 c3 c4 s' q1 q2 q3 q4 q5 q6
    rw [← hP]
    exact val_end q1 q2 hbl q3 q4 q5 ha q6
  rw [hP]
  clear hP
  have sk := skipN_le (T := t.data.toList) (p := a0) (by rw [hlt]; exact ha)
  rw [hlt] at sk
  have HSK : Hid (∀ W : World, RR W br t ⟨a0, deep, e, bad, hv⟩ → Calls Tryz.prog 28 #[.pointer (some ⟨br, 0, none⟩)] W fun e' w' => e' = .returned (.tuple #[]) ∧ RR w' br t ⟨skipN t.data.toList a0, deep, e, bad, hv⟩ ∧ Fr (· ≠ br) W w') := fun W q => rskip_any W br t ⟨a0, deep, e, bad, hv⟩ q ha ht
  have HSG : Hid (∀ (W : World) (m : ByteArray), m.size ≤ 100 → RR W br t ⟨skipN t.data.toList a0, deep, e, bad, hv⟩ → Calls Tryz.prog 64 #[.pointer (some ⟨br, 0, none⟩), .string m] W fun e' w' => e' = .returned (.bool (signB t.data.toList m.data.toList ⟨skipN t.data.toList a0, deep, e, bad, hv⟩)) ∧ RR w' br t (signS t.data.toList m.data.toList ⟨skipN t.data.toList a0, deep, e, bad, hv⟩) ∧ Fr (· ≠ br) W w') := fun W m q1 q => rsign_any W br t m _ q sk.2 ht q1
  have HNO : Hid (∀ m, signB t.data.toList m ⟨skipN t.data.toList a0, deep, e, bad, hv⟩ = false → signS t.data.toList m ⟨skipN t.data.toList a0, deep, e, bad, hv⟩ = ⟨skipN t.data.toList a0, deep, e, bad, hv⟩) := fun m q => sign_no _ _ _ _ _ _ _ q
  have HO : Hid (∀ m, e = 0 → signB t.data.toList m ⟨skipN t.data.toList a0, deep, e, bad, hv⟩ = true → Opens t.data.toList m t.size d ⟨skipN t.data.toList a0, deep, e, bad, hv⟩ (signS t.data.toList m ⟨skipN t.data.toList a0, deep, e, bad, hv⟩)) := fun m q1 q2 => ⟨q1, sk.2, hdp, q2, rfl⟩
  have HSI : Hid (∀ W : World, e = 0 → RR W br t ⟨skipN t.data.toList a0, deep, e, bad, hv⟩ → Calls Tryz.prog 68 #[.pointer (some ⟨br, 0, none⟩)] W fun e' w' => e' = .returned (leafV (singleP t.data.toList (skipN t.data.toList a0))) ∧ RR w' br t (endS ⟨skipN t.data.toList a0, deep, e, bad, hv⟩ (singleP t.data.toList (skipN t.data.toList a0)) (skipN t.data.toList a0)) ∧ Fr (· ≠ br) W w') := fun W q1 q2 => rsingle_any W br t _ q2 q1 sk.2 ht
  have HSA : Hid (e = 0 → signB t.data.toList [123] ⟨skipN t.data.toList a0, deep, e, bad, hv⟩ = false → signB t.data.toList [60, 60] ⟨skipN t.data.toList a0, deep, e, bad, hv⟩ = false → signB t.data.toList [91] ⟨skipN t.data.toList a0, deep, e, bad, hv⟩ = false →
      AgreeR t.data.toList (valueP t.data.toList d (pos t.data.toList (skipN t.data.toList a0) hv)) ⟨skipN t.data.toList a0, deep, e, bad, hv⟩ (⟨(singleP t.data.toList (skipN t.data.toList a0)).1, (singleP t.data.toList (skipN t.data.toList a0)).2.1, (singleP t.data.toList (skipN t.data.toList a0)).2.2.1, [], []⟩ : Node (AV d)) (endS ⟨skipN t.data.toList a0, deep, e, bad, hv⟩ (singleP t.data.toList (skipN t.data.toList a0)) (skipN t.data.toList a0))) := by
    intro q0 q1 q2 q3
    have z := fun m (hm : Sgn m) => (sign_so t.data.toList m ⟨skipN t.data.toList a0, deep, e, bad, hv⟩ hm q0).1
    have hs := value_single (d := d) (T := t.data.toList) (p := skipN t.data.toList a0) (hv := hv) (by rw [hlt]; exact sk.2) ((z [123] (by unfold Sgn; simp)).symm.trans q1) ((z [60, 60] (by unfold Sgn; simp)).symm.trans q2) ((z [91] (by unfold Sgn; simp)).symm.trans q3)
    rw [skipN_idem] at hs
    exact single_agree q0 (by rw [hlt]; exact sk.2) hs
  have H1' : Hid (RowsOK d ⟨#[123]⟩ ⟨#[125]⟩ _) := H1
  have H2' : Hid (RowsOK d ⟨#[60, 60]⟩ ⟨#[62, 62]⟩ _) := H2
  have H3' : Hid (PairsOK d ⟨#[91]⟩ ⟨#[93]⟩) := H3
  clear H1 H2 H3
  have x2 : Hid ((w.alloc (.cells #[.int .i64 0, .int .i64 0, .string ⟨#[]⟩, .slice none 0 0, .slice none 0 0] 30)).heap[w.heap.size]? = some (.cells #[.int .i64 0, .int .i64 0, .string ⟨#[]⟩, .slice none 0 0, .slice none 0 0] 30 (0, 0))) := heap_new rfl
  have G0 : Hid (Grew w (w.alloc (.cells #[.int .i64 0, .int .i64 0, .string ⟨#[]⟩, .slice none 0 0, .slice none 0 0] 30))) := (Grew.refl w).alloc _
  have R0 : Hid (RR (w.alloc (.cells #[.int .i64 0, .int .i64 0, .string ⟨#[]⟩, .slice none 0 0, .slice none 0 0] 30)) br t ⟨a0, deep, e, bad, hv⟩) := h.fr (G0.out.below.block br hbl)
  clear h
  have HSK2 : Hid (skipN t.data.toList a0 ≤ t.size) := sk.2
  clear sk
  generalize skipN t.data.toList a0 = p at *
  have mo := follows
  go_enter Tryz.func27, Tryz.ntmps27
  go_wp2_with fail
  generalize w.alloc (.cells #[.int .i64 0, .int .i64 0, .string ⟨#[]⟩, .slice none 0 0, .slice none 0 0] 30) = W0 at x2 G0 R0 ⊢
  refine (HSK.out W0 R0.out).mono ?_
  rintro e' w1 ⟨rfl, h1, f1⟩
  have F1 : Hid (Fr (· ≠ br) w w1) := (Fr.grew G0.out).trans f1
  have Y1 : Hid (w1.heap[w.heap.size]? = some (.cells #[.int .i64 0, .int .i64 0, .string ⟨#[]⟩, .slice none 0 0, .slice none 0 0] 30 (0, 0))) := (f1.block w.heap.size (block_lt x2.out) (by omega)).trans x2.out
  have R1 : Hid (RR w1 br t ⟨p, deep, e, bad, hv⟩) := h1
  clear h1 f1 x2 G0 R0 HSK
  have c3 := block_cell R1.out 3
  have hbl1 := block_lt R1.out
  by_cases he : e = 0
  · subst he
    go_wp2_with fail
    refine (HSG.out w1 ⟨#[123]⟩ (by decide) R1.out).mono ?_
    rintro e' w2 ⟨rfl, h2, f2⟩
    have e123 : (⟨#[123]⟩ : ByteArray).data.toList = [123] := rfl
    rw [e123] at h2 ⊢
    clear e123
    obtain ⟨b1, hb1⟩ : ∃ b1, signB t.data.toList [123] ⟨p, deep, 0, bad, hv⟩ = b1 := ⟨_, rfl⟩
    rw [hb1]
    have HB1 : Hid (_ = b1) := hb1
    have F2 : Hid (Fr (· ≠ br) w w2) := F1.out.trans f2
    have Y2 : Hid (w2.heap[w.heap.size]? = _) := (f2.block w.heap.size (block_lt Y1.out) (by omega)).trans Y1.out
    clear hb1 f2 F1 Y1 R1 c3 hbl1
    cases b1 with
    | true =>
      have HO1 : Hid (Opens t.data.toList [123] t.size d _ _) := HO.out [123] (by trivial) HB1.out
      generalize signS t.data.toList [123] ⟨p, deep, 0, bad, hv⟩ = s2 at h2 HO1
      have R2 : Hid (RR w2 br t s2) := h2
      clear h2
      go_wp2_with fail
      refine (H1'.out w2 br t _ s2 R2.out ht HO1.out).mono ?_
      rintro e' v1 ⟨a, len, cap, ks, s3, rfl, hf3, hrow, hl, hw, hr3, hag⟩
      have HMK : Hid (∀ W : World, Grew v1 W → Calls Tryz.prog _ #[.slice a len cap] W (MadeR (d + 1) (fun j => w2.heap.size ≤ j) W (mkS (wt d) (normA (cmpV d) ks) : Node (AV d)))) := fun W hW => setOf_ref d _ W a len cap ks (hrow.grew hW) (by omega) hw
      have HFI : Hid (Wgt (d + 1) (mkS (wt d) (normA (cmpV d) ks) : Node (AV d))) := mkN_fine d ks hw
      have HAG : Hid (AgreeR t.data.toList (valueP t.data.toList d (pos t.data.toList p hv)) ⟨p, deep, 0, bad, hv⟩ (mkS (wt d) (normA (cmpV d) ks) : Node (AV d)) { s3 with hv := s3.hv || heavyP (α := AV d) (mkS (wt d) (normA (cmpV d) ks) : Node (AV d)) }) := hag
      have R5 : Hid (RR v1 br t s3) := hr3
      have F5 : Hid (Fr (· ≠ br) w v1) := F2.out.trans hf3
      have Y5 : Hid (v1.heap[w.heap.size]? = _) := (hf3.block w.heap.size (block_lt Y2.out) (by omega)).trans Y2.out
      have zw : w.heap.size + 1 ≤ w2.heap.size := block_lt Y2.out
      have zs : w2.heap.size ≤ v1.heap.size := hf3.size
      clear hf3 hrow hl hw hr3 hag F2 Y2 R2 HO1 HB1
      go_wp2_with fail
      refine (HMK.out v1 (Grew.refl v1)).mono ?_
      rintro e' v2 ⟨v, rfl, hx, hf4⟩
      generalize (mkS (wt d) (normA (cmpV d) ks) : Node (AV d)) = x at HFI HAG hx
      have HX : Ref (fun k => w.heap.size + 1 ≤ k) v2 (d + 1) x v := hx.fr (Fr.refl _ v2) (fun k _ hk => by rcases hk with q | q <;> omega) _ _ _
      obtain ⟨sb, ka, kl, kc, va, vl, vc, rfl, htx, hk, hvl⟩ := id HX
      have HX2 : Hid (Ref _ v2 (d + 1) x _) := HX
      have R6 : Hid (RR v2 br t s3) := R5.out.fr (hf4.block br (block_lt R5.out) trivial)
      have F6 : Hid (Fr (· ≠ br) w v2) := F5.out.trans (hf4.mono (fun _ _ => trivial))
      have Y6 : Hid (v2.heap[w.heap.size]? = _) := (hf4.block w.heap.size (block_lt Y5.out) trivial).trans Y5.out
      clear HX hx hf4 htx hk hvl R5 F5 Y5 HMK
      go_wp2_with fail
      have G7 : Grew v2 (v2.alloc (.cells #[.int .i64 x.kind, .int .i64 x.int, .string sb, .slice ka kl kc, .slice va vl vc] 30)) := (Grew.refl v2).alloc _
      have R7 : Hid (RR (v2.alloc (.cells #[.int .i64 x.kind, .int .i64 x.int, .string sb, .slice ka kl kc, .slice va vl vc] 30)) br t s3) := R6.out.fr (G7.below.block br (block_lt R6.out))
      have F7 : Hid (Fr (· ≠ br) w (v2.alloc (.cells #[.int .i64 x.kind, .int .i64 x.int, .string sb, .slice ka kl kc, .slice va vl vc] 30))) := F6.out.trans (Fr.grew G7)
      have Y7 : Hid ((v2.alloc (.cells #[.int .i64 x.kind, .int .i64 x.int, .string sb, .slice ka kl kc, .slice va vl vc] 30)).heap[w.heap.size]? = _) := Below.blockAt G7.below Y6.out
      have HX7 : Hid (Ref (fun k => w.heap.size + 1 ≤ k) (v2.alloc (.cells #[.int .i64 x.kind, .int .i64 x.int, .string sb, .slice ka kl kc, .slice va vl vc] 30)) (d + 1) x (.agg #[.int .i64 x.kind, .int .i64 x.int, .string sb, .slice ka kl kc, .slice va vl vc])) := HX2.out.grew G7
      clear G7 R6 F6 Y6 HX2
      generalize v2.alloc (.cells #[.int .i64 x.kind, .int .i64 x.int, .string sb, .slice ka kl kc, .slice va vl vc] 30) = v3 at R7 F7 Y7 HX7 ⊢
      refine (rlightR_any v3 br t s3 x.kind x.int sb (.slice ka kl kc) (.slice va vl vc) rfl rfl R7.out).mono ?_
      rintro e' v4 ⟨rfl, h8, f8⟩
      have R8 : Hid (RR v4 br t { s3 with hv := s3.hv || decide (x.kind = 0) }) := h8
      have F8 : Hid (Fr (· ≠ br) w v4) := F7.out.trans f8
      have Y8 : Hid (v4.heap[w.heap.size]? = _) := (f8.block w.heap.size (block_lt Y7.out) (by omega)).trans Y7.out
      have HX8 : Hid (Ref (fun k => w.heap.size + 1 ≤ k) v4 (d + 1) x (.agg #[.int .i64 x.kind, .int .i64 x.int, .string sb, .slice ka kl kc, .slice va vl vc])) := HX7.out.fr (f8.mono (fun k hk => by omega)) (fun k _ hk => hk) _ _ _
      have HA2 : Hid (AgreeR t.data.toList (valueP t.data.toList d (pos t.data.toList p hv)) ⟨p, deep, 0, bad, hv⟩ x { s3 with hv := s3.hv || decide (x.kind = 0) }) := by rw [heavy_kind x]; exact HAG.out
      clear h8 f8 R7 F7 Y7 HX7 HAG
      have b0 := block_cell Y8.out 0
      have b1 := block_cell Y8.out 1
      have b2 := block_cell Y8.out 2
      have b3 := block_cell Y8.out 3
      have b4 := block_cell Y8.out 4
      have g0 := frozen_block Y8.out 0
      have g1 := frozen_block Y8.out 1
      have g2 := frozen_block Y8.out 2
      have g3 := frozen_block Y8.out 3
      have g4 := frozen_block Y8.out 4
      have z2 := block_lt Y8.out
      obtain ⟨E0, RP0⟩ := HEND.out v4 x _ _ _ _ _ _ Y8.out R8.out F8.out HX8.out HFI.out HA2.out
      have E : Hid (_ = _) := E0
      have RP : Hid (PP _ _) := RP0
      clear E0 RP0
      go_wp2_with fail
      change bodyPost Tryz.prog _ _ _ _ (set5 v4 w.heap.size 0 (.int .i64 x.kind) (.int .i64 x.int) (.string sb) (.slice ka kl kc) (.slice va vl vc))
      clear b0 b1 b2 b3 b4 g0 g1 g2 g3 g4
      generalize set5 v4 w.heap.size 0 (.int .i64 x.kind) (.int .i64 x.int) (.string sb) (.slice ka kl kc) (.slice va vl vc) = WZ at E RP ⊢
      have b0 := block_cell E.out 0
      have b1 := block_cell E.out 1
      have b2 := block_cell E.out 2
      have b3 := block_cell E.out 3
      have b4 := block_cell E.out 4
      exact bodyPost_ret (v := .agg #[.int .i64 x.kind, .int .i64 x.int, .string sb, .slice ka kl kc, .slice va vl vc]) (by simp [results, Tryz.results27, go_sem, b0, b1, b2, b3, b4]) rfl RP.out
    | false =>
      have hn := HNO.out _ HB1.out
      rw [hn] at h2
      have R2 : Hid (RR w2 br t ⟨p, deep, 0, bad, hv⟩) := h2
      clear h2 hn
      go_wp2_with fail
      refine (HSG.out w2 ⟨#[60, 60]⟩ (by decide) R2.out).mono ?_
      rintro e' w3 ⟨rfl, h3, f3⟩
      have e60 : (⟨#[60, 60]⟩ : ByteArray).data.toList = [60, 60] := rfl
      rw [e60] at h3 ⊢
      clear e60
      obtain ⟨b2, hb2⟩ : ∃ b2, signB t.data.toList [60, 60] ⟨p, deep, 0, bad, hv⟩ = b2 := ⟨_, rfl⟩
      rw [hb2]
      have HB2 : Hid (_ = b2) := hb2
      have F3 : Hid (Fr (· ≠ br) w w3) := F2.out.trans f3
      have Y3 : Hid (w3.heap[w.heap.size]? = _) := (f3.block w.heap.size (block_lt Y2.out) (by omega)).trans Y2.out
      clear hb2 f3 F2 Y2 R2
      cases b2 with
      | true =>
        have HO1 : Hid (Opens t.data.toList [60, 60] t.size d _ _) := HO.out [60, 60] (by trivial) HB2.out
        generalize signS t.data.toList [60, 60] ⟨p, deep, 0, bad, hv⟩ = s2 at h3 HO1
        have R3 : Hid (RR w3 br t s2) := h3
        clear h3
        go_wp2_with fail
        refine (H2'.out w3 br t _ s2 R3.out ht HO1.out).mono ?_
        rintro e' v1 ⟨a, len, cap, ks, s3, rfl, hf3, hrow, hl, hw, hr3, hag⟩
        have HMK : Hid (∀ W : World, Grew v1 W → Calls Tryz.prog _ #[.slice a len cap] W (MadeR (d + 1) (fun j => w3.heap.size ≤ j) W (mkF (wt d) (seqK d ks.length) ks : Node (AV d)))) := fun W hW => seqOf_d d _ W a len cap ks (hrow.grew hW) (by omega) hw
        have HFI : Hid (Wgt (d + 1) (mkF (wt d) (seqK d ks.length) ks : Node (AV d))) := mkQ_fine d ks hw
        have HAG : Hid (AgreeR t.data.toList (valueP t.data.toList d (pos t.data.toList p hv)) ⟨p, deep, 0, bad, hv⟩ (mkF (wt d) (seqK d ks.length) ks : Node (AV d)) { s3 with hv := s3.hv || heavyP (α := AV d) (mkF (wt d) (seqK d ks.length) ks : Node (AV d)) }) := hag
        have R5 : Hid (RR v1 br t s3) := hr3
        have F5 : Hid (Fr (· ≠ br) w v1) := F3.out.trans hf3
        have Y5 : Hid (v1.heap[w.heap.size]? = _) := (hf3.block w.heap.size (block_lt Y3.out) (by omega)).trans Y3.out
        have zw : w.heap.size + 1 ≤ w3.heap.size := block_lt Y3.out
        have zs : w3.heap.size ≤ v1.heap.size := hf3.size
        clear hf3 hrow hl hw hr3 hag F3 Y3 R3 HO1 HB1
        go_wp2_with fail
        refine (HMK.out v1 (Grew.refl v1)).mono ?_
        rintro e' v2 ⟨v, rfl, hx, hf4⟩
        generalize (mkF (wt d) (seqK d ks.length) ks : Node (AV d)) = x at HFI HAG hx
        have HX : Ref (fun k => w.heap.size + 1 ≤ k) v2 (d + 1) x v := hx.fr (Fr.refl _ v2) (fun k _ hk => by rcases hk with q | q <;> omega) _ _ _
        obtain ⟨sb, ka, kl, kc, va, vl, vc, rfl, htx, hk, hvl⟩ := id HX
        have HX2 : Hid (Ref _ v2 (d + 1) x _) := HX
        have R6 : Hid (RR v2 br t s3) := R5.out.fr (hf4.block br (block_lt R5.out) trivial)
        have F6 : Hid (Fr (· ≠ br) w v2) := F5.out.trans (hf4.mono (fun _ _ => trivial))
        have Y6 : Hid (v2.heap[w.heap.size]? = _) := (hf4.block w.heap.size (block_lt Y5.out) trivial).trans Y5.out
        clear HX hx hf4 htx hk hvl R5 F5 Y5 HMK
        go_wp2_with fail
        have G7 : Grew v2 (v2.alloc (.cells #[.int .i64 x.kind, .int .i64 x.int, .string sb, .slice ka kl kc, .slice va vl vc] 30)) := (Grew.refl v2).alloc _
        have R7 : Hid (RR (v2.alloc (.cells #[.int .i64 x.kind, .int .i64 x.int, .string sb, .slice ka kl kc, .slice va vl vc] 30)) br t s3) := R6.out.fr (G7.below.block br (block_lt R6.out))
        have F7 : Hid (Fr (· ≠ br) w (v2.alloc (.cells #[.int .i64 x.kind, .int .i64 x.int, .string sb, .slice ka kl kc, .slice va vl vc] 30))) := F6.out.trans (Fr.grew G7)
        have Y7 : Hid ((v2.alloc (.cells #[.int .i64 x.kind, .int .i64 x.int, .string sb, .slice ka kl kc, .slice va vl vc] 30)).heap[w.heap.size]? = _) := Below.blockAt G7.below Y6.out
        have HX7 : Hid (Ref (fun k => w.heap.size + 1 ≤ k) (v2.alloc (.cells #[.int .i64 x.kind, .int .i64 x.int, .string sb, .slice ka kl kc, .slice va vl vc] 30)) (d + 1) x (.agg #[.int .i64 x.kind, .int .i64 x.int, .string sb, .slice ka kl kc, .slice va vl vc])) := HX2.out.grew G7
        clear G7 R6 F6 Y6 HX2
        generalize v2.alloc (.cells #[.int .i64 x.kind, .int .i64 x.int, .string sb, .slice ka kl kc, .slice va vl vc] 30) = v3 at R7 F7 Y7 HX7 ⊢
        refine (rlightR_any v3 br t s3 x.kind x.int sb (.slice ka kl kc) (.slice va vl vc) rfl rfl R7.out).mono ?_
        rintro e' v4 ⟨rfl, h8, f8⟩
        have R8 : Hid (RR v4 br t { s3 with hv := s3.hv || decide (x.kind = 0) }) := h8
        have F8 : Hid (Fr (· ≠ br) w v4) := F7.out.trans f8
        have Y8 : Hid (v4.heap[w.heap.size]? = _) := (f8.block w.heap.size (block_lt Y7.out) (by omega)).trans Y7.out
        have HX8 : Hid (Ref (fun k => w.heap.size + 1 ≤ k) v4 (d + 1) x (.agg #[.int .i64 x.kind, .int .i64 x.int, .string sb, .slice ka kl kc, .slice va vl vc])) := HX7.out.fr (f8.mono (fun k hk => by omega)) (fun k _ hk => hk) _ _ _
        have HA2 : Hid (AgreeR t.data.toList (valueP t.data.toList d (pos t.data.toList p hv)) ⟨p, deep, 0, bad, hv⟩ x { s3 with hv := s3.hv || decide (x.kind = 0) }) := by rw [heavy_kind x]; exact HAG.out
        clear h8 f8 R7 F7 Y7 HX7 HAG
        have b0 := block_cell Y8.out 0
        have b1 := block_cell Y8.out 1
        have b2 := block_cell Y8.out 2
        have b3 := block_cell Y8.out 3
        have b4 := block_cell Y8.out 4
        have g0 := frozen_block Y8.out 0
        have g1 := frozen_block Y8.out 1
        have g2 := frozen_block Y8.out 2
        have g3 := frozen_block Y8.out 3
        have g4 := frozen_block Y8.out 4
        have z2 := block_lt Y8.out
        obtain ⟨E0, RP0⟩ := HEND.out v4 x _ _ _ _ _ _ Y8.out R8.out F8.out HX8.out HFI.out HA2.out
        have E : Hid (_ = _) := E0
        have RP : Hid (PP _ _) := RP0
        clear E0 RP0
        go_wp2_with fail
        change bodyPost Tryz.prog _ _ _ _ (set5 v4 w.heap.size 0 (.int .i64 x.kind) (.int .i64 x.int) (.string sb) (.slice ka kl kc) (.slice va vl vc))
        clear b0 b1 b2 b3 b4 g0 g1 g2 g3 g4
        generalize set5 v4 w.heap.size 0 (.int .i64 x.kind) (.int .i64 x.int) (.string sb) (.slice ka kl kc) (.slice va vl vc) = WZ at E RP ⊢
        have b0 := block_cell E.out 0
        have b1 := block_cell E.out 1
        have b2 := block_cell E.out 2
        have b3 := block_cell E.out 3
        have b4 := block_cell E.out 4
        exact bodyPost_ret (v := .agg #[.int .i64 x.kind, .int .i64 x.int, .string sb, .slice ka kl kc, .slice va vl vc]) (by simp [results, Tryz.results27, go_sem, b0, b1, b2, b3, b4]) rfl RP.out
      | false =>
        have hn := HNO.out _ HB2.out
        rw [hn] at h3
        have R3 : Hid (RR w3 br t ⟨p, deep, 0, bad, hv⟩) := h3
        clear h3 hn
        go_wp2_with fail
        refine (HSG.out w3 ⟨#[91]⟩ (by decide) R3.out).mono ?_
        rintro e' w4 ⟨rfl, h4, f4⟩
        have e91 : (⟨#[91]⟩ : ByteArray).data.toList = [91] := rfl
        rw [e91] at h4 ⊢
        clear e91
        obtain ⟨b3, hb3⟩ : ∃ b3, signB t.data.toList [91] ⟨p, deep, 0, bad, hv⟩ = b3 := ⟨_, rfl⟩
        rw [hb3]
        have HB3 : Hid (_ = b3) := hb3
        have F4 : Hid (Fr (· ≠ br) w w4) := F3.out.trans f4
        have Y4 : Hid (w4.heap[w.heap.size]? = _) := (f4.block w.heap.size (block_lt Y3.out) (by omega)).trans Y3.out
        clear hb3 f4 F3 Y3 R3
        cases b3 with
        | true =>
          have HO1 : Hid (Opens t.data.toList [91] t.size d _ _) := HO.out [91] (by trivial) HB3.out
          generalize signS t.data.toList [91] ⟨p, deep, 0, bad, hv⟩ = s2 at h4 HO1
          have R4 : Hid (RR w4 br t s2) := h4
          clear h4
          go_wp2_with fail
          refine (H3'.out w4 br t _ s2 R4.out ht HO1.out).mono ?_
          rintro e' v1 ⟨a, a', len, cap, cap', ps, s3, rfl, hf3, hrow, hrow', hl, hw, hr3, hag1, hag2⟩
          have HMK : Hid (∀ W : World, Grew v1 W → Calls Tryz.prog _ #[.slice a len cap, .slice a' len cap'] W (MadeR (d + 1) (fun j => w4.heap.size ≤ j) W (mkP (wt d) (normP (cmpV d) ps) : Node (AV d)))) := fun W hW => by
            have q := funOf_ref d _ W a a' len cap cap' _ _ (hrow.grew hW) (hrow'.grew hW) (by omega) hw
            rw [zip_pairs] at q
            exact q
          have HFI : Hid (Wgt (d + 1) (mkP (wt d) (normP (cmpV d) ps) : Node (AV d))) := mkM_fine d ps hw
          have HAG1 : Hid (s3.e ≠ 0 → AgreeR t.data.toList (valueP t.data.toList d (pos t.data.toList p hv)) ⟨p, deep, 0, bad, hv⟩ (mkNil : Node (AV d)) s3) := hag1
          have HAG2 : Hid (s3.e = 0 → AgreeR t.data.toList (valueP t.data.toList d (pos t.data.toList p hv)) ⟨p, deep, 0, bad, hv⟩ (mkP (wt d) (normP (cmpV d) ps) : Node (AV d)) { s3 with hv := s3.hv || heavyP (α := AV d) (mkP (wt d) (normP (cmpV d) ps) : Node (AV d)) }) := hag2
          have R5 : Hid (RR v1 br t s3) := hr3
          have F5 : Hid (Fr (· ≠ br) w v1) := F4.out.trans hf3
          have Y5 : Hid (v1.heap[w.heap.size]? = _) := (hf3.block w.heap.size (block_lt Y4.out) (by omega)).trans Y4.out
          have zw : w.heap.size + 1 ≤ w4.heap.size := block_lt Y4.out
          have zs : w4.heap.size ≤ v1.heap.size := hf3.size
          clear hf3 hrow hrow' hl hw hr3 hag1 hag2 F4 Y4 R4 HO1 HB1 HB2 HB3
          obtain ⟨at3, deep3, e3, bad3, hv3⟩ := s3
          have c3 := block_cell R5.out 3
          have hb5 := block_lt R5.out
          by_cases he3 : e3 = 0
          · subst he3
            have HAG : Hid (AgreeR t.data.toList (valueP t.data.toList d (pos t.data.toList p hv)) ⟨p, deep, 0, bad, hv⟩ (mkP (wt d) (normP (cmpV d) ps) : Node (AV d)) { (⟨at3, deep3, 0, bad3, hv3⟩ : RSt) with hv := hv3 || heavyP (α := AV d) (mkP (wt d) (normP (cmpV d) ps) : Node (AV d)) }) := HAG2.out rfl
            clear HAG1 HAG2
            go_wp2_with fail
            refine (HMK.out v1 (Grew.refl v1)).mono ?_
            rintro e' v2 ⟨v, rfl, hx, hf4⟩
            generalize (mkP (wt d) (normP (cmpV d) ps) : Node (AV d)) = x at HFI HAG hx
            have HX : Ref (fun k => w.heap.size + 1 ≤ k) v2 (d + 1) x v := hx.fr (Fr.refl _ v2) (fun k _ hk => by rcases hk with q | q <;> omega) _ _ _
            obtain ⟨sb, ka, kl, kc, va, vl, vc, rfl, htx, hk, hvl⟩ := id HX
            have HX2 : Hid (Ref _ v2 (d + 1) x _) := HX
            have R6 : Hid (RR v2 br t ⟨at3, deep3, 0, bad3, hv3⟩) := R5.out.fr (hf4.block br (block_lt R5.out) trivial)
            have F6 : Hid (Fr (· ≠ br) w v2) := F5.out.trans (hf4.mono (fun _ _ => trivial))
            have Y6 : Hid (v2.heap[w.heap.size]? = _) := (hf4.block w.heap.size (block_lt Y5.out) trivial).trans Y5.out
            clear HX hx hf4 htx hk hvl R5 F5 Y5 HMK c3 hb5
            go_wp2_with fail
            have G7 : Grew v2 (v2.alloc (.cells #[.int .i64 x.kind, .int .i64 x.int, .string sb, .slice ka kl kc, .slice va vl vc] 30)) := (Grew.refl v2).alloc _
            have R7 : Hid (RR (v2.alloc (.cells #[.int .i64 x.kind, .int .i64 x.int, .string sb, .slice ka kl kc, .slice va vl vc] 30)) br t ⟨at3, deep3, 0, bad3, hv3⟩) := R6.out.fr (G7.below.block br (block_lt R6.out))
            have F7 : Hid (Fr (· ≠ br) w (v2.alloc (.cells #[.int .i64 x.kind, .int .i64 x.int, .string sb, .slice ka kl kc, .slice va vl vc] 30))) := F6.out.trans (Fr.grew G7)
            have Y7 : Hid ((v2.alloc (.cells #[.int .i64 x.kind, .int .i64 x.int, .string sb, .slice ka kl kc, .slice va vl vc] 30)).heap[w.heap.size]? = _) := Below.blockAt G7.below Y6.out
            have HX7 : Hid (Ref (fun k => w.heap.size + 1 ≤ k) (v2.alloc (.cells #[.int .i64 x.kind, .int .i64 x.int, .string sb, .slice ka kl kc, .slice va vl vc] 30)) (d + 1) x (.agg #[.int .i64 x.kind, .int .i64 x.int, .string sb, .slice ka kl kc, .slice va vl vc])) := HX2.out.grew G7
            clear G7 R6 F6 Y6 HX2
            generalize v2.alloc (.cells #[.int .i64 x.kind, .int .i64 x.int, .string sb, .slice ka kl kc, .slice va vl vc] 30) = v3 at R7 F7 Y7 HX7 ⊢
            refine (rlightR_any v3 br t ⟨at3, deep3, 0, bad3, hv3⟩ x.kind x.int sb (.slice ka kl kc) (.slice va vl vc) rfl rfl R7.out).mono ?_
            rintro e' v4 ⟨rfl, h8, f8⟩
            have R8 : Hid (RR v4 br t { (⟨at3, deep3, 0, bad3, hv3⟩ : RSt) with hv := hv3 || decide (x.kind = 0) }) := h8
            have F8 : Hid (Fr (· ≠ br) w v4) := F7.out.trans f8
            have Y8 : Hid (v4.heap[w.heap.size]? = _) := (f8.block w.heap.size (block_lt Y7.out) (by omega)).trans Y7.out
            have HX8 : Hid (Ref (fun k => w.heap.size + 1 ≤ k) v4 (d + 1) x (.agg #[.int .i64 x.kind, .int .i64 x.int, .string sb, .slice ka kl kc, .slice va vl vc])) := HX7.out.fr (f8.mono (fun k hk => by omega)) (fun k _ hk => hk) _ _ _
            have HA2 : Hid (AgreeR t.data.toList (valueP t.data.toList d (pos t.data.toList p hv)) ⟨p, deep, 0, bad, hv⟩ x { (⟨at3, deep3, 0, bad3, hv3⟩ : RSt) with hv := hv3 || decide (x.kind = 0) }) := by rw [heavy_kind x]; exact HAG.out
            clear h8 f8 R7 F7 Y7 HX7 HAG
            have b0 := block_cell Y8.out 0
            have b1 := block_cell Y8.out 1
            have b2 := block_cell Y8.out 2
            have b3 := block_cell Y8.out 3
            have b4 := block_cell Y8.out 4
            have g0 := frozen_block Y8.out 0
            have g1 := frozen_block Y8.out 1
            have g2 := frozen_block Y8.out 2
            have g3 := frozen_block Y8.out 3
            have g4 := frozen_block Y8.out 4
            have z2 := block_lt Y8.out
            obtain ⟨E0, RP0⟩ := HEND.out v4 x _ _ _ _ _ _ Y8.out R8.out F8.out HX8.out HFI.out HA2.out
            have E : Hid (_ = _) := E0
            have RP : Hid (PP _ _) := RP0
            clear E0 RP0
            go_wp2_with fail
            change bodyPost Tryz.prog _ _ _ _ (set5 v4 w.heap.size 0 (.int .i64 x.kind) (.int .i64 x.int) (.string sb) (.slice ka kl kc) (.slice va vl vc))
            clear b0 b1 b2 b3 b4 g0 g1 g2 g3 g4
            generalize set5 v4 w.heap.size 0 (.int .i64 x.kind) (.int .i64 x.int) (.string sb) (.slice ka kl kc) (.slice va vl vc) = WZ at E RP ⊢
            have b0 := block_cell E.out 0
            have b1 := block_cell E.out 1
            have b2 := block_cell E.out 2
            have b3 := block_cell E.out 3
            have b4 := block_cell E.out 4
            exact bodyPost_ret (v := .agg #[.int .i64 x.kind, .int .i64 x.int, .string sb, .slice ka kl kc, .slice va vl vc]) (by simp [results, Tryz.results27, go_sem, b0, b1, b2, b3, b4]) rfl RP.out
          · have hne : ((e3 : Int) == 0) = false := by simp; omega
            have HA : Hid (AgreeR t.data.toList (valueP t.data.toList d (pos t.data.toList p hv)) ⟨p, deep, 0, bad, hv⟩ (mkNil : Node (AV d)) ⟨at3, deep3, e3, bad3, hv3⟩) := HAG1.out he3
            clear HAG1 HAG2 HMK HFI
            have b0 := block_cell Y5.out 0
            have b1 := block_cell Y5.out 1
            have b2 := block_cell Y5.out 2
            have b3 := block_cell Y5.out 3
            have b4 := block_cell Y5.out 4
            have g0 := frozen_block Y5.out 0
            have g1 := frozen_block Y5.out 1
            have g2 := frozen_block Y5.out 2
            have g3 := frozen_block Y5.out 3
            have g4 := frozen_block Y5.out 4
            have z2 := block_lt Y5.out
            obtain ⟨E0, RP0⟩ := HEND.out v1 _ _ _ _ _ _ _ Y5.out R5.out F5.out (ref_nil _ _ d) (nil_fine d) HA.out
            have E : Hid (_ = _) := E0
            have RP : Hid (PP _ _) := RP0
            clear E0 RP0
            go_wp2_with fail
            change bodyPost Tryz.prog _ _ _ _ (set5 v1 w.heap.size 0 (.int .i64 0) (.int .i64 0) (.string ⟨#[]⟩) (.slice none 0 0) (.slice none 0 0))
            clear b0 b1 b2 b3 b4 g0 g1 g2 g3 g4
            generalize set5 v1 w.heap.size 0 (.int .i64 0) (.int .i64 0) (.string ⟨#[]⟩) (.slice none 0 0) (.slice none 0 0) = WZ at E RP ⊢
            have b0 := block_cell E.out 0
            have b1 := block_cell E.out 1
            have b2 := block_cell E.out 2
            have b3 := block_cell E.out 3
            have b4 := block_cell E.out 4
            exact bodyPost_ret (v := .agg #[.int .i64 0, .int .i64 0, .string ⟨#[]⟩, .slice none 0 0, .slice none 0 0]) (by simp [results, Tryz.results27, go_sem, b0, b1, b2, b3, b4]) rfl RP.out
        | false =>
          have hn := HNO.out _ HB3.out
          rw [hn] at h4
          have R4 : Hid (RR w4 br t ⟨p, deep, 0, bad, hv⟩) := h4
          have HA : Hid (AgreeR t.data.toList _ _ _ _) := HSA.out (by trivial) HB1.out HB2.out HB3.out
          clear h4 hn
          go_wp2_with fail
          refine (HSI.out w4 (by trivial) R4.out).mono ?_
          rintro e' w5 ⟨rfl, h5, f5⟩
          unfold leafV
          have R5 : Hid (RR w5 br t _) := h5
          have F5 : Hid (Fr (· ≠ br) w w5) := F4.out.trans f5
          have Y5 : Hid (w5.heap[w.heap.size]? = _) := (f5.block w.heap.size (block_lt Y4.out) (by omega)).trans Y4.out
          clear h5 f5 F4 Y4 R4 HSI HSA
          have HRF : Hid (Ref (fun k => w.heap.size + 1 ≤ k) w5 (d + 1) (⟨(singleP t.data.toList p).1, (singleP t.data.toList p).2.1, (singleP t.data.toList p).2.2.1, [], []⟩ : Node (AV d)) (.agg #[.int .i64 (singleP t.data.toList p).1, .int .i64 (singleP t.data.toList p).2.1, .string ⟨(singleP t.data.toList p).2.2.1.toArray⟩, .slice none 0 0, .slice none 0 0])) := ref_leaf _ _ d _ _ ⟨(singleP t.data.toList p).2.2.1.toArray⟩
          generalize singleP t.data.toList p = X at HA R5 HRF ⊢
          have b0 := block_cell Y5.out 0
          have b1 := block_cell Y5.out 1
          have b2 := block_cell Y5.out 2
          have b3 := block_cell Y5.out 3
          have b4 := block_cell Y5.out 4
          have g0 := frozen_block Y5.out 0
          have g1 := frozen_block Y5.out 1
          have g2 := frozen_block Y5.out 2
          have g3 := frozen_block Y5.out 3
          have g4 := frozen_block Y5.out 4
          have z2 := block_lt Y5.out
          obtain ⟨E0, RP0⟩ := HEND.out w5 _ _ _ _ _ _ _ Y5.out R5.out F5.out HRF.out (leaf_fine d _ _ _) HA.out
          have E : Hid (_ = _) := E0
          have RP : Hid (PP _ _) := RP0
          clear E0 RP0
          go_wp2_with fail
          change bodyPost Tryz.prog _ _ _ _ (set5 w5 w.heap.size 0 (.int .i64 X.1) (.int .i64 X.2.1) (.string ⟨X.2.2.1.toArray⟩) (.slice none 0 0) (.slice none 0 0))
          clear b0 b1 b2 b3 b4 g0 g1 g2 g3 g4
          generalize set5 w5 w.heap.size 0 (.int .i64 X.1) (.int .i64 X.2.1) (.string ⟨X.2.2.1.toArray⟩) (.slice none 0 0) (.slice none 0 0) = WZ at E RP ⊢
          have b0 := block_cell E.out 0
          have b1 := block_cell E.out 1
          have b2 := block_cell E.out 2
          have b3 := block_cell E.out 3
          have b4 := block_cell E.out 4
          exact bodyPost_ret (v := .agg #[.int .i64 X.1, .int .i64 X.2.1, .string ⟨X.2.2.1.toArray⟩, .slice none 0 0, .slice none 0 0]) (by simp [results, Tryz.results27, go_sem, b0, b1, b2, b3, b4]) rfl RP.out
  · have hne : ((e : Int) == 0) = false := by simp; omega
    have HA : Hid (AgreeR t.data.toList (valueP t.data.toList d (pos t.data.toList p hv)) ⟨p, deep, e, bad, hv⟩ (mkNil : Node (AV d)) ⟨p, deep, e, bad, hv⟩) := ⟨rfl, by rw [hlt]; exact HSK2.out, Nat.le_refl _, fun _ => ⟨rfl, rfl⟩, fun q => absurd q he⟩
    have b0 := block_cell Y1.out 0
    have b1 := block_cell Y1.out 1
    have b2 := block_cell Y1.out 2
    have b3 := block_cell Y1.out 3
    have b4 := block_cell Y1.out 4
    have g0 := frozen_block Y1.out 0
    have g1 := frozen_block Y1.out 1
    have g2 := frozen_block Y1.out 2
    have g3 := frozen_block Y1.out 3
    have g4 := frozen_block Y1.out 4
    have z2 := block_lt Y1.out
    obtain ⟨E0, RP0⟩ := HEND.out w1 _ _ _ _ _ _ _ Y1.out R1.out F1.out (ref_nil _ _ d) (nil_fine d) HA.out
    have E : Hid (_ = _) := E0
    have RP : Hid (PP _ _) := RP0
    clear E0 RP0
    go_wp2_with fail
    change bodyPost Tryz.prog _ _ _ _ (set5 w1 w.heap.size 0 (.int .i64 0) (.int .i64 0) (.string ⟨#[]⟩) (.slice none 0 0) (.slice none 0 0))
    clear b0 b1 b2 b3 b4 g0 g1 g2 g3 g4
    generalize set5 w1 w.heap.size 0 (.int .i64 0) (.int .i64 0) (.string ⟨#[]⟩) (.slice none 0 0) (.slice none 0 0) = WZ at E RP ⊢
    have b0 := block_cell E.out 0
    have b1 := block_cell E.out 1
    have b2 := block_cell E.out 2
    have b3 := block_cell E.out 3
    have b4 := block_cell E.out 4
    exact bodyPost_ret (v := .agg #[.int .i64 0, .int .i64 0, .string ⟨#[]⟩, .slice none 0 0, .slice none 0 0]) (by simp [results, Tryz.results27, go_sem, b0, b1, b2, b3, b4]) rfl RP.out
end Go.Proofs.YtbogejmmkohbkaaGreatDoor.Sx
