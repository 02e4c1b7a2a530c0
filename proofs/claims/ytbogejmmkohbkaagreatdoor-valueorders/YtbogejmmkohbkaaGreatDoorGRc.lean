/- The reference: its reader, at every level; what it tells of a text. -/
import Derived.Test.YtbogejmmkohbkaaGreatDoorGRb
namespace Go.Proofs.YtbogejmmkohbkaaGreatDoor.Sx
open Go.RowKit Go.Sort

theorem rval_all : ∀ d, d ≤ 24 → RVal d
  | 0, _ => rvalue_walk 0 (rowsOK_zero _ _ _ (.inl rfl) rfl (by decide)) (rowsOK_zero _ _ _ (.inr (.inl rfl)) rfl (by decide)) pairsOK_zero
  | k + 1, h => by
    have V := rval_all k (by omega)
    refine rvalue_walk (k + 1) (rowsOK_succ k V (by omega) _ _ _ (.inl rfl) (.inr (.inl rfl)) (by decide) (by decide) (fun T S q => bracketP_set q)) ?_ (pairsOK_succ k V (by omega))
    refine rowsOK_succ k V (by omega) _ _ _ ?_ ?_ (by decide) (by decide) (fun T S q => bracketP_seq q)
    · exact .inr (.inr (.inr (.inr (.inr (.inr (.inl rfl))))))
    · exact .inr (.inr (.inr (.inr (.inr (.inr (.inr rfl))))))

theorem digits_cls (l : List UInt8) : (digitsT l).1 = 2 ∨ (digitsT l).1 = 5 := by
  unfold digitsT
  repeat' split
  · exact .inr rfl
  · exact .inl rfl
  · exact .inr rfl
theorem tok_some (l : List UInt8) (h : l.length ≠ 0) : (tokT l).1 ≠ 0 := by
  unfold tokT
  rw [if_neg h]
  split
  · exact Nat.one_ne_zero
  · split
    · rcases digits_cls l with q | q <;> rw [q] <;> decide
    · split
      · unfold negT
        split
        · decide
        · rcases digits_cls (l.drop 1) with q | q
          · show (digitsT (l.drop 1)).1 ≠ 0; rw [q]; decide
          · show (digitsT (l.drop 1)).1 ≠ 0; rw [q]; decide
      · split
        · rcases qScan_cls (l.drop 1) 1 with q | q <;> rw [q] <;> decide
        · unfold signT
          repeat' split
          all_goals decide

/-- what stands behind a value tells what a text is -/
theorem read_ends {T : List UInt8} {x : AV 25} {s' : RSt} (ht : T.length ≤ 4000) (h : AgreeR T (valueP T 24 (pos T 0 false)) ⟨0, 0, 0, 0, false⟩ x s') :
    (s'.e ≠ 0 → readP T = .error (s'.e, s'.bad)) ∧ (s'.e = 0 → skipN T s'.at' < T.length → readP T = .error (1, skipN T s'.at')) ∧
    (s'.e = 0 → skipN T s'.at' = T.length → s'.hv = true → readP T = .error (6, 0)) ∧ (s'.e = 0 → skipN T s'.at' = T.length → s'.hv = false → readP T = .ok x) := by
  obtain ⟨a1, a2, a3, a4, a5⟩ := h
  have hr : readP T = match valueP T 24 (pos T 0 false) with
    | .error e => .error e
    | .ok (v, s) => if s.cl ≠ 0 then .error (1, s.at') else if s.hv then .error (6, 0) else .ok v := by
    unfold readP
    rw [if_neg (by omega)]
    rfl
  rcases a5 rfl with ⟨c1, c2⟩ | ⟨c1, c2⟩
  · rw [c2] at hr
    have hcl : (pos T s'.at' s'.hv).cl = (tokT (T.drop (skipN T s'.at'))).1 := rfl
    have hat : (pos T s'.at' s'.hv).at' = skipN T s'.at' := rfl
    have hhv : (pos T s'.at' s'.hv).hv = s'.hv := rfl
    have hr2 : readP T = if (pos T s'.at' s'.hv).cl ≠ 0 then .error (1, (pos T s'.at' s'.hv).at') else if (pos T s'.at' s'.hv).hv then .error (6, 0) else .ok x := hr
    refine ⟨fun q => absurd c1 q, fun _ q => ?_, fun _ q q2 => ?_, fun _ q q2 => ?_⟩
    · rw [hr2, if_pos (by rw [hcl]; exact tok_some _ (by rw [List.length_drop]; omega)), hat]
    · have e0 : T.drop (skipN T s'.at') = [] := List.drop_eq_nil_of_le (by omega)
      rw [hr2, if_neg (by rw [hcl, e0, tok_end]; simp), if_pos (by rw [hhv]; exact q2)]
    · have e0 : T.drop (skipN T s'.at') = [] := List.drop_eq_nil_of_le (by omega)
      rw [hr2, if_neg (by rw [hcl, e0, tok_end]; simp), if_neg (by rw [hhv, q2]; simp)]
  · rw [c2] at hr
    exact ⟨fun _ => hr, fun q => absurd q c1, fun q => absurd q c1, fun q => absurd q c1⟩

/-- what the reference tells of a text -/
def RSaid (w : World) (R : Except (Nat × Nat) (AV 25)) (e : Ending) (w' : World) : Prop :=
  ∃ (v : Value) (x : AV 25) (bad c : Nat), e = .returned (.tuple #[v, .int .i64 (bad : Int), .int .i64 (c : Int)]) ∧ Fr (fun _ => True) w w' ∧ Ref (fun k => w.heap.size ≤ k) w' 25 x v ∧ ((R = .ok x ∧ c = 0 ∧ bad = 0) ∨ (R = .error (c, bad) ∧ c ≠ 0 ∧ x = (mkNil : Node (AV 24))))
theorem said_end {w W : World} {v0 v1 v2 v3 v4 c0 c1 c2 c3 c4 : Value} {x : AV 25} {R : Except (Nat × Nat) (AV 25)} {bad c : Nat} (x2 : W.heap[w.heap.size]? = some (.cells #[v0, v1, v2, v3, v4] 30 (0, 0))) (F : Fr (fun _ => True) w W) (RF : Ref (fun k => w.heap.size + 1 ≤ k) W 25 x (.agg #[c0, c1, c2, c3, c4])) (hR : (R = .ok x ∧ c = 0 ∧ bad = 0) ∨ (R = .error (c, bad) ∧ c ≠ 0 ∧ x = (mkNil : Node (AV 24)))) :
    (set5 W w.heap.size 0 c0 c1 c2 c3 c4).heap[w.heap.size]? = some (.cells #[c0, c1, c2, c3, c4] 30 (0, 0)) ∧ RSaid w R (.returned (.tuple #[.agg #[c0, c1, c2, c3, c4], .int .i64 (bad : Int), .int .i64 (c : Int)])) (set5 W w.heap.size 0 c0 c1 c2 c3 c4) := by
  refine ⟨set5_block x2 c0 c1 c2 c3 c4, _, x, bad, c, rfl, fr_box F (Nat.le_refl _) 0 c0 c1 c2 c3 c4, ?_, hR⟩
  exact RF.fr (set5_fr (Fr.refl _ W) (by omega) _ _ _ _ _ _) (fun k _ hk => by omega) _ _ _
end Go.Proofs.YtbogejmmkohbkaaGreatDoor.Sx

namespace Go.Proofs.YtbogejmmkohbkaaGreatDoor.Sx
open Go.RowKit Go.Sort

set_option maxRecDepth 100000 in
set_option maxHeartbeats 4000000 in
theorem rread_long (w : World) (t : ByteArray) (ht : 4000 < t.size) (hs : t.size ≤ 9223372036854775806) : Calls Tryz.prog 10 #[.string t] w (RSaid w (readP t.data.toList)) := by
  have hlt : t.data.toList.length = t.size := by simp
  have HR : Hid (readP t.data.toList = .error (6, 0)) := by show _ = _; unfold readP; rw [if_pos (by omega)]
  rw [HR.out]
  clear hlt
  have x2 : Hid ((w.alloc (.cells #[.int .i64 0, .int .i64 0, .string ⟨#[]⟩, .slice none 0 0, .slice none 0 0] 30)).heap[w.heap.size]? = some (.cells #[.int .i64 0, .int .i64 0, .string ⟨#[]⟩, .slice none 0 0, .slice none 0 0] 30 (0, 0))) := heap_new rfl
  have G0 : Hid (Grew w (w.alloc (.cells #[.int .i64 0, .int .i64 0, .string ⟨#[]⟩, .slice none 0 0, .slice none 0 0] 30))) := (Grew.refl w).alloc _
  go_enter Tryz.func10, Tryz.ntmps10
  go_wp2_with fail
  generalize w.alloc (.cells #[.int .i64 0, .int .i64 0, .string ⟨#[]⟩, .slice none 0 0, .slice none 0 0] 30) = W0 at x2 G0 ⊢
  have b0 := block_cell x2.out 0
  have b1 := block_cell x2.out 1
  have b2 := block_cell x2.out 2
  have b3 := block_cell x2.out 3
  have b4 := block_cell x2.out 4
  exact bodyPost_ret (v := .tuple #[nilV5, .int .i64 0, .int .i64 6]) (by simp [results, Tryz.results10, go_sem, b0, b1, b2, b3, b4, nilV5]) rfl ⟨nilV5, (mkNil : Node (AV 24)), 0, 6, rfl, Fr.grew G0.out, ref_nil _ _ 24, .inr ⟨rfl, by decide, rfl⟩⟩

set_option maxRecDepth 100000 in
set_option maxHeartbeats 8000000 in
theorem rread_short (w : World) (t : ByteArray) (ht : t.size ≤ 4000) : Calls Tryz.prog 10 #[.string t] w (RSaid w (readP t.data.toList)) := by
  have hlt : t.data.toList.length = t.size := by simp
  obtain ⟨PP, hP⟩ : ∃ PP, RSaid w (readP t.data.toList) = PP := ⟨_, rfl⟩
  have HEND : Hid (∀ (W : World) (x : AV 25) (c0 c1 c2 c3 c4 : Value) (bad c : Nat), W.heap[w.heap.size]? = some (.cells #[.int .i64 0, .int .i64 0, .string ⟨#[]⟩, .slice none 0 0, .slice none 0 0] 30 (0, 0)) → Fr (· ≠ w.heap.size + 1) w W → Ref (fun k => w.heap.size + 2 ≤ k) W 25 x (.agg #[c0, c1, c2, c3, c4]) →
      ((readP t.data.toList = .ok x ∧ c = 0 ∧ bad = 0) ∨ (readP t.data.toList = .error (c, bad) ∧ c ≠ 0 ∧ x = (mkNil : Node (AV 24)))) →
      (set5 W w.heap.size 0 c0 c1 c2 c3 c4).heap[w.heap.size]? = some (.cells #[c0, c1, c2, c3, c4] 30 (0, 0)) ∧ PP (.returned (.tuple #[.agg #[c0, c1, c2, c3, c4], .int .i64 (bad : Int), .int .i64 (c : Int)])) (set5 W w.heap.size 0 c0 c1 c2 c3 c4) ∧ PP (.returned (.tuple #[.agg #[c0, c1, c2, c3, c4], .int .i64 (bad : Int), .int .i64 (c : Int)])) (set5 W w.heap.size 0 c0 c1 c2 c3 c4).drew) := by
    intro W x c0 c1 c2 c3 c4 bad c q1 q2 q3 q4
    rw [← hP]
    have Z := said_end q1 (c := c) (bad := bad) ⟨q2.os, q2.tape, q2.output, q2.size, fun i hi _ => q2.block i hi (by omega)⟩ (q3.fr (Fr.refl _ W) (fun k _ hk => by omega) _ _ _) q4
    refine ⟨Z.1, Z.2, ?_⟩
    obtain ⟨v, y, bd, cc, e, F, RF, hR⟩ := Z.2
    exact ⟨v, y, bd, cc, e, F.drew, RF.grew ((Grew.refl _).drew), hR⟩
  rw [hP]
  clear hP
  have G0 : Hid (Grew w ((w.alloc (.cells #[.int .i64 0, .int .i64 0, .string ⟨#[]⟩, .slice none 0 0, .slice none 0 0] 30)).alloc (.cells #[.string t, .int .i64 0, .int .i64 0, .int .i64 0, .int .i64 0, .bool false] 69))) := ((Grew.refl w).alloc _).alloc _
  have x2 : Hid (((w.alloc (.cells #[.int .i64 0, .int .i64 0, .string ⟨#[]⟩, .slice none 0 0, .slice none 0 0] 30)).alloc (.cells #[.string t, .int .i64 0, .int .i64 0, .int .i64 0, .int .i64 0, .bool false] 69)).heap[w.heap.size]? = some (.cells #[.int .i64 0, .int .i64 0, .string ⟨#[]⟩, .slice none 0 0, .slice none 0 0] 30 (0, 0))) := Below.blockAt ((Grew.refl _).alloc _).below (heap_new rfl)
  have R0 : Hid (RR ((w.alloc (.cells #[.int .i64 0, .int .i64 0, .string ⟨#[]⟩, .slice none 0 0, .slice none 0 0] 30)).alloc (.cells #[.string t, .int .i64 0, .int .i64 0, .int .i64 0, .int .i64 0, .bool false] 69)) (w.heap.size + 1) t ⟨0, 0, 0, 0, false⟩) := by
    have q : ((w.alloc (.cells #[.int .i64 0, .int .i64 0, .string ⟨#[]⟩, .slice none 0 0, .slice none 0 0] 30)).alloc (.cells #[.string t, .int .i64 0, .int .i64 0, .int .i64 0, .int .i64 0, .bool false] 69)).heap[w.heap.size + 1]? = some (.cells #[.string t, .int .i64 0, .int .i64 0, .int .i64 0, .int .i64 0, .bool false] 69 (0, 0)) := heap_new (by simp)
    exact q
  have hz0 : ((w.alloc (.cells #[.int .i64 0, .int .i64 0, .string ⟨#[]⟩, .slice none 0 0, .slice none 0 0] 30)).alloc (.cells #[.string t, .int .i64 0, .int .i64 0, .int .i64 0, .int .i64 0, .bool false] 69)).heap.size = w.heap.size + 2 := by simp
  go_enter Tryz.func10, Tryz.ntmps10
  go_wp2_with fail
  generalize ((w.alloc (.cells #[.int .i64 0, .int .i64 0, .string ⟨#[]⟩, .slice none 0 0, .slice none 0 0] 30)).alloc (.cells #[.string t, .int .i64 0, .int .i64 0, .int .i64 0, .int .i64 0, .bool false] 69)) = W0 at G0 x2 R0 hz0 ⊢
  refine (rval_all 24 (by omega) W0 (w.heap.size + 1) t ⟨0, 0, 0, 0, false⟩ R0.out rfl (Nat.zero_le _) ht).mono ?_
  rintro e' w1 ⟨v, x, s1, rfl, f1, hx, hw, h1, hag⟩
  have HRE : Hid (_ ∧ _ ∧ _ ∧ _) := read_ends (by rw [hlt]; exact ht) hag
  have ha1 : s1.at' ≤ t.size := by rw [← hlt]; exact hag.2.1
  have HX : Ref (fun k => w.heap.size + 2 ≤ k) w1 25 x v := hx.fr (Fr.refl _ w1) (fun k _ hk => by omega) _ _ _
  obtain ⟨sb, ka, kl, kc, va, vl, vc, rfl, htx, hk, hvl⟩ := id HX
  have Y1 : Hid (w1.heap[w.heap.size]? = some (.cells #[.int .i64 0, .int .i64 0, .string ⟨#[]⟩, .slice none 0 0, .slice none 0 0] 30 (0, 0))) := (f1.block w.heap.size (block_lt x2.out) (by omega)).trans x2.out
  have F1 : Hid (Fr (· ≠ w.heap.size + 1) w w1) := (Fr.grew G0.out).trans f1
  have HX1 : Hid (Ref _ w1 25 x _) := HX
  have R1 : Hid (RR w1 (w.heap.size + 1) t s1) := h1
  clear HX hx hw f1 h1 hag htx hk hvl G0 x2 R0 hz0
  go_wp2_with fail
  have G2 : Grew w1 (w1.alloc (.cells #[.int .i64 x.kind, .int .i64 x.int, .string sb, .slice ka kl kc, .slice va vl vc] 30)) := (Grew.refl w1).alloc _
  have Y2 : Hid ((w1.alloc (.cells #[.int .i64 x.kind, .int .i64 x.int, .string sb, .slice ka kl kc, .slice va vl vc] 30)).heap[w.heap.size]? = _) := Below.blockAt G2.below Y1.out
  have F2 : Hid (Fr (· ≠ w.heap.size + 1) w (w1.alloc (.cells #[.int .i64 x.kind, .int .i64 x.int, .string sb, .slice ka kl kc, .slice va vl vc] 30))) := F1.out.trans (Fr.grew G2)
  have HX2 : Hid (Ref (fun k => w.heap.size + 2 ≤ k) (w1.alloc (.cells #[.int .i64 x.kind, .int .i64 x.int, .string sb, .slice ka kl kc, .slice va vl vc] 30)) 25 x (.agg #[.int .i64 x.kind, .int .i64 x.int, .string sb, .slice ka kl kc, .slice va vl vc])) := HX1.out.grew G2
  have R2 : Hid (RR (w1.alloc (.cells #[.int .i64 x.kind, .int .i64 x.int, .string sb, .slice ka kl kc, .slice va vl vc] 30)) (w.heap.size + 1) t s1) := R1.out.fr (G2.below.block _ (block_lt R1.out))
  have V2 : Hid ((w1.alloc (.cells #[.int .i64 x.kind, .int .i64 x.int, .string sb, .slice ka kl kc, .slice va vl vc] 30)).heap[w1.heap.size]? = some (.cells #[.int .i64 x.kind, .int .i64 x.int, .string sb, .slice ka kl kc, .slice va vl vc] 30 (0, 0))) := heap_new rfl
  have zv : w.heap.size + 1 < w1.heap.size := block_lt R1.out
  clear G2 Y1 F1 HX1 R1
  generalize w1.alloc (.cells #[.int .i64 x.kind, .int .i64 x.int, .string sb, .slice ka kl kc, .slice va vl vc] 30) = w2 at Y2 F2 HX2 R2 V2 ⊢
  obtain ⟨a1, dp, e1, bd, hv1⟩ := s1
  refine (rskip_any w2 (w.heap.size + 1) t ⟨a1, dp, e1, bd, hv1⟩ R2.out ha1 ht).mono ?_
  rintro e' w3 ⟨rfl, h3, f3⟩
  have sk := skipN_le (T := t.data.toList) (p := a1) (by rw [hlt]; exact ha1)
  rw [hlt] at sk
  have R3 : Hid (RR w3 (w.heap.size + 1) t ⟨skipN t.data.toList a1, dp, e1, bd, hv1⟩) := h3
  have Y3 : Hid (w3.heap[w.heap.size]? = _) := (f3.block w.heap.size (block_lt Y2.out) (by omega)).trans Y2.out
  have V3 : Hid (w3.heap[w1.heap.size]? = _) := (f3.block w1.heap.size (block_lt V2.out) (by omega)).trans V2.out
  have F3 : Hid (Fr (· ≠ w.heap.size + 1) w w3) := F2.out.trans f3
  have HX3 : Hid (Ref (fun k => w.heap.size + 2 ≤ k) w3 25 x (.agg #[.int .i64 x.kind, .int .i64 x.int, .string sb, .slice ka kl kc, .slice va vl vc])) := HX2.out.fr (f3.mono (fun k hk => by omega)) (fun k _ hk => hk) _ _ _
  clear h3 f3 Y2 V2 F2 HX2 R2
  simp only at HRE
  rw [hlt] at HRE
  generalize skipN t.data.toList a1 = q at HRE R3 sk
  have c1 := block_cell R3.out 1
  have c3 := block_cell R3.out 3
  have c4 := block_cell R3.out 4
  have c5 := block_cell R3.out 5
  have hb3 := block_lt R3.out
  by_cases he : e1 = 0
  · subst he
    by_cases hq : q < t.size
    · have hq2 : (q : Int) < (t.size : Int) := by omega
      have HR : Hid (readP t.data.toList = .error (1, q)) := HRE.out.2.1 rfl hq
      clear HRE
      go_wp2_with fail
      refine (rfail_any w3 (w.heap.size + 1) t ⟨q, dp, 0, bd, hv1⟩ 1 q R3.out).mono ?_
      rintro e' w4 ⟨rfl, h4, f4⟩
      have R4 : Hid (RR w4 (w.heap.size + 1) t ⟨q, dp, 1, q, hv1⟩) := h4
      have Y4 : Hid (w4.heap[w.heap.size]? = _) := (f4.block w.heap.size (block_lt Y3.out) (by omega)).trans Y3.out
      have F4 : Hid (Fr (· ≠ w.heap.size + 1) w w4) := F3.out.trans f4
      clear h4 f4 R3 Y3 V3 F3 HX3 c1 c3 c4 c5 hb3
      have c3 := block_cell R4.out 3
      have c4 := block_cell R4.out 4
      have c5 := block_cell R4.out 5
      have hb3 := block_lt R4.out
      have b0 := block_cell Y4.out 0
      have b1 := block_cell Y4.out 1
      have b2 := block_cell Y4.out 2
      have b3 := block_cell Y4.out 3
      have b4 := block_cell Y4.out 4
      have g0 := frozen_block Y4.out 0
      have g1 := frozen_block Y4.out 1
      have g2 := frozen_block Y4.out 2
      have g3 := frozen_block Y4.out 3
      have g4 := frozen_block Y4.out 4
      have z2 := block_lt Y4.out
      obtain ⟨E0, RP0, RD0⟩ := HEND.out w4 _ _ _ _ _ _ q 1 Y4.out F4.out (ref_nil _ _ 24) (.inr ⟨HR.out, by decide, rfl⟩)
      have E : Hid (_ = _) := E0
      have RP : Hid (PP _ _) := RP0
      have RD : Hid (PP _ _) := RD0
      clear E0 RP0 RD0
      have d0 : w4.drew.cell? ⟨w.heap.size, 0, none⟩ = some _ := b0
      have h0 : w4.drew.frozen? ⟨w.heap.size, 0, none⟩ = _ := g0
      have d1 : w4.drew.cell? ⟨w.heap.size, 1, none⟩ = some _ := b1
      have h1 : w4.drew.frozen? ⟨w.heap.size, 1, none⟩ = _ := g1
      have d2 : w4.drew.cell? ⟨w.heap.size, 2, none⟩ = some _ := b2
      have h2 : w4.drew.frozen? ⟨w.heap.size, 2, none⟩ = _ := g2
      have d3 : w4.drew.cell? ⟨w.heap.size, 3, none⟩ = some _ := b3
      have h3 : w4.drew.frozen? ⟨w.heap.size, 3, none⟩ = _ := g3
      have d4 : w4.drew.cell? ⟨w.heap.size, 4, none⟩ = some _ := b4
      have h4 : w4.drew.frozen? ⟨w.heap.size, 4, none⟩ = _ := g4
      have e3 : w4.drew.cell? ⟨w.heap.size + 1, 3, none⟩ = some _ := c3
      have e4 : w4.drew.cell? ⟨w.heap.size + 1, 4, none⟩ = some _ := c4
      have mo := follows
      go_wp2_with fail
      go_big_region_o
      change Exit.then _ _ _ _ (set5 w4 w.heap.size 0 (.int .i64 0) (.int .i64 0) (.string ⟨#[]⟩) (.slice none 0 0) (.slice none 0 0)).drew
      clear b0 b1 b2 b3 b4 g0 g1 g2 g3 g4 d0 d1 d2 d3 d4 h0 h1 h2 h3 h4 e3 e4 c3 c4 c5
      have E2 : Hid ((set5 w4 w.heap.size 0 (.int .i64 0) (.int .i64 0) (.string ⟨#[]⟩) (.slice none 0 0) (.slice none 0 0)).drew.heap[w.heap.size]? = _) := E.out
      generalize (set5 w4 w.heap.size 0 (.int .i64 0) (.int .i64 0) (.string ⟨#[]⟩) (.slice none 0 0) (.slice none 0 0)).drew = WZ at E2 RD ⊢
      go_wp2_with fail
      have b0 := block_cell E2.out 0
      have b1 := block_cell E2.out 1
      have b2 := block_cell E2.out 2
      have b3 := block_cell E2.out 3
      have b4 := block_cell E2.out 4
      exact bodyPost_ret (v := .tuple #[.agg #[.int .i64 0, .int .i64 0, .string ⟨#[]⟩, .slice none 0 0, .slice none 0 0], .int .i64 (q : Int), .int .i64 1]) (by simp [results, Tryz.results10, go_sem, b0, b1, b2, b3, b4]) rfl RD.out
    · have hq1 : q = t.size := by omega
      have hq2 : ¬ (q : Int) < (t.size : Int) := by omega
      cases hv1 with
      | true =>
        have HR : Hid (readP t.data.toList = .error (6, 0)) := HRE.out.2.2.1 rfl hq1 rfl
        clear HRE hq1
        go_wp2_with fail
        refine (rfail_any w3 (w.heap.size + 1) t ⟨q, dp, 0, bd, true⟩ 6 0 R3.out).mono ?_
        rintro e' w4 ⟨rfl, h4, f4⟩
        have R4 : Hid (RR w4 (w.heap.size + 1) t ⟨q, dp, 6, 0, true⟩) := h4
        have Y4 : Hid (w4.heap[w.heap.size]? = _) := (f4.block w.heap.size (block_lt Y3.out) (by omega)).trans Y3.out
        have F4 : Hid (Fr (· ≠ w.heap.size + 1) w w4) := F3.out.trans f4
        clear h4 f4 R3 Y3 V3 F3 HX3 c1 c3 c4 c5 hb3
        have c3 := block_cell R4.out 3
        have c4 := block_cell R4.out 4
        have c5 := block_cell R4.out 5
        have hb3 := block_lt R4.out
        have b0 := block_cell Y4.out 0
        have b1 := block_cell Y4.out 1
        have b2 := block_cell Y4.out 2
        have b3 := block_cell Y4.out 3
        have b4 := block_cell Y4.out 4
        have g0 := frozen_block Y4.out 0
        have g1 := frozen_block Y4.out 1
        have g2 := frozen_block Y4.out 2
        have g3 := frozen_block Y4.out 3
        have g4 := frozen_block Y4.out 4
        have z2 := block_lt Y4.out
        obtain ⟨E0, RP0, RD0⟩ := HEND.out w4 _ _ _ _ _ _ 0 6 Y4.out F4.out (ref_nil _ _ 24) (.inr ⟨HR.out, by decide, rfl⟩)
        have E : Hid (_ = _) := E0
        have RP : Hid (PP _ _) := RP0
        have RD : Hid (PP _ _) := RD0
        clear E0 RP0 RD0
        have d0 : w4.drew.cell? ⟨w.heap.size, 0, none⟩ = some _ := b0
        have h0 : w4.drew.frozen? ⟨w.heap.size, 0, none⟩ = _ := g0
        have d1 : w4.drew.cell? ⟨w.heap.size, 1, none⟩ = some _ := b1
        have h1 : w4.drew.frozen? ⟨w.heap.size, 1, none⟩ = _ := g1
        have d2 : w4.drew.cell? ⟨w.heap.size, 2, none⟩ = some _ := b2
        have h2 : w4.drew.frozen? ⟨w.heap.size, 2, none⟩ = _ := g2
        have d3 : w4.drew.cell? ⟨w.heap.size, 3, none⟩ = some _ := b3
        have h3 : w4.drew.frozen? ⟨w.heap.size, 3, none⟩ = _ := g3
        have d4 : w4.drew.cell? ⟨w.heap.size, 4, none⟩ = some _ := b4
        have h4 : w4.drew.frozen? ⟨w.heap.size, 4, none⟩ = _ := g4
        have e3 : w4.drew.cell? ⟨w.heap.size + 1, 3, none⟩ = some _ := c3
        have e4 : w4.drew.cell? ⟨w.heap.size + 1, 4, none⟩ = some _ := c4
        have mo := follows
        go_wp2_with fail
        go_big_region_o
        change Exit.then _ _ _ _ (set5 w4 w.heap.size 0 (.int .i64 0) (.int .i64 0) (.string ⟨#[]⟩) (.slice none 0 0) (.slice none 0 0)).drew
        clear b0 b1 b2 b3 b4 g0 g1 g2 g3 g4 d0 d1 d2 d3 d4 h0 h1 h2 h3 h4 e3 e4 c3 c4 c5
        have E2 : Hid ((set5 w4 w.heap.size 0 (.int .i64 0) (.int .i64 0) (.string ⟨#[]⟩) (.slice none 0 0) (.slice none 0 0)).drew.heap[w.heap.size]? = _) := E.out
        generalize (set5 w4 w.heap.size 0 (.int .i64 0) (.int .i64 0) (.string ⟨#[]⟩) (.slice none 0 0) (.slice none 0 0)).drew = WZ at E2 RD ⊢
        go_wp2_with fail
        have b0 := block_cell E2.out 0
        have b1 := block_cell E2.out 1
        have b2 := block_cell E2.out 2
        have b3 := block_cell E2.out 3
        have b4 := block_cell E2.out 4
        exact bodyPost_ret (v := .tuple #[.agg #[.int .i64 0, .int .i64 0, .string ⟨#[]⟩, .slice none 0 0, .slice none 0 0], .int .i64 0, .int .i64 6]) (by simp [results, Tryz.results10, go_sem, b0, b1, b2, b3, b4]) rfl RD.out
      | false =>
        have HR : Hid (readP t.data.toList = .ok x) := HRE.out.2.2.2 rfl hq1 rfl
        clear HRE hq1
        have v0 := block_cell V3.out 0
        have v1 := block_cell V3.out 1
        have v2 := block_cell V3.out 2
        have v3 := block_cell V3.out 3
        have v4 := block_cell V3.out 4
        have hvl := block_lt V3.out
        have b0 := block_cell Y3.out 0
        have b1 := block_cell Y3.out 1
        have b2 := block_cell Y3.out 2
        have b3 := block_cell Y3.out 3
        have b4 := block_cell Y3.out 4
        have g0 := frozen_block Y3.out 0
        have g1 := frozen_block Y3.out 1
        have g2 := frozen_block Y3.out 2
        have g3 := frozen_block Y3.out 3
        have g4 := frozen_block Y3.out 4
        have z2 := block_lt Y3.out
        obtain ⟨E0, RP0, RD0⟩ := HEND.out w3 x _ _ _ _ _ 0 0 Y3.out F3.out HX3.out (.inl ⟨HR.out, rfl, rfl⟩)
        have E : Hid (_ = _) := E0
        have RP : Hid (PP _ _) := RP0
        have RD : Hid (PP _ _) := RD0
        clear E0 RP0 RD0
        go_wp2_with fail
        change bodyPost Tryz.prog _ _ _ _ (set5 w3 w.heap.size 0 (.int .i64 x.kind) (.int .i64 x.int) (.string sb) (.slice ka kl kc) (.slice va vl vc))
        clear b0 b1 b2 b3 b4 g0 g1 g2 g3 g4
        generalize set5 w3 w.heap.size 0 (.int .i64 x.kind) (.int .i64 x.int) (.string sb) (.slice ka kl kc) (.slice va vl vc) = WZ at E RP ⊢
        have b0 := block_cell E.out 0
        have b1 := block_cell E.out 1
        have b2 := block_cell E.out 2
        have b3 := block_cell E.out 3
        have b4 := block_cell E.out 4
        exact bodyPost_ret (v := .tuple #[.agg #[.int .i64 x.kind, .int .i64 x.int, .string sb, .slice ka kl kc, .slice va vl vc], .int .i64 0, .int .i64 0]) (by simp [results, Tryz.results10, go_sem, b0, b1, b2, b3, b4]) rfl RP.out
  · have hne : ((e1 : Int) == 0) = false := by simp; omega
    have HR : Hid (readP t.data.toList = .error (e1, bd)) := HRE.out.1 he
    clear HRE
    have b0 := block_cell Y3.out 0
    have b1 := block_cell Y3.out 1
    have b2 := block_cell Y3.out 2
    have b3 := block_cell Y3.out 3
    have b4 := block_cell Y3.out 4
    have g0 := frozen_block Y3.out 0
    have g1 := frozen_block Y3.out 1
    have g2 := frozen_block Y3.out 2
    have g3 := frozen_block Y3.out 3
    have g4 := frozen_block Y3.out 4
    have z2 := block_lt Y3.out
    obtain ⟨E0, RP0, RD0⟩ := HEND.out w3 _ _ _ _ _ _ bd e1 Y3.out F3.out (ref_nil _ _ 24) (.inr ⟨HR.out, he, rfl⟩)
    have E : Hid (_ = _) := E0
    have RP : Hid (PP _ _) := RP0
    have RD : Hid (PP _ _) := RD0
    clear E0 RP0 RD0
    have d0 : w3.drew.cell? ⟨w.heap.size, 0, none⟩ = some _ := b0
    have h0 : w3.drew.frozen? ⟨w.heap.size, 0, none⟩ = _ := g0
    have d1 : w3.drew.cell? ⟨w.heap.size, 1, none⟩ = some _ := b1
    have h1 : w3.drew.frozen? ⟨w.heap.size, 1, none⟩ = _ := g1
    have d2 : w3.drew.cell? ⟨w.heap.size, 2, none⟩ = some _ := b2
    have h2 : w3.drew.frozen? ⟨w.heap.size, 2, none⟩ = _ := g2
    have d3 : w3.drew.cell? ⟨w.heap.size, 3, none⟩ = some _ := b3
    have h3 : w3.drew.frozen? ⟨w.heap.size, 3, none⟩ = _ := g3
    have d4 : w3.drew.cell? ⟨w.heap.size, 4, none⟩ = some _ := b4
    have h4 : w3.drew.frozen? ⟨w.heap.size, 4, none⟩ = _ := g4
    have e3 : w3.drew.cell? ⟨w.heap.size + 1, 3, none⟩ = some _ := c3
    have e4 : w3.drew.cell? ⟨w.heap.size + 1, 4, none⟩ = some _ := c4
    have mo := follows
    go_wp2_with fail
    go_big_region_o
    change Exit.then _ _ _ _ (set5 w3 w.heap.size 0 (.int .i64 0) (.int .i64 0) (.string ⟨#[]⟩) (.slice none 0 0) (.slice none 0 0)).drew
    clear b0 b1 b2 b3 b4 g0 g1 g2 g3 g4 d0 d1 d2 d3 d4 h0 h1 h2 h3 h4 e3 e4 c3 c4 c5
    have E2 : Hid ((set5 w3 w.heap.size 0 (.int .i64 0) (.int .i64 0) (.string ⟨#[]⟩) (.slice none 0 0) (.slice none 0 0)).drew.heap[w.heap.size]? = _) := E.out
    generalize (set5 w3 w.heap.size 0 (.int .i64 0) (.int .i64 0) (.string ⟨#[]⟩) (.slice none 0 0) (.slice none 0 0)).drew = WZ at E2 RD ⊢
    go_wp2_with fail
    have b0 := block_cell E2.out 0
    have b1 := block_cell E2.out 1
    have b2 := block_cell E2.out 2
    have b3 := block_cell E2.out 3
    have b4 := block_cell E2.out 4
    exact bodyPost_ret (v := .tuple #[.agg #[.int .i64 0, .int .i64 0, .string ⟨#[]⟩, .slice none 0 0, .slice none 0 0], .int .i64 (bd : Int), .int .i64 (e1 : Int)]) (by simp [results, Tryz.results10, go_sem, b0, b1, b2, b3, b4]) rfl RD.out

theorem rread_any (w : World) (t : ByteArray) (hs : t.size ≤ 9223372036854775806) : Calls Tryz.prog 10 #[.string t] w (RSaid w (readP t.data.toList)) := by
  by_cases h : t.size ≤ 4000
  · exact rread_short w t h
  · exact rread_long w t (by omega) hs
end Go.Proofs.YtbogejmmkohbkaaGreatDoor.Sx
