/- Lists: one item or more. -/
import Derived.Test.YtbogejmmkohbkaaGreatDoorGP2
namespace Go.Proofs.YtbogejmmkohbkaaGreatDoor.Sx
open Go.RowKit Go.Sort

set_option maxRecDepth 100000 in
set_option maxHeartbeats 2000000 in
theorem list_function1 {β : Type} (Pp : Nat → Prop) (Inv : World → List β → Prop) (br : Nat) (t closing : ByteArray) (op : Nat) (cb : Array Value) (item : St → Except (Nat × Nat) (β × St)) (c0 : UInt8) (cr : List UInt8) (hcl : closing.data.toList = c0 :: cr)
    (hG : GoodI t.data.toList item) (hPb : ∀ k, Pp k → k ≠ br) (hP4 : Pp 4 ∧ Pp 3) (hInv : ∀ w w' l, Inv w l → Fr (· ≠ br) w w' → Inv w' l) (ht : t.size ≤ 4000)
    (hI : ∀ (w : World) (s : St) (acc : List β), Env w br → RdS w br t s op → s.at' ≤ s.en → TokOK s → s.en ≤ t.size → Inv w acc → acc.length ≤ 5000 → Calls Tryz.prog 265 cb w (IPost Pp Inv w br t op acc (item s)))
    (w : World) (s : St) (hE : Env w br) (hr : RdS w br t s op) (ha : s.at' ≤ s.en) (hk : TokOK s) (hen : s.en ≤ t.size) (hi : Inv w []) :
    Calls Tryz.prog 264 #[.pointer (some ⟨br, 0, none⟩), .string closing, .func (.func 265) #[] cb] w (LPost Pp Inv w br t op (listP t.data.toList closing.data.toList item (t.data.toList.length + 1) s)) := by
  have hl : t.data.toList.length = t.size := by simp
  obtain ⟨R, hR⟩ : ∃ R, listP t.data.toList closing.data.toList item (t.data.toList.length + 1) s = R := ⟨_, rfl⟩
  rw [hR]
  have HR : Hid (listP t.data.toList closing.data.toList item (t.data.toList.length + 1) s = R) := hR
  clear hR
  have HI : Hid (∀ (w : World) (s : St) (acc : List β), _) := hI
  have HSK : Hid (∀ (W : World) (s : St) (m : ByteArray), RdS W br t s op → s.at' ≤ s.en → s.en ≤ t.size → _) := fun (W : World) (s : St) (m : ByteArray) h1 h2 h3 => skip_any W br t s op m h1 h2 h3 ht
  have HINV : Hid (∀ w w' l, Inv w l → Fr (· ≠ br) w w' → Inv w' l) := hInv
  have HG : Hid (GoodI t.data.toList item) := hG
  have HPB : Hid (∀ k, Pp k → k ≠ br) := hPb
  have HEf : Hid (∀ w w', Env w br → Fr Pp w w' → Env w' br) := by
    intro w w' h f
    obtain ⟨e1, e2, ⟨ev, e3, e4⟩, e5, ew, e6, e7⟩ := h
    exact ⟨e1, Nat.lt_of_lt_of_le e2 f.size, ⟨ev, (World.cell?_of_block (w := w) (f.block 4 e2 hP4.1)).trans e3, e4⟩, e5, ew, (World.cell?_of_block (w := w) (f.block 3 (by omega) hP4.2)).trans e6, e7⟩
  have HK0 : Hid (TokOK s) := hk
  have H0 : Hid (Env w br ∧ RdS w br t s op ∧ Inv w []) := ⟨hE, hr, hi⟩
  clear hI hInv hG hPb hE hr hi hP4 hk
  have HC : Hid (closing.data.toList = c0 :: cr) := hcl
  clear hcl
  go_enter Tryz.func264, Tryz.ntmps264
  go_wp2_with fail
  go_loopg [] (t.size + 1) (fun f wr => ∃ (s1 : St) (acc : List β), s1.at' ≤ s1.en ∧ s1.en ≤ t.size ∧ acc.length ≤ s1.en ∧ t.size + 1 ≤ f + s1.en ∧ Hid (TokOK s1) ∧ Hid (Env wr br) ∧ Hid (RdS wr br t s1 op) ∧ Hid (Inv wr acc) ∧ Hid (R = pend acc (listP t.data.toList closing.data.toList item f s1)) ∧ Hid (Fr Pp w wr))
  case atStart =>
    refine ⟨s, [], ha, hen, by simp, by omega, HK0, H0.out.1, H0.out.2.1, H0.out.2.2, ?_, Fr.refl _ _⟩
    show _ = _
    rw [← HR.out, hl]
    unfold pend
    cases listP t.data.toList closing.data.toList item (t.size + 1) s <;> rfl
  case round =>
    obtain ⟨s1, acc, ha1, he1, hac, hfu, HK1, HE1, HR1, HI1, HP1, HF1⟩ := hrel
    obtain ⟨f, rfl⟩ : ∃ f, gk = f + 1 := ⟨gk - 1, by omega⟩
    go_wp2_with fail
    refine (HI.out wr s1 acc HE1.out HR1.out ha1 HK1.out he1 HI1.out (by omega)).mono ?_
    intro e w1 hp
    have hgood := HG.out s1
    cases hit : item s1 with
    | error q =>
      rw [hit] at hp
      obtain ⟨c, p⟩ := q
      obtain ⟨er, rfl, hf, rfl, hinv, hst⟩ := hp
      have HQ : Hid (R = .error (c, p)) := by show _ = _; rw [HP1.out]; simp [listP, hit, pend]
      have HFF : Hid (Fr Pp w w1) := HF1.out.trans hf
      have HZ : Hid ((∃ l, Inv w1 l) ∧ ∃ s' : St, s'.at' = p ∧ RdS w1 br t s' op) := ⟨hinv, hst⟩
      clear hit hinv hst hf hgood
      go_wp2_with fail
      go_ret
      rw [HQ.out]
      exact ⟨_, rfl, HFF.out, rfl, HZ.out.1, HZ.out.2⟩
    | ok q =>
      rw [hit] at hp
      obtain ⟨x, s2⟩ := q
      obtain ⟨er, rfl, hf, rfl, hinv, hst⟩ := hp
      obtain ⟨g1, g2, g3⟩ := hgood x s2 (by omega) hit
      have HP2 : Hid (R = pend acc (if isP t.data.toList s2 closing.data.toList then .ok ([x], advP t.data.toList s2) else if isP t.data.toList s2 [44] then pend [x] (listP t.data.toList closing.data.toList item f (advP t.data.toList s2)) else .error (1, s2.at'))) := by
        show _ = _
        rw [HP1.out]
        simp only [listP, hit]
        congr 1
        split
        · rfl
        · split
          · unfold pend; cases listP t.data.toList closing.data.toList item f (advP t.data.toList s2) <;> rfl
          · rfl
      have HFF : Hid (Fr Pp w w1) := HF1.out.trans hf
      have HE2 : Hid (Env w1 br) := HEf.out _ _ HE1.out hf
      have HIN : Hid (Inv w1 (acc ++ [x])) := hinv
      have HST : Hid (RdS w1 br t s2 op) := hst
      have g2' : s2.en ≤ t.size := by omega
      clear hit hinv hst hf hgood HP1 HF1 HE1 HR1 HI1
      have hpos := fun q => isP_pos (T := t.data.toList) (s := s2) (c := c0) (m := cr) q
      have hpos2 := fun q => isP_pos (T := t.data.toList) (s := s2) (c := 44) (m := []) q
      have hadv := fwd_adv t.data.toList s2 g2
      go_wp2_with fail
      refine (HSK.out w1 s2 closing HST.out g1 g2').mono ?_
      rintro e w2 ⟨rfl, hr2, hf2⟩
      have HI2 : Hid (Inv w2 (acc ++ [x])) := HINV.out _ _ _ HIN.out hf2
      have HF2 : Hid (Fr Pp w w2) := HFF.out.trans (hf2.mono HPB.out)
      have HE3 : Hid (Env w2 br) := HE2.out.fr hf2
      clear hf2 HFF HIN HE2 HST
      rw [HC.out] at hr2 HP2 ⊢
      generalize hb1 : isP t.data.toList s2 (c0 :: cr) = b1 at hr2 HP2 hpos ⊢
      clear hb1
      cases b1 with
      | true =>
        have HQ : Hid (R = .ok (acc ++ [x], advP t.data.toList s2)) := by show _ = _; rw [HP2.out]; rfl
        have HR2 : Hid (RdS w2 br t (advP t.data.toList s2) op) := hr2
        clear hr2 HP2 hpos hpos2
        go_wp2_with fail
        go_ret
        rw [HQ.out]
        exact ⟨_, rfl, HF2.out, rfl, HI2.out, HR2.out⟩
      | false =>
        have HR2 : Hid (RdS w2 br t s2 op) := hr2
        clear hr2 hpos
        go_wp2_with fail
        refine (HSK.out w2 s2 ⟨#[44]⟩ HR2.out g1 g2').mono ?_
        rintro e w3 ⟨rfl, hr3, hf3⟩
        have HI3 : Hid (Inv w3 (acc ++ [x])) := HINV.out _ _ _ HI2.out hf3
        have HF3 : Hid (Fr Pp w w3) := HF2.out.trans (hf3.mono HPB.out)
        have HE4 : Hid (Env w3 br) := HE3.out.fr hf3
        clear hf3 HF2 HI2 HE3 HR2
        have e44 : (⟨#[44]⟩ : ByteArray).data.toList = [44] := rfl
        rw [e44] at hr3 ⊢
        clear e44
        generalize hb2 : isP t.data.toList s2 [44] = b2 at hr3 HP2 hpos2 ⊢
        clear hb2
        cases b2 with
        | true =>
          have hlt := hpos2 rfl
          have HQ : Hid (R = pend (acc ++ [x]) (listP t.data.toList (c0 :: cr) item f (advP t.data.toList s2))) := by
            show _ = _
            rw [HP2.out]
            simp only [Bool.false_eq_true, if_false, if_true]
            unfold pend
            cases listP t.data.toList (c0 :: cr) item f (advP t.data.toList s2) with
            | ok q => simp
            | error q => rfl
          have HR3 : Hid (RdS w3 br t (advP t.data.toList s2) op) := hr3
          clear hr3 HP2 hpos2
          obtain ⟨v1, v2, v3⟩ := hadv
          go_wp2_with fail
          go_roundg f
          case measure => omega
          case rel => exact ⟨advP t.data.toList s2, acc ++ [x], v1, by omega, by simp; omega, by omega, tok_adv _ _, HE4, HR3, HI3, by rw [HC.out]; exact HQ, HF3⟩
        | false =>
          have HQ : Hid (R = .error (1, s2.at')) := by show _ = _; rw [HP2.out]; rfl
          have HR3 : Hid (RdS w3 br t s2 op) := hr3
          clear hr3 HP2 hpos2
          go_wp2_with fail
          go_ret
          rw [HQ.out]
          exact ⟨_, rfl, HF3.out, rfl, ⟨_, HI3.out⟩, s2, rfl, HR3.out⟩
end Go.Proofs.YtbogejmmkohbkaaGreatDoor.Sx
