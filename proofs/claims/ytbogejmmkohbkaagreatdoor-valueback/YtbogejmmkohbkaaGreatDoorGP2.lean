/- Lists: one item or more. -/
import Derived.Test.YtbogejmmkohbkaaGreatDoorGP1
import Derived.Test.YtbogejmmkohbkaaGreatDoorGC1
namespace Go.Proofs.YtbogejmmkohbkaaGreatDoor.Sx
open Go.RowKit Go.Sort

/-- what came before, and the rest -/
def pend {β : Type} (pre : List β) (r : Except (Nat × Nat) (List β × St)) : Except (Nat × Nat) (List β × St) :=
  match r with
  | .ok (l, s') => .ok (pre ++ l, s')
  | .error e => .error e

/-- the reader, and what holds besides -/
def LPost {β : Type} (Pp : Nat → Prop) (Inv : World → List β → Prop) (w : World) (br : Nat) (t : ByteArray) (op : Nat) (R : Except (Nat × Nat) (List β × St)) (e : Ending) (w' : World) : Prop :=
  ∃ er, e = .returned er ∧ Fr Pp w w' ∧
    match R with
    | .ok (l, s') => er = .nilIface ∧ Inv w' l ∧ RdS w' br t s' op
    | .error (c, p) => er = .iface 61 (.int .i64 (c : Int)) ∧ (∃ l, Inv w' l) ∧ ∃ s' : St, s'.at' = p ∧ RdS w' br t s' op

def IPost {β : Type} (Pp : Nat → Prop) (Inv : World → List β → Prop) (w : World) (br : Nat) (t : ByteArray) (op : Nat) (acc : List β) (R : Except (Nat × Nat) (β × St)) (e : Ending) (w' : World) : Prop :=
  ∃ er, e = .returned er ∧ Fr Pp w w' ∧
    match R with
    | .ok (x, s') => er = .nilIface ∧ Inv w' (acc ++ [x]) ∧ RdS w' br t s' op
    | .error (c, p) => er = .iface 61 (.int .i64 (c : Int)) ∧ (∃ l, Inv w' l) ∧ ∃ s' : St, s'.at' = p ∧ RdS w' br t s' op
end Go.Proofs.YtbogejmmkohbkaaGreatDoor.Sx

namespace Go.Proofs.YtbogejmmkohbkaaGreatDoor.Sx
open Go.RowKit Go.Sort

set_option maxRecDepth 100000 in
set_option maxHeartbeats 2000000 in
theorem list_values1 {β : Type} (Pp : Nat → Prop) (Inv : World → List β → Prop) (br : Nat) (t closing : ByteArray) (op : Nat) (cb : Array Value) (item : St → Except (Nat × Nat) (β × St)) (c0 : UInt8) (cr : List UInt8) (hcl : closing.data.toList = c0 :: cr)
    (hG : GoodI t.data.toList item) (hPb : ∀ k, Pp k → k ≠ br) (hP4 : Pp 4 ∧ Pp 3) (hInv : ∀ w w' l, Inv w l → Fr (· ≠ br) w w' → Inv w' l) (ht : t.size ≤ 4000)
    (hI : ∀ (w : World) (s : St) (acc : List β), Env w br → RdS w br t s op → s.at' ≤ s.en → TokOK s → s.en ≤ t.size → Inv w acc → acc.length ≤ 5000 → Calls Tryz.prog 301 cb w (IPost Pp Inv w br t op acc (item s)))
    (w : World) (s : St) (hE : Env w br) (hr : RdS w br t s op) (ha : s.at' ≤ s.en) (hk : TokOK s) (hen : s.en ≤ t.size) (hi : Inv w []) :
    Calls Tryz.prog 264 #[.pointer (some ⟨br, 0, none⟩), .string closing, .func (.func 301) #[] cb] w (LPost Pp Inv w br t op (listP t.data.toList closing.data.toList item (t.data.toList.length + 1) s)) := by
  have hl : t.data.toList.length = t.size := by simp
  obtain ⟨R, hR⟩ : ∃ R, listP t.data.toList closing.data.toList item (t.data.toList.length + 1) s = R := ⟨_, rfl⟩
  rw [hR]
  have HR : Hid (listP t.data.toList closing.data.toList item (t.data.toList.length + 1) s = R) := hR
  clear hR
  have HI : Hid (∀ (w : World) (s : St) (acc : List β), _) := hI
  have HSK : Hid (∀ (W : World) (s : St) (m : ByteArray), RdS W br t s op → s.at' ≤ s.en → s.en ≤ t.size → _) := fun (W : World) (s : St) (m : ByteArray) h1 h2 h3 => skip_any W br t s op m h1 h2 h3 ht
  have HINV : Hid (∀ w w' l, Inv w l → Fr (· ≠ br) w w' → Inv w' l) := hInv
  have HG : Hid (GoodI t.data.toList item) := hG
  have HPB : Hid (∀ k, Pp k → k ≠ br) := hPb
  have HEf : Hid (∀ w w', Env w br → Fr Pp w w' → Env w' br) := by
    intro w w' h f
    obtain ⟨e1, e2, ⟨ev, e3, e4⟩, e5, ew, e6, e7⟩ := h
    exact ⟨e1, Nat.lt_of_lt_of_le e2 f.size, ⟨ev, (World.cell?_of_block (w := w) (f.block 4 e2 hP4.1)).trans e3, e4⟩, e5, ew, (World.cell?_of_block (w := w) (f.block 3 (by omega) hP4.2)).trans e6, e7⟩
  have HK0 : Hid (TokOK s) := hk
  have H0 : Hid (Env w br ∧ RdS w br t s op ∧ Inv w []) := ⟨hE, hr, hi⟩
  clear hI hInv hG hPb hE hr hi hP4 hk
  have HC : Hid (closing.data.toList = c0 :: cr) := hcl
  clear hcl
  go_enter Tryz.func264, Tryz.ntmps264
  go_wp2_with fail
  go_loopg [] (t.size + 1) (fun f wr => ∃ (s1 : St) (acc : List β), s1.at' ≤ s1.en ∧ s1.en ≤ t.size ∧ acc.length ≤ s1.en ∧ t.size + 1 ≤ f + s1.en ∧ Hid (TokOK s1) ∧ Hid (Env wr br) ∧ Hid (RdS wr br t s1 op) ∧ Hid (Inv wr acc) ∧ Hid (R = pend acc (listP t.data.toList closing.data.toList item f s1)) ∧ Hid (Fr Pp w wr))
  case atStart =>
    refine ⟨s, [], ha, hen, by simp, by omega, HK0, H0.out.1, H0.out.2.1, H0.out.2.2, ?_, Fr.refl _ _⟩
    show _ = _
    rw [← HR.out, hl]
    unfold pend
    cases listP t.data.toList closing.data.toList item (t.size + 1) s <;> rfl
  case round =>
    obtain ⟨s1, acc, ha1, he1, hac, hfu, HK1, HE1, HR1, HI1, HP1, HF1⟩ := hrel
    obtain ⟨f, rfl⟩ : ∃ f, gk = f + 1 := ⟨gk - 1, by omega⟩
    go_wp2_with fail
    refine (HI.out wr s1 acc HE1.out HR1.out ha1 HK1.out he1 HI1.out (by omega)).mono ?_
    intro e w1 hp
    have hgood := HG.out s1
    cases hit : item s1 with
    | error q =>
      rw [hit] at hp
      obtain ⟨c, p⟩ := q
      obtain ⟨er, rfl, hf, rfl, hinv, hst⟩ := hp
      have HQ : Hid (R = .error (c, p)) := by show _ = _; rw [HP1.out]; simp [listP, hit, pend]
      have HFF : Hid (Fr Pp w w1) := HF1.out.trans hf
      have HZ : Hid ((∃ l, Inv w1 l) ∧ ∃ s' : St, s'.at' = p ∧ RdS w1 br t s' op) := ⟨hinv, hst⟩
      clear hit hinv hst hf hgood
      go_wp2_with fail
      go_ret
      rw [HQ.out]
      exact ⟨_, rfl, HFF.out, rfl, HZ.out.1, HZ.out.2⟩
    | ok q =>
      rw [hit] at hp
      obtain ⟨x, s2⟩ := q
      obtain ⟨er, rfl, hf, rfl, hinv, hst⟩ := hp
      obtain ⟨g1, g2, g3⟩ := hgood x s2 (by omega) hit
      have HP2 : Hid (R = pend acc (if isP t.data.toList s2 closing.data.toList then .ok ([x], advP t.data.toList s2) else if isP t.data.toList s2 [44] then pend [x] (listP t.data.toList closing.data.toList item f (advP t.data.toList s2)) else .error (1, s2.at'))) := by
        show _ = _
        rw [HP1.out]
        simp only [listP, hit]
        congr 1
        split
        · rfl
        · split
          · unfold pend; cases listP t.data.toList closing.data.toList item f (advP t.data.toList s2) <;> rfl
          · rfl
      have HFF : Hid (Fr Pp w w1) := HF1.out.trans hf
      have HE2 : Hid (Env w1 br) := HEf.out _ _ HE1.out hf
      have HIN : Hid (Inv w1 (acc ++ [x])) := hinv
      have HST : Hid (RdS w1 br t s2 op) := hst
      have g2' : s2.en ≤ t.size := by omega
      clear hit hinv hst hf hgood HP1 HF1 HE1 HR1 HI1
      have hpos := fun q => isP_pos (T := t.data.toList) (s := s2) (c := c0) (m := cr) q
      have hpos2 := fun q => isP_pos (T := t.data.toList) (s := s2) (c := 44) (m := []) q
      have hadv := fwd_adv t.data.toList s2 g2
      go_wp2_with fail
      refine (HSK.out w1 s2 closing HST.out g1 g2').mono ?_
      rintro e w2 ⟨rfl, hr2, hf2⟩
      have HI2 : Hid (Inv w2 (acc ++ [x])) := HINV.out _ _ _ HIN.out hf2
      have HF2 : Hid (Fr Pp w w2) := HFF.out.trans (hf2.mono HPB.out)
      have HE3 : Hid (Env w2 br) := HE2.out.fr hf2
      clear hf2 HFF HIN HE2 HST
      rw [HC.out] at hr2 HP2 ⊢
      generalize hb1 : isP t.data.toList s2 (c0 :: cr) = b1 at hr2 HP2 hpos ⊢
      clear hb1
      cases b1 with
      | true =>
        have HQ : Hid (R = .ok (acc ++ [x], advP t.data.toList s2)) := by show _ = _; rw [HP2.out]; rfl
        have HR2 : Hid (RdS w2 br t (advP t.data.toList s2) op) := hr2
        clear hr2 HP2 hpos hpos2
        go_wp2_with fail
        go_ret
        rw [HQ.out]
        exact ⟨_, rfl, HF2.out, rfl, HI2.out, HR2.out⟩
      | false =>
        have HR2 : Hid (RdS w2 br t s2 op) := hr2
        clear hr2 hpos
        go_wp2_with fail
        refine (HSK.out w2 s2 ⟨#[44]⟩ HR2.out g1 g2').mono ?_
        rintro e w3 ⟨rfl, hr3, hf3⟩
        have HI3 : Hid (Inv w3 (acc ++ [x])) := HINV.out _ _ _ HI2.out hf3
        have HF3 : Hid (Fr Pp w w3) := HF2.out.trans (hf3.mono HPB.out)
        have HE4 : Hid (Env w3 br) := HE3.out.fr hf3
        clear hf3 HF2 HI2 HE3 HR2
        have e44 : (⟨#[44]⟩ : ByteArray).data.toList = [44] := rfl
        rw [e44] at hr3 ⊢
        clear e44
        generalize hb2 : isP t.data.toList s2 [44] = b2 at hr3 HP2 hpos2 ⊢
        clear hb2
        cases b2 with
        | true =>
          have hlt := hpos2 rfl
          have HQ : Hid (R = pend (acc ++ [x]) (listP t.data.toList (c0 :: cr) item f (advP t.data.toList s2))) := by
            show _ = _
            rw [HP2.out]
            simp only [Bool.false_eq_true, if_false, if_true]
            unfold pend
            cases listP t.data.toList (c0 :: cr) item f (advP t.data.toList s2) with
            | ok q => simp
            | error q => rfl
          have HR3 : Hid (RdS w3 br t (advP t.data.toList s2) op) := hr3
          clear hr3 HP2 hpos2
          obtain ⟨v1, v2, v3⟩ := hadv
          go_wp2_with fail
          go_roundg f
          case measure => omega
          case rel => exact ⟨advP t.data.toList s2, acc ++ [x], v1, by omega, by simp; omega, by omega, tok_adv _ _, HE4, HR3, HI3, by rw [HC.out]; exact HQ, HF3⟩
        | false =>
          have HQ : Hid (R = .error (1, s2.at')) := by show _ = _; rw [HP2.out]; rfl
          have HR3 : Hid (RdS w3 br t s2 op) := hr3
          clear hr3 HP2 hpos2
          go_wp2_with fail
          go_ret
          rw [HQ.out]
          exact ⟨_, rfl, HF3.out, rfl, ⟨_, HI3.out⟩, s2, rfl, HR3.out⟩
end Go.Proofs.YtbogejmmkohbkaaGreatDoor.Sx

namespace Go.Proofs.YtbogejmmkohbkaaGreatDoor.Sx
open Go.RowKit Go.Sort

/-- a list of values that was read: a slice -/
def RowS (n : Nat) (w0 w : World) (l : List (AV n)) (sl : Value) : Prop :=
  ∃ a cap, sl = .slice a l.length cap ∧ (a = none ∨ ∃ b off, a = some ⟨b, off, none⟩) ∧ (a = none → l.length = 0) ∧ RowP (fun k => w0.heap.size ≤ k) w (RepP (fun k => w0.heap.size ≤ k) w n) a l.length l ∧ ∀ x ∈ l, wt n x ≤ 1024

theorem LI.row {n : Nat} {w0 w : World} {bl base : Nat} {l : List (AV n)} (h : LI n w bl base l) (hb : w0.heap.size ≤ base) (hl : l.length ≤ 4294967296) : ∃ sl, w.heap[bl]? = some (.cells #[sl] 47 (0, 0)) ∧ RowS n w0 w l sl := by
  obtain ⟨sl, vs, h1, h2, h3, h4⟩ := h
  refine ⟨sl, h1, ?_⟩
  have h2' := h2
  rcases h2.2 with ⟨rfl, h0⟩ | ⟨g, cap, cur, rfl, hg, hq, _⟩
  · exact ⟨none, 0, by rw [h0], .inl rfl, fun _ => h0, ⟨rfl, hl, .inl h0⟩, h4⟩
  · refine ⟨some ⟨g, 0, none⟩, cap, rfl, .inr ⟨g, 0, rfl⟩, fun e => by simp at e, ⟨rfl, hl, .inr ⟨g, 0, rfl, block_lt hq, by omega, fun i x hx => ?_⟩⟩, h4⟩
    obtain ⟨v, hv, hr⟩ := h3 i x hx
    refine ⟨v, ?_, hr.fr (Fr.refl _ w) (fun k _ hk => by have := hk.1; omega) n x v⟩
    rw [Nat.zero_add, h2'.cellAt i (by have := (List.getElem?_eq_some_iff.1 hx).1; omega), hv]

def VPost (n : Nat) (w : World) (br : Nat) (t : ByteArray) (op : Nat) (R : Except (Nat × Nat) (List (AV n) × St)) (e : Ending) (w' : World) : Prop :=
  ∃ sl er, e = .returned (.tuple #[sl, er]) ∧ Fr (· ≠ br) w w' ∧
    match R with
    | .ok (l, s') => er = .nilIface ∧ RowS n w w' l sl ∧ l.length ≤ 4000 ∧ RdS w' br t s' op
    | .error (c, p) => er = .iface 61 (.int .i64 (c : Int)) ∧ (∃ l, RowS n w w' l sl ∧ l.length ≤ 5001) ∧ ∃ s' : St, s'.at' = p ∧ RdS w' br t s' op

theorem listP_len {β : Type} {T closing : List UInt8} {item : St → Except (Nat × Nat) (β × St)} (H : GoodI T item) : ∀ (f : Nat) (s : St) (l : List β) (s' : St), s.en ≤ T.length → listP T closing item f s = .ok (l, s') → l.length + s.en ≤ T.length + 1
  | 0, s, l, s', _, h => by simp [listP] at h
  | f + 1, s, l, s', hs, h => by
    simp only [listP] at h
    cases hi : item s with
    | error e => rw [hi] at h; simp at h
    | ok q =>
      obtain ⟨y, s1⟩ := q
      have f1 := H s y s1 hs hi
      rw [hi] at h
      simp only at h
      split at h
      · simp only [Except.ok.injEq, Prod.mk.injEq] at h
        rw [← h.1]; simp; omega
      · split at h
        · rename_i hc
          have hp := isP_pos hc
          cases hl : listP T closing item f (advP T s1) with
          | error e => rw [hl] at h; simp at h
          | ok q =>
            obtain ⟨l2, s2⟩ := q
            rw [hl] at h
            simp only [Except.ok.injEq, Prod.mk.injEq] at h
            have f2 := fwd_adv T s1 f1.2.1
            have := listP_len H f _ l2 s2 f2.2.1 hl
            rw [← h.1]
            have a1 := f1.2.2; have a2 := f2.2.2; have a3 := f2.1
            simp; omega
        · simp at h

set_option maxRecDepth 100000 in
set_option maxHeartbeats 2000000 in
theorem values_any (d : Nat) (V : ValOK d) (w : World) (br : Nat) (t closing : ByteArray) (s : St) (c0 : UInt8) (cr : List UInt8) (hcl : closing.data.toList = c0 :: cr) (hE : Env w br) (hr : RdS w br t s (24 - d)) (ha : s.at' ≤ s.en) (hk : TokOK s) (hen : s.en ≤ t.size) (hen1 : 1 ≤ s.en) (ht : t.size ≤ 4000) :
    Calls Tryz.prog 263 #[.pointer (some ⟨br, 0, none⟩), .string closing] w (VPost (d + 1) w br t (24 - d) (valuesP t.data.toList closing.data.toList (valueP t.data.toList d) s)) := by
  have hl : t.data.toList.length = t.size := by simp
  have hbr := block_lt hr
  have HSK : Hid (Calls Tryz.prog 266 #[.pointer (some ⟨br, 0, none⟩), .string closing] (w.alloc (.cells #[.pointer (some ⟨br, 0, none⟩)] 108)) _) := skip_any (w.alloc (.cells #[.pointer (some ⟨br, 0, none⟩)] 108)) br t s (24 - d) closing (hr.of (P := fun _ => True) (Fr.grew ((Grew.refl w).alloc _)) trivial) ha hen ht
  have HE : Hid (Env (w.alloc (.cells #[.pointer (some ⟨br, 0, none⟩)] 108)) br) := hE.fr (Fr.grew ((Grew.refl w).alloc _))
  unfold valuesP
  have hmf : ∀ (fn : Fn) (first cap : Array Value) (w : World), (Instr.makeFunc fn first cap).run Tryz.prog w = .ok (.func fn first cap) w := fun _ _ _ _ => rfl
  generalize hB : isP t.data.toList s closing.data.toList = B at HSK ⊢
  have HCL : Hid (closing.data.toList = c0 :: cr) := hcl
  have HK0 : Hid (TokOK s) := hk
  clear hk
  have HLN : Hid (t.data.toList.length = t.size) := hl
  clear hr hE hB hcl hl
  cases B with
  | true =>
    rw [if_pos rfl]
    go_enter Tryz.func263, Tryz.ntmps263
    go_wp2_with (go_at_call 266; refine HSK.out.mono ?_; rintro e w1 ⟨rfl, hr1, hf1⟩; have HR1 : Hid (RdS w1 br t _ (24 - d)) := hr1; have HF1 : Hid (Fr (· ≠ br) _ w1) := hf1; clear hr1 hf1)
    go_ret2
    refine ⟨_, _, rfl, ((Fr.refl _ w).alloc _).trans HF1.out, rfl, ⟨none, 0, rfl, .inl rfl, fun _ => rfl, ⟨rfl, by simp, .inl rfl⟩, by simp⟩, by simp, HR1.out⟩
  | false =>
    rw [if_neg (by simp)]
    generalize hRR : listP t.data.toList closing.data.toList (valueP t.data.toList d) (t.data.toList.length + 1) s = R
    have HRR : Hid (listP t.data.toList closing.data.toList (valueP t.data.toList d) (t.data.toList.length + 1) s = R) := hRR
    clear hRR
    go_enter Tryz.func263, Tryz.ntmps263
    go_wp2_with (go_at_call 266; refine HSK.out.mono ?_; rintro e w1 ⟨rfl, hr1, hf1⟩; have HR1 : Hid (RdS w1 br t _ (24 - d)) := hr1; have HF1 : Hid (Fr (· ≠ br) _ w1) := hf1; have xR := (hf1.block _ (by simp) (by omega)).trans (heap_new (W := w) (o := .cells #[.pointer (some ⟨br, 0, none⟩)] 108) rfl); have x0 := block_cell xR 0; have xs := block_lt xR; have XR : Hid (w1.heap[w.heap.size]? = _) := xR; have HE1 : Hid (Env w1 br) := HE.out.fr hf1; clear hr1 hf1 xR)
    obtain ⟨bl, hbl⟩ : ∃ b, b = w1.heap.size := ⟨_, rfl⟩
    rw [← hbl]
    have hN : (w1.alloc (.cells #[.slice none 0 0] 47)).heap[bl]? = some (.cells #[.slice none 0 0] 47 (0, 0)) := heap_new hbl.symm
    have hsz : (w1.alloc (.cells #[.slice none 0 0] 47)).heap.size = bl + 1 := by simp [hbl]
    have F2 : Hid (Fr (· ≠ br) w (w1.alloc (.cells #[.slice none 0 0] 47))) := (((Fr.refl _ w).alloc _).trans HF1.out).alloc _
    have R2 : Hid (RdS (w1.alloc (.cells #[.slice none 0 0] 47)) br t s (24 - d)) := HR1.out.of (P := fun _ => True) (Fr.grew ((Grew.refl w1).alloc _)) trivial
    have E2 : Hid (Env (w1.alloc (.cells #[.slice none 0 0] 47)) br) := HE1.out.fr (Fr.grew ((Grew.refl w1).alloc _))
    have hXR2 : (w1.alloc (.cells #[.slice none 0 0] 47)).heap[w.heap.size]? = some (.cells #[.pointer (some ⟨br, 0, none⟩)] 108 (0, 0)) := (Below.heap_alloc _ _ _ xs).trans XR.out
    clear HF1 HR1 HE1 XR x0
    generalize w1.alloc (.cells #[.slice none 0 0] 47) = W2 at hN hsz F2 R2 E2 hXR2 ⊢
    have hlt : w.heap.size < bl := by omega
    clear hbl xs
    -- what holds besides
    have HLI : Hid (Calls Tryz.prog 264 #[.pointer (some ⟨br, 0, none⟩), .string closing, .func (.func 301) #[] #[.pointer (some ⟨w.heap.size, 0, none⟩), .pointer (some ⟨bl, 0, none⟩)]] W2 _) :=
      list_values1 (fun k => k < bl + 1 ∧ k ≠ br ∧ k ≠ bl) (fun W l => LI (d + 1) W bl (bl + 1) l ∧ bl + 1 ≤ W.heap.size ∧ W.heap[w.heap.size]? = some (.cells #[.pointer (some ⟨br, 0, none⟩)] 108 (0, 0)) ∧ l.length ≤ 5001) br t closing (24 - d) #[.pointer (some ⟨w.heap.size, 0, none⟩), .pointer (some ⟨bl, 0, none⟩)] (valueP t.data.toList d) c0 cr HCL.out (valueP_good _ d) (fun k hk => hk.2.1) ⟨⟨by have := E2.out.2.1; omega, Ne.symm E2.out.1, by
        intro e
        obtain ⟨ev, e1, e2⟩ := E2.out.2.2.1
        rw [e, block_cell hN 0] at e1
        simp at e1
        subst e1
        rcases e2 with e2 | ⟨_, _, e2⟩ <;> simp at e2⟩, by have := E2.out.2.1; omega, Ne.symm E2.out.2.2.2.1, by
        intro e
        obtain ⟨ev, e1, e2⟩ := E2.out.2.2.2.2
        rw [e, block_cell hN 0] at e1
        simp at e1
        subst e1
        rcases e2 with e2 | ⟨_, _, e2⟩ <;> simp at e2⟩
        (fun W W' l h f => ⟨by obtain ⟨sl, vs, hx⟩ := h.1; exact ⟨sl, vs, hx.fr f (by omega) (by omega)⟩, Nat.le_trans h.2.1 f.size, (f.block _ (block_lt h.2.2.1) (by omega)).trans h.2.2.1, h.2.2.2⟩) ht
        (fun W s1 acc hE1 hr1 ha1 hk1 he1 hinv hlen => by
          refine (item_any d V W br w.heap.size bl (bl + 1) t s1 acc hE1 hr1 ha1 hk1 he1 ht hinv.2.2.1 hinv.1 (by omega) (by omega) hinv.2.1 (by omega) hlen).mono ?_
          rintro e W' ⟨er, he, hf, hm⟩
          have k1 : bl + 1 ≤ W'.heap.size := Nat.le_trans hinv.2.1 hf.size
          have k2 : W'.heap[w.heap.size]? = some (.cells #[.pointer (some ⟨br, 0, none⟩)] 108 (0, 0)) := (hf.block _ (block_lt hinv.2.2.1) ⟨by omega, by omega, by omega⟩).trans hinv.2.2.1
          refine ⟨er, he, hf, ?_⟩
          cases hv : valueP t.data.toList d s1 with
          | ok q => rw [hv] at hm; obtain ⟨x, s'⟩ := q; exact ⟨hm.1, ⟨hm.2.1, k1, k2, by simp; omega⟩, hm.2.2⟩
          | error q => rw [hv] at hm; obtain ⟨c, p⟩ := q; obtain ⟨m1, ⟨es', m2, m4⟩, m3⟩ := hm; exact ⟨m1, ⟨es', m2, k1, k2, by omega⟩, m3⟩)
        W2 s E2.out R2.out ha HK0.out hen ⟨⟨.slice none 0 0, [], hN, ⟨rfl, .inl ⟨rfl, rfl⟩⟩, by simp, by simp⟩, by omega, hXR2, by simp⟩
    have HLEN : Hid (∀ l s', listP t.data.toList closing.data.toList (valueP t.data.toList d) (t.data.toList.length + 1) s = .ok (l, s') → l.length + s.en ≤ t.data.toList.length + 1) := fun l s' h => listP_len (valueP_good _ d) _ s l s' (by rw [HLN.out]; exact hen) h
    rw [HRR.out] at HLI HLEN
    clear HRR
    go_wp2_with fail
    go_at_call 264
    refine HLI.out.mono ?_
    rintro e w3 ⟨er, rfl, hf3, hm⟩
    have F3 : Hid (Fr (· ≠ br) w w3) := by
      have f2 := F2.out
      refine ⟨hf3.os.trans f2.os, hf3.tape.trans f2.tape, hf3.output.trans f2.output, Nat.le_trans f2.size hf3.size, fun k hk hp => ?_⟩
      exact (hf3.block k (by omega) ⟨by omega, hp, by omega⟩).trans (f2.block k hk hp)
    clear F2 hf3
    cases R with
    | ok q =>
      obtain ⟨l, s'⟩ := q
      obtain ⟨rfl, ⟨hli, _, _, hl5⟩, hrd⟩ := hm
      obtain ⟨sl, hsl, hrow⟩ := hli.row (w0 := w) (by omega) (by omega)
      have hc := block_cell hsl 0
      have hll := HLEN.out l s' rfl
      rw [HLN.out] at hll
      have HZ : Hid (RowS (d + 1) w w3 l sl ∧ RdS w3 br t s' (24 - d)) := ⟨hrow, hrd⟩
      clear hli hrow hrd HLEN HLI
      go_wp2_with fail
      go_ret2
      exact ⟨sl, _, rfl, F3.out, rfl, HZ.out.1, by omega, HZ.out.2⟩
    | error q =>
      obtain ⟨c, p⟩ := q
      obtain ⟨rfl, ⟨l, hli, _, _, hl5⟩, hst⟩ := hm
      obtain ⟨sl, hsl, hrow⟩ := hli.row (w0 := w) (by omega) (by omega)
      have hc := block_cell hsl 0
      have HZ : Hid (RowS (d + 1) w w3 l sl ∧ ∃ s' : St, s'.at' = p ∧ RdS w3 br t s' (24 - d)) := ⟨hrow, hst⟩
      clear hli hrow hst HLEN HLI
      go_wp2_with fail
      go_ret2
      exact ⟨sl, _, rfl, F3.out, rfl, ⟨l, HZ.out.1, by omega⟩, HZ.out.2⟩
end Go.Proofs.YtbogejmmkohbkaaGreatDoor.Sx

namespace Go.Proofs.YtbogejmmkohbkaaGreatDoor.Sx
open Go.RowKit Go.Sort

def closeP {β γ : Type} (f : List β → γ) (R : Except (Nat × Nat) (List β × St)) : Except (Nat × Nat) (γ × St) :=
  match R with
  | .ok (l, s') => .ok (f l, s')
  | .error e => .error e

theorem wt_mkS (n : Nat) (l : List (AV n)) : wt (n + 1) (mkS (wt n) l : Node (AV n)) ≤ 1024 := by
  show wtN (wt n) (mkS (wt n) l) ≤ 1024
  unfold mkS
  split
  · simpa [wtN, mkSet] using by assumption
  · simp [wtN, mkNil]
theorem wt_mkF (n : Nat) (k l : List (AV n)) : wt (n + 1) (mkF (wt n) k l : Node (AV n)) ≤ 1024 := by
  show wtN (wt n) (mkF (wt n) k l) ≤ 1024
  unfold mkF
  split
  · simpa [wtN, mkFn] using by assumption
  · simp [wtN, mkNil]
theorem wt_mkP (n : Nat) (l : List (AV n × AV n)) : wt (n + 1) (mkP (wt n) l : Node (AV n)) ≤ 1024 := by
  unfold mkP
  split
  · exact wt_mkF n _ _
  · show wtN (wt n) mkNil ≤ 1024
    simp [wtN, mkNil]

/-- how it ends: all read, or not -/
def Tail {β : Type} (w' : World) (br : Nat) (t : ByteArray) (op : Nat) (R : Except (Nat × Nat) (List β × St)) (er : Value) (l : List β) : Prop :=
  (∃ s', R = .ok (l, s') ∧ er = .nilIface ∧ RdS w' br t s' op) ∨ (∃ c p s', R = .error (c, p) ∧ er = .iface 61 (.int .i64 (c : Int)) ∧ St.at' s' = p ∧ RdS w' br t s' op)

theorem VPost.split {n : Nat} {w w' : World} {br : Nat} {t : ByteArray} {op : Nat} {R : Except (Nat × Nat) (List (AV n) × St)} {e : Ending} (h : VPost n w br t op R e w') :
    ∃ sl er l, e = .returned (.tuple #[sl, er]) ∧ Fr (· ≠ br) w w' ∧ RowS n w w' l sl ∧ l.length ≤ 5001 ∧ Tail w' br t op R er l := by
  obtain ⟨sl, er, he, hf, hm⟩ := h
  cases R with
  | ok q => obtain ⟨l, s'⟩ := q; exact ⟨sl, er, l, he, hf, hm.2.1, Nat.le_trans hm.2.2.1 (by omega), .inl ⟨s', rfl, hm.1, hm.2.2.2⟩⟩
  | error q => obtain ⟨c, p⟩ := q; obtain ⟨h1, ⟨l, h2, h3⟩, s', h4, h5⟩ := hm; exact ⟨sl, er, l, he, hf, h2, h3, .inr ⟨c, p, s', rfl, h1, h4, h5⟩⟩

/-- the end: the value made of the list goes into the result's box -/
theorem close_post {β : Type} {d : Nat} {w w2 w3 : World} {br : Nat} {t : ByteArray} {op : Nat} {R : Except (Nat × Nat) (List β × St)} {er v u : Value} {l : List β} (f : List β → AV (d + 1)) (hbr : br < w.heap.size)
    (hf : Fr (· ≠ br) w w2) (ht : Tail w2 br t op R er l) (hb : Below w2.heap.size w2 w3) (hv : RepP (fun k => w.heap.size ≤ k ∧ k ≠ w.heap.size) w3 (d + 1) (f l) v) (hw : ∀ l, wt (d + 1) (f l) ≤ 1024) :
    Post w br t op d (closeP f R) (.returned (.tuple #[.agg #[v], er])) (w3.setCell ⟨w.heap.size, 0, none⟩ u) := by
  have hrd : ∀ s', RdS w2 br t s' op → RdS (w3.setCell ⟨w.heap.size, 0, none⟩ u) br t s' op := fun s' h => RdS.setOther (RdAt.of h (P := fun _ => True) (Fr.below hb) trivial) (by simp; omega) u
  refine ⟨v, er, rfl, (hf.trans (Fr.below hb)).setNew (Nat.le_refl _) u, ?_⟩
  rcases ht with ⟨s', rfl, rfl, h⟩ | ⟨c, p, s', rfl, rfl, hp, h⟩
  · exact ⟨rfl, hv.boxed (w := w) u rfl, hw l, hrd s' h⟩
  · exact ⟨rfl, ⟨f l, hv.boxed (w := w) u rfl, hw l⟩, s', hp, hrd s' h⟩

set_option maxRecDepth 100000 in
set_option maxHeartbeats 2000000 in
theorem set_any (d : Nat) (V : ValOK d) (w : World) (br : Nat) (t : ByteArray) (s : St) (hE : Env w br) (hr : RdS w br t s (24 - d)) (ha : s.at' ≤ s.en) (hk : TokOK s) (hen : s.en ≤ t.size) (hen1 : 1 ≤ s.en) (ht : t.size ≤ 4000) :
    Calls Tryz.prog 173 #[.pointer (some ⟨br, 0, none⟩)] w (Post w br t (24 - d) (d + 1) (closeP (fun l => (mkS (wt (d + 1)) (normA (cmpV (d + 1)) l) : Node (AV (d + 1)))) (valuesP t.data.toList [125] (valueP t.data.toList d) s))) := by
  have hbr := block_lt hr
  have HV : Hid (Calls Tryz.prog 263 #[.pointer (some ⟨br, 0, none⟩), .string ⟨#[125]⟩] (w.alloc (.cells #[.nilIface] 23)) _) := values_any d V (w.alloc (.cells #[.nilIface] 23)) br t ⟨#[125]⟩ s 125 [] rfl (hE.fr (Fr.grew ((Grew.refl w).alloc _))) (hr.of (P := fun _ => True) (Fr.grew ((Grew.refl w).alloc _)) trivial) ha hk hen hen1 ht
  have e0 : (⟨#[125]⟩ : ByteArray).data.toList = [125] := rfl
  rw [e0] at HV
  clear e0 hE hr V hk
  generalize valuesP t.data.toList [125] (valueP t.data.toList d) s = R at HV ⊢
  go_enter Tryz.func173, Tryz.ntmps173
  go_wp2_with (go_at_call 263; refine HV.out.mono ?_)
  intro e w2 hp
  obtain ⟨sl, er, l, rfl, hf, hrow, hlen, htail⟩ := hp.split
  have h0 : w2.heap[w.heap.size]? = some (.cells #[.nilIface] 23 (0, 0)) := (hf.block _ (by simp) (by omega)).trans (heap_new rfl)
  have hsz := block_lt h0
  have HF : Hid (Fr (· ≠ br) w w2) := ((Fr.refl _ w).alloc _).trans hf
  have HT : Hid (Tail w2 br t (24 - d) R er l) := htail
  have hs2 : w.heap.size + 1 ≤ w2.heap.size := hsz
  obtain ⟨a, cap, rfl, ha2, ha3, hrow2, hw⟩ := hrow
  have HC : Hid (Calls Tryz.prog 211 #[.slice a l.length cap] w2 _) := setOf_any (d + 1) (fun k => w.heap.size ≤ k ∧ k ≠ w.heap.size) w2 a l.length cap l (by omega) ha2 (hrow2.narrow (fun k _ hk => by simp at hk; omega)) (fun k hk => ⟨by omega, by omega⟩) hw ha3
  have H0 : Hid (w2.heap[w.heap.size]? = some (.cells #[.nilIface] 23 (0, 0))) := h0
  clear hp hf htail hrow2 ha2 ha3 hw h0 HV
  go_wp2_with fail
  go_at_call 211
  refine HC.out.mono ?_
  rintro e w3 ⟨v, rfl, hv, hb⟩
  have k0 := Below.blockAt hb H0.out
  have x0 := block_cell k0 0
  have x1 := frozen_block k0 0
  have HV3 : Hid (RepP (fun k => w.heap.size ≤ k ∧ k ≠ w.heap.size) w3 (d + 2) (mkS (wt (d + 1)) (normA (cmpV (d + 1)) l) : Node (AV (d + 1))) v) := hv
  have HB : Hid (Below w2.heap.size w2 w3) := hb
  have st := store_one (hv.rep _ _ _).one
  clear hv hb k0 HC H0
  go_wp2_with fail
  have r0 := World.cell?_setCell_same _ _ v x0
  refine bodyPost_ret (v := .tuple #[.agg #[v], er]) (by simp [results, Tryz.results173, go_sem, r0]) rfl ?_
  exact close_post (d := d + 1) (fun l => (mkS (wt (d + 1)) (normA (cmpV (d + 1)) l) : Node (AV (d + 1)))) hbr HF.out HT.out HB.out HV3.out (fun l => wt_mkS (d + 1) _)
set_option maxRecDepth 100000 in
set_option maxHeartbeats 2000000 in
theorem sequence_any (d : Nat) (V : ValOK d) (w : World) (br : Nat) (t : ByteArray) (s : St) (hE : Env w br) (hr : RdS w br t s (24 - d)) (ha : s.at' ≤ s.en) (hk : TokOK s) (hen : s.en ≤ t.size) (hen1 : 1 ≤ s.en) (ht : t.size ≤ 4000) :
    Calls Tryz.prog 174 #[.pointer (some ⟨br, 0, none⟩)] w (Post w br t (24 - d) (d + 1) (closeP (fun l => (mkF (wt (d + 1)) (seqKeys d l.length) l : Node (AV (d + 1)))) (valuesP t.data.toList [62, 62] (valueP t.data.toList d) s))) := by
  have hbr := block_lt hr
  have HV : Hid (Calls Tryz.prog 263 #[.pointer (some ⟨br, 0, none⟩), .string ⟨#[62, 62]⟩] (w.alloc (.cells #[.nilIface] 23)) _) := values_any d V (w.alloc (.cells #[.nilIface] 23)) br t ⟨#[62, 62]⟩ s 62 [62] rfl (hE.fr (Fr.grew ((Grew.refl w).alloc _))) (hr.of (P := fun _ => True) (Fr.grew ((Grew.refl w).alloc _)) trivial) ha hk hen hen1 ht
  have e0 : (⟨#[62, 62]⟩ : ByteArray).data.toList = [62, 62] := rfl
  rw [e0] at HV
  clear e0 hE hr V hk
  generalize valuesP t.data.toList [62, 62] (valueP t.data.toList d) s = R at HV ⊢
  go_enter Tryz.func174, Tryz.ntmps174
  go_wp2_with (go_at_call 263; refine HV.out.mono ?_)
  intro e w2 hp
  obtain ⟨sl, er, l, rfl, hf, hrow, hlen, htail⟩ := hp.split
  have h0 : w2.heap[w.heap.size]? = some (.cells #[.nilIface] 23 (0, 0)) := (hf.block _ (by simp) (by omega)).trans (heap_new rfl)
  have hsz := block_lt h0
  have HF : Hid (Fr (· ≠ br) w w2) := ((Fr.refl _ w).alloc _).trans hf
  have HT : Hid (Tail w2 br t (24 - d) R er l) := htail
  have hs2 : w.heap.size + 1 ≤ w2.heap.size := hsz
  obtain ⟨a, cap, rfl, ha2, ha3, hrow2, hw⟩ := hrow
  have HC : Hid (Calls Tryz.prog 236 #[.slice a l.length cap] w2 _) := newSequence_any d (fun k => w.heap.size ≤ k ∧ k ≠ w.heap.size) w2 a l.length cap l (by omega) (hrow2.narrow (fun k _ hk => by simp at hk; omega)) (fun k hk => ⟨by omega, by omega⟩) hw
  have H0 : Hid (w2.heap[w.heap.size]? = some (.cells #[.nilIface] 23 (0, 0))) := h0
  clear hp hf htail hrow2 ha2 ha3 hw h0 HV
  go_wp2_with fail
  go_at_call 236
  refine HC.out.mono ?_
  rintro e w3 ⟨v, rfl, hv, hb⟩
  have k0 := Below.blockAt hb H0.out
  have x0 := block_cell k0 0
  have x1 := frozen_block k0 0
  have HV3 : Hid (RepP (fun k => w.heap.size ≤ k ∧ k ≠ w.heap.size) w3 (d + 2) (mkF (wt (d + 1)) (seqKeys d l.length) l : Node (AV (d + 1))) v) := hv
  have HB : Hid (Below w2.heap.size w2 w3) := hb
  have st := store_one (hv.rep _ _ _).one
  clear hv hb k0 HC H0
  go_wp2_with fail
  have r0 := World.cell?_setCell_same _ _ v x0
  refine bodyPost_ret (v := .tuple #[.agg #[v], er]) (by simp [results, Tryz.results174, go_sem, r0]) rfl ?_
  exact close_post (d := d + 1) (fun l => (mkF (wt (d + 1)) (seqKeys d l.length) l : Node (AV (d + 1)))) hbr HF.out HT.out HB.out HV3.out (fun l => wt_mkF (d + 1) _ _)
end Go.Proofs.YtbogejmmkohbkaaGreatDoor.Sx
