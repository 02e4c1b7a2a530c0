/- The reference: Asked (walked). -/
import Derived.Test.YtaakjjefnjbabaaGreatQ35
set_option maxRecDepth 100000
namespace Go.Proofs.YtaakjjefnjbabaaGreat.Sx
open Go.RowKit Go.Sort Go.Maps Go.WideMaps
def asksV (o : List Nat) (R : List (List Bool)) (j : Nat) : List Value := ((R.take j).map (askI o)).map (Value.int .i64)
set_option maxHeartbeats 2000000 in
theorem rAsked_any (w : World) (vf vo : Value) (fs : List (List Bool)) (o : List Nat) (n : Nat) (hn : n ≤ 9) (hf : RV w vf fs none) (ho : IR w vo (nodesI o)) (hol : o.length ≤ 65536) (hoa : ∀ a ∈ o, a < n) (hl : ∀ f ∈ fs, f.length = 2 ^ n) (hB : fs.length * 3 ^ n ≤ 549755813888) :
 Calls Tryz.prog 54 #[vf, vo] w fun e w' => ∃ r R, e = .returned r ∧ AskSt o fs R.length R ∧ (IR w' r (R.map (askI o)) ∧ w'.ownsRow w.heap.size 3 1 r R.length (asksV o R R.length)) ∧ Fr (fun _ => True) w w' := by
 have hN2 := pow9 hn
 have h3 : 0 < 3 ^ n := Nat.pow_pos (by omega)
 have hfl : fs.length ≤ fs.length * 3 ^ n := Nat.le_mul_of_pos_right _ h3
 obtain ⟨B, hBB⟩ : ∃ B, fs.length * 3 ^ n = B := ⟨_, rfl⟩
 have HBD : Hid (∀ k R, AskSt o fs k R → R.length ≤ B ∧ ∀ f ∈ R, f.length = 2 ^ n) := fun k R h => ⟨by rw [← hBB]; exact h.bound hl hoa, h.len hl⟩
 rw [hBB] at hB hfl
 have HJ0 : Hid (Calls _ _ _ _ _) := rJoined_any w w.heap.size (.slice none 0 0) vf [] fs (by simp; omega) (fun x hx => by rcases hx with q | q; (· cases q); rw [hl x q]; omega) (RowS.nil _ _) (Nat.le_refl _) hf
 obtain ⟨oa, oc, rfl, hoc⟩ := ho.old
 have hnl : (nodesI o).length = o.length := by unfold nodesI; simp
 rw [hnl]
 have HO : Hid (∀ W, Fr (fun _ => True) w W → ∀ (i v : Nat), o[i]? = some v → ∃ q, oa = some q ∧ W.cell? (q.add i) = some (.int .i64 (v : Int))) := fun W F i v hv => by
  obtain ⟨q, e, h⟩ := hoc i (v : Int) (by unfold nodesI; rw [List.getElem?_map, hv]; rfl)
  exact ⟨q, e, (World.cell?_of_block (w := w) (F.block _ (World.block_lt_of_cell? w _ h) trivial)).trans h⟩
 have HOA : Hid (∀ a ∈ o, a < n) := hoa
 obtain ⟨i0, hi0, hz0, hz1, hz2⟩ := infoInt
 obtain ⟨ol, hoL⟩ : ∃ ol, o.length = ol := ⟨_, rfl⟩
 have HOL : Hid (o.length = ol) := hoL
 rw [hoL] at hol ⊢
 have mo := follows
 clear hoa hl hf hoc hnl hoL hBB
 go_enter Tryz.func54, Tryz.ntmps54
 go_wp2_with fail
 refine HJ0.out.mono ?_
 rintro e w1 ⟨r0, rfl, hr0, hf0, -⟩
 obtain ⟨ra0, rc0, hr0e, -⟩ := hr0.form
 have S0 : Hid (RowS w.heap.size w1 r0 (joinR [] fs)) := hr0
 have F0 : Hid (Fr (fun _ => True) w w1) := ⟨hf0.os, hf0.tape, hf0.output, hf0.size, fun b hb _ => hf0.block b hb (by intro e; cases e)⟩
 have A0 : Hid (AskSt o fs 0 (joinR [] fs)) := AskSt.start o fs
 generalize joinR [] fs = R0 at *
 obtain ⟨rl0, hrl0⟩ : ∃ rl, R0.length = rl := ⟨_, rfl⟩
 have HL0 : Hid (R0.length = rl0) := hrl0
 rw [hrl0] at hr0e
 subst hr0e
 clear hr0 hf0 hrl0 HJ0
 go_wp2_with fail
 go_loopg [5, 6, 7] (B) (fun k s5 s6 s7 wr => ∃ (j rl : Nat) (R : List (List Bool)) (ra : Option Addr) (rc : Nat) (qa : Option Addr) (qc : Nat), s7 = .int .i64 (j : Int) ∧ s5 = .slice ra rl rc ∧ s6 = .slice qa j qc ∧ j + k = B ∧ j ≤ rl ∧ Hid (R.length = rl) ∧ Hid (AskSt o fs j R) ∧ Hid (RowS w.heap.size wr (.slice ra rl rc) R) ∧ Hid (wr.ownsRow w.heap.size 3 1 (.slice qa j qc) j (asksV o R j)) ∧ Hid (Fr (fun _ => True) w wr))
 case atStart => exact ⟨0, rl0, R0, ra0, rc0, none, 0, rfl, rfl, rfl, by omega, by omega, HL0.out, A0.out, S0.out, World.ownsRow_nil _ _ _ _, F0.out⟩
 case round =>
  clear S0 F0 A0 HL0
  obtain ⟨j, rl, R, ra, rc, qa, qc, rfl, rfl, rfl, hjk, hjr, RL, A, S, Q, F⟩ := hrel
  have hrb : rl ≤ B := by have := (HBD.out _ _ A.out).1; rw [RL.out] at this; exact this
  by_cases hj : j < rl
  · obtain ⟨k, rfl⟩ : ∃ k, gk = k + 1 := ⟨gk - 1, by omega⟩
    have hjl : (j : Int) < (rl : Int) := by omega
    have hj0 : (0 : Int) ≤ (j : Int) := by omega
    obtain ⟨f, hf⟩ : ∃ f, R[j]? = some f := ⟨_, List.getElem?_eq_getElem (by rw [RL.out]; exact hj)⟩
    have HF : Hid (R[j]? = some f) := hf
    have HFL : Hid (f.length = 2 ^ n) := (HBD.out _ _ A.out).2 f (List.mem_of_getElem? hf)
    have HRC : Hid (∀ W, RowS w.heap.size W (.slice ra rl rc) R → ∃ g vx, ra = some ⟨g, 0, none⟩ ∧ W.cell? ⟨g, j, none⟩ = some vx ∧ BV W vx f) := fun W h => by
     obtain ⟨a, c, e, h2⟩ := h.form
     obtain ⟨g, vx, e1, h3, h4⟩ := h2 j f hf
     injection e with e2 _ _
     exact ⟨g, vx, e2.trans e1, h3, h4⟩
    clear hf
    go_wp2_with fail
    go_loopg [8, 9] (ol) (fun k2 s8 s9 wr2 => ∃ i : Nat, s9 = .int .i64 (i : Int) ∧ s8 = .int .i64 (optI (firstO (o.take i) f)) ∧ i + k2 = ol ∧ ∃ m, wr2 = wr.drewN m)
    case atStart => exact ⟨0, rfl, rfl, by omega, 0, rfl⟩
    case round =>
     obtain ⟨i, rfl, rfl, hik, m, rfl⟩ := hrel
     cases hh : firstO (o.take i) f with
     | some a =>
       have FS : Hid (firstO o f = some a) := firstO_some hh
       have hoi : optI (some a) = (a : Int) := rfl
       rw [hoi]
       clear hh hoi
       by_cases hil : (i : Int) < (ol : Int)
       all_goals
        have AE : Hid (askI o f = (a : Int)) := by unfold askI; rw [FS.out]; rfl
        have hap : (0 : Int) ≤ (a : Int) := by omega
        have han : a < n := HOA.out a (firstO_mem FS.out)
        obtain ⟨W, hW⟩ : ∃ W, wr.drewN m = W := ⟨_, rfl⟩
        have SW : Hid (RowS w.heap.size W (.slice ra rl rc) R) := by rw [← hW]; exact S.out
        have QW : Hid (W.ownsRow w.heap.size 3 1 (.slice qa j qc) j (asksV o R j)) := by rw [← hW]; exact Q.out
        have FW : Hid (Fr (fun _ => True) w W) := by rw [← hW]; exact ⟨F.out.os, F.out.tape, F.out.output, F.out.size, F.out.block⟩
        rw [hW]
        clear hW S Q F
        have HOX : Hid ((W.alloc (.cells #[.int .i64 (a : Int)] 3)).ownsRow w.heap.size 3 1 (.slice qa j qc) j (asksV o R j)) := QW.out.alloc _
        have hws : w.heap.size ≤ W.heap.size := FW.out.size
        go_wp2_with (at_builtin; refine wpList_append_own _ rfl _ _ 27 rfl w.heap.size 3 i0 _ 1 8 Tryz.underlying27 hi0 hz0 hz1 hz2 rfl (by decide) (.slice qa j qc) j _ rfl HOX.out ⟨W.heap.size, 0, none⟩ 1 1 [.int .i64 (a : Int)] rfl rfl (World.news_of_block (heap_new rfl)) ?q2 ?q3 ?q4 ?q5 ?_)
        case q2 => first | rfl | (intro u hu; rw [List.mem_singleton.1 hu]; rfl)
        case q3 => unfold maxLen; omega
        case q4 => omega
        case q5 => first | omega | (simp; omega)
        intro v' w2 ho hg _
        obtain ⟨⟨g', cap', rfl⟩, h5, h6⟩ := own_step FW.out QW.out ho hg
        have F2 : Hid (Fr (fun _ => True) w w2) := h5
        have Q2 : Hid (w2.ownsRow w.heap.size 3 1 (.slice (some ⟨g', 0, none⟩) (j + 1) cap') (j + 1) (asksV o R (j + 1))) := by
         have e : asksV o R (j + 1) = asksV o R j ++ [.int .i64 (a : Int)] := by unfold asksV; rw [asks_succ o HF.out, show askI o f = (a : Int) from AE.out, List.map_append]; rfl
         rw [e]; exact ho
        have S2 : Hid (RowS w.heap.size w2 (.slice ra rl rc) R) := by
         refine SW.out.frg h6 (fun g hg2 _ => ?_) (own_bool QW.out (by decide))
         obtain ⟨vs, _, hvs, _⟩ := SW.out
         rcases own_ne hvs QW.out (by decide) with e | e
         · rw [e] at hg2; cases hg2
         · rw [← hg2]; exact e
        clear ho hg h5 h6 HOX hws SW QW FW
        obtain ⟨g, vx, rfl, cx, bx⟩ := HRC.out w2 S2.out
        have HW1 : Hid (Calls _ _ _ _ _) := rWith_any w2 vx f n a hn han bx HFL.out false
        have HW2 : Hid (∀ W, Fr (fun _ => True) w2 W → Calls Tryz.prog 70 #[vx, .int .i64 (a : Int), .bool true] W fun e w' => ∃ r, e = .returned r ∧ BV w' r (withL f a true) ∧ Fr (fun _ => True) W w') := fun W F => rWith_any W vx f n a hn han (bx.fr F) HFL.out true
        have HCX : Hid (w2.cell? ⟨g, j, none⟩ = some vx) := cx
        clear bx
        go_wp2_with fail
        refine HW1.out.mono ?_
        rintro e w3 ⟨x1, rfl, hb1, hf1⟩
        have F23 : Hid (Fr (fun _ => True) w2 w3) := hf1
        have B1 : Hid (BV w3 x1 (withL f a false)) := hb1
        have HW3 : Hid (Calls _ _ _ _ _) := HW2.out w3 hf1
        have cx3 : w3.cell? ⟨g, j, none⟩ = some vx := (World.cell?_of_block (w := w2) (hf1.block g (World.block_lt_of_cell? w2 _ cx) trivial)).trans cx
        clear hf1 hb1 HW1 HW2 cx
        go_wp2_with fail
        refine HW3.out.mono ?_
        rintro e w4 ⟨x2, rfl, hb2, hf2⟩
        have F24 : Hid (Fr (fun _ => True) w2 w4) := F23.out.trans hf2
        have hb1 := B1.out.fr hf2
        have hb1' := hb1
        have hb2' := hb2
        obtain ⟨p1, q1, hx1, -⟩ := hb1'
        obtain ⟨p2, q2, hx2, -⟩ := hb2'
        obtain ⟨l1, hl1⟩ : ∃ l1, x1 = .slice p1 l1 q1 := ⟨_, hx1⟩
        obtain ⟨l2, hl2⟩ : ∃ l2, x2 = .slice p2 l2 q2 := ⟨_, hx2⟩
        clear hx1 hx2
        subst hl1 hl2
        have HX12 : Hid (BV w4 (.slice p1 l1 q1) (withL f a false) ∧ BV w4 (.slice p2 l2 q2) (withL f a true)) := ⟨hb1, hb2⟩
        have HAL : Hid (Fr (fun _ => True) w4 (w4.alloc (.cells #[(.slice p1 l1 q1), (.slice p2 l2 q2)] 28))) := (Fr.refl _ w4).alloc _
        have HBK : Hid ((w4.alloc (.cells #[(.slice p1 l1 q1), (.slice p2 l2 q2)] 28)).heap[w4.heap.size]? = some (.cells #[(.slice p1 l1 q1), (.slice p2 l2 q2)] 28 (0, 0))) := heap_new rfl
        have HRM : Hid (∀ g0 : Option Nat, (∀ k, g0 = some k → k < w4.heap.size) → RV (w4.alloc (.cells #[(.slice p1 l1 q1), (.slice p2 l2 q2)] 28)) (.slice (some ⟨w4.heap.size, 0, none⟩) 2 2) [withL f a false, withL f a true] g0) := fun g0 hg0 => by
         refine ⟨_, _, rfl, fun i x hx => ?_⟩
         have hne : some w4.heap.size ≠ g0 := fun e => by have := hg0 _ e.symm; omega
         match i with
         | 0 => obtain rfl : withL f a false = x := Option.some.inj hx
                exact ⟨_, (.slice p1 l1 q1), rfl, hne, by rw [add0]; exact block_cell HBK.out 0, HX12.out.1.fr HAL.out⟩
         | 1 => obtain rfl : withL f a true = x := Option.some.inj hx
                exact ⟨_, (.slice p2 l2 q2), rfl, hne, by rw [add0]; exact block_cell HBK.out 1, HX12.out.2.fr HAL.out⟩
         | i + 2 => cases hx
        have FA : Hid (Fr (fun _ => True) w2 (w4.alloc (.cells #[(.slice p1 l1 q1), (.slice p2 l2 q2)] 28))) := F24.out.trans HAL.out
        have SA : Hid (RowS w.heap.size (w4.alloc (.cells #[(.slice p1 l1 q1), (.slice p2 l2 q2)] 28)) (.slice (some ⟨g, 0, none⟩) rl rc) R) := S2.out.fr FA.out
        have HLT : Hid (∀ k, (Value.slice (some ⟨g, 0, none⟩) rl rc).ownBlock = some k → w.heap.size ≤ k ∧ k < w4.heap.size) := fun k hk => by
         obtain ⟨h1, h2⟩ := S2.out.lt k hk
         exact ⟨h1, Nat.lt_of_lt_of_le h2 F24.out.size⟩
        have HJ : Hid (Calls _ _ _ _ _) := rJoined_any (w4.alloc (.cells #[(.slice p1 l1 q1), (.slice p2 l2 q2)] 28)) w.heap.size _ _ R [withL f a false, withL f a true] (by rw [RL.out]; simp; omega) (fun x hx => by
         have hN3 := (HBD.out _ _ A.out).2
         rcases hx with q | q
         · rw [hN3 x q]; omega
         · simp only [List.mem_cons, List.not_mem_nil, or_false] at q
           rcases q with rfl | rfl <;> rw [withL_len, HFL.out] <;> omega) SA.out (Nat.le_trans F2.out.size FA.out.size) (HRM.out _ fun k hk => (HLT.out k hk).2)
        have A2 : Hid (AskSt o fs (j + 1) (joinR R [withL f a false, withL f a true])) := A.out.step HF.out FS.out
        have TK : Hid ((joinR R [withL f a false, withL f a true]).take (j + 1) = R.take (j + 1)) := asks_join _ (by rw [RL.out]; exact hj)
        have hjl2 : j + 1 ≤ (joinR R [withL f a false, withL f a true]).length := by
         obtain ⟨S', hS'⟩ := joinR_pre [withL f a false, withL f a true] R
         rw [hS', List.length_append, RL.out]
         omega
        clear hb1 hb2 hf2 HRM HX12 HAL HBK B1 F23 HW3
        go_wp2_with fail
        refine HJ.out.mono ?_
        rintro e w5 ⟨r5, rfl, hr5, hf5, hown5⟩
        generalize joinR R [withL f a false, withL f a true] = R2 at *
        obtain ⟨ra5, rc5, hr5e, -⟩ := hr5.form
        obtain ⟨rl5, hrl5⟩ : ∃ rl5, R2.length = rl5 := ⟨_, rfl⟩
        rw [hrl5] at hr5e hjl2
        subst hr5e
        have S5 : Hid (RowS w.heap.size w5 (.slice ra5 rl5 rc5) R2) := hr5
        have L5 : Hid (R2.length = rl5) := hrl5
        have F5 : Hid (Fr (fun _ => True) w w5) := ⟨hf5.os.trans (FA.out.os.trans F2.out.os), hf5.tape.trans (FA.out.tape.trans F2.out.tape), hf5.output.trans (FA.out.output.trans F2.out.output), Nat.le_trans F2.out.size (Nat.le_trans FA.out.size hf5.size), fun b hb _ => (hf5.block b (Nat.lt_of_lt_of_le hb (Nat.le_trans F2.out.size FA.out.size)) fun e => by have := (HLT.out b e.symm).1; omega).trans ((FA.out.block b (Nat.lt_of_lt_of_le hb F2.out.size) trivial).trans (F2.out.block b hb trivial))⟩
        have Q5 : Hid (w5.ownsRow w.heap.size 3 1 (.slice (some ⟨g', 0, none⟩) (j + 1) cap') (j + 1) (asksV o R2 (j + 1))) := by
         have e : asksV o R2 (j + 1) = asksV o R (j + 1) := by unfold asksV; rw [TK.out]
         rw [e]
         have q4 := own_fr Q2.out FA.out fun _ _ => trivial
         refine own_fr q4 hf5 fun k hk => ?_
         obtain ⟨vs, _, hvs, _⟩ := SA.out
         rcases own_ne q4 hvs (by decide) with e | e
         · rw [e] at hk; cases hk
         · rw [← hk]; exact e
        clear hr5 hf5 hown5 hrl5 HJ SA FA HLT F24 Q2 F2 S2 A TK HCX cx3
        go_wp2_with fail
        go_roundg k
        case measure => omega
        case rel => exact ⟨j + 1, rl5, R2, ra5, rc5, _, _, by simp, rfl, rfl, by omega, hjl2, L5.out, A2.out, S5.out, Q5.out, F5.out⟩
     | none =>
       have HH : Hid (firstO (o.take i) f = none) := hh
       clear hh
       by_cases hi : i < ol
       · obtain ⟨k2, rfl⟩ : ∃ k2, gk = k2 + 1 := ⟨gk - 1, by omega⟩
         have hil : (i : Int) < (ol : Int) := by omega
         have hi0' : (0 : Int) ≤ (i : Int) := by omega
         have hneg : optI none < 0 := by decide
         obtain ⟨v, hv⟩ : ∃ v, o[i]? = some v := ⟨_, List.getElem?_eq_getElem (by rw [HOL.out]; exact hi)⟩
         have HS : Hid (firstO (o.take (i + 1)) f = if hangL f v then some v else none) := firstO_take hv HH.out
         obtain ⟨q, rfl, cq⟩ := HO.out wr F.out i v hv
         obtain ⟨g, vx, rfl, cx, bx⟩ := HRC.out wr S.out
         have cx : (wr.drewN m).cell? ⟨g, j, none⟩ = some vx := cx
         have cq : (wr.drewN m).cell? (q.add i) = some (.int .i64 (v : Int)) := cq
         have HCQ : Hid (∀ n', Calls Tryz.prog 85 #[vx, .int .i64 (v : Int)] ((wr.drewN m).drewN n') fun e w' => e = .returned (.bool (hangL f v)) ∧ ∃ m', w' = ((wr.drewN m).drewN n').drewN m') := fun n' => rHangs_any ((wr.drewN m).drewN n') vx f n v hn (HOA.out v (List.mem_of_getElem? hv)) bx HFL.out
         clear hv bx
         obtain ⟨W2, hW2⟩ : ∃ W2, wr.drewN m = W2 := ⟨_, rfl⟩
         have HW : Hid (wr.drewN m = W2) := hW2
         rw [hW2] at cx cq HCQ ⊢
         clear hW2
         cases hg : hangL f v with
         | true =>
           rw [hg] at HCQ HS
           clear hg
           go_wp2_with fail
           go_quiet (first | (go_at_call 85; refine Calls.quiet_of (HCQ.out _)))
           go_wp2_with fail
           go_roundg k2
           case measure => omega
           case rel => exact ⟨i + 1, by simp, by rw [HS.out]; rfl, by omega, _, by rw [← HW.out]; exact drewN2 _ _ _⟩
         | false =>
           rw [hg] at HCQ HS
           clear hg
           go_wp2_with fail
           go_quiet (first | (go_at_call 85; refine Calls.quiet_of (HCQ.out _)))
           go_wp2_with fail
           go_roundg k2
           case measure => omega
           case rel => exact ⟨i + 1, by simp, by rw [HS.out]; rfl, by omega, _, by rw [← HW.out]; exact drewN2 _ _ _⟩
       · have hil : ¬ (i : Int) < (ol : Int) := by omega
         have FS : Hid (firstO o f = none) := by
          have h := HH.out
          rw [List.take_of_length_le (by rw [HOL.out]; omega)] at h
          exact h
         clear HH
         obtain ⟨z, hz⟩ : ∃ z, optI none = z := ⟨_, rfl⟩
         have hzn : z < 0 := by rw [← hz]; decide
         have AE : Hid (askI o f = z) := by show askI o f = z; unfold askI; rw [FS.out]; exact hz
         rw [hz]
         clear hz
         obtain ⟨W, hW⟩ : ∃ W, wr.drewN m = W := ⟨_, rfl⟩
         have SW : Hid (RowS w.heap.size W (.slice ra rl rc) R) := by rw [← hW]; exact S.out
         have QW : Hid (W.ownsRow w.heap.size 3 1 (.slice qa j qc) j (asksV o R j)) := by rw [← hW]; exact Q.out
         have FW : Hid (Fr (fun _ => True) w W) := by rw [← hW]; exact ⟨F.out.os, F.out.tape, F.out.output, F.out.size, F.out.block⟩
         rw [hW]
         clear hW S Q F
         have HOX : Hid ((W.alloc (.cells #[.int .i64 z] 3)).ownsRow w.heap.size 3 1 (.slice qa j qc) j (asksV o R j)) := QW.out.alloc _
         have hws : w.heap.size ≤ W.heap.size := FW.out.size
         go_wp2_with (at_builtin; refine wpList_append_own _ rfl _ _ 27 rfl w.heap.size 3 i0 _ 1 8 Tryz.underlying27 hi0 hz0 hz1 hz2 rfl (by decide) (.slice qa j qc) j _ rfl HOX.out ⟨W.heap.size, 0, none⟩ 1 1 [.int .i64 z] rfl rfl (World.news_of_block (heap_new rfl)) ?q2 ?q3 ?q4 ?q5 ?_)
         case q2 => first | rfl | (intro u hu; rw [List.mem_singleton.1 hu]; rfl)
         case q3 => unfold maxLen; omega
         case q4 => omega
         case q5 => first | omega | (simp; omega)
         intro v' w2 ho hg _
         obtain ⟨⟨g', cap', rfl⟩, h5, h6⟩ := own_step FW.out QW.out ho hg
         have F2 : Hid (Fr (fun _ => True) w w2) := h5
         have Q2 : Hid (w2.ownsRow w.heap.size 3 1 (.slice (some ⟨g', 0, none⟩) (j + 1) cap') (j + 1) (asksV o R (j + 1))) := by
          have e : asksV o R (j + 1) = asksV o R j ++ [.int .i64 z] := by unfold asksV; rw [asks_succ o HF.out, show askI o f = z from AE.out, List.map_append]; rfl
          rw [e]; exact ho
         have S2 : Hid (RowS w.heap.size w2 (.slice ra rl rc) R) := by
          refine SW.out.frg h6 (fun g hg2 _ => ?_) (own_bool QW.out (by decide))
          obtain ⟨vs, _, hvs, _⟩ := SW.out
          rcases own_ne hvs QW.out (by decide) with e | e
          · rw [e] at hg2; cases hg2
          · rw [← hg2]; exact e
         clear ho hg h5 h6 HOX hws SW QW FW
         have hzn2 : ¬ (0 : Int) ≤ z := by omega
         have A2 : Hid (AskSt o fs (j + 1) R) := A.out.skip HF.out FS.out
         go_wp2_with fail
         go_roundg k
         case measure => omega
         case rel => exact ⟨j + 1, rl, R, ra, rc, _, _, by simp, rfl, rfl, by omega, by omega, RL.out, A2.out, S2.out, Q2.out, F2.out⟩
  · have hjl : ¬ (j : Int) < (rl : Int) := by omega
    obtain rfl : j = rl := by omega
    have HT : Hid (R.take j = R) := List.take_of_length_le (by rw [RL.out]; exact Nat.le_refl _)
    go_wp2_with fail
    go_ret
    have hq := Q.out
    have hq0 := hq
    rw [← RL.out] at hq0
    have e : asksV o R j = (R.map (askI o)).map (Value.int .i64) := by unfold asksV; rw [HT.out]
    rw [e] at hq
    have hlen : ((R.map (askI o)).length) = j := by rw [List.length_map, RL.out]
    rw [← hlen] at hq
    have ha := A.out
    rw [← RL.out] at ha
    refine ⟨_, rfl, R, ha, ⟨?_, by rw [RL.out] at hq0 ⊢; exact hq0⟩, F.out⟩
    have := own_ir hq
    rw [hlen] at this
    exact this
end Go.Proofs.YtaakjjefnjbabaaGreat.Sx
