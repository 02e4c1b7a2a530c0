/- BddAll, second form: for any number of variables and any script of bulk at most 1048576 the law holds behind every step (all of these), and the arguments are as they were. -/
import Derived.Test.YtaakjjefnjbabaaGreatQ51
import Derived.Test.YtaakjjefnjbabaaGreatRows
set_option maxRecDepth 100000
namespace Go.Proofs.YtaakjjefnjbabaaGreat.Sx
open Go.RowKit Go.Sort Go.Maps Go.WideMaps
set_option maxHeartbeats 4000000 in
theorem looks_7 (w0 W : World) (wb tb n k : Nat) (L : Ly) (lv : Nat → Nat) (T : Tb) (nodes : List Nat) (fs given : List (List Bool)) (nv fv ov gv vo : Value) (o : OpR) (h : LM w0.heap.size wb tb W L n T nodes fs given T.ord nv fv ov gv) (hp : LP k n lv T nodes fs given) (hv : OpV w0 vo o) (hok : OpOK o) (hF : Fr (fun _ => True) w0 W) :
 Calls Tryz.prog 11 #[.pointer (some ⟨wb, 0, none⟩), vo, .int .i64 7] W fun e w' => e = .returned (.bool true) ∧ LM w0.heap.size wb tb w' L n T nodes fs given T.ord nv fv ov gv ∧ Fr (fun _ => True) w0 w' := by
 obtain ⟨va, vb, rfl, ⟨hva, hvnil⟩, hvb⟩ := hv
 obtain ⟨ok, oa, ob, oc, vars, vals⟩ := o
 have hkc := hok.c
 have hvl : vals.length ≤ 1099511627776 := hok.al
 have h512 := pow9 hp.n9
 have HN9 : Hid (n ≤ 9) := hp.n9
 have hn9 : n ≤ 9 := hp.n9
 have hn2 := hp.two
 have hnk := hp.nk
 have hk20 := hp.k20
 have HP : Hid (LP k n lv T nodes fs given) := hp
 obtain ⟨K, hK⟩ : ∃ K, nodes.length = K + 1 := ⟨nodes.length - 1, by omega⟩
 have HK : Hid (nodes.length = K + 1 ∧ fs.length = K + 1) := ⟨hK, by rw [← hp.len]; exact hK⟩
 obtain ⟨x, hx⟩ : ∃ x, nodes[K]? = some x := ⟨_, List.getElem?_eq_getElem (by omega)⟩
 obtain ⟨fx, hfx, hgx, hex⟩ := hp.live hx
 subst hex
 have B1 : Hid ((W.alloc (.cells #[.int .i64 ok, .int .i64 oa, .int .i64 ob, .int .i64 oc, va, vb] 30)).heap[W.heap.size]? = some (.cells #[.int .i64 ok, .int .i64 oa, .int .i64 ob, .int .i64 oc, va, vb] 30 (0, 0))) := heap_new rfl
 have X1 : Hid (LM _ _ _ (W.alloc (.cells #[.int .i64 ok, .int .i64 oa, .int .i64 ob, .int .i64 oc, va, vb] 30)) _ _ _ _ _ _ _ _ _ _ _) := h.grew ((Fr.refl _ W).alloc _)
 have F1 : Hid (Fr (fun _ => True) w0 (W.alloc (.cells #[.int .i64 ok, .int .i64 oa, .int .i64 ob, .int .i64 oc, va, vb] 30))) := hF.alloc _
 obtain ⟨W1, hW1⟩ : ∃ W1, W.alloc (.cells #[.int .i64 ok, .int .i64 oa, .int .i64 ob, .int .i64 oc, va, vb] 30) = W1 := ⟨_, rfl⟩
 obtain ⟨bx, hbx⟩ : ∃ bx, W.heap.size = bx := ⟨_, rfl⟩
 rw [hW1] at B1 X1 F1
 rw [hbx] at B1
 obtain ⟨ng, nc, hnv, cx⟩ := X1.out.node hx
 obtain ⟨fg, fc, pf, lf, qf, hfv, cf, zf⟩ := X1.out.fat hfx
 have Z1 : Hid (BVz L W1 (.slice pf lf qf) (tab n (vl n T x))) := zf
 have HGX : Hid (Giv T x) := hgx
 have hfs : fs.length = K + 1 := HK.out.2
 obtain ⟨c0, c1, c2, c3, c4, -⟩ := X1.out.c
 have HNV : Hid (nv = .slice (some ⟨ng, 0, none⟩) (K + 1) nc ∧ fv = .slice (some ⟨fg, 0, none⟩) (K + 1) fc) := ⟨by rw [hnv, hK], by rw [hfv, hfs]⟩
 rw [HNV.out.1] at c2
 rw [HNV.out.2] at c3
 have HND : Hid (∀ (W' : World) (i y : Nat), LM w0.heap.size wb tb W' L n T nodes fs given T.ord nv fv ov gv → nodes[i]? = some y → W'.cell? ⟨ng, i, none⟩ = some (.int .i64 (y : Int))) := fun W' i y X hy => by
  obtain ⟨g, c, e, hc⟩ := X.node hy
  rw [HNV.out.1] at e
  injection e with e1 _ _
  cases e1
  exact hc
 have HFN : Hid (∀ (W' : World) (i : Nat) (f : List Bool), LM w0.heap.size wb tb W' L n T nodes fs given T.ord nv fv ov gv → fs[i]? = some f → ∃ p l q, W'.cell? ⟨fg, i, none⟩ = some (.slice p l q) ∧ BVz L W' (.slice p l q) f) := fun W' i f X hf => by
  obtain ⟨g, c, p, l, q, e, hc, hz⟩ := X.fat hf
  rw [HNV.out.2] at e
  injection e with e1 _ _
  cases e1
  exact ⟨p, l, q, hc, hz⟩
 have hKp : 0 < K := by omega
 have hKb : K ≤ 2097153 := by omega
 clear hnk hk20
 have hKl : (K : Int) < ((K + 1 : Nat) : Int) := by omega
 have hK0 : (0 : Int) ≤ (K : Int) := by omega
 have hb1 : bits .and .i64 7 1 = 1 := by decide
 have hb2 : bits .and .i64 7 2 = 2 := by decide
 have hb4 : bits .and .i64 7 4 = 4 := by decide
 obtain ⟨F, hFd⟩ : ∃ F, tab n (vl n T x) = F := ⟨_, rfl⟩
 have HFD : Hid (tab n (vl n T x) = F) := hFd
 have HFL : Hid (F.length = 2 ^ n) := by rw [← hFd]; exact tab_len _ _
 rw [hFd] at Z1
 obtain ⟨vp, vc, rfl, hvc⟩ := hvb
 obtain ⟨vn, hvn⟩ : ∃ vn, vals.length = vn := ⟨_, rfl⟩
 have HVN : Hid (vals.length = vn) := hvn
 rw [hvn] at hvl B1 hW1 ⊢
 have HVC : Hid (∀ (i : Nat) b, vals[i]? = some b → ∃ q, vp = some q ∧ W1.cell? (q.add i) = some (.bool b)) := fun i b hb => by
  obtain ⟨q, e, hq⟩ := hvc i b hb
  exact ⟨q, e, (World.cell?_of_block (w := w0) (F1.out.block _ (World.block_lt_of_cell? w0 _ hq) trivial)).trans hq⟩
 obtain ⟨σ, hσ⟩ : ∃ σ, asg vals = σ := ⟨_, rfl⟩
 have HS1 : Hid (∀ (i : Nat) b, vals[i]? = some b → σ i = b) := fun i b hb => by rw [← hσ]; exact asg_at hb
 have HS2 : Hid (∀ i, vn ≤ i → σ i = false) := fun i hi => by rw [← hσ]; exact asg_no (by rw [hvn]; exact hi)
 obtain ⟨E, hE⟩ : ∃ E, vl n T x σ = E := ⟨_, rfl⟩
 have HFA : Hid (F[num n σ]? = some E) := by rw [← hFd, ← hE]; exact tab_num (hp.base.mid.t.dp hgx.live) σ
 have HEV : Hid (Calls Tryz.prog 40 #[.pointer (some ⟨tb, 0, none⟩), .int .i64 (x : Int), .slice vp vn vc] W1.drew fun e w' => e = .returned (.bool E) ∧ Fr (fun _ => True) W1.drew w') := by
  have := Eval_any (X1.out.grew (Fr.refl _ W1).drew).tat hp.base.mid x hgx.live vp vals vc ⟨fun i b hb => HVC.out i b hb⟩
  rw [hvn, hσ, hE] at this
  exact this
 have HSA : Hid (∀ y, Giv T y → (decide (tab n (vl n T y) = F) = decide (y = x))) := fun y hy => by rw [← hFd]; exact decide_eq_decide.2 (hp.same hy hgx)
 have c0d : W1.drew.cell? ⟨wb, 0, none⟩ = some (.pointer (some ⟨tb, 0, none⟩)) := c0
 have d5 := block_cell B1.out 5
 have d5d : W1.drew.cell? ⟨bx, 5, none⟩ = some (.slice vp vn vc) := d5
 clear hvn hσ hE hvc
 have HLB : Hid (L.own bx = 0) := h.tat.hi bx (by omega)
 have mo := follows
 clear h hp hok hF hva hvnil hx hfx hgx hnv hfv zf hfs hK hFd hn2
 go_enter Tryz.func11, Tryz.ntmps11
 go_wp2_with fail
 go_loopg [10, 11] (n) (fun k s10 s11 wr => ∃ j : Nat, s11 = .int .i64 (j : Int) ∧ s10 = .int .i64 ((num j σ : Nat) : Int) ∧ j + k = n ∧ j ≤ vn ∧ wr = W1)
 case atStart => exact ⟨0, rfl, rfl, by omega, by omega, rfl⟩
 case round =>
  obtain ⟨j, rfl, rfl, hjk, hjv, rfl⟩ := hrel
  obtain ⟨A, hA⟩ : ∃ A, num j σ = A := ⟨_, rfl⟩
  have HA : Hid (num j σ = A) := hA
  have HAL : Hid (A < 2 ^ n) := by rw [← hA]; exact Nat.lt_of_lt_of_le (num_lt j σ) (Nat.pow_le_pow_right (by omega) (by omega))
  rw [hA]
  clear hA
  go_upto_region 7 with fail
  go_cut [60] (fun s60 wc => s60 = .bool (decide (j < n ∧ j < vn)) ∧ wc = wr)
  case first =>
   by_cases hj : j < n
   · have hjl : (j : Int) < (n : Int) := by omega
     by_cases hjv2 : j < vn
     · have hjvl : (j : Int) < (vn : Int) := by omega
       go_wp2_with fail
       go_meet
       case rel => exact ⟨by rw [decide_eq_true (⟨hj, hjv2⟩ : j < n ∧ j < vn)], rfl⟩
     · have hjvl : ¬ (j : Int) < (vn : Int) := by omega
       go_wp2_with fail
       go_meet
       case rel => exact ⟨by rw [decide_eq_false (fun h => hjv2 h.2 : ¬ (j < n ∧ j < vn))], rfl⟩
   · have hjl : ¬ (j : Int) < (n : Int) := by omega
     go_wp2_with fail
     go_meet
     case rel => exact ⟨by rw [decide_eq_false (fun h => hj h.1 : ¬ (j < n ∧ j < vn))], rfl⟩
  case rest =>
   obtain ⟨rfl, rfl⟩ := hcut
   by_cases hjj : j < n ∧ j < vn
   · rw [decide_eq_true hjj]
     obtain ⟨hj, hjv2⟩ := hjj
     obtain ⟨k, rfl⟩ : ∃ k, gk = k + 1 := ⟨gk - 1, by omega⟩
     have hjl : (j : Int) < (n : Int) := by omega
     have hjvl : (j : Int) < (vn : Int) := by omega
     have hj0 : (0 : Int) ≤ (j : Int) := by omega
     obtain ⟨b, hb⟩ : ∃ b, vals[j]? = some b := ⟨_, List.getElem?_eq_getElem (by rw [HVN.out]; exact hjv2)⟩
     have HSB : Hid (σ j = b) := HS1.out j b hb
     obtain ⟨q, rfl, cq⟩ := HVC.out j b hb
     have HAS := HAL.out
     cases b with
     | false =>
       have HNX : Hid (num (j + 1) σ = A) := by rw [← HA.out]; exact num_skip HSB.out
       clear hb
       go_wp2_with fail
       go_roundg k
       case measure => omega
       case rel => exact ⟨j + 1, by simp, by rw [HNX.out], by omega, by omega, rfl⟩
     | true =>
       have hp := wrap_pow j (by omega)
       have hor := (bits_i64 A (2 ^ j) (by omega) (by have := pow9 (n := j) (by omega); omega)).2
       have HNX : Hid (num (j + 1) σ = A ||| 2 ^ j) := by rw [← HA.out]; exact (num_or HSB.out).symm
       obtain ⟨Q, hQ⟩ : ∃ Q, 2 ^ j = Q := ⟨_, rfl⟩
       rw [hQ] at hp hor HNX
       clear hb hQ
       go_wp2_with fail
       go_roundg k
       case measure => omega
       case rel => exact ⟨j + 1, by simp, by rw [HNX.out], by omega, by omega, rfl⟩
   · have HNX : Hid (A = num n σ) := by rw [← HA.out]; exact num_at HS2.out hjj (by omega) hjv
     have HFA2 : Hid (F[A]? = some E) := by rw [HNX.out]; exact HFA.out
     have hAl : A < lf := by
      obtain ⟨a, c, e, -⟩ := Z1.out
      injection e with _ e2 _
      rw [e2, HFL.out]
      exact HAL.out
     have hAl2 : (A : Int) < (lf : Int) := by omega
     have hA0 : (0 : Int) ≤ (A : Int) := by omega
     rw [decide_eq_false hjj]
     go_upto_region 11 with fail
     go_cut [12] (fun s12 w5 => s12 = .bool E ∧ Hid (Fr (fun _ => True) wc w5))
     case first =>
      go_region_with (go_at_call 40; refine HEV.out.mono ?_; rintro e W5 ⟨rfl, hf⟩)
      all_goals
       have F5 : Hid (Fr (fun _ => True) wc W5) := ⟨hf.os, hf.tape, hf.output, hf.size, hf.block⟩
       clear hf
       go_wp2_with fail
       go_meet
       case rel => exact ⟨rfl, F5.out⟩
     case rest =>
      obtain ⟨rfl, F5⟩ := hcut
      have X5 : Hid (LM _ _ _ wc _ _ _ _ _ _ _ _ _ _ _) := X1.out.grew F5.out
      have Z5 : Hid (BVz L wc (.slice pf lf qf) F) := Z1.out.frg F5.out fun _ _ _ => trivial
      have B5 : Hid (wc.heap[bx]? = _) := (F5.out.block bx (block_lt B1.out) trivial).trans B1.out
      have FF5 : Hid (Fr (fun _ => True) w0 wc) := F1.out.trans F5.out
      obtain ⟨qf1, hqf, cA⟩ : ∃ q, pf = some q ∧ wc.cell? (q.add A) = some (.bool E) := by
       obtain ⟨a, c, e, hz⟩ := Z5.out
       injection e with e1 _ _
       obtain ⟨q, e2, h2, -⟩ := hz A E HFA2.out
       exact ⟨q, e1.trans e2, h2⟩
      subst hqf
      clear c0 c1 c2 c3 c4 c0d d5 d5d cx cf
      go_wp2_with fail
      clear cA
      go_loopg [13] (K) (fun k s13 wr => ∃ j : Nat, s13 = .int .i64 (j : Int) ∧ j + k = K ∧ Hid (LM w0.heap.size wb tb wr L n T nodes fs given T.ord nv fv ov gv) ∧ Hid (Fr (fun _ => True) w0 wr) ∧ Hid (BVz L wr (.slice (some qf1) lf qf) F) ∧ Hid (wr.heap[bx]? = some (.cells #[.int .i64 ok, .int .i64 oa, .int .i64 ob, .int .i64 oc, va, .slice vp vn vc] 30 (0, 0))))
      case atStart => exact ⟨0, rfl, by omega, X5.out, FF5.out, Z5.out, B5.out⟩
      case round =>
       clear X5 FF5 Z5 B5 F5 HEV
       obtain ⟨j, rfl, hjk, X6, F6, Z6, B6⟩ := hrel
       by_cases hj : j < K
       · obtain ⟨k, rfl⟩ : ∃ k, gk = k + 1 := ⟨gk - 1, by omega⟩
         have hjl : (j : Int) < (K : Int) := by omega
         have hjl1 : (j : Int) < ((K + 1 : Nat) : Int) := by omega
         have hj0 : (0 : Int) ≤ (j : Int) := by omega
         obtain ⟨y, hy⟩ : ∃ y, nodes[j]? = some y := ⟨_, List.getElem?_eq_getElem (by rw [HK.out.1]; omega)⟩
         obtain ⟨fy, hfy, hgy, hey⟩ := HP.out.live hy
         obtain ⟨py, ly, qy, cy, hzy⟩ := HFN.out wr j fy X6.out hfy
         have HB : Hid (decide (fy = F) = decide (y = x)) := by rw [hey]; exact HSA.out y hgy
         have HSM : Hid (Calls Tryz.prog 41 #[.slice py ly qy, .slice (some qf1) lf qf] wr fun e w' => e = .returned (.bool (decide (y = x))) ∧ ∃ m, w' = wr.drewN m) := by
          have := rSame_any wr _ _ fy F (by rw [hey, tab_len]; omega) hzy.bv Z6.out.bv
          rw [HB.out] at this
          exact this
         obtain ⟨c0, c1, c2, c3, c4, -⟩ := X6.out.c
         rw [HNV.out.1] at c2
         rw [HNV.out.2] at c3
         have HY : Hid (nodes[j]? = some y) := hy
         clear hfy hey hzy hgy HB hy
         go_wp2_with fail
         refine HSM.out.mono ?_
         rintro e W7 ⟨rfl, m, hw7⟩
         have F7 : Hid (Fr (fun _ => True) wr W7) := by rw [hw7]; exact ⟨rfl, rfl, rfl, Nat.le_refl _, fun _ _ _ => rfl⟩
         have X7 : Hid (LM w0.heap.size wb tb W7 L n T nodes fs given T.ord nv fv ov gv) := X6.out.grew F7.out
         have FF7 : Hid (Fr (fun _ => True) w0 W7) := F6.out.trans F7.out
         have Z7 : Hid (BVz L W7 (.slice (some qf1) lf qf) F) := Z6.out.frg F7.out fun _ _ _ => trivial
         have B7 : Hid (W7.heap[bx]? = _) := (F7.out.block bx (block_lt B6.out) trivial).trans B6.out
         clear hw7 c0 c1 c2 c3 c4 cy HSM X6 F6 Z6 B6 F7
         obtain ⟨-, -, c2, -, -, -⟩ := X7.out.c
         rw [HNV.out.1] at c2
         have cy := HND.out W7 j y X7.out HY.out
         by_cases hyx : y = x
         · subst hyx
           rw [decide_eq_true rfl]
           go_wp2_with fail
           go_roundg k
           case measure => omega
           case rel => exact ⟨j + 1, by simp, by omega, X7.out, FF7.out, Z7.out, B7.out⟩
         · have hyi : ¬ (y : Int) = (x : Int) := by omega
           have hyb : ((y : Int) == (x : Int)) = false := by simp [hyi]
           rw [decide_eq_false hyx]
           go_wp2_with fail
           go_roundg k
           case measure => omega
           case rel => exact ⟨j + 1, by simp, by omega, X7.out, FF7.out, Z7.out, B7.out⟩
       · have hjl : ¬ (j : Int) < (K : Int) := by omega
         have HCO : Hid (∀ W', TAt W' tb L T → Calls Tryz.prog 42 #[.pointer (some ⟨tb, 0, none⟩), .int .i64 (x : Int)] W' fun e w' => e = .returned (.int .i64 (cntL F : Int)) ∧ TAt w' tb L T ∧ FrT L L W' w') := fun W' hX => by
          have := Count_any hX HP.out.base.mid HP.out.fit x HGX.out.live
          rw [HP.out.cntOK, HFD.out] at this
          exact this
         have HCR : Hid (∀ W', BV W' (.slice (some qf1) lf qf) F → Calls Tryz.prog 43 #[.slice (some qf1) lf qf] W' fun e w' => e = .returned (.int .i64 (cntL F : Int)) ∧ w' = W') := fun W' hB => rCount_any W' _ F (by rw [HFL.out]; omega) hB
         have HFI : Hid (∀ W', TAt W' tb L T → Calls Tryz.prog 44 #[.pointer (some ⟨tb, 0, none⟩), .int .i64 (x : Int)] W' fun e w' => ∃ r, e = .returned (.tuple #[r, .bool (fstO F)]) ∧ BV w' r (fstR n F) ∧ TAt w' tb L T ∧ FrT L L W' w') := fun W' hX => by
          have := First_both hX HP.out x HGX.out.live
          rw [HFD.out] at this
          exact this
         have HFR : Hid (∀ W', BV W' (.slice (some qf1) lf qf) F → Calls Tryz.prog 45 #[.int .i64 (n : Int), .slice (some qf1) lf qf] W' fun e w' => ∃ r, e = .returned (.tuple #[r, .bool (fstO F)]) ∧ BV w' r (fstR n F) ∧ Fr (fun _ => True) W' w') := fun W' hB => rFirst_any W' _ F n HN9.out hB HFL.out
         obtain ⟨cn, hcn⟩ : ∃ cn, cntL F = cn := ⟨_, rfl⟩
         obtain ⟨bo, hbo⟩ : ∃ bo, fstO F = bo := ⟨_, rfl⟩
         obtain ⟨fr, hfr⟩ : ∃ fr, fstR n F = fr := ⟨_, rfl⟩
         have hfrl : fr.length ≤ 65536 := by
          rw [← hfr]; unfold fstR; split
          · simp
          · unfold fstL; simp; omega
         rw [hcn] at HCO HCR
         rw [hbo, hfr] at HFI HFR
         clear hcn hbo hfr
         obtain ⟨c0, c1, -, -, -, -⟩ := X6.out.c
         go_wp2_with fail
         refine (HCO.out _ X6.out.tat).mono ?_
         rintro e W8 ⟨rfl, hX, hf⟩
         have X8 : Hid (LM w0.heap.size wb tb W8 L n T nodes fs given T.ord nv fv ov gv) := X6.out.frT hf hX
         have F8 : Hid (Fr (fun _ => True) w0 W8) := F6.out.table hf X6.out.low
         have Z8 : Hid (BVz L W8 (.slice (some qf1) lf qf) F) := Z6.out.frT hf
         have LB8 : Hid (L.own bx = 0) := HLB.out
         have B8 : Hid (W8.heap[bx]? = some _) := (hf.block bx (block_lt B6.out) HLB.out).trans B6.out
         clear c0 c1 hX hf HCO X6 F6 Z6 B6
         go_wp2_with fail
         refine (HCR.out _ Z8.out.bv).mono ?_
         rintro e w' ⟨rfl, hw⟩; replace hw := hw.symm; subst hw
         obtain ⟨c0, c1, -, -, -, -⟩ := X8.out.c
         clear HCR
         go_wp2_with fail
         refine (HFI.out _ X8.out.tat).mono ?_
         rintro e W9 ⟨r9, rfl, hb, hX, hf⟩
         have X9 : Hid (LM w0.heap.size wb tb W9 L n T nodes fs given T.ord nv fv ov gv) := X8.out.frT hf hX
         have F9 : Hid (Fr (fun _ => True) w0 W9) := F8.out.table hf X8.out.low
         have Z9 : Hid (BVz L W9 (.slice (some qf1) lf qf) F) := Z8.out.frT hf
         have B9 : Hid (W9.heap[bx]? = some _) := (hf.block bx (block_lt B8.out) HLB.out).trans B8.out
         have R9 : Hid (BV W9 r9 fr) := hb
         clear c0 c1 hX hf hb HFI X8 F8 Z8 B8
         obtain ⟨p9, q9, hr9, -⟩ := R9.out.old
         obtain ⟨l9, hl9⟩ : ∃ l9, r9 = .slice p9 l9 q9 := ⟨_, hr9⟩
         clear hr9
         subst hl9
         obtain ⟨c0, c1, -, -, -, -⟩ := X9.out.c
         go_wp2_with fail
         refine (HFR.out _ Z9.out.bv).mono ?_
         rintro e W10 ⟨r10, rfl, hb, hf⟩
         have X10 : Hid (LM w0.heap.size wb tb W10 L n T nodes fs given T.ord nv fv ov gv) := X9.out.grew hf
         have F10 : Hid (Fr (fun _ => True) w0 W10) := F9.out.trans hf
         have Z10 : Hid (BVz L W10 (.slice (some qf1) lf qf) F) := Z9.out.frg hf fun _ _ _ => trivial
         have B10 : Hid (W10.heap[bx]? = some _) := (hf.block bx (block_lt B9.out) trivial).trans B9.out
         have HTR : Hid (Calls Tryz.prog 46 #[.slice p9 l9 q9, r10] W10 fun e w' => e = .returned (.bool true) ∧ ∃ m, w' = W10.drewN m) := by
          have := Truths_any W10 _ _ fr fr hfrl (R9.out.fr hf) hb
          rw [decide_eq_true rfl] at this
          exact this
         obtain ⟨p10, q10, hr10, -⟩ := hb.old
         obtain ⟨l10, hl10⟩ : ∃ l10, r10 = .slice p10 l10 q10 := ⟨_, hr10⟩
         clear hr10 hb hf
         subst hl10
         clear c0 c1 HFR X9 F9 Z9 B9 R9
         go_wp2_with fail
         refine HTR.out.mono ?_
         rintro e W11 ⟨rfl, m, hw11⟩
         have FA : Hid (Fr (fun _ => True) W10 W11) := by rw [hw11]; exact ⟨rfl, rfl, rfl, Nat.le_refl _, fun _ _ _ => rfl⟩
         have X11 : Hid (LM w0.heap.size wb tb W11 L n T nodes fs given T.ord nv fv ov gv) := X10.out.grew FA.out
         have F11 : Hid (Fr (fun _ => True) w0 W11) := F10.out.trans FA.out
         have Z11 : Hid (BVz L W11 (.slice (some qf1) lf qf) F) := Z10.out.frg FA.out fun _ _ _ => trivial
         have B11 : Hid (W11.heap[bx]? = some _) := (FA.out.block bx (block_lt B10.out) trivial).trans B10.out
         clear hw11 FA X10 F10 Z10 B10 HTR
         obtain ⟨ib, hib⟩ : ∃ ib, pickN oc K = ib := ⟨_, rfl⟩
         have hibl : ib < K := by rw [← hib]; exact pickN_lt hKp
         have HPK : Hid (∀ W', Calls Tryz.prog 17 #[.int .i64 oc, .int .i64 (K : Int)] W' fun e w' => e = .returned (.int .i64 (ib : Int)) ∧ w' = W') := fun W' => by rw [← hib]; exact pick_any W' oc _ hkc.1 hkc.2 hKp (by omega)
         obtain ⟨y, hy⟩ : ∃ y, nodes[ib]? = some y := ⟨_, List.getElem?_eq_getElem (by rw [HK.out.1]; omega)⟩
         obtain ⟨fy, hfy, hgy, hey⟩ := HP.out.live hy
         have HSS : Hid (∀ ls R, DiaP T [x, y] ls → AskSt T.ord [F, fy] R.length R → askN T.ord R = ls.length) := fun ls R hD hA => HP.out.size2 HGX.out.live hgy.live hD (by rw [HFD.out, ← hey]; exact hA)
         have d3 := block_cell B11.out 3
         have hib1 : (ib : Int) < ((K + 1 : Nat) : Int) := by omega
         have hib0 : (0 : Int) ≤ (ib : Int) := by omega
         have HY : Hid (nodes[ib]? = some y ∧ fs[ib]? = some fy) := ⟨hy, hfy⟩
         have HGY : Hid (Giv T y ∧ fy.length = 2 ^ n) := ⟨hgy, by rw [hey]; exact tab_len _ _⟩
         clear hy hfy hgy hey hib hibl
         go_wp2_with fail
         refine (HPK.out _).mono ?_
         rintro e w' ⟨rfl, hw⟩; replace hw := hw.symm; subst hw
         obtain ⟨c0, -, c2, -, -, -⟩ := X11.out.c
         rw [HNV.out.1] at c2
         have cy := HND.out W11 ib y X11.out HY.out.1
         have c0d : W11.drew.cell? ⟨wb, 0, none⟩ = some (.pointer (some ⟨tb, 0, none⟩)) := c0
         have c2d : W11.drew.cell? ⟨wb, 2, none⟩ = some (.slice (some ⟨ng, 0, none⟩) (K + 1) nc) := c2
         have cyd : W11.drew.cell? ⟨ng, ib, none⟩ = some (.int .i64 (y : Int)) := cy
         have hng : ng < W11.heap.size := World.block_lt_of_cell? _ _ cy
         have c0a : (W11.alloc (.cells #[.int .i64 (x : Int), .int .i64 (y : Int)] 32)).cell? ⟨wb, 0, none⟩ = some (.pointer (some ⟨tb, 0, none⟩)) := (World.cell?_of_block (w := W11) (heap_old (block_lt X11.out.blk))).trans c0
         have c2a : (W11.alloc (.cells #[.int .i64 (x : Int), .int .i64 (y : Int)] 32)).cell? ⟨wb, 2, none⟩ = some (.slice (some ⟨ng, 0, none⟩) (K + 1) nc) := (World.cell?_of_block (w := W11) (heap_old (block_lt X11.out.blk))).trans c2
         have cya : (W11.alloc (.cells #[.int .i64 (x : Int), .int .i64 (y : Int)] 32)).cell? ⟨ng, ib, none⟩ = some (.int .i64 (y : Int)) := (World.cell?_of_block (w := W11) (heap_old hng)).trans cy
         have FS : Hid (Fr (fun _ => True) W11 (W11.alloc (.cells #[.int .i64 (x : Int), .int .i64 (y : Int)] 32)).drew) := ((Fr.refl _ W11).alloc _).drew
         have HSZ : Hid (Calls Tryz.prog 47 #[.pointer (some ⟨tb, 0, none⟩), .slice (some ⟨W11.heap.size, 0, none⟩) 2 2] (W11.alloc (.cells #[.int .i64 (x : Int), .int .i64 (y : Int)] 32)).drew fun e w' => ∃ ls : List Nat, e = .returned (.int .i64 (ls.length : Int)) ∧ DiaP T [x, y] ls ∧ Fr (fun _ => True) (W11.alloc (.cells #[.int .i64 (x : Int), .int .i64 (y : Int)] 32)).drew w') := Size_any (X11.out.grew FS.out).tat HP.out.base.mid [x, y] (fun f hf => by
          simp only [List.mem_cons, List.not_mem_nil, or_false] at hf
          rcases hf with rfl | rfl
          · exact HGX.out.live
          · exact HGY.out.1.live) (by simp) _ 2 ⟨fun i v hv => ⟨_, rfl, by
          rw [add0]
          match i with
          | 0 => cases hv; exact block_cell (heap_new rfl) 0
          | 1 => cases hv; exact block_cell (heap_new rfl) 1
          | i + 2 => cases hv⟩⟩
         clear d3 HPK hng
         go_upto_region 30 with fail
         go_cut [23] (fun s23 wc => ∃ ls : Nat, s23 = .int .i64 (ls : Int) ∧ Hid (∀ R, AskSt T.ord [F, fy] R.length R → askN T.ord R = ls) ∧ Hid (LM w0.heap.size wb tb wc L n T nodes fs given T.ord nv fv ov gv) ∧ Hid (Fr (fun _ => True) w0 wc) ∧ Hid (BVz L wc (.slice (some qf1) lf qf) F))
         case first =>
          go_region_with (go_at_call 47; refine HSZ.out.mono ?_; rintro e W12 ⟨ls, rfl, hD, hf⟩)
          all_goals
           have F12 : Hid (Fr (fun _ => True) W11 W12) := FS.out.trans hf
           have X12 : Hid (LM w0.heap.size wb tb W12 L n T nodes fs given T.ord nv fv ov gv) := X11.out.grew F12.out
           have FF12 : Hid (Fr (fun _ => True) w0 W12) := F11.out.trans F12.out
           have Z12 : Hid (BVz L W12 (.slice (some qf1) lf qf) F) := Z11.out.frg F12.out fun _ _ _ => trivial
           have HD : Hid (∀ R, AskSt T.ord [F, fy] R.length R → askN T.ord R = ls.length) := fun R => HSS.out ls R hD
           clear hf hD c0 c2 cy c0d c2d cyd c0a c2a cya
           go_wp2_with fail
           go_meet
           case rel => exact ⟨_, rfl, HD.out, X12.out, FF12.out, Z12.out⟩
         case rest =>
          obtain ⟨ls, rfl, HD, X12, FF12, Z12⟩ := hcut
          clear c0 c2 cy c0d c2d cyd c0a c2a cya FS HSZ HSS X11 F11 Z11 B11
          generalize wc = W12 at *
          obtain ⟨py, ly, qy, cy, hzy⟩ := HFN.out W12 ib fy X12.out HY.out.2
          obtain ⟨-, -, -, c3, c4, -⟩ := X12.out.c
          rw [HNV.out.2] at c3
          obtain ⟨po, qo, hov⟩ := own_slice X12.out.ordr.1
          have HOV : Hid (ov = .slice po T.ord.length qo) := hov
          rw [hov] at c4
          obtain ⟨lo2, hlo2⟩ : ∃ l, T.ord.length = l := ⟨_, rfl⟩
          have HLO : Hid (T.ord.length = lo2) := hlo2
          rw [hlo2] at c4 HOV
          have hfg : fg < W12.heap.size := World.block_lt_of_cell? _ _ cy
          have c3d : W12.drew.cell? ⟨wb, 3, none⟩ = some (.slice (some ⟨fg, 0, none⟩) (K + 1) fc) := c3
          have c4d : W12.drew.cell? ⟨wb, 4, none⟩ = some (.slice po lo2 qo) := c4
          have cyd : W12.drew.cell? ⟨fg, ib, none⟩ = some (.slice py ly qy) := cy
          have c3a : (W12.alloc (.cells #[.slice (some qf1) lf qf, .slice py ly qy] 28)).cell? ⟨wb, 3, none⟩ = some (.slice (some ⟨fg, 0, none⟩) (K + 1) fc) := (World.cell?_of_block (w := W12) (heap_old (block_lt X12.out.blk))).trans c3
          have c4a : (W12.alloc (.cells #[.slice (some qf1) lf qf, .slice py ly qy] 28)).cell? ⟨wb, 4, none⟩ = some (.slice po lo2 qo) := (World.cell?_of_block (w := W12) (heap_old (block_lt X12.out.blk))).trans c4
          have cya : (W12.alloc (.cells #[.slice (some qf1) lf qf, .slice py ly qy] 28)).cell? ⟨fg, ib, none⟩ = some (.slice py ly qy) := (World.cell?_of_block (w := W12) (heap_old hfg)).trans cy
          have FS : Hid (Fr (fun _ => True) W12 (W12.alloc (.cells #[.slice (some qf1) lf qf, .slice py ly qy] 28)).drew) := ((Fr.refl _ W12).alloc _).drew
          have HRS : Hid (Calls Tryz.prog 23 #[.slice (some ⟨W12.heap.size, 0, none⟩) 2 2, .slice po lo2 qo] (W12.alloc (.cells #[.slice (some qf1) lf qf, .slice py ly qy] 28)).drew fun e w' => e = .returned (.int .i64 (ls : Int)) ∧ Fr (fun _ => True) (W12.alloc (.cells #[.slice (some qf1) lf qf, .slice py ly qy] 28)).drew w') := by
           have hX := X12.out.grew FS.out
           have t := HP.out.base.mid.t
           have hIR := hX.ordr.1
           rw [HOV.out] at hIR
           refine (rSize_any _ _ _ [F, fy] T.ord n HN9.out ?_ (own_irN rfl hIR) ?_ (HP.out.ords.lt t.inv.on) ?_ ?_).mono ?_
           · refine ⟨_, 2, rfl, fun i v hv => ?_⟩
             match i with
             | 0 => cases hv; exact ⟨_, _, rfl, by simp, by rw [add0]; exact block_cell (heap_new rfl) 0, (Z12.out.frg FS.out fun _ _ _ => trivial).bv⟩
             | 1 => cases hv; exact ⟨_, _, rfl, by simp, by rw [add0]; exact block_cell (heap_new rfl) 1, (hzy.frg FS.out fun _ _ _ => trivial).bv⟩
             | i + 2 => cases hv
           · rw [t.inv.on]; omega
           · intro f hf
             simp only [List.mem_cons, List.not_mem_nil, or_false] at hf
             rcases hf with rfl | rfl
             · exact HFL.out
             · exact HGY.out.2
           · have := pow39 HN9.out
             show 2 * 3 ^ n ≤ _
             omega
           · rintro e w' ⟨R, rfl, hA, hf⟩
             rw [HD.out R hA]
             exact ⟨rfl, hf⟩
          clear hov hlo2 hfg
          go_upto_region 31 with fail
          go_cut [24] (fun s24 wc => s24 = .int .i64 (ls : Int) ∧ Hid (LM w0.heap.size wb tb wc L n T nodes fs given T.ord nv fv ov gv) ∧ Hid (Fr (fun _ => True) w0 wc))
          case first =>
           go_region_with (go_at_call 23; refine HRS.out.mono ?_; rintro e W13 ⟨rfl, hf⟩)
           all_goals
            have F13 : Hid (Fr (fun _ => True) W12 W13) := FS.out.trans hf
            have X13 : Hid (LM w0.heap.size wb tb W13 L n T nodes fs given T.ord nv fv ov gv) := X12.out.grew F13.out
            have FF13 : Hid (Fr (fun _ => True) w0 W13) := FF12.out.trans F13.out
            clear hf c3 c4 cy c3d c4d cyd c3a c4a cya
            go_wp2_with fail
            go_meet
            case rel => exact ⟨rfl, X13.out, FF13.out⟩
          case rest =>
           obtain ⟨rfl, X13, FF13⟩ := hcut
           clear c3 c4 cy c3d c4d cyd c3a c4a cya FS HRS X12 FF12 Z12
           go_wp2_with fail
           go_ret
           exact ⟨rfl, X13.out, FF13.out⟩
end Go.Proofs.YtaakjjefnjbabaaGreat.Sx
namespace Go.Proofs.YtaakjjefnjbabaaGreat.Sx
open Go.RowKit Go.Sort Go.Maps Go.WideMaps
set_option maxHeartbeats 8000000 in
theorem whole_7 (w0 W : World) (wb tb n k : Nat) (L : Ly) (lv : Nat → Nat) (T : Tb) (nodes : List Nat) (fs given : List (List Bool)) (nv fv ov gv : Value) (h : LM w0.heap.size wb tb W L n T nodes fs given T.ord nv fv ov gv) (hp : LP k n lv T nodes fs given) (hF : Fr (fun _ => True) w0 W) :
 Calls Tryz.prog 12 #[.pointer (some ⟨wb, 0, none⟩), .int .i64 7] W fun e w' => e = .returned (.bool true) ∧ Fr (fun _ => True) w0 w' := by
 have h512 := pow9 hp.n9
 have HN9 : Hid (n ≤ 9) := hp.n9
 have hn9 : n ≤ 9 := hp.n9
 have hnk := hp.nk
 have hk20 := hp.k20
 have HP : Hid (LP k n lv T nodes fs given) := hp
 obtain ⟨N, hN⟩ : ∃ N, nodes.length = N := ⟨_, rfl⟩
 have HNL : Hid (nodes.length = N ∧ fs.length = N) := ⟨hN, by rw [← hp.len]; exact hN⟩
 have hNb : N ≤ 2097154 := by omega
 have h2 := hp.two
 obtain ⟨x, hx⟩ : ∃ x, nodes[0]? = some x := ⟨_, List.getElem?_eq_getElem (by omega)⟩
 obtain ⟨fx, hfx, -, -⟩ := hp.live hx
 obtain ⟨ng, nc, hnv, -⟩ := h.node hx
 obtain ⟨fg, fc, pf, lf, qf, hfv, -, -⟩ := h.fat hfx
 have HNV : Hid (nv = .slice (some ⟨ng, 0, none⟩) N nc ∧ fv = .slice (some ⟨fg, 0, none⟩) N fc) := ⟨by rw [hnv, hN], by rw [hfv, HNL.out.2]⟩
 have HND : Hid (∀ (W' : World) (i y : Nat), LM w0.heap.size wb tb W' L n T nodes fs given T.ord nv fv ov gv → nodes[i]? = some y → W'.cell? ⟨ng, i, none⟩ = some (.int .i64 (y : Int))) := fun W' i y X hy => by
  obtain ⟨g, c, e, hc⟩ := X.node hy
  rw [HNV.out.1] at e
  injection e with e1 _ _
  cases e1
  exact hc
 have HFN : Hid (∀ (W' : World) (i : Nat) (f : List Bool), LM w0.heap.size wb tb W' L n T nodes fs given T.ord nv fv ov gv → fs[i]? = some f → ∃ p l q, W'.cell? ⟨fg, i, none⟩ = some (.slice p l q) ∧ BVz L W' (.slice p l q) f) := fun W' i f X hf => by
  obtain ⟨g, c, p, l, q, e, hc, hz⟩ := X.fat hf
  rw [HNV.out.2] at e
  injection e with e1 _ _
  cases e1
  exact ⟨p, l, q, hc, hz⟩
 have hb1 : bits .and .i64 7 1 = 1 := by decide
 have hb4 : bits .and .i64 7 4 = 4 := by decide
 have X1 : Hid (LM w0.heap.size wb tb W L n T nodes fs given T.ord nv fv ov gv) := h
 have F1 : Hid (Fr (fun _ => True) w0 W) := hF
 have mo := follows
 clear h hp hF hx hfx hnv hfv hN h2 hnk hk20
 obtain ⟨c0, c1, c2, c3, c4, c5⟩ := X1.out.c
 rw [HNV.out.1] at c2
 rw [HNV.out.2] at c3
 go_enter Tryz.func12, Tryz.ntmps12
 have HNO : Hid (Calls _ _ _ _ _) := Nodes_any X1.out.tat
 have HRS : Hid (Calls Tryz.prog 23 #[gv, ov] W.drew fun e w' => ∃ sz : Nat, e = .returned (.int .i64 (sz : Int)) ∧ sz ≤ T.made.length ∧ Fr (fun _ => True) W.drew w') := by
  have hX := X1.out.grew (Fr.refl _ W).drew
  have t := HP.out.base.mid.t
  refine (rSize_any _ _ _ given T.ord n HN9.out (hX.giv.s.rv fun k e => by cases e) (own_irN rfl hX.ordr.1) ?_ (HP.out.ords.lt t.inv.on) HP.out.gl ?_).mono ?_
  · rw [t.inv.on]; omega
  · have h1 : given.length * 3 ^ n ≤ 2097152 * 19683 := Nat.mul_le_mul (Nat.le_trans HP.out.gk HP.out.k20) (pow39 HN9.out)
    omega
  · rintro e w' ⟨R, rfl, hA, hf⟩
    exact ⟨_, rfl, HP.out.size hA, hf⟩
 obtain ⟨md, hmd⟩ : ∃ md, T.made.length = md := ⟨_, rfl⟩
 rw [hmd] at HNO HRS
 clear hmd
 go_wp2_with fail
 refine HNO.out.mono ?_
 rintro e w' ⟨rfl, hw⟩; replace hw := hw.symm; subst hw
 clear HNO
 have c4d : W.drew.cell? ⟨wb, 4, none⟩ = some ov := c4
 have c5d : W.drew.cell? ⟨wb, 5, none⟩ = some gv := c5
 go_upto_region 3 with fail
 go_cut [6] (fun s6 wc => ∃ sz : Nat, s6 = .int .i64 (sz : Int) ∧ sz ≤ md ∧ Hid (Fr (fun _ => True) W wc))
 case first =>
  as_aux_lemma =>
   go_region_held3 (fun w' => w'.cell? ⟨wb, 5, none⟩ = some gv ∧ w'.cell? ⟨wb, 4, none⟩ = some ov) (first | (refine ⟨?_, ?_⟩ <;> assumption) | go_keep)
    ((go_at_call 23; refine HRS.out.mono ?_; rintro e W12 ⟨sz, rfl, hsz, hf⟩; have z5 : W12.cell? ⟨wb, 5, none⟩ = some gv := (X1.out.grew ((Fr.refl _ W).drew.trans hf)).c.2.2.2.2.2; have z4 : W12.cell? ⟨wb, 4, none⟩ = some ov := (X1.out.grew ((Fr.refl _ W).drew.trans hf)).c.2.2.2.2.1))
   all_goals
    have F12 : Hid (Fr (fun _ => True) W W12) := (Fr.refl _ W).drew.trans hf
    clear hf z4 z5
    go_wp2_with fail
    go_meet
    case rel => exact ⟨sz, rfl, hsz, F12.out⟩
 case rest =>
  obtain ⟨sz, rfl, hsz, F12⟩ := hcut
  have X2 : Hid (LM w0.heap.size wb tb wc L n T nodes fs given T.ord nv fv ov gv) := X1.out.grew F12.out
  have F2 : Hid (Fr (fun _ => True) w0 wc) := F1.out.trans F12.out
  clear HRS c0 c1 c2 c3 c4 c5 c4d c5d X1 F1 F12
  generalize wc = W2 at *
  have hsl : ¬ (md : Int) < (sz : Int) := by omega
  go_wp2_with fail
  go_loopg [7] (N) (fun k s7 wr => ∃ i : Nat, s7 = .int .i64 (i : Int) ∧ i + k = N ∧ Hid (LM w0.heap.size wb tb wr L n T nodes fs given T.ord nv fv ov gv) ∧ Hid (Fr (fun _ => True) w0 wr))
  case atStart => exact ⟨0, rfl, by omega, X2.out, F2.out⟩
  case round =>
   clear X2 F2
   obtain ⟨i, rfl, hik, X, F⟩ := hrel
   obtain ⟨c0, c1, c2, c3, -, -⟩ := X.out.c
   rw [HNV.out.1] at c2
   rw [HNV.out.2] at c3
   by_cases hi : i < N
   · obtain ⟨k, rfl⟩ : ∃ k, gk = k + 1 := ⟨gk - 1, by omega⟩
     have hil : (i : Int) < (N : Int) := by omega
     have hi0 : (0 : Int) ≤ (i : Int) := by omega
     have m1 := make_bools wr n (by omega)
     go_wp2_with fail
     clear m1
     have B1 : Hid (BBlk (wr.alloc (.cells (Array.replicate n (.bool false)) 4)) wr.heap.size (fillL i.testBit n 0)) := by rw [fillL_zero]; exact BBlk.zero wr n
     have G1 : Hid (Fr (fun b => b < wr.heap.size) wr (wr.alloc (.cells (Array.replicate n (.bool false)) 4))) := (Fr.refl _ wr).alloc _
     obtain ⟨g, hg⟩ : ∃ g, wr.heap.size = g := ⟨_, rfl⟩
     have HG : Hid (wr.heap.size = g) := hg
     rw [hg] at B1 G1 ⊢
     clear hg c0 c1 c2 c3
     generalize wr.alloc (.cells (Array.replicate n (.bool false)) 4) = Wa at B1 G1 ⊢
     obtain ⟨W3, hW3⟩ : ∃ W3, wr = W3 := ⟨_, rfl⟩
     rw [hW3] at G1 X F HG
     clear hW3
     go_loopg [9] (n) (fun k2 s9 wr => ∃ j : Nat, s9 = .int .i64 (j : Int) ∧ j + k2 = n ∧ Hid (BBlk wr g (fillL i.testBit n j)) ∧ Hid (Fr (fun b => b < g) W3 wr))
     case atStart => exact ⟨0, rfl, by omega, B1.out, G1.out⟩
     case round =>
      clear B1 G1
      obtain ⟨j, rfl, hjk, B, G⟩ := hrel
      have GT : Hid (Fr (fun _ => True) W3 wr) := ⟨G.out.os, G.out.tape, G.out.output, G.out.size, fun b hb _ => G.out.block b hb (by rw [← HG.out]; exact hb)⟩
      have X4 : Hid (LM w0.heap.size wb tb wr L n T nodes fs given T.ord nv fv ov gv) := X.out.grew GT.out
      obtain ⟨c0, c1, c2, c3, -, -⟩ := X4.out.c
      by_cases hj : j < n
      · obtain ⟨k2, rfl⟩ : ∃ k2, gk = k2 + 1 := ⟨gk - 1, by omega⟩
        have hjl : (j : Int) < (n : Int) := by omega
        have hj0 : (0 : Int) ≤ (j : Int) := by omega
        have z0 := B.out.frz j
        have e0 := B.out.cell (fillL_at hj)
        have hsb := shr_bit2 i j (by omega)
        have hj64 : j < 64 := by omega
        have B2 : Hid (∀ vv, vv = i.testBit j → BBlk (wr.setCell ⟨g, j, none⟩ (.bool vv)) g (fillL i.testBit n (j + 1))) := fun vv hv => by
         have := B.out.set j vv
         rw [hv, show (fillL i.testBit n j).set j (i.testBit j) = _ from fillL_set (φ := i.testBit) hj] at this
         rw [hv]
         exact this
        have G2 : Hid (∀ v, Fr (fun b => b < g) W3 (wr.setCell ⟨g, j, none⟩ v)) := fun v => G.out.set (by simp) _
        clear B G X4 GT c0 c2 c3
        go_wp2_with fail
        go_roundg k2
        case measure => omega
        case rel => exact ⟨j + 1, by simp, by omega, B2.out _ rfl, G2.out _⟩
      · have hjl : ¬ (j : Int) < (n : Int) := by omega
        obtain rfl : j = n := by omega
        rw [HNV.out.1] at c2
        rw [HNV.out.2] at c3
        have F4 : Hid (Fr (fun _ => True) w0 wr) := F.out.trans GT.out
        obtain ⟨y, hy⟩ : ∃ y, nodes[i]? = some y := ⟨_, List.getElem?_eq_getElem (by rw [HNL.out.1]; exact hi)⟩
        obtain ⟨fy, hfy, hgy, hey⟩ := HP.out.live hy
        obtain ⟨E, hE⟩ : ∃ E, vl j T y (asg ((List.range j).map i.testBit)) = E := ⟨_, rfl⟩
        have HFE : Hid (fy[i % 2 ^ j]? = some E) := by rw [hey, ← hE]; exact tab_mod (HP.out.base.mid.t.dp hgy.live) rfl
        have HFY : Hid (fs[i]? = some fy ∧ fy.length = 2 ^ j) := ⟨hfy, by rw [hey]; exact tab_len _ _⟩
        have HY : Hid (nodes[i]? = some y) := hy
        have HEV : Hid (Calls Tryz.prog 40 #[.pointer (some ⟨tb, 0, none⟩), .int .i64 (y : Int), .slice (some ⟨g, 0, none⟩) j j] wr.drew fun e w' => e = .returned (.bool E) ∧ Fr (fun _ => True) wr.drew w') := by
         have hB := B.out
         rw [fillL_end] at hB
         have := Eval_any (X4.out.grew (Fr.refl _ wr).drew).tat HP.out.base.mid y hgy.live (some ⟨g, 0, none⟩) ((List.range j).map i.testBit) j ⟨fun a b hb => ⟨_, rfl, by rw [add0]; exact hB.cell hb⟩⟩
         rw [List.length_map, List.length_range, hE] at this
         exact this
        have cy := HND.out wr i y X4.out hy
        have HC : Hid (∀ W' : World, LM w0.heap.size wb tb W' L j T nodes fs given T.ord nv fv ov gv → W'.cell? ⟨wb, 0, none⟩ = some (.pointer (some ⟨tb, 0, none⟩)) ∧ W'.cell? ⟨wb, 2, none⟩ = some (.slice (some ⟨ng, 0, none⟩) N nc) ∧ W'.cell? ⟨ng, i, none⟩ = some (.int .i64 (y : Int))) := fun W' X => ⟨X.c.1, by rw [← HNV.out.1]; exact X.c.2.2.1, HND.out _ _ _ X HY.out⟩
        obtain ⟨y0, y1, y2⟩ := HC.out _ (X4.out.grew (Fr.refl _ wr).drew)
        clear hE hy hfy hgy hey B G X F
        go_upto_region 14 with fail
        go_cut [10] (fun s10 wc => s10 = .bool E ∧ Hid (Fr (fun _ => True) wr wc))
        case first =>
         as_aux_lemma =>
          go_region_held3 (fun w' => w'.cell? ⟨wb, 0, none⟩ = some (.pointer (some ⟨tb, 0, none⟩)) ∧ w'.cell? ⟨wb, 2, none⟩ = some (.slice (some ⟨ng, 0, none⟩) N nc) ∧ w'.cell? ⟨ng, i, none⟩ = some (.int .i64 (y : Int))) (first | (refine ⟨?_, ?_, ?_⟩ <;> assumption) | go_keep)
           ((go_at_call 40; refine HEV.out.mono ?_; rintro e W5 ⟨rfl, hf⟩; obtain ⟨z0, z1, z2⟩ := HC.out _ (X4.out.grew ((Fr.refl _ wr).drew.trans hf))))
          all_goals
           have F5 : Hid (Fr (fun _ => True) wr W5) := (Fr.refl _ wr).drew.trans hf
           clear hf z0 z1 z2
           go_wp2_with fail
           go_meet
           case rel => exact ⟨rfl, F5.out⟩
        case rest =>
         obtain ⟨rfl, F5⟩ := hcut
         have X5 : Hid (LM w0.heap.size wb tb wc L j T nodes fs given T.ord nv fv ov gv) := X4.out.grew F5.out
         have FF5 : Hid (Fr (fun _ => True) w0 wc) := F4.out.trans F5.out
         clear HEV HC c0 c1 c2 c3 cy y0 y1 y2 X4 F4 F5 GT
         generalize wc = W5 at *
         obtain ⟨-, c1, -, c3, -, -⟩ := X5.out.c
         rw [HNV.out.2] at c3
         obtain ⟨p, l, q, cf, hzf⟩ := HFN.out W5 i fy X5.out HFY.out.1
         have hp := wrap_pow j (by omega)
         obtain ⟨Q, hQ⟩ : ∃ Q, 2 ^ j = Q := ⟨_, rfl⟩
         have hpi : (2 : Int) ^ j = ((2 ^ j : Nat) : Int) := by rw [Int.natCast_pow]; rfl
         have hQ0 : 0 < Q := by rw [← hQ]; exact Nat.two_pow_pos j
         have hQ9 : Q ≤ 512 := by rw [← hQ]; exact pow9 HN9.out
         have HFL : Hid (fy.length = Q) := by rw [← hQ]; exact HFY.out.2
         rw [hQ] at hp hpi HFE
         obtain ⟨A, hA⟩ : ∃ A, i % Q = A := ⟨_, rfl⟩
         have hAQ : A < Q := by rw [← hA]; exact Nat.mod_lt _ hQ0
         have hrem : Int.tmod (i : Int) (Q : Int) = (A : Int) := by rw [← hA]; rfl
         rw [hA] at HFE
         obtain ⟨q1, rfl, cA, hlA⟩ : ∃ q1, p = some q1 ∧ W5.cell? (q1.add A) = some (.bool E) ∧ l = Q := by
          obtain ⟨a, c, e, hz⟩ := hzf
          injection e with e1 e3 _
          obtain ⟨qq, e2, h2, -⟩ := hz A E HFE.out
          exact ⟨qq, e1.trans e2, h2, by rw [e3]; exact HFL.out⟩
         subst hlA
         have hAl : (A : Int) < (l : Int) := by omega
         have hA0 : (0 : Int) ≤ (A : Int) := by omega
         have hQn : ¬ (l : Int) = 0 := by omega
         clear hzf hA hQ
         go_wp2_with fail
         go_quiet (fail)
         go_wp2_with fail
         go_roundg k
         case measure => omega
         case rel => exact ⟨i + 1, by simp, by omega, X5.out.grew ⟨rfl, rfl, rfl, Nat.le_refl _, fun _ _ _ => rfl⟩, ⟨FF5.out.os, FF5.out.tape, FF5.out.output, FF5.out.size, FF5.out.block⟩⟩
   · have hil : ¬ (i : Int) < (N : Int) := by omega
     go_wp2_with fail
     go_ret
     exact ⟨rfl, F.out⟩
end Go.Proofs.YtaakjjefnjbabaaGreat.Sx
namespace Go.Proofs.YtaakjjefnjbabaaGreat.Sx
open Go.RowKit Go.Sort Go.Maps Go.WideMaps
set_option maxHeartbeats 8000000 in
theorem plays_7 (w : World) (n : Nat) (hn : n ≤ 9) (v : Value) (l : List OpR) (hv : ScrV w v l) (hl : l.length ≤ 1048576) (hok : ∀ o ∈ l, OpOK o) :
 Calls Tryz.prog 7 #[.int .i64 (n : Int), v, .int .i64 7] w fun e w' => e = .returned (.bool true) ∧ Fr (fun _ => True) w w' := by
 obtain ⟨a, c, rfl, hs⟩ := hv
 have HWO : Hid (Calls _ _ _ _ _) := world_any w n hn
 obtain ⟨ln, hln⟩ : ∃ ln, l.length = ln := ⟨_, rfl⟩
 have HLN : Hid (l.length = ln) := hln
 have HS : Hid (∀ (i : Nat) o, l[i]? = some o → ∃ q va vb, a = some q ∧ OpC w (q.add (i * 6)) o va vb ∧ (IW w va o.vars ∧ NilOK va) ∧ BW w vb o.vals) := hs
 have HOKS : Hid (∀ o ∈ l, OpOK o) := hok
 rw [hln] at hl ⊢
 have hb4 : bits .and .i64 7 4 = 4 := by decide
 have mo := follows
 obtain ⟨j0, hJ0, hY0, hY1, hY2⟩ := infoNode
 obtain ⟨i0, hI0, hZ0, hZ1, hZ2⟩ := infoBs
 clear hs hln hok
 go_enter Tryz.func7, Tryz.ntmps7
 go_wp2_with fail
 refine HWO.out.mono ?_
 rintro e W1 ⟨wb, tb, L, nv, fv, ov, gv, rfl, hX, hF⟩
 have X1 : Hid (LM w.heap.size wb tb W1 L n (Tb0 n) [0, 1] [tab n fun _ => false, tab n fun _ => true] [] (Tb0 n).ord nv fv ov gv) := hX
 have F1 : Hid (Fr (fun _ => True) w W1) := hF
 clear hX hF HWO
 go_wp2_with fail
 go_loopg [8] (ln) (fun k s8 wr => ∃ (i : Nat) (lv : Nat → Nat) (T : Tb) (L : Ly) (nodes : List Nat) (fs given : List (List Bool)) (nv fv ov gv : Value), s8 = .int .i64 (i : Int) ∧ i + k = ln ∧ Hid (LM w.heap.size wb tb wr L n T nodes fs given T.ord nv fv ov gv) ∧ Hid (LP (2 + i) n lv T nodes fs given) ∧ Hid (Fr (fun _ => True) w wr))
 case atStart => exact ⟨0, _, _, _, _, _, _, _, _, _, _, rfl, by omega, X1.out, LP.start hn, F1.out⟩
 case round =>
  clear X1 F1
  obtain ⟨i, lv, T, L, nodes, fs, given, nv, fv, ov, gv, rfl, hik, X, P, F⟩ := hrel
  by_cases hi : i < ln
  · obtain ⟨k, rfl⟩ : ∃ k, gk = k + 1 := ⟨gk - 1, by omega⟩
    have hil : (i : Int) < (ln : Int) := by omega
    have hi0 : (0 : Int) ≤ (i : Int) := by omega
    obtain ⟨o, ho⟩ : ∃ o, l[i]? = some o := ⟨_, List.getElem?_eq_getElem (by rw [HLN.out]; exact hi)⟩
    obtain ⟨q, va, vb, rfl, hc, ⟨hiw, hnil⟩, hbw⟩ := HS.out i o ho
    obtain ⟨ya, yc, hva, -⟩ := id hiw
    obtain ⟨za, zc, hvb, -⟩ := id hbw
    obtain ⟨yl, hl1⟩ : ∃ yl, va = .slice ya yl yc := ⟨_, hva⟩
    obtain ⟨zl, hl2⟩ : ∃ zl, vb = .slice za zl zc := ⟨_, hvb⟩
    clear hva hvb
    subst hl1 hl2
    have hc' : OpC wr (q.add (i * 6)) o (.slice ya yl yc) (.slice za zl zc) := hc.fr F.out
    have HOK : Hid (OpOK o) := HOKS.out o (List.mem_of_getElem? ho)
    obtain ⟨ok, oa, ob, oc, vars, vals⟩ := o
    obtain ⟨e0, e1, e2, e3, e4, e5⟩ := hc'
    have HOV : Hid (OpV w (.agg #[.int .i64 ok, .int .i64 oa, .int .i64 ob, .int .i64 oc, .slice ya yl yc, .slice za zl zc]) ⟨ok, oa, ob, oc, vars, vals⟩) := ⟨_, _, rfl, ⟨hiw, hnil⟩, hbw⟩
    have B2 : Hid ((wr.alloc (.cells #[.int .i64 ok, .int .i64 oa, .int .i64 ob, .int .i64 oc, .slice ya yl yc, .slice za zl zc] 30)).heap[wr.heap.size]? = some (.cells #[.int .i64 ok, .int .i64 oa, .int .i64 ob, .int .i64 oc, .slice ya yl yc, .slice za zl zc] 30 (0, 0))) := heap_new rfl
    have X2 : Hid (LM w.heap.size wb tb (wr.alloc (.cells #[.int .i64 ok, .int .i64 oa, .int .i64 ob, .int .i64 oc, .slice ya yl yc, .slice za zl zc] 30)) L n T nodes fs given T.ord nv fv ov gv) := X.out.grew ((Fr.refl _ wr).alloc _)
    have F2 : Hid (Fr (fun _ => True) w (wr.alloc (.cells #[.int .i64 ok, .int .i64 oa, .int .i64 ob, .int .i64 oc, .slice ya yl yc, .slice za zl zc] 30))) := F.out.alloc _
    have LBX : Hid (L.own wr.heap.size = 0) := X.out.tat.hi _ (Nat.le_refl _)
    clear ho hc hiw hnil hbw X F
    by_cases hk : 9 < ok
    · have hkg : (10 : Int) ≤ ok := by omega
      have HTU : Hid (Calls _ _ _ _ _) := turned_any X2.out P.out (by omega) HOV.out HOK.out F2.out hk
      go_wp2_with fail
      refine HTU.out.mono ?_
      rintro e W3 ⟨lv', T', L', nodes', fs', given', nv', fv', ov', gv', rfl, hX, hP, hF⟩
      have X3 : Hid (LM w.heap.size wb tb W3 L' n T' nodes' fs' given' T'.ord nv' fv' ov' gv') := hX
      have P3 : Hid (LP (2 + (i + 1)) n lv' T' nodes' fs' given') := hP.mono (by omega)
      have F3 : Hid (Fr (fun _ => True) w W3) := hF
      clear hX hP hF HTU e0 e1 e2 e3 e4 e5 B2 X2 F2 P LBX
      go_wp2_with fail
      go_roundg k
      case measure => omega
      case rel => exact ⟨i + 1, lv', T', L', nodes', fs', given', nv', fv', ov', gv', by simp, by omega, X3.out, P3.out, F3.out⟩
    · have hkl : ok < 10 := by omega
      have HMA : Hid (Calls _ _ _ _ _) := made_any X2.out P.out HOV.out HOK.out F2.out
      go_wp2_with fail
      refine HMA.out.mono ?_
      rintro e W3 (⟨x, FF, T', L', fx, rfl, hX, hO, hZ, hF, hKK⟩ | ⟨v, f, rfl, hX, hF⟩)
      · have X3 : Hid (LM w.heap.size wb tb W3 L' n T' nodes fs given T'.ord nv fv ov gv) := by rw [← hO.ord] at hX; exact hX
        have P3 : Hid (LP (2 + (i + 1)) n lv T' (nodes ++ [x]) (fs ++ [tab n (vl n T' x)]) (given ++ [tab n (vl n T' x)])) := P.out.made rfl (by omega) hO
        have Z3 : Hid (BVz L' W3 fx (tab n (vl n T' x))) := hZ
        have F3 : Hid (Fr (fun _ => True) w W3) := hF
        have B3 : Hid (W3.heap[wr.heap.size]? = some (.cells #[.int .i64 ok, .int .i64 oa, .int .i64 ob, .int .i64 oc, .slice ya yl yc, .slice za zl zc] 30 (0, 0))) := (hKK.block _ (block_lt B2.out) LBX.out).trans B2.out
        have HLE : Hid (nodes.length = fs.length ∧ nodes.length ≤ 2097152 ∧ given.length ≤ 2097152) := ⟨P.out.len, by have := P.out.nk; omega, by have := P.out.gk; omega⟩
        obtain ⟨bx, hbx⟩ : ∃ bx, wr.heap.size = bx := ⟨_, rfl⟩
        rw [hbx] at B3 ⊢
        clear hX hO hZ hF hKK HMA e0 e1 e2 e3 e4 e5 B2 X2 F2 hbx P LBX
        obtain ⟨R, hR⟩ : ∃ R, tab n (vl n T' x) = R := ⟨_, rfl⟩
        rw [hR] at P3 Z3
        clear hR
        obtain ⟨xa, xc, hfx, -⟩ := id Z3.out
        obtain ⟨xl, hxl⟩ : ∃ xl, fx = .slice xa xl xc := ⟨_, hfx⟩
        clear hfx
        subst hxl
        obtain ⟨N, hN⟩ : ∃ N, nodes.length = N := ⟨_, rfl⟩
        obtain ⟨G, hG⟩ : ∃ G, given.length = G := ⟨_, rfl⟩
        have HN : Hid (nodes.length = N ∧ fs.length = N ∧ given.length = G ∧ N ≤ 2097152 ∧ G ≤ 2097152) := ⟨hN, by rw [← HLE.out.1]; exact hN, hG, by rw [← hN]; exact HLE.out.2.1, by rw [← hG]; exact HLE.out.2.2⟩
        have hNB : N ≤ 2097152 := HN.out.2.2.2.1
        have hGB : G ≤ 2097152 := HN.out.2.2.2.2
        clear hN hG HLE
        obtain ⟨na, nc, hnv⟩ := own_slice X3.out.nod.1
        rw [HN.out.1] at hnv
        subst hnv
        have c2 := X3.out.c.2.2.1
        have HOA : Hid ((W3.alloc (.cells #[.int .i64 (x : Int)] 32)).ownsRow w.heap.size 32 1 (.slice na N nc) N (i64C nodes)) := by
         have := X3.out.nod.1.alloc (.cells #[.int .i64 (x : Int)] 32)
         rw [HN.out.1] at this
         exact this
        have hws := F3.out.size
        go_wp2_with (at_builtin; refine wpList_append_lies _ rfl _ _ 35 rfl w.heap.size 32 j0 _ 1 8 Tryz.underlying35 hJ0 hY0 hY1 hY2 rfl (by decide) (.slice na N nc) N _ rfl HOA.out ⟨W3.heap.size, 0, none⟩ 1 1 [.int .i64 (x : Int)] rfl rfl (World.news_of_block (heap_new rfl)) ?q2 (by decide) ?q3 ?q4 ?q5 (W3.heap.size + 1) (by simp) ?_)
        case q2 => first | rfl | (intro u hu; rw [List.mem_singleton.1 hu]; rfl)
        case q3 => unfold maxLen; omega
        case q4 => omega
        case q5 => first | omega | (simp; omega)
        intro g4 cap4 w4 ho hg hat _
        have hp := X3.out.pushN (x := x) (by rw [HN.out.1]; exact ho) hg hat (by omega)
        rw [HN.out.1] at hp
        obtain ⟨x4, c4a, z4a, f4⟩ := hp
        have X4 : Hid (LM w.heap.size wb tb _ _ _ _ _ _ _ _ _ _ _ _) := x4
        have K4 : Hid (Fr _ W3 _) := f4
        have hno : Hid (∀ b, b < w.heap.size → some b ≠ (Value.slice na N nc).ownBlock ∧ b ≠ wb) := fun b hb => ⟨fun e => by have := (X3.out.nod.1.lt b e.symm).1; omega, by have := X3.out.wlo; omega⟩
        have F4 : Hid (Fr (fun _ => True) w _) := F3.out.over f4 hno.out
        have Z4 : Hid (BVz L' _ (.slice xa xl xc) R) := Z3.out.frg f4 fun b _ hb => ⟨fun e => ty_ne hb (own_type X3.out.nod.1 b e.symm) (by decide) rfl, ty_ne hb ⟨_, _, X3.out.blk⟩ (by decide)⟩
        have B4 : Hid ((w4.setCell ⟨wb, 2, none⟩ (.slice (some ⟨g4, 0, none⟩) (N + 1) cap4)).heap[bx]? = some (.cells #[.int .i64 ok, .int .i64 oa, .int .i64 ob, .int .i64 oc, .slice ya yl yc, .slice za zl zc] 30 (0, 0))) := (f4.block bx (block_lt B3.out) ⟨fun e => ty_ne ⟨_, _, B3.out⟩ (own_type X3.out.nod.1 bx e.symm) (by decide) rfl, ty_ne ⟨_, _, B3.out⟩ ⟨_, _, X3.out.blk⟩ (by decide)⟩).trans B3.out
        clear ho hg hat x4 f4 HOA c2 hno K4 X3 F3 Z3 B3
        go_upto_region 17 with fail
        obtain ⟨W4, hW4⟩ : ∃ W4, w4.setCell ⟨wb, 2, none⟩ (.slice (some ⟨g4, 0, none⟩) (N + 1) cap4) = W4 := ⟨_, rfl⟩
        rw [hW4] at X4 F4 Z4 B4 ⊢
        clear hW4 c4a z4a hws
        obtain ⟨fa, fc, hfv⟩ : ∃ a c, fv = .slice a N c := by
         obtain ⟨vs, _, hv, _⟩ := X4.out.fun_
         obtain ⟨a, c, e⟩ := own_slice hv
         exact ⟨a, c, by rw [e, HN.out.2.1]⟩
        subst hfv
        obtain ⟨vs, hvs, hrow, hel, -⟩ := id X4.out.fun_
        have HEL : Hid (∀ (i : Nat) vx x, vs[i]? = some vx → fs[i]? = some x → BVz L' W4 vx x) := hel
        have HVS : Hid (vs.length = fs.length) := hvs
        have HRW : Hid (W4.ownsRow w.heap.size 28 1 (.slice fa N fc) fs.length vs) := hrow
        clear hvs hrow hel
        have cc := X4.out.c.2.2.2.1
        have HOA : Hid ((W4.alloc (.cells #[.slice xa xl xc] 28)).ownsRow w.heap.size 28 1 (.slice fa N fc) N vs) := by
         have := HRW.out.alloc (.cells #[.slice xa xl xc] 28)
         rw [HN.out.2.1] at this
         exact this
        have hws := F4.out.size
        go_wp2_with (at_builtin; refine wpList_append_lies _ rfl _ _ 37 rfl w.heap.size 28 i0 _ 1 24 Tryz.underlying37 hI0 hZ0 hZ1 hZ2 rfl (by decide) (.slice fa N fc) N _ rfl HOA.out ⟨W4.heap.size, 0, none⟩ 1 1 [.slice xa xl xc] rfl rfl (World.news_of_block (heap_new rfl)) ?q2 (by decide) ?q3 ?q4 ?q5 (W4.heap.size + 1) (by simp) ?_)
        case q2 => first | rfl | (intro u hu; rw [List.mem_singleton.1 hu]; rfl)
        case q3 => unfold maxLen; omega
        case q4 => omega
        case q5 => first | omega | (simp; omega)
        intro g4 cap4 w4 ho hg hat _
        have hp := X4.out.pushF (vx := .slice xa xl xc) (x := R) HVS.out HRW.out HEL.out Z4.out (by rw [HN.out.2.1]; exact ho) hg hat (by omega)
        rw [HN.out.2.1] at hp
        obtain ⟨x4, c4a, z4a, f4, hz4⟩ := hp
        have X5 : Hid (LM w.heap.size wb tb _ _ _ _ _ _ _ _ _ _ _ _) := x4
        have hno : Hid (∀ b, b < w.heap.size → some b ≠ (Value.slice fa N fc).ownBlock ∧ b ≠ wb) := fun b hb => ⟨fun e => by have := (HRW.out.lt b e.symm).1; omega, by have := X4.out.wlo; omega⟩
        have F5 : Hid (Fr (fun _ => True) w _) := F4.out.over f4 hno.out
        have Z5 : Hid (BVz L' _ (.slice xa xl xc) R) := hz4
        have B5 : Hid ((w4.setCell ⟨wb, 3, none⟩ (.slice (some ⟨g4, 0, none⟩) (N + 1) cap4)).heap[bx]? = some (.cells #[.int .i64 ok, .int .i64 oa, .int .i64 ob, .int .i64 oc, .slice ya yl yc, .slice za zl zc] 30 (0, 0))) := (f4.block bx (block_lt B4.out) ⟨fun e => ty_ne ⟨_, _, B4.out⟩ (own_type HRW.out bx e.symm) (by decide) rfl, ty_ne ⟨_, _, B4.out⟩ ⟨_, _, X4.out.blk⟩ (by decide)⟩).trans B4.out
        clear ho hg hat x4 f4 HOA cc hno hz4 HEL HVS HRW X4 F4 Z4 B4
        go_upto_region 18 with fail
        obtain ⟨W5, hW5⟩ : ∃ W5, w4.setCell ⟨wb, 3, none⟩ (.slice (some ⟨g4, 0, none⟩) (N + 1) cap4) = W5 := ⟨_, rfl⟩
        rw [hW5] at X5 F5 Z5 B5 ⊢
        clear hW5 c4a z4a hws
        obtain ⟨ga, gc, hgv⟩ : ∃ a c, gv = .slice a G c := by
         obtain ⟨vs, _, hv, _⟩ := X5.out.giv
         obtain ⟨a, c, e⟩ := own_slice hv
         exact ⟨a, c, by rw [e, HN.out.2.2.1]⟩
        subst hgv
        obtain ⟨vs, hvs, hrow, hel, -⟩ := id X5.out.giv
        have HEL : Hid (∀ (i : Nat) vx x, vs[i]? = some vx → given[i]? = some x → BVz L' W5 vx x) := hel
        have HVS : Hid (vs.length = given.length) := hvs
        have HRW : Hid (W5.ownsRow w.heap.size 28 1 (.slice ga G gc) given.length vs) := hrow
        clear hvs hrow hel
        have cc := X5.out.c.2.2.2.2.2
        have HOA : Hid ((W5.alloc (.cells #[.slice xa xl xc] 28)).ownsRow w.heap.size 28 1 (.slice ga G gc) G vs) := by
         have := HRW.out.alloc (.cells #[.slice xa xl xc] 28)
         rw [HN.out.2.2.1] at this
         exact this
        have hws := F5.out.size
        go_wp2_with (at_builtin; refine wpList_append_lies _ rfl _ _ 37 rfl w.heap.size 28 i0 _ 1 24 Tryz.underlying37 hI0 hZ0 hZ1 hZ2 rfl (by decide) (.slice ga G gc) G _ rfl HOA.out ⟨W5.heap.size, 0, none⟩ 1 1 [.slice xa xl xc] rfl rfl (World.news_of_block (heap_new rfl)) ?q2 (by decide) ?q3 ?q4 ?q5 (W5.heap.size + 1) (by simp) ?_)
        case q2 => first | rfl | (intro u hu; rw [List.mem_singleton.1 hu]; rfl)
        case q3 => unfold maxLen; omega
        case q4 => omega
        case q5 => first | omega | (simp; omega)
        intro g4 cap4 w4 ho hg hat _
        have hp := X5.out.pushG (vx := .slice xa xl xc) (x := R) HVS.out HRW.out HEL.out Z5.out (by rw [HN.out.2.2.1]; exact ho) hg hat (by omega)
        rw [HN.out.2.2.1] at hp
        obtain ⟨x4, c4a, z4a, f4, hz4⟩ := hp
        have X6 : Hid (LM w.heap.size wb tb _ _ _ _ _ _ _ _ _ _ _ _) := x4
        have hno : Hid (∀ b, b < w.heap.size → some b ≠ (Value.slice ga G gc).ownBlock ∧ b ≠ wb) := fun b hb => ⟨fun e => by have := (HRW.out.lt b e.symm).1; omega, by have := X5.out.wlo; omega⟩
        have F6 : Hid (Fr (fun _ => True) w _) := F5.out.over f4 hno.out
        have Z6 : Hid (BVz L' _ (.slice xa xl xc) R) := hz4
        have B6 : Hid ((w4.setCell ⟨wb, 5, none⟩ (.slice (some ⟨g4, 0, none⟩) (G + 1) cap4)).heap[bx]? = some (.cells #[.int .i64 ok, .int .i64 oa, .int .i64 ob, .int .i64 oc, .slice ya yl yc, .slice za zl zc] 30 (0, 0))) := (f4.block bx (block_lt B5.out) ⟨fun e => ty_ne ⟨_, _, B5.out⟩ (own_type HRW.out bx e.symm) (by decide) rfl, ty_ne ⟨_, _, B5.out⟩ ⟨_, _, X5.out.blk⟩ (by decide)⟩).trans B5.out
        clear ho hg hat x4 f4 HOA cc hno hz4 HEL HVS HRW X5 F5 Z5 B5
        go_upto_region 19 with fail
        obtain ⟨W6, hW6⟩ : ∃ W6, w4.setCell ⟨wb, 5, none⟩ (.slice (some ⟨g4, 0, none⟩) (G + 1) cap4) = W6 := ⟨_, rfl⟩
        rw [hW6] at X6 F6 Z6 B6 ⊢
        clear hW6 c4a z4a hws
        have HLK : Hid (Calls _ _ _ _ _) := looks_7 w W6 wb tb n (2 + (i + 1)) L' lv T' _ _ _ _ _ _ _ _ _ X6.out P3.out HOV.out HOK.out F6.out
        have d0 := block_cell B6.out 0
        have d1 := block_cell B6.out 1
        have d2 := block_cell B6.out 2
        have d3 := block_cell B6.out 3
        have d4 := block_cell B6.out 4
        have d5 := block_cell B6.out 5
        go_wp2_with fail
        refine HLK.out.mono ?_
        rintro e W7 ⟨rfl, hX, hF⟩
        have X7 : Hid (LM w.heap.size wb tb W7 L' n T' _ _ _ T'.ord _ _ _ _) := hX
        have F7 : Hid (Fr (fun _ => True) w W7) := hF
        clear hX hF HLK d0 d1 d2 d3 d4 d5 X6 F6 B6
        go_wp2_with fail
        go_roundg k
        case measure => omega
        case rel => exact ⟨i + 1, lv, T', L', _, _, _, _, _, _, _, by simp, by omega, X7.out, P3.out, F7.out⟩
      · have X3 : Hid (LM w.heap.size wb tb W3 L n T nodes fs given T.ord nv fv ov gv) := hX
        have P3 : Hid (LP (2 + (i + 1)) n lv T nodes fs given) := P.out.mono (by omega)
        have F3 : Hid (Fr (fun _ => True) w W3) := hF
        clear hX hF HMA e0 e1 e2 e3 e4 e5 B2 X2 F2 P LBX
        go_wp2_with fail
        go_roundg k
        case measure => omega
        case rel => exact ⟨i + 1, lv, T, L, nodes, fs, given, nv, fv, ov, gv, by simp, by omega, X3.out, P3.out, F3.out⟩
  · have hil : ¬ (i : Int) < (ln : Int) := by omega
    have HWH : Hid (Calls _ _ _ _ _) := whole_7 w wr wb tb n (2 + i) L lv T nodes fs given nv fv ov gv X.out P.out F.out
    go_wp2_with fail
    refine HWH.out.mono ?_
    rintro e W9 ⟨rfl, hf⟩
    go_wp2_with fail
    go_ret
    exact ⟨rfl, hf⟩
end Go.Proofs.YtaakjjefnjbabaaGreat.Sx
namespace Go.Proofs.YtaakjjefnjbabaaGreat.Sx
open Go.RowKit Go.Sort Go.Maps Go.WideMaps
theorem plays_all_7 (w : World) (n : Int) (v : Value) (l : List OpR) (hv : ScrV w v l) (hl : l.length ≤ 1048576) (hok : ∀ o ∈ l, OpOK o) :
 Calls Tryz.prog 7 #[.int .i64 n, v, .int .i64 7] w fun e w' => e = .returned (.bool true) ∧ Fr (fun _ => True) w w' := by
 by_cases h : n < 0 ∨ 9 < n
 · exact plays_out w n 7 h v
 · obtain ⟨m, rfl⟩ : ∃ m : Nat, n = (m : Int) := ⟨n.toNat, by omega⟩
   exact plays_7 w m (by omega) v l hv hl hok
theorem law_7 (w : World) (n : Int) (v : Value) (l : List OpR) (hv : ScrV w v l) (hl : l.length ≤ 1048576) (hok : ∀ o ∈ l, OpOK o) :
 Calls Tryz.prog 6 #[.int .i64 n, v] w fun e w' => e = .returned (.bool true) ∧ Fr (fun _ => True) w w' := by
 have HPL : Hid (Calls _ _ _ _ _) := plays_all_7 w n v l hv hl hok
 clear hv hl hok
 go_enter Tryz.func6, Tryz.ntmps6
 go_wp2_with fail
 refine HPL.out.mono ?_
 rintro e w' ⟨rfl, hf⟩
 go_wp2_with fail
 go_ret
 exact ⟨rfl, hf⟩
end Go.Proofs.YtaakjjefnjbabaaGreat.Sx
namespace Go.Proofs.YtaakjjefnjbabaaGreat.Sx
open Go.RowKit Go.Sort Go.ChangeShapes Go.WideShapes Go.ChangeAt Go.Deep
theorem Fr.toBelow7 {w w' : World} (h : Fr (fun _ => True) w w') : Below w.heap.size w w' := ⟨h.os, h.tape, h.output, h.size, fun k hk => h.block k hk trivial⟩
theorem lifted_7 (os : Os) (started : os.Started) (H : Type) (enc : TypeId × Value → H) (F : Stop.Interp) :
 ReturnsInHanded {} Tryz.checked os 6 .any ((Rows.OpenSpec.upto Rows.bddAllSpec).pre6 enc Tryz.prog Tryz.f6 Rows.bddAllUptoRow.domain false) (((Rows.OpenSpec.upto Rows.bddAllSpec).at F).post enc Tryz.prog Tryz.f6 false true false false) := by
 refine returnsInHanded_of_cond (C := Tryz.checked) (s := Rows.OpenSpec.upto Rows.bddAllSpec) (k := Rows.uptoSmall) rfl own started (by kernel_rfl) Tryz.func6
  (OpenSpec.witness (enc := enc) (C := Tryz.checked) (s := Rows.OpenSpec.upto Rows.bddAllSpec) (k := Rows.uptoSmall) rfl false ⟨#[], #[.int .i64 0, .slice none 0 0], []⟩ 8 (by kernel_rfl) (by kernel_rfl) (by kernel_rfl)
    (x := ([.lit (.int .i64 0), .nil], [], [])) (by kernel_rfl) rfl (by kernel_rfl)) ?_
 intro W base args ds gs before hval0 hW _ hk _
 have hval : ∀ (j : Nat) t v, Tryz.f6.params[j]? = some t → args[j]? = some v → Value.okWide Tryz.prog W .any base t v := hval0
 have hW' := hW
 obtain ⟨p, q, hA0, hV, rfl, hfz, hnd⟩ := hW
 have hA : DataW.TrodAll enc Tryz.prog W 0 (fun _ => true) true Tryz.f6.params.toList args.toList ds p := hA0
 rw [Tryz.params6] at hA hval
 obtain ⟨v0, vs0, d0, ds0, p0, q0, hargs, rfl, rfl, h0, r0⟩ := trodAll_cons hA
 obtain ⟨v1, vs1, d1, ds1, p1, q1, rfl, rfl, rfl, h1, r1⟩ := trodAll_cons r0
 obtain ⟨rfl, rfl, rfl⟩ := trodAll_nil r1
 obtain rfl : args = #[v0, v1] := by cases args; simp_all
 obtain ⟨rfl, rfl⟩ := trodVars_none hV
 obtain ⟨n, rfl, rfl, rfl, wn⟩ := open_int Tryz.underlying3 (hval 0 3 v0 rfl rfl) h0
 obtain ⟨a1, l1, c1, rfl⟩ := okWide_slice Tryz.underlying22 (hval 1 22 v1 rfl rfl)
 have hbulk : Rows.uptoBulkAll [DataW.lit (.int .i64 n), d1] ≤ 1048576 := by
  have := of_decide_eq_true hk
  simpa using this
 simp only [Rows.uptoBulkAll] at hbulk
 have lt1 : ∀ x ∈ p1, x.block < W.heap.size := by obtain ⟨m, hm⟩ := h1; exact DataW.trod_lt m _ _ _ hm
 obtain ⟨l, hl1, hl2, hl3⟩ := ops_of h1 (by omega)
 clear hA0 hval0
 refine (law_7 W n _ l hl1 hl2 hl3).mono fun e W' ⟨he, hf⟩ => ?_
 subst he
 have bel := hf.toBelow7
 exact ⟨_, rfl, _, _, _, [], _, [], hW', trodAll_mk1 (shut_bool Tryz.underlying4 _), (trodAll_cons_mk (shut_int Tryz.underlying3 wn) (trodAll_cons_mk (Below.trod laidOut (by kernel_rfl) (of_decide_eq_true (by kernel_rfl)) h1 bel lt1) trodAll_mk0)), rfl, bel.frame _, fun h => by cases h⟩
theorem over_7 : Rows.bddAllUptoRow.holds Tryz.pinned (Rows.OpenSpec.upto Rows.bddAllSpec) :=
 OpenClaim.holds_of_cond 6 Tryz.f6 rfl rfl rfl rfl rfl rfl rfl ⟨rfl, rfl, rfl, rfl, rfl⟩ rfl rfl rfl rfl rfl (by kernel_rfl) Tryz.func6 (by kernel_rfl)
  (of_decide_eq_true (by kernel_rfl)) (by unfold Func.isWrapper; rw [if_neg (of_decide_eq_false (by kernel_rfl))]; exact ⟨rfl, rfl⟩)
  (fun os started H enc _ F => lifted_7 os started H enc F)
end Go.Proofs.YtaakjjefnjbabaaGreat.Sx
namespace Go.Proofs.YtaakjjefnjbabaaGreat
theorem bddAll_holds : Rows.BddAllUptoSaid := Sx.over_7
end Go.Proofs.YtaakjjefnjbabaaGreat
