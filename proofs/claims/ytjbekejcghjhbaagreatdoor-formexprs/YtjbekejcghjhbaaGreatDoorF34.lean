/- The reference: signs between two parts, level by level. -/
import Derived.Test.YtjbekejcghjhbaaGreatDoorF33
import Derived.Deep.DeepCutAuto
namespace Go.Proofs.YtjbekejcghjhbaaGreatDoor.Sx
open Go.RowKit Go.Sort

theorem level_in {l : List UInt8} (h : levelF l ≠ 0) : l ∈ joins.map Prod.fst := by
  by_cases q : l ∈ joins.map Prod.fst
  · exact q
  · exact absurd (by unfold levelF; rw [lookup_none _ q]; rfl) h
theorem joins_mark {l : List UInt8} (h : l ∈ joins.map Prod.fst) : l ∈ marks := by
  unfold marks
  exact List.mem_append_right _ h
theorem level_cl {t : Tk} (h : TkOK t) (hl : levelF t.tx ≠ 0) : t.cl = 1 ∨ t.cl = 4 := mark_cl h (joins_mark (level_in hl)) rfl
theorem level_tokB {t : Tk} (h : TkOK t) : levelF (tokB t).data.toList = levelF t.tx := by
  by_cases h5 : t.cl = 5
  · have e : levelF t.tx = 0 := by
      by_cases q : levelF t.tx = 0
      · exact q
      · have := level_cl h q; omega
    rw [e]; unfold tokB; rw [if_pos h5]; rfl
  · rw [tokB_list t h5]
theorem lvl_cases {K : Nat → Tk} {self : Nat → Nat → Nat → RX PX} {n d f i : Nat} {x : PX} {r : Except (Nat × Nat) (PX × Nat)} (hp : lvlX K self n d (f + 1) x i = some r) :
    (levelF (K i).tx = n ∧ ∃ r1, runS (.ok (i + 1)) (self (rightF n) d) = some r1 ∧ runS (stX r1) (fun j => if fromL n then lvlX K self n d f (dBin (K i).tx x (valX noX r1)) j else okX (dBin (K i).tx x (valX noX r1)) j) = some r) ∨
    (levelF (K i).tx ≠ n ∧ r = .ok (x, i)) := by
  simp only [lvlX] at hp
  by_cases h1 : levelF (K i).tx = n
  · rw [if_pos h1] at hp
    obtain ⟨r1, a, b⟩ := runS_bX (s := .ok (i + 1)) (f := self (rightF n) d) noX hp
    exact .inl ⟨h1, r1, a, b⟩
  · rw [if_neg h1] at hp
    refine .inr ⟨h1, ?_⟩
    simp only [okX, Option.some.injEq] at hp
    exact hp.symm
theorem sort_sign (c : Nat) (h : c = 1 ∨ c = 4) : sortB c = 111 ∨ sortB c = 119 := by rcases h with rfl | rfl <;> decide

theorem TBlk.all {w : World} {b v : Nat} {tx : ByteArray} {a : Int} (h : TBlk w b v tx a) (v2 : Nat) (tx2 : ByteArray) (a2 : Int) : TBlk (((w.setCell ⟨b, 0, none⟩ (.int .u8 (v2 : Int))).setCell ⟨b, 1, none⟩ (.string tx2)).setCell ⟨b, 2, none⟩ (.int .i64 a2)).drew b v2 tx2 a2 := by
  have h3 : TBlk (((w.setCell ⟨b, 0, none⟩ (.int .u8 (v2 : Int))).setCell ⟨b, 1, none⟩ (.string tx2)).setCell ⟨b, 2, none⟩ (.int .i64 a2)) b v2 tx2 a2 := by
    have := set_block (set_block (set_block h 0 (.int .u8 (v2 : Int))) 1 (.string tx2)) 2 (.int .i64 a2)
    simpa [TBlk] using this
  exact h3.grew (Grew.refl _).drew
set_option maxRecDepth 100000 in
set_option maxHeartbeats 8000000 in
theorem gP_level {K : Nat → Tk} {N br bl : Nat} {self : Nat → Nat → Nat → RX PX} (hS : SelfR K N br bl self) (hK : ∀ i, TkOK (K i)) (hL : Last K N) (hN : N ≤ 1000000) (w : World) (d m n i : Nat) (hd : d ≤ 24) (h : RSd K N w br bl (.ok i) d)
    (hn : 1 ≤ n ∧ n ≤ 11 ∧ n ≠ 6) (q r : Except (Nat × Nat) (PX × Nat)) (hP : ∀ W, RSd K N W br bl (.ok i) d → Calls Tryz.prog 58 #[.pointer (some ⟨br, 0, none⟩), .int .i64 ((n : Int) + 1)] W (PostT K N W br bl d q))
    (hr : runS (stX q) (fun j => lvlX K self n d m (valX noX q) j) = some r) :
    Calls Tryz.prog 58 #[.pointer (some ⟨br, 0, none⟩), .int .i64 (n : Int)] w (PostT K N w br bl d r) := by
  have HS : Hid (SelfR K N br bl self) := hS
  have HK : Hid (∀ i, TkOK (K i)) := hK
  have HL : Hid (Last K N) := hL
  have HR : Hid (RSd K N w br bl (.ok i) d) := h
  have HP : Hid (∀ W, RSd K N W br bl (.ok i) d → Calls _ _ _ _ _) := hP
  have H0 : Hid (runS (stX q) (fun j => lvlX K self n d m (valX noX q) j) = some r) := hr
  obtain ⟨cap, bad, dd, hb, hI, hne, hbl, t0, t1, t2⟩ := h.open
  obtain ⟨hdr, u0, u1, u2⟩ := RS.cells hb hbl t0 t1 t2
  have c0 := block_cell hb 0
  have c1 := block_cell hb 1
  have c3 := block_cell hb 3
  have k0 := block_cell hdr 0
  have k1 := block_cell hdr 1
  have hbr := block_lt hb
  have hI1 : (i : Int) < ((N + 1 : Nat) : Int) := by omega
  have mo := follows
  obtain ⟨sb, hsb⟩ : ∃ sb, sortB (K i).cl = sb := ⟨_, rfl⟩
  obtain ⟨tx, htx⟩ : ∃ tx, tokB (K i) = tx := ⟨_, rfl⟩
  obtain ⟨aa, haa⟩ : ∃ aa, (K i).at' = aa := ⟨_, rfl⟩
  rw [hsb] at t0 u0
  rw [htx] at t1 u1
  rw [haa] at t2 u2
  have n0 : ((n : Int) == 0) = false := by rw [beq_eq_false_iff_ne]; omega
  have n6 : ((n : Int) == 6) = false := by rw [beq_eq_false_iff_ne]; omega
  have n12 : ((n : Int) == 12) = false := by rw [beq_eq_false_iff_ne]; omega
  have hn11 : n ≤ 11 := hn.2.1
  have HN : Hid (1 ≤ n ∧ n ≤ 11 ∧ n ≠ 6) := hn
  clear hb hdr h hS hK hL hsb htx haa hP hr hn
  go_enter Tryz.func58, Tryz.ntmps58
  go_wp2_with fail
  go_big_region_o
  have T1 : Hid (TBlk _ w.heap.size sb tx (aa : Int)) := TBlk.new w sb tx (aa : Int)
  have G1 : Hid (Grew w (w.alloc (.cells #[.int .u8 (sb : Int), .string tx, .int .i64 (aa : Int)] 106)).drew) := ((Grew.refl w).alloc _).drew
  clear c0 c1 c3 k0 k1 u0 u1 u2 t0 t1 t2 hI1
  generalize (w.alloc (.cells #[.int .u8 (sb : Int), .string tx, .int .i64 (aa : Int)] 106)).drew = W1 at G1 T1 ⊢
  obtain ⟨bt, hbt⟩ : ∃ bt, w.heap.size = bt := ⟨_, rfl⟩
  rw [hbt] at T1 hbr ⊢
  have htw : bt ≤ w.heap.size := by omega
  have hwt : w.heap.size ≤ bt := by omega
  clear hbt
  have hbtr : bt ≠ br := by omega
  have hbtl : bt ≠ bl := by omega
  have R1 : Hid (RSd K N W1 br bl (.ok i) d) := HR.out.grew G1.out
  go_wp2_with fail
  refine (HP.out W1 R1.out).mono ?_
  rintro e W2 ⟨hf2, hr2, b2, rfl, ht2⟩
  have R2 : Hid (RSd K N W2 br bl (stX q) d) := hr2
  have F2 : Hid (Fr (· ≠ br) w W2) := (Fr.grew G1.out).trans hf2
  have T2 : Hid (TBlk W2 bt sb tx (aa : Int)) := T1.out.fr hf2 hbtr
  have hz1 := G1.out.below.size
  have hbt1 : bt < W1.heap.size := block_lt T1.out
  have X2 : Hid (OkS (stX q) → TreeT (fun k => bt < k) W2 (valX noX q) (.pointer (some ⟨b2, 0, none⟩))) := fun o => by
    obtain ⟨j, e⟩ := ok_val noX o
    exact (ht2 _ _ e).fr (Fr.refl _ _) fun _ _ q => by omega
  clear hf2 hr2 ht2 R1 G1 T1 HP HR
  go_wp2_with fail
  go_loopg [15] (m) (fun f s15 wr => ∃ (s : SX) (x : PX) (b sb : Nat) (tx : ByteArray) (aa : Int), s15 = .pointer (some ⟨b, 0, none⟩) ∧ Hid (RSd K N wr br bl s d) ∧ Hid (TBlk wr bt sb tx aa) ∧ Hid (OkS s → TreeT (fun k => bt < k) wr x (.pointer (some ⟨b, 0, none⟩))) ∧ Hid (runS s (fun j => lvlX K self n d f x j) = some r) ∧ Hid (Fr (· ≠ br) w wr))
  case atStart => exact ⟨stX q, valX noX q, b2, sb, tx, (aa : Int), rfl, R2, T2, X2, H0, F2⟩
  case round =>
    clear R2 T2 X2 H0 F2
    obtain ⟨s1, x1, bx, sb, tx, aa, rfl, R1, T1, X1, P1, F1⟩ := hrel
    obtain ⟨e3, hfault⟩ := R1.out.err
    rcases s1 with ⟨c, p⟩ | i1
    · have hc := hfault c p rfl
      simp only [ec] at e3
      have HQ : Hid (r = .error (c, p)) := by have := P1.out; simp only [runS, Option.some.injEq] at this; exact this.symm
      clear hfault P1
      go_wp2_with fail
      go_ret
      rw [HQ.out]
      exact ⟨F1.out, R1.out, bx, rfl, fun l j e => by simp at e⟩
    · obtain ⟨f, rfl⟩ : ∃ f, gk = f + 1 := by
        cases gk with
        | zero => exact absurd P1.out (by simp [lvlX, runS])
        | succ f => exact ⟨f, rfl⟩
      simp only [ec] at e3
      have HX1 : Hid (TreeT (fun k => bt < k) wr x1 (.pointer (some ⟨bx, 0, none⟩))) := X1.out ⟨i1, rfl⟩
      have HB : Hid _ := lvl_cases (show lvlX K self n d (f + 1) x1 i1 = some r from P1.out)
      have HTB : Hid (levelF (tokB (K i1)).data.toList = levelF (K i1).tx) := level_tokB (HK.out i1)
      obtain ⟨cap, bad, dd, hb, hI, hne, hbl1, t0, t1, t2⟩ := R1.out.open
      obtain ⟨hdr, u0, u1, u2⟩ := RS.cells hb hbl1 t0 t1 t2
      have c0 := block_cell hb 0
      have c1 := block_cell hb 1
      have c3 := block_cell hb 3
      have k0 := block_cell hdr 0
      have k1 := block_cell hdr 1
      have hTd : TBlk wr.drew bt sb tx aa := T1.out.grew (Grew.refl wr).drew
      have p0 := block_cell T1.out 0
      have p1 := block_cell T1.out 1
      have p2 := block_cell T1.out 2
      have l0 := frozen_block T1.out 0
      have l1 := frozen_block T1.out 1
      have l2 := frozen_block T1.out 2
      have s0 := block_cell hTd 0
      have s1 := block_cell hTd 1
      have s2 := block_cell hTd 2
      have m0 := frozen_block hTd 0
      have m1 := frozen_block hTd 1
      have m2 := frozen_block hTd 2
      have hbtw := block_lt T1.out
      have hww := F1.out.size
      have hI1 : (i1 : Int) < ((N + 1 : Nat) : Int) := by omega
      obtain ⟨sb2, hsb⟩ : ∃ sb, sortB (K i1).cl = sb := ⟨_, rfl⟩
      obtain ⟨tx2, htx⟩ : ∃ tx, tokB (K i1) = tx := ⟨_, rfl⟩
      obtain ⟨aa2, haa⟩ : ∃ aa, (K i1).at' = aa := ⟨_, rfl⟩
      have HSB : Hid (sortB (K i1).cl = sb2) := hsb
      have HTX : Hid (tokB (K i1) = tx2) := htx
      rw [hsb] at t0 u0
      rw [htx] at t1 u1 HTB
      rw [haa] at t2 u2
      clear hb hdr hsb htx haa hfault P1 X1 e3 hTd
      go_wp2_with fail
      go_big_region_o
      have hbl1 : bl < w.heap.size := hbl
      have hfs : Fr (· ≠ bt) wr (((wr.setCell ⟨bt, 0, none⟩ (.int .u8 (sb2 : Int))).setCell ⟨bt, 1, none⟩ (.string tx2)).setCell ⟨bt, 2, none⟩ (.int .i64 (aa2 : Int))).drew := ((((Fr.refl _ wr).set (by simp) _).set (by simp) _).set (by simp) _).drew
      have T2 : Hid (TBlk (((wr.setCell ⟨bt, 0, none⟩ (.int .u8 (sb2 : Int))).setCell ⟨bt, 1, none⟩ (.string tx2)).setCell ⟨bt, 2, none⟩ (.int .i64 (aa2 : Int))).drew bt sb2 tx2 (aa2 : Int)) := TBlk.all T1.out sb2 tx2 (aa2 : Int)
      have R2 : Hid (RSd K N (((wr.setCell ⟨bt, 0, none⟩ (.int .u8 (sb2 : Int))).setCell ⟨bt, 1, none⟩ (.string tx2)).setCell ⟨bt, 2, none⟩ (.int .i64 (aa2 : Int))).drew br bl (.ok i1) d) := R1.out.fr hfs (Ne.symm hbtr) (Ne.symm hbtl)
      have F2 : Hid (Fr (· ≠ br) w (((wr.setCell ⟨bt, 0, none⟩ (.int .u8 (sb2 : Int))).setCell ⟨bt, 1, none⟩ (.string tx2)).setCell ⟨bt, 2, none⟩ (.int .i64 (aa2 : Int))).drew) := Fr.freshT F1.out (hfs.mono fun _ q => q.2) hwt
      have X2 : Hid (TreeT (fun k => bt < k) (((wr.setCell ⟨bt, 0, none⟩ (.int .u8 (sb2 : Int))).setCell ⟨bt, 1, none⟩ (.string tx2)).setCell ⟨bt, 2, none⟩ (.int .i64 (aa2 : Int))).drew x1 (.pointer (some ⟨bx, 0, none⟩))) := HX1.out.fr (hfs.mono fun k q => by omega) fun _ _ q => q
      clear c0 c1 c3 k0 k1 t0 t1 t2 u0 u1 u2 p0 p1 p2 l0 l1 l2 s0 s1 s2 m0 m1 m2 hI1 hfs R1 T1 F1 HX1
      generalize (((wr.setCell ⟨bt, 0, none⟩ (.int .u8 (sb2 : Int))).setCell ⟨bt, 1, none⟩ (.string tx2)).setCell ⟨bt, 2, none⟩ (.int .i64 (aa2 : Int))).drew = W2 at T2 R2 F2 X2 ⊢
      have HLV : Hid (∀ W, Calls Tryz.prog 114 #[.string tx2] W fun e w' => e = .returned (.int .i64 (levelF (K i1).tx : Int)) ∧ w' = W) := fun W => by have := glevel_any tx2 W; rw [HTB.out] at this; exact this
      have p0 := block_cell T2.out 0
      have p1 := block_cell T2.out 1
      have p2 := block_cell T2.out 2
      rcases HB.out with ⟨hlv, r1, h1, hk⟩ | ⟨hlv, hre⟩
      · have hcl := level_cl (HK.out i1) (by have := HN.out.1; omega)
        have hiN : i1 < N := HL.out.lt hI (m := (K i1).tx) (by simp) (joins_mark (level_in (by have := HN.out.1; omega)))
        have hsg := sort_sign _ hcl
        rw [HSB.out] at hsg
        have HOP : Hid (tx2.data.toList = (K i1).tx) := by show _ = _; rw [← HTX.out]; exact tokB_list _ (by omega)
        have HJ : Hid ((K i1).tx ∈ joins.map Prod.fst) := level_in (by have := HN.out.1; omega)
        obtain ⟨e1, f1⟩ := R2.out.block
        have R3 : Hid (RSd K N (W2.setCell ⟨br, 1, none⟩ (.int .i64 ((i1 : Int) + 1))) br bl (.ok (i1 + 1)) d) := R2.out.next hiN
        have hfb : Fr (· ≠ br) W2 (W2.setCell ⟨br, 1, none⟩ (.int .i64 ((i1 : Int) + 1))) := (Fr.refl _ W2).set (by simp) _
        have F3 : Hid (Fr (· ≠ br) w (W2.setCell ⟨br, 1, none⟩ (.int .i64 ((i1 : Int) + 1)))) := F2.out.trans hfb
        have T3 : Hid (TBlk (W2.setCell ⟨br, 1, none⟩ (.int .i64 ((i1 : Int) + 1))) bt sb2 tx2 (aa2 : Int)) := T2.out.fr hfb hbtr
        have X3 : Hid (TreeT (fun k => bt < k) (W2.setCell ⟨br, 1, none⟩ (.int .i64 ((i1 : Int) + 1))) x1 (.pointer (some ⟨bx, 0, none⟩))) := X2.out.fr (hfb.mono fun k q => by omega) fun _ _ q => q
        have H1 : Hid (runS (.ok (i1 + 1)) (self (rightF n) d) = some r1) := h1
        have HKK : Hid (runS (stX r1) (fun j => if fromL n then lvlX K self n d f (dBin (K i1).tx x1 (valX noX r1)) j else okX (dBin (K i1).tx x1 (valX noX r1)) j) = some r) := hk
        have HLV2 : Hid (∀ W, Calls Tryz.prog 114 #[.string tx2] W fun e w' => e = .returned (.int .i64 (n : Int)) ∧ w' = W) := fun W => by have := HLV.out W; rw [hlv] at this; exact this
        have nn : ((n : Int) != (n : Int)) = false := by simp
        have hwW : w.heap.size ≤ W2.heap.size := F2.out.size
        have hbW : br < W2.heap.size := R2.out.lt
        have hgg : ((sb2 : Int) != 111) = false ∨ (((sb2 : Int) != 111) = true ∧ ((sb2 : Int) != 119) = false) := by rcases hsg with h | h <;> rw [h] <;> decide
        clear HB HLV hlv h1 hk hcl hfb R2 F2 T2 X2 hsg
        go_upto_region 38 with (go_at_call 114; refine (HLV2.out _).mono ?_; rintro e w' ⟨rfl, hw⟩; obtain rfl := hw.symm)
        go_cut [142] (fun s142 wc => s142 = .bool false ∧ W2 = wc)
        case first =>
          rcases hgg with g1 | ⟨g1, g2⟩
          all_goals
            go_wp2_with fail
            go_meet
            case rel => exact ⟨rfl, rfl⟩
        case rest =>
          obtain ⟨rfl, rfl⟩ := hcut
          clear p0 p1 p2 hgg
          rcases (show n = 1 ∨ n = 3 ∨ (7 ≤ n ∧ n ≤ 9) ∨ (n = 2 ∨ n = 4 ∨ n = 5) ∨ (n = 10 ∨ n = 11) from by have := HN.out; omega) with rfl | rfl | ⟨ha, hb⟩ | hc | hc
          · clear HN
            go_upto_region 43 with fail
            clear e1 f1
            generalize W2.setCell ⟨br, 1, none⟩ (.int .i64 ((i1 : Int) + 1)) = W3 at R3 F3 T3 X3 ⊢
            go_wp2_with fail
            refine (HS.out W3 2 d (.ok (i1 + 1)) r1 (by omega) (fun _ => hd) R3.out H1.out).mono ?_
            rintro e W4 ⟨hf4, hr4, by', rfl, ht4⟩
            have hz3 := F3.out.size
            have hb3 : br < W3.heap.size := by omega
            have hbt3 : bt < W3.heap.size := block_lt T3.out
            have R4 : Hid (RSd K N W4 br bl (stX r1) d) := hr4
            have F4 : Hid (Fr (· ≠ br) w W4) := F3.out.trans hf4
            have T4 : Hid (TBlk W4 bt sb2 tx2 (aa2 : Int)) := T3.out.fr hf4 hbtr
            have X4 : Hid (TreeT (fun k => bt < k) W4 x1 (.pointer (some ⟨bx, 0, none⟩))) := X3.out.fr (hf4.mono fun k q => by omega) fun _ _ q => q
            have Y4 : Hid (OkS (stX r1) → TreeT (fun k => bt < k) W4 (valX noX r1) (.pointer (some ⟨by', 0, none⟩))) := fun o => by
              obtain ⟨j, e⟩ := ok_val noX o
              exact (ht4 _ _ e).fr (Fr.refl _ _) fun _ _ q => by omega
            clear hf4 hr4 ht4 R3 F3 T3 X3 H1
            have q1 := block_cell T4.out 1
            have q2 := block_cell T4.out 2
            have hbt4 := block_lt T4.out
            have hG : Hid (Grew W4 ((W4.alloc (.cells #[.pointer (some ⟨bx, 0, none⟩), .pointer (some ⟨by', 0, none⟩)] 57)).alloc (.cells #[.string tx2, .int .i64 (aa2 : Int), .string ⟨#[]⟩, .int .i64 0, .int .i64 0, .string ⟨#[]⟩, .slice none 0 0, .slice none 0 0, .slice (some ⟨W4.heap.size, 0, none⟩) 2 2, .int .i64 0, .int .i64 0] 165))) := ((Grew.refl _).alloc _).alloc _
            have A5 : Hid (OkS (stX r1) → TreeT (fun k => bt < k) ((W4.alloc (.cells #[.pointer (some ⟨bx, 0, none⟩), .pointer (some ⟨by', 0, none⟩)] 57)).alloc (.cells #[.string tx2, .int .i64 (aa2 : Int), .string ⟨#[]⟩, .int .i64 0, .int .i64 0, .string ⟨#[]⟩, .slice none 0 0, .slice none 0 0, .slice (some ⟨W4.heap.size, 0, none⟩) 2 2, .int .i64 0, .int .i64 0] 165)) (dBin (K i1).tx x1 (valX noX r1)) (.pointer (some ⟨W4.heap.size + 1, 0, none⟩))) := fun o => newT (lo := bt + 1) (nm := ⟨#[]⟩) (kids := [x1, valX noX r1]) rfl (by decide) (fun k y e => by
              match k, e with
              | 0, e => simp at e; subst e; exact ⟨_, rfl, X4.out⟩
              | 1, e => simp at e; subst e; exact ⟨_, rfl, Y4.out o⟩
              | k + 2, e => simp at e) (by omega) (.inr (.inr (.inr (.inr (.inr (.inr (.inr (.inr (.inr (.inr (.inr (.inr (.inr (.inr (.inr (.inr (.inr (.inr (.inr ⟨by rw [HOP.out]; exact HJ.out, _, _, rfl, by rw [HOP.out]⟩)))))))))))))))))))
            have HQ : Hid (stX r = stX r1 ∧ ∀ y j, r = .ok (y, j) → y = dBin (K i1).tx x1 (valX noX r1)) := by
              have := HKK.out
              have hfl : fromL 1 = false := by rfl
              simp only [hfl, Bool.false_eq_true, if_false] at this
              exact ok_run this
            go_wp2_with fail
            go_ret
            refine ⟨F4.out.trans (Fr.grew hG.out), by rw [HQ.out.1]; exact R4.out.grew hG.out, W4.heap.size + 1, rfl, fun y j e => ?_⟩
            rw [HQ.out.2 y j e]
            exact (A5.out (by rw [← HQ.out.1]; exact ok_of e)).fr (Fr.refl _ _) fun _ _ q => by omega
          · clear HN
            go_upto_region 43 with fail
            clear e1 f1
            generalize W2.setCell ⟨br, 1, none⟩ (.int .i64 ((i1 : Int) + 1)) = W3 at R3 F3 T3 X3 ⊢
            go_wp2_with fail
            refine (HS.out W3 3 d (.ok (i1 + 1)) r1 (by omega) (fun _ => hd) R3.out H1.out).mono ?_
            rintro e W4 ⟨hf4, hr4, by', rfl, ht4⟩
            have hz3 := F3.out.size
            have hb3 : br < W3.heap.size := by omega
            have hbt3 : bt < W3.heap.size := block_lt T3.out
            have R4 : Hid (RSd K N W4 br bl (stX r1) d) := hr4
            have F4 : Hid (Fr (· ≠ br) w W4) := F3.out.trans hf4
            have T4 : Hid (TBlk W4 bt sb2 tx2 (aa2 : Int)) := T3.out.fr hf4 hbtr
            have X4 : Hid (TreeT (fun k => bt < k) W4 x1 (.pointer (some ⟨bx, 0, none⟩))) := X3.out.fr (hf4.mono fun k q => by omega) fun _ _ q => q
            have Y4 : Hid (OkS (stX r1) → TreeT (fun k => bt < k) W4 (valX noX r1) (.pointer (some ⟨by', 0, none⟩))) := fun o => by
              obtain ⟨j, e⟩ := ok_val noX o
              exact (ht4 _ _ e).fr (Fr.refl _ _) fun _ _ q => by omega
            clear hf4 hr4 ht4 R3 F3 T3 X3 H1
            have q1 := block_cell T4.out 1
            have q2 := block_cell T4.out 2
            have hbt4 := block_lt T4.out
            have hG : Hid (Grew W4 ((W4.alloc (.cells #[.pointer (some ⟨bx, 0, none⟩), .pointer (some ⟨by', 0, none⟩)] 57)).alloc (.cells #[.string tx2, .int .i64 (aa2 : Int), .string ⟨#[]⟩, .int .i64 0, .int .i64 0, .string ⟨#[]⟩, .slice none 0 0, .slice none 0 0, .slice (some ⟨W4.heap.size, 0, none⟩) 2 2, .int .i64 0, .int .i64 0] 165))) := ((Grew.refl _).alloc _).alloc _
            have A5 : Hid (OkS (stX r1) → TreeT (fun k => bt < k) ((W4.alloc (.cells #[.pointer (some ⟨bx, 0, none⟩), .pointer (some ⟨by', 0, none⟩)] 57)).alloc (.cells #[.string tx2, .int .i64 (aa2 : Int), .string ⟨#[]⟩, .int .i64 0, .int .i64 0, .string ⟨#[]⟩, .slice none 0 0, .slice none 0 0, .slice (some ⟨W4.heap.size, 0, none⟩) 2 2, .int .i64 0, .int .i64 0] 165)) (dBin (K i1).tx x1 (valX noX r1)) (.pointer (some ⟨W4.heap.size + 1, 0, none⟩))) := fun o => newT (lo := bt + 1) (nm := ⟨#[]⟩) (kids := [x1, valX noX r1]) rfl (by decide) (fun k y e => by
              match k, e with
              | 0, e => simp at e; subst e; exact ⟨_, rfl, X4.out⟩
              | 1, e => simp at e; subst e; exact ⟨_, rfl, Y4.out o⟩
              | k + 2, e => simp at e) (by omega) (.inr (.inr (.inr (.inr (.inr (.inr (.inr (.inr (.inr (.inr (.inr (.inr (.inr (.inr (.inr (.inr (.inr (.inr (.inr ⟨by rw [HOP.out]; exact HJ.out, _, _, rfl, by rw [HOP.out]⟩)))))))))))))))))))
            have HQ : Hid (stX r = stX r1 ∧ ∀ y j, r = .ok (y, j) → y = dBin (K i1).tx x1 (valX noX r1)) := by
              have := HKK.out
              have hfl : fromL 3 = false := by rfl
              simp only [hfl, Bool.false_eq_true, if_false] at this
              exact ok_run this
            go_wp2_with fail
            go_ret
            refine ⟨F4.out.trans (Fr.grew hG.out), by rw [HQ.out.1]; exact R4.out.grew hG.out, W4.heap.size + 1, rfl, fun y j e => ?_⟩
            rw [HQ.out.2 y j e]
            exact (A5.out (by rw [← HQ.out.1]; exact ok_of e)).fr (Fr.refl _ _) fun _ _ q => by omega
          · have n1 : ((n : Int) == 1) = false := by rw [beq_eq_false_iff_ne]; omega
            have n3 : ((n : Int) == 3) = false := by rw [beq_eq_false_iff_ne]; omega
            have hrt : rightF n = n + 1 := by unfold rightF; rw [if_neg (by omega)]
            rw [hrt] at H1
            have n7 : (7 : Int) ≤ (n : Int) := by omega
            have n9 : (n : Int) ≤ 9 := by omega
            clear HN hrt
            go_upto_region 43 with fail
            clear e1 f1
            generalize W2.setCell ⟨br, 1, none⟩ (.int .i64 ((i1 : Int) + 1)) = W3 at R3 F3 T3 X3 ⊢
            go_wp2_with fail
            refine (HS.out W3 (n + 1) d (.ok (i1 + 1)) r1 (by omega) (fun _ => hd) R3.out H1.out).mono ?_
            rintro e W4 ⟨hf4, hr4, by', rfl, ht4⟩
            have hz3 := F3.out.size
            have hb3 : br < W3.heap.size := by omega
            have hbt3 : bt < W3.heap.size := block_lt T3.out
            have R4 : Hid (RSd K N W4 br bl (stX r1) d) := hr4
            have F4 : Hid (Fr (· ≠ br) w W4) := F3.out.trans hf4
            have T4 : Hid (TBlk W4 bt sb2 tx2 (aa2 : Int)) := T3.out.fr hf4 hbtr
            have X4 : Hid (TreeT (fun k => bt < k) W4 x1 (.pointer (some ⟨bx, 0, none⟩))) := X3.out.fr (hf4.mono fun k q => by omega) fun _ _ q => q
            have Y4 : Hid (OkS (stX r1) → TreeT (fun k => bt < k) W4 (valX noX r1) (.pointer (some ⟨by', 0, none⟩))) := fun o => by
              obtain ⟨j, e⟩ := ok_val noX o
              exact (ht4 _ _ e).fr (Fr.refl _ _) fun _ _ q => by omega
            clear hf4 hr4 ht4 R3 F3 T3 X3 H1
            have q1 := block_cell T4.out 1
            have q2 := block_cell T4.out 2
            have hbt4 := block_lt T4.out
            have hG : Hid (Grew W4 ((W4.alloc (.cells #[.pointer (some ⟨bx, 0, none⟩), .pointer (some ⟨by', 0, none⟩)] 57)).alloc (.cells #[.string tx2, .int .i64 (aa2 : Int), .string ⟨#[]⟩, .int .i64 0, .int .i64 0, .string ⟨#[]⟩, .slice none 0 0, .slice none 0 0, .slice (some ⟨W4.heap.size, 0, none⟩) 2 2, .int .i64 0, .int .i64 0] 165))) := ((Grew.refl _).alloc _).alloc _
            have A5 : Hid (OkS (stX r1) → TreeT (fun k => bt < k) ((W4.alloc (.cells #[.pointer (some ⟨bx, 0, none⟩), .pointer (some ⟨by', 0, none⟩)] 57)).alloc (.cells #[.string tx2, .int .i64 (aa2 : Int), .string ⟨#[]⟩, .int .i64 0, .int .i64 0, .string ⟨#[]⟩, .slice none 0 0, .slice none 0 0, .slice (some ⟨W4.heap.size, 0, none⟩) 2 2, .int .i64 0, .int .i64 0] 165)) (dBin (K i1).tx x1 (valX noX r1)) (.pointer (some ⟨W4.heap.size + 1, 0, none⟩))) := fun o => newT (lo := bt + 1) (nm := ⟨#[]⟩) (kids := [x1, valX noX r1]) rfl (by decide) (fun k y e => by
              match k, e with
              | 0, e => simp at e; subst e; exact ⟨_, rfl, X4.out⟩
              | 1, e => simp at e; subst e; exact ⟨_, rfl, Y4.out o⟩
              | k + 2, e => simp at e) (by omega) (.inr (.inr (.inr (.inr (.inr (.inr (.inr (.inr (.inr (.inr (.inr (.inr (.inr (.inr (.inr (.inr (.inr (.inr (.inr ⟨by rw [HOP.out]; exact HJ.out, _, _, rfl, by rw [HOP.out]⟩)))))))))))))))))))
            have HQ : Hid (stX r = stX r1 ∧ ∀ y j, r = .ok (y, j) → y = dBin (K i1).tx x1 (valX noX r1)) := by
              have := HKK.out
              have hfl : fromL n = false := by unfold fromL; simp; omega
              simp only [hfl, Bool.false_eq_true, if_false] at this
              exact ok_run this
            go_wp2_with fail
            go_ret
            refine ⟨F4.out.trans (Fr.grew hG.out), by rw [HQ.out.1]; exact R4.out.grew hG.out, W4.heap.size + 1, rfl, fun y j e => ?_⟩
            rw [HQ.out.2 y j e]
            exact (A5.out (by rw [← HQ.out.1]; exact ok_of e)).fr (Fr.refl _ _) fun _ _ q => by omega
          · have n1 : ((n : Int) == 1) = false := by rw [beq_eq_false_iff_ne]; omega
            have n3 : ((n : Int) == 3) = false := by rw [beq_eq_false_iff_ne]; omega
            have hrt : rightF n = n + 1 := by unfold rightF; rw [if_neg (by omega)]
            rw [hrt] at H1
            have n7 : ¬ (7 : Int) ≤ (n : Int) := by omega
            clear HN hrt
            go_upto_region 43 with fail
            clear e1 f1
            generalize W2.setCell ⟨br, 1, none⟩ (.int .i64 ((i1 : Int) + 1)) = W3 at R3 F3 T3 X3 ⊢
            go_wp2_with fail
            refine (HS.out W3 (n + 1) d (.ok (i1 + 1)) r1 (by omega) (fun _ => hd) R3.out H1.out).mono ?_
            rintro e W4 ⟨hf4, hr4, by', rfl, ht4⟩
            have hz3 := F3.out.size
            have hb3 : br < W3.heap.size := by omega
            have hbt3 : bt < W3.heap.size := block_lt T3.out
            have R4 : Hid (RSd K N W4 br bl (stX r1) d) := hr4
            have F4 : Hid (Fr (· ≠ br) w W4) := F3.out.trans hf4
            have T4 : Hid (TBlk W4 bt sb2 tx2 (aa2 : Int)) := T3.out.fr hf4 hbtr
            have X4 : Hid (TreeT (fun k => bt < k) W4 x1 (.pointer (some ⟨bx, 0, none⟩))) := X3.out.fr (hf4.mono fun k q => by omega) fun _ _ q => q
            have Y4 : Hid (OkS (stX r1) → TreeT (fun k => bt < k) W4 (valX noX r1) (.pointer (some ⟨by', 0, none⟩))) := fun o => by
              obtain ⟨j, e⟩ := ok_val noX o
              exact (ht4 _ _ e).fr (Fr.refl _ _) fun _ _ q => by omega
            clear hf4 hr4 ht4 R3 F3 T3 X3 H1
            have q1 := block_cell T4.out 1
            have q2 := block_cell T4.out 2
            have hbt4 := block_lt T4.out
            have hG : Hid (Grew W4 ((W4.alloc (.cells #[.pointer (some ⟨bx, 0, none⟩), .pointer (some ⟨by', 0, none⟩)] 57)).alloc (.cells #[.string tx2, .int .i64 (aa2 : Int), .string ⟨#[]⟩, .int .i64 0, .int .i64 0, .string ⟨#[]⟩, .slice none 0 0, .slice none 0 0, .slice (some ⟨W4.heap.size, 0, none⟩) 2 2, .int .i64 0, .int .i64 0] 165))) := ((Grew.refl _).alloc _).alloc _
            have A5 : Hid (OkS (stX r1) → TreeT (fun k => bt < k) ((W4.alloc (.cells #[.pointer (some ⟨bx, 0, none⟩), .pointer (some ⟨by', 0, none⟩)] 57)).alloc (.cells #[.string tx2, .int .i64 (aa2 : Int), .string ⟨#[]⟩, .int .i64 0, .int .i64 0, .string ⟨#[]⟩, .slice none 0 0, .slice none 0 0, .slice (some ⟨W4.heap.size, 0, none⟩) 2 2, .int .i64 0, .int .i64 0] 165)) (dBin (K i1).tx x1 (valX noX r1)) (.pointer (some ⟨W4.heap.size + 1, 0, none⟩))) := fun o => newT (lo := bt + 1) (nm := ⟨#[]⟩) (kids := [x1, valX noX r1]) rfl (by decide) (fun k y e => by
              match k, e with
              | 0, e => simp at e; subst e; exact ⟨_, rfl, X4.out⟩
              | 1, e => simp at e; subst e; exact ⟨_, rfl, Y4.out o⟩
              | k + 2, e => simp at e) (by omega) (.inr (.inr (.inr (.inr (.inr (.inr (.inr (.inr (.inr (.inr (.inr (.inr (.inr (.inr (.inr (.inr (.inr (.inr (.inr ⟨by rw [HOP.out]; exact HJ.out, _, _, rfl, by rw [HOP.out]⟩)))))))))))))))))))
            have HQ : Hid (runS (stX r1) (fun j => lvlX K self n d f (dBin (K i1).tx x1 (valX noX r1)) j) = some r) := by
              have := HKK.out
              have hfl : fromL n = true := by unfold fromL; rcases hc with h | h | h <;> rw [h] <;> rfl
              simp only [hfl, if_true] at this
              exact this
            go_wp2_with fail
            go_roundg f
            case measure => omega
            case rel => exact ⟨_, _, W4.heap.size + 1, sb2, tx2, (aa2 : Int), rfl, R4.out.grew hG.out, T4.out.grew hG.out, A5, HQ, F4.out.trans (Fr.grew hG.out)⟩
          · have n1 : ((n : Int) == 1) = false := by rw [beq_eq_false_iff_ne]; omega
            have n3 : ((n : Int) == 3) = false := by rw [beq_eq_false_iff_ne]; omega
            have hrt : rightF n = n + 1 := by unfold rightF; rw [if_neg (by omega)]
            rw [hrt] at H1
            have n7 : (7 : Int) ≤ (n : Int) := by omega
            have n9 : ¬ (n : Int) ≤ 9 := by omega
            clear HN hrt
            go_upto_region 43 with fail
            clear e1 f1
            generalize W2.setCell ⟨br, 1, none⟩ (.int .i64 ((i1 : Int) + 1)) = W3 at R3 F3 T3 X3 ⊢
            go_wp2_with fail
            refine (HS.out W3 (n + 1) d (.ok (i1 + 1)) r1 (by omega) (fun _ => hd) R3.out H1.out).mono ?_
            rintro e W4 ⟨hf4, hr4, by', rfl, ht4⟩
            have hz3 := F3.out.size
            have hb3 : br < W3.heap.size := by omega
            have hbt3 : bt < W3.heap.size := block_lt T3.out
            have R4 : Hid (RSd K N W4 br bl (stX r1) d) := hr4
            have F4 : Hid (Fr (· ≠ br) w W4) := F3.out.trans hf4
            have T4 : Hid (TBlk W4 bt sb2 tx2 (aa2 : Int)) := T3.out.fr hf4 hbtr
            have X4 : Hid (TreeT (fun k => bt < k) W4 x1 (.pointer (some ⟨bx, 0, none⟩))) := X3.out.fr (hf4.mono fun k q => by omega) fun _ _ q => q
            have Y4 : Hid (OkS (stX r1) → TreeT (fun k => bt < k) W4 (valX noX r1) (.pointer (some ⟨by', 0, none⟩))) := fun o => by
              obtain ⟨j, e⟩ := ok_val noX o
              exact (ht4 _ _ e).fr (Fr.refl _ _) fun _ _ q => by omega
            clear hf4 hr4 ht4 R3 F3 T3 X3 H1
            have q1 := block_cell T4.out 1
            have q2 := block_cell T4.out 2
            have hbt4 := block_lt T4.out
            have hG : Hid (Grew W4 ((W4.alloc (.cells #[.pointer (some ⟨bx, 0, none⟩), .pointer (some ⟨by', 0, none⟩)] 57)).alloc (.cells #[.string tx2, .int .i64 (aa2 : Int), .string ⟨#[]⟩, .int .i64 0, .int .i64 0, .string ⟨#[]⟩, .slice none 0 0, .slice none 0 0, .slice (some ⟨W4.heap.size, 0, none⟩) 2 2, .int .i64 0, .int .i64 0] 165))) := ((Grew.refl _).alloc _).alloc _
            have A5 : Hid (OkS (stX r1) → TreeT (fun k => bt < k) ((W4.alloc (.cells #[.pointer (some ⟨bx, 0, none⟩), .pointer (some ⟨by', 0, none⟩)] 57)).alloc (.cells #[.string tx2, .int .i64 (aa2 : Int), .string ⟨#[]⟩, .int .i64 0, .int .i64 0, .string ⟨#[]⟩, .slice none 0 0, .slice none 0 0, .slice (some ⟨W4.heap.size, 0, none⟩) 2 2, .int .i64 0, .int .i64 0] 165)) (dBin (K i1).tx x1 (valX noX r1)) (.pointer (some ⟨W4.heap.size + 1, 0, none⟩))) := fun o => newT (lo := bt + 1) (nm := ⟨#[]⟩) (kids := [x1, valX noX r1]) rfl (by decide) (fun k y e => by
              match k, e with
              | 0, e => simp at e; subst e; exact ⟨_, rfl, X4.out⟩
              | 1, e => simp at e; subst e; exact ⟨_, rfl, Y4.out o⟩
              | k + 2, e => simp at e) (by omega) (.inr (.inr (.inr (.inr (.inr (.inr (.inr (.inr (.inr (.inr (.inr (.inr (.inr (.inr (.inr (.inr (.inr (.inr (.inr ⟨by rw [HOP.out]; exact HJ.out, _, _, rfl, by rw [HOP.out]⟩)))))))))))))))))))
            have HQ : Hid (runS (stX r1) (fun j => lvlX K self n d f (dBin (K i1).tx x1 (valX noX r1)) j) = some r) := by
              have := HKK.out
              have hfl : fromL n = true := by unfold fromL; rcases hc with h | h <;> rw [h] <;> rfl
              simp only [hfl, if_true] at this
              exact this
            go_wp2_with fail
            go_roundg f
            case measure => omega
            case rel => exact ⟨_, _, W4.heap.size + 1, sb2, tx2, (aa2 : Int), rfl, R4.out.grew hG.out, T4.out.grew hG.out, A5, HQ, F4.out.trans (Fr.grew hG.out)⟩
      · obtain ⟨lv, hlv2⟩ : ∃ lv, levelF (K i1).tx = lv := ⟨_, rfl⟩
        rw [hlv2] at hlv HLV
        have nn : ((lv : Int) != (n : Int)) = true := by rw [bne_iff_ne]; omega
        have HH : Hid (PostT K N w br bl d r (.returned (.pointer (some ⟨bx, 0, none⟩))) W2) := by
          rw [hre]
          exact ⟨F2.out, R2.out, bx, rfl, fun y j e => by rw [← (Prod.mk.inj (Except.ok.inj e)).1]; exact X2.out.fr (Fr.refl _ _) fun _ _ q => by omega⟩
        clear HB hlv hlv2 hre HTB HTX HSB R2 F2 T2 X2
        cases g1 : ((sb2 : Int) != 111)
        all_goals cases g2 : ((sb2 : Int) != 119)
        all_goals
          go_wp2_with (go_at_call 114; refine (HLV.out _).mono ?_; rintro e w' ⟨rfl, hw⟩; obtain rfl := hw.symm)
          go_ret
          exact HH.out
end Go.Proofs.YtjbekejcghjhbaaGreatDoor.Sx
