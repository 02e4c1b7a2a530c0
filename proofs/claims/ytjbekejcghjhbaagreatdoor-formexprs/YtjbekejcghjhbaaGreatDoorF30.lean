/- The reference: what an expression begins with: sets. -/
import Derived.Test.YtjbekejcghjhbaaGreatDoorF29
namespace Go.Proofs.YtjbekejcghjhbaaGreatDoor.Sx
open Go.RowKit Go.Sort

def twoB : List ByteArray := [⟨#[101, 97, 99, 104]⟩, ⟨#[116, 104, 111, 115, 101]⟩]
theorem binds2_mark {l : List UInt8} (h : l ∈ binds2) : l ∈ marks ∧ l ≠ wLet := by
  simp only [binds2, List.mem_cons, List.not_mem_nil, or_false] at h
  rcases h with rfl | rfl <;> decide
theorem set_cases {K : Nat → Tk} {self : Nat → Nat → Nat → RX PX} {m d : Nat} {s : SX} {r : Except (Nat × Nat) (PX × Nat)} (h : runS s (setX K self m d) = some r) :
    (∃ j, s = .ok j ∧ (K j).tx ∈ binds2 ∧ (twoB.any fun m => isS K s m.data.toList) = true ∧ runS (.ok (j + 1)) (fun i => bX (genX K self [105, 110] 8 d (dBind (K j).tx) i) fun x j => needX K [125] j fun j => okX x j) = some r) ∨
      ((twoB.any fun m => isS K s m.data.toList) = false ∧ runS s (fun j => bX (anyX K [125] (self 0 d) m j) fun l j => okX (dSet l) j) = some r) := by
  rcases s with e | j
  · exact .inr ⟨rfl, h⟩
  · have h2 : setX K self m d j = some r := h
    unfold setX at h2
    have e2 : (twoB.any fun m => isS K (.ok j) m.data.toList) = binds2.contains (K j).tx := by
      show (((K j).tx == [101, 97, 99, 104]) || (((K j).tx == [116, 104, 111, 115, 101]) || false)) = _
      simp only [binds2, List.contains_cons, List.contains_nil]
    cases e : binds2.contains (K j).tx with
    | true =>
      rw [e, if_pos rfl] at h2
      exact .inl ⟨j, rfl, by simpa using e, by rw [e2, e], h2⟩
    | false =>
      rw [e, if_neg (by simp)] at h2
      exact .inr ⟨by rw [e2, e], h2⟩

set_option maxRecDepth 100000 in
set_option maxHeartbeats 600000 in
theorem gfirst_set {K : Nat → Tk} {N br bl : Nat} {self : Nat → Nat → Nat → RX PX} (hS : SelfR K N br bl self) (hK : ∀ i, TkOK (K i)) (hL : Last K N) (hN : N ≤ 1000000) (w : World) (d m i : Nat) (hd : d ≤ 24) (hm : m ≤ 1000000) (h : RSd K N w br bl (.ok i) d)
    (hc1 : (K i).cl ≠ 1) (hk : (K i).tx = [123]) (r : Except (Nat × Nat) (PX × Nat)) (hr : bracketX K self m d i = some r) :
    Calls Tryz.prog 158 #[.pointer (some ⟨br, 0, none⟩)] w (PostT K N w br bl d r) := by
  have hiN : i < N := hL.lt h.le (m := [123]) (by rw [hk]; rfl) (by decide)
  have hc4 : (K i).cl = 4 := by
    have h1 := mark_cl (hK i) (by decide) hk
    omega
  have HAM : Hid ((openB.any fun m => isS K (.ok i) m.data.toList) = true) := by show (openB.any fun m => (K i).tx == m.data.toList) = true; rw [hk]; rfl
  have HBR : Hid (enterX K d i (fun j => setX K self m (d + 1) j) = some r) := by
    have hr2 := hr
    unfold bracketX at hr2
    rw [hk, if_neg (by decide), if_pos (by decide)] at hr2
    exact hr2
  have HS : Hid (SelfR K N br bl self) := hS
  have HK : Hid (∀ i, TkOK (K i)) := hK
  have HL : Hid (Last K N) := hL
  have HR : Hid (RSd K N w br bl (.ok i) d) := h
  obtain ⟨cap, bad, dd, hb, hI, hne, hbl, t0, t1, t2⟩ := h.open
  obtain ⟨hdr, u0, u1, u2⟩ := RS.cells hb hbl t0 t1 t2
  have c0 := block_cell hb 0
  have c1 := block_cell hb 1
  have k0 := block_cell hdr 0
  have k1 := block_cell hdr 1
  have hbr := block_lt hb
  have hI1 : (i : Int) < ((N + 1 : Nat) : Int) := by omega
  have mo := follows
  have hsb : sortB (K i).cl = 111 := by rw [hc4]; rfl
  obtain ⟨tx, htx⟩ : ∃ tx, tokB (K i) = tx := ⟨_, rfl⟩
  obtain ⟨aa, haa⟩ : ∃ aa, (K i).at' = aa := ⟨_, rfl⟩
  have HTX : Hid (tokB (K i) = tx) := htx
  have HAA : Hid ((K i).at' = aa) := haa
  rw [hsb] at t0 u0
  rw [htx] at t1 u1
  rw [haa] at t2 u2
  have htl : tx.data.toList = [123] := by rw [← htx]; exact tok_mark hK (by decide) hk
  have hfc : (tx.toList == [40]) = false ∧ (tx.toList == [60, 60]) = false ∧ (tx.toList == [91]) = false ∧ (tx.toList == [123]) = true := by rw [ByteArray.toList_eq, htl]; decide
  have HFC : Hid ((tx.toList == [40]) = false ∧ (tx.toList == [60, 60]) = false ∧ (tx.toList == [91]) = false ∧ (tx.toList == [123]) = true) := hfc
  clear hk hc1 hc4 hr htl hfc
  clear hb hdr h hS hK hL hsb htx haa
  go_enter Tryz.func158, Tryz.ntmps158
  go_wp2_with fail
  go_big_region_o
  have T1 : Hid (TBlk _ w.heap.size 111 tx (aa : Int)) := TBlk.new w 111 tx (aa : Int)
  have G1 : Hid (Grew w (w.alloc (.cells #[.int .u8 111, .string tx, .int .i64 (aa : Int)] 106)).drew) := ((Grew.refl w).alloc _).drew
  clear c0 c1 k0 k1 u0 u1 u2 t0 t1 t2 hI1
  generalize (w.alloc (.cells #[.int .u8 111, .string tx, .int .i64 (aa : Int)] 106)).drew = W1 at G1 T1 ⊢
  obtain ⟨bt, hbt⟩ : ∃ bt, w.heap.size = bt := ⟨_, rfl⟩
  rw [hbt] at T1 hbr ⊢
  have hwt : w.heap.size ≤ bt := by omega
  have htw : bt ≤ w.heap.size := by omega
  clear hbt
  have q0 := block_cell T1.out 0
  have q1 := block_cell T1.out 1
  have q2 := block_cell T1.out 2
  have E2 : Hid (XBlk (W1.alloc (.cells #[.string ⟨#[]⟩, .int .i64 (aa : Int), .string ⟨#[]⟩, .int .i64 0, .int .i64 0, .string ⟨#[]⟩, .slice none 0 0, .slice none 0 0, .slice none 0 0, .int .i64 0, .int .i64 0] 165)) W1.heap.size ⟨#[]⟩ (aa : Int) ⟨#[]⟩ 0 0 ⟨#[]⟩ none 0 0) := XBlk.new W1 ⟨#[]⟩ ⟨#[]⟩ ⟨#[]⟩ (aa : Int) 0 0
  have G2 : Hid (Grew w (W1.alloc (.cells #[.string ⟨#[]⟩, .int .i64 (aa : Int), .string ⟨#[]⟩, .int .i64 0, .int .i64 0, .string ⟨#[]⟩, .slice none 0 0, .slice none 0 0, .slice none 0 0, .int .i64 0, .int .i64 0] 165))) := G1.out.alloc _
  have T2 : Hid (TBlk (W1.alloc (.cells #[.string ⟨#[]⟩, .int .i64 (aa : Int), .string ⟨#[]⟩, .int .i64 0, .int .i64 0, .string ⟨#[]⟩, .slice none 0 0, .slice none 0 0, .slice none 0 0, .int .i64 0, .int .i64 0] 165)) bt 111 tx (aa : Int)) := T1.out.grew ((Grew.refl _).alloc _)
  have hbtl : bt < W1.heap.size := block_lt T1.out
  have hwW : w.heap.size ≤ W1.heap.size := G1.out.below.size
  have R2 : Hid (RSd K N (W1.alloc (.cells #[.string ⟨#[]⟩, .int .i64 (aa : Int), .string ⟨#[]⟩, .int .i64 0, .int .i64 0, .string ⟨#[]⟩, .slice none 0 0, .slice none 0 0, .slice none 0 0, .int .i64 0, .int .i64 0] 165)) br bl (.ok i) d) := HR.out.grew G2.out
  have e3 : World.cell? (W1.alloc (.cells #[.string ⟨#[]⟩, .int .i64 (aa : Int), .string ⟨#[]⟩, .int .i64 0, .int .i64 0, .string ⟨#[]⟩, .slice none 0 0, .slice none 0 0, .slice none 0 0, .int .i64 0, .int .i64 0] 165)) ⟨br, 3, none⟩ = some (.int .i64 0) := R2.out.err.1
  have p0 := block_cell T2.out 0
  have p1 := block_cell T2.out 1
  have p2 := block_cell T2.out 2
  go_wp2_with fail
  have hzN : (World.heap (W1.alloc (.cells #[.string ⟨#[]⟩, .int .i64 (aa : Int), .string ⟨#[]⟩, .int .i64 0, .int .i64 0, .string ⟨#[]⟩, .slice none 0 0, .slice none 0 0, .slice none 0 0, .int .i64 0, .int .i64 0] 165))).size = W1.heap.size + 1 := allocT_size W1 _
  clear q0 q1 q2 p0 p1 p2 e3 T1 G1
  generalize (W1.alloc (.cells #[.string ⟨#[]⟩, .int .i64 (aa : Int), .string ⟨#[]⟩, .int .i64 0, .int .i64 0, .string ⟨#[]⟩, .slice none 0 0, .slice none 0 0, .slice none 0 0, .int .i64 0, .int .i64 0] 165)) = W2 at E2 G2 T2 R2 hzN ⊢
  obtain ⟨be, hbe⟩ : ∃ be, W1.heap.size = be := ⟨_, rfl⟩
  rw [hbe] at E2 hbtl hwW hzN ⊢
  clear hbe
  have hber : be ≠ br := by omega
  have hblw : bl < w.heap.size := hbl
  have hbel : be ≠ bl := by omega
  rw [← hzN]
  clear hzN
  have hbtr : bt ≠ br := by omega
  have hbeb : be ≠ bt := by omega
  refine (among_d HK.out W2 br bl (.ok i) d _ openB 4 true rfl (by decide) rfl (by decide) HAM.out R2.out).mono ?_
  rintro e W3 ⟨rfl, g3⟩
  have R3 : Hid (RSd K N W3 br bl (.ok i) d) := R2.out.grew g3
  have G3 : Hid (Grew w W3) := G2.out.trans g3
  have E3 : Hid (XBlk W3 be ⟨#[]⟩ (aa : Int) ⟨#[]⟩ 0 0 ⟨#[]⟩ none 0 0) := E2.out.of (P := fun _ => True) (Fr.grew g3) trivial
  have T3 : Hid (TBlk W3 bt 111 tx (aa : Int)) := T2.out.grew g3
  clear g3 R2 G2 E2 T2
  go_wp2_with fail
  refine (gin_d hN W3 br bl i d hd hiN R3.out).mono ?_
  rintro e W4 ⟨rfl, hr4, hf4⟩
  have R4 : Hid (RSd K N W4 br bl (inS K i d) (d + 1)) := hr4
  have F4 : Hid (Fr (· ≠ br) w W4) := (Fr.grew G3.out).trans hf4
  have E4 : Hid (XBlk W4 be ⟨#[]⟩ (aa : Int) ⟨#[]⟩ 0 0 ⟨#[]⟩ none 0 0) := E3.out.of hf4 hber
  have T4 : Hid (TBlk W4 bt 111 tx (aa : Int)) := T3.out.fr hf4 hbtr
  clear hr4 hf4 R3 G3 E3 T3
  have q1 := block_cell T4.out 1
  have HSC : Hid _ := set_cases (in_run HBR.out)
  clear HBR
  obtain ⟨n1, n2, n3, n4⟩ := HFC.out
  obtain ⟨ddA, hA, -⟩ := R4.out
  obtain ⟨capA, IA, badA, hbA, hIA, hneA, hblA, t0, t1, t2, hsA⟩ := hA.open
  have HSA : Hid (∀ i1, inS K i d = .ok i1 → IA = i1) := hsA
  obtain ⟨hdr, u0, u1, u2⟩ := RS.cells hbA hblA t0 t1 t2
  have c0 := block_cell hbA 0
  have c1 := block_cell hbA 1
  have k0 := block_cell hdr 0
  have k1 := block_cell hdr 1
  have hI1 : (IA : Int) < ((N + 1 : Nat) : Int) := by omega
  obtain ⟨ty, hty⟩ : ∃ ty, tokB (K IA) = ty := ⟨_, rfl⟩
  have HTY : Hid (tokB (K IA) = ty) := hty
  rw [hty] at t1 u1
  clear hA hbA hsA hdr hty t0 t2 u0 u2
  go_wp2_with fail
  go_big_region_o
  have R5 : Hid (RSd K N W4.drew br bl (inS K i d) (d + 1)) := R4.out.grew (Grew.refl _).drew
  have F5 : Hid (Fr (· ≠ br) w W4.drew) := F4.out.drew
  have E5 : Hid (XBlk W4.drew be ⟨#[]⟩ (aa : Int) ⟨#[]⟩ 0 0 ⟨#[]⟩ none 0 0) := E4.out.of (P := fun _ => True) (Fr.grew (Grew.refl _).drew) trivial
  clear c0 c1 k0 k1 t1 u1 q1 n1 n2 n3 n4 HFC R4 F4 E4 T4
  generalize W4.drew = WA at R5 F5 E5 ⊢
  go_wp2_with fail
  rcases HSC.out with ⟨j, hj, hkj, hb2, hc⟩ | ⟨hb2, hc⟩
  · refine (among_d HK.out WA br bl _ (d + 1) _ twoB 2 true rfl (by decide) rfl (by decide) hb2 R5.out).mono ?_
    rintro e W4 ⟨rfl, g4⟩
    rw [hj] at R5
    obtain rfl : IA = j := HSA.out j hj
    have HKJ : Hid ((K IA).tx ∈ binds2) := hkj
    have hd1 : d + 1 ≤ 24 := in_ok hd ⟨_, hj⟩
    have R4 : Hid (RSd K N W4 br bl (.ok IA) (d + 1)) := R5.out.grew g4
    have F4 : Hid (Fr (· ≠ br) w W4) := F5.out.trans (Fr.grew g4)
    have E4 : Hid (XBlk W4 be ⟨#[]⟩ (aa : Int) ⟨#[]⟩ 0 0 ⟨#[]⟩ none 0 0) := E5.out.of (P := fun _ => True) (Fr.grew g4) trivial
    have HTL : Hid (ty.data.toList = (K IA).tx) := by show _ = _; rw [← HTY.out]; exact tok_mark HK.out (binds2_mark hkj).1 rfl
    have hjN : IA < N := HL.out.lt hIA (m := (K IA).tx) (by simp) (binds2_mark hkj).1
    obtain ⟨r1, h1, hc⟩ := runS_bX noX hc
    have hc := want_run hc
    have HQ : Hid (stX r = wantS K (stX r1) [125] ∧ ∀ y j, r = .ok (y, j) → y = valX noX r1) := ok_run hc
    have H1 : Hid (runS (.ok (IA + 1)) (genX K self [105, 110] 8 (d + 1) (dBind (K IA).tx)) = some r1) := h1
    clear g4 R5 F5 E5 hb2 h1 hc hj hkj HSC HSA HTY
    obtain ⟨e1, f1⟩ := R4.out.block
    have x0 := block_cell E4.out 0
    have y0 := frozen_block E4.out 0
    have hfs : Fr (· ≠ be) (W4.setCell ⟨br, 1, none⟩ (.int .i64 ((IA : Int) + 1))) ((W4.setCell ⟨br, 1, none⟩ (.int .i64 ((IA : Int) + 1))).setCell ⟨be, 0, none⟩ (.string ty)) := (Fr.refl _ _).set (by simp) _
    have E5 : Hid (XBlk ((W4.setCell ⟨br, 1, none⟩ (.int .i64 ((IA : Int) + 1))).setCell ⟨be, 0, none⟩ (.string ty)) be ty (aa : Int) ⟨#[]⟩ 0 0 ⟨#[]⟩ none 0 0) := (E4.out.of (P := (· ≠ br)) ((Fr.refl _ W4).set (by simp) _) hber).op _
    have R6 : Hid (RSd K N ((W4.setCell ⟨br, 1, none⟩ (.int .i64 ((IA : Int) + 1))).setCell ⟨be, 0, none⟩ (.string ty)) br bl (.ok (IA + 1)) (d + 1)) := (R4.out.next hjN).fr hfs (Ne.symm hber) (Ne.symm hbel)
    have F6 : Hid (Fr (· ≠ br) w ((W4.setCell ⟨br, 1, none⟩ (.int .i64 ((IA : Int) + 1))).setCell ⟨be, 0, none⟩ (.string ty))) := Fr.freshT (F4.out.set (by simp) _) (hfs.mono fun _ q => q.2) hwW
    clear hfs
    go_wp2_with fail
    clear x0 y0 e1 f1 R4 F4 E4
    generalize ((W4.setCell ⟨br, 1, none⟩ (.int .i64 ((IA : Int) + 1))).setCell ⟨be, 0, none⟩ (.string ty)) = W5 at E5 R6 F6 ⊢
    have hb5 : be < W5.heap.size := block_lt E5.out
    have hz5 := F6.out.size
    refine (gbound_any HS.out HK.out HL.out hN W5 be (d + 1) (.ok (IA + 1)) ty (aa : Int) (fun _ => hd1) hber hbel R6.out E5.out ⟨#[105, 110]⟩ 8 (dBind (K IA).tx) (.inr ⟨by rw [HTL.out]; exact (binds2_mark HKJ.out).2, rfl, rfl⟩) (fun n a b => by rw [HTL.out]; exact (.inr (.inr (.inr (.inr (.inr (.inr (.inr (.inr (.inr (.inr (.inr (.inr (.inl ⟨.inr HKJ.out, _, _, rfl, rfl⟩)))))))))))))) r1 H1.out).mono ?_
    rintro e W6 ⟨rfl, hf6, hr6, ht6⟩
    have R7 : Hid (RSd K N W6 br bl (stX r1) (d + 1)) := hr6
    have F7 : Hid (Fr (· ≠ br) w W6) := Fr.freshT F6.out hf6 hwW
    have P7 : Hid (∀ x j, r1 = .ok (x, j) → TreeT (fun k => k = be ∨ W5.heap.size ≤ k) W6 x (.pointer (some ⟨be, 0, none⟩))) := ht6
    clear hf6 hr6 ht6 R6 F6 E5
    go_wp2_with fail
    refine (gWant_d HK.out HL.out W6 br bl _ (d + 1) ⟨#[125]⟩ (by decide) hN R7.out).mono ?_
    rintro e W7 ⟨rfl, hr7, hf7⟩
    have R8 : Hid (RSd K N W7 br bl (wantS K (stX r1) [125]) (d + 1)) := hr7
    have F8 : Hid (Fr (· ≠ br) w W7) := F7.out.trans hf7
    have P8 : Hid (∀ x j, r1 = .ok (x, j) → TreeT (fun k => k = be ∨ W5.heap.size ≤ k) W7 x (.pointer (some ⟨be, 0, none⟩))) := fun x j e => (P7.out x j e).fr (hf7.mono fun k q => by omega) fun _ _ q => q
    clear hr7 hf7 R7 F7 P7
    go_wp2_with fail
    refine (gout_d W7 br bl _ d hd R8.out).mono ?_
    rintro e W8 ⟨rfl, hr8, hf8⟩
    have R9 : Hid (RSd K N W8 br bl (wantS K (stX r1) [125]) d) := hr8
    have F9 : Hid (Fr (· ≠ br) w W8) := F8.out.trans hf8
    have P9 : Hid (∀ x j, r1 = .ok (x, j) → TreeT (fun k => w.heap.size ≤ k) W8 x (.pointer (some ⟨be, 0, none⟩))) := fun x j e => (P8.out x j e).fr (hf8.mono fun k q => by omega) fun _ _ q => by omega
    clear hr8 hf8 R8 F8 P8
    go_wp2_with fail
    go_ret
    refine ⟨F9.out, by rw [HQ.out.1]; exact R9.out, be, rfl, fun x j e => ?_⟩
    have o : OkS (stX r1) := want_ok (by rw [← HQ.out.1]; exact ok_of e)
    obtain ⟨j1, e1⟩ := ok_val noX o
    rw [HQ.out.2 x j e]
    exact P9.out _ _ e1
  · refine (among_d HK.out WA br bl _ (d + 1) _ twoB 2 false rfl (by decide) rfl (by decide) hb2 R5.out).mono ?_
    rintro e W4 ⟨rfl, g4⟩
    have R4 : Hid (RSd K N W4 br bl (inS K i d) (d + 1)) := R5.out.grew g4
    have F4 : Hid (Fr (· ≠ br) w W4) := F5.out.trans (Fr.grew g4)
    have E4 : Hid (XBlk W4 be ⟨#[]⟩ (aa : Int) ⟨#[]⟩ 0 0 ⟨#[]⟩ none 0 0) := E5.out.of (P := fun _ => True) (Fr.grew g4) trivial
    clear g4 R5 F5 E5 hb2
    obtain ⟨rl, hl, hc⟩ := runS_bX [] hc
    have HQ : Hid (stX r = stX rl ∧ ∀ y j, r = .ok (y, j) → y = dSet (valX [] rl)) := ok_run hc
    have H1 : Hid (runS (inS K i d) (anyX K [125] (self 0 (d + 1)) m) = some rl) := hl
    clear hl hc HSC
    have x0 := block_cell E4.out 0
    have y0 := frozen_block E4.out 0
    have hfs : Fr (· ≠ be) W4 (W4.setCell ⟨be, 0, none⟩ (.string ⟨#[115, 101, 116]⟩)) := (Fr.refl _ W4).set (by simp) _
    have E5 : Hid (XBlk (W4.setCell ⟨be, 0, none⟩ (.string ⟨#[115, 101, 116]⟩)) be ⟨#[115, 101, 116]⟩ (aa : Int) ⟨#[]⟩ 0 0 ⟨#[]⟩ none 0 0) := E4.out.op _
    have R5 : Hid (RSd K N (W4.setCell ⟨be, 0, none⟩ (.string ⟨#[115, 101, 116]⟩)) br bl (inS K i d) (d + 1)) := R4.out.fr hfs (Ne.symm hber) (Ne.symm hbel)
    have F5 : Hid (Fr (· ≠ br) w (W4.setCell ⟨be, 0, none⟩ (.string ⟨#[115, 101, 116]⟩))) := Fr.freshT F4.out (hfs.mono fun _ q => q.2) hwW
    clear hfs
    go_wp2_with fail
    clear x0 y0 R4 F4 E4
    generalize W4.setCell ⟨be, 0, none⟩ (.string ⟨#[115, 101, 116]⟩) = W5 at E5 R5 F5 ⊢
    refine (glist_none HS.out HK.out HL.out hN W5 (d + 1) m _ ⟨#[125]⟩ (in_ok hd) hm (by decide) (by decide) R5.out rl H1.out).mono ?_
    rintro e W6 ⟨hf6, hr6, a6, l6, c6, rfl, hrow⟩
    have R6 : Hid (RSd K N W6 br bl (stX rl) (d + 1)) := hr6
    have F6 : Hid (Fr (· ≠ br) w W6) := F5.out.trans hf6
    have E6 : Hid (XBlk W6 be ⟨#[115, 101, 116]⟩ (aa : Int) ⟨#[]⟩ 0 0 ⟨#[]⟩ none 0 0) := E5.out.of hf6 hber
    have W6R : Hid (∀ l j, rl = .ok (l, j) → RowP (fun k => W5.heap.size ≤ k) W6 (TreeT (fun k => W5.heap.size ≤ k) W6) a6 l6 l) := hrow
    have hz5 := F5.out.size
    have hb5 : be < W5.heap.size := block_lt E5.out
    clear hf6 hr6 hrow R5 F5 E5
    have x8 := block_cell E6.out 8
    have g8 := frozen_block E6.out 8
    have hfk : Fr (· ≠ be) W6 (W6.setCell ⟨be, 8, none⟩ (.slice a6 l6 c6)) := (Fr.refl _ W6).set (by simp) _
    have R7 : Hid (RSd K N (W6.setCell ⟨be, 8, none⟩ (.slice a6 l6 c6)) br bl (stX rl) (d + 1)) := R6.out.fr hfk (Ne.symm hber) (Ne.symm hbel)
    have F7 : Hid (Fr (· ≠ br) w (W6.setCell ⟨be, 8, none⟩ (.slice a6 l6 c6))) := Fr.freshT F6.out (hfk.mono fun _ q => q.2) hwW
    have T7 : Hid (∀ x j, r = .ok (x, j) → TreeT (fun k => k = be ∨ w.heap.size ≤ k) (W6.setCell ⟨be, 8, none⟩ (.slice a6 l6 c6)) x (.pointer (some ⟨be, 0, none⟩))) := fun x j e => by
      have o : OkS (stX rl) := by rw [← HQ.out.1]; exact ok_of e
      obtain ⟨j1, e1⟩ := ok_val [] o
      rw [HQ.out.2 x j e]
      exact kids_tree E6.out hb5 hz5 (W6R.out _ _ e1) (.inr (.inr (.inr (.inr (.inr (.inl ⟨rfl, rfl⟩))))))
    clear hfk
    go_wp2_with fail
    clear x8 g8 R6 F6 E6 W6R
    generalize W6.setCell ⟨be, 8, none⟩ (.slice a6 l6 c6) = W7 at R7 F7 T7 ⊢
    refine (gout_d W7 br bl _ d hd R7.out).mono ?_
    rintro e W8 ⟨rfl, hr8, hf8⟩
    have R8 : Hid (RSd K N W8 br bl (stX rl) d) := hr8
    have F8 : Hid (Fr (· ≠ br) w W8) := F7.out.trans hf8
    have T8 : Hid (∀ x j, r = .ok (x, j) → TreeT (fun k => w.heap.size ≤ k) W8 x (.pointer (some ⟨be, 0, none⟩))) := fun x j e => (T7.out x j e).fr (hf8.mono fun k q => by omega) fun _ _ q => by omega
    clear hr8 hf8 R7 F7 T7
    go_wp2_with fail
    go_ret
    exact ⟨F8.out, by rw [HQ.out.1]; exact R8.out, be, rfl, T8.out⟩
end Go.Proofs.YtjbekejcghjhbaaGreatDoor.Sx

namespace Go.Proofs.YtjbekejcghjhbaaGreatDoor.Sx
open Go.RowKit Go.Sort

/-- what is asked of a row's numbers -/
def NumOK (t : Tk) : Prop := t.cl = 2 → (∀ c ∈ t.tx, isDigit c = true) ∧ Lib.parseIntB 64 t.tx = if valD 0 t.tx < 9223372036854775808 then .ok (valD 0 t.tx : Int) else .range
theorem gfirst_any {K : Nat → Tk} {N br bl : Nat} {self : Nat → Nat → Nat → RX PX} (hS : SelfR K N br bl self) (hK : ∀ i, TkOK (K i)) (hL : Last K N) (hN : N ≤ 1000000) (hz : ∀ i, (K i).tx.length ≤ 4000) (hn : ∀ i, NumOK (K i)) (w : World) (d m : Nat) (s : SX) (hd : OkS s → d ≤ 24) (hm : m ≤ 1000000) (h : RSd K N w br bl s d)
    (r : Except (Nat × Nat) (PX × Nat)) (hr : runS s (firstX K self m d) = some r) :
    Calls Tryz.prog 158 #[.pointer (some ⟨br, 0, none⟩)] w (PostT K N w br bl d r) := by
  rcases s with q | i
  · obtain rfl : .error q = r := by simpa [runS] using hr
    exact gfirst_fault w d q h
  · have hd := hd ⟨i, rfl⟩
    have hr2 : firstX K self m d i = some r := hr
    unfold firstX at hr2
    by_cases h2 : (K i).cl = 2
    · rw [if_pos h2] at hr2
      exact gfirst_num hK hL hN w d i h h2 (hz i) (hn i h2).1 (hn i h2).2 r hr2
    rw [if_neg h2] at hr2
    by_cases h3 : (K i).cl = 3
    · rw [if_pos h3] at hr2
      simp only [okX, Option.some.injEq] at hr2
      rw [← hr2]
      exact gfirst_text hK hL hN w d i h h3 (hz i)
    rw [if_neg h3] at hr2
    by_cases h1 : (K i).cl = 1
    · rw [if_pos h1] at hr2
      exact gfirst_word hS hK hL hN w d m i hd hm h h1 r hr2
    rw [if_neg h1] at hr2
    by_cases e1 : (K i).tx = [40]
    · exact gfirst_par hS hK hL hN w d m i hd h h1 e1 r hr2
    by_cases e2 : (K i).tx = [123]
    · exact gfirst_set hS hK hL hN w d m i hd hm h h1 e2 r hr2
    by_cases e3 : (K i).tx = [60, 60]
    · exact gfirst_seq hS hK hL hN w d m i hd hm h h1 e3 r hr2
    by_cases e4 : (K i).tx = [91]
    · exact gfirst_fun hS hK hL hN w d m i hd hm h h1 e4 r hr2
    have f1 : ((K i).tx == [40]) = false := by simpa using e1
    have f2 : ((K i).tx == [123]) = false := by simpa using e2
    have f3 : ((K i).tx == [60, 60]) = false := by simpa using e3
    have f4 : ((K i).tx == [91]) = false := by simpa using e4
    unfold bracketX at hr2
    rw [f1, if_neg (by simp), f2, if_neg (by simp), f3, if_neg (by simp), f4, if_neg (by simp)] at hr2
    simp only [errX, Option.some.injEq] at hr2
    rw [← hr2]
    refine gfirst_odd hK hL w d i h ⟨h1, h2, h3⟩ ?_
    show (((K i).tx == [40]) || (((K i).tx == [123]) || (((K i).tx == [60, 60]) || (((K i).tx == [91]) || false)))) = false
    rw [f1, f2, f3, f4]; rfl
end Go.Proofs.YtjbekejcghjhbaaGreatDoor.Sx

namespace Go.Proofs.YtjbekejcghjhbaaGreatDoor.Sx
open Go.RowKit Go.Sort

set_option maxRecDepth 100000 in
set_option maxHeartbeats 8000000 in
theorem glevel_some (s : ByteArray) (w : World) (h : s.data.toList ∈ joins.map Prod.fst) : Calls Tryz.prog 114 #[.string s] w fun e w' => e = .returned (.int .i64 (levelF s.data.toList : Int)) ∧ w' = w := by
  have mo := follows
  simp only [joins, List.map_cons, List.map_nil, List.mem_cons, List.not_mem_nil, or_false] at h
  obtain ⟨v, hv⟩ : ∃ v, levelF s.data.toList = v := ⟨_, rfl⟩
  rw [hv]
  have hs : s = ⟨⟨s.data.toList⟩⟩ := by cases s; rfl
  generalize s.data.toList = l at h hs hv
  subst hs
  rcases h with rfl | rfl | rfl | rfl | rfl | rfl | rfl | rfl | rfl | rfl | rfl | rfl | rfl | rfl | rfl | rfl | rfl | rfl | rfl | rfl | rfl | rfl | rfl | rfl | rfl
  all_goals
    obtain rfl := hv
    go_enter Tryz.func114, Tryz.ntmps114
    go_wp2_with fail
    go_ret
    exact ⟨rfl, rfl⟩

set_option maxRecDepth 100000 in
set_option maxHeartbeats 8000000 in
theorem glevel_none (s : ByteArray) (w : World) (h : s.data.toList ∉ joins.map Prod.fst) : Calls Tryz.prog 114 #[.string s] w fun e w' => e = .returned (.int .i64 0) ∧ w' = w := by
  have mo := follows
  simp only [joins, List.map_cons, List.map_nil, List.mem_cons, List.not_mem_nil, or_false, not_or] at h
  have hs : s.toList = s.data.toList := by rw [ByteArray.toList_eq]
  rw [← hs] at h
  obtain ⟨h1, h2, h3, h4, h5, h6, h7, h8, h9, h10, h11, h12, h13, h14, h15, h16, h17, h18, h19, h20, h21, h22, h23, h24, h25⟩ := h
  replace h1 := beq_eq_false_iff_ne.2 h1
  replace h2 := beq_eq_false_iff_ne.2 h2
  replace h3 := beq_eq_false_iff_ne.2 h3
  replace h4 := beq_eq_false_iff_ne.2 h4
  replace h5 := beq_eq_false_iff_ne.2 h5
  replace h6 := beq_eq_false_iff_ne.2 h6
  replace h7 := beq_eq_false_iff_ne.2 h7
  replace h8 := beq_eq_false_iff_ne.2 h8
  replace h9 := beq_eq_false_iff_ne.2 h9
  replace h10 := beq_eq_false_iff_ne.2 h10
  replace h11 := beq_eq_false_iff_ne.2 h11
  replace h12 := beq_eq_false_iff_ne.2 h12
  replace h13 := beq_eq_false_iff_ne.2 h13
  replace h14 := beq_eq_false_iff_ne.2 h14
  replace h15 := beq_eq_false_iff_ne.2 h15
  replace h16 := beq_eq_false_iff_ne.2 h16
  replace h17 := beq_eq_false_iff_ne.2 h17
  replace h18 := beq_eq_false_iff_ne.2 h18
  replace h19 := beq_eq_false_iff_ne.2 h19
  replace h20 := beq_eq_false_iff_ne.2 h20
  replace h21 := beq_eq_false_iff_ne.2 h21
  replace h22 := beq_eq_false_iff_ne.2 h22
  replace h23 := beq_eq_false_iff_ne.2 h23
  replace h24 := beq_eq_false_iff_ne.2 h24
  replace h25 := beq_eq_false_iff_ne.2 h25
  clear hs
  go_enter Tryz.func114, Tryz.ntmps114
  go_wp2_with fail
  go_ret
  exact ⟨rfl, rfl⟩
theorem glevel_any (s : ByteArray) (w : World) : Calls Tryz.prog 114 #[.string s] w fun e w' => e = .returned (.int .i64 (levelF s.data.toList : Int)) ∧ w' = w := by
  by_cases h : s.data.toList ∈ joins.map Prod.fst
  · exact glevel_some s w h
  · have e : levelF s.data.toList = 0 := by unfold levelF; rw [lookup_none _ h]; rfl
    rw [e]
    exact glevel_none s w h
end Go.Proofs.YtjbekejcghjhbaaGreatDoor.Sx
