/- The reference: what an expression begins with: brackets. -/
import Derived.Test.YtjbekejcghjhbaaGreatDoorF28
namespace Go.Proofs.YtjbekejcghjhbaaGreatDoor.Sx
open Go.RowKit Go.Sort

def openB : List ByteArray := [⟨#[40]⟩, ⟨#[123]⟩, ⟨#[60, 60]⟩, ⟨#[91]⟩]
theorem allocT_size (w : World) (o : Obj) : (w.alloc o).heap.size = w.heap.size + 1 := Array.size_push _

set_option maxRecDepth 100000 in
set_option maxHeartbeats 1000000 in
theorem gfirst_par {K : Nat → Tk} {N br bl : Nat} {self : Nat → Nat → Nat → RX PX} (hS : SelfR K N br bl self) (hK : ∀ i, TkOK (K i)) (hL : Last K N) (hN : N ≤ 1000000) (w : World) (d m i : Nat) (hd : d ≤ 24) (h : RSd K N w br bl (.ok i) d)
    (hc1 : (K i).cl ≠ 1) (hk : (K i).tx = [40]) (r : Except (Nat × Nat) (PX × Nat)) (hr : bracketX K self m d i = some r) :
    Calls Tryz.prog 158 #[.pointer (some ⟨br, 0, none⟩)] w (PostT K N w br bl d r) := by
  have hiN : i < N := hL.lt h.le (m := [40]) (by rw [hk]; rfl) (by decide)
  have hc4 : (K i).cl = 4 := by
    have h1 := mark_cl (hK i) (by decide) hk
    omega
  have HAM : Hid ((openB.any fun m => isS K (.ok i) m.data.toList) = true) := by show (openB.any fun m => (K i).tx == m.data.toList) = true; rw [hk]; rfl
  have HBR : Hid (enterX K d i (fun j => bX (self 0 (d + 1) j) fun x j => needX K [41] j fun j => okX x j) = some r) := by
    have hr2 := hr
    unfold bracketX at hr2
    rw [hk, if_pos (by decide)] at hr2
    exact hr2
  have HS : Hid (SelfR K N br bl self) := hS
  have HK : Hid (∀ i, TkOK (K i)) := hK
  have HL : Hid (Last K N) := hL
  have HR : Hid (RSd K N w br bl (.ok i) d) := h
  obtain ⟨cap, bad, dd, hb, hI, hne, hbl, t0, t1, t2⟩ := h.open
  obtain ⟨hdr, u0, u1, u2⟩ := RS.cells hb hbl t0 t1 t2
  have c0 := block_cell hb 0
  have c1 := block_cell hb 1
  have k0 := block_cell hdr 0
  have k1 := block_cell hdr 1
  have hbr := block_lt hb
  have hI1 : (i : Int) < ((N + 1 : Nat) : Int) := by omega
  have mo := follows
  have hsb : sortB (K i).cl = 111 := by rw [hc4]; rfl
  obtain ⟨tx, htx⟩ : ∃ tx, tokB (K i) = tx := ⟨_, rfl⟩
  obtain ⟨aa, haa⟩ : ∃ aa, (K i).at' = aa := ⟨_, rfl⟩
  have HTX : Hid (tokB (K i) = tx) := htx
  have HAA : Hid ((K i).at' = aa) := haa
  rw [hsb] at t0 u0
  rw [htx] at t1 u1
  rw [haa] at t2 u2
  have htl : tx.data.toList = [40] := by rw [← htx]; exact tok_mark hK (by decide) hk
  have hfc : (tx.toList == [40]) = true := by rw [ByteArray.toList_eq, htl]; decide
  have HFC : Hid ((tx.toList == [40]) = true) := hfc
  clear hk hc1 hc4 hr htl hfc
  clear hb hdr h hS hK hL hsb htx haa
  go_enter Tryz.func158, Tryz.ntmps158
  go_wp2_with fail
  go_big_region_o
  have T1 : Hid (TBlk _ w.heap.size 111 tx (aa : Int)) := TBlk.new w 111 tx (aa : Int)
  have G1 : Hid (Grew w (w.alloc (.cells #[.int .u8 111, .string tx, .int .i64 (aa : Int)] 106)).drew) := ((Grew.refl w).alloc _).drew
  clear c0 c1 k0 k1 u0 u1 u2 t0 t1 t2 hI1
  generalize (w.alloc (.cells #[.int .u8 111, .string tx, .int .i64 (aa : Int)] 106)).drew = W1 at G1 T1 ⊢
  obtain ⟨bt, hbt⟩ : ∃ bt, w.heap.size = bt := ⟨_, rfl⟩
  rw [hbt] at T1 hbr ⊢
  have hwt : w.heap.size ≤ bt := by omega
  have htw : bt ≤ w.heap.size := by omega
  clear hbt
  have q0 := block_cell T1.out 0
  have q1 := block_cell T1.out 1
  have q2 := block_cell T1.out 2
  have E2 : Hid (XBlk (W1.alloc (.cells #[.string ⟨#[]⟩, .int .i64 (aa : Int), .string ⟨#[]⟩, .int .i64 0, .int .i64 0, .string ⟨#[]⟩, .slice none 0 0, .slice none 0 0, .slice none 0 0, .int .i64 0, .int .i64 0] 165)) W1.heap.size ⟨#[]⟩ (aa : Int) ⟨#[]⟩ 0 0 ⟨#[]⟩ none 0 0) := XBlk.new W1 ⟨#[]⟩ ⟨#[]⟩ ⟨#[]⟩ (aa : Int) 0 0
  have G2 : Hid (Grew w (W1.alloc (.cells #[.string ⟨#[]⟩, .int .i64 (aa : Int), .string ⟨#[]⟩, .int .i64 0, .int .i64 0, .string ⟨#[]⟩, .slice none 0 0, .slice none 0 0, .slice none 0 0, .int .i64 0, .int .i64 0] 165))) := G1.out.alloc _
  have T2 : Hid (TBlk (W1.alloc (.cells #[.string ⟨#[]⟩, .int .i64 (aa : Int), .string ⟨#[]⟩, .int .i64 0, .int .i64 0, .string ⟨#[]⟩, .slice none 0 0, .slice none 0 0, .slice none 0 0, .int .i64 0, .int .i64 0] 165)) bt 111 tx (aa : Int)) := T1.out.grew ((Grew.refl _).alloc _)
  have hbtl : bt < W1.heap.size := block_lt T1.out
  have hwW : w.heap.size ≤ W1.heap.size := G1.out.below.size
  have R2 : Hid (RSd K N (W1.alloc (.cells #[.string ⟨#[]⟩, .int .i64 (aa : Int), .string ⟨#[]⟩, .int .i64 0, .int .i64 0, .string ⟨#[]⟩, .slice none 0 0, .slice none 0 0, .slice none 0 0, .int .i64 0, .int .i64 0] 165)) br bl (.ok i) d) := HR.out.grew G2.out
  have e3 : World.cell? (W1.alloc (.cells #[.string ⟨#[]⟩, .int .i64 (aa : Int), .string ⟨#[]⟩, .int .i64 0, .int .i64 0, .string ⟨#[]⟩, .slice none 0 0, .slice none 0 0, .slice none 0 0, .int .i64 0, .int .i64 0] 165)) ⟨br, 3, none⟩ = some (.int .i64 0) := R2.out.err.1
  have p0 := block_cell T2.out 0
  have p1 := block_cell T2.out 1
  have p2 := block_cell T2.out 2
  go_wp2_with fail
  have hzN : (World.heap (W1.alloc (.cells #[.string ⟨#[]⟩, .int .i64 (aa : Int), .string ⟨#[]⟩, .int .i64 0, .int .i64 0, .string ⟨#[]⟩, .slice none 0 0, .slice none 0 0, .slice none 0 0, .int .i64 0, .int .i64 0] 165))).size = W1.heap.size + 1 := allocT_size W1 _
  clear q0 q1 q2 p0 p1 p2 e3 T1 G1
  generalize (W1.alloc (.cells #[.string ⟨#[]⟩, .int .i64 (aa : Int), .string ⟨#[]⟩, .int .i64 0, .int .i64 0, .string ⟨#[]⟩, .slice none 0 0, .slice none 0 0, .slice none 0 0, .int .i64 0, .int .i64 0] 165)) = W2 at E2 G2 T2 R2 hzN ⊢
  obtain ⟨be, hbe⟩ : ∃ be, W1.heap.size = be := ⟨_, rfl⟩
  rw [hbe] at E2 hbtl hwW hzN ⊢
  clear hbe
  have hber : be ≠ br := by omega
  have hblw : bl < w.heap.size := hbl
  have hbel : be ≠ bl := by omega
  rw [← hzN]
  clear hzN
  have hbtr : bt ≠ br := by omega
  have hbeb : be ≠ bt := by omega
  refine (among_d HK.out W2 br bl (.ok i) d _ openB 4 true rfl (by decide) rfl (by decide) HAM.out R2.out).mono ?_
  rintro e W3 ⟨rfl, g3⟩
  have R3 : Hid (RSd K N W3 br bl (.ok i) d) := R2.out.grew g3
  have G3 : Hid (Grew w W3) := G2.out.trans g3
  have E3 : Hid (XBlk W3 be ⟨#[]⟩ (aa : Int) ⟨#[]⟩ 0 0 ⟨#[]⟩ none 0 0) := E2.out.of (P := fun _ => True) (Fr.grew g3) trivial
  have T3 : Hid (TBlk W3 bt 111 tx (aa : Int)) := T2.out.grew g3
  clear g3 R2 G2 E2 T2
  go_wp2_with fail
  refine (gin_d hN W3 br bl i d hd hiN R3.out).mono ?_
  rintro e W4 ⟨rfl, hr4, hf4⟩
  have R4 : Hid (RSd K N W4 br bl (inS K i d) (d + 1)) := hr4
  have F4 : Hid (Fr (· ≠ br) w W4) := (Fr.grew G3.out).trans hf4
  have E4 : Hid (XBlk W4 be ⟨#[]⟩ (aa : Int) ⟨#[]⟩ 0 0 ⟨#[]⟩ none 0 0) := E3.out.of hf4 hber
  have T4 : Hid (TBlk W4 bt 111 tx (aa : Int)) := T3.out.fr hf4 hbtr
  clear hr4 hf4 R3 G3 E3 T3
  have q1 := block_cell T4.out 1
  obtain ⟨r1, h1, hc⟩ := runS_bX noX (in_run HBR.out)
  have hc := want_run hc
  have HQ : Hid (stX r = wantS K (stX r1) [41] ∧ ∀ y j, r = .ok (y, j) → y = valX noX r1) := ok_run hc
  have HC : Hid (Calls _ _ _ _ _) := HS.out W4 0 (d + 1) (inS K i d) r1 (by omega) (in_ok hd) R4.out h1
  clear hc h1 HBR R4 E4
  have n1 := HFC.out
  go_wp2_with fail
  clear q1 n1 HFC T4
  refine HC.out.mono ?_
  rintro e W5 ⟨hf5, hr5, b5, rfl, ht5⟩
  have R5 : Hid (RSd K N W5 br bl (stX r1) (d + 1)) := hr5
  have hz4 := F4.out.size
  have F5 : Hid (Fr (· ≠ br) w W5) := F4.out.trans hf5
  have P5 : Hid (∀ x j, r1 = .ok (x, j) → TreeT (fun k => W4.heap.size ≤ k) W5 x (.pointer (some ⟨b5, 0, none⟩))) := ht5
  have hz5 := hf5.size
  have hb4 : br < W4.heap.size := by omega
  clear hf5 hr5 ht5 HC F4
  go_wp2_with fail
  refine (gWant_d HK.out HL.out W5 br bl _ (d + 1) ⟨#[41]⟩ (by decide) hN R5.out).mono ?_
  rintro e W6 ⟨rfl, hr6, hf6⟩
  have R6 : Hid (RSd K N W6 br bl (wantS K (stX r1) [41]) (d + 1)) := hr6
  have F6 : Hid (Fr (· ≠ br) w W6) := F5.out.trans hf6
  have P6 : Hid (∀ x j, r1 = .ok (x, j) → TreeT (fun k => W4.heap.size ≤ k) W6 x (.pointer (some ⟨b5, 0, none⟩))) := fun x j e => (P5.out x j e).fr (hf6.mono fun k q => by omega) fun _ _ q => q
  clear hr6 hf6 R5 F5 P5
  go_wp2_with fail
  refine (gout_d W6 br bl _ d hd R6.out).mono ?_
  rintro e W7 ⟨rfl, hr7, hf7⟩
  have R7 : Hid (RSd K N W7 br bl (wantS K (stX r1) [41]) d) := hr7
  have F7 : Hid (Fr (· ≠ br) w W7) := F6.out.trans hf7
  have P7 : Hid (∀ x j, r1 = .ok (x, j) → TreeT (fun k => w.heap.size ≤ k) W7 x (.pointer (some ⟨b5, 0, none⟩))) := fun x j e => (P6.out x j e).fr (hf7.mono fun k q => by omega) fun _ _ q => by omega
  clear hr7 hf7 R6 F6 P6
  go_wp2_with fail
  go_ret
  refine ⟨F7.out, by rw [HQ.out.1]; exact R7.out, b5, rfl, fun x j e => ?_⟩
  have o : OkS (stX r1) := want_ok (by rw [← HQ.out.1]; exact ok_of e)
  obtain ⟨j1, e1⟩ := ok_val noX o
  rw [HQ.out.2 x j e]
  exact P7.out _ _ e1
set_option maxRecDepth 100000 in
set_option maxHeartbeats 1000000 in
theorem gfirst_seq {K : Nat → Tk} {N br bl : Nat} {self : Nat → Nat → Nat → RX PX} (hS : SelfR K N br bl self) (hK : ∀ i, TkOK (K i)) (hL : Last K N) (hN : N ≤ 1000000) (w : World) (d m i : Nat) (hd : d ≤ 24) (hm : m ≤ 1000000) (h : RSd K N w br bl (.ok i) d)
    (hc1 : (K i).cl ≠ 1) (hk : (K i).tx = [60, 60]) (r : Except (Nat × Nat) (PX × Nat)) (hr : bracketX K self m d i = some r) :
    Calls Tryz.prog 158 #[.pointer (some ⟨br, 0, none⟩)] w (PostT K N w br bl d r) := by
  have hiN : i < N := hL.lt h.le (m := [60, 60]) (by rw [hk]; rfl) (by decide)
  have hc4 : (K i).cl = 4 := by
    have h1 := mark_cl (hK i) (by decide) hk
    omega
  have HAM : Hid ((openB.any fun m => isS K (.ok i) m.data.toList) = true) := by show (openB.any fun m => (K i).tx == m.data.toList) = true; rw [hk]; rfl
  have HBR : Hid (enterX K d i (fun j => bX (anyX K [62, 62] (self 0 (d + 1)) m j) fun l j => okX (dSeq l) j) = some r) := by
    have hr2 := hr
    unfold bracketX at hr2
    rw [hk, if_neg (by decide), if_neg (by decide), if_pos (by decide)] at hr2
    exact hr2
  have HS : Hid (SelfR K N br bl self) := hS
  have HK : Hid (∀ i, TkOK (K i)) := hK
  have HL : Hid (Last K N) := hL
  have HR : Hid (RSd K N w br bl (.ok i) d) := h
  obtain ⟨cap, bad, dd, hb, hI, hne, hbl, t0, t1, t2⟩ := h.open
  obtain ⟨hdr, u0, u1, u2⟩ := RS.cells hb hbl t0 t1 t2
  have c0 := block_cell hb 0
  have c1 := block_cell hb 1
  have k0 := block_cell hdr 0
  have k1 := block_cell hdr 1
  have hbr := block_lt hb
  have hI1 : (i : Int) < ((N + 1 : Nat) : Int) := by omega
  have mo := follows
  have hsb : sortB (K i).cl = 111 := by rw [hc4]; rfl
  obtain ⟨tx, htx⟩ : ∃ tx, tokB (K i) = tx := ⟨_, rfl⟩
  obtain ⟨aa, haa⟩ : ∃ aa, (K i).at' = aa := ⟨_, rfl⟩
  have HTX : Hid (tokB (K i) = tx) := htx
  have HAA : Hid ((K i).at' = aa) := haa
  rw [hsb] at t0 u0
  rw [htx] at t1 u1
  rw [haa] at t2 u2
  have htl : tx.data.toList = [60, 60] := by rw [← htx]; exact tok_mark hK (by decide) hk
  have hfc : (tx.toList == [40]) = false ∧ (tx.toList == [60, 60]) = true := by rw [ByteArray.toList_eq, htl]; decide
  have HFC : Hid ((tx.toList == [40]) = false ∧ (tx.toList == [60, 60]) = true) := hfc
  clear hk hc1 hc4 hr htl hfc
  clear hb hdr h hS hK hL hsb htx haa
  go_enter Tryz.func158, Tryz.ntmps158
  go_wp2_with fail
  go_big_region_o
  have T1 : Hid (TBlk _ w.heap.size 111 tx (aa : Int)) := TBlk.new w 111 tx (aa : Int)
  have G1 : Hid (Grew w (w.alloc (.cells #[.int .u8 111, .string tx, .int .i64 (aa : Int)] 106)).drew) := ((Grew.refl w).alloc _).drew
  clear c0 c1 k0 k1 u0 u1 u2 t0 t1 t2 hI1
  generalize (w.alloc (.cells #[.int .u8 111, .string tx, .int .i64 (aa : Int)] 106)).drew = W1 at G1 T1 ⊢
  obtain ⟨bt, hbt⟩ : ∃ bt, w.heap.size = bt := ⟨_, rfl⟩
  rw [hbt] at T1 hbr ⊢
  have hwt : w.heap.size ≤ bt := by omega
  have htw : bt ≤ w.heap.size := by omega
  clear hbt
  have q0 := block_cell T1.out 0
  have q1 := block_cell T1.out 1
  have q2 := block_cell T1.out 2
  have E2 : Hid (XBlk (W1.alloc (.cells #[.string ⟨#[]⟩, .int .i64 (aa : Int), .string ⟨#[]⟩, .int .i64 0, .int .i64 0, .string ⟨#[]⟩, .slice none 0 0, .slice none 0 0, .slice none 0 0, .int .i64 0, .int .i64 0] 165)) W1.heap.size ⟨#[]⟩ (aa : Int) ⟨#[]⟩ 0 0 ⟨#[]⟩ none 0 0) := XBlk.new W1 ⟨#[]⟩ ⟨#[]⟩ ⟨#[]⟩ (aa : Int) 0 0
  have G2 : Hid (Grew w (W1.alloc (.cells #[.string ⟨#[]⟩, .int .i64 (aa : Int), .string ⟨#[]⟩, .int .i64 0, .int .i64 0, .string ⟨#[]⟩, .slice none 0 0, .slice none 0 0, .slice none 0 0, .int .i64 0, .int .i64 0] 165))) := G1.out.alloc _
  have T2 : Hid (TBlk (W1.alloc (.cells #[.string ⟨#[]⟩, .int .i64 (aa : Int), .string ⟨#[]⟩, .int .i64 0, .int .i64 0, .string ⟨#[]⟩, .slice none 0 0, .slice none 0 0, .slice none 0 0, .int .i64 0, .int .i64 0] 165)) bt 111 tx (aa : Int)) := T1.out.grew ((Grew.refl _).alloc _)
  have hbtl : bt < W1.heap.size := block_lt T1.out
  have hwW : w.heap.size ≤ W1.heap.size := G1.out.below.size
  have R2 : Hid (RSd K N (W1.alloc (.cells #[.string ⟨#[]⟩, .int .i64 (aa : Int), .string ⟨#[]⟩, .int .i64 0, .int .i64 0, .string ⟨#[]⟩, .slice none 0 0, .slice none 0 0, .slice none 0 0, .int .i64 0, .int .i64 0] 165)) br bl (.ok i) d) := HR.out.grew G2.out
  have e3 : World.cell? (W1.alloc (.cells #[.string ⟨#[]⟩, .int .i64 (aa : Int), .string ⟨#[]⟩, .int .i64 0, .int .i64 0, .string ⟨#[]⟩, .slice none 0 0, .slice none 0 0, .slice none 0 0, .int .i64 0, .int .i64 0] 165)) ⟨br, 3, none⟩ = some (.int .i64 0) := R2.out.err.1
  have p0 := block_cell T2.out 0
  have p1 := block_cell T2.out 1
  have p2 := block_cell T2.out 2
  go_wp2_with fail
  have hzN : (World.heap (W1.alloc (.cells #[.string ⟨#[]⟩, .int .i64 (aa : Int), .string ⟨#[]⟩, .int .i64 0, .int .i64 0, .string ⟨#[]⟩, .slice none 0 0, .slice none 0 0, .slice none 0 0, .int .i64 0, .int .i64 0] 165))).size = W1.heap.size + 1 := allocT_size W1 _
  clear q0 q1 q2 p0 p1 p2 e3 T1 G1
  generalize (W1.alloc (.cells #[.string ⟨#[]⟩, .int .i64 (aa : Int), .string ⟨#[]⟩, .int .i64 0, .int .i64 0, .string ⟨#[]⟩, .slice none 0 0, .slice none 0 0, .slice none 0 0, .int .i64 0, .int .i64 0] 165)) = W2 at E2 G2 T2 R2 hzN ⊢
  obtain ⟨be, hbe⟩ : ∃ be, W1.heap.size = be := ⟨_, rfl⟩
  rw [hbe] at E2 hbtl hwW hzN ⊢
  clear hbe
  have hber : be ≠ br := by omega
  have hblw : bl < w.heap.size := hbl
  have hbel : be ≠ bl := by omega
  rw [← hzN]
  clear hzN
  have hbtr : bt ≠ br := by omega
  have hbeb : be ≠ bt := by omega
  refine (among_d HK.out W2 br bl (.ok i) d _ openB 4 true rfl (by decide) rfl (by decide) HAM.out R2.out).mono ?_
  rintro e W3 ⟨rfl, g3⟩
  have R3 : Hid (RSd K N W3 br bl (.ok i) d) := R2.out.grew g3
  have G3 : Hid (Grew w W3) := G2.out.trans g3
  have E3 : Hid (XBlk W3 be ⟨#[]⟩ (aa : Int) ⟨#[]⟩ 0 0 ⟨#[]⟩ none 0 0) := E2.out.of (P := fun _ => True) (Fr.grew g3) trivial
  have T3 : Hid (TBlk W3 bt 111 tx (aa : Int)) := T2.out.grew g3
  clear g3 R2 G2 E2 T2
  go_wp2_with fail
  refine (gin_d hN W3 br bl i d hd hiN R3.out).mono ?_
  rintro e W4 ⟨rfl, hr4, hf4⟩
  have R4 : Hid (RSd K N W4 br bl (inS K i d) (d + 1)) := hr4
  have F4 : Hid (Fr (· ≠ br) w W4) := (Fr.grew G3.out).trans hf4
  have E4 : Hid (XBlk W4 be ⟨#[]⟩ (aa : Int) ⟨#[]⟩ 0 0 ⟨#[]⟩ none 0 0) := E3.out.of hf4 hber
  have T4 : Hid (TBlk W4 bt 111 tx (aa : Int)) := T3.out.fr hf4 hbtr
  clear hr4 hf4 R3 G3 E3 T3
  have q1 := block_cell T4.out 1
  obtain ⟨rl, hl, hc⟩ := runS_bX [] (in_run HBR.out)
  have HQ : Hid (stX r = stX rl ∧ ∀ y j, r = .ok (y, j) → y = dSeq (valX [] rl)) := ok_run hc
  have H1 : Hid (runS (inS K i d) (anyX K [62, 62] (self 0 (d + 1)) m) = some rl) := hl
  clear hl hc HBR
  obtain ⟨n1, n2⟩ := HFC.out
  have x0 := block_cell E4.out 0
  have y0 := frozen_block E4.out 0
  have hfs : Fr (· ≠ be) W4 (W4.setCell ⟨be, 0, none⟩ (.string ⟨#[115, 101, 113]⟩)) := (Fr.refl _ W4).set (by simp) _
  have E5 : Hid (XBlk (W4.setCell ⟨be, 0, none⟩ (.string ⟨#[115, 101, 113]⟩)) be ⟨#[115, 101, 113]⟩ (aa : Int) ⟨#[]⟩ 0 0 ⟨#[]⟩ none 0 0) := E4.out.op _
  have R5 : Hid (RSd K N (W4.setCell ⟨be, 0, none⟩ (.string ⟨#[115, 101, 113]⟩)) br bl (inS K i d) (d + 1)) := R4.out.fr hfs (Ne.symm hber) (Ne.symm hbel)
  have F5 : Hid (Fr (· ≠ br) w (W4.setCell ⟨be, 0, none⟩ (.string ⟨#[115, 101, 113]⟩))) := Fr.freshT F4.out (hfs.mono fun _ q => q.2) hwW
  clear hfs
  go_wp2_with fail
  clear q1 x0 y0 n1 n2 HFC R4 F4 E4 T4
  generalize W4.setCell ⟨be, 0, none⟩ (.string ⟨#[115, 101, 113]⟩) = W5 at E5 R5 F5 ⊢
  refine (glist_none HS.out HK.out HL.out hN W5 (d + 1) m _ ⟨#[62, 62]⟩ (in_ok hd) hm (by decide) (by decide) R5.out rl H1.out).mono ?_
  rintro e W6 ⟨hf6, hr6, a6, l6, c6, rfl, hrow⟩
  have R6 : Hid (RSd K N W6 br bl (stX rl) (d + 1)) := hr6
  have F6 : Hid (Fr (· ≠ br) w W6) := F5.out.trans hf6
  have E6 : Hid (XBlk W6 be ⟨#[115, 101, 113]⟩ (aa : Int) ⟨#[]⟩ 0 0 ⟨#[]⟩ none 0 0) := E5.out.of hf6 hber
  have W6R : Hid (∀ l j, rl = .ok (l, j) → RowP (fun k => W5.heap.size ≤ k) W6 (TreeT (fun k => W5.heap.size ≤ k) W6) a6 l6 l) := hrow
  have hz5 := F5.out.size
  have hb5 : be < W5.heap.size := block_lt E5.out
  clear hf6 hr6 hrow R5 F5 E5
  have x8 := block_cell E6.out 8
  have g8 := frozen_block E6.out 8
  have hfk : Fr (· ≠ be) W6 (W6.setCell ⟨be, 8, none⟩ (.slice a6 l6 c6)) := (Fr.refl _ W6).set (by simp) _
  have R7 : Hid (RSd K N (W6.setCell ⟨be, 8, none⟩ (.slice a6 l6 c6)) br bl (stX rl) (d + 1)) := R6.out.fr hfk (Ne.symm hber) (Ne.symm hbel)
  have F7 : Hid (Fr (· ≠ br) w (W6.setCell ⟨be, 8, none⟩ (.slice a6 l6 c6))) := Fr.freshT F6.out (hfk.mono fun _ q => q.2) hwW
  have T7 : Hid (∀ x j, r = .ok (x, j) → TreeT (fun k => k = be ∨ w.heap.size ≤ k) (W6.setCell ⟨be, 8, none⟩ (.slice a6 l6 c6)) x (.pointer (some ⟨be, 0, none⟩))) := fun x j e => by
    have o : OkS (stX rl) := by rw [← HQ.out.1]; exact ok_of e
    obtain ⟨j1, e1⟩ := ok_val [] o
    rw [HQ.out.2 x j e]
    exact kids_tree E6.out hb5 hz5 (W6R.out _ _ e1) (.inr (.inr (.inr (.inr (.inr (.inr (.inl ⟨rfl, rfl⟩)))))))
  clear hfk
  go_wp2_with fail
  clear x8 g8 R6 F6 E6 W6R
  generalize W6.setCell ⟨be, 8, none⟩ (.slice a6 l6 c6) = W7 at R7 F7 T7 ⊢
  refine (gout_d W7 br bl _ d hd R7.out).mono ?_
  rintro e W8 ⟨rfl, hr8, hf8⟩
  have R8 : Hid (RSd K N W8 br bl (stX rl) d) := hr8
  have F8 : Hid (Fr (· ≠ br) w W8) := F7.out.trans hf8
  have T8 : Hid (∀ x j, r = .ok (x, j) → TreeT (fun k => w.heap.size ≤ k) W8 x (.pointer (some ⟨be, 0, none⟩))) := fun x j e => (T7.out x j e).fr (hf8.mono fun k q => by omega) fun _ _ q => by omega
  clear hr8 hf8 R7 F7 T7
  go_wp2_with fail
  go_ret
  exact ⟨F8.out, by rw [HQ.out.1]; exact R8.out, be, rfl, T8.out⟩
set_option maxRecDepth 100000 in
set_option maxHeartbeats 1000000 in
theorem gfirst_fun {K : Nat → Tk} {N br bl : Nat} {self : Nat → Nat → Nat → RX PX} (hS : SelfR K N br bl self) (hK : ∀ i, TkOK (K i)) (hL : Last K N) (hN : N ≤ 1000000) (w : World) (d m i : Nat) (hd : d ≤ 24) (hm : m ≤ 1000000) (h : RSd K N w br bl (.ok i) d)
    (hc1 : (K i).cl ≠ 1) (hk : (K i).tx = [91]) (r : Except (Nat × Nat) (PX × Nat)) (hr : bracketX K self m d i = some r) :
    Calls Tryz.prog 158 #[.pointer (some ⟨br, 0, none⟩)] w (PostT K N w br bl d r) := by
  have hiN : i < N := hL.lt h.le (m := [91]) (by rw [hk]; rfl) (by decide)
  have hc4 : (K i).cl = 4 := by
    have h1 := mark_cl (hK i) (by decide) hk
    omega
  have HAM : Hid ((openB.any fun m => isS K (.ok i) m.data.toList) = true) := by show (openB.any fun m => (K i).tx == m.data.toList) = true; rw [hk]; rfl
  have HBR : Hid (enterX K d i (fun j => bX (listX K [93] (pairX K self (d + 1)) m [] j) fun l j => okX (dFun (flatP l)) j) = some r) := by
    have hr2 := hr
    unfold bracketX at hr2
    rw [hk, if_neg (by decide), if_neg (by decide), if_neg (by decide), if_pos (by decide)] at hr2
    exact hr2
  have HS : Hid (SelfR K N br bl self) := hS
  have HK : Hid (∀ i, TkOK (K i)) := hK
  have HL : Hid (Last K N) := hL
  have HR : Hid (RSd K N w br bl (.ok i) d) := h
  obtain ⟨cap, bad, dd, hb, hI, hne, hbl, t0, t1, t2⟩ := h.open
  obtain ⟨hdr, u0, u1, u2⟩ := RS.cells hb hbl t0 t1 t2
  have c0 := block_cell hb 0
  have c1 := block_cell hb 1
  have k0 := block_cell hdr 0
  have k1 := block_cell hdr 1
  have hbr := block_lt hb
  have hI1 : (i : Int) < ((N + 1 : Nat) : Int) := by omega
  have mo := follows
  have hsb : sortB (K i).cl = 111 := by rw [hc4]; rfl
  obtain ⟨tx, htx⟩ : ∃ tx, tokB (K i) = tx := ⟨_, rfl⟩
  obtain ⟨aa, haa⟩ : ∃ aa, (K i).at' = aa := ⟨_, rfl⟩
  have HTX : Hid (tokB (K i) = tx) := htx
  have HAA : Hid ((K i).at' = aa) := haa
  rw [hsb] at t0 u0
  rw [htx] at t1 u1
  rw [haa] at t2 u2
  have htl : tx.data.toList = [91] := by rw [← htx]; exact tok_mark hK (by decide) hk
  have hfc : (tx.toList == [40]) = false ∧ (tx.toList == [60, 60]) = false ∧ (tx.toList == [91]) = true := by rw [ByteArray.toList_eq, htl]; decide
  have HFC : Hid ((tx.toList == [40]) = false ∧ (tx.toList == [60, 60]) = false ∧ (tx.toList == [91]) = true) := hfc
  clear hk hc1 hc4 hr htl hfc
  clear hb hdr h hS hK hL hsb htx haa
  go_enter Tryz.func158, Tryz.ntmps158
  go_wp2_with fail
  go_big_region_o
  have T1 : Hid (TBlk _ w.heap.size 111 tx (aa : Int)) := TBlk.new w 111 tx (aa : Int)
  have G1 : Hid (Grew w (w.alloc (.cells #[.int .u8 111, .string tx, .int .i64 (aa : Int)] 106)).drew) := ((Grew.refl w).alloc _).drew
  clear c0 c1 k0 k1 u0 u1 u2 t0 t1 t2 hI1
  generalize (w.alloc (.cells #[.int .u8 111, .string tx, .int .i64 (aa : Int)] 106)).drew = W1 at G1 T1 ⊢
  obtain ⟨bt, hbt⟩ : ∃ bt, w.heap.size = bt := ⟨_, rfl⟩
  rw [hbt] at T1 hbr ⊢
  have hwt : w.heap.size ≤ bt := by omega
  have htw : bt ≤ w.heap.size := by omega
  clear hbt
  have q0 := block_cell T1.out 0
  have q1 := block_cell T1.out 1
  have q2 := block_cell T1.out 2
  have E2 : Hid (XBlk (W1.alloc (.cells #[.string ⟨#[]⟩, .int .i64 (aa : Int), .string ⟨#[]⟩, .int .i64 0, .int .i64 0, .string ⟨#[]⟩, .slice none 0 0, .slice none 0 0, .slice none 0 0, .int .i64 0, .int .i64 0] 165)) W1.heap.size ⟨#[]⟩ (aa : Int) ⟨#[]⟩ 0 0 ⟨#[]⟩ none 0 0) := XBlk.new W1 ⟨#[]⟩ ⟨#[]⟩ ⟨#[]⟩ (aa : Int) 0 0
  have G2 : Hid (Grew w (W1.alloc (.cells #[.string ⟨#[]⟩, .int .i64 (aa : Int), .string ⟨#[]⟩, .int .i64 0, .int .i64 0, .string ⟨#[]⟩, .slice none 0 0, .slice none 0 0, .slice none 0 0, .int .i64 0, .int .i64 0] 165))) := G1.out.alloc _
  have T2 : Hid (TBlk (W1.alloc (.cells #[.string ⟨#[]⟩, .int .i64 (aa : Int), .string ⟨#[]⟩, .int .i64 0, .int .i64 0, .string ⟨#[]⟩, .slice none 0 0, .slice none 0 0, .slice none 0 0, .int .i64 0, .int .i64 0] 165)) bt 111 tx (aa : Int)) := T1.out.grew ((Grew.refl _).alloc _)
  have hbtl : bt < W1.heap.size := block_lt T1.out
  have hwW : w.heap.size ≤ W1.heap.size := G1.out.below.size
  have R2 : Hid (RSd K N (W1.alloc (.cells #[.string ⟨#[]⟩, .int .i64 (aa : Int), .string ⟨#[]⟩, .int .i64 0, .int .i64 0, .string ⟨#[]⟩, .slice none 0 0, .slice none 0 0, .slice none 0 0, .int .i64 0, .int .i64 0] 165)) br bl (.ok i) d) := HR.out.grew G2.out
  have e3 : World.cell? (W1.alloc (.cells #[.string ⟨#[]⟩, .int .i64 (aa : Int), .string ⟨#[]⟩, .int .i64 0, .int .i64 0, .string ⟨#[]⟩, .slice none 0 0, .slice none 0 0, .slice none 0 0, .int .i64 0, .int .i64 0] 165)) ⟨br, 3, none⟩ = some (.int .i64 0) := R2.out.err.1
  have p0 := block_cell T2.out 0
  have p1 := block_cell T2.out 1
  have p2 := block_cell T2.out 2
  go_wp2_with fail
  have hzN : (World.heap (W1.alloc (.cells #[.string ⟨#[]⟩, .int .i64 (aa : Int), .string ⟨#[]⟩, .int .i64 0, .int .i64 0, .string ⟨#[]⟩, .slice none 0 0, .slice none 0 0, .slice none 0 0, .int .i64 0, .int .i64 0] 165))).size = W1.heap.size + 1 := allocT_size W1 _
  clear q0 q1 q2 p0 p1 p2 e3 T1 G1
  generalize (W1.alloc (.cells #[.string ⟨#[]⟩, .int .i64 (aa : Int), .string ⟨#[]⟩, .int .i64 0, .int .i64 0, .string ⟨#[]⟩, .slice none 0 0, .slice none 0 0, .slice none 0 0, .int .i64 0, .int .i64 0] 165)) = W2 at E2 G2 T2 R2 hzN ⊢
  obtain ⟨be, hbe⟩ : ∃ be, W1.heap.size = be := ⟨_, rfl⟩
  rw [hbe] at E2 hbtl hwW hzN ⊢
  clear hbe
  have hber : be ≠ br := by omega
  have hblw : bl < w.heap.size := hbl
  have hbel : be ≠ bl := by omega
  rw [← hzN]
  clear hzN
  have hbtr : bt ≠ br := by omega
  have hbeb : be ≠ bt := by omega
  refine (among_d HK.out W2 br bl (.ok i) d _ openB 4 true rfl (by decide) rfl (by decide) HAM.out R2.out).mono ?_
  rintro e W3 ⟨rfl, g3⟩
  have R3 : Hid (RSd K N W3 br bl (.ok i) d) := R2.out.grew g3
  have G3 : Hid (Grew w W3) := G2.out.trans g3
  have E3 : Hid (XBlk W3 be ⟨#[]⟩ (aa : Int) ⟨#[]⟩ 0 0 ⟨#[]⟩ none 0 0) := E2.out.of (P := fun _ => True) (Fr.grew g3) trivial
  have T3 : Hid (TBlk W3 bt 111 tx (aa : Int)) := T2.out.grew g3
  clear g3 R2 G2 E2 T2
  go_wp2_with fail
  refine (gin_d hN W3 br bl i d hd hiN R3.out).mono ?_
  rintro e W4 ⟨rfl, hr4, hf4⟩
  have R4 : Hid (RSd K N W4 br bl (inS K i d) (d + 1)) := hr4
  have F4 : Hid (Fr (· ≠ br) w W4) := (Fr.grew G3.out).trans hf4
  have E4 : Hid (XBlk W4 be ⟨#[]⟩ (aa : Int) ⟨#[]⟩ 0 0 ⟨#[]⟩ none 0 0) := E3.out.of hf4 hber
  have T4 : Hid (TBlk W4 bt 111 tx (aa : Int)) := T3.out.fr hf4 hbtr
  clear hr4 hf4 R3 G3 E3 T3
  have q1 := block_cell T4.out 1
  obtain ⟨rl, hl, hc⟩ := runS_bX [] (in_run HBR.out)
  have HQ : Hid (stX r = stX rl ∧ ∀ y j, r = .ok (y, j) → y = dFun (flatP (valX [] rl))) := ok_run hc
  have H1 : Hid (runS (inS K i d) (listX K [93] (pairX K self (d + 1)) m []) = some rl) := hl
  clear hl hc HBR
  obtain ⟨n1, n2, n3⟩ := HFC.out
  have x0 := block_cell E4.out 0
  have y0 := frozen_block E4.out 0
  have hfs : Fr (· ≠ be) W4 (W4.setCell ⟨be, 0, none⟩ (.string ⟨#[102, 117, 110]⟩)) := (Fr.refl _ W4).set (by simp) _
  have E5 : Hid (XBlk (W4.setCell ⟨be, 0, none⟩ (.string ⟨#[102, 117, 110]⟩)) be ⟨#[102, 117, 110]⟩ (aa : Int) ⟨#[]⟩ 0 0 ⟨#[]⟩ none 0 0) := E4.out.op _
  have R5 : Hid (RSd K N (W4.setCell ⟨be, 0, none⟩ (.string ⟨#[102, 117, 110]⟩)) br bl (inS K i d) (d + 1)) := R4.out.fr hfs (Ne.symm hber) (Ne.symm hbel)
  have F5 : Hid (Fr (· ≠ br) w (W4.setCell ⟨be, 0, none⟩ (.string ⟨#[102, 117, 110]⟩))) := Fr.freshT F4.out (hfs.mono fun _ q => q.2) hwW
  clear hfs
  go_wp2_with fail
  clear q1 x0 y0 n1 n2 n3 HFC R4 F4 E4 T4
  generalize W4.setCell ⟨be, 0, none⟩ (.string ⟨#[102, 117, 110]⟩) = W5 at E5 R5 F5 ⊢
  refine (glist_two HS.out HK.out HL.out hN W5 (d + 1) m _ ⟨#[93]⟩ (in_ok hd) hm (by decide) (by decide) R5.out rl H1.out).mono ?_
  rintro e W6 ⟨hf6, hr6, a6, l6, c6, rfl, hrow⟩
  have R6 : Hid (RSd K N W6 br bl (stX rl) (d + 1)) := hr6
  have F6 : Hid (Fr (· ≠ br) w W6) := F5.out.trans hf6
  have E6 : Hid (XBlk W6 be ⟨#[102, 117, 110]⟩ (aa : Int) ⟨#[]⟩ 0 0 ⟨#[]⟩ none 0 0) := E5.out.of hf6 hber
  have W6R : Hid (∀ l j, rl = .ok (l, j) → RowP (fun k => W5.heap.size ≤ k) W6 (TreeT (fun k => W5.heap.size ≤ k) W6) a6 l6 (flatP l)) := hrow
  have hz5 := F5.out.size
  have hb5 : be < W5.heap.size := block_lt E5.out
  clear hf6 hr6 hrow R5 F5 E5
  have x8 := block_cell E6.out 8
  have g8 := frozen_block E6.out 8
  have hfk : Fr (· ≠ be) W6 (W6.setCell ⟨be, 8, none⟩ (.slice a6 l6 c6)) := (Fr.refl _ W6).set (by simp) _
  have R7 : Hid (RSd K N (W6.setCell ⟨be, 8, none⟩ (.slice a6 l6 c6)) br bl (stX rl) (d + 1)) := R6.out.fr hfk (Ne.symm hber) (Ne.symm hbel)
  have F7 : Hid (Fr (· ≠ br) w (W6.setCell ⟨be, 8, none⟩ (.slice a6 l6 c6))) := Fr.freshT F6.out (hfk.mono fun _ q => q.2) hwW
  have T7 : Hid (∀ x j, r = .ok (x, j) → TreeT (fun k => k = be ∨ w.heap.size ≤ k) (W6.setCell ⟨be, 8, none⟩ (.slice a6 l6 c6)) x (.pointer (some ⟨be, 0, none⟩))) := fun x j e => by
    have o : OkS (stX rl) := by rw [← HQ.out.1]; exact ok_of e
    obtain ⟨j1, e1⟩ := ok_val [] o
    rw [HQ.out.2 x j e]
    exact kids_tree E6.out hb5 hz5 (W6R.out _ _ e1) (.inr (.inr (.inr (.inr (.inr (.inr (.inr (.inl ⟨rfl, rfl⟩))))))))
  clear hfk
  go_wp2_with fail
  clear x8 g8 R6 F6 E6 W6R
  generalize W6.setCell ⟨be, 8, none⟩ (.slice a6 l6 c6) = W7 at R7 F7 T7 ⊢
  refine (gout_d W7 br bl _ d hd R7.out).mono ?_
  rintro e W8 ⟨rfl, hr8, hf8⟩
  have R8 : Hid (RSd K N W8 br bl (stX rl) d) := hr8
  have F8 : Hid (Fr (· ≠ br) w W8) := F7.out.trans hf8
  have T8 : Hid (∀ x j, r = .ok (x, j) → TreeT (fun k => w.heap.size ≤ k) W8 x (.pointer (some ⟨be, 0, none⟩))) := fun x j e => (T7.out x j e).fr (hf8.mono fun k q => by omega) fun _ _ q => by omega
  clear hr8 hf8 R7 F7 T7
  go_wp2_with fail
  go_ret
  exact ⟨F8.out, by rw [HQ.out.1]; exact R8.out, be, rfl, T8.out⟩
end Go.Proofs.YtjbekejcghjhbaaGreatDoor.Sx

namespace Go.Proofs.YtjbekejcghjhbaaGreatDoor.Sx
open Go.RowKit Go.Sort

set_option maxRecDepth 100000 in
set_option maxHeartbeats 1000000 in
theorem gfirst_odd {K : Nat → Tk} {N br bl : Nat} (hK : ∀ i, TkOK (K i)) (hL : Last K N) (w : World) (d i : Nat) (h : RSd K N w br bl (.ok i) d)
    (hc : (K i).cl ≠ 1 ∧ (K i).cl ≠ 2 ∧ (K i).cl ≠ 3) (hk : (openB.any fun m => (K i).tx == m.data.toList) = false) :
    Calls Tryz.prog 158 #[.pointer (some ⟨br, 0, none⟩)] w (PostT K N w br bl d (.error (1, (K i).at'))) := by
  have HAM : Hid ((openB.any fun m => isS K (.ok i) m.data.toList) = false) := hk
  obtain ⟨sb, hsb0⟩ : ∃ sb, sortB (K i).cl = sb := ⟨_, rfl⟩
  have hso := (hK i).sort
  have hs1 : ((sb : Int) == 48) = false := by rw [← hsb0]; rcases hso with q | q | q | q | q | q <;> rw [q] <;> first | rfl | (exfalso; omega)
  have hs2 : ((sb : Int) == 34) = false := by rw [← hsb0]; rcases hso with q | q | q | q | q | q <;> rw [q] <;> first | rfl | (exfalso; omega)
  have hs3 : ((sb : Int) == 119) = false := by rw [← hsb0]; rcases hso with q | q | q | q | q | q <;> rw [q] <;> first | rfl | (exfalso; omega)
  have HK : Hid (∀ i, TkOK (K i)) := hK
  have HL : Hid (Last K N) := hL
  have HR : Hid (RSd K N w br bl (.ok i) d) := h
  obtain ⟨cap, bad, dd, hb, hI, hne, hbl, t0, t1, t2⟩ := h.open
  obtain ⟨hdr, u0, u1, u2⟩ := RS.cells hb hbl t0 t1 t2
  have c0 := block_cell hb 0
  have c1 := block_cell hb 1
  have k0 := block_cell hdr 0
  have k1 := block_cell hdr 1
  have hbr := block_lt hb
  have hI1 : (i : Int) < ((N + 1 : Nat) : Int) := by omega
  have mo := follows
  have hsb : sortB (K i).cl = sb := hsb0
  obtain ⟨tx, htx⟩ : ∃ tx, tokB (K i) = tx := ⟨_, rfl⟩
  obtain ⟨aa, haa⟩ : ∃ aa, (K i).at' = aa := ⟨_, rfl⟩
  have HTX : Hid (tokB (K i) = tx) := htx
  have HAA : Hid ((K i).at' = aa) := haa
  rw [hsb] at t0 u0
  rw [htx] at t1 u1
  rw [haa] at t2 u2
  clear hk hc hso hsb0
  clear hb hdr h hK hL hsb htx haa
  go_enter Tryz.func158, Tryz.ntmps158
  go_wp2_with fail
  go_big_region_o
  have T1 : Hid (TBlk _ w.heap.size sb tx (aa : Int)) := TBlk.new w sb tx (aa : Int)
  have G1 : Hid (Grew w (w.alloc (.cells #[.int .u8 (sb : Int), .string tx, .int .i64 (aa : Int)] 106)).drew) := ((Grew.refl w).alloc _).drew
  clear c0 c1 k0 k1 u0 u1 u2 t0 t1 t2 hI1
  generalize (w.alloc (.cells #[.int .u8 (sb : Int), .string tx, .int .i64 (aa : Int)] 106)).drew = W1 at G1 T1 ⊢
  obtain ⟨bt, hbt⟩ : ∃ bt, w.heap.size = bt := ⟨_, rfl⟩
  rw [hbt] at T1 hbr ⊢
  have hwt : w.heap.size ≤ bt := by omega
  have htw : bt ≤ w.heap.size := by omega
  clear hbt
  have q0 := block_cell T1.out 0
  have q1 := block_cell T1.out 1
  have q2 := block_cell T1.out 2
  have E2 : Hid (XBlk (W1.alloc (.cells #[.string ⟨#[]⟩, .int .i64 (aa : Int), .string ⟨#[]⟩, .int .i64 0, .int .i64 0, .string ⟨#[]⟩, .slice none 0 0, .slice none 0 0, .slice none 0 0, .int .i64 0, .int .i64 0] 165)) W1.heap.size ⟨#[]⟩ (aa : Int) ⟨#[]⟩ 0 0 ⟨#[]⟩ none 0 0) := XBlk.new W1 ⟨#[]⟩ ⟨#[]⟩ ⟨#[]⟩ (aa : Int) 0 0
  have G2 : Hid (Grew w (W1.alloc (.cells #[.string ⟨#[]⟩, .int .i64 (aa : Int), .string ⟨#[]⟩, .int .i64 0, .int .i64 0, .string ⟨#[]⟩, .slice none 0 0, .slice none 0 0, .slice none 0 0, .int .i64 0, .int .i64 0] 165))) := G1.out.alloc _
  have T2 : Hid (TBlk (W1.alloc (.cells #[.string ⟨#[]⟩, .int .i64 (aa : Int), .string ⟨#[]⟩, .int .i64 0, .int .i64 0, .string ⟨#[]⟩, .slice none 0 0, .slice none 0 0, .slice none 0 0, .int .i64 0, .int .i64 0] 165)) bt sb tx (aa : Int)) := T1.out.grew ((Grew.refl _).alloc _)
  have hbtl : bt < W1.heap.size := block_lt T1.out
  have hwW : w.heap.size ≤ W1.heap.size := G1.out.below.size
  have R2 : Hid (RSd K N (W1.alloc (.cells #[.string ⟨#[]⟩, .int .i64 (aa : Int), .string ⟨#[]⟩, .int .i64 0, .int .i64 0, .string ⟨#[]⟩, .slice none 0 0, .slice none 0 0, .slice none 0 0, .int .i64 0, .int .i64 0] 165)) br bl (.ok i) d) := HR.out.grew G2.out
  have e3 : World.cell? (W1.alloc (.cells #[.string ⟨#[]⟩, .int .i64 (aa : Int), .string ⟨#[]⟩, .int .i64 0, .int .i64 0, .string ⟨#[]⟩, .slice none 0 0, .slice none 0 0, .slice none 0 0, .int .i64 0, .int .i64 0] 165)) ⟨br, 3, none⟩ = some (.int .i64 0) := R2.out.err.1
  have p0 := block_cell T2.out 0
  have p1 := block_cell T2.out 1
  have p2 := block_cell T2.out 2
  go_wp2_with fail
  have hzN : (World.heap (W1.alloc (.cells #[.string ⟨#[]⟩, .int .i64 (aa : Int), .string ⟨#[]⟩, .int .i64 0, .int .i64 0, .string ⟨#[]⟩, .slice none 0 0, .slice none 0 0, .slice none 0 0, .int .i64 0, .int .i64 0] 165))).size = W1.heap.size + 1 := allocT_size W1 _
  clear q0 q1 q2 p0 p1 p2 e3 T1 G1
  generalize (W1.alloc (.cells #[.string ⟨#[]⟩, .int .i64 (aa : Int), .string ⟨#[]⟩, .int .i64 0, .int .i64 0, .string ⟨#[]⟩, .slice none 0 0, .slice none 0 0, .slice none 0 0, .int .i64 0, .int .i64 0] 165)) = W2 at E2 G2 T2 R2 hzN ⊢
  obtain ⟨be, hbe⟩ : ∃ be, W1.heap.size = be := ⟨_, rfl⟩
  rw [hbe] at E2 hbtl hwW hzN ⊢
  clear hbe
  have hber : be ≠ br := by omega
  have hblw : bl < w.heap.size := hbl
  have hbel : be ≠ bl := by omega
  rw [← hzN]
  clear hzN
  have hbtr : bt ≠ br := by omega
  have hbeb : be ≠ bt := by omega
  refine (among_d HK.out W2 br bl (.ok i) d _ openB 4 false rfl (by decide) rfl (by decide) HAM.out R2.out).mono ?_
  rintro e W3 ⟨rfl, g3⟩
  have R3 : Hid (RSd K N W3 br bl (.ok i) d) := R2.out.grew g3
  have G3 : Hid (Grew w W3) := G2.out.trans g3
  have T3 : Hid (TBlk W3 bt sb tx (aa : Int)) := T2.out.grew g3
  clear g3 R2 G2 E2 T2
  have q2 := block_cell T3.out 2
  go_wp2_with fail
  refine (gFail_d W3 br bl (.ok i) d 1 aa (by decide) R3.out).mono ?_
  rintro e W4 ⟨rfl, hr4, hf4⟩
  have R4 : Hid (RSd K N W4 br bl (.error (1, (K i).at')) d) := by show RSd _ _ _ _ _ _ _; rw [HAA.out]; exact hr4
  have F4 : Hid (Fr (· ≠ br) w W4) := (Fr.grew G3.out).trans hf4
  clear hr4 hf4 R3 G3 T3 q2
  go_wp2_with fail
  go_ret
  exact ⟨F4.out, R4.out, be, rfl, fun x j e => by simp at e⟩
end Go.Proofs.YtjbekejcghjhbaaGreatDoor.Sx
