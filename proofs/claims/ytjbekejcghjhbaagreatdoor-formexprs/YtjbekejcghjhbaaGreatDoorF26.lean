/- The reference: what begins with a word: fixed words. -/
import Derived.Test.YtjbekejcghjhbaaGreatDoorF25
namespace Go.Proofs.YtjbekejcghjhbaaGreatDoor.Sx
open Go.RowKit Go.Sort

/-- what a call ends in that makes more of a fresh node and hands it back -/
def PostX (K : Nat → Tk) (N : Nat) (w : World) (br bl be d : Nat) (r : Except (Nat × Nat) (PX × Nat)) (e : Ending) (w' : World) : Prop :=
  Fr (fun k => k ≠ br ∧ k ≠ be) w w' ∧ RSd K N w' br bl (stX r) d ∧ e = .returned (.pointer (some ⟨be, 0, none⟩)) ∧ ∀ x j, r = .ok (x, j) → TreeT (fun k => k = be ∨ w.heap.size ≤ k) w' x (.pointer (some ⟨be, 0, none⟩))
theorem TreeT.leaf {P : Nat → Prop} {w : World} {be : Nat} {op nm tx : ByteArray} {a k n : Int} {x : PX} (h : XBlk w be op a nm k n tx none 0 0) (hp : P be) (hm : MeansT op.data.toList nm.data.toList k n tx.data.toList [] x) : TreeT P w x (.pointer (some ⟨be, 0, none⟩)) :=
  TreeT.node ⟨be, op, nm, tx, a, k, n, none, 0, 0, [], rfl, hp, h, row_nil _, hm⟩

theorem truth_any (b : Bool) (n : Int) (hn : n = if b then 1 else 0) (w : World) : Calls Tryz.prog 88 #[.bool b] w fun e w' => e = .returned (.agg #[.int .i64 1, .int .i64 n, .string ⟨#[]⟩, .slice none 0 0, .slice none 0 0]) ∧ Grew w w' := by
  subst hn
  cases b with
  | true =>
    go_enter Tryz.func88, Tryz.ntmps88
    go_wp2_with fail
    refine bodyPost_ret (v := .agg #[.int .i64 1, .int .i64 1, .string ⟨#[]⟩, .slice none 0 0, .slice none 0 0]) (by simp [results, Tryz.results88, go_sem]) rfl ?_
    exact ⟨rfl, (Grew.refl w).alloc _⟩
  | false =>
    go_enter Tryz.func88, Tryz.ntmps88
    go_wp2_with fail
    refine bodyPost_ret (v := .agg #[.int .i64 1, .int .i64 0, .string ⟨#[]⟩, .slice none 0 0, .slice none 0 0]) (by simp [results, Tryz.results88, go_sem]) rfl ?_
    exact ⟨rfl, (Grew.refl w).alloc _⟩
theorem RSd.block {K : Nat → Tk} {N br bl i d : Nat} {w : World} (h : RSd K N w br bl (.ok i) d) : w.cell? ⟨br, 1, none⟩ = some (.int .i64 (i : Int)) ∧ w.frozen? ⟨br, 1, none⟩ = false := by
  obtain ⟨dd, ⟨cap, I, bad, hb, hI, hne, hT, hs⟩, -⟩ := h
  obtain rfl : I = i := hs
  exact ⟨block_cell hb 1, frozen_block hb 1⟩
theorem RSd.next {K : Nat → Tk} {N br bl i d : Nat} {w : World} (h : RSd K N w br bl (.ok i) d) (hi : i < N) : RSd K N (w.setCell ⟨br, 1, none⟩ (.int .i64 ((i : Int) + 1))) br bl (.ok (i + 1)) d := by
  obtain ⟨dd, ⟨cap, I, bad, hb, hI, hne, hT, hs⟩, e⟩ := h
  obtain rfl : I = i := hs
  have hF : Fr (· ≠ br) w (w.setCell ⟨br, 1, none⟩ (.int .i64 ((I : Int) + 1))) := (Fr.refl _ w).set (by simp) _
  exact ⟨dd, ⟨cap, I + 1, bad, hb.setI (I + 1), hi, hne, hT.of hF hne, rfl⟩, fun _ => e ⟨I, rfl⟩⟩
def valW (w : World) (b : Nat) (n : Int) : World := ((((w.setCell ⟨b, 3, none⟩ (.int .i64 1)).setCell ⟨b, 4, none⟩ (.int .i64 n)).setCell ⟨b, 5, none⟩ (.string ⟨#[]⟩)).setCell ⟨b, 6, none⟩ (.slice none 0 0)).setCell ⟨b, 7, none⟩ (.slice none 0 0)
theorem XBlk.val {w : World} {b : Nat} {op nm tx : ByteArray} {a k n : Int} {pa : Option Addr} {len cap : Nat} (h : XBlk w b op a nm k n tx pa len cap) (m : Int) : XBlk (valW w b m) b op a nm 1 m ⟨#[]⟩ pa len cap := by
  have := set_block (set_block (set_block (set_block (set_block h 3 (.int .i64 1)) 4 (.int .i64 m)) 5 (.string ⟨#[]⟩)) 6 (.slice none 0 0)) 7 (.slice none 0 0)
  simpa [XBlk, valW] using this
theorem Fr.val {P : Nat → Prop} {a w : World} {b : Nat} (h : Fr P a w) (hp : ¬ P b) (m : Int) : Fr P a (valW w b m) := ((((h.set (p := ⟨b, 3, none⟩) hp _).set (p := ⟨b, 4, none⟩) hp _).set (p := ⟨b, 5, none⟩) hp _).set (p := ⟨b, 6, none⟩) hp _).set (p := ⟨b, 7, none⟩) hp _

set_option maxRecDepth 100000 in
set_option maxHeartbeats 2000000 in
theorem gnamed_nil {K : Nat → Tk} {N br bl : Nat} {self : Nat → Nat → Nat → RX PX} (hK : ∀ i, TkOK (K i)) (hL : Last K N) (hN : N ≤ 1000000) (w : World) (be d m i : Nat) (a0 : Int) (hbe : be ≠ br) (hbl0 : be ≠ bl) (h : RSd K N w br bl (.ok i) d) (he : XBlk w be ⟨#[]⟩ a0 ⟨#[]⟩ 0 0 ⟨#[]⟩ none 0 0)
    (hk : (K i).tx = [110, 105, 108]) (r : Except (Nat × Nat) (PX × Nat)) (hr : wordX K self m d i = some r) :
    Calls Tryz.prog 253 #[.pointer (some ⟨br, 0, none⟩), .pointer (some ⟨be, 0, none⟩)] w (PostX K N w br bl be d r) := by
  have HR : Hid (RSd K N w br bl (.ok i) d) := h
  have HE : Hid (XBlk w be ⟨#[]⟩ a0 ⟨#[]⟩ 0 0 ⟨#[]⟩ none 0 0) := he
  obtain ⟨cap, bad, dd, hb, hI, hne, hbl, t0, t1, t2⟩ := h.open
  obtain ⟨hdr, u0, u1, u2⟩ := RS.cells hb hbl t0 t1 t2
  have c0 := block_cell hb 0
  have c1 := block_cell hb 1
  have k0 := block_cell hdr 0
  have k1 := block_cell hdr 1
  have hbr := block_lt hb
  have hI1 : (i : Int) < ((N + 1 : Nat) : Int) := by omega
  have mo := follows
  have hiN : i < N := hL.lt hI (m := [110, 105, 108]) (by rw [hk]; rfl) (by decide)
  have htk : tokB (K i) = ⟨#[110, 105, 108]⟩ := ByteArray.ext (by have := tok_mark hK (by decide) hk; exact Array.ext' this)
  obtain rfl : .ok (dLeaf [110, 105, 108], i + 1) = r := by
    have : fixed3.contains (K i).tx = true := by rw [hk]; rfl
    unfold wordX at hr
    rw [if_pos this, hk] at hr
    simpa [okX] using hr
  obtain ⟨sb, hsb⟩ : ∃ sb, sortB (K i).cl = sb := ⟨_, rfl⟩
  obtain ⟨aa, haa⟩ : ∃ aa, (K i).at' = aa := ⟨_, rfl⟩
  rw [hsb] at t0 u0
  rw [htk] at t1 u1
  rw [haa] at t2 u2
  have hbew := block_lt he
  clear hb hdr h hK hL hsb htk haa hr hk he
  go_enter Tryz.func253, Tryz.ntmps253
  go_wp2_with fail
  go_big_region_o
  have T1 : Hid (TBlk _ w.heap.size sb ⟨#[110, 105, 108]⟩ (aa : Int)) := TBlk.new w sb ⟨#[110, 105, 108]⟩ (aa : Int)
  have G1 : Hid (Grew w (w.alloc (.cells #[.int .u8 (sb : Int), .string ⟨#[110, 105, 108]⟩, .int .i64 (aa : Int)] 106)).drew) := ((Grew.refl w).alloc _).drew
  clear c0 c1 k0 k1 u0 u1 u2 t0 t1 t2 hI1
  generalize (w.alloc (.cells #[.int .u8 (sb : Int), .string ⟨#[110, 105, 108]⟩, .int .i64 (aa : Int)] 106)).drew = W1 at G1 T1 ⊢
  obtain ⟨bt, hbt⟩ : ∃ bt, w.heap.size = bt := ⟨_, rfl⟩
  rw [hbt] at T1 hbr hbew ⊢
  have htw : bt ≤ w.heap.size := by omega
  clear hbt
  have nbt1 : bt ≠ br := by omega
  have nbt2 : bt ≠ be := by omega
  have R1 : Hid (RSd K N W1 br bl (.ok i) d) := HR.out.grew G1.out
  have E1 : Hid (XBlk W1 be ⟨#[]⟩ a0 ⟨#[]⟩ 0 0 ⟨#[]⟩ none 0 0) := HE.out.of (P := fun _ => True) (Fr.grew G1.out) trivial
  have q1 := block_cell T1.out 1
  obtain ⟨e1, f1⟩ := R1.out.block
  have x0 := block_cell E1.out 0
  have g0 := frozen_block E1.out 0
  go_wp2_with fail
  go_ret
  have hfs : Fr (· ≠ be) (W1.setCell ⟨br, 1, none⟩ (.int .i64 ((i : Int) + 1))) ((W1.setCell ⟨br, 1, none⟩ (.int .i64 ((i : Int) + 1))).setCell ⟨be, 0, none⟩ (.string ⟨#[118, 97, 108, 117, 101]⟩)) := (Fr.refl _ _).set (by simp) _
  have hE : XBlk (W1.setCell ⟨br, 1, none⟩ (.int .i64 ((i : Int) + 1))) be ⟨#[]⟩ a0 ⟨#[]⟩ 0 0 ⟨#[]⟩ none 0 0 := E1.out.of (P := (· ≠ br)) ((Fr.refl _ W1).set (by simp) _) hbe
  exact ⟨((Fr.grew G1.out).set (by simp) _).set (by simp) _, (R1.out.next hiN).fr hfs (Ne.symm hbe) (Ne.symm hbl0), rfl, fun x j e => by simp at e; rw [← e.1]; exact TreeT.leaf (hE.op ⟨#[118, 97, 108, 117, 101]⟩) (.inl rfl) (.inl ⟨rfl, .inl ⟨rfl, rfl⟩⟩)⟩
set_option maxRecDepth 100000 in
set_option maxHeartbeats 2000000 in
theorem gnamed_true {K : Nat → Tk} {N br bl : Nat} {self : Nat → Nat → Nat → RX PX} (hK : ∀ i, TkOK (K i)) (hL : Last K N) (hN : N ≤ 1000000) (w : World) (be d m i : Nat) (a0 : Int) (hbe : be ≠ br) (hbl0 : be ≠ bl) (h : RSd K N w br bl (.ok i) d) (he : XBlk w be ⟨#[]⟩ a0 ⟨#[]⟩ 0 0 ⟨#[]⟩ none 0 0)
    (hk : (K i).tx = [116, 114, 117, 101]) (r : Except (Nat × Nat) (PX × Nat)) (hr : wordX K self m d i = some r) :
    Calls Tryz.prog 253 #[.pointer (some ⟨br, 0, none⟩), .pointer (some ⟨be, 0, none⟩)] w (PostX K N w br bl be d r) := by
  have HR : Hid (RSd K N w br bl (.ok i) d) := h
  have HE : Hid (XBlk w be ⟨#[]⟩ a0 ⟨#[]⟩ 0 0 ⟨#[]⟩ none 0 0) := he
  obtain ⟨cap, bad, dd, hb, hI, hne, hbl, t0, t1, t2⟩ := h.open
  obtain ⟨hdr, u0, u1, u2⟩ := RS.cells hb hbl t0 t1 t2
  have c0 := block_cell hb 0
  have c1 := block_cell hb 1
  have k0 := block_cell hdr 0
  have k1 := block_cell hdr 1
  have hbr := block_lt hb
  have hI1 : (i : Int) < ((N + 1 : Nat) : Int) := by omega
  have mo := follows
  have hiN : i < N := hL.lt hI (m := [116, 114, 117, 101]) (by rw [hk]; rfl) (by decide)
  have htk : tokB (K i) = ⟨#[116, 114, 117, 101]⟩ := ByteArray.ext (by have := tok_mark hK (by decide) hk; exact Array.ext' this)
  obtain rfl : .ok (dLeaf [116, 114, 117, 101], i + 1) = r := by
    have : fixed3.contains (K i).tx = true := by rw [hk]; rfl
    unfold wordX at hr
    rw [if_pos this, hk] at hr
    simpa [okX] using hr
  obtain ⟨sb, hsb⟩ : ∃ sb, sortB (K i).cl = sb := ⟨_, rfl⟩
  obtain ⟨aa, haa⟩ : ∃ aa, (K i).at' = aa := ⟨_, rfl⟩
  rw [hsb] at t0 u0
  rw [htk] at t1 u1
  rw [haa] at t2 u2
  have hbew := block_lt he
  clear hb hdr h hK hL hsb htk haa hr hk he
  go_enter Tryz.func253, Tryz.ntmps253
  go_wp2_with fail
  go_big_region_o
  have T1 : Hid (TBlk _ w.heap.size sb ⟨#[116, 114, 117, 101]⟩ (aa : Int)) := TBlk.new w sb ⟨#[116, 114, 117, 101]⟩ (aa : Int)
  have G1 : Hid (Grew w (w.alloc (.cells #[.int .u8 (sb : Int), .string ⟨#[116, 114, 117, 101]⟩, .int .i64 (aa : Int)] 106)).drew) := ((Grew.refl w).alloc _).drew
  clear c0 c1 k0 k1 u0 u1 u2 t0 t1 t2 hI1
  generalize (w.alloc (.cells #[.int .u8 (sb : Int), .string ⟨#[116, 114, 117, 101]⟩, .int .i64 (aa : Int)] 106)).drew = W1 at G1 T1 ⊢
  obtain ⟨bt, hbt⟩ : ∃ bt, w.heap.size = bt := ⟨_, rfl⟩
  rw [hbt] at T1 hbr hbew ⊢
  have htw : bt ≤ w.heap.size := by omega
  clear hbt
  have nbt1 : bt ≠ br := by omega
  have nbt2 : bt ≠ be := by omega
  have R1 : Hid (RSd K N W1 br bl (.ok i) d) := HR.out.grew G1.out
  have E1 : Hid (XBlk W1 be ⟨#[]⟩ a0 ⟨#[]⟩ 0 0 ⟨#[]⟩ none 0 0) := HE.out.of (P := fun _ => True) (Fr.grew G1.out) trivial
  have q1 := block_cell T1.out 1
  obtain ⟨e1, f1⟩ := R1.out.block
  have x0 := block_cell E1.out 0
  have g0 := frozen_block E1.out 0
  have HT : Hid (∀ W : World, _) := fun W => truth_any true 1 rfl W
  have E2 : Hid (XBlk ((W1.setCell ⟨br, 1, none⟩ (.int .i64 ((i : Int) + 1))).setCell ⟨be, 0, none⟩ (.string ⟨#[118, 97, 108, 117, 101]⟩)) be ⟨#[118, 97, 108, 117, 101]⟩ a0 ⟨#[]⟩ 0 0 ⟨#[]⟩ none 0 0) := (E1.out.of (P := (· ≠ br)) ((Fr.refl _ W1).set (by simp) _) hbe).op _
  have hfs : Fr (· ≠ be) (W1.setCell ⟨br, 1, none⟩ (.int .i64 ((i : Int) + 1))) ((W1.setCell ⟨br, 1, none⟩ (.int .i64 ((i : Int) + 1))).setCell ⟨be, 0, none⟩ (.string ⟨#[118, 97, 108, 117, 101]⟩)) := (Fr.refl _ _).set (by simp) _
  have R2 : Hid (RSd K N _ br bl (.ok (i + 1)) d) := (R1.out.next hiN).fr hfs (Ne.symm hbe) (Ne.symm hbl0)
  have F2 : Hid (Fr (fun k => k ≠ br ∧ k ≠ be) w ((W1.setCell ⟨br, 1, none⟩ (.int .i64 ((i : Int) + 1))).setCell ⟨be, 0, none⟩ (.string ⟨#[118, 97, 108, 117, 101]⟩))) := ((Fr.grew G1.out).set (by simp) _).set (by simp) _
  clear hfs
  go_wp2_with fail
  clear q1 e1 f1 x0 g0 T1 R1 E1 G1
  generalize (W1.setCell ⟨br, 1, none⟩ (.int .i64 ((i : Int) + 1))).setCell ⟨be, 0, none⟩ (.string ⟨#[118, 97, 108, 117, 101]⟩) = W2 at E2 R2 F2 ⊢
  refine (HT.out W2).mono ?_
  rintro e W3 ⟨rfl, g3⟩
  have E3 : Hid (XBlk W3 be ⟨#[118, 97, 108, 117, 101]⟩ a0 ⟨#[]⟩ 0 0 ⟨#[]⟩ none 0 0) := E2.out.of (P := fun _ => True) (Fr.grew g3) trivial
  have R3 : Hid (RSd K N W3 br bl (.ok (i + 1)) d) := R2.out.grew g3
  have F3 : Hid (Fr (fun k => k ≠ br ∧ k ≠ be) w W3) := F2.out.trans (Fr.grew g3)
  clear g3 E2 R2 F2
  have x3 := block_cell E3.out 3
  have x4 := block_cell E3.out 4
  have x5 := block_cell E3.out 5
  have x6 := block_cell E3.out 6
  have x7 := block_cell E3.out 7
  have y3 := frozen_block E3.out 3
  have y4 := frozen_block E3.out 4
  have y5 := frozen_block E3.out 5
  have y6 := frozen_block E3.out 6
  have y7 := frozen_block E3.out 7
  go_wp2_with fail
  go_ret
  have hfv : Fr (· ≠ be) W3 (valW W3 be 1) := (Fr.refl _ W3).val (by simp) 1
  exact ⟨F3.out.val (fun q => q.2 rfl) 1, R3.out.fr hfv (Ne.symm hbe) (Ne.symm hbl0), rfl, fun x j e => by simp at e; rw [← e.1]; exact TreeT.leaf (E3.out.val 1) (.inl rfl) (.inl ⟨rfl, .inr (.inl ⟨rfl, rfl, rfl⟩)⟩)⟩
set_option maxRecDepth 100000 in
set_option maxHeartbeats 2000000 in
theorem gnamed_false {K : Nat → Tk} {N br bl : Nat} {self : Nat → Nat → Nat → RX PX} (hK : ∀ i, TkOK (K i)) (hL : Last K N) (hN : N ≤ 1000000) (w : World) (be d m i : Nat) (a0 : Int) (hbe : be ≠ br) (hbl0 : be ≠ bl) (h : RSd K N w br bl (.ok i) d) (he : XBlk w be ⟨#[]⟩ a0 ⟨#[]⟩ 0 0 ⟨#[]⟩ none 0 0)
    (hk : (K i).tx = [102, 97, 108, 115, 101]) (r : Except (Nat × Nat) (PX × Nat)) (hr : wordX K self m d i = some r) :
    Calls Tryz.prog 253 #[.pointer (some ⟨br, 0, none⟩), .pointer (some ⟨be, 0, none⟩)] w (PostX K N w br bl be d r) := by
  have HR : Hid (RSd K N w br bl (.ok i) d) := h
  have HE : Hid (XBlk w be ⟨#[]⟩ a0 ⟨#[]⟩ 0 0 ⟨#[]⟩ none 0 0) := he
  obtain ⟨cap, bad, dd, hb, hI, hne, hbl, t0, t1, t2⟩ := h.open
  obtain ⟨hdr, u0, u1, u2⟩ := RS.cells hb hbl t0 t1 t2
  have c0 := block_cell hb 0
  have c1 := block_cell hb 1
  have k0 := block_cell hdr 0
  have k1 := block_cell hdr 1
  have hbr := block_lt hb
  have hI1 : (i : Int) < ((N + 1 : Nat) : Int) := by omega
  have mo := follows
  have hiN : i < N := hL.lt hI (m := [102, 97, 108, 115, 101]) (by rw [hk]; rfl) (by decide)
  have htk : tokB (K i) = ⟨#[102, 97, 108, 115, 101]⟩ := ByteArray.ext (by have := tok_mark hK (by decide) hk; exact Array.ext' this)
  obtain rfl : .ok (dLeaf [102, 97, 108, 115, 101], i + 1) = r := by
    have : fixed3.contains (K i).tx = true := by rw [hk]; rfl
    unfold wordX at hr
    rw [if_pos this, hk] at hr
    simpa [okX] using hr
  obtain ⟨sb, hsb⟩ : ∃ sb, sortB (K i).cl = sb := ⟨_, rfl⟩
  obtain ⟨aa, haa⟩ : ∃ aa, (K i).at' = aa := ⟨_, rfl⟩
  rw [hsb] at t0 u0
  rw [htk] at t1 u1
  rw [haa] at t2 u2
  have hbew := block_lt he
  clear hb hdr h hK hL hsb htk haa hr hk he
  go_enter Tryz.func253, Tryz.ntmps253
  go_wp2_with fail
  go_big_region_o
  have T1 : Hid (TBlk _ w.heap.size sb ⟨#[102, 97, 108, 115, 101]⟩ (aa : Int)) := TBlk.new w sb ⟨#[102, 97, 108, 115, 101]⟩ (aa : Int)
  have G1 : Hid (Grew w (w.alloc (.cells #[.int .u8 (sb : Int), .string ⟨#[102, 97, 108, 115, 101]⟩, .int .i64 (aa : Int)] 106)).drew) := ((Grew.refl w).alloc _).drew
  clear c0 c1 k0 k1 u0 u1 u2 t0 t1 t2 hI1
  generalize (w.alloc (.cells #[.int .u8 (sb : Int), .string ⟨#[102, 97, 108, 115, 101]⟩, .int .i64 (aa : Int)] 106)).drew = W1 at G1 T1 ⊢
  obtain ⟨bt, hbt⟩ : ∃ bt, w.heap.size = bt := ⟨_, rfl⟩
  rw [hbt] at T1 hbr hbew ⊢
  have htw : bt ≤ w.heap.size := by omega
  clear hbt
  have nbt1 : bt ≠ br := by omega
  have nbt2 : bt ≠ be := by omega
  have R1 : Hid (RSd K N W1 br bl (.ok i) d) := HR.out.grew G1.out
  have E1 : Hid (XBlk W1 be ⟨#[]⟩ a0 ⟨#[]⟩ 0 0 ⟨#[]⟩ none 0 0) := HE.out.of (P := fun _ => True) (Fr.grew G1.out) trivial
  have q1 := block_cell T1.out 1
  obtain ⟨e1, f1⟩ := R1.out.block
  have x0 := block_cell E1.out 0
  have g0 := frozen_block E1.out 0
  have HT : Hid (∀ W : World, _) := fun W => truth_any false 0 rfl W
  have E2 : Hid (XBlk ((W1.setCell ⟨br, 1, none⟩ (.int .i64 ((i : Int) + 1))).setCell ⟨be, 0, none⟩ (.string ⟨#[118, 97, 108, 117, 101]⟩)) be ⟨#[118, 97, 108, 117, 101]⟩ a0 ⟨#[]⟩ 0 0 ⟨#[]⟩ none 0 0) := (E1.out.of (P := (· ≠ br)) ((Fr.refl _ W1).set (by simp) _) hbe).op _
  have hfs : Fr (· ≠ be) (W1.setCell ⟨br, 1, none⟩ (.int .i64 ((i : Int) + 1))) ((W1.setCell ⟨br, 1, none⟩ (.int .i64 ((i : Int) + 1))).setCell ⟨be, 0, none⟩ (.string ⟨#[118, 97, 108, 117, 101]⟩)) := (Fr.refl _ _).set (by simp) _
  have R2 : Hid (RSd K N _ br bl (.ok (i + 1)) d) := (R1.out.next hiN).fr hfs (Ne.symm hbe) (Ne.symm hbl0)
  have F2 : Hid (Fr (fun k => k ≠ br ∧ k ≠ be) w ((W1.setCell ⟨br, 1, none⟩ (.int .i64 ((i : Int) + 1))).setCell ⟨be, 0, none⟩ (.string ⟨#[118, 97, 108, 117, 101]⟩))) := ((Fr.grew G1.out).set (by simp) _).set (by simp) _
  clear hfs
  go_wp2_with fail
  clear q1 e1 f1 x0 g0 T1 R1 E1 G1
  generalize (W1.setCell ⟨br, 1, none⟩ (.int .i64 ((i : Int) + 1))).setCell ⟨be, 0, none⟩ (.string ⟨#[118, 97, 108, 117, 101]⟩) = W2 at E2 R2 F2 ⊢
  refine (HT.out W2).mono ?_
  rintro e W3 ⟨rfl, g3⟩
  have E3 : Hid (XBlk W3 be ⟨#[118, 97, 108, 117, 101]⟩ a0 ⟨#[]⟩ 0 0 ⟨#[]⟩ none 0 0) := E2.out.of (P := fun _ => True) (Fr.grew g3) trivial
  have R3 : Hid (RSd K N W3 br bl (.ok (i + 1)) d) := R2.out.grew g3
  have F3 : Hid (Fr (fun k => k ≠ br ∧ k ≠ be) w W3) := F2.out.trans (Fr.grew g3)
  clear g3 E2 R2 F2
  have x3 := block_cell E3.out 3
  have x4 := block_cell E3.out 4
  have x5 := block_cell E3.out 5
  have x6 := block_cell E3.out 6
  have x7 := block_cell E3.out 7
  have y3 := frozen_block E3.out 3
  have y4 := frozen_block E3.out 4
  have y5 := frozen_block E3.out 5
  have y6 := frozen_block E3.out 6
  have y7 := frozen_block E3.out 7
  go_wp2_with fail
  go_ret
  have hfv : Fr (· ≠ be) W3 (valW W3 be 0) := (Fr.refl _ W3).val (by simp) 0
  exact ⟨F3.out.val (fun q => q.2 rfl) 0, R3.out.fr hfv (Ne.symm hbe) (Ne.symm hbl0), rfl, fun x j e => by simp at e; rw [← e.1]; exact TreeT.leaf (E3.out.val 0) (.inl rfl) (.inl ⟨rfl, .inr (.inr (.inl ⟨rfl, rfl, rfl⟩))⟩)⟩
end Go.Proofs.YtjbekejcghjhbaaGreatDoor.Sx
