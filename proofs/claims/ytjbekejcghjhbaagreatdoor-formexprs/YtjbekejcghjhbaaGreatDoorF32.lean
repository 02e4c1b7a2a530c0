/- The reference: signs and words ahead of a part that hold most tightly. -/
import Derived.Test.YtjbekejcghjhbaaGreatDoorF31
namespace Go.Proofs.YtjbekejcghjhbaaGreatDoor.Sx
open Go.RowKit Go.Sort

def fourD : List ByteArray := [⟨#[45]⟩, ⟨#[100, 111, 109, 97, 105, 110]⟩, ⟨#[112, 111, 119, 101, 114, 115, 101, 116]⟩, ⟨#[102, 108, 97, 116, 116, 101, 110]⟩]
theorem aheads12_mark {l : List UInt8} (h : l ∈ aheads12) : l ∈ marks ∧ (l == wEnabled || l == wUnchanged) = false ∧ (l == [45]) = false := by
  simp only [aheads12, List.mem_cons, List.not_mem_nil, or_false] at h
  rcases h with rfl | rfl | rfl <;> decide
theorem four_any {K : Nat → Tk} {i : Nat} (h : (K i).tx = wNeg ∨ (K i).tx ∈ aheads12) : (fourD.any fun m => isS K (.ok i) m.data.toList) = true := by
  show (fourD.any fun m => (K i).tx == m.data.toList) = true
  simp only [aheads12, List.mem_cons, List.not_mem_nil, or_false] at h
  rcases h with e | e | e | e <;> rw [e] <;> rfl

set_option maxRecDepth 100000 in
set_option maxHeartbeats 600000 in
theorem gP_neg {K : Nat → Tk} {N br bl : Nat} {self : Nat → Nat → Nat → RX PX} (hS : SelfR K N br bl self) (hK : ∀ i, TkOK (K i)) (hL : Last K N) (hN : N ≤ 1000000) (w : World) (d i : Nat) (hd : d ≤ 24) (h : RSd K N w br bl (.ok i) d)
    (hk : (K i).tx = wNeg) (r : Except (Nat × Nat) (PX × Nat)) (hr : aheadX K self 12 d i = some r) :
    Calls Tryz.prog 58 #[.pointer (some ⟨br, 0, none⟩), .int .i64 12] w (PostT K N w br bl d r) := by
  have HS : Hid (SelfR K N br bl self) := hS
  have HK : Hid (∀ i, TkOK (K i)) := hK
  have HR : Hid (RSd K N w br bl (.ok i) d) := h
  have hiN : i < N := hL.lt h.le (m := (K i).tx) (by simp) (by rw [hk]; decide)
  obtain ⟨r1, h1, hc⟩ := runS_bX noX (in_run (ahead_in (by rw [hk]; rfl) hr))
  have HQ : Hid (stX r = stX r1 ∧ ∀ y j, r = .ok (y, j) → y = dAhead 12 (K i).tx (valX noX r1)) := ok_run hc
  have H1 : Hid (runS (inS K i d) (self 12 (d + 1)) = some r1) := h1
  have HAM : Hid ((fourD.any fun m => isS K (.ok i) m.data.toList) = true) := four_any (.inl hk)
  obtain ⟨cap, bad, dd, hb, hI, hne, hbl, t0, t1, t2⟩ := h.open
  obtain ⟨hdr, u0, u1, u2⟩ := RS.cells hb hbl t0 t1 t2
  have c0 := block_cell hb 0
  have c1 := block_cell hb 1
  have c3 := block_cell hb 3
  have k0 := block_cell hdr 0
  have k1 := block_cell hdr 1
  have hbr := block_lt hb
  have hI1 : (i : Int) < ((N + 1 : Nat) : Int) := by omega
  have mo := follows
  obtain ⟨sb, hsb⟩ : ∃ sb, sortB (K i).cl = sb := ⟨_, rfl⟩
  obtain ⟨tx, htx⟩ : ∃ tx, tokB (K i) = tx := ⟨_, rfl⟩
  obtain ⟨aa, haa⟩ : ∃ aa, (K i).at' = aa := ⟨_, rfl⟩
  have HTX : Hid (tx.data.toList = (K i).tx) := by show _ = _; rw [← htx]; exact tok_mark hK (by rw [hk]; decide) rfl
  have HKK : Hid ((K i).tx = wNeg) := hk
  have n1 : (tx.toList == [45]) = true := by rw [ByteArray.toList_eq, HTX.out, hk]; rfl
  rw [hsb] at t0 u0
  rw [htx] at t1 u1
  rw [haa] at t2 u2
  clear hb hdr h hS hK hL hsb htx haa hr hk h1 hc
  go_enter Tryz.func58, Tryz.ntmps58
  go_wp2_with fail
  go_big_region_o
  have T1 : Hid (TBlk _ w.heap.size sb tx (aa : Int)) := TBlk.new w sb tx (aa : Int)
  have G1 : Hid (Grew w (w.alloc (.cells #[.int .u8 (sb : Int), .string tx, .int .i64 (aa : Int)] 106)).drew) := ((Grew.refl w).alloc _).drew
  clear c0 c1 c3 k0 k1 u0 u1 u2 t0 t1 t2 hI1
  generalize (w.alloc (.cells #[.int .u8 (sb : Int), .string tx, .int .i64 (aa : Int)] 106)).drew = W1 at G1 T1 ⊢
  obtain ⟨bt, hbt⟩ : ∃ bt, w.heap.size = bt := ⟨_, rfl⟩
  rw [hbt] at T1 hbr ⊢
  have htw : bt ≤ w.heap.size := by omega
  clear hbt
  have hbtr : bt ≠ br := by omega
  have R1 : Hid (RSd K N W1 br bl (.ok i) d) := HR.out.grew G1.out
  go_wp2_with fail
  refine (among_d HK.out W1 br bl (.ok i) d _ fourD 4 true rfl (by decide) rfl (by decide) HAM.out R1.out).mono ?_
  rintro e W2 ⟨rfl, g2⟩
  have R2 : Hid (RSd K N W2 br bl (.ok i) d) := R1.out.grew g2
  have G2 : Hid (Grew w W2) := G1.out.trans g2
  have T2 : Hid (TBlk W2 bt sb tx (aa : Int)) := T1.out.grew g2
  clear g2 R1 G1 T1
  have q1 := block_cell T2.out 1
  go_wp2_with fail
  clear q1
  refine (gin_d hN W2 br bl i d hd hiN R2.out).mono ?_
  rintro e W3 ⟨rfl, hr3, hf3⟩
  have R3 : Hid (RSd K N W3 br bl (inS K i d) (d + 1)) := hr3
  have F3 : Hid (Fr (· ≠ br) w W3) := (Fr.grew G2.out).trans hf3
  have T3 : Hid (TBlk W3 bt sb tx (aa : Int)) := T2.out.fr hf3 hbtr
  clear hr3 hf3 R2 G2 T2
  go_wp2_with fail
  refine (HS.out W3 12 (d + 1) (inS K i d) r1 (by omega) (in_ok hd) R3.out H1.out).mono ?_
  rintro e W4 ⟨hf4, hr4, b4, rfl, ht4⟩
  have R4 : Hid (RSd K N W4 br bl (stX r1) (d + 1)) := hr4
  have F4 : Hid (Fr (· ≠ br) w W4) := F3.out.trans hf4
  have T4 : Hid (TBlk W4 bt sb tx (aa : Int)) := T3.out.fr hf4 hbtr
  have hz3 := F3.out.size
  have hb3 : br < W3.heap.size := by omega
  have P4 : Hid (∀ x j, r1 = .ok (x, j) → TreeT (fun k => W3.heap.size ≤ k) W4 x (.pointer (some ⟨b4, 0, none⟩))) := ht4
  clear hf4 hr4 ht4 R3 F3 T3
  go_wp2_with fail
  refine (gout_d W4 br bl _ d hd R4.out).mono ?_
  rintro e W5 ⟨rfl, hr5, hf5⟩
  have R5 : Hid (RSd K N W5 br bl (stX r1) d) := hr5
  have F5 : Hid (Fr (· ≠ br) w W5) := F4.out.trans hf5
  have T5 : Hid (TBlk W5 bt sb tx (aa : Int)) := T4.out.fr hf5 hbtr
  have P5 : Hid (∀ x j, r1 = .ok (x, j) → TreeT (fun k => w.heap.size ≤ k) W5 x (.pointer (some ⟨b4, 0, none⟩))) := fun x j e => (P4.out x j e).fr (hf5.mono fun k q => by omega) fun _ _ q => by omega
  have hz5 := F5.out.size
  clear hr5 hf5 R4 F4 T4 P4
  have q2 := block_cell T5.out 2
  have hbt5 := block_lt T5.out
  go_wp2_with fail
  go_ret
  have hG : Grew W5 ((W5.alloc (.cells #[.pointer (some ⟨b4, 0, none⟩)] 57)).alloc (.cells #[.string ⟨#[110, 101, 103]⟩, .int .i64 (aa : Int), .string ⟨#[]⟩, .int .i64 0, .int .i64 0, .string ⟨#[]⟩, .slice none 0 0, .slice none 0 0, .slice (some ⟨W5.heap.size, 0, none⟩) 1 1, .int .i64 0, .int .i64 0] 165)) := ((Grew.refl _).alloc _).alloc _
  refine ⟨F5.out.trans (Fr.grew hG), by rw [HQ.out.1]; exact R5.out.grew hG, W5.heap.size + 1, rfl, fun x j e => ?_⟩
  have o : OkS (stX r1) := by rw [← HQ.out.1]; exact ok_of e
  obtain ⟨j1, e1⟩ := ok_val noX o
  rw [HQ.out.2 x j e]
  refine newT (kids := [valX noX r1]) rfl (by decide) (fun k y q => ?_) hz5 (.inr (.inr (.inr (.inr (.inr (.inr (.inr (.inr (.inr (.inr (.inr (.inr (.inr (.inr (.inl ⟨rfl, _, rfl, by rw [HKK.out]⟩)))))))))))))))
  match k, q with
  | 0, q => simp at q; subst q; exact ⟨_, rfl, P5.out _ _ e1⟩
  | k + 1, q => simp at q
set_option maxRecDepth 100000 in
set_option maxHeartbeats 600000 in
theorem gP_ahead12 {K : Nat → Tk} {N br bl : Nat} {self : Nat → Nat → Nat → RX PX} (hS : SelfR K N br bl self) (hK : ∀ i, TkOK (K i)) (hL : Last K N) (hN : N ≤ 1000000) (w : World) (d i : Nat) (hd : d ≤ 24) (h : RSd K N w br bl (.ok i) d)
    (hk : (K i).tx ∈ aheads12) (r : Except (Nat × Nat) (PX × Nat)) (hr : aheadX K self 12 d i = some r) :
    Calls Tryz.prog 58 #[.pointer (some ⟨br, 0, none⟩), .int .i64 12] w (PostT K N w br bl d r) := by
  have HS : Hid (SelfR K N br bl self) := hS
  have HK : Hid (∀ i, TkOK (K i)) := hK
  have HR : Hid (RSd K N w br bl (.ok i) d) := h
  have hiN : i < N := hL.lt h.le (m := (K i).tx) (by simp) (aheads12_mark hk).1
  obtain ⟨r1, h1, hc⟩ := runS_bX noX (in_run (ahead_in (aheads12_mark hk).2.1 hr))
  have HQ : Hid (stX r = stX r1 ∧ ∀ y j, r = .ok (y, j) → y = dAhead 12 (K i).tx (valX noX r1)) := ok_run hc
  have H1 : Hid (runS (inS K i d) (self 12 (d + 1)) = some r1) := h1
  have HAM : Hid ((fourD.any fun m => isS K (.ok i) m.data.toList) = true) := four_any (.inr hk)
  obtain ⟨cap, bad, dd, hb, hI, hne, hbl, t0, t1, t2⟩ := h.open
  obtain ⟨hdr, u0, u1, u2⟩ := RS.cells hb hbl t0 t1 t2
  have c0 := block_cell hb 0
  have c1 := block_cell hb 1
  have c3 := block_cell hb 3
  have k0 := block_cell hdr 0
  have k1 := block_cell hdr 1
  have hbr := block_lt hb
  have hI1 : (i : Int) < ((N + 1 : Nat) : Int) := by omega
  have mo := follows
  obtain ⟨sb, hsb⟩ : ∃ sb, sortB (K i).cl = sb := ⟨_, rfl⟩
  obtain ⟨tx, htx⟩ : ∃ tx, tokB (K i) = tx := ⟨_, rfl⟩
  obtain ⟨aa, haa⟩ : ∃ aa, (K i).at' = aa := ⟨_, rfl⟩
  have HTX : Hid (tx.data.toList = (K i).tx) := by show _ = _; rw [← htx]; exact tok_mark hK (aheads12_mark hk).1 rfl
  have HKK : Hid ((K i).tx ∈ aheads12) := hk
  have n1 : (tx.toList == [45]) = false := by rw [ByteArray.toList_eq, HTX.out]; exact (aheads12_mark hk).2.2
  rw [hsb] at t0 u0
  rw [htx] at t1 u1
  rw [haa] at t2 u2
  clear hb hdr h hS hK hL hsb htx haa hr hk h1 hc
  go_enter Tryz.func58, Tryz.ntmps58
  go_wp2_with fail
  go_big_region_o
  have T1 : Hid (TBlk _ w.heap.size sb tx (aa : Int)) := TBlk.new w sb tx (aa : Int)
  have G1 : Hid (Grew w (w.alloc (.cells #[.int .u8 (sb : Int), .string tx, .int .i64 (aa : Int)] 106)).drew) := ((Grew.refl w).alloc _).drew
  clear c0 c1 c3 k0 k1 u0 u1 u2 t0 t1 t2 hI1
  generalize (w.alloc (.cells #[.int .u8 (sb : Int), .string tx, .int .i64 (aa : Int)] 106)).drew = W1 at G1 T1 ⊢
  obtain ⟨bt, hbt⟩ : ∃ bt, w.heap.size = bt := ⟨_, rfl⟩
  rw [hbt] at T1 hbr ⊢
  have htw : bt ≤ w.heap.size := by omega
  clear hbt
  have hbtr : bt ≠ br := by omega
  have R1 : Hid (RSd K N W1 br bl (.ok i) d) := HR.out.grew G1.out
  go_wp2_with fail
  refine (among_d HK.out W1 br bl (.ok i) d _ fourD 4 true rfl (by decide) rfl (by decide) HAM.out R1.out).mono ?_
  rintro e W2 ⟨rfl, g2⟩
  have R2 : Hid (RSd K N W2 br bl (.ok i) d) := R1.out.grew g2
  have G2 : Hid (Grew w W2) := G1.out.trans g2
  have T2 : Hid (TBlk W2 bt sb tx (aa : Int)) := T1.out.grew g2
  clear g2 R1 G1 T1
  have q1 := block_cell T2.out 1
  go_wp2_with fail
  clear q1
  refine (gin_d hN W2 br bl i d hd hiN R2.out).mono ?_
  rintro e W3 ⟨rfl, hr3, hf3⟩
  have R3 : Hid (RSd K N W3 br bl (inS K i d) (d + 1)) := hr3
  have F3 : Hid (Fr (· ≠ br) w W3) := (Fr.grew G2.out).trans hf3
  have T3 : Hid (TBlk W3 bt sb tx (aa : Int)) := T2.out.fr hf3 hbtr
  clear hr3 hf3 R2 G2 T2
  go_wp2_with fail
  refine (HS.out W3 12 (d + 1) (inS K i d) r1 (by omega) (in_ok hd) R3.out H1.out).mono ?_
  rintro e W4 ⟨hf4, hr4, b4, rfl, ht4⟩
  have R4 : Hid (RSd K N W4 br bl (stX r1) (d + 1)) := hr4
  have F4 : Hid (Fr (· ≠ br) w W4) := F3.out.trans hf4
  have T4 : Hid (TBlk W4 bt sb tx (aa : Int)) := T3.out.fr hf4 hbtr
  have hz3 := F3.out.size
  have hb3 : br < W3.heap.size := by omega
  have P4 : Hid (∀ x j, r1 = .ok (x, j) → TreeT (fun k => W3.heap.size ≤ k) W4 x (.pointer (some ⟨b4, 0, none⟩))) := ht4
  clear hf4 hr4 ht4 R3 F3 T3
  go_wp2_with fail
  refine (gout_d W4 br bl _ d hd R4.out).mono ?_
  rintro e W5 ⟨rfl, hr5, hf5⟩
  have R5 : Hid (RSd K N W5 br bl (stX r1) d) := hr5
  have F5 : Hid (Fr (· ≠ br) w W5) := F4.out.trans hf5
  have T5 : Hid (TBlk W5 bt sb tx (aa : Int)) := T4.out.fr hf5 hbtr
  have P5 : Hid (∀ x j, r1 = .ok (x, j) → TreeT (fun k => w.heap.size ≤ k) W5 x (.pointer (some ⟨b4, 0, none⟩))) := fun x j e => (P4.out x j e).fr (hf5.mono fun k q => by omega) fun _ _ q => by omega
  have hz5 := F5.out.size
  clear hr5 hf5 R4 F4 T4 P4
  have q2 := block_cell T5.out 2
  have hbt5 := block_lt T5.out
  go_wp2_with fail
  go_ret
  have hG : Grew W5 ((W5.alloc (.cells #[.pointer (some ⟨b4, 0, none⟩)] 57)).alloc (.cells #[.string tx, .int .i64 (aa : Int), .string ⟨#[]⟩, .int .i64 0, .int .i64 0, .string ⟨#[]⟩, .slice none 0 0, .slice none 0 0, .slice (some ⟨W5.heap.size, 0, none⟩) 1 1, .int .i64 0, .int .i64 0] 165)) := ((Grew.refl _).alloc _).alloc _
  refine ⟨F5.out.trans (Fr.grew hG), by rw [HQ.out.1]; exact R5.out.grew hG, W5.heap.size + 1, rfl, fun x j e => ?_⟩
  have o : OkS (stX r1) := by rw [← HQ.out.1]; exact ok_of e
  obtain ⟨j1, e1⟩ := ok_val noX o
  rw [HQ.out.2 x j e]
  refine newT (kids := [valX noX r1]) rfl (by decide) (fun k y q => ?_) hz5 (.inr (.inr (.inr (.inr (.inr (.inr (.inr (.inr (.inr (.inr (.inr (.inr (.inr (.inr (.inr (.inr (.inl ⟨by rw [HTX.out]; exact HKK.out, _, rfl, by rw [HTX.out]⟩)))))))))))))))))
  match k, q with
  | 0, q => simp at q; subst q; exact ⟨_, rfl, P5.out _ _ e1⟩
  | k + 1, q => simp at q
end Go.Proofs.YtjbekejcghjhbaaGreatDoor.Sx

namespace Go.Proofs.YtjbekejcghjhbaaGreatDoor.Sx
open Go.RowKit Go.Sort

set_option maxRecDepth 100000 in
set_option maxHeartbeats 600000 in
theorem gP_enabled {K : Nat → Tk} {N br bl : Nat} {self : Nat → Nat → Nat → RX PX} (hK : ∀ i, TkOK (K i)) (hL : Last K N) (hN : N ≤ 1000000) (w : World) (d i : Nat) (h : RSd K N w br bl (.ok i) d)
    (hk : (K i).tx = wEnabled) (r : Except (Nat × Nat) (PX × Nat)) (hr : aheadX K self 6 d i = some r) :
    Calls Tryz.prog 58 #[.pointer (some ⟨br, 0, none⟩), .int .i64 6] w (PostT K N w br bl d r) := by
  have HK : Hid (∀ i, TkOK (K i)) := hK
  have HR : Hid (RSd K N w br bl (.ok i) d) := h
  have HL : Hid (Last K N) := hL
  have hr2 : bX (nameX K (i + 1)) (fun n j => okX (dOfName 6 (K i).tx n) j) = some r := by
    have := hr
    unfold aheadX at this
    rw [if_pos (by rw [hk]; rfl)] at this
    exact this
  rw [hk] at hr2
  obtain ⟨rn, h1, hc⟩ := runS_bX [] (s := .ok (i + 1)) (f := nameX K) hr2
  have HQ : Hid (stX r = stX rn ∧ ∀ y j, r = .ok (y, j) → y = dOfName 6 wEnabled (valX [] rn)) := ok_run hc
  have H1 : Hid (runS (.ok (i + 1)) (nameX K) = some rn) := h1
  have HAM : Hid ((threeB.any fun m => isS K (.ok i) m.data.toList) = false) := by show (threeB.any fun m => (K i).tx == m.data.toList) = false; rw [hk]; rfl
  have HTK : Hid (isS K (.ok i) wEnabled = true ∧ takeS K (.ok i) wEnabled = .ok (i + 1)) := ⟨by show ((K i).tx == wEnabled) = true; rw [hk]; rfl, by show (if (K i).tx == wEnabled then _ else _) = _; rw [hk]; rfl⟩
  obtain ⟨cap, bad, dd, hb, hI, hne, hbl, t0, t1, t2⟩ := h.open
  obtain ⟨hdr, u0, u1, u2⟩ := RS.cells hb hbl t0 t1 t2
  have c0 := block_cell hb 0
  have c1 := block_cell hb 1
  have c3 := block_cell hb 3
  have k0 := block_cell hdr 0
  have k1 := block_cell hdr 1
  have hbr := block_lt hb
  have hI1 : (i : Int) < ((N + 1 : Nat) : Int) := by omega
  have mo := follows
  obtain ⟨sb, hsb⟩ : ∃ sb, sortB (K i).cl = sb := ⟨_, rfl⟩
  obtain ⟨tx, htx⟩ : ∃ tx, tokB (K i) = tx := ⟨_, rfl⟩
  obtain ⟨aa, haa⟩ : ∃ aa, (K i).at' = aa := ⟨_, rfl⟩
  rw [hsb] at t0 u0
  rw [htx] at t1 u1
  rw [haa] at t2 u2
  clear hb hdr h hK hL hsb htx haa hr hr2 hk h1 hc
  go_enter Tryz.func58, Tryz.ntmps58
  go_wp2_with fail
  go_big_region_o
  have T1 : Hid (TBlk _ w.heap.size sb tx (aa : Int)) := TBlk.new w sb tx (aa : Int)
  have G1 : Hid (Grew w (w.alloc (.cells #[.int .u8 (sb : Int), .string tx, .int .i64 (aa : Int)] 106)).drew) := ((Grew.refl w).alloc _).drew
  clear c0 c1 c3 k0 k1 u0 u1 u2 t0 t1 t2 hI1
  generalize (w.alloc (.cells #[.int .u8 (sb : Int), .string tx, .int .i64 (aa : Int)] 106)).drew = W1 at G1 T1 ⊢
  obtain ⟨bt, hbt⟩ : ∃ bt, w.heap.size = bt := ⟨_, rfl⟩
  rw [hbt] at T1 hbr ⊢
  have htw : bt ≤ w.heap.size := by omega
  clear hbt
  have hbtr : bt ≠ br := by omega
  have R1 : Hid (RSd K N W1 br bl (.ok i) d) := HR.out.grew G1.out
  go_wp2_with fail
  refine (among_d HK.out W1 br bl (.ok i) d _ threeB 3 false rfl (by decide) rfl (by decide) HAM.out R1.out).mono ?_
  rintro e W2 ⟨rfl, g2⟩
  have R2 : Hid (RSd K N W2 br bl (.ok i) d) := R1.out.grew g2
  have G2 : Hid (Grew w W2) := G1.out.trans g2
  have T2 : Hid (TBlk W2 bt sb tx (aa : Int)) := T1.out.grew g2
  clear g2 R1 G1 T1
  go_wp2_with fail
  refine (gTake_d HK.out HL.out W2 br bl (.ok i) d ⟨#[101, 110, 97, 98, 108, 101, 100]⟩ (by decide) hN R2.out).mono ?_
  rintro e W3 ⟨rfl, hr3, hf3⟩
  have R3 : Hid (RSd K N W3 br bl (.ok (i + 1)) d) := by show RSd _ _ _ _ _ _ _; rw [← HTK.out.2]; exact hr3
  have F3 : Hid (Fr (· ≠ br) w W3) := (Fr.grew G2.out).trans hf3
  have T3 : Hid (TBlk W3 bt sb tx (aa : Int)) := T2.out.fr hf3 hbtr
  clear hr3 hf3 R2 G2 T2
  have hq : isS K (.ok i) (ByteArray.mk #[101, 110, 97, 98, 108, 101, 100]).data.toList = true := HTK.out.1
  rw [hq]
  clear hq
  go_wp2_with fail
  refine (gName_d HL.out W3 br bl (.ok (i + 1)) d hN R3.out rn H1.out).mono ?_
  rintro e W4 ⟨rfl, hr4, hf4⟩
  have R4 : Hid (RSd K N W4 br bl (stX rn) d) := hr4
  have F4 : Hid (Fr (· ≠ br) w W4) := F3.out.trans hf4
  have T4 : Hid (TBlk W4 bt sb tx (aa : Int)) := T3.out.fr hf4 hbtr
  have HNV : Hid (OkS (stX rn) → (nameV rn).data.toList = valX [] rn) := name_val
  obtain ⟨nm, hnm⟩ : ∃ nm, nameV rn = nm := ⟨_, rfl⟩
  rw [hnm] at HNV ⊢
  clear hr4 hf4 R3 F3 T3 hnm
  have hz4 := F4.out.size
  have q2 := block_cell T4.out 2
  go_wp2_with fail
  go_ret
  have hG : Grew W4 (W4.alloc (.cells #[.string ⟨#[101, 110, 97, 98, 108, 101, 100]⟩, .int .i64 (aa : Int), .string nm, .int .i64 0, .int .i64 0, .string ⟨#[]⟩, .slice none 0 0, .slice none 0 0, .slice none 0 0, .int .i64 0, .int .i64 0] 165)) := (Grew.refl _).alloc _
  refine ⟨F4.out.trans (Fr.grew hG), by rw [HQ.out.1]; exact R4.out.grew hG, W4.heap.size, rfl, fun x j e => ?_⟩
  rw [HQ.out.2 x j e]
  exact TreeT.leaf (XBlk.new W4 ⟨#[101, 110, 97, 98, 108, 101, 100]⟩ ⟨#[]⟩ nm (aa : Int) 0 0) hz4 (.inr (.inr (.inr (.inr (.inr (.inr (.inr (.inr (.inr (.inl ⟨rfl, by rw [HNV.out (by rw [← HQ.out.1]; exact ok_of e)]; rfl⟩))))))))))
set_option maxRecDepth 100000 in
set_option maxHeartbeats 600000 in
theorem gP_unchanged {K : Nat → Tk} {N br bl : Nat} {self : Nat → Nat → Nat → RX PX} (hK : ∀ i, TkOK (K i)) (hL : Last K N) (hN : N ≤ 1000000) (w : World) (d i : Nat) (h : RSd K N w br bl (.ok i) d)
    (hk : (K i).tx = wUnchanged) (r : Except (Nat × Nat) (PX × Nat)) (hr : aheadX K self 12 d i = some r) :
    Calls Tryz.prog 58 #[.pointer (some ⟨br, 0, none⟩), .int .i64 12] w (PostT K N w br bl d r) := by
  have HK : Hid (∀ i, TkOK (K i)) := hK
  have HR : Hid (RSd K N w br bl (.ok i) d) := h
  have HL : Hid (Last K N) := hL
  have hr2 : bX (nameX K (i + 1)) (fun n j => okX (dOfName 12 (K i).tx n) j) = some r := by
    have := hr
    unfold aheadX at this
    rw [if_pos (by rw [hk]; rfl)] at this
    exact this
  rw [hk] at hr2
  obtain ⟨rn, h1, hc⟩ := runS_bX [] (s := .ok (i + 1)) (f := nameX K) hr2
  have HQ : Hid (stX r = stX rn ∧ ∀ y j, r = .ok (y, j) → y = dOfName 12 wUnchanged (valX [] rn)) := ok_run hc
  have H1 : Hid (runS (.ok (i + 1)) (nameX K) = some rn) := h1
  have HAM : Hid ((fourD.any fun m => isS K (.ok i) m.data.toList) = false) := by show (fourD.any fun m => (K i).tx == m.data.toList) = false; rw [hk]; rfl
  have HTK : Hid (isS K (.ok i) wUnchanged = true ∧ takeS K (.ok i) wUnchanged = .ok (i + 1)) := ⟨by show ((K i).tx == wUnchanged) = true; rw [hk]; rfl, by show (if (K i).tx == wUnchanged then _ else _) = _; rw [hk]; rfl⟩
  obtain ⟨cap, bad, dd, hb, hI, hne, hbl, t0, t1, t2⟩ := h.open
  obtain ⟨hdr, u0, u1, u2⟩ := RS.cells hb hbl t0 t1 t2
  have c0 := block_cell hb 0
  have c1 := block_cell hb 1
  have c3 := block_cell hb 3
  have k0 := block_cell hdr 0
  have k1 := block_cell hdr 1
  have hbr := block_lt hb
  have hI1 : (i : Int) < ((N + 1 : Nat) : Int) := by omega
  have mo := follows
  obtain ⟨sb, hsb⟩ : ∃ sb, sortB (K i).cl = sb := ⟨_, rfl⟩
  obtain ⟨tx, htx⟩ : ∃ tx, tokB (K i) = tx := ⟨_, rfl⟩
  obtain ⟨aa, haa⟩ : ∃ aa, (K i).at' = aa := ⟨_, rfl⟩
  rw [hsb] at t0 u0
  rw [htx] at t1 u1
  rw [haa] at t2 u2
  clear hb hdr h hK hL hsb htx haa hr hr2 hk h1 hc
  go_enter Tryz.func58, Tryz.ntmps58
  go_wp2_with fail
  go_big_region_o
  have T1 : Hid (TBlk _ w.heap.size sb tx (aa : Int)) := TBlk.new w sb tx (aa : Int)
  have G1 : Hid (Grew w (w.alloc (.cells #[.int .u8 (sb : Int), .string tx, .int .i64 (aa : Int)] 106)).drew) := ((Grew.refl w).alloc _).drew
  clear c0 c1 c3 k0 k1 u0 u1 u2 t0 t1 t2 hI1
  generalize (w.alloc (.cells #[.int .u8 (sb : Int), .string tx, .int .i64 (aa : Int)] 106)).drew = W1 at G1 T1 ⊢
  obtain ⟨bt, hbt⟩ : ∃ bt, w.heap.size = bt := ⟨_, rfl⟩
  rw [hbt] at T1 hbr ⊢
  have htw : bt ≤ w.heap.size := by omega
  clear hbt
  have hbtr : bt ≠ br := by omega
  have R1 : Hid (RSd K N W1 br bl (.ok i) d) := HR.out.grew G1.out
  go_wp2_with fail
  refine (among_d HK.out W1 br bl (.ok i) d _ fourD 4 false rfl (by decide) rfl (by decide) HAM.out R1.out).mono ?_
  rintro e W2 ⟨rfl, g2⟩
  have R2 : Hid (RSd K N W2 br bl (.ok i) d) := R1.out.grew g2
  have G2 : Hid (Grew w W2) := G1.out.trans g2
  have T2 : Hid (TBlk W2 bt sb tx (aa : Int)) := T1.out.grew g2
  clear g2 R1 G1 T1
  go_wp2_with fail
  refine (gTake_d HK.out HL.out W2 br bl (.ok i) d ⟨#[117, 110, 99, 104, 97, 110, 103, 101, 100]⟩ (by decide) hN R2.out).mono ?_
  rintro e W3 ⟨rfl, hr3, hf3⟩
  have R3 : Hid (RSd K N W3 br bl (.ok (i + 1)) d) := by show RSd _ _ _ _ _ _ _; rw [← HTK.out.2]; exact hr3
  have F3 : Hid (Fr (· ≠ br) w W3) := (Fr.grew G2.out).trans hf3
  have T3 : Hid (TBlk W3 bt sb tx (aa : Int)) := T2.out.fr hf3 hbtr
  clear hr3 hf3 R2 G2 T2
  have hq : isS K (.ok i) (ByteArray.mk #[117, 110, 99, 104, 97, 110, 103, 101, 100]).data.toList = true := HTK.out.1
  rw [hq]
  clear hq
  go_wp2_with fail
  refine (gName_d HL.out W3 br bl (.ok (i + 1)) d hN R3.out rn H1.out).mono ?_
  rintro e W4 ⟨rfl, hr4, hf4⟩
  have R4 : Hid (RSd K N W4 br bl (stX rn) d) := hr4
  have F4 : Hid (Fr (· ≠ br) w W4) := F3.out.trans hf4
  have T4 : Hid (TBlk W4 bt sb tx (aa : Int)) := T3.out.fr hf4 hbtr
  have HNV : Hid (OkS (stX rn) → (nameV rn).data.toList = valX [] rn) := name_val
  obtain ⟨nm, hnm⟩ : ∃ nm, nameV rn = nm := ⟨_, rfl⟩
  rw [hnm] at HNV ⊢
  clear hr4 hf4 R3 F3 T3 hnm
  have hz4 := F4.out.size
  have q2 := block_cell T4.out 2
  go_wp2_with fail
  go_ret
  have hG : Grew W4 (W4.alloc (.cells #[.string ⟨#[117, 110, 99, 104, 97, 110, 103, 101, 100]⟩, .int .i64 (aa : Int), .string nm, .int .i64 0, .int .i64 0, .string ⟨#[]⟩, .slice none 0 0, .slice none 0 0, .slice none 0 0, .int .i64 0, .int .i64 0] 165)) := (Grew.refl _).alloc _
  refine ⟨F4.out.trans (Fr.grew hG), by rw [HQ.out.1]; exact R4.out.grew hG, W4.heap.size, rfl, fun x j e => ?_⟩
  rw [HQ.out.2 x j e]
  exact TreeT.leaf (XBlk.new W4 ⟨#[117, 110, 99, 104, 97, 110, 103, 101, 100]⟩ ⟨#[]⟩ nm (aa : Int) 0 0) hz4 (.inr (.inr (.inr (.inr (.inr (.inr (.inr (.inr (.inl ⟨rfl, by rw [HNV.out (by rw [← HQ.out.1]; exact ok_of e)]; rfl⟩)))))))))
end Go.Proofs.YtjbekejcghjhbaaGreatDoor.Sx

namespace Go.Proofs.YtjbekejcghjhbaaGreatDoor.Sx
open Go.RowKit Go.Sort

theorem opens6_none {K : Nat → Tk} {i : Nat} (h : opens6.contains (K i).tx = false) : (threeB.any fun m => isS K (.ok i) m.data.toList) = false ∧ ((K i).tx == wEnabled) = false := by
  simp only [opens6, List.contains_cons, List.contains_nil, Bool.or_eq_false_iff, Bool.or_false] at h
  refine ⟨?_, h.2.2.2⟩
  show (((K i).tx == [110, 111, 116]) || (((K i).tx == [97, 108, 119, 97, 121, 115]) || (((K i).tx == [101, 118, 101, 110, 116, 117, 97, 108, 108, 121]) || false))) = false
  rw [h.1, h.2.1, h.2.2.1]; rfl
theorem opens12_none {K : Nat → Tk} {i : Nat} (h : opens12.contains (K i).tx = false) : (fourD.any fun m => isS K (.ok i) m.data.toList) = false ∧ ((K i).tx == wUnchanged) = false := by
  simp only [opens12, List.contains_cons, List.contains_nil, Bool.or_eq_false_iff, Bool.or_false] at h
  refine ⟨?_, h.2.2.2.2⟩
  show (((K i).tx == [45]) || (((K i).tx == [100, 111, 109, 97, 105, 110]) || (((K i).tx == [112, 111, 119, 101, 114, 115, 101, 116]) || (((K i).tx == [102, 108, 97, 116, 116, 101, 110]) || false)))) = false
  rw [h.1, h.2.1, h.2.2.1, h.2.2.2.1]; rfl

set_option maxRecDepth 100000 in
set_option maxHeartbeats 600000 in
theorem gP_down6 {K : Nat → Tk} {N br bl : Nat} (hK : ∀ i, TkOK (K i)) (hL : Last K N) (hN : N ≤ 1000000) (w : World) (d i : Nat) (h : RSd K N w br bl (.ok i) d)
    (hk : opens6.contains (K i).tx = false) (r : Except (Nat × Nat) (PX × Nat)) (hP : ∀ W, RSd K N W br bl (.ok i) d → Calls Tryz.prog 58 #[.pointer (some ⟨br, 0, none⟩), .int .i64 7] W (PostT K N W br bl d r)) :
    Calls Tryz.prog 58 #[.pointer (some ⟨br, 0, none⟩), .int .i64 6] w (PostT K N w br bl d r) := by
  have HK : Hid (∀ i, TkOK (K i)) := hK
  have HR : Hid (RSd K N w br bl (.ok i) d) := h
  have HL : Hid (Last K N) := hL
  have HP : Hid (∀ W, RSd K N W br bl (.ok i) d → Calls Tryz.prog 58 #[.pointer (some ⟨br, 0, none⟩), .int .i64 7] W (PostT K N W br bl d r)) := hP
  have hall := opens6_none hk
  have HAM : Hid ((threeB.any fun m => isS K (.ok i) m.data.toList) = false) := hall.1
  have HTK : Hid (isS K (.ok i) wEnabled = false ∧ takeS K (.ok i) wEnabled = .ok i) := ⟨hall.2, by show (if (K i).tx == wEnabled then _ else _) = _; rw [hall.2, if_neg (by simp)]⟩
  obtain ⟨cap, bad, dd, hb, hI, hne, hbl, t0, t1, t2⟩ := h.open
  obtain ⟨hdr, u0, u1, u2⟩ := RS.cells hb hbl t0 t1 t2
  have c0 := block_cell hb 0
  have c1 := block_cell hb 1
  have c3 := block_cell hb 3
  have k0 := block_cell hdr 0
  have k1 := block_cell hdr 1
  have hbr := block_lt hb
  have hI1 : (i : Int) < ((N + 1 : Nat) : Int) := by omega
  have mo := follows
  obtain ⟨sb, hsb⟩ : ∃ sb, sortB (K i).cl = sb := ⟨_, rfl⟩
  obtain ⟨tx, htx⟩ : ∃ tx, tokB (K i) = tx := ⟨_, rfl⟩
  obtain ⟨aa, haa⟩ : ∃ aa, (K i).at' = aa := ⟨_, rfl⟩
  rw [hsb] at t0 u0
  rw [htx] at t1 u1
  rw [haa] at t2 u2
  clear hb hdr h hK hL hsb htx haa hk hall hP
  go_enter Tryz.func58, Tryz.ntmps58
  go_wp2_with fail
  go_big_region_o
  have T1 : Hid (TBlk _ w.heap.size sb tx (aa : Int)) := TBlk.new w sb tx (aa : Int)
  have G1 : Hid (Grew w (w.alloc (.cells #[.int .u8 (sb : Int), .string tx, .int .i64 (aa : Int)] 106)).drew) := ((Grew.refl w).alloc _).drew
  clear c0 c1 c3 k0 k1 u0 u1 u2 t0 t1 t2 hI1
  generalize (w.alloc (.cells #[.int .u8 (sb : Int), .string tx, .int .i64 (aa : Int)] 106)).drew = W1 at G1 T1 ⊢
  obtain ⟨bt, hbt⟩ : ∃ bt, w.heap.size = bt := ⟨_, rfl⟩
  rw [hbt] at T1 hbr ⊢
  have htw : bt ≤ w.heap.size := by omega
  clear hbt
  have hbtr : bt ≠ br := by omega
  have R1 : Hid (RSd K N W1 br bl (.ok i) d) := HR.out.grew G1.out
  go_wp2_with fail
  refine (among_d HK.out W1 br bl (.ok i) d _ threeB 3 false rfl (by decide) rfl (by decide) HAM.out R1.out).mono ?_
  rintro e W2 ⟨rfl, g2⟩
  have R2 : Hid (RSd K N W2 br bl (.ok i) d) := R1.out.grew g2
  have G2 : Hid (Grew w W2) := G1.out.trans g2
  have T2 : Hid (TBlk W2 bt sb tx (aa : Int)) := T1.out.grew g2
  clear g2 R1 G1 T1
  go_wp2_with fail
  refine (gTake_d HK.out HL.out W2 br bl (.ok i) d ⟨#[101, 110, 97, 98, 108, 101, 100]⟩ (by decide) hN R2.out).mono ?_
  rintro e W3 ⟨rfl, hr3, hf3⟩
  have R3 : Hid (RSd K N W3 br bl (.ok i) d) := by show RSd _ _ _ _ _ _ _; rw [← HTK.out.2]; exact hr3
  have F3 : Hid (Fr (· ≠ br) w W3) := (Fr.grew G2.out).trans hf3
  have T3 : Hid (TBlk W3 bt sb tx (aa : Int)) := T2.out.fr hf3 hbtr
  clear hr3 hf3 R2 G2 T2
  have hq : isS K (.ok i) (ByteArray.mk #[101, 110, 97, 98, 108, 101, 100]).data.toList = false := HTK.out.1
  rw [hq]
  clear hq
  go_wp2_with fail
  refine (HP.out W3 R3.out).mono ?_
  rintro e W4 hp
  obtain ⟨hf, hrs, b, rfl, ht⟩ := hp
  have HH : Hid (PostT K N w br bl d r (.returned (.pointer (some ⟨b, 0, none⟩))) W4) := PostT.from F3.out ⟨hf, hrs, b, rfl, ht⟩
  clear hf hrs ht R3 F3 T3
  go_wp2_with fail
  go_ret
  exact HH.out
set_option maxRecDepth 100000 in
set_option maxHeartbeats 600000 in
theorem gP_down12 {K : Nat → Tk} {N br bl : Nat} (hK : ∀ i, TkOK (K i)) (hL : Last K N) (hN : N ≤ 1000000) (w : World) (d i : Nat) (h : RSd K N w br bl (.ok i) d)
    (hk : opens12.contains (K i).tx = false) (r : Except (Nat × Nat) (PX × Nat)) (hP : ∀ W, RSd K N W br bl (.ok i) d → Calls Tryz.prog 113 #[.pointer (some ⟨br, 0, none⟩)] W (PostT K N W br bl d r)) :
    Calls Tryz.prog 58 #[.pointer (some ⟨br, 0, none⟩), .int .i64 12] w (PostT K N w br bl d r) := by
  have HK : Hid (∀ i, TkOK (K i)) := hK
  have HR : Hid (RSd K N w br bl (.ok i) d) := h
  have HL : Hid (Last K N) := hL
  have HP : Hid (∀ W, RSd K N W br bl (.ok i) d → Calls Tryz.prog 113 #[.pointer (some ⟨br, 0, none⟩)] W (PostT K N W br bl d r)) := hP
  have hall := opens12_none hk
  have HAM : Hid ((fourD.any fun m => isS K (.ok i) m.data.toList) = false) := hall.1
  have HTK : Hid (isS K (.ok i) wUnchanged = false ∧ takeS K (.ok i) wUnchanged = .ok i) := ⟨hall.2, by show (if (K i).tx == wUnchanged then _ else _) = _; rw [hall.2, if_neg (by simp)]⟩
  obtain ⟨cap, bad, dd, hb, hI, hne, hbl, t0, t1, t2⟩ := h.open
  obtain ⟨hdr, u0, u1, u2⟩ := RS.cells hb hbl t0 t1 t2
  have c0 := block_cell hb 0
  have c1 := block_cell hb 1
  have c3 := block_cell hb 3
  have k0 := block_cell hdr 0
  have k1 := block_cell hdr 1
  have hbr := block_lt hb
  have hI1 : (i : Int) < ((N + 1 : Nat) : Int) := by omega
  have mo := follows
  obtain ⟨sb, hsb⟩ : ∃ sb, sortB (K i).cl = sb := ⟨_, rfl⟩
  obtain ⟨tx, htx⟩ : ∃ tx, tokB (K i) = tx := ⟨_, rfl⟩
  obtain ⟨aa, haa⟩ : ∃ aa, (K i).at' = aa := ⟨_, rfl⟩
  rw [hsb] at t0 u0
  rw [htx] at t1 u1
  rw [haa] at t2 u2
  clear hb hdr h hK hL hsb htx haa hk hall hP
  go_enter Tryz.func58, Tryz.ntmps58
  go_wp2_with fail
  go_big_region_o
  have T1 : Hid (TBlk _ w.heap.size sb tx (aa : Int)) := TBlk.new w sb tx (aa : Int)
  have G1 : Hid (Grew w (w.alloc (.cells #[.int .u8 (sb : Int), .string tx, .int .i64 (aa : Int)] 106)).drew) := ((Grew.refl w).alloc _).drew
  clear c0 c1 c3 k0 k1 u0 u1 u2 t0 t1 t2 hI1
  generalize (w.alloc (.cells #[.int .u8 (sb : Int), .string tx, .int .i64 (aa : Int)] 106)).drew = W1 at G1 T1 ⊢
  obtain ⟨bt, hbt⟩ : ∃ bt, w.heap.size = bt := ⟨_, rfl⟩
  rw [hbt] at T1 hbr ⊢
  have htw : bt ≤ w.heap.size := by omega
  clear hbt
  have hbtr : bt ≠ br := by omega
  have R1 : Hid (RSd K N W1 br bl (.ok i) d) := HR.out.grew G1.out
  go_wp2_with fail
  refine (among_d HK.out W1 br bl (.ok i) d _ fourD 4 false rfl (by decide) rfl (by decide) HAM.out R1.out).mono ?_
  rintro e W2 ⟨rfl, g2⟩
  have R2 : Hid (RSd K N W2 br bl (.ok i) d) := R1.out.grew g2
  have G2 : Hid (Grew w W2) := G1.out.trans g2
  have T2 : Hid (TBlk W2 bt sb tx (aa : Int)) := T1.out.grew g2
  clear g2 R1 G1 T1
  go_wp2_with fail
  refine (gTake_d HK.out HL.out W2 br bl (.ok i) d ⟨#[117, 110, 99, 104, 97, 110, 103, 101, 100]⟩ (by decide) hN R2.out).mono ?_
  rintro e W3 ⟨rfl, hr3, hf3⟩
  have R3 : Hid (RSd K N W3 br bl (.ok i) d) := by show RSd _ _ _ _ _ _ _; rw [← HTK.out.2]; exact hr3
  have F3 : Hid (Fr (· ≠ br) w W3) := (Fr.grew G2.out).trans hf3
  have T3 : Hid (TBlk W3 bt sb tx (aa : Int)) := T2.out.fr hf3 hbtr
  clear hr3 hf3 R2 G2 T2
  have hq : isS K (.ok i) (ByteArray.mk #[117, 110, 99, 104, 97, 110, 103, 101, 100]).data.toList = false := HTK.out.1
  rw [hq]
  clear hq
  go_wp2_with fail
  refine (HP.out W3 R3.out).mono ?_
  rintro e W4 hp
  obtain ⟨hf, hrs, b, rfl, ht⟩ := hp
  have HH : Hid (PostT K N w br bl d r (.returned (.pointer (some ⟨b, 0, none⟩))) W4) := PostT.from F3.out ⟨hf, hrs, b, rfl, ht⟩
  clear hf hrs ht R3 F3 T3
  go_wp2_with fail
  go_ret
  exact HH.out
end Go.Proofs.YtjbekejcghjhbaaGreatDoor.Sx

namespace Go.Proofs.YtjbekejcghjhbaaGreatDoor.Sx
open Go.RowKit Go.Sort

/-- a node whose parts are laid into a longer row -/
theorem putT {w w3 : World} {lo g g' be cap : Nat} {op nm tx : ByteArray} {a k n : Int} {p0 : Option Addr} {l0 c0 : Nat} {x0 k0 v0 x : PX} {va vb vc : Value}
    (he : XBlk w be op a nm k n tx p0 l0 c0) (hlo : lo ≤ be) (hbg : be ≠ g)
    (ha : TreeT (fun k => lo ≤ k ∧ k ≠ g ∧ k ≠ be) w x0 va) (hb : TreeT (fun k => lo ≤ k ∧ k ≠ g ∧ k ≠ be) w k0 vb) (hc : TreeT (fun k => lo ≤ k ∧ k ≠ g ∧ k ≠ be) w v0 vc)
    (f : Fr (· ≠ g) w w3) (ho : w3.ownsRow lo 57 1 (.slice (some ⟨g', 0, none⟩) 3 cap) 3 [va, vb, vc]) (hat : g' = g ∨ g' = w.heap.size + 1)
    (hx : MeansT op.data.toList nm.data.toList k n tx.data.toList [x0, k0, v0] x) :
    TreeT (fun k => lo ≤ k) (w3.setCell ⟨be, 8, none⟩ (.slice (some ⟨g', 0, none⟩) 3 cap)) x (.pointer (some ⟨be, 0, none⟩)) := by
  have hbe := block_lt he
  have hgb : g' ≠ be := by omega
  have hF : Fr (· ≠ be) w3 (w3.setCell ⟨be, 8, none⟩ (.slice (some ⟨g', 0, none⟩) 3 cap)) := (Fr.refl _ w3).set (by simp) _
  have hE := (he.of f hbg).kids (some ⟨g', 0, none⟩) 3 cap
  rcases ho.2 with ⟨e, -⟩ | ⟨g2, cap2, cur, e, hg, hq, -, -, hs, ht⟩
  · simp at e
  · simp only [Value.slice.injEq, Option.some.injEq, Addr.mk.injEq, and_true, true_and] at e
    obtain ⟨rfl, rfl⟩ := e
    have hN := (hF.block g' (block_lt hq) hgb).trans hq
    have keep : ∀ (z : PX) (t : Value), TreeT (fun k => lo ≤ k ∧ k ≠ g ∧ k ≠ be) w z t → TreeT (fun k => lo ≤ k) (w3.setCell ⟨be, 8, none⟩ (.slice (some ⟨g', 0, none⟩) 3 cap)) z t := fun z t hz =>
      (hz.fr (Q := fun k => lo ≤ k ∧ k ≠ be) (f.mono fun _ q => q.2.1) fun _ _ q => ⟨q.1, q.2.2⟩).fr (hF.mono fun _ q => q.2) fun _ _ q => q.1
    have hcur : ∀ (i : Nat) (v : Value), [va, vb, vc][i]? = some v → cur[i]? = some v := by
      intro i v q
      rw [← ht, List.getElem?_take] at q
      split at q
      · simpa using q
      · simp at q
    refine TreeT.node ⟨be, op, nm, tx, a, k, n, _, 3, cap, [x0, k0, v0], rfl, hlo, hE, ⟨rfl, by decide, .inr ⟨g', 0, rfl, block_lt hN, hg, fun i y q => ?_⟩⟩, hx⟩
    match i, q with
    | 0, q => simp at q; subst q; exact ⟨va, by rw [block_cell hN]; exact hcur 0 _ rfl, keep _ _ ha⟩
    | 1, q => simp at q; subst q; exact ⟨vb, by rw [block_cell hN]; exact hcur 1 _ rfl, keep _ _ hb⟩
    | 2, q => simp at q; subst q; exact ⟨vc, by rw [block_cell hN]; exact hcur 2 _ rfl, keep _ _ hc⟩
    | i + 3, q => simp at q

theorem if_more {K : Nat → Tk} {γ : Type} {s1 : SX} {m : List UInt8} {A B : Nat → RX γ} {r : Except (Nat × Nat) (γ × Nat)} (hb : isS K s1 m = true) (hk : runS s1 (fun j => if (K j).tx == m then A (j + 1) else B j) = some r) : ∃ j, takeS K s1 m = .ok (j + 1) ∧ OkS s1 ∧ A (j + 1) = some r := by
  rcases s1 with e | j
  · simp [isS] at hb
  · have hb' : ((K j).tx == m) = true := hb
    simp only [runS, hb'] at hk
    exact ⟨j, by simp only [takeS, hb']; rfl, ⟨j, rfl⟩, by simpa using hk⟩
theorem if_done {K : Nat → Tk} {γ : Type} {s1 : SX} {m : List UInt8} {A B : Nat → RX γ} {r : Except (Nat × Nat) (γ × Nat)} (hb : isS K s1 m = false) (hk : runS s1 (fun j => if (K j).tx == m then A (j + 1) else B j) = some r) : takeS K s1 m = s1 ∧ runS s1 B = some r := by
  rcases s1 with e | j
  · exact ⟨rfl, hk⟩
  · have hb' : ((K j).tx == m) = false := hb
    refine ⟨by simp only [takeS, hb']; rfl, ?_⟩
    simp only [runS, hb'] at hk ⊢
    simpa using hk
/-- what a round behind a first comes to -/
theorem behind_cases {K : Nat → Tk} {self : Nat → Nat → Nat → RX PX} {M d f i : Nat} {x : PX} {r : Except (Nat × Nat) (PX × Nat)} (hp : behindX K self M d (f + 1) x i = some r) :
    (((K i).tx == [91]) = true ∧ ∃ r1, runS (inS K i d) (self 0 (d + 1)) = some r1 ∧ runS (stX r1) (fun j => if (K j).tx == [58, 61] then (bX (self 0 (d + 1) (j + 1)) fun v j => needX K [93] j fun j => behindX K self M d f (dPut x (valX noX r1) v) j) else needX K [93] j fun j => behindX K self M d f (dAt x (valX noX r1)) j) = some r) ∨
    (((K i).tx == [91]) = false ∧ ((K i).tx == [46]) = true ∧ ∃ r1, runS (.ok (i + 1)) (nameX K) = some r1 ∧ runS (stX r1) (fun j => behindX K self M d f (dAt x (dTxt (valX [] r1))) j) = some r) ∨
    (((K i).tx == [91]) = false ∧ ((K i).tx == [46]) = false ∧ r = .ok (x, i)) := by
  simp only [behindX] at hp
  cases h1 : ((K i).tx == [91]) with
  | true =>
    rw [h1, if_pos rfl] at hp
    obtain ⟨r1, a, b⟩ := runS_bX noX (in_run hp)
    exact .inl ⟨rfl, r1, a, b⟩
  | false =>
    rw [h1, if_neg (by simp)] at hp
    cases h2 : ((K i).tx == [46]) with
    | true =>
      rw [h2, if_pos rfl] at hp
      obtain ⟨r1, a, b⟩ := runS_bX (s := .ok (i + 1)) (f := nameX K) [] hp
      exact .inr (.inl ⟨rfl, rfl, r1, a, b⟩)
    | false =>
      rw [h2, if_neg (by simp)] at hp
      refine .inr (.inr ⟨rfl, rfl, ?_⟩)
      simp only [okX, Option.some.injEq] at hp
      exact hp.symm
end Go.Proofs.YtjbekejcghjhbaaGreatDoor.Sx
