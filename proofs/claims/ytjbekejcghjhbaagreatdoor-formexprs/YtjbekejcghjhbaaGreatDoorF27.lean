/- The reference: what begins with a word: words that are called. -/
import Derived.Test.YtjbekejcghjhbaaGreatDoorF26
namespace Go.Proofs.YtjbekejcghjhbaaGreatDoor.Sx
open Go.RowKit Go.Sort

theorem gFail_d {K : Nat → Tk} {N : Nat} (w : World) (br bl : Nat) (s : SX) (d : Nat) (c p : Nat) (hc : c ≠ 0) (h : RSd K N w br bl s d) :
    Calls Tryz.prog 59 #[.pointer (some ⟨br, 0, none⟩), .int .i64 (c : Int), .int .i64 (p : Int)] w fun e w' => e = .returned (.tuple #[]) ∧ RSd K N w' br bl (failS s c p) d ∧ Fr (· ≠ br) w w' := by
  obtain ⟨dd, h, e⟩ := h
  refine (gFail_any w br bl s dd c p hc h).mono ?_
  rintro e' w' ⟨rfl, h1, h2⟩
  exact ⟨rfl, ⟨dd, h1, fun o => by rcases s with q | i <;> (obtain ⟨j, hj⟩ := o; simp [failS] at hj)⟩, h2⟩
/-- parts that were read are laid into a node -/
theorem kids_tree {w5 w6 w : World} {be : Nat} {op nm tx : ByteArray} {a k n : Int} {pa p0 : Option Addr} {len cap l0 c0 : Nat} {kids : List PX} {x : PX} (he : XBlk w6 be op a nm k n tx p0 l0 c0) (hb : be < w5.heap.size) (hw : w.heap.size ≤ w5.heap.size) (hrow : RowP (fun k => w5.heap.size ≤ k) w6 (TreeT (fun k => w5.heap.size ≤ k) w6) pa len kids)
    (hm : MeansT op.data.toList nm.data.toList k n tx.data.toList kids x) : TreeT (fun k => k = be ∨ w.heap.size ≤ k) (w6.setCell ⟨be, 8, none⟩ (.slice pa len cap)) x (.pointer (some ⟨be, 0, none⟩)) := by
  have hf : Fr (fun k => w5.heap.size ≤ k) w6 (w6.setCell ⟨be, 8, none⟩ (.slice pa len cap)) := (Fr.refl _ w6).set (by simp; omega) _
  exact TreeT.node ⟨be, op, nm, tx, a, k, n, pa, len, cap, kids, rfl, .inl rfl, he.kids pa len cap, RowP.fr hf (fun _ _ h => h.fr hf fun _ _ q => .inr (by omega)) (fun _ _ q => .inr (by omega)) hrow, hm⟩
theorem called_mark {l : List UInt8} (h : l ∈ called7) : l ∈ marks := by
  simp only [called7, List.mem_cons, List.not_mem_nil, or_false] at h
  rcases h with rfl | rfl | rfl | rfl | rfl | rfl | rfl <;> decide
theorem called_fixed {l : List UInt8} (h : l ∈ called7) : ¬ fixed3.contains l = true := by
  simp only [called7, List.mem_cons, List.not_mem_nil, or_false] at h
  rcases h with rfl | rfl | rfl | rfl | rfl | rfl | rfl <;> decide
theorem called_cases {t : ByteArray} (h : t.data.toList ∈ called7) : (t.toList == [110, 105, 108]) = false ∧ (t.toList == [116, 114, 117, 101]) = false ∧ (t.toList == [102, 97, 108, 115, 101]) = false ∧
    ((t.toList == [115, 105, 122, 101]) = true ∨ ((t.toList == [115, 105, 122, 101]) = false ∧ (t.toList == [108, 101, 110]) = true) ∨ ((t.toList == [115, 105, 122, 101]) = false ∧ (t.toList == [108, 101, 110]) = false ∧ (t.toList == [104, 101, 97, 100]) = true) ∨
      ((t.toList == [115, 105, 122, 101]) = false ∧ (t.toList == [108, 101, 110]) = false ∧ (t.toList == [104, 101, 97, 100]) = false ∧ (t.toList == [116, 97, 105, 108]) = true) ∨
      ((t.toList == [115, 105, 122, 101]) = false ∧ (t.toList == [108, 101, 110]) = false ∧ (t.toList == [104, 101, 97, 100]) = false ∧ (t.toList == [116, 97, 105, 108]) = false ∧ (t.toList == [97, 112, 112, 101, 110, 100]) = true) ∨
      ((t.toList == [115, 105, 122, 101]) = false ∧ (t.toList == [108, 101, 110]) = false ∧ (t.toList == [104, 101, 97, 100]) = false ∧ (t.toList == [116, 97, 105, 108]) = false ∧ (t.toList == [97, 112, 112, 101, 110, 100]) = false ∧ (t.toList == [118, 97, 108, 117, 101, 115]) = true) ∨
      ((t.toList == [115, 105, 122, 101]) = false ∧ (t.toList == [108, 101, 110]) = false ∧ (t.toList == [104, 101, 97, 100]) = false ∧ (t.toList == [116, 97, 105, 108]) = false ∧ (t.toList == [97, 112, 112, 101, 110, 100]) = false ∧ (t.toList == [118, 97, 108, 117, 101, 115]) = false ∧ (t.toList == [115, 101, 113, 115]) = true)) := by
  rw [ByteArray.toList_eq]
  simp only [called7, List.mem_cons, List.not_mem_nil, or_false] at h
  rcases h with h | h | h | h | h | h | h <;> rw [h] <;> decide

set_option maxRecDepth 100000 in
set_option maxHeartbeats 2000000 in
theorem gnamed_called {K : Nat → Tk} {N br bl : Nat} {self : Nat → Nat → Nat → RX PX} (hS : SelfR K N br bl self) (hK : ∀ i, TkOK (K i)) (hL : Last K N) (hN : N ≤ 1000000) (w : World) (be d m i : Nat) (a0 : Int) (hd : d ≤ 24) (hm : m ≤ 1000000) (hbe : be ≠ br) (hbl0 : be ≠ bl) (h : RSd K N w br bl (.ok i) d) (he : XBlk w be ⟨#[]⟩ a0 ⟨#[]⟩ 0 0 ⟨#[]⟩ none 0 0)
    (hk : (K i).tx ∈ called7) (r : Except (Nat × Nat) (PX × Nat)) (hr : wordX K self m d i = some r) :
    Calls Tryz.prog 253 #[.pointer (some ⟨br, 0, none⟩), .pointer (some ⟨be, 0, none⟩)] w (PostX K N w br bl be d r) := by
  have HR : Hid (RSd K N w br bl (.ok i) d) := h
  have HE : Hid (XBlk w be ⟨#[]⟩ a0 ⟨#[]⟩ 0 0 ⟨#[]⟩ none 0 0) := he
  obtain ⟨cap, bad, dd, hb, hI, hne, hbl, t0, t1, t2⟩ := h.open
  obtain ⟨hdr, u0, u1, u2⟩ := RS.cells hb hbl t0 t1 t2
  have c0 := block_cell hb 0
  have c1 := block_cell hb 1
  have k0 := block_cell hdr 0
  have k1 := block_cell hdr 1
  have hbr := block_lt hb
  have hI1 : (i : Int) < ((N + 1 : Nat) : Int) := by omega
  have mo := follows
  have HS : Hid (SelfR K N br bl self) := hS
  have HK : Hid (∀ i, TkOK (K i)) := hK
  have HL : Hid (Last K N) := hL
  have hmk : (K i).tx ∈ marks := called_mark hk
  have hiN : i < N := hL.lt hI (m := (K i).tx) (by simp) hmk
  obtain ⟨tx, htx⟩ : ∃ tx, tokB (K i) = tx := ⟨_, rfl⟩
  have hkt : tx.data.toList = (K i).tx := by rw [← htx]; exact tok_mark hK hmk rfl
  rw [← hkt] at hk
  have HKT : Hid (tx.data.toList ∈ called7) := hk
  have hr2 : (if (K (i + 1)).tx == [40] then callX K self m tx.data.toList d (i + 1) else errX 1 (K (i + 1)).at') = some r := by
    unfold wordX at hr
    rw [if_neg (by rw [← hkt]; exact called_fixed hk), if_pos (by rw [← hkt]; simpa using hk), ← hkt] at hr
    exact hr
  have HFC : Hid _ := called_cases hk
  obtain ⟨sb, hsb⟩ : ∃ sb, sortB (K i).cl = sb := ⟨_, rfl⟩
  obtain ⟨aa, haa⟩ : ∃ aa, (K i).at' = aa := ⟨_, rfl⟩
  rw [hsb] at t0 u0
  rw [htx] at t1 u1
  rw [haa] at t2 u2
  have hbew := block_lt he
  clear hb hdr h hK hL hsb htx haa hr hk he hS hkt hmk
  go_enter Tryz.func253, Tryz.ntmps253
  go_wp2_with fail
  go_big_region_o
  have T1 : Hid (TBlk _ w.heap.size sb tx (aa : Int)) := TBlk.new w sb tx (aa : Int)
  have G1 : Hid (Grew w (w.alloc (.cells #[.int .u8 (sb : Int), .string tx, .int .i64 (aa : Int)] 106)).drew) := ((Grew.refl w).alloc _).drew
  clear c0 c1 k0 k1 u0 u1 u2 t0 t1 t2 hI1
  generalize (w.alloc (.cells #[.int .u8 (sb : Int), .string tx, .int .i64 (aa : Int)] 106)).drew = W1 at G1 T1 ⊢
  obtain ⟨bt, hbt⟩ : ∃ bt, w.heap.size = bt := ⟨_, rfl⟩
  rw [hbt] at T1 hbr hbew ⊢
  have htw : bt ≤ w.heap.size := by omega
  clear hbt
  have nbt1 : bt ≠ br := by omega
  have nbt2 : bt ≠ be := by omega
  have R1 : Hid (RSd K N W1 br bl (.ok i) d) := HR.out.grew G1.out
  have E1 : Hid (XBlk W1 be ⟨#[]⟩ a0 ⟨#[]⟩ 0 0 ⟨#[]⟩ none 0 0) := HE.out.of (P := fun _ => True) (Fr.grew G1.out) trivial
  have q1 := block_cell T1.out 1
  obtain ⟨e1, f1⟩ := R1.out.block
  have q2 := block_cell T1.out 2
  have hz1 := G1.out.below.size
  have R2 : Hid (RSd K N (W1.setCell ⟨br, 1, none⟩ (.int .i64 ((i : Int) + 1))) br bl (.ok (i + 1)) d) := R1.out.next hiN
  have hfs : Fr (· ≠ br) W1 (W1.setCell ⟨br, 1, none⟩ (.int .i64 ((i : Int) + 1))) := (Fr.refl _ W1).set (by simp) _
  have F2 : Hid (Fr (· ≠ br) w (W1.setCell ⟨br, 1, none⟩ (.int .i64 ((i : Int) + 1)))) := (Fr.grew G1.out).trans hfs
  have E2 : Hid (XBlk (W1.setCell ⟨br, 1, none⟩ (.int .i64 ((i : Int) + 1))) be ⟨#[]⟩ a0 ⟨#[]⟩ 0 0 ⟨#[]⟩ none 0 0) := E1.out.of hfs hbe
  have T2 : Hid (TBlk (W1.setCell ⟨br, 1, none⟩ (.int .i64 ((i : Int) + 1))) bt sb tx (aa : Int)) := T1.out.fr hfs nbt1
  clear hfs R1 E1 T1 G1
  obtain ⟨n1, n2, n3, n4⟩ := HFC.out
  rcases n4 with m1 | ⟨m1, m2⟩ | ⟨m1, m2, m3⟩ | ⟨m1, m2, m3, m4⟩ | ⟨m1, m2, m3, m4, m5⟩ | ⟨m1, m2, m3, m4, m5, m6⟩ | ⟨m1, m2, m3, m4, m5, m6, m7⟩
  all_goals
    go_wp2_with fail
    clear e1 f1 q1 q2
    generalize W1.setCell ⟨br, 1, none⟩ (.int .i64 ((i : Int) + 1)) = W2 at R2 F2 E2 T2 ⊢
    have hz2 := F2.out.size
    cases hq : ((K (i + 1)).tx == [40]) with
    | false =>
      obtain rfl : .error (1, (K (i + 1)).at') = r := by rw [hq] at hr2; simpa [errX] using hr2
      refine (gNext_d HK.out W2 br bl (.ok (i + 1)) d ⟨#[40]⟩ (by decide) R2.out false hq).mono ?_
      rintro e W3 ⟨rfl, g3⟩
      have R3 : Hid (RSd K N W3 br bl (.ok (i + 1)) d) := R2.out.grew g3
      have F3 : Hid (Fr (· ≠ br) w W3) := F2.out.trans (Fr.grew g3)
      clear g3 R2 F2 E2 T2 hr2 hq
      obtain ⟨cap3, bad3, dd3, hb3, hI3, hne3, hbl3, t0, t1, t2⟩ := R3.out.open
      obtain ⟨hdr, u0, u1, u2⟩ := RS.cells hb3 hbl3 t0 t1 t2
      have c0 := block_cell hb3 0
      have c1 := block_cell hb3 1
      have k0 := block_cell hdr 0
      have k1 := block_cell hdr 1
      have hbr3 := block_lt hb3
      have hI1 : ((i : Int) + 1) < ((N + 1 : Nat) : Int) := by omega
      have HF : Hid (∀ W, Grew W3 W → Calls _ _ _ _ _) := fun W g => gFail_d W br bl (.ok (i + 1)) d 1 (K (i + 1)).at' (by decide) (R3.out.grew g)
      obtain ⟨ab, hab⟩ : ∃ ab, (K (i + 1)).at' = ab := ⟨_, rfl⟩
      have HAB : Hid ((K (i + 1)).at' = ab) := hab
      rw [hab] at t2 u2 HF
      clear hab hb3 hdr t0 t1 u0 u1
      go_wp2_with fail
      go_region_with (go_at_call 59; refine (HF.out _ (Grew.refl W3).drew).mono ?_; rintro e W4 ⟨rfl, hr4, hf4⟩; have R4 : Hid (RSd K N W4 br bl (.error (1, ab)) d) := hr4; have F4 : Hid (Fr (· ≠ br) w W4) := F3.out.drew.trans hf4; clear hr4 hf4)
      all_goals go_wp2_with fail
      all_goals go_ret
      all_goals exact ⟨F4.out.wide, (by show RSd _ _ _ _ _ (.error (1, (K (i + 1)).at')) _; rw [HAB.out]; exact R4.out), rfl, fun x j e => by simp at e⟩
    | true =>
      have hI2 : i + 1 ≤ N := hiN
      have hiN2 : i + 1 < N := HL.out.lt hI2 (m := [40]) hq (by decide)
      rw [hq, if_pos rfl] at hr2
      refine (gNext_d HK.out W2 br bl (.ok (i + 1)) d ⟨#[40]⟩ (by decide) R2.out true hq).mono ?_
      rintro e W3 ⟨rfl, g3⟩
      have R3 : Hid (RSd K N W3 br bl (.ok (i + 1)) d) := R2.out.grew g3
      have F3 : Hid (Fr (· ≠ br) w W3) := F2.out.trans (Fr.grew g3)
      have E3 : Hid (XBlk W3 be ⟨#[]⟩ a0 ⟨#[]⟩ 0 0 ⟨#[]⟩ none 0 0) := E2.out.of (P := fun _ => True) (Fr.grew g3) trivial
      have T3 : Hid (TBlk W3 bt sb tx (aa : Int)) := T2.out.grew g3
      clear g3 R2 F2 E2 T2 hq
      obtain ⟨rl, hl, hc⟩ := runS_bX [] (in_run hr2)
      have HQ : Hid (stX r = stX rl ∧ ∀ y j, r = .ok (y, j) → y = dCall tx.data.toList (valX [] rl)) := ok_run hc
      have H1 : Hid (runS (inS K (i + 1) d) (listX K [41] (self 0 (d + 1)) m []) = some rl) := hl
      clear hr2 hl hc
      go_wp2_with fail
      refine (gin_d hN W3 br bl (i + 1) d hd hiN2 R3.out).mono ?_
      rintro e W4 ⟨rfl, hr4, hf4⟩
      have R4 : Hid (RSd K N W4 br bl (inS K (i + 1) d) (d + 1)) := hr4
      have F4 : Hid (Fr (· ≠ br) w W4) := F3.out.trans hf4
      have E4 : Hid (XBlk W4 be ⟨#[]⟩ a0 ⟨#[]⟩ 0 0 ⟨#[]⟩ none 0 0) := E3.out.of hf4 hbe
      have T4 : Hid (TBlk W4 bt sb tx (aa : Int)) := T3.out.fr hf4 nbt1
      clear hr4 hf4 R3 F3 E3 T3
      have q1 := block_cell T4.out 1
      have x0 := block_cell E4.out 0
      have x2 := block_cell E4.out 2
      have g0 := frozen_block E4.out 0
      have g2 := frozen_block E4.out 2
      have E5 : Hid (XBlk ((W4.setCell ⟨be, 0, none⟩ (.string tx)).setCell ⟨be, 2, none⟩ (.string tx)) be tx a0 tx 0 0 ⟨#[]⟩ none 0 0) := (E4.out.op tx).name tx
      have hfs : Fr (· ≠ be) W4 ((W4.setCell ⟨be, 0, none⟩ (.string tx)).setCell ⟨be, 2, none⟩ (.string tx)) := ((Fr.refl _ W4).set (by simp) _).set (by simp) _
      have R5 : Hid (RSd K N ((W4.setCell ⟨be, 0, none⟩ (.string tx)).setCell ⟨be, 2, none⟩ (.string tx)) br bl (inS K (i + 1) d) (d + 1)) := R4.out.fr hfs (Ne.symm hbe) (Ne.symm hbl0)
      have F5 : Hid (Fr (fun k => k ≠ br ∧ k ≠ be) w ((W4.setCell ⟨be, 0, none⟩ (.string tx)).setCell ⟨be, 2, none⟩ (.string tx))) := F4.out.wide.trans (hfs.mono fun _ q => q.2)
      clear hfs
      go_wp2_with fail
      clear q1 x0 x2 g0 g2 R4 F4 E4 T4
      generalize (W4.setCell ⟨be, 0, none⟩ (.string tx)).setCell ⟨be, 2, none⟩ (.string tx) = W5 at E5 R5 F5 ⊢
      refine (glist_one HS.out HK.out HL.out hN W5 (d + 1) m _ ⟨#[41]⟩ (in_ok hd) hm (by decide) (by decide) R5.out rl H1.out).mono ?_
      rintro e W6 ⟨hf6, hr6, a6, l6, c6, rfl, hrow⟩
      have R6 : Hid (RSd K N W6 br bl (stX rl) (d + 1)) := hr6
      have F6 : Hid (Fr (fun k => k ≠ br ∧ k ≠ be) w W6) := F5.out.trans hf6.wide
      have E6 : Hid (XBlk W6 be tx a0 tx 0 0 ⟨#[]⟩ none 0 0) := E5.out.of hf6 hbe
      have W6R : Hid (∀ l j, rl = .ok (l, j) → RowP (fun k => W5.heap.size ≤ k) W6 (TreeT (fun k => W5.heap.size ≤ k) W6) a6 l6 l) := hrow
      have hz5 := F5.out.size
      have hb5 : be < W5.heap.size := block_lt E5.out
      clear hf6 hr6 hrow R5 F5 E5
      have x8 := block_cell E6.out 8
      have g8 := frozen_block E6.out 8
      have hfk : Fr (· ≠ be) W6 (W6.setCell ⟨be, 8, none⟩ (.slice a6 l6 c6)) := (Fr.refl _ W6).set (by simp) _
      have R7 : Hid (RSd K N (W6.setCell ⟨be, 8, none⟩ (.slice a6 l6 c6)) br bl (stX rl) (d + 1)) := R6.out.fr hfk (Ne.symm hbe) (Ne.symm hbl0)
      have F7 : Hid (Fr (fun k => k ≠ br ∧ k ≠ be) w (W6.setCell ⟨be, 8, none⟩ (.slice a6 l6 c6))) := F6.out.trans (hfk.mono fun _ q => q.2)
      have T7 : Hid (∀ x j, r = .ok (x, j) → TreeT (fun k => k = be ∨ w.heap.size ≤ k) (W6.setCell ⟨be, 8, none⟩ (.slice a6 l6 c6)) x (.pointer (some ⟨be, 0, none⟩))) := fun x j e => by
        have o : OkS (stX rl) := by rw [← HQ.out.1]; exact ok_of e
        obtain ⟨j1, e1⟩ := ok_val [] o
        rw [HQ.out.2 x j e]
        exact kids_tree E6.out hb5 hz5 (W6R.out _ _ e1) (.inr (.inr (.inr (.inr (.inl ⟨HKT.out, rfl⟩)))))
      clear hfk
      go_wp2_with fail
      clear x8 g8 R6 F6 E6 W6R
      generalize W6.setCell ⟨be, 8, none⟩ (.slice a6 l6 c6) = W7 at R7 F7 T7 ⊢
      refine (gout_d W7 br bl _ d hd R7.out).mono ?_
      rintro e W8 ⟨rfl, hr8, hf8⟩
      have R8 : Hid (RSd K N W8 br bl (stX rl) d) := hr8
      have F8 : Hid (Fr (fun k => k ≠ br ∧ k ≠ be) w W8) := F7.out.trans hf8.wide
      have T8 : Hid (∀ x j, r = .ok (x, j) → TreeT (fun k => k = be ∨ w.heap.size ≤ k) W8 x (.pointer (some ⟨be, 0, none⟩))) := fun x j e => (T7.out x j e).fr (hf8.mono fun k q => by omega) fun _ _ q => q
      clear hr8 hf8 R7 F7 T7
      go_wp2_with fail
      go_ret
      exact ⟨F8.out, by rw [HQ.out.1]; exact R8.out, rfl, T8.out⟩
end Go.Proofs.YtjbekejcghjhbaaGreatDoor.Sx
