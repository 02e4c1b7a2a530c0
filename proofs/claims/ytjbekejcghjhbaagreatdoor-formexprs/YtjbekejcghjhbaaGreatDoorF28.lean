/- The reference: what begins with a word: names. -/
import Derived.Test.YtjbekejcghjhbaaGreatDoorF27
namespace Go.Proofs.YtjbekejcghjhbaaGreatDoor.Sx
open Go.RowKit Go.Sort

theorem RSd.le {K : Nat → Tk} {N br bl i d : Nat} {w : World} (h : RSd K N w br bl (.ok i) d) : i ≤ N := by
  obtain ⟨cap, bad, dd, hb, hI, -⟩ := h.open
  exact hI
theorem word_none {t : ByteArray} (h1 : fixed3.contains t.data.toList = false) (h2 : called7.contains t.data.toList = false) :
    (t.toList == [110, 105, 108]) = false ∧ (t.toList == [116, 114, 117, 101]) = false ∧ (t.toList == [102, 97, 108, 115, 101]) = false ∧ (t.toList == [115, 105, 122, 101]) = false ∧ (t.toList == [108, 101, 110]) = false ∧
      (t.toList == [104, 101, 97, 100]) = false ∧ (t.toList == [116, 97, 105, 108]) = false ∧ (t.toList == [97, 112, 112, 101, 110, 100]) = false ∧ (t.toList == [118, 97, 108, 117, 101, 115]) = false ∧ (t.toList == [115, 101, 113, 115]) = false := by
  rw [ByteArray.toList_eq]
  simp only [fixed3, called7, List.contains_cons, List.contains_nil, Bool.or_eq_false_iff, Bool.or_false] at h1 h2
  exact ⟨h1.1, h1.2.1, h1.2.2, h2⟩
/-- what a name goes on with -/
theorem named_cases {K : Nat → Tk} {self : Nat → Nat → Nat → RX PX} {m d i : Nat} {r : Except (Nat × Nat) (PX × Nat)} (h : namedX K self m d i = some r) :
    ∃ rn, nameX K i = some rn ∧ ((isS K (stX rn) [40] = true ∧ isS K (stX rn) [39] = false ∧ ∃ j, stX rn = .ok j ∧ (K j).tx = [40] ∧ callX K self m (valX [] rn) d j = some r) ∨
      (isS K (stX rn) [40] = false ∧ isS K (stX rn) [39] = true ∧ ∃ j, stX rn = .ok j ∧ (K j).tx = [39] ∧ .ok (dLeaf (valX [] rn ++ [39]), j + 1) = r) ∨
      (isS K (stX rn) [40] = false ∧ isS K (stX rn) [39] = false ∧ stX r = stX rn ∧ ∀ y j, r = .ok (y, j) → y = dLeaf (valX [] rn))) := by
  unfold namedX at h
  obtain ⟨rn, h1, h2⟩ := runS_bX [] (s := .ok i) (f := nameX K) h
  refine ⟨rn, h1, ?_⟩
  rcases rn with e | ⟨n, j⟩
  · obtain rfl : .error e = r := by simpa [runS, stX] using h2
    exact .inr (.inr ⟨rfl, rfl, rfl, fun y j q => by simp at q⟩)
  · have h3 : (if (K j).tx == [39] then okX (dLeaf (n ++ [39])) (j + 1) else if (K j).tx == [40] then callX K self m n d j else okX (dLeaf n) j) = some r := h2
    cases e39 : ((K j).tx == [39]) with
    | true =>
      have e : (K j).tx = [39] := by simpa using e39
      rw [e39, if_pos rfl] at h3
      obtain rfl : .ok (dLeaf (n ++ [39]), j + 1) = r := by simpa [okX] using h3
      exact .inr (.inl ⟨by show ((K j).tx == [40]) = false; rw [e]; rfl, e39, j, rfl, e, rfl⟩)
    | false =>
      rw [e39, if_neg (by simp)] at h3
      cases e40 : ((K j).tx == [40]) with
      | true =>
        rw [e40, if_pos rfl] at h3
        exact .inl ⟨e40, e39, j, rfl, by simpa using e40, h3⟩
      | false =>
        rw [e40, if_neg (by simp)] at h3
        obtain rfl : .ok (dLeaf n, j) = r := by simpa [okX] using h3
        exact .inr (.inr ⟨e40, e39, rfl, fun y j q => by simp at q; exact q.1.symm⟩)

set_option maxRecDepth 100000 in
set_option maxHeartbeats 2000000 in
theorem gnamed_name {K : Nat → Tk} {N br bl : Nat} {self : Nat → Nat → Nat → RX PX} (hS : SelfR K N br bl self) (hK : ∀ i, TkOK (K i)) (hL : Last K N) (hN : N ≤ 1000000) (w : World) (be d m i : Nat) (a0 : Int) (hd : d ≤ 24) (hm : m ≤ 1000000) (hbe : be ≠ br) (hbl0 : be ≠ bl) (h : RSd K N w br bl (.ok i) d) (he : XBlk w be ⟨#[]⟩ a0 ⟨#[]⟩ 0 0 ⟨#[]⟩ none 0 0)
    (hk : (K i).cl = 1) (hk3 : fixed3.contains (K i).tx = false) (hk7 : called7.contains (K i).tx = false) (r : Except (Nat × Nat) (PX × Nat)) (hr : wordX K self m d i = some r) :
    Calls Tryz.prog 253 #[.pointer (some ⟨br, 0, none⟩), .pointer (some ⟨be, 0, none⟩)] w (PostX K N w br bl be d r) := by
  have HR : Hid (RSd K N w br bl (.ok i) d) := h
  have HE : Hid (XBlk w be ⟨#[]⟩ a0 ⟨#[]⟩ 0 0 ⟨#[]⟩ none 0 0) := he
  obtain ⟨cap, bad, dd, hb, hI, hne, hbl, t0, t1, t2⟩ := h.open
  obtain ⟨hdr, u0, u1, u2⟩ := RS.cells hb hbl t0 t1 t2
  have c0 := block_cell hb 0
  have c1 := block_cell hb 1
  have k0 := block_cell hdr 0
  have k1 := block_cell hdr 1
  have hbr := block_lt hb
  have hI1 : (i : Int) < ((N + 1 : Nat) : Int) := by omega
  have mo := follows
  have HS : Hid (SelfR K N br bl self) := hS
  have HK : Hid (∀ i, TkOK (K i)) := hK
  have HL : Hid (Last K N) := hL
  obtain ⟨tx, htx⟩ : ∃ tx, tokB (K i) = tx := ⟨_, rfl⟩
  have hkt : tx.data.toList = (K i).tx := by rw [← htx]; exact tokB_list _ (by omega)
  have HFC : Hid _ := word_none (t := tx) (by rw [hkt]; exact hk3) (by rw [hkt]; exact hk7)
  have hr2 : namedX K self m d i = some r := by
    unfold wordX at hr
    rw [if_neg (by rw [hk3]; simp), if_neg (by rw [hk7]; simp)] at hr
    exact hr
  obtain ⟨rn, hn1, hn2⟩ := named_cases hr2
  have HN1 : Hid (runS (.ok i) (nameX K) = some rn) := hn1
  have HN2 : Hid _ := hn2
  clear hr2 hn1 hn2
  obtain ⟨sb, hsb⟩ : ∃ sb, sortB (K i).cl = sb := ⟨_, rfl⟩
  obtain ⟨aa, haa⟩ : ∃ aa, (K i).at' = aa := ⟨_, rfl⟩
  rw [hsb] at t0 u0
  rw [htx] at t1 u1
  rw [haa] at t2 u2
  have hbew := block_lt he
  clear hb hdr h hK hL hsb htx haa hr hk hk3 hk7 he hS hkt
  go_enter Tryz.func253, Tryz.ntmps253
  go_wp2_with fail
  go_big_region_o
  have T1 : Hid (TBlk _ w.heap.size sb tx (aa : Int)) := TBlk.new w sb tx (aa : Int)
  have G1 : Hid (Grew w (w.alloc (.cells #[.int .u8 (sb : Int), .string tx, .int .i64 (aa : Int)] 106)).drew) := ((Grew.refl w).alloc _).drew
  clear c0 c1 k0 k1 u0 u1 u2 t0 t1 t2 hI1
  generalize (w.alloc (.cells #[.int .u8 (sb : Int), .string tx, .int .i64 (aa : Int)] 106)).drew = W1 at G1 T1 ⊢
  obtain ⟨bt, hbt⟩ : ∃ bt, w.heap.size = bt := ⟨_, rfl⟩
  rw [hbt] at T1 hbr hbew ⊢
  have htw : bt ≤ w.heap.size := by omega
  clear hbt
  have nbt1 : bt ≠ br := by omega
  have nbt2 : bt ≠ be := by omega
  have R1 : Hid (RSd K N W1 br bl (.ok i) d) := HR.out.grew G1.out
  have E1 : Hid (XBlk W1 be ⟨#[]⟩ a0 ⟨#[]⟩ 0 0 ⟨#[]⟩ none 0 0) := HE.out.of (P := fun _ => True) (Fr.grew G1.out) trivial
  have q1 := block_cell T1.out 1
  have q2 := block_cell T1.out 2
  have hz1 := G1.out.below.size
  have F1 : Hid (Fr (· ≠ br) w W1) := Fr.grew G1.out
  obtain ⟨n1, n2, n3, n4, n5, n6, n7, n8, n9, n10⟩ := HFC.out
  go_wp2_with fail
  clear n1 n2 n3 n4 n5 n6 n7 n8 n9 n10 q1 q2 T1 G1
  refine (gName_d HL.out W1 br bl (.ok i) d hN R1.out rn HN1.out).mono ?_
  rintro e W2 ⟨rfl, hr2, hf2⟩
  have R2 : Hid (RSd K N W2 br bl (stX rn) d) := hr2
  have F2 : Hid (Fr (· ≠ br) w W2) := F1.out.trans hf2
  have E2 : Hid (XBlk W2 be ⟨#[]⟩ a0 ⟨#[]⟩ 0 0 ⟨#[]⟩ none 0 0) := E1.out.of hf2 hbe
  have HNV : Hid (OkS (stX rn) → (nameV rn).data.toList = valX [] rn) := name_val
  obtain ⟨nm, hnm⟩ : ∃ nm, nameV rn = nm := ⟨_, rfl⟩
  rw [hnm] at HNV ⊢
  clear hr2 hf2 R1 F1 E1 hnm
  have x0 := block_cell E2.out 0
  have x2 := block_cell E2.out 2
  have g0 := frozen_block E2.out 0
  have g2 := frozen_block E2.out 2
  have E3 : Hid (XBlk ((W2.setCell ⟨be, 2, none⟩ (.string nm)).setCell ⟨be, 0, none⟩ (.string ⟨#[110, 97, 109, 101]⟩)) be ⟨#[110, 97, 109, 101]⟩ a0 nm 0 0 ⟨#[]⟩ none 0 0) := (E2.out.name nm).op _
  have hfs : Fr (· ≠ be) W2 ((W2.setCell ⟨be, 2, none⟩ (.string nm)).setCell ⟨be, 0, none⟩ (.string ⟨#[110, 97, 109, 101]⟩)) := ((Fr.refl _ W2).set (by simp) _).set (by simp) _
  have R3 : Hid (RSd K N ((W2.setCell ⟨be, 2, none⟩ (.string nm)).setCell ⟨be, 0, none⟩ (.string ⟨#[110, 97, 109, 101]⟩)) br bl (stX rn) d) := R2.out.fr hfs (Ne.symm hbe) (Ne.symm hbl0)
  have F3 : Hid (Fr (fun k => k ≠ br ∧ k ≠ be) w ((W2.setCell ⟨be, 2, none⟩ (.string nm)).setCell ⟨be, 0, none⟩ (.string ⟨#[110, 97, 109, 101]⟩))) := F2.out.wide.trans (hfs.mono fun _ q => q.2)
  clear hfs
  go_wp2_with fail
  clear x0 x2 g0 g2 R2 F2 E2
  generalize (W2.setCell ⟨be, 2, none⟩ (.string nm)).setCell ⟨be, 0, none⟩ (.string ⟨#[110, 97, 109, 101]⟩) = W3 at E3 R3 F3 ⊢
  obtain ⟨q40, hq40⟩ : ∃ q, isS K (stX rn) [40] = q := ⟨_, rfl⟩
  obtain ⟨q39, hq39⟩ : ∃ q, isS K (stX rn) [39] = q := ⟨_, rfl⟩
  have HQ39 : Hid (isS K (stX rn) [39] = q39) := hq39
  have HN3 : Hid _ := HN2.out
  rw [hq40, hq39] at HN3
  clear hq39
  refine (gNext_d HK.out W3 br bl (stX rn) d ⟨#[40]⟩ (by decide) R3.out q40 hq40).mono ?_
  rintro e W4 ⟨rfl, g4⟩
  have R4 : Hid (RSd K N W4 br bl (stX rn) d) := R3.out.grew g4
  have F4 : Hid (Fr (fun k => k ≠ br ∧ k ≠ be) w W4) := F3.out.trans (Fr.grew g4)
  have E4 : Hid (XBlk W4 be ⟨#[110, 97, 109, 101]⟩ a0 nm 0 0 ⟨#[]⟩ none 0 0) := E3.out.of (P := fun _ => True) (Fr.grew g4) trivial
  clear g4 R3 F3 E3 hq40
  go_wp2_with fail
  refine (gNext_d HK.out W4 br bl (stX rn) d ⟨#[39]⟩ (by decide) R4.out q39 HQ39.out).mono ?_
  rintro e W5 ⟨rfl, g5⟩
  have R5 : Hid (RSd K N W5 br bl (stX rn) d) := R4.out.grew g5
  have F5 : Hid (Fr (fun k => k ≠ br ∧ k ≠ be) w W5) := F4.out.trans (Fr.grew g5)
  have E5 : Hid (XBlk W5 be ⟨#[110, 97, 109, 101]⟩ a0 nm 0 0 ⟨#[]⟩ none 0 0) := E4.out.of (P := fun _ => True) (Fr.grew g5) trivial
  clear g5 R4 F4 E4 HQ39 HN2
  rcases HN3.out with ⟨rfl, rfl, j, hj, hjt, hc⟩ | ⟨rfl, rfl, j, hj, hjt, hc⟩ | ⟨rfl, rfl, hst, hvl⟩
  · -- a call
    rw [hj] at R5
    have hjN : j < N := HL.out.lt R5.out.le (m := [40]) (by rw [hjt]; rfl) (by decide)
    have HNV2 : Hid (nm.data.toList = valX [] rn) := HNV.out ⟨j, hj⟩
    obtain ⟨rl, hl, hc⟩ := runS_bX [] (in_run hc)
    have HQ : Hid (stX r = stX rl ∧ ∀ y j, r = .ok (y, j) → y = dCall (valX [] rn) (valX [] rl)) := ok_run hc
    have H1 : Hid (runS (inS K j d) (listX K [41] (self 0 (d + 1)) m []) = some rl) := hl
    clear hl hc hj hjt HN3 HNV
    go_wp2_with fail
    refine (gin_d hN W5 br bl j d hd hjN R5.out).mono ?_
    rintro e W6 ⟨rfl, hr6, hf6⟩
    have R6 : Hid (RSd K N W6 br bl (inS K j d) (d + 1)) := hr6
    have F6 : Hid (Fr (fun k => k ≠ br ∧ k ≠ be) w W6) := F5.out.trans hf6.wide
    have E6 : Hid (XBlk W6 be ⟨#[110, 97, 109, 101]⟩ a0 nm 0 0 ⟨#[]⟩ none 0 0) := E5.out.of hf6 hbe
    clear hr6 hf6 R5 F5 E5
    have x0 := block_cell E6.out 0
    have g0 := frozen_block E6.out 0
    have E7 : Hid (XBlk (W6.setCell ⟨be, 0, none⟩ (.string ⟨#[99, 97, 108, 108]⟩)) be ⟨#[99, 97, 108, 108]⟩ a0 nm 0 0 ⟨#[]⟩ none 0 0) := E6.out.op _
    have hfs : Fr (· ≠ be) W6 (W6.setCell ⟨be, 0, none⟩ (.string ⟨#[99, 97, 108, 108]⟩)) := (Fr.refl _ W6).set (by simp) _
    have R7 : Hid (RSd K N (W6.setCell ⟨be, 0, none⟩ (.string ⟨#[99, 97, 108, 108]⟩)) br bl (inS K j d) (d + 1)) := R6.out.fr hfs (Ne.symm hbe) (Ne.symm hbl0)
    have F7 : Hid (Fr (fun k => k ≠ br ∧ k ≠ be) w (W6.setCell ⟨be, 0, none⟩ (.string ⟨#[99, 97, 108, 108]⟩))) := F6.out.trans (hfs.mono fun _ q => q.2)
    clear hfs
    go_wp2_with fail
    clear x0 g0 R6 F6 E6
    generalize W6.setCell ⟨be, 0, none⟩ (.string ⟨#[99, 97, 108, 108]⟩) = W7 at E7 R7 F7 ⊢
    refine (glist_one HS.out HK.out HL.out hN W7 (d + 1) m _ ⟨#[41]⟩ (in_ok hd) hm (by decide) (by decide) R7.out rl H1.out).mono ?_
    rintro e W8 ⟨hf8, hr8, a8, l8, c8, rfl, hrow⟩
    have R8 : Hid (RSd K N W8 br bl (stX rl) (d + 1)) := hr8
    have F8 : Hid (Fr (fun k => k ≠ br ∧ k ≠ be) w W8) := F7.out.trans hf8.wide
    have E8 : Hid (XBlk W8 be ⟨#[99, 97, 108, 108]⟩ a0 nm 0 0 ⟨#[]⟩ none 0 0) := E7.out.of hf8 hbe
    have W8R : Hid (∀ l j, rl = .ok (l, j) → RowP (fun k => W7.heap.size ≤ k) W8 (TreeT (fun k => W7.heap.size ≤ k) W8) a8 l8 l) := hrow
    have hz7 := F7.out.size
    have hb7 : be < W7.heap.size := block_lt E7.out
    clear hf8 hr8 hrow R7 F7 E7
    have x8 := block_cell E8.out 8
    have g8 := frozen_block E8.out 8
    have hfk : Fr (· ≠ be) W8 (W8.setCell ⟨be, 8, none⟩ (.slice a8 l8 c8)) := (Fr.refl _ W8).set (by simp) _
    have R9 : Hid (RSd K N (W8.setCell ⟨be, 8, none⟩ (.slice a8 l8 c8)) br bl (stX rl) (d + 1)) := R8.out.fr hfk (Ne.symm hbe) (Ne.symm hbl0)
    have F9 : Hid (Fr (fun k => k ≠ br ∧ k ≠ be) w (W8.setCell ⟨be, 8, none⟩ (.slice a8 l8 c8))) := F8.out.trans (hfk.mono fun _ q => q.2)
    have T9 : Hid (∀ x j, r = .ok (x, j) → TreeT (fun k => k = be ∨ w.heap.size ≤ k) (W8.setCell ⟨be, 8, none⟩ (.slice a8 l8 c8)) x (.pointer (some ⟨be, 0, none⟩))) := fun x j e => by
      have o : OkS (stX rl) := by rw [← HQ.out.1]; exact ok_of e
      obtain ⟨j1, e1⟩ := ok_val [] o
      rw [HQ.out.2 x j e]
      exact kids_tree E8.out hb7 hz7 (W8R.out _ _ e1) (.inr (.inr (.inr (.inl ⟨rfl, by rw [HNV2.out]⟩))))
    clear hfk
    go_wp2_with fail
    clear x8 g8 R8 F8 E8 W8R
    generalize W8.setCell ⟨be, 8, none⟩ (.slice a8 l8 c8) = W9 at R9 F9 T9 ⊢
    refine (gout_d W9 br bl _ d hd R9.out).mono ?_
    rintro e WA ⟨rfl, hrA, hfA⟩
    have RA : Hid (RSd K N WA br bl (stX rl) d) := hrA
    have FA : Hid (Fr (fun k => k ≠ br ∧ k ≠ be) w WA) := F9.out.trans hfA.wide
    have TA : Hid (∀ x j, r = .ok (x, j) → TreeT (fun k => k = be ∨ w.heap.size ≤ k) WA x (.pointer (some ⟨be, 0, none⟩))) := fun x j e => (T9.out x j e).fr (hfA.mono fun k q => by omega) fun _ _ q => q
    clear hrA hfA R9 F9 T9
    go_wp2_with fail
    go_ret
    exact ⟨FA.out, by rw [HQ.out.1]; exact RA.out, rfl, TA.out⟩
  · -- a primed name
    rw [hj] at R5
    have hjN : j < N := HL.out.lt R5.out.le (m := [39]) (by rw [hjt]; rfl) (by decide)
    have HNV2 : Hid (nm.data.toList = valX [] rn) := HNV.out ⟨j, hj⟩
    subst hc
    clear hj hjt HN3 HNV
    obtain ⟨e1, f1⟩ := R5.out.block
    have x0 := block_cell E5.out 0
    have g0 := frozen_block E5.out 0
    go_wp2_with fail
    go_ret
    have hfs : Fr (· ≠ be) (W5.setCell ⟨br, 1, none⟩ (.int .i64 ((j : Int) + 1))) ((W5.setCell ⟨br, 1, none⟩ (.int .i64 ((j : Int) + 1))).setCell ⟨be, 0, none⟩ (.string ⟨#[112, 114, 105, 109, 101]⟩)) := (Fr.refl _ _).set (by simp) _
    have hE : XBlk (W5.setCell ⟨br, 1, none⟩ (.int .i64 ((j : Int) + 1))) be ⟨#[110, 97, 109, 101]⟩ a0 nm 0 0 ⟨#[]⟩ none 0 0 := E5.out.of (P := (· ≠ br)) ((Fr.refl _ W5).set (by simp) _) hbe
    exact ⟨(F5.out.set (by simp) _).set (by simp) _, (R5.out.next hjN).fr hfs (Ne.symm hbe) (Ne.symm hbl0), rfl, fun x j e => by simp at e; rw [← e.1]; exact TreeT.leaf (hE.op ⟨#[112, 114, 105, 109, 101]⟩) (.inl rfl) (.inr (.inr (.inl ⟨rfl, by rw [HNV2.out]⟩)))⟩
  · -- a name
    have HST : Hid (stX r = stX rn ∧ ∀ y j, r = .ok (y, j) → y = dLeaf (valX [] rn)) := ⟨hst, hvl⟩
    clear hst hvl HN3
    go_wp2_with fail
    go_ret
    exact ⟨F5.out, by rw [HST.out.1]; exact R5.out, rfl, fun x j e => by rw [HST.out.2 x j e]; exact TreeT.leaf E5.out (.inl rfl) (.inr (.inl ⟨rfl, by rw [HNV.out (by rw [← HST.out.1]; exact ok_of e)]⟩))⟩
/-- what begins with a word -/
theorem gnamed_any {K : Nat → Tk} {N br bl : Nat} {self : Nat → Nat → Nat → RX PX} (hS : SelfR K N br bl self) (hK : ∀ i, TkOK (K i)) (hL : Last K N) (hN : N ≤ 1000000) (w : World) (be d m i : Nat) (a0 : Int) (hd : d ≤ 24) (hm : m ≤ 1000000) (hbe : be ≠ br) (hbl0 : be ≠ bl) (h : RSd K N w br bl (.ok i) d) (he : XBlk w be ⟨#[]⟩ a0 ⟨#[]⟩ 0 0 ⟨#[]⟩ none 0 0)
    (hk : (K i).cl = 1) (r : Except (Nat × Nat) (PX × Nat)) (hr : wordX K self m d i = some r) :
    Calls Tryz.prog 253 #[.pointer (some ⟨br, 0, none⟩), .pointer (some ⟨be, 0, none⟩)] w (PostX K N w br bl be d r) := by
  cases e3 : fixed3.contains (K i).tx with
  | true =>
    simp only [fixed3, List.contains_cons, List.contains_nil, Bool.or_eq_true, Bool.or_false, beq_iff_eq] at e3
    rcases e3 with e | e | e
    · exact gnamed_nil hK hL hN w be d m i a0 hbe hbl0 h he e r hr
    · exact gnamed_true hK hL hN w be d m i a0 hbe hbl0 h he e r hr
    · exact gnamed_false hK hL hN w be d m i a0 hbe hbl0 h he e r hr
  | false =>
    cases e7 : called7.contains (K i).tx with
    | true => exact gnamed_called hS hK hL hN w be d m i a0 hd hm hbe hbl0 h he (by simpa using e7) r hr
    | false => exact gnamed_name hS hK hL hN w be d m i a0 hd hm hbe hbl0 h he hk e3 e7 r hr
end Go.Proofs.YtjbekejcghjhbaaGreatDoor.Sx

namespace Go.Proofs.YtjbekejcghjhbaaGreatDoor.Sx
open Go.RowKit Go.Sort

theorem PostX.post {K : Nat → Tk} {N br bl be d : Nat} {w w2 w' : World} {r : Except (Nat × Nat) (PX × Nat)} {e : Ending} (F : Fr (· ≠ br) w w2) (hbe : w.heap.size ≤ be) (h : PostX K N w2 br bl be d r e w') : PostT K N w br bl d r e w' := by
  obtain ⟨h1, h2, h3, h4⟩ := h
  have := F.size
  exact ⟨Fr.freshT F h1 hbe, h2, be, h3, fun x j q => (h4 x j q).fr (Fr.refl _ _) fun k _ q => by omega⟩

set_option maxRecDepth 100000 in
set_option maxHeartbeats 2000000 in
theorem gfirst_fault {K : Nat → Tk} {N br bl : Nat} (w : World) (d : Nat) (q : Nat × Nat) (h : RSd K N w br bl (.error q) d) :
    Calls Tryz.prog 158 #[.pointer (some ⟨br, 0, none⟩)] w (PostT K N w br bl d (.error q)) := by
  have HR : Hid (RSd K N w br bl (.error q) d) := h
  obtain ⟨dd, h, -⟩ := h
  obtain ⟨cap, i, bad, hb, hI, hne, hbl, t0, t1, t2, -⟩ := h.open
  obtain ⟨hdr, u0, u1, u2⟩ := RS.cells hb hbl t0 t1 t2
  have c0 := block_cell hb 0
  have c1 := block_cell hb 1
  have k0 := block_cell hdr 0
  have k1 := block_cell hdr 1
  have hbr := block_lt hb
  have hI1 : (i : Int) < ((N + 1 : Nat) : Int) := by omega
  have mo := follows
  obtain ⟨sb, hsb⟩ : ∃ sb, sortB (K i).cl = sb := ⟨_, rfl⟩
  obtain ⟨tx, htx⟩ : ∃ tx, tokB (K i) = tx := ⟨_, rfl⟩
  obtain ⟨aa, haa⟩ : ∃ aa, (K i).at' = aa := ⟨_, rfl⟩
  rw [hsb] at t0 u0
  rw [htx] at t1 u1
  rw [haa] at t2 u2
  clear hb hdr h hsb htx haa
  go_enter Tryz.func158, Tryz.ntmps158
  go_wp2_with fail
  go_big_region_o
  have T1 : Hid (TBlk _ w.heap.size sb tx (aa : Int)) := TBlk.new w sb tx (aa : Int)
  have G1 : Hid (Grew w (w.alloc (.cells #[.int .u8 (sb : Int), .string tx, .int .i64 (aa : Int)] 106)).drew) := ((Grew.refl w).alloc _).drew
  clear c0 c1 k0 k1 u0 u1 u2 t0 t1 t2 hI1
  generalize (w.alloc (.cells #[.int .u8 (sb : Int), .string tx, .int .i64 (aa : Int)] 106)).drew = W1 at G1 T1 ⊢
  obtain ⟨bt, hbt⟩ : ∃ bt, w.heap.size = bt := ⟨_, rfl⟩
  rw [hbt] at T1 hbr ⊢
  clear hbt
  have q0 := block_cell T1.out 0
  have q1 := block_cell T1.out 1
  have q2 := block_cell T1.out 2
  have G2 : Hid (Grew w (W1.alloc (.cells #[.string ⟨#[]⟩, .int .i64 (aa : Int), .string ⟨#[]⟩, .int .i64 0, .int .i64 0, .string ⟨#[]⟩, .slice none 0 0, .slice none 0 0, .slice none 0 0, .int .i64 0, .int .i64 0] 165))) := G1.out.alloc _
  have R2 : Hid (RSd K N (W1.alloc (.cells #[.string ⟨#[]⟩, .int .i64 (aa : Int), .string ⟨#[]⟩, .int .i64 0, .int .i64 0, .string ⟨#[]⟩, .slice none 0 0, .slice none 0 0, .slice none 0 0, .int .i64 0, .int .i64 0] 165)) br bl (.error q) d) := HR.out.grew G2.out
  obtain ⟨e3, hf⟩ := R2.out.err
  obtain ⟨c, p⟩ := q
  have hc : ((c : Int) == 0) = false := hf c p rfl
  have e3' : World.cell? (W1.alloc (.cells #[.string ⟨#[]⟩, .int .i64 (aa : Int), .string ⟨#[]⟩, .int .i64 0, .int .i64 0, .string ⟨#[]⟩, .slice none 0 0, .slice none 0 0, .slice none 0 0, .int .i64 0, .int .i64 0] 165)) ⟨br, 3, none⟩ = some (.int .i64 (c : Int)) := e3
  clear hf e3
  go_wp2_with fail
  go_ret
  exact ⟨Fr.grew G2.out, R2.out, _, rfl, fun x j e => by simp at e⟩
set_option maxRecDepth 100000 in
set_option maxHeartbeats 2000000 in
theorem gfirst_word {K : Nat → Tk} {N br bl : Nat} {self : Nat → Nat → Nat → RX PX} (hS : SelfR K N br bl self) (hK : ∀ i, TkOK (K i)) (hL : Last K N) (hN : N ≤ 1000000) (w : World) (d m i : Nat) (hd : d ≤ 24) (hm : m ≤ 1000000) (h : RSd K N w br bl (.ok i) d)
    (hk : (K i).cl = 1) (r : Except (Nat × Nat) (PX × Nat)) (hr : wordX K self m d i = some r) :
    Calls Tryz.prog 158 #[.pointer (some ⟨br, 0, none⟩)] w (PostT K N w br bl d r) := by
  have HW : Hid (wordX K self m d i = some r) := hr
  have HK1 : Hid ((K i).cl = 1) := hk
  have HS : Hid (SelfR K N br bl self) := hS
  have HK : Hid (∀ i, TkOK (K i)) := hK
  have HL : Hid (Last K N) := hL
  have HR : Hid (RSd K N w br bl (.ok i) d) := h
  obtain ⟨cap, bad, dd, hb, hI, hne, hbl, t0, t1, t2⟩ := h.open
  obtain ⟨hdr, u0, u1, u2⟩ := RS.cells hb hbl t0 t1 t2
  have c0 := block_cell hb 0
  have c1 := block_cell hb 1
  have k0 := block_cell hdr 0
  have k1 := block_cell hdr 1
  have hbr := block_lt hb
  have hI1 : (i : Int) < ((N + 1 : Nat) : Int) := by omega
  have mo := follows
  have hsb : sortB (K i).cl = 119 := by rw [hk]; rfl
  obtain ⟨tx, htx⟩ : ∃ tx, tokB (K i) = tx := ⟨_, rfl⟩
  obtain ⟨aa, haa⟩ : ∃ aa, (K i).at' = aa := ⟨_, rfl⟩
  have HTX : Hid (tokB (K i) = tx) := htx
  have HAA : Hid ((K i).at' = aa) := haa
  rw [hsb] at t0 u0
  rw [htx] at t1 u1
  rw [haa] at t2 u2
  clear hk hr
  clear hb hdr h hS hK hL hsb htx haa
  go_enter Tryz.func158, Tryz.ntmps158
  go_wp2_with fail
  go_big_region_o
  have T1 : Hid (TBlk _ w.heap.size 119 tx (aa : Int)) := TBlk.new w 119 tx (aa : Int)
  have G1 : Hid (Grew w (w.alloc (.cells #[.int .u8 119, .string tx, .int .i64 (aa : Int)] 106)).drew) := ((Grew.refl w).alloc _).drew
  clear c0 c1 k0 k1 u0 u1 u2 t0 t1 t2 hI1
  generalize (w.alloc (.cells #[.int .u8 119, .string tx, .int .i64 (aa : Int)] 106)).drew = W1 at G1 T1 ⊢
  obtain ⟨bt, hbt⟩ : ∃ bt, w.heap.size = bt := ⟨_, rfl⟩
  rw [hbt] at T1 hbr ⊢
  have hwt : w.heap.size ≤ bt := by omega
  have htw : bt ≤ w.heap.size := by omega
  clear hbt
  have q0 := block_cell T1.out 0
  have q1 := block_cell T1.out 1
  have q2 := block_cell T1.out 2
  have E2 : Hid (XBlk (W1.alloc (.cells #[.string ⟨#[]⟩, .int .i64 (aa : Int), .string ⟨#[]⟩, .int .i64 0, .int .i64 0, .string ⟨#[]⟩, .slice none 0 0, .slice none 0 0, .slice none 0 0, .int .i64 0, .int .i64 0] 165)) W1.heap.size ⟨#[]⟩ (aa : Int) ⟨#[]⟩ 0 0 ⟨#[]⟩ none 0 0) := XBlk.new W1 ⟨#[]⟩ ⟨#[]⟩ ⟨#[]⟩ (aa : Int) 0 0
  have G2 : Hid (Grew w (W1.alloc (.cells #[.string ⟨#[]⟩, .int .i64 (aa : Int), .string ⟨#[]⟩, .int .i64 0, .int .i64 0, .string ⟨#[]⟩, .slice none 0 0, .slice none 0 0, .slice none 0 0, .int .i64 0, .int .i64 0] 165))) := G1.out.alloc _
  have T2 : Hid (TBlk (W1.alloc (.cells #[.string ⟨#[]⟩, .int .i64 (aa : Int), .string ⟨#[]⟩, .int .i64 0, .int .i64 0, .string ⟨#[]⟩, .slice none 0 0, .slice none 0 0, .slice none 0 0, .int .i64 0, .int .i64 0] 165)) bt 119 tx (aa : Int)) := T1.out.grew ((Grew.refl _).alloc _)
  have hbtl : bt < W1.heap.size := block_lt T1.out
  have hwW : w.heap.size ≤ W1.heap.size := G1.out.below.size
  have R2 : Hid (RSd K N (W1.alloc (.cells #[.string ⟨#[]⟩, .int .i64 (aa : Int), .string ⟨#[]⟩, .int .i64 0, .int .i64 0, .string ⟨#[]⟩, .slice none 0 0, .slice none 0 0, .slice none 0 0, .int .i64 0, .int .i64 0] 165)) br bl (.ok i) d) := HR.out.grew G2.out
  have e3 : World.cell? (W1.alloc (.cells #[.string ⟨#[]⟩, .int .i64 (aa : Int), .string ⟨#[]⟩, .int .i64 0, .int .i64 0, .string ⟨#[]⟩, .slice none 0 0, .slice none 0 0, .slice none 0 0, .int .i64 0, .int .i64 0] 165)) ⟨br, 3, none⟩ = some (.int .i64 0) := R2.out.err.1
  have p0 := block_cell T2.out 0
  have p1 := block_cell T2.out 1
  have p2 := block_cell T2.out 2
  go_wp2_with fail
  clear q0 q1 q2 p0 p1 p2 e3 T1 G1
  generalize (W1.alloc (.cells #[.string ⟨#[]⟩, .int .i64 (aa : Int), .string ⟨#[]⟩, .int .i64 0, .int .i64 0, .string ⟨#[]⟩, .slice none 0 0, .slice none 0 0, .slice none 0 0, .int .i64 0, .int .i64 0] 165)) = W2 at E2 G2 T2 R2 ⊢
  obtain ⟨be, hbe⟩ : ∃ be, W1.heap.size = be := ⟨_, rfl⟩
  rw [hbe] at E2 hbtl hwW ⊢
  clear hbe
  have hber : be ≠ br := by omega
  have hblw : bl < w.heap.size := hbl
  have hbel : be ≠ bl := by omega
  refine (gnamed_any HS.out HK.out HL.out hN W2 be d m i (aa : Int) hd hm hber hbel R2.out E2.out HK1.out r HW.out).mono ?_
  rintro e W3 hp
  have HP : Hid (PostT K N w br bl d r e W3) := PostX.post (Fr.grew G2.out) hwW hp
  obtain ⟨-, -, rfl, -⟩ := hp
  clear R2 E2 G2 T2
  go_wp2_with fail
  go_ret
  exact HP.out
end Go.Proofs.YtjbekejcghjhbaaGreatDoor.Sx

namespace Go.Proofs.YtjbekejcghjhbaaGreatDoor.Sx
open Go.RowKit Go.Sort

def valU (w : World) (b : Nat) (k n : Int) (tx : ByteArray) : World := ((((w.setCell ⟨b, 3, none⟩ (.int .i64 k)).setCell ⟨b, 4, none⟩ (.int .i64 n)).setCell ⟨b, 5, none⟩ (.string tx)).setCell ⟨b, 6, none⟩ (.slice none 0 0)).setCell ⟨b, 7, none⟩ (.slice none 0 0)
theorem XBlk.valU {w : World} {b : Nat} {op nm tx : ByteArray} {a k n : Int} {pa : Option Addr} {len cap : Nat} (h : XBlk w b op a nm k n tx pa len cap) (k' m : Int) (ty : ByteArray) : XBlk (valU w b k' m ty) b op a nm k' m ty pa len cap := by
  have := set_block (set_block (set_block (set_block (set_block h 3 (.int .i64 k')) 4 (.int .i64 m)) 5 (.string ty)) 6 (.slice none 0 0)) 7 (.slice none 0 0)
  simpa [XBlk, Sx.valU] using this
theorem Fr.valU {P : Nat → Prop} {a w : World} {b : Nat} (h : Fr P a w) (hp : ¬ P b) (k m : Int) (ty : ByteArray) : Fr P a (valU w b k m ty) := ((((h.set (p := ⟨b, 3, none⟩) hp _).set (p := ⟨b, 4, none⟩) hp _).set (p := ⟨b, 5, none⟩) hp _).set (p := ⟨b, 6, none⟩) hp _).set (p := ⟨b, 7, none⟩) hp _

set_option maxRecDepth 100000 in
set_option maxHeartbeats 2000000 in
theorem gfirst_text {K : Nat → Tk} {N br bl : Nat} (hK : ∀ i, TkOK (K i)) (hL : Last K N) (hN : N ≤ 1000000) (w : World) (d i : Nat) (h : RSd K N w br bl (.ok i) d)
    (hk : (K i).cl = 3) (hz : (K i).tx.length ≤ 4000) :
    Calls Tryz.prog 158 #[.pointer (some ⟨br, 0, none⟩)] w (PostT K N w br bl d (.ok (dTxt (((K i).tx.take ((K i).tx.length - 1)).drop 1), i + 1))) := by
  have hiN : i < N := hL.lt_cl h.le (.inr (.inr hk))
  have hl2 := (hK i).two hk
  have HK : Hid (∀ i, TkOK (K i)) := hK
  have HL : Hid (Last K N) := hL
  have HR : Hid (RSd K N w br bl (.ok i) d) := h
  obtain ⟨cap, bad, dd, hb, hI, hne, hbl, t0, t1, t2⟩ := h.open
  obtain ⟨hdr, u0, u1, u2⟩ := RS.cells hb hbl t0 t1 t2
  have c0 := block_cell hb 0
  have c1 := block_cell hb 1
  have k0 := block_cell hdr 0
  have k1 := block_cell hdr 1
  have hbr := block_lt hb
  have hI1 : (i : Int) < ((N + 1 : Nat) : Int) := by omega
  have mo := follows
  have hsb : sortB (K i).cl = 34 := by rw [hk]; rfl
  obtain ⟨tx, htx⟩ : ∃ tx, tokB (K i) = tx := ⟨_, rfl⟩
  obtain ⟨aa, haa⟩ : ∃ aa, (K i).at' = aa := ⟨_, rfl⟩
  have HTX : Hid (tokB (K i) = tx) := htx
  have HAA : Hid ((K i).at' = aa) := haa
  rw [hsb] at t0 u0
  rw [htx] at t1 u1
  rw [haa] at t2 u2
  have hkt : tx.data.toList = (K i).tx := by rw [← htx]; exact tokB_list _ (by omega)
  have hsz : tx.size = (K i).tx.length := by rw [← hkt]; simp
  have hn1 : ((tx.size : Int) - 1).toNat = tx.size - 1 := by omega
  have hn2 : (1 : Int) ≤ (tx.size : Int) - 1 := by omega
  have hn3 : (tx.size : Int) - 1 ≤ (tx.size : Int) := by omega
  have hs4 : tx.size ≤ 4000 := by omega
  have HQ : Hid ((((K i).tx.take ((K i).tx.length - 1)).drop 1) = (tx.extract 1 (tx.size - 1)).data.toList) := by rw [hsz, ← hkt]; exact (extract_list _ _ _).symm
  clear hkt hsz hl2 hz hk
  clear hb hdr h hK hL hsb htx haa
  go_enter Tryz.func158, Tryz.ntmps158
  go_wp2_with fail
  go_big_region_o
  have T1 : Hid (TBlk _ w.heap.size 34 tx (aa : Int)) := TBlk.new w 34 tx (aa : Int)
  have G1 : Hid (Grew w (w.alloc (.cells #[.int .u8 34, .string tx, .int .i64 (aa : Int)] 106)).drew) := ((Grew.refl w).alloc _).drew
  clear c0 c1 k0 k1 u0 u1 u2 t0 t1 t2 hI1
  generalize (w.alloc (.cells #[.int .u8 34, .string tx, .int .i64 (aa : Int)] 106)).drew = W1 at G1 T1 ⊢
  obtain ⟨bt, hbt⟩ : ∃ bt, w.heap.size = bt := ⟨_, rfl⟩
  rw [hbt] at T1 hbr ⊢
  have hwt : w.heap.size ≤ bt := by omega
  have htw : bt ≤ w.heap.size := by omega
  clear hbt
  have q0 := block_cell T1.out 0
  have q1 := block_cell T1.out 1
  have q2 := block_cell T1.out 2
  have E2 : Hid (XBlk (W1.alloc (.cells #[.string ⟨#[]⟩, .int .i64 (aa : Int), .string ⟨#[]⟩, .int .i64 0, .int .i64 0, .string ⟨#[]⟩, .slice none 0 0, .slice none 0 0, .slice none 0 0, .int .i64 0, .int .i64 0] 165)) W1.heap.size ⟨#[]⟩ (aa : Int) ⟨#[]⟩ 0 0 ⟨#[]⟩ none 0 0) := XBlk.new W1 ⟨#[]⟩ ⟨#[]⟩ ⟨#[]⟩ (aa : Int) 0 0
  have G2 : Hid (Grew w (W1.alloc (.cells #[.string ⟨#[]⟩, .int .i64 (aa : Int), .string ⟨#[]⟩, .int .i64 0, .int .i64 0, .string ⟨#[]⟩, .slice none 0 0, .slice none 0 0, .slice none 0 0, .int .i64 0, .int .i64 0] 165))) := G1.out.alloc _
  have T2 : Hid (TBlk (W1.alloc (.cells #[.string ⟨#[]⟩, .int .i64 (aa : Int), .string ⟨#[]⟩, .int .i64 0, .int .i64 0, .string ⟨#[]⟩, .slice none 0 0, .slice none 0 0, .slice none 0 0, .int .i64 0, .int .i64 0] 165)) bt 34 tx (aa : Int)) := T1.out.grew ((Grew.refl _).alloc _)
  have hbtl : bt < W1.heap.size := block_lt T1.out
  have hwW : w.heap.size ≤ W1.heap.size := G1.out.below.size
  have R2 : Hid (RSd K N (W1.alloc (.cells #[.string ⟨#[]⟩, .int .i64 (aa : Int), .string ⟨#[]⟩, .int .i64 0, .int .i64 0, .string ⟨#[]⟩, .slice none 0 0, .slice none 0 0, .slice none 0 0, .int .i64 0, .int .i64 0] 165)) br bl (.ok i) d) := HR.out.grew G2.out
  have e3 : World.cell? (W1.alloc (.cells #[.string ⟨#[]⟩, .int .i64 (aa : Int), .string ⟨#[]⟩, .int .i64 0, .int .i64 0, .string ⟨#[]⟩, .slice none 0 0, .slice none 0 0, .slice none 0 0, .int .i64 0, .int .i64 0] 165)) ⟨br, 3, none⟩ = some (.int .i64 0) := R2.out.err.1
  have p0 := block_cell T2.out 0
  have p1 := block_cell T2.out 1
  have p2 := block_cell T2.out 2
  obtain ⟨e1, f1⟩ := R2.out.block
  have n1 : W1.heap.size ≠ br := by omega
  have n2 : bt ≠ br := by omega
  have n3 : bt ≠ W1.heap.size := by omega
  have x0 := block_cell E2.out 0
  have y0 := frozen_block E2.out 0
  have x3 := block_cell E2.out 3
  have y3 := frozen_block E2.out 3
  have x4 := block_cell E2.out 4
  have y4 := frozen_block E2.out 4
  have x5 := block_cell E2.out 5
  have y5 := frozen_block E2.out 5
  have x6 := block_cell E2.out 6
  have y6 := frozen_block E2.out 6
  have x7 := block_cell E2.out 7
  have y7 := frozen_block E2.out 7
  go_wp2_with fail
  go_ret
  have hfs : Fr (· ≠ W1.heap.size) ((W1.alloc (.cells #[.string ⟨#[]⟩, .int .i64 (aa : Int), .string ⟨#[]⟩, .int .i64 0, .int .i64 0, .string ⟨#[]⟩, .slice none 0 0, .slice none 0 0, .slice none 0 0, .int .i64 0, .int .i64 0] 165)).setCell ⟨br, 1, none⟩ (.int .i64 ((i : Int) + 1))) (valU (((W1.alloc (.cells #[.string ⟨#[]⟩, .int .i64 (aa : Int), .string ⟨#[]⟩, .int .i64 0, .int .i64 0, .string ⟨#[]⟩, .slice none 0 0, .slice none 0 0, .slice none 0 0, .int .i64 0, .int .i64 0] 165)).setCell ⟨br, 1, none⟩ (.int .i64 ((i : Int) + 1))).setCell ⟨W1.heap.size, 0, none⟩ (.string ⟨#[118, 97, 108, 117, 101]⟩)) W1.heap.size 3 0 (tx.extract 1 (tx.size - 1))) := ((Fr.refl _ _).set (by simp) _).valU (by simp) _ _ _
  have hE : XBlk ((W1.alloc (.cells #[.string ⟨#[]⟩, .int .i64 (aa : Int), .string ⟨#[]⟩, .int .i64 0, .int .i64 0, .string ⟨#[]⟩, .slice none 0 0, .slice none 0 0, .slice none 0 0, .int .i64 0, .int .i64 0] 165)).setCell ⟨br, 1, none⟩ (.int .i64 ((i : Int) + 1))) W1.heap.size ⟨#[]⟩ (aa : Int) ⟨#[]⟩ 0 0 ⟨#[]⟩ none 0 0 := E2.out.of (P := (· ≠ br)) ((Fr.refl _ _).set (by simp) _) n1
  exact ⟨Fr.freshT ((Fr.grew G2.out).set (by simp) _) (hfs.mono fun _ q => q.2) hwW, (R2.out.next hiN).fr hfs n1.symm (by omega), W1.heap.size, rfl, fun x j e => by rw [← (Prod.mk.inj (Except.ok.inj e)).1, HQ.out]; exact TreeT.leaf ((hE.op ⟨#[118, 97, 108, 117, 101]⟩).valU 3 0 _) hwW (.inl ⟨rfl, .inr (.inr (.inr (.inr ⟨rfl, rfl⟩)))⟩)⟩
end Go.Proofs.YtjbekejcghjhbaaGreatDoor.Sx

namespace Go.Proofs.YtjbekejcghjhbaaGreatDoor.Sx
open Go.RowKit Go.Sort

set_option maxRecDepth 100000 in
theorem numberT_any (n : Int) (w : World) : Calls Tryz.prog 86 #[.int .i64 n] w fun e w' => e = .returned (.agg #[.int .i64 2, .int .i64 n, .string ⟨#[]⟩, .slice none 0 0, .slice none 0 0]) ∧ Grew w w' := by
  go_enter Tryz.func86, Tryz.ntmps86
  go_wp2_with fail
  refine bodyPost_ret (v := .agg #[.int .i64 2, .int .i64 n, .string ⟨#[]⟩, .slice none 0 0, .slice none 0 0]) (by simp [results, Tryz.results86, go_sem]) rfl ?_
  exact ⟨rfl, (Grew.refl w).alloc _⟩
set_option maxRecDepth 100000 in
theorem gFail_ok {K : Nat → Tk} {N : Nat} (w : World) (br bl i d : Nat) (c p : Nat) (h : RSd K N w br bl (.ok i) d) :
    Calls Tryz.prog 59 #[.pointer (some ⟨br, 0, none⟩), .int .i64 (c : Int), .int .i64 (p : Int)] w fun e w' => e = .returned (.tuple #[]) ∧ w' = (w.setCell ⟨br, 3, none⟩ (.int .i64 (c : Int))).setCell ⟨br, 4, none⟩ (.int .i64 (p : Int)) := by
  obtain ⟨cap, bad, dd, hb, -⟩ := h.open
  have c3 := block_cell hb 3
  have f3 := frozen_block hb 3
  have c4 := block_cell hb 4
  have f4 := frozen_block hb 4
  clear hb
  go_enter Tryz.func59, Tryz.ntmps59
  go_wp2_with fail
  go_end0
  exact ⟨rfl, rfl⟩
theorem RSd.failed {K : Nat → Tk} {N br bl i d c p : Nat} {w : World} (h : RSd K N w br bl (.ok i) d) (hi : i < N) (hc : c ≠ 0) : RSd K N (((w.setCell ⟨br, 3, none⟩ (.int .i64 (c : Int))).setCell ⟨br, 4, none⟩ (.int .i64 (p : Int))).setCell ⟨br, 1, none⟩ (.int .i64 ((i : Int) + 1))) br bl (.error (c, p)) d := by
  obtain ⟨dd, ⟨cap, I, bad, hb, hI, hne, hT, hs⟩, e⟩ := h
  obtain rfl : I = i := hs
  have hF : Fr (· ≠ br) w (((w.setCell ⟨br, 3, none⟩ (.int .i64 (c : Int))).setCell ⟨br, 4, none⟩ (.int .i64 (p : Int))).setCell ⟨br, 1, none⟩ (.int .i64 ((I : Int) + 1))) := (((Fr.refl _ w).set (by simp) _).set (by simp) _).set (by simp) _
  have hB : RBlk ((w.setCell ⟨br, 3, none⟩ (.int .i64 (c : Int))).setCell ⟨br, 4, none⟩ (.int .i64 (p : Int))) br bl N cap I dd (c : Int) (p : Int) := by
    have := set_block (set_block hb 3 (.int .i64 (c : Int))) 4 (.int .i64 (p : Int))
    simpa [RBlk, ec] using this
  exact ⟨dd, ⟨cap, I + 1, (p : Int), hB.setI (I + 1), hi, hne, hT.of hF hne, hc, rfl⟩, fun o => by obtain ⟨j, hj⟩ := o; simp at hj⟩

set_option maxRecDepth 100000 in
set_option maxHeartbeats 2000000 in
theorem gfirst_num {K : Nat → Tk} {N br bl : Nat} (hK : ∀ i, TkOK (K i)) (hL : Last K N) (hN : N ≤ 1000000) (w : World) (d i : Nat) (h : RSd K N w br bl (.ok i) d)
    (hk : (K i).cl = 2) (hz : (K i).tx.length ≤ 4000) (hdig : ∀ c ∈ (K i).tx, isDigit c = true) (hp : Lib.parseIntB 64 (K i).tx = if valD 0 (K i).tx < 9223372036854775808 then .ok (valD 0 (K i).tx : Int) else .range)
    (r : Except (Nat × Nat) (PX × Nat)) (hr : (match Lib.parseIntB 64 (K i).tx with | .ok v => okX (dLeaf (Lib.itoa v)) (i + 1) | _ => errX 5 (K i).at') = some r) :
    Calls Tryz.prog 158 #[.pointer (some ⟨br, 0, none⟩)] w (PostT K N w br bl d r) := by
  have hiN : i < N := hL.lt_cl h.le (.inr (.inl hk))
  have HK : Hid (∀ i, TkOK (K i)) := hK
  have HL : Hid (Last K N) := hL
  have HR : Hid (RSd K N w br bl (.ok i) d) := h
  obtain ⟨cap, bad, dd, hb, hI, hne, hbl, t0, t1, t2⟩ := h.open
  obtain ⟨hdr, u0, u1, u2⟩ := RS.cells hb hbl t0 t1 t2
  have c0 := block_cell hb 0
  have c1 := block_cell hb 1
  have k0 := block_cell hdr 0
  have k1 := block_cell hdr 1
  have hbr := block_lt hb
  have hI1 : (i : Int) < ((N + 1 : Nat) : Int) := by omega
  have mo := follows
  have hsb : sortB (K i).cl = 48 := by rw [hk]; rfl
  obtain ⟨tx, htx⟩ : ∃ tx, tokB (K i) = tx := ⟨_, rfl⟩
  obtain ⟨aa, haa⟩ : ∃ aa, (K i).at' = aa := ⟨_, rfl⟩
  have HTX : Hid (tokB (K i) = tx) := htx
  have HAA : Hid ((K i).at' = aa) := haa
  rw [hsb] at t0 u0
  rw [htx] at t1 u1
  rw [haa] at t2 u2
  have hkt : tx.data.toList = (K i).tx := by rw [← htx]; exact tokB_list _ (by omega)
  have hsz : tx.size = (K i).tx.length := by rw [← hkt]; simp
  rw [← hkt] at hdig hp hr
  have HSZ : Hid (∀ W : World, Calls _ _ _ _ _) := fun W => size_any tx W (by omega) hdig
  obtain ⟨V, hV⟩ : ∃ V, valD 0 tx.data.toList = V := ⟨_, rfl⟩
  rw [hV] at HSZ hp
  have HR2 : Hid ((V < 9223372036854775808 → r = .ok (dLeaf (Lib.itoa V), i + 1)) ∧ (¬ V < 9223372036854775808 → r = .error (5, aa))) := ⟨fun hlt => by rw [hp, if_pos hlt] at hr; simpa [okX] using hr.symm, fun hlt => by rw [hp, if_neg hlt, haa] at hr; simpa [errX] using hr.symm⟩
  clear hV hkt hsz hz hk hdig hp hr
  clear hb hdr h hK hL hsb htx haa
  go_enter Tryz.func158, Tryz.ntmps158
  go_wp2_with fail
  go_big_region_o
  have T1 : Hid (TBlk _ w.heap.size 48 tx (aa : Int)) := TBlk.new w 48 tx (aa : Int)
  have G1 : Hid (Grew w (w.alloc (.cells #[.int .u8 48, .string tx, .int .i64 (aa : Int)] 106)).drew) := ((Grew.refl w).alloc _).drew
  clear c0 c1 k0 k1 u0 u1 u2 t0 t1 t2 hI1
  generalize (w.alloc (.cells #[.int .u8 48, .string tx, .int .i64 (aa : Int)] 106)).drew = W1 at G1 T1 ⊢
  obtain ⟨bt, hbt⟩ : ∃ bt, w.heap.size = bt := ⟨_, rfl⟩
  rw [hbt] at T1 hbr ⊢
  have hwt : w.heap.size ≤ bt := by omega
  have htw : bt ≤ w.heap.size := by omega
  clear hbt
  have q0 := block_cell T1.out 0
  have q1 := block_cell T1.out 1
  have q2 := block_cell T1.out 2
  have E2 : Hid (XBlk (W1.alloc (.cells #[.string ⟨#[]⟩, .int .i64 (aa : Int), .string ⟨#[]⟩, .int .i64 0, .int .i64 0, .string ⟨#[]⟩, .slice none 0 0, .slice none 0 0, .slice none 0 0, .int .i64 0, .int .i64 0] 165)) W1.heap.size ⟨#[]⟩ (aa : Int) ⟨#[]⟩ 0 0 ⟨#[]⟩ none 0 0) := XBlk.new W1 ⟨#[]⟩ ⟨#[]⟩ ⟨#[]⟩ (aa : Int) 0 0
  have G2 : Hid (Grew w (W1.alloc (.cells #[.string ⟨#[]⟩, .int .i64 (aa : Int), .string ⟨#[]⟩, .int .i64 0, .int .i64 0, .string ⟨#[]⟩, .slice none 0 0, .slice none 0 0, .slice none 0 0, .int .i64 0, .int .i64 0] 165))) := G1.out.alloc _
  have T2 : Hid (TBlk (W1.alloc (.cells #[.string ⟨#[]⟩, .int .i64 (aa : Int), .string ⟨#[]⟩, .int .i64 0, .int .i64 0, .string ⟨#[]⟩, .slice none 0 0, .slice none 0 0, .slice none 0 0, .int .i64 0, .int .i64 0] 165)) bt 48 tx (aa : Int)) := T1.out.grew ((Grew.refl _).alloc _)
  have hbtl : bt < W1.heap.size := block_lt T1.out
  have hwW : w.heap.size ≤ W1.heap.size := G1.out.below.size
  have R2 : Hid (RSd K N (W1.alloc (.cells #[.string ⟨#[]⟩, .int .i64 (aa : Int), .string ⟨#[]⟩, .int .i64 0, .int .i64 0, .string ⟨#[]⟩, .slice none 0 0, .slice none 0 0, .slice none 0 0, .int .i64 0, .int .i64 0] 165)) br bl (.ok i) d) := HR.out.grew G2.out
  have e3 : World.cell? (W1.alloc (.cells #[.string ⟨#[]⟩, .int .i64 (aa : Int), .string ⟨#[]⟩, .int .i64 0, .int .i64 0, .string ⟨#[]⟩, .slice none 0 0, .slice none 0 0, .slice none 0 0, .int .i64 0, .int .i64 0] 165)) ⟨br, 3, none⟩ = some (.int .i64 0) := R2.out.err.1
  have p0 := block_cell T2.out 0
  have p1 := block_cell T2.out 1
  have p2 := block_cell T2.out 2
  go_wp2_with fail
  clear q0 q1 q2 p0 p1 p2 e3 T1 G1
  generalize (W1.alloc (.cells #[.string ⟨#[]⟩, .int .i64 (aa : Int), .string ⟨#[]⟩, .int .i64 0, .int .i64 0, .string ⟨#[]⟩, .slice none 0 0, .slice none 0 0, .slice none 0 0, .int .i64 0, .int .i64 0] 165)) = W2 at E2 G2 T2 R2 ⊢
  obtain ⟨be, hbe⟩ : ∃ be, W1.heap.size = be := ⟨_, rfl⟩
  rw [hbe] at E2 hbtl hwW ⊢
  clear hbe
  have hber : be ≠ br := by omega
  have hblw : bl < w.heap.size := hbl
  have hbel : be ≠ bl := by omega
  have hbtr : bt ≠ br := by omega
  have hbtb : bt ≠ be := by omega
  refine (HSZ.out W2).mono ?_
  rintro e W' ⟨rfl, hW'⟩
  rw [hW']
  clear hW'
  have x0 := block_cell E2.out 0
  have y0 := frozen_block E2.out 0
  obtain ⟨e1, f1⟩ := R2.out.block
  by_cases hlt : V < 9223372036854775808
  · rw [if_pos (by omega)]
    obtain rfl := HR2.out.1 hlt
    have hv1 : ((V : Int) == 9223372036854775808) = false := by simp; omega
    have hv2 : (0 : Int) ≤ (V : Int) := by omega
    have hv3 : (V : Int) < 9223372036854775808 := by omega
    have HT : Hid (∀ W : World, _) := fun W => numberT_any (V : Int) W
    have E3 : Hid (XBlk ((W2.setCell ⟨br, 1, none⟩ (.int .i64 ((i : Int) + 1))).setCell ⟨be, 0, none⟩ (.string ⟨#[118, 97, 108, 117, 101]⟩)) be ⟨#[118, 97, 108, 117, 101]⟩ (aa : Int) ⟨#[]⟩ 0 0 ⟨#[]⟩ none 0 0) := (E2.out.of (P := (· ≠ br)) ((Fr.refl _ W2).set (by simp) _) hber).op _
    have hfs : Fr (· ≠ be) (W2.setCell ⟨br, 1, none⟩ (.int .i64 ((i : Int) + 1))) ((W2.setCell ⟨br, 1, none⟩ (.int .i64 ((i : Int) + 1))).setCell ⟨be, 0, none⟩ (.string ⟨#[118, 97, 108, 117, 101]⟩)) := (Fr.refl _ _).set (by simp) _
    have R3 : Hid (RSd K N _ br bl (.ok (i + 1)) d) := (R2.out.next hiN).fr hfs (Ne.symm hber) (Ne.symm hbel)
    have F3 : Hid (Fr (· ≠ br) w ((W2.setCell ⟨br, 1, none⟩ (.int .i64 ((i : Int) + 1))).setCell ⟨be, 0, none⟩ (.string ⟨#[118, 97, 108, 117, 101]⟩))) := Fr.freshT ((Fr.grew G2.out).set (by simp) _) (hfs.mono fun _ q => q.2) hwW
    clear hfs
    go_wp2_with fail
    clear x0 y0 e1 f1 R2 E2 G2 T2
    generalize (W2.setCell ⟨br, 1, none⟩ (.int .i64 ((i : Int) + 1))).setCell ⟨be, 0, none⟩ (.string ⟨#[118, 97, 108, 117, 101]⟩) = W3 at E3 R3 F3 ⊢
    refine (HT.out W3).mono ?_
    rintro e W4 ⟨rfl, g4⟩
    have E4 : Hid (XBlk W4 be ⟨#[118, 97, 108, 117, 101]⟩ (aa : Int) ⟨#[]⟩ 0 0 ⟨#[]⟩ none 0 0) := E3.out.of (P := fun _ => True) (Fr.grew g4) trivial
    have R4 : Hid (RSd K N W4 br bl (.ok (i + 1)) d) := R3.out.grew g4
    have F4 : Hid (Fr (· ≠ br) w W4) := F3.out.trans (Fr.grew g4)
    clear g4 E3 R3 F3
    have x3 := block_cell E4.out 3
    have y3 := frozen_block E4.out 3
    have x4 := block_cell E4.out 4
    have y4 := frozen_block E4.out 4
    have x5 := block_cell E4.out 5
    have y5 := frozen_block E4.out 5
    have x6 := block_cell E4.out 6
    have y6 := frozen_block E4.out 6
    have x7 := block_cell E4.out 7
    have y7 := frozen_block E4.out 7
    go_wp2_with fail
    go_ret
    have hfv : Fr (· ≠ be) W4 (valU W4 be 2 (V : Int) ⟨#[]⟩) := (Fr.refl _ W4).valU (by simp) _ _ _
    exact ⟨Fr.freshT F4.out (hfv.mono fun _ q => q.2) hwW, R4.out.fr hfv (Ne.symm hber) (Ne.symm hbel), be, rfl, fun x j e => by rw [← (Prod.mk.inj (Except.ok.inj e)).1]; exact TreeT.leaf (E4.out.valU 2 (V : Int) ⟨#[]⟩) hwW (.inl ⟨rfl, .inr (.inr (.inr (.inl ⟨rfl, by omega, by omega, rfl⟩)))⟩)⟩
  · obtain rfl := HR2.out.2 hlt
    have q2 := block_cell T2.out 2
    obtain ⟨nn, bb, hnb, hor⟩ : ∃ (nn : Int) (bb : Bool), (if V ≤ 9223372036854775808 then (Value.tuple #[.int .u64 (V : Int), .bool true]) else .tuple #[.int .u64 0, .bool false]) = .tuple #[.int .u64 nn, .bool bb] ∧ (bb = false ∧ nn = 0 ∨ bb = true ∧ nn = 9223372036854775808) := by
      by_cases hle : V ≤ 9223372036854775808
      · exact ⟨9223372036854775808, true, by rw [if_pos hle, show V = 9223372036854775808 by omega]; rfl, .inr ⟨rfl, rfl⟩⟩
      · exact ⟨0, false, by rw [if_neg hle], .inl ⟨rfl, rfl⟩⟩
    rw [hnb]
    clear hnb
    rcases hor with ⟨rfl, rfl⟩ | ⟨rfl, rfl⟩
    all_goals
      go_wp2_with fail
      refine (gFail_ok W2 br bl i d 5 aa R2.out).mono ?_
      rintro e _ ⟨rfl, rfl⟩
      have hff : Fr (· ≠ br) W2 ((W2.setCell ⟨br, 3, none⟩ (.int .i64 5)).setCell ⟨br, 4, none⟩ (.int .i64 (aa : Int))) := ((Fr.refl _ _).set (by simp) _).set (by simp) _
      have E3 : Hid (XBlk ((W2.setCell ⟨br, 3, none⟩ (.int .i64 5)).setCell ⟨br, 4, none⟩ (.int .i64 (aa : Int))) be ⟨#[]⟩ (aa : Int) ⟨#[]⟩ 0 0 ⟨#[]⟩ none 0 0) := E2.out.of hff hber
      have F3 : Hid (Fr (· ≠ br) w ((W2.setCell ⟨br, 3, none⟩ (.int .i64 5)).setCell ⟨br, 4, none⟩ (.int .i64 (aa : Int)))) := (Fr.grew G2.out).trans hff
      have R3 : Hid (RSd K N (((W2.setCell ⟨br, 3, none⟩ (.int .i64 5)).setCell ⟨br, 4, none⟩ (.int .i64 (aa : Int))).setCell ⟨br, 1, none⟩ (.int .i64 ((i : Int) + 1))) br bl (.error (5, aa)) d) := R2.out.failed hiN (by decide)
      clear hff
      have hfs : Fr (· ≠ be) (((W2.setCell ⟨br, 3, none⟩ (.int .i64 5)).setCell ⟨br, 4, none⟩ (.int .i64 (aa : Int))).setCell ⟨br, 1, none⟩ (.int .i64 ((i : Int) + 1))) ((((W2.setCell ⟨br, 3, none⟩ (.int .i64 5)).setCell ⟨br, 4, none⟩ (.int .i64 (aa : Int))).setCell ⟨br, 1, none⟩ (.int .i64 ((i : Int) + 1))).setCell ⟨be, 0, none⟩ (.string ⟨#[118, 97, 108, 117, 101]⟩)) := (Fr.refl _ _).set (by simp) _
      have R4 : Hid (RSd K N ((((W2.setCell ⟨br, 3, none⟩ (.int .i64 5)).setCell ⟨br, 4, none⟩ (.int .i64 (aa : Int))).setCell ⟨br, 1, none⟩ (.int .i64 ((i : Int) + 1))).setCell ⟨be, 0, none⟩ (.string ⟨#[118, 97, 108, 117, 101]⟩)) br bl (.error (5, aa)) d) := R3.out.fr hfs (Ne.symm hber) (Ne.symm hbel)
      have F4 : Hid (Fr (· ≠ br) w ((((W2.setCell ⟨br, 3, none⟩ (.int .i64 5)).setCell ⟨br, 4, none⟩ (.int .i64 (aa : Int))).setCell ⟨br, 1, none⟩ (.int .i64 ((i : Int) + 1))).setCell ⟨be, 0, none⟩ (.string ⟨#[118, 97, 108, 117, 101]⟩))) := Fr.freshT (F3.out.set (by simp) _) (hfs.mono fun _ q => q.2) hwW
      have E4 : Hid (XBlk ((((W2.setCell ⟨br, 3, none⟩ (.int .i64 5)).setCell ⟨br, 4, none⟩ (.int .i64 (aa : Int))).setCell ⟨br, 1, none⟩ (.int .i64 ((i : Int) + 1))).setCell ⟨be, 0, none⟩ (.string ⟨#[118, 97, 108, 117, 101]⟩)) be ⟨#[118, 97, 108, 117, 101]⟩ (aa : Int) ⟨#[]⟩ 0 0 ⟨#[]⟩ none 0 0) := (E3.out.of (P := (· ≠ br)) ((Fr.refl _ _).set (by simp) _) hber).op _
      clear hfs
      go_wp2_with fail
      clear x0 y0 e1 f1 q2 R2 E2 G2 T2 R3 E3 F3
      generalize ((((W2.setCell ⟨br, 3, none⟩ (.int .i64 5)).setCell ⟨br, 4, none⟩ (.int .i64 (aa : Int))).setCell ⟨br, 1, none⟩ (.int .i64 ((i : Int) + 1))).setCell ⟨be, 0, none⟩ (.string ⟨#[118, 97, 108, 117, 101]⟩)) = W4 at R4 F4 E4 ⊢
      refine (numberT_any _ W4).mono ?_
      rintro e W5 ⟨rfl, g5⟩
      have E5 : Hid (XBlk W5 be ⟨#[118, 97, 108, 117, 101]⟩ (aa : Int) ⟨#[]⟩ 0 0 ⟨#[]⟩ none 0 0) := E4.out.of (P := fun _ => True) (Fr.grew g5) trivial
      have R5 : Hid (RSd K N W5 br bl (.error (5, aa)) d) := R4.out.grew g5
      have F5 : Hid (Fr (· ≠ br) w W5) := F4.out.trans (Fr.grew g5)
      clear g5 E4 R4 F4
      have x3 := block_cell E5.out 3
      have y3 := frozen_block E5.out 3
      have x4 := block_cell E5.out 4
      have y4 := frozen_block E5.out 4
      have x5 := block_cell E5.out 5
      have y5 := frozen_block E5.out 5
      have x6 := block_cell E5.out 6
      have y6 := frozen_block E5.out 6
      have x7 := block_cell E5.out 7
      have y7 := frozen_block E5.out 7
      go_wp2_with fail
      go_ret
      have hfv : ∀ v, Fr (· ≠ be) W5 (valU W5 be 2 v ⟨#[]⟩) := fun v => (Fr.refl _ W5).valU (by simp) _ _ _
      exact ⟨Fr.freshT F5.out ((hfv _).mono fun _ q => q.2) hwW, R5.out.fr (hfv _) (Ne.symm hber) (Ne.symm hbel), be, rfl, fun x j e => by simp at e⟩
end Go.Proofs.YtjbekejcghjhbaaGreatDoor.Sx
