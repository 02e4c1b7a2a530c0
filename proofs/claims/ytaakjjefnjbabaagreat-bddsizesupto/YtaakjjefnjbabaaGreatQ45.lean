/- The law: a node is made; what lay there is as it was. -/
import Derived.Test.YtaakjjefnjbabaaGreatQ42
set_option maxRecDepth 100000
namespace Go.Proofs.YtaakjjefnjbabaaGreat.Sx
open Go.RowKit Go.Sort Go.Maps Go.WideMaps
set_option maxHeartbeats 4000000 in
theorem made2_exi (w0 W : World) (wb tb n k : Nat) (L : Ly) (lv : Nat → Nat) (T : Tb) (nodes : List Nat) (fs given : List (List Bool)) (ord : List Nat) (nv fv ov gv vo : Value) (o : OpR) (h : LM w0.heap.size wb tb W L n T nodes fs given ord nv fv ov gv) (hp : LP k n lv T nodes fs given) (hv : OpV w0 vo o) (hok : OpOK o) (hF : Fr (fun _ => True) w0 W) (hk : o.kind = 7) :
 Calls Tryz.prog 10 #[.pointer (some ⟨wb, 0, none⟩), vo] W (MadePost2 w0 W L wb tb n lv T nodes fs given ord nv fv ov gv) := by
 obtain ⟨va, vb, rfl, ⟨hva, hvnil⟩, hvb⟩ := hv
 obtain ⟨ok, oa, ob, oc, vars, vals⟩ := o
 have hka := hok.a
 have hkb := hok.b
 have hkc := hok.c
 have hvl : vars.length ≤ 1099511627776 := hok.vl
 obtain ⟨hn0, hn63⟩ := hp.nlt
 have hlen := hp.len
 have h512 := pow9 hp.n9
 have hN9 : Hid (n ≤ 9) := hp.n9
 have HVA : Hid (∀ W, Fr (fun _ => True) w0 W → IW W va vars) := fun W F => hva.fr F
 have HP : Hid (LP k n lv T nodes fs given) := hp
 obtain ⟨ia, hia⟩ : ∃ i, pickN oa nodes.length = i := ⟨_, rfl⟩
 obtain ⟨ib, hib⟩ : ∃ i, pickN ob nodes.length = i := ⟨_, rfl⟩
 obtain ⟨ic, hic⟩ : ∃ i, pickN oc nodes.length = i := ⟨_, rfl⟩
 have hial : ia < nodes.length := by rw [← hia]; exact pickN_lt hn0
 have hibl : ib < nodes.length := by rw [← hib]; exact pickN_lt hn0
 have hicl : ic < nodes.length := by rw [← hic]; exact pickN_lt hn0
 obtain ⟨x, hx⟩ : ∃ x, nodes[ia]? = some x := ⟨_, List.getElem?_eq_getElem hial⟩
 obtain ⟨y, hy⟩ : ∃ y, nodes[ib]? = some y := ⟨_, List.getElem?_eq_getElem hibl⟩
 obtain ⟨z, hz⟩ : ∃ z, nodes[ic]? = some z := ⟨_, List.getElem?_eq_getElem hicl⟩
 obtain ⟨fa, hfa, hgx, hex⟩ := hp.live hx
 obtain ⟨fb, hfb, hgy, hey⟩ := hp.live hy
 obtain ⟨fc, hfc, hgz, hez⟩ := hp.live hz
 have B1 : Hid ((W.alloc (.cells #[.int .i64 ok, .int .i64 oa, .int .i64 ob, .int .i64 oc, va, vb] 30)).heap[W.heap.size]? = some (.cells #[.int .i64 ok, .int .i64 oa, .int .i64 ob, .int .i64 oc, va, vb] 30 (0, 0))) := heap_new rfl
 have X1 : Hid (LM _ _ _ (W.alloc (.cells #[.int .i64 ok, .int .i64 oa, .int .i64 ob, .int .i64 oc, va, vb] 30)) _ _ _ _ _ _ _ _ _ _ _) := h.grew ((Fr.refl _ W).alloc _)
 have F1 : Hid (Fr (fun _ => True) w0 (W.alloc (.cells #[.int .i64 ok, .int .i64 oa, .int .i64 ob, .int .i64 oc, va, vb] 30))) := hF.alloc _
 have K1 : Hid (Fr (fun b => L.own b = 0) W (W.alloc (.cells #[.int .i64 ok, .int .i64 oa, .int .i64 ob, .int .i64 oc, va, vb] 30))) := (Fr.refl _ W).alloc _
 have hsz1 : (W.alloc (.cells #[.int .i64 ok, .int .i64 oa, .int .i64 ob, .int .i64 oc, va, vb] 30)).heap.size = W.heap.size + 1 := by simp
 obtain ⟨W1, hW1⟩ : ∃ W1, W.alloc (.cells #[.int .i64 ok, .int .i64 oa, .int .i64 ob, .int .i64 oc, va, vb] 30) = W1 := ⟨_, rfl⟩
 obtain ⟨bx, hbx⟩ : ∃ bx, W.heap.size = bx := ⟨_, rfl⟩
 rw [hW1] at B1 X1 F1 K1 hsz1
 rw [hbx] at B1 hsz1
 have LBX0 : Hid (L.own bx = 0) := h.tat.hi bx (by omega)
 have HPA : Hid (∀ W', Calls Tryz.prog 17 #[.int .i64 oa, .int .i64 (nodes.length : Int)] W' fun e w' => e = .returned (.int .i64 (ia : Int)) ∧ w' = W') := fun W' => by rw [← hia]; exact pick_any W' oa _ hka.1 hka.2 hn0 hn63
 have HPB : Hid (∀ W', Calls Tryz.prog 17 #[.int .i64 ob, .int .i64 (nodes.length : Int)] W' fun e w' => e = .returned (.int .i64 (ib : Int)) ∧ w' = W') := fun W' => by rw [← hib]; exact pick_any W' ob _ hkb.1 hkb.2 hn0 hn63
 have HPC : Hid (∀ W', Calls Tryz.prog 17 #[.int .i64 oc, .int .i64 (nodes.length : Int)] W' fun e w' => e = .returned (.int .i64 (ic : Int)) ∧ w' = W') := fun W' => by rw [← hic]; exact pick_any W' oc _ hkc.1 hkc.2 hn0 hn63
 obtain ⟨ng, nc, hnv, cx⟩ := X1.out.node hx
 obtain ⟨ng2, nc2, hnv2, cy⟩ := X1.out.node hy
 obtain ⟨ng3, nc3, hnv3, cz⟩ := X1.out.node hz
 rw [hnv] at hnv2 hnv3
 injection hnv2 with e1 _ e2
 injection hnv3 with e3 _ e4
 cases e1; cases e2; cases e3; cases e4
 obtain ⟨fg, fcc, pa, la, qa, hfv, cfa, zfa⟩ := X1.out.fat hfa
 obtain ⟨fg1, fc1, pb, lb, qb, hfv1, cfb, zfb⟩ := X1.out.fat hfb
 obtain ⟨fg2, fc2, pc, lc, qc, hfv2, cfc, zfc⟩ := X1.out.fat hfc
 obtain ⟨fg3, fc3, p0, l0, q0, hfv3, cf0, zf0⟩ := X1.out.fat hp.h0
 obtain ⟨fg4, fc4, p1, l1, q1, hfv4, cf1, zf1⟩ := X1.out.fat hp.h1
 rw [hfv] at hfv1 hfv2 hfv3 hfv4
 injection hfv1 with e1 _ e2
 cases e1; cases e2
 injection hfv2 with e1 _ e2
 cases e1; cases e2
 injection hfv3 with e1 _ e2
 cases e1; cases e2
 injection hfv4 with e1 _ e2
 cases e1; cases e2
 have ZA : Hid (BVz L W1 (.slice pa la qa) (tab n (vl n T x))) := by rw [← hex]; exact zfa
 have ZB : Hid (BVz L W1 (.slice pb lb qb) (tab n (vl n T y))) := by rw [← hey]; exact zfb
 have ZC : Hid (BVz L W1 (.slice pc lc qc) (tab n (vl n T z))) := by rw [← hez]; exact zfc
 have Z0 : Hid (BVz L W1 (.slice p0 l0 q0) (tab n fun _ => false)) := zf0
 have Z1 : Hid (BVz L W1 (.slice p1 l1 q1) (tab n fun _ => true)) := zf1
 have HGX : Hid (Giv T x ∧ Giv T y ∧ Giv T z) := ⟨hgx, hgy, hgz⟩
 obtain ⟨-, c1, c2, c3, -, -⟩ := X1.out.c
 rw [hnv] at c2
 rw [hfv] at c3
 obtain ⟨N, hNN⟩ : ∃ N, nodes.length = N := ⟨_, rfl⟩
 rw [← hlen] at c3
 have HNV : Hid (nv = .slice (some ⟨ng, 0, none⟩) nodes.length nc ∧ fv = .slice (some ⟨fg, 0, none⟩) fs.length fcc) := ⟨hnv, hfv⟩
 have HLEN : Hid (nodes.length = N ∧ fs.length = N) := ⟨hNN, by rw [← hlen]; exact hNN⟩
 have hn2 := hp.two
 rw [hNN] at c2 c3 HPA HPB HPC hial hibl hicl hn2
 have hial' : (ia : Int) < (N : Int) := by omega
 have hibl' : (ib : Int) < (N : Int) := by omega
 have hicl' : (ic : Int) < (N : Int) := by omega
 have hi0 : (0 : Int) < (N : Int) := by omega
 have hi1 : (1 : Int) < (N : Int) := by omega
 have d0 := block_cell B1.out 0
 have d1 := block_cell B1.out 1
 have d2 := block_cell B1.out 2
 have d3 := block_cell B1.out 3
 have d4 := block_cell B1.out 4
 obtain ⟨vp, vc, hvv, hvi⟩ := (HVA.out W1 F1.out).at
 subst hvv
 obtain ⟨vn, hvn⟩ : ∃ vn, vars.length = vn := ⟨_, rfl⟩
 have HVN : Hid (vars.length = vn) := hvn
 have HVI : Hid (∀ W, Fr (fun _ => True) w0 W → IntsV W vp vars) := fun W F => by
  obtain ⟨a, c, e, h⟩ := (HVA.out W F).at
  injection e with e1 _ _
  rw [e1]; exact h
 rw [hvn] at hvl d4 HVA B1 hW1 ⊢
 have HNI : Hid (vp = none → vn = 0 ∧ vc = 0) := fun e => by
  have := hvnil vars.length vc (by rw [e])
  rw [hvn] at this
  exact this
 have mo := follows
 obtain ⟨i0, hI0, hZ0, hZ1, hZ2⟩ := infoInt
 subst hk
 clear h hp hok hF hgx hgy hgz hex hey hez hx hy hz hfa hfb hfc hnv hfv hlen hNN zfa zfb zfc zf0 zf1 hvi hvn hka hkb hkc hia hib hic hn0 hn63 hva hvb hvnil
 go_enter Tryz.func10, Tryz.ntmps10
 go_wp2_with fail
 clear hW1 hbx
 refine (HPA.out _).mono ?_
 rintro e w' ⟨rfl, hw⟩; replace hw := hw.symm; subst hw
 go_wp2_with fail
 refine (HPB.out _).mono ?_
 rintro e w' ⟨rfl, hw⟩; replace hw := hw.symm; subst hw
 go_wp2_with fail
 refine (HPC.out _).mono ?_
 rintro e w' ⟨rfl, hw⟩; replace hw := hw.symm; subst hw
 clear HPA HPB HPC
 have HOE : Hid ((W1.alloc (.cells #[] 3)).ownsRow W1.heap.size 3 1 (.slice (some ⟨W1.heap.size, 0, none⟩) 0 0) 0 []) := ⟨rfl, .inr ⟨W1.heap.size, 0, #[], rfl, Nat.le_refl _, heap_new rfl, Nat.le_refl _, by unfold maxLen; omega, rfl, rfl⟩⟩
 rw [hsz1] at HOE
 have HVC : Hid (∀ ad, vp = some ad → ∀ j u, (vars.map (Value.int .i64))[j]? = some u → (W1.alloc (.cells #[] 3)).cell? (ad.add j) = some u) := fun ad had j u hu => by
  rw [List.getElem?_map] at hu
  cases hx : vars[j]? with
  | none => rw [hx] at hu; cases hu
  | some a =>
    rw [hx] at hu
    obtain rfl : Value.int .i64 a = u := Option.some.inj hu
    obtain ⟨q, e, hc⟩ := (HVI.out W1 F1.out).cell j a hx
    rw [had] at e
    cases e
    exact (World.cell?_of_block (w := W1) (heap_old (World.block_lt_of_cell? W1 _ hc))).trans hc
 have hmx : 0 + vn ≤ maxLen := by unfold maxLen; omega
 have hlv : (vars.map (Value.int .i64)).length = vn := by rw [List.length_map]; exact HVN.out
 have hsz2 : bx + 1 ≤ (W1.alloc (.cells #[] 3)).heap.size := by simp; omega
 go_wp2_with (at_builtin; refine wpList_append_own_any rfl _ _ 27 rfl (bx + 1) 3 i0 _ 8 Tryz.underlying27 hI0 hZ0 hZ1 hZ2 rfl (.slice (some ⟨bx + 1, 0, none⟩) 0 0) 0 [] rfl HOE.out vp vn vc (vars.map (Value.int .i64)) rfl hlv HNI.out HVC.out (ints_oneCell .i64 vars) hmx (by omega) hsz2 ?_)
 intro v3 W3 ho3 hg3
 have F13 : Hid (Fr (fun _ => True) W1 W3) := own_grown ((Fr.refl _ W1).alloc _) (by rw [hsz1]; exact HOE.out) hg3
 have F3 : Hid (Fr (fun _ => True) w0 W3) := F1.out.trans F13.out
 have K3 : Hid (Fr (fun b => L.own b = 0) W W3) := K1.out.trans (Fr.mono F13.out fun _ _ => trivial)
 have X3 : Hid (LM _ _ _ W3 _ _ _ _ _ _ _ _ _ _ _) := X1.out.grew F13.out
 have B3 : Hid (W3.heap[bx]? = some (.cells #[.int .i64 7, .int .i64 oa, .int .i64 ob, .int .i64 oc, .slice vp vn vc, vb] 30 (0, 0))) := (F13.out.block bx (block_lt B1.out) trivial).trans B1.out
 have ZA3 : Hid (BVz L W3 _ _) := ZA.out.frg F13.out fun _ _ _ => trivial
 have ZB3 : Hid (BVz L W3 _ _) := ZB.out.frg F13.out fun _ _ _ => trivial
 have ZC3 : Hid (BVz L W3 _ _) := ZC.out.frg F13.out fun _ _ _ => trivial
 have Z03 : Hid (BVz L W3 _ _) := Z0.out.frg F13.out fun _ _ _ => trivial
 have Z13 : Hid (BVz L W3 _ _) := Z1.out.frg F13.out fun _ _ _ => trivial
 obtain ⟨vq, vqc, hv3⟩ := own_slice ho3
 subst hv3
 have HQ3 : Hid (W3.ownsRow (bx + 1) 3 1 (.slice vq vn vqc) vn (vars.map (Value.int .i64))) := by first | exact ho3 | (rw [Nat.zero_add, List.nil_append] at ho3; exact ho3)
 have LQ3 : Hid (∀ k, (Value.slice vq vn vqc).ownBlock = some k → L.own k = 0) := fun k hk => X1.out.tat.hi k (by have := (HQ3.out.lt k hk).1; omega)
 have c0 := X3.out.c.1
 have d0 := block_cell B3.out 0
 obtain ⟨hroom1, hroom2, hroom3, hroom4⟩ := HP.out.rooms
 clear ho3 hg3 HOE HVC hmx hlv hsz2 ZA ZB ZC Z0 Z1 F13 F1 X1 B1 c1 c2 c3 d1 d2 d3 d4 cx cy cz cfa cfb cfc cf0 cf1 hsz1
 have HT : Hid (Calls _ _ _ _ _) := Exists_out X3.out.tat HP.out.base x HGX.out.1.live vq vars vqc (by
  have hq := HQ3.out
  obtain ⟨a, c, e, h⟩ := (own_ir (l := vars) (by rw [HVN.out]; exact hq)).old
  injection e with e1 _ _
  rw [e1]
  exact ⟨h⟩) (by rw [HVN.out]; exact hvl) hroom3
 rw [HVN.out] at HT
 clear hroom1 hroom2 hroom3 hroom4 ZB3 ZC3 Z03 Z13
 go_wp2_with fail
 refine HT.out.mono ?_
 rintro e W4 ⟨x', T', L', rfl, hX4, hF4, hO4⟩
 have X4 : Hid (LM _ _ _ W4 _ _ _ _ _ _ _ _ _ _ _) := X3.out.frT hF4 hX4
 have O4 : Hid (Out _ _ _ _ _ _ _) := hO4
 have F4 : Hid (Fr (fun _ => True) w0 W4) := F3.out.table hF4 X3.out.low
 have K4 : Hid (Fr (fun b => L.own b = 0) W W4) := K3.out.tableK hF4
 have ZA4 : Hid (BVz L' W4 (.slice pa la qa) (tab n (vl n T x))) := ZA3.out.frT hF4
 have B4 : Hid (W4.heap[bx]? = some (.cells #[.int .i64 7, .int .i64 oa, .int .i64 ob, .int .i64 oc, .slice vp vn vc, vb] 30 (0, 0))) := (hF4.block bx (block_lt B3.out) LBX0.out).trans B3.out
 have Q4 : Hid (W4.ownsRow (bx + 1) 3 1 (.slice vq vn vqc) vn (vars.map (Value.int .i64))) := (own_frT HQ3.out LQ3.out hF4).1
 have HRO : Hid (∀ (W W' : World) vf f i, Fr (fun _ => True) W W' → BV W vf f → f.length = 2 ^ n → Calls Tryz.prog 37 #[.int .i64 (n : Int), vf, .int .i64 i, .bool true] W' fun e w' => ∃ r, e = .returned r ∧ (BV w' r (overL n f i true) ∧ (r = vf ∨ New W r)) ∧ Fr (fun _ => True) W w') := fun W W' vf f i F h1 h2 => (rOver_any W' vf f n i hN9.out (h1.fr F) h2 true).mono fun e w' ⟨r, e1, ⟨h3, h4⟩, h5⟩ => ⟨r, e1, ⟨h3, h4.imp id fun q => q.mono F.size⟩, F.trans h5⟩
 clear hX4 hF4 hO4 HT c0 d0 X3 F3 B3 HQ3 LQ3 ZA3
 go_wp2_with fail
 go_loopg [14, 28] (vn) (fun k s14 s28 wr => ∃ (j : Nat) (vf : Value), s28 = .int .i64 (j : Int) ∧ vf = s14 ∧ j + k = vn ∧ Hid (BVz L' wr vf ((vars.take j).foldl (fun f i => overL n f i true) (tab n (vl n T x)))) ∧ Hid (Fr (fun _ => True) W4 wr))
 case atStart => exact ⟨0, _, rfl, rfl, by omega, ZA4.out, Fr.refl _ _⟩
 case round =>
  clear ZA4
  obtain ⟨j, vf, rfl, rfl, hjk, Z, F⟩ := hrel
  have Bw : Hid (wr.heap[bx]? = _) := (F.out.block bx (block_lt B4.out) trivial).trans B4.out
  by_cases hj : j < vn
  · obtain ⟨k, rfl⟩ : ∃ k, gk = k + 1 := ⟨gk - 1, by omega⟩
    have hjl : (j : Int) < (vn : Int) := by omega
    have hj0 : (0 : Int) ≤ (j : Int) := by omega
    obtain ⟨i, hi⟩ : ∃ i, vars[j]? = some i := ⟨_, List.getElem?_eq_getElem (by rw [HVN.out]; exact hj)⟩
    obtain ⟨q, rfl, cq⟩ := (HVI.out wr (F4.out.trans F.out)).cell j i hi
    have HS : Hid ((vars.take (j + 1)).foldl (fun f i => overL n f i true) (tab n (vl n T x)) = overL n ((vars.take j).foldl (fun f i => overL n f i true) (tab n (vl n T x))) i true) := by
     show (vars.take (j + 1)).foldl _ _ = _
     rw [List.take_add_one, hi, List.foldl_append]; rfl
    have HL : Hid (((vars.take j).foldl (fun f i => overL n f i true) (tab n (vl n T x))).length = 2 ^ n) := by show List.length _ = _; rw [ovL_tab, tab_len]
    generalize (vars.take j).foldl (fun f i => overL n f i true) (tab n (vl n T x)) = G at *
    have HOV : Hid (Calls _ _ _ _ _) := HRO.out wr wr.drew vf G i (Fr.refl _ wr).drew Z.out.bv HL.out
    have Xw : Hid (LM _ _ _ wr _ _ _ _ _ _ _ _ _ _ _) := X4.out.grew F.out
    have d4 := block_cell Bw.out 4
    have cqd : wr.drew.cell? (q.add j) = some (.int .i64 i) := cq
    have c1d : wr.drew.cell? ⟨wb, 1, none⟩ = some (.int .i64 (n : Int)) := Xw.out.c.2.1
    have d4d : wr.drew.cell? ⟨bx, 4, none⟩ = some (.slice (some q) vn vc) := d4
    have d0d : wr.drew.cell? ⟨bx, 0, none⟩ = some (.int .i64 7) := block_cell Bw.out 0
    clear hi
    go_wp2_with fail
    clear d4 cq
    go_region_with (go_at_call 37; refine HOV.out.mono ?_; rintro e W5 ⟨r5, rfl, ⟨hb, hnw⟩, hf⟩)
    all_goals
     have Z5 : Hid (BVz L' W5 r5 (overL n G i true)) := hb.zo hnw (Z.out.frg hf fun _ _ _ => trivial) (overL_len _ _ _ _) Xw.out.tat.hi
     have F5 : Hid (Fr (fun _ => True) W4 W5) := F.out.trans hf
     clear hb hnw hf HOV cqd c1d d4d d0d Z F Bw Xw
     go_wp2_with fail
     go_roundg k
     case measure => omega
     case rel => exact ⟨j + 1, r5, by simp, rfl, by omega, by rw [HS.out]; exact Z5.out, F5.out⟩
  · have hjl : ¬ (j : Int) < (vn : Int) := by omega
    have HE : Hid (vars.take j = vars) := List.take_of_length_le (by rw [HVN.out]; omega)
    have d4 := block_cell Bw.out 4
    have Qw : Hid (wr.ownsRow (bx + 1) 3 1 (.slice vq vn vqc) vn (vars.map (Value.int .i64))) := own_fr Q4.out F.out fun _ _ => trivial
    have HI : Hid (Calls Tryz.prog 25 #[.slice vq vn vqc, .slice vp vn vc] wr fun e w' => e = .returned (.bool (decide (vars = vars))) ∧ ∃ m, w' = wr.drewN m) := Ints_any wr _ _ vars vars (by rw [HVN.out]; exact hvl) (by
     have hq := Qw.out
     exact (own_ir (l := vars) (by rw [HVN.out]; exact hq)).old) (HVA.out wr (F4.out.trans F.out))
    have HTR : Hid (decide (vars = vars) = true) := decide_eq_true rfl
    rw [HTR.out] at HI
    go_wp2_with fail
    refine HI.out.mono ?_
    rintro e W6 ⟨rfl, m, rfl⟩
    have FW : Hid (Fr (fun _ => True) W4 (wr.drewN m)) := ⟨F.out.os, F.out.tape, F.out.output, F.out.size, F.out.block⟩
    have ZW : Hid (BVz L' (wr.drewN m) vf _) := Z.out
    have XW : Hid (LM _ _ _ (wr.drewN m) _ _ _ _ _ _ _ _ _ _ _) := X4.out.grew FW.out
    clear HI d4 Qw Bw F Z
    go_wp2_with fail
    go_ret3
    refine ⟨x', _, T', L', vf, rfl, XW.out, O4.out, ?_, F4.out.trans FW.out, K4.out.trans (FW.out.mono fun _ _ => trivial)⟩
    have hv := O4.out.val
    have hz := ZW.out
    rw [HE.out, ovL_tab] at hz
    rw [hv, wv_ovO HP.out.base.mid.t HGX.out.1.live]
    exact hz
set_option maxHeartbeats 4000000 in
theorem made2_all (w0 W : World) (wb tb n k : Nat) (L : Ly) (lv : Nat → Nat) (T : Tb) (nodes : List Nat) (fs given : List (List Bool)) (ord : List Nat) (nv fv ov gv vo : Value) (o : OpR) (h : LM w0.heap.size wb tb W L n T nodes fs given ord nv fv ov gv) (hp : LP k n lv T nodes fs given) (hv : OpV w0 vo o) (hok : OpOK o) (hF : Fr (fun _ => True) w0 W) (hk : o.kind = 8) :
 Calls Tryz.prog 10 #[.pointer (some ⟨wb, 0, none⟩), vo] W (MadePost2 w0 W L wb tb n lv T nodes fs given ord nv fv ov gv) := by
 obtain ⟨va, vb, rfl, ⟨hva, hvnil⟩, hvb⟩ := hv
 obtain ⟨ok, oa, ob, oc, vars, vals⟩ := o
 have hka := hok.a
 have hkb := hok.b
 have hkc := hok.c
 have hvl : vars.length ≤ 1099511627776 := hok.vl
 obtain ⟨hn0, hn63⟩ := hp.nlt
 have hlen := hp.len
 have h512 := pow9 hp.n9
 have hN9 : Hid (n ≤ 9) := hp.n9
 have HVA : Hid (∀ W, Fr (fun _ => True) w0 W → IW W va vars) := fun W F => hva.fr F
 have HP : Hid (LP k n lv T nodes fs given) := hp
 obtain ⟨ia, hia⟩ : ∃ i, pickN oa nodes.length = i := ⟨_, rfl⟩
 obtain ⟨ib, hib⟩ : ∃ i, pickN ob nodes.length = i := ⟨_, rfl⟩
 obtain ⟨ic, hic⟩ : ∃ i, pickN oc nodes.length = i := ⟨_, rfl⟩
 have hial : ia < nodes.length := by rw [← hia]; exact pickN_lt hn0
 have hibl : ib < nodes.length := by rw [← hib]; exact pickN_lt hn0
 have hicl : ic < nodes.length := by rw [← hic]; exact pickN_lt hn0
 obtain ⟨x, hx⟩ : ∃ x, nodes[ia]? = some x := ⟨_, List.getElem?_eq_getElem hial⟩
 obtain ⟨y, hy⟩ : ∃ y, nodes[ib]? = some y := ⟨_, List.getElem?_eq_getElem hibl⟩
 obtain ⟨z, hz⟩ : ∃ z, nodes[ic]? = some z := ⟨_, List.getElem?_eq_getElem hicl⟩
 obtain ⟨fa, hfa, hgx, hex⟩ := hp.live hx
 obtain ⟨fb, hfb, hgy, hey⟩ := hp.live hy
 obtain ⟨fc, hfc, hgz, hez⟩ := hp.live hz
 have B1 : Hid ((W.alloc (.cells #[.int .i64 ok, .int .i64 oa, .int .i64 ob, .int .i64 oc, va, vb] 30)).heap[W.heap.size]? = some (.cells #[.int .i64 ok, .int .i64 oa, .int .i64 ob, .int .i64 oc, va, vb] 30 (0, 0))) := heap_new rfl
 have X1 : Hid (LM _ _ _ (W.alloc (.cells #[.int .i64 ok, .int .i64 oa, .int .i64 ob, .int .i64 oc, va, vb] 30)) _ _ _ _ _ _ _ _ _ _ _) := h.grew ((Fr.refl _ W).alloc _)
 have F1 : Hid (Fr (fun _ => True) w0 (W.alloc (.cells #[.int .i64 ok, .int .i64 oa, .int .i64 ob, .int .i64 oc, va, vb] 30))) := hF.alloc _
 have K1 : Hid (Fr (fun b => L.own b = 0) W (W.alloc (.cells #[.int .i64 ok, .int .i64 oa, .int .i64 ob, .int .i64 oc, va, vb] 30))) := (Fr.refl _ W).alloc _
 have hsz1 : (W.alloc (.cells #[.int .i64 ok, .int .i64 oa, .int .i64 ob, .int .i64 oc, va, vb] 30)).heap.size = W.heap.size + 1 := by simp
 obtain ⟨W1, hW1⟩ : ∃ W1, W.alloc (.cells #[.int .i64 ok, .int .i64 oa, .int .i64 ob, .int .i64 oc, va, vb] 30) = W1 := ⟨_, rfl⟩
 obtain ⟨bx, hbx⟩ : ∃ bx, W.heap.size = bx := ⟨_, rfl⟩
 rw [hW1] at B1 X1 F1 K1 hsz1
 rw [hbx] at B1 hsz1
 have LBX0 : Hid (L.own bx = 0) := h.tat.hi bx (by omega)
 have HPA : Hid (∀ W', Calls Tryz.prog 17 #[.int .i64 oa, .int .i64 (nodes.length : Int)] W' fun e w' => e = .returned (.int .i64 (ia : Int)) ∧ w' = W') := fun W' => by rw [← hia]; exact pick_any W' oa _ hka.1 hka.2 hn0 hn63
 have HPB : Hid (∀ W', Calls Tryz.prog 17 #[.int .i64 ob, .int .i64 (nodes.length : Int)] W' fun e w' => e = .returned (.int .i64 (ib : Int)) ∧ w' = W') := fun W' => by rw [← hib]; exact pick_any W' ob _ hkb.1 hkb.2 hn0 hn63
 have HPC : Hid (∀ W', Calls Tryz.prog 17 #[.int .i64 oc, .int .i64 (nodes.length : Int)] W' fun e w' => e = .returned (.int .i64 (ic : Int)) ∧ w' = W') := fun W' => by rw [← hic]; exact pick_any W' oc _ hkc.1 hkc.2 hn0 hn63
 obtain ⟨ng, nc, hnv, cx⟩ := X1.out.node hx
 obtain ⟨ng2, nc2, hnv2, cy⟩ := X1.out.node hy
 obtain ⟨ng3, nc3, hnv3, cz⟩ := X1.out.node hz
 rw [hnv] at hnv2 hnv3
 injection hnv2 with e1 _ e2
 injection hnv3 with e3 _ e4
 cases e1; cases e2; cases e3; cases e4
 obtain ⟨fg, fcc, pa, la, qa, hfv, cfa, zfa⟩ := X1.out.fat hfa
 obtain ⟨fg1, fc1, pb, lb, qb, hfv1, cfb, zfb⟩ := X1.out.fat hfb
 obtain ⟨fg2, fc2, pc, lc, qc, hfv2, cfc, zfc⟩ := X1.out.fat hfc
 obtain ⟨fg3, fc3, p0, l0, q0, hfv3, cf0, zf0⟩ := X1.out.fat hp.h0
 obtain ⟨fg4, fc4, p1, l1, q1, hfv4, cf1, zf1⟩ := X1.out.fat hp.h1
 rw [hfv] at hfv1 hfv2 hfv3 hfv4
 injection hfv1 with e1 _ e2
 cases e1; cases e2
 injection hfv2 with e1 _ e2
 cases e1; cases e2
 injection hfv3 with e1 _ e2
 cases e1; cases e2
 injection hfv4 with e1 _ e2
 cases e1; cases e2
 have ZA : Hid (BVz L W1 (.slice pa la qa) (tab n (vl n T x))) := by rw [← hex]; exact zfa
 have ZB : Hid (BVz L W1 (.slice pb lb qb) (tab n (vl n T y))) := by rw [← hey]; exact zfb
 have ZC : Hid (BVz L W1 (.slice pc lc qc) (tab n (vl n T z))) := by rw [← hez]; exact zfc
 have Z0 : Hid (BVz L W1 (.slice p0 l0 q0) (tab n fun _ => false)) := zf0
 have Z1 : Hid (BVz L W1 (.slice p1 l1 q1) (tab n fun _ => true)) := zf1
 have HGX : Hid (Giv T x ∧ Giv T y ∧ Giv T z) := ⟨hgx, hgy, hgz⟩
 obtain ⟨-, c1, c2, c3, -, -⟩ := X1.out.c
 rw [hnv] at c2
 rw [hfv] at c3
 obtain ⟨N, hNN⟩ : ∃ N, nodes.length = N := ⟨_, rfl⟩
 rw [← hlen] at c3
 have HNV : Hid (nv = .slice (some ⟨ng, 0, none⟩) nodes.length nc ∧ fv = .slice (some ⟨fg, 0, none⟩) fs.length fcc) := ⟨hnv, hfv⟩
 have HLEN : Hid (nodes.length = N ∧ fs.length = N) := ⟨hNN, by rw [← hlen]; exact hNN⟩
 have hn2 := hp.two
 rw [hNN] at c2 c3 HPA HPB HPC hial hibl hicl hn2
 have hial' : (ia : Int) < (N : Int) := by omega
 have hibl' : (ib : Int) < (N : Int) := by omega
 have hicl' : (ic : Int) < (N : Int) := by omega
 have hi0 : (0 : Int) < (N : Int) := by omega
 have hi1 : (1 : Int) < (N : Int) := by omega
 have d0 := block_cell B1.out 0
 have d1 := block_cell B1.out 1
 have d2 := block_cell B1.out 2
 have d3 := block_cell B1.out 3
 have d4 := block_cell B1.out 4
 obtain ⟨vp, vc, hvv, hvi⟩ := (HVA.out W1 F1.out).at
 subst hvv
 obtain ⟨vn, hvn⟩ : ∃ vn, vars.length = vn := ⟨_, rfl⟩
 have HVN : Hid (vars.length = vn) := hvn
 have HVI : Hid (∀ W, Fr (fun _ => True) w0 W → IntsV W vp vars) := fun W F => by
  obtain ⟨a, c, e, h⟩ := (HVA.out W F).at
  injection e with e1 _ _
  rw [e1]; exact h
 rw [hvn] at hvl d4 HVA B1 hW1 ⊢
 have HNI : Hid (vp = none → vn = 0 ∧ vc = 0) := fun e => by
  have := hvnil vars.length vc (by rw [e])
  rw [hvn] at this
  exact this
 have mo := follows
 obtain ⟨i0, hI0, hZ0, hZ1, hZ2⟩ := infoInt
 subst hk
 clear h hp hok hF hgx hgy hgz hex hey hez hx hy hz hfa hfb hfc hnv hfv hlen hNN zfa zfb zfc zf0 zf1 hvi hvn hka hkb hkc hia hib hic hn0 hn63 hva hvb hvnil
 go_enter Tryz.func10, Tryz.ntmps10
 go_wp2_with fail
 clear hW1 hbx
 refine (HPA.out _).mono ?_
 rintro e w' ⟨rfl, hw⟩; replace hw := hw.symm; subst hw
 go_wp2_with fail
 refine (HPB.out _).mono ?_
 rintro e w' ⟨rfl, hw⟩; replace hw := hw.symm; subst hw
 go_wp2_with fail
 refine (HPC.out _).mono ?_
 rintro e w' ⟨rfl, hw⟩; replace hw := hw.symm; subst hw
 clear HPA HPB HPC
 have HOE : Hid ((W1.alloc (.cells #[] 3)).ownsRow W1.heap.size 3 1 (.slice (some ⟨W1.heap.size, 0, none⟩) 0 0) 0 []) := ⟨rfl, .inr ⟨W1.heap.size, 0, #[], rfl, Nat.le_refl _, heap_new rfl, Nat.le_refl _, by unfold maxLen; omega, rfl, rfl⟩⟩
 rw [hsz1] at HOE
 have HVC : Hid (∀ ad, vp = some ad → ∀ j u, (vars.map (Value.int .i64))[j]? = some u → (W1.alloc (.cells #[] 3)).cell? (ad.add j) = some u) := fun ad had j u hu => by
  rw [List.getElem?_map] at hu
  cases hx : vars[j]? with
  | none => rw [hx] at hu; cases hu
  | some a =>
    rw [hx] at hu
    obtain rfl : Value.int .i64 a = u := Option.some.inj hu
    obtain ⟨q, e, hc⟩ := (HVI.out W1 F1.out).cell j a hx
    rw [had] at e
    cases e
    exact (World.cell?_of_block (w := W1) (heap_old (World.block_lt_of_cell? W1 _ hc))).trans hc
 have hmx : 0 + vn ≤ maxLen := by unfold maxLen; omega
 have hlv : (vars.map (Value.int .i64)).length = vn := by rw [List.length_map]; exact HVN.out
 have hsz2 : bx + 1 ≤ (W1.alloc (.cells #[] 3)).heap.size := by simp; omega
 go_wp2_with (at_builtin; refine wpList_append_own_any rfl _ _ 27 rfl (bx + 1) 3 i0 _ 8 Tryz.underlying27 hI0 hZ0 hZ1 hZ2 rfl (.slice (some ⟨bx + 1, 0, none⟩) 0 0) 0 [] rfl HOE.out vp vn vc (vars.map (Value.int .i64)) rfl hlv HNI.out HVC.out (ints_oneCell .i64 vars) hmx (by omega) hsz2 ?_)
 intro v3 W3 ho3 hg3
 have F13 : Hid (Fr (fun _ => True) W1 W3) := own_grown ((Fr.refl _ W1).alloc _) (by rw [hsz1]; exact HOE.out) hg3
 have F3 : Hid (Fr (fun _ => True) w0 W3) := F1.out.trans F13.out
 have K3 : Hid (Fr (fun b => L.own b = 0) W W3) := K1.out.trans (Fr.mono F13.out fun _ _ => trivial)
 have X3 : Hid (LM _ _ _ W3 _ _ _ _ _ _ _ _ _ _ _) := X1.out.grew F13.out
 have B3 : Hid (W3.heap[bx]? = some (.cells #[.int .i64 8, .int .i64 oa, .int .i64 ob, .int .i64 oc, .slice vp vn vc, vb] 30 (0, 0))) := (F13.out.block bx (block_lt B1.out) trivial).trans B1.out
 have ZA3 : Hid (BVz L W3 _ _) := ZA.out.frg F13.out fun _ _ _ => trivial
 have ZB3 : Hid (BVz L W3 _ _) := ZB.out.frg F13.out fun _ _ _ => trivial
 have ZC3 : Hid (BVz L W3 _ _) := ZC.out.frg F13.out fun _ _ _ => trivial
 have Z03 : Hid (BVz L W3 _ _) := Z0.out.frg F13.out fun _ _ _ => trivial
 have Z13 : Hid (BVz L W3 _ _) := Z1.out.frg F13.out fun _ _ _ => trivial
 obtain ⟨vq, vqc, hv3⟩ := own_slice ho3
 subst hv3
 have HQ3 : Hid (W3.ownsRow (bx + 1) 3 1 (.slice vq vn vqc) vn (vars.map (Value.int .i64))) := by first | exact ho3 | (rw [Nat.zero_add, List.nil_append] at ho3; exact ho3)
 have LQ3 : Hid (∀ k, (Value.slice vq vn vqc).ownBlock = some k → L.own k = 0) := fun k hk => X1.out.tat.hi k (by have := (HQ3.out.lt k hk).1; omega)
 have c0 := X3.out.c.1
 have d0 := block_cell B3.out 0
 obtain ⟨hroom1, hroom2, hroom3, hroom4⟩ := HP.out.rooms
 clear ho3 hg3 HOE HVC hmx hlv hsz2 ZA ZB ZC Z0 Z1 F13 F1 X1 B1 c1 c2 c3 d1 d2 d3 d4 cx cy cz cfa cfb cfc cf0 cf1 hsz1
 have HT : Hid (Calls _ _ _ _ _) := Forall_out X3.out.tat HP.out.base x HGX.out.1.live vq vars vqc (by
  have hq := HQ3.out
  obtain ⟨a, c, e, h⟩ := (own_ir (l := vars) (by rw [HVN.out]; exact hq)).old
  injection e with e1 _ _
  rw [e1]
  exact ⟨h⟩) (by rw [HVN.out]; exact hvl) hroom3
 rw [HVN.out] at HT
 clear hroom1 hroom2 hroom3 hroom4 ZB3 ZC3 Z03 Z13
 go_wp2_with fail
 refine HT.out.mono ?_
 rintro e W4 ⟨x', T', L', rfl, hX4, hF4, hO4⟩
 have X4 : Hid (LM _ _ _ W4 _ _ _ _ _ _ _ _ _ _ _) := X3.out.frT hF4 hX4
 have O4 : Hid (Out _ _ _ _ _ _ _) := hO4
 have F4 : Hid (Fr (fun _ => True) w0 W4) := F3.out.table hF4 X3.out.low
 have K4 : Hid (Fr (fun b => L.own b = 0) W W4) := K3.out.tableK hF4
 have ZA4 : Hid (BVz L' W4 (.slice pa la qa) (tab n (vl n T x))) := ZA3.out.frT hF4
 have B4 : Hid (W4.heap[bx]? = some (.cells #[.int .i64 8, .int .i64 oa, .int .i64 ob, .int .i64 oc, .slice vp vn vc, vb] 30 (0, 0))) := (hF4.block bx (block_lt B3.out) LBX0.out).trans B3.out
 have Q4 : Hid (W4.ownsRow (bx + 1) 3 1 (.slice vq vn vqc) vn (vars.map (Value.int .i64))) := (own_frT HQ3.out LQ3.out hF4).1
 have HRO : Hid (∀ (W W' : World) vf f i, Fr (fun _ => True) W W' → BV W vf f → f.length = 2 ^ n → Calls Tryz.prog 37 #[.int .i64 (n : Int), vf, .int .i64 i, .bool false] W' fun e w' => ∃ r, e = .returned r ∧ (BV w' r (overL n f i false) ∧ (r = vf ∨ New W r)) ∧ Fr (fun _ => True) W w') := fun W W' vf f i F h1 h2 => (rOver_any W' vf f n i hN9.out (h1.fr F) h2 false).mono fun e w' ⟨r, e1, ⟨h3, h4⟩, h5⟩ => ⟨r, e1, ⟨h3, h4.imp id fun q => q.mono F.size⟩, F.trans h5⟩
 clear hX4 hF4 hO4 HT c0 d0 X3 F3 B3 HQ3 LQ3 ZA3
 go_wp2_with fail
 go_loopg [14, 28] (vn) (fun k s14 s28 wr => ∃ (j : Nat) (vf : Value), s28 = .int .i64 (j : Int) ∧ vf = s14 ∧ j + k = vn ∧ Hid (BVz L' wr vf ((vars.take j).foldl (fun f i => overL n f i false) (tab n (vl n T x)))) ∧ Hid (Fr (fun _ => True) W4 wr))
 case atStart => exact ⟨0, _, rfl, rfl, by omega, ZA4.out, Fr.refl _ _⟩
 case round =>
  clear ZA4
  obtain ⟨j, vf, rfl, rfl, hjk, Z, F⟩ := hrel
  have Bw : Hid (wr.heap[bx]? = _) := (F.out.block bx (block_lt B4.out) trivial).trans B4.out
  by_cases hj : j < vn
  · obtain ⟨k, rfl⟩ : ∃ k, gk = k + 1 := ⟨gk - 1, by omega⟩
    have hjl : (j : Int) < (vn : Int) := by omega
    have hj0 : (0 : Int) ≤ (j : Int) := by omega
    obtain ⟨i, hi⟩ : ∃ i, vars[j]? = some i := ⟨_, List.getElem?_eq_getElem (by rw [HVN.out]; exact hj)⟩
    obtain ⟨q, rfl, cq⟩ := (HVI.out wr (F4.out.trans F.out)).cell j i hi
    have HS : Hid ((vars.take (j + 1)).foldl (fun f i => overL n f i false) (tab n (vl n T x)) = overL n ((vars.take j).foldl (fun f i => overL n f i false) (tab n (vl n T x))) i false) := by
     show (vars.take (j + 1)).foldl _ _ = _
     rw [List.take_add_one, hi, List.foldl_append]; rfl
    have HL : Hid (((vars.take j).foldl (fun f i => overL n f i false) (tab n (vl n T x))).length = 2 ^ n) := by show List.length _ = _; rw [ovL_tab, tab_len]
    generalize (vars.take j).foldl (fun f i => overL n f i false) (tab n (vl n T x)) = G at *
    have HOV : Hid (Calls _ _ _ _ _) := HRO.out wr wr.drew vf G i (Fr.refl _ wr).drew Z.out.bv HL.out
    have Xw : Hid (LM _ _ _ wr _ _ _ _ _ _ _ _ _ _ _) := X4.out.grew F.out
    have d4 := block_cell Bw.out 4
    have cqd : wr.drew.cell? (q.add j) = some (.int .i64 i) := cq
    have c1d : wr.drew.cell? ⟨wb, 1, none⟩ = some (.int .i64 (n : Int)) := Xw.out.c.2.1
    have d4d : wr.drew.cell? ⟨bx, 4, none⟩ = some (.slice (some q) vn vc) := d4
    have d0d : wr.drew.cell? ⟨bx, 0, none⟩ = some (.int .i64 8) := block_cell Bw.out 0
    clear hi
    go_wp2_with fail
    clear d4 cq
    go_region_with (go_at_call 37; refine HOV.out.mono ?_; rintro e W5 ⟨r5, rfl, ⟨hb, hnw⟩, hf⟩)
    all_goals
     have Z5 : Hid (BVz L' W5 r5 (overL n G i false)) := hb.zo hnw (Z.out.frg hf fun _ _ _ => trivial) (overL_len _ _ _ _) Xw.out.tat.hi
     have F5 : Hid (Fr (fun _ => True) W4 W5) := F.out.trans hf
     clear hb hnw hf HOV cqd c1d d4d d0d Z F Bw Xw
     go_wp2_with fail
     go_roundg k
     case measure => omega
     case rel => exact ⟨j + 1, r5, by simp, rfl, by omega, by rw [HS.out]; exact Z5.out, F5.out⟩
  · have hjl : ¬ (j : Int) < (vn : Int) := by omega
    have HE : Hid (vars.take j = vars) := List.take_of_length_le (by rw [HVN.out]; omega)
    have d4 := block_cell Bw.out 4
    have Qw : Hid (wr.ownsRow (bx + 1) 3 1 (.slice vq vn vqc) vn (vars.map (Value.int .i64))) := own_fr Q4.out F.out fun _ _ => trivial
    have HI : Hid (Calls Tryz.prog 25 #[.slice vq vn vqc, .slice vp vn vc] wr fun e w' => e = .returned (.bool (decide (vars = vars))) ∧ ∃ m, w' = wr.drewN m) := Ints_any wr _ _ vars vars (by rw [HVN.out]; exact hvl) (by
     have hq := Qw.out
     exact (own_ir (l := vars) (by rw [HVN.out]; exact hq)).old) (HVA.out wr (F4.out.trans F.out))
    have HTR : Hid (decide (vars = vars) = true) := decide_eq_true rfl
    rw [HTR.out] at HI
    go_wp2_with fail
    refine HI.out.mono ?_
    rintro e W6 ⟨rfl, m, rfl⟩
    have FW : Hid (Fr (fun _ => True) W4 (wr.drewN m)) := ⟨F.out.os, F.out.tape, F.out.output, F.out.size, F.out.block⟩
    have ZW : Hid (BVz L' (wr.drewN m) vf _) := Z.out
    have XW : Hid (LM _ _ _ (wr.drewN m) _ _ _ _ _ _ _ _ _ _ _) := X4.out.grew FW.out
    clear HI d4 Qw Bw F Z
    go_wp2_with fail
    go_ret3
    refine ⟨x', _, T', L', vf, rfl, XW.out, O4.out, ?_, F4.out.trans FW.out, K4.out.trans (FW.out.mono fun _ _ => trivial)⟩
    have hv := O4.out.val
    have hz := ZW.out
    rw [HE.out, ovL_tab] at hz
    rw [hv, wv_ovA HP.out.base.mid.t HGX.out.1.live]
    exact hz
end Go.Proofs.YtaakjjefnjbabaaGreat.Sx
