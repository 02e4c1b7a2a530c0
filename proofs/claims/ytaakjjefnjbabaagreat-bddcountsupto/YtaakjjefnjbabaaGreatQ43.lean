/- The law: a node is made; what lay there is as it was. -/
import Derived.Test.YtaakjjefnjbabaaGreatQ42
set_option maxRecDepth 100000
namespace Go.Proofs.YtaakjjefnjbabaaGreat.Sx
open Go.RowKit Go.Sort Go.Maps Go.WideMaps
set_option maxHeartbeats 4000000 in
theorem made2_ite (w0 W : World) (wb tb n k : Nat) (L : Ly) (lv : Nat → Nat) (T : Tb) (nodes : List Nat) (fs given : List (List Bool)) (ord : List Nat) (nv fv ov gv vo : Value) (o : OpR) (h : LM w0.heap.size wb tb W L n T nodes fs given ord nv fv ov gv) (hp : LP k n lv T nodes fs given) (hv : OpV w0 vo o) (hok : OpOK o) (hF : Fr (fun _ => True) w0 W) (hk : o.kind = 2) :
 Calls Tryz.prog 10 #[.pointer (some ⟨wb, 0, none⟩), vo] W (MadePost2 w0 W L wb tb n lv T nodes fs given ord nv fv ov gv) := by
 obtain ⟨va, vb, rfl, ⟨hva, hvnil⟩, hvb⟩ := hv
 obtain ⟨ok, oa, ob, oc, vars, vals⟩ := o
 have hka := hok.a
 have hkb := hok.b
 have hkc := hok.c
 have hvl : vars.length ≤ 1099511627776 := hok.vl
 obtain ⟨hn0, hn63⟩ := hp.nlt
 have hlen := hp.len
 have h512 := pow9 hp.n9
 have hN9 : Hid (n ≤ 9) := hp.n9
 have HVA : Hid (∀ W, Fr (fun _ => True) w0 W → IW W va vars) := fun W F => hva.fr F
 have HP : Hid (LP k n lv T nodes fs given) := hp
 obtain ⟨ia, hia⟩ : ∃ i, pickN oa nodes.length = i := ⟨_, rfl⟩
 obtain ⟨ib, hib⟩ : ∃ i, pickN ob nodes.length = i := ⟨_, rfl⟩
 obtain ⟨ic, hic⟩ : ∃ i, pickN oc nodes.length = i := ⟨_, rfl⟩
 have hial : ia < nodes.length := by rw [← hia]; exact pickN_lt hn0
 have hibl : ib < nodes.length := by rw [← hib]; exact pickN_lt hn0
 have hicl : ic < nodes.length := by rw [← hic]; exact pickN_lt hn0
 obtain ⟨x, hx⟩ : ∃ x, nodes[ia]? = some x := ⟨_, List.getElem?_eq_getElem hial⟩
 obtain ⟨y, hy⟩ : ∃ y, nodes[ib]? = some y := ⟨_, List.getElem?_eq_getElem hibl⟩
 obtain ⟨z, hz⟩ : ∃ z, nodes[ic]? = some z := ⟨_, List.getElem?_eq_getElem hicl⟩
 obtain ⟨fa, hfa, hgx, hex⟩ := hp.live hx
 obtain ⟨fb, hfb, hgy, hey⟩ := hp.live hy
 obtain ⟨fc, hfc, hgz, hez⟩ := hp.live hz
 have B1 : Hid ((W.alloc (.cells #[.int .i64 ok, .int .i64 oa, .int .i64 ob, .int .i64 oc, va, vb] 30)).heap[W.heap.size]? = some (.cells #[.int .i64 ok, .int .i64 oa, .int .i64 ob, .int .i64 oc, va, vb] 30 (0, 0))) := heap_new rfl
 have X1 : Hid (LM _ _ _ (W.alloc (.cells #[.int .i64 ok, .int .i64 oa, .int .i64 ob, .int .i64 oc, va, vb] 30)) _ _ _ _ _ _ _ _ _ _ _) := h.grew ((Fr.refl _ W).alloc _)
 have F1 : Hid (Fr (fun _ => True) w0 (W.alloc (.cells #[.int .i64 ok, .int .i64 oa, .int .i64 ob, .int .i64 oc, va, vb] 30))) := hF.alloc _
 have K1 : Hid (Fr (fun b => L.own b = 0) W (W.alloc (.cells #[.int .i64 ok, .int .i64 oa, .int .i64 ob, .int .i64 oc, va, vb] 30))) := (Fr.refl _ W).alloc _
 have hsz1 : (W.alloc (.cells #[.int .i64 ok, .int .i64 oa, .int .i64 ob, .int .i64 oc, va, vb] 30)).heap.size = W.heap.size + 1 := by simp
 obtain ⟨W1, hW1⟩ : ∃ W1, W.alloc (.cells #[.int .i64 ok, .int .i64 oa, .int .i64 ob, .int .i64 oc, va, vb] 30) = W1 := ⟨_, rfl⟩
 obtain ⟨bx, hbx⟩ : ∃ bx, W.heap.size = bx := ⟨_, rfl⟩
 rw [hW1] at B1 X1 F1 K1 hsz1
 rw [hbx] at B1 hsz1
 have LBX0 : Hid (L.own bx = 0) := h.tat.hi bx (by omega)
 have HPA : Hid (∀ W', Calls Tryz.prog 17 #[.int .i64 oa, .int .i64 (nodes.length : Int)] W' fun e w' => e = .returned (.int .i64 (ia : Int)) ∧ w' = W') := fun W' => by rw [← hia]; exact pick_any W' oa _ hka.1 hka.2 hn0 hn63
 have HPB : Hid (∀ W', Calls Tryz.prog 17 #[.int .i64 ob, .int .i64 (nodes.length : Int)] W' fun e w' => e = .returned (.int .i64 (ib : Int)) ∧ w' = W') := fun W' => by rw [← hib]; exact pick_any W' ob _ hkb.1 hkb.2 hn0 hn63
 have HPC : Hid (∀ W', Calls Tryz.prog 17 #[.int .i64 oc, .int .i64 (nodes.length : Int)] W' fun e w' => e = .returned (.int .i64 (ic : Int)) ∧ w' = W') := fun W' => by rw [← hic]; exact pick_any W' oc _ hkc.1 hkc.2 hn0 hn63
 obtain ⟨ng, nc, hnv, cx⟩ := X1.out.node hx
 obtain ⟨ng2, nc2, hnv2, cy⟩ := X1.out.node hy
 obtain ⟨ng3, nc3, hnv3, cz⟩ := X1.out.node hz
 rw [hnv] at hnv2 hnv3
 injection hnv2 with e1 _ e2
 injection hnv3 with e3 _ e4
 cases e1; cases e2; cases e3; cases e4
 obtain ⟨fg, fcc, pa, la, qa, hfv, cfa, zfa⟩ := X1.out.fat hfa
 obtain ⟨fg1, fc1, pb, lb, qb, hfv1, cfb, zfb⟩ := X1.out.fat hfb
 obtain ⟨fg2, fc2, pc, lc, qc, hfv2, cfc, zfc⟩ := X1.out.fat hfc
 obtain ⟨fg3, fc3, p0, l0, q0, hfv3, cf0, zf0⟩ := X1.out.fat hp.h0
 obtain ⟨fg4, fc4, p1, l1, q1, hfv4, cf1, zf1⟩ := X1.out.fat hp.h1
 rw [hfv] at hfv1 hfv2 hfv3 hfv4
 injection hfv1 with e1 _ e2
 cases e1; cases e2
 injection hfv2 with e1 _ e2
 cases e1; cases e2
 injection hfv3 with e1 _ e2
 cases e1; cases e2
 injection hfv4 with e1 _ e2
 cases e1; cases e2
 have ZA : Hid (BVz L W1 (.slice pa la qa) (tab n (vl n T x))) := by rw [← hex]; exact zfa
 have ZB : Hid (BVz L W1 (.slice pb lb qb) (tab n (vl n T y))) := by rw [← hey]; exact zfb
 have ZC : Hid (BVz L W1 (.slice pc lc qc) (tab n (vl n T z))) := by rw [← hez]; exact zfc
 have Z0 : Hid (BVz L W1 (.slice p0 l0 q0) (tab n fun _ => false)) := zf0
 have Z1 : Hid (BVz L W1 (.slice p1 l1 q1) (tab n fun _ => true)) := zf1
 have HGX : Hid (Giv T x ∧ Giv T y ∧ Giv T z) := ⟨hgx, hgy, hgz⟩
 obtain ⟨-, c1, c2, c3, -, -⟩ := X1.out.c
 rw [hnv] at c2
 rw [hfv] at c3
 obtain ⟨N, hNN⟩ : ∃ N, nodes.length = N := ⟨_, rfl⟩
 rw [← hlen] at c3
 have HNV : Hid (nv = .slice (some ⟨ng, 0, none⟩) nodes.length nc ∧ fv = .slice (some ⟨fg, 0, none⟩) fs.length fcc) := ⟨hnv, hfv⟩
 have HLEN : Hid (nodes.length = N ∧ fs.length = N) := ⟨hNN, by rw [← hlen]; exact hNN⟩
 have hn2 := hp.two
 rw [hNN] at c2 c3 HPA HPB HPC hial hibl hicl hn2
 have hial' : (ia : Int) < (N : Int) := by omega
 have hibl' : (ib : Int) < (N : Int) := by omega
 have hicl' : (ic : Int) < (N : Int) := by omega
 have hi0 : (0 : Int) < (N : Int) := by omega
 have hi1 : (1 : Int) < (N : Int) := by omega
 have d0 := block_cell B1.out 0
 have d1 := block_cell B1.out 1
 have d2 := block_cell B1.out 2
 have d3 := block_cell B1.out 3
 have d4 := block_cell B1.out 4
 obtain ⟨vp, vc, hvv, hvi⟩ := (HVA.out W1 F1.out).at
 subst hvv
 obtain ⟨vn, hvn⟩ : ∃ vn, vars.length = vn := ⟨_, rfl⟩
 have HVN : Hid (vars.length = vn) := hvn
 have HVI : Hid (∀ W, Fr (fun _ => True) w0 W → IntsV W vp vars) := fun W F => by
  obtain ⟨a, c, e, h⟩ := (HVA.out W F).at
  injection e with e1 _ _
  rw [e1]; exact h
 rw [hvn] at hvl d4 HVA B1 hW1 ⊢
 have HNI : Hid (vp = none → vn = 0 ∧ vc = 0) := fun e => by
  have := hvnil vars.length vc (by rw [e])
  rw [hvn] at this
  exact this
 have mo := follows
 obtain ⟨i0, hI0, hZ0, hZ1, hZ2⟩ := infoInt
 subst hk
 clear h hp hok hF hgx hgy hgz hex hey hez hx hy hz hfa hfb hfc hnv hfv hlen hNN zfa zfb zfc zf0 zf1 hvi hvn hka hkb hkc hia hib hic hn0 hn63 hva hvb hvnil
 go_enter Tryz.func10, Tryz.ntmps10
 go_wp2_with fail
 clear hW1 hbx
 refine (HPA.out _).mono ?_
 rintro e w' ⟨rfl, hw⟩; replace hw := hw.symm; subst hw
 go_wp2_with fail
 refine (HPB.out _).mono ?_
 rintro e w' ⟨rfl, hw⟩; replace hw := hw.symm; subst hw
 go_wp2_with fail
 refine (HPC.out _).mono ?_
 rintro e w' ⟨rfl, hw⟩; replace hw := hw.symm; subst hw
 clear HPA HPB HPC
 have HOE : Hid ((W1.alloc (.cells #[] 3)).ownsRow W1.heap.size 3 1 (.slice (some ⟨W1.heap.size, 0, none⟩) 0 0) 0 []) := ⟨rfl, .inr ⟨W1.heap.size, 0, #[], rfl, Nat.le_refl _, heap_new rfl, Nat.le_refl _, by unfold maxLen; omega, rfl, rfl⟩⟩
 rw [hsz1] at HOE
 have HVC : Hid (∀ ad, vp = some ad → ∀ j u, (vars.map (Value.int .i64))[j]? = some u → (W1.alloc (.cells #[] 3)).cell? (ad.add j) = some u) := fun ad had j u hu => by
  rw [List.getElem?_map] at hu
  cases hx : vars[j]? with
  | none => rw [hx] at hu; cases hu
  | some a =>
    rw [hx] at hu
    obtain rfl : Value.int .i64 a = u := Option.some.inj hu
    obtain ⟨q, e, hc⟩ := (HVI.out W1 F1.out).cell j a hx
    rw [had] at e
    cases e
    exact (World.cell?_of_block (w := W1) (heap_old (World.block_lt_of_cell? W1 _ hc))).trans hc
 have hmx : 0 + vn ≤ maxLen := by unfold maxLen; omega
 have hlv : (vars.map (Value.int .i64)).length = vn := by rw [List.length_map]; exact HVN.out
 have hsz2 : bx + 1 ≤ (W1.alloc (.cells #[] 3)).heap.size := by simp; omega
 go_wp2_with (at_builtin; refine wpList_append_own_any rfl _ _ 27 rfl (bx + 1) 3 i0 _ 8 Tryz.underlying27 hI0 hZ0 hZ1 hZ2 rfl (.slice (some ⟨bx + 1, 0, none⟩) 0 0) 0 [] rfl HOE.out vp vn vc (vars.map (Value.int .i64)) rfl hlv HNI.out HVC.out (ints_oneCell .i64 vars) hmx (by omega) hsz2 ?_)
 intro v3 W3 ho3 hg3
 have F13 : Hid (Fr (fun _ => True) W1 W3) := own_grown ((Fr.refl _ W1).alloc _) (by rw [hsz1]; exact HOE.out) hg3
 have F3 : Hid (Fr (fun _ => True) w0 W3) := F1.out.trans F13.out
 have K3 : Hid (Fr (fun b => L.own b = 0) W W3) := K1.out.trans (Fr.mono F13.out fun _ _ => trivial)
 have X3 : Hid (LM _ _ _ W3 _ _ _ _ _ _ _ _ _ _ _) := X1.out.grew F13.out
 have B3 : Hid (W3.heap[bx]? = some (.cells #[.int .i64 2, .int .i64 oa, .int .i64 ob, .int .i64 oc, .slice vp vn vc, vb] 30 (0, 0))) := (F13.out.block bx (block_lt B1.out) trivial).trans B1.out
 have ZA3 : Hid (BVz L W3 _ _) := ZA.out.frg F13.out fun _ _ _ => trivial
 have ZB3 : Hid (BVz L W3 _ _) := ZB.out.frg F13.out fun _ _ _ => trivial
 have ZC3 : Hid (BVz L W3 _ _) := ZC.out.frg F13.out fun _ _ _ => trivial
 have Z03 : Hid (BVz L W3 _ _) := Z0.out.frg F13.out fun _ _ _ => trivial
 have Z13 : Hid (BVz L W3 _ _) := Z1.out.frg F13.out fun _ _ _ => trivial
 obtain ⟨vq, vqc, hv3⟩ := own_slice ho3
 subst hv3
 have HQ3 : Hid (W3.ownsRow (bx + 1) 3 1 (.slice vq vn vqc) vn (vars.map (Value.int .i64))) := by first | exact ho3 | (rw [Nat.zero_add, List.nil_append] at ho3; exact ho3)
 have LQ3 : Hid (∀ k, (Value.slice vq vn vqc).ownBlock = some k → L.own k = 0) := fun k hk => X1.out.tat.hi k (by have := (HQ3.out.lt k hk).1; omega)
 have c0 := X3.out.c.1
 have d0 := block_cell B3.out 0
 obtain ⟨hroom1, hroom2, hroom3, hroom4⟩ := HP.out.rooms
 clear ho3 hg3 HOE HVC hmx hlv hsz2 ZA ZB ZC Z0 Z1 F13 F1 X1 B1 c1 c2 c3 d1 d2 d3 d4 cx cy cz cfa cfb cfc cf0 cf1 hsz1
 have HT : Hid (Calls _ _ _ _ _) := Ite_out X3.out.tat HP.out.base x y z HGX.out.1.live HGX.out.2.1.live HGX.out.2.2.live hroom1
 clear hroom1 hroom2 hroom3 hroom4
 go_wp2_with fail
 refine HT.out.mono ?_
 rintro e W4 ⟨x', T', L', rfl, hX4, hF4, hO4⟩
 have X4 : Hid (LM _ _ _ W4 _ _ _ _ _ _ _ _ _ _ _) := X3.out.frT hF4 hX4
 have O4 : Hid (Out _ _ _ _ _ _ _) := hO4
 have F4 : Hid (Fr (fun _ => True) w0 W4) := F3.out.table hF4 X3.out.low
 have K4 : Hid (Fr (fun b => L.own b = 0) W W4) := K3.out.tableK hF4
 have ZA4 : Hid (BVz L' W4 _ _) := ZA3.out.frT hF4
 have ZB4 : Hid (BVz L' W4 _ _) := ZB3.out.frT hF4
 have ZC4 : Hid (BVz L' W4 _ _) := ZC3.out.frT hF4
 have Z04 : Hid (BVz L' W4 _ _) := Z03.out.frT hF4
 have Z14 : Hid (BVz L' W4 _ _) := Z13.out.frT hF4
 clear hX4 hF4 hO4 HT c0 d0 ZA3 ZB3 ZC3 Z03 Z13 X3 F3
 have HR4 : Hid (Calls _ _ _ _ _) := rIte_any W4 _ _ _ _ _ _ (2 ^ n) (by omega) ZA4.out.bv ZB4.out.bv ZC4.out.bv (tab_len _ _) (tab_len _ _) (tab_len _ _)
 go_wp2_with fail
 refine HR4.out.mono ?_
 rintro e W5 ⟨r5, rfl, ⟨hb, hnw⟩, hf⟩
 have X5 : Hid (LM _ _ _ W5 _ _ _ _ _ _ _ _ _ _ _) := X4.out.grew hf
 have F5 : Hid (Fr (fun _ => True) w0 W5) := F4.out.trans hf
 have K5 : Hid (Fr (fun b => L.own b = 0) W W5) := K4.out.trans (Fr.mono hf fun _ _ => trivial)
 have ZM5 : Hid (BVz L' W5 r5 _) := hb.z hnw X4.out.tat.hi
 have XE : Hid _ := X5
 have FE : Hid _ := F5
 have KE : Hid (Fr (fun b => L.own b = 0) W _) := K5
 have ZE : Hid _ := ZM5
 rw [iteL_tab] at ZE
 clear hb hnw hf HR4
 go_wp2_with fail
 go_ret3
 refine ⟨x', _, T', L', _, rfl, XE.out, O4.out, ?_, FE.out, KE.out⟩
 have := ZE.out
 have hv := O4.out.val
 rw [hv]
 exact this
set_option maxHeartbeats 4000000 in
theorem made2_not (w0 W : World) (wb tb n k : Nat) (L : Ly) (lv : Nat → Nat) (T : Tb) (nodes : List Nat) (fs given : List (List Bool)) (ord : List Nat) (nv fv ov gv vo : Value) (o : OpR) (h : LM w0.heap.size wb tb W L n T nodes fs given ord nv fv ov gv) (hp : LP k n lv T nodes fs given) (hv : OpV w0 vo o) (hok : OpOK o) (hF : Fr (fun _ => True) w0 W) (hk : o.kind = 3) :
 Calls Tryz.prog 10 #[.pointer (some ⟨wb, 0, none⟩), vo] W (MadePost2 w0 W L wb tb n lv T nodes fs given ord nv fv ov gv) := by
 obtain ⟨va, vb, rfl, ⟨hva, hvnil⟩, hvb⟩ := hv
 obtain ⟨ok, oa, ob, oc, vars, vals⟩ := o
 have hka := hok.a
 have hkb := hok.b
 have hkc := hok.c
 have hvl : vars.length ≤ 1099511627776 := hok.vl
 obtain ⟨hn0, hn63⟩ := hp.nlt
 have hlen := hp.len
 have h512 := pow9 hp.n9
 have hN9 : Hid (n ≤ 9) := hp.n9
 have HVA : Hid (∀ W, Fr (fun _ => True) w0 W → IW W va vars) := fun W F => hva.fr F
 have HP : Hid (LP k n lv T nodes fs given) := hp
 obtain ⟨ia, hia⟩ : ∃ i, pickN oa nodes.length = i := ⟨_, rfl⟩
 obtain ⟨ib, hib⟩ : ∃ i, pickN ob nodes.length = i := ⟨_, rfl⟩
 obtain ⟨ic, hic⟩ : ∃ i, pickN oc nodes.length = i := ⟨_, rfl⟩
 have hial : ia < nodes.length := by rw [← hia]; exact pickN_lt hn0
 have hibl : ib < nodes.length := by rw [← hib]; exact pickN_lt hn0
 have hicl : ic < nodes.length := by rw [← hic]; exact pickN_lt hn0
 obtain ⟨x, hx⟩ : ∃ x, nodes[ia]? = some x := ⟨_, List.getElem?_eq_getElem hial⟩
 obtain ⟨y, hy⟩ : ∃ y, nodes[ib]? = some y := ⟨_, List.getElem?_eq_getElem hibl⟩
 obtain ⟨z, hz⟩ : ∃ z, nodes[ic]? = some z := ⟨_, List.getElem?_eq_getElem hicl⟩
 obtain ⟨fa, hfa, hgx, hex⟩ := hp.live hx
 obtain ⟨fb, hfb, hgy, hey⟩ := hp.live hy
 obtain ⟨fc, hfc, hgz, hez⟩ := hp.live hz
 have B1 : Hid ((W.alloc (.cells #[.int .i64 ok, .int .i64 oa, .int .i64 ob, .int .i64 oc, va, vb] 30)).heap[W.heap.size]? = some (.cells #[.int .i64 ok, .int .i64 oa, .int .i64 ob, .int .i64 oc, va, vb] 30 (0, 0))) := heap_new rfl
 have X1 : Hid (LM _ _ _ (W.alloc (.cells #[.int .i64 ok, .int .i64 oa, .int .i64 ob, .int .i64 oc, va, vb] 30)) _ _ _ _ _ _ _ _ _ _ _) := h.grew ((Fr.refl _ W).alloc _)
 have F1 : Hid (Fr (fun _ => True) w0 (W.alloc (.cells #[.int .i64 ok, .int .i64 oa, .int .i64 ob, .int .i64 oc, va, vb] 30))) := hF.alloc _
 have K1 : Hid (Fr (fun b => L.own b = 0) W (W.alloc (.cells #[.int .i64 ok, .int .i64 oa, .int .i64 ob, .int .i64 oc, va, vb] 30))) := (Fr.refl _ W).alloc _
 have hsz1 : (W.alloc (.cells #[.int .i64 ok, .int .i64 oa, .int .i64 ob, .int .i64 oc, va, vb] 30)).heap.size = W.heap.size + 1 := by simp
 obtain ⟨W1, hW1⟩ : ∃ W1, W.alloc (.cells #[.int .i64 ok, .int .i64 oa, .int .i64 ob, .int .i64 oc, va, vb] 30) = W1 := ⟨_, rfl⟩
 obtain ⟨bx, hbx⟩ : ∃ bx, W.heap.size = bx := ⟨_, rfl⟩
 rw [hW1] at B1 X1 F1 K1 hsz1
 rw [hbx] at B1 hsz1
 have LBX0 : Hid (L.own bx = 0) := h.tat.hi bx (by omega)
 have HPA : Hid (∀ W', Calls Tryz.prog 17 #[.int .i64 oa, .int .i64 (nodes.length : Int)] W' fun e w' => e = .returned (.int .i64 (ia : Int)) ∧ w' = W') := fun W' => by rw [← hia]; exact pick_any W' oa _ hka.1 hka.2 hn0 hn63
 have HPB : Hid (∀ W', Calls Tryz.prog 17 #[.int .i64 ob, .int .i64 (nodes.length : Int)] W' fun e w' => e = .returned (.int .i64 (ib : Int)) ∧ w' = W') := fun W' => by rw [← hib]; exact pick_any W' ob _ hkb.1 hkb.2 hn0 hn63
 have HPC : Hid (∀ W', Calls Tryz.prog 17 #[.int .i64 oc, .int .i64 (nodes.length : Int)] W' fun e w' => e = .returned (.int .i64 (ic : Int)) ∧ w' = W') := fun W' => by rw [← hic]; exact pick_any W' oc _ hkc.1 hkc.2 hn0 hn63
 obtain ⟨ng, nc, hnv, cx⟩ := X1.out.node hx
 obtain ⟨ng2, nc2, hnv2, cy⟩ := X1.out.node hy
 obtain ⟨ng3, nc3, hnv3, cz⟩ := X1.out.node hz
 rw [hnv] at hnv2 hnv3
 injection hnv2 with e1 _ e2
 injection hnv3 with e3 _ e4
 cases e1; cases e2; cases e3; cases e4
 obtain ⟨fg, fcc, pa, la, qa, hfv, cfa, zfa⟩ := X1.out.fat hfa
 obtain ⟨fg1, fc1, pb, lb, qb, hfv1, cfb, zfb⟩ := X1.out.fat hfb
 obtain ⟨fg2, fc2, pc, lc, qc, hfv2, cfc, zfc⟩ := X1.out.fat hfc
 obtain ⟨fg3, fc3, p0, l0, q0, hfv3, cf0, zf0⟩ := X1.out.fat hp.h0
 obtain ⟨fg4, fc4, p1, l1, q1, hfv4, cf1, zf1⟩ := X1.out.fat hp.h1
 rw [hfv] at hfv1 hfv2 hfv3 hfv4
 injection hfv1 with e1 _ e2
 cases e1; cases e2
 injection hfv2 with e1 _ e2
 cases e1; cases e2
 injection hfv3 with e1 _ e2
 cases e1; cases e2
 injection hfv4 with e1 _ e2
 cases e1; cases e2
 have ZA : Hid (BVz L W1 (.slice pa la qa) (tab n (vl n T x))) := by rw [← hex]; exact zfa
 have ZB : Hid (BVz L W1 (.slice pb lb qb) (tab n (vl n T y))) := by rw [← hey]; exact zfb
 have ZC : Hid (BVz L W1 (.slice pc lc qc) (tab n (vl n T z))) := by rw [← hez]; exact zfc
 have Z0 : Hid (BVz L W1 (.slice p0 l0 q0) (tab n fun _ => false)) := zf0
 have Z1 : Hid (BVz L W1 (.slice p1 l1 q1) (tab n fun _ => true)) := zf1
 have HGX : Hid (Giv T x ∧ Giv T y ∧ Giv T z) := ⟨hgx, hgy, hgz⟩
 obtain ⟨-, c1, c2, c3, -, -⟩ := X1.out.c
 rw [hnv] at c2
 rw [hfv] at c3
 obtain ⟨N, hNN⟩ : ∃ N, nodes.length = N := ⟨_, rfl⟩
 rw [← hlen] at c3
 have HNV : Hid (nv = .slice (some ⟨ng, 0, none⟩) nodes.length nc ∧ fv = .slice (some ⟨fg, 0, none⟩) fs.length fcc) := ⟨hnv, hfv⟩
 have HLEN : Hid (nodes.length = N ∧ fs.length = N) := ⟨hNN, by rw [← hlen]; exact hNN⟩
 have hn2 := hp.two
 rw [hNN] at c2 c3 HPA HPB HPC hial hibl hicl hn2
 have hial' : (ia : Int) < (N : Int) := by omega
 have hibl' : (ib : Int) < (N : Int) := by omega
 have hicl' : (ic : Int) < (N : Int) := by omega
 have hi0 : (0 : Int) < (N : Int) := by omega
 have hi1 : (1 : Int) < (N : Int) := by omega
 have d0 := block_cell B1.out 0
 have d1 := block_cell B1.out 1
 have d2 := block_cell B1.out 2
 have d3 := block_cell B1.out 3
 have d4 := block_cell B1.out 4
 obtain ⟨vp, vc, hvv, hvi⟩ := (HVA.out W1 F1.out).at
 subst hvv
 obtain ⟨vn, hvn⟩ : ∃ vn, vars.length = vn := ⟨_, rfl⟩
 have HVN : Hid (vars.length = vn) := hvn
 have HVI : Hid (∀ W, Fr (fun _ => True) w0 W → IntsV W vp vars) := fun W F => by
  obtain ⟨a, c, e, h⟩ := (HVA.out W F).at
  injection e with e1 _ _
  rw [e1]; exact h
 rw [hvn] at hvl d4 HVA B1 hW1 ⊢
 have HNI : Hid (vp = none → vn = 0 ∧ vc = 0) := fun e => by
  have := hvnil vars.length vc (by rw [e])
  rw [hvn] at this
  exact this
 have mo := follows
 obtain ⟨i0, hI0, hZ0, hZ1, hZ2⟩ := infoInt
 subst hk
 clear h hp hok hF hgx hgy hgz hex hey hez hx hy hz hfa hfb hfc hnv hfv hlen hNN zfa zfb zfc zf0 zf1 hvi hvn hka hkb hkc hia hib hic hn0 hn63 hva hvb hvnil
 go_enter Tryz.func10, Tryz.ntmps10
 go_wp2_with fail
 clear hW1 hbx
 refine (HPA.out _).mono ?_
 rintro e w' ⟨rfl, hw⟩; replace hw := hw.symm; subst hw
 go_wp2_with fail
 refine (HPB.out _).mono ?_
 rintro e w' ⟨rfl, hw⟩; replace hw := hw.symm; subst hw
 go_wp2_with fail
 refine (HPC.out _).mono ?_
 rintro e w' ⟨rfl, hw⟩; replace hw := hw.symm; subst hw
 clear HPA HPB HPC
 have HOE : Hid ((W1.alloc (.cells #[] 3)).ownsRow W1.heap.size 3 1 (.slice (some ⟨W1.heap.size, 0, none⟩) 0 0) 0 []) := ⟨rfl, .inr ⟨W1.heap.size, 0, #[], rfl, Nat.le_refl _, heap_new rfl, Nat.le_refl _, by unfold maxLen; omega, rfl, rfl⟩⟩
 rw [hsz1] at HOE
 have HVC : Hid (∀ ad, vp = some ad → ∀ j u, (vars.map (Value.int .i64))[j]? = some u → (W1.alloc (.cells #[] 3)).cell? (ad.add j) = some u) := fun ad had j u hu => by
  rw [List.getElem?_map] at hu
  cases hx : vars[j]? with
  | none => rw [hx] at hu; cases hu
  | some a =>
    rw [hx] at hu
    obtain rfl : Value.int .i64 a = u := Option.some.inj hu
    obtain ⟨q, e, hc⟩ := (HVI.out W1 F1.out).cell j a hx
    rw [had] at e
    cases e
    exact (World.cell?_of_block (w := W1) (heap_old (World.block_lt_of_cell? W1 _ hc))).trans hc
 have hmx : 0 + vn ≤ maxLen := by unfold maxLen; omega
 have hlv : (vars.map (Value.int .i64)).length = vn := by rw [List.length_map]; exact HVN.out
 have hsz2 : bx + 1 ≤ (W1.alloc (.cells #[] 3)).heap.size := by simp; omega
 go_wp2_with (at_builtin; refine wpList_append_own_any rfl _ _ 27 rfl (bx + 1) 3 i0 _ 8 Tryz.underlying27 hI0 hZ0 hZ1 hZ2 rfl (.slice (some ⟨bx + 1, 0, none⟩) 0 0) 0 [] rfl HOE.out vp vn vc (vars.map (Value.int .i64)) rfl hlv HNI.out HVC.out (ints_oneCell .i64 vars) hmx (by omega) hsz2 ?_)
 intro v3 W3 ho3 hg3
 have F13 : Hid (Fr (fun _ => True) W1 W3) := own_grown ((Fr.refl _ W1).alloc _) (by rw [hsz1]; exact HOE.out) hg3
 have F3 : Hid (Fr (fun _ => True) w0 W3) := F1.out.trans F13.out
 have K3 : Hid (Fr (fun b => L.own b = 0) W W3) := K1.out.trans (Fr.mono F13.out fun _ _ => trivial)
 have X3 : Hid (LM _ _ _ W3 _ _ _ _ _ _ _ _ _ _ _) := X1.out.grew F13.out
 have B3 : Hid (W3.heap[bx]? = some (.cells #[.int .i64 3, .int .i64 oa, .int .i64 ob, .int .i64 oc, .slice vp vn vc, vb] 30 (0, 0))) := (F13.out.block bx (block_lt B1.out) trivial).trans B1.out
 have ZA3 : Hid (BVz L W3 _ _) := ZA.out.frg F13.out fun _ _ _ => trivial
 have ZB3 : Hid (BVz L W3 _ _) := ZB.out.frg F13.out fun _ _ _ => trivial
 have ZC3 : Hid (BVz L W3 _ _) := ZC.out.frg F13.out fun _ _ _ => trivial
 have Z03 : Hid (BVz L W3 _ _) := Z0.out.frg F13.out fun _ _ _ => trivial
 have Z13 : Hid (BVz L W3 _ _) := Z1.out.frg F13.out fun _ _ _ => trivial
 obtain ⟨vq, vqc, hv3⟩ := own_slice ho3
 subst hv3
 have HQ3 : Hid (W3.ownsRow (bx + 1) 3 1 (.slice vq vn vqc) vn (vars.map (Value.int .i64))) := by first | exact ho3 | (rw [Nat.zero_add, List.nil_append] at ho3; exact ho3)
 have LQ3 : Hid (∀ k, (Value.slice vq vn vqc).ownBlock = some k → L.own k = 0) := fun k hk => X1.out.tat.hi k (by have := (HQ3.out.lt k hk).1; omega)
 have c0 := X3.out.c.1
 have d0 := block_cell B3.out 0
 obtain ⟨hroom1, hroom2, hroom3, hroom4⟩ := HP.out.rooms
 clear ho3 hg3 HOE HVC hmx hlv hsz2 ZA ZB ZC Z0 Z1 F13 F1 X1 B1 c1 c2 c3 d1 d2 d3 d4 cx cy cz cfa cfb cfc cf0 cf1 hsz1
 have HT : Hid (Calls _ _ _ _ _) := Not_out X3.out.tat HP.out.base x HGX.out.1.live hroom1
 clear hroom1 hroom2 hroom3 hroom4
 go_wp2_with fail
 refine HT.out.mono ?_
 rintro e W4 ⟨x', T', L', rfl, hX4, hF4, hO4⟩
 have X4 : Hid (LM _ _ _ W4 _ _ _ _ _ _ _ _ _ _ _) := X3.out.frT hF4 hX4
 have O4 : Hid (Out _ _ _ _ _ _ _) := hO4
 have F4 : Hid (Fr (fun _ => True) w0 W4) := F3.out.table hF4 X3.out.low
 have K4 : Hid (Fr (fun b => L.own b = 0) W W4) := K3.out.tableK hF4
 have ZA4 : Hid (BVz L' W4 _ _) := ZA3.out.frT hF4
 have ZB4 : Hid (BVz L' W4 _ _) := ZB3.out.frT hF4
 have ZC4 : Hid (BVz L' W4 _ _) := ZC3.out.frT hF4
 have Z04 : Hid (BVz L' W4 _ _) := Z03.out.frT hF4
 have Z14 : Hid (BVz L' W4 _ _) := Z13.out.frT hF4
 clear hX4 hF4 hO4 HT c0 d0 ZA3 ZB3 ZC3 Z03 Z13 X3 F3
 have HR4 : Hid (Calls _ _ _ _ _) := rIte_any W4 _ _ _ _ _ _ (2 ^ n) (by omega) ZA4.out.bv Z04.out.bv Z14.out.bv (tab_len _ _) (tab_len _ _) (tab_len _ _)
 go_wp2_with fail
 refine HR4.out.mono ?_
 rintro e W5 ⟨r5, rfl, ⟨hb, hnw⟩, hf⟩
 have X5 : Hid (LM _ _ _ W5 _ _ _ _ _ _ _ _ _ _ _) := X4.out.grew hf
 have F5 : Hid (Fr (fun _ => True) w0 W5) := F4.out.trans hf
 have K5 : Hid (Fr (fun b => L.own b = 0) W W5) := K4.out.trans (Fr.mono hf fun _ _ => trivial)
 have ZM5 : Hid (BVz L' W5 r5 _) := hb.z hnw X4.out.tat.hi
 have XE : Hid _ := X5
 have FE : Hid _ := F5
 have KE : Hid (Fr (fun b => L.own b = 0) W _) := K5
 have ZE : Hid _ := ZM5
 rw [iteL_tab] at ZE
 clear hb hnw hf HR4
 go_wp2_with fail
 go_ret3
 refine ⟨x', _, T', L', _, rfl, XE.out, O4.out, ?_, FE.out, KE.out⟩
 have := ZE.out
 have hv := O4.out.val
 rw [hv]
 exact this
set_option maxHeartbeats 4000000 in
theorem made2_and (w0 W : World) (wb tb n k : Nat) (L : Ly) (lv : Nat → Nat) (T : Tb) (nodes : List Nat) (fs given : List (List Bool)) (ord : List Nat) (nv fv ov gv vo : Value) (o : OpR) (h : LM w0.heap.size wb tb W L n T nodes fs given ord nv fv ov gv) (hp : LP k n lv T nodes fs given) (hv : OpV w0 vo o) (hok : OpOK o) (hF : Fr (fun _ => True) w0 W) (hk : o.kind = 4) :
 Calls Tryz.prog 10 #[.pointer (some ⟨wb, 0, none⟩), vo] W (MadePost2 w0 W L wb tb n lv T nodes fs given ord nv fv ov gv) := by
 obtain ⟨va, vb, rfl, ⟨hva, hvnil⟩, hvb⟩ := hv
 obtain ⟨ok, oa, ob, oc, vars, vals⟩ := o
 have hka := hok.a
 have hkb := hok.b
 have hkc := hok.c
 have hvl : vars.length ≤ 1099511627776 := hok.vl
 obtain ⟨hn0, hn63⟩ := hp.nlt
 have hlen := hp.len
 have h512 := pow9 hp.n9
 have hN9 : Hid (n ≤ 9) := hp.n9
 have HVA : Hid (∀ W, Fr (fun _ => True) w0 W → IW W va vars) := fun W F => hva.fr F
 have HP : Hid (LP k n lv T nodes fs given) := hp
 obtain ⟨ia, hia⟩ : ∃ i, pickN oa nodes.length = i := ⟨_, rfl⟩
 obtain ⟨ib, hib⟩ : ∃ i, pickN ob nodes.length = i := ⟨_, rfl⟩
 obtain ⟨ic, hic⟩ : ∃ i, pickN oc nodes.length = i := ⟨_, rfl⟩
 have hial : ia < nodes.length := by rw [← hia]; exact pickN_lt hn0
 have hibl : ib < nodes.length := by rw [← hib]; exact pickN_lt hn0
 have hicl : ic < nodes.length := by rw [← hic]; exact pickN_lt hn0
 obtain ⟨x, hx⟩ : ∃ x, nodes[ia]? = some x := ⟨_, List.getElem?_eq_getElem hial⟩
 obtain ⟨y, hy⟩ : ∃ y, nodes[ib]? = some y := ⟨_, List.getElem?_eq_getElem hibl⟩
 obtain ⟨z, hz⟩ : ∃ z, nodes[ic]? = some z := ⟨_, List.getElem?_eq_getElem hicl⟩
 obtain ⟨fa, hfa, hgx, hex⟩ := hp.live hx
 obtain ⟨fb, hfb, hgy, hey⟩ := hp.live hy
 obtain ⟨fc, hfc, hgz, hez⟩ := hp.live hz
 have B1 : Hid ((W.alloc (.cells #[.int .i64 ok, .int .i64 oa, .int .i64 ob, .int .i64 oc, va, vb] 30)).heap[W.heap.size]? = some (.cells #[.int .i64 ok, .int .i64 oa, .int .i64 ob, .int .i64 oc, va, vb] 30 (0, 0))) := heap_new rfl
 have X1 : Hid (LM _ _ _ (W.alloc (.cells #[.int .i64 ok, .int .i64 oa, .int .i64 ob, .int .i64 oc, va, vb] 30)) _ _ _ _ _ _ _ _ _ _ _) := h.grew ((Fr.refl _ W).alloc _)
 have F1 : Hid (Fr (fun _ => True) w0 (W.alloc (.cells #[.int .i64 ok, .int .i64 oa, .int .i64 ob, .int .i64 oc, va, vb] 30))) := hF.alloc _
 have K1 : Hid (Fr (fun b => L.own b = 0) W (W.alloc (.cells #[.int .i64 ok, .int .i64 oa, .int .i64 ob, .int .i64 oc, va, vb] 30))) := (Fr.refl _ W).alloc _
 have hsz1 : (W.alloc (.cells #[.int .i64 ok, .int .i64 oa, .int .i64 ob, .int .i64 oc, va, vb] 30)).heap.size = W.heap.size + 1 := by simp
 obtain ⟨W1, hW1⟩ : ∃ W1, W.alloc (.cells #[.int .i64 ok, .int .i64 oa, .int .i64 ob, .int .i64 oc, va, vb] 30) = W1 := ⟨_, rfl⟩
 obtain ⟨bx, hbx⟩ : ∃ bx, W.heap.size = bx := ⟨_, rfl⟩
 rw [hW1] at B1 X1 F1 K1 hsz1
 rw [hbx] at B1 hsz1
 have LBX0 : Hid (L.own bx = 0) := h.tat.hi bx (by omega)
 have HPA : Hid (∀ W', Calls Tryz.prog 17 #[.int .i64 oa, .int .i64 (nodes.length : Int)] W' fun e w' => e = .returned (.int .i64 (ia : Int)) ∧ w' = W') := fun W' => by rw [← hia]; exact pick_any W' oa _ hka.1 hka.2 hn0 hn63
 have HPB : Hid (∀ W', Calls Tryz.prog 17 #[.int .i64 ob, .int .i64 (nodes.length : Int)] W' fun e w' => e = .returned (.int .i64 (ib : Int)) ∧ w' = W') := fun W' => by rw [← hib]; exact pick_any W' ob _ hkb.1 hkb.2 hn0 hn63
 have HPC : Hid (∀ W', Calls Tryz.prog 17 #[.int .i64 oc, .int .i64 (nodes.length : Int)] W' fun e w' => e = .returned (.int .i64 (ic : Int)) ∧ w' = W') := fun W' => by rw [← hic]; exact pick_any W' oc _ hkc.1 hkc.2 hn0 hn63
 obtain ⟨ng, nc, hnv, cx⟩ := X1.out.node hx
 obtain ⟨ng2, nc2, hnv2, cy⟩ := X1.out.node hy
 obtain ⟨ng3, nc3, hnv3, cz⟩ := X1.out.node hz
 rw [hnv] at hnv2 hnv3
 injection hnv2 with e1 _ e2
 injection hnv3 with e3 _ e4
 cases e1; cases e2; cases e3; cases e4
 obtain ⟨fg, fcc, pa, la, qa, hfv, cfa, zfa⟩ := X1.out.fat hfa
 obtain ⟨fg1, fc1, pb, lb, qb, hfv1, cfb, zfb⟩ := X1.out.fat hfb
 obtain ⟨fg2, fc2, pc, lc, qc, hfv2, cfc, zfc⟩ := X1.out.fat hfc
 obtain ⟨fg3, fc3, p0, l0, q0, hfv3, cf0, zf0⟩ := X1.out.fat hp.h0
 obtain ⟨fg4, fc4, p1, l1, q1, hfv4, cf1, zf1⟩ := X1.out.fat hp.h1
 rw [hfv] at hfv1 hfv2 hfv3 hfv4
 injection hfv1 with e1 _ e2
 cases e1; cases e2
 injection hfv2 with e1 _ e2
 cases e1; cases e2
 injection hfv3 with e1 _ e2
 cases e1; cases e2
 injection hfv4 with e1 _ e2
 cases e1; cases e2
 have ZA : Hid (BVz L W1 (.slice pa la qa) (tab n (vl n T x))) := by rw [← hex]; exact zfa
 have ZB : Hid (BVz L W1 (.slice pb lb qb) (tab n (vl n T y))) := by rw [← hey]; exact zfb
 have ZC : Hid (BVz L W1 (.slice pc lc qc) (tab n (vl n T z))) := by rw [← hez]; exact zfc
 have Z0 : Hid (BVz L W1 (.slice p0 l0 q0) (tab n fun _ => false)) := zf0
 have Z1 : Hid (BVz L W1 (.slice p1 l1 q1) (tab n fun _ => true)) := zf1
 have HGX : Hid (Giv T x ∧ Giv T y ∧ Giv T z) := ⟨hgx, hgy, hgz⟩
 obtain ⟨-, c1, c2, c3, -, -⟩ := X1.out.c
 rw [hnv] at c2
 rw [hfv] at c3
 obtain ⟨N, hNN⟩ : ∃ N, nodes.length = N := ⟨_, rfl⟩
 rw [← hlen] at c3
 have HNV : Hid (nv = .slice (some ⟨ng, 0, none⟩) nodes.length nc ∧ fv = .slice (some ⟨fg, 0, none⟩) fs.length fcc) := ⟨hnv, hfv⟩
 have HLEN : Hid (nodes.length = N ∧ fs.length = N) := ⟨hNN, by rw [← hlen]; exact hNN⟩
 have hn2 := hp.two
 rw [hNN] at c2 c3 HPA HPB HPC hial hibl hicl hn2
 have hial' : (ia : Int) < (N : Int) := by omega
 have hibl' : (ib : Int) < (N : Int) := by omega
 have hicl' : (ic : Int) < (N : Int) := by omega
 have hi0 : (0 : Int) < (N : Int) := by omega
 have hi1 : (1 : Int) < (N : Int) := by omega
 have d0 := block_cell B1.out 0
 have d1 := block_cell B1.out 1
 have d2 := block_cell B1.out 2
 have d3 := block_cell B1.out 3
 have d4 := block_cell B1.out 4
 obtain ⟨vp, vc, hvv, hvi⟩ := (HVA.out W1 F1.out).at
 subst hvv
 obtain ⟨vn, hvn⟩ : ∃ vn, vars.length = vn := ⟨_, rfl⟩
 have HVN : Hid (vars.length = vn) := hvn
 have HVI : Hid (∀ W, Fr (fun _ => True) w0 W → IntsV W vp vars) := fun W F => by
  obtain ⟨a, c, e, h⟩ := (HVA.out W F).at
  injection e with e1 _ _
  rw [e1]; exact h
 rw [hvn] at hvl d4 HVA B1 hW1 ⊢
 have HNI : Hid (vp = none → vn = 0 ∧ vc = 0) := fun e => by
  have := hvnil vars.length vc (by rw [e])
  rw [hvn] at this
  exact this
 have mo := follows
 obtain ⟨i0, hI0, hZ0, hZ1, hZ2⟩ := infoInt
 subst hk
 clear h hp hok hF hgx hgy hgz hex hey hez hx hy hz hfa hfb hfc hnv hfv hlen hNN zfa zfb zfc zf0 zf1 hvi hvn hka hkb hkc hia hib hic hn0 hn63 hva hvb hvnil
 go_enter Tryz.func10, Tryz.ntmps10
 go_wp2_with fail
 clear hW1 hbx
 refine (HPA.out _).mono ?_
 rintro e w' ⟨rfl, hw⟩; replace hw := hw.symm; subst hw
 go_wp2_with fail
 refine (HPB.out _).mono ?_
 rintro e w' ⟨rfl, hw⟩; replace hw := hw.symm; subst hw
 go_wp2_with fail
 refine (HPC.out _).mono ?_
 rintro e w' ⟨rfl, hw⟩; replace hw := hw.symm; subst hw
 clear HPA HPB HPC
 have HOE : Hid ((W1.alloc (.cells #[] 3)).ownsRow W1.heap.size 3 1 (.slice (some ⟨W1.heap.size, 0, none⟩) 0 0) 0 []) := ⟨rfl, .inr ⟨W1.heap.size, 0, #[], rfl, Nat.le_refl _, heap_new rfl, Nat.le_refl _, by unfold maxLen; omega, rfl, rfl⟩⟩
 rw [hsz1] at HOE
 have HVC : Hid (∀ ad, vp = some ad → ∀ j u, (vars.map (Value.int .i64))[j]? = some u → (W1.alloc (.cells #[] 3)).cell? (ad.add j) = some u) := fun ad had j u hu => by
  rw [List.getElem?_map] at hu
  cases hx : vars[j]? with
  | none => rw [hx] at hu; cases hu
  | some a =>
    rw [hx] at hu
    obtain rfl : Value.int .i64 a = u := Option.some.inj hu
    obtain ⟨q, e, hc⟩ := (HVI.out W1 F1.out).cell j a hx
    rw [had] at e
    cases e
    exact (World.cell?_of_block (w := W1) (heap_old (World.block_lt_of_cell? W1 _ hc))).trans hc
 have hmx : 0 + vn ≤ maxLen := by unfold maxLen; omega
 have hlv : (vars.map (Value.int .i64)).length = vn := by rw [List.length_map]; exact HVN.out
 have hsz2 : bx + 1 ≤ (W1.alloc (.cells #[] 3)).heap.size := by simp; omega
 go_wp2_with (at_builtin; refine wpList_append_own_any rfl _ _ 27 rfl (bx + 1) 3 i0 _ 8 Tryz.underlying27 hI0 hZ0 hZ1 hZ2 rfl (.slice (some ⟨bx + 1, 0, none⟩) 0 0) 0 [] rfl HOE.out vp vn vc (vars.map (Value.int .i64)) rfl hlv HNI.out HVC.out (ints_oneCell .i64 vars) hmx (by omega) hsz2 ?_)
 intro v3 W3 ho3 hg3
 have F13 : Hid (Fr (fun _ => True) W1 W3) := own_grown ((Fr.refl _ W1).alloc _) (by rw [hsz1]; exact HOE.out) hg3
 have F3 : Hid (Fr (fun _ => True) w0 W3) := F1.out.trans F13.out
 have K3 : Hid (Fr (fun b => L.own b = 0) W W3) := K1.out.trans (Fr.mono F13.out fun _ _ => trivial)
 have X3 : Hid (LM _ _ _ W3 _ _ _ _ _ _ _ _ _ _ _) := X1.out.grew F13.out
 have B3 : Hid (W3.heap[bx]? = some (.cells #[.int .i64 4, .int .i64 oa, .int .i64 ob, .int .i64 oc, .slice vp vn vc, vb] 30 (0, 0))) := (F13.out.block bx (block_lt B1.out) trivial).trans B1.out
 have ZA3 : Hid (BVz L W3 _ _) := ZA.out.frg F13.out fun _ _ _ => trivial
 have ZB3 : Hid (BVz L W3 _ _) := ZB.out.frg F13.out fun _ _ _ => trivial
 have ZC3 : Hid (BVz L W3 _ _) := ZC.out.frg F13.out fun _ _ _ => trivial
 have Z03 : Hid (BVz L W3 _ _) := Z0.out.frg F13.out fun _ _ _ => trivial
 have Z13 : Hid (BVz L W3 _ _) := Z1.out.frg F13.out fun _ _ _ => trivial
 obtain ⟨vq, vqc, hv3⟩ := own_slice ho3
 subst hv3
 have HQ3 : Hid (W3.ownsRow (bx + 1) 3 1 (.slice vq vn vqc) vn (vars.map (Value.int .i64))) := by first | exact ho3 | (rw [Nat.zero_add, List.nil_append] at ho3; exact ho3)
 have LQ3 : Hid (∀ k, (Value.slice vq vn vqc).ownBlock = some k → L.own k = 0) := fun k hk => X1.out.tat.hi k (by have := (HQ3.out.lt k hk).1; omega)
 have c0 := X3.out.c.1
 have d0 := block_cell B3.out 0
 obtain ⟨hroom1, hroom2, hroom3, hroom4⟩ := HP.out.rooms
 clear ho3 hg3 HOE HVC hmx hlv hsz2 ZA ZB ZC Z0 Z1 F13 F1 X1 B1 c1 c2 c3 d1 d2 d3 d4 cx cy cz cfa cfb cfc cf0 cf1 hsz1
 have HT : Hid (Calls _ _ _ _ _) := And_out X3.out.tat HP.out.base x y HGX.out.1.live HGX.out.2.1.live hroom1
 clear hroom1 hroom2 hroom3 hroom4
 go_wp2_with fail
 refine HT.out.mono ?_
 rintro e W4 ⟨x', T', L', rfl, hX4, hF4, hO4⟩
 have X4 : Hid (LM _ _ _ W4 _ _ _ _ _ _ _ _ _ _ _) := X3.out.frT hF4 hX4
 have O4 : Hid (Out _ _ _ _ _ _ _) := hO4
 have F4 : Hid (Fr (fun _ => True) w0 W4) := F3.out.table hF4 X3.out.low
 have K4 : Hid (Fr (fun b => L.own b = 0) W W4) := K3.out.tableK hF4
 have ZA4 : Hid (BVz L' W4 _ _) := ZA3.out.frT hF4
 have ZB4 : Hid (BVz L' W4 _ _) := ZB3.out.frT hF4
 have ZC4 : Hid (BVz L' W4 _ _) := ZC3.out.frT hF4
 have Z04 : Hid (BVz L' W4 _ _) := Z03.out.frT hF4
 have Z14 : Hid (BVz L' W4 _ _) := Z13.out.frT hF4
 clear hX4 hF4 hO4 HT c0 d0 ZA3 ZB3 ZC3 Z03 Z13 X3 F3
 have HR4 : Hid (Calls _ _ _ _ _) := rIte_any W4 _ _ _ _ _ _ (2 ^ n) (by omega) ZA4.out.bv ZB4.out.bv Z04.out.bv (tab_len _ _) (tab_len _ _) (tab_len _ _)
 go_wp2_with fail
 refine HR4.out.mono ?_
 rintro e W5 ⟨r5, rfl, ⟨hb, hnw⟩, hf⟩
 have X5 : Hid (LM _ _ _ W5 _ _ _ _ _ _ _ _ _ _ _) := X4.out.grew hf
 have F5 : Hid (Fr (fun _ => True) w0 W5) := F4.out.trans hf
 have K5 : Hid (Fr (fun b => L.own b = 0) W W5) := K4.out.trans (Fr.mono hf fun _ _ => trivial)
 have ZM5 : Hid (BVz L' W5 r5 _) := hb.z hnw X4.out.tat.hi
 have XE : Hid _ := X5
 have FE : Hid _ := F5
 have KE : Hid (Fr (fun b => L.own b = 0) W _) := K5
 have ZE : Hid _ := ZM5
 rw [iteL_tab] at ZE
 clear hb hnw hf HR4
 go_wp2_with fail
 go_ret3
 refine ⟨x', _, T', L', _, rfl, XE.out, O4.out, ?_, FE.out, KE.out⟩
 have := ZE.out
 have hv := O4.out.val
 rw [hv]
 exact this
set_option maxHeartbeats 4000000 in
theorem made2_or (w0 W : World) (wb tb n k : Nat) (L : Ly) (lv : Nat → Nat) (T : Tb) (nodes : List Nat) (fs given : List (List Bool)) (ord : List Nat) (nv fv ov gv vo : Value) (o : OpR) (h : LM w0.heap.size wb tb W L n T nodes fs given ord nv fv ov gv) (hp : LP k n lv T nodes fs given) (hv : OpV w0 vo o) (hok : OpOK o) (hF : Fr (fun _ => True) w0 W) (hk : o.kind = 5) :
 Calls Tryz.prog 10 #[.pointer (some ⟨wb, 0, none⟩), vo] W (MadePost2 w0 W L wb tb n lv T nodes fs given ord nv fv ov gv) := by
 obtain ⟨va, vb, rfl, ⟨hva, hvnil⟩, hvb⟩ := hv
 obtain ⟨ok, oa, ob, oc, vars, vals⟩ := o
 have hka := hok.a
 have hkb := hok.b
 have hkc := hok.c
 have hvl : vars.length ≤ 1099511627776 := hok.vl
 obtain ⟨hn0, hn63⟩ := hp.nlt
 have hlen := hp.len
 have h512 := pow9 hp.n9
 have hN9 : Hid (n ≤ 9) := hp.n9
 have HVA : Hid (∀ W, Fr (fun _ => True) w0 W → IW W va vars) := fun W F => hva.fr F
 have HP : Hid (LP k n lv T nodes fs given) := hp
 obtain ⟨ia, hia⟩ : ∃ i, pickN oa nodes.length = i := ⟨_, rfl⟩
 obtain ⟨ib, hib⟩ : ∃ i, pickN ob nodes.length = i := ⟨_, rfl⟩
 obtain ⟨ic, hic⟩ : ∃ i, pickN oc nodes.length = i := ⟨_, rfl⟩
 have hial : ia < nodes.length := by rw [← hia]; exact pickN_lt hn0
 have hibl : ib < nodes.length := by rw [← hib]; exact pickN_lt hn0
 have hicl : ic < nodes.length := by rw [← hic]; exact pickN_lt hn0
 obtain ⟨x, hx⟩ : ∃ x, nodes[ia]? = some x := ⟨_, List.getElem?_eq_getElem hial⟩
 obtain ⟨y, hy⟩ : ∃ y, nodes[ib]? = some y := ⟨_, List.getElem?_eq_getElem hibl⟩
 obtain ⟨z, hz⟩ : ∃ z, nodes[ic]? = some z := ⟨_, List.getElem?_eq_getElem hicl⟩
 obtain ⟨fa, hfa, hgx, hex⟩ := hp.live hx
 obtain ⟨fb, hfb, hgy, hey⟩ := hp.live hy
 obtain ⟨fc, hfc, hgz, hez⟩ := hp.live hz
 have B1 : Hid ((W.alloc (.cells #[.int .i64 ok, .int .i64 oa, .int .i64 ob, .int .i64 oc, va, vb] 30)).heap[W.heap.size]? = some (.cells #[.int .i64 ok, .int .i64 oa, .int .i64 ob, .int .i64 oc, va, vb] 30 (0, 0))) := heap_new rfl
 have X1 : Hid (LM _ _ _ (W.alloc (.cells #[.int .i64 ok, .int .i64 oa, .int .i64 ob, .int .i64 oc, va, vb] 30)) _ _ _ _ _ _ _ _ _ _ _) := h.grew ((Fr.refl _ W).alloc _)
 have F1 : Hid (Fr (fun _ => True) w0 (W.alloc (.cells #[.int .i64 ok, .int .i64 oa, .int .i64 ob, .int .i64 oc, va, vb] 30))) := hF.alloc _
 have K1 : Hid (Fr (fun b => L.own b = 0) W (W.alloc (.cells #[.int .i64 ok, .int .i64 oa, .int .i64 ob, .int .i64 oc, va, vb] 30))) := (Fr.refl _ W).alloc _
 have hsz1 : (W.alloc (.cells #[.int .i64 ok, .int .i64 oa, .int .i64 ob, .int .i64 oc, va, vb] 30)).heap.size = W.heap.size + 1 := by simp
 obtain ⟨W1, hW1⟩ : ∃ W1, W.alloc (.cells #[.int .i64 ok, .int .i64 oa, .int .i64 ob, .int .i64 oc, va, vb] 30) = W1 := ⟨_, rfl⟩
 obtain ⟨bx, hbx⟩ : ∃ bx, W.heap.size = bx := ⟨_, rfl⟩
 rw [hW1] at B1 X1 F1 K1 hsz1
 rw [hbx] at B1 hsz1
 have LBX0 : Hid (L.own bx = 0) := h.tat.hi bx (by omega)
 have HPA : Hid (∀ W', Calls Tryz.prog 17 #[.int .i64 oa, .int .i64 (nodes.length : Int)] W' fun e w' => e = .returned (.int .i64 (ia : Int)) ∧ w' = W') := fun W' => by rw [← hia]; exact pick_any W' oa _ hka.1 hka.2 hn0 hn63
 have HPB : Hid (∀ W', Calls Tryz.prog 17 #[.int .i64 ob, .int .i64 (nodes.length : Int)] W' fun e w' => e = .returned (.int .i64 (ib : Int)) ∧ w' = W') := fun W' => by rw [← hib]; exact pick_any W' ob _ hkb.1 hkb.2 hn0 hn63
 have HPC : Hid (∀ W', Calls Tryz.prog 17 #[.int .i64 oc, .int .i64 (nodes.length : Int)] W' fun e w' => e = .returned (.int .i64 (ic : Int)) ∧ w' = W') := fun W' => by rw [← hic]; exact pick_any W' oc _ hkc.1 hkc.2 hn0 hn63
 obtain ⟨ng, nc, hnv, cx⟩ := X1.out.node hx
 obtain ⟨ng2, nc2, hnv2, cy⟩ := X1.out.node hy
 obtain ⟨ng3, nc3, hnv3, cz⟩ := X1.out.node hz
 rw [hnv] at hnv2 hnv3
 injection hnv2 with e1 _ e2
 injection hnv3 with e3 _ e4
 cases e1; cases e2; cases e3; cases e4
 obtain ⟨fg, fcc, pa, la, qa, hfv, cfa, zfa⟩ := X1.out.fat hfa
 obtain ⟨fg1, fc1, pb, lb, qb, hfv1, cfb, zfb⟩ := X1.out.fat hfb
 obtain ⟨fg2, fc2, pc, lc, qc, hfv2, cfc, zfc⟩ := X1.out.fat hfc
 obtain ⟨fg3, fc3, p0, l0, q0, hfv3, cf0, zf0⟩ := X1.out.fat hp.h0
 obtain ⟨fg4, fc4, p1, l1, q1, hfv4, cf1, zf1⟩ := X1.out.fat hp.h1
 rw [hfv] at hfv1 hfv2 hfv3 hfv4
 injection hfv1 with e1 _ e2
 cases e1; cases e2
 injection hfv2 with e1 _ e2
 cases e1; cases e2
 injection hfv3 with e1 _ e2
 cases e1; cases e2
 injection hfv4 with e1 _ e2
 cases e1; cases e2
 have ZA : Hid (BVz L W1 (.slice pa la qa) (tab n (vl n T x))) := by rw [← hex]; exact zfa
 have ZB : Hid (BVz L W1 (.slice pb lb qb) (tab n (vl n T y))) := by rw [← hey]; exact zfb
 have ZC : Hid (BVz L W1 (.slice pc lc qc) (tab n (vl n T z))) := by rw [← hez]; exact zfc
 have Z0 : Hid (BVz L W1 (.slice p0 l0 q0) (tab n fun _ => false)) := zf0
 have Z1 : Hid (BVz L W1 (.slice p1 l1 q1) (tab n fun _ => true)) := zf1
 have HGX : Hid (Giv T x ∧ Giv T y ∧ Giv T z) := ⟨hgx, hgy, hgz⟩
 obtain ⟨-, c1, c2, c3, -, -⟩ := X1.out.c
 rw [hnv] at c2
 rw [hfv] at c3
 obtain ⟨N, hNN⟩ : ∃ N, nodes.length = N := ⟨_, rfl⟩
 rw [← hlen] at c3
 have HNV : Hid (nv = .slice (some ⟨ng, 0, none⟩) nodes.length nc ∧ fv = .slice (some ⟨fg, 0, none⟩) fs.length fcc) := ⟨hnv, hfv⟩
 have HLEN : Hid (nodes.length = N ∧ fs.length = N) := ⟨hNN, by rw [← hlen]; exact hNN⟩
 have hn2 := hp.two
 rw [hNN] at c2 c3 HPA HPB HPC hial hibl hicl hn2
 have hial' : (ia : Int) < (N : Int) := by omega
 have hibl' : (ib : Int) < (N : Int) := by omega
 have hicl' : (ic : Int) < (N : Int) := by omega
 have hi0 : (0 : Int) < (N : Int) := by omega
 have hi1 : (1 : Int) < (N : Int) := by omega
 have d0 := block_cell B1.out 0
 have d1 := block_cell B1.out 1
 have d2 := block_cell B1.out 2
 have d3 := block_cell B1.out 3
 have d4 := block_cell B1.out 4
 obtain ⟨vp, vc, hvv, hvi⟩ := (HVA.out W1 F1.out).at
 subst hvv
 obtain ⟨vn, hvn⟩ : ∃ vn, vars.length = vn := ⟨_, rfl⟩
 have HVN : Hid (vars.length = vn) := hvn
 have HVI : Hid (∀ W, Fr (fun _ => True) w0 W → IntsV W vp vars) := fun W F => by
  obtain ⟨a, c, e, h⟩ := (HVA.out W F).at
  injection e with e1 _ _
  rw [e1]; exact h
 rw [hvn] at hvl d4 HVA B1 hW1 ⊢
 have HNI : Hid (vp = none → vn = 0 ∧ vc = 0) := fun e => by
  have := hvnil vars.length vc (by rw [e])
  rw [hvn] at this
  exact this
 have mo := follows
 obtain ⟨i0, hI0, hZ0, hZ1, hZ2⟩ := infoInt
 subst hk
 clear h hp hok hF hgx hgy hgz hex hey hez hx hy hz hfa hfb hfc hnv hfv hlen hNN zfa zfb zfc zf0 zf1 hvi hvn hka hkb hkc hia hib hic hn0 hn63 hva hvb hvnil
 go_enter Tryz.func10, Tryz.ntmps10
 go_wp2_with fail
 clear hW1 hbx
 refine (HPA.out _).mono ?_
 rintro e w' ⟨rfl, hw⟩; replace hw := hw.symm; subst hw
 go_wp2_with fail
 refine (HPB.out _).mono ?_
 rintro e w' ⟨rfl, hw⟩; replace hw := hw.symm; subst hw
 go_wp2_with fail
 refine (HPC.out _).mono ?_
 rintro e w' ⟨rfl, hw⟩; replace hw := hw.symm; subst hw
 clear HPA HPB HPC
 have HOE : Hid ((W1.alloc (.cells #[] 3)).ownsRow W1.heap.size 3 1 (.slice (some ⟨W1.heap.size, 0, none⟩) 0 0) 0 []) := ⟨rfl, .inr ⟨W1.heap.size, 0, #[], rfl, Nat.le_refl _, heap_new rfl, Nat.le_refl _, by unfold maxLen; omega, rfl, rfl⟩⟩
 rw [hsz1] at HOE
 have HVC : Hid (∀ ad, vp = some ad → ∀ j u, (vars.map (Value.int .i64))[j]? = some u → (W1.alloc (.cells #[] 3)).cell? (ad.add j) = some u) := fun ad had j u hu => by
  rw [List.getElem?_map] at hu
  cases hx : vars[j]? with
  | none => rw [hx] at hu; cases hu
  | some a =>
    rw [hx] at hu
    obtain rfl : Value.int .i64 a = u := Option.some.inj hu
    obtain ⟨q, e, hc⟩ := (HVI.out W1 F1.out).cell j a hx
    rw [had] at e
    cases e
    exact (World.cell?_of_block (w := W1) (heap_old (World.block_lt_of_cell? W1 _ hc))).trans hc
 have hmx : 0 + vn ≤ maxLen := by unfold maxLen; omega
 have hlv : (vars.map (Value.int .i64)).length = vn := by rw [List.length_map]; exact HVN.out
 have hsz2 : bx + 1 ≤ (W1.alloc (.cells #[] 3)).heap.size := by simp; omega
 go_wp2_with (at_builtin; refine wpList_append_own_any rfl _ _ 27 rfl (bx + 1) 3 i0 _ 8 Tryz.underlying27 hI0 hZ0 hZ1 hZ2 rfl (.slice (some ⟨bx + 1, 0, none⟩) 0 0) 0 [] rfl HOE.out vp vn vc (vars.map (Value.int .i64)) rfl hlv HNI.out HVC.out (ints_oneCell .i64 vars) hmx (by omega) hsz2 ?_)
 intro v3 W3 ho3 hg3
 have F13 : Hid (Fr (fun _ => True) W1 W3) := own_grown ((Fr.refl _ W1).alloc _) (by rw [hsz1]; exact HOE.out) hg3
 have F3 : Hid (Fr (fun _ => True) w0 W3) := F1.out.trans F13.out
 have K3 : Hid (Fr (fun b => L.own b = 0) W W3) := K1.out.trans (Fr.mono F13.out fun _ _ => trivial)
 have X3 : Hid (LM _ _ _ W3 _ _ _ _ _ _ _ _ _ _ _) := X1.out.grew F13.out
 have B3 : Hid (W3.heap[bx]? = some (.cells #[.int .i64 5, .int .i64 oa, .int .i64 ob, .int .i64 oc, .slice vp vn vc, vb] 30 (0, 0))) := (F13.out.block bx (block_lt B1.out) trivial).trans B1.out
 have ZA3 : Hid (BVz L W3 _ _) := ZA.out.frg F13.out fun _ _ _ => trivial
 have ZB3 : Hid (BVz L W3 _ _) := ZB.out.frg F13.out fun _ _ _ => trivial
 have ZC3 : Hid (BVz L W3 _ _) := ZC.out.frg F13.out fun _ _ _ => trivial
 have Z03 : Hid (BVz L W3 _ _) := Z0.out.frg F13.out fun _ _ _ => trivial
 have Z13 : Hid (BVz L W3 _ _) := Z1.out.frg F13.out fun _ _ _ => trivial
 obtain ⟨vq, vqc, hv3⟩ := own_slice ho3
 subst hv3
 have HQ3 : Hid (W3.ownsRow (bx + 1) 3 1 (.slice vq vn vqc) vn (vars.map (Value.int .i64))) := by first | exact ho3 | (rw [Nat.zero_add, List.nil_append] at ho3; exact ho3)
 have LQ3 : Hid (∀ k, (Value.slice vq vn vqc).ownBlock = some k → L.own k = 0) := fun k hk => X1.out.tat.hi k (by have := (HQ3.out.lt k hk).1; omega)
 have c0 := X3.out.c.1
 have d0 := block_cell B3.out 0
 obtain ⟨hroom1, hroom2, hroom3, hroom4⟩ := HP.out.rooms
 clear ho3 hg3 HOE HVC hmx hlv hsz2 ZA ZB ZC Z0 Z1 F13 F1 X1 B1 c1 c2 c3 d1 d2 d3 d4 cx cy cz cfa cfb cfc cf0 cf1 hsz1
 have HT : Hid (Calls _ _ _ _ _) := Or_out X3.out.tat HP.out.base x y HGX.out.1.live HGX.out.2.1.live hroom1
 clear hroom1 hroom2 hroom3 hroom4
 go_wp2_with fail
 refine HT.out.mono ?_
 rintro e W4 ⟨x', T', L', rfl, hX4, hF4, hO4⟩
 have X4 : Hid (LM _ _ _ W4 _ _ _ _ _ _ _ _ _ _ _) := X3.out.frT hF4 hX4
 have O4 : Hid (Out _ _ _ _ _ _ _) := hO4
 have F4 : Hid (Fr (fun _ => True) w0 W4) := F3.out.table hF4 X3.out.low
 have K4 : Hid (Fr (fun b => L.own b = 0) W W4) := K3.out.tableK hF4
 have ZA4 : Hid (BVz L' W4 _ _) := ZA3.out.frT hF4
 have ZB4 : Hid (BVz L' W4 _ _) := ZB3.out.frT hF4
 have ZC4 : Hid (BVz L' W4 _ _) := ZC3.out.frT hF4
 have Z04 : Hid (BVz L' W4 _ _) := Z03.out.frT hF4
 have Z14 : Hid (BVz L' W4 _ _) := Z13.out.frT hF4
 clear hX4 hF4 hO4 HT c0 d0 ZA3 ZB3 ZC3 Z03 Z13 X3 F3
 have HR4 : Hid (Calls _ _ _ _ _) := rIte_any W4 _ _ _ _ _ _ (2 ^ n) (by omega) ZA4.out.bv Z14.out.bv ZB4.out.bv (tab_len _ _) (tab_len _ _) (tab_len _ _)
 go_wp2_with fail
 refine HR4.out.mono ?_
 rintro e W5 ⟨r5, rfl, ⟨hb, hnw⟩, hf⟩
 have X5 : Hid (LM _ _ _ W5 _ _ _ _ _ _ _ _ _ _ _) := X4.out.grew hf
 have F5 : Hid (Fr (fun _ => True) w0 W5) := F4.out.trans hf
 have K5 : Hid (Fr (fun b => L.own b = 0) W W5) := K4.out.trans (Fr.mono hf fun _ _ => trivial)
 have ZM5 : Hid (BVz L' W5 r5 _) := hb.z hnw X4.out.tat.hi
 have XE : Hid _ := X5
 have FE : Hid _ := F5
 have KE : Hid (Fr (fun b => L.own b = 0) W _) := K5
 have ZE : Hid _ := ZM5
 rw [iteL_tab] at ZE
 clear hb hnw hf HR4
 go_wp2_with fail
 go_ret3
 refine ⟨x', _, T', L', _, rfl, XE.out, O4.out, ?_, FE.out, KE.out⟩
 have := ZE.out
 have hv := O4.out.val
 rw [hv]
 exact this
set_option maxHeartbeats 4000000 in
theorem made2_xor (w0 W : World) (wb tb n k : Nat) (L : Ly) (lv : Nat → Nat) (T : Tb) (nodes : List Nat) (fs given : List (List Bool)) (ord : List Nat) (nv fv ov gv vo : Value) (o : OpR) (h : LM w0.heap.size wb tb W L n T nodes fs given ord nv fv ov gv) (hp : LP k n lv T nodes fs given) (hv : OpV w0 vo o) (hok : OpOK o) (hF : Fr (fun _ => True) w0 W) (hk : o.kind = 6) :
 Calls Tryz.prog 10 #[.pointer (some ⟨wb, 0, none⟩), vo] W (MadePost2 w0 W L wb tb n lv T nodes fs given ord nv fv ov gv) := by
 obtain ⟨va, vb, rfl, ⟨hva, hvnil⟩, hvb⟩ := hv
 obtain ⟨ok, oa, ob, oc, vars, vals⟩ := o
 have hka := hok.a
 have hkb := hok.b
 have hkc := hok.c
 have hvl : vars.length ≤ 1099511627776 := hok.vl
 obtain ⟨hn0, hn63⟩ := hp.nlt
 have hlen := hp.len
 have h512 := pow9 hp.n9
 have hN9 : Hid (n ≤ 9) := hp.n9
 have HVA : Hid (∀ W, Fr (fun _ => True) w0 W → IW W va vars) := fun W F => hva.fr F
 have HP : Hid (LP k n lv T nodes fs given) := hp
 obtain ⟨ia, hia⟩ : ∃ i, pickN oa nodes.length = i := ⟨_, rfl⟩
 obtain ⟨ib, hib⟩ : ∃ i, pickN ob nodes.length = i := ⟨_, rfl⟩
 obtain ⟨ic, hic⟩ : ∃ i, pickN oc nodes.length = i := ⟨_, rfl⟩
 have hial : ia < nodes.length := by rw [← hia]; exact pickN_lt hn0
 have hibl : ib < nodes.length := by rw [← hib]; exact pickN_lt hn0
 have hicl : ic < nodes.length := by rw [← hic]; exact pickN_lt hn0
 obtain ⟨x, hx⟩ : ∃ x, nodes[ia]? = some x := ⟨_, List.getElem?_eq_getElem hial⟩
 obtain ⟨y, hy⟩ : ∃ y, nodes[ib]? = some y := ⟨_, List.getElem?_eq_getElem hibl⟩
 obtain ⟨z, hz⟩ : ∃ z, nodes[ic]? = some z := ⟨_, List.getElem?_eq_getElem hicl⟩
 obtain ⟨fa, hfa, hgx, hex⟩ := hp.live hx
 obtain ⟨fb, hfb, hgy, hey⟩ := hp.live hy
 obtain ⟨fc, hfc, hgz, hez⟩ := hp.live hz
 have B1 : Hid ((W.alloc (.cells #[.int .i64 ok, .int .i64 oa, .int .i64 ob, .int .i64 oc, va, vb] 30)).heap[W.heap.size]? = some (.cells #[.int .i64 ok, .int .i64 oa, .int .i64 ob, .int .i64 oc, va, vb] 30 (0, 0))) := heap_new rfl
 have X1 : Hid (LM _ _ _ (W.alloc (.cells #[.int .i64 ok, .int .i64 oa, .int .i64 ob, .int .i64 oc, va, vb] 30)) _ _ _ _ _ _ _ _ _ _ _) := h.grew ((Fr.refl _ W).alloc _)
 have F1 : Hid (Fr (fun _ => True) w0 (W.alloc (.cells #[.int .i64 ok, .int .i64 oa, .int .i64 ob, .int .i64 oc, va, vb] 30))) := hF.alloc _
 have K1 : Hid (Fr (fun b => L.own b = 0) W (W.alloc (.cells #[.int .i64 ok, .int .i64 oa, .int .i64 ob, .int .i64 oc, va, vb] 30))) := (Fr.refl _ W).alloc _
 have hsz1 : (W.alloc (.cells #[.int .i64 ok, .int .i64 oa, .int .i64 ob, .int .i64 oc, va, vb] 30)).heap.size = W.heap.size + 1 := by simp
 obtain ⟨W1, hW1⟩ : ∃ W1, W.alloc (.cells #[.int .i64 ok, .int .i64 oa, .int .i64 ob, .int .i64 oc, va, vb] 30) = W1 := ⟨_, rfl⟩
 obtain ⟨bx, hbx⟩ : ∃ bx, W.heap.size = bx := ⟨_, rfl⟩
 rw [hW1] at B1 X1 F1 K1 hsz1
 rw [hbx] at B1 hsz1
 have LBX0 : Hid (L.own bx = 0) := h.tat.hi bx (by omega)
 have HPA : Hid (∀ W', Calls Tryz.prog 17 #[.int .i64 oa, .int .i64 (nodes.length : Int)] W' fun e w' => e = .returned (.int .i64 (ia : Int)) ∧ w' = W') := fun W' => by rw [← hia]; exact pick_any W' oa _ hka.1 hka.2 hn0 hn63
 have HPB : Hid (∀ W', Calls Tryz.prog 17 #[.int .i64 ob, .int .i64 (nodes.length : Int)] W' fun e w' => e = .returned (.int .i64 (ib : Int)) ∧ w' = W') := fun W' => by rw [← hib]; exact pick_any W' ob _ hkb.1 hkb.2 hn0 hn63
 have HPC : Hid (∀ W', Calls Tryz.prog 17 #[.int .i64 oc, .int .i64 (nodes.length : Int)] W' fun e w' => e = .returned (.int .i64 (ic : Int)) ∧ w' = W') := fun W' => by rw [← hic]; exact pick_any W' oc _ hkc.1 hkc.2 hn0 hn63
 obtain ⟨ng, nc, hnv, cx⟩ := X1.out.node hx
 obtain ⟨ng2, nc2, hnv2, cy⟩ := X1.out.node hy
 obtain ⟨ng3, nc3, hnv3, cz⟩ := X1.out.node hz
 rw [hnv] at hnv2 hnv3
 injection hnv2 with e1 _ e2
 injection hnv3 with e3 _ e4
 cases e1; cases e2; cases e3; cases e4
 obtain ⟨fg, fcc, pa, la, qa, hfv, cfa, zfa⟩ := X1.out.fat hfa
 obtain ⟨fg1, fc1, pb, lb, qb, hfv1, cfb, zfb⟩ := X1.out.fat hfb
 obtain ⟨fg2, fc2, pc, lc, qc, hfv2, cfc, zfc⟩ := X1.out.fat hfc
 obtain ⟨fg3, fc3, p0, l0, q0, hfv3, cf0, zf0⟩ := X1.out.fat hp.h0
 obtain ⟨fg4, fc4, p1, l1, q1, hfv4, cf1, zf1⟩ := X1.out.fat hp.h1
 rw [hfv] at hfv1 hfv2 hfv3 hfv4
 injection hfv1 with e1 _ e2
 cases e1; cases e2
 injection hfv2 with e1 _ e2
 cases e1; cases e2
 injection hfv3 with e1 _ e2
 cases e1; cases e2
 injection hfv4 with e1 _ e2
 cases e1; cases e2
 have ZA : Hid (BVz L W1 (.slice pa la qa) (tab n (vl n T x))) := by rw [← hex]; exact zfa
 have ZB : Hid (BVz L W1 (.slice pb lb qb) (tab n (vl n T y))) := by rw [← hey]; exact zfb
 have ZC : Hid (BVz L W1 (.slice pc lc qc) (tab n (vl n T z))) := by rw [← hez]; exact zfc
 have Z0 : Hid (BVz L W1 (.slice p0 l0 q0) (tab n fun _ => false)) := zf0
 have Z1 : Hid (BVz L W1 (.slice p1 l1 q1) (tab n fun _ => true)) := zf1
 have HGX : Hid (Giv T x ∧ Giv T y ∧ Giv T z) := ⟨hgx, hgy, hgz⟩
 obtain ⟨-, c1, c2, c3, -, -⟩ := X1.out.c
 rw [hnv] at c2
 rw [hfv] at c3
 obtain ⟨N, hNN⟩ : ∃ N, nodes.length = N := ⟨_, rfl⟩
 rw [← hlen] at c3
 have HNV : Hid (nv = .slice (some ⟨ng, 0, none⟩) nodes.length nc ∧ fv = .slice (some ⟨fg, 0, none⟩) fs.length fcc) := ⟨hnv, hfv⟩
 have HLEN : Hid (nodes.length = N ∧ fs.length = N) := ⟨hNN, by rw [← hlen]; exact hNN⟩
 have hn2 := hp.two
 rw [hNN] at c2 c3 HPA HPB HPC hial hibl hicl hn2
 have hial' : (ia : Int) < (N : Int) := by omega
 have hibl' : (ib : Int) < (N : Int) := by omega
 have hicl' : (ic : Int) < (N : Int) := by omega
 have hi0 : (0 : Int) < (N : Int) := by omega
 have hi1 : (1 : Int) < (N : Int) := by omega
 have d0 := block_cell B1.out 0
 have d1 := block_cell B1.out 1
 have d2 := block_cell B1.out 2
 have d3 := block_cell B1.out 3
 have d4 := block_cell B1.out 4
 obtain ⟨vp, vc, hvv, hvi⟩ := (HVA.out W1 F1.out).at
 subst hvv
 obtain ⟨vn, hvn⟩ : ∃ vn, vars.length = vn := ⟨_, rfl⟩
 have HVN : Hid (vars.length = vn) := hvn
 have HVI : Hid (∀ W, Fr (fun _ => True) w0 W → IntsV W vp vars) := fun W F => by
  obtain ⟨a, c, e, h⟩ := (HVA.out W F).at
  injection e with e1 _ _
  rw [e1]; exact h
 rw [hvn] at hvl d4 HVA B1 hW1 ⊢
 have HNI : Hid (vp = none → vn = 0 ∧ vc = 0) := fun e => by
  have := hvnil vars.length vc (by rw [e])
  rw [hvn] at this
  exact this
 have mo := follows
 obtain ⟨i0, hI0, hZ0, hZ1, hZ2⟩ := infoInt
 subst hk
 clear h hp hok hF hgx hgy hgz hex hey hez hx hy hz hfa hfb hfc hnv hfv hlen hNN zfa zfb zfc zf0 zf1 hvi hvn hka hkb hkc hia hib hic hn0 hn63 hva hvb hvnil
 go_enter Tryz.func10, Tryz.ntmps10
 go_wp2_with fail
 clear hW1 hbx
 refine (HPA.out _).mono ?_
 rintro e w' ⟨rfl, hw⟩; replace hw := hw.symm; subst hw
 go_wp2_with fail
 refine (HPB.out _).mono ?_
 rintro e w' ⟨rfl, hw⟩; replace hw := hw.symm; subst hw
 go_wp2_with fail
 refine (HPC.out _).mono ?_
 rintro e w' ⟨rfl, hw⟩; replace hw := hw.symm; subst hw
 clear HPA HPB HPC
 have HOE : Hid ((W1.alloc (.cells #[] 3)).ownsRow W1.heap.size 3 1 (.slice (some ⟨W1.heap.size, 0, none⟩) 0 0) 0 []) := ⟨rfl, .inr ⟨W1.heap.size, 0, #[], rfl, Nat.le_refl _, heap_new rfl, Nat.le_refl _, by unfold maxLen; omega, rfl, rfl⟩⟩
 rw [hsz1] at HOE
 have HVC : Hid (∀ ad, vp = some ad → ∀ j u, (vars.map (Value.int .i64))[j]? = some u → (W1.alloc (.cells #[] 3)).cell? (ad.add j) = some u) := fun ad had j u hu => by
  rw [List.getElem?_map] at hu
  cases hx : vars[j]? with
  | none => rw [hx] at hu; cases hu
  | some a =>
    rw [hx] at hu
    obtain rfl : Value.int .i64 a = u := Option.some.inj hu
    obtain ⟨q, e, hc⟩ := (HVI.out W1 F1.out).cell j a hx
    rw [had] at e
    cases e
    exact (World.cell?_of_block (w := W1) (heap_old (World.block_lt_of_cell? W1 _ hc))).trans hc
 have hmx : 0 + vn ≤ maxLen := by unfold maxLen; omega
 have hlv : (vars.map (Value.int .i64)).length = vn := by rw [List.length_map]; exact HVN.out
 have hsz2 : bx + 1 ≤ (W1.alloc (.cells #[] 3)).heap.size := by simp; omega
 go_wp2_with (at_builtin; refine wpList_append_own_any rfl _ _ 27 rfl (bx + 1) 3 i0 _ 8 Tryz.underlying27 hI0 hZ0 hZ1 hZ2 rfl (.slice (some ⟨bx + 1, 0, none⟩) 0 0) 0 [] rfl HOE.out vp vn vc (vars.map (Value.int .i64)) rfl hlv HNI.out HVC.out (ints_oneCell .i64 vars) hmx (by omega) hsz2 ?_)
 intro v3 W3 ho3 hg3
 have F13 : Hid (Fr (fun _ => True) W1 W3) := own_grown ((Fr.refl _ W1).alloc _) (by rw [hsz1]; exact HOE.out) hg3
 have F3 : Hid (Fr (fun _ => True) w0 W3) := F1.out.trans F13.out
 have K3 : Hid (Fr (fun b => L.own b = 0) W W3) := K1.out.trans (Fr.mono F13.out fun _ _ => trivial)
 have X3 : Hid (LM _ _ _ W3 _ _ _ _ _ _ _ _ _ _ _) := X1.out.grew F13.out
 have B3 : Hid (W3.heap[bx]? = some (.cells #[.int .i64 6, .int .i64 oa, .int .i64 ob, .int .i64 oc, .slice vp vn vc, vb] 30 (0, 0))) := (F13.out.block bx (block_lt B1.out) trivial).trans B1.out
 have ZA3 : Hid (BVz L W3 _ _) := ZA.out.frg F13.out fun _ _ _ => trivial
 have ZB3 : Hid (BVz L W3 _ _) := ZB.out.frg F13.out fun _ _ _ => trivial
 have ZC3 : Hid (BVz L W3 _ _) := ZC.out.frg F13.out fun _ _ _ => trivial
 have Z03 : Hid (BVz L W3 _ _) := Z0.out.frg F13.out fun _ _ _ => trivial
 have Z13 : Hid (BVz L W3 _ _) := Z1.out.frg F13.out fun _ _ _ => trivial
 obtain ⟨vq, vqc, hv3⟩ := own_slice ho3
 subst hv3
 have HQ3 : Hid (W3.ownsRow (bx + 1) 3 1 (.slice vq vn vqc) vn (vars.map (Value.int .i64))) := by first | exact ho3 | (rw [Nat.zero_add, List.nil_append] at ho3; exact ho3)
 have LQ3 : Hid (∀ k, (Value.slice vq vn vqc).ownBlock = some k → L.own k = 0) := fun k hk => X1.out.tat.hi k (by have := (HQ3.out.lt k hk).1; omega)
 have c0 := X3.out.c.1
 have d0 := block_cell B3.out 0
 obtain ⟨hroom1, hroom2, hroom3, hroom4⟩ := HP.out.rooms
 clear ho3 hg3 HOE HVC hmx hlv hsz2 ZA ZB ZC Z0 Z1 F13 F1 X1 B1 c1 c2 c3 d1 d2 d3 d4 cx cy cz cfa cfb cfc cf0 cf1 hsz1
 have HT : Hid (Calls _ _ _ _ _) := Xor_out X3.out.tat HP.out.base x y HGX.out.1.live HGX.out.2.1.live hroom2
 clear hroom1 hroom2 hroom3 hroom4
 go_wp2_with fail
 refine HT.out.mono ?_
 rintro e W4 ⟨x', T', L', rfl, hX4, hF4, hO4⟩
 have X4 : Hid (LM _ _ _ W4 _ _ _ _ _ _ _ _ _ _ _) := X3.out.frT hF4 hX4
 have O4 : Hid (Out _ _ _ _ _ _ _) := hO4
 have F4 : Hid (Fr (fun _ => True) w0 W4) := F3.out.table hF4 X3.out.low
 have K4 : Hid (Fr (fun b => L.own b = 0) W W4) := K3.out.tableK hF4
 have ZA4 : Hid (BVz L' W4 _ _) := ZA3.out.frT hF4
 have ZB4 : Hid (BVz L' W4 _ _) := ZB3.out.frT hF4
 have ZC4 : Hid (BVz L' W4 _ _) := ZC3.out.frT hF4
 have Z04 : Hid (BVz L' W4 _ _) := Z03.out.frT hF4
 have Z14 : Hid (BVz L' W4 _ _) := Z13.out.frT hF4
 clear hX4 hF4 hO4 HT c0 d0 ZA3 ZB3 ZC3 Z03 Z13 X3 F3
 have HR4 : Hid (Calls _ _ _ _ _) := rIte_any W4 _ _ _ _ _ _ (2 ^ n) (by omega) ZB4.out.bv Z04.out.bv Z14.out.bv (tab_len _ _) (tab_len _ _) (tab_len _ _)
 go_wp2_with fail
 refine HR4.out.mono ?_
 rintro e W5 ⟨r5, rfl, ⟨hb, hnw⟩, hf⟩
 have X5 : Hid (LM _ _ _ W5 _ _ _ _ _ _ _ _ _ _ _) := X4.out.grew hf
 have F5 : Hid (Fr (fun _ => True) w0 W5) := F4.out.trans hf
 have K5 : Hid (Fr (fun b => L.own b = 0) W W5) := K4.out.trans (Fr.mono hf fun _ _ => trivial)
 have ZM5 : Hid (BVz L' W5 r5 _) := hb.z hnw X4.out.tat.hi
 have ZA5 : Hid (BVz L' W5 _ _) := ZA4.out.frg hf fun _ _ _ => trivial
 have ZB5 : Hid (BVz L' W5 _ _) := ZB4.out.frg hf fun _ _ _ => trivial
 have ZC5 : Hid (BVz L' W5 _ _) := ZC4.out.frg hf fun _ _ _ => trivial
 have Z05 : Hid (BVz L' W5 _ _) := Z04.out.frg hf fun _ _ _ => trivial
 have Z15 : Hid (BVz L' W5 _ _) := Z14.out.frg hf fun _ _ _ => trivial
 rw [iteL_tab] at ZM5
 obtain ⟨pm, qm, hrm, -⟩ := id ZM5.out
 obtain ⟨lm, hlm⟩ : ∃ lm, r5 = .slice pm lm qm := ⟨_, hrm⟩
 clear hrm
 subst hlm
 clear hb hnw hf HR4
 have HR5 : Hid (Calls _ _ _ _ _) := rIte_any W5 _ _ _ _ _ _ (2 ^ n) (by omega) ZA5.out.bv ZM5.out.bv ZB5.out.bv (tab_len _ _) (tab_len _ _) (tab_len _ _)
 go_wp2_with fail
 refine HR5.out.mono ?_
 rintro e W6 ⟨r6, rfl, ⟨hb, hnw⟩, hf⟩
 have X6 : Hid (LM _ _ _ W6 _ _ _ _ _ _ _ _ _ _ _) := X5.out.grew hf
 have F6 : Hid (Fr (fun _ => True) w0 W6) := F5.out.trans hf
 have K6 : Hid (Fr (fun b => L.own b = 0) W W6) := K5.out.trans (Fr.mono hf fun _ _ => trivial)
 have ZM6 : Hid (BVz L' W6 r6 _) := hb.z hnw X5.out.tat.hi
 have XE : Hid _ := X6
 have FE : Hid _ := F6
 have KE : Hid (Fr (fun b => L.own b = 0) W _) := K6
 have ZE : Hid _ := ZM6
 rw [iteL_tab] at ZE
 clear hb hnw hf HR5
 go_wp2_with fail
 go_ret3
 refine ⟨x', _, T', L', _, rfl, XE.out, O4.out, ?_, FE.out, KE.out⟩
 have := ZE.out
 have hv := O4.out.val
 rw [hv]
 have e : (fun σ => if vl n T x σ = true then (if vl n T y σ = true then false else true) else vl n T y σ) = xorF (vl n T x) (vl n T y) := funext fun σ => by
  unfold xorF
  cases vl n T x σ <;> cases vl n T y σ <;> rfl
 rw [← e]
 exact this
end Go.Proofs.YtaakjjefnjbabaaGreat.Sx
