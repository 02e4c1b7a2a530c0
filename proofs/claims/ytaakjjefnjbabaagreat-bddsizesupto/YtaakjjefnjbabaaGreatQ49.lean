/- The law: the order is turned. -/
import Derived.Test.YtaakjjefnjbabaaGreatQ46
import Derived.Deep.CutBlock
set_option maxRecDepth 100000
namespace Go.Proofs.YtaakjjefnjbabaaGreat.Sx
open Go.RowKit Go.Sort Go.Maps Go.WideMaps
set_option maxHeartbeats 4000000 in
theorem turned_sift (w0 W : World) (wb tb n k : Nat) (L : Ly) (lv : Nat → Nat) (T : Tb) (nodes : List Nat) (fs given : List (List Bool)) (nv fv ov gv vo : Value) (o : OpR) (h : LM w0.heap.size wb tb W L n T nodes fs given T.ord nv fv ov gv) (hp : LP k n lv T nodes fs given) (hk2 : 2 ≤ k) (hv : OpV w0 vo o) (hok : OpOK o) (hF : Fr (fun _ => True) w0 W) (hk : o.kind = 11) :
 Calls Tryz.prog 9 #[.pointer (some ⟨wb, 0, none⟩), vo] W (TurnPost w0 wb tb n k) := by
 obtain ⟨va, vb, rfl, -, -⟩ := hv
 obtain ⟨ok, oa, ob, oc, vars, vals⟩ := o
 have hka := hok.a
 have hkb := hok.b
 have HKA : Hid (I64 oa) := hka
 obtain ⟨hn0, hn63⟩ := hp.nlt
 have hn9 : n ≤ 9 := hp.n9
 have h512 := pow9 hp.n9
 have HN9 : Hid (n ≤ 9) := hp.n9
 have HK2 : Hid (2 ≤ k) := hk2
 have HP : Hid (LP k n lv T nodes fs given) := hp
 have HON : Hid (T.ord.length = n) := hp.base.mid.t.inv.on
 obtain ⟨ia, hia⟩ : ∃ i, pickN oa nodes.length = i := ⟨_, rfl⟩
 obtain ⟨ib, hib⟩ : ∃ i, pickN ob nodes.length = i := ⟨_, rfl⟩
 have hial : ia < nodes.length := by rw [← hia]; exact pickN_lt hn0
 have hibl : ib < nodes.length := by rw [← hib]; exact pickN_lt hn0
 obtain ⟨x, hx⟩ : ∃ x, nodes[ia]? = some x := ⟨_, List.getElem?_eq_getElem hial⟩
 obtain ⟨y, hy⟩ : ∃ y, nodes[ib]? = some y := ⟨_, List.getElem?_eq_getElem hibl⟩
 obtain ⟨fa, hfa, hgx, hex⟩ := hp.live hx
 obtain ⟨fb, hfb, hgy, hey⟩ := hp.live hy
 have HGX : Hid (Giv T x ∧ Giv T y) := ⟨hgx, hgy⟩
 have HXY : Hid (nodes[ia]? = some x ∧ nodes[ib]? = some y ∧ fs[ia]? = some fa ∧ fs[ib]? = some fb) := ⟨hx, hy, hfa, hfb⟩
 have HFE : Hid (fa = tab n (vl n T x) ∧ fb = tab n (vl n T y)) := ⟨hex, hey⟩
 have B1 : Hid ((W.alloc (.cells #[.int .i64 ok, .int .i64 oa, .int .i64 ob, .int .i64 oc, va, vb] 30)).heap[W.heap.size]? = some (.cells #[.int .i64 ok, .int .i64 oa, .int .i64 ob, .int .i64 oc, va, vb] 30 (0, 0))) := heap_new rfl
 have X1 : Hid (LM _ _ _ (W.alloc (.cells #[.int .i64 ok, .int .i64 oa, .int .i64 ob, .int .i64 oc, va, vb] 30)) _ _ _ _ _ _ _ _ _ _ _) := h.grew ((Fr.refl _ W).alloc _)
 have F1 : Hid (Fr (fun _ => True) w0 (W.alloc (.cells #[.int .i64 ok, .int .i64 oa, .int .i64 ob, .int .i64 oc, va, vb] 30))) := hF.alloc _
 have HLB : Hid (L.own W.heap.size = 0) := h.tat.hi _ (Nat.le_refl _)
 obtain ⟨W1, hW1⟩ : ∃ W1, W.alloc (.cells #[.int .i64 ok, .int .i64 oa, .int .i64 ob, .int .i64 oc, va, vb] 30) = W1 := ⟨_, rfl⟩
 obtain ⟨bx, hbx⟩ : ∃ bx, W.heap.size = bx := ⟨_, rfl⟩
 rw [hW1] at B1 X1 F1
 rw [hbx] at B1 HLB
 obtain rfl : ok = 11 := hk
 have HPA : Hid (∀ W', Calls Tryz.prog 17 #[.int .i64 oa, .int .i64 (nodes.length : Int)] W' fun e w' => e = .returned (.int .i64 (ia : Int)) ∧ w' = W') := fun W' => by rw [← hia]; exact pick_any W' oa _ hka.1 hka.2 hn0 hn63
 have HPB : Hid (∀ W', Calls Tryz.prog 17 #[.int .i64 ob, .int .i64 (nodes.length : Int)] W' fun e w' => e = .returned (.int .i64 (ib : Int)) ∧ w' = W') := fun W' => by rw [← hib]; exact pick_any W' ob _ hkb.1 hkb.2 hn0 hn63
 obtain ⟨ng, nc, hnv, -⟩ := X1.out.node hx
 obtain ⟨fg, fc, pa, la, qa, hfv, -, -⟩ := X1.out.fat hfa
 obtain ⟨N, hN⟩ : ∃ N, nodes.length = N := ⟨_, rfl⟩
 have HNV : Hid (nv = .slice (some ⟨ng, 0, none⟩) N nc ∧ fv = .slice (some ⟨fg, 0, none⟩) N fc) := ⟨by rw [hnv, hN], by rw [hfv, ← hp.len, hN]⟩
 rw [hN] at HPA HPB hial hibl hn0
 have HND : Hid (∀ (W' : World) (L' : Ly) (T' : Tb) (ord' : List Nat) (ov' : Value) (i y : Nat), LM w0.heap.size wb tb W' L' n T' nodes fs given ord' nv fv ov' gv → nodes[i]? = some y → W'.cell? ⟨ng, i, none⟩ = some (.int .i64 (y : Int))) := fun W' L' T' ord' ov' i y X hy => by
  obtain ⟨g, c, e, hc⟩ := X.node hy
  rw [HNV.out.1] at e
  injection e with e1 _ _
  cases e1
  exact hc
 have HFN : Hid (∀ (W' : World) (L' : Ly) (T' : Tb) (ord' : List Nat) (ov' : Value) (i : Nat) (f : List Bool), LM w0.heap.size wb tb W' L' n T' nodes fs given ord' nv fv ov' gv → fs[i]? = some f → ∃ p l q, W'.cell? ⟨fg, i, none⟩ = some (.slice p l q) ∧ BVz L' W' (.slice p l q) f) := fun W' L' T' ord' ov' i f X hf => by
  obtain ⟨g, c, p, l, q, e, hc, hz⟩ := X.fat hf
  rw [HNV.out.2] at e
  injection e with e1 _ _
  cases e1
  exact ⟨p, l, q, hc, hz⟩
 have hial1 : (ia : Int) < (N : Int) := by omega
 have hibl1 : (ib : Int) < (N : Int) := by omega
 have hia0 : (0 : Int) ≤ (ia : Int) := by omega
 have hib0 : (0 : Int) ≤ (ib : Int) := by omega
 obtain ⟨c0, c1, c2, c3, c4, -⟩ := X1.out.c
 rw [HNV.out.1] at c2
 rw [HNV.out.2] at c3
 have d0 := block_cell B1.out 0
 have d1 := block_cell B1.out 1
 have d2 := block_cell B1.out 2
 have mo := follows
 clear h hp hok hF hx hy hfa hfb hgx hgy hex hey hia hib hnv hfv hN hk2
 go_enter Tryz.func9, Tryz.ntmps9
 go_wp2_with fail
 refine (HPA.out _).mono ?_
 rintro e w' ⟨rfl, hw⟩; replace hw := hw.symm; subst hw
 go_wp2_with fail
 refine (HPB.out _).mono ?_
 rintro e w' ⟨rfl, hw⟩; replace hw := hw.symm; subst hw
 clear HPA HPB
 go_upto_block 0 with fail
 go_cut [] (fun wc => ∃ (lv' : Nat → Nat) (T' : Tb) (L' : Ly) (nodes' : List Nat) (fs' given' : List (List Bool)) (nv' fv' ov' gv' : Value), Hid (LM w0.heap.size wb tb wc L' n T' nodes' fs' given' T'.ord nv' fv' ov' gv') ∧ Hid (LP k n lv' T' nodes' fs' given') ∧ Hid (Fr (fun _ => True) w0 wc))
 case rest =>
  obtain ⟨lv', T', L', nodes', fs', given', nv', fv', ov', gv', X9, HP9, F9⟩ := hcut
  clear c0 c1 c2 c3 c4 d0 d1 d2 X1 F1 B1
  generalize wc = W9 at *
  have HOR : Hid (Calls _ _ _ _ _) := Order_any X9.out.tat (by rw [HP9.out.base.mid.t.inv.on]; omega)
  obtain ⟨z0, -, -, -, -, -⟩ := X9.out.c
  go_wp2_with fail
  refine HOR.out.mono ?_
  rintro e Wa ⟨sl, rfl, hsl, hf⟩
  obtain ⟨sp, sc, hsl1⟩ := own_slice hsl
  subst hsl1
  obtain ⟨ol, hol⟩ : ∃ ol, (T').ord.length = ol := ⟨_, rfl⟩
  have HOL : Hid ((T').ord.length = ol ∧ ol ≤ 9) := ⟨hol, by rw [← hol, HP9.out.base.mid.t.inv.on]; exact HN9.out⟩
  rw [hol] at hsl ⊢
  have HSL : Hid (Wa.ownsRow W9.heap.size 3 1 (.slice sp ol sc) ol (i64C (T').ord)) := hsl
  have FA : Hid (Fr (fun _ => True) W9 Wa) := hf
  have XA : Hid (LM _ _ _ Wa _ _ _ _ _ _ _ _ _ _ _) := X9.out.grew hf
  clear hol hsl hf HOR z0
  obtain ⟨z0, -, -, -, z4, -⟩ := XA.out.c
  have HI : Hid (Calls Tryz.prog 25 #[.slice sp ol sc, ov'] Wa fun e w' => e = .returned (.bool true) ∧ ∃ m, w' = Wa.drewN m) := by
   have := Ints_any Wa _ _ (nodesI (T').ord) (nodesI (T').ord) (by have := HOL.out; unfold nodesI; rw [List.length_map]; omega) (own_iwN HOL.out.1 HSL.out) (own_iwN rfl XA.out.ordr.1)
   rw [decide_eq_true rfl] at this
   exact this
  go_wp2_with fail
  refine HI.out.mono ?_
  rintro e Wb ⟨rfl, m, hwb⟩
  have FB : Hid (Fr (fun _ => True) Wa Wb) := by rw [hwb]; exact ⟨rfl, rfl, rfl, Nat.le_refl _, fun _ _ _ => rfl⟩
  have HSP : Hid (Calls _ _ _ _ _) := Spoil_any Wb W9.heap.size (.slice sp ol sc) (i64C (T').ord) ol (by have := HOL.out; omega) (Nat.le_trans FA.out.size FB.out.size) (own_fr HSL.out FB.out fun _ _ => trivial)
  clear hwb HI z0 z4
  go_wp2_with fail
  refine HSP.out.mono ?_
  rintro e Wc ⟨rfl, hsp⟩
  have FC : Hid (Fr (fun _ => True) W9 Wc) := spoil_fr FA.out HSL.out FB.out hsp
  clear hsp HSP
  go_wp2_with fail
  go_ret
  exact ⟨_, _, _, _, _, _, _, _, _, _, rfl, X9.out.grew FC.out, HP9.out, F9.out.trans FC.out⟩
 case first =>
  have HC : Hid (∀ (W' : World) (L' : Ly) (T' : Tb) (ord' : List Nat) (ov' : Value), LM w0.heap.size wb tb W' L' n T' nodes fs given ord' nv fv ov' gv → W'.cell? ⟨wb, 0, none⟩ = some (.pointer (some ⟨tb, 0, none⟩)) ∧ W'.cell? ⟨wb, 2, none⟩ = some (.slice (some ⟨ng, 0, none⟩) N nc) ∧ W'.cell? ⟨ng, ia, none⟩ = some (.int .i64 (x : Int)) ∧ W'.cell? ⟨ng, ib, none⟩ = some (.int .i64 (y : Int))) := fun W' L' T' ord' ov' X => ⟨X.c.1, by rw [← HNV.out.1]; exact X.c.2.2.1, HND.out _ _ _ _ _ _ _ X HXY.out.1, HND.out _ _ _ _ _ _ _ X HXY.out.2.1⟩
  have XA : Hid (LM w0.heap.size wb tb (W1.alloc (.cells #[.int .i64 (x : Int), .int .i64 (y : Int)] 32)) L n T nodes fs given T.ord nv fv ov gv) := X1.out.grew ((Fr.refl _ W1).alloc _)
  have XD : Hid (LM w0.heap.size wb tb W1.drew L n T nodes fs given T.ord nv fv ov gv) := X1.out.grew (Fr.refl _ W1).drew
  obtain ⟨x0, x1, x2, x3⟩ := HC.out _ _ _ _ _ X1.out
  obtain ⟨y0, y1, y2, y3⟩ := HC.out _ _ _ _ _ XD.out
  obtain ⟨p0, p1, p2, p3⟩ := HC.out _ _ _ _ _ XA.out
  have FS : Hid (Fr (fun _ => True) W1 (W1.alloc (.cells #[.int .i64 (x : Int), .int .i64 (y : Int)] 32)).drew) := ((Fr.refl _ W1).alloc _).drew
  have XS : Hid (LM w0.heap.size wb tb (W1.alloc (.cells #[.int .i64 (x : Int), .int .i64 (y : Int)] 32)).drew L n T nodes fs given T.ord nv fv ov gv) := X1.out.grew FS.out
  obtain ⟨q0, q1, q2, q3⟩ := HC.out _ _ _ _ _ XS.out
  clear XA XD c0 c1 c2 c3 c4 d1 d2
  have HSV : Hid (IntsV (W1.alloc (.cells #[.int .i64 (x : Int), .int .i64 (y : Int)] 32)).drew (some ⟨W1.heap.size, 0, none⟩) (nodesI [x, y])) := ⟨fun i v hv => ⟨_, rfl, by
   rw [add0]
   match i with
   | 0 => cases hv; exact block_cell (heap_new rfl) 0
   | 1 => cases hv; exact block_cell (heap_new rfl) 1
   | i + 2 => cases hv⟩⟩
  have HGS : Hid (∀ f ∈ [x, y], Giv T f) := fun f hf => by
   simp only [List.mem_cons, List.not_mem_nil, or_false] at hf
   rcases hf with rfl | rfl
   · exact HGX.out.1
   · exact HGX.out.2
  have HFM : Hid (([x, y].map (vl n T)).map (tab n) = [fa, fb]) := by rw [HFE.out.1, HFE.out.2]; rfl
  obtain ⟨sz, hsr⟩ := szR_ex [fa, fb]
  have HSR : Hid (∀ (o : List Nat) (R : List (List Bool)), AskSt o [fa, fb] R.length R → askN o R = sz o) := hsr
  clear hsr
  have HSI : Hid (Calls Tryz.prog 19 #[.pointer (some ⟨tb, 0, none⟩), .slice (some ⟨W1.heap.size, 0, none⟩) 2 2] (W1.alloc (.cells #[.int .i64 (x : Int), .int .i64 (y : Int)] 32)).drew fun e w' => e = .returned (.tuple #[]) ∧ ∃ (Tg : Tb) (d : List Nat) (lv' : Nat → Nat) (T' : Tb) (L' : Ly), AlnP n lv MM T [x, y] Tg ∧ d.Perm (List.range n) ∧ d.Pairwise (Rk (cntV Tg)) ∧ TAt w' tb L' T' ∧ FrT L L' (W1.alloc (.cells #[.int .i64 (x : Int), .int .i64 (y : Int)] 32)).drew w' ∧ SfI n MM T (siftP sz n d T.ord) lv' T') := by
   obtain ⟨gs, hgs, hr, hr2⟩ := HP.out.big
   exact Sift_any XS.out.tat HP.out.base HP.out.ords (by omega) [x, y] HGS.out (by simp) _ 2 HSV.out hgs hr hr2 fun o ho => by
    exact szR_of (Fs := [x, y].map (vl n T)) (fun R hR => HSR.out o R (by rw [HFM.out] at hR; exact hR)) ho
  clear HSV HGS
  go_upto_region 15 with fail
  go_cut [] (fun wc => ∃ (Tg : Tb) (d : List Nat) (lv' : Nat → Nat) (T' : Tb) (L' : Ly), Hid (AlnP n lv MM T [x, y] Tg ∧ d.Perm (List.range n) ∧ d.Pairwise (Rk (cntV Tg)) ∧ SfI n MM T (siftP sz n d T.ord) lv' T') ∧ Hid (LM w0.heap.size wb tb wc L' n T' nodes fs given T.ord nv fv ov gv) ∧ Hid (Fr (fun _ => True) w0 wc))
  case first =>
   as_aux_lemma =>
    go_region_held3 (fun w' => w'.cell? ⟨wb, 0, none⟩ = some (.pointer (some ⟨tb, 0, none⟩)) ∧ w'.cell? ⟨wb, 2, none⟩ = some (.slice (some ⟨ng, 0, none⟩) N nc) ∧ w'.cell? ⟨ng, ia, none⟩ = some (.int .i64 (x : Int)) ∧ w'.cell? ⟨ng, ib, none⟩ = some (.int .i64 (y : Int))) (first | (refine ⟨?_, ?_, ?_, ?_⟩ <;> assumption) | go_keep)
     ((go_at_call 19; refine HSI.out.mono ?_; rintro e W6 ⟨rfl, Tg, d, lv', T', L', h1, h2, h3, h4, h5, h6⟩; obtain ⟨z0, z1, z2, z3⟩ := HC.out _ _ _ _ _ (XS.out.frT h5 h4)))
    all_goals
     have X6 : Hid (LM w0.heap.size wb tb W6 L' n T' nodes fs given T.ord nv fv ov gv) := XS.out.frT h5 h4
     have F6 : Hid (Fr (fun _ => True) w0 W6) := (F1.out.trans FS.out).table h5 XS.out.low
     have HA : Hid (AlnP n lv MM T [x, y] Tg ∧ d.Perm (List.range n) ∧ d.Pairwise (Rk (cntV Tg)) ∧ SfI n MM T (siftP sz n d T.ord) lv' T') := ⟨h1, h2, h3, h6⟩
     clear h1 h2 h3 h4 h5 h6 x0 x1 x2 x3 y0 y1 y2 y3 p0 p1 p2 p3 q0 q1 q2 q3 z0 z1 z2 z3
     go_wp2_with fail
     go_meet
     case rel => exact ⟨Tg, d, lv', T', L', HA.out, X6.out, F6.out⟩
  case rest =>
   obtain ⟨Tg, d, lv', T', L', HA, X6, F6⟩ := hcut
   clear d0 x0 x1 x2 x3 y0 y1 y2 y3 p0 p1 p2 p3 q0 q1 q2 q3 HC FS XS HSI X1 F1 B1
   generalize wc = W6 at *
   obtain ⟨pa, la, qa, ca, hza⟩ := HFN.out _ _ _ _ _ _ _ X6.out HXY.out.2.2.1
   obtain ⟨pb, lb, qb, cb, hzb⟩ := HFN.out _ _ _ _ _ _ _ X6.out HXY.out.2.2.2
   obtain ⟨-, -, -, c3, c4, -⟩ := X6.out.c
   rw [HNV.out.2] at c3
   have z4 := X6.out.z 4
   have c4a : (W6.alloc (.cells #[.slice pa la qa, .slice pb lb qb] 28)).cell? ⟨wb, 4, none⟩ = some ov := (World.cell?_of_block (w := W6) (heap_old (block_lt X6.out.blk))).trans c4
   have FS : Hid (Fr (fun _ => True) W6 (W6.alloc (.cells #[.slice pa la qa, .slice pb lb qb] 28)).drew) := ((Fr.refl _ W6).alloc _).drew
   have HRS : Hid (Calls Tryz.prog 20 #[.slice (some ⟨W6.heap.size, 0, none⟩) 2 2, ov] (W6.alloc (.cells #[.slice pa la qa, .slice pb lb qb] 28)).drew fun e w' => ∃ r, e = .returned r ∧ (w'.ownsRow w0.heap.size 3 1 r n (i64C T'.ord) ∧ ∀ k, r.ownBlock = some k → L'.own k = 0) ∧ Fr (fun _ => True) (W6.alloc (.cells #[.slice pa la qa, .slice pb lb qb] 28)).drew w') := by
    have hX := X6.out.grew FS.out
    have t := HP.out.base.mid.t
    have hIR := hX.ordr.1
    rw [HON.out] at hIR
    refine (rSift_any _ _ _ [fa, fb] T.ord n HN9.out ?_ w0.heap.size (Nat.le_trans F6.out.size FS.out.size) hIR (HP.out.ords.perm t.inv.on) ?_ ?_ sz fun o' _ R hA => HSR.out o' R hA).mono ?_
    · refine ⟨_, 2, rfl, fun i v hv => ?_⟩
      match i with
      | 0 => cases hv; exact ⟨_, _, rfl, by simp, by rw [add0]; exact block_cell (heap_new rfl) 0, (hza.frg FS.out fun _ _ _ => trivial).bv⟩
      | 1 => cases hv; exact ⟨_, _, rfl, by simp, by rw [add0]; exact block_cell (heap_new rfl) 1, (hzb.frg FS.out fun _ _ _ => trivial).bv⟩
      | i + 2 => cases hv
    · intro f hf
      simp only [List.mem_cons, List.not_mem_nil, or_false] at hf
      rcases hf with rfl | rfl
      · rw [HFE.out.1]; exact tab_len _ _
      · rw [HFE.out.2]; exact tab_len _ _
    · have := pow39 HN9.out
      show 2 * 3 ^ n ≤ _
      omega
    · rintro e w' ⟨r, rfl, hob, ⟨R, d', hA, h1, h2, h3⟩, hf⟩
      obtain ⟨a1, a2, a3, a4⟩ := HA.out
      have hd : d = d' := a1.same HP.out.ords (by rw [HFM.out]; exact hA) a2 a3 h1 h2
      rw [← hd, ← a4.ord] at h3
      refine ⟨r, rfl, ⟨h3, fun k hk => ?_⟩, hf⟩
      rcases hob k hk with q | q
      · exact hX.ordr.2 k q
      · exact hX.tat.hi k q
   have HP' : Hid (LP k n lv' T' nodes fs given) := HA.out.2.2.2.lp HP.out
   go_upto_region 16 with fail
   have hwl := block_lt X6.out.blk
   have hfl : fg < W6.heap.size := World.block_lt_of_cell? _ _ ca
   have hfw : fg ≠ wb := fun e => by
    obtain ⟨vs, _, hv, _⟩ := X6.out.fun_
    exact ty_ne (own_type hv fg (by rw [HNV.out.2]; rfl)) ⟨_, _, X6.out.blk⟩ (by decide) e
   have caa : (W6.alloc (.cells #[.slice pa la qa, .slice pb lb qb] 28)).cell? ⟨fg, ia, none⟩ = some (.slice pa la qa) := (World.cell?_of_block (w := W6) (heap_old hfl)).trans ca
   have cba : (W6.alloc (.cells #[.slice pa la qa, .slice pb lb qb] 28)).cell? ⟨fg, ib, none⟩ = some (.slice pb lb qb) := (World.cell?_of_block (w := W6) (heap_old hfl)).trans cb
   have c3a : (W6.alloc (.cells #[.slice pa la qa, .slice pb lb qb] 28)).cell? ⟨wb, 3, none⟩ = some (.slice (some ⟨fg, 0, none⟩) N fc) := (World.cell?_of_block (w := W6) (heap_old hwl)).trans c3
   refine wp_region_held_drew (S := fun w' => w'.cell? ⟨wb, 3, none⟩ = some (.slice (some ⟨fg, 0, none⟩) N fc) ∧ w'.cell? ⟨fg, ia, none⟩ = some (.slice pa la qa) ∧ w'.cell? ⟨fg, ib, none⟩ = some (.slice pb lb qb)) (by kernel_rfl) ⟨c3, ca, cb⟩ (fun hHeld => ?_)
   refine wpAnyH_take (i := 0) (oi := ({ dst := Option.some 119, op := Op.move (Operand.tmp 0), type := 25, pos := _, after := #[], guard := Option.none } : Oper)) (v := ?_) rfl (by kernel_rfl) (by kernel_rfl) (by kernel_rfl) (fun _ _ _ h => h) (Or.inl ⟨by rfl, ?_⟩) hHeld ?_
   rotate_left
   · intro w0 hS0; (try dsimp only at hS0); go_simp; try with_reducible rfl
   try simp only [Act.put, List.setIfInBounds_toArray, List.set_cons_zero, List.set_cons_succ]
   refine wpAnyH_take (i := 1) (oi := ({ dst := Option.some 120, op := Op.move (Operand.tmp 0), type := 25, pos := _, after := #[], guard := Option.none } : Oper)) (v := ?_) rfl (by kernel_rfl) (by kernel_rfl) (by kernel_rfl) (fun _ _ _ h => h) (Or.inl ⟨by rfl, ?_⟩) hHeld ?_
   rotate_left
   · intro w0 hS0; (try dsimp only at hS0); go_simp; try with_reducible rfl
   try simp only [Act.put, List.setIfInBounds_toArray, List.set_cons_zero, List.set_cons_succ]
   refine wpAnyH_take (i := 2) (oi := ({ dst := Option.some 121, op := Op.nilCheck (Operand.tmp 120), type := 0, pos := _, after := #[{ on := 1, ground := Ground.data }], guard := Option.none } : Oper)) (v := ?_) rfl (by kernel_rfl) (by kernel_rfl) (by kernel_rfl) (fun _ _ _ h => h) (Or.inl ⟨by rfl, ?_⟩) hHeld ?_
   rotate_left
   · intro w0 hS0; (try dsimp only at hS0); go_simp; try with_reducible rfl
   try simp only [Act.put, List.setIfInBounds_toArray, List.set_cons_zero, List.set_cons_succ]
   refine wpAnyH_take (i := 3) (oi := ({ dst := Option.some 122, op := Op.fieldAddr 39 (Operand.tmp 121) 3, type := 0, pos := _, after := #[{ on := 2, ground := Ground.data }], guard := Option.none } : Oper)) (v := ?_) rfl (by kernel_rfl) (by kernel_rfl) (by kernel_rfl) (fun _ _ _ h => h) (Or.inl ⟨by rfl, ?_⟩) hHeld ?_
   rotate_left
   · intro w0 hS0; (try dsimp only at hS0); go_simp; try with_reducible rfl
   try simp only [Act.put, List.setIfInBounds_toArray, List.set_cons_zero, List.set_cons_succ]
   refine wpAnyH_take (i := 4) (oi := ({ dst := Option.some 123, op := Op.load 37 (Operand.tmp 122), type := 37, pos := _, after := #[{ on := 3, ground := Ground.data }], guard := Option.none } : Oper)) (v := ?_) rfl (by kernel_rfl) (by kernel_rfl) (by kernel_rfl) (fun _ _ _ h => h) (Or.inl ⟨by rfl, ?_⟩) hHeld ?_
   rotate_left
   · intro w0 hS0; (try dsimp only at hS0); go_simp; try with_reducible rfl
   try simp only [Act.put, List.setIfInBounds_toArray, List.set_cons_zero, List.set_cons_succ]
   refine wpAnyH_take (i := 5) (oi := ({ dst := Option.some 124, op := Op.move (Operand.tmp 6), type := 3, pos := _, after := #[], guard := Option.none } : Oper)) (v := ?_) rfl (by kernel_rfl) (by kernel_rfl) (by kernel_rfl) (fun _ _ _ h => h) (Or.inl ⟨by rfl, ?_⟩) hHeld ?_
   rotate_left
   · intro w0 hS0; (try dsimp only at hS0); go_simp; try with_reducible rfl
   try simp only [Act.put, List.setIfInBounds_toArray, List.set_cons_zero, List.set_cons_succ]
   refine wpAnyH_take (i := 6) (oi := ({ dst := Option.some 125, op := Op.indexAddr 37 (Operand.tmp 123) (Operand.tmp 124), type := 0, pos := _, after := #[{ on := 4, ground := Ground.data }, { on := 5, ground := Ground.data }], guard := Option.none } : Oper)) (v := ?_) rfl (by kernel_rfl) (by kernel_rfl) (by kernel_rfl) (fun _ _ _ h => h) (Or.inl ⟨by rfl, ?_⟩) hHeld ?_
   rotate_left
   · intro w0 hS0; (try dsimp only at hS0); go_simp; try with_reducible rfl
   try simp only [Act.put, List.setIfInBounds_toArray, List.set_cons_zero, List.set_cons_succ]
   refine wpAnyH_take (i := 7) (oi := ({ dst := Option.some 126, op := Op.load 28 (Operand.tmp 125), type := 28, pos := _, after := #[{ on := 6, ground := Ground.data }], guard := Option.none } : Oper)) (v := ?_) rfl (by kernel_rfl) (by kernel_rfl) (by kernel_rfl) (fun _ _ _ h => h) (Or.inl ⟨by rfl, ?_⟩) hHeld ?_
   rotate_left
   · intro w0 hS0; (try dsimp only at hS0); go_simp; try with_reducible rfl
   try simp only [Act.put, List.setIfInBounds_toArray, List.set_cons_zero, List.set_cons_succ]
   refine wpAnyH_take (i := 8) (oi := ({ dst := Option.some 127, op := Op.move (Operand.tmp 0), type := 25, pos := _, after := #[], guard := Option.none } : Oper)) (v := ?_) rfl (by kernel_rfl) (by kernel_rfl) (by kernel_rfl) (fun _ _ _ h => h) (Or.inl ⟨by rfl, ?_⟩) hHeld ?_
   rotate_left
   · intro w0 hS0; (try dsimp only at hS0); go_simp; try with_reducible rfl
   try simp only [Act.put, List.setIfInBounds_toArray, List.set_cons_zero, List.set_cons_succ]
   refine wpAnyH_take (i := 9) (oi := ({ dst := Option.some 128, op := Op.nilCheck (Operand.tmp 127), type := 0, pos := _, after := #[{ on := 8, ground := Ground.data }], guard := Option.none } : Oper)) (v := ?_) rfl (by kernel_rfl) (by kernel_rfl) (by kernel_rfl) (fun _ _ _ h => h) (Or.inl ⟨by rfl, ?_⟩) hHeld ?_
   rotate_left
   · intro w0 hS0; (try dsimp only at hS0); go_simp; try with_reducible rfl
   try simp only [Act.put, List.setIfInBounds_toArray, List.set_cons_zero, List.set_cons_succ]
   refine wpAnyH_take (i := 10) (oi := ({ dst := Option.some 129, op := Op.fieldAddr 39 (Operand.tmp 128) 3, type := 0, pos := _, after := #[{ on := 9, ground := Ground.data }], guard := Option.none } : Oper)) (v := ?_) rfl (by kernel_rfl) (by kernel_rfl) (by kernel_rfl) (fun _ _ _ h => h) (Or.inl ⟨by rfl, ?_⟩) hHeld ?_
   rotate_left
   · intro w0 hS0; (try dsimp only at hS0); go_simp; try with_reducible rfl
   try simp only [Act.put, List.setIfInBounds_toArray, List.set_cons_zero, List.set_cons_succ]
   refine wpAnyH_take (i := 11) (oi := ({ dst := Option.some 130, op := Op.load 37 (Operand.tmp 129), type := 37, pos := _, after := #[{ on := 10, ground := Ground.data }], guard := Option.none } : Oper)) (v := ?_) rfl (by kernel_rfl) (by kernel_rfl) (by kernel_rfl) (fun _ _ _ h => h) (Or.inl ⟨by rfl, ?_⟩) hHeld ?_
   rotate_left
   · intro w0 hS0; (try dsimp only at hS0); go_simp; try with_reducible rfl
   try simp only [Act.put, List.setIfInBounds_toArray, List.set_cons_zero, List.set_cons_succ]
   refine wpAnyH_take (i := 12) (oi := ({ dst := Option.some 131, op := Op.move (Operand.tmp 7), type := 3, pos := _, after := #[], guard := Option.none } : Oper)) (v := ?_) rfl (by kernel_rfl) (by kernel_rfl) (by kernel_rfl) (fun _ _ _ h => h) (Or.inl ⟨by rfl, ?_⟩) hHeld ?_
   rotate_left
   · intro w0 hS0; (try dsimp only at hS0); go_simp; try with_reducible rfl
   try simp only [Act.put, List.setIfInBounds_toArray, List.set_cons_zero, List.set_cons_succ]
   refine wpAnyH_take (i := 13) (oi := ({ dst := Option.some 132, op := Op.indexAddr 37 (Operand.tmp 130) (Operand.tmp 131), type := 0, pos := _, after := #[{ on := 11, ground := Ground.data }, { on := 12, ground := Ground.data }], guard := Option.none } : Oper)) (v := ?_) rfl (by kernel_rfl) (by kernel_rfl) (by kernel_rfl) (fun _ _ _ h => h) (Or.inl ⟨by rfl, ?_⟩) hHeld ?_
   rotate_left
   · intro w0 hS0; (try dsimp only at hS0); go_simp; try with_reducible rfl
   try simp only [Act.put, List.setIfInBounds_toArray, List.set_cons_zero, List.set_cons_succ]
   refine wpAnyH_take (i := 14) (oi := ({ dst := Option.some 133, op := Op.load 28 (Operand.tmp 132), type := 28, pos := _, after := #[{ on := 13, ground := Ground.data }], guard := Option.none } : Oper)) (v := ?_) rfl (by kernel_rfl) (by kernel_rfl) (by kernel_rfl) (fun _ _ _ h => h) (Or.inl ⟨by rfl, ?_⟩) hHeld ?_
   rotate_left
   · intro w0 hS0; (try dsimp only at hS0); go_simp; try with_reducible rfl
   try simp only [Act.put, List.setIfInBounds_toArray, List.set_cons_zero, List.set_cons_succ]
   refine wpAnyH_take (i := 16) (oi := ({ dst := Option.some 135, op := Op.move (Operand.tmp 0), type := 25, pos := _, after := #[], guard := Option.none } : Oper)) (v := ?_) rfl (by kernel_rfl) (by kernel_rfl) (by kernel_rfl) (fun _ _ _ h => h) (Or.inl ⟨by rfl, ?_⟩) hHeld ?_
   rotate_left
   · intro w0 hS0; (try dsimp only at hS0); go_simp; try with_reducible rfl
   try simp only [Act.put, List.setIfInBounds_toArray, List.set_cons_zero, List.set_cons_succ]
   refine wpAnyH_take (i := 17) (oi := ({ dst := Option.some 136, op := Op.nilCheck (Operand.tmp 135), type := 0, pos := _, after := #[{ on := 16, ground := Ground.data }], guard := Option.none } : Oper)) (v := ?_) rfl (by kernel_rfl) (by kernel_rfl) (by kernel_rfl) (fun _ _ _ h => h) (Or.inl ⟨by rfl, ?_⟩) hHeld ?_
   rotate_left
   · intro w0 hS0; (try dsimp only at hS0); go_simp; try with_reducible rfl
   try simp only [Act.put, List.setIfInBounds_toArray, List.set_cons_zero, List.set_cons_succ]
   refine wpAnyH_take (i := 18) (oi := ({ dst := Option.some 137, op := Op.fieldAddr 39 (Operand.tmp 136) 4, type := 0, pos := _, after := #[{ on := 17, ground := Ground.data }], guard := Option.none } : Oper)) (v := ?_) rfl (by kernel_rfl) (by kernel_rfl) (by kernel_rfl) (fun _ _ _ h => h) (Or.inl ⟨by rfl, ?_⟩) hHeld ?_
   rotate_left
   · intro w0 hS0; (try dsimp only at hS0); go_simp; try with_reducible rfl
   try simp only [Act.put, List.setIfInBounds_toArray, List.set_cons_zero, List.set_cons_succ]
   refine wpAnyH_ready (rs := [15, 19]) (by kernel_rfl) (by simp) ?_
   refine AllReadyH.cons (o := ({ dst := Option.some 134, op := Op.buildSlice 37 2 #[(0, Operand.tmp 126), (1, Operand.tmp 133)], type := 37, pos := _, after := #[{ on := 7, ground := Ground.data }, { on := 14, ground := Ground.data }], guard := Option.none } : Oper)) rfl (fun K hK => ?_) (AllReadyH.cons (o := ({ dst := Option.some 138, op := Op.load 27 (Operand.tmp 137), type := 27, pos := _, after := #[{ on := 18, ground := Ground.data }], guard := Option.none } : Oper)) rfl (fun K hK => ?_) AllReadyH.nil)
   · go_simp
     refine hK.out _ _ ?_ (fun hHeld2 => ?_)
     · exact ⟨c3a, caa, cba⟩
     clear hK K
     try simp only [Act.put, List.setIfInBounds_toArray, List.set_cons_zero, List.set_cons_succ]
     refine wpAnyH_ready (rs := [19]) (by kernel_rfl) (by simp) ?_
     refine AllReadyH.cons (o := ({ dst := Option.some 138, op := Op.load 27 (Operand.tmp 137), type := 27, pos := _, after := #[{ on := 18, ground := Ground.data }], guard := Option.none } : Oper)) rfl (fun K hK => ?_) AllReadyH.nil
     go_simp
     refine hK.out _ _ ?_ (fun hHeld3 => ?_)
     · exact ⟨c3a, caa, cba⟩
     clear hK K
     try simp only [Act.put, List.setIfInBounds_toArray, List.set_cons_zero, List.set_cons_succ]
     refine wpAnyH_ready (rs := [20]) (by kernel_rfl) (by simp) ?_
     refine AllReadyH.cons (o := ({ dst := Option.some 139, op := Op.call { callee := Callee.value (Operand.func 20), args := #[Operand.tmp 134, Operand.tmp 138], argTypes := #[37, 27] }, type := 27, pos := _, after := #[{ on := 15, ground := Ground.data }, { on := 19, ground := Ground.data }], guard := Option.none } : Oper)) rfl (fun K hK => ?_) AllReadyH.nil
     go_simp
     go_at_call 20
     refine HRS.out.mono ?_
     rintro e W7 ⟨r, rfl, ⟨h1, h2⟩, h3⟩
     obtain ⟨ra, rc, hrr⟩ := own_slice h1
     subst hrr
     have X7 : Hid (LM w0.heap.size wb tb W7 L' n T' nodes fs given T.ord nv fv ov gv) := (X6.out.grew FS.out).grew h3
     have hz7 := X7.out.z 4
     have hw7 : W7.cell? ⟨wb, 4, none⟩ = some ov := X7.out.c.2.2.2.2.1
     have k1 : W7.cell? ⟨wb, 3, none⟩ = some (.slice (some ⟨fg, 0, none⟩) N fc) := (World.cell?_of_block (h3.block _ (Nat.lt_of_lt_of_le hwl FS.out.size) trivial)).trans c3a
     have k2 : W7.cell? ⟨fg, ia, none⟩ = some (.slice pa la qa) := (World.cell?_of_block (h3.block _ (Nat.lt_of_lt_of_le hfl FS.out.size) trivial)).trans caa
     have k3 : W7.cell? ⟨fg, ib, none⟩ = some (.slice pb lb qb) := (World.cell?_of_block (h3.block _ (Nat.lt_of_lt_of_le hfl FS.out.size) trivial)).trans cba
     obtain ⟨x8, f8⟩ := X7.out.newO h1 (HP'.out.base.mid.t.inv.on) h2
     have X8 : Hid (LM w0.heap.size wb tb (W7.setCell ⟨wb, 4, none⟩ (.slice ra n rc)) L' n T' nodes fs given T'.ord nv fv (.slice ra n rc) gv) := x8
     have F8 : Hid (Fr (fun _ => True) w0 (W7.setCell ⟨wb, 4, none⟩ (.slice ra n rc))) := ((F6.out.trans FS.out).trans h3).over f8 fun b hb => by have := X7.out.wlo; omega
     clear x8 f8 h1 h2 h3
     go_wp2_with fail
     refine hK.out _ _ ?_ (fun hHeld5 => ?_)
     · exact ⟨k1, k2, k3⟩
     clear hK K
     try simp only [Act.put, List.setIfInBounds_toArray, List.set_cons_zero, List.set_cons_succ]
     refine wpAnyH_take (i := 21) (oi := ({ dst := Option.some 140, op := Op.nilCheck (Operand.tmp 119), type := 0, pos := _, after := #[{ on := 0, ground := Ground.data }, { on := 0, ground := Ground.phase }, { on := 1, ground := Ground.phase }, { on := 2, ground := Ground.phase }, { on := 3, ground := Ground.phase }, { on := 4, ground := Ground.phase }, { on := 5, ground := Ground.phase }, { on := 6, ground := Ground.phase }, { on := 7, ground := Ground.phase }, { on := 8, ground := Ground.phase }, { on := 9, ground := Ground.phase }, { on := 10, ground := Ground.phase }, { on := 11, ground := Ground.phase }, { on := 12, ground := Ground.phase }, { on := 13, ground := Ground.phase }, { on := 14, ground := Ground.phase }, { on := 15, ground := Ground.phase }, { on := 16, ground := Ground.phase }, { on := 17, ground := Ground.phase }, { on := 18, ground := Ground.phase }, { on := 19, ground := Ground.phase }, { on := 20, ground := Ground.phase }], guard := Option.none } : Oper)) (v := ?_) rfl (by kernel_rfl) (by kernel_rfl) (by kernel_rfl) (fun _ _ _ h => h) (Or.inl ⟨by rfl, ?_⟩) hHeld5 ?_
     rotate_left
     · intro w0 hS0; (try dsimp only at hS0); go_simp; try with_reducible rfl
     try simp only [Act.put, List.setIfInBounds_toArray, List.set_cons_zero, List.set_cons_succ]
     refine wpAnyH_take (i := 22) (oi := ({ dst := Option.some 141, op := Op.fieldAddr 39 (Operand.tmp 140) 4, type := 0, pos := _, after := #[{ on := 21, ground := Ground.data }, { on := 0, ground := Ground.phase }, { on := 1, ground := Ground.phase }, { on := 2, ground := Ground.phase }, { on := 3, ground := Ground.phase }, { on := 4, ground := Ground.phase }, { on := 5, ground := Ground.phase }, { on := 6, ground := Ground.phase }, { on := 7, ground := Ground.phase }, { on := 8, ground := Ground.phase }, { on := 9, ground := Ground.phase }, { on := 10, ground := Ground.phase }, { on := 11, ground := Ground.phase }, { on := 12, ground := Ground.phase }, { on := 13, ground := Ground.phase }, { on := 14, ground := Ground.phase }, { on := 15, ground := Ground.phase }, { on := 16, ground := Ground.phase }, { on := 17, ground := Ground.phase }, { on := 18, ground := Ground.phase }, { on := 19, ground := Ground.phase }, { on := 20, ground := Ground.phase }], guard := Option.none } : Oper)) (v := ?_) rfl (by kernel_rfl) (by kernel_rfl) (by kernel_rfl) (fun _ _ _ h => h) (Or.inl ⟨by rfl, ?_⟩) hHeld5 ?_
     rotate_left
     · intro w0 hS0; (try dsimp only at hS0); go_simp; try with_reducible rfl
     try simp only [Act.put, List.setIfInBounds_toArray, List.set_cons_zero, List.set_cons_succ]
     refine wpAnyH_ready (rs := [23]) (by kernel_rfl) (by simp) ?_
     refine AllReadyH.cons (o := ({ dst := Option.none, op := Op.store 27 (Operand.tmp 141) (Operand.tmp 139), type := 0, pos := _, after := #[{ on := 22, ground := Ground.data }, { on := 20, ground := Ground.data }, { on := 20, ground := Ground.chain }, { on := 0, ground := Ground.phase }, { on := 1, ground := Ground.phase }, { on := 2, ground := Ground.phase }, { on := 3, ground := Ground.phase }, { on := 4, ground := Ground.phase }, { on := 5, ground := Ground.phase }, { on := 6, ground := Ground.phase }, { on := 7, ground := Ground.phase }, { on := 8, ground := Ground.phase }, { on := 9, ground := Ground.phase }, { on := 10, ground := Ground.phase }, { on := 11, ground := Ground.phase }, { on := 12, ground := Ground.phase }, { on := 13, ground := Ground.phase }, { on := 14, ground := Ground.phase }, { on := 15, ground := Ground.phase }, { on := 16, ground := Ground.phase }, { on := 17, ground := Ground.phase }, { on := 18, ground := Ground.phase }, { on := 19, ground := Ground.phase }, { on := 20, ground := Ground.phase }], guard := Option.none } : Oper)) rfl (fun K hK => ?_) AllReadyH.nil
     go_simp
     refine hK.out _ _ ?_ (fun _ => ?_)
     · exact ⟨(World.cell?_setCell_other _ _ _ _ (by simp)).trans k1, (World.cell?_setCell_other _ _ _ _ (fun e => hfw (congrArg Addr.block e).symm)).trans k2, (World.cell?_setCell_other _ _ _ _ (fun e => hfw (congrArg Addr.block e).symm)).trans k3⟩
     clear hK K
     refine wpAnyH_done (by kernel_rfl) ?_ _
     go_wp2_with fail
     go_meet
     case rel => exact ⟨lv', T', L', nodes, fs, given, nv, fv, _, gv, X8.out, HP'.out, F8.out⟩
   · go_simp
     refine hK.out _ _ ?_ (fun hHeld2 => ?_)
     · exact ⟨c3, ca, cb⟩
     clear hK K
     try simp only [Act.put, List.setIfInBounds_toArray, List.set_cons_zero, List.set_cons_succ]
     refine wpAnyH_ready (rs := [15]) (by kernel_rfl) (by simp) ?_
     refine AllReadyH.cons (o := ({ dst := Option.some 134, op := Op.buildSlice 37 2 #[(0, Operand.tmp 126), (1, Operand.tmp 133)], type := 37, pos := _, after := #[{ on := 7, ground := Ground.data }, { on := 14, ground := Ground.data }], guard := Option.none } : Oper)) rfl (fun K hK => ?_) AllReadyH.nil
     go_simp
     refine hK.out _ _ ?_ (fun hHeld3 => ?_)
     · exact ⟨c3a, caa, cba⟩
     clear hK K
     try simp only [Act.put, List.setIfInBounds_toArray, List.set_cons_zero, List.set_cons_succ]
     refine wpAnyH_ready (rs := [20]) (by kernel_rfl) (by simp) ?_
     refine AllReadyH.cons (o := ({ dst := Option.some 139, op := Op.call { callee := Callee.value (Operand.func 20), args := #[Operand.tmp 134, Operand.tmp 138], argTypes := #[37, 27] }, type := 27, pos := _, after := #[{ on := 15, ground := Ground.data }, { on := 19, ground := Ground.data }], guard := Option.none } : Oper)) rfl (fun K hK => ?_) AllReadyH.nil
     go_simp
     go_at_call 20
     refine HRS.out.mono ?_
     rintro e W7 ⟨r, rfl, ⟨h1, h2⟩, h3⟩
     obtain ⟨ra, rc, hrr⟩ := own_slice h1
     subst hrr
     have X7 : Hid (LM w0.heap.size wb tb W7 L' n T' nodes fs given T.ord nv fv ov gv) := (X6.out.grew FS.out).grew h3
     have hz7 := X7.out.z 4
     have hw7 : W7.cell? ⟨wb, 4, none⟩ = some ov := X7.out.c.2.2.2.2.1
     have k1 : W7.cell? ⟨wb, 3, none⟩ = some (.slice (some ⟨fg, 0, none⟩) N fc) := (World.cell?_of_block (h3.block _ (Nat.lt_of_lt_of_le hwl FS.out.size) trivial)).trans c3a
     have k2 : W7.cell? ⟨fg, ia, none⟩ = some (.slice pa la qa) := (World.cell?_of_block (h3.block _ (Nat.lt_of_lt_of_le hfl FS.out.size) trivial)).trans caa
     have k3 : W7.cell? ⟨fg, ib, none⟩ = some (.slice pb lb qb) := (World.cell?_of_block (h3.block _ (Nat.lt_of_lt_of_le hfl FS.out.size) trivial)).trans cba
     obtain ⟨x8, f8⟩ := X7.out.newO h1 (HP'.out.base.mid.t.inv.on) h2
     have X8 : Hid (LM w0.heap.size wb tb (W7.setCell ⟨wb, 4, none⟩ (.slice ra n rc)) L' n T' nodes fs given T'.ord nv fv (.slice ra n rc) gv) := x8
     have F8 : Hid (Fr (fun _ => True) w0 (W7.setCell ⟨wb, 4, none⟩ (.slice ra n rc))) := ((F6.out.trans FS.out).trans h3).over f8 fun b hb => by have := X7.out.wlo; omega
     clear x8 f8 h1 h2 h3
     go_wp2_with fail
     refine hK.out _ _ ?_ (fun hHeld5 => ?_)
     · exact ⟨k1, k2, k3⟩
     clear hK K
     try simp only [Act.put, List.setIfInBounds_toArray, List.set_cons_zero, List.set_cons_succ]
     refine wpAnyH_take (i := 21) (oi := ({ dst := Option.some 140, op := Op.nilCheck (Operand.tmp 119), type := 0, pos := _, after := #[{ on := 0, ground := Ground.data }, { on := 0, ground := Ground.phase }, { on := 1, ground := Ground.phase }, { on := 2, ground := Ground.phase }, { on := 3, ground := Ground.phase }, { on := 4, ground := Ground.phase }, { on := 5, ground := Ground.phase }, { on := 6, ground := Ground.phase }, { on := 7, ground := Ground.phase }, { on := 8, ground := Ground.phase }, { on := 9, ground := Ground.phase }, { on := 10, ground := Ground.phase }, { on := 11, ground := Ground.phase }, { on := 12, ground := Ground.phase }, { on := 13, ground := Ground.phase }, { on := 14, ground := Ground.phase }, { on := 15, ground := Ground.phase }, { on := 16, ground := Ground.phase }, { on := 17, ground := Ground.phase }, { on := 18, ground := Ground.phase }, { on := 19, ground := Ground.phase }, { on := 20, ground := Ground.phase }], guard := Option.none } : Oper)) (v := ?_) rfl (by kernel_rfl) (by kernel_rfl) (by kernel_rfl) (fun _ _ _ h => h) (Or.inl ⟨by rfl, ?_⟩) hHeld5 ?_
     rotate_left
     · intro w0 hS0; (try dsimp only at hS0); go_simp; try with_reducible rfl
     try simp only [Act.put, List.setIfInBounds_toArray, List.set_cons_zero, List.set_cons_succ]
     refine wpAnyH_take (i := 22) (oi := ({ dst := Option.some 141, op := Op.fieldAddr 39 (Operand.tmp 140) 4, type := 0, pos := _, after := #[{ on := 21, ground := Ground.data }, { on := 0, ground := Ground.phase }, { on := 1, ground := Ground.phase }, { on := 2, ground := Ground.phase }, { on := 3, ground := Ground.phase }, { on := 4, ground := Ground.phase }, { on := 5, ground := Ground.phase }, { on := 6, ground := Ground.phase }, { on := 7, ground := Ground.phase }, { on := 8, ground := Ground.phase }, { on := 9, ground := Ground.phase }, { on := 10, ground := Ground.phase }, { on := 11, ground := Ground.phase }, { on := 12, ground := Ground.phase }, { on := 13, ground := Ground.phase }, { on := 14, ground := Ground.phase }, { on := 15, ground := Ground.phase }, { on := 16, ground := Ground.phase }, { on := 17, ground := Ground.phase }, { on := 18, ground := Ground.phase }, { on := 19, ground := Ground.phase }, { on := 20, ground := Ground.phase }], guard := Option.none } : Oper)) (v := ?_) rfl (by kernel_rfl) (by kernel_rfl) (by kernel_rfl) (fun _ _ _ h => h) (Or.inl ⟨by rfl, ?_⟩) hHeld5 ?_
     rotate_left
     · intro w0 hS0; (try dsimp only at hS0); go_simp; try with_reducible rfl
     try simp only [Act.put, List.setIfInBounds_toArray, List.set_cons_zero, List.set_cons_succ]
     refine wpAnyH_ready (rs := [23]) (by kernel_rfl) (by simp) ?_
     refine AllReadyH.cons (o := ({ dst := Option.none, op := Op.store 27 (Operand.tmp 141) (Operand.tmp 139), type := 0, pos := _, after := #[{ on := 22, ground := Ground.data }, { on := 20, ground := Ground.data }, { on := 20, ground := Ground.chain }, { on := 0, ground := Ground.phase }, { on := 1, ground := Ground.phase }, { on := 2, ground := Ground.phase }, { on := 3, ground := Ground.phase }, { on := 4, ground := Ground.phase }, { on := 5, ground := Ground.phase }, { on := 6, ground := Ground.phase }, { on := 7, ground := Ground.phase }, { on := 8, ground := Ground.phase }, { on := 9, ground := Ground.phase }, { on := 10, ground := Ground.phase }, { on := 11, ground := Ground.phase }, { on := 12, ground := Ground.phase }, { on := 13, ground := Ground.phase }, { on := 14, ground := Ground.phase }, { on := 15, ground := Ground.phase }, { on := 16, ground := Ground.phase }, { on := 17, ground := Ground.phase }, { on := 18, ground := Ground.phase }, { on := 19, ground := Ground.phase }, { on := 20, ground := Ground.phase }], guard := Option.none } : Oper)) rfl (fun K hK => ?_) AllReadyH.nil
     go_simp
     refine hK.out _ _ ?_ (fun _ => ?_)
     · exact ⟨(World.cell?_setCell_other _ _ _ _ (by simp)).trans k1, (World.cell?_setCell_other _ _ _ _ (fun e => hfw (congrArg Addr.block e).symm)).trans k2, (World.cell?_setCell_other _ _ _ _ (fun e => hfw (congrArg Addr.block e).symm)).trans k3⟩
     clear hK K
     refine wpAnyH_done (by kernel_rfl) ?_ _
     go_wp2_with fail
     go_meet
     case rel => exact ⟨lv', T', L', nodes, fs, given, nv, fv, _, gv, X8.out, HP'.out, F8.out⟩
end Go.Proofs.YtaakjjefnjbabaaGreat.Sx
