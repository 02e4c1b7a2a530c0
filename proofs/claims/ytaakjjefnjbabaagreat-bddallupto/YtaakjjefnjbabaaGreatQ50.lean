/- The law: the order is turned. -/
import Derived.Test.YtaakjjefnjbabaaGreatQ46
import Derived.Deep.CutBlock
set_option maxRecDepth 100000
namespace Go.Proofs.YtaakjjefnjbabaaGreat.Sx
open Go.RowKit Go.Sort Go.Maps Go.WideMaps
set_option maxHeartbeats 8000000 in
theorem turned_keep (w0 W : World) (wb tb n k : Nat) (L : Ly) (lv : Nat → Nat) (T : Tb) (nodes : List Nat) (fs given : List (List Bool)) (nv fv ov gv vo : Value) (o : OpR) (h : LM w0.heap.size wb tb W L n T nodes fs given T.ord nv fv ov gv) (hp : LP k n lv T nodes fs given) (hk2 : 2 ≤ k) (hv : OpV w0 vo o) (hok : OpOK o) (hF : Fr (fun _ => True) w0 W) (hk : o.kind = 12) :
 Calls Tryz.prog 9 #[.pointer (some ⟨wb, 0, none⟩), vo] W (TurnPost w0 wb tb n k) := by
 obtain ⟨va, vb, rfl, -, -⟩ := hv
 obtain ⟨ok, oa, ob, oc, vars, vals⟩ := o
 have hka := hok.a
 have hkb := hok.b
 have HKA : Hid (I64 oa) := hka
 obtain ⟨hn0, hn63⟩ := hp.nlt
 have hn9 : n ≤ 9 := hp.n9
 have h512 := pow9 hp.n9
 have HN9 : Hid (n ≤ 9) := hp.n9
 have HK2 : Hid (2 ≤ k) := hk2
 have HP : Hid (LP k n lv T nodes fs given) := hp
 have HON : Hid (T.ord.length = n) := hp.base.mid.t.inv.on
 obtain ⟨ia, hia⟩ : ∃ i, pickN oa nodes.length = i := ⟨_, rfl⟩
 obtain ⟨ib, hib⟩ : ∃ i, pickN ob nodes.length = i := ⟨_, rfl⟩
 have hial : ia < nodes.length := by rw [← hia]; exact pickN_lt hn0
 have hibl : ib < nodes.length := by rw [← hib]; exact pickN_lt hn0
 obtain ⟨x, hx⟩ : ∃ x, nodes[ia]? = some x := ⟨_, List.getElem?_eq_getElem hial⟩
 obtain ⟨y, hy⟩ : ∃ y, nodes[ib]? = some y := ⟨_, List.getElem?_eq_getElem hibl⟩
 obtain ⟨fa, hfa, hgx, hex⟩ := hp.live hx
 obtain ⟨fb, hfb, hgy, hey⟩ := hp.live hy
 have HGX : Hid (Giv T x ∧ Giv T y) := ⟨hgx, hgy⟩
 have HXY : Hid (nodes[ia]? = some x ∧ nodes[ib]? = some y ∧ fs[ia]? = some fa ∧ fs[ib]? = some fb) := ⟨hx, hy, hfa, hfb⟩
 have HFE : Hid (fa = tab n (vl n T x) ∧ fb = tab n (vl n T y)) := ⟨hex, hey⟩
 have B1 : Hid ((W.alloc (.cells #[.int .i64 ok, .int .i64 oa, .int .i64 ob, .int .i64 oc, va, vb] 30)).heap[W.heap.size]? = some (.cells #[.int .i64 ok, .int .i64 oa, .int .i64 ob, .int .i64 oc, va, vb] 30 (0, 0))) := heap_new rfl
 have X1 : Hid (LM _ _ _ (W.alloc (.cells #[.int .i64 ok, .int .i64 oa, .int .i64 ob, .int .i64 oc, va, vb] 30)) _ _ _ _ _ _ _ _ _ _ _) := h.grew ((Fr.refl _ W).alloc _)
 have F1 : Hid (Fr (fun _ => True) w0 (W.alloc (.cells #[.int .i64 ok, .int .i64 oa, .int .i64 ob, .int .i64 oc, va, vb] 30))) := hF.alloc _
 have HLB : Hid (L.own W.heap.size = 0) := h.tat.hi _ (Nat.le_refl _)
 obtain ⟨W1, hW1⟩ : ∃ W1, W.alloc (.cells #[.int .i64 ok, .int .i64 oa, .int .i64 ob, .int .i64 oc, va, vb] 30) = W1 := ⟨_, rfl⟩
 obtain ⟨bx, hbx⟩ : ∃ bx, W.heap.size = bx := ⟨_, rfl⟩
 rw [hW1] at B1 X1 F1
 rw [hbx] at B1 HLB
 obtain rfl : ok = 12 := hk
 have HPA : Hid (∀ W', Calls Tryz.prog 17 #[.int .i64 oa, .int .i64 (nodes.length : Int)] W' fun e w' => e = .returned (.int .i64 (ia : Int)) ∧ w' = W') := fun W' => by rw [← hia]; exact pick_any W' oa _ hka.1 hka.2 hn0 hn63
 have HPB : Hid (∀ W', Calls Tryz.prog 17 #[.int .i64 ob, .int .i64 (nodes.length : Int)] W' fun e w' => e = .returned (.int .i64 (ib : Int)) ∧ w' = W') := fun W' => by rw [← hib]; exact pick_any W' ob _ hkb.1 hkb.2 hn0 hn63
 obtain ⟨ng, nc, hnv, -⟩ := X1.out.node hx
 obtain ⟨fg, fc, pa, la, qa, hfv, -, -⟩ := X1.out.fat hfa
 obtain ⟨N, hN⟩ : ∃ N, nodes.length = N := ⟨_, rfl⟩
 have HNV : Hid (nv = .slice (some ⟨ng, 0, none⟩) N nc ∧ fv = .slice (some ⟨fg, 0, none⟩) N fc) := ⟨by rw [hnv, hN], by rw [hfv, ← hp.len, hN]⟩
 rw [hN] at HPA HPB hial hibl hn0
 have HND : Hid (∀ (W' : World) (L' : Ly) (T' : Tb) (ord' : List Nat) (ov' : Value) (i y : Nat), LM w0.heap.size wb tb W' L' n T' nodes fs given ord' nv fv ov' gv → nodes[i]? = some y → W'.cell? ⟨ng, i, none⟩ = some (.int .i64 (y : Int))) := fun W' L' T' ord' ov' i y X hy => by
  obtain ⟨g, c, e, hc⟩ := X.node hy
  rw [HNV.out.1] at e
  injection e with e1 _ _
  cases e1
  exact hc
 have HFN : Hid (∀ (W' : World) (L' : Ly) (T' : Tb) (ord' : List Nat) (ov' : Value) (i : Nat) (f : List Bool), LM w0.heap.size wb tb W' L' n T' nodes fs given ord' nv fv ov' gv → fs[i]? = some f → ∃ p l q, W'.cell? ⟨fg, i, none⟩ = some (.slice p l q) ∧ BVz L' W' (.slice p l q) f) := fun W' L' T' ord' ov' i f X hf => by
  obtain ⟨g, c, p, l, q, e, hc, hz⟩ := X.fat hf
  rw [HNV.out.2] at e
  injection e with e1 _ _
  cases e1
  exact ⟨p, l, q, hc, hz⟩
 have hial1 : (ia : Int) < (N : Int) := by omega
 have hibl1 : (ib : Int) < (N : Int) := by omega
 have hia0 : (0 : Int) ≤ (ia : Int) := by omega
 have hib0 : (0 : Int) ≤ (ib : Int) := by omega
 obtain ⟨c0, c1, c2, c3, c4, -⟩ := X1.out.c
 rw [HNV.out.1] at c2
 rw [HNV.out.2] at c3
 have d0 := block_cell B1.out 0
 have d1 := block_cell B1.out 1
 have d2 := block_cell B1.out 2
 have mo := follows
 clear h hp hok hF hx hy hfa hfb hgx hgy hex hey hia hib hnv hfv hN hk2
 go_enter Tryz.func9, Tryz.ntmps9
 go_wp2_with fail
 refine (HPA.out _).mono ?_
 rintro e w' ⟨rfl, hw⟩; replace hw := hw.symm; subst hw
 go_wp2_with fail
 refine (HPB.out _).mono ?_
 rintro e w' ⟨rfl, hw⟩; replace hw := hw.symm; subst hw
 clear HPA HPB
 go_upto_block 0 with fail
 go_cut [] (fun wc => ∃ (lv' : Nat → Nat) (T' : Tb) (L' : Ly) (nodes' : List Nat) (fs' given' : List (List Bool)) (nv' fv' ov' gv' : Value), Hid (LM w0.heap.size wb tb wc L' n T' nodes' fs' given' T'.ord nv' fv' ov' gv') ∧ Hid (LP k n lv' T' nodes' fs' given') ∧ Hid (Fr (fun _ => True) w0 wc))
 case rest =>
  obtain ⟨lv', T', L', nodes', fs', given', nv', fv', ov', gv', X9, HP9, F9⟩ := hcut
  clear c0 c1 c2 c3 c4 d0 d1 d2 X1 F1 B1
  generalize wc = W9 at *
  have HOR : Hid (Calls _ _ _ _ _) := Order_any X9.out.tat (by rw [HP9.out.base.mid.t.inv.on]; omega)
  obtain ⟨z0, -, -, -, -, -⟩ := X9.out.c
  go_wp2_with fail
  refine HOR.out.mono ?_
  rintro e Wa ⟨sl, rfl, hsl, hf⟩
  obtain ⟨sp, sc, hsl1⟩ := own_slice hsl
  subst hsl1
  obtain ⟨ol, hol⟩ : ∃ ol, (T').ord.length = ol := ⟨_, rfl⟩
  have HOL : Hid ((T').ord.length = ol ∧ ol ≤ 9) := ⟨hol, by rw [← hol, HP9.out.base.mid.t.inv.on]; exact HN9.out⟩
  rw [hol] at hsl ⊢
  have HSL : Hid (Wa.ownsRow W9.heap.size 3 1 (.slice sp ol sc) ol (i64C (T').ord)) := hsl
  have FA : Hid (Fr (fun _ => True) W9 Wa) := hf
  have XA : Hid (LM _ _ _ Wa _ _ _ _ _ _ _ _ _ _ _) := X9.out.grew hf
  clear hol hsl hf HOR z0
  obtain ⟨z0, -, -, -, z4, -⟩ := XA.out.c
  have HI : Hid (Calls Tryz.prog 25 #[.slice sp ol sc, ov'] Wa fun e w' => e = .returned (.bool true) ∧ ∃ m, w' = Wa.drewN m) := by
   have := Ints_any Wa _ _ (nodesI (T').ord) (nodesI (T').ord) (by have := HOL.out; unfold nodesI; rw [List.length_map]; omega) (own_iwN HOL.out.1 HSL.out) (own_iwN rfl XA.out.ordr.1)
   rw [decide_eq_true rfl] at this
   exact this
  go_wp2_with fail
  refine HI.out.mono ?_
  rintro e Wb ⟨rfl, m, hwb⟩
  have FB : Hid (Fr (fun _ => True) Wa Wb) := by rw [hwb]; exact ⟨rfl, rfl, rfl, Nat.le_refl _, fun _ _ _ => rfl⟩
  have HSP : Hid (Calls _ _ _ _ _) := Spoil_any Wb W9.heap.size (.slice sp ol sc) (i64C (T').ord) ol (by have := HOL.out; omega) (Nat.le_trans FA.out.size FB.out.size) (own_fr HSL.out FB.out fun _ _ => trivial)
  clear hwb HI z0 z4
  go_wp2_with fail
  refine HSP.out.mono ?_
  rintro e Wc ⟨rfl, hsp⟩
  have FC : Hid (Fr (fun _ => True) W9 Wc) := spoil_fr FA.out HSL.out FB.out hsp
  clear hsp HSP
  go_wp2_with fail
  go_ret
  exact ⟨_, _, _, _, _, _, _, _, _, _, rfl, X9.out.grew FC.out, HP9.out, F9.out.trans FC.out⟩
 case first =>
  have HC : Hid (∀ (W' : World) (L' : Ly) (T' : Tb) (ord' : List Nat) (ov' : Value), LM w0.heap.size wb tb W' L' n T' nodes fs given ord' nv fv ov' gv → W'.cell? ⟨wb, 0, none⟩ = some (.pointer (some ⟨tb, 0, none⟩)) ∧ W'.cell? ⟨wb, 2, none⟩ = some (.slice (some ⟨ng, 0, none⟩) N nc) ∧ W'.cell? ⟨ng, ia, none⟩ = some (.int .i64 (x : Int)) ∧ W'.cell? ⟨ng, ib, none⟩ = some (.int .i64 (y : Int))) := fun W' L' T' ord' ov' X => ⟨X.c.1, by rw [← HNV.out.1]; exact X.c.2.2.1, HND.out _ _ _ _ _ _ _ X HXY.out.1, HND.out _ _ _ _ _ _ _ X HXY.out.2.1⟩
  have XA : Hid (LM w0.heap.size wb tb (W1.alloc (.cells #[.int .i64 (x : Int), .int .i64 (y : Int)] 32)) L n T nodes fs given T.ord nv fv ov gv) := X1.out.grew ((Fr.refl _ W1).alloc _)
  have XD : Hid (LM w0.heap.size wb tb W1.drew L n T nodes fs given T.ord nv fv ov gv) := X1.out.grew (Fr.refl _ W1).drew
  obtain ⟨x0, x1, x2, x3⟩ := HC.out _ _ _ _ _ X1.out
  obtain ⟨y0, y1, y2, y3⟩ := HC.out _ _ _ _ _ XD.out
  obtain ⟨p0, p1, p2, p3⟩ := HC.out _ _ _ _ _ XA.out
  have FS : Hid (Fr (fun _ => True) W1 (W1.alloc (.cells #[.int .i64 (x : Int), .int .i64 (y : Int)] 32)).drew) := ((Fr.refl _ W1).alloc _).drew
  have XS : Hid (LM w0.heap.size wb tb (W1.alloc (.cells #[.int .i64 (x : Int), .int .i64 (y : Int)] 32)).drew L n T nodes fs given T.ord nv fv ov gv) := X1.out.grew FS.out
  obtain ⟨q0, q1, q2, q3⟩ := HC.out _ _ _ _ _ XS.out
  clear XA XD c0 c1 c2 c3 c4 d1 d2
  have HSV : Hid (IntsV (W1.alloc (.cells #[.int .i64 (x : Int), .int .i64 (y : Int)] 32)).drew (some ⟨W1.heap.size, 0, none⟩) (nodesI [x, y])) := ⟨fun i v hv => ⟨_, rfl, by
   rw [add0]
   match i with
   | 0 => cases hv; exact block_cell (heap_new rfl) 0
   | 1 => cases hv; exact block_cell (heap_new rfl) 1
   | i + 2 => cases hv⟩⟩
  have HGS : Hid (∀ f ∈ [x, y], Giv T f) := fun f hf => by
   simp only [List.mem_cons, List.not_mem_nil, or_false] at hf
   rcases hf with rfl | rfl
   · exact HGX.out.1
   · exact HGX.out.2
  have HFM : Hid (([x, y].map (vl n T)).map (tab n) = [fa, fb]) := by rw [HFE.out.1, HFE.out.2]; rfl
  have HKE : Hid (Calls Tryz.prog 21 #[.pointer (some ⟨tb, 0, none⟩), .slice (some ⟨W1.heap.size, 0, none⟩) 2 2] (W1.alloc (.cells #[.int .i64 (x : Int), .int .i64 (y : Int)] 32)).drew fun e w' => e = .returned (.tuple #[]) ∧ ∃ (ls : List Nat) (T' : Tb) (L' : Ly), TAt w' tb L' T' ∧ FrT L L' (W1.alloc (.cells #[.int .i64 (x : Int), .int .i64 (y : Int)] 32)).drew w' ∧ DiaP T [x, y] ls ∧ KeepP n lv MM T [x, y] ls T') := Keep_any XS.out.tat HP.out.base [x, y] HGS.out (by simp) _ 2 HSV.out fun q e => by
   cases e
   exact X1.out.tat.hi _ (Nat.le_refl _)
  clear HSV HGS
  go_upto_region 18 with fail
  go_cut [] (fun wc => ∃ (ls : List Nat) (T' : Tb) (L' : Ly), Hid (DiaP T [x, y] ls ∧ KeepP n lv MM T [x, y] ls T') ∧ Hid (LM w0.heap.size wb tb wc L' n T' nodes fs given T'.ord nv fv ov gv) ∧ Hid (Fr (fun _ => True) w0 wc))
  case first =>
   as_aux_lemma =>
    go_region_held3 (fun w' => w'.cell? ⟨wb, 0, none⟩ = some (.pointer (some ⟨tb, 0, none⟩)) ∧ w'.cell? ⟨wb, 2, none⟩ = some (.slice (some ⟨ng, 0, none⟩) N nc) ∧ w'.cell? ⟨ng, ia, none⟩ = some (.int .i64 (x : Int)) ∧ w'.cell? ⟨ng, ib, none⟩ = some (.int .i64 (y : Int))) (first | (refine ⟨?_, ?_, ?_, ?_⟩ <;> assumption) | go_keep)
     ((go_at_call 21; refine HKE.out.mono ?_; rintro e W6 ⟨rfl, ls, T', L', h4, h5, h1, h2⟩; obtain ⟨z0, z1, z2, z3⟩ := HC.out _ _ _ _ _ (XS.out.frT h5 h4)))
    all_goals
     have X6 : Hid (LM w0.heap.size wb tb W6 L' n T' nodes fs given T'.ord nv fv ov gv) := by
      have := XS.out.frT h5 h4
      rw [← h2.ord] at this
      exact this
     have F6 : Hid (Fr (fun _ => True) w0 W6) := (F1.out.trans FS.out).table h5 XS.out.low
     have HA : Hid (DiaP T [x, y] ls ∧ KeepP n lv MM T [x, y] ls T') := ⟨h1, h2⟩
     clear h1 h2 h4 h5 x0 x1 x2 x3 y0 y1 y2 y3 p0 p1 p2 p3 q0 q1 q2 q3 z0 z1 z2 z3
     go_wp2_with fail
     go_meet
     case rel => exact ⟨ls, T', L', HA.out, X6.out, F6.out⟩
  case rest =>
   obtain ⟨ls, T', L', HA, X6, F6⟩ := hcut
   clear d0 x0 x1 x2 x3 y0 y1 y2 y3 p0 p1 p2 p3 q0 q1 q2 q3 HC FS XS HKE X1 F1 B1
   generalize wc = W6 at *
   have HPK : Hid (LP k n lv T' [0, 1, x, y] [tab n fun _ => false, tab n fun _ => true, fa, fb] [fa, fb]) := by
    have := HP.out.kept rfl HK2.out HA.out.2
    rw [← HFE.out.1, ← HFE.out.2] at this
    exact this
   obtain ⟨pa, la, qa, ca, hza⟩ := HFN.out _ _ _ _ _ _ _ X6.out HXY.out.2.2.1
   obtain ⟨pb, lb, qb, cb, hzb⟩ := HFN.out _ _ _ _ _ _ _ X6.out HXY.out.2.2.2
   have ZA : Hid (BVz L' W6 (.slice pa la qa) fa) := hza
   have ZB : Hid (BVz L' W6 (.slice pb lb qb) fb) := hzb
   have cx := HND.out _ _ _ _ _ _ _ X6.out HXY.out.1
   have cy := HND.out _ _ _ _ _ _ _ X6.out HXY.out.2.1
   obtain ⟨c0, c1, c2, c3, -, -⟩ := X6.out.c
   rw [HNV.out.1] at c2
   rw [HNV.out.2] at c3
   have HCO : Hid (∀ W b, Calls Tryz.prog 16 #[.int .i64 (n : Int), .bool b] W fun e w' => ∃ r, e = .returned r ∧ (BV w' r (List.replicate (2 ^ n) b) ∧ New W r) ∧ Fr (fun _ => True) W w') := fun W b => rConst_any W n HN9.out b
   clear hza hzb
   go_wp2_with fail
   refine (False_any _ _).mono ?_
   rintro e w' ⟨rfl, hw⟩; replace hw := hw.symm; subst hw
   go_wp2_with fail
   refine (True_any _ _).mono ?_
   rintro e w' ⟨rfl, hw⟩; replace hw := hw.symm; subst hw
   go_wp2_with fail
   refine (HCO.out _ false).mono ?_
   rintro e W7 ⟨r7, rfl, ⟨hb7, hn7⟩, hf7⟩
   have X7 : Hid (LM _ _ _ W7 _ _ _ _ _ _ _ _ _ _ _) := X6.out.grew hf7
   have F7 : Hid (Fr (fun _ => True) w0 W7) := F6.out.trans hf7
   have Z07 : Hid (BVz L' W7 r7 (tab n fun _ => false)) := by rw [← const_tab]; exact hb7.z hn7 X6.out.tat.hi
   have ZA7 : Hid (BVz L' W7 (.slice pa la qa) fa) := ZA.out.frg hf7 fun _ _ _ => trivial
   have ZB7 : Hid (BVz L' W7 (.slice pb lb qb) fb) := ZB.out.frg hf7 fun _ _ _ => trivial
   clear c0 c1 c2 c3 cx cy ca cb hb7 hn7 hf7 X6 F6 ZA ZB
   obtain ⟨p7, q7, hr7, -⟩ := Z07.out.bv.old
   obtain ⟨l7, hl7⟩ : ∃ l7, r7 = .slice p7 l7 q7 := ⟨_, hr7⟩
   clear hr7
   subst hl7
   have c1 := X7.out.c.2.1
   go_wp2_with fail
   refine (HCO.out _ true).mono ?_
   rintro e W8 ⟨r8, rfl, ⟨hb8, hn8⟩, hf8⟩
   have X8 : Hid (LM _ _ _ W8 _ _ _ _ _ _ _ _ _ _ _) := X7.out.grew hf8
   have F8 : Hid (Fr (fun _ => True) w0 W8) := F7.out.trans hf8
   have Z18 : Hid (BVz L' W8 r8 (tab n fun _ => true)) := by rw [← const_tab]; exact hb8.z hn8 X7.out.tat.hi
   have Z08 : Hid (BVz L' W8 (.slice p7 l7 q7) (tab n fun _ => false)) := Z07.out.frg hf8 fun _ _ _ => trivial
   have ZA8 : Hid (BVz L' W8 (.slice pa la qa) fa) := ZA7.out.frg hf8 fun _ _ _ => trivial
   have ZB8 : Hid (BVz L' W8 (.slice pb lb qb) fb) := ZB7.out.frg hf8 fun _ _ _ => trivial
   clear c1 hb8 hn8 hf8 X7 F7 Z07 ZA7 ZB7 HCO
   obtain ⟨p8, q8, hr8, -⟩ := Z18.out.bv.old
   obtain ⟨l8, hl8⟩ : ∃ l8, r8 = .slice p8 l8 q8 := ⟨_, hr8⟩
   clear hr8
   subst hl8
   go_upto_region 27 with fail
   go_cut [] (fun wc => ∃ nv', Hid (LM w0.heap.size wb tb wc L' n T' [0, 1, x, y] fs given T'.ord nv' fv ov gv) ∧ Hid (Fr (fun b => b ≠ wb) W8 wc))
   case first =>
    obtain ⟨x9, f9⟩ := X8.out.setN [0, 1, x, y] (by simp) (cs := #[.int .i64 0, .int .i64 1, .int .i64 (x : Int), .int .i64 (y : Int)]) rfl (m := 4) rfl
    have X9 : Hid (LM _ _ _ _ _ _ _ _ _ _ _ _ _ _ _) := x9
    have F9 : Hid (Fr (fun b => b ≠ wb) W8 _) := f9
    have c2a : (W8.alloc (.cells #[.int .i64 0, .int .i64 1, .int .i64 (x : Int), .int .i64 (y : Int)] 32)).cell? ⟨wb, 2, none⟩ = some nv := (World.cell?_of_block (w := W8) (heap_old (block_lt X8.out.blk))).trans X8.out.c.2.2.1
    have z2a : (W8.alloc (.cells #[.int .i64 0, .int .i64 1, .int .i64 (x : Int), .int .i64 (y : Int)] 32)).frozen? ⟨wb, 2, none⟩ = false := frozen_block ((heap_old (block_lt X8.out.blk)).trans X8.out.blk) 2
    clear x9 f9
    go_wp2_with fail
    go_meet
    case rel => exact ⟨_, X9.out, F9.out⟩
   case rest =>
    as_aux_lemma =>
     obtain ⟨nv', X9, F9⟩ := hcut
     generalize wc = W9 at *
     have HWT : Hid (∃ cs fz, W8.heap[wb]? = some (.cells cs 39 fz)) := ⟨_, _, X8.out.blk⟩
     have Z09 : Hid (BVz L' W9 (.slice p7 l7 q7) (tab n fun _ => false)) := Z08.out.frg F9.out fun b _ hb => ty_ne hb HWT.out (by decide)
     have Z19 : Hid (BVz L' W9 (.slice p8 l8 q8) (tab n fun _ => true)) := Z18.out.frg F9.out fun b _ hb => ty_ne hb HWT.out (by decide)
     have ZA9 : Hid (BVz L' W9 (.slice pa la qa) fa) := ZA8.out.frg F9.out fun b _ hb => ty_ne hb HWT.out (by decide)
     have ZB9 : Hid (BVz L' W9 (.slice pb lb qb) fb) := ZB8.out.frg F9.out fun b _ hb => ty_ne hb HWT.out (by decide)
     have FF9 : Hid (Fr (fun _ => True) w0 W9) := F8.out.over F9.out fun b hb => by have := X8.out.wlo; omega
     clear X8 F8 Z08 Z18 ZA8 ZB8 HWT F9
     go_upto_region 28 with fail
     go_cut [] (fun wc => ∃ fv', Hid (LM w0.heap.size wb tb wc L' n T' [0, 1, x, y] [tab n fun _ => false, tab n fun _ => true, fa, fb] given T'.ord nv' fv' ov gv) ∧ Hid (Fr (fun b => b ≠ wb) W9 wc))
     case first =>
      obtain ⟨x9, f9⟩ := X9.out.setF (vs := [.slice p7 l7 q7, .slice p8 l8 q8, .slice pa la qa, .slice pb lb qb]) (R := [tab n fun _ => false, tab n fun _ => true, fa, fb]) (m := 4) (cs := #[.slice p7 l7 q7, .slice p8 l8 q8, .slice pa la qa, .slice pb lb qb]) rfl rfl (by omega) rfl (fun i vx x h1 h2 => by
       match i with
       | 0 => cases h1; cases h2; exact Z09.out
       | 1 => cases h1; cases h2; exact Z19.out
       | 2 => cases h1; cases h2; exact ZA9.out
       | 3 => cases h1; cases h2; exact ZB9.out
       | i + 4 => cases h1)
      have X10 : Hid (LM _ _ _ _ _ _ _ _ _ _ _ _ _ _ _) := x9
      have F10 : Hid (Fr (fun b => b ≠ wb) W9 _) := f9
      have c3a : (W9.alloc (.cells #[.slice p7 l7 q7, .slice p8 l8 q8, .slice pa la qa, .slice pb lb qb] 28)).cell? ⟨wb, 3, none⟩ = some fv := (World.cell?_of_block (w := W9) (heap_old (block_lt X9.out.blk))).trans X9.out.c.2.2.2.1
      have z3a : (W9.alloc (.cells #[.slice p7 l7 q7, .slice p8 l8 q8, .slice pa la qa, .slice pb lb qb] 28)).frozen? ⟨wb, 3, none⟩ = false := frozen_block ((heap_old (block_lt X9.out.blk)).trans X9.out.blk) 3
      clear x9 f9
      go_wp2_with fail
      go_meet
      case rel => exact ⟨_, X10.out, F10.out⟩
     case rest =>
      obtain ⟨fv', X10, F10⟩ := hcut
      generalize wc = W10 at *
      have HWT : Hid (∃ cs fz, W9.heap[wb]? = some (.cells cs 39 fz)) := ⟨_, _, X9.out.blk⟩
      have ZA10 : Hid (BVz L' W10 (.slice pa la qa) fa) := ZA9.out.frg F10.out fun b _ hb => ty_ne hb HWT.out (by decide)
      have ZB10 : Hid (BVz L' W10 (.slice pb lb qb) fb) := ZB9.out.frg F10.out fun b _ hb => ty_ne hb HWT.out (by decide)
      have FF10 : Hid (Fr (fun _ => True) w0 W10) := FF9.out.over F10.out fun b hb => by have := X9.out.wlo; omega
      clear X9 FF9 Z09 Z19 ZA9 ZB9 HWT F10
      go_upto_region 29 with fail
      go_cut [] (fun wc => ∃ gv', Hid (LM w0.heap.size wb tb wc L' n T' [0, 1, x, y] [tab n fun _ => false, tab n fun _ => true, fa, fb] [fa, fb] T'.ord nv' fv' ov gv') ∧ Hid (Fr (fun b => b ≠ wb) W10 wc))
      case first =>
       obtain ⟨x9, f9⟩ := X10.out.setG (vs := [.slice pa la qa, .slice pb lb qb]) (R := [fa, fb]) (m := 2) (cs := #[.slice pa la qa, .slice pb lb qb]) rfl rfl (by omega) rfl (fun i vx x h1 h2 => by
        match i with
        | 0 => cases h1; cases h2; exact ZA10.out
        | 1 => cases h1; cases h2; exact ZB10.out
        | i + 2 => cases h1)
       have X11 : Hid (LM _ _ _ _ _ _ _ _ _ _ _ _ _ _ _) := x9
       have F11 : Hid (Fr (fun b => b ≠ wb) W10 _) := f9
       have c5a : (W10.alloc (.cells #[.slice pa la qa, .slice pb lb qb] 28)).cell? ⟨wb, 5, none⟩ = some gv := (World.cell?_of_block (w := W10) (heap_old (block_lt X10.out.blk))).trans X10.out.c.2.2.2.2.2
       have z5a : (W10.alloc (.cells #[.slice pa la qa, .slice pb lb qb] 28)).frozen? ⟨wb, 5, none⟩ = false := frozen_block ((heap_old (block_lt X10.out.blk)).trans X10.out.blk) 5
       clear x9 f9
       go_wp2_with fail
       go_meet
       case rel => exact ⟨_, X11.out, F11.out⟩
      case rest =>
       obtain ⟨gv', X11, F11⟩ := hcut
       generalize wc = W11 at *
       have FF11 : Hid (Fr (fun _ => True) w0 W11) := FF10.out.over F11.out fun b hb => by have := X10.out.wlo; omega
       clear X10 FF10 ZA10 ZB10 F11
       have HNO : Hid (Calls Tryz.prog 22 #[.pointer (some ⟨tb, 0, none⟩)] W11 fun e w' => e = .returned (.int .i64 (ls.length : Int)) ∧ w' = W11) := by
        have := Nodes_any X11.out.tat
        rw [HA.out.2.made] at this
        exact this
       have HRS : Hid (Calls Tryz.prog 23 #[gv', ov] W11.drew fun e w' => e = .returned (.int .i64 (ls.length : Int)) ∧ Fr (fun _ => True) W11.drew w') := by
        have hX := X11.out.grew (Fr.refl _ W11).drew
        have t := HPK.out.base.mid.t
        refine (rSize_any _ _ _ [fa, fb] T'.ord n HN9.out (hX.giv.s.rv fun k e => by cases e) (own_irN rfl hX.ordr.1) ?_ (HPK.out.ords.lt t.inv.on) HPK.out.gl ?_).mono ?_
        · rw [t.inv.on]; omega
        · have := pow39 HN9.out
          show 2 * 3 ^ n ≤ _
          omega
        · rintro e w' ⟨R, rfl, hA, hf⟩
          refine ⟨?_, hf⟩
          rw [HA.out.2.ord] at hA ⊢
          rw [HFE.out.1, HFE.out.2] at hA
          rw [HP.out.size2 HGX.out.1.live HGX.out.2.live HA.out.1 hA]
       obtain ⟨sz, hsz⟩ : ∃ sz, ls.length = sz := ⟨_, rfl⟩
       rw [hsz] at HNO HRS
       clear hsz
       obtain ⟨c0, -, -, -, c4, c5⟩ := X11.out.c
       go_wp2_with fail
       refine HNO.out.mono ?_
       rintro e w' ⟨rfl, hw⟩; replace hw := hw.symm; subst hw
       clear HNO
       have c4d : W11.drew.cell? ⟨wb, 4, none⟩ = some ov := c4
       have c5d : W11.drew.cell? ⟨wb, 5, none⟩ = some gv' := c5
       go_upto_region 31 with fail
       go_cut [20] (fun s20 wc => s20 = .int .i64 (sz : Int) ∧ Hid (Fr (fun _ => True) W11 wc))
       case first =>
        as_aux_lemma =>
         go_region_held3 (fun w' => w'.cell? ⟨wb, 5, none⟩ = some gv' ∧ w'.cell? ⟨wb, 4, none⟩ = some ov) (first | (refine ⟨?_, ?_⟩ <;> assumption) | go_keep)
          ((go_at_call 23; refine HRS.out.mono ?_; rintro e W12 ⟨rfl, hf⟩; have z5 : W12.cell? ⟨wb, 5, none⟩ = some gv' := (X11.out.grew ((Fr.refl _ W11).drew.trans hf)).c.2.2.2.2.2; have z4 : W12.cell? ⟨wb, 4, none⟩ = some ov := (X11.out.grew ((Fr.refl _ W11).drew.trans hf)).c.2.2.2.2.1))
         all_goals
          have F12 : Hid (Fr (fun _ => True) W11 W12) := (Fr.refl _ W11).drew.trans hf
          clear hf z4 z5
          go_wp2_with fail
          go_meet
          case rel => exact ⟨rfl, F12.out⟩
       case rest =>
        obtain ⟨rfl, F12⟩ := hcut
        have X12 : Hid (LM _ _ _ wc _ _ _ _ _ _ _ _ _ _ _) := X11.out.grew F12.out
        have FF12 : Hid (Fr (fun _ => True) w0 wc) := FF11.out.trans F12.out
        clear HRS c0 c4 c5 c4d c5d X11 FF11 F12
        go_wp2_with fail
        go_meet
        case rel => exact ⟨lv, T', L', [0, 1, x, y], [tab n fun _ => false, tab n fun _ => true, fa, fb], [fa, fb], nv', fv', ov, gv', X12.out, HPK.out, FF12.out⟩
end Go.Proofs.YtaakjjefnjbabaaGreat.Sx
