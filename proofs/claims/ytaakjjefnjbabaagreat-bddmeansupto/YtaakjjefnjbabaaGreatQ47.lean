/- The law: the order is turned. -/
import Derived.Test.YtaakjjefnjbabaaGreatQ46
set_option maxRecDepth 100000
namespace Go.Proofs.YtaakjjefnjbabaaGreat.Sx
open Go.RowKit Go.Sort Go.Maps Go.WideMaps
set_option maxHeartbeats 4000000 in
theorem turned_none (w0 W : World) (wb tb n k : Nat) (L : Ly) (lv : Nat → Nat) (T : Tb) (nodes : List Nat) (fs given : List (List Bool)) (nv fv ov gv vo : Value) (o : OpR) (h : LM w0.heap.size wb tb W L n T nodes fs given T.ord nv fv ov gv) (hp : LP k n lv T nodes fs given) (hk2 : 2 ≤ k) (hv : OpV w0 vo o) (hok : OpOK o) (hF : Fr (fun _ => True) w0 W) (hk : 12 < o.kind) :
 Calls Tryz.prog 9 #[.pointer (some ⟨wb, 0, none⟩), vo] W (TurnPost w0 wb tb n k) := by
 obtain ⟨va, vb, rfl, -, -⟩ := hv
 obtain ⟨ok, oa, ob, oc, vars, vals⟩ := o
 have hka := hok.a
 have hkb := hok.b
 have HKA : Hid (I64 oa) := hka
 obtain ⟨hn0, hn63⟩ := hp.nlt
 have hn9 : n ≤ 9 := hp.n9
 have h512 := pow9 hp.n9
 have HN9 : Hid (n ≤ 9) := hp.n9
 have HK2 : Hid (2 ≤ k) := hk2
 have HP : Hid (LP k n lv T nodes fs given) := hp
 have HON : Hid (T.ord.length = n) := hp.base.mid.t.inv.on
 obtain ⟨ia, hia⟩ : ∃ i, pickN oa nodes.length = i := ⟨_, rfl⟩
 obtain ⟨ib, hib⟩ : ∃ i, pickN ob nodes.length = i := ⟨_, rfl⟩
 have hial : ia < nodes.length := by rw [← hia]; exact pickN_lt hn0
 have hibl : ib < nodes.length := by rw [← hib]; exact pickN_lt hn0
 obtain ⟨x, hx⟩ : ∃ x, nodes[ia]? = some x := ⟨_, List.getElem?_eq_getElem hial⟩
 obtain ⟨y, hy⟩ : ∃ y, nodes[ib]? = some y := ⟨_, List.getElem?_eq_getElem hibl⟩
 obtain ⟨fa, hfa, hgx, hex⟩ := hp.live hx
 obtain ⟨fb, hfb, hgy, hey⟩ := hp.live hy
 have HGX : Hid (Giv T x ∧ Giv T y) := ⟨hgx, hgy⟩
 have HXY : Hid (nodes[ia]? = some x ∧ nodes[ib]? = some y ∧ fs[ia]? = some fa ∧ fs[ib]? = some fb) := ⟨hx, hy, hfa, hfb⟩
 have HFE : Hid (fa = tab n (vl n T x) ∧ fb = tab n (vl n T y)) := ⟨hex, hey⟩
 have B1 : Hid ((W.alloc (.cells #[.int .i64 ok, .int .i64 oa, .int .i64 ob, .int .i64 oc, va, vb] 30)).heap[W.heap.size]? = some (.cells #[.int .i64 ok, .int .i64 oa, .int .i64 ob, .int .i64 oc, va, vb] 30 (0, 0))) := heap_new rfl
 have X1 : Hid (LM _ _ _ (W.alloc (.cells #[.int .i64 ok, .int .i64 oa, .int .i64 ob, .int .i64 oc, va, vb] 30)) _ _ _ _ _ _ _ _ _ _ _) := h.grew ((Fr.refl _ W).alloc _)
 have F1 : Hid (Fr (fun _ => True) w0 (W.alloc (.cells #[.int .i64 ok, .int .i64 oa, .int .i64 ob, .int .i64 oc, va, vb] 30))) := hF.alloc _
 have HLB : Hid (L.own W.heap.size = 0) := h.tat.hi _ (Nat.le_refl _)
 obtain ⟨W1, hW1⟩ : ∃ W1, W.alloc (.cells #[.int .i64 ok, .int .i64 oa, .int .i64 ob, .int .i64 oc, va, vb] 30) = W1 := ⟨_, rfl⟩
 obtain ⟨bx, hbx⟩ : ∃ bx, W.heap.size = bx := ⟨_, rfl⟩
 rw [hW1] at B1 X1 F1
 rw [hbx] at B1 HLB
 have hk : 12 < ok := hk
 have hk10 : (ok == 10) = false := by simp; omega
 have hk11 : (ok == 11) = false := by simp; omega
 have hk12 : (ok == 12) = false := by simp; omega
 clear hk
 have HPA : Hid (∀ W', Calls Tryz.prog 17 #[.int .i64 oa, .int .i64 (nodes.length : Int)] W' fun e w' => e = .returned (.int .i64 (ia : Int)) ∧ w' = W') := fun W' => by rw [← hia]; exact pick_any W' oa _ hka.1 hka.2 hn0 hn63
 have HPB : Hid (∀ W', Calls Tryz.prog 17 #[.int .i64 ob, .int .i64 (nodes.length : Int)] W' fun e w' => e = .returned (.int .i64 (ib : Int)) ∧ w' = W') := fun W' => by rw [← hib]; exact pick_any W' ob _ hkb.1 hkb.2 hn0 hn63
 obtain ⟨ng, nc, hnv, -⟩ := X1.out.node hx
 obtain ⟨fg, fc, pa, la, qa, hfv, -, -⟩ := X1.out.fat hfa
 obtain ⟨N, hN⟩ : ∃ N, nodes.length = N := ⟨_, rfl⟩
 have HNV : Hid (nv = .slice (some ⟨ng, 0, none⟩) N nc ∧ fv = .slice (some ⟨fg, 0, none⟩) N fc) := ⟨by rw [hnv, hN], by rw [hfv, ← hp.len, hN]⟩
 rw [hN] at HPA HPB hial hibl hn0
 have HND : Hid (∀ (W' : World) (L' : Ly) (T' : Tb) (ord' : List Nat) (ov' : Value) (i y : Nat), LM w0.heap.size wb tb W' L' n T' nodes fs given ord' nv fv ov' gv → nodes[i]? = some y → W'.cell? ⟨ng, i, none⟩ = some (.int .i64 (y : Int))) := fun W' L' T' ord' ov' i y X hy => by
  obtain ⟨g, c, e, hc⟩ := X.node hy
  rw [HNV.out.1] at e
  injection e with e1 _ _
  cases e1
  exact hc
 have HFN : Hid (∀ (W' : World) (L' : Ly) (T' : Tb) (ord' : List Nat) (ov' : Value) (i : Nat) (f : List Bool), LM w0.heap.size wb tb W' L' n T' nodes fs given ord' nv fv ov' gv → fs[i]? = some f → ∃ p l q, W'.cell? ⟨fg, i, none⟩ = some (.slice p l q) ∧ BVz L' W' (.slice p l q) f) := fun W' L' T' ord' ov' i f X hf => by
  obtain ⟨g, c, p, l, q, e, hc, hz⟩ := X.fat hf
  rw [HNV.out.2] at e
  injection e with e1 _ _
  cases e1
  exact ⟨p, l, q, hc, hz⟩
 have hial1 : (ia : Int) < (N : Int) := by omega
 have hibl1 : (ib : Int) < (N : Int) := by omega
 have hia0 : (0 : Int) ≤ (ia : Int) := by omega
 have hib0 : (0 : Int) ≤ (ib : Int) := by omega
 obtain ⟨c0, c1, c2, c3, c4, -⟩ := X1.out.c
 rw [HNV.out.1] at c2
 rw [HNV.out.2] at c3
 have d0 := block_cell B1.out 0
 have d1 := block_cell B1.out 1
 have d2 := block_cell B1.out 2
 have mo := follows
 clear h hp hok hF hx hy hfa hfb hgx hgy hex hey hia hib hnv hfv hN hk2
 go_enter Tryz.func9, Tryz.ntmps9
 go_wp2_with fail
 refine (HPA.out _).mono ?_
 rintro e w' ⟨rfl, hw⟩; replace hw := hw.symm; subst hw
 go_wp2_with fail
 refine (HPB.out _).mono ?_
 rintro e w' ⟨rfl, hw⟩; replace hw := hw.symm; subst hw
 clear HPA HPB
 have HOR : Hid (Calls _ _ _ _ _) := Order_any X1.out.tat (by rw [HP.out.base.mid.t.inv.on]; omega)
 obtain ⟨z0, -, -, -, -, -⟩ := X1.out.c
 go_wp2_with fail
 refine HOR.out.mono ?_
 rintro e Wa ⟨sl, rfl, hsl, hf⟩
 obtain ⟨sp, sc, hsl1⟩ := own_slice hsl
 subst hsl1
 obtain ⟨ol, hol⟩ : ∃ ol, (T).ord.length = ol := ⟨_, rfl⟩
 have HOL : Hid ((T).ord.length = ol ∧ ol ≤ 9) := ⟨hol, by rw [← hol, HP.out.base.mid.t.inv.on]; exact HN9.out⟩
 rw [hol] at hsl ⊢
 have HSL : Hid (Wa.ownsRow W1.heap.size 3 1 (.slice sp ol sc) ol (i64C (T).ord)) := hsl
 have FA : Hid (Fr (fun _ => True) W1 Wa) := hf
 have XA : Hid (LM _ _ _ Wa _ _ _ _ _ _ _ _ _ _ _) := X1.out.grew hf
 clear hol hsl hf HOR z0
 obtain ⟨z0, -, -, -, z4, -⟩ := XA.out.c
 have HI : Hid (Calls Tryz.prog 25 #[.slice sp ol sc, ov] Wa fun e w' => e = .returned (.bool true) ∧ ∃ m, w' = Wa.drewN m) := by
  have := Ints_any Wa _ _ (nodesI (T).ord) (nodesI (T).ord) (by have := HOL.out; unfold nodesI; rw [List.length_map]; omega) (own_iwN HOL.out.1 HSL.out) (own_iwN rfl XA.out.ordr.1)
  rw [decide_eq_true rfl] at this
  exact this
 go_wp2_with fail
 refine HI.out.mono ?_
 rintro e Wb ⟨rfl, m, hwb⟩
 have FB : Hid (Fr (fun _ => True) Wa Wb) := by rw [hwb]; exact ⟨rfl, rfl, rfl, Nat.le_refl _, fun _ _ _ => rfl⟩
 have HSP : Hid (Calls _ _ _ _ _) := Spoil_any Wb W1.heap.size (.slice sp ol sc) (i64C (T).ord) ol (by have := HOL.out; omega) (Nat.le_trans FA.out.size FB.out.size) (own_fr HSL.out FB.out fun _ _ => trivial)
 clear hwb HI z0 z4
 go_wp2_with fail
 refine HSP.out.mono ?_
 rintro e Wc ⟨rfl, hsp⟩
 have FC : Hid (Fr (fun _ => True) W1 Wc) := spoil_fr FA.out HSL.out FB.out hsp
 clear hsp HSP
 go_wp2_with fail
 go_ret
 exact ⟨_, _, _, _, _, _, _, _, _, _, rfl, X1.out.grew FC.out, HP.out, F1.out.trans FC.out⟩
set_option maxHeartbeats 4000000 in
theorem turned_swap0 (w0 W : World) (wb tb n k : Nat) (L : Ly) (lv : Nat → Nat) (T : Tb) (nodes : List Nat) (fs given : List (List Bool)) (nv fv ov gv vo : Value) (o : OpR) (h : LM w0.heap.size wb tb W L n T nodes fs given T.ord nv fv ov gv) (hp : LP k n lv T nodes fs given) (hk2 : 2 ≤ k) (hv : OpV w0 vo o) (hok : OpOK o) (hF : Fr (fun _ => True) w0 W) (hk : o.kind = 10) (hcan : ¬ (0 ≤ o.a ∧ o.a + 1 < (n : Int))) :
 Calls Tryz.prog 9 #[.pointer (some ⟨wb, 0, none⟩), vo] W (TurnPost w0 wb tb n k) := by
 obtain ⟨va, vb, rfl, -, -⟩ := hv
 obtain ⟨ok, oa, ob, oc, vars, vals⟩ := o
 have hka := hok.a
 have hkb := hok.b
 have HKA : Hid (I64 oa) := hka
 obtain ⟨hn0, hn63⟩ := hp.nlt
 have hn9 : n ≤ 9 := hp.n9
 have h512 := pow9 hp.n9
 have HN9 : Hid (n ≤ 9) := hp.n9
 have HK2 : Hid (2 ≤ k) := hk2
 have HP : Hid (LP k n lv T nodes fs given) := hp
 have HON : Hid (T.ord.length = n) := hp.base.mid.t.inv.on
 obtain ⟨ia, hia⟩ : ∃ i, pickN oa nodes.length = i := ⟨_, rfl⟩
 obtain ⟨ib, hib⟩ : ∃ i, pickN ob nodes.length = i := ⟨_, rfl⟩
 have hial : ia < nodes.length := by rw [← hia]; exact pickN_lt hn0
 have hibl : ib < nodes.length := by rw [← hib]; exact pickN_lt hn0
 obtain ⟨x, hx⟩ : ∃ x, nodes[ia]? = some x := ⟨_, List.getElem?_eq_getElem hial⟩
 obtain ⟨y, hy⟩ : ∃ y, nodes[ib]? = some y := ⟨_, List.getElem?_eq_getElem hibl⟩
 obtain ⟨fa, hfa, hgx, hex⟩ := hp.live hx
 obtain ⟨fb, hfb, hgy, hey⟩ := hp.live hy
 have HGX : Hid (Giv T x ∧ Giv T y) := ⟨hgx, hgy⟩
 have HXY : Hid (nodes[ia]? = some x ∧ nodes[ib]? = some y ∧ fs[ia]? = some fa ∧ fs[ib]? = some fb) := ⟨hx, hy, hfa, hfb⟩
 have HFE : Hid (fa = tab n (vl n T x) ∧ fb = tab n (vl n T y)) := ⟨hex, hey⟩
 have B1 : Hid ((W.alloc (.cells #[.int .i64 ok, .int .i64 oa, .int .i64 ob, .int .i64 oc, va, vb] 30)).heap[W.heap.size]? = some (.cells #[.int .i64 ok, .int .i64 oa, .int .i64 ob, .int .i64 oc, va, vb] 30 (0, 0))) := heap_new rfl
 have X1 : Hid (LM _ _ _ (W.alloc (.cells #[.int .i64 ok, .int .i64 oa, .int .i64 ob, .int .i64 oc, va, vb] 30)) _ _ _ _ _ _ _ _ _ _ _) := h.grew ((Fr.refl _ W).alloc _)
 have F1 : Hid (Fr (fun _ => True) w0 (W.alloc (.cells #[.int .i64 ok, .int .i64 oa, .int .i64 ob, .int .i64 oc, va, vb] 30))) := hF.alloc _
 have HLB : Hid (L.own W.heap.size = 0) := h.tat.hi _ (Nat.le_refl _)
 obtain ⟨W1, hW1⟩ : ∃ W1, W.alloc (.cells #[.int .i64 ok, .int .i64 oa, .int .i64 ob, .int .i64 oc, va, vb] 30) = W1 := ⟨_, rfl⟩
 obtain ⟨bx, hbx⟩ : ∃ bx, W.heap.size = bx := ⟨_, rfl⟩
 rw [hW1] at B1 X1 F1
 rw [hbx] at B1 HLB
 obtain rfl : ok = 10 := hk
 have HCAN : Hid (¬ (0 ≤ oa ∧ oa + 1 < (n : Int))) := hcan
 clear hcan
 have HPA : Hid (∀ W', Calls Tryz.prog 17 #[.int .i64 oa, .int .i64 (nodes.length : Int)] W' fun e w' => e = .returned (.int .i64 (ia : Int)) ∧ w' = W') := fun W' => by rw [← hia]; exact pick_any W' oa _ hka.1 hka.2 hn0 hn63
 have HPB : Hid (∀ W', Calls Tryz.prog 17 #[.int .i64 ob, .int .i64 (nodes.length : Int)] W' fun e w' => e = .returned (.int .i64 (ib : Int)) ∧ w' = W') := fun W' => by rw [← hib]; exact pick_any W' ob _ hkb.1 hkb.2 hn0 hn63
 obtain ⟨ng, nc, hnv, -⟩ := X1.out.node hx
 obtain ⟨fg, fc, pa, la, qa, hfv, -, -⟩ := X1.out.fat hfa
 obtain ⟨N, hN⟩ : ∃ N, nodes.length = N := ⟨_, rfl⟩
 have HNV : Hid (nv = .slice (some ⟨ng, 0, none⟩) N nc ∧ fv = .slice (some ⟨fg, 0, none⟩) N fc) := ⟨by rw [hnv, hN], by rw [hfv, ← hp.len, hN]⟩
 rw [hN] at HPA HPB hial hibl hn0
 have HND : Hid (∀ (W' : World) (L' : Ly) (T' : Tb) (ord' : List Nat) (ov' : Value) (i y : Nat), LM w0.heap.size wb tb W' L' n T' nodes fs given ord' nv fv ov' gv → nodes[i]? = some y → W'.cell? ⟨ng, i, none⟩ = some (.int .i64 (y : Int))) := fun W' L' T' ord' ov' i y X hy => by
  obtain ⟨g, c, e, hc⟩ := X.node hy
  rw [HNV.out.1] at e
  injection e with e1 _ _
  cases e1
  exact hc
 have HFN : Hid (∀ (W' : World) (L' : Ly) (T' : Tb) (ord' : List Nat) (ov' : Value) (i : Nat) (f : List Bool), LM w0.heap.size wb tb W' L' n T' nodes fs given ord' nv fv ov' gv → fs[i]? = some f → ∃ p l q, W'.cell? ⟨fg, i, none⟩ = some (.slice p l q) ∧ BVz L' W' (.slice p l q) f) := fun W' L' T' ord' ov' i f X hf => by
  obtain ⟨g, c, p, l, q, e, hc, hz⟩ := X.fat hf
  rw [HNV.out.2] at e
  injection e with e1 _ _
  cases e1
  exact ⟨p, l, q, hc, hz⟩
 have hial1 : (ia : Int) < (N : Int) := by omega
 have hibl1 : (ib : Int) < (N : Int) := by omega
 have hia0 : (0 : Int) ≤ (ia : Int) := by omega
 have hib0 : (0 : Int) ≤ (ib : Int) := by omega
 obtain ⟨c0, c1, c2, c3, c4, -⟩ := X1.out.c
 rw [HNV.out.1] at c2
 rw [HNV.out.2] at c3
 have d0 := block_cell B1.out 0
 have d1 := block_cell B1.out 1
 have d2 := block_cell B1.out 2
 have mo := follows
 clear h hp hok hF hx hy hfa hfb hgx hgy hex hey hia hib hnv hfv hN hk2
 go_enter Tryz.func9, Tryz.ntmps9
 go_wp2_with fail
 refine (HPA.out _).mono ?_
 rintro e w' ⟨rfl, hw⟩; replace hw := hw.symm; subst hw
 go_wp2_with fail
 refine (HPB.out _).mono ?_
 rintro e w' ⟨rfl, hw⟩; replace hw := hw.symm; subst hw
 clear HPA HPB
 have HSW : Hid (Calls Tryz.prog 18 #[.pointer (some ⟨tb, 0, none⟩), .int .i64 oa] W1.drew fun e w' => e = .returned (.bool false) ∧ w' = W1.drew) := by
  obtain ⟨gs, hgs, hr, -⟩ := HP.out.big
  refine (Swap_any (X1.out.grew (Fr.refl _ W1).drew).tat HP.out.base HP.out.ords oa hgs hr).mono ?_
  rintro e w' (⟨_, h1, h2⟩ | ⟨i, h1, h2, _⟩)
  · exact ⟨h1, h2⟩
  · have := HCAN.out; omega
 go_upto_region 6 with fail
 go_cut [8] (fun s8 wc => s8 = .bool false ∧ Hid (Fr (fun _ => True) W1 wc))
 case first =>
  go_region_with (go_at_call 18; refine HSW.out.mono ?_; rintro e w' ⟨rfl, hw⟩; replace hw := hw.symm; subst hw)
  all_goals
   go_wp2_with fail
   go_meet
   case rel => exact ⟨rfl, (Fr.refl _ W1).drew⟩
 case rest =>
  obtain ⟨rfl, FQ⟩ := hcut
  have X6 : Hid (LM _ _ _ _ _ _ _ _ _ _ _ _ _ _ _) := X1.out.grew FQ.out
  have F6 : Hid (Fr (fun _ => True) w0 _) := F1.out.trans FQ.out
  have B6 : Hid (wc.heap[bx]? = _) := (FQ.out.block bx (block_lt B1.out) trivial).trans B1.out
  clear c0 c1 c2 c3 c4 d0 d1 d2 FQ X1 F1 B1 HSW
  generalize wc = W6 at *
  obtain ⟨-, c1, -, -, -, -⟩ := X6.out.c
  have d1 := block_cell B6.out 1
  go_upto_region 7 with fail
  go_cut [9] (fun s9 wc => s9 = .bool false ∧ ∃ m, wc = W6.drewN m)
  case first =>
   by_cases ha0 : 0 ≤ oa
   · have hlt : ¬ oa < (n : Int) - 1 := by have := HCAN.out; omega
     go_quiet (fail)
     go_wp2_with fail
     go_meet
     case rel => exact ⟨rfl, _, rfl⟩
   · go_quiet (fail)
     go_wp2_with fail
     go_meet
     case rel => exact ⟨rfl, _, rfl⟩
  case rest =>
   obtain ⟨rfl, m, hw⟩ := hcut
   have FQ : Hid (Fr (fun _ => True) W6 wc) := by rw [hw]; exact ⟨rfl, rfl, rfl, Nat.le_refl _, fun _ _ _ => rfl⟩
   have X7 : Hid (LM _ _ _ _ _ _ _ _ _ _ _ _ _ _ _) := X6.out.grew FQ.out
   have F7 : Hid (Fr (fun _ => True) w0 _) := F6.out.trans FQ.out
   clear hw c1 d1 FQ X6 F6 B6
   generalize wc = W7 at *
   have HOR : Hid (Calls _ _ _ _ _) := Order_any X7.out.tat (by rw [HP.out.base.mid.t.inv.on]; omega)
   obtain ⟨z0, -, -, -, -, -⟩ := X7.out.c
   go_wp2_with fail
   refine HOR.out.mono ?_
   rintro e Wa ⟨sl, rfl, hsl, hf⟩
   obtain ⟨sp, sc, hsl1⟩ := own_slice hsl
   subst hsl1
   obtain ⟨ol, hol⟩ : ∃ ol, (T).ord.length = ol := ⟨_, rfl⟩
   have HOL : Hid ((T).ord.length = ol ∧ ol ≤ 9) := ⟨hol, by rw [← hol, HP.out.base.mid.t.inv.on]; exact HN9.out⟩
   rw [hol] at hsl ⊢
   have HSL : Hid (Wa.ownsRow W7.heap.size 3 1 (.slice sp ol sc) ol (i64C (T).ord)) := hsl
   have FA : Hid (Fr (fun _ => True) W7 Wa) := hf
   have XA : Hid (LM _ _ _ Wa _ _ _ _ _ _ _ _ _ _ _) := X7.out.grew hf
   clear hol hsl hf HOR z0
   obtain ⟨z0, -, -, -, z4, -⟩ := XA.out.c
   have HI : Hid (Calls Tryz.prog 25 #[.slice sp ol sc, ov] Wa fun e w' => e = .returned (.bool true) ∧ ∃ m, w' = Wa.drewN m) := by
    have := Ints_any Wa _ _ (nodesI (T).ord) (nodesI (T).ord) (by have := HOL.out; unfold nodesI; rw [List.length_map]; omega) (own_iwN HOL.out.1 HSL.out) (own_iwN rfl XA.out.ordr.1)
    rw [decide_eq_true rfl] at this
    exact this
   go_wp2_with fail
   refine HI.out.mono ?_
   rintro e Wb ⟨rfl, m, hwb⟩
   have FB : Hid (Fr (fun _ => True) Wa Wb) := by rw [hwb]; exact ⟨rfl, rfl, rfl, Nat.le_refl _, fun _ _ _ => rfl⟩
   have HSP : Hid (Calls _ _ _ _ _) := Spoil_any Wb W7.heap.size (.slice sp ol sc) (i64C (T).ord) ol (by have := HOL.out; omega) (Nat.le_trans FA.out.size FB.out.size) (own_fr HSL.out FB.out fun _ _ => trivial)
   clear hwb HI z0 z4
   go_wp2_with fail
   refine HSP.out.mono ?_
   rintro e Wc ⟨rfl, hsp⟩
   have FC : Hid (Fr (fun _ => True) W7 Wc) := spoil_fr FA.out HSL.out FB.out hsp
   clear hsp HSP
   go_wp2_with fail
   go_ret
   exact ⟨_, _, _, _, _, _, _, _, _, _, rfl, X7.out.grew FC.out, HP.out, F7.out.trans FC.out⟩
end Go.Proofs.YtaakjjefnjbabaaGreat.Sx
