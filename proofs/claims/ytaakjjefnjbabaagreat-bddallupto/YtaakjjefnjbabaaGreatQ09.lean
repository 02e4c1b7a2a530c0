/- A function with some values. -/
import Derived.Test.YtaakjjefnjbabaaGreatQ08
set_option maxRecDepth 100000
namespace Go.Proofs.YtaakjjefnjbabaaGreat.Sx
open Go.RowKit Go.Sort Go.Maps Go.WideMaps
set_option maxHeartbeats 1000000 in
theorem part_any (w : World) (ab : Int) (l h : Nat) (b : Bool) :
 Calls Tryz.prog 73 #[.agg #[.int .i64 ab, .int .i64 (l : Int), .int .i64 (h : Int)], .bool b] w fun e w' => e = .returned (.int .i64 ((if b then h else l : Nat) : Int)) ∧ Fr (fun _ => True) w w' := by
 have mo := follows
 cases b with
 | true =>
   go_enter Tryz.func73, Tryz.ntmps73
   go_wp2_with fail
   go_ret
   exact ⟨rfl, (Fr.refl _ w).alloc _⟩
 | false =>
   go_enter Tryz.func73, Tryz.ntmps73
   go_wp2_with fail
   go_ret
   exact ⟨rfl, (Fr.refl _ w).alloc _⟩
structure AtV (w : World) (p : Option Addr) (bs : List Bool) : Prop where
 cell : ∀ (i : Nat) (x : Bool), bs[i]? = some x → ∃ q : Addr, p = some q ∧ w.cell? (q.add i) = some (.bool x)
theorem AtV.of {w w' : World} {p : Option Addr} {bs : List Bool} (h : AtV w p bs) (f : Fr (fun _ => True) w w') : AtV w' p bs := ⟨fun i x hx => by
 obtain ⟨q, e, hc⟩ := h.cell i x hx
 exact ⟨q, e, (World.cell?_of_block (w := w) (f.block _ (World.block_lt_of_cell? w _ hc) trivial)).trans hc⟩⟩
def asg (bs : List Bool) (i : Nat) : Bool := bs.getD i false
set_option maxHeartbeats 8000000 in
theorem Eval_any {w : World} {tb : Nat} {L : Ly} {T : Tb} {n : Nat} {lv : Nat → Nat} {M A : Nat} (h : TAt w tb L T) (hm : Mid n lv M A T) (f : Nat) (hf : Live T f) (p : Option Addr) (bs : List Bool) (c : Nat) (hA : AtV w p bs) :
 Calls Tryz.prog 40 #[.pointer (some ⟨tb, 0, none⟩), .int .i64 (f : Int), .slice p bs.length c] w fun e w' => e = .returned (.bool (vl n T f (asg bs))) ∧ Fr (fun _ => True) w w' := by
 obtain ⟨r0, hr0, hd0⟩ := id hf
 have HK : Hid (Calls Tryz.prog 58 #[.pointer (some ⟨tb, 0, none⟩), .int .i64 (f : Int)] w _) := known_any h f r0 hr0 hd0
 have HX : Hid (TAt w tb L T) := h
 have HM : Hid (Mid n lv M A T) := hm
 have HA : Hid (AtV w p bs) := hA
 have HL : Hid (Live T f) := hf
 obtain ⟨an, han⟩ : ∃ an, bs.length = an := ⟨_, rfl⟩
 have HAN : Hid (bs.length = an) := han
 rw [han]
 have mo := follows
 clear h hm hA hf hr0 hd0 han
 go_enter Tryz.func40, Tryz.ntmps40
 go_wp2_with (go_at_call 58; refine HK.out.mono ?_; rintro e w' ⟨rfl, hw⟩; replace hw := hw.symm; subst hw)
 go_loopg [1] (n + 1) (fun k s1 wr => ∃ f' : Nat, s1 = .int .i64 (f' : Int) ∧ Hid (Live T f') ∧ Hid (vl n T f' (asg bs) = vl n T f (asg bs)) ∧ Hid (n < rk lv T f' + k) ∧ Hid (Fr (fun _ => True) w wr))
 case atStart => exact ⟨f, rfl, HL, rfl, (by omega : n < rk lv T f + (n + 1)), Fr.refl _ _⟩
 case round =>
  obtain ⟨f', rfl, L1, V1, K1, F1⟩ := hrel
  clear HL HK
  by_cases e0 : f' = 0
  · subst e0
    have HV : Hid (vl n T f (asg bs) = false) := V1.out.symm.trans (vl_zero _)
    go_wp2_with fail
    go_ret
    rw [HV.out]
    exact ⟨rfl, F1.out⟩
  by_cases e1 : f' = 1
  · subst e1
    have HV : Hid (vl n T f (asg bs) = true) := V1.out.symm.trans (vl_one _)
    go_wp2_with fail
    go_ret
    rw [HV.out]
    exact ⟨rfl, F1.out⟩
  have n0 : ((f' : Int) != 0) = true := by simp; omega
  have n1 : ((f' : Int) != 1) = true := by simp; omega
  obtain ⟨r, hr, hd⟩ := id L1.out
  have h2f : 2 ≤ f' := by omega
  obtain ⟨a1, a2, _, a4, a5, a6, a7⟩ := HM.out.t.inv.nd f' r h2f hr hd
  obtain ⟨i, ha⟩ : ∃ i : Nat, r.about = (i : Int) := ⟨r.about.toNat, by omega⟩
  have XW := HX.out.grew F1.out
  obtain ⟨g, cap, G⟩ := XW.rowsG hr
  have hfl := lt_of_at hr
  have hf0 : (0 : Int) ≤ (f' : Int) := by omega
  have hfl2 : (f' : Int) < (T.rows.length : Int) := by omega
  have hi0 : (0 : Int) ≤ (i : Int) := by omega
  have HC : Hid (∀ W, Fr (fun _ => True) wr W → W.cell? ⟨tb, 2, none⟩ = some (.slice (some ⟨g, 0, none⟩) T.rows.length cap) ∧ W.cell? ⟨g, f' * 5, none⟩ = some (.int .i64 (i : Int)) ∧ W.cell? ⟨g, f' * 5 + 1, none⟩ = some (.int .i64 (r.low : Int)) ∧ W.cell? ⟨g, f' * 5 + 2, none⟩ = some (.int .i64 (r.high : Int))) := by
   intro W hF
   have hX := XW.grew hF
   have hG := G.next hX hr
   have d0 := hG.c0 hr
   rw [ha] at d0
   exact ⟨hX.b2 hG, d0, hG.c1 hr, hG.c2 hr⟩
  obtain ⟨x0, x1, x2, x3⟩ := HC.out wr (Fr.refl _ wr)
  obtain ⟨y0, y1, y2, y3⟩ := HC.out wr.drew (Fr.refl _ wr).drew
  obtain ⟨b, hb⟩ : ∃ b, asg bs i = b := ⟨_, rfl⟩
  have HP : Hid (∀ W, Calls Tryz.prog 73 #[.agg #[.int .i64 (i : Int), .int .i64 (r.low : Int), .int .i64 (r.high : Int)], .bool b] W _) := fun W => part_any W i r.low r.high b
  obtain ⟨f2, hf2⟩ : ∃ f2 : Nat, (if b then r.high else r.low) = f2 := ⟨_, rfl⟩
  rw [hf2] at HP
  have HN : Hid (Live T f2 ∧ vl n T f2 (asg bs) = vl n T f (asg bs) ∧ rk lv T f' < rk lv T f2) := by
   have hv := HM.out.t.node (asg bs) h2f hr hd
   rw [ha, Int.toNat_natCast, hb, hf2] at hv
   refine ⟨?_, hv.symm.trans V1.out, ?_⟩ <;> rw [← hf2] <;> split <;> assumption
  obtain ⟨lo, hlo⟩ : ∃ lo, r.low = lo := ⟨_, rfl⟩
  obtain ⟨hh, hhh⟩ : ∃ hh, r.high = hh := ⟨_, rfl⟩
  rw [hlo, hhh] at HC HP
  rw [hlo] at x2 y2
  rw [hhh] at x3 y3
  obtain ⟨RL, hRL⟩ : ∃ RL, T.rows.length = RL := ⟨_, rfl⟩
  rw [hRL] at HC hfl2 x0 y0 hfl
  obtain ⟨k, rfl⟩ : ∃ k, gk = k + 1 := ⟨gk - 1, by have := K1.out; have := HM.out.t.rle f' L1.out; omega⟩
  have HAT : Hid (AtV wr p bs) := HA.out.of F1.out
  have HB : Hid (asg bs i = b) := hb
  have HKM : Hid (n < rk lv T f2 + k) := by have := K1.out; have := HN.out.2.2; show n < _; omega
  clear XW G hr hd a1 a2 a4 a5 a6 a7 ha hf2 hb hlo hhh hRL L1 V1 K1 h2f e0 e1
  rcases Nat.lt_or_ge i an with hni | hni
  case inr =>
   have hbf : b = false := by
    rw [← HB.out]; unfold asg; rw [List.getD_eq_getElem?_getD, List.getElem?_eq_none (by rw [HAN.out]; omega)]; rfl
   subst hbf
   have ni : ¬ (i : Int) < (an : Int) := by omega
   have nd : decide ((i : Int) < (an : Int)) = false := by simpa using ni
   have ne : ¬ i < an := by omega
   go_wp2_with fail
   refine wp_region_noPanic ?_
   refine wp_region_held_drew (S := fun w' => w'.cell? ⟨tb, 2, none⟩ = some (.slice (some ⟨g, 0, none⟩) RL cap) ∧ w'.cell? ⟨g, f' * 5, none⟩ = some (.int .i64 (i : Int)) ∧ w'.cell? ⟨g, f' * 5 + 1, none⟩ = some (.int .i64 (lo : Int)) ∧ w'.cell? ⟨g, f' * 5 + 2, none⟩ = some (.int .i64 (hh : Int))) (by kernel_rfl) ⟨y0, y1, y2, y3⟩ (fun hHeld => ?_)
   refine wpAnyH_take (i := 0) (oi := ({ dst := some 16, op := Op.move (Operand.tmp 0), type := 36, pos := "bdd.go:93", after := #[], guard := none } : Oper)) (v := ?_) rfl (by kernel_rfl) (by kernel_rfl) (by kernel_rfl) (fun _ _ _ h => h) (Or.inl ⟨by rfl, ?_⟩) hHeld ?_
   rotate_left
   · intro w0 hS0; (try dsimp only at hS0); go_simp; try with_reducible rfl
   try simp only [Act.put, List.setIfInBounds_toArray, List.set_cons_zero, List.set_cons_succ]
   refine wpAnyH_take (i := 1) (oi := ({ dst := some 17, op := Op.nilCheck (Operand.tmp 16), type := 0, pos := "bdd.go:93", after := #[{ on := 0, ground := Ground.data }], guard := none } : Oper)) (v := ?_) rfl (by kernel_rfl) (by kernel_rfl) (by kernel_rfl) (fun _ _ _ h => h) (Or.inl ⟨by rfl, ?_⟩) hHeld ?_
   rotate_left
   · intro w0 hS0; (try dsimp only at hS0); go_simp; try with_reducible rfl
   try simp only [Act.put, List.setIfInBounds_toArray, List.set_cons_zero, List.set_cons_succ]
   refine wpAnyH_take (i := 2) (oi := ({ dst := some 18, op := Op.fieldAddr 80 (Operand.tmp 17) 2, type := 0, pos := "bdd.go:93", after := #[{ on := 1, ground := Ground.data }], guard := none } : Oper)) (v := ?_) rfl (by kernel_rfl) (by kernel_rfl) (by kernel_rfl) (fun _ _ _ h => h) (Or.inl ⟨by rfl, ?_⟩) hHeld ?_
   rotate_left
   · intro w0 hS0; (try dsimp only at hS0); go_simp; try with_reducible rfl
   try simp only [Act.put, List.setIfInBounds_toArray, List.set_cons_zero, List.set_cons_succ]
   refine wpAnyH_take (i := 3) (oi := ({ dst := some 19, op := Op.load 76 (Operand.tmp 18), type := 76, pos := "bdd.go:93", after := #[{ on := 2, ground := Ground.data }], guard := none } : Oper)) (v := ?_) rfl (by kernel_rfl) (by kernel_rfl) (by kernel_rfl) (fun _ _ _ h => h) (Or.inl ⟨by rfl, ?_⟩) hHeld ?_
   rotate_left
   · intro w0 hS0; (try dsimp only at hS0); go_simp; try with_reducible rfl
   try simp only [Act.put, List.setIfInBounds_toArray, List.set_cons_zero, List.set_cons_succ]
   refine wpAnyH_take (i := 4) (oi := ({ dst := some 20, op := Op.move (Operand.tmp 1), type := 32, pos := "bdd.go:93", after := #[], guard := none } : Oper)) (v := ?_) rfl (by kernel_rfl) (by kernel_rfl) (by kernel_rfl) (fun _ _ _ h => h) (Or.inl ⟨by rfl, ?_⟩) hHeld ?_
   rotate_left
   · intro w0 hS0; (try dsimp only at hS0); go_simp; try with_reducible rfl
   try simp only [Act.put, List.setIfInBounds_toArray, List.set_cons_zero, List.set_cons_succ]
   refine wpAnyH_take (i := 5) (oi := ({ dst := some 21, op := Op.indexAddr 76 (Operand.tmp 19) (Operand.tmp 20), type := 0, pos := "bdd.go:93", after := #[{ on := 3, ground := Ground.data }, { on := 4, ground := Ground.data }], guard := none } : Oper)) (v := ?_) rfl (by kernel_rfl) (by kernel_rfl) (by kernel_rfl) (fun _ _ _ h => h) (Or.inl ⟨by rfl, ?_⟩) hHeld ?_
   rotate_left
   · intro w0 hS0; (try dsimp only at hS0); go_simp; try with_reducible rfl
   try simp only [Act.put, List.setIfInBounds_toArray, List.set_cons_zero, List.set_cons_succ]
   refine wpAnyH_take (i := 6) (oi := ({ dst := some 22, op := Op.fieldAddr 91 (Operand.tmp 21) 0, type := 0, pos := "bdd.go:93", after := #[{ on := 5, ground := Ground.data }], guard := none } : Oper)) (v := ?_) rfl (by kernel_rfl) (by kernel_rfl) (by kernel_rfl) (fun _ _ _ h => h) (Or.inl ⟨by rfl, ?_⟩) hHeld ?_
   rotate_left
   · intro w0 hS0; (try dsimp only at hS0); go_simp; try with_reducible rfl
   try simp only [Act.put, List.setIfInBounds_toArray, List.set_cons_zero, List.set_cons_succ]
   refine wpAnyH_take (i := 7) (oi := ({ dst := some 23, op := Op.load 89 (Operand.tmp 22), type := 89, pos := "bdd.go:93", after := #[{ on := 6, ground := Ground.data }], guard := none } : Oper)) (v := ?_) rfl (by kernel_rfl) (by kernel_rfl) (by kernel_rfl) (fun _ _ _ h => h) (Or.inl ⟨by rfl, ?_⟩) hHeld ?_
   rotate_left
   · intro w0 hS0; (try dsimp only at hS0); go_simp; try with_reducible rfl
   try simp only [Act.put, List.setIfInBounds_toArray, List.set_cons_zero, List.set_cons_succ]
   refine wpAnyH_take (i := 8) (oi := ({ dst := some 24, op := Op.move (Operand.tmp 0), type := 36, pos := "bdd.go:93", after := #[], guard := none } : Oper)) (v := ?_) rfl (by kernel_rfl) (by kernel_rfl) (by kernel_rfl) (fun _ _ _ h => h) (Or.inl ⟨by rfl, ?_⟩) hHeld ?_
   rotate_left
   · intro w0 hS0; (try dsimp only at hS0); go_simp; try with_reducible rfl
   try simp only [Act.put, List.setIfInBounds_toArray, List.set_cons_zero, List.set_cons_succ]
   refine wpAnyH_take (i := 9) (oi := ({ dst := some 25, op := Op.nilCheck (Operand.tmp 24), type := 0, pos := "bdd.go:93", after := #[{ on := 8, ground := Ground.data }], guard := none } : Oper)) (v := ?_) rfl (by kernel_rfl) (by kernel_rfl) (by kernel_rfl) (fun _ _ _ h => h) (Or.inl ⟨by rfl, ?_⟩) hHeld ?_
   rotate_left
   · intro w0 hS0; (try dsimp only at hS0); go_simp; try with_reducible rfl
   try simp only [Act.put, List.setIfInBounds_toArray, List.set_cons_zero, List.set_cons_succ]
   refine wpAnyH_take (i := 10) (oi := ({ dst := some 26, op := Op.fieldAddr 80 (Operand.tmp 25) 2, type := 0, pos := "bdd.go:93", after := #[{ on := 9, ground := Ground.data }], guard := none } : Oper)) (v := ?_) rfl (by kernel_rfl) (by kernel_rfl) (by kernel_rfl) (fun _ _ _ h => h) (Or.inl ⟨by rfl, ?_⟩) hHeld ?_
   rotate_left
   · intro w0 hS0; (try dsimp only at hS0); go_simp; try with_reducible rfl
   try simp only [Act.put, List.setIfInBounds_toArray, List.set_cons_zero, List.set_cons_succ]
   refine wpAnyH_take (i := 11) (oi := ({ dst := some 27, op := Op.load 76 (Operand.tmp 26), type := 76, pos := "bdd.go:93", after := #[{ on := 10, ground := Ground.data }], guard := none } : Oper)) (v := ?_) rfl (by kernel_rfl) (by kernel_rfl) (by kernel_rfl) (fun _ _ _ h => h) (Or.inl ⟨by rfl, ?_⟩) hHeld ?_
   rotate_left
   · intro w0 hS0; (try dsimp only at hS0); go_simp; try with_reducible rfl
   try simp only [Act.put, List.setIfInBounds_toArray, List.set_cons_zero, List.set_cons_succ]
   refine wpAnyH_take (i := 12) (oi := ({ dst := some 28, op := Op.move (Operand.tmp 1), type := 32, pos := "bdd.go:93", after := #[], guard := none } : Oper)) (v := ?_) rfl (by kernel_rfl) (by kernel_rfl) (by kernel_rfl) (fun _ _ _ h => h) (Or.inl ⟨by rfl, ?_⟩) hHeld ?_
   rotate_left
   · intro w0 hS0; (try dsimp only at hS0); go_simp; try with_reducible rfl
   try simp only [Act.put, List.setIfInBounds_toArray, List.set_cons_zero, List.set_cons_succ]
   refine wpAnyH_take (i := 13) (oi := ({ dst := some 29, op := Op.indexAddr 76 (Operand.tmp 27) (Operand.tmp 28), type := 0, pos := "bdd.go:93", after := #[{ on := 11, ground := Ground.data }, { on := 12, ground := Ground.data }], guard := none } : Oper)) (v := ?_) rfl (by kernel_rfl) (by kernel_rfl) (by kernel_rfl) (fun _ _ _ h => h) (Or.inl ⟨by rfl, ?_⟩) hHeld ?_
   rotate_left
   · intro w0 hS0; (try dsimp only at hS0); go_simp; try with_reducible rfl
   try simp only [Act.put, List.setIfInBounds_toArray, List.set_cons_zero, List.set_cons_succ]
   refine wpAnyH_take (i := 14) (oi := ({ dst := some 30, op := Op.fieldAddr 91 (Operand.tmp 29) 0, type := 0, pos := "bdd.go:93", after := #[{ on := 13, ground := Ground.data }], guard := none } : Oper)) (v := ?_) rfl (by kernel_rfl) (by kernel_rfl) (by kernel_rfl) (fun _ _ _ h => h) (Or.inl ⟨by rfl, ?_⟩) hHeld ?_
   rotate_left
   · intro w0 hS0; (try dsimp only at hS0); go_simp; try with_reducible rfl
   try simp only [Act.put, List.setIfInBounds_toArray, List.set_cons_zero, List.set_cons_succ]
   refine wpAnyH_take (i := 15) (oi := ({ dst := some 31, op := Op.fieldAddr 89 (Operand.tmp 30) 0, type := 0, pos := "bdd.go:93", after := #[{ on := 14, ground := Ground.data }], guard := none } : Oper)) (v := ?_) rfl (by kernel_rfl) (by kernel_rfl) (by kernel_rfl) (fun _ _ _ h => h) (Or.inl ⟨by rfl, ?_⟩) hHeld ?_
   rotate_left
   · intro w0 hS0; (try dsimp only at hS0); go_simp; try with_reducible rfl
   try simp only [Act.put, List.setIfInBounds_toArray, List.set_cons_zero, List.set_cons_succ]
   refine wpAnyH_take (i := 16) (oi := ({ dst := some 32, op := Op.load 3 (Operand.tmp 31), type := 3, pos := "bdd.go:93", after := #[{ on := 15, ground := Ground.data }], guard := none } : Oper)) (v := ?_) rfl (by kernel_rfl) (by kernel_rfl) (by kernel_rfl) (fun _ _ _ h => h) (Or.inl ⟨by rfl, ?_⟩) hHeld ?_
   rotate_left
   · intro w0 hS0; (try dsimp only at hS0); go_simp; try with_reducible rfl
   try simp only [Act.put, List.setIfInBounds_toArray, List.set_cons_zero, List.set_cons_succ]
   refine wpAnyH_take (i := 17) (oi := ({ dst := some 33, op := Op.move (Operand.tmp 2), type := 28, pos := "bdd.go:93", after := #[], guard := none } : Oper)) (v := ?_) rfl (by kernel_rfl) (by kernel_rfl) (by kernel_rfl) (fun _ _ _ h => h) (Or.inl ⟨by rfl, ?_⟩) hHeld ?_
   rotate_left
   · intro w0 hS0; (try dsimp only at hS0); go_simp; try with_reducible rfl
   try simp only [Act.put, List.setIfInBounds_toArray, List.set_cons_zero, List.set_cons_succ]
   refine wpAnyH_take (i := 18) (oi := ({ dst := some 34, op := Op.call { callee := Callee.builtin Builtin.len, args := #[Operand.tmp 33], argTypes := #[28] }, type := 3, pos := "bdd.go:93", after := #[{ on := 17, ground := Ground.data }], guard := none } : Oper)) (v := ?_) rfl (by kernel_rfl) (by kernel_rfl) (by kernel_rfl) (fun _ _ _ h => h) (Or.inl ⟨by rfl, ?_⟩) hHeld ?_
   rotate_left
   · intro w0 hS0; (try dsimp only at hS0); go_simp; try with_reducible rfl
   try simp only [Act.put, List.setIfInBounds_toArray, List.set_cons_zero, List.set_cons_succ]
   refine wpAnyH_take (i := 19) (oi := ({ dst := some 35, op := Op.binOp BinOp.lss 3 (Operand.tmp 32) (Operand.tmp 34) 3, type := 4, pos := "bdd.go:93", after := #[{ on := 16, ground := Ground.data }, { on := 18, ground := Ground.data }], guard := none } : Oper)) (v := ?_) rfl (by kernel_rfl) (by kernel_rfl) (by kernel_rfl) (fun _ _ _ h => h) (Or.inl ⟨by rfl, ?_⟩) hHeld ?_
   rotate_left
   · intro w0 hS0; (try dsimp only at hS0); go_simp; try with_reducible rfl
   try simp only [Act.put, List.setIfInBounds_toArray, List.set_cons_zero, List.set_cons_succ]
   refine wpAnyH_take (i := 20) (oi := ({ dst := some 36, op := Op.move (Operand.tmp 35), type := 4, pos := "bdd.go:93", after := #[{ on := 19, ground := Ground.data }], guard := none } : Oper)) (v := ?_) rfl (by kernel_rfl) (by kernel_rfl) (by kernel_rfl) (fun _ _ _ h => h) (Or.inl ⟨by rfl, ?_⟩) hHeld ?_
   rotate_left
   · intro w0 hS0; (try dsimp only at hS0); go_simp; try with_reducible rfl
   try simp only [Act.put, List.setIfInBounds_toArray, List.set_cons_zero, List.set_cons_succ]
   refine wpAnyH_take (i := 21) (oi := ({ dst := some 37, op := Op.move (Operand.tmp 2), type := 28, pos := "bdd.go:93", after := #[{ on := 20, ground := Ground.guard }], guard := some (20, true) } : Oper)) (v := undef) rfl (by kernel_rfl) (by kernel_rfl) (by kernel_rfl) (fun _ _ _ h => h) (Or.inr ⟨by rfl, rfl⟩) hHeld ?_
   try simp only [Act.put, List.setIfInBounds_toArray, List.set_cons_zero, List.set_cons_succ]
   refine wpAnyH_take (i := 22) (oi := ({ dst := some 38, op := Op.move (Operand.tmp 0), type := 36, pos := "bdd.go:93", after := #[{ on := 20, ground := Ground.guard }], guard := some (20, true) } : Oper)) (v := undef) rfl (by kernel_rfl) (by kernel_rfl) (by kernel_rfl) (fun _ _ _ h => h) (Or.inr ⟨by rfl, rfl⟩) hHeld ?_
   try simp only [Act.put, List.setIfInBounds_toArray, List.set_cons_zero, List.set_cons_succ]
   refine wpAnyH_take (i := 23) (oi := ({ dst := some 39, op := Op.nilCheck (Operand.tmp 38), type := 0, pos := "bdd.go:93", after := #[{ on := 22, ground := Ground.data }, { on := 20, ground := Ground.guard }], guard := some (20, true) } : Oper)) (v := undef) rfl (by kernel_rfl) (by kernel_rfl) (by kernel_rfl) (fun _ _ _ h => h) (Or.inr ⟨by rfl, rfl⟩) hHeld ?_
   try simp only [Act.put, List.setIfInBounds_toArray, List.set_cons_zero, List.set_cons_succ]
   refine wpAnyH_take (i := 24) (oi := ({ dst := some 40, op := Op.fieldAddr 80 (Operand.tmp 39) 2, type := 0, pos := "bdd.go:93", after := #[{ on := 23, ground := Ground.data }, { on := 20, ground := Ground.guard }], guard := some (20, true) } : Oper)) (v := undef) rfl (by kernel_rfl) (by kernel_rfl) (by kernel_rfl) (fun _ _ _ h => h) (Or.inr ⟨by rfl, rfl⟩) hHeld ?_
   try simp only [Act.put, List.setIfInBounds_toArray, List.set_cons_zero, List.set_cons_succ]
   refine wpAnyH_take (i := 25) (oi := ({ dst := some 41, op := Op.load 76 (Operand.tmp 40), type := 76, pos := "bdd.go:93", after := #[{ on := 24, ground := Ground.data }, { on := 20, ground := Ground.guard }], guard := some (20, true) } : Oper)) (v := undef) rfl (by kernel_rfl) (by kernel_rfl) (by kernel_rfl) (fun _ _ _ h => h) (Or.inr ⟨by rfl, rfl⟩) hHeld ?_
   try simp only [Act.put, List.setIfInBounds_toArray, List.set_cons_zero, List.set_cons_succ]
   refine wpAnyH_take (i := 26) (oi := ({ dst := some 42, op := Op.move (Operand.tmp 1), type := 32, pos := "bdd.go:93", after := #[{ on := 20, ground := Ground.guard }], guard := some (20, true) } : Oper)) (v := undef) rfl (by kernel_rfl) (by kernel_rfl) (by kernel_rfl) (fun _ _ _ h => h) (Or.inr ⟨by rfl, rfl⟩) hHeld ?_
   try simp only [Act.put, List.setIfInBounds_toArray, List.set_cons_zero, List.set_cons_succ]
   refine wpAnyH_take (i := 27) (oi := ({ dst := some 43, op := Op.indexAddr 76 (Operand.tmp 41) (Operand.tmp 42), type := 0, pos := "bdd.go:93", after := #[{ on := 25, ground := Ground.data }, { on := 26, ground := Ground.data }, { on := 20, ground := Ground.guard }], guard := some (20, true) } : Oper)) (v := undef) rfl (by kernel_rfl) (by kernel_rfl) (by kernel_rfl) (fun _ _ _ h => h) (Or.inr ⟨by rfl, rfl⟩) hHeld ?_
   try simp only [Act.put, List.setIfInBounds_toArray, List.set_cons_zero, List.set_cons_succ]
   refine wpAnyH_take (i := 28) (oi := ({ dst := some 44, op := Op.fieldAddr 91 (Operand.tmp 43) 0, type := 0, pos := "bdd.go:93", after := #[{ on := 27, ground := Ground.data }, { on := 20, ground := Ground.guard }], guard := some (20, true) } : Oper)) (v := undef) rfl (by kernel_rfl) (by kernel_rfl) (by kernel_rfl) (fun _ _ _ h => h) (Or.inr ⟨by rfl, rfl⟩) hHeld ?_
   try simp only [Act.put, List.setIfInBounds_toArray, List.set_cons_zero, List.set_cons_succ]
   refine wpAnyH_take (i := 29) (oi := ({ dst := some 45, op := Op.fieldAddr 89 (Operand.tmp 44) 0, type := 0, pos := "bdd.go:93", after := #[{ on := 28, ground := Ground.data }, { on := 20, ground := Ground.guard }], guard := some (20, true) } : Oper)) (v := undef) rfl (by kernel_rfl) (by kernel_rfl) (by kernel_rfl) (fun _ _ _ h => h) (Or.inr ⟨by rfl, rfl⟩) hHeld ?_
   try simp only [Act.put, List.setIfInBounds_toArray, List.set_cons_zero, List.set_cons_succ]
   refine wpAnyH_take (i := 30) (oi := ({ dst := some 46, op := Op.load 3 (Operand.tmp 45), type := 3, pos := "bdd.go:93", after := #[{ on := 29, ground := Ground.data }, { on := 20, ground := Ground.guard }], guard := some (20, true) } : Oper)) (v := undef) rfl (by kernel_rfl) (by kernel_rfl) (by kernel_rfl) (fun _ _ _ h => h) (Or.inr ⟨by rfl, rfl⟩) hHeld ?_
   try simp only [Act.put, List.setIfInBounds_toArray, List.set_cons_zero, List.set_cons_succ]
   refine wpAnyH_take (i := 31) (oi := ({ dst := some 47, op := Op.indexAddr 28 (Operand.tmp 37) (Operand.tmp 46), type := 0, pos := "bdd.go:93", after := #[{ on := 21, ground := Ground.data }, { on := 30, ground := Ground.data }, { on := 20, ground := Ground.guard }], guard := some (20, true) } : Oper)) (v := undef) rfl (by kernel_rfl) (by kernel_rfl) (by kernel_rfl) (fun _ _ _ h => h) (Or.inr ⟨by rfl, rfl⟩) hHeld ?_
   try simp only [Act.put, List.setIfInBounds_toArray, List.set_cons_zero, List.set_cons_succ]
   refine wpAnyH_take (i := 32) (oi := ({ dst := some 48, op := Op.load 4 (Operand.tmp 47), type := 4, pos := "bdd.go:93", after := #[{ on := 31, ground := Ground.data }, { on := 20, ground := Ground.guard }], guard := some (20, true) } : Oper)) (v := undef) rfl (by kernel_rfl) (by kernel_rfl) (by kernel_rfl) (fun _ _ _ h => h) (Or.inr ⟨by rfl, rfl⟩) hHeld ?_
   try simp only [Act.put, List.setIfInBounds_toArray, List.set_cons_zero, List.set_cons_succ]
   refine wpAnyH_take (i := 33) (oi := ({ dst := some 49, op := Op.pick (Operand.tmp 36) (Operand.tmp 48) (Operand.const (Value.bool false)), type := 4, pos := "bdd.go:93", after := #[{ on := 20, ground := Ground.data }, { on := 32, ground := Ground.data }], guard := none } : Oper)) (v := ?_) rfl (by kernel_rfl) (by kernel_rfl) (by kernel_rfl) (fun _ _ _ h => h) (Or.inl ⟨by rfl, ?_⟩) hHeld ?_
   rotate_left
   · intro w0 hS0; (try dsimp only at hS0); go_simp; try with_reducible rfl
   try simp only [Act.put, List.setIfInBounds_toArray, List.set_cons_zero, List.set_cons_succ]
   refine wpAnyH_ready (rs := [34]) (by kernel_rfl) (by simp) ?_
   refine AllReadyH.cons (o := ({ dst := some 50, op := Op.call { callee := Callee.value (Operand.func 73), args := #[Operand.tmp 23, Operand.tmp 49], argTypes := #[89, 4] }, type := 32, pos := "bdd.go:93", after := #[{ on := 7, ground := Ground.data }, { on := 33, ground := Ground.data }, { on := 20, ground := Ground.chain }], guard := none } : Oper)) rfl (fun K hK => ?_) AllReadyH.nil
   go_simp
   refine (HP.out _).mono ?_
   rintro e W5 ⟨rfl, hF5⟩
   have F5 : Hid (Fr (fun _ => True) wr W5) := (Fr.refl _ wr).drew.trans hF5
   obtain ⟨z0, z1, z2, z3⟩ := HC.out W5 F5.out
   clear hF5
   refine hK.out _ _ ?_ (fun hHeld2 => ?_)
   · exact ⟨z0, z1, z2, z3⟩
   clear hK K
   try simp only [Act.put, List.setIfInBounds_toArray, List.set_cons_zero, List.set_cons_succ]
   refine wpAnyH_take (i := 35) (oi := ({ dst := some 1, op := Op.assign (Operand.tmp 50), type := 32, pos := "bdd.go:93", after := #[{ on := 34, ground := Ground.data }, { on := 34, ground := Ground.chain }, { on := 0, ground := Ground.phase }, { on := 1, ground := Ground.phase }, { on := 2, ground := Ground.phase }, { on := 3, ground := Ground.phase }, { on := 4, ground := Ground.phase }, { on := 5, ground := Ground.phase }, { on := 6, ground := Ground.phase }, { on := 7, ground := Ground.phase }, { on := 8, ground := Ground.phase }, { on := 9, ground := Ground.phase }, { on := 10, ground := Ground.phase }, { on := 11, ground := Ground.phase }, { on := 12, ground := Ground.phase }, { on := 13, ground := Ground.phase }, { on := 14, ground := Ground.phase }, { on := 15, ground := Ground.phase }, { on := 16, ground := Ground.phase }, { on := 17, ground := Ground.phase }, { on := 18, ground := Ground.phase }, { on := 19, ground := Ground.phase }, { on := 20, ground := Ground.phase }, { on := 21, ground := Ground.phase }, { on := 22, ground := Ground.phase }, { on := 23, ground := Ground.phase }, { on := 24, ground := Ground.phase }, { on := 25, ground := Ground.phase }, { on := 26, ground := Ground.phase }, { on := 27, ground := Ground.phase }, { on := 28, ground := Ground.phase }, { on := 29, ground := Ground.phase }, { on := 30, ground := Ground.phase }, { on := 31, ground := Ground.phase }, { on := 32, ground := Ground.phase }, { on := 33, ground := Ground.phase }, { on := 34, ground := Ground.phase }], guard := none } : Oper)) (v := ?_) rfl (by kernel_rfl) (by kernel_rfl) (by kernel_rfl) (fun _ _ _ h => h) (Or.inl ⟨by rfl, ?_⟩) hHeld2 ?_
   rotate_left
   · intro w0 hS0; (try dsimp only at hS0); go_simp; try with_reducible rfl
   try simp only [Act.put, List.setIfInBounds_toArray, List.set_cons_zero, List.set_cons_succ]
   refine wpAnyH_done (by kernel_rfl) ?_ _
   refine NoPanic.normal ?_
   clear x0 x1 x2 x3 y0 y1 y2 y3 z0 z1 z2 z3 HP HC hHeld hHeld2
   go_wp2_with fail
   go_roundg k
   case measure => omega
   case rel => exact ⟨f2, rfl, HN.out.1, HN.out.2.1, HKM, F1.out.trans F5.out⟩
  case inl =>
   obtain ⟨q, hpq, hq⟩ := HAT.out.cell i b (by rw [← HB.out]; unfold asg; rw [List.getD_eq_getElem?_getD, List.getElem?_eq_getElem (by rw [HAN.out]; exact hni)]; rfl)
   subst hpq
   have ni : (i : Int) < (an : Int) := by omega
   have nd : decide ((i : Int) < (an : Int)) = true := by simpa using ni
   have y4 : wr.drew.cell? (q.add i) = some (.bool b) := hq
   go_wp2_with fail
   refine wp_region_noPanic ?_
   refine wp_region_held_drew (S := fun w' => w'.cell? ⟨tb, 2, none⟩ = some (.slice (some ⟨g, 0, none⟩) RL cap) ∧ w'.cell? ⟨g, f' * 5, none⟩ = some (.int .i64 (i : Int)) ∧ w'.cell? ⟨g, f' * 5 + 1, none⟩ = some (.int .i64 (lo : Int)) ∧ w'.cell? ⟨g, f' * 5 + 2, none⟩ = some (.int .i64 (hh : Int)) ∧ w'.cell? (q.add i) = some (.bool b)) (by kernel_rfl) ⟨y0, y1, y2, y3, y4⟩ (fun hHeld => ?_)
   refine wpAnyH_take (i := 0) (oi := ({ dst := some 16, op := Op.move (Operand.tmp 0), type := 36, pos := "bdd.go:93", after := #[], guard := none } : Oper)) (v := ?_) rfl (by kernel_rfl) (by kernel_rfl) (by kernel_rfl) (fun _ _ _ h => h) (Or.inl ⟨by rfl, ?_⟩) hHeld ?_
   rotate_left
   · intro w0 hS0; (try dsimp only at hS0); go_simp; try with_reducible rfl
   try simp only [Act.put, List.setIfInBounds_toArray, List.set_cons_zero, List.set_cons_succ]
   refine wpAnyH_take (i := 1) (oi := ({ dst := some 17, op := Op.nilCheck (Operand.tmp 16), type := 0, pos := "bdd.go:93", after := #[{ on := 0, ground := Ground.data }], guard := none } : Oper)) (v := ?_) rfl (by kernel_rfl) (by kernel_rfl) (by kernel_rfl) (fun _ _ _ h => h) (Or.inl ⟨by rfl, ?_⟩) hHeld ?_
   rotate_left
   · intro w0 hS0; (try dsimp only at hS0); go_simp; try with_reducible rfl
   try simp only [Act.put, List.setIfInBounds_toArray, List.set_cons_zero, List.set_cons_succ]
   refine wpAnyH_take (i := 2) (oi := ({ dst := some 18, op := Op.fieldAddr 80 (Operand.tmp 17) 2, type := 0, pos := "bdd.go:93", after := #[{ on := 1, ground := Ground.data }], guard := none } : Oper)) (v := ?_) rfl (by kernel_rfl) (by kernel_rfl) (by kernel_rfl) (fun _ _ _ h => h) (Or.inl ⟨by rfl, ?_⟩) hHeld ?_
   rotate_left
   · intro w0 hS0; (try dsimp only at hS0); go_simp; try with_reducible rfl
   try simp only [Act.put, List.setIfInBounds_toArray, List.set_cons_zero, List.set_cons_succ]
   refine wpAnyH_take (i := 3) (oi := ({ dst := some 19, op := Op.load 76 (Operand.tmp 18), type := 76, pos := "bdd.go:93", after := #[{ on := 2, ground := Ground.data }], guard := none } : Oper)) (v := ?_) rfl (by kernel_rfl) (by kernel_rfl) (by kernel_rfl) (fun _ _ _ h => h) (Or.inl ⟨by rfl, ?_⟩) hHeld ?_
   rotate_left
   · intro w0 hS0; (try dsimp only at hS0); go_simp; try with_reducible rfl
   try simp only [Act.put, List.setIfInBounds_toArray, List.set_cons_zero, List.set_cons_succ]
   refine wpAnyH_take (i := 4) (oi := ({ dst := some 20, op := Op.move (Operand.tmp 1), type := 32, pos := "bdd.go:93", after := #[], guard := none } : Oper)) (v := ?_) rfl (by kernel_rfl) (by kernel_rfl) (by kernel_rfl) (fun _ _ _ h => h) (Or.inl ⟨by rfl, ?_⟩) hHeld ?_
   rotate_left
   · intro w0 hS0; (try dsimp only at hS0); go_simp; try with_reducible rfl
   try simp only [Act.put, List.setIfInBounds_toArray, List.set_cons_zero, List.set_cons_succ]
   refine wpAnyH_take (i := 5) (oi := ({ dst := some 21, op := Op.indexAddr 76 (Operand.tmp 19) (Operand.tmp 20), type := 0, pos := "bdd.go:93", after := #[{ on := 3, ground := Ground.data }, { on := 4, ground := Ground.data }], guard := none } : Oper)) (v := ?_) rfl (by kernel_rfl) (by kernel_rfl) (by kernel_rfl) (fun _ _ _ h => h) (Or.inl ⟨by rfl, ?_⟩) hHeld ?_
   rotate_left
   · intro w0 hS0; (try dsimp only at hS0); go_simp; try with_reducible rfl
   try simp only [Act.put, List.setIfInBounds_toArray, List.set_cons_zero, List.set_cons_succ]
   refine wpAnyH_take (i := 6) (oi := ({ dst := some 22, op := Op.fieldAddr 91 (Operand.tmp 21) 0, type := 0, pos := "bdd.go:93", after := #[{ on := 5, ground := Ground.data }], guard := none } : Oper)) (v := ?_) rfl (by kernel_rfl) (by kernel_rfl) (by kernel_rfl) (fun _ _ _ h => h) (Or.inl ⟨by rfl, ?_⟩) hHeld ?_
   rotate_left
   · intro w0 hS0; (try dsimp only at hS0); go_simp; try with_reducible rfl
   try simp only [Act.put, List.setIfInBounds_toArray, List.set_cons_zero, List.set_cons_succ]
   refine wpAnyH_take (i := 7) (oi := ({ dst := some 23, op := Op.load 89 (Operand.tmp 22), type := 89, pos := "bdd.go:93", after := #[{ on := 6, ground := Ground.data }], guard := none } : Oper)) (v := ?_) rfl (by kernel_rfl) (by kernel_rfl) (by kernel_rfl) (fun _ _ _ h => h) (Or.inl ⟨by rfl, ?_⟩) hHeld ?_
   rotate_left
   · intro w0 hS0; (try dsimp only at hS0); go_simp; try with_reducible rfl
   try simp only [Act.put, List.setIfInBounds_toArray, List.set_cons_zero, List.set_cons_succ]
   refine wpAnyH_take (i := 8) (oi := ({ dst := some 24, op := Op.move (Operand.tmp 0), type := 36, pos := "bdd.go:93", after := #[], guard := none } : Oper)) (v := ?_) rfl (by kernel_rfl) (by kernel_rfl) (by kernel_rfl) (fun _ _ _ h => h) (Or.inl ⟨by rfl, ?_⟩) hHeld ?_
   rotate_left
   · intro w0 hS0; (try dsimp only at hS0); go_simp; try with_reducible rfl
   try simp only [Act.put, List.setIfInBounds_toArray, List.set_cons_zero, List.set_cons_succ]
   refine wpAnyH_take (i := 9) (oi := ({ dst := some 25, op := Op.nilCheck (Operand.tmp 24), type := 0, pos := "bdd.go:93", after := #[{ on := 8, ground := Ground.data }], guard := none } : Oper)) (v := ?_) rfl (by kernel_rfl) (by kernel_rfl) (by kernel_rfl) (fun _ _ _ h => h) (Or.inl ⟨by rfl, ?_⟩) hHeld ?_
   rotate_left
   · intro w0 hS0; (try dsimp only at hS0); go_simp; try with_reducible rfl
   try simp only [Act.put, List.setIfInBounds_toArray, List.set_cons_zero, List.set_cons_succ]
   refine wpAnyH_take (i := 10) (oi := ({ dst := some 26, op := Op.fieldAddr 80 (Operand.tmp 25) 2, type := 0, pos := "bdd.go:93", after := #[{ on := 9, ground := Ground.data }], guard := none } : Oper)) (v := ?_) rfl (by kernel_rfl) (by kernel_rfl) (by kernel_rfl) (fun _ _ _ h => h) (Or.inl ⟨by rfl, ?_⟩) hHeld ?_
   rotate_left
   · intro w0 hS0; (try dsimp only at hS0); go_simp; try with_reducible rfl
   try simp only [Act.put, List.setIfInBounds_toArray, List.set_cons_zero, List.set_cons_succ]
   refine wpAnyH_take (i := 11) (oi := ({ dst := some 27, op := Op.load 76 (Operand.tmp 26), type := 76, pos := "bdd.go:93", after := #[{ on := 10, ground := Ground.data }], guard := none } : Oper)) (v := ?_) rfl (by kernel_rfl) (by kernel_rfl) (by kernel_rfl) (fun _ _ _ h => h) (Or.inl ⟨by rfl, ?_⟩) hHeld ?_
   rotate_left
   · intro w0 hS0; (try dsimp only at hS0); go_simp; try with_reducible rfl
   try simp only [Act.put, List.setIfInBounds_toArray, List.set_cons_zero, List.set_cons_succ]
   refine wpAnyH_take (i := 12) (oi := ({ dst := some 28, op := Op.move (Operand.tmp 1), type := 32, pos := "bdd.go:93", after := #[], guard := none } : Oper)) (v := ?_) rfl (by kernel_rfl) (by kernel_rfl) (by kernel_rfl) (fun _ _ _ h => h) (Or.inl ⟨by rfl, ?_⟩) hHeld ?_
   rotate_left
   · intro w0 hS0; (try dsimp only at hS0); go_simp; try with_reducible rfl
   try simp only [Act.put, List.setIfInBounds_toArray, List.set_cons_zero, List.set_cons_succ]
   refine wpAnyH_take (i := 13) (oi := ({ dst := some 29, op := Op.indexAddr 76 (Operand.tmp 27) (Operand.tmp 28), type := 0, pos := "bdd.go:93", after := #[{ on := 11, ground := Ground.data }, { on := 12, ground := Ground.data }], guard := none } : Oper)) (v := ?_) rfl (by kernel_rfl) (by kernel_rfl) (by kernel_rfl) (fun _ _ _ h => h) (Or.inl ⟨by rfl, ?_⟩) hHeld ?_
   rotate_left
   · intro w0 hS0; (try dsimp only at hS0); go_simp; try with_reducible rfl
   try simp only [Act.put, List.setIfInBounds_toArray, List.set_cons_zero, List.set_cons_succ]
   refine wpAnyH_take (i := 14) (oi := ({ dst := some 30, op := Op.fieldAddr 91 (Operand.tmp 29) 0, type := 0, pos := "bdd.go:93", after := #[{ on := 13, ground := Ground.data }], guard := none } : Oper)) (v := ?_) rfl (by kernel_rfl) (by kernel_rfl) (by kernel_rfl) (fun _ _ _ h => h) (Or.inl ⟨by rfl, ?_⟩) hHeld ?_
   rotate_left
   · intro w0 hS0; (try dsimp only at hS0); go_simp; try with_reducible rfl
   try simp only [Act.put, List.setIfInBounds_toArray, List.set_cons_zero, List.set_cons_succ]
   refine wpAnyH_take (i := 15) (oi := ({ dst := some 31, op := Op.fieldAddr 89 (Operand.tmp 30) 0, type := 0, pos := "bdd.go:93", after := #[{ on := 14, ground := Ground.data }], guard := none } : Oper)) (v := ?_) rfl (by kernel_rfl) (by kernel_rfl) (by kernel_rfl) (fun _ _ _ h => h) (Or.inl ⟨by rfl, ?_⟩) hHeld ?_
   rotate_left
   · intro w0 hS0; (try dsimp only at hS0); go_simp; try with_reducible rfl
   try simp only [Act.put, List.setIfInBounds_toArray, List.set_cons_zero, List.set_cons_succ]
   refine wpAnyH_take (i := 16) (oi := ({ dst := some 32, op := Op.load 3 (Operand.tmp 31), type := 3, pos := "bdd.go:93", after := #[{ on := 15, ground := Ground.data }], guard := none } : Oper)) (v := ?_) rfl (by kernel_rfl) (by kernel_rfl) (by kernel_rfl) (fun _ _ _ h => h) (Or.inl ⟨by rfl, ?_⟩) hHeld ?_
   rotate_left
   · intro w0 hS0; (try dsimp only at hS0); go_simp; try with_reducible rfl
   try simp only [Act.put, List.setIfInBounds_toArray, List.set_cons_zero, List.set_cons_succ]
   refine wpAnyH_take (i := 17) (oi := ({ dst := some 33, op := Op.move (Operand.tmp 2), type := 28, pos := "bdd.go:93", after := #[], guard := none } : Oper)) (v := ?_) rfl (by kernel_rfl) (by kernel_rfl) (by kernel_rfl) (fun _ _ _ h => h) (Or.inl ⟨by rfl, ?_⟩) hHeld ?_
   rotate_left
   · intro w0 hS0; (try dsimp only at hS0); go_simp; try with_reducible rfl
   try simp only [Act.put, List.setIfInBounds_toArray, List.set_cons_zero, List.set_cons_succ]
   refine wpAnyH_take (i := 18) (oi := ({ dst := some 34, op := Op.call { callee := Callee.builtin Builtin.len, args := #[Operand.tmp 33], argTypes := #[28] }, type := 3, pos := "bdd.go:93", after := #[{ on := 17, ground := Ground.data }], guard := none } : Oper)) (v := ?_) rfl (by kernel_rfl) (by kernel_rfl) (by kernel_rfl) (fun _ _ _ h => h) (Or.inl ⟨by rfl, ?_⟩) hHeld ?_
   rotate_left
   · intro w0 hS0; (try dsimp only at hS0); go_simp; try with_reducible rfl
   try simp only [Act.put, List.setIfInBounds_toArray, List.set_cons_zero, List.set_cons_succ]
   refine wpAnyH_take (i := 19) (oi := ({ dst := some 35, op := Op.binOp BinOp.lss 3 (Operand.tmp 32) (Operand.tmp 34) 3, type := 4, pos := "bdd.go:93", after := #[{ on := 16, ground := Ground.data }, { on := 18, ground := Ground.data }], guard := none } : Oper)) (v := ?_) rfl (by kernel_rfl) (by kernel_rfl) (by kernel_rfl) (fun _ _ _ h => h) (Or.inl ⟨by rfl, ?_⟩) hHeld ?_
   rotate_left
   · intro w0 hS0; (try dsimp only at hS0); go_simp; try with_reducible rfl
   try simp only [Act.put, List.setIfInBounds_toArray, List.set_cons_zero, List.set_cons_succ]
   refine wpAnyH_take (i := 20) (oi := ({ dst := some 36, op := Op.move (Operand.tmp 35), type := 4, pos := "bdd.go:93", after := #[{ on := 19, ground := Ground.data }], guard := none } : Oper)) (v := ?_) rfl (by kernel_rfl) (by kernel_rfl) (by kernel_rfl) (fun _ _ _ h => h) (Or.inl ⟨by rfl, ?_⟩) hHeld ?_
   rotate_left
   · intro w0 hS0; (try dsimp only at hS0); go_simp; try with_reducible rfl
   try simp only [Act.put, List.setIfInBounds_toArray, List.set_cons_zero, List.set_cons_succ]
   refine wpAnyH_take (i := 21) (oi := ({ dst := some 37, op := Op.move (Operand.tmp 2), type := 28, pos := "bdd.go:93", after := #[{ on := 20, ground := Ground.guard }], guard := some (20, true) } : Oper)) (v := ?_) rfl (by kernel_rfl) (by kernel_rfl) (by kernel_rfl) (fun _ _ _ h => h) (Or.inl ⟨by rfl, ?_⟩) hHeld ?_
   rotate_left
   · intro w0 hS0; (try dsimp only at hS0); go_simp; try with_reducible rfl
   try simp only [Act.put, List.setIfInBounds_toArray, List.set_cons_zero, List.set_cons_succ]
   refine wpAnyH_take (i := 22) (oi := ({ dst := some 38, op := Op.move (Operand.tmp 0), type := 36, pos := "bdd.go:93", after := #[{ on := 20, ground := Ground.guard }], guard := some (20, true) } : Oper)) (v := ?_) rfl (by kernel_rfl) (by kernel_rfl) (by kernel_rfl) (fun _ _ _ h => h) (Or.inl ⟨by rfl, ?_⟩) hHeld ?_
   rotate_left
   · intro w0 hS0; (try dsimp only at hS0); go_simp; try with_reducible rfl
   try simp only [Act.put, List.setIfInBounds_toArray, List.set_cons_zero, List.set_cons_succ]
   refine wpAnyH_take (i := 23) (oi := ({ dst := some 39, op := Op.nilCheck (Operand.tmp 38), type := 0, pos := "bdd.go:93", after := #[{ on := 22, ground := Ground.data }, { on := 20, ground := Ground.guard }], guard := some (20, true) } : Oper)) (v := ?_) rfl (by kernel_rfl) (by kernel_rfl) (by kernel_rfl) (fun _ _ _ h => h) (Or.inl ⟨by rfl, ?_⟩) hHeld ?_
   rotate_left
   · intro w0 hS0; (try dsimp only at hS0); go_simp; try with_reducible rfl
   try simp only [Act.put, List.setIfInBounds_toArray, List.set_cons_zero, List.set_cons_succ]
   refine wpAnyH_take (i := 24) (oi := ({ dst := some 40, op := Op.fieldAddr 80 (Operand.tmp 39) 2, type := 0, pos := "bdd.go:93", after := #[{ on := 23, ground := Ground.data }, { on := 20, ground := Ground.guard }], guard := some (20, true) } : Oper)) (v := ?_) rfl (by kernel_rfl) (by kernel_rfl) (by kernel_rfl) (fun _ _ _ h => h) (Or.inl ⟨by rfl, ?_⟩) hHeld ?_
   rotate_left
   · intro w0 hS0; (try dsimp only at hS0); go_simp; try with_reducible rfl
   try simp only [Act.put, List.setIfInBounds_toArray, List.set_cons_zero, List.set_cons_succ]
   refine wpAnyH_take (i := 25) (oi := ({ dst := some 41, op := Op.load 76 (Operand.tmp 40), type := 76, pos := "bdd.go:93", after := #[{ on := 24, ground := Ground.data }, { on := 20, ground := Ground.guard }], guard := some (20, true) } : Oper)) (v := ?_) rfl (by kernel_rfl) (by kernel_rfl) (by kernel_rfl) (fun _ _ _ h => h) (Or.inl ⟨by rfl, ?_⟩) hHeld ?_
   rotate_left
   · intro w0 hS0; (try dsimp only at hS0); go_simp; try with_reducible rfl
   try simp only [Act.put, List.setIfInBounds_toArray, List.set_cons_zero, List.set_cons_succ]
   refine wpAnyH_take (i := 26) (oi := ({ dst := some 42, op := Op.move (Operand.tmp 1), type := 32, pos := "bdd.go:93", after := #[{ on := 20, ground := Ground.guard }], guard := some (20, true) } : Oper)) (v := ?_) rfl (by kernel_rfl) (by kernel_rfl) (by kernel_rfl) (fun _ _ _ h => h) (Or.inl ⟨by rfl, ?_⟩) hHeld ?_
   rotate_left
   · intro w0 hS0; (try dsimp only at hS0); go_simp; try with_reducible rfl
   try simp only [Act.put, List.setIfInBounds_toArray, List.set_cons_zero, List.set_cons_succ]
   refine wpAnyH_take (i := 27) (oi := ({ dst := some 43, op := Op.indexAddr 76 (Operand.tmp 41) (Operand.tmp 42), type := 0, pos := "bdd.go:93", after := #[{ on := 25, ground := Ground.data }, { on := 26, ground := Ground.data }, { on := 20, ground := Ground.guard }], guard := some (20, true) } : Oper)) (v := ?_) rfl (by kernel_rfl) (by kernel_rfl) (by kernel_rfl) (fun _ _ _ h => h) (Or.inl ⟨by rfl, ?_⟩) hHeld ?_
   rotate_left
   · intro w0 hS0; (try dsimp only at hS0); go_simp; try with_reducible rfl
   try simp only [Act.put, List.setIfInBounds_toArray, List.set_cons_zero, List.set_cons_succ]
   refine wpAnyH_take (i := 28) (oi := ({ dst := some 44, op := Op.fieldAddr 91 (Operand.tmp 43) 0, type := 0, pos := "bdd.go:93", after := #[{ on := 27, ground := Ground.data }, { on := 20, ground := Ground.guard }], guard := some (20, true) } : Oper)) (v := ?_) rfl (by kernel_rfl) (by kernel_rfl) (by kernel_rfl) (fun _ _ _ h => h) (Or.inl ⟨by rfl, ?_⟩) hHeld ?_
   rotate_left
   · intro w0 hS0; (try dsimp only at hS0); go_simp; try with_reducible rfl
   try simp only [Act.put, List.setIfInBounds_toArray, List.set_cons_zero, List.set_cons_succ]
   refine wpAnyH_take (i := 29) (oi := ({ dst := some 45, op := Op.fieldAddr 89 (Operand.tmp 44) 0, type := 0, pos := "bdd.go:93", after := #[{ on := 28, ground := Ground.data }, { on := 20, ground := Ground.guard }], guard := some (20, true) } : Oper)) (v := ?_) rfl (by kernel_rfl) (by kernel_rfl) (by kernel_rfl) (fun _ _ _ h => h) (Or.inl ⟨by rfl, ?_⟩) hHeld ?_
   rotate_left
   · intro w0 hS0; (try dsimp only at hS0); go_simp; try with_reducible rfl
   try simp only [Act.put, List.setIfInBounds_toArray, List.set_cons_zero, List.set_cons_succ]
   refine wpAnyH_take (i := 30) (oi := ({ dst := some 46, op := Op.load 3 (Operand.tmp 45), type := 3, pos := "bdd.go:93", after := #[{ on := 29, ground := Ground.data }, { on := 20, ground := Ground.guard }], guard := some (20, true) } : Oper)) (v := ?_) rfl (by kernel_rfl) (by kernel_rfl) (by kernel_rfl) (fun _ _ _ h => h) (Or.inl ⟨by rfl, ?_⟩) hHeld ?_
   rotate_left
   · intro w0 hS0; (try dsimp only at hS0); go_simp; try with_reducible rfl
   try simp only [Act.put, List.setIfInBounds_toArray, List.set_cons_zero, List.set_cons_succ]
   refine wpAnyH_take (i := 31) (oi := ({ dst := some 47, op := Op.indexAddr 28 (Operand.tmp 37) (Operand.tmp 46), type := 0, pos := "bdd.go:93", after := #[{ on := 21, ground := Ground.data }, { on := 30, ground := Ground.data }, { on := 20, ground := Ground.guard }], guard := some (20, true) } : Oper)) (v := ?_) rfl (by kernel_rfl) (by kernel_rfl) (by kernel_rfl) (fun _ _ _ h => h) (Or.inl ⟨by rfl, ?_⟩) hHeld ?_
   rotate_left
   · intro w0 hS0; (try dsimp only at hS0); go_simp; try with_reducible rfl
   try simp only [Act.put, List.setIfInBounds_toArray, List.set_cons_zero, List.set_cons_succ]
   refine wpAnyH_take (i := 32) (oi := ({ dst := some 48, op := Op.load 4 (Operand.tmp 47), type := 4, pos := "bdd.go:93", after := #[{ on := 31, ground := Ground.data }, { on := 20, ground := Ground.guard }], guard := some (20, true) } : Oper)) (v := ?_) rfl (by kernel_rfl) (by kernel_rfl) (by kernel_rfl) (fun _ _ _ h => h) (Or.inl ⟨by rfl, ?_⟩) hHeld ?_
   rotate_left
   · intro w0 hS0; (try dsimp only at hS0); go_simp; try with_reducible rfl
   try simp only [Act.put, List.setIfInBounds_toArray, List.set_cons_zero, List.set_cons_succ]
   refine wpAnyH_take (i := 33) (oi := ({ dst := some 49, op := Op.pick (Operand.tmp 36) (Operand.tmp 48) (Operand.const (Value.bool false)), type := 4, pos := "bdd.go:93", after := #[{ on := 20, ground := Ground.data }, { on := 32, ground := Ground.data }], guard := none } : Oper)) (v := ?_) rfl (by kernel_rfl) (by kernel_rfl) (by kernel_rfl) (fun _ _ _ h => h) (Or.inl ⟨by rfl, ?_⟩) hHeld ?_
   rotate_left
   · intro w0 hS0; (try dsimp only at hS0); go_simp; try with_reducible rfl
   try simp only [Act.put, List.setIfInBounds_toArray, List.set_cons_zero, List.set_cons_succ]
   refine wpAnyH_ready (rs := [34]) (by kernel_rfl) (by simp) ?_
   refine AllReadyH.cons (o := ({ dst := some 50, op := Op.call { callee := Callee.value (Operand.func 73), args := #[Operand.tmp 23, Operand.tmp 49], argTypes := #[89, 4] }, type := 32, pos := "bdd.go:93", after := #[{ on := 7, ground := Ground.data }, { on := 33, ground := Ground.data }, { on := 20, ground := Ground.chain }], guard := none } : Oper)) rfl (fun K hK => ?_) AllReadyH.nil
   go_simp
   refine (HP.out _).mono ?_
   rintro e W5 ⟨rfl, hF5⟩
   have F5 : Hid (Fr (fun _ => True) wr W5) := (Fr.refl _ wr).drew.trans hF5
   obtain ⟨z0, z1, z2, z3⟩ := HC.out W5 F5.out
   clear hF5
   refine hK.out _ _ ?_ (fun hHeld2 => ?_)
   · exact ⟨z0, z1, z2, z3, (World.cell?_of_block (w := wr) (F5.out.block _ (World.block_lt_of_cell? wr _ hq) trivial)).trans hq⟩
   clear hK K
   try simp only [Act.put, List.setIfInBounds_toArray, List.set_cons_zero, List.set_cons_succ]
   refine wpAnyH_take (i := 35) (oi := ({ dst := some 1, op := Op.assign (Operand.tmp 50), type := 32, pos := "bdd.go:93", after := #[{ on := 34, ground := Ground.data }, { on := 34, ground := Ground.chain }, { on := 0, ground := Ground.phase }, { on := 1, ground := Ground.phase }, { on := 2, ground := Ground.phase }, { on := 3, ground := Ground.phase }, { on := 4, ground := Ground.phase }, { on := 5, ground := Ground.phase }, { on := 6, ground := Ground.phase }, { on := 7, ground := Ground.phase }, { on := 8, ground := Ground.phase }, { on := 9, ground := Ground.phase }, { on := 10, ground := Ground.phase }, { on := 11, ground := Ground.phase }, { on := 12, ground := Ground.phase }, { on := 13, ground := Ground.phase }, { on := 14, ground := Ground.phase }, { on := 15, ground := Ground.phase }, { on := 16, ground := Ground.phase }, { on := 17, ground := Ground.phase }, { on := 18, ground := Ground.phase }, { on := 19, ground := Ground.phase }, { on := 20, ground := Ground.phase }, { on := 21, ground := Ground.phase }, { on := 22, ground := Ground.phase }, { on := 23, ground := Ground.phase }, { on := 24, ground := Ground.phase }, { on := 25, ground := Ground.phase }, { on := 26, ground := Ground.phase }, { on := 27, ground := Ground.phase }, { on := 28, ground := Ground.phase }, { on := 29, ground := Ground.phase }, { on := 30, ground := Ground.phase }, { on := 31, ground := Ground.phase }, { on := 32, ground := Ground.phase }, { on := 33, ground := Ground.phase }, { on := 34, ground := Ground.phase }], guard := none } : Oper)) (v := ?_) rfl (by kernel_rfl) (by kernel_rfl) (by kernel_rfl) (fun _ _ _ h => h) (Or.inl ⟨by rfl, ?_⟩) hHeld2 ?_
   rotate_left
   · intro w0 hS0; (try dsimp only at hS0); go_simp; try with_reducible rfl
   try simp only [Act.put, List.setIfInBounds_toArray, List.set_cons_zero, List.set_cons_succ]
   refine wpAnyH_done (by kernel_rfl) ?_ _
   refine NoPanic.normal ?_
   clear x0 x1 x2 x3 y0 y1 y2 y3 y4 z0 z1 z2 z3 HP HC hHeld hHeld2
   go_wp2_with fail
   go_roundg k
   case measure => omega
   case rel => exact ⟨f2, rfl, HN.out.1, HN.out.2.1, HKM, F1.out.trans F5.out⟩
end Go.Proofs.YtaakjjefnjbabaaGreat.Sx
