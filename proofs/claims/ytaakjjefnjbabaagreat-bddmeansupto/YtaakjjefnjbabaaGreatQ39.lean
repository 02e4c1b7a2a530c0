/- The law's small helpers. -/
import Derived.Test.YtaakjjefnjbabaaGreatQ38
set_option maxRecDepth 100000
namespace Go.Proofs.YtaakjjefnjbabaaGreat.Sx
open Go.RowKit Go.Sort Go.Maps Go.WideMaps
def IW (w : World) (v : Value) (l : List Int) : Prop := ∃ a c, v = .slice a l.length c ∧ ∀ (i : Nat) x, l[i]? = some x → ∃ q, a = some q ∧ w.cell? (q.add i) = some (.int .i64 x)
theorem IW.frg {P : Nat → Prop} {w w' : World} {v : Value} {l : List Int} (h : IW w v l) (f : Fr P w w') (hp : ∀ b, b < w.heap.size → P b) : IW w' v l := by
 obtain ⟨a, c, e, h⟩ := h
 refine ⟨a, c, e, fun i x hx => ?_⟩
 obtain ⟨q, e1, h1⟩ := h i x hx
 have hb := World.block_lt_of_cell? w _ h1
 exact ⟨q, e1, (World.cell?_of_block (w := w) (f.block _ hb (hp _ hb))).trans h1⟩
theorem IW.fr {w w' : World} {v : Value} {l : List Int} (h : IW w v l) (f : Fr (fun _ => True) w w') : IW w' v l := h.frg f fun _ _ => trivial
set_option maxHeartbeats 4000000 in
theorem Truths_any (w : World) (vf vg : Value) (f g : List Bool) (hl : f.length ≤ 65536) (hf : BV w vf f) (hg : BV w vg g) :
 Calls Tryz.prog 46 #[vf, vg] w fun e w' => e = .returned (.bool (decide (f = g))) ∧ ∃ m, w' = w.drewN m := by
 obtain ⟨fa, fc, rfl, cf⟩ := hf.old
 obtain ⟨ga, gc, rfl, cg⟩ := hg.old
 have Hf : Hid (∀ (i : Nat) (x : Bool), f[i]? = some x → ∃ q, fa = some q ∧ w.cell? (q.add i) = some (.bool x)) := cf
 have Hg : Hid (∀ (i : Nat) (x : Bool), g[i]? = some x → ∃ q, ga = some q ∧ w.cell? (q.add i) = some (.bool x)) := cg
 obtain ⟨N, hN⟩ : ∃ N, f.length = N := ⟨_, rfl⟩
 obtain ⟨K, hK⟩ : ∃ K, g.length = K := ⟨_, rfl⟩
 by_cases hne : f.length = g.length
 case neg =>
  have HE : Hid (decide (f = g) = false) := decide_eq_false fun e => hne (by rw [e])
  rw [hN, hK] at hne
  have hne' : (N : Int) ≠ (K : Int) := by omega
  rw [hN, hK]
  have mo := follows
  clear cf cg Hf Hg hne hN hK
  go_enter Tryz.func46, Tryz.ntmps46
  go_wp2_with fail
  go_ret
  exact ⟨congrArg (fun b => Ending.returned (Value.bool b)) HE.out.symm, 0, rfl⟩
 have hfg : g.length = N := by omega
 rw [hN] at hl
 rw [hN, hfg]
 have HPE : Hid (∀ j : Nat, (∀ i, i < j → f.getD i false = g.getD i false) → j = N → f = g) := fun j h e => by
  refine List.ext_getElem (by omega) fun i h1 h2 => ?_
  have := h i (by omega)
  rw [List.getD_eq_getElem?_getD, List.getD_eq_getElem?_getD, List.getElem?_eq_getElem h1, List.getElem?_eq_getElem h2] at this
  simpa using this
 clear cf cg hne hK
 have mo := follows
 go_enter Tryz.func46, Tryz.ntmps46
 go_wp2_with fail
 go_loopg [5] (N) (fun k s5 wr => ∃ j : Nat, s5 = .int .i64 (j : Int) ∧ j + k = N ∧ Hid (∀ i, i < j → f.getD i false = g.getD i false) ∧ ∃ m, wr = w.drewN m)
 case atStart => exact ⟨0, rfl, by omega, fun i h => by omega, 0, rfl⟩
 case round =>
  obtain ⟨j, rfl, hjk, E, m, rfl⟩ := hrel
  by_cases hj : j < N
  · obtain ⟨k, rfl⟩ : ∃ k, gk = k + 1 := ⟨gk - 1, by omega⟩
    have hjl : (j : Int) < (N : Int) := by omega
    have hj0 : (0 : Int) ≤ (j : Int) := by omega
    obtain ⟨x, hx⟩ : ∃ x, f[j]? = some x := ⟨_, List.getElem?_eq_getElem (by omega)⟩
    obtain ⟨q, rfl, cx⟩ := Hf.out j x hx
    have cx : (w.drewN m).cell? (q.add j) = some (.bool x) := cx
    obtain ⟨y, hy⟩ : ∃ y, g[j]? = some y := ⟨_, List.getElem?_eq_getElem (by omega)⟩
    obtain ⟨p, rfl, cy⟩ := Hg.out j y hy
    have cy : (w.drewN m).cell? (p.add j) = some (.bool y) := cy
    have gx : f.getD j false = x := by rw [List.getD_eq_getElem?_getD, hx]; rfl
    have gy : g.getD j false = y := by rw [List.getD_eq_getElem?_getD, hy]; rfl
    by_cases hxy : x = y
    · have E2 : Hid (∀ i, i < j + 1 → f.getD i false = g.getD i false) := fun i hi => by
       by_cases h : i < j
       · exact E.out i h
       · obtain rfl : i = j := by omega
         rw [gx, gy, hxy]
      subst hxy
      clear E hx hy gx gy hN hfg
      go_wp2_with fail
      go_quiet (fail)
      go_wp2_with fail
      go_roundg k
      case measure => omega
      case rel => exact ⟨j + 1, by simp, by omega, E2, _, rfl⟩
    · have HE : Hid (decide (f = g) = false) := decide_eq_false fun e => hxy (by rw [← gx, ← gy, e])
      clear E hx hy gx gy hN hfg
      cases x <;> cases y <;> (try exact absurd rfl hxy)
      all_goals
       clear hxy
       go_wp2_with fail
       go_quiet (fail)
       go_wp2_with fail
       go_ret
       exact ⟨congrArg (fun b => Ending.returned (Value.bool b)) HE.out.symm, _, drewN2 _ _ _⟩
  · have hjl : ¬ (j : Int) < (N : Int) := by omega
    have HE : Hid (decide (f = g) = true) := decide_eq_true (HPE.out j E.out (by omega))
    go_wp2_with fail
    go_ret
    exact ⟨congrArg (fun b => Ending.returned (Value.bool b)) HE.out.symm, m, rfl⟩
set_option maxHeartbeats 4000000 in
theorem Ints_any (w : World) (vf vg : Value) (f g : List Int) (hl : f.length ≤ 1099511627776) (hf : IW w vf f) (hg : IW w vg g) :
 Calls Tryz.prog 25 #[vf, vg] w fun e w' => e = .returned (.bool (decide (f = g))) ∧ ∃ m, w' = w.drewN m := by
 obtain ⟨fa, fc, rfl, cf⟩ := hf
 obtain ⟨ga, gc, rfl, cg⟩ := hg
 have Hf : Hid (∀ (i : Nat) (x : Int), f[i]? = some x → ∃ q, fa = some q ∧ w.cell? (q.add i) = some (.int .i64 x)) := cf
 have Hg : Hid (∀ (i : Nat) (x : Int), g[i]? = some x → ∃ q, ga = some q ∧ w.cell? (q.add i) = some (.int .i64 x)) := cg
 obtain ⟨N, hN⟩ : ∃ N, f.length = N := ⟨_, rfl⟩
 obtain ⟨K, hK⟩ : ∃ K, g.length = K := ⟨_, rfl⟩
 by_cases hne : f.length = g.length
 case neg =>
  have HE : Hid (decide (f = g) = false) := decide_eq_false fun e => hne (by rw [e])
  rw [hN, hK] at hne
  have hne' : (N : Int) ≠ (K : Int) := by omega
  rw [hN, hK]
  have mo := follows
  clear cf cg Hf Hg hne hN hK
  go_enter Tryz.func25, Tryz.ntmps25
  go_wp2_with fail
  go_ret
  exact ⟨congrArg (fun b => Ending.returned (Value.bool b)) HE.out.symm, 0, rfl⟩
 have hfg : g.length = N := by omega
 rw [hN] at hl
 rw [hN, hfg]
 have HPE : Hid (∀ j : Nat, (∀ i, i < j → f.getD i 0 = g.getD i 0) → j = N → f = g) := fun j h e => by
  refine List.ext_getElem (by omega) fun i h1 h2 => ?_
  have := h i (by omega)
  rw [List.getD_eq_getElem?_getD, List.getD_eq_getElem?_getD, List.getElem?_eq_getElem h1, List.getElem?_eq_getElem h2] at this
  simpa using this
 clear cf cg hne hK
 have mo := follows
 go_enter Tryz.func25, Tryz.ntmps25
 go_wp2_with fail
 go_loopg [5] (N) (fun k s5 wr => ∃ j : Nat, s5 = .int .i64 (j : Int) ∧ j + k = N ∧ Hid (∀ i, i < j → f.getD i 0 = g.getD i 0) ∧ ∃ m, wr = w.drewN m)
 case atStart => exact ⟨0, rfl, by omega, fun i h => by omega, 0, rfl⟩
 case round =>
  obtain ⟨j, rfl, hjk, E, m, rfl⟩ := hrel
  by_cases hj : j < N
  · obtain ⟨k, rfl⟩ : ∃ k, gk = k + 1 := ⟨gk - 1, by omega⟩
    have hjl : (j : Int) < (N : Int) := by omega
    have hj0 : (0 : Int) ≤ (j : Int) := by omega
    obtain ⟨x, hx⟩ : ∃ x, f[j]? = some x := ⟨_, List.getElem?_eq_getElem (by omega)⟩
    obtain ⟨q, rfl, cx⟩ := Hf.out j x hx
    have cx : (w.drewN m).cell? (q.add j) = some (.int .i64 x) := cx
    obtain ⟨y, hy⟩ : ∃ y, g[j]? = some y := ⟨_, List.getElem?_eq_getElem (by omega)⟩
    obtain ⟨p, rfl, cy⟩ := Hg.out j y hy
    have cy : (w.drewN m).cell? (p.add j) = some (.int .i64 y) := cy
    have gx : f.getD j 0 = x := by rw [List.getD_eq_getElem?_getD, hx]; rfl
    have gy : g.getD j 0 = y := by rw [List.getD_eq_getElem?_getD, hy]; rfl
    by_cases hxy : x = y
    · have E2 : Hid (∀ i, i < j + 1 → f.getD i 0 = g.getD i 0) := fun i hi => by
       by_cases h : i < j
       · exact E.out i h
       · obtain rfl : i = j := by omega
         rw [gx, gy, hxy]
      subst hxy
      clear E hx hy gx gy hN hfg
      go_wp2_with fail
      go_quiet (fail)
      go_wp2_with fail
      go_roundg k
      case measure => omega
      case rel => exact ⟨j + 1, by simp, by omega, E2, _, rfl⟩
    · have HE : Hid (decide (f = g) = false) := decide_eq_false fun e => hxy (by rw [← gx, ← gy, e])
      clear E hx hy gx gy hN hfg
      go_wp2_with fail
      go_quiet (fail)
      go_wp2_with fail
      go_ret
      exact ⟨congrArg (fun b => Ending.returned (Value.bool b)) HE.out.symm, _, drewN2 _ _ _⟩
  · have hjl : ¬ (j : Int) < (N : Int) := by omega
    have HE : Hid (decide (f = g) = true) := decide_eq_true (HPE.out j E.out (by omega))
    go_wp2_with fail
    go_ret
    exact ⟨congrArg (fun b => Ending.returned (Value.bool b)) HE.out.symm, m, rfl⟩
set_option maxHeartbeats 1000000 in
theorem Spoil_any (w : World) (b0 : Nat) (v : Value) (xs : List Value) (n : Nat) (hn : n ≤ 65536) (hb : b0 ≤ w.heap.size) (h : w.ownsRow b0 3 1 v n xs) :
 Calls Tryz.prog 26 #[v] w fun e w' => e = .returned (.tuple #[]) ∧ Fr (fun b => some b ≠ v.ownBlock) w w' := by
 obtain ⟨i0, hi0, hz0, hz1, hz2⟩ := infoInt
 obtain ⟨a, c, hv, hform⟩ : ∃ a c, v = .slice a n c ∧ (0 < n → ∃ g, a = some ⟨g, 0, none⟩) := by
  rcases h.2 with ⟨rfl, h0⟩ | ⟨g, cap, cur, rfl, _⟩
  · exact ⟨none, 0, by rw [h0], fun q => by omega⟩
  · exact ⟨_, _, rfl, fun _ => ⟨g, rfl⟩⟩
 subst hv
 have H0 : Hid (w.ownsRow b0 3 1 (.slice a n c) n xs) := h
 have HFM : Hid (0 < n → ∃ g, a = some ⟨g, 0, none⟩) := hform
 obtain ⟨ob, hob⟩ : ∃ ob, (Value.slice a n c).ownBlock = ob := ⟨_, rfl⟩
 have HOB : Hid ((Value.slice a n c).ownBlock = ob) := hob
 have hbw : ∀ k, ob = some k → b0 ≤ k ∧ k < w.heap.size := fun k hk => h.lt k (hob.trans hk)
 rw [hob]
 have mo := follows
 clear h hob hform
 go_enter Tryz.func26, Tryz.ntmps26
 go_wp2_with fail
 go_loopg [2] (n) (fun k s2 wr => ∃ (j : Nat) (ys : List Value), s2 = .int .i64 (j : Int) ∧ j + k = n ∧ Hid (wr.ownsRow b0 3 1 (.slice a n c) n ys) ∧ Hid (Fr (fun b => some b ≠ ob) w wr))
 case atStart => exact ⟨0, xs, rfl, by omega, H0, Fr.refl _ _⟩
 case round =>
  clear H0
  obtain ⟨j, ys, rfl, hjk, Q, F⟩ := hrel
  by_cases hj : j < n
  · obtain ⟨k, rfl⟩ : ∃ k, gk = k + 1 := ⟨gk - 1, by omega⟩
    have hjl : (j : Int) < (n : Int) := by omega
    have hj0 : (0 : Int) ≤ (j : Int) := by omega
    obtain ⟨g, rfl⟩ := HFM.out (by omega)
    have hys : ys.length = n := by have := Q.out.1; omega
    have cj : wr.cell? ⟨g, j, none⟩ = ys[j]? := Q.out.cellAt j (by omega)
    obtain ⟨y, hy⟩ : ∃ y, ys[j]? = some y := ⟨_, List.getElem?_eq_getElem (by omega)⟩
    rw [hy] at cj
    have zj := Q.out.frozenAt j
    have hst := Q.out.stored j (.int .i64 (-77))
    have Q2 : Hid (∃ ys', (wr.setCell ⟨g, j, none⟩ (.int .i64 (-77))).ownsRow b0 3 1 (.slice (some ⟨g, 0, none⟩) n c) n ys') := ⟨_, hst.1⟩
    have F2 : Hid (Fr (fun b => some b ≠ ob) w (wr.setCell ⟨g, j, none⟩ (.int .i64 (-77)))) := F.out.set (by rw [← HOB.out]; simp [Value.ownBlock]) _
    clear Q F hst hys hy
    go_wp2_with fail
    go_roundg k
    case measure => omega
    case rel =>
     obtain ⟨ys', hq⟩ := Q2.out
     exact ⟨j + 1, ys', by simp, by omega, hq, F2.out⟩
  · have hjl : ¬ (j : Int) < (n : Int) := by omega
    have hmx : n + 2 ≤ maxLen := by unfold maxLen; omega
    have HOX : Hid ((wr.alloc (.cells #[.int .i64 (-78), .int .i64 (-79)] 3)).ownsRow b0 3 1 (.slice a n c) n ys) := Q.out.alloc _
    have hbb : b0 ≤ wr.heap.size := Nat.le_trans hb F.out.size
    go_wp2_with (at_builtin; refine wpList_append_own _ rfl _ _ 27 rfl b0 3 i0 _ 1 8 Tryz.underlying27 hi0 hz0 hz1 hz2 rfl (by decide) (.slice a n c) n _ rfl HOX.out ⟨wr.heap.size, 0, none⟩ 2 2 [.int .i64 (-78), .int .i64 (-79)] rfl rfl (World.news_of_block (heap_new rfl)) ?q2 ?q3 ?q4 ?q5 ?_)
    case q2 => first | (exact ⟨rfl, rfl⟩) | (intro u hu; simp at hu; rcases hu with rfl | rfl <;> rfl)
    case q4 => omega
    case q5 => first | omega | (simp; omega)
    intro v' w2 ho hg _
    have F2 : Hid (Fr (fun b => some b ≠ ob) w w2) := by
     have hsz := hg.size
     simp at hsz
     exact ⟨hg.os.trans F.out.os, hg.tape.trans F.out.tape, hg.output.trans F.out.output, Nat.le_trans F.out.size (by omega), fun b hbl hne => ((hg.block b (by have := F.out.size; simp; omega) (by rw [HOB.out]; exact hne)).trans (heap_old (Nat.lt_of_lt_of_le hbl F.out.size))).trans (F.out.block b hbl hne)⟩
    clear ho hg
    go_wp2_with fail
    go_end0
    exact ⟨rfl, F2.out⟩
def pickN (c : Int) (n : Nat) : Nat := (if c < 0 then (-(c + 1)).toNat else c.toNat) % n
theorem pickN_lt {c : Int} {n : Nat} (h : 0 < n) : pickN c n < n := Nat.mod_lt _ h
set_option maxHeartbeats 1000000 in
theorem pick_any (w : World) (c : Int) (n : Nat) (h1 : -9223372036854775808 ≤ c) (h2 : c < 9223372036854775808) (hn : 0 < n) (hn2 : n < 9223372036854775808) :
 Calls Tryz.prog 17 #[.int .i64 c, .int .i64 (n : Int)] w fun e w' => e = .returned (.int .i64 (pickN c n : Int)) ∧ w' = w := by
 have mo := follows
 have hn0 : (n : Int) ≠ 0 := by omega
 by_cases h0 : c < 0
 · obtain ⟨m, hm⟩ : ∃ m : Nat, -(c + 1) = (m : Int) := ⟨(-(c + 1)).toNat, by omega⟩
   have hmb : m < 9223372036854775808 := by omega
   have HE : Hid (((m : Int).tmod (n : Int)) = (pickN c n : Int)) := by
    show _ = _
    unfold pickN
    rw [if_pos h0, hm, Int.toNat_natCast, Int.tmod_eq_emod_of_nonneg (by omega)]
    rfl
   have hc : c = -(m : Int) - 1 := by omega
   subst hc
   clear hm
   go_enter Tryz.func17, Tryz.ntmps17
   go_wp2_with fail
   go_ret
   exact ⟨congrArg (fun z => Ending.returned (Value.int .i64 z)) HE.out, rfl⟩
 · obtain ⟨m, rfl⟩ : ∃ m : Nat, c = (m : Int) := ⟨c.toNat, by omega⟩
   have HE : Hid (((m : Int).tmod (n : Int)) = (pickN m n : Int)) := by
    show _ = _
    unfold pickN
    rw [if_neg h0, Int.toNat_natCast, Int.tmod_eq_emod_of_nonneg (by omega)]
    rfl
   go_enter Tryz.func17, Tryz.ntmps17
   go_wp2_with fail
   go_ret
   exact ⟨congrArg (fun z => Ending.returned (Value.int .i64 z)) HE.out, rfl⟩
set_option maxHeartbeats 1000000 in
theorem New_ok (w : World) (n : Nat) (hn : n ≤ 24) :
 Calls Tryz.prog 13 #[.int .i64 (n : Int)] w fun e w' => ∃ (tb : Nat) (L : Ly), e = .returned (.tuple #[.pointer (some ⟨tb, 0, none⟩), .nilIface]) ∧ TAt w' tb L (Tb0 n) ∧ Fr (fun _ => True) w w' ∧ ∀ b, b < w.heap.size → L.own b = 0 := by
 have mo := follows
 have n1 : ¬ (n : Int) < 0 := by omega
 have n2 : ¬ (n : Int) > 24 := by omega
 have HE : Hid (Calls _ _ _ _ _) := empty_any w n hn
 go_enter Tryz.func13, Tryz.ntmps13
 go_wp2_with fail
 refine HE.out.mono ?_
 rintro e w1 ⟨tb, L, rfl, hX, hF, hO⟩
 have X : Hid (TAt w1 tb L (Tb0 n) ∧ Fr (fun _ => True) w w1 ∧ ∀ b, b < w.heap.size → L.own b = 0) := ⟨hX, hF, hO⟩
 clear hX hF hO HE
 go_wp2_with fail
 go_ret2
 exact ⟨tb, L, rfl, X.out⟩
end Go.Proofs.YtaakjjefnjbabaaGreat.Sx
namespace Go.Proofs.YtaakjjefnjbabaaGreat.Sx
section
variable {n : Nat} {lv p : Nat → Nat} {T : Tb} {x v : Nat}
theorem Tbl.depn (h : Tbl n lv p T) : ∀ (k x : Nat), Live T x → ∀ σ τ : Nat → Bool, (∀ i, i < n → σ i = τ i) → ev k T x σ = ev k T x τ
 | 0, _, _, _, _, _ => rfl
 | k + 1, x, hx, σ, τ, he => by
   by_cases e0 : x = 0
   · subst e0; rw [ev_zero, ev_zero]
   by_cases e1 : x = 1
   · subst e1; rw [ev_one, ev_one]
   obtain ⟨r, hr, hd⟩ := hx
   have h2 : 2 ≤ x := by omega
   obtain ⟨a1, a2, _, a4, a5, _⟩ := h.inv.nd x r h2 hr hd
   rw [ev_node σ h2 hr, ev_node τ h2 hr, he r.about.toNat (by omega)]
   split
   · exact h.depn k _ a5 σ τ he
   · exact h.depn k _ a4 σ τ he
theorem Tbl.dp (h : Tbl n lv p T) (hx : Live T x) : Dep n (vl n T x) := fun σ τ he => h.depn (n + 1) x hx σ τ he
theorem Tbl.tab_same {y : Nat} (h : Tbl n lv p T) (hx : Live T x) (hy : Live T y) : tab n (vl n T x) = tab n (vl n T y) ↔ x = y := by
 rw [tab_inj (h.dp hx) (h.dp hy), h.same hx hy]
theorem firstO_none {o : List Nat} {F : (Nat → Bool) → Bool} (hF : Dep n F) (ho : ∀ a ∈ o, a < n) (h : ∀ a, Ind F a) : firstO o (tab n F) = none := by
 unfold firstO
 refine List.find?_eq_none.2 fun a ha hh => ?_
 exact (hangL_tab hF (ho a ha)).1 hh (h a)
theorem Ords.lt (hO : Ords n lv T) (hon : T.ord.length = n) : ∀ a ∈ T.ord, a < n := fun a ha => by
 obtain ⟨i, hi⟩ := List.getElem?_of_mem ha
 obtain ⟨v, hv, hvn, _⟩ := hO i (by have := lt_of_at hi; omega)
 rw [hi] at hv
 cases hv
 exact hvn
theorem Tbl.first_leaf (h : Tbl n lv p T) (hO : Ords n lv T) (hx : x < 2) : firstO T.ord (tab n (vl n T x)) = none := by
 have hl : Live T x := by
  have : x = 0 ∨ x = 1 := by omega
  rcases this with rfl | rfl
  · exact h.inv.live0
  · exact h.inv.live1
 refine firstO_none (h.dp hl) (hO.lt h.inv.on) fun a b σ => ?_
 have : x = 0 ∨ x = 1 := by omega
 rcases this with rfl | rfl
 · rw [vl_zero, vl_zero]
 · rw [vl_one, vl_one]
theorem Tbl.first_node (h : Tbl n lv p T) (hO : Ords n lv T) (h2 : 2 ≤ x) (hx : Live T x) (hv : (ky T x).1 = (v : Int)) : firstO T.ord (tab n (vl n T x)) = some v := by
 obtain ⟨u, hun, hu, hr⟩ := h.rk_at h2 hx
 obtain rfl : u = v := by rw [hu] at hv; exact Int.ofNat.inj hv
 obtain ⟨w, hw, hwn, hlw⟩ := hO (lv u) (h.lvo.lt u hun)
 obtain rfl : w = u := h.lvo.inj w u hwn hun hlw
 unfold firstO
 have hlt := lt_of_at hw
 have hsp : T.ord = T.ord.take (lv w) ++ w :: T.ord.drop (lv w + 1) := by
  have h1 : T.ord[lv w] = w := by rw [List.getElem?_eq_getElem hlt] at hw; exact Option.some.inj hw
  have h3 := List.drop_eq_getElem_cons hlt
  rw [h1] at h3
  rw [← h3, List.take_append_drop]
 refine List.find?_eq_some_iff_append.2 ⟨(hangL_tab (h.dp hx) hun).2 (h.dep h2 hx hv), _, _, hsp, fun a ha => ?_⟩
 obtain ⟨j, hj⟩ := List.getElem?_of_mem ha
 have hjl := lt_of_at hj
 rw [List.length_take] at hjl
 rw [List.getElem?_take_of_lt (by omega)] at hj
 obtain ⟨b, hb, hbn, hlb⟩ := hO j (by have := h.lvo.lt w hun; omega)
 rw [hj] at hb
 cases hb
 cases hh : hangL (tab n (vl n T x)) a with
 | false => rfl
 | true =>
   exact absurd (fun b σ => h.indep b n x hx (by omega) (by omega) σ) ((hangL_tab (h.dp hx) hbn).1 hh)
structure NodesOf (T : Tb) (fs ls : List Nat) : Prop where
 nd : ls.Nodup
 two : ∀ x ∈ ls, 2 ≤ x ∧ Live T x
 has : ∀ f ∈ fs, 2 ≤ f → f ∈ ls
 clo : ∀ x ∈ ls, ∀ y, (y = (ky T x).2.1 ∨ y = (ky T x).2.2) → 2 ≤ y → y ∈ ls
 gen : ∀ P : Nat → Prop, (∀ f ∈ fs, P f) → (∀ x y, 2 ≤ x → Live T x → P x → (y = (ky T x).2.1 ∨ y = (ky T x).2.2) → P y) → ∀ x ∈ ls, P x
theorem NodesOf.perm {fs ls : List Nat} {Fs R : List (List Bool)} (h : Tbl n lv p T) (hO : Ords n lv T) (hN : NodesOf T fs ls) (hA : AskSt T.ord Fs R.length R) (h1 : ∀ F ∈ Fs, ∃ x ∈ fs, F = tab n (vl n T x)) (h2 : ∀ x ∈ fs, Live T x ∧ (2 ≤ x → tab n (vl n T x) ∈ Fs)) :
 (ls.map fun x => tab n (vl n T x)).Perm (R.filter fun f => (firstO T.ord f).isSome) := by
 have hclo : ∀ f a v, f ∈ R → firstO T.ord f = some a → withL f a v ∈ R := fun f a v hf ha => by
  obtain ⟨i, hi⟩ := List.getElem?_of_mem hf
  exact hA.clo i f a v (lt_of_at hi) hi ha
 have hwith : ∀ x (a : Nat), 2 ≤ x → Live T x → (ky T x).1 = (a : Int) → withL (tab n (vl n T x)) a false = tab n (vl n T (ky T x).2.1) ∧ withL (tab n (vl n T x)) a true = tab n (vl n T (ky T x).2.2) := fun x a hx2 hx ha => by
  obtain ⟨u, hun, hu, _⟩ := h.rk_at hx2 hx
  obtain rfl : u = a := by rw [hu] at ha; exact Int.ofNat.inj ha
  rw [withL_tab hun, withL_tab hun]
  exact ⟨congrArg (tab n) (funext fun σ => ((h.cof hx2 hx ha σ).1).symm), congrArg (tab n) (funext fun σ => ((h.cof hx2 hx ha σ).2).symm)⟩
 have hR : ∀ f ∈ R, ∃ x, Live T x ∧ f = tab n (vl n T x) ∧ (2 ≤ x → x ∈ ls) := hA.gen _ (fun F hF => by
  obtain ⟨x, hx, e⟩ := h1 F hF
  exact ⟨x, (h2 x hx).1, e, hN.has x hx⟩) fun f a v ⟨x, hx, e, hxl⟩ ha => by
  subst e
  by_cases hx2 : 2 ≤ x
  · obtain ⟨u, hun, hu, _⟩ := h.rk_at hx2 hx
    rw [h.first_node hO hx2 hx hu] at ha
    have hua : u = a := Option.some.inj ha
    subst hua
    obtain ⟨w1, w2⟩ := hwith x u hx2 hx hu
    obtain ⟨_, _, _, l4, l5, _⟩ := h.inv.nk hx2 hx
    cases v with
    | false => exact ⟨_, l4, w1, fun q => hN.clo x (hxl hx2) _ (.inl rfl) q⟩
    | true => exact ⟨_, l5, w2, fun q => hN.clo x (hxl hx2) _ (.inr rfl) q⟩
  · rw [h.first_leaf hO (by omega)] at ha
    cases ha
 refine (List.perm_ext_iff_of_nodup ?_ (hA.nd.filter _)).2 fun f => ?_
 · show List.Pairwise (· ≠ ·) _
   rw [List.pairwise_map]
   exact List.Pairwise.imp_of_mem (fun {a b} ha hb hab e => hab ((h.tab_same (hN.two a ha).2 (hN.two b hb).2).1 e)) hN.nd
 · rw [List.mem_map, List.mem_filter]
   constructor
   · rintro ⟨x, hx, rfl⟩
     obtain ⟨hx2, hxl⟩ := hN.two x hx
     obtain ⟨u, _, hu, _⟩ := h.rk_at hx2 hxl
     refine ⟨?_, by rw [h.first_node hO hx2 hxl hu]; rfl⟩
     refine hN.gen (fun x => 2 ≤ x → tab n (vl n T x) ∈ R) (fun f hf hf2 => hA.has _ ((h2 f hf).2 hf2)) (fun y z hy2 hy hyR hz hz2 => ?_) x hx hx2
     obtain ⟨a, _, ha, _⟩ := h.rk_at hy2 hy
     obtain ⟨w1, w2⟩ := hwith y a hy2 hy ha
     have hf := h.first_node hO hy2 hy ha
     rcases hz with rfl | rfl
     · rw [← w1]; exact hclo _ _ _ (hyR hy2) hf
     · rw [← w2]; exact hclo _ _ _ (hyR hy2) hf
   · rintro ⟨hf, hs⟩
     obtain ⟨x, hx, rfl, hxl⟩ := hR f hf
     by_cases hx2 : 2 ≤ x
     · exact ⟨x, hxl hx2, rfl⟩
     · rw [h.first_leaf hO (by omega)] at hs
       cases hs
theorem NodesOf.count {fs ls : List Nat} {Fs R : List (List Bool)} (h : Tbl n lv p T) (hO : Ords n lv T) (hN : NodesOf T fs ls) (hA : AskSt T.ord Fs R.length R) (h1 : ∀ F ∈ Fs, ∃ x ∈ fs, F = tab n (vl n T x)) (h2 : ∀ x ∈ fs, Live T x ∧ (2 ≤ x → tab n (vl n T x) ∈ Fs)) : askN T.ord R = ls.length := by
 have := (hN.perm h hO hA h1 h2).length_eq
 rw [List.length_map] at this
 unfold askN
 rw [List.countP_eq_length_filter, ← this]
theorem NodesOf.countV {fs ls : List Nat} {Fs R : List (List Bool)} (h : Tbl n lv p T) (hO : Ords n lv T) (hN : NodesOf T fs ls) (hA : AskSt T.ord Fs R.length R) (h1 : ∀ F ∈ Fs, ∃ x ∈ fs, F = tab n (vl n T x)) (h2 : ∀ x ∈ fs, Live T x ∧ (2 ≤ x → tab n (vl n T x) ∈ Fs)) (v : Nat) : askC T.ord R v = (ls.filter fun x => decide ((ky T x).1 = (v : Int))).length := by
 have hp := (hN.perm h hO hA h1 h2).countP_eq fun f => firstO T.ord f == some v
 rw [List.countP_map, List.countP_filter] at hp
 unfold askC
 have e1 : R.countP (fun f => firstO T.ord f == some v) = R.countP (fun a => (firstO T.ord a == some v) && (firstO T.ord a).isSome) := List.countP_congr fun f _ => by
  cases firstO T.ord f <;> simp
 rw [e1, ← hp, List.countP_eq_length_filter]
 congr 1
 refine List.filter_congr fun x hx => ?_
 obtain ⟨hx2, hxl⟩ := hN.two x hx
 obtain ⟨u, _, hu, _⟩ := h.rk_at hx2 hxl
 show (firstO T.ord (tab n (vl n T x)) == some v) = _
 rw [h.first_node hO hx2 hxl hu, hu]
 by_cases e : u = v
 · subst e; simp
 · have : ¬ (u : Int) = (v : Int) := by omega
   simp [e, this]
theorem DiaP.nodes {fs ls : List Nat} (h : Tbl n lv p T) (hD : DiaP T fs ls) (hfl : ∀ f ∈ fs, Live T f) : NodesOf T fs ls := by
 refine ⟨hD.nd, fun x hx => ⟨(hD.new x hx).1, (hD.new x hx).2.1⟩, fun f hf h2 => (hD.has f hf).elim (fun q => by omega) id, fun x hx y hy h2 => ?_, fun P h1 h2 x hx => ?_⟩
 · obtain ⟨pre, post, e⟩ := List.append_of_mem hx
   obtain ⟨_, ⟨r, hr, _⟩, _⟩ := hD.new x hx
   obtain ⟨c1, c2⟩ := hD.clo pre post x r e hr
   rw [ky_at hr] at hy
   rw [e]
   rcases hy with rfl | rfl
   · exact List.mem_append.2 (.inl (c1.elim (fun q => absurd h2 (by show ¬ 2 ≤ r.low; omega)) id))
   · exact List.mem_append.2 (.inl (c2.elim (fun q => absurd h2 (by show ¬ 2 ≤ r.high; omega)) id))
 · obtain ⟨hx2, hxl, f, hf, hr⟩ := hD.new x hx
   refine (hr (fun y => P y ∧ Live T y) ⟨h1 f hf, hfl f hf⟩ fun y r hy2 ⟨hPy, hly⟩ hyr => ?_).1
   have hd : r.about ≠ -1 := by
    obtain ⟨q, hq, hd⟩ := hly
    rw [hyr] at hq
    cases hq
    exact hd
   obtain ⟨_, _, _, a4, a5, _⟩ := h.inv.nd y r hy2 hyr hd
   have hk := ky_at hyr
   exact ⟨⟨h2 y _ hy2 hly hPy (.inl (by rw [hk]; rfl)), a4⟩, ⟨h2 y _ hy2 hly hPy (.inr (by rw [hk]; rfl)), a5⟩⟩
theorem Inv.made_snd {ρ : Nat → Nat} (I : Inv n ρ p T) : (T.made.map Prod.snd).Nodup := by
 refine List.pairwise_map.2 ?_
 refine (List.pairwise_map.1 I.mn).imp_of_mem fun {a b} ha hb hab e => hab ?_
 obtain ⟨_, r, hr, _, hk⟩ := (I.made a.1 a.2).1 ha
 obtain ⟨_, q, hq, _, hk2⟩ := (I.made b.1 b.2).1 hb
 rw [e] at hr
 rw [hr] at hq
 cases hq
 rw [hk, hk2]
theorem Inv.made_mem {ρ : Nat → Nat} (I : Inv n ρ p T) : x ∈ T.made.map Prod.snd ↔ 2 ≤ x ∧ Live T x := by
 rw [List.mem_map]
 constructor
 · rintro ⟨q, hq, rfl⟩
   obtain ⟨h2, r, hr, hd, _⟩ := (I.made q.1 q.2).1 hq
   exact ⟨h2, r, hr, hd⟩
 · rintro ⟨h2, r, hr, hd⟩
   exact ⟨(keyR r, x), (I.made _ _).2 ⟨h2, r, hr, hd, rfl⟩, rfl⟩
theorem Tbl.made_nodes {gs : List Nat} (h : Tbl n lv z0 T) (ng : NG (fun _ => False) T) (hgs : ∀ y, y ∈ gs ↔ Giv T y) : NodesOf T gs (T.made.map Prod.snd) := by
 refine ⟨h.inv.made_snd, fun x hx => h.inv.made_mem.1 hx, fun f hf h2 => h.inv.made_mem.2 ⟨h2, ((hgs f).1 hf).live⟩, fun x hx y hy h2 => ?_, fun P h1 h2 x hx => ?_⟩
 · obtain ⟨hx2, hxl⟩ := h.inv.made_mem.1 hx
   obtain ⟨_, _, _, l4, l5, _⟩ := h.inv.nk hx2 hxl
   refine h.inv.made_mem.2 ⟨h2, ?_⟩
   rcases hy with rfl | rfl <;> assumption
 · obtain ⟨hx2, hxl⟩ := h.inv.made_mem.1 hx
   have key : ∀ m x, 2 ≤ x → Live T x → rk lv T x < m → P x := by
    intro m
    induction m with
    | zero => intro x _ _ hm; omega
    | succ m ih =>
      intro x hx2 hxl hm
      by_cases hg : Giv T x
      · exact h1 x ((hgs x).2 hg)
      · obtain ⟨r, hr, hd⟩ := hxl
        have hu : 0 < r.users := by
         rcases ng x r hx2 hr hd (fun q => q) with q | q
         · exact absurd ⟨r, hr, hd, q⟩ hg
         · exact q
        have hl : 0 < lnk n T.rows x := by
         have h3 : r.users = lnk n T.rows x + 0 := h.inv.us x r hr
         omega
        obtain ⟨y, q, hq, hw⟩ := lnk_ex hl
        obtain ⟨y2, hqd, hpart⟩ := lw_node h.inv hq x hw
        obtain ⟨_, _, _, _, _, a6, a7⟩ := h.inv.nd y q y2 hq hqd
        have hrk : rk lv T y < rk lv T x := by rcases hpart with rfl | rfl <;> assumption
        refine h2 y x y2 ⟨q, hq, hqd⟩ (ih y y2 ⟨q, hq, hqd⟩ (by omega)) ?_
        rw [ky_at hq]
        exact hpart.imp Eq.symm Eq.symm
   exact key _ x hx2 hxl (Nat.lt_succ_self _)
end
section
variable {n : Nat} {lv : Nat → Nat} {T : Tb} {M : Nat}
theorem givs (T : Tb) : ∃ gs : List Nat, ∀ y, y ∈ gs ↔ Giv T y := by
 classical
 refine ⟨(List.range T.rows.length).filter fun y => decide (Giv T y), fun y => ?_⟩
 rw [List.mem_filter, List.mem_range, decide_eq_true_iff]
 exact ⟨fun h => h.2, fun h => ⟨h.live.lt, h⟩⟩
theorem OnlyF.nodes {Fs : List ((Nat → Bool) → Bool)} {R : List (List Bool)} (hB : Base n lv M T) (hO : Ords n lv T) (hF : OnlyF n T Fs) (hA : AskSt T.ord (Fs.map (tab n)) R.length R) : askN T.ord R = T.made.length ∧ ∀ v, askC T.ord R v = cntV T v := by
 obtain ⟨gs, hgs⟩ := givs T
 have t := hB.mid.t
 have hng : NG (fun _ => False) T := hB.mid.ng.mono fun x hx => by rw [hB.fresh] at hx; cases hx
 have hN := t.made_nodes hng hgs
 have h1 : ∀ F ∈ Fs.map (tab n), ∃ x ∈ gs, F = tab n (vl n T x) := fun F hF2 => by
  obtain ⟨G, hG, rfl⟩ := List.mem_map.1 hF2
  obtain ⟨x, hx, e⟩ := hF.has G hG
  exact ⟨x, (hgs x).2 hx, by rw [e]⟩
 have h2 : ∀ x ∈ gs, Live T x ∧ (2 ≤ x → tab n (vl n T x) ∈ Fs.map (tab n)) := fun x hx => by
  have hg := (hgs x).1 hx
  refine ⟨hg.live, fun h2 => ?_⟩
  rcases hF.only x hg with q | ⟨G, hG, e⟩
  · omega
  · rw [e]; exact List.mem_map.2 ⟨G, hG, rfl⟩
 refine ⟨?_, fun v => ?_⟩
 · rw [hN.count t hO hA h1 h2, List.length_map]
 · rw [hN.countV t hO hA h1 h2 v]
   unfold cntV
   rw [← List.countP_eq_length_filter, ← List.countP_eq_length_filter, List.countP_map]
   refine List.countP_congr fun q hq => ?_
   obtain ⟨_, r, hr, _, hk⟩ := (t.inv.made q.1 q.2).1 hq
   show decide ((ky T q.2).1 = (v : Int)) = true ↔ decide (q.1.1 = (v : Int)) = true
   rw [ky_at hr, hk]
theorem SizeOf.ask {Fs : List ((Nat → Bool) → Bool)} {R : List (List Bool)} {o : List Nat} (hA : AskSt o (Fs.map (tab n)) R.length R) : SizeOf n Fs o (askN o R) := by
 intro lv M T hB hO ho hF
 subst ho
 have he : ∀ g, vl n { T with fresh := [] } g = vl n T g := fun g => funext fun σ => ev_rows (T := T) (T' := { T with fresh := [] }) rfl σ _ _
 have hF2 : OnlyF n { T with fresh := [] } Fs := ⟨fun F hF2 => by
  obtain ⟨g, hg, e⟩ := hF.has F hF2
  exact ⟨g, hg, (he g).trans e⟩, fun g hg => by rw [he]; exact hF.only g hg⟩
 exact ((OnlyF.nodes (T := { T with fresh := [] }) hB hO hF2 hA).1).symm
end
end Go.Proofs.YtaakjjefnjbabaaGreat.Sx
