/- The store: add, of two literals or more. -/
import Derived.Test.YtbicefgjompnoaaDoorF17
namespace Go.Proofs.YtbicefgjompnoaaDoor.Sx
open Go.RowKit Go.Sort

theorem info94 : ∃ i0, Tryd.prog.info? 88 = some i0 ∧ i0.zero = some (.agg #[.int .i32 0, .int .i32 0]) ∧ i0.size = 2 ∧ i0.bytes = 8 := by
  have h : ((Tryd.prog.info? 88).map fun i => (i.zero, i.size, i.bytes)) = some (some (.agg #[.int .i32 0, .int .i32 0]), 2, 8) := by kernel_rfl
  cases hq : Tryd.prog.info? 88 with
  | none => rw [hq] at h; simp at h
  | some j => rw [hq] at h; simp at h; exact ⟨j, rfl, h.1, h.2.1, h.2.2⟩
theorem one2 {u v : Int} : ∀ x ∈ [Value.int .i32 u, Value.int .i32 v], x.oneCell' = true := fun x hx => by
  simp only [List.mem_cons, List.not_mem_nil, or_false] at hx
  rcases hx with rfl | rfl <;> rfl
/-- on the way through add -/
structure Gr2 (w : World) (L : Ly) (n : Nat) (s1 : St) (cb R : Nat) (c : List Nat) (cap : Nat) (W : World) (L1 : Ly) : Prop where
  at_ : SAt W L1 n s1
  fr : FrX cb L L1 w W
  row : s1.rows[R]? = some (some c)
  rr : L1.rr[R]? = some (.slice (some ⟨cb, 0, none⟩) c.length cap)
  wl : ∀ l, (s1.watches.getD l []).length ≤ 4000000000

set_option maxRecDepth 100000 in
set_option maxHeartbeats 8000000 in
theorem add_two (w : World) (L : Ly) (n : Nat) (s : St) (cb a b : Nat) (c : List Nat) (d : Array Nat) (h : SAt w L n s) (hc : CAt w L cb d (a :: b :: c)) (hxa : a < 2 * n) (hxb : b < 2 * n) (hrw : s.rows.length + 1 ≤ 1000000000) (hwl : ∀ l, (s.watches.getD l []).length ≤ 3000000000) :
    Calls Tryd.prog 32 #[.pointer (some ⟨L.sb, 0, none⟩), .slice (some ⟨cb, 0, none⟩) (c.length + 2) d.size] w (AddPost w L n cb (addP s (a :: b :: c))) := by
  have mo := follows
  obtain ⟨i0, hi0, hz0, hz1, hz2⟩ := info44
  obtain ⟨i4, hj0, hj1, hj2, hj3⟩ := info94
  obtain ⟨ra, rc, hrv⟩ := (h.1.ro trivial).form
  have hdc : c.length + 2 ≤ d.size := by
    have := congrArg List.length hc.tk
    rw [List.length_take] at this
    have e : (a :: b :: c).length = c.length + 2 := rfl
    have e2 : d.toList.length = d.size := by simp
    omega
  have hds := hc.sz
  have c0 : w.cell? ⟨L.sb, 0, none⟩ = some (.slice ra s.rows.length rc) := by have := h.cell 0; simp only [stC, hrv] at this; exact this
  have HW : Hid (SAt (w.alloc (.cells #[.slice (some ⟨cb, 0, none⟩) (c.length + 2) d.size] 43)) L n s) := h.alloc _
  have HF : Hid (Fr (fun _ => True) w (w.alloc (.cells #[.slice (some ⟨cb, 0, none⟩) (c.length + 2) d.size] 43))) := (Fr.refl _ w).alloc _
  have OW : Hid ((w.alloc (.cells #[.slice (some ⟨cb, 0, none⟩) (c.length + 2) d.size] 43)).ownsRow 0 43 1 (.slice ra s.rows.length rc) s.rows.length L.rr) := by rw [← hrv]; exact (HW.out.1.ro trivial).1
  have hmx : s.rows.length + 1 ≤ maxLen := by unfold maxLen; omega
  have hby : (s.rows.length + 1) * 24 ≤ 140737488355328 := by omega
  obtain ⟨SR, hSR⟩ : ∃ SR, ({ s with rows := s.rows ++ [some (a :: b :: c)] } : St) = SR := ⟨_, rfl⟩
  have HP : Hid (∀ (v4 : Value) (w9 : World), w9.ownsRow 0 43 1 v4 (s.rows.length + 1) (L.rr ++ [.slice (some ⟨cb, 0, none⟩) (c.length + 2) d.size]) → (w.alloc (.cells #[.slice (some ⟨cb, 0, none⟩) (c.length + 2) d.size] 43)).grownBy w9 (Value.slice ra s.rows.length rc).ownBlock → (v4.ownBlock = (Value.slice ra s.rows.length rc).ownBlock ∨ v4.ownBlock = some (w.alloc (.cells #[.slice (some ⟨cb, 0, none⟩) (c.length + 2) d.size] 43)).heap.size) →
      ∃ g cap, v4 = .slice (some ⟨g, 0, none⟩) (s.rows.length + 1) cap ∧ w9.cell? ⟨L.sb, 0, none⟩ = some (.slice ra s.rows.length rc) ∧ w9.frozen? ⟨L.sb, 0, none⟩ = false ∧ ∃ L1, Gr2 w L n SR cb s.rows.length (a :: b :: c) d.size (w9.setCell ⟨L.sb, 0, none⟩ (.slice (some ⟨g, 0, none⟩) (s.rows.length + 1) cap)) L1) := by
    intro v4 w9 ho hg hat
    rcases ho.2 with ⟨_, q⟩ | ⟨g, cap, cur, e, q⟩
    · omega
    subst e
    rw [← hrv] at hg hat
    obtain ⟨k1, k2, L1, k3, k4, k5⟩ := HW.out.app_rows HF.out (c := a :: b :: c) hc hrw ho hg (by
      rcases hat with q | q
      · exact .inl q.symm
      · exact .inr (Option.some.inj q))
    refine ⟨g, cap, rfl, by rw [k1, hrv], k2, L1, by rw [← hSR]; exact k3, k4, by rw [← hSR]; simp, k5, fun l => ?_⟩
    rw [← hSR]
    have := hwl l
    show (s.watches.getD l []).length ≤ _
    omega
  obtain ⟨S2, hS2⟩ : ∃ S2, pushW SR a s.rows.length b = S2 := ⟨_, rfl⟩
  obtain ⟨S3, hS3⟩ : ∃ S3, pushW S2 b s.rows.length a = S3 := ⟨_, rfl⟩
  have e2 : (addP s (a :: b :: c)) = (S3, (s.rows.length : Int)) := by rw [← hS3, ← hS2, ← hSR]; rfl
  rw [e2]
  have hw2 : ∀ l, (S2.watches.getD l []).length ≤ 3000000001 := fun l => by
    rw [← hS2, pushW_getD (by rw [← hSR, h.2.wt]; exact hxa)]
    split
    · rw [List.length_append]; have := hwl a; rw [← hSR]; show (s.watches.getD a []).length + 1 ≤ _; omega
    · have := hwl l; rw [← hSR]; show (s.watches.getD l []).length ≤ _; omega
  have hw3 : ∀ l, (S3.watches.getD l []).length ≤ 3000000002 := fun l => by
    have e : S2.watches.length = 2 * n := by rw [← hS2, ← hSR]; simp [pushW, h.2.wt]
    rw [← hS3, pushW_getD (by rw [e]; exact hxb)]
    split
    · rw [List.length_append]; have := hw2 b; show (S2.watches.getD b []).length + 1 ≤ _; omega
    · have := hw2 l; omega
  have HW2 : Hid (∀ l, (S2.watches.getD l []).length ≤ 3000000001) := hw2
  have HW3 : Hid (∀ l, (S3.watches.getD l []).length ≤ 3000000002) := hw3
  have HS2 : Hid (pushW SR a s.rows.length b = S2) := hS2
  have HS3 : Hid (pushW S2 b s.rows.length a = S3) := hS3
  generalize s.rows.length = R at c0 OW hmx hby HP hrw HS2 HS3 ⊢
  have hwr : IntKind.i32.wrap (R : Int) = (R : Int) := by rw [IntKind.wrap_i32]; omega
  have l0 : ((c.length : Int) + 2 == 0) = false := by rw [beq_eq_false_iff_ne]; omega
  have l1 : ((c.length : Int) + 2 == 1) = false := by rw [beq_eq_false_iff_ne]; omega
  have l2 : (((c.length + 2 : Nat) : Int) == 0) = false := by rw [beq_eq_false_iff_ne]; omega
  have l3 : (((c.length + 2 : Nat) : Int) == 1) = false := by rw [beq_eq_false_iff_ne]; omega
  have xa1 : (a : Int) < 2 * (n : Int) := by omega
  have xa2 : (a : Int) < ((2 * n : Nat) : Int) := by omega
  have xb1 : (b : Int) < 2 * (n : Int) := by omega
  have xb2 : (b : Int) < ((2 * n : Nat) : Int) := by omega
  have g0 : (0 : Int) < (c.length : Int) + 2 := by omega
  have g1 : (1 : Int) < (c.length : Int) + 2 := by omega
  clear HW HF hrv hSR e2 hS2 hS3 h hw2 hw3 hwl
  go_enter Tryd.func32, Tryd.ntmps32
  go_upto_region 6 with (at_builtin; refine wpList_append_own_at _ rfl _ _ 49 rfl 0 43 i0 _ 1 24 Tryd.underlying49 hi0 hz0 hz1 hz2 rfl (by decide) (.slice ra R rc) R _ rfl OW.out ⟨w.heap.size, 0, none⟩ 1 1 [.slice (some ⟨cb, 0, none⟩) (c.length + 2) d.size] rfl rfl (World.news_of_block (heap_new rfl)) (one1 rfl) hmx hby (Nat.zero_le _) ?_; intro v4 w9 ho9 hg9 _ hat9; obtain ⟨g, cap4, rfl, q1, q2, L1, q3⟩ := HP.out v4 w9 ho9 hg9 hat9; have Q3 : Hid (Gr2 w L n SR cb R (a :: b :: c) d.size (w9.setCell ⟨L.sb, 0, none⟩ (.slice (some ⟨g, 0, none⟩) (R + 1) cap4)) L1) := q3; clear ho9 hg9 hat9 q3)
  clear c0 OW HP q1 q2 hmx hby
  generalize w9.setCell ⟨L.sb, 0, none⟩ (.slice (some ⟨g, 0, none⟩) (R + 1) cap4) = W5 at Q3 ⊢
  have HA := Q3
  clear Q3

  have hp := HA.out.at_
  have sbp : L1.sb = L.sb := HA.out.fr.sb
  obtain ⟨vp, evp, hwp⟩ := hp.1.wl a trivial hxa
  obtain ⟨wap, wcp, hfp⟩ := hwp.form
  obtain ⟨Kp, hKp⟩ : ∃ K, (SR.watches.getD a []).length = K := ⟨_, rfl⟩
  subst hfp
  obtain ⟨r0p, f0p, _⟩ := hp.rowcell HA.out.row HA.out.rr (i := 0) (x := a) rfl
  obtain ⟨r1p, f1p, _⟩ := hp.rowcell HA.out.row HA.out.rr (i := 1) (x := b) rfl
  have c3p : W5.cell? ⟨L.sb, 3, none⟩ = some (.slice (some ⟨L1.wb, 0, none⟩) (2 * n) (2 * n)) := by rw [← sbp]; exact hp.cell 3
  have cwp : W5.cell? ⟨L1.wb, a, none⟩ = some (.slice wap Kp wcp) := by rw [block_cell (hp.1.wt trivial).1, ← hKp]; simpa using evp
  have d0p : W5.drew.cell? ⟨cb, 0, none⟩ = some (.int .i32 (a : Int)) := r0p
  have d1p : W5.drew.cell? ⟨cb, 1, none⟩ = some (.int .i32 (b : Int)) := r1p
  have d3p : W5.drew.cell? ⟨L.sb, 3, none⟩ = some (.slice (some ⟨L1.wb, 0, none⟩) (2 * n) (2 * n)) := c3p
  have dwp : W5.drew.cell? ⟨L1.wb, a, none⟩ = some (.slice wap Kp wcp) := cwp
  have hAp : SAt (W5.alloc (.cells #[.int .i32 (R : Int), .int .i32 (b : Int)] 88)) L1 n SR := hp.alloc _
  have a0p := (hAp.rowcell HA.out.row HA.out.rr (i := 0) (x := a) rfl).1
  have a1p := (hAp.rowcell HA.out.row HA.out.rr (i := 1) (x := b) rfl).1
  have a3p : (W5.alloc (.cells #[.int .i32 (R : Int), .int .i32 (b : Int)] 88)).cell? ⟨L.sb, 3, none⟩ = some (.slice (some ⟨L1.wb, 0, none⟩) (2 * n) (2 * n)) := by rw [← sbp]; exact hAp.cell 3
  have awp : (W5.alloc (.cells #[.int .i32 (R : Int), .int .i32 (b : Int)] 88)).cell? ⟨L1.wb, a, none⟩ = some (.slice wap Kp wcp) := by rw [block_cell (hAp.1.wt trivial).1, ← hKp]; simpa using evp
  have HWp : Hid (SAt (W5.drew.alloc (.cells #[.int .i32 (R : Int), .int .i32 (b : Int)] 88)) L1 n SR) := hp.drew.alloc _
  have HFp : Hid (Fr (fun _ => True) W5 (W5.drew.alloc (.cells #[.int .i32 (R : Int), .int .i32 (b : Int)] 88))) := (Fr.refl _ W5).drew.alloc _
  have OWp : Hid ((W5.drew.alloc (.cells #[.int .i32 (R : Int), .int .i32 (b : Int)] 88)).ownsRow 0 88 2 (.slice wap Kp wcp) Kp (flatW (SR.watches.getD a []))) := by
    obtain ⟨v', e', hw'⟩ := HWp.out.1.wl a trivial hxa
    rw [evp] at e'
    cases e'
    rw [← hKp]
    exact hw'.1
  have NBp : Hid ((W5.drew.alloc (.cells #[.int .i32 (R : Int), .int .i32 (b : Int)] 88)).heap[W5.heap.size]? = some (.cells #[.int .i32 (R : Int), .int .i32 (b : Int)] 88 (0, 0))) := heap_new (by simp)
  have hKlp : Kp ≤ 4000000000 := by rw [← hKp]; exact HA.out.wl a
  have hmxp : Kp + 1 ≤ maxLen := by unfold maxLen; omega
  have hbyp : (Kp + 1) * 8 ≤ 140737488355328 := by omega
  have HPp : Hid (∀ (g cap : Nat) (w9 : World), w9.ownsRow 0 88 2 (.slice (some ⟨g, 0, none⟩) (Kp + 1) cap) (Kp + 1) (flatW (SR.watches.getD a []) ++ [.int .i32 (R : Int), .int .i32 (b : Int)]) → (W5.drew.alloc (.cells #[.int .i32 (R : Int), .int .i32 (b : Int)] 88)).grownBy w9 (Value.slice wap Kp wcp).ownBlock → ((Value.slice wap Kp wcp).ownBlock = some g ∨ g = W5.heap.size + 1) →
      w9.cell? ⟨L.sb, 3, none⟩ = some (.slice (some ⟨L1.wb, 0, none⟩) (2 * n) (2 * n)) ∧ w9.cell? ⟨cb, 0, none⟩ = some (.int .i32 (a : Int)) ∧ w9.cell? ⟨cb, 1, none⟩ = some (.int .i32 (b : Int)) ∧ w9.cell? ⟨L1.wb, a, none⟩ = some (.slice wap Kp wcp) ∧ w9.frozen? ⟨L1.wb, a, none⟩ = false ∧ ∃ L', Gr2 w L n S2 cb R (a :: b :: c) d.size (w9.setCell ⟨L1.wb, a, none⟩ (.slice (some ⟨g, 0, none⟩) (Kp + 1) cap)) L') := by
    intro g cap w9 ho hg hat
    rw [← hKp] at ho hg hat ⊢
    obtain ⟨k1, k2, k3, k4⟩ := HWp.out.app_watch HFp.out hxa (by rw [evp, hKp]) ho hg (by simpa using hat)
    obtain ⟨v', e', hw'⟩ := HWp.out.1.wl a trivial hxa
    rw [evp] at e'
    cases e'
    have kp : ∀ b', b' < (W5.drew.alloc (.cells #[.int .i32 (R : Int), .int .i32 (b : Int)] 88)).heap.size → L1.own b' ≠ (10, a) → w9.heap[b']? = (W5.drew.alloc (.cells #[.int .i32 (R : Int), .int .i32 (b : Int)] 88)).heap[b']? := fun b' hb' ht => hw'.kept hg hb' ht
    obtain ⟨s1, s2⟩ := HWp.out.1.st trivial
    obtain ⟨m1, _, m2⟩ := HWp.out.rowcell HA.out.row HA.out.rr (i := 0) (x := a) rfl
    obtain ⟨m3, _, _⟩ := HWp.out.rowcell HA.out.row HA.out.rr (i := 1) (x := b) rfl
    have e3 : w9.cell? ⟨L.sb, 3, none⟩ = some (.slice (some ⟨L1.wb, 0, none⟩) (2 * n) (2 * n)) := by rw [← sbp]; exact (World.cell?_of_block (a := ⟨L1.sb, 3, none⟩) (kp _ (block_lt s1) (by rw [s2]; simp))).trans (HWp.out.cell 3)
    have e4 := (World.cell?_of_block (a := ⟨cb, 0, none⟩) (kp _ (World.block_lt_of_cell? _ _ m1) (by rw [m2]; simp))).trans m1
    have e5 := (World.cell?_of_block (a := ⟨cb, 1, none⟩) (kp _ (World.block_lt_of_cell? _ _ m3) (by rw [m2]; simp))).trans m3
    rw [HS2.out] at k3
    exact ⟨e3, e4, e5, k1, k2, _, k3, HA.out.fr.trans k4, by rw [← HS2.out]; exact HA.out.row, HA.out.rr, fun l => by have := HW2.out l; omega⟩
  have hobp : L1.own L1.wb = (4, 0) := (hp.1.wt trivial).2
  have honp : L.sb ≠ L1.wb := fun e => by have := (hp.1.st trivial).2; rw [sbp, e, hobp] at this; cases this
  have hocp : cb ≠ L1.wb := fun e => by have := (hp.rowcell HA.out.row HA.out.rr (i := 0) (x := a) rfl).2.2; rw [e, hobp] at this; cases this
  have hn1p : (⟨L1.wb, a, none⟩ : Addr) ≠ ⟨L.sb, 3, none⟩ := fun e => honp (congrArg Addr.block e).symm
  have hn2p : (⟨L1.wb, a, none⟩ : Addr) ≠ ⟨cb, 0, none⟩ := fun e => hocp (congrArg Addr.block e).symm
  have hn3p : (⟨L1.wb, a, none⟩ : Addr) ≠ ⟨cb, 1, none⟩ := fun e => hocp (congrArg Addr.block e).symm
  clear hobp honp hocp hAp HWp HFp hwp evp hKp hKlp hp
  go_upto_region 9 with fail
  go_cut [] (fun wx => ∃ L', Hid (Gr2 w L n S2 cb R (a :: b :: c) d.size wx L'))
  case first =>
    go_wp2_with fail
    refine wp_region_noPanic ?_
    refine wp_region_held_drew (S := fun w' => w'.cell? ⟨L.sb, 3, none⟩ = some (.slice (some ⟨L1.wb, 0, none⟩) (2 * n) (2 * n)) ∧ w'.cell? ⟨cb, 0, none⟩ = some (.int .i32 (a : Int)) ∧ w'.cell? ⟨cb, 1, none⟩ = some (.int .i32 (b : Int))) (by kernel_rfl) ⟨d3p, d0p, d1p⟩ (fun hHeld => ?_)
    refine wpAnyH_take (i := 0) (oi := ({ dst := some 46, op := Op.move (Operand.tmp 0), type := 41, pos := _, after := #[], guard := none } : Oper)) (v := ?_) rfl (by kernel_rfl) (by kernel_rfl) (by kernel_rfl) (fun _ _ _ h => h) (Or.inl ⟨by rfl, ?_⟩) hHeld ?_
    rotate_left
    · intro w0 hS0; (try dsimp only at hS0); go_simp; try with_reducible rfl
    try simp only [Act.put, List.setIfInBounds_toArray, List.set_cons_zero, List.set_cons_succ]
    refine wpAnyH_take (i := 1) (oi := ({ dst := some 47, op := Op.nilCheck (Operand.tmp 46), type := 0, pos := _, after := #[{ on := 0, ground := Ground.data }], guard := none } : Oper)) (v := ?_) rfl (by kernel_rfl) (by kernel_rfl) (by kernel_rfl) (fun _ _ _ h => h) (Or.inl ⟨by rfl, ?_⟩) hHeld ?_
    rotate_left
    · intro w0 hS0; (try dsimp only at hS0); go_simp; try with_reducible rfl
    try simp only [Act.put, List.setIfInBounds_toArray, List.set_cons_zero, List.set_cons_succ]
    refine wpAnyH_take (i := 2) (oi := ({ dst := some 48, op := Op.fieldAddr 54 (Operand.tmp 47) 3, type := 0, pos := _, after := #[{ on := 1, ground := Ground.data }], guard := none } : Oper)) (v := ?_) rfl (by kernel_rfl) (by kernel_rfl) (by kernel_rfl) (fun _ _ _ h => h) (Or.inl ⟨by rfl, ?_⟩) hHeld ?_
    rotate_left
    · intro w0 hS0; (try dsimp only at hS0); go_simp; try with_reducible rfl
    try simp only [Act.put, List.setIfInBounds_toArray, List.set_cons_zero, List.set_cons_succ]
    refine wpAnyH_take (i := 3) (oi := ({ dst := some 49, op := Op.load 51 (Operand.tmp 48), type := 51, pos := _, after := #[{ on := 2, ground := Ground.data }], guard := none } : Oper)) (v := ?_) rfl (by kernel_rfl) (by kernel_rfl) (by kernel_rfl) (fun _ _ _ h => h) (Or.inl ⟨by rfl, ?_⟩) hHeld ?_
    rotate_left
    · intro w0 hS0; (try dsimp only at hS0); go_simp; try with_reducible rfl
    try simp only [Act.put, List.setIfInBounds_toArray, List.set_cons_zero, List.set_cons_succ]
    refine wpAnyH_take (i := 4) (oi := ({ dst := some 50, op := Op.move (Operand.tmp 1), type := 43, pos := _, after := #[], guard := none } : Oper)) (v := ?_) rfl (by kernel_rfl) (by kernel_rfl) (by kernel_rfl) (fun _ _ _ h => h) (Or.inl ⟨by rfl, ?_⟩) hHeld ?_
    rotate_left
    · intro w0 hS0; (try dsimp only at hS0); go_simp; try with_reducible rfl
    try simp only [Act.put, List.setIfInBounds_toArray, List.set_cons_zero, List.set_cons_succ]
    refine wpAnyH_take (i := 5) (oi := ({ dst := some 51, op := Op.indexAddr 43 (Operand.tmp 50) (Operand.const (Value.int IntKind.i64 0)), type := 0, pos := _, after := #[{ on := 4, ground := Ground.data }], guard := none } : Oper)) (v := ?_) rfl (by kernel_rfl) (by kernel_rfl) (by kernel_rfl) (fun _ _ _ h => h) (Or.inl ⟨by rfl, ?_⟩) hHeld ?_
    rotate_left
    · intro w0 hS0; (try dsimp only at hS0); go_simp; try with_reducible rfl
    try simp only [Act.put, List.setIfInBounds_toArray, List.set_cons_zero, List.set_cons_succ]
    refine wpAnyH_take (i := 6) (oi := ({ dst := some 52, op := Op.load 45 (Operand.tmp 51), type := 45, pos := _, after := #[{ on := 5, ground := Ground.data }], guard := none } : Oper)) (v := ?_) rfl (by kernel_rfl) (by kernel_rfl) (by kernel_rfl) (fun _ _ _ h => h) (Or.inl ⟨by rfl, ?_⟩) hHeld ?_
    rotate_left
    · intro w0 hS0; (try dsimp only at hS0); go_simp; try with_reducible rfl
    try simp only [Act.put, List.setIfInBounds_toArray, List.set_cons_zero, List.set_cons_succ]
    refine wpAnyH_take (i := 7) (oi := ({ dst := some 53, op := Op.move (Operand.tmp 0), type := 41, pos := _, after := #[], guard := none } : Oper)) (v := ?_) rfl (by kernel_rfl) (by kernel_rfl) (by kernel_rfl) (fun _ _ _ h => h) (Or.inl ⟨by rfl, ?_⟩) hHeld ?_
    rotate_left
    · intro w0 hS0; (try dsimp only at hS0); go_simp; try with_reducible rfl
    try simp only [Act.put, List.setIfInBounds_toArray, List.set_cons_zero, List.set_cons_succ]
    refine wpAnyH_take (i := 8) (oi := ({ dst := some 54, op := Op.nilCheck (Operand.tmp 53), type := 0, pos := _, after := #[{ on := 7, ground := Ground.data }], guard := none } : Oper)) (v := ?_) rfl (by kernel_rfl) (by kernel_rfl) (by kernel_rfl) (fun _ _ _ h => h) (Or.inl ⟨by rfl, ?_⟩) hHeld ?_
    rotate_left
    · intro w0 hS0; (try dsimp only at hS0); go_simp; try with_reducible rfl
    try simp only [Act.put, List.setIfInBounds_toArray, List.set_cons_zero, List.set_cons_succ]
    refine wpAnyH_take (i := 9) (oi := ({ dst := some 55, op := Op.fieldAddr 54 (Operand.tmp 54) 3, type := 0, pos := _, after := #[{ on := 8, ground := Ground.data }], guard := none } : Oper)) (v := ?_) rfl (by kernel_rfl) (by kernel_rfl) (by kernel_rfl) (fun _ _ _ h => h) (Or.inl ⟨by rfl, ?_⟩) hHeld ?_
    rotate_left
    · intro w0 hS0; (try dsimp only at hS0); go_simp; try with_reducible rfl
    try simp only [Act.put, List.setIfInBounds_toArray, List.set_cons_zero, List.set_cons_succ]
    refine wpAnyH_take (i := 10) (oi := ({ dst := some 56, op := Op.load 51 (Operand.tmp 55), type := 51, pos := _, after := #[{ on := 9, ground := Ground.data }], guard := none } : Oper)) (v := ?_) rfl (by kernel_rfl) (by kernel_rfl) (by kernel_rfl) (fun _ _ _ h => h) (Or.inl ⟨by rfl, ?_⟩) hHeld ?_
    rotate_left
    · intro w0 hS0; (try dsimp only at hS0); go_simp; try with_reducible rfl
    try simp only [Act.put, List.setIfInBounds_toArray, List.set_cons_zero, List.set_cons_succ]
    refine wpAnyH_take (i := 11) (oi := ({ dst := some 57, op := Op.move (Operand.tmp 1), type := 43, pos := _, after := #[], guard := none } : Oper)) (v := ?_) rfl (by kernel_rfl) (by kernel_rfl) (by kernel_rfl) (fun _ _ _ h => h) (Or.inl ⟨by rfl, ?_⟩) hHeld ?_
    rotate_left
    · intro w0 hS0; (try dsimp only at hS0); go_simp; try with_reducible rfl
    try simp only [Act.put, List.setIfInBounds_toArray, List.set_cons_zero, List.set_cons_succ]
    refine wpAnyH_take (i := 12) (oi := ({ dst := some 58, op := Op.indexAddr 43 (Operand.tmp 57) (Operand.const (Value.int IntKind.i64 0)), type := 0, pos := _, after := #[{ on := 11, ground := Ground.data }], guard := none } : Oper)) (v := ?_) rfl (by kernel_rfl) (by kernel_rfl) (by kernel_rfl) (fun _ _ _ h => h) (Or.inl ⟨by rfl, ?_⟩) hHeld ?_
    rotate_left
    · intro w0 hS0; (try dsimp only at hS0); go_simp; try with_reducible rfl
    try simp only [Act.put, List.setIfInBounds_toArray, List.set_cons_zero, List.set_cons_succ]
    refine wpAnyH_take (i := 13) (oi := ({ dst := some 59, op := Op.load 45 (Operand.tmp 58), type := 45, pos := _, after := #[{ on := 12, ground := Ground.data }], guard := none } : Oper)) (v := ?_) rfl (by kernel_rfl) (by kernel_rfl) (by kernel_rfl) (fun _ _ _ h => h) (Or.inl ⟨by rfl, ?_⟩) hHeld ?_
    rotate_left
    · intro w0 hS0; (try dsimp only at hS0); go_simp; try with_reducible rfl
    try simp only [Act.put, List.setIfInBounds_toArray, List.set_cons_zero, List.set_cons_succ]
    refine wpAnyH_take (i := 14) (oi := ({ dst := some 60, op := Op.indexAddr 51 (Operand.tmp 56) (Operand.tmp 59), type := 0, pos := _, after := #[{ on := 10, ground := Ground.data }, { on := 13, ground := Ground.data }], guard := none } : Oper)) (v := ?_) rfl (by kernel_rfl) (by kernel_rfl) (by kernel_rfl) (fun _ _ _ h => h) (Or.inl ⟨by rfl, ?_⟩) hHeld ?_
    rotate_left
    · intro w0 hS0; (try dsimp only at hS0); go_simp; try with_reducible rfl
    try simp only [Act.put, List.setIfInBounds_toArray, List.set_cons_zero, List.set_cons_succ]
    refine wpAnyH_take (i := 16) (oi := ({ dst := some 62, op := Op.move (Operand.tmp 5), type := 21, pos := _, after := #[], guard := none } : Oper)) (v := ?_) rfl (by kernel_rfl) (by kernel_rfl) (by kernel_rfl) (fun _ _ _ h => h) (Or.inl ⟨by rfl, ?_⟩) hHeld ?_
    rotate_left
    · intro w0 hS0; (try dsimp only at hS0); go_simp; try with_reducible rfl
    try simp only [Act.put, List.setIfInBounds_toArray, List.set_cons_zero, List.set_cons_succ]
    refine wpAnyH_take (i := 17) (oi := ({ dst := some 63, op := Op.move (Operand.tmp 1), type := 43, pos := _, after := #[], guard := none } : Oper)) (v := ?_) rfl (by kernel_rfl) (by kernel_rfl) (by kernel_rfl) (fun _ _ _ h => h) (Or.inl ⟨by rfl, ?_⟩) hHeld ?_
    rotate_left
    · intro w0 hS0; (try dsimp only at hS0); go_simp; try with_reducible rfl
    try simp only [Act.put, List.setIfInBounds_toArray, List.set_cons_zero, List.set_cons_succ]
    refine wpAnyH_take (i := 18) (oi := ({ dst := some 64, op := Op.indexAddr 43 (Operand.tmp 63) (Operand.const (Value.int IntKind.i64 1)), type := 0, pos := _, after := #[{ on := 17, ground := Ground.data }], guard := none } : Oper)) (v := ?_) rfl (by kernel_rfl) (by kernel_rfl) (by kernel_rfl) (fun _ _ _ h => h) (Or.inl ⟨by rfl, ?_⟩) hHeld ?_
    rotate_left
    · intro w0 hS0; (try dsimp only at hS0); go_simp; try with_reducible rfl
    try simp only [Act.put, List.setIfInBounds_toArray, List.set_cons_zero, List.set_cons_succ]
    refine wpAnyH_take (i := 19) (oi := ({ dst := some 65, op := Op.load 45 (Operand.tmp 64), type := 45, pos := _, after := #[{ on := 18, ground := Ground.data }], guard := none } : Oper)) (v := ?_) rfl (by kernel_rfl) (by kernel_rfl) (by kernel_rfl) (fun _ _ _ h => h) (Or.inl ⟨by rfl, ?_⟩) hHeld ?_
    rotate_left
    · intro w0 hS0; (try dsimp only at hS0); go_simp; try with_reducible rfl
    try simp only [Act.put, List.setIfInBounds_toArray, List.set_cons_zero, List.set_cons_succ]
    refine wpAnyH_take (i := 20) (oi := ({ dst := some 66, op := Op.build 88 #[(0, Operand.tmp 62), (1, Operand.tmp 65)], type := 88, pos := _, after := #[{ on := 16, ground := Ground.data }, { on := 19, ground := Ground.data }], guard := none } : Oper)) (v := ?_) rfl (by kernel_rfl) (by kernel_rfl) (by kernel_rfl) (fun _ _ _ h => h) (Or.inl ⟨by rfl, ?_⟩) hHeld ?_
    rotate_left
    · intro w0 hS0; (try dsimp only at hS0); go_simp; try with_reducible rfl
    try simp only [Act.put, List.setIfInBounds_toArray, List.set_cons_zero, List.set_cons_succ]
    refine wpAnyH_ready (rs := [15, 21]) (by kernel_rfl) (by simp) ?_
    refine AllReadyH.cons (o := ({ dst := some 61, op := Op.load 86 (Operand.tmp 60), type := 86, pos := _, after := #[{ on := 14, ground := Ground.data }], guard := none } : Oper)) rfl (fun K hK => ?_) (AllReadyH.cons (o := ({ dst := some 67, op := Op.buildSlice 86 1 #[(0, Operand.tmp 66)], type := 86, pos := _, after := #[{ on := 20, ground := Ground.data }], guard := none } : Oper)) rfl (fun K hK => ?_) AllReadyH.nil)
    · go_simp
      refine hK.out _ _ ?_ (fun hHeld2 => ?_)
      · exact ⟨d3p, d0p, d1p⟩
      clear hK K
      try simp only [Act.put, List.setIfInBounds_toArray, List.set_cons_zero, List.set_cons_succ]
      refine wpAnyH_ready (rs := [21]) (by kernel_rfl) (by simp) ?_
      refine AllReadyH.cons (o := ({ dst := some 67, op := Op.buildSlice 86 1 #[(0, Operand.tmp 66)], type := 86, pos := _, after := #[{ on := 20, ground := Ground.data }], guard := none } : Oper)) rfl (fun K hK => ?_) AllReadyH.nil
      go_simp
      refine hK.out _ _ ?_ (fun hHeld3 => ?_)
      · exact ⟨a3p, a0p, a1p⟩
      clear hK K
      try simp only [Act.put, List.setIfInBounds_toArray, List.set_cons_zero, List.set_cons_succ]
      refine wpAnyH_ready (rs := [22]) (by kernel_rfl) (by simp) ?_
      refine AllReadyH.cons (o := ({ dst := some 68, op := Op.call { callee := Callee.builtin Builtin.append, args := #[Operand.tmp 61, Operand.tmp 67], argTypes := #[86, 86] }, type := 86, pos := _, after := #[{ on := 15, ground := Ground.data }, { on := 21, ground := Ground.data }], guard := none } : Oper)) rfl (fun K hK => ?_) AllReadyH.nil
      refine step_append_lies _ (by rfl) _ _ 86 (by rfl) 0 88 i4 _ 2 8 Tryd.underlying86 hj0 hj1 hj2 hj3 rfl (by decide) (.slice wap Kp wcp) _ (flatW (SR.watches.getD a [])) (by rfl) OWp.out ⟨W5.heap.size, 0, none⟩ 1 1 [.int .i32 (R : Int), .int .i32 (b : Int)] (by rfl) rfl (World.news_of_block NBp.out) one2 (by decide) hmxp hbyp (Nat.zero_le _) (W5.heap.size + 1) (by simp) ?_
      intro g9 cap9 w9' ho9 hg9 hat9 hlt9
      obtain ⟨u3, u0, u1, uw, q2, q3⟩ := HPp.out g9 cap9 w9' ho9 hg9 hat9
      have Q3 : Hid (∃ L', Gr2 w L n S2 cb R (a :: b :: c) d.size (w9'.setCell ⟨L1.wb, a, none⟩ (.slice (some ⟨g9, 0, none⟩) (Kp + 1) cap9)) L') := q3
      clear ho9 hg9 hat9 q3
      refine hK.out _ _ ?_ (fun hHeld4 => ?_)
      · exact ⟨u3, u0, u1⟩
      clear hK K
      try simp only [Act.put, List.setIfInBounds_toArray, List.set_cons_zero, List.set_cons_succ]
      refine wpAnyH_take (i := 23) (oi := ({ dst := some 69, op := Op.indexAddr 51 (Operand.tmp 49) (Operand.tmp 52), type := 0, pos := _, after := #[{ on := 3, ground := Ground.data }, { on := 6, ground := Ground.data }, { on := 0, ground := Ground.phase }, { on := 1, ground := Ground.phase }, { on := 2, ground := Ground.phase }, { on := 3, ground := Ground.phase }, { on := 4, ground := Ground.phase }, { on := 5, ground := Ground.phase }, { on := 6, ground := Ground.phase }, { on := 7, ground := Ground.phase }, { on := 8, ground := Ground.phase }, { on := 9, ground := Ground.phase }, { on := 10, ground := Ground.phase }, { on := 11, ground := Ground.phase }, { on := 12, ground := Ground.phase }, { on := 13, ground := Ground.phase }, { on := 14, ground := Ground.phase }, { on := 15, ground := Ground.phase }, { on := 16, ground := Ground.phase }, { on := 17, ground := Ground.phase }, { on := 18, ground := Ground.phase }, { on := 19, ground := Ground.phase }, { on := 20, ground := Ground.phase }, { on := 21, ground := Ground.phase }, { on := 22, ground := Ground.phase }], guard := none } : Oper)) (v := ?_) rfl (by kernel_rfl) (by kernel_rfl) (by kernel_rfl) (fun _ _ _ h => h) (Or.inl ⟨by rfl, ?_⟩) hHeld4 ?_
      rotate_left
      · intro w0 hS0; (try dsimp only at hS0); go_simp; try with_reducible rfl
      try simp only [Act.put, List.setIfInBounds_toArray, List.set_cons_zero, List.set_cons_succ]
      refine wpAnyH_ready (rs := [24]) (by kernel_rfl) (by simp) ?_
      refine AllReadyH.cons (o := ({ dst := none, op := Op.store 86 (Operand.tmp 69) (Operand.tmp 68), type := 0, pos := _, after := #[{ on := 23, ground := Ground.data }, { on := 22, ground := Ground.data }, { on := 22, ground := Ground.chain }, { on := 0, ground := Ground.phase }, { on := 1, ground := Ground.phase }, { on := 2, ground := Ground.phase }, { on := 3, ground := Ground.phase }, { on := 4, ground := Ground.phase }, { on := 5, ground := Ground.phase }, { on := 6, ground := Ground.phase }, { on := 7, ground := Ground.phase }, { on := 8, ground := Ground.phase }, { on := 9, ground := Ground.phase }, { on := 10, ground := Ground.phase }, { on := 11, ground := Ground.phase }, { on := 12, ground := Ground.phase }, { on := 13, ground := Ground.phase }, { on := 14, ground := Ground.phase }, { on := 15, ground := Ground.phase }, { on := 16, ground := Ground.phase }, { on := 17, ground := Ground.phase }, { on := 18, ground := Ground.phase }, { on := 19, ground := Ground.phase }, { on := 20, ground := Ground.phase }, { on := 21, ground := Ground.phase }, { on := 22, ground := Ground.phase }], guard := none } : Oper)) rfl (fun K hK => ?_) AllReadyH.nil
      go_simp
      refine hK.out _ _ ?_ (fun _ => ?_)
      · exact ⟨by rw [World.cell?_setCell_other _ _ _ _ hn1p]; exact u3, by rw [World.cell?_setCell_other _ _ _ _ hn2p]; exact u0, by rw [World.cell?_setCell_other _ _ _ _ hn3p]; exact u1⟩
      clear hK K
      refine wpAnyH_done (by kernel_rfl) ?_ _
      refine NoPanic.normal ?_
      go_wp2_with fail
      go_meet
      case rel => exact Q3.out
    · go_simp
      refine hK.out _ _ ?_ (fun hHeld2 => ?_)
      · exact ⟨a3p, a0p, a1p⟩
      clear hK K
      try simp only [Act.put, List.setIfInBounds_toArray, List.set_cons_zero, List.set_cons_succ]
      refine wpAnyH_ready (rs := [15]) (by kernel_rfl) (by simp) ?_
      refine AllReadyH.cons (o := ({ dst := some 61, op := Op.load 86 (Operand.tmp 60), type := 86, pos := _, after := #[{ on := 14, ground := Ground.data }], guard := none } : Oper)) rfl (fun K hK => ?_) AllReadyH.nil
      go_simp
      refine hK.out _ _ ?_ (fun hHeld3 => ?_)
      · exact ⟨a3p, a0p, a1p⟩
      clear hK K
      try simp only [Act.put, List.setIfInBounds_toArray, List.set_cons_zero, List.set_cons_succ]
      refine wpAnyH_ready (rs := [22]) (by kernel_rfl) (by simp) ?_
      refine AllReadyH.cons (o := ({ dst := some 68, op := Op.call { callee := Callee.builtin Builtin.append, args := #[Operand.tmp 61, Operand.tmp 67], argTypes := #[86, 86] }, type := 86, pos := _, after := #[{ on := 15, ground := Ground.data }, { on := 21, ground := Ground.data }], guard := none } : Oper)) rfl (fun K hK => ?_) AllReadyH.nil
      refine step_append_lies _ (by rfl) _ _ 86 (by rfl) 0 88 i4 _ 2 8 Tryd.underlying86 hj0 hj1 hj2 hj3 rfl (by decide) (.slice wap Kp wcp) _ (flatW (SR.watches.getD a [])) (by rfl) OWp.out ⟨W5.heap.size, 0, none⟩ 1 1 [.int .i32 (R : Int), .int .i32 (b : Int)] (by rfl) rfl (World.news_of_block NBp.out) one2 (by decide) hmxp hbyp (Nat.zero_le _) (W5.heap.size + 1) (by simp) ?_
      intro g9 cap9 w9' ho9 hg9 hat9 hlt9
      obtain ⟨u3, u0, u1, uw, q2, q3⟩ := HPp.out g9 cap9 w9' ho9 hg9 hat9
      have Q3 : Hid (∃ L', Gr2 w L n S2 cb R (a :: b :: c) d.size (w9'.setCell ⟨L1.wb, a, none⟩ (.slice (some ⟨g9, 0, none⟩) (Kp + 1) cap9)) L') := q3
      clear ho9 hg9 hat9 q3
      refine hK.out _ _ ?_ (fun hHeld4 => ?_)
      · exact ⟨u3, u0, u1⟩
      clear hK K
      try simp only [Act.put, List.setIfInBounds_toArray, List.set_cons_zero, List.set_cons_succ]
      refine wpAnyH_take (i := 23) (oi := ({ dst := some 69, op := Op.indexAddr 51 (Operand.tmp 49) (Operand.tmp 52), type := 0, pos := _, after := #[{ on := 3, ground := Ground.data }, { on := 6, ground := Ground.data }, { on := 0, ground := Ground.phase }, { on := 1, ground := Ground.phase }, { on := 2, ground := Ground.phase }, { on := 3, ground := Ground.phase }, { on := 4, ground := Ground.phase }, { on := 5, ground := Ground.phase }, { on := 6, ground := Ground.phase }, { on := 7, ground := Ground.phase }, { on := 8, ground := Ground.phase }, { on := 9, ground := Ground.phase }, { on := 10, ground := Ground.phase }, { on := 11, ground := Ground.phase }, { on := 12, ground := Ground.phase }, { on := 13, ground := Ground.phase }, { on := 14, ground := Ground.phase }, { on := 15, ground := Ground.phase }, { on := 16, ground := Ground.phase }, { on := 17, ground := Ground.phase }, { on := 18, ground := Ground.phase }, { on := 19, ground := Ground.phase }, { on := 20, ground := Ground.phase }, { on := 21, ground := Ground.phase }, { on := 22, ground := Ground.phase }], guard := none } : Oper)) (v := ?_) rfl (by kernel_rfl) (by kernel_rfl) (by kernel_rfl) (fun _ _ _ h => h) (Or.inl ⟨by rfl, ?_⟩) hHeld4 ?_
      rotate_left
      · intro w0 hS0; (try dsimp only at hS0); go_simp; try with_reducible rfl
      try simp only [Act.put, List.setIfInBounds_toArray, List.set_cons_zero, List.set_cons_succ]
      refine wpAnyH_ready (rs := [24]) (by kernel_rfl) (by simp) ?_
      refine AllReadyH.cons (o := ({ dst := none, op := Op.store 86 (Operand.tmp 69) (Operand.tmp 68), type := 0, pos := _, after := #[{ on := 23, ground := Ground.data }, { on := 22, ground := Ground.data }, { on := 22, ground := Ground.chain }, { on := 0, ground := Ground.phase }, { on := 1, ground := Ground.phase }, { on := 2, ground := Ground.phase }, { on := 3, ground := Ground.phase }, { on := 4, ground := Ground.phase }, { on := 5, ground := Ground.phase }, { on := 6, ground := Ground.phase }, { on := 7, ground := Ground.phase }, { on := 8, ground := Ground.phase }, { on := 9, ground := Ground.phase }, { on := 10, ground := Ground.phase }, { on := 11, ground := Ground.phase }, { on := 12, ground := Ground.phase }, { on := 13, ground := Ground.phase }, { on := 14, ground := Ground.phase }, { on := 15, ground := Ground.phase }, { on := 16, ground := Ground.phase }, { on := 17, ground := Ground.phase }, { on := 18, ground := Ground.phase }, { on := 19, ground := Ground.phase }, { on := 20, ground := Ground.phase }, { on := 21, ground := Ground.phase }, { on := 22, ground := Ground.phase }], guard := none } : Oper)) rfl (fun K hK => ?_) AllReadyH.nil
      go_simp
      refine hK.out _ _ ?_ (fun _ => ?_)
      · exact ⟨by rw [World.cell?_setCell_other _ _ _ _ hn1p]; exact u3, by rw [World.cell?_setCell_other _ _ _ _ hn2p]; exact u0, by rw [World.cell?_setCell_other _ _ _ _ hn3p]; exact u1⟩
      clear hK K
      refine wpAnyH_done (by kernel_rfl) ?_ _
      refine NoPanic.normal ?_
      go_wp2_with fail
      go_meet
      case rel => exact Q3.out
  case rest =>
    clear HA
    obtain ⟨L2, HA⟩ := hcut
    clear r0p f0p r1p f1p c3p cwp d0p d1p d3p dwp a0p a1p a3p awp OWp NBp HPp hmxp hbyp

    have hq := HA.out.at_
    have sbq : L2.sb = L.sb := HA.out.fr.sb
    obtain ⟨vq, evq, hwq⟩ := hq.1.wl b trivial hxb
    obtain ⟨waq, wcq, hfq⟩ := hwq.form
    obtain ⟨Kq, hKq⟩ : ∃ K, (S2.watches.getD b []).length = K := ⟨_, rfl⟩
    subst hfq
    obtain ⟨r0q, f0q, _⟩ := hq.rowcell HA.out.row HA.out.rr (i := 0) (x := a) rfl
    obtain ⟨r1q, f1q, _⟩ := hq.rowcell HA.out.row HA.out.rr (i := 1) (x := b) rfl
    have c3q : wc.cell? ⟨L.sb, 3, none⟩ = some (.slice (some ⟨L2.wb, 0, none⟩) (2 * n) (2 * n)) := by rw [← sbq]; exact hq.cell 3
    have cwq : wc.cell? ⟨L2.wb, b, none⟩ = some (.slice waq Kq wcq) := by rw [block_cell (hq.1.wt trivial).1, ← hKq]; simpa using evq
    have d0q : wc.drew.cell? ⟨cb, 0, none⟩ = some (.int .i32 (a : Int)) := r0q
    have d1q : wc.drew.cell? ⟨cb, 1, none⟩ = some (.int .i32 (b : Int)) := r1q
    have d3q : wc.drew.cell? ⟨L.sb, 3, none⟩ = some (.slice (some ⟨L2.wb, 0, none⟩) (2 * n) (2 * n)) := c3q
    have dwq : wc.drew.cell? ⟨L2.wb, b, none⟩ = some (.slice waq Kq wcq) := cwq
    have hAq : SAt (wc.alloc (.cells #[.int .i32 (R : Int), .int .i32 (a : Int)] 88)) L2 n S2 := hq.alloc _
    have a0q := (hAq.rowcell HA.out.row HA.out.rr (i := 0) (x := a) rfl).1
    have a1q := (hAq.rowcell HA.out.row HA.out.rr (i := 1) (x := b) rfl).1
    have a3q : (wc.alloc (.cells #[.int .i32 (R : Int), .int .i32 (a : Int)] 88)).cell? ⟨L.sb, 3, none⟩ = some (.slice (some ⟨L2.wb, 0, none⟩) (2 * n) (2 * n)) := by rw [← sbq]; exact hAq.cell 3
    have awq : (wc.alloc (.cells #[.int .i32 (R : Int), .int .i32 (a : Int)] 88)).cell? ⟨L2.wb, b, none⟩ = some (.slice waq Kq wcq) := by rw [block_cell (hAq.1.wt trivial).1, ← hKq]; simpa using evq
    have HWq : Hid (SAt (wc.drew.alloc (.cells #[.int .i32 (R : Int), .int .i32 (a : Int)] 88)) L2 n S2) := hq.drew.alloc _
    have HFq : Hid (Fr (fun _ => True) wc (wc.drew.alloc (.cells #[.int .i32 (R : Int), .int .i32 (a : Int)] 88))) := (Fr.refl _ wc).drew.alloc _
    have OWq : Hid ((wc.drew.alloc (.cells #[.int .i32 (R : Int), .int .i32 (a : Int)] 88)).ownsRow 0 88 2 (.slice waq Kq wcq) Kq (flatW (S2.watches.getD b []))) := by
      obtain ⟨v', e', hw'⟩ := HWq.out.1.wl b trivial hxb
      rw [evq] at e'
      cases e'
      rw [← hKq]
      exact hw'.1
    have NBq : Hid ((wc.drew.alloc (.cells #[.int .i32 (R : Int), .int .i32 (a : Int)] 88)).heap[wc.heap.size]? = some (.cells #[.int .i32 (R : Int), .int .i32 (a : Int)] 88 (0, 0))) := heap_new (by simp)
    have hKlq : Kq ≤ 4000000000 := by rw [← hKq]; exact HA.out.wl b
    have hmxq : Kq + 1 ≤ maxLen := by unfold maxLen; omega
    have hbyq : (Kq + 1) * 8 ≤ 140737488355328 := by omega
    have HPq : Hid (∀ (g cap : Nat) (w9 : World), w9.ownsRow 0 88 2 (.slice (some ⟨g, 0, none⟩) (Kq + 1) cap) (Kq + 1) (flatW (S2.watches.getD b []) ++ [.int .i32 (R : Int), .int .i32 (a : Int)]) → (wc.drew.alloc (.cells #[.int .i32 (R : Int), .int .i32 (a : Int)] 88)).grownBy w9 (Value.slice waq Kq wcq).ownBlock → ((Value.slice waq Kq wcq).ownBlock = some g ∨ g = wc.heap.size + 1) →
        w9.cell? ⟨L.sb, 3, none⟩ = some (.slice (some ⟨L2.wb, 0, none⟩) (2 * n) (2 * n)) ∧ w9.cell? ⟨cb, 0, none⟩ = some (.int .i32 (a : Int)) ∧ w9.cell? ⟨cb, 1, none⟩ = some (.int .i32 (b : Int)) ∧ w9.cell? ⟨L2.wb, b, none⟩ = some (.slice waq Kq wcq) ∧ w9.frozen? ⟨L2.wb, b, none⟩ = false ∧ ∃ L', Gr2 w L n S3 cb R (a :: b :: c) d.size (w9.setCell ⟨L2.wb, b, none⟩ (.slice (some ⟨g, 0, none⟩) (Kq + 1) cap)) L') := by
      intro g cap w9 ho hg hat
      rw [← hKq] at ho hg hat ⊢
      obtain ⟨k1, k2, k3, k4⟩ := HWq.out.app_watch HFq.out hxb (by rw [evq, hKq]) ho hg (by simpa using hat)
      obtain ⟨v', e', hw'⟩ := HWq.out.1.wl b trivial hxb
      rw [evq] at e'
      cases e'
      have kp : ∀ b', b' < (wc.drew.alloc (.cells #[.int .i32 (R : Int), .int .i32 (a : Int)] 88)).heap.size → L2.own b' ≠ (10, b) → w9.heap[b']? = (wc.drew.alloc (.cells #[.int .i32 (R : Int), .int .i32 (a : Int)] 88)).heap[b']? := fun b' hb' ht => hw'.kept hg hb' ht
      obtain ⟨s1, s2⟩ := HWq.out.1.st trivial
      obtain ⟨m1, _, m2⟩ := HWq.out.rowcell HA.out.row HA.out.rr (i := 0) (x := a) rfl
      obtain ⟨m3, _, _⟩ := HWq.out.rowcell HA.out.row HA.out.rr (i := 1) (x := b) rfl
      have e3 : w9.cell? ⟨L.sb, 3, none⟩ = some (.slice (some ⟨L2.wb, 0, none⟩) (2 * n) (2 * n)) := by rw [← sbq]; exact (World.cell?_of_block (a := ⟨L2.sb, 3, none⟩) (kp _ (block_lt s1) (by rw [s2]; simp))).trans (HWq.out.cell 3)
      have e4 := (World.cell?_of_block (a := ⟨cb, 0, none⟩) (kp _ (World.block_lt_of_cell? _ _ m1) (by rw [m2]; simp))).trans m1
      have e5 := (World.cell?_of_block (a := ⟨cb, 1, none⟩) (kp _ (World.block_lt_of_cell? _ _ m3) (by rw [m2]; simp))).trans m3
      rw [HS3.out] at k3
      exact ⟨e3, e4, e5, k1, k2, _, k3, HA.out.fr.trans k4, by rw [← HS3.out]; exact HA.out.row, HA.out.rr, fun l => by have := HW3.out l; omega⟩
    have hobq : L2.own L2.wb = (4, 0) := (hq.1.wt trivial).2
    have honq : L.sb ≠ L2.wb := fun e => by have := (hq.1.st trivial).2; rw [sbq, e, hobq] at this; cases this
    have hocq : cb ≠ L2.wb := fun e => by have := (hq.rowcell HA.out.row HA.out.rr (i := 0) (x := a) rfl).2.2; rw [e, hobq] at this; cases this
    have hn1q : (⟨L2.wb, b, none⟩ : Addr) ≠ ⟨L.sb, 3, none⟩ := fun e => honq (congrArg Addr.block e).symm
    have hn2q : (⟨L2.wb, b, none⟩ : Addr) ≠ ⟨cb, 0, none⟩ := fun e => hocq (congrArg Addr.block e).symm
    have hn3q : (⟨L2.wb, b, none⟩ : Addr) ≠ ⟨cb, 1, none⟩ := fun e => hocq (congrArg Addr.block e).symm
    clear hobq honq hocq hAq HWq HFq hwq evq hKq hKlq hq
    go_upto_region 10 with fail
    go_cut [] (fun wx => ∃ L', Hid (Gr2 w L n S3 cb R (a :: b :: c) d.size wx L'))
    case first =>
      go_wp2_with fail
      refine wp_region_noPanic ?_
      refine wp_region_held_drew (S := fun w' => w'.cell? ⟨L.sb, 3, none⟩ = some (.slice (some ⟨L2.wb, 0, none⟩) (2 * n) (2 * n)) ∧ w'.cell? ⟨cb, 0, none⟩ = some (.int .i32 (a : Int)) ∧ w'.cell? ⟨cb, 1, none⟩ = some (.int .i32 (b : Int))) (by kernel_rfl) ⟨d3q, d0q, d1q⟩ (fun hHeld => ?_)
      refine wpAnyH_take (i := 0) (oi := ({ dst := some 70, op := Op.move (Operand.tmp 0), type := 41, pos := _, after := #[], guard := none } : Oper)) (v := ?_) rfl (by kernel_rfl) (by kernel_rfl) (by kernel_rfl) (fun _ _ _ h => h) (Or.inl ⟨by rfl, ?_⟩) hHeld ?_
      rotate_left
      · intro w0 hS0; (try dsimp only at hS0); go_simp; try with_reducible rfl
      try simp only [Act.put, List.setIfInBounds_toArray, List.set_cons_zero, List.set_cons_succ]
      refine wpAnyH_take (i := 1) (oi := ({ dst := some 71, op := Op.nilCheck (Operand.tmp 70), type := 0, pos := _, after := #[{ on := 0, ground := Ground.data }], guard := none } : Oper)) (v := ?_) rfl (by kernel_rfl) (by kernel_rfl) (by kernel_rfl) (fun _ _ _ h => h) (Or.inl ⟨by rfl, ?_⟩) hHeld ?_
      rotate_left
      · intro w0 hS0; (try dsimp only at hS0); go_simp; try with_reducible rfl
      try simp only [Act.put, List.setIfInBounds_toArray, List.set_cons_zero, List.set_cons_succ]
      refine wpAnyH_take (i := 2) (oi := ({ dst := some 72, op := Op.fieldAddr 54 (Operand.tmp 71) 3, type := 0, pos := _, after := #[{ on := 1, ground := Ground.data }], guard := none } : Oper)) (v := ?_) rfl (by kernel_rfl) (by kernel_rfl) (by kernel_rfl) (fun _ _ _ h => h) (Or.inl ⟨by rfl, ?_⟩) hHeld ?_
      rotate_left
      · intro w0 hS0; (try dsimp only at hS0); go_simp; try with_reducible rfl
      try simp only [Act.put, List.setIfInBounds_toArray, List.set_cons_zero, List.set_cons_succ]
      refine wpAnyH_take (i := 3) (oi := ({ dst := some 73, op := Op.load 51 (Operand.tmp 72), type := 51, pos := _, after := #[{ on := 2, ground := Ground.data }], guard := none } : Oper)) (v := ?_) rfl (by kernel_rfl) (by kernel_rfl) (by kernel_rfl) (fun _ _ _ h => h) (Or.inl ⟨by rfl, ?_⟩) hHeld ?_
      rotate_left
      · intro w0 hS0; (try dsimp only at hS0); go_simp; try with_reducible rfl
      try simp only [Act.put, List.setIfInBounds_toArray, List.set_cons_zero, List.set_cons_succ]
      refine wpAnyH_take (i := 4) (oi := ({ dst := some 74, op := Op.move (Operand.tmp 1), type := 43, pos := _, after := #[], guard := none } : Oper)) (v := ?_) rfl (by kernel_rfl) (by kernel_rfl) (by kernel_rfl) (fun _ _ _ h => h) (Or.inl ⟨by rfl, ?_⟩) hHeld ?_
      rotate_left
      · intro w0 hS0; (try dsimp only at hS0); go_simp; try with_reducible rfl
      try simp only [Act.put, List.setIfInBounds_toArray, List.set_cons_zero, List.set_cons_succ]
      refine wpAnyH_take (i := 5) (oi := ({ dst := some 75, op := Op.indexAddr 43 (Operand.tmp 74) (Operand.const (Value.int IntKind.i64 1)), type := 0, pos := _, after := #[{ on := 4, ground := Ground.data }], guard := none } : Oper)) (v := ?_) rfl (by kernel_rfl) (by kernel_rfl) (by kernel_rfl) (fun _ _ _ h => h) (Or.inl ⟨by rfl, ?_⟩) hHeld ?_
      rotate_left
      · intro w0 hS0; (try dsimp only at hS0); go_simp; try with_reducible rfl
      try simp only [Act.put, List.setIfInBounds_toArray, List.set_cons_zero, List.set_cons_succ]
      refine wpAnyH_take (i := 6) (oi := ({ dst := some 76, op := Op.load 45 (Operand.tmp 75), type := 45, pos := _, after := #[{ on := 5, ground := Ground.data }], guard := none } : Oper)) (v := ?_) rfl (by kernel_rfl) (by kernel_rfl) (by kernel_rfl) (fun _ _ _ h => h) (Or.inl ⟨by rfl, ?_⟩) hHeld ?_
      rotate_left
      · intro w0 hS0; (try dsimp only at hS0); go_simp; try with_reducible rfl
      try simp only [Act.put, List.setIfInBounds_toArray, List.set_cons_zero, List.set_cons_succ]
      refine wpAnyH_take (i := 7) (oi := ({ dst := some 77, op := Op.move (Operand.tmp 0), type := 41, pos := _, after := #[], guard := none } : Oper)) (v := ?_) rfl (by kernel_rfl) (by kernel_rfl) (by kernel_rfl) (fun _ _ _ h => h) (Or.inl ⟨by rfl, ?_⟩) hHeld ?_
      rotate_left
      · intro w0 hS0; (try dsimp only at hS0); go_simp; try with_reducible rfl
      try simp only [Act.put, List.setIfInBounds_toArray, List.set_cons_zero, List.set_cons_succ]
      refine wpAnyH_take (i := 8) (oi := ({ dst := some 78, op := Op.nilCheck (Operand.tmp 77), type := 0, pos := _, after := #[{ on := 7, ground := Ground.data }], guard := none } : Oper)) (v := ?_) rfl (by kernel_rfl) (by kernel_rfl) (by kernel_rfl) (fun _ _ _ h => h) (Or.inl ⟨by rfl, ?_⟩) hHeld ?_
      rotate_left
      · intro w0 hS0; (try dsimp only at hS0); go_simp; try with_reducible rfl
      try simp only [Act.put, List.setIfInBounds_toArray, List.set_cons_zero, List.set_cons_succ]
      refine wpAnyH_take (i := 9) (oi := ({ dst := some 79, op := Op.fieldAddr 54 (Operand.tmp 78) 3, type := 0, pos := _, after := #[{ on := 8, ground := Ground.data }], guard := none } : Oper)) (v := ?_) rfl (by kernel_rfl) (by kernel_rfl) (by kernel_rfl) (fun _ _ _ h => h) (Or.inl ⟨by rfl, ?_⟩) hHeld ?_
      rotate_left
      · intro w0 hS0; (try dsimp only at hS0); go_simp; try with_reducible rfl
      try simp only [Act.put, List.setIfInBounds_toArray, List.set_cons_zero, List.set_cons_succ]
      refine wpAnyH_take (i := 10) (oi := ({ dst := some 80, op := Op.load 51 (Operand.tmp 79), type := 51, pos := _, after := #[{ on := 9, ground := Ground.data }], guard := none } : Oper)) (v := ?_) rfl (by kernel_rfl) (by kernel_rfl) (by kernel_rfl) (fun _ _ _ h => h) (Or.inl ⟨by rfl, ?_⟩) hHeld ?_
      rotate_left
      · intro w0 hS0; (try dsimp only at hS0); go_simp; try with_reducible rfl
      try simp only [Act.put, List.setIfInBounds_toArray, List.set_cons_zero, List.set_cons_succ]
      refine wpAnyH_take (i := 11) (oi := ({ dst := some 81, op := Op.move (Operand.tmp 1), type := 43, pos := _, after := #[], guard := none } : Oper)) (v := ?_) rfl (by kernel_rfl) (by kernel_rfl) (by kernel_rfl) (fun _ _ _ h => h) (Or.inl ⟨by rfl, ?_⟩) hHeld ?_
      rotate_left
      · intro w0 hS0; (try dsimp only at hS0); go_simp; try with_reducible rfl
      try simp only [Act.put, List.setIfInBounds_toArray, List.set_cons_zero, List.set_cons_succ]
      refine wpAnyH_take (i := 12) (oi := ({ dst := some 82, op := Op.indexAddr 43 (Operand.tmp 81) (Operand.const (Value.int IntKind.i64 1)), type := 0, pos := _, after := #[{ on := 11, ground := Ground.data }], guard := none } : Oper)) (v := ?_) rfl (by kernel_rfl) (by kernel_rfl) (by kernel_rfl) (fun _ _ _ h => h) (Or.inl ⟨by rfl, ?_⟩) hHeld ?_
      rotate_left
      · intro w0 hS0; (try dsimp only at hS0); go_simp; try with_reducible rfl
      try simp only [Act.put, List.setIfInBounds_toArray, List.set_cons_zero, List.set_cons_succ]
      refine wpAnyH_take (i := 13) (oi := ({ dst := some 83, op := Op.load 45 (Operand.tmp 82), type := 45, pos := _, after := #[{ on := 12, ground := Ground.data }], guard := none } : Oper)) (v := ?_) rfl (by kernel_rfl) (by kernel_rfl) (by kernel_rfl) (fun _ _ _ h => h) (Or.inl ⟨by rfl, ?_⟩) hHeld ?_
      rotate_left
      · intro w0 hS0; (try dsimp only at hS0); go_simp; try with_reducible rfl
      try simp only [Act.put, List.setIfInBounds_toArray, List.set_cons_zero, List.set_cons_succ]
      refine wpAnyH_take (i := 14) (oi := ({ dst := some 84, op := Op.indexAddr 51 (Operand.tmp 80) (Operand.tmp 83), type := 0, pos := _, after := #[{ on := 10, ground := Ground.data }, { on := 13, ground := Ground.data }], guard := none } : Oper)) (v := ?_) rfl (by kernel_rfl) (by kernel_rfl) (by kernel_rfl) (fun _ _ _ h => h) (Or.inl ⟨by rfl, ?_⟩) hHeld ?_
      rotate_left
      · intro w0 hS0; (try dsimp only at hS0); go_simp; try with_reducible rfl
      try simp only [Act.put, List.setIfInBounds_toArray, List.set_cons_zero, List.set_cons_succ]
      refine wpAnyH_take (i := 16) (oi := ({ dst := some 86, op := Op.move (Operand.tmp 5), type := 21, pos := _, after := #[], guard := none } : Oper)) (v := ?_) rfl (by kernel_rfl) (by kernel_rfl) (by kernel_rfl) (fun _ _ _ h => h) (Or.inl ⟨by rfl, ?_⟩) hHeld ?_
      rotate_left
      · intro w0 hS0; (try dsimp only at hS0); go_simp; try with_reducible rfl
      try simp only [Act.put, List.setIfInBounds_toArray, List.set_cons_zero, List.set_cons_succ]
      refine wpAnyH_take (i := 17) (oi := ({ dst := some 87, op := Op.move (Operand.tmp 1), type := 43, pos := _, after := #[], guard := none } : Oper)) (v := ?_) rfl (by kernel_rfl) (by kernel_rfl) (by kernel_rfl) (fun _ _ _ h => h) (Or.inl ⟨by rfl, ?_⟩) hHeld ?_
      rotate_left
      · intro w0 hS0; (try dsimp only at hS0); go_simp; try with_reducible rfl
      try simp only [Act.put, List.setIfInBounds_toArray, List.set_cons_zero, List.set_cons_succ]
      refine wpAnyH_take (i := 18) (oi := ({ dst := some 88, op := Op.indexAddr 43 (Operand.tmp 87) (Operand.const (Value.int IntKind.i64 0)), type := 0, pos := _, after := #[{ on := 17, ground := Ground.data }], guard := none } : Oper)) (v := ?_) rfl (by kernel_rfl) (by kernel_rfl) (by kernel_rfl) (fun _ _ _ h => h) (Or.inl ⟨by rfl, ?_⟩) hHeld ?_
      rotate_left
      · intro w0 hS0; (try dsimp only at hS0); go_simp; try with_reducible rfl
      try simp only [Act.put, List.setIfInBounds_toArray, List.set_cons_zero, List.set_cons_succ]
      refine wpAnyH_take (i := 19) (oi := ({ dst := some 89, op := Op.load 45 (Operand.tmp 88), type := 45, pos := _, after := #[{ on := 18, ground := Ground.data }], guard := none } : Oper)) (v := ?_) rfl (by kernel_rfl) (by kernel_rfl) (by kernel_rfl) (fun _ _ _ h => h) (Or.inl ⟨by rfl, ?_⟩) hHeld ?_
      rotate_left
      · intro w0 hS0; (try dsimp only at hS0); go_simp; try with_reducible rfl
      try simp only [Act.put, List.setIfInBounds_toArray, List.set_cons_zero, List.set_cons_succ]
      refine wpAnyH_take (i := 20) (oi := ({ dst := some 90, op := Op.build 88 #[(0, Operand.tmp 86), (1, Operand.tmp 89)], type := 88, pos := _, after := #[{ on := 16, ground := Ground.data }, { on := 19, ground := Ground.data }], guard := none } : Oper)) (v := ?_) rfl (by kernel_rfl) (by kernel_rfl) (by kernel_rfl) (fun _ _ _ h => h) (Or.inl ⟨by rfl, ?_⟩) hHeld ?_
      rotate_left
      · intro w0 hS0; (try dsimp only at hS0); go_simp; try with_reducible rfl
      try simp only [Act.put, List.setIfInBounds_toArray, List.set_cons_zero, List.set_cons_succ]
      refine wpAnyH_ready (rs := [15, 21]) (by kernel_rfl) (by simp) ?_
      refine AllReadyH.cons (o := ({ dst := some 85, op := Op.load 86 (Operand.tmp 84), type := 86, pos := _, after := #[{ on := 14, ground := Ground.data }], guard := none } : Oper)) rfl (fun K hK => ?_) (AllReadyH.cons (o := ({ dst := some 91, op := Op.buildSlice 86 1 #[(0, Operand.tmp 90)], type := 86, pos := _, after := #[{ on := 20, ground := Ground.data }], guard := none } : Oper)) rfl (fun K hK => ?_) AllReadyH.nil)
      · go_simp
        refine hK.out _ _ ?_ (fun hHeld2 => ?_)
        · exact ⟨d3q, d0q, d1q⟩
        clear hK K
        try simp only [Act.put, List.setIfInBounds_toArray, List.set_cons_zero, List.set_cons_succ]
        refine wpAnyH_ready (rs := [21]) (by kernel_rfl) (by simp) ?_
        refine AllReadyH.cons (o := ({ dst := some 91, op := Op.buildSlice 86 1 #[(0, Operand.tmp 90)], type := 86, pos := _, after := #[{ on := 20, ground := Ground.data }], guard := none } : Oper)) rfl (fun K hK => ?_) AllReadyH.nil
        go_simp
        refine hK.out _ _ ?_ (fun hHeld3 => ?_)
        · exact ⟨a3q, a0q, a1q⟩
        clear hK K
        try simp only [Act.put, List.setIfInBounds_toArray, List.set_cons_zero, List.set_cons_succ]
        refine wpAnyH_ready (rs := [22]) (by kernel_rfl) (by simp) ?_
        refine AllReadyH.cons (o := ({ dst := some 92, op := Op.call { callee := Callee.builtin Builtin.append, args := #[Operand.tmp 85, Operand.tmp 91], argTypes := #[86, 86] }, type := 86, pos := _, after := #[{ on := 15, ground := Ground.data }, { on := 21, ground := Ground.data }], guard := none } : Oper)) rfl (fun K hK => ?_) AllReadyH.nil
        refine step_append_lies _ (by rfl) _ _ 86 (by rfl) 0 88 i4 _ 2 8 Tryd.underlying86 hj0 hj1 hj2 hj3 rfl (by decide) (.slice waq Kq wcq) _ (flatW (S2.watches.getD b [])) (by rfl) OWq.out ⟨wc.heap.size, 0, none⟩ 1 1 [.int .i32 (R : Int), .int .i32 (a : Int)] (by rfl) rfl (World.news_of_block NBq.out) one2 (by decide) hmxq hbyq (Nat.zero_le _) (wc.heap.size + 1) (by simp) ?_
        intro g9 cap9 w9' ho9 hg9 hat9 hlt9
        obtain ⟨u3, u0, u1, uw, q2, q3⟩ := HPq.out g9 cap9 w9' ho9 hg9 hat9
        have Q3 : Hid (∃ L', Gr2 w L n S3 cb R (a :: b :: c) d.size (w9'.setCell ⟨L2.wb, b, none⟩ (.slice (some ⟨g9, 0, none⟩) (Kq + 1) cap9)) L') := q3
        clear ho9 hg9 hat9 q3
        refine hK.out _ _ ?_ (fun hHeld4 => ?_)
        · exact ⟨u3, u0, u1⟩
        clear hK K
        try simp only [Act.put, List.setIfInBounds_toArray, List.set_cons_zero, List.set_cons_succ]
        refine wpAnyH_take (i := 23) (oi := ({ dst := some 93, op := Op.indexAddr 51 (Operand.tmp 73) (Operand.tmp 76), type := 0, pos := _, after := #[{ on := 3, ground := Ground.data }, { on := 6, ground := Ground.data }, { on := 0, ground := Ground.phase }, { on := 1, ground := Ground.phase }, { on := 2, ground := Ground.phase }, { on := 3, ground := Ground.phase }, { on := 4, ground := Ground.phase }, { on := 5, ground := Ground.phase }, { on := 6, ground := Ground.phase }, { on := 7, ground := Ground.phase }, { on := 8, ground := Ground.phase }, { on := 9, ground := Ground.phase }, { on := 10, ground := Ground.phase }, { on := 11, ground := Ground.phase }, { on := 12, ground := Ground.phase }, { on := 13, ground := Ground.phase }, { on := 14, ground := Ground.phase }, { on := 15, ground := Ground.phase }, { on := 16, ground := Ground.phase }, { on := 17, ground := Ground.phase }, { on := 18, ground := Ground.phase }, { on := 19, ground := Ground.phase }, { on := 20, ground := Ground.phase }, { on := 21, ground := Ground.phase }, { on := 22, ground := Ground.phase }], guard := none } : Oper)) (v := ?_) rfl (by kernel_rfl) (by kernel_rfl) (by kernel_rfl) (fun _ _ _ h => h) (Or.inl ⟨by rfl, ?_⟩) hHeld4 ?_
        rotate_left
        · intro w0 hS0; (try dsimp only at hS0); go_simp; try with_reducible rfl
        try simp only [Act.put, List.setIfInBounds_toArray, List.set_cons_zero, List.set_cons_succ]
        refine wpAnyH_ready (rs := [24]) (by kernel_rfl) (by simp) ?_
        refine AllReadyH.cons (o := ({ dst := none, op := Op.store 86 (Operand.tmp 93) (Operand.tmp 92), type := 0, pos := _, after := #[{ on := 23, ground := Ground.data }, { on := 22, ground := Ground.data }, { on := 22, ground := Ground.chain }, { on := 0, ground := Ground.phase }, { on := 1, ground := Ground.phase }, { on := 2, ground := Ground.phase }, { on := 3, ground := Ground.phase }, { on := 4, ground := Ground.phase }, { on := 5, ground := Ground.phase }, { on := 6, ground := Ground.phase }, { on := 7, ground := Ground.phase }, { on := 8, ground := Ground.phase }, { on := 9, ground := Ground.phase }, { on := 10, ground := Ground.phase }, { on := 11, ground := Ground.phase }, { on := 12, ground := Ground.phase }, { on := 13, ground := Ground.phase }, { on := 14, ground := Ground.phase }, { on := 15, ground := Ground.phase }, { on := 16, ground := Ground.phase }, { on := 17, ground := Ground.phase }, { on := 18, ground := Ground.phase }, { on := 19, ground := Ground.phase }, { on := 20, ground := Ground.phase }, { on := 21, ground := Ground.phase }, { on := 22, ground := Ground.phase }], guard := none } : Oper)) rfl (fun K hK => ?_) AllReadyH.nil
        go_simp
        refine hK.out _ _ ?_ (fun _ => ?_)
        · exact ⟨by rw [World.cell?_setCell_other _ _ _ _ hn1q]; exact u3, by rw [World.cell?_setCell_other _ _ _ _ hn2q]; exact u0, by rw [World.cell?_setCell_other _ _ _ _ hn3q]; exact u1⟩
        clear hK K
        refine wpAnyH_done (by kernel_rfl) ?_ _
        refine NoPanic.normal ?_
        go_wp2_with fail
        go_meet
        case rel => exact Q3.out
      · go_simp
        refine hK.out _ _ ?_ (fun hHeld2 => ?_)
        · exact ⟨a3q, a0q, a1q⟩
        clear hK K
        try simp only [Act.put, List.setIfInBounds_toArray, List.set_cons_zero, List.set_cons_succ]
        refine wpAnyH_ready (rs := [15]) (by kernel_rfl) (by simp) ?_
        refine AllReadyH.cons (o := ({ dst := some 85, op := Op.load 86 (Operand.tmp 84), type := 86, pos := _, after := #[{ on := 14, ground := Ground.data }], guard := none } : Oper)) rfl (fun K hK => ?_) AllReadyH.nil
        go_simp
        refine hK.out _ _ ?_ (fun hHeld3 => ?_)
        · exact ⟨a3q, a0q, a1q⟩
        clear hK K
        try simp only [Act.put, List.setIfInBounds_toArray, List.set_cons_zero, List.set_cons_succ]
        refine wpAnyH_ready (rs := [22]) (by kernel_rfl) (by simp) ?_
        refine AllReadyH.cons (o := ({ dst := some 92, op := Op.call { callee := Callee.builtin Builtin.append, args := #[Operand.tmp 85, Operand.tmp 91], argTypes := #[86, 86] }, type := 86, pos := _, after := #[{ on := 15, ground := Ground.data }, { on := 21, ground := Ground.data }], guard := none } : Oper)) rfl (fun K hK => ?_) AllReadyH.nil
        refine step_append_lies _ (by rfl) _ _ 86 (by rfl) 0 88 i4 _ 2 8 Tryd.underlying86 hj0 hj1 hj2 hj3 rfl (by decide) (.slice waq Kq wcq) _ (flatW (S2.watches.getD b [])) (by rfl) OWq.out ⟨wc.heap.size, 0, none⟩ 1 1 [.int .i32 (R : Int), .int .i32 (a : Int)] (by rfl) rfl (World.news_of_block NBq.out) one2 (by decide) hmxq hbyq (Nat.zero_le _) (wc.heap.size + 1) (by simp) ?_
        intro g9 cap9 w9' ho9 hg9 hat9 hlt9
        obtain ⟨u3, u0, u1, uw, q2, q3⟩ := HPq.out g9 cap9 w9' ho9 hg9 hat9
        have Q3 : Hid (∃ L', Gr2 w L n S3 cb R (a :: b :: c) d.size (w9'.setCell ⟨L2.wb, b, none⟩ (.slice (some ⟨g9, 0, none⟩) (Kq + 1) cap9)) L') := q3
        clear ho9 hg9 hat9 q3
        refine hK.out _ _ ?_ (fun hHeld4 => ?_)
        · exact ⟨u3, u0, u1⟩
        clear hK K
        try simp only [Act.put, List.setIfInBounds_toArray, List.set_cons_zero, List.set_cons_succ]
        refine wpAnyH_take (i := 23) (oi := ({ dst := some 93, op := Op.indexAddr 51 (Operand.tmp 73) (Operand.tmp 76), type := 0, pos := _, after := #[{ on := 3, ground := Ground.data }, { on := 6, ground := Ground.data }, { on := 0, ground := Ground.phase }, { on := 1, ground := Ground.phase }, { on := 2, ground := Ground.phase }, { on := 3, ground := Ground.phase }, { on := 4, ground := Ground.phase }, { on := 5, ground := Ground.phase }, { on := 6, ground := Ground.phase }, { on := 7, ground := Ground.phase }, { on := 8, ground := Ground.phase }, { on := 9, ground := Ground.phase }, { on := 10, ground := Ground.phase }, { on := 11, ground := Ground.phase }, { on := 12, ground := Ground.phase }, { on := 13, ground := Ground.phase }, { on := 14, ground := Ground.phase }, { on := 15, ground := Ground.phase }, { on := 16, ground := Ground.phase }, { on := 17, ground := Ground.phase }, { on := 18, ground := Ground.phase }, { on := 19, ground := Ground.phase }, { on := 20, ground := Ground.phase }, { on := 21, ground := Ground.phase }, { on := 22, ground := Ground.phase }], guard := none } : Oper)) (v := ?_) rfl (by kernel_rfl) (by kernel_rfl) (by kernel_rfl) (fun _ _ _ h => h) (Or.inl ⟨by rfl, ?_⟩) hHeld4 ?_
        rotate_left
        · intro w0 hS0; (try dsimp only at hS0); go_simp; try with_reducible rfl
        try simp only [Act.put, List.setIfInBounds_toArray, List.set_cons_zero, List.set_cons_succ]
        refine wpAnyH_ready (rs := [24]) (by kernel_rfl) (by simp) ?_
        refine AllReadyH.cons (o := ({ dst := none, op := Op.store 86 (Operand.tmp 93) (Operand.tmp 92), type := 0, pos := _, after := #[{ on := 23, ground := Ground.data }, { on := 22, ground := Ground.data }, { on := 22, ground := Ground.chain }, { on := 0, ground := Ground.phase }, { on := 1, ground := Ground.phase }, { on := 2, ground := Ground.phase }, { on := 3, ground := Ground.phase }, { on := 4, ground := Ground.phase }, { on := 5, ground := Ground.phase }, { on := 6, ground := Ground.phase }, { on := 7, ground := Ground.phase }, { on := 8, ground := Ground.phase }, { on := 9, ground := Ground.phase }, { on := 10, ground := Ground.phase }, { on := 11, ground := Ground.phase }, { on := 12, ground := Ground.phase }, { on := 13, ground := Ground.phase }, { on := 14, ground := Ground.phase }, { on := 15, ground := Ground.phase }, { on := 16, ground := Ground.phase }, { on := 17, ground := Ground.phase }, { on := 18, ground := Ground.phase }, { on := 19, ground := Ground.phase }, { on := 20, ground := Ground.phase }, { on := 21, ground := Ground.phase }, { on := 22, ground := Ground.phase }], guard := none } : Oper)) rfl (fun K hK => ?_) AllReadyH.nil
        go_simp
        refine hK.out _ _ ?_ (fun _ => ?_)
        · exact ⟨by rw [World.cell?_setCell_other _ _ _ _ hn1q]; exact u3, by rw [World.cell?_setCell_other _ _ _ _ hn2q]; exact u0, by rw [World.cell?_setCell_other _ _ _ _ hn3q]; exact u1⟩
        clear hK K
        refine wpAnyH_done (by kernel_rfl) ?_ _
        refine NoPanic.normal ?_
        go_wp2_with fail
        go_meet
        case rel => exact Q3.out
    case rest =>
      clear HA
      obtain ⟨L3, HA⟩ := hcut
      go_wp2_with fail
      go_ret
      exact ⟨rfl, L3, HA.out.at_, HA.out.fr, fun k e => by
        have e' : (R : Int) = (k : Int) := e
        have e2 : R = k := by omega
        subst e2
        exact ⟨_, _, HA.out.rr⟩⟩

end Go.Proofs.YtbicefgjompnoaaDoor.Sx
