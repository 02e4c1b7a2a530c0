/- The program: settle. -/
import Derived.Test.YtbicefgjompnoaaA30
import Derived.Test.YtbicefgjompnoaaA31
namespace Go.Proofs.Ytbicefgjompnoaa.Sx
open Go.RowKit Go.Sort

/-- the rows of one literal are put anew -/
theorem SAt.putS {W w' : World} {L : Ly} {n : Nat} {s : St} (h : SAt W L n s) (f : Fr (fun b => L.own b ≠ (3, 0)) W w') {v' : Value} {l : List Nat} (ho : OwnR w' L.own (3, 0) 21 1 v' l.length (v32 l)) :
    w'.cell? ⟨L.sb, 1, none⟩ = some L.sv ∧ w'.frozen? ⟨L.sb, 1, none⟩ = false ∧ SAt (w'.setCell ⟨L.sb, 1, none⟩ v') { L with sv := v' } n { s with single := l } ∧ FrS L { L with sv := v' } W (w'.setCell ⟨L.sb, 1, none⟩ v') := by
  have h1 : SAtK (· ≠ (3, 0)) w' L n s := (h.1.mono (K' := (· ≠ (3, 0))) fun _ _ => trivial).fr fun b hb hne => f.block b hb hne
  obtain ⟨h2, h3⟩ := h1.st (by decide)
  obtain ⟨k1, k2, k3⟩ := h1.setSt (by decide) 1 v'
  refine ⟨by rw [block_cell h2]; rfl, frozen_block h2 1, ⟨⟨fun _ => ⟨k2, k3⟩, fun _ => k1.wt (by decide), fun _ => k1.tr (by decide), fun _ => k1.wy (by decide), fun _ => k1.dp (by decide), fun _ => k1.ro (by decide), fun _ => ?_, fun _ => k1.ta (by decide), fun _ => k1.cu (by decide), fun l _ => k1.wl l (by simp), fun r _ => k1.rl r (by simp)⟩, ⟨h.2.n_, h.2.tr, h.2.wy, h.2.dp, h.2.wt, h.2.wv, h.2.rr, h.2.t3, h.2.lit, h.2.few, h.2.rows⟩⟩, ?_⟩
  · exact ho.fr fun b _ hk => Below.heap_setCell w' ⟨L.sb, 1, none⟩ _ b (fun e => by rw [show b = L.sb from e, h3] at hk; cases hk)
  · refine ⟨f.os, f.tape, f.output, by have := f.size; simpa using this, fun b hb hz => ?_, fun _ _ => rfl, rfl⟩
    rw [Below.heap_setCell w' ⟨L.sb, 1, none⟩ _ b (fun e => by rw [show b = L.sb from e, h3] at hz; cases hz)]
    exact f.block b hb (by rw [hz]; decide)

/-- what begin comes to, of a book -/
theorem beg_of {w w' : World} {L : Ly} {n : Nat} {s : St} {e : Ending} (hB : BB n s) (h : BegS w L n (LkI n) (freshS s) e w') : ∃ (s' : St) (b : Bool) (L' : Ly), e = .returned (.bool b) ∧ SAt w' L' n s' ∧ FrS L L' w w' ∧ BI n s' b (!b) ∧ SC s s' := by
  rcases h with ⟨h1, rfl, L', h2, h3⟩ | ⟨h1, h2, rfl, L', h3, h4⟩ | ⟨h1, h2, k, r, h3, _, rfl, L', h4, h5⟩
  · exact ⟨_, false, L', rfl, h2, h3, settle_empty hB h1, RP.refl _, rfl⟩
  · obtain ⟨q1, q2⟩ := settle_single hB h2
    exact ⟨_, false, L', rfl, h3, h4, q1, q2⟩
  · obtain ⟨q1, q2⟩ := settle_follow hB h1 h2 h3
    exact ⟨r.1, _, L', rfl, h4, h5, q1, q2⟩

theorem FrX.set {cb : Nat} {L L' : Ly} {w w' : World} (h : FrX cb L L' w w') (i : Nat) (v : Value) : FrX cb L L' w (w'.setCell ⟨cb, i, none⟩ v) :=
  ⟨h.os, h.tape, h.output, by have := h.size; simpa using this, fun b hb hne ho => (Below.heap_setCell w' ⟨cb, i, none⟩ v b (fun e => hne e)).trans (h.block b hb hne ho), h.own, h.sb⟩
theorem FrX.drew {cb : Nat} {L L' : Ly} {w w' : World} (h : FrX cb L L' w w') : FrX cb L L' w w'.drew := ⟨h.os, h.tape, h.output, h.size, h.block, h.own, h.sb⟩
/-- what settle comes to -/
def SetlPost (w : World) (L : Ly) (n : Nat) (s : St) (bb : Nat) (mv : Value) (e : Ending) (w' : World) : Prop :=
  e = .returned (.tuple #[]) ∧ ∃ (L' : Ly) (s' : St) (b : Bool), BkAt w' L' n s' bb b (!b) mv ∧ BI n s' b (!b) ∧ SC s s' ∧ FrX bb L L' w w'

set_option maxRecDepth 100000 in
set_option maxHeartbeats 8000000 in
theorem settle_go (w : World) (L : Ly) (n : Nat) (s : St) (bb : Nat) (mv : Value) (h : BkAt w L n s bb false false mv) (hI : BB n s) (hem : s.empty ≤ 1000000000000) :
    Calls Try.prog 37 #[.pointer (some ⟨bb, 0, none⟩)] w (SetlPost w L n s bb mv) := by
  have mo := follows
  have hmf : ∀ (fn : Fn) (first cap : Array Value) (w : World), (Instr.makeFunc fn first cap).run Try.prog w = .ok (.func fn first cap) w := fun _ _ _ _ => rfl
  -- the box
  obtain ⟨px, hpx⟩ : ∃ px, w.heap.size = px := ⟨_, rfl⟩
  have hA := h.at_.frl (P := fun _ => True) (W' := w.alloc (.cells #[.pointer (some ⟨bb, 0, none⟩)] 40)) ((Fr.refl _ w).alloc _) (fun b q => absurd trivial q)
  have hbW : (w.alloc (.cells #[.pointer (some ⟨bb, 0, none⟩)] 40)).heap[bb]? = some (.cells #[.pointer (some ⟨L.sb, 0, none⟩), .bool false, .bool false, mv] 63 (0, 0)) := (heap_alloc_old w _ (block_lt h.bk)).trans h.bk
  have hpW : (w.alloc (.cells #[.pointer (some ⟨bb, 0, none⟩)] 40)).heap[px]? = some (.cells #[.pointer (some ⟨bb, 0, none⟩)] 40 (0, 0)) := heap_new hpx
  have hbp : bb < px := by rw [← hpx]; exact block_lt h.bk
  have c1 : (w.alloc (.cells #[.pointer (some ⟨bb, 0, none⟩)] 40)).cell? ⟨px, 0, none⟩ = some (.pointer (some ⟨bb, 0, none⟩)) := by rw [block_cell hpW]; rfl
  have c2 : (w.alloc (.cells #[.pointer (some ⟨bb, 0, none⟩)] 40)).cell? ⟨bb, 0, none⟩ = some (.pointer (some ⟨L.sb, 0, none⟩)) := by rw [block_cell hbW]; rfl
  have c3 : (w.alloc (.cells #[.pointer (some ⟨bb, 0, none⟩)] 40)).cell? ⟨bb, 1, none⟩ = some (.bool false) := by rw [block_cell hbW]; rfl
  have c4 : (w.alloc (.cells #[.pointer (some ⟨bb, 0, none⟩)] 40)).cell? ⟨bb, 2, none⟩ = some (.bool false) := by rw [block_cell hbW]; rfl
  have HFG : Hid (Calls Try.prog 56 #[.pointer (some ⟨L.sb, 0, none⟩), .int .i64 0] (w.alloc (.cells #[.pointer (some ⟨bb, 0, none⟩)] 40)) (StPost (w.alloc (.cells #[.pointer (some ⟨bb, 0, none⟩)] 40)) (nrm L w.heap.size) n (forgetP s 0) (.tuple #[]))) := forget_any _ _ n s 0 hA (Nat.zero_le _) hI.dn
  go_enter Try.func37, Try.ntmps37
  go_upto_region 3 with (go_at_call 56; refine HFG.out.mono ?_; rintro e W1 ⟨rfl, L1, h1, f1⟩)
  have hsz : (w.alloc (.cells #[.pointer (some ⟨bb, 0, none⟩)] 40)).heap.size = px + 1 := by simp [hpx]
  have s1 : L1.sb = L.sb := f1.sb
  have o1b : L1.own bb = (0, 0) := (f1.own bb (by omega)).trans (nrm_zero fun _ => h.ow)
  have o1p : L1.own px = (0, 0) := (f1.own px (by omega)).trans (nrm_new (by omega))
  have hb1 := (f1.block bb (by omega) (nrm_zero fun _ => h.ow)).trans hbW
  have hp1 := (f1.block px (by omega) (nrm_new (by omega))).trans hpW
  have X1 : FrX bb L L1 w W1 := (show FrX bb L (nrm L w.heap.size) w (w.alloc (.cells #[.pointer (some ⟨bb, 0, none⟩)] 40)) from ⟨rfl, rfl, rfl, by simp, fun b hb _ _ => heap_alloc_old w _ hb, fun b hb _ => nrm_old hb, rfl⟩).trans f1
  obtain ⟨sa, sc, hsv⟩ := (h1.1.si trivial).form
  have hsv' : L1.sv = .slice sa s.single.length sc := hsv
  have d1 : W1.drew.cell? ⟨px, 0, none⟩ = some (.pointer (some ⟨bb, 0, none⟩)) := by show W1.cell? _ = _; rw [block_cell hp1]; rfl
  have d2 : W1.drew.cell? ⟨bb, 0, none⟩ = some (.pointer (some ⟨L.sb, 0, none⟩)) := by show W1.cell? _ = _; rw [block_cell hb1]; rfl
  have d3 : W1.drew.cell? ⟨L.sb, 1, none⟩ = some (.slice sa s.single.length sc) := by rw [← s1]; have := h1.drew.cell 1; simp only [stC, hsv'] at this; exact this
  have hRf : RW (forgetP s 0) := ⟨hI.R.one, hI.R.all1, hI.R.no0, hI.R.nd, hI.R.lt⟩
  have hdl := delete_any W1.drew L1 n (forgetP s 0) px bb sc sa h1.drew hRf d1 (by rw [s1]; exact d2) o1p o1b hsv'
  have hbl : bb ≠ L.sb := fun e => by have := (h1.1.st trivial).2; rw [s1, ← e, o1b] at this; cases this
  have hpl : px ≠ L.sb := fun e => by have := (h1.1.st trivial).2; rw [s1, ← e, o1p] at this; cases this
  have HDEL : Hid (Calls Try.prog 57 #[.slice sa s.single.length sc, .func (.func 58) #[] #[.pointer (some ⟨px, 0, none⟩)]] W1.drew fun e w9 => e = .returned (.slice sa (liveS s).length sc) ∧ w9.cell? ⟨px, 0, none⟩ = some (.pointer (some ⟨bb, 0, none⟩)) ∧ w9.cell? ⟨bb, 0, none⟩ = some (.pointer (some ⟨L.sb, 0, none⟩)) ∧ w9.cell? ⟨L.sb, 1, none⟩ = some (.slice sa s.single.length sc) ∧ w9.frozen? ⟨L.sb, 1, none⟩ = false ∧ ∃ L2, SAt (w9.setCell ⟨L.sb, 1, none⟩ (.slice sa (liveS s).length sc)) L2 n (freshS s) ∧ FrS L1 L2 W1.drew (w9.setCell ⟨L.sb, 1, none⟩ (.slice sa (liveS s).length sc))) := hdl.mono fun e w9 q => by
    obtain ⟨z1, z2, z3, z4⟩ := h1.drew.putS q.fr (v' := .slice sa (liveS s).length sc) q.ow
    rw [s1] at z1 z2 z3 z4
    have hk : ∀ b, b < W1.heap.size → L1.own b = (0, 0) → w9.heap[b]? = W1.heap[b]? := fun b hb ho => q.fr.block b hb (by rw [ho]; decide)
    refine ⟨q.e_, ?_, ?_, by rw [z1, hsv'], z2, _, z3, z4⟩
    · rw [block_cell ((hk px (block_lt hp1) o1p).trans hp1)]; rfl
    · rw [block_cell ((hk bb (block_lt hb1) o1b).trans hb1)]; rfl
  have hn1 : (⟨L.sb, 1, none⟩ : Addr) ≠ ⟨px, 0, none⟩ := fun e => hpl (congrArg Addr.block e).symm
  have hn2 : (⟨L.sb, 1, none⟩ : Addr) ≠ ⟨bb, 0, none⟩ := fun e => hbl (congrArg Addr.block e).symm
  have HX1 : Hid (FrX bb L L1 w W1.drew) := X1.drew
  have HK1 : Hid (W1.heap[bb]? = some (.cells #[.pointer (some ⟨L.sb, 0, none⟩), .bool false, .bool false, mv] 63 (0, 0)) ∧ W1.heap[px]? = some (.cells #[.pointer (some ⟨bb, 0, none⟩)] 40 (0, 0)) ∧ L1.own bb = (0, 0) ∧ L1.own px = (0, 0)) := ⟨hb1, hp1, o1b, o1p⟩
  have HB0 : Hid (BB n s) := hI
  clear X1 hdl hb1 hp1 hbW hpW hA h1 f1 hsv hsv' c1 c2 c3 c4 HFG h hRf hI o1b o1p s1
  generalize s.single.length = m at d3 HDEL
  generalize hlm : (liveS s).length = lm at HDEL
  refine wp_region_noPanic ?_
  refine wp_region_held_drew (S := fun w' => w'.cell? ⟨px, 0, none⟩ = some (.pointer (some ⟨bb, 0, none⟩)) ∧ w'.cell? ⟨bb, 0, none⟩ = some (.pointer (some ⟨L.sb, 0, none⟩))) (by kernel_rfl) ⟨d1, d2⟩ (fun hHeld => ?_)
  refine wpAnyH_take (i := 0) (oi := ({ dst := some 17, op := Op.load 40 (Operand.tmp 1), type := 40, pos := _, after := #[], guard := none } : Oper)) (v := ?_) rfl (by kernel_rfl) (by kernel_rfl) (by kernel_rfl) (fun _ _ _ h => h) (Or.inl ⟨by rfl, ?_⟩) hHeld ?_
  rotate_left
  · intro w0 hS0; (try dsimp only at hS0); go_simp; try with_reducible rfl
  try simp only [Act.put, List.setIfInBounds_toArray, List.set_cons_zero, List.set_cons_succ]
  refine wpAnyH_take (i := 1) (oi := ({ dst := some 18, op := Op.nilCheck (Operand.tmp 17), type := 0, pos := _, after := #[{ on := 0, ground := Ground.data }], guard := none } : Oper)) (v := ?_) rfl (by kernel_rfl) (by kernel_rfl) (by kernel_rfl) (fun _ _ _ h => h) (Or.inl ⟨by rfl, ?_⟩) hHeld ?_
  rotate_left
  · intro w0 hS0; (try dsimp only at hS0); go_simp; try with_reducible rfl
  try simp only [Act.put, List.setIfInBounds_toArray, List.set_cons_zero, List.set_cons_succ]
  refine wpAnyH_take (i := 2) (oi := ({ dst := some 19, op := Op.fieldAddr 63 (Operand.tmp 18) 0, type := 0, pos := _, after := #[{ on := 1, ground := Ground.data }], guard := none } : Oper)) (v := ?_) rfl (by kernel_rfl) (by kernel_rfl) (by kernel_rfl) (fun _ _ _ h => h) (Or.inl ⟨by rfl, ?_⟩) hHeld ?_
  rotate_left
  · intro w0 hS0; (try dsimp only at hS0); go_simp; try with_reducible rfl
  try simp only [Act.put, List.setIfInBounds_toArray, List.set_cons_zero, List.set_cons_succ]
  refine wpAnyH_take (i := 3) (oi := ({ dst := some 20, op := Op.load 42 (Operand.tmp 19), type := 42, pos := _, after := #[{ on := 2, ground := Ground.data }], guard := none } : Oper)) (v := ?_) rfl (by kernel_rfl) (by kernel_rfl) (by kernel_rfl) (fun _ _ _ h => h) (Or.inl ⟨by rfl, ?_⟩) hHeld ?_
  rotate_left
  · intro w0 hS0; (try dsimp only at hS0); go_simp; try with_reducible rfl
  try simp only [Act.put, List.setIfInBounds_toArray, List.set_cons_zero, List.set_cons_succ]
  refine wpAnyH_take (i := 4) (oi := ({ dst := some 21, op := Op.load 40 (Operand.tmp 1), type := 40, pos := _, after := #[], guard := none } : Oper)) (v := ?_) rfl (by kernel_rfl) (by kernel_rfl) (by kernel_rfl) (fun _ _ _ h => h) (Or.inl ⟨by rfl, ?_⟩) hHeld ?_
  rotate_left
  · intro w0 hS0; (try dsimp only at hS0); go_simp; try with_reducible rfl
  try simp only [Act.put, List.setIfInBounds_toArray, List.set_cons_zero, List.set_cons_succ]
  refine wpAnyH_take (i := 5) (oi := ({ dst := some 22, op := Op.nilCheck (Operand.tmp 21), type := 0, pos := _, after := #[{ on := 4, ground := Ground.data }], guard := none } : Oper)) (v := ?_) rfl (by kernel_rfl) (by kernel_rfl) (by kernel_rfl) (fun _ _ _ h => h) (Or.inl ⟨by rfl, ?_⟩) hHeld ?_
  rotate_left
  · intro w0 hS0; (try dsimp only at hS0); go_simp; try with_reducible rfl
  try simp only [Act.put, List.setIfInBounds_toArray, List.set_cons_zero, List.set_cons_succ]
  refine wpAnyH_take (i := 6) (oi := ({ dst := some 23, op := Op.fieldAddr 63 (Operand.tmp 22) 0, type := 0, pos := _, after := #[{ on := 5, ground := Ground.data }], guard := none } : Oper)) (v := ?_) rfl (by kernel_rfl) (by kernel_rfl) (by kernel_rfl) (fun _ _ _ h => h) (Or.inl ⟨by rfl, ?_⟩) hHeld ?_
  rotate_left
  · intro w0 hS0; (try dsimp only at hS0); go_simp; try with_reducible rfl
  try simp only [Act.put, List.setIfInBounds_toArray, List.set_cons_zero, List.set_cons_succ]
  refine wpAnyH_take (i := 7) (oi := ({ dst := some 24, op := Op.load 42 (Operand.tmp 23), type := 42, pos := _, after := #[{ on := 6, ground := Ground.data }], guard := none } : Oper)) (v := ?_) rfl (by kernel_rfl) (by kernel_rfl) (by kernel_rfl) (fun _ _ _ h => h) (Or.inl ⟨by rfl, ?_⟩) hHeld ?_
  rotate_left
  · intro w0 hS0; (try dsimp only at hS0); go_simp; try with_reducible rfl
  try simp only [Act.put, List.setIfInBounds_toArray, List.set_cons_zero, List.set_cons_succ]
  refine wpAnyH_take (i := 8) (oi := ({ dst := some 25, op := Op.nilCheck (Operand.tmp 24), type := 0, pos := _, after := #[{ on := 7, ground := Ground.data }], guard := none } : Oper)) (v := ?_) rfl (by kernel_rfl) (by kernel_rfl) (by kernel_rfl) (fun _ _ _ h => h) (Or.inl ⟨by rfl, ?_⟩) hHeld ?_
  rotate_left
  · intro w0 hS0; (try dsimp only at hS0); go_simp; try with_reducible rfl
  try simp only [Act.put, List.setIfInBounds_toArray, List.set_cons_zero, List.set_cons_succ]
  refine wpAnyH_take (i := 9) (oi := ({ dst := some 26, op := Op.fieldAddr 77 (Operand.tmp 25) 1, type := 0, pos := _, after := #[{ on := 8, ground := Ground.data }], guard := none } : Oper)) (v := ?_) rfl (by kernel_rfl) (by kernel_rfl) (by kernel_rfl) (fun _ _ _ h => h) (Or.inl ⟨by rfl, ?_⟩) hHeld ?_
  rotate_left
  · intro w0 hS0; (try dsimp only at hS0); go_simp; try with_reducible rfl
  try simp only [Act.put, List.setIfInBounds_toArray, List.set_cons_zero, List.set_cons_succ]
  refine wpAnyH_take (i := 11) (oi := ({ dst := some 28, op := Op.makeFunc (Fn.func 58) #[] #[Operand.tmp 1], type := 79, pos := _, after := #[], guard := none } : Oper)) (v := ?_) rfl (by kernel_rfl) (by kernel_rfl) (by kernel_rfl) (fun _ _ _ h => h) (Or.inl ⟨by rfl, ?_⟩) hHeld ?_
  rotate_left
  · intro w0 hS0; (try dsimp only at hS0); go_simp; try with_reducible rfl
  try simp only [Act.put, List.setIfInBounds_toArray, List.set_cons_zero, List.set_cons_succ]
  refine wpAnyH_ready (rs := [10]) (by kernel_rfl) (by simp) ?_
  refine AllReadyH.cons (o := ({ dst := some 27, op := Op.load 56 (Operand.tmp 26), type := 56, pos := _, after := #[{ on := 9, ground := Ground.data }], guard := none } : Oper)) rfl (fun KK hK => ?_) AllReadyH.nil
  go_simp
  refine hK.out _ _ ?_ (fun hHeld2 => ?_)
  · exact ⟨d1, d2⟩
  clear hK KK
  try simp only [Act.put, List.setIfInBounds_toArray, List.set_cons_zero, List.set_cons_succ]
  refine wpAnyH_ready (rs := [12]) (by kernel_rfl) (by simp) ?_
  refine AllReadyH.cons (o := ({ dst := some 29, op := Op.call { callee := Callee.value (Operand.func 57), args := #[Operand.tmp 27, Operand.tmp 28], argTypes := #[56, 79] }, type := 56, pos := _, after := #[{ on := 10, ground := Ground.data }, { on := 11, ground := Ground.data }], guard := none } : Oper)) rfl (fun KK hK => ?_) AllReadyH.nil
  go_simp
  refine HDEL.out.mono ?_
  rintro e w9 ⟨rfl, k1, k2, k3, k4, k5⟩
  refine hK.out _ _ ?_ (fun hHeld3 => ?_)
  · exact ⟨k1, k2⟩
  clear hK KK
  try simp only [Act.put, List.setIfInBounds_toArray, List.set_cons_zero, List.set_cons_succ]
  refine wpAnyH_take (i := 13) (oi := ({ dst := some 30, op := Op.nilCheck (Operand.tmp 20), type := 0, pos := _, after := #[{ on := 3, ground := Ground.data }, { on := 0, ground := Ground.phase }, { on := 1, ground := Ground.phase }, { on := 2, ground := Ground.phase }, { on := 3, ground := Ground.phase }, { on := 4, ground := Ground.phase }, { on := 5, ground := Ground.phase }, { on := 6, ground := Ground.phase }, { on := 7, ground := Ground.phase }, { on := 8, ground := Ground.phase }, { on := 9, ground := Ground.phase }, { on := 10, ground := Ground.phase }, { on := 11, ground := Ground.phase }, { on := 12, ground := Ground.phase }], guard := none } : Oper)) (v := ?_) rfl (by kernel_rfl) (by kernel_rfl) (by kernel_rfl) (fun _ _ _ h => h) (Or.inl ⟨by rfl, ?_⟩) hHeld3 ?_
  rotate_left
  · intro w0 hS0; (try dsimp only at hS0); go_simp; try with_reducible rfl
  try simp only [Act.put, List.setIfInBounds_toArray, List.set_cons_zero, List.set_cons_succ]
  refine wpAnyH_take (i := 14) (oi := ({ dst := some 31, op := Op.fieldAddr 77 (Operand.tmp 30) 1, type := 0, pos := _, after := #[{ on := 13, ground := Ground.data }, { on := 0, ground := Ground.phase }, { on := 1, ground := Ground.phase }, { on := 2, ground := Ground.phase }, { on := 3, ground := Ground.phase }, { on := 4, ground := Ground.phase }, { on := 5, ground := Ground.phase }, { on := 6, ground := Ground.phase }, { on := 7, ground := Ground.phase }, { on := 8, ground := Ground.phase }, { on := 9, ground := Ground.phase }, { on := 10, ground := Ground.phase }, { on := 11, ground := Ground.phase }, { on := 12, ground := Ground.phase }], guard := none } : Oper)) (v := ?_) rfl (by kernel_rfl) (by kernel_rfl) (by kernel_rfl) (fun _ _ _ h => h) (Or.inl ⟨by rfl, ?_⟩) hHeld3 ?_
  rotate_left
  · intro w0 hS0; (try dsimp only at hS0); go_simp; try with_reducible rfl
  try simp only [Act.put, List.setIfInBounds_toArray, List.set_cons_zero, List.set_cons_succ]
  refine wpAnyH_ready (rs := [15]) (by kernel_rfl) (by simp) ?_
  refine AllReadyH.cons (o := ({ dst := none, op := Op.store 56 (Operand.tmp 31) (Operand.tmp 29), type := 0, pos := _, after := #[{ on := 14, ground := Ground.data }, { on := 12, ground := Ground.data }, { on := 12, ground := Ground.chain }, { on := 0, ground := Ground.phase }, { on := 1, ground := Ground.phase }, { on := 2, ground := Ground.phase }, { on := 3, ground := Ground.phase }, { on := 4, ground := Ground.phase }, { on := 5, ground := Ground.phase }, { on := 6, ground := Ground.phase }, { on := 7, ground := Ground.phase }, { on := 8, ground := Ground.phase }, { on := 9, ground := Ground.phase }, { on := 10, ground := Ground.phase }, { on := 11, ground := Ground.phase }, { on := 12, ground := Ground.phase }], guard := none } : Oper)) rfl (fun KK hK => ?_) AllReadyH.nil
  go_simp
  refine hK.out _ _ ?_ (fun _ => ?_)
  · exact ⟨by rw [World.cell?_setCell_other _ _ _ _ hn1]; exact k1, by rw [World.cell?_setCell_other _ _ _ _ hn2]; exact k2⟩
  clear hK KK
  refine wpAnyH_done (by kernel_rfl) ?_ _
  refine NoPanic.normal ?_
  obtain ⟨L2, z3, z4⟩ := k5
  have hb3 : (w9.setCell ⟨L.sb, 1, none⟩ (.slice sa lm sc)).heap[bb]? = some (.cells #[.pointer (some ⟨L.sb, 0, none⟩), .bool false, .bool false, mv] 63 (0, 0)) := (z4.block bb (block_lt HK1.out.1) HK1.out.2.2.1).trans HK1.out.1
  have hp3 : (w9.setCell ⟨L.sb, 1, none⟩ (.slice sa lm sc)).heap[px]? = some (.cells #[.pointer (some ⟨bb, 0, none⟩)] 40 (0, 0)) := (z4.block px (block_lt HK1.out.2.1) HK1.out.2.2.2).trans HK1.out.2.1
  have o2b : L2.own bb = (0, 0) := (z4.own bb (block_lt HK1.out.1)).trans HK1.out.2.2.1
  have o2p : L2.own px = (0, 0) := (z4.own px (block_lt HK1.out.2.1)).trans HK1.out.2.2.2
  have X2 := HX1.out.trans z4
  clear z4 HX1 HK1 k1 k2 k3 k4 HDEL d1 d2 d3 hlm
  generalize w9.setCell ⟨L.sb, 1, none⟩ (.slice sa lm sc) = W3 at z3 hb3 hp3 X2 ⊢
  go_wp2_with fail
  have hB := HB0.out
  have s2 : L2.sb = L.sb := X2.sb
  have hfs := freshS_SF hB
  have hbg := begin_any W3.drew L2 n (freshS s) (LkI n) (lookOK n) z3.drew hfs.I.tr (fun r hr => by
    obtain ⟨l, hl⟩ := liveS_one hB.R r hr
    exact ⟨l, [], hl, hB.I.lit r [l] hl l (by simp)⟩) (by show s.cuts.length ≤ 1000; rw [hB.cu]; simp) hfs.dn (fun _ => singles_I hB) hem (by have := (freshS_RW hB.R).few; have := hfs.I.rw_; omega)
  rw [s2] at hbg
  have HBEG : Hid (Calls Try.prog 59 #[.pointer (some ⟨L.sb, 0, none⟩)] W3.drew fun e w9 => ∃ sr, e = .returned (.bool sr) ∧ w9.cell? ⟨px, 0, none⟩ = some (.pointer (some ⟨bb, 0, none⟩)) ∧ w9.cell? ⟨bb, 0, none⟩ = some (.pointer (some ⟨L.sb, 0, none⟩)) ∧ w9.cell? ⟨bb, 1, none⟩ = some (.bool false) ∧ w9.frozen? ⟨bb, 1, none⟩ = false ∧ ∃ L3 s3, SAt w9 L3 n s3 ∧ FrX bb L L3 w w9 ∧ BI n s3 sr (!sr) ∧ SC s s3 ∧ L3.own bb = (0, 0) ∧ w9.heap[bb]? = some (.cells #[.pointer (some ⟨L.sb, 0, none⟩), .bool false, .bool false, mv] 63 (0, 0)) ∧ w9.heap[px]? = some (.cells #[.pointer (some ⟨bb, 0, none⟩)] 40 (0, 0))) := hbg.mono fun e w9 q => by
    obtain ⟨s3, sr, L3, q1, q2, q3, q4, q5⟩ := beg_of hB q
    have hb9 := (q3.block bb (block_lt hb3) o2b).trans hb3
    have hp9 := (q3.block px (block_lt hp3) o2p).trans hp3
    exact ⟨sr, q1, by rw [block_cell hp9]; rfl, by rw [block_cell hb9]; rfl, by rw [block_cell hb9]; rfl, frozen_block hb9 1, L3, s3, q2, X2.drew.trans q3, q4, q5, (q3.own bb (block_lt hb3)).trans o2b, hb9, hp9⟩
  have d1 : W3.drew.cell? ⟨px, 0, none⟩ = some (.pointer (some ⟨bb, 0, none⟩)) := by show W3.cell? _ = _; rw [block_cell hp3]; rfl
  have d2 : W3.drew.cell? ⟨bb, 0, none⟩ = some (.pointer (some ⟨L.sb, 0, none⟩)) := by show W3.cell? _ = _; rw [block_cell hb3]; rfl
  have hm1 : (⟨bb, 1, none⟩ : Addr) ≠ ⟨px, 0, none⟩ := fun e => by have : bb = px := congrArg Addr.block e; omega
  have hm2 : (⟨bb, 1, none⟩ : Addr) ≠ ⟨bb, 0, none⟩ := fun e => by have : 1 = 0 := congrArg Addr.off e; omega
  have hm3 : (⟨bb, 2, none⟩ : Addr) ≠ ⟨px, 0, none⟩ := fun e => by have : bb = px := congrArg Addr.block e; omega
  have hm4 : (⟨bb, 2, none⟩ : Addr) ≠ ⟨bb, 1, none⟩ := fun e => by have : 2 = 1 := congrArg Addr.off e; omega
  clear hbg hfs z3 X2 hb3 hp3 o2b o2p hB
  refine wp_region_noPanic ?_
  refine wp_region_held_drew (S := fun w' => w'.cell? ⟨px, 0, none⟩ = some (.pointer (some ⟨bb, 0, none⟩)) ∧ w'.cell? ⟨bb, 0, none⟩ = some (.pointer (some ⟨L.sb, 0, none⟩))) (by kernel_rfl) ⟨d1, d2⟩ (fun hHeld => ?_)
  refine wpAnyH_take (i := 0) (oi := ({ dst := some 32, op := Op.load 40 (Operand.tmp 1), type := 40, pos := _, after := #[], guard := none } : Oper)) (v := ?_) rfl (by kernel_rfl) (by kernel_rfl) (by kernel_rfl) (fun _ _ _ h => h) (Or.inl ⟨by rfl, ?_⟩) hHeld ?_
  rotate_left
  · intro w0 hS0; (try dsimp only at hS0); go_simp; try with_reducible rfl
  try simp only [Act.put, List.setIfInBounds_toArray, List.set_cons_zero, List.set_cons_succ]
  refine wpAnyH_take (i := 1) (oi := ({ dst := some 33, op := Op.load 40 (Operand.tmp 1), type := 40, pos := _, after := #[], guard := none } : Oper)) (v := ?_) rfl (by kernel_rfl) (by kernel_rfl) (by kernel_rfl) (fun _ _ _ h => h) (Or.inl ⟨by rfl, ?_⟩) hHeld ?_
  rotate_left
  · intro w0 hS0; (try dsimp only at hS0); go_simp; try with_reducible rfl
  try simp only [Act.put, List.setIfInBounds_toArray, List.set_cons_zero, List.set_cons_succ]
  refine wpAnyH_take (i := 2) (oi := ({ dst := some 34, op := Op.nilCheck (Operand.tmp 33), type := 0, pos := _, after := #[{ on := 1, ground := Ground.data }], guard := none } : Oper)) (v := ?_) rfl (by kernel_rfl) (by kernel_rfl) (by kernel_rfl) (fun _ _ _ h => h) (Or.inl ⟨by rfl, ?_⟩) hHeld ?_
  rotate_left
  · intro w0 hS0; (try dsimp only at hS0); go_simp; try with_reducible rfl
  try simp only [Act.put, List.setIfInBounds_toArray, List.set_cons_zero, List.set_cons_succ]
  refine wpAnyH_take (i := 3) (oi := ({ dst := some 35, op := Op.fieldAddr 63 (Operand.tmp 34) 0, type := 0, pos := _, after := #[{ on := 2, ground := Ground.data }], guard := none } : Oper)) (v := ?_) rfl (by kernel_rfl) (by kernel_rfl) (by kernel_rfl) (fun _ _ _ h => h) (Or.inl ⟨by rfl, ?_⟩) hHeld ?_
  rotate_left
  · intro w0 hS0; (try dsimp only at hS0); go_simp; try with_reducible rfl
  try simp only [Act.put, List.setIfInBounds_toArray, List.set_cons_zero, List.set_cons_succ]
  refine wpAnyH_take (i := 4) (oi := ({ dst := some 36, op := Op.load 42 (Operand.tmp 35), type := 42, pos := _, after := #[{ on := 3, ground := Ground.data }], guard := none } : Oper)) (v := ?_) rfl (by kernel_rfl) (by kernel_rfl) (by kernel_rfl) (fun _ _ _ h => h) (Or.inl ⟨by rfl, ?_⟩) hHeld ?_
  rotate_left
  · intro w0 hS0; (try dsimp only at hS0); go_simp; try with_reducible rfl
  try simp only [Act.put, List.setIfInBounds_toArray, List.set_cons_zero, List.set_cons_succ]
  refine wpAnyH_ready (rs := [5]) (by kernel_rfl) (by simp) ?_
  refine AllReadyH.cons (o := ({ dst := some 37, op := Op.call { callee := Callee.value (Operand.func 59), args := #[Operand.tmp 36], argTypes := #[42] }, type := 4, pos := _, after := #[{ on := 4, ground := Ground.data }], guard := none } : Oper)) rfl (fun KK hK => ?_) AllReadyH.nil
  go_simp
  refine HBEG.out.mono ?_
  rintro e w9 ⟨sr, rfl, k1, k2, k3, kz, k4⟩
  refine hK.out _ _ ?_ (fun hHeld3 => ?_)
  · exact ⟨k1, k2⟩
  clear hK KK
  try simp only [Act.put, List.setIfInBounds_toArray, List.set_cons_zero, List.set_cons_succ]
  refine wpAnyH_take (i := 6) (oi := ({ dst := some 38, op := Op.nilCheck (Operand.tmp 32), type := 0, pos := _, after := #[{ on := 0, ground := Ground.data }, { on := 0, ground := Ground.phase }, { on := 1, ground := Ground.phase }, { on := 2, ground := Ground.phase }, { on := 3, ground := Ground.phase }, { on := 4, ground := Ground.phase }, { on := 5, ground := Ground.phase }], guard := none } : Oper)) (v := ?_) rfl (by kernel_rfl) (by kernel_rfl) (by kernel_rfl) (fun _ _ _ h => h) (Or.inl ⟨by rfl, ?_⟩) hHeld3 ?_
  rotate_left
  · intro w0 hS0; (try dsimp only at hS0); go_simp; try with_reducible rfl
  try simp only [Act.put, List.setIfInBounds_toArray, List.set_cons_zero, List.set_cons_succ]
  refine wpAnyH_take (i := 7) (oi := ({ dst := some 39, op := Op.fieldAddr 63 (Operand.tmp 38) 1, type := 0, pos := _, after := #[{ on := 6, ground := Ground.data }, { on := 0, ground := Ground.phase }, { on := 1, ground := Ground.phase }, { on := 2, ground := Ground.phase }, { on := 3, ground := Ground.phase }, { on := 4, ground := Ground.phase }, { on := 5, ground := Ground.phase }], guard := none } : Oper)) (v := ?_) rfl (by kernel_rfl) (by kernel_rfl) (by kernel_rfl) (fun _ _ _ h => h) (Or.inl ⟨by rfl, ?_⟩) hHeld3 ?_
  rotate_left
  · intro w0 hS0; (try dsimp only at hS0); go_simp; try with_reducible rfl
  try simp only [Act.put, List.setIfInBounds_toArray, List.set_cons_zero, List.set_cons_succ]
  refine wpAnyH_ready (rs := [8]) (by kernel_rfl) (by simp) ?_
  refine AllReadyH.cons (o := ({ dst := none, op := Op.store 4 (Operand.tmp 39) (Operand.tmp 37), type := 0, pos := _, after := #[{ on := 7, ground := Ground.data }, { on := 5, ground := Ground.data }, { on := 5, ground := Ground.chain }, { on := 0, ground := Ground.phase }, { on := 1, ground := Ground.phase }, { on := 2, ground := Ground.phase }, { on := 3, ground := Ground.phase }, { on := 4, ground := Ground.phase }, { on := 5, ground := Ground.phase }], guard := none } : Oper)) rfl (fun KK hK => ?_) AllReadyH.nil
  go_simp
  refine hK.out _ _ ?_ (fun _ => ?_)
  · exact ⟨by rw [World.cell?_setCell_other _ _ _ _ hm1]; exact k1, by rw [World.cell?_setCell_other _ _ _ _ hm2]; exact k2⟩
  clear hK KK
  refine wpAnyH_done (by kernel_rfl) ?_ _
  refine NoPanic.normal ?_
  obtain ⟨L3, s3, q2, q3, q4, q5, q6, hb9, hp9⟩ := k4
  have hs3 : L3.sb = L.sb := q3.sb
  have hb5 := set_block hb9 1 (.bool sr)
  have hp5 : (w9.setCell ⟨bb, 1, none⟩ (.bool sr)).heap[px]? = some (.cells #[.pointer (some ⟨bb, 0, none⟩)] 40 (0, 0)) := (Below.heap_setCell w9 ⟨bb, 1, none⟩ _ px (by show px ≠ bb; omega)).trans hp9
  have A5 := q2.offSet q6 1 (.bool sr)
  have X5 := q3.set 1 (.bool sr)
  clear q2 q3 hb9 hp9 k1 k2 k3 kz HBEG d1 d2
  generalize w9.setCell ⟨bb, 1, none⟩ (.bool sr) = W5 at hb5 hp5 A5 X5 ⊢
  have d1 : W5.drew.cell? ⟨px, 0, none⟩ = some (.pointer (some ⟨bb, 0, none⟩)) := by show W5.cell? _ = _; rw [block_cell hp5]; rfl
  have d2 : W5.drew.cell? ⟨bb, 1, none⟩ = some (.bool sr) := by show W5.cell? _ = _; rw [block_cell hb5]; rfl
  have d4 : W5.drew.cell? ⟨bb, 2, none⟩ = some (.bool false) := by show W5.cell? _ = _; rw [block_cell hb5]; rfl
  have d5 : W5.drew.frozen? ⟨bb, 2, none⟩ = false := frozen_block (w := W5) hb5 2
  have HEND : Hid (SetlPost w L n s bb mv (.returned (.tuple #[])) (W5.drew.setCell ⟨bb, 2, none⟩ (.bool (!sr)))) := ⟨rfl, L3, s3, sr, ⟨A5.drew.offSet q6 2 _, by have := set_block (w := W5.drew) hb5 2 (.bool (!sr)); rw [this, hs3]; rfl, q6⟩, q4, q5, X5.drew.set 2 _⟩
  clear hb5 hp5 A5 X5 q4 q5 q6
  go_wp2_with fail
  refine wp_region_noPanic ?_
  refine wp_region_held_drew (S := fun w' => w'.cell? ⟨px, 0, none⟩ = some (.pointer (some ⟨bb, 0, none⟩)) ∧ w'.cell? ⟨bb, 1, none⟩ = some (.bool sr)) (by kernel_rfl) ⟨d1, d2⟩ (fun hHeld => ?_)
  refine wpAnyH_take (i := 0) (oi := ({ dst := some 40, op := Op.load 40 (Operand.tmp 1), type := 40, pos := _, after := #[], guard := none } : Oper)) (v := ?_) rfl (by kernel_rfl) (by kernel_rfl) (by kernel_rfl) (fun _ _ _ h => h) (Or.inl ⟨by rfl, ?_⟩) hHeld ?_
  rotate_left
  · intro w0 hS0; (try dsimp only at hS0); go_simp; try with_reducible rfl
  try simp only [Act.put, List.setIfInBounds_toArray, List.set_cons_zero, List.set_cons_succ]
  refine wpAnyH_take (i := 1) (oi := ({ dst := some 41, op := Op.load 40 (Operand.tmp 1), type := 40, pos := _, after := #[], guard := none } : Oper)) (v := ?_) rfl (by kernel_rfl) (by kernel_rfl) (by kernel_rfl) (fun _ _ _ h => h) (Or.inl ⟨by rfl, ?_⟩) hHeld ?_
  rotate_left
  · intro w0 hS0; (try dsimp only at hS0); go_simp; try with_reducible rfl
  try simp only [Act.put, List.setIfInBounds_toArray, List.set_cons_zero, List.set_cons_succ]
  refine wpAnyH_take (i := 2) (oi := ({ dst := some 42, op := Op.nilCheck (Operand.tmp 41), type := 0, pos := _, after := #[{ on := 1, ground := Ground.data }], guard := none } : Oper)) (v := ?_) rfl (by kernel_rfl) (by kernel_rfl) (by kernel_rfl) (fun _ _ _ h => h) (Or.inl ⟨by rfl, ?_⟩) hHeld ?_
  rotate_left
  · intro w0 hS0; (try dsimp only at hS0); go_simp; try with_reducible rfl
  try simp only [Act.put, List.setIfInBounds_toArray, List.set_cons_zero, List.set_cons_succ]
  refine wpAnyH_take (i := 3) (oi := ({ dst := some 43, op := Op.fieldAddr 63 (Operand.tmp 42) 1, type := 0, pos := _, after := #[{ on := 2, ground := Ground.data }], guard := none } : Oper)) (v := ?_) rfl (by kernel_rfl) (by kernel_rfl) (by kernel_rfl) (fun _ _ _ h => h) (Or.inl ⟨by rfl, ?_⟩) hHeld ?_
  rotate_left
  · intro w0 hS0; (try dsimp only at hS0); go_simp; try with_reducible rfl
  try simp only [Act.put, List.setIfInBounds_toArray, List.set_cons_zero, List.set_cons_succ]
  refine wpAnyH_take (i := 4) (oi := ({ dst := some 44, op := Op.load 4 (Operand.tmp 43), type := 4, pos := _, after := #[{ on := 3, ground := Ground.data }], guard := none } : Oper)) (v := ?_) rfl (by kernel_rfl) (by kernel_rfl) (by kernel_rfl) (fun _ _ _ h => h) (Or.inl ⟨by rfl, ?_⟩) hHeld ?_
  rotate_left
  · intro w0 hS0; (try dsimp only at hS0); go_simp; try with_reducible rfl
  try simp only [Act.put, List.setIfInBounds_toArray, List.set_cons_zero, List.set_cons_succ]
  refine wpAnyH_take (i := 5) (oi := ({ dst := some 45, op := Op.unOp UnOp.not 4 (Operand.tmp 44), type := 4, pos := _, after := #[{ on := 4, ground := Ground.data }], guard := none } : Oper)) (v := ?_) rfl (by kernel_rfl) (by kernel_rfl) (by kernel_rfl) (fun _ _ _ h => h) (Or.inl ⟨by rfl, ?_⟩) hHeld ?_
  rotate_left
  · intro w0 hS0; (try dsimp only at hS0); go_simp; try with_reducible rfl
  try simp only [Act.put, List.setIfInBounds_toArray, List.set_cons_zero, List.set_cons_succ]
  refine wpAnyH_take (i := 6) (oi := ({ dst := some 46, op := Op.nilCheck (Operand.tmp 40), type := 0, pos := _, after := #[{ on := 0, ground := Ground.data }, { on := 0, ground := Ground.phase }, { on := 1, ground := Ground.phase }, { on := 2, ground := Ground.phase }, { on := 3, ground := Ground.phase }, { on := 4, ground := Ground.phase }, { on := 5, ground := Ground.phase }], guard := none } : Oper)) (v := ?_) rfl (by kernel_rfl) (by kernel_rfl) (by kernel_rfl) (fun _ _ _ h => h) (Or.inl ⟨by rfl, ?_⟩) hHeld ?_
  rotate_left
  · intro w0 hS0; (try dsimp only at hS0); go_simp; try with_reducible rfl
  try simp only [Act.put, List.setIfInBounds_toArray, List.set_cons_zero, List.set_cons_succ]
  refine wpAnyH_take (i := 7) (oi := ({ dst := some 47, op := Op.fieldAddr 63 (Operand.tmp 46) 2, type := 0, pos := _, after := #[{ on := 6, ground := Ground.data }, { on := 0, ground := Ground.phase }, { on := 1, ground := Ground.phase }, { on := 2, ground := Ground.phase }, { on := 3, ground := Ground.phase }, { on := 4, ground := Ground.phase }, { on := 5, ground := Ground.phase }], guard := none } : Oper)) (v := ?_) rfl (by kernel_rfl) (by kernel_rfl) (by kernel_rfl) (fun _ _ _ h => h) (Or.inl ⟨by rfl, ?_⟩) hHeld ?_
  rotate_left
  · intro w0 hS0; (try dsimp only at hS0); go_simp; try with_reducible rfl
  try simp only [Act.put, List.setIfInBounds_toArray, List.set_cons_zero, List.set_cons_succ]
  refine wpAnyH_ready (rs := [8]) (by kernel_rfl) (by simp) ?_
  refine AllReadyH.cons (o := ({ dst := none, op := Op.store 4 (Operand.tmp 47) (Operand.tmp 45), type := 0, pos := _, after := #[{ on := 7, ground := Ground.data }, { on := 5, ground := Ground.data }, { on := 0, ground := Ground.phase }, { on := 1, ground := Ground.phase }, { on := 2, ground := Ground.phase }, { on := 3, ground := Ground.phase }, { on := 4, ground := Ground.phase }, { on := 5, ground := Ground.phase }], guard := none } : Oper)) rfl (fun KK hK => ?_) AllReadyH.nil
  go_simp
  refine hK.out _ _ ?_ (fun _ => ?_)
  · exact ⟨(World.cell?_setCell_other W5 _ _ _ hm3).trans d1, (World.cell?_setCell_other W5 _ _ _ hm4).trans d2⟩
  clear hK KK
  refine wpAnyH_done (by kernel_rfl) ?_ _
  refine NoPanic.normal ?_
  go_wp2_with fail
  go_end0
  exact HEND.out

end Go.Proofs.Ytbicefgjompnoaa.Sx
