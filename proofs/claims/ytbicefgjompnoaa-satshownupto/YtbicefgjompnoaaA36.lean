/- The program: drop, of a clause with literals. -/
import Derived.Test.YtbicefgjompnoaaA35
namespace Go.Proofs.Ytbicefgjompnoaa.Sx
open Go.RowKit Go.Sort Go.Maps Go.Lib

theorem run_slice1 (W : World) (g off n cap : Nat) : (Instr.slice 56 (.slice (some ⟨g, off, none⟩) (n + 1) cap) (some (.int .i64 1)) none none).run Try.prog W = .ok (.slice (some ⟨g, if cap = 1 then off else off + 1, none⟩) n (cap - 1)) W := by
  have ht : Try.prog.underlying 56 = some (.slice (Try.prog.elem 56)) := by simp [Program.elem, Try.underlying56]
  have he : Try.prog.elem 56 = 21 := by simp [Program.elem, Try.underlying56]
  obtain ⟨i0, hi0, _, hz1, _⟩ := info21
  have hz : (sizeOf 21).run Try.prog W = .ok 1 W := by simp [sizeOf, typeInfo, hi0, hz1]
  rw [run_slice_l W 56 _ _ _ ht .i64 1 (by omega) (by omega), he, hz]
  have hadd : (⟨g, off, none⟩ : Addr).add 1 = ⟨g, off + 1, none⟩ := Addr.add_lit _ _ _
  have e1 : ((1 : Int).toNat) = 1 := rfl
  simp only [Result.andThen, sliced, e1, Nat.mul_one, Option.map_some, hadd, Nat.add_sub_cancel]
  by_cases q : cap = 1
  · rw [if_pos q, if_pos q]
  · rw [if_neg q, if_neg q]

set_option maxRecDepth 100000 in
set_option maxHeartbeats 8000000 in
theorem drop_some (w : World) (L : Ly) (n : Nat) (t : St) (bb cb : Nat) (sure never : Bool) (mv : Value) (P : Nat → Prop) (c : List Nat) (d : Array Nat) (h : BkAt w L n t bb sure never mv) (hI : BI n t sure never) (hb : (sure && never) = false) (hM : MvAt w P t.rows mv) (hPb : ∀ b, P b → b ≠ bb) (hPo : ∀ b, P b → L.own b = (0, 0))
    (hrow : LRow w cb d) (htk : d.toList.take c.length = c) (hdz : d.size ≤ 4294967296) (hcb : cb ≠ bb) (hcP : ¬ P cb) (hasc : Asc c) (hne : 0 < c.length) (hcl : ∀ x ∈ c, x < 2 * n) (cap : Nat) :
    Calls Try.prog 17 #[.pointer (some ⟨bb, 0, none⟩), .slice (some ⟨cb, 0, none⟩) c.length cap] w (DropPost w L n t bb P c) := by
  have mo := follows
  have hn := h.at_.2.n_
  have hrows := h.at_.2.rows
  have hcd : c.length ≤ d.size := by
    have := congrArg List.length htk
    rw [List.length_take] at this
    have e2 : d.toList.length = d.size := by simp
    omega
  have hcs : ∀ x ∈ c, x < 33554434 := fun x hx => by have := hcl x hx; omega
  have hcn : c ≠ [] := fun e => by rw [e] at hne; simp at hne
  have hl0 : ((c.length : Int) == 0) = false := by rw [beq_eq_false_iff_ne]; omega
  obtain ⟨ra, rc, hrv⟩ := (h.at_.1.ro trivial).form
  have HGA : Hid (Calls _ _ _ _ _) := gather_any w L n t bb sure never mv P h hI.b hM hPb hPo
  have hbl := block_lt h.bk
  have hPP : ∀ b, P b ∨ w.heap.size ≤ b → b ≠ bb := fun b q e => by
    rcases q with q | q
    · exact hPb b q e
    · omega
  have hbo : L.own bb = (0, 0) := h.ow
  go_enter Try.func17, Try.ntmps17
  go_wp2_with fail
  go_at_call 34
  refine HGA.out.mono ?_
  rintro e w1 ⟨rfl, m, F, hK1, hS1, hF1⟩
  have hr1 : LRow w1 cb d := (hF1.block cb (block_lt hrow) ⟨hcP, hcb⟩).trans hrow
  have HKE : Hid (Calls _ _ _ _ _) := key_any w1 cb cap c d hr1 htk hcs (by omega)
  clear HGA h hM
  go_wp2_with fail
  go_at_call 35
  refine HKE.out.mono ?_
  rintro e w2 ⟨rfl, hF2⟩
  obtain ⟨K, hK⟩ : ∃ K, keyB c = K := ⟨_, rfl⟩
  rw [hK]
  have hKm : K.size ≤ maxLen := by rw [← hK, keyB_size]; unfold maxLen; omega
  have hK2 : BkAt w2 (nrm L w.heap.size) n t bb sure never (.map (some m)) := hK1.far hF2 (fun b _ q => absurd trivial q) trivial
  have hS2 : SameAt w2 (fun b => P b ∨ w.heap.size ≤ b) (fun _ => True) t.rows m F := hS1.fr (fun b hb _ => hF2.block b hb trivial) (fun _ _ q => q) fun _ _ => Iff.rfl
  have hF02 : Fr (fun b => ¬ P b ∧ b ≠ bb) w w2 := hF1.trans2 hF2 fun _ _ _ => trivial
  obtain ⟨V, hV⟩ : ∃ V, F K = V := ⟨_, rfl⟩
  have hlk : (Instr.lookup 61 (.map (some m)) (.string K) false).run Try.prog w2 = .ok V w2 := by rw [← hV]; exact hS2.mp.look hKm
  obtain ⟨l, hl1, hl2, hl3⟩ := hS2.rw_ K
  rw [hV] at hl1
  have c3 : w2.cell? ⟨bb, 3, none⟩ = some (.map (some m)) := by rw [block_cell hK2.bk]; rfl
  -- a row with these literals, and its key
  have hkr : ∀ r, HasKey t.rows K r ↔ ∃ dd, t.rows[r]? = some (some dd) ∧ SetOf dd c := fun r => by
    constructor
    · rintro ⟨dd, cc, q1, q2, q3⟩
      refine ⟨dd, q1, ?_⟩
      have : cc = c := by
        refine keyB_inj (fun x hx => ?_) (fun x hx => by have := hcs x hx; omega) (q3.trans hK.symm)
        have := hI.b.I.lit r dd q1 x ((q2.mem x).1 hx)
        omega
      rw [← this]; exact q2
    · rintro ⟨dd, q1, q2⟩
      exact ⟨dd, c, q1, q2, hK⟩
  clear HKE hK1 hS1 hF1 hF2 hr1
  cases l with
  | nil =>
    have hz : liveN t c = 0 := liveN_none hcn fun r dd hr => by
      have hno : ¬ HasKey t.rows K r := fun q => by have := (hl3 r).2 ⟨q, trivial⟩; simp at this
      rw [Bool.eq_false_iff]
      intro q
      exact hno ((hkr r).2 ⟨dd, hr, hasc, fun x => (isKey_iff.1 q) x⟩)
    have HP : Hid (DropPost w L n t bb P c (.returned (.tuple #[])) w2) := ⟨rfl, _, t, sure, never, _, hK2, hI, hb, .inr ⟨m, F, rfl, hS2⟩, fun c' _ => by
      by_cases q : c' = c
      · subst q; rw [if_pos rfl, hz]
      · rw [if_neg q]; rfl, Nat.le_refl _, fun _ _ z => z, rfl, hF02.mono fun b q => q.2, rfl, rfl⟩
    obtain ⟨va, vc, rfl, _⟩ := hl1.form
    clear hK2 hS2 hF02 hkr hl1 hl2 hl3 hI hV
    go_wp2_with fail
    go_end0
    exact HP.out
  | cons r0 l =>
    obtain ⟨g, off, vc, cur, rfl, hg, hv1, hv2, hv3, hv4⟩ : ∃ g off cap cur, V = .slice (some ⟨g, off, none⟩) (l.length + 1) cap ∧ w2.heap[g]? = some (.cells cur 21 (0, 0)) ∧ l.length + 1 ≤ cap ∧ cap ≤ maxLen ∧ off + cap ≤ cur.size ∧ ∀ (i x : Nat), (r0 :: l)[i]? = some x → cur[off + i]? = some (.int .i32 (x : Int)) := by
      rcases hl1 with ⟨_, q⟩ | ⟨g, off, cap, cur, q1, q2, q3, q4, q5, q6⟩
      · cases q
      · exact ⟨g, off, cap, cur, by simpa using q1, q2, by simpa using q3, q4, q5, q6⟩
    obtain ⟨dd, hrd, hset⟩ := (hkr r0).1 ((hl3 r0).1 (by simp)).1
    have hrl : r0 < t.rows.length := (List.getElem?_eq_some_iff.1 hrd).1
    obtain ⟨V', hV'⟩ : ∃ V', Value.slice (some ⟨g, if vc = 1 then off else off + 1, none⟩) l.length (vc - 1) = V' := ⟨_, rfl⟩
    have hsl : ∀ W, (Instr.slice 56 (.slice (some ⟨g, off, none⟩) (l.length + 1) vc) (some (.int .i64 1)) none none).run Try.prog W = .ok V' W := fun W => by rw [← hV']; exact run_slice1 W g off l.length vc
    obtain ⟨w3, u1, u2, u4, u5⟩ := (hS2.mp.of (w' := w2.drew) rfl).put hKm V'
    have hgm : g ≠ m := fun e => by
      subst e
      obtain ⟨es, cl, q, _⟩ := hS2.mp.ex
      rw [q] at hg; cases hg
    have hbm : bb ≠ m := fun e => hPP m hS2.pm e.symm
    have hg3 : w3.heap[g]? = some (.cells cur 21 (0, 0)) := (u4.block g (block_lt hg) hgm).trans hg
    have hV'3 : RwsAt w3 V' l := by
      refine .inr ⟨g, _, vc - 1, cur, hV'.symm, hg3, by omega, by omega, ?_, fun i x hx => ?_⟩
      · split <;> omega
      · have hil : i < l.length := (List.getElem?_eq_some_iff.1 hx).1
        rw [if_neg (by omega)]
        have := hv4 (i + 1) x (by simpa using hx)
        rw [← this]
        congr 1; omega
    have hown : V'.ownBlock = (F K).ownBlock := by rw [hV, ← hV']; rfl
    have hS3 : SameAt w3 (fun b => P b ∨ w.heap.size ≤ b) (fun _ => True) (dropR t r0).rows m (putF F K V') := hS2.drop hl3 hl2 u2 hV'3 hown fun b hb' hne' => u4.block b hb' hne'
    have hmo : ∀ b, b < w2.heap.size → ¬ (b ≠ m) → (nrm L w.heap.size).own b = (0, 0) := fun b hb' q => by
      have e : b = m := Classical.byContradiction q
      subst e
      refine nrm_zero fun hlt => ?_
      rcases hS2.pm with z | z
      · exact hPo _ z
      · omega
    have hK3 : BkAt w3 (nrm L w.heap.size) n t bb sure never (.map (some m)) := BkAt.far (w := w2.drew) ⟨hK2.at_.drew, hK2.bk, hK2.ow⟩ u4 hmo hbm
    have hF03 : Fr (fun b => ¬ P b ∧ b ≠ bb ∧ b < w.heap.size) w w3 := (hF02.mono (Q := fun b => ¬ P b ∧ b ≠ bb ∧ b < w.heap.size) fun b q => ⟨q.1, q.2.1⟩).trans2 (Q := (· ≠ m)) (show Fr (· ≠ m) w2 w3 from ⟨u4.os, u4.tape, u4.output, u4.size, u4.block⟩) fun b hb' q e => by
      subst e
      rcases hS2.pm with z | z
      · exact q.1 z
      · omega
    have hgP : P g ∨ w.heap.size ≤ g := hS2.bl K g (by rw [hV]; rfl)
    have hx0 : cur[off]? = some (.int .i32 (r0 : Int)) := hv4 0 r0 rfl
    -- the end
    have HFIN : Hid (∀ (W : World) (s9 n9 : Bool), Fr (fun b => b ≠ bb) w3 W → BkAt W (nrm L w.heap.size) n t bb s9 n9 (.map (some m)) → BI n (dropR t r0) s9 n9 → (s9 && n9) = false → ∃ rg, ra = some ⟨rg, 0, none⟩ ∧ W.drew.cell? ⟨bb, 0, none⟩ = some (.pointer (some ⟨L.sb, 0, none⟩)) ∧ W.drew.cell? ⟨L.sb, 0, none⟩ = some (.slice (some ⟨rg, 0, none⟩) t.rows.length rc) ∧ W.drew.cell? ⟨g, off, none⟩ = some (.int .i32 (r0 : Int)) ∧ W.drew.frozen? ⟨rg, r0, none⟩ = false ∧ (∃ u, W.drew.cell? ⟨rg, r0, none⟩ = some u) ∧
        ((W.drew.setCell ⟨rg, r0, none⟩ (.slice none 0 0)).cell? ⟨bb, 0, none⟩ = some (.pointer (some ⟨L.sb, 0, none⟩)) ∧ (W.drew.setCell ⟨rg, r0, none⟩ (.slice none 0 0)).cell? ⟨L.sb, 0, none⟩ = some (.slice (some ⟨rg, 0, none⟩) t.rows.length rc) ∧ (W.drew.setCell ⟨rg, r0, none⟩ (.slice none 0 0)).cell? ⟨g, off, none⟩ = some (.int .i32 (r0 : Int))) ∧ DropPost w L n t bb P c (.returned (.tuple #[])) (W.drew.setCell ⟨rg, r0, none⟩ (.slice none 0 0))) := by
      intro W s9 n9 hf hk hbi hsn
      have hro := hk.at_.1.ro trivial
      obtain ⟨rg, hrg⟩ : ∃ rg, ra = some ⟨rg, 0, none⟩ := by
        rcases hro.1.2 with ⟨e, q⟩ | ⟨g', cap', cur', e, _⟩
        · omega
        · have e' : L.rv = _ := e
          rw [hrv] at e'
          injection e' with e1
          exact ⟨g', e1⟩
      subst hrg
      obtain ⟨x1, x2, x3, x4⟩ := hk.at_.drew.dropRow hrv hrl
      have x1' : (nrm L w.heap.size).own rg = (2, 0) := x1
      have hsb : L.sb ≠ rg := fun e => by
        have := (hk.at_.1.st trivial).2
        rw [show (nrm L w.heap.size).sb = L.sb from rfl, e, x1'] at this
        cases this
      have hbr : bb ≠ rg := fun e => by have := hk.ow; rw [e, x1'] at this; cases this
      have hog : ∀ b, (P b ∨ w.heap.size ≤ b) → (nrm L w.heap.size).own b = (0, 0) := fun b q => nrm_zero fun hlt => by
        rcases q with q | q
        · exact hPo b q
        · omega
      have hgr : g ≠ rg := fun e => by have := hog g hgP; rw [e, x1'] at this; cases this
      have f0 : W.cell? ⟨bb, 0, none⟩ = some (.pointer (some ⟨L.sb, 0, none⟩)) := by rw [block_cell hk.bk]; rfl
      have f1 : W.cell? ⟨L.sb, 0, none⟩ = some (.slice (some ⟨rg, 0, none⟩) t.rows.length rc) := by have := hk.at_.cell 0; simp only [stC, nrm, hrv] at this; exact this
      have f2 : W.cell? ⟨g, off, none⟩ = some (.int .i32 (r0 : Int)) := by rw [block_cell ((hf.block g (block_lt hg3) (hPP g hgP)).trans hg3)]; exact hx0
      refine ⟨rg, rfl, f0, f1, f2, x2, x3, ⟨?_, ?_, ?_⟩, rfl, _, dropR t r0, s9, n9, .map (some m), ⟨x4, ?_, hk.ow⟩, hbi, hsn, .inr ⟨m, putF F K V', rfl, ?_⟩, ?_, Nat.le_refl _, fun r dd' hr => (dropR_get hr).2, List.length_set, ?_, rfl, rfl⟩
      · rw [World.cell?_setCell_other _ _ _ _ (fun e => hbr (congrArg Addr.block e).symm)]; exact f0
      · rw [World.cell?_setCell_other _ _ _ _ (fun e => hsb (congrArg Addr.block e).symm)]; exact f1
      · rw [World.cell?_setCell_other _ _ _ _ (fun e => hgr (congrArg Addr.block e).symm)]; exact f2
      · exact (Below.heap_setCell W.drew ⟨rg, r0, none⟩ _ bb (fun e => hbr e)).trans hk.bk
      · refine hS3.fr (fun b hb' hp => ?_) (fun _ _ q => q) fun _ _ => Iff.rfl
        refine (Below.heap_setCell W.drew ⟨rg, r0, none⟩ _ b (fun e => ?_)).trans (hf.block b hb' (hPP b hp))
        have := hog b hp
        rw [show b = rg from e, x1'] at this
        cases this
      · intro c' hc'
        by_cases q : c' = []
        · subst q
          rw [if_neg (fun e => hcn e.symm), liveN_drop0]; rfl
        · have := liveN_drop hrd c' q
          by_cases z : c' = c
          · subst z
            rw [if_pos (isKey_iff.2 fun x => hset.mem x)] at this
            rw [if_pos rfl]; omega
          · rw [if_neg (fun e => z (hc'.ext hset.asc fun x => (isKey_iff.1 e x).trans (hset.mem x).symm))] at this
            rw [if_neg z]; omega
      · refine ⟨hf.os.trans hF03.os, hf.tape.trans hF03.tape, hf.output.trans hF03.output, by have h1 := hF03.size; have h2 := hf.size; simp; omega, fun b hb' hp => ?_⟩
        refine (Below.heap_setCell W.drew ⟨rg, r0, none⟩ _ b (fun e => ?_)).trans ((hf.block b (Nat.lt_of_lt_of_le hb' hF03.size) hp.2.2).trans (hF03.block b hb' ⟨hp.2.1, hp.2.2, hb'⟩))
        have e2 : b = rg := e
        subst e2
        rw [nrm_old hb', hp.1] at x1'
        cases x1'
    have d3 : w2.drew.cell? ⟨bb, 3, none⟩ = some (.map (some m)) := c3
    have u3 : w3.cell? ⟨bb, 3, none⟩ = some (.map (some m)) := by rw [block_cell hK3.bk]; rfl
    have e0 : w3.drew.cell? ⟨bb, 0, none⟩ = some (.pointer (some ⟨L.sb, 0, none⟩)) := by show w3.cell? _ = _; rw [block_cell hK3.bk]; rfl
    have e2 : w3.drew.cell? ⟨bb, 2, none⟩ = some (.bool never) := by show w3.cell? _ = _; rw [block_cell hK3.bk]; rfl
    have eg : w3.drew.cell? ⟨g, off, none⟩ = some (.int .i32 (r0 : Int)) := by show w3.cell? _ = _; rw [block_cell hg3]; exact hx0
    have HK3 : Hid (BkAt w3 (nrm L w.heap.size) n t bb sure never (.map (some m))) := hK3
    have HG3 : Hid (w3.heap[g]? = some (.cells cur 21 (0, 0)) ∧ cur[off]? = some (.int .i32 (r0 : Int)) ∧ g ≠ bb) := ⟨hg3, hx0, hPP g hgP⟩
    have r00 : (0 : Int) ≤ (r0 : Int) := by omega
    have r01 : (r0 : Int) < (t.rows.length : Int) := by omega
    have hll : (0 : Int) < (l.length : Int) + 1 := by omega
    have hl1' : ((l.length : Int) + 1 == 0) = false := by rw [beq_eq_false_iff_ne]; omega
    have HI : Hid (BI n t sure never) := hI
    have HRD : Hid (t.rows[r0]? = some (some dd)) := hrd
    have hne2 : dd ≠ [] := fun e => hI.b.R.no0 r0 (by rw [hrd, e])
    have hdl : ∀ x ∈ dd, x < 2 * n := hI.b.I.lit r0 dd hrd
    have U1 : Hid _ := u1
    clear hK2 hS2 hF02 hkr hl1 hl2 hl3 hI hV hv1 hv2 hv3 hv4 hset hV' hV'3 hown hS3 hmo hK3 hF03 hgP hg hg3 u2 u4 u5 hx0 hgm hbm hrd hPP
    go_wp2_with fail
    clear c3
    have u1 := U1.out
    refine wp_region_noPanic ?_
    refine wp_region_held_drew (S := fun w' => w'.cell? ⟨bb, 3, none⟩ = some (.map (some m))) (by kernel_rfl) d3 (fun hHeld => ?_)
    refine wpAnyH_take (i := 0) (oi := ({ dst := some 46, op := Op.move (Operand.tmp 0), type := 40, pos := _, after := #[], guard := none } : Oper)) (v := ?_) rfl (by kernel_rfl) (by kernel_rfl) (by kernel_rfl) (fun _ _ _ h => h) (Or.inl ⟨by rfl, ?_⟩) hHeld ?_
    rotate_left
    · intro w0 hS0; (try dsimp only at hS0); go_simp; try with_reducible rfl
    try simp only [Act.put, List.setIfInBounds_toArray, List.set_cons_zero, List.set_cons_succ]
    refine wpAnyH_take (i := 1) (oi := ({ dst := some 47, op := Op.nilCheck (Operand.tmp 46), type := 0, pos := _, after := #[{ on := 0, ground := Ground.data }], guard := none } : Oper)) (v := ?_) rfl (by kernel_rfl) (by kernel_rfl) (by kernel_rfl) (fun _ _ _ h => h) (Or.inl ⟨by rfl, ?_⟩) hHeld ?_
    rotate_left
    · intro w0 hS0; (try dsimp only at hS0); go_simp; try with_reducible rfl
    try simp only [Act.put, List.setIfInBounds_toArray, List.set_cons_zero, List.set_cons_succ]
    refine wpAnyH_take (i := 2) (oi := ({ dst := some 48, op := Op.fieldAddr 63 (Operand.tmp 47) 3, type := 0, pos := _, after := #[{ on := 1, ground := Ground.data }], guard := none } : Oper)) (v := ?_) rfl (by kernel_rfl) (by kernel_rfl) (by kernel_rfl) (fun _ _ _ h => h) (Or.inl ⟨by rfl, ?_⟩) hHeld ?_
    rotate_left
    · intro w0 hS0; (try dsimp only at hS0); go_simp; try with_reducible rfl
    try simp only [Act.put, List.setIfInBounds_toArray, List.set_cons_zero, List.set_cons_succ]
    refine wpAnyH_take (i := 3) (oi := ({ dst := some 49, op := Op.load 61 (Operand.tmp 48), type := 61, pos := _, after := #[{ on := 2, ground := Ground.data }], guard := none } : Oper)) (v := ?_) rfl (by kernel_rfl) (by kernel_rfl) (by kernel_rfl) (fun _ _ _ h => h) (Or.inl ⟨by rfl, ?_⟩) hHeld ?_
    rotate_left
    · intro w0 hS0; (try dsimp only at hS0); go_simp; try with_reducible rfl
    try simp only [Act.put, List.setIfInBounds_toArray, List.set_cons_zero, List.set_cons_succ]
    refine wpAnyH_take (i := 4) (oi := ({ dst := some 50, op := Op.move (Operand.tmp 4), type := 9, pos := _, after := #[], guard := none } : Oper)) (v := ?_) rfl (by kernel_rfl) (by kernel_rfl) (by kernel_rfl) (fun _ _ _ h => h) (Or.inl ⟨by rfl, ?_⟩) hHeld ?_
    rotate_left
    · intro w0 hS0; (try dsimp only at hS0); go_simp; try with_reducible rfl
    try simp only [Act.put, List.setIfInBounds_toArray, List.set_cons_zero, List.set_cons_succ]
    refine wpAnyH_take (i := 5) (oi := ({ dst := some 51, op := Op.move (Operand.tmp 5), type := 56, pos := _, after := #[], guard := none } : Oper)) (v := ?_) rfl (by kernel_rfl) (by kernel_rfl) (by kernel_rfl) (fun _ _ _ h => h) (Or.inl ⟨by rfl, ?_⟩) hHeld ?_
    rotate_left
    · intro w0 hS0; (try dsimp only at hS0); go_simp; try with_reducible rfl
    try simp only [Act.put, List.setIfInBounds_toArray, List.set_cons_zero, List.set_cons_succ]
    refine wpAnyH_take (i := 6) (oi := ({ dst := some 52, op := Op.slice 56 (Operand.tmp 51) (some (Operand.const (Value.int IntKind.i64 1))) none none, type := 56, pos := _, after := #[{ on := 5, ground := Ground.data }], guard := none } : Oper)) (v := ?_) rfl (by kernel_rfl) (by kernel_rfl) (by kernel_rfl) (fun _ _ _ h => h) (Or.inl ⟨by rfl, ?_⟩) hHeld ?_
    rotate_left
    · intro w0 hS0; (try dsimp only at hS0); go_simp; try with_reducible rfl
    try simp only [Act.put, List.setIfInBounds_toArray, List.set_cons_zero, List.set_cons_succ]
    refine wpAnyH_ready (rs := [7]) (by kernel_rfl) (by simp) ?_
    refine AllReadyH.cons (o := ({ dst := none, op := Op.mapUpdate 61 (Operand.tmp 49) (Operand.tmp 50) (Operand.tmp 52), type := 0, pos := _, after := #[{ on := 3, ground := Ground.data }, { on := 4, ground := Ground.data }, { on := 6, ground := Ground.data }, { on := 0, ground := Ground.phase }, { on := 1, ground := Ground.phase }, { on := 2, ground := Ground.phase }, { on := 3, ground := Ground.phase }, { on := 4, ground := Ground.phase }, { on := 5, ground := Ground.phase }, { on := 6, ground := Ground.phase }], guard := none } : Oper)) rfl (fun KK hK => ?_) AllReadyH.nil
    go_simp
    refine hK.out _ _ ?_ (fun _ => ?_)
    · exact u3
    clear hK KK
    refine wpAnyH_done (by kernel_rfl) ?_ _
    refine NoPanic.normal ?_
    clear u1 d3 u3 hlk hsl
    cases never with
    | true =>
      have hKd : BkAt w3.drew (nrm L w.heap.size) n t bb sure true (.map (some m)) := ⟨HK3.out.at_.drew, HK3.out.bk, HK3.out.ow⟩
      go_wp2_with fail
      refine wp_region_noPanic ?_
      refine wp_region_held_drew (S := fun w' => w'.cell? ⟨bb, 0, none⟩ = some (.pointer (some ⟨L.sb, 0, none⟩)) ∧ w'.cell? ⟨bb, 2, none⟩ = some (.bool true) ∧ w'.cell? ⟨g, off, none⟩ = some (.int .i32 (r0 : Int))) (by kernel_rfl) ⟨e0, e2, eg⟩ (fun hHeld => ?_)
      refine wpAnyH_take (i := 0) (oi := ({ dst := some 53, op := Op.move (Operand.tmp 0), type := 40, pos := _, after := #[], guard := none } : Oper)) (v := ?_) rfl (by kernel_rfl) (by kernel_rfl) (by kernel_rfl) (fun _ _ _ h => h) (Or.inl ⟨by rfl, ?_⟩) hHeld ?_
      rotate_left
      · intro w0 hS0; (try dsimp only at hS0); go_simp; try with_reducible rfl
      try simp only [Act.put, List.setIfInBounds_toArray, List.set_cons_zero, List.set_cons_succ]
      refine wpAnyH_take (i := 1) (oi := ({ dst := some 54, op := Op.nilCheck (Operand.tmp 53), type := 0, pos := _, after := #[{ on := 0, ground := Ground.data }], guard := none } : Oper)) (v := ?_) rfl (by kernel_rfl) (by kernel_rfl) (by kernel_rfl) (fun _ _ _ h => h) (Or.inl ⟨by rfl, ?_⟩) hHeld ?_
      rotate_left
      · intro w0 hS0; (try dsimp only at hS0); go_simp; try with_reducible rfl
      try simp only [Act.put, List.setIfInBounds_toArray, List.set_cons_zero, List.set_cons_succ]
      refine wpAnyH_take (i := 2) (oi := ({ dst := some 55, op := Op.fieldAddr 63 (Operand.tmp 54) 2, type := 0, pos := _, after := #[{ on := 1, ground := Ground.data }], guard := none } : Oper)) (v := ?_) rfl (by kernel_rfl) (by kernel_rfl) (by kernel_rfl) (fun _ _ _ h => h) (Or.inl ⟨by rfl, ?_⟩) hHeld ?_
      rotate_left
      · intro w0 hS0; (try dsimp only at hS0); go_simp; try with_reducible rfl
      try simp only [Act.put, List.setIfInBounds_toArray, List.set_cons_zero, List.set_cons_succ]
      refine wpAnyH_take (i := 3) (oi := ({ dst := some 56, op := Op.load 4 (Operand.tmp 55), type := 4, pos := _, after := #[{ on := 2, ground := Ground.data }], guard := none } : Oper)) (v := ?_) rfl (by kernel_rfl) (by kernel_rfl) (by kernel_rfl) (fun _ _ _ h => h) (Or.inl ⟨by rfl, ?_⟩) hHeld ?_
      rotate_left
      · intro w0 hS0; (try dsimp only at hS0); go_simp; try with_reducible rfl
      try simp only [Act.put, List.setIfInBounds_toArray, List.set_cons_zero, List.set_cons_succ]
      refine wpAnyH_take (i := 4) (oi := ({ dst := some 57, op := Op.move (Operand.tmp 56), type := 4, pos := _, after := #[{ on := 3, ground := Ground.data }], guard := none } : Oper)) (v := ?_) rfl (by kernel_rfl) (by kernel_rfl) (by kernel_rfl) (fun _ _ _ h => h) (Or.inl ⟨by rfl, ?_⟩) hHeld ?_
      rotate_left
      · intro w0 hS0; (try dsimp only at hS0); go_simp; try with_reducible rfl
      try simp only [Act.put, List.setIfInBounds_toArray, List.set_cons_zero, List.set_cons_succ]
      refine wpAnyH_take (i := 5) (oi := ({ dst := some 58, op := Op.move (Operand.tmp 0), type := 40, pos := _, after := #[{ on := 4, ground := Ground.guard }], guard := some (4, false) } : Oper)) (v := undef) rfl (by kernel_rfl) (by kernel_rfl) (by kernel_rfl) (fun _ _ _ h => h) (Or.inr ⟨by rfl, rfl⟩) hHeld ?_
      try simp only [Act.put, List.setIfInBounds_toArray, List.set_cons_zero, List.set_cons_succ]
      refine wpAnyH_take (i := 6) (oi := ({ dst := some 59, op := Op.nilCheck (Operand.tmp 58), type := 0, pos := _, after := #[{ on := 5, ground := Ground.data }, { on := 4, ground := Ground.guard }], guard := some (4, false) } : Oper)) (v := undef) rfl (by kernel_rfl) (by kernel_rfl) (by kernel_rfl) (fun _ _ _ h => h) (Or.inr ⟨by rfl, rfl⟩) hHeld ?_
      try simp only [Act.put, List.setIfInBounds_toArray, List.set_cons_zero, List.set_cons_succ]
      refine wpAnyH_take (i := 7) (oi := ({ dst := some 60, op := Op.fieldAddr 63 (Operand.tmp 59) 0, type := 0, pos := _, after := #[{ on := 6, ground := Ground.data }, { on := 4, ground := Ground.guard }], guard := some (4, false) } : Oper)) (v := undef) rfl (by kernel_rfl) (by kernel_rfl) (by kernel_rfl) (fun _ _ _ h => h) (Or.inr ⟨by rfl, rfl⟩) hHeld ?_
      try simp only [Act.put, List.setIfInBounds_toArray, List.set_cons_zero, List.set_cons_succ]
      refine wpAnyH_take (i := 8) (oi := ({ dst := some 61, op := Op.load 42 (Operand.tmp 60), type := 42, pos := _, after := #[{ on := 7, ground := Ground.data }, { on := 4, ground := Ground.guard }], guard := some (4, false) } : Oper)) (v := undef) rfl (by kernel_rfl) (by kernel_rfl) (by kernel_rfl) (fun _ _ _ h => h) (Or.inr ⟨by rfl, rfl⟩) hHeld ?_
      try simp only [Act.put, List.setIfInBounds_toArray, List.set_cons_zero, List.set_cons_succ]
      refine wpAnyH_take (i := 9) (oi := ({ dst := some 62, op := Op.move (Operand.tmp 5), type := 56, pos := _, after := #[{ on := 4, ground := Ground.guard }], guard := some (4, false) } : Oper)) (v := undef) rfl (by kernel_rfl) (by kernel_rfl) (by kernel_rfl) (fun _ _ _ h => h) (Or.inr ⟨by rfl, rfl⟩) hHeld ?_
      try simp only [Act.put, List.setIfInBounds_toArray, List.set_cons_zero, List.set_cons_succ]
      refine wpAnyH_take (i := 10) (oi := ({ dst := some 63, op := Op.indexAddr 56 (Operand.tmp 62) (Operand.const (Value.int IntKind.i64 0)), type := 0, pos := _, after := #[{ on := 9, ground := Ground.data }, { on := 4, ground := Ground.guard }], guard := some (4, false) } : Oper)) (v := undef) rfl (by kernel_rfl) (by kernel_rfl) (by kernel_rfl) (fun _ _ _ h => h) (Or.inr ⟨by rfl, rfl⟩) hHeld ?_
      try simp only [Act.put, List.setIfInBounds_toArray, List.set_cons_zero, List.set_cons_succ]
      refine wpAnyH_take (i := 11) (oi := ({ dst := some 64, op := Op.load 21 (Operand.tmp 63), type := 21, pos := _, after := #[{ on := 10, ground := Ground.data }, { on := 4, ground := Ground.guard }], guard := some (4, false) } : Oper)) (v := undef) rfl (by kernel_rfl) (by kernel_rfl) (by kernel_rfl) (fun _ _ _ h => h) (Or.inr ⟨by rfl, rfl⟩) hHeld ?_
      try simp only [Act.put, List.setIfInBounds_toArray, List.set_cons_zero, List.set_cons_succ]
      refine wpAnyH_take (i := 12) (oi := ({ dst := some 65, op := Op.call { callee := Callee.value (Operand.func 36), args := #[Operand.tmp 61, Operand.tmp 64], argTypes := #[42, 21] }, type := 4, pos := _, after := #[{ on := 8, ground := Ground.data }, { on := 11, ground := Ground.data }, { on := 4, ground := Ground.chain }, { on := 4, ground := Ground.guard }], guard := some (4, false) } : Oper)) (v := undef) rfl (by kernel_rfl) (by kernel_rfl) (by kernel_rfl) (fun _ _ _ h => h) (Or.inr ⟨by rfl, rfl⟩) hHeld ?_
      try simp only [Act.put, List.setIfInBounds_toArray, List.set_cons_zero, List.set_cons_succ]
      refine wpAnyH_take (i := 13) (oi := ({ dst := some 66, op := Op.pick (Operand.tmp 57) (Operand.const (Value.bool true)) (Operand.tmp 65), type := 4, pos := _, after := #[{ on := 4, ground := Ground.data }, { on := 12, ground := Ground.data }], guard := none } : Oper)) (v := ?_) rfl (by kernel_rfl) (by kernel_rfl) (by kernel_rfl) (fun _ _ _ h => h) (Or.inl ⟨by rfl, ?_⟩) hHeld ?_
      rotate_left
      · intro w0 hS0; (try dsimp only at hS0); go_simp; try with_reducible rfl
      refine wpAnyH_done (by kernel_rfl) ?_ _
      refine NoPanic.normal ?_
      have K4 : Hid (BkAt w3.drew (nrm L w.heap.size) n t bb sure true (.map (some m)) ∧ Fr (fun b => b ≠ bb) w3 w3.drew) := ⟨hKd, (Fr.refl _ w3).drew⟩
      clear e0 e2 eg hHeld hKd
      generalize w3.drew = w4 at K4 ⊢
      have hKd := K4.out.1
      have b1 : w4.cell? ⟨bb, 1, none⟩ = some (.bool sure) := by rw [block_cell hKd.bk]; rfl
      have b2 : w4.cell? ⟨bb, 2, none⟩ = some (.bool true) := by rw [block_cell hKd.bk]; rfl
      have y1 : w4.frozen? ⟨bb, 1, none⟩ = false := frozen_block hKd.bk 1
      have y2 : w4.frozen? ⟨bb, 2, none⟩ = false := frozen_block hKd.bk 2
      have HK9 := hKd.set12
      go_upto_region 11 with fail
      clear b1 b2 y1 y2
      obtain ⟨rg, rfl, f0, f1, f2, f3, ⟨u, f4⟩, f5, f6⟩ := HFIN.out ((w4.setCell ⟨bb, 1, none⟩ (.bool false)).setCell ⟨bb, 2, none⟩ (.bool false)) false false ((K4.out.2.set (p := ⟨bb, 1, none⟩) (fun q => q rfl) _).set (p := ⟨bb, 2, none⟩) (fun q => q rfl) _) (HK9) (drop_else HI.out.b r0) rfl
      have F6 : Hid (DropPost w L n t bb P c (.returned (.tuple #[])) _) := f6
      clear f6 HFIN HK3 HG3 HI HRD U1
      generalize (w4.setCell ⟨bb, 1, none⟩ (.bool false)).setCell ⟨bb, 2, none⟩ (.bool false) = W9 at f0 f1 f2 f3 f4 f5 F6 ⊢
      go_wp2_with fail
      refine wp_region_noPanic ?_
      refine wp_region_held_drew (S := fun w' => w'.cell? ⟨bb, 0, none⟩ = some (.pointer (some ⟨L.sb, 0, none⟩)) ∧ w'.cell? ⟨L.sb, 0, none⟩ = some (.slice (some ⟨rg, 0, none⟩) t.rows.length rc) ∧ w'.cell? ⟨g, off, none⟩ = some (.int .i32 (r0 : Int))) (by kernel_rfl) ⟨f0, f1, f2⟩ (fun hHeld => ?_)
      refine wpAnyH_take (i := 0) (oi := ({ dst := some 73, op := Op.move (Operand.tmp 0), type := 40, pos := _, after := #[], guard := none } : Oper)) (v := ?_) rfl (by kernel_rfl) (by kernel_rfl) (by kernel_rfl) (fun _ _ _ h => h) (Or.inl ⟨by rfl, ?_⟩) hHeld ?_
      rotate_left
      · intro w0 hS0; (try dsimp only at hS0); go_simp; try with_reducible rfl
      try simp only [Act.put, List.setIfInBounds_toArray, List.set_cons_zero, List.set_cons_succ]
      refine wpAnyH_take (i := 1) (oi := ({ dst := some 74, op := Op.nilCheck (Operand.tmp 73), type := 0, pos := _, after := #[{ on := 0, ground := Ground.data }], guard := none } : Oper)) (v := ?_) rfl (by kernel_rfl) (by kernel_rfl) (by kernel_rfl) (fun _ _ _ h => h) (Or.inl ⟨by rfl, ?_⟩) hHeld ?_
      rotate_left
      · intro w0 hS0; (try dsimp only at hS0); go_simp; try with_reducible rfl
      try simp only [Act.put, List.setIfInBounds_toArray, List.set_cons_zero, List.set_cons_succ]
      refine wpAnyH_take (i := 2) (oi := ({ dst := some 75, op := Op.fieldAddr 63 (Operand.tmp 74) 0, type := 0, pos := _, after := #[{ on := 1, ground := Ground.data }], guard := none } : Oper)) (v := ?_) rfl (by kernel_rfl) (by kernel_rfl) (by kernel_rfl) (fun _ _ _ h => h) (Or.inl ⟨by rfl, ?_⟩) hHeld ?_
      rotate_left
      · intro w0 hS0; (try dsimp only at hS0); go_simp; try with_reducible rfl
      try simp only [Act.put, List.setIfInBounds_toArray, List.set_cons_zero, List.set_cons_succ]
      refine wpAnyH_take (i := 3) (oi := ({ dst := some 76, op := Op.load 42 (Operand.tmp 75), type := 42, pos := _, after := #[{ on := 2, ground := Ground.data }], guard := none } : Oper)) (v := ?_) rfl (by kernel_rfl) (by kernel_rfl) (by kernel_rfl) (fun _ _ _ h => h) (Or.inl ⟨by rfl, ?_⟩) hHeld ?_
      rotate_left
      · intro w0 hS0; (try dsimp only at hS0); go_simp; try with_reducible rfl
      try simp only [Act.put, List.setIfInBounds_toArray, List.set_cons_zero, List.set_cons_succ]
      refine wpAnyH_take (i := 4) (oi := ({ dst := some 77, op := Op.nilCheck (Operand.tmp 76), type := 0, pos := _, after := #[{ on := 3, ground := Ground.data }], guard := none } : Oper)) (v := ?_) rfl (by kernel_rfl) (by kernel_rfl) (by kernel_rfl) (fun _ _ _ h => h) (Or.inl ⟨by rfl, ?_⟩) hHeld ?_
      rotate_left
      · intro w0 hS0; (try dsimp only at hS0); go_simp; try with_reducible rfl
      try simp only [Act.put, List.setIfInBounds_toArray, List.set_cons_zero, List.set_cons_succ]
      refine wpAnyH_take (i := 5) (oi := ({ dst := some 78, op := Op.fieldAddr 77 (Operand.tmp 77) 0, type := 0, pos := _, after := #[{ on := 4, ground := Ground.data }], guard := none } : Oper)) (v := ?_) rfl (by kernel_rfl) (by kernel_rfl) (by kernel_rfl) (fun _ _ _ h => h) (Or.inl ⟨by rfl, ?_⟩) hHeld ?_
      rotate_left
      · intro w0 hS0; (try dsimp only at hS0); go_simp; try with_reducible rfl
      try simp only [Act.put, List.setIfInBounds_toArray, List.set_cons_zero, List.set_cons_succ]
      refine wpAnyH_take (i := 6) (oi := ({ dst := some 79, op := Op.load 73 (Operand.tmp 78), type := 73, pos := _, after := #[{ on := 5, ground := Ground.data }], guard := none } : Oper)) (v := ?_) rfl (by kernel_rfl) (by kernel_rfl) (by kernel_rfl) (fun _ _ _ h => h) (Or.inl ⟨by rfl, ?_⟩) hHeld ?_
      rotate_left
      · intro w0 hS0; (try dsimp only at hS0); go_simp; try with_reducible rfl
      try simp only [Act.put, List.setIfInBounds_toArray, List.set_cons_zero, List.set_cons_succ]
      refine wpAnyH_take (i := 7) (oi := ({ dst := some 80, op := Op.move (Operand.tmp 5), type := 56, pos := _, after := #[], guard := none } : Oper)) (v := ?_) rfl (by kernel_rfl) (by kernel_rfl) (by kernel_rfl) (fun _ _ _ h => h) (Or.inl ⟨by rfl, ?_⟩) hHeld ?_
      rotate_left
      · intro w0 hS0; (try dsimp only at hS0); go_simp; try with_reducible rfl
      try simp only [Act.put, List.setIfInBounds_toArray, List.set_cons_zero, List.set_cons_succ]
      refine wpAnyH_take (i := 8) (oi := ({ dst := some 81, op := Op.indexAddr 56 (Operand.tmp 80) (Operand.const (Value.int IntKind.i64 0)), type := 0, pos := _, after := #[{ on := 7, ground := Ground.data }], guard := none } : Oper)) (v := ?_) rfl (by kernel_rfl) (by kernel_rfl) (by kernel_rfl) (fun _ _ _ h => h) (Or.inl ⟨by rfl, ?_⟩) hHeld ?_
      rotate_left
      · intro w0 hS0; (try dsimp only at hS0); go_simp; try with_reducible rfl
      try simp only [Act.put, List.setIfInBounds_toArray, List.set_cons_zero, List.set_cons_succ]
      refine wpAnyH_take (i := 9) (oi := ({ dst := some 82, op := Op.load 21 (Operand.tmp 81), type := 21, pos := _, after := #[{ on := 8, ground := Ground.data }], guard := none } : Oper)) (v := ?_) rfl (by kernel_rfl) (by kernel_rfl) (by kernel_rfl) (fun _ _ _ h => h) (Or.inl ⟨by rfl, ?_⟩) hHeld ?_
      rotate_left
      · intro w0 hS0; (try dsimp only at hS0); go_simp; try with_reducible rfl
      try simp only [Act.put, List.setIfInBounds_toArray, List.set_cons_zero, List.set_cons_succ]
      refine wpAnyH_take (i := 10) (oi := ({ dst := some 83, op := Op.indexAddr 73 (Operand.tmp 79) (Operand.tmp 82), type := 0, pos := _, after := #[{ on := 6, ground := Ground.data }, { on := 9, ground := Ground.data }, { on := 0, ground := Ground.phase }, { on := 1, ground := Ground.phase }, { on := 2, ground := Ground.phase }, { on := 3, ground := Ground.phase }, { on := 4, ground := Ground.phase }, { on := 5, ground := Ground.phase }, { on := 6, ground := Ground.phase }, { on := 7, ground := Ground.phase }, { on := 8, ground := Ground.phase }, { on := 9, ground := Ground.phase }], guard := none } : Oper)) (v := ?_) rfl (by kernel_rfl) (by kernel_rfl) (by kernel_rfl) (fun _ _ _ h => h) (Or.inl ⟨by rfl, ?_⟩) hHeld ?_
      rotate_left
      · intro w0 hS0; (try dsimp only at hS0); go_simp; try with_reducible rfl
      try simp only [Act.put, List.setIfInBounds_toArray, List.set_cons_zero, List.set_cons_succ]
      refine wpAnyH_ready (rs := [11]) (by kernel_rfl) (by simp) ?_
      refine AllReadyH.cons (o := ({ dst := none, op := Op.store 44 (Operand.tmp 83) (Operand.const (Value.slice none 0 0)), type := 0, pos := _, after := #[{ on := 10, ground := Ground.data }, { on := 0, ground := Ground.phase }, { on := 1, ground := Ground.phase }, { on := 2, ground := Ground.phase }, { on := 3, ground := Ground.phase }, { on := 4, ground := Ground.phase }, { on := 5, ground := Ground.phase }, { on := 6, ground := Ground.phase }, { on := 7, ground := Ground.phase }, { on := 8, ground := Ground.phase }, { on := 9, ground := Ground.phase }], guard := none } : Oper)) rfl (fun KK hK => ?_) AllReadyH.nil
      go_simp
      refine hK.out _ _ ?_ (fun _ => ?_)
      · exact f5
      clear hK KK
      refine wpAnyH_done (by kernel_rfl) ?_ _
      refine NoPanic.normal ?_
      go_wp2_with fail
      go_end0
      exact F6.out
    | false =>
      have hKd : BkAt w3.drew (nrm L w.heap.size) n t bb sure false (.map (some m)) := ⟨HK3.out.at_.drew, HK3.out.bk, HK3.out.ow⟩
      have hbe := bears_any w3.drew (nrm L w.heap.size) n t r0 dd hKd.at_ HRD.out hdl hne2
      have hbi : dd.any (bearsL t r0) = false → BI n (dropR t r0) sure false := fun q => by
        cases sure with
        | true => exact drop_sure HI.out HRD.out q
        | false => exact drop_else HI.out.b r0
      obtain ⟨b, hbb⟩ : ∃ b, dd.any (bearsL t r0) = b := ⟨_, rfl⟩
      rw [hbb] at hbe hbi
      have HBI : Hid (b = false → BI n (dropR t r0) sure false) := hbi
      have HBE : Hid (Calls Try.prog 36 #[.pointer (some ⟨L.sb, 0, none⟩), .int .i32 (r0 : Int)] w3.drew fun e w' => e = .returned (.bool b) ∧ Below w3.drew.heap.size w3.drew w') := hbe
      have HB4 : Hid (∀ w4, Below w3.drew.heap.size w3.drew w4 → w4.cell? ⟨bb, 0, none⟩ = some (.pointer (some ⟨L.sb, 0, none⟩)) ∧ w4.cell? ⟨bb, 2, none⟩ = some (.bool false) ∧ w4.cell? ⟨g, off, none⟩ = some (.int .i32 (r0 : Int)) ∧ Hid (BkAt w4 (nrm L w.heap.size) n t bb sure false (.map (some m)) ∧ Fr (fun b => b ≠ bb) w3 w4)) := fun w4 hB => by
        have hf : Fr (fun _ => True) w3.drew w4 := Fr.below hB
        have hk := hKd.far hf (fun b _ q => absurd trivial q) trivial
        refine ⟨?_, ?_, ?_, hk, (show Fr (fun b => b ≠ bb) w3 w3.drew from (Fr.refl _ w3).drew).trans (hf.mono fun _ _ => trivial)⟩
        · rw [block_cell hk.bk]; rfl
        · rw [block_cell hk.bk]; rfl
        · rw [block_cell ((hf.block g (block_lt HG3.out.1) trivial).trans HG3.out.1)]; exact HG3.out.2.1
      clear hbe hbi hbb hKd
      go_wp2_with fail
      refine wp_region_noPanic ?_
      refine wp_region_held_drew (S := fun w' => w'.cell? ⟨bb, 0, none⟩ = some (.pointer (some ⟨L.sb, 0, none⟩)) ∧ w'.cell? ⟨bb, 2, none⟩ = some (.bool false) ∧ w'.cell? ⟨g, off, none⟩ = some (.int .i32 (r0 : Int))) (by kernel_rfl) ⟨e0, e2, eg⟩ (fun hHeld => ?_)
      refine wpAnyH_take (i := 0) (oi := ({ dst := some 53, op := Op.move (Operand.tmp 0), type := 40, pos := _, after := #[], guard := none } : Oper)) (v := ?_) rfl (by kernel_rfl) (by kernel_rfl) (by kernel_rfl) (fun _ _ _ h => h) (Or.inl ⟨by rfl, ?_⟩) hHeld ?_
      rotate_left
      · intro w0 hS0; (try dsimp only at hS0); go_simp; try with_reducible rfl
      try simp only [Act.put, List.setIfInBounds_toArray, List.set_cons_zero, List.set_cons_succ]
      refine wpAnyH_take (i := 1) (oi := ({ dst := some 54, op := Op.nilCheck (Operand.tmp 53), type := 0, pos := _, after := #[{ on := 0, ground := Ground.data }], guard := none } : Oper)) (v := ?_) rfl (by kernel_rfl) (by kernel_rfl) (by kernel_rfl) (fun _ _ _ h => h) (Or.inl ⟨by rfl, ?_⟩) hHeld ?_
      rotate_left
      · intro w0 hS0; (try dsimp only at hS0); go_simp; try with_reducible rfl
      try simp only [Act.put, List.setIfInBounds_toArray, List.set_cons_zero, List.set_cons_succ]
      refine wpAnyH_take (i := 2) (oi := ({ dst := some 55, op := Op.fieldAddr 63 (Operand.tmp 54) 2, type := 0, pos := _, after := #[{ on := 1, ground := Ground.data }], guard := none } : Oper)) (v := ?_) rfl (by kernel_rfl) (by kernel_rfl) (by kernel_rfl) (fun _ _ _ h => h) (Or.inl ⟨by rfl, ?_⟩) hHeld ?_
      rotate_left
      · intro w0 hS0; (try dsimp only at hS0); go_simp; try with_reducible rfl
      try simp only [Act.put, List.setIfInBounds_toArray, List.set_cons_zero, List.set_cons_succ]
      refine wpAnyH_take (i := 3) (oi := ({ dst := some 56, op := Op.load 4 (Operand.tmp 55), type := 4, pos := _, after := #[{ on := 2, ground := Ground.data }], guard := none } : Oper)) (v := ?_) rfl (by kernel_rfl) (by kernel_rfl) (by kernel_rfl) (fun _ _ _ h => h) (Or.inl ⟨by rfl, ?_⟩) hHeld ?_
      rotate_left
      · intro w0 hS0; (try dsimp only at hS0); go_simp; try with_reducible rfl
      try simp only [Act.put, List.setIfInBounds_toArray, List.set_cons_zero, List.set_cons_succ]
      refine wpAnyH_take (i := 4) (oi := ({ dst := some 57, op := Op.move (Operand.tmp 56), type := 4, pos := _, after := #[{ on := 3, ground := Ground.data }], guard := none } : Oper)) (v := ?_) rfl (by kernel_rfl) (by kernel_rfl) (by kernel_rfl) (fun _ _ _ h => h) (Or.inl ⟨by rfl, ?_⟩) hHeld ?_
      rotate_left
      · intro w0 hS0; (try dsimp only at hS0); go_simp; try with_reducible rfl
      try simp only [Act.put, List.setIfInBounds_toArray, List.set_cons_zero, List.set_cons_succ]
      refine wpAnyH_take (i := 5) (oi := ({ dst := some 58, op := Op.move (Operand.tmp 0), type := 40, pos := _, after := #[{ on := 4, ground := Ground.guard }], guard := some (4, false) } : Oper)) (v := ?_) rfl (by kernel_rfl) (by kernel_rfl) (by kernel_rfl) (fun _ _ _ h => h) (Or.inl ⟨by rfl, ?_⟩) hHeld ?_
      rotate_left
      · intro w0 hS0; (try dsimp only at hS0); go_simp; try with_reducible rfl
      try simp only [Act.put, List.setIfInBounds_toArray, List.set_cons_zero, List.set_cons_succ]
      refine wpAnyH_take (i := 6) (oi := ({ dst := some 59, op := Op.nilCheck (Operand.tmp 58), type := 0, pos := _, after := #[{ on := 5, ground := Ground.data }, { on := 4, ground := Ground.guard }], guard := some (4, false) } : Oper)) (v := ?_) rfl (by kernel_rfl) (by kernel_rfl) (by kernel_rfl) (fun _ _ _ h => h) (Or.inl ⟨by rfl, ?_⟩) hHeld ?_
      rotate_left
      · intro w0 hS0; (try dsimp only at hS0); go_simp; try with_reducible rfl
      try simp only [Act.put, List.setIfInBounds_toArray, List.set_cons_zero, List.set_cons_succ]
      refine wpAnyH_take (i := 7) (oi := ({ dst := some 60, op := Op.fieldAddr 63 (Operand.tmp 59) 0, type := 0, pos := _, after := #[{ on := 6, ground := Ground.data }, { on := 4, ground := Ground.guard }], guard := some (4, false) } : Oper)) (v := ?_) rfl (by kernel_rfl) (by kernel_rfl) (by kernel_rfl) (fun _ _ _ h => h) (Or.inl ⟨by rfl, ?_⟩) hHeld ?_
      rotate_left
      · intro w0 hS0; (try dsimp only at hS0); go_simp; try with_reducible rfl
      try simp only [Act.put, List.setIfInBounds_toArray, List.set_cons_zero, List.set_cons_succ]
      refine wpAnyH_take (i := 8) (oi := ({ dst := some 61, op := Op.load 42 (Operand.tmp 60), type := 42, pos := _, after := #[{ on := 7, ground := Ground.data }, { on := 4, ground := Ground.guard }], guard := some (4, false) } : Oper)) (v := ?_) rfl (by kernel_rfl) (by kernel_rfl) (by kernel_rfl) (fun _ _ _ h => h) (Or.inl ⟨by rfl, ?_⟩) hHeld ?_
      rotate_left
      · intro w0 hS0; (try dsimp only at hS0); go_simp; try with_reducible rfl
      try simp only [Act.put, List.setIfInBounds_toArray, List.set_cons_zero, List.set_cons_succ]
      refine wpAnyH_take (i := 9) (oi := ({ dst := some 62, op := Op.move (Operand.tmp 5), type := 56, pos := _, after := #[{ on := 4, ground := Ground.guard }], guard := some (4, false) } : Oper)) (v := ?_) rfl (by kernel_rfl) (by kernel_rfl) (by kernel_rfl) (fun _ _ _ h => h) (Or.inl ⟨by rfl, ?_⟩) hHeld ?_
      rotate_left
      · intro w0 hS0; (try dsimp only at hS0); go_simp; try with_reducible rfl
      try simp only [Act.put, List.setIfInBounds_toArray, List.set_cons_zero, List.set_cons_succ]
      refine wpAnyH_take (i := 10) (oi := ({ dst := some 63, op := Op.indexAddr 56 (Operand.tmp 62) (Operand.const (Value.int IntKind.i64 0)), type := 0, pos := _, after := #[{ on := 9, ground := Ground.data }, { on := 4, ground := Ground.guard }], guard := some (4, false) } : Oper)) (v := ?_) rfl (by kernel_rfl) (by kernel_rfl) (by kernel_rfl) (fun _ _ _ h => h) (Or.inl ⟨by rfl, ?_⟩) hHeld ?_
      rotate_left
      · intro w0 hS0; (try dsimp only at hS0); go_simp; try with_reducible rfl
      try simp only [Act.put, List.setIfInBounds_toArray, List.set_cons_zero, List.set_cons_succ]
      refine wpAnyH_take (i := 11) (oi := ({ dst := some 64, op := Op.load 21 (Operand.tmp 63), type := 21, pos := _, after := #[{ on := 10, ground := Ground.data }, { on := 4, ground := Ground.guard }], guard := some (4, false) } : Oper)) (v := ?_) rfl (by kernel_rfl) (by kernel_rfl) (by kernel_rfl) (fun _ _ _ h => h) (Or.inl ⟨by rfl, ?_⟩) hHeld ?_
      rotate_left
      · intro w0 hS0; (try dsimp only at hS0); go_simp; try with_reducible rfl
      try simp only [Act.put, List.setIfInBounds_toArray, List.set_cons_zero, List.set_cons_succ]
      refine wpAnyH_ready (rs := [12]) (by kernel_rfl) (by simp) ?_
      refine AllReadyH.cons (o := ({ dst := some 65, op := Op.call { callee := Callee.value (Operand.func 36), args := #[Operand.tmp 61, Operand.tmp 64], argTypes := #[42, 21] }, type := 4, pos := _, after := #[{ on := 8, ground := Ground.data }, { on := 11, ground := Ground.data }, { on := 4, ground := Ground.chain }, { on := 4, ground := Ground.guard }], guard := some (4, false) } : Oper)) rfl (fun KK hK => ?_) AllReadyH.nil
      go_simp
      refine HBE.out.mono ?_
      rintro e w4 ⟨rfl, hB4⟩
      obtain ⟨k0, k2, kg, K4⟩ := HB4.out w4 hB4
      refine hK.out _ _ ?_ (fun hHeld2 => ?_)
      · exact ⟨k0, k2, kg⟩
      clear hK KK
      try simp only [Act.put, List.setIfInBounds_toArray, List.set_cons_zero, List.set_cons_succ]
      refine wpAnyH_take (i := 13) (oi := ({ dst := some 66, op := Op.pick (Operand.tmp 57) (Operand.const (Value.bool true)) (Operand.tmp 65), type := 4, pos := _, after := #[{ on := 4, ground := Ground.data }, { on := 12, ground := Ground.data }], guard := none } : Oper)) (v := ?_) rfl (by kernel_rfl) (by kernel_rfl) (by kernel_rfl) (fun _ _ _ h => h) (Or.inl ⟨by rfl, ?_⟩) hHeld2 ?_
      rotate_left
      · intro w0 hS0; (try dsimp only at hS0); go_simp; try with_reducible rfl
      refine wpAnyH_done (by kernel_rfl) ?_ _
      refine NoPanic.normal ?_
      clear HBE HB4 k0 k2 kg e0 e2 eg
      cases b with
      | true =>
        have hKd := K4.out.1
        have b1 : w4.cell? ⟨bb, 1, none⟩ = some (.bool sure) := by rw [block_cell hKd.bk]; rfl
        have b2 : w4.cell? ⟨bb, 2, none⟩ = some (.bool false) := by rw [block_cell hKd.bk]; rfl
        have y1 : w4.frozen? ⟨bb, 1, none⟩ = false := frozen_block hKd.bk 1
        have y2 : w4.frozen? ⟨bb, 2, none⟩ = false := frozen_block hKd.bk 2
        have HK9 := hKd.set12
        go_upto_region 11 with fail
        clear b1 b2 y1 y2
        obtain ⟨rg, rfl, f0, f1, f2, f3, ⟨u, f4⟩, f5, f6⟩ := HFIN.out ((w4.setCell ⟨bb, 1, none⟩ (.bool false)).setCell ⟨bb, 2, none⟩ (.bool false)) false false ((K4.out.2.set (p := ⟨bb, 1, none⟩) (fun q => q rfl) _).set (p := ⟨bb, 2, none⟩) (fun q => q rfl) _) (HK9) (drop_else HI.out.b r0) rfl
        have F6 : Hid (DropPost w L n t bb P c (.returned (.tuple #[])) _) := f6
        clear f6 HFIN HK3 HG3 HI HRD U1
        generalize (w4.setCell ⟨bb, 1, none⟩ (.bool false)).setCell ⟨bb, 2, none⟩ (.bool false) = W9 at f0 f1 f2 f3 f4 f5 F6 ⊢
        go_wp2_with fail
        refine wp_region_noPanic ?_
        refine wp_region_held_drew (S := fun w' => w'.cell? ⟨bb, 0, none⟩ = some (.pointer (some ⟨L.sb, 0, none⟩)) ∧ w'.cell? ⟨L.sb, 0, none⟩ = some (.slice (some ⟨rg, 0, none⟩) t.rows.length rc) ∧ w'.cell? ⟨g, off, none⟩ = some (.int .i32 (r0 : Int))) (by kernel_rfl) ⟨f0, f1, f2⟩ (fun hHeld => ?_)
        refine wpAnyH_take (i := 0) (oi := ({ dst := some 73, op := Op.move (Operand.tmp 0), type := 40, pos := _, after := #[], guard := none } : Oper)) (v := ?_) rfl (by kernel_rfl) (by kernel_rfl) (by kernel_rfl) (fun _ _ _ h => h) (Or.inl ⟨by rfl, ?_⟩) hHeld ?_
        rotate_left
        · intro w0 hS0; (try dsimp only at hS0); go_simp; try with_reducible rfl
        try simp only [Act.put, List.setIfInBounds_toArray, List.set_cons_zero, List.set_cons_succ]
        refine wpAnyH_take (i := 1) (oi := ({ dst := some 74, op := Op.nilCheck (Operand.tmp 73), type := 0, pos := _, after := #[{ on := 0, ground := Ground.data }], guard := none } : Oper)) (v := ?_) rfl (by kernel_rfl) (by kernel_rfl) (by kernel_rfl) (fun _ _ _ h => h) (Or.inl ⟨by rfl, ?_⟩) hHeld ?_
        rotate_left
        · intro w0 hS0; (try dsimp only at hS0); go_simp; try with_reducible rfl
        try simp only [Act.put, List.setIfInBounds_toArray, List.set_cons_zero, List.set_cons_succ]
        refine wpAnyH_take (i := 2) (oi := ({ dst := some 75, op := Op.fieldAddr 63 (Operand.tmp 74) 0, type := 0, pos := _, after := #[{ on := 1, ground := Ground.data }], guard := none } : Oper)) (v := ?_) rfl (by kernel_rfl) (by kernel_rfl) (by kernel_rfl) (fun _ _ _ h => h) (Or.inl ⟨by rfl, ?_⟩) hHeld ?_
        rotate_left
        · intro w0 hS0; (try dsimp only at hS0); go_simp; try with_reducible rfl
        try simp only [Act.put, List.setIfInBounds_toArray, List.set_cons_zero, List.set_cons_succ]
        refine wpAnyH_take (i := 3) (oi := ({ dst := some 76, op := Op.load 42 (Operand.tmp 75), type := 42, pos := _, after := #[{ on := 2, ground := Ground.data }], guard := none } : Oper)) (v := ?_) rfl (by kernel_rfl) (by kernel_rfl) (by kernel_rfl) (fun _ _ _ h => h) (Or.inl ⟨by rfl, ?_⟩) hHeld ?_
        rotate_left
        · intro w0 hS0; (try dsimp only at hS0); go_simp; try with_reducible rfl
        try simp only [Act.put, List.setIfInBounds_toArray, List.set_cons_zero, List.set_cons_succ]
        refine wpAnyH_take (i := 4) (oi := ({ dst := some 77, op := Op.nilCheck (Operand.tmp 76), type := 0, pos := _, after := #[{ on := 3, ground := Ground.data }], guard := none } : Oper)) (v := ?_) rfl (by kernel_rfl) (by kernel_rfl) (by kernel_rfl) (fun _ _ _ h => h) (Or.inl ⟨by rfl, ?_⟩) hHeld ?_
        rotate_left
        · intro w0 hS0; (try dsimp only at hS0); go_simp; try with_reducible rfl
        try simp only [Act.put, List.setIfInBounds_toArray, List.set_cons_zero, List.set_cons_succ]
        refine wpAnyH_take (i := 5) (oi := ({ dst := some 78, op := Op.fieldAddr 77 (Operand.tmp 77) 0, type := 0, pos := _, after := #[{ on := 4, ground := Ground.data }], guard := none } : Oper)) (v := ?_) rfl (by kernel_rfl) (by kernel_rfl) (by kernel_rfl) (fun _ _ _ h => h) (Or.inl ⟨by rfl, ?_⟩) hHeld ?_
        rotate_left
        · intro w0 hS0; (try dsimp only at hS0); go_simp; try with_reducible rfl
        try simp only [Act.put, List.setIfInBounds_toArray, List.set_cons_zero, List.set_cons_succ]
        refine wpAnyH_take (i := 6) (oi := ({ dst := some 79, op := Op.load 73 (Operand.tmp 78), type := 73, pos := _, after := #[{ on := 5, ground := Ground.data }], guard := none } : Oper)) (v := ?_) rfl (by kernel_rfl) (by kernel_rfl) (by kernel_rfl) (fun _ _ _ h => h) (Or.inl ⟨by rfl, ?_⟩) hHeld ?_
        rotate_left
        · intro w0 hS0; (try dsimp only at hS0); go_simp; try with_reducible rfl
        try simp only [Act.put, List.setIfInBounds_toArray, List.set_cons_zero, List.set_cons_succ]
        refine wpAnyH_take (i := 7) (oi := ({ dst := some 80, op := Op.move (Operand.tmp 5), type := 56, pos := _, after := #[], guard := none } : Oper)) (v := ?_) rfl (by kernel_rfl) (by kernel_rfl) (by kernel_rfl) (fun _ _ _ h => h) (Or.inl ⟨by rfl, ?_⟩) hHeld ?_
        rotate_left
        · intro w0 hS0; (try dsimp only at hS0); go_simp; try with_reducible rfl
        try simp only [Act.put, List.setIfInBounds_toArray, List.set_cons_zero, List.set_cons_succ]
        refine wpAnyH_take (i := 8) (oi := ({ dst := some 81, op := Op.indexAddr 56 (Operand.tmp 80) (Operand.const (Value.int IntKind.i64 0)), type := 0, pos := _, after := #[{ on := 7, ground := Ground.data }], guard := none } : Oper)) (v := ?_) rfl (by kernel_rfl) (by kernel_rfl) (by kernel_rfl) (fun _ _ _ h => h) (Or.inl ⟨by rfl, ?_⟩) hHeld ?_
        rotate_left
        · intro w0 hS0; (try dsimp only at hS0); go_simp; try with_reducible rfl
        try simp only [Act.put, List.setIfInBounds_toArray, List.set_cons_zero, List.set_cons_succ]
        refine wpAnyH_take (i := 9) (oi := ({ dst := some 82, op := Op.load 21 (Operand.tmp 81), type := 21, pos := _, after := #[{ on := 8, ground := Ground.data }], guard := none } : Oper)) (v := ?_) rfl (by kernel_rfl) (by kernel_rfl) (by kernel_rfl) (fun _ _ _ h => h) (Or.inl ⟨by rfl, ?_⟩) hHeld ?_
        rotate_left
        · intro w0 hS0; (try dsimp only at hS0); go_simp; try with_reducible rfl
        try simp only [Act.put, List.setIfInBounds_toArray, List.set_cons_zero, List.set_cons_succ]
        refine wpAnyH_take (i := 10) (oi := ({ dst := some 83, op := Op.indexAddr 73 (Operand.tmp 79) (Operand.tmp 82), type := 0, pos := _, after := #[{ on := 6, ground := Ground.data }, { on := 9, ground := Ground.data }, { on := 0, ground := Ground.phase }, { on := 1, ground := Ground.phase }, { on := 2, ground := Ground.phase }, { on := 3, ground := Ground.phase }, { on := 4, ground := Ground.phase }, { on := 5, ground := Ground.phase }, { on := 6, ground := Ground.phase }, { on := 7, ground := Ground.phase }, { on := 8, ground := Ground.phase }, { on := 9, ground := Ground.phase }], guard := none } : Oper)) (v := ?_) rfl (by kernel_rfl) (by kernel_rfl) (by kernel_rfl) (fun _ _ _ h => h) (Or.inl ⟨by rfl, ?_⟩) hHeld ?_
        rotate_left
        · intro w0 hS0; (try dsimp only at hS0); go_simp; try with_reducible rfl
        try simp only [Act.put, List.setIfInBounds_toArray, List.set_cons_zero, List.set_cons_succ]
        refine wpAnyH_ready (rs := [11]) (by kernel_rfl) (by simp) ?_
        refine AllReadyH.cons (o := ({ dst := none, op := Op.store 44 (Operand.tmp 83) (Operand.const (Value.slice none 0 0)), type := 0, pos := _, after := #[{ on := 10, ground := Ground.data }, { on := 0, ground := Ground.phase }, { on := 1, ground := Ground.phase }, { on := 2, ground := Ground.phase }, { on := 3, ground := Ground.phase }, { on := 4, ground := Ground.phase }, { on := 5, ground := Ground.phase }, { on := 6, ground := Ground.phase }, { on := 7, ground := Ground.phase }, { on := 8, ground := Ground.phase }, { on := 9, ground := Ground.phase }], guard := none } : Oper)) rfl (fun KK hK => ?_) AllReadyH.nil
        go_simp
        refine hK.out _ _ ?_ (fun _ => ?_)
        · exact f5
        clear hK KK
        refine wpAnyH_done (by kernel_rfl) ?_ _
        refine NoPanic.normal ?_
        go_wp2_with fail
        go_end0
        exact F6.out
      | false =>
        have hbi := HBI.out rfl
        go_wp2_with fail
        obtain ⟨rg, rfl, f0, f1, f2, f3, ⟨u, f4⟩, f5, f6⟩ := HFIN.out w4 sure false (K4.out.2) (K4.out.1) (hbi) hb
        have F6 : Hid (DropPost w L n t bb P c (.returned (.tuple #[])) _) := f6
        clear f6 HFIN HK3 HG3 HI HRD U1
        refine wp_region_noPanic ?_
        refine wp_region_held_drew (S := fun w' => w'.cell? ⟨bb, 0, none⟩ = some (.pointer (some ⟨L.sb, 0, none⟩)) ∧ w'.cell? ⟨L.sb, 0, none⟩ = some (.slice (some ⟨rg, 0, none⟩) t.rows.length rc) ∧ w'.cell? ⟨g, off, none⟩ = some (.int .i32 (r0 : Int))) (by kernel_rfl) ⟨f0, f1, f2⟩ (fun hHeld => ?_)
        refine wpAnyH_take (i := 0) (oi := ({ dst := some 73, op := Op.move (Operand.tmp 0), type := 40, pos := _, after := #[], guard := none } : Oper)) (v := ?_) rfl (by kernel_rfl) (by kernel_rfl) (by kernel_rfl) (fun _ _ _ h => h) (Or.inl ⟨by rfl, ?_⟩) hHeld ?_
        rotate_left
        · intro w0 hS0; (try dsimp only at hS0); go_simp; try with_reducible rfl
        try simp only [Act.put, List.setIfInBounds_toArray, List.set_cons_zero, List.set_cons_succ]
        refine wpAnyH_take (i := 1) (oi := ({ dst := some 74, op := Op.nilCheck (Operand.tmp 73), type := 0, pos := _, after := #[{ on := 0, ground := Ground.data }], guard := none } : Oper)) (v := ?_) rfl (by kernel_rfl) (by kernel_rfl) (by kernel_rfl) (fun _ _ _ h => h) (Or.inl ⟨by rfl, ?_⟩) hHeld ?_
        rotate_left
        · intro w0 hS0; (try dsimp only at hS0); go_simp; try with_reducible rfl
        try simp only [Act.put, List.setIfInBounds_toArray, List.set_cons_zero, List.set_cons_succ]
        refine wpAnyH_take (i := 2) (oi := ({ dst := some 75, op := Op.fieldAddr 63 (Operand.tmp 74) 0, type := 0, pos := _, after := #[{ on := 1, ground := Ground.data }], guard := none } : Oper)) (v := ?_) rfl (by kernel_rfl) (by kernel_rfl) (by kernel_rfl) (fun _ _ _ h => h) (Or.inl ⟨by rfl, ?_⟩) hHeld ?_
        rotate_left
        · intro w0 hS0; (try dsimp only at hS0); go_simp; try with_reducible rfl
        try simp only [Act.put, List.setIfInBounds_toArray, List.set_cons_zero, List.set_cons_succ]
        refine wpAnyH_take (i := 3) (oi := ({ dst := some 76, op := Op.load 42 (Operand.tmp 75), type := 42, pos := _, after := #[{ on := 2, ground := Ground.data }], guard := none } : Oper)) (v := ?_) rfl (by kernel_rfl) (by kernel_rfl) (by kernel_rfl) (fun _ _ _ h => h) (Or.inl ⟨by rfl, ?_⟩) hHeld ?_
        rotate_left
        · intro w0 hS0; (try dsimp only at hS0); go_simp; try with_reducible rfl
        try simp only [Act.put, List.setIfInBounds_toArray, List.set_cons_zero, List.set_cons_succ]
        refine wpAnyH_take (i := 4) (oi := ({ dst := some 77, op := Op.nilCheck (Operand.tmp 76), type := 0, pos := _, after := #[{ on := 3, ground := Ground.data }], guard := none } : Oper)) (v := ?_) rfl (by kernel_rfl) (by kernel_rfl) (by kernel_rfl) (fun _ _ _ h => h) (Or.inl ⟨by rfl, ?_⟩) hHeld ?_
        rotate_left
        · intro w0 hS0; (try dsimp only at hS0); go_simp; try with_reducible rfl
        try simp only [Act.put, List.setIfInBounds_toArray, List.set_cons_zero, List.set_cons_succ]
        refine wpAnyH_take (i := 5) (oi := ({ dst := some 78, op := Op.fieldAddr 77 (Operand.tmp 77) 0, type := 0, pos := _, after := #[{ on := 4, ground := Ground.data }], guard := none } : Oper)) (v := ?_) rfl (by kernel_rfl) (by kernel_rfl) (by kernel_rfl) (fun _ _ _ h => h) (Or.inl ⟨by rfl, ?_⟩) hHeld ?_
        rotate_left
        · intro w0 hS0; (try dsimp only at hS0); go_simp; try with_reducible rfl
        try simp only [Act.put, List.setIfInBounds_toArray, List.set_cons_zero, List.set_cons_succ]
        refine wpAnyH_take (i := 6) (oi := ({ dst := some 79, op := Op.load 73 (Operand.tmp 78), type := 73, pos := _, after := #[{ on := 5, ground := Ground.data }], guard := none } : Oper)) (v := ?_) rfl (by kernel_rfl) (by kernel_rfl) (by kernel_rfl) (fun _ _ _ h => h) (Or.inl ⟨by rfl, ?_⟩) hHeld ?_
        rotate_left
        · intro w0 hS0; (try dsimp only at hS0); go_simp; try with_reducible rfl
        try simp only [Act.put, List.setIfInBounds_toArray, List.set_cons_zero, List.set_cons_succ]
        refine wpAnyH_take (i := 7) (oi := ({ dst := some 80, op := Op.move (Operand.tmp 5), type := 56, pos := _, after := #[], guard := none } : Oper)) (v := ?_) rfl (by kernel_rfl) (by kernel_rfl) (by kernel_rfl) (fun _ _ _ h => h) (Or.inl ⟨by rfl, ?_⟩) hHeld ?_
        rotate_left
        · intro w0 hS0; (try dsimp only at hS0); go_simp; try with_reducible rfl
        try simp only [Act.put, List.setIfInBounds_toArray, List.set_cons_zero, List.set_cons_succ]
        refine wpAnyH_take (i := 8) (oi := ({ dst := some 81, op := Op.indexAddr 56 (Operand.tmp 80) (Operand.const (Value.int IntKind.i64 0)), type := 0, pos := _, after := #[{ on := 7, ground := Ground.data }], guard := none } : Oper)) (v := ?_) rfl (by kernel_rfl) (by kernel_rfl) (by kernel_rfl) (fun _ _ _ h => h) (Or.inl ⟨by rfl, ?_⟩) hHeld ?_
        rotate_left
        · intro w0 hS0; (try dsimp only at hS0); go_simp; try with_reducible rfl
        try simp only [Act.put, List.setIfInBounds_toArray, List.set_cons_zero, List.set_cons_succ]
        refine wpAnyH_take (i := 9) (oi := ({ dst := some 82, op := Op.load 21 (Operand.tmp 81), type := 21, pos := _, after := #[{ on := 8, ground := Ground.data }], guard := none } : Oper)) (v := ?_) rfl (by kernel_rfl) (by kernel_rfl) (by kernel_rfl) (fun _ _ _ h => h) (Or.inl ⟨by rfl, ?_⟩) hHeld ?_
        rotate_left
        · intro w0 hS0; (try dsimp only at hS0); go_simp; try with_reducible rfl
        try simp only [Act.put, List.setIfInBounds_toArray, List.set_cons_zero, List.set_cons_succ]
        refine wpAnyH_take (i := 10) (oi := ({ dst := some 83, op := Op.indexAddr 73 (Operand.tmp 79) (Operand.tmp 82), type := 0, pos := _, after := #[{ on := 6, ground := Ground.data }, { on := 9, ground := Ground.data }, { on := 0, ground := Ground.phase }, { on := 1, ground := Ground.phase }, { on := 2, ground := Ground.phase }, { on := 3, ground := Ground.phase }, { on := 4, ground := Ground.phase }, { on := 5, ground := Ground.phase }, { on := 6, ground := Ground.phase }, { on := 7, ground := Ground.phase }, { on := 8, ground := Ground.phase }, { on := 9, ground := Ground.phase }], guard := none } : Oper)) (v := ?_) rfl (by kernel_rfl) (by kernel_rfl) (by kernel_rfl) (fun _ _ _ h => h) (Or.inl ⟨by rfl, ?_⟩) hHeld ?_
        rotate_left
        · intro w0 hS0; (try dsimp only at hS0); go_simp; try with_reducible rfl
        try simp only [Act.put, List.setIfInBounds_toArray, List.set_cons_zero, List.set_cons_succ]
        refine wpAnyH_ready (rs := [11]) (by kernel_rfl) (by simp) ?_
        refine AllReadyH.cons (o := ({ dst := none, op := Op.store 44 (Operand.tmp 83) (Operand.const (Value.slice none 0 0)), type := 0, pos := _, after := #[{ on := 10, ground := Ground.data }, { on := 0, ground := Ground.phase }, { on := 1, ground := Ground.phase }, { on := 2, ground := Ground.phase }, { on := 3, ground := Ground.phase }, { on := 4, ground := Ground.phase }, { on := 5, ground := Ground.phase }, { on := 6, ground := Ground.phase }, { on := 7, ground := Ground.phase }, { on := 8, ground := Ground.phase }, { on := 9, ground := Ground.phase }], guard := none } : Oper)) rfl (fun KK hK => ?_) AllReadyH.nil
        go_simp
        refine hK.out _ _ ?_ (fun _ => ?_)
        · exact f5
        clear hK KK
        refine wpAnyH_done (by kernel_rfl) ?_ _
        refine NoPanic.normal ?_
        go_wp2_with fail
        go_end0
        exact F6.out

end Go.Proofs.Ytbicefgjompnoaa.Sx
