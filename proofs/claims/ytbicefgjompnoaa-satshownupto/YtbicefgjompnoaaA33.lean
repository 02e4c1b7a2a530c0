/- The program: settle, whatever is known; back, deferred. -/
import Derived.Test.YtbicefgjompnoaaA32
import Derived.Defers
namespace Go.Proofs.Ytbicefgjompnoaa.Sx
open Go.RowKit Go.Sort

set_option maxRecDepth 100000 in
set_option maxHeartbeats 2000000 in
theorem settle_known (w : World) (L : Ly) (n : Nat) (s : St) (bb : Nat) (b : Bool) (mv : Value) (h : BkAt w L n s bb b (!b) mv) (hI : BI n s b (!b)) :
    Calls Try.prog 37 #[.pointer (some ⟨bb, 0, none⟩)] w (SetlPost w L n s bb mv) := by
  have mo := follows
  have hbW : (w.alloc (.cells #[.pointer (some ⟨bb, 0, none⟩)] 40)).heap[bb]? = some (.cells #[.pointer (some ⟨L.sb, 0, none⟩), .bool b, .bool (!b), mv] 63 (0, 0)) := (heap_alloc_old w _ (block_lt h.bk)).trans h.bk
  have HP : Hid (SetlPost w L n s bb mv (.returned (.tuple #[])) (w.alloc (.cells #[.pointer (some ⟨bb, 0, none⟩)] 40))) := ⟨rfl, nrm L w.heap.size, s, b, ⟨h.at_.frl (P := fun _ => True) ((Fr.refl _ w).alloc _) (fun b q => absurd trivial q), hbW, nrm_zero fun _ => h.ow⟩, hI, SC.refl _, ⟨rfl, rfl, rfl, by simp, fun b hb _ _ => heap_alloc_old w _ hb, fun b hb _ => nrm_old hb, rfl⟩⟩
  have c3 : (w.alloc (.cells #[.pointer (some ⟨bb, 0, none⟩)] 40)).cell? ⟨bb, 1, none⟩ = some (.bool b) := by rw [block_cell hbW]; rfl
  have c4 : (w.alloc (.cells #[.pointer (some ⟨bb, 0, none⟩)] 40)).cell? ⟨bb, 2, none⟩ = some (.bool (!b)) := by rw [block_cell hbW]; rfl
  clear h hI hbW
  cases b
  all_goals
    go_enter Try.func37, Try.ntmps37
    go_wp2_with fail
    go_end0
    exact HP.out
/-- settle, whatever is known -/
theorem settle_any (w : World) (L : Ly) (n : Nat) (s : St) (bb : Nat) (sure never : Bool) (mv : Value) (h : BkAt w L n s bb sure never mv) (hI : BI n s sure never) (hb : (sure && never) = false) (hem : s.empty ≤ 1000000000000) :
    Calls Try.prog 37 #[.pointer (some ⟨bb, 0, none⟩)] w (SetlPost w L n s bb mv) := by
  cases sure <;> cases never
  · exact settle_go w L n s bb mv h hI.b hem
  · exact settle_known w L n s bb false mv h hI
  · exact settle_known w L n s bb true mv h hI
  · simp at hb

set_option maxRecDepth 100000 in
set_option maxHeartbeats 4000000 in
theorem back_d (u : FrameMode) (w : World) (L : Ly) (n : Nat) (s : St) (h : SAt w L n s) (hk : ∀ c ∈ s.cuts, c ≤ s.trail.length) (hdn : s.done ≤ s.trail.length) (hcl : s.cuts.length ≤ 1000) :
    CallsD Try.prog 39 #[.pointer (some ⟨L.sb, 0, none⟩), .int .i64 0] u w fun e u' w' => u' = u ∧ StPost w L n (backP s) (.tuple #[]) e w' := by
  have mo := follows
  have HLV := level_any w L n s h
  obtain ⟨ca, cc, hcv⟩ := (h.1.cu trivial).form
  have c9 : w.cell? ⟨L.sb, 9, none⟩ = some (.slice ca s.cuts.length cc) := by have := h.cell 9; simp only [stC, hcv] at this; exact this
  have HS : Hid (SAt w L n s) := h
  have hcu := h.1.cu trivial
  rw [hcv] at hcu
  cases hc : s.cuts with
  | nil =>
    have e : backP s = s := by unfold backP; rw [hc]
    rw [e]
    rw [hc] at HLV c9
    have HLV2 : Hid (Calls _ _ _ _ _) := HLV
    clear HLV e hc hcu hcv
    go_enter_d Try.func39, Try.ntmps39
    go_wp2_with (go_at_call 60; refine HLV2.out.mono ?_; rintro e w' ⟨rfl, hw⟩; obtain rfl := hw.symm)
    go_end0
    exact ⟨rfl, L, HS.out, FrS.refl _ _⟩
  | cons c rest =>
    have hlen : s.cuts.length = rest.length + 1 := by rw [hc]; rfl
    have hcT : c ≤ s.trail.length := hk c (by rw [hc]; exact List.mem_cons_self)
    obtain ⟨g, hga, hgo, cg, hgc⟩ := hcu.cell1 (i := 0) (u := .int .i64 (c : Int)) (by rw [hc]; rfl)
    subst hga
    obtain ⟨SB, hSB⟩ : ∃ SB, backP s = SB := ⟨_, rfl⟩
    rw [hSB]
    have HSB : Hid ({ forgetP s c with cuts := (forgetP s c).cuts.take 0 } = SB) := by
      rw [← hSB]; unfold backP; rw [hc]; rfl
    have HFG : Hid (Calls _ _ _ _ _) := forget_any w L n s c h hcT hdn
    rw [hlen] at HLV c9 hgc
    have HLV2 : Hid (Calls _ _ _ _ _) := HLV
    have hz : (0 : Int) < (rest.length : Int) + 1 := by omega
    have hz2 : (0 : Int) < ((rest.length + 1 : Nat) : Int) := by omega
    clear HLV hc hcu hcv hSB h
    go_enter_d Try.func39, Try.ntmps39
    go_upto_region 2 with (first | (go_at_call 60; refine HLV2.out.mono ?_; rintro e w' ⟨rfl, hw⟩; obtain rfl := hw.symm) | (go_at_call 56; refine HFG.out.mono ?_; rintro e w1 ⟨rfl, L1, h1, h2⟩))
    obtain ⟨ca1, cc1, hcv1⟩ := (h1.1.cu trivial).form
    have hc1 : (forgetP s c).cuts.length = rest.length + 1 := hlen
    rw [hc1] at hcv1
    have d9 : w1.cell? ⟨L1.sb, 9, none⟩ = some (.slice ca1 (rest.length + 1) cc1) := by have := h1.cell 9; simp only [stC, hcv1] at this; exact this
    rw [h2.sb] at d9
    have z9 := h1.free 9
    rw [h2.sb] at z9
    have S2 := h1.cutCuts (a := ca1) (cap := cc1) (k := 0) (by rw [hc1]; exact hcv1) (Nat.zero_le _)
    have S3 : Hid (SAt (w1.setCell ⟨L.sb, 9, none⟩ (.slice ca1 0 cc1)) { L1 with cv := .slice ca1 0 cc1 } n SB) := by rw [← HSB.out, ← h2.sb]; exact S2
    have F3 : Hid (FrS L { L1 with cv := .slice ca1 0 cc1 } w (w1.setCell ⟨L.sb, 9, none⟩ (.slice ca1 0 cc1))) := by
      have f := h2.set (b := L.sb) (i := 9) (v := .slice ca1 0 cc1) (by rw [← h2.sb, (h1.1.st trivial).2]; decide)
      exact ⟨f.os, f.tape, f.output, f.size, f.block, f.own, f.sb⟩
    clear S2 h1 h2 HFG HLV2 HS c9 cg hcv1
    go_wp2_with fail
    go_end0
    exact ⟨rfl, _, S3.out, F3.out⟩

end Go.Proofs.Ytbicefgjompnoaa.Sx
