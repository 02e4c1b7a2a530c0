/- The program: the store of clauses, its walk. -/
import Derived.Test.YtbicefgjompnoaaA26
namespace Go.Proofs.Ytbicefgjompnoaa.Sx
open Go.RowKit Go.Sort
attribute [local go_sem] Oper.semAt_some

theorem rg_below (w : World) (fn : FuncId) (tmps : Array Value) (ps : Array Tmp) (a b : Code) : Below w.heap.size w (rgW w fn tmps ps a b) := ((Below.refl _ w).alloc (Nat.le_refl _) _).alloc (by simp) _
/-- between two rounds: b0 blocks were there ahead of all, b1 behind newStore, b2 where the rounds begin -/
structure SI (s : List Nat × List Nat) (C : List (List Int)) (b0 b1 : Nat) (W0 : World) (sb i : Nat) (W : World) (cs : List (List Nat)) (L : Ly) : Prop where
  len : cs.length = i
  set : ∀ (j : Nat) (x : List Int) (c : List Nat), C[j]? = some x → cs[j]? = some c → SetOf (x.map (litV s)) c
  at_ : SAt W L s.2.length (addAll (newP s.2.length) cs)
  sb_ : L.sb = sb
  own : ∀ b, (b < b0 ∨ b1 ≤ b ∧ b < W0.heap.size + 2) → L.own b = (0, 0)
  fr : Fr (fun b => b < b0 ∨ b1 ≤ b) W0 W
  big : W0.heap.size + 2 ≤ W.heap.size
def SIx (s : List Nat × List Nat) (C : List (List Int)) (b0 b1 : Nat) (W0 : World) (sb i : Nat) (W : World) : Prop := ∃ cs L, SI s C b0 b1 W0 sb i W cs L

section
variable {s : List Nat × List Nat} {C : List (List Int)} {b0 b1 sb i : Nat} {W0 W : World}
theorem SI.go {cs : List (List Nat)} {L : Ly} (h : SI s C b0 b1 W0 sb i W cs L) {W' : World} {P : Nat → Prop} (f : Fr P W W') (hP : ∀ b, ¬ P b → (b1 ≤ b ∧ W0.heap.size ≤ b ∧ b < W0.heap.size + 2)) : SI s C b0 b1 W0 sb i W' cs (nrm L W.heap.size) :=
  ⟨h.len, h.set, h.at_.frl f (fun b hb => h.own b (.inr ⟨(hP b hb).1, (hP b hb).2.2⟩)), h.sb_, fun b hb => nrm_zero fun _ => h.own b hb, ⟨f.os.trans h.fr.os, f.tape.trans h.fr.tape, f.output.trans h.fr.output, Nat.le_trans h.fr.size f.size, fun b hb hq => (f.block b (Nat.lt_of_lt_of_le hb h.fr.size) (Classical.byContradiction fun z => by have := (hP b z).2.1; omega)).trans (h.fr.block b hb hq)⟩, Nat.le_trans h.big f.size⟩
end

set_option maxRecDepth 100000 in
set_option maxHeartbeats 4000000 in
theorem store_any (w : World) (n pb fb base lo : Nat) (s : List Nat × List Nat) (C : List (List Int)) (cv : Value) (hn : n ≤ 16777216) (hA : NmAt w n pb fb base s) (hC : ClsAt w lo cv C) (hCn : C.length ≤ 900000000)
    (hL : ∀ x ∈ C, x.length ≤ 4294967296 ∧ ∀ y ∈ x, LitN n y ∧ s.1.getD y.natAbs 0 ≠ 0) :
    Calls Try.prog 15 #[.pointer (some ⟨fb, 0, none⟩), cv] w (StorePost w s C) := by
  obtain ⟨ca, cc, rfl, _⟩ := hC.ex
  have hbig := hC.big
  obtain ⟨vv, e1, e2⟩ := hA.ex
  have hvf : ∃ va vc, vv = .slice va s.2.length vc := by
    rcases e2.2 with ⟨q, hq⟩ | ⟨g, cap, cur, a1, _⟩
    · exact ⟨none, 0, by rw [q, hq]⟩
    · exact ⟨_, _, a1⟩
  obtain ⟨va, vc, rfl⟩ := hvf
  have cf1 : w.cell? ⟨fb, 1, none⟩ = some (.slice va s.2.length vc) := by rw [block_cell e1]; rfl
  have hfew := hA.ok.few
  have HNS : Hid (Calls _ _ _ _ _) := newStore_any w s.2.length (by omega)
  refine (callsIn_wide (n := 3)).1 ?_
  refine callsIn_of_wp_marks Try.func15 rfl trivial ?_ rfl
  simp only [Try.ntmps15, List.size_toArray, List.length_cons, List.length_nil, Nat.reduceAdd, Nat.reduceSub, Array.replicate_succ, Array.replicate_zero, List.push_toArray, List.append_toArray, List.nil_append, List.cons_append]
  gi_wp2_with fail
  refine ⟨trivial, (callsIn_wide.2 HNS.out).mono ?_⟩
  rintro e w1 ⟨L0, rfl, hS1, hF1, hO1⟩
  have HS1 : Hid (SAt w1 L0 s.2.length (newP s.2.length)) := hS1
  clear hS1 HNS
  gi_wp2_with fail
  refine ⟨trivial, (callsIn_wide.2 (sets_any _ fb ca C.length cc)).mono ?_⟩
  rintro e w3 ⟨rfl, hw3⟩
  gi_wp2_with fail
  clear hw3
  generalize hW0 : ((w1.alloc (.cells #[.pointer (some ⟨L0.sb, 0, none⟩)] 42)).alloc (.cells #[.pointer (some ⟨fb, 0, none⟩)] 38)).alloc (.cells #[.slice ca C.length cc] 22) = W0
  have hsz : W0.heap.size = w1.heap.size + 3 := by rw [← hW0]; simp
  have hB0 : Below w1.heap.size w1 W0 := by rw [← hW0]; exact ((((Below.refl _ w1).alloc (Nat.le_refl _) _).alloc (by simp) _).alloc (by simp; omega) _)
  have hb1 : W0.heap[w1.heap.size]? = some (.cells #[.pointer (some ⟨L0.sb, 0, none⟩)] 42 (0, 0)) := by
    rw [← hW0]
    exact (heap_alloc_old _ _ (by simp; omega)).trans ((heap_alloc_old _ _ (by simp)).trans (heap_alloc_new _ _))
  have hb2 : W0.heap[w1.heap.size + 1]? = some (.cells #[.pointer (some ⟨fb, 0, none⟩)] 38 (0, 0)) := by
    rw [← hW0]
    exact (heap_alloc_old _ _ (by simp)).trans (heap_new (by simp))
  have hb3 : W0.heap[w1.heap.size + 2]? = some (.cells #[.slice ca C.length cc] 22 (0, 0)) := by rw [← hW0]; exact heap_new (by simp)
  clear hW0
  have hsw := hF1.size
  -- what is so of each world between two rounds
  have hFw : ∀ (i : Nat) (W : World), SIx s C w.heap.size w1.heap.size W0 L0.sb i W → Fr (fun _ => True) w W := fun i W ⟨_, _, h⟩ =>
    ⟨h.fr.os.trans (hB0.os.trans hF1.os), h.fr.tape.trans (hB0.tape.trans hF1.tape), h.fr.output.trans (hB0.output.trans hF1.output), by have := h.fr.size; omega, fun b hb _ => (h.fr.block b (by omega) (.inl hb)).trans ((hB0.block b (by omega)).trans (hF1.block b hb trivial))⟩
  have hbx : ∀ (i : Nat) (W : World) (b : Nat), SIx s C w.heap.size w1.heap.size W0 L0.sb i W → w1.heap.size ≤ b → b < W0.heap.size → W.heap[b]? = W0.heap[b]? := fun i W b ⟨_, _, h⟩ q1 q2 => h.fr.block b q2 (.inr q1)
  have hIb : ∀ i W W', SIx s C w.heap.size w1.heap.size W0 L0.sb i W → Below W.heap.size W W' → SIx s C w.heap.size w1.heap.size W0 L0.sb i W' := fun i W W' ⟨cs, L, h⟩ hb => ⟨cs, _, h.go (P := fun _ => True) (Fr.below hb) (fun b q => absurd trivial q)⟩
  have hIp : ∀ i (W : World) o, SIx s C w.heap.size w1.heap.size W0 L0.sb i W → SIx s C w.heap.size w1.heap.size W0 L0.sb i (W.putObj (W0.heap.size + 1) o) := fun i W o ⟨cs, L, h⟩ => ⟨cs, _, h.go (P := (· ≠ W0.heap.size + 1)) ((Fr.refl _ W).put (by simp) o) (fun b q => by have : b = W0.heap.size + 1 := Classical.not_not.1 q; omega)⟩
  have hso : ∀ (i : Nat) (W : World) (cs : List (List Nat)) (L : Ly), SI s C w.heap.size w1.heap.size W0 L0.sb i W cs L → i ≤ C.length → SO s.2.length i (addAll (newP s.2.length) cs) := fun i W cs L h hi => by
    have := addAll_SO cs 0 (newP s.2.length) (newP_SO _) (fun c hc => ?_) (by have := h.len; omega)
    · rw [Nat.zero_add, h.len] at this; exact this
    · obtain ⟨j, hj, he⟩ := List.getElem_of_mem hc
      have hjC : j < C.length := by have := h.len; omega
      have hs := h.set j _ c (List.getElem?_eq_getElem hjC) (by rw [List.getElem?_eq_getElem hj, he])
      refine ⟨hs.nodup, fun x hx => ?_⟩
      obtain ⟨y, hy, rfl⟩ := List.mem_map.1 ((hs.mem x).1 hx)
      exact litV_lt hA.ok ((hL _ (List.getElem_mem hjC)).2 y hy).2
  refine range_go (F := Fence.wide) (n := 3) rfl (by omega) (gf := 50) (lb := #[.pointer (some ⟨w1.heap.size + 1 + 1, 0, none⟩), .pointer (some ⟨w1.heap.size + 1, 0, none⟩)]) rfl trivial (enters_of Try.func50 (by kernel_rfl) rfl) C.length (SIx s C w.heap.size w1.heap.size W0 L0.sb)
    (fun i W v => ∃ Wb x c b d, SIx s C w.heap.size w1.heap.size W0 L0.sb i Wb ∧ Fr (· ≠ W0.heap.size + 1) Wb W ∧ Hand s C i Wb W x c b d ∧ v = #[.slice (some ⟨b, 0, none⟩) c.length x.length]) (fun _ _ => True) (fun _ _ _ _ _ => trivial) (fun _ _ => trivial) hIb hIp ?hAp ?hAs ?hit ?h0
    (fun v => { tmps := #[.pointer (some ⟨fb, 0, none⟩), .slice ca C.length cc, undef, undef, .pointer none, .pointer (some ⟨w1.heap.size, 0, none⟩), v.getD 0 undef, .pointer (some ⟨fb, 0, none⟩), .pointer (some ⟨fb, 0, none⟩), .pointer (some ⟨fb, 1, none⟩), .slice va s.2.length vc, .int .i64 (s.2.length : Int), .pointer (some ⟨L0.sb, 0, none⟩), .pointer (some ⟨fb, 0, none⟩), .slice ca C.length cc, .func (.func 50) #[] #[.pointer (some ⟨w1.heap.size + 1 + 1, 0, none⟩), .pointer (some ⟨w1.heap.size + 1, 0, none⟩)], v.getD 0 undef, undef, undef, undef, undef], defers := [] }) ?hassign ?hbody ?hdone
  case hAp =>
    rintro i W v o ⟨Wb, x, c, b, d, hI, hf, hH, rfl⟩
    have hbig2 : W0.heap.size + 2 ≤ Wb.heap.size := by obtain ⟨_, _, q⟩ := hI; exact q.big
    have hbn : b ≠ W0.heap.size + 1 := by have := hH.new; omega
    exact ⟨Wb, x, c, b, d, hI, hf.put (by simp) o, ⟨hH.x_, hH.set, hH.al, hH.new, (World.putObj_heap_other hbn).trans hH.row, hH.tk, hH.sz⟩, rfl⟩
  case hAs =>
    rintro i W v ⟨Wb, x, c, b, d, hI, hf, hH, rfl⟩
    rfl
  case hit =>
    intro fn J hJb hJI hJs hY hJ0
    refine sets1_in 2 (W0.heap.size + 1) (w1.heap.size + 1 + 1) (w1.heap.size + 1) n pb fb base lo s C (.slice ca C.length cc) J hn hL hJb (fun i W hJ => ?_) (fun i W x c hJ hx hset hal => ?_) (fun i Wb W x c b d hJ hb hH => ?_) _ hJ0
    · have hI := hJI i W hJ
      have hf := hFw i W hI
      refine ⟨?_, ?_, hA.fr hf, hC.of (hf.mono fun _ _ => trivial)⟩
      · rw [block_cell ((hbx i W _ hI (by omega) (by omega)).trans hb3)]; rfl
      · rw [block_cell ((hbx i W _ hI (by omega) (by omega)).trans hb2)]; rfl
    · obtain ⟨cs, L, h⟩ := hJI i W hJ
      refine hJs i W hJ ⟨cs ++ [c], L, by simp [h.len], fun j x' c' hx' hc' => ?_, by rw [addAll_snoc, if_pos hal]; exact h.at_, h.sb_, h.own, h.fr, h.big⟩
      by_cases hj : j < cs.length
      · rw [List.getElem?_append_left hj] at hc'
        exact h.set j x' c' hx' hc'
      · have := (List.getElem?_eq_some_iff.1 hc').1
        simp at this
        have hjl : j = cs.length := by omega
        rw [hjl] at hc'
        have : c = c' := by simpa using hc'
        rw [← this]
        rw [hjl, h.len, hx] at hx'
        cases hx'
        exact hset
    · obtain ⟨f1, f2, f3, f4, f5, f6⟩ := hY i W _ (hJb i Wb W hJ hb) ⟨Wb, x, c, b, d, hJI i Wb hJ, Fr.below hb, hH, rfl⟩
      exact ⟨f1, f2, f3, f4, f5, f6.mono fun e W' q => ⟨q.1, q.2.1⟩⟩
  case h0 =>
    intro fn
    refine ⟨[], nrm L0 w1.heap.size, rfl, fun j x c _ hc => by simp at hc, HS1.out.frl (P := fun _ => True) (Fr.below (hB0.trans ((rg_below _ _ _ _ _ _).mono hB0.size))) (fun b q => absurd trivial q), rfl, fun b q => nrm_zero fun hlt => ?_, Fr.below (rg_below _ _ _ _ _ _), by unfold rgW; simp⟩
    rcases q with q | q
    · exact hO1 b q
    · omega
  case hassign =>
    rintro i v W K ⟨Wb, x, c, b, d, hI, hf, hH, rfl⟩ hK
    gi_wp2_with fail
    exact hK
  case hbody =>
    rintro i v W _ ⟨Wb, x, c, b, d, ⟨cs, L, hSI⟩, hf, hH, rfl⟩
    have hI2 := hSI.go hf (fun b q => by have : b = W0.heap.size + 1 := Classical.not_not.1 q; omega)
    have hIx : SIx s C w.heap.size w1.heap.size W0 L0.sb i W := ⟨cs, _, hI2⟩
    have hxm : x ∈ C := List.mem_of_getElem? hH.x_
    have hiC : i < C.length := (List.getElem?_eq_some_iff.1 hH.x_).1
    have hO := hso i W cs _ hI2 (by omega)
    have hlx : ∀ y ∈ c, y < 2 * s.2.length := fun y hy => by
      obtain ⟨z, hz, rfl⟩ := List.mem_map.1 ((hH.set.mem y).1 hy)
      exact litV_lt hA.ok ((hL x hxm).2 z hz).2
    have hown : (nrm L Wb.heap.size).own b = (0, 0) := nrm_new hH.new
    have HADD := add_any W (nrm L Wb.heap.size) s.2.length i (addAll (newP s.2.length) cs) b c d hI2.at_ hO.F.I hO.R.few (by have := hO.em; omega) hO.rl (by omega) ⟨hH.row, hH.tk, by rw [hH.sz]; exact (hL x hxm).1, hown⟩ hlx
    rw [hI2.sb_, hH.sz] at HADD
    have HADD2 : Hid (Calls _ _ _ _ _) := HADD
    have cs0 : W.cell? ⟨w1.heap.size, 0, none⟩ = some (.pointer (some ⟨L0.sb, 0, none⟩)) := by rw [block_cell ((hbx i W _ hIx (by omega) (by omega)).trans hb1)]; rfl
    clear HADD
    gi_wp2_with fail
    refine ⟨trivial, (CallsIn.inRound _ (callsIn_wide.2 HADD2.out)).mono ?_⟩
    rintro e W' ⟨rfl, L3, h3, h4, _⟩
    gi_wp2_with fail
    have hbb : W0.heap.size + 2 ≤ Wb.heap.size := hSI.big
    have hbn := hH.new
    have hWs := hI2.big
    have hold : ∀ k, k < W.heap.size → k ≠ b → (k < w.heap.size ∨ w1.heap.size ≤ k ∧ k < W0.heap.size + 2) → W'.heap[k]? = W.heap[k]? := fun k q1 q2 q3 => h4.block k q1 q2 (hI2.own k q3)
    have hbW := block_lt hH.row
    refine ⟨hold _ (by omega) (by omega) (.inr ⟨by omega, by omega⟩), hold _ (by omega) (by omega) (.inr ⟨by omega, by omega⟩), trivial, cs ++ [c], L3, by simp [hSI.len], fun j x' c' hx' hc' => ?_, ?_, h4.sb.trans hI2.sb_, fun k q => ?_, ⟨h4.os.trans hI2.fr.os, h4.tape.trans hI2.fr.tape, h4.output.trans hI2.fr.output, Nat.le_trans hI2.fr.size h4.size, fun k q1 q2 => ?_⟩, Nat.le_trans hWs h4.size⟩
    · by_cases hj : j < cs.length
      · rw [List.getElem?_append_left hj] at hc'
        exact hSI.set j x' c' hx' hc'
      · have := (List.getElem?_eq_some_iff.1 hc').1
        simp at this
        have hjl : j = cs.length := by omega
        rw [hjl] at hc'
        have : c = c' := by simpa using hc'
        rw [← this]
        rw [hjl, hSI.len, hH.x_] at hx'
        cases hx'
        exact hH.set
    · rw [addAll_snoc, if_neg (by rw [hH.al]; simp)]
      exact h3
    · have hk : k < W.heap.size := by omega
      exact (h4.own k hk (by omega)).trans (hI2.own k q)
    · refine (hold k (by omega) (by omega) ?_).trans (hI2.fr.block k q1 q2)
      rcases q2 with z | z
      · exact .inl z
      · exact .inr ⟨z, by omega⟩
  case hdone =>
    rintro W ⟨cs, L, h⟩ hK
    have cs0 : W.cell? ⟨w1.heap.size, 0, none⟩ = some (.pointer (some ⟨L0.sb, 0, none⟩)) := by rw [block_cell ((hbx _ W _ ⟨cs, L, h⟩ (by omega) (by omega)).trans hb1)]; rfl
    have hf := hFw _ W ⟨cs, L, h⟩
    gi_wp2_with fail
    refine ⟨by simp, .inl ⟨_, _, rfl, run_takeDeferred hK, ?_⟩⟩
    refine ⟨_, results_tmp rfl _ _ _, cs, nrm L W.heap.size, by rw [← h.sb_]; rfl, h.len, h.set, h.at_.frl (P := (· ≠ W0.heap.size)) ((Fr.refl _ W).put (by simp) _) (fun b q => h.own b (.inr (by have : b = W0.heap.size := Classical.not_not.1 q; omega))), ⟨hf.os, hf.tape, hf.output, by have := hf.size; simpa using this, fun b hb _ => (World.putObj_heap_other (by omega)).trans (hf.block b hb trivial)⟩, fun b hb => nrm_zero fun _ => h.own b (.inl hb)⟩

end Go.Proofs.Ytbicefgjompnoaa.Sx
