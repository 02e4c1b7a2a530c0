/- The store: believe. -/
import Derived.Test.YtbicefgjompnoaaA14
namespace Go.Proofs.Ytbicefgjompnoaa.Sx
open Go.RowKit Go.Sort

/-- a literal becomes true, because of a row, or of none -/
def believeP (s : St) (l : Nat) (y : Int) : St := { s with truth := (s.truth.set l 1).set (opp l) (-1), why := s.why.set (l / 2) y, depth := s.depth.set (l / 2) (s.cuts.length : Int), trail := s.trail ++ [l] }
theorem opp_lt {l n : Nat} (h : l < 2 * n) : opp l < 2 * n := by unfold opp; split <;> omega

theorem SAt.setTruth {w : World} {L : Ly} {n : Nat} {s : St} (h : SAt w L n s) (l : Nat) (v : Int) (hv : v = 1 ∨ v = 0 ∨ v = -1) : SAt (w.setCell ⟨L.tb, l, none⟩ (.int .i8 v)) L n { s with truth := s.truth.set l v } := by
  obtain ⟨h1, h2⟩ := h.1.tr trivial
  have k : SAtK (· ≠ (5, 0)) (w.setCell ⟨L.tb, l, none⟩ (.int .i8 v)) L n s := (h.1.mono (K' := (· ≠ (5, 0))) fun _ _ => trivial).fr fun b hb hk => Below.heap_setCell w ⟨L.tb, l, none⟩ _ b (fun e => hk (by rw [e]; exact h2))
  refine ⟨⟨fun _ => k.st (by decide), fun _ => k.wt (by decide), fun _ => ⟨?_, h2⟩, fun _ => k.wy (by decide), fun _ => k.dp (by decide), fun _ => k.ro (by decide), fun _ => k.si (by decide), fun _ => k.ta (by decide), fun _ => k.cu (by decide), fun l _ => k.wl l (by simp), fun r _ => k.rl r (by simp)⟩, ⟨h.2.n_, ?_, h.2.wy, h.2.dp, h.2.wt, h.2.wv, h.2.rr, ?_, h.2.lit, h.2.few, h.2.rows⟩⟩
  · have := set_block h1 l (.int .i8 v)
    rw [this]
    simp [i8C, List.map_set]
  · simp [h.2.tr]
  · intro x
    show (s.truth.set l v).getD x 0 = 1 ∨ _
    rw [List.getD_eq_getElem?_getD, List.getElem?_set]
    by_cases q : l = x
    · rw [if_pos q]
      split
      · simpa using hv
      · simp
    · rw [if_neg q, ← List.getD_eq_getElem?_getD]
      exact h.2.t3 x
theorem SAt.setWhy {w : World} {L : Ly} {n : Nat} {s : St} (h : SAt w L n s) (l : Nat) (v : Int) : SAt (w.setCell ⟨L.yb, l, none⟩ (.int .i32 v)) L n { s with why := s.why.set l v } := by
  obtain ⟨h1, h2⟩ := h.1.wy trivial
  have k : SAtK (· ≠ (6, 0)) (w.setCell ⟨L.yb, l, none⟩ (.int .i32 v)) L n s := (h.1.mono (K' := (· ≠ (6, 0))) fun _ _ => trivial).fr fun b hb hk => Below.heap_setCell w ⟨L.yb, l, none⟩ _ b (fun e => hk (by rw [e]; exact h2))
  refine ⟨⟨fun _ => k.st (by decide), fun _ => k.wt (by decide), fun _ => k.tr (by decide), fun _ => ⟨?_, h2⟩, fun _ => k.dp (by decide), fun _ => k.ro (by decide), fun _ => k.si (by decide), fun _ => k.ta (by decide), fun _ => k.cu (by decide), fun l _ => k.wl l (by simp), fun r _ => k.rl r (by simp)⟩, ⟨h.2.n_, h.2.tr, ?_, h.2.dp, h.2.wt, h.2.wv, h.2.rr, h.2.t3, h.2.lit, h.2.few, h.2.rows⟩⟩
  · have := set_block h1 l (.int .i32 v)
    rw [this]
    simp [i32C, List.map_set]
  · simp [h.2.wy]
theorem SAt.setDepth {w : World} {L : Ly} {n : Nat} {s : St} (h : SAt w L n s) (l : Nat) (v : Int) : SAt (w.setCell ⟨L.db, l, none⟩ (.int .i32 v)) L n { s with depth := s.depth.set l v } := by
  obtain ⟨h1, h2⟩ := h.1.dp trivial
  have k : SAtK (· ≠ (7, 0)) (w.setCell ⟨L.db, l, none⟩ (.int .i32 v)) L n s := (h.1.mono (K' := (· ≠ (7, 0))) fun _ _ => trivial).fr fun b hb hk => Below.heap_setCell w ⟨L.db, l, none⟩ _ b (fun e => hk (by rw [e]; exact h2))
  refine ⟨⟨fun _ => k.st (by decide), fun _ => k.wt (by decide), fun _ => k.tr (by decide), fun _ => k.wy (by decide), fun _ => ⟨?_, h2⟩, fun _ => k.ro (by decide), fun _ => k.si (by decide), fun _ => k.ta (by decide), fun _ => k.cu (by decide), fun l _ => k.wl l (by simp), fun r _ => k.rl r (by simp)⟩, ⟨h.2.n_, h.2.tr, h.2.wy, ?_, h.2.wt, h.2.wv, h.2.rr, h.2.t3, h.2.lit, h.2.few, h.2.rows⟩⟩
  · have := set_block h1 l (.int .i32 v)
    rw [this]
    simp [i32C, List.map_set]
  · simp [h.2.dp]
/-- a store into a block of the store's -/
theorem FrS.set {L L' : Ly} {w w' : World} (h : FrS L L' w w') {b i : Nat} {v : Value} (hb : L'.own b ≠ (0, 0)) : FrS L L' w (w'.setCell ⟨b, i, none⟩ v) :=
  ⟨h.os, h.tape, h.output, by simpa using h.size, fun k hk ho => by rw [Below.heap_setCell w' ⟨b, i, none⟩ v k (fun e => hb (by rw [← show k = b from e, h.own k hk, ho]))]; exact h.block k hk ho, h.own, h.sb⟩
theorem FrS.drew {L L' : Ly} {w w' : World} (h : FrS L L' w w') : FrS L L' w w'.drew := ⟨h.os, h.tape, h.output, h.size, h.block, h.own, h.sb⟩
theorem FrS.drewN {L L' : Ly} {w w' : World} (h : FrS L L' w w') (q : Nat) : FrS L L' w (w'.drewN q) := ⟨h.os, h.tape, h.output, h.size, h.block, h.own, h.sb⟩
theorem FrS.alloc {L L' : Ly} {w w' : World} (h : FrS L L' w w') (o : Obj) : FrS L L' w (w'.alloc o) := ⟨h.os, h.tape, h.output, by have := h.size; simp; omega, fun k hk ho => (heap_alloc_old w' o (Nat.lt_of_lt_of_le hk h.size)).trans (h.block k hk ho), h.own, h.sb⟩
/-- cells of the struct that hold the tables -/
theorem SAt.c4 {w : World} {L : Ly} {n : Nat} {s : St} (h : SAt w L n s) : w.cell? ⟨L.sb, 4, none⟩ = some (.slice (some ⟨L.tb, 0, none⟩) (2 * n) (2 * n)) := h.cell 4
theorem SAt.c5 {w : World} {L : Ly} {n : Nat} {s : St} (h : SAt w L n s) : w.cell? ⟨L.sb, 5, none⟩ = some (.slice (some ⟨L.yb, 0, none⟩) n n) := h.cell 5
theorem SAt.c6 {w : World} {L : Ly} {n : Nat} {s : St} (h : SAt w L n s) : w.cell? ⟨L.sb, 6, none⟩ = some (.slice (some ⟨L.db, 0, none⟩) n n) := h.cell 6
theorem SAt.tfree {w : World} {L : Ly} {n : Nat} {s : St} (h : SAt w L n s) (i : Nat) : w.frozen? ⟨L.tb, i, none⟩ = false := frozen_block (h.1.tr trivial).1 i
theorem SAt.yfree {w : World} {L : Ly} {n : Nat} {s : St} (h : SAt w L n s) (i : Nat) : w.frozen? ⟨L.yb, i, none⟩ = false := frozen_block (h.1.wy trivial).1 i
theorem SAt.dfree {w : World} {L : Ly} {n : Nat} {s : St} (h : SAt w L n s) (i : Nat) : w.frozen? ⟨L.db, i, none⟩ = false := frozen_block (h.1.dp trivial).1 i
theorem SAt.why_ {w : World} {L : Ly} {n : Nat} {s : St} (h : SAt w L n s) {l : Nat} (hl : l < n) : w.cell? ⟨L.yb, l, none⟩ = some (.int .i32 (s.why.getD l 0)) := by
  rw [block_cell (h.1.wy trivial).1]
  have : l < s.why.length := by rw [h.2.wy]; exact hl
  simp [i32C, this]
theorem SAt.depth_ {w : World} {L : Ly} {n : Nat} {s : St} (h : SAt w L n s) {l : Nat} (hl : l < n) : w.cell? ⟨L.db, l, none⟩ = some (.int .i32 (s.depth.getD l 0)) := by
  rw [block_cell (h.1.dp trivial).1]
  have : l < s.depth.length := by rw [h.2.dp]; exact hl
  simp [i32C, this]
set_option maxRecDepth 100000 in
set_option maxHeartbeats 1000000 in
theorem level_cell (w : World) (b k cap : Nat) (a : Option Addr) (hc : w.cell? ⟨b, 9, none⟩ = some (.slice a k cap)) : Calls Try.prog 60 #[.pointer (some ⟨b, 0, none⟩)] w fun e w' => e = .returned (.int .i64 (k : Int)) ∧ w' = w := by
  have mo := follows
  go_enter Try.func60, Try.ntmps60
  go_wp2_with fail
  go_ret
  exact ⟨rfl, rfl⟩

end Go.Proofs.Ytbicefgjompnoaa.Sx
/- The store: forget, back. -/
namespace Go.Proofs.Ytbicefgjompnoaa.Sx
open Go.RowKit Go.Sort

/-- literals are neither true nor false any more -/
def unP (t : List Int) (ls : List Nat) : List Int := ls.foldl (fun t l => (t.set l 0).set (opp l) 0) t
/-- all but so many of what is true is taken back -/
def forgetP (s : St) (k : Nat) : St := { s with truth := unP s.truth (s.trail.drop k), trail := s.trail.take k, done := min s.done k }

theorem v32_get {l : List Nat} {i x : Nat} (h : l[i]? = some x) : (v32 l)[i]? = some (.int .i32 (x : Int)) := by simp [v32, h]
/-- a cell of a row of literals or numbers -/
theorem OwnR.cell1 {w : World} {own : Nat → Nat × Nat} {t : Nat × Nat} {e : Nat} {a : Option Addr} {n m cap : Nat} {xs : List Value} (h : OwnR w own t e 1 (.slice a m cap) n xs) {i : Nat} {u : Value} (hu : xs[i]? = some u) : ∃ g, a = some ⟨g, 0, none⟩ ∧ own g = t ∧ w.cell? ⟨g, i, none⟩ = some u ∧ m ≤ cap := by
  have hi : i < xs.length := (List.getElem?_eq_some_iff.1 hu).1
  rcases h.1.2 with ⟨e1, hn⟩ | ⟨g, cap', cur, e1, hb, hg, hc, _, hs, ht⟩
  · have := h.1.1; rw [hn] at this; omega
  · cases e1
    refine ⟨g, rfl, h.2 g rfl, ?_, hc⟩
    rw [block_cell hg]
    rw [← ht, List.getElem?_take] at hu
    split at hu
    · simpa using hu
    · simp at hu
/-- a row that is cut short -/
theorem OwnR.take1 {w : World} {own : Nat → Nat × Nat} {t : Nat × Nat} {e : Nat} {a : Option Addr} {n cap : Nat} {xs : List Value} (h : OwnR w own t e 1 (.slice a n cap) n xs) {k : Nat} (hk : k ≤ n) : OwnR w own t e 1 (.slice a k cap) k (xs.take k) := by
  refine ⟨⟨by rw [List.length_take, h.1.1]; omega, ?_⟩, fun g hg => h.2 g (by cases a <;> exact hg)⟩
  rcases h.1.2 with ⟨e1, hn⟩ | ⟨g, cap', cur, e1, hb, hg, hc, hm, hs, ht⟩
  · cases e1
    exact .inl ⟨by rw [show k = 0 from by omega], by omega⟩
  · cases e1
    refine .inr ⟨g, _, cur, rfl, hb, hg, by omega, hm, hs, ?_⟩
    rw [← ht, List.take_take]
    congr 1
    omega

end Go.Proofs.Ytbicefgjompnoaa.Sx
/- The store: its struct's fields. -/
namespace Go.Proofs.Ytbicefgjompnoaa.Sx
open Go.RowKit Go.Sort

section
variable {w : World} {L : Ly} {n : Nat} {s : St}
theorem SAt.sbne (h : SAt w L n s) {b : Nat} {t : Nat × Nat} (hb : L.own b = t) (ht : t ≠ (1, 0)) : b ≠ L.sb := fun e => ht (by rw [← hb, e]; exact (h.1.st trivial).2)
theorem OwnR.setSb {t : Nat × Nat} {e k i : Nat} {v u : Value} {m : Nat} {xs : List Value} (h : SAt w L n s) (hr : OwnR w L.own t e k v m xs) (ht : t ≠ (1, 0)) : OwnR (w.setCell ⟨L.sb, i, none⟩ u) L.own t e k v m xs :=
  hr.fr fun _ _ ho => Below.heap_setCell w ⟨L.sb, i, none⟩ u _ (h.sbne ho ht)
theorem SAt.setDone (h : SAt w L n s) (d : Nat) : SAt (w.setCell ⟨L.sb, 8, none⟩ (.int .i64 (d : Int))) L n { s with done := d } := by
  obtain ⟨k1, k2, k3⟩ := h.1.setSt trivial 8 (.int .i64 (d : Int))
  exact ⟨⟨fun _ => ⟨k2, k3⟩, fun _ => k1.wt (by decide), fun _ => k1.tr (by decide), fun _ => k1.wy (by decide), fun _ => k1.dp (by decide), fun _ => k1.ro (by decide), fun _ => k1.si (by decide), fun _ => k1.ta (by decide), fun _ => k1.cu (by decide), fun l _ => k1.wl l (by simp), fun r _ => k1.rl r (by simp)⟩, ⟨h.2.n_, h.2.tr, h.2.wy, h.2.dp, h.2.wt, h.2.wv, h.2.rr, h.2.t3, h.2.lit, h.2.few, h.2.rows⟩⟩
theorem SAt.setEmpty (h : SAt w L n s) (d : Nat) : SAt (w.setCell ⟨L.sb, 2, none⟩ (.int .i64 (d : Int))) L n { s with empty := d } := by
  obtain ⟨k1, k2, k3⟩ := h.1.setSt trivial 2 (.int .i64 (d : Int))
  exact ⟨⟨fun _ => ⟨k2, k3⟩, fun _ => k1.wt (by decide), fun _ => k1.tr (by decide), fun _ => k1.wy (by decide), fun _ => k1.dp (by decide), fun _ => k1.ro (by decide), fun _ => k1.si (by decide), fun _ => k1.ta (by decide), fun _ => k1.cu (by decide), fun l _ => k1.wl l (by simp), fun r _ => k1.rl r (by simp)⟩, ⟨h.2.n_, h.2.tr, h.2.wy, h.2.dp, h.2.wt, h.2.wv, h.2.rr, h.2.t3, h.2.lit, h.2.few, h.2.rows⟩⟩
theorem SAt.cutTrail (h : SAt w L n s) {a : Option Addr} {cap k : Nat} (hv : L.tv = .slice a s.trail.length cap) (hk : k ≤ s.trail.length) : SAt (w.setCell ⟨L.sb, 7, none⟩ (.slice a k cap)) { L with tv := .slice a k cap } n { s with trail := s.trail.take k } := by
  obtain ⟨k1, k2, k3⟩ := h.1.setSt trivial 7 (.slice a k cap)
  have hr := h.1.ta trivial
  rw [hv] at hr
  refine ⟨⟨fun _ => ⟨k2, k3⟩, fun _ => k1.wt (by decide), fun _ => k1.tr (by decide), fun _ => k1.wy (by decide), fun _ => k1.dp (by decide), fun _ => k1.ro (by decide), fun _ => k1.si (by decide), fun _ => ?_, fun _ => k1.cu (by decide), fun l _ => k1.wl l (by simp), fun r _ => k1.rl r (by simp)⟩, ⟨h.2.n_, h.2.tr, h.2.wy, h.2.dp, h.2.wt, h.2.wv, h.2.rr, h.2.t3, fun l hl => h.2.lit l (List.mem_of_mem_take hl), by show (s.trail.take k).length ≤ n; have := h.2.few; rw [List.length_take]; omega, h.2.rows⟩⟩
  have := OwnR.setSb (i := 7) (u := .slice a k cap) h (hr.take1 hk) (by decide)
  have e1 : (s.trail.take k).length = k := by rw [List.length_take]; omega
  have e2 : v32 (s.trail.take k) = (v32 s.trail).take k := by simp [v32, List.map_take]
  show OwnR _ _ _ _ _ _ (s.trail.take k).length (v32 (s.trail.take k))
  rw [e1, e2]
  exact this
theorem SAt.cutCuts (h : SAt w L n s) {a : Option Addr} {cap k : Nat} (hv : L.cv = .slice a s.cuts.length cap) (hk : k ≤ s.cuts.length) : SAt (w.setCell ⟨L.sb, 9, none⟩ (.slice a k cap)) { L with cv := .slice a k cap } n { s with cuts := s.cuts.take k } := by
  obtain ⟨k1, k2, k3⟩ := h.1.setSt trivial 9 (.slice a k cap)
  have hr := h.1.cu trivial
  rw [hv] at hr
  refine ⟨⟨fun _ => ⟨k2, k3⟩, fun _ => k1.wt (by decide), fun _ => k1.tr (by decide), fun _ => k1.wy (by decide), fun _ => k1.dp (by decide), fun _ => k1.ro (by decide), fun _ => k1.si (by decide), fun _ => k1.ta (by decide), fun _ => ?_, fun l _ => k1.wl l (by simp), fun r _ => k1.rl r (by simp)⟩, ⟨h.2.n_, h.2.tr, h.2.wy, h.2.dp, h.2.wt, h.2.wv, h.2.rr, h.2.t3, h.2.lit, h.2.few, h.2.rows⟩⟩
  have := OwnR.setSb (i := 9) (u := .slice a k cap) h (hr.take1 hk) (by decide)
  have e1 : (s.cuts.take k).length = k := by rw [List.length_take]; omega
  have e2 : i64C (s.cuts.take k) = (i64C s.cuts).take k := by simp [i64C, List.map_take]
  show OwnR _ _ _ _ _ _ (s.cuts.take k).length (i64C (s.cuts.take k))
  rw [e1, e2]
  exact this
end

end Go.Proofs.Ytbicefgjompnoaa.Sx
/- The store: forget, in memory. -/
namespace Go.Proofs.Ytbicefgjompnoaa.Sx
open Go.RowKit Go.Sort

set_option maxRecDepth 100000 in
set_option maxHeartbeats 4000000 in
theorem forget_any (w : World) (L : Ly) (n : Nat) (s : St) (k : Nat) (h : SAt w L n s) (hk : k ≤ s.trail.length) (hdn : s.done ≤ s.trail.length) :
    Calls Try.prog 56 #[.pointer (some ⟨L.sb, 0, none⟩), .int .i64 (k : Int)] w (StPost w L n (forgetP s k) (.tuple #[])) := by
  have mo := follows
  have hn := h.2.n_
  have hfew := h.2.few
  obtain ⟨SF, hSF⟩ : ∃ SF, forgetP s k = SF := ⟨_, rfl⟩
  rw [hSF]
  obtain ⟨R, hR⟩ : ∃ R, unP s.truth (s.trail.drop k) = R := ⟨_, rfl⟩
  have HSF : Hid ({ s with truth := R, trail := s.trail.take k, done := min s.done k } = SF) := by rw [← hR]; exact hSF
  have HR0 : Hid (unP s.truth (s.trail.drop (k + 0)) = R) := hR
  obtain ⟨ta, tc, htv⟩ := (h.1.ta trivial).form
  have HTV : Hid (L.tv = .slice ta s.trail.length tc) := htv
  have hta := h.1.ta trivial
  rw [htv] at hta
  have HLT : Hid (∀ l ∈ s.trail, l < 2 * n) := h.2.lit
  have c7 : w.cell? ⟨L.sb, 7, none⟩ = some (.slice ta s.trail.length tc) := by have := h.cell 7; simp only [stC, htv] at this; exact this
  have HS : Hid (SAt w L n { s with truth := s.truth }) := h
  have hc : s.trail.length = 0 ∨ s.trail.length ≤ tc := by
    rcases hta.1.2 with ⟨e1, q⟩ | ⟨g, cap', cur, e1, hb, hg, hc, _⟩
    · exact .inl q
    · cases e1; exact .inr hc
  have hnil : ta = none → s.trail.length = 0 := fun e => by
    rcases hta.1.2 with ⟨e1, q⟩ | ⟨g, cap', cur, e1, _⟩
    · exact q
    · rw [e] at e1; cases e1
  clear hSF hR htv hta
  go_enter Try.func56, Try.ntmps56
  go_upto_block 0 with fail
  go_cut [11] (fun _ wx => Hid (SAt wx L n { s with truth := R }) ∧ Hid (FrS L L w wx))
  case first =>
    by_cases hkT : k < s.trail.length
    · have hck : tc ≠ k := by omega
      rw [if_neg hck]
      obtain ⟨x0, hx0⟩ : ∃ x0, s.trail[k]? = some x0 := ⟨_, List.getElem?_eq_getElem hkT⟩
      obtain ⟨g, hga, hgo, _⟩ := (show OwnR w L.own (8, 0) 70 1 (.slice ta s.trail.length tc) s.trail.length (v32 s.trail) from by rw [← HTV.out]; exact HS.out.1.ta trivial).cell1 (v32_get hx0)
      subst hga
      have hadd : Option.map (fun x : Addr => x.add k) (some ⟨g, 0, none⟩) = some ⟨g, k, none⟩ := by simp [Addr.add]; intro e; exact e.symm
      rw [hadd]
      clear hadd hx0 hnil hc hck c7
      go_wp2_with fail
      go_loopg [13] (s.trail.length - k) (fun q s13 wr => ∃ (j : Nat) (t : List Int), s13 = .int .i64 (j : Int) ∧ j + q = s.trail.length - k ∧ Hid (SAt wr L n { s with truth := t }) ∧ Hid (FrS L L w wr) ∧ Hid (unP t (s.trail.drop (k + j)) = R))
      case atStart => exact ⟨0, s.truth, rfl, by omega, HS, FrS.refl _ _, HR0⟩
      case round =>
        clear HS HR0
        obtain ⟨j, t, rfl, hjq, HS, HF, HR⟩ := hrel
        by_cases hj : j < s.trail.length - k
        · obtain ⟨q, rfl⟩ : ∃ q, gk = q + 1 := ⟨gk - 1, by omega⟩
          have hkj : k + j < s.trail.length := by omega
          obtain ⟨l, hl⟩ : ∃ l, s.trail[k + j] = l := ⟨_, rfl⟩
          have hlj : s.trail[k + j]? = some l := by rw [List.getElem?_eq_getElem hkj, hl]
          obtain ⟨g', hg', _, cj, _⟩ := (show OwnR wr L.own (8, 0) 70 1 (.slice (some ⟨g, 0, none⟩) s.trail.length tc) s.trail.length (v32 s.trail) from by rw [← HTV.out]; exact HS.out.1.ta trivial).cell1 (v32_get hlj)
          cases hg'
          have hd : s.trail.drop (k + j) = l :: s.trail.drop (k + (j + 1)) := by rw [List.drop_eq_getElem_cons hkj, hl]; rfl
          have hl2 : l < 2 * n := HLT.out l (hl ▸ List.getElem_mem hkj)
          have hu := HR.out
          rw [hd] at hu
          have HR2 : Hid (unP ((t.set l 0).set (opp l) 0) (s.trail.drop (k + (j + 1))) = R) := hu
          have j0 : (0 : Int) ≤ (j : Int) := by omega
          have j1 : (j : Int) < ((s.trail.length - k : Nat) : Int) := by omega
          have ho := opp_lt hl2
          have l1 : (l : Int) < 2 * (n : Int) := by omega
          have l3 : (l : Int) < ((2 * n : Nat) : Int) := by omega
          have o1 : (opp l : Int) < 2 * (n : Int) := by omega
          have o3 : (opp l : Int) < ((2 * n : Nat) : Int) := by omega
          have c4 := HS.out.c4
          have d4 := HS.out.drew.c4
          have ct := HS.out.truth hl2
          have co := HS.out.truth ho
          have dt := HS.out.drew.truth hl2
          have do_ := HS.out.drew.truth ho
          have z1 := HS.out.tfree l
          have z2 := HS.out.tfree (opp l)
          have z3 := HS.out.drew.tfree l
          have z4 := HS.out.drew.tfree (opp l)
          have HO : Hid (∀ w, Calls Try.prog 33 #[.int .i32 (l : Int)] w fun e w' => e = .returned (.int .i32 (opp l : Int)) ∧ w' = w) := fun w => opposite_any w l (by omega)
          have S0 := HS.out.setTruth l 0 (by simp)
          have k1 := S0.truth ho
          have k1d := S0.drew.truth ho
          have k2 := S0.tfree (opp l)
          have k3 := S0.drew.tfree (opp l)
          have S1d : Hid (SAt ((wr.setCell ⟨L.tb, l, none⟩ (.int .i8 0)).setCell ⟨L.tb, opp l, none⟩ (.int .i8 0)).drew L n { s with truth := (t.set l 0).set (opp l) 0 }) := (S0.setTruth (opp l) 0 (by simp)).drew
          have hown : L.own L.tb ≠ (0, 0) := by rw [(HS.out.1.tr trivial).2]; decide
          have F1d : Hid (FrS L L w ((wr.setCell ⟨L.tb, l, none⟩ (.int .i8 0)).setCell ⟨L.tb, opp l, none⟩ (.int .i8 0)).drew) := ((HF.out.set hown).set hown).drew
          clear S0 hown hu hd hlj hl HR HS HF
          go_upto_region 3 with fail
          go_region_with (go_at_call 33; refine (HO.out _).mono ?_; rintro e w' ⟨rfl, hw⟩; obtain rfl := hw.symm)
          all_goals
            go_wp2_with fail
            go_roundg q
            case measure => omega
            case rel => exact ⟨j + 1, _, by simp, by omega, S1d, F1d, HR2⟩
        · have j1 : ¬ (j : Int) < ((s.trail.length - k : Nat) : Int) := by omega
          obtain rfl : j = s.trail.length - k := by omega
          have hu := HR.out
          rw [show k + (s.trail.length - k) = s.trail.length from by omega, List.drop_length] at hu
          have hu2 : t = R := hu
          subst hu2
          clear hu HR
          go_wp2_with fail
          go_meet
          case rel => exact ⟨HS, HF⟩
    · have hkT2 : s.trail.length - k = 0 := by omega
      have hu := HR0.out
      rw [List.drop_eq_nil_of_le (by omega)] at hu
      have hu2 : s.truth = R := hu
      subst hu2
      generalize (if tc = k then ta else Option.map (fun x : Addr => x.add k) ta) = A
      go_wp2_with fail
      go_loopg [13] (0) (fun q s13 wr => s13 = .int .i64 0 ∧ wr = w)
      case atStart => exact ⟨rfl, rfl⟩
      case round =>
        obtain ⟨rfl, rfl⟩ := hrel
        go_wp2_with fail
        go_meet
        case rel => exact ⟨HS, FrS.refl _ _⟩
  case rest =>
    obtain ⟨HS1, HF1⟩ := hcut
    clear HS HR0 c7 hnil
    have c7 : wc.cell? ⟨L.sb, 7, none⟩ = some (.slice ta s.trail.length tc) := by have := HS1.out.cell 7; simp only [stC, HTV.out] at this; exact this
    have z7 := HS1.out.free 7
    have S2 := HS1.out.cutTrail HTV.out hk
    have c8 : (wc.setCell ⟨L.sb, 7, none⟩ (.slice ta k tc)).cell? ⟨L.sb, 8, none⟩ = some (.int .i64 (s.done : Int)) := S2.cell 8
    have z8 := S2.free 8
    have S3 : Hid (SAt ((wc.setCell ⟨L.sb, 7, none⟩ (.slice ta k tc)).setCell ⟨L.sb, 8, none⟩ (.int .i64 ((min s.done k : Nat) : Int))) { L with tv := .slice ta k tc } n SF) := by rw [← HSF.out]; exact S2.setDone (min s.done k)
    have hown : L.own L.sb ≠ (0, 0) := by rw [(HS1.out.1.st trivial).2]; decide
    have F3 : Hid (FrS L { L with tv := .slice ta k tc } w ((wc.setCell ⟨L.sb, 7, none⟩ (.slice ta k tc)).setCell ⟨L.sb, 8, none⟩ (.int .i64 ((min s.done k : Nat) : Int)))) := by
      have f := (HF1.out.set (b := L.sb) (i := 7) (v := .slice ta k tc) hown).set (b := L.sb) (i := 8) (v := .int .i64 ((min s.done k : Nat) : Int)) hown
      exact ⟨f.os, f.tape, f.output, f.size, f.block, f.own, f.sb⟩
    have hmin : min (s.done : Int) (k : Int) = ((min s.done k : Nat) : Int) := by omega
    have k0 : (k : Int) ≤ (tc : Int) := by omega
    clear S2 HS1 HF1 hown
    go_wp2_with fail
    go_end0
    exact ⟨rfl, _, S3.out, F3.out⟩

end Go.Proofs.Ytbicefgjompnoaa.Sx
/- The store: back to level 0. -/
namespace Go.Proofs.Ytbicefgjompnoaa.Sx
open Go.RowKit Go.Sort

def backP (s : St) : St := match s.cuts with
  | [] => s
  | c :: _ => { forgetP s c with cuts := [] }

set_option maxRecDepth 100000 in
set_option maxHeartbeats 4000000 in
theorem back_any (w : World) (L : Ly) (n : Nat) (s : St) (h : SAt w L n s) (hk : ∀ c ∈ s.cuts, c ≤ s.trail.length) (hdn : s.done ≤ s.trail.length) (hcl : s.cuts.length ≤ 1000) :
    Calls Try.prog 39 #[.pointer (some ⟨L.sb, 0, none⟩), .int .i64 0] w (StPost w L n (backP s) (.tuple #[])) := by
  have mo := follows
  have HLV := level_any w L n s h
  obtain ⟨ca, cc, hcv⟩ := (h.1.cu trivial).form
  have c9 : w.cell? ⟨L.sb, 9, none⟩ = some (.slice ca s.cuts.length cc) := by have := h.cell 9; simp only [stC, hcv] at this; exact this
  have HS : Hid (SAt w L n s) := h
  have hcu := h.1.cu trivial
  rw [hcv] at hcu
  cases hc : s.cuts with
  | nil =>
    have e : backP s = s := by unfold backP; rw [hc]
    rw [e]
    rw [hc] at HLV c9
    have HLV2 : Hid (Calls _ _ _ _ _) := HLV
    clear HLV e hc hcu hcv
    go_enter Try.func39, Try.ntmps39
    go_wp2_with (go_at_call 60; refine HLV2.out.mono ?_; rintro e w' ⟨rfl, hw⟩; obtain rfl := hw.symm)
    go_end0
    exact ⟨rfl, L, HS.out, FrS.refl _ _⟩
  | cons c rest =>
    have hlen : s.cuts.length = rest.length + 1 := by rw [hc]; rfl
    have hcT : c ≤ s.trail.length := hk c (by rw [hc]; exact List.mem_cons_self)
    obtain ⟨g, hga, hgo, cg, hgc⟩ := hcu.cell1 (i := 0) (u := .int .i64 (c : Int)) (by rw [hc]; rfl)
    subst hga
    obtain ⟨SB, hSB⟩ : ∃ SB, backP s = SB := ⟨_, rfl⟩
    rw [hSB]
    have HSB : Hid ({ forgetP s c with cuts := (forgetP s c).cuts.take 0 } = SB) := by
      rw [← hSB]; unfold backP; rw [hc]; rfl
    have HFG : Hid (Calls _ _ _ _ _) := forget_any w L n s c h hcT hdn
    rw [hlen] at HLV c9 hgc
    have HLV2 : Hid (Calls _ _ _ _ _) := HLV
    have hz : (0 : Int) < (rest.length : Int) + 1 := by omega
    have hz2 : (0 : Int) < ((rest.length + 1 : Nat) : Int) := by omega
    clear HLV hc hcu hcv hSB h
    go_enter Try.func39, Try.ntmps39
    go_upto_region 2 with (first | (go_at_call 60; refine HLV2.out.mono ?_; rintro e w' ⟨rfl, hw⟩; obtain rfl := hw.symm) | (go_at_call 56; refine HFG.out.mono ?_; rintro e w1 ⟨rfl, L1, h1, h2⟩))
    obtain ⟨ca1, cc1, hcv1⟩ := (h1.1.cu trivial).form
    have hc1 : (forgetP s c).cuts.length = rest.length + 1 := hlen
    rw [hc1] at hcv1
    have d9 : w1.cell? ⟨L1.sb, 9, none⟩ = some (.slice ca1 (rest.length + 1) cc1) := by have := h1.cell 9; simp only [stC, hcv1] at this; exact this
    rw [h2.sb] at d9
    have z9 := h1.free 9
    rw [h2.sb] at z9
    have S2 := h1.cutCuts (a := ca1) (cap := cc1) (k := 0) (by rw [hc1]; exact hcv1) (Nat.zero_le _)
    have S3 : Hid (SAt (w1.setCell ⟨L.sb, 9, none⟩ (.slice ca1 0 cc1)) { L1 with cv := .slice ca1 0 cc1 } n SB) := by rw [← HSB.out, ← h2.sb]; exact S2
    have F3 : Hid (FrS L { L1 with cv := .slice ca1 0 cc1 } w (w1.setCell ⟨L.sb, 9, none⟩ (.slice ca1 0 cc1))) := by
      have f := h2.set (b := L.sb) (i := 9) (v := .slice ca1 0 cc1) (by rw [← h2.sb, (h1.1.st trivial).2]; decide)
      exact ⟨f.os, f.tape, f.output, f.size, f.block, f.own, f.sb⟩
    clear S2 h1 h2 HFG HLV2 HS c9 cg hcv1
    go_wp2_with fail
    go_end0
    exact ⟨rfl, _, S3.out, F3.out⟩

end Go.Proofs.Ytbicefgjompnoaa.Sx
/- The store: a new one. -/
namespace Go.Proofs.Ytbicefgjompnoaa.Sx
open Go.RowKit Go.Sort

theorem info92 : ∃ i0, Try.prog.info? 92 = some i0 ∧ i0.zero = some (.slice none 0 0) ∧ i0.size = 1 ∧ i0.bytes = 24 := by
  have h : ((Try.prog.info? 92).map fun i => (i.zero, i.size, i.bytes)) = some (some (.slice none 0 0), 1, 24) := by kernel_rfl
  cases hq : Try.prog.info? 92 with
  | none => rw [hq] at h; simp at h
  | some j => rw [hq] at h; simp at h; exact ⟨j, rfl, h.1, h.2.1, h.2.2⟩
theorem info84 : ∃ i0, Try.prog.info? 84 = some i0 ∧ i0.zero = some (.int .i8 0) ∧ i0.size = 1 ∧ i0.bytes = 1 := by
  have h : ((Try.prog.info? 84).map fun i => (i.zero, i.size, i.bytes)) = some (some (.int .i8 0), 1, 1) := by kernel_rfl
  cases hq : Try.prog.info? 84 with
  | none => rw [hq] at h; simp at h
  | some j => rw [hq] at h; simp at h; exact ⟨j, rfl, h.1, h.2.1, h.2.2⟩
theorem made_one {v : Value} (hv : v.cells = #[v]) (m : Nat) : madeCells v.cells (m * 1) = Array.replicate m v := by
  apply Array.ext
  · simp [madeCells]
  · intro i h1 h2
    have e : i % 1 = 0 := Nat.mod_one i
    simp [madeCells, hv, e]
/-- a store without clauses -/
def newP (n : Nat) : St := ⟨[], [], 0, List.replicate (2 * n) [], List.replicate (2 * n) 0, List.replicate n 0, List.replicate n 0, [], 0, []⟩

def NewPost (w : World) (n : Nat) (e : Ending) (w' : World) : Prop := ∃ L : Ly, e = .returned (.pointer (some ⟨L.sb, 0, none⟩)) ∧ SAt w' L n (newP n) ∧ Fr (fun _ => True) w w' ∧ ∀ b, b < w.heap.size → L.own b = (0, 0)
theorem new_at (w W : World) (n wb tb yb db : Nat) (hn : n ≤ 16777216) (h1 : W.heap[wb]? = some (.cells (Array.replicate (2 * n) (Value.slice none 0 0)) 92 (0, 0))) (h2 : W.heap[tb]? = some (.cells (Array.replicate (2 * n) (Value.int .i8 0)) 84 (0, 0))) (h3 : W.heap[yb]? = some (.cells (Array.replicate n (Value.int .i32 0)) 21 (0, 0))) (h4 : W.heap[db]? = some (.cells (Array.replicate n (Value.int .i32 0)) 21 (0, 0)))
    (d1 : w.heap.size ≤ wb ∧ w.heap.size ≤ tb ∧ w.heap.size ≤ yb ∧ w.heap.size ≤ db) (d2 : wb ≠ tb ∧ wb ≠ yb ∧ wb ≠ db ∧ tb ≠ yb ∧ tb ≠ db ∧ yb ≠ db) (hF : Fr (fun _ => True) w W) {q : Nat} (hq : q = W.heap.size) {W' : World} (hW : W' = W.alloc (.cells #[.slice none 0 0, .slice none 0 0, .int .i64 0, .slice (some ⟨wb, 0, none⟩) (2 * n) (2 * n), .slice (some ⟨tb, 0, none⟩) (2 * n) (2 * n), .slice (some ⟨yb, 0, none⟩) n n, .slice (some ⟨db, 0, none⟩) n n, .slice none 0 0, .int .i64 0, .slice none 0 0] 77)) :
    NewPost w n (.returned (.pointer (some ⟨q, 0, none⟩))) W' := by
  subst hq
  subst hW
  have l1 := block_lt h1
  have l2 := block_lt h2
  have l3 := block_lt h3
  have l4 := block_lt h4
  have hs := hF.size
  refine ⟨⟨W.heap.size, wb, tb, yb, db, .slice none 0 0, .slice none 0 0, .slice none 0 0, .slice none 0 0, List.replicate (2 * n) (.slice none 0 0), [], fun b => if b = W.heap.size then (1, 0) else if b = wb then (4, 0) else if b = tb then (5, 0) else if b = yb then (6, 0) else if b = db then (7, 0) else (0, 0)⟩, rfl, ⟨?_, ?_⟩, hF.alloc _, fun b hb => ?_⟩
  · refine ⟨fun _ => ⟨heap_new rfl, by simp⟩, fun _ => ⟨?_, ?_⟩, fun _ => ⟨?_, ?_⟩, fun _ => ⟨?_, ?_⟩, fun _ => ⟨?_, ?_⟩, fun _ => ⟨World.ownsRow_nil _ _ _ _, fun g hg => by cases hg⟩, fun _ => ⟨World.ownsRow_nil _ _ _ _, fun g hg => by cases hg⟩, fun _ => ⟨World.ownsRow_nil _ _ _ _, fun g hg => by cases hg⟩, fun _ => ⟨World.ownsRow_nil _ _ _ _, fun g hg => by cases hg⟩, fun l _ hl => ⟨.slice none 0 0, ?_, ?_⟩, fun r _ c hc => by simp [newP] at hc⟩
    · rw [heap_alloc_old W _ l1, h1]; simp
    · simp only; rw [if_neg (by omega), if_pos trivial]
    · rw [heap_alloc_old W _ l2, h2]; simp [newP, i8C]
    · simp only; rw [if_neg (by omega), if_neg (by omega), if_pos trivial]
    · rw [heap_alloc_old W _ l3, h3]; simp [newP, i32C]
    · simp only; rw [if_neg (by omega), if_neg (by omega), if_neg (by omega), if_pos trivial]
    · rw [heap_alloc_old W _ l4, h4]; simp [newP, i32C]
    · simp only; rw [if_neg (by omega), if_neg (by omega), if_neg (by omega), if_neg (by omega), if_pos trivial]
    · simp [hl]
    · have e : (newP n).watches.getD l [] = [] := by simp [newP, hl]
      rw [e]
      exact ⟨World.ownsRow_nil _ _ _ _, fun g hg => by cases hg⟩
  · refine ⟨hn, by simp [newP], by simp [newP], by simp [newP], by simp [newP], by simp, by simp [newP], fun l => ?_, fun l hl => by simp [newP] at hl, by simp [newP], by simp [newP]⟩
    by_cases hl : l < 2 * n
    · simp [newP, hl]
    · simp [newP, hl]
  · simp only
    rw [if_neg (by omega), if_neg (by omega), if_neg (by omega), if_neg (by omega), if_neg (by omega)]

end Go.Proofs.Ytbicefgjompnoaa.Sx
