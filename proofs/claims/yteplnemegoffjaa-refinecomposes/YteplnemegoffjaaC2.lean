/- Two lists through one another: the program's and the reference's. -/
import Derived.Test.YteplnemegoffjaaC1
namespace Go.Proofs.Yteplnemegoffjaa.Sx
open Go.RowKit

theorem info3 : ∃ i0, Try.prog.info? 3 = some i0 ∧ i0.zero = some (.int .i64 0) ∧ i0.size = 1 ∧ i0.bytes = 8 := by
  have h : ((Try.prog.info? 3).map fun i => (i.zero, i.size, i.bytes)) = some (some (.int .i64 0), 1, 8) := by kernel_rfl
  cases hq : Try.prog.info? 3 with
  | none => rw [hq] at h; simp at h
  | some i => rw [hq] at h; simp at h; exact ⟨i, rfl, h.1, h.2.1, h.2.2⟩
theorem vals_snoc (l : List Int) (x : Int) : vals (l ++ [x]) = vals l ++ [.int .i64 x] := by simp [vals]
theorem compV_len (f g : List Int) : (compV f g).length = f.length := by simp [compV]
theorem compV_snoc (f g : List Int) (k : Nat) (hk : k < f.length) : compV (f.take (k + 1)) g = compV (f.take k) g ++ [comp1 g f[k]] := by
  unfold compV; rw [List.take_succ_eq_append_getElem hk, List.map_append]; rfl
theorem comp1_in {g : List Int} {n : Int} (h0 : 0 ≤ n) (h1 : n < g.length) : comp1 g n = g[n.toNat]'(by omega) := by
  unfold comp1
  rw [if_pos ⟨h0, h1⟩, List.getD_eq_getElem?_getD, List.getElem?_eq_getElem (by omega)]; rfl
theorem comp1_out {g : List Int} {n : Int} (h : ¬ (0 ≤ n ∧ n < g.length)) : comp1 g n = -1 := if_neg h
theorem one1 {u : Value} (h : u.oneCell' = true) : ∀ x ∈ [u], x.oneCell' = true := fun x hx => by rw [List.mem_singleton.1 hx]; exact h

/-- what the walk makes of a row of its own -/
theorem IR.own {w : World} {base : Nat} {v : Value} {n : Nat} {l : List Int} (h : w.ownsRow base 3 1 v n (vals l)) : ∃ a cap, v = .slice a l.length cap ∧ IR w a l := by
  have hn : n = l.length := by have := h.1; simp [vals] at this; omega
  subst hn
  rcases h.2 with ⟨rfl, h0⟩ | ⟨g, cap, cur, rfl, hb, hg, hle, _, hcs, ht⟩
  · obtain rfl : l = [] := List.length_eq_zero_iff.1 h0
    exact ⟨none, 0, rfl, .inl rfl⟩
  · refine ⟨_, cap, rfl, .inr ⟨g, 0, rfl, ?_, fun j x hx => ?_⟩⟩
    · exact (Array.getElem?_eq_some_iff.1 hg).1
    · have hj : j < l.length := (List.getElem?_eq_some_iff.1 hx).1
      have := h.cellAt j (by omega)
      rw [Nat.zero_add, this]
      simp [vals, hx]

def CompPost (w : World) (l : List Int) (e : Ending) (w' : World) : Prop := ∃ a cap, e = .returned (.slice a l.length cap) ∧ IR w' a l ∧ Below w.heap.size w w'

theorem grown_below {w w0 w1 : World} {v : Value} {b : Nat} {e : TypeId} {s n : Nat} {xs : List Value} (h : Below b w w0) (ho : w0.ownsRow b e s v n xs) (hb : w.heap.size = b) (g : w0.grownBy w1 v.ownBlock) : Below b w w1 := by
  refine h.trans ⟨g.os, g.tape, g.output, g.size, fun k hk => ?_⟩
  refine g.block k (Nat.lt_of_lt_of_le (by omega) h.size) (fun e => ?_)
  exact absurd (ho.lt k e.symm).1 (by omega)


set_option maxRecDepth 100000 in
set_option maxHeartbeats 2000000 in
theorem comp_any (w : World) (a b : Option Addr) (c c' : Nat) (f g : List Int) (hf : f.length * 8 ≤ 140737488351232) (hg : g.length * 8 ≤ 140737488351232) (ha : IR w a f) (hb : IR w b g) :
    Calls Try.prog 4 #[.slice a f.length c, .slice b g.length c'] w (CompPost w (compV f g)) := by
  obtain ⟨i0, hi0, hz0, hz1, hz2⟩ := info3
  have HA : Hid (IR w a f) := ha
  have HB : Hid (IR w b g) := hb
  have hmx : f.length ≤ maxLen := by unfold maxLen; omega
  have hmk : i0.bytes * f.length ≤ 281474976710656 := by rw [hz2]; omega
  clear ha hb
  go_enter Try.func4, Try.ntmps4
  go_wp2_with (at_make; refine wpList_make_own _ rfl _ _ 22 rfl w.heap.size 3 i0 _ 1 Try.underlying22 hi0 hz0 hz1 .i64 .i64 _ f.length rfl rfl rfl hmk hmx (Nat.le_refl _) ?_; intro w1 ho1 hg1)
  have B1 : Hid (Below w.heap.size w w1) := ⟨hg1.os, hg1.tape, hg1.output, hg1.size, fun k hk => hg1.block k hk (by simp)⟩
  have O1 : Hid (w1.ownsRow w.heap.size 3 1 (.slice (some ⟨w.heap.size, 0, none⟩) 0 f.length) 0 []) := ho1
  clear ho1 hg1 hmk
  go_loopw [5, 14] (fun v i wr => ∃ k : Nat, k ≤ f.length ∧ i = .int .i64 k ∧ wr.ownsRow w.heap.size 3 1 v k (vals (compV (f.take k) g)) ∧ Below w.heap.size w wr) (fun v i wr => f.length - (intOf i).toNat)
  case atStart => exact ⟨0, by omega, rfl, O1.out, B1.out⟩
  case round =>
    obtain ⟨k, hk, rfl, hO, hB⟩ := hrel
    by_cases hlt : k < f.length
    · obtain ⟨b1, o1, rfl, hb1, hc1⟩ := HA.out.resolve_left (fun e => by subst e; simp at hlt)
      have c1 := (hB.cell (p := ⟨b1, o1 + k, none⟩) hb1).trans (IR.at hc1 hlt)
      have hs := compV_snoc f g k hlt
      have HS : Hid (vals (compV (f.take (k + 1)) g) = vals (compV (f.take k) g) ++ [.int .i64 (comp1 g f[k])]) := by unfold Hid; rw [hs, vals_snoc]
      clear hc1 hs
      generalize f[k] = x at c1 HS
      have HO : Hid (wr.ownsRow w.heap.size 3 1 u5 k (vals (compV (f.take k) g))) := hO
      have HBw : Hid (Below w.heap.size w wr) := hB
      have hmk : k + 1 ≤ maxLen := by unfold maxLen; omega
      have hby : (k + 1) * 8 ≤ 140737488355328 := by omega
      have hbs := hB.size
      obtain ⟨y, hy⟩ : ∃ y, comp1 g x = y := ⟨_, rfl⟩
      rw [hy] at HS
      have NB : Hid ((wr.alloc (.cells #[.int .i64 y] 3)).heap[wr.heap.size]? = some (.cells #[.int .i64 y] 3 (0, 0))) := heap_alloc_new _ _
      have FIN : Hid (∀ (q cap : Nat) (w9 : World), w9.ownsRow w.heap.size 3 1 (.slice (some ⟨q, 0, none⟩) (k + 1) cap) (k + 1) (vals (compV (f.take k) g) ++ [.int .i64 y]) → (wr.alloc (.cells #[.int .i64 y] 3)).grownBy w9 u5.ownBlock → w9.ownsRow w.heap.size 3 1 (.slice (some ⟨q, 0, none⟩) (k + 1) cap) (k + 1) (vals (compV (f.take (k + 1)) g)) ∧ Below w.heap.size w w9) := fun q cap w9 a1 a2 => ⟨by rw [HS.out]; exact a1, grown_below (HBw.out.alloc (by omega) _) (HO.out.alloc _) rfl a2⟩
      clear HS hO
      by_cases hin : 0 ≤ x ∧ x < g.length
      · obtain ⟨h0, h1⟩ := hin
        rw [comp1_in h0 h1] at hy
        obtain ⟨n, rfl⟩ : ∃ n : Nat, x = n := ⟨x.toNat, by omega⟩
        have hn : n < g.length := by omega
        obtain ⟨b2, o2, rfl, hb2, hc2⟩ := HB.out.resolve_left (fun e => by subst e; simp at hn)
        have c2 := (hB.cell (p := ⟨b2, o2 + n, none⟩) hb2).trans (IR.at hc2 hn)
        have hy' : g[n] = y := by simpa using hy
        rw [hy'] at c2
        clear hc2 hy hy' hB
        go_wp2_with (at_builtin; refine wpList_append_lies _ rfl _ _ 22 rfl w.heap.size 3 i0 _ 1 8 Try.underlying22 hi0 hz0 hz1 hz2 rfl (by decide) u5 k (vals (compV (f.take k) g)) rfl (HO.out.alloc _) ⟨wr.heap.size, 0, none⟩ 1 1 [.int .i64 y] rfl rfl (World.news_of_block NB.out) (one1 rfl) (by decide) hmk hby (by simp; omega) _ rfl ?_; intro q cap9 w9 ho9 hg9 hat9 hlt9)
        obtain ⟨z1, z2⟩ := FIN.out _ _ _ ho9 hg9
        exact ⟨⟨k + 1, by omega, by go_num, z1, z2⟩, by simp [intOf]; omega⟩
      · rw [comp1_out hin] at hy
        subst hy
        clear hB
        by_cases h0 : 0 ≤ x
        · have h1 : ¬ x < g.length := fun h => hin ⟨h0, h⟩
          clear hin
          go_wp2_with (at_builtin; refine wpList_append_lies _ rfl _ _ 22 rfl w.heap.size 3 i0 _ 1 8 Try.underlying22 hi0 hz0 hz1 hz2 rfl (by decide) u5 k (vals (compV (f.take k) g)) rfl (HO.out.alloc _) ⟨wr.heap.size, 0, none⟩ 1 1 [.int .i64 (-1)] rfl rfl (World.news_of_block NB.out) (one1 rfl) (by decide) hmk hby (by simp; omega) _ rfl ?_; intro q cap9 w9 ho9 hg9 hat9 hlt9)
          obtain ⟨z1, z2⟩ := FIN.out _ _ _ ho9 hg9
          exact ⟨⟨k + 1, by omega, by go_num, z1, z2⟩, by simp [intOf]; omega⟩
        · clear hin
          go_wp2_with (at_builtin; refine wpList_append_lies _ rfl _ _ 22 rfl w.heap.size 3 i0 _ 1 8 Try.underlying22 hi0 hz0 hz1 hz2 rfl (by decide) u5 k (vals (compV (f.take k) g)) rfl (HO.out.alloc _) ⟨wr.heap.size, 0, none⟩ 1 1 [.int .i64 (-1)] rfl rfl (World.news_of_block NB.out) (one1 rfl) (by decide) hmk hby (by simp; omega) _ rfl ?_; intro q cap9 w9 ho9 hg9 hat9 hlt9)
          obtain ⟨z1, z2⟩ := FIN.out _ _ _ ho9 hg9
          exact ⟨⟨k + 1, by omega, by go_num, z1, z2⟩, by simp [intOf]; omega⟩
    · obtain rfl : k = f.length := by omega
      have hO' : wr.ownsRow w.heap.size 3 1 u5 f.length (vals (compV f g)) := by simpa using hO
      obtain ⟨a', cap', rfl, hir⟩ := IR.own hO'
      go_wp2_with fail
      go_ret
      exact ⟨a', cap', rfl, hir, hB⟩

set_option maxRecDepth 100000 in
set_option maxHeartbeats 2000000 in
theorem gcomp_any (w : World) (a b : Option Addr) (c c' : Nat) (f g : List Int) (hf : f.length * 8 ≤ 140737488351232) (hg : g.length * 8 ≤ 140737488351232) (ha : IR w a f) (hb : IR w b g) :
    Calls Try.prog 5 #[.slice a f.length c, .slice b g.length c'] w (CompPost w (compV f g)) := by
  obtain ⟨i0, hi0, hz0, hz1, hz2⟩ := info3
  have HA : Hid (IR w a f) := ha
  have HB : Hid (IR w b g) := hb
  have hmx : f.length ≤ maxLen := by unfold maxLen; omega
  have hmk : i0.bytes * f.length ≤ 281474976710656 := by rw [hz2]; omega
  clear ha hb
  go_enter Try.func5, Try.ntmps5
  clear hmk
  go_wp2_with fail
  go_loopw [5, 6] (fun v i wr => ∃ k : Nat, k ≤ f.length ∧ i = .int .i64 k ∧ wr.ownsRow w.heap.size 3 1 v k (vals (compV (f.take k) g)) ∧ Below w.heap.size w wr) (fun v i wr => f.length - (intOf i).toNat)
  case atStart => exact ⟨0, by omega, rfl, World.ownsRow_nil _ _ _ _, Below.refl _ _⟩
  case round =>
    obtain ⟨k, hk, rfl, hO, hB⟩ := hrel
    by_cases hlt : k < f.length
    · obtain ⟨b1, o1, rfl, hb1, hc1⟩ := HA.out.resolve_left (fun e => by subst e; simp at hlt)
      have c1 := (hB.cell (p := ⟨b1, o1 + k, none⟩) hb1).trans (IR.at hc1 hlt)
      have hs := compV_snoc f g k hlt
      have HS : Hid (vals (compV (f.take (k + 1)) g) = vals (compV (f.take k) g) ++ [.int .i64 (comp1 g f[k])]) := by unfold Hid; rw [hs, vals_snoc]
      clear hc1 hs
      generalize f[k] = x at c1 HS
      have HO : Hid (wr.ownsRow w.heap.size 3 1 u5 k (vals (compV (f.take k) g))) := hO
      have HBw : Hid (Below w.heap.size w wr) := hB
      have hmk : k + 1 ≤ maxLen := by unfold maxLen; omega
      have hby : (k + 1) * 8 ≤ 140737488355328 := by omega
      have hbs := hB.size
      obtain ⟨y, hy⟩ : ∃ y, comp1 g x = y := ⟨_, rfl⟩
      rw [hy] at HS
      have NB : Hid ((wr.alloc (.cells #[.int .i64 y] 3)).heap[wr.heap.size]? = some (.cells #[.int .i64 y] 3 (0, 0))) := heap_alloc_new _ _
      have FIN : Hid (∀ (q cap : Nat) (w9 : World), w9.ownsRow w.heap.size 3 1 (.slice (some ⟨q, 0, none⟩) (k + 1) cap) (k + 1) (vals (compV (f.take k) g) ++ [.int .i64 y]) → (wr.alloc (.cells #[.int .i64 y] 3)).grownBy w9 u5.ownBlock → w9.ownsRow w.heap.size 3 1 (.slice (some ⟨q, 0, none⟩) (k + 1) cap) (k + 1) (vals (compV (f.take (k + 1)) g)) ∧ Below w.heap.size w w9) := fun q cap w9 a1 a2 => ⟨by rw [HS.out]; exact a1, grown_below (HBw.out.alloc (by omega) _) (HO.out.alloc _) rfl a2⟩
      clear HS hO
      by_cases hin : 0 ≤ x ∧ x < g.length
      · obtain ⟨h0, h1⟩ := hin
        rw [comp1_in h0 h1] at hy
        obtain ⟨n, rfl⟩ : ∃ n : Nat, x = n := ⟨x.toNat, by omega⟩
        have hn : n < g.length := by omega
        obtain ⟨b2, o2, rfl, hb2, hc2⟩ := HB.out.resolve_left (fun e => by subst e; simp at hn)
        have c2 := (hB.cell (p := ⟨b2, o2 + n, none⟩) hb2).trans (IR.at hc2 hn)
        have hy' : g[n] = y := by simpa using hy
        rw [hy'] at c2
        clear hc2 hy hy' hB
        go_wp2_with (at_builtin; refine wpList_append_lies _ rfl _ _ 22 rfl w.heap.size 3 i0 _ 1 8 Try.underlying22 hi0 hz0 hz1 hz2 rfl (by decide) u5 k (vals (compV (f.take k) g)) rfl (HO.out.alloc _) ⟨wr.heap.size, 0, none⟩ 1 1 [.int .i64 y] rfl rfl (World.news_of_block NB.out) (one1 rfl) (by decide) hmk hby (by simp; omega) _ rfl ?_; intro q cap9 w9 ho9 hg9 hat9 hlt9)
        obtain ⟨z1, z2⟩ := FIN.out _ _ _ ho9 hg9
        exact ⟨⟨k + 1, by omega, by go_num, z1, z2⟩, by simp [intOf]; omega⟩
      · rw [comp1_out hin] at hy
        subst hy
        clear hB
        by_cases h0 : 0 ≤ x
        · have h1 : ¬ x < g.length := fun h => hin ⟨h0, h⟩
          clear hin
          go_wp2_with (at_builtin; refine wpList_append_lies _ rfl _ _ 22 rfl w.heap.size 3 i0 _ 1 8 Try.underlying22 hi0 hz0 hz1 hz2 rfl (by decide) u5 k (vals (compV (f.take k) g)) rfl (HO.out.alloc _) ⟨wr.heap.size, 0, none⟩ 1 1 [.int .i64 (-1)] rfl rfl (World.news_of_block NB.out) (one1 rfl) (by decide) hmk hby (by simp; omega) _ rfl ?_; intro q cap9 w9 ho9 hg9 hat9 hlt9)
          obtain ⟨z1, z2⟩ := FIN.out _ _ _ ho9 hg9
          exact ⟨⟨k + 1, by omega, by go_num, z1, z2⟩, by simp [intOf]; omega⟩
        · clear hin
          go_wp2_with (at_builtin; refine wpList_append_lies _ rfl _ _ 22 rfl w.heap.size 3 i0 _ 1 8 Try.underlying22 hi0 hz0 hz1 hz2 rfl (by decide) u5 k (vals (compV (f.take k) g)) rfl (HO.out.alloc _) ⟨wr.heap.size, 0, none⟩ 1 1 [.int .i64 (-1)] rfl rfl (World.news_of_block NB.out) (one1 rfl) (by decide) hmk hby (by simp; omega) _ rfl ?_; intro q cap9 w9 ho9 hg9 hat9 hlt9)
          obtain ⟨z1, z2⟩ := FIN.out _ _ _ ho9 hg9
          exact ⟨⟨k + 1, by omega, by go_num, z1, z2⟩, by simp [intOf]; omega⟩
    · obtain rfl : k = f.length := by omega
      have hO' : wr.ownsRow w.heap.size 3 1 u5 f.length (vals (compV f g)) := by simpa using hO
      obtain ⟨a', cap', rfl, hir⟩ := IR.own hO'
      go_wp2_with fail
      go_ret
      exact ⟨a', cap', rfl, hir, hB⟩


end Go.Proofs.Yteplnemegoffjaa.Sx
