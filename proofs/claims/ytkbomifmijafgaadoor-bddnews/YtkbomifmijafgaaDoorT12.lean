/- A new table. -/
import Derived.Test.YtkbomifmijafgaaDoorT5
import Derived.Carry
import Derived.Laws.MakeOwn
namespace Go.Proofs.YtkbomifmijafgaaDoor.Sx
open Go.RowKit Go.Sort Go.Maps Go.WideMaps

/-- a table under way: its order has j variables; nothing else is in it -/
structure Emp (w : World) (s n : Nat) (ord : Value) (j : Nat) (cur : Array Value) : Prop where
  blk : w.heap[s + 3]? = some (.cells #[ord, .slice (some ⟨s + 2, 0, none⟩) (n + 1) (n + 1), .slice none 0 0, .slice none 0 0, .map (some s), .map (some (s + 1)), .slice none 0 0] 53 (0, 0))
  own : w.ownsRow (s + 4) 3 1 ord j ((List.range j).map fun x : Nat => Value.int .i64 (x : Int))
  made : MapIs 44 w s []
  found : MapIs 62 w (s + 1) []
  lev : w.heap[s + 2]? = some (.cells cur 3 (0, 0))

theorem Emp.of {w w' : World} {s n j : Nat} {ord : Value} {cur : Array Value} (h : Emp w s n ord j cur) (f : Fr (fun _ => True) w w') : Emp w' s n ord j cur :=
  ⟨(f.block _ (block_lt h.blk) trivial).trans h.blk, ownsG_of h.own fun k _ _ hl => f.block k hl trivial, h.made.of f trivial, h.found.of f trivial, (f.block _ (block_lt h.lev) trivial).trans h.lev⟩
/-- a variable more -/
theorem Emp.push {w wa w1 : World} {s n j g' cap' : Nat} {ord : Value} {cur : Array Value} (h : Emp w s n ord j cur) (fa : Fr (fun _ => True) w wa) (ho : w1.ownsRow (s + 4) 3 1 (.slice (some ⟨g', 0, none⟩) (j + 1) cap') (j + 1) (((List.range j).map fun x : Nat => Value.int .i64 (x : Int)) ++ [.int .i64 (j : Int)])) (hg : wa.grownBy w1 ord.ownBlock) :
    w1.heap[s + 3]? = some (.cells #[ord, .slice (some ⟨s + 2, 0, none⟩) (n + 1) (n + 1), .slice none 0 0, .slice none 0 0, .map (some s), .map (some (s + 1)), .slice none 0 0] 53 (0, 0)) ∧
    Emp (w1.setCell ⟨s + 3, 0, none⟩ (.slice (some ⟨g', 0, none⟩) (j + 1) cap')) s n (.slice (some ⟨g', 0, none⟩) (j + 1) cap') (j + 1) cur ∧ Fr (· < s) w (w1.setCell ⟨s + 3, 0, none⟩ (.slice (some ⟨g', 0, none⟩) (j + 1) cap')) := by
  have f1 : Fr (fun k => ord.ownBlock ≠ some k) w w1 := (fa.mono fun _ _ => trivial).trans ⟨hg.os, hg.tape, hg.output, hg.size, fun k hk hp => hg.block k hk (fun e => hp e.symm)⟩
  have hlow : ∀ k, k < s + 4 → ord.ownBlock ≠ some k := fun k hk e => by have := (h.own.lt k e).1; omega
  have b1 := (f1.block _ (block_lt h.blk) (hlow _ (by omega))).trans h.blk
  have f2 : Fr (· ≠ s + 3) w1 (w1.setCell ⟨s + 3, 0, none⟩ (.slice (some ⟨g', 0, none⟩) (j + 1) cap')) := (Fr.refl _ w1).set (by simp) _
  refine ⟨b1, ⟨set_block b1 0 _, ?_, (h.made.of f1 (hlow _ (by omega))).of f2 (by omega), (h.found.of f1 (hlow _ (by omega))).of f2 (by omega), ?_⟩, (f1.mono fun k hk => hlow k (by omega)).trans (f2.mono fun k hk => by omega)⟩
  · rw [List.range_succ, List.map_append]
    exact ownsG_of ho fun k e hb hl => f2.block k hl (by omega)
  · have l1 := (f1.block _ (block_lt h.lev) (hlow _ (by omega))).trans h.lev
    exact (f2.block _ (block_lt l1) (by omega)).trans l1
theorem Emp.level {w : World} {s n j : Nat} {ord : Value} {cur : Array Value} (h : Emp w s n ord j cur) (i : Nat) (u : Value) : Emp (w.setCell ⟨s + 2, i, none⟩ u) s n ord j (cur.set! i u) := by
  have f2 : Fr (· ≠ s + 2) w (w.setCell ⟨s + 2, i, none⟩ u) := (Fr.refl _ w).set (by simp) _
  exact ⟨(f2.block _ (block_lt h.blk) (by omega)).trans h.blk, ownsG_of h.own fun k e hb hl => f2.block k hl (by omega), h.made.of f2 (by omega), h.found.of f2 (by omega), set_block h.lev i u⟩

/-- .. and its two first rows -/
structure Emp2 (w : World) (s n : Nat) (ord : Value) (g : Nat) (rc cur : Array Value) : Prop where
  blk : w.heap[s + 3]? = some (.cells #[ord, .slice (some ⟨s + 2, 0, none⟩) (n + 1) (n + 1), .slice (some ⟨g, 0, none⟩) 2 2, .slice none 0 0, .map (some s), .map (some (s + 1)), .slice none 0 0] 53 (0, 0))
  rows : w.heap[g]? = some (.cells rc 46 (0, 0))
  made : MapIs 44 w s []
  found : MapIs 62 w (s + 1) []
  lev : w.heap[s + 2]? = some (.cells cur 3 (0, 0))
  far : s + 4 ≤ g

theorem Emp.rows {w : World} {s n j : Nat} {ord : Value} {cur rc : Array Value} (h : Emp w s n ord j cur) : Emp2 ((w.setCell ⟨s + 3, 2, none⟩ (.slice (some ⟨w.heap.size, 0, none⟩) 2 2)).alloc (.cells rc 46)) s n ord w.heap.size rc cur := by
  have f2 : Fr (· ≠ s + 3) w (w.setCell ⟨s + 3, 2, none⟩ (.slice (some ⟨w.heap.size, 0, none⟩) 2 2)) := (Fr.refl _ _).set (by simp) _
  have f3 : Fr (fun _ => True) (w.setCell ⟨s + 3, 2, none⟩ (.slice (some ⟨w.heap.size, 0, none⟩) 2 2)) ((w.setCell ⟨s + 3, 2, none⟩ (.slice (some ⟨w.heap.size, 0, none⟩) 2 2)).alloc (.cells rc 46)) := (Fr.refl _ _).alloc _
  have hb := block_lt h.blk
  have b1 := set_block h.blk 2 (.slice (some ⟨w.heap.size, 0, none⟩) 2 2)
  have l1 := (f2.block _ (block_lt h.lev) (by omega)).trans h.lev
  exact ⟨(f3.block _ (block_lt b1) trivial).trans b1, heap_new (by simp), (h.made.of f2 (by omega)).of f3 trivial, (h.found.of f2 (by omega)).of f3 trivial, (f3.block _ (block_lt l1) trivial).trans l1, by omega⟩
theorem Emp2.set {w : World} {s n g : Nat} {ord : Value} {cur rc : Array Value} (h : Emp2 w s n ord g rc cur) (i : Nat) (u : Value) : Emp2 (w.setCell ⟨g, i, none⟩ u) s n ord g (rc.set! i u) cur := by
  have f2 : Fr (· ≠ g) w (w.setCell ⟨g, i, none⟩ u) := (Fr.refl _ w).set (by simp) _
  have := h.far
  exact ⟨(f2.block _ (block_lt h.blk) (by omega)).trans h.blk, set_block h.rows i u, h.made.of f2 (by omega), h.found.of f2 (by omega), (f2.block _ (block_lt h.lev) (by omega)).trans h.lev, this⟩
theorem Emp2.of {w w' : World} {s n g : Nat} {ord : Value} {cur rc : Array Value} (h : Emp2 w s n ord g rc cur) (f : Fr (fun _ => True) w w') : Emp2 w' s n ord g rc cur :=
  ⟨(f.block _ (block_lt h.blk) trivial).trans h.blk, (f.block _ (block_lt h.rows) trivial).trans h.rows, h.made.of f trivial, h.found.of f trivial, (f.block _ (block_lt h.lev) trivial).trans h.lev, h.far⟩

def rcA : Nat → Array Value
  | 0 => #[.int .i64 0, .int .i64 0, .int .i64 0, .int .i64 0, .bool false, .int .i64 0, .int .i64 0, .int .i64 0, .int .i64 0, .bool false]
  | 1 => #[.int .i64 (-1), .int .i64 0, .int .i64 0, .int .i64 0, .bool false, .int .i64 0, .int .i64 0, .int .i64 0, .int .i64 0, .bool false]
  | _ => #[.int .i64 (-1), .int .i64 0, .int .i64 0, .int .i64 0, .bool false, .int .i64 (-1), .int .i64 0, .int .i64 0, .int .i64 0, .bool false]

theorem Emp2.fill {w : World} {s n g : Nat} {ord : Value} {cur : Array Value} (h : Emp2 w s n ord g (rcA 2) cur) : Emp2 ((((((((((w.setCell ⟨g, 0, none⟩ (.int .i64 (n : Int))).setCell ⟨g, 1, none⟩ (.int .i64 0)).setCell ⟨g, 2, none⟩ (.int .i64 0)).setCell ⟨g, 3, none⟩ (.int .i64 0)).setCell ⟨g, 4, none⟩ (.bool true)).setCell ⟨g, 5, none⟩ (.int .i64 (n : Int))).setCell ⟨g, 6, none⟩ (.int .i64 0)).setCell ⟨g, 7, none⟩ (.int .i64 0)).setCell ⟨g, 8, none⟩ (.int .i64 0)).setCell ⟨g, 9, none⟩ (.bool true)) s n ord g #[.int .i64 (n : Int), .int .i64 0, .int .i64 0, .int .i64 0, .bool true, .int .i64 (n : Int), .int .i64 0, .int .i64 0, .int .i64 0, .bool true] cur := by
  have k := ((((((((((h.set 0 (.int .i64 (n : Int))).set 1 (.int .i64 0)).set 2 (.int .i64 0)).set 3 (.int .i64 0)).set 4 (.bool true)).set 5 (.int .i64 (n : Int))).set 6 (.int .i64 0)).set 7 (.int .i64 0)).set 8 (.int .i64 0)).set 9 (.bool true))
  simpa [rcA] using k

theorem Emp2.clear {w w' : World} {s n g : Nat} {ord : Value} {cur rc : Array Value} (h : Emp2 w s n ord g rc cur) (f : Fr (· ≠ s) w w') (hm : MapIs 44 w' s []) : Emp2 w' s n ord g rc cur := by
  have := h.far
  exact ⟨(f.block _ (block_lt h.blk) (by omega)).trans h.blk, (f.block _ (block_lt h.rows) (by omega)).trans h.rows, hm, h.found.of f (by omega), (f.block _ (block_lt h.lev) (by omega)).trans h.lev, this⟩
theorem Emp2.again {w : World} {s n g : Nat} {ord : Value} {cur rc : Array Value} (h : Emp2 w s n ord g rc cur) : Emp2 (w.setCell ⟨s + 3, 4, none⟩ (.map (some s))) s n ord g rc cur := by
  have f : Fr (· ≠ s + 3) w (w.setCell ⟨s + 3, 4, none⟩ (.map (some s))) := (Fr.refl _ w).set (by simp) _
  have := h.far
  exact ⟨set_block h.blk 4 _, (f.block _ (block_lt h.rows) (by omega)).trans h.rows, h.made.of f (by omega), h.found.of f (by omega), (f.block _ (block_lt h.lev) (by omega)).trans h.lev, this⟩
theorem Emp2.tab {w : World} {s n g : Nat} {oa : Option Addr} {oc : Nat} {cur : Array Value} (hn : n ≤ 24) (h : Emp2 w s n (.slice oa n oc) g #[.int .i64 (n : Int), .int .i64 0, .int .i64 0, .int .i64 0, .bool true, .int .i64 (n : Int), .int .i64 0, .int .i64 0, .int .i64 0, .bool true] cur) (hcur : ∀ i, i ≤ n → cur[i]? = some (.int .i64 (i : Int))) : TabG ⟨s + 3, n, s + 2, n + 1, s, s + 1, s + 4, s, oa, oc⟩ w g 2 (.slice none 0 0) [⟨n, 0, 0, 0, true⟩, ⟨n, 0, 0, 0, true⟩] [] [] [] := by
  have hf := h.far
  have hb := block_lt h.blk
  refine { blk := h.blk, rows := RowsAt.mk' ?_, frs := World.ownsRow_nil _ _ _ _, far := by simp [Value.ownBlock], ok := ?_, made := h.made, found := h.found }
  · exact ⟨rfl, .inr ⟨g, 2, _, rfl, hf, h.rows, by simp, by decide, rfl, rfl⟩⟩
  · refine { lev := fun i hi => ?_, n24 := hn, hi := by show s + 4 ≤ _; omega, lob := by show s ≤ s + 3; omega, lolb := by show s ≤ s + 2; omega, lomb := Nat.le_refl _, lofb := by show s ≤ s + 1; omega, b := by show s + 3 < s + 4; omega, lb := by show s + 2 < s + 4; omega, mb := by show s < s + 4; omega, fb := by show s + 1 < s + 4; omega, d1 := by show s + 3 ≠ s + 2; omega, d2 := by show s + 3 ≠ s; omega, d3 := by show s + 3 ≠ s + 1; omega, d4 := by show s + 2 ≠ s; omega, d5 := by show s + 2 ≠ s + 1; omega, d6 := by show s ≠ s + 1; omega }
    exact (block_cell h.lev i).trans (hcur i hi)

set_option maxRecDepth 100000 in
set_option maxHeartbeats 1000000 in
theorem bare_any (w : World) (s n : Nat) (oa : Option Addr) (oc : Nat) (cur : Array Value) (hn : n ≤ 24) (E : Emp w s n (.slice oa n oc) n cur) (hcur : ∀ i, i ≤ n → cur[i]? = some (.int .i64 (i : Int))) :
    Calls Tryd.prog 24 #[.pointer (some ⟨s + 3, 0, none⟩), .int .i64 1] w fun e w' => e = .returned (.tuple #[]) ∧ Tab ⟨s + 3, n, s + 2, n + 1, s, s + 1, s + 4, s, oa, oc⟩ w' [⟨n, 0, 0, 0, true⟩, ⟨n, 0, 0, 0, true⟩] [] [] [] ∧ Fr (· < s) w w' := by
  have mo := follows
  obtain ⟨i0, hi0, hz0, hz1, hz2⟩ := info46
  have m1 : (Instr.makeSlice 48 (.int .i64 2) (.int .i64 2)).run Tryd.prog w = .ok (.slice (some ⟨w.heap.size, 0, none⟩) 2 2) (w.alloc (.cells #[.int .i64 0, .int .i64 0, .int .i64 0, .int .i64 0, .bool false, .int .i64 0, .int .i64 0, .int .i64 0, .int .i64 0, .bool false] 46)) := by
    have := run_makeSlice (P := Tryd.prog) w 48 46 i0 _ Tryd.underlying48 hi0 hz0 .i64 .i64 2 2 (by omega) (by omega) (by rw [hz1]; decide) (by rw [hz2]; decide) (by omega)
    rw [hz1] at this
    exact this.trans (by kernel_rfl)
  have hE := E.rows (rc := #[.int .i64 0, .int .i64 0, .int .i64 0, .int .i64 0, .bool false, .int .i64 0, .int .i64 0, .int .i64 0, .int .i64 0, .bool false])
  have hwb := block_lt E.blk
  have E1 : Hid (Emp2 _ _ _ _ _ _ _) := hE
  have F1 : Hid (Fr (· < s) w _) := ((Fr.refl (· < s) w).set (p := ⟨s + 3, 2, none⟩) (by simp) (.slice (some ⟨w.heap.size, 0, none⟩) 2 2)).alloc (.cells #[.int .i64 0, .int .i64 0, .int .i64 0, .int .i64 0, .bool false, .int .i64 0, .int .i64 0, .int .i64 0, .int .i64 0, .bool false] 46)
  have hA := E.of ((Fr.refl _ w).alloc (.cells #[.int .i64 0, .int .i64 0, .int .i64 0, .int .i64 0, .bool false, .int .i64 0, .int .i64 0, .int .i64 0, .int .i64 0, .bool false] 46))
  have c2 := block_cell hA.blk 2
  have z2 := frozen_block hA.blk 2
  have d2 := block_cell hE.blk 2
  clear hE hA E
  go_enter Tryd.func24, Tryd.ntmps24
  go_wp2_with fail
  clear m1 c2 z2 d2
  generalize ((w.setCell ⟨s + 3, 2, none⟩ (.slice (some ⟨w.heap.size, 0, none⟩) 2 2)).alloc (.cells #[.int .i64 0, .int .i64 0, .int .i64 0, .int .i64 0, .bool false, .int .i64 0, .int .i64 0, .int .i64 0, .int .i64 0, .bool false] 46)) = W at E1 F1 ⊢
  obtain ⟨g, hg⟩ : ∃ g, w.heap.size = g := ⟨_, rfl⟩
  rw [hg] at E1 hwb ⊢
  go_loopg [17] (2) (fun k s17 wr => ∃ j : Nat, s17 = .int .i64 (j : Int) ∧ j + k = 2 ∧ Hid (Emp2 wr s n (.slice oa n oc) g (rcA j) cur) ∧ Hid (Fr (· < s) w wr))
  case atStart => exact ⟨0, rfl, rfl, E1, F1⟩
  case round =>
    clear E1 F1
    obtain ⟨j, rfl, hjk, E, F⟩ := hrel
    have b2 := block_cell E.out.blk 2
    rcases (by omega : j = 0 ∨ j = 1 ∨ j = 2) with rfl | rfl | rfl
    · obtain ⟨k, rfl⟩ : ∃ k, gk = k + 1 := ⟨gk - 1, by omega⟩
      have x0 := block_cell E.out.rows 0
      have x1 := frozen_block E.out.rows 0
      have E2 : Hid (Emp2 (wr.setCell ⟨g, 0, none⟩ (.int .i64 (-1))) s n (.slice oa n oc) g (rcA 1) cur) := E.out.set 0 (.int .i64 (-1))
      have F2 : Hid (Fr (· < s) w (wr.setCell ⟨g, 0, none⟩ (.int .i64 (-1)))) := F.out.set (by simp; omega) _
      go_wp2_with fail
      go_roundg k
      case measure => omega
      case rel => exact ⟨1, by simp, by omega, E2, F2⟩
    · obtain ⟨k, rfl⟩ : ∃ k, gk = k + 1 := ⟨gk - 1, by omega⟩
      have x0 := block_cell E.out.rows 5
      have x1 := frozen_block E.out.rows 5
      have E2 : Hid (Emp2 (wr.setCell ⟨g, 5, none⟩ (.int .i64 (-1))) s n (.slice oa n oc) g (rcA 2) cur) := E.out.set 5 (.int .i64 (-1))
      have F2 : Hid (Fr (· < s) w (wr.setCell ⟨g, 5, none⟩ (.int .i64 (-1)))) := F.out.set (by simp; omega) _
      go_wp2_with fail
      go_roundg k
      case measure => omega
      case rel => exact ⟨2, by simp, by omega, E2, F2⟩
    · have b0 := block_cell E.out.blk 0
      have X1 : Hid (Emp2 (wr.alloc (.cells #[.int .i64 (n : Int), .int .i64 0, .int .i64 0, .int .i64 0, .bool true] 46)) s n (.slice oa n oc) g (rcA 2) cur) := E.out.of ((Fr.refl _ wr).alloc _)
      have G1 : Hid (Fr (· < s) w (wr.alloc (.cells #[.int .i64 (n : Int), .int .i64 0, .int .i64 0, .int .i64 0, .bool true] 46))) := F.out.alloc _
      have B1 : Hid ((wr.alloc (.cells #[.int .i64 (n : Int), .int .i64 0, .int .i64 0, .int .i64 0, .bool true] 46)).heap[wr.heap.size]? = some (.cells #[.int .i64 (n : Int), .int .i64 0, .int .i64 0, .int .i64 0, .bool true] 46 (0, 0))) := heap_new rfl
      have hgw := block_lt E.out.rows
      have hsw := block_lt E.out.blk
      have hge := E.out.far
      go_wp2_with fail
      clear b2 b0 E F
      generalize wr.alloc (.cells #[.int .i64 (n : Int), .int .i64 0, .int .i64 0, .int .i64 0, .bool true] 46) = W1 at X1 G1 B1 ⊢
      obtain ⟨be, hbe⟩ : ∃ be, wr.heap.size = be := ⟨_, rfl⟩
      rw [hbe] at B1 hgw hsw ⊢
      clear hbe
      have n1 : g ≠ be := by omega
      have n2 : g ≠ s + 3 := by omega
      have n3 : s + 3 ≠ be := by omega
      have X1d : Hid (Emp2 W1.drew s n (.slice oa n oc) g (rcA 2) cur) := X1.out.of (Fr.refl _ W1).drew
      have B1d : Hid (W1.drew.heap[be]? = _) := B1.out
      have b2 := block_cell X1.out.blk 2
      have b2d := block_cell X1d.out.blk 2
      have e0 := block_cell B1.out 0
      have e0d := block_cell B1d.out 0
      have e1 := block_cell B1.out 1
      have e1d := block_cell B1d.out 1
      have e2 := block_cell B1.out 2
      have e2d := block_cell B1d.out 2
      have e3 := block_cell B1.out 3
      have e3d := block_cell B1d.out 3
      have e4 := block_cell B1.out 4
      have e4d := block_cell B1d.out 4
      have r0 : W1.cell? ⟨g, 0, none⟩ = some (.int .i64 (-1)) := block_cell X1.out.rows 0
      have f0 := frozen_block X1.out.rows 0
      have r0d : W1.drew.cell? ⟨g, 0, none⟩ = some (.int .i64 (-1)) := block_cell X1d.out.rows 0
      have f0d := frozen_block X1d.out.rows 0
      have r1 : W1.cell? ⟨g, 1, none⟩ = some (.int .i64 0) := block_cell X1.out.rows 1
      have f1 := frozen_block X1.out.rows 1
      have r1d : W1.drew.cell? ⟨g, 1, none⟩ = some (.int .i64 0) := block_cell X1d.out.rows 1
      have f1d := frozen_block X1d.out.rows 1
      have r2 : W1.cell? ⟨g, 2, none⟩ = some (.int .i64 0) := block_cell X1.out.rows 2
      have f2 := frozen_block X1.out.rows 2
      have r2d : W1.drew.cell? ⟨g, 2, none⟩ = some (.int .i64 0) := block_cell X1d.out.rows 2
      have f2d := frozen_block X1d.out.rows 2
      have r3 : W1.cell? ⟨g, 3, none⟩ = some (.int .i64 0) := block_cell X1.out.rows 3
      have f3 := frozen_block X1.out.rows 3
      have r3d : W1.drew.cell? ⟨g, 3, none⟩ = some (.int .i64 0) := block_cell X1d.out.rows 3
      have f3d := frozen_block X1d.out.rows 3
      have r4 : W1.cell? ⟨g, 4, none⟩ = some (.bool false) := block_cell X1.out.rows 4
      have f4 := frozen_block X1.out.rows 4
      have r4d : W1.drew.cell? ⟨g, 4, none⟩ = some (.bool false) := block_cell X1d.out.rows 4
      have f4d := frozen_block X1d.out.rows 4
      have r5 : W1.cell? ⟨g, 5, none⟩ = some (.int .i64 (-1)) := block_cell X1.out.rows 5
      have f5 := frozen_block X1.out.rows 5
      have r5d : W1.drew.cell? ⟨g, 5, none⟩ = some (.int .i64 (-1)) := block_cell X1d.out.rows 5
      have f5d := frozen_block X1d.out.rows 5
      have r6 : W1.cell? ⟨g, 6, none⟩ = some (.int .i64 0) := block_cell X1.out.rows 6
      have f6 := frozen_block X1.out.rows 6
      have r6d : W1.drew.cell? ⟨g, 6, none⟩ = some (.int .i64 0) := block_cell X1d.out.rows 6
      have f6d := frozen_block X1d.out.rows 6
      have r7 : W1.cell? ⟨g, 7, none⟩ = some (.int .i64 0) := block_cell X1.out.rows 7
      have f7 := frozen_block X1.out.rows 7
      have r7d : W1.drew.cell? ⟨g, 7, none⟩ = some (.int .i64 0) := block_cell X1d.out.rows 7
      have f7d := frozen_block X1d.out.rows 7
      have r8 : W1.cell? ⟨g, 8, none⟩ = some (.int .i64 0) := block_cell X1.out.rows 8
      have f8 := frozen_block X1.out.rows 8
      have r8d : W1.drew.cell? ⟨g, 8, none⟩ = some (.int .i64 0) := block_cell X1d.out.rows 8
      have f8d := frozen_block X1d.out.rows 8
      have r9 : W1.cell? ⟨g, 9, none⟩ = some (.bool false) := block_cell X1.out.rows 9
      have f9 := frozen_block X1.out.rows 9
      have r9d : W1.drew.cell? ⟨g, 9, none⟩ = some (.bool false) := block_cell X1d.out.rows 9
      have f9d := frozen_block X1d.out.rows 9
      have X2 : Hid (Emp2 ((((((((((W1.setCell ⟨g, 0, none⟩ (.int .i64 (n : Int))).setCell ⟨g, 1, none⟩ (.int .i64 0)).setCell ⟨g, 2, none⟩ (.int .i64 0)).setCell ⟨g, 3, none⟩ (.int .i64 0)).setCell ⟨g, 4, none⟩ (.bool true)).setCell ⟨g, 5, none⟩ (.int .i64 (n : Int))).setCell ⟨g, 6, none⟩ (.int .i64 0)).setCell ⟨g, 7, none⟩ (.int .i64 0)).setCell ⟨g, 8, none⟩ (.int .i64 0)).setCell ⟨g, 9, none⟩ (.bool true)).drew s n (.slice oa n oc) g #[.int .i64 (n : Int), .int .i64 0, .int .i64 0, .int .i64 0, .bool true, .int .i64 (n : Int), .int .i64 0, .int .i64 0, .int .i64 0, .bool true] cur) := X1.out.fill.of (Fr.refl _ _).drew
      have F2 : Hid (Fr (· < s) w ((((((((((W1.setCell ⟨g, 0, none⟩ (.int .i64 (n : Int))).setCell ⟨g, 1, none⟩ (.int .i64 0)).setCell ⟨g, 2, none⟩ (.int .i64 0)).setCell ⟨g, 3, none⟩ (.int .i64 0)).setCell ⟨g, 4, none⟩ (.bool true)).setCell ⟨g, 5, none⟩ (.int .i64 (n : Int))).setCell ⟨g, 6, none⟩ (.int .i64 0)).setCell ⟨g, 7, none⟩ (.int .i64 0)).setCell ⟨g, 8, none⟩ (.int .i64 0)).setCell ⟨g, 9, none⟩ (.bool true)).drew) := Fr.drew ((((((((((G1.out.set (p := ⟨g, 0, none⟩) (by simp; omega) (.int .i64 (n : Int))).set (p := ⟨g, 1, none⟩) (by simp; omega) (.int .i64 0)).set (p := ⟨g, 2, none⟩) (by simp; omega) (.int .i64 0)).set (p := ⟨g, 3, none⟩) (by simp; omega) (.int .i64 0)).set (p := ⟨g, 4, none⟩) (by simp; omega) (.bool true)).set (p := ⟨g, 5, none⟩) (by simp; omega) (.int .i64 (n : Int))).set (p := ⟨g, 6, none⟩) (by simp; omega) (.int .i64 0)).set (p := ⟨g, 7, none⟩) (by simp; omega) (.int .i64 0)).set (p := ⟨g, 8, none⟩) (by simp; omega) (.int .i64 0)).set (p := ⟨g, 9, none⟩) (by simp; omega) (.bool true))
      go_big_region_o
      clear e0 e0d e1 e1d e2 e2d e3 e3d e4 e4d r0 f0 r0d f0d r1 f1 r1d f1d r2 f2 r2d f2d r3 f3 r3d f3d r4 f4 r4d f4d r5 f5 r5d f5d r6 f6 r6d f6d r7 f7 r7d f7d r8 f8 r8d f8d r9 f9 r9d f9d b2 b2d X1 X1d B1 B1d G1
      generalize ((((((((((W1.setCell ⟨g, 0, none⟩ (.int .i64 (n : Int))).setCell ⟨g, 1, none⟩ (.int .i64 0)).setCell ⟨g, 2, none⟩ (.int .i64 0)).setCell ⟨g, 3, none⟩ (.int .i64 0)).setCell ⟨g, 4, none⟩ (.bool true)).setCell ⟨g, 5, none⟩ (.int .i64 (n : Int))).setCell ⟨g, 6, none⟩ (.int .i64 0)).setCell ⟨g, 7, none⟩ (.int .i64 0)).setCell ⟨g, 8, none⟩ (.int .i64 0)).setCell ⟨g, 9, none⟩ (.bool true)).drew = W2 at X2 F2 ⊢
      have HC : Hid (Calls _ _ _ _ _) := cleared44_any W2 s [] X2.out.made (by simp)
      have b4 := block_cell X2.out.blk 4
      go_wp2_with fail
      refine HC.out.mono ?_
      rintro e W3 ⟨rfl, hm, hf⟩
      have hX := X2.out.clear hf hm
      have X3 : Hid (Emp2 _ _ _ _ _ _ _) := hX.again
      have F3 : Hid (Fr (· < s) w (W3.setCell ⟨s + 3, 4, none⟩ (.map (some s)))) := (F2.out.trans (hf.mono fun k hk => by omega)).set (by simp) _
      have c4 := block_cell hX.blk 4
      have z4 := frozen_block hX.blk 4
      clear hX hm hf b4 HC X2 F2
      go_wp2_with fail
      go_end0
      exact ⟨rfl, ⟨_, _, _, X3.out.tab hn hcur⟩, F3.out⟩

end Go.Proofs.YtkbomifmijafgaaDoor.Sx
