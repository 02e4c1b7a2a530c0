/- A new table, made. -/
import Derived.Test.YtkbomifmijafgaaDoorT12
namespace Go.Proofs.YtkbomifmijafgaaDoor.Sx
open Go.RowKit Go.Sort Go.Maps Go.WideMaps

set_option maxRecDepth 100000 in
set_option maxHeartbeats 1000000 in
theorem empty_any (w : World) (n : Nat) (hn : n ≤ 24) :
    Calls Tryd.prog 13 #[.int .i64 (n : Int)] w fun e w' => ∃ T : TL, T.n = n ∧ T.lo = w.heap.size ∧ e = .returned (.pointer (some ⟨T.b, 0, none⟩)) ∧ Tab T w' [⟨n, 0, 0, 0, true⟩, ⟨n, 0, 0, 0, true⟩] [] [] [] ∧ Fr (· < T.lo) w w' := by
  have mo := follows
  have n1 : (0 : Int) ≤ (n : Int) := by omega
  obtain ⟨i0, hi0, hz0, hz1, hz2⟩ := info3
  have m1 : (Instr.makeMap 50 none).run Tryd.prog w = .ok (.map (some w.heap.size)) (w.alloc (.map #[] 0)) := run_makeMap _ _
  have m2 : (Instr.makeMap 51 none).run Tryd.prog (w.alloc (.map #[] 0)) = .ok (.map (some (w.heap.size + 1))) ((w.alloc (.map #[] 0)).alloc (.map #[] 0)) := by have := run_makeMap (P := Tryd.prog) 51 (w.alloc (.map #[] 0)); simpa using this
  obtain ⟨cur, hcur, m3⟩ : ∃ cur : Array Value, cur.size = n + 1 ∧ (Instr.makeSlice 47 (.int .i64 ((n : Int) + 1)) (.int .i64 ((n : Int) + 1))).run Tryd.prog ((w.alloc (.map #[] 0)).alloc (.map #[] 0)) = .ok (.slice (some ⟨w.heap.size + 2, 0, none⟩) (n + 1) (n + 1)) (((w.alloc (.map #[] 0)).alloc (.map #[] 0)).alloc (.cells cur 3)) := by
    have := run_makeSlice (P := Tryd.prog) ((w.alloc (.map #[] 0)).alloc (.map #[] 0)) 47 3 i0 _ Tryd.underlying47 hi0 hz0 .i64 .i64 ((n : Int) + 1) ((n : Int) + 1) (by omega) (by omega) (by rw [hz1]; omega) (by rw [hz2]; omega) (by omega)
    rw [hz1, show ((n : Int) + 1).toNat = n + 1 by omega] at this
    have e2 : ((w.alloc (.map #[] 0)).alloc (.map #[] 0)).heap.size = w.heap.size + 2 := by simp
    rw [e2] at this
    exact ⟨madeCells (Value.int .i64 0).cells ((n + 1) * 1), by rw [size_madeCells]; omega, this⟩
  have E0 : Hid (Emp ((((w.alloc (.map #[] 0)).alloc (.map #[] 0)).alloc (.cells cur 3)).alloc (.cells #[.slice none 0 0, .slice (some ⟨w.heap.size + 2, 0, none⟩) (n + 1) (n + 1), .slice none 0 0, .slice none 0 0, .map (some w.heap.size), .map (some (w.heap.size + 1)), .slice none 0 0] 53)) w.heap.size n (.slice none 0 0) 0 cur) := by
    have a1 := MapIs.new 44 w
    have a2 := MapIs.new 62 (w.alloc (.map #[] 0))
    have e1 : (w.alloc (.map #[] 0)).heap.size = w.heap.size + 1 := by simp
    rw [e1] at a2
    refine ⟨heap_new (by simp), World.ownsRow_nil _ _ _ _, (a1.of (((Fr.refl (fun _ => True) _).alloc _).alloc _ |>.alloc _) trivial), (a2.of (((Fr.refl (fun _ => True) _).alloc _).alloc _) trivial), ?_⟩
    exact (((Fr.refl (fun _ => True) _).alloc _).block _ (by simp) trivial).trans (heap_new (by simp))
  have F0 : Hid (Fr (fun _ => True) w ((((w.alloc (.map #[] 0)).alloc (.map #[] 0)).alloc (.cells cur 3)).alloc (.cells #[.slice none 0 0, .slice (some ⟨w.heap.size + 2, 0, none⟩) (n + 1) (n + 1), .slice none 0 0, .slice none 0 0, .map (some w.heap.size), .map (some (w.heap.size + 1)), .slice none 0 0] 53))) := ((((Fr.refl _ w).alloc _).alloc _).alloc _).alloc _
  go_enter Tryd.func13, Tryd.ntmps13
  go_wp2_with fail
  clear m1 m2 m3
  have e3 : w.heap.size + 1 + 1 + 1 = w.heap.size + 3 := rfl
  rw [e3]
  have F1 : Hid (Fr (· < w.heap.size) w ((((w.alloc (.map #[] 0)).alloc (.map #[] 0)).alloc (.cells cur 3)).alloc (.cells #[.slice none 0 0, .slice (some ⟨w.heap.size + 2, 0, none⟩) (n + 1) (n + 1), .slice none 0 0, .slice none 0 0, .map (some w.heap.size), .map (some (w.heap.size + 1)), .slice none 0 0] 53))) := F0.out.mono fun _ _ => trivial
  clear F0 e3
  generalize ((((w.alloc (.map #[] 0)).alloc (.map #[] 0)).alloc (.cells cur 3)).alloc (.cells #[.slice none 0 0, .slice (some ⟨w.heap.size + 2, 0, none⟩) (n + 1) (n + 1), .slice none 0 0, .slice none 0 0, .map (some w.heap.size), .map (some (w.heap.size + 1)), .slice none 0 0] 53)) = W at E0 F1 ⊢
  obtain ⟨s, hs⟩ : ∃ s, w.heap.size = s := ⟨_, rfl⟩
  rw [hs] at E0 F1 ⊢
  go_loopg [14] (n) (fun k s14 wr => ∃ (j : Nat) (ord : Value), s14 = .int .i64 (j : Int) ∧ j + k = n ∧ Hid (Emp wr s n ord j cur) ∧ Hid (Fr (· < s) w wr))
  case atStart => exact ⟨0, _, rfl, by omega, E0, F1⟩
  case round =>
    clear E0 F1
    obtain ⟨j, ord, rfl, hjk, E, F⟩ := hrel
    obtain ⟨oa, oc, hfs⟩ : ∃ oa oc, ord = .slice oa j oc := by
      rcases E.out.own.2 with ⟨e, hn⟩ | ⟨g', cap', cur, e, _⟩
      · exact ⟨none, 0, by rw [e, hn]⟩
      · exact ⟨_, _, e⟩
    subst hfs
    have b0 := block_cell E.out.blk 0
    have hsz := block_lt E.out.blk
    by_cases hj : j < n
    · obtain ⟨k, rfl⟩ : ∃ k, gk = k + 1 := ⟨gk - 1, by omega⟩
      have hjl : (j : Int) < (n : Int) := by omega
      have HOA : Hid ((wr.alloc (.cells #[.int .i64 (j : Int)] 3)).ownsRow (s + 4) 3 1 (.slice oa j oc) j ((List.range j).map fun x : Nat => Value.int .i64 (x : Int))) := E.out.own.alloc _
      go_wp2_with (at_builtin; refine wpList_append_lies _ rfl _ _ 47 rfl (s + 4) 3 i0 _ 1 8 Tryd.underlying47 hi0 hz0 hz1 hz2 rfl (by decide) (.slice oa j oc) _ _ rfl HOA.out ⟨wr.heap.size, 0, none⟩ 1 1 [.int .i64 (j : Int)] rfl rfl ?q1 ?q2 (by decide) ?q3 ?q4 ?q5 (wr.heap.size + 1) ?q6 ?_)
      case q1 => exact World.news_of_block (heap_new rfl)
      case q2 =>
        intro u hu
        simp only [List.mem_cons, List.not_mem_nil, or_false] at hu
        rcases hu with rfl; rfl
      case q3 => unfold maxLen; omega
      case q4 => omega
      case q5 => simp; omega
      case q6 => simp
      intro g' cap' w1 ho hg hat hlt
      obtain ⟨p1, p2, p3⟩ := E.out.push ((Fr.refl _ wr).alloc _) ho hg
      have E2 : Hid (Emp _ _ _ _ _ _) := p2
      have F2 : Hid (Fr (· < s) w _) := F.out.trans p3
      have c0 := block_cell p1 0
      have z0 := frozen_block p1 0
      clear p1 p2 p3 ho hg hat hlt HOA E F b0
      go_wp2_with fail
      go_roundg k
      case measure => omega
      case rel => exact ⟨j + 1, _, by simp, by omega, E2, F2⟩
    · have hjl : ¬ (j : Int) < (n : Int) := by omega
      obtain rfl : j = n := by omega
      have b1 := block_cell E.out.blk 1
      go_wp2_with fail
      clear b0 b1
      go_loopg [33] (j + 1) (fun k s33 wr2 => ∃ (i : Nat) (cu : Array Value), s33 = .int .i64 (i : Int) ∧ i + k = j + 1 ∧ cu.size = j + 1 ∧ (∀ x, x < i → cu[x]? = some (.int .i64 (x : Int))) ∧ Hid (Emp wr2 s j (.slice oa j oc) j cu) ∧ Hid (Fr (· < s) w wr2))
      case atStart => exact ⟨0, cur, rfl, by omega, hcur, fun x hx => by omega, E, F⟩
      case round =>
        clear E F
        obtain ⟨i, cu, rfl, hik, hcu, hx, E, F⟩ := hrel
        have b1 := block_cell E.out.blk 1
        by_cases hi : i < j + 1
        · obtain ⟨k, rfl⟩ : ∃ k, gk = k + 1 := ⟨gk - 1, by omega⟩
          have hil : (i : Int) < (j : Int) + 1 := by omega
          have hil2 : (i : Int) < ((j + 1 : Nat) : Int) := by omega
          have hi0 : (0 : Int) ≤ (i : Int) := by omega
          have c0 : wr.cell? ⟨s + 2, i, none⟩ = some (cu[i]'(by omega)) := by rw [block_cell E.out.lev i]; exact Array.getElem?_eq_getElem (by omega)
          have z0 := frozen_block E.out.lev i
          have E2 : Hid (Emp (wr.setCell ⟨s + 2, i, none⟩ (.int .i64 (i : Int))) s j (.slice oa j oc) j (cu.set! i (.int .i64 (i : Int)))) := E.out.level i _
          have F2 : Hid (Fr (· < s) w (wr.setCell ⟨s + 2, i, none⟩ (.int .i64 (i : Int)))) := F.out.set (by simp) _
          have hs2 : (cu.set! i (.int .i64 (i : Int))).size = j + 1 := by simpa using hcu
          have hx2 : ∀ x, x < i + 1 → (cu.set! i (.int .i64 (i : Int)))[x]? = some (.int .i64 (x : Int)) := by
            intro x hxl
            simp only [Array.set!_eq_setIfInBounds]
            by_cases e : i = x
            · subst e
              rw [Array.getElem?_setIfInBounds_self_of_lt (by omega)]
            · rw [Array.getElem?_setIfInBounds_ne e]
              exact hx x (by omega)
          go_wp2_with fail
          go_roundg k
          case measure => omega
          case rel => exact ⟨i + 1, _, by simp, by omega, hs2, hx2, E2, F2⟩
        · have hil : ¬ (i : Int) < (j : Int) + 1 := by omega
          obtain rfl : i = j + 1 := by omega
          have HB : Hid (Calls _ _ _ _ _) := bare_any wr s j oa oc cu hn E.out (fun x hxl => hx x (by omega))
          go_wp2_with (go_at_call 24; refine HB.out.mono ?_; rintro e W5 ⟨rfl, hX5, hF5⟩; have X5 : Hid (Tab _ W5 _ _ _ _) := hX5; have F5 : Hid (Fr (· < s) w W5) := F.out.trans hF5; clear hX5 hF5 HB)
          go_ret
          exact ⟨_, rfl, hs.symm, rfl, X5.out, F5.out⟩

set_option maxRecDepth 100000 in
set_option maxHeartbeats 1000000 in
theorem New_ok (w : World) (n : Nat) (hn : n ≤ 24) :
    Calls Tryd.prog 4 #[.int .i64 (n : Int)] w fun e w' => ∃ T : TL, T.n = n ∧ T.lo = w.heap.size ∧ e = .returned (.tuple #[.pointer (some ⟨T.b, 0, none⟩), .nilIface]) ∧ Tab T w' [⟨n, 0, 0, 0, true⟩, ⟨n, 0, 0, 0, true⟩] [] [] [] ∧ Fr (· < T.lo) w w' := by
  have mo := follows
  have HE : Hid (Calls _ _ _ _ _) := empty_any w n hn
  have n1 : ¬ (n : Int) < 0 := by omega
  have n2 : ¬ (24 : Int) < (n : Int) := by omega
  go_enter Tryd.func4, Tryd.ntmps4
  go_wp2_with (go_at_call 13; refine HE.out.mono ?_; rintro e W5 ⟨T, h1, h2, rfl, h3, h4⟩)
  exact bodyPost_ret (v := .tuple #[.pointer (some ⟨T.b, 0, none⟩), .nilIface]) (by simp [results, Tryd.results4, go_sem]) rfl ⟨T, h1, h2, rfl, h3, h4⟩

set_option maxRecDepth 100000 in
set_option maxHeartbeats 1000000 in
theorem New_no (w : World) (n : Int) (hn : n < 0 ∨ 24 < n) :
    Calls Tryd.prog 4 #[.int .i64 n] w fun e w' => e = .returned (.tuple #[.pointer none, .iface 37 (.int .i64 5)]) ∧ w' = w := by
  have mo := follows
  rcases hn with n1 | n1
  · go_enter Tryd.func4, Tryd.ntmps4
    go_wp2_with fail
    exact bodyPost_ret (v := .tuple #[.pointer none, .iface 37 (.int .i64 5)]) (by simp [results, Tryd.results4, go_sem]) rfl ⟨rfl, rfl⟩
  · have n0 : ¬ n < 0 := by omega
    go_enter Tryd.func4, Tryd.ntmps4
    go_wp2_with fail
    exact bodyPost_ret (v := .tuple #[.pointer none, .iface 37 (.int .i64 5)]) (by simp [results, Tryd.results4, go_sem]) rfl ⟨rfl, rfl⟩

end Go.Proofs.YtkbomifmijafgaaDoor.Sx
