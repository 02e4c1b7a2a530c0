/- Two lists through one another: the law's walk. -/
import Derived.Test.YteplnemegoffjaaC2
import Derived.Laws.OwnMore
import Derived.Deep.Cut
namespace Go.Proofs.Yteplnemegoffjaa.Sx
open Go.RowKit

def Src (w : World) (a : Option Addr) (n : Nat) (vs : List Value) : Prop :=
  vs.length = n ∧ (∀ u ∈ vs, u.oneCell' = true) ∧ (n = 0 ∨ ∃ b off, a = some ⟨b, off, none⟩ ∧ b < w.heap.size ∧ ∀ j u, vs[j]? = some u → w.cell? ⟨b, off + j, none⟩ = some u)
theorem IR.src {w : World} {a : Option Addr} {l : List Int} (h : IR w a l) : Src w a l.length (vals l) := by
  refine ⟨by simp [vals], fun u hu => ?_, ?_⟩
  · obtain ⟨x, _, rfl⟩ := List.mem_map.1 hu
    rfl
  · rcases h with rfl | ⟨b, off, e, hlt, hc⟩
    · exact .inl rfl
    · refine .inr ⟨b, off, e, hlt, fun j u hu => ?_⟩
      simp only [vals, List.getElem?_map, Option.map_eq_some_iff] at hu
      obtain ⟨x, hx, rfl⟩ := hu
      exact hc j x hx
theorem add_plain (b off j : Nat) : (⟨b, off, none⟩ : Addr).add j = ⟨b, off + j, none⟩ := by unfold Addr.add; split <;> simp_all

theorem run_append_empty {P : Program} (w : World) (base : Nat) (t ty e : TypeId) (i : TypeInfo) (size : Nat) (ht : P.underlying t = some (.slice e)) (hi : P.info? e = some i)
    (v : Value) (n : Nat) (xs : List Value) (hown : w.ownsRow base e size v n xs) (x : Option Addr) (c : Nat) :
    (Builtin.append_ #[t, t] ty #[v, .slice x 0 c]).run P w = .ok v w := by
  rcases hown.2 with ⟨rfl, rfl⟩ | ⟨g, cap, cur, rfl, _, _, hnc, _⟩
  · cases x with
    | none => simp [Builtin.append_, run_underlying ht, sizeOf, typeInfo, hi, Builtin.lenOf, Builtin.firstCells]
    | some ad =>
      have hfc := run_firstCells_some (P := P) w i.size 0 ad 0 c [] (by simp) (by simp)
      simp [Builtin.append_, run_underlying ht, sizeOf, typeInfo, hi, Builtin.lenOf, hfc]
  · cases x with
    | none => simp [Builtin.append_, run_underlying ht, sizeOf, typeInfo, hi, Builtin.lenOf, Builtin.firstCells, hnc, storeCells]
    | some ad =>
      have hfc := run_firstCells_some (P := P) w i.size 0 ad 0 c [] (by simp) (by simp)
      simp [Builtin.append_, run_underlying ht, sizeOf, typeInfo, hi, Builtin.lenOf, hfc, hnc, storeCells]

theorem grownBy_refl (w : World) (r : Option Nat) : w.grownBy w r := ⟨rfl, rfl, rfl, Nat.le_refl _, fun _ _ _ => rfl⟩

/-- a row is put behind another, whatever there is in it; and where the new one lies -/
theorem wpList_append_src2 (w : World) {ops : Array Oper} {rest : List Oper} {o : Oper} {a : Act} {Q : Exit → Act → World → Prop} (hgd : o.guard = none) (s x : Operand) (t : TypeId)
    (ho : o.op = .call { callee := .builtin .append, args := #[s, x], argTypes := #[t, t] })
    (base : Nat) (e : TypeId) (i : TypeInfo) (z : Value) (bytes : Nat) (ht : Try.prog.underlying t = some (.slice e)) (hi : Try.prog.info? e = some i) (hz : i.zero = some z)
    (hsize : i.size = 1) (hby : i.bytes = bytes) (hzs : z.cells.size = 1)
    (v : Value) (n : Nat) (xs : List Value) (hs : a.eval s = v) (hown : w.ownsRow base e 1 v n xs)
    (ad : Option Addr) (m c : Nat) (news : List Value) (hx : a.eval x = .slice ad m c) (hS : Src w ad m news) (h63 : n + m ≤ maxLen) (hbytes : (n + m) * bytes ≤ 140737488355328) (hbase : base ≤ w.heap.size)
    (h : ∀ v' w', w'.ownsRow base e 1 v' (n + m) (xs ++ news) → w.grownBy w' v.ownBlock → (v'.ownBlock = v.ownBlock ∨ v'.ownBlock = some w.heap.size) → wpList Try.prog ops Q rest (a.put o.dst v') w') : wpList Try.prog ops Q (o :: rest) a w := by
  obtain ⟨hl, h1, h0 | ⟨b, off, rfl, hlt, hc⟩⟩ := hS
  · subst h0
    obtain rfl : news = [] := List.length_eq_zero_iff.1 hl
    refine Lib.wpList_append_run w hgd s x t t ho _ _ hs hx v w (run_append_empty w base t o.type e i 1 ht hi v n xs hown ad c) ?_
    exact h v w (by simpa using hown) (grownBy_refl w _) (.inl rfl)
  · by_cases hm : m = 0
    · subst hm
      obtain rfl : news = [] := List.length_eq_zero_iff.1 hl
      refine Lib.wpList_append_run w hgd s x t t ho _ _ hs hx v w (run_append_empty w base t o.type e i 1 ht hi v n xs hown _ c) ?_
      exact h v w (by simpa using hown) (grownBy_refl w _) (.inl rfl)
    · refine wpList_append_lies w hgd s x t ho base e i z 1 bytes ht hi hz hsize hby hzs (by decide) v n xs hs hown ⟨b, off, none⟩ m c news hx (by omega) (fun j u hu => by rw [add_plain]; exact hc j u hu) h1 (by omega) h63 hbytes hbase w.heap.size rfl ?_
      intro g cap w' ho' hg hat _
      exact h _ w' ho' hg (hat.elim (fun q => .inl q.symm) (fun q => .inr (by rw [q]; rfl)))


set_option maxRecDepth 100000 in
set_option maxHeartbeats 2000000 in
theorem law_any (w : World) (a b : Option Addr) (c c' : Nat) (f g : List Int) (hf : f.length * 8 ≤ 140737488351232) (hg : g.length * 8 ≤ 140737488351232) (ha : IR w a f) (hb : IR w b g) :
    Calls Try.prog 3 #[.slice a f.length c, .slice b g.length c'] w fun e w' => e = .returned (.bool true) ∧ Below w.heap.size w w' := by
  obtain ⟨i0, hi0, hz0, hz1, hz2⟩ := info3
  have HA : Hid (IR w a f) := ha
  have HB : Hid (IR w b g) := hb
  have m1 : 0 + f.length ≤ maxLen := by unfold maxLen; omega
  have m2 : 0 + g.length ≤ maxLen := by unfold maxLen; omega
  have n1 : (0 + f.length) * 8 ≤ 140737488355328 := by omega
  have n2 : (0 + g.length) * 8 ≤ 140737488355328 := by omega
  clear ha hb
  go_enter Try.func3, Try.ntmps3
  go_upto_region 2 with (at_builtin; refine wpList_append_src2 _ rfl _ _ 22 rfl w.heap.size 3 i0 _ 8 Try.underlying22 hi0 hz0 hz1 hz2 rfl _ 0 [] rfl (World.ownsRow_lit (e := 3) (size := 1) w #[] 0 (Nat.le_refl _) (by decide) rfl) a f.length c (vals f) rfl (HA.out.below ((Below.refl _ _).alloc (Nat.le_refl _) _)).src m1 n1 (by simp) ?_; intro v1 w1 ho1 hg1 hat1)
  have B1 := grown_below ((Below.refl _ w).alloc (Nat.le_refl _) _) (World.ownsRow_lit (e := 3) (size := 1) w #[] 0 (Nat.le_refl _) (by decide) rfl) rfl hg1
  obtain ⟨a1, c1, rfl, ir1⟩ := IR.own (l := f) ho1
  have HA1 : Hid (IR w1 a f) := HA.out.below B1
  have HB1 : Hid (IR w1 b g) := HB.out.below B1
  have IR1 : Hid (IR w1 a1 f) := ir1
  have BB1 : Hid (Below w.heap.size w w1) := B1
  clear ho1 hg1 hat1 B1 ir1 HA HB
  go_upto_region 3 with (at_builtin; refine wpList_append_src2 _ rfl _ _ 22 rfl w1.heap.size 3 i0 _ 8 Try.underlying22 hi0 hz0 hz1 hz2 rfl _ 0 [] rfl (World.ownsRow_lit (e := 3) (size := 1) w1 #[] 0 (Nat.le_refl _) (by decide) rfl) b g.length c' (vals g) rfl (HB1.out.below ((Below.refl _ _).alloc (Nat.le_refl _) _)).src m2 n2 (by simp) ?_; intro v2 w2 ho2 hg2 hat2)
  have B2 := grown_below ((Below.refl _ w1).alloc (Nat.le_refl _) _) (World.ownsRow_lit (e := 3) (size := 1) w1 #[] 0 (Nat.le_refl _) (by decide) rfl) rfl hg2
  obtain ⟨a2, c2, rfl, ir2⟩ := IR.own (l := g) ho2
  have HA2 : Hid (IR w2 a f) := HA1.out.below B2
  have HB2 : Hid (IR w2 b g) := HB1.out.below B2
  have IRf : Hid (IR w2 a1 f) := IR1.out.below B2
  have IRg : Hid (IR w2 a2 g) := ir2
  have BB2 : Hid (Below w.heap.size w w2) := BB1.out.trans (B2.mono BB1.out.size)
  clear ho2 hg2 hat2 B2 ir2 HA1 HB1 IR1 BB1
  go_upto_region 4 with (go_at_call 4; refine (comp_any w2 a1 a2 c1 c2 f g hf hg IRf.out IRg.out).mono ?_; rintro e w3 ⟨a3, c3, rfl, ir3, B3⟩)
  have HA3 : Hid (IR w3 a f) := HA2.out.below B3
  have HB3 : Hid (IR w3 b g) := HB2.out.below B3
  have IRf3 : Hid (IR w3 a1 f) := IRf.out.below B3
  have IRg3 : Hid (IR w3 a2 g) := IRg.out.below B3
  have IRc3 : Hid (IR w3 a3 (compV f g)) := ir3
  have BB3 : Hid (Below w.heap.size w w3) := BB2.out.trans (B3.mono BB2.out.size)
  clear B3 ir3 HA2 HB2 IRf IRg BB2
  go_upto_region 5 with (go_at_call 5; refine (gcomp_any w3 a b c c' f g hf hg HA3.out HB3.out).mono ?_; rintro e w4 ⟨a4, c4, rfl, ir4, B4⟩)
  have HA4 : Hid (IR w4 a f) := HA3.out.below B4
  have HB4 : Hid (IR w4 b g) := HB3.out.below B4
  have IRf4 : Hid (IR w4 a1 f) := IRf3.out.below B4
  have IRg4 : Hid (IR w4 a2 g) := IRg3.out.below B4
  have IRc4 : Hid (IR w4 a3 (compV f g)) := IRc3.out.below B4
  have IRd4 : Hid (IR w4 a4 (compV f g)) := ir4
  have BB4 : Hid (Below w.heap.size w w4) := BB3.out.trans (B4.mono BB3.out.size)
  clear B4 ir4 HA3 HB3 IRf3 IRg3 IRc3 BB3
  have hcl : (compV f g).length * 8 ≤ 140737488351232 := by rw [compV_len]; exact hf
  go_upto_region 6 with (go_at_call 6; refine (ints_same w4 a3 a4 c3 c4 (compV f g) hcl IRc4.out IRd4.out).mono ?_; rintro e w5 ⟨rfl, B5⟩)
  have HA5 : Hid (IR w5 a f) := HA4.out.below B5
  have HB5 : Hid (IR w5 b g) := HB4.out.below B5
  have IRf5 : Hid (IR w5 a1 f) := IRf4.out.below B5
  have IRg5 : Hid (IR w5 a2 g) := IRg4.out.below B5
  have BB5 : Hid (Below w.heap.size w w5) := BB4.out.trans (B5.mono BB4.out.size)
  clear B5 HA4 HB4 IRf4 IRg4 IRc4 IRd4 BB4
  go_upto_region 7 with (go_at_call 6; refine (ints_same w5 a1 a c1 c f hf IRf5.out HA5.out).mono ?_; rintro e w6 ⟨rfl, B6⟩)
  have HB6 : Hid (IR w6 b g) := HB5.out.below B6
  have IRg6 : Hid (IR w6 a2 g) := IRg5.out.below B6
  have BB6 : Hid (Below w.heap.size w w6) := BB5.out.trans (B6.mono BB5.out.size)
  clear B6 HB5 IRf5 IRg5 BB5
  go_upto_region 8 with (go_at_call 6; refine (ints_same w6 a2 b c2 c' g hg IRg6.out HB6.out).mono ?_; rintro e w7 ⟨rfl, B7⟩)
  have BB7 : Below w.heap.size w w7 := BB6.out.trans (B7.mono BB6.out.size)
  clear B7 BB6
  go_wp2_with fail
  go_ret
  exact ⟨rfl, BB7⟩

end Go.Proofs.Yteplnemegoffjaa.Sx
