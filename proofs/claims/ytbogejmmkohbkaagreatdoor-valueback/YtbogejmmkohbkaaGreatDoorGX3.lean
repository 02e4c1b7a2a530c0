/- The law of what is shown and read again: its walk. -/
import Derived.Test.YtbogejmmkohbkaaGreatDoorGX1
import Derived.Test.YtbogejmmkohbkaaGreatDoorGT1
namespace Go.Proofs.YtbogejmmkohbkaaGreatDoor.Sx
open Go.RowKit Go.Sort

set_option maxRecDepth 100000 in
set_option maxHeartbeats 8000000 in
theorem back_any (a : ByteArray) (w : World) (hB : Base w) (ha : a.size ≤ 9223372036854775806) : Gives 7 #[.string a] w (.bool true) := by
  have N0 : Hid (Now w w) := ⟨hB, Below.refl _ _⟩
  have HL : Hid (Gives 19 #[] w (.bool true)) := lives_any w hB
  have HR : Hid (∀ (W : World), Base W → Calls Tryz.prog 9 #[.string a] W (ReadSaid W (readP a.data.toList))) := fun W h => read_had a W h.env ha
  clear hB ha
  unfold Gives
  go_enter Tryz.func7, Tryz.ntmps7
  go_wp2_with fail
  refine Calls.mono HL.out ?_
  rintro e w1 ⟨rfl, hb⟩
  have N1 : Hid (Now w w1) := N0.out.below hb
  clear N0 HL hb
  go_wp2_with fail
  refine (HR.out w1 N1.out.base).mono ?_
  rintro e w2 ⟨hb, v, er, p, rfl, x, hx, hr⟩
  have N2 : Hid (Now w w2) := N1.out.below hb
  have st1 := store_one (hx.rep.rep _ _ _).one
  have HX : Hid (Had w2 x v) := hx
  clear hx hb N1 HR
  rcases hr with ⟨hr, rfl, rfl⟩ | ⟨c, _, rfl⟩
  case inr =>
    go_wp2_with fail
    go_ret
    exact ⟨rfl, (N2.out.below ((Grew.refl w2).alloc _).below).low⟩
  have RD : Hid (Rd 24 x) := readP_rd hr
  clear hr
  go_wp2_with fail
  have G : Below w2.heap.size w2 (w2.alloc (.cells #[v] 23)) := ((Grew.refl w2).alloc _).below
  have NA : Hid (Now w (w2.alloc (.cells #[v] 23))) := N2.out.below G
  have KA : Hid (Kept w (w2.alloc (.cells #[v] 23)) w2.heap.size x v) := ⟨heap_new rfl, HX.out.below G⟩
  clear G HX N2
  generalize w2.alloc (.cells #[v] 23) = wA at NA KA ⊢
  obtain ⟨S, hS⟩ : ∃ S : ByteArray, S = ⟨(sh 25 x).toArray⟩ := ⟨_, rfl⟩
  have HD : Hid (S.data.toList = sh 25 x) := by rw [hS]; exact List.toList_toArray
  have HW : Hid (∀ W, Had W x v → Base W → Gives 12 #[.agg #[v]] W (.string S)) := fun W h k => by rw [hS]; exact show_had h k
  clear hS
  refine Calls.mono (HW.out wA KA.out.had NA.out.base) ?_
  rintro e w3 ⟨rfl, hb⟩
  have N3 : Hid (Now w w3) := NA.out.below hb
  have K3 : Hid (Kept w w3 w2.heap.size x v) := KA.out.below hb
  clear hb NA KA
  have y0 := block_cell K3.out.box 0
  by_cases hlen : 4000 < S.size
  · go_wp2_with fail
    go_ret
    exact ⟨rfl, N3.out.low⟩
  have HB : Hid (readP (sh 25 x) = .ok x) := back K3.out.had.fine.1 RD.out (by
    have := congrArg List.length HD.out
    have hsz : S.data.toList.length = S.size := by simp
    omega)
  have HR : Hid (∀ (W : World), Base W → Calls Tryz.prog 9 #[.string S] W (ReadSaid W (.ok x))) := fun W h => by
    have := read_had S W h.env (by omega)
    rw [HD.out, HB.out] at this
    exact this
  clear HB RD
  go_wp2_with fail
  clear y0
  refine (HR.out w3 N3.out.base).mono ?_
  rintro e w4 ⟨hb, u, er, p, rfl, y, hy, hr⟩
  obtain ⟨rfl, rfl, rfl⟩ : x = y ∧ p = 0 ∧ er = .nilIface := by
    rcases hr with ⟨h1, h2, h3⟩ | ⟨c, h1, _⟩
    · injection h1 with h1; exact ⟨h1, h2, h3⟩
    · cases h1
  have N4 : Hid (Now w w4) := N3.out.below hb
  have st2 := store_one (hy.rep.rep _ _ _).one
  have HY : Hid (Had w4 x u) := hy
  have K4 : Hid (Kept w w4 w2.heap.size x v) := K3.out.below hb
  have y0 := block_cell K4.out.box 0
  have l0 : w2.heap.size < w4.heap.size := block_lt K4.out.box
  clear hy hb hr N3 K3 HR
  go_wp2_with fail
  clear y0
  have G : Below w4.heap.size w4 (w4.alloc (.cells #[u] 23)) := ((Grew.refl w4).alloc _).below
  have N5 : Hid (Now w (w4.alloc (.cells #[u] 23))) := N4.out.below G
  have K5 : Hid (Kept w (w4.alloc (.cells #[u] 23)) w2.heap.size x v) := K4.out.below G
  have J5 : Hid (Kept w (w4.alloc (.cells #[u] 23)) w4.heap.size x u) := ⟨heap_new rfl, HY.out.below G⟩
  clear G HY N4 K4
  generalize w4.alloc (.cells #[u] 23) = w5 at N5 K5 J5 ⊢
  have HC : Hid (cmpV 25 x x = 0) := (ord 25).self x
  have HU : Hid (∀ W, Had W x u → Base W → Gives 12 #[.agg #[u]] W (.string S)) := fun W h k => by
    have := show_had h k
    have e : S = ⟨(sh 25 x).toArray⟩ := by rw [← HD.out]
    rw [e]; exact this
  obtain ⟨k, hk⟩ : ∃ k, wt 25 x = k := ⟨_, rfl⟩
  have HK1 : Hid (∀ W, Had W x u → Gives 14 #[.agg #[u]] W (.int .i64 k)) := fun W h => by rw [← hk]; exact weight_had h
  have HK2 : Hid (∀ W, Had W x v → Gives 14 #[.agg #[v]] W (.int .i64 k)) := fun W h => by rw [← hk]; exact weight_had h
  have k1 : 1 ≤ k := by rw [← hk]; exact wt_pos 24 x
  have k2 : k ≤ 1024 := by rw [← hk]; exact K5.out.had.wt
  have k3 : (k : Int) ≤ 1024 := by omega
  have k4 : (1 : Int) ≤ k := by omega
  clear hk k1 k2
  refine Calls.mono (compare_had K5.out.had J5.out.had) ?_
  rw [HC.out]
  rintro e w6 ⟨rfl, hb⟩
  have N6 : Hid (Now w w6) := N5.out.below hb
  have K6 : Hid (Kept w w6 w2.heap.size x v) := K5.out.below hb
  have J6 : Hid (Kept w w6 w4.heap.size x u) := J5.out.below hb
  clear hb N5 K5 J5 HC
  have y0 := block_cell K6.out.box 0
  have y1 := block_cell J6.out.box 0
  go_wp2_with fail
  clear y0 y1
  refine Calls.mono (HU.out w6 J6.out.had N6.out.base) ?_
  rintro e w7 ⟨rfl, hb⟩
  have N7 : Hid (Now w w7) := N6.out.below hb
  have K7 : Hid (Kept w w7 w2.heap.size x v) := K6.out.below hb
  have J7 : Hid (Kept w w7 w4.heap.size x u) := J6.out.below hb
  clear hb N6 K6 J6
  have y0 := block_cell K7.out.box 0
  have y1 := block_cell J7.out.box 0
  go_wp2_with fail
  clear y0 y1
  refine Calls.mono (HK2.out w7 K7.out.had) ?_
  rintro e w8 ⟨rfl, hb⟩
  have N8 : Hid (Now w w8) := N7.out.below hb
  have J8 : Hid (Kept w w8 w4.heap.size x u) := J7.out.below hb
  clear hb N7 K7 J7
  have y1 := block_cell J8.out.box 0
  go_wp2_with fail
  clear y1
  refine Calls.mono (HK1.out w8 J8.out.had) ?_
  rintro e w9 ⟨rfl, hb⟩
  have N9 : Hid (Now w w9) := N8.out.below hb
  clear hb N8 J8
  go_wp2_with fail
  go_ret
  exact ⟨rfl, N9.out.low⟩
end Go.Proofs.YtbogejmmkohbkaaGreatDoor.Sx
