/- The program: hear. -/
import Derived.Deep.DeepCutAuto
import Derived.Deep.QuietTactic
import Derived.BigQuiet
import Derived.Sort.Lot0
import Derived.Test.YtbicefgjompnoaaA04
namespace Go.Proofs.Ytbicefgjompnoaa.Sx
open Go.RowKit Go.Sort

set_option maxRecDepth 100000 in
set_option maxHeartbeats 1000000 in
theorem hear_any (w : World) (n pb fb base lo : Nat) (s : List Nat × List Nat) (lv : Value) (l : List Int) (hn : n ≤ 16777216) (hlo : lo ≤ pb) (h : NmAt w n pb fb base s) (hl : IntsAt w lo lv l) (hL : ∀ x ∈ l, LitN n x) :
    Calls Try.prog 26 #[.pointer (some ⟨fb, 0, none⟩), lv] w fun e w' => e = .returned (.tuple #[]) ∧ NmAt w' n pb fb base (hearP s l) ∧ Fr (· < pb) w w' := by
  have mo := follows
  obtain ⟨i0_, hi0, hz0, hz1, hz2⟩ := info21
  obtain ⟨a, cc, rfl, _⟩ := hl.ex
  have hbig := hl.big
  have HI : Hid (IntsAt w lo (.slice a l.length cc) l) := hl
  have HL : Hid (∀ x ∈ l, LitN n x) := hL
  obtain ⟨R, hR⟩ : ∃ R, hearP s l = R := ⟨_, rfl⟩
  rw [hR]
  have HR0 : Hid (hearP s (l.drop 0) = R) := hR
  have N0 : Hid (NmAt w n pb fb base s) := h
  clear hl hL hR h
  go_enter Try.func26, Try.ntmps26
  go_wp2_with fail
  go_loopg [8] (l.length) (fun k s8 wr => ∃ (j : Nat) (t : List Nat × List Nat), s8 = .int .i64 (j : Int) ∧ j + k = l.length ∧ Hid (NmAt wr n pb fb base t) ∧ Hid (Fr (· < pb) w wr) ∧ Hid (hearP t (l.drop j) = R))
  case atStart => exact ⟨0, s, rfl, by omega, N0, Fr.refl _ _, HR0⟩
  case round =>
    clear N0 HR0
    obtain ⟨j, t, rfl, hjk, NA, F, HU⟩ := hrel
    by_cases hj : j < l.length
    · obtain ⟨k, rfl⟩ : ∃ k, gk = k + 1 := ⟨gk - 1, by omega⟩
      obtain ⟨x, hx⟩ : ∃ x, l[j] = x := ⟨_, rfl⟩
      obtain ⟨a', c', e', hrow⟩ := (HI.out.of (F.out.mono fun k hk => by show k < pb; omega)).ex
      cases e'
      obtain ⟨p, rfl, _, hp⟩ : ∃ p : Addr, a = some p ∧ p.block < lo ∧ ∀ i x, l[i]? = some x → wr.cell? (p.add i) = some (.int .i64 x) := by
        rcases hrow with q | q
        · rw [q] at hj; simp at hj
        · exact q
      have cj := hp j x (by rw [List.getElem?_eq_getElem hj, hx])
      have hd : l.drop j = x :: l.drop (j + 1) := by rw [List.drop_eq_getElem_cons hj, hx]
      have j0 : (0 : Int) ≤ (j : Int) := by omega
      have j1 : (j : Int) < (l.length : Int) := by omega
      have hxl := HL.out x (hx ▸ List.getElem_mem hj)
      unfold LitN at hxl
      obtain ⟨x0, x1, x2⟩ := hxl
      have hu := HU.out
      rw [hd] at hu
      have hu2 : hearP (hear1 t x.natAbs) (l.drop (j + 1)) = R := hu
      have HQ : Hid (hearP (hear1 t x.natAbs) (l.drop (j + 1)) = R) := hu2
      clear HU hrow hp hu hu2
      obtain ⟨vv, hblk, hown⟩ := NA.out.ex
      obtain ⟨va, vc, hvv⟩ : ∃ va vc, vv = .slice va t.2.length vc := by
        rcases hown.2 with ⟨e, hn⟩ | ⟨g', cap', cur, e, _⟩
        · exact ⟨none, 0, by rw [e, hn]⟩
        · exact ⟨_, _, e⟩
      subst hvv
      have c0 := block_cell hblk 0
      have c1 := block_cell hblk 1
      have z1 := frozen_block hblk 1
      have hlt := NA.out.lt
      obtain ⟨y, hxy⟩ : ∃ y : Nat, x.natAbs = y := ⟨_, rfl⟩
      rw [hxy] at HQ
      have hxs : x = (y : Int) ∨ x = -(y : Int) := by omega
      have hyn : y ≤ n := by omega
      have hyp : 0 < y := by omega
      clear hxy
      go_upto_region 3 with fail
      go_cut [5] (fun s5 wx => s5 = .int .i64 (y : Int) ∧ wr = wx)
      case first =>
        rcases hxs with rfl | rfl
        · have hm : max (y : Int) (-(y : Int)) = (y : Int) := by omega
          go_wp2_with fail
          go_meet
          case rel => exact ⟨by first | rfl | rw [hm], rfl⟩
        · have hm : max (-(y : Int)) (y : Int) = (y : Int) := by omega
          go_wp2_with fail
          go_meet
          case rel => exact ⟨by first | rfl | rw [hm] | simp [hm], rfl⟩
      case rest =>
        obtain ⟨rfl, rfl⟩ := hcut
        clear hxs cj x0 x1 x2
        have hy0 : 0 < y := hyp
        have y0 : (0 : Int) ≤ (y : Int) := by omega
        have y1 : (y : Int) < (n : Int) + 1 := by omega
        have yl : y < t.1.length := by rw [NA.out.ok.len]; omega
        obtain ⟨q, hq⟩ : ∃ q, t.1.getD y 0 = q := ⟨_, rfl⟩
        have cy : wr.cell? ⟨pb, y, none⟩ = some (.int .i32 (q : Int)) := by
          rw [block_cell NA.out.pl, ← hq, List.getD_eq_getElem?_getD, List.getElem?_eq_getElem yl]
          simp [v32, yl]
        cases q with
        | zero =>
          have eh : hear1 t y = (t.1.set y (t.2.length + 1), t.2 ++ [y]) := by unfold hear1; rw [if_pos hq]
          rw [eh] at HQ
          have HOA : Hid ((wr.alloc (.cells #[.int .i32 (y : Int)] 21)).ownsRow base 21 1 (.slice va t.2.length vc) t.2.length (v32 t.2)) := hown.alloc _
          have hfew := NA.out.ok.few
          have HB : Hid (wr.heap[fb]? = some (.cells #[.slice (some ⟨pb, 0, none⟩) (n + 1) (n + 1), .slice va t.2.length vc] 58 (0, 0))) := hblk
          clear hown hblk
          have hbz0 : base ≤ (wr.alloc (.cells #[.int .i32 (y : Int)] 21)).heap.size := by have := NA.out.hb; simp; omega
          have hone : ∀ u ∈ [Value.int .i32 (y : Int)], u.oneCell' = true := by
            intro u hu
            simp only [List.mem_cons, List.not_mem_nil, or_false] at hu
            rcases hu with rfl; rfl
          go_wp2_with (at_builtin; refine wpList_append_own_at _ rfl _ _ 56 rfl base 21 i0_ _ 1 4 Try.underlying56 hi0 hz0 hz1 hz2 rfl (by decide) (.slice va t.2.length vc) t.2.length _ rfl HOA.out ⟨wr.heap.size, 0, none⟩ 1 1 [.int .i32 (y : Int)] rfl rfl (World.news_of_block (heap_new rfl)) hone (by unfold maxLen; omega) (by omega) hbz0 ?_)
          intro v4 w4 ho4 hg4 _ _
          obtain ⟨v4a, v4c, hv4⟩ : ∃ a c, v4 = .slice a (t.2.length + 1) c := by
            rcases ho4.2 with ⟨e, hn⟩ | ⟨g', cap', cur, e, _⟩
            · omega
            · exact ⟨_, _, e⟩
          subst hv4
          have hbz := NA.out.hb
          have old : ∀ k, k < base → w4.heap[k]? = wr.heap[k]? := fun k hk => (hg4.block k (by simp; omega) (owns_block HOA.out hk)).trans (heap_alloc_old wr _ (by omega))
          have HB4 := (old fb (by omega)).trans HB.out
          have HP4 := (old pb (by omega)).trans NA.out.pl
          have HB5 : (w4.setCell ⟨fb, 1, none⟩ (.slice v4a (t.2.length + 1) v4c)).heap[fb]? = some (.cells #[.slice (some ⟨pb, 0, none⟩) (n + 1) (n + 1), .slice v4a (t.2.length + 1) v4c] 58 (0, 0)) := set_block HB4 1 _
          have HP5 : (w4.setCell ⟨fb, 1, none⟩ (.slice v4a (t.2.length + 1) v4c)).heap[pb]? = some (.cells (v32 t.1).toArray 21 (0, 0)) := (Below.heap_setCell w4 ⟨fb, 1, none⟩ _ pb (by show pb ≠ fb; omega)).trans HP4
          have d0 := block_cell HB5 0
          have d1 := block_cell HB5 1
          have d0d := block_cell (w := (w4.setCell ⟨fb, 1, none⟩ (.slice v4a (t.2.length + 1) v4c)).drew) HB5 0
          have d1d := block_cell (w := (w4.setCell ⟨fb, 1, none⟩ (.slice v4a (t.2.length + 1) v4c)).drew) HB5 1
          have zpd := frozen_block (w := (w4.setCell ⟨fb, 1, none⟩ (.slice v4a (t.2.length + 1) v4c)).drew) HP5 y
          have rpd := block_cell (w := (w4.setCell ⟨fb, 1, none⟩ (.slice v4a (t.2.length + 1) v4c)).drew) HP5 y
          have rp := block_cell HP5 y
          have ey : (v32 t.1).toArray[y]? = some (.int .i32 0) := by
            have e0 : t.1[y]? = some 0 := by
              rw [List.getElem?_eq_getElem yl]
              rw [List.getD_eq_getElem?_getD, List.getElem?_eq_getElem yl] at hq
              exact congrArg some hq
            simp [v32, e0]
          rw [ey] at rp rpd
          have zf := frozen_block HB4 1
          have c41 := block_cell HB4 1
          have c40 := block_cell HB4 0
          have zp := frozen_block HP5 y
          have hps : pb < w4.heap.size := block_lt HP4
          have hF4 : Fr (· < pb) w w4 := (F.out.trans ((Fr.refl _ wr).alloc _)).grown hg4 (fun k hk hq => owns_block HOA.out (by have : k < pb := hq; omega))
          have hN : NmAt ((w4.setCell ⟨fb, 1, none⟩ (.slice v4a (t.2.length + 1) v4c)).setCell ⟨pb, y, none⟩ (.int .i32 ((t.2.length : Int) + 1))) n pb fb base (t.1.set y (t.2.length + 1), t.2 ++ [y]) := by
            have hok := (NA.out.ok.hear1 hyn hy0).1
            rw [eh] at hok
            refine ⟨⟨.slice v4a (t.2.length + 1) v4c, ?_, ?_⟩, ?_, hok, hlt, ?_⟩
            · exact (Below.heap_setCell _ ⟨pb, y, none⟩ _ fb (by show fb ≠ pb; omega)).trans HB5
            · have e1 : (t.2 ++ [y]).length = t.2.length + 1 := by simp
              have e2 : v32 (t.2 ++ [y]) = v32 t.2 ++ [.int .i32 (y : Int)] := by simp [v32]
              show World.ownsRow _ base 21 1 _ (t.2 ++ [y]).length (v32 (t.2 ++ [y]))
              rw [e1, e2]
              refine ⟨ho4.1, ?_⟩
              rcases ho4.2 with q | ⟨g, cap, cur, e, hbg, hg, q⟩
              · exact .inl q
              · refine .inr ⟨g, cap, cur, e, hbg, ?_, q⟩
                rw [Below.heap_setCell _ ⟨pb, y, none⟩ _ g (by show g ≠ pb; omega), Below.heap_setCell _ ⟨fb, 1, none⟩ _ g (by show g ≠ fb; omega)]
                exact hg
            · have := set_block HP5 y (.int .i32 ((t.2.length : Int) + 1))
              rw [this]
              simp [v32, List.map_set]
            · have := hg4.size
              simp at this ⊢
              omega
          have N6 : Hid (NmAt ((w4.setCell ⟨fb, 1, none⟩ (.slice v4a (t.2.length + 1) v4c)).setCell ⟨pb, y, none⟩ (.int .i32 ((t.2.length : Int) + 1))).drew n pb fb base (t.1.set y (t.2.length + 1), t.2 ++ [y])) := ⟨hN.ex, hN.pl, hN.ok, hN.lt, hN.hb⟩
          have F6 : Hid (Fr (· < pb) w ((w4.setCell ⟨fb, 1, none⟩ (.slice v4a (t.2.length + 1) v4c)).setCell ⟨pb, y, none⟩ (.int .i32 ((t.2.length : Int) + 1))).drew) := Fr.drew <| (hF4.set (p := ⟨fb, 1, none⟩) (by show ¬ fb < pb; omega) _).set (p := ⟨pb, y, none⟩) (by show ¬ pb < pb; omega) _
          clear hN hF4 old HB4 HP4 HB5 HP5 ho4 hg4 HB NA F c0 c1 z1
          go_wp2_with fail
          go_big_region_o
          go_wp2_with fail
          go_roundg k
          case measure => omega
          case rel => exact ⟨j + 1, _, by simp, by omega, N6, F6, HQ⟩
        | succ q =>
          have eh : hear1 t y = t := by unfold hear1; rw [if_neg (by omega)]
          rw [eh] at HQ
          have e1 : (((q + 1 : Nat) : Int) == 0) = false := by rw [beq_eq_false_iff_ne]; omega
          have e2 : ((q : Int) + 1 == 0) = false := by rw [beq_eq_false_iff_ne]; omega
          clear hown hblk
          go_wp2_with fail
          go_roundg k
          case measure => omega
          case rel => exact ⟨j + 1, t, by simp, by omega, NA, F, HQ⟩
    · have j1 : ¬ (j : Int) < (l.length : Int) := by omega
      obtain rfl : j = l.length := by omega
      have hu := HU.out
      rw [List.drop_length] at hu
      have HQ : Hid (t = R) := hu
      clear hu HU
      go_wp2_with fail
      go_end0
      exact ⟨rfl, by rw [← HQ.out]; exact NA.out, F.out⟩

end Go.Proofs.Ytbicefgjompnoaa.Sx
/- The program: name. -/
namespace Go.Proofs.Ytbicefgjompnoaa.Sx
open Go.RowKit Go.Sort

def hearC (s : List Nat × List Nat) (C : List (List Int)) : List Nat × List Nat := C.foldl hearP s
theorem made_32 (m : Nat) : madeCells (Value.int .i32 0).cells (m * 1) = Array.replicate m (Value.int .i32 0) := by
  apply Array.ext
  · simp [madeCells]
  · intro i h1 h2
    have e : i % 1 = 0 := Nat.mod_one i
    simp [madeCells, Value.cells, e]
theorem NmAt.of {w w' : World} {n pb fb base : Nat} {s : List Nat × List Nat} (h : NmAt w n pb fb base s) (f : Fr (fun _ => True) w w') : NmAt w' n pb fb base s := by
  obtain ⟨vv, h1, h2⟩ := h.ex
  exact ⟨⟨vv, (f.block _ (block_lt h1) trivial).trans h1, f.owns h2⟩, (f.block _ (block_lt h.pl) trivial).trans h.pl, h.ok, h.lt, Nat.le_trans h.hb f.size⟩

theorem index59a (w : World) (a b : Option Addr) (n c m d : Nat) : Sem.run Try.prog (Instr.index 59 (.agg #[.slice a n c, .slice b m d]) (.int .i64 0)) w = .ok (.slice a n c) w := by kernel_rfl
theorem index59b (w : World) (a b : Option Addr) (n c m d : Nat) : Sem.run Try.prog (Instr.index 59 (.agg #[.slice a n c, .slice b m d]) (.int .i64 1)) w = .ok (.slice b m d) w := by kernel_rfl

def NamePost (w : World) (n : Nat) (s : List Nat × List Nat) (e : Ending) (w' : World) : Prop := ∃ pb fb base, e = .returned (.pointer (some ⟨fb, 0, none⟩)) ∧ NmAt w' n pb fb base s ∧ w.heap.size ≤ pb ∧ Fr (fun _ => True) w w'

set_option maxRecDepth 100000 in
set_option maxHeartbeats 2000000 in
theorem name_any (w : World) (n lo : Nat) (cv ov : Value) (C O : List (List Int)) (hn : n ≤ 16777216) (hlo : lo ≤ w.heap.size) (hC : ClsAt w lo cv C) (hO : ClsAt w lo ov O) (hLC : ∀ c ∈ C, ∀ x ∈ c, LitN n x) (hLO : ∀ c ∈ O, ∀ x ∈ c, LitN n x) :
    Calls Try.prog 13 #[.int .i64 (n : Int), cv, ov] w (NamePost w n (hearC (hearC (List.replicate (n + 1) 0, []) C) O)) := by
  have mo := follows
  obtain ⟨i0_, hi0, hz0, hz1, hz2⟩ := info21
  obtain ⟨ca, cc, rfl, _⟩ := hC.ex
  obtain ⟨oa, oc, rfl, _⟩ := hO.ex
  have hbc := hC.big
  have hbo := hO.big
  obtain ⟨R, hR⟩ : ∃ R, hearC (hearC (List.replicate (n + 1) 0, []) C) O = R := ⟨_, rfl⟩
  rw [hR]
  have HR : Hid (hearC (hearC (List.replicate (n + 1) 0, []) C) O = R) := hR
  have HC : Hid (ClsAt w lo (.slice ca C.length cc) C) := hC
  have HO : Hid (ClsAt w lo (.slice oa O.length oc) O) := hO
  have HLC : Hid (∀ c ∈ C, ∀ x ∈ c, LitN n x) := hLC
  have HLO : Hid (∀ c ∈ O, ∀ x ∈ c, LitN n x) := hLO
  clear hR hC hO hLC hLO
  have m1 : (Instr.makeSlice 56 (.int .i64 ((n : Int) + 1)) (.int .i64 ((n : Int) + 1))).run Try.prog w = .ok (.slice (some ⟨w.heap.size, 0, none⟩) (n + 1) (n + 1)) (w.alloc (.cells (Array.replicate (n + 1) (Value.int .i32 0)) 21)) := by
    have := run_make (P := Try.prog) w 56 21 i0_ _ Try.underlying56 hi0 hz0 .i64 .i64 ((n : Int) + 1) ((n : Int) + 1) (by omega) (by omega) (by rw [hz2]; omega) (by omega)
    rw [this]
    have e : ((n : Int) + 1).toNat = n + 1 := by omega
    rw [e, hz1, made_32]
  have N0 : Hid (NmAt ((w.alloc (.cells (Array.replicate (n + 1) (Value.int .i32 0)) 21)).alloc (.cells #[.slice (some ⟨w.heap.size, 0, none⟩) (n + 1) (n + 1), .slice none 0 0] 58)) n w.heap.size (w.heap.size + 1) (w.heap.size + 2) (List.replicate (n + 1) 0, [])) := by
    refine ⟨⟨.slice none 0 0, heap_new (by simp), World.ownsRow_nil _ _ _ _⟩, ?_, NmOK.nil n, ⟨by omega, by omega⟩, by simp⟩
    rw [heap_alloc_old _ _ (by simp), heap_new rfl]
    simp [v32]
  have F0 : Hid (Fr (fun _ => True) w ((w.alloc (.cells (Array.replicate (n + 1) (Value.int .i32 0)) 21)).alloc (.cells #[.slice (some ⟨w.heap.size, 0, none⟩) (n + 1) (n + 1), .slice none 0 0] 58))) := ((Fr.refl _ w).alloc _).alloc _
  go_enter Try.func13, Try.ntmps13
  go_upto_region 2 with fail
  clear m1
  generalize (w.alloc (.cells (Array.replicate (n + 1) (Value.int .i32 0)) 21)).alloc (.cells #[.slice (some ⟨w.heap.size, 0, none⟩) (n + 1) (n + 1), .slice none 0 0] 58) = W0 at N0 F0 ⊢
  obtain ⟨pb, hpb⟩ : ∃ pb, w.heap.size = pb := ⟨_, rfl⟩
  obtain ⟨fb, hfb⟩ : ∃ fb, w.heap.size + 1 = fb := ⟨_, rfl⟩
  obtain ⟨base, hbase⟩ : ∃ base, w.heap.size + 2 = base := ⟨_, rfl⟩
  rw [hfb, hbase] at N0
  rw [hfb]
  rw [hpb] at N0 hlo
  have F : Hid (Fr (· < pb) w W0) := F0.out.mono fun _ _ => trivial
  have HPB : Hid (w.heap.size = pb) := hpb
  try rw [hpb]
  clear hfb hbase F0 hpb
  obtain ⟨S1, hS1⟩ : ∃ S1, hearC (List.replicate (n + 1) 0, []) C = S1 := ⟨_, rfl⟩
  have HU0 : Hid (hearC (List.replicate (n + 1) 0, []) (C.drop 0) = S1) := hS1
  have hR := HR.out
  rw [hS1] at hR
  have HR1 : Hid (hearC S1 (O.drop 0) = R) := hR
  clear HR hR hS1
  have NA0 := N0
  have F00 := F
  clear N0 F
  go_wp2_with fail
  go_loopg [20] (2) (fun k s20 wr => ∃ (i : Nat) (t : List Nat × List Nat), s20 = .int .i64 (i : Int) ∧ i + k = 2 ∧ Hid (NmAt wr n pb fb base t) ∧ Hid (Fr (· < pb) w wr) ∧ Hid ((i = 0 → t = (List.replicate (n + 1) 0, [])) ∧ (i = 1 → t = S1) ∧ (i = 2 → t = R)))
  case atStart => exact ⟨0, _, rfl, by omega, NA0, F00, ⟨fun _ => rfl, fun h => by omega, fun h => by omega⟩⟩
  case round =>
    clear NA0 F00
    obtain ⟨i, t, rfl, hik, NA, F, HT⟩ := hrel
    rcases (show i = 0 ∨ i = 1 ∨ i = 2 from by omega) with rfl | rfl | rfl
    · obtain ⟨k0, rfl⟩ : ∃ k, gk = k + 1 := ⟨gk - 1, by omega⟩
      obtain rfl := HT.out.1 rfl
      have ix := index59a wr ca oa C.length cc O.length oc
      have HU := HU0
      go_wp2_with fail
      go_loopg [25] (C.length) (fun k s25 wr => ∃ (j : Nat) (t : List Nat × List Nat), s25 = .int .i64 (j : Int) ∧ j + k = C.length ∧ Hid (NmAt wr n pb fb base t) ∧ Hid (Fr (· < pb) w wr) ∧ Hid (hearC t (C.drop j) = S1))
      case atStart => exact ⟨0, _, rfl, by omega, NA, F, HU⟩
      case round =>
        clear NA F HU
        obtain ⟨j, t, rfl, hjk, NA, F, HU⟩ := hrel
        by_cases hj : j < C.length
        · obtain ⟨k, rfl⟩ : ∃ k, gk = k + 1 := ⟨gk - 1, by omega⟩
          obtain ⟨x, hx⟩ : ∃ x, C[j] = x := ⟨_, rfl⟩
          obtain ⟨a', c', e', hrow⟩ := (HC.out.of (F.out.mono fun k hk => by show k < pb; omega)).ex
          cases e'
          obtain ⟨p, rfl, _, hp⟩ : ∃ p : Addr, ca = some p ∧ p.block < lo ∧ ∀ i c, C[i]? = some c → ∃ u, wr.cell? (p.add i) = some u ∧ IntsAt wr lo u c := by
            rcases hrow with q | q
            · rw [q] at hj; simp at hj
            · exact q
          obtain ⟨u, cj, hui⟩ := hp j x (by rw [List.getElem?_eq_getElem hj, hx])
          have hd : C.drop j = x :: C.drop (j + 1) := by rw [List.drop_eq_getElem_cons hj, hx]
          have j0 : (0 : Int) ≤ (j : Int) := by omega
          have j1 : (j : Int) < (C.length : Int) := by omega
          have hu := HU.out
          rw [hd] at hu
          have HU : Hid (hearC (hearP t x) (C.drop (j + 1)) = S1) := hu
          have HH := hear_any wr n pb fb base lo t u x hn hlo NA.out hui (HLC.out x (hx ▸ List.getElem_mem hj))
          clear hu hp hrow hd hx hui
          go_wp2_with (go_at_call 26; refine HH.mono ?_; rintro e w' ⟨rfl, h1, h2⟩)
          have NA : Hid (NmAt w' n pb fb base (hearP t x)) := h1
          have F : Hid (Fr (· < pb) w w') := F.out.trans h2
          clear h1 h2 HH
          go_wp2_with fail
          go_roundg k
          case measure => omega
          case rel => exact ⟨j + 1, _, by simp, by omega, NA, F, HU⟩
        · have j1 : ¬ (j : Int) < (C.length : Int) := by omega
          obtain rfl : j = C.length := by omega
          have hu := HU.out
          rw [List.drop_length] at hu
          have hu2 : t = S1 := hu
          subst hu2
          clear hu HU
          go_wp2_with fail
          go_roundg k0
          case measure => omega
          case rel => exact ⟨1, t, rfl, by omega, NA, F, ⟨fun h => by omega, fun _ => rfl, fun h => by omega⟩⟩
    · obtain ⟨k0, rfl⟩ : ∃ k, gk = k + 1 := ⟨gk - 1, by omega⟩
      obtain rfl := HT.out.2.1 rfl
      have ix := index59b wr ca oa C.length cc O.length oc
      have HU := HR1
      go_wp2_with fail
      go_loopg [25] (O.length) (fun k s25 wr => ∃ (j : Nat) (t : List Nat × List Nat), s25 = .int .i64 (j : Int) ∧ j + k = O.length ∧ Hid (NmAt wr n pb fb base t) ∧ Hid (Fr (· < pb) w wr) ∧ Hid (hearC t (O.drop j) = R))
      case atStart => exact ⟨0, _, rfl, by omega, NA, F, HU⟩
      case round =>
        clear NA F HU
        obtain ⟨j, t, rfl, hjk, NA, F, HU⟩ := hrel
        by_cases hj : j < O.length
        · obtain ⟨k, rfl⟩ : ∃ k, gk = k + 1 := ⟨gk - 1, by omega⟩
          obtain ⟨x, hx⟩ : ∃ x, O[j] = x := ⟨_, rfl⟩
          obtain ⟨a', c', e', hrow⟩ := (HO.out.of (F.out.mono fun k hk => by show k < pb; omega)).ex
          cases e'
          obtain ⟨p, rfl, _, hp⟩ : ∃ p : Addr, oa = some p ∧ p.block < lo ∧ ∀ i c, O[i]? = some c → ∃ u, wr.cell? (p.add i) = some u ∧ IntsAt wr lo u c := by
            rcases hrow with q | q
            · rw [q] at hj; simp at hj
            · exact q
          obtain ⟨u, cj, hui⟩ := hp j x (by rw [List.getElem?_eq_getElem hj, hx])
          have hd : O.drop j = x :: O.drop (j + 1) := by rw [List.drop_eq_getElem_cons hj, hx]
          have j0 : (0 : Int) ≤ (j : Int) := by omega
          have j1 : (j : Int) < (O.length : Int) := by omega
          have hu := HU.out
          rw [hd] at hu
          have HU : Hid (hearC (hearP t x) (O.drop (j + 1)) = R) := hu
          have HH := hear_any wr n pb fb base lo t u x hn hlo NA.out hui (HLO.out x (hx ▸ List.getElem_mem hj))
          clear hu hp hrow hd hx hui
          go_wp2_with (go_at_call 26; refine HH.mono ?_; rintro e w' ⟨rfl, h1, h2⟩)
          have NA : Hid (NmAt w' n pb fb base (hearP t x)) := h1
          have F : Hid (Fr (· < pb) w w') := F.out.trans h2
          clear h1 h2 HH
          go_wp2_with fail
          go_roundg k
          case measure => omega
          case rel => exact ⟨j + 1, _, by simp, by omega, NA, F, HU⟩
        · have j1 : ¬ (j : Int) < (O.length : Int) := by omega
          obtain rfl : j = O.length := by omega
          have hu := HU.out
          rw [List.drop_length] at hu
          have hu2 : t = R := hu
          subst hu2
          clear hu HU
          go_wp2_with fail
          go_roundg k0
          case measure => omega
          case rel => exact ⟨2, t, rfl, by omega, NA, F, ⟨fun h => by omega, fun h => by omega, fun _ => rfl⟩⟩
    · obtain rfl := HT.out.2.2 rfl
      go_wp2_with fail
      go_ret
      exact ⟨pb, fb, base, rfl, NA.out, by rw [HPB.out]; exact Nat.le_refl _, ⟨F.out.os, F.out.tape, F.out.output, F.out.size, fun k hk _ => F.out.block k hk (by rw [HPB.out] at hk; exact hk)⟩⟩

end Go.Proofs.Ytbicefgjompnoaa.Sx
/- Rows of literals: cells, exchanges; which is less. -/
namespace Go.Proofs.Ytbicefgjompnoaa.Sx
open Go.RowKit Go.Sort

def encL (d : Array Nat) : Array Value := d.map fun x : Nat => Value.int .i32 (x : Int)
/-- a block of literals -/
def LRow (w : World) (b : Nat) (d : Array Nat) : Prop := w.heap[b]? = some (.cells (encL d) 70 (0, 0))
def ltN (x y : Nat) : Bool := decide (x < y)
theorem swoN : SWO ltN := ⟨fun x => by simp [ltN], fun x y z h1 h2 => by simp [ltN] at *; omega, fun x y z h1 h2 => by simp [ltN] at *; omega⟩

theorem LRow.cell {w : World} {b : Nat} {d : Array Nat} (h : LRow w b d) {i : Nat} (hi : i < d.size) : w.cell? ⟨b, i, none⟩ = some (.int .i32 (d[i]! : Int)) := by
  rw [block_cell h]; simp [encL, hi]
theorem LRow.free {w : World} {b : Nat} {d : Array Nat} (h : LRow w b d) (i : Nat) : w.frozen? ⟨b, i, none⟩ = false := frozen_block h i
theorem LRow.of {P : Nat → Prop} {w w' : World} {b : Nat} {d : Array Nat} (h : LRow w b d) (f : Fr P w w') (hb : P b) : LRow w' b d := (f.block b (block_lt h) hb).trans h
theorem LRow.drew {w : World} {b : Nat} {d : Array Nat} (h : LRow w b d) : LRow w.drew b d := h
theorem LRow.drewN {w : World} {b : Nat} {d : Array Nat} (h : LRow w b d) (q : Nat) : LRow (w.drewN q) b d := h
theorem LRow.set {w : World} {b : Nat} {d : Array Nat} (h : LRow w b d) (i x : Nat) : LRow (w.setCell ⟨b, i, none⟩ (.int .i32 (x : Int))) b (d.setIfInBounds i x) := by
  have := set_block h i (.int .i32 (x : Int))
  unfold LRow
  rw [this]
  simp [encL, Array.set!_eq_setIfInBounds]
/-- the world behind an exchange -/
def swL (w : World) (b i j x y : Nat) : World := ((w.setCell ⟨b, i, none⟩ (.int .i32 (y : Int))).setCell ⟨b, j, none⟩ (.int .i32 (x : Int))).drew
theorem LRow.swap {w : World} {b : Nat} {d : Array Nat} (h : LRow w b d) (i j : Nat) : LRow (swL w b i j d[i]! d[j]!) b (swp d i j) := ((h.set i d[j]!).set j d[i]!).drew
theorem Fr.swapL {a b : World} {g : Nat} (h : Fr (· ≠ g) a b) (i j x y : Nat) : Fr (· ≠ g) a (swL b g i j x y) := ((h.set (by simp) _).set (by simp) _).drew
theorem Fr.drewN {P : Nat → Prop} {a b : World} (h : Fr P a b) (q : Nat) : Fr P a (b.drewN q) := h.trans (Fr.grew (Grew.drewN (Grew.refl _) q))

set_option maxRecDepth 100000 in
set_option maxHeartbeats 1000000 in
theorem isNaN_any (w : World) (x : Int) : Calls Try.prog 85 #[.int .i32 x] w fun e w' => e = .returned (.bool false) ∧ w' = w := by
  have mo := follows
  go_enter Try.func85, Try.ntmps85
  go_wp2_with fail
  go_ret
  exact ⟨rfl, rfl⟩

set_option maxRecDepth 100000 in
set_option maxHeartbeats 1000000 in
theorem less_any (w : World) (x y : Nat) : Calls Try.prog 71 #[.int .i32 (x : Int), .int .i32 (y : Int)] w fun e w' => e = .returned (.bool (ltN x y)) ∧ w' = w := by
  have mo := follows
  go_enter Try.func71, Try.ntmps71
  go_wp2_with (go_at_call 85; refine (isNaN_any _ _).mono ?_; rintro e w' ⟨rfl, hw⟩; replace hw := hw.symm; subst hw)
  go_ret
  exact ⟨rfl, rfl⟩

end Go.Proofs.Ytbicefgjompnoaa.Sx
