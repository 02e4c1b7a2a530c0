/- One function or another, as a third says. -/
import Derived.Test.YtaakjjefnjbabaaGreatQ05
import Derived.Deep.Cut
import Derived.Deep.DeepCutAuto
set_option maxRecDepth 100000
namespace Go.Proofs.YtaakjjefnjbabaaGreat.Sx
open Go.RowKit Go.Sort Go.Maps Go.WideMaps
def mix3 (f0 f1 f2 u0 u1 u2 : Nat) : Nat → Array Value
 | 0 => #[.int .i64 (f0 : Int), .int .i64 (f1 : Int), .int .i64 (f2 : Int)]
 | 1 => #[.int .i64 (u0 : Int), .int .i64 (f1 : Int), .int .i64 (f2 : Int)]
 | 2 => #[.int .i64 (u0 : Int), .int .i64 (u1 : Int), .int .i64 (f2 : Int)]
 | _ => #[.int .i64 (u0 : Int), .int .i64 (u1 : Int), .int .i64 (u2 : Int)]
def IteOK (m : Nat) : Prop := ∀ (w : World) (tb : Nat) (L : Ly) (T : Tb) (n : Nat) (lv : Nat → Nat) (M A f g h : Nat), TAt w tb L T → Mid n lv M A T → Live T f → Live T g → Live T h → n ≤ rk lv T f + m → n ≤ rk lv T g + m → n ≤ rk lv T h + m → A + T.fresh.length + 2 ^ m ≤ M →
 Calls Tryz.prog 65 #[.pointer (some ⟨tb, 0, none⟩), .int .i64 (f : Int), .int .i64 (g : Int), .int .i64 (h : Int)] w fun e w' => ∃ x T', IteP n lv M A m T f g h T' x ∧ Post w tb L x T' e w'
theorem fr_drew (L : Ly) (w : World) : FrT L L w w.drew := FrT.of (Fr.refl (fun _ => True) w).drew fun _ _ _ => trivial
theorem FrT.setB {L L' : Ly} {a b : World} (h : FrT L L' a b) {p : Addr} (hp : a.heap.size ≤ p.block) (u : Value) : FrT L L' a (b.setCell p u) :=
 ⟨h.os, h.tape, h.output, by simpa using h.size, fun i hi hq => by rw [Below.heap_setCell b p u i (by omega)]; exact h.block i hi hq, h.own⟩
theorem TAt.away {w : World} {tb : Nat} {L : Ly} {T : Tb} (h : TAt w tb L T) {b : Nat} (ho : L.own b = 0) (i : Nat) (v : Value) : TAt (w.setCell ⟨b, i, none⟩ v) tb L T := by
 have f : Fr (· ≠ b) w (w.setCell ⟨b, i, none⟩ v) := (Fr.refl _ w).set (by simp) _
 exact h.fr f fun c _ hc e => hc (by rw [e]; exact ho)
set_option maxHeartbeats 4000000 in
theorem ite_main {m : Nat} (HI0 : IteOK m) (w : World) (tb : Nat) (L : Ly) (T : Tb) (n : Nat) (lv : Nat → Nat) (M A f0 f1 f2 : Nat) (h : TAt w tb L T) (hm : Mid n lv M A T) (hf0 : Live T f0) (hf1 : Live T f1) (hf2 : Live T f2) (k0 : n ≤ rk lv T f0 + (m + 1)) (k1 : n ≤ rk lv T f1 + (m + 1)) (k2 : n ≤ rk lv T f2 + (m + 1)) (hroom : A + T.fresh.length + 2 ^ (m + 1) ≤ M) (hn : iteT f0 f1 f2 = none) (hnf : ∀ p ∈ T.found, p.1 ≠ (f0, f1, f2)) :
 Calls Tryz.prog 65 #[.pointer (some ⟨tb, 0, none⟩), .int .i64 (f0 : Int), .int .i64 (f1 : Int), .int .i64 (f2 : Int)] w fun e w' => ∃ x T', IteP n lv M A (m + 1) T f0 f1 f2 T' x ∧ Post w tb L x T' e w' := by
 have HI : Hid (IteOK m) := HI0
 have mo := follows
 unfold iteT at hn
 by_cases h1 : f0 = 1
 · simp [h1] at hn
 by_cases h2 : f0 = 0
 · simp [h2] at hn
 by_cases h3 : f1 = f2
 · simp [h1, h2, h3] at hn
 by_cases h4 : f1 = 1 ∧ f2 = 0
 · simp [h1, h2, h4] at hn
 clear hn
 have n1 : ((f0 : Int) == 1) = false := by simp; omega
 have n2 : ((f0 : Int) == 0) = false := by simp; omega
 have n3 : ((f1 : Int) == (f2 : Int)) = false := by simp; omega
 have hrl := hm.rl
 have hrm := hm.rm
 have hs0 : Sm f0 := by have := hf0.lt; unfold Sm; omega
 have hs1 : Sm f1 := by have := hf1.lt; unfold Sm; omega
 have hs2 : Sm f2 := by have := hf2.lt; unfold Sm; omega
 have hk := keyT hs0.fits hs1.fits hs2.fits
 obtain ⟨r0, hr0, hd0⟩ := id hf0
 obtain ⟨r1, hr1, hd1⟩ := id hf1
 obtain ⟨r2, hr2, hd2⟩ := id hf2
 have hon := hm.t.inv.on
 have ab0 := hm.t.inv.ab hr0
 have ab1 := hm.t.inv.ab hr1
 have ab2 := hm.t.inv.ab hr2
 obtain ⟨a0, e0⟩ : ∃ a0 : Nat, r0.about = (a0 : Int) := ⟨r0.about.toNat, by omega⟩
 obtain ⟨a1, e1⟩ : ∃ a1 : Nat, r1.about = (a1 : Int) := ⟨r1.about.toNat, by omega⟩
 obtain ⟨a2, e2⟩ : ∃ a2 : Nat, r2.about = (a2 : Int) := ⟨r2.about.toNat, by omega⟩
 obtain ⟨t, ht⟩ : ∃ t, topN lv n a0 a1 a2 3 = t := ⟨_, rfl⟩
 have hf02 : 2 ≤ f0 := by omega
 have ha0 : a0 < n := by have := (hm.t.inv.nd f0 r0 hf02 hr0 hd0).2.1; omega
 have hl0 : a0 ≤ n := by omega
 have hl1 : a1 ≤ n := by omega
 have hl2 : a2 ≤ n := by omega
 have p0 : rk lv T f0 = lv a0 := by rw [rk_at hr0, e0, Int.toNat_natCast]
 have p1 : rk lv T f1 = lv a1 := by rw [rk_at hr1, e1, Int.toNat_natCast]
 have p2 : rk lv T f2 = lv a2 := by rw [rk_at hr2, e2, Int.toNat_natCast]
 have hlva0 := hm.t.lvo.lt a0 ha0
 have hlva1 := hm.t.lvo.le hl1
 have hlva2 := hm.t.lvo.le hl2
 have hlvn := hm.t.lvo.top
 have hmin : lv t ≤ lv a0 ∧ lv t ≤ lv a1 ∧ lv t ≤ lv a2 ∧ (lv t = lv a0 ∨ lv t = lv a1 ∨ lv t = lv a2) := by
  have u1 := upr_lv lv n a0
  have u2 := upr_lv lv (upr lv n a0) a1
  have u3 := upr_lv lv (upr lv (upr lv n a0) a1) a2
  have hX : topN lv n a0 a1 a2 3 = upr lv (upr lv (upr lv n a0) a1) a2 := rfl
  rw [← ht, hX]
  omega
 have htle : t ≤ n := by rw [← ht]; exact upr_le (upr_le (upr_le (Nat.le_refl _) hl0) hl1) hl2
 have htn : t < n := by
  rcases Nat.lt_or_eq_of_le htle with q | q
  · exact q
  · rw [q] at hmin; omega
 obtain ⟨b0, q0⟩ : ∃ b, (r0.about == (t : Int)) = b := ⟨_, rfl⟩
 obtain ⟨b1, q1⟩ : ∃ b, (r1.about == (t : Int)) = b := ⟨_, rfl⟩
 obtain ⟨b2, q2⟩ : ∃ b, (r2.about == (t : Int)) = b := ⟨_, rfl⟩
 have P0 := hm.parts hr0 hd0 htn (by omega) q0
 have P1 := hm.parts hr1 hd1 htn (by omega) q1
 have P2 := hm.parts hr2 hd2 htn (by omega) q2
 have HP0 : Hid (∀ (W : World), TAt W tb L T → Calls _ _ _ _ _) := fun W hW => parts_any hW f0 r0 hr0 (t : Int) b0 q0
 have HP1 : Hid (∀ (W : World), TAt W tb L T → Calls _ _ _ _ _) := fun W hW => parts_any hW f1 r1 hr1 (t : Int) b1 q1
 have HP2 : Hid (∀ (W : World), TAt W tb L T → Calls _ _ _ _ _) := fun W hW => parts_any hW f2 r2 hr2 (t : Int) b2 q2
 obtain ⟨u0, hu0⟩ : ∃ u, (if b0 then r0.low else f0) = u := ⟨_, rfl⟩
 obtain ⟨u1, hu1⟩ : ∃ u, (if b1 then r1.low else f1) = u := ⟨_, rfl⟩
 obtain ⟨u2, hu2⟩ : ∃ u, (if b2 then r2.low else f2) = u := ⟨_, rfl⟩
 obtain ⟨v0, hv0⟩ : ∃ u, (if b0 then r0.high else f0) = u := ⟨_, rfl⟩
 obtain ⟨v1, hv1⟩ : ∃ u, (if b1 then r1.high else f1) = u := ⟨_, rfl⟩
 obtain ⟨v2, hv2⟩ : ∃ u, (if b2 then r2.high else f2) = u := ⟨_, rfl⟩
 rw [hu0, hv0] at HP0 P0
 rw [hu1, hv1] at HP1 P1
 rw [hu2, hv2] at HP2 P2
 have HTop : Hid (∀ (W : World), TAt W tb L T → Calls _ _ _ _ _) := fun W hW => top_any hW lv (by rw [hm.ll, hon]) (by rw [hon]; exact hm.la) f0 f1 f2 a0 a1 a2 r0 r1 r2 hr0 hr1 hr2 e0 e1 e2 (by omega) (by omega) (by omega)
 rw [hon, ht] at HTop
 have HQ0 : Hid (PartsP n lv T t f0 u0 v0) := P0
 have HQ1 : Hid (PartsP n lv T t f1 u1 v1) := P1
 have HQ2 : Hid (PartsP n lv T t f2 u2 v2) := P2
 have HM : Hid (Mid n lv M A T) := hm
 have HL3 : Hid (Live T f0 ∧ Live T f1 ∧ Live T f2) := ⟨hf0, hf1, hf2⟩
 have HMIN : Hid (rk lv T f0 = lv t ∨ rk lv T f1 = lv t ∨ rk lv T f2 = lv t) := by
  rw [p0, p1, p2]
  rcases hmin.2.2.2 with q | q | q
  · exact .inl q.symm
  · exact .inr (.inl q.symm)
  · exact .inr (.inr q.symm)
 have HLOW : Hid (n ≤ lv t + (m + 1)) := by
  rcases hmin.2.2.2 with q | q | q <;> rw [q]
  · rw [p0] at k0; exact k0
  · rw [p1] at k1; exact k1
  · rw [p2] at k2; exact k2
 have HROOM : Hid (A + T.fresh.length + 2 ^ (m + 1) ≤ M) := hroom
 have HTN : Hid (t < n) := htn
 have HNF : Hid (∀ p ∈ T.found, p.1 ≠ (f0, f1, f2)) := hnf
 have HKEY : Hid (Key 115 (.agg #[.int .i64 (f0 : Int), .int .i64 (f1 : Int), .int .i64 (f2 : Int)])) := hk
 have HG : Hid (TAt (w.alloc (.cells #[.int .i64 (f0 : Int), .int .i64 (f1 : Int), .int .i64 (f2 : Int)] 115)) tb L T) := h.alloc _
 have HF : Hid (FrT L L w (w.alloc (.cells #[.int .i64 (f0 : Int), .int .i64 (f1 : Int), .int .i64 (f2 : Int)] 115))) := FrT.of ((Fr.refl (fun _ => True) w).alloc _) fun _ _ _ => trivial
 have HB : Hid ((w.alloc (.cells #[.int .i64 (f0 : Int), .int .i64 (f1 : Int), .int .i64 (f2 : Int)] 115)).heap[w.heap.size]? = some (.cells #[.int .i64 (f0 : Int), .int .i64 (f1 : Int), .int .i64 (f2 : Int)] 115 (0, 0))) := heap_new rfl
 have HHI : Hid (∀ b, w.heap.size ≤ b → L.own b = 0) := h.hi
 clear h hm hf0 hf1 hf2 k0 k1 k2 hroom hnf hr0 hr1 hr2 hd0 hd1 hd2 hon ab0 ab1 ab2 e0 e1 e2 ht p0 p1 p2 hmin htle htn q0 q1 q2 P0 P1 P2 hu0 hu1 hu2 hv0 hv1 hv2 hlva0 hlva1 hlva2 hlvn hl0 hl1 hl2 ha0 hf02 hk hs0 hs1 hs2 hrl hrm HI0
 go_enter Tryz.func65, Tryz.ntmps65
 go_upto_region 7 with fail
 go_cut [31] (fun s wc => s = .bool false ∧ w = wc)
 case first =>
  by_cases q : f1 = 1
  · subst q
    have n5 : ((f2 : Int) == 0) = false := by
     have : f2 ≠ 0 := fun e => h4 ⟨rfl, e⟩
     simp; omega
    go_wp2_with fail
    go_meet
    case rel => exact ⟨rfl, rfl⟩
  · have n5 : ((f1 : Int) == 1) = false := by simp; omega
    go_wp2_with fail
    go_meet
    case rel => exact ⟨rfl, rfl⟩
 case rest =>
  obtain ⟨rfl, rfl⟩ := hcut
  go_upto_region 10 with fail
  generalize (w.alloc (.cells #[.int .i64 (f0 : Int), .int .i64 (f1 : Int), .int .i64 (f2 : Int)] 115)) = W at HG HF HB ⊢
  obtain ⟨ba, hba⟩ : ∃ ba, w.heap.size = ba := ⟨_, rfl⟩
  have HBA : Hid (L.own ba = 0) := HHI.out ba (by omega)
  rw [hba] at HB ⊢
  clear hba HHI
  have HGd : Hid (TAt W.drew tb L T) := HG.out.drew
  have HBd : Hid (W.drew.heap[ba]? = _) := HB.out
  have HFd : Hid (FrT L L w W.drew) := HF.out.trans (fr_drew L W)
  have m1 := (HG.out.fd trivial).1.miss lawT Tryz.underlying78 (zeroN W) HKEY.out (foundL_ne HNF.out) true
  have m1d := (HGd.out.fd trivial).1.miss lawT Tryz.underlying78 (zeroN W.drew) HKEY.out (foundL_ne HNF.out) true
  rw [if_pos rfl] at m1 m1d
  have b5 := HG.out.b5
  have b5d := HGd.out.b5
  have c0 := block_cell HB.out 0
  have c1 := block_cell HB.out 1
  have c2 := block_cell HB.out 2
  have c0d := block_cell HBd.out 0
  have c1d := block_cell HBd.out 1
  have c2d := block_cell HBd.out 2
  go_big_region_o
  clear c0 c1 c2 c0d c1d c2d b5 b5d m1 m1d HG HF HB
  generalize W.drew = W1 at HGd HBd HFd ⊢
  have c0 := block_cell HBd.out 0
  have c1 := block_cell HBd.out 1
  have c2 := block_cell HBd.out 2
  have HT : Hid (Calls _ _ _ _ _) := HTop.out W1 HGd.out
  clear HTop
  go_wp2_with fail
  refine HT.out.mono ?_
  rintro e W2 ⟨rfl, hf2⟩
  have X2 : Hid (TAt W2 tb L T) := HGd.out.grew hf2
  have F2 : Hid (FrT L L w W2) := HFd.out.trans (FrT.of hf2 fun _ _ _ => trivial)
  have B2 : Hid (W2.heap[ba]? = some (.cells #[.int .i64 (f0 : Int), .int .i64 (f1 : Int), .int .i64 (f2 : Int)] 115 (0, 0))) := (hf2.block ba (block_lt HBd.out) trivial).trans HBd.out
  clear hf2 HT c0 c1 c2 HGd HFd HBd
  go_upto_region 14 with fail
  go_cut [13, 14] (fun s13 s14 wc => ∃ sa sb : Nat, s13 = .pointer (some ⟨sa, 0, none⟩) ∧ s14 = .pointer (some ⟨sb, 0, none⟩) ∧ Hid (TAt wc tb L T) ∧ Hid (FrT L L w wc) ∧ Hid (wc.heap[ba]? = some (.cells #[.int .i64 (f0 : Int), .int .i64 (f1 : Int), .int .i64 (f2 : Int)] 115 (0, 0))) ∧ Hid (wc.heap[sa]? = some (.cells #[.int .i64 (f0 : Int), .int .i64 (f1 : Int), .int .i64 (f2 : Int)] 115 (0, 0))) ∧ Hid (wc.heap[sb]? = some (.cells #[.int .i64 (f0 : Int), .int .i64 (f1 : Int), .int .i64 (f2 : Int)] 115 (0, 0))) ∧ Hid (L.own sa = 0 ∧ L.own sb = 0 ∧ sa ≠ sb ∧ sa ≠ ba ∧ sb ≠ ba ∧ w.heap.size ≤ sa ∧ w.heap.size ≤ sb))
  case first =>
   have c0 := block_cell B2.out 0
   have c1 := block_cell B2.out 1
   have c2 := block_cell B2.out 2
   have B2d : W2.drew.heap[ba]? = _ := B2.out
   have c0d := block_cell B2d 0
   have c1d := block_cell B2d 1
   have c2d := block_cell B2d 2
   have hbl : ba < W2.heap.size := block_lt B2.out
   have hb1 : ba ≠ W2.heap.size := by omega
   have hb2 : ba ≠ W2.heap.size + 1 := by omega
   clear B2d
   go_big_region_o
   all_goals
    go_wp2_with fail
    go_meet
    case rel =>
     have x1 : TAt ((W2.alloc (.cells #[.int .i64 (f0 : Int), .int .i64 (f1 : Int), .int .i64 (f2 : Int)] 115)).alloc (.cells #[.int .i64 (f0 : Int), .int .i64 (f1 : Int), .int .i64 (f2 : Int)] 115)).drew tb L T := ((X2.out.alloc _).alloc _).drew
     have x2 : FrT L L w ((W2.alloc (.cells #[.int .i64 (f0 : Int), .int .i64 (f1 : Int), .int .i64 (f2 : Int)] 115)).alloc (.cells #[.int .i64 (f0 : Int), .int .i64 (f1 : Int), .int .i64 (f2 : Int)] 115)).drew := F2.out.trans (FrT.of (((Fr.refl (fun _ => True) W2).alloc _).alloc _).drew fun _ _ _ => trivial)
     have x3 : ((W2.alloc (.cells #[.int .i64 (f0 : Int), .int .i64 (f1 : Int), .int .i64 (f2 : Int)] 115)).alloc (.cells #[.int .i64 (f0 : Int), .int .i64 (f1 : Int), .int .i64 (f2 : Int)] 115)).drew.heap[ba]? = some (.cells #[.int .i64 (f0 : Int), .int .i64 (f1 : Int), .int .i64 (f2 : Int)] 115 (0, 0)) := ((((Fr.refl (fun _ => True) W2).alloc _).alloc _).drew.block ba hbl trivial).trans B2.out
     have x4 : ((W2.alloc (.cells #[.int .i64 (f0 : Int), .int .i64 (f1 : Int), .int .i64 (f2 : Int)] 115)).alloc (.cells #[.int .i64 (f0 : Int), .int .i64 (f1 : Int), .int .i64 (f2 : Int)] 115)).drew.heap[W2.heap.size]? = some (.cells #[.int .i64 (f0 : Int), .int .i64 (f1 : Int), .int .i64 (f2 : Int)] 115 (0, 0)) := (((Fr.refl (fun _ => True) (W2.alloc (.cells #[.int .i64 (f0 : Int), .int .i64 (f1 : Int), .int .i64 (f2 : Int)] 115))).alloc _).drew.block W2.heap.size (by simp) trivial).trans (heap_new rfl)
     have x5 : ((W2.alloc (.cells #[.int .i64 (f0 : Int), .int .i64 (f1 : Int), .int .i64 (f2 : Int)] 115)).alloc (.cells #[.int .i64 (f0 : Int), .int .i64 (f1 : Int), .int .i64 (f2 : Int)] 115)).drew.heap[W2.heap.size + 1]? = some (.cells #[.int .i64 (f0 : Int), .int .i64 (f1 : Int), .int .i64 (f2 : Int)] 115 (0, 0)) := heap_new (W := W2.alloc (.cells #[.int .i64 (f0 : Int), .int .i64 (f1 : Int), .int .i64 (f2 : Int)] 115)) (by simp)
     have y1 := X2.out.hi W2.heap.size (Nat.le_refl _)
     have y2 := X2.out.hi (W2.heap.size + 1) (Nat.le_succ _)
     have y3 := F2.out.size
     first | exact ⟨_, _, rfl, rfl, x1, x2, x3, x4, x5, y1, y2, by omega, by omega, by omega, y3, by omega⟩ | exact ⟨_, _, rfl, rfl, x1, x2, x3, x5, x4, y2, y1, by omega, by omega, by omega, by omega, y3⟩
  case rest =>
   obtain ⟨sa, sb, rfl, rfl, X3, F3, B3, S1, S2, HO⟩ := hcut
   clear X2 F2 B2
   have c0 := block_cell B3.out 0
   have c1 := block_cell B3.out 1
   have c2 := block_cell B3.out 2
   go_wp2_with fail
   clear c0 c1 c2
   go_loopg [60] (3) (fun k s60 wr => ∃ j : Nat, s60 = .int .i64 (j : Int) ∧ j + k = 3 ∧ Hid (TAt wr tb L T) ∧ Hid (FrT L L w wr) ∧ Hid (wr.heap[ba]? = some (.cells #[.int .i64 (f0 : Int), .int .i64 (f1 : Int), .int .i64 (f2 : Int)] 115 (0, 0))) ∧ Hid (wr.heap[sa]? = some (.cells (mix3 f0 f1 f2 u0 u1 u2 j) 115 (0, 0))) ∧ Hid (wr.heap[sb]? = some (.cells (mix3 f0 f1 f2 v0 v1 v2 j) 115 (0, 0))))
   case atStart => exact ⟨0, rfl, rfl, X3, F3, B3, S1, S2⟩
   case round =>
    clear X3 F3 B3 S1 S2
    obtain ⟨j, rfl, hjk, X, F, B, S, H⟩ := hrel
    rcases (by omega : j = 0 ∨ j = 1 ∨ j = 2 ∨ j = 3) with rfl | rfl | rfl | rfl
    · obtain ⟨k, rfl⟩ : ∃ k, gk = k + 1 := ⟨gk - 1, by omega⟩
      have qi : (Instr.index 115 (.agg #[.int .i64 (f0 : Int), .int .i64 (f1 : Int), .int .i64 (f2 : Int)]) (.int .i64 0)).run Tryz.prog wr = .ok (.int .i64 (f0 : Int)) wr := idxT_0 (.int .i64 (f0 : Int)) (.int .i64 (f1 : Int)) (.int .i64 (f2 : Int)) wr
      have HPJ : Hid (Calls _ _ _ _ _) := HP0.out wr X.out
      go_wp2_with (go_at_call 92; refine HPJ.out.mono ?_; rintro e W4 ⟨rfl, hf4⟩; have X4 : Hid (TAt W4 tb L T) := X.out.grew hf4; have F4 : Hid (FrT L L w W4) := F.out.trans (FrT.of hf4 fun _ _ _ => trivial); have B4 : Hid (W4.heap[ba]? = _) := (hf4.block ba (block_lt B.out) trivial).trans B.out; have L4 : Hid (W4.heap[sa]? = _) := (hf4.block sa (block_lt S.out) trivial).trans S.out; have H4 : Hid (W4.heap[sb]? = _) := (hf4.block sb (block_lt H.out) trivial).trans H.out; have y0 := block_cell L4.out 0; have y1 := frozen_block L4.out 0; have y2 := block_cell H4.out 0; have y3 := frozen_block H4.out 0; have z0 := HO.out.2.2.1; clear hf4 HPJ X F B S H qi)
      have fL : Fr (· ≠ sa) W4 (W4.setCell ⟨sa, 0, none⟩ (.int .i64 (u0 : Int))) := (Fr.refl _ W4).set (by simp) _
      have fH : Fr (· ≠ sb) (W4.setCell ⟨sa, 0, none⟩ (.int .i64 (u0 : Int))) ((W4.setCell ⟨sa, 0, none⟩ (.int .i64 (u0 : Int))).setCell ⟨sb, 0, none⟩ (.int .i64 (v0 : Int))) := (Fr.refl _ _).set (by simp) _
      obtain ⟨o1, o2, o3, o4, o5, o6, o7⟩ := HO.out
      have X5 : Hid (TAt ((W4.setCell ⟨sa, 0, none⟩ (.int .i64 (u0 : Int))).setCell ⟨sb, 0, none⟩ (.int .i64 (v0 : Int))) tb L T) := (X4.out.away o1 _ _).away o2 _ _
      have F5 : Hid (FrT L L w ((W4.setCell ⟨sa, 0, none⟩ (.int .i64 (u0 : Int))).setCell ⟨sb, 0, none⟩ (.int .i64 (v0 : Int)))) := (F4.out.setB (by exact o6) _).setB (by exact o7) _
      have B5 : Hid (((W4.setCell ⟨sa, 0, none⟩ (.int .i64 (u0 : Int))).setCell ⟨sb, 0, none⟩ (.int .i64 (v0 : Int))).heap[ba]? = _) := (fH.block ba (by simp; exact block_lt B4.out) (Ne.symm o5)).trans ((fL.block ba (block_lt B4.out) (Ne.symm o4)).trans B4.out)
      have L5 : Hid (((W4.setCell ⟨sa, 0, none⟩ (.int .i64 (u0 : Int))).setCell ⟨sb, 0, none⟩ (.int .i64 (v0 : Int))).heap[sa]? = some (.cells (mix3 f0 f1 f2 u0 u1 u2 (0 + 1)) 115 (0, 0))) := (fH.block sa (by simp; exact block_lt L4.out) o3).trans (set_block L4.out 0 _)
      have H5 : Hid (((W4.setCell ⟨sa, 0, none⟩ (.int .i64 (u0 : Int))).setCell ⟨sb, 0, none⟩ (.int .i64 (v0 : Int))).heap[sb]? = some (.cells (mix3 f0 f1 f2 v0 v1 v2 (0 + 1)) 115 (0, 0))) := set_block ((fL.block sb (block_lt H4.out) (Ne.symm o3)).trans H4.out) 0 _
      clear o1 o2 o3 o4 o5 o6 o7 fL fH y0 y1 y2 y3 z0 X4 F4 B4 L4 H4
      go_wp2_with fail
      go_roundg k
      case measure => omega
      case rel => exact ⟨0 + 1, by simp, by omega, X5, F5, B5, L5, H5⟩
    · obtain ⟨k, rfl⟩ : ∃ k, gk = k + 1 := ⟨gk - 1, by omega⟩
      have qi : (Instr.index 115 (.agg #[.int .i64 (f0 : Int), .int .i64 (f1 : Int), .int .i64 (f2 : Int)]) (.int .i64 1)).run Tryz.prog wr = .ok (.int .i64 (f1 : Int)) wr := idxT_1 (.int .i64 (f0 : Int)) (.int .i64 (f1 : Int)) (.int .i64 (f2 : Int)) wr
      have HPJ : Hid (Calls _ _ _ _ _) := HP1.out wr X.out
      go_wp2_with (go_at_call 92; refine HPJ.out.mono ?_; rintro e W4 ⟨rfl, hf4⟩; have X4 : Hid (TAt W4 tb L T) := X.out.grew hf4; have F4 : Hid (FrT L L w W4) := F.out.trans (FrT.of hf4 fun _ _ _ => trivial); have B4 : Hid (W4.heap[ba]? = _) := (hf4.block ba (block_lt B.out) trivial).trans B.out; have L4 : Hid (W4.heap[sa]? = _) := (hf4.block sa (block_lt S.out) trivial).trans S.out; have H4 : Hid (W4.heap[sb]? = _) := (hf4.block sb (block_lt H.out) trivial).trans H.out; have y0 := block_cell L4.out 1; have y1 := frozen_block L4.out 1; have y2 := block_cell H4.out 1; have y3 := frozen_block H4.out 1; have z0 := HO.out.2.2.1; clear hf4 HPJ X F B S H qi)
      have fL : Fr (· ≠ sa) W4 (W4.setCell ⟨sa, 1, none⟩ (.int .i64 (u1 : Int))) := (Fr.refl _ W4).set (by simp) _
      have fH : Fr (· ≠ sb) (W4.setCell ⟨sa, 1, none⟩ (.int .i64 (u1 : Int))) ((W4.setCell ⟨sa, 1, none⟩ (.int .i64 (u1 : Int))).setCell ⟨sb, 1, none⟩ (.int .i64 (v1 : Int))) := (Fr.refl _ _).set (by simp) _
      obtain ⟨o1, o2, o3, o4, o5, o6, o7⟩ := HO.out
      have X5 : Hid (TAt ((W4.setCell ⟨sa, 1, none⟩ (.int .i64 (u1 : Int))).setCell ⟨sb, 1, none⟩ (.int .i64 (v1 : Int))) tb L T) := (X4.out.away o1 _ _).away o2 _ _
      have F5 : Hid (FrT L L w ((W4.setCell ⟨sa, 1, none⟩ (.int .i64 (u1 : Int))).setCell ⟨sb, 1, none⟩ (.int .i64 (v1 : Int)))) := (F4.out.setB (by exact o6) _).setB (by exact o7) _
      have B5 : Hid (((W4.setCell ⟨sa, 1, none⟩ (.int .i64 (u1 : Int))).setCell ⟨sb, 1, none⟩ (.int .i64 (v1 : Int))).heap[ba]? = _) := (fH.block ba (by simp; exact block_lt B4.out) (Ne.symm o5)).trans ((fL.block ba (block_lt B4.out) (Ne.symm o4)).trans B4.out)
      have L5 : Hid (((W4.setCell ⟨sa, 1, none⟩ (.int .i64 (u1 : Int))).setCell ⟨sb, 1, none⟩ (.int .i64 (v1 : Int))).heap[sa]? = some (.cells (mix3 f0 f1 f2 u0 u1 u2 (1 + 1)) 115 (0, 0))) := (fH.block sa (by simp; exact block_lt L4.out) o3).trans (set_block L4.out 1 _)
      have H5 : Hid (((W4.setCell ⟨sa, 1, none⟩ (.int .i64 (u1 : Int))).setCell ⟨sb, 1, none⟩ (.int .i64 (v1 : Int))).heap[sb]? = some (.cells (mix3 f0 f1 f2 v0 v1 v2 (1 + 1)) 115 (0, 0))) := set_block ((fL.block sb (block_lt H4.out) (Ne.symm o3)).trans H4.out) 1 _
      clear o1 o2 o3 o4 o5 o6 o7 fL fH y0 y1 y2 y3 z0 X4 F4 B4 L4 H4
      go_wp2_with fail
      go_roundg k
      case measure => omega
      case rel => exact ⟨1 + 1, by simp, by omega, X5, F5, B5, L5, H5⟩
    · obtain ⟨k, rfl⟩ : ∃ k, gk = k + 1 := ⟨gk - 1, by omega⟩
      have qi : (Instr.index 115 (.agg #[.int .i64 (f0 : Int), .int .i64 (f1 : Int), .int .i64 (f2 : Int)]) (.int .i64 2)).run Tryz.prog wr = .ok (.int .i64 (f2 : Int)) wr := idxT_2 (.int .i64 (f0 : Int)) (.int .i64 (f1 : Int)) (.int .i64 (f2 : Int)) wr
      have HPJ : Hid (Calls _ _ _ _ _) := HP2.out wr X.out
      go_wp2_with (go_at_call 92; refine HPJ.out.mono ?_; rintro e W4 ⟨rfl, hf4⟩; have X4 : Hid (TAt W4 tb L T) := X.out.grew hf4; have F4 : Hid (FrT L L w W4) := F.out.trans (FrT.of hf4 fun _ _ _ => trivial); have B4 : Hid (W4.heap[ba]? = _) := (hf4.block ba (block_lt B.out) trivial).trans B.out; have L4 : Hid (W4.heap[sa]? = _) := (hf4.block sa (block_lt S.out) trivial).trans S.out; have H4 : Hid (W4.heap[sb]? = _) := (hf4.block sb (block_lt H.out) trivial).trans H.out; have y0 := block_cell L4.out 2; have y1 := frozen_block L4.out 2; have y2 := block_cell H4.out 2; have y3 := frozen_block H4.out 2; have z0 := HO.out.2.2.1; clear hf4 HPJ X F B S H qi)
      have fL : Fr (· ≠ sa) W4 (W4.setCell ⟨sa, 2, none⟩ (.int .i64 (u2 : Int))) := (Fr.refl _ W4).set (by simp) _
      have fH : Fr (· ≠ sb) (W4.setCell ⟨sa, 2, none⟩ (.int .i64 (u2 : Int))) ((W4.setCell ⟨sa, 2, none⟩ (.int .i64 (u2 : Int))).setCell ⟨sb, 2, none⟩ (.int .i64 (v2 : Int))) := (Fr.refl _ _).set (by simp) _
      obtain ⟨o1, o2, o3, o4, o5, o6, o7⟩ := HO.out
      have X5 : Hid (TAt ((W4.setCell ⟨sa, 2, none⟩ (.int .i64 (u2 : Int))).setCell ⟨sb, 2, none⟩ (.int .i64 (v2 : Int))) tb L T) := (X4.out.away o1 _ _).away o2 _ _
      have F5 : Hid (FrT L L w ((W4.setCell ⟨sa, 2, none⟩ (.int .i64 (u2 : Int))).setCell ⟨sb, 2, none⟩ (.int .i64 (v2 : Int)))) := (F4.out.setB (by exact o6) _).setB (by exact o7) _
      have B5 : Hid (((W4.setCell ⟨sa, 2, none⟩ (.int .i64 (u2 : Int))).setCell ⟨sb, 2, none⟩ (.int .i64 (v2 : Int))).heap[ba]? = _) := (fH.block ba (by simp; exact block_lt B4.out) (Ne.symm o5)).trans ((fL.block ba (block_lt B4.out) (Ne.symm o4)).trans B4.out)
      have L5 : Hid (((W4.setCell ⟨sa, 2, none⟩ (.int .i64 (u2 : Int))).setCell ⟨sb, 2, none⟩ (.int .i64 (v2 : Int))).heap[sa]? = some (.cells (mix3 f0 f1 f2 u0 u1 u2 (2 + 1)) 115 (0, 0))) := (fH.block sa (by simp; exact block_lt L4.out) o3).trans (set_block L4.out 2 _)
      have H5 : Hid (((W4.setCell ⟨sa, 2, none⟩ (.int .i64 (u2 : Int))).setCell ⟨sb, 2, none⟩ (.int .i64 (v2 : Int))).heap[sb]? = some (.cells (mix3 f0 f1 f2 v0 v1 v2 (2 + 1)) 115 (0, 0))) := set_block ((fL.block sb (block_lt H4.out) (Ne.symm o3)).trans H4.out) 2 _
      clear o1 o2 o3 o4 o5 o6 o7 fL fH y0 y1 y2 y3 z0 X4 F4 B4 L4 H4
      go_wp2_with fail
      go_roundg k
      case measure => omega
      case rel => exact ⟨2 + 1, by simp, by omega, X5, F5, B5, L5, H5⟩
    · have HGd : Hid (TAt wr.drew tb L T) := X.out.drew
      have HBd : Hid (wr.drew.heap[ba]? = some (.cells #[.int .i64 (f0 : Int), .int .i64 (f1 : Int), .int .i64 (f2 : Int)] 115 (0, 0))) := B.out
      have HFd : Hid (FrT L L w wr.drew) := F.out.trans (fr_drew L wr)
      have HSd : Hid (wr.drew.heap[sa]? = some (.cells #[.int .i64 (u0 : Int), .int .i64 (u1 : Int), .int .i64 (u2 : Int)] 115 (0, 0))) := S.out
      have HHd : Hid (wr.drew.heap[sb]? = some (.cells #[.int .i64 (v0 : Int), .int .i64 (v1 : Int), .int .i64 (v2 : Int)] 115 (0, 0))) := H.out
      have HC1 : Hid (∀ (W : World), TAt W tb L T → Calls _ _ _ _ _) := fun W hW => HI.out W tb L T n lv M A u0 u1 u2 hW HM.out HQ0.out.l HQ1.out.l HQ2.out.l (by have := HLOW.out; have := HQ0.out.rl; omega) (by have := HLOW.out; have := HQ1.out.rl; omega) (by have := HLOW.out; have := HQ2.out.rl; omega) (by have := HROOM.out; rw [Nat.pow_succ] at this; omega)
      have HC2 : Hid (∀ (W : World) (L1 : Ly) (T1 : Tb) (x1 : Nat), TAt W tb L1 T1 → IteP n lv M A m T u0 u1 u2 T1 x1 → Calls _ _ _ _ _) := fun W L1 T1 x1 hW hI => HI.out W tb L1 T1 n lv M A v0 v1 v2 hW hI.mid (hI.more.live HQ0.out.h) (hI.more.live HQ1.out.h) (hI.more.live HQ2.out.h) (by rw [rk_more hI.more HQ0.out.h]; have := HLOW.out; have := HQ0.out.rh; omega) (by rw [rk_more hI.more HQ1.out.h]; have := HLOW.out; have := HQ1.out.rh; omega) (by rw [rk_more hI.more HQ2.out.h]; have := HLOW.out; have := HQ2.out.rh; omega) (by have := HROOM.out; have := hI.cost; rw [Nat.pow_succ] at *; omega)
      have HC3 : Hid (∀ (W : World) (L2 : Ly) (T1 T2 : Tb) (x1 x2 : Nat), TAt W tb L2 T2 → IteP n lv M A m T u0 u1 u2 T1 x1 → IteP n lv M A m T1 v0 v1 v2 T2 x2 → Calls _ _ _ _ _) := fun W L2 T1 T2 x1 x2 hW hI hJ => node_any (ab := t) (lo := x1) (hh := x2) hW hJ.mid HTN.out (hJ.more.live hI.live) hJ.live (by rw [rk_more hJ.more hI.live]; exact hI.rank (lv t + 1) HQ0.out.rl HQ1.out.rl HQ2.out.rl) (hJ.rank (lv t + 1) (by rw [rk_more hI.more HQ0.out.h]; exact HQ0.out.rh) (by rw [rk_more hI.more HQ1.out.h]; exact HQ1.out.rh) (by rw [rk_more hI.more HQ2.out.h]; exact HQ2.out.rh)) (by have := HROOM.out; have := hI.cost; have := hJ.cost; rw [Nat.pow_succ] at *; omega)
      have d0 := block_cell S.out 0
      have d1 := block_cell S.out 1
      have d2 := block_cell S.out 2
      have d3 := block_cell H.out 0
      have d4 := block_cell H.out 1
      have d5 := block_cell H.out 2
      have y0 := block_cell HSd.out 0
      have y1 := block_cell HSd.out 1
      have y2 := block_cell HSd.out 2
      have y3 := block_cell HHd.out 0
      have y4 := block_cell HHd.out 1
      have y5 := block_cell HHd.out 2
      clear X F B S H h1 h2 h3 h4 n1 n2 n3
      go_wp2_with fail
      go_region_held3 (fun w' => w'.cell? ⟨sa, 0, none⟩ = some (.int .i64 (u0 : Int)) ∧ w'.cell? ⟨sa, 1, none⟩ = some (.int .i64 (u1 : Int)) ∧ w'.cell? ⟨sa, 2, none⟩ = some (.int .i64 (u2 : Int)) ∧ w'.cell? ⟨sb, 0, none⟩ = some (.int .i64 (v0 : Int)) ∧ w'.cell? ⟨sb, 1, none⟩ = some (.int .i64 (v1 : Int)) ∧ w'.cell? ⟨sb, 2, none⟩ = some (.int .i64 (v2 : Int))) (first | (refine ⟨?_, ?_, ?_, ?_, ?_, ?_⟩ <;> assumption) | go_keep)
       ((first | (go_at_call 65; refine (HC2.out _ _ _ _ X5.out I1.out).mono ?_; rintro e W6 ⟨x2, T2, hI2, rfl, L2, hX6, hF6⟩; have I2 : Hid (IteP n lv M A m T1 v0 v1 v2 T2 x2) := hI2; have X6 : Hid (TAt W6 tb L2 T2) := hX6; have F6 : Hid (FrT L L2 w W6) := F5.out.trans hF6; have B6 : Hid (W6.heap[ba]? = _) := (hF6.block ba (block_lt B5.out) O5.out.1).trans B5.out; have S6 : Hid (W6.heap[sa]? = _) := (hF6.block sa (block_lt S5.out) O5.out.2.1).trans S5.out; have H6 : Hid (W6.heap[sb]? = _) := (hF6.block sb (block_lt H5.out) O5.out.2.2).trans H5.out; have O6 : Hid (L2.own ba = 0 ∧ L2.own sa = 0 ∧ L2.own sb = 0) := ⟨(hF6.own ba (block_lt B5.out)).trans O5.out.1, (hF6.own sa (block_lt S5.out)).trans O5.out.2.1, (hF6.own sb (block_lt H5.out)).trans O5.out.2.2⟩; have k0 := block_cell S6.out 0; have k1 := block_cell S6.out 1; have k2 := block_cell S6.out 2; have k3 := block_cell H6.out 0; have k4 := block_cell H6.out 1; have k5 := block_cell H6.out 2; clear hI2 hX6 hF6) | (go_at_call 65; refine (HC1.out _ HGd.out).mono ?_; rintro e W5 ⟨x1, T1, hI1, rfl, L1, hX5, hF5⟩; have I1 : Hid (IteP n lv M A m T u0 u1 u2 T1 x1) := hI1; have X5 : Hid (TAt W5 tb L1 T1) := hX5; have F5 : Hid (FrT L L1 w W5) := HFd.out.trans hF5; have B5 : Hid (W5.heap[ba]? = _) := (hF5.block ba (block_lt HBd.out) HBA.out).trans HBd.out; have S5 : Hid (W5.heap[sa]? = _) := (hF5.block sa (block_lt HSd.out) HO.out.1).trans HSd.out; have H5 : Hid (W5.heap[sb]? = _) := (hF5.block sb (block_lt HHd.out) HO.out.2.1).trans HHd.out; have O5 : Hid (L1.own ba = 0 ∧ L1.own sa = 0 ∧ L1.own sb = 0) := ⟨(hF5.own ba (block_lt HBd.out)).trans HBA.out, (hF5.own sa (block_lt HSd.out)).trans HO.out.1, (hF5.own sb (block_lt HHd.out)).trans HO.out.2.1⟩; have z0 := block_cell S5.out 0; have z1 := block_cell S5.out 1; have z2 := block_cell S5.out 2; have z3 := block_cell H5.out 0; have z4 := block_cell H5.out 1; have z5 := block_cell H5.out 2; clear hI1 hX5 hF5) | (go_at_call 64; refine (HC3.out _ _ _ _ _ _ X6.out I1.out I2.out).mono ?_; rintro e W7 ⟨x, T3, hI3, rfl, L3, hX7, hF7⟩; have I3 : Hid (NodeP n lv M A T2 t x1 x2 T3 x) := hI3; have X7 : Hid (TAt W7 tb L3 T3) := hX7; have F7 : Hid (FrT L L3 w W7) := F6.out.trans hF7; have B7 : Hid (W7.heap[ba]? = some (.cells #[.int .i64 (f0 : Int), .int .i64 (f1 : Int), .int .i64 (f2 : Int)] 115 (0, 0))) := (hF7.block ba (block_lt B6.out) O6.out.1).trans B6.out; have S7 : Hid (W7.heap[sa]? = _) := (hF7.block sa (block_lt S6.out) O6.out.2.1).trans S6.out; have H7 : Hid (W7.heap[sb]? = _) := (hF7.block sb (block_lt H6.out) O6.out.2.2).trans H6.out; have l0 := block_cell S7.out 0; have l1 := block_cell S7.out 1; have l2 := block_cell S7.out 2; have l3 := block_cell H7.out 0; have l4 := block_cell H7.out 1; have l5 := block_cell H7.out 2; clear hI3 hX7 hF7)))
      clear d0 d1 d2 d3 d4 d5 y0 y1 y2 y3 y4 y5 z0 z1 z2 z3 z4 z5 k0 k1 k2 k3 k4 k5 l0 l1 l2 l3 l4 l5 HC1 HC2 HC3 HGd HBd HFd HSd HHd X5 F5 B5 S5 H5 O5 X6 F6 B6 S6 H6 O6 S7 H7
      have X7d : Hid (TAt W7.drew tb L3 T3) := X7.out.drew
      have B7d : Hid (W7.drew.heap[ba]? = some (.cells #[.int .i64 (f0 : Int), .int .i64 (f1 : Int), .int .i64 (f2 : Int)] 115 (0, 0))) := B7.out
      have F7d : Hid (FrT L L3 w W7.drew) := F7.out.trans (fr_drew L3 W7)
      have HAB : Hid (∀ p ∈ T3.found, p.1 ≠ (f0, f1, f2)) := IteP.absent HL3.out.1 HL3.out.2.1 HL3.out.2.2 HNF.out HQ0.out HQ1.out HQ2.out HMIN.out I1.out I2.out I3.out
      have HEND : Hid (IteP n lv M A (m + 1) T f0 f1 f2 (noteT T3 f0 f1 f2 x) x) := IteP.main HM.out HL3.out.1 HL3.out.2.1 HL3.out.2.2 HNF.out HQ0.out HQ1.out HQ2.out HMIN.out I1.out I2.out I3.out
      obtain ⟨W8, hput, hm8, hf8, -⟩ := (X7d.out.fd trivial).1.put lawT Tryz.underlying78 (x := .agg #[.int .i64 (f0 : Int), .int .i64 (f1 : Int), .int .i64 (f2 : Int)]) HKEY.out (foundL_ne HAB.out) (.int .i64 (x : Int))
      obtain ⟨x8, f8⟩ := X7d.out.finds (M := T3.found ++ [((f0, f1, f2), x)]) hf8 (by rw [foundL_push]; exact hm8) (nodup_push (X7d.out.fd trivial).2.2 HAB.out)
      have X8 : Hid (TAt W8 tb L3 (noteT T3 f0 f1 f2 x)) := x8
      have F8 : Hid (FrT L L3 w W8) := F7d.out.trans f8
      have b5 := X7.out.b5
      have b5d := X7d.out.b5
      have c0 := block_cell B7.out 0
      have c1 := block_cell B7.out 1
      have c2 := block_cell B7.out 2
      have c0d := block_cell B7d.out 0
      have c1d := block_cell B7d.out 1
      have c2d := block_cell B7d.out 2
      clear x8 f8 hm8 hf8 X7 B7 F7 X7d B7d F7d HAB I1 I2 I3
      go_wp2_with fail
      go_big_region_o
      all_goals
       clear c0 c1 c2 c0d c1d c2d b5 b5d hput
       go_wp2_with fail
       go_ret
       exact ⟨x, _, HEND.out, rfl, L3, X8.out, F8.out⟩
end Go.Proofs.YtaakjjefnjbabaaGreat.Sx
