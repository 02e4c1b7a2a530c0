/- The store: believe, in memory. -/
import Derived.Test.YtbicefgjompnoaaDoorF15
namespace Go.Proofs.YtbicefgjompnoaaDoor.Sx
open Go.RowKit Go.Sort

/-- what believe comes to -/
def BelPost (w : World) (L : Ly) (n : Nat) (s : St) (l : Nat) (y : Int) (e : Ending) (w' : World) : Prop :=
  (s.truth.getD l 0 ≠ 0 ∧ e = .returned (.bool (decide (0 < s.truth.getD l 0))) ∧ w' = w) ∨ (s.truth.getD l 0 = 0 ∧ e = .returned (.bool true) ∧ ∃ tv own, SAt w' { L with tv := tv, own := own } n (believeP s l y) ∧ FrS L { L with tv := tv, own := own } w w')

set_option maxRecDepth 100000 in
set_option maxHeartbeats 4000000 in
theorem believe_any (w : World) (L : Ly) (n : Nat) (s : St) (l : Nat) (y : Int) (h : SAt w L n s) (hl : l < 2 * n) (hc : s.cuts.length ≤ 1000) (hfew : s.truth.getD l 0 = 0 → s.trail.length + 1 ≤ n) :
    Calls Tryd.prog 17 #[.pointer (some ⟨L.sb, 0, none⟩), .int .i32 (l : Int), .int .i32 y] w (BelPost w L n s l y) := by
  have mo := follows
  have hn := h.2.n_
  have c4 := h.c4
  have ct := h.truth hl
  have hl1 : (l : Int) < ((2 * n : Nat) : Int) := by omega
  have hl2 : (l : Int) < 2 * (n : Int) := by omega
  have h3 := h.2.t3 l
  obtain ⟨t, ht⟩ : ∃ t, s.truth.getD l 0 = t := ⟨_, rfl⟩
  rw [ht] at ct h3 hfew
  have HT : Hid (s.truth.getD l 0 = t) := ht
  have HS : Hid (SAt w L n s) := h
  unfold BelPost
  rw [ht]
  clear h ht
  by_cases ht0 : t = 0
  case neg =>
    have e1 : (t != 0) = true := by simpa using ht0
    go_enter Tryd.func17, Tryd.ntmps17
    go_wp2_with fail
    go_ret
    exact .inl ⟨ht0, rfl, rfl⟩
  subst ht0
  have hf := hfew rfl
  obtain ⟨SB, hSB⟩ : ∃ SB, believeP s l y = SB := ⟨_, rfl⟩
  rw [hSB]
  have HSB : Hid (believeP s l y = SB) := hSB
  clear hSB
  have ho := opp_lt hl
  have ho1 : (opp l : Int) < ((2 * n : Nat) : Int) := by omega
  have ho2 : (opp l : Int) < 2 * (n : Int) := by omega
  have hne : opp l ≠ l := opp_ne l
  have co := HS.out.truth ho
  have d4 := HS.out.drew.c4
  have dt := HS.out.drew.truth hl
  have do_ := HS.out.drew.truth ho
  rw [HT.out] at dt
  have z1 := HS.out.tfree l
  have z2 := HS.out.tfree (opp l)
  have z3 := HS.out.drew.tfree l
  have z4 := HS.out.drew.tfree (opp l)
  have HO : Hid (∀ w, Calls Tryd.prog 33 #[.int .i32 (l : Int)] w fun e w' => e = .returned (.int .i32 (opp l : Int)) ∧ w' = w) := fun w => opposite_any w l (by omega)
  have S1 := (HS.out.setTruth l 1 (by simp)).setTruth (opp l) (-1) (by simp)
  have S1d : Hid (SAt ((w.setCell ⟨L.tb, l, none⟩ (.int .i8 1)).setCell ⟨L.tb, opp l, none⟩ (.int .i8 (-1))).drew L n { s with truth := (s.truth.set l 1).set (opp l) (-1) }) := S1.drew
  have hown : L.own L.tb ≠ (0, 0) := by rw [(HS.out.1.tr trivial).2]; decide
  have F1d : Hid (FrS L L w ((w.setCell ⟨L.tb, l, none⟩ (.int .i8 1)).setCell ⟨L.tb, opp l, none⟩ (.int .i8 (-1))).drew) := (((FrS.refl L w).set hown).set hown).drew
  have k1 := (HS.out.setTruth l 1 (by simp)).truth ho
  have k1d := (HS.out.setTruth l 1 (by simp)).drew.truth ho
  have k2 := (HS.out.setTruth l 1 (by simp)).tfree (opp l)
  have k3 := (HS.out.setTruth l 1 (by simp)).drew.tfree (opp l)
  clear S1 hown
  go_enter Tryd.func17, Tryd.ntmps17
  go_upto_region 3 with fail
  go_cut [] (fun wx => wx = ((w.setCell ⟨L.tb, l, none⟩ (.int .i8 1)).setCell ⟨L.tb, opp l, none⟩ (.int .i8 (-1))).drew)
  case first =>
    go_region_with (go_at_call 33; refine (HO.out _).mono ?_; rintro e w' ⟨rfl, hw⟩; obtain rfl := hw.symm)
    all_goals
      go_wp2_with fail
      go_meet
      case rel => rfl
  case rest =>
    subst hcut
    clear k1 k1d k2 k3 z1 z2 z3 z4 dt do_ co d4 c4 ct hne
    generalize ((w.setCell ⟨L.tb, l, none⟩ (.int .i8 1)).setCell ⟨L.tb, opp l, none⟩ (.int .i8 (-1))).drew = W1 at S1d F1d ⊢
    have hp : l / 2 < n := by omega
    have hp1 : ((l / 2 : Nat) : Int) < (n : Int) := by omega
    obtain ⟨ca, cc, hcv⟩ := (S1d.out.1.cu trivial).form
    have c9 : W1.cell? ⟨L.sb, 9, none⟩ = some (.slice ca s.cuts.length cc) := by have := S1d.out.cell 9; simp only [stC, hcv] at this; exact this
    have c9d : W1.drew.cell? ⟨L.sb, 9, none⟩ = some (.slice ca s.cuts.length cc) := c9
    have c5 := S1d.out.c5
    have c6 := S1d.out.c6
    have d5 := S1d.out.drew.c5
    have d6 := S1d.out.drew.c6
    have y0 := S1d.out.why_ hp
    have x0 := S1d.out.depth_ hp
    have y1 := S1d.out.drew.why_ hp
    have x1 := S1d.out.drew.depth_ hp
    have zy := S1d.out.yfree (l / 2)
    have zyd := S1d.out.drew.yfree (l / 2)
    have zd := S1d.out.dfree (l / 2)
    have zdd := S1d.out.drew.dfree (l / 2)
    have T1 := S1d.out.setWhy (l / 2) y
    have u0 := T1.depth_ hp
    have u1 := T1.drew.depth_ hp
    have uz := T1.dfree (l / 2)
    have uzd := T1.drew.dfree (l / 2)
    have S2d : Hid (SAt ((W1.setCell ⟨L.yb, l / 2, none⟩ (.int .i32 y)).setCell ⟨L.db, l / 2, none⟩ (.int .i32 (s.cuts.length : Int))).drew L n { s with truth := (s.truth.set l 1).set (opp l) (-1), why := s.why.set (l / 2) y, depth := s.depth.set (l / 2) (s.cuts.length : Int) }) := (T1.setDepth (l / 2) (s.cuts.length : Int)).drew
    have F2d : Hid (FrS L L w ((W1.setCell ⟨L.yb, l / 2, none⟩ (.int .i32 y)).setCell ⟨L.db, l / 2, none⟩ (.int .i32 (s.cuts.length : Int))).drew) := ((F1d.out.set (by rw [(S1d.out.1.wy trivial).2]; decide)).set (by rw [(S1d.out.1.dp trivial).2]; decide)).drew
    have HLV : Hid (∀ W, W.cell? ⟨L.sb, 9, none⟩ = some (.slice ca s.cuts.length cc) → Calls Tryd.prog 34 #[.pointer (some ⟨L.sb, 0, none⟩)] W fun e w' => e = .returned (.int .i64 (s.cuts.length : Int)) ∧ w' = W) := fun W hW => level_cell W _ _ _ _ hW
    have HPL : Hid (∀ W, Calls Tryd.prog 35 #[.int .i32 (l : Int)] W fun e w' => e = .returned (.int .i32 ((l / 2 : Nat) : Int)) ∧ w' = W) := fun W => place_any W l
    obtain ⟨C, hC⟩ : ∃ C, s.cuts.length = C := ⟨_, rfl⟩
    obtain ⟨P, hP⟩ : ∃ P, l / 2 = P := ⟨_, rfl⟩
    have HCP : Hid (s.cuts.length = C ∧ l / 2 = P) := ⟨hC, hP⟩
    rw [hC] at c9 c9d S2d F2d HLV hc
    rw [hP] at y0 x0 y1 x1 zy zyd zd zdd u0 u1 uz uzd S2d F2d HPL hp hp1
    have hw32 : IntKind.i32.wrap (C : Int) = (C : Int) := by rw [IntKind.wrap_i32]; omega
    clear T1 hcv hC hP S1d F1d
    go_upto_region 4 with fail
    go_cut [] (fun wx => wx = ((W1.setCell ⟨L.yb, P, none⟩ (.int .i32 y)).setCell ⟨L.db, P, none⟩ (.int .i32 (C : Int))).drew)
    case first =>
      go_region_with (first | (go_at_call 35; refine (HPL.out _).mono ?_; rintro e w' ⟨rfl, hw⟩; obtain rfl := hw.symm) | (go_at_call 34; refine (HLV.out _ (by assumption)).mono ?_; rintro e w' ⟨rfl, hw⟩; obtain rfl := hw.symm))
      all_goals
        go_wp2_with fail
        go_meet
        case rel => rfl
    case rest =>
      subst hcut
      clear y0 x0 y1 x1 zy zyd zd zdd u0 u1 uz uzd c9 c9d c5 c6 d5 d6 hw32
      generalize ((W1.setCell ⟨L.yb, P, none⟩ (.int .i32 y)).setCell ⟨L.db, P, none⟩ (.int .i32 (C : Int))).drew = W2 at S2d F2d ⊢
      obtain ⟨S2, hS2⟩ : ∃ S2, ({ s with truth := (s.truth.set l 1).set (opp l) (-1), why := s.why.set P y, depth := s.depth.set P (C : Int) } : St) = S2 := ⟨_, rfl⟩
      have e2 : SB = { S2 with trail := S2.trail ++ [l] } := by rw [← HSB.out, ← hS2]; unfold believeP; rw [HCP.out.1, HCP.out.2]
      have e3 : S2.trail.length = s.trail.length := by rw [← hS2]
      rw [hS2] at S2d
      clear hS2
      rw [← e3] at hf
      obtain ⟨i0, hi0, hz0, hz1, hz2⟩ := info70
      obtain ⟨ta, tc, htv⟩ := (S2d.out.1.ta trivial).form
      have c7 : W2.cell? ⟨L.sb, 7, none⟩ = some (.slice ta S2.trail.length tc) := by have := S2d.out.cell 7; simp only [stC, htv] at this; exact this
      have HW : Hid (SAt (W2.alloc (.cells #[.int .i32 (l : Int)] 45)) L n S2) := S2d.out.alloc _
      have HF : Hid (Fr (fun _ => True) W2 (W2.alloc (.cells #[.int .i32 (l : Int)] 45))) := (Fr.refl _ W2).alloc _
      have OW : Hid ((W2.alloc (.cells #[.int .i32 (l : Int)] 45)).ownsRow 0 45 1 (.slice ta S2.trail.length tc) S2.trail.length (v32 S2.trail)) := by rw [← htv]; exact (HW.out.1.ta trivial).1
      have hmx : S2.trail.length + 1 ≤ maxLen := by unfold maxLen; omega
      have hby : (S2.trail.length + 1) * 4 ≤ 140737488355328 := by omega
      have HP : Hid (∀ (v4 : Value) (w9 : World), w9.ownsRow 0 45 1 v4 (S2.trail.length + 1) (v32 S2.trail ++ [.int .i32 (l : Int)]) → (W2.alloc (.cells #[.int .i32 (l : Int)] 45)).grownBy w9 (Value.slice ta S2.trail.length tc).ownBlock → (v4.ownBlock = (Value.slice ta S2.trail.length tc).ownBlock ∨ v4.ownBlock = some (W2.alloc (.cells #[.int .i32 (l : Int)] 45)).heap.size) →
          ∃ g cap, v4 = .slice (some ⟨g, 0, none⟩) (S2.trail.length + 1) cap ∧ w9.cell? ⟨L.sb, 7, none⟩ = some (.slice ta S2.trail.length tc) ∧ w9.frozen? ⟨L.sb, 7, none⟩ = false ∧ ∃ tv own, SAt (w9.setCell ⟨L.sb, 7, none⟩ (.slice (some ⟨g, 0, none⟩) (S2.trail.length + 1) cap)) { L with tv := tv, own := own } n { S2 with trail := S2.trail ++ [l] } ∧ FrS L { L with tv := tv, own := own } w (w9.setCell ⟨L.sb, 7, none⟩ (.slice (some ⟨g, 0, none⟩) (S2.trail.length + 1) cap))) := by
        intro v4 w9 ho hg hat
        rcases ho.2 with ⟨_, q⟩ | ⟨g, cap, cur, e, q⟩
        · omega
        subst e
        rw [← htv] at hg hat
        obtain ⟨k1, k2, k3, k4⟩ := HW.out.app_trail HF.out ho hg (by
          rcases hat with q | q
          · exact .inl q.symm
          · exact .inr (Option.some.inj q)) hl hf
        exact ⟨g, cap, rfl, by rw [k1, htv], k2, _, _, k3, F2d.out.trans k4⟩
      rw [← e2] at HP
      generalize S2.trail.length = T at c7 OW hmx hby HP
      clear htv HW HF e3 hf HCP e2 HSB
      go_wp2_with (at_builtin; refine wpList_append_own_at _ rfl _ _ 43 rfl 0 45 i0 _ 1 4 Tryd.underlying43 hi0 hz0 hz1 hz2 rfl (by decide) (.slice ta T tc) T _ rfl OW.out ⟨W2.heap.size, 0, none⟩ 1 1 [.int .i32 (l : Int)] rfl rfl (World.news_of_block (heap_new rfl)) (one1 rfl) hmx hby (Nat.zero_le _) ?_; intro v4 w9 ho9 hg9 _ hat9; obtain ⟨g, cap4, rfl, q1, q2, q3⟩ := HP.out v4 w9 ho9 hg9 hat9; have Q3 : Hid (∃ tv own, SAt (w9.setCell ⟨L.sb, 7, none⟩ (.slice (some ⟨g, 0, none⟩) (T + 1) cap4)) { L with tv := tv, own := own } n SB ∧ FrS L { L with tv := tv, own := own } w (w9.setCell ⟨L.sb, 7, none⟩ (.slice (some ⟨g, 0, none⟩) (T + 1) cap4))) := q3; clear ho9 hg9 hat9 q3)
      go_ret
      exact ⟨rfl, Q3.out⟩

end Go.Proofs.YtbicefgjompnoaaDoor.Sx
