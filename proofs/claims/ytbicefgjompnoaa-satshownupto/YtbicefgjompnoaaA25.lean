/- The program: slices.Clone of literals. -/
import Derived.Test.YtbicefgjompnoaaA13
import Derived.Test.YtbicefgjompnoaaA15
import Derived.Test.YtbicefgjompnoaaA19
namespace Go.Proofs.Ytbicefgjompnoaa.Sx
open Go.RowKit Go.Sort

set_option maxRecDepth 100000 in
set_option maxHeartbeats 1000000 in
theorem clone_any (w : World) (b cap : Nat) (c : List Nat) (d : Array Nat) (h : LRow w b d) (ht : d.toList.take c.length = c) (hne : 0 < c.length) (hl : c.length ≤ 4294967296) :
    Calls Try.prog 63 #[.slice (some ⟨b, 0, none⟩) c.length cap] w fun e w' => Fr (fun _ => True) w w' ∧ ∃ (g cap' : Nat) (D : Array Nat), e = .returned (.slice (some ⟨g, 0, none⟩) c.length cap') ∧ w.heap.size ≤ g ∧ LRow w' g D ∧ c.length ≤ D.size ∧ D.toList.take c.length = c := by
  have mo := follows
  have q44 : ∀ (w : World) (a : Option Addr) (n c n' c' : Nat), (binOp .eql 44 (.slice a n c) (.slice none n' c')).run Try.prog w = .ok (.bool a.isNone) w := fun w a n c n' c' => Lib.run_eql_slice_nil w _ _ a n c n' c' Try.underlying44
  obtain ⟨i0, hi0, hz0, hz1, hz2⟩ := info70
  obtain ⟨W, hW⟩ : ∃ W, w.alloc (.cells #[] 70) = W := ⟨_, rfl⟩
  have hFW : Fr (fun _ => True) w W := by rw [← hW]; exact (Fr.refl _ w).alloc _
  have hLW : LRow W b d := h.of hFW trivial
  have hnews : ∀ j u, (v32 c)[j]? = some u → W.cell? ((⟨b, 0, none⟩ : Addr).add j) = some u := fun j u hu => by
    have hadd : (⟨b, 0, none⟩ : Addr).add j = ⟨b, j, none⟩ := by unfold Addr.add; split <;> simp_all
    rw [hadd, block_cell hLW]
    unfold v32 at hu
    rw [List.getElem?_map] at hu
    cases hq : c[j]? with
    | none => rw [hq] at hu; cases hu
    | some x =>
      rw [hq] at hu
      have hj : j < c.length := (List.getElem?_eq_some_iff.1 hq).1
      have e : d[j]? = some x := by
        rw [← ht, List.getElem?_take_of_lt hj] at hq
        simpa using hq
      simp [encL, e]
      exact Option.some.inj hu
  have hr := run_append_grow (P := Try.prog) W 44 44 70 i0 _ Try.underlying44 hi0 hz0 ⟨w.heap.size, 0, none⟩ 0 0 [] (by simp) (fun j v hv => by simp at hv) ⟨b, 0, none⟩ c.length cap (v32 c) (by rw [hz1]; simp [v32]) hnews (by omega) (by omega) (growslice_fits (by omega) (by rw [hz2]; omega))
  obtain ⟨K, hK⟩ : ∃ K, grownCap W (0 + c.length) 0 70 = K := ⟨_, rfl⟩
  have hKc : c.length ≤ K := by have := grownCap_ge W (0 + c.length) 0 70; omega
  have e0 : (0 + c.length) = c.length := Nat.zero_add _
  rw [hK, e0] at hr
  obtain ⟨D, hD⟩ : ∃ D, c.toArray ++ Array.replicate (K - c.length) 0 = D := ⟨_, rfl⟩
  have eD : (#[] ++ (v32 c).toArray ++ Builtin.zeroCells (Value.int .i32 0).cells (K - c.length) : Array Value) = encL D := by
    rw [← hD]
    have ez : ∀ m : Nat, Builtin.zeroCells (Value.int .i32 0).cells m = Array.replicate m (Value.int .i32 0) := fun m => by
      apply Array.ext
      · simp [Builtin.zeroCells, Value.cells]
      · intro i h1 h2
        have e : ∀ i : Nat, i % 1 = 0 := fun i => Nat.mod_one i
        simp [Builtin.zeroCells, Value.cells, e]
    rw [ez]
    simp [encL, v32]
  have eD2 : ((List.toArray ([] : List Value)) ++ (v32 c).toArray ++ Builtin.zeroCells (Value.int .i32 0).cells (K - c.length) : Array Value) = encL D := eD
  rw [eD2] at hr
  have hg2 : W.heap.size = w.heap.size + 1 := by rw [← hW]; simp
  obtain ⟨w9, hw9⟩ : ∃ w9, W.drew.alloc (.cells (encL D) 70) = w9 := ⟨_, rfl⟩
  have hP : Fr (fun _ => True) w w9 ∧ LRow w9 (w.heap.size + 1) D ∧ c.length ≤ D.size ∧ D.toList.take c.length = c := by
    refine ⟨by rw [← hw9]; exact hFW.drew.alloc _, ?_, ?_, ?_⟩
    · show w9.heap[w.heap.size + 1]? = _
      rw [← hw9]
      exact heap_new (by show W.heap.size = _; rw [hg2])
    · rw [← hD]; simp
    · rw [← hD]; simp
  have HP : Hid _ := hP
  have HR : Hid ((Builtin.append_ #[44, 44] 44 #[.slice (some ⟨w.heap.size, 0, none⟩) 0 0, .slice (some ⟨b, 0, none⟩) c.length cap]).run Try.prog W = .ok (.slice (some ⟨w.heap.size + 1, 0, none⟩) c.length K) w9) := by
    show _ = _
    rw [hr, hw9, hg2]
  clear hr hP hw9 eD eD2 hD hK hnews hLW hFW h ht
  go_enter Try.func63, Try.ntmps63
  go_wp2_with (at_builtin; refine at_append _ rfl _ _ 44 rfl _ _ _ _ rfl rfl HR.out ?_)
  go_wp2_with fail
  go_ret
  exact ⟨HP.out.1, w.heap.size + 1, K, D, rfl, Nat.le_succ _, HP.out.2⟩

end Go.Proofs.Ytbicefgjompnoaa.Sx
/- The store: believe, in memory. -/
namespace Go.Proofs.Ytbicefgjompnoaa.Sx
open Go.RowKit Go.Sort

/-- what believe comes to -/
def BelPost (w : World) (L : Ly) (n : Nat) (s : St) (l : Nat) (y : Int) (e : Ending) (w' : World) : Prop :=
  (s.truth.getD l 0 ≠ 0 ∧ e = .returned (.bool (decide (0 < s.truth.getD l 0))) ∧ w' = w) ∨ (s.truth.getD l 0 = 0 ∧ e = .returned (.bool true) ∧ ∃ tv own, SAt w' { L with tv := tv, own := own } n (believeP s l y) ∧ FrS L { L with tv := tv, own := own } w w')

set_option maxRecDepth 100000 in
set_option maxHeartbeats 4000000 in
theorem believe_any (w : World) (L : Ly) (n : Nat) (s : St) (l : Nat) (y : Int) (h : SAt w L n s) (hl : l < 2 * n) (hc : s.cuts.length ≤ 1000) (hfew : s.truth.getD l 0 = 0 → s.trail.length + 1 ≤ n) :
    Calls Try.prog 40 #[.pointer (some ⟨L.sb, 0, none⟩), .int .i32 (l : Int), .int .i32 y] w (BelPost w L n s l y) := by
  have mo := follows
  have hn := h.2.n_
  have c4 := h.c4
  have ct := h.truth hl
  have hl1 : (l : Int) < ((2 * n : Nat) : Int) := by omega
  have hl2 : (l : Int) < 2 * (n : Int) := by omega
  have h3 := h.2.t3 l
  obtain ⟨t, ht⟩ : ∃ t, s.truth.getD l 0 = t := ⟨_, rfl⟩
  rw [ht] at ct h3 hfew
  have HT : Hid (s.truth.getD l 0 = t) := ht
  have HS : Hid (SAt w L n s) := h
  unfold BelPost
  rw [ht]
  clear h ht
  by_cases ht0 : t = 0
  case neg =>
    have e1 : (t != 0) = true := by simpa using ht0
    go_enter Try.func40, Try.ntmps40
    go_wp2_with fail
    go_ret
    exact .inl ⟨ht0, rfl, rfl⟩
  subst ht0
  have hf := hfew rfl
  obtain ⟨SB, hSB⟩ : ∃ SB, believeP s l y = SB := ⟨_, rfl⟩
  rw [hSB]
  have HSB : Hid (believeP s l y = SB) := hSB
  clear hSB
  have ho := opp_lt hl
  have ho1 : (opp l : Int) < ((2 * n : Nat) : Int) := by omega
  have ho2 : (opp l : Int) < 2 * (n : Int) := by omega
  have hne : opp l ≠ l := opp_ne l
  have co := HS.out.truth ho
  have d4 := HS.out.drew.c4
  have dt := HS.out.drew.truth hl
  have do_ := HS.out.drew.truth ho
  rw [HT.out] at dt
  have z1 := HS.out.tfree l
  have z2 := HS.out.tfree (opp l)
  have z3 := HS.out.drew.tfree l
  have z4 := HS.out.drew.tfree (opp l)
  have HO : Hid (∀ w, Calls Try.prog 33 #[.int .i32 (l : Int)] w fun e w' => e = .returned (.int .i32 (opp l : Int)) ∧ w' = w) := fun w => opposite_any w l (by omega)
  have S1 := (HS.out.setTruth l 1 (by simp)).setTruth (opp l) (-1) (by simp)
  have S1d : Hid (SAt ((w.setCell ⟨L.tb, l, none⟩ (.int .i8 1)).setCell ⟨L.tb, opp l, none⟩ (.int .i8 (-1))).drew L n { s with truth := (s.truth.set l 1).set (opp l) (-1) }) := S1.drew
  have hown : L.own L.tb ≠ (0, 0) := by rw [(HS.out.1.tr trivial).2]; decide
  have F1d : Hid (FrS L L w ((w.setCell ⟨L.tb, l, none⟩ (.int .i8 1)).setCell ⟨L.tb, opp l, none⟩ (.int .i8 (-1))).drew) := (((FrS.refl L w).set hown).set hown).drew
  have k1 := (HS.out.setTruth l 1 (by simp)).truth ho
  have k1d := (HS.out.setTruth l 1 (by simp)).drew.truth ho
  have k2 := (HS.out.setTruth l 1 (by simp)).tfree (opp l)
  have k3 := (HS.out.setTruth l 1 (by simp)).drew.tfree (opp l)
  clear S1 hown
  go_enter Try.func40, Try.ntmps40
  go_upto_region 3 with fail
  go_cut [] (fun wx => wx = ((w.setCell ⟨L.tb, l, none⟩ (.int .i8 1)).setCell ⟨L.tb, opp l, none⟩ (.int .i8 (-1))).drew)
  case first =>
    go_region_with (go_at_call 33; refine (HO.out _).mono ?_; rintro e w' ⟨rfl, hw⟩; obtain rfl := hw.symm)
    all_goals
      go_wp2_with fail
      go_meet
      case rel => rfl
  case rest =>
    subst hcut
    clear k1 k1d k2 k3 z1 z2 z3 z4 dt do_ co d4 c4 ct hne
    generalize ((w.setCell ⟨L.tb, l, none⟩ (.int .i8 1)).setCell ⟨L.tb, opp l, none⟩ (.int .i8 (-1))).drew = W1 at S1d F1d ⊢
    have hp : l / 2 < n := by omega
    have hp1 : ((l / 2 : Nat) : Int) < (n : Int) := by omega
    obtain ⟨ca, cc, hcv⟩ := (S1d.out.1.cu trivial).form
    have c9 : W1.cell? ⟨L.sb, 9, none⟩ = some (.slice ca s.cuts.length cc) := by have := S1d.out.cell 9; simp only [stC, hcv] at this; exact this
    have c9d : W1.drew.cell? ⟨L.sb, 9, none⟩ = some (.slice ca s.cuts.length cc) := c9
    have c5 := S1d.out.c5
    have c6 := S1d.out.c6
    have d5 := S1d.out.drew.c5
    have d6 := S1d.out.drew.c6
    have y0 := S1d.out.why_ hp
    have x0 := S1d.out.depth_ hp
    have y1 := S1d.out.drew.why_ hp
    have x1 := S1d.out.drew.depth_ hp
    have zy := S1d.out.yfree (l / 2)
    have zyd := S1d.out.drew.yfree (l / 2)
    have zd := S1d.out.dfree (l / 2)
    have zdd := S1d.out.drew.dfree (l / 2)
    have T1 := S1d.out.setWhy (l / 2) y
    have u0 := T1.depth_ hp
    have u1 := T1.drew.depth_ hp
    have uz := T1.dfree (l / 2)
    have uzd := T1.drew.dfree (l / 2)
    have S2d : Hid (SAt ((W1.setCell ⟨L.yb, l / 2, none⟩ (.int .i32 y)).setCell ⟨L.db, l / 2, none⟩ (.int .i32 (s.cuts.length : Int))).drew L n { s with truth := (s.truth.set l 1).set (opp l) (-1), why := s.why.set (l / 2) y, depth := s.depth.set (l / 2) (s.cuts.length : Int) }) := (T1.setDepth (l / 2) (s.cuts.length : Int)).drew
    have F2d : Hid (FrS L L w ((W1.setCell ⟨L.yb, l / 2, none⟩ (.int .i32 y)).setCell ⟨L.db, l / 2, none⟩ (.int .i32 (s.cuts.length : Int))).drew) := ((F1d.out.set (by rw [(S1d.out.1.wy trivial).2]; decide)).set (by rw [(S1d.out.1.dp trivial).2]; decide)).drew
    have HLV : Hid (∀ W, W.cell? ⟨L.sb, 9, none⟩ = some (.slice ca s.cuts.length cc) → Calls Try.prog 60 #[.pointer (some ⟨L.sb, 0, none⟩)] W fun e w' => e = .returned (.int .i64 (s.cuts.length : Int)) ∧ w' = W) := fun W hW => level_cell W _ _ _ _ hW
    have HPL : Hid (∀ W, Calls Try.prog 55 #[.int .i32 (l : Int)] W fun e w' => e = .returned (.int .i32 ((l / 2 : Nat) : Int)) ∧ w' = W) := fun W => place_any W l
    obtain ⟨C, hC⟩ : ∃ C, s.cuts.length = C := ⟨_, rfl⟩
    obtain ⟨P, hP⟩ : ∃ P, l / 2 = P := ⟨_, rfl⟩
    have HCP : Hid (s.cuts.length = C ∧ l / 2 = P) := ⟨hC, hP⟩
    rw [hC] at c9 c9d S2d F2d HLV hc
    rw [hP] at y0 x0 y1 x1 zy zyd zd zdd u0 u1 uz uzd S2d F2d HPL hp hp1
    have hw32 : IntKind.i32.wrap (C : Int) = (C : Int) := by rw [IntKind.wrap_i32]; omega
    clear T1 hcv hC hP S1d F1d
    go_upto_region 4 with fail
    go_cut [] (fun wx => wx = ((W1.setCell ⟨L.yb, P, none⟩ (.int .i32 y)).setCell ⟨L.db, P, none⟩ (.int .i32 (C : Int))).drew)
    case first =>
      go_region_with (first | (go_at_call 55; refine (HPL.out _).mono ?_; rintro e w' ⟨rfl, hw⟩; obtain rfl := hw.symm) | (go_at_call 60; refine (HLV.out _ (by assumption)).mono ?_; rintro e w' ⟨rfl, hw⟩; obtain rfl := hw.symm))
      all_goals
        go_wp2_with fail
        go_meet
        case rel => rfl
    case rest =>
      subst hcut
      clear y0 x0 y1 x1 zy zyd zd zdd u0 u1 uz uzd c9 c9d c5 c6 d5 d6 hw32
      generalize ((W1.setCell ⟨L.yb, P, none⟩ (.int .i32 y)).setCell ⟨L.db, P, none⟩ (.int .i32 (C : Int))).drew = W2 at S2d F2d ⊢
      obtain ⟨S2, hS2⟩ : ∃ S2, ({ s with truth := (s.truth.set l 1).set (opp l) (-1), why := s.why.set P y, depth := s.depth.set P (C : Int) } : St) = S2 := ⟨_, rfl⟩
      have e2 : SB = { S2 with trail := S2.trail ++ [l] } := by rw [← HSB.out, ← hS2]; unfold believeP; rw [HCP.out.1, HCP.out.2]
      have e3 : S2.trail.length = s.trail.length := by rw [← hS2]
      rw [hS2] at S2d
      clear hS2
      rw [← e3] at hf
      obtain ⟨i0, hi0, hz0, hz1, hz2⟩ := info70
      obtain ⟨ta, tc, htv⟩ := (S2d.out.1.ta trivial).form
      have c7 : W2.cell? ⟨L.sb, 7, none⟩ = some (.slice ta S2.trail.length tc) := by have := S2d.out.cell 7; simp only [stC, htv] at this; exact this
      have HW : Hid (SAt (W2.alloc (.cells #[.int .i32 (l : Int)] 70)) L n S2) := S2d.out.alloc _
      have HF : Hid (Fr (fun _ => True) W2 (W2.alloc (.cells #[.int .i32 (l : Int)] 70))) := (Fr.refl _ W2).alloc _
      have OW : Hid ((W2.alloc (.cells #[.int .i32 (l : Int)] 70)).ownsRow 0 70 1 (.slice ta S2.trail.length tc) S2.trail.length (v32 S2.trail)) := by rw [← htv]; exact (HW.out.1.ta trivial).1
      have hmx : S2.trail.length + 1 ≤ maxLen := by unfold maxLen; omega
      have hby : (S2.trail.length + 1) * 4 ≤ 140737488355328 := by omega
      have HP : Hid (∀ (v4 : Value) (w9 : World), w9.ownsRow 0 70 1 v4 (S2.trail.length + 1) (v32 S2.trail ++ [.int .i32 (l : Int)]) → (W2.alloc (.cells #[.int .i32 (l : Int)] 70)).grownBy w9 (Value.slice ta S2.trail.length tc).ownBlock → (v4.ownBlock = (Value.slice ta S2.trail.length tc).ownBlock ∨ v4.ownBlock = some (W2.alloc (.cells #[.int .i32 (l : Int)] 70)).heap.size) →
          ∃ g cap, v4 = .slice (some ⟨g, 0, none⟩) (S2.trail.length + 1) cap ∧ w9.cell? ⟨L.sb, 7, none⟩ = some (.slice ta S2.trail.length tc) ∧ w9.frozen? ⟨L.sb, 7, none⟩ = false ∧ ∃ tv own, SAt (w9.setCell ⟨L.sb, 7, none⟩ (.slice (some ⟨g, 0, none⟩) (S2.trail.length + 1) cap)) { L with tv := tv, own := own } n { S2 with trail := S2.trail ++ [l] } ∧ FrS L { L with tv := tv, own := own } w (w9.setCell ⟨L.sb, 7, none⟩ (.slice (some ⟨g, 0, none⟩) (S2.trail.length + 1) cap))) := by
        intro v4 w9 ho hg hat
        rcases ho.2 with ⟨_, q⟩ | ⟨g, cap, cur, e, q⟩
        · omega
        subst e
        rw [← htv] at hg hat
        obtain ⟨k1, k2, k3, k4⟩ := HW.out.app_trail HF.out ho hg (by
          rcases hat with q | q
          · exact .inl q.symm
          · exact .inr (Option.some.inj q)) hl hf
        exact ⟨g, cap, rfl, by rw [k1, htv], k2, _, _, k3, F2d.out.trans k4⟩
      rw [← e2] at HP
      generalize S2.trail.length = T at c7 OW hmx hby HP
      clear htv HW HF e3 hf HCP e2 HSB
      go_wp2_with (at_builtin; refine wpList_append_own_at _ rfl _ _ 44 rfl 0 70 i0 _ 1 4 Try.underlying44 hi0 hz0 hz1 hz2 rfl (by decide) (.slice ta T tc) T _ rfl OW.out ⟨W2.heap.size, 0, none⟩ 1 1 [.int .i32 (l : Int)] rfl rfl (World.news_of_block (heap_new rfl)) (one1 rfl) hmx hby (Nat.zero_le _) ?_; intro v4 w9 ho9 hg9 _ hat9; obtain ⟨g, cap4, rfl, q1, q2, q3⟩ := HP.out v4 w9 ho9 hg9 hat9; have Q3 : Hid (∃ tv own, SAt (w9.setCell ⟨L.sb, 7, none⟩ (.slice (some ⟨g, 0, none⟩) (T + 1) cap4)) { L with tv := tv, own := own } n SB ∧ FrS L { L with tv := tv, own := own } w (w9.setCell ⟨L.sb, 7, none⟩ (.slice (some ⟨g, 0, none⟩) (T + 1) cap4))) := q3; clear ho9 hg9 hat9 q3)
      go_ret
      exact ⟨rfl, Q3.out⟩

end Go.Proofs.Ytbicefgjompnoaa.Sx
/- The store: begin, if look does what it should. -/
namespace Go.Proofs.Ytbicefgjompnoaa.Sx
open Go.RowKit Go.Sort

/-- what begin comes to -/
def BegS (w : World) (L : Ly) (n : Nat) (I : St → Prop) (s : St) (e : Ending) (w' : World) : Prop :=
  (0 < s.empty ∧ StPost w L n s (.bool false) e w') ∨ (s.empty = 0 ∧ (singlesP s s.single).2 = false ∧ StPost w L n (singlesP s s.single).1 (.bool false) e w') ∨ (s.empty = 0 ∧ (singlesP s s.single).2 = true ∧ ∃ k r, followS k (singlesP s s.single).1 = some r ∧ (r.2 = -1 → I r.1) ∧ StPost w L n r.1 (.bool (decide (r.2 = -1))) e w')

/-- what the walk through the rows of one literal keeps -/
structure SgOK (n : Nat) (s t : St) : Prop where
  tr : TrOK n t
  rows : t.rows = s.rows
  single : t.single = s.single
  cuts : t.cuts = s.cuts
  done : t.done ≤ t.trail.length

set_option maxRecDepth 100000 in
set_option maxHeartbeats 4000000 in
theorem begin_any (w : World) (L : Ly) (n : Nat) (s : St) (I : St → Prop) (HL : LookOK n I) (h : SAt w L n s) (ht : TrOK n s) (hs : ∀ r ∈ s.single, ∃ l rest, s.rows[r]? = some (some (l :: rest)) ∧ l < 2 * n) (hc : s.cuts.length ≤ 1000) (hd : s.done ≤ s.trail.length) (hI : (singlesP s s.single).2 = true → I (singlesP s s.single).1) (hem : s.empty ≤ 1000000000000) (hsl : s.single.length ≤ 1000000000000) :
    Calls Try.prog 59 #[.pointer (some ⟨L.sb, 0, none⟩)] w (BegS w L n I s) := by
  have mo := follows
  have hn := h.2.n_
  have HS : Hid (SAt w L n s) := h
  have c2 : w.cell? ⟨L.sb, 2, none⟩ = some (.int .i64 (s.empty : Int)) := h.cell 2
  by_cases he : 0 < s.empty
  · have e1 : (0 : Int) < (s.empty : Int) := by omega
    clear h hs hI ht
    go_enter Try.func59, Try.ntmps59
    go_wp2_with fail
    go_ret
    exact .inl ⟨he, rfl, L, HS.out, FrS.refl _ _⟩
  have he0 : s.empty = 0 := by omega
  rw [he0] at c2
  obtain ⟨sa, sc, hsv⟩ := (h.1.si trivial).form
  obtain ⟨ra, rc, hrv⟩ := (h.1.ro trivial).form
  have c1 : w.cell? ⟨L.sb, 1, none⟩ = some (.slice sa s.single.length sc) := by have := h.cell 1; simp only [stC, hsv] at this; exact this
  obtain ⟨R, hR⟩ : ∃ R, singlesP s s.single = R := ⟨_, rfl⟩
  have HR0 : Hid (singlesP s (s.single.drop 0) = R) := hR
  have HI : Hid (R.2 = true → I R.1) := by rw [← hR]; exact hI
  have HPO : Hid (∀ e w', ((R.2 = false ∧ StPost w L n R.1 (.bool false) e w') ∨ (R.2 = true ∧ ∃ k r, followS k R.1 = some r ∧ (r.2 = -1 → I r.1) ∧ StPost w L n r.1 (.bool (decide (r.2 = -1))) e w')) → BegS w L n I s e w') := by
    intro e w' q
    unfold BegS
    rw [hR]
    rcases q with q | q
    · exact .inr (.inl ⟨he0, q⟩)
    · exact .inr (.inr ⟨he0, q⟩)
  have HSV : Hid (L.sv = .slice sa s.single.length sc) := hsv
  have HRV : Hid (L.rv = .slice ra s.rows.length rc) := hrv
  have HSI : Hid (∀ r ∈ s.single, ∃ l rest, s.rows[r]? = some (some (l :: rest)) ∧ l < 2 * n) := hs
  have HG0 : Hid (SgOK n s s) := ⟨ht, rfl, rfl, rfl, hd⟩
  have HCU : Hid (s.cuts.length ≤ 1000) := hc
  have HW0 : Hid (SAt w { L with tv := L.tv, own := L.own } n s) := h
  have HF0 : Hid (FrS L { L with tv := L.tv, own := L.own } w w) := FrS.refl L w
  clear h hs hI ht hsv hrv hR hc hd HS
  go_enter Try.func59, Try.ntmps59
  go_wp2_with fail
  go_loopg [15] (s.single.length) (fun k s15 wr => ∃ (j : Nat) (t : St) (tv : Value) (own : Nat → Nat × Nat), s15 = .int .i64 (j : Int) ∧ j + k = s.single.length ∧ Hid (SAt wr { L with tv := tv, own := own } n t) ∧ Hid (FrS L { L with tv := tv, own := own } w wr) ∧ Hid (SgOK n s t) ∧ Hid (singlesP t (s.single.drop j) = R))
  case atStart => exact ⟨0, s, L.tv, L.own, rfl, by omega, HW0, HF0, HG0, HR0⟩
  case round =>
    clear HW0 HF0 HG0 HR0 c1 c2
    obtain ⟨j, t, tv, own, rfl, hjk, HS, HF, HG, HR⟩ := hrel
    by_cases hj : j < s.single.length
    · obtain ⟨k, rfl⟩ : ∃ k, gk = k + 1 := ⟨gk - 1, by omega⟩
      obtain ⟨r, hr⟩ : ∃ r, s.single[j] = r := ⟨_, rfl⟩
      have hrj : s.single[j]? = some r := by rw [List.getElem?_eq_getElem hj, hr]
      obtain ⟨l, rest, hrow, hl⟩ := HSI.out r (hr ▸ List.getElem_mem hj)
      have hrow2 : t.rows[r]? = some (some (l :: rest)) := by rw [HG.out.rows]; exact hrow
      have hrl : r < s.rows.length := (List.getElem?_eq_some_iff.1 hrow).1
      have hrs := HS.out.2.rows
      rw [HG.out.rows] at hrs
      obtain ⟨sg, hsg, _, cs, _⟩ := (show OwnR wr own (3, 0) 21 1 (.slice sa s.single.length sc) s.single.length (v32 s.single) from by have := HS.out.1.si trivial; rw [HG.out.single] at this; rw [← HSV.out]; exact this).cell1 (v32_get hrj)
      subst hsg
      obtain ⟨v, hv, cb, d, hvv, hcb, hlr, htk, hds⟩ := HS.out.1.rl r trivial _ hrow2
      subst hvv
      have hv2 : L.rr[r]? = some (.slice (some ⟨cb, 0, none⟩) (l :: rest).length d.size) := hv
      obtain ⟨rg, hrg, _, crr, _⟩ := (show OwnR wr own (2, 0) 44 1 (.slice ra s.rows.length rc) s.rows.length L.rr from by have := HS.out.1.ro trivial; rw [HG.out.rows] at this; rw [← HRV.out]; exact this).cell1 hv2
      subst hrg
      have cl := (HS.out.rowcell hrow2 hv (i := 0) (x := l) rfl).1
      have c0 : wr.cell? ⟨L.sb, 0, none⟩ = some (.slice (some ⟨rg, 0, none⟩) s.rows.length rc) := by have := HS.out.cell 0; simp only [stC, HRV.out] at this; exact this
      have hd : s.single.drop j = r :: s.single.drop (j + 1) := by rw [List.drop_eq_getElem_cons hj, hr]
      have hu := HR.out
      rw [hd] at hu
      unfold singlesP at hu
      have hgr : t.rows.getD r none = some (l :: rest) := by rw [List.getD_eq_getElem?_getD, hrow2]; rfl
      rw [hgr] at hu
      simp only at hu
      have HB := believe_any wr { L with tv := tv, own := own } n t l (r : Int) HS.out hl (by rw [HG.out.cuts]; exact HCU.out) (fun q => HG.out.tr.room hl q)
      have j0 : (0 : Int) ≤ (j : Int) := by omega
      have j1 : (j : Int) < (s.single.length : Int) := by omega
      have r1 : (r : Int) < (s.rows.length : Int) := by omega
      have g1 : (0 : Int) < (rest.length : Int) + 1 := by omega
      have g2 : (0 : Int) < (((l :: rest).length : Nat) : Int) := by simp <;> omega
      clear HR hd hgr hrow hrow2 hv hv2 hlr htk hcb hrj hr
      by_cases h0 : t.truth.getD l 0 = 0
      · rw [if_pos h0] at hu
        have HR2 : Hid (singlesP (believeP t l (r : Int)) (s.single.drop (j + 1)) = R) := hu
        have HB2 : Hid (Calls Try.prog 40 #[.pointer (some ⟨L.sb, 0, none⟩), .int .i32 (l : Int), .int .i32 (r : Int)] wr fun e w' => e = .returned (.bool true) ∧ ∃ tv own, SAt w' { L with tv := tv, own := own } n (believeP t l (r : Int)) ∧ FrS L { L with tv := tv, own := own } w w') := HB.mono fun e w' q => by
          rcases q with ⟨q, _⟩ | ⟨_, q1, tv1, own1, q2, q3⟩
          · exact absurd h0 q
          · exact ⟨q1, tv1, own1, q2, HF.out.trans q3⟩
        have HG2 : Hid (SgOK n s (believeP t l (r : Int))) := ⟨HG.out.tr.believe hl h0 _, HG.out.rows, HG.out.single, HG.out.cuts, by have := HG.out.done; show t.done ≤ (t.trail ++ [l]).length; simp; omega⟩
        clear HB hu HS HF HG h0
        go_wp2_with (go_at_call 40; refine HB2.out.mono ?_; rintro e w2 ⟨rfl, tv1, own1, q2, q3⟩)
        have Q2 : Hid (SAt w2 { L with tv := tv1, own := own1 } n (believeP t l (r : Int))) := q2
        have Q3 : Hid (FrS L { L with tv := tv1, own := own1 } w w2) := q3
        clear q2 q3 HB2
        go_wp2_with fail
        go_roundg k
        case measure => omega
        case rel => exact ⟨j + 1, _, tv1, own1, by simp, by omega, Q2, Q3, HG2, HR2⟩
      · rw [if_neg h0] at hu
        by_cases hp : 0 < t.truth.getD l 0
        · rw [if_pos hp] at hu
          have HR2 : Hid (singlesP t (s.single.drop (j + 1)) = R) := hu
          have HB2 : Hid (Calls Try.prog 40 #[.pointer (some ⟨L.sb, 0, none⟩), .int .i32 (l : Int), .int .i32 (r : Int)] wr fun e w' => e = .returned (.bool true) ∧ w' = wr) := HB.mono fun e w' q => by
            rcases q with ⟨_, q1, q2⟩ | ⟨q, _⟩
            · rw [decide_eq_true hp] at q1; exact ⟨q1, q2⟩
            · exact absurd q h0
          clear HB hu h0 hp
          go_wp2_with (go_at_call 40; refine HB2.out.mono ?_; rintro e w2 ⟨rfl, hw⟩; obtain rfl := hw.symm)
          go_roundg k
          case measure => omega
          case rel => exact ⟨j + 1, t, tv, own, by simp, by omega, HS, HF, HG, HR2⟩
        · rw [if_neg hp] at hu
          have HR2 : Hid ((t, false) = R) := hu
          have HB2 : Hid (Calls Try.prog 40 #[.pointer (some ⟨L.sb, 0, none⟩), .int .i32 (l : Int), .int .i32 (r : Int)] wr fun e w' => e = .returned (.bool false) ∧ w' = wr) := HB.mono fun e w' q => by
            rcases q with ⟨_, q1, q2⟩ | ⟨q, _⟩
            · rw [decide_eq_false hp] at q1; exact ⟨q1, q2⟩
            · exact absurd q h0
          clear HB hu h0 hp
          go_wp2_with (go_at_call 40; refine HB2.out.mono ?_; rintro e w2 ⟨rfl, hw⟩; obtain rfl := hw.symm)
          go_ret
          exact HPO.out _ _ (.inl ⟨by rw [← HR2.out], rfl, _, by rw [← HR2.out]; exact HS.out, HF.out⟩)
    · have j1 : ¬ (j : Int) < (s.single.length : Int) := by omega
      obtain rfl : j = s.single.length := by omega
      have hu := HR.out
      rw [List.drop_length] at hu
      have HR2 : Hid ((t, true) = R) := hu
      have hIt : I t := by have := HI.out (by rw [← HR2.out]); rw [← HR2.out] at this; exact this
      have HFL : Hid (Calls _ _ _ _ _) := follow2_any wr { L with tv := tv, own := own } n t I HL HS.out hIt HG.out.done
      clear hu HR hIt
      go_wp2_with (go_at_call 41; refine HFL.out.mono ?_; rintro e w2 ⟨m, ⟨r1, r2⟩, q1, q2, rfl, L2, q3, q4⟩)
      have e1 : (r2 == -1) = decide (r2 = -1) := by
        by_cases q : r2 = -1
        · rw [q]; rfl
        · rw [decide_eq_false q, beq_eq_false_iff_ne]; exact q
      have HX : Hid (BegS w L n I s (.returned (.bool (decide (r2 = -1)))) w2) := HPO.out _ _ (.inr ⟨by rw [← HR2.out], m, (r1, r2), by rw [← HR2.out]; exact q1, q2, rfl, L2, q3, HF.out.trans q4⟩)
      clear q1 q2 q3 q4 HFL
      go_wp2_with fail
      go_ret
      first | exact HX.out | (have := HX.out; rw [← e1] at this; exact this)

end Go.Proofs.Ytbicefgjompnoaa.Sx
