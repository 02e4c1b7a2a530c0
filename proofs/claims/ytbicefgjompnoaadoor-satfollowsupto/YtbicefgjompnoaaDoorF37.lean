/- The program: Follow. -/
import Derived.Test.YtbicefgjompnoaaDoorF03
import Derived.Test.YtbicefgjompnoaaDoorF05
import Derived.Test.YtbicefgjompnoaaDoorF29
import Derived.Test.YtbicefgjompnoaaDoorF35
import Derived.Test.YtbicefgjompnoaaDoorF36
namespace Go.Proofs.YtbicefgjompnoaaDoor.Sx
open Go.RowKit Go.Sort

/-- what Follow comes to -/
def SfPost (w : World) (N : Nat) (C : List (List Int)) (G : List Int) (e : Ending) (w' : World) : Prop :=
  Fr (fun _ => True) w w' ∧ ((Cannot C G ∧ e = .returned (.tuple #[.slice none 0 0, .bool false, .nilIface])) ∨
    (¬ Cannot C G ∧ ∃ b d, e = .returned (.tuple #[.slice (some ⟨b, 0, none⟩) d.length d.length, .bool true, .nilIface]) ∧ w.heap.size ≤ b ∧ IRow w' b d ∧ ∀ v, Ends N C G (some v) → d = trueP v))

theorem NmAt.low {w w' : World} {n pb fb base : Nat} {s : List Nat × List Nat} (h : NmAt w n pb fb base s) (f : Fr (fun _ => True) w w') : NmAt w' n pb fb base s := h.of f

set_option maxRecDepth 100000 in
set_option maxHeartbeats 8000000 in
theorem sfollow_any (w : World) (N lo : Nat) (cv gv : Value) (C : List (List Int)) (G : List Int) (hN : N ≤ 16777216) (hlo : lo ≤ w.heap.size) (hc : ClsAt w lo cv C) (hg : IntsAt w lo gv G) (hCl : C.length ≤ 33554432) (hCx : ∀ x ∈ C, x.length ≤ 4294967296) (hGl : G.length ≤ 4294967296) (hf : faultG N C G = 0) (hL : ∀ c ∈ C, ∀ l ∈ c, LitN N l) (hLG : ∀ l ∈ G, LitN N l) :
    Calls Tryd.prog 5 #[.int .i64 (N : Int), cv, gv] w (SfPost w N C G) := by
  have mo := follows
  have HF : Hid (Calls _ _ _ _ _) := fault2_any w N lo cv gv C G hc hg
  rw [hf, show errV 0 = .nilIface from rfl] at HF
  obtain ⟨ca, cc, hcv, _⟩ := hc.ex
  obtain ⟨ga, gc, hgv, _⟩ := hg.ex
  subst hcv
  subst hgv
  have HC : Hid (ClsAt w lo (.slice ca C.length cc) C) := hc
  have HGV : Hid (IntsAt w lo (.slice ga G.length gc) G) := hg
  have HL : Hid (∀ c ∈ C, ∀ l ∈ c, LitN N l) := hL
  have HLG : Hid (∀ l ∈ G, LitN N l) := hLG
  have HCX : Hid (∀ x ∈ C, x.length ≤ 4294967296) := hCx
  obtain ⟨g, hgs⟩ : ∃ g, w.heap.size = g := ⟨_, rfl⟩
  obtain ⟨W0, hW0⟩ : ∃ W0, w.alloc (.cells #[.slice ga G.length gc] 23) = W0 := ⟨_, rfl⟩
  have hF0 : Fr (fun _ => True) w W0 := by rw [← hW0]; exact (Fr.refl _ w).alloc _
  have hB0 : W0.heap[g]? = some (.cells #[.slice ga G.length gc] 23 (0, 0)) := by rw [← hW0]; exact heap_new hgs
  have hO : ClsAt W0 (g + 1) (.slice (some ⟨g, 0, none⟩) 1 1) [G] := by
    refine ⟨⟨some ⟨g, 0, none⟩, 1, rfl, .inr ⟨⟨g, 0, none⟩, rfl, Nat.lt_succ_self g, fun i c hi => ?_⟩⟩, by simp⟩
    have hi0 : i = 0 := by
      have := (List.getElem?_eq_some_iff.1 hi).1
      simp at this; exact this
    subst hi0
    have e : G = c := by simpa using hi
    subst e
    exact ⟨.slice ga G.length gc, by rw [show (⟨g, 0, none⟩ : Addr).add 0 = ⟨g, 0, none⟩ from rfl, block_cell hB0]; rfl, (HGV.out.of (hF0.mono fun _ _ => trivial)).up (by omega)⟩
  have hC0 : ClsAt W0 (g + 1) (.slice ca C.length cc) C := (HC.out.of (hF0.mono fun _ _ => trivial)).up (by omega)
  have hLO : ∀ c ∈ [G], ∀ x ∈ c, LitN N x := fun c hc x hx => by rw [List.mem_singleton.1 hc] at hx; exact hLG x hx
  have hNA := name_any W0 N (g + 1) _ _ C [G] hN (block_lt hB0) hC0 hO hL hLO
  obtain ⟨hNm, hNC, hNO⟩ := named hL hLO
  obtain ⟨s, hs⟩ : ∃ s, hearC (hearC (List.replicate (N + 1) 0, []) C) [G] = s := ⟨_, rfl⟩
  rw [hs] at hNA hNm hNC hNO
  have HNA : Hid (Calls _ _ _ _ _) := hNA
  have HNM : Hid (NmOK N s) := hNm
  have HNC : Hid (∀ c ∈ C, ∀ x ∈ c, Nm N s x) := hNC
  have HNG : Hid (∀ x ∈ G, Nm N s x) := hNO G (by simp)
  have HF0 : Hid (Fr (fun _ => True) w W0) := hF0
  have HW0 : Hid (w.alloc (.cells #[.slice ga G.length gc] 23) = W0 ∧ w.heap.size = g) := ⟨hW0, hgs⟩
  clear hNA hNm hNC hNO hs hLO hO hC0 hB0 hF0 hc hg hL hLG hCx hf hW0
  go_enter Tryd.func5, Tryd.ntmps5
  go_wp2_with fail
  go_at_call 13
  refine HF.out.mono ?_
  rintro e w1 ⟨rfl, hw⟩
  replace hw := hw.symm
  subst hw
  clear HF
  go_wp2_with fail
  rw [HW0.out.1]
  go_at_call 14
  refine HNA.out.mono ?_
  rintro e w1 ⟨pb, fb, base, rfl, hA1, hpb, hF1⟩
  have HA1 : Hid (NmAt w1 N pb fb base s) := hA1
  have HF1 : Hid (Fr (fun _ => True) w w1) := HF0.out.trans hF1
  have HST : Hid (Calls _ _ _ _ _) := store_any w1 N pb fb base lo s C (.slice ca C.length cc) hN hA1 (HC.out.of (HF1.out.mono fun _ _ => trivial)) (by omega) (fun x hx => ⟨HCX.out x hx, fun y hy => HNC.out x hx y hy⟩)
  clear HNA HF0 hF1 hA1 hpb
  go_wp2_with fail
  go_at_call 15
  refine HST.out.mono ?_
  rintro e w2 ⟨cs, L, rfl, hcsl, hcss, hA2, hF2, hown2⟩
  have hSO := newP_SO0 s.2.length HNM.out rfl HNC.out hcsl (by omega) hcss
  have hCor := Cor.start s.2.length HNC.out hcsl hcss
  have hNo := addAll_some cs (newP s.2.length) (fun r => by simp [newP])
  obtain ⟨t0, ht0⟩ : ∃ t0, addAll (newP s.2.length) cs = t0 := ⟨_, rfl⟩
  rw [ht0] at hA2 hSO hCor hNo
  have HSO : Hid (SO s.2.length C.length t0) := hSO
  have HCOR : Hid (Cor N s C t0) := hCor
  have HNO : Hid (∀ r : Nat, t0.rows[r]? ≠ some none) := hNo
  obtain ⟨gl, hgl⟩ : ∃ gl, G.map (litV s) = gl := ⟨_, rfl⟩
  have hglt : ∀ l ∈ gl, l < 2 * s.2.length := fun l hl => by
    rw [← hgl] at hl
    obtain ⟨x, hx, rfl⟩ := List.mem_map.1 hl
    exact (told_of HNM.out (HNG.out x hx)).2
  have HGLT : Hid (∀ l ∈ gl, l < 2 * s.2.length) := hglt
  have hgll : gl.length = G.length := by rw [← hgl]; simp
  have hHLT : Hid (Calls _ _ _ _ _) := lits_any w2 N pb fb base lo s (.slice ga G.length gc) G hN (HA1.out.of hF2) (HGV.out.of ((HF1.out.trans hF2).mono fun _ _ => trivial)) hGl (fun x hx => HNG.out x hx)
  rw [hgl] at hHLT
  have HLT : Hid (Calls _ _ _ _ _) := hHLT.out
  have HA2 : Hid (SAt w2 L s.2.length t0) := hA2
  have HF2 : Hid (Fr (fun _ => True) w1 w2) := hF2
  have HOW2 : Hid (∀ b, b < w1.heap.size → L.own b = (0, 0)) := hown2
  have HGL : Hid (G.map (litV s) = gl) := hgl
  clear HST hA2 hF2 hown2 hcsl hcss hSO hCor hNo ht0 hgl hHLT hglt
  go_wp2_with fail
  go_at_call 16
  refine HLT.out.mono ?_
  rintro e w3 ⟨rfl, hr3, hF3⟩
  obtain ⟨g3, hg3⟩ : ∃ g3, w2.heap.size = g3 := ⟨_, rfl⟩
  rw [hg3] at hr3 ⊢
  obtain ⟨L3, hL3⟩ : ∃ L3, nrm L w2.heap.size = L3 := ⟨_, rfl⟩
  have hA3 : SAt w3 L3 s.2.length t0 := by rw [← hL3]; exact HA2.out.frl hF3 (fun b q => absurd trivial q)
  have hsb3 : L3.sb = L.sb := by rw [← hL3]; rfl
  have HOW3 : Hid (∀ b, b < w1.heap.size → L3.own b = (0, 0)) := fun b hb => by rw [← hL3]; exact nrm_zero fun _ => HOW2.out b hb
  have hog3 : L3.own g3 = (0, 0) := by rw [← hL3, ← hg3]; exact nrm_new (Nat.le_refl _)
  have HR3 : Hid (LRow w3 g3 gl.toArray) := hr3
  have HF3 : Hid (Fr (fun _ => True) w1 w3) := HF2.out.trans hF3
  have hg3l : g3 < w3.heap.size := block_lt hr3
  have hw13 : w1.heap.size ≤ g3 := by rw [← hg3]; exact HF2.out.size
  rw [← hsb3, ← hgll]
  have HA3 : Hid (SAt w3 L3 s.2.length t0) := hA3
  obtain ⟨R, hR⟩ : ∃ R, givP t0 gl = R := ⟨_, rfl⟩
  have HR0 : Hid (givP t0 (gl.drop 0) = R) := hR
  have HRR : Hid (givP t0 gl = R) := hR
  have HT0 : Hid (TrOK s.2.length t0 ∧ t0.cuts = []) := ⟨HSO.out.F.I.tr, HSO.out.cu⟩
  clear HLT hr3 hF3 hA3 hR hL3 HA2 HF2 HOW2 hsb3
  go_wp2_with fail
  go_loopg [34] (gl.length) (fun k s34 wr => ∃ (j : Nat) (t : St) (L1 : Ly), s34 = .int .i64 (j : Int) ∧ j + k = gl.length ∧ Hid (SAt wr L1 s.2.length t) ∧ Hid (FrS L3 L1 w3 wr) ∧ Hid (TrOK s.2.length t ∧ t.cuts = []) ∧ Hid (givP t (gl.drop j) = R))
  case atStart => exact ⟨0, t0, L3, rfl, by omega, HA3, FrS.refl _ _, HT0, HR0⟩
  case round =>
    clear HA3 HR0 HT0
    obtain ⟨j, t, L1, rfl, hjk, HS, HFS, HT, HR⟩ := hrel
    have hsb : L1.sb = L3.sb := HFS.out.sb
    by_cases hj : j < gl.length
    · obtain ⟨k, rfl⟩ : ∃ k, gk = k + 1 := ⟨gk - 1, by omega⟩
      obtain ⟨l, hl⟩ : ∃ l, gl[j] = l := ⟨_, rfl⟩
      have hl2 : l < 2 * s.2.length := HGLT.out l (hl ▸ List.getElem_mem hj)
      have hrow : LRow wr g3 gl.toArray := (HFS.out.block g3 hg3l hog3).trans HR3.out
      have cj : wr.cell? ⟨g3, j, none⟩ = some (.int .i32 (l : Int)) := by
        have := hrow.cell (i := j) (by simpa using hj)
        rw [this, getElem!_pos gl.toArray j (by simpa using hj)]
        simp [hl]
      have hd : gl.drop j = l :: gl.drop (j + 1) := by rw [List.drop_eq_getElem_cons hj, hl]
      have hu := HR.out
      rw [hd] at hu
      unfold givP at hu
      have hB := believe_any wr L1 s.2.length t l (-1) HS.out hl2 (by rw [HT.out.2]; simp) (fun q => HT.out.1.room hl2 q)
      rw [hsb] at hB
      have HB : Hid (Calls _ _ _ _ _) := hB
      have j0 : (0 : Int) ≤ (j : Int) := by omega
      have j1 : (j : Int) < (gl.length : Int) := by omega
      clear HR hd hB hrow hl hsb
      by_cases h0 : t.truth.getD l 0 = 0
      · rw [if_pos h0] at hu
        have HR2 : Hid (givP (believeP t l (-1)) (gl.drop (j + 1)) = R) := hu
        have HB2 : Hid (Calls Tryd.prog 17 #[.pointer (some ⟨L3.sb, 0, none⟩), .int .i32 (l : Int), .int .i32 (-1)] wr fun e w' => e = .returned (.bool true) ∧ ∃ L2, SAt w' L2 s.2.length (believeP t l (-1)) ∧ FrS L3 L2 w3 w') := HB.out.mono fun e w' q => by
          rcases q with ⟨q, _⟩ | ⟨_, q1, tv1, own1, q2, q3⟩
          · exact absurd h0 q
          · exact ⟨q1, _, q2, HFS.out.trans q3⟩
        have HT2 : Hid (TrOK s.2.length (believeP t l (-1)) ∧ (believeP t l (-1)).cuts = []) := ⟨HT.out.1.believe hl2 h0 _, HT.out.2⟩
        clear HB hu HS HFS HT h0
        go_wp2_with (go_at_call 17; refine HB2.out.mono ?_; rintro e w4 ⟨rfl, L2, q2, q3⟩)
        have Q2 : Hid (SAt w4 L2 s.2.length (believeP t l (-1))) := q2
        have Q3 : Hid (FrS L3 L2 w3 w4) := q3
        clear q2 q3 HB2
        go_wp2_with fail
        go_roundg k
        case measure => omega
        case rel => exact ⟨j + 1, _, L2, by simp, by omega, Q2, Q3, HT2, HR2⟩
      · rw [if_neg h0] at hu
        by_cases hp : 0 < t.truth.getD l 0
        · rw [if_pos hp] at hu
          have HR2 : Hid (givP t (gl.drop (j + 1)) = R) := hu
          have HB2 : Hid (Calls Tryd.prog 17 #[.pointer (some ⟨L3.sb, 0, none⟩), .int .i32 (l : Int), .int .i32 (-1)] wr fun e w' => e = .returned (.bool true) ∧ w' = wr) := HB.out.mono fun e w' q => by
            rcases q with ⟨_, q1, q2⟩ | ⟨q, _⟩
            · rw [decide_eq_true hp] at q1; exact ⟨q1, q2⟩
            · exact absurd q h0
          clear HB hu h0 hp
          go_wp2_with (go_at_call 17; refine HB2.out.mono ?_; rintro e w4 ⟨rfl, hw⟩; obtain rfl := hw.symm)
          go_roundg k
          case measure => omega
          case rel => exact ⟨j + 1, t, L1, by simp, by omega, HS, HFS, HT, HR2⟩
        · rw [if_neg hp] at hu
          have HR2 : Hid ((t, false) = R) := hu
          have HB2 : Hid (Calls Tryd.prog 17 #[.pointer (some ⟨L3.sb, 0, none⟩), .int .i32 (l : Int), .int .i32 (-1)] wr fun e w' => e = .returned (.bool false) ∧ w' = wr) := HB.out.mono fun e w' q => by
            rcases q with ⟨_, q1, q2⟩ | ⟨q, _⟩
            · rw [decide_eq_false hp] at q1; exact ⟨q1, q2⟩
            · exact absurd q h0
          have HQ : Hid (SfPost w N C G (.returned (.tuple #[.slice none 0 0, .bool false, .nilIface])) wr) := by
            refine ⟨HF1.out.trans ⟨HFS.out.os.trans HF3.out.os, HFS.out.tape.trans HF3.out.tape, HFS.out.output.trans HF3.out.output, Nat.le_trans HF3.out.size HFS.out.size, fun b hb _ => (HFS.out.block b (Nat.lt_of_lt_of_le hb HF3.out.size) (HOW3.out b hb)).trans (HF3.out.block b hb trivial)⟩, .inl ⟨?_, rfl⟩⟩
            rw [HCOR.out.cannot HNM.out HSO.out.bb HNG.out, HGL.out]
            refine (giv_sem HSO.out HGLT.out).2.2.2 ?_
            rw [← givP_eq, HRR.out, ← HR2.out]
          clear HB hu h0 hp
          go_wp2_with (go_at_call 17; refine HB2.out.mono ?_; rintro e w4 ⟨rfl, hw⟩; obtain rfl := hw.symm)
          exact bodyPost_ret (v := .tuple #[.slice none 0 0, .bool false, .nilIface]) (by simp [results, Tryd.results5, go_sem]) rfl HQ.out
    · have j1 : ¬ (j : Int) < (gl.length : Int) := by omega
      obtain rfl : j = gl.length := by omega
      have hu := HR.out
      rw [List.drop_length] at hu
      have hRt : givP t0 gl = (t, true) := HRR.out.trans hu.symm
      have hBG := begin_says HSO.out (by omega) HNO.out HGLT.out hRt HS.out
      rw [hsb] at hBG
      have HBG : Hid (Calls _ _ _ _ _) := hBG
      clear hu HR hBG hRt HS HT
      go_wp2_with fail
      go_at_call 18
      refine HBG.out.mono ?_
      rintro e w4 ⟨b, u, L4, rfl, hS4, hF4, hno, hyes⟩
      have hF34 := HFS.out.trans hF4
      have HFA : Hid (Fr (fun _ => True) w1 w4) := ⟨hF34.os.trans HF3.out.os, hF34.tape.trans HF3.out.tape, hF34.output.trans HF3.out.output, Nat.le_trans HF3.out.size hF34.size, fun b hb _ => (hF34.block b (Nat.lt_of_lt_of_le hb HF3.out.size) (HOW3.out b hb)).trans (HF3.out.block b hb trivial)⟩
      have hsb4 : L4.sb = L3.sb := hF34.sb
      cases b with
      | false =>
        have HQ : Hid (SfPost w N C G (.returned (.tuple #[.slice none 0 0, .bool false, .nilIface])) w4) := by
          refine ⟨HF1.out.trans HFA.out, .inl ⟨?_, rfl⟩⟩
          rw [HCOR.out.cannot HNM.out HSO.out.bb HNG.out, HGL.out]
          exact hno rfl
        clear hno hyes hS4 hF4 hF34 HBG HFS
        go_wp2_with fail
        exact bodyPost_ret (v := .tuple #[.slice none 0 0, .bool false, .nilIface]) (by simp [results, Tryd.results5, go_sem]) rfl HQ.out
      | true =>
        obtain ⟨y1, y2, y3⟩ := hyes rfl
        have HY1 : Hid (¬ Cannot C G) := by
          show ¬ _
          rw [HCOR.out.cannot HNM.out HSO.out.bb HNG.out, HGL.out]
          exact y1
        have HY2 : Hid (TrOK s.2.length u) := y2
        have HY3 : Hid (∀ l, l ∈ u.trail ↔ NDer (Cl t0) (G.map (litV s)) l) := by rw [HGL.out]; exact y3
        obtain ⟨ta, tc, htv⟩ := (hS4.1.ta trivial).form
        have c7 : w4.cell? ⟨L3.sb, 7, none⟩ = some (.slice ta u.trail.length tc) := by have := hS4.cell 7; simp only [stC, htv] at this; rw [← hsb4]; exact this
        have hLA : LitsAt w4 w4.heap.size (.slice ta u.trail.length tc) u.trail := ⟨ta, tc, rfl, fun i l hi => by
          obtain ⟨g, hga, _, cj, _⟩ := (show OwnR w4 L4.own (8, 0) 45 1 (.slice ta u.trail.length tc) u.trail.length (v32 u.trail) from by rw [← htv]; exact hS4.1.ta trivial).cell1 (v32_get hi)
          exact ⟨g, hga, World.block_lt_of_cell? w4 _ cj, cj⟩⟩
        have hfew : u.trail.length ≤ N := Nat.le_trans hS4.2.few HNM.out.few
        have HTD : Hid (Calls _ _ _ _ _) := told_any w4 N pb fb base w4.heap.size s _ u.trail hN (HA1.out.of HFA.out) hLA (Nat.le_refl _) (by omega) y2.lt
        have HRG : Hid (∀ x ∈ u.trail.map (toldP s), -1073741824 ≤ x ∧ x ≤ 1073741824) := fun x hx => by
          obtain ⟨l, hl, rfl⟩ := List.mem_map.1 hx
          have := (told_lit HNM.out (y2.lt l hl)).1.1
          unfold LitN at this
          omega
        obtain ⟨g5, hg5⟩ : ∃ g5, w4.heap.size = g5 := ⟨_, rfl⟩
        have hgw : w.heap.size ≤ g5 := by rw [← hg5]; exact (HF1.out.trans HFA.out).size
        rw [hg5] at HTD
        have HG5 : Hid (w4.heap.size = g5) := hg5
        clear hno hyes hS4 hF4 hF34 HBG HFS y1 y2 y3 hLA htv hsb4 hg5
        go_wp2_with fail
        go_at_call 19
        refine HTD.out.mono ?_
        rintro e w5 ⟨rfl, hr5, hF5⟩
        have hST := sortA_any w5 g5 (u.trail.map (toldP s)) hr5 HRG.out (by simp; omega)
        have hml : (u.trail.map (toldP s)).length = u.trail.length := by simp
        rw [hml] at hST
        have HST : Hid (Calls _ _ _ _ _) := hST
        have HF5 : Hid (Fr (fun _ => True) w w5) := (HF1.out.trans HFA.out).trans hF5
        clear hST hr5 hF5 HTD
        go_wp2_with fail
        go_at_call 20
        refine HST.out.mono ?_
        rintro e w6 ⟨rfl, d, hr6, hp6, hs6, hF6⟩
        have hdl : d.length = u.trail.length := by rw [hp6.length_eq]; exact hml
        have HQ : Hid (SfPost w N C G (.returned (.tuple #[.slice (some ⟨g5, 0, none⟩) u.trail.length u.trail.length, .bool true, .nilIface])) w6) := by
          refine ⟨⟨hF6.os.trans HF5.out.os, hF6.tape.trans HF5.out.tape, hF6.output.trans HF5.out.output, Nat.le_trans HF5.out.size hF6.size, fun b hb _ => (hF6.block b (Nat.lt_of_lt_of_le hb HF5.out.size) (by omega)).trans (HF5.out.block b hb trivial)⟩, .inr ⟨HY1.out, g5, d, by rw [hdl], hgw, hr6, fun v hv => ?_⟩⟩
          exact told_true HNM.out HCOR.out HSO.out.bb HNG.out HY1.out hv HY2.out HY3.out hp6 hs6
        clear hr6 hp6 hs6 hF6 HST hdl
        go_wp2_with fail
        exact bodyPost_ret (v := .tuple #[.slice (some ⟨g5, 0, none⟩) u.trail.length u.trail.length, .bool true, .nilIface]) (by simp [results, Tryd.results5, go_sem]) rfl HQ.out

end Go.Proofs.YtbicefgjompnoaaDoor.Sx
/- The law: literals, whatever n is. -/
namespace Go.Proofs.YtbicefgjompnoaaDoor.Sx
open Go.RowKit Go.Sort

/-- what Literal says of whatever n -/
def isLitX (n l : Int) : Bool := decide (l ≠ 0) && (decide (IntKind.i64.wrap (-n) ≤ l) && decide (l ≤ n))
theorem isLitX_nat {n : Nat} (hn : n ≤ 16777216) (l : Int) : isLitX n l = isLit n l := by
  unfold isLitX isLit
  rw [show IntKind.i64.wrap (-(n : Int)) = -(n : Int) by rw [IntKind.wrap_i64]; omega]

set_option maxRecDepth 100000 in
set_option maxHeartbeats 1000000 in
theorem LiteralX_any (w : World) (n l : Int) : Calls Tryd.prog 24 #[.int .i64 n, .int .i64 l] w fun e w' => e = .returned (.bool (isLitX n l)) ∧ w' = w := by
  have mo := follows
  obtain ⟨m, hm⟩ : ∃ m, IntKind.i64.wrap (-n) = m := ⟨_, rfl⟩
  unfold isLitX
  rw [hm]
  by_cases h0 : l = 0
  · subst h0
    have e : (decide ((0 : Int) ≠ 0) && (decide (m ≤ 0) && decide (0 ≤ n))) = false := by simp
    rw [e]
    go_enter Tryd.func24, Tryd.ntmps24
    go_wp2_with fail
    go_ret
    exact ⟨rfl, rfl⟩
  · have h1 : (l != 0) = true := by simpa using h0
    by_cases h2 : m ≤ l
    · obtain ⟨b, hb⟩ : ∃ b, decide (l ≤ n) = b := ⟨_, rfl⟩
      have e : (decide (l ≠ 0) && (decide (m ≤ l) && decide (l ≤ n))) = b := by simp only [hb, decide_eq_true h0, decide_eq_true h2, Bool.true_and]
      rw [e]
      go_enter Tryd.func24, Tryd.ntmps24
      go_wp2_with fail
      go_ret
      exact ⟨rfl, rfl⟩
    · have e : (decide (l ≠ 0) && (decide (m ≤ l) && decide (l ≤ n))) = false := by simp only [decide_eq_false h2, Bool.false_and, Bool.and_false]
      rw [e]
      go_enter Tryd.func24, Tryd.ntmps24
      go_wp2_with fail
      go_ret
      exact ⟨rfl, rfl⟩

set_option maxRecDepth 100000 in
set_option maxHeartbeats 1000000 in
theorem literalsX_any (w : World) (n : Int) (lo : Nat) (v : Value) (l : List Int) (h : IntsAt w lo v l) : Calls Tryd.prog 7 #[.int .i64 n, v] w fun e w' => e = .returned (.bool (l.all (isLitX n))) ∧ w' = w := by
  have mo := follows
  obtain ⟨a, cc, rfl, hrow⟩ := h.ex
  have hbig := h.big
  have HR : Hid (l = [] ∨ ∃ p : Addr, a = some p ∧ p.block < lo ∧ ∀ i x, l[i]? = some x → w.cell? (p.add i) = some (.int .i64 x)) := hrow
  obtain ⟨R, hR⟩ : ∃ R, l.all (isLitX n) = R := ⟨_, rfl⟩
  rw [hR]
  clear h hrow
  go_enter Tryd.func7, Tryd.ntmps7
  go_wp2_with fail
  go_loopg [5] (l.length) (fun k s5 wr => ∃ j : Nat, s5 = .int .i64 (j : Int) ∧ j + k = l.length ∧ wr = w ∧ Hid ((l.drop j).all (isLitX n) = R))
  case atStart => exact ⟨0, rfl, by omega, rfl, hR⟩
  case round =>
    obtain ⟨j, rfl, hjk, rfl, HU⟩ := hrel
    by_cases hj : j < l.length
    · obtain ⟨k, rfl⟩ : ∃ k, gk = k + 1 := ⟨gk - 1, by omega⟩
      obtain ⟨x, hx⟩ : ∃ x, l[j] = x := ⟨_, rfl⟩
      obtain ⟨p, rfl, _, hp⟩ : ∃ p : Addr, a = some p ∧ p.block < lo ∧ ∀ i x, l[i]? = some x → wr.cell? (p.add i) = some (.int .i64 x) := by
        rcases HR.out with q | q
        · rw [q] at hj; simp at hj
        · exact q
      have cj := hp j x (by rw [List.getElem?_eq_getElem hj, hx])
      have hd : l.drop j = x :: l.drop (j + 1) := by rw [List.drop_eq_getElem_cons hj, hx]
      have j0 : (0 : Int) ≤ (j : Int) := by omega
      have j1 : (j : Int) < (l.length : Int) := by omega
      have HL : Hid (Calls _ _ _ _ _) := LiteralX_any wr n x
      have hu := HU.out
      rw [hd, List.all_cons] at hu
      cases hb : isLitX n x with
      | true =>
        rw [hb] at HL hu
        have hq : (l.drop (j + 1)).all (isLitX n) = R := by simpa using hu
        have HQ : Hid ((l.drop (j + 1)).all (isLitX n) = R) := hq
        clear hq
        clear hu HU hp
        go_wp2_with (go_at_call 24; refine HL.out.mono ?_; rintro e w' ⟨rfl, hw⟩; replace hw := hw.symm; subst hw)
        go_roundg k
        case measure => omega
        case rel => exact ⟨j + 1, by simp, by omega, rfl, HQ⟩
      | false =>
        rw [hb] at HL hu
        have hq : R = false := by simpa using hu.symm
        have HQ : Hid (R = false) := hq
        clear hq
        clear hu HU hp
        go_wp2_with (go_at_call 24; refine HL.out.mono ?_; rintro e w' ⟨rfl, hw⟩; replace hw := hw.symm; subst hw)
        go_ret
        exact ⟨by rw [HQ.out]; rfl, rfl⟩
    · have j1 : ¬ (j : Int) < (l.length : Int) := by omega
      obtain rfl : j = l.length := by omega
      have hu := HU.out
      rw [List.drop_length] at hu
      have hq : R = true := by simpa using hu.symm
      have HQ : Hid (R = true) := hq
      clear hq
      clear hu HU
      go_wp2_with fail
      go_ret
      exact ⟨by rw [HQ.out]; rfl, rfl⟩

end Go.Proofs.YtbicefgjompnoaaDoor.Sx
/- The reference: all that is true. -/
namespace Go.Proofs.YtbicefgjompnoaaDoor.Sx
open Go.RowKit Go.Sort

def trueF (v : List Int) (i : Nat) : Option Int := if v.getD i 0 ≠ 0 then some (v.getD i 0 * (i : Int)) else none
/-- all that is true, of the first j variables -/
def trueJ (v : List Int) (j : Nat) : List Int := (List.range' 1 j).filterMap (trueF v)
theorem trueJ_succ (v : List Int) (j : Nat) : trueJ v (j + 1) = trueJ v j ++ (trueF v (j + 1)).toList := by
  unfold trueJ
  rw [List.range'_concat, List.filterMap_append]
  congr 1
  rw [Nat.one_mul, Nat.add_comm 1 j]
  cases h : trueF v (j + 1) <;> simp [h]
theorem trueJ_len (v : List Int) (j : Nat) : (trueJ v j).length ≤ j := by
  refine Nat.le_trans (List.length_filterMap_le _ _) ?_
  simp
theorem one1_ {u : Value} (h : u.oneCell' = true) : ∀ x ∈ [u], x.oneCell' = true := fun x hx => by rw [List.mem_singleton.1 hx]; exact h

set_option maxRecDepth 100000 in
set_option maxHeartbeats 2000000 in
theorem True_any (w : World) (vb n cap : Nat) (v : List Int) (hn : n ≤ 16777216) (hv : v.length = n + 1) (h3 : ∀ i, v.getD i 0 = 1 ∨ v.getD i 0 = 0 ∨ v.getD i 0 = -1) (hV : ValB w vb v) :
    Calls Tryd.prog 12 #[.slice (some ⟨vb, 0, none⟩) (n + 1) cap] w fun e w' => ∃ u, e = .returned u ∧ OwnI w' w.heap.size u (trueJ v n) ∧ Fr (fun _ => True) w w' := by
  have mo := follows
  obtain ⟨i0, hi0, hz0, hz1, hz2⟩ := info3
  have HV : Hid (ValB w vb v) := hV
  have H3 : Hid (∀ i, v.getD i 0 = 1 ∨ v.getD i 0 = 0 ∨ v.getD i 0 = -1) := h3
  obtain ⟨base, hbase⟩ : ∃ b, w.heap.size = b := ⟨_, rfl⟩
  rw [hbase]
  have HB : Hid (w.heap.size = base) := hbase
  clear hV hbase h3
  go_enter Tryd.func12, Tryd.ntmps12
  go_wp2_with fail
  go_loopg [3, 4] (n) (fun k s3 s4 wr => ∃ j : Nat, s4 = .int .i64 ((j : Int) + 1) ∧ j + k = n ∧ Hid (OwnI wr base s3 (trueJ v j)) ∧ Hid (Fr (fun _ => True) w wr))
  case atStart => exact ⟨0, rfl, by omega, by show OwnI _ _ _ _; exact ⟨by simp [trueJ], .inl ⟨rfl, by simp [trueJ]⟩⟩, Fr.refl _ _⟩
  case round =>
    obtain ⟨j, rfl, hjk, HO, HF⟩ := hrel
    obtain ⟨oa, oc, ho⟩ := HO.out.form
    subst ho
    by_cases hj : j < n
    · obtain ⟨k, rfl⟩ : ∃ k, gk = k + 1 := ⟨gk - 1, by omega⟩
      have hjv : j + 1 < v.length := by omega
      obtain ⟨x, hx⟩ : ∃ x, v[j + 1] = x := ⟨_, rfl⟩
      have hxj : v[j + 1]? = some x := by rw [List.getElem?_eq_getElem hjv, hx]
      have hxg : v.getD (j + 1) 0 = x := by rw [List.getD_eq_getElem?_getD, hxj]; rfl
      have cx := (ValB.cell (w := wr) ((HF.out.block vb (block_lt HV.out) trivial).trans HV.out) hxj)
      have hxx := H3.out (j + 1)
      rw [hxg] at hxx
      have j0 : (0 : Int) ≤ (j : Int) + 1 := by omega
      have j1 : (j : Int) + 1 < (n : Int) + 1 := by omega
      have hll := trueJ_len v j
      by_cases h0 : x = 0
      · subst h0
        have HO2 : Hid (OwnI wr base (.slice oa (trueJ v j).length oc) (trueJ v (j + 1))) := by
          show OwnI _ _ _ _
          rw [trueJ_succ, show trueF v (j + 1) = none by unfold trueF; rw [hxg, if_neg (by simp)]]
          simpa using HO.out
        clear HO hx hxj hxg
        go_wp2_with fail
        go_roundg k
        case measure => omega
        case rel => exact ⟨j + 1, by simp, by omega, HO2, HF⟩
      · have hne : (x != 0) = true := by simpa using h0
        have HT : Hid (trueJ v (j + 1) = trueJ v j ++ [x * ((j : Int) + 1)]) := by
          show _ = _
          rw [trueJ_succ, show trueF v (j + 1) = some (x * ((j : Int) + 1)) by unfold trueF; rw [hxg, if_pos h0]; rfl]
          rfl
        obtain ⟨y, hy⟩ : ∃ y, x * ((j : Int) + 1) = y := ⟨_, rfl⟩
        have hwr : wrap64 y = y := by
          unfold wrap64
          rcases hxx with q | q | q
          · rw [q] at hy; omega
          · exact absurd q h0
          · rw [q] at hy; omega
        rw [hy] at HT
        have HOW : Hid ((wr.alloc (.cells #[.int .i64 y] 3)).ownsRow base 3 1 (.slice oa (trueJ v j).length oc) (trueJ v j).length ((trueJ v j).map (Value.int .i64))) := World.ownsRow.alloc HO.out _
        have HBS : Hid (base ≤ (wr.alloc (.cells #[.int .i64 y] 3)).heap.size) := by
          show base ≤ _
          have h1 := HF.out.size
          have := HB.out
          simp; omega
        have hm4 : (trueJ v j).length + 1 ≤ maxLen := by unfold maxLen; omega
        have hm5 : ((trueJ v j).length + 1) * 8 ≤ 140737488355328 := by omega
        have one : (Value.int .i64 y).oneCell' = true := rfl
        clear hx hxj hxg HO
        go_wp2_with (at_builtin; refine wpList_append_own_at _ rfl _ _ 23 rfl base 3 i0 _ 1 8 Tryd.underlying23 hi0 hz0 hz1 hz2 rfl (by decide) (.slice oa (trueJ v j).length oc) (trueJ v j).length _ rfl HOW.out ⟨wr.heap.size, 0, none⟩ 1 1 [.int .i64 y] rfl rfl (World.news_of_block (heap_new rfl)) (one1_ one) hm4 hm5 HBS.out ?_; intro v4 w4 ho4 hg4 _ _)
        have HO4 : Hid (OwnI w4 base v4 (trueJ v (j + 1))) := by
          show w4.ownsRow base 3 1 v4 _ _
          rw [HT.out]
          simpa using ho4
        have HF4 : Hid (Fr (fun _ => True) w w4) := by
          have h1 : Fr (fun _ => True) w (wr.alloc (.cells #[.int .i64 y] 3)) := HF.out.alloc _
          exact h1.grown hg4 (fun k hk _ => owns_block HOW.out (by have := HB.out; omega))
        clear ho4 hg4 HOW HBS
        go_wp2_with fail
        go_roundg k
        case measure => omega
        case rel => exact ⟨j + 1, by simp, by omega, HO4, HF4⟩
    · have j1 : ¬ (j : Int) + 1 < (n : Int) + 1 := by omega
      obtain rfl : j = n := by omega
      go_wp2_with fail
      go_ret
      exact ⟨_, rfl, HO.out, HF.out⟩

end Go.Proofs.YtbicefgjompnoaaDoor.Sx
