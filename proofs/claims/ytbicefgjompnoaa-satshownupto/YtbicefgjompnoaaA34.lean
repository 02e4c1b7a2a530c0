/- The program: mustBe. -/
import Derived.Test.YtbicefgjompnoaaA33
namespace Go.Proofs.Ytbicefgjompnoaa.Sx
open Go.RowKit Go.Sort

/-- what mustBe comes to -/
def MustPost (w : World) (L : Ly) (n : Nat) (s : St) (bb : Nat) (mv : Value) (c : List Nat) (e : Ending) (w' : World) : Prop :=
  ∃ m : Bool, e = .returned (.bool m) ∧ (m = true ↔ NCannot (Cl s) (c.map opp)) ∧ ∃ (L' : Ly) (s' : St) (b : Bool), BkAt w' L' n s' bb b (!b) mv ∧ BI n s' b (!b) ∧ SC s s' ∧ FrX bb L L' w w'

set_option maxRecDepth 100000 in
set_option maxHeartbeats 8000000 in
theorem mustBe_any (w : World) (L : Ly) (n : Nat) (s : St) (bb cb : Nat) (sure never : Bool) (mv : Value) (c : List Nat) (d : Array Nat) (h : BkAt w L n s bb sure never mv) (hI : BI n s sure never) (hb : (sure && never) = false) (hem : s.empty ≤ 1000000000000) (hrow : LRow w cb d) (htk : d.toList.take c.length = c) (hdz : d.size ≤ 4294967296) (hco : L.own cb = (0, 0)) (hcb : cb ≠ bb) (hl : ∀ l ∈ c, l < 2 * n) :
    Calls Try.prog 18 #[.pointer (some ⟨bb, 0, none⟩), .slice (some ⟨cb, 0, none⟩) c.length d.size] w (MustPost w L n s bb mv c) := by
  have mo := follows
  have HSE : Hid (Calls _ _ _ _ _) := settle_any w L n s bb sure never mv h hI hb hem
  have hcd : c.length ≤ d.size := by
    have := congrArg List.length htk
    rw [List.length_take] at this
    have e2 : d.toList.length = d.size := by simp
    omega
  go_enter_defers Try.func18, Try.ntmps18
  go_upto_region 2 with (go_at_call 37; refine HSE.out.mono ?_; rintro e W1 ⟨rfl, L1, s1, b, hK1, hI1, hC1, hX1⟩)
  have hb2 : W1.cell? ⟨bb, 2, none⟩ = some (.bool (!b)) := by rw [block_cell hK1.bk]; rfl
  have s1b : L1.sb = L.sb := hX1.sb
  have hb0 : W1.cell? ⟨bb, 0, none⟩ = some (.pointer (some ⟨L.sb, 0, none⟩)) := by rw [block_cell hK1.bk, s1b]; rfl
  cases b with
  | false =>
    have HP : Hid (MustPost w L n s bb mv c (.returned (.bool true)) W1) := ⟨true, rfl, ⟨fun _ => ((hC1.cannot _).2 (hI1.ne rfl)).mono (fun c hc => ⟨c, hc, fun _ => Iff.rfl⟩) (fun x hx => by simp at hx), fun _ => rfl⟩, L1, s1, false, hK1, hI1, hC1, hX1⟩
    clear hI1 hC1 hX1 hK1 h hI
    go_wp2_with fail
    exact ⟨_, results_tmp rfl _ _ _, by simpa using HP.out⟩
  | true =>
    have hS := hI1.su rfl
    have hBB := hI1.b
    obtain ⟨G, hG⟩ : ∃ G, c.map opp = G := ⟨_, rfl⟩
    have hop := open_any W1 L1 n s1 hK1.at_ (by rw [hBB.cu]; simp)
    rw [s1b] at hop
    have HOPN : Hid (Calls _ _ _ _ _) := hop
    -- the clause
    have hcW : LRow W1 cb d := (hX1.block cb (block_lt hrow) hcb hco).trans hrow
    have hco1 : L1.own cb = (0, 0) := (hX1.own cb (block_lt hrow) hcb).trans hco
    obtain ⟨R, hR⟩ : ∃ R, supP (openP s1) c = R := ⟨_, rfl⟩
    have hSF := open_SF hS hBB.cu G
    have hmG : ∀ l ∈ c, opp l ∈ G := fun l hx => by rw [← hG]; exact List.mem_map.2 ⟨l, hx, rfl⟩
    -- the end: whatever level 1 has come to
    have HFIN : Hid (∀ (t : St) (W : World) (Lt : Ly) (m : Bool), FB n s1.trail G s1.rows (openP s1) t → (m = true ↔ NCannot (Cl s1) G) → SAt W Lt n t → FrX bb L Lt w W → W.heap[bb]? = some (.cells #[.pointer (some ⟨L.sb, 0, none⟩), .bool true, .bool false, mv] 63 (0, 0)) → Lt.own bb = (0, 0) →
        ∀ (u : FrameMode), CallsD Try.prog 39 #[.pointer (some ⟨L.sb, 0, none⟩), .int .i64 0] u W fun e u' w' => u' = u ∧ e = .returned (.tuple #[]) ∧ MustPost w L n s bb mv c (.returned (.bool m)) w') := by
      intro t W Lt m hFB hm hAt hX hbk hob u
      obtain ⟨mo2, hmo⟩ := hFB.tr
      have hmo' : t.trail = s1.trail ++ mo2 := hmo
      have hcu : t.cuts = [s1.trail.length] := by rw [hFB.cuts]; show s1.cuts ++ [s1.trail.length] = _; rw [hBB.cu]; rfl
      obtain ⟨z1, z2, z3⟩ := back_BS hS hBB.R hBB.cu hFB
      have hbk2 := back_d u W Lt n t hAt (fun x hx => by rw [hcu] at hx; rw [List.mem_singleton.1 hx, hmo']; simp) hFB.dn (by rw [hcu]; simp)
      rw [show Lt.sb = L.sb from hX.sb] at hbk2
      refine hbk2.mono ?_
      rintro e u' w' ⟨rfl, rfl, L5, h5, f5⟩
      have hX5 := hX.trans f5
      refine ⟨rfl, rfl, m, rfl, ?_, L5, backP t, true, ⟨h5, ?_, (f5.own bb (block_lt hbk)).trans hob⟩, z2, hC1.trans z3, hX5⟩
      · rw [hm, hG]; exact (hC1.cannot G).symm
      · rw [(f5.block bb (block_lt hbk) hob).trans hbk, show L5.sb = L.sb from hX5.sb]; rfl
    have HC : Hid (∀ j, j < c.length → d[j]! = c.getD j 0) := fun j hj => by
      have : (d.toList.take c.length)[j]? = some (c.getD j 0) := by rw [htk, List.getD_eq_getElem?_getD, List.getElem?_eq_getElem hj]; rfl
      rw [List.getElem?_take, if_pos hj, Array.getElem?_toList, Array.getElem?_eq_getElem (by omega)] at this
      rw [getElem!_pos d j (by omega)]
      exact Option.some.inj this
    go_upto_region 5 with (go_at_call 38; refine HOPN.out.mono ?_; rintro e W2 ⟨rfl, L2, hA2, hF2⟩)
    have hX2 := hX1.trans hF2
    have hbk2 : W2.heap[bb]? = some (.cells #[.pointer (some ⟨L.sb, 0, none⟩), .bool true, .bool false, mv] 63 (0, 0)) := (hF2.block bb (block_lt hK1.bk) hK1.ow).trans (by rw [hK1.bk, s1b]; rfl)
    have hob2 : L2.own bb = (0, 0) := (hF2.own bb (block_lt hK1.bk)).trans hK1.ow
    have hc2 : LRow W2 cb d := (hF2.block cb (block_lt hcW) hco1).trans hcW
    have hco2 : L2.own cb = (0, 0) := (hF2.own cb (block_lt hcW)).trans hco1
    have e0 : W2.cell? ⟨bb, 0, none⟩ = some (.pointer (some ⟨L.sb, 0, none⟩)) := by rw [block_cell hbk2]; rfl
    have HA2 : Hid (SAt W2 L2 n (openP s1)) := hA2
    have HX2 : Hid (FrX bb L L2 w W2) := hX2
    have HSF : Hid (SF n s1.trail G s1.rows (openP s1)) := hSF
    have HRR : Hid (supP (openP s1) (c.drop 0) = R) := hR
    have HR0 : Hid (supP (openP s1) c = R) := hR
    have HG : Hid (c.map opp = G) := hG
    have HBK : Hid (W2.heap[bb]? = some (.cells #[.pointer (some ⟨L.sb, 0, none⟩), .bool true, .bool false, mv] 63 (0, 0)) ∧ L2.own bb = (0, 0) ∧ LRow W2 cb d ∧ L2.own cb = (0, 0)) := ⟨hbk2, hob2, hc2, hco2⟩
    clear hop HOPN hX1 hX2 hF2 hA2 hbk2 hob2 hc2 hco2 hcW hco1 hK1 hb0 hb2 HSE h hI hrow
    go_wp2_with fail
    go_loopg [24] (c.length) (fun k s24 wr => ∃ (j : Nat) (t : St) (Lt : Ly), s24 = .int .i64 (j : Int) ∧ j + k = c.length ∧ Hid (SAt wr Lt n t) ∧ Hid (FrX bb L Lt w wr) ∧ Hid (SF n s1.trail G s1.rows t) ∧ Hid (FB n s1.trail G s1.rows (openP s1) t) ∧ Hid (supP t (c.drop j) = R) ∧ Hid (wr.heap[bb]? = some (.cells #[.pointer (some ⟨L.sb, 0, none⟩), .bool true, .bool false, mv] 63 (0, 0)) ∧ Lt.own bb = (0, 0) ∧ LRow wr cb d ∧ Lt.own cb = (0, 0)))
    case atStart => exact ⟨0, openP s1, L2, rfl, by omega, HA2, HX2, HSF, hSF.fb, HRR, HBK⟩
    case round =>
      clear HA2 HX2 HSF HRR HBK e0
      obtain ⟨j, t, Lt, rfl, hjk, HA, HX, HF, HFB, HRR, HBK⟩ := hrel
      have d1 : wr.drew.cell? ⟨bb, 0, none⟩ = some (.pointer (some ⟨L.sb, 0, none⟩)) := by show wr.cell? _ = _; rw [block_cell HBK.out.1]; rfl
      have e0 : wr.cell? ⟨bb, 0, none⟩ = some (.pointer (some ⟨L.sb, 0, none⟩)) := d1
      by_cases hlt : j < c.length
      · obtain ⟨k, rfl⟩ : ∃ k, gk = k + 1 := ⟨gk - 1, by omega⟩
        obtain ⟨l, hlj⟩ : ∃ l, c[j]? = some l := ⟨_, List.getElem?_eq_getElem hlt⟩
        have hlm : l ∈ c := List.mem_of_getElem? hlj
        have hl2 : l < 2 * n := hl l hlm
        have hn := HA.out.2.n_
        have cj : wr.cell? ⟨cb, j, none⟩ = some (.int .i32 (l : Int)) := by
          have := HBK.out.2.2.1.cell (i := j) (by omega)
          rw [HC.out j hlt, List.getD_eq_getElem?_getD, hlj] at this
          exact this
        have j1 : (j : Int) < (c.length : Int) := by omega
        have HOP : Hid (∀ w, Calls Try.prog 33 #[.int .i32 (l : Int)] w fun e w' => e = .returned (.int .i32 (opp l : Int)) ∧ w' = w) := fun w => opposite_any w l (by omega)
        have hdr : c.drop j = l :: c.drop (j + 1) := by
          rw [List.drop_eq_getElem_cons hlt]
          rw [List.getElem?_eq_getElem hlt] at hlj
          rw [Option.some.inj hlj]
        have hRR := HRR.out
        rw [hdr] at hRR
        unfold supP at hRR
        have hT0 : s1.trail.length ≤ t.trail.length := by
          obtain ⟨m2, hm2⟩ := HFB.out.tr
          have hm3 : t.trail = s1.trail ++ m2 := hm2
          rw [hm3]; simp
        have hbel := believe_any wr.drew Lt n t (opp l) (-1) HA.out.drew (opp_lt hl2) HF.out.I.cuts (fun q => HF.out.I.tr.room (opp_lt hl2) q)
        rw [show Lt.sb = L.sb from HX.out.sb] at hbel
        by_cases h0 : t.truth.getD (opp l) 0 = 0
        · rw [if_pos h0] at hRR
          have hSB := HF.out.believe (opp_lt hl2) h0 (y := -1) (.inl ⟨hT0, hmG l hlm⟩)
          have hFBn := HFB.out.trans hSB.fb_believe
          have HBE : Hid (Calls Try.prog 40 #[.pointer (some ⟨L.sb, 0, none⟩), .int .i32 (opp l : Int), .int .i32 (-1)] wr.drew fun e w9 => e = .returned (.bool true) ∧ w9.cell? ⟨bb, 0, none⟩ = some (.pointer (some ⟨L.sb, 0, none⟩)) ∧ ∃ L9, SAt w9 L9 n (believeP t (opp l) (-1)) ∧ FrX bb L L9 w w9 ∧ w9.heap[bb]? = some (.cells #[.pointer (some ⟨L.sb, 0, none⟩), .bool true, .bool false, mv] 63 (0, 0)) ∧ L9.own bb = (0, 0) ∧ LRow w9 cb d ∧ L9.own cb = (0, 0)) := hbel.mono fun e w9 q => by
            rcases q with ⟨q, _⟩ | ⟨_, q1, tv, ow, q2, q3⟩
            · exact absurd h0 q
            · have hb9 := (q3.block bb (block_lt (w := wr) HBK.out.1) HBK.out.2.1).trans HBK.out.1
              have hc9 : LRow w9 cb d := (q3.block cb (block_lt (w := wr) HBK.out.2.2.1) HBK.out.2.2.2).trans HBK.out.2.2.1
              exact ⟨q1, by rw [block_cell hb9]; rfl, _, q2, HX.out.drew.trans q3, hb9, (q3.own bb (block_lt (w := wr) HBK.out.1)).trans HBK.out.2.1, hc9, (q3.own cb (block_lt (w := wr) HBK.out.2.2.1)).trans HBK.out.2.2.2⟩
          have HR2 : Hid (supP (believeP t (opp l) (-1)) (c.drop (j + 1)) = R) := hRR
          have HS2 : Hid (SF n s1.trail G s1.rows (believeP t (opp l) (-1))) := hSB
          have HF2 : Hid (FB n s1.trail G s1.rows (openP s1) (believeP t (opp l) (-1))) := hFBn
          clear hRR hSB hFBn hbel HA HX HF HFB HRR HBK hdr hlj
          go_wp2_with fail
          refine wp_region_noPanic ?_
          refine wp_region_held_drew (S := fun w' => w'.cell? ⟨bb, 0, none⟩ = some (.pointer (some ⟨L.sb, 0, none⟩))) (by kernel_rfl) d1 (fun hHeld => ?_)
          refine wpAnyH_take (i := 0) (oi := ({ dst := some 28, op := Op.move (Operand.tmp 0), type := 40, pos := _, after := #[], guard := none } : Oper)) (v := ?_) rfl (by kernel_rfl) (by kernel_rfl) (by kernel_rfl) (fun _ _ _ h => h) (Or.inl ⟨by rfl, ?_⟩) hHeld ?_
          rotate_left
          · intro w0 hS0; (try dsimp only at hS0); go_simp; try with_reducible rfl
          try simp only [Act.put, List.setIfInBounds_toArray, List.set_cons_zero, List.set_cons_succ]
          refine wpAnyH_take (i := 1) (oi := ({ dst := some 29, op := Op.nilCheck (Operand.tmp 28), type := 0, pos := _, after := #[{ on := 0, ground := Ground.data }], guard := none } : Oper)) (v := ?_) rfl (by kernel_rfl) (by kernel_rfl) (by kernel_rfl) (fun _ _ _ h => h) (Or.inl ⟨by rfl, ?_⟩) hHeld ?_
          rotate_left
          · intro w0 hS0; (try dsimp only at hS0); go_simp; try with_reducible rfl
          try simp only [Act.put, List.setIfInBounds_toArray, List.set_cons_zero, List.set_cons_succ]
          refine wpAnyH_take (i := 2) (oi := ({ dst := some 30, op := Op.fieldAddr 63 (Operand.tmp 29) 0, type := 0, pos := _, after := #[{ on := 1, ground := Ground.data }], guard := none } : Oper)) (v := ?_) rfl (by kernel_rfl) (by kernel_rfl) (by kernel_rfl) (fun _ _ _ h => h) (Or.inl ⟨by rfl, ?_⟩) hHeld ?_
          rotate_left
          · intro w0 hS0; (try dsimp only at hS0); go_simp; try with_reducible rfl
          try simp only [Act.put, List.setIfInBounds_toArray, List.set_cons_zero, List.set_cons_succ]
          refine wpAnyH_take (i := 3) (oi := ({ dst := some 31, op := Op.load 42 (Operand.tmp 30), type := 42, pos := _, after := #[{ on := 2, ground := Ground.data }], guard := none } : Oper)) (v := ?_) rfl (by kernel_rfl) (by kernel_rfl) (by kernel_rfl) (fun _ _ _ h => h) (Or.inl ⟨by rfl, ?_⟩) hHeld ?_
          rotate_left
          · intro w0 hS0; (try dsimp only at hS0); go_simp; try with_reducible rfl
          try simp only [Act.put, List.setIfInBounds_toArray, List.set_cons_zero, List.set_cons_succ]
          refine wpAnyH_take (i := 4) (oi := ({ dst := some 32, op := Op.move (Operand.tmp 6), type := 70, pos := _, after := #[], guard := none } : Oper)) (v := ?_) rfl (by kernel_rfl) (by kernel_rfl) (by kernel_rfl) (fun _ _ _ h => h) (Or.inl ⟨by rfl, ?_⟩) hHeld ?_
          rotate_left
          · intro w0 hS0; (try dsimp only at hS0); go_simp; try with_reducible rfl
          try simp only [Act.put, List.setIfInBounds_toArray, List.set_cons_zero, List.set_cons_succ]
          refine wpAnyH_ready (rs := [5]) (by kernel_rfl) (by simp) ?_
          refine AllReadyH.cons (o := ({ dst := some 33, op := Op.call { callee := Callee.value (Operand.func 33), args := #[Operand.tmp 32], argTypes := #[70] }, type := 70, pos := _, after := #[{ on := 4, ground := Ground.data }], guard := none } : Oper)) rfl (fun KK hK => ?_) AllReadyH.nil
          go_simp
          refine (HOP.out _).mono ?_
          rintro e w8 ⟨rfl, hw8⟩
          obtain rfl := hw8.symm
          refine hK.out _ _ ?_ (fun hHeld2 => ?_)
          · exact d1
          clear hK KK
          try simp only [Act.put, List.setIfInBounds_toArray, List.set_cons_zero, List.set_cons_succ]
          refine wpAnyH_ready (rs := [6]) (by kernel_rfl) (by simp) ?_
          refine AllReadyH.cons (o := ({ dst := some 34, op := Op.call { callee := Callee.value (Operand.func 40), args := #[Operand.tmp 31, Operand.tmp 33, Operand.const (Value.int IntKind.i32 (-1))], argTypes := #[42, 70, 21] }, type := 4, pos := _, after := #[{ on := 3, ground := Ground.data }, { on := 5, ground := Ground.data }, { on := 5, ground := Ground.chain }], guard := none } : Oper)) rfl (fun KK hK => ?_) AllReadyH.nil
          go_simp
          refine HBE.out.mono ?_
          rintro e w9 ⟨rfl, k1, k2⟩
          refine hK.out _ _ ?_ (fun hHeld3 => ?_)
          · exact k1
          clear hK KK
          try simp only [Act.put, List.setIfInBounds_toArray, List.set_cons_zero, List.set_cons_succ]
          refine wpAnyH_take (i := 7) (oi := ({ dst := some 35, op := Op.unOp UnOp.not 4 (Operand.tmp 34), type := 4, pos := _, after := #[{ on := 6, ground := Ground.data }], guard := none } : Oper)) (v := ?_) rfl (by kernel_rfl) (by kernel_rfl) (by kernel_rfl) (fun _ _ _ h => h) (Or.inl ⟨by rfl, ?_⟩) hHeld3 ?_
          rotate_left
          · intro w0 hS0; (try dsimp only at hS0); go_simp; try with_reducible rfl
          try simp only [Act.put, List.setIfInBounds_toArray, List.set_cons_zero, List.set_cons_succ]
          refine wpAnyH_done (by kernel_rfl) ?_ _
          refine NoPanic.normal ?_
          obtain ⟨L9, z1, z2, z3⟩ := k2
          have Z1 : Hid (SAt w9 L9 n (believeP t (opp l) (-1))) := z1
          have Z2 : Hid (FrX bb L L9 w w9) := z2
          have Z3 : Hid _ := z3
          clear z1 z2 z3
          go_wp2_with fail
          go_roundg k
          case measure => omega
          case rel => exact ⟨j + 1, _, L9, by simp, by omega, Z1, Z2, HS2, HF2, HR2, Z3⟩
        · rw [if_neg h0] at hRR
          by_cases hp : 0 < t.truth.getD (opp l) 0
          · rw [if_pos hp] at hRR
            have HBE : Hid (Calls Try.prog 40 #[.pointer (some ⟨L.sb, 0, none⟩), .int .i32 (opp l : Int), .int .i32 (-1)] wr.drew fun e w9 => e = .returned (.bool true) ∧ w9.cell? ⟨bb, 0, none⟩ = some (.pointer (some ⟨L.sb, 0, none⟩)) ∧ w9 = wr.drew) := hbel.mono fun e w9 q => by
              rcases q with ⟨_, q1, q2⟩ | ⟨q, _⟩
              · rw [decide_eq_true hp] at q1; exact ⟨q1, by rw [q2]; exact d1, q2⟩
              · exact absurd q h0
            have HR2 : Hid (supP t (c.drop (j + 1)) = R) := hRR
            have HA9 : Hid (SAt wr.drew Lt n t) := HA.out.drew
            have HX9 : Hid (FrX bb L Lt w wr.drew) := HX.out.drew
            have HB9 : Hid (wr.drew.heap[bb]? = some (.cells #[.pointer (some ⟨L.sb, 0, none⟩), .bool true, .bool false, mv] 63 (0, 0)) ∧ Lt.own bb = (0, 0) ∧ LRow wr.drew cb d ∧ Lt.own cb = (0, 0)) := HBK.out
            clear hRR hbel HA HX HRR HBK hdr hlj
            go_wp2_with fail
            refine wp_region_noPanic ?_
            refine wp_region_held_drew (S := fun w' => w'.cell? ⟨bb, 0, none⟩ = some (.pointer (some ⟨L.sb, 0, none⟩))) (by kernel_rfl) d1 (fun hHeld => ?_)
            refine wpAnyH_take (i := 0) (oi := ({ dst := some 28, op := Op.move (Operand.tmp 0), type := 40, pos := _, after := #[], guard := none } : Oper)) (v := ?_) rfl (by kernel_rfl) (by kernel_rfl) (by kernel_rfl) (fun _ _ _ h => h) (Or.inl ⟨by rfl, ?_⟩) hHeld ?_
            rotate_left
            · intro w0 hS0; (try dsimp only at hS0); go_simp; try with_reducible rfl
            try simp only [Act.put, List.setIfInBounds_toArray, List.set_cons_zero, List.set_cons_succ]
            refine wpAnyH_take (i := 1) (oi := ({ dst := some 29, op := Op.nilCheck (Operand.tmp 28), type := 0, pos := _, after := #[{ on := 0, ground := Ground.data }], guard := none } : Oper)) (v := ?_) rfl (by kernel_rfl) (by kernel_rfl) (by kernel_rfl) (fun _ _ _ h => h) (Or.inl ⟨by rfl, ?_⟩) hHeld ?_
            rotate_left
            · intro w0 hS0; (try dsimp only at hS0); go_simp; try with_reducible rfl
            try simp only [Act.put, List.setIfInBounds_toArray, List.set_cons_zero, List.set_cons_succ]
            refine wpAnyH_take (i := 2) (oi := ({ dst := some 30, op := Op.fieldAddr 63 (Operand.tmp 29) 0, type := 0, pos := _, after := #[{ on := 1, ground := Ground.data }], guard := none } : Oper)) (v := ?_) rfl (by kernel_rfl) (by kernel_rfl) (by kernel_rfl) (fun _ _ _ h => h) (Or.inl ⟨by rfl, ?_⟩) hHeld ?_
            rotate_left
            · intro w0 hS0; (try dsimp only at hS0); go_simp; try with_reducible rfl
            try simp only [Act.put, List.setIfInBounds_toArray, List.set_cons_zero, List.set_cons_succ]
            refine wpAnyH_take (i := 3) (oi := ({ dst := some 31, op := Op.load 42 (Operand.tmp 30), type := 42, pos := _, after := #[{ on := 2, ground := Ground.data }], guard := none } : Oper)) (v := ?_) rfl (by kernel_rfl) (by kernel_rfl) (by kernel_rfl) (fun _ _ _ h => h) (Or.inl ⟨by rfl, ?_⟩) hHeld ?_
            rotate_left
            · intro w0 hS0; (try dsimp only at hS0); go_simp; try with_reducible rfl
            try simp only [Act.put, List.setIfInBounds_toArray, List.set_cons_zero, List.set_cons_succ]
            refine wpAnyH_take (i := 4) (oi := ({ dst := some 32, op := Op.move (Operand.tmp 6), type := 70, pos := _, after := #[], guard := none } : Oper)) (v := ?_) rfl (by kernel_rfl) (by kernel_rfl) (by kernel_rfl) (fun _ _ _ h => h) (Or.inl ⟨by rfl, ?_⟩) hHeld ?_
            rotate_left
            · intro w0 hS0; (try dsimp only at hS0); go_simp; try with_reducible rfl
            try simp only [Act.put, List.setIfInBounds_toArray, List.set_cons_zero, List.set_cons_succ]
            refine wpAnyH_ready (rs := [5]) (by kernel_rfl) (by simp) ?_
            refine AllReadyH.cons (o := ({ dst := some 33, op := Op.call { callee := Callee.value (Operand.func 33), args := #[Operand.tmp 32], argTypes := #[70] }, type := 70, pos := _, after := #[{ on := 4, ground := Ground.data }], guard := none } : Oper)) rfl (fun KK hK => ?_) AllReadyH.nil
            go_simp
            refine (HOP.out _).mono ?_
            rintro e w8 ⟨rfl, hw8⟩
            obtain rfl := hw8.symm
            refine hK.out _ _ ?_ (fun hHeld2 => ?_)
            · exact d1
            clear hK KK
            try simp only [Act.put, List.setIfInBounds_toArray, List.set_cons_zero, List.set_cons_succ]
            refine wpAnyH_ready (rs := [6]) (by kernel_rfl) (by simp) ?_
            refine AllReadyH.cons (o := ({ dst := some 34, op := Op.call { callee := Callee.value (Operand.func 40), args := #[Operand.tmp 31, Operand.tmp 33, Operand.const (Value.int IntKind.i32 (-1))], argTypes := #[42, 70, 21] }, type := 4, pos := _, after := #[{ on := 3, ground := Ground.data }, { on := 5, ground := Ground.data }, { on := 5, ground := Ground.chain }], guard := none } : Oper)) rfl (fun KK hK => ?_) AllReadyH.nil
            go_simp
            refine HBE.out.mono ?_
            rintro e w9 ⟨rfl, k1, k2⟩
            refine hK.out _ _ ?_ (fun hHeld3 => ?_)
            · exact k1
            clear hK KK
            try simp only [Act.put, List.setIfInBounds_toArray, List.set_cons_zero, List.set_cons_succ]
            refine wpAnyH_take (i := 7) (oi := ({ dst := some 35, op := Op.unOp UnOp.not 4 (Operand.tmp 34), type := 4, pos := _, after := #[{ on := 6, ground := Ground.data }], guard := none } : Oper)) (v := ?_) rfl (by kernel_rfl) (by kernel_rfl) (by kernel_rfl) (fun _ _ _ h => h) (Or.inl ⟨by rfl, ?_⟩) hHeld3 ?_
            rotate_left
            · intro w0 hS0; (try dsimp only at hS0); go_simp; try with_reducible rfl
            try simp only [Act.put, List.setIfInBounds_toArray, List.set_cons_zero, List.set_cons_succ]
            refine wpAnyH_done (by kernel_rfl) ?_ _
            refine NoPanic.normal ?_
            subst k2
            go_wp2_with fail
            go_roundg k
            case measure => omega
            case rel => exact ⟨j + 1, t, Lt, by simp, by omega, HA9, HX9, HF, HFB, HR2, HB9⟩
          · rw [if_neg hp] at hRR
            have HBE : Hid (Calls Try.prog 40 #[.pointer (some ⟨L.sb, 0, none⟩), .int .i32 (opp l : Int), .int .i32 (-1)] wr.drew fun e w9 => e = .returned (.bool false) ∧ w9.cell? ⟨bb, 0, none⟩ = some (.pointer (some ⟨L.sb, 0, none⟩)) ∧ w9 = wr.drew) := hbel.mono fun e w9 q => by
              rcases q with ⟨_, q1, q2⟩ | ⟨q, _⟩
              · rw [decide_eq_false hp] at q1; exact ⟨q1, by rw [q2]; exact d1, q2⟩
              · exact absurd q h0
            have hms := must_sup hS hBB.cu hl (by rw [HR0.out, ← hRR])
            rw [HR0.out, ← hRR, HG.out] at hms
            have HD := HFIN.out t wr.drew Lt true hms.1 ⟨fun _ => hms.2, fun _ => rfl⟩ HA.out.drew HX.out.drew HBK.out.1 HBK.out.2.1 .returning
            have HD2 : Hid (CallsD _ _ _ _ _ _) := HD
            clear hRR hbel HA HX HRR HBK hdr hlj HFIN HD hms HF HFB
            go_wp2_with fail
            refine wp_region_noPanic ?_
            refine wp_region_held_drew (S := fun w' => w'.cell? ⟨bb, 0, none⟩ = some (.pointer (some ⟨L.sb, 0, none⟩))) (by kernel_rfl) d1 (fun hHeld => ?_)
            refine wpAnyH_take (i := 0) (oi := ({ dst := some 28, op := Op.move (Operand.tmp 0), type := 40, pos := _, after := #[], guard := none } : Oper)) (v := ?_) rfl (by kernel_rfl) (by kernel_rfl) (by kernel_rfl) (fun _ _ _ h => h) (Or.inl ⟨by rfl, ?_⟩) hHeld ?_
            rotate_left
            · intro w0 hS0; (try dsimp only at hS0); go_simp; try with_reducible rfl
            try simp only [Act.put, List.setIfInBounds_toArray, List.set_cons_zero, List.set_cons_succ]
            refine wpAnyH_take (i := 1) (oi := ({ dst := some 29, op := Op.nilCheck (Operand.tmp 28), type := 0, pos := _, after := #[{ on := 0, ground := Ground.data }], guard := none } : Oper)) (v := ?_) rfl (by kernel_rfl) (by kernel_rfl) (by kernel_rfl) (fun _ _ _ h => h) (Or.inl ⟨by rfl, ?_⟩) hHeld ?_
            rotate_left
            · intro w0 hS0; (try dsimp only at hS0); go_simp; try with_reducible rfl
            try simp only [Act.put, List.setIfInBounds_toArray, List.set_cons_zero, List.set_cons_succ]
            refine wpAnyH_take (i := 2) (oi := ({ dst := some 30, op := Op.fieldAddr 63 (Operand.tmp 29) 0, type := 0, pos := _, after := #[{ on := 1, ground := Ground.data }], guard := none } : Oper)) (v := ?_) rfl (by kernel_rfl) (by kernel_rfl) (by kernel_rfl) (fun _ _ _ h => h) (Or.inl ⟨by rfl, ?_⟩) hHeld ?_
            rotate_left
            · intro w0 hS0; (try dsimp only at hS0); go_simp; try with_reducible rfl
            try simp only [Act.put, List.setIfInBounds_toArray, List.set_cons_zero, List.set_cons_succ]
            refine wpAnyH_take (i := 3) (oi := ({ dst := some 31, op := Op.load 42 (Operand.tmp 30), type := 42, pos := _, after := #[{ on := 2, ground := Ground.data }], guard := none } : Oper)) (v := ?_) rfl (by kernel_rfl) (by kernel_rfl) (by kernel_rfl) (fun _ _ _ h => h) (Or.inl ⟨by rfl, ?_⟩) hHeld ?_
            rotate_left
            · intro w0 hS0; (try dsimp only at hS0); go_simp; try with_reducible rfl
            try simp only [Act.put, List.setIfInBounds_toArray, List.set_cons_zero, List.set_cons_succ]
            refine wpAnyH_take (i := 4) (oi := ({ dst := some 32, op := Op.move (Operand.tmp 6), type := 70, pos := _, after := #[], guard := none } : Oper)) (v := ?_) rfl (by kernel_rfl) (by kernel_rfl) (by kernel_rfl) (fun _ _ _ h => h) (Or.inl ⟨by rfl, ?_⟩) hHeld ?_
            rotate_left
            · intro w0 hS0; (try dsimp only at hS0); go_simp; try with_reducible rfl
            try simp only [Act.put, List.setIfInBounds_toArray, List.set_cons_zero, List.set_cons_succ]
            refine wpAnyH_ready (rs := [5]) (by kernel_rfl) (by simp) ?_
            refine AllReadyH.cons (o := ({ dst := some 33, op := Op.call { callee := Callee.value (Operand.func 33), args := #[Operand.tmp 32], argTypes := #[70] }, type := 70, pos := _, after := #[{ on := 4, ground := Ground.data }], guard := none } : Oper)) rfl (fun KK hK => ?_) AllReadyH.nil
            go_simp
            refine (HOP.out _).mono ?_
            rintro e w8 ⟨rfl, hw8⟩
            obtain rfl := hw8.symm
            refine hK.out _ _ ?_ (fun hHeld2 => ?_)
            · exact d1
            clear hK KK
            try simp only [Act.put, List.setIfInBounds_toArray, List.set_cons_zero, List.set_cons_succ]
            refine wpAnyH_ready (rs := [6]) (by kernel_rfl) (by simp) ?_
            refine AllReadyH.cons (o := ({ dst := some 34, op := Op.call { callee := Callee.value (Operand.func 40), args := #[Operand.tmp 31, Operand.tmp 33, Operand.const (Value.int IntKind.i32 (-1))], argTypes := #[42, 70, 21] }, type := 4, pos := _, after := #[{ on := 3, ground := Ground.data }, { on := 5, ground := Ground.data }, { on := 5, ground := Ground.chain }], guard := none } : Oper)) rfl (fun KK hK => ?_) AllReadyH.nil
            go_simp
            refine HBE.out.mono ?_
            rintro e w9 ⟨rfl, k1, k2⟩
            refine hK.out _ _ ?_ (fun hHeld3 => ?_)
            · exact k1
            clear hK KK
            try simp only [Act.put, List.setIfInBounds_toArray, List.set_cons_zero, List.set_cons_succ]
            refine wpAnyH_take (i := 7) (oi := ({ dst := some 35, op := Op.unOp UnOp.not 4 (Operand.tmp 34), type := 4, pos := _, after := #[{ on := 6, ground := Ground.data }], guard := none } : Oper)) (v := ?_) rfl (by kernel_rfl) (by kernel_rfl) (by kernel_rfl) (fun _ _ _ h => h) (Or.inl ⟨by rfl, ?_⟩) hHeld3 ?_
            rotate_left
            · intro w0 hS0; (try dsimp only at hS0); go_simp; try with_reducible rfl
            try simp only [Act.put, List.setIfInBounds_toArray, List.set_cons_zero, List.set_cons_succ]
            refine wpAnyH_done (by kernel_rfl) ?_ _
            refine NoPanic.normal ?_
            subst k2
            go_wp2_with fail
            refine leaves_cons (f := 39) (args := #[.pointer (some ⟨L.sb, 0, none⟩), .int .i64 0]) (by simp) (by simp [go_sem]) ?_
            refine HD2.out.mono ?_
            rintro e u' w' ⟨rfl, rfl, hP⟩
            exact ⟨_, results_tmp rfl _ _ _, by simpa using hP⟩
      · have j1 : ¬ (j : Int) < (c.length : Int) := by omega
        obtain rfl : j = c.length := by omega
        have hRR := HRR.out
        rw [List.drop_length] at hRR
        have hRt : (t, true) = R := hRR
        have hfo := follow2_any wr Lt n t (LkI n) (lookOK n) HA.out HF.out.I HF.out.dn
        rw [show Lt.sb = L.sb from HX.out.sb] at hfo
        have HFO : Hid (Calls Try.prog 41 #[.pointer (some ⟨L.sb, 0, none⟩)] wr fun e w9 => ∃ r : Int, e = .returned (.int .i32 r) ∧ ∀ u : FrameMode, CallsD Try.prog 39 #[.pointer (some ⟨L.sb, 0, none⟩), .int .i64 0] u w9 fun e u' w' => u' = u ∧ e = .returned (.tuple #[]) ∧ MustPost w L n s bb mv c (.returned (.bool (r != -1))) w') := hfo.mono fun e w9 q => by
          obtain ⟨k, r, q1, _, q2, L9, q3, q4⟩ := q
          have hmf := must_follow hS hBB.R hBB.cu hl (by rw [HR0.out, ← hRt]) (k := k) (r := r) (by rw [HR0.out, ← hRt]; exact q1)
          rw [HG.out] at hmf
          refine ⟨r.2, q2, HFIN.out r.1 w9 L9 (r.2 != -1) hmf.1 ?_ q3 (HX.out.trans q4) ((q4.block bb (block_lt HBK.out.1) HBK.out.2.1).trans HBK.out.1) ((q4.own bb (block_lt HBK.out.1)).trans HBK.out.2.1)⟩
          rw [← hmf.2]
          simp
        clear hfo hRR hRt HA HX HRR HBK HFIN HF HFB d1
        go_wp2_with (go_at_call 41; refine HFO.out.mono ?_; rintro e w9 ⟨r, rfl, hD⟩)
        refine leaves_cons (f := 39) (args := #[.pointer (some ⟨L.sb, 0, none⟩), .int .i64 0]) (by simp) (by simp [go_sem]) ?_
        refine (hD .returning).mono ?_
        rintro e u' w' ⟨rfl, rfl, hP⟩
        exact ⟨_, results_tmp rfl _ _ _, by simpa using hP⟩

end Go.Proofs.Ytbicefgjompnoaa.Sx
