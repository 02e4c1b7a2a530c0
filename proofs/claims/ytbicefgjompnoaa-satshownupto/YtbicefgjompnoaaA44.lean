/- The program: Checked. -/
import Derived.Test.YtbicefgjompnoaaA03
import Derived.Test.YtbicefgjompnoaaA43
import Derived.BigQuiet
import Derived.Deep.QuietTactic
namespace Go.Proofs.Ytbicefgjompnoaa.Sx
open Go.RowKit Go.Sort Go.Maps Go.Lib

set_option maxRecDepth 100000 in
set_option maxHeartbeats 8000000 in
theorem prog_checked (w : World) (n : Int) (lo : Nat) (cv pv : Value) (C : List (List Int)) (P : List (Bool × List Int)) (hlo : lo ≤ w.heap.size) (hc : ClsAt w lo cv C) (hp : LinesAt w lo pv P) (hCl : C.length ≤ 100000000) (hPl : P.length ≤ 100000000) (hCx : ∀ x ∈ C, x.length ≤ 4294967296) (hPx : ∀ l ∈ P, l.2.length ≤ 4294967296) :
    Calls Try.prog 6 #[.int .i64 n, cv, pv] w (ChPost w (checkedP n C P)) := by
  have mo := follows
  obtain ⟨j0_, hj0, hy0, hy1, hy2⟩ := info31
  have HF : Hid (Calls _ _ _ _ _) := fault_any w n lo cv C hc
  obtain ⟨ca, cc, hcv, _⟩ := hc.ex
  obtain ⟨pa, pc, hpv, _⟩ := hp.ex
  subst hcv
  subst hpv
  have HC : Hid (ClsAt w lo (.slice ca C.length cc) C) := hc
  have HP : Hid (LinesAt w lo (.slice pa P.length pc) P) := hp
  obtain ⟨R, hR⟩ : ∃ R, checkedP n C P = R := ⟨_, rfl⟩
  rw [hR]
  unfold checkedP at hR
  clear hc hp
  obtain ⟨f, hf⟩ : ∃ f, faultR n C = f := ⟨_, rfl⟩
  rw [hf] at HF hR
  by_cases hf0 : f = 0
  case neg =>
    rw [if_neg hf0] at hR
    subst hR
    have hfi : errV f = .iface 55 (.int .i64 (f : Int)) := if_neg hf0
    rw [hfi] at HF
    clear hf hfi
    go_enter Try.func6, Try.ntmps6
    go_wp2_with fail
    refine HF.out.mono ?_
    rintro e w1 ⟨rfl, hw⟩
    replace hw := hw.symm
    subst hw
    go_wp2_with fail
    go_ret
    exact ⟨rfl, Fr.refl _ _⟩
  subst hf0
  rw [if_pos rfl] at hR
  have hn : 0 ≤ n ∧ n ≤ 16777216 ∧ ∀ c ∈ C, ∀ l ∈ c, LitN n.toNat l := by
    unfold faultR at hf
    split at hf
    · simp at hf
    split at hf
    · simp at hf
    split at hf
    · rename_i h1 h2 h3
      refine ⟨by omega, by omega, fun c hc l hl => ?_⟩
      rw [List.all_eq_true] at h3
      have := h3 c hc
      rw [List.all_eq_true] at this
      exact isLit_iff.1 (this l hl)
    · simp at hf
  obtain ⟨hn0, hn1, hlit⟩ := hn
  obtain ⟨N, rfl⟩ : ∃ N : Nat, n = (N : Int) := ⟨n.toNat, by omega⟩
  rw [Int.toNat_natCast] at hR hlit
  have hN : N ≤ 16777216 := by omega
  have HL : Hid (∀ c ∈ C, ∀ l ∈ c, LitN N l) := hlit
  have HR0 : Hid ((if P.all (fun l => l.2.all (isLit N)) then stepsP N P C false else false) = R) := hR
  have HPX : Hid (∀ l ∈ P, l.2.length ≤ 4294967296) := hPx
  have HCX : Hid (∀ x ∈ C, x.length ≤ 4294967296) := hCx
  clear hf hR hlit hPx hCx
  -- the row of lines
  obtain ⟨g, hg⟩ : ∃ g, w.heap.size = g := ⟨_, rfl⟩
  have m1 : (Instr.makeSlice 22 (.int .i64 (P.length : Int)) (.int .i64 (P.length : Int))).run Try.prog w = .ok (.slice (some ⟨g, 0, none⟩) P.length P.length) (w.alloc (.cells (madeCells (Value.slice none 0 0).cells (P.length * 1)) 31)) := by
    have := run_make (P := Try.prog) w 22 31 j0_ _ Try.underlying22 hj0 hy0 .i64 .i64 (P.length : Int) (P.length : Int) (by omega) (by omega) (by rw [hy2]; omega) (by omega)
    rw [this, Int.toNat_natCast, hy1, hg]
  have he0 : errV 0 = .nilIface := rfl
  rw [he0] at HF
  go_enter Try.func6, Try.ntmps6
  go_wp2_with fail
  refine HF.out.mono ?_
  rintro e w1 ⟨rfl, hw⟩
  replace hw := hw.symm
  subst hw
  clear HF
  go_upto_region 4 with fail
  obtain ⟨W0, hW0⟩ : ∃ W0, w.alloc (.cells (madeCells (Value.slice none 0 0).cells (P.length * 1)) 31) = W0 := ⟨_, rfl⟩
  have hF0 : Fr (fun _ => True) w W0 := by rw [← hW0]; exact (Fr.refl _ w).alloc _
  have hB0 : W0.heap[g]? = some (.cells (madeCells (Value.slice none 0 0).cells (P.length * 1)) 31 (0, 0)) := by rw [← hW0]; exact heap_new hg
  have hz0 : (madeCells (Value.slice none 0 0).cells (P.length * 1)).size = P.length := by simp [madeCells]
  have HRW : Hid (∃ cur : Array Value, W0.heap[g]? = some (.cells cur 31 (0, 0)) ∧ cur.size = P.length ∧ ∀ (i : Nat) (x : Bool × List Int), i < 0 → P[i]? = some x → ∃ u, cur[i]? = some u ∧ IntsAt W0 lo u x.2) := ⟨_, hB0, hz0, fun i x h => absurd h (Nat.not_lt_zero i)⟩
  have HFW : Hid (Fr (fun _ => True) w W0) := hF0
  have eW : w.alloc (.cells (madeCells #[Value.slice none 0 0] P.length) 31) = W0 := by rw [← hW0, Nat.mul_one]; rfl
  rw [eW]
  clear m1 hF0 hB0 hz0 hW0 eW
  go_wp2_with fail
  go_loopg [26] (P.length) (fun k s26 wr => ∃ j : Nat, s26 = .int .i64 (j : Int) ∧ j + k = P.length ∧ Hid (∃ cur : Array Value, wr.heap[g]? = some (.cells cur 31 (0, 0)) ∧ cur.size = P.length ∧ ∀ (i : Nat) (x : Bool × List Int), i < j → P[i]? = some x → ∃ u, cur[i]? = some u ∧ IntsAt wr lo u x.2) ∧ Hid (Fr (fun _ => True) w wr) ∧ Hid ((P.take j).all (fun l => l.2.all (isLit N)) = true) ∧ Hid ((if (P.drop j).all (fun l => l.2.all (isLit N)) then stepsP N P C false else false) = R))
  case atStart => exact ⟨0, rfl, by omega, HRW, HFW, rfl, HR0⟩
  case round =>
    clear HRW HFW HR0
    obtain ⟨j, rfl, hjk, HRW, HF, HT, HU⟩ := hrel
    by_cases hj : j < P.length
    · obtain ⟨k, rfl⟩ : ∃ k, gk = k + 1 := ⟨gk - 1, by omega⟩
      obtain ⟨b, off, u, rfl, cg, cu, hui⟩ := (HP.out.of (HF.out.mono fun _ _ => trivial)).cell hj
      obtain ⟨x, hx⟩ : ∃ x, P[j] = x := ⟨_, rfl⟩
      rw [hx] at cg hui
      have j0 : (0 : Int) ≤ (j : Int) := by omega
      have j1 : (j : Int) < (P.length : Int) := by omega
      obtain ⟨ua, uc, hue, _⟩ := hui.ex
      subst hue
      have HUI : Hid (IntsAt wr lo (.slice ua x.2.length uc) x.2) := hui
      have hd : P.drop j = x :: P.drop (j + 1) := by rw [List.drop_eq_getElem_cons hj, hx]
      have ht : P.take (j + 1) = P.take j ++ [x] := by rw [List.take_succ_eq_append_getElem hj, hx]
      clear hui
      go_upto_region 7 with fail
      obtain ⟨q, hq⟩ : ∃ q, wr.heap.size = q := ⟨_, rfl⟩
      obtain ⟨W1, hW1⟩ : ∃ W1, wr.alloc (.cells #[.bool x.1, .slice ua x.2.length uc] 36) = W1 := ⟨_, rfl⟩
      have hb1 : W1.heap[q]? = some (.cells #[.bool x.1, .slice ua x.2.length uc] 36 (0, 0)) := by rw [← hW1]; exact heap_new hq
      have hf1 : Fr (fun _ => True) wr W1 := by rw [← hW1]; exact (Fr.refl _ wr).alloc _
      rw [hW1, hq]
      have c1 : W1.cell? ⟨q, 1, none⟩ = some (.slice ua x.2.length uc) := by rw [block_cell hb1]; rfl
      obtain ⟨cur, hcur, hcz, hci⟩ := HRW.out
      have hgW : W1.heap[g]? = some (.cells cur 31 (0, 0)) := (hf1.block g (block_lt hcur) trivial).trans hcur
      have cgj : ∃ v, W1.cell? ⟨g, j, none⟩ = some v := ⟨cur[j]'(by omega), by rw [block_cell hgW]; exact Array.getElem?_eq_getElem (by omega)⟩
      obtain ⟨vj, cgj⟩ := cgj
      have zgj : W1.frozen? ⟨g, j, none⟩ = false := frozen_block hgW j
      have hu1 : IntsAt W1 lo (.slice ua x.2.length uc) x.2 := HUI.out.of (hf1.mono fun _ _ => trivial)
      have HAL : Hid (Calls _ _ _ _ _) := areLiterals_any W1 N lo (.slice ua x.2.length uc) x.2 hN hu1
      have hu := HU.out
      rw [hd, List.all_cons] at hu
      cases hb : x.2.all (isLit N) with
      | false =>
        rw [hb] at HAL hu
        rw [Bool.false_and] at hu
        have HQ : Hid (false = R) := hu
        have HF9 : Hid (Fr (fun _ => True) w W1) := HF.out.trans hf1
        clear hu hW1 hb1 hf1 hcur hci hgW hu1 HU HT HF HUI cg cu
        go_wp2_with fail
        refine HAL.out.mono ?_
        rintro e w9 ⟨rfl, hw⟩
        replace hw := hw.symm
        subst hw
        go_wp2_with fail
        go_ret
        exact ⟨by rw [← HQ.out]; rfl, HF9.out⟩
      | true =>
        rw [hb] at HAL hu
        rw [Bool.true_and] at hu
        have HQ : Hid ((if (P.drop (j + 1)).all (fun l => l.2.all (isLit N)) then stepsP N P C false else false) = R) := hu
        have HT2 : Hid ((P.take (j + 1)).all (fun l => l.2.all (isLit N)) = true) := by
          show _ = _
          rw [ht, List.all_append, HT.out]
          simp only [List.all_cons, List.all_nil, hb]; rfl
        have hgl : ¬ g < lo := by omega
        have HF2 : Hid (Fr (fun _ => True) w (W1.setCell ⟨g, j, none⟩ (.slice ua x.2.length uc))) := by
          have h1 := HF.out.trans hf1
          refine ⟨h1.os, h1.tape, h1.output, by have := h1.size; simpa using this, fun k hk _ => ?_⟩
          exact (Below.heap_setCell W1 ⟨g, j, none⟩ _ k (fun e => by have e2 : k = g := e; omega)).trans (h1.block k hk trivial)
        have HR2 : Hid (∃ cur : Array Value, (W1.setCell ⟨g, j, none⟩ (.slice ua x.2.length uc)).heap[g]? = some (.cells cur 31 (0, 0)) ∧ cur.size = P.length ∧ ∀ (i : Nat) (y : Bool × List Int), i < j + 1 → P[i]? = some y → ∃ u, cur[i]? = some u ∧ IntsAt (W1.setCell ⟨g, j, none⟩ (.slice ua x.2.length uc)) lo u y.2) := by
          have hfl : Fr (· < lo) wr (W1.setCell ⟨g, j, none⟩ (.slice ua x.2.length uc)) := ((hf1.mono fun _ _ => trivial)).set (p := ⟨g, j, none⟩) hgl _
          refine ⟨_, set_block hgW j _, by simp [Array.set!_eq_setIfInBounds, hcz], fun i y hi hy => ?_⟩
          rw [Array.set!_eq_setIfInBounds]
          by_cases z : i = j
          · subst z
            have : y = x := by rw [← hx]; rw [List.getElem?_eq_getElem hj] at hy; exact (Option.some.inj hy).symm
            subst this
            exact ⟨_, Array.getElem?_setIfInBounds_self_of_lt (by omega), HUI.out.of hfl⟩
          · obtain ⟨u, u1, u2⟩ := hci i y (by omega) hy
            exact ⟨u, by rw [Array.getElem?_setIfInBounds_ne (fun e => z e.symm)]; exact u1, u2.of hfl⟩
        clear hu hW1 hb1 hf1 hcur hci hgW hu1 HU HT HF HUI cg cu HRW hcz hd ht hb hx
        go_wp2_with fail
        refine HAL.out.mono ?_
        rintro e w9 ⟨rfl, hw⟩
        replace hw := hw.symm
        subst hw
        clear HAL
        go_wp2_with fail
        go_roundg k
        case measure => omega
        case rel => exact ⟨j + 1, by simp, by omega, HR2, HF2, HT2, HQ⟩
    · rename World => w0
      have j1 : ¬ (j : Int) < (P.length : Int) := by omega
      obtain rfl : j = P.length := by omega
      have hu := HU.out
      rw [List.drop_length] at hu
      have hu2 : stepsP N P C false = R := by simpa using hu
      have HS : Hid (stepsP N P C false = R) := hu2
      have hPL : ∀ l ∈ P, ∀ x ∈ l.2, LitN N x := fun l hl x hx => by
        have := HT.out
        rw [List.take_length, List.all_eq_true] at this
        have := this l hl
        rw [List.all_eq_true] at this
        exact isLit_iff.1 (this x hx)
      have HPL : Hid (∀ l ∈ P, ∀ x ∈ l.2, LitN N x) := hPL
      clear hu hu2 HU HT
      obtain ⟨cur, hcur, hcz, hci⟩ := HRW.out
      have hgl : g < w0.heap.size := block_lt hcur
      have hO : ClsAt w0 (g + 1) (.slice (some ⟨g, 0, none⟩) P.length P.length) (P.map Prod.snd) := by
        refine ⟨⟨some ⟨g, 0, none⟩, P.length, by rw [List.length_map], .inr ⟨⟨g, 0, none⟩, rfl, Nat.lt_succ_self g, fun i c hc => ?_⟩⟩, by rw [List.length_map]; omega⟩
        rw [List.getElem?_map] at hc
        cases hy : P[i]? with
        | none => rw [hy] at hc; cases hc
        | some y =>
          rw [hy] at hc
          have e : y.2 = c := Option.some.inj hc
          obtain ⟨u, u1, u2⟩ := hci i y (List.getElem?_eq_some_iff.1 hy).1 hy
          have hadd : (⟨g, 0, none⟩ : Addr).add i = ⟨g, i, none⟩ := by unfold Addr.add; split <;> simp_all
          exact ⟨u, by rw [hadd, block_cell hcur]; exact u1, by rw [← e]; exact u2.up (by omega)⟩
      have hC0 : ClsAt w0 (g + 1) (.slice ca C.length cc) C := (HC.out.of (HF.out.mono fun _ _ => trivial)).up (by omega)
      have hLO : ∀ c ∈ P.map Prod.snd, ∀ x ∈ c, LitN N x := fun c hc x hx => by
        obtain ⟨l, hl, rfl⟩ := List.mem_map.1 hc
        exact hPL l hl x hx
      have hNA := name_any w0 N (g + 1) _ _ C (P.map Prod.snd) hN hgl hC0 hO HL.out hLO
      obtain ⟨hNm, hNC, hNO⟩ := named HL.out hLO
      obtain ⟨s, hs⟩ : ∃ s, hearC (hearC (List.replicate (N + 1) 0, []) C) (P.map Prod.snd) = s := ⟨_, rfl⟩
      rw [hs] at hNA hNm hNC hNO
      have HNA : Hid (Calls _ _ _ _ _) := hNA
      have HNM : Hid (NmOK N s) := hNm
      have HNC : Hid (∀ c ∈ C, ∀ x ∈ c, Nm N s x) := hNC
      have HNP : Hid (∀ l ∈ P, ∀ x ∈ l.2, Nm N s x) := fun l hl x hx => hNO l.2 (List.mem_map.2 ⟨l, hl, rfl⟩) x hx
      have HF0 : Hid (Fr (fun _ => True) w w0) := HF.out
      clear hNA hNm hNC hNO hs hLO hO hC0 hPL HPL hci hcz HF HRW hcur
      go_wp2_with fail
      go_at_call 13
      refine HNA.out.mono ?_
      rintro e w1 ⟨pb, fb, base, rfl, hA1, hpb, hF1⟩
      have HA1 : Hid (NmAt w1 N pb fb base s) := hA1
      have HF1 : Hid (Fr (fun _ => True) w w1) := HF0.out.trans hF1
      have HST : Hid (Calls _ _ _ _ _) := store_any w1 N pb fb base lo s C (.slice ca C.length cc) hN hA1 (HC.out.of (HF1.out.mono fun _ _ => trivial)) (by omega) (fun x hx => ⟨HCX.out x hx, fun y hy => HNC.out x hx y hy⟩)
      clear HNA HF0 hF1 hA1 hpb
      go_wp2_with fail
      go_at_call 15
      refine HST.out.mono ?_
      rintro e w2 ⟨cs, L, rfl, hcsl, hcss, hA2, hF2, hown2⟩
      have HNB : Hid (Calls _ _ _ _ _) := newBook_any w2 L.sb
      have hSO := newP_SO0 s.2.length HNM.out rfl HNC.out hcsl (by omega) hcss
      obtain ⟨bb, hbb⟩ : ∃ bb, w2.heap.size = bb := ⟨_, rfl⟩
      rw [hbb] at HNB
      have HPR : Hid (∀ w3, w3 = w2.alloc (.cells #[.pointer (some ⟨L.sb, 0, none⟩), .bool false, .bool false, .map none] 63) → ∃ L' t sure never mv, PrIs w1 N s bb (C.length + 0) C w3 L' t sure never mv) := by
        rintro w3 rfl
        refine ⟨nrm L w2.heap.size, addAll (newP s.2.length) cs, false, false, .map none, ⟨hA2.frl ((Fr.refl (fun _ => True) w2).alloc _) (fun b q => absurd trivial q), heap_new hbb, nrm_new (by omega)⟩, ⟨hSO.bb, fun q => by simp at q, fun q => by simp at q⟩, rfl, .inl ⟨rfl, addAll_some cs _ (fun r => by simp [newP])⟩, Cor.start _ HNC.out hcsl hcss, hSO.rl, hSO.em, fun k hk => nrm_zero fun _ => hown2 k hk, hF2.alloc _⟩
      have hbw : w1.heap.size ≤ bb := by have := hF2.size; omega
      clear HST hA2 hF2 hown2 hcsl hcss hSO
      go_wp2_with fail
      go_at_call 14
      refine HNB.out.mono ?_
      rintro e w3 ⟨rfl, hw3⟩
      have HPR3 : Hid (∃ L' t sure never mv, PrIs w1 N s bb (C.length + 0) C w3 L' t sure never mv) := HPR.out w3 hw3
      clear hw3 HPR HNB hbb
      go_wp2_with fail
      go_loopg [12, 52] (P.length) (fun k s12 s52 wr => ∃ (j : Nat) (Lc : List (List Int)) (sh : Bool), s52 = .int .i64 (j : Int) ∧ s12 = .bool sh ∧ j + k = P.length ∧ Hid (∃ L' t sure never mv, PrIs w1 N s bb (C.length + j) Lc wr L' t sure never mv) ∧ Hid (stepsP N (P.drop j) Lc sh = R))
      case atStart => exact ⟨0, C, false, rfl, rfl, by omega, HPR3, HS⟩
      case round =>
        clear HPR3 HS
        obtain ⟨j, Lc, sh, rfl, rfl, hjk, HPR, HU⟩ := hrel
        by_cases hj : j < P.length
        · obtain ⟨k, rfl⟩ : ∃ k, gk = k + 1 := ⟨gk - 1, by omega⟩
          obtain ⟨L, t, sure, never, mv, hPR⟩ := HPR.out
          have hFwr : Fr (fun _ => True) w wr := HF1.out.trans hPR.fr
          obtain ⟨b, off, u, hpa, cg, cu, hui⟩ := (HP.out.of (hFwr.mono fun _ _ => trivial)).cell hj
          subst hpa
          obtain ⟨gn, c, hx⟩ : ∃ gn c, P[j] = (gn, c) := ⟨_, _, rfl⟩
          rw [hx] at cg hui
          have hd : P.drop j = (gn, c) :: P.drop (j + 1) := by rw [List.drop_eq_getElem_cons hj, hx]
          have hmem : (gn, c) ∈ P := hx ▸ List.getElem_mem hj
          have hcN : ∀ y ∈ c, Nm N s y := HNP.out (gn, c) hmem
          have hcl : c.length ≤ 4294967296 := HPX.out (gn, c) hmem
          have hcl2 := hcl
          obtain ⟨ua, uc, hue, _⟩ := hui.ex
          subst hue
          have j0 : (0 : Int) ≤ (j : Int) := by omega
          have j1 : (j : Int) < (P.length : Int) := by omega
          have HUI : Hid (IntsAt wr lo (.slice ua c.length uc) c) := hui
          have HPR0 : Hid (PrIs w1 N s bb (C.length + j) Lc wr L t sure never mv) := hPR
          clear hui HPR hPR hFwr
          go_upto_region 17 with fail
          obtain ⟨q, hq⟩ : ∃ q, wr.heap.size = q := ⟨_, rfl⟩
          obtain ⟨W1, hW1⟩ : ∃ W1, wr.alloc (.cells #[.bool gn, .slice ua c.length uc] 36) = W1 := ⟨_, rfl⟩
          have hb1 : W1.heap[q]? = some (.cells #[.bool gn, .slice ua c.length uc] 36 (0, 0)) := by rw [← hW1]; exact heap_new hq
          have hf1 : Fr (fun _ => True) wr W1 := by rw [← hW1]; exact (Fr.refl _ wr).alloc _
          rw [hW1, hq]
          have c1 : W1.cell? ⟨q, 1, none⟩ = some (.slice ua c.length uc) := by rw [block_cell hb1]; rfl
          obtain ⟨hG1, _⟩ := HPR0.out.grow hf1
          have HG1 : Hid (PrIs w1 N s bb (C.length + j) Lc W1 (nrm L wr.heap.size) t sure never mv) := hG1
          have HSE : Hid (Calls _ _ _ _ _) := set2_any W1 N pb fb base lo s (.slice ua c.length uc) c hN (HA1.out.fr hG1.fr) (HUI.out.of (hf1.mono fun _ _ => trivial)) hcl (fun x hx => hcN x hx)
          have hu := HU.out
          rw [hd] at hu
          have HQ0 : Hid (stepsP N ((gn, c) :: P.drop (j + 1)) Lc sh = R) := hu
          clear hu HU hd HPR0 hW1 hf1 hG1 hx cg cu HUI hq hcl hmem
          go_wp2_with fail
          go_at_call 16
          refine HSE.out.mono ?_
          rintro e w4 ⟨hF4, cc', hset, hcase⟩
          obtain ⟨hG4, hM4⟩ := HG1.out.grow hF4
          have hbl1 := block_lt HG1.out.bk.bk
          have hsz1 := HG1.out.fr.size
          have c0 : w4.cell? ⟨q, 0, none⟩ = some (.bool gn) := by rw [block_cell ((hF4.block q (block_lt hb1) trivial).trans hb1)]; rfl
          rcases hcase with ⟨hal, rfl⟩ | ⟨hal, rfl, d, hdz, hdt, hdr⟩
          · -- always true
            have hai : alwaysI c = true := by rw [← always_map HNM.out hcN, alwaysP_key hset.key]; exact hal
            have HX : Hid (∃ Lc', (∃ L' t sure never mv, PrIs w1 N s bb (C.length + (j + 1)) Lc' w4 L' t sure never mv) ∧ stepsP N (P.drop (j + 1)) Lc' sh = R) := by
              have hmore : ∀ Lc', Cor N s Lc' t → ∃ L' t sure never mv, PrIs w1 N s bb (C.length + (j + 1)) Lc' w4 L' t sure never mv := fun Lc' q => ⟨_, t, sure, never, mv, hG4.bk, hG4.bi, hG4.sn, hG4.mv, q, by have := hG4.len; omega, by have := hG4.em; omega, hG4.own, hG4.fr⟩
              cases gn with
              | true =>
                have hu := HQ0.out
                unfold stepsP at hu
                exact ⟨_, hmore _ (hG4.cor.goneA HNM.out hcN hai), hu⟩
              | false =>
                have hu := HQ0.out
                unfold stepsP at hu
                rw [if_pos (always_in hG4.cor.nm hcN hai)] at hu
                have hl0 : decide (c.length = 0) = false := by
                  obtain ⟨y, hy, _⟩ := alwaysI_iff.1 hai
                  exact decide_eq_false fun e => by rw [List.eq_nil_of_length_eq_zero e] at hy; simp at hy
                rw [hl0, Bool.or_false] at hu
                exact ⟨_, hmore _ (hG4.cor.skip HNM.out hcN hai), hu⟩
            clear hG4 hM4 hset hal hF4 HG1 HSE HQ0 hb1
            obtain ⟨Lc', hA, hB⟩ := HX.out
            have HPR2 : Hid _ := hA
            have HQ2 : Hid _ := hB
            clear hA hB HX
            go_wp2_with fail
            go_roundg k
            case measure => omega
            case rel => exact ⟨j + 1, Lc', sh, by simp, rfl, by omega, HPR2, HQ2⟩
          · have hcbb : W1.heap.size ≠ bb := by omega
            have hM5 : MvAt w4 (fun k => (nrm (nrm L wr.heap.size) W1.heap.size).own k = (0, 0) ∧ k ≠ bb ∧ w1.heap.size ≤ k ∧ k ≠ W1.heap.size) t.rows mv := hM4.fr (fun _ _ _ => rfl) (fun k _ z => ⟨z.1, z.2.1, z.2.2.1, by have := z.2.2.2; omega⟩) (RP.refl _)
            have hdz2 : d.size ≤ 4294967296 := by
              omega
            cases gn with
            | true =>
              have HDL : Hid (Calls _ _ _ _ _) := drop_line hG4 hM5 hbw HNM.out hcN hset hdr hdt hdz2 hcbb (by omega) c.length
              have hu := HQ0.out
              unfold stepsP at hu
              have HQ2 : Hid (stepsP N (P.drop (j + 1)) (goneP c Lc) sh = R) := hu
              clear hG4 hM4 hM5 hset hal hF4 HG1 HSE HQ0 hb1 hdr hdt hdz hu
              go_wp2_with fail
              go_at_call 17
              refine HDL.out.mono ?_
              rintro e w5 ⟨rfl, hA⟩
              have HPR2 : Hid (∃ L' t sure never mv, PrIs w1 N s bb (C.length + (j + 1)) (goneP c Lc) w5 L' t sure never mv) := hA
              clear hA HDL
              go_wp2_with fail
              go_roundg k
              case measure => omega
              case rel => exact ⟨j + 1, _, sh, by simp, rfl, by omega, HPR2, HQ2⟩
            | false =>
              have hml := must_line hG4 hM5 hbw hsz1 HNM.out hcN hset hal hdr hdt hdz2 hcbb (nrm_new (Nat.le_refl _)) (by omega)
              rw [hdz] at hml
              have HML : Hid (Calls _ _ _ _ _) := hml
              have hu := HQ0.out
              unfold stepsP at hu
              have HQ2 : Hid ((if followP N Lc (c.map (- ·)) = some none then stepsP N (P.drop (j + 1)) (Lc ++ [c]) (sh || decide (c.length = 0)) else false) = R) := hu
              have hln : decide (c.length = 0) = decide (cc'.length = 0) := decide_eq_decide.2 (set_nil hset).symm
              clear hG4 hM4 hM5 hset hal hF4 HG1 HSE HQ0 hb1 hdr hdt hdz hu hml
              go_wp2_with fail
              go_at_call 18
              refine HML.out.mono ?_
              rintro e w5 ⟨m, rfl, hmi, hF5, hadd⟩
              cases m with
              | false =>
                have hq := HQ2.out
                rw [if_neg (fun q => by have := hmi.2 q; cases this)] at hq
                have HP9 : Hid (ChPost w R (.returned (.bool false)) w5) := ⟨by rw [← hq], HF1.out.trans hF5⟩
                clear hmi hF5 hadd HML hq HQ2
                go_wp2_with fail
                go_ret
                exact HP9.out
              | true =>
                have hq := HQ2.out
                rw [if_pos (hmi.1 rfl), hln] at hq
                have HQ3 : Hid (stepsP N (P.drop (j + 1)) (Lc ++ [c]) (sh || decide (cc'.length = 0)) = R) := hq
                have HAD : Hid (Calls _ _ _ _ _) := hadd rfl
                clear hmi hF5 hadd HML hq HQ2 hln
                go_wp2_with fail
                go_at_call 19
                refine HAD.out.mono ?_
                rintro e w6 ⟨rfl, hA⟩
                have HPR2 : Hid (∃ L' t sure never mv, PrIs w1 N s bb (C.length + (j + 1)) (Lc ++ [c]) w6 L' t sure never mv) := hA
                have hlz : (((cc'.length : Nat) : Int) == 0) = decide (cc'.length = 0) := by
                  by_cases h : cc'.length = 0
                  · rw [h]; rfl
                  · rw [decide_eq_false h, beq_eq_false_iff_ne]; omega
                clear hA HAD
                cases sh with
                | true =>
                  go_wp2_with fail
                  go_roundg k
                  case measure => omega
                  case rel => exact ⟨j + 1, _, true, by simp, rfl, by omega, HPR2, HQ3⟩
                | false =>
                  have HQ4 : Hid (stepsP N (P.drop (j + 1)) (Lc ++ [c]) (decide (cc' = [])) = R) := by
                    have := HQ3.out
                    rw [Bool.false_or, decide_eq_decide.2 List.length_eq_zero_iff] at this
                    exact this
                  go_wp2_with fail
                  go_roundg k
                  case measure => omega
                  case rel => exact ⟨j + 1, _, decide (cc' = []), by simp, rfl, by omega, HPR2, HQ4⟩
        · have j1 : ¬ (j : Int) < (P.length : Int) := by omega
          obtain rfl : j = P.length := by omega
          have hu := HU.out
          rw [List.drop_length] at hu
          have hu2 : sh = R := hu
          obtain ⟨L, t, sure, never, mv, hPR⟩ := HPR.out
          have HP9 : Hid (ChPost w R (.returned (.bool sh)) wr) := ⟨by rw [hu2], HF1.out.trans hPR.fr⟩
          clear hu hu2 HU HPR hPR
          go_wp2_with fail
          go_ret
          exact HP9.out

end Go.Proofs.Ytbicefgjompnoaa.Sx
/- The law: lists that are the same, copies. -/
namespace Go.Proofs.Ytbicefgjompnoaa.Sx
open Go.RowKit Go.Sort

set_option maxRecDepth 100000 in
set_option maxHeartbeats 1000000 in
theorem ints_same (w : World) (la lb : Nat) (va vb : Value) (l : List Int) (ha : IntsAt w la va l) (hb : IntsAt w lb vb l) : Calls Try.prog 24 #[va, vb] w fun e w' => e = .returned (.bool true) ∧ Fr (fun _ => True) w w' := by
  have mo := follows
  obtain ⟨aa, ca, rfl, _⟩ := ha.ex
  obtain ⟨ab, cb, rfl, _⟩ := hb.ex
  have hbg := ha.big
  have HA : Hid (IntsAt w la (.slice aa l.length ca) l) := ha
  have HB : Hid (IntsAt w lb (.slice ab l.length cb) l) := hb
  clear ha hb
  go_enter Try.func24, Try.ntmps24
  go_wp2_with fail
  go_loopg [5] (l.length) (fun k s5 wr => ∃ j : Nat, s5 = .int .i64 (j : Int) ∧ j + k = l.length ∧ Hid (Fr (fun _ => True) w wr))
  case atStart => exact ⟨0, rfl, by omega, Fr.refl _ _⟩
  case round =>
    obtain ⟨j, rfl, hjk, HF⟩ := hrel
    by_cases hj : j < l.length
    · obtain ⟨k, rfl⟩ : ∃ k, gk = k + 1 := ⟨gk - 1, by omega⟩
      obtain ⟨pa, rfl, c1, c2⟩ := HA.out.cell HF.out hj
      obtain ⟨pb, rfl, c3, c4⟩ := HB.out.cell HF.out hj
      generalize l[j] = x at c1 c2 c3 c4
      have j0 : (0 : Int) ≤ (j : Int) := by omega
      have j1 : (j : Int) < (l.length : Int) := by omega
      go_wp2_with fail
      go_quiet (fail)
      go_wp2_with fail
      have HF2 : Hid (Fr (fun _ => True) w (wr.drewN nq)) := HF.out.trans (Fr.grew (Grew.drewN (Grew.refl _) nq))
      clear HF
      go_roundg k
      case measure => omega
      case rel => exact ⟨j + 1, by simp, by omega, HF2⟩
    · have j1 : ¬ (j : Int) < (l.length : Int) := by omega
      go_wp2_with fail
      go_ret
      exact ⟨rfl, HF.out⟩

end Go.Proofs.Ytbicefgjompnoaa.Sx
