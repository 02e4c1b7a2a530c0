/- The library's sort of no element. -/
import Derived.Test.YtbogejmmkohbkaaGreatDoorGA8
import Derived.Test.YtbogejmmkohbkaaGreatDoorGLay
import Derived.Test.YtbogejmmkohbkaaGreatDoorGA9
import Derived.Lib.SliceRun
namespace Go.Proofs.YtbogejmmkohbkaaGreatDoor.Sx
open Go.RowKit Go.Sort

set_option maxRecDepth 100000 in
set_option maxHeartbeats 1000000 in
theorem insert_none (a : Option Addr) (cap : Nat) (fv : Value) (w : World) : Calls Tryz.prog 325 #[.slice a 0 cap, .int .i64 0, .int .i64 0, fv] w fun e w' => e = .returned (.tuple #[]) ∧ w' = w := by
  go_enter Tryz.func325, Tryz.ntmps325
  go_wp2_with fail
  refine wp_loop_rounds 1 ?_
  rw [rounds_succ]
  go_wp2_with fail
  go_end0
  exact ⟨rfl, rfl⟩

set_option maxRecDepth 100000 in
set_option maxHeartbeats 1000000 in
theorem pdq_none (a : Option Addr) (cap : Nat) (lim : Int) (fv : Value) (w : World) : Calls Tryz.prog 308 #[.slice a 0 cap, .int .i64 0, .int .i64 0, .int .i64 lim, fv] w fun e w' => e = .returned (.tuple #[]) ∧ w' = w := by
  have HI : Hid (∀ W, _) := fun W => insert_none a cap fv W
  go_enter Tryz.func308, Tryz.ntmps308
  go_wp2_with fail
  refine wp_loop_rounds 1 ?_
  rw [rounds_succ]
  go_wp2_with (go_at_call 325; refine (HI.out _).mono ?_; rintro e w' ⟨rfl, rfl⟩)
  (try simp only [Exit.inBlock, Exit.then]); refine bodyPost_ret (results_none rfl _ _ _) rfl ?_
  exact ⟨rfl, rfl⟩

set_option maxRecDepth 100000 in
set_option maxHeartbeats 1000000 in
theorem sort_none (a : Option Addr) (cap : Nat) (fv : Value) (w : World) : Calls Tryz.prog 274 #[.slice a 0 cap, fv] w fun e w' => e = .returned (.tuple #[]) ∧ w' = w := by
  have HP : Hid (∀ lim W, _) := fun lim W => pdq_none a cap lim fv W
  have HL : Hid (∀ W, _) := fun W => Tryz.bits_Len 0 W (by omega) (by omega)
  go_enter Tryz.func274, Tryz.ntmps274
  go_wp2_with (first | (go_at_call 281; refine (HL.out _).mono ?_; rintro e w' ⟨rfl, rfl⟩) | (go_at_call 308; refine (HP.out _ _).mono ?_; rintro e w' ⟨rfl, rfl⟩))
  go_end0
  exact ⟨rfl, rfl⟩
end Go.Proofs.YtbogejmmkohbkaaGreatDoor.Sx

namespace Go.Proofs.YtbogejmmkohbkaaGreatDoor.Sx
open Go.RowKit Go.Sort

theorem run_clear_V (w : World) (ty : TypeId) (b o n c : Nat) (hn : 0 < n) (hc : ∀ j, j < n → (w.cell? ⟨b, o + j, none⟩).isSome = true) (hf : ∀ j, j < n → w.frozen? ⟨b, o + j, none⟩ = false) :
    (Builtin.clear_ #[47] ty #[.slice (some ⟨b, o, none⟩) n c]).run Tryz.prog w = .ok (.tuple #[]) (w.setCells b o (List.replicate n .nilIface)) := by
  have hz : (Builtin.zeroCells (Value.agg #[Value.nilIface]).cells n).toList = List.replicate n .nilIface := by
    simp only [Value.cells, Builtin.zeroCells]
    apply List.ext_getElem
    · simp
    · intro i h1 h2
      simp [Nat.mod_one]
  have hst := run_storeCells_cells (P := Tryz.prog) b o (List.replicate n .nilIface) 0 w (by simpa using hc) (by simpa using hf) (by intro v hv; rw [List.eq_of_mem_replicate hv]; rfl)
  simp only [Nat.add_zero] at hst
  obtain ⟨m, rfl⟩ : ∃ m, n = m + 1 := ⟨n - 1, by omega⟩
  simp [Builtin.clear_, run_underlying Tryz.underlying47, hz, hst]

set_option maxRecDepth 100000 in
set_option maxHeartbeats 2000000 in
theorem compact_any (n : Nat) (W0 w : World) (g len cap : Nat) (hs : List (Held n W0)) (hW : Below W0.heap.size W0 w) (hg : W0.heap.size ≤ g) (hlen : hs.length = len) (hl : len ≤ 4294967296) (hcap : len ≤ cap) (hmax : cap ≤ 9223372036854775807) (hrow : MRow w g len (hs.map Held.v)) :
    Calls Tryz.prog 275 #[.slice (some ⟨g, 0, none⟩) len cap, .func (.func 194) #[] #[]] w fun e w' => ∃ rs : List (Held n W0), rs = compC (fun a b => cmpV n a.x b.x == 0) hs ∧ e = .returned (.slice (some ⟨g, 0, none⟩) rs.length cap) ∧
      (∀ i r, rs[i]? = some r → w'.cell? ⟨g, i, none⟩ = some r.v) ∧ Fr (· ≠ g) w w' := by
  by_cases h2 : len < 2
  · have HF : Hid (compC (fun a b : Held n W0 => cmpV n a.x b.x == 0) hs = hs) := by
      show _ = _
      match hs, hlen with
      | [], _ => rfl
      | [x], _ => rfl
      | x :: y :: l, hlen => simp at hlen; omega
    have HC : Hid (∀ i r, hs[i]? = some r → w.cell? ⟨g, i, none⟩ = some (Held.v r)) := by
      intro i r hr
      rw [(hrow.2.2 i (by have := (List.getElem?_eq_some_iff.1 hr).1; omega)).1, getD_map _ _ _ _ hr]
    clear hrow hW
    go_enter Tryz.func275, Tryz.ntmps275
    go_wp2_with fail
    go_ret
    exact ⟨hs, HF.out.symm, by rw [hlen]; rfl, HC.out, Fr.refl _ _⟩
  · have mo := follows
    have HM : Hid (MRow w g len (hs.map Held.v)) := hrow
    have HW : Hid (Below W0.heap.size W0 w) := hW
    have HS : Hid (∀ (a b : Held n W0) (W : World), Fr (· ≠ g) w W → _) := fun (a b : Held n W0) (W : World) (hF : Fr (· ≠ g) w W) =>
      same_any n W a.x b.x a.v b.v (a.h.below ⟨hF.os.trans HW.out.os, hF.tape.trans HW.out.tape, hF.output.trans HW.out.output, Nat.le_trans HW.out.size hF.size, fun k hk => (hF.block k (Nat.lt_of_lt_of_le hk HW.out.size) (by omega)).trans (HW.out.block k hk)⟩ n _ _) (b.h.below ⟨hF.os.trans HW.out.os, hF.tape.trans HW.out.tape, hF.output.trans HW.out.output, Nat.le_trans HW.out.size hF.size, fun k hk => (hF.block k (Nat.lt_of_lt_of_le hk HW.out.size) (by omega)).trans (HW.out.block k hk)⟩ n _ _)
    clear hrow hW
    obtain ⟨E, hE⟩ : ∃ E : Held n W0 → Held n W0 → Bool, E = fun a b => cmpV n a.x b.x == 0 := ⟨_, rfl⟩
    have HE : Hid (∀ (a b : Held n W0) (W : World), Fr (· ≠ g) w W → Calls Tryz.prog 194 #[.agg #[a.v], .agg #[b.v]] W fun e w' => e = .returned (.bool (E a b)) ∧ Grew W w') := by rw [hE]; exact HS.out
    clear HS
    rw [← hE]
    clear hE HW
    have st : ∀ a : Held n W0, ∀ (ad : Addr) (m : Mode) (w : World), Sem.run Tryz.prog (store ad a.v m) w = stored Tryz.prog w ad a.v m := fun a => store_one a.h.one
    go_enter Tryz.func275, Tryz.ntmps275
    go_wp2_with fail
    go_loopw [5] (fun i wr => ∃ j : Nat, j + 1 ≤ len ∧ i = .int .i64 ((j : Int) + 1) ∧ Hid (Grew w wr) ∧ Hid (∀ p, hs[j]? = some p → compC E hs = hs.take (j + 1) ++ goC E p (hs.drop (j + 1)))) (fun i _ => len - (intOf i).toNat)
    case atStart => exact ⟨0, by omega, rfl, Grew.refl w, fun p hp => compC_start E hp⟩
    case round =>
      obtain ⟨j, hj, rfl, HG, HQ⟩ := hrel
      by_cases hlt : j + 1 < len
      · obtain ⟨p, hp⟩ : ∃ p, hs[j]? = some p := ⟨_, List.getElem?_eq_getElem (by omega)⟩
        obtain ⟨x, hx⟩ : ∃ x, hs[j + 1]? = some x := ⟨_, List.getElem?_eq_getElem (by omega)⟩
        have HQ' := HQ.out p hp
        rw [goC_step E hx] at HQ'
        have hmr := HM.out.fr (P := fun _ => True) (Fr.grew HG.out) trivial
        have d0 := (hmr.2.2 j (by omega)).1
        have d1 := (hmr.2.2 (j + 1) (by omega)).1
        rw [getD_map _ _ _ _ hp] at d0
        rw [getD_map _ _ _ _ hx] at d1
        have hgl := hmr.1
        have g0 := cell_grown (w := wr) (a := ⟨g, j, none⟩) hgl d0
        have g1 := cell_grown (w := wr) (a := ⟨g, j + 1, none⟩) hgl d1
        have HX : Hid (hs[j + 1]? = some x) := hx
        have HPp : Hid (hs[j]? = some p) := hp
        have HEx : Hid (∀ W : World, Fr (· ≠ g) w W → _) := HE.out x p
        have HQQ : Hid (compC E hs = _) := HQ'
        have MR : Hid (MRow wr g len _) := hmr
        clear hp hx HQ' hmr d0 d1 HQ
        have lt' : (j : Int) + 1 < (len : Int) := by omega
        generalize hb : E x p = b at HEx HQQ
        have HEB : Hid (E x p = b) := hb
        clear hb
        obtain ⟨iN, hiN⟩ : ∃ q, q = j + 1 := ⟨_, rfl⟩
        obtain ⟨jN, hjN⟩ : ∃ q, q = j := ⟨_, rfl⟩
        have ea : ((j : Int) + 1).toNat = iN := by omega
        have pa : (0 : Int) ≤ (j : Int) + 1 := by omega
        have ra : IntKind.i64.wrap ((j : Int) + 1) = (j : Int) + 1 := by rw [IntKind.wrap_i64]; omega
        have ec : ((j : Int)).toNat = jN := by omega
        have pc : (0 : Int) ≤ (j : Int) := by omega
        have bc : (j : Int) < (len : Int) := by omega
        have rc : IntKind.i64.wrap ((j : Int)) = (j : Int) := by rw [IntKind.wrap_i64]; omega
        rw [← hiN] at g1
        rw [← hjN] at g0
        clear hiN hjN
        go_wp2_with fail
        go_quiet_grown (first | (go_at_call 194; refine Calls.grown_of (HEx.out _ (Fr.grew (HG.out.grown _ _)))))
        clear ea pa ra ec pc bc rc
        have G1 : Hid (Grew w (grow (wr.drewN nq) osq)) := HG.out.grown _ _
        have M1 : Hid (MRow (grow (wr.drewN nq) osq) g len _) := MR.out.fr (P := fun _ => True) (Fr.grew ⟨nq, osq, rfl⟩) trivial
        clear g0 g1 HG MR
        generalize grow (wr.drewN nq) osq = W1 at G1 M1 ⊢
        clear nq osq
        cases b with
        | false =>
          go_wp2_with fail
          go_roundw
          case rel =>
            refine ⟨j + 1, by omega, by go_num, G1, fun q hq => ?_⟩
            have e1 := HX.out
            rw [e1] at hq
            simp only [Option.some.injEq] at hq
            subst hq
            have := HQQ.out
            simp only [Bool.false_eq_true, if_false] at this
            rw [this, List.take_add_one (i := j + 1), e1]
            simp
          case measure => simp [intOf]; omega
        | true =>
          have HQ2 : Hid (compC E hs = hs.take (j + 1) ++ goC E x (hs.drop (j + 1 + 1))) := by have := HQQ.out; show _ = _; simpa using this
          clear HQQ HEx
          go_wp2_with fail
          generalize hL2 : len - (j + 1) = L2
          generalize cap - (j + 1) = C2
          clear HEB
          go_loopw [5, 7] (fun s5 s7 wr => ∃ (kk t : Nat) (ys : List (Held n W0)), s5 = .int .i64 kk ∧ s7 = .int .i64 ((t : Int) + 1) ∧ t + 1 ≤ L2 ∧ kk ≤ j + 1 + t ∧ ys.length = len ∧ Hid (MRow wr g len (ys.map Held.v)) ∧ Hid (∀ q, j + 1 + t ≤ q → ys[q]? = hs[q]?) ∧
            Hid (∀ p, hs[j + 1 + t]? = some p → compC E hs = ys.take kk ++ goC E p (hs.drop (j + 1 + t + 1))) ∧ Hid (Fr (· ≠ g) w wr)) (fun _ s7 _ => L2 - (intOf s7).toNat)
          case atStart =>
            refine ⟨j + 1, 0, hs, by go_num, rfl, by omega, by omega, hlen, M1, fun q _ => rfl, fun q hq => ?_, Fr.grew G1.out⟩
            have e1 := HX.out
            rw [Nat.add_zero] at hq
            rw [e1] at hq
            simp only [Option.some.injEq] at hq
            subst hq
            exact HQ2.out
          case round =>
            obtain ⟨kk, t, ys, rfl, rfl, ht, hkk, hyl, MR, HY, HQ, HF⟩ := hrel
            have hgl := MR.out.1
            by_cases hlt2 : t + 1 < L2
            · obtain ⟨p2, hp2⟩ : ∃ p, hs[j + 1 + t]? = some p := ⟨_, List.getElem?_eq_getElem (by omega)⟩
              obtain ⟨u, hu⟩ : ∃ u, hs[j + 1 + t + 1]? = some u := ⟨_, List.getElem?_eq_getElem (by omega)⟩
              have HQ' := HQ.out p2 hp2
              rw [goC_step E hu] at HQ'
              have d0 := (MR.out.2.2 (j + 1 + t) (by omega)).1
              have d1 := (MR.out.2.2 (j + 1 + t + 1) (by omega)).1
              have dk := MR.out.2.2 kk (by omega)
              rw [getD_map _ _ _ _ ((HY.out _ (Nat.le_refl _)).trans hp2)] at d0
              rw [getD_map _ _ _ _ ((HY.out _ (by omega)).trans hu)] at d1
              obtain ⟨iN, hiN⟩ : ∃ q, q = t + 1 := ⟨_, rfl⟩
              obtain ⟨jN, hjN⟩ : ∃ q, q = t := ⟨_, rfl⟩
              have ea : ((t : Int) + 1).toNat = iN := by omega
              have pa : (0 : Int) ≤ (t : Int) + 1 := by omega
              have ba : (t : Int) + 1 < (L2 : Int) := by omega
              have ra : IntKind.i64.wrap ((t : Int) + 1) = (t : Int) + 1 := by rw [IntKind.wrap_i64]; omega
              have ec : ((t : Int)).toNat = jN := by omega
              have pc : (0 : Int) ≤ (t : Int) := by omega
              have bc : (t : Int) < (L2 : Int) := by omega
              have rc : IntKind.i64.wrap ((t : Int)) = (t : Int) := by rw [IntKind.wrap_i64]; omega
              rw [show j + 1 + t + 1 = j + 1 + iN from by omega] at d1
              rw [show j + 1 + t = j + 1 + jN from by omega] at d0
              have g0 := cell_grown (w := wr) (a := ⟨g, j + 1 + jN, none⟩) hgl d0
              have g1 := cell_grown (w := wr) (a := ⟨g, j + 1 + iN, none⟩) hgl d1
              have HIN : Hid (iN = t + 1) := hiN
              have HU : Hid (hs[j + 1 + t + 1]? = some u) := hu
              have HEx : Hid (∀ W : World, Fr (· ≠ g) w W → _) := HE.out u p2
              have HQQ : Hid (compC E hs = _) := HQ'
              clear hiN hjN hp2 hu HQ' d0 d1 HQ
              generalize hb : E u p2 = b at HEx HQQ
              clear hb
              go_wp2_with fail
              go_quiet_grown (first | (go_at_call 194; refine Calls.grown_of (HEx.out _ (HF.out.trans (Fr.grew ⟨_, _, rfl⟩)))))
              have e1 := g1 nq osq
              clear g0 g1
              have F1 : Hid (Fr (· ≠ g) w (grow (wr.drewN nq) osq)) := HF.out.trans (Fr.grew ⟨nq, osq, rfl⟩)
              have M1 : Hid (MRow (grow (wr.drewN nq) osq) g len _) := MR.out.fr (P := fun _ => True) (Fr.grew ⟨nq, osq, rfl⟩) trivial
              clear dk MR HF hgl
              generalize grow (wr.drewN nq) osq = W2 at F1 M1 e1 ⊢
              clear nq osq
              have dk := M1.out.2.2 kk (by omega)
              obtain ⟨dk1, dk2⟩ := dk
              cases b with
              | true =>
                have HQ3 : Hid (compC E hs = ys.take kk ++ goC E u (hs.drop (j + 1 + t + 1 + 1))) := by have := HQQ.out; show _ = _; simpa using this
                clear HQQ HEx dk1 dk2 e1
                go_wp2_with fail
                go_roundw
                case rel =>
                  refine ⟨kk, t + 1, ys, rfl, by go_num, by omega, by omega, hyl, M1, fun q hq => HY.out q (by omega), fun q hq => ?_, F1⟩
                  have e1 := HU.out
                  rw [show j + 1 + (t + 1) = j + 1 + t + 1 from by omega] at hq ⊢
                  rw [e1] at hq
                  simp only [Option.some.injEq] at hq
                  subst hq
                  exact HQ3.out
                case measure => simp [intOf]; omega
              | false =>
                have HQ3 : Hid (compC E hs = ys.take kk ++ u :: goC E u (hs.drop (j + 1 + t + 1 + 1))) := by have := HQQ.out; show _ = _; simpa using this
                have su := st u
                clear HQQ HEx
                go_wp2_with fail
                go_roundw
                case rel =>
                  refine ⟨kk + 1, t + 1, ys.set kk u, by go_num, by go_num, by omega, by omega, by simpa using hyl, ?_, fun q hq => ?_, fun q hq => ?_, ?_⟩
                  · show MRow _ _ _ _
                    have := M1.out.set kk (by omega) u.v
                    rw [← List.map_set] at this
                    exact this
                  · rw [List.getElem?_set_ne (by omega)]; exact HY.out q (by omega)
                  · have e1 := HU.out
                    rw [show j + 1 + (t + 1) = j + 1 + t + 1 from by omega] at hq ⊢
                    rw [e1] at hq
                    simp only [Option.some.injEq] at hq
                    subst hq
                    rw [HQ3.out, List.take_add_one, List.getElem?_set_self (by omega), List.take_set_of_le (Nat.le_refl _)]
                    simp
                  · exact F1.out.set (by simp) _
                case measure => simp [intOf]; omega
            · obtain ⟨p2, hp2⟩ : ∃ p, hs[j + 1 + t]? = some p := ⟨_, List.getElem?_eq_getElem (by omega)⟩
              have HQ' := HQ.out p2 hp2
              rw [List.drop_of_length_le (by omega)] at HQ'
              have HR : Hid (compC E hs = ys.take kk) := by show _ = _; rw [HQ']; simp [goC]
              have hkl : (kk : Int) < (len : Int) := by omega
              have hcl := fun ty => run_clear_V wr ty g kk (len - kk) (cap - kk) (by omega) (fun q hq => by rw [(MR.out.2.2 (kk + q) (by omega)).1]; rfl) (fun q hq => (MR.out.2.2 (kk + q) (by omega)).2)
              clear HQ' HQ hp2 HE HM st
              go_wp2_with fail
              go_ret
              refine ⟨ys.take kk, HR.out.symm, by rw [List.length_take, show min kk ys.length = kk from by omega]; rfl, fun i r hr => ?_, Fr.setCells (by simp) _ _ HF.out⟩
              have hik : i < kk := by have := (List.getElem?_eq_some_iff.1 hr).1; rw [List.length_take] at this; omega
              rw [cell_setCells _ _ _ _ hik, (MR.out.2.2 i (by omega)).1, getD_map _ _ _ _ (by rw [List.getElem?_take, if_pos hik] at hr; exact hr)]
      · obtain ⟨p, hp⟩ : ∃ p, hs[j]? = some p := ⟨_, List.getElem?_eq_getElem (by omega)⟩
        have HQ' := HQ.out p hp
        rw [List.drop_of_length_le (by omega), List.take_of_length_le (by omega)] at HQ'
        have HR : Hid (compC E hs = hs) := by show _ = _; rw [HQ']; simp [goC]
        have MR := HM.out.fr (P := fun _ => True) (Fr.grew HG.out) trivial
        have MR : Hid (MRow wr g len _) := MR
        clear HQ' HQ hp HE HM st
        go_wp2_with fail
        go_ret
        refine ⟨hs, HR.out.symm, by rw [hlen]; rfl, fun i r hr => ?_, Fr.grew HG.out⟩
        rw [(MR.out.2.2 i (by have := (List.getElem?_eq_some_iff.1 hr).1; omega)).1, getD_map _ _ _ _ hr]
end Go.Proofs.YtbogejmmkohbkaaGreatDoor.Sx

namespace Go.Proofs.YtbogejmmkohbkaaGreatDoor.Sx
open Go.RowKit Go.Sort

def encH {n : Nat} {W : World} (a : Held n W) : List Value := [a.v]

theorem swo_of {α : Type} {c : α → α → Int} (h : Ord3 c) : SWO (ltOf c) where
  irrefl x := by simp [ltOf, h.self x]
  trans x y z h1 h2 := by
    simp only [ltOf, decide_eq_true_eq] at *
    have := h.trans x y z (by omega) (by omega)
    rcases h.rng x z with q | q | q
    · omega
    · have := h.sub q y
      have := h.anti y z
      omega
    · omega
  ntrans x y z h1 h2 := by
    simp only [ltOf, decide_eq_false_iff_not] at *
    have a1 := h.anti x y
    have a2 := h.anti y z
    have := h.trans z y x (by omega) (by omega)
    have := h.anti x z
    omega

theorem below_sortWorld {n : Nat} {W0 : World} [Inhabited (Held n W0)] (w : World) (g m : Nat) (dk : Array (Held n W0)) (os : Array Obj) : Fr (· ≠ g) w (sortWorldK encH 1 w g 0 m dk os) := by
  refine ⟨rfl, rfl, rfl, ?_, fun k hk hkg => ?_⟩
  · show w.heap.size ≤ (grow (putRowK encH 1 (Sort.ahead w m) g 0 dk) os).heap.size
    simp [putRowK, putRow, mapBlock, Sort.ahead]
  · show (grow (putRowK encH 1 (Sort.ahead w m) g 0 dk) os).heap[k]? = _
    rw [heap_grow_old _ _ (by simpa [putRowK, putRow, mapBlock, Sort.ahead] using hk)]
    simp only [putRowK, putRow, mapBlock, Sort.ahead, Array.getElem?_modify]
    rw [if_neg (fun e => hkg e.symm)]

theorem sort_any (n : Nat) (W0 w : World) (g len cap : Nat) (hs : List (Held n W0)) (hW : Below W0.heap.size W0 w) (hg : W0.heap.size ≤ g) (hlen : hs.length = len) (h0 : 0 < len) (hl : len ≤ 4294967296) (hrow : MRow w g len (hs.map Held.v)) :
    Calls Tryz.prog 274 #[.slice (some ⟨g, 0, none⟩) len cap, .func (.func 17) #[] #[]] w fun e w' => e = .returned (.tuple #[]) ∧ ∃ rs : List (Held n W0), rs.Perm hs ∧ rs.Pairwise (fun a b => cmpV n a.x b.x ≤ 0) ∧ MRow w' g len (rs.map Held.v) ∧ Fr (· ≠ g) w w' := by
  obtain ⟨x0, hx0⟩ : ∃ x, hs[0]? = some x := ⟨_, List.getElem?_eq_getElem (by omega)⟩
  let inst : Inhabited (Held n W0) := ⟨x0⟩
  have eg : ∀ args w, (callFunc 17 args).run Tryz.prog w = .ok (.enter 17 args) w := enters_of Tryz.func17 (by kernel_rfl) rfl
  have hcmp : CmpLays Tryz.prog 17 #[] encH 1 (fun a b : Held n W0 => cmpV n a.x b.x) g 0 hs.toArray.size w := by
    intro m os dk _ a b
    have hb := below_fr hW (below_sortWorld w g m dk os) hg
    exact compare_any n _ a.x b.x a.v b.v (a.h.below hb n _ _) (b.h.below hb n _ _)
  have hH : HoldsK encH 1 w g 0 hs.toArray := by
    intro j hj
    rw [size_flatK] at hj
    rw [get_flatK _ _ _ _ hj]
    have hj' : j < len := by simpa [hlen] using hj
    obtain ⟨a, b⟩ := hrow.2.2 j hj'
    have e : (encH hs.toArray[j / 1]!)[j % 1]! = (hs.map Held.v).getD j .nilIface := by
      rw [getD_map Held.v hs j hs[j] (List.getElem?_eq_getElem (by omega))]
      have hjl : j < hs.length := by omega
      simp [encH, Nat.mod_one, hjl]
    rw [e, Nat.zero_add]
    exact ⟨a, b⟩
  have hcon := AnyQ.slices_SortFunc Tryz.sortV 1 (fun w => by kernel_rfl) (fun w => by kernel_rfl) encH (fun _ => rfl) (fun x v hv => by simp [encH] at hv; subst hv; exact x.h.one) (fun a b : Held n W0 => cmpV n a.x b.x) (swo_of ((ord n).pull Held.x)) 17 #[] g 0 cap hs.toArray w eg hcmp hH hrow.1 (by simp; omega)
  change Calls Tryz.prog 274 _ _ _ at hcon
  rw [show hs.toArray.size = len from by simpa using hlen] at hcon
  refine hcon.mono ?_
  rintro e w' ⟨rfl, d', q, os, hp, hsd, rfl⟩
  refine ⟨rfl, d'.toList, ?_, ?_, ?_, below_sortWorld _ _ _ _ _⟩
  · have := hp.2.2
    have hsz := hp.1
    simp only [List.size_toArray] at hsz
    rw [Array.extract_eq_self_of_le (show d'.size ≤ len by omega), Array.extract_eq_self_of_le (show hs.toArray.size ≤ len by simp; omega)] at this
    simpa using this
  · have hsz := hp.1
    simp only [List.size_toArray] at hsz
    rw [List.pairwise_iff_getElem]
    intro i j hi hj hij
    simp only [Array.length_toList] at hi hj
    have := hsd i j (Nat.zero_le _) hij (by omega)
    rw [getElem!_pos d' i hi, getElem!_pos d' j hj] at this
    simp only [ltOf, decide_eq_false_iff_not] at this
    have a := (ord n).anti d'[i].x d'[j].x
    simp only [Array.getElem_toList]
    omega
  · have hsz := hp.1
    simp only [List.size_toArray] at hsz
    have hH' := holdsK_sortWorldK_c encH 1 w g 0 hs.toArray d' q os hH hrow.1 hp.1
    refine ⟨Nat.lt_of_lt_of_le hrow.1 (below_sortWorld w g q d' os).size, by simp; omega, fun i hi => ?_⟩
    have := hH' i (by rw [size_flatK]; omega)
    rw [get_flatK _ _ _ _ (by omega), Nat.zero_add] at this
    have hid : i < d'.size := by omega
    have e : (encH d'[i / 1]!)[i % 1]! = (d'.toList.map Held.v).getD i .nilIface := by
      rw [getD_map Held.v d'.toList i d'[i] (by simp [hid])]
      simp [encH, Nat.mod_one, hid]
    rw [e] at this
    exact this

theorem clone_any (w : World) (b off len cap : Nat) (vs : List Value) (hlen : vs.length = len) (hl : len ≤ 4294967296) (hc : ∀ j u, vs[j]? = some u → w.cell? ⟨b, off + j, none⟩ = some u) (h1 : ∀ u ∈ vs, u.oneCell' = true) :
    Calls Tryz.prog 237 #[.slice (some ⟨b, off, none⟩) len cap] w fun e w' => ∃ g cap', e = .returned (.slice (some ⟨g, 0, none⟩) len cap') ∧ w.heap.size ≤ g ∧ len ≤ cap' ∧ cap' ≤ 9223372036854775807 ∧ MRow w' g len vs ∧ Below w.heap.size w w' := by
  obtain ⟨i0, hi, hz0, hz1, hz2⟩ := info_parts info23
  have hcon := AnyE.slices_Clone Tryz.cloneV i0 (.agg #[.nilIface]) 1 16 hi hz0 hz1 hz2 rfl (by decide) (fun w => by kernel_rfl) b off len cap vs w (by omega) (by unfold maxLen; omega) (by omega) hc h1
  change Calls Tryz.prog 237 _ _ _ at hcon
  refine hcon.mono ?_
  rintro e w' ⟨v', rfl, ho, hne, hb⟩
  rcases ho.2 with ⟨h', _⟩ | ⟨g, cap', cur, rfl, hgb, hq, hn, hcm, hcs, htk⟩
  · exact absurd h' hne
  · refine ⟨g, cap', rfl, hgb, hn, by unfold maxLen at hcm; exact hcm, ⟨block_lt hq, hlen, fun i hi => ?_⟩, hb⟩
    refine ⟨?_, ho.frozenAt i⟩
    rw [ho.cellAt i (by omega), List.getElem?_eq_getElem (by omega)]
    simp [List.getD, show i < vs.length by omega]

/-- two ascending lists with the same elements are one -/
theorem asc_one {α : Type} {c : α → α → Int} (h : Ord3 c) : ∀ (l m : List α), Asc c l → Asc c m → (∀ x, x ∈ l ↔ x ∈ m) → l = m
  | [], [], _, _, _ => rfl
  | [], y :: m, _, _, e => absurd ((e y).2 (by simp)) (by simp)
  | x :: l, [], _, _, e => absurd ((e x).1 (by simp)) (by simp)
  | x :: l, y :: m, hl, hm, e => by
    obtain ⟨l1, l2⟩ := List.pairwise_cons.1 hl
    obtain ⟨m1, m2⟩ := List.pairwise_cons.1 hm
    have hxy : x = y := by
      rcases List.mem_cons.1 ((e x).1 (by simp)) with q | q
      · exact q
      · rcases List.mem_cons.1 ((e y).2 (by simp)) with r | r
        · exact r.symm
        · have a := m1 x q
          have b := l1 y r
          have := h.anti x y
          omega
    subst hxy
    have irr : ∀ z, z ∈ l → z ≠ x := fun z hz q => by subst q; have := l1 z hz; have := h.self z; omega
    have irm : ∀ z, z ∈ m → z ≠ x := fun z hz q => by subst q; have := m1 z hz; have := h.self z; omega
    rw [asc_one h l m l2 m2 fun z => ⟨fun hz => by
      rcases List.mem_cons.1 ((e z).1 (by simp [hz])) with q | q
      · exact absurd q (irr z hz)
      · exact q, fun hz => by
      rcases List.mem_cons.1 ((e z).2 (by simp [hz])) with q | q
      · exact absurd q (irm z hz)
      · exact q⟩]

/-- the elements of a list, ascending, each once -/
def insA {α : Type} (c : α → α → Int) (x : α) : List α → List α
  | [] => [x]
  | y :: l => if c x y < 0 then x :: y :: l else if c x y = 0 then y :: l else y :: insA c x l
def normA {α : Type} (c : α → α → Int) (l : List α) : List α := l.foldr (insA c) []

theorem insA_mem {α : Type} {c : α → α → Int} (he : ∀ a b, c a b = 0 → a = b) (x : α) : ∀ (l : List α) (z : α), z ∈ insA c x l ↔ z = x ∨ z ∈ l
  | [], z => by simp [insA]
  | y :: l, z => by
    simp only [insA]
    split
    · simp
    · split
      · rename_i _ h; have := he x y h; subst this; simp
      · simp only [List.mem_cons, insA_mem he x l z]
        constructor
        · rintro (h | h | h)
          · exact .inr (.inl h)
          · exact .inl h
          · exact .inr (.inr h)
        · rintro (h | h | h)
          · exact .inr (.inl h)
          · exact .inl h
          · exact .inr (.inr h)
theorem insA_asc {α : Type} {c : α → α → Int} (h : Ord3 c) (he : ∀ a b, c a b = 0 → a = b) (x : α) : ∀ (l : List α), Asc c l → Asc c (insA c x l)
  | [], _ => List.pairwise_cons.2 ⟨by simp, List.Pairwise.nil⟩
  | y :: l, hl => by
    obtain ⟨l1, l2⟩ := List.pairwise_cons.1 hl
    simp only [insA]
    split
    · rename_i hlt
      refine List.pairwise_cons.2 ⟨fun z hz => ?_, hl⟩
      rcases List.mem_cons.1 hz with q | q
      · subst q; exact hlt
      · exact of_decide_eq_true ((swo_of h).trans x y z (decide_eq_true hlt) (decide_eq_true (l1 z q)))
    · split
      · exact hl
      · rename_i h1 h2
        refine List.pairwise_cons.2 ⟨fun z hz => ?_, insA_asc h he x l l2⟩
        rcases (insA_mem he x l z).1 hz with q | q
        · subst q
          have := h.anti z y
          rcases h.rng z y with r | r | r <;> omega
        · exact l1 z q
theorem normA_mem {α : Type} {c : α → α → Int} (he : ∀ a b, c a b = 0 → a = b) (l : List α) (z : α) : z ∈ normA c l ↔ z ∈ l := by
  induction l with
  | nil => simp [normA]
  | cons x l ih =>
    show z ∈ insA c x (normA c l) ↔ _
    rw [insA_mem he, ih]; simp
theorem normA_asc {α : Type} {c : α → α → Int} (h : Ord3 c) (he : ∀ a b, c a b = 0 → a = b) (l : List α) : Asc c (normA c l) := by
  induction l with
  | nil => exact List.Pairwise.nil
  | cons x l ih => exact insA_asc h he x _ ih
end Go.Proofs.YtbogejmmkohbkaaGreatDoor.Sx

namespace Go.Proofs.YtbogejmmkohbkaaGreatDoor.Sx
open Go.RowKit Go.Sort

theorem held_of {n : Nat} {P : Nat → Prop} {w : World} {b : Nat} : ∀ (es : List (AV n)) (off : Nat), (∀ i x, es[i]? = some x → ∃ v, w.cell? ⟨b, off + i, none⟩ = some v ∧ RepP P w n x v) →
    ∃ hs : List (Held n w), hs.map Held.x = es ∧ (∀ i r, hs[i]? = some r → w.cell? ⟨b, off + i, none⟩ = some r.v) ∧ ∀ r ∈ hs, RepP P w n r.x r.v
  | [], _, _ => ⟨[], rfl, by simp, by simp⟩
  | x :: es, off, h => by
    obtain ⟨v, hv, hr⟩ := h 0 x rfl
    obtain ⟨hs, h1, h2, h3⟩ := held_of es (off + 1) fun i y hy => by
      obtain ⟨u, hu, hr⟩ := h (i + 1) y (by simpa using hy)
      exact ⟨u, by rw [show off + 1 + i = off + (i + 1) from by omega]; exact hu, hr⟩
    refine ⟨⟨x, v, hr.rep n x v⟩ :: hs, by simp [h1], fun i r hir => ?_, fun r hm => ?_⟩
    · cases i with
      | zero => simp at hir; subst hir; simpa using hv
      | succ i => rw [show off + (i + 1) = off + 1 + i from by omega]; exact h2 i r (by simpa using hir)
    · rcases List.mem_cons.1 hm with q | q
      · subst q; exact hr
      · exact h3 r q

theorem comp_norm {n : Nat} {W : World} (hs rs : List (Held n W)) (hp : rs.Perm hs) (hsrt : rs.Pairwise fun a b => cmpV n a.x b.x ≤ 0) : (compC (fun a b : Held n W => cmpV n a.x b.x == 0) rs).map Held.x = normA (cmpV n) (hs.map Held.x) := by
  have O := (ord n).pull (Held.x (n := n) (W := W))
  have he := fun a b => (cmpV_eq n a b).1
  refine asc_one (ord n) _ _ ?_ (normA_asc (ord n) he _) fun z => ?_
  · cases rs with
    | nil => exact List.Pairwise.nil
    | cons p l =>
      have := (goC_sorted (fun a b : Held n W => cmpV n a.x b.x) O.rng O.anti O.trans p l hsrt).1
      exact List.pairwise_map.2 this
  · rw [normA_mem he]
    constructor
    · intro hz
      obtain ⟨r, hr, rfl⟩ := List.mem_map.1 hz
      exact List.mem_map.2 ⟨r, hp.mem_iff.1 (compC_mem _ _ r hr), rfl⟩
    · intro hz
      obtain ⟨r, hr, rfl⟩ := List.mem_map.1 hz
      have hr' := hp.mem_iff.2 hr
      cases rs with
      | nil => simp at hr'
      | cons p l =>
        have cov := (goC_sorted (fun a b : Held n W => cmpV n a.x b.x) O.rng O.anti O.trans p l hsrt).2
        rcases List.mem_cons.1 hr' with q | q
        · exact List.mem_map.2 ⟨r, by rw [q]; simp [compC], rfl⟩
        · obtain ⟨z, hz, e⟩ := cov r q
          exact List.mem_map.2 ⟨z, hz, ((cmpV_eq n _ _).1 e).symm⟩

set_option maxRecDepth 100000 in
theorem compact_nil (fv : Value) (w : World) : Calls Tryz.prog 275 #[.slice none 0 0, fv] w fun e w' => e = .returned (.slice none 0 0) ∧ w' = w := by
  go_enter Tryz.func275, Tryz.ntmps275
  go_wp2_with fail
  go_ret
  exact ⟨rfl, rfl⟩

theorem clone_nil (n c : Nat) (w : World) : Calls Tryz.prog 237 #[.slice none n c] w fun e w' => e = .returned (.slice none 0 0) ∧ w' = w :=
  AnyE.slices_Clone_nil Tryz.cloneV n c w

/-- the three steps: a copy, sorted, each once -/
theorem sort_held (n : Nat) (W0 w : World) (g len cap : Nat) (hs : List (Held n W0)) (hW : Below W0.heap.size W0 w) (hg : W0.heap.size ≤ g) (hlen : hs.length = len) (hl : len ≤ 4294967296) (hrow : MRow w g len (hs.map Held.v)) :
    Calls Tryz.prog 274 #[.slice (some ⟨g, 0, none⟩) len cap, .func (.func 17) #[] #[]] w fun e w' => e = .returned (.tuple #[]) ∧ ∃ rs : List (Held n W0), rs.Perm hs ∧ rs.Pairwise (fun a b => cmpV n a.x b.x ≤ 0) ∧ MRow w' g len (rs.map Held.v) ∧ Fr (· ≠ g) w w' := by
  by_cases h0 : 0 < len
  · exact sort_any n W0 w g len cap hs hW hg hlen h0 hl hrow
  · obtain rfl : len = 0 := by omega
    obtain rfl : hs = [] := List.length_eq_zero_iff.1 hlen
    refine (sort_none _ _ _ w).mono ?_
    rintro e w' ⟨rfl, rfl⟩
    exact ⟨rfl, [], List.Perm.refl _, List.Pairwise.nil, hrow, Fr.refl _ _⟩

set_option maxRecDepth 100000 in
set_option maxHeartbeats 1000000 in
theorem setOf_any (n : Nat) (P : Nat → Prop) (w : World) (a : Option Addr) (len cap : Nat) (es : List (AV n)) (hl : len ≤ 4294967296) (ha : a = none ∨ ∃ b off, a = some ⟨b, off, none⟩) (h : RowP P w (RepP P w n) a len es) (hP : ∀ k, w.heap.size ≤ k → P k) (hw : ∀ x ∈ es, wt n x ≤ 1024) (hnil : a = none → len = 0) :
    Calls Tryz.prog 211 #[.slice a len cap] w fun e w' => ∃ v, e = .returned (.agg #[v]) ∧ RepP P w' (n + 1) (mkS (wt n) (normA (cmpV n) es)) v ∧ Below w.heap.size w w' := by
  have HP : Hid (∀ k, w.heap.size ≤ k → P k) := hP
  clear hP
  rcases ha with rfl | ⟨b, off, rfl⟩
  · obtain rfl := hnil rfl
    obtain rfl : es = [] := List.length_eq_zero_iff.1 h.1.symm
    have HN : Hid (∀ W : World, w.heap.size < W.heap.size → _) := fun (W : World) (hW : w.heap.size < W.heap.size) => newSet_any n (fun k => P k ∧ k ≠ w.heap.size) W none 0 0 [] ⟨rfl, by decide, .inl rfl⟩ (fun k hk => ⟨HP.out k (by omega), by omega⟩) (by simp) (by simp)
    have HC1 : Hid (∀ (n c : Nat) (W : World), _) := clone_nil
    have HC2 : Hid (∀ (a : Option Addr) (cap : Nat) (fv : Value) (W : World), _) := sort_none
    have HC3 : Hid (∀ (fv : Value) (W : World), _) := compact_nil
    clear h hw hnil
    go_enter Tryz.func211, Tryz.ntmps211
    go_wp2_with (first
      | (go_at_call 237; refine (HC1.out _ _ _).mono ?_; rintro e w' ⟨rfl, hw⟩; cases hw)
      | (go_at_call 274; refine (HC2.out _ _ _ _).mono ?_; rintro e w' ⟨rfl, hw⟩; cases hw)
      | (go_at_call 275; refine (HC3.out _ _).mono ?_; rintro e w' ⟨rfl, hw⟩; cases hw)
      | (go_at_call 220; refine (HN.out _ (by simp)).mono ?_; rintro e w' ⟨v, rfl, hrep, hg⟩; obtain ⟨x0, x1, x2⟩ := box_kept hg; have HG : Hid (Grew w w') := hg.of_alloc; have st := store_one (hrep.rep _ _ _).one; have HR : Hid (RepP _ w' (n + 1) _ v) := hrep; clear hg hrep))
    have r0 := World.cell?_setCell_same _ _ v x0
    exact bodyPost_ret (v := .agg #[v]) (by simp [results, Tryz.results211, go_sem, r0]) rfl ⟨_, rfl, HR.out.boxed (w := w) v rfl, (HG.out.setNew (Nat.le_refl _) _).below⟩
  · have hes : len = es.length := h.1
    obtain ⟨hs, hx, hc, hrp⟩ : ∃ hs : List (Held n w), hs.map Held.x = es ∧ (∀ i r, hs[i]? = some r → w.cell? ⟨b, off + i, none⟩ = some r.v) ∧ ∀ r ∈ hs, RepP P w n r.x r.v := by
      rcases h.2.2 with h0 | ⟨b', off', e, _, _, hc⟩
      · obtain rfl : es = [] := List.length_eq_zero_iff.1 (by omega)
        exact ⟨[], rfl, by simp, by simp⟩
      · simp only [Option.some.injEq, Addr.mk.injEq, and_true] at e
        obtain ⟨rfl, rfl⟩ := e
        exact held_of es off hc
    have hhl : hs.length = len := by rw [hes, ← hx]; simp
    have hbl : 0 < len → b < w.heap.size := by
      intro q
      rcases h.2.2 with h0 | ⟨b', off', e, hb, _⟩
      · omega
      · simp only [Option.some.injEq, Addr.mk.injEq, and_true] at e; rw [e.1]; exact hb
    clear h
    have HC1 : Hid (Calls Tryz.prog 237 #[.slice (some ⟨b, off, none⟩) len cap] (w.alloc (.cells #[.nilIface] 23)) _) := clone_any (w.alloc (.cells #[.nilIface] 23)) b off len cap (hs.map Held.v) (by simpa using hhl) hl (fun j u hu => by
        rw [List.getElem?_map] at hu
        obtain ⟨r, hr, rfl⟩ := Option.map_eq_some_iff.1 hu
        have hj : j < hs.length := (List.getElem?_eq_some_iff.1 hr).1
        exact (((Below.refl _ w).alloc (Nat.le_refl _) _).cell (p := ⟨b, off + j, none⟩) (hbl (by omega))).trans (hc j r hr)) (fun u hu => by
        obtain ⟨r, _, rfl⟩ := List.mem_map.1 hu
        exact r.h.one)
    have HS : Hid (∀ (W : World) (g cap' : Nat), Below w.heap.size w W → w.heap.size ≤ g → MRow W g len (hs.map Held.v) → _) := fun (W : World) (g cap' : Nat) hW hg hr => sort_held n w W g len cap' hs hW hg hhl hl hr
    have HK : Hid (∀ (W : World) (g cap' : Nat) (rs : List (Held n w)), Below w.heap.size w W → w.heap.size ≤ g → rs.Perm hs → len ≤ cap' → cap' ≤ 9223372036854775807 → MRow W g len (rs.map Held.v) → _) := fun (W : World) (g cap' : Nat) rs hW hg hp h1 h2 hr => compact_any n w W g len cap' rs hW hg (by rw [hp.length_eq]; exact hhl) hl h1 h2 hr
    have HN : Hid (∀ (W : World) (g cap' : Nat) (rs : List (Held n w)), rs.Perm hs → rs.Pairwise (fun a b => cmpV n a.x b.x ≤ 0) → Below w.heap.size w W → w.heap.size + 1 ≤ g → g < W.heap.size → (∀ i r, (compC (fun a b : Held n w => cmpV n a.x b.x == 0) rs)[i]? = some r → W.cell? ⟨g, i, none⟩ = some r.v) →
        Calls Tryz.prog 220 #[.slice (some ⟨g, 0, none⟩) (compC (fun a b : Held n w => cmpV n a.x b.x == 0) rs).length cap'] W fun e w' => ∃ v, e = .returned (.agg #[v]) ∧ RepP (fun k => P k ∧ k ≠ w.heap.size) w' (n + 1) (mkS (wt n) (normA (cmpV n) es)) v ∧ Grew W w') := by
      intro W g cap' rs hp hsrt hW hg hgs hcell
      rw [← hx, ← comp_norm hs rs hp hsrt]
      have hmem : ∀ r ∈ compC (fun a b : Held n w => cmpV n a.x b.x == 0) rs, r ∈ hs := fun r hr => hp.mem_iff.1 (compC_mem _ _ r hr)
      have hlen := compC_len (fun a b : Held n w => cmpV n a.x b.x == 0) rs
      rw [hp.length_eq, hhl] at hlen
      refine newSet_any n (fun k => P k ∧ k ≠ w.heap.size) W (some ⟨g, 0, none⟩) _ cap' _ ⟨by simp, by omega, .inr ⟨g, 0, rfl, hgs, ⟨HP.out g (by omega), by omega⟩, fun i x hix => ?_⟩⟩ (fun k hk => ⟨HP.out k (by omega), by omega⟩) (fun x hxm => ?_) (by simp; omega)
      · rw [List.getElem?_map] at hix
        obtain ⟨r, hr, rfl⟩ := Option.map_eq_some_iff.1 hix
        refine ⟨r.v, by rw [Nat.zero_add]; exact hcell i r hr, ?_⟩
        exact (hrp r (hmem r (List.mem_of_getElem? hr))).fr (Fr.below hW) (fun k hk hpk => ⟨hpk, by omega⟩) n _ _
      · obtain ⟨r, hr, rfl⟩ := List.mem_map.1 hxm
        exact hw r.x (by rw [← hx]; exact List.mem_map.2 ⟨r, hmem r hr, rfl⟩)
    clear hw hnil hc hrp hbl hx hes
    go_enter Tryz.func211, Tryz.ntmps211
    go_wp2_with fail
    refine HC1.out.mono ?_
    rintro e w2 ⟨g, cap', rfl, hg, hc1, hc2, hrow, hb2⟩
    have hg' : w.heap.size + 1 ≤ g := by simpa using hg
    have B2 : Hid (Below w.heap.size w w2) := ((Below.refl _ w).alloc (Nat.le_refl _) _).trans (hb2.mono (by simp))
    have X2 : Hid (w2.heap[w.heap.size]? = some (.cells #[.nilIface] 23 (0, 0))) := (hb2.block _ (by simp)).trans (heap_new rfl)
    have R2 : Hid (MRow w2 g len _) := hrow
    clear hrow hb2 hg
    go_wp2_with fail
    refine (HS.out w2 g cap' B2.out (by omega) R2.out).mono ?_
    rintro e w3 ⟨rfl, rs, hp, hsrt, hrow3, hf3⟩
    have B3 : Hid (Below w.heap.size w w3) := below_fr B2.out hf3 (by omega)
    have X3 : Hid (w3.heap[w.heap.size]? = some (.cells #[.nilIface] 23 (0, 0))) := (hf3.block _ (block_lt X2.out) (by omega)).trans X2.out
    have R3 : Hid (MRow w3 g len _) := hrow3
    have HPM : Hid (rs.Perm hs) := hp
    have HSR : Hid (rs.Pairwise fun a b => cmpV n a.x b.x ≤ 0) := hsrt
    clear hrow3 hf3 R2 X2 B2 hp hsrt
    go_wp2_with fail
    refine (HK.out w3 g cap' rs B3.out (by omega) HPM.out hc1 hc2 R3.out).mono ?_
    rintro e w4 ⟨ts, hts, rfl, hcell, hf4⟩
    subst hts
    have B4 : Hid (Below w.heap.size w w4) := below_fr B3.out hf4 (by omega)
    have X4 : Hid (w4.heap[w.heap.size]? = some (.cells #[.nilIface] 23 (0, 0))) := (hf4.block _ (block_lt X3.out) (by omega)).trans X3.out
    have S4 : g < w4.heap.size := Nat.lt_of_lt_of_le R3.out.1 hf4.size
    have HCL : Hid (∀ i r, _ → _) := hcell
    clear hcell hf4 R3 X3 B3
    go_wp2_with fail
    refine (HN.out w4 g cap' rs HPM.out HSR.out B4.out hg' S4 HCL.out).mono ?_
    rintro e w5 ⟨v, rfl, hrep, hg5⟩
    have hbx := Below.blockAt hg5.below X4.out
    have x0 := block_cell hbx 0
    have x1 := frozen_block hbx 0
    have st := store_one (hrep.rep _ _ _).one
    have HV : Hid (RepP _ w5 (n + 1) _ v) := hrep
    have B5 : Hid (Below w.heap.size w w5) := B4.out.trans (hg5.below.mono (by omega))
    clear hg5 hrep hbx
    go_wp2_with fail
    have r0 := World.cell?_setCell_same _ _ v x0
    exact bodyPost_ret (v := .agg #[v]) (by simp [results, Tryz.results211, go_sem, r0]) rfl ⟨_, rfl, HV.out.boxed (w := w) v rfl, B5.out.setCell (Nat.le_refl _) _⟩
end Go.Proofs.YtbogejmmkohbkaaGreatDoor.Sx
