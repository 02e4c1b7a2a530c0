/- Proved: for any clauses and whatever is given, of bulk at most 1048576, what sat.Follow tells is what the document's answer tells, and what was handed in is as it was. Conditions: none beyond the second form's bound and the card's own (the package variable on its road holds what the program's text gives it). -/
import Derived.Test.YtbicefgjompnoaaDoorF34
import Derived.Test.YtbicefgjompnoaaDoorF35
import Derived.Test.YtbicefgjompnoaaDoorF37
import Derived.Test.YtbicefgjompnoaaDoorF38
import Derived.ChangeSame
import Derived.ChangeVars
import Derived.JoinedOf
import Derived.RowKitTokens
import Derived.LaidLaws
import Derived.LaidHandle
import Derived.Lay
import Derived.Stop.Joined
import Derived.SizedLaws
import Derived.LaidSub
import Derived.Carry
import Derived.Deep.DeepHandedRow
import Derived.Deep.DeepWitnessRowRef
import Derived.Test.YtbicefgjompnoaaDoorTie
import Derived.Test.YtbicefgjompnoaaDoorCards
import Derived.SevenTiedAt
namespace Go.Proofs.YtbicefgjompnoaaDoor.Sx
open Go.RowKit Go.Sort

set_option maxRecDepth 100000 in
theorem told_nil (w : World) : Calls Tryd.prog 25 #[.nilIface] w fun e w' => e = .returned (.int .i64 0) ∧ w' = w := by
  have mo := follows
  go_enter Tryd.func25, Tryd.ntmps25
  go_wp2_with fail
  go_ret
  exact ⟨rfl, rfl⟩
set_option maxRecDepth 100000 in
theorem same_k (w : World) (k : Nat) (hE : EtB w) : Calls Tryd.prog 8 #[errV k, .int .i64 (k : Int)] w fun e w' => e = .returned (.bool true) ∧ Fr (fun _ => True) w w' := by
  have mo := follows
  by_cases hk : k = 0
  · subst hk
    rw [show errV 0 = .nilIface from rfl]
    have HT : Hid (Calls _ _ _ _ _) := told_nil w
    clear hE
    go_enter Tryd.func8, Tryd.ntmps8
    go_wp2_with fail
    refine HT.out.mono ?_
    rintro e w1 ⟨rfl, hw⟩
    replace hw := hw.symm
    subst hw
    go_wp2_with fail
    go_ret
    exact ⟨rfl, Fr.refl _ _⟩
  · rw [show errV k = .iface 58 (.int .i64 (k : Int)) from if_neg hk]
    have HT : Hid (Calls _ _ _ _ _) := told_errno (k : Int) w hE
    clear hE
    go_enter Tryd.func8, Tryd.ntmps8
    go_wp2_with fail
    refine HT.out.mono ?_
    rintro e w1 ⟨rfl, hb⟩
    have HB : Hid (Fr (fun _ => True) w w1) := hb
    clear hb HT
    go_wp2_with fail
    go_ret
    exact ⟨by simp, HB.out⟩

set_option maxRecDepth 100000 in
set_option maxHeartbeats 1000000 in
/-- Follow, where there is a fault -/
theorem sfault_any (w : World) (n : Int) (lo : Nat) (cv gv : Value) (C : List (List Int)) (G : List Int) (hc : ClsAt w lo cv C) (hg : IntsAt w lo gv G) (k : Nat) (hk : faultG n C G = k) (h0 : k ≠ 0) : Calls Tryd.prog 5 #[.int .i64 n, cv, gv] w fun e w' => e = .returned (.tuple #[.slice none 0 0, .bool false, errV k]) ∧ w' = w := by
  have mo := follows
  have HF : Hid (Calls _ _ _ _ _) := fault2_any w n lo cv gv C G hc hg
  rw [hk, show errV k = .iface 58 (.int .i64 (k : Int)) from if_neg h0] at HF
  rw [show errV k = .iface 58 (.int .i64 (k : Int)) from if_neg h0]
  obtain ⟨ca, cc, hcv, _⟩ := hc.ex
  obtain ⟨ga, gc, hgv, _⟩ := hg.ex
  subst hcv
  subst hgv
  clear hc hg hk
  go_enter Tryd.func5, Tryd.ntmps5
  go_wp2_with fail
  refine HF.out.mono ?_
  rintro e w1 ⟨rfl, hw⟩
  replace hw := hw.symm
  subst hw
  clear HF
  go_wp2_with fail
  exact bodyPost_ret (v := .tuple #[.slice none 0 0, .bool false, .iface 58 (.int .i64 (k : Int))]) (by simp [results, Tryd.results5, go_sem]) rfl ⟨rfl, rfl⟩

end Go.Proofs.YtbicefgjompnoaaDoor.Sx
/- The law SatFollows. -/
namespace Go.Proofs.YtbicefgjompnoaaDoor.Sx
open Go.RowKit Go.Sort

theorem IRow.ints {w : World} {b : Nat} {d : List Int} (h : IRow w b d) (hb : d.length ≤ 1000000000000) : IntsAt w w.heap.size (.slice (some ⟨b, 0, none⟩) d.length d.length) d :=
  ⟨⟨some ⟨b, 0, none⟩, d.length, rfl, .inr ⟨_, rfl, block_lt h, fun i x hx => by
    have hadd : (⟨b, 0, none⟩ : Addr).add i = ⟨b, i, none⟩ := by unfold Addr.add; split <;> simp_all
    rw [hadd]
    exact ValB.cell (w := w) h hx⟩⟩, hb⟩
theorem nil_ints (w : World) (lo : Nat) : IntsAt w lo (.slice none 0 0) [] := ⟨⟨none, 0, rfl, .inl rfl⟩, by simp⟩
theorem faultG_nat {n : Int} {C : List (List Int)} (h : faultR n C = 0) : ∃ N : Nat, n = (N : Int) ∧ N ≤ 16777216 ∧ (∀ c ∈ C, ∀ l ∈ c, LitN N l) ∧ C.length ≤ 33554432 := by
  unfold faultR at h
  split at h
  · simp at h
  split at h
  · simp at h
  split at h
  · rename_i h1 h2 h3
    refine ⟨n.toNat, by omega, by omega, fun c hc l hl => ?_, by omega⟩
    rw [List.all_eq_true] at h3
    have := h3 c hc
    rw [List.all_eq_true] at this
    exact isLit_iff.1 (this l hl)
  · simp at h
theorem trueP_J (v : List Int) {n : Nat} (h : v.length = n + 1) : trueP v = trueJ v n := by
  unfold trueP trueJ
  rw [h]
  rfl

/-- what the law's two calls say of what follows -/
theorem OwnI.of {w w' : World} {base : Nat} {u : Value} {x : List Int} (h : OwnI w base u x) (f : Fr (fun _ => True) w w') : OwnI w' base u x := h.keep fun g hg => by
  obtain ⟨cur, hc⟩ := h.block hg
  exact f.block g (block_lt hc) trivial

set_option maxRecDepth 100000 in
set_option maxHeartbeats 4000000 in
theorem law_follows (w : World) (n : Int) (lo : Nat) (cv gv : Value) (C : List (List Int)) (G : List Int) (hlo : lo ≤ w.heap.size) (hc : ClsAt w lo cv C) (hg : IntsAt w lo gv G) (hCl : C.length ≤ 30000000) (hCx : ∀ x ∈ C, x.length ≤ 4294967296) (hGl : G.length ≤ 4294967296) (hE : EtB w) :
    Calls Tryd.prog 3 #[.int .i64 n, cv, gv] w fun e w' => e = .returned (.bool true) ∧ Fr (fun _ => True) w w' := by
  have mo := follows
  have HCO : Hid (Calls _ _ _ _ _) := copied_any w lo cv C hc (by omega)
  have HC : Hid (ClsAt w lo cv C) := hc
  have HGV : Hid (IntsAt w lo gv G) := hg
  have HE : Hid (EtB w) := hE
  have HCX : Hid (∀ x ∈ C, x.length ≤ 4294967296) := hCx
  have hbound : ∀ x ∈ C, x.length ≤ 1000000000000 := fun x hx => by have := hCx x hx; omega
  have HBD : Hid (∀ x ∈ C, x.length ≤ 1000000000000) := hbound
  obtain ⟨k, hk⟩ : ∃ k, faultG n C G = k := ⟨_, rfl⟩
  have HK : Hid (faultG n C G = k) := hk
  obtain ⟨ev, hev⟩ : ∃ ev, errV k = ev := ⟨_, rfl⟩
  have HEV : Hid (errV k = ev) := hev
  obtain ⟨base, hbase⟩ : ∃ b, w.heap.size = b := ⟨_, rfl⟩
  have HBA : Hid (w.heap.size = base) := hbase
  clear hc hg hE hCx hbound hk hev hbase
  go_enter Tryd.func3, Tryd.ntmps3
  go_wp2_with fail
  go_at_call 4
  refine HCO.out.mono ?_
  rintro e w1 ⟨v, rfl, hO, hF1⟩
  obtain ⟨oa, oc, hov⟩ := hO.form
  subst hov
  -- the copy of what is given
  obtain ⟨B, hB⟩ : ∃ B, w1.heap.size = B := ⟨_, rfl⟩
  obtain ⟨W, hW⟩ : ∃ W, w1.alloc (.cells #[] 3) = W := ⟨_, rfl⟩
  have hfW : Fr (fun _ => True) w1 W := by rw [← hW]; exact (Fr.refl _ w1).alloc _
  have hBW : W.heap[B]? = some (.cells #[] 3 (0, 0)) := by rw [← hW]; exact heap_new hB
  have hbB : base ≤ B := by have := hF1.size; have := HBA.out; omega
  obtain ⟨v1, w2, r1, o1, g1, b1⟩ := ints_onto W B lo gv G hBW ((HGV.out.of (hF1.mono fun _ _ => trivial)).of (hfW.mono fun _ _ => trivial)) base hbB
  have HR1 : Hid ((Builtin.append_ #[23, 23] 23 #[.slice (some ⟨B, 0, none⟩) 0 0, gv]).run Tryd.prog W = .ok v1 w2) := r1
  have hf2 : Fr (fun _ => True) w1 w2 := ⟨g1.os.trans hfW.os, g1.tape.trans hfW.tape, g1.output.trans hfW.output, Nat.le_trans hfW.size g1.size, fun k hk _ => (g1.block k (Nat.lt_of_lt_of_le hk hfW.size) (fun e => by have := Option.some.inj e; omega)).trans (hfW.block k hk trivial)⟩
  obtain ⟨va, vc, hv1⟩ := o1.form
  subst hv1
  have HO2 : Hid (OutC w2 w.heap.size (.slice oa C.length oc) C) := hO.of hf2
  have HI2 : Hid (OwnI w2 base (.slice va G.length vc) G) := o1
  have HF2 : Hid (Fr (fun _ => True) w w2) := hF1.trans hf2
  have hcl2 : ClsAt w2 w2.heap.size (.slice oa C.length oc) C := HO2.out.cls HBD.out (by omega)
  have hin2 : IntsAt w2 w2.heap.size (.slice va G.length vc) G := HI2.out.ints (by omega)
  -- what the program's call comes to
  have HSF : Hid (Calls Tryd.prog 5 #[.int .i64 n, .slice oa C.length oc, .slice va G.length vc] w2 fun e w' => Fr (fun _ => True) w2 w' ∧ ∃ lv ok, e = .returned (.tuple #[lv, .bool ok, ev]) ∧ ((k ≠ 0 ∧ lv = .slice none 0 0 ∧ ok = false) ∨ (k = 0 ∧ ∃ N : Nat, n = (N : Int) ∧ N ≤ 16777216 ∧ (∀ c ∈ C, ∀ l ∈ c, LitN N l) ∧ (∀ l ∈ G, LitN N l) ∧ ((Cannot C G ∧ ok = false ∧ lv = .slice none 0 0) ∨ (¬ Cannot C G ∧ ok = true ∧ ∃ b d, lv = .slice (some ⟨b, 0, none⟩) d.length d.length ∧ IRow w' b d ∧ ∀ v, Ends N C G (some v) → d = trueP v))))) := by
    by_cases h0 : k = 0
    · have hz : faultG n C G = 0 := HK.out.trans h0
      have hr0 : faultR n C = 0 := by
        unfold faultG at hz
        split at hz
        · rename_i q; exact absurd hz q
        · rename_i q; exact Classical.not_not.1 q
      obtain ⟨N, rfl, hN, hL, hCl2⟩ := faultG_nat hr0
      have hLG : ∀ l ∈ G, LitN N l := by
        unfold faultG at hz
        rw [if_neg (by rw [hr0]; simp), Int.toNat_natCast] at hz
        intro l hl
        split at hz
        · rename_i q
          rw [List.all_eq_true] at q
          exact isLit_iff.1 (q l hl)
        · simp at hz
      refine (sfollow_any w2 N w2.heap.size _ _ C G hN (Nat.le_refl _) hcl2 hin2 hCl2 HCX.out hGl hz hL hLG).mono ?_
      rintro e w' ⟨hF, q⟩
      have hev : ev = .nilIface := by rw [← HEV.out, h0]; rfl
      rcases q with ⟨q1, rfl⟩ | ⟨q1, b, d, rfl, _, q3, q4⟩
      · exact ⟨hF, _, _, by rw [hev], .inr ⟨h0, N, rfl, hN, hL, hLG, .inl ⟨q1, rfl, rfl⟩⟩⟩
      · exact ⟨hF, _, _, by rw [hev], .inr ⟨h0, N, rfl, hN, hL, hLG, .inr ⟨q1, rfl, b, d, rfl, q3, q4⟩⟩⟩
    · refine (sfault_any w2 n w2.heap.size _ _ C G hcl2 hin2 k HK.out h0).mono ?_
      rintro e w' ⟨rfl, rfl⟩
      exact ⟨Fr.refl _ _, _, _, by rw [HEV.out], .inl ⟨h0, rfl, rfl⟩⟩
  clear hcl2 hin2 HCO hO hF1 r1 o1 g1 b1 hf2 hfW hBW
  go_wp2_with (at_builtin; refine at_append _ rfl _ _ 23 rfl _ _ _ _ rfl rfl HR1.out ?_)
  go_at_call 5
  refine HSF.out.mono ?_
  rintro e w3 ⟨hF3, lv, ok, rfl, hres⟩
  have HF3 : Hid (Fr (fun _ => True) w w3) := HF2.out.trans hF3
  have HO3 : Hid (OutC w3 w.heap.size (.slice oa C.length oc) C) := HO2.out.of hF3
  have HI3 : Hid (OwnI w3 base (.slice va G.length vc) G) := HI2.out.of hF3
  have HRES : Hid ((k ≠ 0 ∧ lv = .slice none 0 0 ∧ ok = false) ∨ (k = 0 ∧ ∃ N : Nat, n = (N : Int) ∧ N ≤ 16777216 ∧ (∀ c ∈ C, ∀ l ∈ c, LitN N l) ∧ (∀ l ∈ G, LitN N l) ∧ ((Cannot C G ∧ ok = false ∧ lv = .slice none 0 0) ∨ (¬ Cannot C G ∧ ok = true ∧ ∃ b d, lv = .slice (some ⟨b, 0, none⟩) d.length d.length ∧ IRow w3 b d ∧ ∀ v, Ends N C G (some v) → d = trueP v)))) := hres
  have HFA : Hid (Calls _ _ _ _ _) := Fault_any w3 n lo cv C (HC.out.of (HF3.out.mono fun _ _ => trivial))
  have HLX : Hid (Calls _ _ _ _ _) := literalsX_any w3 n lo gv G (HGV.out.of (HF3.out.mono fun _ _ => trivial))
  have HER : Hid (Calls _ _ _ _ _) := same_k w3 k (HE.out.of HF3.out)
  rw [HEV.out] at HER
  obtain ⟨fr, hfr⟩ : ∃ fr, faultR n C = fr := ⟨_, rfl⟩
  obtain ⟨al, hal⟩ : ∃ al, G.all (isLitX n) = al := ⟨_, rfl⟩
  rw [hfr] at HFA
  rw [hal] at HLX
  have hkk : k = if fr ≠ 0 then fr else if al then 0 else 5 := by
    rw [← HK.out]
    unfold faultG
    rw [hfr]
    by_cases h0 : fr = 0
    · obtain ⟨N, rfl, hN, _⟩ := faultG_nat (hfr.trans h0)
      have q : ¬ fr ≠ 0 := fun z => z h0
      rw [if_neg q, if_neg q, Int.toNat_natCast, ← hal, show (isLitX (N : Int)) = isLit N from funext fun l => isLitX_nat hN l]
    · rw [if_pos h0, if_pos h0]
  clear HSF hres hF3 HF2 HO2 HI2 HR1 hfr hal
  go_wp2_with fail
  go_at_call 6
  refine HFA.out.mono ?_
  rintro e w4 ⟨rfl, hw⟩
  replace hw := hw.symm
  subst hw
  go_wp2_with fail
  go_at_call 7
  refine HLX.out.mono ?_
  rintro e w4 ⟨rfl, hw⟩
  replace hw := hw.symm
  subst hw
  clear HFA HLX
  go_upto_region 6 with fail
  go_cut [45] (fun s45 wx => s45 = .bool (decide (fr = 0) && !al) ∧ w3 = wx)
  case first =>
    by_cases h0 : fr = 0
    · subst h0
      cases al with
      | true =>
        clear hkk HK HEV HRES HER
        go_wp2_with fail
        go_meet
        case rel => exact ⟨rfl, rfl⟩
      | false =>
        clear hkk HK HEV HRES HER
        go_wp2_with fail
        go_meet
        case rel => exact ⟨rfl, rfl⟩
    · have hb : ((fr : Int) == 0) = false := by rw [beq_eq_false_iff_ne]; omega
      have hx : (decide (fr = 0) && !al) = false := by rw [decide_eq_false h0]; rfl
      clear hkk HK HEV HRES HER
      go_wp2_with fail
      go_meet
      case rel => exact ⟨by rw [hx], rfl⟩
  case rest =>
    obtain ⟨rfl, rfl⟩ := hcut
    go_upto_if 45 with fail
    go_cut [12] (fun s12 wx => s12 = .int .i64 (k : Int) ∧ w3 = wx)
    case first =>
      by_cases h0 : fr = 0
      · subst h0
        cases al with
        | true =>
          have hk0 : k = 0 := hkk
          subst hk0
          clear hkk HK HEV HRES HER
          go_wp2_with fail
          go_meet
          case rel => exact ⟨rfl, rfl⟩
        | false =>
          have hk0 : k = 5 := hkk
          subst hk0
          clear hkk HK HEV HRES HER
          go_wp2_with fail
          go_meet
          case rel => exact ⟨rfl, rfl⟩
      · have hk0 : k = fr := by rw [hkk, if_pos h0]
        have hx : (decide (fr = 0) && !al) = false := by rw [decide_eq_false h0]; rfl
        rw [hx]
        subst hk0
        clear hkk HK HEV HRES HER
        go_wp2_with fail
        go_meet
        case rel => exact ⟨rfl, rfl⟩
    case rest =>
    obtain ⟨rfl, rfl⟩ := hcut
    clear hkk
    go_wp2_with fail
    go_at_call 8
    refine HER.out.mono ?_
    rintro e w4 ⟨rfl, hF4⟩
    have HF4 : Hid (Fr (fun _ => True) w3 w4) := hF4
    have HSA : Hid (Calls _ _ _ _ _) := clauses_same w4 w4.heap.size lo _ cv C ((HO3.out.of hF4).cls HBD.out (by omega)) (HC.out.of ((HF3.out.trans hF4).mono fun _ _ => trivial))
    clear HER hF4
    go_wp2_with fail
    go_at_call 9
    refine HSA.out.mono ?_
    rintro e w5 ⟨rfl, hF5⟩
    have HF5 : Hid (Fr (fun _ => True) w3 w5) := HF4.out.trans hF5
    have HSB : Hid (Calls _ _ _ _ _) := ints_same w5 w5.heap.size lo _ gv G ((HI3.out.of HF5.out).ints (by omega)) (HGV.out.of ((HF3.out.trans HF5.out).mono fun _ _ => trivial))
    clear HSA HF4 hF5
    go_wp2_with fail
    go_at_call 10
    refine HSB.out.mono ?_
    rintro e w6 ⟨rfl, hF6⟩
    have HF6 : Hid (Fr (fun _ => True) w3 w6) := HF5.out.trans hF6
    clear HSB HF5 hF6 HO3 HI3
    rcases HRES.out with ⟨h0, hlv, hok⟩ | ⟨h0, N, hnN, hN, hL, hLG, hres⟩
    · subst hlv hok
      have hb : ((k : Int) != 0) = true := by rw [bne_iff_ne]; omega
      clear HRES HK HEV
      go_wp2_with fail
      go_ret
      exact ⟨rfl, HF3.out.trans HF6.out⟩
    · subst hnN
      have hb : ((k : Int) != 0) = false := by rw [h0]; rfl
      obtain ⟨r, hr, hends⟩ := follow_spec (n := N) hL hLG
      have HFO : Hid (Calls _ _ _ _ _) := follow_any w6 N lo C G cv gv hN (by have := (HF3.out.trans HF6.out).size; omega) hL hLG (HC.out.of ((HF3.out.trans HF6.out).mono fun _ _ => trivial)) (HGV.out.of ((HF3.out.trans HF6.out).mono fun _ _ => trivial)) r hr
      have HEN : Hid (Ends N C G r) := hends
      have HRS : Hid ((Cannot C G ∧ ok = false ∧ lv = .slice none 0 0) ∨ (¬ Cannot C G ∧ ok = true ∧ ∃ b d, lv = .slice (some ⟨b, 0, none⟩) d.length d.length ∧ IRow w3 b d ∧ ∀ v, Ends N C G (some v) → d = trueP v)) := hres
      clear HRES hres hends hr hL hLG HK HEV
      go_wp2_with fail
      go_at_call 11
      refine HFO.out.mono ?_
      rintro e w7 ⟨hF7, hq⟩
      have HF7 : Hid (Fr (fun _ => True) w3 w7) := HF6.out.trans hF7
      cases r with
      | none =>
        obtain rfl := hq
        rcases HRS.out with ⟨_, hok, hlv⟩ | ⟨h1, _⟩
        · subst hok hlv
          have HSC : Hid (Calls _ _ _ _ _) := ints_same w7 0 0 _ _ [] (nil_ints w7 0) (nil_ints w7 0)
          clear HRS HFO HF6 hF7 HEN
          go_wp2_with fail
          go_at_call 10
          refine HSC.out.mono ?_
          rintro e w8 ⟨rfl, hF8⟩
          have HF8 : Hid (Fr (fun _ => True) w3 w8) := HF7.out.trans hF8
          clear hF8 HSC
          go_wp2_with fail
          go_ret
          exact ⟨rfl, HF3.out.trans HF8.out⟩
        · exact absurd HEN.out h1
      | some v =>
        obtain ⟨vb, vcap, rfl, _, hV⟩ := hq
        have hends : ¬ Cannot C G ∧ v.length = N + 1 ∧ (∀ l, vAt v l = 1 ∨ vAt v l = 0 ∨ vAt v l = -1) ∧ ∀ l, l ≠ 0 → (0 < vAt v l ↔ Der C G l) := HEN.out
        obtain ⟨e1, e2, e3, _⟩ := hends
        rcases HRS.out with ⟨h1, _⟩ | ⟨_, hok, b, d, hlv, hrow, hd⟩
        · exact absurd h1 e1
        · have hdv := hd v HEN.out
          subst hok hlv hdv
          have HTR : Hid (Calls _ _ _ _ _) := True_any w7 vb N vcap v hN e2 (three_abs e3) hV
          have HROW : Hid (IRow w3 b (trueP v)) := hrow
          have HEQ : Hid (trueP v = trueJ v N) := trueP_J v e2
          have HLE : Hid ((trueP v).length ≤ N) := by show _ ≤ _; rw [HEQ.out]; exact trueJ_len v N
          clear HRS HFO HF6 hF7 HEN e1 e2 e3 hV hd hrow
          go_wp2_with fail
          go_at_call 12
          refine HTR.out.mono ?_
          rintro e w8 ⟨u, rfl, hu, hF8⟩
          have HF8 : Hid (Fr (fun _ => True) w3 w8) := HF7.out.trans hF8
          rw [← HEQ.out] at hu
          have HSC : Hid (Calls _ _ _ _ _) := ints_same w8 w8.heap.size w8.heap.size _ u (trueP v) (IRow.ints ((HF8.out.block b (block_lt HROW.out) trivial).trans HROW.out) (by have := HLE.out; omega)) (hu.ints (by have := HLE.out; omega))
          clear hu hF8 HTR HF7
          go_wp2_with fail
          go_at_call 10
          refine HSC.out.mono ?_
          rintro e w9 ⟨rfl, hF9⟩
          have HF9 : Hid (Fr (fun _ => True) w3 w9) := HF8.out.trans hF9
          clear hF9 HSC
          go_wp2_with fail
          go_ret
          exact ⟨rfl, HF3.out.trans HF9.out⟩

end Go.Proofs.YtbicefgjompnoaaDoor.Sx
/- SatFollows, second form: for any clauses and whatever is given, of bulk at most 1048576. -/
namespace Go.Proofs.YtbicefgjompnoaaDoor.Sx
open Go.RowKit Go.Sort Go.ChangeShapes Go.WideShapes Go.ChangeAt Go.Deep

/-- what the row lists -/
def laidE : List (String × DataW Unit) := [("errors.errorType", Rows.laid_errors_errorType)]
theorem gEt : Tryd.prog.globalNamed "errors.errorType" = some 0 := by kernel_rfl
theorem gRty : (Tryd.prog.cutTypes.find? (·.1 == "internal/reflectlite.rtype")).map (·.2) = some 123 := by kernel_rfl
theorem oneErr : ((List.range 177).filter fun t => Tryd.prog.rowNamed t [101, 114, 114, 111, 114]) = [26] := by kernel_rfl
theorem tySize : Tryd.prog.types.size = 177 := by kernel_rfl
theorem filtL : (laidE.filter fun x => x.2.handleName?.isNone) = [] := by kernel_rfl
theorem filtH : (laidE.filter fun x => x.2.handleName?.isSome) = [("errors.errorType", Rows.laid_errors_errorType)] := by kernel_rfl
theorem et_of_laid {W : World} (h : laidMetH Tryd.prog laidE W) : EtB W := by
  have h' : laidMet Tryd.prog (laidE.filter fun x => x.2.handleName?.isNone) W ∧ handlesMet Tryd.prog (laidE.filter fun x => x.2.handleName?.isSome) W := h
  rw [filtL, filtH] at h'
  obtain ⟨name, u, ty, e1, e2, e3, e4, e5⟩ := h'.2 _ (List.mem_singleton.2 rfl)
  have en : name = [101, 114, 114, 111, 114] := (Option.some.inj e1).symm
  subst en
  obtain rfl := Option.some.inj (gRty.symm.trans e2)
  have hm : ty ∈ (List.range 177).filter fun t => Tryd.prog.rowNamed t [101, 114, 114, 111, 114] := List.mem_filter.2 ⟨List.mem_range.2 (by rw [← tySize]; exact e3), e4⟩
  rw [oneErr] at hm
  obtain rfl := List.mem_singleton.1 hm
  have hh : typeHandle Tryd.prog 26 = .pointer (some ⟨1, 26, none⟩) := by kernel_rfl
  rw [hh] at e5
  unfold EtB
  simpa using World.var?_cell gEt e5 0

theorem Fr.toBelow {w w' : World} (h : Fr (fun _ => True) w w') : Below w.heap.size w w' := ⟨h.os, h.tape, h.output, h.size, fun k hk => h.block k hk trivial⟩

section
variable {H : Type} {enc : TypeId × Value → H} {w : World} {base : Nat} {held : Bool}
theorem given_of {a0 : Option Addr} {l0 c0 : Nat} {d : DataW H} {p : List MemPlace} (h : DataW.Trod enc Tryd.prog w base (fun _ => true) held 23 (.slice a0 l0 c0) d p) (hk : Rows.uptoBulk d ≤ 1048576) : ∃ G : List Int, IntsAt w w.heap.size (.slice a0 l0 c0) G ∧ G.length ≤ 1048576 := by
  obtain ⟨fuel, hf⟩ := h
  rcases open_ints Tryd.underlying23 Tryd.underlying3 cells3 hf with ⟨hcs, _⟩ | ⟨a', l', c', zs, hcs, _, hl', hm', hz, hx', hcell, _⟩
  · simp [Value.cells] at hcs
    obtain ⟨rfl, rfl, rfl⟩ := hcs
    exact ⟨[], ⟨⟨none, 0, rfl, .inl rfl⟩, by simp⟩, by simp⟩
  · simp [Value.cells] at hcs
    obtain ⟨rfl, rfl, rfl⟩ := hcs
    simp only [if_true] at hz
    have hD1 : d = _ := congrArg Prod.fst hx'
    dsimp only at hD1
    have hb := hk
    rw [hD1] at hb
    have h2 := slice_le (H := H) (lits .i64 (zs.take l0)) (lits .i64 (zs.drop l0))
    simp only [lits, List.length_map, List.length_take] at h2 hb
    have hl2 : l0 ≤ 1048576 := by omega
    exact ⟨zs.take l0, ints_of (C := c0) hl' hz (fun e => by cases e) (fun a'' e c hc => by cases e; exact hcell c (by omega)) (by omega), by simp only [List.length_take]; omega⟩
end

theorem metE (os : Os) : laidMetH Tryd.prog laidE (((World.holding Tryd.prog os ⟨#[], #[], []⟩).setCell ⟨0, 0, none⟩ (.iface 123 (.agg #[.pointer (some ⟨1, 26, none⟩)]))).forCall (fun _ _ => 0) ⟨#[], #[.int .i64 0, .slice none 0 0, .slice none 0 0], []⟩).memory := by
  refine laidMetH_of_parts ?_ (by kernel_rfl)
  rw [filtL]
  exact ⟨[], rfl, List.nodup_nil, fun _ _ h => by cases h⟩
theorem follows_witness (os : Os) {H : Type} (enc : TypeId × Value → H) : DataW.whole enc Tryd.prog (((World.holding Tryd.prog os ⟨#[], #[], []⟩).setCell ⟨0, 0, none⟩ (.iface 123 (.agg #[.pointer (some ⟨1, 26, none⟩)]))).forCall (fun _ _ => 0) ⟨#[], #[.int .i64 0, .slice none 0 0, .slice none 0 0], []⟩).memory Tryd.f3.params.toList (Rows.OpenSpec.upto Rows.satFollowsSpec).vars false (#[.int .i64 0, .slice none 0 0, .slice none 0 0] : Array Value).toList 8 = some ([.lit (.int .i64 0), .nil, .nil], [], []) := by kernel_rfl

set_option maxRecDepth 100000 in
theorem follows_lifted (os : Os) (started : os.Started) (H : Type) (enc : TypeId × Value → H) (F : Stop.Interp) :
    ReturnsInHanded {} Tryd.checked os 3 .any ((Rows.OpenSpec.upto Rows.satFollowsSpec).preRow enc Tryd.prog Tryd.f3 Rows.satFollowsUptoRow.domain false laidE) (((Rows.OpenSpec.upto Rows.satFollowsSpec).at F).post enc Tryd.prog Tryd.f3 false true false false) := by
  refine returnsInHanded_of_row (C := Tryd.checked) (s := Rows.OpenSpec.upto Rows.satFollowsSpec) own started (by kernel_rfl) Tryd.func3
    (witness_row_atRef (enc := enc) (C := Tryd.checked) false ((World.holding Tryd.prog os ⟨#[], #[], []⟩).setCell ⟨0, 0, none⟩ (.iface 123 (.agg #[.pointer (some ⟨1, 26, none⟩)]))) #[.int .i64 0, .slice none 0 0, .slice none 0 0] rfl (by kernel_rfl) (by kernel_rfl) (by kernel_rfl)
      (OpenSpec.preRow_of_cond 8 (follows_witness os enc) (by kernel_rfl) (fun k hk => by cases hk; kernel_rfl) (by kernel_rfl) (metE os))) ?_
  intro W base args ds gs before hval0 hW _ hcond _ hL _ _
  have hval : ∀ (j : Nat) t v, Tryd.f3.params[j]? = some t → args[j]? = some v → Value.okWide Tryd.prog W .any base t v := hval0
  have hk : Rows.uptoSmall H (ds ++ gs) = true := hcond _ rfl
  have hW' := hW
  obtain ⟨p, q, hA0, hV0, rfl, hfz, hnd⟩ := hW
  have hA : DataW.TrodAll enc Tryd.prog W 0 (fun _ => true) true Tryd.f3.params.toList args.toList ds p := hA0
  have hV : DataW.TrodVars enc Tryd.prog W (fun _ => true) [] gs q := hV0
  rw [Tryd.params3] at hA hval
  obtain ⟨v0, vs0, d0, ds0, p0, q0, hargs, rfl, rfl, h0, r0⟩ := trodAll_cons hA
  obtain ⟨v1, vs1, d1, ds1, p1, q1, rfl, rfl, rfl, h1, r1⟩ := trodAll_cons r0
  obtain ⟨v2, vs2, d2, ds2, p2, q2, rfl, rfl, rfl, h2, r2⟩ := trodAll_cons r1
  obtain ⟨rfl, rfl, rfl⟩ := trodAll_nil r2
  obtain rfl : args = #[v0, v1, v2] := by cases args; simp_all
  obtain ⟨rfl, rfl⟩ : gs = [] ∧ q = [] := by
    cases gs with
    | nil => exact ⟨rfl, hV⟩
    | cons g r => exact absurd hV (by intro h; cases h)
  obtain ⟨n, rfl, rfl, rfl, wn⟩ := open_int Tryd.underlying3 (hval 0 3 v0 rfl rfl) h0
  obtain ⟨a1, l1, c1, rfl⟩ := okWide_slice Tryd.underlying22 (hval 1 22 v1 rfl rfl)
  obtain ⟨a2, l2, c2, rfl⟩ := okWide_slice Tryd.underlying23 (hval 2 23 v2 rfl rfl)
  have hbulk : Rows.uptoBulkAll [DataW.lit (.int .i64 n), d1, d2] ≤ 1048576 := by
    have := of_decide_eq_true hk
    simpa using this
  simp only [Rows.uptoBulkAll] at hbulk
  have lt1 : ∀ x ∈ p1, x.block < W.heap.size := by obtain ⟨m, hm⟩ := h1; exact DataW.trod_lt m _ _ _ hm
  have lt2 : ∀ x ∈ p2, x.block < W.heap.size := by obtain ⟨m, hm⟩ := h2; exact DataW.trod_lt m _ _ _ hm
  obtain ⟨C, hC, hC1, hC2, _⟩ := cls_of h1 (by omega)
  obtain ⟨G, hG, hG1⟩ := given_of h2 (by omega)
  clear hA0 hval0
  have e1 : Rows.satFollowsSpec.fn H ([DataW.lit (.int .i64 n), d1, d2] ++ []) = { results := [.lit (.bool true)], args := [.lit (.int .i64 n), d1, d2] } := by simp [Rows.satFollowsSpec]
  refine (law_follows W n W.heap.size _ _ C G (Nat.le_refl _) hC hG (by omega) (fun x hx => by have := hC2 x hx; omega) (by omega) (et_of_laid hL)).mono fun e W' ⟨he, hf⟩ => ?_
  subst he
  have bel := hf.toBelow
  refine ⟨_, rfl, _, _, _, [], [] ++ (p1 ++ (p2 ++ [])), [], hW', ?_, ?_, ?_, bel.frame _, fun h => by cases h⟩
  · show DataW.TrodAll _ _ _ _ _ _ _ _ (Rows.satFollowsSpec.fn H ([DataW.lit (.int .i64 n), d1, d2] ++ [])).results _
    rw [e1]; exact trodAll_mk1 (shut_bool Tryd.underlying4 _)
  · show DataW.TrodAll _ _ _ _ _ _ _ _ (Rows.satFollowsSpec.fn H ([DataW.lit (.int .i64 n), d1, d2] ++ [])).args _
    rw [e1]
    exact trodAll_cons_mk (shut_int Tryd.underlying3 wn) (trodAll_cons_mk (Below.trod laidOut (by kernel_rfl) (of_decide_eq_true (by kernel_rfl)) h1 bel lt1) (trodAll_cons_mk (Below.trod laidOut (by kernel_rfl) (of_decide_eq_true (by kernel_rfl)) h2 bel lt2) trodAll_mk0))
  · show DataW.TrodVars _ _ _ _ _ (Rows.satFollowsSpec.fn H ([DataW.lit (.int .i64 n), d1, d2] ++ [])).vars _
    rw [e1]; rfl

end Go.Proofs.YtbicefgjompnoaaDoor.Sx
/- SatFollows: the row, second form. -/
namespace Go.Proofs.YtbicefgjompnoaaDoor
open Go

set_option maxHeartbeats 8000000 in
theorem Sx.follows_closed : joinedFacts Tryd.pinned.checked.prog 3 Tryd.f3 (Rows.OpenSpec.upto Rows.satFollowsSpec).bare Rows.satFollowsUptoRow = true := by
  unfold joinedFacts
  simp only [Bool.and_eq_true]
  repeat' refine And.intro ?_ ?_
  all_goals as_aux_lemma => kernel_rfl
set_option maxHeartbeats 8000000 in
theorem satFollows_row : Rows.SatFollowsUptoSaid :=
  OpenClaim.holds_of_cond 3 Tryd.f3 rfl rfl rfl rfl rfl rfl rfl ⟨rfl, rfl, rfl, rfl, rfl⟩ rfl rfl rfl rfl rfl (by as_aux_lemma => kernel_rfl) Tryd.func3 Sx.follows_closed
    (of_decide_eq_true (by as_aux_lemma => kernel_rfl)) (by unfold Func.isWrapper; rw [if_neg (of_decide_eq_false (by as_aux_lemma => kernel_rfl))]; exact ⟨rfl, rfl⟩)
    (fun os started H enc _ F => by rw [OpenClaim.pre_eq_preRow]; exact Sx.follows_lifted os started H enc F)

end Go.Proofs.YtbicefgjompnoaaDoor
/- Proved: for any clauses and whatever is given, of bulk at most 1048576, what sat.Follow tells is what the document's answer tells, and what was handed in is as it was. Conditions: none beyond the card's own (the package variable on its road holds what the program's text gives it). -/
namespace Go.Proofs.YtbicefgjompnoaaDoor
open Go

set_option maxHeartbeats 8000000 in
theorem satFollows_holds : Rows.SatFollowsUptoCardSaid :=
  Claim7.holds_tied_plain_at .later [] [.handle] true (true, "cd884dd7f372086fec51e86dd1c594c3cd8a48a6c24db443d0e72d0e60a13e25") true
    satFollows_row (fun _ h => by cases h) (by as_aux_lemma => kernel_rfl) (fun _ h => by cases h) satFollowsUpto_row_tie rfl ⟨rfl, rfl⟩ (by as_aux_lemma => kernel_rfl) rfl
    (fun f fn hf hfn => by
      obtain rfl : f = 3 := Option.some.inj ((show Tryd.prog.funcNamed "sextant/sextantlaw9.SatFollows" = some 3 by kernel_rfl).symm.trans hf) |>.symm
      obtain rfl : fn = Tryd.f3 := (Option.some.inj (Tryd.func3.symm.trans hfn)).symm
      exact ⟨by kernel_rfl, fun j t ht => by
        rw [Tryd.params3] at ht
        have hm : t ∈ [3, 22, 23] := by simpa using Array.mem_of_getElem? ht
        have hall : ([3, 22, 23].all fun u => !Tryd.prog.wantsStandIn u) = true := by kernel_rfl
        exact (show Tryd.prog.wantsStandIn t = false by simpa using List.all_eq_true.1 hall t hm)⟩)
    (by as_aux_lemma => kernel_rfl)
#print axioms satFollows_holds
end Go.Proofs.YtbicefgjompnoaaDoor
