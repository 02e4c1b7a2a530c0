/- Checked, by the reference: the lines one by one. -/
import Derived.Test.YtbicefgjompnoaaA02
namespace Go.Proofs.Ytbicefgjompnoaa.Sx
open Go.RowKit Go.Sort

theorem goneP_mem {c x : List Int} {L : List (List Int)} (h : x ∈ goneP c L) : x ∈ L := by
  induction L with
  | nil => exact h
  | cons y L ih =>
    unfold goneP at h
    split at h
    · exact List.mem_cons_of_mem _ h
    · rcases List.mem_cons.1 h with h | h
      · rw [h]; exact List.mem_cons_self
      · exact List.mem_cons_of_mem _ (ih h)

def ChPost (w : World) (r : Bool) (e : Ending) (w' : World) : Prop := e = .returned (.bool r) ∧ Fr (fun _ => True) w w'

theorem owns_block {w : World} {base e size n : Nat} {v : Value} {xs : List Value} (h : w.ownsRow base e size v n xs) {k : Nat} (hk : k < base) : some k ≠ v.ownBlock := by
  rcases h.2 with ⟨rfl, _⟩ | ⟨g, cap, cur, rfl, hb, _⟩
  · simp [Value.ownBlock]
  · intro q; simp [Value.ownBlock] at q; omega

theorem Fr.grown {P : Nat → Prop} {a b c : World} {row : Option Nat} (h : Fr P a b) (g : b.grownBy c row) (hr : ∀ k, k < a.heap.size → P k → some k ≠ row) : Fr P a c :=
  ⟨g.os.trans h.os, g.tape.trans h.tape, g.output.trans h.output, Nat.le_trans h.size g.size, fun k hk hp => (g.block k (Nat.lt_of_lt_of_le hk h.size) (hr k hk hp)).trans (h.block k hk hp)⟩

theorem len_zero (c : List Int) : (((c.length : Nat) : Int) == 0) = decide (c.length = 0) := by
  by_cases h : c.length = 0
  · rw [h]; rfl
  · rw [decide_eq_false h, beq_eq_false_iff_ne]
    omega

theorem at_append {P : Program} (w : World) {ops : Array Oper} {rest : List Oper} {o : Oper} {a : Act} {Q : Exit → Act → World → Prop} (hgd : o.guard = none) (s x : Operand) (t : TypeId)
    (ho : o.op = .call { callee := .builtin .append, args := #[s, x], argTypes := #[t, t] }) (v u v1 : Value) (w1 : World) (hs : a.eval s = v) (hx : a.eval x = u) (hr : (Builtin.append_ #[t, t] o.type #[v, u]).run P w = .ok v1 w1)
    (h : wpList P ops Q rest (a.put o.dst v1) w1) : wpList P ops Q (o :: rest) a w := by
  refine wpList_plain hgd fun K hK => ?_
  unfold Oper.wp execOp
  simp only [ho, resolve, invoke, builtin, Sem.run_bind, Sem.run_pure, Result.andThen_ok, List.map_toArray, List.map_cons, List.map_nil, hs, hx, hr]
  exact hK _ _ h

theorem onto_nil (w : World) (lo : Nat) (ca : Option Addr) (cc : Nat) (C : List (List Int)) (hlo : lo ≤ w.heap.size) (hcl : C.length ≤ 33554432) (h : ClsAt w lo (.slice ca C.length cc) C) :
    ∃ v1 w1, (Builtin.append_ #[22, 22] 22 #[.slice none 0 0, .slice ca C.length cc]).run Try.prog w = .ok v1 w1 ∧ OwnC w1 w.heap.size lo v1 C ∧ Fr (fun _ => True) w w1 := by
  obtain ⟨i0, hi0, hz0, hz1, hz2⟩ := info31
  by_cases hne : C = []
  · subst hne
    cases ca with
    | none =>
      refine ⟨.slice none 0 0, w, ?_, ⟨⟨[], World.ownsRow_nil _ _ _ _, ClsV.nil _ _⟩, hlo, by simp⟩, Fr.refl _ _⟩
      simp [Builtin.append_, run_underlying Try.underlying22, sizeOf, typeInfo, hi0, Builtin.lenOf, Builtin.firstCells]
    | some p =>
      obtain ⟨v1, w1, h1, h2, h3, _, _⟩ := run_append_own_at (P := Try.prog) w w.heap.size 22 22 31 i0 _ 1 24 Try.underlying22 hi0 hz0 hz1 hz2 rfl (by decide) (.slice none 0 0) 0 [] (World.ownsRow_nil _ _ _ _) p 0 cc [] rfl (by simp) (by simp) (by unfold maxLen; omega) (by omega) (Nat.le_refl _)
      exact ⟨v1, w1, h1, ⟨⟨[], h2, ClsV.nil _ _⟩, hlo, by simp⟩, ⟨h3.os, h3.tape, h3.output, h3.size, fun k hk _ => h3.block k hk (by simp [Value.ownBlock])⟩⟩
  · obtain ⟨p, vs, rfl, hcv, hcell⟩ := h.vals hne
    obtain ⟨v1, w1, h1, h2, h3, _, _⟩ := run_append_own_at (P := Try.prog) w w.heap.size 22 22 31 i0 _ 1 24 Try.underlying22 hi0 hz0 hz1 hz2 rfl (by decide) (.slice none 0 0) 0 [] (World.ownsRow_nil _ _ _ _) p C.length cc vs (by rw [hcv.len]; omega) hcell hcv.one (by unfold maxLen; omega) (by omega) (Nat.le_refl _)
    have f : Fr (fun _ => True) w w1 := ⟨h3.os, h3.tape, h3.output, h3.size, fun k hk _ => h3.block k hk (by simp [Value.ownBlock])⟩
    refine ⟨v1, w1, h1, ⟨⟨vs, ?_, hcv.of (f.mono fun _ _ => trivial)⟩, hlo, by omega⟩, f⟩
    simpa using h2

set_option maxRecDepth 100000 in
set_option maxHeartbeats 1000000 in
theorem Checked_any (w : World) (n : Int) (lo : Nat) (cv pv : Value) (C : List (List Int)) (P : List (Bool × List Int)) (hlo : lo ≤ w.heap.size) (hc : ClsAt w lo cv C) (hp : LinesAt w lo pv P) :
    Calls Try.prog 7 #[.int .i64 n, cv, pv] w (ChPost w (checkedP n C P)) := by
  have mo := follows
  obtain ⟨i0_, hi0, hz0, hz1, hz2⟩ := info31
  obtain ⟨j0_, hj0, hy0, hy1, hy2⟩ := info3
  have HF : Hid (Calls _ _ _ _ _) := Fault_any w n lo cv C hc
  obtain ⟨ca, cc, hcv, _⟩ := hc.ex
  obtain ⟨pa, pc, hpv, _⟩ := hp.ex
  subst hcv
  subst hpv
  have hcb := hc.big
  have hpb := hp.big
  have HC : Hid (ClsAt w lo (.slice ca C.length cc) C) := hc
  have HP : Hid (LinesAt w lo (.slice pa P.length pc) P) := hp
  obtain ⟨R, hR⟩ : ∃ R, checkedP n C P = R := ⟨_, rfl⟩
  rw [hR]
  unfold checkedP at hR
  clear hc hp
  obtain ⟨f, hf⟩ : ∃ f, faultR n C = f := ⟨_, rfl⟩
  rw [hf] at HF hR
  by_cases hf0 : f = 0
  case neg =>
    rw [if_neg hf0] at hR
    subst hR
    have hfi : ((f : Int) != 0) = true := by simp; omega
    clear hf
    go_enter Try.func7, Try.ntmps7
    go_wp2_with fail
    refine HF.out.mono ?_
    rintro e w1 ⟨rfl, hw⟩
    replace hw := hw.symm
    subst hw
    go_wp2_with fail
    go_ret
    exact ⟨rfl, Fr.refl _ _⟩
  subst hf0
  rw [if_pos rfl] at hR
  have hn : 0 ≤ n ∧ n ≤ 16777216 ∧ C.length ≤ 33554432 ∧ ∀ c ∈ C, ∀ l ∈ c, LitN n.toNat l := by
    unfold faultR at hf
    split at hf
    · simp at hf
    split at hf
    · simp at hf
    split at hf
    · rename_i h1 h2 h3
      refine ⟨by omega, by omega, by omega, fun c hc l hl => ?_⟩
      rw [List.all_eq_true] at h3
      have := h3 c hc
      rw [List.all_eq_true] at this
      exact isLit_iff.1 (this l hl)
    · simp at hf
  obtain ⟨hn0, hn1, hcl, hlit⟩ := hn
  obtain ⟨N, rfl⟩ : ∃ N : Nat, n = (N : Int) := ⟨n.toNat, by omega⟩
  rw [Int.toNat_natCast] at hR hlit
  have hN : N ≤ 16777216 := by omega
  have HL : Hid (∀ c ∈ C, ∀ l ∈ c, LitN N l) := hlit
  have HR0 : Hid ((if P.all (fun l => l.2.all (isLit N)) then stepsP N P C false else false) = R) := hR
  clear hf hR hlit
  go_enter Try.func7, Try.ntmps7
  go_wp2_with fail
  refine HF.out.mono ?_
  rintro e w1 ⟨rfl, hw⟩
  replace hw := hw.symm
  subst hw
  clear HF
  go_wp2_with fail
  go_loopg [8] (P.length) (fun k s8 wr => ∃ j : Nat, s8 = .int .i64 (j : Int) ∧ j + k = P.length ∧ wr = w ∧ Hid ((P.take j).all (fun l => l.2.all (isLit N)) = true) ∧ Hid ((if (P.drop j).all (fun l => l.2.all (isLit N)) then stepsP N P C false else false) = R))
  case atStart => exact ⟨0, rfl, by omega, rfl, rfl, HR0⟩
  case round =>
    clear HR0
    obtain ⟨j, rfl, hjk, rfl, HT, HU⟩ := hrel
    by_cases hj : j < P.length
    · obtain ⟨k, rfl⟩ : ∃ k, gk = k + 1 := ⟨gk - 1, by omega⟩
      obtain ⟨b, off, u, rfl, cg, cu, hui⟩ := HP.out.cell hj
      obtain ⟨x, hx⟩ : ∃ x, P[j] = x := ⟨_, rfl⟩
      rw [hx] at cg hui
      have hd : P.drop j = x :: P.drop (j + 1) := by rw [List.drop_eq_getElem_cons hj, hx]
      have ht : P.take (j + 1) = P.take j ++ [x] := by rw [List.take_succ_eq_append_getElem hj, hx]
      have j0 : (0 : Int) ≤ (j : Int) := by omega
      have j1 : (j : Int) < (P.length : Int) := by omega
      have HLt : Hid (Calls _ _ _ _ _) := literals_any wr N lo u x.2 hN hui
      have hu := HU.out
      rw [hd, List.all_cons] at hu
      cases hb : x.2.all (isLit N) with
      | true =>
        rw [hb] at HLt hu
        rw [Bool.true_and] at hu
        have HQ : Hid ((if (P.drop (j + 1)).all (fun l => l.2.all (isLit N)) then stepsP N P C false else false) = R) := hu
        have HT2 : Hid ((P.take (j + 1)).all (fun l => l.2.all (isLit N)) = true) := by
          show _ = _
          rw [ht, List.all_append, HT.out]
          simp only [List.all_cons, List.all_nil, hb]; rfl
        clear hu HU HT hui
        go_wp2_with fail
        refine HLt.out.mono ?_
        rintro e w' ⟨rfl, hw⟩
        replace hw := hw.symm
        subst hw
        go_wp2_with fail
        go_roundg k
        case measure => omega
        case rel => exact ⟨j + 1, by simp, by omega, rfl, HT2, HQ⟩
      | false =>
        rw [hb] at HLt hu
        rw [Bool.false_and] at hu
        have HQ : Hid (false = R) := hu
        clear hu HU HT hui
        go_wp2_with fail
        refine HLt.out.mono ?_
        rintro e w' ⟨rfl, hw⟩
        replace hw := hw.symm
        subst hw
        go_wp2_with fail
        go_ret
        exact ⟨by rw [← HQ.out]; rfl, Fr.refl _ _⟩
    · rename World => w0
      have j1 : ¬ (j : Int) < (P.length : Int) := by omega
      obtain rfl : j = P.length := by omega
      have hu := HU.out
      rw [List.drop_length] at hu
      have hu2 : stepsP N P C false = R := by simpa using hu
      have HS : Hid (stepsP N P C false = R) := hu2
      have HPL : Hid (∀ l ∈ P, ∀ x ∈ l.2, LitN N x) := fun l hl x hx => by
        have := HT.out
        rw [List.take_length, List.all_eq_true] at this
        have := this l hl
        rw [List.all_eq_true] at this
        exact isLit_iff.1 (this x hx)
      clear hu hu2 HU HT
      obtain ⟨v1, w1, hrun, hO1, hF1⟩ : ∃ v1 w1, (Builtin.append_ #[22, 22] 22 #[.slice none 0 0, .slice ca C.length cc]).run Try.prog w0 = .ok v1 w1 ∧ OwnC w1 w0.heap.size lo v1 C ∧ Fr (fun _ => True) w0 w1 := onto_nil w0 lo ca cc C hlo (by omega) HC.out
      obtain ⟨B, hB⟩ : ∃ B, w0.heap.size = B := ⟨_, rfl⟩
      obtain ⟨l1, c1, hv1⟩ := hO1.form
      subst hv1
      rw [hB] at hO1 hlo
      have O1 : Hid (OwnC w1 B lo (.slice l1 C.length c1) C) := hO1
      have F1 : Hid (Fr (· < B) w0 w1) := hF1.mono fun _ _ => trivial
      have HRN : Hid ((Builtin.append_ #[22, 22] 22 #[.slice none 0 0, .slice ca C.length cc]).run Try.prog w0 = .ok (.slice l1 C.length c1) w1) := hrun
      clear hO1 hF1 hrun
      go_wp2_with (at_builtin; refine at_append _ rfl _ _ 22 rfl _ _ _ _ rfl rfl HRN.out ?_)
      clear HRN
      go_wp2_with fail
      go_loopg [10, 11, 12] (P.length) (fun k s10 s11 s12 w2 => ∃ (j : Nat) (L : List (List Int)) (sh : Bool), s12 = .int .i64 (j : Int) ∧ s11 = .bool sh ∧ j + k = P.length ∧ L.length ≤ C.length + j ∧ Hid (OwnC w2 B lo s10 L) ∧ Hid (Fr (· < B) w0 w2) ∧ Hid (∀ c ∈ L, ∀ l ∈ c, LitN N l) ∧ Hid (stepsP N (P.drop j) L sh = R))
      case atStart => exact ⟨0, C, false, rfl, rfl, by omega, by omega, O1, F1, HL, HS⟩
      case round =>
        clear O1 F1 HS
        obtain ⟨j, L, sh, rfl, rfl, hjk, hLl, O, F, HLL, HU⟩ := hrel
        obtain ⟨la, lc, hl⟩ := O.out.form
        subst hl
        have hfs := F.out.size
        by_cases hj : j < P.length
        · obtain ⟨k, rfl⟩ : ∃ k, gk = k + 1 := ⟨gk - 1, by omega⟩
          obtain ⟨b, off, u, hpa, cg, cu, hui⟩ := (HP.out.of (F.out.mono fun k hk => by omega)).cell hj
          subst hpa
          obtain ⟨gb, c, hx⟩ : ∃ gb c, P[j] = (gb, c) := ⟨_, _, rfl⟩
          rw [hx] at cg hui
          have hd : P.drop j = (gb, c) :: P.drop (j + 1) := by rw [List.drop_eq_getElem_cons hj, hx]
          have hcl2 : ∀ x ∈ c, LitN N x := HPL.out (gb, c) (hx ▸ List.getElem_mem hj)
          have HCL : Hid (∀ x ∈ c, LitN N x) := hcl2
          have j0 : (0 : Int) ≤ (j : Int) := by omega
          have j1 : (j : Int) < (P.length : Int) := by omega
          have hu := HU.out
          rw [hd] at hu
          clear HU hcl2
          cases gb with
          | true =>
            unfold stepsP at hu
            have HQ : Hid (stepsP N (P.drop (j + 1)) (goneP c L) sh = R) := hu
            have HG : Hid (Calls _ _ _ _ _) := gone_any wr B lo _ u L c (by omega) O.out hui
            clear hu hui
            go_wp2_with fail
            refine HG.out.mono ?_
            rintro e w2 ⟨v2, rfl, hO2, hf2⟩
            have O2 : Hid (OwnC w2 B lo v2 (goneP c L)) := hO2
            have F2 : Hid (Fr (· < B) w0 w2) := F.out.trans (hf2.mono fun _ _ => trivial)
            have hgl := goneP_len c L
            have HL2 : Hid (∀ c' ∈ goneP c L, ∀ l ∈ c', LitN N l) := fun c' hc' => HLL.out c' (goneP_mem hc')
            clear hO2 hf2 HG O F cg cu
            go_wp2_with fail
            go_roundg k
            case measure => omega
            case rel => exact ⟨j + 1, _, sh, by simp, rfl, by omega, by omega, O2, F2, HL2, HQ⟩
          | false =>
            unfold stepsP at hu
            obtain ⟨ua, uc, hue, _⟩ := hui.ex
            subst hue
            have hcb := hui.big
            have HI : Hid (IntsAt wr lo (.slice ua c.length uc) c) := hui
            have HQ : Hid ((if followP N L (c.map (- ·)) = some none then stepsP N (P.drop (j + 1)) (L ++ [c]) (sh || decide (c.length = 0)) else false) = R) := hu
            clear hu hui
            obtain ⟨B2, hB2⟩ : ∃ B2, wr.heap.size = B2 := ⟨_, rfl⟩
            go_wp2_with fail
            clear cg cu
            rename World => wq
            go_loopg [14, 15] (c.length) (fun k s14 s15 w3 => ∃ i : Nat, s15 = .int .i64 (i : Int) ∧ i + k = c.length ∧ Hid (OwnI w3 B2 s14 ((c.take i).map (- ·))) ∧ Hid (Fr (fun _ => True) wq w3))
            case atStart => exact ⟨0, rfl, by omega, World.ownsRow_nil _ _ _ _, Fr.refl _ _⟩
            case round =>
              obtain ⟨i, rfl, hik, OI, FI⟩ := hrel
              obtain ⟨oa, oc, ho⟩ := OI.out.form
              subst ho
              have hil : ((c.take i).map (- ·)).length = i := by simp; omega
              have hfi := FI.out.size
              have HOI : Hid (wr.ownsRow B2 3 1 (.slice oa i oc) i (((c.take i).map (- ·)).map fun x => Value.int .i64 x)) := by
                have := OI.out
                unfold OwnI at this
                rwa [hil] at this
              obtain ⟨xs, hxs⟩ : ∃ xs, (((c.take i).map (- ·)).map fun x => Value.int .i64 x) = xs := ⟨_, rfl⟩
              rw [hxs] at HOI
              have HXS : Hid ((((c.take i).map (- ·)).map fun x => Value.int .i64 x) = xs) := hxs
              clear OI hxs
              rw [hil]
              by_cases hi : i < c.length
              · obtain ⟨k2, rfl⟩ : ∃ k2, gk = k2 + 1 := ⟨gk - 1, by omega⟩
                obtain ⟨y, hy⟩ : ∃ y, c[i] = y := ⟨_, rfl⟩
                obtain ⟨p, hp, ci, _⟩ := HI.out.cell FI.out hi
                subst hp
                rw [hy] at ci
                have hyl := HCL.out y (hy ▸ List.getElem_mem hi)
                unfold LitN at hyl
                have y1 : -9223372036854775807 ≤ y := by omega
                have y2 : y ≤ 9223372036854775807 := by omega
                have i0 : (0 : Int) ≤ (i : Int) := by omega
                have i1 : (i : Int) < (c.length : Int) := by omega
                have HOA : Hid ((wr.alloc (.cells #[.int .i64 (-y)] 3)).ownsRow B2 3 1 (.slice oa i oc) i xs) := HOI.out.alloc _
                go_wp2_with (at_builtin; refine wpList_append_own_at _ rfl _ _ 31 rfl B2 3 j0_ _ 1 8 Try.underlying31 hj0 hy0 hy1 hy2 rfl (by decide) (.slice oa i oc) i _ rfl HOA.out ⟨wr.heap.size, 0, none⟩ 1 1 [.int .i64 (-y)] rfl rfl ?q1 ?q2 ?q3 ?q4 ?q5 ?_)
                case q1 => exact World.news_of_block (heap_new rfl)
                case q2 =>
                  intro u hu
                  simp only [List.mem_cons, List.not_mem_nil, or_false] at hu
                  rcases hu with rfl; rfl
                case q3 => unfold maxLen; omega
                case q4 => omega
                case q5 => simp; omega
                intro v4 w4 ho4 hg4 _ _
                have hv4 : OwnI w4 B2 v4 ((c.take (i + 1)).map (- ·)) := by
                  unfold OwnI
                  have e1 : ((c.take (i + 1)).map (- ·)).length = i + 1 := by simp; omega
                  rw [e1, List.take_succ_eq_append_getElem hi, hy, List.map_append, List.map_append, HXS.out]
                  exact ho4
                have hf4 : Fr (fun _ => True) wq w4 := (FI.out.trans ((Fr.refl _ wr).alloc _)).grown hg4 (fun k hk _ => owns_block HOA.out (by omega))
                have OI4 : Hid (OwnI w4 B2 v4 ((c.take (i + 1)).map (- ·))) := hv4
                have FI4 : Hid (Fr (fun _ => True) wq w4) := hf4
                clear hv4 hf4 ho4 hg4 HOA HOI HXS FI ci
                go_wp2_with fail
                go_roundg k2
                case measure => omega
                case rel => exact ⟨i + 1, by simp, by omega, OI4, FI4⟩
              · have i1 : ¬ (i : Int) < (c.length : Int) := by omega
                obtain rfl : i = c.length := by omega
                have hown : OwnI wr B2 (.slice oa c.length oc) (c.map (- ·)) := by
                  unfold OwnI
                  rw [List.length_map]
                  have := HOI.out
                  rw [← HXS.out, List.take_length] at this
                  exact this
                have hneg : ∀ l ∈ c.map (- ·), LitN N l := by
                  intro l hl
                  obtain ⟨y, hy, rfl⟩ := List.mem_map.1 hl
                  have := HCL.out y hy
                  unfold LitN at this ⊢
                  omega
                obtain ⟨r, hr, _⟩ := follow_spec (n := N) (C := L) (G := c.map (- ·)) HLL.out hneg
                have hOw := O.out.of FI.out
                have HFo : Hid (Calls _ _ _ _ _) := follow_any wr N wr.heap.size L (c.map (- ·)) _ _ hN (Nat.le_refl _) HLL.out hneg (hOw.cls (by omega)) (hown.ints (by simpa using hcb)) r hr
                have hq := HQ.out
                rw [hr] at hq
                have hFq : Fr (· < B) w0 wr := F.out.trans (FI.out.mono fun _ _ => trivial)
                have O3 : Hid (OwnC wr B lo (.slice la L.length lc) L) := hOw
                have F3 : Hid (Fr (· < B) w0 wr) := hFq
                have I3 : Hid (IntsAt wr lo (.slice ua c.length uc) c) := HI.out.of (FI.out.mono fun _ _ => trivial)
                clear hOw hFq HQ hr HOI HXS FI O F HI hown hneg
                go_wp2_with fail
                refine HFo.out.mono ?_
                rintro e w5 ⟨hf5, hres⟩
                have O5 : Hid (OwnC w5 B lo (.slice la L.length lc) L) := O3.out.of hf5
                have F5 : Hid (Fr (· < B) w0 w5) := F3.out.trans (hf5.mono fun _ _ => trivial)
                have I5 : Hid (IntsAt w5 lo (.slice ua c.length uc) c) := I3.out.of (hf5.mono fun _ _ => trivial)
                clear hf5 O3 F3 I3 HFo
                cases r with
                | some val =>
                  rw [if_neg (by simp)] at hq
                  obtain ⟨vb, cap5, rfl, _, _⟩ := hres
                  have HQ : Hid (false = R) := hq
                  clear hq
                  go_wp2_with fail
                  go_ret
                  exact ⟨by rw [← HQ.out]; rfl, ⟨F5.out.os, F5.out.tape, F5.out.output, F5.out.size, fun k hk _ => F5.out.block k hk (by show k < B; omega)⟩⟩
                | none =>
                  rw [if_pos rfl] at hq
                  obtain rfl := hres
                  have HQ : Hid (stepsP N (P.drop (j + 1)) (L ++ [c]) (sh || decide (c.length = 0)) = R) := hq
                  obtain ⟨vs, ho5, hcv5⟩ := O5.out.ex
                  have HOA : Hid ((w5.alloc (.cells #[.slice ua c.length uc] 31)).ownsRow B 31 1 (.slice la L.length lc) L.length vs) := ho5.alloc _
                  have HCV : Hid (ClsV w5 lo vs L) := hcv5
                  clear hq ho5 hcv5 O5
                  have hs5 := F5.out.size
                  go_wp2_with (at_builtin; refine wpList_append_own_at _ rfl _ _ 22 rfl B 31 i0_ _ 1 24 Try.underlying22 hi0 hz0 hz1 hz2 rfl (by decide) (.slice la L.length lc) L.length _ rfl HOA.out ⟨w5.heap.size, 0, none⟩ 1 1 [.slice ua c.length uc] rfl rfl ?q1 ?q2 ?q3 ?q4 ?q5 ?_)
                  case q1 => exact World.news_of_block (heap_new rfl)
                  case q2 =>
                    intro u hu
                    simp only [List.mem_cons, List.not_mem_nil, or_false] at hu
                    rcases hu with rfl; rfl
                  case q3 => unfold maxLen; omega
                  case q4 => omega
                  case q5 => simp; omega
                  intro v6 w6 ho6 hg6 _ _
                  have hf6 : Fr (· < B) w5 w6 := ((Fr.refl _ w5).alloc _).grown hg6 (fun k hk hq => owns_block HOA.out hq)
                  have hO6 : OwnC w6 B lo v6 (L ++ [c]) := by
                    refine ⟨⟨vs ++ [.slice ua c.length uc], ?_, ?_⟩, hlo, by simp; omega⟩
                    · rw [List.length_append]; exact ho6
                    · have f7 : Fr (· < lo) w5 w6 := hf6.mono fun k hk => by show k < B; omega
                      refine (HCV.out.of f7).app ⟨rfl, fun i d hd => ?_⟩
                      cases i with
                      | zero => cases hd; exact ⟨_, rfl, I5.out.of f7⟩
                      | succ i => simp at hd
                  have O6 : Hid (OwnC w6 B lo v6 (L ++ [c])) := hO6
                  have F6 : Hid (Fr (· < B) w0 w6) := F5.out.trans hf6
                  have HL6 : Hid (∀ c' ∈ L ++ [c], ∀ l ∈ c', LitN N l) := fun c' hc' => by
                    rcases List.mem_append.1 hc' with q | q
                    · exact HLL.out c' q
                    · rw [List.mem_singleton.1 q]; exact HCL.out
                  clear hO6 hf6 ho6 hg6 HOA HCV I5 F5
                  cases sh with
                  | true =>
                    go_wp2_with fail
                    go_roundg k
                    case measure => omega
                    case rel => exact ⟨j + 1, _, true, by simp, rfl, by omega, by simp; omega, O6, F6, HL6, HQ⟩
                  | false =>
                    go_wp2_with fail
                    go_roundg k
                    case measure => omega
                    case rel => exact ⟨j + 1, _, decide (c.length = 0), by simp, congrArg Value.bool (len_zero c), by omega, by simp; omega, O6, F6, HL6, HQ⟩
        · have j1 : ¬ (j : Int) < (P.length : Int) := by omega
          obtain rfl : j = P.length := by omega
          have hu := HU.out
          rw [List.drop_length] at hu
          unfold stepsP at hu
          have HQ : Hid (sh = R) := hu
          clear hu HU
          go_wp2_with fail
          go_ret
          exact ⟨by rw [← HQ.out]; rfl, ⟨F.out.os, F.out.tape, F.out.output, F.out.size, fun k hk _ => F.out.block k hk (by show k < B; omega)⟩⟩

end Go.Proofs.Ytbicefgjompnoaa.Sx
