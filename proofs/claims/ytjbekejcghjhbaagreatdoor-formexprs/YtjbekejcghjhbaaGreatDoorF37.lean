/- The reference: the tokens of a text. -/
import Derived.Test.YtjbekejcghjhbaaGreatDoorF36
import Derived.Test.YtjbekejcghjhbaaGreatDoorF24
import Derived.Deep.AppendLies
import Derived.Deep.LoopGhost
import Derived.Deep.DeepCutAuto
namespace Go.Proofs.YtjbekejcghjhbaaGreatDoor.Sx
open Go.RowKit Go.Sort

theorem ownsK_of {w w' : World} {base sz n : Nat} {e : TypeId} {sl : Value} {vs : List Value} (h : w.ownsRow base e sz sl n vs) (hb : ∀ g, sl.ownBlock = some g → w'.heap[g]? = w.heap[g]?) : w'.ownsRow base e sz sl n vs := by
  refine ⟨h.1, ?_⟩
  rcases h.2 with h' | ⟨g, cap, cur, e', hg, hq, r⟩
  · exact .inl h'
  · exact .inr ⟨g, cap, cur, e', hg, (hb g (by rw [e']; rfl)).trans hq, r⟩
theorem tokB_end {T : List UInt8} {n : Nat} (h : clF T n = 0 ∨ clF T n = 5) : tokB (tkF T n) = ⟨#[]⟩ := by
  unfold tokB
  rcases h with h | h
  · rw [if_neg (by show ¬ clF T n = 5; omega), (tkF_ok T n).none h]
  · rw [if_pos (by show clF T n = 5; exact h)]
theorem arg3 (W : World) (a b c : Value) : ∀ (k : Nat) (u : Value), [a, b, c][k]? = some u → (W.alloc (.cells #[a, b, c] 106)).cell? ((⟨W.heap.size, 0, none⟩ : Addr).add k) = some u := by
  intro k u hk
  match k, hk with
  | 0, hk => simp at hk; subst hk; simp [Addr.add]
  | 1, hk => simp at hk; subst hk; simp [Addr.add]
  | 2, hk => simp at hk; subst hk; simp [Addr.add]
  | k + 3, hk => simp at hk
theorem one3 {a b c : Value} (ha : a.oneCell' = true) (hb : b.oneCell' = true) (hc : c.oneCell' = true) : ∀ u ∈ [a, b, c], u.oneCell' = true := by
  intro u hu
  simp only [List.mem_cons, List.not_mem_nil, or_false] at hu
  rcases hu with rfl | rfl | rfl
  · exact ha
  · exact hb
  · exact hc
theorem Fr.new1 {w W : World} {bt : Nat} (h : Fr (fun _ => True) w W) (hb : w.heap.size ≤ bt) (o : Nat) (v : Value) : Fr (fun _ => True) w (W.setCell ⟨bt, o, none⟩ v) := by
  have f : Fr (· ≠ bt) W (W.setCell ⟨bt, o, none⟩ v) := (Fr.refl _ W).set (by simp) _
  exact ⟨f.os.trans h.os, f.tape.trans h.tape, f.output.trans h.output, Nat.le_trans h.size f.size, fun k hk _ => (f.block k (Nat.lt_of_lt_of_le hk h.size) (by omega)).trans (h.block k hk trivial)⟩
theorem TBlk.put {w : World} {b v : Nat} {tx : ByteArray} {a : Int} (h : TBlk w b v tx a) (u : Nat) : TBlk (w.setCell ⟨b, 0, none⟩ (.int .u8 (u : Int))) b u tx a := by
  have := set_block h 0 (.int .u8 (u : Int)); simpa [TBlk] using this
theorem TBlk.text {w : World} {b v : Nat} {tx : ByteArray} {a : Int} (h : TBlk w b v tx a) (u : ByteArray) : TBlk (w.setCell ⟨b, 1, none⟩ (.string u)) b v u a := by
  have := set_block h 1 (.string u); simpa [TBlk] using this
theorem tokF_ne0 (c : UInt8) (l : List UInt8) : (tokF (c :: l)).1 ≠ 0 := by
  rw [tokF_cons]
  have := qScan_cls l 1
  repeat' split
  all_goals first | decide | omega
/-- what is known of a token when its end was looked for -/
def FoundT (cl ln q v : Nat) (E : Int) : Prop := (cl ≠ 5 ∧ E = ((q + ln : Nat) : Int) ∧ v = sortB cl) ∨ (cl = 5 ∧ (E ≤ (q : Int) ∨ v = 120))
/-- what Tokens ends in -/
def TokPost (T : List UInt8) (w : World) (e : Ending) (w' : World) : Prop :=
  ∃ N g cap, e = .returned (.slice (some ⟨g, 0, none⟩) (N + 1) cap) ∧ N ≤ T.length ∧ (clF T N = 0 ∨ clF T N = 5) ∧ w.heap.size ≤ g ∧ TokRow (tkF T) N g w' ∧ Fr (fun _ => True) w w'
set_option maxRecDepth 100000 in
set_option maxHeartbeats 20000000 in
theorem gTokens_any (s : ByteArray) (w : World) (hs : s.size ≤ 4000) : Calls Tryz.prog 57 #[.string s] w (TokPost s.data.toList w) := by
  have hl : s.data.toList.length = s.size := by simp
  obtain ⟨T, hT⟩ : ∃ T, s.data.toList = T := ⟨_, rfl⟩
  have HT : Hid (s.data.toList = T) := hT
  rw [hT] at hl ⊢
  clear hT
  obtain ⟨i0, hi0, hz0, hz1, hz2⟩ : ∃ i0, Tryz.prog.info? 106 = some i0 ∧ i0.zero = some (.agg #[.int .u8 0, .string ⟨#[]⟩, .int .i64 0]) ∧ i0.size = 3 ∧ i0.bytes = 32 := by
    have := infoTok
    cases hq : Tryz.prog.info? 106 with
    | none => rw [hq] at this; simp at this
    | some j => rw [hq] at this; simp at this; exact ⟨j, rfl, this.1, this.2.1, this.2.2⟩
  have HLn : Hid (T.length = s.size) := hl
  clear hl
  have mo := follows
  go_enter Tryz.func57, Tryz.ntmps57
  go_wp2_with fail
  go_loopg [3, 4] (s.size + 1) (fun f s3 s4 wr => ∃ n p : Nat, s4 = .int .i64 (p : Int) ∧ p ≤ s.size ∧ n ≤ p ∧ s.size + 1 ≤ f + p ∧ Hid (p = posF T n) ∧ Hid (wr.ownsRow w.heap.size 106 3 s3 n (flatT T n)) ∧ Hid (Fr (fun _ => True) w wr))
  case atStart => exact ⟨0, 0, rfl, by omega, by omega, by omega, rfl, World.ownsRow_nil _ _ _ _, Fr.refl _ _⟩
  case round =>
    obtain ⟨n, p, rfl, hp, hnp, hf, HP, HO, HF⟩ := hrel
    have HA : Hid (p + btw false (T.drop p) = atF T n) := by show _ = _; rw [HP.out]; rfl
    obtain ⟨A, hA⟩ : ∃ A, atF T n = A := ⟨_, rfl⟩
    have HAA : Hid (atF T n = A) := hA
    have hAs : A ≤ s.size := by have := (atF_le T n).2.1; have := HLn.out; omega
    have hpA : p ≤ A := by have := (atF_le T n).1; have := HP.out; omega
    rw [hA] at HA
    clear hA
    go_wp2_with fail
    go_loop [4, 5] (fun i r => ∃ (q : Nat) (b : Bool), q ≤ s.size ∧ i = .int .i64 (q : Int) ∧ r = .bool b ∧ Hid (q + btw b (T.drop q) = A)) (fun i _ => s.size - (intOf i).toNat)
    case atStart => exact ⟨p, false, hp, rfl, rfl, HA⟩
    case round =>
      obtain ⟨q, b, hq, rfl, rfl, HQ⟩ := hrel
      by_cases hlt : q < s.size
      · have hg : T[q]? = some s[q] := by rw [← HT.out, List.getElem?_eq_getElem (by simpa using hlt)]; rfl
        have hst := btw_go hg b
        have HB2 : Hid (∀ W, Calls _ _ _ _ _) := fun W => gblank_any s[q] W
        rcases (show s[q].toNat = 10 ∨ s[q].toNat = 35 ∨ (s[q].toNat ≠ 10 ∧ s[q].toNat ≠ 35) from by omega) with e | e | ⟨e1, e2⟩
        · have hc : s[q] = 10 := by rw [← UInt8.toNat_inj]; exact e
          have HB : Hid (∀ W, Calls Tryz.prog 101 #[.int .u8 s[q].toNat] W fun e w' => e = .returned (.bool true) ∧ w' = W) := fun W => by have := HB2.out W; rw [show isBlank s[q] = true from by rw [hc]; rfl] at this; exact this
          have HN : Hid (q + 1 + btw false (T.drop (q + 1)) = A) := by
            have := HQ.out; rw [hst, hc] at this
            simp [isBlank] at this
            show _ = _; omega
          have a1 : ((s[q].toNat : Int) == 35) = false := by rw [beq_eq_false_iff_ne]; omega
          have a2 : ((s[q].toNat : Int) == 10) = true := by rw [beq_iff_eq]; omega
          clear e hc hg
          clear hst HQ HB2
          go_wp2_with (go_at_call 101; refine (HB.out _).mono ?_; rintro e w' ⟨rfl, hw⟩; obtain rfl := hw.symm)
          go_round
          case rel => exact ⟨q + 1, _, by omega, by go_num, rfl, HN⟩
          case measure => simp [intOf]; omega
        · have hc : s[q] = 35 := by rw [← UInt8.toNat_inj]; exact e
          have HB : Hid (∀ W, Calls Tryz.prog 101 #[.int .u8 s[q].toNat] W fun e w' => e = .returned (.bool false) ∧ w' = W) := fun W => by have := HB2.out W; rw [show isBlank s[q] = false from by rw [hc]; rfl] at this; exact this
          have HN : Hid (q + 1 + btw true (T.drop (q + 1)) = A) := by
            have := HQ.out; rw [hst, hc] at this
            simp [isBlank] at this
            show _ = _; omega
          have a1 : ((s[q].toNat : Int) == 35) = true := by rw [beq_iff_eq]; omega
          have a2 : ((s[q].toNat : Int) == 10) = false := by rw [beq_eq_false_iff_ne]; omega
          clear e hc hg
          clear hst HQ HB2
          go_wp2_with (go_at_call 101; refine (HB.out _).mono ?_; rintro e w' ⟨rfl, hw⟩; obtain rfl := hw.symm)
          go_round
          case rel => exact ⟨q + 1, _, by omega, by go_num, rfl, HN⟩
          case measure => simp [intOf]; omega
        · have c1 : (s[q] == 10) = false := by rw [beq_eq_false_iff_ne]; intro h; rw [h] at e1; exact e1 rfl
          have c2 : (s[q] == 35) = false := by rw [beq_eq_false_iff_ne]; intro h; rw [h] at e2; exact e2 rfl
          have a1 : ((s[q].toNat : Int) == 35) = false := by rw [beq_eq_false_iff_ne]; omega
          have a2 : ((s[q].toNat : Int) == 10) = false := by rw [beq_eq_false_iff_ne]; omega
          obtain ⟨k, hk⟩ : ∃ k, isBlank s[q] = k := ⟨_, rfl⟩
          have HB : Hid (∀ W, Calls Tryz.prog 101 #[.int .u8 s[q].toNat] W fun e w' => e = .returned (.bool k) ∧ w' = W) := fun W => by have := HB2.out W; rw [hk] at this; exact this
          rw [hk, c1, c2] at hst
          clear e1 e2 c1 c2 hk
          cases k with
          | true =>
            have HN : Hid (q + 1 + btw b (T.drop (q + 1)) = A) := by
              have := HQ.out; rw [hst] at this
              simp at this
              show _ = _; omega
            clear hg
            cases b
            all_goals
              clear hst HQ HB2
              go_wp2_with (go_at_call 101; refine (HB.out _).mono ?_; rintro e w' ⟨rfl, hw⟩; obtain rfl := hw.symm)
              go_round
              case rel => exact ⟨q + 1, _, by omega, by go_num, rfl, HN⟩
              case measure => simp [intOf]; omega
          | false =>
            cases b with
            | true =>
              have HN : Hid (q + 1 + btw true (T.drop (q + 1)) = A) := by
                have := HQ.out; rw [hst] at this
                simp at this
                show _ = _; omega
              clear hg hst HQ HB2
              go_wp2_with (go_at_call 101; refine (HB.out _).mono ?_; rintro e w' ⟨rfl, hw⟩; obtain rfl := hw.symm)
              go_round
              case rel => exact ⟨q + 1, _, by omega, by go_num, rfl, HN⟩
              case measure => simp [intOf]; omega
            | false =>
              obtain rfl : q = A := by have := HQ.out; rw [hst] at this; simpa using this
              have HG : Hid (T[q]? = some s[q]) := hg
              have a3 : ((q : Int) == (s.size : Int)) = false := by rw [beq_eq_false_iff_ne]; omega
              clear hst HQ HB2 hg HA
              go_upto_region 15 with (go_at_call 101; refine (HB.out _).mono ?_; rintro e w' ⟨rfl, hw⟩; obtain rfl := hw.symm)
              obtain ⟨cl, hcl⟩ : ∃ cl, clF T n = cl := ⟨_, rfl⟩
              obtain ⟨ln, hln⟩ : ∃ ln, lenF T n = ln := ⟨_, rfl⟩
              have hall : tokF (T.drop q) = (cl, ln) := by rw [← hcl, ← hln]; unfold clF lenF; rw [HAA.out]
              have HALL : Hid (tokF (T.drop q) = (cl, ln)) := hall
              have HCL : Hid (clF T n = cl ∧ lenF T n = ln) := ⟨hcl, hln⟩
              have T1 : Hid (TBlk (wr.alloc (.cells #[.int .u8 120, .string ⟨#[]⟩, .int .i64 (q : Int)] 106)) wr.heap.size 120 ⟨#[]⟩ (q : Int)) := heap_new rfl
              have HF1 : Hid (Fr (fun _ => True) w (wr.alloc (.cells #[.int .u8 120, .string ⟨#[]⟩, .int .i64 (q : Int)] 106))) := HF.out.alloc _
              have HO1 : Hid ((wr.alloc (.cells #[.int .u8 120, .string ⟨#[]⟩, .int .i64 (q : Int)] 106)).ownsRow w.heap.size 106 3 u3 n (flatT T n)) := HO.out.alloc _
              have hown : ∀ g, u3.ownBlock = some g → g ≠ wr.heap.size ∧ w.heap.size ≤ g := fun g e => ⟨by have := (HO.out.lt g e).2; omega, (HO.out.lt g e).1⟩
              have hww := HF.out.size
              generalize (wr.alloc (.cells #[.int .u8 120, .string ⟨#[]⟩, .int .i64 (q : Int)] 106)) = W1 at T1 HF1 HO1 ⊢
              obtain ⟨bt, hbt⟩ : ∃ bt, wr.heap.size = bt := ⟨_, rfl⟩
              rw [hbt] at T1 hown hww ⊢
              have HOWN : Hid (∀ g, u3.ownBlock = some g → g ≠ bt ∧ w.heap.size ≤ g) := hown
              clear hbt hown hcl hln hall HF HO
              obtain ⟨bi, hbi⟩ : ∃ b, isPart s[q] = b := ⟨_, rfl⟩
              have HBI : Hid (isPart s[q] = bi) := hbi
              have HIN : Hid (∀ W, Calls Tryz.prog 102 #[.int .u8 s[q].toNat] W fun e w' => e = .returned (.bool bi) ∧ w' = W) := fun W => by have := inner_any s[q] W; rw [hbi] at this; exact this
              clear hbi
              go_upto_if 52 with (go_at_call 102; refine (HIN.out _).mono ?_; rintro e w' ⟨rfl, hw⟩; obtain rfl := hw.symm)
              go_cut [9] (fun s9 wc => ∃ (E : Int) (v : Nat), s9 = .int .i64 E ∧ Hid (TBlk wc bt v ⟨#[]⟩ (q : Int)) ∧ Hid (wc.ownsRow w.heap.size 106 3 u3 n (flatT T n)) ∧ Hid (Fr (fun _ => True) w wc) ∧ Hid (FoundT cl ln q v E))
              case first =>
                have hrs := runLen_le (T.drop q)
                have hTl := HLn.out
                rw [List.length_drop] at hrs
                cases bi with
                | true =>
                  obtain ⟨R, hR⟩ : ∃ R, runLen (T.drop q) = R := ⟨_, rfl⟩
                  have hin := tok_in (c := s[q]) (l := T.drop (q + 1)) HBI.out
                  rw [← drop_at HG.out, HALL.out, hR] at hin
                  have hRp : 0 < R := by rw [← hR, drop_at HG.out]; exact runLen_pos HBI.out
                  rw [hR] at hrs
                  have HRUN : Hid (∀ W, Calls Tryz.prog 103 #[.string s, .int .i64 (q : Int)] W fun e w' => e = .returned (.int .i64 ((q + R : Nat) : Int)) ∧ w' = W) := fun W => by have := rrun_any s q W (by omega) (by omega); rw [HT.out, hR] at this; exact this
                  have hsz : (s.extract q (q + R)).size = R := by simp [ByteArray.size_extract]; omega
                  have HW : Hid (∀ W, Calls Tryz.prog 104 #[.string (s.extract q (q + R))] W fun e w' => e = .returned (.int .u8 (sortB cl : Int)) ∧ w' = W) := fun W => by
                    have := gword_any (s.extract q (q + R)) W (by omega) (by omega)
                    rw [ext_take, HT.out] at this
                    have e2 : (⟨((T.drop q).take R).toArray⟩ : ByteArray).data.toList = (T.drop q).take R := rfl
                    rw [e2, hin.2, ← HT.out, ← ext_take] at this
                    exact this
                  have HFD : Hid (FoundT cl ln q (sortB cl) ((q + R : Nat) : Int)) := by
                    by_cases h5 : cl = 5
                    · exact .inr ⟨h5, .inr (by rw [h5]; rfl)⟩
                    · exact .inl ⟨h5, by rw [← hin.1], rfl⟩
                  have x0 := block_cell T1.out 0
                  have y0 := frozen_block T1.out 0
                  clear hR hin hsz
                  obtain ⟨sv, hsv⟩ : ∃ v, sortB cl = v := ⟨_, rfl⟩
                  rw [hsv] at HW HFD
                  clear hsv
                  have hq4 : ((q + R : Nat) : Int) = (q : Int) + (R : Int) := by omega
                  go_wp2_with fail
                  refine (HRUN.out _).mono ?_
                  rintro e w' ⟨rfl, hw⟩; obtain rfl := hw.symm
                  go_wp2_with (go_at_call 104; refine (HW.out _).mono ?_; rintro e w' ⟨rfl, hw⟩; obtain rfl := hw.symm)
                  go_meet
                  case rel => exact ⟨_, sv, rfl, T1.out.put sv, ownsK_of HO1.out (fun g e => ((Fr.refl (· ≠ bt) W1).set (by simp) _).block g ((HO1.out.lt g e).2) (HOWN.out g e).1), HF1.out.new1 hww _ _, by show FoundT _ _ _ _ _; rw [← hq4]; exact HFD.out⟩
                | false =>
                  by_cases h34 : s[q].toNat = 34
                  · have a5 : ((s[q].toNat : Int) == 34) = true := by rw [beq_iff_eq]; omega
                    have hqe := tok_quote HG.out HBI.out h34
                    have hqc := tok_quote_cl HG.out HBI.out h34
                    rw [HALL.out] at hqe hqc
                    obtain ⟨E, hE⟩ : ∃ E, (if cl = 3 then ((q + ln : Nat) : Int) else -1) = E := ⟨_, rfl⟩
                    have HQU : Hid (∀ W, Calls Tryz.prog 105 #[.string s, .int .i64 (q : Int)] W fun e w' => e = .returned (.int .i64 E) ∧ w' = W) := fun W => by
                      have := quoted_any s q W (by omega) (by omega)
                      rw [HT.out, hqe] at this
                      have hE' : (if (cl, ln).1 = 3 then ((q + (cl, ln).2 : Nat) : Int) else -1) = E := hE
                      rw [hE'] at this
                      exact this
                    have HFD : Hid (FoundT cl ln q 34 E) := by
                      rcases hqc with h | h
                      · have h : cl = 3 := h
                        exact .inl ⟨by omega, by rw [← hE, if_pos h], by rw [h]; rfl⟩
                      · have h : cl = 5 := h
                        exact .inr ⟨h, .inl (by rw [← hE, if_neg (by omega)]; omega)⟩
                    have x0 := block_cell T1.out 0
                    have y0 := frozen_block T1.out 0
                    clear hqe hqc hE h34 hrs
                    go_wp2_with (go_at_call 105; refine (HQU.out _).mono ?_; rintro e w' ⟨rfl, hw⟩; obtain rfl := hw.symm)
                    go_meet
                    case rel => exact ⟨E, 34, rfl, T1.out.put 34, ownsK_of HO1.out (fun g e => ((Fr.refl (· ≠ bt) W1).set (by simp) _).block g ((HO1.out.lt g e).2) (HOWN.out g e).1), HF1.out.new1 hww _ _, HFD⟩
                  · have a5 : ((s[q].toNat : Int) == 34) = false := by rw [beq_eq_false_iff_ne]; omega
                    have hts := tok_sign HG.out HBI.out h34
                    rw [HALL.out] at hts
                    have hne : T.drop q ≠ [] := by rw [drop_at HG.out]; simp
                    obtain ⟨L, hL⟩ : ∃ L, T.drop q = L := ⟨_, rfl⟩
                    obtain ⟨F, hF⟩ : ∃ F, signF L = F := ⟨_, rfl⟩
                    have hSK := signK_eq L (by rw [← hL]; exact hne)
                    rw [hL, hF] at hts
                    rw [hF] at hSK
                    have HSK : Hid (signK (signsB.map fun b => b.data.toList) L = F) := hSK
                    have HL : Hid (T.drop q = L) := hL
                    have HTS : Hid ((cl, ln) = if F = 0 then (5, 0) else (4, F)) := hts
                    have HLl : Hid (L.length = s.size - q) := by show _ = _; rw [← hL, List.length_drop]; omega
                    have HSG : Hid (Calls _ _ _ _ _) := gsigns_any W1
                    clear hts hne hL hF hSK h34 hrs
                    go_wp2_with (go_at_call 106; refine HSG.out.mono ?_; rintro e w' ⟨rfl, hw⟩; obtain rfl := hw.symm)
                    have HG4 : Hid ((W1.alloc (.cells (signsB.map Value.string).toArray 9)).heap[W1.heap.size]? = some (.cells (signsB.map Value.string).toArray 9 (0, 0))) := heap_new rfl
                    have T4 : Hid (TBlk (W1.alloc (.cells (signsB.map Value.string).toArray 9)) bt 120 ⟨#[]⟩ (q : Int)) := ((Fr.grew (P := fun _ => True) ((Grew.refl W1).alloc _)).block bt (block_lt T1.out) trivial).trans T1.out
                    have HO4 : Hid ((W1.alloc (.cells (signsB.map Value.string).toArray 9)).ownsRow w.heap.size 106 3 u3 n (flatT T n)) := HO1.out.alloc _
                    have HF4 : Hid (Fr (fun _ => True) w (W1.alloc (.cells (signsB.map Value.string).toArray 9))) := HF1.out.alloc _
                    have hbgt : bt < W1.heap.size := block_lt T1.out
                    generalize W1.alloc (.cells (signsB.map Value.string).toArray 9) = W4 at HG4 T4 HO4 HF4 ⊢
                    obtain ⟨bg, hbg⟩ : ∃ bg, W1.heap.size = bg := ⟨_, rfl⟩
                    rw [hbg] at HG4 hbgt ⊢
                    clear hbg T1 HO1 HF1 HSG
                    have hbgb : bg ≠ bt := by omega
                    go_loopg [9, 11] (29) (fun f s9 s11 wr2 => ∃ (k : Nat) (E : Int) (v : Nat), s9 = .int .i64 E ∧ s11 = .int .i64 (k : Int) ∧ k ≤ 28 ∧ f + k = 29 ∧ Hid (TBlk wr2 bt v ⟨#[]⟩ (q : Int)) ∧ Hid (wr2.ownsRow w.heap.size 106 3 u3 n (flatT T n)) ∧ Hid (Fr (fun _ => True) w wr2) ∧ Hid (wr2.heap[bg]? = some (.cells (signsB.map Value.string).toArray 9 (0, 0))) ∧ Hid ((E = (q : Int) ∧ v = 120 ∧ signK ((signsB.drop k).map fun b => b.data.toList) L = F) ∨ (E = ((q + F : Nat) : Int) ∧ v = 111 ∧ F ≠ 0)))
                    case atStart => exact ⟨0, (q : Int), 120, rfl, rfl, by omega, by omega, T4, HO4, HF4, HG4, .inl ⟨rfl, rfl, HSK.out⟩⟩
                    case round =>
                      clear T4 HO4 HF4 HG4
                      obtain ⟨k, E, v, rfl, rfl, hk28, hfk, T5, HO5, HF5, HG5, HS5⟩ := hrel
                      rcases HS5.out with ⟨rfl, rfl, hsg⟩ | ⟨rfl, rfl, hF0⟩
                      · have e1 : ((q : Int) == (q : Int)) = true := by simp
                        by_cases hk : k < 28
                        · obtain ⟨b, hb⟩ : ∃ b, signsB[k]? = some b := ⟨_, List.getElem?_eq_getElem (by show k < 28; exact hk)⟩
                          have hbs : 1 ≤ b.size ∧ b.size ≤ 2 := (show ∀ b ∈ signsB, 1 ≤ b.size ∧ b.size ≤ 2 by decide) b (List.mem_of_getElem? hb)
                          obtain ⟨hb1, hb2⟩ := hbs
                          have hdr : signsB.drop k = b :: signsB.drop (k + 1) := by
                            obtain ⟨h1, h2⟩ := List.getElem?_eq_some_iff.1 hb
                            rw [List.drop_eq_getElem_cons h1, h2]
                          have hbl : b.data.toList.length = b.size := by simp
                          rw [hdr, List.map_cons, signK, hbl, HLl.out] at hsg
                          have c0 : wr.cell? ⟨bg, k, none⟩ = some (.string b) := by rw [block_cell HG5.out]; simp [hb]
                          have hgd : wr.drew.heap[bg]? = some (.cells (signsB.map Value.string).toArray 9 (0, 0)) := ((Fr.grew (P := fun _ => True) (Grew.refl wr).drew).block bg (block_lt HG5.out) trivial).trans HG5.out
                          have d0 : wr.drew.cell? ⟨bg, k, none⟩ = some (.string b) := by rw [block_cell hgd]; simp [hb]
                          have x0 := block_cell T5.out 0
                          have y0 := frozen_block T5.out 0
                          have hlg := block_lt HG5.out
                          have hkI : (k : Int) < 28 := by omega
                          have hTd : TBlk wr.drew bt 120 ⟨#[]⟩ (q : Int) := ((Fr.grew (P := fun _ => True) (Grew.refl wr).drew).block bt (block_lt T5.out) trivial).trans T5.out
                          have T6 : Hid (TBlk wr.drew bt 120 ⟨#[]⟩ (q : Int)) := hTd
                          have HO6 : Hid (wr.drew.ownsRow w.heap.size 106 3 u3 n (flatT T n)) := ownsK_of HO5.out (fun g e => (Fr.grew (P := fun _ => True) (Grew.refl wr).drew).block g (HO5.out.lt g e).2 trivial)
                          have HF6 : Hid (Fr (fun _ => True) w wr.drew) := HF5.out.drew
                          have HG6 : Hid (wr.drew.heap[bg]? = some (.cells (signsB.map Value.string).toArray 9 (0, 0))) := hgd
                          have x6 := block_cell hTd 0
                          have y6 := frozen_block hTd 0
                          clear HS5 hgd hdr hbl hb hTd
                          by_cases h1 : b.size ≤ s.size - q
                          · have i1 : (b.size : Int) ≤ (s.size : Int) - (q : Int) := by omega
                            have i2 : q + b.size ≤ s.size := by omega
                            rw [decide_eq_true h1, Bool.true_and] at hsg
                            have hex : (s.extract q (q + b.size)).toList = L.take b.size := by rw [ByteArray.toList_eq, ext_take, HT.out, HL.out]
                            have hbt : b.data.toList = b.toList := by rw [ByteArray.toList_eq]
                            rw [hbt, ← hex] at hsg
                            obtain ⟨z, hz⟩ : ∃ z, ((s.extract q (q + b.size)).toList == b.toList) = z := ⟨_, rfl⟩
                            rw [hz] at hsg
                            have HSG : Hid (_ = F) := hsg
                            clear hsg hex hbt h1
                            cases z with
                            | true =>
                              have HH : Hid (((q : Int) + (b.size : Int) = ((q + F : Nat) : Int)) ∧ F ≠ 0) := by
                                have := HSG.out; rw [if_pos rfl] at this; exact ⟨by omega, by omega⟩
                              clear HSG
                              go_upto_region 27 with fail
                              go_big_region_o
                              clear x0 y0 c0 T5 HO5 HF5 HG5
                              generalize wr.drew = W6 at T6 HO6 HF6 HG6 x6 y6 d0 ⊢
                              go_wp2_with fail
                              have HG7 : Hid ((W6.setCell ⟨bt, 0, none⟩ (.int .u8 111)).heap[bg]? = some (.cells (signsB.map Value.string).toArray 9 (0, 0))) := (((Fr.refl (· ≠ bt) W6).set (by simp) _).block bg (block_lt HG6.out) hbgb).trans HG6.out
                              go_roundg (gk - 1)
                              case measure => omega
                              case rel => exact ⟨k + 1, _, 111, rfl, by go_num, by omega, by omega, T6.out.put 111, ownsK_of HO6.out (fun g e => ((Fr.refl (· ≠ bt) W6).set (by simp) _).block g ((HO6.out.lt g e).2) (HOWN.out g e).1), HF6.out.new1 hww _ _, HG7, .inr ⟨HH.out.1, rfl, HH.out.2⟩⟩
                            | false =>
                              have HH : Hid (signK ((signsB.drop (k + 1)).map fun b => b.data.toList) L = F) := by have := HSG.out; rw [if_neg (by simp)] at this; exact this
                              clear HSG
                              go_upto_region 27 with fail
                              go_big_region_o
                              clear x0 y0 c0 T5 HO5 HF5 HG5
                              generalize wr.drew = W6 at T6 HO6 HF6 HG6 x6 y6 d0 ⊢
                              go_wp2_with fail
                              go_roundg (gk - 1)
                              case measure => omega
                              case rel => exact ⟨k + 1, _, 120, rfl, by go_num, by omega, by omega, T6, HO6, HF6, HG6, .inl ⟨rfl, rfl, HH.out⟩⟩
                          · have i1 : ¬ (b.size : Int) ≤ (s.size : Int) - (q : Int) := by omega
                            rw [decide_eq_false h1, Bool.false_and] at hsg
                            have HSG : Hid (signK ((signsB.drop (k + 1)).map fun b => b.data.toList) L = F) := by have := hsg; rw [if_neg (by simp)] at this; exact this
                            clear hsg h1
                            go_upto_region 27 with fail
                            go_big_region_o
                            clear x0 y0 c0 T5 HO5 HF5 HG5
                            generalize wr.drew = W6 at T6 HO6 HF6 HG6 x6 y6 d0 ⊢
                            go_wp2_with fail
                            go_roundg (gk - 1)
                            case measure => omega
                            case rel => exact ⟨k + 1, _, 120, rfl, by go_num, by omega, by omega, T6, HO6, HF6, HG6, .inl ⟨rfl, rfl, HSG.out⟩⟩
                        · obtain rfl : k = 28 := by omega
                          have HF0 : Hid (FoundT cl ln q 120 (q : Int)) := by
                            have h0 : (0 : Nat) = F := hsg
                            have := HTS.out
                            rw [if_pos h0.symm] at this
                            injection this with h1 h2
                            exact .inr ⟨h1, .inl (Int.le_refl _)⟩
                          clear HS5 hsg
                          go_wp2_with fail
                          go_meet
                          case rel => exact ⟨_, 120, rfl, T5, HO5, HF5, HF0⟩
                      · have e1 : (((q + F : Nat) : Int) == (q : Int)) = false := by rw [beq_eq_false_iff_ne]; omega
                        have HF0 : Hid (FoundT cl ln q 111 ((q + F : Nat) : Int)) := by
                          have := HTS.out
                          rw [if_neg hF0] at this
                          injection this with h1 h2
                          exact .inl ⟨by omega, by rw [h2], by rw [h1]; rfl⟩
                        clear HS5 hF0
                        by_cases hk : k < 28
                        all_goals
                          go_wp2_with fail
                          go_meet
                          case rel => exact ⟨_, 111, rfl, T5, HO5, HF5, HF0⟩
              case rest =>
                obtain ⟨E, v, rfl, T2, HO2, HF2, HFD⟩ := hcut
                have hln0 : cl ≠ 5 → 0 < ln := fun h => by
                  have h0 := tokF_ne0 s[q] (T.drop (q + 1))
                  rw [← drop_at HG.out] at h0
                  have := tokF_pos (T.drop q) h0 (by rw [HALL.out]; exact h)
                  rw [HALL.out] at this; exact this
                have hlen := (atF_le T n).2.2
                rw [HAA.out, HCL.out.2] at hlen
                have hTl := HLn.out
                rcases HFD.out with ⟨h5, hE, hv⟩ | ⟨h5, hb⟩
                · have hln1 := hln0 h5
                  subst hE
                  have hv2 : ((v : Int) == 120) = false := by
                    rw [beq_eq_false_iff_ne]
                    have hs6 := (tkF_ok T n).sort
                    have hs7 : (tkF T n).cl = cl := HCL.out.1
                    rw [hs7] at hs6
                    rcases hs6 with e | e | e | e | e | e <;> rw [e] at hv h5 <;> simp [sortB] at hv <;> omega
                  have HV : Hid (v = sortB cl) := hv
                  have hn0 : ¬ ((q + ln : Nat) : Int) ≤ (q : Int) := by omega
                  have x0 := block_cell T2.out 0
                  have x1 := block_cell T2.out 1
                  have x2 := block_cell T2.out 2
                  have y1 := frozen_block T2.out 1
                  have hsl : q + ln ≤ s.size := by omega
                  have HT3 : Hid (TBlk (wc.setCell ⟨bt, 1, none⟩ (.string (s.extract q (q + ln)))) bt v (s.extract q (q + ln)) (q : Int)) := T2.out.text _
                  have HO3 : Hid ((wc.setCell ⟨bt, 1, none⟩ (.string (s.extract q (q + ln)))).ownsRow w.heap.size 106 3 u3 n (flatT T n)) := ownsK_of HO2.out (fun g e => ((Fr.refl (· ≠ bt) wc).set (by simp) _).block g ((HO2.out.lt g e).2) (HOWN.out g e).1)
                  have HF3 : Hid (Fr (fun _ => True) w (wc.setCell ⟨bt, 1, none⟩ (.string (s.extract q (q + ln))))) := HF2.out.new1 hww _ _
                  clear hv hln0 HFD hlen
                  go_upto_region 35 with fail
                  generalize wc.setCell ⟨bt, 1, none⟩ (.string (s.extract q (q + ln))) = W3 at HT3 HO3 HF3 ⊢
                  clear x0 x1 x2 y1 T2 HO2 HF2
                  have x0 := block_cell HT3.out 0
                  have x1 := block_cell HT3.out 1
                  have x2 := block_cell HT3.out 2
                  have hw3 := HF3.out.size
                  have HOA : Hid ((W3.alloc (.cells #[.int .u8 (v : Int), .string (s.extract q (q + ln)), .int .i64 (q : Int)] 106)).ownsRow w.heap.size 106 3 u3 n (flatT T n)) := HO3.out.alloc _
                  go_wp2_with (at_builtin; refine wpList_append_lies _ rfl _ _ 99 rfl _ 106 i0 _ 3 32 Tryz.underlying99 hi0 hz0 hz1 hz2 rfl (by decide) u3 _ (flatT T n) rfl HOA.out _ 1 1 [.int .u8 (v : Int), .string (s.extract q (q + ln)), .int .i64 (q : Int)] rfl rfl (arg3 W3 _ _ _) (one3 rfl rfl rfl) (by decide) (by unfold maxLen; omega) (by omega) (by simp; omega) (W3.heap.size + 1) (by simp) ?_)
                  intro g cap w3 ho hg hat hlt
                  have HE1 : Hid (w3.ownsRow w.heap.size 106 3 (.slice (some ⟨g, 0, none⟩) (n + 1) cap) (n + 1) (flatT T (n + 1))) := by
                    show World.ownsRow _ _ _ _ _ _ _
                    have e1 : tokB (tkF T n) = s.extract q (q + ln) := by
                      unfold tokB
                      rw [if_neg (by show ¬ clF T n = 5; rw [HCL.out.1]; exact h5), ext_take, HT.out]
                      show ByteArray.mk (((T.drop (atF T n)).take (lenF T n)).toArray) = _
                      rw [HAA.out, HCL.out.2]
                    rw [flatT_succ, HCL.out.1, HAA.out, e1, ← HV.out]; exact ho
                  have HE2 : Hid (Fr (fun _ => True) w w3) := Fr.grownT HF3.out hg fun k e => (HOWN.out k e).2
                  have HE3 : Hid (q + ln = posF T (n + 1)) := by show _ = _; rw [posF_succ, HAA.out, HCL.out.2]
                  clear ho hg hat hlt HOA HO3 HF3 HT3 x0 x1 x2
                  go_wp2_with fail
                  go_roundg (gk - 1)
                  case measure => omega
                  case rel => exact ⟨n + 1, q + ln, rfl, by omega, by omega, by omega, HE3, HE1, HE2⟩
                · have HC5 : Hid (clF T n = 5) := by show _ = _; rw [HCL.out.1]; exact h5
                  have HEND : Hid (∀ (g cap : Nat) (w3 : World), w3.ownsRow w.heap.size 106 3 (.slice (some ⟨g, 0, none⟩) (n + 1) cap) (n + 1) (flatT T n ++ [.int .u8 120, .string ⟨#[]⟩, .int .i64 (q : Int)]) → Fr (fun _ => True) w w3 → TokPost T w (.returned (.slice (some ⟨g, 0, none⟩) (n + 1) cap)) w3) := fun g cap w3 ho hf => ⟨n, g, cap, rfl, by omega, .inr HC5.out, (ho.lt g rfl).1, TokRow.owns (by rw [flatT_succ, HC5.out, HAA.out, tokB_end (.inr HC5.out)]; exact ho), hf⟩
                  have x0 := block_cell T2.out 0
                  have y0 := frozen_block T2.out 0
                  clear hln0 HFD hlen
                  by_cases hE : E ≤ (q : Int)
                  · have HT3 : Hid (TBlk (wc.setCell ⟨bt, 0, none⟩ (.int .u8 120)) bt 120 ⟨#[]⟩ (q : Int)) := T2.out.put 120
                    have HO3 : Hid ((wc.setCell ⟨bt, 0, none⟩ (.int .u8 120)).ownsRow w.heap.size 106 3 u3 n (flatT T n)) := ownsK_of HO2.out (fun g e => ((Fr.refl (· ≠ bt) wc).set (by simp) _).block g ((HO2.out.lt g e).2) (HOWN.out g e).1)
                    have HF3 : Hid (Fr (fun _ => True) w (wc.setCell ⟨bt, 0, none⟩ (.int .u8 120))) := HF2.out.new1 hww _ _
                    clear hb
                    go_upto_region 32 with fail
                    generalize wc.setCell ⟨bt, 0, none⟩ (.int .u8 120) = W3 at HT3 HO3 HF3 ⊢
                    clear x0 y0 T2 HO2 HF2
                    have x0 := block_cell HT3.out 0
                    have x1 := block_cell HT3.out 1
                    have x2 := block_cell HT3.out 2
                    have hw3 := HF3.out.size
                    have HOA : Hid ((W3.alloc (.cells #[.int .u8 120, .string ⟨#[]⟩, .int .i64 (q : Int)] 106)).ownsRow w.heap.size 106 3 u3 n (flatT T n)) := HO3.out.alloc _
                    go_wp2_with (at_builtin; refine wpList_append_lies _ rfl _ _ 99 rfl _ 106 i0 _ 3 32 Tryz.underlying99 hi0 hz0 hz1 hz2 rfl (by decide) u3 _ (flatT T n) rfl HOA.out _ 1 1 [.int .u8 (120), .string ⟨#[]⟩, .int .i64 (q : Int)] rfl rfl (arg3 W3 _ _ _) (one3 rfl rfl rfl) (by decide) (by unfold maxLen; omega) (by omega) (by simp; omega) (W3.heap.size + 1) (by simp) ?_)
                    intro g cap w3 ho hg hat hlt
                    have HH : Hid (TokPost T w (.returned (.slice (some ⟨g, 0, none⟩) (n + 1) cap)) w3) := HEND.out g cap w3 ho (Fr.grownT HF3.out hg fun k e => (HOWN.out k e).2)
                    clear ho hg hat hlt HOA HO3 HF3 HT3 x0 x1 x2
                    go_wp2_with fail
                    go_ret
                    exact HH.out
                  · obtain rfl : v = 120 := by rcases hb with h | h; exact absurd h hE; exact h
                    have x1 := block_cell T2.out 1
                    have x2 := block_cell T2.out 2
                    have hw3 := HF2.out.size
                    have HOA : Hid ((wc.alloc (.cells #[.int .u8 120, .string ⟨#[]⟩, .int .i64 (q : Int)] 106)).ownsRow w.heap.size 106 3 u3 n (flatT T n)) := HO2.out.alloc _
                    clear hb
                    go_wp2_with (at_builtin; refine wpList_append_lies _ rfl _ _ 99 rfl _ 106 i0 _ 3 32 Tryz.underlying99 hi0 hz0 hz1 hz2 rfl (by decide) u3 _ (flatT T n) rfl HOA.out _ 1 1 [.int .u8 (120), .string ⟨#[]⟩, .int .i64 (q : Int)] rfl rfl (arg3 wc _ _ _) (one3 rfl rfl rfl) (by decide) (by unfold maxLen; omega) (by omega) (by simp; omega) (wc.heap.size + 1) (by simp) ?_)
                    intro g cap w3 ho hg hat hlt
                    have HH : Hid (TokPost T w (.returned (.slice (some ⟨g, 0, none⟩) (n + 1) cap)) w3) := HEND.out g cap w3 ho (Fr.grownT HF2.out hg fun k e => (HOWN.out k e).2)
                    clear ho hg hat hlt HOA HO2 HF2 T2 x0 x1 x2
                    go_wp2_with fail
                    go_ret
                    exact HH.out
      · obtain rfl : q = s.size := by omega
        obtain rfl : s.size = A := by have := HQ.out; rw [btw_end (by have := HLn.out; omega)] at this; exact this
        have HC : Hid (clF T n = 0 ∧ lenF T n = 0) := by
          unfold Hid clF lenF; rw [HAA.out, List.drop_of_length_le (by have := HLn.out; omega)]; exact ⟨rfl, rfl⟩
        have a3 : ((s.size : Int) == (s.size : Int)) = true := by simp
        clear HQ HA
        have HOA : Hid ((wr.alloc (.cells #[.int .u8 101, .string ⟨#[]⟩, .int .i64 (s.size : Int)] 106)).ownsRow w.heap.size 106 3 u3 n (flatT T n)) := HO.out.alloc _
        have hww := HF.out.size
        go_wp2_with (at_builtin; refine wpList_append_lies _ rfl _ _ 99 rfl _ 106 i0 _ 3 32 Tryz.underlying99 hi0 hz0 hz1 hz2 rfl (by decide) u3 _ (flatT T n) rfl HOA.out _ 1 1 [.int .u8 101, .string ⟨#[]⟩, .int .i64 (s.size : Int)] rfl rfl (arg3 wr _ _ _) (one3 rfl rfl rfl) (by decide) (by unfold maxLen; omega) (by omega) (by simp; omega) (wr.heap.size + 1) (by simp) ?_)
        intro g cap w3 ho hg hat hlt
        have HE : Hid (TokPost T w (.returned (.slice (some ⟨g, 0, none⟩) (n + 1) cap)) w3) := ⟨n, g, cap, rfl, by have := HLn.out; omega, .inl HC.out.1, (ho.lt g rfl).1, TokRow.owns (by rw [flatT_succ, HC.out.1, HAA.out, tokB_end (.inl HC.out.1)]; exact ho), Fr.grownT HF.out hg fun k e => (HO.out.lt k e).1⟩
        clear ho hg hat hlt HOA HO
        go_wp2_with fail
        go_ret
        exact HE.out
end Go.Proofs.YtjbekejcghjhbaaGreatDoor.Sx
