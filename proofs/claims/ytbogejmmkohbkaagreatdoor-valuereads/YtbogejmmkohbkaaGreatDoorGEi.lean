/- The reference as text: sequences. -/
import Derived.Test.YtbogejmmkohbkaaGreatDoorGEf
namespace Go.Proofs.YtbogejmmkohbkaaGreatDoor.Sx
open Go.RowKit Go.Sort

set_option maxRecDepth 100000 in
set_option maxHeartbeats 8000000 in
theorem rshow_seq (n : Nat) (hC : ShR n) (P : Nat → Prop) (w : World) (v : Value) (ks vs : List (AV n)) (_ : ∀ x ∈ ks, WF n x) (wv : ∀ x ∈ vs, WF n x) (_ : ks.length = vs.length) (hc : counts (numOf n) ks = true) (ha : Ref P w (n + 1) (mkFn ks vs : Node (AV n)) v) (hb : (sh (n + 1) (mkFn ks vs : Node (AV n))).length ≤ 1099511627776) :
    Calls Tryz.prog 13 #[v] w fun e w' => e = .returned (.string ⟨(sh (n + 1) (mkFn ks vs : Node (AV n))).toArray⟩) ∧ Grew w w' := by
  obtain ⟨s1, ka, kl, kc, ua, ul, uc, rfl, t1, r1, q1⟩ := id ha
  obtain rfl := bytes_of t1
  have HSEQ : Hid (∀ W : World, Grew w W → Calls Tryz.prog 35 _ W _) := fun W hW => rseq_d n P W _ _ (ha.grew hW)
  have HSH : Hid (∀ (W : World) (b : Option Addr) (len cap : Nat) (es : List (AV n)), Row5 P W (Ref P W n) b len es → (∀ x ∈ es, WF n x) → (jL [] (es.map (sh n))).length ≤ 1099511627776 → Calls Tryz.prog 34 #[.slice b len cap] W _) := fun W b len cap es q1 q2 q3 => shown_any n hC P W b len cap es q1 q2 q3
  have HC : Hid (ShR n) := hC
  clear hC ha
  clear t1
  show Calls Tryz.prog 13 #[.agg #[.int .i64 6, .int .i64 0, .string ⟨#[]⟩, .slice ka kl kc, .slice ua ul uc]] w _
  have HSEQ2 : Hid (∀ W : World, Grew w W → Calls Tryz.prog 35 #[.agg #[.int .i64 6, .int .i64 0, .string ⟨#[]⟩, .slice ka kl kc, .slice ua ul uc]] W fun e w' => e = .returned (.bool (counts (numOf n) ks)) ∧ Grew W w') := fun W hW => by
    have q := HSEQ.out W hW
    have e : (counts (numOf n) (mkFn ks vs : Node (AV n)).keys && decide ((mkFn ks vs : Node (AV n)).kind = 6)) = counts (numOf n) ks := by
      show (counts (numOf n) ks && decide (6 = 6)) = _
      simp
    rw [e] at q
    exact q
  clear HSEQ
  have hsh : sh (n + 1) (mkFn ks vs : Node (AV n)) = [60, 60] ++ (jL [] (vs.map (sh n)) ++ [62, 62]) := by
    show shN (sh n) (numOf n) (mkFn ks vs) = _
    rw [sh_seq _ _ ks vs hc, jL_end]; rfl
  rw [hsh] at hb ⊢
  have hl : (jL [] (vs.map (sh n))).length + 4 ≤ 1099511627776 := by simp at hb; omega
  have HD : Hid (∀ W : World, Grew w W → Calls Tryz.prog 34 #[.slice ua ul uc] W _) := fun W hW => HSH.out W ua ul uc vs (Row5.grew hW q1) wv (by omega)
  rw [hc] at HSEQ2
  clear HSH r1 q1 wv HC
  generalize jL [] (vs.map (sh n)) = S at HD hl ⊢
  have hs1 : ¬ 9223372036854775807 < 2 + S.length := by omega
  have hs2 : ¬ 9223372036854775807 < 2 + S.length + 2 := by omega
  have HE : Hid (_ = _) := brace [60, 60] [62, 62] S
  clear hsh hb
  have X0 : Hid ((w.alloc (.cells #[.int .i64 6, .int .i64 0, .string ⟨#[]⟩, .slice ka kl kc, .slice ua ul uc] 30)).heap[w.heap.size]? = some (.cells #[.int .i64 6, .int .i64 0, .string ⟨#[]⟩, .slice ka kl kc, .slice ua ul uc] 30 (0, 0))) := heap_new rfl
  have G0 : Hid (Grew w (w.alloc (.cells #[.int .i64 6, .int .i64 0, .string ⟨#[]⟩, .slice ka kl kc, .slice ua ul uc] 30))) := (Grew.refl w).alloc _
  have mo := follows
  go_enter Tryz.func13, Tryz.ntmps13
  go_upto_region 1 with fail
  generalize w.alloc (.cells #[.int .i64 6, .int .i64 0, .string ⟨#[]⟩, .slice ka kl kc, .slice ua ul uc] 30) = W0 at X0 G0 ⊢
  have b0 := block_cell X0.out 0
  have b1 := block_cell X0.out 1
  have b2 := block_cell X0.out 2
  have b3 := block_cell X0.out 3
  have b4 := block_cell X0.out 4
  have zb := block_lt X0.out
  go_wp2_with fail
  refine (HSEQ2.out W0 G0.out).mono ?_
  rintro e w' ⟨rfl, hg⟩
  have G1 : Hid (Grew w w') := G0.out.trans hg
  have X1 : Hid (w'.heap[w.heap.size]? = _) := Below.blockAt hg.below X0.out
  clear hg b0 b1 b2 b3 b4 X0 G0
  have c4 := block_cell X1.out 4
  have zc := block_lt X1.out
  go_wp2_with fail
  refine (HD.out w' G1.out).mono ?_
  rintro e w2 ⟨rfl, hg⟩
  have G2 : Hid (Grew w w2) := G1.out.trans hg
  clear hg
  go_wp2_with fail
  go_ret
  exact ⟨congrArg (fun b => Ending.returned (Value.string b)) HE.out, G2.out⟩
end Go.Proofs.YtbogejmmkohbkaaGreatDoor.Sx
