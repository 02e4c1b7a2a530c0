/- The reference as text: texts and atoms. -/
import Derived.Test.YtbogejmmkohbkaaGreatDoorGEf
namespace Go.Proofs.YtbogejmmkohbkaaGreatDoor.Sx
open Go.RowKit Go.Sort

set_option maxRecDepth 100000 in
set_option maxHeartbeats 8000000 in
theorem rshow_text (n : Nat) (hC : ShR n) (P : Nat → Prop) (w : World) (v : Value) (l : List UInt8) (ha : Ref P w (n + 1) (mkText l : Node (AV n)) v) (hb : (sh (n + 1) (mkText l : Node (AV n))).length ≤ 1099511627776) :
    Calls Tryz.prog 13 #[v] w fun e w' => e = .returned (.string ⟨(sh (n + 1) (mkText l : Node (AV n))).toArray⟩) ∧ Grew w w' := by
  obtain ⟨s1, ka, kl, kc, ua, ul, uc, rfl, t1, r1, q1⟩ := id ha
  obtain rfl := bytes_of t1
  have HSEQ : Hid (∀ W : World, Grew w W → Calls Tryz.prog 35 _ W _) := fun W hW => rseq_d n P W _ _ (ha.grew hW)
  have HSH : Hid (∀ (W : World) (b : Option Addr) (len cap : Nat) (es : List (AV n)), Row5 P W (Ref P W n) b len es → (∀ x ∈ es, WF n x) → (jL [] (es.map (sh n))).length ≤ 1099511627776 → Calls Tryz.prog 34 #[.slice b len cap] W _) := fun W b len cap es q1 q2 q3 => shown_any n hC P W b len cap es q1 q2 q3
  have HC : Hid (ShR n) := hC
  clear hC ha
  clear HSEQ HSH HC r1 q1 t1
  have hsh : sh (n + 1) (mkText l : Node (AV n)) = 34 :: (l ++ [34]) := rfl
  rw [hsh] at hb ⊢
  show Calls Tryz.prog 13 #[.agg #[.int .i64 3, .int .i64 0, .string ⟨l.toArray⟩, .slice ka kl kc, .slice ua ul uc]] w _
  have hl : l.length + 2 ≤ 1099511627776 := by simp at hb; omega
  have hs1 : ¬ 9223372036854775807 < 1 + l.length := by omega
  have hs2 : ¬ 9223372036854775807 < 1 + l.length + 1 := by omega
  have HE : Hid (_ = _) := brace [34] [34] l
  have X0 : Hid ((w.alloc (.cells #[.int .i64 3, .int .i64 0, .string ⟨l.toArray⟩, .slice ka kl kc, .slice ua ul uc] 30)).heap[w.heap.size]? = some (.cells #[.int .i64 3, .int .i64 0, .string ⟨l.toArray⟩, .slice ka kl kc, .slice ua ul uc] 30 (0, 0))) := heap_new rfl
  have G0 : Hid (Grew w (w.alloc (.cells #[.int .i64 3, .int .i64 0, .string ⟨l.toArray⟩, .slice ka kl kc, .slice ua ul uc] 30))) := (Grew.refl w).alloc _
  have mo := follows
  go_enter Tryz.func13, Tryz.ntmps13
  go_upto_region 1 with fail
  generalize w.alloc (.cells #[.int .i64 3, .int .i64 0, .string ⟨l.toArray⟩, .slice ka kl kc, .slice ua ul uc] 30) = W0 at X0 G0 ⊢
  have b0 := block_cell X0.out 0
  have b1 := block_cell X0.out 1
  have b2 := block_cell X0.out 2
  have b3 := block_cell X0.out 3
  have b4 := block_cell X0.out 4
  have zb := block_lt X0.out
  go_wp2_with fail
  go_ret
  exact ⟨congrArg (fun b => Ending.returned (Value.string b)) HE.out, G0.out⟩
set_option maxRecDepth 100000 in
set_option maxHeartbeats 8000000 in
theorem rshow_atom (n : Nat) (hC : ShR n) (P : Nat → Prop) (w : World) (v : Value) (l : List UInt8) (ha : Ref P w (n + 1) (mkAtom l : Node (AV n)) v) (_ : (sh (n + 1) (mkAtom l : Node (AV n))).length ≤ 1099511627776) :
    Calls Tryz.prog 13 #[v] w fun e w' => e = .returned (.string ⟨(sh (n + 1) (mkAtom l : Node (AV n))).toArray⟩) ∧ Grew w w' := by
  obtain ⟨s1, ka, kl, kc, ua, ul, uc, rfl, t1, r1, q1⟩ := id ha
  obtain rfl := bytes_of t1
  have HSEQ : Hid (∀ W : World, Grew w W → Calls Tryz.prog 35 _ W _) := fun W hW => rseq_d n P W _ _ (ha.grew hW)
  have HSH : Hid (∀ (W : World) (b : Option Addr) (len cap : Nat) (es : List (AV n)), Row5 P W (Ref P W n) b len es → (∀ x ∈ es, WF n x) → (jL [] (es.map (sh n))).length ≤ 1099511627776 → Calls Tryz.prog 34 #[.slice b len cap] W _) := fun W b len cap es q1 q2 q3 => shown_any n hC P W b len cap es q1 q2 q3
  have HC : Hid (ShR n) := hC
  clear hC ha
  clear HSEQ HSH HC r1 q1 t1
  have hsh : sh (n + 1) (mkAtom l : Node (AV n)) = l := rfl
  rw [hsh]
  show Calls Tryz.prog 13 #[.agg #[.int .i64 4, .int .i64 0, .string ⟨l.toArray⟩, .slice ka kl kc, .slice ua ul uc]] w _
  have X0 : Hid ((w.alloc (.cells #[.int .i64 4, .int .i64 0, .string ⟨l.toArray⟩, .slice ka kl kc, .slice ua ul uc] 30)).heap[w.heap.size]? = some (.cells #[.int .i64 4, .int .i64 0, .string ⟨l.toArray⟩, .slice ka kl kc, .slice ua ul uc] 30 (0, 0))) := heap_new rfl
  have G0 : Hid (Grew w (w.alloc (.cells #[.int .i64 4, .int .i64 0, .string ⟨l.toArray⟩, .slice ka kl kc, .slice ua ul uc] 30))) := (Grew.refl w).alloc _
  have mo := follows
  go_enter Tryz.func13, Tryz.ntmps13
  go_upto_region 1 with fail
  generalize w.alloc (.cells #[.int .i64 4, .int .i64 0, .string ⟨l.toArray⟩, .slice ka kl kc, .slice ua ul uc] 30) = W0 at X0 G0 ⊢
  have b0 := block_cell X0.out 0
  have b1 := block_cell X0.out 1
  have b2 := block_cell X0.out 2
  have b3 := block_cell X0.out 3
  have b4 := block_cell X0.out 4
  have zb := block_lt X0.out
  go_wp2_with fail
  go_ret
  exact ⟨rfl, G0.out⟩
set_option maxRecDepth 100000 in
set_option maxHeartbeats 8000000 in
theorem rshow_set (n : Nat) (hC : ShR n) (P : Nat → Prop) (w : World) (v : Value) (es : List (AV n)) (we : ∀ x ∈ es, WF n x) (ha : Ref P w (n + 1) (mkSet es : Node (AV n)) v) (hb : (sh (n + 1) (mkSet es : Node (AV n))).length ≤ 1099511627776) :
    Calls Tryz.prog 13 #[v] w fun e w' => e = .returned (.string ⟨(sh (n + 1) (mkSet es : Node (AV n))).toArray⟩) ∧ Grew w w' := by
  obtain ⟨s1, ka, kl, kc, ua, ul, uc, rfl, t1, r1, q1⟩ := id ha
  obtain rfl := bytes_of t1
  have HSEQ : Hid (∀ W : World, Grew w W → Calls Tryz.prog 35 _ W _) := fun W hW => rseq_d n P W _ _ (ha.grew hW)
  have HSH : Hid (∀ (W : World) (b : Option Addr) (len cap : Nat) (es : List (AV n)), Row5 P W (Ref P W n) b len es → (∀ x ∈ es, WF n x) → (jL [] (es.map (sh n))).length ≤ 1099511627776 → Calls Tryz.prog 34 #[.slice b len cap] W _) := fun W b len cap es q1 q2 q3 => shown_any n hC P W b len cap es q1 q2 q3
  have HC : Hid (ShR n) := hC
  clear hC ha
  clear HSEQ HC q1 t1
  have hsh : sh (n + 1) (mkSet es : Node (AV n)) = [123] ++ (jL [] (es.map (sh n)) ++ [125]) := by
    show 123 :: jL [125] (es.map (sh n)) = _
    rw [jL_end]; rfl
  rw [hsh] at hb ⊢
  show Calls Tryz.prog 13 #[.agg #[.int .i64 5, .int .i64 0, .string ⟨#[]⟩, .slice ka kl kc, .slice ua ul uc]] w _
  have hl : (jL [] (es.map (sh n))).length + 2 ≤ 1099511627776 := by simp at hb; omega
  have HD : Hid (∀ W : World, Grew w W → Calls Tryz.prog 34 #[.slice ka kl kc] W _) := fun W hW => HSH.out W ka kl kc es (Row5.grew hW r1) we (by omega)
  clear HSH r1 we
  generalize jL [] (es.map (sh n)) = S at HD hl ⊢
  have hs1 : ¬ 9223372036854775807 < 1 + S.length := by omega
  have hs2 : ¬ 9223372036854775807 < 1 + S.length + 1 := by omega
  have HE : Hid (_ = _) := brace [123] [125] S
  clear hsh hb
  have X0 : Hid ((w.alloc (.cells #[.int .i64 5, .int .i64 0, .string ⟨#[]⟩, .slice ka kl kc, .slice ua ul uc] 30)).heap[w.heap.size]? = some (.cells #[.int .i64 5, .int .i64 0, .string ⟨#[]⟩, .slice ka kl kc, .slice ua ul uc] 30 (0, 0))) := heap_new rfl
  have G0 : Hid (Grew w (w.alloc (.cells #[.int .i64 5, .int .i64 0, .string ⟨#[]⟩, .slice ka kl kc, .slice ua ul uc] 30))) := (Grew.refl w).alloc _
  have mo := follows
  go_enter Tryz.func13, Tryz.ntmps13
  go_upto_region 1 with fail
  generalize w.alloc (.cells #[.int .i64 5, .int .i64 0, .string ⟨#[]⟩, .slice ka kl kc, .slice ua ul uc] 30) = W0 at X0 G0 ⊢
  have b0 := block_cell X0.out 0
  have b1 := block_cell X0.out 1
  have b2 := block_cell X0.out 2
  have b3 := block_cell X0.out 3
  have b4 := block_cell X0.out 4
  have zb := block_lt X0.out
  go_wp2_with (go_at_call 34; refine (HD.out _ G0.out).mono ?_; rintro e w' ⟨rfl, hg⟩; have G1 : Hid (Grew w w') := G0.out.trans hg; clear hg)
  go_ret
  exact ⟨congrArg (fun b => Ending.returned (Value.string b)) HE.out, G1.out⟩
end Go.Proofs.YtbogejmmkohbkaaGreatDoor.Sx
