/- The reference as text: single values. -/
import Derived.Test.YtbogejmmkohbkaaGreatDoorGEc
namespace Go.Proofs.YtbogejmmkohbkaaGreatDoor.Sx
open Go.RowKit Go.Sort

set_option maxRecDepth 100000 in
set_option maxHeartbeats 8000000 in
theorem rshow_nil (n : Nat) (hC : ShR n) (P : Nat → Prop) (w : World) (v : Value)  (ha : Ref P w (n + 1) (mkNil : Node (AV n)) v) (_ : (sh (n + 1) (mkNil : Node (AV n))).length ≤ 1099511627776) :
    Calls Tryz.prog 13 #[v] w fun e w' => e = .returned (.string ⟨(sh (n + 1) (mkNil : Node (AV n))).toArray⟩) ∧ Grew w w' := by
  obtain ⟨s1, ka, kl, kc, ua, ul, uc, rfl, t1, r1, q1⟩ := id ha
  obtain rfl := bytes_of t1
  have HSEQ : Hid (∀ W : World, Grew w W → Calls Tryz.prog 35 _ W _) := fun W hW => rseq_d n P W _ _ (ha.grew hW)
  have HSH : Hid (∀ (W : World) (b : Option Addr) (len cap : Nat) (es : List (AV n)), Row5 P W (Ref P W n) b len es → (∀ x ∈ es, WF n x) → (jL [] (es.map (sh n))).length ≤ 1099511627776 → Calls Tryz.prog 34 #[.slice b len cap] W _) := fun W b len cap es q1 q2 q3 => shown_any n hC P W b len cap es q1 q2 q3
  have HC : Hid (ShR n) := hC
  clear hC ha
  clear HSEQ HSH HC r1 q1 t1
  have hsh : sh (n + 1) (mkNil : Node (AV n)) = [110, 105, 108] := rfl
  rw [hsh]
  show Calls Tryz.prog 13 #[.agg #[.int .i64 0, .int .i64 0, .string ⟨#[]⟩, .slice ka kl kc, .slice ua ul uc]] w _
  have X0 : Hid ((w.alloc (.cells #[.int .i64 0, .int .i64 0, .string ⟨#[]⟩, .slice ka kl kc, .slice ua ul uc] 30)).heap[w.heap.size]? = some (.cells #[.int .i64 0, .int .i64 0, .string ⟨#[]⟩, .slice ka kl kc, .slice ua ul uc] 30 (0, 0))) := heap_new rfl
  have G0 : Hid (Grew w (w.alloc (.cells #[.int .i64 0, .int .i64 0, .string ⟨#[]⟩, .slice ka kl kc, .slice ua ul uc] 30))) := (Grew.refl w).alloc _
  have mo := follows
  go_enter Tryz.func13, Tryz.ntmps13
  go_upto_region 1 with fail
  generalize w.alloc (.cells #[.int .i64 0, .int .i64 0, .string ⟨#[]⟩, .slice ka kl kc, .slice ua ul uc] 30) = W0 at X0 G0 ⊢
  have b0 := block_cell X0.out 0
  have b1 := block_cell X0.out 1
  have b2 := block_cell X0.out 2
  have b3 := block_cell X0.out 3
  have b4 := block_cell X0.out 4
  have zb := block_lt X0.out
  go_wp2_with fail
  go_ret
  exact ⟨rfl, G0.out⟩
set_option maxRecDepth 100000 in
set_option maxHeartbeats 8000000 in
theorem rshow_bool (n : Nat) (hC : ShR n) (P : Nat → Prop) (w : World) (v : Value) (b : Bool) (ha : Ref P w (n + 1) (mkBool b : Node (AV n)) v) (_ : (sh (n + 1) (mkBool b : Node (AV n))).length ≤ 1099511627776) :
    Calls Tryz.prog 13 #[v] w fun e w' => e = .returned (.string ⟨(sh (n + 1) (mkBool b : Node (AV n))).toArray⟩) ∧ Grew w w' := by
  obtain ⟨s1, ka, kl, kc, ua, ul, uc, rfl, t1, r1, q1⟩ := id ha
  obtain rfl := bytes_of t1
  have HSEQ : Hid (∀ W : World, Grew w W → Calls Tryz.prog 35 _ W _) := fun W hW => rseq_d n P W _ _ (ha.grew hW)
  have HSH : Hid (∀ (W : World) (b : Option Addr) (len cap : Nat) (es : List (AV n)), Row5 P W (Ref P W n) b len es → (∀ x ∈ es, WF n x) → (jL [] (es.map (sh n))).length ≤ 1099511627776 → Calls Tryz.prog 34 #[.slice b len cap] W _) := fun W b len cap es q1 q2 q3 => shown_any n hC P W b len cap es q1 q2 q3
  have HC : Hid (ShR n) := hC
  clear hC ha
  clear HSEQ HSH HC r1 q1 t1
  cases b with
  | false =>
    have hsh : sh (n + 1) (mkBool false : Node (AV n)) = [102, 97, 108, 115, 101] := rfl
    rw [hsh]
    show Calls Tryz.prog 13 #[.agg #[.int .i64 1, .int .i64 0, .string ⟨#[]⟩, .slice ka kl kc, .slice ua ul uc]] w _
    have X0 : Hid ((w.alloc (.cells #[.int .i64 1, .int .i64 0, .string ⟨#[]⟩, .slice ka kl kc, .slice ua ul uc] 30)).heap[w.heap.size]? = some (.cells #[.int .i64 1, .int .i64 0, .string ⟨#[]⟩, .slice ka kl kc, .slice ua ul uc] 30 (0, 0))) := heap_new rfl
    have G0 : Hid (Grew w (w.alloc (.cells #[.int .i64 1, .int .i64 0, .string ⟨#[]⟩, .slice ka kl kc, .slice ua ul uc] 30))) := (Grew.refl w).alloc _
    have mo := follows
    go_enter Tryz.func13, Tryz.ntmps13
    go_upto_region 1 with fail
    generalize w.alloc (.cells #[.int .i64 1, .int .i64 0, .string ⟨#[]⟩, .slice ka kl kc, .slice ua ul uc] 30) = W0 at X0 G0 ⊢
    have b0 := block_cell X0.out 0
    have b1 := block_cell X0.out 1
    have b2 := block_cell X0.out 2
    have b3 := block_cell X0.out 3
    have b4 := block_cell X0.out 4
    have zb := block_lt X0.out
    go_wp2_with fail
    go_ret
    exact ⟨rfl, G0.out⟩
  | true =>
    have hsh : sh (n + 1) (mkBool true : Node (AV n)) = [116, 114, 117, 101] := rfl
    rw [hsh]
    show Calls Tryz.prog 13 #[.agg #[.int .i64 1, .int .i64 1, .string ⟨#[]⟩, .slice ka kl kc, .slice ua ul uc]] w _
    have X0 : Hid ((w.alloc (.cells #[.int .i64 1, .int .i64 1, .string ⟨#[]⟩, .slice ka kl kc, .slice ua ul uc] 30)).heap[w.heap.size]? = some (.cells #[.int .i64 1, .int .i64 1, .string ⟨#[]⟩, .slice ka kl kc, .slice ua ul uc] 30 (0, 0))) := heap_new rfl
    have G0 : Hid (Grew w (w.alloc (.cells #[.int .i64 1, .int .i64 1, .string ⟨#[]⟩, .slice ka kl kc, .slice ua ul uc] 30))) := (Grew.refl w).alloc _
    have mo := follows
    go_enter Tryz.func13, Tryz.ntmps13
    go_upto_region 1 with fail
    generalize w.alloc (.cells #[.int .i64 1, .int .i64 1, .string ⟨#[]⟩, .slice ka kl kc, .slice ua ul uc] 30) = W0 at X0 G0 ⊢
    have b0 := block_cell X0.out 0
    have b1 := block_cell X0.out 1
    have b2 := block_cell X0.out 2
    have b3 := block_cell X0.out 3
    have b4 := block_cell X0.out 4
    have zb := block_lt X0.out
    go_wp2_with fail
    go_ret
    exact ⟨rfl, G0.out⟩
set_option maxRecDepth 100000 in
set_option maxHeartbeats 8000000 in
theorem rshow_int (n : Nat) (hC : ShR n) (P : Nat → Prop) (w : World) (v : Value) (i : Int) (i1 : -9223372036854775808 ≤ i) (i2 : i ≤ 9223372036854775807) (ha : Ref P w (n + 1) (mkInt i : Node (AV n)) v) (_ : (sh (n + 1) (mkInt i : Node (AV n))).length ≤ 1099511627776) :
    Calls Tryz.prog 13 #[v] w fun e w' => e = .returned (.string ⟨(sh (n + 1) (mkInt i : Node (AV n))).toArray⟩) ∧ Grew w w' := by
  obtain ⟨s1, ka, kl, kc, ua, ul, uc, rfl, t1, r1, q1⟩ := id ha
  obtain rfl := bytes_of t1
  have HSEQ : Hid (∀ W : World, Grew w W → Calls Tryz.prog 35 _ W _) := fun W hW => rseq_d n P W _ _ (ha.grew hW)
  have HSH : Hid (∀ (W : World) (b : Option Addr) (len cap : Nat) (es : List (AV n)), Row5 P W (Ref P W n) b len es → (∀ x ∈ es, WF n x) → (jL [] (es.map (sh n))).length ≤ 1099511627776 → Calls Tryz.prog 34 #[.slice b len cap] W _) := fun W b len cap es q1 q2 q3 => shown_any n hC P W b len cap es q1 q2 q3
  have HC : Hid (ShR n) := hC
  clear hC ha
  clear HSEQ HSH HC r1 q1 t1
  have hsh : sh (n + 1) (mkInt i : Node (AV n)) = Lib.itoa i := rfl
  rw [hsh]
  show Calls Tryz.prog 13 #[.agg #[.int .i64 2, .int .i64 i, .string ⟨#[]⟩, .slice ka kl kc, .slice ua ul uc]] w _
  have HD : Hid (∀ W : World, Calls Tryz.prog 33 #[.int .i64 i] W _) := fun W => rdigits_any i W i1 i2
  have X0 : Hid ((w.alloc (.cells #[.int .i64 2, .int .i64 i, .string ⟨#[]⟩, .slice ka kl kc, .slice ua ul uc] 30)).heap[w.heap.size]? = some (.cells #[.int .i64 2, .int .i64 i, .string ⟨#[]⟩, .slice ka kl kc, .slice ua ul uc] 30 (0, 0))) := heap_new rfl
  have G0 : Hid (Grew w (w.alloc (.cells #[.int .i64 2, .int .i64 i, .string ⟨#[]⟩, .slice ka kl kc, .slice ua ul uc] 30))) := (Grew.refl w).alloc _
  have mo := follows
  go_enter Tryz.func13, Tryz.ntmps13
  go_upto_region 1 with fail
  generalize w.alloc (.cells #[.int .i64 2, .int .i64 i, .string ⟨#[]⟩, .slice ka kl kc, .slice ua ul uc] 30) = W0 at X0 G0 ⊢
  have b0 := block_cell X0.out 0
  have b1 := block_cell X0.out 1
  have b2 := block_cell X0.out 2
  have b3 := block_cell X0.out 3
  have b4 := block_cell X0.out 4
  have zb := block_lt X0.out
  go_wp2_with (go_at_call 33; refine (HD.out _).mono ?_; rintro e w' ⟨rfl, hg⟩; have G1 : Hid (Grew w w') := G0.out.trans hg; clear hg)
  go_ret
  exact ⟨rfl, G1.out⟩
end Go.Proofs.YtbogejmmkohbkaaGreatDoor.Sx

namespace Go.Proofs.YtbogejmmkohbkaaGreatDoor.Sx
open Go.RowKit Go.Sort

set_option maxRecDepth 100000 in
set_option maxHeartbeats 8000000 in
theorem rshow_text (n : Nat) (hC : ShR n) (P : Nat → Prop) (w : World) (v : Value) (l : List UInt8) (ha : Ref P w (n + 1) (mkText l : Node (AV n)) v) (hb : (sh (n + 1) (mkText l : Node (AV n))).length ≤ 1099511627776) :
    Calls Tryz.prog 13 #[v] w fun e w' => e = .returned (.string ⟨(sh (n + 1) (mkText l : Node (AV n))).toArray⟩) ∧ Grew w w' := by
  obtain ⟨s1, ka, kl, kc, ua, ul, uc, rfl, t1, r1, q1⟩ := id ha
  obtain rfl := bytes_of t1
  have HSEQ : Hid (∀ W : World, Grew w W → Calls Tryz.prog 35 _ W _) := fun W hW => rseq_d n P W _ _ (ha.grew hW)
  have HSH : Hid (∀ (W : World) (b : Option Addr) (len cap : Nat) (es : List (AV n)), Row5 P W (Ref P W n) b len es → (∀ x ∈ es, WF n x) → (jL [] (es.map (sh n))).length ≤ 1099511627776 → Calls Tryz.prog 34 #[.slice b len cap] W _) := fun W b len cap es q1 q2 q3 => shown_any n hC P W b len cap es q1 q2 q3
  have HC : Hid (ShR n) := hC
  clear hC ha
  clear HSEQ HSH HC r1 q1 t1
  have hsh : sh (n + 1) (mkText l : Node (AV n)) = 34 :: (l ++ [34]) := rfl
  rw [hsh] at hb ⊢
  show Calls Tryz.prog 13 #[.agg #[.int .i64 3, .int .i64 0, .string ⟨l.toArray⟩, .slice ka kl kc, .slice ua ul uc]] w _
  have hl : l.length + 2 ≤ 1099511627776 := by simp at hb; omega
  have hs1 : ¬ 9223372036854775807 < 1 + l.length := by omega
  have hs2 : ¬ 9223372036854775807 < 1 + l.length + 1 := by omega
  have HE : Hid (_ = _) := brace [34] [34] l
  have X0 : Hid ((w.alloc (.cells #[.int .i64 3, .int .i64 0, .string ⟨l.toArray⟩, .slice ka kl kc, .slice ua ul uc] 30)).heap[w.heap.size]? = some (.cells #[.int .i64 3, .int .i64 0, .string ⟨l.toArray⟩, .slice ka kl kc, .slice ua ul uc] 30 (0, 0))) := heap_new rfl
  have G0 : Hid (Grew w (w.alloc (.cells #[.int .i64 3, .int .i64 0, .string ⟨l.toArray⟩, .slice ka kl kc, .slice ua ul uc] 30))) := (Grew.refl w).alloc _
  have mo := follows
  go_enter Tryz.func13, Tryz.ntmps13
  go_upto_region 1 with fail
  generalize w.alloc (.cells #[.int .i64 3, .int .i64 0, .string ⟨l.toArray⟩, .slice ka kl kc, .slice ua ul uc] 30) = W0 at X0 G0 ⊢
  have b0 := block_cell X0.out 0
  have b1 := block_cell X0.out 1
  have b2 := block_cell X0.out 2
  have b3 := block_cell X0.out 3
  have b4 := block_cell X0.out 4
  have zb := block_lt X0.out
  go_wp2_with fail
  go_ret
  exact ⟨congrArg (fun b => Ending.returned (Value.string b)) HE.out, G0.out⟩
set_option maxRecDepth 100000 in
set_option maxHeartbeats 8000000 in
theorem rshow_atom (n : Nat) (hC : ShR n) (P : Nat → Prop) (w : World) (v : Value) (l : List UInt8) (ha : Ref P w (n + 1) (mkAtom l : Node (AV n)) v) (_ : (sh (n + 1) (mkAtom l : Node (AV n))).length ≤ 1099511627776) :
    Calls Tryz.prog 13 #[v] w fun e w' => e = .returned (.string ⟨(sh (n + 1) (mkAtom l : Node (AV n))).toArray⟩) ∧ Grew w w' := by
  obtain ⟨s1, ka, kl, kc, ua, ul, uc, rfl, t1, r1, q1⟩ := id ha
  obtain rfl := bytes_of t1
  have HSEQ : Hid (∀ W : World, Grew w W → Calls Tryz.prog 35 _ W _) := fun W hW => rseq_d n P W _ _ (ha.grew hW)
  have HSH : Hid (∀ (W : World) (b : Option Addr) (len cap : Nat) (es : List (AV n)), Row5 P W (Ref P W n) b len es → (∀ x ∈ es, WF n x) → (jL [] (es.map (sh n))).length ≤ 1099511627776 → Calls Tryz.prog 34 #[.slice b len cap] W _) := fun W b len cap es q1 q2 q3 => shown_any n hC P W b len cap es q1 q2 q3
  have HC : Hid (ShR n) := hC
  clear hC ha
  clear HSEQ HSH HC r1 q1 t1
  have hsh : sh (n + 1) (mkAtom l : Node (AV n)) = l := rfl
  rw [hsh]
  show Calls Tryz.prog 13 #[.agg #[.int .i64 4, .int .i64 0, .string ⟨l.toArray⟩, .slice ka kl kc, .slice ua ul uc]] w _
  have X0 : Hid ((w.alloc (.cells #[.int .i64 4, .int .i64 0, .string ⟨l.toArray⟩, .slice ka kl kc, .slice ua ul uc] 30)).heap[w.heap.size]? = some (.cells #[.int .i64 4, .int .i64 0, .string ⟨l.toArray⟩, .slice ka kl kc, .slice ua ul uc] 30 (0, 0))) := heap_new rfl
  have G0 : Hid (Grew w (w.alloc (.cells #[.int .i64 4, .int .i64 0, .string ⟨l.toArray⟩, .slice ka kl kc, .slice ua ul uc] 30))) := (Grew.refl w).alloc _
  have mo := follows
  go_enter Tryz.func13, Tryz.ntmps13
  go_upto_region 1 with fail
  generalize w.alloc (.cells #[.int .i64 4, .int .i64 0, .string ⟨l.toArray⟩, .slice ka kl kc, .slice ua ul uc] 30) = W0 at X0 G0 ⊢
  have b0 := block_cell X0.out 0
  have b1 := block_cell X0.out 1
  have b2 := block_cell X0.out 2
  have b3 := block_cell X0.out 3
  have b4 := block_cell X0.out 4
  have zb := block_lt X0.out
  go_wp2_with fail
  go_ret
  exact ⟨rfl, G0.out⟩
set_option maxRecDepth 100000 in
set_option maxHeartbeats 8000000 in
theorem rshow_set (n : Nat) (hC : ShR n) (P : Nat → Prop) (w : World) (v : Value) (es : List (AV n)) (we : ∀ x ∈ es, WF n x) (ha : Ref P w (n + 1) (mkSet es : Node (AV n)) v) (hb : (sh (n + 1) (mkSet es : Node (AV n))).length ≤ 1099511627776) :
    Calls Tryz.prog 13 #[v] w fun e w' => e = .returned (.string ⟨(sh (n + 1) (mkSet es : Node (AV n))).toArray⟩) ∧ Grew w w' := by
  obtain ⟨s1, ka, kl, kc, ua, ul, uc, rfl, t1, r1, q1⟩ := id ha
  obtain rfl := bytes_of t1
  have HSEQ : Hid (∀ W : World, Grew w W → Calls Tryz.prog 35 _ W _) := fun W hW => rseq_d n P W _ _ (ha.grew hW)
  have HSH : Hid (∀ (W : World) (b : Option Addr) (len cap : Nat) (es : List (AV n)), Row5 P W (Ref P W n) b len es → (∀ x ∈ es, WF n x) → (jL [] (es.map (sh n))).length ≤ 1099511627776 → Calls Tryz.prog 34 #[.slice b len cap] W _) := fun W b len cap es q1 q2 q3 => shown_any n hC P W b len cap es q1 q2 q3
  have HC : Hid (ShR n) := hC
  clear hC ha
  clear HSEQ HC q1 t1
  have hsh : sh (n + 1) (mkSet es : Node (AV n)) = [123] ++ (jL [] (es.map (sh n)) ++ [125]) := by
    show 123 :: jL [125] (es.map (sh n)) = _
    rw [jL_end]; rfl
  rw [hsh] at hb ⊢
  show Calls Tryz.prog 13 #[.agg #[.int .i64 5, .int .i64 0, .string ⟨#[]⟩, .slice ka kl kc, .slice ua ul uc]] w _
  have hl : (jL [] (es.map (sh n))).length + 2 ≤ 1099511627776 := by simp at hb; omega
  have HD : Hid (∀ W : World, Grew w W → Calls Tryz.prog 34 #[.slice ka kl kc] W _) := fun W hW => HSH.out W ka kl kc es (Row5.grew hW r1) we (by omega)
  clear HSH r1 we
  generalize jL [] (es.map (sh n)) = S at HD hl ⊢
  have hs1 : ¬ 9223372036854775807 < 1 + S.length := by omega
  have hs2 : ¬ 9223372036854775807 < 1 + S.length + 1 := by omega
  have HE : Hid (_ = _) := brace [123] [125] S
  clear hsh hb
  have X0 : Hid ((w.alloc (.cells #[.int .i64 5, .int .i64 0, .string ⟨#[]⟩, .slice ka kl kc, .slice ua ul uc] 30)).heap[w.heap.size]? = some (.cells #[.int .i64 5, .int .i64 0, .string ⟨#[]⟩, .slice ka kl kc, .slice ua ul uc] 30 (0, 0))) := heap_new rfl
  have G0 : Hid (Grew w (w.alloc (.cells #[.int .i64 5, .int .i64 0, .string ⟨#[]⟩, .slice ka kl kc, .slice ua ul uc] 30))) := (Grew.refl w).alloc _
  have mo := follows
  go_enter Tryz.func13, Tryz.ntmps13
  go_upto_region 1 with fail
  generalize w.alloc (.cells #[.int .i64 5, .int .i64 0, .string ⟨#[]⟩, .slice ka kl kc, .slice ua ul uc] 30) = W0 at X0 G0 ⊢
  have b0 := block_cell X0.out 0
  have b1 := block_cell X0.out 1
  have b2 := block_cell X0.out 2
  have b3 := block_cell X0.out 3
  have b4 := block_cell X0.out 4
  have zb := block_lt X0.out
  go_wp2_with (go_at_call 34; refine (HD.out _ G0.out).mono ?_; rintro e w' ⟨rfl, hg⟩; have G1 : Hid (Grew w w') := G0.out.trans hg; clear hg)
  go_ret
  exact ⟨congrArg (fun b => Ending.returned (Value.string b)) HE.out, G1.out⟩
end Go.Proofs.YtbogejmmkohbkaaGreatDoor.Sx

namespace Go.Proofs.YtbogejmmkohbkaaGreatDoor.Sx
open Go.RowKit Go.Sort

set_option maxRecDepth 100000 in
set_option maxHeartbeats 8000000 in
theorem rshow_seq (n : Nat) (hC : ShR n) (P : Nat → Prop) (w : World) (v : Value) (ks vs : List (AV n)) (_ : ∀ x ∈ ks, WF n x) (wv : ∀ x ∈ vs, WF n x) (_ : ks.length = vs.length) (hc : counts (numOf n) ks = true) (ha : Ref P w (n + 1) (mkFn ks vs : Node (AV n)) v) (hb : (sh (n + 1) (mkFn ks vs : Node (AV n))).length ≤ 1099511627776) :
    Calls Tryz.prog 13 #[v] w fun e w' => e = .returned (.string ⟨(sh (n + 1) (mkFn ks vs : Node (AV n))).toArray⟩) ∧ Grew w w' := by
  obtain ⟨s1, ka, kl, kc, ua, ul, uc, rfl, t1, r1, q1⟩ := id ha
  obtain rfl := bytes_of t1
  have HSEQ : Hid (∀ W : World, Grew w W → Calls Tryz.prog 35 _ W _) := fun W hW => rseq_d n P W _ _ (ha.grew hW)
  have HSH : Hid (∀ (W : World) (b : Option Addr) (len cap : Nat) (es : List (AV n)), Row5 P W (Ref P W n) b len es → (∀ x ∈ es, WF n x) → (jL [] (es.map (sh n))).length ≤ 1099511627776 → Calls Tryz.prog 34 #[.slice b len cap] W _) := fun W b len cap es q1 q2 q3 => shown_any n hC P W b len cap es q1 q2 q3
  have HC : Hid (ShR n) := hC
  clear hC ha
  clear t1
  show Calls Tryz.prog 13 #[.agg #[.int .i64 6, .int .i64 0, .string ⟨#[]⟩, .slice ka kl kc, .slice ua ul uc]] w _
  have HSEQ2 : Hid (∀ W : World, Grew w W → Calls Tryz.prog 35 #[.agg #[.int .i64 6, .int .i64 0, .string ⟨#[]⟩, .slice ka kl kc, .slice ua ul uc]] W fun e w' => e = .returned (.bool (counts (numOf n) ks)) ∧ Grew W w') := fun W hW => by
    have q := HSEQ.out W hW
    have e : (counts (numOf n) (mkFn ks vs : Node (AV n)).keys && decide ((mkFn ks vs : Node (AV n)).kind = 6)) = counts (numOf n) ks := by
      show (counts (numOf n) ks && decide (6 = 6)) = _
      simp
    rw [e] at q
    exact q
  clear HSEQ
  have hsh : sh (n + 1) (mkFn ks vs : Node (AV n)) = [60, 60] ++ (jL [] (vs.map (sh n)) ++ [62, 62]) := by
    show shN (sh n) (numOf n) (mkFn ks vs) = _
    rw [sh_seq _ _ ks vs hc, jL_end]; rfl
  rw [hsh] at hb ⊢
  have hl : (jL [] (vs.map (sh n))).length + 4 ≤ 1099511627776 := by simp at hb; omega
  have HD : Hid (∀ W : World, Grew w W → Calls Tryz.prog 34 #[.slice ua ul uc] W _) := fun W hW => HSH.out W ua ul uc vs (Row5.grew hW q1) wv (by omega)
  rw [hc] at HSEQ2
  clear HSH r1 q1 wv HC
  generalize jL [] (vs.map (sh n)) = S at HD hl ⊢
  have hs1 : ¬ 9223372036854775807 < 2 + S.length := by omega
  have hs2 : ¬ 9223372036854775807 < 2 + S.length + 2 := by omega
  have HE : Hid (_ = _) := brace [60, 60] [62, 62] S
  clear hsh hb
  have X0 : Hid ((w.alloc (.cells #[.int .i64 6, .int .i64 0, .string ⟨#[]⟩, .slice ka kl kc, .slice ua ul uc] 30)).heap[w.heap.size]? = some (.cells #[.int .i64 6, .int .i64 0, .string ⟨#[]⟩, .slice ka kl kc, .slice ua ul uc] 30 (0, 0))) := heap_new rfl
  have G0 : Hid (Grew w (w.alloc (.cells #[.int .i64 6, .int .i64 0, .string ⟨#[]⟩, .slice ka kl kc, .slice ua ul uc] 30))) := (Grew.refl w).alloc _
  have mo := follows
  go_enter Tryz.func13, Tryz.ntmps13
  go_upto_region 1 with fail
  generalize w.alloc (.cells #[.int .i64 6, .int .i64 0, .string ⟨#[]⟩, .slice ka kl kc, .slice ua ul uc] 30) = W0 at X0 G0 ⊢
  have b0 := block_cell X0.out 0
  have b1 := block_cell X0.out 1
  have b2 := block_cell X0.out 2
  have b3 := block_cell X0.out 3
  have b4 := block_cell X0.out 4
  have zb := block_lt X0.out
  go_wp2_with fail
  refine (HSEQ2.out W0 G0.out).mono ?_
  rintro e w' ⟨rfl, hg⟩
  have G1 : Hid (Grew w w') := G0.out.trans hg
  have X1 : Hid (w'.heap[w.heap.size]? = _) := Below.blockAt hg.below X0.out
  clear hg b0 b1 b2 b3 b4 X0 G0
  have c4 := block_cell X1.out 4
  have zc := block_lt X1.out
  go_wp2_with fail
  refine (HD.out w' G1.out).mono ?_
  rintro e w2 ⟨rfl, hg⟩
  have G2 : Hid (Grew w w2) := G1.out.trans hg
  clear hg
  go_wp2_with fail
  go_ret
  exact ⟨congrArg (fun b => Ending.returned (Value.string b)) HE.out, G2.out⟩
end Go.Proofs.YtbogejmmkohbkaaGreatDoor.Sx

namespace Go.Proofs.YtbogejmmkohbkaaGreatDoor.Sx
open Go.RowKit Go.Sort

set_option maxRecDepth 100000 in
set_option maxHeartbeats 8000000 in
theorem rshow_fn (n : Nat) (hC : ShR n) (P : Nat → Prop) (w : World) (v : Value) (ks vs : List (AV n)) (wk : ∀ x ∈ ks, WF n x) (wv : ∀ x ∈ vs, WF n x) (hlen : ks.length = vs.length) (hc : ¬ counts (numOf n) ks = true) (ha : Ref P w (n + 1) (mkFn ks vs : Node (AV n)) v) (hb : (sh (n + 1) (mkFn ks vs : Node (AV n))).length ≤ 1099511627776) :
    Calls Tryz.prog 13 #[v] w fun e w' => e = .returned (.string ⟨(sh (n + 1) (mkFn ks vs : Node (AV n))).toArray⟩) ∧ Grew w w' := by
  obtain ⟨s1, ka, kl, kc, ua, ul, uc, rfl, t1, r1, q1⟩ := id ha
  obtain rfl := bytes_of t1
  have HSEQ : Hid (∀ W : World, Grew w W → Calls Tryz.prog 35 _ W _) := fun W hW => rseq_d n P W _ _ (ha.grew hW)
  have HSH : Hid (∀ (W : World) (b : Option Addr) (len cap : Nat) (es : List (AV n)), Row5 P W (Ref P W n) b len es → (∀ x ∈ es, WF n x) → (jL [] (es.map (sh n))).length ≤ 1099511627776 → Calls Tryz.prog 34 #[.slice b len cap] W _) := fun W b len cap es q1 q2 q3 => shown_any n hC P W b len cap es q1 q2 q3
  have HC : Hid (ShR n) := hC
  clear hC ha
  clear t1
  show Calls Tryz.prog 13 #[.agg #[.int .i64 6, .int .i64 0, .string ⟨#[]⟩, .slice ka kl kc, .slice ua ul uc]] w _
  have HSEQ2 : Hid (∀ W : World, Grew w W → Calls Tryz.prog 35 #[.agg #[.int .i64 6, .int .i64 0, .string ⟨#[]⟩, .slice ka kl kc, .slice ua ul uc]] W fun e w' => e = .returned (.bool (counts (numOf n) ks)) ∧ Grew W w') := fun W hW => by
    have q := HSEQ.out W hW
    have e : (counts (numOf n) (mkFn ks vs : Node (AV n)).keys && decide ((mkFn ks vs : Node (AV n)).kind = 6)) = counts (numOf n) ks := by
      show (counts (numOf n) ks && decide (6 = 6)) = _
      simp
    rw [e] at q
    exact q
  clear HSEQ
  have hsh : sh (n + 1) (mkFn ks vs : Node (AV n)) = [91] ++ (jL [] (List.zipWith two (ks.map (sh n)) (vs.map (sh n))) ++ [93]) := by
    show shN (sh n) (numOf n) (mkFn ks vs) = _
    rw [sh_fn _ _ ks vs hc, jP_two, jL_end]; rfl
  rw [hsh] at hb ⊢
  have hl : (jL [] (List.zipWith two (ks.map (sh n)) (vs.map (sh n)))).length + 2 ≤ 1099511627776 := by rw [List.length_append, List.length_append] at hb; simp only [List.length_cons, List.length_nil] at hb; omega
  have hcf : counts (numOf n) ks = false := by simpa using hc
  rw [hcf] at HSEQ2
  have R1 : Hid (Row5 P w (Ref P w n) ka kl ks) := r1
  have Q1 : Hid (Row5 P w (Ref P w n) ua ul vs) := q1
  have lk : kl ≤ 4294967296 := r1.2.1
  have ELU : Hid (kl = ul) := r1.1.trans (hlen.trans q1.1.symm)
  have WK : Hid (∀ x ∈ ks, WF n x) := wk
  have WV : Hid (∀ x ∈ vs, WF n x) := wv
  have HJ : Hid (∀ k x, (List.zipWith two (ks.map (sh n)) (vs.map (sh n)))[k]? = some x → _) := fun k x q => jL_step _ k x q
  have HL : Hid (ks.length = vs.length) := hlen
  have HZ : Hid (∀ (k : Nat) (h1 : k < ks.length) (h2 : k < vs.length), (List.zipWith two (ks.map (sh n)) (vs.map (sh n)))[k]? = some (two (sh n ks[k]) (sh n vs[k]))) := by
    intro k h1 h2
    simp [List.getElem?_zipWith, List.getElem?_eq_getElem h1, List.getElem?_eq_getElem h2]
  have HZL : Hid ((List.zipWith two (ks.map (sh n)) (vs.map (sh n))).length = kl) := by
    show _ = _
    rw [List.length_zipWith, List.length_map, List.length_map, ← hlen, r1.1, Nat.min_self]; rfl
  clear HSH r1 q1 wv wk hlen hsh hb hc hcf
  generalize List.zipWith two (ks.map (sh n)) (vs.map (sh n)) = L at HJ HZ HZL hl ⊢
  obtain ⟨T, hT⟩ : ∃ T, jL [] L = T := ⟨_, rfl⟩
  rw [hT] at hl ⊢
  have HT : Hid (jL [] L = T) := hT
  clear hT
  have hs1 : ¬ 9223372036854775807 < 1 + T.length := by omega
  have hs2 : ¬ 9223372036854775807 < 1 + T.length + 1 := by omega
  have HE : Hid (_ = _) := brace [91] [93] T
  have X0 : Hid ((w.alloc (.cells #[.int .i64 6, .int .i64 0, .string ⟨#[]⟩, .slice ka kl kc, .slice ua ul uc] 30)).heap[w.heap.size]? = some (.cells #[.int .i64 6, .int .i64 0, .string ⟨#[]⟩, .slice ka kl kc, .slice ua ul uc] 30 (0, 0))) := heap_new rfl
  have G0 : Hid (Grew w (w.alloc (.cells #[.int .i64 6, .int .i64 0, .string ⟨#[]⟩, .slice ka kl kc, .slice ua ul uc] 30))) := (Grew.refl w).alloc _
  have mo := follows
  go_enter Tryz.func13, Tryz.ntmps13
  go_upto_region 1 with fail
  generalize w.alloc (.cells #[.int .i64 6, .int .i64 0, .string ⟨#[]⟩, .slice ka kl kc, .slice ua ul uc] 30) = W0 at X0 G0 ⊢
  have b0 := block_cell X0.out 0
  have b1 := block_cell X0.out 1
  have b2 := block_cell X0.out 2
  have b3 := block_cell X0.out 3
  have b4 := block_cell X0.out 4
  have zb := block_lt X0.out
  go_wp2_with fail
  refine (HSEQ2.out W0 G0.out).mono ?_
  rintro e w' ⟨rfl, hg⟩
  have G1 : Hid (Grew w w') := G0.out.trans hg
  have X1 : Hid (w'.heap[w.heap.size]? = _) := Below.blockAt hg.below X0.out
  clear hg b0 b1 b2 b3 b4 X0 G0 zb HSEQ2
  have zc := block_lt X1.out
  go_wp2_with fail
  go_loopw [6, 7] (fun s i wr => ∃ k : Nat, k ≤ kl ∧ s = .string ⟨(jL [] (L.take k)).toArray⟩ ∧ i = .int .i64 k ∧ Hid (Grew w wr) ∧ Hid (wr.heap[w.heap.size]? = some (.cells #[.int .i64 6, .int .i64 0, .string ⟨#[]⟩, .slice ka kl kc, .slice ua ul uc] 30 (0, 0)))) (fun _ i _ => kl - (intOf i).toNat)
  case atStart => exact ⟨0, Nat.zero_le _, rfl, rfl, G1, X1⟩
  case round =>
    clear G1 X1 zc
    obtain ⟨k, hk1, rfl, rfl, HG, HX⟩ := hrel
    have b3 := block_cell HX.out 3
    have zb := block_lt HX.out
    by_cases hlt : k < kl
    · have hx : k < ks.length := by rw [← R1.out.1]; exact hlt
      have hy : k < vs.length := by rw [← HL.out]; exact hx
      have hlu : k < ul := by have := ELU.out; omega
      obtain ⟨p1, o1, rfl, hp1, _, hc1⟩ := R1.out.2.2.resolve_left (by omega)
      obtain ⟨v1, hv1, hr1⟩ := hc1 k ks[k] (List.getElem?_eq_getElem hx)
      obtain ⟨p2, o2, rfl, hp2, _, hc2⟩ := Q1.out.2.2.resolve_left (by omega)
      obtain ⟨v2, hv2, hr2⟩ := hc2 k vs[k] (List.getElem?_eq_getElem hy)
      obtain ⟨x0, x1, x2, x3, x4, rfl, g0, g1, g2, g3, g4⟩ := cell_five HG.out hp1 hv1
      obtain ⟨f1, f2, f3⟩ := HJ.out k _ (HZ.out k hx hy)
      rw [HT.out] at f2 f3
      have hAB : (two (sh n ks[k]) (sh n vs[k])).length = (sh n ks[k]).length + 2 + (sh n vs[k]).length := by simp [two]; omega
      rw [hAB] at f2 f3
      have HCA : Hid (∀ (W : World) (hW : Grew w W), _) := fun (W : World) (hW : Grew w W) => HC.out P W ks[k] _ (hr1.grew hW) (WK.out _ (List.getElem_mem hx)) (by omega)
      have HCB : Hid (∀ (W : World) (hW : Grew w W), _) := fun (W : World) (hW : Grew w W) => HC.out P W vs[k] v2 (hr2.grew hW) (WV.out _ (List.getElem_mem hy)) (by omega)
      have HF2 : Hid (∀ W : World, Grew w W → _) := fun W hW => cell_five hW hp2 hv2
      have hS0 : k = 0 → jL [] (L.take k) = [] := by rintro rfl; rfl
      generalize sh n ks[k] = A at HCA f1 f2 f3
      generalize sh n vs[k] = B at HCB f1 f2 f3
      generalize jL [] (L.take k) = S at f1 f2 hS0 ⊢
      have F1 : Hid (_ = _) := f1
      have HS0 : Hid (k = 0 → S = []) := hS0
      clear hc1 hc2 hv1 hv2 hr1 hr2 f1 hS0 hAB
      by_cases hk0 : k = 0
      · have F2 : Hid (((S ++ A) ++ [58, 32]) ++ B = jL [] (L.take (k + 1))) := by
          show _ = _
          rw [F1.out, if_pos hk0, HS0.out hk0]; simp [two]
        have hi0 : ¬ (0 : Int) < (k : Int) := by omega
        have hA1 : ¬ 9223372036854775807 < S.length + A.length := by omega
        have hA2 : ¬ 9223372036854775807 < S.length + A.length + 2 := by omega
        have hA3 : ¬ 9223372036854775807 < S.length + A.length + 2 + B.length := by omega
        clear F1 HS0 hk0
        go_wp2_with fail
        refine (HCA.out wr HG.out).mono ?_
        rintro e w3 ⟨rfl, hg⟩
        have G3 : Hid (Grew w w3) := HG.out.trans hg
        have X3 : Hid (w3.heap[w.heap.size]? = _) := Below.blockAt hg.below HX.out
        clear hg HCA b3 g0 g1 g2 g3 g4
        obtain ⟨y0, y1, y2, y3, y4, rfl, h0, h1, h2, h3, h4⟩ := HF2.out w3 G3.out
        have b4 := block_cell X3.out 4
        have z3 := block_lt X3.out
        go_wp2_with fail
        refine (HCB.out w3 G3.out).mono ?_
        rintro e w4 ⟨rfl, hg⟩
        have G4 : Hid (Grew w w4) := G3.out.trans hg
        have X4 : Hid (w4.heap[w.heap.size]? = _) := Below.blockAt hg.below X3.out
        clear hg HCB b4 h0 h1 h2 h3 h4
        go_wp2_with fail
        go_roundw
        case rel => exact ⟨k + 1, by omega, by rw [← F2.out, ← cat2, ← cat2, ← cat2], by go_num, G4, X4⟩
        case measure => simp [intOf]; omega
      · have F2 : Hid ((((S ++ [44, 32]) ++ A) ++ [58, 32]) ++ B = jL [] (L.take (k + 1))) := by
          show _ = _
          rw [F1.out, if_neg hk0]; simp [two]
        have hi0 : (0 : Int) < (k : Int) := by omega
        have hA0 : ¬ 9223372036854775807 < S.length + 2 := by omega
        have hA1 : ¬ 9223372036854775807 < S.length + 2 + A.length := by omega
        have hA2 : ¬ 9223372036854775807 < S.length + 2 + A.length + 2 := by omega
        have hA3 : ¬ 9223372036854775807 < S.length + 2 + A.length + 2 + B.length := by omega
        clear F1 HS0 hk0
        go_wp2_with fail
        refine (HCA.out wr HG.out).mono ?_
        rintro e w3 ⟨rfl, hg⟩
        have G3 : Hid (Grew w w3) := HG.out.trans hg
        have X3 : Hid (w3.heap[w.heap.size]? = _) := Below.blockAt hg.below HX.out
        clear hg HCA b3 g0 g1 g2 g3 g4
        obtain ⟨y0, y1, y2, y3, y4, rfl, h0, h1, h2, h3, h4⟩ := HF2.out w3 G3.out
        have b4 := block_cell X3.out 4
        have z3 := block_lt X3.out
        go_wp2_with fail
        refine (HCB.out w3 G3.out).mono ?_
        rintro e w4 ⟨rfl, hg⟩
        have G4 : Hid (Grew w w4) := G3.out.trans hg
        have X4 : Hid (w4.heap[w.heap.size]? = _) := Below.blockAt hg.below X3.out
        clear hg HCB b4 h0 h1 h2 h3 h4
        go_wp2_with fail
        go_roundw
        case rel => exact ⟨k + 1, by omega, by rw [← F2.out, ← cat2, ← cat2, ← cat2, ← cat2], by go_num, G4, X4⟩
        case measure => simp [intOf]; omega
    · have hkl : k = kl := by omega
      subst k
      have HTT : Hid (jL [] (L.take kl) = T) := by
        show _ = _
        rw [← HZL.out, List.take_length]; exact HT.out
      rw [HTT.out]
      go_wp2_with fail
      go_ret
      exact ⟨congrArg (fun b => Ending.returned (Value.string b)) HE.out, HG.out⟩
end Go.Proofs.YtbogejmmkohbkaaGreatDoor.Sx

namespace Go.Proofs.YtbogejmmkohbkaaGreatDoor.Sx
open Go.RowKit Go.Sort

theorem rshow_step (n : Nat) (hC : ShR n) : ShR (n + 1) := by
  intro P w a v ha hw hb
  rcases hw with rfl | ⟨b, rfl⟩ | ⟨i, rfl, i1, i2⟩ | ⟨l, rfl, _⟩ | ⟨l, rfl, _⟩ | ⟨es, rfl, we, _, _⟩ | ⟨ks, vs, rfl, wk, wv, _, hlen, _⟩
  · exact rshow_nil n hC P w v ha hb
  · exact rshow_bool n hC P w v b ha hb
  · exact rshow_int n hC P w v i i1 i2 ha hb
  · exact rshow_text n hC P w v l ha hb
  · exact rshow_atom n hC P w v l ha hb
  · exact rshow_set n hC P w v es we ha hb
  · by_cases hc : counts (numOf n) ks = true
    · exact rshow_seq n hC P w v ks vs wk wv hlen hc ha hb
    · exact rshow_fn n hC P w v ks vs wk wv hlen hc ha hb
end Go.Proofs.YtbogejmmkohbkaaGreatDoor.Sx
