/- The reference as text: single values. -/
import Derived.Test.YtbogejmmkohbkaaGreatDoorGEf
namespace Go.Proofs.YtbogejmmkohbkaaGreatDoor.Sx
open Go.RowKit Go.Sort

set_option maxRecDepth 100000 in
set_option maxHeartbeats 8000000 in
theorem rshow_nil (n : Nat) (hC : ShR n) (P : Nat → Prop) (w : World) (v : Value)  (ha : Ref P w (n + 1) (mkNil : Node (AV n)) v) (_ : (sh (n + 1) (mkNil : Node (AV n))).length ≤ 1099511627776) :
    Calls Tryz.prog 13 #[v] w fun e w' => e = .returned (.string ⟨(sh (n + 1) (mkNil : Node (AV n))).toArray⟩) ∧ Grew w w' := by
  obtain ⟨s1, ka, kl, kc, ua, ul, uc, rfl, t1, r1, q1⟩ := id ha
  obtain rfl := bytes_of t1
  have HSEQ : Hid (∀ W : World, Grew w W → Calls Tryz.prog 35 _ W _) := fun W hW => rseq_d n P W _ _ (ha.grew hW)
  have HSH : Hid (∀ (W : World) (b : Option Addr) (len cap : Nat) (es : List (AV n)), Row5 P W (Ref P W n) b len es → (∀ x ∈ es, WF n x) → (jL [] (es.map (sh n))).length ≤ 1099511627776 → Calls Tryz.prog 34 #[.slice b len cap] W _) := fun W b len cap es q1 q2 q3 => shown_any n hC P W b len cap es q1 q2 q3
  have HC : Hid (ShR n) := hC
  clear hC ha
  clear HSEQ HSH HC r1 q1 t1
  have hsh : sh (n + 1) (mkNil : Node (AV n)) = [110, 105, 108] := rfl
  rw [hsh]
  show Calls Tryz.prog 13 #[.agg #[.int .i64 0, .int .i64 0, .string ⟨#[]⟩, .slice ka kl kc, .slice ua ul uc]] w _
  have X0 : Hid ((w.alloc (.cells #[.int .i64 0, .int .i64 0, .string ⟨#[]⟩, .slice ka kl kc, .slice ua ul uc] 30)).heap[w.heap.size]? = some (.cells #[.int .i64 0, .int .i64 0, .string ⟨#[]⟩, .slice ka kl kc, .slice ua ul uc] 30 (0, 0))) := heap_new rfl
  have G0 : Hid (Grew w (w.alloc (.cells #[.int .i64 0, .int .i64 0, .string ⟨#[]⟩, .slice ka kl kc, .slice ua ul uc] 30))) := (Grew.refl w).alloc _
  have mo := follows
  go_enter Tryz.func13, Tryz.ntmps13
  go_upto_region 1 with fail
  generalize w.alloc (.cells #[.int .i64 0, .int .i64 0, .string ⟨#[]⟩, .slice ka kl kc, .slice ua ul uc] 30) = W0 at X0 G0 ⊢
  have b0 := block_cell X0.out 0
  have b1 := block_cell X0.out 1
  have b2 := block_cell X0.out 2
  have b3 := block_cell X0.out 3
  have b4 := block_cell X0.out 4
  have zb := block_lt X0.out
  go_wp2_with fail
  go_ret
  exact ⟨rfl, G0.out⟩
set_option maxRecDepth 100000 in
set_option maxHeartbeats 8000000 in
theorem rshow_bool (n : Nat) (hC : ShR n) (P : Nat → Prop) (w : World) (v : Value) (b : Bool) (ha : Ref P w (n + 1) (mkBool b : Node (AV n)) v) (_ : (sh (n + 1) (mkBool b : Node (AV n))).length ≤ 1099511627776) :
    Calls Tryz.prog 13 #[v] w fun e w' => e = .returned (.string ⟨(sh (n + 1) (mkBool b : Node (AV n))).toArray⟩) ∧ Grew w w' := by
  obtain ⟨s1, ka, kl, kc, ua, ul, uc, rfl, t1, r1, q1⟩ := id ha
  obtain rfl := bytes_of t1
  have HSEQ : Hid (∀ W : World, Grew w W → Calls Tryz.prog 35 _ W _) := fun W hW => rseq_d n P W _ _ (ha.grew hW)
  have HSH : Hid (∀ (W : World) (b : Option Addr) (len cap : Nat) (es : List (AV n)), Row5 P W (Ref P W n) b len es → (∀ x ∈ es, WF n x) → (jL [] (es.map (sh n))).length ≤ 1099511627776 → Calls Tryz.prog 34 #[.slice b len cap] W _) := fun W b len cap es q1 q2 q3 => shown_any n hC P W b len cap es q1 q2 q3
  have HC : Hid (ShR n) := hC
  clear hC ha
  clear HSEQ HSH HC r1 q1 t1
  cases b with
  | false =>
    have hsh : sh (n + 1) (mkBool false : Node (AV n)) = [102, 97, 108, 115, 101] := rfl
    rw [hsh]
    show Calls Tryz.prog 13 #[.agg #[.int .i64 1, .int .i64 0, .string ⟨#[]⟩, .slice ka kl kc, .slice ua ul uc]] w _
    have X0 : Hid ((w.alloc (.cells #[.int .i64 1, .int .i64 0, .string ⟨#[]⟩, .slice ka kl kc, .slice ua ul uc] 30)).heap[w.heap.size]? = some (.cells #[.int .i64 1, .int .i64 0, .string ⟨#[]⟩, .slice ka kl kc, .slice ua ul uc] 30 (0, 0))) := heap_new rfl
    have G0 : Hid (Grew w (w.alloc (.cells #[.int .i64 1, .int .i64 0, .string ⟨#[]⟩, .slice ka kl kc, .slice ua ul uc] 30))) := (Grew.refl w).alloc _
    have mo := follows
    go_enter Tryz.func13, Tryz.ntmps13
    go_upto_region 1 with fail
    generalize w.alloc (.cells #[.int .i64 1, .int .i64 0, .string ⟨#[]⟩, .slice ka kl kc, .slice ua ul uc] 30) = W0 at X0 G0 ⊢
    have b0 := block_cell X0.out 0
    have b1 := block_cell X0.out 1
    have b2 := block_cell X0.out 2
    have b3 := block_cell X0.out 3
    have b4 := block_cell X0.out 4
    have zb := block_lt X0.out
    go_wp2_with fail
    go_ret
    exact ⟨rfl, G0.out⟩
  | true =>
    have hsh : sh (n + 1) (mkBool true : Node (AV n)) = [116, 114, 117, 101] := rfl
    rw [hsh]
    show Calls Tryz.prog 13 #[.agg #[.int .i64 1, .int .i64 1, .string ⟨#[]⟩, .slice ka kl kc, .slice ua ul uc]] w _
    have X0 : Hid ((w.alloc (.cells #[.int .i64 1, .int .i64 1, .string ⟨#[]⟩, .slice ka kl kc, .slice ua ul uc] 30)).heap[w.heap.size]? = some (.cells #[.int .i64 1, .int .i64 1, .string ⟨#[]⟩, .slice ka kl kc, .slice ua ul uc] 30 (0, 0))) := heap_new rfl
    have G0 : Hid (Grew w (w.alloc (.cells #[.int .i64 1, .int .i64 1, .string ⟨#[]⟩, .slice ka kl kc, .slice ua ul uc] 30))) := (Grew.refl w).alloc _
    have mo := follows
    go_enter Tryz.func13, Tryz.ntmps13
    go_upto_region 1 with fail
    generalize w.alloc (.cells #[.int .i64 1, .int .i64 1, .string ⟨#[]⟩, .slice ka kl kc, .slice ua ul uc] 30) = W0 at X0 G0 ⊢
    have b0 := block_cell X0.out 0
    have b1 := block_cell X0.out 1
    have b2 := block_cell X0.out 2
    have b3 := block_cell X0.out 3
    have b4 := block_cell X0.out 4
    have zb := block_lt X0.out
    go_wp2_with fail
    go_ret
    exact ⟨rfl, G0.out⟩
set_option maxRecDepth 100000 in
set_option maxHeartbeats 8000000 in
theorem rshow_int (n : Nat) (hC : ShR n) (P : Nat → Prop) (w : World) (v : Value) (i : Int) (i1 : -9223372036854775808 ≤ i) (i2 : i ≤ 9223372036854775807) (ha : Ref P w (n + 1) (mkInt i : Node (AV n)) v) (_ : (sh (n + 1) (mkInt i : Node (AV n))).length ≤ 1099511627776) :
    Calls Tryz.prog 13 #[v] w fun e w' => e = .returned (.string ⟨(sh (n + 1) (mkInt i : Node (AV n))).toArray⟩) ∧ Grew w w' := by
  obtain ⟨s1, ka, kl, kc, ua, ul, uc, rfl, t1, r1, q1⟩ := id ha
  obtain rfl := bytes_of t1
  have HSEQ : Hid (∀ W : World, Grew w W → Calls Tryz.prog 35 _ W _) := fun W hW => rseq_d n P W _ _ (ha.grew hW)
  have HSH : Hid (∀ (W : World) (b : Option Addr) (len cap : Nat) (es : List (AV n)), Row5 P W (Ref P W n) b len es → (∀ x ∈ es, WF n x) → (jL [] (es.map (sh n))).length ≤ 1099511627776 → Calls Tryz.prog 34 #[.slice b len cap] W _) := fun W b len cap es q1 q2 q3 => shown_any n hC P W b len cap es q1 q2 q3
  have HC : Hid (ShR n) := hC
  clear hC ha
  clear HSEQ HSH HC r1 q1 t1
  have hsh : sh (n + 1) (mkInt i : Node (AV n)) = Lib.itoa i := rfl
  rw [hsh]
  show Calls Tryz.prog 13 #[.agg #[.int .i64 2, .int .i64 i, .string ⟨#[]⟩, .slice ka kl kc, .slice ua ul uc]] w _
  have HD : Hid (∀ W : World, Calls Tryz.prog 33 #[.int .i64 i] W _) := fun W => rdigits_any i W i1 i2
  have X0 : Hid ((w.alloc (.cells #[.int .i64 2, .int .i64 i, .string ⟨#[]⟩, .slice ka kl kc, .slice ua ul uc] 30)).heap[w.heap.size]? = some (.cells #[.int .i64 2, .int .i64 i, .string ⟨#[]⟩, .slice ka kl kc, .slice ua ul uc] 30 (0, 0))) := heap_new rfl
  have G0 : Hid (Grew w (w.alloc (.cells #[.int .i64 2, .int .i64 i, .string ⟨#[]⟩, .slice ka kl kc, .slice ua ul uc] 30))) := (Grew.refl w).alloc _
  have mo := follows
  go_enter Tryz.func13, Tryz.ntmps13
  go_upto_region 1 with fail
  generalize w.alloc (.cells #[.int .i64 2, .int .i64 i, .string ⟨#[]⟩, .slice ka kl kc, .slice ua ul uc] 30) = W0 at X0 G0 ⊢
  have b0 := block_cell X0.out 0
  have b1 := block_cell X0.out 1
  have b2 := block_cell X0.out 2
  have b3 := block_cell X0.out 3
  have b4 := block_cell X0.out 4
  have zb := block_lt X0.out
  go_wp2_with (go_at_call 33; refine (HD.out _).mono ?_; rintro e w' ⟨rfl, hg⟩; have G1 : Hid (Grew w w') := G0.out.trans hg; clear hg)
  go_ret
  exact ⟨rfl, G1.out⟩
end Go.Proofs.YtbogejmmkohbkaaGreatDoor.Sx
