/- The reference: what a value weighs. -/
import Derived.Test.YtbogejmmkohbkaaGreatDoorGRD
import Derived.Test.YtbogejmmkohbkaaGreatDoorGA9
namespace Go.Proofs.YtbogejmmkohbkaaGreatDoor.Sx
open Go.RowKit Go.Sort

def wtR : (n : Nat) → AV n → Nat
  | 0, _ => 0
  | n + 1, a => 1 + wtL (wtR n) (Node.keys a) + wtL (wtR n) (Node.vals a)
theorem wtL_congr {α : Type} {f g : α → Nat} : ∀ (l : List α), (∀ x ∈ l, f x = g x) → wtL f l = wtL g l
  | [], _ => rfl
  | x :: l, h => by rw [wtL_cons, wtL_cons, h x (by simp), wtL_congr l (fun y hy => h y (by simp [hy]))]
theorem wtR_eq : ∀ (n : Nat) (a : AV n), WF n a → wtR n a = wt n a
  | 0, a, _ => Empty.elim a
  | n + 1, a, h => by
    have ih := wtR_eq n
    rcases h with rfl | ⟨b, rfl⟩ | ⟨i, rfl, _⟩ | ⟨l, rfl, _⟩ | ⟨l, rfl, _⟩ | ⟨es, rfl, h1, _⟩ | ⟨ks, vs, rfl, h1, h2, _⟩
    · rfl
    · rfl
    · rfl
    · rfl
    · rfl
    · show 1 + wtL (wtR n) es + 0 = 1 + wtL (wt n) es
      rw [wtL_congr es (fun x hx => ih x (h1 x hx))]; omega
    · show 1 + wtL (wtR n) ks + wtL (wtR n) vs = 1 + wtL (wt n) ks + wtL (wt n) vs
      rw [wtL_congr ks (fun x hx => ih x (h1 x hx)), wtL_congr vs (fun x hx => ih x (h2 x hx))]
theorem wtL_mem {α : Type} (f : α → Nat) : ∀ (l : List α) (x : α), x ∈ l → f x ≤ wtL f l
  | [], _, h => by simp at h
  | y :: l, x, h => by
    rw [wtL_cons]
    rcases List.mem_cons.1 h with rfl | h
    · omega
    · have := wtL_mem f l x h; omega
theorem wtL_take_le {α : Type} (f : α → Nat) (l : List α) (k : Nat) : wtL f (l.take k) ≤ wtL f l := by
  induction l generalizing k with
  | nil => simp [wtL]
  | cons x l ih =>
    cases k with
    | zero => simp [wtL]
    | succ k => rw [List.take_succ_cons, wtL_cons, wtL_cons]; have := ih k; omega

def WtR (n : Nat) : Prop := ∀ (P : Nat → Prop) (w : World) (a : AV n) (v : Value), Ref P w n a v → wtR n a ≤ 1099511627776 →
  Calls Tryz.prog 15 #[v] w fun e w' => e = .returned (.int .i64 (wtR n a)) ∧ Grew w w'

set_option maxRecDepth 100000 in
set_option maxHeartbeats 2000000 in
theorem rweight_step (n : Nat) (hC : WtR n) : WtR (n + 1) := by
  intro P w a v ha hb
  obtain ⟨s1, ka, kl, kc, ua, ul, uc, rfl, t1, r1, q1⟩ := ha
  have HC : Hid (WtR n) := hC
  clear hC t1
  have HW : Hid (wtR (n + 1) a = 1 + wtL (wtR n) a.keys + wtL (wtR n) a.vals) := rfl
  rw [HW.out] at hb ⊢
  obtain ⟨K, hK⟩ : ∃ K, wtL (wtR n) a.keys = K := ⟨_, rfl⟩
  obtain ⟨U, hU⟩ : ∃ U, wtL (wtR n) a.vals = U := ⟨_, rfl⟩
  rw [hK, hU] at hb ⊢
  clear HW
  generalize a.keys = ks at r1 hK
  generalize a.vals = us at q1 hU
  obtain ⟨i0, hi0⟩ : ∃ i, i = a.int := ⟨_, rfl⟩
  obtain ⟨k0, hk0⟩ : ∃ i, i = a.kind := ⟨_, rfl⟩
  rw [← hi0, ← hk0]
  clear hi0 hk0 a
  have HKs : Hid (∀ (k : Nat) (x : AV n), ks[k]? = some x → wtL (wtR n) (ks.take (k + 1)) = wtL (wtR n) (ks.take k) + wtR n x ∧ wtR n x ≤ K ∧ wtL (wtR n) (ks.take (k + 1)) ≤ K) := fun k x h =>
    ⟨wtL_take _ ks k x h, by rw [← hK]; exact wtL_mem _ ks x (List.mem_of_getElem? h), by rw [← hK]; exact wtL_take_le _ _ _⟩
  have HUs : Hid (∀ (k : Nat) (x : AV n), us[k]? = some x → wtL (wtR n) (us.take (k + 1)) = wtL (wtR n) (us.take k) + wtR n x ∧ wtR n x ≤ U ∧ wtL (wtR n) (us.take (k + 1)) ≤ U) := fun k x h =>
    ⟨wtL_take _ us k x h, by rw [← hU]; exact wtL_mem _ us x (List.mem_of_getElem? h), by rw [← hU]; exact wtL_take_le _ _ _⟩
  have HK : Hid (wtL (wtR n) ks = K) := hK
  have HU : Hid (wtL (wtR n) us = U) := hU
  clear hK hU
  have R1 : Hid (Row5 P w (Ref P w n) ka kl ks) := r1
  have Q1 : Hid (Row5 P w (Ref P w n) ua ul us) := q1
  have lk : kl ≤ 4294967296 := r1.2.1
  have lu : ul ≤ 4294967296 := q1.2.1
  clear r1 q1
  have X0 : Hid ((w.alloc (.cells #[.int .i64 k0, .int .i64 i0, .string s1, .slice ka kl kc, .slice ua ul uc] 30)).heap[w.heap.size]? = some (.cells #[.int .i64 k0, .int .i64 i0, .string s1, .slice ka kl kc, .slice ua ul uc] 30 (0, 0))) := heap_new rfl
  have G0 : Hid (Grew w (w.alloc (.cells #[.int .i64 k0, .int .i64 i0, .string s1, .slice ka kl kc, .slice ua ul uc] 30))) := (Grew.refl w).alloc _
  have mo := follows
  go_enter Tryz.func15, Tryz.ntmps15
  go_wp2_with fail
  generalize w.alloc (.cells #[.int .i64 k0, .int .i64 i0, .string s1, .slice ka kl kc, .slice ua ul uc] 30) = W0 at X0 G0 ⊢
  go_loopw [3, 4] (fun m i wr => ∃ k : Nat, k ≤ kl ∧ m = .int .i64 ((1 + wtL (wtR n) (ks.take k) : Nat) : Int) ∧ i = .int .i64 k ∧ Hid (Grew w wr) ∧ Hid (wr.heap[w.heap.size]? = some (.cells #[.int .i64 k0, .int .i64 i0, .string s1, .slice ka kl kc, .slice ua ul uc] 30 (0, 0)))) (fun _ i _ => kl - (intOf i).toNat)
  case atStart => exact ⟨0, Nat.zero_le _, by simp [wtL], rfl, G0, X0⟩
  case round =>
    clear G0 X0
    obtain ⟨k, hk1, rfl, rfl, HG, HX⟩ := hrel
    have b3 := block_cell HX.out 3
    have zb := block_lt HX.out
    by_cases hlt : k < kl
    · have hx : k < ks.length := by rw [← R1.out.1]; exact hlt
      obtain ⟨p1, o1, rfl, hp1, _, hc1⟩ := R1.out.2.2.resolve_left (by omega)
      obtain ⟨v1, hv1, hr1⟩ := hc1 k ks[k] (List.getElem?_eq_getElem hx)
      obtain ⟨x0, x1, x2, x3, x4, rfl, g0, g1, g2, g3, g4⟩ := cell_five HG.out hp1 hv1
      obtain ⟨f1, f2, f3⟩ := HKs.out k ks[k] (List.getElem?_eq_getElem hx)
      have HCALL : Hid (∀ (W : World) (hW : Grew w W), _) := fun (W : World) (hW : Grew w W) => HC.out P W ks[k] _ (hr1.grew hW) (by omega)
      obtain ⟨m, hm⟩ : ∃ m, wtL (wtR n) (ks.take k) = m := ⟨_, rfl⟩
      rw [hm] at f1 ⊢
      have F1 : Hid (wtL (wtR n) (ks.take (k + 1)) = m + wtR n ks[k]) := f1
      rw [f1] at f3
      have F3 : m + wtR n ks[k] ≤ K := f3
      have F2 : wtR n ks[k] ≤ K := f2
      clear hc1 hv1 hr1 hm f1 f2 f3
      generalize wtR n ks[k] = q at HCALL F1 F2 F3
      go_wp2_with (go_at_call 15; refine (HCALL.out _ HG.out).mono ?_; rintro e w' ⟨rfl, hg⟩; have G1 : Hid (Grew w w') := HG.out.trans hg; have X1 : Hid (_ = _) := Below.blockAt hg.below HX.out; clear hg)
      go_roundw
      case rel => exact ⟨k + 1, by omega, by rw [F1.out]; go_num, by go_num, G1, X1⟩
      case measure => simp [intOf]; omega
    · have hkl : k = kl := by omega
      subst k
      have HT : Hid (ks.take kl = ks) := by show _ = _; rw [R1.out.1]; exact List.take_length
      rw [HT.out]
      rw [HK.out]
      have b4 := block_cell HX.out 4
      go_wp2_with fail
      clear b3 b4
      go_loopw [3, 6] (fun m i wr => ∃ k : Nat, k ≤ ul ∧ m = .int .i64 ((1 + K + wtL (wtR n) (us.take k) : Nat) : Int) ∧ i = .int .i64 k ∧ Hid (Grew w wr) ∧ Hid (wr.heap[w.heap.size]? = some (.cells #[.int .i64 k0, .int .i64 i0, .string s1, .slice ka kl kc, .slice ua ul uc] 30 (0, 0)))) (fun _ i _ => ul - (intOf i).toNat)
      case atStart => exact ⟨0, Nat.zero_le _, by simp [wtL], rfl, HG, HX⟩
      case round =>
        clear HG HX zb
        obtain ⟨k, hk1, rfl, rfl, HG, HX⟩ := hrel
        have b4 := block_cell HX.out 4
        have zb := block_lt HX.out
        by_cases hlt : k < ul
        · have hx : k < us.length := by rw [← Q1.out.1]; exact hlt
          obtain ⟨p1, o1, rfl, hp1, _, hc1⟩ := Q1.out.2.2.resolve_left (by omega)
          obtain ⟨v1, hv1, hr1⟩ := hc1 k us[k] (List.getElem?_eq_getElem hx)
          obtain ⟨x0, x1, x2, x3, x4, rfl, g0, g1, g2, g3, g4⟩ := cell_five HG.out hp1 hv1
          obtain ⟨f1, f2, f3⟩ := HUs.out k us[k] (List.getElem?_eq_getElem hx)
          have HCALL : Hid (∀ (W : World) (hW : Grew w W), _) := fun (W : World) (hW : Grew w W) => HC.out P W us[k] _ (hr1.grew hW) (by omega)
          obtain ⟨m, hm⟩ : ∃ m, wtL (wtR n) (us.take k) = m := ⟨_, rfl⟩
          rw [hm] at f1 ⊢
          have F1 : Hid (wtL (wtR n) (us.take (k + 1)) = m + wtR n us[k]) := f1
          rw [f1] at f3
          have F3 : m + wtR n us[k] ≤ U := f3
          have F2 : wtR n us[k] ≤ U := f2
          clear hc1 hv1 hr1 hm f1 f2 f3
          generalize wtR n us[k] = q at HCALL F1 F2 F3
          go_wp2_with (go_at_call 15; refine (HCALL.out _ HG.out).mono ?_; rintro e w' ⟨rfl, hg⟩; have G1 : Hid (Grew w w') := HG.out.trans hg; have X1 : Hid (_ = _) := Below.blockAt hg.below HX.out; clear hg)
          go_roundw
          case rel => exact ⟨k + 1, by omega, by rw [F1.out]; go_num, by go_num, G1, X1⟩
          case measure => simp [intOf]; omega
        · have hul : k = ul := by omega
          subst k
          have HT : Hid (us.take ul = us) := by show _ = _; rw [Q1.out.1]; exact List.take_length
          rw [HT.out]
          rw [HU.out]
          go_wp2_with fail
          go_ret
          exact ⟨rfl, HG.out⟩
theorem rweight_any : ∀ n, WtR n
  | 0 => fun _ _ a => Empty.elim a
  | n + 1 => rweight_step n (rweight_any n)
end Go.Proofs.YtbogejmmkohbkaaGreatDoor.Sx

namespace Go.Proofs.YtbogejmmkohbkaaGreatDoor.Sx
open Go.RowKit Go.Sort

def nilV5 : Value := .agg #[.int .i64 0, .int .i64 0, .string ⟨#[]⟩, .slice none 0 0, .slice none 0 0]
theorem row5_none {α : Type} (P : Nat → Prop) (w : World) (R : α → Value → Prop) (a : Option Addr) : Row5 P w R a 0 [] := ⟨rfl, by omega, .inl rfl⟩
theorem ref_leaf (P : Nat → Prop) (w : World) (n : Nat) (k : Nat) (i : Int) (s : ByteArray) : Ref P w (n + 1) (⟨k, i, s.data.toList, [], []⟩ : Node (AV n)) (.agg #[.int .i64 k, .int .i64 i, .string s, .slice none 0 0, .slice none 0 0]) :=
  ⟨s, none, 0, 0, none, 0, 0, rfl, rfl, row5_none P w _ none, row5_none P w _ none⟩
theorem ref_nil (P : Nat → Prop) (w : World) (n : Nat) : Ref P w (n + 1) (mkNil : Node (AV n)) nilV5 := ref_leaf P w n 0 0 ⟨#[]⟩
theorem ref_int (P : Nat → Prop) (w : World) (n : Nat) (i : Int) : Ref P w (n + 1) (mkInt i : Node (AV n)) (.agg #[.int .i64 2, .int .i64 i, .string ⟨#[]⟩, .slice none 0 0, .slice none 0 0]) := ref_leaf P w n 2 i ⟨#[]⟩

set_option maxRecDepth 100000 in
theorem rnumber_mk (i : Int) (w : World) : Calls Tryz.prog 86 #[.int .i64 i] w fun e w' => e = .returned (.agg #[.int .i64 2, .int .i64 i, .string ⟨#[]⟩, .slice none 0 0, .slice none 0 0]) ∧ Grew w w' := by
  go_enter Tryz.func86, Tryz.ntmps86
  go_wp2_with fail
  refine bodyPost_ret (v := .agg #[.int .i64 2, .int .i64 i, .string ⟨#[]⟩, .slice none 0 0, .slice none 0 0]) (by simp [results, Tryz.results86, go_sem]) rfl ?_
  exact ⟨rfl, (Grew.refl w).alloc _⟩

set_option maxRecDepth 100000 in
theorem rtruth_mk (b : Bool) (w : World) : Calls Tryz.prog 88 #[.bool b] w fun e w' => e = .returned (.agg #[.int .i64 1, .int .i64 (if b then 1 else 0), .string ⟨#[]⟩, .slice none 0 0, .slice none 0 0]) ∧ Grew w w' := by
  cases b
  · go_enter Tryz.func88, Tryz.ntmps88
    go_wp2_with fail
    refine bodyPost_ret (v := .agg #[.int .i64 1, .int .i64 0, .string ⟨#[]⟩, .slice none 0 0, .slice none 0 0]) (by simp [results, Tryz.results88, go_sem]) rfl ?_
    exact ⟨rfl, (Grew.refl w).alloc _⟩
  · go_enter Tryz.func88, Tryz.ntmps88
    go_wp2_with fail
    refine bodyPost_ret (v := .agg #[.int .i64 1, .int .i64 1, .string ⟨#[]⟩, .slice none 0 0, .slice none 0 0]) (by simp [results, Tryz.results88, go_sem]) rfl ?_
    exact ⟨rfl, (Grew.refl w).alloc _⟩

/-- a value of five cells is written -/
def set5 (w : World) (b o : Nat) (c0 c1 c2 c3 c4 : Value) : World :=
  ((((w.setCell ⟨b, o, none⟩ c0).setCell ⟨b, o + 1, none⟩ c1).setCell ⟨b, o + 2, none⟩ c2).setCell ⟨b, o + 3, none⟩ c3).setCell ⟨b, o + 4, none⟩ c4
theorem set5_block {w : World} {b : Nat} {v0 v1 v2 v3 v4 : Value} {t : TypeId} (h : w.heap[b]? = some (.cells #[v0, v1, v2, v3, v4] t (0, 0))) (c0 c1 c2 c3 c4 : Value) : (set5 w b 0 c0 c1 c2 c3 c4).heap[b]? = some (.cells #[c0, c1, c2, c3, c4] t (0, 0)) :=
  set_block (set_block (set_block (set_block (set_block h 0 c0) 1 c1) 2 c2) 3 c3) 4 c4
theorem set5_new {w w1 : World} (h : Grew w w1) {b : Nat} (hp : w.heap.size ≤ b) (o : Nat) (c0 c1 c2 c3 c4 : Value) : Grew w (set5 w1 b o c0 c1 c2 c3 c4) :=
  ((((h.setNew hp c0).setNew hp c1).setNew hp c2).setNew hp c3).setNew hp c4
theorem set5_fr {P : Nat → Prop} {a w : World} (h : Fr P a w) {b : Nat} (hp : ¬ P b) (o : Nat) (c0 c1 c2 c3 c4 : Value) : Fr P a (set5 w b o c0 c1 c2 c3 c4) :=
  ((((h.set hp c0).set hp c1).set hp c2).set hp c3).set hp c4

set_option maxRecDepth 100000 in
set_option maxHeartbeats 1000000 in
theorem rlight_mk (n : Nat) (P : Nat → Prop) (w : World) (a : AV (n + 1)) (v : Value) (ha : Ref P w (n + 1) a v) (hb : wtR (n + 1) a ≤ 1099511627776) :
    Calls Tryz.prog 85 #[v] w fun e w' => e = .returned (if wtR (n + 1) a ≤ 1024 then v else nilV5) ∧ Grew w w' := by
  have HC : Hid (∀ (W : World) (hW : Grew w W), _) := fun (W : World) (hW : Grew w W) => rweight_any (n + 1) P W a v (ha.grew hW) hb
  obtain ⟨s1, ka, kl, kc, ua, ul, uc, rfl, _, _, _⟩ := ha
  generalize wtR (n + 1) a = q at HC hb ⊢
  generalize a.int = i0 at HC ⊢
  generalize a.kind = k0 at HC ⊢
  obtain ⟨r, hr⟩ : ∃ r, (if q ≤ 1024 then (Value.agg #[.int .i64 k0, .int .i64 i0, .string s1, .slice ka kl kc, .slice ua ul uc]) else nilV5) = r := ⟨_, rfl⟩
  rw [hr]
  have HR : Hid (_ = r) := hr
  clear hr
  have x1 : Hid (((w.alloc (.cells #[.int .i64 k0, .int .i64 i0, .string s1, .slice ka kl kc, .slice ua ul uc] 30)).alloc (.cells #[.int .i64 0, .int .i64 0, .string ⟨#[]⟩, .slice none 0 0, .slice none 0 0] 30)).heap[w.heap.size]? = some (.cells #[.int .i64 k0, .int .i64 i0, .string s1, .slice ka kl kc, .slice ua ul uc] 30 (0, 0))) :=
    Below.blockAt ((Grew.refl _).alloc _).below (heap_new rfl)
  have x2 : Hid (((w.alloc (.cells #[.int .i64 k0, .int .i64 i0, .string s1, .slice ka kl kc, .slice ua ul uc] 30)).alloc (.cells #[.int .i64 0, .int .i64 0, .string ⟨#[]⟩, .slice none 0 0, .slice none 0 0] 30)).heap[w.heap.size + 1]? = some (.cells #[.int .i64 0, .int .i64 0, .string ⟨#[]⟩, .slice none 0 0, .slice none 0 0] 30 (0, 0))) :=
    heap_new (by simp)
  have G0 : Hid (Grew w ((w.alloc (.cells #[.int .i64 k0, .int .i64 i0, .string s1, .slice ka kl kc, .slice ua ul uc] 30)).alloc (.cells #[.int .i64 0, .int .i64 0, .string ⟨#[]⟩, .slice none 0 0, .slice none 0 0] 30))) := ((Grew.refl w).alloc _).alloc _
  go_enter Tryz.func85, Tryz.ntmps85
  go_wp2_with fail
  generalize (w.alloc (.cells #[.int .i64 k0, .int .i64 i0, .string s1, .slice ka kl kc, .slice ua ul uc] 30)).alloc (.cells #[.int .i64 0, .int .i64 0, .string ⟨#[]⟩, .slice none 0 0, .slice none 0 0] 30) = W0 at G0 x1 x2 ⊢
  refine (HC.out W0 G0.out).mono ?_
  rintro e w' ⟨rfl, hg⟩
  have G1 : Hid (Grew w w') := G0.out.trans hg
  have y1 : Hid (_ = _) := Below.blockAt hg.below x1.out
  have y2 : Hid (_ = _) := Below.blockAt hg.below x2.out
  clear hg x1 x2 G0 HC
  have a0 := block_cell y1.out 0
  have a1 := block_cell y1.out 1
  have a2 := block_cell y1.out 2
  have a3 := block_cell y1.out 3
  have a4 := block_cell y1.out 4
  have b0 := block_cell y2.out 0
  have b1 := block_cell y2.out 1
  have b2 := block_cell y2.out 2
  have b3 := block_cell y2.out 3
  have b4 := block_cell y2.out 4
  have f0 := frozen_block y2.out 0
  have f1 := frozen_block y2.out 1
  have f2 := frozen_block y2.out 2
  have f3 := frozen_block y2.out 3
  have f4 := frozen_block y2.out 4
  have z1 := block_lt y1.out
  have z2 := block_lt y2.out
  by_cases hq : q ≤ 1024
  · have HF : Hid (r = .agg #[.int .i64 k0, .int .i64 i0, .string s1, .slice ka kl kc, .slice ua ul uc]) := by show _ = _; rw [← HR.out, if_pos hq]
    clear HR
    go_wp2_with fail
    have E := set5_block y2.out (.int .i64 k0) (.int .i64 i0) (.string s1) (.slice ka kl kc) (.slice ua ul uc)
    have EG := set5_new G1.out (b := w.heap.size + 1) (by omega) 0 (.int .i64 k0) (.int .i64 i0) (.string s1) (.slice ka kl kc) (.slice ua ul uc)
    change bodyPost Tryz.prog _ _ _ _ (set5 w' (w.heap.size + 1) 0 (.int .i64 k0) (.int .i64 i0) (.string s1) (.slice ka kl kc) (.slice ua ul uc))
    clear a0 a1 a2 a3 a4 b0 b1 b2 b3 b4 f0 f1 f2 f3 f4
    generalize set5 w' (w.heap.size + 1) 0 (.int .i64 k0) (.int .i64 i0) (.string s1) (.slice ka kl kc) (.slice ua ul uc) = WZ at E EG ⊢
    have b0 := block_cell E 0
    have b1 := block_cell E 1
    have b2 := block_cell E 2
    have b3 := block_cell E 3
    have b4 := block_cell E 4
    rw [HF.out]
    exact bodyPost_ret (v := .agg #[.int .i64 k0, .int .i64 i0, .string s1, .slice ka kl kc, .slice ua ul uc]) (by simp [results, Tryz.results85, go_sem, b0, b1, b2, b3, b4]) rfl ⟨rfl, EG⟩
  · have HF : Hid (r = nilV5) := by show _ = _; rw [← HR.out, if_neg hq]
    clear HR
    go_wp2_with fail
    have E := set5_block y2.out (.int .i64 0) (.int .i64 0) (.string ⟨#[]⟩) (.slice none 0 0) (.slice none 0 0)
    have EG := set5_new G1.out (b := w.heap.size + 1) (by omega) 0 (.int .i64 0) (.int .i64 0) (.string ⟨#[]⟩) (.slice none 0 0) (.slice none 0 0)
    change bodyPost Tryz.prog _ _ _ _ (set5 w' (w.heap.size + 1) 0 (.int .i64 0) (.int .i64 0) (.string ⟨#[]⟩) (.slice none 0 0) (.slice none 0 0))
    clear a0 a1 a2 a3 a4 b0 b1 b2 b3 b4 f0 f1 f2 f3 f4
    generalize set5 w' (w.heap.size + 1) 0 (.int .i64 0) (.int .i64 0) (.string ⟨#[]⟩) (.slice none 0 0) (.slice none 0 0) = WZ at E EG ⊢
    have b0 := block_cell E 0
    have b1 := block_cell E 1
    have b2 := block_cell E 2
    have b3 := block_cell E 3
    have b4 := block_cell E 4
    rw [HF.out]
    exact bodyPost_ret (v := nilV5) (by simp [results, Tryz.results85, go_sem, b0, b1, b2, b3, b4, nilV5]) rfl ⟨rfl, EG⟩
end Go.Proofs.YtbogejmmkohbkaaGreatDoor.Sx

namespace Go.Proofs.YtbogejmmkohbkaaGreatDoor.Sx
open Go.RowKit Go.Sort

structure Placed (n : Nat) (es : List (AV n)) (x : AV n) (i : Nat) (f : Bool) : Prop where
  le : i ≤ es.length
  yes : f = true → es[i]? = some x
  no : f = false → ∀ (j : Nat) (y : AV n), es[j]? = some y → (j < i → cmpV n y x < 0) ∧ (i ≤ j → 0 < cmpV n y x)

def PlaceSaid (n : Nat) (w : World) (es : List (AV n)) (x : AV n) (e : Ending) (w' : World) : Prop := ∃ (i : Nat) (f : Bool), e = .returned (.tuple #[.int .i64 i, .bool f]) ∧ Grew w w' ∧ Placed n es x i f

theorem asc_at {n : Nat} {es : List (AV n)} (h : Asc (cmpV n) es) {i j : Nat} {x y : AV n} (hij : i < j) (hx : es[i]? = some x) (hy : es[j]? = some y) : cmpV n x y < 0 := by
  obtain ⟨h1, e1⟩ := List.getElem?_eq_some_iff.1 hx
  obtain ⟨h2, e2⟩ := List.getElem?_eq_some_iff.1 hy
  have := List.pairwise_iff_getElem.1 h i j h1 h2 hij
  rw [e1, e2] at this; exact this
theorem lt_tr {n : Nat} {x y z : AV n} (h1 : cmpV n x y < 0) (h2 : cmpV n y z < 0) : cmpV n x z < 0 := lt_le (ord n) h1 (by omega)

set_option maxRecDepth 100000 in
set_option maxHeartbeats 2000000 in
theorem place_any (n : Nat) (P : Nat → Prop) (w : World) (a : Option Addr) (len cap : Nat) (es : List (AV n)) (x : AV n) (v : Value) (h1 : Row5 P w (Ref P w n) a len es) (hx : Ref P w n x v) (hA : Asc (cmpV n) es) (hv : ∃ c0 c1 c2 c3 c4, v = .agg #[c0, c1, c2, c3, c4]) :
    Calls Tryz.prog 83 #[.slice a len cap, v] w (PlaceSaid n w es x) := by
  obtain ⟨e1, b1, r1⟩ := h1
  have E1 : Hid (len = es.length) := e1
  clear e1
  obtain ⟨v0, v1, v2, v3, v4, rfl⟩ := hv
  have HX : Hid (Ref P w n x (.agg #[v0, v1, v2, v3, v4])) := hx
  have HA : Hid (Asc (cmpV n) es) := hA
  clear hx hA
  have mo := follows
  go_enter Tryz.func83, Tryz.ntmps83
  go_wp2_with fail
  have X0 : Hid ((w.alloc (.cells #[v0, v1, v2, v3, v4] 30)).heap[w.heap.size]? = some (.cells #[v0, v1, v2, v3, v4] 30 (0, 0))) := heap_new rfl
  have G0 : Hid (Grew w (w.alloc (.cells #[v0, v1, v2, v3, v4] 30))) := (Grew.refl w).alloc _
  generalize w.alloc (.cells #[v0, v1, v2, v3, v4] 30) = W0 at X0 G0 ⊢
  go_loopw [6, 7] (fun s t wr => ∃ (i j : Nat), s = .int .i64 i ∧ t = .int .i64 j ∧ i ≤ j ∧ j ≤ len ∧ Hid (∀ (k : Nat) (y : AV n), es[k]? = some y → (k < i → cmpV n y x < 0) ∧ (j ≤ k → 0 < cmpV n y x)) ∧ Hid (Grew w wr) ∧ Hid (wr.heap[w.heap.size]? = some (.cells #[v0, v1, v2, v3, v4] 30 (0, 0)))) (fun s t _ => (intOf t).toNat - (intOf s).toNat)
  case atStart => exact ⟨0, len, rfl, rfl, Nat.zero_le _, Nat.le_refl _, fun k y hy => ⟨fun h => by omega, fun h => by
    have := (List.getElem?_eq_some_iff.1 hy).1
    have := E1.out
    omega⟩, G0, X0⟩
  case round =>
    clear G0 X0
    obtain ⟨i, j, rfl, rfl, hij, hj, HL, HG, HB⟩ := hrel
    by_cases hlt : i < j
    · obtain ⟨h, hh⟩ : ∃ h, h = (i + j) / 2 := ⟨_, rfl⟩
      have hhl : h < es.length := by rw [← E1.out]; omega
      obtain ⟨p1, o1, rfl, hp1, _, hc1⟩ := r1.resolve_left (by omega)
      have hge : es[h]? = some es[h] := List.getElem?_eq_getElem hhl
      obtain ⟨v1', hv1, hr1⟩ := hc1 h es[h] hge
      obtain ⟨x0, x1, x2, x3, x4, rfl, g0, g1, g2, g3, g4⟩ := cell_five HG.out hp1 hv1
      have s1 : p1 < wr.heap.size := Nat.lt_of_lt_of_le hp1 HG.out.below.size
      have s2 := block_lt HB.out
      have i0 := cell_grown (w := wr) (a := ⟨p1, o1 + h * 5, none⟩) s1 g0
      have i1 := cell_grown (w := wr) (a := ⟨p1, o1 + h * 5 + 1, none⟩) s1 g1
      have i2 := cell_grown (w := wr) (a := ⟨p1, o1 + h * 5 + 2, none⟩) s1 g2
      have i3 := cell_grown (w := wr) (a := ⟨p1, o1 + h * 5 + 3, none⟩) s1 g3
      have i4 := cell_grown (w := wr) (a := ⟨p1, o1 + h * 5 + 4, none⟩) s1 g4
      have j0 := cell_grown (w := wr) (a := ⟨w.heap.size, 0, none⟩) s2 (block_cell HB.out 0)
      have j1 := cell_grown (w := wr) (a := ⟨w.heap.size, 1, none⟩) s2 (block_cell HB.out 1)
      have j2 := cell_grown (w := wr) (a := ⟨w.heap.size, 2, none⟩) s2 (block_cell HB.out 2)
      have j3 := cell_grown (w := wr) (a := ⟨w.heap.size, 3, none⟩) s2 (block_cell HB.out 3)
      have j4 := cell_grown (w := wr) (a := ⟨w.heap.size, 4, none⟩) s2 (block_cell HB.out 4)
      have ea : (((i : Int) + (j : Int)) / 2).toNat = h := by omega
      have pa : (0 : Int) ≤ ((i : Int) + (j : Int)) / 2 := by omega
      have ba : ((i : Int) + (j : Int)) / 2 < (len : Int) := by omega
      have ra : IntKind.i64.wrap (((i : Int) + (j : Int)) / 2) = ((i : Int) + (j : Int)) / 2 := by rw [IntKind.wrap_i64]; omega
      have HCALL : Hid (∀ (W : World) (hW : Grew w W), _) := fun (W : World) (hW : Grew w W) => rcompare_any n P W es[h] x _ _ (hr1.grew hW) (HX.out.grew hW)
      have HZ : Hid (cmpV n es[h] x = 0 → es[h]? = some x) := fun e => by rw [hge, (cmpV_eq n _ _).1 e]
      have HLT : Hid (cmpV n es[h] x < 0 → ∀ (k : Nat) (y : AV n), es[k]? = some y → (k < h + 1 → cmpV n y x < 0) ∧ (j ≤ k → 0 < cmpV n y x)) := fun e k y hy => by
        refine ⟨fun hk => ?_, (HL.out k y hy).2⟩
        by_cases q : k = h
        · subst q
          rw [hge] at hy
          rw [← Option.some.inj hy]; exact e
        · exact lt_tr (asc_at HA.out (by omega) hy hge) e
      have HGT : Hid (0 < cmpV n es[h] x → ∀ (k : Nat) (y : AV n), es[k]? = some y → (k < i → cmpV n y x < 0) ∧ (h ≤ k → 0 < cmpV n y x)) := fun e k y hy => by
        refine ⟨(HL.out k y hy).1, fun hk => ?_⟩
        by_cases q : k = h
        · subst q
          rw [hge] at hy
          rw [← Option.some.inj hy]; exact e
        · have a1 := (ord n).anti es[h] x
          have a2 := (ord n).anti y x
          have := lt_tr (show cmpV n x es[h] < 0 by omega) (asc_at HA.out (show h < k by omega) hge hy)
          omega
      clear hc1 hv1 hr1 r1 g0 g1 g2 g3 g4
      have hh1 : i ≤ h := by omega
      have hh2 : h < j := by omega
      have HH : Hid (h = (i + j) / 2) := hh
      clear hh
      generalize cmpV n es[h] x = cv at HCALL HZ HLT HGT
      go_wp2_with fail
      go_quiet_grown (first | (go_at_call 18; refine Calls.grown_of (HCALL.out _ (HG.out.grown _ _))))
      have G1 : Hid (Grew w (grow (wr.drewN nq) osq)) := HG.out.grown _ _
      have B1 : Hid ((grow (wr.drewN nq) osq).heap[w.heap.size]? = _) := Below.blockAt (Grew.below ⟨nq, osq, rfl⟩) HB.out
      show Exit.then _ _ _ _ (grow (wr.drewN nq) osq)
      clear i0 i1 i2 i3 i4 j0 j1 j2 j3 j4 HCALL HG HB
      generalize grow (wr.drewN nq) osq = W1 at G1 B1 ⊢
      clear nq osq ea pa ba ra
      have hr : ((i : Int) + (j : Int)) / 2 = (h : Int) := by have := HH.out; omega
      by_cases h0 : cv = 0
      · subst h0
        go_wp2_with fail
        go_ret2
        exact ⟨h, true, rfl, G1.out, ⟨by omega, fun _ => HZ.out trivial, fun e => (by cases e)⟩⟩
      · have hb : (cv == 0) = false := by simp [h0]
        by_cases hc : cv < 0
        · have hcb : decide (cv < 0) = true := by simp [hc]
          go_wp2_with fail
          go_roundw
          case rel => exact ⟨h + 1, j, by go_num, rfl, by omega, by omega, HLT.out hc, G1, B1⟩
          case measure => simp [intOf]; omega
        · have hcb : decide (cv < 0) = false := by simp [hc]
          go_wp2_with fail
          go_roundw
          case rel => exact ⟨i, h, rfl, by rw [hr], by omega, by omega, HGT.out (by omega), G1, B1⟩
          case measure => simp [intOf]; omega
    · obtain rfl : i = j := by omega
      clear r1
      go_wp2_with fail
      go_ret2
      exact ⟨i, false, rfl, HG.out, by rw [← E1.out]; omega, fun e => (by cases e), fun _ => HL.out⟩
end Go.Proofs.YtbogejmmkohbkaaGreatDoor.Sx
