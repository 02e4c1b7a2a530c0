/- The reference: values in memory; their order. -/
import Derived.Test.YtbogejmmkohbkaaGreatDoorGRA
namespace Go.Proofs.YtbogejmmkohbkaaGreatDoor.Sx
open Go.RowKit Go.Sort

section
variable {α : Type} (P : Nat → Prop) (w : World) (R : α → Value → Prop)

/-- five cells -/
def Five (b o : Nat) (v : Value) : Prop :=
  ∃ c0 c1 c2 c3 c4, v = .agg #[c0, c1, c2, c3, c4] ∧ w.cell? ⟨b, o, none⟩ = some c0 ∧ w.cell? ⟨b, o + 1, none⟩ = some c1 ∧ w.cell? ⟨b, o + 2, none⟩ = some c2 ∧ w.cell? ⟨b, o + 3, none⟩ = some c3 ∧ w.cell? ⟨b, o + 4, none⟩ = some c4
/-- a row of the reference's values -/
def Row5 (a : Option Addr) (len : Nat) (es : List α) : Prop :=
  len = es.length ∧ len ≤ 4294967296 ∧ (len = 0 ∨ ∃ b off, a = some ⟨b, off, none⟩ ∧ b < w.heap.size ∧ P b ∧ ∀ i x, es[i]? = some x → ∃ v, Five w b (off + i * 5) v ∧ R x v)
def RefN (a : Node α) (v : Value) : Prop :=
  ∃ (s : ByteArray) (ka : Option Addr) (kl kc : Nat) (va : Option Addr) (vl vc : Nat), v = .agg #[.int .i64 a.kind, .int .i64 a.int, .string s, .slice ka kl kc, .slice va vl vc] ∧ s.data.toList = a.text ∧ Row5 P w R ka kl a.keys ∧ Row5 P w R va vl a.vals
end
def Ref (P : Nat → Prop) (w : World) : (n : Nat) → AV n → Value → Prop
  | 0, _, _ => False
  | n + 1, a, v => RefN P w (Ref P w n) a v

section
variable {α : Type} {P Q : Nat → Prop} {w w' : World} {R R' : α → Value → Prop}
theorem Five.fr {b o : Nat} {v : Value} (hb : w'.heap[b]? = w.heap[b]?) (h : Five w b o v) : Five w' b o v := by
  obtain ⟨c0, c1, c2, c3, c4, e, h0, h1, h2, h3, h4⟩ := h
  have key : ∀ i, w'.cell? ⟨b, i, none⟩ = w.cell? ⟨b, i, none⟩ := fun i => World.cell?_of_block (w := w) hb
  exact ⟨c0, c1, c2, c3, c4, e, (key _).trans h0, (key _).trans h1, (key _).trans h2, (key _).trans h3, (key _).trans h4⟩
theorem Row5.fr (hf : Fr P w w') (hR : ∀ x v, R x v → R' x v) (hQ : ∀ k, k < w.heap.size → P k → Q k) {a : Option Addr} {len : Nat} {es : List α} (h : Row5 P w R a len es) : Row5 Q w' R' a len es := by
  refine ⟨h.1, h.2.1, ?_⟩
  rcases h.2.2 with h0 | ⟨b, off, rfl, hlt, hP, hc⟩
  · exact .inl h0
  · refine .inr ⟨b, off, rfl, Nat.lt_of_lt_of_le hlt hf.size, hQ b hlt hP, fun i x hx => ?_⟩
    obtain ⟨v, h1, h2⟩ := hc i x hx
    exact ⟨v, h1.fr (hf.block b hlt hP), hR x v h2⟩
theorem RefN.fr (hf : Fr P w w') (hR : ∀ x v, R x v → R' x v) (hQ : ∀ k, k < w.heap.size → P k → Q k) {a : Node α} {v : Value} (h : RefN P w R a v) : RefN Q w' R' a v := by
  obtain ⟨s, ka, kl, kc, va, vl, vc, e, ht, h1, h2⟩ := h
  exact ⟨s, ka, kl, kc, va, vl, vc, e, ht, h1.fr hf hR hQ, h2.fr hf hR hQ⟩
end
theorem Ref.fr {P Q : Nat → Prop} {w w' : World} (hf : Fr P w w') (hQ : ∀ k, k < w.heap.size → P k → Q k) : ∀ (n : Nat) (a : AV n) (v : Value), Ref P w n a v → Ref Q w' n a v
  | 0, _, _, h => h
  | n + 1, _, _, h => RefN.fr hf (Ref.fr hf hQ n) hQ h
theorem Ref.keep {P : Nat → Prop} {w w' : World} (hf : Fr P w w') {n : Nat} {a : AV n} {v : Value} (h : Ref P w n a v) : Ref P w' n a v := h.fr hf (fun _ _ h => h) n a v
theorem Row5.keep {P : Nat → Prop} {w w' : World} (hf : Fr P w w') {n : Nat} {a : Option Addr} {len : Nat} {es : List (AV n)} (h : Row5 P w (Ref P w n) a len es) : Row5 P w' (Ref P w' n) a len es :=
  h.fr hf (fun x v => Ref.fr hf (fun _ _ h => h) n x v) (fun _ _ h => h)
theorem Ref.grew {P : Nat → Prop} {w w' : World} (h : Grew w w') {n : Nat} {a : AV n} {v : Value} (r : Ref P w n a v) : Ref P w' n a v := r.keep (Fr.grew h)
theorem Row5.grew {P : Nat → Prop} {w w' : World} (hf : Grew w w') {n : Nat} {a : Option Addr} {len : Nat} {es : List (AV n)} (h : Row5 P w (Ref P w n) a len es) : Row5 P w' (Ref P w' n) a len es := h.keep (Fr.grew hf)

def CmpR (n : Nat) : Prop := ∀ (P : Nat → Prop) (w : World) (a b : AV n) (va vb : Value), Ref P w n a va → Ref P w n b vb →
  Calls Tryz.prog 18 #[va, vb] w fun e w' => e = .returned (.int .i64 (cmpV n a b)) ∧ Grew w w'

theorem bytesLess_eq : ∀ (a b : List UInt8), Op.bytesLess a b = decide (Lib.compareBytes a b = -1)
  | [], [] => by simp [Op.bytesLess, Lib.compareBytes]
  | [], _ :: _ => by simp [Op.bytesLess, Lib.compareBytes]
  | _ :: _, [] => by simp [Op.bytesLess, Lib.compareBytes]
  | x :: a, y :: b => by
    simp only [Op.bytesLess, Lib.compareBytes, bytesLess_eq a b, UInt8.lt_iff_toNat_lt]
    have hxy : x = y ↔ x.toNat = y.toNat := UInt8.toNat_inj.symm
    by_cases h1 : x.toNat < y.toNat
    · simp [h1]
    · by_cases h2 : y.toNat < x.toNat
      · have : x ≠ y := fun h => by rw [hxy] at h; omega
        simp [h1, h2, this]
      · have : x = y := hxy.2 (by omega)
        simp [this]

set_option maxRecDepth 100000 in
theorem texts_any (a b : ByteArray) (w : World) : Calls Tryz.prog 40 #[.string a, .string b] w fun e w' => e = .returned (.int .i64 (Lib.compareBytes a.data.toList b.data.toList)) ∧ w' = w := by
  have E1 : Hid (Op.bytesLess a.toList b.toList = decide (Lib.compareBytes a.data.toList b.data.toList = -1)) := by
    show _ = _
    rw [bytesLess_eq, ByteArray.toList_eq, ByteArray.toList_eq]
  have E2 : Hid ((a.toList == b.toList) = true ↔ Lib.compareBytes a.data.toList b.data.toList = 0) := by
    show _ ↔ _
    rw [cby_eq, ByteArray.toList_eq, ByteArray.toList_eq, beq_iff_eq]
  have E3 : Hid _ := ord_bytes.rng a.data.toList b.data.toList
  generalize Lib.compareBytes a.data.toList b.data.toList = d at E1 E2 E3 ⊢
  go_enter Tryz.func40, Tryz.ntmps40
  go_wp2_with fail
  · rename_i h
    have q : d = -1 := by rw [E1.out] at h; simpa using h
    go_ret
    exact ⟨by rw [q]; rfl, rfl⟩
  · rename_i h1 _ _ h2
    have q : d = 1 := by
      rw [E1.out] at h1
      have h0 : ¬ d = 0 := fun h => by rw [E2.out.2 h] at h2; simp at h2
      have := E3.out
      simp at h1
      omega
    go_ret
    exact ⟨by rw [q]; rfl, rfl⟩
  · rename_i h1 h2
    have q : d = 0 := by
      refine E2.out.1 ?_
      simpa using h2
    go_ret
    exact ⟨by rw [q]; rfl, rfl⟩

theorem cell_five {w wr : World} (hg : Grew w wr) {p o : Nat} {v : Value} (hp : p < w.heap.size) (h : Five w p o v) : Five wr p o v := h.fr (hg.below.block p hp)

set_option maxRecDepth 100000 in
set_option maxHeartbeats 1000000 in
theorem lists_any (n : Nat) (hC : CmpR n) (P : Nat → Prop) (w : World) (a1 a2 : Option Addr) (l1 l2 c1 c2 : Nat) (es fs : List (AV n)) (h1 : Row5 P w (Ref P w n) a1 l1 es) (h2 : Row5 P w (Ref P w n) a2 l2 fs) :
    Calls Tryz.prog 41 #[.slice a1 l1 c1, .slice a2 l2 c2] w fun e w' => e = .returned (.int .i64 (cmpS (cmpV n) es fs)) ∧ Grew w w' := by
  obtain ⟨e1, b1, r1⟩ := h1
  obtain ⟨e2, b2, r2⟩ := h2
  have E1 : Hid (l1 = es.length) := e1
  have E2 : Hid (l2 = fs.length) := e2
  clear e1 e2
  have HC : Hid (CmpR n) := hC
  clear hC
  have ES : Hid (cmpS (cmpV n) es fs = then2 (Lib.compareInt l1 l2) (cmpL (cmpV n) es fs)) := by rw [E1.out, E2.out]; rfl
  by_cases hll : l1 < l2
  · have HF : Hid (cmpS (cmpV n) es fs = -1) := by
      show _ = _
      rw [ES.out]
      have : Lib.compareInt l1 l2 = -1 := by unfold Lib.compareInt; rw [if_pos (by omega)]
      rw [this]; rfl
    clear r1 r2
    go_enter Tryz.func41, Tryz.ntmps41
    go_wp2_with fail
    go_ret
    exact ⟨by rw [HF.out]; rfl, Grew.refl w⟩
  by_cases hgg : l2 < l1
  · have HF : Hid (cmpS (cmpV n) es fs = 1) := by
      show _ = _
      rw [ES.out]
      have : Lib.compareInt l1 l2 = 1 := by unfold Lib.compareInt; rw [if_neg (by omega), if_pos (by omega)]
      rw [this]; rfl
    clear r1 r2
    go_enter Tryz.func41, Tryz.ntmps41
    go_wp2_with fail
    go_ret
    exact ⟨by rw [HF.out]; rfl, Grew.refl w⟩
  have hEq : l1 = l2 := by omega
  subst hEq
  have ES2 : Hid (cmpS (cmpV n) es fs = cmpL (cmpV n) es fs) := by
    show _ = _
    rw [ES.out, (cint_eq _ _).2 rfl, then2_zero]
  clear ES hll hgg
  go_enter Tryz.func41, Tryz.ntmps41
  go_wp2_with fail
  go_loopw [5] (fun i wr => ∃ k : Nat, k ≤ l1 ∧ i = .int .i64 k ∧ Hid (Grew w wr) ∧ Hid (cmpL (cmpV n) es fs = cmpL (cmpV n) (es.drop k) (fs.drop k))) (fun i _ => l1 - (intOf i).toNat)
  case atStart => exact ⟨0, Nat.zero_le _, rfl, Grew.refl w, by simp [Hid]⟩
  case round =>
    obtain ⟨k, hk1, rfl, HG, HE⟩ := hrel
    by_cases hlt : k < l1
    · have hx : k < es.length := by rw [← E1.out]; exact hlt
      have hy : k < fs.length := by rw [← E2.out]; exact hlt
      obtain ⟨p1, o1, rfl, hp1, _, hc1⟩ := r1.resolve_left (by omega)
      obtain ⟨v1, hv1, hr1⟩ := hc1 k es[k] (List.getElem?_eq_getElem hx)
      obtain ⟨p2, o2, rfl, hp2, _, hc2⟩ := r2.resolve_left (by omega)
      obtain ⟨v2, hv2, hr2⟩ := hc2 k fs[k] (List.getElem?_eq_getElem hy)
      obtain ⟨x0, x1, x2, x3, x4, rfl, g0, g1, g2, g3, g4⟩ := cell_five HG.out hp1 hv1
      obtain ⟨y0, y1, y2, y3, y4, rfl, f0, f1, f2, f3, f4⟩ := cell_five HG.out hp2 hv2
      have s1 : p1 < wr.heap.size := Nat.lt_of_lt_of_le hp1 HG.out.below.size
      have s2 : p2 < wr.heap.size := Nat.lt_of_lt_of_le hp2 HG.out.below.size
      have HS := cmpL_step (c := cmpV n) (List.getElem?_eq_getElem hx) (List.getElem?_eq_getElem hy)
      have HS : Hid (_ = _) := HS
      have HCALL : Hid (∀ (W : World) (hW : Grew w W), _) := fun (W : World) (hW : Grew w W) => HC.out P W es[k] fs[k] _ _ (hr1.grew hW) (hr2.grew hW)
      clear hc1 hc2 hv1 hv2 hr1 hr2 r1 r2
      generalize cmpV n es[k] fs[k] = cv at HCALL HS
      have mo := follows
      have i0 := cell_grown (w := wr) (a := ⟨p1, o1 + k * 5, none⟩) s1 g0
      have i1 := cell_grown (w := wr) (a := ⟨p1, o1 + k * 5 + 1, none⟩) s1 g1
      have i2 := cell_grown (w := wr) (a := ⟨p1, o1 + k * 5 + 2, none⟩) s1 g2
      have i3 := cell_grown (w := wr) (a := ⟨p1, o1 + k * 5 + 3, none⟩) s1 g3
      have i4 := cell_grown (w := wr) (a := ⟨p1, o1 + k * 5 + 4, none⟩) s1 g4
      have j0 := cell_grown (w := wr) (a := ⟨p2, o2 + k * 5, none⟩) s2 f0
      have j1 := cell_grown (w := wr) (a := ⟨p2, o2 + k * 5 + 1, none⟩) s2 f1
      have j2 := cell_grown (w := wr) (a := ⟨p2, o2 + k * 5 + 2, none⟩) s2 f2
      have j3 := cell_grown (w := wr) (a := ⟨p2, o2 + k * 5 + 3, none⟩) s2 f3
      have j4 := cell_grown (w := wr) (a := ⟨p2, o2 + k * 5 + 4, none⟩) s2 f4
      clear g0 g1 g2 g3 g4 f0 f1 f2 f3 f4
      go_wp2_with fail
      go_quiet_grown (first | (go_at_call 18; refine Calls.grown_of (HCALL.out _ (HG.out.grown _ _))))
      have G1 : Hid (Grew w (grow (wr.drewN nq) osq)) := HG.out.grown _ _
      show Exit.then _ _ _ _ (grow (wr.drewN nq) osq)
      clear i0 i1 i2 i3 i4 j0 j1 j2 j3 j4 HCALL HG
      generalize grow (wr.drewN nq) osq = W1 at G1 ⊢
      clear nq osq
      by_cases h0 : cv = 0
      · subst h0
        go_wp2_with fail
        go_roundw
        case rel => exact ⟨k + 1, by omega, by go_num, G1, by show Hid (_ = _); rw [HE.out, HS.out]; rfl⟩
        case measure => simp [intOf]; omega
      · have hb : (cv == 0) = false := by simp [h0]
        have HF : Hid (cmpS (cmpV n) es fs = cv) := by show _ = _; rw [ES2.out, HE.out, HS.out]; simp [then2, h0]
        go_wp2_with fail
        go_ret
        exact ⟨by rw [HF.out]; rfl, G1.out⟩
    · have HF : Hid (cmpS (cmpV n) es fs = 0) := by
        show _ = _
        rw [ES2.out, HE.out, List.drop_of_length_le (l := es) (by rw [← E1.out]; omega), List.drop_of_length_le (l := fs) (by rw [← E2.out]; omega)]; rfl
      clear r1 r2
      go_wp2_with fail
      go_ret
      exact ⟨by rw [HF.out]; rfl, HG.out⟩

set_option maxRecDepth 100000 in
set_option maxHeartbeats 2000000 in
theorem rcompare_walk (w : World) (k1 k2 : Nat) (i1 i2 : Int) (s1 s2 : ByteArray) (K1 U1 K2 U2 : Value) (d1 d2 d3 : Int)
    (h1 : ∀ W : World, Calls Tryz.prog 40 #[.string s1, .string s2] W fun e w' => e = .returned (.int .i64 d1) ∧ w' = W)
    (h2 : ∀ W : World, Grew w W → Calls Tryz.prog 41 #[K1, K2] W fun e w' => e = .returned (.int .i64 d2) ∧ Grew W w')
    (h3 : ∀ W : World, Grew w W → Calls Tryz.prog 41 #[U1, U2] W fun e w' => e = .returned (.int .i64 d3) ∧ Grew W w') :
    Calls Tryz.prog 18 #[.agg #[.int .i64 k1, .int .i64 i1, .string s1, K1, U1], .agg #[.int .i64 k2, .int .i64 i2, .string s2, K2, U2]] w fun e w' =>
      e = .returned (.int .i64 (then2 (Lib.compareInt k1 k2) (then2 (Lib.compareInt i1 i2) (then2 d1 (then2 d2 d3))))) ∧ Grew w w' := by
  have H1 : Hid (∀ W : World, _) := h1
  have H2 : Hid (∀ W : World, Grew w W → _) := h2
  have H3 : Hid (∀ W : World, Grew w W → _) := h3
  clear h1 h2 h3
  obtain ⟨r, hr⟩ : ∃ r, then2 (Lib.compareInt k1 k2) (then2 (Lib.compareInt i1 i2) (then2 d1 (then2 d2 d3))) = r := ⟨_, rfl⟩
  rw [hr]
  have G0 : Hid (Grew w ((w.alloc (.cells #[.int .i64 k1, .int .i64 i1, .string s1, K1, U1] 30)).alloc (.cells #[.int .i64 k2, .int .i64 i2, .string s2, K2, U2] 30))) := ((Grew.refl w).alloc _).alloc _
  by_cases hk : k1 < k2
  · have HF : Hid (r = -1) := by
      show _ = _
      rw [← hr, show Lib.compareInt k1 k2 = -1 from by unfold Lib.compareInt; rw [if_pos (by omega)]]; rfl
    clear hr
    go_enter Tryz.func18, Tryz.ntmps18
    go_wp2_with fail
    go_ret
    exact ⟨by rw [HF.out]; rfl, G0.out⟩
  by_cases hk2 : k2 < k1
  · have HF : Hid (r = 1) := by
      show _ = _
      rw [← hr, show Lib.compareInt k1 k2 = 1 from by unfold Lib.compareInt; rw [if_neg (by omega), if_pos (by omega)]]; rfl
    clear hr
    go_enter Tryz.func18, Tryz.ntmps18
    go_wp2_with fail
    go_ret
    exact ⟨by rw [HF.out]; rfl, G0.out⟩
  have ek : k1 = k2 := by omega
  subst ek
  rw [show Lib.compareInt (k1 : Int) k1 = 0 from (cint_eq _ _).2 rfl, then2_zero] at hr
  by_cases hi : i1 < i2
  · have HF : Hid (r = -1) := by
      show _ = _
      rw [← hr, show Lib.compareInt i1 i2 = -1 from by unfold Lib.compareInt; rw [if_pos (by omega)]]; rfl
    clear hr
    go_enter Tryz.func18, Tryz.ntmps18
    go_wp2_with fail
    go_ret
    exact ⟨by rw [HF.out]; rfl, G0.out⟩
  by_cases hi2 : i2 < i1
  · have HF : Hid (r = 1) := by
      show _ = _
      rw [← hr, show Lib.compareInt i1 i2 = 1 from by unfold Lib.compareInt; rw [if_neg (by omega), if_pos (by omega)]]; rfl
    clear hr
    go_enter Tryz.func18, Tryz.ntmps18
    go_wp2_with fail
    go_ret
    exact ⟨by rw [HF.out]; rfl, G0.out⟩
  have ei : i1 = i2 := by omega
  subst ei
  rw [show Lib.compareInt i1 i1 = 0 from (cint_eq _ _).2 rfl, then2_zero] at hr
  have HR : Hid (then2 d1 (then2 d2 d3) = r) := hr
  clear hr hk hk2 hi hi2
  have x1 : Hid (((w.alloc (.cells #[.int .i64 k1, .int .i64 i1, .string s1, K1, U1] 30)).alloc (.cells #[.int .i64 k1, .int .i64 i1, .string s2, K2, U2] 30)).heap[w.heap.size]? = some (.cells #[.int .i64 k1, .int .i64 i1, .string s1, K1, U1] 30 (0, 0))) :=
    Below.blockAt ((Grew.refl _).alloc _).below (heap_new rfl)
  have x2 : Hid (((w.alloc (.cells #[.int .i64 k1, .int .i64 i1, .string s1, K1, U1] 30)).alloc (.cells #[.int .i64 k1, .int .i64 i1, .string s2, K2, U2] 30)).heap[w.heap.size + 1]? = some (.cells #[.int .i64 k1, .int .i64 i1, .string s2, K2, U2] 30 (0, 0))) :=
    heap_new (by simp)
  have mo := follows
  go_enter Tryz.func18, Tryz.ntmps18
  go_wp2_with fail
  generalize (w.alloc (.cells #[.int .i64 k1, .int .i64 i1, .string s1, K1, U1] 30)).alloc (.cells #[.int .i64 k1, .int .i64 i1, .string s2, K2, U2] 30) = W0 at G0 x1 x2 ⊢
  refine (H1.out W0).mono ?_
  rintro e w' ⟨rfl, rfl⟩
  have a3 := block_cell x1.out 3
  have a4 := block_cell x1.out 4
  have b3 := block_cell x2.out 3
  have b4 := block_cell x2.out 4
  have z1 := block_lt x1.out
  have z2 := block_lt x2.out
  by_cases e1 : d1 = 0
  · subst e1
    have HR2 : Hid (then2 d2 d3 = r) := by have := HR.out; rw [then2_zero] at this; exact this
    clear HR H1
    go_wp2_with fail
    refine (H2.out w' G0.out).mono ?_
    rintro e w2 ⟨rfl, hg⟩
    have G2 : Hid (Grew w w2) := G0.out.trans hg
    have y1 : Hid (_ = _) := Below.blockAt hg.below x1.out
    have y2 : Hid (_ = _) := Below.blockAt hg.below x2.out
    clear hg x1 x2 a3 a4 b3 b4 z1 z2 G0 H2
    have a4 := block_cell y1.out 4
    have b4 := block_cell y2.out 4
    have z1 := block_lt y1.out
    have z2 := block_lt y2.out
    by_cases e2 : d2 = 0
    · subst e2
      have HR3 : Hid (d3 = r) := by have := HR2.out; rw [then2_zero] at this; exact this
      clear HR2
      go_wp2_with fail
      refine (H3.out w2 G2.out).mono ?_
      rintro e w3 ⟨rfl, hg⟩
      have G3 : Hid (Grew w w3) := G2.out.trans hg
      clear hg y1 y2 a4 b4 z1 z2 G2 H3
      go_wp2_with fail
      go_ret
      exact ⟨by rw [← HR3.out]; rfl, G3.out⟩
    · have hb : (d2 == 0) = false := by simp [e2]
      have HR3 : Hid (d2 = r) := by show d2 = r; have := HR2.out; simpa [then2, e2] using this
      go_wp2_with fail
      go_ret
      exact ⟨by rw [← HR3.out]; rfl, G2.out⟩
  · have hb : (d1 == 0) = false := by simp [e1]
    have HR3 : Hid (d1 = r) := by show d1 = r; have := HR.out; simpa [then2, e1] using this
    go_wp2_with fail
    go_ret
    exact ⟨by rw [← HR3.out]; rfl, G0.out⟩

theorem rcompare_step (n : Nat) (hC : CmpR n) : CmpR (n + 1) := by
  intro P w a b va vb ha hb
  obtain ⟨s1, ka, kl, kc, ua, ul, uc, rfl, t1, r1, q1⟩ := ha
  obtain ⟨s2, ka', kl', kc', ua', ul', uc', rfl, t2, r2, q2⟩ := hb
  have e : cmpV (n + 1) a b = then2 (Lib.compareInt a.kind b.kind) (then2 (Lib.compareInt a.int b.int) (then2 (Lib.compareBytes s1.data.toList s2.data.toList) (then2 (cmpS (cmpV n) a.keys b.keys) (cmpS (cmpV n) a.vals b.vals)))) := by
    rw [t1, t2]; rfl
  rw [e]
  exact rcompare_walk w _ _ _ _ s1 s2 _ _ _ _ _ _ _ (fun W => texts_any s1 s2 W) (fun W hW => lists_any n hC P W ka ka' kl kl' kc kc' a.keys b.keys (r1.grew hW) (r2.grew hW)) (fun W hW => lists_any n hC P W ua ua' ul ul' uc uc' a.vals b.vals (q1.grew hW) (q2.grew hW))
theorem rcompare_any : ∀ n, CmpR n
  | 0 => fun _ _ a => Empty.elim a
  | n + 1 => rcompare_step n (rcompare_any n)
end Go.Proofs.YtbogejmmkohbkaaGreatDoor.Sx
