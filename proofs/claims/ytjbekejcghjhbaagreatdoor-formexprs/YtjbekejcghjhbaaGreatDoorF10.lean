/- How tightly a sign between two parts holds. -/
import Derived.Test.YtjbekejcghjhbaaGreatDoorF09
import Derived.Test.YtjbekejcghjhbaaGreatDoorF06
namespace Go.Proofs.YtjbekejcghjhbaaGreatDoor.Sx
open Go.RowKit Go.Sort

set_option maxRecDepth 100000 in
set_option maxHeartbeats 8000000 in
theorem fjoining_some (s : ByteArray) (w : World) (h : s.data.toList ∈ joins.map Prod.fst) : Calls Tryz.prog 151 #[.string s] w fun e w' => e = .returned (gripV (levelF s.data.toList)) ∧ Grew w w' := by
  have mo := follows
  have HP : Hid (∀ (n : Int) (W : World), _) := fapart_any
  have HL : Hid (∀ (n : Int) (W : World), _) := ffromLeft_any
  have HR : Hid (∀ (n : Int) (W : World), _) := ffromRight_any
  simp only [joins, List.map_cons, List.map_nil, List.mem_cons, List.not_mem_nil, or_false] at h
  obtain ⟨v, hv⟩ : ∃ v, gripV (levelF s.data.toList) = v := ⟨_, rfl⟩
  rw [hv]
  have hs : s = ⟨⟨s.data.toList⟩⟩ := by cases s; rfl
  generalize s.data.toList = l at h hs hv
  subst hs
  rcases h with rfl | rfl | rfl | rfl | rfl | rfl | rfl | rfl | rfl | rfl | rfl | rfl | rfl | rfl | rfl | rfl | rfl | rfl | rfl | rfl | rfl | rfl | rfl | rfl | rfl
  all_goals
    have HV : Hid (_ = v) := hv
    clear hv
    go_enter Tryz.func151, Tryz.ntmps151
    go_wp2_with (first
      | (go_at_call 249; refine (HP.out _ _ (by decide)).mono ?_; rintro e w' ⟨rfl, hg⟩; have BX : Hid (w'.heap[w.heap.size]? = some _) := box3_end rfl hg; have G : Hid (Grew w w') := ((Grew.refl w).alloc _).trans hg; obtain ⟨y0, y1, y2⟩ := cells3 BX.out; obtain ⟨z0, z1, z2⟩ := frozens3 BX.out; clear hg)
      | (go_at_call 250; refine (HL.out _ _ (by decide)).mono ?_; rintro e w' ⟨rfl, hg⟩; have BX : Hid (w'.heap[w.heap.size]? = some _) := box3_end rfl hg; have G : Hid (Grew w w') := ((Grew.refl w).alloc _).trans hg; obtain ⟨y0, y1, y2⟩ := cells3 BX.out; obtain ⟨z0, z1, z2⟩ := frozens3 BX.out; clear hg)
      | (go_at_call 251; refine (HR.out _ _ (by decide)).mono ?_; rintro e w' ⟨rfl, hg⟩; have BX : Hid (w'.heap[w.heap.size]? = some _) := box3_end rfl hg; have G : Hid (Grew w w') := ((Grew.refl w).alloc _).trans hg; obtain ⟨y0, y1, y2⟩ := cells3 BX.out; obtain ⟨z0, z1, z2⟩ := frozens3 BX.out; clear hg))
    have e0 := fun x y z => block_cell (set_block (set_block (set_block BX.out 0 x) 1 y) 2 z) 0
    have e1 := fun x y z => block_cell (set_block (set_block (set_block BX.out 0 x) 1 y) 2 z) 1
    have e2 := fun x y z => block_cell (set_block (set_block (set_block BX.out 0 x) 1 y) 2 z) 2
    simp at e0 e1 e2
    refine bodyPost_ret (v := v) (by simp [results, Tryz.results151, go_sem, e0, e1, e2]; exact HV.out) rfl ⟨rfl, ?_⟩
    exact ((G.out.setNew (Nat.le_refl _) _).setNew (Nat.le_refl _) _).setNew (Nat.le_refl _) _

set_option maxRecDepth 100000 in
set_option maxHeartbeats 8000000 in
theorem fjoining_none (s : ByteArray) (w : World) (h : s.data.toList ∉ joins.map Prod.fst) : Calls Tryz.prog 151 #[.string s] w fun e w' => e = .returned (.agg #[.int .i64 (-1), .int .i64 0, .int .i64 0]) ∧ Grew w w' := by
  have mo := follows
  simp only [joins, List.map_cons, List.map_nil, List.mem_cons, List.not_mem_nil, or_false, not_or] at h
  have hs : s.toList = s.data.toList := by rw [ByteArray.toList_eq]
  rw [← hs] at h
  obtain ⟨h1, h2, h3, h4, h5, h6, h7, h8, h9, h10, h11, h12, h13, h14, h15, h16, h17, h18, h19, h20, h21, h22, h23, h24, h25⟩ := h
  replace h1 := beq_eq_false_iff_ne.2 h1
  replace h2 := beq_eq_false_iff_ne.2 h2
  replace h3 := beq_eq_false_iff_ne.2 h3
  replace h4 := beq_eq_false_iff_ne.2 h4
  replace h5 := beq_eq_false_iff_ne.2 h5
  replace h6 := beq_eq_false_iff_ne.2 h6
  replace h7 := beq_eq_false_iff_ne.2 h7
  replace h8 := beq_eq_false_iff_ne.2 h8
  replace h9 := beq_eq_false_iff_ne.2 h9
  replace h10 := beq_eq_false_iff_ne.2 h10
  replace h11 := beq_eq_false_iff_ne.2 h11
  replace h12 := beq_eq_false_iff_ne.2 h12
  replace h13 := beq_eq_false_iff_ne.2 h13
  replace h14 := beq_eq_false_iff_ne.2 h14
  replace h15 := beq_eq_false_iff_ne.2 h15
  replace h16 := beq_eq_false_iff_ne.2 h16
  replace h17 := beq_eq_false_iff_ne.2 h17
  replace h18 := beq_eq_false_iff_ne.2 h18
  replace h19 := beq_eq_false_iff_ne.2 h19
  replace h20 := beq_eq_false_iff_ne.2 h20
  replace h21 := beq_eq_false_iff_ne.2 h21
  replace h22 := beq_eq_false_iff_ne.2 h22
  replace h23 := beq_eq_false_iff_ne.2 h23
  replace h24 := beq_eq_false_iff_ne.2 h24
  replace h25 := beq_eq_false_iff_ne.2 h25
  clear hs
  go_enter Tryz.func151, Tryz.ntmps151
  go_wp2_with fail
  refine bodyPost_ret (v := .agg #[.int .i64 (-1), .int .i64 0, .int .i64 0]) (by simp [results, Tryz.results151, go_sem]) rfl ⟨rfl, (Grew.refl w).alloc _⟩

theorem lookup_none {p : List UInt8} : ∀ (l : List (List UInt8 × Nat)), p ∉ l.map Prod.fst → l.lookup p = none
  | [], _ => rfl
  | (a, b) :: l, h => by
    simp only [List.map_cons, List.mem_cons, not_or] at h
    have e : (p == a) = false := by simpa using h.1
    rw [List.lookup_cons, e]
    exact lookup_none l h.2
theorem fjoining_any (s : ByteArray) (w : World) : Calls Tryz.prog 151 #[.string s] w fun e w' => e = .returned (gripV (levelF s.data.toList)) ∧ Grew w w' := by
  by_cases h : s.data.toList ∈ joins.map Prod.fst
  · exact fjoining_some s w h
  · have e : levelF s.data.toList = 0 := by unfold levelF; rw [lookup_none _ h]; rfl
    rw [e]
    exact fjoining_none s w h
end Go.Proofs.YtjbekejcghjhbaaGreatDoor.Sx

namespace Go.Proofs.YtjbekejcghjhbaaGreatDoor.Sx
open Go.RowKit Go.Sort

def oSet : List UInt8 := [115, 101, 116]
def oSeq : List UInt8 := [115, 101, 113]
def oFun : List UInt8 := [102, 117, 110]
def oAt : List UInt8 := [97, 116]
def oPut : List UInt8 := [112, 117, 116]
def oNeg : List UInt8 := [110, 101, 103]
def binds4 : List (List UInt8) := [[97, 108, 108], [115, 111, 109, 101], [99, 104, 111, 111, 115, 101], [102, 117, 110]]
def aheads6 : List (List UInt8) := [[110, 111, 116], [97, 108, 119, 97, 121, 115], [101, 118, 101, 110, 116, 117, 97, 108, 108, 121]]
def aheads12 : List (List UInt8) := [[100, 111, 109, 97, 105, 110], [112, 111, 119, 101, 114, 115, 101, 116], [102, 108, 97, 116, 116, 101, 110]]
/-- what an operator of parts comes to -/
def OpMeans (op : List UInt8) (kids : List PX) (x : PX) : Prop :=
  (op ∈ joins.map Prod.fst ∧ ∃ a b, kids = [a, b] ∧ x = dBin op a b) ∨ (op = oSet ∧ x = dSet kids) ∨ (op = oSeq ∧ x = dSeq kids) ∨ (op = oFun ∧ x = dFun kids) ∨
  (op = oAt ∧ ∃ f k, kids = [f, k] ∧ x = dAt f k) ∨ (op = oPut ∧ ∃ f k v, kids = [f, k, v] ∧ x = dPut f k v) ∨ (op = oNeg ∧ ∃ a, kids = [a] ∧ x = dAhead 12 wNeg a) ∨
  (op ∈ aheads6 ∧ ∃ a, kids = [a] ∧ x = dAhead 6 op a) ∨ (op ∈ aheads12 ∧ ∃ a, kids = [a] ∧ x = dAhead 12 op a) ∨ (op ∈ called7 ∧ x = dCall op kids)
/-- what a node comes to -/
def Means (sort : Nat) (op nm : List UInt8) (n : Int) (kids : List PX) (x : PX) : Prop :=
  (sort = 0 ∧ -9223372036854775808 ≤ n ∧ n ≤ 9223372036854775807 ∧ x = dLeaf (Lib.itoa n)) ∨ (sort = 1 ∧ x = dTxt nm) ∨ (sort = 2 ∧ x = dLeaf op) ∨ (sort = 3 ∧ x = dLeaf nm) ∨ (sort = 4 ∧ x = dLeaf (nm ++ [39])) ∨
  (sort = 5 ∧ x = dCall nm kids) ∨ (sort = 6 ∧ x = dOfName 12 wUnchanged nm) ∨ (sort = 7 ∧ x = dOfName 6 wEnabled nm) ∨ (sort = 8 ∧ ∃ a b c, kids = [a, b, c] ∧ x = dIf a b c) ∨
  (sort = 9 ∧ ∃ a b, kids = [a, b] ∧ x = dLet nm a b) ∨ (sort = 10 ∧ (op ∈ binds4 ∨ op ∈ binds2) ∧ ∃ a b, kids = [a, b] ∧ x = dBind op nm a b) ∨ ((sort = 11 ∨ sort = 12) ∧ OpMeans op kids x)

section
variable (P : Nat → Prop) (w : World)
/-- a node in memory, its parts by R -/
def NodeE (R : PX → Value → Prop) (x : PX) (v : Value) : Prop :=
  ∃ (b sort : Nat) (op nm : ByteArray) (n : Int) (at' : Nat) (pa : Option Addr) (len cap : Nat) (kids : List PX),
    v = .pointer (some ⟨b, 0, none⟩) ∧ P b ∧ w.heap[b]? = some (.cells #[.int .i64 (sort : Int), .string op, .string nm, .int .i64 n, .int .i64 (at' : Int), .slice pa len cap] 156 (0, 0)) ∧
    RowP P w R pa len kids ∧ Means sort op.data.toList nm.data.toList n kids x
/-- a tree in memory, so many levels deep -/
def RepE : Nat → PX → Value → Prop
  | 0, _, _ => False
  | n + 1, x, v => NodeE P w (RepE n) x v
/-- a tree in memory -/
def TreeE (x : PX) (v : Value) : Prop := ∃ n, RepE P w n x v
end
theorem RowP.mono {P : Nat → Prop} {w : World} {R R' : PX → Value → Prop} (hR : ∀ x v, R x v → R' x v) {a : Option Addr} {len : Nat} {es : List PX} (h : RowP P w R a len es) : RowP P w R' a len es := by
  obtain ⟨h1, h2, h3⟩ := h
  refine ⟨h1, h2, ?_⟩
  rcases h3 with h3 | ⟨b, off, e, hb, hp, h3⟩
  · exact .inl h3
  · exact .inr ⟨b, off, e, hb, hp, fun i x q => by obtain ⟨v, hv, hr⟩ := h3 i x q; exact ⟨v, hv, hR x v hr⟩⟩
theorem RepE.up {P : Nat → Prop} {w : World} : ∀ (n m : Nat), n ≤ m → ∀ x v, RepE P w n x v → RepE P w m x v
  | 0, _, _, _, _, h => absurd h id
  | n + 1, 0, hm, _, _, _ => absurd hm (by omega)
  | n + 1, m + 1, hm, x, v, h => by
    obtain ⟨b, sort, op, nm, i, a, pa, len, cap, kids, h1, h2, h3, h4, h5⟩ := h
    exact ⟨b, sort, op, nm, i, a, pa, len, cap, kids, h1, h2, h3, h4.mono (RepE.up n m (by omega)), h5⟩
theorem RepE.fr {P Q : Nat → Prop} {w w' : World} (hf : Fr P w w') (hQ : ∀ k, k < w.heap.size → P k → Q k) : ∀ (n : Nat) x v, RepE P w n x v → RepE Q w' n x v
  | 0, _, _, h => absurd h id
  | n + 1, x, v, h => by
    obtain ⟨b, sort, op, nm, i, a, pa, len, cap, kids, h1, h2, h3, h4, h5⟩ := h
    exact ⟨b, sort, op, nm, i, a, pa, len, cap, kids, h1, hQ b (block_lt h3) h2, (hf.block b (block_lt h3) h2).trans h3, RowP.fr hf (RepE.fr hf hQ n) hQ h4, h5⟩
theorem TreeE.fr {P Q : Nat → Prop} {w w' : World} (hf : Fr P w w') (hQ : ∀ k, k < w.heap.size → P k → Q k) {x : PX} {v : Value} (h : TreeE P w x v) : TreeE Q w' x v := by
  obtain ⟨n, h⟩ := h
  exact ⟨n, RepE.fr hf hQ n x v h⟩
theorem TreeE.ptr {P : Nat → Prop} {w : World} {x : PX} {v : Value} (h : TreeE P w x v) : ∃ b, v = .pointer (some ⟨b, 0, none⟩) ∧ P b ∧ b < w.heap.size := by
  obtain ⟨n, h⟩ := h
  cases n with
  | zero => exact absurd h id
  | succ n =>
    obtain ⟨b, sort, op, nm, i, a, pa, len, cap, kids, h1, h2, h3, h4, h5⟩ := h
    exact ⟨b, h1, h2, block_lt h3⟩
/-- a node of trees is a tree -/
theorem TreeE.node {P : Nat → Prop} {w : World} {x : PX} {v : Value} (h : NodeE P w (TreeE P w) x v) : TreeE P w x v := by
  obtain ⟨b, sort, op, nm, i, a, pa, len, cap, kids, h1, h2, h3, ⟨r1, r2, r3⟩, h5⟩ := h
  have key : ∃ n, RowP P w (RepE P w n) pa len kids := by
    rcases r3 with r3 | ⟨g, off, e, hb, hp, r3⟩
    · exact ⟨0, r1, r2, .inl r3⟩
    · have : ∀ (l : List PX) (o : Nat), (∀ i x, l[i]? = some x → ∃ v, w.cell? ⟨g, o + i, none⟩ = some v ∧ TreeE P w x v) → ∃ n, ∀ i x, l[i]? = some x → ∃ v, w.cell? ⟨g, o + i, none⟩ = some v ∧ RepE P w n x v := by
        intro l
        induction l with
        | nil => intro o _; exact ⟨0, fun i x q => by simp at q⟩
        | cons y l ih =>
          intro o hl
          obtain ⟨v0, c0, m, hm⟩ := hl 0 y rfl
          obtain ⟨n, hn⟩ := ih (o + 1) fun i x q => by
            have := hl (i + 1) x (by simpa using q)
            rw [show o + (i + 1) = o + 1 + i from by omega] at this; exact this
          refine ⟨max m n, fun i x q => ?_⟩
          cases i with
          | zero => simp at q; subst q; exact ⟨v0, c0, RepE.up m _ (by omega) _ _ hm⟩
          | succ i =>
            obtain ⟨v, hv, hr⟩ := hn i x (by simpa using q)
            rw [show o + 1 + i = o + (i + 1) from by omega] at hv
            exact ⟨v, hv, RepE.up n _ (by omega) _ _ hr⟩
      obtain ⟨n, hn⟩ := this kids off r3
      exact ⟨n, r1, r2, .inr ⟨g, off, e, hb, hp, hn⟩⟩
  obtain ⟨n, hn⟩ := key
  exact ⟨n + 1, b, sort, op, nm, i, a, pa, len, cap, kids, h1, h2, h3, hn, h5⟩
theorem row_nil {P : Nat → Prop} {w : World} {R : PX → Value → Prop} (a : Option Addr) : RowP P w R a 0 [] := ⟨rfl, by omega, .inl rfl⟩

/-- what a call that reads an expression ends in -/
def PostE (w : World) (br : Nat) (t : ByteArray) (d : Nat) (r : Except (Nat × Nat) (PX × Nat)) (e : Ending) (w' : World) : Prop :=
  Fr (· ≠ br) w w' ∧ match r with
    | .ok (x, j) => (∃ v, e = .returned v ∧ TreeE (fun k => w.heap.size ≤ k) w' x v) ∧ RdF w' br t j d
    | .error (c, p) => e = Flt c p
theorem bX_cases {β γ : Type} {a : RX β} {k : β → Nat → RX γ} {r : Except (Nat × Nat) (γ × Nat)} (h : bX a k = some r) : (∃ e, a = some (.error e) ∧ r = .error e) ∨ ∃ x j, a = some (.ok (x, j)) ∧ k x j = some r := by
  rcases a with _ | (e | ⟨x, j⟩)
  · simp [bX] at h
  · simp only [bX, Option.some.injEq] at h; exact .inl ⟨e, rfl, h.symm⟩
  · exact .inr ⟨x, j, rfl, h⟩
end Go.Proofs.YtjbekejcghjhbaaGreatDoor.Sx
