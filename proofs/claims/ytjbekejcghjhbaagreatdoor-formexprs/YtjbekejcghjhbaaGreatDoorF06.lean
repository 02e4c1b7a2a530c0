/- The reader's block; going on to the next token. -/
import Derived.Test.YtjbekejcghjhbaaGreatDoorF03
import Derived.Deep.RegionHeld3
import Derived.Deep.LoopGhost
namespace Go.Proofs.YtjbekejcghjhbaaGreatDoor.Sx
open Go.RowKit Go.Sort

/-- the old blocks of which something is so are as they were -/
structure Fr (P : Nat → Prop) (w w' : World) : Prop where
  os : w'.os = w.os
  tape : w'.tape = w.tape
  output : w'.output = w.output
  size : w.heap.size ≤ w'.heap.size
  block : ∀ k, k < w.heap.size → P k → w'.heap[k]? = w.heap[k]?

theorem Fr.refl (P : Nat → Prop) (w : World) : Fr P w w := ⟨rfl, rfl, rfl, Nat.le_refl _, fun _ _ _ => rfl⟩
theorem Fr.trans {P : Nat → Prop} {a b c : World} (h : Fr P a b) (k : Fr P b c) : Fr P a c :=
  ⟨k.os.trans h.os, k.tape.trans h.tape, k.output.trans h.output, Nat.le_trans h.size k.size, fun i hi hp => (k.block i (Nat.lt_of_lt_of_le hi h.size) hp).trans (h.block i hi hp)⟩
theorem Fr.mono {P Q : Nat → Prop} {a b : World} (h : Fr P a b) (hq : ∀ k, Q k → P k) : Fr Q a b := ⟨h.os, h.tape, h.output, h.size, fun i hi hp => h.block i hi (hq i hp)⟩
theorem Fr.below {P : Nat → Prop} {a b : World} (h : Below a.heap.size a b) : Fr P a b := ⟨h.os, h.tape, h.output, h.size, fun i hi _ => h.block i hi⟩
theorem Fr.grew {P : Nat → Prop} {a b : World} (h : Grew a b) : Fr P a b := Fr.below h.below
theorem Fr.set {P : Nat → Prop} {a b : World} (h : Fr P a b) {p : Addr} (hp : ¬ P p.block) (u : Value) : Fr P a (b.setCell p u) :=
  ⟨h.os, h.tape, h.output, by simpa using h.size, fun i hi hq => by rw [Below.heap_setCell b p u i (fun e => hp (by rw [← e]; exact hq))]; exact h.block i hi hq⟩
theorem Fr.drew {P : Nat → Prop} {a b : World} (h : Fr P a b) : Fr P a b.drew := h.trans (Fr.grew (Grew.drew (Grew.refl _)))
theorem Fr.alloc {P : Nat → Prop} {a b : World} (h : Fr P a b) (o : Obj) : Fr P a (b.alloc o) := h.trans (Fr.grew (Grew.alloc (Grew.refl _) o))

/-- the reader's block -/
def RdAt (w : World) (br : Nat) (t : ByteArray) (at' en cl op : Nat) (hv : Bool) : Prop :=
  w.heap[br]? = some (.cells #[.string t, .int .i64 at', .int .i64 en, .int .i64 cl, .int .i64 op, .bool hv] 64 (0, 0))

theorem RdAt.of {w w' : World} {br : Nat} {t : ByteArray} {a e c o : Nat} {hv : Bool} (h : RdAt w br t a e c o hv) {P : Nat → Prop} (f : Fr P w w') (hp : P br) : RdAt w' br t a e c o hv := (f.block br (block_lt h) hp).trans h

theorem frozen_block {w : World} {b : Nat} {vs : Array Value} {t : TypeId} (h : w.heap[b]? = some (.cells vs t (0, 0))) (i : Nat) : w.frozen? ⟨b, i, none⟩ = false := by
  simp [World.frozen?, h]

theorem frozens3 {w : World} {b : Nat} {vs : Array Value} {t : TypeId} (h : w.heap[b]? = some (.cells vs t (0, 0))) : w.frozen? ⟨b, 0, none⟩ = false ∧ w.frozen? ⟨b, 1, none⟩ = false ∧ w.frozen? ⟨b, 2, none⟩ = false := ⟨frozen_block h 0, frozen_block h 1, frozen_block h 2⟩
theorem frozens5 {w : World} {b : Nat} {vs : Array Value} {t : TypeId} (h : w.heap[b]? = some (.cells vs t (0, 0))) : w.frozen? ⟨b, 0, none⟩ = false ∧ w.frozen? ⟨b, 1, none⟩ = false ∧ w.frozen? ⟨b, 2, none⟩ = false ∧ w.frozen? ⟨b, 3, none⟩ = false ∧ w.frozen? ⟨b, 4, none⟩ = false := ⟨frozen_block h 0, frozen_block h 1, frozen_block h 2, frozen_block h 3, frozen_block h 4⟩
theorem set_block {w : World} {b : Nat} {vs : Array Value} {t : TypeId} {f : Nat × Nat} (h : w.heap[b]? = some (.cells vs t f)) (i : Nat) (u : Value) : (w.setCell ⟨b, i, none⟩ u).heap[b]? = some (.cells (vs.set! i u) t f) := by
  simp [World.setCell, Array.getElem?_modify, h]

def blankLen (l : List UInt8) : Nat := (l.takeWhile isBlank).length
theorem blankLen_le (l : List UInt8) : blankLen l ≤ l.length := List.Sublist.length_le (List.takeWhile_sublist _)

end Go.Proofs.YtjbekejcghjhbaaGreatDoor.Sx

namespace Go.Proofs.YtjbekejcghjhbaaGreatDoor.Sx
open Go.RowKit Go.Sort

theorem cell_off {w : World} {b i j : Nat} {u v : Value} (h : w.cell? ⟨b, i, none⟩ = some v) (hij : j ≠ i) : (w.setCell ⟨b, j, none⟩ u).cell? ⟨b, i, none⟩ = some v := by
  exact (World.cell?_setCell_other w _ _ u (fun e => hij (congrArg Addr.off e))).trans h
theorem RdAt.cells {w : World} {br : Nat} {t : ByteArray} {a e c o : Nat} {hv : Bool} (h : RdAt w br t a e c o hv) {w' : World} (g : Grew w w') :
    w'.cell? ⟨br, 0, none⟩ = some (.string t) ∧ w'.cell? ⟨br, 1, none⟩ = some (.int .i64 a) ∧ w'.cell? ⟨br, 2, none⟩ = some (.int .i64 e) ∧ w'.cell? ⟨br, 3, none⟩ = some (.int .i64 c) ∧ w'.frozen? ⟨br, 2, none⟩ = false ∧ w'.frozen? ⟨br, 3, none⟩ = false ∧ w'.heap.size = w'.heap.size := by
  have h' := h.of (P := fun _ => True) (Fr.grew g) trivial
  exact ⟨block_cell h' 0, block_cell h' 1, block_cell h' 2, block_cell h' 3, frozen_block h' 2, frozen_block h' 3, rfl⟩

set_option maxRecDepth 100000 in
set_option maxHeartbeats 1000000 in
theorem advance_any (w : World) (br : Nat) (t : ByteArray) (a en cl op : Nat) (hv : Bool) (hr : RdAt w br t a en cl op hv) (hen : en ≤ t.size) (ht : t.size ≤ 4000) (M L n c : Nat)
    (hM : M = en + blankLen (t.data.toList.drop en)) (hT : tokT (t.data.toList.drop M) = (c, n)) (hL : L = M + n) (hLs : L ≤ t.size) :
    Calls Tryz.prog 62 #[.pointer (some ⟨br, 0, none⟩)] w fun e w' => e = .returned (.tuple #[]) ∧ RdAt w' br t M L c op hv ∧ Fr (· ≠ br) w w' := by
  have hl : t.data.toList.length = t.size := by simp
  obtain ⟨-, c1, c2⟩ := cells3 hr
  have f1 := frozen_block hr 1
  have HR : Hid (RdAt w br t a en cl op hv) := hr
  clear hr
  have hMen : en ≤ M := by omega
  have hMs : M ≤ t.size := by omega
  have HM : Hid _ := hM
  have HT : Hid _ := hT
  have HL : Hid (L = M + n) := hL
  clear hM hT hL
  have mo := follows
  have HB : Hid _ := blank_any
  go_enter Tryz.func62, Tryz.ntmps62
  go_wp2_with fail
  go_loopg [] (t.size) (fun kx wr => ∃ p : Nat, en ≤ p ∧ p ≤ M ∧ t.size - p ≤ kx ∧ Hid (RdAt wr br t p en cl op hv) ∧ Hid (Fr (· ≠ br) w wr))
  case atStart =>
    refine ⟨en, Nat.le_refl _, hMen, by omega, ?_, ?_⟩
    · show RdAt _ _ _ _ _ _ _ _
      have := set_block HR.out 1 (.int .i64 (en : Int))
      simpa [RdAt] using this
    · exact (Fr.refl _ w).set (by simp) _
  case round =>
    clear c1 c2 f1 HR
    obtain ⟨p, hp1, hp2, hkx, HR, HF⟩ := hrel
    have hbl := block_lt HR.out
    have g0 := cell_grown hbl (block_cell HR.out 0)
    have g1 := cell_grown hbl (block_cell HR.out 1)
    by_cases hlt : p < t.size
    · have hst := takeWhile_step isBlank (t.data.toList.drop en) (p - en) _ (by have := HM.out; unfold blankLen at this; omega) (by rw [List.getElem?_drop, show en + (p - en) = p from by omega]; exact byteAt_get (by omega))
      have hbd := byteAt_data t p hlt
      have HBk := HB.out (byteAt t.data.toList p)
      rw [hbd] at hst HBk
      have hst' : (isBlank t[p] = true → p + 1 ≤ M) ∧ (isBlank t[p] = false → M = p) := by
        have := HM.out; unfold blankLen at this
        exact ⟨fun q => by have := hst.1 q; omega, fun q => by have := hst.2 q; omega⟩
      clear hst hbd
      generalize isBlank t[p] = b at hst' HBk
      have HBK : Hid _ := HBk
      clear HBk
      go_wp2_with fail
      go_quiet_grown (first | (go_at_call 117; refine Calls.grown_of ((HBK.out _).mono fun e W h => ⟨h.1, by rw [h.2]; exact Grew.refl _⟩)))
      have G : Hid (Grew wr _) := ⟨nq, osq, rfl⟩
      clear g0 g1
      generalize grow (wr.drewN nq) osq = W1 at G ⊢
      clear nq osq
      have HR1 : Hid (RdAt W1 br t p en cl op hv) := HR.out.of (P := fun _ => True) (Fr.grew G.out) trivial
      have HF1 : Hid _ := HF.out.trans (Fr.grew G.out)
      have d1 := block_cell HR1.out 1
      have e1 := frozen_block HR1.out 1
      clear HR HF G
      cases b with
      | true =>
        have hle := hst'.1 rfl
        clear hst'
        go_wp2_with fail
        go_roundg (t.size - (p + 1))
        case measure => omega
        case rel =>
          refine ⟨p + 1, by omega, hle, Nat.le_refl _, ?_, ?_⟩
          · show RdAt _ _ _ _ _ _ _ _
            have := set_block HR1.out 1 (.int .i64 ((p : Int) + 1))
            simpa [RdAt] using this
          · exact HF1.out.set (by simp) _
      | false =>
        have HE : Hid (M = p) := hst'.2 rfl
        clear hst' d1 e1
        go_wp2_with fail
        have HTk : Hid (∀ W : World, Calls Tryz.prog 118 #[.string (t.extract p t.size)] W fun e w' => e = .returned (.tuple #[.int .i64 c, .int .i64 n]) ∧ Grew W w') := by
          intro W
          have := token_any (t.extract p t.size) W (by simp; omega)
          rw [show (t.extract p t.size).data.toList = t.data.toList.drop M from by rw [extract_list, List.take_of_length_le (by omega), HE.out], HT.out] at this
          exact this
        have hpn : (p : Int) ≤ (t.size : Int) := by omega
        obtain ⟨k0, k1, _, k3, _, q3, _⟩ := HR1.out.cells (Grew.refl W1)
        have hpt : ((p : Int)).toNat = p := by omega
        clear HM HT HBK
        generalize (t[p]).toNat = cc
        clear hlt
        clear hp1 hp2 hkx hMen hMs hen hl mo
        go_region_held3 (fun w' => w'.cell? ⟨br, 0, none⟩ = some (.string t) ∧ w'.cell? ⟨br, 1, none⟩ = some (.int .i64 p)) (first | (constructor <;> assumption) | (refine ⟨cell_off ?_ (by decide), cell_off ?_ (by decide)⟩ <;> assumption) | go_keep)
          ((go_at_call 118; refine (HTk.out _).mono ?_; rintro e w' ⟨rfl, hg⟩; obtain ⟨j0, j1, j2, j3, j4, j5, _⟩ := HR1.out.cells ((Grew.refl W1).drew.trans hg); have HG : Hid (Grew W1 w') := (Grew.refl W1).drew.trans hg; clear hg))
        have d1 : (w'.setCell ⟨br, 3, none⟩ (.int .i64 (c : Int))).cell? _ = _ := cell_off j1 (by decide)
        have d2 : (w'.setCell ⟨br, 3, none⟩ (.int .i64 (c : Int))).cell? _ = _ := cell_off j2 (by decide)
        have d3 : (w'.setCell ⟨br, 3, none⟩ (.int .i64 (c : Int))).frozen? ⟨br, 2, none⟩ = false := by simpa using j4
        have HR2 : Hid (RdAt (w'.setCell ⟨br, 3, none⟩ (.int .i64 (c : Int))) br t p en c op hv) := by
          show RdAt _ _ _ _ _ _ _ _
          have := set_block (HR1.out.of (P := fun _ => True) (Fr.grew HG.out) trivial) 3 (.int .i64 (c : Int))
          simpa [RdAt] using this
        have HF2 : Hid (Fr _ w (w'.setCell ⟨br, 3, none⟩ (.int .i64 (c : Int)))) := (HF1.out.trans (Fr.grew HG.out)).set (by simp) _
        clear j0 j1 j2 j3 j4 j5 HG HR1 HF1 HTk
        generalize w'.setCell _ _ = W2 at d1 d2 d3 HR2 HF2 ⊢
        have hpn : p + n ≤ 4000 := by have := HE.out; have := HL.out; omega
        go_wp2_with fail
        go_end0
        refine ⟨rfl, ?_, HF2.out.set (by simp) _⟩
        have := set_block HR2.out 2 (.int .i64 ((p : Int) + (n : Int)))
        rw [HL.out, HE.out]
        simpa [RdAt] using this
    · have HE : Hid (M = p) := by show M = p; omega
      have hpe : p = t.size := by omega
      have hnl : ¬ (p : Int) < (t.size : Int) := by omega
      have hd : decide ((p : Int) < (t.size : Int)) = false := by simp; omega
      clear g0 g1
      obtain ⟨b0, b1⟩ := cells2 HR.out
      go_wp2_with fail
      go_quiet (fail)
      clear b0 b1
      have G : Hid (Grew wr _) := (Grew.refl wr).drewN nq
      generalize wr.drewN nq = W1 at G ⊢
      clear nq
      have HR1 : Hid (RdAt W1 br t p en cl op hv) := HR.out.of (P := fun _ => True) (Fr.grew G.out) trivial
      have HF1 : Hid _ := HF.out.trans (Fr.grew G.out)
      clear HR HF G hd
      go_wp2_with fail
      have HTk : Hid (∀ W : World, Calls Tryz.prog 118 #[.string (t.extract p t.size)] W fun e w' => e = .returned (.tuple #[.int .i64 c, .int .i64 n]) ∧ Grew W w') := by
        intro W
        have := token_any (t.extract p t.size) W (by simp; omega)
        rw [show (t.extract p t.size).data.toList = t.data.toList.drop M from by rw [extract_list, List.take_of_length_le (by omega), HE.out], HT.out] at this
        exact this
      have hpn : (p : Int) ≤ (t.size : Int) := by omega
      obtain ⟨k0, k1, _, k3, _, q3, _⟩ := HR1.out.cells (Grew.refl W1)
      have hpt : ((p : Int)).toNat = p := by omega
      clear HM HT
      clear hlt hnl hpe
      clear hp1 hp2 hkx hMen hMs hen hl mo
      go_region_held3 (fun w' => w'.cell? ⟨br, 0, none⟩ = some (.string t) ∧ w'.cell? ⟨br, 1, none⟩ = some (.int .i64 p)) (first | (constructor <;> assumption) | (refine ⟨cell_off ?_ (by decide), cell_off ?_ (by decide)⟩ <;> assumption) | go_keep)
        ((go_at_call 118; refine (HTk.out _).mono ?_; rintro e w' ⟨rfl, hg⟩; obtain ⟨j0, j1, j2, j3, j4, j5, _⟩ := HR1.out.cells ((Grew.refl W1).drew.trans hg); have HG : Hid (Grew W1 w') := (Grew.refl W1).drew.trans hg; clear hg))
      have d1 : (w'.setCell ⟨br, 3, none⟩ (.int .i64 (c : Int))).cell? _ = _ := cell_off j1 (by decide)
      have d2 : (w'.setCell ⟨br, 3, none⟩ (.int .i64 (c : Int))).cell? _ = _ := cell_off j2 (by decide)
      have d3 : (w'.setCell ⟨br, 3, none⟩ (.int .i64 (c : Int))).frozen? ⟨br, 2, none⟩ = false := by simpa using j4
      have HR2 : Hid (RdAt (w'.setCell ⟨br, 3, none⟩ (.int .i64 (c : Int))) br t p en c op hv) := by
        show RdAt _ _ _ _ _ _ _ _
        have := set_block (HR1.out.of (P := fun _ => True) (Fr.grew HG.out) trivial) 3 (.int .i64 (c : Int))
        simpa [RdAt] using this
      have HF2 : Hid (Fr _ w (w'.setCell ⟨br, 3, none⟩ (.int .i64 (c : Int)))) := (HF1.out.trans (Fr.grew HG.out)).set (by simp) _
      clear j0 j1 j2 j3 j4 j5 HG HR1 HF1 HTk
      generalize w'.setCell _ _ = W2 at d1 d2 d3 HR2 HF2 ⊢
      have hpn : p + n ≤ 4000 := by have := HE.out; have := HL.out; omega
      go_wp2_with fail
      go_end0
      refine ⟨rfl, ?_, HF2.out.set (by simp) _⟩
      have := set_block HR2.out 2 (.int .i64 ((p : Int) + (n : Int)))
      rw [HL.out, HE.out]
      simpa [RdAt] using this
end Go.Proofs.YtjbekejcghjhbaaGreatDoor.Sx

namespace Go.Proofs.YtjbekejcghjhbaaGreatDoor.Sx
open Go.RowKit Go.Sort

theorem Grew.setNew {w w1 : World} (h : Grew w w1) {p : Addr} (hp : w.heap.size ≤ p.block) (u : Value) : Grew w (w1.setCell p u) := by
  obtain ⟨q, os, rfl⟩ := h
  have hset : ∃ f : Obj → Obj, ∀ W : World, W.setCell p u = { W with heap := W.heap.modify p.block f } := ⟨_, fun _ => rfl⟩
  obtain ⟨f, hf⟩ := hset
  refine ⟨q, os.modify (p.block - (w.drewN q).heap.size) f, ?_⟩
  rw [hf]
  simp only [grow]
  rw [modify_append_right _ _ _ _ (by exact hp)]

/-- a row that can be cut and copied -/
def Shape (a : Option Addr) (len cap : Nat) : Prop := len ≤ cap ∧ (a = none → len = 0) ∧ (a = none ∨ ∃ b off, a = some ⟨b, off, none⟩)

section
variable {α : Type} (P : Nat → Prop) (w : World) (R : α → Value → Prop) (num : α → Option Int) (wta : α → Nat)

def RowP (a : Option Addr) (len : Nat) (es : List α) : Prop :=
  len = es.length ∧ len ≤ 4294967296 ∧ (len = 0 ∨ ∃ b off, a = some ⟨b, off, none⟩ ∧ b < w.heap.size ∧ P b ∧ ∀ i x, es[i]? = some x → ∃ v, w.cell? ⟨b, off + i, none⟩ = some v ∧ R x v)
def SetP (b : Nat) (es : List α) : Prop :=
  P b ∧ ∃ a len cap, w.heap[b]? = some (.cells #[.slice a len cap, .int .i64 ((1 + wtL wta es : Nat) : Int)] 124 (0, 0)) ∧ RowP P w R a len es
def FnP (b d : Nat) (ks us : List α) : Prop :=
  P b ∧ SetP P w R wta d ks ∧ ks.length = us.length ∧ ∃ a len cap, w.heap[b]? = some (.cells #[.pointer (some ⟨d, 0, none⟩), .slice a len cap, .int .i64 ((1 + wtL wta ks + wtL wta us : Nat) : Int), .bool (counts num ks)] 130 (0, 0)) ∧ RowP P w R a len us ∧ Shape a len cap
def RepNP (a : Node α) (v : Value) : Prop :=
  (a = mkNil ∧ v = .nilIface) ∨ (∃ b, a = mkBool b ∧ v = .iface 4 (.bool b)) ∨ (∃ i, a = mkInt i ∧ v = .iface 2 (.int .i64 i)) ∨
  (∃ s : ByteArray, a = mkText s.data.toList ∧ v = .iface 119 (.string s)) ∨ (∃ s : ByteArray, a = mkAtom s.data.toList ∧ v = .iface 120 (.string s)) ∨
  (∃ es b, a = mkSet es ∧ v = .iface 121 (.pointer (some ⟨b, 0, none⟩)) ∧ SetP P w R wta b es) ∨
  (∃ ks us b d, a = mkFn ks us ∧ v = .iface 125 (.pointer (some ⟨b, 0, none⟩)) ∧ FnP P w R num wta b d ks us)
end

def RepP (P : Nat → Prop) (w : World) : (n : Nat) → AV n → Value → Prop
  | 0, _, _ => False
  | n + 1, a, v => RepNP P w (RepP P w n) (numOf n) (wt n) a v

section
variable {α : Type} {P Q : Nat → Prop} {w w' : World} {R R' : α → Value → Prop} {num : α → Option Int} {wta : α → Nat}

theorem RowP.fr (hf : Fr P w w') (hR : ∀ x v, R x v → R' x v) (hQ : ∀ k, k < w.heap.size → P k → Q k) {a : Option Addr} {len : Nat} {es : List α} (h : RowP P w R a len es) : RowP Q w' R' a len es := by
  refine ⟨h.1, h.2.1, ?_⟩
  rcases h.2.2 with h0 | ⟨b, off, rfl, hlt, hP, hc⟩
  · exact .inl h0
  · refine .inr ⟨b, off, rfl, Nat.lt_of_lt_of_le hlt hf.size, hQ b hlt hP, fun i x hx => ?_⟩
    obtain ⟨v, h1, h2⟩ := hc i x hx
    exact ⟨v, (World.cell?_of_block (w := w) (hf.block b hlt hP)).trans h1, hR x v h2⟩
theorem SetP.fr (hf : Fr P w w') (hR : ∀ x v, R x v → R' x v) (hQ : ∀ k, k < w.heap.size → P k → Q k) {b : Nat} {es : List α} (h : SetP P w R wta b es) : SetP Q w' R' wta b es := by
  obtain ⟨hP, a, len, cap, h0, hr⟩ := h
  exact ⟨hQ b (block_lt h0) hP, a, len, cap, (hf.block b (block_lt h0) hP).trans h0, hr.fr hf hR hQ⟩
theorem FnP.fr (hf : Fr P w w') (hR : ∀ x v, R x v → R' x v) (hQ : ∀ k, k < w.heap.size → P k → Q k) {b d : Nat} {ks us : List α} (h : FnP P w R num wta b d ks us) : FnP Q w' R' num wta b d ks us := by
  obtain ⟨hP, hs, hl, a, len, cap, h0, hr, hc⟩ := h
  exact ⟨hQ b (block_lt h0) hP, hs.fr hf hR hQ, hl, a, len, cap, (hf.block b (block_lt h0) hP).trans h0, hr.fr hf hR hQ, hc⟩
theorem RepNP.fr (hf : Fr P w w') (hR : ∀ x v, R x v → R' x v) (hQ : ∀ k, k < w.heap.size → P k → Q k) {a : Node α} {v : Value} (h : RepNP P w R num wta a v) : RepNP Q w' R' num wta a v := by
  rcases h with h | h | h | h | h | ⟨es, b, h1, h2, h3⟩ | ⟨ks, us, b, d, h1, h2, h3⟩
  · exact .inl h
  · exact .inr (.inl h)
  · exact .inr (.inr (.inl h))
  · exact .inr (.inr (.inr (.inl h)))
  · exact .inr (.inr (.inr (.inr (.inl h))))
  · exact .inr (.inr (.inr (.inr (.inr (.inl ⟨es, b, h1, h2, h3.fr hf hR hQ⟩)))))
  · exact .inr (.inr (.inr (.inr (.inr (.inr ⟨ks, us, b, d, h1, h2, h3.fr hf hR hQ⟩)))))

theorem RowP.row (hR : ∀ x v, R x v → R' x v) {a : Option Addr} {len : Nat} {es : List α} (h : RowP P w R a len es) : RowOf w R' a len es := by
  refine ⟨h.1, h.2.1, ?_⟩
  rcases h.2.2 with h0 | ⟨b, off, rfl, hlt, hP, hc⟩
  · exact .inl h0
  · refine .inr ⟨b, off, rfl, hlt, fun i x hx => ?_⟩
    obtain ⟨v, h1, h2⟩ := hc i x hx
    exact ⟨v, h1, hR x v h2⟩
theorem SetP.set (hR : ∀ x v, R x v → R' x v) {b : Nat} {es : List α} (h : SetP P w R wta b es) : SetAt w R' wta b es := by
  obtain ⟨hP, a, len, cap, h0, hr⟩ := h
  exact ⟨a, len, cap, h0, hr.row hR⟩
theorem FnP.fn (hR : ∀ x v, R x v → R' x v) {b d : Nat} {ks us : List α} (h : FnP P w R num wta b d ks us) : FnAt w R' num wta b d ks us := by
  obtain ⟨hP, hs, hl, a, len, cap, h0, hr, _⟩ := h
  exact ⟨hs.set hR, hl, a, len, cap, h0, hr.row hR⟩
theorem RepNP.rep (hR : ∀ x v, R x v → R' x v) {a : Node α} {v : Value} (h : RepNP P w R num wta a v) : RepN w R' num wta a v := by
  rcases h with h | h | h | h | h | ⟨es, b, h1, h2, h3⟩ | ⟨ks, us, b, d, h1, h2, h3⟩
  · exact .inl h
  · exact .inr (.inl h)
  · exact .inr (.inr (.inl h))
  · exact .inr (.inr (.inr (.inl h)))
  · exact .inr (.inr (.inr (.inr (.inl h))))
  · exact .inr (.inr (.inr (.inr (.inr (.inl ⟨es, b, h1, h2, h3.set hR⟩)))))
  · exact .inr (.inr (.inr (.inr (.inr (.inr ⟨ks, us, b, d, h1, h2, h3.fn hR⟩)))))
end

theorem RepP.fr {P Q : Nat → Prop} {w w' : World} (hf : Fr P w w') (hQ : ∀ k, k < w.heap.size → P k → Q k) : ∀ (n : Nat) (a : AV n) (v : Value), RepP P w n a v → RepP Q w' n a v
  | 0, _, _, h => h
  | n + 1, _, _, h => RepNP.fr hf (RepP.fr hf hQ n) hQ h
theorem RepP.keep {P : Nat → Prop} {w w' : World} (hf : Fr P w w') {n : Nat} {a : AV n} {v : Value} (h : RepP P w n a v) : RepP P w' n a v := h.fr hf (fun _ _ h => h) n a v
theorem RepP.rep {P : Nat → Prop} {w : World} : ∀ (n : Nat) (a : AV n) (v : Value), RepP P w n a v → Rep w n a v
  | 0, _, _, h => h
  | n + 1, _, _, h => RepNP.rep (RepP.rep n) h
theorem RowP.keep {P : Nat → Prop} {w w' : World} (hf : Fr P w w') {n : Nat} {a : Option Addr} {len : Nat} {es : List (AV n)} (h : RowP P w (RepP P w n) a len es) : RowP P w' (RepP P w' n) a len es :=
  h.fr hf (fun x v => RepP.fr hf (fun _ _ h => h) n x v) (fun _ _ h => h)
theorem SetP.keep {P : Nat → Prop} {w w' : World} (hf : Fr P w w') {n : Nat} {b : Nat} {es : List (AV n)} (h : SetP P w (RepP P w n) (wt n) b es) : SetP P w' (RepP P w' n) (wt n) b es :=
  h.fr hf (fun x v => RepP.fr hf (fun _ _ h => h) n x v) (fun _ _ h => h)

theorem wtL_cons {α : Type} (f : α → Nat) (x : α) (l : List α) : wtL f (x :: l) = f x + wtL f l := by simp [wtL]
theorem wtL_take {α : Type} (f : α → Nat) (l : List α) (k : Nat) (x : α) (h : l[k]? = some x) : wtL f (l.take (k + 1)) = wtL f (l.take k) + f x := by
  rw [List.take_add_one, h]; simp [wtL]
theorem wtL_le {α : Type} (f : α → Nat) (l : List α) (h : ∀ x ∈ l, f x ≤ 1024) : wtL f l ≤ 1024 * l.length := by
  induction l with
  | nil => simp [wtL]
  | cons x l ih =>
    rw [wtL_cons, List.length_cons]
    have := h x (by simp); have := ih (fun y hy => h y (by simp [hy])); omega

set_option maxRecDepth 100000 in
set_option maxHeartbeats 1000000 in
theorem weighAll_any (n : Nat) (w : World) (a : Option Addr) (len cap : Nat) (es : List (AV n)) (h : RowOf w (Rep w n) a len es) (hw : ∀ x ∈ es, wt n x ≤ 1024) :
    Calls Tryz.prog 279 #[.slice a len cap] w fun e w' => e = .returned (.int .i64 (wtL (wt n) es)) ∧ Grew w w' := by
  obtain ⟨e1, b1, r1⟩ := h
  have E1 : Hid (len = es.length) := e1
  clear e1
  have HB : Hid (∀ k, wtL (wt n) (es.take k) ≤ 1024 * k) := by
    intro k
    refine Nat.le_trans (wtL_le _ _ fun x hx => hw x (List.mem_of_mem_take hx)) ?_
    have := List.length_take_le k es
    omega
  have HW : Hid _ := hw
  clear hw
  go_enter Tryz.func279, Tryz.ntmps279
  go_wp2_with fail
  go_loopw [3, 8] (fun s i wr => ∃ k : Nat, k ≤ len ∧ i = .int .i64 k ∧ s = .int .i64 (wtL (wt n) (es.take k)) ∧ Hid (Grew w wr)) (fun _ i _ => len - (intOf i).toNat)
  case atStart => exact ⟨0, Nat.zero_le _, rfl, rfl, Grew.refl w⟩
  case round =>
    obtain ⟨k, hk, rfl, rfl, HG⟩ := hrel
    have hb := HB.out k
    by_cases hlt : k < len
    · have hx : k < es.length := by rw [← E1.out]; exact hlt
      obtain ⟨p1, o1, rfl, hp1, hc1⟩ := r1.resolve_left (by omega)
      obtain ⟨v1, hv1, hr1⟩ := hc1 k es[k] (List.getElem?_eq_getElem hx)
      have g1 := (HG.out.below.cell (p := ⟨p1, o1 + k, none⟩) hp1).trans hv1
      have s1 := Nat.lt_of_lt_of_le hp1 HG.out.below.size
      have st1 := store_one hr1.one
      have HS : Hid (_ = _ + wt n es[k]) := wtL_take _ _ _ _ (List.getElem?_eq_getElem hx)
      have hwk := HW.out es[k] (List.getElem_mem hx)
      have HC : Hid _ := fun (W : World) (hW : _) => Weight_any n es[k] v1 W (hr1.grew hW)
      clear hc1 hv1 hr1 r1
      generalize wt n es[k] = wk at HS HC hwk
      generalize wtL (wt n) (es.take k) = sk at HS hb ⊢
      go_wp2_with (go_at_call 14; refine (HC.out _ (HG.out.alloc _)).mono ?_; rintro e w' ⟨rfl, hg⟩; have hg' : Hid (Grew w w') := (HG.out.alloc _).trans hg; clear hg)
      go_roundw
      case rel => exact ⟨k + 1, by omega, by go_num, by rw [HS.out]; go_num, by assumption⟩
      case measure => simp [intOf]; omega
    · have hq : k = len := by omega
      have HF : Hid (wtL (wt n) (es.take k) = wtL (wt n) es) := by
        show _ = _
        rw [List.take_of_length_le (by rw [← E1.out]; omega)]
      clear r1
      rw [HF.out]
      go_wp2_with fail
      go_ret
      exact ⟨rfl, HG.out⟩
end Go.Proofs.YtjbekejcghjhbaaGreatDoor.Sx

namespace Go.Proofs.YtjbekejcghjhbaaGreatDoor.Sx
open Go.RowKit Go.Sort
attribute [local go_sem] asn_4 asp_4 as_4_4 as_2_4 as_101_4 as_102_4 as_103_4 as_107_4 asn_2 asp_2 as_4_2 as_2_2 as_101_2 as_102_2 as_103_2 as_107_2 asn_101 asp_101 as_4_101 as_2_101 as_101_101 as_102_101 as_103_101 as_107_101 asn_102 asp_102 as_4_102 as_2_102 as_101_102 as_102_102 as_103_102 as_107_102 asn_103 asp_103 as_4_103 as_2_103 as_101_103 as_102_103 as_103_103 as_107_103 asn_107 asp_107 as_4_107 as_2_107 as_101_107 as_102_107 as_103_107 as_107_107

def mkS {α : Type} (wta : α → Nat) (es : List α) : Node α := if 1 + wtL wta es ≤ 1024 then mkSet es else mkNil

theorem box_kept {w w' : World} {v : Value} {T : TypeId} (h : Grew (w.alloc (.cells #[v] T)) w') : w'.cell? ⟨w.heap.size, 0, none⟩ = some v ∧ w'.frozen? ⟨w.heap.size, 0, none⟩ = false ∧ w.heap.size < w'.heap.size := by
  have h0 : (w.alloc (.cells #[v] T)).heap[w.heap.size]? = some (.cells #[v] T (0, 0)) := by
    show (w.heap.push _)[w.heap.size]? = _
    simp
  have h1 := Below.blockAt h.below h0
  exact ⟨block_cell h1 0, frozen_block h1 0, block_lt h1⟩
theorem heap_new {W : World} {o : Obj} {k : Nat} (h : W.heap.size = k) : (W.alloc o).heap[k]? = some o := by subst h; exact heap_alloc_new W o
theorem Grew.of_alloc {w w' : World} {o : Obj} (h : Grew (w.alloc o) w') : Grew w w' := ((Grew.refl w).alloc o).trans h

set_option maxRecDepth 100000 in
set_option maxHeartbeats 1000000 in
theorem newSet_any (n : Nat) (P : Nat → Prop) (w : World) (a : Option Addr) (len cap : Nat) (es : List (AV n)) (h : RowP P w (RepP P w n) a len es) (hP : ∀ k, w.heap.size ≤ k → P k) (hw : ∀ x ∈ es, wt n x ≤ 1024) (hl : es.length ≤ 4294967296) :
    Calls Tryz.prog 220 #[.slice a len cap] w fun e w' => ∃ v, e = .returned (.agg #[v]) ∧ RepP P w' (n + 1) (mkS (wt n) es) v ∧ Grew w w' := by
  have HC : Hid _ := fun (W : World) (hW : Grew w W) => weighAll_any n W a len cap es ((h.row (RepP.rep n)).below hW.below fun x v => Rep.below hW.below n x v) hw
  have hb := wtL_le (wt n) es hw
  have HP : Hid _ := hP
  have HR : Hid (RowP P w _ a len es) := h
  unfold mkS
  have HF : Hid (∀ (b : Nat) (W : World), Grew w W → w.heap.size ≤ b → W.heap[b]? = some (.cells #[.slice a len cap, .int .i64 ((1 + wtL (wt n) es : Nat) : Int)] 124 (0, 0)) → RepP P W (n + 1) (mkSet es : _) (.iface 121 (.pointer (some ⟨b, 0, none⟩)))) := by
    intro b W hW hbw hq
    exact .inr (.inr (.inr (.inr (.inr (.inl ⟨es, b, rfl, rfl, HP.out b hbw, a, len, cap, hq, HR.out.keep (Fr.grew hW)⟩)))))
  clear h hP hw HR HP
  generalize wtL (wt n) es = N at HC hb HF ⊢
  by_cases hN : 1 + N ≤ 1024
  · rw [if_pos hN]
    go_enter Tryz.func220, Tryz.ntmps220
    go_wp2_with (go_at_call 279; refine (HC.out _ ((Grew.refl w).alloc _)).mono ?_; rintro e w' ⟨rfl, hg⟩; obtain ⟨x0, x1, x2⟩ := box_kept hg; have HG : Hid (Grew w w') := hg.of_alloc; clear hg)
    refine bodyPost_ret (v := .agg #[.iface 121 (.pointer (some ⟨w'.heap.size, 0, none⟩))]) (by simp [results, Tryz.results220, go_sem, x0, x2]) rfl ⟨_, rfl, ?_, (HG.out.setNew (Nat.le_refl _) _).alloc _⟩
    refine HF.out _ _ ((HG.out.setNew (Nat.le_refl _) _).alloc _) HG.out.below.size ?_
    rw [show ((1 + N : Nat) : Int) = 1 + (N : Int) from by omega]
    exact heap_new (by simp)
  · rw [if_neg hN]
    have hd : (1024 : Int) < 1 + (N : Int) := by omega
    go_enter Tryz.func220, Tryz.ntmps220
    go_wp2_with (go_at_call 279; refine (HC.out _ ((Grew.refl w).alloc _)).mono ?_; rintro e w' ⟨rfl, hg⟩; obtain ⟨x0, x1, x2⟩ := box_kept hg; have HG : Hid (Grew w w') := hg.of_alloc; clear hg)
    refine bodyPost_ret (by simp [results, Tryz.results220, go_sem, x0, x2]) rfl ⟨_, rfl, .inl ⟨rfl, rfl⟩, (HG.out.setNew (Nat.le_refl _) _).alloc _⟩

theorem countsFrom_at {α : Type} (num : α → Option Int) : ∀ (i : Nat) (l : List α) (k : Nat) (x : α), l[k]? = some x → countsFrom num i l = true → num x = some ((i + k : Nat) : Int)
  | _, [], _, _, h, _ => by simp at h
  | i, a :: l, 0, x, h, hc => by
    simp only [List.getElem?_cons_zero, Option.some.injEq] at h
    subst h
    simp only [countsFrom, Bool.and_eq_true, beq_iff_eq] at hc
    simpa using hc.1
  | i, a :: l, k + 1, x, h, hc => by
    simp only [List.getElem?_cons_succ] at h
    simp only [countsFrom, Bool.and_eq_true] at hc
    have := countsFrom_at num (i + 1) l k x h hc.2
    rw [this]; congr 1; omega
theorem countsFrom_of {α : Type} (num : α → Option Int) : ∀ (i : Nat) (l : List α), (∀ k x, l[k]? = some x → num x = some ((i + k : Nat) : Int)) → countsFrom num i l = true
  | _, [], _ => rfl
  | i, a :: l, h => by
    simp only [countsFrom, Bool.and_eq_true, beq_iff_eq]
    refine ⟨by simpa using h 0 a rfl, countsFrom_of num (i + 1) l fun k x hx => ?_⟩
    have := h (k + 1) x (by simpa using hx)
    rw [this]; congr 1; omega

theorem Rep.num {w : World} : ∀ {n : Nat} {a : AV n} {v : Value}, Rep w n a v → (∃ i, v = .iface 2 (.int .i64 i) ∧ numOf n a = some i) ∨ (numOf n a = none ∧ (v = .nilIface ∨ (∃ x, v = .iface 4 x) ∨ (∃ x, v = .iface 119 x) ∨ (∃ x, v = .iface 120 x) ∨ (∃ x, v = .iface 121 x) ∨ (∃ x, v = .iface 125 x)))
  | 0, _, _, h => absurd h id
  | n + 1, a, v, h => by
    rcases h with ⟨rfl, rfl⟩ | ⟨b, rfl, rfl⟩ | ⟨i, rfl, rfl⟩ | ⟨s, rfl, rfl⟩ | ⟨s, rfl, rfl⟩ | ⟨es, b, rfl, rfl, _⟩ | ⟨ks, us, b, d, rfl, rfl, _⟩
    · exact .inr ⟨rfl, .inl rfl⟩
    · exact .inr ⟨rfl, .inr (.inl ⟨_, rfl⟩)⟩
    · exact .inl ⟨i, rfl, rfl⟩
    · exact .inr ⟨rfl, .inr (.inr (.inl ⟨_, rfl⟩))⟩
    · exact .inr ⟨rfl, .inr (.inr (.inr (.inl ⟨_, rfl⟩)))⟩
    · exact .inr ⟨rfl, .inr (.inr (.inr (.inr (.inl ⟨_, rfl⟩))))⟩
    · exact .inr ⟨rfl, .inr (.inr (.inr (.inr (.inr ⟨_, rfl⟩))))⟩

set_option maxRecDepth 100000 in
set_option maxHeartbeats 1000000 in
theorem counts_any (n : Nat) (w : World) (a : Option Addr) (len cap : Nat) (es : List (AV n)) (h : RowOf w (Rep w n) a len es) :
    Calls Tryz.prog 312 #[.slice a len cap] w fun e w' => e = .returned (.bool (counts (numOf n) es)) ∧ Grew w w' := by
  obtain ⟨e1, b1, r1⟩ := h
  have E1 : Hid (len = es.length) := e1
  clear e1
  obtain ⟨B, hB⟩ : ∃ B, counts (numOf n) es = B := ⟨_, rfl⟩
  have HT : Hid ((∀ k x, es[k]? = some x → numOf n x = some ((1 + k : Nat) : Int)) → B = true) := by
    intro q; rw [← hB]; exact countsFrom_of _ 1 es q
  have HX : Hid (∀ k x, es[k]? = some x → numOf n x ≠ some ((1 + k : Nat) : Int) → B = false) := by
    intro k x hx q
    rw [← hB]
    cases hc : counts (numOf n) es with
    | false => rfl
    | true => exact absurd (countsFrom_at _ 1 es k x hx hc) q
  rw [hB]
  clear hB
  go_enter Tryz.func312, Tryz.ntmps312
  go_wp2_with fail
  go_loopw [9] (fun i wr => ∃ k : Nat, k ≤ len ∧ i = .int .i64 k ∧ Hid (∀ j x, j < k → es[j]? = some x → numOf n x = some ((1 + j : Nat) : Int)) ∧ Hid (Grew w wr)) (fun i _ => len - (intOf i).toNat)
  case atStart => exact ⟨0, Nat.zero_le _, rfl, fun j x hj => by omega, Grew.refl w⟩
  case round =>
    obtain ⟨k, hk, rfl, HQ, HG⟩ := hrel
    by_cases hlt : k < len
    · have hx : k < es.length := by rw [← E1.out]; exact hlt
      obtain ⟨p1, o1, rfl, hp1, hc1⟩ := r1.resolve_left (by omega)
      obtain ⟨v1, hv1, hr1⟩ := hc1 k es[k] (List.getElem?_eq_getElem hx)
      have g1 := (HG.out.below.cell (p := ⟨p1, o1 + k, none⟩) hp1).trans hv1
      have s1 := Nat.lt_of_lt_of_le hp1 HG.out.below.size
      have st1 := store_one hr1.one
      have hxk := HX.out k es[k] (List.getElem?_eq_getElem hx)
      have hQ : numOf n es[k] = some ((1 + k : Nat) : Int) → Hid (∀ j x, j < k + 1 → es[j]? = some x → numOf n x = some ((1 + j : Nat) : Int)) := by
        intro q j x hj hx'
        by_cases hjk : j < k
        · exact HQ.out j x hjk hx'
        · obtain rfl : j = k := by omega
          rw [List.getElem?_eq_getElem hx] at hx'
          simp only [Option.some.injEq] at hx'
          rw [← hx']; exact q
      have hnum := hr1.num
      clear hc1 hv1 hr1 r1 HX HT HQ
      generalize numOf n es[k] = m at hxk hQ hnum
      rcases hnum with ⟨i, rfl, hm⟩ | ⟨hm, hv⟩
      · subst hm
        by_cases hi : i = (k : Int) + 1
        · have HQ' := hQ (by rw [hi]; congr 1; omega)
          clear hQ hxk
          subst hi
          go_wp2_with fail
          go_roundw
          case rel => exact ⟨k + 1, by omega, by go_num, HQ', HG.out.alloc _⟩
          case measure => simp [intOf]; omega
        · have HE : Hid _ := hxk (by intro q; simp only [Option.some.injEq] at q; omega)
          clear hQ hxk
          have hne : (i == (k : Int) + 1) = false := by simp [hi]
          go_wp2_with fail
          go_ret
          exact ⟨by rw [HE.out]; rfl, HG.out.alloc _⟩
      · have HE : Hid _ := hxk (by rw [hm]; simp)
        clear hQ hxk hm
        rcases hv with rfl | ⟨x, rfl⟩ | ⟨x, rfl⟩ | ⟨x, rfl⟩ | ⟨x, rfl⟩ | ⟨x, rfl⟩
        all_goals
          go_wp2_with fail
          go_ret
          exact ⟨by rw [HE.out]; rfl, HG.out.alloc _⟩
    · have hq : k = len := by omega
      have HE : Hid _ := HT.out fun j x hj => HQ.out j x (by have := (List.getElem?_eq_some_iff.1 hj).1; rw [← E1.out] at this; omega) hj
      clear r1 HT HX HQ
      go_wp2_with fail
      go_ret
      exact ⟨by rw [HE.out]; rfl, HG.out⟩
end Go.Proofs.YtjbekejcghjhbaaGreatDoor.Sx
