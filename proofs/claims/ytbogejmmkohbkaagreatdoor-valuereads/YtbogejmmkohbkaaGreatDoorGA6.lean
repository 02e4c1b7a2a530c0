/- The reader's block; going on to the next token. -/
import Derived.Test.YtbogejmmkohbkaaGreatDoorGA5
import Derived.Deep.RegionHeld3
import Derived.Deep.LoopGhost
namespace Go.Proofs.YtbogejmmkohbkaaGreatDoor.Sx
open Go.RowKit Go.Sort

/-- the old blocks of which something is so are as they were -/
structure Fr (P : Nat → Prop) (w w' : World) : Prop where
  os : w'.os = w.os
  tape : w'.tape = w.tape
  output : w'.output = w.output
  size : w.heap.size ≤ w'.heap.size
  block : ∀ k, k < w.heap.size → P k → w'.heap[k]? = w.heap[k]?

theorem Fr.refl (P : Nat → Prop) (w : World) : Fr P w w := ⟨rfl, rfl, rfl, Nat.le_refl _, fun _ _ _ => rfl⟩
theorem Fr.trans {P : Nat → Prop} {a b c : World} (h : Fr P a b) (k : Fr P b c) : Fr P a c :=
  ⟨k.os.trans h.os, k.tape.trans h.tape, k.output.trans h.output, Nat.le_trans h.size k.size, fun i hi hp => (k.block i (Nat.lt_of_lt_of_le hi h.size) hp).trans (h.block i hi hp)⟩
theorem Fr.mono {P Q : Nat → Prop} {a b : World} (h : Fr P a b) (hq : ∀ k, Q k → P k) : Fr Q a b := ⟨h.os, h.tape, h.output, h.size, fun i hi hp => h.block i hi (hq i hp)⟩
theorem Fr.below {P : Nat → Prop} {a b : World} (h : Below a.heap.size a b) : Fr P a b := ⟨h.os, h.tape, h.output, h.size, fun i hi _ => h.block i hi⟩
theorem Fr.grew {P : Nat → Prop} {a b : World} (h : Grew a b) : Fr P a b := Fr.below h.below
theorem Fr.set {P : Nat → Prop} {a b : World} (h : Fr P a b) {p : Addr} (hp : ¬ P p.block) (u : Value) : Fr P a (b.setCell p u) :=
  ⟨h.os, h.tape, h.output, by simpa using h.size, fun i hi hq => by rw [Below.heap_setCell b p u i (fun e => hp (by rw [← e]; exact hq))]; exact h.block i hi hq⟩
theorem Fr.drew {P : Nat → Prop} {a b : World} (h : Fr P a b) : Fr P a b.drew := h.trans (Fr.grew (Grew.drew (Grew.refl _)))
theorem Fr.alloc {P : Nat → Prop} {a b : World} (h : Fr P a b) (o : Obj) : Fr P a (b.alloc o) := h.trans (Fr.grew (Grew.alloc (Grew.refl _) o))

/-- the reader's block -/
def RdAt (w : World) (br : Nat) (t : ByteArray) (at' en cl op : Nat) (hv : Bool) : Prop :=
  w.heap[br]? = some (.cells #[.string t, .int .i64 at', .int .i64 en, .int .i64 cl, .int .i64 op, .bool hv] 64 (0, 0))

theorem RdAt.of {w w' : World} {br : Nat} {t : ByteArray} {a e c o : Nat} {hv : Bool} (h : RdAt w br t a e c o hv) {P : Nat → Prop} (f : Fr P w w') (hp : P br) : RdAt w' br t a e c o hv := (f.block br (block_lt h) hp).trans h

theorem frozen_block {w : World} {b : Nat} {vs : Array Value} {t : TypeId} (h : w.heap[b]? = some (.cells vs t (0, 0))) (i : Nat) : w.frozen? ⟨b, i, none⟩ = false := by
  simp [World.frozen?, h]

theorem set_block {w : World} {b : Nat} {vs : Array Value} {t : TypeId} {f : Nat × Nat} (h : w.heap[b]? = some (.cells vs t f)) (i : Nat) (u : Value) : (w.setCell ⟨b, i, none⟩ u).heap[b]? = some (.cells (vs.set! i u) t f) := by
  simp [World.setCell, Array.getElem?_modify, h]

def blankLen (l : List UInt8) : Nat := (l.takeWhile isBlank).length
theorem blankLen_le (l : List UInt8) : blankLen l ≤ l.length := List.Sublist.length_le (List.takeWhile_sublist _)

end Go.Proofs.YtbogejmmkohbkaaGreatDoor.Sx

namespace Go.Proofs.YtbogejmmkohbkaaGreatDoor.Sx
open Go.RowKit Go.Sort

theorem cell_off {w : World} {b i j : Nat} {u v : Value} (h : w.cell? ⟨b, i, none⟩ = some v) (hij : j ≠ i) : (w.setCell ⟨b, j, none⟩ u).cell? ⟨b, i, none⟩ = some v := by
  exact (World.cell?_setCell_other w _ _ u (fun e => hij (congrArg Addr.off e))).trans h
theorem RdAt.cells {w : World} {br : Nat} {t : ByteArray} {a e c o : Nat} {hv : Bool} (h : RdAt w br t a e c o hv) {w' : World} (g : Grew w w') :
    w'.cell? ⟨br, 0, none⟩ = some (.string t) ∧ w'.cell? ⟨br, 1, none⟩ = some (.int .i64 a) ∧ w'.cell? ⟨br, 2, none⟩ = some (.int .i64 e) ∧ w'.cell? ⟨br, 3, none⟩ = some (.int .i64 c) ∧ w'.frozen? ⟨br, 2, none⟩ = false ∧ w'.frozen? ⟨br, 3, none⟩ = false ∧ w'.heap.size = w'.heap.size := by
  have h' := h.of (P := fun _ => True) (Fr.grew g) trivial
  exact ⟨block_cell h' 0, block_cell h' 1, block_cell h' 2, block_cell h' 3, frozen_block h' 2, frozen_block h' 3, rfl⟩

set_option maxRecDepth 100000 in
set_option maxHeartbeats 1000000 in
theorem advance_any (w : World) (br : Nat) (t : ByteArray) (a en cl op : Nat) (hv : Bool) (hr : RdAt w br t a en cl op hv) (hen : en ≤ t.size) (ht : t.size ≤ 4000) (M L n c : Nat)
    (hM : M = en + blankLen (t.data.toList.drop en)) (hT : tokT (t.data.toList.drop M) = (c, n)) (hL : L = M + n) (hLs : L ≤ t.size) :
    Calls Tryz.prog 62 #[.pointer (some ⟨br, 0, none⟩)] w fun e w' => e = .returned (.tuple #[]) ∧ RdAt w' br t M L c op hv ∧ Fr (· ≠ br) w w' := by
  have hl : t.data.toList.length = t.size := by simp
  have c2 := block_cell hr 2
  have f1 := frozen_block hr 1
  have c1 := block_cell hr 1
  have HR : Hid (RdAt w br t a en cl op hv) := hr
  clear hr
  have hMen : en ≤ M := by omega
  have hMs : M ≤ t.size := by omega
  have HM : Hid (M = en + blankLen (t.data.toList.drop en)) := hM
  have HT : Hid (tokT (t.data.toList.drop M) = (c, n)) := hT
  have HL : Hid (L = M + n) := hL
  clear hM hT hL
  have mo := follows
  have HB : Hid (∀ c W, Calls Tryz.prog 117 #[.int .u8 (UInt8.toNat c)] W _) := blank_any
  go_enter Tryz.func62, Tryz.ntmps62
  go_wp2_with fail
  go_loopg [] (t.size) (fun kx wr => ∃ p : Nat, en ≤ p ∧ p ≤ M ∧ t.size - p ≤ kx ∧ Hid (RdAt wr br t p en cl op hv) ∧ Hid (Fr (· ≠ br) w wr))
  case atStart =>
    refine ⟨en, Nat.le_refl _, hMen, by omega, ?_, ?_⟩
    · show RdAt _ _ _ _ _ _ _ _
      have := set_block HR.out 1 (.int .i64 (en : Int))
      simpa [RdAt] using this
    · exact (Fr.refl _ w).set (by simp) _
  case round =>
    clear c1 c2 f1 HR
    obtain ⟨p, hp1, hp2, hkx, HR, HF⟩ := hrel
    have hbl := block_lt HR.out
    have g0 := cell_grown (w := wr) (a := ⟨br, 0, none⟩) hbl (block_cell HR.out 0)
    have g1 := cell_grown (w := wr) (a := ⟨br, 1, none⟩) hbl (block_cell HR.out 1)
    by_cases hlt : p < t.size
    · have hst := takeWhile_step isBlank (t.data.toList.drop en) (p - en) (byteAt t.data.toList p) (by have := HM.out; unfold blankLen at this; omega) (by rw [List.getElem?_drop, show en + (p - en) = p from by omega]; exact byteAt_get (by omega))
      have hbd := byteAt_data t p hlt
      have HBk := HB.out (byteAt t.data.toList p)
      rw [hbd] at hst HBk
      have hst' : (isBlank t[p] = true → p + 1 ≤ M) ∧ (isBlank t[p] = false → M = p) := by
        have := HM.out; unfold blankLen at this
        exact ⟨fun q => by have := hst.1 q; omega, fun q => by have := hst.2 q; omega⟩
      clear hst hbd
      generalize isBlank t[p] = b at hst' HBk
      have HBK : Hid (∀ W, Calls Tryz.prog 117 #[.int .u8 (UInt8.toNat t[p])] W _) := HBk
      clear HBk
      go_wp2_with fail
      go_quiet_grown (first | (go_at_call 117; refine Calls.grown_of ((HBK.out _).mono fun e W h => ⟨h.1, by rw [h.2]; exact Grew.refl _⟩)))
      have G : Hid (Grew wr (grow (wr.drewN nq) osq)) := ⟨nq, osq, rfl⟩
      clear g0 g1
      generalize grow (wr.drewN nq) osq = W1 at G ⊢
      clear nq osq
      have HR1 : Hid (RdAt W1 br t p en cl op hv) := HR.out.of (P := fun _ => True) (Fr.grew G.out) trivial
      have HF1 : Hid (Fr (· ≠ br) w W1) := HF.out.trans (Fr.grew G.out)
      have d1 := block_cell HR1.out 1
      have e1 := frozen_block HR1.out 1
      clear HR HF G
      cases b with
      | true =>
        have hle := hst'.1 rfl
        clear hst'
        go_wp2_with fail
        go_roundg (t.size - (p + 1))
        case measure => omega
        case rel =>
          refine ⟨p + 1, by omega, hle, Nat.le_refl _, ?_, ?_⟩
          · show RdAt _ _ _ _ _ _ _ _
            have := set_block HR1.out 1 (.int .i64 ((p : Int) + 1))
            simpa [RdAt] using this
          · exact HF1.out.set (by simp) _
      | false =>
        have HE : Hid (M = p) := hst'.2 rfl
        clear hst' d1 e1
        go_wp2_with fail
        have HTk : Hid (∀ W : World, Calls Tryz.prog 118 #[.string (t.extract p t.size)] W fun e w' => e = .returned (.tuple #[.int .i64 c, .int .i64 n]) ∧ Grew W w') := by
          intro W
          have := token_any (t.extract p t.size) W (by simp; omega)
          rw [show (t.extract p t.size).data.toList = t.data.toList.drop M from by rw [extract_list, List.take_of_length_le (by omega), HE.out], HT.out] at this
          exact this
        have hpn : (p : Int) ≤ (t.size : Int) := by omega
        obtain ⟨k0, k1, _, k3, _, q3, _⟩ := HR1.out.cells (Grew.refl W1)
        have hpt : ((p : Int)).toNat = p := by omega
        clear HM HT HBK
        generalize (t[p]).toNat = cc
        clear hlt
        clear hp1 hp2 hkx hMen hMs hen hl mo
        go_region_held3 (fun w' => w'.cell? ⟨br, 0, none⟩ = some (.string t) ∧ w'.cell? ⟨br, 1, none⟩ = some (.int .i64 p)) (first | (constructor <;> assumption) | (refine ⟨cell_off ?_ (by decide), cell_off ?_ (by decide)⟩ <;> assumption) | go_keep)
          ((go_at_call 118; refine (HTk.out _).mono ?_; rintro e w' ⟨rfl, hg⟩; obtain ⟨j0, j1, j2, j3, j4, j5, _⟩ := HR1.out.cells ((Grew.refl W1).drew.trans hg); have HG : Hid (Grew W1 w') := (Grew.refl W1).drew.trans hg; clear hg))
        have d1 : (w'.setCell ⟨br, 3, none⟩ (.int .i64 (c : Int))).cell? ⟨br, 1, none⟩ = some (.int .i64 (p : Int)) := cell_off j1 (by decide)
        have d2 : (w'.setCell ⟨br, 3, none⟩ (.int .i64 (c : Int))).cell? ⟨br, 2, none⟩ = some (.int .i64 (en : Int)) := cell_off j2 (by decide)
        have d3 : (w'.setCell ⟨br, 3, none⟩ (.int .i64 (c : Int))).frozen? ⟨br, 2, none⟩ = false := by simpa using j4
        have HR2 : Hid (RdAt (w'.setCell ⟨br, 3, none⟩ (.int .i64 (c : Int))) br t p en c op hv) := by
          show RdAt _ _ _ _ _ _ _ _
          have := set_block (HR1.out.of (P := fun _ => True) (Fr.grew HG.out) trivial) 3 (.int .i64 (c : Int))
          simpa [RdAt] using this
        have HF2 : Hid (Fr (· ≠ br) w (w'.setCell ⟨br, 3, none⟩ (.int .i64 (c : Int)))) := (HF1.out.trans (Fr.grew HG.out)).set (by simp) _
        clear j0 j1 j2 j3 j4 j5 HG HR1 HF1 HTk
        generalize w'.setCell ⟨br, 3, none⟩ (.int .i64 (c : Int)) = W2 at d1 d2 d3 HR2 HF2 ⊢
        have hpn : p + n ≤ 4000 := by have := HE.out; have := HL.out; omega
        go_wp2_with fail
        go_end0
        refine ⟨rfl, ?_, HF2.out.set (by simp) _⟩
        have := set_block HR2.out 2 (.int .i64 ((p : Int) + (n : Int)))
        rw [HL.out, HE.out]
        simpa [RdAt] using this
    · have HE : Hid (M = p) := by show M = p; omega
      have hpe : p = t.size := by omega
      have hnl : ¬ (p : Int) < (t.size : Int) := by omega
      have hd : decide ((p : Int) < (t.size : Int)) = false := by simp; omega
      clear g0 g1
      have b0 := block_cell HR.out 0
      have b1 := block_cell HR.out 1
      go_wp2_with fail
      go_quiet (fail)
      clear b0 b1
      have G : Hid (Grew wr (wr.drewN nq)) := (Grew.refl wr).drewN nq
      generalize wr.drewN nq = W1 at G ⊢
      clear nq
      have HR1 : Hid (RdAt W1 br t p en cl op hv) := HR.out.of (P := fun _ => True) (Fr.grew G.out) trivial
      have HF1 : Hid (Fr (· ≠ br) w W1) := HF.out.trans (Fr.grew G.out)
      clear HR HF G hd
      go_wp2_with fail
      have HTk : Hid (∀ W : World, Calls Tryz.prog 118 #[.string (t.extract p t.size)] W fun e w' => e = .returned (.tuple #[.int .i64 c, .int .i64 n]) ∧ Grew W w') := by
        intro W
        have := token_any (t.extract p t.size) W (by simp; omega)
        rw [show (t.extract p t.size).data.toList = t.data.toList.drop M from by rw [extract_list, List.take_of_length_le (by omega), HE.out], HT.out] at this
        exact this
      have hpn : (p : Int) ≤ (t.size : Int) := by omega
      obtain ⟨k0, k1, _, k3, _, q3, _⟩ := HR1.out.cells (Grew.refl W1)
      have hpt : ((p : Int)).toNat = p := by omega
      clear HM HT
      clear hlt hnl hpe
      clear hp1 hp2 hkx hMen hMs hen hl mo
      go_region_held3 (fun w' => w'.cell? ⟨br, 0, none⟩ = some (.string t) ∧ w'.cell? ⟨br, 1, none⟩ = some (.int .i64 p)) (first | (constructor <;> assumption) | (refine ⟨cell_off ?_ (by decide), cell_off ?_ (by decide)⟩ <;> assumption) | go_keep)
        ((go_at_call 118; refine (HTk.out _).mono ?_; rintro e w' ⟨rfl, hg⟩; obtain ⟨j0, j1, j2, j3, j4, j5, _⟩ := HR1.out.cells ((Grew.refl W1).drew.trans hg); have HG : Hid (Grew W1 w') := (Grew.refl W1).drew.trans hg; clear hg))
      have d1 : (w'.setCell ⟨br, 3, none⟩ (.int .i64 (c : Int))).cell? ⟨br, 1, none⟩ = some (.int .i64 (p : Int)) := cell_off j1 (by decide)
      have d2 : (w'.setCell ⟨br, 3, none⟩ (.int .i64 (c : Int))).cell? ⟨br, 2, none⟩ = some (.int .i64 (en : Int)) := cell_off j2 (by decide)
      have d3 : (w'.setCell ⟨br, 3, none⟩ (.int .i64 (c : Int))).frozen? ⟨br, 2, none⟩ = false := by simpa using j4
      have HR2 : Hid (RdAt (w'.setCell ⟨br, 3, none⟩ (.int .i64 (c : Int))) br t p en c op hv) := by
        show RdAt _ _ _ _ _ _ _ _
        have := set_block (HR1.out.of (P := fun _ => True) (Fr.grew HG.out) trivial) 3 (.int .i64 (c : Int))
        simpa [RdAt] using this
      have HF2 : Hid (Fr (· ≠ br) w (w'.setCell ⟨br, 3, none⟩ (.int .i64 (c : Int)))) := (HF1.out.trans (Fr.grew HG.out)).set (by simp) _
      clear j0 j1 j2 j3 j4 j5 HG HR1 HF1 HTk
      generalize w'.setCell ⟨br, 3, none⟩ (.int .i64 (c : Int)) = W2 at d1 d2 d3 HR2 HF2 ⊢
      have hpn : p + n ≤ 4000 := by have := HE.out; have := HL.out; omega
      go_wp2_with fail
      go_end0
      refine ⟨rfl, ?_, HF2.out.set (by simp) _⟩
      have := set_block HR2.out 2 (.int .i64 ((p : Int) + (n : Int)))
      rw [HL.out, HE.out]
      simpa [RdAt] using this
end Go.Proofs.YtbogejmmkohbkaaGreatDoor.Sx
