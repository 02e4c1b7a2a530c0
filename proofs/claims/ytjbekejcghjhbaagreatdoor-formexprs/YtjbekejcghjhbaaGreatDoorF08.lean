/- The reader of expressions: its block, going on to the next token. -/
import Derived.Test.YtjbekejcghjhbaaGreatDoorF05
import Derived.Test.YtjbekejcghjhbaaGreatDoorF06
import Derived.Deep.Cut
import Derived.Deep.CutRange
import Derived.Deep.DeepCutAuto
namespace Go.Proofs.YtjbekejcghjhbaaGreatDoor.Sx
open Go.RowKit Go.Sort

/-- the reader's block -/
def RdB (w : World) (br : Nat) (t : ByteArray) (a : Nat) (p : ByteArray) (c d : Nat) : Prop :=
  w.heap[br]? = some (.cells #[.string t, .int .i64 a, .string p, .int .i64 c, .int .i64 d] 199 (0, 0))
def pcF (t : ByteArray) (i : Nat) : ByteArray := t.extract (atF t.data.toList i) (atF t.data.toList i + lenF t.data.toList i)
/-- the reader stands at a token -/
def RdF (w : World) (br : Nat) (t : ByteArray) (i d : Nat) : Prop := RdB w br t (atF t.data.toList i) (pcF t i) (clF t.data.toList i) d
theorem pcF_list (t : ByteArray) (i : Nat) : (pcF t i).data.toList = txF t.data.toList i := by
  unfold pcF txF; rw [extract_list, List.drop_take]; congr 1; omega
theorem pcF_size (t : ByteArray) (i : Nat) : (pcF t i).size = lenF t.data.toList i := by
  have h := congrArg List.length (pcF_list t i)
  rw [txF_length] at h; simpa using h

theorem RdB.of {w w' : World} {br : Nat} {t : ByteArray} {a : Nat} {p : ByteArray} {c d : Nat} (h : RdB w br t a p c d) {P : Nat → Prop} (f : Fr P w w') (hp : P br) : RdB w' br t a p c d := (f.block br (block_lt h) hp).trans h
theorem RdF.of {w w' : World} {br : Nat} {t : ByteArray} {i d : Nat} (h : RdF w br t i d) {P : Nat → Prop} (f : Fr P w w') (hp : P br) : RdF w' br t i d := RdB.of h f hp

theorem RdB.setAt {w : World} {br : Nat} {t : ByteArray} {a : Nat} {p : ByteArray} {c d : Nat} (h : RdB w br t a p c d) {x : Int} {a' : Nat} (hx : x = (a' : Int)) : RdB (w.setCell ⟨br, 1, none⟩ (.int .i64 x)).drew br t a' p c d := by
  have := set_block h 1 (.int .i64 x)
  refine RdB.of (P := fun _ => True) (w := w.setCell ⟨br, 1, none⟩ (.int .i64 x)) ?_ (Fr.grew (Grew.refl _).drew) trivial
  rw [hx] at this ⊢
  simpa [RdB] using this
theorem RdB.setCl {w : World} {br : Nat} {t : ByteArray} {a : Nat} {p : ByteArray} {c d : Nat} (h : RdB w br t a p c d) (c' : Nat) : RdB (w.setCell ⟨br, 3, none⟩ (.int .i64 (c' : Int))) br t a p c' d := by
  have := set_block h 3 (.int .i64 (c' : Int))
  simpa [RdB] using this
theorem RdB.setPc {w : World} {br : Nat} {t : ByteArray} {a : Nat} {p : ByteArray} {c d : Nat} (h : RdB w br t a p c d) (p' : ByteArray) : RdB (w.setCell ⟨br, 2, none⟩ (.string p')).drew br t a p' c d := by
  have := set_block h 2 (.string p')
  refine RdB.of (P := fun _ => True) (w := w.setCell ⟨br, 2, none⟩ (.string p')) ?_ (Fr.grew (Grew.refl _).drew) trivial
  simpa [RdB] using this

set_option maxRecDepth 100000 in
set_option maxHeartbeats 1000000 in
theorem fadvance_walk (w : World) (br : Nat) (t p : ByteArray) (a c d A B cl n : Nat) (hr : RdB w br t a p c d) (ht : t.size ≤ 4000) (hA : a + p.size = A) (hAt : A ≤ t.size)
    (hB : ∀ W, Calls Tryz.prog 244 #[.string (t.extract A t.size)] W fun e w' => e = .returned (.int .i64 B) ∧ w' = W) (hBt : A + B + n ≤ t.size)
    (hT : ∀ W, Calls Tryz.prog 245 #[.string (t.extract (A + B) t.size)] W fun e w' => e = .returned (.tuple #[.int .i64 cl, .int .i64 n]) ∧ Grew W w') :
    Calls Tryz.prog 146 #[.pointer (some ⟨br, 0, none⟩)] w fun e w' => e = .returned (.tuple #[]) ∧ RdB w' br t (A + B) (t.extract (A + B) (A + B + n)) cl d ∧ Fr (· ≠ br) w w' := by
  have HB : Hid (∀ W : World, _) := hB
  have HT : Hid (∀ W : World, _) := hT
  have HR : Hid (RdB w br t a p c d) := hr
  obtain ⟨c0, c1, c2, c3, c4⟩ := cells5 hr
  obtain ⟨f0, f1, f2, f3, f4⟩ := frozens5 hr
  clear hB hT hr
  have mo := follows
  go_enter Tryz.func146, Tryz.ntmps146
  have hap : a + p.size ≤ 4000 := by omega
  have G : Hid (Grew w w.drew) := (Grew.refl w).drew
  have HR1 := HR.out.of (P := fun _ => True) (Fr.grew G.out) trivial
  obtain ⟨k0, k1, k2, k3, k4⟩ := cells5 HR1
  obtain ⟨g0, g1, g2, g3, g4⟩ := frozens5 HR1
  go_wp2_with fail
  go_big_region_o
  clear c0 c1 c2 c3 c4 f0 f1 f2 f3 f4 k0 k1 k2 k3 k4 g0 g1 g2 g3 g4 HR1 G
  have R1 : Hid (RdB (w.setCell ⟨br, 1, none⟩ (.int .i64 ((a : Int) + (p.size : Int)))).drew br t A p c d) := HR.out.setAt (by omega)
  have F1 : Hid (Fr (· ≠ br) w (w.setCell ⟨br, 1, none⟩ (.int .i64 ((a : Int) + (p.size : Int)))).drew) := ((Fr.refl _ w).set (by simp) _).drew
  clear HR hA hap
  generalize (a : Int) + (p.size : Int) = x1 at R1 F1 ⊢
  generalize (w.setCell ⟨br, 1, none⟩ (.int .i64 x1)).drew = W1 at R1 F1 ⊢
  obtain ⟨c0, c1, c2, c3, c4⟩ := cells5 R1.out
  have f1 := frozen_block R1.out 1
  have R1d : Hid (RdB W1.drew br t A p c d) := R1.out.of (P := fun _ => True) (Fr.grew (Grew.refl _).drew) trivial
  obtain ⟨k0, k1, k2, k3, k4⟩ := cells5 R1d.out
  have g1 := frozen_block R1d.out 1
  have hAi : (A : Int) ≤ (t.size : Int) := by omega
  have hAn : ((A : Int)).toNat = A := by omega
  have F1d : Hid (Fr (· ≠ br) w W1.drew) := F1.out.drew
  have hAB : A + B ≤ 4000 := by omega
  go_upto_region 1 with fail
  go_cut [] (fun wx => Hid (RdB wx br t (A + B) p c d) ∧ Hid (Fr (· ≠ br) w wx))
  case first =>
    go_region_with (go_at_call 244; refine (HB.out _).mono ?_; rintro e w' ⟨rfl, hw⟩; cases hw)
    all_goals
      go_wp2_with fail
      go_meet
      case rel =>
        have e : IntKind.i64.wrap ((A : Int) + (B : Int)) = ((A + B : Nat) : Int) := by simp [IntKind.wrap_i64]; omega
        exact ⟨R1.out.setAt e, (F1.out.set (by simp) _).drew⟩
  case rest =>
    obtain ⟨R2, F2⟩ := hcut
    clear c0 c1 c2 c3 c4 f1 k0 k1 k2 k3 k4 g1 R1 R1d F1 F1d hAi hAn HB
    have HRc : Hid (∀ W, Grew wc W → W.cell? ⟨br, 0, none⟩ = some (.string t) ∧ W.cell? ⟨br, 1, none⟩ = some (.int .i64 ((A + B : Nat) : Int)) ∧ W.cell? ⟨br, 3, none⟩ = some (.int .i64 c) ∧ W.frozen? ⟨br, 3, none⟩ = false) := by
      intro W g
      have h := R2.out.of (P := fun _ => True) (Fr.grew g) trivial
      exact ⟨block_cell h 0, block_cell h 1, block_cell h 3, frozen_block h 3⟩
    generalize hM : A + B = M at *
    have hMi : (M : Int) ≤ (t.size : Int) := by omega
    have hMn : ((M : Int)).toNat = M := by omega
    obtain ⟨k0, k1, k3, q3⟩ := HRc.out wc (Grew.refl wc)
    have HM : Hid (A + B = M) := hM
    clear hM hAt hAB
    go_upto_region 3 with fail
    go_region_held3 (fun w' => w'.cell? ⟨br, 0, none⟩ = some (.string t) ∧ w'.cell? ⟨br, 1, none⟩ = some (.int .i64 M)) (first | (constructor <;> assumption) | (refine ⟨cell_off ?_ (by decide), cell_off ?_ (by decide)⟩ <;> assumption) | go_keep)
        ((go_at_call 245; refine (HT.out _).mono ?_; rintro e w' ⟨rfl, hg⟩; obtain ⟨j0, j1, j3, j4⟩ := HRc.out _ ((Grew.refl wc).drew.trans hg); have HG : Hid (Grew wc w') := (Grew.refl wc).drew.trans hg; clear hg))
    have R3 : Hid (RdB (w'.setCell ⟨br, 3, none⟩ (.int .i64 (cl : Int))) br t M p cl d) := (R2.out.of (P := fun _ => True) (Fr.grew HG.out) trivial).setCl cl
    have F3 : Hid (Fr (· ≠ br) w (w'.setCell ⟨br, 3, none⟩ (.int .i64 (cl : Int)))) := (F2.out.trans (Fr.grew HG.out)).set (by simp) _
    clear j0 j1 j3 j4 k0 k1 k3 q3 HG R2 F2 HRc HT
    generalize w'.setCell _ _ = W3 at R3 F3 ⊢
    have R3d : Hid (RdB W3.drew br t M p cl d) := R3.out.of (P := fun _ => True) (Fr.grew (Grew.refl _).drew) trivial
    obtain ⟨c0, c1, c2, c3, c4⟩ := cells5 R3.out
    obtain ⟨k0, k1, k2, k3, k4⟩ := cells5 R3d.out
    have f2 := frozen_block R3.out 2
    have g2 := frozen_block R3d.out 2
    have hni : (M : Int) + (n : Int) ≤ (t.size : Int) := by omega
    have hn0 : (M : Int) ≤ (M : Int) + (n : Int) := by omega
    have hnn : ((M : Int) + (n : Int)).toNat = M + n := by omega
    have hw4 : M + n ≤ 4000 := by omega
    clear c3 c4 k3 k4
    go_wp2_with fail
    go_big_region_o
    have R4 : Hid (RdB _ br t M _ cl d) := R3.out.setPc (t.extract M (M + n))
    have F4 : Hid (Fr (· ≠ br) w (W3.setCell ⟨br, 2, none⟩ (.string (t.extract M (M + n)))).drew) := (F3.out.set (by simp) _).drew
    clear c0 c1 c2 k0 k1 k2 f2 g2 R3 R3d F3
    go_wp2_with fail
    go_end0
    rw [HM.out]
    exact ⟨rfl, R4.out, F4.out⟩

theorem fadvance_any (w : World) (br : Nat) (t p : ByteArray) (a c d i : Nat) (hr : RdB w br t a p c d) (ht : t.size ≤ 4000) (hA : a + p.size = posF t.data.toList i) :
    Calls Tryz.prog 146 #[.pointer (some ⟨br, 0, none⟩)] w fun e w' => e = .returned (.tuple #[]) ∧ RdF w' br t i d ∧ Fr (· ≠ br) w w' := by
  have hl : t.data.toList.length = t.size := by simp
  have h1 := posF_le t.data.toList i
  have h2 := atF_le t.data.toList i
  have hd : ∀ k, k ≤ t.size → (t.extract k t.size).data.toList = t.data.toList.drop k := fun k hk => by rw [extract_list, List.take_of_length_le (by omega)]
  exact fadvance_walk w br t p a c d (posF t.data.toList i) (btw false (t.data.toList.drop (posF t.data.toList i))) (clF t.data.toList i) (lenF t.data.toList i) hr ht hA (by omega)
    (fun W => by have := fbetween_any (t.extract (posF t.data.toList i) t.size) W (by simp; omega); rw [hd _ (by omega)] at this; exact this)
    (by have := h2.2.2; unfold atF at this; omega)
    (fun W => by have := ftoken_any (t.extract (atF t.data.toList i) t.size) W (by simp; omega); rw [hd _ (by omega)] at this; exact this)
/-- going on -/
theorem fadvance_st (w : World) (br : Nat) (t : ByteArray) (i d : Nat) (hr : RdF w br t i d) (ht : t.size ≤ 4000) :
    Calls Tryz.prog 146 #[.pointer (some ⟨br, 0, none⟩)] w fun e w' => e = .returned (.tuple #[]) ∧ RdF w' br t (i + 1) d ∧ Fr (· ≠ br) w w' :=
  fadvance_any w br t _ _ _ d (i + 1) hr ht (by rw [pcF_size, posF_succ])
end Go.Proofs.YtjbekejcghjhbaaGreatDoor.Sx
