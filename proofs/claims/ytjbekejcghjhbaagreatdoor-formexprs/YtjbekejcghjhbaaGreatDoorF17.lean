/- A text is read whole; what a fault comes to. -/
import Derived.Test.YtjbekejcghjhbaaGreatDoorF16
import Derived.Recover
import Derived.Test.YtjbekejcghjhbaaGreatDoorF04
import Derived.Test.YtjbekejcghjhbaaGreatDoorShelf
namespace Go.Proofs.YtjbekejcghjhbaaGreatDoor.Sx
open Go.RowKit Go.Sort

set_option maxRecDepth 100000 in
set_option maxHeartbeats 1000000 in
theorem catch_idle (p q : Addr) (w : World) :
    CallsD Tryz.prog 145 #[.pointer (some p), .pointer (some q)] .returning w fun e u' w' => e = .returned (.tuple #[]) ∧ u' = .returning ∧ w' = w := by
  refine callsD_of_wpS Tryz.func145 rfl fun c₀ cs hu => ?_
  apply wpS_seq
  apply wpS_region
  simp [wpOpsS, go_sem, recoverD, hu, Tryz.ntmps145, Exit.thenS]
  refine wpS_of_wp ?_
  go_wp2_with fail
  cases c₀
  simp_all [bodyPostS, results, Tryz.results145]
theorem assert_fault (x : Value) (w : World) : (Instr.typeAssert (.iface 196 x) 20 196 true).run Tryz.prog w = .ok (.tuple #[x, .bool true]) w := by kernel_rfl
attribute [local go_sem] assert_fault
set_option maxRecDepth 100000 in
set_option maxHeartbeats 1000000 in
theorem catch_fault (bp bq : Nat) (c a : Nat) (w : World) (hp : w.heap[bp]? = some (.cells #[.int .i64 0] 3 (0, 0))) (hq : w.heap[bq]? = some (.cells #[.nilIface] 25 (0, 0))) (hne : bp ≠ bq) :
    CallsD Tryz.prog 145 #[.pointer (some ⟨bp, 0, none⟩), .pointer (some ⟨bq, 0, none⟩)] (.panicking [{ v := .iface 196 (.agg #[.int .i64 (a : Int), .int .i64 (c : Int)]), recovered := false }]) w fun e u' w' =>
      e = .returned (.tuple #[]) ∧ u' = .panicking [{ v := .iface 196 (.agg #[.int .i64 (a : Int), .int .i64 (c : Int)]), recovered := true }] ∧ Fr (fun k => k ≠ bp ∧ k ≠ bq) w w' ∧ w'.cell? ⟨bp, 0, none⟩ = some (.int .i64 (a : Int)) ∧ w'.cell? ⟨bq, 0, none⟩ = some (.iface 61 (.int .i64 (c : Int))) := by
  refine callsD_of_wpS Tryz.func145 rfl fun c₀ cs hu => ?_
  apply wpS_seq
  apply wpS_region
  simp [wpOpsS, go_sem, recoverD, hu, Tryz.ntmps145, Exit.thenS]
  refine wpS_of_wp (a := { tmps := #[.pointer (some ⟨bp, 0, none⟩), .pointer (some ⟨bq, 0, none⟩), undef, undef, undef, .iface 196 (.agg #[.int .i64 (a : Int), .int .i64 (c : Int)]), undef, undef, undef, undef, undef, undef, undef, undef, undef, undef], defers := [] }) ?_
  have mo := follows
  have hfa : Fr (fun _ => True) w (w.alloc (.cells #[.int .i64 (a : Int), .int .i64 (c : Int)] 196)) := (Fr.refl _ w).alloc _
  have HP : Hid (_ = _) := (hfa.block bp (block_lt hp) trivial).trans hp
  have HQ : Hid (_ = _) := (hfa.block bq (block_lt hq) trivial).trans hq
  have HB : Hid ((w.alloc (.cells #[.int .i64 (a : Int), .int .i64 (c : Int)] 196)).heap[w.heap.size]? = some (.cells #[.int .i64 (a : Int), .int .i64 (c : Int)] 196 (0, 0))) := heap_new rfl
  have HF : Hid (Fr _ w (w.alloc _)) := hfa
  have hpl := block_lt hp
  have hql := block_lt hq
  clear hp hq hfa
  go_wp2_with fail
  generalize w.alloc (.cells #[.int .i64 (a : Int), .int .i64 (c : Int)] 196) = W1 at HP HQ HB HF ⊢
  obtain ⟨bf, hbf⟩ : ∃ bf, w.heap.size = bf := ⟨_, rfl⟩
  rw [hbf] at HB hpl hql ⊢
  clear hbf
  have hdr : Fr (fun _ => True) W1 W1.drew := Fr.grew (Grew.refl W1).drew
  have c0 := block_cell HB.out 0
  have c1 := block_cell HB.out 1
  have d0 := block_cell ((hdr.block bf (block_lt HB.out) trivial).trans HB.out) 0
  have d1 := block_cell ((hdr.block bf (block_lt HB.out) trivial).trans HB.out) 1
  have p0 := block_cell HP.out 0
  have p0d := block_cell ((hdr.block bp (block_lt HP.out) trivial).trans HP.out) 0
  have q0 := block_cell HQ.out 0
  have q0d := block_cell ((hdr.block bq (block_lt HQ.out) trivial).trans HQ.out) 0
  have f0 := frozen_block HP.out 0
  have f0d := frozen_block ((hdr.block bp (block_lt HP.out) trivial).trans HP.out) 0
  have g0 := frozen_block HQ.out 0
  have g0d := frozen_block ((hdr.block bq (block_lt HQ.out) trivial).trans HQ.out) 0
  clear hdr
  have n1 : bp ≠ bf := by omega
  have n2 : bq ≠ bf := by omega
  go_big_region_o
  have Z1 : Hid (Fr (fun k => k ≠ bp ∧ k ≠ bq) w ((W1.setCell ⟨bp, 0, none⟩ (.int .i64 (a : Int))).setCell ⟨bq, 0, none⟩ (.iface 61 (.int .i64 (c : Int)))).drew) := (((HF.out.mono fun _ _ => trivial).set (by simp) _).set (by simp) _).drew
  have hqs : (W1.setCell ⟨bp, 0, none⟩ (.int .i64 (a : Int))).heap[bq]? = some (.cells #[.nilIface] 25 (0, 0)) := (Below.heap_setCell _ _ _ bq (by simp; omega)).trans HQ.out
  have hps : (W1.setCell ⟨bp, 0, none⟩ (.int .i64 (a : Int))).heap[bp]? = some (.cells #[.int .i64 (a : Int)] 3 (0, 0)) := by have := set_block HP.out 0 (.int .i64 (a : Int)); simpa using this
  have Z2 : Hid (((W1.setCell ⟨bp, 0, none⟩ (.int .i64 (a : Int))).setCell ⟨bq, 0, none⟩ (.iface 61 (.int .i64 (c : Int)))).drew.cell? ⟨bp, 0, none⟩ = some (.int .i64 (a : Int))) := by
    have h1 := (Below.heap_setCell (W1.setCell ⟨bp, 0, none⟩ (.int .i64 (a : Int))) ⟨bq, 0, none⟩ (.iface 61 (.int .i64 (c : Int))) bp (by simp; omega)).trans hps
    exact block_cell (((Fr.grew (P := fun _ => True) (Grew.refl _).drew).block bp (block_lt h1) trivial).trans h1) 0
  have Z3 : Hid (((W1.setCell ⟨bp, 0, none⟩ (.int .i64 (a : Int))).setCell ⟨bq, 0, none⟩ (.iface 61 (.int .i64 (c : Int)))).drew.cell? ⟨bq, 0, none⟩ = some (.iface 61 (.int .i64 (c : Int)))) := by
    have h1 := set_block hqs 0 (.iface 61 (.int .i64 (c : Int)))
    exact block_cell (((Fr.grew (P := fun _ => True) (Grew.refl _).drew).block bq (block_lt h1) trivial).trans h1) 0
  clear c0 c1 d0 d1 p0 p0d q0 q0d f0 f0d g0 g0d hqs hps HP HQ HB HF
  generalize ((W1.setCell ⟨bp, 0, none⟩ (.int .i64 (a : Int))).setCell ⟨bq, 0, none⟩ (.iface 61 (.int .i64 (c : Int)))).drew = W2 at Z1 Z2 Z3 ⊢
  have z1 := Z1.out
  have z2 := Z2.out
  have z3 := Z3.out
  simp (config := { zetaDelta := true }) [Exit.inBlock, bodyPostS, results, Tryz.results145, z1, z2, z3]
end Go.Proofs.YtjbekejcghjhbaaGreatDoor.Sx

namespace Go.Proofs.YtjbekejcghjhbaaGreatDoor.Sx
open Go.RowKit Go.Sort

set_option maxRecDepth 100000 in
theorem strClone_any (s : ByteArray) (w : World) (hs : s.size ≤ 4000) : Calls Tryz.prog 121 #[.string s] w fun e w' => e = .returned (.string s) ∧ Below w.heap.size w w' := by
  have HC : Hid (Calls _ _ _ _ _) := Tryz.stringslite_Clone s w (by omega)
  go_enter Tryz.func121, Tryz.ntmps121
  go_wp2_with (go_at_call 172; refine HC.out.mono ?_; rintro e w' ⟨rfl, hb⟩; have HB : Hid (Below w.heap.size w w') := hb; clear hb)
  go_ret
  exact ⟨rfl, HB.out⟩

theorem Fr.newer {P : Nat → Prop} {w w0 w' : World} (h : Fr (fun _ => True) w w0) (f : Fr P w0 w') (hp : ∀ k, k < w.heap.size → P k) : Fr (fun _ => True) w w' :=
  ⟨f.os.trans h.os, f.tape.trans h.tape, f.output.trans h.output, Nat.le_trans h.size f.size, fun k hk _ => (f.block k (Nat.lt_of_lt_of_le hk h.size) (hp k hk)).trans (h.block k hk trivial)⟩
/-- a text as an expression, and nothing behind it -/
def wholeX (K : Nat → Tk) (f : Nat) : RX PX := bX (progX K f 0 0 0) fun x j => if (K j).cl = 0 then okX x j else errX 1 (K j).at'
def WholePost (w : World) (r : Except (Nat × Nat) (PX × Nat)) (e : Ending) (w' : World) : Prop :=
  Fr (fun _ => True) w w' ∧ match r with
    | .ok (x, _) => ∃ v, e = .returned (.tuple #[v, .int .i64 0, .nilIface]) ∧ TreeE (fun k => w.heap.size ≤ k) w' x v
    | .error (c, p) => e = .returned (.tuple #[.pointer none, .int .i64 (p : Int), .iface 61 (.int .i64 (c : Int))])
theorem EnvF.at {w w' : World} {br : Nat} (h : EnvF w w.heap.size) (f : Fr (fun _ => True) w w') (hb : w.heap.size ≤ br) : EnvF w' br := by
  obtain ⟨g1, g2, ⟨ev, g3, g4⟩, g5, ew, g6, g7⟩ := h
  exact ⟨by omega, Nat.lt_of_lt_of_le g2 f.size, ⟨ev, (World.cell?_of_block (w := w) (f.block 4 g2 trivial)).trans g3, g4⟩, by omega, ew, (World.cell?_of_block (w := w) (f.block 3 (by omega) trivial)).trans g6, g7⟩
set_option maxRecDepth 100000 in
set_option maxHeartbeats 2000000 in
theorem fwhole_any (t : ByteArray) (w : World) (ht : t.size ≤ 1000) (hI : EnvF w w.heap.size) (f : Nat) (hf : f ≤ 1000000) (r : Except (Nat × Nat) (PX × Nat)) (h : wholeX (tkF t.data.toList) f = some r) :
    Calls Tryz.prog 94 #[.string t, .int .i64 1000, .func (.func 95) #[] #[]] w (WholePost w r) := by
  have hmf : ∀ (fn : Fn) (first cap : Array Value) (w : World), (Instr.makeFunc fn first cap).run Tryz.prog w = .ok (.func fn first cap) w := fun _ _ _ _ => rfl
  have ht' : ¬ (1000 : Int) < (t.size : Int) := by omega
  have mo := follows
  have HI : Hid (EnvF w w.heap.size) := hI
  have HC : Hid (∀ W : World, _) := fun W => strClone_any t W (by omega)
  have HP0 : Hid (((w.alloc (.cells #[.int .i64 0] 3)).alloc (.cells #[.nilIface] 25)).heap[w.heap.size]? = some (.cells #[.int .i64 0] 3 (0, 0))) := by
    have h1 : (w.alloc (.cells #[.int .i64 0] 3)).heap[w.heap.size]? = some (.cells #[.int .i64 0] 3 (0, 0)) := heap_new rfl
    exact (((Fr.refl (fun _ => True) _).alloc _).block _ (block_lt h1) trivial).trans h1
  have HQ0 : Hid (((w.alloc (.cells #[.int .i64 0] 3)).alloc (.cells #[.nilIface] 25)).heap[w.heap.size + 1]? = some (.cells #[.nilIface] 25 (0, 0))) := heap_new (by simp)
  have HF0 : Hid (Fr (fun _ => True) w ((w.alloc (.cells #[.int .i64 0] 3)).alloc (.cells #[.nilIface] 25))) := ((Fr.refl _ w).alloc _).alloc _
  clear hI
  unfold wholeX at h
  go_enter_defers Tryz.func94, Tryz.ntmps94
  go_wp2_with fail
  generalize (w.alloc (.cells #[.int .i64 0] 3)).alloc (.cells #[.nilIface] 25) = w0 at HP0 HQ0 HF0 ⊢
  obtain ⟨bp, hbp⟩ : ∃ bp, w.heap.size = bp := ⟨_, rfl⟩
  rw [hbp] at HP0 HQ0 ⊢
  have hwp : w.heap.size ≤ bp := by omega
  clear hbp
  refine (HC.out w0).mono ?_
  rintro e w1 ⟨rfl, hb⟩
  have hlp := block_lt HP0.out
  have hlq := block_lt HQ0.out
  have HF1 : Hid (Fr (fun _ => True) w0 w1) := Fr.below hb
  clear hb HC
  have R2 : Hid (RdB (w1.alloc (.cells #[.string t, .int .i64 0, .string ⟨#[]⟩, .int .i64 0, .int .i64 0] 199)) w1.heap.size t 0 ⟨#[]⟩ 0 0) := heap_new rfl
  have HF2 : Hid (Fr (fun _ => True) w0 (w1.alloc (.cells #[.string t, .int .i64 0, .string ⟨#[]⟩, .int .i64 0, .int .i64 0] 199))) := HF1.out.alloc _
  have h10 := HF1.out.size
  go_wp2_with fail
  generalize w1.alloc (.cells #[.string t, .int .i64 0, .string ⟨#[]⟩, .int .i64 0, .int .i64 0] 199) = w2 at R2 HF2 ⊢
  obtain ⟨br, hbr⟩ : ∃ br, w1.heap.size = br := ⟨_, rfl⟩
  rw [hbr] at R2 h10 ⊢
  clear hbr HF1
  refine (fadvance_any w2 br t ⟨#[]⟩ 0 0 0 0 R2.out (by omega) rfl).mono ?_
  rintro e w3 ⟨rfl, hr, hf3⟩
  have R3 : Hid (RdF w3 br t 0 0) := hr
  have F3 : Hid (Fr (fun k => k ≠ br) w0 w3) := (HF2.out.mono fun _ _ => trivial).trans hf3
  clear hr hf3 R2 HF2
  have hI3 : Hid (EnvF w3 br) := EnvF.at HI.out (HF0.out.newer F3.out fun k hk => by omega) (by omega)
  go_wp2_with fail
  rcases bX_cases h with ⟨⟨c, p⟩, hn, rfl⟩ | ⟨x, j, hn, hk⟩
  · refine (fexpr_any (progX_self br t (by omega) f hf) w3 0 0 _ (by omega) hI3.out R3.out hn).mono ?_
    rintro e w4 ⟨hf4, rfl⟩
    have F4 : Hid (Fr (fun k => k ≠ br) w0 w4) := F3.out.trans hf4
    unfold Flt
    refine leaves_cons (f := 145) (args := #[.pointer (some ⟨bp, 0, none⟩), .pointer (some ⟨bp + 1, 0, none⟩)]) (by simp) (by simp [go_sem]) ?_
    refine (catch_fault bp (bp + 1) _ _ w4 ((F4.out.block bp hlp (by omega)).trans HP0.out) ((F4.out.block (bp + 1) hlq (by omega)).trans HQ0.out) (by omega)).mono ?_
    rintro e u' w5 ⟨rfl, rfl, hF, hc0, hc1⟩
    have HW : WholePost w (.error (c, p)) (.returned (.tuple #[.pointer none, .int .i64 (p : Int), .iface 61 (.int .i64 (c : Int))])) w5 := ⟨(HF0.out.newer F4.out fun k hk => by omega).newer hF fun k hk => by omega, rfl⟩
    simpa [Leaves, settle, results, Tryz.results94, go_sem, hc0, hc1] using HW
  refine (fexpr_any (progX_self br t (by omega) f hf) w3 0 0 _ (by omega) hI3.out R3.out hn).mono ?_
  rintro e w4 ⟨hf4, ⟨v, rfl, hv⟩, hr⟩
  have F4 : Hid (Fr (fun k => k ≠ br) w0 w4) := F3.out.trans hf4
  have R4 : Hid (RdF w4 br t j 0) := hr
  have T4 : Hid (TreeE (fun k => w3.heap.size ≤ k) w4 x v) := hv
  have hcl : (tkF t.data.toList j).cl = clF t.data.toList j := rfl
  have hat : (tkF t.data.toList j).at' = atF t.data.toList j := rfl
  rw [hcl, hat] at hk
  have h3 := block_cell hr 3
  have h30 := F3.out.size
  have h40 := hf4.size
  have hFw : Hid (Fr (fun _ => True) w w4) := HF0.out.newer F4.out fun k hk => by omega
  have HFL : Hid (Calls _ _ _ _ _) := ffail_any w4 br t j 0 1 hr
  clear hf4 hv hr hn hcl hat
  obtain ⟨bx, rfl, -, -⟩ := T4.out.ptr
  by_cases q : clF t.data.toList j = 0
  · rw [q] at h3
    rw [if_pos q] at hk
    have HQ : Hid (r = .ok (x, j)) := by simp only [okX, Option.some.injEq] at hk; exact hk.symm
    have HP4 : Hid (w4.heap[bp]? = _) := (F4.out.block bp hlp (by omega)).trans HP0.out
    have HQ4 : Hid (w4.heap[bp + 1]? = _) := (F4.out.block (bp + 1) hlq (by omega)).trans HQ0.out
    have p0 := block_cell HP4.out 0
    have f0 := frozen_block HP4.out 0
    have q0 := block_cell HQ4.out 0
    have g0 := frozen_block HQ4.out 0
    clear hk q h
    go_wp2_with fail
    have hF5 : Fr (fun k => k ≠ bp ∧ k ≠ bp + 1) w4 ((w4.setCell ⟨bp, 0, none⟩ (.int .i64 0)).setCell ⟨bp + 1, 0, none⟩ .nilIface) := ((Fr.refl _ w4).set (by simp) _).set (by simp) _
    have hq1 : (w4.setCell ⟨bp, 0, none⟩ (.int .i64 0)).heap[bp + 1]? = some (.cells #[.nilIface] 25 (0, 0)) := (Below.heap_setCell _ _ _ (bp + 1) (by simp)).trans HQ4.out
    have hp1 : (w4.setCell ⟨bp, 0, none⟩ (.int .i64 0)).heap[bp]? = some (.cells #[.int .i64 0] 3 (0, 0)) := by have := set_block HP4.out 0 (.int .i64 0); simpa using this
    have c0 : ((w4.setCell ⟨bp, 0, none⟩ (.int .i64 0)).setCell ⟨bp + 1, 0, none⟩ .nilIface).cell? ⟨bp, 0, none⟩ = some (.int .i64 0) := block_cell ((Below.heap_setCell _ ⟨bp + 1, 0, none⟩ .nilIface bp (by simp)).trans hp1) 0
    have c1 : ((w4.setCell ⟨bp, 0, none⟩ (.int .i64 0)).setCell ⟨bp + 1, 0, none⟩ .nilIface).cell? ⟨bp + 1, 0, none⟩ = some .nilIface := block_cell (set_block hq1 0 .nilIface) 0
    have HW : WholePost w (.ok (x, j)) (.returned (.tuple #[.pointer (some ⟨bx, 0, none⟩), .int .i64 0, .nilIface])) ((w4.setCell ⟨bp, 0, none⟩ (.int .i64 0)).setCell ⟨bp + 1, 0, none⟩ .nilIface) :=
      ⟨hFw.out.newer hF5 fun k hk => by omega, _, rfl, T4.out.fr (hF5.mono fun k q => by omega) fun k _ q => by omega⟩
    rw [HQ.out]
    clear hp1 hq1 hF5 p0 f0 q0 g0 h3
    generalize (w4.setCell ⟨bp, 0, none⟩ (.int .i64 0)).setCell ⟨bp + 1, 0, none⟩ .nilIface = w5 at c0 c1 HW ⊢
    refine leaves_cons (f := 145) (args := #[.pointer (some ⟨bp, 0, none⟩), .pointer (some ⟨bp + 1, 0, none⟩)]) (by simp) (by simp [go_sem]) ?_
    refine (catch_idle _ _ _).mono ?_
    rintro e u' w6 ⟨rfl, rfl, hw⟩
    cases hw
    simpa [Leaves, settle, results, Tryz.results94, go_sem, c0, c1] using HW
  · rw [if_neg q] at hk
    obtain rfl : r = .error (1, atF t.data.toList j) := by simp only [errX, Option.some.injEq] at hk; exact hk.symm
    obtain ⟨c, hc⟩ : ∃ c, clF t.data.toList j = c := ⟨_, rfl⟩
    rw [hc] at h3 q
    have g1 : ((c : Int) != 0) = true := by simp; omega
    clear hk q hc h
    go_wp2_with (go_at_call 147; refine HFL.out.mono ?_; rintro e w' ⟨rfl, hw⟩; cases hw; unfold Flt)
    refine leaves_cons (f := 145) (args := #[.pointer (some ⟨bp, 0, none⟩), .pointer (some ⟨bp + 1, 0, none⟩)]) (by simp) (by simp [go_sem]) ?_
    refine (catch_fault bp (bp + 1) _ _ w4 ((F4.out.block bp hlp (by omega)).trans HP0.out) ((F4.out.block (bp + 1) hlq (by omega)).trans HQ0.out) (by omega)).mono ?_
    rintro e u' w5 ⟨rfl, rfl, hF, hc0, hc1⟩
    have HW : WholePost w (.error (1, atF t.data.toList j)) (.returned (.tuple #[.pointer none, .int .i64 (atF t.data.toList j : Int), .iface 61 (.int .i64 ((1 : Nat) : Int))])) w5 := ⟨(HF0.out.newer F4.out fun k hk => by omega).newer hF fun k hk => by omega, rfl⟩
    simpa [Leaves, settle, results, Tryz.results94, go_sem, hc0, hc1] using HW

set_option maxRecDepth 100000 in
set_option maxHeartbeats 1000000 in
theorem fwhole_full (t : ByteArray) (w : World) (ht : 1000 < t.size) (hs : t.size ≤ 9223372036854775807) : Calls Tryz.prog 94 #[.string t, .int .i64 1000, .func (.func 95) #[] #[]] w (WholePost w (.error (6, 0))) := by
  have ht' : (1000 : Int) < (t.size : Int) := by omega
  have mo := follows
  go_enter_defers Tryz.func94, Tryz.ntmps94
  go_wp2_with fail
  have HW : WholePost w (.error (6, 0)) (.returned (.tuple #[.pointer none, .int .i64 ((0 : Nat) : Int), .iface 61 (.int .i64 ((6 : Nat) : Int))])) ((w.alloc (.cells #[.int .i64 0] 3)).alloc (.cells #[.iface 61 (.int .i64 6)] 25)) := ⟨((Fr.refl _ w).alloc _).alloc _, rfl⟩
  have h1 : (w.alloc (.cells #[.int .i64 0] 3)).heap[w.heap.size]? = some (.cells #[.int .i64 0] 3 (0, 0)) := heap_new rfl
  have c0 : ((w.alloc (.cells #[.int .i64 0] 3)).alloc (.cells #[.iface 61 (.int .i64 6)] 25)).cell? ⟨w.heap.size, 0, none⟩ = some (.int .i64 0) := block_cell ((((Fr.refl (fun _ => True) _).alloc _).block _ (block_lt h1) trivial).trans h1) 0
  have c1 : ((w.alloc (.cells #[.int .i64 0] 3)).alloc (.cells #[.iface 61 (.int .i64 6)] 25)).cell? ⟨w.heap.size + 1, 0, none⟩ = some (.iface 61 (.int .i64 6)) := block_cell (heap_new (by simp)) 0
  clear h1
  generalize (w.alloc (.cells #[.int .i64 0] 3)).alloc (.cells #[.iface 61 (.int .i64 6)] 25) = w5 at c0 c1 HW ⊢
  simpa [bodyPostD, Leaves, settle, results, Tryz.results94, go_sem, c0, c1] using HW
end Go.Proofs.YtjbekejcghjhbaaGreatDoor.Sx

namespace Go.Proofs.YtjbekejcghjhbaaGreatDoor.Sx
open Go.RowKit Go.Sort

set_option maxRecDepth 100000 in
set_option maxHeartbeats 1000000 in
theorem fReadExpr_of (t : ByteArray) (w : World) (r : Except (Nat × Nat) (PX × Nat)) (HC : Hid (Calls Tryz.prog 94 #[.string t, .int .i64 1000, .func (.func 95) #[] #[]] w (WholePost w r))) :
    Calls Tryz.prog 55 #[.string t] w (WholePost w r) := by
  go_enter Tryz.func55, Tryz.ntmps55
  go_wp2_with fail
  refine HC.out.mono ?_
  rintro e w1 ⟨hf, hm⟩
  rcases r with ⟨c, p⟩ | ⟨x, j⟩
  · obtain rfl := hm
    have HH : Hid (WholePost w (.error (c, p)) _ w1) := ⟨hf, rfl⟩
    clear hf HC
    go_wp2_with fail
    refine bodyPost_ret (v := .tuple #[.pointer none, .int .i64 (p : Int), .iface 61 (.int .i64 (c : Int))]) (by simp [results, Tryz.results55, go_sem]) rfl HH.out
  · obtain ⟨v, rfl, hv⟩ := hm
    obtain ⟨bx, rfl, -, -⟩ := hv.ptr
    have HH : Hid (WholePost w (.ok (x, j)) (.returned (.tuple #[.pointer (some ⟨bx, 0, none⟩), .int .i64 0, .nilIface])) w1) := ⟨hf, _, rfl, hv⟩
    clear hf hv HC
    go_wp2_with fail
    refine bodyPost_ret (v := .tuple #[.pointer (some ⟨bx, 0, none⟩), .int .i64 0, .nilIface]) (by simp [results, Tryz.results55, go_sem]) rfl HH.out
end Go.Proofs.YtjbekejcghjhbaaGreatDoor.Sx
