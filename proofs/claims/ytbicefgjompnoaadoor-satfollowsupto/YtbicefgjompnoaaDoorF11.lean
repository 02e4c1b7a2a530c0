/-
  DERIVED: THE SHELF's CONTRACTS AT THIS DUMP, IN PLAIN WORDS (tools/lay-plain.mjs out of 'TryLays7.lean', which tools/lay-shelf.mjs wrote): THE SAME DECLARATIONS UNDER THE SAME NAMES: 'import', 'namespace', 'open', 'def', 'theorem' AND NOTHING ELSE: no command of the shelf's: FOR A HAND-IN. Each laying: the table of numbers ('.._ren') and one theorem, a field a fact of the dump's own or the kernel's comparison; each contract: ONE APPLICATION.
-/
import Derived.Test.YtbicefgjompnoaaDoorF10
import Derived.Shelf.SlGeneric
import Derived.Shelf.Small.Bits
import Derived.Shelf.SlSortCmp.Xorshift
import Derived.Ground.SlgnProg
import Derived.Ground.SlsfProg
import Derived.Shelf.SlicesE.Compact
import Derived.Test.YtbicefgjompnoaaDoorProg
import Derived.Sort.LotD5
import Derived.Sort.LotD3
import Derived.Sort.LotA
import Derived.Sort.LotB
import Derived.Sort.LotC
import Derived.Sort.LotD1
namespace Go.Proofs
open Go.Shelf
def Tryd.lays125_ren : Go.Shelf.Ren := ⟨fun | 125 => 38 | 128 => 53 | 129 => 54 | n => n, fun | 46 => 78 | 3 => 3 | 51 => 99 | 53 => 101 | 4 => 4 | 5 => 5 | 9 => 9 | n => n, fun | n => n⟩
theorem Tryd.lays125 : Go.Proofs.Lays.n125 Tryd.prog Tryd.lays125_ren := {
  mixed := by kernel_rfl
  f125 := Tryd.func38.trans (congrArg some (by kernel_rfl))
  f128 := Tryd.func53.trans (congrArg some (by kernel_rfl))
  f129 := Tryd.func54.trans (congrArg some (by kernel_rfl))
  t3 := Tryd.underlying3
  a3 := Tryd.isAgg3
  z3 := Tryd.sizeOf3
  v3 := Tryd.zeroValue3
  t4 := Tryd.underlying4
  a4 := Tryd.isAgg4
  z4 := Tryd.sizeOf4
  v4 := Tryd.zeroValue4
  t5 := Tryd.underlying5
  a5 := Tryd.isAgg5
  z5 := Tryd.sizeOf5
  v5 := Tryd.zeroValue5
  t9 := Tryd.underlying9
  a9 := Tryd.isAgg9
  z9 := Tryd.sizeOf9
  v9 := Tryd.zeroValue9
  t46 := Tryd.underlying78
  a46 := Tryd.isAgg78
  z46 := Tryd.sizeOf78
  v46 := Tryd.zeroValue78
  t51 := Tryd.underlying99
  a51 := Tryd.isAgg99
  z51 := Tryd.sizeOf99
  v51 := Tryd.zeroValue99
  t53 := Tryd.underlying101
  a53 := Tryd.isAgg101
  z53 := Tryd.sizeOf101
  v53 := Tryd.zeroValue101 }
def Tryd.laysNext_ren : Go.Shelf.Ren := ⟨fun | 48 => 63 | n => n, fun | 76 => 137 | 55 => 101 | 0 => 0 | 66 => 116 | 39 => 78 | n => n, fun | n => n⟩
theorem Tryd.laysNext : Go.Proofs.SlLaysF0.n48 Tryd.prog Tryd.laysNext_ren := {
  mixed := by kernel_rfl
  f48 := Tryd.func63.trans (congrArg some (by kernel_rfl))
  t0 := Tryd.underlying0
  a0 := Tryd.isAgg0
  z0 := Tryd.sizeOf0
  v0 := Tryd.zeroValue0
  t39 := Tryd.underlying78
  a39 := Tryd.isAgg78
  z39 := Tryd.sizeOf78
  v39 := Tryd.zeroValue78
  t55 := Tryd.underlying101
  a55 := Tryd.isAgg101
  z55 := Tryd.sizeOf101
  v55 := Tryd.zeroValue101
  t66 := Tryd.underlying116
  a66 := Tryd.isAgg116
  z66 := Tryd.sizeOf116
  v66 := Tryd.zeroValue116
  t76 := Tryd.underlying137
  a76 := Tryd.isAgg137
  z76 := Tryd.sizeOf137
  v76 := Tryd.zeroValue137 }
def Tryd.laysPow_ren : Go.Shelf.Ren := ⟨fun | 47 => 62 | 15 => 38 | 28 => 53 | 29 => 54 | n => n, fun | 3 => 3 | 39 => 78 | 53 => 99 | 55 => 101 | 4 => 4 | 5 => 5 | 9 => 9 | n => n, fun | n => n⟩
theorem Tryd.laysPow : Go.Proofs.SlLaysF0.n47 Tryd.prog Tryd.laysPow_ren := {
  mixed := by kernel_rfl
  f15 := Tryd.func38.trans (congrArg some (by kernel_rfl))
  f28 := Tryd.func53.trans (congrArg some (by kernel_rfl))
  f29 := Tryd.func54.trans (congrArg some (by kernel_rfl))
  f47 := Tryd.func62.trans (congrArg some (by kernel_rfl))
  t3 := Tryd.underlying3
  a3 := Tryd.isAgg3
  z3 := Tryd.sizeOf3
  v3 := Tryd.zeroValue3
  t4 := Tryd.underlying4
  a4 := Tryd.isAgg4
  z4 := Tryd.sizeOf4
  v4 := Tryd.zeroValue4
  t5 := Tryd.underlying5
  a5 := Tryd.isAgg5
  z5 := Tryd.sizeOf5
  v5 := Tryd.zeroValue5
  t9 := Tryd.underlying9
  a9 := Tryd.isAgg9
  z9 := Tryd.sizeOf9
  v9 := Tryd.zeroValue9
  t39 := Tryd.underlying78
  a39 := Tryd.isAgg78
  z39 := Tryd.sizeOf78
  v39 := Tryd.zeroValue78
  t53 := Tryd.underlying99
  a53 := Tryd.isAgg99
  z53 := Tryd.sizeOf99
  v53 := Tryd.zeroValue99
  t55 := Tryd.underlying101
  a55 := Tryd.isAgg101
  z55 := Tryd.sizeOf101
  v55 := Tryd.zeroValue101 }
def Tryd.laysCompact_ren : Go.Shelf.Ren := ⟨fun | 43 => 60 | n => n, fun | 22 => 43 | 23 => 45 | 3 => 3 | 4 => 4 | 0 => 0 | n => n, fun | n => n⟩
theorem Tryd.laysCompact : Go.Proofs.SlLaysE.n43 Tryd.prog Tryd.laysCompact_ren := {
  mixed := by kernel_rfl
  f43 := ⟨Tryd.f60.name, by decide, Tryd.func60.trans (congrArg some (by kernel_rfl))⟩
  t0 := Tryd.underlying0
  a0 := Tryd.isAgg0
  z0 := Tryd.sizeOf0
  v0 := Tryd.zeroValue0
  t3 := Tryd.underlying3
  a3 := Tryd.isAgg3
  z3 := Tryd.sizeOf3
  v3 := Tryd.zeroValue3
  t4 := Tryd.underlying4
  a4 := Tryd.isAgg4
  z4 := Tryd.sizeOf4
  v4 := Tryd.zeroValue4
  t22 := Tryd.underlying43
  a22 := Tryd.isAgg43
  z22 := Tryd.sizeOf43
  v22 := Tryd.zeroValue43
  a23 := Tryd.isAgg45
  z23 := Tryd.sizeOf45 }
end Go.Proofs
/- slices.Sort of literals: patterns broken. -/
namespace Go.Proofs.YtbicefgjompnoaaDoor.Sx
open Go.RowKit Go.Sort

theorem next_any (w : World) (q : Nat) (r : UInt64) (hc : w.cell? ⟨q, 0, none⟩ = some (.int .u64 (r.toNat : Int))) (hf : w.frozen? ⟨q, 0, none⟩ = false) :
    Calls Tryd.prog 63 #[.pointer (some ⟨q, 0, none⟩)] w fun e w' => e = .returned (.int .u64 ((xorNext r).toNat : Int)) ∧ w' = (w.setCell ⟨q, 0, none⟩ (.int .u64 ((xorNext r).toNat : Int))).drewN 3 := by
  have h := AnyF.xorshift_Next Tryd.laysNext q 0 r.toNat (by have := r.toNat_lt; omega) w hc hf
  rw [xorNext_toNat]
  exact h
theorem pow_any (w : World) (n : Nat) (hn : n < 4611686018427387904) : Calls Tryd.prog 62 #[.int .i64 (n : Int)] w fun e w' => e = .returned (.int .u64 ((1 <<< bitsLen n : Nat) : Int)) ∧ w' = w := AnyF.nextPowerOfTwo Tryd.laysPow n hn w

/-- so many rounds -/
def brk (a len m : Nat) : Nat → UInt64 × Array Nat → Nat → Array Nat
  | 0, st, _ => st.2
  | k + 1, st, i => brk a len m k (breakStep a len m st i) (i + 1)
/-- what so many rounds come to -/
structure BrkIs (a len m k : Nat) (st : UInt64 × Array Nat) (i : Nat) (R : Array Nat) : Prop where
  eq : brk a len m k st i = R
theorem bits_and (x y : Nat) (hx : x < 18446744073709551616) (hy : y < 18446744073709551616) : bits .and .u64 (x : Int) (y : Int) = ((x &&& y : Nat) : Int) := by
  have h1 : (BitVec.ofInt 64 (x : Int)).toNat = x := by
    rw [BitVec.ofInt_natCast, BitVec.toNat_ofNat]; exact Nat.mod_eq_of_lt hx
  have h2 : (BitVec.ofInt 64 (y : Int)).toNat = y := by
    rw [BitVec.ofInt_natCast, BitVec.toNat_ofNat]; exact Nat.mod_eq_of_lt hy
  have h3 : x &&& y ≤ x := Nat.and_le_left
  show IntKind.u64.wrap ((BitVec.ofInt 64 (x : Int) &&& BitVec.ofInt 64 (y : Int)).toNat : Int) = _
  rw [BitVec.toNat_and, h1, h2, IntKind.wrap_u64]
  omega
theorem pow_le {n : Nat} (h : 8 ≤ n) (hn : n ≤ 4294967296) : 1 ≤ 1 <<< bitsLen n ∧ 1 <<< bitsLen n ≤ 2 * n := by
  have e : bitsLen n = Nat.log2 n + 1 := by unfold bitsLen; rw [if_neg (by omega)]
  rw [e, Nat.one_shiftLeft, Nat.pow_succ]
  have h1 := Nat.log2_self_le (n := n) (by omega)
  have h2 : 0 < 2 ^ n.log2 := Nat.pow_pos (by omega)
  omega

end Go.Proofs.YtbicefgjompnoaaDoor.Sx
/- slices.Sort of literals: patterns broken. -/
namespace Go.Proofs.YtbicefgjompnoaaDoor.Sx
open Go.RowKit Go.Sort

set_option maxRecDepth 100000 in
set_option maxHeartbeats 8000000 in
theorem breakPat_any (w : World) (g len cap a n : Nat) (d : Array Nat) (h : LRow w g d) (hl : len ≤ 4294967296) (hd : len ≤ d.size) (hb : a + n ≤ len) (hn : 12 < n) :
    Calls Tryd.prog 73 #[.slice (some ⟨g, 0, none⟩) len cap, .int .i64 a, .int .i64 ((a + n : Nat) : Int)] w (RowPost w g (breakPatterns d a (a + n))) := by
  have mo := follows
  obtain ⟨R, hR⟩ : ∃ R, breakPatterns d a (a + n) = R := ⟨_, rfl⟩
  rw [hR]
  unfold breakPatterns at hR
  rw [Nat.add_sub_cancel_left] at hR
  simp only [show n ≥ 8 from by omega, if_true] at hR
  obtain ⟨M, hM⟩ : ∃ M, 1 <<< bitsLen n = M := ⟨_, rfl⟩
  have hM2 := pow_le (n := n) (by omega) (by omega)
  rw [hM] at hR hM2
  obtain ⟨i0, hi0⟩ : ∃ i0, a + n / 4 * 2 - 1 = i0 := ⟨_, rfl⟩
  rw [hi0] at hR
  obtain ⟨r0, hr0⟩ : ∃ r0, UInt64.ofNat n = r0 := ⟨_, rfl⟩
  have hrn : (r0.toNat : Int) = (n : Int) := by rw [← hr0, UInt64.toNat_ofNat']; omega
  rw [hr0] at hR
  have HR0 : BrkIs a n M 3 (r0, d) i0 R := ⟨hR⟩
  have HL0 : Hid (LRow w g d) := h
  have HMM : Hid (1 <<< bitsLen n = M) := hM
  have hgs : g ≠ w.heap.size := by have := block_lt h; omega
  have hin : (a : Int) + (n : Int) - (a : Int) = (n : Int) := by omega
  have HI0 : Hid (a + n / 4 * 2 - 1 = i0) := hi0
  have HM2 : Hid (1 ≤ M ∧ M ≤ 2 * n) := hM2
  have hw1 : IntKind.u64.wrap (n : Int) = (n : Int) := by rw [IntKind.wrap_u64]; omega
  have hw2 : (n : Int) % 18446744073709551616 = (n : Int) := by omega
  have HRN : Hid ((r0.toNat : Int) = (n : Int)) := hrn
  clear hR h hM hi0 hM2 hr0 hrn
  go_enter Tryd.func73, Tryd.ntmps73
  go_wp2_with fail
  go_at_call 62
  have hPW := pow_any (w.alloc (.cells #[.int .u64 (n : Int)] 116)) n (by omega)
  rw [HMM.out] at hPW
  refine hPW.mono ?_
  rintro e w' ⟨rfl, hw⟩
  obtain rfl := hw.symm
  clear hw hPW
  have L0 : Hid (LRow (w.alloc (.cells #[.int .u64 (n : Int)] 116)) g d) := HL0.out.of ((Fr.refl (fun _ => True) w).alloc _) trivial
  have S0 : (w.alloc (.cells #[.int .u64 (n : Int)] 116)).heap[w.heap.size]? = some (.cells #[.int .u64 (n : Int)] 116 (0, 0)) := heap_alloc_new w _
  have F0 : Hid (Fr (· ≠ g) w (w.alloc (.cells #[.int .u64 (n : Int)] 116))) := (Fr.refl _ w).alloc _
  generalize w.alloc (.cells #[.int .u64 (n : Int)] 116) = W0 at L0 S0 F0 ⊢
  obtain ⟨q, hq⟩ : ∃ q, w.heap.size = q := ⟨_, rfl⟩
  have HQ : Hid (w.heap.size = q) := hq
  rw [hq] at S0 hgs ⊢
  have S0' : Hid (W0.heap[q]? = some (.cells #[.int .u64 (r0.toNat : Int)] 116 (0, 0))) := by rw [HRN.out]; exact S0
  clear hq S0 HL0 hin
  have hi0 : (a : Int) + (n : Int) / 4 * 2 - 1 = (i0 : Int) := by have := HI0.out; omega
  go_wp2_with fail
  go_loopg [9] (3) (fun k s9 wr => ∃ (i : Nat) (r : UInt64) (e : Array Nat), s9 = .int .i64 (i : Int) ∧ i + k = i0 + 3 ∧ e.size = d.size ∧ Hid (LRow wr g e) ∧ Hid (Fr (· ≠ g) w wr) ∧ Hid (wr.heap[q]? = some (.cells #[.int .u64 (r.toNat : Int)] 116 (0, 0))) ∧ BrkIs a n M k (r, e) i R)
  case atStart => exact ⟨i0, r0, d, rfl, by omega, rfl, L0, F0, S0', HR0⟩
  case round =>
    clear L0 F0 S0' HR0
    obtain ⟨i, r, e, rfl, hik, he, HL, HF, HS, HB⟩ := hrel
    cases gk with
    | zero =>
      have i1 : ¬ (i : Int) ≤ (a : Int) + (n : Int) / 4 * 2 + 1 := by omega
      have hb := HB.eq
      unfold brk at hb
      simp only at hb
      subst hb
      clear HB
      go_wp2_with fail
      go_end0
      exact ⟨rfl, HL.out, HF.out⟩
    | succ k =>
      have i1 : (i : Int) ≤ (a : Int) + (n : Int) / 4 * 2 + 1 := by omega
      have HC : Hid (Calls _ _ _ _ _) := next_any wr q r (by rw [block_cell HS.out]; rfl) (frozen_block HS.out 0)
      obtain ⟨r', hr'⟩ : ∃ r', xorNext r = r' := ⟨_, rfl⟩
      rw [hr'] at HC
      go_wp2_with fail
      go_at_call 63
      refine HC.out.mono ?_
      rintro e1 w1 ⟨rfl, hw⟩
      have hbk := HB.eq
      unfold brk breakStep at hbk
      simp only [hr'] at hbk
      obtain ⟨o, ho⟩ : ∃ o, r'.toNat &&& (M - 1) = o := ⟨_, rfl⟩
      have hM2 := HM2.out
      have hol : o ≤ M - 1 := by rw [← ho]; exact Nat.and_le_right
      have hand : bits .and .u64 (r'.toNat : Int) ((M : Int) - 1) = (o : Int) := by
        have := bits_and r'.toNat (M - 1) (by have := r'.toNat_lt; omega) (by omega)
        rw [show ((M - 1 : Nat) : Int) = (M : Int) - 1 from by omega, ho] at this
        exact this
      rw [ho] at hbk
      have hi3 : i < a + n := by have := HI0.out; omega
      have HL1 : LRow w1 g e := by rw [hw]; exact (HL.out.of ((Fr.refl (· ≠ q) wr).set (p := ⟨q, 0, none⟩) (by simp) _) hgs).drewN 3
      have HS1 : w1.heap[q]? = some (.cells #[.int .u64 (r'.toNat : Int)] 116 (0, 0)) := by rw [hw]; exact set_block HS.out 0 _
      have HF1 : Fr (· ≠ g) w w1 := by rw [hw]; exact (HF.out.setB (p := ⟨q, 0, none⟩) (by show w.heap.size ≤ q; rw [HQ.out]; exact Nat.le_refl _) _).drewN 3
      clear HL HS HF HB hw hr' HC
      have HL : Hid (LRow w1 g e) := HL1
      have HF : Hid (Fr (· ≠ g) w w1) := HF1
      have HS : Hid (w1.heap[q]? = some (.cells #[.int .u64 (r'.toNat : Int)] 116 (0, 0))) := HS1
      have HMb : Hid (1 ≤ M ∧ M ≤ 2 * n) := hM2
      have mm : (1 : Int) ≤ (M : Int) := by omega
      have mw : (M : Int) ≤ 8589934592 := by omega
      have ol : (o : Int) ≤ 8589934592 := by omega
      have o2 : o < 2 * n := by omega
      clear HL1 HF1 HS1 ho hM2 hol
      by_cases hon : o ≥ n
      · rw [if_pos hon] at hbk
        have o3 : (n : Int) ≤ (o : Int) := by omega
        obtain ⟨p, hp⟩ : ∃ p, a + (o - n) = p := ⟨_, rfl⟩
        rw [hp] at hbk
        have HB2 : BrkIs a n M k (r', swp e i p) (i + 1) R := ⟨hbk⟩
        have p1 : (a : Int) + ((o : Int) - (n : Int)) = (p : Int) := by omega
        have p2 : (p : Int) < (len : Int) := by omega
        have p3 : (i : Int) < (len : Int) := by omega
        clear hbk
        obtain ⟨x1, hx1⟩ : ∃ x1, e[i]! = x1 := ⟨_, rfl⟩
        have Hx1 : Hid (e[i]! = x1) := hx1
        obtain ⟨y1, hy1⟩ : ∃ y1, e[p]! = y1 := ⟨_, rfl⟩
        have Hy1 : Hid (e[p]! = y1) := hy1
        have cc0 := HL.out.cell (i := i) (by omega)
        have cd0 := HL.out.drew.cell (i := i) (by omega)
        have cz0 := HL.out.free (i)
        have cy0 := HL.out.drew.free (i)
        rw [Hx1.out] at cc0 cd0
        have cc1 := HL.out.cell (i := p) (by omega)
        have cd1 := HL.out.drew.cell (i := p) (by omega)
        have cz1 := HL.out.free (p)
        have cy1 := HL.out.drew.free (p)
        rw [Hy1.out] at cc1 cd1
        obtain ⟨k1, k2, k3, k4⟩ := HL.out.again (i := i) (j := p) (by omega) hy1
        clear hx1 hy1 hp
        have HL1 : Hid (LRow (swL w1 g i p x1 y1) g (swp e i p)) := by rw [← Hx1.out, ← Hy1.out]; exact HL.out.swap _ _
        have HF1 : Hid (Fr (· ≠ g) w (swL w1 g i p x1 y1)) := HF.out.swapL _ _ _ _
        have HS1 : Hid ((swL w1 g i p x1 y1).heap[q]? = some (.cells #[.int .u64 (r'.toNat : Int)] 116 (0, 0))) := (((Fr.refl (· ≠ g) w1).swapL i p x1 y1).block q (block_lt HS.out) hgs.symm).trans HS.out
        clear HL HF HS
        go_wp2_with fail
        go_big_region_o
        go_wp2_with fail
        go_roundg k
        case measure => omega
        case rel => exact ⟨i + 1, r', _, by simp, by omega, by rw [size_swp]; exact he, HL1, HF1, HS1, HB2⟩
      · rw [if_neg hon] at hbk
        have o3 : ¬ (n : Int) ≤ (o : Int) := by omega
        obtain ⟨p, hp⟩ : ∃ p, a + (o) = p := ⟨_, rfl⟩
        rw [hp] at hbk
        have HB2 : BrkIs a n M k (r', swp e i p) (i + 1) R := ⟨hbk⟩
        have p1 : (a : Int) + (o : Int) = (p : Int) := by omega
        have p2 : (p : Int) < (len : Int) := by omega
        have p3 : (i : Int) < (len : Int) := by omega
        clear hbk
        obtain ⟨x1, hx1⟩ : ∃ x1, e[i]! = x1 := ⟨_, rfl⟩
        have Hx1 : Hid (e[i]! = x1) := hx1
        obtain ⟨y1, hy1⟩ : ∃ y1, e[p]! = y1 := ⟨_, rfl⟩
        have Hy1 : Hid (e[p]! = y1) := hy1
        have cc0 := HL.out.cell (i := i) (by omega)
        have cd0 := HL.out.drew.cell (i := i) (by omega)
        have cz0 := HL.out.free (i)
        have cy0 := HL.out.drew.free (i)
        rw [Hx1.out] at cc0 cd0
        have cc1 := HL.out.cell (i := p) (by omega)
        have cd1 := HL.out.drew.cell (i := p) (by omega)
        have cz1 := HL.out.free (p)
        have cy1 := HL.out.drew.free (p)
        rw [Hy1.out] at cc1 cd1
        obtain ⟨k1, k2, k3, k4⟩ := HL.out.again (i := i) (j := p) (by omega) hy1
        clear hx1 hy1 hp
        have HL1 : Hid (LRow (swL w1 g i p x1 y1) g (swp e i p)) := by rw [← Hx1.out, ← Hy1.out]; exact HL.out.swap _ _
        have HF1 : Hid (Fr (· ≠ g) w (swL w1 g i p x1 y1)) := HF.out.swapL _ _ _ _
        have HS1 : Hid ((swL w1 g i p x1 y1).heap[q]? = some (.cells #[.int .u64 (r'.toNat : Int)] 116 (0, 0))) := (((Fr.refl (· ≠ g) w1).swapL i p x1 y1).block q (block_lt HS.out) hgs.symm).trans HS.out
        clear HL HF HS
        go_wp2_with fail
        go_big_region_o
        go_wp2_with fail
        go_roundg k
        case measure => omega
        case rel => exact ⟨i + 1, r', _, by simp, by omega, by rw [size_swp]; exact he, HL1, HF1, HS1, HB2⟩

end Go.Proofs.YtbicefgjompnoaaDoor.Sx
/- slices.Sort of literals: the plain side of pdqsort. -/
namespace Go.Proofs.YtbicefgjompnoaaDoor.Sx
open Go.RowKit Go.Sort

theorem pdq_eq {lt : Nat → Nat → Bool} {d : Array Nat} {a b limit : Nat} {wb wp : Bool} (h12 : ¬ b - a ≤ 12) (h0 : limit ≠ 0) {d1 d2 d3 : Array Nat} {l1 p pv : Nat} {hn hq : Hint} {done : Bool}
    (e1 : (if !wb then breakPatterns d a b else d) = d1) (e2 : (if !wb then limit - 1 else limit) = l1) (e3 : choosePivot lt d1 a b = (p, hn)) (e4 : (if hn = .decreasing then reverseRange d1 a b else d1) = d2)
    (e5 : (if hn = .decreasing then (b - 1) - (p - a) else p) = pv) (e6 : (if hn = .decreasing then Hint.increasing else hn) = hq) (e7 : (if wb && wp && hq = .increasing then partialInsertionSort lt d2 a b else (d2, false)) = (d3, done)) :
    pdq lt d a b limit wb wp = if done then d3 else if a > 0 && !lt d3[a - 1]! d3[pv]! then
      (if a < (partitionEqual lt d3 a b pv).1 ∧ (partitionEqual lt d3 a b pv).1 ≤ b then pdq lt (partitionEqual lt d3 a b pv).2 (partitionEqual lt d3 a b pv).1 b l1 wb wp else (partitionEqual lt d3 a b pv).2)
    else (if a ≤ (partition lt d3 a b pv).1 ∧ (partition lt d3 a b pv).1 < b then
        (if (partition lt d3 a b pv).1 - a < b - (partition lt d3 a b pv).1 then pdq lt (pdq lt (partition lt d3 a b pv).2.2 a (partition lt d3 a b pv).1 l1 true true) ((partition lt d3 a b pv).1 + 1) b l1 (decide ((partition lt d3 a b pv).1 - a ≥ (b - a) / 8)) (partition lt d3 a b pv).2.1
        else pdq lt (pdq lt (partition lt d3 a b pv).2.2 ((partition lt d3 a b pv).1 + 1) b l1 true true) a (partition lt d3 a b pv).1 l1 (decide (b - (partition lt d3 a b pv).1 ≥ (b - a) / 8)) (partition lt d3 a b pv).2.1)
      else (partition lt d3 a b pv).2.2) := by
  conv => lhs; unfold pdq
  rw [if_neg h12, if_neg h0]
  simp only [e1, e2, e3, e4, e5, e6, e7]
  rfl

theorem size_partialIns (a b : Nat) : ∀ (s i : Nat) (d : Array Nat), (partialIns ltN a b s i d).1.size = d.size := by
  intro s
  induction s with
  | zero => intro i d; rfl
  | succ s ih =>
    intro i d
    unfold partialIns
    simp only
    split
    · rfl
    · split
      · rfl
      · rw [ih]
        split
        · rw [size_shiftUp _ _ _ _ (Nat.le_refl _)]
          split
          · rw [size_shiftDown, size_swp]
          · rw [size_swp]
        · split
          · rw [size_shiftDown, size_swp]
          · rw [size_swp]
theorem partEqLoop_range (a : Nat) : ∀ (n i j : Nat) (d : Array Nat), j + 1 - i ≤ n → 0 < i → i ≤ (partEqLoop ltN a i j d).1 ∧ (partEqLoop ltN a i j d).1 ≤ max i (j + 1) ∧ (partEqLoop ltN a i j d).2.size = d.size := by
  intro n
  induction n with
  | zero =>
    intro i j d h hi
    have bI := Sx.scanUp_le (p := fun x => !ltN d[a]! x) (d := d) (j := j) _ i (Nat.le_refl _)
    have bJ := Sx.scanDown_le (p := fun x => ltN d[a]! x) (d := d) (i := scanUp (fun x => !ltN d[a]! x) d j i) (by omega) j
    unfold partEqLoop
    simp only
    rw [if_pos (by omega)]
    exact ⟨bI.1, bI.2, rfl⟩
  | succ n ih =>
    intro i j d h hi
    have bI := Sx.scanUp_le (p := fun x => !ltN d[a]! x) (d := d) (j := j) _ i (Nat.le_refl _)
    have bJ := Sx.scanDown_le (p := fun x => ltN d[a]! x) (d := d) (i := scanUp (fun x => !ltN d[a]! x) d j i) (by omega) j
    unfold partEqLoop
    simp only
    generalize scanUp (fun x => !ltN d[a]! x) d j i = I at bI bJ ⊢
    generalize scanDown (fun x => ltN d[a]! x) d I j = J at bJ ⊢
    split
    · exact ⟨bI.1, bI.2, rfl⟩
    · rw [dif_pos (by omega)]
      have := ih (I + 1) (J - 1) (swp d I J) (by omega) (by omega)
      rw [size_swp] at this
      refine ⟨by omega, by omega, this.2.2⟩
theorem partEqual_range {d : Array Nat} {a b p : Nat} (hab : a < b) : a < (partitionEqual ltN d a b p).1 ∧ (partitionEqual ltN d a b p).1 ≤ b ∧ (partitionEqual ltN d a b p).2.size = d.size := by
  unfold partitionEqual
  have := partEqLoop_range a _ (a + 1) (b - 1) (swp d a p) (Nat.le_refl _) (by omega)
  rw [size_swp] at this
  exact ⟨by omega, by omega, this.2.2⟩
theorem pdq_sorted (d : Array Nat) (n limit : Nat) (hn : n ≤ d.size) : PermIn 0 n d (pdq ltN d 0 n limit true true) ∧ SortedIn ltN 0 n (pdq ltN d 0 n limit true true) :=
  pdq_holds insertionSort_holds heapSort_holds partialInsertionSort_holds (partition_holds _) (partitionEqual_holds _) reverseRange_holds swoN d 0 n limit true true (Nat.zero_le _) hn (Or.inl rfl)
theorem size_pdq : ∀ (n : Nat) (d : Array Nat) (a b limit : Nat) (wb wp : Bool), b - a ≤ n → a ≤ b → b ≤ d.size → (pdq ltN d a b limit wb wp).size = d.size := by
  intro n
  induction n with
  | zero =>
    intro d a b limit wb wp h1 h2 h3
    unfold pdq
    rw [if_pos (by omega)]
    exact (insertionSort_holds swoN d a b h2 h3).1.1
  | succ n ih =>
    intro d a b limit wb wp h1 h2 h3
    by_cases h12 : b - a ≤ 12
    · unfold pdq
      rw [if_pos h12]
      exact (insertionSort_holds swoN d a b h2 h3).1.1
    by_cases h0 : limit = 0
    · unfold pdq
      rw [if_neg h12, if_pos h0]
      exact (heapSort_holds swoN d a b h2 h3).1.1
    obtain ⟨d1, e1⟩ : ∃ d1, (if !wb then breakPatterns d a b else d) = d1 := ⟨_, rfl⟩
    have s1 : d1.size = d.size := by rw [← e1]; split; exact (breakPatterns_holds d a b h2 h3).1; rfl
    obtain ⟨p, hn, e3⟩ : ∃ p hn, choosePivot ltN d1 a b = (p, hn) := ⟨_, _, rfl⟩
    have hp := choosePivot_holds ltN d1 a b (by omega)
    rw [e3] at hp
    obtain ⟨d2, e4⟩ : ∃ d2, (if hn = .decreasing then reverseRange d1 a b else d1) = d2 := ⟨_, rfl⟩
    have s2 : d2.size = d.size := by rw [← e4]; split; exact ((reverseRange_holds d1 a b h2 (by omega)).1).trans s1; exact s1
    obtain ⟨pv, e5⟩ : ∃ pv, (if hn = .decreasing then (b - 1) - (p - a) else p) = pv := ⟨_, rfl⟩
    have hpv : a ≤ pv ∧ pv < b := by rw [← e5]; simp only at hp; split <;> omega
    obtain ⟨hq, e6⟩ : ∃ hq, (if hn = .decreasing then Hint.increasing else hn) = hq := ⟨_, rfl⟩
    obtain ⟨d3, done, e7⟩ : ∃ d3 done, (if wb && wp && hq = .increasing then partialInsertionSort ltN d2 a b else (d2, false)) = (d3, done) := ⟨_, _, rfl⟩
    have s3 : d3.size = d.size := by
      have : d3 = (if wb && wp && hq = .increasing then partialInsertionSort ltN d2 a b else (d2, false)).1 := by rw [e7]
      rw [this]
      split
      · exact (size_partialIns a b 5 (a + 1) d2).trans s2
      · exact s2
    rw [pdq_eq h12 h0 e1 rfl e3 e4 e5 e6 e7]
    split
    · exact s3
    · split
      · have := partEqual_range (d := d3) (a := a) (b := b) (p := pv) (by omega)
        rw [if_pos ⟨this.1, this.2.1⟩, ih _ _ _ _ _ _ (by omega) (by omega) (by omega)]
        omega
      · have hpt := partition_holds ltN swoN d3 a b pv hpv.1 hpv.2 (by omega)
        have s4 := hpt.2.2.1.1
        rw [if_pos ⟨hpt.1, hpt.2.1⟩]
        have i1 := ih (partition ltN d3 a b pv).2.2 a (partition ltN d3 a b pv).1 (if !wb then limit - 1 else limit) true true (by omega) (by omega) (by omega)
        have i2 := ih (partition ltN d3 a b pv).2.2 ((partition ltN d3 a b pv).1 + 1) b (if !wb then limit - 1 else limit) true true (by omega) (by omega) (by omega)
        split
        · rw [ih _ _ _ _ _ _ (by omega) (by omega) (by omega), i1]; omega
        · rw [ih _ _ _ _ _ _ (by omega) (by omega) (by omega), i2]; omega

end Go.Proofs.YtbicefgjompnoaaDoor.Sx
