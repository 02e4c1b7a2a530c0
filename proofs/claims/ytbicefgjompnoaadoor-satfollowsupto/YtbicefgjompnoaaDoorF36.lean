/- The program: told. -/
import Derived.Test.YtbicefgjompnoaaDoorF35
import Derived.Ground.SlsfProg
import Derived.Shelf.SlicesG.Cmp
import Derived.Ground.SlgcProg
import Derived.Shelf.SlSortCmp.Whole1
import Derived.Test.YtbicefgjompnoaaDoorProg
import Derived.Lib.SortBridge
namespace Go.Proofs.YtbicefgjompnoaaDoor.Sx
open Go.RowKit Go.Sort

/-- literals in a row -/
structure LitsAt (w : World) (lo : Nat) (v : Value) (T : List Nat) : Prop where
  ex : ∃ a cc, v = .slice a T.length cc ∧ ∀ (i l : Nat), T[i]? = some l → ∃ b, a = some ⟨b, 0, none⟩ ∧ b < lo ∧ w.cell? ⟨b, i, none⟩ = some (.int .i32 (l : Int))
theorem LitsAt.of {w w' : World} {lo : Nat} {v : Value} {T : List Nat} (h : LitsAt w lo v T) (f : Fr (· < lo) w w') : LitsAt w' lo v T := by
  obtain ⟨a, cc, e, h1⟩ := h.ex
  refine ⟨a, cc, e, fun i l hl => ?_⟩
  obtain ⟨b, q1, q2, q3⟩ := h1 i l hl
  refine ⟨b, q1, q2, ?_⟩
  have hb : b < w.heap.size := by
    rcases Nat.lt_or_ge b w.heap.size with z | z
    · exact z
    · simp [World.cell?, Array.getElem?_eq_none z] at q3
  rw [World.cell?_of_block (w := w) (f.block b hb q2)]
  exact q3
theorem own_cell {w : World} {base e n : Nat} {v : Value} {xs : List Value} (h : w.ownsRow base e 1 v n xs) {i : Nat} {u : Value} (hu : xs[i]? = some u) : ∃ g m cap, v = .slice (some ⟨g, 0, none⟩) m cap ∧ m = n ∧ w.cell? ⟨g, i, none⟩ = some u := by
  have hi : i < xs.length := (List.getElem?_eq_some_iff.1 hu).1
  rcases h.2 with ⟨e1, hn⟩ | ⟨g, cap', cur, e1, hb, hg, hc, _, hs, ht⟩
  · have := h.1; rw [hn] at this; omega
  · subst e1
    refine ⟨g, _, _, rfl, rfl, ?_⟩
    rw [block_cell hg]
    rw [← ht, List.getElem?_take] at hu
    split at hu
    · simpa using hu
    · simp at hu
/-- a block of numbers -/
def IRow (w : World) (b : Nat) (d : List Int) : Prop := w.heap[b]? = some (.cells (d.map (Value.int .i64)).toArray 3 (0, 0))

theorem made_64 (m : Nat) : madeCells (Value.int .i64 0).cells (m * 1) = Array.replicate m (Value.int .i64 0) := by
  apply Array.ext
  · simp [madeCells]
  · intro i h1 h2
    have e : i % 1 = 0 := Nat.mod_one i
    simp [madeCells, Value.cells, e]
theorem bits_one (l : Nat) (h : l < 1073741824) : bits .and .i32 (l : Int) 1 = ((l % 2 : Nat) : Int) := by
  have h1 : (BitVec.ofInt 32 (l : Int)).toNat = l := by
    rw [BitVec.ofInt_natCast, BitVec.toNat_ofNat]; exact Nat.mod_eq_of_lt (by omega)
  have h2 : (BitVec.ofInt 32 (1 : Int)).toNat = 1 := by decide
  show IntKind.i32.wrap ((BitVec.ofInt 32 (l : Int) &&& BitVec.ofInt 32 (1 : Int)).toNat : Int) = _
  rw [BitVec.toNat_and, h1, h2, Nat.and_one_is_mod, IntKind.wrap_i32]
  omega
theorem IRow.set {w : World} {b : Nat} {d : List Int} (h : IRow w b d) (i : Nat) (x : Int) : IRow (w.setCell ⟨b, i, none⟩ (.int .i64 x)) b (d.set i x) := by
  have := set_block h i (.int .i64 x)
  unfold IRow
  rw [this]
  simp [Array.set!_eq_setIfInBounds]
theorem take_set1 {d : List Int} {T : List Nat} {s : List Nat × List Nat} {j l : Nat} {x : Int} (hd : d.take j = (T.take j).map (toldP s)) (hl : T[j]? = some l) (hj : j < d.length) (hx : x = toldP s l) : (d.set j x).take (j + 1) = (T.take (j + 1)).map (toldP s) := by
  have hjT : j < T.length := (List.getElem?_eq_some_iff.1 hl).1
  have e : T[j] = l := by rw [List.getElem?_eq_getElem hjT] at hl; exact Option.some.inj hl
  rw [List.take_succ_eq_append_getElem (by simpa using hj), List.take_succ_eq_append_getElem hjT, List.map_append, ← hd, List.take_set_of_le (Nat.le_refl _)]
  simp [e, hx]

set_option maxRecDepth 100000 in
set_option maxHeartbeats 4000000 in
theorem told_any (w : World) (n pb fb base lo : Nat) (s : List Nat × List Nat) (tv : Value) (T : List Nat) (hn : n ≤ 16777216) (hA : NmAt w n pb fb base s) (hl : LitsAt w lo tv T) (_hlo : lo ≤ w.heap.size) (hll : T.length ≤ 4294967296) (hL : ∀ l ∈ T, l < 2 * s.2.length) :
    Calls Tryd.prog 19 #[.pointer (some ⟨fb, 0, none⟩), tv] w fun e w' => e = .returned (.slice (some ⟨w.heap.size, 0, none⟩) T.length T.length) ∧ IRow w' w.heap.size (T.map (toldP s)) ∧ Fr (fun _ => True) w w' := by
  have mo := follows
  obtain ⟨i0_, hi0, hz0, hz1, hz2⟩ := info3
  obtain ⟨a, cc, rfl, _⟩ := hl.ex
  have HI : Hid (LitsAt w lo (.slice a T.length cc) T) := hl
  have HLN : Hid (∀ l ∈ T, l < 2 * s.2.length) := hL
  have NA0 : Hid (NmAt w n pb fb base s) := hA
  have m1 : (Instr.makeSlice 23 (.int .i64 (T.length : Int)) (.int .i64 (T.length : Int))).run Tryd.prog w = .ok (.slice (some ⟨w.heap.size, 0, none⟩) T.length T.length) (w.alloc (.cells (Array.replicate T.length (Value.int .i64 0)) 3)) := by
    have := run_make (P := Tryd.prog) w 23 3 i0_ _ Tryd.underlying23 hi0 hz0 .i64 .i64 (T.length : Int) (T.length : Int) (by omega) (by omega) (by rw [hz2]; omega) (by omega)
    rw [this]
    rw [Int.toNat_natCast, hz1, made_64]
  have L0 : Hid (IRow (w.alloc (.cells (Array.replicate T.length (Value.int .i64 0)) 3)) w.heap.size (List.replicate T.length 0)) := by
    show _ = _
    rw [heap_new rfl]
    simp
  have F0 : Hid (Fr (fun _ => True) w (w.alloc (.cells (Array.replicate T.length (Value.int .i64 0)) 3))) := (Fr.refl _ w).alloc _
  obtain ⟨g, hg⟩ : ∃ g, w.heap.size = g := ⟨_, rfl⟩
  have HG : Hid (w.heap.size = g) := hg
  rw [hg] at m1 L0 ⊢
  clear hl hL hA hg
  go_enter Tryd.func19, Tryd.ntmps19
  go_upto_region 2 with fail
  clear m1
  generalize w.alloc (.cells (Array.replicate T.length (Value.int .i64 0)) 3) = W0 at L0 F0 ⊢
  go_wp2_with fail
  go_loopg [13] (T.length) (fun k s13 wr => ∃ (j : Nat) (d : List Int), s13 = .int .i64 (j : Int) ∧ j + k = T.length ∧ d.length = T.length ∧ Hid (IRow wr g d) ∧ Hid (Fr (fun _ => True) w wr) ∧ Hid (d.take j = (T.take j).map (toldP s)))
  case atStart => exact ⟨0, _, rfl, by omega, by simp, L0, F0, by show _ = _; simp⟩
  case round =>
    clear L0 F0
    obtain ⟨j, d, rfl, hjk, hds, HL, HF, HD⟩ := hrel
    have NA : Hid (NmAt wr n pb fb base s) := NA0.out.of HF.out
    by_cases hj : j < T.length
    · obtain ⟨k, rfl⟩ : ∃ k, gk = k + 1 := ⟨gk - 1, by omega⟩
      obtain ⟨l, hx⟩ : ∃ l, T[j] = l := ⟨_, rfl⟩
      have hxj : T[j]? = some l := by rw [List.getElem?_eq_getElem hj, hx]
      obtain ⟨a', c', e', hrow⟩ := (HI.out.of (HF.out.mono fun _ _ => trivial)).ex
      cases e'
      obtain ⟨b, rfl, _, cj⟩ := hrow j l hxj
      have j0 : (0 : Int) ≤ (j : Int) := by omega
      have j1 : (j : Int) < (T.length : Int) := by omega
      have hl2 := HLN.out l (hx ▸ List.getElem_mem hj)
      have hP : l / 2 < s.2.length := by omega
      obtain ⟨V, hV⟩ : ∃ V, s.2.getD (l / 2) 0 = V := ⟨_, rfl⟩
      have hVe : s.2[l / 2]? = some V := by rw [List.getElem?_eq_getElem hP]; rw [List.getD_eq_getElem?_getD, List.getElem?_eq_getElem hP] at hV; exact congrArg some hV
      have hVn : V ≤ n := (NA.out.ok.there _ _ hVe).2.1
      have hfew := NA.out.ok.few
      obtain ⟨vv, hblk, hown⟩ := NA.out.ex
      obtain ⟨vg, vm, vc, rfl, hvm, cv⟩ := own_cell hown (show (v32 s.2)[l / 2]? = some (.int .i32 (V : Int)) by simp [v32, hVe])
      subst hvm
      have b1 := block_cell hblk 1
      have P0 : (0 : Int) ≤ ((l / 2 : Nat) : Int) := by omega
      have P1 : ((l / 2 : Nat) : Int) < (s.2.length : Int) := by omega
      have HPL : Hid (∀ W, Calls Tryd.prog 35 #[.int .i32 (l : Int)] W fun e w' => e = .returned (.int .i32 ((l / 2 : Nat) : Int)) ∧ w' = W) := fun W => place_any W l
      have gl : g < wr.heap.size := block_lt HL.out
      have gcell : ∃ v0, wr.cell? ⟨g, j, none⟩ = some v0 := ⟨.int .i64 d[j], by rw [block_cell HL.out]; simp [hds, hj]⟩
      obtain ⟨v0, gc⟩ := gcell
      have gz := frozen_block HL.out j
      have HX : Hid (T[j]? = some l) := hxj
      have hl3 : l < 1073741824 := by omega
      have HTP : Hid (toldP s l = if l % 2 = 0 then (V : Int) else -(V : Int)) := by show _ = _; unfold toldP; rw [hV]
      have HL2 : Hid (IRow (wr.setCell ⟨g, j, none⟩ (.int .i64 (V : Int))).drew g (d.set j (V : Int))) := HL.out.set j _
      have HF2 : Hid (Fr (fun _ => True) w (wr.setCell ⟨g, j, none⟩ (.int .i64 (V : Int))).drew) := (HF.out.setB (p := ⟨g, j, none⟩) (by show w.heap.size ≤ g; rw [HG.out]; exact Nat.le_refl _) _).trans (Fr.grew (Grew.drewN (Grew.refl _) 1))
      have hbit := bits_one l hl3
      have hwr : IntKind.i64.wrap (V : Int) = (V : Int) := by rw [IntKind.wrap_i64]; omega
      clear hx hxj hrow hblk hown NA hVe hV HL HF hl3
      go_upto_region 5 with fail
      go_cut [] (fun wx => wx = (wr.setCell ⟨g, j, none⟩ (.int .i64 (V : Int))).drew)
      case first =>
        generalize l / 2 = P at *
        go_region_with (go_at_call 35; refine (HPL.out _).mono ?_; rintro e w' ⟨rfl, hw⟩; obtain rfl := hw.symm)
        all_goals
          go_wp2_with fail
          go_meet
          case rel => rfl
      case rest =>
        subst hcut
        clear cv b1 P0 P1 gc gz HPL cj
        generalize (wr.setCell ⟨g, j, none⟩ (.int .i64 (V : Int))).drew = W1 at HL2 HF2 ⊢
        have gc1 : W1.cell? ⟨g, j, none⟩ = some (.int .i64 (V : Int)) := by rw [block_cell HL2.out]; simp [hds, hj]
        have gz1 := frozen_block HL2.out j
        by_cases hev : l % 2 = 0
        · rw [hev] at hbit
          have hbit0 : bits .and .i32 (l : Int) 1 = 0 := hbit
          have HD2 : Hid ((d.set j (V : Int)).take (j + 1) = (T.take (j + 1)).map (toldP s)) := take_set1 HD.out HX.out (by omega) (by rw [HTP.out, if_pos hev])
          clear HD hbit
          go_wp2_with fail
          go_roundg k
          case measure => omega
          case rel => exact ⟨j + 1, _, by simp, by omega, by simpa using hds, HL2, HF2, HD2⟩
        · have hbit1 : bits .and .i32 (l : Int) 1 = 1 := by rw [hbit]; omega
          have HL3 : Hid (IRow (W1.setCell ⟨g, j, none⟩ (.int .i64 (-(V : Int)))) g ((d.set j (V : Int)).set j (-(V : Int)))) := HL2.out.set j _
          have HF3 : Hid (Fr (fun _ => True) w (W1.setCell ⟨g, j, none⟩ (.int .i64 (-(V : Int))))) := HF2.out.setB (p := ⟨g, j, none⟩) (by show w.heap.size ≤ g; rw [HG.out]; exact Nat.le_refl _) _
          have HD3 : Hid ((((d.set j (V : Int)).set j (-(V : Int)))).take (j + 1) = (T.take (j + 1)).map (toldP s)) := by
            show _ = _
            rw [List.set_set]
            exact take_set1 HD.out HX.out (by omega) (by rw [HTP.out, if_neg hev])
          clear HD hbit HL2 HF2
          go_wp2_with fail
          go_roundg k
          case measure => omega
          case rel => exact ⟨j + 1, _, by simp, by omega, by simpa using hds, HL3, HF3, HD3⟩
    · have j1 : ¬ (j : Int) < (T.length : Int) := by omega
      obtain rfl : j = T.length := by omega
      have HE : Hid (IRow wr g (T.map (toldP s))) := by
        have := HD.out
        rw [← hds, List.take_length, hds, List.take_length] at this
        rw [← this]; exact HL.out
      clear HL HD
      go_wp2_with fail
      go_ret
      exact ⟨rfl, HE.out, HF.out⟩

end Go.Proofs.YtbicefgjompnoaaDoor.Sx
/-
  DERIVED: THE SHELF's CONTRACTS AT THIS DUMP, IN PLAIN WORDS (tools/lay-plain.mjs out of 'TryLays8.lean', which tools/lay-shelf.mjs wrote): THE SAME DECLARATIONS UNDER THE SAME NAMES: 'import', 'namespace', 'open', 'def', 'theorem' AND NOTHING ELSE: no command of the shelf's: FOR A HAND-IN. Each laying: the table of numbers ('.._ren') and one theorem, a field a fact of the dump's own or the kernel's comparison; each contract: ONE APPLICATION.
-/
namespace Go.Proofs
open Go.Shelf
def Tryd.laysSortFunc_ren : Go.Shelf.Ren := ⟨fun | 6 => 20 | 15 => 38 | 14 => 37 | 28 => 53 | 29 => 54 | 20 => 45 | 21 => 46 | 22 => 47 | 23 => 48 | 24 => 49 | 25 => 50 | 26 => 51 | 27 => 52 | 46 => 61 | 47 => 62 | 48 => 63 | 49 => 64 | 50 => 65 | 57 => 70 | n => n, fun | 22 => 23 | 24 => 3 | 25 => 56 | 3 => 3 | 39 => 78 | 0 => 0 | 53 => 99 | 55 => 101 | 4 => 4 | 46 => 92 | 45 => 91 | 50 => 96 | 5 => 5 | 9 => 9 | 66 => 116 | 70 => 120 | 76 => 137 | 77 => 61 | n => n, fun | n => n⟩
theorem Tryd.laysSortFunc : Go.Proofs.SlLaysF.n6 Tryd.prog Tryd.laysSortFunc_ren := {
  mixed := by kernel_rfl
  f6 := ⟨Tryd.f20.name, by decide, Tryd.func20.trans (congrArg some (by kernel_rfl))⟩
  f14 := ⟨Tryd.f37.name, by decide, Tryd.func37.trans (congrArg some (by kernel_rfl))⟩
  f15 := Tryd.func38.trans (congrArg some (by kernel_rfl))
  f20 := ⟨Tryd.f45.name, by decide, Tryd.func45.trans (congrArg some (by kernel_rfl))⟩
  f21 := ⟨Tryd.f46.name, by decide, Tryd.func46.trans (congrArg some (by kernel_rfl))⟩
  f22 := ⟨Tryd.f47.name, by decide, Tryd.func47.trans (congrArg some (by kernel_rfl))⟩
  f23 := ⟨Tryd.f48.name, by decide, Tryd.func48.trans (congrArg some (by kernel_rfl))⟩
  f24 := ⟨Tryd.f49.name, by decide, Tryd.func49.trans (congrArg some (by kernel_rfl))⟩
  f25 := ⟨Tryd.f50.name, by decide, Tryd.func50.trans (congrArg some (by kernel_rfl))⟩
  f26 := ⟨Tryd.f51.name, by decide, Tryd.func51.trans (congrArg some (by kernel_rfl))⟩
  f27 := ⟨Tryd.f52.name, by decide, Tryd.func52.trans (congrArg some (by kernel_rfl))⟩
  f28 := Tryd.func53.trans (congrArg some (by kernel_rfl))
  f29 := Tryd.func54.trans (congrArg some (by kernel_rfl))
  f46 := ⟨Tryd.f61.name, by decide, Tryd.func61.trans (congrArg some (by kernel_rfl))⟩
  f47 := Tryd.func62.trans (congrArg some (by kernel_rfl))
  f48 := Tryd.func63.trans (congrArg some (by kernel_rfl))
  f49 := ⟨Tryd.f64.name, by decide, Tryd.func64.trans (congrArg some (by kernel_rfl))⟩
  f50 := ⟨Tryd.f65.name, by decide, Tryd.func65.trans (congrArg some (by kernel_rfl))⟩
  f57 := ⟨Tryd.f70.name, by decide, Tryd.func70.trans (congrArg some (by kernel_rfl))⟩
  t0 := Tryd.underlying0
  a0 := Tryd.isAgg0
  z0 := Tryd.sizeOf0
  v0 := Tryd.zeroValue0
  t3 := Tryd.underlying3
  a3 := Tryd.isAgg3
  z3 := Tryd.sizeOf3
  v3 := Tryd.zeroValue3
  t4 := Tryd.underlying4
  a4 := Tryd.isAgg4
  z4 := Tryd.sizeOf4
  v4 := Tryd.zeroValue4
  t5 := Tryd.underlying5
  a5 := Tryd.isAgg5
  z5 := Tryd.sizeOf5
  v5 := Tryd.zeroValue5
  t9 := Tryd.underlying9
  a9 := Tryd.isAgg9
  z9 := Tryd.sizeOf9
  v9 := Tryd.zeroValue9
  t22 := Tryd.underlying23
  a22 := Tryd.isAgg23
  z22 := Tryd.sizeOf23
  v22 := Tryd.zeroValue23
  a24 := Tryd.isAgg3
  z24 := Tryd.sizeOf3
  t25 := Tryd.underlying56
  a25 := Tryd.isAgg56
  z25 := Tryd.sizeOf56
  v25 := Tryd.zeroValue56
  t39 := Tryd.underlying78
  a39 := Tryd.isAgg78
  z39 := Tryd.sizeOf78
  v39 := Tryd.zeroValue78
  t45 := Tryd.underlying91
  a45 := Tryd.isAgg91
  z45 := Tryd.sizeOf91
  v45 := Tryd.zeroValue91
  t46 := Tryd.underlying92
  a46 := Tryd.isAgg92
  z46 := Tryd.sizeOf92
  v46 := Tryd.zeroValue92
  t50 := Tryd.underlying96
  a50 := Tryd.isAgg96
  z50 := Tryd.sizeOf96
  v50 := Tryd.zeroValue96
  t53 := Tryd.underlying99
  a53 := Tryd.isAgg99
  z53 := Tryd.sizeOf99
  v53 := Tryd.zeroValue99
  t55 := Tryd.underlying101
  a55 := Tryd.isAgg101
  z55 := Tryd.sizeOf101
  v55 := Tryd.zeroValue101
  t66 := Tryd.underlying116
  a66 := Tryd.isAgg116
  z66 := Tryd.sizeOf116
  v66 := Tryd.zeroValue116
  t70 := Tryd.underlying120
  a70 := Tryd.isAgg120
  z70 := Tryd.sizeOf120
  v70 := Tryd.zeroValue120
  t76 := Tryd.underlying137
  a76 := Tryd.isAgg137
  z76 := Tryd.sizeOf137
  v76 := Tryd.zeroValue137
  t77 := Tryd.underlying61
  a77 := Tryd.isAgg61
  z77 := Tryd.sizeOf61
  v77 := Tryd.zeroValue61 }
def Tryd.laysCmp_ren : Go.Shelf.Ren := ⟨fun | 5 => 22 | 7 => 39 | n => n, fun | 22 => 3 | 3 => 3 | 4 => 4 | n => n, fun | n => n⟩
theorem Tryd.laysCmp : Go.Proofs.SlLaysC2.n5 Tryd.prog Tryd.laysCmp_ren := {
  mixed := by kernel_rfl
  f5 := ⟨Tryd.f22.name, by decide, Tryd.func22.trans (congrArg some (by kernel_rfl))⟩
  f7 := ⟨Tryd.f39.name, by decide, Tryd.func39.trans (congrArg some (by kernel_rfl))⟩
  t3 := Tryd.underlying3
  a3 := Tryd.isAgg3
  z3 := Tryd.sizeOf3
  v3 := Tryd.zeroValue3
  t4 := Tryd.underlying4
  a4 := Tryd.isAgg4
  z4 := Tryd.sizeOf4
  v4 := Tryd.zeroValue4
  t22 := Tryd.underlying3
  a22 := Tryd.isAgg3
  z22 := Tryd.sizeOf3
  v22 := Tryd.zeroValue3 }
end Go.Proofs
/- The program: what is told is put in order. -/
namespace Go.Proofs.YtbicefgjompnoaaDoor.Sx
open Go.Shelf Go.RowKit Go.Lib Go.Sort

/-- numbers of moderate size -/
abbrev Sm := { x : Int // -1073741824 ≤ x ∧ x ≤ 1073741824 }
instance : Inhabited Sm := ⟨⟨0, by omega, by omega⟩⟩
def encS (x : Sm) : Value := .int .i64 x.1
/-- by size -/
def cfA (x y : Sm) : Int := Lib.compareInt (x.1.natAbs : Int) (y.1.natAbs : Int)
theorem ltA (x y : Sm) : ltOf cfA x y = decide (x.1.natAbs < y.1.natAbs) := by
  unfold ltOf cfA Lib.compareInt
  by_cases h1 : (x.1.natAbs : Int) < (y.1.natAbs : Int)
  · have : x.1.natAbs < y.1.natAbs := by omega
    simp [h1, this]
  · have : ¬ x.1.natAbs < y.1.natAbs := by omega
    by_cases h2 : (y.1.natAbs : Int) < (x.1.natAbs : Int) <;> simp [h1, h2, this]
theorem swoA : SWO (ltOf cfA) where
  irrefl x := by rw [ltA]; simp
  trans x y z h1 h2 := by rw [ltA] at *; simp at *; omega
  ntrans x y z h1 h2 := by rw [ltA] at *; simp at *; omega

set_option maxRecDepth 100000 in
set_option maxHeartbeats 4000000 in
theorem closureA (x y : Sm) (W : World) : Calls Tryd.prog 21 #[.int .i64 x.1, .int .i64 y.1] W fun e w' => e = .returned (.int .i64 (cfA x y)) ∧ ∃ q, w' = W.drewN q := by
  have mo := follows
  have hcon : Hid (∀ W, Calls Tryd.prog 22 _ _ _) := fun W => AnyG.cmp_Compare_int Tryd.laysCmp (x.1.natAbs : Int) (y.1.natAbs : Int) W
  unfold cfA
  obtain ⟨x, x1, x2⟩ := x
  obtain ⟨y, y1, y2⟩ := y
  simp only at hcon ⊢
  obtain ⟨r, hr⟩ : ∃ r, Lib.compareInt (x.natAbs : Int) (y.natAbs : Int) = r := ⟨_, rfl⟩
  rw [hr] at hcon ⊢
  have hmx : max x (-x) = (x.natAbs : Int) := by omega
  have hmy : max y (-y) = (y.natAbs : Int) := by omega
  obtain ⟨X, hX⟩ : ∃ X, (x.natAbs : Int) = X := ⟨_, rfl⟩
  obtain ⟨Y, hY⟩ : ∃ Y, (y.natAbs : Int) = Y := ⟨_, rfl⟩
  rw [hX] at hcon hmx
  rw [hY] at hcon hmy
  have wx : IntKind.i64.wrap (-x) = -x := by rw [IntKind.wrap_i64]; omega
  have wy : IntKind.i64.wrap (-y) = -y := by rw [IntKind.wrap_i64]; omega
  clear hr hX hY
  go_enter Tryd.func21, Tryd.ntmps21
  go_wp2_with (go_at_call 22; refine (hcon.out _).mono ?_; rintro e w' ⟨rfl, rfl⟩)
  go_ret
  exact ⟨rfl, 0, rfl⟩

theorem cmpReadsA (blk off size : Nat) (w : World) : CmpReads Tryd.prog 21 #[] encS cfA blk off size w := fun _ _ _ _ x y => closureA x y _

end Go.Proofs.YtbicefgjompnoaaDoor.Sx
/- The program: what is told is put in order (whole). -/
namespace Go.Proofs.YtbicefgjompnoaaDoor.Sx
open Go.Shelf Go.RowKit Go.Lib Go.Sort

theorem sortW_other (w : World) (g n : Nat) (d : Array Sm) (os : Array Obj) (k : Nat) (hk : k < w.heap.size) (hg : k ≠ g) : (sortWorld encS w g 0 n d os).heap[k]? = w.heap[k]? := by
  show ((w.heap.modify g (onCells (putCells encS 0 d))) ++ os)[k]? = _
  rw [Array.getElem?_append_left (by simpa using hk), Array.getElem?_modify, if_neg (fun e => hg e.symm)]
theorem sortW_row {w : World} {g : Nat} {ds : List Sm} (h : IRow w g (ds.map (·.1))) (n : Nat) {d : Array Sm} (hd : d.size = ds.length) (os : Array Obj) : IRow (sortWorld encS w g 0 n d os) g (d.toList.map (·.1)) := by
  have hg : g < w.heap.size := block_lt h
  unfold IRow at h ⊢
  show ((w.heap.modify g (onCells (putCells encS 0 d))) ++ os)[g]? = _
  rw [Array.getElem?_append_left (by simpa using hg), Array.getElem?_modify, if_pos rfl, h]
  show some (Obj.cells (putCells encS 0 d _) 3 (0, 0)) = _
  congr 2
  apply Array.ext_getElem?
  intro i
  unfold putCells
  by_cases hi : i < ds.length
  · have hi2 : i < d.size := by omega
    simp [hi, hi2, encS]
  · have hi2 : ¬ i < d.size := by omega
    simp [hi, hi2]
theorem sortW_fr (w : World) (g n : Nat) (d : Array Sm) (os : Array Obj) : Fr (· ≠ g) w (sortWorld encS w g 0 n d os) :=
  ⟨rfl, rfl, rfl, by show _ ≤ ((w.heap.modify g (onCells (putCells encS 0 d))) ++ os).size; simp, fun k hk hg => sortW_other w g n d os k hk hg⟩
theorem IRow.holds {w : World} {g : Nat} {ds : List Sm} (h : IRow w g (ds.map (·.1))) : Holds encS w g 0 ds.toArray := fun j hj => by
  have hj2 : j < ds.length := by simpa using hj
  refine ⟨?_, frozen_block h _⟩
  rw [Nat.zero_add, block_cell h]
  simp [hj2, encS]

set_option maxRecDepth 100000 in
set_option maxHeartbeats 2000000 in
theorem sortA_any (w : World) (g : Nat) (d : List Int) (h : IRow w g d) (hd : ∀ x ∈ d, -1073741824 ≤ x ∧ x ≤ 1073741824) (hl : d.length ≤ 4294967296) :
    Calls Tryd.prog 20 #[.slice (some ⟨g, 0, none⟩) d.length d.length, .func (.func 21) #[] #[]] w fun e w' => e = .returned (.tuple #[]) ∧ ∃ d', IRow w' g d' ∧ d'.Perm d ∧ d'.Pairwise (fun a b => a.natAbs ≤ b.natAbs) ∧ Fr (· ≠ g) w w' := by
  obtain ⟨ds, rfl⟩ : ∃ ds : List Sm, ds.map (·.1) = d := ⟨d.attachWith _ hd, by simp⟩
  have hsz : ds.toArray.size = ds.length := by simp
  have hlt : ds.toArray.size < 4611686018427387904 := by
    have : ds.length ≤ 4294967296 := by simpa using hl
    omega
  have eg : ∀ args w, (callFunc 21 args).run Tryd.prog w = .ok (.enter 21 args) w := enters_of Tryd.func21 (by kernel_rfl) rfl
  have hS := Any.slices_SortFunc Tryd.laysSortFunc encS (fun _ => rfl) cfA swoA 21 #[] g 0 (ds.map (·.1)).length ds.toArray w eg (cmpReadsA g 0 ds.toArray.size w).lays h.holds (block_lt h) hlt
  change Calls Tryd.prog 20 _ _ _ at hS
  rw [hsz] at hS
  have hlm : (ds.map (·.1)).length = ds.length := by simp
  rw [hlm] at hS ⊢
  refine hS.mono ?_
  rintro e w' ⟨rfl, d', n, os, ⟨p1, _, p3⟩, hs, rfl⟩
  have hz : d'.size = ds.length := by rw [p1]; simp
  refine ⟨rfl, d'.toList.map (·.1), sortW_row h n hz os, ?_, ?_, sortW_fr w g n d' os⟩
  · have e1 : (d'.extract 0 ds.length).toList = d'.toList := by rw [← hz]; simp
    have e2 : (ds.toArray.extract 0 ds.length).toList = ds := by simp
    rw [e1, e2] at p3
    exact p3.map _
  · rw [List.pairwise_map, List.pairwise_iff_getElem]
    intro i j hi hj hij
    have := hs i j (Nat.zero_le _) hij (by simpa [hz] using hj)
    rw [ltA] at this
    have hi' : i < d'.size := by simpa using hi
    have hj' : j < d'.size := by simpa using hj
    rw [getElem!_pos d' i hi', getElem!_pos d' j hj'] at this
    have := of_decide_eq_false this
    simp only [Array.getElem_toList]
    omega

end Go.Proofs.YtbicefgjompnoaaDoor.Sx
