/- The program: name. -/
import Derived.Test.YtbicefgjompnoaaDoorF05
import Derived.Deep.QuietTactic
import Derived.BigQuiet
import Derived.Sort.Lot0
import Derived.Outline
namespace Go.Proofs.YtbicefgjompnoaaDoor.Sx
open Go.RowKit Go.Sort

def hearC (s : List Nat × List Nat) (C : List (List Int)) : List Nat × List Nat := C.foldl hearP s
theorem made_32 (m : Nat) : madeCells (Value.int .i32 0).cells (m * 1) = Array.replicate m (Value.int .i32 0) := by
  apply Array.ext
  · simp [madeCells]
  · intro i h1 h2
    have e : i % 1 = 0 := Nat.mod_one i
    simp [madeCells, Value.cells, e]
theorem NmAt.of {w w' : World} {n pb fb base : Nat} {s : List Nat × List Nat} (h : NmAt w n pb fb base s) (f : Fr (fun _ => True) w w') : NmAt w' n pb fb base s := by
  obtain ⟨vv, h1, h2⟩ := h.ex
  exact ⟨⟨vv, (f.block _ (block_lt h1) trivial).trans h1, f.owns h2⟩, (f.block _ (block_lt h.pl) trivial).trans h.pl, h.ok, h.lt, Nat.le_trans h.hb f.size⟩

theorem index59a (w : World) (a b : Option Addr) (n c m d : Nat) : Sem.run Tryd.prog (Instr.index 65 (.agg #[.slice a n c, .slice b m d]) (.int .i64 0)) w = .ok (.slice a n c) w := by kernel_rfl
theorem index59b (w : World) (a b : Option Addr) (n c m d : Nat) : Sem.run Tryd.prog (Instr.index 65 (.agg #[.slice a n c, .slice b m d]) (.int .i64 1)) w = .ok (.slice b m d) w := by kernel_rfl

def NamePost (w : World) (n : Nat) (s : List Nat × List Nat) (e : Ending) (w' : World) : Prop := ∃ pb fb base, e = .returned (.pointer (some ⟨fb, 0, none⟩)) ∧ NmAt w' n pb fb base s ∧ w.heap.size ≤ pb ∧ Fr (fun _ => True) w w'

set_option maxRecDepth 100000 in
set_option maxHeartbeats 2000000 in
theorem name_any (w : World) (n lo : Nat) (cv ov : Value) (C O : List (List Int)) (hn : n ≤ 16777216) (hlo : lo ≤ w.heap.size) (hC : ClsAt w lo cv C) (hO : ClsAt w lo ov O) (hLC : ∀ c ∈ C, ∀ x ∈ c, LitN n x) (hLO : ∀ c ∈ O, ∀ x ∈ c, LitN n x) :
    Calls Tryd.prog 14 #[.int .i64 (n : Int), cv, ov] w (NamePost w n (hearC (hearC (List.replicate (n + 1) 0, []) C) O)) := by
  have mo := follows
  obtain ⟨i0_, hi0, hz0, hz1, hz2⟩ := info21
  obtain ⟨ca, cc, rfl, _⟩ := hC.ex
  obtain ⟨oa, oc, rfl, _⟩ := hO.ex
  have hbc := hC.big
  have hbo := hO.big
  obtain ⟨R, hR⟩ : ∃ R, hearC (hearC (List.replicate (n + 1) 0, []) C) O = R := ⟨_, rfl⟩
  rw [hR]
  have HR : Hid (hearC (hearC (List.replicate (n + 1) 0, []) C) O = R) := hR
  have HC : Hid (ClsAt w lo (.slice ca C.length cc) C) := hC
  have HO : Hid (ClsAt w lo (.slice oa O.length oc) O) := hO
  have HLC : Hid (∀ c ∈ C, ∀ x ∈ c, LitN n x) := hLC
  have HLO : Hid (∀ c ∈ O, ∀ x ∈ c, LitN n x) := hLO
  clear hR hC hO hLC hLO
  have m1 : (Instr.makeSlice 50 (.int .i64 ((n : Int) + 1)) (.int .i64 ((n : Int) + 1))).run Tryd.prog w = .ok (.slice (some ⟨w.heap.size, 0, none⟩) (n + 1) (n + 1)) (w.alloc (.cells (Array.replicate (n + 1) (Value.int .i32 0)) 21)) := by
    have := run_make (P := Tryd.prog) w 50 21 i0_ _ Tryd.underlying50 hi0 hz0 .i64 .i64 ((n : Int) + 1) ((n : Int) + 1) (by omega) (by omega) (by rw [hz2]; omega) (by omega)
    rw [this]
    have e : ((n : Int) + 1).toNat = n + 1 := by omega
    rw [e, hz1, made_32]
  have N0 : Hid (NmAt ((w.alloc (.cells (Array.replicate (n + 1) (Value.int .i32 0)) 21)).alloc (.cells #[.slice (some ⟨w.heap.size, 0, none⟩) (n + 1) (n + 1), .slice none 0 0] 64)) n w.heap.size (w.heap.size + 1) (w.heap.size + 2) (List.replicate (n + 1) 0, [])) := by
    refine ⟨⟨.slice none 0 0, heap_new (by simp), World.ownsRow_nil _ _ _ _⟩, ?_, NmOK.nil n, ⟨by omega, by omega⟩, by simp⟩
    rw [heap_alloc_old _ _ (by simp), heap_new rfl]
    simp [v32]
  have F0 : Hid (Fr (fun _ => True) w ((w.alloc (.cells (Array.replicate (n + 1) (Value.int .i32 0)) 21)).alloc (.cells #[.slice (some ⟨w.heap.size, 0, none⟩) (n + 1) (n + 1), .slice none 0 0] 64))) := ((Fr.refl _ w).alloc _).alloc _
  go_enter Tryd.func14, Tryd.ntmps14
  go_upto_region 2 with fail
  clear m1
  generalize (w.alloc (.cells (Array.replicate (n + 1) (Value.int .i32 0)) 21)).alloc (.cells #[.slice (some ⟨w.heap.size, 0, none⟩) (n + 1) (n + 1), .slice none 0 0] 64) = W0 at N0 F0 ⊢
  obtain ⟨pb, hpb⟩ : ∃ pb, w.heap.size = pb := ⟨_, rfl⟩
  obtain ⟨fb, hfb⟩ : ∃ fb, w.heap.size + 1 = fb := ⟨_, rfl⟩
  obtain ⟨base, hbase⟩ : ∃ base, w.heap.size + 2 = base := ⟨_, rfl⟩
  rw [hfb, hbase] at N0
  rw [hfb]
  rw [hpb] at N0 hlo
  have F : Hid (Fr (· < pb) w W0) := F0.out.mono fun _ _ => trivial
  have HPB : Hid (w.heap.size = pb) := hpb
  try rw [hpb]
  clear hfb hbase F0 hpb
  obtain ⟨S1, hS1⟩ : ∃ S1, hearC (List.replicate (n + 1) 0, []) C = S1 := ⟨_, rfl⟩
  have HU0 : Hid (hearC (List.replicate (n + 1) 0, []) (C.drop 0) = S1) := hS1
  have hR := HR.out
  rw [hS1] at hR
  have HR1 : Hid (hearC S1 (O.drop 0) = R) := hR
  clear HR hR hS1
  have NA0 := N0
  have F00 := F
  clear N0 F
  go_wp2_with fail
  go_loopg [20] (2) (fun k s20 wr => ∃ (i : Nat) (t : List Nat × List Nat), s20 = .int .i64 (i : Int) ∧ i + k = 2 ∧ Hid (NmAt wr n pb fb base t) ∧ Hid (Fr (· < pb) w wr) ∧ Hid ((i = 0 → t = (List.replicate (n + 1) 0, [])) ∧ (i = 1 → t = S1) ∧ (i = 2 → t = R)))
  case atStart => exact ⟨0, _, rfl, by omega, NA0, F00, ⟨fun _ => rfl, fun h => by omega, fun h => by omega⟩⟩
  case round =>
    clear NA0 F00
    obtain ⟨i, t, rfl, hik, NA, F, HT⟩ := hrel
    rcases (show i = 0 ∨ i = 1 ∨ i = 2 from by omega) with rfl | rfl | rfl
    · obtain ⟨k0, rfl⟩ : ∃ k, gk = k + 1 := ⟨gk - 1, by omega⟩
      obtain rfl := HT.out.1 rfl
      have ix := index59a wr ca oa C.length cc O.length oc
      have HU := HU0
      go_wp2_with fail
      go_loopg [25] (C.length) (fun k s25 wr => ∃ (j : Nat) (t : List Nat × List Nat), s25 = .int .i64 (j : Int) ∧ j + k = C.length ∧ Hid (NmAt wr n pb fb base t) ∧ Hid (Fr (· < pb) w wr) ∧ Hid (hearC t (C.drop j) = S1))
      case atStart => exact ⟨0, _, rfl, by omega, NA, F, HU⟩
      case round =>
        clear NA F HU
        obtain ⟨j, t, rfl, hjk, NA, F, HU⟩ := hrel
        by_cases hj : j < C.length
        · obtain ⟨k, rfl⟩ : ∃ k, gk = k + 1 := ⟨gk - 1, by omega⟩
          obtain ⟨x, hx⟩ : ∃ x, C[j] = x := ⟨_, rfl⟩
          obtain ⟨a', c', e', hrow⟩ := (HC.out.of (F.out.mono fun k hk => by show k < pb; omega)).ex
          cases e'
          obtain ⟨p, rfl, _, hp⟩ : ∃ p : Addr, ca = some p ∧ p.block < lo ∧ ∀ i c, C[i]? = some c → ∃ u, wr.cell? (p.add i) = some u ∧ IntsAt wr lo u c := by
            rcases hrow with q | q
            · rw [q] at hj; simp at hj
            · exact q
          obtain ⟨u, cj, hui⟩ := hp j x (by rw [List.getElem?_eq_getElem hj, hx])
          have hd : C.drop j = x :: C.drop (j + 1) := by rw [List.drop_eq_getElem_cons hj, hx]
          have j0 : (0 : Int) ≤ (j : Int) := by omega
          have j1 : (j : Int) < (C.length : Int) := by omega
          have hu := HU.out
          rw [hd] at hu
          have HU : Hid (hearC (hearP t x) (C.drop (j + 1)) = S1) := hu
          have HH := hear_any wr n pb fb base lo t u x hn hlo NA.out hui (HLC.out x (hx ▸ List.getElem_mem hj))
          clear hu hp hrow hd hx hui
          go_wp2_with (go_at_call 29; refine HH.mono ?_; rintro e w' ⟨rfl, h1, h2⟩)
          have NA : Hid (NmAt w' n pb fb base (hearP t x)) := h1
          have F : Hid (Fr (· < pb) w w') := F.out.trans h2
          clear h1 h2 HH
          go_wp2_with fail
          go_roundg k
          case measure => omega
          case rel => exact ⟨j + 1, _, by simp, by omega, NA, F, HU⟩
        · have j1 : ¬ (j : Int) < (C.length : Int) := by omega
          obtain rfl : j = C.length := by omega
          have hu := HU.out
          rw [List.drop_length] at hu
          have hu2 : t = S1 := hu
          subst hu2
          clear hu HU
          go_wp2_with fail
          go_roundg k0
          case measure => omega
          case rel => exact ⟨1, t, rfl, by omega, NA, F, ⟨fun h => by omega, fun _ => rfl, fun h => by omega⟩⟩
    · obtain ⟨k0, rfl⟩ : ∃ k, gk = k + 1 := ⟨gk - 1, by omega⟩
      obtain rfl := HT.out.2.1 rfl
      have ix := index59b wr ca oa C.length cc O.length oc
      have HU := HR1
      go_wp2_with fail
      go_loopg [25] (O.length) (fun k s25 wr => ∃ (j : Nat) (t : List Nat × List Nat), s25 = .int .i64 (j : Int) ∧ j + k = O.length ∧ Hid (NmAt wr n pb fb base t) ∧ Hid (Fr (· < pb) w wr) ∧ Hid (hearC t (O.drop j) = R))
      case atStart => exact ⟨0, _, rfl, by omega, NA, F, HU⟩
      case round =>
        clear NA F HU
        obtain ⟨j, t, rfl, hjk, NA, F, HU⟩ := hrel
        by_cases hj : j < O.length
        · obtain ⟨k, rfl⟩ : ∃ k, gk = k + 1 := ⟨gk - 1, by omega⟩
          obtain ⟨x, hx⟩ : ∃ x, O[j] = x := ⟨_, rfl⟩
          obtain ⟨a', c', e', hrow⟩ := (HO.out.of (F.out.mono fun k hk => by show k < pb; omega)).ex
          cases e'
          obtain ⟨p, rfl, _, hp⟩ : ∃ p : Addr, oa = some p ∧ p.block < lo ∧ ∀ i c, O[i]? = some c → ∃ u, wr.cell? (p.add i) = some u ∧ IntsAt wr lo u c := by
            rcases hrow with q | q
            · rw [q] at hj; simp at hj
            · exact q
          obtain ⟨u, cj, hui⟩ := hp j x (by rw [List.getElem?_eq_getElem hj, hx])
          have hd : O.drop j = x :: O.drop (j + 1) := by rw [List.drop_eq_getElem_cons hj, hx]
          have j0 : (0 : Int) ≤ (j : Int) := by omega
          have j1 : (j : Int) < (O.length : Int) := by omega
          have hu := HU.out
          rw [hd] at hu
          have HU : Hid (hearC (hearP t x) (O.drop (j + 1)) = R) := hu
          have HH := hear_any wr n pb fb base lo t u x hn hlo NA.out hui (HLO.out x (hx ▸ List.getElem_mem hj))
          clear hu hp hrow hd hx hui
          go_wp2_with (go_at_call 29; refine HH.mono ?_; rintro e w' ⟨rfl, h1, h2⟩)
          have NA : Hid (NmAt w' n pb fb base (hearP t x)) := h1
          have F : Hid (Fr (· < pb) w w') := F.out.trans h2
          clear h1 h2 HH
          go_wp2_with fail
          go_roundg k
          case measure => omega
          case rel => exact ⟨j + 1, _, by simp, by omega, NA, F, HU⟩
        · have j1 : ¬ (j : Int) < (O.length : Int) := by omega
          obtain rfl : j = O.length := by omega
          have hu := HU.out
          rw [List.drop_length] at hu
          have hu2 : t = R := hu
          subst hu2
          clear hu HU
          go_wp2_with fail
          go_roundg k0
          case measure => omega
          case rel => exact ⟨2, t, rfl, by omega, NA, F, ⟨fun h => by omega, fun h => by omega, fun _ => rfl⟩⟩
    · obtain rfl := HT.out.2.2 rfl
      go_wp2_with fail
      go_ret
      exact ⟨pb, fb, base, rfl, NA.out, by rw [HPB.out]; exact Nat.le_refl _, ⟨F.out.os, F.out.tape, F.out.output, F.out.size, fun k hk _ => F.out.block k hk (by rw [HPB.out] at hk; exact hk)⟩⟩

end Go.Proofs.YtbicefgjompnoaaDoor.Sx
/- Rows of literals: cells, exchanges; which is less. -/
namespace Go.Proofs.YtbicefgjompnoaaDoor.Sx
open Go.RowKit Go.Sort

def encL (d : Array Nat) : Array Value := d.map fun x : Nat => Value.int .i32 (x : Int)
/-- a block of literals -/
def LRow (w : World) (b : Nat) (d : Array Nat) : Prop := w.heap[b]? = some (.cells (encL d) 45 (0, 0))
def ltN (x y : Nat) : Bool := decide (x < y)
theorem swoN : SWO ltN := ⟨fun x => by simp [ltN], fun x y z h1 h2 => by simp [ltN] at *; omega, fun x y z h1 h2 => by simp [ltN] at *; omega⟩

theorem LRow.cell {w : World} {b : Nat} {d : Array Nat} (h : LRow w b d) {i : Nat} (hi : i < d.size) : w.cell? ⟨b, i, none⟩ = some (.int .i32 (d[i]! : Int)) := by
  rw [block_cell h]; simp [encL, hi]
theorem LRow.free {w : World} {b : Nat} {d : Array Nat} (h : LRow w b d) (i : Nat) : w.frozen? ⟨b, i, none⟩ = false := frozen_block h i
theorem LRow.of {P : Nat → Prop} {w w' : World} {b : Nat} {d : Array Nat} (h : LRow w b d) (f : Fr P w w') (hb : P b) : LRow w' b d := (f.block b (block_lt h) hb).trans h
theorem LRow.drew {w : World} {b : Nat} {d : Array Nat} (h : LRow w b d) : LRow w.drew b d := h
theorem LRow.drewN {w : World} {b : Nat} {d : Array Nat} (h : LRow w b d) (q : Nat) : LRow (w.drewN q) b d := h
theorem LRow.set {w : World} {b : Nat} {d : Array Nat} (h : LRow w b d) (i x : Nat) : LRow (w.setCell ⟨b, i, none⟩ (.int .i32 (x : Int))) b (d.setIfInBounds i x) := by
  have := set_block h i (.int .i32 (x : Int))
  unfold LRow
  rw [this]
  simp [encL, Array.set!_eq_setIfInBounds]
/-- the world behind an exchange -/
def swL (w : World) (b i j x y : Nat) : World := ((w.setCell ⟨b, i, none⟩ (.int .i32 (y : Int))).setCell ⟨b, j, none⟩ (.int .i32 (x : Int))).drew
theorem LRow.swap {w : World} {b : Nat} {d : Array Nat} (h : LRow w b d) (i j : Nat) : LRow (swL w b i j d[i]! d[j]!) b (swp d i j) := ((h.set i d[j]!).set j d[i]!).drew
theorem Fr.swapL {a b : World} {g : Nat} (h : Fr (· ≠ g) a b) (i j x y : Nat) : Fr (· ≠ g) a (swL b g i j x y) := ((h.set (by simp) _).set (by simp) _).drew
theorem Fr.drewN {P : Nat → Prop} {a b : World} (h : Fr P a b) (q : Nat) : Fr P a (b.drewN q) := h.trans (Fr.grew (Grew.drewN (Grew.refl _) q))

set_option maxRecDepth 100000 in
set_option maxHeartbeats 1000000 in
theorem isNaN_any (w : World) (x : Int) : Calls Tryd.prog 83 #[.int .i32 x] w fun e w' => e = .returned (.bool false) ∧ w' = w := by
  have mo := follows
  go_enter Tryd.func83, Tryd.ntmps83
  go_wp2_with fail
  go_ret
  exact ⟨rfl, rfl⟩

set_option maxRecDepth 100000 in
set_option maxHeartbeats 1000000 in
theorem less_any (w : World) (x y : Nat) : Calls Tryd.prog 77 #[.int .i32 (x : Int), .int .i32 (y : Int)] w fun e w' => e = .returned (.bool (ltN x y)) ∧ w' = w := by
  have mo := follows
  go_enter Tryd.func77, Tryd.ntmps77
  go_wp2_with (go_at_call 83; refine (isNaN_any _ _).mono ?_; rintro e w' ⟨rfl, hw⟩; replace hw := hw.symm; subst hw)
  go_ret
  exact ⟨rfl, rfl⟩

end Go.Proofs.YtbicefgjompnoaaDoor.Sx
/- slices.Sort of literals: by insertion. -/
namespace Go.Proofs.YtbicefgjompnoaaDoor.Sx
open Go.RowKit Go.Sort

/-- a call that turns the block's row to another -/
def RowPost (w : World) (g : Nat) (d : Array Nat) (e : Ending) (w' : World) : Prop := e = .returned (.tuple #[]) ∧ LRow w' g d ∧ Fr (· ≠ g) w w'

set_option maxRecDepth 100000 in
set_option maxHeartbeats 2000000 in
theorem insSort_any (w : World) (g len cap a b : Nat) (d : Array Nat) (h : LRow w g d) (hl : len ≤ 4294967296) (hd : len ≤ d.size) (hb : b ≤ len) (hab : a ≤ b) :
    Calls Tryd.prog 71 #[.slice (some ⟨g, 0, none⟩) len cap, .int .i64 a, .int .i64 b] w (RowPost w g (insertionSort ltN d a b)) := by
  have H0 : Hid (LRow w g d) := h
  clear h
  have mo := follows
  obtain ⟨R, hR⟩ : ∃ R, insertionSort ltN d a b = R := ⟨_, rfl⟩
  rw [hR]
  have HR0 : Hid (insOuter ltN a b (a + 1) d = R) := hR
  clear hR
  go_enter Tryd.func71, Tryd.ntmps71
  go_wp2_with fail
  go_loopg [6] (b - a) (fun k s6 wr => ∃ (i : Nat) (e : Array Nat), s6 = .int .i64 (i : Int) ∧ a < i ∧ i + k = b + 1 ∧ e.size = d.size ∧ Hid (LRow wr g e) ∧ Hid (Fr (· ≠ g) w wr) ∧ Hid (insOuter ltN a b i e = R))
  case atStart => exact ⟨a + 1, d, by simp, by omega, by omega, rfl, H0, Fr.refl _ _, HR0⟩
  case round =>
    clear HR0 H0
    obtain ⟨i, e, rfl, hai, hik, he, HL, HF, HU⟩ := hrel
    by_cases hib : i < b
    · obtain ⟨k, rfl⟩ : ∃ k, gk = k + 1 := ⟨gk - 1, by omega⟩
      have hi : (i : Int) < (b : Int) := by omega
      have hu := HU.out
      unfold insOuter at hu
      rw [if_pos hib] at hu
      obtain ⟨E, hE⟩ : ∃ E, insInner ltN a i e = E := ⟨_, rfl⟩
      rw [hE] at hu
      have HQ : Hid (insOuter ltN a b (i + 1) E = R) := hu
      have HE : Hid (insInner ltN a i e = E) := hE
      clear hu HU hE
      go_wp2_with fail
      rename World => w1
      go_loopg [7] (i) (fun k' s7 wr2 => ∃ (j : Nat) (f : Array Nat), s7 = .int .i64 (j : Int) ∧ a ≤ j ∧ j ≤ i ∧ j ≤ k' ∧ f.size = d.size ∧ Hid (LRow wr2 g f) ∧ Hid (Fr (· ≠ g) w wr2) ∧ Hid (insInner ltN a j f = E))
      case atStart => exact ⟨i, e, rfl, by omega, by omega, by omega, he, HL, HF, HE⟩
      case round =>
        clear HL HF HE
        obtain ⟨j, f, rfl, haj, hji, hjk, hf, HL, HF, HE⟩ := hrel
        have hu := HE.out
        by_cases hja : a < j
        · obtain ⟨m, rfl⟩ : ∃ m, j = m + 1 := ⟨j - 1, by omega⟩
          obtain ⟨k2, rfl⟩ : ∃ k2, gk = k2 + 1 := ⟨gk - 1, by omega⟩
          have c1 := HL.out.cell (i := m + 1) (by omega)
          have c0 := HL.out.cell (i := m) (by omega)
          have d1 := HL.out.drew.cell (i := m + 1) (by omega)
          have d0 := HL.out.drew.cell (i := m) (by omega)
          have z1 := HL.out.free (m + 1)
          have z0 := HL.out.free m
          have y1 := HL.out.drew.free (m + 1)
          have y0 := HL.out.drew.free m
          have i1 : (a : Int) < (m : Int) + 1 := by omega
          have i2 : (m : Int) + 1 < (len : Int) := by omega
          have i3 : (m : Int) < (len : Int) := by omega
          have i4 : (0 : Int) ≤ (m : Int) + 1 := by omega
          have i5 : (0 : Int) ≤ (m : Int) := by omega
          obtain ⟨x, hx⟩ : ∃ x, f[m + 1]! = x := ⟨_, rfl⟩
          obtain ⟨y, hy⟩ : ∃ y, f[m]! = y := ⟨_, rfl⟩
          unfold insInner at hu
          rw [hx, hy] at hu
          rw [hx] at c1 d1
          rw [hy] at c0 d0
          have HX : Hid (f[m + 1]! = x) := hx
          have HY : Hid (f[m]! = y) := hy
          clear hx hy
          cases hlt : ltN x y with
          | true =>
            rw [hlt] at hu
            have hq : insInner ltN a m (swp f (m + 1) m) = E := by simpa [hja] using hu
            have HE2 : Hid (insInner ltN a m (swp f (m + 1) m) = E) := hq
            have HC : Hid (∀ w, Calls Tryd.prog 77 #[.int .i32 (x : Int), .int .i32 (y : Int)] w fun e w' => e = .returned (.bool true) ∧ w' = w) := fun w => by rw [← hlt]; exact less_any w x y
            clear hu hq HE hlt
            go_wp2_with fail
            go_quiet ((go_at_call 77; exact Calls.quiet_of_same (HC.out _)))
            go_wp2_with fail
            have HL1 : LRow (wr.drewN nq) g f := HL.out.drewN nq
            have HF1 : Fr (· ≠ g) w (wr.drewN nq) := HF.out.drewN nq
            clear c1 c0 d1 d0 z1 z0 y1 y0 HL HF
            generalize wr.drewN nq = W at HL1 HF1 ⊢
            have c1 := HL1.cell (i := m + 1) (by omega)
            have c0 := HL1.cell (i := m) (by omega)
            have d1 := HL1.drew.cell (i := m + 1) (by omega)
            have d0 := HL1.drew.cell (i := m) (by omega)
            have z1 := HL1.free (m + 1)
            have z0 := HL1.free m
            have y1 := HL1.drew.free (m + 1)
            have y0 := HL1.drew.free m
            rw [HX.out] at c1 d1
            rw [HY.out] at c0 d0
            have HL2 : Hid (LRow (swL W g (m + 1) m x y) g (swp f (m + 1) m)) := by rw [← HX.out, ← HY.out]; exact HL1.swap _ _
            have HF2 : Hid (Fr (· ≠ g) w (swL W g (m + 1) m x y)) := HF1.swapL _ _ _ _
            clear HL1 HF1
            go_big_region_o
            go_wp2_with fail
            go_roundg k2
            case measure => omega
            case rel => exact ⟨m, _, by simp, by omega, by omega, by omega, by rw [size_swp]; exact hf, HL2, HF2, HE2⟩
          | false =>
            rw [hlt] at hu
            have hq : f = E := by simpa using hu
            have HC : Hid (∀ w, Calls Tryd.prog 77 #[.int .i32 (x : Int), .int .i32 (y : Int)] w fun e w' => e = .returned (.bool false) ∧ w' = w) := fun w => by rw [← hlt]; exact less_any w x y
            subst hq
            clear hu HE hlt
            go_wp2_with fail
            go_quiet ((go_at_call 77; exact Calls.quiet_of_same (HC.out _)))
            go_wp2_with fail
            go_roundg k
            case measure => omega
            case rel => exact ⟨i + 1, f, by simp, by omega, by omega, hf, HL.out.drewN nq, HF.out.drewN nq, HQ⟩
        · obtain rfl : j = a := by omega
          have hq : f = E := by
            cases j with
            | zero => exact hu
            | succ m => unfold insInner at hu; simpa using hu
          subst hq
          have i1 : decide ((j : Int) < (j : Int)) = false := by simp
          clear hu HE
          go_wp2_with fail
          go_quiet (fail)
          go_wp2_with fail
          go_roundg k
          case measure => omega
          case rel => exact ⟨i + 1, f, by simp, by omega, by omega, hf, HL.out.drewN nq, HF.out.drewN nq, HQ⟩
    · have hi : ¬ (i : Int) < (b : Int) := by omega
      have hu := HU.out
      unfold insOuter at hu
      rw [if_neg hib] at hu
      subst hu
      clear HU
      go_wp2_with fail
      go_end0
      exact ⟨rfl, HL.out, HF.out⟩

end Go.Proofs.YtbicefgjompnoaaDoor.Sx
