/- The reference: its tokens in memory, its reading; faults that stay. -/
import Derived.Test.YtjbekejcghjhbaaGreatDoorF10
import Derived.Test.YtjbekejcghjhbaaGreatDoorF07
import Derived.Deep.Cut
namespace Go.Proofs.YtjbekejcghjhbaaGreatDoor.Sx
open Go.RowKit Go.Sort

/-- where a reading stands: at a token, or at a fault and its place -/
abbrev SX := Except (Nat × Nat) Nat
def runS {β : Type} (s : SX) (k : Nat → RX β) : RX β := match s with | .ok i => k i | .error e => some (.error e)
def stX {β : Type} (r : Except (Nat × Nat) (β × Nat)) : SX := match r with | .ok (_, j) => .ok j | .error e => .error e
def valX {β : Type} (z : β) (r : Except (Nat × Nat) (β × Nat)) : β := match r with | .ok (x, _) => x | .error _ => z
def OkS (s : SX) : Prop := ∃ i, s = .ok i
theorem runS_bX {β γ : Type} (z : β) {s : SX} {f : Nat → RX β} {k : β → Nat → RX γ} {r : Except (Nat × Nat) (γ × Nat)} (h : runS s (fun j => bX (f j) k) = some r) :
    ∃ q, runS s f = some q ∧ runS (stX q) (fun j => k (valX z q) j) = some r := by
  rcases s with e | i
  · exact ⟨.error e, rfl, h⟩
  · rcases hq : f i with _ | (e | ⟨x, j⟩)
    · simp [runS, hq, bX] at h
    · exact ⟨.error e, hq, by simpa [runS, hq, bX, stX] using h⟩
    · exact ⟨.ok (x, j), hq, by simpa [runS, hq, bX, stX, valX] using h⟩
theorem runS_okS {β : Type} {s : SX} {f : Nat → RX β} {q : Except (Nat × Nat) (β × Nat)} (h : runS s f = some q) (ho : OkS (stX q)) : OkS s := by
  rcases s with e | i
  · simp only [runS, Option.some.injEq] at h
    obtain ⟨i, hi⟩ := ho
    rw [← h] at hi
    simp [stX] at hi
  · exact ⟨i, rfl⟩
section
variable (K : Nat → Tk)
def wantX (m : List UInt8) (i : Nat) : RX Unit := if (K i).tx == m then okX () (i + 1) else errX 1 (K i).at'
def inX (d i : Nat) : RX Unit := if d = 24 then errX 6 (K i).at' else okX () (i + 1)
theorem needX_want {γ : Type} (m : List UInt8) (i : Nat) (k : Nat → RX γ) : needX K m i k = bX (wantX K m i) fun _ j => k j := by
  unfold needX wantX; split <;> rfl
theorem enterX_in {γ : Type} (d i : Nat) (k : Nat → RX γ) : enterX K d i k = bX (inX K d i) fun _ j => k j := by
  unfold enterX inX; split <;> rfl
/-- does this sign or word stand here? -/
def isS (s : SX) (m : List UInt8) : Bool := match s with | .ok i => (K i).tx == m | .error _ => false
def failS (s : SX) (c p : Nat) : SX := match s with | .ok _ => .error (c, p) | .error q => .error q
def ec (s : SX) : Int := match s with | .ok _ => 0 | .error (c, _) => (c : Int)

def sortB (c : Nat) : Nat := if c = 0 then 101 else if c = 1 then 119 else if c = 2 then 48 else if c = 3 then 34 else if c = 4 then 111 else 120
def tokB (t : Tk) : ByteArray := if t.cl = 5 then ⟨#[]⟩ else ⟨t.tx.toArray⟩
/-- the tokens in memory -/
def TokRow (N bl : Nat) (w : World) : Prop := bl < w.heap.size ∧ ∀ i, i ≤ N → w.cell? ⟨bl, i * 3, none⟩ = some (.int .u8 (sortB (K i).cl : Int)) ∧ w.cell? ⟨bl, i * 3 + 1, none⟩ = some (.string (tokB (K i))) ∧ w.cell? ⟨bl, i * 3 + 2, none⟩ = some (.int .i64 ((K i).at' : Int))
/-- the reading's block -/
def RBlk (w : World) (br bl N cap I : Nat) (d e bad : Int) : Prop :=
  w.heap[br]? = some (.cells #[.slice (some ⟨bl, 0, none⟩) (N + 1) cap, .int .i64 (I : Int), .int .i64 d, .int .i64 e, .int .i64 bad] 103 (0, 0))
/-- a reading -/
def RS (N : Nat) (w : World) (br bl : Nat) (s : SX) (d : Int) : Prop :=
  ∃ (cap I : Nat) (bad : Int), RBlk w br bl N cap I d (ec s) bad ∧ I ≤ N ∧ bl ≠ br ∧ TokRow K N bl w ∧ (match s with | .ok i => I = i | .error (c, p) => c ≠ 0 ∧ bad = (p : Int))
end
theorem TokRow.of {K : Nat → Tk} {N bl : Nat} {w w' : World} {P : Nat → Prop} (h : TokRow K N bl w) (f : Fr P w w') (hp : P bl) : TokRow K N bl w' := by
  refine ⟨Nat.lt_of_lt_of_le h.1 f.size, fun i hi => ?_⟩
  obtain ⟨h1, h2, h3⟩ := h.2 i hi
  have hb := f.block bl h.1 hp
  exact ⟨(World.cell?_of_block (w := w) hb).trans h1, (World.cell?_of_block (w := w) hb).trans h2, (World.cell?_of_block (w := w) hb).trans h3⟩
theorem RS.of {K : Nat → Tk} {N br bl : Nat} {w w' : World} {s : SX} {d : Int} {P : Nat → Prop} (h : RS K N w br bl s d) (f : Fr P w w') (h1 : P br) (h2 : P bl) : RS K N w' br bl s d := by
  obtain ⟨cap, I, bad, hb, hI, hne, hT, hs⟩ := h
  exact ⟨cap, I, bad, (f.block br (block_lt hb) h1).trans hb, hI, hne, hT.of f h2, hs⟩
theorem RS.lt {K : Nat → Tk} {N br bl : Nat} {w : World} {s : SX} {d : Int} (h : RS K N w br bl s d) : br < w.heap.size := by
  obtain ⟨cap, I, bad, hb, -⟩ := h
  exact block_lt hb

theorem tokB_list (t : Tk) (h : t.cl ≠ 5) : (tokB t).data.toList = t.tx := by unfold tokB; rw [if_neg h]
/-- a mark is met by a sign or a word alone -/
theorem next_eq {t : Tk} (h : TkOK t) {m : List UInt8} (hm : m ∈ marks) : ((tokB t).data.toList == m && ((sortB t.cl == 111) || (sortB t.cl == 119))) = (t.tx == m) := by
  by_cases e : t.tx = m
  · have hc := mark_cl h hm e
    rw [tokB_list t (by omega), e]
    rcases hc with hc | hc <;> rw [hc] <;> simp [sortB]
  · have e' : (t.tx == m) = false := by simpa using e
    rw [e']
    by_cases h5 : t.cl = 5
    · rw [h5]; simp [sortB]
    · rw [tokB_list t h5, e']; rfl

set_option maxRecDepth 100000 in
theorem gFail_any {K : Nat → Tk} {N : Nat} (w : World) (br bl : Nat) (s : SX) (d : Int) (c p : Nat) (hc : c ≠ 0) (h : RS K N w br bl s d) :
    Calls Tryz.prog 59 #[.pointer (some ⟨br, 0, none⟩), .int .i64 (c : Int), .int .i64 (p : Int)] w fun e w' => e = .returned (.tuple #[]) ∧ RS K N w' br bl (failS s c p) d ∧ Fr (· ≠ br) w w' := by
  have HS : Hid (RS K N w br bl s d) := h
  obtain ⟨cap, I, bad, hb, hI, hne, hT, hs⟩ := h
  have HB : Hid (RBlk _ _ _ _ _ _ _ _ _) := hb
  have HT : Hid (TokRow K N bl w) := hT
  have c3 := block_cell hb 3
  have f3 := frozen_block hb 3
  have c4 := block_cell hb 4
  have f4 := frozen_block hb 4
  clear hb hT
  rcases s with ⟨c0, p0⟩ | i
  · have h0 : ((c0 : Int) == 0) = false := by simp; exact hs.1
    simp only [ec] at c3
    clear f3 c4 f4
    go_enter Tryz.func59, Tryz.ntmps59
    go_wp2_with fail
    go_end0
    exact ⟨rfl, HS.out, Fr.refl _ _⟩
  · simp only [ec] at c3
    go_enter Tryz.func59, Tryz.ntmps59
    go_wp2_with fail
    go_end0
    refine ⟨rfl, ⟨cap, I, (p : Int), ?_, hI, hne, HT.out.of (P := (· ≠ br)) (((Fr.refl _ w).set (by simp) _).set (by simp) _) hne, hc, rfl⟩, ((Fr.refl _ w).set (by simp) _).set (by simp) _⟩
    have := set_block (set_block HB.out 3 (.int .i64 (c : Int))) 4 (.int .i64 (p : Int))
    simpa [RBlk, ec, failS] using this
end Go.Proofs.YtjbekejcghjhbaaGreatDoor.Sx

namespace Go.Proofs.YtjbekejcghjhbaaGreatDoor.Sx
open Go.RowKit Go.Sort

/-- what a reading's block and its token say -/
theorem RS.open {K : Nat → Tk} {N : Nat} {w : World} {br bl : Nat} {s : SX} {d : Int} (h : RS K N w br bl s d) : ∃ (cap I : Nat) (bad : Int), RBlk w br bl N cap I d (ec s) bad ∧ I ≤ N ∧ bl ≠ br ∧ bl < w.heap.size ∧ w.cell? ⟨bl, I * 3, none⟩ = some (.int .u8 (sortB (K I).cl : Int)) ∧ w.cell? ⟨bl, I * 3 + 1, none⟩ = some (.string (tokB (K I))) ∧ w.cell? ⟨bl, I * 3 + 2, none⟩ = some (.int .i64 ((K I).at' : Int)) ∧ (∀ i, s = .ok i → I = i) := by
  obtain ⟨cap, I, bad, hb, hI, hne, hT, hs⟩ := h
  obtain ⟨t0, t1, t2⟩ := hT.2 I hI
  exact ⟨cap, I, bad, hb, hI, hne, hT.1, t0, t1, t2, fun i e => by subst e; exact hs⟩

theorem RS.fault {K : Nat → Tk} {N : Nat} {w : World} {br bl : Nat} {s : SX} {d : Int} (h : RS K N w br bl s d) : ∀ c p, s = .error (c, p) → ((c : Int) == 0) = false := by
  obtain ⟨cap, I, bad, -, -, -, -, hs⟩ := h
  intro c p e
  subst e
  have := hs.1
  simp; exact this
/-- the block of a token that was taken out -/
def TBlk (w : World) (bt sb : Nat) (tx : ByteArray) (a : Int) : Prop := w.heap[bt]? = some (.cells #[.int .u8 (sb : Int), .string tx, .int .i64 a] 106 (0, 0))
theorem TBlk.new (w : World) (sb : Nat) (tx : ByteArray) (a : Int) : TBlk (w.alloc (.cells #[.int .u8 (sb : Int), .string tx, .int .i64 a] 106)).drew w.heap.size sb tx a := by
  have B0 : (w.alloc (.cells #[.int .u8 (sb : Int), .string tx, .int .i64 a] 106)).heap[w.heap.size]? = some (.cells #[.int .u8 (sb : Int), .string tx, .int .i64 a] 106 (0, 0)) := heap_new rfl
  exact ((Fr.grew (P := fun _ => True) (Grew.refl _).drew).block _ (block_lt B0) trivial).trans B0
/-- the cells that taking out a token reads, at a world and behind a draw -/
theorem RS.cells {w : World} {br bl N cap I : Nat} {d e bad : Int} (hb : RBlk w br bl N cap I d e bad) (hbl : bl < w.heap.size) {v0 v1 v2 : Value} (t0 : w.cell? ⟨bl, I * 3, none⟩ = some v0) (t1 : w.cell? ⟨bl, I * 3 + 1, none⟩ = some v1) (t2 : w.cell? ⟨bl, I * 3 + 2, none⟩ = some v2) :
    RBlk w.drew br bl N cap I d e bad ∧ w.drew.cell? ⟨bl, I * 3, none⟩ = some v0 ∧ w.drew.cell? ⟨bl, I * 3 + 1, none⟩ = some v1 ∧ w.drew.cell? ⟨bl, I * 3 + 2, none⟩ = some v2 := by
  have hbd := (Fr.grew (P := fun _ => True) (Grew.refl w).drew).block br (block_lt hb) trivial
  have hld := (Fr.grew (P := fun _ => True) (Grew.refl w).drew).block bl hbl trivial
  exact ⟨hbd.trans hb, (World.cell?_of_block (w := w) hld).trans t0, (World.cell?_of_block (w := w) hld).trans t1, (World.cell?_of_block (w := w) hld).trans t2⟩

set_option maxRecDepth 100000 in
set_option maxHeartbeats 1000000 in
theorem gNext_walk (w : World) (br bl N cap I sb : Nat) (d ev bad a : Int) (tx m : ByteArray) (q : Bool) (hI : I ≤ N) (hb : RBlk w br bl N cap I d ev bad) (hbl : bl < w.heap.size) (t0 : w.cell? ⟨bl, I * 3, none⟩ = some (.int .u8 (sb : Int))) (t1 : w.cell? ⟨bl, I * 3 + 1, none⟩ = some (.string tx)) (t2 : w.cell? ⟨bl, I * 3 + 2, none⟩ = some (.int .i64 a))
    (HQ : Hid ((ev == 0 && (tx.toList == m.toList) && ((sb == 111) || (sb == 119))) = q)) :
    Calls Tryz.prog 155 #[.pointer (some ⟨br, 0, none⟩), .string m] w fun e w' => e = .returned (.bool q) ∧ Grew w w' := by
  obtain ⟨hd, u0, u1, u2⟩ := RS.cells hb hbl t0 t1 t2
  have c0 := block_cell hb 0
  have c1 := block_cell hb 1
  have k0 := block_cell hd 0
  have k1 := block_cell hd 1
  have hbr := block_lt hb
  have HB : Hid (RBlk w br bl N cap I d ev bad) := hb
  have mo := follows
  have hI1 : (I : Int) < ((N + 1 : Nat) : Int) := by omega
  clear hb hd
  have T1 : Hid (TBlk _ w.heap.size sb tx a) := TBlk.new w sb tx a
  have G1 : Hid (Grew w (w.alloc (.cells #[.int .u8 (sb : Int), .string tx, .int .i64 a] 106)).drew) := ((Grew.refl w).alloc _).drew
  go_enter Tryz.func155, Tryz.ntmps155
  go_wp2_with fail
  go_big_region_o
  have e3 := block_cell ((G1.out.below.block br hbr).trans HB.out) 3
  clear c0 c1 k0 k1 u0 u1 u2 t0 t1 t2 hI1 HB
  generalize (w.alloc (.cells #[.int .u8 (sb : Int), .string tx, .int .i64 a] 106)).drew = W1 at G1 T1 e3 ⊢
  obtain ⟨bt, hbt⟩ : ∃ bt, w.heap.size = bt := ⟨_, rfl⟩
  rw [hbt] at T1 ⊢
  clear hbt
  have q0 := block_cell T1.out 0
  have q1 := block_cell T1.out 1
  clear T1
  cases z0 : (ev == 0) with
  | false =>
    obtain rfl : false = q := by have := HQ.out; rw [z0] at this; exact this
    clear HQ
    go_wp2_with fail
    go_ret
    exact ⟨rfl, G1.out⟩
  | true =>
    cases z1 : (tx.toList == m.toList) with
    | false =>
      obtain rfl : false = q := by have := HQ.out; rw [z0, z1] at this; exact this
      clear HQ
      go_wp2_with fail
      go_ret
      exact ⟨rfl, G1.out⟩
    | true =>
      cases z2 : (sb == 111) with
      | true =>
        obtain rfl : true = q := by have := HQ.out; rw [z0, z1, z2] at this; exact this
        have z2' : ((sb : Int) == 111) = true := by rw [beq_iff_eq] at z2 ⊢; omega
        clear HQ z2
        go_wp2_with fail
        go_ret
        exact ⟨rfl, G1.out⟩
      | false =>
        have z2' : ((sb : Int) == 111) = false := by rw [beq_eq_false_iff_ne] at z2 ⊢; omega
        cases z3 : (sb == 119) with
        | true =>
          obtain rfl : true = q := by have := HQ.out; rw [z0, z1, z2, z3] at this; exact this
          have z3' : ((sb : Int) == 119) = true := by rw [beq_iff_eq] at z3 ⊢; omega
          clear HQ z2 z3
          go_wp2_with fail
          go_ret
          exact ⟨rfl, G1.out⟩
        | false =>
          obtain rfl : false = q := by have := HQ.out; rw [z0, z1, z2, z3] at this; exact this
          have z3' : ((sb : Int) == 119) = false := by rw [beq_eq_false_iff_ne] at z3 ⊢; omega
          clear HQ z2 z3
          go_wp2_with fail
          go_ret
          exact ⟨rfl, G1.out⟩
theorem gNext_any {K : Nat → Tk} {N : Nat} (hK : ∀ i, TkOK (K i)) (w : World) (br bl : Nat) (s : SX) (d : Int) (m : ByteArray) (hm : m.data.toList ∈ marks) (h : RS K N w br bl s d) :
    Calls Tryz.prog 155 #[.pointer (some ⟨br, 0, none⟩), .string m] w fun e w' => e = .returned (.bool (isS K s m.data.toList)) ∧ Grew w w' := by
  obtain ⟨cap, I, bad, hb, hI, hne, hbl, t0, t1, t2, hs⟩ := h.open
  refine gNext_walk w br bl N cap I _ d (ec s) bad _ _ m _ hI hb hbl t0 t1 t2 ?_
  show _ = _
  rcases s with ⟨c, p⟩ | i
  · have hc := h.fault c p rfl
    simp only [ec, hc, isS, Bool.false_and]
  · obtain rfl := hs i rfl
    have := next_eq (hK I) hm
    rw [ByteArray.toList_eq, ByteArray.toList_eq]
    simp only [ec, isS, beq_self_eq_true, Bool.true_and]
    exact this
end Go.Proofs.YtjbekejcghjhbaaGreatDoor.Sx

namespace Go.Proofs.YtjbekejcghjhbaaGreatDoor.Sx
open Go.RowKit Go.Sort

theorem RS.grew {K : Nat → Tk} {N : Nat} {w w' : World} {br bl : Nat} {s : SX} {d : Int} (h : RS K N w br bl s d) (g : Grew w w') : RS K N w' br bl s d := h.of (P := fun _ => True) (Fr.grew g) trivial trivial

set_option maxRecDepth 100000 in
set_option maxHeartbeats 1000000 in
theorem gAmong_any {K : Nat → Tk} {N : Nat} (hK : ∀ i, TkOK (K i)) (w : World) (br bl g n c : Nat) (s : SX) (d : Int) (ms : List ByteArray) (hms : ∀ m ∈ ms, m.data.toList ∈ marks) (hn : n = ms.length) (hn9 : n ≤ 1000) (hrow : w.heap[g]? = some (.cells (ms.map Value.string).toArray 9 (0, 0))) (h : RS K N w br bl s d) :
    Calls Tryz.prog 108 #[.pointer (some ⟨br, 0, none⟩), .slice (some ⟨g, 0, none⟩) n c] w fun e w' => e = .returned (.bool (ms.any fun m => isS K s m.data.toList)) ∧ Grew w w' := by
  have HR : Hid (w.heap[g]? = _) := hrow
  have HS : Hid (RS K N w br bl s d) := h
  have HN : Hid (n = ms.length) := hn
  have HM : Hid (∀ m ∈ ms, m.data.toList ∈ marks) := hms
  obtain ⟨q, hq⟩ : ∃ q, (ms.any fun m => isS K s m.data.toList) = q := ⟨_, rfl⟩
  rw [hq]
  have HQ : Hid ((ms.any fun m => isS K s m.data.toList) = q) := hq
  clear hrow hms hn h hq
  have mo := follows
  go_enter Tryz.func108, Tryz.ntmps108
  go_wp2_with fail
  go_loopw [5] (fun i wr => ∃ k : Nat, k ≤ n ∧ i = .int .i64 k ∧ Hid (Grew w wr) ∧ Hid (∀ j m, j < k → ms[j]? = some m → isS K s m.data.toList = false)) (fun i _ => n - (intOf i).toNat)
  case atStart => exact ⟨0, Nat.zero_le _, rfl, Grew.refl _, fun j m h => absurd h (Nat.not_lt_zero j)⟩
  case round =>
    obtain ⟨k, hk, rfl, G1, Q1⟩ := hrel
    by_cases hlt : k < n
    · obtain ⟨m, hm⟩ : ∃ m, ms[k]? = some m := ⟨_, List.getElem?_eq_getElem (by have := HN.out; omega)⟩
      have hg := (G1.out.below.block g (block_lt HR.out)).trans HR.out
      have c0 : wr.cell? ⟨g, k, none⟩ = some (.string m) := by rw [block_cell hg]; simp [hm]
      have hgl : g < wr.heap.size := block_lt hg
      have HX : Hid (Calls _ _ _ _ _) := gNext_any hK wr br bl s d m (HM.out m (List.mem_of_getElem? hm)) (HS.out.grew G1.out)
      have HMK : Hid (ms[k]? = some m) := hm
      clear hg hm
      cases hb : isS K s m.data.toList with
      | true =>
        rw [hb] at HX
        have hq : q = true := by
          rw [← HQ.out, List.any_eq_true]
          exact ⟨m, List.mem_of_getElem? HMK.out, hb⟩
        subst hq
        clear hb Q1
        go_wp2_with (go_at_call 155; refine HX.out.mono ?_; rintro e w2 ⟨rfl, hg⟩; have G2 : Hid (Grew w w2) := G1.out.trans hg; clear hg)
        go_ret
        exact ⟨rfl, G2.out⟩
      | false =>
        rw [hb] at HX
        have Q2 : Hid (∀ j m, j < k + 1 → ms[j]? = some m → isS K s m.data.toList = false) := fun j m' hj hm' => by
          by_cases e : j = k
          · subst e; rw [HMK.out] at hm'; simp at hm'; rw [← hm']; exact hb
          · exact Q1.out j m' (by omega) hm'
        clear hb Q1
        go_wp2_with (go_at_call 155; refine HX.out.mono ?_; rintro e w2 ⟨rfl, hg⟩; have G2 : Hid (Grew w w2) := G1.out.trans hg; clear hg)
        go_roundw
        case rel => exact ⟨k + 1, by omega, by go_num, G2, Q2⟩
        case measure => simp [intOf]; omega
    · obtain rfl : k = n := by omega
      have hq : q = false := by
        rw [← HQ.out, List.any_eq_false]
        intro m hm
        obtain ⟨j, hj⟩ := List.mem_iff_getElem?.1 hm
        have := Q1.out j m (by have := (List.getElem?_eq_some_iff.1 hj).1; have := HN.out; omega) hj
        simp [this]
      subst hq
      clear Q1
      go_wp2_with fail
      go_ret
      exact ⟨rfl, G1.out⟩
/-- words that are laid for the call -/
theorem among_call {K : Nat → Tk} {N : Nat} (hK : ∀ i, TkOK (K i)) (w : World) (br bl : Nat) (s : SX) (d : Int) (vs : Array Value) (ms : List ByteArray) (n : Nat) (q : Bool) (hvs : vs = (ms.map Value.string).toArray) (hms : ∀ m ∈ ms, m.data.toList ∈ marks) (hn : n = ms.length) (hn9 : n ≤ 1000) (hq : (ms.any fun m => isS K s m.data.toList) = q) (h : RS K N w br bl s d) :
    Calls Tryz.prog 108 #[.pointer (some ⟨br, 0, none⟩), .slice (some ⟨w.heap.size, 0, none⟩) n n] (w.alloc (.cells vs 9)) fun e w' => e = .returned (.bool q) ∧ Grew w w' := by
  subst hvs hq
  refine (gAmong_any hK (w.alloc (.cells (ms.map Value.string).toArray 9)) br bl w.heap.size n n s d ms hms hn hn9 (heap_new rfl) (h.grew ((Grew.refl w).alloc _))).mono ?_
  rintro e w' ⟨rfl, hg⟩
  exact ⟨rfl, ((Grew.refl w).alloc _).trans hg⟩

theorem RBlk.setI {w : World} {br bl N cap I : Nat} {d e bad : Int} (h : RBlk w br bl N cap I d e bad) (I' : Nat) : RBlk (w.setCell ⟨br, 1, none⟩ (.int .i64 (I' : Int))) br bl N cap I' d e bad := by
  have := set_block h 1 (.int .i64 (I' : Int)); simpa [RBlk] using this
theorem RBlk.setD {w : World} {br bl N cap I : Nat} {d e bad : Int} (h : RBlk w br bl N cap I d e bad) (d' : Int) : RBlk (w.setCell ⟨br, 2, none⟩ (.int .i64 d')) br bl N cap I d' e bad := by
  have := set_block h 2 (.int .i64 d'); simpa [RBlk] using this
/-- behind a token that was met -/
def takeS (K : Nat → Tk) (s : SX) (m : List UInt8) : SX := match s with | .ok i => if (K i).tx == m then .ok (i + 1) else .ok i | .error e => .error e
def wantS (K : Nat → Tk) (s : SX) (m : List UInt8) : SX := match s with | .ok i => if (K i).tx == m then .ok (i + 1) else .error (1, (K i).at') | .error e => .error e
set_option maxRecDepth 100000 in
set_option maxHeartbeats 1000000 in
theorem gTake_any {K : Nat → Tk} {N : Nat} (hK : ∀ i, TkOK (K i)) (hL : Last K N) (w : World) (br bl : Nat) (s : SX) (d : Int) (m : ByteArray) (hm : m.data.toList ∈ marks) (hN : N ≤ 1000000) (h : RS K N w br bl s d) :
    Calls Tryz.prog 111 #[.pointer (some ⟨br, 0, none⟩), .string m] w fun e w' => e = .returned (.bool (isS K s m.data.toList)) ∧ RS K N w' br bl (takeS K s m.data.toList) d ∧ Fr (· ≠ br) w w' := by
  have HX : Hid (Calls _ _ _ _ _) := gNext_any hK w br bl s d m hm h
  have HS : Hid (RS K N w br bl s d) := h
  have hlb := h.lt
  clear h
  have mo := follows
  cases hb : isS K s m.data.toList with
  | false =>
    rw [hb] at HX
    have ht : takeS K s m.data.toList = s := by
      rcases s with e | i
      · rfl
      · simp only [isS] at hb; simp only [takeS, hb]; rfl
    rw [ht]
    clear hb ht
    go_enter Tryz.func111, Tryz.ntmps111
    go_wp2_with (go_at_call 155; refine HX.out.mono ?_; rintro e w2 ⟨rfl, hg⟩; have G2 : Hid (Grew w w2) := hg; clear hg)
    go_ret
    exact ⟨rfl, HS.out.grew G2.out, Fr.grew G2.out⟩
  | true =>
    rw [hb] at HX
    rcases s with e | i
    · simp [isS] at hb
    have hb' : ((K i).tx == m.data.toList) = true := hb
    have ht : takeS K (.ok i) m.data.toList = .ok (i + 1) := by simp only [takeS, hb']; rfl
    rw [ht]
    obtain ⟨cap, I, bad, hbk, hI, hne, hT, hs⟩ := HS.out
    obtain rfl : I = i := hs
    have hlt := hL.lt hI hb' hm
    have HG : Hid (∀ W, Grew w W → RBlk W br bl N cap I d (ec (.ok I)) bad) := fun W g => (g.below.block br hlb).trans hbk
    have HT : Hid (TokRow K N bl w) := hT
    clear hb hb' ht hbk hT HS
    go_enter Tryz.func111, Tryz.ntmps111
    go_wp2_with (go_at_call 155; refine HX.out.mono ?_; rintro e w2 ⟨rfl, hg⟩; have R2 : Hid (RBlk w2 br bl N cap I d (ec (.ok I)) bad) := HG.out w2 hg; have c1 := block_cell R2.out 1; have f1 := frozen_block R2.out 1; have G2 : Hid (Grew w w2) := hg; clear hg)
    go_ret
    have hF : Fr (· ≠ br) w (w2.setCell ⟨br, 1, none⟩ (.int .i64 ((I : Int) + 1))) := (Fr.grew G2.out).set (by simp) _
    exact ⟨rfl, ⟨cap, I + 1, bad, R2.out.setI (I + 1), hlt, hne, HT.out.of hF hne, rfl⟩, hF⟩
set_option maxRecDepth 100000 in
set_option maxHeartbeats 1000000 in
theorem gWant_any {K : Nat → Tk} {N : Nat} (hK : ∀ i, TkOK (K i)) (hL : Last K N) (w : World) (br bl : Nat) (s : SX) (d : Int) (m : ByteArray) (hm : m.data.toList ∈ marks) (hN : N ≤ 1000000) (h : RS K N w br bl s d) :
    Calls Tryz.prog 156 #[.pointer (some ⟨br, 0, none⟩), .string m] w fun e w' => e = .returned (.tuple #[]) ∧ RS K N w' br bl (wantS K s m.data.toList) d ∧ Fr (· ≠ br) w w' := by
  have HX : Hid (Calls _ _ _ _ _) := gTake_any hK hL w br bl s d m hm hN h
  clear h
  have mo := follows
  cases hb : isS K s m.data.toList with
  | true =>
    rw [hb] at HX
    have ht : takeS K s m.data.toList = wantS K s m.data.toList := by
      rcases s with e | i
      · rfl
      · simp only [isS] at hb; simp only [takeS, wantS, hb]; rfl
    rw [ht] at HX
    clear hb ht
    go_enter Tryz.func156, Tryz.ntmps156
    go_wp2_with (go_at_call 111; refine HX.out.mono ?_; rintro e w2 ⟨rfl, hr, hf⟩; have R2 : Hid (RS K N w2 br bl (wantS K s m.data.toList) d) := hr; have F2 : Hid (Fr (· ≠ br) w w2) := hf; clear hr hf)
    go_end0
    exact ⟨rfl, R2.out, F2.out⟩
  | false =>
    rw [hb] at HX
    have ht : takeS K s m.data.toList = s := by
      rcases s with e | i
      · rfl
      · simp only [isS] at hb; simp only [takeS, hb]; rfl
    rw [ht] at HX
    have HW : Hid (∀ I, (∀ i, s = .ok i → I = i) → failS s 1 (K I).at' = wantS K s m.data.toList) := fun I hI => by
      rcases s with e | i
      · rfl
      · obtain rfl := hI i rfl
        simp only [isS] at hb; simp only [failS, wantS, hb]; rfl
    clear hb ht
    go_enter Tryz.func156, Tryz.ntmps156
    go_wp2_with (go_at_call 111; refine HX.out.mono ?_; rintro e w2 ⟨rfl, hr, hf⟩; have R2 : Hid (RS K N w2 br bl s d) := hr; have F2 : Hid (Fr (· ≠ br) w w2) := hf; clear hr hf)
    obtain ⟨cap, I, bad, hbk, hI, hne, hbl, t0, t1, t2, hs⟩ := R2.out.open
    have c0 := block_cell hbk 0
    have c1 := block_cell hbk 1
    have hlb := block_lt hbk
    have hI1 : (I : Int) < ((N + 1 : Nat) : Int) := by omega
    have HF : Hid (∀ W, Grew w2 W → Calls _ _ _ _ _) := fun W g => gFail_any W br bl s d 1 (K I).at' (by decide) (R2.out.grew g)
    have HWI : Hid (failS s 1 (K I).at' = _) := HW.out I hs
    generalize (K I).at' = aa at t2 HF HWI
    obtain ⟨hd, -, -, u2⟩ := RS.cells hbk hbl t0 t1 t2
    have k0 := block_cell hd 0
    have k1 := block_cell hd 1
    clear hbk t0 t1 hs HW HX hd
    go_region_with (go_at_call 59; refine (HF.out _ (Grew.refl w2).drew).mono ?_; rintro e w3 ⟨rfl, hr, hf⟩; rw [HWI.out] at hr; have R3 : Hid (RS K N w3 br bl (wantS K s m.data.toList) d) := hr; have F3 : Hid (Fr (· ≠ br) w w3) := F2.out.drew.trans hf; clear hr hf)
    all_goals go_wp2_with fail
    all_goals go_end0
    all_goals exact ⟨rfl, R3.out, F3.out⟩
end Go.Proofs.YtjbekejcghjhbaaGreatDoor.Sx

namespace Go.Proofs.YtjbekejcghjhbaaGreatDoor.Sx
open Go.RowKit Go.Sort

theorem TBlk.grew {w w' : World} {bt sb : Nat} {tx : ByteArray} {a : Int} (h : TBlk w bt sb tx a) (g : Grew w w') : TBlk w' bt sb tx a := (g.below.block bt (block_lt h)).trans h
theorem TBlk.fr {w w' : World} {bt sb br : Nat} {tx : ByteArray} {a : Int} (h : TBlk w bt sb tx a) (g : Fr (· ≠ br) w w') (hb : bt ≠ br) : TBlk w' bt sb tx a := (g.block bt (block_lt h) hb).trans h
theorem fail_ec (s : SX) (c p : Nat) (hc : c ≠ 0) (h : ∀ c p, s = .error (c, p) → ((c : Int) == 0) = false) : (ec (failS s c p) != 0) = true := by
  rcases s with ⟨c0, p0⟩ | i
  · have := h c0 p0 rfl
    simp only [failS, ec]; simp at this ⊢; omega
  · simp only [failS, ec]; simp; omega
/-- what is handed back as a name -/
def nameV (r : Except (Nat × Nat) (List UInt8 × Nat)) : ByteArray := match r with | .ok (n, _) => ⟨n.toArray⟩ | .error _ => ⟨#[]⟩
theorem sort_word (c : Nat) : (sortB c == 119) = true ↔ c = 1 := by
  unfold sortB
  by_cases h0 : c = 0
  · subst h0; decide
  by_cases h1 : c = 1
  · subst h1; decide
  by_cases h2 : c = 2
  · subst h2; decide
  by_cases h3 : c = 3
  · subst h3; decide
  by_cases h4 : c = 4
  · subst h4; decide
  rw [if_neg h0, if_neg h1, if_neg h2, if_neg h3, if_neg h4]
  simp; omega
theorem name_plain {K : Nat → Tk} {N I : Nat} {s : SX} {r : Except (Nat × Nat) (List UInt8 × Nat)} (hL : Last K N) (hI : I ≤ N) (hs : ∀ i, s = .ok i → I = i) (hr : runS s (nameX K) = some r) :
    ((((sortB (K I).cl == 119) = false ∨ isReserved (tokB (K I)).data.toList = true) → failS s 1 (K I).at' = stX r ∧ nameV r = ⟨#[]⟩) ∧ ((sortB (K I).cl == 119) = true → isReserved (tokB (K I)).data.toList = false → 16 < (tokB (K I)).size → failS s 5 (K I).at' = stX r ∧ nameV r = ⟨#[]⟩) ∧ ((sortB (K I).cl == 119) = true → isReserved (tokB (K I)).data.toList = false → ¬ 16 < (tokB (K I)).size → (∀ i, s = .ok i → stX r = .ok (I + 1) ∧ nameV r = tokB (K I) ∧ I + 1 ≤ N) ∧ (∀ e, s = .error e → stX r = .error e ∧ nameV r = ⟨#[]⟩))) := by
  rcases s with e | i
  · obtain rfl : .error e = r := by simpa [runS] using hr
    exact ⟨fun _ => ⟨rfl, rfl⟩, fun _ _ _ => ⟨rfl, rfl⟩, fun _ _ _ => ⟨fun i h => by simp at h, fun e' h => by simp at h; subst h; exact ⟨rfl, rfl⟩⟩⟩
  · obtain rfl := hs i rfl
    have hr' : nameX K I = some r := hr
    unfold nameX at hr'
    by_cases h1 : (K I).cl = 1
    · have hs1 : (sortB (K I).cl == 119) = true := (sort_word _).2 h1
      have ht : (tokB (K I)).data.toList = (K I).tx := tokB_list _ (by omega)
      have hz : (tokB (K I)).size = (K I).tx.length := by rw [← ht]; simp
      rw [hs1, ht, hz]
      cases h2 : isReserved (K I).tx with
      | true =>
        rw [if_pos (.inr h2)] at hr'
        obtain rfl : .error (1, (K I).at') = r := by simpa [errX] using hr'
        exact ⟨fun _ => ⟨rfl, rfl⟩, fun _ h => by simp at h, fun _ h => by simp at h⟩
      | false =>
        rw [if_neg (by simp [h1, h2])] at hr'
        by_cases h3 : 16 < (K I).tx.length
        · rw [if_pos h3] at hr'
          obtain rfl : .error (5, (K I).at') = r := by simpa [errX] using hr'
          exact ⟨fun h => by simp at h, fun _ _ _ => ⟨rfl, rfl⟩, fun _ _ h => absurd h3 h⟩
        · rw [if_neg h3] at hr'
          obtain rfl : .ok ((K I).tx, I + 1) = r := by simpa [okX] using hr'
          refine ⟨fun h => by simp at h, fun _ _ h => absurd h h3, fun _ _ _ => ⟨fun i _ => ⟨rfl, ?_, hL.lt_cl hI (.inl h1)⟩, fun e h => by simp at h⟩⟩
          unfold tokB
          rw [if_neg (by omega)]; rfl
    · rw [if_pos (.inl h1)] at hr'
      obtain rfl : .error (1, (K I).at') = r := by simpa [errX] using hr'
      have hs1 : (sortB (K I).cl == 119) = false := by
        cases h : sortB (K I).cl == 119 with
        | true => exact absurd ((sort_word _).1 h) h1
        | false => rfl
      rw [hs1]
      exact ⟨fun _ => ⟨rfl, rfl⟩, fun h => by simp at h, fun h => by simp at h⟩
set_option maxRecDepth 100000 in
set_option maxHeartbeats 2000000 in
theorem gName_any {K : Nat → Tk} {N : Nat} (hL : Last K N) (w : World) (br bl : Nat) (s : SX) (d : Int) (hN : N ≤ 1000000) (h : RS K N w br bl s d) (r : Except (Nat × Nat) (List UInt8 × Nat)) (hr : runS s (nameX K) = some r) :
    Calls Tryz.prog 112 #[.pointer (some ⟨br, 0, none⟩)] w fun e w' => e = .returned (.string (nameV r)) ∧ RS K N w' br bl (stX r) d ∧ Fr (· ≠ br) w w' := by
  obtain ⟨cap, I, bad, hb, hI, hne, hbl, t0, t1, t2, hs⟩ := h.open
  obtain ⟨hd, u0, u1, u2⟩ := RS.cells hb hbl t0 t1 t2
  have c0 := block_cell hb 0
  have c1 := block_cell hb 1
  have k0 := block_cell hd 0
  have k1 := block_cell hd 1
  have hbr := block_lt hb
  have HS : Hid (RS K N w br bl s d) := h
  have HII : Hid (∀ i, s = .ok i → I = i) := hs
  have HFT : Hid (∀ c p, s = .error (c, p) → ((c : Int) == 0) = false) := h.fault
  have mo := follows
  have hI1 : (I : Int) < ((N + 1 : Nat) : Int) := by omega
  have HRV : Hid (∀ W : World, _) := fun W => rreserved_any (tokB (K I)) W
  have HP : Hid ((((sortB (K I).cl == 119) = false ∨ isReserved (tokB (K I)).data.toList = true) → failS s 1 (K I).at' = stX r ∧ nameV r = ⟨#[]⟩) ∧ ((sortB (K I).cl == 119) = true → isReserved (tokB (K I)).data.toList = false → 16 < (tokB (K I)).size → failS s 5 (K I).at' = stX r ∧ nameV r = ⟨#[]⟩) ∧ ((sortB (K I).cl == 119) = true → isReserved (tokB (K I)).data.toList = false → ¬ 16 < (tokB (K I)).size → (∀ i, s = .ok i → stX r = .ok (I + 1) ∧ nameV r = tokB (K I) ∧ I + 1 ≤ N) ∧ (∀ e, s = .error e → stX r = .error e ∧ nameV r = ⟨#[]⟩))) := name_plain hL hI hs hr
  generalize hsb : sortB (K I).cl = sb at t0 u0 HP
  generalize htx : tokB (K I) = tx at t1 u1 HP HRV
  generalize (K I).at' = aa at t2 u2 HP
  clear hb hd h hsb htx hr
  have T1 : Hid (TBlk _ w.heap.size sb tx (aa : Int)) := TBlk.new w sb tx (aa : Int)
  have G1 : Hid (Grew w (w.alloc (.cells #[.int .u8 (sb : Int), .string tx, .int .i64 (aa : Int)] 106)).drew) := ((Grew.refl w).alloc _).drew
  go_enter Tryz.func112, Tryz.ntmps112
  go_wp2_with fail
  go_big_region_o
  clear c0 c1 k0 k1 u0 u1 u2 t0 t1 t2 hI1
  generalize (w.alloc (.cells #[.int .u8 (sb : Int), .string tx, .int .i64 (aa : Int)] 106)).drew = W1 at G1 T1 ⊢
  obtain ⟨bt, hbt⟩ : ∃ bt, w.heap.size = bt := ⟨_, rfl⟩
  rw [hbt] at T1 hbr ⊢
  clear hbt
  have hbtr : bt ≠ br := by omega
  have q1 := block_cell T1.out 1
  go_wp2_with fail
  refine (HRV.out W1).mono ?_
  rintro e W2 ⟨rfl, hg⟩
  have G2 : Hid (Grew w W2) := G1.out.trans hg
  have T2 : Hid (TBlk W2 bt sb tx (aa : Int)) := T1.out.grew hg
  have R2 : Hid (RS K N W2 br bl s d) := HS.out.grew G2.out
  clear hg q1 G1 T1 HRV HS
  have y0 := block_cell T2.out 0
  have y1 := block_cell T2.out 1
  have y2 := block_cell T2.out 2
  obtain ⟨PA, PB, PC⟩ := HP.out
  cases z0 : (sb == 119) with
  | false =>
    have z0' : ((sb : Int) != 119) = true := by rw [beq_eq_false_iff_ne] at z0; rw [bne_iff_ne]; omega
    obtain ⟨p1, p2⟩ := PA (.inl z0)
    have HF : Hid (Calls _ _ _ _ _) := gFail_any W2 br bl s d 1 aa (by decide) R2.out
    have HE : Hid ((ec (failS s 1 aa) != 0) = true) := fail_ec s 1 aa (by decide) HFT.out
    rw [p1] at HF HE
    have P2 : Hid (nameV r = ⟨#[]⟩) := p2
    clear PA PB PC HP z0 p1 p2 HFT
    go_wp2_with (go_at_call 59; refine HF.out.mono ?_; rintro e W3 ⟨rfl, hr3, hf⟩; have R3 : Hid (RS K N W3 br bl (stX r) d) := hr3; have F3 : Hid (Fr (· ≠ br) w W3) := (Fr.grew G2.out).trans hf; obtain ⟨cap3, I3, bad3, hb3, -⟩ := hr3; have e3 := block_cell hb3 3; have he3 := HE.out; clear hb3 hf)
    go_ret
    exact ⟨by rw [P2.out]; rfl, R3.out, F3.out⟩
  | true =>
    have z0' : ((sb : Int) != 119) = false := by rw [beq_iff_eq] at z0; rw [bne_eq_false_iff_eq]; omega
    cases z1 : isReserved tx.data.toList with
    | true =>
      obtain ⟨p1, p2⟩ := PA (.inr z1)
      have HF : Hid (Calls _ _ _ _ _) := gFail_any W2 br bl s d 1 aa (by decide) R2.out
      have HE : Hid ((ec (failS s 1 aa) != 0) = true) := fail_ec s 1 aa (by decide) HFT.out
      rw [p1] at HF HE
      have P2 : Hid (nameV r = ⟨#[]⟩) := p2
      clear PA PB PC HP z0 p1 p2 HFT
      go_wp2_with (go_at_call 59; refine HF.out.mono ?_; rintro e W3 ⟨rfl, hr3, hf⟩; have R3 : Hid (RS K N W3 br bl (stX r) d) := hr3; have F3 : Hid (Fr (· ≠ br) w W3) := (Fr.grew G2.out).trans hf; obtain ⟨cap3, I3, bad3, hb3, -⟩ := hr3; have e3 := block_cell hb3 3; have he3 := HE.out; clear hb3 hf)
      go_ret
      exact ⟨by rw [P2.out]; rfl, R3.out, F3.out⟩
    | false =>
      by_cases z2 : 16 < tx.size
      · have z2' : (16 : Int) < (tx.size : Int) := by omega
        obtain ⟨p1, p2⟩ := PB z0 z1 z2
        have HF : Hid (Calls _ _ _ _ _) := gFail_any W2 br bl s d 5 aa (by decide) R2.out
        have HE : Hid ((ec (failS s 5 aa) != 0) = true) := fail_ec s 5 aa (by decide) HFT.out
        rw [p1] at HF HE
        have P2 : Hid (nameV r = ⟨#[]⟩) := p2
        clear PA PB PC HP z0 z2 p1 p2 HFT
        go_wp2_with (go_at_call 59; refine HF.out.mono ?_; rintro e W3 ⟨rfl, hr3, hf⟩; have R3 : Hid (RS K N W3 br bl (stX r) d) := hr3; have F3 : Hid (Fr (· ≠ br) w W3) := (Fr.grew G2.out).trans hf; obtain ⟨cap3, I3, bad3, hb3, -⟩ := hr3; have e3 := block_cell hb3 3; have he3 := HE.out; clear hb3 hf)
        go_ret
        exact ⟨by rw [P2.out]; rfl, R3.out, F3.out⟩
      · have z2' : ¬ (16 : Int) < (tx.size : Int) := by omega
        obtain ⟨p1, p2⟩ := PC z0 z1 z2
        rcases s with ⟨c, p⟩ | i
        · obtain ⟨h1, h2⟩ := p2 _ rfl
          have P1 : Hid (stX r = _) := h1
          have P2 : Hid (nameV r = ⟨#[]⟩) := h2
          have e3 : W2.cell? ⟨br, 3, none⟩ = some (.int .i64 (c : Int)) := by
            obtain ⟨cap3, I3, bad3, hb3, -⟩ := R2.out
            exact block_cell hb3 3
          have he3 : ((c : Int) != 0) = true := by have := HFT.out c p rfl; simp at this ⊢; exact this
          clear PA PB PC HP z0 z2 p1 p2 h1 h2 HFT
          go_wp2_with fail
          go_ret
          exact ⟨by rw [P2.out]; rfl, by rw [P1.out]; exact R2.out, Fr.grew G2.out⟩
        · obtain ⟨h1, h2, h3⟩ := p1 _ rfl
          have P1 : Hid (stX r = _) := h1
          have P2 : Hid (nameV r = tx) := h2
          obtain ⟨cap3, I3, bad3, hb3, hI3, hne3, hT3, hs3⟩ := R2.out
          obtain rfl : I3 = i := hs3
          obtain rfl : I = I3 := HII.out I3 rfl
          have R3 : Hid (RBlk W2 br bl N cap3 I d 0 bad3) := hb3
          have e3 := block_cell R3.out 3
          have e1 := block_cell R3.out 1
          have f1 := frozen_block R3.out 1
          have HT3 : Hid (TokRow K N bl W2) := hT3
          clear PA PB PC HP z0 z2 p1 p2 h1 h2 HFT hb3 hT3 R2
          go_wp2_with fail
          go_ret
          have hF : Fr (· ≠ br) w (W2.setCell ⟨br, 1, none⟩ (.int .i64 ((I : Int) + 1))) := (Fr.grew G2.out).set (by simp) _
          refine ⟨by rw [P2.out]; rfl, ?_, hF⟩
          rw [P1.out]
          exact ⟨cap3, I + 1, bad3, R3.out.setI (I + 1), h3, hne3, HT3.out.of (P := (· ≠ br)) ((Fr.refl _ W2).set (by simp) _) hne3, rfl⟩

set_option maxRecDepth 100000 in
set_option maxHeartbeats 1000000 in
theorem gout_any {K : Nat → Tk} {N : Nat} (w : World) (br bl : Nat) (s : SX) (d : Int) (h : RS K N w br bl s d) :
    Calls Tryz.prog 110 #[.pointer (some ⟨br, 0, none⟩)] w fun e w' => e = .returned (.tuple #[]) ∧ RS K N w' br bl s (wrap64 (d - 1)) ∧ Fr (· ≠ br) w w' := by
  obtain ⟨cap, I, bad, hb, hI, hne, hT, hs⟩ := h
  have HB : Hid (RBlk w br bl N cap I d (ec s) bad) := hb
  have c2 := block_cell hb 2
  have f2 := frozen_block hb 2
  clear hb
  have mo := follows
  go_enter Tryz.func110, Tryz.ntmps110
  go_wp2_with fail
  go_end0
  have hF : Fr (· ≠ br) w (w.setCell ⟨br, 2, none⟩ (.int .i64 (wrap64 (d - 1)))) := (Fr.refl _ w).set (by simp) _
  exact ⟨rfl, ⟨cap, I, bad, HB.out.setD _, hI, hne, hT.of hF hne, hs⟩, hF⟩

/-- a level further in -/
def inS (K : Nat → Tk) (i d : Nat) : SX := if d = 24 then .error (6, (K i).at') else .ok (i + 1)
set_option maxRecDepth 100000 in
set_option maxHeartbeats 1000000 in
theorem gin_any {K : Nat → Tk} {N : Nat} (hN : N ≤ 1000000) (w : World) (br bl i d : Nat) (hd : d ≤ 24) (hi : i < N) (h : RS K N w br bl (.ok i) (d : Int)) :
    Calls Tryz.prog 109 #[.pointer (some ⟨br, 0, none⟩)] w fun e w' => e = .returned (.tuple #[]) ∧ RS K N w' br bl (inS K i d) ((d + 1 : Nat) : Int) ∧ Fr (· ≠ br) w w' := by
  obtain ⟨cap, I, bad, hb, hI, hne, hT, hs⟩ := h
  obtain rfl : I = i := hs
  have HB : Hid (RBlk w br bl N cap I (d : Int) 0 bad) := hb
  have HT : Hid (TokRow K N bl w) := hT
  have c2 := block_cell HB.out 2
  have f2 := frozen_block HB.out 2
  have hF1 : Fr (· ≠ br) w (w.setCell ⟨br, 2, none⟩ (.int .i64 ((d : Int) + 1))) := (Fr.refl _ w).set (by simp) _
  have R1 : Hid (RS K N (w.setCell ⟨br, 2, none⟩ (.int .i64 ((d : Int) + 1))) br bl (.ok I) ((d : Int) + 1)) := ⟨cap, I, bad, HB.out.setD _, hI, hne, hT.of hF1 hne, rfl⟩
  have F1 : Hid (Fr (· ≠ br) w (w.setCell ⟨br, 2, none⟩ (.int .i64 ((d : Int) + 1)))) := hF1
  have RB1 : Hid (RBlk (w.setCell ⟨br, 2, none⟩ (.int .i64 ((d : Int) + 1))) br bl N cap I ((d : Int) + 1) 0 bad) := HB.out.setD _
  clear hb hT hF1
  have mo := follows
  by_cases h24 : d = 24
  · subst h24
    have e0 : inS K I 24 = .error (6, (K I).at') := rfl
    rw [e0]
    have R2 : Hid (RS K N (w.setCell ⟨br, 2, none⟩ (.int .i64 25)) br bl (.ok I) 25) := R1.out
    have F2 : Hid (Fr (· ≠ br) w (w.setCell ⟨br, 2, none⟩ (.int .i64 25))) := F1.out
    have RB2 : Hid (RBlk (w.setCell ⟨br, 2, none⟩ (.int .i64 25)) br bl N cap I 25 0 bad) := RB1.out
    clear e0 R1 F1 RB1
    go_enter Tryz.func109, Tryz.ntmps109
    go_wp2_with fail
    clear c2 f2
    generalize w.setCell ⟨br, 2, none⟩ (.int .i64 25) = w1 at R2 F2 RB2 ⊢
    obtain ⟨cap', I', bad', hbk, hI', hne', hbl, t0, t1, t2, hs⟩ := R2.out.open
    obtain rfl : I' = I := hs I rfl
    have HF : Hid (∀ W, Grew w1 W → Calls _ _ _ _ _) := fun W g => gFail_any W br bl (.ok I') 25 6 (K I').at' (by decide) (R2.out.grew g)
    obtain ⟨hd, -, -, u2⟩ := RS.cells hbk hbl t0 t1 t2
    have c0 := block_cell hbk 0
    have c1 := block_cell hbk 1
    have k0 := block_cell hd 0
    have k1 := block_cell hd 1
    have hI1 : (I' : Int) < ((N + 1 : Nat) : Int) := by omega
    have hlb := block_lt hbk
    obtain ⟨aa, haa⟩ : ∃ aa, (K I').at' = aa := ⟨_, rfl⟩
    have HAA : Hid ((K I').at' = aa) := haa
    rw [haa] at t2 u2 HF
    clear haa
    clear hbk t0 t1 hs hd R2 RB2
    go_region_with (go_at_call 59; refine (HF.out _ (Grew.refl w1).drew).mono ?_; rintro e w3 ⟨rfl, hr, hf⟩; have R3 : Hid (RS K N w3 br bl (.error (6, aa)) 25) := hr; have F3 : Hid (Fr (· ≠ br) w w3) := F2.out.drew.trans hf; obtain ⟨cap3, I3, bad3, hb3, -⟩ := hr; have e3 : w3.cell? ⟨br, 3, none⟩ = some (.int .i64 6) := block_cell hb3 3; clear hb3 hf)
    all_goals go_wp2_with fail
    all_goals go_end0
    all_goals exact ⟨rfl, by rw [HAA.out]; exact R3.out, F3.out⟩
  · have e0 : inS K I d = .ok (I + 1) := by unfold inS; rw [if_neg h24]
    rw [e0]
    have h24' : ¬ (24 : Int) < (d : Int) + 1 := by omega
    have c3 := block_cell HB.out 3
    have c1 := block_cell HB.out 1
    have f1 := frozen_block HB.out 1
    clear e0 h24
    go_enter Tryz.func109, Tryz.ntmps109
    go_wp2_with fail
    go_end0
    have hF : Fr (· ≠ br) w ((w.setCell ⟨br, 2, none⟩ (.int .i64 ((d : Int) + 1))).setCell ⟨br, 1, none⟩ (.int .i64 ((I : Int) + 1))) := F1.out.set (by simp) _
    exact ⟨rfl, ⟨cap, I + 1, bad, RB1.out.setI (I + 1), hi, hne, HT.out.of (P := (· ≠ br)) hF hne, rfl⟩, hF⟩
end Go.Proofs.YtjbekejcghjhbaaGreatDoor.Sx

namespace Go.Proofs.YtjbekejcghjhbaaGreatDoor.Sx
open Go.RowKit Go.Sort

def tValue : List UInt8 := [118, 97, 108, 117, 101]
def tName : List UInt8 := [110, 97, 109, 101]
def tPrime : List UInt8 := [112, 114, 105, 109, 101]
def tCall : List UInt8 := [99, 97, 108, 108]
def tFunIn : List UInt8 := [102, 117, 110, 32, 105, 110]
def binds3 : List (List UInt8) := [[97, 108, 108], [115, 111, 109, 101], [99, 104, 111, 111, 115, 101]]
/-- what a value that stands in an expression comes to -/
def ValMeans (k n : Int) (tx : List UInt8) (x : PX) : Prop :=
  (k = 0 ∧ x = dLeaf [110, 105, 108]) ∨ (k = 1 ∧ n = 1 ∧ x = dLeaf [116, 114, 117, 101]) ∨ (k = 1 ∧ n = 0 ∧ x = dLeaf [102, 97, 108, 115, 101]) ∨
  (k = 2 ∧ -9223372036854775808 ≤ n ∧ n ≤ 9223372036854775807 ∧ x = dLeaf (Lib.itoa n)) ∨ (k = 3 ∧ x = dTxt tx)
/-- what a node comes to -/
def MeansT (op nm : List UInt8) (k n : Int) (tx : List UInt8) (kids : List PX) (x : PX) : Prop :=
  (op = tValue ∧ ValMeans k n tx x) ∨ (op = tName ∧ x = dLeaf nm) ∨ (op = tPrime ∧ x = dLeaf (nm ++ [39])) ∨ (op = tCall ∧ x = dCall nm kids) ∨ (op ∈ called7 ∧ x = dCall nm kids) ∨
  (op = oSet ∧ x = dSet kids) ∨ (op = oSeq ∧ x = dSeq kids) ∨ (op = oFun ∧ x = dFun kids) ∨ (op = wUnchanged ∧ x = dOfName 12 op nm) ∨ (op = wEnabled ∧ x = dOfName 6 op nm) ∨
  (op = wIf ∧ ∃ a b c, kids = [a, b, c] ∧ x = dIf a b c) ∨ (op = wLet ∧ ∃ a b, kids = [a, b] ∧ x = dLet nm a b) ∨ ((op ∈ binds3 ∨ op ∈ binds2) ∧ ∃ a b, kids = [a, b] ∧ x = dBind op nm a b) ∨ (op = tFunIn ∧ ∃ a b, kids = [a, b] ∧ x = dBind oFun nm a b) ∨
  (op = oNeg ∧ ∃ a, kids = [a] ∧ x = dAhead 12 wNeg a) ∨ (op ∈ aheads6 ∧ ∃ a, kids = [a] ∧ x = dAhead 6 op a) ∨ (op ∈ aheads12 ∧ ∃ a, kids = [a] ∧ x = dAhead 12 op a) ∨
  (op = oAt ∧ ∃ f k, kids = [f, k] ∧ x = dAt f k) ∨ (op = oPut ∧ ∃ f k v, kids = [f, k, v] ∧ x = dPut f k v) ∨ (op ∈ joins.map Prod.fst ∧ ∃ a b, kids = [a, b] ∧ x = dBin op a b)

/-- a node's block -/
def XBlk (w : World) (b : Nat) (op : ByteArray) (a : Int) (nm : ByteArray) (k n : Int) (tx : ByteArray) (pa : Option Addr) (len cap : Nat) : Prop :=
  w.heap[b]? = some (.cells #[.string op, .int .i64 a, .string nm, .int .i64 k, .int .i64 n, .string tx, .slice none 0 0, .slice none 0 0, .slice pa len cap, .int .i64 0, .int .i64 0] 165 (0, 0))
theorem XBlk.of {w w' : World} {b : Nat} {op nm tx : ByteArray} {a k n : Int} {pa : Option Addr} {len cap : Nat} (h : XBlk w b op a nm k n tx pa len cap) {P : Nat → Prop} (f : Fr P w w') (hp : P b) : XBlk w' b op a nm k n tx pa len cap := (f.block b (block_lt h) hp).trans h
theorem XBlk.op {w : World} {b : Nat} {op nm tx : ByteArray} {a k n : Int} {pa : Option Addr} {len cap : Nat} (h : XBlk w b op a nm k n tx pa len cap) (s : ByteArray) : XBlk (w.setCell ⟨b, 0, none⟩ (.string s)) b s a nm k n tx pa len cap := by
  have := set_block h 0 (.string s); simpa [XBlk] using this
theorem XBlk.name {w : World} {b : Nat} {op nm tx : ByteArray} {a k n : Int} {pa : Option Addr} {len cap : Nat} (h : XBlk w b op a nm k n tx pa len cap) (s : ByteArray) : XBlk (w.setCell ⟨b, 2, none⟩ (.string s)) b op a s k n tx pa len cap := by
  have := set_block h 2 (.string s); simpa [XBlk] using this
theorem XBlk.kids {w : World} {b : Nat} {op nm tx : ByteArray} {a k n : Int} {pa : Option Addr} {len cap : Nat} (h : XBlk w b op a nm k n tx pa len cap) (q : Option Addr) (l c : Nat) : XBlk (w.setCell ⟨b, 8, none⟩ (.slice q l c)) b op a nm k n tx q l c := by
  have := set_block h 8 (.slice q l c); simpa [XBlk] using this

section
variable (P : Nat → Prop) (w : World)
def NodeT (R : PX → Value → Prop) (x : PX) (v : Value) : Prop :=
  ∃ (b : Nat) (op nm tx : ByteArray) (a k n : Int) (pa : Option Addr) (len cap : Nat) (kids : List PX),
    v = .pointer (some ⟨b, 0, none⟩) ∧ P b ∧ XBlk w b op a nm k n tx pa len cap ∧ RowP P w R pa len kids ∧ MeansT op.data.toList nm.data.toList k n tx.data.toList kids x
def RepT : Nat → PX → Value → Prop
  | 0, _, _ => False
  | n + 1, x, v => NodeT P w (RepT n) x v
/-- a tree in memory -/
def TreeT (x : PX) (v : Value) : Prop := ∃ n, RepT P w n x v
end
theorem RepT.up {P : Nat → Prop} {w : World} : ∀ (n m : Nat), n ≤ m → ∀ x v, RepT P w n x v → RepT P w m x v
  | 0, _, _, _, _, h => absurd h id
  | n + 1, 0, hm, _, _, _ => absurd hm (by omega)
  | n + 1, m + 1, hm, x, v, h => by
    obtain ⟨b, op, nm, tx, a, k, i, pa, len, cap, kids, h1, h2, h3, h4, h5⟩ := h
    exact ⟨b, op, nm, tx, a, k, i, pa, len, cap, kids, h1, h2, h3, h4.mono (RepT.up n m (by omega)), h5⟩
theorem RepT.fr {P Q : Nat → Prop} {w w' : World} (hf : Fr P w w') (hQ : ∀ k, k < w.heap.size → P k → Q k) : ∀ (n : Nat) x v, RepT P w n x v → RepT Q w' n x v
  | 0, _, _, h => absurd h id
  | n + 1, x, v, h => by
    obtain ⟨b, op, nm, tx, a, k, i, pa, len, cap, kids, h1, h2, h3, h4, h5⟩ := h
    exact ⟨b, op, nm, tx, a, k, i, pa, len, cap, kids, h1, hQ b (block_lt h3) h2, (hf.block b (block_lt h3) h2).trans h3, RowP.fr hf (RepT.fr hf hQ n) hQ h4, h5⟩
theorem TreeT.fr {P Q : Nat → Prop} {w w' : World} (hf : Fr P w w') (hQ : ∀ k, k < w.heap.size → P k → Q k) {x : PX} {v : Value} (h : TreeT P w x v) : TreeT Q w' x v := by
  obtain ⟨n, h⟩ := h
  exact ⟨n, RepT.fr hf hQ n x v h⟩
theorem TreeT.node {P : Nat → Prop} {w : World} {x : PX} {v : Value} (h : NodeT P w (TreeT P w) x v) : TreeT P w x v := by
  obtain ⟨b, op, nm, tx, a, k, i, pa, len, cap, kids, h1, h2, h3, ⟨r1, r2, r3⟩, h5⟩ := h
  have key : ∃ n, RowP P w (RepT P w n) pa len kids := by
    rcases r3 with r3 | ⟨g, off, e, hb, hp, r3⟩
    · exact ⟨0, r1, r2, .inl r3⟩
    · have : ∀ (l : List PX) (o : Nat), (∀ i x, l[i]? = some x → ∃ v, w.cell? ⟨g, o + i, none⟩ = some v ∧ TreeT P w x v) → ∃ n, ∀ i x, l[i]? = some x → ∃ v, w.cell? ⟨g, o + i, none⟩ = some v ∧ RepT P w n x v := by
        intro l
        induction l with
        | nil => intro o _; exact ⟨0, fun i x q => by simp at q⟩
        | cons y l ih =>
          intro o hl
          obtain ⟨v0, c0, m, hm⟩ := hl 0 y rfl
          obtain ⟨n, hn⟩ := ih (o + 1) fun i x q => by
            have := hl (i + 1) x (by simpa using q)
            rw [show o + (i + 1) = o + 1 + i from by omega] at this; exact this
          refine ⟨max m n, fun i x q => ?_⟩
          cases i with
          | zero => simp at q; subst q; exact ⟨v0, c0, RepT.up m _ (by omega) _ _ hm⟩
          | succ i =>
            obtain ⟨v, hv, hr⟩ := hn i x (by simpa using q)
            rw [show o + 1 + i = o + (i + 1) from by omega] at hv
            exact ⟨v, hv, RepT.up n _ (by omega) _ _ hr⟩
      obtain ⟨n, hn⟩ := this kids off r3
      exact ⟨n, r1, r2, .inr ⟨g, off, e, hb, hp, hn⟩⟩
  obtain ⟨n, hn⟩ := key
  exact ⟨n + 1, b, op, nm, tx, a, k, i, pa, len, cap, kids, h1, h2, h3, hn, h5⟩

/-- a reading at a depth, where no fault has come -/
def RSd (K : Nat → Tk) (N : Nat) (w : World) (br bl : Nat) (s : SX) (d : Nat) : Prop := ∃ dd : Int, RS K N w br bl s dd ∧ (OkS s → dd = (d : Int))
theorem RSd.fr {K : Nat → Tk} {N br bl : Nat} {w w' : World} {s : SX} {d : Nat} {P : Nat → Prop} (h : RSd K N w br bl s d) (f : Fr P w w') (h1 : P br) (h2 : P bl) : RSd K N w' br bl s d := by
  obtain ⟨dd, h, e⟩ := h
  exact ⟨dd, h.of f h1 h2, e⟩
theorem RSd.grew {K : Nat → Tk} {N br bl : Nat} {w w' : World} {s : SX} {d : Nat} (h : RSd K N w br bl s d) (g : Grew w w') : RSd K N w' br bl s d := h.fr (P := fun _ => True) (Fr.grew g) trivial trivial
theorem RSd.lt {K : Nat → Tk} {N br bl : Nat} {w : World} {s : SX} {d : Nat} (h : RSd K N w br bl s d) : br < w.heap.size := by
  obtain ⟨dd, h, -⟩ := h
  exact h.lt
theorem RSd.row {K : Nat → Tk} {N br bl : Nat} {w : World} {s : SX} {d : Nat} (h : RSd K N w br bl s d) : bl < w.heap.size ∧ bl ≠ br := by
  obtain ⟨dd, ⟨cap, I, bad, hb, hI, hne, hT, hs⟩, -⟩ := h
  exact ⟨hT.1, hne⟩
/-- what a call that reads an expression ends in -/
def PostT (K : Nat → Tk) (N : Nat) (w : World) (br bl d : Nat) (r : Except (Nat × Nat) (PX × Nat)) (e : Ending) (w' : World) : Prop :=
  Fr (· ≠ br) w w' ∧ RSd K N w' br bl (stX r) d ∧ ∃ b, e = .returned (.pointer (some ⟨b, 0, none⟩)) ∧ ∀ x j, r = .ok (x, j) → TreeT (fun k => w.heap.size ≤ k) w' x (.pointer (some ⟨b, 0, none⟩))
/-- parts are read as they should -/
def SelfR (K : Nat → Tk) (N br bl : Nat) (self : Nat → Nat → Nat → RX PX) : Prop :=
  ∀ (w : World) (n d : Nat) (s : SX) (r : Except (Nat × Nat) (PX × Nat)), n ≤ 12 → (OkS s → d ≤ 24) → RSd K N w br bl s d → runS s (self n d) = some r → Calls Tryz.prog 58 #[.pointer (some ⟨br, 0, none⟩), .int .i64 (n : Int)] w (PostT K N w br bl d r)
/-- what a call ends in that fills a node in -/
def FillT (K : Nat → Tk) (N : Nat) (w : World) (br bl be d : Nat) (r : Except (Nat × Nat) (PX × Nat)) (e : Ending) (w' : World) : Prop :=
  e = .returned (.tuple #[]) ∧ Fr (fun k => k ≠ br ∧ k ≠ be) w w' ∧ RSd K N w' br bl (stX r) d ∧ ∀ x j, r = .ok (x, j) → TreeT (fun k => k = be ∨ w.heap.size ≤ k) w' x (.pointer (some ⟨be, 0, none⟩))
theorem want_run {K : Nat → Tk} {γ : Type} {s : SX} {m : List UInt8} {k : Nat → RX γ} {r : Except (Nat × Nat) (γ × Nat)} (h : runS s (fun i => needX K m i k) = some r) : runS (wantS K s m) k = some r := by
  rcases s with e | i
  · exact h
  · simp only [runS, needX, wantS] at h ⊢
    cases hq : (K i).tx == m with
    | true => rw [hq] at h; exact h
    | false => rw [hq] at h; simp only [errX] at h; exact h
theorem want_ok {K : Nat → Tk} {s : SX} {m : List UInt8} (h : OkS (wantS K s m)) : OkS s := by
  rcases s with e | i
  · obtain ⟨j, hj⟩ := h; simp [wantS] at hj
  · exact ⟨i, rfl⟩
theorem gWant_d {K : Nat → Tk} {N : Nat} (hK : ∀ i, TkOK (K i)) (hL : Last K N) (w : World) (br bl : Nat) (s : SX) (d : Nat) (m : ByteArray) (hm : m.data.toList ∈ marks) (hN : N ≤ 1000000) (h : RSd K N w br bl s d) :
    Calls Tryz.prog 156 #[.pointer (some ⟨br, 0, none⟩), .string m] w fun e w' => e = .returned (.tuple #[]) ∧ RSd K N w' br bl (wantS K s m.data.toList) d ∧ Fr (· ≠ br) w w' := by
  obtain ⟨dd, h, e⟩ := h
  refine (gWant_any hK hL w br bl s dd m hm hN h).mono ?_
  rintro e' w' ⟨rfl, h1, h2⟩
  exact ⟨rfl, ⟨dd, h1, fun o => e (want_ok o)⟩, h2⟩
end Go.Proofs.YtjbekejcghjhbaaGreatDoor.Sx

namespace Go.Proofs.YtjbekejcghjhbaaGreatDoor.Sx
open Go.RowKit Go.Sort

def noX : PX := dLeaf []
theorem ok_run {β : Type} {s : SX} {x : β} {r : Except (Nat × Nat) (β × Nat)} (h : runS s (fun j => okX x j) = some r) : stX r = s ∧ ∀ y j, r = .ok (y, j) → y = x := by
  rcases s with e | i
  · obtain rfl : .error e = r := by simpa [runS] using h
    exact ⟨rfl, fun y j q => by simp at q⟩
  · obtain rfl : .ok (x, i) = r := by simpa [runS, okX] using h
    exact ⟨rfl, fun y j q => by simp at q; exact q.1.symm⟩
theorem ok_val {β : Type} (z : β) {r : Except (Nat × Nat) (β × Nat)} (h : OkS (stX r)) : ∃ j, r = .ok (valX z r, j) := by
  rcases r with e | ⟨x, j⟩
  · obtain ⟨i, hi⟩ := h; simp [stX] at hi
  · exact ⟨j, rfl⟩
theorem name_val {r : Except (Nat × Nat) (List UInt8 × Nat)} (h : OkS (stX r)) : (nameV r).data.toList = valX [] r := by
  rcases r with e | ⟨x, j⟩
  · obtain ⟨i, hi⟩ := h; simp [stX] at hi
  · rfl
theorem ok_of {β : Type} {x : β} {j : Nat} {r : Except (Nat × Nat) (β × Nat)} (h : r = .ok (x, j)) : OkS (stX r) := ⟨j, by rw [h]; rfl⟩
theorem gName_d {K : Nat → Tk} {N : Nat} (hL : Last K N) (w : World) (br bl : Nat) (s : SX) (d : Nat) (hN : N ≤ 1000000) (h : RSd K N w br bl s d) (r : Except (Nat × Nat) (List UInt8 × Nat)) (hr : runS s (nameX K) = some r) :
    Calls Tryz.prog 112 #[.pointer (some ⟨br, 0, none⟩)] w fun e w' => e = .returned (.string (nameV r)) ∧ RSd K N w' br bl (stX r) d ∧ Fr (· ≠ br) w w' := by
  obtain ⟨dd, h, e⟩ := h
  refine (gName_any hL w br bl s dd hN h r hr).mono ?_
  rintro e' w' ⟨rfl, h1, h2⟩
  exact ⟨rfl, ⟨dd, h1, fun o => e (runS_okS hr o)⟩, h2⟩
theorem Fr.wide {br be : Nat} {w w' : World} (h : Fr (· ≠ br) w w') : Fr (fun k => k ≠ br ∧ k ≠ be) w w' := h.mono fun _ q => q.1

/-- the parts of a node are laid into a new row -/
theorem fillT {w : World} {be lo : Nat} {op nm tx : ByteArray} {a0 k0 n0 : Int} {pa : Option Addr} {len cap m : Nat} (he : XBlk w be op a0 nm k0 n0 tx pa len cap) {vs : Array Value} {kids : List PX} (hm : m = kids.length) (hm4 : m ≤ 4294967296)
    (hk : ∀ (i : Nat) (x : PX), kids[i]? = some x → ∃ v, vs[i]? = some v ∧ TreeT (fun k => lo ≤ k ∧ k ≠ be) w x v) (hlo : lo ≤ w.heap.size) {x : PX} (hx : MeansT op.data.toList nm.data.toList k0 n0 tx.data.toList kids x) :
    TreeT (fun k => k = be ∨ lo ≤ k) ((w.setCell ⟨be, 8, none⟩ (.slice (some ⟨w.heap.size, 0, none⟩) m m)).alloc (.cells vs 57 (0, 0))) x (.pointer (some ⟨be, 0, none⟩)) := by
  have hF : Fr (· ≠ be) w ((w.setCell ⟨be, 8, none⟩ (.slice (some ⟨w.heap.size, 0, none⟩) m m)).alloc (.cells vs 57 (0, 0))) := ((Fr.refl _ w).set (by simp) _).alloc _
  have hE : XBlk ((w.setCell ⟨be, 8, none⟩ (.slice (some ⟨w.heap.size, 0, none⟩) m m)).alloc (.cells vs 57 (0, 0))) be op a0 nm k0 n0 tx (some ⟨w.heap.size, 0, none⟩) m m := (he.kids _ _ _).of (P := fun _ => True) ((Fr.refl _ _).alloc _) trivial
  have hN : ((w.setCell ⟨be, 8, none⟩ (.slice (some ⟨w.heap.size, 0, none⟩) m m)).alloc (.cells vs 57 (0, 0))).heap[w.heap.size]? = some (.cells vs 57 (0, 0)) := heap_new (by simp)
  refine TreeT.node ⟨be, op, nm, tx, a0, k0, n0, _, m, m, kids, rfl, .inl rfl, hE, ⟨hm, hm4, .inr ⟨w.heap.size, 0, rfl, block_lt hN, .inr hlo, fun i x q => ?_⟩⟩, hx⟩
  obtain ⟨v, hv, ht⟩ := hk i x q
  exact ⟨v, by rw [Nat.zero_add, block_cell hN]; exact hv, ht.fr (hF.mono fun k q => q.2) fun k _ q => .inr q.1⟩

/-- a name, a mark, a part, a colon, a part -/
def genX (K : Nat → Tk) (self : Nat → Nat → Nat → RX PX) (mk : List UInt8) (q d : Nat) (D : List UInt8 → PX → PX → PX) (i : Nat) : RX PX :=
  bX (nameX K i) fun n j => needX K mk j fun j => bX (self q d j) fun a j => needX K [58] j fun j => bX (self 0 d j) fun b j => okX (D n a b) j
set_option maxRecDepth 100000 in
set_option maxHeartbeats 2000000 in
theorem gbound_any {K : Nat → Tk} {N br bl : Nat} {self : Nat → Nat → Nat → RX PX} (hS : SelfR K N br bl self) (hK : ∀ i, TkOK (K i)) (hL : Last K N) (hN : N ≤ 1000000) (w : World) (be d : Nat) (s : SX) (op : ByteArray) (a0 : Int) (hd : OkS s → d ≤ 24) (hbe : be ≠ br) (hbl : be ≠ bl) (h : RSd K N w br bl s d) (he : XBlk w be op a0 ⟨#[]⟩ 0 0 ⟨#[]⟩ none 0 0)
    (mk : ByteArray) (q : Nat) (D : List UInt8 → PX → PX → PX) (hmq : op.data.toList = wLet ∧ mk = ⟨#[61]⟩ ∧ q = 0 ∨ op.data.toList ≠ wLet ∧ mk = ⟨#[105, 110]⟩ ∧ q = 8) (hM : ∀ n a b, MeansT op.data.toList n 0 0 [] [a, b] (D n a b))
    (r : Except (Nat × Nat) (PX × Nat)) (hr : runS s (genX K self mk.data.toList q d D) = some r) :
    Calls Tryz.prog 157 #[.pointer (some ⟨br, 0, none⟩), .pointer (some ⟨be, 0, none⟩)] w (FillT K N w br bl be d r) := by
  have HS : Hid (SelfR K N br bl self) := hS
  have HK : Hid (∀ i, TkOK (K i)) := hK
  have HL : Hid (Last K N) := hL
  have HE : Hid (XBlk w be op a0 ⟨#[]⟩ 0 0 ⟨#[]⟩ none 0 0) := he
  have HM : Hid (∀ n a b, MeansT op.data.toList n 0 0 [] [a, b] (D n a b)) := hM
  obtain ⟨r1, h1, hr⟩ := runS_bX [] hr
  have hr := want_run hr
  obtain ⟨r2, h2, hr⟩ := runS_bX noX hr
  have hr := want_run hr
  obtain ⟨r3, h3, hr⟩ := runS_bX noX hr
  have HR : Hid (stX r = stX r3 ∧ ∀ y j, r = .ok (y, j) → y = D (valX [] r1) (valX noX r2) (valX noX r3)) := ok_run hr
  have HO3 : Hid (OkS (stX r3) → OkS (stX r2)) := fun o => want_ok (runS_okS h3 o)
  have HO2 : Hid (OkS (stX r2) → OkS (stX r1)) := fun o => want_ok (runS_okS h2 o)
  have HD1 : Hid (OkS (stX r1) → d ≤ 24) := fun o => hd (runS_okS h1 o)
  have HN1 : Hid (Calls _ _ _ _ _) := gName_d hL w br bl s d hN h r1 h1
  have H2 : Hid (runS (wantS K (stX r1) mk.data.toList) (self q d) = some r2) := h2
  have H3 : Hid (runS (wantS K (stX r2) [58]) (self 0 d) = some r3) := h3
  have hbr := h.lt
  obtain ⟨hbll, hblr⟩ := h.row
  have htl : op.toList = op.data.toList := ByteArray.toList_eq op
  have hmk : mk.data.toList ∈ marks := by rcases hmq with ⟨-, rfl, -⟩ | ⟨-, rfl, -⟩ <;> decide
  have hq12 : q ≤ 12 := by omega
  have hq : (op.toList == [108, 101, 116]) = true ∧ mk = ⟨#[61]⟩ ∧ q = 0 ∨ (op.toList == [108, 101, 116]) = false ∧ mk = ⟨#[105, 110]⟩ ∧ q = 8 := by
    rw [htl]
    rcases hmq with ⟨e, h1, h2⟩ | ⟨e, h1, h2⟩
    · exact .inl ⟨by rw [e]; rfl, h1, h2⟩
    · exact .inr ⟨by simpa [wLet] using e, h1, h2⟩
  clear hS hK hL he hM h hr h1 h2 h3 htl hmq hd
  have mo := follows
  go_enter Tryz.func157, Tryz.ntmps157
  go_wp2_with fail
  refine HN1.out.mono ?_
  rintro e w1 ⟨rfl, hr1, hf1⟩
  have R1 : Hid (RSd K N w1 br bl (stX r1) d) := hr1
  have F1 : Hid (Fr (fun k => k ≠ br ∧ k ≠ be) w w1) := hf1.wide
  have E1 : Hid (XBlk w1 be op a0 ⟨#[]⟩ 0 0 ⟨#[]⟩ none 0 0) := HE.out.of hf1 hbe
  have c0 := block_cell E1.out 0
  have c2 := block_cell E1.out 2
  have f2 := frozen_block E1.out 2
  clear hr1 hf1 HN1 HE
  have E2 : Hid (XBlk (w1.setCell ⟨be, 2, none⟩ (.string (nameV r1))) be op a0 (nameV r1) 0 0 ⟨#[]⟩ none 0 0) := E1.out.name _
  have hfs : Fr (· ≠ be) w1 (w1.setCell ⟨be, 2, none⟩ (.string (nameV r1))) := (Fr.refl _ w1).set (by simp) _
  have R2 : Hid (RSd K N (w1.setCell ⟨be, 2, none⟩ (.string (nameV r1))) br bl (stX r1) d) := R1.out.fr hfs (Ne.symm hbe) (Ne.symm hbl)
  have F2 : Hid (Fr (fun k => k ≠ br ∧ k ≠ be) w (w1.setCell ⟨be, 2, none⟩ (.string (nameV r1)))) := F1.out.trans (hfs.mono fun _ q => q.2)
  clear hfs E1 R1 F1
  rcases hq with ⟨hq, rfl, rfl⟩ | ⟨hq, rfl, rfl⟩
  all_goals
    go_wp2_with fail
    clear c0 c2 f2
    generalize w1.setCell ⟨be, 2, none⟩ (.string (nameV r1)) = w2 at E2 R2 F2 ⊢
    refine (gWant_d HK.out HL.out w2 br bl _ d _ hmk hN R2.out).mono ?_
    rintro e w3 ⟨rfl, hr3, hf3⟩
    have R3 : Hid (RSd K N w3 br bl _ d) := hr3
    have F3 : Hid (Fr (fun k => k ≠ br ∧ k ≠ be) w w3) := F2.out.trans hf3.wide
    have E3 : Hid (XBlk w3 be op a0 (nameV r1) 0 0 ⟨#[]⟩ none 0 0) := E2.out.of hf3 hbe
    clear hr3 hf3 E2 R2 F2
    go_wp2_with fail
    refine (HS.out w3 _ d _ r2 hq12 (fun o => HD1.out (want_ok o)) R3.out H2.out).mono ?_
    rintro e w4 ⟨hf4, hr4, ba, rfl, ht4⟩
    have R4 : Hid (RSd K N w4 br bl (stX r2) d) := hr4
    have F4 : Hid (Fr (fun k => k ≠ br ∧ k ≠ be) w w4) := F3.out.trans hf4.wide
    have E4 : Hid (XBlk w4 be op a0 (nameV r1) 0 0 ⟨#[]⟩ none 0 0) := E3.out.of hf4 hbe
    have A4 : Hid (∀ x j, r2 = .ok (x, j) → TreeT (fun k => w3.heap.size ≤ k) w4 x (.pointer (some ⟨ba, 0, none⟩))) := ht4
    have hz3 := F3.out.size
    have hb3 : be < w3.heap.size := block_lt E3.out
    have hbr3 := R3.out.lt
    clear hr4 hf4 ht4 E3 R3 F3
    go_wp2_with fail
    refine (gWant_d HK.out HL.out w4 br bl _ d ⟨#[58]⟩ (by decide) hN R4.out).mono ?_
    rintro e w5 ⟨rfl, hr5, hf5⟩
    have R5 : Hid (RSd K N w5 br bl (wantS K (stX r2) [58]) d) := hr5
    have F5 : Hid (Fr (fun k => k ≠ br ∧ k ≠ be) w w5) := F4.out.trans hf5.wide
    have E5 : Hid (XBlk w5 be op a0 (nameV r1) 0 0 ⟨#[]⟩ none 0 0) := E4.out.of hf5 hbe
    have A5 : Hid (∀ x j, r2 = .ok (x, j) → TreeT (fun k => w3.heap.size ≤ k) w5 x (.pointer (some ⟨ba, 0, none⟩))) := fun x j e => (A4.out x j e).fr (hf5.mono fun k q => by omega) fun _ _ q => q
    clear hr5 hf5 E4 R4 F4 A4
    go_wp2_with fail
    refine (HS.out w5 0 d _ r3 (by omega) (fun o => HD1.out (HO2.out (want_ok o))) R5.out H3.out).mono ?_
    rintro e w6 ⟨hf6, hr6, bb, rfl, ht6⟩
    have R6 : Hid (RSd K N w6 br bl (stX r3) d) := hr6
    have F6 : Hid (Fr (fun k => k ≠ br ∧ k ≠ be) w w6) := F5.out.trans hf6.wide
    have E6 : Hid (XBlk w6 be op a0 (nameV r1) 0 0 ⟨#[]⟩ none 0 0) := E5.out.of hf6 hbe
    have A6 : Hid (∀ x j, r2 = .ok (x, j) → TreeT (fun k => w3.heap.size ≤ k) w6 x (.pointer (some ⟨ba, 0, none⟩))) := fun x j e => (A5.out x j e).fr (hf6.mono fun k q => by omega) fun _ _ q => q
    have B6 : Hid (∀ x j, r3 = .ok (x, j) → TreeT (fun k => w5.heap.size ≤ k) w6 x (.pointer (some ⟨bb, 0, none⟩))) := ht6
    have hz5 := F5.out.size
    have hb5 : be < w5.heap.size := block_lt E5.out
    have hz6 := F6.out.size
    have c8 := block_cell E6.out 8
    have f8 := frozen_block E6.out 8
    have hb6 : be < w6.heap.size := block_lt E6.out
    clear hr6 hf6 ht6 E5 R5 F5 A5
    go_wp2_with fail
    go_end0
    have hFE : Fr (· ≠ be) w6 ((w6.setCell ⟨be, 8, none⟩ (.slice (some ⟨w6.heap.size, 0, none⟩) 2 2)).alloc (.cells #[.pointer (some ⟨ba, 0, none⟩), .pointer (some ⟨bb, 0, none⟩)] 57)) := ((Fr.refl _ w6).set (by simp) _).alloc _
    refine ⟨rfl, F6.out.trans (hFE.mono fun _ q => q.2), by rw [HR.out.1]; exact R6.out.fr hFE (Ne.symm hbe) (Ne.symm hbl), fun x j e => ?_⟩
    have o3 : OkS (stX r3) := by rw [← HR.out.1]; exact ok_of e
    have o2 := HO3.out o3
    have o1 := HO2.out o2
    obtain ⟨j2, e2⟩ := ok_val noX o2
    obtain ⟨j3, e3⟩ := ok_val noX o3
    rw [HR.out.2 x j e]
    exact fillT (lo := w.heap.size) E6.out (m := 2) (vs := #[.pointer (some ⟨ba, 0, none⟩), .pointer (some ⟨bb, 0, none⟩)]) (kids := [valX noX r2, valX noX r3]) rfl (by omega) (fun k z qz => by
      match k with
      | 0 => simp at qz; subst qz; exact ⟨_, rfl, (A6.out _ _ e2).fr (Fr.refl _ _) fun _ _ q => by omega⟩
      | 1 => simp at qz; subst qz; exact ⟨_, rfl, (B6.out _ _ e3).fr (Fr.refl _ _) fun _ _ q => by omega⟩
      | k + 2 => simp at qz) (by omega) (by rw [name_val o1]; exact HM.out _ _ _)
end Go.Proofs.YtjbekejcghjhbaaGreatDoor.Sx
