/- The reference: lists. -/
import Derived.Test.YtjbekejcghjhbaaGreatDoorF24
import Derived.Deep.AppendLies
import Derived.Deep.LoopGhost
namespace Go.Proofs.YtjbekejcghjhbaaGreatDoor.Sx
open Go.RowKit Go.Sort

theorem infoT : (Tryz.prog.info? 57).map (fun i => (i.zero, i.size, i.bytes)) = some (some (.pointer none), 1, 8) := by kernel_rfl
theorem ownsT_of {w w' : World} {base : Nat} {sl : Value} {n : Nat} {vs : List Value} (h : w.ownsRow base 57 1 sl n vs) (hb : ∀ g, sl.ownBlock = some g → base ≤ g → g < w.heap.size → w'.heap[g]? = w.heap[g]?) : w'.ownsRow base 57 1 sl n vs := by
  refine ⟨h.1, ?_⟩
  rcases h.2 with h' | ⟨g, cap, cur, e, hg, hq, r⟩
  · exact .inl h'
  · exact .inr ⟨g, cap, cur, e, hg, (hb g (by rw [e]; rfl) hg (block_lt hq)).trans hq, r⟩
/-- the parts so far: their row; what they are, where no fault has come -/
def LTS (w : World) (lo : Nat) (sl : Value) (n : Nat) (es : List PX) (c : Prop) : Prop :=
  ∃ vs, w.ownsRow lo 57 1 sl n vs ∧ (c → n = es.length ∧ ∀ (i : Nat) (x : PX), es[i]? = some x → ∃ v, vs[i]? = some v ∧ TreeT (fun k => lo ≤ k ∧ sl.ownBlock ≠ some k) w x v)
theorem LTS.nil (w : World) (lo : Nat) (c : Prop) : LTS w lo (.slice none 0 0) 0 [] c := ⟨[], World.ownsRow_nil _ _ _ _, fun _ => ⟨rfl, fun i x q => by simp at q⟩⟩
theorem LTS.fr {w w' : World} {lo br n : Nat} {sl : Value} {es : List PX} {c c' : Prop} (h : LTS w lo sl n es c) (hc : c' → c) (f : Fr (· ≠ br) w w') (hbr : br < lo) : LTS w' lo sl n es c' := by
  obtain ⟨vs, h1, h2⟩ := h
  refine ⟨vs, ownsT_of h1 (fun g _ hg hlt => f.block g hlt (by omega)), fun q => ?_⟩
  obtain ⟨h3, h4⟩ := h2 (hc q)
  refine ⟨h3, fun i x q => ?_⟩
  obtain ⟨v, hv, ht⟩ := h4 i x q
  exact ⟨v, hv, ht.fr (f.mono fun k hk => by have := hk.1; omega) fun _ _ q => q⟩
theorem LTS.slice {w : World} {lo n : Nat} {sl : Value} {es : List PX} {c : Prop} (h : LTS w lo sl n es c) : ∃ a cap, sl = .slice a n cap := by
  obtain ⟨vs, h1, -⟩ := h
  rcases h1.2 with ⟨rfl, hn⟩ | ⟨g, cap, cur, rfl, -⟩
  · exact ⟨none, 0, by rw [hn]⟩
  · exact ⟨_, cap, rfl⟩
theorem LTS.row {w : World} {lo n cap : Nat} {a : Option Addr} {es : List PX} {c : Prop} (h : LTS w lo (.slice a n cap) n es c) (hl : n ≤ 4294967296) (hc : c) : RowP (fun k => lo ≤ k) w (TreeT (fun k => lo ≤ k) w) a n es := by
  obtain ⟨vs, h1, h2⟩ := h
  obtain ⟨h3, h4⟩ := h2 hc
  rcases h1.2 with ⟨e, hn⟩ | ⟨g, cap', cur, e, hg, hq, hcc, _, hs, ht⟩
  · exact ⟨h3, hl, .inl hn⟩
  · injection e with e1 e2 e3
    subst e1
    refine ⟨h3, hl, .inr ⟨g, 0, rfl, block_lt hq, hg, fun i x q => ?_⟩⟩
    obtain ⟨v, hv, hT⟩ := h4 i x q
    refine ⟨v, ?_, hT.fr (Fr.refl _ _) fun _ _ q => q.1⟩
    rw [Nat.zero_add, block_cell hq]
    rw [← ht, List.getElem?_take] at hv
    split at hv
    · simpa using hv
    · simp at hv
/-- one part more -/
theorem LTS.push {w1 w2 : World} {lo lx g cap n b : Nat} {es : List PX} {sl : Value} {vs : List Value} {x : PX} {c c' : Prop} {o : Obj} (hc : c' → c)
    (h1 : w1.ownsRow lo 57 1 sl n vs) (h2 : c → n = es.length ∧ ∀ (i : Nat) (x : PX), es[i]? = some x → ∃ v, vs[i]? = some v ∧ TreeT (fun k => lo ≤ k ∧ sl.ownBlock ≠ some k) w1 x v)
    (hx : c' → TreeT (fun k => lx ≤ k) w1 x (.pointer (some ⟨b, 0, none⟩))) (hlx : lo ≤ lx) (hsl : ∀ q, sl.ownBlock = some q → q < lx)
    (ho : w2.ownsRow lo 57 1 (.slice (some ⟨g, 0, none⟩) (n + 1) cap) (n + 1) (vs ++ [.pointer (some ⟨b, 0, none⟩)])) (hg : (w1.alloc o).grownBy w2 sl.ownBlock) (hat : sl.ownBlock = some g ∨ g = w1.heap.size + 1) :
    LTS w2 lo (.slice (some ⟨g, 0, none⟩) (n + 1) cap) (n + 1) (es ++ [x]) c' ∧ Fr (fun k => sl.ownBlock ≠ some k) w1 w2 := by
  have a1 := World.grownBy_alloc w1 o sl.ownBlock
  have f1 : Fr (fun k => sl.ownBlock ≠ some k) w1 w2 := ⟨hg.os.trans a1.os, hg.tape.trans a1.tape, hg.output.trans a1.output, Nat.le_trans a1.size hg.size, fun k hk hp => (hg.block k (Nat.lt_of_lt_of_le hk a1.size) (fun e => hp e.symm)).trans (a1.block k hk (fun e => hp e.symm))⟩
  refine ⟨⟨_, ho, fun q => ?_⟩, f1⟩
  obtain ⟨h3, h4⟩ := h2 (hc q)
  have hvl : vs.length = es.length := by have := h1.1; omega
  have keep : ∀ (z : PX) (t : Value), TreeT (fun k => lo ≤ k ∧ sl.ownBlock ≠ some k) w1 z t → TreeT (fun k => lo ≤ k ∧ (Value.slice (some ⟨g, 0, none⟩) (n + 1) cap).ownBlock ≠ some k) w2 z t := by
    intro z t hz
    refine hz.fr (f1.mono fun _ q => q.2) fun k hk hp => ⟨hp.1, fun e => ?_⟩
    simp only [Value.ownBlock, Option.some.injEq] at e
    subst e
    rcases hat with q | q
    · exact hp.2 q
    · omega
  refine ⟨by rw [List.length_append, h3]; rfl, fun i y qy => ?_⟩
  by_cases hi : i < es.length
  · rw [List.getElem?_append_left hi] at qy
    obtain ⟨v', hv, hT⟩ := h4 i y qy
    exact ⟨v', by rw [List.getElem?_append_left (by omega)]; exact hv, keep _ _ hT⟩
  · have hie : i = es.length := by
      have := (List.getElem?_eq_some_iff.1 qy).1
      simp at this; omega
    subst hie
    rw [List.getElem?_append_right (Nat.le_refl _)] at qy
    simp at qy
    subst qy
    exact ⟨_, by rw [List.getElem?_append_right (by omega)]; simp [hvl], keep _ _ ((hx q).fr (Fr.refl _ _) fun k _ hk => ⟨by omega, fun e => by have := hsl k e; omega⟩)⟩
/-- what a call ends in that reads a list -/
def PostLT (K : Nat → Tk) (N : Nat) (w : World) (br bl d : Nat) (r : Except (Nat × Nat) (List PX × Nat)) (e : Ending) (w' : World) : Prop :=
  Fr (· ≠ br) w w' ∧ RSd K N w' br bl (stX r) d ∧ ∃ a len cap, e = .returned (.slice a len cap) ∧ ∀ l j, r = .ok (l, j) → RowP (fun k => w.heap.size ≤ k) w' (TreeT (fun k => w.heap.size ≤ k) w') a len l

theorem list_more {K : Nat → Tk} {β : Type} {item : Nat → RX β} {cl : List UInt8} {s1 : SX} {f : Nat} {acc : List β} {r : Except (Nat × Nat) (List β × Nat)} (hb : isS K s1 [44] = true) (hc : cl ≠ [44])
    (hk : runS s1 (fun j => if (K j).tx == cl then okX acc (j + 1) else needX K [44] j fun j => listX K cl item f acc j) = some r) : ∃ j, takeS K s1 [44] = .ok (j + 1) ∧ OkS s1 ∧ listX K cl item f acc (j + 1) = some r := by
  rcases s1 with e | j
  · simp [isS] at hb
  · have hb' : ((K j).tx == [44]) = true := hb
    have hn : ((K j).tx == cl) = false := by
      rw [eq_of_beq hb']
      rw [beq_eq_false_iff_ne]
      exact Ne.symm hc
    simp only [runS, hn, needX, hb'] at hk
    exact ⟨j, by simp only [takeS, hb']; rfl, ⟨j, rfl⟩, by simpa using hk⟩
theorem list_done {K : Nat → Tk} {β : Type} {item : Nat → RX β} {cl : List UInt8} {s1 : SX} {f : Nat} {acc : List β} {r : Except (Nat × Nat) (List β × Nat)} (hb : isS K s1 [44] = false)
    (hk : runS s1 (fun j => if (K j).tx == cl then okX acc (j + 1) else needX K [44] j fun j => listX K cl item f acc j) = some r) : takeS K s1 [44] = s1 ∧ runS (wantS K s1 cl) (fun j => okX acc j) = some r := by
  rcases s1 with e | j
  · exact ⟨rfl, hk⟩
  · have hb' : ((K j).tx == [44]) = false := hb
    refine ⟨by simp only [takeS, hb']; rfl, ?_⟩
    simp only [runS, needX, hb', wantS] at hk ⊢
    cases hn : (K j).tx == cl with
    | true => rw [hn] at hk; exact hk
    | false => rw [hn] at hk; simpa [errX] using hk
theorem take_ok {K : Nat → Tk} {s : SX} {m : List UInt8} (h : OkS (takeS K s m)) : OkS s := by
  rcases s with e | i
  · obtain ⟨j, hj⟩ := h; simp [takeS] at hj
  · exact ⟨i, rfl⟩
theorem gTake_d {K : Nat → Tk} {N : Nat} (hK : ∀ i, TkOK (K i)) (hL : Last K N) (w : World) (br bl : Nat) (s : SX) (d : Nat) (m : ByteArray) (hm : m.data.toList ∈ marks) (hN : N ≤ 1000000) (h : RSd K N w br bl s d) :
    Calls Tryz.prog 111 #[.pointer (some ⟨br, 0, none⟩), .string m] w fun e w' => e = .returned (.bool (isS K s m.data.toList)) ∧ RSd K N w' br bl (takeS K s m.data.toList) d ∧ Fr (· ≠ br) w w' := by
  obtain ⟨dd, h, e⟩ := h
  refine (gTake_any hK hL w br bl s dd m hm hN h).mono ?_
  rintro e' w' ⟨rfl, h1, h2⟩
  exact ⟨rfl, ⟨dd, h1, fun o => e (take_ok o)⟩, h2⟩
/-- the fault of a reading, as its block has it -/
theorem RSd.err {K : Nat → Tk} {N br bl : Nat} {w : World} {s : SX} {d : Nat} (h : RSd K N w br bl s d) : w.cell? ⟨br, 3, none⟩ = some (.int .i64 (ec s)) ∧ ∀ c p, s = .error (c, p) → ((c : Int) == 0) = false := by
  obtain ⟨dd, h, -⟩ := h
  have hf := h.fault
  obtain ⟨cap, I, bad, hb, -⟩ := h
  exact ⟨block_cell hb 3, hf⟩

set_option maxRecDepth 100000 in
set_option maxHeartbeats 2000000 in
theorem glist_one {K : Nat → Tk} {N br bl : Nat} {self : Nat → Nat → Nat → RX PX} (hS : SelfR K N br bl self) (hK : ∀ i, TkOK (K i)) (hL : Last K N) (hN : N ≤ 1000000) (w : World) (d m : Nat) (s : SX) (cl : ByteArray) (hd : OkS s → d ≤ 24) (hm : m ≤ 1000000) (hcl : cl.data.toList ∈ marks) (hc44 : cl.data.toList ≠ [44]) (h : RSd K N w br bl s d)
    (r : Except (Nat × Nat) (List PX × Nat)) (hr : runS s (listX K cl.data.toList (self 0 d) m []) = some r) :
    Calls Tryz.prog 254 #[.pointer (some ⟨br, 0, none⟩), .string cl, .int .i64 1, .bool false] w (PostLT K N w br bl d r) := by
  have HS : Hid (SelfR K N br bl self) := hS
  have HK : Hid (∀ i, TkOK (K i)) := hK
  have HL : Hid (Last K N) := hL
  have HR : Hid (RSd K N w br bl s d) := h
  have H0 : Hid (runS s (listX K cl.data.toList (self 0 d) m []) = some r) := hr
  have HD0 : Hid (OkS s → d ≤ 24) := hd
  have hbr := h.lt
  have hbll := h.row.1
  obtain ⟨i0, hi0, hz0, hz1, hz2⟩ : ∃ i0, Tryz.prog.info? 57 = some i0 ∧ i0.zero = some (.pointer none) ∧ i0.size = 1 ∧ i0.bytes = 8 := by
    have := infoT
    cases hq : Tryz.prog.info? 57 with
    | none => rw [hq] at this; simp at this
    | some j => rw [hq] at this; simp at this; exact ⟨j, rfl, this.1, this.2.1, this.2.2⟩
  clear hS hK hL h hr hd
  have mo := follows
  go_enter Tryz.func254, Tryz.ntmps254
  go_wp2_with fail
  go_loopg [9] (m) (fun f s9 wr => ∃ (s : SX) (acc : List PX) (n : Nat), n + f ≤ 1000000 ∧ Hid (OkS s → d ≤ 24) ∧ Hid (RSd K N wr br bl s d) ∧ Hid (LTS wr w.heap.size s9 n acc (OkS s)) ∧ Hid (runS s (listX K cl.data.toList (self 0 d) f acc) = some r) ∧ Hid (Fr (· ≠ br) w wr))
  case atStart => exact ⟨s, [], 0, by simpa using hm, HD0, HR, LTS.nil _ _ _, H0, Fr.refl _ _⟩
  case round =>
    clear HR H0
    obtain ⟨s1, acc, n, hac, HD1, R1, L1, P1, F1⟩ := hrel
    obtain ⟨a1, cap1, hsl⟩ := L1.out.slice
    subst hsl
    obtain ⟨e3, hfault⟩ := R1.out.err
    rcases s1 with ⟨c, p⟩ | i
    · have hc := hfault c p rfl
      simp only [ec] at e3
      have HQ : Hid (r = .error (c, p)) := by have := P1.out; simp only [runS, Option.some.injEq] at this; exact this.symm
      clear hfault P1
      go_wp2_with fail
      refine (gWant_d HK.out HL.out wr br bl _ d cl hcl hN R1.out).mono ?_
      rintro e w2 ⟨rfl, hr2, hf2⟩
      have R2 : Hid (RSd K N w2 br bl (.error (c, p)) d) := hr2
      have F2 : Hid (Fr (· ≠ br) w w2) := F1.out.trans hf2
      clear hr2 hf2 e3
      go_wp2_with fail
      go_ret
      rw [HQ.out]
      exact ⟨F2.out, R2.out, a1, n, cap1, rfl, fun l j e => by simp at e⟩
    · obtain ⟨f, rfl⟩ : ∃ f, gk = f + 1 := by
        cases gk with
        | zero => exact absurd P1.out (by simp [listX, runS])
        | succ f => exact ⟨f, rfl⟩
      simp only [ec] at e3
      have hp := P1.out
      simp only [listX] at hp
      obtain ⟨r1, h1, hk⟩ := runS_bX noX hp
      have hd := HD1.out ⟨i, rfl⟩
      clear hfault P1 hp
      go_wp2_with fail
      refine (HS.out wr 0 d _ r1 (by omega) (fun _ => hd) R1.out h1).mono ?_
      rintro e w2 ⟨hf2, hr2, bx, rfl, ht2⟩
      have R2 : Hid (RSd K N w2 br bl (stX r1) d) := hr2
      have F2 : Hid (Fr (· ≠ br) w w2) := F1.out.trans hf2
      have T2 : Hid (OkS (stX r1) → TreeT (fun k => wr.heap.size ≤ k) w2 (valX noX r1) (.pointer (some ⟨bx, 0, none⟩))) := fun o => by
        obtain ⟨j, e⟩ := ok_val noX o
        exact ht2 _ _ e
      have hw1 := F1.out.size
      have hw2 := F2.out.size
      have hw3 := hf2.size
      have hsl : ∀ q, (Value.slice a1 n cap1).ownBlock = some q → q < wr.heap.size := by
        obtain ⟨vs, q1, -⟩ := L1.out
        intro q hq
        exact (q1.lt q hq).2
      obtain ⟨vs, ho, hL2⟩ := L1.out.fr (c' := OkS (stX r1)) (fun _ => ⟨i, rfl⟩) hf2 hbr
      have HO : Hid (w2.ownsRow w.heap.size 57 1 (.slice a1 n cap1) n vs) := ho
      have HL2 : Hid (OkS (stX r1) → _) := hL2
      have HSL : Hid (∀ q, (Value.slice a1 n cap1).ownBlock = some q → q < wr.heap.size) := hsl
      have HOA : Hid ((w2.alloc (.cells #[.pointer (some ⟨bx, 0, none⟩)] 57)).ownsRow w.heap.size 57 1 (.slice a1 n cap1) n vs) := ho.alloc _
      clear hr2 hf2 ht2 ho hL2 hsl R1 F1 L1 h1 e3
      go_wp2_with (at_builtin; refine wpList_append_lies _ rfl _ _ 163 rfl _ 57 i0 _ 1 8 Tryz.underlying163 hi0 hz0 hz1 hz2 rfl (by decide) (.slice a1 n cap1) _ vs rfl HOA.out _ 1 1 [.pointer (some ⟨bx, 0, none⟩)] rfl rfl ?q1 ?q2 (by decide) ?q3 ?q4 ?q5 (w2.heap.size + 1) ?q6 ?_)
      case q1 =>
        intro k u hk
        match k, hk with
        | 0, hk => simp at hk; subst hk; simp [Addr.add]
        | k + 1, hk => simp at hk
      case q2 =>
        intro u hu
        simp only [List.mem_cons, List.not_mem_nil, or_false] at hu
        subst hu; rfl
      case q3 => unfold maxLen; omega
      case q4 => omega
      case q5 => simp; omega
      case q6 => simp
      intro g cap w3 ho3 hg3 hat3 hlt3
      obtain ⟨hL3, hF3⟩ := LTS.push (c := OkS (stX r1)) (c' := OkS (stX r1)) id HO.out HL2.out T2.out hw1 HSL.out ho3 hg3 hat3
      have L3 : Hid (LTS w3 w.heap.size (.slice (some ⟨g, 0, none⟩) (n + 1) cap) (n + 1) (acc ++ [valX noX r1]) (OkS (stX r1))) := hL3
      have hsl2 : ∀ k, k < w.heap.size → (Value.slice a1 n cap1).ownBlock ≠ some k := fun k hk e => by have := (HO.out.lt k e).1; omega
      have F3 : Hid (Fr (· ≠ br) w w3) := ⟨hF3.os.trans F2.out.os, hF3.tape.trans F2.out.tape, hF3.output.trans F2.out.output, Nat.le_trans F2.out.size hF3.size, fun k hk hq => (hF3.block k (by omega) (hsl2 k hk)).trans (F2.out.block k hk hq)⟩
      have hbl2 : bl < w.heap.size := hbll
      have R3 : Hid (RSd K N w3 br bl (stX r1) d) := R2.out.fr hF3 (hsl2 br hbr) (hsl2 bl hbl2)
      clear ho3 hg3 hat3 hlt3 hL3 hF3 hsl2 HL2 HO HSL HOA T2 R2 F2
      have hac2 : n + 1 + f ≤ 1000000 := by omega
      generalize acc ++ [valX noX r1] = acc2 at L3 hk
      have HTK : Hid (Calls _ _ _ _ _) := gTake_d HK.out HL.out w3 br bl (stX r1) d ⟨#[44]⟩ (by decide) hN R3.out
      cases hb : isS K (stX r1) [44] with
      | true =>
        have HTK2 : Hid (Calls Tryz.prog 111 #[.pointer (some ⟨br, 0, none⟩), .string ⟨#[44]⟩] w3 fun e w' => e = .returned (.bool true) ∧ RSd K N w' br bl (takeS K (stX r1) [44]) d ∧ Fr (· ≠ br) w3 w') := by
          have := HTK.out
          rw [show (⟨#[44]⟩ : ByteArray).data.toList = [44] from rfl, hb] at this
          exact this
        obtain ⟨j2, ht, ho1, hk2⟩ := list_more hb hc44 hk
        have HOK : Hid (OkS (stX r1)) := ho1
        have HP2 : Hid (listX K cl.data.toList (self 0 d) f acc2 (j2 + 1) = some r) := hk2
        rw [ht] at HTK2
        clear hb hk ht ho1 hk2 HTK
        go_wp2_with (go_at_call 111; refine HTK2.out.mono ?_; rintro e w4 ⟨rfl, hr4, hf4⟩; have R4 : Hid (RSd K N w4 br bl (.ok (j2 + 1)) d) := hr4; have F4 : Hid (Fr (· ≠ br) w w4) := F3.out.trans hf4; have L4 : Hid (LTS w4 w.heap.size (.slice (some ⟨g, 0, none⟩) (n + 1) cap) (n + 1) acc2 (OkS (.ok (j2 + 1)))) := L3.out.fr (fun _ => HOK.out) hf4 hbr; clear hr4 hf4)
        go_roundg f
        case measure => omega
        case rel => exact ⟨.ok (j2 + 1), acc2, n + 1, hac2, fun _ => hd, R4, L4, HP2, F4⟩
      | false =>
        have HTK2 : Hid (Calls Tryz.prog 111 #[.pointer (some ⟨br, 0, none⟩), .string ⟨#[44]⟩] w3 fun e w' => e = .returned (.bool false) ∧ RSd K N w' br bl (takeS K (stX r1) [44]) d ∧ Fr (· ≠ br) w3 w') := by
          have := HTK.out
          rw [show (⟨#[44]⟩ : ByteArray).data.toList = [44] from rfl, hb] at this
          exact this
        obtain ⟨ht, hk2⟩ := list_done hb hk
        have HP2 : Hid (stX r = wantS K (stX r1) cl.data.toList ∧ ∀ y j, r = .ok (y, j) → y = acc2) := ok_run hk2
        rw [ht] at HTK2
        clear hb hk ht hk2 HTK
        go_wp2_with (go_at_call 111; refine HTK2.out.mono ?_; rintro e w4 ⟨rfl, hr4, hf4⟩; have R4 : Hid (RSd K N w4 br bl (stX r1) d) := hr4; have F4 : Hid (Fr (· ≠ br) w w4) := F3.out.trans hf4; have L4 : Hid (LTS w4 w.heap.size (.slice (some ⟨g, 0, none⟩) (n + 1) cap) (n + 1) acc2 (OkS (stX r1))) := L3.out.fr id hf4 hbr; clear hr4 hf4)
        refine (gWant_d HK.out HL.out w4 br bl _ d cl hcl hN R4.out).mono ?_
        rintro e w5 ⟨rfl, hr5, hf5⟩
        have R5 : Hid (RSd K N w5 br bl (wantS K (stX r1) cl.data.toList) d) := hr5
        have F5 : Hid (Fr (· ≠ br) w w5) := F4.out.trans hf5
        have L5 : Hid (LTS w5 w.heap.size (.slice (some ⟨g, 0, none⟩) (n + 1) cap) (n + 1) acc2 (OkS (stX r1))) := L4.out.fr id hf5 hbr
        clear hr5 hf5 R4 F4 L4
        go_wp2_with fail
        go_ret
        refine ⟨F5.out, by rw [HP2.out.1]; exact R5.out, _, n + 1, cap, rfl, fun l j e => ?_⟩
        rw [HP2.out.2 l j e]
        exact L5.out.row (by omega) (want_ok (by rw [← HP2.out.1]; exact ok_of e))
end Go.Proofs.YtjbekejcghjhbaaGreatDoor.Sx

namespace Go.Proofs.YtjbekejcghjhbaaGreatDoor.Sx
open Go.RowKit Go.Sort

set_option maxRecDepth 100000 in
set_option maxHeartbeats 2000000 in
theorem glist_none {K : Nat → Tk} {N br bl : Nat} {self : Nat → Nat → Nat → RX PX} (hS : SelfR K N br bl self) (hK : ∀ i, TkOK (K i)) (hL : Last K N) (hN : N ≤ 1000000) (w : World) (d m : Nat) (s : SX) (cl : ByteArray) (hd : OkS s → d ≤ 24) (hm : m ≤ 1000000) (hcl : cl.data.toList ∈ marks) (hc44 : cl.data.toList ≠ [44]) (h : RSd K N w br bl s d)
    (r : Except (Nat × Nat) (List PX × Nat)) (hr : runS s (anyX K cl.data.toList (self 0 d) m) = some r) :
    Calls Tryz.prog 254 #[.pointer (some ⟨br, 0, none⟩), .string cl, .int .i64 0, .bool false] w (PostLT K N w br bl d r) := by
  have HS : Hid (SelfR K N br bl self) := hS
  have HK : Hid (∀ i, TkOK (K i)) := hK
  have HL : Hid (Last K N) := hL
  have HD0 : Hid (OkS s → d ≤ 24) := hd
  have hbr := h.lt
  have hbll := h.row.1
  obtain ⟨i0, hi0, hz0, hz1, hz2⟩ : ∃ i0, Tryz.prog.info? 57 = some i0 ∧ i0.zero = some (.pointer none) ∧ i0.size = 1 ∧ i0.bytes = 8 := by
    have := infoT
    cases hq : Tryz.prog.info? 57 with
    | none => rw [hq] at this; simp at this
    | some j => rw [hq] at this; simp at this; exact ⟨j, rfl, this.1, this.2.1, this.2.2⟩
  have HT0 : Hid (Calls _ _ _ _ _) := gTake_d hK hL w br bl s d cl hcl hN h
  clear hS hK hL h hd
  have mo := follows
  cases hb0 : isS K s cl.data.toList with
  | true =>
    rw [hb0] at HT0
    rcases s with e | i
    · simp [isS] at hb0
    have hb1 : ((K i).tx == cl.data.toList) = true := hb0
    have ht : takeS K (.ok i) cl.data.toList = .ok (i + 1) := by simp only [takeS, hb1]; rfl
    rw [ht] at HT0
    clear HD0
    obtain rfl : .ok ([], i + 1) = r := by simpa [runS, anyX, hb1, okX] using hr
    clear hr hb0 hb1 ht
    go_enter Tryz.func254, Tryz.ntmps254
    go_wp2_with (go_at_call 111; refine HT0.out.mono ?_; rintro e w4 ⟨rfl, hr4, hf4⟩; have R4 : Hid (RSd K N w4 br bl (.ok (i + 1)) d) := hr4; have F4 : Hid (Fr (· ≠ br) w w4) := hf4; clear hr4 hf4)
    go_ret
    exact ⟨F4.out, R4.out, none, 0, 0, rfl, fun l j e => by simp at e; rw [e.1]; exact row_nil _⟩
  | false =>
  rw [hb0] at HT0
  have ht0 : takeS K s cl.data.toList = s := by
    rcases s with e | i
    · rfl
    · have hb1 : ((K i).tx == cl.data.toList) = false := hb0
      simp only [takeS, hb1]; rfl
  rw [ht0] at HT0
  have H0 : Hid (runS s (listX K cl.data.toList (self 0 d) m []) = some r) := by
    rcases s with e | i
    · exact hr
    · have hb1 : ((K i).tx == cl.data.toList) = false := hb0
      show _ = _
      simpa [runS, anyX, hb1] using hr
  clear hr hb0 ht0
  go_enter Tryz.func254, Tryz.ntmps254
  go_wp2_with (go_at_call 111; refine HT0.out.mono ?_; rintro e w0 ⟨rfl, hr4, hf4⟩; have HR : Hid (RSd K N w0 br bl s d) := hr4; have F0 : Hid (Fr (· ≠ br) w w0) := hf4; clear hr4 hf4)
  go_loopg [9] (m) (fun f s9 wr => ∃ (s : SX) (acc : List PX) (n : Nat), n + f ≤ 1000000 ∧ Hid (OkS s → d ≤ 24) ∧ Hid (RSd K N wr br bl s d) ∧ Hid (LTS wr w.heap.size s9 n acc (OkS s)) ∧ Hid (runS s (listX K cl.data.toList (self 0 d) f acc) = some r) ∧ Hid (Fr (· ≠ br) w wr))
  case atStart => exact ⟨s, [], 0, by simpa using hm, HD0, HR, LTS.nil _ _ _, H0, F0⟩
  case round =>
    clear HR H0 F0
    obtain ⟨s1, acc, n, hac, HD1, R1, L1, P1, F1⟩ := hrel
    obtain ⟨a1, cap1, hsl⟩ := L1.out.slice
    subst hsl
    obtain ⟨e3, hfault⟩ := R1.out.err
    rcases s1 with ⟨c, p⟩ | i
    · have hc := hfault c p rfl
      simp only [ec] at e3
      have HQ : Hid (r = .error (c, p)) := by have := P1.out; simp only [runS, Option.some.injEq] at this; exact this.symm
      clear hfault P1
      go_wp2_with fail
      refine (gWant_d HK.out HL.out wr br bl _ d cl hcl hN R1.out).mono ?_
      rintro e w2 ⟨rfl, hr2, hf2⟩
      have R2 : Hid (RSd K N w2 br bl (.error (c, p)) d) := hr2
      have F2 : Hid (Fr (· ≠ br) w w2) := F1.out.trans hf2
      clear hr2 hf2 e3
      go_wp2_with fail
      go_ret
      rw [HQ.out]
      exact ⟨F2.out, R2.out, a1, n, cap1, rfl, fun l j e => by simp at e⟩
    · obtain ⟨f, rfl⟩ : ∃ f, gk = f + 1 := by
        cases gk with
        | zero => exact absurd P1.out (by simp [listX, runS])
        | succ f => exact ⟨f, rfl⟩
      simp only [ec] at e3
      have hp := P1.out
      simp only [listX] at hp
      obtain ⟨r1, h1, hk⟩ := runS_bX noX hp
      have hd := HD1.out ⟨i, rfl⟩
      clear hfault P1 hp
      go_wp2_with fail
      refine (HS.out wr 0 d _ r1 (by omega) (fun _ => hd) R1.out h1).mono ?_
      rintro e w2 ⟨hf2, hr2, bx, rfl, ht2⟩
      have R2 : Hid (RSd K N w2 br bl (stX r1) d) := hr2
      have F2 : Hid (Fr (· ≠ br) w w2) := F1.out.trans hf2
      have T2 : Hid (OkS (stX r1) → TreeT (fun k => wr.heap.size ≤ k) w2 (valX noX r1) (.pointer (some ⟨bx, 0, none⟩))) := fun o => by
        obtain ⟨j, e⟩ := ok_val noX o
        exact ht2 _ _ e
      have hw1 := F1.out.size
      have hw2 := F2.out.size
      have hw3 := hf2.size
      have hsl : ∀ q, (Value.slice a1 n cap1).ownBlock = some q → q < wr.heap.size := by
        obtain ⟨vs, q1, -⟩ := L1.out
        intro q hq
        exact (q1.lt q hq).2
      obtain ⟨vs, ho, hL2⟩ := L1.out.fr (c' := OkS (stX r1)) (fun _ => ⟨i, rfl⟩) hf2 hbr
      have HO : Hid (w2.ownsRow w.heap.size 57 1 (.slice a1 n cap1) n vs) := ho
      have HL2 : Hid (OkS (stX r1) → _) := hL2
      have HSL : Hid (∀ q, (Value.slice a1 n cap1).ownBlock = some q → q < wr.heap.size) := hsl
      have HOA : Hid ((w2.alloc (.cells #[.pointer (some ⟨bx, 0, none⟩)] 57)).ownsRow w.heap.size 57 1 (.slice a1 n cap1) n vs) := ho.alloc _
      clear hr2 hf2 ht2 ho hL2 hsl R1 F1 L1 h1 e3
      go_wp2_with (at_builtin; refine wpList_append_lies _ rfl _ _ 163 rfl _ 57 i0 _ 1 8 Tryz.underlying163 hi0 hz0 hz1 hz2 rfl (by decide) (.slice a1 n cap1) _ vs rfl HOA.out _ 1 1 [.pointer (some ⟨bx, 0, none⟩)] rfl rfl ?q1 ?q2 (by decide) ?q3 ?q4 ?q5 (w2.heap.size + 1) ?q6 ?_)
      case q1 =>
        intro k u hk
        match k, hk with
        | 0, hk => simp at hk; subst hk; simp [Addr.add]
        | k + 1, hk => simp at hk
      case q2 =>
        intro u hu
        simp only [List.mem_cons, List.not_mem_nil, or_false] at hu
        subst hu; rfl
      case q3 => unfold maxLen; omega
      case q4 => omega
      case q5 => simp; omega
      case q6 => simp
      intro g cap w3 ho3 hg3 hat3 hlt3
      obtain ⟨hL3, hF3⟩ := LTS.push (c := OkS (stX r1)) (c' := OkS (stX r1)) id HO.out HL2.out T2.out hw1 HSL.out ho3 hg3 hat3
      have L3 : Hid (LTS w3 w.heap.size (.slice (some ⟨g, 0, none⟩) (n + 1) cap) (n + 1) (acc ++ [valX noX r1]) (OkS (stX r1))) := hL3
      have hsl2 : ∀ k, k < w.heap.size → (Value.slice a1 n cap1).ownBlock ≠ some k := fun k hk e => by have := (HO.out.lt k e).1; omega
      have F3 : Hid (Fr (· ≠ br) w w3) := ⟨hF3.os.trans F2.out.os, hF3.tape.trans F2.out.tape, hF3.output.trans F2.out.output, Nat.le_trans F2.out.size hF3.size, fun k hk hq => (hF3.block k (by omega) (hsl2 k hk)).trans (F2.out.block k hk hq)⟩
      have hbl2 : bl < w.heap.size := hbll
      have R3 : Hid (RSd K N w3 br bl (stX r1) d) := R2.out.fr hF3 (hsl2 br hbr) (hsl2 bl hbl2)
      clear ho3 hg3 hat3 hlt3 hL3 hF3 hsl2 HL2 HO HSL HOA T2 R2 F2
      have hac2 : n + 1 + f ≤ 1000000 := by omega
      generalize acc ++ [valX noX r1] = acc2 at L3 hk
      have HTK : Hid (Calls _ _ _ _ _) := gTake_d HK.out HL.out w3 br bl (stX r1) d ⟨#[44]⟩ (by decide) hN R3.out
      cases hb : isS K (stX r1) [44] with
      | true =>
        have HTK2 : Hid (Calls Tryz.prog 111 #[.pointer (some ⟨br, 0, none⟩), .string ⟨#[44]⟩] w3 fun e w' => e = .returned (.bool true) ∧ RSd K N w' br bl (takeS K (stX r1) [44]) d ∧ Fr (· ≠ br) w3 w') := by
          have := HTK.out
          rw [show (⟨#[44]⟩ : ByteArray).data.toList = [44] from rfl, hb] at this
          exact this
        obtain ⟨j2, ht, ho1, hk2⟩ := list_more hb hc44 hk
        have HOK : Hid (OkS (stX r1)) := ho1
        have HP2 : Hid (listX K cl.data.toList (self 0 d) f acc2 (j2 + 1) = some r) := hk2
        rw [ht] at HTK2
        clear hb hk ht ho1 hk2 HTK
        go_wp2_with (go_at_call 111; refine HTK2.out.mono ?_; rintro e w4 ⟨rfl, hr4, hf4⟩; have R4 : Hid (RSd K N w4 br bl (.ok (j2 + 1)) d) := hr4; have F4 : Hid (Fr (· ≠ br) w w4) := F3.out.trans hf4; have L4 : Hid (LTS w4 w.heap.size (.slice (some ⟨g, 0, none⟩) (n + 1) cap) (n + 1) acc2 (OkS (.ok (j2 + 1)))) := L3.out.fr (fun _ => HOK.out) hf4 hbr; clear hr4 hf4)
        go_roundg f
        case measure => omega
        case rel => exact ⟨.ok (j2 + 1), acc2, n + 1, hac2, fun _ => hd, R4, L4, HP2, F4⟩
      | false =>
        have HTK2 : Hid (Calls Tryz.prog 111 #[.pointer (some ⟨br, 0, none⟩), .string ⟨#[44]⟩] w3 fun e w' => e = .returned (.bool false) ∧ RSd K N w' br bl (takeS K (stX r1) [44]) d ∧ Fr (· ≠ br) w3 w') := by
          have := HTK.out
          rw [show (⟨#[44]⟩ : ByteArray).data.toList = [44] from rfl, hb] at this
          exact this
        obtain ⟨ht, hk2⟩ := list_done hb hk
        have HP2 : Hid (stX r = wantS K (stX r1) cl.data.toList ∧ ∀ y j, r = .ok (y, j) → y = acc2) := ok_run hk2
        rw [ht] at HTK2
        clear hb hk ht hk2 HTK
        go_wp2_with (go_at_call 111; refine HTK2.out.mono ?_; rintro e w4 ⟨rfl, hr4, hf4⟩; have R4 : Hid (RSd K N w4 br bl (stX r1) d) := hr4; have F4 : Hid (Fr (· ≠ br) w w4) := F3.out.trans hf4; have L4 : Hid (LTS w4 w.heap.size (.slice (some ⟨g, 0, none⟩) (n + 1) cap) (n + 1) acc2 (OkS (stX r1))) := L3.out.fr id hf4 hbr; clear hr4 hf4)
        refine (gWant_d HK.out HL.out w4 br bl _ d cl hcl hN R4.out).mono ?_
        rintro e w5 ⟨rfl, hr5, hf5⟩
        have R5 : Hid (RSd K N w5 br bl (wantS K (stX r1) cl.data.toList) d) := hr5
        have F5 : Hid (Fr (· ≠ br) w w5) := F4.out.trans hf5
        have L5 : Hid (LTS w5 w.heap.size (.slice (some ⟨g, 0, none⟩) (n + 1) cap) (n + 1) acc2 (OkS (stX r1))) := L4.out.fr id hf5 hbr
        clear hr5 hf5 R4 F4 L4
        go_wp2_with fail
        go_ret
        refine ⟨F5.out, by rw [HP2.out.1]; exact R5.out, _, n + 1, cap, rfl, fun l j e => ?_⟩
        rw [HP2.out.2 l j e]
        exact L5.out.row (by omega) (want_ok (by rw [← HP2.out.1]; exact ok_of e))
end Go.Proofs.YtjbekejcghjhbaaGreatDoor.Sx

namespace Go.Proofs.YtjbekejcghjhbaaGreatDoor.Sx
open Go.RowKit Go.Sort

def flatP (l : List (PX × PX)) : List PX := l.flatMap fun p => [p.1, p.2]
theorem LTS.congr {w : World} {lo n : Nat} {sl : Value} {es es' : List PX} {c : Prop} (h : LTS w lo sl n es c) (e : c → es = es') : LTS w lo sl n es' c := by
  obtain ⟨vs, h1, h2⟩ := h
  exact ⟨vs, h1, fun q => by rw [← e q]; exact h2 q⟩
/-- what a call ends in that reads a list of pairs -/
def PostLT2 (K : Nat → Tk) (N : Nat) (w : World) (br bl d : Nat) (r : Except (Nat × Nat) (List (PX × PX) × Nat)) (e : Ending) (w' : World) : Prop :=
  Fr (· ≠ br) w w' ∧ RSd K N w' br bl (stX r) d ∧ ∃ a len cap, e = .returned (.slice a len cap) ∧ ∀ l j, r = .ok (l, j) → RowP (fun k => w.heap.size ≤ k) w' (TreeT (fun k => w.heap.size ≤ k) w') a len (flatP l)

set_option maxRecDepth 100000 in
set_option maxHeartbeats 2000000 in
theorem glist_two {K : Nat → Tk} {N br bl : Nat} {self : Nat → Nat → Nat → RX PX} (hS : SelfR K N br bl self) (hK : ∀ i, TkOK (K i)) (hL : Last K N) (hN : N ≤ 1000000) (w : World) (d m : Nat) (s : SX) (cl : ByteArray) (hd : OkS s → d ≤ 24) (hm : m ≤ 1000000) (hcl : cl.data.toList ∈ marks) (hc44 : cl.data.toList ≠ [44]) (h : RSd K N w br bl s d)
    (r : Except (Nat × Nat) (List (PX × PX) × Nat)) (hr : runS s (listX K cl.data.toList (pairX K self d) m []) = some r) :
    Calls Tryz.prog 254 #[.pointer (some ⟨br, 0, none⟩), .string cl, .int .i64 1, .bool true] w (PostLT2 K N w br bl d r) := by
  have HS : Hid (SelfR K N br bl self) := hS
  have HK : Hid (∀ i, TkOK (K i)) := hK
  have HL : Hid (Last K N) := hL
  have HR : Hid (RSd K N w br bl s d) := h
  have H0 : Hid (runS s (listX K cl.data.toList (pairX K self d) m []) = some r) := hr
  have HD0 : Hid (OkS s → d ≤ 24) := hd
  have hbr := h.lt
  have hbll := h.row.1
  obtain ⟨i0, hi0, hz0, hz1, hz2⟩ : ∃ i0, Tryz.prog.info? 57 = some i0 ∧ i0.zero = some (.pointer none) ∧ i0.size = 1 ∧ i0.bytes = 8 := by
    have := infoT
    cases hq : Tryz.prog.info? 57 with
    | none => rw [hq] at this; simp at this
    | some j => rw [hq] at this; simp at this; exact ⟨j, rfl, this.1, this.2.1, this.2.2⟩
  clear hS hK hL h hr hd
  have mo := follows
  go_enter Tryz.func254, Tryz.ntmps254
  go_wp2_with fail
  go_loopg [9] (m) (fun f s9 wr => ∃ (s : SX) (acc : List (PX × PX)) (n : Nat), n + 2 * f ≤ 2000000 ∧ Hid (OkS s → d ≤ 24) ∧ Hid (RSd K N wr br bl s d) ∧ Hid (LTS wr w.heap.size s9 n (flatP acc) (OkS s)) ∧ Hid (runS s (listX K cl.data.toList (pairX K self d) f acc) = some r) ∧ Hid (Fr (· ≠ br) w wr))
  case atStart => exact ⟨s, [], 0, by omega, HD0, HR, LTS.nil _ _ _, H0, Fr.refl _ _⟩
  case round =>
    clear HR H0
    obtain ⟨s1, acc, n, hac, HD1, R1, L1, P1, F1⟩ := hrel
    obtain ⟨a1, cap1, hsl⟩ := L1.out.slice
    subst hsl
    obtain ⟨e3, hfault⟩ := R1.out.err
    rcases s1 with ⟨c, p⟩ | i
    · have hc := hfault c p rfl
      simp only [ec] at e3
      have HQ : Hid (r = .error (c, p)) := by have := P1.out; simp only [runS, Option.some.injEq] at this; exact this.symm
      clear hfault P1
      go_wp2_with fail
      refine (gWant_d HK.out HL.out wr br bl _ d cl hcl hN R1.out).mono ?_
      rintro e w2 ⟨rfl, hr2, hf2⟩
      have R2 : Hid (RSd K N w2 br bl (.error (c, p)) d) := hr2
      have F2 : Hid (Fr (· ≠ br) w w2) := F1.out.trans hf2
      clear hr2 hf2 e3
      go_wp2_with fail
      go_ret
      rw [HQ.out]
      exact ⟨F2.out, R2.out, a1, n, cap1, rfl, fun l j e => by simp at e⟩
    · obtain ⟨f, rfl⟩ : ∃ f, gk = f + 1 := by
        cases gk with
        | zero => exact absurd P1.out (by simp [listX, runS])
        | succ f => exact ⟨f, rfl⟩
      simp only [ec] at e3
      have hp := P1.out
      simp only [listX] at hp
      obtain ⟨rp, hpr, hk⟩ := runS_bX (noX, noX) hp
      obtain ⟨r1, h1, hpr⟩ := runS_bX noX hpr
      have hd := HD1.out ⟨i, rfl⟩
      have hpr := want_run hpr
      obtain ⟨r2, h2, hpr⟩ := runS_bX noX hpr
      obtain ⟨hst, hvl⟩ := ok_run hpr
      have HVL : Hid (OkS (stX r2) → valX (noX, noX) rp = (valX noX r1, valX noX r2)) := fun o => by
        rw [← hst] at o
        obtain ⟨j, e⟩ := ok_val (noX, noX) o
        exact hvl _ _ e
      rw [hst] at hk
      have HO2 : Hid (OkS (stX r2) → OkS (stX r1)) := fun o => want_ok (runS_okS h2 o)
      have H2 : Hid (runS (wantS K (stX r1) [58]) (self 0 d) = some r2) := h2
      clear hfault P1 hp hpr hst hvl h2
      go_wp2_with fail
      refine (HS.out wr 0 d _ r1 (by omega) (fun _ => hd) R1.out h1).mono ?_
      rintro e w2 ⟨hf2, hr2, bx, rfl, ht2⟩
      have R2 : Hid (RSd K N w2 br bl (stX r1) d) := hr2
      have F2 : Hid (Fr (· ≠ br) w w2) := F1.out.trans hf2
      have T2 : Hid (OkS (stX r1) → TreeT (fun k => wr.heap.size ≤ k) w2 (valX noX r1) (.pointer (some ⟨bx, 0, none⟩))) := fun o => by
        obtain ⟨j, e⟩ := ok_val noX o
        exact ht2 _ _ e
      have hw1 := F1.out.size
      have hw2 := F2.out.size
      have hw3 := hf2.size
      have hslw3 : ∀ q, (Value.slice a1 n cap1).ownBlock = some q → q < wr.heap.size := by
        obtain ⟨vs, q1, -⟩ := L1.out
        intro q hq
        exact (q1.lt q hq).2
      obtain ⟨vsw3, how3, hLw3⟩ := L1.out.fr (c' := OkS (stX r1)) (fun _ => ⟨i, rfl⟩) hf2 hbr
      have HOw3 : Hid (w2.ownsRow w.heap.size 57 1 (.slice a1 n cap1) n vsw3) := how3
      have HLw3 : Hid (OkS (stX r1) → _) := hLw3
      have HSLw3 : Hid (∀ q, ((.slice a1 n cap1) : Value).ownBlock = some q → q < wr.heap.size) := hslw3
      have HOAw3 : Hid ((w2.alloc (.cells #[.pointer (some ⟨bx, 0, none⟩)] 57)).ownsRow w.heap.size 57 1 (.slice a1 n cap1) n vsw3) := how3.alloc _
      clear hr2 hf2 ht2 R1 F1 L1 h1 e3 how3 hLw3 hslw3
      go_wp2_with (at_builtin; refine wpList_append_lies _ rfl _ _ 163 rfl _ 57 i0 _ 1 8 Tryz.underlying163 hi0 hz0 hz1 hz2 rfl (by decide) (.slice a1 n cap1) _ vsw3 rfl HOAw3.out _ 1 1 [.pointer (some ⟨bx, 0, none⟩)] rfl rfl ?q1 ?q2 (by decide) ?q3 ?q4 ?q5 (w2.heap.size + 1) ?q6 ?_)
      case q1 =>
        intro k u hk
        match k, hk with
        | 0, hk => simp at hk; subst hk; simp [Addr.add]
        | k + 1, hk => simp at hk
      case q2 =>
        intro u hu
        simp only [List.mem_cons, List.not_mem_nil, or_false] at hu
        subst hu; rfl
      case q3 => unfold maxLen; omega
      case q4 => omega
      case q5 => simp; omega
      case q6 => simp
      intro gw3 capw3 w3 ho3 hg3 hat3 hlt3
      obtain ⟨hL3, hF3⟩ := LTS.push (c := OkS (stX r1)) (c' := OkS (stX r1)) id HOw3.out HLw3.out T2.out (by omega) HSLw3.out ho3 hg3 hat3
      have Lw3 : Hid (LTS w3 w.heap.size (.slice (some ⟨gw3, 0, none⟩) (n + 1) capw3) (n + 1) (flatP acc ++ [valX noX r1]) (OkS (stX r1))) := hL3
      have hsl2 : ∀ k, k < w.heap.size → ((.slice a1 n cap1) : Value).ownBlock ≠ some k := fun k hk e => by have := (HOw3.out.lt k e).1; omega
      have Fw3 : Hid (Fr (· ≠ br) w w3) := ⟨hF3.os.trans F2.out.os, hF3.tape.trans F2.out.tape, hF3.output.trans F2.out.output, Nat.le_trans F2.out.size hF3.size, fun k hk hq => (hF3.block k (by omega) (hsl2 k hk)).trans (F2.out.block k hk hq)⟩
      have Rw3 : Hid (RSd K N w3 br bl _ d) := R2.out.fr hF3 (hsl2 br hbr) (hsl2 bl hbll)
      have hzw3 := Fw3.out.size
      clear ho3 hg3 hat3 hlt3 hL3 hF3 hsl2 HLw3 HOw3 HSLw3 HOAw3 T2 R2 F2
      go_wp2_with fail
      refine (gWant_d HK.out HL.out w3 br bl _ d ⟨#[58]⟩ (by decide) hN Rw3.out).mono ?_
      rintro e w4 ⟨rfl, hr4, hf4⟩
      have R4 : Hid (RSd K N w4 br bl (wantS K (stX r1) [58]) d) := hr4
      have F4 : Hid (Fr (· ≠ br) w w4) := Fw3.out.trans hf4
      have L4 : Hid (LTS w4 w.heap.size (.slice (some ⟨gw3, 0, none⟩) (n + 1) capw3) (n + 1) (flatP acc ++ [valX noX r1]) (OkS (stX r1))) := Lw3.out.fr id hf4 hbr
      clear hr4 hf4 Rw3 Fw3 Lw3
      go_wp2_with fail
      refine (HS.out w4 0 d _ r2 (by omega) (fun _ => hd) R4.out H2.out).mono ?_
      rintro e w5 ⟨hf5, hr5, by', rfl, ht5⟩
      have R5 : Hid (RSd K N w5 br bl (stX r2) d) := hr5
      have F5 : Hid (Fr (· ≠ br) w w5) := F4.out.trans hf5
      have T5 : Hid (OkS (stX r2) → TreeT (fun k => w4.heap.size ≤ k) w5 (valX noX r2) (.pointer (some ⟨by', 0, none⟩))) := fun o => by
        obtain ⟨j, e⟩ := ok_val noX o
        exact ht5 _ _ e
      have hw4 := F4.out.size
      have hw5 := F5.out.size
      have hslw6 : ∀ q, (Value.slice (some ⟨gw3, 0, none⟩) (n + 1) capw3).ownBlock = some q → q < w4.heap.size := by
        obtain ⟨vs, q1, -⟩ := L4.out
        intro q hq
        exact (q1.lt q hq).2
      obtain ⟨vsw6, how6, hLw6⟩ := L4.out.fr (c' := OkS (stX r2)) HO2.out hf5 hbr
      have HOw6 : Hid (w5.ownsRow w.heap.size 57 1 (.slice (some ⟨gw3, 0, none⟩) (n + 1) capw3) (n + 1) vsw6) := how6
      have HLw6 : Hid (OkS (stX r2) → _) := hLw6
      have HSLw6 : Hid (∀ q, ((.slice (some ⟨gw3, 0, none⟩) (n + 1) capw3) : Value).ownBlock = some q → q < w4.heap.size) := hslw6
      have HOAw6 : Hid ((w5.alloc (.cells #[.pointer (some ⟨by', 0, none⟩)] 57)).ownsRow w.heap.size 57 1 (.slice (some ⟨gw3, 0, none⟩) (n + 1) capw3) (n + 1) vsw6) := how6.alloc _
      clear hr5 hf5 ht5 R4 F4 L4 how6 hLw6 hslw6
      go_wp2_with (at_builtin; refine wpList_append_lies _ rfl _ _ 163 rfl _ 57 i0 _ 1 8 Tryz.underlying163 hi0 hz0 hz1 hz2 rfl (by decide) (.slice (some ⟨gw3, 0, none⟩) (n + 1) capw3) _ vsw6 rfl HOAw6.out _ 1 1 [.pointer (some ⟨by', 0, none⟩)] rfl rfl ?q1 ?q2 (by decide) ?q3 ?q4 ?q5 (w5.heap.size + 1) ?q6 ?_)
      case q1 =>
        intro k u hk
        match k, hk with
        | 0, hk => simp at hk; subst hk; simp [Addr.add]
        | k + 1, hk => simp at hk
      case q2 =>
        intro u hu
        simp only [List.mem_cons, List.not_mem_nil, or_false] at hu
        subst hu; rfl
      case q3 => unfold maxLen; omega
      case q4 => omega
      case q5 => simp; omega
      case q6 => simp
      intro gw6 capw6 w6 ho3 hg3 hat3 hlt3
      obtain ⟨hL3, hF3⟩ := LTS.push (c := OkS (stX r2)) (c' := OkS (stX r2)) id HOw6.out HLw6.out T5.out (by omega) HSLw6.out ho3 hg3 hat3
      have Lw6 : Hid (LTS w6 w.heap.size (.slice (some ⟨gw6, 0, none⟩) ((n + 1) + 1) capw6) ((n + 1) + 1) ((flatP acc ++ [valX noX r1]) ++ [valX noX r2]) (OkS (stX r2))) := hL3
      have hsl2 : ∀ k, k < w.heap.size → ((.slice (some ⟨gw3, 0, none⟩) (n + 1) capw3) : Value).ownBlock ≠ some k := fun k hk e => by have := (HOw6.out.lt k e).1; omega
      have Fw6 : Hid (Fr (· ≠ br) w w6) := ⟨hF3.os.trans F5.out.os, hF3.tape.trans F5.out.tape, hF3.output.trans F5.out.output, Nat.le_trans F5.out.size hF3.size, fun k hk hq => (hF3.block k (by omega) (hsl2 k hk)).trans (F5.out.block k hk hq)⟩
      have Rw6 : Hid (RSd K N w6 br bl _ d) := R5.out.fr hF3 (hsl2 br hbr) (hsl2 bl hbll)
      have hzw6 := Fw6.out.size
      clear ho3 hg3 hat3 hlt3 hL3 hF3 hsl2 HLw6 HOw6 HSLw6 HOAw6 T5 R5 F5
      have L7 : Hid (LTS w6 w.heap.size (.slice (some ⟨gw6, 0, none⟩) (n + 1 + 1) capw6) (n + 1 + 1) (flatP (acc ++ [valX (noX, noX) rp])) (OkS (stX r2))) := Lw6.out.congr fun o => by rw [HVL.out o]; simp [flatP]
      clear Lw6 HVL HO2 H2
      have hac2 : n + 1 + 1 + 2 * f ≤ 2000000 := by omega
      generalize acc ++ [valX (noX, noX) rp] = acc2 at L7 hk
      have HTK : Hid (Calls _ _ _ _ _) := gTake_d HK.out HL.out w6 br bl (stX r2) d ⟨#[44]⟩ (by decide) hN Rw6.out
      cases hb : isS K (stX r2) [44] with
      | true =>
        have HTK2 : Hid (Calls Tryz.prog 111 #[.pointer (some ⟨br, 0, none⟩), .string ⟨#[44]⟩] w6 fun e w' => e = .returned (.bool true) ∧ RSd K N w' br bl (takeS K (stX r2) [44]) d ∧ Fr (· ≠ br) w6 w') := by
          have := HTK.out
          rw [show (⟨#[44]⟩ : ByteArray).data.toList = [44] from rfl, hb] at this
          exact this
        obtain ⟨j2, ht, ho1, hk2⟩ := list_more hb hc44 hk
        have HOK : Hid (OkS (stX r2)) := ho1
        have HP2 : Hid (listX K cl.data.toList (pairX K self d) f acc2 (j2 + 1) = some r) := hk2
        rw [ht] at HTK2
        clear hb hk ht ho1 hk2 HTK
        go_wp2_with (go_at_call 111; refine HTK2.out.mono ?_; rintro e w4 ⟨rfl, hr4, hf4⟩; have R4 : Hid (RSd K N w4 br bl (.ok (j2 + 1)) d) := hr4; have F4 : Hid (Fr (· ≠ br) w w4) := Fw6.out.trans hf4; have L4 : Hid (LTS w4 w.heap.size (.slice (some ⟨gw6, 0, none⟩) (n + 1 + 1) capw6) (n + 1 + 1) (flatP acc2) (OkS (.ok (j2 + 1)))) := L7.out.fr (fun _ => HOK.out) hf4 hbr; clear hr4 hf4)
        go_roundg f
        case measure => omega
        case rel => exact ⟨.ok (j2 + 1), acc2, n + 1 + 1, hac2, fun _ => hd, R4, L4, HP2, F4⟩
      | false =>
        have HTK2 : Hid (Calls Tryz.prog 111 #[.pointer (some ⟨br, 0, none⟩), .string ⟨#[44]⟩] w6 fun e w' => e = .returned (.bool false) ∧ RSd K N w' br bl (takeS K (stX r2) [44]) d ∧ Fr (· ≠ br) w6 w') := by
          have := HTK.out
          rw [show (⟨#[44]⟩ : ByteArray).data.toList = [44] from rfl, hb] at this
          exact this
        obtain ⟨ht, hk2⟩ := list_done hb hk
        have HP2 : Hid (stX r = wantS K (stX r2) cl.data.toList ∧ ∀ y j, r = .ok (y, j) → y = acc2) := ok_run hk2
        rw [ht] at HTK2
        clear hb hk ht hk2 HTK
        go_wp2_with (go_at_call 111; refine HTK2.out.mono ?_; rintro e w4 ⟨rfl, hr4, hf4⟩; have R4 : Hid (RSd K N w4 br bl (stX r2) d) := hr4; have F4 : Hid (Fr (· ≠ br) w w4) := Fw6.out.trans hf4; have L4 : Hid (LTS w4 w.heap.size (.slice (some ⟨gw6, 0, none⟩) (n + 1 + 1) capw6) (n + 1 + 1) (flatP acc2) (OkS (stX r2))) := L7.out.fr id hf4 hbr; clear hr4 hf4)
        refine (gWant_d HK.out HL.out w4 br bl _ d cl hcl hN R4.out).mono ?_
        rintro e w5 ⟨rfl, hr5, hf5⟩
        have R5 : Hid (RSd K N w5 br bl (wantS K (stX r2) cl.data.toList) d) := hr5
        have F5 : Hid (Fr (· ≠ br) w w5) := F4.out.trans hf5
        have L5 : Hid (LTS w5 w.heap.size (.slice (some ⟨gw6, 0, none⟩) (n + 1 + 1) capw6) (n + 1 + 1) (flatP acc2) (OkS (stX r2))) := L4.out.fr id hf5 hbr
        clear hr5 hf5 R4 F4 L4
        go_wp2_with fail
        go_ret
        refine ⟨F5.out, by rw [HP2.out.1]; exact R5.out, _, n + 1 + 1, capw6, rfl, fun l j e => ?_⟩
        rw [HP2.out.2 l j e]
        exact L5.out.row (by omega) (want_ok (by rw [← HP2.out.1]; exact ok_of e))
end Go.Proofs.YtjbekejcghjhbaaGreatDoor.Sx

namespace Go.Proofs.YtjbekejcghjhbaaGreatDoor.Sx
open Go.RowKit Go.Sort

theorem gin_d {K : Nat → Tk} {N : Nat} (hN : N ≤ 1000000) (w : World) (br bl i d : Nat) (hd : d ≤ 24) (hi : i < N) (h : RSd K N w br bl (.ok i) d) :
    Calls Tryz.prog 109 #[.pointer (some ⟨br, 0, none⟩)] w fun e w' => e = .returned (.tuple #[]) ∧ RSd K N w' br bl (inS K i d) (d + 1) ∧ Fr (· ≠ br) w w' := by
  obtain ⟨dd, h, e⟩ := h
  obtain rfl := e ⟨i, rfl⟩
  refine (gin_any hN w br bl i d hd hi h).mono ?_
  rintro e' w' ⟨rfl, h1, h2⟩
  exact ⟨rfl, ⟨_, h1, fun _ => rfl⟩, h2⟩
theorem gout_d {K : Nat → Tk} {N : Nat} (w : World) (br bl : Nat) (s : SX) (d : Nat) (hd : d ≤ 24) (h : RSd K N w br bl s (d + 1)) :
    Calls Tryz.prog 110 #[.pointer (some ⟨br, 0, none⟩)] w fun e w' => e = .returned (.tuple #[]) ∧ RSd K N w' br bl s d ∧ Fr (· ≠ br) w w' := by
  obtain ⟨dd, h, e⟩ := h
  refine (gout_any w br bl s dd h).mono ?_
  rintro e' w' ⟨rfl, h1, h2⟩
  exact ⟨rfl, ⟨_, h1, fun o => by rw [e o]; unfold wrap64; omega⟩, h2⟩
/-- a fresh node -/
theorem XBlk.new (w : World) (op tx nm : ByteArray) (a k n : Int) : XBlk (w.alloc (.cells #[.string op, .int .i64 a, .string nm, .int .i64 k, .int .i64 n, .string tx, .slice none 0 0, .slice none 0 0, .slice none 0 0, .int .i64 0, .int .i64 0] 165)) w.heap.size op a nm k n tx none 0 0 := heap_new rfl
/-- the token that a reading stands at, taken out: facts for the walk -/
theorem RSd.open {K : Nat → Tk} {N br bl i d : Nat} {w : World} (h : RSd K N w br bl (.ok i) d) : ∃ (cap : Nat) (bad dd : Int), RBlk w br bl N cap i dd 0 bad ∧ i ≤ N ∧ bl ≠ br ∧ bl < w.heap.size ∧ w.cell? ⟨bl, i * 3, none⟩ = some (.int .u8 (sortB (K i).cl : Int)) ∧ w.cell? ⟨bl, i * 3 + 1, none⟩ = some (.string (tokB (K i))) ∧ w.cell? ⟨bl, i * 3 + 2, none⟩ = some (.int .i64 ((K i).at' : Int)) := by
  obtain ⟨dd, h, -⟩ := h
  obtain ⟨cap, I, bad, hb, hI, hne, hbl, t0, t1, t2, hs⟩ := h.open
  obtain rfl := hs i rfl
  exact ⟨cap, bad, dd, hb, hI, hne, hbl, t0, t1, t2⟩
theorem gNext_d {K : Nat → Tk} {N : Nat} (hK : ∀ i, TkOK (K i)) (w : World) (br bl : Nat) (s : SX) (d : Nat) (m : ByteArray) (hm : m.data.toList ∈ marks) (h : RSd K N w br bl s d) (q : Bool) (hq : isS K s m.data.toList = q) :
    Calls Tryz.prog 155 #[.pointer (some ⟨br, 0, none⟩), .string m] w fun e w' => e = .returned (.bool q) ∧ Grew w w' := by
  obtain ⟨dd, h, -⟩ := h
  rw [← hq]
  exact gNext_any hK w br bl s dd m hm h
theorem among_d {K : Nat → Tk} {N : Nat} (hK : ∀ i, TkOK (K i)) (w : World) (br bl : Nat) (s : SX) (d : Nat) (vs : Array Value) (ms : List ByteArray) (n : Nat) (q : Bool) (hvs : vs = (ms.map Value.string).toArray) (hms : ∀ m ∈ ms, m.data.toList ∈ marks) (hn : n = ms.length) (hn9 : n ≤ 1000) (hq : (ms.any fun m => isS K s m.data.toList) = q) (h : RSd K N w br bl s d) :
    Calls Tryz.prog 108 #[.pointer (some ⟨br, 0, none⟩), .slice (some ⟨w.heap.size, 0, none⟩) n n] (w.alloc (.cells vs 9)) fun e w' => e = .returned (.bool q) ∧ Grew w w' := by
  obtain ⟨dd, h, -⟩ := h
  exact among_call hK w br bl s dd vs ms n q hvs hms hn hn9 hq h
def fourB : List ByteArray := [⟨#[97, 108, 108]⟩, ⟨#[115, 111, 109, 101]⟩, ⟨#[99, 104, 111, 111, 115, 101]⟩, ⟨#[102, 117, 110]⟩]

theorem in_run {K : Nat → Tk} {γ : Type} {i d : Nat} {k : Nat → RX γ} {r : Except (Nat × Nat) (γ × Nat)} (h : enterX K d i k = some r) : runS (inS K i d) k = some r := by
  unfold enterX at h
  unfold inS
  split at h
  · rename_i e
    rw [if_pos e]
    simpa [errX, runS] using h
  · rename_i e
    rw [if_neg e]
    exact h
theorem in_ok {K : Nat → Tk} {i d : Nat} (hd : d ≤ 24) (h : OkS (inS K i d)) : d + 1 ≤ 24 := by
  unfold inS at h
  split at h
  · obtain ⟨j, hj⟩ := h; simp at hj
  · omega
theorem tok_mark {K : Nat → Tk} (hK : ∀ i, TkOK (K i)) {i : Nat} {m : List UInt8} (hm : m ∈ marks) (h : (K i).tx = m) : (tokB (K i)).data.toList = m := by
  have := mark_cl (hK i) hm h
  rw [tokB_list _ (by omega), h]
theorem PostT.from {K : Nat → Tk} {N : Nat} {w w1 : World} {br bl d : Nat} {r : Except (Nat × Nat) (PX × Nat)} {e : Ending} {w' : World} (F : Fr (· ≠ br) w w1) (h : PostT K N w1 br bl d r e w') : PostT K N w br bl d r e w' := by
  obtain ⟨h1, h2, b, h3, h4⟩ := h
  have := F.size
  exact ⟨F.trans h1, h2, b, h3, fun x j q => (h4 x j q).fr (Fr.refl _ _) fun _ _ q => by omega⟩
theorem Fr.freshT {br be : Nat} {w w2 w3 : World} (F : Fr (· ≠ br) w w2) (hf : Fr (fun k => k ≠ br ∧ k ≠ be) w2 w3) (h : w.heap.size ≤ be) : Fr (· ≠ br) w w3 :=
  ⟨hf.os.trans F.os, hf.tape.trans F.tape, hf.output.trans F.output, Nat.le_trans F.size hf.size, fun k hk hq => (hf.block k (Nat.lt_of_lt_of_le hk F.size) ⟨hq, by omega⟩).trans (F.block k hk hq)⟩
/-- which word an expression begins with -/
theorem opens_cls (l : List UInt8) : opens0.contains l = false ∧ (l == wIf) = false ∧ (l == wLet) = false ∧ (fourB.any fun m => l == m.data.toList) = false ∨ l = wIf ∨ l = wLet ∨ l ∈ binds3 ∨ l = oFun := by
  cases h : opens0.contains l with
  | false =>
    refine .inl ⟨rfl, ?_⟩
    simp only [opens0, List.contains_eq_mem, List.mem_cons, List.not_mem_nil, or_false, decide_eq_false_iff_not, not_or] at h
    obtain ⟨h1, h2, h3, h4, h5, h6⟩ := h
    refine ⟨by simpa [wIf] using h1, by simpa [wLet] using h2, ?_⟩
    simp only [fourB, List.any_cons, List.any_nil, Bool.or_false]
    simp [h3, h4, h5, h6]
  | true =>
    simp only [opens0, List.contains_eq_mem, List.mem_cons, List.not_mem_nil, or_false, decide_eq_true_eq] at h
    rcases h with h | h | h | h | h | h
    · exact .inr (.inl h)
    · exact .inr (.inr (.inl h))
    · exact .inr (.inr (.inr (.inl (by rw [h]; decide))))
    · exact .inr (.inr (.inr (.inl (by rw [h]; decide))))
    · exact .inr (.inr (.inr (.inl (by rw [h]; decide))))
    · exact .inr (.inr (.inr (.inr h)))
theorem binding_if {K : Nat → Tk} {self : Nat → Nat → Nat → RX PX} {d i : Nat} {r : Except (Nat × Nat) (PX × Nat)} (e : (K i).tx = wIf) (h : bindingX K self d i = some r) : runS (inS K i d) (choiceX K self (d + 1)) = some r := by
  have := in_run h
  simpa [e, wIf] using this
theorem binding_let {K : Nat → Tk} {self : Nat → Nat → Nat → RX PX} {d i : Nat} {r : Except (Nat × Nat) (PX × Nat)} (e : (K i).tx = wLet) (h : bindingX K self d i = some r) : runS (inS K i d) (genX K self [61] 0 (d + 1) dLet) = some r := by
  have := in_run h
  simp [e, wIf, wLet] at this
  exact this
theorem binding_bind {K : Nat → Tk} {self : Nat → Nat → Nat → RX PX} {d i : Nat} {r : Except (Nat × Nat) (PX × Nat)} (e1 : ((K i).tx == wIf) = false) (e2 : ((K i).tx == wLet) = false) (h : bindingX K self d i = some r) : runS (inS K i d) (genX K self [105, 110] 8 (d + 1) (dBind (K i).tx)) = some r := by
  have := in_run h
  simp only [e1, e2, Bool.false_eq_true, if_false] at this
  exact this

set_option maxRecDepth 100000 in
set_option maxHeartbeats 2000000 in
theorem gexpr_any {K : Nat → Tk} {N br bl : Nat} {self : Nat → Nat → Nat → RX PX} (hS : SelfR K N br bl self) (hK : ∀ i, TkOK (K i)) (hL : Last K N) (hN : N ≤ 1000000) (w : World) (d m i : Nat) (hd : d ≤ 24) (h : RSd K N w br bl (.ok i) d)
    (r : Except (Nat × Nat) (PX × Nat)) (hr : fallX K self m 0 d i = some r)
    (hP1 : ∀ W, RSd K N W br bl (.ok i) d → descX K self m d 11 i = some r → Calls Tryz.prog 58 #[.pointer (some ⟨br, 0, none⟩), .int .i64 1] W (PostT K N W br bl d r)) :
    Calls Tryz.prog 107 #[.pointer (some ⟨br, 0, none⟩)] w (PostT K N w br bl d r) := by
  have HS : Hid (SelfR K N br bl self) := hS
  have HK : Hid (∀ i, TkOK (K i)) := hK
  have HL : Hid (Last K N) := hL
  have HR : Hid (RSd K N w br bl (.ok i) d) := h
  have HP1 : Hid (∀ W, RSd K N W br bl (.ok i) d → _) := hP1
  obtain ⟨cap, bad, dd, hb, hI, hne, hbl, t0, t1, t2⟩ := h.open
  obtain ⟨hdr, u0, u1, u2⟩ := RS.cells hb hbl t0 t1 t2
  have c0 := block_cell hb 0
  have c1 := block_cell hb 1
  have k0 := block_cell hdr 0
  have k1 := block_cell hdr 1
  have hbr := block_lt hb
  have hI1 : (i : Int) < ((N + 1 : Nat) : Int) := by omega
  have mo := follows
  obtain ⟨sb, hsb⟩ : ∃ sb, sortB (K i).cl = sb := ⟨_, rfl⟩
  obtain ⟨tx, htx⟩ : ∃ tx, tokB (K i) = tx := ⟨_, rfl⟩
  obtain ⟨aa, haa⟩ : ∃ aa, (K i).at' = aa := ⟨_, rfl⟩
  have HTX : Hid (tokB (K i) = tx) := htx
  rw [hsb] at t0 u0
  rw [htx] at t1 u1
  rw [haa] at t2 u2
  clear hb hdr h hS hK hL hP1 hsb htx haa
  go_enter Tryz.func107, Tryz.ntmps107
  go_wp2_with fail
  go_big_region_o
  have T1 : Hid (TBlk _ w.heap.size sb tx (aa : Int)) := TBlk.new w sb tx (aa : Int)
  have G1 : Hid (Grew w (w.alloc (.cells #[.int .u8 (sb : Int), .string tx, .int .i64 (aa : Int)] 106)).drew) := ((Grew.refl w).alloc _).drew
  clear c0 c1 k0 k1 u0 u1 u2 t0 t1 t2 hI1
  generalize (w.alloc (.cells #[.int .u8 (sb : Int), .string tx, .int .i64 (aa : Int)] 106)).drew = W1 at G1 T1 ⊢
  obtain ⟨bt, hbt⟩ : ∃ bt, w.heap.size = bt := ⟨_, rfl⟩
  rw [hbt] at T1 hbr ⊢
  have hwt : w.heap.size ≤ bt := by omega
  have htw : bt ≤ w.heap.size := by omega
  clear hbt
  have q1 := block_cell T1.out 1
  have q2 := block_cell T1.out 2
  go_wp2_with fail
  have E2 : Hid (XBlk (W1.alloc (.cells #[.string tx, .int .i64 (aa : Int), .string ⟨#[]⟩, .int .i64 0, .int .i64 0, .string ⟨#[]⟩, .slice none 0 0, .slice none 0 0, .slice none 0 0, .int .i64 0, .int .i64 0] 165)) W1.heap.size tx (aa : Int) ⟨#[]⟩ 0 0 ⟨#[]⟩ none 0 0) := XBlk.new W1 tx ⟨#[]⟩ ⟨#[]⟩ (aa : Int) 0 0
  have G2 : Hid (Grew w (W1.alloc (.cells #[.string tx, .int .i64 (aa : Int), .string ⟨#[]⟩, .int .i64 0, .int .i64 0, .string ⟨#[]⟩, .slice none 0 0, .slice none 0 0, .slice none 0 0, .int .i64 0, .int .i64 0] 165))) := G1.out.alloc _
  have T2 : Hid (TBlk (W1.alloc (.cells #[.string tx, .int .i64 (aa : Int), .string ⟨#[]⟩, .int .i64 0, .int .i64 0, .string ⟨#[]⟩, .slice none 0 0, .slice none 0 0, .slice none 0 0, .int .i64 0, .int .i64 0] 165)) bt sb tx (aa : Int)) := T1.out.grew ((Grew.refl _).alloc _)
  have hbtl : bt < W1.heap.size := block_lt T1.out
  have hwW : w.heap.size ≤ W1.heap.size := G1.out.below.size
  clear q1 q2 T1 G1
  generalize (W1.alloc (.cells #[.string tx, .int .i64 (aa : Int), .string ⟨#[]⟩, .int .i64 0, .int .i64 0, .string ⟨#[]⟩, .slice none 0 0, .slice none 0 0, .slice none 0 0, .int .i64 0, .int .i64 0] 165)) = W2 at E2 G2 T2 ⊢
  obtain ⟨be, hbe⟩ : ∃ be, W1.heap.size = be := ⟨_, rfl⟩
  rw [hbe] at E2 hbtl hwW ⊢
  clear hbe
  have hber : be ≠ br := by omega
  have hblw : bl < w.heap.size := hbl
  have hbel : be ≠ bl := by omega
  have hbtr : bt ≠ br := by omega
  have hbeb : be ≠ bt := by omega
  obtain ⟨b1, hb1⟩ : ∃ b, isS K (.ok i) wIf = b := ⟨_, rfl⟩
  obtain ⟨b2, hb2⟩ : ∃ b, isS K (.ok i) wLet = b := ⟨_, rfl⟩
  obtain ⟨b3, hb3⟩ : ∃ b, (fourB.any fun m => isS K (.ok i) m.data.toList) = b := ⟨_, rfl⟩
  refine (gNext_d HK.out W2 br bl (.ok i) d ⟨#[105, 102]⟩ (by decide) (HR.out.grew G2.out) b1 hb1).mono ?_
  rintro e W3 ⟨rfl, g3⟩
  have G3 : Hid (Grew w W3) := G2.out.trans g3
  have E3 : Hid (XBlk W3 be tx (aa : Int) ⟨#[]⟩ 0 0 ⟨#[]⟩ none 0 0) := E2.out.of (P := fun _ => True) (Fr.grew g3) trivial
  have T3 : Hid (TBlk W3 bt sb tx (aa : Int)) := T2.out.grew g3
  clear g3 E2 G2 T2
  go_wp2_with fail
  refine (gNext_d HK.out W3 br bl (.ok i) d ⟨#[108, 101, 116]⟩ (by decide) (HR.out.grew G3.out) b2 hb2).mono ?_
  rintro e W4 ⟨rfl, g4⟩
  have G4 : Hid (Grew w W4) := G3.out.trans g4
  have E4 : Hid (XBlk W4 be tx (aa : Int) ⟨#[]⟩ 0 0 ⟨#[]⟩ none 0 0) := E3.out.of (P := fun _ => True) (Fr.grew g4) trivial
  have T4 : Hid (TBlk W4 bt sb tx (aa : Int)) := T3.out.grew g4
  clear g4 E3 G3 T3
  go_wp2_with fail
  refine (among_d HK.out W4 br bl (.ok i) d _ fourB 4 b3 rfl (by decide) rfl (by decide) hb3 (HR.out.grew G4.out)).mono ?_
  rintro e W5 ⟨rfl, g5⟩
  have G5 : Hid (Grew w W5) := G4.out.trans g5
  have E5 : Hid (XBlk W5 be tx (aa : Int) ⟨#[]⟩ 0 0 ⟨#[]⟩ none 0 0) := E4.out.of (P := fun _ => True) (Fr.grew g5) trivial
  have T5 : Hid (TBlk W5 bt sb tx (aa : Int)) := T4.out.grew g5
  have R5 : Hid (RSd K N W5 br bl (.ok i) d) := HR.out.grew G5.out
  clear g5 E4 G4 T4 HR
  rcases opens_cls (K i).tx with ⟨h0, h1, h2, h3⟩ | hk | hk | hk | hk
  · obtain rfl : false = b1 := by rw [← hb1]; exact h1.symm
    obtain rfl : false = b2 := by rw [← hb2]; exact h2.symm
    obtain rfl : false = b3 := by rw [← hb3]; exact h3.symm
    have HC : Hid (Calls _ _ _ _ _) := HP1.out W5 R5.out (by have := hr; unfold fallX at this; rw [if_pos rfl, if_neg (by rw [h0]; simp)] at this; exact this)
    clear h0 h1 h2 h3 hb1 hb2 hb3 hr HP1
    go_wp2_with fail
    refine HC.out.mono ?_
    rintro e W6 hp
    obtain ⟨hf, hrs, b, rfl, ht⟩ := hp
    have HH : Hid (PostT K N w br bl d r (.returned (.pointer (some ⟨b, 0, none⟩))) W6) := PostT.from (Fr.grew G5.out) ⟨hf, hrs, b, rfl, ht⟩
    clear hf hrs ht HC
    go_wp2_with fail
    go_ret
    exact HH.out
  · have hiN : i < N := HL.out.lt hI (m := wIf) (by rw [hk]; rfl) (by decide)
    have HBX : Hid (bindingX K self d i = some r) := by have := hr; unfold fallX at this; rw [if_pos rfl, if_pos (by rw [hk]; rfl)] at this; exact this
    obtain rfl : true = b1 := by rw [← hb1]; show _ = ((K i).tx == wIf); rw [hk]; rfl
    obtain rfl : false = b2 := by rw [← hb2]; show _ = ((K i).tx == wLet); rw [hk]; rfl
    obtain rfl : false = b3 := by rw [← hb3]; show _ = (fourB.any fun m => (K i).tx == m.data.toList); rw [hk]; rfl
    have htx : tx.data.toList = wIf := by rw [← HTX.out]; exact tok_mark HK.out (by decide) hk
    have HIN : Hid (Calls _ _ _ _ _) := gin_d hN W5 br bl i d hd hiN R5.out
    clear hb1 hb2 hb3 hr HP1 R5
    go_wp2_with fail
    refine HIN.out.mono ?_
    rintro e W6 ⟨rfl, hr6, hf6⟩
    have R6 : Hid (RSd K N W6 br bl (inS K i d) (d + 1)) := hr6
    have F6 : Hid (Fr (· ≠ br) w W6) := (Fr.grew G5.out).trans hf6
    have E6 : Hid (XBlk W6 be tx (aa : Int) ⟨#[]⟩ 0 0 ⟨#[]⟩ none 0 0) := E5.out.of hf6 hber
    have T6 : Hid (TBlk W6 bt sb tx (aa : Int)) := T5.out.fr hf6 hbtr
    have HD6 : Hid (OkS (inS K i d) → d + 1 ≤ 24) := in_ok hd
    clear hr6 hf6 E5 T5 HIN G5
    obtain ⟨r1, h1, hc⟩ := runS_bX noX (binding_if hk HBX.out)
    have hc := want_run hc
    obtain ⟨r2, h2, hc⟩ := runS_bX noX hc
    have hc := want_run hc
    obtain ⟨r3, h3, hc⟩ := runS_bX noX hc
    have HQ : Hid (stX r = stX r3 ∧ ∀ y j, r = .ok (y, j) → y = dIf (valX noX r1) (valX noX r2) (valX noX r3)) := ok_run hc
    have O1 : Hid (OkS (stX r1) → OkS (inS K i d)) := fun o => runS_okS h1 o
    have O2 : Hid (OkS (stX r2) → OkS (stX r1)) := fun o => want_ok (runS_okS h2 o)
    have O3 : Hid (OkS (stX r3) → OkS (stX r2)) := fun o => want_ok (runS_okS h3 o)
    have H1 : Hid (runS (inS K i d) (self 0 (d + 1)) = some r1) := h1
    have H2 : Hid (runS (wantS K (stX r1) [116, 104, 101, 110]) (self 0 (d + 1)) = some r2) := h2
    have H3 : Hid (runS (wantS K (stX r2) [101, 108, 115, 101]) (self 0 (d + 1)) = some r3) := h3
    clear h1 h2 h3 hc HBX hk
    go_wp2_with fail
    refine (HS.out W6 0 (d + 1) _ r1 (by omega) HD6.out R6.out H1.out).mono ?_
    rintro e W7 ⟨hfn, hrn, ba, rfl, htn⟩
    have R7 : Hid (RSd K N W7 br bl (stX r1) (d + 1)) := hrn
    have F7 : Hid (Fr (· ≠ br) w W7) := F6.out.trans hfn
    have E7 : Hid (XBlk W7 be tx (aa : Int) ⟨#[]⟩ 0 0 ⟨#[]⟩ none 0 0) := E6.out.of hfn hber
    have A7 : Hid (∀ x j, r1 = .ok (x, j) → TreeT (fun k => W6.heap.size ≤ k) W7 x (.pointer (some ⟨ba, 0, none⟩))) := htn
    have hz6 := F6.out.size
    have hb6 : be < W6.heap.size := block_lt E6.out
    have hr6 := R6.out.lt
    clear hfn hrn htn R6 F6 E6 T6
    go_wp2_with fail
    refine (gWant_d HK.out HL.out W7 br bl _ (d + 1) ⟨#[116, 104, 101, 110]⟩ (by decide) hN R7.out).mono ?_
    rintro e W8 ⟨rfl, hrn, hfn⟩
    have R8 : Hid (RSd K N W8 br bl (wantS K (stX r1) [116, 104, 101, 110]) (d + 1)) := hrn
    have F8 : Hid (Fr (· ≠ br) w W8) := F7.out.trans hfn
    have E8 : Hid (XBlk W8 be tx (aa : Int) ⟨#[]⟩ 0 0 ⟨#[]⟩ none 0 0) := E7.out.of hfn hber
    have A8 : Hid (∀ x j, r1 = .ok (x, j) → TreeT (fun k => W6.heap.size ≤ k) W8 x (.pointer (some ⟨ba, 0, none⟩))) := fun x j e => (A7.out x j e).fr (hfn.mono fun k q => by omega) fun _ _ q => q
    clear hfn hrn R7 F7 E7 A7
    go_wp2_with fail
    refine (HS.out W8 0 (d + 1) _ r2 (by omega) (fun o => HD6.out (O1.out (want_ok o))) R8.out H2.out).mono ?_
    rintro e W9 ⟨hfn, hrn, bb, rfl, htn⟩
    have R9 : Hid (RSd K N W9 br bl (stX r2) (d + 1)) := hrn
    have F9 : Hid (Fr (· ≠ br) w W9) := F8.out.trans hfn
    have E9 : Hid (XBlk W9 be tx (aa : Int) ⟨#[]⟩ 0 0 ⟨#[]⟩ none 0 0) := E8.out.of hfn hber
    have A9 : Hid (∀ x j, r1 = .ok (x, j) → TreeT (fun k => W6.heap.size ≤ k) W9 x (.pointer (some ⟨ba, 0, none⟩))) := fun x j e => (A8.out x j e).fr (hfn.mono fun k q => by omega) fun _ _ q => q
    have B9 : Hid (∀ x j, r2 = .ok (x, j) → TreeT (fun k => W8.heap.size ≤ k) W9 x (.pointer (some ⟨bb, 0, none⟩))) := htn
    have hz8 := F8.out.size
    have hb8 : be < W8.heap.size := block_lt E8.out
    have hr8 := R8.out.lt
    clear hfn hrn htn R8 F8 E8 A8
    go_wp2_with fail
    refine (gWant_d HK.out HL.out W9 br bl _ (d + 1) ⟨#[101, 108, 115, 101]⟩ (by decide) hN R9.out).mono ?_
    rintro e W10 ⟨rfl, hrn, hfn⟩
    have R10 : Hid (RSd K N W10 br bl (wantS K (stX r2) [101, 108, 115, 101]) (d + 1)) := hrn
    have F10 : Hid (Fr (· ≠ br) w W10) := F9.out.trans hfn
    have E10 : Hid (XBlk W10 be tx (aa : Int) ⟨#[]⟩ 0 0 ⟨#[]⟩ none 0 0) := E9.out.of hfn hber
    have A10 : Hid (∀ x j, r1 = .ok (x, j) → TreeT (fun k => W6.heap.size ≤ k) W10 x (.pointer (some ⟨ba, 0, none⟩))) := fun x j e => (A9.out x j e).fr (hfn.mono fun k q => by omega) fun _ _ q => q
    have B10 : Hid (∀ x j, r2 = .ok (x, j) → TreeT (fun k => W8.heap.size ≤ k) W10 x (.pointer (some ⟨bb, 0, none⟩))) := fun x j e => (B9.out x j e).fr (hfn.mono fun k q => by omega) fun _ _ q => q
    clear hfn hrn R9 F9 E9 A9 B9
    go_wp2_with fail
    refine (HS.out W10 0 (d + 1) _ r3 (by omega) (fun o => HD6.out (O1.out (O2.out (want_ok o)))) R10.out H3.out).mono ?_
    rintro e W11 ⟨hfn, hrn, bc, rfl, htn⟩
    have R11 : Hid (RSd K N W11 br bl (stX r3) (d + 1)) := hrn
    have F11 : Hid (Fr (· ≠ br) w W11) := F10.out.trans hfn
    have E11 : Hid (XBlk W11 be tx (aa : Int) ⟨#[]⟩ 0 0 ⟨#[]⟩ none 0 0) := E10.out.of hfn hber
    have A11 : Hid (∀ x j, r1 = .ok (x, j) → TreeT (fun k => W6.heap.size ≤ k) W11 x (.pointer (some ⟨ba, 0, none⟩))) := fun x j e => (A10.out x j e).fr (hfn.mono fun k q => by omega) fun _ _ q => q
    have B11 : Hid (∀ x j, r2 = .ok (x, j) → TreeT (fun k => W8.heap.size ≤ k) W11 x (.pointer (some ⟨bb, 0, none⟩))) := fun x j e => (B10.out x j e).fr (hfn.mono fun k q => by omega) fun _ _ q => q
    have C11 : Hid (∀ x j, r3 = .ok (x, j) → TreeT (fun k => W10.heap.size ≤ k) W11 x (.pointer (some ⟨bc, 0, none⟩))) := htn
    have hz10 := F10.out.size
    have hb10 : be < W10.heap.size := block_lt E10.out
    have c8 := block_cell E11.out 8
    have f8 := frozen_block E11.out 8
    have hb11 : be < W11.heap.size := block_lt E11.out
    have hz11 := F11.out.size
    clear hfn hrn htn R10 F10 E10 A10 B10
    have hFE : Fr (· ≠ be) W11 ((W11.setCell ⟨be, 8, none⟩ (.slice (some ⟨W11.heap.size, 0, none⟩) 3 3)).alloc (.cells #[.pointer (some ⟨ba, 0, none⟩), .pointer (some ⟨bb, 0, none⟩), .pointer (some ⟨bc, 0, none⟩)] 57)) := ((Fr.refl _ W11).set (by simp) _).alloc _
    have R12 : Hid (RSd K N _ br bl (stX r3) (d + 1)) := R11.out.fr hFE (Ne.symm hber) (Ne.symm hbel)
    have F12 : Hid (Fr (· ≠ br) w _) := F11.out.freshT (hFE.mono fun _ q => q.2) (by omega)
    have T12 : Hid (∀ x j, r = .ok (x, j) → TreeT (fun k => w.heap.size ≤ k) ((W11.setCell ⟨be, 8, none⟩ (.slice (some ⟨W11.heap.size, 0, none⟩) 3 3)).alloc (.cells #[.pointer (some ⟨ba, 0, none⟩), .pointer (some ⟨bb, 0, none⟩), .pointer (some ⟨bc, 0, none⟩)] 57)) x (.pointer (some ⟨be, 0, none⟩))) := fun x j e => by
      have o3 : OkS (stX r3) := by rw [← HQ.out.1]; exact ok_of e
      have o2 := O3.out o3
      obtain ⟨j1, e1⟩ := ok_val noX (O2.out o2)
      obtain ⟨j2, e2⟩ := ok_val noX o2
      obtain ⟨j3, e3⟩ := ok_val noX o3
      rw [HQ.out.2 x j e]
      exact (fillT (lo := w.heap.size) E11.out (m := 3) (vs := #[.pointer (some ⟨ba, 0, none⟩), .pointer (some ⟨bb, 0, none⟩), .pointer (some ⟨bc, 0, none⟩)]) (kids := [valX noX r1, valX noX r2, valX noX r3]) rfl (by omega) (fun k z qz => by
        match k with
        | 0 => simp at qz; subst qz; exact ⟨_, rfl, (A11.out _ _ e1).fr (Fr.refl _ _) fun _ _ q => by omega⟩
        | 1 => simp at qz; subst qz; exact ⟨_, rfl, (B11.out _ _ e2).fr (Fr.refl _ _) fun _ _ q => by omega⟩
        | 2 => simp at qz; subst qz; exact ⟨_, rfl, (C11.out _ _ e3).fr (Fr.refl _ _) fun _ _ q => by omega⟩
        | k + 3 => simp at qz) (by omega) (by rw [htx]; exact .inr (.inr (.inr (.inr (.inr (.inr (.inr (.inr (.inr (.inr (.inl ⟨rfl, _, _, _, rfl, rfl⟩)))))))))))).fr (Fr.refl _ _) fun _ _ q => by omega
    go_wp2_with fail
    clear c8 f8 hFE R11 F11 E11 A11 B11 C11
    generalize (W11.setCell ⟨be, 8, none⟩ (.slice (some ⟨W11.heap.size, 0, none⟩) 3 3)).alloc (.cells #[.pointer (some ⟨ba, 0, none⟩), .pointer (some ⟨bb, 0, none⟩), .pointer (some ⟨bc, 0, none⟩)] 57) = W12 at R12 F12 T12 ⊢
    refine (gout_d W12 br bl _ d hd R12.out).mono ?_
    rintro e W13 ⟨rfl, hrn, hfn⟩
    have R13 : Hid (RSd K N W13 br bl (stX r3) d) := hrn
    have F13 : Hid (Fr (· ≠ br) w W13) := F12.out.trans hfn
    have T13 : Hid (∀ x j, r = .ok (x, j) → TreeT (fun k => w.heap.size ≤ k) W13 x (.pointer (some ⟨be, 0, none⟩))) := fun x j e => (T12.out x j e).fr (hfn.mono fun k q => by omega) fun _ _ q => q
    clear hfn hrn R12 F12 T12
    go_wp2_with fail
    go_ret
    exact ⟨F13.out, by rw [HQ.out.1]; exact R13.out, be, rfl, T13.out⟩
  · have hiN : i < N := HL.out.lt hI (m := wLet) (by rw [hk]; rfl) (by decide)
    have HBX : Hid (bindingX K self d i = some r) := by have := hr; unfold fallX at this; rw [if_pos rfl, if_pos (by rw [hk]; rfl)] at this; exact this
    obtain rfl : false = b1 := by rw [← hb1]; show _ = ((K i).tx == wIf); rw [hk]; rfl
    obtain rfl : true = b2 := by rw [← hb2]; show _ = ((K i).tx == wLet); rw [hk]; rfl
    obtain rfl : false = b3 := by rw [← hb3]; show _ = (fourB.any fun m => (K i).tx == m.data.toList); rw [hk]; rfl
    have htx : tx.data.toList = wLet := by rw [← HTX.out]; exact tok_mark HK.out (by decide) hk
    have HIN : Hid (Calls _ _ _ _ _) := gin_d hN W5 br bl i d hd hiN R5.out
    clear hb1 hb2 hb3 hr HP1 R5
    go_wp2_with fail
    refine HIN.out.mono ?_
    rintro e W6 ⟨rfl, hr6, hf6⟩
    have R6 : Hid (RSd K N W6 br bl (inS K i d) (d + 1)) := hr6
    have F6 : Hid (Fr (· ≠ br) w W6) := (Fr.grew G5.out).trans hf6
    have E6 : Hid (XBlk W6 be tx (aa : Int) ⟨#[]⟩ 0 0 ⟨#[]⟩ none 0 0) := E5.out.of hf6 hber
    have T6 : Hid (TBlk W6 bt sb tx (aa : Int)) := T5.out.fr hf6 hbtr
    have HD6 : Hid (OkS (inS K i d) → d + 1 ≤ 24) := in_ok hd
    clear hr6 hf6 E5 T5 HIN G5
    have q1 := block_cell T6.out 1
    have qf : (tx.toList == [102, 117, 110]) = false := by rw [ByteArray.toList_eq, htx]; rfl
    have hz6 := F6.out.size
    have HC : Hid (Calls _ _ _ _ _) := gbound_any HS.out HK.out HL.out hN W6 be (d + 1) _ tx (aa : Int) HD6.out hber hbel R6.out E6.out ⟨#[61]⟩ 0 dLet (.inl ⟨htx, rfl, rfl⟩) (fun n a b => by rw [htx]; exact .inr (.inr (.inr (.inr (.inr (.inr (.inr (.inr (.inr (.inr (.inr (.inl ⟨rfl, _, _, rfl, rfl⟩)))))))))))) r (binding_let hk HBX.out)
    have R7 : Hid (RSd K N W6 br bl (inS K i d) (d + 1)) := R6
    have F7 : Hid (Fr (· ≠ br) w W6) := F6
    have E7 : Hid (XBlk W6 be tx (aa : Int) ⟨#[]⟩ 0 0 ⟨#[]⟩ none 0 0) := E6
    clear HBX hk R6 F6 E6 T6
    go_wp2_with fail
    refine HC.out.mono ?_
    rintro e W8 ⟨rfl, hfn, hrn, htn⟩
    have R8 : Hid (RSd K N W8 br bl (stX r) (d + 1)) := hrn
    have F8 : Hid (Fr (· ≠ br) w W8) := F7.out.freshT (hfn.mono fun _ q => ⟨q.1, q.2⟩) (by omega)
    have T8 : Hid (∀ x j, r = .ok (x, j) → TreeT (fun k => w.heap.size ≤ k) W8 x (.pointer (some ⟨be, 0, none⟩))) := fun x j e => (htn x j e).fr (Fr.refl _ _) fun _ _ q => by omega
    clear hfn hrn htn R7 F7 E7
    go_wp2_with fail
    refine (gout_d W8 br bl _ d hd R8.out).mono ?_
    rintro e W13 ⟨rfl, hrn, hfn⟩
    have R13 : Hid (RSd K N W13 br bl (stX r) d) := hrn
    have F13 : Hid (Fr (· ≠ br) w W13) := F8.out.trans hfn
    have T13 : Hid (∀ x j, r = .ok (x, j) → TreeT (fun k => w.heap.size ≤ k) W13 x (.pointer (some ⟨be, 0, none⟩))) := fun x j e => (T8.out x j e).fr (hfn.mono fun k q => by omega) fun _ _ q => q
    clear hfn hrn R8 F8 T8
    go_wp2_with fail
    go_ret
    exact ⟨F13.out, R13.out, be, rfl, T13.out⟩
  · have hk3 : (K i).tx = [97, 108, 108] ∨ (K i).tx = [115, 111, 109, 101] ∨ (K i).tx = [99, 104, 111, 111, 115, 101] := by simpa [binds3] using hk
    have hmk : (K i).tx ∈ marks := by rcases hk3 with e | e | e <;> rw [e] <;> decide
    have hiN : i < N := HL.out.lt hI (m := (K i).tx) (by simp) hmk
    have HBX : Hid (bindingX K self d i = some r) := by have := hr; unfold fallX at this; rw [if_pos rfl, if_pos (by rcases hk3 with e | e | e <;> rw [e] <;> rfl)] at this; exact this
    obtain rfl : false = b1 := by rw [← hb1]; show _ = ((K i).tx == wIf); rcases hk3 with e | e | e <;> rw [e] <;> rfl
    obtain rfl : false = b2 := by rw [← hb2]; show _ = ((K i).tx == wLet); rcases hk3 with e | e | e <;> rw [e] <;> rfl
    obtain rfl : true = b3 := by rw [← hb3]; show _ = (fourB.any fun m => (K i).tx == m.data.toList); rcases hk3 with e | e | e <;> rw [e] <;> rfl
    have htx : tx.data.toList = (K i).tx := by rw [← HTX.out]; exact tok_mark HK.out hmk rfl
    have HIN : Hid (Calls _ _ _ _ _) := gin_d hN W5 br bl i d hd hiN R5.out
    clear hb1 hb2 hb3 hr HP1 R5
    go_wp2_with fail
    refine HIN.out.mono ?_
    rintro e W6 ⟨rfl, hr6, hf6⟩
    have R6 : Hid (RSd K N W6 br bl (inS K i d) (d + 1)) := hr6
    have F6 : Hid (Fr (· ≠ br) w W6) := (Fr.grew G5.out).trans hf6
    have E6 : Hid (XBlk W6 be tx (aa : Int) ⟨#[]⟩ 0 0 ⟨#[]⟩ none 0 0) := E5.out.of hf6 hber
    have T6 : Hid (TBlk W6 bt sb tx (aa : Int)) := T5.out.fr hf6 hbtr
    have HD6 : Hid (OkS (inS K i d) → d + 1 ≤ 24) := in_ok hd
    clear hr6 hf6 E5 T5 HIN G5
    have q1 := block_cell T6.out 1
    have qf : (tx.toList == [102, 117, 110]) = false := by rw [ByteArray.toList_eq, htx]; rcases hk3 with e | e | e <;> rw [e] <;> rfl
    have hz6 := F6.out.size
    have HC : Hid (Calls _ _ _ _ _) := gbound_any HS.out HK.out HL.out hN W6 be (d + 1) _ tx (aa : Int) HD6.out hber hbel R6.out E6.out ⟨#[105, 110]⟩ 8 (dBind (K i).tx) (.inr ⟨by rw [htx]; rcases hk3 with e | e | e <;> rw [e] <;> decide, rfl, rfl⟩) (fun n a b => by rw [htx]; exact .inr (.inr (.inr (.inr (.inr (.inr (.inr (.inr (.inr (.inr (.inr (.inr (.inl ⟨.inl hk, _, _, rfl, rfl⟩))))))))))))) r (binding_bind (by rcases hk3 with e | e | e <;> rw [e] <;> rfl) (by rcases hk3 with e | e | e <;> rw [e] <;> rfl) HBX.out)
    have R7 : Hid (RSd K N W6 br bl (inS K i d) (d + 1)) := R6
    have F7 : Hid (Fr (· ≠ br) w W6) := F6
    have E7 : Hid (XBlk W6 be tx (aa : Int) ⟨#[]⟩ 0 0 ⟨#[]⟩ none 0 0) := E6
    clear HBX hk hk3 R6 F6 E6 T6
    go_wp2_with fail
    refine HC.out.mono ?_
    rintro e W8 ⟨rfl, hfn, hrn, htn⟩
    have R8 : Hid (RSd K N W8 br bl (stX r) (d + 1)) := hrn
    have F8 : Hid (Fr (· ≠ br) w W8) := F7.out.freshT (hfn.mono fun _ q => ⟨q.1, q.2⟩) (by omega)
    have T8 : Hid (∀ x j, r = .ok (x, j) → TreeT (fun k => w.heap.size ≤ k) W8 x (.pointer (some ⟨be, 0, none⟩))) := fun x j e => (htn x j e).fr (Fr.refl _ _) fun _ _ q => by omega
    clear hfn hrn htn R7 F7 E7
    go_wp2_with fail
    refine (gout_d W8 br bl _ d hd R8.out).mono ?_
    rintro e W13 ⟨rfl, hrn, hfn⟩
    have R13 : Hid (RSd K N W13 br bl (stX r) d) := hrn
    have F13 : Hid (Fr (· ≠ br) w W13) := F8.out.trans hfn
    have T13 : Hid (∀ x j, r = .ok (x, j) → TreeT (fun k => w.heap.size ≤ k) W13 x (.pointer (some ⟨be, 0, none⟩))) := fun x j e => (T8.out x j e).fr (hfn.mono fun k q => by omega) fun _ _ q => q
    clear hfn hrn R8 F8 T8
    go_wp2_with fail
    go_ret
    exact ⟨F13.out, R13.out, be, rfl, T13.out⟩
  · have hiN : i < N := HL.out.lt hI (m := oFun) (by rw [hk]; rfl) (by decide)
    have HBX : Hid (bindingX K self d i = some r) := by have := hr; unfold fallX at this; rw [if_pos rfl, if_pos (by rw [hk]; rfl)] at this; exact this
    obtain rfl : false = b1 := by rw [← hb1]; show _ = ((K i).tx == wIf); rw [hk]; rfl
    obtain rfl : false = b2 := by rw [← hb2]; show _ = ((K i).tx == wLet); rw [hk]; rfl
    obtain rfl : true = b3 := by rw [← hb3]; show _ = (fourB.any fun m => (K i).tx == m.data.toList); rw [hk]; rfl
    have htx : tx.data.toList = oFun := by rw [← HTX.out]; exact tok_mark HK.out (by decide) hk
    have HIN : Hid (Calls _ _ _ _ _) := gin_d hN W5 br bl i d hd hiN R5.out
    clear hb1 hb2 hb3 hr HP1 R5
    go_wp2_with fail
    refine HIN.out.mono ?_
    rintro e W6 ⟨rfl, hr6, hf6⟩
    have R6 : Hid (RSd K N W6 br bl (inS K i d) (d + 1)) := hr6
    have F6 : Hid (Fr (· ≠ br) w W6) := (Fr.grew G5.out).trans hf6
    have E6 : Hid (XBlk W6 be tx (aa : Int) ⟨#[]⟩ 0 0 ⟨#[]⟩ none 0 0) := E5.out.of hf6 hber
    have T6 : Hid (TBlk W6 bt sb tx (aa : Int)) := T5.out.fr hf6 hbtr
    have HD6 : Hid (OkS (inS K i d) → d + 1 ≤ 24) := in_ok hd
    clear hr6 hf6 E5 T5 HIN G5
    have q1 := block_cell T6.out 1
    have qf : (tx.toList == [102, 117, 110]) = true := by rw [ByteArray.toList_eq, htx]; rfl
    have hz6 := F6.out.size
    have c0x := block_cell E6.out 0
    have f0x := frozen_block E6.out 0
    have E7 : Hid (XBlk (W6.setCell ⟨be, 0, none⟩ (.string ⟨#[102, 117, 110, 32, 105, 110]⟩)) be ⟨#[102, 117, 110, 32, 105, 110]⟩ (aa : Int) ⟨#[]⟩ 0 0 ⟨#[]⟩ none 0 0) := E6.out.op _
    have hfs : Fr (· ≠ be) W6 (W6.setCell ⟨be, 0, none⟩ (.string ⟨#[102, 117, 110, 32, 105, 110]⟩)) := (Fr.refl _ W6).set (by simp) _
    have R7 : Hid (RSd K N (W6.setCell ⟨be, 0, none⟩ (.string ⟨#[102, 117, 110, 32, 105, 110]⟩)) br bl (inS K i d) (d + 1)) := R6.out.fr hfs (Ne.symm hber) (Ne.symm hbel)
    have F7 : Hid (Fr (· ≠ br) w (W6.setCell ⟨be, 0, none⟩ (.string ⟨#[102, 117, 110, 32, 105, 110]⟩))) := F6.out.freshT (hfs.mono fun _ q => q.2) (by omega)
    have hzs := F7.out.size
    have HC : Hid (Calls _ _ _ _ _) := gbound_any HS.out HK.out HL.out hN _ be (d + 1) _ ⟨#[102, 117, 110, 32, 105, 110]⟩ (aa : Int) HD6.out hber hbel R7.out E7.out ⟨#[105, 110]⟩ 8 (dBind oFun) (.inr ⟨by decide, rfl, rfl⟩) (fun n a b => .inr (.inr (.inr (.inr (.inr (.inr (.inr (.inr (.inr (.inr (.inr (.inr (.inr (.inl ⟨rfl, _, _, rfl, rfl⟩)))))))))))))) r (by have := binding_bind (by rw [hk]; rfl) (by rw [hk]; rfl) HBX.out; rw [hk] at this; exact this)
    clear HBX hk hfs R6 F6 E6 T6
    go_wp2_with fail
    refine HC.out.mono ?_
    rintro e W8 ⟨rfl, hfn, hrn, htn⟩
    have R8 : Hid (RSd K N W8 br bl (stX r) (d + 1)) := hrn
    have F8 : Hid (Fr (· ≠ br) w W8) := F7.out.freshT (hfn.mono fun _ q => ⟨q.1, q.2⟩) (by omega)
    have T8 : Hid (∀ x j, r = .ok (x, j) → TreeT (fun k => w.heap.size ≤ k) W8 x (.pointer (some ⟨be, 0, none⟩))) := fun x j e => (htn x j e).fr (Fr.refl _ _) fun _ _ q => by omega
    clear hfn hrn htn R7 F7 E7
    go_wp2_with fail
    refine (gout_d W8 br bl _ d hd R8.out).mono ?_
    rintro e W13 ⟨rfl, hrn, hfn⟩
    have R13 : Hid (RSd K N W13 br bl (stX r) d) := hrn
    have F13 : Hid (Fr (· ≠ br) w W13) := F8.out.trans hfn
    have T13 : Hid (∀ x j, r = .ok (x, j) → TreeT (fun k => w.heap.size ≤ k) W13 x (.pointer (some ⟨be, 0, none⟩))) := fun x j e => (T8.out x j e).fr (hfn.mono fun k q => by omega) fun _ _ q => q
    clear hfn hrn R8 F8 T8
    go_wp2_with fail
    go_ret
    exact ⟨F13.out, R13.out, be, rfl, T13.out⟩
end Go.Proofs.YtjbekejcghjhbaaGreatDoor.Sx
