/- What stands behind a part: a point and a name. -/
import Derived.Test.YtjbekejcghjhbaaGreatDoorF11
import Derived.Deep.AppendLies
import Derived.Deep.LoopGhost
namespace Go.Proofs.YtjbekejcghjhbaaGreatDoor.Sx
open Go.RowKit Go.Sort
attribute [local go_sem] ident_name

theorem ident_at (a b : Value) (w : World) : (Instr.field 324 (.agg #[a, b]) 1).run Tryz.prog w = .ok b w := by kernel_rfl
attribute [local go_sem] ident_at
/-- a node that is laid anew over parts -/
theorem tree_alloc {P : Nat → Prop} {w : World} {sort : Nat} {op nm : ByteArray} {n : Int} {at' : Nat} {pa : Option Addr} {len cap : Nat} {kids : List PX} {x : PX} (hrow : RowP P w (TreeE P w) pa len kids) (hp : P w.heap.size) (hm : Means sort op.data.toList nm.data.toList n kids x) :
    TreeE P (w.alloc (.cells #[.int .i64 (sort : Int), .string op, .string nm, .int .i64 n, .int .i64 (at' : Int), .slice pa len cap] 156)) x (.pointer (some ⟨w.heap.size, 0, none⟩)) :=
  TreeE.node ⟨w.heap.size, sort, op, nm, n, at', pa, len, cap, kids, rfl, hp, heap_new rfl, RowP.fr ((Fr.refl P w).alloc _) (fun _ _ h => h.fr ((Fr.refl P w).alloc _) fun _ _ q => q) (fun _ _ q => q) hrow, hm⟩
/-- a row that is laid anew -/
theorem row_alloc {P : Nat → Prop} {w : World} {vs : Array Value} {kids : List PX} {m : Nat} (hm : m = kids.length) (hm4 : m ≤ 4294967296) (hk : ∀ (i : Nat) (x : PX), kids[i]? = some x → ∃ v, vs[i]? = some v ∧ TreeE P w x v) (hp : P w.heap.size) :
    RowP P (w.alloc (.cells vs 93)) (TreeE P (w.alloc (.cells vs 93))) (some ⟨w.heap.size, 0, none⟩) m kids := by
  have hN : (w.alloc (.cells vs 93)).heap[w.heap.size]? = some (.cells vs 93 (0, 0)) := heap_new rfl
  refine ⟨hm, hm4, .inr ⟨w.heap.size, 0, rfl, block_lt hN, hp, fun i x q => ?_⟩⟩
  obtain ⟨v, hv, ht⟩ := hk i x q
  exact ⟨v, by rw [Nat.zero_add, block_cell hN]; exact hv, ht.fr ((Fr.refl P w).alloc _) fun _ _ q => q⟩

set_option maxRecDepth 100000 in
set_option maxHeartbeats 1000000 in
theorem fdotted_any (w : World) (br : Nat) (t : ByteArray) (lo d i : Nat) (x : PX) (v : Value) (ht : t.size ≤ 4000) (hr : RdF w br t i d) (hlo : lo ≤ w.heap.size) (hbl : br < lo) (hx : TreeE (fun k => lo ≤ k) w x v)
    (r : Except (Nat × Nat) (PX × Nat)) (h : bX (nameX (tkF t.data.toList) (i + 1)) (fun n j => okX (dAt x (dTxt n)) j) = some r) :
    Calls Tryz.prog 322 #[.pointer (some ⟨br, 0, none⟩), v] w (PostL lo w br t d r) := by
  have HA : Hid (Calls _ _ _ _ _) := fadvance_st w br t i d hr ht
  have HN : Hid (∀ (W : World) (q : Except (Nat × Nat) (List UInt8 × Nat)), _) := fun W q h => fname_any W br t (i + 1) d h ht q
  have hlb := block_lt hr
  have h1 := block_cell hr 1
  clear hr
  have mo := follows
  obtain ⟨bl, rfl, hb1, hb2⟩ := hx.ptr
  have HX : Hid (TreeE (fun k => lo ≤ k) w x _) := hx
  clear hx
  go_enter Tryz.func322, Tryz.ntmps322
  go_wp2_with (first | (go_at_call 146; refine HA.out.mono ?_; rintro e w1 ⟨rfl, hr, hf⟩; have R1 : Hid (RdF w1 br t (i + 1) d) := hr; have F1 : Hid (Fr (· ≠ br) w w1) := hf; have X1 : Hid (TreeE (fun k => lo ≤ k) w1 x (.pointer (some ⟨bl, 0, none⟩))) := HX.out.fr (hf.mono fun k q => by omega) fun _ _ q => q; clear hr hf))
  rcases bX_cases h with ⟨⟨c, p⟩, hn, rfl⟩ | ⟨n, j, hn, hk⟩
  · refine (HN.out _ _ R1.out hn).mono ?_
    rintro e w2 ⟨hf, rfl⟩
    exact ⟨rfl, F1.out.trans hf, rfl⟩
  refine (HN.out _ _ R1.out hn).mono ?_
  rintro e w2 ⟨hf, rfl, hr⟩
  have R2 : Hid (RdF w2 br t j d) := hr
  have F2 : Hid (Fr (· ≠ br) w w2) := F1.out.trans hf
  have X2 : Hid (TreeE (fun k => lo ≤ k) w2 x (.pointer (some ⟨bl, 0, none⟩))) := X1.out.fr (hf.mono fun k q => by omega) fun _ _ q => q
  have HN' : Hid (n = txF t.data.toList (i + 1) ∧ j = i + 1 + 1) := nameX_ok hn
  have hsp : (pcF t (i + 1)).data.toList = txF t.data.toList (i + 1) := pcF_list t (i + 1)
  have hz := F2.out.size
  clear hf hr hn h HN HA R1 F1 X1 HX
  go_wp2_with fail
  go_ret
  obtain rfl : r = .ok (dAt x (dTxt n), j) := by simp only [okX, Option.some.injEq] at hk; exact hk.symm
  have hK := tree_alloc (P := fun k => lo ≤ k) (w := w2.alloc (.cells #[.string (pcF t (i + 1)), .int .i64 (atF t.data.toList (i + 1) : Int)] 324)) (sort := 1) (op := ⟨#[]⟩) (nm := pcF t (i + 1)) (n := 0) (at' := atF t.data.toList (i + 1)) (pa := none) (len := 0) (cap := 0) (kids := []) (x := dTxt n) (row_nil _) (by simp; omega) (.inr (.inl ⟨rfl, by rw [hsp, ← HN'.out.1]⟩))
  have hX := X2.out.fr (((Fr.refl _ w2).alloc (.cells #[.string (pcF t (i + 1)), .int .i64 (atF t.data.toList (i + 1) : Int)] 324)).alloc (.cells #[.int .i64 ((1 : Nat) : Int), .string ⟨#[]⟩, .string (pcF t (i + 1)), .int .i64 0, .int .i64 (atF t.data.toList (i + 1) : Int), .slice none 0 0] 156)) (Q := fun k => lo ≤ k) fun _ _ q => q
  have hRow := row_alloc (m := 2) (kids := [x, dTxt n]) (vs := #[.pointer (some ⟨bl, 0, none⟩), .pointer (some ⟨w2.heap.size + 1, 0, none⟩)]) rfl (by omega) (fun k z q => by
      match k with
      | 0 => simp at q; subst q; exact ⟨_, rfl, hX⟩
      | 1 => simp at q; subst q; exact ⟨_, rfl, by simpa using hK⟩
      | k + 2 => simp at q) (by simp; omega)
  have hNode := tree_alloc (sort := 12) (op := ⟨#[97, 116]⟩) (nm := ⟨#[]⟩) (n := 0) (at' := atF t.data.toList i) (cap := 2) (x := dAt x (dTxt n)) hRow (by simp; omega) (.inr (.inr (.inr (.inr (.inr (.inr (.inr (.inr (.inr (.inr (.inr ⟨.inr rfl, .inr (.inr (.inr (.inr (.inl ⟨rfl, x, dTxt n, rfl, rfl⟩))))⟩)))))))))))
  have hFA := ((((Fr.refl (fun _ => True) w2).alloc (.cells #[.string (pcF t (i + 1)), .int .i64 (atF t.data.toList (i + 1) : Int)] 324)).alloc (.cells #[.int .i64 ((1 : Nat) : Int), .string ⟨#[]⟩, .string (pcF t (i + 1)), .int .i64 0, .int .i64 (atF t.data.toList (i + 1) : Int), .slice none 0 0] 156)).alloc (.cells #[.pointer (some ⟨bl, 0, none⟩), .pointer (some ⟨w2.heap.size + 1, 0, none⟩)] 93)).alloc (.cells #[.int .i64 ((12 : Nat) : Int), .string ⟨#[97, 116]⟩, .string ⟨#[]⟩, .int .i64 0, .int .i64 (atF t.data.toList i : Int), .slice (some ⟨w2.heap.size + 1 + 1, 0, none⟩) 2 2] 156)
  refine ⟨F2.out.trans (hFA.mono fun _ _ => trivial), ⟨_, rfl, ?_⟩, RdF.of R2.out hFA trivial⟩
  simpa using hNode
end Go.Proofs.YtjbekejcghjhbaaGreatDoor.Sx

namespace Go.Proofs.YtjbekejcghjhbaaGreatDoor.Sx
open Go.RowKit Go.Sort

theorem infoE : (Tryz.prog.info? 93).map (fun i => (i.zero, i.size, i.bytes)) = some (some (.pointer none), 1, 8) := by kernel_rfl

/-- the parts so far: their row -/
def LSt (w : World) (lo : Nat) (sl : Value) (es : List PX) : Prop :=
  ∃ vs, w.ownsRow lo 93 1 sl es.length vs ∧ ∀ (i : Nat) (x : PX), es[i]? = some x → ∃ v, vs[i]? = some v ∧ TreeE (fun k => lo ≤ k ∧ sl.ownBlock ≠ some k) w x v
theorem owns1_of {w w' : World} {base : Nat} {sl : Value} {n : Nat} {vs : List Value} (h : w.ownsRow base 93 1 sl n vs) (hb : ∀ g, sl.ownBlock = some g → base ≤ g → g < w.heap.size → w'.heap[g]? = w.heap[g]?) : w'.ownsRow base 93 1 sl n vs := by
  refine ⟨h.1, ?_⟩
  rcases h.2 with h' | ⟨g, cap, cur, e, hg, hq, r⟩
  · exact .inl h'
  · exact .inr ⟨g, cap, cur, e, hg, (hb g (by rw [e]; rfl) hg (block_lt hq)).trans hq, r⟩
theorem LSt.nil (w : World) (lo : Nat) : LSt w lo (.slice none 0 0) [] := ⟨[], World.ownsRow_nil _ _ _ _, fun i x q => by simp at q⟩
theorem LSt.fr {w w' : World} {lo br : Nat} {sl : Value} {es : List PX} (h : LSt w lo sl es) (f : Fr (· ≠ br) w w') (hbr : br < lo) : LSt w' lo sl es := by
  obtain ⟨vs, h1, h2⟩ := h
  refine ⟨vs, owns1_of h1 (fun g _ hg hlt => f.block g hlt (by omega)), fun i x q => ?_⟩
  obtain ⟨v, hv, ht⟩ := h2 i x q
  exact ⟨v, hv, ht.fr (f.mono fun k hk => by have := hk.1; omega) fun _ _ q => q⟩
/-- the row of what was read -/
theorem LSt.row {w : World} {lo : Nat} {sl : Value} {es : List PX} (h : LSt w lo sl es) (hl : es.length ≤ 4294967296) : ∃ a len cap, sl = .slice a len cap ∧ RowP (fun k => lo ≤ k) w (TreeE (fun k => lo ≤ k) w) a len es := by
  obtain ⟨vs, h1, h2⟩ := h
  rcases h1.2 with ⟨rfl, hn⟩ | ⟨g, cap, cur, rfl, hg, hq, hc, _, hs, ht⟩
  · exact ⟨none, 0, 0, rfl, by omega, by omega, .inl rfl⟩
  · refine ⟨_, es.length, cap, rfl, rfl, hl, .inr ⟨g, 0, rfl, block_lt hq, hg, fun i x q => ?_⟩⟩
    obtain ⟨v, hv, hT⟩ := h2 i x q
    refine ⟨v, ?_, hT.fr (Fr.refl _ _) fun _ _ q => q.1⟩
    rw [Nat.zero_add, block_cell hq]
    rw [← ht, List.getElem?_take] at hv
    split at hv
    · simpa using hv
    · simp at hv
/-- one part more -/
theorem LSt.push {w w1 w2 : World} {lo g cap : Nat} {es : List PX} {sl : Value} {vs : List Value} {x : PX} {v : Value}
    (h2 : ∀ (i : Nat) (x : PX), es[i]? = some x → ∃ v, vs[i]? = some v ∧ TreeE (fun k => lo ≤ k ∧ sl.ownBlock ≠ some k) w1 x v) (hvl : vs.length = es.length)
    (hx : TreeE (fun k => w.heap.size ≤ k) w1 x v) (hlo : lo ≤ w.heap.size) (hsl : ∀ q, sl.ownBlock = some q → q < w.heap.size)
    (ho : w2.ownsRow lo 93 1 (.slice (some ⟨g, 0, none⟩) (es.length + 1) cap) (es.length + 1) (vs ++ [v])) (hg : w1.grownBy w2 sl.ownBlock) (hat : sl.ownBlock = some g ∨ w1.heap.size ≤ g) :
    LSt w2 lo (.slice (some ⟨g, 0, none⟩) (es.length + 1) cap) (es ++ [x]) := by
  have keep : ∀ (z : PX) (q : Value), TreeE (fun k => lo ≤ k ∧ sl.ownBlock ≠ some k) w1 z q → TreeE (fun k => lo ≤ k ∧ (Value.slice (some ⟨g, 0, none⟩) (es.length + 1) cap).ownBlock ≠ some k) w2 z q := by
    intro z q hz
    have f1 : Fr (fun k => lo ≤ k ∧ sl.ownBlock ≠ some k) w1 w2 := ⟨hg.os, hg.tape, hg.output, hg.size, fun k hk hp => hg.block k hk (fun e => hp.2 e.symm)⟩
    refine hz.fr f1 fun k hk hp => ⟨hp.1, fun e => ?_⟩
    simp only [Value.ownBlock, Option.some.injEq] at e
    subst e
    rcases hat with q | q
    · exact hp.2 q
    · omega
  refine ⟨vs ++ [v], by rw [List.length_append]; exact ho, fun i y q => ?_⟩
  by_cases hi : i < es.length
  · rw [List.getElem?_append_left hi] at q
    obtain ⟨v', hv, hT⟩ := h2 i y q
    exact ⟨v', by rw [List.getElem?_append_left (by omega)]; exact hv, keep _ _ hT⟩
  · have hie : i = es.length := by
      have := (List.getElem?_eq_some_iff.1 q).1
      simp at this; omega
    subst hie
    rw [List.getElem?_append_right (Nat.le_refl _)] at q
    simp at q
    subst q
    exact ⟨v, by rw [List.getElem?_append_right (by omega)]; simp [hvl], keep _ _ (hx.fr (Fr.refl _ _) fun k _ hk => ⟨by omega, fun e => by have := hsl k e; omega⟩)⟩

/-- what a call ends in that reads a list -/
def PostR (w : World) (br : Nat) (t : ByteArray) (d : Nat) (r : Except (Nat × Nat) (List PX × Nat)) (e : Ending) (w' : World) : Prop :=
  Fr (· ≠ br) w w' ∧ match r with
    | .ok (l, j) => (∃ a len cap, e = .returned (.slice a len cap) ∧ RowP (fun k => w.heap.size ≤ k) w' (TreeE (fun k => w.heap.size ≤ k) w') a len l) ∧ RdF w' br t j d
    | .error (c, p) => e = Flt c p

set_option maxRecDepth 100000 in
set_option maxHeartbeats 2000000 in
theorem flist_any {br : Nat} {t : ByteArray} {self : Nat → Nat → Nat → RX PX} (hS : SelfOK br t self) (w : World) (d i m : Nat) (cl : ByteArray) (hd : d ≤ 24) (ht : t.size ≤ 4000) (hm : m ≤ 1000000) (hI : EnvF w br) (hr : RdF w br t i d)
    (r : Except (Nat × Nat) (List PX × Nat)) (h : listX (tkF t.data.toList) cl.data.toList (self 0 d) m [] i = some r) :
    Calls Tryz.prog 355 #[.pointer (some ⟨br, 0, none⟩), .func (.func 95) #[.pointer (some ⟨br, 0, none⟩)] #[], .string cl] w (PostR w br t d r) := by
  have HS : Hid (SelfOK br t self) := hS
  have HI : Hid (EnvF w br) := hI
  have HD : Hid (∀ (W : World) (m : ByteArray) (k : Nat) (b : Bool), _) := fun W m k b h => fneed_any W br t m k d h ht b
  have HK : Hid (∀ (W : World) (k : Nat) (b : Bool), _) := fun W k b h => fskip_any W br t cl k d h ht b
  have hlb := block_lt hr
  have HR : Hid (RdF w br t i d) := hr
  have H0 : Hid (listX (tkF t.data.toList) cl.data.toList (self 0 d) m [] i = some r) := h
  clear hI hS hr h
  have mo := follows
  obtain ⟨i0, hi0, hz0, hz1, hz2⟩ : ∃ i0, Tryz.prog.info? 93 = some i0 ∧ i0.zero = some (.pointer none) ∧ i0.size = 1 ∧ i0.bytes = 8 := by
    have := infoE
    cases hq : Tryz.prog.info? 93 with
    | none => rw [hq] at this; simp at this
    | some j => rw [hq] at this; simp at this; exact ⟨j, rfl, this.1, this.2.1, this.2.2⟩
  go_enter Tryz.func355, Tryz.ntmps355
  go_wp2_with fail
  go_loopg [7] (m) (fun f s7 wr => ∃ (j : Nat) (acc : List PX), acc.length + f ≤ 1000000 ∧ Hid (RdF wr br t j d) ∧ Hid (LSt wr w.heap.size s7 acc) ∧ Hid (listX (tkF t.data.toList) cl.data.toList (self 0 d) f acc j = some r) ∧ Hid (Fr (· ≠ br) w wr))
  case atStart => exact ⟨i, [], by simpa using hm, HR, LSt.nil _ _, H0, Fr.refl _ _⟩
  case round =>
    clear HR H0
    obtain ⟨j, acc, hac, R1, L1, P1, F1⟩ := hrel
    obtain ⟨f, rfl⟩ : ∃ f, gk = f + 1 := by
      cases gk with
      | zero => exact absurd P1.out (by simp [listX])
      | succ f => exact ⟨f, rfl⟩
    have hp := P1.out
    rw [listX] at hp
    go_wp2_with fail
    rcases bX_cases hp with ⟨⟨c, p⟩, hn, rfl⟩ | ⟨x, j2, hn, hk⟩
    · refine (fexpr_any HS.out wr d _ _ hd (HI.out.fr F1.out) R1.out hn).mono ?_
      rintro e w2 ⟨hf, rfl⟩
      exact ⟨rfl, F1.out.trans hf, rfl⟩
    refine (fexpr_any HS.out wr d _ _ hd (HI.out.fr F1.out) R1.out hn).mono ?_
    rintro e w2 ⟨hf, ⟨v, rfl, hv⟩, hr⟩
    have hw1 := F1.out.size
    have R2 : Hid (RdF w2 br t j2 d) := hr
    have F2 : Hid (Fr (· ≠ br) w w2) := F1.out.trans hf
    have T2 : Hid (TreeE (fun k => wr.heap.size ≤ k) w2 x v) := hv
    have L2 := L1.out.fr hf hlb
    have hsl : ∀ q, u7.ownBlock = some q → q < wr.heap.size := by
      obtain ⟨vs, h1, -⟩ := L1.out
      intro q hq
      exact (h1.lt q hq).2
    obtain ⟨vs, ho, h2⟩ := L2
    have hvl : vs.length = acc.length := by have := ho.1; omega
    have HO : Hid (w2.ownsRow w.heap.size 93 1 u7 acc.length vs) := ho
    have H2 : Hid (∀ (i : Nat) (x : PX), acc[i]? = some x → _) := h2
    have HSL : Hid (∀ q, u7.ownBlock = some q → q < wr.heap.size) := hsl
    have hw2 := F2.out.size
    have hw3 := hf.size
    clear hf hr hn hv ho h2 hsl R1 F1 L1 P1 hp
    obtain ⟨bx, rfl, -, -⟩ := T2.out.ptr
    have HOA : Hid ((w2.alloc (.cells #[.pointer (some ⟨bx, 0, none⟩)] 93)).ownsRow w.heap.size 93 1 u7 acc.length vs) := HO.out.alloc _
    go_wp2_with (at_builtin; refine wpList_append_lies _ rfl _ _ 154 rfl _ 93 i0 _ 1 8 Tryz.underlying154 hi0 hz0 hz1 hz2 rfl (by decide) u7 _ vs rfl HOA.out _ 1 1 [.pointer (some ⟨bx, 0, none⟩)] rfl rfl ?q1 ?q2 (by decide) ?q3 ?q4 ?q5 (w2.heap.size + 1) ?q6 ?_)
    case q1 =>
      intro k u hk
      match k, hk with
      | 0, hk => simp at hk; subst hk; simp [Addr.add]
      | k + 1, hk => simp at hk
    case q2 =>
      intro u hu
      simp only [List.mem_cons, List.not_mem_nil, or_false] at hu
      subst hu; rfl
    case q3 => unfold maxLen; omega
    case q4 => omega
    case q5 => simp; omega
    case q6 => simp
    intro g cap w3 ho hg hat hlt
    have hgr : w2.grownBy w3 u7.ownBlock := by
      have a1 := World.grownBy_alloc w2 (.cells #[.pointer (some ⟨bx, 0, none⟩)] 93) u7.ownBlock
      refine ⟨hg.os, hg.tape, hg.output, ?_, fun k hk hne => ?_⟩
      · have := hg.size; simp at this; omega
      · rw [hg.block k (by simp; omega) hne, a1.block k hk hne]
    have L3 : Hid (LSt w3 w.heap.size (.slice (some ⟨g, 0, none⟩) (acc.length + 1) cap) (acc ++ [x])) := LSt.push H2.out hvl T2.out hw1 HSL.out ho hgr (by rcases hat with q | q; exact .inl q; exact .inr (by omega))
    have F3a : Fr (fun k => u7.ownBlock ≠ some k) w2 w3 := ⟨hgr.os, hgr.tape, hgr.output, hgr.size, fun k hk hp => hgr.block k hk (fun e => hp e.symm)⟩
    have hsl2 : ∀ k, k < w.heap.size → u7.ownBlock ≠ some k := fun k hk e => by have := (HO.out.lt k e).1; omega
    have F3 : Hid (Fr (· ≠ br) w w3) := ⟨F3a.os.trans F2.out.os, F3a.tape.trans F2.out.tape, F3a.output.trans F2.out.output, Nat.le_trans F2.out.size F3a.size, fun k hk hq => (F3a.block k (by omega) (hsl2 k hk)).trans (F2.out.block k hk hq)⟩
    have R3 : Hid (RdF w3 br t j2 d) := RdF.of R2.out F3a (hsl2 br hlb)
    clear ho hg hat hlt hgr F3a hsl2 H2 HO HSL HOA T2 R2 F2
    have hlen : acc.length + 1 + f ≤ 1000000 := by omega
    generalize hA : acc ++ [x] = acc2 at L3 hk
    have hA2 : acc2.length = acc.length + 1 := by rw [← hA]; simp
    clear hA
    rw [← hA2] at L3 ⊢
    generalize hS7 : Value.slice (some ⟨g, 0, none⟩) acc2.length cap = sl at L3 ⊢
    clear hS7 hvl
    obtain ⟨a3, l3, c3, hsl3, hrow3⟩ := L3.out.row (by omega)
    clear hrow3
    subst hsl3
    cases hb : (tkF t.data.toList j2).tx == cl.data.toList with
    | true =>
      rw [hb, if_pos rfl] at hk
      have HQ : Hid (r = .ok (acc2, j2 + 1)) := by simp only [okX, Option.some.injEq] at hk; exact hk.symm
      have HK3 : Hid (Calls _ _ _ _ _) := HK.out w3 j2 true R3.out hb
      clear hk hb HK R3
      go_wp2_with (go_at_call 339; refine HK3.out.mono ?_; rintro e w4 ⟨rfl, hr, hf⟩; have R4 : Hid (RdF w4 br t (j2 + 1) d) := hr; have F4 : Hid (Fr (· ≠ br) w w4) := F3.out.trans hf; have L4 : Hid (LSt w4 w.heap.size _ acc2) := L3.out.fr hf hlb; clear hr hf)
      go_ret
      rw [HQ.out]
      obtain ⟨a4, l4, c4, hsl4, hrow4⟩ := L4.out.row (by omega)
      exact ⟨F4.out, ⟨a4, l4, c4, by rw [hsl4]; rfl, hrow4⟩, R4.out⟩
    | false =>
      rw [hb, if_neg (by simp)] at hk
      have HK3 : Hid (Calls _ _ _ _ _) := HK.out w3 j2 false R3.out hb
      clear hb HK R3
      go_wp2_with (go_at_call 339; refine HK3.out.mono ?_; rintro e w4 ⟨rfl, hr, hf⟩; have R4 : Hid (RdF w4 br t j2 d) := hr; have F4 : Hid (Fr (· ≠ br) w w4) := F3.out.trans hf; have L4 : Hid (LSt w4 w.heap.size _ acc2) := L3.out.fr hf hlb; clear hr hf)
      rcases needX_cases hk with ⟨hb, hk2⟩ | ⟨hb, rfl⟩
      case inr =>
        refine (HD.out w4 ⟨#[44]⟩ j2 false R4.out hb).mono ?_
        rintro e w5 ⟨hf, ⟨q, -⟩ | ⟨-, rfl⟩⟩
        · simp at q
        · exact ⟨rfl, F4.out.trans hf, rfl⟩
      refine (HD.out w4 ⟨#[44]⟩ j2 true R4.out hb).mono ?_
      rintro e w5 ⟨hf, ⟨-, rfl, hr⟩ | ⟨q, -⟩⟩
      case inr => simp at q
      have R5 : Hid (RdF w5 br t (j2 + 1) d) := hr
      have F5 : Hid (Fr (· ≠ br) w w5) := F4.out.trans hf
      have L5 : Hid (LSt w5 w.heap.size (.slice a3 l3 c3) acc2) := L4.out.fr hf hlb
      have P5 : Hid (_ = some r) := hk2
      clear hf hr hb hk hk2 R4 F4 L4 F3 L3
      go_wp2_with fail
      go_roundg f
      case measure => omega
      case rel => exact ⟨j2 + 1, acc2, by omega, R5, L5, P5, F5⟩
end Go.Proofs.YtjbekejcghjhbaaGreatDoor.Sx

namespace Go.Proofs.YtjbekejcghjhbaaGreatDoor.Sx
open Go.RowKit Go.Sort

set_option maxRecDepth 100000 in
set_option maxHeartbeats 1000000 in
theorem fany_any {br : Nat} {t : ByteArray} {self : Nat → Nat → Nat → RX PX} (hS : SelfOK br t self) (w : World) (d i m : Nat) (cl : ByteArray) (hd : d ≤ 24) (ht : t.size ≤ 4000) (hm : m ≤ 1000000) (hI : EnvF w br) (hr : RdF w br t i d)
    (r : Except (Nat × Nat) (List PX × Nat)) (h : anyX (tkF t.data.toList) cl.data.toList (self 0 d) m i = some r) :
    Calls Tryz.prog 350 #[.pointer (some ⟨br, 0, none⟩), .string cl] w (PostR w br t d r) := by
  have HS : Hid (SelfOK br t self) := hS
  have HI : Hid (EnvF w br) := hI
  have HK : Hid (∀ (b : Bool), _) := fun b => fskip_any w br t cl i d hr ht b
  clear hI hS hr
  have mo := follows
  unfold anyX at h
  cases hb : (tkF t.data.toList i).tx == cl.data.toList with
  | true =>
    rw [hb, if_pos rfl] at h
    have HQ : Hid (r = .ok ([], i + 1)) := by simp only [okX, Option.some.injEq] at h; exact h.symm
    have HK3 : Hid (Calls _ _ _ _ _) := HK.out true hb
    clear h hb HK
    go_enter Tryz.func350, Tryz.ntmps350
    go_wp2_with (go_at_call 339; refine HK3.out.mono ?_; rintro e w1 ⟨rfl, hr, hf⟩; have R1 : Hid (RdF w1 br t (i + 1) d) := hr; have F1 : Hid (Fr (· ≠ br) w w1) := hf; clear hr hf)
    go_ret
    rw [HQ.out]
    exact ⟨F1.out, ⟨none, 0, 0, rfl, row_nil _⟩, R1.out⟩
  | false =>
    rw [hb, if_neg (by simp)] at h
    have HK3 : Hid (Calls _ _ _ _ _) := HK.out false hb
    clear hb HK
    go_enter Tryz.func350, Tryz.ntmps350
    go_wp2_with (go_at_call 339; refine HK3.out.mono ?_; rintro e w1 ⟨rfl, hr, hf⟩; have R1 : Hid (RdF w1 br t i d) := hr; have F1 : Hid (Fr (· ≠ br) w w1) := hf; clear hr hf)
    refine (flist_any HS.out w1 d i m cl hd ht hm (HI.out.fr F1.out) R1.out r h).mono ?_
    rintro e w2 ⟨hf, hm2⟩
    have hz := F1.out.size
    rcases r with ⟨c, p⟩ | ⟨l, j⟩
    · obtain rfl := hm2
      exact ⟨rfl, F1.out.trans hf, rfl⟩
    · obtain ⟨⟨a, len, cap, rfl, hrow⟩, hr⟩ := hm2
      have HP : Hid (PostR w br t d (.ok (l, j)) (.returned (.slice a len cap)) w2) := ⟨F1.out.trans hf, ⟨a, len, cap, rfl, RowP.fr (Fr.refl _ _) (fun _ _ h => h.fr (Fr.refl _ _) fun _ _ q => by omega) (fun _ _ q => by omega) hrow⟩, hr⟩
      clear hf hrow hr HK3
      go_wp2_with fail
      go_ret
      exact HP.out

set_option maxRecDepth 100000 in
set_option maxHeartbeats 1000000 in
theorem fwithin_any {br : Nat} {t : ByteArray} {self : Nat → Nat → Nat → RX PX} (hS : SelfOK br t self) (w : World) (d i m : Nat) (cl : ByteArray) (hd : d ≤ 24) (ht : t.size ≤ 4000) (hm : m ≤ 1000000) (hI : EnvF w br) (hr : RdF w br t i d)
    (r : Except (Nat × Nat) (List PX × Nat)) (h : enterX (tkF t.data.toList) d i (fun j => listX (tkF t.data.toList) cl.data.toList (self 0 (d + 1)) m [] j) = some r) :
    Calls Tryz.prog 347 #[.pointer (some ⟨br, 0, none⟩), .func (.func 95) #[.pointer (some ⟨br, 0, none⟩)] #[], .string cl] w (PostR w br t d r) := by
  have HS : Hid (SelfOK br t self) := hS
  have HI : Hid (EnvF w br) := hI
  have HR : Hid (RdF w br t i d) := hr
  have hlb := block_lt hr
  clear hI hS hr
  have mo := follows
  go_enter Tryz.func347, Tryz.ntmps347
  go_wp2_with fail
  rcases enterX_cases hd h with ⟨hd2, hk⟩ | ⟨rfl, rfl⟩
  case inr =>
    refine (fenter_full w br t i HR.out).mono ?_
    rintro e w2 ⟨rfl, rfl⟩
    exact ⟨rfl, Fr.refl _ _, rfl⟩
  refine (fenter_ok w br t i d HR.out ht hd2).mono ?_
  rintro e w2 ⟨rfl, hr, hf⟩
  have R2 : Hid (RdF w2 br t (i + 1) (d + 1)) := hr
  have F2 : Hid (Fr (· ≠ br) w w2) := hf
  have hz := hf.size
  clear hr hf h HR
  go_wp2_with fail
  refine (flist_any HS.out w2 (d + 1) (i + 1) m cl (by omega) ht hm (HI.out.fr F2.out) R2.out r hk).mono ?_
  rintro e w3 ⟨hf, hm3⟩
  rcases r with ⟨c, p⟩ | ⟨l, j⟩
  · obtain rfl := hm3
    exact ⟨rfl, F2.out.trans hf, rfl⟩
  · obtain ⟨⟨a, len, cap, rfl, hrow⟩, hr⟩ := hm3
    have R3 : Hid (RdF w3 br t j (d + 1)) := hr
    have F3 : Hid (Fr (· ≠ br) w w3) := F2.out.trans hf
    have W3 : Hid (RowP (fun k => w.heap.size ≤ k) w3 (TreeE (fun k => w.heap.size ≤ k) w3) a len l) := RowP.fr (Fr.refl _ _) (fun _ _ h => h.fr (Fr.refl _ _) fun _ _ q => by omega) (fun _ _ q => by omega) hrow
    have HL : Hid (∀ (W : World) (k : Nat), _) := fun W k h => fleave_any W br t k d h (by omega)
    clear hf hrow hr hk R2 F2
    go_wp2_with (go_at_call 318; refine (HL.out _ _ R3.out).mono ?_; rintro e w4 ⟨rfl, hr, hf⟩; have R4 : Hid (RdF w4 br t j d) := hr; have F4 : Hid (Fr (· ≠ br) w w4) := F3.out.trans hf; have W4 : Hid (RowP (fun k => w.heap.size ≤ k) w4 (TreeE (fun k => w.heap.size ≤ k) w4) a len l) := RowP.fr (hf.mono fun k q => by omega) (fun _ _ h => h.fr (hf.mono fun k q => by omega) fun _ _ q => q) (fun _ _ q => q) W3.out; clear hr hf)
    go_ret
    exact ⟨F4.out, ⟨a, len, cap, rfl, W4.out⟩, R4.out⟩
end Go.Proofs.YtjbekejcghjhbaaGreatDoor.Sx

namespace Go.Proofs.YtjbekejcghjhbaaGreatDoor.Sx
open Go.RowKit Go.Sort
attribute [local go_sem] ident_name ident_at

theorem callX_eq (K : Nat → Tk) (self : Nat → Nat → Nat → RX PX) (m : Nat) (n : List UInt8) (d i : Nat) : callX K self m n d i = bX (enterX K d i fun j => listX K [41] (self 0 (d + 1)) m [] j) fun l j => okX (dCall n l) j := by
  unfold callX enterX
  split <;> rfl
/-- a node whose parts are the row that was read -/
theorem node_row {lo be : Nat} {w w' : World} {sort : Nat} {op nm : ByteArray} {n : Int} {at' : Nat} {pa : Option Addr} {len cap l0 c0 : Nat} {p0 : Option Addr} {kids : List PX} {x : PX} (hbe : be < w.heap.size) (hrow : RowP (fun k => w.heap.size ≤ k) w' (TreeE (fun k => w.heap.size ≤ k) w') pa len kids) (hb : lo ≤ be) (he' : EBlk w' be sort op nm n at' p0 l0 c0)
    (hm : Means sort op.data.toList nm.data.toList n kids x) : TreeE (fun k => lo ≤ k) (w'.setCell ⟨be, 5, none⟩ (.slice pa len cap)) x (.pointer (some ⟨be, 0, none⟩)) := by
  have hf : Fr (fun k => w.heap.size ≤ k) w' (w'.setCell ⟨be, 5, none⟩ (.slice pa len cap)) := (Fr.refl _ _).set (by simp; omega) _
  refine TreeE.node ⟨be, sort, op, nm, n, at', pa, len, cap, kids, rfl, hb, he'.parts _ _ _, ?_, hm⟩
  exact RowP.fr hf (fun _ _ h => h.fr hf fun _ _ q => by omega) (fun _ _ q => by omega) hrow

set_option maxRecDepth 100000 in
set_option maxHeartbeats 1000000 in
theorem fnamed_any {br : Nat} {t : ByteArray} {self : Nat → Nat → Nat → RX PX} (hS : SelfOK br t self) (w : World) (d i m : Nat) (hd : d ≤ 24) (ht : t.size ≤ 4000) (hm : m ≤ 1000000) (hI : EnvF w br) (hr : RdF w br t i d)
    (r : Except (Nat × Nat) (PX × Nat)) (h : namedX (tkF t.data.toList) self m d i = some r) :
    Calls Tryz.prog 348 #[.pointer (some ⟨br, 0, none⟩)] w (PostE w br t d r) := by
  have HS : Hid (SelfOK br t self) := hS
  have HI : Hid (EnvF w br) := hI
  have HN : Hid (∀ (q : Except (Nat × Nat) (List UInt8 × Nat)), _) := fun q => fname_any w br t i d hr ht q
  have hlb := block_lt hr
  clear hI hS hr
  have mo := follows
  unfold namedX at h
  go_enter Tryz.func348, Tryz.ntmps348
  go_wp2_with fail
  rcases bX_cases h with ⟨⟨c, p⟩, hn, rfl⟩ | ⟨n, j, hn, hk⟩
  · refine (HN.out _ hn).mono ?_
    rintro e w2 ⟨hf, rfl⟩
    exact ⟨rfl, hf, rfl⟩
  refine (HN.out _ hn).mono ?_
  rintro e w2 ⟨hf, rfl, hr⟩
  have R2 : Hid (RdF w2 br t j d) := hr
  have F2 : Hid (Fr (· ≠ br) w w2) := hf
  have HN' : Hid (n = txF t.data.toList i ∧ j = i + 1) := nameX_ok hn
  have hsp : (pcF t i).data.toList = n := by rw [HN'.out.1]; exact pcF_list t i
  have hz := hf.size
  clear hf hr hn h HN
  go_upto_region 3 with fail
  have E3 : Hid (EBlk ((w2.alloc (.cells #[.string (pcF t i), .int .i64 (atF t.data.toList i : Int)] 324)).alloc (.cells #[.int .i64 3, .string ⟨#[]⟩, .string (pcF t i), .int .i64 0, .int .i64 (atF t.data.toList i : Int), .slice none 0 0] 156)) (w2.heap.size + 1) 3 ⟨#[]⟩ (pcF t i) 0 (atF t.data.toList i) none 0 0) := heap_new (by simp)
  have hfa : Fr (fun _ => True) w2 ((w2.alloc (.cells #[.string (pcF t i), .int .i64 (atF t.data.toList i : Int)] 324)).alloc (.cells #[.int .i64 3, .string ⟨#[]⟩, .string (pcF t i), .int .i64 0, .int .i64 (atF t.data.toList i : Int), .slice none 0 0] 156)) := ((Fr.refl _ w2).alloc _).alloc _
  have R3 : Hid (RdF _ br t j d) := RdF.of R2.out hfa trivial
  have F3 : Hid (Fr (· ≠ br) w _) := F2.out.trans (hfa.mono fun _ _ => trivial)
  clear hfa R2 F2
  generalize (w2.alloc (.cells #[.string (pcF t i), .int .i64 (atF t.data.toList i : Int)] 324)).alloc (.cells #[.int .i64 3, .string ⟨#[]⟩, .string (pcF t i), .int .i64 0, .int .i64 (atF t.data.toList i : Int), .slice none 0 0] 156) = w3 at E3 R3 F3 ⊢
  generalize hbe : w2.heap.size + 1 = be at E3 ⊢
  have hne : be ≠ br := by omega
  have hwb : w.heap.size ≤ be := by omega
  have hle : be < w3.heap.size := block_lt E3.out
  clear hbe
  have h2 := block_cell R3.out 2
  have hpl : (pcF t j).toList = txF t.data.toList j := by rw [ByteArray.toList_eq, pcF_list]
  have htx : (tkF t.data.toList j).tx = txF t.data.toList j := rfl
  simp only [htx] at hk
  generalize pcF t j = pc at h2 hpl
  by_cases q1 : txF t.data.toList j = [39]
  · have g1 : (pc.toList == [39]) = true := by rw [hpl, q1]; rfl
    rw [q1, if_pos (by decide)] at hk
    have HQ : Hid (r = .ok (dLeaf (n ++ [39]), j + 1)) := by simp only [okX, Option.some.injEq] at hk; exact hk.symm
    have c0 := block_cell E3.out 0
    have f0 := frozen_block E3.out 0
    have E4 : Hid (EBlk (w3.setCell ⟨be, 0, none⟩ (.int .i64 4)) be 4 ⟨#[]⟩ (pcF t i) 0 (atF t.data.toList i) none 0 0) := E3.out.sort 4
    have HA : Hid (Calls _ _ _ _ _) := fadvance_st (w3.setCell ⟨be, 0, none⟩ (.int .i64 4)) br t j d (R3.out.setB (Ne.symm hne) _) ht
    have F4 : Hid (Fr (· ≠ br) w (w3.setCell ⟨be, 0, none⟩ (.int .i64 4))) := F3.out.setB hwb _
    clear hpl htx q1 hk E3 R3 F3
    go_wp2_with (go_at_call 146; refine HA.out.mono ?_; rintro e w5 ⟨rfl, hr, hf⟩; have R5 : Hid (RdF w5 br t (j + 1) d) := hr; have F5 : Hid (Fr (· ≠ br) w w5) := F4.out.trans hf; have E5 : Hid (EBlk w5 be 4 ⟨#[]⟩ (pcF t i) 0 (atF t.data.toList i) none 0 0) := E4.out.of hf hne; clear hr hf)
    go_ret
    rw [HQ.out]
    exact ⟨F5.out, ⟨_, rfl, TreeE.node ⟨be, 4, ⟨#[]⟩, pcF t i, 0, atF t.data.toList i, none, 0, 0, [], rfl, hwb, E5.out, row_nil _, .inr (.inr (.inr (.inr (.inl ⟨rfl, by rw [hsp]⟩))))⟩⟩, R5.out⟩
  have g1 : (pc.toList == [39]) = false := by rw [hpl]; simpa using q1
  rw [if_neg (by simpa using q1)] at hk
  by_cases q2 : txF t.data.toList j = [40]
  · have g2 : (pc.toList == [40]) = true := by rw [hpl, q2]; rfl
    rw [q2, if_pos (by decide), callX_eq] at hk
    have c0 := block_cell E3.out 0
    have f0 := frozen_block E3.out 0
    have E4 : Hid (EBlk (w3.setCell ⟨be, 0, none⟩ (.int .i64 5)) be 5 ⟨#[]⟩ (pcF t i) 0 (atF t.data.toList i) none 0 0) := E3.out.sort 5
    have R4 : Hid (RdF (w3.setCell ⟨be, 0, none⟩ (.int .i64 5)) br t j d) := R3.out.setB (Ne.symm hne) _
    have F4 : Hid (Fr (· ≠ br) w (w3.setCell ⟨be, 0, none⟩ (.int .i64 5))) := F3.out.setB hwb _
    have hle4 : be < (w3.setCell ⟨be, 0, none⟩ (.int .i64 5)).heap.size := block_lt E4.out
    clear hpl htx q1 q2 E3 R3 F3
    go_wp2_with fail
    clear c0 f0 h2
    generalize w3.setCell ⟨be, 0, none⟩ (.int .i64 5) = w4 at E4 R4 F4 hle4 ⊢
    rcases bX_cases hk with ⟨⟨c, p⟩, hn, rfl⟩ | ⟨l, j2, hn, hk2⟩
    · refine (fwithin_any HS.out w4 d j m ⟨#[41]⟩ hd ht hm (HI.out.fr F4.out) R4.out _ hn).mono ?_
      rintro e w5 ⟨hf, rfl⟩
      exact ⟨rfl, F4.out.trans hf, rfl⟩
    refine (fwithin_any HS.out w4 d j m ⟨#[41]⟩ hd ht hm (HI.out.fr F4.out) R4.out _ hn).mono ?_
    rintro e w5 ⟨hf, ⟨a, len, cap, rfl, hrow⟩, hr⟩
    have R5 : Hid (RdF w5 br t j2 d) := hr
    have F5 : Hid (Fr (· ≠ br) w w5) := F4.out.trans hf
    have E5 : Hid (EBlk w5 be 5 ⟨#[]⟩ (pcF t i) 0 (atF t.data.toList i) none 0 0) := E4.out.of hf hne
    have W5 : Hid (RowP (fun k => w4.heap.size ≤ k) w5 (TreeE (fun k => w4.heap.size ≤ k) w5) a len l) := hrow
    have HQ : Hid (r = .ok (dCall n l, j2)) := by simp only [okX, Option.some.injEq] at hk2; exact hk2.symm
    have c5 := block_cell E5.out 5
    have f5 := frozen_block E5.out 5
    clear hf hr hrow hn hk hk2 R4 F4
    go_wp2_with fail
    go_ret
    rw [HQ.out]
    exact ⟨F5.out.setB hwb _, ⟨_, rfl, node_row hle4 W5.out hwb E5.out (.inr (.inr (.inr (.inr (.inr (.inl ⟨rfl, by rw [hsp]⟩))))))⟩, R5.out.setB (Ne.symm hne) _⟩
  have g2 : (pc.toList == [40]) = false := by rw [hpl]; simpa using q2
  rw [if_neg (by simpa using q2)] at hk
  have HQ : Hid (r = .ok (dLeaf n, j)) := by simp only [okX, Option.some.injEq] at hk; exact hk.symm
  clear hpl htx q1 q2 hk
  go_wp2_with fail
  go_ret
  rw [HQ.out]
  exact ⟨F3.out, ⟨_, rfl, TreeE.node ⟨be, 3, ⟨#[]⟩, pcF t i, 0, atF t.data.toList i, none, 0, 0, [], rfl, hwb, E3.out, row_nil _, .inr (.inr (.inr (.inl ⟨rfl, by rw [hsp]⟩)))⟩⟩, R3.out⟩
end Go.Proofs.YtjbekejcghjhbaaGreatDoor.Sx
