/- What a bracket begins: functions. -/
import Derived.Test.YtjbekejcghjhbaaGreatDoorF14
namespace Go.Proofs.YtjbekejcghjhbaaGreatDoor.Sx
open Go.RowKit Go.Sort

/-- the parts of a function so far, and the node that has them -/
def FSt (lo base : Nat) (w : World) (be at' : Nat) (es : List PX) (pa : Option Addr) (ln cp : Nat) : Prop :=
  EBlk w be 12 ⟨#[102, 117, 110]⟩ ⟨#[]⟩ 0 at' pa ln cp ∧ ∃ vs, w.ownsRow base 93 1 (.slice pa ln cp) es.length vs ∧ ∀ (i : Nat) (x : PX), es[i]? = some x → ∃ v, vs[i]? = some v ∧ TreeE (fun k => lo ≤ k ∧ k < base) w x v
def flatQ (l : List (PX × PX)) : List PX := l.flatMap fun p => [p.1, p.2]
theorem flatQ_take (l : List (PX × PX)) (k : Nat) (p : PX × PX) (h : l[k]? = some p) : flatQ (l.take (k + 1)) = flatQ (l.take k) ++ [p.1, p.2] := by
  rw [List.take_add_one, h]; simp [flatQ]
theorem flatQ_len : ∀ l : List (PX × PX), (flatQ l).length = 2 * l.length
  | [] => rfl
  | a :: l => by
    have := flatQ_len l
    simp only [flatQ, List.flatMap_cons, List.length_append, List.length_cons, List.length_nil] at this ⊢
    omega
/-- two parts more -/
theorem FSt.push {lo base be at' ln cp g cap : Nat} {pa : Option Addr} {w wa w9 : World} {es : List PX} {x y : PX} {v u : Value} (h : FSt lo base w be at' es pa ln cp) (hbe : be < lo) (hx : TreeE (fun k => lo ≤ k ∧ k < base) w x v) (hy : TreeE (fun k => lo ≤ k ∧ k < base) w y u)
    (ha : Fr (fun _ => True) w wa) {vs : List Value} (hvs : w.ownsRow base 93 1 (.slice pa ln cp) es.length vs) (h2 : ∀ (i : Nat) (x : PX), es[i]? = some x → ∃ v, vs[i]? = some v ∧ TreeE (fun k => lo ≤ k ∧ k < base) w x v)
    (ho : w9.ownsRow base 93 1 (.slice (some ⟨g, 0, none⟩) (es.length + 2) cap) (es.length + 2) (vs ++ [v, u])) (hg : wa.grownBy w9 (Value.slice pa ln cp).ownBlock) :
    FSt lo base (w9.setCell ⟨be, 5, none⟩ (.slice (some ⟨g, 0, none⟩) (es.length + 2) cap)) be at' (es ++ [x, y]) (some ⟨g, 0, none⟩) (es.length + 2) cap ∧ Fr (fun q => q ≠ be ∧ q < base) w (w9.setCell ⟨be, 5, none⟩ (.slice (some ⟨g, 0, none⟩) (es.length + 2) cap)) ∧ w9.cell? ⟨be, 5, none⟩ = some (.slice pa ln cp) ∧ w9.frozen? ⟨be, 5, none⟩ = false := by
  have hown : ∀ q, (Value.slice pa ln cp).ownBlock = some q → base ≤ q := fun q hq => (hvs.lt q hq).1
  have hF : Fr (fun q => q < base) w w9 := ⟨hg.os.trans ha.os, hg.tape.trans ha.tape, hg.output.trans ha.output, Nat.le_trans ha.size hg.size, fun k hk hq => (hg.block k (Nat.lt_of_lt_of_le hk ha.size) (fun e => by have := hown k e.symm; omega)).trans (ha.block k hk trivial)⟩
  have hF2 : Fr (fun q => q ≠ be ∧ q < base) w (w9.setCell ⟨be, 5, none⟩ (.slice (some ⟨g, 0, none⟩) (es.length + 2) cap)) := (hF.mono fun _ q => q.2).set (by simp) _
  have hlb := block_lt h.1
  have hbb : be < base := by
    rcases Nat.lt_or_ge be base with q | q
    · exact q
    · obtain ⟨b, -, hb, -⟩ := hx.ptr
      omega
  have hE9 : EBlk w9 be 12 ⟨#[102, 117, 110]⟩ ⟨#[]⟩ 0 at' pa ln cp := h.1.of hF hbb
  have hgb : base ≤ g := (ho.lt g rfl).1
  have hvl : vs.length = es.length := by have := hvs.1; omega
  refine ⟨⟨hE9.parts _ _ _, vs ++ [v, u], ?_, fun i z q => ?_⟩, hF2, block_cell hE9 5, frozen_block hE9 5⟩
  · rw [List.length_append]
    exact owns1_of ho fun q hq _ _ => by
      simp only [Value.ownBlock, Option.some.injEq] at hq
      exact Below.heap_setCell w9 _ _ q (by simp; omega)
  · have keep : ∀ (z : PX) (t : Value), TreeE (fun k => lo ≤ k ∧ k < base) w z t → TreeE (fun k => lo ≤ k ∧ k < base) (w9.setCell ⟨be, 5, none⟩ (.slice (some ⟨g, 0, none⟩) (es.length + 2) cap)) z t := fun z t ht => ht.fr (hF2.mono fun k q => by omega) fun _ _ q => q
    by_cases hi : i < es.length
    · rw [List.getElem?_append_left hi] at q
      obtain ⟨t, ht, hT⟩ := h2 i z q
      exact ⟨t, by rw [List.getElem?_append_left (by omega)]; exact ht, keep _ _ hT⟩
    · rw [List.getElem?_append_right (by omega)] at q
      rw [List.getElem?_append_right (by omega), hvl]
      match hm : i - es.length with
      | 0 => rw [hm] at q; simp at q; subst q; exact ⟨v, rfl, keep _ _ hx⟩
      | 1 => rw [hm] at q; simp at q; subst q; exact ⟨u, rfl, keep _ _ hy⟩
      | n + 2 => rw [hm] at q; simp at q

theorem listX_count {K : Nat → Tk} {β : Type} {cl : List UInt8} {item : Nat → RX β} : ∀ m acc i l j, listX K cl item m acc i = some (.ok (l, j)) → l.length ≤ acc.length + m
  | 0, _, _, _, _, h => by simp [listX] at h
  | m + 1, acc, i, l, j, h => by
    rw [listX] at h
    rcases bX_cases h with ⟨e, -, q⟩ | ⟨x, k, -, h2⟩
    · simp at q
    · split at h2
      · simp only [okX, Option.some.injEq, Except.ok.injEq, Prod.mk.injEq] at h2
        rw [← h2.1]; simp
      · rcases needX_cases h2 with ⟨-, h3⟩ | ⟨-, q⟩
        · have := listX_count m _ _ _ _ h3
          simp only [List.length_append, List.length_cons, List.length_nil] at this; omega
        · simp at q
/-- all its parts are there -/
theorem FSt.tree {lo base lw be at' ln cp : Nat} {pa : Option Addr} {w : World} {es : List PX} (h : FSt lo base w be at' es pa ln cp) (h1 : lw ≤ lo) (h2 : lw ≤ base) (h3 : lw ≤ be) (hl : es.length ≤ 4294967296) : TreeE (fun k => lw ≤ k) w (dFun es) (.pointer (some ⟨be, 0, none⟩)) := by
  obtain ⟨hE, vs, ho, ht⟩ := h
  have hown : ∀ q, (Value.slice pa ln cp).ownBlock = some q → base ≤ q := fun q hq => (ho.lt q hq).1
  have hlen : ln = es.length := by
    rcases ho.2 with ⟨e, hn⟩ | ⟨g, cap, cur, e, -⟩
    · injection e with e1 e2 e3; omega
    · injection e with e1 e2 e3
  have hrow : RowP (fun k => lw ≤ k) w (TreeE (fun k => lw ≤ k) w) pa ln es := by
    rcases ho.2 with ⟨e, hn⟩ | ⟨g, cap, cur, e, hg, hq, hc, _, hs, htk⟩
    · injection e with e1 e2 e3
      exact ⟨hlen, by omega, .inl (by omega)⟩
    · injection e with e1 e2 e3
      refine ⟨hlen, ?_, .inr ⟨g, 0, e1, block_lt hq, by omega, fun i x q => ?_⟩⟩
      · omega
      · obtain ⟨v, hv, hT⟩ := ht i x q
        refine ⟨v, ?_, hT.fr (Fr.refl _ _) fun _ _ q => by omega⟩
        rw [Nat.zero_add, block_cell hq]
        rw [← htk, List.getElem?_take] at hv
        split at hv
        · simpa using hv
        · simp at hv
  exact TreeE.node ⟨be, 12, ⟨#[102, 117, 110]⟩, ⟨#[]⟩, 0, at', pa, ln, cp, es, rfl, h3, hE, hrow, .inr (.inr (.inr (.inr (.inr (.inr (.inr (.inr (.inr (.inr (.inr ⟨.inr rfl, .inr (.inr (.inr (.inl ⟨rfl, rfl⟩)))⟩))))))))))⟩
theorem Fr.fresh3 {br be B : Nat} {w w2 w3 : World} (F : Fr (· ≠ br) w w2) (hf : Fr (fun q => q ≠ be ∧ q < B) w2 w3) (h : w.heap.size ≤ be) (hB : w.heap.size ≤ B) : Fr (· ≠ br) w w3 :=
  ⟨hf.os.trans F.os, hf.tape.trans F.tape, hf.output.trans F.output, Nat.le_trans F.size hf.size, fun k hk hq => (hf.block k (Nat.lt_of_lt_of_le hk F.size) ⟨by omega, by omega⟩).trans (F.block k hk hq)⟩

set_option maxRecDepth 100000 in
set_option maxHeartbeats 2000000 in
theorem fbracket_fun {br : Nat} {t : ByteArray} {self : Nat → Nat → Nat → RX PX} (hS : SelfOK br t self) (w : World) (d i m : Nat) (hd : d ≤ 24) (ht : t.size ≤ 4000) (hm : m ≤ 1000000) (hI : EnvF w br) (hr : RdF w br t i d) (ho : txF t.data.toList i = [91])
    (r : Except (Nat × Nat) (PX × Nat)) (h : bracketX (tkF t.data.toList) self m d i = some r) :
    Calls Tryz.prog 338 #[.pointer (some ⟨br, 0, none⟩)] w (PostE w br t d r) := by
  have HS : Hid (SelfOK br t self) := hS
  have HI : Hid (EnvF w br) := hI
  have HR : Hid (RdF w br t i d) := hr
  have hlb := block_lt hr
  have h1 := block_cell hr 1
  have HL : Hid (∀ (W : World) (k : Nat), _) := fun W k h => fleave_any W br t k d h hd
  clear hI hS hr
  have mo := follows
  have E1 : Hid (EBlk (w.alloc (.cells #[.int .i64 12, .string ⟨#[]⟩, .string ⟨#[]⟩, .int .i64 0, .int .i64 (atF t.data.toList i : Int), .slice none 0 0] 156)) w.heap.size 12 ⟨#[]⟩ ⟨#[]⟩ 0 (atF t.data.toList i) none 0 0) := heap_new rfl
  have F1 : Hid (Fr (· ≠ br) w (w.alloc (.cells #[.int .i64 12, .string ⟨#[]⟩, .string ⟨#[]⟩, .int .i64 0, .int .i64 (atF t.data.toList i : Int), .slice none 0 0] 156))) := (Fr.refl _ w).alloc _
  have R1 : Hid (RdF (w.alloc (.cells #[.int .i64 12, .string ⟨#[]⟩, .string ⟨#[]⟩, .int .i64 0, .int .i64 (atF t.data.toList i : Int), .slice none 0 0] 156)) br t i d) := RdF.of HR.out (P := fun _ => True) ((Fr.refl _ w).alloc _) trivial
  have hpl : (pcF t i).toList = txF t.data.toList i := by rw [ByteArray.toList_eq, pcF_list]
  have htx : (tkF t.data.toList i).tx = txF t.data.toList i := rfl
  unfold bracketX at h
  simp only [htx] at h
  go_enter Tryz.func338, Tryz.ntmps338
  go_upto_region 2 with fail
  clear h1 HR
  generalize (w.alloc (.cells #[.int .i64 12, .string ⟨#[]⟩, .string ⟨#[]⟩, .int .i64 0, .int .i64 (atF t.data.toList i : Int), .slice none 0 0] 156)) = w1 at E1 F1 R1 ⊢
  obtain ⟨be, hbe⟩ : ∃ be, w.heap.size = be := ⟨_, rfl⟩
  rw [hbe] at E1 hlb ⊢
  have hwb : w.heap.size ≤ be := by omega
  have hbw : be ≤ w.heap.size := by omega
  clear hbe
  have hne : be ≠ br := by omega
  have hle : be < w1.heap.size := block_lt E1.out
  have h2 := block_cell R1.out 2
  have g0 : ((pcF t i).toList == [40]) = false := by rw [hpl, ho]; rfl
  have g1 : ((pcF t i).toList == [123]) = false := by rw [hpl, ho]; rfl
  have g2 : ((pcF t i).toList == [60, 60]) = false := by rw [hpl, ho]; rfl
  have g3 : ((pcF t i).toList == [91]) = true := by rw [hpl, ho]; rfl
  rw [ho] at h
  rw [if_neg (by decide), if_neg (by decide), if_neg (by decide), if_pos (by decide)] at h
  clear hpl htx ho
  go_wp2_with fail
  rcases enterX_cases hd h with ⟨hd2, hk⟩ | ⟨rfl, rfl⟩
  case inr =>
    refine (fenter_full w1 br t i R1.out).mono ?_
    rintro e w2 ⟨rfl, rfl⟩
    exact ⟨rfl, F1.out, rfl⟩
  refine (fenter_ok w1 br t i d R1.out ht hd2).mono ?_
  rintro e w2 ⟨rfl, hr, hf⟩
  have R2 : Hid (RdF w2 br t (i + 1) (d + 1)) := hr
  have E2 : Hid (EBlk w2 be 12 ⟨#[]⟩ ⟨#[]⟩ 0 (atF t.data.toList i) none 0 0) := E1.out.of hf hne
  have F2 : Hid (Fr (· ≠ br) w w2) := F1.out.trans hf
  have hs2 : be < w2.heap.size := block_lt E2.out
  have hz2 := F2.out.size
  clear hr hf E1 F1 R1 h h2
  have HD : Hid (∀ (W : World) (m : ByteArray) (k : Nat) (b : Bool), _) := fun W m k b h => fneed_any W br t m k (d + 1) h ht b
  have c1 := block_cell E2.out 1
  have f1 := frozen_block E2.out 1
  go_wp2_with fail
  have E3 : Hid (EBlk (w2.setCell ⟨be, 1, none⟩ (.string ⟨#[102, 117, 110]⟩)) be 12 ⟨#[102, 117, 110]⟩ ⟨#[]⟩ 0 (atF t.data.toList i) none 0 0) := E2.out.op _
  have R3 : Hid (RdF (w2.setCell ⟨be, 1, none⟩ (.string ⟨#[102, 117, 110]⟩)) br t (i + 1) (d + 1)) := R2.out.setB (Ne.symm hne) _
  have F3 : Hid (Fr (· ≠ br) w (w2.setCell ⟨be, 1, none⟩ (.string ⟨#[102, 117, 110]⟩))) := F2.out.setB hwb _
  clear c1 f1 E2 R2 F2
  generalize w2.setCell ⟨be, 1, none⟩ (.string ⟨#[102, 117, 110]⟩) = w3 at E3 R3 F3 ⊢
  have hs3 : be < w3.heap.size := block_lt E3.out
  have hz3 := F3.out.size
  rcases bX_cases hk with ⟨⟨c, p⟩, hn, rfl⟩ | ⟨l, j, hn, hk2⟩
  · refine (flist2_any HS.out w3 (d + 1) _ m ⟨#[93]⟩ (by omega) ht hm (HI.out.fr F3.out) R3.out _ hn).mono ?_
    rintro e w4 ⟨hf, rfl⟩
    exact ⟨rfl, F3.out.trans hf, rfl⟩
  refine (flist2_any HS.out w3 (d + 1) _ m ⟨#[93]⟩ (by omega) ht hm (HI.out.fr F3.out) R3.out _ hn).mono ?_
  rintro e w4 ⟨hf, ⟨a, len, cap, rfl, hrow⟩, hr⟩
  have R4 : Hid (RdF w4 br t j (d + 1)) := hr
  have F4 : Hid (Fr (· ≠ br) w w4) := F3.out.trans hf
  have E4 : Hid (EBlk w4 be 12 ⟨#[102, 117, 110]⟩ ⟨#[]⟩ 0 (atF t.data.toList i) none 0 0) := E3.out.of hf hne
  have W4 : Hid (RowQ (fun k => w3.heap.size ≤ k) w4 a len l) := hrow
  have HQ : Hid (r = .ok (dFun (l.flatMap fun p => [p.1, p.2]), j)) := by simp only [okX, Option.some.injEq] at hk2; exact hk2.symm
  have hs4 : be < w4.heap.size := block_lt E4.out
  have hz4 := hf.size
  have hlm : l.length ≤ 1000000 := by have := listX_count _ _ _ _ _ hn; simp at this; omega
  clear hf hr hrow hn hk hk2 E3 F3 R3
  go_wp2_with fail
  have W5 : Hid (RowQ (fun k => w3.heap.size ≤ k ∧ k < w4.heap.size) w4 a len l) := W4.out.fr (Fr.refl _ _) fun k hk q => ⟨q, hk⟩
  have HLEN : Hid (len = l.length) := W4.out.1
  have hl4 : len ≤ 4294967296 := W4.out.2.1
  clear W4
  obtain ⟨i0, hi0, hz0, hz1, hz2⟩ : ∃ i0, Tryz.prog.info? 93 = some i0 ∧ i0.zero = some (.pointer none) ∧ i0.size = 1 ∧ i0.bytes = 8 := by
    have := infoE
    cases hq : Tryz.prog.info? 93 with
    | none => rw [hq] at this; simp at this
    | some j => rw [hq] at this; simp at this; exact ⟨j, rfl, this.1, this.2.1, this.2.2⟩
  have F0 : Hid (FSt w3.heap.size w4.heap.size w4 be (atF t.data.toList i) (flatQ (l.take 0)) none 0 0) := ⟨E4.out, [], World.ownsRow_nil _ _ _ _, fun i x q => by simp [flatQ] at q⟩
  go_loopw [57] (fun ix wr => ∃ k : Nat, k ≤ len ∧ ix = .int .i64 k ∧ ∃ pa ln cp, Hid (FSt w3.heap.size w4.heap.size wr be (atF t.data.toList i) (flatQ (l.take k)) pa ln cp) ∧ Hid (Fr (fun q => q ≠ be ∧ q < w4.heap.size) w4 wr)) (fun ix _ => len - (intOf ix).toNat)
  case atStart => exact ⟨0, Nat.zero_le _, rfl, none, 0, 0, F0, Fr.refl _ _⟩
  case round =>
    clear F0
    obtain ⟨k, hk, rfl, pa, ln, cp, FS, FF⟩ := hrel
    have h4r := FF.out.size
    by_cases hlt : k < len
    · obtain ⟨p, hp⟩ : ∃ p, l[k]? = some p := ⟨_, List.getElem?_eq_getElem (by have := HLEN.out; omega)⟩
      obtain ⟨bq, off, rfl, hbq, hbp, hcs⟩ := W5.out.2.2.resolve_left (by omega)
      obtain ⟨v, u, hv, hu, hT, hU⟩ := hcs k p hp
      have hbr : wr.heap[bq]? = w4.heap[bq]? := FF.out.block bq hbq (by omega)
      have y0 := (World.cell?_of_block (w := w4) (a := ⟨bq, off + k * 2, none⟩) hbr).trans hv
      have y1 := (World.cell?_of_block (w := w4) (a := ⟨bq, off + k * 2 + 1, none⟩) hbr).trans hu
      obtain ⟨bx, rfl, -, -⟩ := hT.ptr
      obtain ⟨by', rfl, -, -⟩ := hU.ptr
      have T5 : Hid (TreeE _ wr p.1 _) := hT.fr (FF.out.mono fun k q => by omega) fun _ _ q => q
      have U5 : Hid (TreeE _ wr p.2 _) := hU.fr (FF.out.mono fun k q => by omega) fun _ _ q => q
      have c5 := block_cell FS.out.1 5
      have hbe5 : be < wr.heap.size := block_lt FS.out.1
      have hbq5 : bq < wr.heap.size := by omega
      have HP : Hid (l[k]? = some p) := hp
      clear hv hu hT hU hcs hp hbr
      go_wp2_with fail
      have A1 : Hid (Fr (fun _ => True) wr (wr.alloc (.cells #[.pointer (some ⟨bx, 0, none⟩), .pointer (some ⟨by', 0, none⟩)] 338))) := (Fr.refl _ _).alloc _
      have BP : Hid ((wr.alloc (.cells #[.pointer (some ⟨bx, 0, none⟩), .pointer (some ⟨by', 0, none⟩)] 338)).heap[wr.heap.size]? = some (.cells #[.pointer (some ⟨bx, 0, none⟩), .pointer (some ⟨by', 0, none⟩)] 338 (0, 0))) := heap_new rfl
      clear y0 y1 c5
      generalize wr.alloc (.cells #[.pointer (some ⟨bx, 0, none⟩), .pointer (some ⟨by', 0, none⟩)] 338) = W1 at A1 BP ⊢
      obtain ⟨bp, hbp'⟩ : ∃ bp, wr.heap.size = bp := ⟨_, rfl⟩
      rw [hbp'] at BP hbe5 hbq5 h4r ⊢
      clear hbp'
      have z5 := block_cell (EBlk.of FS.out.1 A1.out trivial) 5
      have z5d := block_cell (EBlk.of FS.out.1 A1.out.drew trivial) 5
      have q0 := block_cell BP.out 0
      have q1 := block_cell BP.out 1
      have BPd : W1.drew.heap[bp]? = some (.cells #[.pointer (some ⟨bx, 0, none⟩), .pointer (some ⟨by', 0, none⟩)] 338 (0, 0)) := ((Fr.grew (P := fun _ => True) (Grew.refl W1).drew).block bp (block_lt BP.out) trivial).trans BP.out
      have q0d := block_cell BPd 0
      have q1d := block_cell BPd 1
      have hbpW : bp < W1.heap.size := block_lt BP.out
      have hbeW : be < W1.heap.size := block_lt (EBlk.of FS.out.1 A1.out trivial)
      obtain ⟨vs, ho, h2⟩ := FS.out.2
      have hfl : (flatQ (l.take k)).length ≤ 8589934592 := by
        rw [flatQ_len, List.length_take]
        have := W5.out.2.1
        omega
      have OW : Hid ((W1.drew.alloc (.cells #[.pointer (some ⟨bx, 0, none⟩), .pointer (some ⟨by', 0, none⟩)] 93)).ownsRow w4.heap.size 93 1 (.slice pa ln cp) (flatQ (l.take k)).length vs) := owns1_of ho fun g _ hg hlt => (A1.out.drew.alloc _).block g hlt trivial
      have NB : Hid ((W1.drew.alloc (.cells #[.pointer (some ⟨bx, 0, none⟩), .pointer (some ⟨by', 0, none⟩)] 93)).heap[W1.heap.size]? = some (.cells #[.pointer (some ⟨bx, 0, none⟩), .pointer (some ⟨by', 0, none⟩)] 93 (0, 0))) := heap_new (by simp)
      have HPU : Hid (∀ (g cap : Nat) (w9 : World), _) := fun g cap w9 ho9 hg9 => FSt.push FS.out hs3 T5.out U5.out (A1.out.drew.alloc (.cells #[.pointer (some ⟨bx, 0, none⟩), .pointer (some ⟨by', 0, none⟩)] 93)) ho h2 (g := g) (cap := cap) (w9 := w9) ho9 hg9
      have HFT : Hid (flatQ (l.take (k + 1)) = flatQ (l.take k) ++ [p.1, p.2]) := flatQ_take l k p HP.out
      have hmx : (flatQ (l.take k)).length + 2 ≤ maxLen := by unfold maxLen; omega
      have hby : ((flatQ (l.take k)).length + 2) * 8 ≤ 140737488355328 := by omega
      have LW : Hid (w4.heap.size ≤ (W1.drew.alloc (.cells #[.pointer (some ⟨bx, 0, none⟩), .pointer (some ⟨by', 0, none⟩)] 93)).heap.size) := by
        show _ ≤ _
        simp; omega
      have HNV : Hid (∀ u ∈ [Value.pointer (some ⟨bx, 0, none⟩), Value.pointer (some ⟨by', 0, none⟩)], u.oneCell' = true) := by
        intro u hu
        simp only [List.mem_cons, List.not_mem_nil, or_false] at hu
        rcases hu with rfl | rfl <;> rfl
      clear ho h2 BPd hfl
      go_region_law (refine step_append_lies _ rfl _ _ 154 rfl w4.heap.size 93 i0 _ 1 8 Tryz.underlying154 hi0 hz0 hz1 hz2 rfl (by decide) (.slice pa ln cp) _ vs (by simp [Act.eval]) OW.out ⟨W1.heap.size, 0, none⟩ 2 2 [.pointer (some ⟨bx, 0, none⟩), .pointer (some ⟨by', 0, none⟩)] (by simp [Act.eval]) rfl (World.news_of_block NB.out) HNV.out (by decide) hmx hby LW.out (W1.heap.size + 1) (by simp) ?_; intro g cap w9 ho9 hg9 hat hlt9; obtain ⟨p1, p2, p3, p4⟩ := HPU.out g cap w9 ho9 hg9; have P1 : Hid (FSt _ _ _ _ _ _ _ _ _) := p1; have P2 : Hid (Fr _ _ _) := p2; clear ho9 hg9 hat hlt9 p1 p2)
      all_goals rw [← HFT.out] at P1
      all_goals clear z5 z5d q0 q1 q0d q1d OW NB HPU HFT LW HNV p3 p4 T5 U5 FS A1 BP
      all_goals generalize w9.setCell ⟨be, 5, none⟩ _ = W9 at P1 P2 ⊢
      all_goals go_wp2_with fail
      all_goals go_roundw
      all_goals first | exact ⟨k + 1, by omega, by go_num, _, _, _, P1, FF.out.trans P2.out⟩ | (simp [intOf]; omega)
    · obtain rfl : k = len := by omega
      have ht2 : l.take k = l := List.take_of_length_le (by have := HLEN.out; omega)
      rw [ht2] at FS
      have T5 : Hid (TreeE (fun k => w.heap.size ≤ k) wr (dFun (flatQ l)) (.pointer (some ⟨be, 0, none⟩))) := FSt.tree FS.out (by omega) (by omega) hwb (by rw [flatQ_len]; omega)
      have R5 : Hid (RdF wr br t j (d + 1)) := RdF.of R4.out FF.out ⟨Ne.symm hne, by omega⟩
      have F5 : Hid (Fr (· ≠ br) w wr) := F4.out.fresh3 FF.out hwb (by omega)
      clear FS FF R4 F4 E4 ht2
      go_wp2_with (go_at_call 318; refine (HL.out _ _ R5.out).mono ?_; rintro e w6 ⟨rfl, hr, hf⟩; have R6 : Hid (RdF w6 br t j d) := hr; have F6 : Hid (Fr (· ≠ br) w w6) := F5.out.trans hf; have T6 : Hid (TreeE (fun k => w.heap.size ≤ k) w6 (dFun (flatQ l)) (.pointer (some ⟨be, 0, none⟩))) := T5.out.fr (hf.mono fun k q => by omega) fun _ _ q => q; clear hr hf)
      go_ret
      rw [HQ.out]
      exact ⟨F6.out, ⟨_, rfl, T6.out⟩, R6.out⟩
end Go.Proofs.YtjbekejcghjhbaaGreatDoor.Sx
