/- A word and the name behind it. -/
import Derived.Test.YtjbekejcghjhbaaGreatDoorF10
namespace Go.Proofs.YtjbekejcghjhbaaGreatDoor.Sx
open Go.RowKit Go.Sort

theorem ident_name (a b : Value) (w : World) : (Instr.field 324 (.agg #[a, b]) 0).run Tryz.prog w = .ok a w := by kernel_rfl
attribute [local go_sem] ident_name

theorem nameX_ok {K : Nat → Tk} {i : Nat} {n : List UInt8} {j : Nat} (h : nameX K i = some (.ok (n, j))) : n = (K i).tx ∧ j = i + 1 := by
  unfold nameX at h
  split at h
  · simp [errX] at h
  · split at h
    · simp [errX] at h
    · simp only [okX, Option.some.injEq, Except.ok.injEq, Prod.mk.injEq] at h
      exact ⟨h.1.symm, h.2.symm⟩
set_option maxRecDepth 100000 in
set_option maxHeartbeats 1000000 in
theorem fofName_any (w : World) (br : Nat) (t : ByteArray) (i d s rk : Nat) (op : List UInt8) (hs : s = 7 ∧ rk = 6 ∧ op = wEnabled ∨ s = 6 ∧ rk = 12 ∧ op = wUnchanged) (hr : RdF w br t i d) (ht : t.size ≤ 4000)
    (r : Except (Nat × Nat) (PX × Nat)) (h : bX (nameX (tkF t.data.toList) (i + 1)) (fun n j => okX (dOfName rk op n) j) = some r) :
    Calls Tryz.prog 319 #[.pointer (some ⟨br, 0, none⟩), .int .i64 (s : Int)] w (PostE w br t d r) := by
  have HA : Hid (Calls _ _ _ _ _) := fadvance_st w br t i d hr ht
  have HN : Hid (∀ (W : World) (q : Except (Nat × Nat) (List UInt8 × Nat)), _) := fun W q h => fname_any W br t (i + 1) d h ht q
  have h1 := block_cell hr 1
  have hbl := block_lt hr
  clear hr
  have mo := follows
  go_enter Tryz.func319, Tryz.ntmps319
  go_wp2_with (first | (go_at_call 146; refine HA.out.mono ?_; rintro e w' ⟨rfl, hr, hf⟩; have R2 : Hid (RdF w' br t (i + 1) d) := hr; have F2 : Hid (Fr (· ≠ br) w w') := hf; clear hr hf))
  rcases bX_cases h with ⟨⟨c, p⟩, hn, rfl⟩ | ⟨n, j, hn, hk⟩
  · refine (HN.out _ _ R2.out hn).mono ?_
    rintro e w2 ⟨hf, rfl⟩
    exact ⟨rfl, F2.out.trans hf, rfl⟩
  · refine (HN.out _ _ R2.out hn).mono ?_
    rintro e w2 ⟨hf, rfl, hr⟩
    have R3 : Hid (RdF w2 br t j d) := hr
    have F3 : Hid (Fr (· ≠ br) w w2) := F2.out.trans hf
    have HN' : Hid (n = txF t.data.toList (i + 1) ∧ j = i + 1 + 1) := nameX_ok hn
    have HK : Hid (_ = some r) := hk
    have hpl := pcF_list t (i + 1)
    clear hf hr hn hk h HN HA R2 F2
    go_wp2_with fail
    go_ret
    obtain rfl : r = .ok (dOfName rk op n, j) := by have := HK.out; simp only [okX, Option.some.injEq] at this; exact this.symm
    have hsz := F3.out.size
    refine ⟨F3.out.alloc _, ⟨_, rfl, TreeE.node ⟨w2.heap.size, s, ⟨#[]⟩, pcF t (i + 1), 0, atF t.data.toList i, none, 0, 0, [], rfl, hsz, heap_new rfl, row_nil _, ?_⟩⟩, RdF.of R3.out (P := fun _ => True) ((Fr.refl _ w2).alloc _) trivial⟩
    rw [hpl, ← HN'.out.1]
    rcases hs with ⟨rfl, rfl, rfl⟩ | ⟨rfl, rfl, rfl⟩
    · exact .inr (.inr (.inr (.inr (.inr (.inr (.inr (.inl ⟨rfl, rfl⟩)))))))
    · exact .inr (.inr (.inr (.inr (.inr (.inr (.inl ⟨rfl, rfl⟩))))))
end Go.Proofs.YtjbekejcghjhbaaGreatDoor.Sx

namespace Go.Proofs.YtjbekejcghjhbaaGreatDoor.Sx
open Go.RowKit Go.Sort
attribute [local go_sem] ident_name

/-- the library's errors, where they lie -/
def EnvF (w : World) (br : Nat) : Prop := br ≠ 4 ∧ 4 < w.heap.size ∧ (∃ ev, w.cell? ⟨4, 0, none⟩ = some ev ∧ (ev = .nilIface ∨ ∃ te pe, ev = .iface te pe)) ∧ br ≠ 3 ∧ ∃ ev, w.cell? ⟨3, 0, none⟩ = some ev ∧ (ev = .nilIface ∨ ∃ te pe, ev = .iface te pe)
theorem EnvF.of {w w' : World} {br : Nat} {P : Nat → Prop} (h : EnvF w br) (f : Fr P w w') (h4 : P 4) (h3 : P 3) : EnvF w' br := by
  obtain ⟨g1, g2, ⟨ev, g3, g4⟩, g5, ew, g6, g7⟩ := h
  exact ⟨g1, Nat.lt_of_lt_of_le g2 f.size, ⟨ev, (World.cell?_of_block (w := w) (f.block 4 g2 h4)).trans g3, g4⟩, g5, ew, (World.cell?_of_block (w := w) (f.block 3 (by omega) h3)).trans g6, g7⟩
theorem EnvF.fr {w w' : World} {br : Nat} (h : EnvF w br) (f : Fr (· ≠ br) w w') : EnvF w' br := h.of f (Ne.symm h.1) (Ne.symm h.2.2.2.1)
theorem EnvF.two {w w' : World} {br be : Nat} (h : EnvF w br) (hb : be ≠ 3 ∧ be ≠ 4) (f : Fr (fun k => k ≠ br ∧ k ≠ be) w w') : EnvF w' br := h.of f ⟨Ne.symm h.1, Ne.symm hb.2⟩ ⟨Ne.symm h.2.2.2.1, Ne.symm hb.1⟩
theorem EnvF.new {w : World} {br be : Nat} (h : EnvF w br) (hb : w.heap.size ≤ be) : be ≠ 3 ∧ be ≠ 4 := by have := h.2.1; omega

/-- parts are read as they should -/
def SelfOK (br : Nat) (t : ByteArray) (self : Nat → Nat → Nat → RX PX) : Prop :=
  ∀ (w : World) (n d i : Nat) (r : Except (Nat × Nat) (PX × Nat)), n ≤ 12 → d ≤ 24 → EnvF w br → RdF w br t i d → self n d i = some r → Calls Tryz.prog 148 #[.pointer (some ⟨br, 0, none⟩), .int .i64 (n : Int)] w (PostE w br t d r)
set_option maxRecDepth 100000 in
theorem fexpr_any {br : Nat} {t : ByteArray} {self : Nat → Nat → Nat → RX PX} (hS : SelfOK br t self) (w : World) (d i : Nat) (r : Except (Nat × Nat) (PX × Nat)) (hd : d ≤ 24) (hI : EnvF w br) (hr : RdF w br t i d) (h : self 0 d i = some r) :
    Calls Tryz.prog 95 #[.pointer (some ⟨br, 0, none⟩)] w (PostE w br t d r) := by
  have HS : Hid (Calls _ _ _ _ _) := hS w 0 d i r (by omega) hd hI hr h
  clear hS hr h hI
  go_enter Tryz.func95, Tryz.ntmps95
  go_wp2_with fail
  refine HS.out.mono ?_
  rintro e w' ⟨hf, hm⟩
  rcases r with ⟨c, p⟩ | ⟨x, j⟩
  · obtain rfl := hm
    exact ⟨rfl, hf, rfl⟩
  · obtain ⟨⟨v, rfl, hv⟩, hr⟩ := hm
    have HH : Hid (PostE w br t d (.ok (x, j)) (.returned v) w') := ⟨hf, ⟨v, rfl, hv⟩, hr⟩
    clear hf hv hr HS
    go_wp2_with fail
    go_ret
    exact HH.out

/-- a node's block -/
def EBlk (w : World) (b sort : Nat) (op nm : ByteArray) (n : Int) (at' : Nat) (pa : Option Addr) (len cap : Nat) : Prop :=
  w.heap[b]? = some (.cells #[.int .i64 (sort : Int), .string op, .string nm, .int .i64 n, .int .i64 (at' : Int), .slice pa len cap] 156 (0, 0))
theorem EBlk.of {w w' : World} {b sort : Nat} {op nm : ByteArray} {n : Int} {at' : Nat} {pa : Option Addr} {len cap : Nat} (h : EBlk w b sort op nm n at' pa len cap) {P : Nat → Prop} (f : Fr P w w') (hp : P b) : EBlk w' b sort op nm n at' pa len cap := (f.block b (block_lt h) hp).trans h
/-- what a call ends in that fills a node in -/
def FillE (w : World) (br be : Nat) (t : ByteArray) (d : Nat) (r : Except (Nat × Nat) (PX × Nat)) (e : Ending) (w' : World) : Prop :=
  Fr (fun k => k ≠ br ∧ k ≠ be) w w' ∧ match r with
    | .ok (x, j) => e = .returned (.tuple #[]) ∧ TreeE (fun k => k = be ∨ w.heap.size ≤ k) w' x (.pointer (some ⟨be, 0, none⟩)) ∧ RdF w' br t j d
    | .error (c, p) => e = Flt c p

theorem needX_cases {γ : Type} {K : Nat → Tk} {m : List UInt8} {i : Nat} {k : Nat → RX γ} {r : Except (Nat × Nat) (γ × Nat)} (h : needX K m i k = some r) : (((K i).tx == m) = true ∧ k (i + 1) = some r) ∨ (((K i).tx == m) = false ∧ r = .error (1, (K i).at')) := by
  unfold needX at h
  cases q : (K i).tx == m with
  | true => rw [q] at h; exact .inl ⟨rfl, h⟩
  | false => rw [q] at h; simp only [errX, Bool.false_eq_true, if_false, Option.some.injEq] at h; exact .inr ⟨rfl, h.symm⟩
theorem Fr.two {br be : Nat} {w w' : World} (h : Fr (· ≠ br) w w') : Fr (fun k => k ≠ br ∧ k ≠ be) w w' := h.mono fun _ q => q.1
theorem EBlk.sort {w : World} {b sort : Nat} {op nm : ByteArray} {n : Int} {at' : Nat} {pa : Option Addr} {len cap : Nat} (h : EBlk w b sort op nm n at' pa len cap) (s : Nat) : EBlk (w.setCell ⟨b, 0, none⟩ (.int .i64 (s : Int))) b s op nm n at' pa len cap := by
  have := set_block h 0 (.int .i64 (s : Int)); simpa [EBlk] using this
theorem EBlk.op {w : World} {b sort : Nat} {op nm : ByteArray} {n : Int} {at' : Nat} {pa : Option Addr} {len cap : Nat} (h : EBlk w b sort op nm n at' pa len cap) (s : ByteArray) : EBlk (w.setCell ⟨b, 1, none⟩ (.string s)) b sort s nm n at' pa len cap := by
  have := set_block h 1 (.string s); simpa [EBlk] using this
theorem EBlk.name {w : World} {b sort : Nat} {op nm : ByteArray} {n : Int} {at' : Nat} {pa : Option Addr} {len cap : Nat} (h : EBlk w b sort op nm n at' pa len cap) (s : ByteArray) : EBlk (w.setCell ⟨b, 2, none⟩ (.string s)) b sort op s n at' pa len cap := by
  have := set_block h 2 (.string s); simpa [EBlk] using this
theorem EBlk.parts {w : World} {b sort : Nat} {op nm : ByteArray} {n : Int} {at' : Nat} {pa : Option Addr} {len cap : Nat} (h : EBlk w b sort op nm n at' pa len cap) (a : Option Addr) (l c : Nat) : EBlk (w.setCell ⟨b, 5, none⟩ (.slice a l c)) b sort op nm n at' a l c := by
  have := set_block h 5 (.slice a l c); simpa [EBlk] using this

/-- the parts of a node are laid into a new row -/
theorem fill_row {w : World} {be lo sort : Nat} {op nm : ByteArray} {n : Int} {at' : Nat} {pa : Option Addr} {len cap m : Nat} (he : EBlk w be sort op nm n at' pa len cap) {vs : Array Value} {kids : List PX} (hm : m = kids.length) (hm4 : m ≤ 4294967296)
    (hk : ∀ (i : Nat) (x : PX), kids[i]? = some x → ∃ v, vs[i]? = some v ∧ TreeE (fun k => lo ≤ k ∧ k ≠ be) w x v) (hlo : lo ≤ w.heap.size) {x : PX} (hx : Means sort op.data.toList nm.data.toList n kids x) :
    TreeE (fun k => k = be ∨ lo ≤ k) ((w.setCell ⟨be, 5, none⟩ (.slice (some ⟨w.heap.size, 0, none⟩) m m)).alloc (.cells vs 93 (0, 0))) x (.pointer (some ⟨be, 0, none⟩)) ∧
    Fr (· ≠ be) w ((w.setCell ⟨be, 5, none⟩ (.slice (some ⟨w.heap.size, 0, none⟩) m m)).alloc (.cells vs 93 (0, 0))) := by
  have hF : Fr (· ≠ be) w ((w.setCell ⟨be, 5, none⟩ (.slice (some ⟨w.heap.size, 0, none⟩) m m)).alloc (.cells vs 93 (0, 0))) := ((Fr.refl _ w).set (by simp) _).alloc _
  have hE : EBlk ((w.setCell ⟨be, 5, none⟩ (.slice (some ⟨w.heap.size, 0, none⟩) m m)).alloc (.cells vs 93 (0, 0))) be sort op nm n at' (some ⟨w.heap.size, 0, none⟩) m m := (he.parts _ _ _).of (P := fun _ => True) ((Fr.refl _ _).alloc _) trivial
  have hN : ((w.setCell ⟨be, 5, none⟩ (.slice (some ⟨w.heap.size, 0, none⟩) m m)).alloc (.cells vs 93 (0, 0))).heap[w.heap.size]? = some (.cells vs 93 (0, 0)) := heap_new (by simp)
  refine ⟨TreeE.node ⟨be, sort, op, nm, n, at', _, m, m, kids, rfl, .inl rfl, hE, ⟨hm, hm4, .inr ⟨w.heap.size, 0, rfl, block_lt hN, .inr hlo, fun i x q => ?_⟩⟩, hx⟩, hF⟩
  obtain ⟨v, hv, ht⟩ := hk i x q
  refine ⟨v, by rw [Nat.zero_add, block_cell hN]; exact hv, ht.fr (hF.mono fun k q => q.2) fun k _ q => .inr q.1⟩

set_option maxRecDepth 100000 in
set_option maxHeartbeats 1000000 in
theorem fbound_any {br : Nat} {t : ByteArray} {self : Nat → Nat → Nat → RX PX} (hS : SelfOK br t self) (w : World) (be d i s0 a0 : Nat) (op nm0 : ByteArray) (n0 : Int) (hd : d ≤ 24) (ht : t.size ≤ 4000) (hbe : be ≠ br) (hb34 : be ≠ 3 ∧ be ≠ 4) (hI : EnvF w br) (hr : RdF w br t i d) (he : EBlk w be s0 op nm0 n0 a0 none 0 0)
    (hop : op.data.toList ∈ binds4 ∨ op.data.toList ∈ binds2) (r : Except (Nat × Nat) (PX × Nat)) (h : boundX (tkF t.data.toList) self op.data.toList d i = some r) :
    Calls Tryz.prog 317 #[.pointer (some ⟨br, 0, none⟩), .pointer (some ⟨be, 0, none⟩)] w (FillE w br be t d r) := by
  have HS : Hid (SelfOK br t self) := hS
  have HI : Hid (EnvF w br) := hI
  have HN : Hid (∀ (W : World) (q : Except (Nat × Nat) (List UInt8 × Nat)), _) := fun W q h => fname_any W br t i d h ht q
  have HR : Hid (RdF w br t i d) := hr
  have HE : Hid (EBlk w be s0 op nm0 n0 a0 none 0 0) := he
  clear hI hS hr he
  have mo := follows
  go_enter Tryz.func317, Tryz.ntmps317
  go_wp2_with fail
  unfold boundX at h
  rcases bX_cases h with ⟨⟨c, p⟩, hn, rfl⟩ | ⟨n, j, hn, hk⟩
  · refine (HN.out _ _ HR.out hn).mono ?_
    rintro e w2 ⟨hf, rfl⟩
    exact ⟨rfl, hf.two, rfl⟩
  refine (HN.out _ _ HR.out hn).mono ?_
  rintro e w2 ⟨hf, rfl, hr⟩
  have HN' : Hid (n = txF t.data.toList i ∧ j = i + 1) := nameX_ok hn
  have R2 : Hid (RdF w2 br t j d) := hr
  have E2 : Hid (EBlk w2 be s0 op nm0 n0 a0 none 0 0) := HE.out.of hf hbe
  have F2 : Hid (Fr (· ≠ br) w w2) := hf
  have c0 := block_cell E2.out 0
  have c2 := block_cell E2.out 2
  have f0 := frozen_block E2.out 0
  have f2 := frozen_block E2.out 2
  clear hf hr hn h HN HE HR
  go_wp2_with fail
  have E3 : Hid (EBlk ((w2.setCell ⟨be, 0, none⟩ (.int .i64 10)).setCell ⟨be, 2, none⟩ (.string (pcF t i))) be 10 op (pcF t i) n0 a0 none 0 0) := (E2.out.sort 10).name _
  have R3 : Hid (RdF ((w2.setCell ⟨be, 0, none⟩ (.int .i64 10)).setCell ⟨be, 2, none⟩ (.string (pcF t i))) br t j d) := (R2.out.setB (Ne.symm hbe) _).setB (Ne.symm hbe) _
  have F3 : Hid (Fr (fun k => k ≠ br ∧ k ≠ be) w ((w2.setCell ⟨be, 0, none⟩ (.int .i64 10)).setCell ⟨be, 2, none⟩ (.string (pcF t i)))) := (F2.out.two.set (p := ⟨be, 0, none⟩) (fun q => q.2 rfl) _).set (p := ⟨be, 2, none⟩) (fun q => q.2 rfl) _
  clear c0 c2 f0 f2 E2 R2 F2
  generalize (w2.setCell ⟨be, 0, none⟩ (.int .i64 10)).setCell ⟨be, 2, none⟩ (.string (pcF t i)) = w3 at E3 R3 F3 ⊢
  have HD : Hid (∀ (W : World) (m : ByteArray) (k : Nat) (b : Bool), _) := fun W m k b h => fneed_any W br t m k d h ht b
  rcases needX_cases hk with ⟨hb, hk2⟩ | ⟨hb, rfl⟩
  case inr =>
    refine (HD.out w3 ⟨#[105, 110]⟩ j false R3.out hb).mono ?_
    rintro e w4 ⟨hf, ⟨q, -⟩ | ⟨-, rfl⟩⟩
    · simp at q
    · exact ⟨rfl, F3.out.trans hf.two, rfl⟩
  refine (HD.out w3 ⟨#[105, 110]⟩ j true R3.out hb).mono ?_
  rintro e w4 ⟨hf, ⟨-, rfl, hr⟩ | ⟨q, -⟩⟩
  case inr => simp at q
  have R4 : Hid (RdF w4 br t (j + 1) d) := hr
  have E4 : Hid (EBlk w4 be 10 op (pcF t i) n0 a0 none 0 0) := E3.out.of hf hbe
  have F4 : Hid (Fr (fun k => k ≠ br ∧ k ≠ be) w w4) := F3.out.trans hf.two
  clear hf hr hb hk E3 R3 F3
  go_wp2_with fail
  rcases bX_cases hk2 with ⟨⟨c, p⟩, hn, rfl⟩ | ⟨a, j2, hn, hk3⟩
  · refine (HS.out w4 8 d _ _ (by omega) hd (HI.out.two hb34 F4.out) R4.out hn).mono ?_
    rintro e w5 ⟨hf, rfl⟩
    exact ⟨rfl, F4.out.trans hf.two, rfl⟩
  refine (HS.out w4 8 d _ _ (by omega) hd (HI.out.two hb34 F4.out) R4.out hn).mono ?_
  rintro e w5 ⟨hf, ⟨va, rfl, hva⟩, hr⟩
  have R5 : Hid (RdF w5 br t j2 d) := hr
  have E5 : Hid (EBlk w5 be 10 op (pcF t i) n0 a0 none 0 0) := E4.out.of hf hbe
  have F5 : Hid (Fr (fun k => k ≠ br ∧ k ≠ be) w w5) := F4.out.trans hf.two
  have T5 : Hid (TreeE (fun k => w4.heap.size ≤ k) w5 a va) := hva
  have hs4 : be < w4.heap.size := block_lt E4.out
  have hb4 : br < w4.heap.size := block_lt R4.out
  have hw4 := F4.out.size
  clear hf hr hn hva hk2 E4 R4 F4
  obtain ⟨ba, rfl, -, -⟩ := T5.out.ptr
  go_wp2_with fail
  rcases needX_cases hk3 with ⟨hb, hk4⟩ | ⟨hb, rfl⟩
  case inr =>
    refine (HD.out w5 ⟨#[58]⟩ j2 false R5.out hb).mono ?_
    rintro e w6 ⟨hf, ⟨q, -⟩ | ⟨-, rfl⟩⟩
    · simp at q
    · exact ⟨rfl, F5.out.trans hf.two, rfl⟩
  refine (HD.out w5 ⟨#[58]⟩ j2 true R5.out hb).mono ?_
  rintro e w6 ⟨hf, ⟨-, rfl, hr⟩ | ⟨q, -⟩⟩
  case inr => simp at q
  have R6 : Hid (RdF w6 br t (j2 + 1) d) := hr
  have E6 : Hid (EBlk w6 be 10 op (pcF t i) n0 a0 none 0 0) := E5.out.of hf hbe
  have F6 : Hid (Fr (fun k => k ≠ br ∧ k ≠ be) w w6) := F5.out.trans hf.two
  have T6 : Hid (TreeE (fun k => w4.heap.size ≤ k) w6 a (.pointer (some ⟨ba, 0, none⟩))) := T5.out.fr (hf.mono fun k q => by omega) (fun _ _ q => q)
  clear hf hr hb hk3 E5 R5 F5 T5
  go_wp2_with fail
  rcases bX_cases hk4 with ⟨⟨c, p⟩, hn, rfl⟩ | ⟨b, j3, hn, hk5⟩
  · refine (fexpr_any HS.out w6 d _ _ hd (HI.out.two hb34 F6.out) R6.out hn).mono ?_
    rintro e w7 ⟨hf, rfl⟩
    exact ⟨rfl, F6.out.trans hf.two, rfl⟩
  refine (fexpr_any HS.out w6 d _ _ hd (HI.out.two hb34 F6.out) R6.out hn).mono ?_
  rintro e w7 ⟨hf, ⟨vb, rfl, hvb⟩, hr⟩
  have R7 : Hid (RdF w7 br t j3 d) := hr
  have E7 : Hid (EBlk w7 be 10 op (pcF t i) n0 a0 none 0 0) := E6.out.of hf hbe
  have F7 : Hid (Fr (fun k => k ≠ br ∧ k ≠ be) w w7) := F6.out.trans hf.two
  have T7 : Hid (TreeE (fun k => w4.heap.size ≤ k) w7 a (.pointer (some ⟨ba, 0, none⟩))) := T6.out.fr (hf.mono fun k q => by omega) (fun _ _ q => q)
  have U7 : Hid (TreeE (fun k => w6.heap.size ≤ k) w7 b vb) := hvb
  have hw6 := F6.out.size
  have hs6 : be < w6.heap.size := block_lt E6.out
  have hb6 : br < w6.heap.size := block_lt R6.out
  have hw7 := hf.size
  clear hf hr hn hvb hk4 E6 R6 F6 T6
  obtain ⟨bb, rfl, -, -⟩ := U7.out.ptr
  have c5 := block_cell E7.out 5
  have f5 := frozen_block E7.out 5
  have hs7 : be < w7.heap.size := block_lt E7.out
  go_wp2_with fail
  go_end0
  obtain rfl : r = .ok (dBind op.data.toList n a b, j3) := by simp only [okX, Option.some.injEq] at hk5; exact hk5.symm
  obtain ⟨hT, hF⟩ := fill_row (lo := w.heap.size) E7.out (m := 2) (vs := #[.pointer (some ⟨ba, 0, none⟩), .pointer (some ⟨bb, 0, none⟩)]) (kids := [a, b]) (x := dBind op.data.toList n a b) rfl (by omega) (fun k x q => by
      match k with
      | 0 => simp at q; subst q; exact ⟨_, rfl, T7.out.fr (Fr.refl _ _) fun _ _ q => by omega⟩
      | 1 => simp at q; subst q; exact ⟨_, rfl, U7.out.fr (Fr.refl _ _) fun _ _ q => by omega⟩
      | k + 2 => simp at q) (by omega)
    (by
      rw [pcF_list, ← HN'.out.1]
      exact .inr (.inr (.inr (.inr (.inr (.inr (.inr (.inr (.inr (.inr (.inl ⟨rfl, hop, a, b, rfl, rfl⟩)))))))))))
  exact ⟨F7.out.trans (hF.mono fun _ q => q.2), rfl, hT, RdF.of R7.out hF (Ne.symm hbe)⟩
end Go.Proofs.YtjbekejcghjhbaaGreatDoor.Sx

namespace Go.Proofs.YtjbekejcghjhbaaGreatDoor.Sx
open Go.RowKit Go.Sort
attribute [local go_sem] ident_name

set_option maxRecDepth 100000 in
set_option maxHeartbeats 1000000 in
theorem fnaming_any {br : Nat} {t : ByteArray} {self : Nat → Nat → Nat → RX PX} (hS : SelfOK br t self) (w : World) (be d i s0 a0 : Nat) (op nm0 : ByteArray) (n0 : Int) (hd : d ≤ 24) (ht : t.size ≤ 4000) (hbe : be ≠ br) (hb34 : be ≠ 3 ∧ be ≠ 4) (hI : EnvF w br) (hr : RdF w br t i d) (he : EBlk w be s0 op nm0 n0 a0 none 0 0)
    (r : Except (Nat × Nat) (PX × Nat)) (h : namingX (tkF t.data.toList) self d i = some r) :
    Calls Tryz.prog 316 #[.pointer (some ⟨br, 0, none⟩), .pointer (some ⟨be, 0, none⟩)] w (FillE w br be t d r) := by
  have HS : Hid (SelfOK br t self) := hS
  have HI : Hid (EnvF w br) := hI
  have HN : Hid (∀ (W : World) (q : Except (Nat × Nat) (List UInt8 × Nat)), _) := fun W q h => fname_any W br t i d h ht q
  have HD : Hid (∀ (W : World) (m : ByteArray) (k : Nat) (b : Bool), _) := fun W m k b h => fneed_any W br t m k d h ht b
  have HR : Hid (RdF w br t i d) := hr
  have HE : Hid (EBlk w be s0 op nm0 n0 a0 none 0 0) := he
  have hlb := block_lt hr
  have hle := block_lt he
  clear hI hS hr he
  have mo := follows
  go_enter Tryz.func316, Tryz.ntmps316
  go_wp2_with fail
  unfold namingX at h
  rcases bX_cases h with ⟨⟨c, p⟩, hn, rfl⟩ | ⟨n, j, hn, hk⟩
  · refine (HN.out _ _ HR.out hn).mono ?_
    rintro e w2 ⟨hf, rfl⟩
    exact ⟨rfl, hf.two, rfl⟩
  refine (HN.out _ _ HR.out hn).mono ?_
  rintro e w2 ⟨hf, rfl, hr⟩
  have HN' : Hid (n = txF t.data.toList i ∧ j = i + 1) := nameX_ok hn
  have R2 : Hid (RdF w2 br t j d) := hr
  have E2 : Hid (EBlk w2 be s0 op nm0 n0 a0 none 0 0) := HE.out.of hf hbe
  have F2 : Hid (Fr (· ≠ br) w w2) := hf
  have c0 := block_cell E2.out 0
  have c2 := block_cell E2.out 2
  have f0 := frozen_block E2.out 0
  have f2 := frozen_block E2.out 2
  clear hf hr hn h HN HE HR
  go_wp2_with fail
  have E3 : Hid (EBlk ((w2.setCell ⟨be, 0, none⟩ (.int .i64 9)).setCell ⟨be, 2, none⟩ (.string (pcF t i))) be 9 op (pcF t i) n0 a0 none 0 0) := (E2.out.sort 9).name _
  have R3 : Hid (RdF ((w2.setCell ⟨be, 0, none⟩ (.int .i64 9)).setCell ⟨be, 2, none⟩ (.string (pcF t i))) br t j d) := (R2.out.setB (Ne.symm hbe) _).setB (Ne.symm hbe) _
  have F3 : Hid (Fr (fun k => k ≠ br ∧ k ≠ be) w ((w2.setCell ⟨be, 0, none⟩ (.int .i64 9)).setCell ⟨be, 2, none⟩ (.string (pcF t i)))) := (F2.out.two.set (p := ⟨be, 0, none⟩) (fun q => q.2 rfl) _).set (p := ⟨be, 2, none⟩) (fun q => q.2 rfl) _
  clear c0 c2 f0 f2 E2 R2 F2
  generalize (w2.setCell ⟨be, 0, none⟩ (.int .i64 9)).setCell ⟨be, 2, none⟩ (.string (pcF t i)) = w3 at E3 R3 F3 ⊢
  rcases needX_cases hk with ⟨hb, hk2⟩ | ⟨hb, rfl⟩
  case inr =>
    refine (HD.out w3 ⟨#[61]⟩ (j) false R3.out hb).mono ?_
    rintro e w4 ⟨hf, ⟨q, -⟩ | ⟨-, rfl⟩⟩
    · simp at q
    · exact ⟨rfl, F3.out.trans hf.two, rfl⟩
  refine (HD.out w3 ⟨#[61]⟩ (j) true R3.out hb).mono ?_
  rintro e w4 ⟨hf, ⟨-, rfl, hr⟩ | ⟨q, -⟩⟩
  case inr => simp at q
  have R4 : Hid (RdF w4 br t (j + 1) (d)) := hr
  have E4 : Hid (EBlk w4 be 9 op (pcF t i) n0 a0 none 0 0) := E3.out.of hf (by omega)
  have F4 : Hid (Fr (fun k => k ≠ br ∧ k ≠ be) w w4) := F3.out.trans hf.two
  clear hf hr hb hk
  clear E3 R3 F3
  go_wp2_with fail
  rcases bX_cases hk2 with ⟨⟨c, p⟩, hn, rfl⟩ | ⟨a, j2, hn, hk3⟩
  · refine (fexpr_any HS.out w4 d _ _ hd (HI.out.two hb34 F4.out) R4.out hn).mono ?_
    rintro e w5 ⟨hf, rfl⟩
    exact ⟨rfl, F4.out.trans hf.two, rfl⟩
  refine (fexpr_any HS.out w4 d _ _ hd (HI.out.two hb34 F4.out) R4.out hn).mono ?_
  rintro e w5 ⟨hf, ⟨va, rfl, hv⟩, hr⟩
  have R5 : Hid (RdF w5 br t j2 (d)) := hr
  have hz4 := F4.out.size
  have E5 : Hid (EBlk w5 be 9 op (pcF t i) n0 a0 none 0 0) := E4.out.of hf (by omega)
  have F5 : Hid (Fr (fun k => k ≠ br ∧ k ≠ be) w w5) := F4.out.trans hf.two
  have Ta5 : Hid (TreeE (fun k => w.heap.size ≤ k) w5 a va) := TreeE.fr (Fr.refl _ _) (fun _ _ q => by omega) hv
  clear hf hr hn hv hk2
  clear E4 R4 F4
  obtain ⟨ba, rfl, -, -⟩ := Ta5.out.ptr
  go_wp2_with fail
  rcases needX_cases hk3 with ⟨hb, hk4⟩ | ⟨hb, rfl⟩
  case inr =>
    refine (HD.out w5 ⟨#[58]⟩ (j2) false R5.out hb).mono ?_
    rintro e w6 ⟨hf, ⟨q, -⟩ | ⟨-, rfl⟩⟩
    · simp at q
    · exact ⟨rfl, F5.out.trans hf.two, rfl⟩
  refine (HD.out w5 ⟨#[58]⟩ (j2) true R5.out hb).mono ?_
  rintro e w6 ⟨hf, ⟨-, rfl, hr⟩ | ⟨q, -⟩⟩
  case inr => simp at q
  have R6 : Hid (RdF w6 br t (j2 + 1) (d)) := hr
  have E6 : Hid (EBlk w6 be 9 op (pcF t i) n0 a0 none 0 0) := E5.out.of hf (by omega)
  have F6 : Hid (Fr (fun k => k ≠ br ∧ k ≠ be) w w6) := F5.out.trans hf.two
  have Ta6 : Hid (TreeE (fun k => w.heap.size ≤ k) w6 a (.pointer (some ⟨ba, 0, none⟩))) := Ta5.out.fr (hf.mono fun k q => by omega) (fun _ _ q => q)
  clear hf hr hb hk3
  clear E5 R5 F5 Ta5
  go_wp2_with fail
  rcases bX_cases hk4 with ⟨⟨c, p⟩, hn, rfl⟩ | ⟨b, j3, hn, hk5⟩
  · refine (fexpr_any HS.out w6 d _ _ hd (HI.out.two hb34 F6.out) R6.out hn).mono ?_
    rintro e w7 ⟨hf, rfl⟩
    exact ⟨rfl, F6.out.trans hf.two, rfl⟩
  refine (fexpr_any HS.out w6 d _ _ hd (HI.out.two hb34 F6.out) R6.out hn).mono ?_
  rintro e w7 ⟨hf, ⟨vb, rfl, hv⟩, hr⟩
  have R7 : Hid (RdF w7 br t j3 (d)) := hr
  have hz6 := F6.out.size
  have E7 : Hid (EBlk w7 be 9 op (pcF t i) n0 a0 none 0 0) := E6.out.of hf (by omega)
  have F7 : Hid (Fr (fun k => k ≠ br ∧ k ≠ be) w w7) := F6.out.trans hf.two
  have Ta7 : Hid (TreeE (fun k => w.heap.size ≤ k) w7 a (.pointer (some ⟨ba, 0, none⟩))) := Ta6.out.fr (hf.mono fun k q => by omega) (fun _ _ q => q)
  have Tb7 : Hid (TreeE (fun k => w.heap.size ≤ k) w7 b vb) := TreeE.fr (Fr.refl _ _) (fun _ _ q => by omega) hv
  clear hf hr hn hv hk4
  clear E6 R6 F6 Ta6
  obtain ⟨bb, rfl, -, -⟩ := Tb7.out.ptr
  have c5 := block_cell E7.out 5
  have f5 := frozen_block E7.out 5
  have hse := block_lt E7.out
  go_wp2_with fail
  go_end0
  obtain rfl : r = .ok (dLet n a b, j3) := by simp only [okX, Option.some.injEq] at hk5; exact hk5.symm
  have hzz := F7.out.size
  obtain ⟨hT, hF⟩ := fill_row (lo := w.heap.size) E7.out (m := 2) (vs := #[.pointer (some ⟨ba, 0, none⟩), .pointer (some ⟨bb, 0, none⟩)]) (kids := [a, b]) (x := dLet n a b) rfl (by omega) (fun k x q => by
      match k with
      | 0 => simp at q; subst q; exact ⟨_, rfl, Ta7.out.fr (Fr.refl _ _) fun _ _ q => by omega⟩
      | 1 => simp at q; subst q; exact ⟨_, rfl, Tb7.out.fr (Fr.refl _ _) fun _ _ q => by omega⟩
      | k + 2 => simp at q) hzz
    (by
      rw [pcF_list, ← HN'.out.1]
      exact .inr (.inr (.inr (.inr (.inr (.inr (.inr (.inr (.inr (.inl ⟨rfl, a, b, rfl, rfl⟩))))))))))
  exact ⟨F7.out.trans (hF.mono fun _ q => q.2), rfl, hT, RdF.of R7.out hF (Ne.symm hbe)⟩

set_option maxRecDepth 100000 in
set_option maxHeartbeats 1000000 in
theorem fchoice_any {br : Nat} {t : ByteArray} {self : Nat → Nat → Nat → RX PX} (hS : SelfOK br t self) (w : World) (be d i s0 a0 : Nat) (op nm0 : ByteArray) (n0 : Int) (hd : d ≤ 24) (ht : t.size ≤ 4000) (hbe : be ≠ br) (hb34 : be ≠ 3 ∧ be ≠ 4) (hI : EnvF w br) (hr : RdF w br t i d) (he : EBlk w be s0 op nm0 n0 a0 none 0 0)
    (r : Except (Nat × Nat) (PX × Nat)) (h : choiceX (tkF t.data.toList) self d i = some r) :
    Calls Tryz.prog 315 #[.pointer (some ⟨br, 0, none⟩), .pointer (some ⟨be, 0, none⟩)] w (FillE w br be t d r) := by
  have HS : Hid (SelfOK br t self) := hS
  have HI : Hid (EnvF w br) := hI
  have HD : Hid (∀ (W : World) (m : ByteArray) (k : Nat) (b : Bool), _) := fun W m k b h => fneed_any W br t m k d h ht b
  obtain ⟨w3, hw3⟩ : ∃ w3, w3 = w := ⟨w, rfl⟩
  have R3 : Hid (RdF w3 br t i d) := by rw [hw3]; exact hr
  have E3 : Hid (EBlk w3 be s0 op nm0 n0 a0 none 0 0) := by rw [hw3]; exact he
  have F3 : Hid (Fr (fun k => k ≠ br ∧ k ≠ be) w w3) := by rw [hw3]; exact Fr.refl _ _
  have hlb := block_lt hr
  have hle := block_lt he
  clear hI hS hr he
  have mo := follows
  rw [show Calls Tryz.prog 315 #[.pointer (some ⟨br, 0, none⟩), .pointer (some ⟨be, 0, none⟩)] w (FillE w br be t d r) = Calls Tryz.prog 315 #[.pointer (some ⟨br, 0, none⟩), .pointer (some ⟨be, 0, none⟩)] w3 (FillE w br be t d r) from by rw [hw3]]
  clear hw3
  go_enter Tryz.func315, Tryz.ntmps315
  go_wp2_with fail
  unfold choiceX at h
  rcases bX_cases h with ⟨⟨c, p⟩, hn, rfl⟩ | ⟨a, j, hn, hk⟩
  · refine (fexpr_any HS.out w3 d _ _ hd (HI.out.two hb34 F3.out) R3.out hn).mono ?_
    rintro e w4 ⟨hf, rfl⟩
    exact ⟨rfl, F3.out.trans hf.two, rfl⟩
  refine (fexpr_any HS.out w3 d _ _ hd (HI.out.two hb34 F3.out) R3.out hn).mono ?_
  rintro e w4 ⟨hf, ⟨va, rfl, hv⟩, hr⟩
  have R4 : Hid (RdF w4 br t j (d)) := hr
  have hz3 := F3.out.size
  have E4 : Hid (EBlk w4 be s0 op nm0 n0 a0 none 0 0) := E3.out.of hf (by omega)
  have F4 : Hid (Fr (fun k => k ≠ br ∧ k ≠ be) w w4) := F3.out.trans hf.two
  have Ta4 : Hid (TreeE (fun k => w.heap.size ≤ k) w4 a va) := TreeE.fr (Fr.refl _ _) (fun _ _ q => by omega) hv
  clear hf hr hn hv h
  clear E3 R3 F3
  obtain ⟨ba, rfl, -, -⟩ := Ta4.out.ptr
  go_wp2_with fail
  rcases needX_cases hk with ⟨hb, hk2⟩ | ⟨hb, rfl⟩
  case inr =>
    refine (HD.out w4 ⟨#[116, 104, 101, 110]⟩ (j) false R4.out hb).mono ?_
    rintro e w5 ⟨hf, ⟨q, -⟩ | ⟨-, rfl⟩⟩
    · simp at q
    · exact ⟨rfl, F4.out.trans hf.two, rfl⟩
  refine (HD.out w4 ⟨#[116, 104, 101, 110]⟩ (j) true R4.out hb).mono ?_
  rintro e w5 ⟨hf, ⟨-, rfl, hr⟩ | ⟨q, -⟩⟩
  case inr => simp at q
  have R5 : Hid (RdF w5 br t (j + 1) (d)) := hr
  have E5 : Hid (EBlk w5 be s0 op nm0 n0 a0 none 0 0) := E4.out.of hf (by omega)
  have F5 : Hid (Fr (fun k => k ≠ br ∧ k ≠ be) w w5) := F4.out.trans hf.two
  have Ta5 : Hid (TreeE (fun k => w.heap.size ≤ k) w5 a (.pointer (some ⟨ba, 0, none⟩))) := Ta4.out.fr (hf.mono fun k q => by omega) (fun _ _ q => q)
  clear hf hr hb hk
  clear E4 R4 F4 Ta4
  go_wp2_with fail
  rcases bX_cases hk2 with ⟨⟨c, p⟩, hn, rfl⟩ | ⟨b, j2, hn, hk3⟩
  · refine (fexpr_any HS.out w5 d _ _ hd (HI.out.two hb34 F5.out) R5.out hn).mono ?_
    rintro e w6 ⟨hf, rfl⟩
    exact ⟨rfl, F5.out.trans hf.two, rfl⟩
  refine (fexpr_any HS.out w5 d _ _ hd (HI.out.two hb34 F5.out) R5.out hn).mono ?_
  rintro e w6 ⟨hf, ⟨vb, rfl, hv⟩, hr⟩
  have R6 : Hid (RdF w6 br t j2 (d)) := hr
  have hz5 := F5.out.size
  have E6 : Hid (EBlk w6 be s0 op nm0 n0 a0 none 0 0) := E5.out.of hf (by omega)
  have F6 : Hid (Fr (fun k => k ≠ br ∧ k ≠ be) w w6) := F5.out.trans hf.two
  have Ta6 : Hid (TreeE (fun k => w.heap.size ≤ k) w6 a (.pointer (some ⟨ba, 0, none⟩))) := Ta5.out.fr (hf.mono fun k q => by omega) (fun _ _ q => q)
  have Tb6 : Hid (TreeE (fun k => w.heap.size ≤ k) w6 b vb) := TreeE.fr (Fr.refl _ _) (fun _ _ q => by omega) hv
  clear hf hr hn hv hk2
  clear E5 R5 F5 Ta5
  obtain ⟨bb, rfl, -, -⟩ := Tb6.out.ptr
  go_wp2_with fail
  rcases needX_cases hk3 with ⟨hb, hk4⟩ | ⟨hb, rfl⟩
  case inr =>
    refine (HD.out w6 ⟨#[101, 108, 115, 101]⟩ (j2) false R6.out hb).mono ?_
    rintro e w7 ⟨hf, ⟨q, -⟩ | ⟨-, rfl⟩⟩
    · simp at q
    · exact ⟨rfl, F6.out.trans hf.two, rfl⟩
  refine (HD.out w6 ⟨#[101, 108, 115, 101]⟩ (j2) true R6.out hb).mono ?_
  rintro e w7 ⟨hf, ⟨-, rfl, hr⟩ | ⟨q, -⟩⟩
  case inr => simp at q
  have R7 : Hid (RdF w7 br t (j2 + 1) (d)) := hr
  have E7 : Hid (EBlk w7 be s0 op nm0 n0 a0 none 0 0) := E6.out.of hf (by omega)
  have F7 : Hid (Fr (fun k => k ≠ br ∧ k ≠ be) w w7) := F6.out.trans hf.two
  have Ta7 : Hid (TreeE (fun k => w.heap.size ≤ k) w7 a (.pointer (some ⟨ba, 0, none⟩))) := Ta6.out.fr (hf.mono fun k q => by omega) (fun _ _ q => q)
  have Tb7 : Hid (TreeE (fun k => w.heap.size ≤ k) w7 b (.pointer (some ⟨bb, 0, none⟩))) := Tb6.out.fr (hf.mono fun k q => by omega) (fun _ _ q => q)
  clear hf hr hb hk3
  clear E6 R6 F6 Ta6 Tb6
  go_wp2_with fail
  rcases bX_cases hk4 with ⟨⟨c, p⟩, hn, rfl⟩ | ⟨x, j3, hn, hk5⟩
  · refine (fexpr_any HS.out w7 d _ _ hd (HI.out.two hb34 F7.out) R7.out hn).mono ?_
    rintro e w8 ⟨hf, rfl⟩
    exact ⟨rfl, F7.out.trans hf.two, rfl⟩
  refine (fexpr_any HS.out w7 d _ _ hd (HI.out.two hb34 F7.out) R7.out hn).mono ?_
  rintro e w8 ⟨hf, ⟨vx, rfl, hv⟩, hr⟩
  have R8 : Hid (RdF w8 br t j3 (d)) := hr
  have hz7 := F7.out.size
  have E8 : Hid (EBlk w8 be s0 op nm0 n0 a0 none 0 0) := E7.out.of hf (by omega)
  have F8 : Hid (Fr (fun k => k ≠ br ∧ k ≠ be) w w8) := F7.out.trans hf.two
  have Ta8 : Hid (TreeE (fun k => w.heap.size ≤ k) w8 a (.pointer (some ⟨ba, 0, none⟩))) := Ta7.out.fr (hf.mono fun k q => by omega) (fun _ _ q => q)
  have Tb8 : Hid (TreeE (fun k => w.heap.size ≤ k) w8 b (.pointer (some ⟨bb, 0, none⟩))) := Tb7.out.fr (hf.mono fun k q => by omega) (fun _ _ q => q)
  have Tx8 : Hid (TreeE (fun k => w.heap.size ≤ k) w8 x vx) := TreeE.fr (Fr.refl _ _) (fun _ _ q => by omega) hv
  clear hf hr hn hv hk4
  clear E7 R7 F7 Ta7 Tb7
  obtain ⟨bx, rfl, -, -⟩ := Tx8.out.ptr
  have c0 := block_cell E8.out 0
  have f0 := frozen_block E8.out 0
  have c5 := block_cell E8.out 5
  have f5 := frozen_block E8.out 5
  have hse := block_lt E8.out
  go_wp2_with fail
  go_end0
  obtain rfl : r = .ok (dIf a b x, j3) := by simp only [okX, Option.some.injEq] at hk5; exact hk5.symm
  have hzz := F8.out.size
  have hsz : (w8.setCell ⟨be, 0, none⟩ (.int .i64 8)).heap.size = w8.heap.size := by simp
  have hf0 : Fr (· ≠ be) w8 (w8.setCell ⟨be, 0, none⟩ (.int .i64 8)) := (Fr.refl _ _).set (by simp) _
  have E9 : EBlk (w8.setCell ⟨be, 0, none⟩ (.int .i64 8)) be 8 op nm0 n0 a0 none 0 0 := E8.out.sort 8
  obtain ⟨hT, hF⟩ := fill_row (lo := w.heap.size) E9 (m := 3) (vs := #[.pointer (some ⟨ba, 0, none⟩), .pointer (some ⟨bb, 0, none⟩), .pointer (some ⟨bx, 0, none⟩)]) (kids := [a, b, x]) (x := dIf a b x) rfl (by omega) (fun k y q => by
      match k with
      | 0 => simp at q; subst q; exact ⟨_, rfl, Ta8.out.fr (hf0.mono fun _ _ => by omega) fun _ _ q => by omega⟩
      | 1 => simp at q; subst q; exact ⟨_, rfl, Tb8.out.fr (hf0.mono fun _ _ => by omega) fun _ _ q => by omega⟩
      | 2 => simp at q; subst q; exact ⟨_, rfl, Tx8.out.fr (hf0.mono fun _ _ => by omega) fun _ _ q => by omega⟩
      | k + 3 => simp at q) (by rw [hsz]; exact hzz)
    (.inr (.inr (.inr (.inr (.inr (.inr (.inr (.inr (.inl ⟨rfl, a, b, x, rfl, rfl⟩)))))))))
  rw [hsz] at hT hF
  exact ⟨(F8.out.trans (hf0.mono fun _ q => q.2)).trans (hF.mono fun _ q => q.2), rfl, hT, RdF.of (RdF.of R8.out hf0 (Ne.symm hbe)) hF (Ne.symm hbe)⟩
end Go.Proofs.YtjbekejcghjhbaaGreatDoor.Sx

namespace Go.Proofs.YtjbekejcghjhbaaGreatDoor.Sx
open Go.RowKit Go.Sort

theorem enterX_cases {γ : Type} {K : Nat → Tk} {d i : Nat} {k : Nat → RX γ} {r : Except (Nat × Nat) (γ × Nat)} (hd : d ≤ 24) (h : enterX K d i k = some r) : (d < 24 ∧ k (i + 1) = some r) ∨ (d = 24 ∧ r = .error (6, (K i).at')) := by
  unfold enterX at h
  by_cases q : d = 24
  · rw [if_pos q] at h; simp only [errX, Option.some.injEq] at h; exact .inr ⟨q, h.symm⟩
  · rw [if_neg q] at h; exact .inl ⟨by omega, h⟩
theorem Fr.fresh {br be : Nat} {w w2 w3 : World} (F : Fr (· ≠ br) w w2) (hf : Fr (fun k => k ≠ br ∧ k ≠ be) w2 w3) (h : w.heap.size ≤ be) : Fr (· ≠ br) w w3 :=
  ⟨hf.os.trans F.os, hf.tape.trans F.tape, hf.output.trans F.output, Nat.le_trans F.size hf.size, fun k hk hq => (hf.block k (Nat.lt_of_lt_of_le hk F.size) ⟨hq, by omega⟩).trans (F.block k hk hq)⟩
/-- a node that was filled in, and the level is left -/
theorem fill_end {w w2 w3 w4 : World} {br be : Nat} {t : ByteArray} {d j : Nat} {x : PX} {r : Except (Nat × Nat) (PX × Nat)} (hw : w.heap.size ≤ be) (hlb : br < w.heap.size) (F : Fr (· ≠ br) w w2) (hf : Fr (fun k => k ≠ br ∧ k ≠ be) w2 w3) (hT : TreeE (fun k => k = be ∨ w2.heap.size ≤ k) w3 x (.pointer (some ⟨be, 0, none⟩))) (e : r = .ok (x, j)) (hr : RdF w4 br t j d) (hf4 : Fr (· ≠ br) w3 w4) :
    PostE w br t d r (.returned (.pointer (some ⟨be, 0, none⟩))) w4 := by
  subst e
  have := F.size
  exact ⟨(F.fresh hf hw).trans hf4, ⟨_, rfl, hT.fr (hf4.mono fun k q => by omega) fun k _ q => by omega⟩, hr⟩
theorem fill_err {w w2 w3 : World} {br be : Nat} {t : ByteArray} {d c p : Nat} (hw : w.heap.size ≤ be) (F : Fr (· ≠ br) w w2) (hf : Fr (fun k => k ≠ br ∧ k ≠ be) w2 w3) : PostE w br t d (.error (c, p)) (Flt c p) w3 := ⟨F.fresh hf hw, rfl⟩

set_option maxRecDepth 100000 in
set_option maxHeartbeats 1000000 in
theorem fbinding_any {br : Nat} {t : ByteArray} {self : Nat → Nat → Nat → RX PX} (hS : SelfOK br t self) (w : World) (d i : Nat) (hd : d ≤ 24) (ht : t.size ≤ 4000) (hI : EnvF w br) (hr : RdF w br t i d) (ho : opens0.contains (txF t.data.toList i) = true)
    (r : Except (Nat × Nat) (PX × Nat)) (h : bindingX (tkF t.data.toList) self d i = some r) :
    Calls Tryz.prog 290 #[.pointer (some ⟨br, 0, none⟩)] w (PostE w br t d r) := by
  have HS : Hid (SelfOK br t self) := hS
  have HI : Hid (EnvF w br) := hI
  have HR : Hid (RdF w br t i d) := hr
  have hlb := block_lt hr
  have h1 := block_cell hr 1
  have h2 := block_cell hr 2
  clear hI hS hr
  have mo := follows
  go_enter Tryz.func290, Tryz.ntmps290
  have hrd := RdF.of HR.out (P := fun _ => True) (Fr.grew (Grew.refl w).drew) trivial
  have k1 := block_cell hrd 1
  have k2 := block_cell hrd 2
  clear hrd
  go_wp2_with fail
  go_big_region_o
  have E1 : Hid (EBlk (w.alloc (.cells #[.int .i64 0, .string ⟨#[]⟩, .string ⟨#[]⟩, .int .i64 0, .int .i64 (atF t.data.toList i : Int), .slice none 0 0] 156)).drew w.heap.size 0 ⟨#[]⟩ ⟨#[]⟩ 0 (atF t.data.toList i) none 0 0) := EBlk.of (w := w.alloc (.cells #[.int .i64 0, .string ⟨#[]⟩, .string ⟨#[]⟩, .int .i64 0, .int .i64 (atF t.data.toList i : Int), .slice none 0 0] 156)) (P := fun _ => True) (heap_new rfl) (Fr.refl _ _).drew trivial
  have F1 : Hid (Fr (· ≠ br) w (w.alloc (.cells #[.int .i64 0, .string ⟨#[]⟩, .string ⟨#[]⟩, .int .i64 0, .int .i64 (atF t.data.toList i : Int), .slice none 0 0] 156)).drew) := ((Fr.refl _ w).alloc _).drew
  have R1 : Hid (RdF (w.alloc (.cells #[.int .i64 0, .string ⟨#[]⟩, .string ⟨#[]⟩, .int .i64 0, .int .i64 (atF t.data.toList i : Int), .slice none 0 0] 156)).drew br t i d) := RdF.of HR.out (P := fun _ => True) (((Fr.refl _ w).alloc _).drew) trivial
  clear h1 h2 k1 k2 HR
  generalize (w.alloc (.cells #[.int .i64 0, .string ⟨#[]⟩, .string ⟨#[]⟩, .int .i64 0, .int .i64 (atF t.data.toList i : Int), .slice none 0 0] 156)).drew = w1 at E1 F1 R1 ⊢
  obtain ⟨be, hbe⟩ : ∃ be, w.heap.size = be := ⟨_, rfl⟩
  have HB : Hid (w.heap.size = be) := hbe
  rw [hbe] at E1 hlb ⊢
  clear hbe
  have hne : be ≠ br := by omega
  have h34 := HI.out.new (Nat.le_of_eq HB.out)
  go_wp2_with fail
  rcases enterX_cases hd h with ⟨hd2, hk⟩ | ⟨rfl, rfl⟩
  case inr =>
    refine (fenter_full w1 br t i R1.out).mono ?_
    rintro e w2 ⟨rfl, rfl⟩
    exact ⟨rfl, F1.out, rfl⟩
  refine (fenter_ok w1 br t i d R1.out ht hd2).mono ?_
  rintro e w2 ⟨rfl, hr, hf⟩
  have R2 : Hid (RdF w2 br t (i + 1) (d + 1)) := hr
  have E2 : Hid (EBlk w2 be 0 ⟨#[]⟩ ⟨#[]⟩ 0 (atF t.data.toList i) none 0 0) := E1.out.of hf hne
  have F2 : Hid (Fr (· ≠ br) w w2) := F1.out.trans hf
  have hs2 : be < w2.heap.size := block_lt E2.out
  clear hr hf E1 F1 R1 h
  have HL : Hid (∀ (W : World) (k : Nat), _) := fun W k h => fleave_any W br t k d h (by omega)
  have hpl : (pcF t i).toList = txF t.data.toList i := by rw [ByteArray.toList_eq, pcF_list]
  have hsp : (pcF t i).data.toList = txF t.data.toList i := pcF_list t i
  have htx : (tkF t.data.toList i).tx = txF t.data.toList i := rfl
  simp only [htx] at hk
  generalize pcF t i = pc at hpl hsp ⊢
  by_cases q1 : txF t.data.toList i = wIf
  · have g1 : (pc.toList == [105, 102]) = true := by rw [hpl, q1]; rfl
    rw [q1, if_pos (by decide)] at hk
    clear hpl hsp htx q1 ho
    have HC : Hid (Calls _ _ _ _ _) := fchoice_any HS.out w2 be (d + 1) (i + 1) 0 _ _ _ 0 (by omega) ht hne h34 (HI.out.fr F2.out) R2.out E2.out r hk
    go_wp2_with fail
    refine HC.out.mono ?_
    rintro e w3 ⟨hf, hm⟩
    rcases r with ⟨c, p⟩ | ⟨x, j⟩
    · obtain rfl := hm
      exact ⟨rfl, fill_err (by have := HB.out; omega) F2.out hf⟩
    · obtain ⟨rfl, hT, hr⟩ := hm
      have HT : Hid (TreeE _ w3 x _) := hT
      have R3 : Hid (RdF w3 br t j (d + 1)) := hr
      have F3 : Hid (Fr _ w2 w3) := hf
      clear hT hr hf HC
      go_wp2_with (go_at_call 318; refine (HL.out _ _ R3.out).mono ?_; rintro e w4 ⟨rfl, hr, hf⟩; have R4 : Hid (RdF w4 br t j d) := hr; have F4 : Hid (Fr (· ≠ br) w3 w4) := hf; clear hr hf)
      go_ret
      exact fill_end (by have := HB.out; omega) (by have := HB.out; omega) F2.out F3.out HT.out rfl R4.out F4.out
  have g1 : (pc.toList == [105, 102]) = false := by rw [hpl]; simpa [wIf] using q1
  rw [if_neg (by simpa using q1)] at hk
  by_cases q2 : txF t.data.toList i = wLet
  · have g2 : (pc.toList == [108, 101, 116]) = true := by rw [hpl, q2]; rfl
    rw [q2, if_pos (by decide)] at hk
    clear hpl hsp htx q1 q2 ho
    have HC : Hid (Calls _ _ _ _ _) := fnaming_any HS.out w2 be (d + 1) (i + 1) 0 _ _ _ 0 (by omega) ht hne h34 (HI.out.fr F2.out) R2.out E2.out r hk
    go_wp2_with fail
    refine HC.out.mono ?_
    rintro e w3 ⟨hf, hm⟩
    rcases r with ⟨c, p⟩ | ⟨x, j⟩
    · obtain rfl := hm
      exact ⟨rfl, fill_err (by have := HB.out; omega) F2.out hf⟩
    · obtain ⟨rfl, hT, hr⟩ := hm
      have HT : Hid (TreeE _ w3 x _) := hT
      have R3 : Hid (RdF w3 br t j (d + 1)) := hr
      have F3 : Hid (Fr _ w2 w3) := hf
      clear hT hr hf HC
      go_wp2_with (go_at_call 318; refine (HL.out _ _ R3.out).mono ?_; rintro e w4 ⟨rfl, hr, hf⟩; have R4 : Hid (RdF w4 br t j d) := hr; have F4 : Hid (Fr (· ≠ br) w3 w4) := hf; clear hr hf)
      go_ret
      exact fill_end (by have := HB.out; omega) (by have := HB.out; omega) F2.out F3.out HT.out rfl R4.out F4.out
  have g2 : (pc.toList == [108, 101, 116]) = false := by rw [hpl]; simpa [wLet] using q2
  rw [if_neg (by simpa using q2)] at hk
  have E3 : Hid (EBlk (w2.setCell ⟨be, 1, none⟩ (.string pc)) be 0 pc ⟨#[]⟩ 0 (atF t.data.toList i) none 0 0) := E2.out.op pc
  have R3 : Hid (RdF (w2.setCell ⟨be, 1, none⟩ (.string pc)) br t (i + 1) (d + 1)) := R2.out.setB (Ne.symm hne) _
  have F3 : Hid (Fr (· ≠ br) w (w2.setCell ⟨be, 1, none⟩ (.string pc))) := F2.out.setB (by have := HB.out; simp; omega) _
  have c1 := block_cell E2.out 1
  have f1 := frozen_block E2.out 1
  have hop : pc.data.toList ∈ binds4 ∨ pc.data.toList ∈ binds2 := by
    rw [hsp]
    simp only [opens0, List.contains_cons, List.contains_nil, Bool.or_false, Bool.or_eq_true, beq_iff_eq] at ho
    refine .inl ?_
    simp only [binds4, List.mem_cons, List.not_mem_nil, or_false]
    rcases ho with ho | ho | ho
    · exact absurd ho q1
    · exact absurd ho q2
    · exact ho
  rw [← hsp] at hk
  have HC : Hid (Calls _ _ _ _ _) := fbound_any HS.out (w2.setCell ⟨be, 1, none⟩ (.string pc)) be (d + 1) (i + 1) 0 _ pc _ 0 (by omega) ht hne h34 (HI.out.fr F3.out) R3.out E3.out hop r hk
  clear hpl hsp htx q1 q2 ho hop E2 R2 F2 E3 R3
  have hsz : (w2.setCell ⟨be, 1, none⟩ (.string pc)).heap.size = w2.heap.size := by simp
  have hs3 : be < (w2.setCell ⟨be, 1, none⟩ (.string pc)).heap.size := by omega
  clear hsz
  go_wp2_with fail
  refine HC.out.mono ?_
  clear c1 f1
  generalize w2.setCell ⟨be, 1, none⟩ (.string pc) = w2' at F3 HC hs3 ⊢
  rintro e w3 ⟨hf, hm⟩
  rcases r with ⟨c, p⟩ | ⟨x, j⟩
  · obtain rfl := hm
    exact ⟨rfl, fill_err (by have := HB.out; omega) F3.out hf⟩
  · obtain ⟨rfl, hT, hr⟩ := hm
    have HT : Hid (TreeE _ w3 x _) := hT
    have R4 : Hid (RdF w3 br t j (d + 1)) := hr
    have F4 : Hid (Fr _ w2' w3) := hf
    clear hT hr hf HC
    go_wp2_with (go_at_call 318; refine (HL.out _ _ R4.out).mono ?_; rintro e w4 ⟨rfl, hr, hf⟩; have R5 : Hid (RdF w4 br t j d) := hr; have F5 : Hid (Fr (· ≠ br) w3 w4) := hf; clear hr hf)
    go_ret
    exact fill_end (by have := HB.out; omega) (by have := HB.out; omega) F3.out F4.out HT.out rfl R5.out F5.out
end Go.Proofs.YtjbekejcghjhbaaGreatDoor.Sx

namespace Go.Proofs.YtjbekejcghjhbaaGreatDoor.Sx
open Go.RowKit Go.Sort

theorem PostE.from {w w1 : World} {br : Nat} {t : ByteArray} {d : Nat} {r : Except (Nat × Nat) (PX × Nat)} {e : Ending} {w' : World} (F : Fr (· ≠ br) w w1) (h : PostE w1 br t d r e w') : PostE w br t d r e w' := by
  obtain ⟨hf, hm⟩ := h
  have := F.size
  refine ⟨F.trans hf, ?_⟩
  rcases r with ⟨c, p⟩ | ⟨x, j⟩
  · exact hm
  · obtain ⟨⟨v, rfl, hv⟩, hr⟩ := hm
    exact ⟨⟨v, rfl, hv.fr (Fr.refl _ _) fun _ _ q => by omega⟩, hr⟩

set_option maxRecDepth 100000 in
set_option maxHeartbeats 1000000 in
theorem fahead_any {br : Nat} {t : ByteArray} {self : Nat → Nat → Nat → RX PX} (hS : SelfOK br t self) (w : World) (d i rk : Nat) (hd : d ≤ 24) (ht : t.size ≤ 4000) (hI : EnvF w br) (hr : RdF w br t i d) (ho : rk = 6 ∧ opens6.contains (txF t.data.toList i) = true ∨ rk = 12 ∧ opens12.contains (txF t.data.toList i) = true)
    (r : Except (Nat × Nat) (PX × Nat)) (h : aheadX (tkF t.data.toList) self rk d i = some r) :
    Calls Tryz.prog 291 #[.pointer (some ⟨br, 0, none⟩), .int .i64 (rk : Int)] w (PostE w br t d r) := by
  have HS : Hid (SelfOK br t self) := hS
  have HI : Hid (EnvF w br) := hI
  have HR : Hid (RdF w br t i d) := hr
  have hlb := block_lt hr
  have h1 := block_cell hr 1
  have h2 := block_cell hr 2
  clear hI hS hr
  have mo := follows
  have HO : Hid (∀ W : World, Calls Tryz.prog 293 #[.string (pcF t i)] W fun e w' => e = .returned (.int .i64 (sortF (pcF t i).data.toList : Int)) ∧ Grew W w') := fun W => (foperator_any (pcF t i) W).mono fun e w' h => ⟨h.1, by rw [h.2]; exact Grew.refl _⟩
  have HRc : Hid (∀ W, Grew w W → W.cell? ⟨br, 1, none⟩ = some (.int .i64 (atF t.data.toList i : Int)) ∧ W.cell? ⟨br, 2, none⟩ = some (.string (pcF t i))) := by
    intro W g
    have h := RdF.of HR.out (P := fun _ => True) (Fr.grew g) trivial
    exact ⟨block_cell h 1, block_cell h 2⟩
  go_enter Tryz.func291, Tryz.ntmps291
  go_wp2_with fail
  go_region_held3 (fun w' => w'.cell? ⟨br, 1, none⟩ = some (.int .i64 (atF t.data.toList i : Int)) ∧ w'.cell? ⟨br, 2, none⟩ = some (.string (pcF t i))) (first | (constructor <;> assumption) | go_keep)
        ((go_at_call 293; refine (HO.out _).mono ?_; rintro e w' ⟨rfl, hg⟩; obtain ⟨j0, j1⟩ := HRc.out _ ((Grew.refl w).drew.trans hg); have HG : Hid (Grew w w') := (Grew.refl w).drew.trans hg; have j2 : br < w'.heap.size := Nat.lt_of_lt_of_le hlb HG.out.below.size; clear hg))
  obtain ⟨sv, hsv⟩ : ∃ sv, sortF (pcF t i).data.toList = sv := ⟨_, rfl⟩
  have HSV : Hid (sortF (pcF t i).data.toList = sv) := hsv
  rw [hsv]
  have E1 : Hid (EBlk (w'.alloc (.cells #[.int .i64 (sv : Int), .string (pcF t i), .string ⟨#[]⟩, .int .i64 0, .int .i64 (atF t.data.toList i : Int), .slice none 0 0] 156)) w'.heap.size sv (pcF t i) ⟨#[]⟩ 0 (atF t.data.toList i) none 0 0) := heap_new rfl
  have F1 : Hid (Fr (· ≠ br) w (w'.alloc (.cells #[.int .i64 (sv : Int), .string (pcF t i), .string ⟨#[]⟩, .int .i64 0, .int .i64 (atF t.data.toList i : Int), .slice none 0 0] 156))) := (Fr.grew HG.out).alloc _
  have R1 : Hid (RdF (w'.alloc (.cells #[.int .i64 (sv : Int), .string (pcF t i), .string ⟨#[]⟩, .int .i64 0, .int .i64 (atF t.data.toList i : Int), .slice none 0 0] 156)) br t i d) := RdF.of HR.out (P := fun _ => True) ((Fr.grew HG.out).alloc _) trivial
  have HB : Hid (w.heap.size ≤ w'.heap.size) := HG.out.below.size
  clear h1 h2 HR HRc HO j0 j1 hsv HG
  generalize hW : w'.alloc _ = w1 at E1 F1 R1 ⊢
  clear hW
  obtain ⟨be, hbe⟩ : ∃ be, w'.heap.size = be := ⟨_, rfl⟩
  rw [hbe] at E1 HB j2 ⊢
  clear hbe
  have hne : be ≠ br := by omega
  have h2 := block_cell R1.out 2
  have hpl : (pcF t i).toList = txF t.data.toList i := by rw [ByteArray.toList_eq, pcF_list]
  have hsp : (pcF t i).data.toList = txF t.data.toList i := pcF_list t i
  have htx : (tkF t.data.toList i).tx = txF t.data.toList i := rfl
  unfold aheadX at h
  simp only [htx] at h
  have HN : Hid (∀ (s rk : Nat) (op : List UInt8), _) := fun s rk op hs r h => fofName_any w1 br t i d s rk op hs R1.out ht r h
  by_cases q1 : txF t.data.toList i = wEnabled
  · have g1 : ((pcF t i).toList == [101, 110, 97, 98, 108, 101, 100]) = true := by rw [hpl, q1]; rfl
    rw [q1] at h ho
    have hrk : rk = 6 := by
      rcases ho with ⟨e, -⟩ | ⟨-, e⟩
      · exact e
      · exact absurd e (by decide)
    rw [if_pos (by decide)] at h
    have HC : Hid (Calls _ _ _ _ _) := HN.out 7 rk wEnabled (.inl ⟨rfl, hrk, rfl⟩) r h
    clear hpl hsp htx q1 ho h HN hrk
    go_wp2_with fail
    refine HC.out.mono ?_
    rintro e w2 hp
    rcases r with ⟨c, p⟩ | ⟨x, j⟩
    · obtain ⟨hf, rfl⟩ := hp
      exact ⟨rfl, F1.out.trans hf, rfl⟩
    · have HH := PostE.from F1.out hp
      obtain ⟨hf, ⟨v, rfl, hv⟩, hr⟩ := hp
      have HHH : Hid (PostE w br t d (.ok (x, j)) (.returned v) w2) := HH
      clear HH hf hv hr HC
      go_wp2_with fail
      go_ret
      exact HHH.out
  have g1 : ((pcF t i).toList == [101, 110, 97, 98, 108, 101, 100]) = false := by rw [hpl]; simpa [wEnabled] using q1
  by_cases q2 : txF t.data.toList i = wUnchanged
  · have g2 : ((pcF t i).toList == [117, 110, 99, 104, 97, 110, 103, 101, 100]) = true := by rw [hpl, q2]; rfl
    rw [q2] at h ho
    have hrk : rk = 12 := by
      rcases ho with ⟨-, e⟩ | ⟨e, -⟩
      · exact absurd e (by decide)
      · exact e
    rw [if_pos (by decide)] at h
    have HC : Hid (Calls _ _ _ _ _) := HN.out 6 rk wUnchanged (.inr ⟨rfl, hrk, rfl⟩) r h
    clear hpl hsp htx q1 q2 ho h HN hrk
    go_wp2_with fail
    refine HC.out.mono ?_
    rintro e w2 hp
    rcases r with ⟨c, p⟩ | ⟨x, j⟩
    · obtain ⟨hf, rfl⟩ := hp
      exact ⟨rfl, F1.out.trans hf, rfl⟩
    · have HH := PostE.from F1.out hp
      obtain ⟨hf, ⟨v, rfl, hv⟩, hr⟩ := hp
      have HHH : Hid (PostE w br t d (.ok (x, j)) (.returned v) w2) := HH
      clear HH hf hv hr HC
      go_wp2_with fail
      go_ret
      exact HHH.out
  have g2 : ((pcF t i).toList == [117, 110, 99, 104, 97, 110, 103, 101, 100]) = false := by rw [hpl]; simpa [wUnchanged] using q2
  rw [if_neg (by simp [q1, q2])] at h
  clear HN
  have HL : Hid (∀ (W : World) (k : Nat), _) := fun W k h => fleave_any W br t k d h (by omega)
  have hrk : rk ≤ 12 := by omega
  have hsv : sv = 11 ∨ sv = 12 := by
    have := HSV.out
    unfold sortF at this
    split at this <;> omega
  have hle : be < w1.heap.size := block_lt E1.out
  by_cases q3 : txF t.data.toList i = wNeg
  · have g3 : ((pcF t i).toList == [45]) = true := by rw [hpl, q3]; rfl
    have hrk12 : rk = 12 := by
      rw [q3] at ho
      rcases ho with ⟨-, e⟩ | ⟨e, -⟩
      · exact absurd e (by decide)
      · exact e
    have HM : Hid (∀ a, OpMeans (⟨#[110, 101, 103]⟩ : ByteArray).data.toList [a] (dAhead rk (txF t.data.toList i) a)) := fun a => .inr (.inr (.inr (.inr (.inr (.inr (.inl ⟨rfl, a, rfl, by rw [hrk12, q3]⟩))))))
    have c1 := block_cell E1.out 1
    have f1 := frozen_block E1.out 1
    have E2 : Hid (EBlk (w1.setCell ⟨be, 1, none⟩ (.string ⟨#[110, 101, 103]⟩)) be sv ⟨#[110, 101, 103]⟩ ⟨#[]⟩ 0 (atF t.data.toList i) none 0 0) := E1.out.op _
    have R2 : Hid (RdF (w1.setCell ⟨be, 1, none⟩ (.string ⟨#[110, 101, 103]⟩)) br t i d) := R1.out.setB (Ne.symm hne) _
    have F2 : Hid (Fr (· ≠ br) w (w1.setCell ⟨be, 1, none⟩ (.string ⟨#[110, 101, 103]⟩))) := F1.out.setB HB.out _
    clear hpl hsp htx q1 q2 q3 ho hrk12 E1 R1 F1
    go_wp2_with fail
    rcases enterX_cases hd h with ⟨hd2, hk⟩ | ⟨rfl, rfl⟩
    case inr =>
      refine (fenter_full (w1.setCell ⟨be, 1, none⟩ (.string ⟨#[110, 101, 103]⟩)) br t i R2.out).mono ?_
      rintro e w3 ⟨rfl, rfl⟩
      exact ⟨rfl, F2.out, rfl⟩
    refine (fenter_ok (w1.setCell ⟨be, 1, none⟩ (.string ⟨#[110, 101, 103]⟩)) br t i d R2.out ht hd2).mono ?_
    rintro e w3 ⟨rfl, hr, hf⟩
    have R3 : Hid (RdF w3 br t (i + 1) (d + 1)) := hr
    have E3 : Hid (EBlk w3 be sv ⟨#[110, 101, 103]⟩ ⟨#[]⟩ 0 (atF t.data.toList i) none 0 0) := E2.out.of hf hne
    have F3 : Hid (Fr (· ≠ br) w w3) := F2.out.trans hf
    have hs3 : be < w3.heap.size := block_lt E3.out
    clear hr hf E2 F2 R2 h
    go_wp2_with fail
    rcases bX_cases hk with ⟨⟨c, p⟩, hn, rfl⟩ | ⟨a, j, hn, hk2⟩
    · refine (HS.out w3 rk (d + 1) _ _ hrk (by omega) (HI.out.fr F3.out) R3.out hn).mono ?_
      rintro e w4 ⟨hf, rfl⟩
      exact ⟨rfl, F3.out.trans hf, rfl⟩
    refine (HS.out w3 rk (d + 1) _ _ hrk (by omega) (HI.out.fr F3.out) R3.out hn).mono ?_
    rintro e w4 ⟨hf, ⟨va, rfl, hv⟩, hr⟩
    have R4 : Hid (RdF w4 br t j (d + 1)) := hr
    have E4 : Hid (EBlk w4 be sv ⟨#[110, 101, 103]⟩ ⟨#[]⟩ 0 (atF t.data.toList i) none 0 0) := E3.out.of hf hne
    have F4 : Hid (Fr (· ≠ br) w3 w4) := hf
    have T4 : Hid (TreeE (fun k => w3.heap.size ≤ k) w4 a va) := hv
    have hs4 : be < w4.heap.size := block_lt E4.out
    have hz4 := hf.size
    clear hr hf hv hn hk E3 R3
    obtain ⟨ba, rfl, -, -⟩ := T4.out.ptr
    have c5 := block_cell E4.out 5
    have f5 := frozen_block E4.out 5
    obtain ⟨hT, hF⟩ := fill_row (lo := w3.heap.size) E4.out (m := 1) (vs := #[.pointer (some ⟨ba, 0, none⟩)]) (kids := [a]) (x := dAhead rk (txF t.data.toList i) a) rfl (by omega) (fun k y q => by
        match k with
        | 0 => simp at q; subst q; exact ⟨_, rfl, T4.out.fr (Fr.refl _ _) fun _ _ q => by omega⟩
        | k + 1 => simp at q) hz4
      (.inr (.inr (.inr (.inr (.inr (.inr (.inr (.inr (.inr (.inr (.inr ⟨hsv, HM.out a⟩)))))))))))
    have T5 : Hid (TreeE _ _ _ _) := hT
    have F5 : Hid (Fr (· ≠ be) w4 _) := hF
    have R5 : Hid (RdF _ br t j (d + 1)) := RdF.of R4.out hF (Ne.symm hne)
    have HE : Hid (r = .ok (dAhead rk (txF t.data.toList i) a, j)) := by simp only [okX, Option.some.injEq] at hk2; exact hk2.symm
    clear hT hF hk2 E4 R4 T4
    go_wp2_with (go_at_call 318; refine (HL.out _ _ R5.out).mono ?_; rintro e w6 ⟨rfl, hr, hf⟩; have R6 : Hid (RdF w6 br t j d) := hr; have F6 : Hid (Fr (· ≠ br) _ w6) := hf; clear hr hf)
    go_ret
    exact fill_end HB.out hlb F3.out (F4.out.two.trans (F5.out.mono fun _ q => q.2)) T5.out HE.out R6.out F6.out
  have g3 : ((pcF t i).toList == [45]) = false := by rw [hpl]; simpa [wNeg] using q3
  have HM : Hid (∀ a, OpMeans (pcF t i).data.toList [a] (dAhead rk (txF t.data.toList i) a)) := by
    intro a
    rw [hsp]
    rcases ho with ⟨rfl, ho⟩ | ⟨rfl, ho⟩
    · refine .inr (.inr (.inr (.inr (.inr (.inr (.inr (.inl ⟨?_, a, rfl, rfl⟩)))))))
      simp only [opens6, List.contains_cons, List.contains_nil, Bool.or_false, Bool.or_eq_true, beq_iff_eq] at ho
      simp only [aheads6, List.mem_cons, List.not_mem_nil, or_false]
      rcases ho with ho | ho | ho | ho
      · exact .inl ho
      · exact .inr (.inl ho)
      · exact .inr (.inr ho)
      · exact absurd ho q1
    · refine .inr (.inr (.inr (.inr (.inr (.inr (.inr (.inr (.inl ⟨?_, a, rfl, rfl⟩))))))))
      simp only [opens12, List.contains_cons, List.contains_nil, Bool.or_false, Bool.or_eq_true, beq_iff_eq] at ho
      simp only [aheads12, List.mem_cons, List.not_mem_nil, or_false]
      rcases ho with ho | ho | ho | ho | ho
      · exact absurd ho q3
      · exact .inl ho
      · exact .inr (.inl ho)
      · exact .inr (.inr ho)
      · exact absurd ho q2
  have E2 : Hid (EBlk w1 be sv (pcF t i) ⟨#[]⟩ 0 (atF t.data.toList i) none 0 0) := E1.out
  have R2 : Hid (RdF w1 br t i d) := R1.out
  have F2 : Hid (Fr (· ≠ br) w w1) := F1.out
  clear hpl hsp htx q1 q2 q3 ho E1 R1 F1
  go_wp2_with fail
  rcases enterX_cases hd h with ⟨hd2, hk⟩ | ⟨rfl, rfl⟩
  case inr =>
    refine (fenter_full w1 br t i R2.out).mono ?_
    rintro e w3 ⟨rfl, rfl⟩
    exact ⟨rfl, F2.out, rfl⟩
  refine (fenter_ok w1 br t i d R2.out ht hd2).mono ?_
  rintro e w3 ⟨rfl, hr, hf⟩
  have R3 : Hid (RdF w3 br t (i + 1) (d + 1)) := hr
  have E3 : Hid (EBlk w3 be sv (pcF t i) ⟨#[]⟩ 0 (atF t.data.toList i) none 0 0) := E2.out.of hf hne
  have F3 : Hid (Fr (· ≠ br) w w3) := F2.out.trans hf
  have hs3 : be < w3.heap.size := block_lt E3.out
  clear hr hf E2 F2 R2 h
  go_wp2_with fail
  rcases bX_cases hk with ⟨⟨c, p⟩, hn, rfl⟩ | ⟨a, j, hn, hk2⟩
  · refine (HS.out w3 rk (d + 1) _ _ hrk (by omega) (HI.out.fr F3.out) R3.out hn).mono ?_
    rintro e w4 ⟨hf, rfl⟩
    exact ⟨rfl, F3.out.trans hf, rfl⟩
  refine (HS.out w3 rk (d + 1) _ _ hrk (by omega) (HI.out.fr F3.out) R3.out hn).mono ?_
  rintro e w4 ⟨hf, ⟨va, rfl, hv⟩, hr⟩
  have R4 : Hid (RdF w4 br t j (d + 1)) := hr
  have E4 : Hid (EBlk w4 be sv (pcF t i) ⟨#[]⟩ 0 (atF t.data.toList i) none 0 0) := E3.out.of hf hne
  have F4 : Hid (Fr (· ≠ br) w3 w4) := hf
  have T4 : Hid (TreeE (fun k => w3.heap.size ≤ k) w4 a va) := hv
  have hs4 : be < w4.heap.size := block_lt E4.out
  have hz4 := hf.size
  clear hr hf hv hn hk E3 R3
  obtain ⟨ba, rfl, -, -⟩ := T4.out.ptr
  have c5 := block_cell E4.out 5
  have f5 := frozen_block E4.out 5
  obtain ⟨hT, hF⟩ := fill_row (lo := w3.heap.size) E4.out (m := 1) (vs := #[.pointer (some ⟨ba, 0, none⟩)]) (kids := [a]) (x := dAhead rk (txF t.data.toList i) a) rfl (by omega) (fun k y q => by
      match k with
      | 0 => simp at q; subst q; exact ⟨_, rfl, T4.out.fr (Fr.refl _ _) fun _ _ q => by omega⟩
      | k + 1 => simp at q) hz4
    (.inr (.inr (.inr (.inr (.inr (.inr (.inr (.inr (.inr (.inr (.inr ⟨hsv, HM.out a⟩)))))))))))
  have T5 : Hid (TreeE _ _ _ _) := hT
  have F5 : Hid (Fr (· ≠ be) w4 _) := hF
  have R5 : Hid (RdF _ br t j (d + 1)) := RdF.of R4.out hF (Ne.symm hne)
  have HE : Hid (r = .ok (dAhead rk (txF t.data.toList i) a, j)) := by simp only [okX, Option.some.injEq] at hk2; exact hk2.symm
  clear hT hF hk2 E4 R4 T4
  go_wp2_with (go_at_call 318; refine (HL.out _ _ R5.out).mono ?_; rintro e w6 ⟨rfl, hr, hf⟩; have R6 : Hid (RdF w6 br t j d) := hr; have F6 : Hid (Fr (· ≠ br) _ w6) := hf; clear hr hf)
  go_ret
  exact fill_end HB.out hlb F3.out (F4.out.two.trans (F5.out.mono fun _ q => q.2)) T5.out HE.out R6.out F6.out
end Go.Proofs.YtjbekejcghjhbaaGreatDoor.Sx

namespace Go.Proofs.YtjbekejcghjhbaaGreatDoor.Sx
open Go.RowKit Go.Sort

/-- what a call ends in that makes more of a part that was read -/
def PostL (lo : Nat) (w : World) (br : Nat) (t : ByteArray) (d : Nat) (r : Except (Nat × Nat) (PX × Nat)) (e : Ending) (w' : World) : Prop :=
  Fr (· ≠ br) w w' ∧ match r with
    | .ok (x, j) => (∃ v, e = .returned v ∧ TreeE (fun k => lo ≤ k) w' x v) ∧ RdF w' br t j d
    | .error (c, p) => e = Flt c p
set_option maxRecDepth 100000 in
set_option maxHeartbeats 1000000 in
theorem fjoined_any {br : Nat} {t : ByteArray} {self : Nat → Nat → Nat → RX PX} (hS : SelfOK br t self) (w : World) (lo d i lv : Nat) (x : PX) (v : Value) (hd : d ≤ 24) (ht : t.size ≤ 4000) (hI : EnvF w br) (hr : RdF w br t i d) (hlo : lo ≤ w.heap.size) (hbl : br < lo) (hx : TreeE (fun k => lo ≤ k) w x v) (hlv : levelF (txF t.data.toList i) = lv) (hl0 : lv ≠ 0)
    (r : Except (Nat × Nat) (PX × Nat)) (h : bX (self (rightF lv) d (i + 1)) (fun y j => okX (dBin (txF t.data.toList i) x y) j) = some r) :
    Calls Tryz.prog 247 #[.pointer (some ⟨br, 0, none⟩), v, gripV lv] w (PostL lo w br t d r) := by
  have HS : Hid (SelfOK br t self) := hS
  have HI : Hid (EnvF w br) := hI
  have HR : Hid (RdF w br t i d) := hr
  have hlb := block_lt hr
  have h1 := block_cell hr 1
  have h2 := block_cell hr 2
  clear hI hS hr
  have mo := follows
  unfold gripV
  rw [if_neg hl0]
  obtain ⟨bl, rfl, -, -⟩ := hx.ptr
  have HX : Hid (TreeE (fun k => lo ≤ k) w x _) := hx
  clear hx
  go_enter Tryz.func247, Tryz.ntmps247
  go_wp2_with fail
  have GB : Hid ((w.alloc (.cells #[.int .i64 (lv : Int), .int .i64 (leftF lv : Int), .int .i64 (rightF lv : Int)] 204)).heap[w.heap.size]? = some (.cells #[.int .i64 (lv : Int), .int .i64 (leftF lv : Int), .int .i64 (rightF lv : Int)] 204 (0, 0))) := heap_new rfl
  have F0 : Hid (Fr (· ≠ br) w (w.alloc (.cells #[.int .i64 (lv : Int), .int .i64 (leftF lv : Int), .int .i64 (rightF lv : Int)] 204))) := (Fr.refl _ w).alloc _
  have R0 : Hid (RdF (w.alloc (.cells #[.int .i64 (lv : Int), .int .i64 (leftF lv : Int), .int .i64 (rightF lv : Int)] 204)) br t i d) := RdF.of HR.out (P := fun _ => True) ((Fr.refl _ w).alloc _) trivial
  have X0 : Hid (TreeE (fun k => lo ≤ k) (w.alloc (.cells #[.int .i64 (lv : Int), .int .i64 (leftF lv : Int), .int .i64 (rightF lv : Int)] 204)) x (.pointer (some ⟨bl, 0, none⟩))) := HX.out.fr ((Fr.refl _ w).alloc _) fun _ _ q => q
  clear h1 h2 HR HX
  generalize w.alloc (.cells #[.int .i64 (lv : Int), .int .i64 (leftF lv : Int), .int .i64 (rightF lv : Int)] 204) = w0 at GB F0 R0 X0 ⊢
  obtain ⟨bg, hbg⟩ : ∃ bg, w.heap.size = bg := ⟨_, rfl⟩
  rw [hbg] at GB hlb hlo ⊢
  have HBG : Hid (w.heap.size = bg) := hbg
  clear hbg
  have HO : Hid (∀ W : World, Calls Tryz.prog 293 #[.string (pcF t i)] W fun e w' => e = .returned (.int .i64 (sortF (pcF t i).data.toList : Int)) ∧ Grew W w') := fun W => (foperator_any (pcF t i) W).mono fun e w' h => ⟨h.1, by rw [h.2]; exact Grew.refl _⟩
  have HRc : Hid (∀ W, Grew w0 W → W.cell? ⟨br, 1, none⟩ = some (.int .i64 (atF t.data.toList i : Int)) ∧ W.cell? ⟨br, 2, none⟩ = some (.string (pcF t i))) := by
    intro W g
    have h := RdF.of R0.out (P := fun _ => True) (Fr.grew g) trivial
    exact ⟨block_cell h 1, block_cell h 2⟩
  obtain ⟨h1, h2⟩ := HRc.out w0 (Grew.refl _)
  have hlb0 : br < w0.heap.size := block_lt R0.out
  have hbg0 : bg < w0.heap.size := block_lt GB.out
  go_region_held3 (fun w' => w'.cell? ⟨br, 1, none⟩ = some (.int .i64 (atF t.data.toList i : Int)) ∧ w'.cell? ⟨br, 2, none⟩ = some (.string (pcF t i))) (first | (constructor <;> assumption) | go_keep)
        ((go_at_call 293; refine (HO.out _).mono ?_; rintro e w' ⟨rfl, hg⟩; obtain ⟨j0, j1⟩ := HRc.out _ ((Grew.refl w0).drew.trans hg); have HG : Hid (Grew w0 w') := (Grew.refl w0).drew.trans hg; have j2 : br < w'.heap.size := Nat.lt_of_lt_of_le hlb0 HG.out.below.size; clear hg))
  obtain ⟨sv, hsv⟩ : ∃ sv, sortF (pcF t i).data.toList = sv := ⟨_, rfl⟩
  have HSV : Hid (sortF (pcF t i).data.toList = sv) := hsv
  rw [hsv]
  have E1 : Hid (EBlk (w'.alloc (.cells #[.int .i64 (sv : Int), .string ⟨#[]⟩, .string ⟨#[]⟩, .int .i64 0, .int .i64 (atF t.data.toList i : Int), .slice none 0 0] 156)) w'.heap.size sv ⟨#[]⟩ ⟨#[]⟩ 0 (atF t.data.toList i) none 0 0) := heap_new rfl
  have hfa : Fr (fun _ => True) w0 (w'.alloc (.cells #[.int .i64 (sv : Int), .string ⟨#[]⟩, .string ⟨#[]⟩, .int .i64 0, .int .i64 (atF t.data.toList i : Int), .slice none 0 0] 156)) := (Fr.grew HG.out).alloc _
  have F1 : Hid (Fr (· ≠ br) w (w'.alloc (.cells #[.int .i64 (sv : Int), .string ⟨#[]⟩, .string ⟨#[]⟩, .int .i64 0, .int .i64 (atF t.data.toList i : Int), .slice none 0 0] 156))) := F0.out.trans (hfa.mono fun _ _ => trivial)
  have R1 : Hid (RdF (w'.alloc (.cells #[.int .i64 (sv : Int), .string ⟨#[]⟩, .string ⟨#[]⟩, .int .i64 0, .int .i64 (atF t.data.toList i : Int), .slice none 0 0] 156)) br t i d) := RdF.of R0.out hfa trivial
  have X1 : Hid (TreeE (fun k => lo ≤ k ∧ k < w0.heap.size) (w'.alloc (.cells #[.int .i64 (sv : Int), .string ⟨#[]⟩, .string ⟨#[]⟩, .int .i64 0, .int .i64 (atF t.data.toList i : Int), .slice none 0 0] 156)) x (.pointer (some ⟨bl, 0, none⟩))) := X0.out.fr (hfa.mono fun _ _ => trivial) fun _ h q => ⟨q, h⟩
  have G1 : Hid ((w'.alloc (.cells #[.int .i64 (sv : Int), .string ⟨#[]⟩, .string ⟨#[]⟩, .int .i64 0, .int .i64 (atF t.data.toList i : Int), .slice none 0 0] 156)).heap[bg]? = _) := (hfa.block bg hbg0 trivial).trans GB.out
  have HB : Hid (w0.heap.size ≤ w'.heap.size) := HG.out.below.size
  have XP := X0.out.ptr
  clear h1 h2 HRc HO j0 j1 hsv HG R0 F0 X0 GB hfa
  generalize hW : w'.alloc _ = w1 at E1 F1 R1 X1 G1 ⊢
  clear hW
  obtain ⟨be, hbe⟩ : ∃ be, w'.heap.size = be := ⟨_, rfl⟩
  rw [hbe] at E1 HB j2 ⊢
  clear hbe
  have hB := HB.out
  have hne : be ≠ br := by omega
  obtain ⟨bl', hbl', hblo, hbl0⟩ := XP
  obtain rfl : bl = bl' := by simpa using hbl'
  have hbe1 : be < w1.heap.size := block_lt E1.out
  have HT : Hid (∀ W : World, _) := fun W h => ftake_any W br t i d h ht
  go_wp2_with (go_at_call 294; refine (HT.out _ R1.out).mono ?_; rintro e w2 ⟨rfl, hr, hf⟩; have R2 : Hid (RdF w2 br t (i + 1) d) := hr; have E2 : Hid (EBlk w2 be sv ⟨#[]⟩ ⟨#[]⟩ 0 (atF t.data.toList i) none 0 0) := E1.out.of hf hne; have F2 : Hid (Fr (· ≠ br) w w2) := F1.out.trans hf; have X2 : Hid (TreeE (fun k => lo ≤ k ∧ k < w0.heap.size) w2 x (.pointer (some ⟨bl, 0, none⟩))) := X1.out.fr (hf.mono fun k q => by omega) fun _ _ q => q; have G2 : Hid (w2.heap[bg]? = _) := (hf.block bg (block_lt G1.out) (by omega)).trans G1.out; have c1 := block_cell E2.out 1; have f1 := frozen_block E2.out 1; have q2 := block_cell G2.out 2; clear hr hf)
  have E3 : Hid (EBlk (w2.setCell ⟨be, 1, none⟩ (.string (pcF t i))) be sv (pcF t i) ⟨#[]⟩ 0 (atF t.data.toList i) none 0 0) := E2.out.op _
  have R3 : Hid (RdF (w2.setCell ⟨be, 1, none⟩ (.string (pcF t i))) br t (i + 1) d) := R2.out.setB (Ne.symm hne) _
  have F3 : Hid (Fr (· ≠ br) w (w2.setCell ⟨be, 1, none⟩ (.string (pcF t i)))) := F2.out.setB (by have := HBG.out; simp; omega) _
  have X3 : Hid (TreeE (fun k => lo ≤ k ∧ k < w0.heap.size) (w2.setCell ⟨be, 1, none⟩ (.string (pcF t i))) x (.pointer (some ⟨bl, 0, none⟩))) := X2.out.fr ((Fr.refl _ _).set (by simp; omega) _) fun _ _ q => q
  have hs3 : be < (w2.setCell ⟨be, 1, none⟩ (.string (pcF t i))).heap.size := block_lt E3.out
  clear c1 f1 q2 E2 R2 F2 X2 G2 E1 R1 F1 X1 G1 HT
  generalize w2.setCell ⟨be, 1, none⟩ (.string (pcF t i)) = w3 at E3 R3 F3 X3 hs3 ⊢
  have hlr : rightF lv ≤ 12 := by
    have := levelF_in (txF t.data.toList i)
    unfold rightF; split <;> omega
  have hsp : (pcF t i).data.toList = txF t.data.toList i := pcF_list t i
  rcases bX_cases h with ⟨⟨c, p⟩, hn, rfl⟩ | ⟨y, j, hn, hk⟩
  · refine (HS.out w3 (rightF lv) d _ _ hlr hd (HI.out.fr F3.out) R3.out hn).mono ?_
    rintro e w4 ⟨hf, rfl⟩
    exact ⟨rfl, F3.out.trans hf, rfl⟩
  refine (HS.out w3 (rightF lv) d _ _ hlr hd (HI.out.fr F3.out) R3.out hn).mono ?_
  rintro e w4 ⟨hf, ⟨vy, rfl, hv⟩, hr⟩
  have R4 : Hid (RdF w4 br t j d) := hr
  have E4 : Hid (EBlk w4 be sv (pcF t i) ⟨#[]⟩ 0 (atF t.data.toList i) none 0 0) := E3.out.of hf hne
  have F4 : Hid (Fr (· ≠ br) w w4) := F3.out.trans hf
  have X4 : Hid (TreeE (fun k => lo ≤ k ∧ k < w0.heap.size) w4 x (.pointer (some ⟨bl, 0, none⟩))) := X3.out.fr (hf.mono fun k q => by omega) fun _ _ q => q
  have Y4 : Hid (TreeE (fun k => w3.heap.size ≤ k) w4 y vy) := hv
  have hs4 : be < w4.heap.size := block_lt E4.out
  have hz4 := hf.size
  clear hr hf hv hn h E3 R3 F3 X3
  obtain ⟨bb, rfl, -, -⟩ := Y4.out.ptr
  have c5 := block_cell E4.out 5
  have f5 := frozen_block E4.out 5
  have hsv : sv = 11 ∨ sv = 12 := by
    have := HSV.out
    unfold sortF at this
    split at this <;> omega
  have hin : (pcF t i).data.toList ∈ joins.map Prod.fst := by
    rw [hsp]
    refine Classical.byContradiction fun q => ?_
    have : levelF (txF t.data.toList i) = 0 := by unfold levelF; rw [lookup_none _ q]; rfl
    omega
  go_wp2_with fail
  go_ret
  obtain rfl : r = .ok (dBin (txF t.data.toList i) x y, j) := by simp only [okX, Option.some.injEq] at hk; exact hk.symm
  obtain ⟨hT, hF⟩ := fill_row (lo := lo) E4.out (m := 2) (vs := #[.pointer (some ⟨bl, 0, none⟩), .pointer (some ⟨bb, 0, none⟩)]) (kids := [x, y]) (x := dBin (txF t.data.toList i) x y) rfl (by omega) (fun k z q => by
      match k with
      | 0 => simp at q; subst q; exact ⟨_, rfl, X4.out.fr (Fr.refl _ _) fun _ _ q => by omega⟩
      | 1 => simp at q; subst q; exact ⟨_, rfl, Y4.out.fr (Fr.refl _ _) fun _ _ q => by omega⟩
      | k + 2 => simp at q) (by omega)
    (.inr (.inr (.inr (.inr (.inr (.inr (.inr (.inr (.inr (.inr (.inr ⟨hsv, .inl ⟨hin, x, y, rfl, by rw [hsp]⟩⟩)))))))))))
  have hbw := HBG.out
  refine ⟨F4.out.fresh (hF.mono fun _ q => q.2) (by omega), ⟨_, rfl, hT.fr (Fr.refl _ _) fun _ _ q => by omega⟩, RdF.of R4.out hF (Ne.symm hne)⟩
end Go.Proofs.YtjbekejcghjhbaaGreatDoor.Sx
