/- The reference: how tightly a node holds. -/
import Derived.Test.YtjbekejcghjhbaaGreatDoorF30
namespace Go.Proofs.YtjbekejcghjhbaaGreatDoor.Sx
open Go.RowKit Go.Sort

def ownL : List (List UInt8 × Nat) := [([105, 102], 0), ([108, 101, 116], 0), ([97, 108, 108], 0), ([115, 111, 109, 101], 0), ([99, 104, 111, 111, 115, 101], 0), ([102, 117, 110, 32, 105, 110], 0), ([110, 111, 116], 6), ([97, 108, 119, 97, 121, 115], 6), ([101, 118, 101, 110, 116, 117, 97, 108, 108, 121], 6), ([101, 110, 97, 98, 108, 101, 100], 6), ([110, 101, 103], 12), ([100, 111, 109, 97, 105, 110], 12), ([112, 111, 119, 101, 114, 115, 101, 116], 12), ([102, 108, 97, 116, 116, 101, 110], 12), ([117, 110, 99, 104, 97, 110, 103, 101, 100], 12), ([97, 116], 13), ([112, 117, 116], 13)]
/-- how tightly a node of a sort holds -/
def ownF (l : List UInt8) : Nat := match ownL.lookup l with | some n => n | none => if levelF l = 0 then 14 else levelF l
set_option maxRecDepth 100000 in
set_option maxHeartbeats 8000000 in
theorem gown_some (op : ByteArray) (w : World) (be : Nat) (c0 : w.cell? ⟨be, 0, none⟩ = some (.string op)) (h : op.data.toList ∈ ownL.map Prod.fst) : Calls Tryz.prog 60 #[.pointer (some ⟨be, 0, none⟩)] w fun e w' => e = .returned (.int .i64 (ownF op.data.toList : Int)) ∧ w' = w := by
  have mo := follows
  simp only [ownL, List.map_cons, List.map_nil, List.mem_cons, List.not_mem_nil, or_false] at h
  obtain ⟨v, hv⟩ : ∃ v, ownF op.data.toList = v := ⟨_, rfl⟩
  rw [hv]
  have hs : op = ⟨⟨op.data.toList⟩⟩ := by cases op; rfl
  generalize op.data.toList = l at h hs hv
  subst hs
  rcases h with rfl | rfl | rfl | rfl | rfl | rfl | rfl | rfl | rfl | rfl | rfl | rfl | rfl | rfl | rfl | rfl | rfl
  all_goals
    obtain rfl := hv
    go_enter Tryz.func60, Tryz.ntmps60
    go_wp2_with fail
    go_ret
    exact ⟨rfl, rfl⟩

set_option maxRecDepth 100000 in
set_option maxHeartbeats 8000000 in
theorem gown_none (op : ByteArray) (w : World) (be : Nat) (c0 : w.cell? ⟨be, 0, none⟩ = some (.string op)) (h : op.data.toList ∉ ownL.map Prod.fst) (u : Nat) (hu : u = if levelF op.data.toList = 0 then 14 else levelF op.data.toList) : Calls Tryz.prog 60 #[.pointer (some ⟨be, 0, none⟩)] w fun e w' => e = .returned (.int .i64 (u : Int)) ∧ w' = w := by
  have mo := follows
  simp only [ownL, List.map_cons, List.map_nil, List.mem_cons, List.not_mem_nil, or_false, not_or] at h
  have hs : op.toList = op.data.toList := by rw [ByteArray.toList_eq]
  rw [← hs] at h
  obtain ⟨h1, h2, h3, h4, h5, h6, h7, h8, h9, h10, h11, h12, h13, h14, h15, h16, h17⟩ := h
  replace h1 := beq_eq_false_iff_ne.2 h1
  replace h2 := beq_eq_false_iff_ne.2 h2
  replace h3 := beq_eq_false_iff_ne.2 h3
  replace h4 := beq_eq_false_iff_ne.2 h4
  replace h5 := beq_eq_false_iff_ne.2 h5
  replace h6 := beq_eq_false_iff_ne.2 h6
  replace h7 := beq_eq_false_iff_ne.2 h7
  replace h8 := beq_eq_false_iff_ne.2 h8
  replace h9 := beq_eq_false_iff_ne.2 h9
  replace h10 := beq_eq_false_iff_ne.2 h10
  replace h11 := beq_eq_false_iff_ne.2 h11
  replace h12 := beq_eq_false_iff_ne.2 h12
  replace h13 := beq_eq_false_iff_ne.2 h13
  replace h14 := beq_eq_false_iff_ne.2 h14
  replace h15 := beq_eq_false_iff_ne.2 h15
  replace h16 := beq_eq_false_iff_ne.2 h16
  replace h17 := beq_eq_false_iff_ne.2 h17
  clear hs
  have HV : Hid (∀ W : World, Calls _ _ _ _ _) := fun W => glevel_any op W
  obtain ⟨v, hv⟩ : ∃ v, levelF op.data.toList = v := ⟨_, rfl⟩
  rw [hv] at HV hu
  clear hv
  go_enter Tryz.func60, Tryz.ntmps60
  go_wp2_with fail
  refine (HV.out w).mono ?_
  rintro e W ⟨rfl, hW⟩
  rw [hW]
  clear hW
  by_cases h0 : v = 0
  · subst h0
    obtain rfl : u = 14 := hu
    go_wp2_with fail
    go_ret
    exact ⟨rfl, rfl⟩
  · obtain rfl : u = v := by rw [hu, if_neg h0]
    clear hu
    have hgt : (0 : Int) < (u : Int) := by omega
    go_wp2_with fail
    go_ret
    exact ⟨rfl, rfl⟩
theorem gown_any (op : ByteArray) (w : World) (be : Nat) (c0 : w.cell? ⟨be, 0, none⟩ = some (.string op)) : Calls Tryz.prog 60 #[.pointer (some ⟨be, 0, none⟩)] w fun e w' => e = .returned (.int .i64 (ownF op.data.toList : Int)) ∧ w' = w := by
  by_cases h : op.data.toList ∈ ownL.map Prod.fst
  · exact gown_some op w be c0 h
  · have e : ownF op.data.toList = if levelF op.data.toList = 0 then 14 else levelF op.data.toList := by unfold ownF; rw [lookup_none _ h]
    exact gown_none op w be c0 h _ e
/-- a node's rank is its sort's -/
theorem own_rank {op nm tx : List UInt8} {k n : Int} {kids : List PX} {x : PX} (h : MeansT op nm k n tx kids x) : x.rk = ownF op := by
  rcases h with ⟨rfl, h⟩ | ⟨rfl, rfl⟩ | ⟨rfl, rfl⟩ | ⟨rfl, rfl⟩ | ⟨h, rfl⟩ | ⟨rfl, rfl⟩ | ⟨rfl, rfl⟩ | ⟨rfl, rfl⟩ | ⟨rfl, rfl⟩ | ⟨rfl, rfl⟩ | ⟨rfl, a, b, c, rfl, rfl⟩ | ⟨rfl, a, b, rfl, rfl⟩ | ⟨h, a, b, rfl, rfl⟩ | ⟨rfl, a, b, rfl, rfl⟩ | ⟨rfl, a, rfl, rfl⟩ | ⟨h, a, rfl, rfl⟩ | ⟨h, a, rfl, rfl⟩ | ⟨rfl, a, b, rfl, rfl⟩ | ⟨rfl, a, b, c, rfl, rfl⟩ | ⟨h, a, b, rfl, rfl⟩
  · rcases h with ⟨_, rfl⟩ | ⟨_, _, rfl⟩ | ⟨_, _, rfl⟩ | ⟨_, _, _, rfl⟩ | ⟨_, rfl⟩ <;> rfl
  · rfl
  · rfl
  · rfl
  · simp only [called7, List.mem_cons, List.not_mem_nil, or_false] at h
    rcases h with rfl | rfl | rfl | rfl | rfl | rfl | rfl <;> rfl
  · rfl
  · rfl
  · rfl
  · rfl
  · rfl
  · rfl
  · rfl
  · simp only [binds3, binds2, List.mem_cons, List.not_mem_nil, or_false] at h
    rcases h with (rfl | rfl | rfl) | (rfl | rfl) <;> rfl
  · rfl
  · rfl
  · simp only [aheads6, List.mem_cons, List.not_mem_nil, or_false] at h
    rcases h with rfl | rfl | rfl <;> rfl
  · simp only [aheads12, List.mem_cons, List.not_mem_nil, or_false] at h
    rcases h with rfl | rfl | rfl <;> rfl
  · rfl
  · rfl
  · simp only [joins, List.map_cons, List.map_nil, List.mem_cons, List.not_mem_nil, or_false] at h
    rcases h with rfl | rfl | rfl | rfl | rfl | rfl | rfl | rfl | rfl | rfl | rfl | rfl | rfl | rfl | rfl | rfl | rfl | rfl | rfl | rfl | rfl | rfl | rfl | rfl | rfl <;> rfl
end Go.Proofs.YtjbekejcghjhbaaGreatDoor.Sx

namespace Go.Proofs.YtjbekejcghjhbaaGreatDoor.Sx
open Go.RowKit Go.Sort

set_option maxRecDepth 100000 in
set_option maxHeartbeats 1000000 in
theorem gP_fault {K : Nat → Tk} {N br bl : Nat} (w : World) (n d : Nat) (q : Nat × Nat) (h : RSd K N w br bl (.error q) d) :
    Calls Tryz.prog 58 #[.pointer (some ⟨br, 0, none⟩), .int .i64 (n : Int)] w (PostT K N w br bl d (.error q)) := by
  have HR : Hid (RSd K N w br bl (.error q) d) := h
  obtain ⟨e3, hf⟩ := h.err
  obtain ⟨c, p⟩ := q
  have hc : ((c : Int) == 0) = false := hf c p rfl
  have e3' : w.cell? ⟨br, 3, none⟩ = some (.int .i64 (c : Int)) := e3
  have mo := follows
  clear h hf e3
  go_enter Tryz.func58, Tryz.ntmps58
  go_wp2_with fail
  go_ret
  exact ⟨Fr.grew ((Grew.refl _).alloc _), HR.out.grew ((Grew.refl _).alloc _), _, rfl, fun x j e => by simp at e⟩
end Go.Proofs.YtjbekejcghjhbaaGreatDoor.Sx

namespace Go.Proofs.YtjbekejcghjhbaaGreatDoor.Sx
open Go.RowKit Go.Sort

/-- a node laid anew, its parts in a row laid just before -/
theorem newT {w : World} {lo m : Nat} {op nm : ByteArray} {a : Int} {vs : Array Value} {kids : List PX} {x : PX} (hm : m = kids.length) (hm4 : m ≤ 4294967296)
    (hk : ∀ (i : Nat) (x : PX), kids[i]? = some x → ∃ v, vs[i]? = some v ∧ TreeT (fun k => lo ≤ k) w x v) (hlo : lo ≤ w.heap.size) (hx : MeansT op.data.toList nm.data.toList 0 0 [] kids x) :
    TreeT (fun k => lo ≤ k) ((w.alloc (.cells vs 57 (0, 0))).alloc (.cells #[.string op, .int .i64 a, .string nm, .int .i64 0, .int .i64 0, .string ⟨#[]⟩, .slice none 0 0, .slice none 0 0, .slice (some ⟨w.heap.size, 0, none⟩) m m, .int .i64 0, .int .i64 0] 165 (0, 0))) x (.pointer (some ⟨w.heap.size + 1, 0, none⟩)) := by
  have hF : Fr (fun _ => True) w ((w.alloc (.cells vs 57 (0, 0))).alloc (.cells #[.string op, .int .i64 a, .string nm, .int .i64 0, .int .i64 0, .string ⟨#[]⟩, .slice none 0 0, .slice none 0 0, .slice (some ⟨w.heap.size, 0, none⟩) m m, .int .i64 0, .int .i64 0] 165 (0, 0))) := ((Fr.refl _ w).alloc _).alloc _
  have hE : XBlk ((w.alloc (.cells vs 57 (0, 0))).alloc (.cells #[.string op, .int .i64 a, .string nm, .int .i64 0, .int .i64 0, .string ⟨#[]⟩, .slice none 0 0, .slice none 0 0, .slice (some ⟨w.heap.size, 0, none⟩) m m, .int .i64 0, .int .i64 0] 165 (0, 0))) (w.heap.size + 1) op a nm 0 0 ⟨#[]⟩ (some ⟨w.heap.size, 0, none⟩) m m := heap_new (allocT_size w _)
  have hR : (w.alloc (.cells vs 57 (0, 0))).heap[w.heap.size]? = some (.cells vs 57 (0, 0)) := heap_new rfl
  have hG : Fr (fun _ => True) (w.alloc (.cells vs 57 (0, 0))) ((w.alloc (.cells vs 57 (0, 0))).alloc (.cells #[.string op, .int .i64 a, .string nm, .int .i64 0, .int .i64 0, .string ⟨#[]⟩, .slice none 0 0, .slice none 0 0, .slice (some ⟨w.heap.size, 0, none⟩) m m, .int .i64 0, .int .i64 0] 165 (0, 0))) := (Fr.refl _ _).alloc _
  have hN := (hG.block w.heap.size (block_lt hR) trivial).trans hR
  refine TreeT.node ⟨w.heap.size + 1, op, nm, ⟨#[]⟩, a, 0, 0, _, m, m, kids, rfl, by omega, hE, ⟨hm, hm4, .inr ⟨w.heap.size, 0, rfl, block_lt hN, hlo, fun i x q => ?_⟩⟩, hx⟩
  obtain ⟨v, hv, ht⟩ := hk i x q
  exact ⟨v, by rw [Nat.zero_add, block_cell hN]; exact hv, ht.fr (hF.mono fun _ _ => trivial) fun k _ q => q⟩
end Go.Proofs.YtjbekejcghjhbaaGreatDoor.Sx

namespace Go.Proofs.YtjbekejcghjhbaaGreatDoor.Sx
open Go.RowKit Go.Sort

def threeB : List ByteArray := [⟨#[110, 111, 116]⟩, ⟨#[97, 108, 119, 97, 121, 115]⟩, ⟨#[101, 118, 101, 110, 116, 117, 97, 108, 108, 121]⟩]
theorem aheads6_mark {l : List UInt8} (h : l ∈ aheads6) : l ∈ marks ∧ (l == wEnabled || l == wUnchanged) = false := by
  simp only [aheads6, List.mem_cons, List.not_mem_nil, or_false] at h
  rcases h with rfl | rfl | rfl <;> decide
theorem three_any {K : Nat → Tk} {i : Nat} (h : (K i).tx ∈ aheads6) : (threeB.any fun m => isS K (.ok i) m.data.toList) = true := by
  show (threeB.any fun m => (K i).tx == m.data.toList) = true
  simp only [aheads6, List.mem_cons, List.not_mem_nil, or_false] at h
  rcases h with e | e | e <;> rw [e] <;> rfl
theorem ahead_in {K : Nat → Tk} {self : Nat → Nat → Nat → RX PX} {n d i : Nat} {r : Except (Nat × Nat) (PX × Nat)} (e : ((K i).tx == wEnabled || (K i).tx == wUnchanged) = false) (h : aheadX K self n d i = some r) : enterX K d i (fun j => bX (self n (d + 1) j) fun x j => okX (dAhead n (K i).tx x) j) = some r := by
  unfold aheadX at h
  rw [e, if_neg (by simp)] at h
  exact h

set_option maxRecDepth 100000 in
set_option maxHeartbeats 600000 in
theorem gP_ahead6 {K : Nat → Tk} {N br bl : Nat} {self : Nat → Nat → Nat → RX PX} (hS : SelfR K N br bl self) (hK : ∀ i, TkOK (K i)) (hL : Last K N) (hN : N ≤ 1000000) (w : World) (d i : Nat) (hd : d ≤ 24) (h : RSd K N w br bl (.ok i) d)
    (hk : (K i).tx ∈ aheads6) (r : Except (Nat × Nat) (PX × Nat)) (hr : aheadX K self 6 d i = some r) :
    Calls Tryz.prog 58 #[.pointer (some ⟨br, 0, none⟩), .int .i64 6] w (PostT K N w br bl d r) := by
  have HS : Hid (SelfR K N br bl self) := hS
  have HK : Hid (∀ i, TkOK (K i)) := hK
  have HR : Hid (RSd K N w br bl (.ok i) d) := h
  have hiN : i < N := hL.lt h.le (m := (K i).tx) (by simp) (aheads6_mark hk).1
  obtain ⟨r1, h1, hc⟩ := runS_bX noX (in_run (ahead_in (aheads6_mark hk).2 hr))
  have HQ : Hid (stX r = stX r1 ∧ ∀ y j, r = .ok (y, j) → y = dAhead 6 (K i).tx (valX noX r1)) := ok_run hc
  have H1 : Hid (runS (inS K i d) (self 6 (d + 1)) = some r1) := h1
  have HAM : Hid ((threeB.any fun m => isS K (.ok i) m.data.toList) = true) := three_any hk
  obtain ⟨cap, bad, dd, hb, hI, hne, hbl, t0, t1, t2⟩ := h.open
  obtain ⟨hdr, u0, u1, u2⟩ := RS.cells hb hbl t0 t1 t2
  have c0 := block_cell hb 0
  have c1 := block_cell hb 1
  have c3 := block_cell hb 3
  have k0 := block_cell hdr 0
  have k1 := block_cell hdr 1
  have hbr := block_lt hb
  have hI1 : (i : Int) < ((N + 1 : Nat) : Int) := by omega
  have mo := follows
  obtain ⟨sb, hsb⟩ : ∃ sb, sortB (K i).cl = sb := ⟨_, rfl⟩
  obtain ⟨tx, htx⟩ : ∃ tx, tokB (K i) = tx := ⟨_, rfl⟩
  obtain ⟨aa, haa⟩ : ∃ aa, (K i).at' = aa := ⟨_, rfl⟩
  have HTX : Hid (tx.data.toList = (K i).tx) := by show _ = _; rw [← htx]; exact tok_mark hK (aheads6_mark hk).1 rfl
  have HKK : Hid ((K i).tx ∈ aheads6) := hk
  rw [hsb] at t0 u0
  rw [htx] at t1 u1
  rw [haa] at t2 u2
  clear hb hdr h hS hK hL hsb htx haa hr hk h1 hc
  go_enter Tryz.func58, Tryz.ntmps58
  go_wp2_with fail
  go_big_region_o
  have T1 : Hid (TBlk _ w.heap.size sb tx (aa : Int)) := TBlk.new w sb tx (aa : Int)
  have G1 : Hid (Grew w (w.alloc (.cells #[.int .u8 (sb : Int), .string tx, .int .i64 (aa : Int)] 106)).drew) := ((Grew.refl w).alloc _).drew
  clear c0 c1 c3 k0 k1 u0 u1 u2 t0 t1 t2 hI1
  generalize (w.alloc (.cells #[.int .u8 (sb : Int), .string tx, .int .i64 (aa : Int)] 106)).drew = W1 at G1 T1 ⊢
  obtain ⟨bt, hbt⟩ : ∃ bt, w.heap.size = bt := ⟨_, rfl⟩
  rw [hbt] at T1 hbr ⊢
  have htw : bt ≤ w.heap.size := by omega
  clear hbt
  have hbtr : bt ≠ br := by omega
  have R1 : Hid (RSd K N W1 br bl (.ok i) d) := HR.out.grew G1.out
  go_wp2_with fail
  refine (among_d HK.out W1 br bl (.ok i) d _ threeB 3 true rfl (by decide) rfl (by decide) HAM.out R1.out).mono ?_
  rintro e W2 ⟨rfl, g2⟩
  have R2 : Hid (RSd K N W2 br bl (.ok i) d) := R1.out.grew g2
  have G2 : Hid (Grew w W2) := G1.out.trans g2
  have T2 : Hid (TBlk W2 bt sb tx (aa : Int)) := T1.out.grew g2
  clear g2 R1 G1 T1
  go_wp2_with fail
  refine (gin_d hN W2 br bl i d hd hiN R2.out).mono ?_
  rintro e W3 ⟨rfl, hr3, hf3⟩
  have R3 : Hid (RSd K N W3 br bl (inS K i d) (d + 1)) := hr3
  have F3 : Hid (Fr (· ≠ br) w W3) := (Fr.grew G2.out).trans hf3
  have T3 : Hid (TBlk W3 bt sb tx (aa : Int)) := T2.out.fr hf3 hbtr
  clear hr3 hf3 R2 G2 T2
  go_wp2_with fail
  refine (HS.out W3 6 (d + 1) (inS K i d) r1 (by omega) (in_ok hd) R3.out H1.out).mono ?_
  rintro e W4 ⟨hf4, hr4, b4, rfl, ht4⟩
  have R4 : Hid (RSd K N W4 br bl (stX r1) (d + 1)) := hr4
  have F4 : Hid (Fr (· ≠ br) w W4) := F3.out.trans hf4
  have T4 : Hid (TBlk W4 bt sb tx (aa : Int)) := T3.out.fr hf4 hbtr
  have hz3 := F3.out.size
  have hb3 : br < W3.heap.size := by omega
  have P4 : Hid (∀ x j, r1 = .ok (x, j) → TreeT (fun k => W3.heap.size ≤ k) W4 x (.pointer (some ⟨b4, 0, none⟩))) := ht4
  clear hf4 hr4 ht4 R3 F3 T3
  go_wp2_with fail
  refine (gout_d W4 br bl _ d hd R4.out).mono ?_
  rintro e W5 ⟨rfl, hr5, hf5⟩
  have R5 : Hid (RSd K N W5 br bl (stX r1) d) := hr5
  have F5 : Hid (Fr (· ≠ br) w W5) := F4.out.trans hf5
  have T5 : Hid (TBlk W5 bt sb tx (aa : Int)) := T4.out.fr hf5 hbtr
  have P5 : Hid (∀ x j, r1 = .ok (x, j) → TreeT (fun k => w.heap.size ≤ k) W5 x (.pointer (some ⟨b4, 0, none⟩))) := fun x j e => (P4.out x j e).fr (hf5.mono fun k q => by omega) fun _ _ q => by omega
  have hz5 := F5.out.size
  clear hr5 hf5 R4 F4 T4 P4
  have q1 := block_cell T5.out 1
  have q2 := block_cell T5.out 2
  have hbt5 := block_lt T5.out
  go_wp2_with fail
  go_ret
  have hG : Grew W5 ((W5.alloc (.cells #[.pointer (some ⟨b4, 0, none⟩)] 57)).alloc (.cells #[.string tx, .int .i64 (aa : Int), .string ⟨#[]⟩, .int .i64 0, .int .i64 0, .string ⟨#[]⟩, .slice none 0 0, .slice none 0 0, .slice (some ⟨W5.heap.size, 0, none⟩) 1 1, .int .i64 0, .int .i64 0] 165)) := ((Grew.refl _).alloc _).alloc _
  refine ⟨F5.out.trans (Fr.grew hG), by rw [HQ.out.1]; exact R5.out.grew hG, W5.heap.size + 1, rfl, fun x j e => ?_⟩
  have o : OkS (stX r1) := by rw [← HQ.out.1]; exact ok_of e
  obtain ⟨j1, e1⟩ := ok_val noX o
  rw [HQ.out.2 x j e]
  refine newT (kids := [valX noX r1]) rfl (by decide) (fun k y q => ?_) hz5 (.inr (.inr (.inr (.inr (.inr (.inr (.inr (.inr (.inr (.inr (.inr (.inr (.inr (.inr (.inr (.inl ⟨by rw [HTX.out]; exact HKK.out, _, rfl, by rw [HTX.out]⟩))))))))))))))))
  match k, q with
  | 0, q => simp at q; subst q; exact ⟨_, rfl, P5.out _ _ e1⟩
  | k + 1, q => simp at q
end Go.Proofs.YtjbekejcghjhbaaGreatDoor.Sx
