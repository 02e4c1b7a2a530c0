/- The laws' first words. -/
import Derived.Test.YtbogejmmkohbkaaGreatDoorGV1
import Derived.Test.YtbogejmmkohbkaaGreatDoorGB1
import Derived.Test.YtbogejmmkohbkaaGreatDoorGQ1
namespace Go.Proofs.YtbogejmmkohbkaaGreatDoor.Sx
open Go.RowKit Go.Sort

/-- what the laws start from -/
structure Base (w : World) : Prop where
  env : EnvW w
  tab : Lib.TabIs Tryz.prog w "internal/strconv.uint64pow10" .u64 Lib.pow10Tab
theorem Base.below {w w' : World} (h : Base w) (hb : Below w.heap.size w w') : Base w' := ⟨h.env.below hb, tab_below hb (by have := h.env.1; omega) h.tab⟩

/-- a value that has been read -/
structure Had (w : World) (x : AV 25) (v : Value) : Prop where
  rep : RepP (fun _ => True) w 25 x v
  fine : Fine 25 x
  wt : wt 25 x ≤ 1024
theorem Had.below {w w' : World} {x : AV 25} {v : Value} (h : Had w x v) (hb : Below w.heap.size w w') : Had w' x v := ⟨h.rep.keep (Fr.below hb), h.fine, h.wt⟩

/-- a call that leaves what there was as it was -/
def Gives (f : FuncId) (args : Array Value) (w : World) (r : Value) : Prop := Calls Tryz.prog f args w fun e w' => e = .returned r ∧ Below w.heap.size w w'

def ReadSaid (w : World) (R : Except (Nat × Nat) (AV 25)) (e : Ending) (w' : World) : Prop :=
  Below w.heap.size w w' ∧ ∃ (v er : Value) (p : Nat), e = .returned (.tuple #[.agg #[v], .int .i64 (p : Int), er]) ∧ ∃ x, Had w' x v ∧
    ((R = .ok x ∧ p = 0 ∧ er = .nilIface) ∨ ∃ c, R = .error (c, p) ∧ er = .iface 61 (.int .i64 (c : Int)))
theorem read_had (t : ByteArray) (w : World) (hE : EnvW w) (ht : t.size ≤ 9223372036854775806) : Calls Tryz.prog 9 #[.string t] w (ReadSaid w (readP t.data.toList)) := by
  refine (read_any t w hE ht).mono ?_
  rintro e w' ⟨hb, v, er, p, rfl, x, hx, hw, hr⟩
  have hx' : RepP (fun _ => True) w' 25 x v := hx.fr (Fr.refl _ w') (fun _ _ _ => trivial) 25 x v
  refine ⟨hb, v, er, p, rfl, x, ?_, ?_⟩
  · rcases hr with ⟨h1, _⟩ | ⟨c, h1, h2, _⟩
    · exact ⟨hx', readP_fine h1, hw⟩
    · exact ⟨hx', by rw [h2]; exact fine_nil 24, hw⟩
  · rcases hr with h1 | ⟨c, h1, _, h3⟩
    · exact .inl h1
    · exact .inr ⟨c, h1, h3⟩
theorem show_had {w : World} {x : AV 25} {v : Value} (h : Had w x v) (hB : Base w) : Gives 12 #[.agg #[v]] w (.string ⟨(sh 25 x).toArray⟩) :=
  show_any w 25 x v h.rep h.fine.1 hB.tab (by have := hB.env.1; omega) (by have := h.fine.2; have := h.wt; omega)
theorem weight_had {w : World} {x : AV 25} {v : Value} (h : Had w x v) : Gives 14 #[.agg #[v]] w (.int .i64 (wt 25 x)) := by
  refine (Weight_any 25 x v w (h.rep.rep _ _ _)).mono ?_
  rintro e w' ⟨rfl, hg⟩
  exact ⟨rfl, hg.below⟩
theorem compare_had {w : World} {x y : AV 25} {v u : Value} (h : Had w x v) (k : Had w y u) : Gives 17 #[.agg #[v], .agg #[u]] w (.int .i64 (cmpV 25 x y)) := by
  refine (compare_any 25 w x y v u (h.rep.rep _ _ _) (k.rep.rep _ _ _)).mono ?_
  rintro e w' ⟨rfl, hg⟩
  exact ⟨rfl, hg.below⟩

def twoOne : AV 25 := (mkSet [intAV 23 1, intAV 23 2] : Node (AV 24))
theorem read_two : readP [123, 50, 44, 32, 49, 125] = .ok twoOne := by kernel_rfl
theorem read_nil : readP [110, 105, 108] = .ok (mkNil : Node (AV 24)) := by kernel_rfl
theorem two_wt : wt 25 twoOne = 3 := by kernel_rfl
theorem two_cmp : cmpV 25 twoOne (mkNil : Node (AV 24)) = 1 := by kernel_rfl
theorem two_sh : sh 25 twoOne = [123, 49, 44, 32, 50, 125] := by
  have e1 : Lib.itoa 1 = [49] := by simp [Lib.itoa, Lib.decDigits]
  have e2 : Lib.itoa 2 = [50] := by simp [Lib.itoa, Lib.decDigits]
  show 123 :: jL [125] [Lib.itoa 1, Lib.itoa 2] = _
  rw [e1, e2]; rfl
end Go.Proofs.YtbogejmmkohbkaaGreatDoor.Sx

namespace Go.Proofs.YtbogejmmkohbkaaGreatDoor.Sx
open Go.RowKit Go.Sort

set_option maxRecDepth 100000 in
set_option maxHeartbeats 4000000 in
theorem lives_any (w : World) (hB : Base w) : Gives 19 #[] w (.bool true) := by
  have HB : Hid (Base w) := hB
  have H1 : Hid (Calls Tryz.prog 9 #[.string ⟨#[123, 50, 44, 32, 49, 125]⟩] w (ReadSaid w (readP [123, 50, 44, 32, 49, 125]))) := read_had ⟨#[123, 50, 44, 32, 49, 125]⟩ w hB.env (by decide)
  clear hB
  unfold Gives
  go_enter Tryz.func19, Tryz.ntmps19
  go_wp2_with fail
  refine H1.out.mono ?_
  rintro e w1 ⟨hb1, v, er, p, rfl, x, hx, hr⟩
  rw [read_two] at hr
  obtain ⟨rfl, rfl, rfl⟩ : x = twoOne ∧ p = 0 ∧ er = .nilIface := by
    rcases hr with ⟨h1, h2, h3⟩ | ⟨c, h1, _⟩
    · injection h1 with h1; exact ⟨h1.symm, h2, h3⟩
    · cases h1
  have HB1 : Hid (Base w1) := HB.out.below hb1
  have HL1 : Hid (Below w.heap.size w w1) := hb1
  have HX : Hid (Had w1 twoOne v) := hx
  have st := store_one (hx.rep.rep _ _ _).one
  clear hb1 hr hx H1
  go_wp2_with fail
  have G : Below w1.heap.size w1 (w1.alloc (.cells #[v] 23)) := ((Grew.refl w1).alloc _).below
  have XA : Hid ((w1.alloc (.cells #[v] 23)).heap[w1.heap.size]? = some (.cells #[v] 23 (0, 0))) := heap_new rfl
  have BA : Hid (Base (w1.alloc (.cells #[v] 23))) := HB1.out.below G
  have LA : Hid (Below w.heap.size w (w1.alloc (.cells #[v] 23))) := HL1.out.trans (G.mono HL1.out.size)
  have VA : Hid (Had (w1.alloc (.cells #[v] 23)) twoOne v) := HX.out.below G
  clear G
  generalize w1.alloc (.cells #[v] 23) = wA at XA BA LA VA ⊢
  refine Calls.mono (show_had VA.out BA.out) ?_
  rintro e w2 ⟨rfl, hb⟩
  rw [two_sh]
  have X2 : Hid (w2.heap[w1.heap.size]? = some (.cells #[v] 23 (0, 0))) := Below.blockAt hb XA.out
  have B2 : Hid (Base w2) := BA.out.below hb
  have L2 : Hid (Below w.heap.size w w2) := LA.out.trans (hb.mono LA.out.size)
  have V2 : Hid (Had w2 twoOne v) := VA.out.below hb
  clear hb XA BA LA VA HB1 HL1 HX
  have y0 := block_cell X2.out 0
  go_wp2_with fail
  refine Calls.mono (weight_had V2.out) ?_
  rintro e w3 ⟨rfl, hb⟩
  rw [two_wt]
  have X3 : Hid (w3.heap[w1.heap.size]? = some (.cells #[v] 23 (0, 0))) := Below.blockAt hb X2.out
  have B3 : Hid (Base w3) := B2.out.below hb
  have L3 : Hid (Below w.heap.size w w3) := L2.out.trans (hb.mono L2.out.size)
  have V3 : Hid (Had w3 twoOne v) := V2.out.below hb
  have H3 : Hid (Calls Tryz.prog 9 #[.string ⟨#[110, 105, 108]⟩] w3 (ReadSaid w3 (readP [110, 105, 108]))) := read_had ⟨#[110, 105, 108]⟩ w3 B3.out.env (by decide)
  clear hb X2 B2 L2 V2 y0
  go_wp2_with fail
  refine H3.out.mono ?_
  rintro e w4 ⟨hb, u, er, p, rfl, x, hx, hr⟩
  rw [read_nil] at hr
  obtain ⟨rfl, rfl, rfl⟩ : x = (mkNil : Node (AV 24)) ∧ p = 0 ∧ er = .nilIface := by
    rcases hr with ⟨h1, h2, h3⟩ | ⟨c, h1, _⟩
    · injection h1 with h1; exact ⟨h1.symm, h2, h3⟩
    · cases h1
  have X4 : Hid (w4.heap[w1.heap.size]? = some (.cells #[v] 23 (0, 0))) := Below.blockAt hb X3.out
  have L4 : Hid (Below w.heap.size w w4) := L3.out.trans (hb.mono L3.out.size)
  have V4 : Hid (Had w4 twoOne v) := V3.out.below hb
  have U4 : Hid (Had w4 (mkNil : Node (AV 24)) u) := hx
  have su := store_one (hx.rep.rep _ _ _).one
  have y0 := block_cell X4.out 0
  have hlt : w1.heap.size < w4.heap.size := block_lt X4.out
  clear hb hr hx H3 X3 B3 L3 V3
  go_wp2_with fail
  have G : Below w4.heap.size w4 (w4.alloc (.cells #[u] 23)) := ((Grew.refl w4).alloc _).below
  have LB : Hid (Below w.heap.size w (w4.alloc (.cells #[u] 23))) := L4.out.trans (G.mono L4.out.size)
  have VB : Hid (Had (w4.alloc (.cells #[u] 23)) twoOne v) := V4.out.below G
  have UB : Hid (Had (w4.alloc (.cells #[u] 23)) (mkNil : Node (AV 24)) u) := U4.out.below G
  clear G
  generalize w4.alloc (.cells #[u] 23) = wB at LB VB UB ⊢
  refine Calls.mono (compare_had VB.out UB.out) ?_
  rintro e w5 ⟨rfl, hb⟩
  rw [two_cmp]
  have HZ : Hid (Below w.heap.size w w5) := LB.out.trans (hb.mono LB.out.size)
  clear hb X4 L4 V4 U4 y0 LB VB UB
  go_wp2_with fail
  go_ret
  exact ⟨rfl, HZ.out⟩

/-- what is kept of a value that was read and lies in a box -/
structure Kept (w0 w : World) (k : Nat) (x : AV 25) (v : Value) : Prop where
  box : w.heap[k]? = some (.cells #[v] 23 (0, 0))
  had : Had w x v
theorem Kept.below {w0 w w' : World} {k : Nat} {x : AV 25} {v : Value} (h : Kept w0 w k x v) (hb : Below w.heap.size w w') : Kept w0 w' k x v := ⟨Below.blockAt hb h.box, h.had.below hb⟩

/-- where a law stands -/
structure Now (w0 w : World) : Prop where
  base : Base w
  low : Below w0.heap.size w0 w
theorem Now.below {w0 w w' : World} (h : Now w0 w) (hb : Below w.heap.size w w') : Now w0 w' := ⟨h.base.below hb, h.low.trans (hb.mono h.low.size)⟩

set_option maxRecDepth 100000 in
set_option maxHeartbeats 8000000 in
theorem sorts_any (a b c : ByteArray) (w : World) (hB : Base w) (ha : a.size ≤ 9223372036854775806) (hb : b.size ≤ 9223372036854775806) (hc : c.size ≤ 9223372036854775806) : Gives 5 #[.string a, .string b, .string c] w (.bool true) := by
  have N0 : Hid (Now w w) := ⟨hB, Below.refl _ _⟩
  have HL : Hid (Gives 19 #[] w (.bool true)) := lives_any w hB
  have HR : Hid (∀ (W : World), Base W → Calls Tryz.prog 9 #[.string a] W (ReadSaid W (readP a.data.toList)) ∧ Calls Tryz.prog 9 #[.string b] W (ReadSaid W (readP b.data.toList)) ∧ Calls Tryz.prog 9 #[.string c] W (ReadSaid W (readP c.data.toList))) :=
    fun W h => ⟨read_had a W h.env ha, read_had b W h.env hb, read_had c W h.env hc⟩
  clear hB ha hb hc
  unfold Gives
  go_enter Tryz.func5, Tryz.ntmps5
  go_wp2_with fail
  refine Calls.mono HL.out ?_
  rintro e w1 ⟨rfl, hb⟩
  have N1 : Hid (Now w w1) := N0.out.below hb
  clear N0 HL hb
  go_wp2_with fail
  refine (HR.out w1 N1.out.base).1.mono ?_
  rintro e w2 ⟨hb, v, er, p, rfl, x, hx, _⟩
  have N2 : Hid (Now w w2) := N1.out.below hb
  have st1 := store_one (hx.rep.rep _ _ _).one
  have HX : Hid (Had w2 x v) := hx
  clear hx hb N1
  go_wp2_with fail
  have G : Below w2.heap.size w2 (w2.alloc (.cells #[v] 23)) := ((Grew.refl w2).alloc _).below
  have NA : Hid (Now w (w2.alloc (.cells #[v] 23))) := N2.out.below G
  have KA : Hid (Kept w (w2.alloc (.cells #[v] 23)) w2.heap.size x v) := ⟨heap_new rfl, HX.out.below G⟩
  clear G HX N2
  generalize w2.alloc (.cells #[v] 23) = wA at NA KA ⊢
  refine (HR.out wA NA.out.base).2.1.mono ?_
  rintro e w3 ⟨hb, u, er2, p2, rfl, y, hx, _⟩
  have N3 : Hid (Now w w3) := NA.out.below hb
  have st2 := store_one (hx.rep.rep _ _ _).one
  have HY : Hid (Had w3 y u) := hx
  have K3 : Hid (Kept w w3 w2.heap.size x v) := KA.out.below hb
  clear hx hb NA KA
  go_wp2_with fail
  have G : Below w3.heap.size w3 (w3.alloc (.cells #[u] 23)) := ((Grew.refl w3).alloc _).below
  have NB : Hid (Now w (w3.alloc (.cells #[u] 23))) := N3.out.below G
  have KB : Hid (Kept w (w3.alloc (.cells #[u] 23)) w2.heap.size x v) := K3.out.below G
  have JB : Hid (Kept w (w3.alloc (.cells #[u] 23)) w3.heap.size y u) := ⟨heap_new rfl, HY.out.below G⟩
  clear G HY N3 K3
  generalize w3.alloc (.cells #[u] 23) = wB at NB KB JB ⊢
  refine (HR.out wB NB.out.base).2.2.mono ?_
  rintro e w4 ⟨hb, t, er3, p3, rfl, z, hx, _⟩
  have N4 : Hid (Now w w4) := NB.out.below hb
  have st3 := store_one (hx.rep.rep _ _ _).one
  have HZ : Hid (Had w4 z t) := hx
  have K4 : Hid (Kept w w4 w2.heap.size x v) := KB.out.below hb
  have J4 : Hid (Kept w w4 w3.heap.size y u) := JB.out.below hb
  have y0 := block_cell K4.out.box 0
  have y1 := block_cell J4.out.box 0
  have l0 : w2.heap.size < w4.heap.size := block_lt K4.out.box
  have l1 : w3.heap.size < w4.heap.size := block_lt J4.out.box
  clear hx hb NB KB JB HR
  go_wp2_with fail
  clear y0 y1
  have G : Below w4.heap.size w4 (w4.alloc (.cells #[t] 23)) := ((Grew.refl w4).alloc _).below
  have N5 : Hid (Now w (w4.alloc (.cells #[t] 23))) := N4.out.below G
  have K5 : Hid (Kept w (w4.alloc (.cells #[t] 23)) w2.heap.size x v) := K4.out.below G
  have J5 : Hid (Kept w (w4.alloc (.cells #[t] 23)) w3.heap.size y u) := J4.out.below G
  have I5 : Hid (Kept w (w4.alloc (.cells #[t] 23)) w4.heap.size z t) := ⟨heap_new rfl, HZ.out.below G⟩
  clear G HZ N4 K4 J4
  generalize w4.alloc (.cells #[t] 23) = w5 at N5 K5 J5 I5 ⊢
  have HP := (ord 25).rng x y
  have HQ := (ord 25).rng y z
  have HR := (ord 25).rng x z
  have T1 := (ord 25).trans x y z
  have T2 := (ord 25).trans z y x
  have AO := (ord 25).anti x y
  rw [(ord 25).anti y z, (ord 25).anti x y, (ord 25).anti x z] at T2
  have HS : Hid (cmpV 25 x y = 0 ↔ sh 25 x = sh 25 y) := sh_iff K5.out.had.fine.1 J5.out.had.fine.1
  refine Calls.mono (compare_had K5.out.had J5.out.had) ?_
  rintro e w6 ⟨rfl, hb⟩
  have N6 : Hid (Now w w6) := N5.out.below hb
  have K6 : Hid (Kept w w6 w2.heap.size x v) := K5.out.below hb
  have J6 : Hid (Kept w w6 w3.heap.size y u) := J5.out.below hb
  have I6 : Hid (Kept w w6 w4.heap.size z t) := I5.out.below hb
  have y0 := block_cell K6.out.box 0
  have y1 := block_cell J6.out.box 0
  have y2 := block_cell I6.out.box 0
  clear hb N5 K5 J5 I5
  generalize cmpV 25 x y = P at HP T1 T2 AO HS ⊢
  go_wp2_with fail
  clear y0 y1 y2
  refine Calls.mono (compare_had J6.out.had I6.out.had) ?_
  rintro e w7 ⟨rfl, hb⟩
  have N7 : Hid (Now w w7) := N6.out.below hb
  have K7 : Hid (Kept w w7 w2.heap.size x v) := K6.out.below hb
  have J7 : Hid (Kept w w7 w3.heap.size y u) := J6.out.below hb
  have I7 : Hid (Kept w w7 w4.heap.size z t) := I6.out.below hb
  have y0 := block_cell K7.out.box 0
  have y1 := block_cell J7.out.box 0
  have y2 := block_cell I7.out.box 0
  clear hb N6 K6 J6 I6
  generalize cmpV 25 y z = Q at HQ T1 T2 ⊢
  go_wp2_with fail
  clear y0 y1 y2
  refine Calls.mono (compare_had K7.out.had I7.out.had) ?_
  rintro e w8 ⟨rfl, hb⟩
  have N8 : Hid (Now w w8) := N7.out.below hb
  have K8 : Hid (Kept w w8 w2.heap.size x v) := K7.out.below hb
  have J8 : Hid (Kept w w8 w3.heap.size y u) := J7.out.below hb
  have I8 : Hid (Kept w w8 w4.heap.size z t) := I7.out.below hb
  have y0 := block_cell K8.out.box 0
  have y1 := block_cell J8.out.box 0
  have y2 := block_cell I8.out.box 0
  clear hb N7 K7 J7 I7
  generalize cmpV 25 x z = R at HR T1 T2 ⊢
  go_wp2_with fail
  clear y0 y1 y2
  refine Calls.mono (compare_had J8.out.had K8.out.had) ?_
  rintro e w9 ⟨rfl, hb⟩
  have N9 : Hid (Now w w9) := N8.out.below hb
  have K9 : Hid (Kept w w9 w2.heap.size x v) := K8.out.below hb
  have J9 : Hid (Kept w w9 w3.heap.size y u) := J8.out.below hb
  have I9 : Hid (Kept w w9 w4.heap.size z t) := I8.out.below hb
  have y0 := block_cell K9.out.box 0
  have y1 := block_cell J9.out.box 0
  have y2 := block_cell I9.out.box 0
  clear hb N8 K8 J8 I8
  rw [AO]
  clear AO
  have HX : Hid (∀ W, Kept w W w2.heap.size x v → Now w W → Gives 12 #[.agg #[v]] W (.string ⟨(sh 25 x).toArray⟩)) := fun W h n => show_had h.had n.base
  have HY : Hid (∀ W, Kept w W w3.heap.size y u → Now w W → Gives 12 #[.agg #[u]] W (.string ⟨(sh 25 y).toArray⟩)) := fun W h n => show_had h.had n.base
  generalize sh 25 x = sx at HX HS
  generalize sh 25 y = sy at HY HS
  have ok : (P, Q, R) ∈ [((-1 : Int), (-1 : Int), (-1 : Int)), (-1, 0, -1), (-1, 1, -1), (-1, 1, 0), (-1, 1, 1), (0, -1, -1), (0, 0, 0), (0, 1, 1), (1, -1, -1), (1, -1, 0), (1, -1, 1), (1, 0, 1), (1, 1, 1), (-1, -1, 0), (-1, 0, 0), (0, -1, 0), (0, 1, 0), (1, 0, 0), (1, 1, 0)] := by
    rcases HP with rfl | rfl | rfl <;> rcases HQ with rfl | rfl | rfl <;> rcases HR with rfl | rfl | rfl <;> first | (exfalso; omega) | decide
  clear HP HQ HR T1 T2
  simp only [List.mem_cons, Prod.mk.injEq, List.not_mem_nil, or_false] at ok
  rcases ok with ⟨rfl, rfl, rfl⟩ | ⟨rfl, rfl, rfl⟩ | ⟨rfl, rfl, rfl⟩ | ⟨rfl, rfl, rfl⟩ | ⟨rfl, rfl, rfl⟩ | ⟨rfl, rfl, rfl⟩ | ⟨rfl, rfl, rfl⟩ | ⟨rfl, rfl, rfl⟩ | ⟨rfl, rfl, rfl⟩ | ⟨rfl, rfl, rfl⟩ | ⟨rfl, rfl, rfl⟩ | ⟨rfl, rfl, rfl⟩ | ⟨rfl, rfl, rfl⟩ | ⟨rfl, rfl, rfl⟩ | ⟨rfl, rfl, rfl⟩ | ⟨rfl, rfl, rfl⟩ | ⟨rfl, rfl, rfl⟩ | ⟨rfl, rfl, rfl⟩ | ⟨rfl, rfl, rfl⟩
  all_goals go_wp2_with fail
  all_goals refine Calls.mono (HX.out w9 K9.out N9.out) ?_
  all_goals rintro e wa ⟨rfl, hb⟩
  all_goals have NA : Hid (Now w wa) := N9.out.below hb
  all_goals have JA : Hid (Kept w wa w3.heap.size y u) := J9.out.below hb
  all_goals clear hb N9 K9 J9 I9 y0 y1 y2
  all_goals have y1 := block_cell JA.out.box 0
  all_goals go_wp2_with fail
  all_goals refine Calls.mono (HY.out wa JA.out NA.out) ?_
  all_goals rintro e wb ⟨rfl, hb⟩
  all_goals have NB : Hid (Below w.heap.size w wb) := (NA.out.below hb).low
  all_goals clear hb NA JA y1
  all_goals go_wp2_with fail
  all_goals go_ret
  all_goals refine ⟨?_, NB.out⟩
  all_goals have hs := HS.out
  all_goals simp at hs
  all_goals simp [hs]
end Go.Proofs.YtbogejmmkohbkaaGreatDoor.Sx
