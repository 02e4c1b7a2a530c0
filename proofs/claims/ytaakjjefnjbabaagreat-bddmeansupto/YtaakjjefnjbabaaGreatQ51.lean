/- The law: a step. -/
import Derived.Test.YtaakjjefnjbabaaGreatQ43
import Derived.Test.YtaakjjefnjbabaaGreatQ44
import Derived.Test.YtaakjjefnjbabaaGreatQ45
import Derived.Test.YtaakjjefnjbabaaGreatQ47
import Derived.Test.YtaakjjefnjbabaaGreatQ48
import Derived.Test.YtaakjjefnjbabaaGreatQ49
import Derived.Test.YtaakjjefnjbabaaGreatQ50
import Derived.Test.YtaakjjefnjbabaaGreatRows
import Derived.ProofKit
import Derived.OpenShut
import Derived.ChangeOld
import Derived.Below
import Derived.JoinedCond
import Derived.Deep.SlicePairs
import Derived.Deep.Grids
set_option maxRecDepth 100000
namespace Go.Proofs.YtaakjjefnjbabaaGreat.Sx
open Go.RowKit Go.Sort Go.Maps Go.WideMaps
section
variable {w0 W : World} {wb tb n k : Nat} {L : Ly} {lv : Nat → Nat} {T : Tb} {nodes : List Nat} {fs given : List (List Bool)} {ord : List Nat} {nv fv ov gv vo : Value} {o : OpR}
def StepPost (w0 W : World) (wb tb n : Nat) (lv : Nat → Nat) (L : Ly) (T : Tb) (nodes : List Nat) (fs given : List (List Bool)) (ord : List Nat) (nv fv ov gv : Value) (e : Ending) (w' : World) : Prop := MadePost2 w0 W L wb tb n lv T nodes fs given ord nv fv ov gv e w' ∨ ∃ v f, e = .returned (.tuple #[v, f, .bool false]) ∧ LM w0.heap.size wb tb w' L n T nodes fs given ord nv fv ov gv ∧ Fr (fun _ => True) w0 w'
theorem made_any (h : LM w0.heap.size wb tb W L n T nodes fs given ord nv fv ov gv) (hp : LP k n lv T nodes fs given) (hv : OpV w0 vo o) (hok : OpOK o) (hF : Fr (fun _ => True) w0 W) :
 Calls Tryz.prog 10 #[.pointer (some ⟨wb, 0, none⟩), vo] W (StepPost w0 W wb tb n lv L T nodes fs given ord nv fv ov gv) := by
 by_cases h0 : o.kind < 1 ∨ 9 < o.kind
 · exact (made_none w0 W wb tb n k L lv T nodes fs given ord nv fv ov gv vo o h hp hv hok hF h0).mono fun e w' q => .inr q
 · have hk : o.kind = 1 ∨ o.kind = 2 ∨ o.kind = 3 ∨ o.kind = 4 ∨ o.kind = 5 ∨ o.kind = 6 ∨ o.kind = 7 ∨ o.kind = 8 ∨ o.kind = 9 := by omega
   rcases hk with hk | hk | hk | hk | hk | hk | hk | hk | hk
   · exact (made2_var w0 W wb tb n k L lv T nodes fs given ord nv fv ov gv vo o h hp hv hok hF hk).mono fun e w' q => .inl q
   · exact (made2_ite w0 W wb tb n k L lv T nodes fs given ord nv fv ov gv vo o h hp hv hok hF hk).mono fun e w' q => .inl q
   · exact (made2_not w0 W wb tb n k L lv T nodes fs given ord nv fv ov gv vo o h hp hv hok hF hk).mono fun e w' q => .inl q
   · exact (made2_and w0 W wb tb n k L lv T nodes fs given ord nv fv ov gv vo o h hp hv hok hF hk).mono fun e w' q => .inl q
   · exact (made2_or w0 W wb tb n k L lv T nodes fs given ord nv fv ov gv vo o h hp hv hok hF hk).mono fun e w' q => .inl q
   · exact (made2_xor w0 W wb tb n k L lv T nodes fs given ord nv fv ov gv vo o h hp hv hok hF hk).mono fun e w' q => .inl q
   · exact (made2_exi w0 W wb tb n k L lv T nodes fs given ord nv fv ov gv vo o h hp hv hok hF hk).mono fun e w' q => .inl q
   · exact (made2_all w0 W wb tb n k L lv T nodes fs given ord nv fv ov gv vo o h hp hv hok hF hk).mono fun e w' q => .inl q
   · exact (made2_let w0 W wb tb n k L lv T nodes fs given ord nv fv ov gv vo o h hp hv hok hF hk).mono fun e w' q => .inl q
theorem turned_any (h : LM w0.heap.size wb tb W L n T nodes fs given T.ord nv fv ov gv) (hp : LP k n lv T nodes fs given) (hk2 : 2 ≤ k) (hv : OpV w0 vo o) (hok : OpOK o) (hF : Fr (fun _ => True) w0 W) (hk : 9 < o.kind) :
 Calls Tryz.prog 9 #[.pointer (some ⟨wb, 0, none⟩), vo] W (TurnPost w0 wb tb n k) := by
 by_cases h0 : 12 < o.kind
 · exact turned_none w0 W wb tb n k L lv T nodes fs given nv fv ov gv vo o h hp hk2 hv hok hF h0
 · have hk : o.kind = 10 ∨ o.kind = 11 ∨ o.kind = 12 := by omega
   rcases hk with hk | hk | hk
   · by_cases hc : 0 ≤ o.a ∧ o.a + 1 < (n : Int)
     · exact turned_swap1 w0 W wb tb n k L lv T nodes fs given nv fv ov gv vo o h hp hk2 hv hok hF o.a.toNat hk (by omega) (by omega)
     · exact turned_swap0 w0 W wb tb n k L lv T nodes fs given nv fv ov gv vo o h hp hk2 hv hok hF hk hc
   · exact turned_sift w0 W wb tb n k L lv T nodes fs given nv fv ov gv vo o h hp hk2 hv hok hF hk
   · exact turned_keep w0 W wb tb n k L lv T nodes fs given nv fv ov gv vo o h hp hk2 hv hok hF hk
theorem LP.mono (h : LP k n lv T nodes fs given) (hk : k + 1 ≤ 2097152) : LP (k + 1) n lv T nodes fs given := by
 obtain ⟨gs, a, b⟩ := h.gs
 exact ⟨h.n9, hk, h.base, h.ords, h.len, h.two, h.h0, h.h1, h.nod, h.gvn, ⟨gs, by omega, b⟩, by have := h.nk; omega, by have := h.gk; omega⟩
end
structure OpC (w : World) (p : Addr) (o : OpR) (va vb : Value) : Prop where
 c0 : w.cell? p = some (.int .i64 o.kind)
 c1 : w.cell? ⟨p.block, p.off + 1, none⟩ = some (.int .i64 o.a)
 c2 : w.cell? ⟨p.block, p.off + 2, none⟩ = some (.int .i64 o.b)
 c3 : w.cell? ⟨p.block, p.off + 3, none⟩ = some (.int .i64 o.c)
 c4 : w.cell? ⟨p.block, p.off + 4, none⟩ = some va
 c5 : w.cell? ⟨p.block, p.off + 5, none⟩ = some vb
theorem OpC.fr {w w' : World} {p : Addr} {o : OpR} {va vb : Value} (h : OpC w p o va vb) (f : Fr (fun _ => True) w w') : OpC w' p o va vb := by
 have hb := f.block _ (World.block_lt_of_cell? w _ h.c0) trivial
 exact ⟨(World.cell?_of_block (w := w) hb).trans h.c0, (World.cell?_of_block (w := w) (a := ⟨p.block, p.off + 1, none⟩) hb).trans h.c1, (World.cell?_of_block (w := w) (a := ⟨p.block, p.off + 2, none⟩) hb).trans h.c2, (World.cell?_of_block (w := w) (a := ⟨p.block, p.off + 3, none⟩) hb).trans h.c3, (World.cell?_of_block (w := w) (a := ⟨p.block, p.off + 4, none⟩) hb).trans h.c4, (World.cell?_of_block (w := w) (a := ⟨p.block, p.off + 5, none⟩) hb).trans h.c5⟩
def ScrV (w : World) (v : Value) (l : List OpR) : Prop := ∃ a c, v = .slice a l.length c ∧ ∀ (i : Nat) o, l[i]? = some o → ∃ q va vb, a = some q ∧ OpC w (q.add (i * 6)) o va vb ∧ (IW w va o.vars ∧ NilOK va) ∧ BW w vb o.vals
end Go.Proofs.YtaakjjefnjbabaaGreat.Sx
namespace Go.Proofs.YtaakjjefnjbabaaGreat.Sx
open Go.RowKit Go.Sort Go.ChangeShapes Go.WideShapes Go.ChangeAt Go.Deep
theorem own : ownKnob Tryz.prog.godebug = none := by kernel_rfl
theorem cells3 : Tryz.prog.cellsOf 3 = 1 := by kernel_rfl
theorem cells4 : Tryz.prog.cellsOf 4 = 1 := by kernel_rfl
theorem cellsI : Tryz.prog.cellsOf 27 = 1 := by kernel_rfl
theorem cellsB : Tryz.prog.cellsOf 28 = 1 := by kernel_rfl
theorem cellsO : Tryz.prog.cellsOf 30 = 6 := by kernel_rfl
/-! the bound -/
theorem one_le {H : Type} (d : DataW H) : 1 ≤ Rows.uptoBulk d := by
 cases d with
 | lit l => cases l <;> simp [Rows.uptoBulk]
 | nil => simp [Rows.uptoBulk]
 | ptr d => simp [Rows.uptoBulk]
 | slice elems spare => simp [Rows.uptoBulk]
 | agg parts => simp [Rows.uptoBulk]
 | iface t d => simp [Rows.uptoBulk]
 | map entries => simp [Rows.uptoBulk]
 | held h => simp [Rows.uptoBulk]
theorem part_le {H : Type} {d : DataW H} {l : List (DataW H)} (h : d ∈ l) : Rows.uptoBulk d ≤ Rows.uptoBulkAll l := by
 induction l with
 | nil => cases h
 | cons x r ih =>
   simp only [Rows.uptoBulkAll]
   cases List.mem_cons.1 h with
   | inl e => subst e; omega
   | inr e => have := ih e; omega
theorem length_le {H : Type} (l : List (DataW H)) : l.length ≤ Rows.uptoBulkAll l := by
 induction l with
 | nil => simp [Rows.uptoBulkAll]
 | cons x r ih => have := one_le x; simp only [Rows.uptoBulkAll, List.length_cons]; omega
theorem slice_le {H : Type} (elems spare : List (DataW H)) : elems.length + 1 ≤ Rows.uptoBulk (.slice elems spare) := by
 have h1 := length_le elems
 simp only [Rows.uptoBulk]
 omega
theorem elem_le {H : Type} {d : DataW H} {elems spare : List (DataW H)} (h : d ∈ elems) : Rows.uptoBulk d ≤ Rows.uptoBulk (.slice elems spare) := by
 have h1 := part_le h
 simp only [Rows.uptoBulk]
 omega
theorem agg_le {H : Type} {d : DataW H} {parts : List (DataW H)} (h : d ∈ parts) : Rows.uptoBulk d ≤ Rows.uptoBulk (.agg parts) := by
 have h1 := part_le h
 simp only [Rows.uptoBulk]
 omega
theorem wfI {n : Int} (h : (Lit.int .i64 n).wf = true) : I64 n := by
 have : -9223372036854775808 ≤ n ∧ n ≤ 9223372036854775807 := by simpa [Lit.wf, IntKind.min, IntKind.max, IntKind.signed, IntKind.bits] using h
 exact ⟨this.1, by omega⟩
section
variable {H : Type} {enc : TypeId × Value → H} {w : World} {base : Nat} {held : Bool} {fuel : Nat} {v : Value} {d : DataW H} {p : List MemPlace}
theorem vars_of (h : DataW.trod enc Tryz.prog w base (fun _ => true) held fuel 27 [v] = some (d, p)) (hk : Rows.uptoBulk d ≤ 1048576) : ∃ l : List Int, (IW w v l ∧ NilOK v) ∧ l.length ≤ 1048576 ∧ ∀ x ∈ l, I64 x := by
 rcases open_ints Tryz.underlying27 Tryz.underlying3 cells3 h with ⟨hcs, _⟩ | ⟨a, l, c, zs, hcs, _, hl, _, hz, hx, hcell, hwf⟩
 · have hv : v = .slice none 0 0 := by simpa using hcs
   subst hv
   exact ⟨[], ⟨⟨none, 0, rfl, fun i x q => by cases q⟩, fun k c e => by injection e with _ e1 e2; exact ⟨e1.symm, e2.symm⟩⟩, by simp, fun x q => by cases q⟩
 · have hv : v = .slice (some a) l c := by simpa using hcs
   subst hv
   simp only [if_true] at hz
   have hd : d = _ := congrArg Prod.fst hx
   dsimp only at hd
   rw [hd] at hk
   have h2 := slice_le (H := H) (lits .i64 (zs.take l)) (lits .i64 (zs.drop l))
   simp only [lits, List.length_map, List.length_take] at h2 hk
   have hlen : (zs.take l).length = l := by rw [List.length_take]; omega
   refine ⟨zs.take l, ⟨⟨some a, c, by rw [hlen], fun i x q => ⟨a, rfl, ?_⟩⟩, fun k c e => by injection e with e1 _ _; cases e1⟩, by rw [hlen]; omega, fun x q => wfI (hwf x (List.mem_of_mem_take q))⟩
   have hi : i < l := by have := lt_of_at q; omega
   rw [hcell i (by omega)]
   rw [List.getElem?_take_of_lt hi] at q
   rw [List.getD_eq_getElem?_getD, q]; rfl
theorem vals_of (h : DataW.trod enc Tryz.prog w base (fun _ => true) held fuel 28 [v] = some (d, p)) (hk : Rows.uptoBulk d ≤ 1048576) : ∃ l : List Bool, BW w v l ∧ l.length ≤ 1048576 := by
 rcases open_bools Tryz.underlying28 Tryz.underlying4 cells4 h with ⟨hcs, _⟩ | ⟨a, l, c, B, hcs, _, hl, _, hx, hcell⟩
 · have hv : v = .slice none 0 0 := by simpa using hcs
   subst hv
   exact ⟨[], ⟨none, 0, rfl, fun i x q => by cases q⟩, by simp⟩
 · have hv : v = .slice (some a) l c := by simpa using hcs
   subst hv
   have hd : d = _ := congrArg Prod.fst hx
   dsimp only at hd
   rw [hd] at hk
   have hlen : ((List.range l).map B).length = l := by simp
   refine ⟨(List.range l).map B, ⟨some a, c, by rw [hlen], fun i x q => ⟨a, rfl, ?_⟩⟩, ?_⟩
   · have hi : i < l := by have := lt_of_at q; omega
     rw [List.getElem?_map, List.getElem?_range hi] at q
     rw [hcell i (by omega)]
     exact congrArg (fun b => some (Value.bool b)) (Option.some.inj q)
   · rw [hlen]
     have h2 := slice_le (H := H) ((List.range l).map fun i => DataW.lit (.bool (B i))) ((List.range (c - l)).map fun j => DataW.lit (.bool (B (l + j))))
     rw [List.length_map, List.length_range] at h2
     unfold boolRow at hk
     dsimp only at hk
     omega
theorem op_of {a : Addr} {cs : List Value} (h1 : w.cells? base a 6 = some cs) (h2 : DataW.trod enc Tryz.prog w base (fun _ => true) held fuel 30 cs = some (d, p)) (hk : Rows.uptoBulk d ≤ 1048576) : ∃ o va vb, OpC w a o va vb ∧ (IW w va o.vars ∧ NilOK va) ∧ BW w vb o.vals ∧ OpOK o := by
 obtain ⟨_, hlen, hcell⟩ := World.cells?_some h1
 obtain ⟨xs, k, hk', hxy, _, hxl, hf⟩ := DataW.trod_struct Tryz.underlying30 h2
 match xs, hxl, cs, hlen with
 | [y0, y1, y2, y3, y4, y5], _, [v0, v1, v2, v3, v4, v5], _ =>
   have g0 := hf 0 _ rfl
   have g1 := hf 1 _ rfl
   have g2 := hf 2 _ rfl
   have g3 := hf 3 _ rfl
   have g4 := hf 4 _ rfl
   have g5 := hf 5 _ rfl
   simp [cells3, cellsI, cellsB] at g0 g1 g2 g3 g4 g5
   obtain ⟨n0, e0, _, w0⟩ := DataW.trod_int Tryz.underlying3 g0
   obtain ⟨n1, e1, _, w1⟩ := DataW.trod_int Tryz.underlying3 g1
   obtain ⟨n2, e2, _, w2⟩ := DataW.trod_int Tryz.underlying3 g2
   obtain ⟨n3, e3, _, w3⟩ := DataW.trod_int Tryz.underlying3 g3
   have hd : d = .agg [y0.1, y1.1, y2.1, y3.1, y4.1, y5.1] := by simpa using congrArg Prod.fst hxy
   rw [hd] at hk
   have k4 : Rows.uptoBulk y4.1 ≤ 1048576 := Nat.le_trans (agg_le (by simp)) hk
   have k5 : Rows.uptoBulk y5.1 ≤ 1048576 := Nat.le_trans (agg_le (by simp)) hk
   obtain ⟨vars, hv1, hv2, hv3⟩ := vars_of (d := y4.1) (p := y4.2) g4 k4
   obtain ⟨vals, hb1, hb2⟩ := vals_of (d := y5.1) (p := y5.2) g5 k5
   have c0 := hcell 0 (by omega)
   have c1 := hcell 1 (by omega)
   have c2 := hcell 2 (by omega)
   have c3 := hcell 3 (by omega)
   have c4 := hcell 4 (by omega)
   have c5 := hcell 5 (by omega)
   obtain ⟨b, off, spot⟩ := a
   have hspot : spot = none := by simpa [Addr.add] using World.cell?_spot c0
   subst hspot
   have hadd : ∀ k, (⟨b, off, none⟩ : Addr).add k = ⟨b, off + k, none⟩ := fun k => Addr.add_lit _ _ _
   rw [hadd] at c0 c1 c2 c3 c4 c5
   have e0 : v0 = .int .i64 n0 := by simpa using e0
   have e1 : v1 = .int .i64 n1 := by simpa using e1
   have e2 : v2 = .int .i64 n2 := by simpa using e2
   have e3 : v3 = .int .i64 n3 := by simpa using e3
   subst e0 e1 e2 e3
   exact ⟨⟨n0, n1, n2, n3, vars, vals⟩, v4, v5, ⟨c0, c1, c2, c3, c4, c5⟩, hv1, hb1, ⟨wfI w0, wfI w1, wfI w2, wfI w3, hv3, by show vars.length ≤ _; omega, by show vals.length ≤ _; omega⟩⟩
theorem ops_of {a0 : Option Addr} {l0 c0 : Nat} (h : DataW.Trod enc Tryz.prog w base (fun _ => true) held 22 (.slice a0 l0 c0) d p) (hk : Rows.uptoBulk d ≤ 1048576) : ∃ l : List OpR, ScrV w (.slice a0 l0 c0) l ∧ l.length ≤ 1048576 ∧ ∀ o ∈ l, OpOK o := by
 obtain ⟨fuel, hf⟩ := h
 rcases open_slice Tryz.underlying22 hf with ⟨hcs, _⟩ | ⟨a, len, cap, m, n, D, Pl, hcs, _, hl, _, hm, hx, hall⟩
 · simp [Value.cells] at hcs
   obtain ⟨rfl, rfl, rfl⟩ := hcs
   exact ⟨[], ⟨none, 0, rfl, fun i o q => by cases q⟩, by simp, fun o q => by cases q⟩
 · simp [Value.cells] at hcs
   obtain ⟨rfl, rfl, rfl⟩ := hcs
   simp only [if_true] at hm
   subst hm
   have hd : d = _ := congrArg Prod.fst hx
   dsimp only at hd
   rw [hd] at hk
   have hlen : l0 ≤ 1048576 := by
    have := slice_le (H := H) ((List.range l0).map D) ((List.range (m - l0)).map fun j => D (l0 + j))
    rw [List.length_map, List.length_range] at this
    omega
   have hdk : ∀ r, r < l0 → Rows.uptoBulk (D r) ≤ 1048576 := fun r hr => Nat.le_trans (elem_le (H := H) (elems := (List.range l0).map D) (spare := (List.range (m - l0)).map fun j => D (l0 + j)) (List.mem_map.2 ⟨r, List.mem_range.2 hr, rfl⟩)) hk
   have each : ∀ r, r < l0 → ∃ y : OpR, (∃ va vb, OpC w (a.add (r * 6)) y va vb ∧ (IW w va y.vars ∧ NilOK va) ∧ BW w vb y.vals) ∧ OpOK y := fun r hr => by
    obtain ⟨cs', h1, h2⟩ := hall r (by omega)
    rw [cellsO] at h1
    obtain ⟨o, va, vb, q1, q2, q3, q4⟩ := op_of h1 h2 (hdk r hr)
    exact ⟨o, ⟨va, vb, q1, q2, q3⟩, q4⟩
   haveI : Inhabited OpR := ⟨⟨0, 0, 0, 0, [], []⟩⟩
   obtain ⟨y, hy⟩ := choose_lt each
   refine ⟨(List.range l0).map y, ⟨some a, m, by simp, fun i o q => ?_⟩, by simpa using hlen, fun o q => ?_⟩
   · have hi : i < l0 := by have := lt_of_at q; simpa using this
     rw [List.getElem?_map, List.getElem?_range hi] at q
     obtain ⟨va, vb, q1, q2, q3⟩ := (hy i hi).1
     rw [Option.some.inj q] at q1 q2 q3
     exact ⟨a, va, vb, rfl, q1, q2, q3⟩
   · obtain ⟨r, hr, rfl⟩ := List.mem_map.1 q
     exact (hy r (List.mem_range.1 hr)).2
end
end Go.Proofs.YtaakjjefnjbabaaGreat.Sx
namespace Go.Proofs.YtaakjjefnjbabaaGreat.Sx
open Go.RowKit Go.Sort Go.Maps Go.WideMaps
theorem shr_bit2 (j a : Nat) (hj : j < 2 ^ 40) : (bits .and .i64 ((j : Int) / 2 ^ a) 1 == 1) = j.testBit a := by
 have e : (j : Int) / 2 ^ a = ((j / 2 ^ a : Nat) : Int) := by rw [Int.natCast_ediv, Int.natCast_pow]; rfl
 have hb := (bits_i64 (j / 2 ^ a) 1 (by have := Nat.div_le_self j (2 ^ a); omega) (by omega)).1
 have hb : bits .and .i64 ((j / 2 ^ a : Nat) : Int) 1 = ((j / 2 ^ a &&& 1 : Nat) : Int) := hb
 rw [e, hb, Nat.and_one_is_mod, Nat.testBit_eq_decide_div_mod_eq]
 have : j / 2 ^ a % 2 = 0 ∨ j / 2 ^ a % 2 = 1 := by omega
 rcases this with h | h <;> rw [h] <;> rfl
end Go.Proofs.YtaakjjefnjbabaaGreat.Sx
namespace Go.Proofs.YtaakjjefnjbabaaGreat.Sx
open Go.RowKit Go.Sort Go.Maps Go.WideMaps
theorem plays_out (w : World) (n H : Int) (hn : n < 0 ∨ 9 < n) (v : Value) :
 Calls Tryz.prog 7 #[.int .i64 n, v, .int .i64 H] w fun e w' => e = .returned (.bool true) ∧ Fr (fun _ => True) w w' := by
 go_enter Tryz.func7, Tryz.ntmps7
 by_cases h0 : n < 0
 · go_wp2_with fail
   go_ret
   exact ⟨rfl, Fr.refl _ _⟩
 · have h1 : 9 < n := by omega
   go_wp2_with fail
   go_ret
   exact ⟨rfl, Fr.refl _ _⟩
end Go.Proofs.YtaakjjefnjbabaaGreat.Sx
