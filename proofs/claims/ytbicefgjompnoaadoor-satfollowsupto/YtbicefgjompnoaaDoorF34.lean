/- The law: the same clauses; copies. -/
import Derived.Test.YtbicefgjompnoaaDoorF15
import Derived.Test.YtbicefgjompnoaaDoorF33
import Derived.Test.YtbicefgjompnoaaDoorRows
import Derived.ProofKit
import Derived.OpenShut
import Derived.ChangeOld
import Derived.Below
import Derived.JoinedCond
import Derived.Deep.Matrix
import Derived.Deep.SlicePairs
namespace Go.Proofs.YtbicefgjompnoaaDoor.Sx
open Go.RowKit Go.Sort

set_option maxRecDepth 100000 in
set_option maxHeartbeats 2000000 in
theorem clauses_same (w : World) (la lb : Nat) (va vb : Value) (C : List (List Int)) (ha : ClsAt w la va C) (hb : ClsAt w lb vb C) : Calls Tryd.prog 9 #[va, vb] w fun e w' => e = .returned (.bool true) ∧ Fr (fun _ => True) w w' := by
  have mo := follows
  obtain ⟨aa, ca, rfl, _⟩ := ha.ex
  obtain ⟨ab, cb, rfl, _⟩ := hb.ex
  have hbg := ha.big
  have HA : Hid (ClsAt w la (.slice aa C.length ca) C) := ha
  have HB : Hid (ClsAt w lb (.slice ab C.length cb) C) := hb
  clear ha hb
  go_enter Tryd.func9, Tryd.ntmps9
  go_wp2_with fail
  go_loopg [5] (C.length) (fun k s5 wr => ∃ j : Nat, s5 = .int .i64 (j : Int) ∧ j + k = C.length ∧ Hid (Fr (fun _ => True) w wr))
  case atStart => exact ⟨0, rfl, by omega, Fr.refl _ _⟩
  case round =>
    obtain ⟨j, rfl, hjk, HF⟩ := hrel
    by_cases hj : j < C.length
    · obtain ⟨k, rfl⟩ : ∃ k, gk = k + 1 := ⟨gk - 1, by omega⟩
      obtain ⟨x, hx⟩ : ∃ x, C[j] = x := ⟨_, rfl⟩
      have hxj : C[j]? = some x := by rw [List.getElem?_eq_getElem hj, hx]
      have get : ∀ (o : Option Addr) (cap lo : Nat), ClsAt w lo (.slice o C.length cap) C → ∃ p u, o = some p ∧ w.cell? (p.add j) = some u ∧ IntsAt w lo u x := fun o cap lo h => by
        obtain ⟨a', c', e', q⟩ := h.ex
        cases e'
        rcases q with q | ⟨p, rfl, _, q⟩
        · rw [q] at hj; simp at hj
        · obtain ⟨u, h1, h2⟩ := q j x hxj
          exact ⟨p, u, rfl, h1, h2⟩
      obtain ⟨pa, u1, rfl, a1, a2⟩ := get _ _ _ HA.out
      obtain ⟨pb, u2, rfl, b1, b2⟩ := get _ _ _ HB.out
      have stay : ∀ (p : Addr) u W, w.cell? p = some u → Fr (fun _ => True) w W → W.cell? p = some u := fun p u W h f => (World.cell?_of_block (w := w) (f.block _ (World.block_lt_of_cell? w _ h) trivial)).trans h
      have fd : Fr (fun _ => True) w wr.drew := HF.out.drew
      have d1 := stay _ _ _ a1 fd
      have d2 := stay _ _ _ b1 fd
      have HIN : Hid (Calls _ _ _ _ _) := ints_same wr.drew la lb u1 u2 x (a2.of (fd.mono fun _ _ => trivial)) (b2.of (fd.mono fun _ _ => trivial))
      have HK : Hid (∀ w9, Fr (fun _ => True) wr.drew w9 → w9.cell? (pa.add j) = some u1 ∧ w9.cell? (pb.add j) = some u2 ∧ Hid (Fr (fun _ => True) w w9)) := fun w9 hf => ⟨stay _ _ _ a1 (fd.trans hf), stay _ _ _ b1 (fd.trans hf), fd.trans hf⟩
      have j0 : (0 : Int) ≤ (j : Int) := by omega
      have j1 : (j : Int) < (C.length : Int) := by omega
      clear a1 a2 b1 b2 get stay fd hx hxj HF
      go_wp2_with fail
      refine wp_region_noPanic ?_
      refine wp_region_held_drew (S := fun w' => w'.cell? (pa.add j) = some u1 ∧ w'.cell? (pb.add j) = some u2) (by kernel_rfl) ⟨d1, d2⟩ (fun hHeld => ?_)
      refine wpAnyH_take (i := 0) (oi := ({ dst := some 18, op := Op.move (Operand.tmp 0), type := 22, pos := _, after := #[], guard := none } : Oper)) (v := ?_) rfl (by kernel_rfl) (by kernel_rfl) (by kernel_rfl) (fun _ _ _ h => h) (Or.inl ⟨by rfl, ?_⟩) hHeld ?_
      rotate_left
      · intro w0 hS0; (try dsimp only at hS0); go_simp; try with_reducible rfl
      try simp only [Act.put, List.setIfInBounds_toArray, List.set_cons_zero, List.set_cons_succ]
      refine wpAnyH_take (i := 1) (oi := ({ dst := some 19, op := Op.move (Operand.tmp 5), type := 3, pos := _, after := #[], guard := none } : Oper)) (v := ?_) rfl (by kernel_rfl) (by kernel_rfl) (by kernel_rfl) (fun _ _ _ h => h) (Or.inl ⟨by rfl, ?_⟩) hHeld ?_
      rotate_left
      · intro w0 hS0; (try dsimp only at hS0); go_simp; try with_reducible rfl
      try simp only [Act.put, List.setIfInBounds_toArray, List.set_cons_zero, List.set_cons_succ]
      refine wpAnyH_take (i := 2) (oi := ({ dst := some 20, op := Op.indexAddr 22 (Operand.tmp 18) (Operand.tmp 19), type := 0, pos := _, after := #[{ on := 0, ground := Ground.data }, { on := 1, ground := Ground.data }], guard := none } : Oper)) (v := ?_) rfl (by kernel_rfl) (by kernel_rfl) (by kernel_rfl) (fun _ _ _ h => h) (Or.inl ⟨by rfl, ?_⟩) hHeld ?_
      rotate_left
      · intro w0 hS0; (try dsimp only at hS0); go_simp; try with_reducible rfl
      try simp only [Act.put, List.setIfInBounds_toArray, List.set_cons_zero, List.set_cons_succ]
      refine wpAnyH_take (i := 3) (oi := ({ dst := some 21, op := Op.load 23 (Operand.tmp 20), type := 23, pos := _, after := #[{ on := 2, ground := Ground.data }], guard := none } : Oper)) (v := ?_) rfl (by kernel_rfl) (by kernel_rfl) (by kernel_rfl) (fun _ _ _ h => h) (Or.inl ⟨by rfl, ?_⟩) hHeld ?_
      rotate_left
      · intro w0 hS0; (try dsimp only at hS0); go_simp; try with_reducible rfl
      try simp only [Act.put, List.setIfInBounds_toArray, List.set_cons_zero, List.set_cons_succ]
      refine wpAnyH_take (i := 4) (oi := ({ dst := some 22, op := Op.move (Operand.tmp 1), type := 22, pos := _, after := #[], guard := none } : Oper)) (v := ?_) rfl (by kernel_rfl) (by kernel_rfl) (by kernel_rfl) (fun _ _ _ h => h) (Or.inl ⟨by rfl, ?_⟩) hHeld ?_
      rotate_left
      · intro w0 hS0; (try dsimp only at hS0); go_simp; try with_reducible rfl
      try simp only [Act.put, List.setIfInBounds_toArray, List.set_cons_zero, List.set_cons_succ]
      refine wpAnyH_take (i := 5) (oi := ({ dst := some 23, op := Op.move (Operand.tmp 5), type := 3, pos := _, after := #[], guard := none } : Oper)) (v := ?_) rfl (by kernel_rfl) (by kernel_rfl) (by kernel_rfl) (fun _ _ _ h => h) (Or.inl ⟨by rfl, ?_⟩) hHeld ?_
      rotate_left
      · intro w0 hS0; (try dsimp only at hS0); go_simp; try with_reducible rfl
      try simp only [Act.put, List.setIfInBounds_toArray, List.set_cons_zero, List.set_cons_succ]
      refine wpAnyH_take (i := 6) (oi := ({ dst := some 24, op := Op.indexAddr 22 (Operand.tmp 22) (Operand.tmp 23), type := 0, pos := _, after := #[{ on := 4, ground := Ground.data }, { on := 5, ground := Ground.data }], guard := none } : Oper)) (v := ?_) rfl (by kernel_rfl) (by kernel_rfl) (by kernel_rfl) (fun _ _ _ h => h) (Or.inl ⟨by rfl, ?_⟩) hHeld ?_
      rotate_left
      · intro w0 hS0; (try dsimp only at hS0); go_simp; try with_reducible rfl
      try simp only [Act.put, List.setIfInBounds_toArray, List.set_cons_zero, List.set_cons_succ]
      refine wpAnyH_take (i := 7) (oi := ({ dst := some 25, op := Op.load 23 (Operand.tmp 24), type := 23, pos := _, after := #[{ on := 6, ground := Ground.data }], guard := none } : Oper)) (v := ?_) rfl (by kernel_rfl) (by kernel_rfl) (by kernel_rfl) (fun _ _ _ h => h) (Or.inl ⟨by rfl, ?_⟩) hHeld ?_
      rotate_left
      · intro w0 hS0; (try dsimp only at hS0); go_simp; try with_reducible rfl
      try simp only [Act.put, List.setIfInBounds_toArray, List.set_cons_zero, List.set_cons_succ]
      refine wpAnyH_ready (rs := [8]) (by kernel_rfl) (by simp) ?_
      refine AllReadyH.cons (o := ({ dst := some 26, op := Op.call { callee := Callee.value (Operand.func 10), args := #[Operand.tmp 21, Operand.tmp 25], argTypes := #[23, 23] }, type := 4, pos := _, after := #[{ on := 3, ground := Ground.data }, { on := 7, ground := Ground.data }], guard := none } : Oper)) rfl (fun KK hK => ?_) AllReadyH.nil
      go_simp
      refine HIN.out.mono ?_
      rintro e w9 ⟨rfl, hf9⟩
      obtain ⟨k1, k2, K9⟩ := HK.out w9 hf9
      refine hK.out _ _ ?_ (fun hHeld2 => ?_)
      · exact ⟨k1, k2⟩
      clear hK KK
      try simp only [Act.put, List.setIfInBounds_toArray, List.set_cons_zero, List.set_cons_succ]
      refine wpAnyH_ready (rs := [9]) (by kernel_rfl) (by simp) ?_
      refine AllReadyH.cons (o := ({ dst := some 6, op := Op.assign (Operand.tmp 26), type := 4, pos := _, after := #[{ on := 8, ground := Ground.data }, { on := 8, ground := Ground.chain }, { on := 0, ground := Ground.phase }, { on := 1, ground := Ground.phase }, { on := 2, ground := Ground.phase }, { on := 3, ground := Ground.phase }, { on := 4, ground := Ground.phase }, { on := 5, ground := Ground.phase }, { on := 6, ground := Ground.phase }, { on := 7, ground := Ground.phase }, { on := 8, ground := Ground.phase }], guard := none } : Oper)) rfl (fun KK hK => ?_) AllReadyH.nil
      go_simp
      refine hK.out _ _ ?_ (fun _ => ?_)
      · exact ⟨k1, k2⟩
      clear hK KK
      refine wpAnyH_done (by kernel_rfl) ?_ _
      refine NoPanic.normal ?_
      clear HIN HK d1 d2 k1 k2
      go_wp2_with fail
      go_roundg k
      case measure => omega
      case rel => exact ⟨j + 1, by simp, by omega, K9⟩
    · have j1 : ¬ (j : Int) < (C.length : Int) := by omega
      go_wp2_with fail
      go_ret
      exact ⟨rfl, HF.out⟩

/-- a copy of numbers -/
theorem ints_onto (w : World) (B lo : Nat) (u : Value) (x : List Int) (hB : w.heap[B]? = some (.cells #[] 3 (0, 0))) (h : IntsAt w lo u x) (base : Nat) (hb : base ≤ B) :
    ∃ v1 w1, (Builtin.append_ #[23, 23] 23 #[.slice (some ⟨B, 0, none⟩) 0 0, u]).run Tryd.prog w = .ok v1 w1 ∧ OwnI w1 base v1 x ∧ w.grownBy w1 (some B) ∧ (v1.ownBlock = some B ∨ v1.ownBlock = some w.heap.size) := by
  obtain ⟨i0, hi0, hz0, hz1, hz2⟩ := info3
  have hbw : B < w.heap.size := block_lt hB
  have hown : w.ownsRow base 3 1 (.slice (some ⟨B, 0, none⟩) 0 0) 0 [] := ⟨rfl, .inr ⟨B, 0, #[], rfl, hb, hB, Nat.le_refl _, Nat.zero_le _, rfl, rfl⟩⟩
  obtain ⟨a, cap, rfl, hq⟩ := h.ex
  have hbig := h.big
  cases a with
  | none =>
    have hx : x = [] := by
      rcases hq with q | ⟨p, q, _⟩
      · exact q
      · cases q
    subst hx
    refine ⟨.slice (some ⟨B, 0, none⟩) 0 0, w, ?_, hown, ⟨rfl, rfl, rfl, Nat.le_refl _, fun _ _ _ => rfl⟩, .inl rfl⟩
    simp [Builtin.append_, run_underlying Tryd.underlying23, sizeOf, typeInfo, hi0, Builtin.lenOf, Builtin.firstCells, storeCells]
  | some p =>
    have hcell : ∀ (j : Nat) u, (x.map fun y => Value.int .i64 y)[j]? = some u → w.cell? (p.add j) = some u := fun j u hu => by
      rw [List.getElem?_map] at hu
      cases hy : x[j]? with
      | none => rw [hy] at hu; cases hu
      | some y =>
        rw [hy] at hu
        have e : Value.int .i64 y = u := Option.some.inj hu
        rcases hq with q | ⟨p', q, _, q2⟩
        · rw [q] at hy; simp at hy
        · cases q
          rw [← e]
          exact q2 j y hy
    obtain ⟨v1, w1, h1, h2, h3, _, h5⟩ := run_append_own_at (P := Tryd.prog) w base 23 23 3 i0 _ 1 8 Tryd.underlying23 hi0 hz0 hz1 hz2 rfl (by decide) (.slice (some ⟨B, 0, none⟩) 0 0) 0 [] hown p x.length cap (x.map fun y => Value.int .i64 y) (by simp) hcell (fun u hu => by obtain ⟨y, _, rfl⟩ := List.mem_map.1 hu; rfl) (by unfold maxLen; omega) (by omega) (by omega)
    refine ⟨v1, w1, h1, ?_, h3, h5⟩
    unfold OwnI
    simpa using h2

end Go.Proofs.YtbicefgjompnoaaDoor.Sx
/- The law: clauses that are the caller's. -/
namespace Go.Proofs.YtbicefgjompnoaaDoor.Sx
open Go.RowKit Go.Sort

theorem OwnI.block {w : World} {base : Nat} {u : Value} {x : List Int} (h : OwnI w base u x) {g : Nat} (hg : u.ownBlock = some g) : ∃ cur, w.heap[g]? = some (.cells cur 3 (0, 0)) := by
  rcases h.2 with ⟨e, _⟩ | ⟨g', cap, cur, e, _, hh, _⟩
  · rw [e] at hg; cases hg
  · have : g' = g := by rw [e] at hg; exact Option.some.inj hg
    subst this
    exact ⟨cur, hh⟩
theorem OwnI.keep {w w' : World} {base : Nat} {u : Value} {x : List Int} (h : OwnI w base u x) (f : ∀ g, u.ownBlock = some g → w'.heap[g]? = w.heap[g]?) : OwnI w' base u x := by
  refine ⟨h.1, ?_⟩
  rcases h.2 with q | ⟨g, cap, cur, e, hb, hh, q⟩
  · exact .inl q
  · exact .inr ⟨g, cap, cur, e, hb, (f g (by rw [e]; rfl)).trans hh, q⟩
/-- copies, in a row of the call's own -/
structure OutC (w : World) (base : Nat) (v : Value) (C : List (List Int)) : Prop where
  ex : ∃ vs : List Value, w.ownsRow base 23 1 v C.length vs ∧ ∀ (i : Nat) (x : List Int), C[i]? = some x → ∃ u, vs[i]? = some u ∧ OwnI w base u x
theorem OutC.form {w : World} {base : Nat} {v : Value} {C : List (List Int)} (h : OutC w base v C) : ∃ a cap, v = .slice a C.length cap := by
  obtain ⟨vs, h1, _⟩ := h.ex
  rcases h1.2 with ⟨e, hn⟩ | ⟨g', cap', cur, e, _⟩
  · exact ⟨none, 0, by rw [e, hn]⟩
  · exact ⟨_, _, e⟩
theorem OutC.of {w w' : World} {base : Nat} {v : Value} {C : List (List Int)} (h : OutC w base v C) (f : Fr (fun _ => True) w w') : OutC w' base v C := by
  obtain ⟨vs, h1, h2⟩ := h.ex
  refine ⟨vs, f.owns h1, fun i x hx => ?_⟩
  obtain ⟨u, u1, u2⟩ := h2 i x hx
  refine ⟨u, u1, u2.keep fun g hg => ?_⟩
  obtain ⟨cur, hc⟩ := u2.block hg
  exact f.block g (block_lt hc) trivial
theorem OutC.cls {w : World} {base : Nat} {v : Value} {C : List (List Int)} (h : OutC w base v C) (hx : ∀ x ∈ C, x.length ≤ 1000000000000) (hb : C.length ≤ 1000000000000) : ClsAt w w.heap.size v C := by
  obtain ⟨vs, h1, h2⟩ := h.ex
  rcases h1.2 with ⟨e, hn⟩ | ⟨g, cap, cur, rfl, hbg, hg, _, _, _, ht⟩
  · exact ⟨⟨none, 0, by rw [e, hn], .inl (List.eq_nil_of_length_eq_zero hn)⟩, hb⟩
  · refine ⟨⟨_, _, rfl, .inr ⟨_, rfl, block_lt hg, fun i x hi => ?_⟩⟩, hb⟩
    obtain ⟨u, u1, u2⟩ := h2 i x hi
    refine ⟨u, ?_, u2.ints (hx x (List.mem_of_getElem? hi))⟩
    have hadd : (⟨g, 0, none⟩ : Addr).add i = ⟨g, i, none⟩ := by unfold Addr.add; split <;> simp_all
    rw [hadd, block_cell hg]
    rw [← ht, List.getElem?_take] at u1
    split at u1
    · simpa using u1
    · simp at u1

set_option maxRecDepth 100000 in
set_option maxHeartbeats 2000000 in
theorem copied_any (w : World) (lo : Nat) (cv : Value) (C : List (List Int)) (hc : ClsAt w lo cv C) (hcl : C.length ≤ 33554432) : Calls Tryd.prog 4 #[cv] w fun e w' => ∃ v, e = .returned v ∧ OutC w' w.heap.size v C ∧ Fr (fun _ => True) w w' := by
  have mo := follows
  obtain ⟨i0, hi0, hz0, hz1, hz2⟩ := info31
  obtain ⟨ca, cc, rfl, _⟩ := hc.ex
  have HC : Hid (ClsAt w lo (.slice ca C.length cc) C) := hc
  obtain ⟨base, hbase⟩ : ∃ b, w.heap.size = b := ⟨_, rfl⟩
  rw [hbase]
  have HB : Hid (w.heap.size = base) := hbase
  clear hc hbase
  go_enter Tryd.func4, Tryd.ntmps4
  go_wp2_with fail
  go_loopg [3, 4] (C.length) (fun k s3 s4 wr => ∃ j : Nat, s4 = .int .i64 (j : Int) ∧ j + k = C.length ∧ Hid (OutC wr base s3 (C.take j)) ∧ Hid (Fr (fun _ => True) w wr))
  case atStart => exact ⟨0, rfl, by omega, ⟨[], World.ownsRow_nil _ _ _ _, fun i x h => by simp at h⟩, Fr.refl _ _⟩
  case round =>
    obtain ⟨j, rfl, hjk, HO, HF⟩ := hrel
    by_cases hj : j < C.length
    · obtain ⟨k, rfl⟩ : ∃ k, gk = k + 1 := ⟨gk - 1, by omega⟩
      obtain ⟨x, hx⟩ : ∃ x, C[j] = x := ⟨_, rfl⟩
      have hxj : C[j]? = some x := by rw [List.getElem?_eq_getElem hj, hx]
      have ht : C.take (j + 1) = C.take j ++ [x] := by rw [List.take_succ_eq_append_getElem hj, hx]
      have hcw := HC.out.of (HF.out.mono fun _ _ => trivial)
      obtain ⟨a', c', e', q⟩ := hcw.ex
      cases e'
      obtain ⟨p, rfl, _, q⟩ : ∃ p, ca = some p ∧ p.block < lo ∧ ∀ i c, C[i]? = some c → ∃ u, wr.cell? (p.add i) = some u ∧ IntsAt wr lo u c := by
        rcases q with q | q
        · rw [q] at hj; simp at hj
        · exact q
      obtain ⟨u, cu, hu⟩ := q j x hxj
      have j0 : (0 : Int) ≤ (j : Int) := by omega
      have j1 : (j : Int) < (C.length : Int) := by omega
      obtain ⟨oa, oc, ho⟩ := HO.out.form
      subst ho
      have hlen : (C.take j).length = j := by simp; omega
      rw [hlen]
      -- the copy
      obtain ⟨B, hB⟩ : ∃ B, wr.heap.size = B := ⟨_, rfl⟩
      obtain ⟨W, hW⟩ : ∃ W, wr.alloc (.cells #[] 3) = W := ⟨_, rfl⟩
      have hfW : Fr (fun _ => True) wr W := by rw [← hW]; exact (Fr.refl _ wr).alloc _
      have hBW : W.heap[B]? = some (.cells #[] 3 (0, 0)) := by rw [← hW]; exact heap_new hB
      have cuW : W.cell? (p.add j) = some u := (World.cell?_of_block (w := wr) (hfW.block _ (World.block_lt_of_cell? wr _ cu) trivial)).trans cu
      clear cu
      have hbB : base ≤ B := by have := HF.out.size; have := HB.out; omega
      obtain ⟨v1, w1, r1, o1, g1, b1⟩ := ints_onto W B lo u x hBW (hu.of (hfW.mono fun _ _ => trivial)) base hbB
      have HR1 : Hid ((Builtin.append_ #[23, 23] 23 #[.slice (some ⟨B, 0, none⟩) 0 0, u]).run Tryd.prog W = .ok v1 w1) := r1
      have hf1 : Fr (fun _ => True) wr w1 := ⟨g1.os.trans hfW.os, g1.tape.trans hfW.tape, g1.output.trans hfW.output, Nat.le_trans hfW.size g1.size, fun k hk _ => (g1.block k (Nat.lt_of_lt_of_le hk hfW.size) (fun e => by have := Option.some.inj e; omega)).trans (hfW.block k hk trivial)⟩
      obtain ⟨va, vc, hv1⟩ := o1.form
      subst hv1
      have one : (Value.slice va x.length vc).oneCell' = true := rfl
      have HO1 : Hid (OwnI w1 base (.slice va x.length vc) x) := o1
      have hO1 := HO.out.of hf1
      obtain ⟨vs, vs1, vs2⟩ := hO1.ex
      rw [hlen] at vs1
      have HVS : Hid (∀ (i : Nat) (y : List Int), (C.take j)[i]? = some y → ∃ u, vs[i]? = some u ∧ OwnI w1 base u y) := vs2
      have HOW : Hid ((w1.alloc (.cells #[.slice va x.length vc] 23)).ownsRow base 23 1 (.slice oa j oc) j vs) := vs1.alloc _
      have HBS : Hid (base ≤ (w1.alloc (.cells #[.slice va x.length vc] 23)).heap.size) := by
        show base ≤ _
        have h1 := hf1.size
        simp; omega
      have HF1 : Hid (Fr (fun _ => True) w w1) := HF.out.trans hf1
      have hjl : vs.length = j := by have := vs1.1; omega
      clear r1 g1 b1 hf1 hfW hBW q hu vs1 vs2 hO1 HO HF hcw o1 hxj hx
      have hm4 : j + 1 ≤ maxLen := by unfold maxLen; omega
      have hm5 : (j + 1) * 24 ≤ 140737488355328 := by omega
      go_wp2_with (at_builtin; first | refine at_append _ rfl _ _ 23 rfl _ _ _ _ rfl rfl HR1.out ?_ | (refine wpList_append_own_at _ rfl _ _ 22 rfl base 23 i0 _ 1 24 Tryd.underlying22 hi0 hz0 hz1 hz2 rfl (by decide) (.slice oa j oc) j vs rfl HOW.out ⟨w1.heap.size, 0, none⟩ 1 1 [.slice va x.length vc] rfl rfl (World.news_of_block (heap_new rfl)) (one1 one) hm4 hm5 HBS.out ?_; intro v4 w4 ho4 hg4 _ _))
      -- the row's own block, and the copies'
      have hrow : ∀ b, (Value.slice oa j oc).ownBlock = some b → ∃ cur, (w1.alloc (.cells #[.slice va x.length vc] 23)).heap[b]? = some (.cells cur 23 (0, 0)) := fun b hb => by
        rcases HOW.out.2 with ⟨e, _⟩ | ⟨g, cap, cur, e, _, hh, _⟩
        · rw [e] at hb; cases hb
        · rw [e] at hb
          have : g = b := Option.some.inj hb
          subst this
          exact ⟨cur, hh⟩
      have hkeep : ∀ y v, OwnI w1 base v y → OwnI w4 base v y := fun y v hv => hv.keep fun b hb => by
        obtain ⟨cur, hc⟩ := hv.block hb
        have hc2 : (w1.alloc (.cells #[.slice va x.length vc] 23)).heap[b]? = some (.cells cur 3 (0, 0)) := (heap_alloc_old w1 _ (block_lt hc)).trans hc
        refine (hg4.block b (block_lt hc2) (fun e => ?_)).trans (hc2.trans hc.symm)
        obtain ⟨cur2, hc3⟩ := hrow b e.symm
        rw [hc2] at hc3
        cases hc3
      have HO4 : Hid (OutC w4 base v4 (C.take (j + 1))) := by
        rw [ht]
        refine ⟨vs ++ [.slice va x.length vc], by rw [List.length_append, hlen]; exact ho4, fun i y hy => ?_⟩
        by_cases z : i < j
        · rw [List.getElem?_append_left (by rw [hlen]; exact z)] at hy
          obtain ⟨v, e1, e2⟩ := HVS.out i y hy
          exact ⟨v, by rw [List.getElem?_append_left (by omega)]; exact e1, hkeep y v e2⟩
        · have hb := (List.getElem?_eq_some_iff.1 hy).1
          rw [List.length_append, hlen, List.length_singleton] at hb
          have e : i = j := by omega
          subst e
          rw [List.getElem?_append_right (by rw [hlen]; exact Nat.le_refl _), hlen, Nat.sub_self] at hy
          have hyx : x = y := by simpa using hy
          subst hyx
          exact ⟨_, by rw [List.getElem?_append_right (by omega), hjl, Nat.sub_self]; rfl, hkeep x _ HO1.out⟩
      have HF4 : Hid (Fr (fun _ => True) w w4) := by
        have h1 : Fr (fun _ => True) w (w1.alloc (.cells #[.slice va x.length vc] 23)) := HF1.out.alloc _
        exact h1.grown hg4 (fun k hk _ => owns_block HOW.out (by have := HB.out; omega))
      clear ho4 hg4 HOW HBS HVS HO1 HF1 hrow hkeep
      go_wp2_with fail
      go_roundg k
      case measure => omega
      case rel => exact ⟨j + 1, by simp, by omega, HO4, HF4⟩
    · have j1 : ¬ (j : Int) < (C.length : Int) := by omega
      obtain rfl : j = C.length := by omega
      obtain ⟨oa, oc, ho⟩ := HO.out.form
      rw [List.take_length] at ho
      have HO9 : Hid (OutC wr base (.slice oa C.length oc) C) := by
        have := HO.out
        rw [List.take_length, ho] at this
        exact this
      subst ho
      clear HO
      go_wp2_with fail
      go_ret
      exact ⟨_, rfl, HO9.out, HF.out⟩

end Go.Proofs.YtbicefgjompnoaaDoor.Sx
/- The law SatProofs. -/
namespace Go.Proofs.YtbicefgjompnoaaDoor.Sx
open Go.RowKit Go.Sort

theorem LinesAt.up {w : World} {lo lo' : Nat} {v : Value} {P : List (Bool × List Int)} (h : LinesAt w lo v P) (hl : lo ≤ lo') : LinesAt w lo' v P := by
  obtain ⟨a, cap, e, q⟩ := h.ex
  refine ⟨⟨a, cap, e, ?_⟩, h.big⟩
  rcases q with q | ⟨b, o, e1, e2, e3⟩
  · exact .inl q
  · refine .inr ⟨b, o, e1, Nat.lt_of_lt_of_le e2 hl, fun i g c hc => ?_⟩
    obtain ⟨h1, u, h2, h3⟩ := e3 i g c hc
    exact ⟨h1, u, h2, h3.up hl⟩

end Go.Proofs.YtbicefgjompnoaaDoor.Sx
/- What comes in: clauses and lines, out of the arguments. -/
namespace Go.Proofs.YtbicefgjompnoaaDoor.Sx
open Go.RowKit Go.Sort Go.ChangeShapes Go.WideShapes Go.ChangeAt Go.Deep

theorem own : ownKnob Tryd.prog.godebug = none := by kernel_rfl
theorem laidOut : laidOutB Tryd.prog = true := by kernel_rfl
theorem cells3 : Tryd.prog.cellsOf 3 = 1 := by kernel_rfl
theorem cells31 : Tryd.prog.cellsOf 23 = 1 := by kernel_rfl
theorem cells4 : Tryd.prog.cellsOf 4 = 1 := by kernel_rfl

/-! the bound -/
section
theorem one_le {H : Type} (d : DataW H) : 1 ≤ Rows.uptoBulk d := by
  cases d with
  | lit l => cases l <;> simp [Rows.uptoBulk]
  | nil => simp [Rows.uptoBulk]
  | ptr d => simp [Rows.uptoBulk]
  | slice elems spare => simp [Rows.uptoBulk]
  | agg parts => simp [Rows.uptoBulk]
  | iface t d => simp [Rows.uptoBulk]
  | map entries => simp [Rows.uptoBulk]
  | held h => simp [Rows.uptoBulk]
theorem part_le {H : Type} {d : DataW H} {l : List (DataW H)} (h : d ∈ l) : Rows.uptoBulk d ≤ Rows.uptoBulkAll l := by
  induction l with
  | nil => cases h
  | cons x r ih =>
    simp only [Rows.uptoBulkAll]
    cases List.mem_cons.1 h with
    | inl e => subst e; omega
    | inr e => have := ih e; omega
theorem length_le {H : Type} (l : List (DataW H)) : l.length ≤ Rows.uptoBulkAll l := by
  induction l with
  | nil => simp [Rows.uptoBulkAll]
  | cons x r ih => have := one_le x; simp only [Rows.uptoBulkAll, List.length_cons]; omega
theorem slice_le {H : Type} (elems spare : List (DataW H)) : elems.length + 1 ≤ Rows.uptoBulk (.slice elems spare) := by
  have h1 := length_le elems
  simp only [Rows.uptoBulk]
  omega
theorem elem_le {H : Type} {d : DataW H} {elems spare : List (DataW H)} (h : d ∈ elems) : Rows.uptoBulk d ≤ Rows.uptoBulk (.slice elems spare) := by
  have h1 := part_le h
  simp only [Rows.uptoBulk]
  omega
theorem agg_le {H : Type} {d : DataW H} {parts : List (DataW H)} (h : d ∈ parts) : Rows.uptoBulk d ≤ Rows.uptoBulk (.agg parts) := by
  have h1 := part_le h
  simp only [Rows.uptoBulk]
  omega
end

section
variable {H : Type} {enc : TypeId × Value → H} {w : World} {base : Nat} {held : Bool}
/-- numbers -/
theorem ints_of {A : Option Addr} {L C : Nat} {Z : List Int} (h1 : L ≤ C) (h2 : Z.length = C) (h3 : A = none → C = 0) (h4 : ∀ a', A = some a' → ∀ c, c < C → w.cell? (a'.add c) = some (.int .i64 (Z.getD c 0))) (hb : L ≤ 1000000000000) : IntsAt w w.heap.size (.slice A L C) (Z.take L) := by
  have hl : (Z.take L).length = L := by rw [List.length_take]; omega
  refine ⟨⟨A, C, by rw [hl], ?_⟩, by rw [hl]; exact hb⟩
  by_cases h0 : L = 0
  · left; rw [h0]; rfl
  · right
    cases A with
    | none => have := h3 rfl; omega
    | some a =>
      have hc := h4 a rfl
      refine ⟨a, rfl, World.block_lt_of_cell? w _ (hc 0 (by omega)), fun i x hx => ?_⟩
      have hi : i < L := by have := (List.getElem?_eq_some_iff.1 hx).1; omega
      rw [hc i (by omega)]
      rw [List.getElem?_take_of_lt hi] at hx
      rw [List.getD_eq_getElem?_getD, hx]; rfl

/-- clauses -/
theorem cls_of {a0 : Option Addr} {l0 c0 : Nat} {d : DataW H} {p : List MemPlace} (h : DataW.Trod enc Tryd.prog w base (fun _ => true) held 22 (.slice a0 l0 c0) d p) (hk : Rows.uptoBulk d ≤ 1048576) : ∃ C : List (List Int), ClsAt w w.heap.size (.slice a0 l0 c0) C ∧ C.length ≤ 1048576 ∧ (∀ x ∈ C, x.length ≤ 1048576) ∧ ∀ x ∈ C, ∀ l ∈ x, -9223372036854775808 ≤ l ∧ l ≤ 9223372036854775807 := by
  obtain ⟨fuel, hf⟩ := h
  rcases open_int_rows Tryd.underlying22 Tryd.underlying23 Tryd.underlying3 cells31 cells3 hf with ⟨hcs, _⟩ | ⟨a, len, cap, A, L, C, Z, hcs, _, hl, hm, hx, hall⟩
  · simp [Value.cells] at hcs
    obtain ⟨rfl, rfl, rfl⟩ := hcs
    exact ⟨[], ⟨⟨none, 0, rfl, .inl rfl⟩, by simp⟩, by simp, by simp, by simp⟩
  · simp [Value.cells] at hcs
    obtain ⟨rfl, rfl, rfl⟩ := hcs
    have hd : d = _ := congrArg Prod.fst hx
    dsimp only at hd
    have hlen : l0 ≤ 1048576 := by
      rw [hd] at hk
      have := slice_le (H := H) ((List.range l0).map fun r => intRow .i64 (A r) (L r) (Z r)) ((List.range (c0 - l0)).map fun j => intRow .i64 (A (l0 + j)) (L (l0 + j)) (Z (l0 + j)))
      rw [List.length_map, List.length_range] at this
      omega
    have hrow : ∀ r, r < l0 → L r ≤ 1048576 := fun r hr => by
      obtain ⟨_, q1, _, q2, _, q3, _⟩ := hall r (by omega)
      cases hA : A r with
      | none => have := q3 hA; omega
      | some a' =>
        rw [hd] at hk
        have h1 := elem_le (H := H) (d := intRow .i64 (A r) (L r) (Z r)) (elems := (List.range l0).map fun r => intRow .i64 (A r) (L r) (Z r)) (spare := (List.range (c0 - l0)).map fun j => intRow .i64 (A (l0 + j)) (L (l0 + j)) (Z (l0 + j))) (List.mem_map.2 ⟨r, List.mem_range.2 hr, rfl⟩)
        have h2 := slice_le (H := H) (lits .i64 ((Z r).take (L r))) (lits .i64 ((Z r).drop (L r)))
        have e : intRow (H := H) .i64 (A r) (L r) (Z r) = .slice (lits .i64 ((Z r).take (L r))) (lits .i64 ((Z r).drop (L r))) := by rw [hA]; rfl
        rw [e] at h1
        simp only [lits, List.length_map, List.length_take] at h1 h2
        omega
    refine ⟨(List.range l0).map fun r => (Z r).take (L r), ⟨⟨some a, c0, by simp, ?_⟩, by simp; omega⟩, by simpa using hlen, fun x hx' => ?_, fun x hx' l hl' => ?_⟩
    · by_cases h0 : l0 = 0
      · left; rw [h0]; rfl
      · right
        refine ⟨a, rfl, World.block_lt_of_cell? w _ (hall 0 (by omega)).1, fun i c hc => ?_⟩
        have hi : i < l0 := by have := (List.getElem?_eq_some_iff.1 hc).1; simpa using this
        have e : c = (Z i).take (L i) := by
          rw [List.getElem?_map, List.getElem?_range hi] at hc
          exact (Option.some.inj hc).symm
        obtain ⟨q0, q1, _, q2, _, q3, q4⟩ := hall i (by omega)
        refine ⟨_, q0, ?_⟩
        rw [e]
        exact ints_of q1 q2 q3 (fun a' ha => (q4 a' ha).2) (by have := hrow i hi; omega)
    · obtain ⟨r, hr, rfl⟩ := List.mem_map.1 hx'
      have := hrow r (List.mem_range.1 hr)
      rw [List.length_take]; omega
    · obtain ⟨r, hr, rfl⟩ := List.mem_map.1 hx'
      have hwf := (hall r (by have := List.mem_range.1 hr; omega)).2.2.2.2.1 l (List.mem_of_mem_take hl')
      simpa [Lit.wf, IntKind.min, IntKind.max, IntKind.signed, IntKind.bits] using hwf

end
end Go.Proofs.YtbicefgjompnoaaDoor.Sx
