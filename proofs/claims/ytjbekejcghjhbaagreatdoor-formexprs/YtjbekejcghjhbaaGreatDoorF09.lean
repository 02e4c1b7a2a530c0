/- The reader of expressions: faults, marks, levels. -/
import Derived.Test.YtjbekejcghjhbaaGreatDoorF08
import Derived.WalkLawsBesides
namespace Go.Proofs.YtjbekejcghjhbaaGreatDoor.Sx
open Go.RowKit Go.Sort

theorem Fr.setB {P : Nat → Prop} {a b : World} (h : Fr P a b) {p : Addr} (hp : a.heap.size ≤ p.block) (u : Value) : Fr P a (b.setCell p u) :=
  ⟨h.os, h.tape, h.output, by simpa using h.size, fun i hi hq => by rw [Below.heap_setCell b p u i (by omega)]; exact h.block i hi hq⟩
theorem RdF.setB {w : World} {br : Nat} {t : ByteArray} {i d : Nat} (h : RdF w br t i d) {p : Addr} (hp : br ≠ p.block) (u : Value) : RdF (w.setCell p u) br t i d := (Below.heap_setCell w p u br hp).trans h

/-- how a fault ends a call -/
def Flt (c p : Nat) : Ending := .panicked [{ v := .iface 196 (.agg #[.int .i64 (p : Int), .int .i64 (c : Int)]), recovered := false }]

set_option maxRecDepth 100000 in
set_option maxHeartbeats 1000000 in
theorem ffail_any (w : World) (br : Nat) (t : ByteArray) (i d c : Nat) (hr : RdF w br t i d) :
    Calls Tryz.prog 147 #[.pointer (some ⟨br, 0, none⟩), .int .i64 (c : Int)] w fun e w' => e = Flt c (atF t.data.toList i) ∧ w' = w := by
  unfold Flt
  have h1 := block_cell hr 1
  clear hr
  generalize atF t.data.toList i = a at h1 ⊢
  have mo := follows
  go_enter Tryz.func147, Tryz.ntmps147
  go_wp2_with fail
  exact ⟨rfl, rfl, rfl⟩

theorem RdB.setD {w : World} {br : Nat} {t : ByteArray} {a : Nat} {p : ByteArray} {c d : Nat} (h : RdB w br t a p c d) (d' : Nat) : RdB (w.setCell ⟨br, 4, none⟩ (.int .i64 (d' : Int))) br t a p c d' := by
  have := set_block h 4 (.int .i64 (d' : Int))
  simpa [RdB] using this

set_option maxRecDepth 100000 in
set_option maxHeartbeats 1000000 in
theorem fleave_any (w : World) (br : Nat) (t : ByteArray) (i d : Nat) (hr : RdF w br t i (d + 1)) (hd : d ≤ 24) :
    Calls Tryz.prog 318 #[.pointer (some ⟨br, 0, none⟩)] w fun e w' => e = .returned (.tuple #[]) ∧ RdF w' br t i d ∧ Fr (· ≠ br) w w' := by
  have HR : Hid (RdF w br t i (d + 1)) := hr
  have h1 := block_cell hr 4
  have f1 := frozen_block hr 4
  clear hr
  have mo := follows
  go_enter Tryz.func318, Tryz.ntmps318
  go_wp2_with fail
  go_end0
  exact ⟨rfl, RdB.setD HR.out d, (Fr.refl _ w).set (by simp) _⟩

set_option maxRecDepth 100000 in
set_option maxHeartbeats 1000000 in
theorem fenter_ok (w : World) (br : Nat) (t : ByteArray) (i d : Nat) (hr : RdF w br t i d) (ht : t.size ≤ 4000) (hd : d < 24) :
    Calls Tryz.prog 314 #[.pointer (some ⟨br, 0, none⟩)] w fun e w' => e = .returned (.tuple #[]) ∧ RdF w' br t (i + 1) (d + 1) ∧ Fr (· ≠ br) w w' := by
  have R1 : Hid (RdF _ br t i (d + 1)) := RdB.setD hr (d + 1)
  have F1 : Hid (Fr (· ≠ br) w (w.setCell ⟨br, 4, none⟩ (.int .i64 ((d + 1 : Nat) : Int)))) := (Fr.refl _ w).set (by simp) _
  have HA : Hid (∀ W : World, _) := fun W h => fadvance_st W br t i (d + 1) h ht
  have h1 := block_cell hr 4
  have f1 := frozen_block hr 4
  have hne : ((d : Int) == 24) = false := by simp; omega
  have hc : ((d + 1 : Nat) : Int) = (d : Int) + 1 := by omega
  rw [hc] at R1 F1
  clear hr hc
  have mo := follows
  go_enter Tryz.func314, Tryz.ntmps314
  go_wp2_with (go_at_call 146; refine (HA.out _ R1.out).mono ?_; rintro e w' ⟨rfl, h, hf⟩; have R2 : Hid (RdF w' br t (i + 1) (d + 1)) := h; have F2 : Hid (Fr (· ≠ br) w w') := F1.out.trans hf; clear h hf)
  go_end0
  exact ⟨rfl, R2.out, F2.out⟩
set_option maxRecDepth 100000 in
set_option maxHeartbeats 1000000 in
theorem fenter_full (w : World) (br : Nat) (t : ByteArray) (i : Nat) (hr : RdF w br t i 24) :
    Calls Tryz.prog 314 #[.pointer (some ⟨br, 0, none⟩)] w fun e w' => e = Flt 6 (atF t.data.toList i) ∧ w' = w := by
  have HF : Hid (Calls _ _ _ _ _) := ffail_any w br t i 24 6 hr
  have h1 := block_cell hr 4
  clear hr
  have mo := follows
  go_enter Tryz.func314, Tryz.ntmps314
  go_wp2_with (go_at_call 147; refine HF.out.mono ?_; rintro e w' ⟨rfl, rfl⟩; unfold Flt)
  exact ⟨rfl, rfl, rfl⟩

set_option maxRecDepth 100000 in
set_option maxHeartbeats 1000000 in
theorem fskip_any (w : World) (br : Nat) (t m : ByteArray) (i d : Nat) (hr : RdF w br t i d) (ht : t.size ≤ 4000) (b : Bool) (hb : (txF t.data.toList i == m.data.toList) = b) :
    Calls Tryz.prog 339 #[.pointer (some ⟨br, 0, none⟩), .string m] w fun e w' => e = .returned (.bool b) ∧ RdF w' br t (if b then i + 1 else i) d ∧ Fr (· ≠ br) w w' := by
  have HA : Hid (Calls _ _ _ _ _) := fadvance_st w br t i d hr ht
  have HR : Hid (RdF w br t i d) := hr
  have h1 := block_cell hr 2
  clear hr
  have hp : ((pcF t i).toList == m.toList) = b := by rw [ByteArray.toList_eq, ByteArray.toList_eq, pcF_list]; exact hb
  clear hb
  have mo := follows
  generalize pcF t i = p at hp h1
  cases b with
  | true =>
    go_enter Tryz.func339, Tryz.ntmps339
    go_wp2_with (go_at_call 146; refine HA.out.mono ?_; rintro e w' ⟨rfl, h, hf⟩; have R2 : Hid (RdF w' br t (i + 1) d) := h; have F2 : Hid (Fr (· ≠ br) w w') := hf; clear h hf)
    go_ret
    exact ⟨rfl, R2.out, F2.out⟩
  | false =>
    go_enter Tryz.func339, Tryz.ntmps339
    go_wp2_with fail
    go_ret
    exact ⟨rfl, HR.out, Fr.refl _ _⟩

/-- a mark that must stand here -/
def NeedPost (w : World) (br : Nat) (t : ByteArray) (i d : Nat) (b : Bool) (e : Ending) (w' : World) : Prop :=
  Fr (· ≠ br) w w' ∧ ((b = true ∧ e = .returned (.tuple #[]) ∧ RdF w' br t (i + 1) d) ∨ (b = false ∧ e = Flt 1 (atF t.data.toList i)))
set_option maxRecDepth 100000 in
set_option maxHeartbeats 1000000 in
theorem fneed_any (w : World) (br : Nat) (t m : ByteArray) (i d : Nat) (hr : RdF w br t i d) (ht : t.size ≤ 4000) (b : Bool) (hb : (txF t.data.toList i == m.data.toList) = b) :
    Calls Tryz.prog 334 #[.pointer (some ⟨br, 0, none⟩), .string m] w (NeedPost w br t i d b) := by
  have HS : Hid (Calls _ _ _ _ _) := fskip_any w br t m i d hr ht b hb
  have HF : Hid (∀ W : World, _) := fun W h => ffail_any W br t i d 1 h
  clear hr hb
  have mo := follows
  cases b with
  | true =>
    go_enter Tryz.func334, Tryz.ntmps334
    go_wp2_with (go_at_call 339; refine HS.out.mono ?_; rintro e w' ⟨rfl, h, hf⟩; have R2 : Hid (RdF w' br t (i + 1) d) := h; have F2 : Hid (Fr (· ≠ br) w w') := hf; clear h hf)
    go_end0
    exact ⟨F2.out, .inl ⟨rfl, rfl, R2.out⟩⟩
  | false =>
    go_enter Tryz.func334, Tryz.ntmps334
    go_wp2_with (first | (go_at_call 339; refine HS.out.mono ?_; rintro e w' ⟨rfl, h, hf⟩; have R2 : Hid (RdF w' br t i d) := h; have F2 : Hid (Fr (· ≠ br) w w') := hf; clear h hf) | (go_at_call 147; refine (HF.out _ R2.out).mono ?_; rintro e w' ⟨rfl, rfl⟩; unfold Flt))
    exact ⟨rfl, F2.out, .inr ⟨rfl, rfl⟩⟩

set_option maxRecDepth 100000 in
set_option maxHeartbeats 1000000 in
theorem ftake_any (w : World) (br : Nat) (t : ByteArray) (i d : Nat) (hr : RdF w br t i d) (ht : t.size ≤ 4000) :
    Calls Tryz.prog 294 #[.pointer (some ⟨br, 0, none⟩)] w fun e w' => e = .returned (.string (pcF t i)) ∧ RdF w' br t (i + 1) d ∧ Fr (· ≠ br) w w' := by
  have HA : Hid (Calls _ _ _ _ _) := fadvance_st w br t i d hr ht
  have h1 := block_cell hr 2
  clear hr
  have mo := follows
  go_enter Tryz.func294, Tryz.ntmps294
  go_wp2_with (go_at_call 146; refine HA.out.mono ?_; rintro e w' ⟨rfl, h, hf⟩; have R2 : Hid (RdF w' br t (i + 1) d) := h; have F2 : Hid (Fr (· ≠ br) w w') := hf; clear h hf)
  go_ret
  exact ⟨rfl, R2.out, F2.out⟩

/-- a name, or a fault -/
def NamePost (w : World) (br : Nat) (t : ByteArray) (i d : Nat) (r : Except (Nat × Nat) (List UInt8 × Nat)) (e : Ending) (w' : World) : Prop :=
  Fr (· ≠ br) w w' ∧ match r with
    | .ok (_, j) => e = .returned (.agg #[.string (pcF t i), .int .i64 (atF t.data.toList i)]) ∧ RdF w' br t j d
    | .error (c, p) => e = Flt c p
set_option maxRecDepth 100000 in
set_option maxHeartbeats 1000000 in
theorem fname_any (w : World) (br : Nat) (t : ByteArray) (i d : Nat) (hr : RdF w br t i d) (ht : t.size ≤ 4000) (r : Except (Nat × Nat) (List UInt8 × Nat)) (h : nameX (tkF t.data.toList) i = some r) :
    Calls Tryz.prog 335 #[.pointer (some ⟨br, 0, none⟩)] w (NamePost w br t i d r) := by
  have HA : Hid (∀ o : Obj, RdF (w.alloc o) br t i d) := fun o => RdF.of hr (P := fun _ => True) ((Fr.refl _ w).alloc o) trivial
  have HT : Hid (∀ W : World, _) := fun W h => ftake_any W br t i d h ht
  have HF : Hid (∀ (W : World) (c : Nat), _) := fun W c => ffail_any W br t i d c
  have HV : Hid (∀ W : World, _) := fun W => reserved_any (pcF t i) W
  have hsz := pcF_size t i
  have c1 := fun o => block_cell (HA.out o) 1
  have c2 := fun o => block_cell (HA.out o) 2
  have c3 := fun o => block_cell (HA.out o) 3
  have hbl := block_lt hr
  clear hr
  have mo := follows
  have hcl : (tkF t.data.toList i).cl = clF t.data.toList i := rfl
  have htx : (tkF t.data.toList i).tx = txF t.data.toList i := rfl
  have hat : (tkF t.data.toList i).at' = atF t.data.toList i := rfl
  unfold nameX at h
  rw [hcl, htx, hat, txF_length] at h
  rw [pcF_list] at HV
  generalize lenF t.data.toList i = L at h hsz
  generalize isReserved (txF t.data.toList i) = B at h HV
  generalize clF t.data.toList i = cl at h c3
  clear hcl htx hat ht
  have hL : ((pcF t i).size : Int) = (L : Int) := by rw [hsz]
  clear hsz
  by_cases q1 : cl = 1
  · subst q1
    cases B with
    | true =>
      have HE : Hid (r = .error (1, atF t.data.toList i)) := by
        rw [if_pos (.inr rfl)] at h
        simp only [errX, Option.some.injEq] at h
        exact h.symm
      clear h
      go_enter Tryz.func335, Tryz.ntmps335
      go_wp2_with (first | (go_at_call 169; refine (HV.out _).mono ?_; rintro e w' ⟨rfl, rfl⟩) | (go_at_call 147; refine (HF.out _ 1 (HA.out _)).mono ?_; rintro e w' ⟨rfl, rfl⟩; unfold Flt))
      rw [HE.out]
      exact ⟨rfl, (Fr.refl _ w).alloc _, rfl⟩
    | false =>
      by_cases q2 : 16 < L
      · have HE : Hid (r = .error (5, atF t.data.toList i)) := by
          rw [if_neg (by simp), if_pos q2] at h
          simp only [errX, Option.some.injEq] at h
          exact h.symm
        clear h
        have q2' : (16 : Int) < (L : Int) := by omega
        clear q2
        go_enter Tryz.func335, Tryz.ntmps335
        go_wp2_with (first | (go_at_call 169; refine (HV.out _).mono ?_; rintro e w' ⟨rfl, rfl⟩) | (go_at_call 147; refine (HF.out _ 5 (HA.out _)).mono ?_; rintro e w' ⟨rfl, rfl⟩; unfold Flt))
        rw [HE.out]
        exact ⟨rfl, (Fr.refl _ w).alloc _, rfl⟩
      · have HE : Hid (∃ n, r = .ok (n, i + 1)) := by
          rw [if_neg (by simp), if_neg q2] at h
          simp only [okX, Option.some.injEq] at h
          exact ⟨_, h.symm⟩
        clear h
        have q2' : ¬ (16 : Int) < (L : Int) := by omega
        clear q2
        go_enter Tryz.func335, Tryz.ntmps335
        go_wp2_with (first | (go_at_call 169; refine (HV.out _).mono ?_; rintro e w' ⟨rfl, rfl⟩) | (go_at_call 294; refine (HT.out _ (HA.out _)).mono ?_; rintro e w' ⟨rfl, hr, hf⟩; have R2 : Hid (RdF w' br t (i + 1) d) := hr; have F2 : Hid (Fr (· ≠ br) (w.alloc _) w') := hf; have BX : Hid (w'.heap[w.heap.size]? = some _) := (hf.block _ (by simp) (by omega)).trans (heap_new rfl); have y0 := block_cell BX.out 0; have y1 := block_cell BX.out 1; obtain ⟨z0, z1, -⟩ := frozens3 BX.out; clear hr hf))
        have e0 := block_cell (set_block (set_block BX.out 0 (.string (pcF t i))) 1 (.int .i64 (atF t.data.toList i : Int))) 0
        have e1 := block_cell (set_block (set_block BX.out 0 (.string (pcF t i))) 1 (.int .i64 (atF t.data.toList i : Int))) 1
        simp at e0 e1
        refine bodyPost_ret (v := .agg #[.string (pcF t i), .int .i64 (atF t.data.toList i : Int)]) (by simp [results, Tryz.results335, go_sem, e0, e1]) rfl ?_
        obtain ⟨n, rfl⟩ := HE.out
        exact ⟨(((((Fr.refl _ w).alloc _).trans F2.out).setB (by simp) _).setB (by simp) _), rfl, (R2.out.setB (by simp; omega) _).setB (by simp; omega) _⟩
  · have HE : Hid (r = .error (1, atF t.data.toList i)) := by
      rw [if_pos (.inl q1)] at h
      simp only [errX, Option.some.injEq] at h
      exact h.symm
    have q1' : ((cl : Int) != 1) = true := by rw [bne_iff_ne]; omega
    clear h q1
    go_enter Tryz.func335, Tryz.ntmps335
    go_wp2_with (first | (go_at_call 169; refine (HV.out _).mono ?_; rintro e w' ⟨rfl, rfl⟩) | (go_at_call 147; refine (HF.out _ 1 (HA.out _)).mono ?_; rintro e w' ⟨rfl, rfl⟩; unfold Flt))
    rw [HE.out]
    exact ⟨rfl, (Fr.refl _ w).alloc _, rfl⟩
end Go.Proofs.YtjbekejcghjhbaaGreatDoor.Sx

namespace Go.Proofs.YtjbekejcghjhbaaGreatDoor.Sx
open Go.RowKit Go.Sort

theorem sw_yes {β : Type} {f : List UInt8 → β} {l v : List UInt8} {r k : β} (H : Hid (f l = r)) (h : (l == v) = true) (hv : f v = k) : r = k := by
  have := eq_of_beq h
  subst this
  rw [← H.out]; exact hv

set_option maxRecDepth 100000 in
set_option maxHeartbeats 4000000 in
theorem fopening_walk (s : ByteArray) (w : World) (r : Nat) (H : Hid (openF s.toList = r)) : Calls Tryz.prog 149 #[.string s] w fun e w' => e = .returned (.int .i64 r) ∧ w' = w := by
  go_enter Tryz.func149, Tryz.ntmps149
  go_wp2_with fail
  all_goals first
    | (exact bool_absurd ‹(s.toList == _) = true› ‹(s.toList == _) = false›)
    | (
      have q := sw_yes (k := 0) H ‹(s.toList == _) = true› (by decide)
      subst q
      go_ret
      exact ⟨rfl, rfl⟩)
    | (
      have q := sw_yes (k := 6) H ‹(s.toList == _) = true› (by decide)
      subst q
      go_ret
      exact ⟨rfl, rfl⟩)
    | (
      have q := sw_yes (k := 12) H ‹(s.toList == _) = true› (by decide)
      subst q
      go_ret
      exact ⟨rfl, rfl⟩)
    | (
      have q : r = 14 := by
        rw [← H.out]
        simp only [openF, opens0, opens6, opens12, List.contains_cons, List.contains_nil, Bool.or_false, *, Bool.false_eq_true, if_false]
      subst q
      go_ret
      exact ⟨rfl, rfl⟩)
theorem fopening_any (s : ByteArray) (w : World) : Calls Tryz.prog 149 #[.string s] w fun e w' => e = .returned (.int .i64 (openF s.data.toList)) ∧ w' = w := by
  refine fopening_walk s w _ ?_
  rw [ByteArray.toList_eq]; exact rfl

def times4 : List (List UInt8) := [[97, 108, 119, 97, 121, 115], [101, 118, 101, 110, 116, 117, 97, 108, 108, 121], [117, 110, 116, 105, 108], [108, 101, 97, 100, 115, 116, 111]]
def sortF (l : List UInt8) : Nat := if times4.contains l then 11 else 12
set_option maxRecDepth 100000 in
set_option maxHeartbeats 4000000 in
theorem foperator_walk (s : ByteArray) (w : World) (r : Nat) (H : Hid (sortF s.toList = r)) : Calls Tryz.prog 293 #[.string s] w fun e w' => e = .returned (.int .i64 r) ∧ w' = w := by
  go_enter Tryz.func293, Tryz.ntmps293
  go_wp2_with fail
  all_goals first
    | (exact bool_absurd ‹(s.toList == _) = true› ‹(s.toList == _) = false›)
    | (
      have q := sw_yes (k := 11) H ‹(s.toList == _) = true› (by decide)
      subst q
      go_ret
      exact ⟨rfl, rfl⟩)
    | (
      have q : r = 12 := by
        rw [← H.out]
        simp only [sortF, times4, List.contains_cons, List.contains_nil, Bool.or_false, *, Bool.false_eq_true, if_false]
      subst q
      go_ret
      exact ⟨rfl, rfl⟩)
theorem foperator_any (s : ByteArray) (w : World) : Calls Tryz.prog 293 #[.string s] w fun e w' => e = .returned (.int .i64 (sortF s.data.toList)) ∧ w' = w := by
  refine foperator_walk s w _ ?_
  rw [ByteArray.toList_eq]; exact rfl

/-- how tightly a sign holds, and its parts -/
def gripV (n : Nat) : Value := if n = 0 then .agg #[.int .i64 (-1), .int .i64 0, .int .i64 0] else .agg #[.int .i64 (n : Int), .int .i64 (leftF n : Int), .int .i64 (rightF n : Int)]
set_option maxRecDepth 100000 in
theorem fapart_any (n : Int) (w : World) (hn : 0 ≤ n ∧ n ≤ 14) : Calls Tryz.prog 249 #[.int .i64 n] w fun e w' => e = .returned (.agg #[.int .i64 n, .int .i64 (n + 1), .int .i64 (n + 1)]) ∧ Grew w w' := by
  have mo := follows
  go_enter Tryz.func249, Tryz.ntmps249
  go_wp2_with fail
  refine bodyPost_ret (v := .agg #[.int .i64 n, .int .i64 (n + 1), .int .i64 (n + 1)]) (by simp [results, Tryz.results249, go_sem]) rfl ⟨rfl, (Grew.refl w).alloc _⟩
set_option maxRecDepth 100000 in
theorem ffromLeft_any (n : Int) (w : World) (hn : 0 ≤ n ∧ n ≤ 14) : Calls Tryz.prog 250 #[.int .i64 n] w fun e w' => e = .returned (.agg #[.int .i64 n, .int .i64 n, .int .i64 (n + 1)]) ∧ Grew w w' := by
  have mo := follows
  go_enter Tryz.func250, Tryz.ntmps250
  go_wp2_with fail
  refine bodyPost_ret (v := .agg #[.int .i64 n, .int .i64 n, .int .i64 (n + 1)]) (by simp [results, Tryz.results250, go_sem]) rfl ⟨rfl, (Grew.refl w).alloc _⟩
set_option maxRecDepth 100000 in
theorem ffromRight_any (n : Int) (w : World) (hn : 0 ≤ n ∧ n ≤ 14) : Calls Tryz.prog 251 #[.int .i64 n] w fun e w' => e = .returned (.agg #[.int .i64 n, .int .i64 (n + 1), .int .i64 n]) ∧ Grew w w' := by
  have mo := follows
  go_enter Tryz.func251, Tryz.ntmps251
  go_wp2_with fail
  refine bodyPost_ret (v := .agg #[.int .i64 n, .int .i64 (n + 1), .int .i64 n]) (by simp [results, Tryz.results251, go_sem]) rfl ⟨rfl, (Grew.refl w).alloc _⟩

theorem box3_end {w w' : World} {o : Obj} {vs : Array Value} {T : TypeId} (ho : o = .cells vs T (0, 0)) (hg : Grew (w.alloc o) w') : w'.heap[w.heap.size]? = some (.cells vs T (0, 0)) := by
  subst ho
  exact ((Fr.grew (P := fun _ => True) hg).block _ (by simp) trivial).trans (heap_new rfl)

end Go.Proofs.YtjbekejcghjhbaaGreatDoor.Sx
