/- Clauses that have the same literals. -/
import Derived.Deep.AppendLies
import Derived.Test.YtbicefgjompnoaaA01
namespace Go.Proofs.Ytbicefgjompnoaa.Sx
open Go.RowKit Go.Sort

def wthn (a b : List Int) : Bool := a.all (fun x => b.any (fun y => x == y))
def alk (a b : List Int) : Bool := wthn a b && wthn b a
theorem wthn_iff {a b : List Int} : wthn a b = true ↔ ∀ x ∈ a, x ∈ b := by
  unfold wthn
  rw [List.all_eq_true]
  constructor
  · intro h x hx
    obtain ⟨y, hy, e⟩ := List.any_eq_true.1 (h x hx)
    rw [eq_of_beq e]
    exact hy
  · intro h x hx
    exact List.any_eq_true.2 ⟨x, h x hx, by simp⟩
theorem alk_iff {a b : List Int} : alk a b = true ↔ ∀ x, x ∈ a ↔ x ∈ b := by
  unfold alk
  rw [Bool.and_eq_true, wthn_iff, wthn_iff]
  exact ⟨fun h x => ⟨h.1 x, h.2 x⟩, fun h => ⟨fun x hx => (h x).1 hx, fun x hx => (h x).2 hx⟩⟩

theorem IntsAt.cell {w w' : World} {lo : Nat} {o : Option Addr} {k cap : Nat} {l : List Int} (h : IntsAt w lo (.slice o k cap) l) (f : Fr (fun _ => True) w w') {i : Nat} (hi : i < l.length) : ∃ p, o = some p ∧ w'.cell? (p.add i) = some (.int .i64 l[i]) ∧ w'.drew.cell? (p.add i) = some (.int .i64 l[i]) := by
  have h1 := h.of (f.mono fun _ _ => trivial)
  have h2 := h1.of (Fr.refl _ w').drew
  obtain ⟨a, c, e, q⟩ := h1.ex
  obtain ⟨a2, c2, e2, q2⟩ := h2.ex
  cases e
  cases e2
  rcases q with q | ⟨p, rfl, _, q⟩
  · rw [q] at hi; simp at hi
  rcases q2 with q2 | ⟨p2, e3, _, q2⟩
  · rw [q2] at hi; simp at hi
  cases e3
  exact ⟨p, rfl, q i _ (List.getElem?_eq_getElem hi), q2 i _ (List.getElem?_eq_getElem hi)⟩

set_option maxRecDepth 100000 in
set_option maxHeartbeats 1000000 in
theorem within_any (w : World) (la lb : Nat) (va vb : Value) (a b : List Int) (ha : IntsAt w la va a) (hb : IntsAt w lb vb b) : Calls Try.prog 64 #[va, vb] w fun e w' => e = .returned (.bool (wthn a b)) ∧ Fr (fun _ => True) w w' := by
  have mo := follows
  obtain ⟨pa, cc, rfl, _⟩ := ha.ex
  obtain ⟨pb, cd, rfl, _⟩ := hb.ex
  have hbig := ha.big
  have hbib := hb.big
  have HA : Hid (IntsAt w la (.slice pa a.length cc) a) := ha
  have HB : Hid (IntsAt w lb (.slice pb b.length cd) b) := hb
  obtain ⟨R, hR⟩ : ∃ R, wthn a b = R := ⟨_, rfl⟩
  rw [hR]
  clear ha hb
  have HR0 : Hid (wthn a b = R) := hR
  clear hR
  go_enter Try.func64, Try.ntmps64
  go_wp2_with fail
  go_loopg [5] (a.length) (fun k s5 wr => ∃ j : Nat, s5 = .int .i64 (j : Int) ∧ j + k = a.length ∧ Hid (Fr (fun _ => True) w wr) ∧ Hid (wthn (a.drop j) b = R))
  case atStart => exact ⟨0, rfl, by omega, Fr.refl _ _, HR0⟩
  case round =>
    clear HR0
    obtain ⟨j, rfl, hjk, F, HU⟩ := hrel
    by_cases hj : j < a.length
    · obtain ⟨k, rfl⟩ : ∃ k, gk = k + 1 := ⟨gk - 1, by omega⟩
      obtain ⟨x, hx⟩ : ∃ x, a[j] = x := ⟨_, rfl⟩
      have hd : a.drop j = x :: a.drop (j + 1) := by rw [List.drop_eq_getElem_cons hj, hx]
      have j0 : (0 : Int) ≤ (j : Int) := by omega
      have j1 : (j : Int) < (a.length : Int) := by omega
      have hu := HU.out
      rw [hd] at hu
      have hu2 : (b.any (fun y => x == y) && wthn (a.drop (j + 1)) b) = R := by rw [← hu]; rfl
      obtain ⟨T, hT⟩ : ∃ T, b.any (fun y => x == y) = T := ⟨_, rfl⟩
      rw [hT] at hu2
      have HQ : Hid ((T && wthn (a.drop (j + 1)) b) = R) := hu2
      have HT : Hid (b.any (fun y => x == y) = T) := hT
      clear hu HU hT hu2
      go_wp2_with fail
      go_loopg [6, 7] (b.length) (fun k s6 s7 wr3 => ∃ (i : Nat) (th : Bool), s7 = .int .i64 (i : Int) ∧ s6 = .bool th ∧ i + k = b.length ∧ Hid (Fr (fun _ => True) w wr3) ∧ Hid ((th || (b.drop i).any (fun y => x == y)) = T))
      case atStart => exact ⟨0, false, rfl, rfl, by omega, F, HT⟩
      case round =>
        clear HT F
        obtain ⟨i, th, rfl, rfl, hik, F, HV⟩ := hrel
        by_cases hi : i < b.length
        · obtain ⟨k2, rfl⟩ : ∃ k2, gk = k2 + 1 := ⟨gk - 1, by omega⟩
          obtain ⟨y, hy⟩ : ∃ y, b[i] = y := ⟨_, rfl⟩
          obtain ⟨p, rfl, cj, cjd⟩ := HA.out.cell F.out hj
          obtain ⟨p2, rfl, ci, cid⟩ := HB.out.cell F.out hi
          rw [hx] at cj cjd
          rw [hy] at ci cid
          have hd2 : b.drop i = y :: b.drop (i + 1) := by rw [List.drop_eq_getElem_cons hi, hy]
          have i0 : (0 : Int) ≤ (i : Int) := by omega
          have i1 : (i : Int) < (b.length : Int) := by omega
          have hv := HV.out
          rw [hd2, List.any_cons, ← Bool.or_assoc] at hv
          clear HV
          have FD : Hid (Fr (fun _ => True) w wr.drew) := F.out.drew
          clear F
          cases th with
          | true =>
            have HW : Hid ((true || (b.drop (i + 1)).any (fun y => x == y)) = T) := by
              rw [← hv]; rfl
            clear hv
            go_wp2_with fail
            go_big_region_o
            go_wp2_with fail
            go_roundg k2
            case measure => omega
            case rel => exact ⟨i + 1, true, by simp, rfl, by omega, FD, HW⟩
          | false =>
            obtain ⟨q, hq⟩ : ∃ q, (x == y) = q := ⟨_, rfl⟩
            rw [hq, Bool.false_or] at hv
            have HW : Hid ((q || (b.drop (i + 1)).any (fun y => x == y)) = T) := hv
            clear hv
            go_wp2_with fail
            go_big_region_o
            go_wp2_with fail
            go_roundg k2
            case measure => omega
            case rel => exact ⟨i + 1, q, by simp, rfl, by omega, FD, HW⟩
        · have i1 : ¬ (i : Int) < (b.length : Int) := by omega
          obtain rfl : i = b.length := by omega
          have hv := HV.out
          rw [List.drop_length, List.any_nil, Bool.or_false] at hv
          subst hv
          clear HV
          cases th with
          | true =>
            have HW : Hid (wthn (a.drop (j + 1)) b = R) := by have := HQ.out; rwa [Bool.true_and] at this
            clear HQ
            go_wp2_with fail
            go_roundg k
            case measure => omega
            case rel => exact ⟨j + 1, by simp, by omega, F, HW⟩
          | false =>
            have HW : Hid (false = R) := by have := HQ.out; rwa [Bool.false_and] at this
            clear HQ
            go_wp2_with fail
            go_ret
            exact ⟨by rw [← HW.out]; rfl, F.out⟩
    · have j1 : ¬ (j : Int) < (a.length : Int) := by omega
      obtain rfl : j = a.length := by omega
      have hu := HU.out
      rw [List.drop_length] at hu
      have HQ : Hid (true = R) := hu
      clear hu HU
      go_wp2_with fail
      go_ret
      exact ⟨by rw [← HQ.out]; rfl, F.out⟩

set_option maxRecDepth 100000 in
set_option maxHeartbeats 1000000 in
theorem alike_any (w : World) (la lb : Nat) (va vb : Value) (a b : List Int) (ha : IntsAt w la va a) (hb : IntsAt w lb vb b) : Calls Try.prog 46 #[va, vb] w fun e w' => e = .returned (.bool (alk a b)) ∧ Fr (fun _ => True) w w' := by
  have mo := follows
  have HX : Hid (Calls _ _ _ _ _) := within_any w la lb va vb a b ha hb
  have HA : Hid (IntsAt w la va a) := ha
  have HB : Hid (IntsAt w lb vb b) := hb
  unfold alk
  obtain ⟨x, hx⟩ : ∃ x, wthn a b = x := ⟨_, rfl⟩
  obtain ⟨y, hy⟩ : ∃ y, wthn b a = y := ⟨_, rfl⟩
  rw [hx] at HX ⊢
  rw [hy]
  have Hy : Hid (wthn b a = y) := hy
  clear ha hb hx hy
  go_enter Try.func46, Try.ntmps46
  go_wp2_with fail
  refine HX.out.mono ?_
  rintro e w1 ⟨rfl, f1⟩
  have F1 : Hid (Fr (fun _ => True) w w1) := f1
  have HY : Hid (Calls _ _ _ _ _) := within_any w1 lb la vb va b a (HB.out.of (f1.mono fun _ _ => trivial)) (HA.out.of (f1.mono fun _ _ => trivial))
  rw [Hy.out] at HY
  clear f1 HX
  go_wp2_with fail
  refine HY.out.mono ?_
  rintro e w2 ⟨rfl, f2⟩
  have F2 : Hid (Fr (fun _ => True) w w2) := F1.out.trans f2
  clear f2 HY F1
  cases x with
  | true =>
    go_wp2_with fail
    go_ret
    exact ⟨rfl, F2.out⟩
  | false =>
    go_wp2_with fail
    go_ret
    exact ⟨rfl, F2.out⟩

end Go.Proofs.Ytbicefgjompnoaa.Sx
/- A list of clauses that a call owns; one that goes. -/
namespace Go.Proofs.Ytbicefgjompnoaa.Sx
open Go.RowKit Go.Sort

theorem info31 : ∃ i0, Try.prog.info? 31 = some i0 ∧ i0.zero = some (.slice none 0 0) ∧ i0.size = 1 ∧ i0.bytes = 24 := by
  have h : ((Try.prog.info? 31).map fun i => (i.zero, i.size, i.bytes)) = some (some (.slice none 0 0), 1, 24) := by kernel_rfl
  cases hq : Try.prog.info? 31 with
  | none => rw [hq] at h; simp at h
  | some j => rw [hq] at h; simp at h; exact ⟨j, rfl, h.1, h.2.1, h.2.2⟩

/-- clauses one by one -/
structure ClsV (w : World) (lo : Nat) (vs : List Value) (C : List (List Int)) : Prop where
  len : vs.length = C.length
  at_ : ∀ (i : Nat) c, C[i]? = some c → ∃ u, vs[i]? = some u ∧ IntsAt w lo u c
theorem ClsV.of {w w' : World} {lo : Nat} {vs : List Value} {C : List (List Int)} (h : ClsV w lo vs C) (f : Fr (· < lo) w w') : ClsV w' lo vs C :=
  ⟨h.len, fun i c hc => by obtain ⟨u, hu, q⟩ := h.at_ i c hc; exact ⟨u, hu, q.of f⟩⟩
theorem ClsV.nil (w : World) (lo : Nat) : ClsV w lo [] [] := ⟨rfl, fun i c h => by simp at h⟩
theorem ClsV.app {w : World} {lo : Nat} {vs us : List Value} {C D : List (List Int)} (h : ClsV w lo vs C) (k : ClsV w lo us D) : ClsV w lo (vs ++ us) (C ++ D) := by
  refine ⟨by simp [h.len, k.len], fun i c hc => ?_⟩
  by_cases hi : i < C.length
  · rw [List.getElem?_append_left hi] at hc
    rw [List.getElem?_append_left (by rw [h.len]; exact hi)]
    exact h.at_ i c hc
  · rw [List.getElem?_append_right (by omega)] at hc
    rw [List.getElem?_append_right (by rw [h.len]; omega), h.len]
    exact k.at_ _ c hc
theorem ClsV.take {w : World} {lo : Nat} {vs : List Value} {C : List (List Int)} (h : ClsV w lo vs C) (k : Nat) : ClsV w lo (vs.take k) (C.take k) := by
  refine ⟨by simp [h.len], fun i c hc => ?_⟩
  rw [List.getElem?_take] at hc ⊢
  split at hc
  · rename_i hq; rw [if_pos hq]; exact h.at_ i c hc
  · simp at hc
theorem ClsV.drop {w : World} {lo : Nat} {vs : List Value} {C : List (List Int)} (h : ClsV w lo vs C) (k : Nat) : ClsV w lo (vs.drop k) (C.drop k) := by
  refine ⟨by simp [h.len], fun i c hc => ?_⟩
  rw [List.getElem?_drop] at hc ⊢
  exact h.at_ _ c hc
theorem ClsV.one {w : World} {lo : Nat} {vs : List Value} {C : List (List Int)} (h : ClsV w lo vs C) : ∀ u ∈ vs, u.oneCell' = true := by
  intro u hu
  obtain ⟨i, hi, e⟩ := List.getElem_of_mem hu
  have hi2 : i < C.length := by rw [← h.len]; exact hi
  obtain ⟨u', h1, h2⟩ := h.at_ i _ (List.getElem?_eq_getElem hi2)
  rw [List.getElem?_eq_getElem hi, e] at h1
  cases h1
  obtain ⟨a, c, rfl, _⟩ := h2.ex
  rfl

/-- a list of clauses in a row of the call's own; the clauses lie below lo -/
structure OwnC (w : World) (base lo : Nat) (v : Value) (C : List (List Int)) : Prop where
  ex : ∃ vs, w.ownsRow base 31 1 v C.length vs ∧ ClsV w lo vs C
  lob : lo ≤ base
  big : C.length ≤ 100000000000

theorem OwnC.form {w : World} {base lo : Nat} {v : Value} {C : List (List Int)} (h : OwnC w base lo v C) : ∃ a cap, v = .slice a C.length cap := by
  obtain ⟨vs, ho, _⟩ := h.ex
  rcases ho.2 with ⟨e, hn⟩ | ⟨g', cap', cur, e, _⟩
  · exact ⟨none, 0, by rw [e, hn]⟩
  · exact ⟨_, _, e⟩
theorem Fr.owns {w w' : World} {base e size n : Nat} {v : Value} {xs : List Value} (f : Fr (fun _ => True) w w') (h : w.ownsRow base e size v n xs) : w'.ownsRow base e size v n xs := by
  refine ⟨h.1, ?_⟩
  rcases h.2 with q | ⟨g, cap, cur, e, hb, hg, q⟩
  · exact .inl q
  · exact .inr ⟨g, cap, cur, e, hb, (f.block g (block_lt hg) trivial).trans hg, q⟩
theorem OwnC.of {w w' : World} {base lo : Nat} {v : Value} {C : List (List Int)} (h : OwnC w base lo v C) (f : Fr (fun _ => True) w w') : OwnC w' base lo v C := by
  obtain ⟨vs, ho, hc⟩ := h.ex
  exact ⟨⟨vs, f.owns ho, hc.of (f.mono fun _ _ => trivial)⟩, h.lob, h.big⟩
theorem owns_cells {w : World} {base : Nat} {g n cap : Nat} {vs : List Value} (h : w.ownsRow base 31 1 (.slice (some ⟨g, 0, none⟩) n cap) n vs) {i : Nat} {u : Value} (hu : vs[i]? = some u) : w.cell? ⟨g, i, none⟩ = some u := by
  rcases h.2 with ⟨e, _⟩ | ⟨g', cap', cur, e, hb, hg, _, _, hcs, ht⟩
  · cases e
  · cases e
    rw [block_cell hg]
    rw [← ht, List.getElem?_take] at hu
    split at hu
    · simpa using hu
    · simp at hu
theorem OwnC.cls {w : World} {base lo : Nat} {v : Value} {C : List (List Int)} (h : OwnC w base lo v C) (hb : base ≤ w.heap.size) : ClsAt w w.heap.size v C := by
  obtain ⟨vs, ho, hc⟩ := h.ex
  have hlob := h.lob
  have hbig := h.big
  rcases ho.2 with ⟨e, hn⟩ | ⟨g, cap, cur, rfl, hbg, hg, _⟩
  · exact ⟨⟨none, 0, by rw [e, hn], .inl (List.eq_nil_of_length_eq_zero hn)⟩, by omega⟩
  · refine ⟨⟨_, _, rfl, .inr ⟨_, rfl, block_lt hg, fun i c hi => ?_⟩⟩, by omega⟩
    obtain ⟨u, hu, q⟩ := hc.at_ i c hi
    refine ⟨u, ?_, ?_⟩
    · have hadd : (⟨g, 0, none⟩ : Addr).add i = ⟨g, i, none⟩ := by unfold Addr.add; split <;> simp_all
      rw [hadd]
      exact owns_cells ho hu
    · obtain ⟨a, c2, e, q2⟩ := q.ex
      refine ⟨⟨a, c2, e, ?_⟩, q.big⟩
      rcases q2 with q2 | ⟨p, e1, e2, e3⟩
      · exact .inl q2
      · exact .inr ⟨p, e1, by omega, e3⟩

/-- a clause that goes: the first that has the same literals -/
def goneP (c : List Int) : List (List Int) → List (List Int)
  | [] => []
  | x :: l => if alk x c then l else x :: goneP c l

end Go.Proofs.Ytbicefgjompnoaa.Sx
/- gone: a clause that goes out of a list of the call's own. -/
namespace Go.Proofs.Ytbicefgjompnoaa.Sx
open Go.RowKit Go.Sort

theorem goneP_len (c : List Int) (l : List (List Int)) : (goneP c l).length ≤ l.length := by
  induction l with
  | nil => exact Nat.le_refl _
  | cons x l ih =>
    unfold goneP
    split
    · simp
    · simp only [List.length_cons]; omega

def GonePost (w : World) (base lo : Nat) (C : List (List Int)) (e : Ending) (w' : World) : Prop := ∃ v, e = .returned v ∧ OwnC w' base lo v C ∧ Fr (fun _ => True) w w'

set_option maxRecDepth 100000 in
set_option maxHeartbeats 1000000 in
theorem gone_any (w : World) (base lo : Nat) (v cv : Value) (C : List (List Int)) (c : List Int) (hbase : base ≤ w.heap.size) (h : OwnC w base lo v C) (hc : IntsAt w lo cv c) :
    Calls Try.prog 22 #[v, cv] w (GonePost w base lo (goneP c C)) := by
  have mo := follows
  obtain ⟨i0, hi0, hz0, hz1, hz2⟩ := info31
  obtain ⟨a, cap, rfl⟩ := h.form
  have hbig := h.big
  have hlob := h.lob
  obtain ⟨R, hR⟩ : ∃ R, goneP c C = R := ⟨_, rfl⟩
  rw [hR]
  have HO : Hid (OwnC w base lo (.slice a C.length cap) C) := h
  have HC : Hid (IntsAt w lo cv c) := hc
  have HR0 : Hid (C.take 0 ++ goneP c (C.drop 0) = R) := hR
  clear h hc hR
  go_enter Try.func22, Try.ntmps22
  go_wp2_with fail
  go_loopg [5] (C.length) (fun k s5 wr => ∃ j : Nat, s5 = .int .i64 (j : Int) ∧ j + k = C.length ∧ Hid (Fr (fun _ => True) w wr) ∧ Hid (C.take j ++ goneP c (C.drop j) = R))
  case atStart => exact ⟨0, rfl, by omega, Fr.refl _ _, HR0⟩
  case round =>
    clear HR0
    obtain ⟨j, rfl, hjk, F, HU⟩ := hrel
    by_cases hj : j < C.length
    · obtain ⟨k, rfl⟩ : ∃ k, gk = k + 1 := ⟨gk - 1, by omega⟩
      obtain ⟨x, hx⟩ : ∃ x, C[j] = x := ⟨_, rfl⟩
      have hd : C.drop j = x :: C.drop (j + 1) := by rw [List.drop_eq_getElem_cons hj, hx]
      have j0 : (0 : Int) ≤ (j : Int) := by omega
      have j1 : (j : Int) < (C.length : Int) := by omega
      obtain ⟨vs, ho, hcv⟩ := (HO.out.of F.out).ex
      obtain ⟨g, cap', e, hbg, _⟩ := ho.form (by omega)
      cases e
      have hcap : C.length ≤ cap := by
        rcases ho.2 with ⟨e, _⟩ | ⟨g', cap', cur, e, _, _, q, _⟩
        · cases e
        · cases e; exact q
      have hcI : (j : Int) ≤ (cap : Int) := by omega
      have hcJ : (C.length : Int) ≤ (cap : Int) := by omega
      obtain ⟨u, hu, hui⟩ := hcv.at_ j x (by rw [List.getElem?_eq_getElem hj, hx])
      have cj := owns_cells ho hu
      have HA : Hid (Calls _ _ _ _ _) := alike_any wr lo lo u cv x c hui (HC.out.of (F.out.mono fun _ _ => trivial))
      have hU := HU.out
      rw [hd] at hU
      unfold goneP at hU
      have HCV : Hid (ClsV wr lo vs C) := hcv
      have HOW : Hid (wr.ownsRow base 31 1 (.slice (some ⟨g, 0, none⟩) C.length cap) C.length vs) := ho
      clear HU hui ho hcv
      cases hb : alk x c with
      | true =>
        rw [hb] at HA
        rw [hb, if_pos rfl] at hU
        have HQ : Hid (C.take j ++ C.drop (j + 1) = R) := hU
        clear hU
        go_wp2_with fail
        refine HA.out.mono ?_
        rintro e w1 ⟨rfl, f1⟩
        have F1 : Hid (Fr (fun _ => True) w w1) := F.out.trans f1
        have V1 : Hid (ClsV w1 lo vs C) := HCV.out.of (f1.mono fun _ _ => trivial)
        have O1 : Hid (w1.ownsRow base 31 1 (.slice (some ⟨g, 0, none⟩) C.length cap) C.length vs) := f1.owns HOW.out
        clear f1 HA HCV HOW F cj
        go_wp2_with (at_builtin; refine wpList_append_own_at _ rfl _ _ 22 rfl base 31 i0 _ 1 24 Try.underlying22 hi0 hz0 hz1 hz2 rfl (by decide) (.slice none 0 0) 0 [] rfl (World.ownsRow_nil _ _ _ _) ⟨g, 0, none⟩ j cap (vs.take j) rfl ?q1 ?q2 ?q3 ?q4 ?q5 ?q6 ?_)
        case q1 => simp [V1.out.len]; omega
        case q2 =>
          intro i y hy
          have hadd : (⟨g, 0, none⟩ : Addr).add i = ⟨g, i, none⟩ := by unfold Addr.add; split <;> simp_all
          rw [hadd]
          rw [List.getElem?_take] at hy
          split at hy
          · exact owns_cells O1.out hy
          · simp at hy
        case q3 => exact fun y hy => V1.out.one y (List.mem_of_mem_take hy)
        case q4 => unfold maxLen; omega
        case q5 => omega
        case q6 => have := F1.out.size; omega
        intro v2 w2 ho2 hg2 _ hat2
        have f2 : Fr (fun _ => True) w1 w2 := ⟨hg2.os, hg2.tape, hg2.output, hg2.size, fun k hk _ => hg2.block k hk (by simp [Value.ownBlock])⟩
        obtain ⟨a2, c2, hv2⟩ : ∃ a2 c2, v2 = .slice a2 j c2 := by
          rcases ho2.2 with ⟨e, hn⟩ | ⟨g', cap', cur, e, _⟩
          · exact ⟨none, 0, by rw [e]; congr 1; omega⟩
          · exact ⟨_, _, e⟩
        subst hv2
        have ho3 : w2.ownsRow base 31 1 (.slice a2 j c2) j (vs.take j) := by simpa using ho2
        have A2 : Hid (∀ k, k < w1.heap.size → some k ≠ (Value.slice a2 j c2).ownBlock) := fun k hk e => by
          rcases hat2 with q | q
          · rw [q] at e; simp [Value.ownBlock] at e
          · rw [q] at e; cases e; omega
        have F2 : Hid (Fr (fun _ => True) w w2) := F1.out.trans f2
        have V2 : Hid (ClsV w2 lo vs C) := V1.out.of (f2.mono fun _ _ => trivial)
        have O2 : Hid (w2.ownsRow base 31 1 (.slice (some ⟨g, 0, none⟩) C.length cap) C.length vs) := f2.owns O1.out
        have P2 : Hid (w2.ownsRow base 31 1 (.slice a2 j c2) j (vs.take j)) := ho3
        have hs1 := F1.out.size
        have hs2 := f2.size
        clear V1 O1 hg2 ho2 ho3 f2 hat2
        by_cases hce : cap = j + 1
        · subst hce
          go_wp2_with (at_builtin; refine wpList_append_own_at _ rfl _ _ 22 rfl base 31 i0 _ 1 24 Try.underlying22 hi0 hz0 hz1 hz2 rfl (by decide) (.slice a2 j c2) j _ rfl P2.out ⟨g, 0, none⟩ _ _ (vs.drop (j + 1)) rfl ?q1 ?q2 ?q3 ?q4 ?q5 ?q6 ?_)
          case q1 => simp only [List.length_drop, V2.out.len]; omega
          case q2 =>
            intro i y hy
            have hadd : (⟨g, 0, none⟩ : Addr).add i = ⟨g, j + 1 + i, none⟩ := by
              first
              | (unfold Addr.add; split <;> simp_all; done)
              | (exfalso; rw [List.drop_eq_nil_of_le (by rw [V2.out.len]; omega)] at hy; simp at hy)
            rw [hadd]
            rw [List.getElem?_drop] at hy
            exact owns_cells O2.out hy
          case q3 => exact fun y hy => V2.out.one y (List.mem_of_mem_drop hy)
          case q4 => unfold maxLen; omega
          case q5 => omega
          case q6 => omega
          intro v3 w3 ho3 hg3 _ _
          have f3 : Fr (fun _ => True) w w3 := ⟨hg3.os.trans F2.out.os, hg3.tape.trans F2.out.tape, hg3.output.trans F2.out.output, Nat.le_trans F2.out.size hg3.size, fun k hk _ => (hg3.block k (by omega) (A2.out k (by omega))).trans (F2.out.block k hk trivial)⟩
          have fl : Fr (· < lo) w2 w3 := ⟨hg3.os, hg3.tape, hg3.output, hg3.size, fun k hk hq => hg3.block k hk (A2.out k (by omega))⟩
          have hlen : R.length = j + (C.length - (j + 1)) := by rw [← HQ.out]; simp; omega
          have hO3 : OwnC w3 base lo v3 R := by
            refine ⟨⟨vs.take j ++ vs.drop (j + 1), ?_, ?_⟩, hlob, by omega⟩
            · have ez : j + (C.length - (j + 1)) = R.length := hlen.symm
              have := ho3
              first
              | (rw [ez] at this; exact this)
              | (have e2 : j + 0 = R.length := by omega
                 rw [e2] at this; exact this)
              | (have e2 : j = R.length := by omega
                 rw [← e2]; simpa using this)
              | (have e2 : C.length - (j + 1) = 0 := by omega
                 rw [e2] at this
                 rw [show R.length = j + 0 by omega]; exact this)
            · rw [← HQ.out]
              exact ((V2.out.of fl).take j).app ((V2.out.of fl).drop (j + 1))
          have HO3 : Hid (OwnC w3 base lo v3 R) := hO3
          have F3 : Hid (Fr (fun _ => True) w w3) := f3
          clear F1 F2 V2 O2 P2 A2 ho3 hg3 f3 fl hO3
          go_wp2_with fail
          go_ret
          exact ⟨_, rfl, HO3.out, F3.out⟩
        · go_wp2_with (at_builtin; refine wpList_append_own_at _ rfl _ _ 22 rfl base 31 i0 _ 1 24 Try.underlying22 hi0 hz0 hz1 hz2 rfl (by decide) (.slice a2 j c2) j _ rfl P2.out ⟨g, j + 1, none⟩ _ _ (vs.drop (j + 1)) rfl ?q1 ?q2 ?q3 ?q4 ?q5 ?q6 ?_)
          case q1 => simp only [List.length_drop, V2.out.len]; omega
          case q2 =>
            intro i y hy
            have hadd : (⟨g, j + 1, none⟩ : Addr).add i = ⟨g, j + 1 + i, none⟩ := by
              first
              | (unfold Addr.add; split <;> simp_all; done)
              | (exfalso; rw [List.drop_eq_nil_of_le (by rw [V2.out.len]; omega)] at hy; simp at hy)
            rw [hadd]
            rw [List.getElem?_drop] at hy
            exact owns_cells O2.out hy
          case q3 => exact fun y hy => V2.out.one y (List.mem_of_mem_drop hy)
          case q4 => unfold maxLen; omega
          case q5 => omega
          case q6 => omega
          intro v3 w3 ho3 hg3 _ _
          have f3 : Fr (fun _ => True) w w3 := ⟨hg3.os.trans F2.out.os, hg3.tape.trans F2.out.tape, hg3.output.trans F2.out.output, Nat.le_trans F2.out.size hg3.size, fun k hk _ => (hg3.block k (by omega) (A2.out k (by omega))).trans (F2.out.block k hk trivial)⟩
          have fl : Fr (· < lo) w2 w3 := ⟨hg3.os, hg3.tape, hg3.output, hg3.size, fun k hk hq => hg3.block k hk (A2.out k (by omega))⟩
          have hlen : R.length = j + (C.length - (j + 1)) := by rw [← HQ.out]; simp; omega
          have hO3 : OwnC w3 base lo v3 R := by
            refine ⟨⟨vs.take j ++ vs.drop (j + 1), ?_, ?_⟩, hlob, by omega⟩
            · have ez : j + (C.length - (j + 1)) = R.length := hlen.symm
              have := ho3
              first
              | (rw [ez] at this; exact this)
              | (have e2 : j + 0 = R.length := by omega
                 rw [e2] at this; exact this)
              | (have e2 : j = R.length := by omega
                 rw [← e2]; simpa using this)
              | (have e2 : C.length - (j + 1) = 0 := by omega
                 rw [e2] at this
                 rw [show R.length = j + 0 by omega]; exact this)
            · rw [← HQ.out]
              exact ((V2.out.of fl).take j).app ((V2.out.of fl).drop (j + 1))
          have HO3 : Hid (OwnC w3 base lo v3 R) := hO3
          have F3 : Hid (Fr (fun _ => True) w w3) := f3
          clear F1 F2 V2 O2 P2 A2 ho3 hg3 f3 fl hO3
          go_wp2_with fail
          go_ret
          exact ⟨_, rfl, HO3.out, F3.out⟩
      | false =>
        rw [hb] at HA
        rw [hb, if_neg (by simp)] at hU
        have HQ : Hid (C.take (j + 1) ++ goneP c (C.drop (j + 1)) = R) := by
          show _ = _
          rw [← hU, List.take_succ_eq_append_getElem hj, hx]
          simp
        clear hU
        go_wp2_with fail
        refine HA.out.mono ?_
        rintro e w1 ⟨rfl, f1⟩
        have F1 : Hid (Fr (fun _ => True) w w1) := F.out.trans f1
        clear f1 HA HCV HOW F cj
        go_wp2_with fail
        go_roundg k
        case measure => omega
        case rel => exact ⟨j + 1, by simp, by omega, F1, HQ⟩
    · have j1 : ¬ (j : Int) < (C.length : Int) := by omega
      obtain rfl : j = C.length := by omega
      have hu := HU.out
      rw [List.drop_length, List.take_length] at hu
      unfold goneP at hu
      have HQ : Hid (C = R) := by show _ = _; rw [← hu]; simp
      clear hu HU
      go_wp2_with fail
      go_ret
      exact ⟨_, rfl, by rw [← HQ.out]; exact HO.out.of F.out, F.out⟩

end Go.Proofs.Ytbicefgjompnoaa.Sx
/- Checked, by the reference: plain, and what it holds. -/
namespace Go.Proofs.Ytbicefgjompnoaa.Sx
open Go.RowKit Go.Sort

/-- the lines of a proof, one by one -/
def stepsP (n : Nat) : List (Bool × List Int) → List (List Int) → Bool → Bool
  | [], _, s => s
  | (true, c) :: P, L, s => stepsP n P (goneP c L) s
  | (false, c) :: P, L, s => if followP n L (c.map (- ·)) = some none then stepsP n P (L ++ [c]) (s || decide (c.length = 0)) else false

/-- lines in memory, below lo -/
structure LinesAt (w : World) (lo : Nat) (v : Value) (P : List (Bool × List Int)) : Prop where
  ex : ∃ a cap, v = .slice a P.length cap ∧ (P = [] ∨ ∃ b o : Nat, a = some ⟨b, o, none⟩ ∧ b < lo ∧ ∀ i g c, P[i]? = some (g, c) → w.cell? ⟨b, o + i * 2, none⟩ = some (.bool g) ∧ ∃ u, w.cell? ⟨b, o + i * 2 + 1, none⟩ = some u ∧ IntsAt w lo u c)
  big : P.length ≤ 10000000000
theorem LinesAt.of {w w' : World} {lo : Nat} {v : Value} {P : List (Bool × List Int)} (h : LinesAt w lo v P) (f : Fr (· < lo) w w') : LinesAt w' lo v P := by
  obtain ⟨a, cap, e, q⟩ := h.ex
  refine ⟨⟨a, cap, e, ?_⟩, h.big⟩
  rcases q with q | ⟨b, o, e1, e2, e3⟩
  · exact .inl q
  · refine .inr ⟨b, o, e1, e2, fun i g c hc => ?_⟩
    obtain ⟨h1, u, h2, h3⟩ := e3 i g c hc
    refine ⟨?_, u, ?_, h3.of f⟩
    · exact (World.cell?_of_block (w := w) (f.block _ (World.block_lt_of_cell? w _ h1) e2)).trans h1
    · exact (World.cell?_of_block (w := w) (f.block _ (World.block_lt_of_cell? w _ h2) e2)).trans h2
theorem LinesAt.cell {w : World} {lo : Nat} {o : Option Addr} {k cap : Nat} {P : List (Bool × List Int)} (h : LinesAt w lo (.slice o k cap) P) {i : Nat} (hi : i < P.length) : ∃ b off u, o = some ⟨b, off, none⟩ ∧ w.cell? ⟨b, off + i * 2, none⟩ = some (.bool P[i].1) ∧ w.cell? ⟨b, off + i * 2 + 1, none⟩ = some u ∧ IntsAt w lo u P[i].2 := by
  obtain ⟨a, c, e, q⟩ := h.ex
  cases e
  rcases q with q | ⟨b, off, rfl, _, q⟩
  · rw [q] at hi; simp at hi
  · obtain ⟨h1, u, h2, h3⟩ := q i P[i].1 P[i].2 (List.getElem?_eq_getElem hi)
    exact ⟨b, off, u, rfl, h1, h2, h3⟩

/-- numbers in a row of the call's own -/
def OwnI (w : World) (base : Nat) (v : Value) (l : List Int) : Prop := w.ownsRow base 3 1 v l.length (l.map fun x => Value.int .i64 x)
theorem OwnI.form {w : World} {base : Nat} {v : Value} {l : List Int} (h : OwnI w base v l) : ∃ a cap, v = .slice a l.length cap := by
  rcases h.2 with ⟨e, hn⟩ | ⟨g', cap', cur, e, _⟩
  · exact ⟨none, 0, by rw [e, hn]⟩
  · exact ⟨_, _, e⟩
theorem OwnI.ints {w : World} {base : Nat} {v : Value} {l : List Int} (h : OwnI w base v l) (hb : l.length ≤ 1000000000000) : IntsAt w w.heap.size v l := by
  rcases h.2 with ⟨e, hn⟩ | ⟨g, cap, cur, rfl, hbg, hg, _, _, _, ht⟩
  · exact ⟨⟨none, 0, by rw [e, hn], .inl (List.eq_nil_of_length_eq_zero hn)⟩, hb⟩
  · refine ⟨⟨_, _, rfl, .inr ⟨_, rfl, block_lt hg, fun i x hx => ?_⟩⟩, hb⟩
    have hadd : (⟨g, 0, none⟩ : Addr).add i = ⟨g, i, none⟩ := by unfold Addr.add; split <;> simp_all
    rw [hadd, block_cell hg]
    have h2 : (l.map fun x => Value.int .i64 x)[i]? = some (.int .i64 x) := by simp [hx]
    rw [← ht, List.getElem?_take] at h2
    split at h2
    · simpa using h2
    · simp at h2
theorem ClsAt.vals {w : World} {lo : Nat} {a : Option Addr} {k cap : Nat} {C : List (List Int)} (h : ClsAt w lo (.slice a k cap) C) (hne : C ≠ []) : ∃ p vs, a = some p ∧ ClsV w lo vs C ∧ ∀ (i : Nat) u, vs[i]? = some u → w.cell? (p.add i) = some u := by
  obtain ⟨a', c', e, q⟩ := h.ex
  cases e
  rcases q with q | ⟨p, rfl, _, q⟩
  · exact absurd q hne
  have : ∀ i : Nat, ∃ u, ∀ c, C[i]? = some c → w.cell? (p.add i) = some u ∧ IntsAt w lo u c := fun i => by
    cases hi : C[i]? with
    | none => exact ⟨.slice none 0 0, fun c hc => by cases hc⟩
    | some c =>
      obtain ⟨u, h1, h2⟩ := q i c hi
      exact ⟨u, fun c' hc => by cases hc; exact ⟨h1, h2⟩⟩
  refine ⟨p, (List.range C.length).map fun i => (this i).choose, rfl, ⟨by simp, fun i c hc => ?_⟩, fun i u hu => ?_⟩
  · have hi : i < C.length := (List.getElem?_eq_some_iff.1 hc).1
    exact ⟨(this i).choose, by simp [hi], ((this i).choose_spec c hc).2⟩
  · have hi : i < C.length := by have := (List.getElem?_eq_some_iff.1 hu).1; simpa using this
    have hu' : (this i).choose = u := by simpa [hi] using hu
    rw [← hu']
    exact ((this i).choose_spec C[i] (List.getElem?_eq_getElem hi)).1

/-- what is true of a proof, whatever else: faults aside -/
def checkedP (n : Int) (C : List (List Int)) (P : List (Bool × List Int)) : Bool := if faultR n C = 0 then (if P.all (fun l => l.2.all (isLit n.toNat)) then stepsP n.toNat P C false else false) else false

end Go.Proofs.Ytbicefgjompnoaa.Sx
