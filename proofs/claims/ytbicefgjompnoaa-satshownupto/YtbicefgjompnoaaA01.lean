/- The reference: how many literals of a clause are open. -/
import Derived.Test.YtbicefgjompnoaaA00
namespace Go.Proofs.Ytbicefgjompnoaa.Sx
open Go.RowKit Go.Sort

set_option maxRecDepth 100000 in
set_option maxHeartbeats 1000000 in
theorem unit_any (w : World) (n b cap lo : Nat) (val : List Int) (cv : Value) (c : List Int) (hn : n ≤ 16777216) (hc : ∀ l ∈ c, LitN n l) (hv : val.length = n + 1) (h3 : ∀ l, vAt val l = 1 ∨ vAt val l = 0 ∨ vAt val l = -1) (h : ValB w b val) (hC : IntsAt w lo cv c) :
    Calls Try.prog 48 #[.slice (some ⟨b, 0, none⟩) (n + 1) cap, cv] w fun e w' => e = .returned (.tuple #[.int .i64 (unitP val c 0).1, .int .i64 ((unitP val c 0).2 : Int)]) ∧ Fr (fun _ => True) w w' := by
  have mo := follows
  obtain ⟨U, hU⟩ : ∃ U, unitP val c 0 = U := ⟨_, rfl⟩
  rw [hU]
  obtain ⟨a, cc, rfl, hrow⟩ := hC.ex
  have hbig := hC.big
  have HV : Hid (ValB w b val) := h
  have HR : Hid (c = [] ∨ ∃ p : Addr, a = some p ∧ p.block < lo ∧ ∀ i x, c[i]? = some x → w.cell? (p.add i) = some (.int .i64 x)) := hrow
  clear h hC hrow
  go_enter Try.func48, Try.ntmps48
  go_wp2_with fail
  go_loopg [6, 7] (c.length) (fun k s6 s7 wr => ∃ (j : Nat) (o : Int), s7 = .int .i64 (j : Int) ∧ s6 = .int .i64 o ∧ j + k = c.length ∧ wr = w ∧ Hid (unitP val (c.drop j) o = U))
  case atStart => exact ⟨0, 0, rfl, rfl, by omega, rfl, hU⟩
  case round =>
    obtain ⟨j, o, rfl, rfl, hjk, rfl, HU⟩ := hrel
    by_cases hj : j < c.length
    · obtain ⟨k, rfl⟩ : ∃ k, gk = k + 1 := ⟨gk - 1, by omega⟩
      obtain ⟨l, hl⟩ : ∃ l, c[j] = l := ⟨_, rfl⟩
      have hmem : l ∈ c := hl ▸ List.getElem_mem hj
      have hL := hc l hmem
      have hL' := hL
      unfold LitN at hL'
      obtain ⟨p, rfl, _, hp⟩ : ∃ p : Addr, a = some p ∧ p.block < lo ∧ ∀ i x, c[i]? = some x → wr.cell? (p.add i) = some (.int .i64 x) := by
        rcases HR.out with q | q
        · rw [q] at hj; simp at hj
        · exact q
      have cj := hp j l (by rw [List.getElem?_eq_getElem hj, hl])
      have hi : l.natAbs < val.length := by omega
      have cv := HV.out.cell (List.getElem?_eq_getElem hi)
      obtain ⟨x, hx⟩ : ∃ x, val[l.natAbs] = x := ⟨_, rfl⟩
      rw [hx] at cv
      have hxv : vAt val l = if l < 0 then -x else x := by unfold vAt; rw [List.getD_eq_getElem?_getD, List.getElem?_eq_getElem hi, hx]; rfl
      have hx3 := h3 l
      have hd : c.drop j = l :: c.drop (j + 1) := by rw [List.drop_eq_getElem_cons hj, hl]
      have HS : Hid (Calls _ _ _ _ _) := size_any wr l (by omega) (by omega)
      have j0 : (0 : Int) ≤ (j : Int) := by omega
      have j1 : (j : Int) < (c.length : Int) := by omega
      have i1 : (l.natAbs : Int) < ((n + 1 : Nat) : Int) := by omega
      have i2 : (l.natAbs : Int) < (n : Int) + 1 := by omega
      have i0 : (0 : Int) ≤ (l.natAbs : Int) := by omega
      have hu := HU.out
      rw [hd] at hu
      unfold unitP at hu
      by_cases q1 : 0 < vAt val l
      · rw [if_pos q1] at hu
        have HQ : Hid ((0, 2) = U) := hu
        clear hu HU
        by_cases hneg : l < 0
        · rw [if_pos hneg] at hxv
          have q2 : 0 < -x := by omega
          obtain rfl : x = -1 := by omega
          go_wp2_with (go_at_call 49; refine HS.out.mono ?_; rintro e w' ⟨rfl, hw⟩; replace hw := hw.symm; subst hw)
          exact bodyPost_ret (v := .tuple #[.int .i64 0, .int .i64 2]) (by simp [results, Try.results48, go_sem]) rfl ⟨by rw [← HQ.out]; rfl, Fr.refl _ _⟩
        · rw [if_neg hneg] at hxv
          obtain rfl : x = 1 := by omega
          go_wp2_with (go_at_call 49; refine HS.out.mono ?_; rintro e w' ⟨rfl, hw⟩; replace hw := hw.symm; subst hw)
          exact bodyPost_ret (v := .tuple #[.int .i64 0, .int .i64 2]) (by simp [results, Try.results48, go_sem]) rfl ⟨by rw [← HQ.out]; rfl, Fr.refl _ _⟩
      rw [if_neg q1] at hu
      by_cases q2 : vAt val l = 0
      · have hx0 : x = 0 := by rw [hxv] at q2; split at q2 <;> omega
        subst hx0
        rw [if_pos q2] at hu
        by_cases q3 : o ≠ 0 ∧ l ≠ o
        · rw [if_pos ⟨q2, q3⟩] at hu
          have HQ : Hid ((0, 2) = U) := hu
          have o1 : (o != 0) = true := by simpa using q3.1
          have o2 : (l != o) = true := by simpa using q3.2
          clear hu HU
          by_cases hneg : l < 0
          · go_wp2_with (go_at_call 49; refine HS.out.mono ?_; rintro e w' ⟨rfl, hw⟩; replace hw := hw.symm; subst hw)
            exact bodyPost_ret (v := .tuple #[.int .i64 0, .int .i64 2]) (by simp [results, Try.results48, go_sem]) rfl ⟨by rw [← HQ.out]; rfl, Fr.refl _ _⟩
          · go_wp2_with (go_at_call 49; refine HS.out.mono ?_; rintro e w' ⟨rfl, hw⟩; replace hw := hw.symm; subst hw)
            exact bodyPost_ret (v := .tuple #[.int .i64 0, .int .i64 2]) (by simp [results, Try.results48, go_sem]) rfl ⟨by rw [← HQ.out]; rfl, Fr.refl _ _⟩
        · rw [if_neg (fun q => q3 q.2)] at hu
          have HQ : Hid (unitP val (c.drop (j + 1)) l = U) := hu
          clear hu HU
          by_cases o1 : o = 0
          · subst o1
            by_cases hneg : l < 0
            · go_wp2_with (go_at_call 49; refine HS.out.mono ?_; rintro e w' ⟨rfl, hw⟩; replace hw := hw.symm; subst hw)
              go_roundg k
              case measure => omega
              case rel => exact ⟨j + 1, l, by simp, rfl, by omega, rfl, HQ⟩
            · go_wp2_with (go_at_call 49; refine HS.out.mono ?_; rintro e w' ⟨rfl, hw⟩; replace hw := hw.symm; subst hw)
              go_roundg k
              case measure => omega
              case rel => exact ⟨j + 1, l, by simp, rfl, by omega, rfl, HQ⟩
          · have o2 : (o != 0) = true := by simpa using o1
            obtain rfl : l = o := by rcases Classical.em (l = o) with e | e; exact e; exact absurd ⟨o1, e⟩ q3
            by_cases hneg : l < 0
            · go_wp2_with (go_at_call 49; refine HS.out.mono ?_; rintro e w' ⟨rfl, hw⟩; replace hw := hw.symm; subst hw)
              go_roundg k
              case measure => omega
              case rel => exact ⟨j + 1, l, by simp, rfl, by omega, rfl, HQ⟩
            · go_wp2_with (go_at_call 49; refine HS.out.mono ?_; rintro e w' ⟨rfl, hw⟩; replace hw := hw.symm; subst hw)
              go_roundg k
              case measure => omega
              case rel => exact ⟨j + 1, l, by simp, rfl, by omega, rfl, HQ⟩
      · rw [if_neg (fun q => q2 q.1), if_neg q2] at hu
        have HQ : Hid (unitP val (c.drop (j + 1)) o = U) := hu
        clear hu HU
        by_cases hneg : l < 0
        · rw [if_pos hneg] at hxv
          obtain rfl : x = 1 := by omega
          go_wp2_with (go_at_call 49; refine HS.out.mono ?_; rintro e w' ⟨rfl, hw⟩; replace hw := hw.symm; subst hw)
          go_roundg k
          case measure => omega
          case rel => exact ⟨j + 1, o, by simp, rfl, by omega, rfl, HQ⟩
        · rw [if_neg hneg] at hxv
          obtain rfl : x = -1 := by omega
          go_wp2_with (go_at_call 49; refine HS.out.mono ?_; rintro e w' ⟨rfl, hw⟩; replace hw := hw.symm; subst hw)
          go_roundg k
          case measure => omega
          case rel => exact ⟨j + 1, o, by simp, rfl, by omega, rfl, HQ⟩
    · have j1 : ¬ (j : Int) < (c.length : Int) := by omega
      obtain rfl : j = c.length := by omega
      have hu := HU.out
      rw [List.drop_length] at hu
      unfold unitP at hu
      by_cases o1 : o = 0
      · subst o1
        rw [if_pos rfl] at hu
        have HQ : Hid ((0, 0) = U) := hu
        clear hu HU
        go_wp2_with fail
        exact bodyPost_ret (v := .tuple #[.int .i64 0, .int .i64 0]) (by simp [results, Try.results48, go_sem]) rfl ⟨by rw [← HQ.out]; rfl, Fr.refl _ _⟩
      · rw [if_neg o1] at hu
        have HQ : Hid ((o, 1) = U) := hu
        have o2 : (o == 0) = false := by simpa using o1
        clear hu HU
        go_wp2_with fail
        exact bodyPost_ret (v := .tuple #[.int .i64 o, .int .i64 1]) (by simp [results, Try.results48, go_sem]) rfl ⟨by rw [← HQ.out]; rfl, Fr.refl _ _⟩

end Go.Proofs.Ytbicefgjompnoaa.Sx
/- The reference: what follows. -/
namespace Go.Proofs.Ytbicefgjompnoaa.Sx
open Go.RowKit Go.Sort

theorem info3 : ∃ i0, Try.prog.info? 3 = some i0 ∧ i0.zero = some (.int .i64 0) ∧ i0.size = 1 ∧ i0.bytes = 8 := by
  have h : ((Try.prog.info? 3).map fun i => (i.zero, i.size, i.bytes)) = some (some (.int .i64 0), 1, 8) := by kernel_rfl
  cases hq : Try.prog.info? 3 with
  | none => rw [hq] at h; simp at h
  | some j => rw [hq] at h; simp at h; exact ⟨j, rfl, h.1, h.2.1, h.2.2⟩
theorem made_ints (m : Nat) : madeCells (Value.int .i64 0).cells (m * 1) = Array.replicate m (Value.int .i64 0) := by
  apply Array.ext
  · simp [madeCells]
  · intro i h1 h2
    have e : i % 1 = 0 := Nat.mod_one i
    simp [madeCells, Value.cells, e]
theorem ValB.new (w : World) (m : Nat) : ValB (w.alloc (.cells (Array.replicate m (Value.int .i64 0)) 3)) w.heap.size (List.replicate m 0) := by
  unfold ValB
  rw [heap_new rfl]
  simp

theorem ValB.of {w w' : World} {b : Nat} {val : List Int} (h : ValB w b val) {P : Nat → Prop} (f : Fr P w w') (hp : P b) : ValB w' b val := (f.block b (block_lt h) hp).trans h
/-- a table of n variables -/
structure T3 (n : Nat) (val : List Int) : Prop where
  len : val.length = n + 1
  three : ∀ l, vAt val l = 1 ∨ vAt val l = 0 ∨ vAt val l = -1
theorem T3.set {n : Nat} {val : List Int} (h : T3 n val) {l : Int} (hl : LitN n l) : T3 n (setV val l) := by
  have e := vAt_set_same hl h.len
  refine ⟨by simp [setV, h.len], fun l' => ?_⟩
  by_cases q : l'.natAbs = l.natAbs
  · rcases natAbs_cases q with rfl | rfl
    · exact .inl e
    · exact .inr (.inr (by rw [vAt_neg hl.1, e]))
  · rw [vAt_set_other q]; exact h.three l'

def FolPost (w : World) (n : Nat) (r : Option (List Int)) (e : Ending) (w' : World) : Prop :=
  Fr (fun _ => True) w w' ∧ match r with
    | none => e = .returned (.tuple #[.slice none 0 0, .bool false])
    | some v => ∃ vb cap, e = .returned (.tuple #[.slice (some ⟨vb, 0, none⟩) (n + 1) cap, .bool true]) ∧ w.heap.size ≤ vb ∧ ValB w' vb v

set_option maxRecDepth 100000 in
set_option maxHeartbeats 1000000 in
theorem follow_any (w : World) (n lo : Nat) (C : List (List Int)) (G : List Int) (cv gv : Value) (hn : n ≤ 16777216) (hlo : lo ≤ w.heap.size) (hC : ∀ c ∈ C, ∀ l ∈ c, LitN n l) (hG : ∀ l ∈ G, LitN n l) (AC : ClsAt w lo cv C) (AG : IntsAt w lo gv G) (r : Option (List Int)) (hr : followP n C G = some r) :
    Calls Try.prog 23 #[.int .i64 (n : Int), cv, gv] w (FolPost w n r) := by
  have mo := follows
  obtain ⟨i0, hi0, hz0, hz1, hz2⟩ := info3
  have m1 : (Instr.makeSlice 31 (.int .i64 ((n : Int) + 1)) (.int .i64 ((n : Int) + 1))).run Try.prog w = .ok (.slice (some ⟨w.heap.size, 0, none⟩) (n + 1) (n + 1)) (w.alloc (.cells (Array.replicate (n + 1) (Value.int .i64 0)) 3)) := by
    have := run_make (P := Try.prog) w 31 3 i0 _ Try.underlying31 hi0 hz0 .i64 .i64 ((n : Int) + 1) ((n : Int) + 1) (by omega) (by omega) (by rw [hz2]; omega) (by omega)
    rw [hz1, show ((n : Int) + 1).toNat = n + 1 by omega, made_ints] at this
    exact this
  obtain ⟨ga, gc, rfl, hgr⟩ := AG.ex
  obtain ⟨ca, cc, rfl, hcr⟩ := AC.ex
  have hgb := AG.big
  have hcb := AC.big
  go_enter Try.func23, Try.ntmps23
  go_wp2_with fail
  clear m1
  have V1 : Hid (ValB (w.alloc (.cells (Array.replicate (n + 1) (Value.int .i64 0)) 3)) w.heap.size (List.replicate (n + 1) 0)) := ValB.new w (n + 1)
  have F1 : Hid (Fr (fun _ => True) w (w.alloc (.cells (Array.replicate (n + 1) (Value.int .i64 0)) 3))) := (Fr.refl _ w).alloc _
  generalize (w.alloc (.cells (Array.replicate (n + 1) (Value.int .i64 0)) 3)) = W at V1 F1 ⊢
  obtain ⟨vb, hvb⟩ : ∃ vb, w.heap.size = vb := ⟨_, rfl⟩
  rw [hvb] at V1 ⊢
  have hT1 : T3 n (List.replicate (n + 1) 0) := ⟨(Tv.start (C := C) (G := G) n).len, (Tv.start (C := C) (G := G) n).three⟩
  have HG : Hid (∃ g, givenP (List.replicate (n + 1) 0) G = g ∧ (match g with | none => some none | some v => loopP (n + 3) v C) = some r) := ⟨_, rfl, hr⟩
  clear hr
  generalize List.replicate (n + 1) (0 : Int) = val0 at V1 hT1 HG
  have HAC : Hid (ClsAt w lo (.slice ca C.length cc) C) := AC
  have HAG : Hid (IntsAt w lo (.slice ga G.length gc) G) := AG
  have F2 : Hid (Fr (· ≠ vb) w W) := F1.out.mono fun _ _ => trivial
  clear AC AG F1 hgr hcr
  go_loopg [9] (G.length) (fun k s9 wr => ∃ (j : Nat) (val : List Int), s9 = .int .i64 (j : Int) ∧ j + k = G.length ∧ T3 n val ∧ Hid (ValB wr vb val) ∧ Hid (∃ g, givenP val (G.drop j) = g ∧ (match g with | none => some none | some v => loopP (n + 3) v C) = some r) ∧ Hid (Fr (· ≠ vb) w wr))
  case atStart => exact ⟨0, val0, rfl, by omega, hT1, V1, HG, F2⟩
  case round =>
    clear V1 HG F2
    obtain ⟨j, val, rfl, hjk, hT, V, HR, F⟩ := hrel
    obtain ⟨g, hg, hr⟩ := HR.out
    clear HR
    by_cases hj : j < G.length
    · obtain ⟨k, rfl⟩ : ∃ k, gk = k + 1 := ⟨gk - 1, by omega⟩
      obtain ⟨l, hl⟩ : ∃ l, G[j] = l := ⟨_, rfl⟩
      have hL := hG l (hl ▸ List.getElem_mem hj)
      have fl : Fr (· < lo) w wr := F.out.mono fun q hq => by omega
      obtain ⟨a', c', e', hrow⟩ := (HAG.out.of fl).ex
      cases e'
      obtain ⟨p, rfl, _, hp⟩ : ∃ p : Addr, ga = some p ∧ p.block < lo ∧ ∀ i x, G[i]? = some x → wr.cell? (p.add i) = some (.int .i64 x) := by
        rcases hrow with q | q
        · rw [q] at hj; simp at hj
        · exact q
      have cj := hp j l (by rw [List.getElem?_eq_getElem hj, hl])
      have j0 : (0 : Int) ≤ (j : Int) := by omega
      have j1 : (j : Int) < (G.length : Int) := by omega
      have hd : G.drop j = l :: G.drop (j + 1) := by rw [List.drop_eq_getElem_cons hj, hl]
      rw [hd] at hg
      unfold givenP at hg
      have HS : Hid (Calls _ _ _ _ _) := set_any wr n vb (n + 1) val l hn hL hT.len hT.three V.out
      clear hrow hp fl
      go_wp2_with fail
      refine HS.out.mono ?_
      rintro e W1 ⟨hf1, hres⟩
      by_cases q : vAt val l < 0
      · rw [if_pos q] at hres hg
        obtain ⟨rfl, _⟩ := hres
        have hrn : r = none := by rw [← hg] at hr; simpa using hr.symm
        have HP : Hid (FolPost w n r (.returned (.tuple #[.slice none 0 0, .bool false])) W1) := by
          rw [hrn]
          have q := F.out.trans hf1
          exact ⟨⟨q.os, q.tape, q.output, q.size, fun y hy _ => q.block y hy (by omega)⟩, rfl⟩
        clear HS cj hf1 hg hr
        go_wp2_with fail
        exact bodyPost_ret (v := .tuple #[.slice none 0 0, .bool false]) (by simp [results, Try.results23, go_sem]) rfl HP.out
      · rw [if_neg q] at hres hg
        obtain ⟨rfl, hV1⟩ := hres
        have V1 : Hid (ValB W1 vb (setV val l)) := hV1
        have F1 : Hid (Fr (· ≠ vb) w W1) := F.out.trans hf1
        have HR1 : Hid (∃ g, givenP (setV val l) (G.drop (j + 1)) = g ∧ (match g with | none => some none | some v => loopP (n + 3) v C) = some r) := ⟨g, hg, hr⟩
        clear HS cj hf1 hg hr V F hV1
        go_wp2_with fail
        go_roundg k
        case measure => omega
        case rel => exact ⟨j + 1, setV val l, by simp, by omega, hT.set hL, V1, HR1, F1⟩
    · have j1 : ¬ (j : Int) < (G.length : Int) := by omega
      obtain rfl : j = G.length := by omega
      rw [List.drop_length] at hg
      unfold givenP at hg
      rw [← hg] at hr
      have HL : Hid (loopP (n + 3) val C = some r) := hr
      clear hg hr
      go_wp2_with fail
      go_loopg [] (n + 3) (fun f wr2 => ∃ val, T3 n val ∧ Hid (ValB wr2 vb val) ∧ Hid (loopP f val C = some r) ∧ Hid (Fr (· ≠ vb) w wr2))
      case atStart => exact ⟨val, hT, V, HL, F⟩
      case round =>
        clear V HL F hT
        obtain ⟨val, hT, V, HL, F⟩ := hrel
        obtain ⟨f, rfl⟩ : ∃ f, gk = f + 1 := by
          cases gk with
          | zero => exact absurd HL.out (by simp [loopP])
          | succ f => exact ⟨f, rfl⟩
        have hlp := HL.out
        unfold loopP at hlp
        have HP : Hid (∃ P, passP val C false = P ∧ (match P with | none => some none | some (v, false) => some (some v) | some (v, true) => loopP f v C) = some r) := ⟨_, rfl, hlp⟩
        clear HL hlp
        go_wp2_with fail
        go_loopg [11, 12] (C.length) (fun k s11 s12 wr3 => ∃ (j : Nat) (more : Bool) (va : List Int), s12 = .int .i64 (j : Int) ∧ s11 = .bool more ∧ j + k = C.length ∧ T3 n va ∧ Hid (ValB wr3 vb va) ∧ Hid (∃ P, passP va (C.drop j) more = P ∧ (match P with | none => some none | some (v, false) => some (some v) | some (v, true) => loopP f v C) = some r) ∧ Hid (Fr (· ≠ vb) w wr3))
        case atStart => exact ⟨0, false, val, rfl, rfl, by omega, hT, V, HP, F⟩
        case round =>
          clear V HP F hT
          obtain ⟨j, more, va, rfl, rfl, hjk, hT, V, HP, F⟩ := hrel
          obtain ⟨P, hP, hr⟩ := HP.out
          clear HP
          by_cases hj : j < C.length
          · obtain ⟨k, rfl⟩ : ∃ k, gk = k + 1 := ⟨gk - 1, by omega⟩
            obtain ⟨c, hc⟩ : ∃ c, C[j] = c := ⟨_, rfl⟩
            have hcm : c ∈ C := hc ▸ List.getElem_mem hj
            have fl : Fr (· < lo) w wr := F.out.mono fun q hq => by omega
            obtain ⟨a', c', e', hrow⟩ := (HAC.out.of fl).ex
            cases e'
            obtain ⟨p, rfl, _, hp⟩ : ∃ p : Addr, ca = some p ∧ p.block < lo ∧ ∀ i c, C[i]? = some c → ∃ u, wr.cell? (p.add i) = some u ∧ IntsAt wr lo u c := by
              rcases hrow with q | q
              · rw [q] at hj; simp at hj
              · exact q
            obtain ⟨u, cj, hu⟩ := hp j c (by rw [List.getElem?_eq_getElem hj, hc])
            have j0 : (0 : Int) ≤ (j : Int) := by omega
            have j1 : (j : Int) < (C.length : Int) := by omega
            have hd : C.drop j = c :: C.drop (j + 1) := by rw [List.drop_eq_getElem_cons hj, hc]
            rw [hd] at hP
            unfold passP at hP
            obtain ⟨x, o, hun⟩ : ∃ x o, unitP va c 0 = (x, o) := ⟨_, _, rfl⟩
            have h3 := unitP_three (val := va) c 0
            rw [hun] at hP h3
            have HS : Hid (Calls _ _ _ _ _) := unit_any wr n vb (n + 1) lo va u c hn (hC c hcm) hT.len hT.three V.out hu
            rw [hun] at HS
            have hz : ∀ l ∈ c, l ≠ 0 := fun l hl => (hC c hcm l hl).1
            clear hrow hp fl hu
            go_wp2_with fail
            refine HS.out.mono ?_
            rintro e W1 ⟨rfl, hf1⟩
            have V1 : Hid (ValB W1 vb va) := V.out.of hf1 trivial
            have F1 : Hid (Fr (· ≠ vb) w W1) := F.out.trans (hf1.mono fun _ _ => trivial)
            clear HS cj hf1 V F
            rcases h3 with rfl | rfl | rfl
            · have hrn : r = none := by rw [← hP] at hr; simpa using hr.symm
              have HQ : Hid (FolPost w n r (.returned (.tuple #[.slice none 0 0, .bool false])) W1) := by
                rw [hrn]
                have q := F1.out
                exact ⟨⟨q.os, q.tape, q.output, q.size, fun y hy _ => q.block y hy (by omega)⟩, rfl⟩
              clear hP hr
              go_wp2_with fail
              exact bodyPost_ret (v := .tuple #[.slice none 0 0, .bool false]) (by simp [results, Try.results23, go_sem]) rfl HQ.out
            · obtain ⟨e0, e1, _, _⟩ := unitP_one c 0 x hz hun
              obtain ⟨hx, hv⟩ : x ∈ c ∧ vAt va x = 0 := by
                rcases e1 with e | e
                · exact absurd e e0
                · exact e
              have hX := hC c hcm x hx
              have HR1 : Hid (∃ P, passP (setV va x) (C.drop (j + 1)) true = P ∧ (match P with | none => some none | some (v, false) => some (some v) | some (v, true) => loopP f v C) = some r) := ⟨P, hP, hr⟩
              have HS : Hid (Calls _ _ _ _ _) := set_any W1 n vb (n + 1) va x hn hX hT.len hT.three V1.out
              clear hP hr
              go_wp2_with fail
              refine HS.out.mono ?_
              rintro e W2 ⟨hf2, hres⟩
              rw [if_neg (by omega)] at hres
              obtain ⟨rfl, hV2⟩ := hres
              have V2 : Hid (ValB W2 vb (setV va x)) := hV2
              have F2 : Hid (Fr (· ≠ vb) w W2) := F1.out.trans hf2
              clear HS hf2 hV2 V1 F1
              go_wp2_with fail
              go_roundg k
              case measure => omega
              case rel => exact ⟨j + 1, true, setV va x, by simp, rfl, by omega, hT.set hX, V2, HR1, F2⟩
            · have HR1 : Hid (∃ P, passP va (C.drop (j + 1)) more = P ∧ (match P with | none => some none | some (v, false) => some (some v) | some (v, true) => loopP f v C) = some r) := ⟨P, hP, hr⟩
              clear hP hr
              go_wp2_with fail
              go_roundg k
              case measure => omega
              case rel => exact ⟨j + 1, more, va, by simp, rfl, by omega, hT, V1, HR1, F1⟩
          · have j1 : ¬ (j : Int) < (C.length : Int) := by omega
            obtain rfl : j = C.length := by omega
            rw [List.drop_length] at hP
            unfold passP at hP
            rw [← hP] at hr
            cases more with
            | false =>
              have hrv : r = some va := by simpa using hr.symm
              have HQ : Hid (FolPost w n r (.returned (.tuple #[.slice (some ⟨vb, 0, none⟩) (n + 1) (n + 1), .bool true])) wr) := by
                rw [hrv]
                have q := F.out
                exact ⟨⟨q.os, q.tape, q.output, q.size, fun y hy _ => q.block y hy (by omega)⟩, vb, _, rfl, by omega, V.out⟩
              clear hP hr hrv
              go_wp2_with fail
              exact bodyPost_ret (v := .tuple #[.slice (some ⟨vb, 0, none⟩) (n + 1) (n + 1), .bool true]) (by simp [results, Try.results23, go_sem]) rfl HQ.out
            | true =>
              have HL2 : Hid (loopP f va C = some r) := hr
              clear hP hr
              go_wp2_with fail
              go_roundg f
              case measure => omega
              case rel => exact ⟨va, hT, V, HL2, F⟩

end Go.Proofs.Ytbicefgjompnoaa.Sx
/- Literals, on both sides; faults. -/
namespace Go.Proofs.Ytbicefgjompnoaa.Sx
open Go.RowKit Go.Sort

def isLit (n : Nat) (l : Int) : Bool := decide (l ≠ 0) && (decide (-(n : Int) ≤ l) && decide (l ≤ n))
theorem isLit_iff {n : Nat} {l : Int} : isLit n l = true ↔ LitN n l := by simp [isLit, LitN]

set_option maxRecDepth 100000 in
set_option maxHeartbeats 1000000 in
theorem Literal_any (w : World) (n : Nat) (l : Int) (hn : n ≤ 16777216) : Calls Try.prog 45 #[.int .i64 (n : Int), .int .i64 l] w fun e w' => e = .returned (.bool (isLit n l)) ∧ w' = w := by
  have mo := follows
  by_cases h0 : l = 0
  · subst h0
    have e : isLit n 0 = false := by simp [isLit]
    rw [e]
    go_enter Try.func45, Try.ntmps45
    go_wp2_with fail
    go_ret
    exact ⟨rfl, rfl⟩
  · have h1 : (l != 0) = true := by simpa using h0
    by_cases h2 : -(n : Int) ≤ l
    · obtain ⟨b, hb⟩ : ∃ b, decide (l ≤ (n : Int)) = b := ⟨_, rfl⟩
      have e : isLit n l = b := by simp only [isLit, hb, decide_eq_true h0, decide_eq_true h2, Bool.true_and]
      rw [e]
      go_enter Try.func45, Try.ntmps45
      go_wp2_with fail
      go_ret
      exact ⟨rfl, rfl⟩
    · have e : isLit n l = false := by simp only [isLit, decide_eq_false h2, Bool.false_and, Bool.and_false]
      rw [e]
      go_enter Try.func45, Try.ntmps45
      go_wp2_with fail
      go_ret
      exact ⟨rfl, rfl⟩

set_option maxRecDepth 100000 in
set_option maxHeartbeats 1000000 in
theorem literals_any (w : World) (n lo : Nat) (v : Value) (l : List Int) (hn : n ≤ 16777216) (h : IntsAt w lo v l) : Calls Try.prog 21 #[.int .i64 (n : Int), v] w fun e w' => e = .returned (.bool (l.all (isLit n))) ∧ w' = w := by
  have mo := follows
  obtain ⟨a, cc, rfl, hrow⟩ := h.ex
  have hbig := h.big
  have HR : Hid (l = [] ∨ ∃ p : Addr, a = some p ∧ p.block < lo ∧ ∀ i x, l[i]? = some x → w.cell? (p.add i) = some (.int .i64 x)) := hrow
  obtain ⟨R, hR⟩ : ∃ R, l.all (isLit n) = R := ⟨_, rfl⟩
  rw [hR]
  clear h hrow
  go_enter Try.func21, Try.ntmps21
  go_wp2_with fail
  go_loopg [5] (l.length) (fun k s5 wr => ∃ j : Nat, s5 = .int .i64 (j : Int) ∧ j + k = l.length ∧ wr = w ∧ Hid ((l.drop j).all (isLit n) = R))
  case atStart => exact ⟨0, rfl, by omega, rfl, hR⟩
  case round =>
    obtain ⟨j, rfl, hjk, rfl, HU⟩ := hrel
    by_cases hj : j < l.length
    · obtain ⟨k, rfl⟩ : ∃ k, gk = k + 1 := ⟨gk - 1, by omega⟩
      obtain ⟨x, hx⟩ : ∃ x, l[j] = x := ⟨_, rfl⟩
      obtain ⟨p, rfl, _, hp⟩ : ∃ p : Addr, a = some p ∧ p.block < lo ∧ ∀ i x, l[i]? = some x → wr.cell? (p.add i) = some (.int .i64 x) := by
        rcases HR.out with q | q
        · rw [q] at hj; simp at hj
        · exact q
      have cj := hp j x (by rw [List.getElem?_eq_getElem hj, hx])
      have hd : l.drop j = x :: l.drop (j + 1) := by rw [List.drop_eq_getElem_cons hj, hx]
      have j0 : (0 : Int) ≤ (j : Int) := by omega
      have j1 : (j : Int) < (l.length : Int) := by omega
      have HL : Hid (Calls _ _ _ _ _) := Literal_any wr n x hn
      have hu := HU.out
      rw [hd, List.all_cons] at hu
      cases hb : isLit n x with
      | true =>
        rw [hb] at HL hu
        have hq : (l.drop (j + 1)).all (isLit n) = R := by simpa using hu
        have HQ : Hid ((l.drop (j + 1)).all (isLit n) = R) := hq
        clear hq
        clear hu HU hp
        go_wp2_with (go_at_call 45; refine HL.out.mono ?_; rintro e w' ⟨rfl, hw⟩; replace hw := hw.symm; subst hw)
        go_roundg k
        case measure => omega
        case rel => exact ⟨j + 1, by simp, by omega, rfl, HQ⟩
      | false =>
        rw [hb] at HL hu
        have hq : R = false := by simpa using hu.symm
        have HQ : Hid (R = false) := hq
        clear hq
        clear hu HU hp
        go_wp2_with (go_at_call 45; refine HL.out.mono ?_; rintro e w' ⟨rfl, hw⟩; replace hw := hw.symm; subst hw)
        go_ret
        exact ⟨by rw [HQ.out]; rfl, rfl⟩
    · have j1 : ¬ (j : Int) < (l.length : Int) := by omega
      obtain rfl : j = l.length := by omega
      have hu := HU.out
      rw [List.drop_length] at hu
      have hq : R = true := by simpa using hu.symm
      have HQ : Hid (R = true) := hq
      clear hq
      clear hu HU
      go_wp2_with fail
      go_ret
      exact ⟨by rw [HQ.out]; rfl, rfl⟩

end Go.Proofs.Ytbicefgjompnoaa.Sx
/- Faults of clauses, by the reference. -/
namespace Go.Proofs.Ytbicefgjompnoaa.Sx
open Go.RowKit Go.Sort

/-- the fault of n and of clauses -/
def faultR (n : Int) (C : List (List Int)) : Nat := if n < 0 ∨ 16777216 < n then 5 else if 33554432 < C.length then 6 else if C.all (fun c => c.all (isLit n.toNat)) then 0 else 5

set_option maxRecDepth 100000 in
set_option maxHeartbeats 1000000 in
theorem Fault_any (w : World) (n : Int) (lo : Nat) (v : Value) (C : List (List Int)) (h : ClsAt w lo v C) : Calls Try.prog 20 #[.int .i64 n, v] w fun e w' => e = .returned (.int .i64 (faultR n C : Int)) ∧ w' = w := by
  have mo := follows
  obtain ⟨a, cc, rfl, hrow⟩ := h.ex
  have hbig := h.big
  have HR : Hid (C = [] ∨ ∃ p : Addr, a = some p ∧ p.block < lo ∧ ∀ i c, C[i]? = some c → ∃ u, w.cell? (p.add i) = some u ∧ IntsAt w lo u c) := hrow
  obtain ⟨R, hR⟩ : ∃ R, faultR n C = R := ⟨_, rfl⟩
  rw [hR]
  clear h hrow
  unfold faultR at hR
  by_cases h1 : n < 0
  · rw [if_pos (.inl h1)] at hR
    subst hR
    go_enter Try.func20, Try.ntmps20
    go_wp2_with fail
    go_ret
    exact ⟨rfl, rfl⟩
  by_cases h2 : 16777216 < n
  · rw [if_pos (.inr h2)] at hR
    subst hR
    go_enter Try.func20, Try.ntmps20
    go_wp2_with fail
    go_ret
    exact ⟨rfl, rfl⟩
  rw [if_neg (by omega)] at hR
  obtain ⟨N, rfl⟩ : ∃ N : Nat, n = (N : Int) := ⟨n.toNat, by omega⟩
  have hN : N ≤ 16777216 := by omega
  by_cases h3 : 33554432 < C.length
  · rw [if_pos h3] at hR
    subst hR
    have h4 : (33554432 : Int) < (C.length : Int) := by omega
    go_enter Try.func20, Try.ntmps20
    go_wp2_with fail
    go_ret
    exact ⟨rfl, rfl⟩
  rw [if_neg h3, Int.toNat_natCast] at hR
  have h4 : ¬ (33554432 : Int) < (C.length : Int) := by omega
  have HR0 : Hid ((if C.all (fun c => c.all (isLit N)) then 0 else 5) = R) := hR
  clear hR
  go_enter Try.func20, Try.ntmps20
  go_wp2_with fail
  go_loopg [5] (C.length) (fun k s5 wr => ∃ j : Nat, s5 = .int .i64 (j : Int) ∧ j + k = C.length ∧ wr = w ∧ Hid ((if (C.drop j).all (fun c => c.all (isLit N)) then 0 else 5) = R))
  case atStart => exact ⟨0, rfl, by omega, rfl, HR0⟩
  case round =>
    clear HR0
    obtain ⟨j, rfl, hjk, rfl, HU⟩ := hrel
    by_cases hj : j < C.length
    · obtain ⟨k, rfl⟩ : ∃ k, gk = k + 1 := ⟨gk - 1, by omega⟩
      obtain ⟨x, hx⟩ : ∃ x, C[j] = x := ⟨_, rfl⟩
      obtain ⟨p, rfl, _, hp⟩ : ∃ p : Addr, a = some p ∧ p.block < lo ∧ ∀ i c, C[i]? = some c → ∃ u, wr.cell? (p.add i) = some u ∧ IntsAt wr lo u c := by
        rcases HR.out with q | q
        · rw [q] at hj; simp at hj
        · exact q
      obtain ⟨u, cj, hui⟩ := hp j x (by rw [List.getElem?_eq_getElem hj, hx])
      have hd : C.drop j = x :: C.drop (j + 1) := by rw [List.drop_eq_getElem_cons hj, hx]
      have j0 : (0 : Int) ≤ (j : Int) := by omega
      have j1 : (j : Int) < (C.length : Int) := by omega
      have HL : Hid (Calls _ _ _ _ _) := literals_any wr N lo u x hN hui
      have hu := HU.out
      rw [hd, List.all_cons] at hu
      cases hb : x.all (isLit N) with
      | true =>
        rw [hb] at HL hu
        rw [Bool.true_and] at hu
        have HQ : Hid ((if (C.drop (j + 1)).all (fun c => c.all (isLit N)) then 0 else 5) = R) := hu
        clear hu HU hp hui
        go_wp2_with (go_at_call 21; refine HL.out.mono ?_; rintro e w' ⟨rfl, hw⟩; replace hw := hw.symm; subst hw)
        go_roundg k
        case measure => omega
        case rel => exact ⟨j + 1, by simp, by omega, rfl, HQ⟩
      | false =>
        rw [hb] at HL hu
        rw [Bool.false_and] at hu
        have HQ : Hid (5 = R) := hu
        clear hu HU hp hui
        go_wp2_with (go_at_call 21; refine HL.out.mono ?_; rintro e w' ⟨rfl, hw⟩; replace hw := hw.symm; subst hw)
        go_ret
        exact ⟨by rw [← HQ.out]; rfl, rfl⟩
    · have j1 : ¬ (j : Int) < (C.length : Int) := by omega
      obtain rfl : j = C.length := by omega
      have hu := HU.out
      rw [List.drop_length] at hu
      have HQ : Hid (0 = R) := hu
      clear hu HU
      go_wp2_with fail
      go_ret
      exact ⟨by rw [← HQ.out]; rfl, rfl⟩

end Go.Proofs.Ytbicefgjompnoaa.Sx
