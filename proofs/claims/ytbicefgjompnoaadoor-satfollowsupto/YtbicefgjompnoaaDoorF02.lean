/- The reference: what follows. -/
import Derived.Test.YtbicefgjompnoaaDoorF01
namespace Go.Proofs.YtbicefgjompnoaaDoor.Sx
open Go.RowKit Go.Sort

theorem info3 : ∃ i0, Tryd.prog.info? 3 = some i0 ∧ i0.zero = some (.int .i64 0) ∧ i0.size = 1 ∧ i0.bytes = 8 := by
  have h : ((Tryd.prog.info? 3).map fun i => (i.zero, i.size, i.bytes)) = some (some (.int .i64 0), 1, 8) := by kernel_rfl
  cases hq : Tryd.prog.info? 3 with
  | none => rw [hq] at h; simp at h
  | some j => rw [hq] at h; simp at h; exact ⟨j, rfl, h.1, h.2.1, h.2.2⟩
theorem made_ints (m : Nat) : madeCells (Value.int .i64 0).cells (m * 1) = Array.replicate m (Value.int .i64 0) := by
  apply Array.ext
  · simp [madeCells]
  · intro i h1 h2
    have e : i % 1 = 0 := Nat.mod_one i
    simp [madeCells, Value.cells, e]
theorem ValB.new (w : World) (m : Nat) : ValB (w.alloc (.cells (Array.replicate m (Value.int .i64 0)) 3)) w.heap.size (List.replicate m 0) := by
  unfold ValB
  rw [heap_new rfl]
  simp

theorem ValB.of {w w' : World} {b : Nat} {val : List Int} (h : ValB w b val) {P : Nat → Prop} (f : Fr P w w') (hp : P b) : ValB w' b val := (f.block b (block_lt h) hp).trans h
/-- a table of n variables -/
structure T3 (n : Nat) (val : List Int) : Prop where
  len : val.length = n + 1
  three : ∀ l, vAt val l = 1 ∨ vAt val l = 0 ∨ vAt val l = -1
theorem T3.set {n : Nat} {val : List Int} (h : T3 n val) {l : Int} (hl : LitN n l) : T3 n (setV val l) := by
  have e := vAt_set_same hl h.len
  refine ⟨by simp [setV, h.len], fun l' => ?_⟩
  by_cases q : l'.natAbs = l.natAbs
  · rcases natAbs_cases q with rfl | rfl
    · exact .inl e
    · exact .inr (.inr (by rw [vAt_neg hl.1, e]))
  · rw [vAt_set_other q]; exact h.three l'

def FolPost (w : World) (n : Nat) (r : Option (List Int)) (e : Ending) (w' : World) : Prop :=
  Fr (fun _ => True) w w' ∧ match r with
    | none => e = .returned (.tuple #[.slice none 0 0, .bool false])
    | some v => ∃ vb cap, e = .returned (.tuple #[.slice (some ⟨vb, 0, none⟩) (n + 1) cap, .bool true]) ∧ w.heap.size ≤ vb ∧ ValB w' vb v

set_option maxRecDepth 100000 in
set_option maxHeartbeats 1000000 in
theorem follow_any (w : World) (n lo : Nat) (C : List (List Int)) (G : List Int) (cv gv : Value) (hn : n ≤ 16777216) (hlo : lo ≤ w.heap.size) (hC : ∀ c ∈ C, ∀ l ∈ c, LitN n l) (hG : ∀ l ∈ G, LitN n l) (AC : ClsAt w lo cv C) (AG : IntsAt w lo gv G) (r : Option (List Int)) (hr : followP n C G = some r) :
    Calls Tryd.prog 11 #[.int .i64 (n : Int), cv, gv] w (FolPost w n r) := by
  have mo := follows
  obtain ⟨i0, hi0, hz0, hz1, hz2⟩ := info3
  have m1 : (Instr.makeSlice 23 (.int .i64 ((n : Int) + 1)) (.int .i64 ((n : Int) + 1))).run Tryd.prog w = .ok (.slice (some ⟨w.heap.size, 0, none⟩) (n + 1) (n + 1)) (w.alloc (.cells (Array.replicate (n + 1) (Value.int .i64 0)) 3)) := by
    have := run_make (P := Tryd.prog) w 23 3 i0 _ Tryd.underlying23 hi0 hz0 .i64 .i64 ((n : Int) + 1) ((n : Int) + 1) (by omega) (by omega) (by rw [hz2]; omega) (by omega)
    rw [hz1, show ((n : Int) + 1).toNat = n + 1 by omega, made_ints] at this
    exact this
  obtain ⟨ga, gc, rfl, hgr⟩ := AG.ex
  obtain ⟨ca, cc, rfl, hcr⟩ := AC.ex
  have hgb := AG.big
  have hcb := AC.big
  go_enter Tryd.func11, Tryd.ntmps11
  go_wp2_with fail
  clear m1
  have V1 : Hid (ValB (w.alloc (.cells (Array.replicate (n + 1) (Value.int .i64 0)) 3)) w.heap.size (List.replicate (n + 1) 0)) := ValB.new w (n + 1)
  have F1 : Hid (Fr (fun _ => True) w (w.alloc (.cells (Array.replicate (n + 1) (Value.int .i64 0)) 3))) := (Fr.refl _ w).alloc _
  generalize (w.alloc (.cells (Array.replicate (n + 1) (Value.int .i64 0)) 3)) = W at V1 F1 ⊢
  obtain ⟨vb, hvb⟩ : ∃ vb, w.heap.size = vb := ⟨_, rfl⟩
  rw [hvb] at V1 ⊢
  have hT1 : T3 n (List.replicate (n + 1) 0) := ⟨(Tv.start (C := C) (G := G) n).len, (Tv.start (C := C) (G := G) n).three⟩
  have HG : Hid (∃ g, givenP (List.replicate (n + 1) 0) G = g ∧ (match g with | none => some none | some v => loopP (n + 3) v C) = some r) := ⟨_, rfl, hr⟩
  clear hr
  generalize List.replicate (n + 1) (0 : Int) = val0 at V1 hT1 HG
  have HAC : Hid (ClsAt w lo (.slice ca C.length cc) C) := AC
  have HAG : Hid (IntsAt w lo (.slice ga G.length gc) G) := AG
  have F2 : Hid (Fr (· ≠ vb) w W) := F1.out.mono fun _ _ => trivial
  clear AC AG F1 hgr hcr
  go_loopg [9] (G.length) (fun k s9 wr => ∃ (j : Nat) (val : List Int), s9 = .int .i64 (j : Int) ∧ j + k = G.length ∧ T3 n val ∧ Hid (ValB wr vb val) ∧ Hid (∃ g, givenP val (G.drop j) = g ∧ (match g with | none => some none | some v => loopP (n + 3) v C) = some r) ∧ Hid (Fr (· ≠ vb) w wr))
  case atStart => exact ⟨0, val0, rfl, by omega, hT1, V1, HG, F2⟩
  case round =>
    clear V1 HG F2
    obtain ⟨j, val, rfl, hjk, hT, V, HR, F⟩ := hrel
    obtain ⟨g, hg, hr⟩ := HR.out
    clear HR
    by_cases hj : j < G.length
    · obtain ⟨k, rfl⟩ : ∃ k, gk = k + 1 := ⟨gk - 1, by omega⟩
      obtain ⟨l, hl⟩ : ∃ l, G[j] = l := ⟨_, rfl⟩
      have hL := hG l (hl ▸ List.getElem_mem hj)
      have fl : Fr (· < lo) w wr := F.out.mono fun q hq => by omega
      obtain ⟨a', c', e', hrow⟩ := (HAG.out.of fl).ex
      cases e'
      obtain ⟨p, rfl, _, hp⟩ : ∃ p : Addr, ga = some p ∧ p.block < lo ∧ ∀ i x, G[i]? = some x → wr.cell? (p.add i) = some (.int .i64 x) := by
        rcases hrow with q | q
        · rw [q] at hj; simp at hj
        · exact q
      have cj := hp j l (by rw [List.getElem?_eq_getElem hj, hl])
      have j0 : (0 : Int) ≤ (j : Int) := by omega
      have j1 : (j : Int) < (G.length : Int) := by omega
      have hd : G.drop j = l :: G.drop (j + 1) := by rw [List.drop_eq_getElem_cons hj, hl]
      rw [hd] at hg
      unfold givenP at hg
      have HS : Hid (Calls _ _ _ _ _) := set_any wr n vb (n + 1) val l hn hL hT.len hT.three V.out
      clear hrow hp fl
      go_wp2_with fail
      refine HS.out.mono ?_
      rintro e W1 ⟨hf1, hres⟩
      by_cases q : vAt val l < 0
      · rw [if_pos q] at hres hg
        obtain ⟨rfl, _⟩ := hres
        have hrn : r = none := by rw [← hg] at hr; simpa using hr.symm
        have HP : Hid (FolPost w n r (.returned (.tuple #[.slice none 0 0, .bool false])) W1) := by
          rw [hrn]
          have q := F.out.trans hf1
          exact ⟨⟨q.os, q.tape, q.output, q.size, fun y hy _ => q.block y hy (by omega)⟩, rfl⟩
        clear HS cj hf1 hg hr
        go_wp2_with fail
        exact bodyPost_ret (v := .tuple #[.slice none 0 0, .bool false]) (by simp [results, Tryd.results11, go_sem]) rfl HP.out
      · rw [if_neg q] at hres hg
        obtain ⟨rfl, hV1⟩ := hres
        have V1 : Hid (ValB W1 vb (setV val l)) := hV1
        have F1 : Hid (Fr (· ≠ vb) w W1) := F.out.trans hf1
        have HR1 : Hid (∃ g, givenP (setV val l) (G.drop (j + 1)) = g ∧ (match g with | none => some none | some v => loopP (n + 3) v C) = some r) := ⟨g, hg, hr⟩
        clear HS cj hf1 hg hr V F hV1
        go_wp2_with fail
        go_roundg k
        case measure => omega
        case rel => exact ⟨j + 1, setV val l, by simp, by omega, hT.set hL, V1, HR1, F1⟩
    · have j1 : ¬ (j : Int) < (G.length : Int) := by omega
      obtain rfl : j = G.length := by omega
      rw [List.drop_length] at hg
      unfold givenP at hg
      rw [← hg] at hr
      have HL : Hid (loopP (n + 3) val C = some r) := hr
      clear hg hr
      go_wp2_with fail
      go_loopg [] (n + 3) (fun f wr2 => ∃ val, T3 n val ∧ Hid (ValB wr2 vb val) ∧ Hid (loopP f val C = some r) ∧ Hid (Fr (· ≠ vb) w wr2))
      case atStart => exact ⟨val, hT, V, HL, F⟩
      case round =>
        clear V HL F hT
        obtain ⟨val, hT, V, HL, F⟩ := hrel
        obtain ⟨f, rfl⟩ : ∃ f, gk = f + 1 := by
          cases gk with
          | zero => exact absurd HL.out (by simp [loopP])
          | succ f => exact ⟨f, rfl⟩
        have hlp := HL.out
        unfold loopP at hlp
        have HP : Hid (∃ P, passP val C false = P ∧ (match P with | none => some none | some (v, false) => some (some v) | some (v, true) => loopP f v C) = some r) := ⟨_, rfl, hlp⟩
        clear HL hlp
        go_wp2_with fail
        go_loopg [11, 12] (C.length) (fun k s11 s12 wr3 => ∃ (j : Nat) (more : Bool) (va : List Int), s12 = .int .i64 (j : Int) ∧ s11 = .bool more ∧ j + k = C.length ∧ T3 n va ∧ Hid (ValB wr3 vb va) ∧ Hid (∃ P, passP va (C.drop j) more = P ∧ (match P with | none => some none | some (v, false) => some (some v) | some (v, true) => loopP f v C) = some r) ∧ Hid (Fr (· ≠ vb) w wr3))
        case atStart => exact ⟨0, false, val, rfl, rfl, by omega, hT, V, HP, F⟩
        case round =>
          clear V HP F hT
          obtain ⟨j, more, va, rfl, rfl, hjk, hT, V, HP, F⟩ := hrel
          obtain ⟨P, hP, hr⟩ := HP.out
          clear HP
          by_cases hj : j < C.length
          · obtain ⟨k, rfl⟩ : ∃ k, gk = k + 1 := ⟨gk - 1, by omega⟩
            obtain ⟨c, hc⟩ : ∃ c, C[j] = c := ⟨_, rfl⟩
            have hcm : c ∈ C := hc ▸ List.getElem_mem hj
            have fl : Fr (· < lo) w wr := F.out.mono fun q hq => by omega
            obtain ⟨a', c', e', hrow⟩ := (HAC.out.of fl).ex
            cases e'
            obtain ⟨p, rfl, _, hp⟩ : ∃ p : Addr, ca = some p ∧ p.block < lo ∧ ∀ i c, C[i]? = some c → ∃ u, wr.cell? (p.add i) = some u ∧ IntsAt wr lo u c := by
              rcases hrow with q | q
              · rw [q] at hj; simp at hj
              · exact q
            obtain ⟨u, cj, hu⟩ := hp j c (by rw [List.getElem?_eq_getElem hj, hc])
            have j0 : (0 : Int) ≤ (j : Int) := by omega
            have j1 : (j : Int) < (C.length : Int) := by omega
            have hd : C.drop j = c :: C.drop (j + 1) := by rw [List.drop_eq_getElem_cons hj, hc]
            rw [hd] at hP
            unfold passP at hP
            obtain ⟨x, o, hun⟩ : ∃ x o, unitP va c 0 = (x, o) := ⟨_, _, rfl⟩
            have h3 := unitP_three (val := va) c 0
            rw [hun] at hP h3
            have HS : Hid (Calls _ _ _ _ _) := unit_any wr n vb (n + 1) lo va u c hn (hC c hcm) hT.len hT.three V.out hu
            rw [hun] at HS
            have hz : ∀ l ∈ c, l ≠ 0 := fun l hl => (hC c hcm l hl).1
            clear hrow hp fl hu
            go_wp2_with fail
            refine HS.out.mono ?_
            rintro e W1 ⟨rfl, hf1⟩
            have V1 : Hid (ValB W1 vb va) := V.out.of hf1 trivial
            have F1 : Hid (Fr (· ≠ vb) w W1) := F.out.trans (hf1.mono fun _ _ => trivial)
            clear HS cj hf1 V F
            rcases h3 with rfl | rfl | rfl
            · have hrn : r = none := by rw [← hP] at hr; simpa using hr.symm
              have HQ : Hid (FolPost w n r (.returned (.tuple #[.slice none 0 0, .bool false])) W1) := by
                rw [hrn]
                have q := F1.out
                exact ⟨⟨q.os, q.tape, q.output, q.size, fun y hy _ => q.block y hy (by omega)⟩, rfl⟩
              clear hP hr
              go_wp2_with fail
              exact bodyPost_ret (v := .tuple #[.slice none 0 0, .bool false]) (by simp [results, Tryd.results11, go_sem]) rfl HQ.out
            · obtain ⟨e0, e1, _, _⟩ := unitP_one c 0 x hz hun
              obtain ⟨hx, hv⟩ : x ∈ c ∧ vAt va x = 0 := by
                rcases e1 with e | e
                · exact absurd e e0
                · exact e
              have hX := hC c hcm x hx
              have HR1 : Hid (∃ P, passP (setV va x) (C.drop (j + 1)) true = P ∧ (match P with | none => some none | some (v, false) => some (some v) | some (v, true) => loopP f v C) = some r) := ⟨P, hP, hr⟩
              have HS : Hid (Calls _ _ _ _ _) := set_any W1 n vb (n + 1) va x hn hX hT.len hT.three V1.out
              clear hP hr
              go_wp2_with fail
              refine HS.out.mono ?_
              rintro e W2 ⟨hf2, hres⟩
              rw [if_neg (by omega)] at hres
              obtain ⟨rfl, hV2⟩ := hres
              have V2 : Hid (ValB W2 vb (setV va x)) := hV2
              have F2 : Hid (Fr (· ≠ vb) w W2) := F1.out.trans hf2
              clear HS hf2 hV2 V1 F1
              go_wp2_with fail
              go_roundg k
              case measure => omega
              case rel => exact ⟨j + 1, true, setV va x, by simp, rfl, by omega, hT.set hX, V2, HR1, F2⟩
            · have HR1 : Hid (∃ P, passP va (C.drop (j + 1)) more = P ∧ (match P with | none => some none | some (v, false) => some (some v) | some (v, true) => loopP f v C) = some r) := ⟨P, hP, hr⟩
              clear hP hr
              go_wp2_with fail
              go_roundg k
              case measure => omega
              case rel => exact ⟨j + 1, more, va, by simp, rfl, by omega, hT, V1, HR1, F1⟩
          · have j1 : ¬ (j : Int) < (C.length : Int) := by omega
            obtain rfl : j = C.length := by omega
            rw [List.drop_length] at hP
            unfold passP at hP
            rw [← hP] at hr
            cases more with
            | false =>
              have hrv : r = some va := by simpa using hr.symm
              have HQ : Hid (FolPost w n r (.returned (.tuple #[.slice (some ⟨vb, 0, none⟩) (n + 1) (n + 1), .bool true])) wr) := by
                rw [hrv]
                have q := F.out
                exact ⟨⟨q.os, q.tape, q.output, q.size, fun y hy _ => q.block y hy (by omega)⟩, vb, _, rfl, by omega, V.out⟩
              clear hP hr hrv
              go_wp2_with fail
              exact bodyPost_ret (v := .tuple #[.slice (some ⟨vb, 0, none⟩) (n + 1) (n + 1), .bool true]) (by simp [results, Tryd.results11, go_sem]) rfl HQ.out
            | true =>
              have HL2 : Hid (loopP f va C = some r) := hr
              clear hP hr
              go_wp2_with fail
              go_roundg f
              case measure => omega
              case rel => exact ⟨va, hT, V, HL2, F⟩

end Go.Proofs.YtbicefgjompnoaaDoor.Sx
