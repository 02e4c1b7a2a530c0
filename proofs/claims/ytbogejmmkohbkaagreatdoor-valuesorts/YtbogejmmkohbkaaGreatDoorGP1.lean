/- Plain: a text is read to a tree. Nothing of the program. -/
import Derived.Test.YtbogejmmkohbkaaGreatDoorGA4
import Derived.Test.YtbogejmmkohbkaaGreatDoorGC1
import Derived.Lib.ParseIntB
import Derived.Deep.AppendLies
namespace Go.Proofs.YtbogejmmkohbkaaGreatDoor.Sx

structure St where
  at' : Nat
  en : Nat
  cl : Nat
  hv : Bool

def advP (T : List UInt8) (s : St) : St :=
  ⟨s.en + blankLen (T.drop s.en), s.en + blankLen (T.drop s.en) + (tokT (T.drop (s.en + blankLen (T.drop s.en)))).2, (tokT (T.drop (s.en + blankLen (T.drop s.en)))).1, s.hv⟩

theorem qScan_le : ∀ (l : List UInt8) (i : Nat), (qScan l i).2 ≤ i + l.length
  | [], i => by simp [qScan]
  | c :: r, i => by
    have := qScan_le r (i + 1)
    simp only [qScan, List.length_cons]
    repeat' split
    all_goals simp
    all_goals omega
theorem signT_le (l : List UInt8) (h : 0 < l.length) : (signT l).2 ≤ l.length := by
  unfold signT Lib.hasPrefix
  split
  · rename_i q; have := List.IsPrefix.length_le (List.isPrefixOf_iff_prefix.1 q); simpa using this
  · split
    · rename_i q; have := List.IsPrefix.length_le (List.isPrefixOf_iff_prefix.1 q); simpa using this
    · split <;> (simp; omega)
theorem negT_le (l : List UInt8) (h : 0 < l.length) : (negT l).2 ≤ l.length := by
  unfold negT
  split
  · simp; omega
  · have := digitsT_le (l.drop 1); simp at this ⊢; omega
theorem tokT_le (l : List UInt8) : (tokT l).2 ≤ l.length := by
  unfold tokT
  split
  · simp
  · rename_i h0
    repeat' split
    · exact runLen_le l
    · exact digitsT_le l
    · exact negT_le l (by omega)
    · have := qScan_le (l.drop 1) 1; simp at this ⊢; omega
    · exact signT_le l (by omega)

theorem advP_le (T : List UInt8) (s : St) (h : s.en ≤ T.length) : (advP T s).at' ≤ (advP T s).en ∧ (advP T s).en ≤ T.length ∧ s.en ≤ (advP T s).at' := by
  have h1 := blankLen_le (T.drop s.en)
  have h2 := tokT_le (T.drop (s.en + blankLen (T.drop s.en)))
  simp at h1 h2
  simp only [advP]
  omega

def pieceP (T : List UInt8) (s : St) : List UInt8 := (T.take s.en).drop s.at'

/-- goes on behind a sign, if it stands here -/
def isP (T : List UInt8) (s : St) (m : List UInt8) : Bool := decide (s.cl = 4) && (pieceP T s == m)

/-- one item or more, commas between them, and the bracket behind them -/
def listP {β : Type} (T : List UInt8) (closing : List UInt8) (item : St → Except (Nat × Nat) (β × St)) : Nat → St → Except (Nat × Nat) (List β × St)
  | 0, s => .error (0, s.at')
  | f + 1, s =>
    match item s with
    | .error e => .error e
    | .ok (x, s1) =>
      if isP T s1 closing then .ok ([x], advP T s1)
      else if isP T s1 [44] then
        match listP T closing item f (advP T s1) with
        | .error e => .error e
        | .ok (l, s2) => .ok (x :: l, s2)
      else .error (1, s1.at')

def valuesP {β : Type} (T : List UInt8) (closing : List UInt8) (item : St → Except (Nat × Nat) (β × St)) (s : St) : Except (Nat × Nat) (List β × St) :=
  if isP T s closing then .ok ([], advP T s) else listP T closing item (T.length + 1) s

def pairP {β : Type} (T : List UInt8) (item : St → Except (Nat × Nat) (β × St)) (s : St) : Except (Nat × Nat) ((β × β) × St) :=
  match item s with
  | .error e => .error e
  | .ok (x, s1) =>
    if isP T s1 [58] then
      match item (advP T s1) with
      | .error e => .error e
      | .ok (y, s2) => .ok ((x, y), s2)
    else .error (1, s1.at')

/-- of several for one value the first one counts -/
def insP {α : Type} (c : α → α → Int) (x : α × α) : List (α × α) → List (α × α)
  | [] => [x]
  | y :: l => if c x.1 y.1 < 0 then x :: y :: l else if c x.1 y.1 = 0 then x :: l else y :: insP c x l
def normP {α : Type} (c : α → α → Int) (l : List (α × α)) : List (α × α) := l.foldr (insP c) []

def mkP {α : Type} (wta : α → Nat) (l : List (α × α)) : Node α :=
  if 1 + wtL wta (l.map Prod.fst) ≤ 1024 then mkF wta (l.map Prod.fst) (l.map Prod.snd) else mkNil

def heavyP {α : Type} (v : Node α) : Bool := v.kind == 0

/-- what stands in brackets; the parts one level further in -/
def bracketP {m : Nat} (T : List UInt8) (item : St → Except (Nat × Nat) (AV (m + 1) × St)) (s : St) : Except (Nat × Nat) (AV (m + 2) × St) :=
  if pieceP T s = [123] then
    match valuesP T [125] item (advP T s) with
    | .error e => .error e
    | .ok (l, s1) => .ok ((mkS (wt (m + 1)) (normA (cmpV (m + 1)) l) : Node (AV (m + 1))), { s1 with hv := s1.hv || heavyP (mkS (wt (m + 1)) (normA (cmpV (m + 1)) l)) })
  else if pieceP T s = [60, 60] then
    match valuesP T [62, 62] item (advP T s) with
    | .error e => .error e
    | .ok (l, s1) => .ok ((mkF (wt (m + 1)) (seqKeys m l.length) l : Node (AV (m + 1))), { s1 with hv := s1.hv || heavyP (mkF (wt (m + 1)) (seqKeys m l.length) l) })
  else if pieceP T s = [91] then
    match listP T [93] (pairP T item) (T.length + 1) (advP T s) with
    | .error e => .error e
    | .ok (l, s1) => .ok ((mkP (wt (m + 1)) (normP (cmpV (m + 1)) l) : Node (AV (m + 1))), { s1 with hv := s1.hv || heavyP (mkP (wt (m + 1)) (normP (cmpV (m + 1)) l)) })
  else .error (1, s.at')

/-- a value; what stands in brackets is told by br -/
def leafP {m : Nat} (T : List UInt8) (br : St → Except (Nat × Nat) (AV (m + 1) × St)) (s : St) : Except (Nat × Nat) (AV (m + 1) × St) :=
  if s.cl = 1 then
    (if pieceP T s = nilT then .ok ((mkNil : Node (AV m)), advP T s)
    else if pieceP T s = trueT then .ok ((mkBool true : Node (AV m)), advP T s)
    else if pieceP T s = falseT then .ok ((mkBool false : Node (AV m)), advP T s)
    else if isReserved (pieceP T s) then .error (1, s.at')
    else if 16 < (pieceP T s).length then .error (5, s.at')
    else .ok ((mkAtom (pieceP T s) : Node (AV m)), advP T s))
  else if s.cl = 2 then
    match Lib.parseIntB 64 (pieceP T s) with
    | .ok v => .ok ((mkInt v : Node (AV m)), advP T s)
    | _ => .error (5, s.at')
  else if s.cl = 3 then .ok ((mkText (((pieceP T s).take ((pieceP T s).length - 1)).drop 1) : Node (AV m)), advP T s)
  else if s.cl = 4 then br s
  else .error (1, s.at')

def valueP (T : List UInt8) : (d : Nat) → St → Except (Nat × Nat) (AV (d + 1) × St)
  | 0, s => leafP T (fun s => if pieceP T s = [123] ∨ pieceP T s = [60, 60] ∨ pieceP T s = [91] then .error (6, s.at') else .error (1, s.at')) s
  | d + 1, s => leafP T (bracketP T (valueP T d)) s

/-- the value of a text: error, place -/
def readP (T : List UInt8) : Except (Nat × Nat) (AV 25) :=
  if 4000 < T.length then .error (6, 0)
  else match valueP T 24 (advP T ⟨0, 0, 0, false⟩) with
    | .error e => .error e
    | .ok (v, s) => if s.cl ≠ 0 then .error (1, s.at') else if s.hv then .error (6, 0) else .ok v
end Go.Proofs.YtbogejmmkohbkaaGreatDoor.Sx

namespace Go.Proofs.YtbogejmmkohbkaaGreatDoor.Sx
open Go.RowKit Go.Sort

/-- the reader stands at a state -/
def RdS (w : World) (br : Nat) (t : ByteArray) (s : St) (op : Nat) : Prop := RdAt w br t s.at' s.en s.cl op s.hv

theorem advance_st (w : World) (br : Nat) (t : ByteArray) (s : St) (op : Nat) (hr : RdS w br t s op) (hen : s.en ≤ t.size) (ht : t.size ≤ 4000) :
    Calls Tryz.prog 62 #[.pointer (some ⟨br, 0, none⟩)] w fun e w' => e = .returned (.tuple #[]) ∧ RdS w' br t (advP t.data.toList s) op ∧ Fr (· ≠ br) w w' := by
  have hl : t.data.toList.length = t.size := by simp
  have h := advP_le t.data.toList s (by omega)
  exact advance_any w br t s.at' s.en s.cl op s.hv hr hen ht _ _ _ _ rfl rfl rfl (by have := h.2.1; simp only [advP] at this; omega)

set_option maxRecDepth 100000 in
set_option maxHeartbeats 1000000 in
theorem skip_any (w : World) (br : Nat) (t : ByteArray) (s : St) (op : Nat) (m : ByteArray) (hr : RdS w br t s op) (ha : s.at' ≤ s.en) (hen : s.en ≤ t.size) (ht : t.size ≤ 4000) :
    Calls Tryz.prog 266 #[.pointer (some ⟨br, 0, none⟩), .string m] w fun e w' => e = .returned (.bool (isP t.data.toList s m.data.toList)) ∧ RdS w' br t (if isP t.data.toList s m.data.toList then advP t.data.toList s else s) op ∧ Fr (· ≠ br) w w' := by
  have hl : t.data.toList.length = t.size := by simp
  obtain ⟨B, hB⟩ : ∃ B, isP t.data.toList s m.data.toList = B := ⟨_, rfl⟩
  rw [hB]
  unfold isP at hB
  have HA : Hid (∀ W : World, RdS W br t s op → _) := fun (W : World) (h : RdS W br t s op) => advance_st W br t s op h hen ht
  obtain ⟨a, en, cl, hv⟩ := s
  simp only at ha hen hB
  have hbl := block_lt hr
  have g0 := cell_grown (w := w) (a := ⟨br, 0, none⟩) hbl (block_cell hr 0)
  have g1 := cell_grown (w := w) (a := ⟨br, 1, none⟩) hbl (block_cell hr 1)
  have g2 := cell_grown (w := w) (a := ⟨br, 2, none⟩) hbl (block_cell hr 2)
  have g3 := cell_grown (w := w) (a := ⟨br, 3, none⟩) hbl (block_cell hr 3)
  have k3 := block_cell hr 3
  have HR : Hid (RdS w br t ⟨a, en, cl, hv⟩ op) := hr
  clear hr
  have mo := follows
  by_cases hc : cl = 4
  · subst hc
    have hp : ((t.extract a en).toList == m.toList) = B := by
      rw [ByteArray.toList_eq, ByteArray.toList_eq, extract_list, ← hB]; simp [pieceP]
    have HB : Hid (_ = B) := hp
    clear hB hp k3
    have ha' : (a : Int) ≤ (en : Int) := by omega
    have he' : (en : Int) ≤ (t.size : Int) := by omega
    go_enter Tryz.func266, Tryz.ntmps266
    go_wp2_with fail
    go_quiet_grown (fail)
    rw [HB.out]
    have G : Hid (Grew w (grow (w.drewN nq) osq)) := ⟨nq, osq, rfl⟩
    clear g0 g1 g2 g3
    show Exit.then _ _ _ _ (grow (w.drewN nq) osq)
    generalize grow (w.drewN nq) osq = W1 at G ⊢
    clear nq osq
    have HR1 : Hid (RdS W1 br t ⟨a, en, 4, hv⟩ op) := HR.out.of (P := fun _ => True) (Fr.grew G.out) trivial
    clear HB
    cases B with
    | true =>
      go_wp2_with (go_at_call 62; refine (HA.out _ HR1.out).mono ?_; rintro e w' ⟨rfl, hrd, hf⟩; have HR2 : Hid (RdS w' br t _ op) := hrd; have HF : Hid (Fr (· ≠ br) W1 w') := hf; clear hrd hf)
      go_ret
      exact ⟨rfl, HR2.out, (Fr.grew G.out).trans HF.out⟩
    | false =>
      go_wp2_with fail
      go_ret
      exact ⟨rfl, HR1.out, Fr.grew G.out⟩
  · obtain rfl : B = false := by rw [← hB]; simp [hc]
    have hne : ((cl : Int) != 4) = true := by rw [bne_iff_ne]; omega
    clear hB g0 g1 g2 g3 hc
    go_enter Tryz.func266, Tryz.ntmps266
    go_wp2_with fail
    go_quiet (fail)
    have G : Hid (Grew w (w.drewN nq)) := (Grew.refl w).drewN nq
    generalize w.drewN nq = W1 at G ⊢
    clear nq k3
    go_wp2_with fail
    go_ret
    exact ⟨rfl, HR.out.of (P := fun _ => True) (Fr.grew G.out) trivial, Fr.grew G.out⟩
end Go.Proofs.YtbogejmmkohbkaaGreatDoor.Sx

namespace Go.Proofs.YtbogejmmkohbkaaGreatDoor.Sx
open Go.RowKit Go.Sort

def Post (w : World) (br : Nat) (t : ByteArray) (op d : Nat) (R : Except (Nat × Nat) (AV (d + 1) × St)) (e : Ending) (w' : World) : Prop :=
  ∃ v er, e = .returned (.tuple #[.agg #[v], er]) ∧ Fr (· ≠ br) w w' ∧
    match R with
    | .ok (x, s') => er = .nilIface ∧ RepP (fun k => w.heap.size ≤ k) w' (d + 1) x v ∧ wt (d + 1) x ≤ 1024 ∧ RdS w' br t s' op
    | .error (c, p) => er = .iface 61 (.int .i64 (c : Int)) ∧ (∃ x, RepP (fun k => w.heap.size ≤ k) w' (d + 1) x v ∧ wt (d + 1) x ≤ 1024) ∧ ∃ s' : St, s'.at' = p ∧ RdS w' br t s' op

set_option maxRecDepth 100000 in
theorem strClone_any (s : ByteArray) (w : World) (hs : s.size ≤ 4294967296) : Calls Tryz.prog 121 #[.string s] w fun e w' => e = .returned (.string s) ∧ Below w.heap.size w w' := by
  have HC : Hid (Calls _ _ _ _ _) := Tryz.stringslite_Clone s w (by omega)
  go_enter Tryz.func121, Tryz.ntmps121
  go_wp2_with (go_at_call 172; refine HC.out.mono ?_; rintro e w' ⟨rfl, hb⟩; have HB : Hid (Below w.heap.size w w') := hb; clear hb)
  go_ret
  exact ⟨rfl, by assumption⟩

/-- two new boxes behind a call that writes the reader's block alone -/
theorem boxes_fr {w w' : World} {br : Nat} {u v : Value} (hbr : br < w.heap.size) (f : Fr (· ≠ br) ((w.alloc (.cells #[u] 23)).alloc (.cells #[v] 23)) w') :
    w'.cell? ⟨w.heap.size, 0, none⟩ = some u ∧ w'.frozen? ⟨w.heap.size, 0, none⟩ = false ∧ w'.cell? ⟨w.heap.size + 1, 0, none⟩ = some v ∧ w'.frozen? ⟨w.heap.size + 1, 0, none⟩ = false ∧ Fr (· ≠ br) w w' := by
  have h0 : ((w.alloc (.cells #[u] 23)).alloc (.cells #[v] 23)).heap[w.heap.size]? = some (.cells #[u] 23 (0, 0)) := (Below.heap_alloc _ _ _ (by simp)).trans (heap_new rfl)
  have h1 : ((w.alloc (.cells #[u] 23)).alloc (.cells #[v] 23)).heap[w.heap.size + 1]? = some (.cells #[v] 23 (0, 0)) := heap_new (by simp)
  have k0 := (f.block _ (block_lt h0) (by omega)).trans h0
  have k1 := (f.block _ (block_lt h1) (by omega)).trans h1
  exact ⟨block_cell k0 0, frozen_block k0 0, block_cell k1 0, frozen_block k1 0, (((Fr.refl _ w).alloc _).alloc _).trans f⟩

theorem list_ne {p q : List UInt8} (h : p ≠ q) : (p == q) = false := by
  cases e : p == q with
  | false => rfl
  | true => exact absurd (eq_of_beq e) h

theorem Fr.setNew {P : Nat → Prop} {a b : World} (h : Fr P a b) {p : Addr} (hp : a.heap.size ≤ p.block) (u : Value) : Fr P a (b.setCell p u) :=
  ⟨h.os, h.tape, h.output, by simpa using h.size, fun i hi hq => by rw [Below.heap_setCell b p u i (by omega)]; exact h.block i hi hq⟩
theorem RdS.setOther {w : World} {br : Nat} {t : ByteArray} {s : St} {op : Nat} (h : RdS w br t s op) {p : Addr} (hp : br ≠ p.block) (u : Value) : RdS (w.setCell p u) br t s op :=
  (Below.heap_setCell w p u br hp).trans h

/-- the end: the value goes into the result's box -/
theorem post_ok {d : Nat} {w w' : World} {br : Nat} {t : ByteArray} {op : Nat} {x : AV (d + 1)} {s' : St} {v : Value} (hbr : br < w.heap.size) (hf : Fr (· ≠ br) w w') (hx : ∀ W : World, RepP (fun k => w.heap.size ≤ k) W (d + 1) x v) (hw : wt (d + 1) x ≤ 1024) (hr : RdS w' br t s' op) (b : Nat) (hb : w.heap.size ≤ b) (u : Value) :
    Post w br t op d (.ok (x, s')) (.returned (.tuple #[.agg #[v], .nilIface])) (w'.setCell ⟨b, 0, none⟩ u) :=
  ⟨v, .nilIface, rfl, hf.setNew hb u, rfl, hx _, hw, hr.setOther (by simp; omega) u⟩
theorem post_err {d : Nat} {w w' : World} {br : Nat} {t : ByteArray} {op c : Nat} {s' : St} (hf : Fr (· ≠ br) w w') (hr : RdS w' br t s' op) :
    Post w br t op d (.error (c, s'.at')) (.returned (.tuple #[.agg #[.nilIface], .iface 61 (.int .i64 (c : Int))])) w' :=
  ⟨.nilIface, _, rfl, hf, rfl, ⟨(mkNil : Node (AV d)), .inl ⟨rfl, rfl⟩, (by show 1 ≤ 1024; omega)⟩, s', rfl, hr⟩

set_option maxRecDepth 100000 in
set_option maxHeartbeats 2000000 in
/-- a word: nil, a bool, a word of the language, one too long, a name -/
theorem name_any (d : Nat) (w : World) (br : Nat) (t m : ByteArray) (s : St) (op : Nat) (hr : RdS w br t s op) (hen : s.en ≤ t.size) (ht : t.size ≤ 4000) (hm : m.data.toList = pieceP t.data.toList s) :
    Calls Tryz.prog 119 #[.pointer (some ⟨br, 0, none⟩), .string m] w (Post w br t op d
      (if pieceP t.data.toList s = nilT then .ok ((mkNil : Node (AV d)), advP t.data.toList s)
      else if pieceP t.data.toList s = trueT then .ok ((mkBool true : Node (AV d)), advP t.data.toList s)
      else if pieceP t.data.toList s = falseT then .ok ((mkBool false : Node (AV d)), advP t.data.toList s)
      else if isReserved (pieceP t.data.toList s) then .error (1, s.at')
      else if 16 < (pieceP t.data.toList s).length then .error (5, s.at')
      else .ok ((mkAtom (pieceP t.data.toList s) : Node (AV d)), advP t.data.toList s))) := by
  have hbr := block_lt hr
  have HA : Hid (∀ W : World, RdS W br t s op → _) := fun (W : World) (h : RdS W br t s op) => advance_st W br t s op h hen ht
  have HR : Hid (RdS ((w.alloc (.cells #[.nilIface] 23)).alloc (.cells #[.nilIface] 23)) br t s op) := hr.of (P := fun _ => True) (Fr.grew (((Grew.refl w).alloc _).alloc _)) trivial
  have HR0 : Hid (RdS w br t s op) := hr
  have hres := fun W => reserved_any m W
  rw [← hm]
  have hsz : m.data.toList.length = m.size := by simp
  have hmT : m.toList = m.data.toList := ByteArray.toList_eq m
  clear hr hm
  by_cases c1 : m.data.toList = nilT
  · rw [if_pos c1]
    have h1 : (m.toList == [110, 105, 108]) = true := by rw [hmT, c1]; rfl
    clear hmT c1 hsz hres
    go_enter Tryz.func119, Tryz.ntmps119
    go_wp2_with (go_at_call 62; refine (HA.out _ HR.out).mono ?_; rintro e w' ⟨rfl, hrd, hf⟩; obtain ⟨x0, x1, x2, x3, hf'⟩ := boxes_fr hbr hf; have HR2 : Hid (RdS w' br t _ op) := hrd; have HF : Hid (Fr (· ≠ br) w w') := hf'; clear hrd hf hf')
    have r0 := World.cell?_setCell_same _ _ .nilIface x0
    exact bodyPost_ret (v := .tuple #[.agg #[.nilIface], .nilIface]) (by simp [results, Tryz.results119, go_sem, r0]) rfl (post_ok hbr HF.out (fun _ => .inl ⟨rfl, rfl⟩) (by show 1 ≤ 1024; omega) HR2.out _ (Nat.le_refl _) _)
  · rw [if_neg c1]
    have h1 : (m.toList == [110, 105, 108]) = false := by rw [hmT]; exact list_ne c1
    by_cases c2 : m.data.toList = trueT
    · rw [if_pos c2]
      have h2 : (m.toList == [116, 114, 117, 101]) = true := by rw [hmT, c2]; rfl
      clear hmT c1 c2 hsz hres
      have HR' : Hid (RdS ((w.alloc (.cells #[.nilIface] 23)).alloc (.cells #[.iface 4 (.bool true)] 23)) br t s op) := HR0.out.of (P := fun _ => True) (Fr.grew (((Grew.refl w).alloc _).alloc _)) trivial
      go_enter Tryz.func119, Tryz.ntmps119
      go_wp2_with (go_at_call 62; refine (HA.out _ HR'.out).mono ?_; rintro e w' ⟨rfl, hrd, hf⟩; obtain ⟨x0, x1, x2, x3, hf'⟩ := boxes_fr hbr hf; have HR2 : Hid (RdS w' br t _ op) := hrd; have HF : Hid (Fr (· ≠ br) w w') := hf'; clear hrd hf hf')
      have r0 := World.cell?_setCell_same _ _ (.iface 4 (.bool true)) x0
      exact bodyPost_ret (v := .tuple #[.agg #[.iface 4 (.bool true)], .nilIface]) (by simp [results, Tryz.results119, go_sem, r0]) rfl (post_ok hbr HF.out (fun _ => .inr (.inl ⟨true, rfl, rfl⟩)) (by show 1 ≤ 1024; omega) HR2.out _ (Nat.le_refl _) _)
    · rw [if_neg c2]
      have h2 : (m.toList == [116, 114, 117, 101]) = false := by rw [hmT]; exact list_ne c2
      by_cases c3 : m.data.toList = falseT
      · rw [if_pos c3]
        have h3 : (m.toList == [102, 97, 108, 115, 101]) = true := by rw [hmT, c3]; rfl
        clear hmT c1 c2 c3 hsz hres
        have HR' : Hid (RdS ((w.alloc (.cells #[.nilIface] 23)).alloc (.cells #[.iface 4 (.bool false)] 23)) br t s op) := HR0.out.of (P := fun _ => True) (Fr.grew (((Grew.refl w).alloc _).alloc _)) trivial
        go_enter Tryz.func119, Tryz.ntmps119
        go_wp2_with (go_at_call 62; refine (HA.out _ HR'.out).mono ?_; rintro e w' ⟨rfl, hrd, hf⟩; obtain ⟨x0, x1, x2, x3, hf'⟩ := boxes_fr hbr hf; have HR2 : Hid (RdS w' br t _ op) := hrd; have HF : Hid (Fr (· ≠ br) w w') := hf'; clear hrd hf hf')
        have r0 := World.cell?_setCell_same _ _ (.iface 4 (.bool false)) x0
        exact bodyPost_ret (v := .tuple #[.agg #[.iface 4 (.bool false)], .nilIface]) (by simp [results, Tryz.results119, go_sem, r0]) rfl (post_ok hbr HF.out (fun _ => .inr (.inl ⟨false, rfl, rfl⟩)) (by show 1 ≤ 1024; omega) HR2.out _ (Nat.le_refl _) _)
      · rw [if_neg c3]
        have h3 : (m.toList == [102, 97, 108, 115, 101]) = false := by rw [hmT]; exact list_ne c3
        by_cases c4 : isReserved m.data.toList = true
        · rw [if_pos c4]
          rw [c4] at hres
          have HRES : Hid (∀ W : World, _) := hres
          clear hmT c1 c2 c3 c4 hsz hres
          go_enter Tryz.func119, Tryz.ntmps119
          go_wp2_with (go_at_call 169; refine (HRES.out _).mono ?_; rintro e w' ⟨rfl, hw⟩; cases hw)
          exact bodyPost_ret (v := .tuple #[.agg #[.nilIface], .iface 61 (.int .i64 1)]) (by simp [results, Tryz.results119, go_sem]) rfl (post_err (c := 1) (Fr.grew (((Grew.refl w).alloc _).alloc _)) HR.out)
        · rw [if_neg c4]
          rw [show isReserved m.data.toList = false from by simpa using c4] at hres
          have HRES : Hid (∀ W : World, _) := hres
          by_cases c5 : 16 < m.data.toList.length
          · rw [if_pos c5]
            have h5 : (16 : Int) < (m.size : Int) := by omega
            clear hmT c1 c2 c3 c4 hsz hres c5
            go_enter Tryz.func119, Tryz.ntmps119
            go_wp2_with (go_at_call 169; refine (HRES.out _).mono ?_; rintro e w' ⟨rfl, hw⟩; cases hw)
            exact bodyPost_ret (v := .tuple #[.agg #[.nilIface], .iface 61 (.int .i64 5)]) (by simp [results, Tryz.results119, go_sem]) rfl (post_err (c := 5) (Fr.grew (((Grew.refl w).alloc _).alloc _)) HR.out)
          · rw [if_neg c5]
            have h5 : ¬ (16 : Int) < (m.size : Int) := by omega
            have HCl : Hid (∀ W : World, _) := fun W => strClone_any m W (by omega)
            clear hmT c1 c2 c3 c4 hsz hres c5
            go_enter Tryz.func119, Tryz.ntmps119
            go_wp2_with (first | (go_at_call 169; refine (HRES.out _).mono ?_; rintro e w' ⟨rfl, hw⟩; cases hw))
            refine (HCl.out _).mono ?_
            rintro e w2 ⟨rfl, hb⟩
            have h0 : w2.heap[w.heap.size]? = some (.cells #[.nilIface] 23 (0, 0)) := (hb.block _ (by simp; omega)).trans ((Below.heap_alloc _ _ _ (by simp)).trans (heap_new rfl))
            have h1 : w2.heap[w.heap.size + 1]? = some (.cells #[.nilIface] 23 (0, 0)) := (hb.block _ (by simp)).trans (heap_new (by simp))
            have y0 := block_cell h1 0
            have y1 := frozen_block h1 0
            have F2 : Hid (Fr (· ≠ br) w (w2.setCell ⟨w.heap.size + 1, 0, none⟩ (.iface 120 (.string m)))) := ((((Fr.refl _ w).alloc _).alloc _).trans (Fr.below hb)).setNew (by simp) _
            have R2 : Hid (RdS (w2.setCell ⟨w.heap.size + 1, 0, none⟩ (.iface 120 (.string m))) br t s op) := RdS.setOther (s := s) (HR.out.of (P := fun _ => True) (Fr.below hb) trivial) (by simp; omega) _
            have H0 : Hid ((w2.setCell ⟨w.heap.size + 1, 0, none⟩ (.iface 120 (.string m))).heap[w.heap.size]? = some (.cells #[.nilIface] 23 (0, 0))) := (Below.heap_setCell _ _ _ _ (by simp)).trans h0
            have H1 : Hid ((w2.setCell ⟨w.heap.size + 1, 0, none⟩ (.iface 120 (.string m))).heap[w.heap.size + 1]? = some (.cells #[.iface 120 (.string m)] 23 (0, 0))) := set_block h1 0 _
            clear hb h0 h1
            go_wp2_with (go_at_call 62; refine (HA.out _ R2.out).mono ?_; rintro e w' ⟨rfl, hrd, hf⟩; have k0 := (hf.block _ (block_lt H0.out) (by omega)).trans H0.out; have k1 := (hf.block _ (block_lt H1.out) (by omega)).trans H1.out; have x0 := block_cell k0 0; have x1 := frozen_block k0 0; have x2 := block_cell k1 0; have x3 := frozen_block k1 0; have HR2 : Hid (RdS w' br t _ op) := hrd; have HF : Hid (Fr (· ≠ br) w w') := F2.out.trans hf; clear hrd hf k0 k1)
            have r0 := World.cell?_setCell_same _ _ (.iface 120 (.string m)) x0
            exact bodyPost_ret (v := .tuple #[.agg #[.iface 120 (.string m)], .nilIface]) (by simp [results, Tryz.results119, go_sem, r0]) rfl (post_ok hbr HF.out (fun _ => .inr (.inr (.inr (.inr (.inl ⟨m, rfl, rfl⟩))))) (by show 1 ≤ 1024; omega) HR2.out _ (Nat.le_refl _) _)
end Go.Proofs.YtbogejmmkohbkaaGreatDoor.Sx

namespace Go.Proofs.YtbogejmmkohbkaaGreatDoor.Sx

def Fwd (T : List UInt8) (s s' : St) : Prop := s'.at' ≤ s'.en ∧ s'.en ≤ T.length ∧ s.en ≤ s'.at'
def GoodI {β : Type} (T : List UInt8) (item : St → Except (Nat × Nat) (β × St)) : Prop := ∀ s x s', s.en ≤ T.length → item s = .ok (x, s') → Fwd T s s'

theorem fwd_adv (T : List UInt8) (s : St) (h : s.en ≤ T.length) : Fwd T s (advP T s) := advP_le T s h
theorem Fwd.trans {T : List UInt8} {a b c : St} (h : Fwd T a b) (k : Fwd T b c) : Fwd T a c := ⟨k.1, k.2.1, by have := h.1; have := h.2.2; have := k.2.2; omega⟩

/-- a text in quotes has both -/
def TokOK (s : St) : Prop := s.cl = 3 → s.at' + 2 ≤ s.en
theorem qScan_two : ∀ (l : List UInt8) (i : Nat), (qScan l i).1 = 3 → i + 1 ≤ (qScan l i).2
  | [], i, h => by simp [qScan] at h
  | c :: r, i, h => by
    simp only [qScan] at h ⊢
    split at h
    · rename_i q; rw [if_pos q]; exact Nat.le_refl _
    · rename_i q
      rw [if_neg q]
      split at h
      · rename_i q2; rw [if_pos q2]; have := qScan_two r (i + 1) h; omega
      · simp at h
theorem digitsT_cls (l : List UInt8) : (digitsT l).1 = 2 ∨ (digitsT l).1 = 5 := by
  unfold digitsT; repeat' split
  all_goals first | exact .inl rfl | exact .inr rfl
theorem tok_two (l : List UInt8) (h : (tokT l).1 = 3) : 2 ≤ (tokT l).2 := by
  unfold tokT at h ⊢
  by_cases q0 : l.length = 0
  · rw [if_pos q0] at h; exact absurd h (by decide)
  rw [if_neg q0] at h ⊢
  by_cases q1 : isLetter (byteAt l 0) = true
  · rw [if_pos q1] at h; exact absurd h (by show ¬ 1 = 3; decide)
  rw [if_neg q1] at h ⊢
  by_cases q2 : isDigit (byteAt l 0) = true
  · rw [if_pos q2] at h
    rcases digitsT_cls l with e | e <;> rw [e] at h <;> exact absurd h (by decide)
  rw [if_neg q2] at h ⊢
  by_cases q3 : (byteAt l 0).toNat = 45
  · rw [if_pos q3] at h
    unfold negT at h
    split at h
    · exact absurd h (by show ¬ 5 = 3; decide)
    · have h' : (digitsT (l.drop 1)).1 = 3 := h
      rcases digitsT_cls (l.drop 1) with e | e <;> rw [e] at h' <;> exact absurd h' (by decide)
  rw [if_neg q3] at h ⊢
  by_cases q4 : (byteAt l 0).toNat = 34
  · rw [if_pos q4] at h ⊢
    exact qScan_two _ _ h
  · rw [if_neg q4] at h
    unfold signT at h
    repeat' split at h
    all_goals exact absurd h (by first | (show ¬ 4 = 3; decide) | (show ¬ 5 = 3; decide))
theorem tok_adv (T : List UInt8) (s : St) : TokOK (advP T s) := by
  intro h
  have := tok_two _ h
  simp only [advP]
  omega

/-- a sign is not empty -/
theorem isP_pos {T : List UInt8} {s : St} {c : UInt8} {m : List UInt8} (h : isP T s (c :: m) = true) : s.at' < s.en := by
  simp only [isP, Bool.and_eq_true, beq_iff_eq] at h
  have := congrArg List.length h.2
  simp [pieceP] at this
  omega

theorem listP_good {β : Type} {T closing : List UInt8} {item : St → Except (Nat × Nat) (β × St)} (H : GoodI T item) : ∀ f, GoodI T (listP T closing item f)
  | 0, s, x, s', _, h => by simp [listP] at h
  | f + 1, s, x, s', hs, h => by
    simp only [listP] at h
    cases hi : item s with
    | error e => rw [hi] at h; simp at h
    | ok q =>
      obtain ⟨y, s1⟩ := q
      have f1 := H s y s1 hs hi
      rw [hi] at h
      simp only at h
      split at h
      · simp only [Except.ok.injEq, Prod.mk.injEq] at h
        rw [← h.2]
        exact f1.trans (fwd_adv T s1 f1.2.1)
      · split at h
        · cases hl : listP T closing item f (advP T s1) with
          | error e => rw [hl] at h; simp at h
          | ok q =>
            obtain ⟨l, s2⟩ := q
            rw [hl] at h
            simp only [Except.ok.injEq, Prod.mk.injEq] at h
            rw [← h.2]
            have f2 := fwd_adv T s1 f1.2.1
            exact (f1.trans f2).trans (listP_good H f _ l s2 f2.2.1 hl)
        · simp at h
theorem valuesP_good {β : Type} {T closing : List UInt8} {item : St → Except (Nat × Nat) (β × St)} (H : GoodI T item) : GoodI T (valuesP T closing item) := by
  intro s x s' hs h
  unfold valuesP at h
  split at h
  · simp only [Except.ok.injEq, Prod.mk.injEq] at h
    rw [← h.2]; exact fwd_adv T s hs
  · exact listP_good H _ s x s' hs h
theorem pairP_good {β : Type} {T : List UInt8} {item : St → Except (Nat × Nat) (β × St)} (H : GoodI T item) : GoodI T (pairP T item) := by
  intro s x s' hs h
  unfold pairP at h
  cases hi : item s with
  | error e => rw [hi] at h; simp at h
  | ok q =>
    obtain ⟨y, s1⟩ := q
    have f1 := H s y s1 hs hi
    rw [hi] at h
    simp only at h
    split at h
    · have f2 := fwd_adv T s1 f1.2.1
      cases hl : item (advP T s1) with
      | error e => rw [hl] at h; simp at h
      | ok q =>
        obtain ⟨z, s2⟩ := q
        rw [hl] at h
        simp only [Except.ok.injEq, Prod.mk.injEq] at h
        rw [← h.2]
        exact (f1.trans f2).trans (H _ z s2 f2.2.1 hl)
    · simp at h
theorem bracketP_good {m : Nat} {T : List UInt8} {item : St → Except (Nat × Nat) (AV (m + 1) × St)} (H : GoodI T item) : GoodI T (bracketP T item) := by
  intro s x s' hs h
  have f0 := fwd_adv T s hs
  have fin : ∀ (s1 : St) (b : Bool), Fwd T (advP T s) s1 → Fwd T s { s1 with hv := b } := fun s1 b k => f0.trans k
  unfold bracketP at h
  split at h
  · cases hl : valuesP T [125] item (advP T s) with
    | error e => rw [hl] at h; simp at h
    | ok q =>
      rw [hl] at h
      have h2 := congrArg Prod.snd (Except.ok.inj h)
      simp only at h2
      rw [← h2]; exact fin _ _ (valuesP_good H _ _ _ f0.2.1 hl)
  · split at h
    · cases hl : valuesP T [62, 62] item (advP T s) with
      | error e => rw [hl] at h; simp at h
      | ok q =>
        rw [hl] at h
        have h2 := congrArg Prod.snd (Except.ok.inj h)
        simp only at h2
        rw [← h2]; exact fin _ _ (valuesP_good H _ _ _ f0.2.1 hl)
    · split at h
      · cases hl : listP T [93] (pairP T item) (T.length + 1) (advP T s) with
        | error e => rw [hl] at h; simp at h
        | ok q =>
          rw [hl] at h
          have h2 := congrArg Prod.snd (Except.ok.inj h)
          simp only at h2
          rw [← h2]; exact fin _ _ (listP_good (pairP_good H) _ _ _ _ f0.2.1 hl)
      · simp at h
theorem leafP_good {m : Nat} {T : List UInt8} {br : St → Except (Nat × Nat) (AV (m + 1) × St)} (H : GoodI T br) : GoodI T (leafP T br) := by
  intro s x s' hs h
  have f0 := fwd_adv T s hs
  unfold leafP at h
  repeat' split at h
  all_goals first
    | (have h2 := congrArg Prod.snd (Except.ok.inj h); simp only at h2; rw [← h2]; exact f0)
    | (simp at h; done)
    | (exact H s x s' hs h)
theorem valueP_good (T : List UInt8) : ∀ d, GoodI T (valueP T d)
  | 0 => leafP_good (fun s x s' _ h => by split at h <;> simp at h)
  | d + 1 => leafP_good (bracketP_good (valueP_good T d))
end Go.Proofs.YtbogejmmkohbkaaGreatDoor.Sx

namespace Go.Proofs.YtbogejmmkohbkaaGreatDoor.Sx
open Go.RowKit Go.Sort

/-- the library's error, where it lies -/
def Env (w : World) (br : Nat) : Prop := br ≠ 4 ∧ 4 < w.heap.size ∧ (∃ ev, w.cell? ⟨4, 0, none⟩ = some ev ∧ (ev = .nilIface ∨ ∃ te pe, ev = .iface te pe)) ∧ br ≠ 3 ∧ ∃ ev, w.cell? ⟨3, 0, none⟩ = some ev ∧ (ev = .nilIface ∨ ∃ te pe, ev = .iface te pe)
theorem Env.fr {w w' : World} {br : Nat} (h : Env w br) (f : Fr (· ≠ br) w w') : Env w' br := by
  obtain ⟨h1, h2, ⟨ev, h3, h4⟩, h5, ew, h6, h7⟩ := h
  exact ⟨h1, Nat.lt_of_lt_of_le h2 f.size, ⟨ev, (World.cell?_of_block (w := w) (f.block 4 h2 (Ne.symm h1))).trans h3, h4⟩, h5, ew, (World.cell?_of_block (w := w) (f.block 3 (by omega) (Ne.symm h5))).trans h6, h7⟩

def ValOK (d : Nat) : Prop := ∀ (w : World) (br : Nat) (t : ByteArray) (s : St), Env w br → RdS w br t s (24 - d) → s.at' ≤ s.en → TokOK s → s.en ≤ t.size → t.size ≤ 4000 →
  Calls Tryz.prog 63 #[.pointer (some ⟨br, 0, none⟩)] w (Post w br t (24 - d) d (valueP t.data.toList d s))

/-- the list so far: its variable, its row, its values -/
def LIx (n : Nat) (w : World) (bl base : Nat) (es : List (AV n)) (sl : Value) (vs : List Value) : Prop :=
  w.heap[bl]? = some (.cells #[sl] 47 (0, 0)) ∧ w.ownsRow base 23 1 sl es.length vs ∧ (∀ (i : Nat) (x : AV n), es[i]? = some x → ∃ v, vs[i]? = some v ∧ RepP (fun k => base ≤ k ∧ sl.ownBlock ≠ some k) w n x v) ∧ ∀ x ∈ es, wt n x ≤ 1024
def LI (n : Nat) (w : World) (bl base : Nat) (es : List (AV n)) : Prop := ∃ (sl : Value) (vs : List Value), LIx n w bl base es sl vs

theorem owns_of {w w' : World} {base : Nat} {sl : Value} {n : Nat} {vs : List Value} (h : w.ownsRow base 23 1 sl n vs) (hb : ∀ g, sl.ownBlock = some g → base ≤ g → g < w.heap.size → w'.heap[g]? = w.heap[g]?) : w'.ownsRow base 23 1 sl n vs := by
  refine ⟨h.1, ?_⟩
  rcases h.2 with h' | ⟨g, cap, cur, e, hg, hq, r⟩
  · exact .inl h'
  · exact .inr ⟨g, cap, cur, e, hg, (hb g (by rw [e]; rfl) hg (block_lt hq)).trans hq, r⟩

theorem LIx.fr {n : Nat} {w w' : World} {bl base br : Nat} {es : List (AV n)} {sl : Value} {vs : List Value} (h : LIx n w bl base es sl vs) (f : Fr (· ≠ br) w w') (hbr : br < base) (hbl : bl ≠ br) : LIx n w' bl base es sl vs := by
  obtain ⟨h1, h2, h3, h4⟩ := h
  refine ⟨(f.block bl (block_lt h1) hbl).trans h1, owns_of h2 (fun g _ hg hlt => f.block g hlt (by omega)), fun i x hx => ?_, h4⟩
  obtain ⟨v, hv, hr⟩ := h3 i x hx
  exact ⟨v, hv, hr.keep (f.mono fun k hk => by have := hk.1; omega)⟩

theorem own_lt {w : World} {base : Nat} {sl : Value} {n g : Nat} {vs : List Value} (h : w.ownsRow base 23 1 sl n vs) (hg : sl.ownBlock = some g) : base ≤ g ∧ g < w.heap.size := by
  rcases h.2 with ⟨rfl, _⟩ | ⟨g', cap, cur, rfl, hb, hq, _⟩
  · simp [Value.ownBlock] at hg
  · simp [Value.ownBlock] at hg; subst hg; exact ⟨hb, block_lt hq⟩

theorem Fr.grown {P : Nat → Prop} {a b c : World} {row : Option Nat} (h : Fr P a b) (g : b.grownBy c row) (hr : ∀ k, k < a.heap.size → row = some k → ¬ P k) : Fr P a c :=
  ⟨g.os.trans h.os, g.tape.trans h.tape, g.output.trans h.output, Nat.le_trans h.size g.size, fun k hk hp => (g.block k (Nat.lt_of_lt_of_le hk h.size) (fun e => hr k hk e.symm hp)).trans (h.block k hk hp)⟩

/-- one value more -/
theorem LI.push {n : Nat} {w w1 w2 : World} {bl base br g cap : Nat} {es : List (AV n)} {sl u : Value} {vs : List Value} {x : AV n} {v : Value}
    (h2 : w1.ownsRow base 23 1 sl es.length vs) (h3 : ∀ (i : Nat) (x : AV n), es[i]? = some x → ∃ v, vs[i]? = some v ∧ RepP (fun k => base ≤ k ∧ sl.ownBlock ≠ some k) w1 n x v) (h4 : ∀ x ∈ es, wt n x ≤ 1024)
    (hx : RepP (fun k => w.heap.size ≤ k) w1 n x v) (hw : wt n x ≤ 1024) (hbase : base ≤ w.heap.size) (hsl : ∀ q, sl.ownBlock = some q → q < w.heap.size)
    (ho : w2.ownsRow base 23 1 (.slice (some ⟨g, 0, none⟩) (es.length + 1) cap) (es.length + 1) (vs ++ [v])) (hg : w1.grownBy w2 sl.ownBlock) (hat : sl.ownBlock = some g ∨ w1.heap.size ≤ g)
    (hbl : bl < base) (hb : w2.heap[bl]? = some (.cells #[u] 47 (0, 0))) (_ : br = br) :
    LI n (w2.setCell ⟨bl, 0, none⟩ (.slice (some ⟨g, 0, none⟩) (es.length + 1) cap)) bl base (es ++ [x]) := by
  have hgb : base ≤ g := (own_lt ho (by rfl)).1
  have keep : ∀ (y : AV n) (u : Value), RepP (fun k => base ≤ k ∧ sl.ownBlock ≠ some k) w1 n y u → RepP (fun k => base ≤ k ∧ (Value.slice (some ⟨g, 0, none⟩) (es.length + 1) cap).ownBlock ≠ some k) (w2.setCell ⟨bl, 0, none⟩ (.slice (some ⟨g, 0, none⟩) (es.length + 1) cap)) n y u := by
    intro y u hy
    have f1 : Fr (fun k => base ≤ k ∧ sl.ownBlock ≠ some k) w1 w2 := (Fr.refl _ w1).grown hg (fun k _ e hp => hp.2 e)
    refine hy.fr (f1.set (by simp; omega) _) (fun k hk hp => ⟨hp.1, fun e => ?_⟩) n y u
    simp only [Value.ownBlock, Option.some.injEq] at e
    subst e
    rcases hat with q | q
    · exact hp.2 q
    · omega
  refine ⟨_, vs ++ [v], set_block hb 0 _, ?_, fun i y hy => ?_, fun y hy => ?_⟩
  · rw [List.length_append]
    exact owns_of ho (fun q hq hbq _ => by rw [Below.heap_setCell _ _ _ _ (by simp; omega)])
  · by_cases hi : i < es.length
    · rw [List.getElem?_append_left hi] at hy
      obtain ⟨u, hu, hr⟩ := h3 i y hy
      have hiv : i < vs.length := (List.getElem?_eq_some_iff.1 hu).1
      exact ⟨u, by rw [List.getElem?_append_left hiv]; exact hu, keep y u hr⟩
    · have hvl : vs.length = es.length := by have := h2.1; omega
      have hie : i = es.length := by
        have := (List.getElem?_eq_some_iff.1 hy).1
        simp at this; omega
      subst hie
      rw [List.getElem?_append_right (Nat.le_refl _)] at hy
      simp at hy
      subst hy
      refine ⟨v, by rw [List.getElem?_append_right (by omega)]; simp [hvl], ?_⟩
      exact keep x v (hx.fr (Fr.refl _ w1) (fun k _ hk => ⟨by omega, fun e => by have := hsl k e; omega⟩) n x v)
  · rcases List.mem_append.1 hy with q | q
    · exact h4 y q
    · simp at q; subst q; exact hw

def ItemPost (w : World) (br bl base : Nat) (t : ByteArray) (op d : Nat) (es : List (AV (d + 1))) (R : Except (Nat × Nat) (AV (d + 1) × St)) (e : Ending) (w' : World) : Prop :=
  ∃ er, e = .returned er ∧ Fr (fun k => k < base ∧ k ≠ br ∧ k ≠ bl) w w' ∧
    match R with
    | .ok (x, s') => er = .nilIface ∧ LI (d + 1) w' bl base (es ++ [x]) ∧ RdS w' br t s' op
    | .error (c, p) => er = .iface 61 (.int .i64 (c : Int)) ∧ (∃ es', LI (d + 1) w' bl base es' ∧ es'.length = es.length + 1) ∧ ∃ s' : St, s'.at' = p ∧ RdS w' br t s' op

def PTail {d : Nat} (w' : World) (br : Nat) (t : ByteArray) (op : Nat) (R : Except (Nat × Nat) (AV (d + 1) × St)) (er : Value) (x : AV (d + 1)) : Prop :=
  match R with
  | .ok (y, s') => er = .nilIface ∧ x = y ∧ RdS w' br t s' op
  | .error (c, p) => er = .iface 61 (.int .i64 (c : Int)) ∧ ∃ s' : St, s'.at' = p ∧ RdS w' br t s' op
theorem PTail.keep {d : Nat} {w w' : World} {br : Nat} {t : ByteArray} {op : Nat} {R : Except (Nat × Nat) (AV (d + 1) × St)} {er : Value} {x : AV (d + 1)} (h : PTail w br t op R er x) (hb : w'.heap[br]? = w.heap[br]?) : PTail w' br t op R er x := by
  cases R with
  | ok q => obtain ⟨h1, h2, h3⟩ := h; exact ⟨h1, h2, hb.trans h3⟩
  | error q => obtain ⟨h1, s', h2, h3⟩ := h; exact ⟨h1, s', h2, hb.trans h3⟩

/-- what the walk of an item needs of the value's call, on both ways -/
theorem post_split {d : Nat} {w w' : World} {br : Nat} {t : ByteArray} {op : Nat} {R : Except (Nat × Nat) (AV (d + 1) × St)} {e : Ending} (h : Post w br t op d R e w') :
    ∃ v er x, e = .returned (.tuple #[.agg #[v], er]) ∧ Fr (· ≠ br) w w' ∧ RepP (fun k => w.heap.size ≤ k) w' (d + 1) x v ∧ wt (d + 1) x ≤ 1024 ∧ (er = .nilIface ∨ ∃ c : Nat, er = .iface 61 (.int .i64 (c : Int))) ∧
      PTail w' br t op R er x := by
  obtain ⟨v, er, he, hf, hm⟩ := h
  cases R with
  | ok q =>
    obtain ⟨x, s'⟩ := q
    obtain ⟨h1, h2, h3, h4⟩ := hm
    exact ⟨v, er, x, he, hf, h2, h3, .inl h1, h1, rfl, h4⟩
  | error q =>
    obtain ⟨c, p⟩ := q
    obtain ⟨h1, ⟨x, h2, h3⟩, h4⟩ := hm
    exact ⟨v, er, x, he, hf, h2, h3, .inr ⟨c, h1⟩, h1, h4⟩

theorem RdS.mono {w w' : World} {br : Nat} {t : ByteArray} {s : St} {op : Nat} (h : RdS w br t s op) (hb : w'.heap[br]? = w.heap[br]?) : RdS w' br t s op := hb.trans h

set_option maxRecDepth 100000 in
set_option maxHeartbeats 2000000 in
theorem item_any (d : Nat) (V : ValOK d) (w : World) (br bR bl base : Nat) (t : ByteArray) (s : St) (es : List (AV (d + 1))) (hE : Env w br) (hr : RdS w br t s (24 - d)) (ha : s.at' ≤ s.en) (hk : TokOK s) (hen : s.en ≤ t.size) (ht : t.size ≤ 4000)
    (hR : w.heap[bR]? = some (.cells #[.pointer (some ⟨br, 0, none⟩)] 108 (0, 0))) (hL : LI (d + 1) w bl base es) (h1 : br < base) (h3 : bl < base) (h4 : base ≤ w.heap.size) (n1 : br ≠ bl) (hlen : es.length ≤ 5000) :
    Calls Tryz.prog 301 #[.pointer (some ⟨bR, 0, none⟩), .pointer (some ⟨bl, 0, none⟩)] w (ItemPost w br bl base t (24 - d) d es (valueP t.data.toList d s)) := by
  have HV : Hid (Calls _ _ _ _ _) := V w br t s hE hr ha hk hen ht
  have k0 := block_cell hR 0
  obtain ⟨i0, hi, hz0, hz1, hz2⟩ := info_parts info23
  generalize valueP t.data.toList d s = R at HV ⊢
  have HL : Hid (LI (d + 1) w bl base es) := hL
  clear hE hr hR hL V hk
  go_enter Tryz.func301, Tryz.ntmps301
  go_wp2_with fail
  refine HV.out.mono ?_
  intro e w1 hp
  obtain ⟨v, er, x, rfl, hf, hx, hw, her, hm⟩ := post_split hp
  clear hp HV
  obtain ⟨sl, vs, hlx⟩ := HL.out
  have hslb : ∀ q, sl.ownBlock = some q → q < w.heap.size := fun q hq => (own_lt hlx.2.1 hq).2
  obtain ⟨l1, l2, l3, l4⟩ := hlx.fr hf h1 (Ne.symm n1)
  have hle := hf.size
  have st := store_one (hx.rep _ _ _).one
  have c1 := block_cell l1 0
  have c2 := frozen_block l1 0
  have hblt := block_lt l1
  have cc := (hx.rep _ _ _).one
  have HOWN : Hid (((w1.alloc (.cells #[v] 23)).alloc (.cells #[v] 23)).ownsRow base 23 1 sl es.length vs) := (l2.alloc _).alloc _
  have HB1 : Hid (w1.heap[bl]? = _) := l1
  have HX : Hid (RepP _ w1 (d + 1) x v) := hx
  have HT : Hid (PTail w1 br t (24 - d) R er x) := hm
  have HF : Hid (Fr (· ≠ br) w w1) := hf
  have HL2 : Hid (w1.ownsRow base 23 1 sl es.length vs) := l2
  have HL3 : Hid (∀ (i : Nat) (x : AV (d + 1)), _) := l3
  have HL4 : Hid (∀ x ∈ es, _) := l4
  clear l1 l2 l3 l4 hx hm hf HL hlx
  go_wp2_with (at_builtin; refine wpList_append_lies _ rfl (.tmp 10) (.tmp 12) 47 rfl base 23 i0 (.agg #[.nilIface]) 1 16 Tryz.underlying47 hi hz0 hz1 hz2 rfl (by decide) sl es.length vs rfl HOWN.out ⟨w1.heap.size + 1, 0, none⟩ 1 1 [v] rfl rfl ?q1 ?q2 (by decide) ?q3 ?q4 ?q5 (w1.heap.size + 2) ?q6 ?_)
  case q1 =>
    intro j u hj
    match j, hj with
    | 0, hj =>
      simp at hj
      subst hj
      simp [Addr.add]
  case q2 => intro u hu; simp at hu; subst hu; exact cc
  case q3 => unfold maxLen; omega
  case q4 => omega
  case q5 => simp; omega
  case q6 => simp
  intro g cap w2 ho hg hat hlt
  have hgr : w1.grownBy w2 sl.ownBlock := by
    have a1 := World.grownBy_alloc w1 (.cells #[v] 23) sl.ownBlock
    have a2 := World.grownBy_alloc (w1.alloc (.cells #[v] 23)) (.cells #[v] 23) sl.ownBlock
    refine ⟨hg.os, hg.tape, hg.output, ?_, fun k hk hne => ?_⟩
    · have := hg.size; simp at this; omega
    · rw [hg.block k (by simp; omega) hne, a2.block k (by simp; omega) hne, a1.block k hk hne]
  have nb : ∀ k, k < base → some k ≠ sl.ownBlock := fun k hk e => by have := (own_lt HL2.out e.symm).1; omega
  have hB2 : w2.heap[bl]? = some (.cells #[sl] 47 (0, 0)) := (hgr.block bl hblt (nb bl h3)).trans HB1.out
  have d1 := block_cell hB2 0
  have d2 := frozen_block hB2 0
  have hbr2 : w2.heap[br]? = w1.heap[br]? := hgr.block br (by omega) (nb br h1)
  have HLI : Hid (LI (d + 1) (w2.setCell ⟨bl, 0, none⟩ (.slice (some ⟨g, 0, none⟩) (es.length + 1) cap)) bl base (es ++ [x])) :=
    LI.push (br := br) HL2.out HL3.out HL4.out HX.out hw h4 hslb ho hgr (hat.imp id fun e => by omega) h3 hB2 rfl
  have HTT : Hid (PTail (w2.setCell ⟨bl, 0, none⟩ (.slice (some ⟨g, 0, none⟩) (es.length + 1) cap)) br t (24 - d) R er x) := HT.out.keep ((Below.heap_setCell _ _ _ _ n1).trans hbr2)
  have HFF : Hid (Fr (fun k => k < base ∧ k ≠ br ∧ k ≠ bl) w (w2.setCell ⟨bl, 0, none⟩ (.slice (some ⟨g, 0, none⟩) (es.length + 1) cap))) :=
    ((HF.out.mono (Q := fun k => k < base ∧ k ≠ br ∧ k ≠ bl) fun k hk => hk.2.1).grown hgr (fun k _ e hp => nb k hp.1 e.symm)).set (by simp) _
  clear ho hg hat hlt hgr nb hB2 hbr2 HL2 HL3 HL4 HX HT HF HB1 HOWN
  go_wp2_with fail
  go_ret
  refine ⟨er, rfl, HFF.out, ?_⟩
  have hT := HTT.out
  cases R with
  | ok q =>
    obtain ⟨y, s'⟩ := q
    obtain ⟨e1, rfl, e3⟩ := hT
    exact ⟨e1, HLI.out, e3⟩
  | error q =>
    obtain ⟨c, p⟩ := q
    obtain ⟨e1, s', e2, e3⟩ := hT
    exact ⟨e1, ⟨es ++ [x], HLI.out, by simp⟩, s', e2, e3⟩
end Go.Proofs.YtbogejmmkohbkaaGreatDoor.Sx
