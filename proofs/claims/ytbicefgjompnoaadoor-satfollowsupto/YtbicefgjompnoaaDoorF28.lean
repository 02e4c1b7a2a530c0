/- The store: look, its pieces. -/
import Derived.Test.YtbicefgjompnoaaDoorF18
import Derived.Test.YtbicefgjompnoaaDoorF20
import Derived.Test.YtbicefgjompnoaaDoorF24
import Derived.Lib.AppendZeros
import Derived.WalkMore
namespace Go.Proofs.YtbicefgjompnoaaDoor.Sx
open Go.RowKit Go.Sort

/-- an append that has room, its world -/
theorem wpList_append_here (w : World) {ops : Array Oper} {rest : List Oper} {o : Oper} {a : Act} {Q : Exit → Act → World → Prop} (hgd : o.guard = none) (s x : Operand) (t : TypeId)
    (ho : o.op = .call { callee := .builtin .append, args := #[s, x], argTypes := #[t, t] })
    (e : TypeId) (i : TypeInfo) (ht : Tryd.prog.underlying t = some (.slice e)) (hi : Tryd.prog.info? e = some i) (size : Nat) (hsz : i.size = size)
    (g k cap : Nat) (cur : Array Value) (hg : w.heap[g]? = some (.cells cur e (0, 0))) (hs : a.eval s = .slice (some ⟨g, 0, none⟩) k cap)
    (ad : Addr) (m c : Nat) (news : List Value) (hx : a.eval x = .slice (some ad) m c) (hl : news.length = m * size) (hnews : ∀ j u, news[j]? = some u → w.cell? (ad.add j) = some u) (h1 : ∀ u ∈ news, u.oneCell' = true)
    (hroom : k + m ≤ cap) (hfit : k * size + news.length ≤ cur.size)
    (h : wpList Tryd.prog ops Q rest (a.put o.dst (.slice (some ⟨g, 0, none⟩) (k + m) cap)) (w.setRow g (cur.toList.take (k * size) ++ news ++ cur.toList.drop (k * size + news.length)).toArray)) : wpList Tryd.prog ops Q (o :: rest) a w := by
  subst hsz
  exact Lib.wpList_append_run w hgd s x t t ho _ _ hs hx _ _ (run_append_room (P := Tryd.prog) w t o.type e i ht hi g k cap cur hg ad m c news hl hnews h1 hroom hfit) h

/-- .. with its world by a name -/
theorem wpList_append_here2 (w : World) {ops : Array Oper} {rest : List Oper} {o : Oper} {a : Act} {Q : Exit → Act → World → Prop} (hgd : o.guard = none) (s x : Operand) (t : TypeId)
    (ho : o.op = .call { callee := .builtin .append, args := #[s, x], argTypes := #[t, t] })
    (e : TypeId) (i : TypeInfo) (ht : Tryd.prog.underlying t = some (.slice e)) (hi : Tryd.prog.info? e = some i) (size : Nat) (hsz : i.size = size)
    (g k cap : Nat) (cur : Array Value) (hg : w.heap[g]? = some (.cells cur e (0, 0))) (hs : a.eval s = .slice (some ⟨g, 0, none⟩) k cap)
    (ad : Addr) (m c : Nat) (news : List Value) (hx : a.eval x = .slice (some ad) m c) (hl : news.length = m * size) (hnews : ∀ j u, news[j]? = some u → w.cell? (ad.add j) = some u) (h1 : ∀ u ∈ news, u.oneCell' = true)
    (hroom : k + m ≤ cap) (hfit : k * size + news.length ≤ cur.size)
    (h : ∀ w', w' = w.setRow g (cur.toList.take (k * size) ++ news ++ cur.toList.drop (k * size + news.length)).toArray → wpList Tryd.prog ops Q rest (a.put o.dst (.slice (some ⟨g, 0, none⟩) (k + m) cap)) w') : wpList Tryd.prog ops Q (o :: rest) a w :=
  wpList_append_here w hgd s x t ho e i ht hi size hsz g k cap cur hg hs ad m c news hx hl hnews h1 hroom hfit (h _ rfl)
theorem lookG_true {no r o : Nat} {rest kept : List (Nat × Nat)} {s : St} {R : St × List (Nat × Nat) × Int} (ht : 0 < s.truth.getD o 0) (h : lookG no ((r, o) :: rest) kept s = R) : lookG no rest (kept ++ [(r, o)]) s = R := by
  unfold lookG at h
  rw [if_pos ht] at h
  exact h
theorem lookG_gone {no r o : Nat} {rest kept : List (Nat × Nat)} {s : St} {R : St × List (Nat × Nat) × Int} (ht : ¬ 0 < s.truth.getD o 0) (hr : s.rows.getD r none = none) (h : lookG no ((r, o) :: rest) kept s = R) : lookG no rest kept s = R := by
  unfold lookG at h
  rw [if_neg ht, hr] at h
  exact h
/-- what a round with a row comes to -/
structure RowRun (no r : Nat) (rest kept : List (Nat × Nat)) (s : St) (c : List Nat) (R : St × List (Nat × Nat) × Int) : Prop where
  tr : 0 < s.truth.getD (c.getD 0 0) 0 → lookG no rest (kept ++ [(r, c.getD 0 0)]) { s with rows := s.rows.set r (some c) } = R
  fr : ¬ 0 < s.truth.getD (c.getD 0 0) 0 → ∀ k, freeAt s.truth c = some k → lookG no rest kept (pushW { s with rows := s.rows.set r (some ((c.set 1 (c.getD (k + 2) 0)).set (k + 2) no)) } (c.getD (k + 2) 0) r (c.getD 0 0)) = R
  no_ : ¬ 0 < s.truth.getD (c.getD 0 0) 0 → freeAt s.truth c = none → s.truth.getD (c.getD 0 0) 0 < 0 → (({ s with rows := s.rows.set r (some c) } : St), kept ++ (r, c.getD 0 0) :: rest, (r : Int)) = R
  bl : ¬ 0 < s.truth.getD (c.getD 0 0) 0 → freeAt s.truth c = none → ¬ s.truth.getD (c.getD 0 0) 0 < 0 → lookG no rest (kept ++ [(r, c.getD 0 0)]) (believeP { s with rows := s.rows.set r (some c) } (c.getD 0 0) (r : Int)) = R
theorem lookG_row {no r o : Nat} {rest kept : List (Nat × Nat)} {s : St} {c c2 : List Nat} {R : St × List (Nat × Nat) × Int} (ht : ¬ 0 < s.truth.getD o 0) (hr : s.rows[r]? = some (some c)) (hsw : swap0 c no = c2) (h : lookG no ((r, o) :: rest) kept s = R) : RowRun no r rest kept s c2 R := by
  have hg : s.rows.getD r none = some c := by rw [List.getD_eq_getElem?_getD, hr]; rfl
  unfold lookG at h
  rw [if_neg ht, hg] at h
  simp only [hsw] at h
  refine ⟨fun q => ?_, fun q k hk => ?_, fun q hk hb => ?_, fun q hk hb => ?_⟩
  · rw [if_pos q] at h; exact h
  · rw [if_neg q, hk] at h; exact h
  · rw [if_neg q, hk] at h; simp only at h; rw [if_pos hb] at h; exact h
  · rw [if_neg q, hk] at h; simp only at h; rw [if_neg hb] at h; exact h
/-- on the way through the watches of a literal -/
structure LkR (w : World) (L : Ly) (n no K cap wg S0 : Nat) (R : St × List (Nat × Nat) × Int) (wr : World) (L' : Ly) (s' : St) (M kept rest : List (Nat × Nat)) (i kn : Nat) : Prop where
  at_ : SAt wr L' n (wset s' no M)
  fr : FrS L L' w wr
  J : LkJ n no S0 s' kept rest
  wv : L'.wv[no]? = some (.slice (some ⟨wg, 0, none⟩) K cap)
  tk : M.take kn = kept
  kl : kept.length = kn
  dr : M.drop i = rest
  run : lookG no rest kept s' = R

/-- a watch in its own block -/
def WB (w : World) (b r o : Nat) : Prop := w.heap[b]? = some (.cells #[.int .i32 (r : Int), .int .i32 (o : Int)] 88 (0, 0))
theorem WB.r {w : World} {b r o : Nat} (h : WB w b r o) : w.cell? ⟨b, 0, none⟩ = some (.int .i32 (r : Int)) := by rw [block_cell h]; rfl
theorem WB.o {w : World} {b r o : Nat} (h : WB w b r o) : w.cell? ⟨b, 1, none⟩ = some (.int .i32 (o : Int)) := by rw [block_cell h]; rfl
theorem WB.set {w : World} {b r o : Nat} (h : WB w b r o) (x : Nat) : WB (w.setCell ⟨b, 1, none⟩ (.int .i32 (x : Int))) b r x := by
  unfold WB; rw [set_block h 1]; simp [Array.set!_eq_setIfInBounds]

/-- within a round: the watch that is looked at lies in a block of its own -/
structure LkA (w : World) (L : Ly) (n no K cap wg wB : Nat) (W : World) (L1 : Ly) (s1 : St) (M : List (Nat × Nat)) (r o : Nat) : Prop where
  at_ : SAt W L1 n (wset s1 no M)
  fr : FrS L L1 w W
  wb : WB W wB r o
  ow : L1.own wB = (0, 0)
  ge : w.heap.size ≤ wB
  wv : L1.wv[no]? = some (.slice (some ⟨wg, 0, none⟩) K cap)
  no_ : no < 2 * n

section
variable {w : World} {L : Ly} {n no K cap wg wB : Nat} {W : World} {L1 : Ly} {s1 : St} {M : List (Nat × Nat)} {r o : Nat}
theorem LkR.go {S0 : Nat} {R : St × List (Nat × Nat) × Int} {wr : World} {L' : Ly} {s' : St} {kept rest : List (Nat × Nat)} {i kn : Nat} (h : LkR w L n no K cap wg S0 R wr L' s' M kept rest i kn) (hno : no < 2 * n) (r o : Nat) : LkA w L n no K cap wg wr.heap.size (wr.alloc (.cells #[.int .i32 (r : Int), .int .i32 (o : Int)] 88)) (newT L' wr.heap.size) s' M r o :=
  ⟨h.at_.allocT _, h.fr.allocT _, heap_new rfl, newT_own _ _, h.fr.size, h.wv, hno⟩
theorem LkA.drewN (h : LkA w L n no K cap wg wB W L1 s1 M r o) (q : Nat) : LkA w L n no K cap wg wB (W.drewN q) L1 s1 M r o := ⟨h.at_.drewN q, h.fr.drewN q, h.wb, h.ow, h.ge, h.wv, h.no_⟩
theorem LkA.drew (h : LkA w L n no K cap wg wB W L1 s1 M r o) : LkA w L n no K cap wg wB W.drew L1 s1 M r o := ⟨h.at_.drew, h.fr.drew, h.wb, h.ow, h.ge, h.wv, h.no_⟩
theorem LkA.alloc (h : LkA w L n no K cap wg wB W L1 s1 M r o) (ob : Obj) : LkA w L n no K cap wg wB (W.alloc ob) L1 s1 M r o := ⟨h.at_.alloc ob, h.fr.alloc ob, (heap_alloc_old W ob (block_lt h.wb)).trans h.wb, h.ow, h.ge, h.wv, h.no_⟩
theorem LkA.sb (h : LkA w L n no K cap wg wB W L1 s1 M r o) : L1.sb = L.sb := h.fr.sb
theorem LkA.c4 (h : LkA w L n no K cap wg wB W L1 s1 M r o) : W.cell? ⟨L.sb, 4, none⟩ = some (.slice (some ⟨L1.tb, 0, none⟩) (2 * n) (2 * n)) := by rw [← h.sb]; exact h.at_.c4
theorem LkA.truth (h : LkA w L n no K cap wg wB W L1 s1 M r o) {l : Nat} (hl : l < 2 * n) : W.cell? ⟨L1.tb, l, none⟩ = some (.int .i8 (s1.truth.getD l 0)) := h.at_.truth hl
theorem LkA.blk (h : LkA w L n no K cap wg wB W L1 s1 M r o) : M.length = K ∧ ∃ cur : Array Value, W.heap[wg]? = some (.cells cur 88 (0, 0)) ∧ K ≤ cap ∧ cur.size = cap * 2 := by
  obtain ⟨h1, _, cur, h2, h3, _, h4, _⟩ := h.at_.wblk h.no_ h.wv
  exact ⟨h1, cur, h2, h3, h4⟩
theorem LkA.ovr (h : LkA w L n no K cap wg wB W L1 s1 M r o) {k : Nat} {news : List (Nat × Nat)} (hk : k + news.length ≤ K) {cur : Array Value} (hc : W.heap[wg]? = some (.cells cur 88 (0, 0))) : LkA w L n no K cap wg wB (W.setRow wg (cur.toList.take (k * 2) ++ flatW news ++ cur.toList.drop (k * 2 + (flatW news).length)).toArray) L1 s1 (over M k news) r o := by
  have ho := (h.at_.wblk h.no_ h.wv).2.1
  refine ⟨h.at_.overW h.no_ h.wv hk hc, h.fr.overW (by rw [ho]; simp) _, ?_, h.ow, h.ge, h.wv, h.no_⟩
  exact (setRow_other W wg wB _ (fun e => by have := h.ow; rw [e, ho] at this; cases this)).trans h.wb
theorem LkA.other (h : LkA w L n no K cap wg wB W L1 s1 M r o) (x : Nat) : LkA w L n no K cap wg wB (W.setCell ⟨wB, 1, none⟩ (.int .i32 (x : Int))) L1 s1 M r x :=
  ⟨h.at_.offSet h.ow _ _, h.fr.offSet h.ge _ _, h.wb.set x, h.ow, h.ge, h.wv, h.no_⟩
theorem LkA.row {cb k cp : Nat} {c : List Nat} (h : LkA w L n no K cap wg wB W L1 s1 M r o) {r' : Nat} (hr : s1.rows[r']? = some (some c)) (hv : L1.rr[r']? = some (.slice (some ⟨cb, 0, none⟩) k cp)) (hb : L1.own cb = (11, r')) (i x : Nat) : LkA w L n no K cap wg wB (W.setCell ⟨cb, i, none⟩ (.int .i32 (x : Int))) L1 { s1 with rows := s1.rows.set r' (some (c.set i x)) } M r o :=
  ⟨SAt.rowSet (s := wset s1 no M) h.at_ hr hv, h.fr.set (by rw [hb]; simp), (Below.heap_setCell W ⟨cb, i, none⟩ _ wB (fun e => by have := h.ow; rw [show wB = cb from e, hb] at this; cases this)).trans h.wb, h.ow, h.ge, h.wv, h.no_⟩
theorem LkA.keep (h : LkA w L n no K cap wg wB W L1 s1 M r o) {k : Nat} (hk : k + 1 ≤ K) {cur : Array Value} (hc : W.heap[wg]? = some (.cells cur 88 (0, 0))) (r' o' : Nat) : LkA w L n no K cap wg wB (W.setRow wg (cur.toList.take (k * 2) ++ Value.int .i32 (r' : Int) :: Value.int .i32 (o' : Int) :: cur.toList.drop (k * 2 + 2)).toArray) L1 s1 (over M k [(r', o')]) r o := by
  have := h.ovr (k := k) (news := [(r', o')]) hk hc
  have e : cur.toList.take (k * 2) ++ flatW [(r', o')] ++ cur.toList.drop (k * 2 + (flatW [(r', o')]).length) = cur.toList.take (k * 2) ++ Value.int .i32 (r' : Int) :: Value.int .i32 (o' : Int) :: cur.toList.drop (k * 2 + 2) := by
    rw [flatW_len, List.append_assoc]; rfl
  rw [e] at this
  exact this
theorem over_keep {kept : List (Nat × Nat)} {kn i : Nat} (ht : M.take kn = kept) (hl : kept.length = kn) (hk : kn ≤ i) (hi : i < M.length) : (over M kn [(r, o)]).take (kn + 1) = kept ++ [(r, o)] ∧ (kept ++ [(r, o)]).length = kn + 1 ∧ (over M kn [(r, o)]).drop (i + 1) = M.drop (i + 1) :=
  ⟨over_take (news := [(r, o)]) ht hl, by simp [hl], over_drop (by simp; omega) (by omega)⟩
/-- a row's value -/
theorem LkA.rowv (h : LkA w L n no K cap wg wB W L1 s1 M r o) {r' : Nat} (hr : r' < s1.rows.length) : ∃ rg rc v c, W.cell? ⟨L.sb, 0, none⟩ = some (.slice (some ⟨rg, 0, none⟩) s1.rows.length rc) ∧ W.cell? ⟨rg, r', none⟩ = some v ∧ L1.rr[r']? = some v ∧ s1.rows[r']? = some c ∧ RowAt W L1.own r' v c := by
  have h1 := h.at_
  obtain ⟨ra, rc, hrv⟩ := (h1.1.ro trivial).form
  obtain ⟨v, e1, e2⟩ := h1.1.rl r' trivial _ (List.getElem?_eq_getElem hr)
  obtain ⟨rg, hg, _, cc, _⟩ := (show OwnR W L1.own (2, 0) 43 1 (.slice ra s1.rows.length rc) s1.rows.length L1.rr from by rw [← show L1.rv = .slice ra s1.rows.length rc from hrv]; exact h1.1.ro trivial).cell1 e1
  subst hg
  refine ⟨rg, rc, v, _, ?_, cc, e1, List.getElem?_eq_getElem hr, e2⟩
  have := h1.cell 0
  simp only [stC, hrv] at this
  rw [← h.sb]
  exact this
theorem LkA.row2 {cb k cp : Nat} {c : List Nat} (h : LkA w L n no K cap wg wB W L1 s1 M r o) {r' : Nat} (hr : s1.rows[r']? = some (some c)) (hv : L1.rr[r']? = some (.slice (some ⟨cb, 0, none⟩) k cp)) (hb : L1.own cb = (11, r')) (i x j y : Nat) : LkA w L n no K cap wg wB ((W.setCell ⟨cb, i, none⟩ (.int .i32 (x : Int))).setCell ⟨cb, j, none⟩ (.int .i32 (y : Int))) L1 { s1 with rows := s1.rows.set r' (some ((c.set i x).set j y)) } M r o := by
  have hrl : r' < s1.rows.length := (List.getElem?_eq_some_iff.1 hr).1
  have := (h.row hr hv hb i x).row (r' := r') (c := c.set i x) (List.getElem?_set_self hrl) hv hb j y
  simp only [List.set_set] at this
  exact this
theorem LkA.believe {l : Nat} {y : Int} {W' : World} {tv : Value} {own : Nat → Nat × Nat} (h : LkA w L n no K cap wg wB W L1 s1 M r o) (h1 : SAt W' { L1 with tv := tv, own := own } n (believeP (wset s1 no M) l y)) (h2 : FrS L1 { L1 with tv := tv, own := own } W W') : LkA w L n no K cap wg wB W' { L1 with tv := tv, own := own } (believeP s1 l y) M r o :=
  ⟨h1, h.fr.trans h2, (h2.block wB (block_lt h.wb) h.ow).trans h.wb, (h2.own wB (block_lt h.wb)).trans h.ow, h.ge, h.wv, h.no_⟩
/-- the watches of another literal grow -/
theorem LkA.push (h : LkA w L n no K cap wg wB W L1 s1 M r o) {l : Nat} (hl : l < 2 * n) (hne : l ≠ no) {v : Value} (hv : L1.wv[l]? = some v) {T : Obj} {g cp : Nat} {w9 : World} (ho : w9.ownsRow 0 88 2 (.slice (some ⟨g, 0, none⟩) ((s1.watches.getD l []).length + 1) cp) ((s1.watches.getD l []).length + 1) (flatW (s1.watches.getD l []) ++ [.int .i32 (r : Int), .int .i32 (o : Int)])) (hg : (W.drew.alloc T).grownBy w9 v.ownBlock) (hat : v.ownBlock = some g ∨ g = W.heap.size + 1) :
    w9.cell? ⟨L.sb, 3, none⟩ = some (.slice (some ⟨L1.wb, 0, none⟩) (2 * n) (2 * n)) ∧ WB w9 wB r o ∧ w9.cell? ⟨L1.wb, l, none⟩ = some v ∧ w9.frozen? ⟨L1.wb, l, none⟩ = false ∧ ∃ L', LkA w L n no K cap wg wB (w9.setCell ⟨L1.wb, l, none⟩ (.slice (some ⟨g, 0, none⟩) ((s1.watches.getD l []).length + 1) cp)) L' (pushW s1 l r o) M r o := by
  have hA := (h.drew.alloc T).at_
  have hwl : s1.watches.length = 2 * n := by have := h.at_.2.wt; simpa [wset] using this
  have e1 : (wset s1 no M).watches.getD l [] = s1.watches.getD l [] := by rw [wset_getD (by rw [hwl]; exact h.no_), if_neg hne]
  have hw : Fr (fun _ => True) W (W.drew.alloc T) := (Fr.refl _ W).drew.alloc _
  obtain ⟨k1, k2, k3, k4⟩ := hA.app_watch hw hl hv (by rw [e1]; exact ho) hg (by simpa using hat)
  rw [e1] at k3 k4
  obtain ⟨v', e', hw'⟩ := hA.1.wl l trivial hl
  rw [hv] at e'
  cases e'
  obtain ⟨s3, s4⟩ := hA.1.st trivial
  have hsz : W.heap.size ≤ (W.drew.alloc T).heap.size := by simp
  have hb9 : w9.heap[wB]? = (W.drew.alloc T).heap[wB]? := hw'.kept hg (Nat.lt_of_lt_of_le (block_lt h.wb) hsz) (by rw [h.ow]; simp)
  refine ⟨?_, hb9.trans ((h.drew.alloc T).wb), k1, k2, _, ⟨by rw [← wset_push (by rw [hwl]; exact h.no_) hne]; exact k3, h.fr.trans k4, ?_, (k4.own wB (block_lt h.wb)).trans h.ow, h.ge, ?_, h.no_⟩⟩
  · rw [← h.sb]
    exact (World.cell?_of_block (a := ⟨L1.sb, 3, none⟩) (hw'.kept hg (block_lt s3) (by rw [s4]; simp))).trans (hA.cell 3)
  · exact (k4.block wB (block_lt h.wb) h.ow).trans h.wb
  · show (L1.wv.set l _)[no]? = _
    rw [List.getElem?_set_ne hne]
    exact h.wv
theorem LkA.src (h : LkA w L n no K cap wg wB W L1 s1 M r o) {i : Nat} {RS : List (Nat × Nat)} (hd : M.drop i = RS) (hi : i ≤ K) : ∃ cur : Array Value, W.heap[wg]? = some (.cells cur 88 (0, 0)) ∧ cur.size = cap * 2 ∧ K ≤ cap ∧ RS.length = K - i ∧ (flatW RS).length = (K - i) * 2 ∧ ∀ j u, (flatW RS)[j]? = some u → W.cell? ((⟨wg, i * 2, none⟩ : Addr).add j) = some u := by
  obtain ⟨h1, _, cur, h2, h3, _, h4, h5⟩ := h.at_.wblk h.no_ h.wv
  have hl : RS.length = K - i := by rw [← hd, List.length_drop]; omega
  refine ⟨cur, h2, h4, h3, hl, by rw [flatW_len, hl], fun j u hu => ?_⟩
  rw [← hd, flatW_drop, ← h5, List.getElem?_drop, List.getElem?_take] at hu
  split at hu
  · have e : (⟨wg, i * 2, none⟩ : Addr).add j = ⟨wg, i * 2 + j, none⟩ := by unfold Addr.add; split <;> simp_all
    rw [e, block_cell h2]
    simpa using hu
  · cases hu
/-- the watches are put back -/
theorem fin_of (h : SAt W L1 n (wset s1 no M)) (f : FrS L L1 w W) (hno : no < 2 * n) (hv : L1.wv[no]? = some (.slice (some ⟨wg, 0, none⟩) K cap)) {k : Nat} {kept : List (Nat × Nat)} (hk : k ≤ K) (ht : M.take k = kept) : W.cell? ⟨L.sb, 3, none⟩ = some (.slice (some ⟨L1.wb, 0, none⟩) (2 * n) (2 * n)) ∧ W.cell? ⟨L1.wb, no, none⟩ = some (.slice (some ⟨wg, 0, none⟩) K cap) ∧ W.frozen? ⟨L1.wb, no, none⟩ = false ∧ ∃ L', SAt (W.setCell ⟨L1.wb, no, none⟩ (.slice (some ⟨wg, 0, none⟩) k cap)) L' n (wset s1 no kept) ∧ FrS L L' w (W.setCell ⟨L1.wb, no, none⟩ (.slice (some ⟨wg, 0, none⟩) k cap)) := by
  obtain ⟨hM, hwo, cur, h1, h2, h3, h4, h5⟩ := h.wblk hno hv
  obtain ⟨t1, t2⟩ := h.1.wt trivial
  have hkl : kept.length = k := by rw [← ht, List.length_take]; omega
  have ho : OwnR W L1.own (10, no) 88 2 (.slice (some ⟨wg, 0, none⟩) k cap) kept.length (flatW kept) := by
    refine ⟨⟨flatW_len kept, .inr ⟨wg, cap, cur, by rw [hkl], Nat.zero_le _, h1, by omega, h3, h4, ?_⟩⟩, fun g hg => by cases hg; exact hwo⟩
    rw [hkl, ← ht, flatW_take, ← h5, List.take_take, Nat.min_eq_left (by omega)]
  have hp := h.putW hno ho
  rw [wset_wset] at hp
  refine ⟨by rw [← show L1.sb = L.sb from f.sb]; exact h.cell 3, by rw [block_cell t1]; simpa using hv, frozen_block t1 no, _, hp, ?_⟩
  have q := f.set (b := L1.wb) (i := no) (v := .slice (some ⟨wg, 0, none⟩) k cap) (by rw [t2]; simp)
  exact ⟨q.os, q.tape, q.output, q.size, q.block, q.own, q.sb⟩
/-- the round is over -/
theorem LkA.next {S0 : Nat} {R : St × List (Nat × Nat) × Int} {kept rest : List (Nat × Nat)} {i kn : Nat} (h : LkA w L n no K cap wg wB W L1 s1 M r o) (hJ : LkJ n no S0 s1 kept rest) (ht : M.take kn = kept) (hl : kept.length = kn) (hd : M.drop i = rest) (hR : lookG no rest kept s1 = R) : LkR w L n no K cap wg S0 R W L1 s1 M kept rest i kn := ⟨h.at_, h.fr, hJ, h.wv, ht, hl, hd, hR⟩
end

set_option maxRecDepth 100000 in
set_option maxHeartbeats 8000000 in
theorem look_some (w : World) (L : Ly) (n : Nat) (s : St) (no K cap wg : Nat) (R : St × List (Nat × Nat) × Int) (h : SAt w L n s) (hI : LkI n s) (hno : no < 2 * n) (ht : s.truth.getD no 0 = -1) (hv : L.wv[no]? = some (.slice (some ⟨wg, 0, none⟩) K cap)) (hR : lookG no (s.watches.getD no []) [] s = R) :
    Calls Tryd.prog 44 #[.pointer (some ⟨L.sb, 0, none⟩), .int .i32 (no : Int)] w (StPost w L n (wset R.1 no R.2.1) (.int .i32 R.2.2)) := by
  have mo := follows
  obtain ⟨i4, hj0, hj1, hj2, hj3⟩ := info94
  have hn := h.2.n_
  have hwl : s.watches.length = 2 * n := h.2.wt
  have hK : (s.watches.getD no []).length = K := by
    obtain ⟨v, e1, e2⟩ := h.1.wl no trivial hno
    rw [hv] at e1
    cases e1
    rcases e2.1.2 with ⟨q, _⟩ | ⟨g, cap', cur, e, _⟩
    · cases q
    · cases e; rfl
  have HR0 : Hid (LkR w L n no K cap wg (wsum s) R w L s (s.watches.getD no []) [] (s.watches.getD no []) 0 0) := ⟨by rw [wset_self (by omega)]; exact h, FrS.refl _ _, hI.start ht, hv, rfl, rfl, rfl, hR⟩
  have hKb : K ≤ 4000000000 := by
    have := hI.sum; have := hI.rw_
    have h1 := sum_set s.watches no [] (by omega)
    have h5 : wsum s = (s.watches.map List.length).sum := rfl
    simp only [List.length_nil] at h1
    omega
  have c3 : w.cell? ⟨L.sb, 3, none⟩ = some (.slice (some ⟨L.wb, 0, none⟩) (2 * n) (2 * n)) := h.cell 3
  have cw : w.cell? ⟨L.wb, no, none⟩ = some (.slice (some ⟨wg, 0, none⟩) K cap) := by rw [block_cell (h.1.wt trivial).1]; simpa using hv
  have x1 : (no : Int) < 2 * (n : Int) := by omega
  have x2 : (no : Int) < ((2 * n : Nat) : Int) := by omega
  obtain ⟨S0, hS0⟩ : ∃ S0, wsum s = S0 := ⟨_, rfl⟩
  rw [hS0] at HR0
  generalize s.watches.getD no [] = M0 at HR0 hK
  clear h hI ht hv hR hK hwl hS0
  go_enter Tryd.func44, Tryd.ntmps44
  go_wp2_with fail
  go_step3
  go_wp2_with fail
  go_step3
  go_wp2_with fail
  go_loopg [6, 7, 24] (K) (fun gk s6 s7 s24 wr => ∃ (i kn : Nat) (s' : St) (L' : Ly) (M kept rest : List (Nat × Nat)), s6 = .slice (some ⟨wg, 0, none⟩) kn cap ∧ s7 = .int .i32 (-1) ∧ s24 = .int .i64 (i : Int) ∧ i + gk = K ∧ kn ≤ i ∧ Hid (LkR w L n no K cap wg S0 R wr L' s' M kept rest i kn))
  case atStart => exact ⟨0, 0, s, L, M0, [], M0, rfl, rfl, rfl, by omega, by omega, HR0⟩
  case round =>
    clear HR0 c3 cw
    obtain ⟨i, kn, s', L', M, kept, rest, rfl, rfl, rfl, hik, hkn, HR⟩ := hrel
    obtain ⟨hML, hwo, cur, hcur, hKc, hcm, hcs, hct⟩ := HR.out.at_.wblk hno HR.out.wv
    by_cases hi : i < K
    · obtain ⟨g0, rfl⟩ : ∃ k, gk = k + 1 := ⟨gk - 1, by omega⟩
      obtain ⟨⟨r, o⟩, hp⟩ : ∃ p, M[i]? = some p := ⟨_, List.getElem?_eq_getElem (by omega)⟩
      obtain ⟨f0, f1⟩ := flatW_get hp
      have cr : wr.cell? ⟨wg, i * 2, none⟩ = some (.int .i32 (r : Int)) := by
        rw [block_cell hcur]
        have := f0
        rw [← hct, List.getElem?_take, if_pos (by omega)] at this
        simpa using this
      have co : wr.cell? ⟨wg, i * 2 + 1, none⟩ = some (.int .i32 (o : Int)) := by
        rw [block_cell hcur]
        have := f1
        rw [← hct, List.getElem?_take, if_pos (by omega)] at this
        simpa using this
      have hrest : rest = (r, o) :: M.drop (i + 1) := by
        rw [← HR.out.dr]
        have hil : i < M.length := by omega
        rw [List.drop_eq_getElem_cons hil]
        congr 1
        rw [List.getElem?_eq_getElem hil] at hp
        exact Option.some.inj hp
      have i1 : (i : Int) < (K : Int) := by omega
      have HA : Hid (LkA w L n no K cap wg wr.heap.size (wr.alloc (.cells #[.int .i32 (r : Int), .int .i32 (o : Int)] 88)) (newT L' wr.heap.size) s' M r o) := HR.out.go hno r o
      have hJ := HR.out.J
      rw [hrest] at hJ
      have hrun := HR.out.run
      rw [hrest] at hrun
      have HRUN : Hid (lookG no ((r, o) :: M.drop (i + 1)) kept s' = R) := hrun
      clear hrun
      have htk := HR.out.tk
      have hkl := HR.out.kl
      have ho := (hJ.rp _ (List.mem_cons_self)).1
      have hrl := (hJ.rp _ (List.mem_cons_self)).2
      simp only at ho hrl
      have HJ : Hid (LkJ n no S0 s' kept ((r, o) :: M.drop (i + 1))) := hJ
      have o1 : (o : Int) < 2 * (n : Int) := by omega
      have o2 : (o : Int) < ((2 * n : Nat) : Int) := by omega
      have HTK : Hid (M.take kn = kept ∧ kept.length = kn) := ⟨htk, hkl⟩
      have HP : Hid (M[i]? = some (r, o)) := hp
      clear hct hcs f0 f1 hcm hJ htk hkl hrest HR hp hcur hwo
      go_upto_region 7 with fail
      clear cr co
      generalize newT L' wr.heap.size = L1 at HA
      generalize wr.heap.size = wB at HA ⊢
      generalize wr.alloc (.cells #[.int .i32 (r : Int), .int .i32 (o : Int)] 88) = W at HA ⊢
      have c4 := HA.out.c4
      have ct := HA.out.truth ho
      have cwo := HA.out.wb.o
      obtain ⟨t0, ht0⟩ : ∃ t0, s'.truth.getD o 0 = t0 := ⟨_, rfl⟩
      rw [ht0] at ct
      have HT0 : Hid (s'.truth.getD o 0 = t0) := ht0
      clear ht0
      by_cases hto : 0 < t0
      · have HRU : Hid (lookG no (M.drop (i + 1)) (kept ++ [(r, o)]) s' = R) := lookG_true (by rw [HT0.out]; exact hto) HRUN.out
        have HJ2 : Hid (LkJ n no S0 s' (kept ++ [(r, o)]) (M.drop (i + 1))) := HJ.out.keep ho
        clear HRUN HJ
        go_quiet (fail)
        have H1 := HA.out.drewN nq
        clear HA c4 ct cwo
        generalize W.drewN nq = W1 at H1 ⊢
        obtain ⟨hML2, cur2, hc2, hKc2, hs2⟩ := (H1.alloc (.cells #[.int .i32 (r : Int), .int .i32 (o : Int)] 88)).blk
        have HC2 : Hid ((W1.alloc (.cells #[.int .i32 (r : Int), .int .i32 (o : Int)] 88)).heap[wg]? = some (.cells cur2 88 (0, 0))) := hc2
        have H3 : Hid (LkA w L n no K cap wg wB ((W1.alloc (.cells #[.int .i32 (r : Int), .int .i32 (o : Int)] 88)).setRow wg (cur2.toList.take (kn * 2) ++ Value.int .i32 (r : Int) :: Value.int .i32 (o : Int) :: cur2.toList.drop (kn * 2 + 2)).toArray) L1 s' (over M kn [(r, o)]) r o) := (H1.alloc (.cells #[.int .i32 (r : Int), .int .i32 (o : Int)] 88)).keep (k := kn) (by omega) hc2 r o
        have NB : Hid ((W1.alloc (.cells #[.int .i32 (r : Int), .int .i32 (o : Int)] 88)).heap[W1.heap.size]? = some (.cells #[.int .i32 (r : Int), .int .i32 (o : Int)] 88 (0, 0))) := heap_new rfl
        have cr := H1.wb.r
        have co := H1.wb.o
        have hfit : kn * 2 + 2 ≤ cur2.size := by omega
        have hrm : kn + 1 ≤ cap := by omega
        have HO : Hid _ := over_keep (r := r) (o := o) HTK.out.1 HTK.out.2 hkn (by omega)
        clear H1 hc2 hs2 hML2
        go_wp2_with (at_builtin; refine wpList_append_here _ rfl _ _ 86 rfl 88 i4 Tryd.underlying86 hj0 2 hj2 wg kn cap cur2 HC2.out rfl ⟨W1.heap.size, 0, none⟩ 1 1 [.int .i32 (r : Int), .int .i32 (o : Int)] rfl rfl (World.news_of_block NB.out) one2 hrm hfit ?_)
        go_roundg g0
        case measure => omega
        case rel => exact ⟨i + 1, kn + 1, _, L1, _, _, _, rfl, rfl, by simp, by omega, by omega, H3.out.next HJ2.out HO.out.1 HO.out.2.1 HO.out.2.2 HRU.out⟩
      · go_quiet (fail)
        have H1 := HA.out.drewN nq
        clear HA c4 ct cwo
        generalize W.drewN nq = W1 at H1 ⊢
        go_wp2_with fail
        obtain ⟨rg, rc, v, co, c0, crr, hv, hrow, hra⟩ := H1.rowv hrl.1
        have cr := H1.wb.r
        have r1 : (r : Int) < (s'.rows.length : Int) := by have := hrl.1; omega
        have hrl2 := hrl.2
        generalize s'.rows.length = RL at c0 r1
        clear hrl
        cases co with
        | none =>
          have hvn : v = .slice none 0 0 := hra
          subst hvn
          have HRU : Hid (lookG no (M.drop (i + 1)) kept s' = R) := lookG_gone (by rw [HT0.out]; omega) (by rw [List.getD_eq_getElem?_getD, hrow]; rfl) HRUN.out
          clear HRUN hra hrl2 hv hrow
          have rn : ∀ w : World, (binOp .eql 43 (.slice none 0 0) (.slice none 0 0)).run Tryd.prog w = .ok (.bool true) w := fun w => Lib.run_eql_slice_nil w 43 45 none 0 0 0 0 Tryd.underlying43
          go_quiet (fail)
          have H2 : Hid (LkA w L n no K cap wg wB (W1.drewN nq) L1 s' M r o) := H1.drewN nq
          clear H1 c0 crr cr
          generalize W1.drewN nq = W2 at H2 ⊢
          go_wp2_with fail
          go_roundg g0
          case measure => omega
          case rel => exact ⟨i + 1, kn, s', L1, M, kept, M.drop (i + 1), rfl, rfl, by simp, by omega, by omega, H2.out.next HJ.out.drop HTK.out.1 HTK.out.2 rfl HRU.out⟩
        | some c =>
          obtain ⟨cb, d, hvv, hcb, hlr, htk, hds⟩ := hra
          subst hvv
          have h2 := hrl2 c hrow
          obtain ⟨a, b, t, rfl⟩ : ∃ a b t, c = a :: b :: t := by
            match c, h2 with
            | a :: b :: t, _ => exact ⟨a, b, t, rfl⟩
          have hdl : t.length + 2 ≤ d.size := by
            have := congrArg List.length htk
            rw [List.length_take] at this
            have e2 : d.toList.length = d.size := by simp
            have e : (a :: b :: t).length = t.length + 2 := rfl
            omega
          obtain ⟨D, hD⟩ : ∃ D, d.size = D := ⟨_, rfl⟩
          rw [hD] at hdl hv crr hds
          have hli := HJ.out.lit r _ hrow
          have hxa : a < 2 * n := hli a (by simp)
          have hxb : b < 2 * n := hli b (by simp)
          have HLT : Hid (∀ x ∈ t, x < 2 * n) := fun x hx => hli x (by simp [hx])
          have HRO : Hid (s'.rows[r]? = some (some (a :: b :: t)) ∧ L1.rr[r]? = some (.slice (some ⟨cb, 0, none⟩) (t.length + 2) D) ∧ L1.own cb = (11, r)) := ⟨hrow, hv, hcb⟩
          clear hrl2 hlr htk hrow hv hcb hli h2 hD
          have rn : ∀ (w : World) (n c : Nat), (binOp .eql 43 (.slice (some ⟨cb, 0, none⟩) n c) (.slice none 0 0)).run Tryd.prog w = .ok (.bool false) w := fun w n c => Lib.run_eql_slice_nil w 43 45 _ n c 0 0 Tryd.underlying43
          go_quiet (fail)
          have H2 := H1.drewN nq
          clear H1 c0 crr cr
          generalize W1.drewN nq = W2 at H2 ⊢
          obtain ⟨ca, fa, _⟩ := H2.at_.rowcell (i := 0) (x := a) HRO.out.1 HRO.out.2.1 rfl
          obtain ⟨cbb, fb, _⟩ := H2.at_.rowcell (i := 1) (x := b) HRO.out.1 HRO.out.2.1 rfl
          have cwo := H2.wb.o
          have fwo := frozen_block H2.wb 1
          have g0' : (0 : Int) < (t.length : Int) + 2 := by omega
          have g1' : (1 : Int) < (t.length : Int) + 2 := by omega
          have cbw : cb ≠ wB := fun e => by have := H2.ow; rw [← e, HRO.out.2.2] at this; cases this
          by_cases hab : a = no
          · have e1 : ((a : Int) == (no : Int)) = true := by rw [hab]; simp
            have H3 : LkA w L n no K cap wg wB _ L1 { s' with rows := s'.rows.set r (some (b :: no :: t)) } M r b := (H2.row2 HRO.out.1 HRO.out.2.1 HRO.out.2.2 0 b 1 no).other b
            have hsw : swap0 (a :: b :: t) no = b :: no :: t := by unfold swap0; rw [if_pos (by simpa using hab)]; rfl
            have hm3 : ∀ x ∈ b :: no :: t, x < 2 * n := fun x hx => by
              rcases List.mem_cons.1 hx with q | q
              · rw [q]; exact hxb
              · rcases List.mem_cons.1 q with q | q
                · rw [q]; exact hno
                · exact HLT.out x q
            clear H2
            go_upto_region 14 with fail
            clear ca fa cbb fb cwo fwo
            generalize ((W2.setCell ⟨cb, 0, none⟩ (.int .i32 (b : Int))).setCell ⟨cb, 1, none⟩ (.int .i32 (no : Int))).setCell ⟨wB, 1, none⟩ (.int .i32 (b : Int)) = W3 at H3 ⊢
            have HQ : Hid (RowRun no r (M.drop (i + 1)) kept s' (b :: no :: t) R) := lookG_row (by rw [HT0.out]; omega) HRO.out.1 hsw HRUN.out
            have HJ3 : Hid (LkJ n no S0 { s' with rows := s'.rows.set r (some (b :: no :: t)) } kept ((r, o) :: M.drop (i + 1))) := HJ.out.row HRO.out.1 rfl hm3
            have HR3 : Hid ((s'.rows.set r (some (b :: no :: t)))[r]? = some (some (b :: no :: t)) ∧ L1.rr[r]? = some (.slice (some ⟨cb, 0, none⟩) (t.length + 2) D) ∧ L1.own cb = (11, r)) := ⟨List.getElem?_set_self (List.getElem?_eq_some_iff.1 HRO.out.1).1, HRO.out.2⟩
            have hX : b < 2 * n := hm3 _ (by simp)
            have HM3 : Hid (∀ x ∈ b :: no :: t, x < 2 * n) := hm3
            obtain ⟨s2, hs2⟩ : ∃ s2, ({ s' with rows := s'.rows.set r (some (b :: no :: t)) } : St) = s2 := ⟨_, rfl⟩
            have htr : s2.truth = s'.truth := by rw [← hs2]
            rw [hs2] at H3 HJ3
            have HS2 : Hid (({ s' with rows := s'.rows.set r (some (b :: no :: t)) } : St) = s2) := hs2
            have HTR : Hid (s2.truth = s'.truth) := htr
            have c4 := H3.c4
            have ct := H3.truth hX
            obtain ⟨t1, ht1⟩ : ∃ t1, s2.truth.getD b 0 = t1 := ⟨_, rfl⟩
            rw [ht1] at ct
            have HT1 : Hid (s'.truth.getD b 0 = t1) := by rw [← htr]; exact ht1
            have h3v := H3.at_.2.t3 b
            rw [show (wset s2 no M).truth = s2.truth from rfl, ht1] at h3v
            have hro3 : s2.rows[r]? = some (some (b :: no :: t)) := by rw [← hs2]; exact HR3.out.1
            have HRO3 : Hid (s2.rows[r]? = some (some (b :: no :: t))) := hro3
            obtain ⟨cx, _, _⟩ := H3.at_.rowcell (i := 0) (x := b) hro3 HR3.out.2.1 rfl
            have x3 : (b : Int) < 2 * (n : Int) := by omega
            have x4 : (b : Int) < ((2 * n : Nat) : Int) := by omega
            clear hs2 htr ht1 hro3 HRUN HJ hsw hm3 HT0 HRO e1
            go_quiet (fail)
            have H1 := H3.drewN nq
            clear H3 c4 ct cx
            generalize W3.drewN nq = W1 at H1 ⊢
            by_cases h1p : 0 < t1
            · have HRU : Hid (lookG no (M.drop (i + 1)) (kept ++ [(r, b)]) s2 = R) := by have := HQ.out.tr (by show 0 < s'.truth.getD b 0; rw [HT1.out]; exact h1p); rw [HS2.out] at this; exact this
              have HJ2 : Hid (LkJ n no S0 s2 (kept ++ [(r, b)]) (M.drop (i + 1))) := HJ3.out.keep hX
              clear HQ HJ3
              obtain ⟨hML2, cur2, hc2, hKc2, hs2⟩ := (H1.alloc (.cells #[.int .i32 (r : Int), .int .i32 (b : Int)] 88)).blk
              have HC2 : Hid ((W1.alloc (.cells #[.int .i32 (r : Int), .int .i32 (b : Int)] 88)).heap[wg]? = some (.cells cur2 88 (0, 0))) := hc2
              have H3 : Hid (LkA w L n no K cap wg wB ((W1.alloc (.cells #[.int .i32 (r : Int), .int .i32 (b : Int)] 88)).setRow wg (cur2.toList.take (kn * 2) ++ Value.int .i32 (r : Int) :: Value.int .i32 (b : Int) :: cur2.toList.drop (kn * 2 + 2)).toArray) L1 s2 (over M kn [(r, b)]) r b) := (H1.alloc (.cells #[.int .i32 (r : Int), .int .i32 (b : Int)] 88)).keep (k := kn) (by omega) hc2 r b
              have NB : Hid ((W1.alloc (.cells #[.int .i32 (r : Int), .int .i32 (b : Int)] 88)).heap[W1.heap.size]? = some (.cells #[.int .i32 (r : Int), .int .i32 (b : Int)] 88 (0, 0))) := heap_new rfl
              have cr := H1.wb.r
              have co := H1.wb.o
              have hfit : kn * 2 + 2 ≤ cur2.size := by omega
              have hrm : kn + 1 ≤ cap := by omega
              have HO : Hid _ := over_keep (r := r) (o := b) HTK.out.1 HTK.out.2 hkn (by omega)
              clear H1 hc2 hs2 hML2
              go_wp2_with (at_builtin; refine wpList_append_here _ rfl _ _ 86 rfl 88 i4 Tryd.underlying86 hj0 2 hj2 wg kn cap cur2 HC2.out rfl ⟨W1.heap.size, 0, none⟩ 1 1 [.int .i32 (r : Int), .int .i32 (b : Int)] rfl rfl (World.news_of_block NB.out) one2 hrm hfit ?_)
              go_roundg g0
              case measure => omega
              case rel => exact ⟨i + 1, kn + 1, _, L1, _, _, _, rfl, rfl, by simp, by omega, by omega, H3.out.next HJ2.out HO.out.1 HO.out.2.1 HO.out.2.2 HRU.out⟩
            · obtain ⟨fk, hfk⟩ : ∃ fk, freeAt s'.truth (b :: no :: t) = fk := ⟨_, rfl⟩
              have g2' : (2 : Int) ≤ (t.length : Int) + 2 := by omega
              cases fk with
              | none =>
                have HFN : Hid (∀ (j x : Nat), t[j]? = some x → s2.truth.getD x 0 < 0) := fun j x hx => by
                  have hj := (List.getElem?_eq_some_iff.1 hx).1
                  unfold freeAt at hfk
                  rw [List.find?_eq_none] at hfk
                  have := hfk j (by simpa using hj)
                  rw [HTR.out]
                  simp only [List.getD_cons_succ, decide_eq_true_eq] at this
                  have e : t.getD j 0 = x := by rw [List.getD_eq_getElem?_getD, hx]; rfl
                  rw [e] at this
                  omega
                have HFR : Hid (freeAt s'.truth (b :: no :: t) = none) := hfk
                clear hfk
                have HL1 : Hid (LkA w L n no K cap wg wB W1 L1 s2 M r b) := H1
                clear H1
                by_cases hD2 : D = 2
                all_goals
                  go_wp2_with fail
                  go_loopg [86] (t.length) (fun k s86 wx => ∃ j : Nat, s86 = .int .i64 (j : Int) ∧ j + k = t.length ∧ Hid (LkA w L n no K cap wg wB wx L1 s2 M r b))
                  case atStart => exact ⟨0, rfl, by omega, HL1⟩
                  case round =>
                    clear HL1
                    obtain ⟨j, rfl, hjk, HL1⟩ := hrel
                    by_cases hlt : j < t.length
                    · first
                      | (exfalso; omega)
                      | (obtain ⟨k, rfl⟩ : ∃ k, gk = k + 1 := ⟨gk - 1, by omega⟩
                         obtain ⟨x, hx⟩ : ∃ x, t[j]? = some x := ⟨_, List.getElem?_eq_getElem hlt⟩
                         have hx2 : x < 2 * n := HLT.out x (List.mem_of_getElem? hx)
                         have cx := (HL1.out.at_.rowcell (i := j + 2) (x := x) HRO3.out HR3.out.2.1 (by simpa using hx)).1
                         have cx' : wr.cell? ⟨cb, 2 + j, none⟩ = some (.int .i32 (x : Int)) := by rw [Nat.add_comm]; exact cx
                         have c4 := HL1.out.c4
                         have ct := HL1.out.truth hx2
                         have htx := HFN.out j x hx
                         generalize s2.truth.getD x 0 = tx at ct htx
                         have x5 : (x : Int) < 2 * (n : Int) := by omega
                         have x6 : (x : Int) < ((2 * n : Nat) : Int) := by omega
                         have j1 : (j : Int) < (t.length : Int) := by omega
                         clear hx
                         go_wp2_with fail
                         go_roundg k
                         case measure => omega
                         case rel => exact ⟨j + 1, by simp, by omega, HL1⟩)
                    · have j1 : ¬ (j : Int) < (t.length : Int) := by omega
                      have H1 := HL1.out
                      clear HL1
                      generalize wr = W1 at H1 ⊢
                      obtain ⟨hML2, cur2, hc2, hKc2, hs2⟩ := (H1.alloc (.cells #[.int .i32 (r : Int), .int .i32 (b : Int)] 88)).blk
                      have HC2 : Hid ((W1.alloc (.cells #[.int .i32 (r : Int), .int .i32 (b : Int)] 88)).heap[wg]? = some (.cells cur2 88 (0, 0))) := hc2
                      have H3 : Hid (LkA w L n no K cap wg wB ((W1.alloc (.cells #[.int .i32 (r : Int), .int .i32 (b : Int)] 88)).setRow wg (cur2.toList.take (kn * 2) ++ Value.int .i32 (r : Int) :: Value.int .i32 (b : Int) :: cur2.toList.drop (kn * 2 + 2)).toArray) L1 s2 (over M kn [(r, b)]) r b) := (H1.alloc (.cells #[.int .i32 (r : Int), .int .i32 (b : Int)] 88)).keep (k := kn) (by omega) hc2 r b
                      have NB : Hid ((W1.alloc (.cells #[.int .i32 (r : Int), .int .i32 (b : Int)] 88)).heap[W1.heap.size]? = some (.cells #[.int .i32 (r : Int), .int .i32 (b : Int)] 88 (0, 0))) := heap_new rfl
                      have cr := H1.wb.r
                      have co := H1.wb.o
                      have hfit : kn * 2 + 2 ≤ cur2.size := by omega
                      have hrm : kn + 1 ≤ cap := by omega
                      have HO : Hid _ := over_keep (r := r) (o := b) HTK.out.1 HTK.out.2 hkn (by omega)
                      clear H1 hc2 hs2 hML2
                      go_upto_region 24 with (at_builtin; refine wpList_append_here _ rfl _ _ 86 rfl 88 i4 Tryd.underlying86 hj0 2 hj2 wg kn cap cur2 HC2.out rfl ⟨W1.heap.size, 0, none⟩ 1 1 [.int .i32 (r : Int), .int .i32 (b : Int)] rfl rfl (World.news_of_block NB.out) one2 hrm hfit ?_)
                      clear cr co HC2 NB hfit hrm
                      generalize (W1.alloc (.cells #[.int .i32 (r : Int), .int .i32 (b : Int)] 88)).setRow wg (cur2.toList.take (kn * 2) ++ Value.int .i32 (r : Int) :: Value.int .i32 (b : Int) :: cur2.toList.drop (kn * 2 + 2)).toArray = W4 at H3 ⊢
                      have HB := believe_any W4.drew L1 n _ b (r : Int) H3.out.drew.at_ hX HJ3.out.cuts (fun q => HJ3.out.tr.room hX q)
                      have d0 : W4.drew.cell? ⟨cb, 0, none⟩ = some (.int .i32 (b : Int)) := (H3.out.drew.at_.rowcell (i := 0) (x := b) HRO3.out HR3.out.2.1 rfl).1
                      have d1 : W4.drew.cell? ⟨wB, 0, none⟩ = some (.int .i32 (r : Int)) := H3.out.drew.wb.r
                      have g00 : (0 : Int) < (t.length : Int) + 1 + 1 := by omega
                      have htv : (wset s2 no (over M kn [(r, b)])).truth.getD b 0 = t1 := by show s2.truth.getD b 0 = t1; rw [HTR.out]; exact HT1.out
                      have hsb := H3.out.sb
                      rw [hsb] at HB
                      by_cases hneg : t1 < 0
                      · have HBF : Hid (Calls Tryd.prog 17 #[.pointer (some ⟨L.sb, 0, none⟩), .int .i32 (b : Int), .int .i32 (r : Int)] W4.drew fun e w' => e = .returned (.bool false) ∧ w' = W4.drew) := HB.mono fun e w' q => by
                          rcases q with ⟨_, q1, q2⟩ | ⟨q, _⟩
                          · rw [htv, decide_eq_false (by omega)] at q1; exact ⟨q1, q2⟩
                          · rw [htv] at q; omega
                        clear HB htv hsb
                        refine wp_region_noPanic ?_
                        refine wp_region_held_drew (S := fun w' => w'.cell? ⟨cb, 0, none⟩ = some (.int .i32 (b : Int)) ∧ w'.cell? ⟨wB, 0, none⟩ = some (.int .i32 (r : Int))) (by kernel_rfl) ⟨d0, d1⟩ (fun hHeld => ?_)
                        refine wpAnyH_take (i := 0) (oi := ({ dst := some 128, op := Op.move (Operand.tmp 0), type := 41, pos := _, after := #[], guard := none } : Oper)) (v := ?_) rfl (by kernel_rfl) (by kernel_rfl) (by kernel_rfl) (fun _ _ _ h => h) (Or.inl ⟨by rfl, ?_⟩) hHeld ?_
                        rotate_left
                        · intro w0 hS0; (try dsimp only at hS0); go_simp; try with_reducible rfl
                        try simp only [Act.put, List.setIfInBounds_toArray, List.set_cons_zero, List.set_cons_succ]
                        refine wpAnyH_take (i := 1) (oi := ({ dst := some 129, op := Op.move (Operand.tmp 10), type := 43, pos := _, after := #[], guard := none } : Oper)) (v := ?_) rfl (by kernel_rfl) (by kernel_rfl) (by kernel_rfl) (fun _ _ _ h => h) (Or.inl ⟨by rfl, ?_⟩) hHeld ?_
                        rotate_left
                        · intro w0 hS0; (try dsimp only at hS0); go_simp; try with_reducible rfl
                        try simp only [Act.put, List.setIfInBounds_toArray, List.set_cons_zero, List.set_cons_succ]
                        refine wpAnyH_take (i := 2) (oi := ({ dst := some 130, op := Op.indexAddr 43 (Operand.tmp 129) (Operand.const (Value.int IntKind.i64 0)), type := 0, pos := _, after := #[{ on := 1, ground := Ground.data }], guard := none } : Oper)) (v := ?_) rfl (by kernel_rfl) (by kernel_rfl) (by kernel_rfl) (fun _ _ _ h => h) (Or.inl ⟨by rfl, ?_⟩) hHeld ?_
                        rotate_left
                        · intro w0 hS0; (try dsimp only at hS0); go_simp; try with_reducible rfl
                        try simp only [Act.put, List.setIfInBounds_toArray, List.set_cons_zero, List.set_cons_succ]
                        refine wpAnyH_take (i := 3) (oi := ({ dst := some 131, op := Op.load 45 (Operand.tmp 130), type := 45, pos := _, after := #[{ on := 2, ground := Ground.data }], guard := none } : Oper)) (v := ?_) rfl (by kernel_rfl) (by kernel_rfl) (by kernel_rfl) (fun _ _ _ h => h) (Or.inl ⟨by rfl, ?_⟩) hHeld ?_
                        rotate_left
                        · intro w0 hS0; (try dsimp only at hS0); go_simp; try with_reducible rfl
                        try simp only [Act.put, List.setIfInBounds_toArray, List.set_cons_zero, List.set_cons_succ]
                        refine wpAnyH_take (i := 4) (oi := ({ dst := some 132, op := Op.fieldAddr 88 (Operand.tmp 9) 0, type := 0, pos := _, after := #[], guard := none } : Oper)) (v := ?_) rfl (by kernel_rfl) (by kernel_rfl) (by kernel_rfl) (fun _ _ _ h => h) (Or.inl ⟨by rfl, ?_⟩) hHeld ?_
                        rotate_left
                        · intro w0 hS0; (try dsimp only at hS0); go_simp; try with_reducible rfl
                        try simp only [Act.put, List.setIfInBounds_toArray, List.set_cons_zero, List.set_cons_succ]
                        refine wpAnyH_take (i := 5) (oi := ({ dst := some 133, op := Op.load 21 (Operand.tmp 132), type := 21, pos := _, after := #[{ on := 4, ground := Ground.data }], guard := none } : Oper)) (v := ?_) rfl (by kernel_rfl) (by kernel_rfl) (by kernel_rfl) (fun _ _ _ h => h) (Or.inl ⟨by rfl, ?_⟩) hHeld ?_
                        rotate_left
                        · intro w0 hS0; (try dsimp only at hS0); go_simp; try with_reducible rfl
                        try simp only [Act.put, List.setIfInBounds_toArray, List.set_cons_zero, List.set_cons_succ]
                        refine wpAnyH_ready (rs := [6]) (by kernel_rfl) (by simp) ?_
                        refine AllReadyH.cons (o := ({ dst := some 134, op := Op.call { callee := Callee.value (Operand.func 17), args := #[Operand.tmp 128, Operand.tmp 131, Operand.tmp 133], argTypes := #[41, 45, 21] }, type := 4, pos := _, after := #[{ on := 0, ground := Ground.data }, { on := 3, ground := Ground.data }, { on := 5, ground := Ground.data }], guard := none } : Oper)) rfl (fun KK hK => ?_) AllReadyH.nil
                        go_simp
                        refine HBF.out.mono ?_
                        rintro e w9 ⟨rfl, hw⟩
                        obtain rfl := hw.symm
                        refine hK.out _ _ ?_ (fun hHeld2 => ?_)
                        · exact ⟨d0, d1⟩
                        clear hK KK
                        try simp only [Act.put, List.setIfInBounds_toArray, List.set_cons_zero, List.set_cons_succ]
                        refine wpAnyH_take (i := 7) (oi := ({ dst := some 135, op := Op.unOp UnOp.not 4 (Operand.tmp 134), type := 4, pos := _, after := #[{ on := 6, ground := Ground.data }], guard := none } : Oper)) (v := ?_) rfl (by kernel_rfl) (by kernel_rfl) (by kernel_rfl) (fun _ _ _ h => h) (Or.inl ⟨by rfl, ?_⟩) hHeld2 ?_
                        rotate_left
                        · intro w0 hS0; (try dsimp only at hS0); go_simp; try with_reducible rfl
                        try simp only [Act.put, List.setIfInBounds_toArray, List.set_cons_zero, List.set_cons_succ]
                        refine wpAnyH_done (by kernel_rfl) ?_ _
                        refine NoPanic.normal ?_
                        obtain ⟨RS, hRS⟩ : ∃ RS, M.drop (i + 1) = RS := ⟨_, rfl⟩
                        obtain ⟨cur3, hc3, hs3, hk3, hl3, hf3', hn3⟩ := H3.out.drew.src (i := i + 1) (RS := RS) (by rw [HO.out.2.2]; exact hRS) (by omega)
                        have HC3 : Hid (W4.drew.heap[wg]? = some (.cells cur3 88 (0, 0))) := hc3
                        have HS3 : Hid ((flatW RS).length = (K - (i + 1)) * 2 ∧ ∀ j u, (flatW RS)[j]? = some u → W4.drew.cell? ((⟨wg, (i + 1) * 2, none⟩ : Addr).add j) = some u) := ⟨hf3', hn3⟩
                        have hr3 : kn + 1 + (K - (i + 1)) ≤ cap := by omega
                        have hf3 : (kn + 1) * 2 + (flatW RS).length ≤ cur3.size := by omega
                        have hRn : (s2, kept ++ (r, b) :: RS, (r : Int)) = R := by
                          have := HQ.out.no_ (by show ¬ 0 < s'.truth.getD b 0; rw [HT1.out]; omega) HFR.out (by show s'.truth.getD b 0 < 0; rw [HT1.out]; exact hneg)
                          rw [HS2.out, hRS] at this
                          exact this
                        have HFI : Hid (∀ W7 : World, W7 = W4.drew.setRow wg (cur3.toList.take ((kn + 1) * 2) ++ flatW RS ++ cur3.toList.drop ((kn + 1) * 2 + (flatW RS).length)).toArray → W7.cell? ⟨L.sb, 3, none⟩ = some (.slice (some ⟨L1.wb, 0, none⟩) (2 * n) (2 * n)) ∧ W7.cell? ⟨L1.wb, no, none⟩ = some (.slice (some ⟨wg, 0, none⟩) K cap) ∧ W7.frozen? ⟨L1.wb, no, none⟩ = false ∧ StPost w L n (wset R.1 no R.2.1) (.int .i32 R.2.2) (.returned (.int .i32 (r : Int))) (W7.setCell ⟨L1.wb, no, none⟩ (.slice (some ⟨wg, 0, none⟩) (kn + 1 + (K - (i + 1))) cap))) := by
                          intro W7 hW7
                          have hA7 := H3.out.drew.ovr (k := kn + 1) (news := RS) (by omega) hc3
                          rw [← hW7] at hA7
                          obtain ⟨k1, k2, k3, L2, k4, k5⟩ := fin_of (k := kn + 1 + (K - (i + 1))) (kept := kept ++ (r, b) :: RS) hA7.at_ hA7.fr hno hA7.wv (by omega) (by
                            have := over_take (news := RS) HO.out.1 HO.out.2.1
                            rw [← hl3]
                            simpa using this)
                          exact ⟨k1, k2, k3, by rw [← hRn], L2, by rw [← hRn]; exact k4, k5⟩
                        clear hc3 hs3 hl3 hn3 hf3' hRn HQ HJ3
                        by_cases hci : cap = i + 1
                        · have hR0 : flatW RS = [] := by
                            apply List.eq_nil_of_length_eq_zero
                            have := HS3.out.1
                            omega
                          have HN0 : Hid (∀ (ad : Addr) (j : Nat) (u : Value), (flatW RS)[j]? = some u → W4.drew.cell? (ad.add j) = some u) := fun ad j u hu => by rw [hR0] at hu; simp at hu
                          clear hR0
                          go_wp2_with (at_builtin; refine wpList_append_here2 _ rfl _ _ 86 rfl 88 i4 Tryd.underlying86 hj0 2 hj2 wg (kn + 1) cap cur3 HC3.out rfl _ (K - (i + 1)) _ (flatW RS) rfl HS3.out.1 (HN0.out _) (flatW_one RS) hr3 hf3 ?_; intro W7 hW7; obtain ⟨c3, cw, fw, q7⟩ := HFI.out W7 hW7; have Q7 : Hid _ := q7; clear hW7 q7)
                          all_goals first | go_ret | (rw [Exit.noGoto_ret]; go_ret)
                          all_goals (have z := Q7.out; rw [hci] at z; exact z)
                        · go_wp2_with (at_builtin; refine wpList_append_here2 _ rfl _ _ 86 rfl 88 i4 Tryd.underlying86 hj0 2 hj2 wg (kn + 1) cap cur3 HC3.out rfl _ (K - (i + 1)) _ (flatW RS) rfl HS3.out.1 HS3.out.2 (flatW_one RS) hr3 hf3 ?_; intro W7 hW7; obtain ⟨c3, cw, fw, q7⟩ := HFI.out W7 hW7; have Q7 : Hid _ := q7; clear hW7 q7)
                          all_goals first | go_ret | (rw [Exit.noGoto_ret]; go_ret)
                          all_goals exact Q7.out
                      · have HBE : Hid (Calls Tryd.prog 17 #[.pointer (some ⟨L.sb, 0, none⟩), .int .i32 (b : Int), .int .i32 (r : Int)] W4.drew fun e w' => e = .returned (.bool true) ∧ ∃ tv own, LkA w L n no K cap wg wB w' { L1 with tv := tv, own := own } (believeP s2 b (r : Int)) (over M kn [(r, b)]) r b) := HB.mono fun e w' q => by
                          rcases q with ⟨q, _⟩ | ⟨_, q1, tv1, own1, q2, q3⟩
                          · rw [htv] at q; omega
                          · exact ⟨q1, tv1, own1, H3.out.drew.believe q2 q3⟩
                        have HRU : Hid (lookG no (M.drop (i + 1)) (kept ++ [(r, b)]) (believeP s2 b (r : Int)) = R) := by
                          have := HQ.out.bl (by show ¬ 0 < s'.truth.getD b 0; rw [HT1.out]; omega) HFR.out (by show ¬ s'.truth.getD b 0 < 0; rw [HT1.out]; exact hneg)
                          rw [HS2.out] at this
                          exact this
                        have HJ2 : Hid (LkJ n no S0 (believeP s2 b (r : Int)) (kept ++ [(r, b)]) (M.drop (i + 1))) := (HJ3.out.keep hX).believe hX (by rw [HTR.out, HT1.out]; omega) _
                        clear HB htv hsb HQ HJ3
                        refine wp_region_noPanic ?_
                        refine wp_region_held_drew (S := fun w' => w'.cell? ⟨cb, 0, none⟩ = some (.int .i32 (b : Int)) ∧ w'.cell? ⟨wB, 0, none⟩ = some (.int .i32 (r : Int))) (by kernel_rfl) ⟨d0, d1⟩ (fun hHeld => ?_)
                        refine wpAnyH_take (i := 0) (oi := ({ dst := some 128, op := Op.move (Operand.tmp 0), type := 41, pos := _, after := #[], guard := none } : Oper)) (v := ?_) rfl (by kernel_rfl) (by kernel_rfl) (by kernel_rfl) (fun _ _ _ h => h) (Or.inl ⟨by rfl, ?_⟩) hHeld ?_
                        rotate_left
                        · intro w0 hS0; (try dsimp only at hS0); go_simp; try with_reducible rfl
                        try simp only [Act.put, List.setIfInBounds_toArray, List.set_cons_zero, List.set_cons_succ]
                        refine wpAnyH_take (i := 1) (oi := ({ dst := some 129, op := Op.move (Operand.tmp 10), type := 43, pos := _, after := #[], guard := none } : Oper)) (v := ?_) rfl (by kernel_rfl) (by kernel_rfl) (by kernel_rfl) (fun _ _ _ h => h) (Or.inl ⟨by rfl, ?_⟩) hHeld ?_
                        rotate_left
                        · intro w0 hS0; (try dsimp only at hS0); go_simp; try with_reducible rfl
                        try simp only [Act.put, List.setIfInBounds_toArray, List.set_cons_zero, List.set_cons_succ]
                        refine wpAnyH_take (i := 2) (oi := ({ dst := some 130, op := Op.indexAddr 43 (Operand.tmp 129) (Operand.const (Value.int IntKind.i64 0)), type := 0, pos := _, after := #[{ on := 1, ground := Ground.data }], guard := none } : Oper)) (v := ?_) rfl (by kernel_rfl) (by kernel_rfl) (by kernel_rfl) (fun _ _ _ h => h) (Or.inl ⟨by rfl, ?_⟩) hHeld ?_
                        rotate_left
                        · intro w0 hS0; (try dsimp only at hS0); go_simp; try with_reducible rfl
                        try simp only [Act.put, List.setIfInBounds_toArray, List.set_cons_zero, List.set_cons_succ]
                        refine wpAnyH_take (i := 3) (oi := ({ dst := some 131, op := Op.load 45 (Operand.tmp 130), type := 45, pos := _, after := #[{ on := 2, ground := Ground.data }], guard := none } : Oper)) (v := ?_) rfl (by kernel_rfl) (by kernel_rfl) (by kernel_rfl) (fun _ _ _ h => h) (Or.inl ⟨by rfl, ?_⟩) hHeld ?_
                        rotate_left
                        · intro w0 hS0; (try dsimp only at hS0); go_simp; try with_reducible rfl
                        try simp only [Act.put, List.setIfInBounds_toArray, List.set_cons_zero, List.set_cons_succ]
                        refine wpAnyH_take (i := 4) (oi := ({ dst := some 132, op := Op.fieldAddr 88 (Operand.tmp 9) 0, type := 0, pos := _, after := #[], guard := none } : Oper)) (v := ?_) rfl (by kernel_rfl) (by kernel_rfl) (by kernel_rfl) (fun _ _ _ h => h) (Or.inl ⟨by rfl, ?_⟩) hHeld ?_
                        rotate_left
                        · intro w0 hS0; (try dsimp only at hS0); go_simp; try with_reducible rfl
                        try simp only [Act.put, List.setIfInBounds_toArray, List.set_cons_zero, List.set_cons_succ]
                        refine wpAnyH_take (i := 5) (oi := ({ dst := some 133, op := Op.load 21 (Operand.tmp 132), type := 21, pos := _, after := #[{ on := 4, ground := Ground.data }], guard := none } : Oper)) (v := ?_) rfl (by kernel_rfl) (by kernel_rfl) (by kernel_rfl) (fun _ _ _ h => h) (Or.inl ⟨by rfl, ?_⟩) hHeld ?_
                        rotate_left
                        · intro w0 hS0; (try dsimp only at hS0); go_simp; try with_reducible rfl
                        try simp only [Act.put, List.setIfInBounds_toArray, List.set_cons_zero, List.set_cons_succ]
                        refine wpAnyH_ready (rs := [6]) (by kernel_rfl) (by simp) ?_
                        refine AllReadyH.cons (o := ({ dst := some 134, op := Op.call { callee := Callee.value (Operand.func 17), args := #[Operand.tmp 128, Operand.tmp 131, Operand.tmp 133], argTypes := #[41, 45, 21] }, type := 4, pos := _, after := #[{ on := 0, ground := Ground.data }, { on := 3, ground := Ground.data }, { on := 5, ground := Ground.data }], guard := none } : Oper)) rfl (fun KK hK => ?_) AllReadyH.nil
                        go_simp
                        refine HBE.out.mono ?_
                        rintro e w9 ⟨rfl, tv9, own9, q9⟩
                        have d0' : w9.cell? ⟨cb, 0, none⟩ = some (.int .i32 (b : Int)) := (q9.at_.rowcell (i := 0) (x := b) (show (believeP s2 b (r : Int)).rows[r]? = _ from HRO3.out) HR3.out.2.1 rfl).1
                        have d1' : w9.cell? ⟨wB, 0, none⟩ = some (.int .i32 (r : Int)) := q9.wb.r
                        have Q9 : Hid (LkA w L n no K cap wg wB w9 { L1 with tv := tv9, own := own9 } (believeP s2 b (r : Int)) (over M kn [(r, b)]) r b) := q9
                        clear q9
                        refine hK.out _ _ ?_ (fun hHeld2 => ?_)
                        · exact ⟨d0', d1'⟩
                        clear hK KK
                        try simp only [Act.put, List.setIfInBounds_toArray, List.set_cons_zero, List.set_cons_succ]
                        refine wpAnyH_take (i := 7) (oi := ({ dst := some 135, op := Op.unOp UnOp.not 4 (Operand.tmp 134), type := 4, pos := _, after := #[{ on := 6, ground := Ground.data }], guard := none } : Oper)) (v := ?_) rfl (by kernel_rfl) (by kernel_rfl) (by kernel_rfl) (fun _ _ _ h => h) (Or.inl ⟨by rfl, ?_⟩) hHeld2 ?_
                        rotate_left
                        · intro w0 hS0; (try dsimp only at hS0); go_simp; try with_reducible rfl
                        try simp only [Act.put, List.setIfInBounds_toArray, List.set_cons_zero, List.set_cons_succ]
                        refine wpAnyH_done (by kernel_rfl) ?_ _
                        refine NoPanic.normal ?_
                        clear d0' d1' hHeld2
                        go_wp2_with fail
                        go_roundg g0
                        case measure => omega
                        case rel => exact ⟨i + 1, kn + 1, _, _, _, _, _, rfl, rfl, by simp, by omega, by omega, Q9.out.next HJ2.out HO.out.1 HO.out.2.1 HO.out.2.2 HRU.out⟩
              | some k =>
                unfold freeAt at hfk
                rw [List.find?_range_eq_some] at hfk
                obtain ⟨hf1, hf2, hf3⟩ := hfk
                have hk1 : k < t.length := by simpa using hf2
                obtain ⟨l, hl⟩ : ∃ l, t[k]? = some l := ⟨_, List.getElem?_eq_getElem hk1⟩
                have hlg : (b :: no :: t).getD (k + 2) 0 = l := by rw [List.getD_eq_getElem?_getD]; simp [hl]
                have htl : 0 ≤ s2.truth.getD l 0 := by
                  rw [hlg] at hf1
                  rw [HTR.out]
                  simpa using hf1
                have HFN : Hid (∀ (j x : Nat), j < k → t[j]? = some x → s2.truth.getD x 0 < 0) := fun j x hj hx => by
                  have e : (b :: no :: t).getD (j + 2) 0 = x := by rw [List.getD_eq_getElem?_getD]; simp [hx]
                  have := hf3 j hj
                  rw [e] at this
                  rw [HTR.out]
                  simpa using this
                have hl2 : l < 2 * n := HLT.out l (List.mem_of_getElem? hl)
                have hne : l ≠ no := fun e => by have := HJ3.out.no_; rw [← e] at this; omega
                have HLK : Hid (t[k]? = some l) := hl
                have HFR : Hid (freeAt s'.truth (b :: no :: t) = some k) := by
                  show freeAt s'.truth (b :: no :: t) = some k
                  unfold freeAt
                  rw [List.find?_range_eq_some]
                  exact ⟨hf1, hf2, hf3⟩
                have HLG : Hid ((b :: no :: t).getD (k + 2) 0 = l) := hlg
                clear hf1 hf2 hf3 hl hlg
                have HL1 : Hid (LkA w L n no K cap wg wB W1 L1 s2 M r b) := H1
                clear H1
                have hD2 : ¬ D = 2 := by omega
                go_wp2_with fail
                go_loopg [86] (k) (fun q s86 wx => ∃ j : Nat, s86 = .int .i64 (j : Int) ∧ j + q = k ∧ Hid (LkA w L n no K cap wg wB wx L1 s2 M r b))
                case atStart => exact ⟨0, rfl, by omega, HL1⟩
                case round =>
                  clear HL1
                  obtain ⟨j, rfl, hjk, HL1⟩ := hrel
                  have j1 : (j : Int) < (t.length : Int) := by omega
                  by_cases hlt : j < k
                  · obtain ⟨q, rfl⟩ : ∃ q, gk = q + 1 := ⟨gk - 1, by omega⟩
                    obtain ⟨x, hx⟩ : ∃ x, t[j]? = some x := ⟨_, List.getElem?_eq_getElem (by omega)⟩
                    have hx2 : x < 2 * n := HLT.out x (List.mem_of_getElem? hx)
                    have cx := (HL1.out.at_.rowcell (i := j + 2) (x := x) HRO3.out HR3.out.2.1 (by simpa using hx)).1
                    have cx' : wr.cell? ⟨cb, 2 + j, none⟩ = some (.int .i32 (x : Int)) := by rw [Nat.add_comm]; exact cx
                    have c4 := HL1.out.c4
                    have ct := HL1.out.truth hx2
                    have htx := HFN.out j x hlt hx
                    generalize s2.truth.getD x 0 = tx at ct htx
                    have x5 : (x : Int) < 2 * (n : Int) := by omega
                    have x6 : (x : Int) < ((2 * n : Nat) : Int) := by omega
                    clear hx
                    go_wp2_with fail
                    go_roundg q
                    case measure => omega
                    case rel => exact ⟨j + 1, by simp, by omega, HL1⟩
                  · obtain rfl : j = k := by omega
                    have H1 := HL1.out
                    clear HL1
                    obtain ⟨cx, fx, _⟩ := H1.at_.rowcell (i := j + 2) (x := l) HRO3.out HR3.out.2.1 (by simpa using HLK.out)
                    have cx' : wr.cell? ⟨cb, 2 + j, none⟩ = some (.int .i32 (l : Int)) := by rw [Nat.add_comm]; exact cx
                    obtain ⟨cy, fy, _⟩ := H1.at_.rowcell (i := 1) (x := no) HRO3.out HR3.out.2.1 rfl
                    have c4 := H1.c4
                    have ct := H1.truth hl2
                    obtain ⟨tl, htl'⟩ : ∃ tl, s2.truth.getD l 0 = tl := ⟨_, rfl⟩
                    rw [htl'] at ct htl
                    have x5 : (l : Int) < 2 * (n : Int) := by omega
                    have x6 : (l : Int) < ((2 * n : Nat) : Int) := by omega
                    have y1 : (1 : Int) < (t.length : Int) + 1 + 1 := by omega
                    have y2 : (j : Int) + 2 < (t.length : Int) + 1 + 1 := by omega
                    have H5 := H1.row2 HRO3.out HR3.out.2.1 HR3.out.2.2 1 l (j + 2) no
                    have hJ5 : LkJ n no S0 { s2 with rows := s2.rows.set r (some (((b :: no :: t).set 1 l).set (j + 2) no)) } kept ((r, o) :: M.drop (i + 1)) := HJ3.out.row HRO3.out (by simp) (fun x hx => by
                      rcases List.mem_or_eq_of_mem_set hx with hx | hx
                      · rcases List.mem_or_eq_of_mem_set hx with hx | hx
                        · exact HM3.out x hx
                        · rw [hx]; exact hl2
                      · rw [hx]; exact hno)
                    have hRU5 := HQ.out.fr (by show ¬ 0 < s'.truth.getD b 0; rw [HT1.out]; omega) j HFR.out
                    rw [HLG.out] at hRU5
                    have e5 : ({ s' with rows := s'.rows.set r (some (((b :: no :: t).set 1 l).set (j + 2) no)) } : St) = { s2 with rows := s2.rows.set r (some (((b :: no :: t).set 1 l).set (j + 2) no)) } := by rw [← HS2.out]; simp
                    rw [e5] at hRU5
                    obtain ⟨s5, hs5⟩ : ∃ s5, ({ s2 with rows := s2.rows.set r (some (((b :: no :: t).set 1 l).set (j + 2) no)) } : St) = s5 := ⟨_, rfl⟩
                    rw [hs5] at H5 hJ5 hRU5
                    obtain ⟨S3, hS3⟩ : ∃ S3, pushW s5 l r b = S3 := ⟨_, rfl⟩
                    have HJ2 : Hid (LkJ n no S0 S3 kept (M.drop (i + 1))) := by rw [← hS3]; exact hJ5.push hl2 hne hX
                    have HRU : Hid (lookG no (M.drop (i + 1)) kept S3 = R) := by rw [← hS3]; exact hRU5
                    have hfew := hJ5.few hl2 hne
                    clear H1 hJ5 hRU5 e5 hs5 htl' HQ HJ3 HFR
                    go_upto_region 21 with fail
                    clear cx fx cx' cy fy c4 ct
                    generalize (wr.setCell ⟨cb, 1, none⟩ (.int .i32 (l : Int))).setCell ⟨cb, j + 2, none⟩ (.int .i32 (no : Int)) = W5 at H5 ⊢
                    obtain ⟨v5, ev5, hw5⟩ := H5.at_.1.wl l trivial hl2
                    have e6 : (wset s5 no M).watches.getD l [] = s5.watches.getD l [] := by
                      have : s5.watches.length = 2 * n := by have := H5.at_.2.wt; simpa [wset] using this
                      rw [wset_getD (by rw [this]; exact hno), if_neg hne]
                    rw [e6] at hw5
                    obtain ⟨wa, wc, hf5⟩ := hw5.form
                    subst hf5
                    obtain ⟨FW, hFW⟩ : ∃ FW, s5.watches.getD l [] = FW := ⟨_, rfl⟩
                    obtain ⟨Kl, hKl⟩ : ∃ Kl, FW.length = Kl := ⟨_, rfl⟩
                    rw [hFW, hKl] at hw5 ev5
                    rw [hFW, hKl] at hfew
                    have c3 : W5.cell? ⟨L.sb, 3, none⟩ = some (.slice (some ⟨L1.wb, 0, none⟩) (2 * n) (2 * n)) := by rw [← H5.sb]; exact H5.at_.cell 3
                    have cw : W5.cell? ⟨L1.wb, l, none⟩ = some (.slice wa Kl wc) := by rw [block_cell (H5.at_.1.wt trivial).1]; simpa using ev5
                    have d3 : W5.drew.cell? ⟨L.sb, 3, none⟩ = some (.slice (some ⟨L1.wb, 0, none⟩) (2 * n) (2 * n)) := c3
                    have d0 : W5.drew.cell? ⟨wB, 0, none⟩ = some (.int .i32 (r : Int)) := H5.wb.r
                    have d1 : W5.drew.cell? ⟨wB, 1, none⟩ = some (.int .i32 (b : Int)) := H5.wb.o
                    have dw : W5.drew.cell? ⟨L1.wb, l, none⟩ = some (.slice wa Kl wc) := cw
                    have HA5 := H5.alloc (.cells #[.int .i32 (r : Int), .int .i32 (b : Int)] 88)
                    have a3 : (W5.alloc (.cells #[.int .i32 (r : Int), .int .i32 (b : Int)] 88)).cell? ⟨L.sb, 3, none⟩ = some (.slice (some ⟨L1.wb, 0, none⟩) (2 * n) (2 * n)) := by rw [← H5.sb]; exact HA5.at_.cell 3
                    have a0 := HA5.wb.r
                    have a1 := HA5.wb.o
                    have aw : (W5.alloc (.cells #[.int .i32 (r : Int), .int .i32 (b : Int)] 88)).cell? ⟨L1.wb, l, none⟩ = some (.slice wa Kl wc) := by rw [block_cell (HA5.at_.1.wt trivial).1]; simpa using ev5
                    have OW : Hid ((W5.drew.alloc (.cells #[.int .i32 (r : Int), .int .i32 (b : Int)] 88)).ownsRow 0 88 2 (.slice wa Kl wc) Kl (flatW FW)) := (hw5.fr fun b hb _ => heap_alloc_old W5.drew _ hb).1
                    have NB : Hid ((W5.drew.alloc (.cells #[.int .i32 (r : Int), .int .i32 (b : Int)] 88)).heap[W5.heap.size]? = some (.cells #[.int .i32 (r : Int), .int .i32 (b : Int)] 88 (0, 0))) := heap_new (by simp)
                    have hmx : Kl + 1 ≤ maxLen := by unfold maxLen; omega
                    have hby : (Kl + 1) * 8 ≤ 140737488355328 := by omega
                    have HPU : Hid (∀ (g cp : Nat) (w9 : World), w9.ownsRow 0 88 2 (.slice (some ⟨g, 0, none⟩) (Kl + 1) cp) (Kl + 1) (flatW FW ++ [.int .i32 (r : Int), .int .i32 (b : Int)]) → (W5.drew.alloc (.cells #[.int .i32 (r : Int), .int .i32 (b : Int)] 88)).grownBy w9 (Value.slice wa Kl wc).ownBlock → ((Value.slice wa Kl wc).ownBlock = some g ∨ g = W5.heap.size + 1) →
                        w9.cell? ⟨L.sb, 3, none⟩ = some (.slice (some ⟨L1.wb, 0, none⟩) (2 * n) (2 * n)) ∧ WB w9 wB r b ∧ w9.cell? ⟨L1.wb, l, none⟩ = some (.slice wa Kl wc) ∧ w9.frozen? ⟨L1.wb, l, none⟩ = false ∧ ∃ L', LkA w L n no K cap wg wB (w9.setCell ⟨L1.wb, l, none⟩ (.slice (some ⟨g, 0, none⟩) (Kl + 1) cp)) L' S3 M r b) := by
                      intro g cp w9 ho9 hg9 hat9
                      have := H5.push hl2 hne ev5 (T := .cells #[.int .i32 (r : Int), .int .i32 (b : Int)] 88) (g := g) (cp := cp) (w9 := w9) (by rw [hFW, hKl]; exact ho9) hg9 hat9
                      rw [hFW, hKl, hS3] at this
                      exact this
                    have hwt := (H5.at_.1.wt trivial).2
                    have hn1 : (⟨L1.wb, l, none⟩ : Addr) ≠ ⟨L.sb, 3, none⟩ := fun e => by have e1 : L1.wb = L.sb := congrArg Addr.block e; have := (H5.at_.1.st trivial).2; rw [H5.sb, ← e1, hwt] at this; cases this
                    have hn2 : (⟨L1.wb, l, none⟩ : Addr) ≠ ⟨wB, 0, none⟩ := fun e => by have e1 : L1.wb = wB := congrArg Addr.block e; have := H5.ow; rw [← e1, hwt] at this; cases this
                    have hn3 : (⟨L1.wb, l, none⟩ : Addr) ≠ ⟨wB, 1, none⟩ := fun e => by have e1 : L1.wb = wB := congrArg Addr.block e; have := H5.ow; rw [← e1, hwt] at this; cases this
                    clear H5 HA5 ev5 hw5 hFW hKl e6 hwt hS3 hfew
                    refine wp_region_noPanic ?_
                    refine wp_region_held_drew (S := fun w' => w'.cell? ⟨L.sb, 3, none⟩ = some (.slice (some ⟨L1.wb, 0, none⟩) (2 * n) (2 * n)) ∧ w'.cell? ⟨wB, 0, none⟩ = some (.int .i32 (r : Int)) ∧ w'.cell? ⟨wB, 1, none⟩ = some (.int .i32 (b : Int))) (by kernel_rfl) ⟨d3, d0, d1⟩ (fun hHeld => ?_)
                    refine wpAnyH_take (i := 0) (oi := ({ dst := some 107, op := Op.move (Operand.tmp 0), type := 41, pos := _, after := #[], guard := none } : Oper)) (v := ?_) rfl (by kernel_rfl) (by kernel_rfl) (by kernel_rfl) (fun _ _ _ h => h) (Or.inl ⟨by rfl, ?_⟩) hHeld ?_
                    rotate_left
                    · intro w0 hS0; (try dsimp only at hS0); go_simp; try with_reducible rfl
                    try simp only [Act.put, List.setIfInBounds_toArray, List.set_cons_zero, List.set_cons_succ]
                    refine wpAnyH_take (i := 1) (oi := ({ dst := some 108, op := Op.nilCheck (Operand.tmp 107), type := 0, pos := _, after := #[{ on := 0, ground := Ground.data }], guard := none } : Oper)) (v := ?_) rfl (by kernel_rfl) (by kernel_rfl) (by kernel_rfl) (fun _ _ _ h => h) (Or.inl ⟨by rfl, ?_⟩) hHeld ?_
                    rotate_left
                    · intro w0 hS0; (try dsimp only at hS0); go_simp; try with_reducible rfl
                    try simp only [Act.put, List.setIfInBounds_toArray, List.set_cons_zero, List.set_cons_succ]
                    refine wpAnyH_take (i := 2) (oi := ({ dst := some 109, op := Op.fieldAddr 54 (Operand.tmp 108) 3, type := 0, pos := _, after := #[{ on := 1, ground := Ground.data }], guard := none } : Oper)) (v := ?_) rfl (by kernel_rfl) (by kernel_rfl) (by kernel_rfl) (fun _ _ _ h => h) (Or.inl ⟨by rfl, ?_⟩) hHeld ?_
                    rotate_left
                    · intro w0 hS0; (try dsimp only at hS0); go_simp; try with_reducible rfl
                    try simp only [Act.put, List.setIfInBounds_toArray, List.set_cons_zero, List.set_cons_succ]
                    refine wpAnyH_take (i := 3) (oi := ({ dst := some 110, op := Op.load 51 (Operand.tmp 109), type := 51, pos := _, after := #[{ on := 2, ground := Ground.data }], guard := none } : Oper)) (v := ?_) rfl (by kernel_rfl) (by kernel_rfl) (by kernel_rfl) (fun _ _ _ h => h) (Or.inl ⟨by rfl, ?_⟩) hHeld ?_
                    rotate_left
                    · intro w0 hS0; (try dsimp only at hS0); go_simp; try with_reducible rfl
                    try simp only [Act.put, List.setIfInBounds_toArray, List.set_cons_zero, List.set_cons_succ]
                    refine wpAnyH_take (i := 4) (oi := ({ dst := some 111, op := Op.move (Operand.tmp 12), type := 45, pos := _, after := #[], guard := none } : Oper)) (v := ?_) rfl (by kernel_rfl) (by kernel_rfl) (by kernel_rfl) (fun _ _ _ h => h) (Or.inl ⟨by rfl, ?_⟩) hHeld ?_
                    rotate_left
                    · intro w0 hS0; (try dsimp only at hS0); go_simp; try with_reducible rfl
                    try simp only [Act.put, List.setIfInBounds_toArray, List.set_cons_zero, List.set_cons_succ]
                    refine wpAnyH_take (i := 5) (oi := ({ dst := some 112, op := Op.move (Operand.tmp 0), type := 41, pos := _, after := #[], guard := none } : Oper)) (v := ?_) rfl (by kernel_rfl) (by kernel_rfl) (by kernel_rfl) (fun _ _ _ h => h) (Or.inl ⟨by rfl, ?_⟩) hHeld ?_
                    rotate_left
                    · intro w0 hS0; (try dsimp only at hS0); go_simp; try with_reducible rfl
                    try simp only [Act.put, List.setIfInBounds_toArray, List.set_cons_zero, List.set_cons_succ]
                    refine wpAnyH_take (i := 6) (oi := ({ dst := some 113, op := Op.nilCheck (Operand.tmp 112), type := 0, pos := _, after := #[{ on := 5, ground := Ground.data }], guard := none } : Oper)) (v := ?_) rfl (by kernel_rfl) (by kernel_rfl) (by kernel_rfl) (fun _ _ _ h => h) (Or.inl ⟨by rfl, ?_⟩) hHeld ?_
                    rotate_left
                    · intro w0 hS0; (try dsimp only at hS0); go_simp; try with_reducible rfl
                    try simp only [Act.put, List.setIfInBounds_toArray, List.set_cons_zero, List.set_cons_succ]
                    refine wpAnyH_take (i := 7) (oi := ({ dst := some 114, op := Op.fieldAddr 54 (Operand.tmp 113) 3, type := 0, pos := _, after := #[{ on := 6, ground := Ground.data }], guard := none } : Oper)) (v := ?_) rfl (by kernel_rfl) (by kernel_rfl) (by kernel_rfl) (fun _ _ _ h => h) (Or.inl ⟨by rfl, ?_⟩) hHeld ?_
                    rotate_left
                    · intro w0 hS0; (try dsimp only at hS0); go_simp; try with_reducible rfl
                    try simp only [Act.put, List.setIfInBounds_toArray, List.set_cons_zero, List.set_cons_succ]
                    refine wpAnyH_take (i := 8) (oi := ({ dst := some 115, op := Op.load 51 (Operand.tmp 114), type := 51, pos := _, after := #[{ on := 7, ground := Ground.data }], guard := none } : Oper)) (v := ?_) rfl (by kernel_rfl) (by kernel_rfl) (by kernel_rfl) (fun _ _ _ h => h) (Or.inl ⟨by rfl, ?_⟩) hHeld ?_
                    rotate_left
                    · intro w0 hS0; (try dsimp only at hS0); go_simp; try with_reducible rfl
                    try simp only [Act.put, List.setIfInBounds_toArray, List.set_cons_zero, List.set_cons_succ]
                    refine wpAnyH_take (i := 9) (oi := ({ dst := some 116, op := Op.move (Operand.tmp 12), type := 45, pos := _, after := #[], guard := none } : Oper)) (v := ?_) rfl (by kernel_rfl) (by kernel_rfl) (by kernel_rfl) (fun _ _ _ h => h) (Or.inl ⟨by rfl, ?_⟩) hHeld ?_
                    rotate_left
                    · intro w0 hS0; (try dsimp only at hS0); go_simp; try with_reducible rfl
                    try simp only [Act.put, List.setIfInBounds_toArray, List.set_cons_zero, List.set_cons_succ]
                    refine wpAnyH_take (i := 10) (oi := ({ dst := some 117, op := Op.indexAddr 51 (Operand.tmp 115) (Operand.tmp 116), type := 0, pos := _, after := #[{ on := 8, ground := Ground.data }, { on := 9, ground := Ground.data }], guard := none } : Oper)) (v := ?_) rfl (by kernel_rfl) (by kernel_rfl) (by kernel_rfl) (fun _ _ _ h => h) (Or.inl ⟨by rfl, ?_⟩) hHeld ?_
                    rotate_left
                    · intro w0 hS0; (try dsimp only at hS0); go_simp; try with_reducible rfl
                    try simp only [Act.put, List.setIfInBounds_toArray, List.set_cons_zero, List.set_cons_succ]
                    refine wpAnyH_take (i := 12) (oi := ({ dst := some 119, op := Op.load 88 (Operand.tmp 9), type := 88, pos := _, after := #[], guard := none } : Oper)) (v := ?_) rfl (by kernel_rfl) (by kernel_rfl) (by kernel_rfl) (fun _ _ _ h => h) (Or.inl ⟨by rfl, ?_⟩) hHeld ?_
                    rotate_left
                    · intro w0 hS0; (try dsimp only at hS0); go_simp; try with_reducible rfl
                    try simp only [Act.put, List.setIfInBounds_toArray, List.set_cons_zero, List.set_cons_succ]
                    refine wpAnyH_ready (rs := [11, 13]) (by kernel_rfl) (by simp) ?_
                    refine AllReadyH.cons (o := ({ dst := some 118, op := Op.load 86 (Operand.tmp 117), type := 86, pos := _, after := #[{ on := 10, ground := Ground.data }], guard := none } : Oper)) rfl (fun KK hK => ?_) (AllReadyH.cons (o := ({ dst := some 120, op := Op.buildSlice 86 1 #[(0, Operand.tmp 119)], type := 86, pos := _, after := #[{ on := 12, ground := Ground.data }], guard := none } : Oper)) rfl (fun KK hK => ?_) AllReadyH.nil)
                    · go_simp
                      refine hK.out _ _ ?_ (fun hHeld2 => ?_)
                      · exact ⟨d3, d0, d1⟩
                      clear hK KK
                      try simp only [Act.put, List.setIfInBounds_toArray, List.set_cons_zero, List.set_cons_succ]
                      refine wpAnyH_ready (rs := [13]) (by kernel_rfl) (by simp) ?_
                      refine AllReadyH.cons (o := ({ dst := some 120, op := Op.buildSlice 86 1 #[(0, Operand.tmp 119)], type := 86, pos := _, after := #[{ on := 12, ground := Ground.data }], guard := none } : Oper)) rfl (fun KK hK => ?_) AllReadyH.nil
                      go_simp
                      refine hK.out _ _ ?_ (fun hHeld3 => ?_)
                      · exact ⟨a3, a0, a1⟩
                      clear hK KK
                      try simp only [Act.put, List.setIfInBounds_toArray, List.set_cons_zero, List.set_cons_succ]
                      refine wpAnyH_ready (rs := [14]) (by kernel_rfl) (by simp) ?_
                      refine AllReadyH.cons (o := ({ dst := some 121, op := Op.call { callee := Callee.builtin Builtin.append, args := #[Operand.tmp 118, Operand.tmp 120], argTypes := #[86, 86] }, type := 86, pos := _, after := #[{ on := 11, ground := Ground.data }, { on := 13, ground := Ground.data }], guard := none } : Oper)) rfl (fun KK hK => ?_) AllReadyH.nil
                      refine step_append_lies _ (by rfl) _ _ 86 (by rfl) 0 88 i4 _ 2 8 Tryd.underlying86 hj0 hj1 hj2 hj3 rfl (by decide) (.slice wa Kl wc) _ (flatW FW) (by rfl) OW.out ⟨W5.heap.size, 0, none⟩ 1 1 [.int .i32 (r : Int), .int .i32 (b : Int)] (by rfl) rfl (World.news_of_block NB.out) one2 (by decide) hmx hby (Nat.zero_le _) (W5.heap.size + 1) (by simp) ?_
                      intro g9 cap9 w9' ho9 hg9 hat9 hlt9
                      obtain ⟨u3, ub, uw, q2, q3⟩ := HPU.out g9 cap9 w9' ho9 hg9 hat9
                      have u0 := ub.r
                      have u1 := ub.o
                      have Q3 : Hid (∃ L', LkA w L n no K cap wg wB (w9'.setCell ⟨L1.wb, l, none⟩ (.slice (some ⟨g9, 0, none⟩) (Kl + 1) cap9)) L' S3 M r b) := q3
                      clear ho9 hg9 hat9 q3 ub
                      refine hK.out _ _ ?_ (fun hHeld4 => ?_)
                      · exact ⟨u3, u0, u1⟩
                      clear hK KK
                      try simp only [Act.put, List.setIfInBounds_toArray, List.set_cons_zero, List.set_cons_succ]
                      refine wpAnyH_take (i := 15) (oi := ({ dst := some 122, op := Op.indexAddr 51 (Operand.tmp 110) (Operand.tmp 111), type := 0, pos := _, after := #[{ on := 3, ground := Ground.data }, { on := 4, ground := Ground.data }, { on := 0, ground := Ground.phase }, { on := 1, ground := Ground.phase }, { on := 2, ground := Ground.phase }, { on := 3, ground := Ground.phase }, { on := 4, ground := Ground.phase }, { on := 5, ground := Ground.phase }, { on := 6, ground := Ground.phase }, { on := 7, ground := Ground.phase }, { on := 8, ground := Ground.phase }, { on := 9, ground := Ground.phase }, { on := 10, ground := Ground.phase }, { on := 11, ground := Ground.phase }, { on := 12, ground := Ground.phase }, { on := 13, ground := Ground.phase }, { on := 14, ground := Ground.phase }], guard := none } : Oper)) (v := ?_) rfl (by kernel_rfl) (by kernel_rfl) (by kernel_rfl) (fun _ _ _ h => h) (Or.inl ⟨by rfl, ?_⟩) hHeld4 ?_
                      rotate_left
                      · intro w0 hS0; (try dsimp only at hS0); go_simp; try with_reducible rfl
                      try simp only [Act.put, List.setIfInBounds_toArray, List.set_cons_zero, List.set_cons_succ]
                      refine wpAnyH_ready (rs := [16]) (by kernel_rfl) (by simp) ?_
                      refine AllReadyH.cons (o := ({ dst := none, op := Op.store 86 (Operand.tmp 122) (Operand.tmp 121), type := 0, pos := _, after := #[{ on := 15, ground := Ground.data }, { on := 14, ground := Ground.data }, { on := 14, ground := Ground.chain }, { on := 0, ground := Ground.phase }, { on := 1, ground := Ground.phase }, { on := 2, ground := Ground.phase }, { on := 3, ground := Ground.phase }, { on := 4, ground := Ground.phase }, { on := 5, ground := Ground.phase }, { on := 6, ground := Ground.phase }, { on := 7, ground := Ground.phase }, { on := 8, ground := Ground.phase }, { on := 9, ground := Ground.phase }, { on := 10, ground := Ground.phase }, { on := 11, ground := Ground.phase }, { on := 12, ground := Ground.phase }, { on := 13, ground := Ground.phase }, { on := 14, ground := Ground.phase }], guard := none } : Oper)) rfl (fun KK hK => ?_) AllReadyH.nil
                      go_simp
                      refine hK.out _ _ ?_ (fun _ => ?_)
                      · exact ⟨by rw [World.cell?_setCell_other _ _ _ _ hn1]; exact u3, by rw [World.cell?_setCell_other _ _ _ _ hn2]; exact u0, by rw [World.cell?_setCell_other _ _ _ _ hn3]; exact u1⟩
                      clear hK KK
                      refine wpAnyH_done (by kernel_rfl) ?_ _
                      refine NoPanic.normal ?_
                      obtain ⟨L5, Q5⟩ := Q3.out
                      have Q6 : Hid (LkA w L n no K cap wg wB _ L5 S3 M r b) := Q5
                      clear Q3 Q5 u3 u0 u1 uw q2
                      go_wp2_with fail
                      go_roundg g0
                      case measure => omega
                      case rel => exact ⟨i + 1, kn, _, L5, M, kept, _, rfl, rfl, by simp, by omega, by omega, Q6.out.next HJ2.out HTK.out.1 HTK.out.2 rfl HRU.out⟩
                    · go_simp
                      refine hK.out _ _ ?_ (fun hHeld2 => ?_)
                      · exact ⟨a3, a0, a1⟩
                      clear hK KK
                      try simp only [Act.put, List.setIfInBounds_toArray, List.set_cons_zero, List.set_cons_succ]
                      refine wpAnyH_ready (rs := [11]) (by kernel_rfl) (by simp) ?_
                      refine AllReadyH.cons (o := ({ dst := some 118, op := Op.load 86 (Operand.tmp 117), type := 86, pos := _, after := #[{ on := 10, ground := Ground.data }], guard := none } : Oper)) rfl (fun KK hK => ?_) AllReadyH.nil
                      go_simp
                      refine hK.out _ _ ?_ (fun hHeld3 => ?_)
                      · exact ⟨a3, a0, a1⟩
                      clear hK KK
                      try simp only [Act.put, List.setIfInBounds_toArray, List.set_cons_zero, List.set_cons_succ]
                      refine wpAnyH_ready (rs := [14]) (by kernel_rfl) (by simp) ?_
                      refine AllReadyH.cons (o := ({ dst := some 121, op := Op.call { callee := Callee.builtin Builtin.append, args := #[Operand.tmp 118, Operand.tmp 120], argTypes := #[86, 86] }, type := 86, pos := _, after := #[{ on := 11, ground := Ground.data }, { on := 13, ground := Ground.data }], guard := none } : Oper)) rfl (fun KK hK => ?_) AllReadyH.nil
                      refine step_append_lies _ (by rfl) _ _ 86 (by rfl) 0 88 i4 _ 2 8 Tryd.underlying86 hj0 hj1 hj2 hj3 rfl (by decide) (.slice wa Kl wc) _ (flatW FW) (by rfl) OW.out ⟨W5.heap.size, 0, none⟩ 1 1 [.int .i32 (r : Int), .int .i32 (b : Int)] (by rfl) rfl (World.news_of_block NB.out) one2 (by decide) hmx hby (Nat.zero_le _) (W5.heap.size + 1) (by simp) ?_
                      intro g9 cap9 w9' ho9 hg9 hat9 hlt9
                      obtain ⟨u3, ub, uw, q2, q3⟩ := HPU.out g9 cap9 w9' ho9 hg9 hat9
                      have u0 := ub.r
                      have u1 := ub.o
                      have Q3 : Hid (∃ L', LkA w L n no K cap wg wB (w9'.setCell ⟨L1.wb, l, none⟩ (.slice (some ⟨g9, 0, none⟩) (Kl + 1) cap9)) L' S3 M r b) := q3
                      clear ho9 hg9 hat9 q3 ub
                      refine hK.out _ _ ?_ (fun hHeld4 => ?_)
                      · exact ⟨u3, u0, u1⟩
                      clear hK KK
                      try simp only [Act.put, List.setIfInBounds_toArray, List.set_cons_zero, List.set_cons_succ]
                      refine wpAnyH_take (i := 15) (oi := ({ dst := some 122, op := Op.indexAddr 51 (Operand.tmp 110) (Operand.tmp 111), type := 0, pos := _, after := #[{ on := 3, ground := Ground.data }, { on := 4, ground := Ground.data }, { on := 0, ground := Ground.phase }, { on := 1, ground := Ground.phase }, { on := 2, ground := Ground.phase }, { on := 3, ground := Ground.phase }, { on := 4, ground := Ground.phase }, { on := 5, ground := Ground.phase }, { on := 6, ground := Ground.phase }, { on := 7, ground := Ground.phase }, { on := 8, ground := Ground.phase }, { on := 9, ground := Ground.phase }, { on := 10, ground := Ground.phase }, { on := 11, ground := Ground.phase }, { on := 12, ground := Ground.phase }, { on := 13, ground := Ground.phase }, { on := 14, ground := Ground.phase }], guard := none } : Oper)) (v := ?_) rfl (by kernel_rfl) (by kernel_rfl) (by kernel_rfl) (fun _ _ _ h => h) (Or.inl ⟨by rfl, ?_⟩) hHeld4 ?_
                      rotate_left
                      · intro w0 hS0; (try dsimp only at hS0); go_simp; try with_reducible rfl
                      try simp only [Act.put, List.setIfInBounds_toArray, List.set_cons_zero, List.set_cons_succ]
                      refine wpAnyH_ready (rs := [16]) (by kernel_rfl) (by simp) ?_
                      refine AllReadyH.cons (o := ({ dst := none, op := Op.store 86 (Operand.tmp 122) (Operand.tmp 121), type := 0, pos := _, after := #[{ on := 15, ground := Ground.data }, { on := 14, ground := Ground.data }, { on := 14, ground := Ground.chain }, { on := 0, ground := Ground.phase }, { on := 1, ground := Ground.phase }, { on := 2, ground := Ground.phase }, { on := 3, ground := Ground.phase }, { on := 4, ground := Ground.phase }, { on := 5, ground := Ground.phase }, { on := 6, ground := Ground.phase }, { on := 7, ground := Ground.phase }, { on := 8, ground := Ground.phase }, { on := 9, ground := Ground.phase }, { on := 10, ground := Ground.phase }, { on := 11, ground := Ground.phase }, { on := 12, ground := Ground.phase }, { on := 13, ground := Ground.phase }, { on := 14, ground := Ground.phase }], guard := none } : Oper)) rfl (fun KK hK => ?_) AllReadyH.nil
                      go_simp
                      refine hK.out _ _ ?_ (fun _ => ?_)
                      · exact ⟨by rw [World.cell?_setCell_other _ _ _ _ hn1]; exact u3, by rw [World.cell?_setCell_other _ _ _ _ hn2]; exact u0, by rw [World.cell?_setCell_other _ _ _ _ hn3]; exact u1⟩
                      clear hK KK
                      refine wpAnyH_done (by kernel_rfl) ?_ _
                      refine NoPanic.normal ?_
                      obtain ⟨L5, Q5⟩ := Q3.out
                      have Q6 : Hid (LkA w L n no K cap wg wB _ L5 S3 M r b) := Q5
                      clear Q3 Q5 u3 u0 u1 uw q2
                      go_wp2_with fail
                      go_roundg g0
                      case measure => omega
                      case rel => exact ⟨i + 1, kn, _, L5, M, kept, _, rfl, rfl, by simp, by omega, by omega, Q6.out.next HJ2.out HTK.out.1 HTK.out.2 rfl HRU.out⟩
          · have e1 : ((a : Int) == (no : Int)) = false := by rw [beq_eq_false_iff_ne]; omega
            have hse : ({ s' with rows := s'.rows.set r (some (a :: b :: t)) } : St) = s' := by
              have hlt := (List.getElem?_eq_some_iff.1 HRO.out.1)
              have : s'.rows.set r (some (a :: b :: t)) = s'.rows := by
                obtain ⟨q1, q2⟩ := hlt
                rw [← q2]
                exact List.set_getElem_self q1
              rw [this]
            have H3 : LkA w L n no K cap wg wB (W2.setCell ⟨wB, 1, none⟩ (.int .i32 (a : Int))) L1 { s' with rows := s'.rows.set r (some (a :: b :: t)) } M r a := by rw [hse]; exact H2.other a
            have hsw : swap0 (a :: b :: t) no = a :: b :: t := by unfold swap0; rw [if_neg (by simpa using hab)]
            have hm3 : ∀ x ∈ a :: b :: t, x < 2 * n := fun x hx => by
              rcases List.mem_cons.1 hx with q | q
              · rw [q]; exact hxa
              · rcases List.mem_cons.1 q with q | q
                · rw [q]; exact hxb
                · exact HLT.out x q
            clear H2 hse
            go_upto_region 14 with fail
            clear ca fa cbb fb cwo fwo
            generalize W2.setCell ⟨wB, 1, none⟩ (.int .i32 (a : Int)) = W3 at H3 ⊢
            have HQ : Hid (RowRun no r (M.drop (i + 1)) kept s' (a :: b :: t) R) := lookG_row (by rw [HT0.out]; omega) HRO.out.1 hsw HRUN.out
            have HJ3 : Hid (LkJ n no S0 { s' with rows := s'.rows.set r (some (a :: b :: t)) } kept ((r, o) :: M.drop (i + 1))) := HJ.out.row HRO.out.1 rfl hm3
            have HR3 : Hid ((s'.rows.set r (some (a :: b :: t)))[r]? = some (some (a :: b :: t)) ∧ L1.rr[r]? = some (.slice (some ⟨cb, 0, none⟩) (t.length + 2) D) ∧ L1.own cb = (11, r)) := ⟨List.getElem?_set_self (List.getElem?_eq_some_iff.1 HRO.out.1).1, HRO.out.2⟩
            have hX : a < 2 * n := hm3 _ (by simp)
            have HM3 : Hid (∀ x ∈ a :: b :: t, x < 2 * n) := hm3
            obtain ⟨s2, hs2⟩ : ∃ s2, ({ s' with rows := s'.rows.set r (some (a :: b :: t)) } : St) = s2 := ⟨_, rfl⟩
            have htr : s2.truth = s'.truth := by rw [← hs2]
            rw [hs2] at H3 HJ3
            have HS2 : Hid (({ s' with rows := s'.rows.set r (some (a :: b :: t)) } : St) = s2) := hs2
            have HTR : Hid (s2.truth = s'.truth) := htr
            have c4 := H3.c4
            have ct := H3.truth hX
            obtain ⟨t1, ht1⟩ : ∃ t1, s2.truth.getD a 0 = t1 := ⟨_, rfl⟩
            rw [ht1] at ct
            have HT1 : Hid (s'.truth.getD a 0 = t1) := by rw [← htr]; exact ht1
            have h3v := H3.at_.2.t3 a
            rw [show (wset s2 no M).truth = s2.truth from rfl, ht1] at h3v
            have hro3 : s2.rows[r]? = some (some (a :: b :: t)) := by rw [← hs2]; exact HR3.out.1
            have HRO3 : Hid (s2.rows[r]? = some (some (a :: b :: t))) := hro3
            obtain ⟨cx, _, _⟩ := H3.at_.rowcell (i := 0) (x := a) hro3 HR3.out.2.1 rfl
            have x3 : (a : Int) < 2 * (n : Int) := by omega
            have x4 : (a : Int) < ((2 * n : Nat) : Int) := by omega
            clear hs2 htr ht1 hro3 HRUN HJ hsw hm3 HT0 HRO e1
            go_quiet (fail)
            have H1 := H3.drewN nq
            clear H3 c4 ct cx
            generalize W3.drewN nq = W1 at H1 ⊢
            by_cases h1p : 0 < t1
            · have HRU : Hid (lookG no (M.drop (i + 1)) (kept ++ [(r, a)]) s2 = R) := by have := HQ.out.tr (by show 0 < s'.truth.getD a 0; rw [HT1.out]; exact h1p); rw [HS2.out] at this; exact this
              have HJ2 : Hid (LkJ n no S0 s2 (kept ++ [(r, a)]) (M.drop (i + 1))) := HJ3.out.keep hX
              clear HQ HJ3
              obtain ⟨hML2, cur2, hc2, hKc2, hs2⟩ := (H1.alloc (.cells #[.int .i32 (r : Int), .int .i32 (a : Int)] 88)).blk
              have HC2 : Hid ((W1.alloc (.cells #[.int .i32 (r : Int), .int .i32 (a : Int)] 88)).heap[wg]? = some (.cells cur2 88 (0, 0))) := hc2
              have H3 : Hid (LkA w L n no K cap wg wB ((W1.alloc (.cells #[.int .i32 (r : Int), .int .i32 (a : Int)] 88)).setRow wg (cur2.toList.take (kn * 2) ++ Value.int .i32 (r : Int) :: Value.int .i32 (a : Int) :: cur2.toList.drop (kn * 2 + 2)).toArray) L1 s2 (over M kn [(r, a)]) r a) := (H1.alloc (.cells #[.int .i32 (r : Int), .int .i32 (a : Int)] 88)).keep (k := kn) (by omega) hc2 r a
              have NB : Hid ((W1.alloc (.cells #[.int .i32 (r : Int), .int .i32 (a : Int)] 88)).heap[W1.heap.size]? = some (.cells #[.int .i32 (r : Int), .int .i32 (a : Int)] 88 (0, 0))) := heap_new rfl
              have cr := H1.wb.r
              have co := H1.wb.o
              have hfit : kn * 2 + 2 ≤ cur2.size := by omega
              have hrm : kn + 1 ≤ cap := by omega
              have HO : Hid _ := over_keep (r := r) (o := a) HTK.out.1 HTK.out.2 hkn (by omega)
              clear H1 hc2 hs2 hML2
              go_wp2_with (at_builtin; refine wpList_append_here _ rfl _ _ 86 rfl 88 i4 Tryd.underlying86 hj0 2 hj2 wg kn cap cur2 HC2.out rfl ⟨W1.heap.size, 0, none⟩ 1 1 [.int .i32 (r : Int), .int .i32 (a : Int)] rfl rfl (World.news_of_block NB.out) one2 hrm hfit ?_)
              go_roundg g0
              case measure => omega
              case rel => exact ⟨i + 1, kn + 1, _, L1, _, _, _, rfl, rfl, by simp, by omega, by omega, H3.out.next HJ2.out HO.out.1 HO.out.2.1 HO.out.2.2 HRU.out⟩
            · obtain ⟨fk, hfk⟩ : ∃ fk, freeAt s'.truth (a :: b :: t) = fk := ⟨_, rfl⟩
              have g2' : (2 : Int) ≤ (t.length : Int) + 2 := by omega
              cases fk with
              | none =>
                have HFN : Hid (∀ (j x : Nat), t[j]? = some x → s2.truth.getD x 0 < 0) := fun j x hx => by
                  have hj := (List.getElem?_eq_some_iff.1 hx).1
                  unfold freeAt at hfk
                  rw [List.find?_eq_none] at hfk
                  have := hfk j (by simpa using hj)
                  rw [HTR.out]
                  simp only [List.getD_cons_succ, decide_eq_true_eq] at this
                  have e : t.getD j 0 = x := by rw [List.getD_eq_getElem?_getD, hx]; rfl
                  rw [e] at this
                  omega
                have HFR : Hid (freeAt s'.truth (a :: b :: t) = none) := hfk
                clear hfk
                have HL1 : Hid (LkA w L n no K cap wg wB W1 L1 s2 M r a) := H1
                clear H1
                by_cases hD2 : D = 2
                all_goals
                  go_wp2_with fail
                  go_loopg [86] (t.length) (fun k s86 wx => ∃ j : Nat, s86 = .int .i64 (j : Int) ∧ j + k = t.length ∧ Hid (LkA w L n no K cap wg wB wx L1 s2 M r a))
                  case atStart => exact ⟨0, rfl, by omega, HL1⟩
                  case round =>
                    clear HL1
                    obtain ⟨j, rfl, hjk, HL1⟩ := hrel
                    by_cases hlt : j < t.length
                    · first
                      | (exfalso; omega)
                      | (obtain ⟨k, rfl⟩ : ∃ k, gk = k + 1 := ⟨gk - 1, by omega⟩
                         obtain ⟨x, hx⟩ : ∃ x, t[j]? = some x := ⟨_, List.getElem?_eq_getElem hlt⟩
                         have hx2 : x < 2 * n := HLT.out x (List.mem_of_getElem? hx)
                         have cx := (HL1.out.at_.rowcell (i := j + 2) (x := x) HRO3.out HR3.out.2.1 (by simpa using hx)).1
                         have cx' : wr.cell? ⟨cb, 2 + j, none⟩ = some (.int .i32 (x : Int)) := by rw [Nat.add_comm]; exact cx
                         have c4 := HL1.out.c4
                         have ct := HL1.out.truth hx2
                         have htx := HFN.out j x hx
                         generalize s2.truth.getD x 0 = tx at ct htx
                         have x5 : (x : Int) < 2 * (n : Int) := by omega
                         have x6 : (x : Int) < ((2 * n : Nat) : Int) := by omega
                         have j1 : (j : Int) < (t.length : Int) := by omega
                         clear hx
                         go_wp2_with fail
                         go_roundg k
                         case measure => omega
                         case rel => exact ⟨j + 1, by simp, by omega, HL1⟩)
                    · have j1 : ¬ (j : Int) < (t.length : Int) := by omega
                      have H1 := HL1.out
                      clear HL1
                      generalize wr = W1 at H1 ⊢
                      obtain ⟨hML2, cur2, hc2, hKc2, hs2⟩ := (H1.alloc (.cells #[.int .i32 (r : Int), .int .i32 (a : Int)] 88)).blk
                      have HC2 : Hid ((W1.alloc (.cells #[.int .i32 (r : Int), .int .i32 (a : Int)] 88)).heap[wg]? = some (.cells cur2 88 (0, 0))) := hc2
                      have H3 : Hid (LkA w L n no K cap wg wB ((W1.alloc (.cells #[.int .i32 (r : Int), .int .i32 (a : Int)] 88)).setRow wg (cur2.toList.take (kn * 2) ++ Value.int .i32 (r : Int) :: Value.int .i32 (a : Int) :: cur2.toList.drop (kn * 2 + 2)).toArray) L1 s2 (over M kn [(r, a)]) r a) := (H1.alloc (.cells #[.int .i32 (r : Int), .int .i32 (a : Int)] 88)).keep (k := kn) (by omega) hc2 r a
                      have NB : Hid ((W1.alloc (.cells #[.int .i32 (r : Int), .int .i32 (a : Int)] 88)).heap[W1.heap.size]? = some (.cells #[.int .i32 (r : Int), .int .i32 (a : Int)] 88 (0, 0))) := heap_new rfl
                      have cr := H1.wb.r
                      have co := H1.wb.o
                      have hfit : kn * 2 + 2 ≤ cur2.size := by omega
                      have hrm : kn + 1 ≤ cap := by omega
                      have HO : Hid _ := over_keep (r := r) (o := a) HTK.out.1 HTK.out.2 hkn (by omega)
                      clear H1 hc2 hs2 hML2
                      go_upto_region 24 with (at_builtin; refine wpList_append_here _ rfl _ _ 86 rfl 88 i4 Tryd.underlying86 hj0 2 hj2 wg kn cap cur2 HC2.out rfl ⟨W1.heap.size, 0, none⟩ 1 1 [.int .i32 (r : Int), .int .i32 (a : Int)] rfl rfl (World.news_of_block NB.out) one2 hrm hfit ?_)
                      clear cr co HC2 NB hfit hrm
                      generalize (W1.alloc (.cells #[.int .i32 (r : Int), .int .i32 (a : Int)] 88)).setRow wg (cur2.toList.take (kn * 2) ++ Value.int .i32 (r : Int) :: Value.int .i32 (a : Int) :: cur2.toList.drop (kn * 2 + 2)).toArray = W4 at H3 ⊢
                      have HB := believe_any W4.drew L1 n _ a (r : Int) H3.out.drew.at_ hX HJ3.out.cuts (fun q => HJ3.out.tr.room hX q)
                      have d0 : W4.drew.cell? ⟨cb, 0, none⟩ = some (.int .i32 (a : Int)) := (H3.out.drew.at_.rowcell (i := 0) (x := a) HRO3.out HR3.out.2.1 rfl).1
                      have d1 : W4.drew.cell? ⟨wB, 0, none⟩ = some (.int .i32 (r : Int)) := H3.out.drew.wb.r
                      have g00 : (0 : Int) < (t.length : Int) + 1 + 1 := by omega
                      have htv : (wset s2 no (over M kn [(r, a)])).truth.getD a 0 = t1 := by show s2.truth.getD a 0 = t1; rw [HTR.out]; exact HT1.out
                      have hsb := H3.out.sb
                      rw [hsb] at HB
                      by_cases hneg : t1 < 0
                      · have HBF : Hid (Calls Tryd.prog 17 #[.pointer (some ⟨L.sb, 0, none⟩), .int .i32 (a : Int), .int .i32 (r : Int)] W4.drew fun e w' => e = .returned (.bool false) ∧ w' = W4.drew) := HB.mono fun e w' q => by
                          rcases q with ⟨_, q1, q2⟩ | ⟨q, _⟩
                          · rw [htv, decide_eq_false (by omega)] at q1; exact ⟨q1, q2⟩
                          · rw [htv] at q; omega
                        clear HB htv hsb
                        refine wp_region_noPanic ?_
                        refine wp_region_held_drew (S := fun w' => w'.cell? ⟨cb, 0, none⟩ = some (.int .i32 (a : Int)) ∧ w'.cell? ⟨wB, 0, none⟩ = some (.int .i32 (r : Int))) (by kernel_rfl) ⟨d0, d1⟩ (fun hHeld => ?_)
                        refine wpAnyH_take (i := 0) (oi := ({ dst := some 128, op := Op.move (Operand.tmp 0), type := 41, pos := _, after := #[], guard := none } : Oper)) (v := ?_) rfl (by kernel_rfl) (by kernel_rfl) (by kernel_rfl) (fun _ _ _ h => h) (Or.inl ⟨by rfl, ?_⟩) hHeld ?_
                        rotate_left
                        · intro w0 hS0; (try dsimp only at hS0); go_simp; try with_reducible rfl
                        try simp only [Act.put, List.setIfInBounds_toArray, List.set_cons_zero, List.set_cons_succ]
                        refine wpAnyH_take (i := 1) (oi := ({ dst := some 129, op := Op.move (Operand.tmp 10), type := 43, pos := _, after := #[], guard := none } : Oper)) (v := ?_) rfl (by kernel_rfl) (by kernel_rfl) (by kernel_rfl) (fun _ _ _ h => h) (Or.inl ⟨by rfl, ?_⟩) hHeld ?_
                        rotate_left
                        · intro w0 hS0; (try dsimp only at hS0); go_simp; try with_reducible rfl
                        try simp only [Act.put, List.setIfInBounds_toArray, List.set_cons_zero, List.set_cons_succ]
                        refine wpAnyH_take (i := 2) (oi := ({ dst := some 130, op := Op.indexAddr 43 (Operand.tmp 129) (Operand.const (Value.int IntKind.i64 0)), type := 0, pos := _, after := #[{ on := 1, ground := Ground.data }], guard := none } : Oper)) (v := ?_) rfl (by kernel_rfl) (by kernel_rfl) (by kernel_rfl) (fun _ _ _ h => h) (Or.inl ⟨by rfl, ?_⟩) hHeld ?_
                        rotate_left
                        · intro w0 hS0; (try dsimp only at hS0); go_simp; try with_reducible rfl
                        try simp only [Act.put, List.setIfInBounds_toArray, List.set_cons_zero, List.set_cons_succ]
                        refine wpAnyH_take (i := 3) (oi := ({ dst := some 131, op := Op.load 45 (Operand.tmp 130), type := 45, pos := _, after := #[{ on := 2, ground := Ground.data }], guard := none } : Oper)) (v := ?_) rfl (by kernel_rfl) (by kernel_rfl) (by kernel_rfl) (fun _ _ _ h => h) (Or.inl ⟨by rfl, ?_⟩) hHeld ?_
                        rotate_left
                        · intro w0 hS0; (try dsimp only at hS0); go_simp; try with_reducible rfl
                        try simp only [Act.put, List.setIfInBounds_toArray, List.set_cons_zero, List.set_cons_succ]
                        refine wpAnyH_take (i := 4) (oi := ({ dst := some 132, op := Op.fieldAddr 88 (Operand.tmp 9) 0, type := 0, pos := _, after := #[], guard := none } : Oper)) (v := ?_) rfl (by kernel_rfl) (by kernel_rfl) (by kernel_rfl) (fun _ _ _ h => h) (Or.inl ⟨by rfl, ?_⟩) hHeld ?_
                        rotate_left
                        · intro w0 hS0; (try dsimp only at hS0); go_simp; try with_reducible rfl
                        try simp only [Act.put, List.setIfInBounds_toArray, List.set_cons_zero, List.set_cons_succ]
                        refine wpAnyH_take (i := 5) (oi := ({ dst := some 133, op := Op.load 21 (Operand.tmp 132), type := 21, pos := _, after := #[{ on := 4, ground := Ground.data }], guard := none } : Oper)) (v := ?_) rfl (by kernel_rfl) (by kernel_rfl) (by kernel_rfl) (fun _ _ _ h => h) (Or.inl ⟨by rfl, ?_⟩) hHeld ?_
                        rotate_left
                        · intro w0 hS0; (try dsimp only at hS0); go_simp; try with_reducible rfl
                        try simp only [Act.put, List.setIfInBounds_toArray, List.set_cons_zero, List.set_cons_succ]
                        refine wpAnyH_ready (rs := [6]) (by kernel_rfl) (by simp) ?_
                        refine AllReadyH.cons (o := ({ dst := some 134, op := Op.call { callee := Callee.value (Operand.func 17), args := #[Operand.tmp 128, Operand.tmp 131, Operand.tmp 133], argTypes := #[41, 45, 21] }, type := 4, pos := _, after := #[{ on := 0, ground := Ground.data }, { on := 3, ground := Ground.data }, { on := 5, ground := Ground.data }], guard := none } : Oper)) rfl (fun KK hK => ?_) AllReadyH.nil
                        go_simp
                        refine HBF.out.mono ?_
                        rintro e w9 ⟨rfl, hw⟩
                        obtain rfl := hw.symm
                        refine hK.out _ _ ?_ (fun hHeld2 => ?_)
                        · exact ⟨d0, d1⟩
                        clear hK KK
                        try simp only [Act.put, List.setIfInBounds_toArray, List.set_cons_zero, List.set_cons_succ]
                        refine wpAnyH_take (i := 7) (oi := ({ dst := some 135, op := Op.unOp UnOp.not 4 (Operand.tmp 134), type := 4, pos := _, after := #[{ on := 6, ground := Ground.data }], guard := none } : Oper)) (v := ?_) rfl (by kernel_rfl) (by kernel_rfl) (by kernel_rfl) (fun _ _ _ h => h) (Or.inl ⟨by rfl, ?_⟩) hHeld2 ?_
                        rotate_left
                        · intro w0 hS0; (try dsimp only at hS0); go_simp; try with_reducible rfl
                        try simp only [Act.put, List.setIfInBounds_toArray, List.set_cons_zero, List.set_cons_succ]
                        refine wpAnyH_done (by kernel_rfl) ?_ _
                        refine NoPanic.normal ?_
                        obtain ⟨RS, hRS⟩ : ∃ RS, M.drop (i + 1) = RS := ⟨_, rfl⟩
                        obtain ⟨cur3, hc3, hs3, hk3, hl3, hf3', hn3⟩ := H3.out.drew.src (i := i + 1) (RS := RS) (by rw [HO.out.2.2]; exact hRS) (by omega)
                        have HC3 : Hid (W4.drew.heap[wg]? = some (.cells cur3 88 (0, 0))) := hc3
                        have HS3 : Hid ((flatW RS).length = (K - (i + 1)) * 2 ∧ ∀ j u, (flatW RS)[j]? = some u → W4.drew.cell? ((⟨wg, (i + 1) * 2, none⟩ : Addr).add j) = some u) := ⟨hf3', hn3⟩
                        have hr3 : kn + 1 + (K - (i + 1)) ≤ cap := by omega
                        have hf3 : (kn + 1) * 2 + (flatW RS).length ≤ cur3.size := by omega
                        have hRn : (s2, kept ++ (r, a) :: RS, (r : Int)) = R := by
                          have := HQ.out.no_ (by show ¬ 0 < s'.truth.getD a 0; rw [HT1.out]; omega) HFR.out (by show s'.truth.getD a 0 < 0; rw [HT1.out]; exact hneg)
                          rw [HS2.out, hRS] at this
                          exact this
                        have HFI : Hid (∀ W7 : World, W7 = W4.drew.setRow wg (cur3.toList.take ((kn + 1) * 2) ++ flatW RS ++ cur3.toList.drop ((kn + 1) * 2 + (flatW RS).length)).toArray → W7.cell? ⟨L.sb, 3, none⟩ = some (.slice (some ⟨L1.wb, 0, none⟩) (2 * n) (2 * n)) ∧ W7.cell? ⟨L1.wb, no, none⟩ = some (.slice (some ⟨wg, 0, none⟩) K cap) ∧ W7.frozen? ⟨L1.wb, no, none⟩ = false ∧ StPost w L n (wset R.1 no R.2.1) (.int .i32 R.2.2) (.returned (.int .i32 (r : Int))) (W7.setCell ⟨L1.wb, no, none⟩ (.slice (some ⟨wg, 0, none⟩) (kn + 1 + (K - (i + 1))) cap))) := by
                          intro W7 hW7
                          have hA7 := H3.out.drew.ovr (k := kn + 1) (news := RS) (by omega) hc3
                          rw [← hW7] at hA7
                          obtain ⟨k1, k2, k3, L2, k4, k5⟩ := fin_of (k := kn + 1 + (K - (i + 1))) (kept := kept ++ (r, a) :: RS) hA7.at_ hA7.fr hno hA7.wv (by omega) (by
                            have := over_take (news := RS) HO.out.1 HO.out.2.1
                            rw [← hl3]
                            simpa using this)
                          exact ⟨k1, k2, k3, by rw [← hRn], L2, by rw [← hRn]; exact k4, k5⟩
                        clear hc3 hs3 hl3 hn3 hf3' hRn HQ HJ3
                        by_cases hci : cap = i + 1
                        · have hR0 : flatW RS = [] := by
                            apply List.eq_nil_of_length_eq_zero
                            have := HS3.out.1
                            omega
                          have HN0 : Hid (∀ (ad : Addr) (j : Nat) (u : Value), (flatW RS)[j]? = some u → W4.drew.cell? (ad.add j) = some u) := fun ad j u hu => by rw [hR0] at hu; simp at hu
                          clear hR0
                          go_wp2_with (at_builtin; refine wpList_append_here2 _ rfl _ _ 86 rfl 88 i4 Tryd.underlying86 hj0 2 hj2 wg (kn + 1) cap cur3 HC3.out rfl _ (K - (i + 1)) _ (flatW RS) rfl HS3.out.1 (HN0.out _) (flatW_one RS) hr3 hf3 ?_; intro W7 hW7; obtain ⟨c3, cw, fw, q7⟩ := HFI.out W7 hW7; have Q7 : Hid _ := q7; clear hW7 q7)
                          all_goals first | go_ret | (rw [Exit.noGoto_ret]; go_ret)
                          all_goals (have z := Q7.out; rw [hci] at z; exact z)
                        · go_wp2_with (at_builtin; refine wpList_append_here2 _ rfl _ _ 86 rfl 88 i4 Tryd.underlying86 hj0 2 hj2 wg (kn + 1) cap cur3 HC3.out rfl _ (K - (i + 1)) _ (flatW RS) rfl HS3.out.1 HS3.out.2 (flatW_one RS) hr3 hf3 ?_; intro W7 hW7; obtain ⟨c3, cw, fw, q7⟩ := HFI.out W7 hW7; have Q7 : Hid _ := q7; clear hW7 q7)
                          all_goals first | go_ret | (rw [Exit.noGoto_ret]; go_ret)
                          all_goals exact Q7.out
                      · have HBE : Hid (Calls Tryd.prog 17 #[.pointer (some ⟨L.sb, 0, none⟩), .int .i32 (a : Int), .int .i32 (r : Int)] W4.drew fun e w' => e = .returned (.bool true) ∧ ∃ tv own, LkA w L n no K cap wg wB w' { L1 with tv := tv, own := own } (believeP s2 a (r : Int)) (over M kn [(r, a)]) r a) := HB.mono fun e w' q => by
                          rcases q with ⟨q, _⟩ | ⟨_, q1, tv1, own1, q2, q3⟩
                          · rw [htv] at q; omega
                          · exact ⟨q1, tv1, own1, H3.out.drew.believe q2 q3⟩
                        have HRU : Hid (lookG no (M.drop (i + 1)) (kept ++ [(r, a)]) (believeP s2 a (r : Int)) = R) := by
                          have := HQ.out.bl (by show ¬ 0 < s'.truth.getD a 0; rw [HT1.out]; omega) HFR.out (by show ¬ s'.truth.getD a 0 < 0; rw [HT1.out]; exact hneg)
                          rw [HS2.out] at this
                          exact this
                        have HJ2 : Hid (LkJ n no S0 (believeP s2 a (r : Int)) (kept ++ [(r, a)]) (M.drop (i + 1))) := (HJ3.out.keep hX).believe hX (by rw [HTR.out, HT1.out]; omega) _
                        clear HB htv hsb HQ HJ3
                        refine wp_region_noPanic ?_
                        refine wp_region_held_drew (S := fun w' => w'.cell? ⟨cb, 0, none⟩ = some (.int .i32 (a : Int)) ∧ w'.cell? ⟨wB, 0, none⟩ = some (.int .i32 (r : Int))) (by kernel_rfl) ⟨d0, d1⟩ (fun hHeld => ?_)
                        refine wpAnyH_take (i := 0) (oi := ({ dst := some 128, op := Op.move (Operand.tmp 0), type := 41, pos := _, after := #[], guard := none } : Oper)) (v := ?_) rfl (by kernel_rfl) (by kernel_rfl) (by kernel_rfl) (fun _ _ _ h => h) (Or.inl ⟨by rfl, ?_⟩) hHeld ?_
                        rotate_left
                        · intro w0 hS0; (try dsimp only at hS0); go_simp; try with_reducible rfl
                        try simp only [Act.put, List.setIfInBounds_toArray, List.set_cons_zero, List.set_cons_succ]
                        refine wpAnyH_take (i := 1) (oi := ({ dst := some 129, op := Op.move (Operand.tmp 10), type := 43, pos := _, after := #[], guard := none } : Oper)) (v := ?_) rfl (by kernel_rfl) (by kernel_rfl) (by kernel_rfl) (fun _ _ _ h => h) (Or.inl ⟨by rfl, ?_⟩) hHeld ?_
                        rotate_left
                        · intro w0 hS0; (try dsimp only at hS0); go_simp; try with_reducible rfl
                        try simp only [Act.put, List.setIfInBounds_toArray, List.set_cons_zero, List.set_cons_succ]
                        refine wpAnyH_take (i := 2) (oi := ({ dst := some 130, op := Op.indexAddr 43 (Operand.tmp 129) (Operand.const (Value.int IntKind.i64 0)), type := 0, pos := _, after := #[{ on := 1, ground := Ground.data }], guard := none } : Oper)) (v := ?_) rfl (by kernel_rfl) (by kernel_rfl) (by kernel_rfl) (fun _ _ _ h => h) (Or.inl ⟨by rfl, ?_⟩) hHeld ?_
                        rotate_left
                        · intro w0 hS0; (try dsimp only at hS0); go_simp; try with_reducible rfl
                        try simp only [Act.put, List.setIfInBounds_toArray, List.set_cons_zero, List.set_cons_succ]
                        refine wpAnyH_take (i := 3) (oi := ({ dst := some 131, op := Op.load 45 (Operand.tmp 130), type := 45, pos := _, after := #[{ on := 2, ground := Ground.data }], guard := none } : Oper)) (v := ?_) rfl (by kernel_rfl) (by kernel_rfl) (by kernel_rfl) (fun _ _ _ h => h) (Or.inl ⟨by rfl, ?_⟩) hHeld ?_
                        rotate_left
                        · intro w0 hS0; (try dsimp only at hS0); go_simp; try with_reducible rfl
                        try simp only [Act.put, List.setIfInBounds_toArray, List.set_cons_zero, List.set_cons_succ]
                        refine wpAnyH_take (i := 4) (oi := ({ dst := some 132, op := Op.fieldAddr 88 (Operand.tmp 9) 0, type := 0, pos := _, after := #[], guard := none } : Oper)) (v := ?_) rfl (by kernel_rfl) (by kernel_rfl) (by kernel_rfl) (fun _ _ _ h => h) (Or.inl ⟨by rfl, ?_⟩) hHeld ?_
                        rotate_left
                        · intro w0 hS0; (try dsimp only at hS0); go_simp; try with_reducible rfl
                        try simp only [Act.put, List.setIfInBounds_toArray, List.set_cons_zero, List.set_cons_succ]
                        refine wpAnyH_take (i := 5) (oi := ({ dst := some 133, op := Op.load 21 (Operand.tmp 132), type := 21, pos := _, after := #[{ on := 4, ground := Ground.data }], guard := none } : Oper)) (v := ?_) rfl (by kernel_rfl) (by kernel_rfl) (by kernel_rfl) (fun _ _ _ h => h) (Or.inl ⟨by rfl, ?_⟩) hHeld ?_
                        rotate_left
                        · intro w0 hS0; (try dsimp only at hS0); go_simp; try with_reducible rfl
                        try simp only [Act.put, List.setIfInBounds_toArray, List.set_cons_zero, List.set_cons_succ]
                        refine wpAnyH_ready (rs := [6]) (by kernel_rfl) (by simp) ?_
                        refine AllReadyH.cons (o := ({ dst := some 134, op := Op.call { callee := Callee.value (Operand.func 17), args := #[Operand.tmp 128, Operand.tmp 131, Operand.tmp 133], argTypes := #[41, 45, 21] }, type := 4, pos := _, after := #[{ on := 0, ground := Ground.data }, { on := 3, ground := Ground.data }, { on := 5, ground := Ground.data }], guard := none } : Oper)) rfl (fun KK hK => ?_) AllReadyH.nil
                        go_simp
                        refine HBE.out.mono ?_
                        rintro e w9 ⟨rfl, tv9, own9, q9⟩
                        have d0' : w9.cell? ⟨cb, 0, none⟩ = some (.int .i32 (a : Int)) := (q9.at_.rowcell (i := 0) (x := a) (show (believeP s2 a (r : Int)).rows[r]? = _ from HRO3.out) HR3.out.2.1 rfl).1
                        have d1' : w9.cell? ⟨wB, 0, none⟩ = some (.int .i32 (r : Int)) := q9.wb.r
                        have Q9 : Hid (LkA w L n no K cap wg wB w9 { L1 with tv := tv9, own := own9 } (believeP s2 a (r : Int)) (over M kn [(r, a)]) r a) := q9
                        clear q9
                        refine hK.out _ _ ?_ (fun hHeld2 => ?_)
                        · exact ⟨d0', d1'⟩
                        clear hK KK
                        try simp only [Act.put, List.setIfInBounds_toArray, List.set_cons_zero, List.set_cons_succ]
                        refine wpAnyH_take (i := 7) (oi := ({ dst := some 135, op := Op.unOp UnOp.not 4 (Operand.tmp 134), type := 4, pos := _, after := #[{ on := 6, ground := Ground.data }], guard := none } : Oper)) (v := ?_) rfl (by kernel_rfl) (by kernel_rfl) (by kernel_rfl) (fun _ _ _ h => h) (Or.inl ⟨by rfl, ?_⟩) hHeld2 ?_
                        rotate_left
                        · intro w0 hS0; (try dsimp only at hS0); go_simp; try with_reducible rfl
                        try simp only [Act.put, List.setIfInBounds_toArray, List.set_cons_zero, List.set_cons_succ]
                        refine wpAnyH_done (by kernel_rfl) ?_ _
                        refine NoPanic.normal ?_
                        clear d0' d1' hHeld2
                        go_wp2_with fail
                        go_roundg g0
                        case measure => omega
                        case rel => exact ⟨i + 1, kn + 1, _, _, _, _, _, rfl, rfl, by simp, by omega, by omega, Q9.out.next HJ2.out HO.out.1 HO.out.2.1 HO.out.2.2 HRU.out⟩
              | some k =>
                unfold freeAt at hfk
                rw [List.find?_range_eq_some] at hfk
                obtain ⟨hf1, hf2, hf3⟩ := hfk
                have hk1 : k < t.length := by simpa using hf2
                obtain ⟨l, hl⟩ : ∃ l, t[k]? = some l := ⟨_, List.getElem?_eq_getElem hk1⟩
                have hlg : (a :: b :: t).getD (k + 2) 0 = l := by rw [List.getD_eq_getElem?_getD]; simp [hl]
                have htl : 0 ≤ s2.truth.getD l 0 := by
                  rw [hlg] at hf1
                  rw [HTR.out]
                  simpa using hf1
                have HFN : Hid (∀ (j x : Nat), j < k → t[j]? = some x → s2.truth.getD x 0 < 0) := fun j x hj hx => by
                  have e : (a :: b :: t).getD (j + 2) 0 = x := by rw [List.getD_eq_getElem?_getD]; simp [hx]
                  have := hf3 j hj
                  rw [e] at this
                  rw [HTR.out]
                  simpa using this
                have hl2 : l < 2 * n := HLT.out l (List.mem_of_getElem? hl)
                have hne : l ≠ no := fun e => by have := HJ3.out.no_; rw [← e] at this; omega
                have HLK : Hid (t[k]? = some l) := hl
                have HFR : Hid (freeAt s'.truth (a :: b :: t) = some k) := by
                  show freeAt s'.truth (a :: b :: t) = some k
                  unfold freeAt
                  rw [List.find?_range_eq_some]
                  exact ⟨hf1, hf2, hf3⟩
                have HLG : Hid ((a :: b :: t).getD (k + 2) 0 = l) := hlg
                clear hf1 hf2 hf3 hl hlg
                have HL1 : Hid (LkA w L n no K cap wg wB W1 L1 s2 M r a) := H1
                clear H1
                have hD2 : ¬ D = 2 := by omega
                go_wp2_with fail
                go_loopg [86] (k) (fun q s86 wx => ∃ j : Nat, s86 = .int .i64 (j : Int) ∧ j + q = k ∧ Hid (LkA w L n no K cap wg wB wx L1 s2 M r a))
                case atStart => exact ⟨0, rfl, by omega, HL1⟩
                case round =>
                  clear HL1
                  obtain ⟨j, rfl, hjk, HL1⟩ := hrel
                  have j1 : (j : Int) < (t.length : Int) := by omega
                  by_cases hlt : j < k
                  · obtain ⟨q, rfl⟩ : ∃ q, gk = q + 1 := ⟨gk - 1, by omega⟩
                    obtain ⟨x, hx⟩ : ∃ x, t[j]? = some x := ⟨_, List.getElem?_eq_getElem (by omega)⟩
                    have hx2 : x < 2 * n := HLT.out x (List.mem_of_getElem? hx)
                    have cx := (HL1.out.at_.rowcell (i := j + 2) (x := x) HRO3.out HR3.out.2.1 (by simpa using hx)).1
                    have cx' : wr.cell? ⟨cb, 2 + j, none⟩ = some (.int .i32 (x : Int)) := by rw [Nat.add_comm]; exact cx
                    have c4 := HL1.out.c4
                    have ct := HL1.out.truth hx2
                    have htx := HFN.out j x hlt hx
                    generalize s2.truth.getD x 0 = tx at ct htx
                    have x5 : (x : Int) < 2 * (n : Int) := by omega
                    have x6 : (x : Int) < ((2 * n : Nat) : Int) := by omega
                    clear hx
                    go_wp2_with fail
                    go_roundg q
                    case measure => omega
                    case rel => exact ⟨j + 1, by simp, by omega, HL1⟩
                  · obtain rfl : j = k := by omega
                    have H1 := HL1.out
                    clear HL1
                    obtain ⟨cx, fx, _⟩ := H1.at_.rowcell (i := j + 2) (x := l) HRO3.out HR3.out.2.1 (by simpa using HLK.out)
                    have cx' : wr.cell? ⟨cb, 2 + j, none⟩ = some (.int .i32 (l : Int)) := by rw [Nat.add_comm]; exact cx
                    obtain ⟨cy, fy, _⟩ := H1.at_.rowcell (i := 1) (x := b) HRO3.out HR3.out.2.1 rfl
                    have c4 := H1.c4
                    have ct := H1.truth hl2
                    obtain ⟨tl, htl'⟩ : ∃ tl, s2.truth.getD l 0 = tl := ⟨_, rfl⟩
                    rw [htl'] at ct htl
                    have x5 : (l : Int) < 2 * (n : Int) := by omega
                    have x6 : (l : Int) < ((2 * n : Nat) : Int) := by omega
                    have y1 : (1 : Int) < (t.length : Int) + 1 + 1 := by omega
                    have y2 : (j : Int) + 2 < (t.length : Int) + 1 + 1 := by omega
                    have H5 := H1.row2 HRO3.out HR3.out.2.1 HR3.out.2.2 1 l (j + 2) no
                    have hJ5 : LkJ n no S0 { s2 with rows := s2.rows.set r (some (((a :: b :: t).set 1 l).set (j + 2) no)) } kept ((r, o) :: M.drop (i + 1)) := HJ3.out.row HRO3.out (by simp) (fun x hx => by
                      rcases List.mem_or_eq_of_mem_set hx with hx | hx
                      · rcases List.mem_or_eq_of_mem_set hx with hx | hx
                        · exact HM3.out x hx
                        · rw [hx]; exact hl2
                      · rw [hx]; exact hno)
                    have hRU5 := HQ.out.fr (by show ¬ 0 < s'.truth.getD a 0; rw [HT1.out]; omega) j HFR.out
                    rw [HLG.out] at hRU5
                    have e5 : ({ s' with rows := s'.rows.set r (some (((a :: b :: t).set 1 l).set (j + 2) no)) } : St) = { s2 with rows := s2.rows.set r (some (((a :: b :: t).set 1 l).set (j + 2) no)) } := by rw [← HS2.out]; simp
                    rw [e5] at hRU5
                    obtain ⟨s5, hs5⟩ : ∃ s5, ({ s2 with rows := s2.rows.set r (some (((a :: b :: t).set 1 l).set (j + 2) no)) } : St) = s5 := ⟨_, rfl⟩
                    rw [hs5] at H5 hJ5 hRU5
                    obtain ⟨S3, hS3⟩ : ∃ S3, pushW s5 l r a = S3 := ⟨_, rfl⟩
                    have HJ2 : Hid (LkJ n no S0 S3 kept (M.drop (i + 1))) := by rw [← hS3]; exact hJ5.push hl2 hne hX
                    have HRU : Hid (lookG no (M.drop (i + 1)) kept S3 = R) := by rw [← hS3]; exact hRU5
                    have hfew := hJ5.few hl2 hne
                    clear H1 hJ5 hRU5 e5 hs5 htl' HQ HJ3 HFR
                    go_upto_region 21 with fail
                    clear cx fx cx' cy fy c4 ct
                    generalize (wr.setCell ⟨cb, 1, none⟩ (.int .i32 (l : Int))).setCell ⟨cb, j + 2, none⟩ (.int .i32 (no : Int)) = W5 at H5 ⊢
                    obtain ⟨v5, ev5, hw5⟩ := H5.at_.1.wl l trivial hl2
                    have e6 : (wset s5 no M).watches.getD l [] = s5.watches.getD l [] := by
                      have : s5.watches.length = 2 * n := by have := H5.at_.2.wt; simpa [wset] using this
                      rw [wset_getD (by rw [this]; exact hno), if_neg hne]
                    rw [e6] at hw5
                    obtain ⟨wa, wc, hf5⟩ := hw5.form
                    subst hf5
                    obtain ⟨FW, hFW⟩ : ∃ FW, s5.watches.getD l [] = FW := ⟨_, rfl⟩
                    obtain ⟨Kl, hKl⟩ : ∃ Kl, FW.length = Kl := ⟨_, rfl⟩
                    rw [hFW, hKl] at hw5 ev5
                    rw [hFW, hKl] at hfew
                    have c3 : W5.cell? ⟨L.sb, 3, none⟩ = some (.slice (some ⟨L1.wb, 0, none⟩) (2 * n) (2 * n)) := by rw [← H5.sb]; exact H5.at_.cell 3
                    have cw : W5.cell? ⟨L1.wb, l, none⟩ = some (.slice wa Kl wc) := by rw [block_cell (H5.at_.1.wt trivial).1]; simpa using ev5
                    have d3 : W5.drew.cell? ⟨L.sb, 3, none⟩ = some (.slice (some ⟨L1.wb, 0, none⟩) (2 * n) (2 * n)) := c3
                    have d0 : W5.drew.cell? ⟨wB, 0, none⟩ = some (.int .i32 (r : Int)) := H5.wb.r
                    have d1 : W5.drew.cell? ⟨wB, 1, none⟩ = some (.int .i32 (a : Int)) := H5.wb.o
                    have dw : W5.drew.cell? ⟨L1.wb, l, none⟩ = some (.slice wa Kl wc) := cw
                    have HA5 := H5.alloc (.cells #[.int .i32 (r : Int), .int .i32 (a : Int)] 88)
                    have a3 : (W5.alloc (.cells #[.int .i32 (r : Int), .int .i32 (a : Int)] 88)).cell? ⟨L.sb, 3, none⟩ = some (.slice (some ⟨L1.wb, 0, none⟩) (2 * n) (2 * n)) := by rw [← H5.sb]; exact HA5.at_.cell 3
                    have a0 := HA5.wb.r
                    have a1 := HA5.wb.o
                    have aw : (W5.alloc (.cells #[.int .i32 (r : Int), .int .i32 (a : Int)] 88)).cell? ⟨L1.wb, l, none⟩ = some (.slice wa Kl wc) := by rw [block_cell (HA5.at_.1.wt trivial).1]; simpa using ev5
                    have OW : Hid ((W5.drew.alloc (.cells #[.int .i32 (r : Int), .int .i32 (a : Int)] 88)).ownsRow 0 88 2 (.slice wa Kl wc) Kl (flatW FW)) := (hw5.fr fun b hb _ => heap_alloc_old W5.drew _ hb).1
                    have NB : Hid ((W5.drew.alloc (.cells #[.int .i32 (r : Int), .int .i32 (a : Int)] 88)).heap[W5.heap.size]? = some (.cells #[.int .i32 (r : Int), .int .i32 (a : Int)] 88 (0, 0))) := heap_new (by simp)
                    have hmx : Kl + 1 ≤ maxLen := by unfold maxLen; omega
                    have hby : (Kl + 1) * 8 ≤ 140737488355328 := by omega
                    have HPU : Hid (∀ (g cp : Nat) (w9 : World), w9.ownsRow 0 88 2 (.slice (some ⟨g, 0, none⟩) (Kl + 1) cp) (Kl + 1) (flatW FW ++ [.int .i32 (r : Int), .int .i32 (a : Int)]) → (W5.drew.alloc (.cells #[.int .i32 (r : Int), .int .i32 (a : Int)] 88)).grownBy w9 (Value.slice wa Kl wc).ownBlock → ((Value.slice wa Kl wc).ownBlock = some g ∨ g = W5.heap.size + 1) →
                        w9.cell? ⟨L.sb, 3, none⟩ = some (.slice (some ⟨L1.wb, 0, none⟩) (2 * n) (2 * n)) ∧ WB w9 wB r a ∧ w9.cell? ⟨L1.wb, l, none⟩ = some (.slice wa Kl wc) ∧ w9.frozen? ⟨L1.wb, l, none⟩ = false ∧ ∃ L', LkA w L n no K cap wg wB (w9.setCell ⟨L1.wb, l, none⟩ (.slice (some ⟨g, 0, none⟩) (Kl + 1) cp)) L' S3 M r a) := by
                      intro g cp w9 ho9 hg9 hat9
                      have := H5.push hl2 hne ev5 (T := .cells #[.int .i32 (r : Int), .int .i32 (a : Int)] 88) (g := g) (cp := cp) (w9 := w9) (by rw [hFW, hKl]; exact ho9) hg9 hat9
                      rw [hFW, hKl, hS3] at this
                      exact this
                    have hwt := (H5.at_.1.wt trivial).2
                    have hn1 : (⟨L1.wb, l, none⟩ : Addr) ≠ ⟨L.sb, 3, none⟩ := fun e => by have e1 : L1.wb = L.sb := congrArg Addr.block e; have := (H5.at_.1.st trivial).2; rw [H5.sb, ← e1, hwt] at this; cases this
                    have hn2 : (⟨L1.wb, l, none⟩ : Addr) ≠ ⟨wB, 0, none⟩ := fun e => by have e1 : L1.wb = wB := congrArg Addr.block e; have := H5.ow; rw [← e1, hwt] at this; cases this
                    have hn3 : (⟨L1.wb, l, none⟩ : Addr) ≠ ⟨wB, 1, none⟩ := fun e => by have e1 : L1.wb = wB := congrArg Addr.block e; have := H5.ow; rw [← e1, hwt] at this; cases this
                    clear H5 HA5 ev5 hw5 hFW hKl e6 hwt hS3 hfew
                    refine wp_region_noPanic ?_
                    refine wp_region_held_drew (S := fun w' => w'.cell? ⟨L.sb, 3, none⟩ = some (.slice (some ⟨L1.wb, 0, none⟩) (2 * n) (2 * n)) ∧ w'.cell? ⟨wB, 0, none⟩ = some (.int .i32 (r : Int)) ∧ w'.cell? ⟨wB, 1, none⟩ = some (.int .i32 (a : Int))) (by kernel_rfl) ⟨d3, d0, d1⟩ (fun hHeld => ?_)
                    refine wpAnyH_take (i := 0) (oi := ({ dst := some 107, op := Op.move (Operand.tmp 0), type := 41, pos := _, after := #[], guard := none } : Oper)) (v := ?_) rfl (by kernel_rfl) (by kernel_rfl) (by kernel_rfl) (fun _ _ _ h => h) (Or.inl ⟨by rfl, ?_⟩) hHeld ?_
                    rotate_left
                    · intro w0 hS0; (try dsimp only at hS0); go_simp; try with_reducible rfl
                    try simp only [Act.put, List.setIfInBounds_toArray, List.set_cons_zero, List.set_cons_succ]
                    refine wpAnyH_take (i := 1) (oi := ({ dst := some 108, op := Op.nilCheck (Operand.tmp 107), type := 0, pos := _, after := #[{ on := 0, ground := Ground.data }], guard := none } : Oper)) (v := ?_) rfl (by kernel_rfl) (by kernel_rfl) (by kernel_rfl) (fun _ _ _ h => h) (Or.inl ⟨by rfl, ?_⟩) hHeld ?_
                    rotate_left
                    · intro w0 hS0; (try dsimp only at hS0); go_simp; try with_reducible rfl
                    try simp only [Act.put, List.setIfInBounds_toArray, List.set_cons_zero, List.set_cons_succ]
                    refine wpAnyH_take (i := 2) (oi := ({ dst := some 109, op := Op.fieldAddr 54 (Operand.tmp 108) 3, type := 0, pos := _, after := #[{ on := 1, ground := Ground.data }], guard := none } : Oper)) (v := ?_) rfl (by kernel_rfl) (by kernel_rfl) (by kernel_rfl) (fun _ _ _ h => h) (Or.inl ⟨by rfl, ?_⟩) hHeld ?_
                    rotate_left
                    · intro w0 hS0; (try dsimp only at hS0); go_simp; try with_reducible rfl
                    try simp only [Act.put, List.setIfInBounds_toArray, List.set_cons_zero, List.set_cons_succ]
                    refine wpAnyH_take (i := 3) (oi := ({ dst := some 110, op := Op.load 51 (Operand.tmp 109), type := 51, pos := _, after := #[{ on := 2, ground := Ground.data }], guard := none } : Oper)) (v := ?_) rfl (by kernel_rfl) (by kernel_rfl) (by kernel_rfl) (fun _ _ _ h => h) (Or.inl ⟨by rfl, ?_⟩) hHeld ?_
                    rotate_left
                    · intro w0 hS0; (try dsimp only at hS0); go_simp; try with_reducible rfl
                    try simp only [Act.put, List.setIfInBounds_toArray, List.set_cons_zero, List.set_cons_succ]
                    refine wpAnyH_take (i := 4) (oi := ({ dst := some 111, op := Op.move (Operand.tmp 12), type := 45, pos := _, after := #[], guard := none } : Oper)) (v := ?_) rfl (by kernel_rfl) (by kernel_rfl) (by kernel_rfl) (fun _ _ _ h => h) (Or.inl ⟨by rfl, ?_⟩) hHeld ?_
                    rotate_left
                    · intro w0 hS0; (try dsimp only at hS0); go_simp; try with_reducible rfl
                    try simp only [Act.put, List.setIfInBounds_toArray, List.set_cons_zero, List.set_cons_succ]
                    refine wpAnyH_take (i := 5) (oi := ({ dst := some 112, op := Op.move (Operand.tmp 0), type := 41, pos := _, after := #[], guard := none } : Oper)) (v := ?_) rfl (by kernel_rfl) (by kernel_rfl) (by kernel_rfl) (fun _ _ _ h => h) (Or.inl ⟨by rfl, ?_⟩) hHeld ?_
                    rotate_left
                    · intro w0 hS0; (try dsimp only at hS0); go_simp; try with_reducible rfl
                    try simp only [Act.put, List.setIfInBounds_toArray, List.set_cons_zero, List.set_cons_succ]
                    refine wpAnyH_take (i := 6) (oi := ({ dst := some 113, op := Op.nilCheck (Operand.tmp 112), type := 0, pos := _, after := #[{ on := 5, ground := Ground.data }], guard := none } : Oper)) (v := ?_) rfl (by kernel_rfl) (by kernel_rfl) (by kernel_rfl) (fun _ _ _ h => h) (Or.inl ⟨by rfl, ?_⟩) hHeld ?_
                    rotate_left
                    · intro w0 hS0; (try dsimp only at hS0); go_simp; try with_reducible rfl
                    try simp only [Act.put, List.setIfInBounds_toArray, List.set_cons_zero, List.set_cons_succ]
                    refine wpAnyH_take (i := 7) (oi := ({ dst := some 114, op := Op.fieldAddr 54 (Operand.tmp 113) 3, type := 0, pos := _, after := #[{ on := 6, ground := Ground.data }], guard := none } : Oper)) (v := ?_) rfl (by kernel_rfl) (by kernel_rfl) (by kernel_rfl) (fun _ _ _ h => h) (Or.inl ⟨by rfl, ?_⟩) hHeld ?_
                    rotate_left
                    · intro w0 hS0; (try dsimp only at hS0); go_simp; try with_reducible rfl
                    try simp only [Act.put, List.setIfInBounds_toArray, List.set_cons_zero, List.set_cons_succ]
                    refine wpAnyH_take (i := 8) (oi := ({ dst := some 115, op := Op.load 51 (Operand.tmp 114), type := 51, pos := _, after := #[{ on := 7, ground := Ground.data }], guard := none } : Oper)) (v := ?_) rfl (by kernel_rfl) (by kernel_rfl) (by kernel_rfl) (fun _ _ _ h => h) (Or.inl ⟨by rfl, ?_⟩) hHeld ?_
                    rotate_left
                    · intro w0 hS0; (try dsimp only at hS0); go_simp; try with_reducible rfl
                    try simp only [Act.put, List.setIfInBounds_toArray, List.set_cons_zero, List.set_cons_succ]
                    refine wpAnyH_take (i := 9) (oi := ({ dst := some 116, op := Op.move (Operand.tmp 12), type := 45, pos := _, after := #[], guard := none } : Oper)) (v := ?_) rfl (by kernel_rfl) (by kernel_rfl) (by kernel_rfl) (fun _ _ _ h => h) (Or.inl ⟨by rfl, ?_⟩) hHeld ?_
                    rotate_left
                    · intro w0 hS0; (try dsimp only at hS0); go_simp; try with_reducible rfl
                    try simp only [Act.put, List.setIfInBounds_toArray, List.set_cons_zero, List.set_cons_succ]
                    refine wpAnyH_take (i := 10) (oi := ({ dst := some 117, op := Op.indexAddr 51 (Operand.tmp 115) (Operand.tmp 116), type := 0, pos := _, after := #[{ on := 8, ground := Ground.data }, { on := 9, ground := Ground.data }], guard := none } : Oper)) (v := ?_) rfl (by kernel_rfl) (by kernel_rfl) (by kernel_rfl) (fun _ _ _ h => h) (Or.inl ⟨by rfl, ?_⟩) hHeld ?_
                    rotate_left
                    · intro w0 hS0; (try dsimp only at hS0); go_simp; try with_reducible rfl
                    try simp only [Act.put, List.setIfInBounds_toArray, List.set_cons_zero, List.set_cons_succ]
                    refine wpAnyH_take (i := 12) (oi := ({ dst := some 119, op := Op.load 88 (Operand.tmp 9), type := 88, pos := _, after := #[], guard := none } : Oper)) (v := ?_) rfl (by kernel_rfl) (by kernel_rfl) (by kernel_rfl) (fun _ _ _ h => h) (Or.inl ⟨by rfl, ?_⟩) hHeld ?_
                    rotate_left
                    · intro w0 hS0; (try dsimp only at hS0); go_simp; try with_reducible rfl
                    try simp only [Act.put, List.setIfInBounds_toArray, List.set_cons_zero, List.set_cons_succ]
                    refine wpAnyH_ready (rs := [11, 13]) (by kernel_rfl) (by simp) ?_
                    refine AllReadyH.cons (o := ({ dst := some 118, op := Op.load 86 (Operand.tmp 117), type := 86, pos := _, after := #[{ on := 10, ground := Ground.data }], guard := none } : Oper)) rfl (fun KK hK => ?_) (AllReadyH.cons (o := ({ dst := some 120, op := Op.buildSlice 86 1 #[(0, Operand.tmp 119)], type := 86, pos := _, after := #[{ on := 12, ground := Ground.data }], guard := none } : Oper)) rfl (fun KK hK => ?_) AllReadyH.nil)
                    · go_simp
                      refine hK.out _ _ ?_ (fun hHeld2 => ?_)
                      · exact ⟨d3, d0, d1⟩
                      clear hK KK
                      try simp only [Act.put, List.setIfInBounds_toArray, List.set_cons_zero, List.set_cons_succ]
                      refine wpAnyH_ready (rs := [13]) (by kernel_rfl) (by simp) ?_
                      refine AllReadyH.cons (o := ({ dst := some 120, op := Op.buildSlice 86 1 #[(0, Operand.tmp 119)], type := 86, pos := _, after := #[{ on := 12, ground := Ground.data }], guard := none } : Oper)) rfl (fun KK hK => ?_) AllReadyH.nil
                      go_simp
                      refine hK.out _ _ ?_ (fun hHeld3 => ?_)
                      · exact ⟨a3, a0, a1⟩
                      clear hK KK
                      try simp only [Act.put, List.setIfInBounds_toArray, List.set_cons_zero, List.set_cons_succ]
                      refine wpAnyH_ready (rs := [14]) (by kernel_rfl) (by simp) ?_
                      refine AllReadyH.cons (o := ({ dst := some 121, op := Op.call { callee := Callee.builtin Builtin.append, args := #[Operand.tmp 118, Operand.tmp 120], argTypes := #[86, 86] }, type := 86, pos := _, after := #[{ on := 11, ground := Ground.data }, { on := 13, ground := Ground.data }], guard := none } : Oper)) rfl (fun KK hK => ?_) AllReadyH.nil
                      refine step_append_lies _ (by rfl) _ _ 86 (by rfl) 0 88 i4 _ 2 8 Tryd.underlying86 hj0 hj1 hj2 hj3 rfl (by decide) (.slice wa Kl wc) _ (flatW FW) (by rfl) OW.out ⟨W5.heap.size, 0, none⟩ 1 1 [.int .i32 (r : Int), .int .i32 (a : Int)] (by rfl) rfl (World.news_of_block NB.out) one2 (by decide) hmx hby (Nat.zero_le _) (W5.heap.size + 1) (by simp) ?_
                      intro g9 cap9 w9' ho9 hg9 hat9 hlt9
                      obtain ⟨u3, ub, uw, q2, q3⟩ := HPU.out g9 cap9 w9' ho9 hg9 hat9
                      have u0 := ub.r
                      have u1 := ub.o
                      have Q3 : Hid (∃ L', LkA w L n no K cap wg wB (w9'.setCell ⟨L1.wb, l, none⟩ (.slice (some ⟨g9, 0, none⟩) (Kl + 1) cap9)) L' S3 M r a) := q3
                      clear ho9 hg9 hat9 q3 ub
                      refine hK.out _ _ ?_ (fun hHeld4 => ?_)
                      · exact ⟨u3, u0, u1⟩
                      clear hK KK
                      try simp only [Act.put, List.setIfInBounds_toArray, List.set_cons_zero, List.set_cons_succ]
                      refine wpAnyH_take (i := 15) (oi := ({ dst := some 122, op := Op.indexAddr 51 (Operand.tmp 110) (Operand.tmp 111), type := 0, pos := _, after := #[{ on := 3, ground := Ground.data }, { on := 4, ground := Ground.data }, { on := 0, ground := Ground.phase }, { on := 1, ground := Ground.phase }, { on := 2, ground := Ground.phase }, { on := 3, ground := Ground.phase }, { on := 4, ground := Ground.phase }, { on := 5, ground := Ground.phase }, { on := 6, ground := Ground.phase }, { on := 7, ground := Ground.phase }, { on := 8, ground := Ground.phase }, { on := 9, ground := Ground.phase }, { on := 10, ground := Ground.phase }, { on := 11, ground := Ground.phase }, { on := 12, ground := Ground.phase }, { on := 13, ground := Ground.phase }, { on := 14, ground := Ground.phase }], guard := none } : Oper)) (v := ?_) rfl (by kernel_rfl) (by kernel_rfl) (by kernel_rfl) (fun _ _ _ h => h) (Or.inl ⟨by rfl, ?_⟩) hHeld4 ?_
                      rotate_left
                      · intro w0 hS0; (try dsimp only at hS0); go_simp; try with_reducible rfl
                      try simp only [Act.put, List.setIfInBounds_toArray, List.set_cons_zero, List.set_cons_succ]
                      refine wpAnyH_ready (rs := [16]) (by kernel_rfl) (by simp) ?_
                      refine AllReadyH.cons (o := ({ dst := none, op := Op.store 86 (Operand.tmp 122) (Operand.tmp 121), type := 0, pos := _, after := #[{ on := 15, ground := Ground.data }, { on := 14, ground := Ground.data }, { on := 14, ground := Ground.chain }, { on := 0, ground := Ground.phase }, { on := 1, ground := Ground.phase }, { on := 2, ground := Ground.phase }, { on := 3, ground := Ground.phase }, { on := 4, ground := Ground.phase }, { on := 5, ground := Ground.phase }, { on := 6, ground := Ground.phase }, { on := 7, ground := Ground.phase }, { on := 8, ground := Ground.phase }, { on := 9, ground := Ground.phase }, { on := 10, ground := Ground.phase }, { on := 11, ground := Ground.phase }, { on := 12, ground := Ground.phase }, { on := 13, ground := Ground.phase }, { on := 14, ground := Ground.phase }], guard := none } : Oper)) rfl (fun KK hK => ?_) AllReadyH.nil
                      go_simp
                      refine hK.out _ _ ?_ (fun _ => ?_)
                      · exact ⟨by rw [World.cell?_setCell_other _ _ _ _ hn1]; exact u3, by rw [World.cell?_setCell_other _ _ _ _ hn2]; exact u0, by rw [World.cell?_setCell_other _ _ _ _ hn3]; exact u1⟩
                      clear hK KK
                      refine wpAnyH_done (by kernel_rfl) ?_ _
                      refine NoPanic.normal ?_
                      obtain ⟨L5, Q5⟩ := Q3.out
                      have Q6 : Hid (LkA w L n no K cap wg wB _ L5 S3 M r a) := Q5
                      clear Q3 Q5 u3 u0 u1 uw q2
                      go_wp2_with fail
                      go_roundg g0
                      case measure => omega
                      case rel => exact ⟨i + 1, kn, _, L5, M, kept, _, rfl, rfl, by simp, by omega, by omega, Q6.out.next HJ2.out HTK.out.1 HTK.out.2 rfl HRU.out⟩
                    · go_simp
                      refine hK.out _ _ ?_ (fun hHeld2 => ?_)
                      · exact ⟨a3, a0, a1⟩
                      clear hK KK
                      try simp only [Act.put, List.setIfInBounds_toArray, List.set_cons_zero, List.set_cons_succ]
                      refine wpAnyH_ready (rs := [11]) (by kernel_rfl) (by simp) ?_
                      refine AllReadyH.cons (o := ({ dst := some 118, op := Op.load 86 (Operand.tmp 117), type := 86, pos := _, after := #[{ on := 10, ground := Ground.data }], guard := none } : Oper)) rfl (fun KK hK => ?_) AllReadyH.nil
                      go_simp
                      refine hK.out _ _ ?_ (fun hHeld3 => ?_)
                      · exact ⟨a3, a0, a1⟩
                      clear hK KK
                      try simp only [Act.put, List.setIfInBounds_toArray, List.set_cons_zero, List.set_cons_succ]
                      refine wpAnyH_ready (rs := [14]) (by kernel_rfl) (by simp) ?_
                      refine AllReadyH.cons (o := ({ dst := some 121, op := Op.call { callee := Callee.builtin Builtin.append, args := #[Operand.tmp 118, Operand.tmp 120], argTypes := #[86, 86] }, type := 86, pos := _, after := #[{ on := 11, ground := Ground.data }, { on := 13, ground := Ground.data }], guard := none } : Oper)) rfl (fun KK hK => ?_) AllReadyH.nil
                      refine step_append_lies _ (by rfl) _ _ 86 (by rfl) 0 88 i4 _ 2 8 Tryd.underlying86 hj0 hj1 hj2 hj3 rfl (by decide) (.slice wa Kl wc) _ (flatW FW) (by rfl) OW.out ⟨W5.heap.size, 0, none⟩ 1 1 [.int .i32 (r : Int), .int .i32 (a : Int)] (by rfl) rfl (World.news_of_block NB.out) one2 (by decide) hmx hby (Nat.zero_le _) (W5.heap.size + 1) (by simp) ?_
                      intro g9 cap9 w9' ho9 hg9 hat9 hlt9
                      obtain ⟨u3, ub, uw, q2, q3⟩ := HPU.out g9 cap9 w9' ho9 hg9 hat9
                      have u0 := ub.r
                      have u1 := ub.o
                      have Q3 : Hid (∃ L', LkA w L n no K cap wg wB (w9'.setCell ⟨L1.wb, l, none⟩ (.slice (some ⟨g9, 0, none⟩) (Kl + 1) cap9)) L' S3 M r a) := q3
                      clear ho9 hg9 hat9 q3 ub
                      refine hK.out _ _ ?_ (fun hHeld4 => ?_)
                      · exact ⟨u3, u0, u1⟩
                      clear hK KK
                      try simp only [Act.put, List.setIfInBounds_toArray, List.set_cons_zero, List.set_cons_succ]
                      refine wpAnyH_take (i := 15) (oi := ({ dst := some 122, op := Op.indexAddr 51 (Operand.tmp 110) (Operand.tmp 111), type := 0, pos := _, after := #[{ on := 3, ground := Ground.data }, { on := 4, ground := Ground.data }, { on := 0, ground := Ground.phase }, { on := 1, ground := Ground.phase }, { on := 2, ground := Ground.phase }, { on := 3, ground := Ground.phase }, { on := 4, ground := Ground.phase }, { on := 5, ground := Ground.phase }, { on := 6, ground := Ground.phase }, { on := 7, ground := Ground.phase }, { on := 8, ground := Ground.phase }, { on := 9, ground := Ground.phase }, { on := 10, ground := Ground.phase }, { on := 11, ground := Ground.phase }, { on := 12, ground := Ground.phase }, { on := 13, ground := Ground.phase }, { on := 14, ground := Ground.phase }], guard := none } : Oper)) (v := ?_) rfl (by kernel_rfl) (by kernel_rfl) (by kernel_rfl) (fun _ _ _ h => h) (Or.inl ⟨by rfl, ?_⟩) hHeld4 ?_
                      rotate_left
                      · intro w0 hS0; (try dsimp only at hS0); go_simp; try with_reducible rfl
                      try simp only [Act.put, List.setIfInBounds_toArray, List.set_cons_zero, List.set_cons_succ]
                      refine wpAnyH_ready (rs := [16]) (by kernel_rfl) (by simp) ?_
                      refine AllReadyH.cons (o := ({ dst := none, op := Op.store 86 (Operand.tmp 122) (Operand.tmp 121), type := 0, pos := _, after := #[{ on := 15, ground := Ground.data }, { on := 14, ground := Ground.data }, { on := 14, ground := Ground.chain }, { on := 0, ground := Ground.phase }, { on := 1, ground := Ground.phase }, { on := 2, ground := Ground.phase }, { on := 3, ground := Ground.phase }, { on := 4, ground := Ground.phase }, { on := 5, ground := Ground.phase }, { on := 6, ground := Ground.phase }, { on := 7, ground := Ground.phase }, { on := 8, ground := Ground.phase }, { on := 9, ground := Ground.phase }, { on := 10, ground := Ground.phase }, { on := 11, ground := Ground.phase }, { on := 12, ground := Ground.phase }, { on := 13, ground := Ground.phase }, { on := 14, ground := Ground.phase }], guard := none } : Oper)) rfl (fun KK hK => ?_) AllReadyH.nil
                      go_simp
                      refine hK.out _ _ ?_ (fun _ => ?_)
                      · exact ⟨by rw [World.cell?_setCell_other _ _ _ _ hn1]; exact u3, by rw [World.cell?_setCell_other _ _ _ _ hn2]; exact u0, by rw [World.cell?_setCell_other _ _ _ _ hn3]; exact u1⟩
                      clear hK KK
                      refine wpAnyH_done (by kernel_rfl) ?_ _
                      refine NoPanic.normal ?_
                      obtain ⟨L5, Q5⟩ := Q3.out
                      have Q6 : Hid (LkA w L n no K cap wg wB _ L5 S3 M r a) := Q5
                      clear Q3 Q5 u3 u0 u1 uw q2
                      go_wp2_with fail
                      go_roundg g0
                      case measure => omega
                      case rel => exact ⟨i + 1, kn, _, L5, M, kept, _, rfl, rfl, by simp, by omega, by omega, Q6.out.next HJ2.out HTK.out.1 HTK.out.2 rfl HRU.out⟩
    · have hiK : i = K := by omega
      have hke : M.drop K = [] := List.drop_eq_nil_of_le (by omega)
      have hre : rest = [] := by rw [← HR.out.dr, hiK]; exact hke
      have hrn := HR.out.run
      rw [hre] at hrn
      have hrn2 : (s', kept, (-1 : Int)) = R := hrn
      obtain ⟨c3, cw, fw, L2, q1, q2⟩ := fin_of (k := kn) HR.out.at_ HR.out.fr hno HR.out.wv (by omega) HR.out.tk
      have HRR : Hid (R.2.2 = -1) := by rw [← hrn2]; rfl
      have HPO : Hid (StPost w L n (wset R.1 no R.2.1) (.int .i32 R.2.2) (.returned (.int .i32 (-1))) (wr.setCell ⟨L'.wb, no, none⟩ (.slice (some ⟨wg, 0, none⟩) kn cap))) := ⟨by rw [HRR.out], L2, by rw [← hrn2]; exact q1, q2⟩
      have i1 : ¬ (i : Int) < (K : Int) := by omega
      clear q1 q2 hrn hrn2 HR hct hcs hcm hcur
      go_wp2_with fail
      go_ret
      exact HPO.out

end Go.Proofs.YtbicefgjompnoaaDoor.Sx
