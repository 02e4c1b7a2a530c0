/- A node is turned: turnNode. -/
import Derived.Test.YtaakjjefnjbabaaGreatQ23
import Derived.BigQuiet
set_option maxRecDepth 100000
namespace Go.Proofs.YtaakjjefnjbabaaGreat.Sx
open Go.RowKit Go.Sort Go.Maps Go.WideMaps
section
variable {w : World} {tb : Nat} {L : Ly} {T T' : Tb} {n : Nat} {ρ p : Nat → Nat}
theorem nodeR_any (h : TAt w tb L T) (hI : Inv n ρ p T) {u lo hh x : Nat} (hR : NodeR T u lo hh T' x) (hu : u ≤ 64) (hl : T.rows.length ≤ 274877906944) (hfr : T.fresh.length + 1 ≤ 1099511627776) (hlo : lo < T.rows.length) (hhh : hh < T.rows.length) (hus : ∀ r ∈ T.rows, r.users ≤ 549755813888) :
 Calls Tryz.prog 64 #[.pointer (some ⟨tb, 0, none⟩), .int .i64 (u : Int), .int .i64 (lo : Int), .int .i64 (hh : Int)] w fun e w' => Post w tb L x T' e w' := by
 rcases hR with ⟨rfl, rfl, rfl⟩ | ⟨hne, hm, rfl⟩ | ⟨hne, hk, rfl, rfl⟩
 · refine (node_same (w := w) (tb := tb) (u : Int) x).mono ?_
   rintro e w' ⟨rfl, hf⟩
   exact ⟨rfl, L, h.grew hf, FrT.of hf fun _ _ _ => trivial⟩
 · refine (node_hit h (u : Int) lo hh x ⟨by omega, by omega⟩ (by unfold Sm; omega) (by unfold Sm; omega) hne hm fun q hq e => ?_).mono ?_
   · obtain ⟨k2, f2⟩ := q
     exact nodup_fst hI.mn (show (_, f2) ∈ T'.made from by rw [← show k2 = ((u : Int), lo, hh) from e]; exact hq) hm
   · rintro e w' ⟨rfl, hf⟩
     exact ⟨rfl, L, h.grew hf, FrT.of hf fun _ _ _ => trivial⟩
 · refine (node_miss h (u : Int) lo hh ⟨by omega, by omega⟩ hne hk (by unfold Sm; omega) (by unfold Sm; omega) hlo hhh hI.frB hus).mono ?_
   rintro e w' ⟨rfl, L', hT, hf⟩
   exact ⟨rfl, L', hT, hf⟩
theorem pr_at {l y : Nat} {r : Rw} {b : Bool} (hr : T.rows[y]? = some r) (hb : (r.about == (l : Int)) = b) : pr T l y = (if b then r.low else y, if b then r.high else y) := by
 unfold pr
 rw [ky_at hr]
 cases b with
 | true =>
   have : r.about = (l : Int) := by simpa using hb
   rw [if_pos (show (keyR r).1 = (l : Int) from this)]; rfl
 | false =>
   have : r.about ≠ (l : Int) := by simpa using hb
   rw [if_neg (show (keyR r).1 ≠ (l : Int) from this)]; rfl
set_option maxHeartbeats 4000000 in
theorem turnNode_skip (h : TAt w tb L T) (hI : Inv n ρ p T) {u l f : Nat} (hu : u < n) (hf : (ky T f).1 = (u : Int)) (hp : ¬ hasP T f l) :
 Calls Tryz.prog 78 #[.pointer (some ⟨tb, 0, none⟩), .int .i64 (f : Int), .int .i64 (l : Int)] w fun e w' => e = .returned (.tuple #[]) ∧ TAt w' tb L T ∧ FrT L L w w' := by
 obtain ⟨r, hr, hd⟩ := ky_live hf
 have h2 := hI.k2 hu hf
 obtain ⟨a1, a2, a3, ⟨ra, hra, _⟩, ⟨rb, hrb, _⟩, _⟩ := hI.nd f r h2 hr hd
 unfold hasP at hp
 rw [ky_at hr] at hp
 have n1 : ra.about ≠ (l : Int) := fun e => hp (.inl (by show (ky T r.low).1 = _; rw [ky_at hra]; exact e))
 have n2 : rb.about ≠ (l : Int) := fun e => hp (.inr (by show (ky T r.high).1 = _; rw [ky_at hrb]; exact e))
 obtain ⟨g, cap, G⟩ := h.rowsG hr
 have hsz := block_lt (h.st trivial).1
 have hgl := G.lt
 have b2 := h.b2 G
 have hfl := lt_of_at hr
 have hal := lt_of_at hra
 have hbl := lt_of_at hrb
 have c0 := G.c0 hr
 have c1 := G.c1 hr
 have c2 := G.c2 hr
 have HG : Hid (TAt w tb L T) := h
 have HR : Hid (RowsG w L T g cap) := G
 have mo := follows
 clear h G hp
 go_enter Tryz.func78, Tryz.ntmps78
 go_wp2_with fail
 have HB : Hid (TAt (w.alloc (.cells #[.int .i64 r.about, .int .i64 (r.low : Int), .int .i64 (r.high : Int)] 89)) tb L T) := HG.out.alloc _
 have HF : Hid (FrT L L w (w.alloc (.cells #[.int .i64 r.about, .int .i64 (r.low : Int), .int .i64 (r.high : Int)] 89))) := FrT.of ((Fr.refl (fun _ => True) w).alloc _) fun _ _ _ => trivial
 have hBk : Hid ((w.alloc (.cells #[.int .i64 r.about, .int .i64 (r.low : Int), .int .i64 (r.high : Int)] 89)).heap[w.heap.size]? = some (.cells #[.int .i64 r.about, .int .i64 (r.low : Int), .int .i64 (r.high : Int)] 89 (0, 0))) := heap_new rfl
 clear b2 c0 c1 c2
 generalize (w.alloc (.cells #[.int .i64 r.about, .int .i64 (r.low : Int), .int .i64 (r.high : Int)] 89)) = W at HB HF hBk ⊢
 obtain ⟨ba, hba⟩ : ∃ ba, w.heap.size = ba := ⟨_, rfl⟩
 rw [hba] at hBk hgl hsz ⊢
 have hgb : g ≠ ba := by omega
 have hbb : tb ≠ ba := by omega
 have HD : Hid (TAt W.drew tb L T) := HB.out.drew
 have hBd : W.drew.heap[ba]? = some (.cells #[.int .i64 r.about, .int .i64 (r.low : Int), .int .i64 (r.high : Int)] 89 (0, 0)) := hBk.out
 have G1 := HR.out.next HB.out hr
 have G1d := HR.out.next HD.out hr
 have b2 := HB.out.b2 G1
 have b2d := HD.out.b2 G1
 have a0 := block_cell hBk.out 0
 have a1' := block_cell hBk.out 1
 have a2' := block_cell hBk.out 2
 have a0d := block_cell hBd 0
 have a1d := block_cell hBd 1
 have a2d := block_cell hBd 2
 have c0 := G1.c0 hra
 have c0d := G1d.c0 hra
 have e0 := G1.c0 hrb
 have e0d := G1d.c0 hrb
 have m1 : (ra.about != (l : Int)) = true := by simpa using n1
 have m2 : (rb.about != (l : Int)) = true := by simpa using n2
 clear hBd G1 G1d HR
 go_quiet (fail)
 clear b2 b2d a0 a1' a2' a0d a1d a2d c0 c0d e0 e0d
 have X2 : Hid (TAt (W.drewN nq) tb L T) := HB.out.grew (Fr.grew ((Grew.refl W).drewN nq))
 have F2 : Hid (FrT L L w (W.drewN nq)) := HF.out.trans (FrT.of (Fr.grew ((Grew.refl W).drewN nq)) fun _ _ _ => trivial)
 go_wp2_with fail
 refine bodyPost_ret (v := .tuple #[]) (by simp [results, Tryz.results78]) rfl ⟨rfl, X2.out, F2.out⟩
set_option maxHeartbeats 8000000 in
theorem turnNode_any (h : TAt w tb L T) (hI : Inv n ρ z0 T) (h24 : n ≤ 24) {u l f lo hi low high : Nat} {T1 T2 T4 T5 : Tb} {r2 : Rw} (hu : u < n) (hln : l < n) (hf : ky T f = ((u : Int), lo, hi)) (hp : hasP T f l) (hl : T.rows.length ≤ 274877906944) (hfr : T.fresh.length + 2 ≤ 1099511627776) (hW : TnW n T u l f lo hi T1 low T2 high r2 T4 T5) :
 Calls Tryz.prog 78 #[.pointer (some ⟨tb, 0, none⟩), .int .i64 (f : Int), .int .i64 (l : Int)] w fun e w' => e = .returned (.tuple #[]) ∧ ∃ L', TAt w' tb L' T5 ∧ FrT L L' w w' := by
 obtain ⟨⟨ρ1, hI1⟩, hf1⟩ := hW.i1
 obtain ⟨r, hr, hd⟩ := ky_live (by rw [hf] : (ky T f).1 = (u : Int))
 have h2 := hI.k2 hu (by rw [hf] : (ky T f).1 = (u : Int))
 have hkr : keyR r = ((u : Int), lo, hi) := by rw [← ky_at hr, hf]
 obtain ⟨a1, a2, a3, ⟨ra, hra, _⟩, ⟨rb, hrb, _⟩, _⟩ := hI.nd f r h2 hr hd
 obtain rfl : r.low = lo := congrArg (fun x => x.2.1) hkr
 obtain rfl : r.high = hi := congrArg (fun x => x.2.2) hkr
 have hru : r.about = (u : Int) := congrArg (fun x => x.1) hkr
 unfold hasP at hp
 rw [hf] at hp
 have hp : ra.about = (l : Int) ∨ rb.about = (l : Int) := by
  rcases hp with e | e
  · left; rw [show (ky T r.low).1 = _ from congrArg Prod.fst (ky_at hra)] at e; exact e
  · right; rw [show (ky T r.high).1 = _ from congrArg Prod.fst (ky_at hrb)] at e; exact e
 obtain ⟨b1, hb1⟩ : ∃ b, (ra.about == (l : Int)) = b := ⟨_, rfl⟩
 obtain ⟨b2', hb2⟩ : ∃ b, (rb.about == (l : Int)) = b := ⟨_, rfl⟩
 have pe1 := pr_at hra hb1
 have pe2 := pr_at hrb hb2
 have hr4 : keyR r2 = keyR r := hW.hk.trans hkr.symm
 obtain ⟨g, cap, G⟩ := h.rowsG hr
 have hsz := block_lt (h.st trivial).1
 have hgl := G.lt
 have b2 := h.b2 G
 have hfl := lt_of_at hr
 have hal := lt_of_at hra
 have hbl := lt_of_at hrb
 have c0 := G.c0 hr
 have c1 := G.c1 hr
 have c2 := G.c2 hr
 rw [hru] at c0
 have HG : Hid (TAt w tb L T) := h
 have HR : Hid (RowsG w L T g cap) := G
 have HW : Hid (TnW n T u l f r.low r.high T1 low T2 high r2 T4 T5) := hW
 have HI : Hid (Inv n ρ z0 T) := hI
 have HI1 : Hid (Inv n ρ1 z0 T1) := hI1
 have HBA : Hid (L.own w.heap.size = 0) := h.hi _ (Nat.le_refl _)
 have mo := follows
 clear h G hW hI hI1
 go_enter Tryz.func78, Tryz.ntmps78
 go_wp2_with fail
 have HB : Hid (TAt (w.alloc (.cells #[.int .i64 (u : Int), .int .i64 (r.low : Int), .int .i64 (r.high : Int)] 89)) tb L T) := HG.out.alloc _
 have HF : Hid (FrT L L w (w.alloc (.cells #[.int .i64 (u : Int), .int .i64 (r.low : Int), .int .i64 (r.high : Int)] 89))) := FrT.of ((Fr.refl (fun _ => True) w).alloc _) fun _ _ _ => trivial
 have hBk : Hid ((w.alloc (.cells #[.int .i64 (u : Int), .int .i64 (r.low : Int), .int .i64 (r.high : Int)] 89)).heap[w.heap.size]? = some (.cells #[.int .i64 (u : Int), .int .i64 (r.low : Int), .int .i64 (r.high : Int)] 89 (0, 0))) := heap_new rfl
 clear b2 c0 c1 c2
 generalize (w.alloc (.cells #[.int .i64 (u : Int), .int .i64 (r.low : Int), .int .i64 (r.high : Int)] 89)) = W at HB HF hBk ⊢
 obtain ⟨ba, hba⟩ : ∃ ba, w.heap.size = ba := ⟨_, rfl⟩
 rw [hba] at hBk hgl hsz HBA ⊢
 have hgb : g ≠ ba := by omega
 have hbb : tb ≠ ba := by omega
 have HD : Hid (TAt W.drew tb L T) := HB.out.drew
 have hBd : W.drew.heap[ba]? = some (.cells #[.int .i64 (u : Int), .int .i64 (r.low : Int), .int .i64 (r.high : Int)] 89 (0, 0)) := hBk.out
 have G1 := HR.out.next HB.out hr
 have G1d := HR.out.next HD.out hr
 have b2 := HB.out.b2 G1
 have b2d := HD.out.b2 G1
 have a0 := block_cell hBk.out 0
 have a1' := block_cell hBk.out 1
 have a2' := block_cell hBk.out 2
 have a0d := block_cell hBd 0
 have a1d := block_cell hBd 1
 have a2d := block_cell hBd 2
 have c0 := G1.c0 hra
 have c0d := G1d.c0 hra
 have e0 := G1.c0 hrb
 have e0d := G1d.c0 hrb
 clear hBd G1 G1d HR
 have HL : Hid (T.rows.length ≤ 274877906944) := hl
 have HF0 : Hid (T.fresh.length + 2 ≤ 1099511627776) := hfr
 have HF1 : Hid (T1.fresh.length ≤ T.fresh.length + 1) := hf1
 have h64 : u ≤ 64 := by omega
 have hk2 : keyR r2 = ((u : Int), r.low, r.high) := HW.out.hk
 have HN1 : Hid (NodeR T u (if b1 = true then ra.low else r.low) (if b2' = true then rb.low else r.high) T1 low) := by
  have := HW.out.n1
  rw [pe1, pe2] at this
  exact this
 have HN2 : Hid (NodeR T1 u (if b1 = true then ra.high else r.low) (if b2' = true then rb.high else r.high) T2 high) := by
  have := HW.out.n2
  rw [pe1, pe2] at this
  exact this
 have HLP : Hid (((if b1 = true then ra.low else r.low) < T.rows.length ∧ (if b2' = true then rb.low else r.high) < T.rows.length) ∧ (if b1 = true then ra.high else r.low) < T1.rows.length ∧ (if b2' = true then rb.high else r.high) < T1.rows.length) := by
  have := HW.out.lp
  rw [pe1, pe2] at this
  exact this
 have HRA : Hid (T.rows[r.low]? = some ra) := hra
 have HRB : Hid (T.rows[r.high]? = some rb) := hrb
 obtain ⟨x1, hx1⟩ : ∃ x, (if b1 = true then ra.low else r.low) = x := ⟨_, rfl⟩
 obtain ⟨x2, hx2⟩ : ∃ x, (if b1 = true then ra.high else r.low) = x := ⟨_, rfl⟩
 obtain ⟨y1, hy1⟩ : ∃ x, (if b2' = true then rb.low else r.high) = x := ⟨_, rfl⟩
 obtain ⟨y2, hy2⟩ : ∃ x, (if b2' = true then rb.high else r.high) = x := ⟨_, rfl⟩
 rw [hx1, hy1] at HN1
 rw [hx2, hy2] at HN2
 rw [hx1, hx2, hy1, hy2] at HLP
 have HP1 : ∀ W2, TAt W2 tb L T → Hid (Calls _ _ _ _ _) := fun W2 X2 => parts_any X2 r.low ra hra (l : Int) b1 hb1
 have HP2 : ∀ W2, TAt W2 tb L T → Hid (Calls _ _ _ _ _) := fun W2 X2 => parts_any X2 r.high rb hrb (l : Int) b2' hb2
 have HP1 : Hid (∀ W2, TAt W2 tb L T → _) := HP1
 have HP2 : Hid (∀ W2, TAt W2 tb L T → _) := HP2
 have HQ : Hid (ra.about = (l : Int) ∨ rb.about = (l : Int)) := hp
 clear hl hfr hf1 pe1 pe2 hra hrb hb1 hb2 hp hr hf h2 hd hkr a1 a2 a3 HG
 by_cases q1 : ra.about = (l : Int)
 case' pos =>
  have m1 : (ra.about != (l : Int)) = false := by simpa using q1
  go_quiet (fail)
 case' neg =>
  have m1 : (ra.about != (l : Int)) = true := by simpa using q1
  have m2 : (rb.about != (l : Int)) = false := by simpa using HQ.out.resolve_left q1
  go_quiet (fail)
 all_goals
  clear b2 b2d a0 a1' a2' a0d a1d a2d c0 c0d e0 e0d
  have X2 : Hid (TAt (W.drewN nq) tb L T) := HB.out.grew (Fr.grew ((Grew.refl W).drewN nq))
  have F2 : Hid (FrT L L w (W.drewN nq)) := HF.out.trans (FrT.of (Fr.grew ((Grew.refl W).drewN nq)) fun _ _ _ => trivial)
  have B2 : Hid ((W.drewN nq).heap[ba]? = some (.cells #[.int .i64 (u : Int), .int .i64 (r.low : Int), .int .i64 (r.high : Int)] 89 (0, 0))) := hBk.out
  clear HB HF HD hBk
  generalize W.drewN nq = W2 at X2 F2 B2 ⊢
  have a1' := block_cell B2.out 1
  have HC1 := HP1.out W2 X2.out
  go_wp2_with fail
  refine HC1.out.mono ?_
  rintro e W3 ⟨rfl, hf3⟩
  rw [hx1, hx2]
  have X3 : Hid (TAt W3 tb L T) := X2.out.grew hf3
  have F3 : Hid (FrT L L w W3) := F2.out.trans (FrT.of hf3 fun _ _ _ => trivial)
  have B3 : Hid (W3.heap[ba]? = _) := (hf3.block ba (block_lt B2.out) trivial).trans B2.out
  clear hf3 HC1 X2 F2 B2 a1'
  have a2' := block_cell B3.out 2
  have HC1 := HP2.out W3 X3.out
  go_wp2_with fail
  refine HC1.out.mono ?_
  rintro e W4 ⟨rfl, hf3⟩
  rw [hy1, hy2]
  have X4 : Hid (TAt W4 tb L T) := X3.out.grew hf3
  have F4 : Hid (FrT L L w W4) := F3.out.trans (FrT.of hf3 fun _ _ _ => trivial)
  have B4 : Hid (W4.heap[ba]? = _) := (hf3.block ba (block_lt B3.out) trivial).trans B3.out
  clear hf3 HC1 X3 F3 B3 a2'
  have a0 := block_cell B4.out 0
  have HC1 : Hid (Calls _ _ _ _ _) := nodeR_any X4.out HI.out HN1.out h64 HL.out (by have := HF0.out; omega) HLP.out.1.1 HLP.out.1.2 HW.out.us.1
  go_wp2_with fail
  refine HC1.out.mono ?_
  rintro e W5 ⟨rfl, L1, hX5, hF5⟩
  have X5 : Hid (TAt W5 tb L1 T1) := hX5
  have F5 : Hid (FrT L L1 w W5) := F4.out.trans hF5
  have B5 : Hid (W5.heap[ba]? = _) := (hF5.block ba (block_lt B4.out) HBA.out).trans B4.out
  have O5 : Hid (L1.own ba = 0) := (hF5.own ba (block_lt B4.out)).trans HBA.out
  clear hX5 hF5 HC1 X4 F4 B4 a0
  have a0 := block_cell B5.out 0
  have HC1 : Hid (Calls _ _ _ _ _) := nodeR_any X5.out HI1.out HN2.out h64 HW.out.ls.1 (by have := HF0.out; have := HF1.out; omega) HLP.out.2.1 HLP.out.2.2 HW.out.us.2.1
  go_wp2_with fail
  refine HC1.out.mono ?_
  rintro e W6 ⟨rfl, L2, hX6, hF6⟩
  have X6 : Hid (TAt W6 tb L2 T2) := hX6
  have F6 : Hid (FrT L L2 w W6) := F5.out.trans hF6
  have B6 : Hid (W6.heap[ba]? = some (.cells #[.int .i64 (u : Int), .int .i64 (r.low : Int), .int .i64 (r.high : Int)] 89 (0, 0))) := (hF6.block ba (block_lt B5.out) O5.out).trans B5.out
  have O6 : Hid (L2.own ba = 0) := (hF6.own ba (block_lt B5.out)).trans O5.out
  clear hX6 hF6 HC1 X5 F5 B5 O5 a0
  have X7 : Hid (TAt W6.drew tb L2 T2) := X6.out.drew
  have F7 : Hid (FrT L L2 w W6.drew) := F6.out.trans (FrT.of (Fr.refl (fun _ => True) W6).drew fun _ _ _ => trivial)
  have B7 : Hid (W6.drew.heap[ba]? = some (.cells #[.int .i64 (u : Int), .int .i64 (r.low : Int), .int .i64 (r.high : Int)] 89 (0, 0))) := B6.out
  have slo : r.low ≤ 1099511627776 := by have := HL.out; omega
  have shi : r.high ≤ 1099511627776 := by have := HL.out; omega
  obtain ⟨W8, hdel, hm8, hf8, -⟩ := (X7.out.md trivial).1.del lawA Tryz.underlying77 (x := askV (keyR r2)) (by rw [hk2]; exact keyA ⟨by omega, by omega⟩ (Sm.fits slo) (Sm.fits shi)) (madeL_fst (X7.out.md trivial).2.2) 0
  rw [madeL_filter] at hm8
  obtain ⟨x8, f8⟩ := X7.out.maps hf8 hm8 (nodup_filter (X7.out.md trivial).2.2)
  rw [hk2] at hdel
  unfold askV at hdel
  have X8 : Hid (TAt W8 tb L2 { T2 with made := T2.made.filter (fun p => decide (p.1 ≠ keyR r2)) }) := x8
  have F8 : Hid (FrT L L2 w W8) := F7.out.trans f8
  have B8 : Hid (W8.heap[ba]? = some (.cells #[.int .i64 (u : Int), .int .i64 (r.low : Int), .int .i64 (r.high : Int)] 89 (0, 0))) := (f8.block ba (block_lt B7.out) O6.out).trans B7.out
  have b4 := X6.out.b4
  have b4d := X7.out.b4
  have a0 := block_cell B6.out 0
  have a1' := block_cell B6.out 1
  have a2' := block_cell B6.out 2
  have a0d := block_cell B7.out 0
  have a1d := block_cell B7.out 1
  have a2d := block_cell B7.out 2
  clear x8 f8 hm8 hf8
  go_wp2_with fail
  go_big_region_o
  clear b4 b4d a0 a1' a2' a0d a1d a2d hdel X6 F6 B6 X7 F7 B7
  have hls := HW.out.ls.2
  have hlt1 := HW.out.lt.1
  have hlt2 := HW.out.lt.2
  obtain ⟨s, s1, s2, g0, g1, g2, ge⟩ := layM_eq (R := T2.rows) (f := f) (ab := (l : Int)) (lo := low) (hh := high) (lt_of_at HW.out.hr) hlt1 hlt2
  have hu2 := HW.out.us.2.2
  have hu0 : s.users ≤ 549755813888 := hu2 s (List.mem_of_getElem? g0)
  have hA1 : ∀ z ∈ T2.rows.set f { s with about := (l : Int), low := low, high := high }, z.users ≤ 549755813888 := fun z hz => by
   obtain ⟨y, hy⟩ := List.getElem?_of_mem hz
   exact users_set hu2 (a := { s with about := (l : Int), low := low, high := high }) hu0 hy
  have hu1 : s1.users ≤ 549755813888 := hA1 s1 (List.mem_of_getElem? g1)
  have hu3 : s2.users ≤ 549755813889 := users_set (a := { s1 with users := s1.users + 1 }) (fun z hz => Nat.le_trans (hA1 z hz) (by omega)) (by show s1.users + 1 ≤ _; omega) g2
  have HLY := lay_any X8.out f (l : Int) low high s s1 s2 ⟨by omega, by omega⟩ (by unfold Sm; omega) (by unfold Sm; omega) g0 g1 g2 (by unfold Sm; omega) (by unfold Sm; omega) (fun q hq => HW.out.no q (List.mem_filter.1 hq).1)
  rw [show layR ({ T2 with made := T2.made.filter (fun p => decide (p.1 ≠ keyR r2)) } : Tb).rows f (l : Int) low high s s1 s2 = layM T2.rows f (l : Int) low high from ge.symm] at HLY
  have HLY : Hid (Calls _ _ _ _ _) := HLY
  unfold askV at HLY
  clear hu2 hu0 hA1 hu1 hu3 g0 g1 g2 ge hls hlt1 hlt2
  go_wp2_with fail
  refine HLY.out.mono ?_
  rintro e W9 ⟨rfl, hX9, hF9⟩
  have X9 : Hid (TAt W9 tb L2 (relay T2 f r2 (l : Int) low high)) := hX9
  have F9 : Hid (FrT L L2 w W9) := F8.out.trans hF9
  have B9 : Hid (W9.heap[ba]? = some (.cells #[.int .i64 (u : Int), .int .i64 (r.low : Int), .int .i64 (r.high : Int)] 89 (0, 0))) := (hF9.block ba (block_lt B8.out) O6.out).trans B8.out
  clear hX9 hF9 HLY X8 F8 B8
  have a1' := block_cell B9.out 1
  have HC1 : Hid (Calls _ _ _ _ _) := leave_of (drop_ok (n + 1)) X9.out HW.out.c4
  go_wp2_with fail
  refine HC1.out.mono ?_
  rintro e W10 ⟨rfl, L3, hX10, hF10, -⟩
  have X10 : Hid (TAt W10 tb L3 T4) := hX10
  have F10 : Hid (FrT L L3 w W10) := F9.out.trans hF10
  have B10 : Hid (W10.heap[ba]? = some (.cells #[.int .i64 (u : Int), .int .i64 (r.low : Int), .int .i64 (r.high : Int)] 89 (0, 0))) := (hF10.block ba (block_lt B9.out) O6.out).trans B9.out
  clear hX10 hF10 HC1 X9 F9 B9 a1'
  have a2' := block_cell B10.out 2
  have HC1 : Hid (Calls _ _ _ _ _) := leave_of (drop_ok (n + 1)) X10.out HW.out.c5
  go_wp2_with fail
  refine HC1.out.mono ?_
  rintro e W11 ⟨rfl, L4, hX11, hF11, -⟩
  have X11 : Hid (TAt W11 tb L4 T5) := hX11
  have F11 : Hid (FrT L L4 w W11) := F10.out.trans hF11
  clear hX11 hF11 HC1 X10 F10 B10 a2'
  go_wp2_with fail
  go_end0
  exact ⟨rfl, L4, X11.out, F11.out⟩
end
end Go.Proofs.YtaakjjefnjbabaaGreat.Sx
