/- A table: nodes are let go. -/
import Derived.Test.YtaakjjefnjbabaaGreatQ02
import Derived.Carry
set_option maxRecDepth 100000
namespace Go.Proofs.YtaakjjefnjbabaaGreat.Sx
open Go.RowKit Go.Sort Go.Maps Go.WideMaps
structure OkR (r : Rw) : Prop where
 a0 : -1 ≤ r.about
 a1 : r.about ≤ 64
 low : Sm r.low
 high : Sm r.high
 users : Sm r.users
theorem OkR.fits {r : Rw} (h : OkR r) : Fits r.about := ⟨by have := h.a0; omega, by have := h.a1; omega⟩
def keyR (r : Rw) : Int × Nat × Nat := (r.about, r.low, r.high)
def goneR (r : Rw) : Rw := { r with about := -1 }
def lessR (r : Rw) : Rw := { r with users := r.users - 1 }
def strike (T : Tb) (f : Nat) (r : Rw) : Tb := { T with made := T.made.filter (fun p => decide (p.1 ≠ keyR r)), rows := T.rows.set f (goneR r), free := T.free ++ [f] }
def lighten (T : Tb) (g : Nat) (r : Rw) : Tb := { T with rows := T.rows.set g (lessR r) }
def Drops : Nat → Tb → Nat → Tb → Prop
 | 0, _, _, _ => False
 | k + 1, T, f, T' => ∃ r, T.rows[f]? = some r ∧ ((0 < r.users ∨ r.given = true) ∧ T' = T ∨
    ¬ (0 < r.users ∨ r.given = true) ∧ OkR r ∧ Sm f ∧ Sm (T.free.length + 1) ∧ ∃ l T2 h, (strike T f r).rows[r.low]? = some l ∧ 0 < l.users ∧ OkR l ∧ Drops k (lighten (strike T f r) r.low l) r.low T2 ∧ T2.rows[r.high]? = some h ∧ 0 < h.users ∧ OkR h ∧ Drops k (lighten T2 r.high h) r.high T')
def Leaves (k : Nat) (T : Tb) (g : Nat) (T' : Tb) : Prop := ∃ l, T.rows[g]? = some l ∧ 0 < l.users ∧ OkR l ∧ Drops k (lighten T g l) g T'
theorem madeL_filter (M : List ((Int × Nat × Nat) × Nat)) (k : Int × Nat × Nat) (D : ∀ p : Value × Value, Decidable (p.1 ≠ askV k)) : ((madeL M).filter fun p => @decide (p.1 ≠ askV k) (D p)) = madeL (M.filter fun p => decide (p.1 ≠ k)) := by
 induction M with
 | nil => rfl
 | cons p M ih =>
   simp only [madeL, List.map_cons] at ih ⊢
   by_cases e : p.1 = k
   · rw [List.filter_cons_of_neg (by simp [e]), List.filter_cons_of_neg (by simp [e]), ih]
   · rw [List.filter_cons_of_pos (by simpa using fun q => e (askV_inj q)), List.filter_cons_of_pos (by simpa using e), ih]; rfl
theorem nodup_filter {α β : Type} {l : List (α × β)} {p : α × β → Bool} (hn : (l.map Prod.fst).Nodup) : ((l.filter p).map Prod.fst).Nodup := (List.Sublist.map _ List.filter_sublist).nodup hn
theorem madeL_fst {M : List ((Int × Nat × Nat) × Nat)} (hn : (M.map Prod.fst).Nodup) : ((madeL M).map Prod.fst).Nodup := by
 have e : (madeL M).map Prod.fst = (M.map Prod.fst).map askV := by simp [madeL, List.map_map, Function.comp_def]
 rw [e]
 show List.Pairwise (· ≠ ·) _
 rw [List.pairwise_map]
 exact hn.imp fun h q => h (askV_inj q)
def DropOK (k : Nat) : Prop := ∀ (w : World) (tb : Nat) (L : Ly) (T : Tb) (f : Nat) (T' : Tb), TAt w tb L T → Drops k T f T' →
 Calls Tryz.prog 88 #[.pointer (some ⟨tb, 0, none⟩), .int .i64 (f : Int)] w fun e w' => e = .returned (.tuple #[]) ∧ ∃ L', TAt w' tb L' T' ∧ FrT L L' w w' ∧ ∀ t, t ≠ 5 → L'.val t = L.val t
set_option maxHeartbeats 1000000 in
theorem leave_of {k : Nat} (hD : DropOK k) {w : World} {tb : Nat} {L : Ly} {T T' : Tb} {g : Nat} (h : TAt w tb L T) (hl : Leaves k T g T') :
 Calls Tryz.prog 98 #[.pointer (some ⟨tb, 0, none⟩), .int .i64 (g : Int)] w fun e w' => e = .returned (.tuple #[]) ∧ ∃ L', TAt w' tb L' T' ∧ FrT L L' w w' ∧ ∀ t, t ≠ 5 → L'.val t = L.val t := by
 obtain ⟨l, hr, hu, hok, hd⟩ := hl
 obtain ⟨gb, cap, G⟩ := h.rowsG hr
 have b2 := h.b2 G
 have hgl := lt_of_at hr
 have c3 := G.c3 hr
 have z3 := G.frz (g * 5 + 3)
 have n1 : (0 : Int) ≤ (g : Int) := by omega
 obtain ⟨u, hu2⟩ : ∃ u, l.users = u + 1 := ⟨l.users - 1, by omega⟩
 rw [hu2] at c3
 have hus : u ≤ 1099511627776 := by have := hok.users; unfold Sm at this; omega
 have n2 : ((u + 1 : Nat) : Int) - 1 = (u : Int) := by omega
 obtain ⟨q1, q2⟩ := h.setRow G (lessR l) (j := 3) (v := .int .i64 (u : Int)) hr (by omega) (by simp [rwV, lessR, hu2])
 have HX : Hid (TAt (w.setCell ⟨gb, g * 5 + 3, none⟩ (.int .i64 (u : Int))) tb L (lighten T g l)) := q1
 have HF : Hid (FrT L L w (w.setCell ⟨gb, g * 5 + 3, none⟩ (.int .i64 (u : Int)))) := q2
 have HD : Hid (Calls _ _ _ _ _) := hD _ tb L _ g T' q1 hd
 have mo := follows
 clear q1 q2 G h hd hD hok hr hu hu2
 go_enter Tryz.func98, Tryz.ntmps98
 go_wp2_with fail
 refine HD.out.mono ?_
 rintro e w' ⟨rfl, L', hx, hf, hv⟩
 have HV2 : Hid (∀ t, t ≠ 5 → L'.val t = L.val t) := hv
 have HX2 : Hid (TAt w' tb L' T') := hx
 have HF2 : Hid (FrT L L' w w') := HF.out.trans hf
 clear hx hf hv HD HX HF b2 c3 z3
 go_wp2_with fail
 go_end0
 exact ⟨rfl, L', HX2.out, HF2.out, HV2.out⟩
set_option maxHeartbeats 2000000 in
theorem drop_ok : ∀ k, DropOK k
 | 0 => fun _ _ _ _ _ _ _ h => absurd h (by simp [Drops])
 | k + 1 => by
   intro w tb L T f T' h hd
   obtain ⟨r, hr, hcase⟩ := hd
   obtain ⟨g, cap, G⟩ := h.rowsG hr
   have h2 := h.b2 G
   have hf := lt_of_at hr
   have c0 := G.c0 hr
   have c1 := G.c1 hr
   have c2 := G.c2 hr
   have c3 := G.c3 hr
   have c4 := G.c4 hr
   have n1 : (0 : Int) ≤ (f : Int) := by omega
   have mo := follows
   have HK : Hid (DropOK k) := drop_ok k
   rcases hcase with ⟨hg, rfl⟩ | ⟨hg, hok, hsf, hfr, l, T2, hh, hl1, hl2, hl3, hl4, hh1, hh2, hh3, hh4⟩
   · have HX : Hid (TAt w tb L T') := h
     clear G h
     by_cases hu : 0 < r.users
     · have hu2 : (0 : Int) < (r.users : Int) := by omega
       go_enter Tryz.func88, Tryz.ntmps88
       go_wp2_with fail
       all_goals
        refine bodyPost_ret (v := .tuple #[]) (by simp [results, Tryz.results88]) rfl ⟨rfl, L, HX.out.alloc _, FrT.of ((Fr.refl (fun _ => True) w).alloc _) fun _ _ _ => trivial, fun _ _ => rfl⟩
     · have hg2 : r.given = true := hg.resolve_left hu
       have hu2 : ¬ (0 : Int) < (r.users : Int) := by omega
       rw [hg2] at c4
       go_enter Tryz.func88, Tryz.ntmps88
       go_wp2_with fail
       all_goals
        refine bodyPost_ret (v := .tuple #[]) (by simp [results, Tryz.results88]) rfl ⟨rfl, L, HX.out.alloc _, FrT.of ((Fr.refl (fun _ => True) w).alloc _) fun _ _ _ => trivial, fun _ _ => rfl⟩
   · have hu : r.users = 0 := by
      have : ¬ 0 < r.users := fun q => hg (.inl q)
      omega
     have hg2 : r.given = false := by
      cases q : r.given with
      | true => exact absurd (.inr q) hg
      | false => rfl
     rw [hu] at c3
     rw [hg2] at c4
     have HG : Hid (TAt w tb L T) := h
     have HR : Hid (RowsG w L T g cap) := G
     have HOK : Hid (OkR r) := hok
     have hbl := block_lt (h.st trivial).1
     have hgl := G.lt
     have hba0 := h.hi _ (Nat.le_refl _)
     have hfl : T.free.length + 1 ≤ 1099511627776 := hfr
     have hfs : f ≤ 1099511627776 := hsf
     have HL : Hid (Leaves k (strike T f r) r.low T2) := ⟨l, hl1, hl2, hl3, hl4⟩
     have HH : Hid (Leaves k T2 r.high T') := ⟨hh, hh1, hh2, hh3, hh4⟩
     clear h G hok hg hsf hfr hl1 hl2 hl3 hl4 hh1 hh2 hh3 hh4
     go_enter Tryz.func88, Tryz.ntmps88
     go_wp2_with fail
     have HB : Hid (TAt (w.alloc (.cells #[.int .i64 r.about, .int .i64 (r.low : Int), .int .i64 (r.high : Int), .int .i64 0, .bool false] 91)) tb L T) := HG.out.alloc _
     have HF : Hid (FrT L L w (w.alloc (.cells #[.int .i64 r.about, .int .i64 (r.low : Int), .int .i64 (r.high : Int), .int .i64 0, .bool false] 91))) := FrT.of ((Fr.refl (fun _ => True) w).alloc _) fun _ _ _ => trivial
     have hBk : Hid ((w.alloc (.cells #[.int .i64 r.about, .int .i64 (r.low : Int), .int .i64 (r.high : Int), .int .i64 0, .bool false] 91)).heap[w.heap.size]? = some (.cells #[.int .i64 r.about, .int .i64 (r.low : Int), .int .i64 (r.high : Int), .int .i64 0, .bool false] 91 (0, 0))) := heap_new rfl
     clear h2 c0 c1 c2 c3 c4
     generalize (w.alloc (.cells #[.int .i64 r.about, .int .i64 (r.low : Int), .int .i64 (r.high : Int), .int .i64 0, .bool false] 91)) = W at HB HF hBk ⊢
     obtain ⟨ba, hba⟩ : ∃ ba, w.heap.size = ba := ⟨_, rfl⟩
     rw [hba] at hBk hgl hbl hba0 ⊢
     have HBA : Hid (L.own ba = 0) := hba0
     clear HG hba0
     have HD : Hid (TAt W.drew tb L T) := HB.out.drew
     have HFd : Hid (FrT L L w W.drew) := HF.out.trans (FrT.of (Fr.refl (fun _ => True) W).drew fun _ _ _ => trivial)
     have hBd : Hid (W.drew.heap[ba]? = _) := hBk.out
     obtain ⟨W4, hdel, hm4, hf4, -⟩ := (HD.out.md trivial).1.del lawA Tryz.underlying77 (x := askV (keyR r)) (keyA HOK.out.fits HOK.out.low.fits HOK.out.high.fits) (madeL_fst (HD.out.md trivial).2.2) 0
     rw [madeL_filter] at hm4
     obtain ⟨x4, f4⟩ := HD.out.maps hf4 hm4 (nodup_filter (HD.out.md trivial).2.2)
     unfold askV keyR at hdel
     have X4 : Hid (TAt W4 tb L { T with made := T.made.filter (fun p => decide (p.1 ≠ keyR r)) }) := x4
     have F4 : Hid (FrT L L w W4) := HFd.out.trans f4
     have B4 : Hid (W4.heap[ba]? = some (.cells #[.int .i64 r.about, .int .i64 (r.low : Int), .int .i64 (r.high : Int), .int .i64 0, .bool false] 91 (0, 0))) := (f4.block ba (block_lt hBd.out) HBA.out).trans hBd.out
     have b4 := HB.out.b4
     have b4d := HD.out.b4
     have a0 := block_cell hBk.out 0
     have a1 := block_cell hBk.out 1
     have a2 := block_cell hBk.out 2
     have a0d := block_cell hBd.out 0
     have a1d := block_cell hBd.out 1
     have a2d := block_cell hBd.out 2
     have hbb : tb ≠ ba := by omega
     have hgb : g ≠ ba := by omega
     clear x4 f4 hm4 hf4
     go_big_region_o
     clear b4 b4d a0 a1 a2 a0d a1d a2d hdel HB HF hBk HD HFd hBd
     have G4 := RowsG.of HR.out.eq X4.out rfl (by omega)
     have b2 := X4.out.b2 G4
     have c0 := G4.c0 (T := { T with made := T.made.filter (fun p => decide (p.1 ≠ keyR r)) }) hr
     have z0 := G4.frz (f * 5)
     obtain ⟨q5, f5⟩ := X4.out.setRow G4 (goneR r) (j := 0) (v := .int .i64 (-1)) hr (by omega) rfl
     rw [Nat.add_zero] at q5 f5
     have X5 : Hid (TAt (W4.setCell ⟨g, f * 5, none⟩ (.int .i64 (-1))) tb L { T with made := T.made.filter (fun p => decide (p.1 ≠ keyR r)), rows := T.rows.set f (goneR r) }) := q5
     have F5 : Hid (FrT L L w (W4.setCell ⟨g, f * 5, none⟩ (.int .i64 (-1)))) := F4.out.trans f5
     have B5 : Hid ((W4.setCell ⟨g, f * 5, none⟩ (.int .i64 (-1))).heap[ba]? = _) := (f5.block ba (block_lt B4.out) HBA.out).trans B4.out
     obtain ⟨fa, fc, hfs5⟩ := X5.out.len 5 (by omega) (by omega)
     have HV : Hid (L.val 5 = .slice fa T.free.length fc) := hfs5
     have c6 : (W4.setCell ⟨g, f * 5, none⟩ (.int .i64 (-1))).cell? ⟨tb, 3, none⟩ = some (.slice fa T.free.length fc) := by rw [X5.out.cell 3]; show some (L.val 5) = _; rw [HV.out]
     clear q5 f5 hfs5 G4 HR X4 F4 B4
     obtain ⟨i0, hi0, hz0, hz1, hz2⟩ := infoNode
     have HOA : Hid (((W4.setCell ⟨g, f * 5, none⟩ (.int .i64 (-1))).alloc (.cells #[.int .i64 (f : Int)] 32)).ownsRow 0 32 1 (.slice fa T.free.length fc) T.free.length (i64C T.free)) := by
      have := (X5.out.sl 5 (by omega) (by omega) trivial).1.alloc (.cells #[.int .i64 (f : Int)] 32)
      rw [HV.out] at this
      exact this
     go_wp2_with (at_builtin; refine wpList_append_lies _ rfl _ _ 35 rfl 0 32 i0 _ 1 8 Tryz.underlying35 hi0 hz0 hz1 hz2 rfl (by decide) (.slice fa T.free.length fc) _ _ rfl HOA.out ⟨W4.heap.size, 0, none⟩ 1 1 [.int .i64 (f : Int)] rfl rfl ?q1 ?q2 (by decide) ?q3 ?q4 ?q5 (W4.heap.size + 1) ?q6 ?_)
     case q2 => rfl
     case q3 => unfold maxLen; omega
     case q4 => omega
     clear b2 c0 z0
     have hs5 : (W4.setCell ⟨g, f * 5, none⟩ (.int .i64 (-1))).heap.size = W4.heap.size := by simp
     rw [← hs5]
     clear hs5
     generalize W4.setCell ⟨g, f * 5, none⟩ (.int .i64 (-1)) = W5 at X5 F5 B5 c6 HOA ⊢
     intro g' cap' w1 ho hg hat hlt
     obtain ⟨p0, p1, p2, p3⟩ := (X5.out.alloc (.cells #[.int .i64 (f : Int)] 32)).app (t := 5) (T' := strike T f r) ((Fr.refl _ W5).alloc _) (by omega) (by omega) ⟨fun s hs => by unfold Tb.len Tb.cells strike; simp [hs], fun _ => rfl, fun _ => rfl⟩ (g := g') (cap := cap') (v' := .slice (some ⟨g', 0, none⟩) (T.free.length + 1) cap') (by show _ = Value.slice _ (T.free ++ [f]).length _; simp) (by
      show w1.ownsRow 0 32 1 _ (T.free ++ [f]).length (i64C (T.free ++ [f]))
      rw [List.length_append, show i64C (T.free ++ [f]) = i64C T.free ++ [.int .i64 (f : Int)] by simp [i64C]]; exact ho) (by rw [HV.out]; exact hg) (by
      rw [HV.out]
      rcases hat with q | q
      · exact .inl q
      · exact .inr (by simp; omega))
     have P2 : Hid (TAt _ _ _ (strike T f r)) := p2
     have P3 : Hid (FrT _ _ _ _) := p3
     have p1' : w1.cell? ⟨tb, 3, none⟩ = some (.slice fa T.free.length fc) := by rw [← HV.out]; exact p1
     have p0' : w1.frozen? ⟨tb, 3, none⟩ = false := p0
     have B6 : Hid (_ = _) := (p3.block ba (block_lt B5.out) HBA.out).trans B5.out
     have B6o := (p3.own ba (block_lt B5.out)).trans HBA.out
     have HB6 : Hid (_ = _) := B6o
     have a1 := block_cell B6.out 1
     rw [show fld 5 = 3 from rfl] at P2 P3 B6 a1
     have HLC : Hid (Calls _ _ _ _ _) := leave_of HK.out P2.out HL.out
     have F6 : Hid (FrT L _ w _) := F5.out.trans P3.out
     clear p0 p1 p2 p3 ho hg hat hlt HL HOA c6 X5 F5 B5 P2 P3 HV B6o
     go_wp2_with fail
     refine HLC.out.mono ?_
     rintro e W7 ⟨rfl, L7, hX7, hF7, hV7⟩
     have V7 : Hid (∀ t, t ≠ 5 → L7.val t = L.val t) := fun t ht => (hV7 t ht).trans (by simp [Ly.put, ht])
     have X7 : Hid (TAt W7 tb L7 T2) := hX7
     have F7 : Hid (FrT L L7 w W7) := F6.out.trans hF7
     have B7 : Hid (W7.heap[ba]? = _) := (hF7.block ba (block_lt B6.out) HB6.out).trans B6.out
     have a2 := block_cell B7.out 2
     have HLD : Hid (Calls _ _ _ _ _) := leave_of HK.out X7.out HH.out
     clear hX7 hF7 hV7 HLC a1 B6 HB6 F6 HH
     go_wp2_with fail
     refine HLD.out.mono ?_
     rintro e W8 ⟨rfl, L8, hX8, hF8, hV8⟩
     have V8 : Hid (∀ t, t ≠ 5 → L8.val t = L.val t) := fun t ht => (hV8 t ht).trans (V7.out t ht)
     have X8 : Hid (TAt W8 tb L8 T') := hX8
     have F8 : Hid (FrT L L8 w W8) := F7.out.trans hF8
     clear hX8 hF8 hV8 HLD X7 F7 B7 a2
     go_wp2_with fail
     go_end0
     exact ⟨rfl, _, X8.out, F8.out, V8.out⟩
end Go.Proofs.YtaakjjefnjbabaaGreat.Sx
namespace Go.Proofs.YtaakjjefnjbabaaGreat.Sx
open Go.RowKit Go.Sort Go.Maps Go.WideMaps
def ClrPost (k : TypeId) (w : World) (m : Nat) (e : Ending) (w' : World) : Prop := ∃ m', e = .returned (.map (some m')) ∧ MapIs k w' m' [] ∧ ((m' = m ∧ Fr (· ≠ m) w w') ∨ (w.heap.size ≤ m' ∧ Fr (fun _ => True) w w'))
set_option maxHeartbeats 1000000 in
theorem clearedT_any (w : World) (m : Nat) (l : List (Value × Value)) (h : MapIs 115 w m l) :
 Calls Tryz.prog 89 #[.map (some m)] w (ClrPost 115 w m) := by
 have h1 := h.len Tryz.underlying78 3
 have mo := follows
 by_cases hl : l.length ≤ 1000
 · obtain ⟨w', h2, h3, h4, -⟩ := h.clear 78 _ Tryz.underlying78 0
   have n1 : ¬ (1000 : Int) < (l.length : Int) := by omega
   clear h hl
   go_enter Tryz.func89, Tryz.ntmps89
   go_wp2_with fail
   go_ret
   exact ⟨m, rfl, h3, .inl ⟨rfl, h4⟩⟩
 · have n1 : (1000 : Int) < (l.length : Int) := by omega
   have m1 : (Instr.makeMap 78 none).run Tryz.prog w = .ok (.map (some w.heap.size)) (w.alloc (.map #[] 0)) := run_makeMap _ _
   clear h hl
   go_enter Tryz.func89, Tryz.ntmps89
   go_wp2_with fail
   go_ret
   exact ⟨_, rfl, MapIs.new _ w, .inr ⟨Nat.le_refl _, (Fr.refl _ w).alloc _⟩⟩
set_option maxHeartbeats 1000000 in
theorem clearedA_any (w : World) (m : Nat) (l : List (Value × Value)) (h : MapIs 89 w m l) :
 Calls Tryz.prog 87 #[.map (some m)] w (ClrPost 89 w m) := by
 have h1 := h.len Tryz.underlying77 3
 have mo := follows
 by_cases hl : l.length ≤ 1000
 · obtain ⟨w', h2, h3, h4, -⟩ := h.clear 77 _ Tryz.underlying77 0
   have n1 : ¬ (1000 : Int) < (l.length : Int) := by omega
   clear h hl
   go_enter Tryz.func87, Tryz.ntmps87
   go_wp2_with fail
   go_ret
   exact ⟨m, rfl, h3, .inl ⟨rfl, h4⟩⟩
 · have n1 : (1000 : Int) < (l.length : Int) := by omega
   have m1 : (Instr.makeMap 77 none).run Tryz.prog w = .ok (.map (some w.heap.size)) (w.alloc (.map #[] 0)) := run_makeMap _ _
   clear h hl
   go_enter Tryz.func87, Tryz.ntmps87
   go_wp2_with fail
   go_ret
   exact ⟨_, rfl, MapIs.new _ w, .inr ⟨Nat.le_refl _, (Fr.refl _ w).alloc _⟩⟩
section
variable {w w' w2 : World} {tb : Nat} {L : Ly} {T : Tb} {m : Nat}
theorem TAt.newFound (h : TAt w tb L T) (hm : MapIs 115 w2 m []) (hf : (m = L.fb ∧ Fr (· ≠ L.fb) w w2) ∨ (w.heap.size ≤ m ∧ Fr (fun _ => True) w w2)) :
 w2.cell? ⟨tb, 5, none⟩ = some (.map (some L.fb)) ∧ w2.frozen? ⟨tb, 5, none⟩ = false ∧ TAt (w2.setCell ⟨tb, 5, none⟩ (.map (some m))) tb { L with fb := m, own := ownT L.own m 8 } { T with found := [] } ∧ FrT L { L with fb := m, own := ownT L.own m 8 } w (w2.setCell ⟨tb, 5, none⟩ (.map (some m))) := by
 have ho := (h.fd trivial).2.1
 have hat : L.own m = 8 ∨ w.heap.size ≤ m := by
  rcases hf with ⟨rfl, _⟩ | ⟨q, _⟩
  · exact .inl ho
  · exact .inr q
 have f8 : Fr (fun b => L.own b ≠ 8) w w2 := by
  rcases hf with ⟨_, q⟩ | ⟨_, q⟩
  · exact q.mono fun b hb e => hb (by rw [e]; exact ho)
  · exact q.mono fun _ _ => trivial
 have k1 : TAtK (· ≠ 8) w2 tb { L with own := ownT L.own m 8 } T := by
  refine ((h.mono (K := (· ≠ 8))).own _ fun b hb => ownT_at hat hb).fr fun b hb q => f8.block b hb ?_
  have : ownT L.own m 8 b = L.own b := ownT_at hat hb
  exact fun e => q (this.trans e)
 obtain ⟨hb, hbo⟩ := k1.st (by decide)
 have hb : w2.heap[tb]? = some (.cells (tbC L) 80 (0, 0)) := hb
 have hbo : ownT L.own m 8 tb = 1 := hbo
 have hmb : m ≠ tb := by
  intro e
  rw [e] at hbo
  unfold ownT at hbo
  rw [if_pos rfl] at hbo
  omega
 have hne : ∀ b, ownT L.own m 8 b ≠ 1 → (w2.setCell ⟨tb, 5, none⟩ (.map (some m))).heap[b]? = w2.heap[b]? := fun b q => Below.heap_setCell w2 ⟨tb, 5, none⟩ _ b (fun e => q (by rw [e]; exact hbo))
 refine ⟨(block_cell hb 5), frozen_block hb 5, ⟨⟨fun _ => ⟨set_block hb 5 _, hbo⟩, fun s a b _ => ?_, fun _ => ?_, fun _ => ?_⟩, fun b hb2 => ?_⟩, ?_⟩
 · exact (k1.sl s a b (by omega)).fr fun b _ e => hne b (by rw [show ownT L.own m 8 b = s from e]; omega)
 · have := k1.md (by decide)
   exact ⟨this.1.of (hne _ (by rw [show ownT L.own m 8 L.mb = 7 from this.2.1]; decide)), this.2⟩
 · exact ⟨hm.of (Below.heap_setCell w2 ⟨tb, 5, none⟩ _ m hmb), ownT_new, List.nodup_nil⟩
 · have hb3 : w2.heap.size ≤ b := by simpa using hb2
   have hl := hm.lt
   show ownT L.own m 8 b = 0
   unfold ownT
   rw [if_neg (by omega)]
   exact h.hi b (Nat.le_trans f8.size hb3)
 · refine ⟨f8.os, f8.tape, f8.output, by have := f8.size; simpa using this, fun b hb3 h0 => ?_, fun b hb3 => ownT_at hat hb3⟩
   rw [Below.heap_setCell w2 ⟨tb, 5, none⟩ _ b (fun e => by rw [show b = tb from e, (h.st trivial).2] at h0; cases h0)]
   exact f8.block b hb3 (by rw [h0]; decide)
end
def DropsAll : List Nat → Tb → Tb → Prop
 | [], T, T' => T' = T
 | f :: l, T, T' => ∃ k T1, Drops k T f T1 ∧ DropsAll l T1 T'
theorem Drops.fresh : ∀ {k : Nat} {T : Tb} {f : Nat} {T' : Tb}, Drops k T f T' → T'.fresh = T.fresh
 | 0, _, _, _, h => absurd h (by simp [Drops])
 | k + 1, T, f, T', h => by
   obtain ⟨r, _, ⟨_, rfl⟩ | ⟨_, _, _, _, l, T2, hh, _, _, _, h1, _, _, _, h2⟩⟩ := h
   · rfl
   · rw [Drops.fresh h2]
     show T2.fresh = _
     rw [Drops.fresh h1]; rfl
theorem DropsAll.fresh : ∀ {l : List Nat} {T T' : Tb}, DropsAll l T T' → T'.fresh = T.fresh
 | [], _, _, h => by rw [show _ = _ from h]
 | f :: l, T, T', h => by
   obtain ⟨k, T1, h1, h2⟩ := h
   rw [DropsAll.fresh h2, h1.fresh]
set_option maxHeartbeats 1000000 in
theorem give_any {w : World} {tb : Nat} {L : Ly} {T T2 : Tb} (h : TAt w tb L T) (f : Nat) (r : Rw) (hr : T.rows[f]? = some r) (hl : Sm T.fresh.length) (hd : DropsAll T.fresh { T with rows := T.rows.set f { r with given := true } } T2) :
 Calls Tryz.prog 63 #[.pointer (some ⟨tb, 0, none⟩), .int .i64 (f : Int)] w fun e w' => e = .returned (.int .i64 (f : Int)) ∧ ∃ L', TAt w' tb L' { T2 with found := [], fresh := [] } ∧ FrT L L' w w' := by
 obtain ⟨g, cap, G⟩ := h.rowsG hr
 have h2 := h.b2 G
 have hf := lt_of_at hr
 have c4 := G.c4 hr
 have z4 := G.frz (f * 5 + 4)
 have h2d := h.drew.b2 G
 have c4d := (G.next h.drew hr).c4 hr
 have z4d := (G.next h.drew hr).frz (f * 5 + 4)
 have n1 : (0 : Int) ≤ (f : Int) := by omega
 obtain ⟨q1, q2⟩ := h.setRow G { r with given := true } (j := 4) (v := .bool true) hr (by omega) rfl
 obtain ⟨fa, fc, hfs⟩ := h.len 6 (by omega) (by omega)
 have hfs : L.val 6 = .slice fa T.fresh.length fc := hfs
 have c6 : (w.setCell ⟨g, f * 5 + 4, none⟩ (.bool true)).cell? ⟨tb, 6, none⟩ = some (.slice fa T.fresh.length fc) := by rw [q1.cell 6]; show some (L.val 6) = _; rw [hfs]
 obtain ⟨T1, hT1⟩ : ∃ T1, ({ T with rows := T.rows.set f { r with given := true } } : Tb) = T1 := ⟨_, rfl⟩
 have hfr1 : T1.fresh = T.fresh := by rw [← hT1]
 rw [hT1] at q1 hd
 have HX : Hid (TAt (w.setCell ⟨g, f * 5 + 4, none⟩ (.bool true)) tb L T1) := q1
 have HF : Hid (FrT L L w (w.setCell ⟨g, f * 5 + 4, none⟩ (.bool true))) := q2
 have HD : Hid (DropsAll T.fresh T1 T2) := hd
 have HC : Hid (∀ (i x : Nat), T.fresh[i]? = some x → ∃ gb, fa = some ⟨gb, 0, none⟩ ∧ L.own gb = 6 ∧ gb < w.heap.size) := by
  intro i x hx
  obtain ⟨gb, cap', e1, e2, e3, _⟩ := (show OwnR w L.own 6 (ety 6) 1 (L.val 6) T.fresh.length (i64C T.fresh) from h.sl 6 (by omega) (by omega) trivial).ints (fun q => by rw [q] at hx; simp at hx)
  rw [hfs] at e1
  cases e1
  exact ⟨gb, rfl, e2, e3⟩
 have HFR : Hid (T1.fresh = T.fresh) := hfr1
 have hlen : T.fresh.length ≤ 1099511627776 := hl
 have mo := follows
 clear q1 q2 h G hd hT1 hfr1 hr
 go_enter Tryz.func63, Tryz.ntmps63
 go_wp2_with fail
 clear h2 c4 z4 h2d c4d z4d c6
 have hws : (w.setCell ⟨g, f * 5 + 4, none⟩ (.bool true)).heap.size = w.heap.size := by simp
 rw [← hws] at HC
 clear hws
 generalize (w.setCell ⟨g, f * 5 + 4, none⟩ (.bool true)) = W1 at HX HF HC ⊢
 go_loopg [19] (T.fresh.length) (fun k s19 wr => ∃ (j : Nat) (L1 : Ly) (Tj : Tb), s19 = .int .i64 (j : Int) ∧ j + k = T.fresh.length ∧ Hid (TAt wr tb L1 Tj) ∧ Hid (FrT L L1 w wr) ∧ Hid (L1.val 6 = .slice fa T.fresh.length fc) ∧ Hid (Tj.fresh = T.fresh) ∧ Hid (DropsAll (T.fresh.drop j) Tj T2))
 case atStart => exact ⟨0, L, T1, rfl, by omega, HX, HF, hfs, HFR, by rw [List.drop_zero]; exact HD⟩
 case round =>
  obtain ⟨j, L1, Tj, rfl, hjk, X, F, V6, FR, DR⟩ := hrel
  clear HX HF HD
  by_cases hj : j < T.fresh.length
  · obtain ⟨k, rfl⟩ : ∃ k, gk = k + 1 := ⟨gk - 1, by omega⟩
    obtain ⟨x, hx⟩ : ∃ x, T.fresh[j]? = some x := ⟨_, List.getElem?_eq_getElem hj⟩
    have hdr := DR.out
    rw [List.drop_eq_getElem_cons hj] at hdr
    obtain ⟨kk, T3, hd1, hd2⟩ := hdr
    have hxe : T.fresh[j] = x := by rw [List.getElem?_eq_getElem hj] at hx; exact Option.some.inj hx
    rw [hxe] at hd1
    have hO := X.out.sl 6 (by omega) (by omega) trivial
    have hO : OwnR wr L1.own 6 32 1 (L1.val 6) T.fresh.length (i64C T.fresh) := by
     have e1 : Tj.len 6 = T.fresh.length := by show Tj.fresh.length = _; rw [FR.out]
     have e2 : Tj.cells 6 = i64C T.fresh := by show i64C Tj.fresh = _; rw [FR.out]
     rw [e1, e2] at hO
     exact hO
    obtain ⟨gb, gc, e3, -, -, hc, -⟩ := hO.ints (fun q => by rw [q] at hj; simp at hj)
    rw [V6.out] at e3
    cases e3
    have cj := hc j x hx
    have hjl : (j : Int) < (T.fresh.length : Int) := by omega
    have hj0 : (0 : Int) ≤ (j : Int) := by omega
    have HDR : Hid (Calls _ _ _ _ _) := drop_ok kk wr tb L1 Tj x T3 X.out hd1
    have HFR3 : Hid (T3.fresh = T.fresh) := hd1.fresh.trans FR.out
    have HD2 : Hid (DropsAll (T.fresh.drop (j + 1)) T3 T2) := hd2
    clear hc hO hd1 hd2 hxe hx DR FR
    go_wp2_with fail
    refine HDR.out.mono ?_
    rintro e w' ⟨rfl, L2, hX2, hF2, hV2⟩
    have X2 : Hid (TAt w' tb L2 T3) := hX2
    have F2 : Hid (FrT L L2 w w') := F.out.trans hF2
    have V2 : Hid (L2.val 6 = .slice (some ⟨gb, 0, none⟩) T.fresh.length fc) := (hV2 6 (by decide)).trans V6.out
    clear hX2 hF2 hV2 cj HDR X F V6
    go_wp2_with fail
    go_roundg k
    case measure => omega
    case rel => exact ⟨j + 1, L2, T3, by simp, by omega, X2, F2, V2, HFR3, HD2⟩
  · have hjl : ¬ (j : Int) < (T.fresh.length : Int) := by omega
    have hdr := DR.out
    rw [List.drop_eq_nil_of_le (by omega)] at hdr
    obtain rfl : T2 = Tj := hdr
    have c6 := X.out.cell 6
    have c6 : wr.cell? ⟨tb, 6, none⟩ = some (L1.val 6) := c6
    rw [V6.out] at c6
    obtain ⟨z6, q1, q2⟩ := X.out.store (t := 6) (T' := { T2 with fresh := [] }) (v := .slice none 0 0) (by omega) (by omega) ⟨fun s hs => by unfold Tb.len Tb.cells; simp [hs], fun _ => rfl, fun _ => rfl⟩ ⟨World.ownsRow_nil _ _ _ _, fun g hg => by cases hg⟩
    have z6 : wr.frozen? ⟨tb, 6, none⟩ = false := z6
    have X2 : Hid (TAt (wr.setCell ⟨tb, 6, none⟩ (.slice none 0 0)) tb _ _) := q1
    have F2 : Hid (FrT L _ w (wr.setCell ⟨tb, 6, none⟩ (.slice none 0 0))) := F.out.trans q2
    have c5 : (wr.setCell ⟨tb, 6, none⟩ (.slice none 0 0)).cell? ⟨tb, 5, none⟩ = some (.map (some L1.fb)) := X2.out.b5
    have HCl : Hid (Calls _ _ _ _ _) := clearedT_any (wr.setCell ⟨tb, 6, none⟩ (.slice none 0 0)) L1.fb _ (X2.out.fd trivial).1
    clear q1 q2
    go_wp2_with fail
    refine HCl.out.mono ?_
    rintro e W3 ⟨m', rfl, hm, hf3⟩
    obtain ⟨p0, p1, p2, p3⟩ := X2.out.newFound hm hf3
    have X3 : Hid (TAt _ _ _ _) := p2
    have F3 : Hid (FrT L _ w _) := F2.out.trans p3
    have p0' : W3.cell? ⟨tb, 5, none⟩ = some (.map (some L1.fb)) := p0
    clear hm hf3 HCl p2 p3 p0 X2 F2 X F c5 c6 z6 DR V6
    go_wp2_with fail
    go_ret
    exact ⟨rfl, _, X3.out, F3.out⟩
end Go.Proofs.YtaakjjefnjbabaaGreat.Sx
namespace Go.Proofs.YtaakjjefnjbabaaGreat.Sx
def lw (n g : Nat) (r : Rw) : Nat := if 0 ≤ r.about ∧ r.about < (n : Int) then (if r.low = g then 1 else 0) + (if r.high = g then 1 else 0) else 0
def lnk (n : Nat) (R : List Rw) (g : Nat) : Nat := (R.map (lw n g)).sum
theorem sum_set : ∀ (l : List Nat) (i a b : Nat), l[i]? = some a → (l.set i b).sum + a = l.sum + b
 | [], i, a, b, h => by simp at h
 | x :: l, 0, a, b, h => by
   obtain rfl : x = a := by simpa using h
   simp; omega
 | x :: l, i + 1, a, b, h => by
   have := sum_set l i a b (by simpa using h)
   simp only [List.set_cons_succ, List.sum_cons]; omega
theorem lnk_set {n : Nat} {R : List Rw} {f : Nat} {r : Rw} (g : Nat) (r' : Rw) (h : R[f]? = some r) : lnk n (R.set f r') g + lw n g r = lnk n R g + lw n g r' := by
 unfold lnk
 rw [List.map_set]
 exact sum_set _ f _ _ (by simp [h])
theorem lnk_push (n : Nat) (R : List Rw) (r : Rw) (g : Nat) : lnk n (R ++ [r]) g = lnk n R g + lw n g r := by simp [lnk]
theorem lnk_zero {n : Nat} {g : Nat} : ∀ {R : List Rw}, (∀ r ∈ R, lw n g r = 0) → lnk n R g = 0
 | [], _ => rfl
 | r :: R, h => by
   have h1 := h r (by simp)
   have h2 := lnk_zero (R := R) (g := g) (n := n) fun x hx => h x (by simp [hx])
   simp only [lnk, List.map_cons, List.sum_cons] at h2 ⊢
   omega
theorem lnk_pos {n : Nat} {R : List Rw} {f : Nat} {r : Rw} {g : Nat} (h : R[f]? = some r) (hw : 0 < lw n g r) : 0 < lnk n R g := by
 have := lnk_set (n := n) g { r with about := -1 } h
 have e : lw n g { r with about := -1 } = 0 := by unfold lw; rw [if_neg (by simp)]
 omega
theorem lnk_le {n : Nat} (R : List Rw) (g : Nat) : lnk n R g ≤ 2 * R.length := by
 induction R with
 | nil => simp [lnk]
 | cons r R ih =>
   have : lw n g r ≤ 2 := by unfold lw; split <;> (try split) <;> (try split) <;> omega
   simp only [lnk, List.map_cons, List.sum_cons, List.length_cons] at ih ⊢
   omega
theorem nodup_fst {α β : Type} : ∀ {l : List (α × β)}, (l.map Prod.fst).Nodup → ∀ {k : α} {a b : β}, (k, a) ∈ l → (k, b) ∈ l → a = b
 | [], _, _, _, _, h, _ => by simp at h
 | p :: l, hn, k, a, b, h1, h2 => by
   simp only [List.map_cons, List.nodup_cons] at hn
   rcases List.mem_cons.1 h1 with e1 | e1
   · rcases List.mem_cons.1 h2 with e2 | e2
     · rw [← e1] at e2; cases e2; rfl
     · exact absurd (List.mem_map.2 ⟨(k, b), e2, by rw [← e1]⟩) hn.1
   · rcases List.mem_cons.1 h2 with e2 | e2
     · exact absurd (List.mem_map.2 ⟨(k, a), e1, by rw [← e2]⟩) hn.1
     · exact nodup_fst hn.2 e1 e2
def Live (T : Tb) (f : Nat) : Prop := ∃ r, T.rows[f]? = some r ∧ r.about ≠ -1
structure Inv (n : Nat) (ρ p : Nat → Nat) (T : Tb) : Prop where
 on : T.ord.length = n
 e0 : ∃ u, T.rows[0]? = some ⟨(n : Int), 0, 0, u, true⟩
 e1 : ∃ u, T.rows[1]? = some ⟨(n : Int), 0, 0, u, true⟩
 nd : ∀ (f : Nat) (r : Rw), 2 ≤ f → T.rows[f]? = some r → r.about ≠ -1 → 0 ≤ r.about ∧ r.about < (n : Int) ∧ r.low ≠ r.high ∧ Live T r.low ∧ Live T r.high ∧ ρ f < ρ r.low ∧ ρ f < ρ r.high
 made : ∀ (k : Int × Nat × Nat) (f : Nat), (k, f) ∈ T.made ↔ 2 ≤ f ∧ ∃ r, T.rows[f]? = some r ∧ r.about ≠ -1 ∧ k = keyR r
 mn : (T.made.map Prod.fst).Nodup
 free : ∀ f, f ∈ T.free ↔ ∃ r, T.rows[f]? = some r ∧ r.about = -1
 fn : T.free.Nodup
 us : ∀ (f : Nat) (r : Rw), T.rows[f]? = some r → r.users = lnk n T.rows f + p f
 dg : ∀ (f : Nat) (r : Rw), T.rows[f]? = some r → r.about = -1 → r.given = false ∧ r.users = 0
 lh : ∀ (f : Nat) (r : Rw), T.rows[f]? = some r → r.low < T.rows.length ∧ r.high < T.rows.length
section
variable {n : Nat} {ρ p : Nat → Nat} {T : Tb}
theorem Inv.two (h : Inv n ρ p T) : 2 ≤ T.rows.length := by
 obtain ⟨u, hu⟩ := h.e1
 have := lt_of_at hu
 omega
theorem Inv.live0 (h : Inv n ρ p T) : Live T 0 := by obtain ⟨u, hu⟩ := h.e0; exact ⟨_, hu, by show (n : Int) ≠ -1; omega⟩
theorem Inv.live1 (h : Inv n ρ p T) : Live T 1 := by obtain ⟨u, hu⟩ := h.e1; exact ⟨_, hu, by show (n : Int) ≠ -1; omega⟩
theorem Live.lt {f : Nat} (h : Live T f) : f < T.rows.length := by obtain ⟨r, hr, _⟩ := h; exact lt_of_at hr
theorem Inv.ab (h : Inv n ρ p T) {f : Nat} {r : Rw} (hr : T.rows[f]? = some r) : -1 ≤ r.about ∧ r.about ≤ (n : Int) := by
 by_cases hd : r.about = -1
 · rw [hd]; omega
 · match f, hr with
   | 0, hr => obtain ⟨u, hu⟩ := h.e0; rw [hu] at hr; cases hr; exact ⟨by show (-1 : Int) ≤ (n : Int); omega, Int.le_refl _⟩
   | 1, hr => obtain ⟨u, hu⟩ := h.e1; rw [hu] at hr; cases hr; exact ⟨by show (-1 : Int) ≤ (n : Int); omega, Int.le_refl _⟩
   | f + 2, hr => have := h.nd (f + 2) r (by omega) hr hd; omega
theorem Inv.rho {ρ' : Nat → Nat} (h : Inv n ρ p T) (e : ∀ f, Live T f → ρ' f = ρ f) : Inv n ρ' p T :=
 ⟨h.on, h.e0, h.e1, fun f r h2 hr hd => by
   obtain ⟨a1, a2, a3, a4, a5, a6, a7⟩ := h.nd f r h2 hr hd
   rw [e f ⟨r, hr, hd⟩, e _ a4, e _ a5]
   exact ⟨a1, a2, a3, a4, a5, a6, a7⟩, h.made, h.mn, h.free, h.fn, h.us, h.dg, h.lh⟩
theorem lw_node (h : Inv n ρ p T) {f : Nat} {r : Rw} (hr : T.rows[f]? = some r) (g : Nat) (hw : 0 < lw n g r) : 2 ≤ f ∧ r.about ≠ -1 ∧ (r.low = g ∨ r.high = g) := by
 unfold lw at hw
 split at hw
 · rename_i hc
   refine ⟨?_, by omega, ?_⟩
   · match f, hr with
     | 0, hr => obtain ⟨u, hu⟩ := h.e0; rw [hu] at hr; cases hr; exact absurd hc.2 (by show ¬ (n : Int) < n; omega)
     | 1, hr => obtain ⟨u, hu⟩ := h.e1; rw [hu] at hr; cases hr; exact absurd hc.2 (by show ¬ (n : Int) < n; omega)
     | f + 2, _ => omega
   · by_cases q : r.low = g
     · exact .inl q
     · rw [if_neg q] at hw
       by_cases q2 : r.high = g
       · exact .inr q2
       · rw [if_neg q2] at hw; omega
 · omega
end
end Go.Proofs.YtaakjjefnjbabaaGreat.Sx
