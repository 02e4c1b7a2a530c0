/- Two variables change places: turn. -/
import Derived.Test.YtaakjjefnjbabaaGreatQ24
set_option maxRecDepth 100000
namespace Go.Proofs.YtaakjjefnjbabaaGreat.Sx
open Go.RowKit Go.Sort Go.Maps Go.WideMaps
section
variable {w w' : World} {tb : Nat} {L : Ly} {T T' : Tb}
theorem TAt.setI (h : TAt w tb L T) {t : Nat} (h1 : 2 ≤ t) (h2 : t ≤ 6) (ht4 : esz t = 1) {l : List Nat} (hc : T.cells t = i64C l) (hn : T.len t = l.length) {g cap i x : Nat} (hv : L.val t = .slice (some ⟨g, 0, none⟩) l.length cap) (hs : Same t T T') (hc' : T'.cells t = i64C (l.set i x)) (hn' : T'.len t = l.length) :
 TAt (w.setCell ⟨g, i, none⟩ (.int .i64 (x : Int))) tb L T' ∧ FrT L L w (w.setCell ⟨g, i, none⟩ (.int .i64 (x : Int))) := by
 have h4 := h.sl t h1 h2 trivial
 have ho : L.own g = t := h4.2 g (by rw [hv]; rfl)
 have f1 : Fr (· ≠ g) w (w.setCell ⟨g, i, none⟩ (.int .i64 (x : Int))) := (Fr.refl _ w).set (by simp) _
 refine ⟨?_, FrT.of f1 fun b _ h0 e => by rw [e, ho] at h0; omega⟩
 have hk : TAtK (· ≠ t) (w.setCell ⟨g, i, none⟩ (.int .i64 (x : Int))) tb L T := (h.mono (K := (· ≠ t))).fr fun b hb q => f1.block b hb fun e => q (by rw [e]; exact ho)
 refine ⟨hk.join (t := t) hs (by omega) ⟨fun q => absurd q (by omega), fun s _ _ q => ?_, fun q => absurd q (by omega), fun q => absurd q (by omega)⟩, fun b hb => h.hi b (by simpa using hb)⟩
 subst q
 rw [hc, hn, hv, ht4] at h4
 rw [hc', hn', hv, ht4]
 rcases h4.1.2 with ⟨e, _⟩ | ⟨g', cap', cur, e, g1, g2, g3, g5, g6, g7⟩
 · cases e
 · cases e
   refine ⟨⟨?_, .inr ⟨g, cap, _, rfl, g1, set_block g2 i _, g3, g5, by simpa using g6, ?_⟩⟩, fun b hb => by cases hb; exact ho⟩
   · have : (i64C (l.set i x)).length = (i64C l).length := by simp [i64C]
     rw [this]; exact h4.1.1
   · have e : i64C (l.set i x) = (i64C l).set i (.int .i64 (x : Int)) := by simp [i64C, List.map_set]
     rw [e, ← g7]; simp [List.take_set]
structure OrdG (w : World) (L : Ly) (T : Tb) (g cap : Nat) : Prop where
 eq : L.val 2 = .slice (some ⟨g, 0, none⟩) T.ord.length cap
 own : L.own g = 2
 lt : g < w.heap.size
 cell : ∀ (i x : Nat), T.ord[i]? = some x → w.cell? ⟨g, i, none⟩ = some (.int .i64 (x : Int))
 frz : ∀ i : Nat, w.frozen? ⟨g, i, none⟩ = false
theorem TAt.ordG (h : TAt w tb L T) (hl : T.ord ≠ []) : ∃ g cap, OrdG w L T g cap := by
 obtain ⟨g, cap, a1, a2, a3, a4, a5, _⟩ := (show OwnR w L.own 2 (ety 2) 1 (L.val 2) T.ord.length (i64C T.ord) from h.sl 2 (by omega) (by omega) trivial).ints hl
 exact ⟨g, cap, a1, a2, a3, a4, a5⟩
theorem TAt.o0 (h : TAt w tb L T) {g cap : Nat} (hg : OrdG w' L T g cap) : w.cell? ⟨tb, 0, none⟩ = some (.slice (some ⟨g, 0, none⟩) T.ord.length cap) := by
 rw [h.cell 0]; show some (L.val 2) = _; rw [hg.eq]
theorem TAt.setOrd (h : TAt w tb L T) {g cap i x : Nat} (hg : OrdG w L T g cap) : TAt (w.setCell ⟨g, i, none⟩ (.int .i64 (x : Int))) tb L { T with ord := T.ord.set i x } ∧ FrT L L w (w.setCell ⟨g, i, none⟩ (.int .i64 (x : Int))) :=
 h.setI (t := 2) (by omega) (by omega) rfl (l := T.ord) rfl rfl hg.eq ⟨fun s hs => by unfold Tb.len Tb.cells; simp [hs], fun _ => rfl, fun _ => rfl⟩ rfl (by show (T.ord.set i x).length = _; simp)
theorem TAt.setLev (h : TAt w tb L T) {g cap i x : Nat} (hg : LevG w L T g cap) : TAt (w.setCell ⟨g, i, none⟩ (.int .i64 (x : Int))) tb L { T with lev := T.lev.set i x } ∧ FrT L L w (w.setCell ⟨g, i, none⟩ (.int .i64 (x : Int))) :=
 h.setI (t := 3) (by omega) (by omega) rfl (l := T.lev) rfl rfl hg.eq ⟨fun s hs => by unfold Tb.len Tb.cells; simp [hs], fun _ => rfl, fun _ => rfl⟩ rfl (by show (T.lev.set i x).length = _; simp)
end
section
variable {w : World} {tb : Nat} {L : Ly} {T : Tb} {n : Nat} {lv : Nat → Nat} {M : Nat}
set_option maxHeartbeats 4000000 in
theorem turn_any (h : TAt w tb L T) (hB : Base n lv M { T with fresh := [] }) (hfs : T.fresh.length ≤ 274877906944) (hO : Ords n lv T) {k : Nat} (hk : k + 1 < n) {gs : List Nat} (hgs : ∀ y, Giv T y → y ∈ gs) (hroom : gs.length * 3 ^ n + 2 ≤ M) :
 Calls Tryz.prog 49 #[.pointer (some ⟨tb, 0, none⟩), .int .i64 (k : Int)] w fun e w' => e = .returned (.tuple #[]) ∧ ∃ (u l : Nat) (T' : Tb) (L' : Ly), T.ord[k]? = some u ∧ T.ord[k + 1]? = some l ∧ u < n ∧ l < n ∧ lv u = k ∧ lv l = k + 1 ∧ TAt w' tb L' T' ∧ FrT L L' w w' ∧ TurnP n lv u l k M T T' := by
 obtain ⟨u, hu, hun, hlu⟩ := hO k (by omega)
 obtain ⟨l, hl, hln, hll⟩ := hO (k + 1) hk
 have h24 := hB.mid.n24
 have hrm := hB.mid.rm
 have hrl : T.rows.length ≤ M := hB.mid.rl
 have hon : T.ord.length = n := hB.mid.t.inv.on
 have hne : T.ord ≠ [] := fun e => by rw [e] at hon; have : 0 = n := hon; omega
 obtain ⟨og, ocap, OG⟩ := h.ordG hne
 have o0 := h.o0 OG
 rw [hon] at o0
 have ck := OG.cell k u hu
 have ck1 := OG.cell (k + 1) l hl
 have hk0 : (0 : Int) ≤ (k : Int) := by omega
 have hkn : (k : Int) < (n : Int) := by omega
 have hkn1 : (k : Int) + 1 < (n : Int) := by omega
 have HX : Hid (TAt w tb L T) := h
 have HB : Hid (Base n lv M { T with fresh := [] }) := hB
 have HO : Hid (Ords n lv T) := hO
 have HGS : Hid (∀ y, Giv T y → y ∈ gs) := hgs
 have HS : Hid (TuI n lv u l k M T 0 T) := TuI.start hB hk hun hln hlu hll
 obtain ⟨g, cap, G⟩ : ∃ g cap, RowsG w L T g cap := by
  obtain ⟨u, e⟩ := hB.mid.t.inv.e0
  exact h.rowsG e
 have b2 := h.b2 G
 have mo := follows
 clear h hB hO hgs G
 go_enter Tryz.func49, Tryz.ntmps49
 go_wp2_with fail
 go_quiet (fail)
 clear o0 ck ck1
 have hcell : ∀ a, (w.drewN nq).cell? a = w.cell? a := fun _ => rfl
 rw [← hcell] at b2
 have X0 : Hid (TAt (w.drewN nq) tb L T) := HX.out.grew (Fr.grew ((Grew.refl w).drewN nq))
 have F0 : Hid (FrT L L w (w.drewN nq)) := FrT.of (Fr.grew ((Grew.refl w).drewN nq)) fun _ _ _ => trivial
 clear hcell HX
 generalize w.drewN nq = W0 at b2 X0 F0 ⊢
 obtain ⟨N, hN⟩ : ∃ N, T.rows.length = N := ⟨_, rfl⟩
 have HN : Hid (T.rows.length = N) := hN
 rw [hN] at b2 hrl
 clear hN
 go_wp2_with fail
 clear b2
 go_loopg [27] (N) (fun c s27 wr => ∃ (f : Nat) (Lj : Ly) (Tj : Tb), s27 = .int .i64 (f : Int) ∧ f + c = N ∧ Hid (TAt wr tb Lj Tj) ∧ Hid (FrT L Lj w wr) ∧ Hid (TuI n lv u l k M T f Tj))
 case atStart => exact ⟨0, L, T, rfl, by omega, X0, F0, HS⟩
 case round =>
  clear X0 F0 HS
  obtain ⟨f, Lj, Tj, rfl, hfk, X, F, I⟩ := hrel
  by_cases hj : f < N
  · obtain ⟨c, rfl⟩ : ∃ c, gk = c + 1 := ⟨gk - 1, by omega⟩
    have hfl : (f : Int) < (N : Int) := by omega
    have hf0 : (0 : Int) ≤ (f : Int) := by omega
    have hle := I.out.lenle
    rw [HN.out] at hle
    have hlen := I.out.len
    have hfr := I.out.fresh
    obtain ⟨r, hr⟩ : ∃ r, Tj.rows[f]? = some r := ⟨_, List.getElem?_eq_getElem (by omega)⟩
    obtain ⟨g, cap, G⟩ := X.out.rowsG hr
    have b2 := X.out.b2 G
    have hfj : (f : Int) < (Tj.rows.length : Int) := by omega
    have c0 := G.c0 hr
    have hky := ky_at hr
    clear G
    by_cases e : r.about = (u : Int)
    · rw [e] at c0
      have hkf : (ky Tj f).1 = (u : Int) := by rw [hky]; exact e
      by_cases hp : hasP Tj f l
      · have hcnt := I.out.cnt HGS.out
        obtain ⟨T1, low, T2, high, r2, T4, T5, hW, hP⟩ := I.out.trn.tn h24 I.out.ng (f := f) (lo := r.low) (hi := r.high) (by rw [hky]; unfold keyR; rw [e]) hp (by omega) (by omega)
        have HC : Hid (Calls _ _ _ _ _) := turnNode_any X.out I.out.trn.inv h24 hun hln (by rw [hky]; unfold keyR; rw [e]) hp (by omega) (by omega) hW
        have I2 : Hid (TuI n lv u l k M T (f + 1) T5) := I.out.step hP (by omega)
        clear hW hP hky hkf hp
        go_wp2_with fail
        refine HC.out.mono ?_
        rintro e W2 ⟨rfl, L2, hX2, hF2⟩
        have X2 : Hid (TAt W2 tb L2 T5) := hX2
        have F2 : Hid (FrT L L2 w W2) := F.out.trans hF2
        clear hX2 hF2 HC X F I b2 c0
        go_wp2_with fail
        go_roundg c
        case measure => omega
        case rel => exact ⟨f + 1, L2, T5, by simp, by omega, X2, F2, I2⟩
      · have HC : Hid (Calls _ _ _ _ _) := turnNode_skip X.out I.out.trn.inv hun hkf hp
        have I2 : Hid (TuI n lv u l k M T (f + 1) Tj) := I.out.skip fun q => hp q.2
        clear hky hkf hp
        go_wp2_with fail
        refine HC.out.mono ?_
        rintro e W2 ⟨rfl, hX2, hF2⟩
        have X2 : Hid (TAt W2 tb Lj Tj) := hX2
        have F2 : Hid (FrT L Lj w W2) := F.out.trans hF2
        clear hX2 hF2 HC X F I b2 c0
        go_wp2_with fail
        go_roundg c
        case measure => omega
        case rel => exact ⟨f + 1, Lj, Tj, by simp, by omega, X2, F2, I2⟩
    · have I2 : Hid (TuI n lv u l k M T (f + 1) Tj) := I.out.skip fun q => e (by rw [hky] at q; exact q.1)
      clear hky
      go_wp2_with fail
      go_roundg c
      case measure => omega
      case rel => exact ⟨f + 1, Lj, Tj, by simp, by omega, X, F, I2⟩
  · have hfl : ¬ (f : Int) < (N : Int) := by omega
    have hrest := I.out.rest
    have D := I.out.done HB.out HO.out (by rw [HN.out]; omega)
    have HD : Hid (TurnP n lv u l k M T { Tj with ord := (Tj.ord.set k l).set (k + 1) u, lev := (Tj.lev.set u (k + 1)).set l k, fresh := [] }) := D
    have hoj : Tj.ord = T.ord := hrest.1
    have hlj : Tj.lev = T.lev := hrest.2.1
    have hol : Tj.ord.length = n := by rw [hoj]; exact hon
    have hlv : Tj.lev.length = n + 1 := by rw [hlj]; exact HB.out.mid.ll
    have hul : u ≠ l := I.out.trn.ul
    obtain ⟨og, oc, OG⟩ := X.out.ordG (by rw [hoj]; exact hne)
    obtain ⟨lg, lc, LG⟩ := X.out.levG (fun e => by rw [e] at hlv; cases hlv)
    have hgg : og ≠ lg := fun e => by have h1 := OG.own; have h2 := LG.own; rw [e] at h1; omega
    have hgt : og ≠ tb := fun e => by have h1 := OG.own; rw [e, (X.out.st trivial).2] at h1; omega
    have hlt : lg ≠ tb := fun e => by have h1 := LG.own; rw [e, (X.out.st trivial).2] at h1; omega
    have o0 := X.out.o0 OG
    rw [hol] at o0
    have o0d : wr.drew.cell? ⟨tb, 0, none⟩ = some (.slice (some ⟨og, 0, none⟩) n oc) := o0
    have ck := OG.cell k u (by rw [hoj]; exact hu)
    have ck1 := OG.cell (k + 1) l (by rw [hoj]; exact hl)
    have ckd : wr.drew.cell? ⟨og, k, none⟩ = some (.int .i64 (u : Int)) := ck
    have ck1d : wr.drew.cell? ⟨og, k + 1, none⟩ = some (.int .i64 (l : Int)) := ck1
    have zk := OG.frz k
    have zk1 := OG.frz (k + 1)
    have zkd : wr.drew.frozen? ⟨og, k, none⟩ = false := zk
    have zk1d : wr.drew.frozen? ⟨og, k + 1, none⟩ = false := zk1
    have hkk : k ≠ k + 1 := by omega
    obtain ⟨q1, f1⟩ := X.out.setOrd (i := k) (x := l) OG
    obtain ⟨q2, f2⟩ := q1.setOrd (g := og) (cap := oc) (i := k + 1) (x := u) (by
     obtain ⟨g2, c2, O2⟩ := q1.ordG (by intro e; have := congrArg List.length e; rw [show (Tj.ord.set k l).length = _ from List.length_set, hol] at this; have : n = 0 := this; omega)
     have e := O2.eq
     rw [OG.eq] at e
     have e : Value.slice (some ⟨og, 0, none⟩) Tj.ord.length oc = .slice (some ⟨g2, 0, none⟩) (Tj.ord.set k l).length c2 := e
     rw [List.length_set] at e
     cases e
     exact O2)
    have LG2 : LevG wr Lj Tj lg lc := LG
    have X1 : Hid (TAt ((wr.setCell ⟨og, k, none⟩ (.int .i64 (l : Int))).setCell ⟨og, k + 1, none⟩ (.int .i64 (u : Int))).drew tb Lj { Tj with ord := (Tj.ord.set k l).set (k + 1) u }) := q2.drew
    have F1 : Hid (FrT L Lj w ((wr.setCell ⟨og, k, none⟩ (.int .i64 (l : Int))).setCell ⟨og, k + 1, none⟩ (.int .i64 (u : Int))).drew) := (F.out.trans (f1.trans f2)).trans (FrT.of (Fr.refl (fun _ => True) _).drew fun _ _ _ => trivial)
    have HLG : Hid (LevG wr Lj Tj lg lc) := LG
    clear q1 q2 f1 f2 LG LG2 OG D
    go_wp2_with fail
    go_big_region_o
    clear o0 o0d ck ck1 ckd ck1d zk zk1 zkd zk1d X F
    generalize ((wr.setCell ⟨og, k, none⟩ (.int .i64 (l : Int))).setCell ⟨og, k + 1, none⟩ (.int .i64 (u : Int))).drew = W1 at X1 F1 ⊢
    have LG : LevG W1 Lj { Tj with ord := (Tj.ord.set k l).set (k + 1) u } lg lc := by
     obtain ⟨g2, c2, K⟩ := X1.out.levG (fun e => by have e : Tj.lev = [] := e; rw [e] at hlv; cases hlv)
     have e := K.eq
     rw [HLG.out.eq] at e
     have e : Value.slice (some ⟨lg, 0, none⟩) Tj.lev.length lc = .slice (some ⟨g2, 0, none⟩) Tj.lev.length c2 := e
     cases e
     exact K
    have o1 := X1.out.b1 LG
    have o1 : W1.cell? ⟨tb, 1, none⟩ = some (.slice (some ⟨lg, 0, none⟩) (n + 1) lc) := by rw [← hlv]; exact o1
    have o1d : W1.drew.cell? ⟨tb, 1, none⟩ = some (.slice (some ⟨lg, 0, none⟩) (n + 1) lc) := o1
    have hla : ∀ a, a ≤ n → Tj.lev[a]? = some (lv a) := fun a ha => by rw [hlj]; exact HB.out.mid.la a ha
    have cu := LG.cell u (lv u) (hla u (by omega))
    have cl := LG.cell l (lv l) (hla l (by omega))
    have cud : W1.drew.cell? ⟨lg, u, none⟩ = some (.int .i64 (lv u : Int)) := cu
    have cld : W1.drew.cell? ⟨lg, l, none⟩ = some (.int .i64 (lv l : Int)) := cl
    have zu := LG.frz u
    have zl := LG.frz l
    have zud : W1.drew.frozen? ⟨lg, u, none⟩ = false := zu
    have zld : W1.drew.frozen? ⟨lg, l, none⟩ = false := zl
    have hu0 : (0 : Int) ≤ (u : Int) := by omega
    have hl0 : (0 : Int) ≤ (l : Int) := by omega
    have hu1 : (u : Int) < (n : Int) + 1 := by omega
    have hl1 : (l : Int) < (n : Int) + 1 := by omega
    have ek : ((k + 1 : Nat) : Int) = (k : Int) + 1 := by omega
    obtain ⟨q1, f1⟩ := X1.out.setLev (i := u) (x := k + 1) LG
    obtain ⟨q2, f2⟩ := q1.setLev (g := lg) (cap := lc) (i := l) (x := k) (by
     obtain ⟨g2, c2, O2⟩ := q1.levG (by intro e; have := congrArg List.length e; rw [show (Tj.lev.set u (k + 1)).length = _ from List.length_set, hlv] at this; cases this)
     have e := O2.eq
     rw [LG.eq] at e
     have e : Value.slice (some ⟨lg, 0, none⟩) Tj.lev.length lc = .slice (some ⟨g2, 0, none⟩) (Tj.lev.set u (k + 1)).length c2 := e
     rw [List.length_set] at e
     cases e
     exact O2)
    rw [ek] at q2 f1 f2
    have X2 : Hid (TAt ((W1.setCell ⟨lg, u, none⟩ (.int .i64 ((k : Int) + 1))).setCell ⟨lg, l, none⟩ (.int .i64 (k : Int))).drew tb Lj { Tj with ord := (Tj.ord.set k l).set (k + 1) u, lev := (Tj.lev.set u (k + 1)).set l k }) := q2.drew
    have F2 : Hid (FrT L Lj w ((W1.setCell ⟨lg, u, none⟩ (.int .i64 ((k : Int) + 1))).setCell ⟨lg, l, none⟩ (.int .i64 (k : Int))).drew) := (F1.out.trans (f1.trans f2)).trans (FrT.of (Fr.refl (fun _ => True) _).drew fun _ _ _ => trivial)
    clear q1 q2 f1 f2 LG ek hla
    go_wp2_with fail
    go_big_region_o
    clear o1 o1d cu cl cud cld zu zl zud zld X1 F1
    generalize ((W1.setCell ⟨lg, u, none⟩ (.int .i64 ((k : Int) + 1))).setCell ⟨lg, l, none⟩ (.int .i64 (k : Int))).drew = W2 at X2 F2 ⊢
    obtain ⟨fa, fc, hf6⟩ := X2.out.len 6 (by omega) (by omega)
    have c6 : W2.cell? ⟨tb, 6, none⟩ = some (.slice fa Tj.fresh.length fc) := by rw [X2.out.cell 6]; show some (Lj.val 6) = _; rw [hf6]; rfl
    obtain ⟨z6, q1, q2⟩ := X2.out.store (t := 6) (T' := { Tj with ord := (Tj.ord.set k l).set (k + 1) u, lev := (Tj.lev.set u (k + 1)).set l k, fresh := [] }) (v := .slice none 0 0) (by omega) (by omega) ⟨fun s hs => by unfold Tb.len Tb.cells; simp [hs], fun _ => rfl, fun _ => rfl⟩ ⟨World.ownsRow_nil _ _ _ _, fun g hg => by cases hg⟩
    have z6 : W2.frozen? ⟨tb, 6, none⟩ = false := z6
    have X3 : Hid (TAt (W2.setCell ⟨tb, 6, none⟩ (.slice none 0 0)) tb _ _) := q1
    have F3 : Hid (FrT L _ w (W2.setCell ⟨tb, 6, none⟩ (.slice none 0 0))) := F2.out.trans q2
    clear q1 q2 X2 F2
    go_wp2_with fail
    go_end0
    exact ⟨rfl, u, l, _, _, hu, hl, hun, hln, hlu, hll, X3.out, F3.out, HD.out⟩
set_option maxHeartbeats 1000000 in
theorem Swap_any (h : TAt w tb L T) (hB : Base n lv M T) (hO : Ords n lv T) (i : Int) {gs : List Nat} (hgs : ∀ y, Giv T y → y ∈ gs) (hroom : gs.length * 3 ^ n + 2 ≤ M) :
 Calls Tryz.prog 18 #[.pointer (some ⟨tb, 0, none⟩), .int .i64 i] w fun e w' => ((i < 0 ∨ (n : Int) ≤ i + 1) ∧ e = .returned (.bool false) ∧ w' = w) ∨ ∃ k : Nat, i = (k : Int) ∧ k + 1 < n ∧ e = .returned (.bool true) ∧ ∃ (u l : Nat) (T' : Tb) (L' : Ly), T.ord[k]? = some u ∧ T.ord[k + 1]? = some l ∧ u < n ∧ l < n ∧ lv u = k ∧ lv l = k + 1 ∧ TAt w' tb L' T' ∧ FrT L L' w w' ∧ TurnP n lv u l k M T T' := by
 have hon : T.ord.length = n := hB.mid.t.inv.on
 have h24 := hB.mid.n24
 obtain ⟨oa, oc, o0⟩ := h.b0
 rw [hon] at o0
 have mo := follows
 by_cases h0 : i < 0
 · clear h hB hO
   go_enter Tryz.func18, Tryz.ntmps18
   go_wp2_with fail
   go_ret
   exact .inl ⟨.inl h0, rfl, rfl⟩
 · obtain ⟨k, rfl⟩ : ∃ k : Nat, i = (k : Int) := ⟨i.toNat, by omega⟩
   by_cases h1 : (n : Int) - 1 ≤ (k : Int)
   · clear h hB hO
     go_enter Tryz.func18, Tryz.ntmps18
     go_wp2_with fail
     go_ret
     exact .inl ⟨.inr (by omega), rfl, rfl⟩
   · have HC : Hid (Calls _ _ _ _ _) := turn_any h hB.unfresh (by rw [hB.fresh]; simp) hO (k := k) (by omega) hgs hroom
     clear h hB hO
     go_enter Tryz.func18, Tryz.ntmps18
     go_wp2_with fail
     refine HC.out.mono ?_
     rintro e W2 ⟨rfl, hq⟩
     have HQ : Hid (∃ u, _) := hq
     clear hq HC
     go_wp2_with fail
     go_ret
     exact .inr ⟨k, rfl, by omega, rfl, HQ.out⟩
end
end Go.Proofs.YtaakjjefnjbabaaGreat.Sx
namespace Go.Proofs.YtaakjjefnjbabaaGreat.Sx
def atL (rest : List Nat) (v p : Nat) : List Nat := rest.take p ++ v :: rest.drop p
theorem atL_len {rest : List Nat} {v p : Nat} : (atL rest v p).length = rest.length + 1 := by
 unfold atL
 rw [List.length_append, List.length_cons, List.length_take, List.length_drop]; omega
theorem atL_get {rest : List Nat} {v p : Nat} (hp : p ≤ rest.length) (i : Nat) : (atL rest v p)[i]? = if i < p then rest[i]? else if i = p then some v else rest[i - 1]? := by
 have hl : (rest.take p).length = p := by rw [List.length_take]; omega
 unfold atL
 by_cases h1 : i < p
 · rw [if_pos h1, List.getElem?_append_left (by omega), List.getElem?_take, if_pos h1]
 · rw [if_neg h1, List.getElem?_append_right (by omega), hl]
   by_cases h2 : i = p
   · rw [if_pos h2, h2, Nat.sub_self]; rfl
   · rw [if_neg h2]
     obtain ⟨d, hd⟩ : ∃ d, i - p = d + 1 := ⟨i - p - 1, by omega⟩
     rw [hd, List.getElem?_cons_succ, List.getElem?_drop]
     congr 1; omega
theorem atL_at {rest : List Nat} {v p : Nat} (hp : p ≤ rest.length) : (atL rest v p)[p]? = some v := by rw [atL_get hp, if_neg (by omega), if_pos rfl]
theorem atL_up {rest : List Nat} {v p x : Nat} (hp : p < rest.length) (hx : (atL rest v p)[p + 1]? = some x) : ((atL rest v p).set p x).set (p + 1) v = atL rest v (p + 1) := by
 rw [atL_get (by omega), if_neg (by omega), if_neg (by omega), Nat.add_sub_cancel] at hx
 have hl : (atL rest v p).length = rest.length + 1 := atL_len
 refine List.ext_getElem? fun i => ?_
 rw [atL_get (by omega)]
 by_cases e1 : i = p + 1
 · subst e1
   rw [List.getElem?_set_self (by rw [List.length_set]; omega), if_neg (by omega), if_pos rfl]
 · rw [List.getElem?_set_ne (by omega)]
   by_cases e2 : i = p
   · subst e2
     rw [List.getElem?_set_self (by omega), if_pos (by omega)]
     exact hx.symm
   · rw [List.getElem?_set_ne (by omega), atL_get (by omega)]
     by_cases h : i < p
     · rw [if_pos h, if_pos (by omega)]
     · rw [if_neg h, if_neg e2, if_neg (by omega), if_neg e1]
theorem atL_down {rest : List Nat} {v p x : Nat} (hp : p < rest.length) (hx : (atL rest v (p + 1))[p]? = some x) : ((atL rest v (p + 1)).set p v).set (p + 1) x = atL rest v p := by
 rw [atL_get (by omega), if_pos (by omega)] at hx
 have hl : (atL rest v (p + 1)).length = rest.length + 1 := atL_len
 refine List.ext_getElem? fun i => ?_
 rw [atL_get (by omega)]
 by_cases e1 : i = p + 1
 · subst e1
   rw [List.getElem?_set_self (by rw [List.length_set]; omega), if_neg (by omega), if_neg (by omega)]
   exact hx.symm
 · rw [List.getElem?_set_ne (by omega)]
   by_cases e2 : i = p
   · subst e2
     rw [List.getElem?_set_self (by omega), if_neg (by omega), if_pos rfl]
   · rw [List.getElem?_set_ne (by omega), atL_get (by omega)]
     by_cases h : i < p
     · rw [if_pos h, if_pos (by omega)]
     · rw [if_neg h, if_neg e2, if_neg (by omega), if_neg e1]
theorem atL_split {l : List Nat} {v p : Nat} (h : l[p]? = some v) : l = atL (l.take p ++ l.drop (p + 1)) v p := by
 have hp := lt_of_at h
 have hl : (l.take p).length = p := by rw [List.length_take]; omega
 unfold atL
 rw [List.take_append_of_le_length (by omega), List.take_take, Nat.min_self, List.drop_append_of_le_length (by omega), List.drop_eq_nil_of_le (by omega), List.nil_append]
 have : l[p] = v := by rw [List.getElem?_eq_getElem hp] at h; exact Option.some.inj h
 rw [← this, ← List.drop_eq_getElem_cons hp, List.take_append_drop]
structure MvP (n M : Nat) (T0 : Tb) (rest : List Nat) (i p : Nat) (lv : Nat → Nat) (T : Tb) : Prop where
 base : Base n lv M { T with fresh := [] }
 fr : T.fresh.length ≤ 274877906944
 ords : Ords n lv T
 ord : T.ord = atL rest i p
 pn : p < n
 giv : ∀ y, Giv T0 y → Giv T y ∧ vl n T y = vl n T0 y
 only : ∀ y, Giv T y → Giv T0 y
 fre : T0.fresh = [] → T.fresh = []
section
variable {n M : Nat} {T0 T T' : Tb} {rest : List Nat} {i p : Nat} {lv : Nat → Nat}
theorem MvP.rl (h : MvP n M T0 rest i p lv T) : rest.length + 1 = n := by
 have h1 : T.ord.length = n := h.base.mid.t.inv.on
 rw [h.ord, atL_len] at h1
 exact h1
theorem MvP.lvi (h : MvP n M T0 rest i p lv T) : lv i = p ∧ i < n := by
 obtain ⟨v, h1, h2, h3⟩ := h.ords p h.pn
 have := h.rl
 have := h.pn
 rw [h.ord, atL_at (by omega)] at h1
 cases h1
 exact ⟨h3, h2⟩
theorem MvP.up (h : MvP n M T0 rest i p lv T) {u l : Nat} (hp : p + 1 < n) (hu : T.ord[p]? = some u) (hl : T.ord[p + 1]? = some l) (ht : TurnP n lv u l p M T T') : MvP n M T0 rest i (p + 1) (swapL lv u l) T' := by
 have hr := h.rl
 have ho := ht.ord
 rw [h.ord] at hu hl ho
 rw [atL_at (by omega)] at hu
 cases hu
 rw [atL_up (by omega) hl] at ho
 refine ⟨ht.base.unfresh, by rw [ht.base.fresh]; simp, ht.ords, ho, hp, fun y hy => ?_, fun y hy => h.only y (ht.only y hy), fun _ => ht.base.fresh⟩
 obtain ⟨a, b⟩ := h.giv y hy
 obtain ⟨c, d⟩ := ht.giv y a
 exact ⟨c, d.trans b⟩
theorem MvP.down (h : MvP n M T0 rest i (p + 1) lv T) {u l : Nat} (hu : T.ord[p]? = some u) (hl : T.ord[p + 1]? = some l) (ht : TurnP n lv u l p M T T') : MvP n M T0 rest i p (swapL lv u l) T' := by
 have hr := h.rl
 have hpn := h.pn
 have ho := ht.ord
 rw [h.ord] at hu hl ho
 rw [atL_at (by omega)] at hl
 cases hl
 rw [atL_down (by omega) hu] at ho
 refine ⟨ht.base.unfresh, by rw [ht.base.fresh]; simp, ht.ords, ho, by omega, fun y hy => ?_, fun y hy => h.only y (ht.only y hy), fun _ => ht.base.fresh⟩
 obtain ⟨a, b⟩ := h.giv y hy
 obtain ⟨c, d⟩ := ht.giv y a
 exact ⟨c, d.trans b⟩
theorem MvP.start (hB : Base n lv M { T with fresh := [] }) (hf : T.fresh.length ≤ 274877906944) (hO : Ords n lv T) (hp : p < n) (hi : T.ord[p]? = some i) : MvP n M T (T.ord.take p ++ T.ord.drop (p + 1)) i p lv T :=
 ⟨hB, hf, hO, atL_split hi, hp, fun _ h => ⟨h, rfl⟩, fun _ h => h, fun h => h⟩
end
end Go.Proofs.YtaakjjefnjbabaaGreat.Sx
namespace Go.Proofs.YtaakjjefnjbabaaGreat.Sx
open Go.RowKit Go.Sort Go.Maps Go.WideMaps
section
variable {w : World} {tb : Nat} {L : Ly} {T : Tb} {n : Nat} {lv : Nat → Nat} {M : Nat}
set_option maxHeartbeats 4000000 in
theorem move_any {T0 : Tb} {rest : List Nat} {i p q : Nat} (h : TAt w tb L T) (hm : MvP n M T0 rest i p lv T) (hq : q < n) {gs : List Nat} (hgs : ∀ y, Giv T0 y → y ∈ gs) (hroom : gs.length * 3 ^ n + 2 ≤ M) :
 Calls Tryz.prog 52 #[.pointer (some ⟨tb, 0, none⟩), .int .i64 (i : Int), .int .i64 (q : Int)] w fun e w' => e = .returned (.tuple #[]) ∧ ∃ (lv' : Nat → Nat) (T' : Tb) (L' : Ly), TAt w' tb L' T' ∧ FrT L L' w w' ∧ MvP n M T0 rest i q lv' T' := by
 have h24 := hm.base.mid.n24
 have HX : Hid (TAt w tb L T) := h
 have HM : Hid (MvP n M T0 rest i p lv T) := hm
 have HGS : Hid (∀ y, Giv T0 y → y ∈ gs) := hgs
 have hin := hm.lvi.2
 have hpn := hm.pn
 have mo := follows
 have hi0 : (0 : Int) ≤ (i : Int) := by omega
 have hi1 : (i : Int) < (n : Int) + 1 := by omega
 have key : ∀ {wr Lj Tj lvj pj}, TAt wr tb Lj Tj → MvP n M T0 rest i pj lvj Tj → ∃ lg lc, wr.cell? ⟨tb, 1, none⟩ = some (.slice (some ⟨lg, 0, none⟩) (n + 1) lc) ∧ wr.cell? ⟨lg, i, none⟩ = some (.int .i64 (pj : Int)) := fun {wr Lj Tj lvj pj} X m => by
  have hll : Tj.lev.length = n + 1 := m.base.mid.ll
  obtain ⟨lg, lc, LG⟩ := X.levG (fun e => by rw [e] at hll; cases hll)
  refine ⟨lg, lc, ?_, ?_⟩
  · have := X.b1 LG; rw [← hll]; exact this
  · have hl : Tj.lev[i]? = some (lvj i) := m.base.mid.la i (by omega)
    rw [m.lvi.1] at hl
    exact LG.cell i pj hl
 have turn : ∀ {wr Lj Tj lvj pj k}, TAt wr tb Lj Tj → MvP n M T0 rest i pj lvj Tj → k + 1 < n → Hid (Calls Tryz.prog 49 #[.pointer (some ⟨tb, 0, none⟩), .int .i64 (k : Int)] wr fun e w' => e = .returned (.tuple #[]) ∧ ∃ (u l : Nat) (T' : Tb) (L' : Ly), Tj.ord[k]? = some u ∧ Tj.ord[k + 1]? = some l ∧ u < n ∧ l < n ∧ lvj u = k ∧ lvj l = k + 1 ∧ TAt w' tb L' T' ∧ FrT Lj L' wr w' ∧ TurnP n lvj u l k M Tj T') := fun X m hk =>
  turn_any X m.base m.fr m.ords hk (gs := gs) (fun y hy => hgs y (m.only y hy)) hroom
 have KEY : Hid (∀ {wr Lj Tj lvj pj}, TAt wr tb Lj Tj → MvP n M T0 rest i pj lvj Tj → ∃ lg lc, wr.cell? ⟨tb, 1, none⟩ = some (.slice (some ⟨lg, 0, none⟩) (n + 1) lc) ∧ wr.cell? ⟨lg, i, none⟩ = some (.int .i64 (pj : Int))) := key
 have TURN : Hid (∀ {wr Lj Tj lvj pj k}, TAt wr tb Lj Tj → MvP n M T0 rest i pj lvj Tj → k + 1 < n → Hid (Calls Tryz.prog 49 #[.pointer (some ⟨tb, 0, none⟩), .int .i64 (k : Int)] wr fun e w' => e = .returned (.tuple #[]) ∧ ∃ (u l : Nat) (T' : Tb) (L' : Ly), Tj.ord[k]? = some u ∧ Tj.ord[k + 1]? = some l ∧ u < n ∧ l < n ∧ lvj u = k ∧ lvj l = k + 1 ∧ TAt w' tb L' T' ∧ FrT Lj L' wr w' ∧ TurnP n lvj u l k M Tj T')) := turn
 clear key turn h hm hgs hroom
 go_enter Tryz.func52, Tryz.ntmps52
 go_wp2_with fail
 go_loopg [] (p) (fun c wr => ∃ (pj : Nat) (lvj : Nat → Nat) (Lj : Ly) (Tj : Tb), pj ≤ q + c ∧ Hid (TAt wr tb Lj Tj) ∧ Hid (FrT L Lj w wr) ∧ Hid (MvP n M T0 rest i pj lvj Tj))
 case atStart => exact ⟨p, lv, L, T, by omega, HX, FrT.refl _ _, HM⟩
 case round =>
  clear HX HM
  obtain ⟨pj, lvj, Lj, Tj, hpj, X, F, Mj⟩ := hrel
  obtain ⟨lg, lc, b1, cl⟩ := KEY.out X.out Mj.out
  have hpn2 := Mj.out.pn
  by_cases hq2 : q < pj
  · obtain ⟨c, rfl⟩ : ∃ c, gk = c + 1 := ⟨gk - 1, by omega⟩
    obtain ⟨k, rfl⟩ : ∃ k, pj = k + 1 := ⟨pj - 1, by omega⟩
    have hq3 : (q : Int) < ((k + 1 : Nat) : Int) := by omega
    have hq4 : (q : Int) < (k : Int) + 1 := by omega
    have HC := TURN.out (k := k) X.out Mj.out hpn2
    go_wp2_with fail
    refine HC.out.mono ?_
    rintro e W2 ⟨rfl, u, l, T2, L2, hu, hl, -, -, -, -, hX2, hF2, hT2⟩
    have X2 : Hid (TAt W2 tb L2 T2) := hX2
    have F2 : Hid (FrT L L2 w W2) := F.out.trans hF2
    have M2 : Hid (MvP n M T0 rest i k (swapL lvj u l) T2) := Mj.out.down hu hl hT2
    clear hX2 hF2 hT2 HC X F Mj b1 cl
    go_wp2_with fail
    go_roundg c
    case measure => omega
    case rel => exact ⟨k, _, L2, T2, by omega, X2, F2, M2⟩
  · have hq3 : ¬ (q : Int) < (pj : Int) := by omega
    go_wp2_with fail
    clear b1 cl
    go_loopg [] (q) (fun c wr => ∃ (pj : Nat) (lvj : Nat → Nat) (Lj : Ly) (Tj : Tb), pj ≤ q ∧ q ≤ pj + c ∧ Hid (TAt wr tb Lj Tj) ∧ Hid (FrT L Lj w wr) ∧ Hid (MvP n M T0 rest i pj lvj Tj))
    case atStart => exact ⟨pj, lvj, Lj, Tj, by omega, by omega, X, F, Mj⟩
    case round =>
     clear X F Mj
     obtain ⟨pj, lvj, Lj, Tj, hpq, hpj, X, F, Mj⟩ := hrel
     obtain ⟨lg, lc, b1, cl⟩ := KEY.out X.out Mj.out
     by_cases hq5 : pj < q
     · obtain ⟨c, rfl⟩ : ∃ c, gk = c + 1 := ⟨gk - 1, by omega⟩
       have hq6 : (pj : Int) < (q : Int) := by omega
       have HC := TURN.out (k := pj) X.out Mj.out (by omega)
       go_wp2_with fail
       refine HC.out.mono ?_
       rintro e W2 ⟨rfl, u, l, T2, L2, hu, hl, -, -, -, -, hX2, hF2, hT2⟩
       have X2 : Hid (TAt W2 tb L2 T2) := hX2
       have F2 : Hid (FrT L L2 w W2) := F.out.trans hF2
       have M2 : Hid (MvP n M T0 rest i (pj + 1) (swapL lvj u l) T2) := Mj.out.up (by omega) hu hl hT2
       clear hX2 hF2 hT2 HC X F Mj b1 cl
       go_wp2_with fail
       go_roundg c
       case measure => omega
       case rel => exact ⟨pj + 1, _, L2, T2, by omega, by omega, X2, F2, M2⟩
     · obtain rfl : pj = q := by omega
       have hq6 : ¬ (pj : Int) < (pj : Int) := by omega
       go_wp2_with fail
       go_end0
       exact ⟨rfl, lvj, Tj, Lj, X.out, F.out, Mj.out⟩
end
end Go.Proofs.YtaakjjefnjbabaaGreat.Sx
namespace Go.Proofs.YtaakjjefnjbabaaGreat.Sx
open Go.RowKit Go.Sort Go.Maps Go.WideMaps
def bestP (sz : Nat → Nat) : Nat → Nat × Nat
 | 0 => (sz 0, 0)
 | k + 1 => if sz (k + 1) < (bestP sz k).1 then (sz (k + 1), k + 1) else bestP sz k
theorem bestP_le (sz : Nat → Nat) : ∀ k, (bestP sz k).2 ≤ k
 | 0 => Nat.le_refl _
 | k + 1 => by
   unfold bestP
   split
   · exact Nat.le_refl _
   · exact Nat.le_succ_of_le (bestP_le sz k)
section
variable {w : World} {tb : Nat} {L : Ly} {T : Tb} {n : Nat} {lv : Nat → Nat} {M : Nat}
set_option maxHeartbeats 4000000 in
theorem settle_any {T0 : Tb} {rest : List Nat} {i p : Nat} (h : TAt w tb L T) (hm : MvP n M T0 rest i p lv T) {gs : List Nat} (hgs : ∀ y, Giv T0 y → y ∈ gs) (hroom : gs.length * 3 ^ n + 2 ≤ M) {sz : Nat → Nat} (hsz : ∀ q lv' T', MvP n M T0 rest i q lv' T' → T'.made.length = sz q) :
 Calls Tryz.prog 53 #[.pointer (some ⟨tb, 0, none⟩), .int .i64 (i : Int)] w fun e w' => e = .returned (.int .i64 ((bestP sz (n - 1)).2 : Int)) ∧ ∃ (lv' : Nat → Nat) (T' : Tb) (L' : Ly), TAt w' tb L' T' ∧ FrT L L' w w' ∧ MvP n M T0 rest i (bestP sz (n - 1)).2 lv' T' := by
 have h24 := hm.base.mid.n24
 have hpn := hm.pn
 have HC0 : Hid (Calls _ _ _ _ _) := move_any (q := 0) h hm (by omega) hgs hroom
 have HGS : Hid (∀ y, Giv T0 y → y ∈ gs) := hgs
 have HRM : Hid (gs.length * 3 ^ n + 2 ≤ M) := hroom
 have HSZ : Hid (∀ q lv' T', MvP n M T0 rest i q lv' T' → T'.made.length = sz q) := hsz
 have mo := follows
 clear h hm hgs hroom hsz
 go_enter Tryz.func53, Tryz.ntmps53
 go_wp2_with fail
 refine HC0.out.mono ?_
 rintro e W1 ⟨rfl, lv1, T1, L1, hX1, hF1, hM1⟩
 have X1 : Hid (TAt W1 tb L1 T1) := hX1
 have F1 : Hid (FrT L L1 w W1) := hF1
 have M1 : Hid (MvP n M T0 rest i 0 lv1 T1) := hM1
 have b4 := X1.out.b4
 have l1 := (X1.out.md trivial).1.len Tryz.underlying77 3
 rw [show (madeL T1.made).length = sz 0 by rw [← HSZ.out 0 lv1 T1 hM1]; simp [madeL]] at l1
 clear hX1 hF1 hM1 HC0
 go_wp2_with fail
 clear b4 l1
 go_loopg [7, 6, 5] (n) (fun c s7 s6 s5 wr => ∃ (k : Nat) (qj : Nat) (lvj : Nat → Nat) (Lj : Ly) (Tj : Tb), s7 = .int .i64 ((k + 1 : Nat) : Int) ∧ s5 = .int .i64 ((bestP sz k).1 : Int) ∧ s6 = .int .i64 ((bestP sz k).2 : Int) ∧ k + 1 + c = n + 1 ∧ k + 1 ≤ n ∧ Hid (TAt wr tb Lj Tj) ∧ Hid (FrT L Lj w wr) ∧ Hid (MvP n M T0 rest i qj lvj Tj))
 case atStart => exact ⟨0, 0, lv1, L1, T1, rfl, rfl, rfl, by omega, by omega, X1, F1, M1⟩
 case round =>
  clear X1 F1 M1
  obtain ⟨k, qj, lvj, Lj, Tj, rfl, rfl, rfl, hkc, hkn, X, F, Mj⟩ := hrel
  have hon : Tj.ord.length = n := Mj.out.base.mid.t.inv.on
  obtain ⟨oa, oc, o0⟩ := X.out.b0
  rw [hon] at o0
  by_cases hk : k + 1 < n
  · obtain ⟨c, rfl⟩ : ∃ c, gk = c + 1 := ⟨gk - 1, by omega⟩
    have hk2 : (k : Int) + 1 < (n : Int) := by omega
    have HC : Hid (Calls _ _ _ _ _) := move_any (q := k + 1) X.out Mj.out hk HGS.out HRM.out
    go_wp2_with fail
    refine HC.out.mono ?_
    rintro e W2 ⟨rfl, lv2, T2, L2, hX2, hF2, hM2⟩
    have X2 : Hid (TAt W2 tb L2 T2) := hX2
    have F2 : Hid (FrT L L2 w W2) := F.out.trans hF2
    have M2 : Hid (MvP n M T0 rest i (k + 1) lv2 T2) := hM2
    have b4 := X2.out.b4
    have l1 := (X2.out.md trivial).1.len Tryz.underlying77 3
    rw [show (madeL T2.made).length = sz (k + 1) by rw [← HSZ.out _ lv2 T2 hM2]; simp [madeL]] at l1
    clear hX2 hF2 hM2 HC X F Mj o0
    by_cases hs : sz (k + 1) < (bestP sz k).1
    · have hs2 : (sz (k + 1) : Int) < ((bestP sz k).1 : Int) := by omega
      have HB : Hid (bestP sz (k + 1) = (sz (k + 1), k + 1)) := by show (if _ then _ else _) = _; rw [if_pos hs]
      go_wp2_with fail
      go_roundg c
      case measure => omega
      case rel => exact ⟨k + 1, k + 1, lv2, L2, T2, by simp, by rw [HB.out], by rw [HB.out]; simp, by omega, by omega, X2, F2, M2⟩
    · have hs2 : ¬ (sz (k + 1) : Int) < ((bestP sz k).1 : Int) := by omega
      have HB : Hid (bestP sz (k + 1) = bestP sz k) := by show (if _ then _ else _) = _; rw [if_neg hs]
      go_wp2_with fail
      go_roundg c
      case measure => omega
      case rel => exact ⟨k + 1, k + 1, lv2, L2, T2, by simp, by rw [HB.out], by rw [HB.out], by omega, by omega, X2, F2, M2⟩
  · have hk2 : ¬ (k : Int) + 1 < (n : Int) := by omega
    obtain ⟨m, rfl⟩ : ∃ m, n = m + 1 := ⟨n - 1, by omega⟩
    obtain rfl : k = m := by omega
    have hb := bestP_le sz k
    have HC : Hid (Calls _ _ _ _ _) := move_any (q := (bestP sz k).2) X.out Mj.out (by omega) HGS.out HRM.out
    go_wp2_with fail
    refine HC.out.mono ?_
    rintro e W2 ⟨rfl, lv2, T2, L2, hX2, hF2, hM2⟩
    have X2 : Hid (TAt W2 tb L2 T2) := hX2
    have F2 : Hid (FrT L L2 w W2) := F.out.trans hF2
    have M2 : Hid (MvP (k + 1) M T0 rest i (bestP sz k).2 lv2 T2) := hM2
    clear hX2 hF2 hM2 HC X F Mj o0
    go_wp2_with fail
    go_ret
    exact ⟨rfl, lv2, T2, L2, X2.out, F2.out, M2.out⟩
end
end Go.Proofs.YtaakjjefnjbabaaGreat.Sx
