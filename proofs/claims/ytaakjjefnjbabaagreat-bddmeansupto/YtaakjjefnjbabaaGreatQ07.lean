/- One function or another: whatever it comes to. -/
import Derived.Test.YtaakjjefnjbabaaGreatQ06
set_option maxRecDepth 100000
namespace Go.Proofs.YtaakjjefnjbabaaGreat.Sx
open Go.RowKit Go.Sort Go.Maps Go.WideMaps
set_option maxHeartbeats 2000000 in
theorem ite_found (w : World) (tb : Nat) (L : Ly) (T : Tb) (f0 f1 f2 x : Nat) (h : TAt w tb L T) (hs0 : Sm f0) (hs1 : Sm f1) (hs2 : Sm f2) (hn : iteT f0 f1 f2 = none) (hx : ((f0, f1, f2), x) ∈ T.found) :
 Calls Tryz.prog 65 #[.pointer (some ⟨tb, 0, none⟩), .int .i64 (f0 : Int), .int .i64 (f1 : Int), .int .i64 (f2 : Int)] w fun e w' => Post w tb L x T e w' := by
 have mo := follows
 unfold iteT at hn
 by_cases h1 : f0 = 1
 · simp [h1] at hn
 by_cases h2 : f0 = 0
 · simp [h2] at hn
 by_cases h3 : f1 = f2
 · simp [h1, h2, h3] at hn
 by_cases h4 : f1 = 1 ∧ f2 = 0
 · simp [h1, h2, h4] at hn
 clear hn
 have n1 : ((f0 : Int) == 1) = false := by simp; omega
 have n2 : ((f0 : Int) == 0) = false := by simp; omega
 have n3 : ((f1 : Int) == (f2 : Int)) = false := by simp; omega
 have hk := keyT hs0.fits hs1.fits hs2.fits
 have HKEY : Hid (Key 115 (.agg #[.int .i64 (f0 : Int), .int .i64 (f1 : Int), .int .i64 (f2 : Int)])) := hk
 have HG : Hid (TAt (w.alloc (.cells #[.int .i64 (f0 : Int), .int .i64 (f1 : Int), .int .i64 (f2 : Int)] 115)) tb L T) := h.alloc _
 have HF : Hid (FrT L L w (w.alloc (.cells #[.int .i64 (f0 : Int), .int .i64 (f1 : Int), .int .i64 (f2 : Int)] 115))) := FrT.of ((Fr.refl (fun _ => True) w).alloc _) fun _ _ _ => trivial
 have HB : Hid ((w.alloc (.cells #[.int .i64 (f0 : Int), .int .i64 (f1 : Int), .int .i64 (f2 : Int)] 115)).heap[w.heap.size]? = some (.cells #[.int .i64 (f0 : Int), .int .i64 (f1 : Int), .int .i64 (f2 : Int)] 115 (0, 0))) := heap_new rfl
 have HX : Hid (((f0, f1, f2), x) ∈ T.found) := hx
 clear h hk hs0 hs1 hs2 hx
 go_enter Tryz.func65, Tryz.ntmps65
 go_upto_region 7 with fail
 go_cut [31] (fun s wc => s = .bool false ∧ w = wc)
 case first =>
  by_cases q : f1 = 1
  · subst q
    have n5 : ((f2 : Int) == 0) = false := by
     have : f2 ≠ 0 := fun e => h4 ⟨rfl, e⟩
     simp; omega
    go_wp2_with fail
    go_meet
    case rel => exact ⟨rfl, rfl⟩
  · have n5 : ((f1 : Int) == 1) = false := by simp; omega
    go_wp2_with fail
    go_meet
    case rel => exact ⟨rfl, rfl⟩
 case rest =>
  obtain ⟨rfl, rfl⟩ := hcut
  go_upto_region 10 with fail
  generalize (w.alloc (.cells #[.int .i64 (f0 : Int), .int .i64 (f1 : Int), .int .i64 (f2 : Int)] 115)) = W at HG HF HB ⊢
  obtain ⟨ba, hba⟩ : ∃ ba, w.heap.size = ba := ⟨_, rfl⟩
  rw [hba] at HB ⊢
  clear hba
  have HGd : Hid (TAt W.drew tb L T) := HG.out.drew
  have HBd : Hid (W.drew.heap[ba]? = _) := HB.out
  have HFd : Hid (FrT L L w W.drew) := HF.out.trans (fr_drew L W)
  have huv : ∀ p ∈ foundL T.found, p.1 = triV (f0, f1, f2) → p.2 = .int .i64 (x : Int) := by
   intro p hp q
   obtain ⟨⟨k, y⟩, hy, rfl⟩ := List.mem_map.1 hp
   have e : k = (f0, f1, f2) := triV_inj q
   subst e
   rw [nodup_fst (HG.out.fd trivial).2.2 hy HX.out]
  have m1 := (HG.out.fd trivial).1.hit lawT Tryz.underlying78 HKEY.out (foundL_mem HX.out) huv true
  have m1d := (HGd.out.fd trivial).1.hit lawT Tryz.underlying78 HKEY.out (foundL_mem HX.out) huv true
  rw [if_pos rfl] at m1 m1d
  have b5 := HG.out.b5
  have b5d := HGd.out.b5
  have c0 := block_cell HB.out 0
  have c1 := block_cell HB.out 1
  have c2 := block_cell HB.out 2
  have c0d := block_cell HBd.out 0
  have c1d := block_cell HBd.out 1
  have c2d := block_cell HBd.out 2
  clear huv
  go_big_region_o
  clear c0 c1 c2 c0d c1d c2d b5 b5d m1 m1d HG HF HB
  go_wp2_with fail
  go_ret
  exact ⟨rfl, L, HGd.out, HFd.out⟩
theorem ite_ok : ∀ m, IteOK m := by
 intro m
 induction m with
 | zero =>
   intro w tb L T n lv M A f g h hT hm hf hg hh k0 k1 k2 hroom
   have hfe : rk lv T f = n := by have := hm.t.rle f hf; omega
   have : ∃ x, iteT f g h = some x := by
    rcases hm.t.last hf hfe with rfl | rfl
    · exact ⟨h, by unfold iteT; rw [if_neg (by decide), if_pos rfl]⟩
    · exact ⟨g, by unfold iteT; rw [if_pos rfl]⟩
   obtain ⟨x, hx⟩ := this
   refine (ite_triv w _ f g h x hx).mono ?_
   rintro e w' ⟨rfl, rfl⟩
   exact ⟨x, T, IteP.triv 0 hm hf hg hh hx, rfl, L, hT, FrT.refl _ _⟩
 | succ m ih =>
   intro w tb L T n lv M A f g h hT hm hf hg hh k0 k1 k2 hroom
   cases hx : iteT f g h with
   | some x =>
     refine (ite_triv w _ f g h x hx).mono ?_
     rintro e w' ⟨rfl, rfl⟩
     exact ⟨x, T, IteP.triv (m + 1) hm hf hg hh hx, rfl, L, hT, FrT.refl _ _⟩
   | none =>
     by_cases hk : ∃ q ∈ T.found, q.1 = (f, g, h)
     · obtain ⟨⟨k, x⟩, hq, rfl⟩ := hk
       have hrl := hm.rl
       have hrm := hm.rm
       refine (ite_found w tb L T f g h x hT (by have := hf.lt; unfold Sm; omega) (by have := hg.lt; unfold Sm; omega) (by have := hh.lt; unfold Sm; omega) hx hq).mono ?_
       rintro e w' hp
       exact ⟨x, T, IteP.found (m + 1) hm hq, hp⟩
     · exact ite_main ih w tb L T n lv M A f g h hT hm hf hg hh k0 k1 k2 hroom hx fun q hq e => hk ⟨q, hq, e⟩
end Go.Proofs.YtaakjjefnjbabaaGreat.Sx
namespace Go.Proofs.YtaakjjefnjbabaaGreat.Sx
structure Base (n : Nat) (lv : Nat → Nat) (M : Nat) (T : Tb) : Prop where
 mid : Mid n lv M (T.rows.length - T.free.length) T
 fresh : T.fresh = []
 found : T.found = []
structure Out (n : Nat) (lv : Nat → Nat) (M : Nat) (T : Tb) (x : Nat) (F : (Nat → Bool) → Bool) (T' : Tb) : Prop where
 base : Base n lv M T'
 keep : ∀ y, Giv T y → Giv T' y ∧ vl n T' y = vl n T y
 giv : Giv T' x
 val : vl n T' x = F
 only : ∀ y, Giv T' y → Giv T y ∨ y = x
 ord : T'.ord = T.ord
structure LI (n : Nat) (ρ : Nat → Nat) (l : List Nat) (T : Tb) : Prop where
 inv : Inv n ρ z0 T
 nd : l.Nodup
 lv : ∀ x ∈ l, 2 ≤ x ∧ Live T x
 ng : NG (· ∈ l) T
 fo : ∀ (y : Nat) (r : Rw), 2 ≤ y → T.rows[y]? = some r → r.about ≠ -1 → ∀ j : Nat, (l[j]? = some r.low ∨ l[j]? = some r.high) → ∃ i : Nat, l[i]? = some y ∧ j < i
theorem drops_plain {n : Nat} {ρ : Nat → Nat} (hn : n ≤ 24) : ∀ (l : List Nat) (T : Tb), LI n ρ l T → (∀ x, Live T x → ρ x ≤ n) → T.rows.length ≤ 549755813888 → (∀ r ∈ T.rows, Sm r.users) → ∃ T', DropsAll l T T' ∧ Inv n ρ z0 T' ∧ Less T T' ∧ NG (fun _ => False) T'
 | [], T, h, _, _, _ => ⟨T, rfl, h.inv, Less.refl T, h.ng.mono fun x hx => absurd hx (by simp)⟩
 | x :: l, T, h, hB, hl, hu => by
   obtain ⟨T1, D1, P1⟩ := drop_plain hn n n T x z0 h.inv (h.lv x (by simp)).2 hB (by omega) hl hu
   have hnd := List.nodup_cons.1 h.nd
   have hup : Up (· ∈ l) T := fun y r h2 hr hd hy => by
    have key : ∀ g, (g = r.low ∨ g = r.high) → g ∉ l := fun g hg hm => by
     obtain ⟨j, hj⟩ := List.getElem?_of_mem hm
     have hj1 : (x :: l)[j + 1]? = some g := by simpa using hj
     obtain ⟨i, hi, hji⟩ := h.fo y r h2 hr hd (j + 1) (by rcases hg with e | e <;> rw [← e]; exact .inl hj1; exact .inr hj1)
     match i, hi with
     | 0, _ => omega
     | i + 1, hi => exact hy (List.mem_of_getElem? (by simpa using hi))
    exact ⟨key _ (.inl rfl), key _ (.inr rfl)⟩
   have hprot := P1.prot (· ∈ l) hnd.1 hup
   have hLI : LI n ρ l T1 := by
    refine ⟨P1.inv, hnd.2, fun y hy => ?_, (P1.ng _ h.ng).mono fun y hy => ?_, fun y r h2 hr hd j hj => ?_⟩
    · obtain ⟨a, r, hr, hd⟩ := h.lv y (by simp [hy])
      exact ⟨a, r, hprot y r hy hr, hd⟩
    · rcases List.mem_cons.1 hy.1 with e | e
      · exact absurd e hy.2
      · exact e
    · obtain ⟨q, h1, e1, e2, e3, _⟩ := P1.less.keep y r hr hd
      obtain ⟨i, hi, hji⟩ := h.fo y q h2 h1 (by rw [e1]; exact hd) (j + 1) (by rw [e2, e3]; simpa using hj)
      match i, hi with
      | 0, _ => omega
      | i + 1, hi => exact ⟨i, by simpa using hi, by omega⟩
   obtain ⟨T', D2, I2, L2, N2⟩ := drops_plain hn l T1 hLI (fun y hy => hB y (P1.less.live hy)) (by rw [P1.less.len]; exact hl) (P1.less.smU hu)
   exact ⟨T', ⟨n + 1, T1, D1, D2⟩, I2, P1.less.trans L2, N2⟩
section
variable {n : Nat} {lv : Nat → Nat} {M A : Nat} {T : Tb}
theorem Inv.givn {ρ p : Nat → Nat} (h : Inv n ρ p T) {f : Nat} {r : Rw} (hr : T.rows[f]? = some r) (hd : r.about ≠ -1) : Inv n ρ p { T with rows := T.rows.set f { r with given := true } } := by
 have hfl := lt_of_at hr
 have hget : ∀ x, x ≠ f → (T.rows.set f { r with given := true })[x]? = T.rows[x]? := fun x hx => by rw [List.getElem?_set_ne (Ne.symm hx)]
 have hgf : (T.rows.set f { r with given := true })[f]? = some { r with given := true } := by rw [List.getElem?_set_self hfl]
 have hfrom : ∀ (x : Nat) (z : Rw), (T.rows.set f { r with given := true })[x]? = some z → ∃ z' : Rw, T.rows[x]? = some z' ∧ z.about = z'.about ∧ z.low = z'.low ∧ z.high = z'.high ∧ z.users = z'.users ∧ (z.given = z'.given ∨ x = f) := fun x z hz => by
  by_cases e : x = f
  · subst e; rw [hgf] at hz; cases hz; exact ⟨r, hr, rfl, rfl, rfl, rfl, .inr rfl⟩
  · rw [hget x e] at hz; exact ⟨z, hz, rfl, rfl, rfl, rfl, .inl rfl⟩
 have hto : ∀ (x : Nat) (z : Rw), T.rows[x]? = some z → ∃ z' : Rw, (T.rows.set f { r with given := true })[x]? = some z' ∧ z'.about = z.about ∧ z'.low = z.low ∧ z'.high = z.high := fun x z hz => by
  by_cases e : x = f
  · subst e; rw [hr] at hz; cases hz; exact ⟨_, hgf, rfl, rfl, rfl⟩
  · exact ⟨z, by rw [hget x e]; exact hz, rfl, rfl, rfl⟩
 have hlive : ∀ x, Live T x → Live { T with rows := T.rows.set f { r with given := true } } x := fun x ⟨z, hz, hl⟩ => by
  obtain ⟨z', h1, h2, _⟩ := hto x z hz
  exact ⟨z', h1, by rw [h2]; exact hl⟩
 have hln : ∀ x, lnk n (T.rows.set f { r with given := true }) x = lnk n T.rows x := fun x => by
  have := lnk_set (n := n) x { r with given := true } hr
  have e : lw n x { r with given := true } = lw n x r := rfl
  omega
 refine ⟨h.on, ?_, ?_, ?_, ?_, h.mn, ?_, h.fn, ?_, ?_, ?_⟩
 · obtain ⟨u, e⟩ := h.e0
   by_cases q : 0 = f
   · subst q; rw [hr] at e; cases e; exact ⟨u, hgf⟩
   · exact ⟨u, by show (T.rows.set f _)[0]? = _; rw [hget 0 q]; exact e⟩
 · obtain ⟨u, e⟩ := h.e1
   by_cases q : 1 = f
   · subst q; rw [hr] at e; cases e; exact ⟨u, hgf⟩
   · exact ⟨u, by show (T.rows.set f _)[1]? = _; rw [hget 1 q]; exact e⟩
 · intro x z hx hz hl
   obtain ⟨z', h1, h2, h3, h4, _⟩ := hfrom x z hz
   rw [h2] at hl ⊢
   rw [h3, h4]
   obtain ⟨a1, a2, a3, a4, a5, a6, a7⟩ := h.nd x z' hx h1 hl
   exact ⟨a1, a2, a3, hlive _ a4, hlive _ a5, a6, a7⟩
 · intro k x
   show (k, x) ∈ T.made ↔ _
   rw [h.made k x]
   constructor
   · rintro ⟨hx, z, hz, hl, e⟩
     obtain ⟨z', h1, h2, h3, h4⟩ := hto x z hz
     exact ⟨hx, z', h1, by rw [h2]; exact hl, by rw [e]; unfold keyR; rw [h2, h3, h4]⟩
   · rintro ⟨hx, z, hz, hl, e⟩
     obtain ⟨z', h1, h2, h3, h4, _⟩ := hfrom x z hz
     exact ⟨hx, z', h1, by rw [← h2]; exact hl, by rw [e]; unfold keyR; rw [h2, h3, h4]⟩
 · intro x
   show x ∈ T.free ↔ _
   rw [h.free x]
   constructor
   · rintro ⟨z, hz, hl⟩
     obtain ⟨z', h1, h2, _⟩ := hto x z hz
     exact ⟨z', h1, by rw [h2]; exact hl⟩
   · rintro ⟨z, hz, hl⟩
     obtain ⟨z', h1, h2, _⟩ := hfrom x z hz
     exact ⟨z', h1, by rw [← h2]; exact hl⟩
 · intro x z hz
   obtain ⟨z', h1, _, _, _, h5, _⟩ := hfrom x z hz
   show z.users = lnk n (T.rows.set f _) x + p x
   rw [hln x, h5]
   exact h.us x z' h1
 · intro x z hz hl
   obtain ⟨z', h1, h2, _, _, h5, h6⟩ := hfrom x z hz
   rw [h2] at hl
   have hg := h.dg x z' h1 hl
   rcases h6 with h6 | h6
   · exact ⟨by rw [h6]; exact hg.1, by rw [h5]; exact hg.2⟩
   · subst h6; rw [hr] at h1; cases h1; exact absurd hl hd
 · intro x z hz
   obtain ⟨z', h1, _, h3, h4, _⟩ := hfrom x z hz
   show z.low < (T.rows.set f _).length ∧ z.high < (T.rows.set f _).length
   rw [h3, h4, List.length_set]
   exact h.lh x z' h1
theorem give_plain (hm : Mid n lv M A T) {f : Nat} {r : Rw} (hr : T.rows[f]? = some r) (hd : r.about ≠ -1) : ∃ T2, DropsAll T.fresh { T with rows := T.rows.set f { r with given := true } } T2 ∧ Base n lv M { T2 with found := [], fresh := [] } ∧
 (∀ y, Giv T y ∨ y = f → Giv { T2 with found := [], fresh := [] } y ∧ vl n { T2 with found := [], fresh := [] } y = vl n T y) ∧ (∀ y, Giv { T2 with found := [], fresh := [] } y → Giv T y ∨ y = f) ∧ T2.ord = T.ord := by
 have hfl := lt_of_at hr
 have hget : ∀ x, x ≠ f → (T.rows.set f { r with given := true })[x]? = T.rows[x]? := fun x hx => by rw [List.getElem?_set_ne (Ne.symm hx)]
 have hgf : (T.rows.set f { r with given := true })[f]? = some { r with given := true } := by rw [List.getElem?_set_self hfl]
 obtain ⟨T1, hT1⟩ : ∃ T1 : Tb, { T with rows := T.rows.set f { r with given := true } } = T1 := ⟨_, rfl⟩
 have e1r : T1.rows = T.rows.set f { r with given := true } := by rw [← hT1]
 have I1 : Inv n (rk lv T) z0 T1 := by rw [← hT1]; exact hm.t.inv.givn hr hd
 have hfrom : ∀ (x : Nat) (z : Rw), T1.rows[x]? = some z → ∃ z' : Rw, T.rows[x]? = some z' ∧ z.about = z'.about ∧ z.low = z'.low ∧ z.high = z'.high ∧ z.users = z'.users ∧ (z.given = z'.given ∨ x = f) := fun x z hz => by
  rw [e1r] at hz
  by_cases e : x = f
  · subst e; rw [hgf] at hz; cases hz; exact ⟨r, hr, rfl, rfl, rfl, rfl, .inr rfl⟩
  · rw [hget x e] at hz; exact ⟨z, hz, rfl, rfl, rfl, rfl, .inl rfl⟩
 have hto : ∀ (x : Nat) (z : Rw), T.rows[x]? = some z → ∃ z' : Rw, T1.rows[x]? = some z' ∧ z'.about = z.about ∧ z'.low = z.low ∧ z'.high = z.high ∧ (z.given = true ∨ x = f → z'.given = true) := fun x z hz => by
  rw [e1r]
  by_cases e : x = f
  · subst e; rw [hr] at hz; cases hz; exact ⟨_, hgf, rfl, rfl, rfl, fun _ => rfl⟩
  · exact ⟨z, by rw [hget x e]; exact hz, rfl, rfl, rfl, fun q => q.resolve_right e⟩
 have hlive1 : ∀ x, Live T1 x → Live T x := fun x ⟨z, hz, hl⟩ => by
  obtain ⟨z', h1, h2, _⟩ := hfrom x z hz
  exact ⟨z', h1, by rw [← h2]; exact hl⟩
 have hlive2 : ∀ x, Live T x → Live T1 x := fun x ⟨z, hz, hl⟩ => by
  obtain ⟨z', h1, h2, _⟩ := hto x z hz
  exact ⟨z', h1, by rw [h2]; exact hl⟩
 have hfr1 : T1.fresh = T.fresh := by rw [← hT1]
 have hlen1 : T1.rows.length = T.rows.length := by rw [e1r]; simp
 have hrm := hm.rm
 have hrl := hm.rl
 have hLI : LI n (rk lv T) T.fresh T1 := by
  refine ⟨I1, hm.fnd, fun x hx => ⟨(hm.fl x hx).1, hlive2 x (hm.fl x hx).2⟩, fun x z h2 hz hl hns => ?_, fun y z h2 hz hl j hj => ?_⟩
  · obtain ⟨z', h1, e1, _, _, e5, e6⟩ := hfrom x z hz
    rcases e6 with e6 | e6
    · rw [e5, e6]; exact hm.ng x z' h2 h1 (by rw [← e1]; exact hl) hns
    · subst e6
      rw [e1r, hgf] at hz; cases hz; exact .inl rfl
  · obtain ⟨z', h1, e1, e2, e3, _⟩ := hfrom y z hz
    rw [e2, e3] at hj
    exact hm.fo y z' h2 h1 (by rw [← e1]; exact hl) j hj
 obtain ⟨T2, D, I2, L2, N2⟩ := drops_plain hm.n24 T.fresh T1 hLI (fun x hx => hm.t.rle x (hlive1 x hx)) (by rw [hlen1]; omega) (fun z hz => by
  obtain ⟨x, hx⟩ := List.getElem?_of_mem hz
  obtain ⟨z', h1, _, _, _, e5, _⟩ := hfrom x z hx
  have := hm.users z' (List.mem_of_getElem? h1)
  unfold Sm; omega)
 refine ⟨T2, by rw [hT1]; exact D, ?_⟩
 obtain ⟨T3, hT3⟩ : ∃ T3 : Tb, { T2 with found := [], fresh := [] } = T3 := ⟨_, rfl⟩
 rw [hT3]
 have e3r : T3.rows = T2.rows := by rw [← hT3]
 have e3f : T3.free = T2.free := by rw [← hT3]
 have e3m : T3.made = T2.made := by rw [← hT3]
 have e3o : T3.ord = T2.ord := by rw [← hT3]
 have e3l : T3.lev = T2.lev := by rw [← hT3]
 have e3h : T3.fresh = [] := by rw [← hT3]
 have e3d : T3.found = [] := by rw [← hT3]
 have hlive3 : ∀ x, Live T3 x ↔ Live T2 x := fun x => by unfold Live; rw [e3r]
 have I3 : Inv n (rk lv T) z0 T3 := by
  refine ⟨by rw [e3o]; exact I2.on, by rw [e3r]; exact I2.e0, by rw [e3r]; exact I2.e1, ?_, ?_, by rw [e3m]; exact I2.mn, ?_, by rw [e3f]; exact I2.fn, by rw [e3r]; exact I2.us, by rw [e3r]; exact I2.dg, by rw [e3r]; exact I2.lh⟩
  · intro x z h2 hz hl
    rw [hlive3, hlive3]
    rw [e3r] at hz
    exact I2.nd x z h2 hz hl
  · intro k x; rw [e3m, e3r]; exact I2.made k x
  · intro x; rw [e3f, e3r]; exact I2.free x
 have hask : ∀ (x : Nat) (z : Rw), T3.rows[x]? = some z → z.about ≠ -1 → ∃ q : Rw, T.rows[x]? = some q ∧ q.about = z.about ∧ q.low = z.low ∧ q.high = z.high ∧ (z.given = q.given ∨ x = f) := fun x z hz hl => by
  rw [e3r] at hz
  obtain ⟨q, h1, g1, g2, g3, g4⟩ := L2.keep x z hz hl
  obtain ⟨q', k1, k2, k3, k4, _, k6⟩ := hfrom x q h1
  exact ⟨q', k1, by rw [← k2]; exact g1, by rw [← k3]; exact g2, by rw [← k4]; exact g3, by rw [← g4]; exact k6⟩
 have hrk : ∀ x, Live T3 x → rk lv T3 x = rk lv T x := fun x ⟨z, hz, hl⟩ => by
  obtain ⟨q, h1, h2, _⟩ := hask x z hz hl
  rw [rk_at hz, rk_at h1, h2]
 have t3 : Tbl n lv z0 T3 := ⟨hm.t.lvo, I3.rho hrk⟩
 have hev : ∀ (k x : Nat) (σ : Nat → Bool), Live T3 x → ev k T3 x σ = ev k T x σ := by
  intro k
  induction k with
  | zero => intros; rfl
  | succ k ih =>
    intro x σ hx
    by_cases q0 : x = 0
    · subst q0; rw [ev_zero, ev_zero]
    by_cases q1 : x = 1
    · subst q1; rw [ev_one, ev_one]
    obtain ⟨z, hz, hl⟩ := hx
    have h2 : 2 ≤ x := by omega
    obtain ⟨q, h1, g1, g2, g3, _⟩ := hask x z hz hl
    obtain ⟨_, _, _, a4, a5, _⟩ := I3.nd x z h2 hz hl
    rw [ev_node σ h2 hz, ev_node σ h2 h1, g1, g2, g3]
    split
    · exact ih _ σ a5
    · exact ih _ σ a4
 refine ⟨⟨⟨t3, hm.n24, by rw [e3l, L2.lev, ← hT1]; exact hm.ll, by rw [e3l, L2.lev, ← hT1]; exact hm.la, ?_, by rw [e3h]; exact List.nodup_nil, by rw [e3h]; simp, by rw [e3h]; simp, by rw [e3d]; exact List.nodup_nil, by rw [e3d]; simp, by rw [e3r, L2.len, hlen1]; exact hrl, hrm, by omega⟩, e3h, e3d⟩, fun y hy => ?_, fun y ⟨z, hz, hl, hg⟩ => ?_, by rw [L2.ord, ← hT1]⟩
 · intro x z h2 hz hl _
   rw [e3r] at hz
   exact N2 x z h2 hz hl (fun q => q)
 · have hg1 : ∃ z : Rw, T1.rows[y]? = some z ∧ z.about ≠ -1 ∧ z.given = true := by
    rcases hy with ⟨z, hz, hl, hg⟩ | rfl
    · obtain ⟨z', h1, h2, _, _, h5⟩ := hto y z hz
      exact ⟨z', h1, by rw [h2]; exact hl, h5 (.inl hg)⟩
    · exact ⟨{ r with given := true }, by rw [e1r]; exact hgf, hd, rfl⟩
   obtain ⟨z, hz, hl, hg⟩ := hg1
   have hl2 := L2.giv y z hz hl hg
   have hl3 : Live T3 y := (hlive3 y).2 hl2
   obtain ⟨z3, hz3, hd3⟩ := hl2
   obtain ⟨q, h1, _, _, _, g4⟩ := L2.keep y z3 hz3 hd3
   rw [hz] at h1; cases h1
   exact ⟨⟨z3, by rw [e3r]; exact hz3, hd3, by rw [← g4]; exact hg⟩, funext fun σ => hev _ y σ hl3⟩
 · obtain ⟨q, h1, h2, _, _, h5⟩ := hask y z hz hl
   rcases h5 with h5 | h5
   · exact .inl ⟨q, h1, by rw [h2]; exact hl, by rw [← h5]; exact hg⟩
   · exact .inr h5
theorem Out.of {T0 T T3 : Tb} {f : Nat} {F : (Nat → Bool) → Bool} (h0 : Base n lv M T0) (hM : More T0 T) (hG : ∀ y, Giv T y → Giv T0 y) (hv : vl n T f = F)
 (h1 : Base n lv M T3) (h2 : ∀ y, Giv T y ∨ y = f → Giv T3 y ∧ vl n T3 y = vl n T y) (h3 : ∀ y, Giv T3 y → Giv T y ∨ y = f) (h4 : T3.ord = T.ord) : Out n lv M T0 f F T3 :=
 ⟨h1, fun y hy => by
   have hgy : Giv T y := by
    obtain ⟨r, hr, hd, hg⟩ := hy
    obtain ⟨q, g1, g2, _, _, g5⟩ := hM.keep y r hr hd
    exact ⟨q, g1, by rw [g2]; exact hd, by rw [g5]; exact hg⟩
   obtain ⟨k1, k2⟩ := h2 y (.inl hgy)
   exact ⟨k1, by rw [k2, vl_more h0.mid.t.inv hM hy.live]⟩, (h2 f (.inr rfl)).1, by rw [(h2 f (.inr rfl)).2, hv], fun y hy => (h3 y hy).imp (hG y) id, h4.trans hM.ord⟩
end
end Go.Proofs.YtaakjjefnjbabaaGreat.Sx
namespace Go.Proofs.YtaakjjefnjbabaaGreat.Sx
open Go.RowKit Go.Sort Go.Maps Go.WideMaps
section
variable {w : World} {tb : Nat} {L : Ly} {T0 T : Tb} {n : Nat} {lv : Nat → Nat} {M A : Nat}
def OutPost (w : World) (tb : Nat) (L : Ly) (n : Nat) (lv : Nat → Nat) (M : Nat) (T : Tb) (F : (Nat → Bool) → Bool) (e : Ending) (w' : World) : Prop := ∃ (x : Nat) (T' : Tb) (L' : Ly), e = .returned (.int .i64 (x : Int)) ∧ TAt w' tb L' T' ∧ FrT L L' w w' ∧ Out n lv M T x F T'
theorem give_out (h : TAt w tb L T) (hm : Mid n lv M A T) {f : Nat} {F : (Nat → Bool) → Bool} (hf : Live T f) (h0 : Base n lv M T0) (hM : More T0 T) (hG : ∀ y, Giv T y → Giv T0 y) (hv : vl n T f = F) :
 Calls Tryz.prog 63 #[.pointer (some ⟨tb, 0, none⟩), .int .i64 (f : Int)] w fun e w' => e = .returned (.int .i64 (f : Int)) ∧ ∃ T' L', TAt w' tb L' T' ∧ FrT L L' w w' ∧ Out n lv M T0 f F T' := by
 obtain ⟨r, hr, hd⟩ := hf
 obtain ⟨T2, D, B, K, O, E⟩ := give_plain hm hr hd
 have hfr : T.fresh.length ≤ T.rows.length := nodup_len _ _ hm.fnd fun x hx => (hm.fl x hx).2.lt
 have hrl := hm.rl
 have hrm := hm.rm
 refine (give_any h f r hr (by unfold Sm; omega) D).mono ?_
 rintro e w' ⟨rfl, L', hT, hF⟩
 exact ⟨rfl, _, L', hT, hF, Out.of h0 hM hG hv B K O E⟩
theorem Base.live0 (h : Base n lv M T) : Live T 0 := h.mid.t.inv.live0
theorem Base.live1 (h : Base n lv M T) : Live T 1 := h.mid.t.inv.live1
set_option maxHeartbeats 1000000 in
theorem not_ok (h : TAt w tb L T) (hm : Mid n lv M A T) (f : Nat) (hf : Live T f) (hroom : A + T.fresh.length + 2 ^ n ≤ M) :
 Calls Tryz.prog 66 #[.pointer (some ⟨tb, 0, none⟩), .int .i64 (f : Int)] w fun e w' => ∃ x T', IteP n lv M A n T f 0 1 T' x ∧ Post w tb L x T' e w' := by
 have HI : Hid (Calls _ _ _ _ _) := ite_ok n w tb L T n lv M A f 0 1 h hm hf hm.t.inv.live0 hm.t.inv.live1 (by omega) (by omega) (by omega) hroom
 have mo := follows
 clear h hm hroom
 go_enter Tryz.func66, Tryz.ntmps66
 go_wp2_with fail
 refine HI.out.mono ?_
 rintro e w' ⟨x, T', h1, rfl, h2⟩
 have H1 : Hid (IteP n lv M A n T f 0 1 T' x) := h1
 have H2 : Hid (∃ L', TAt w' tb L' T' ∧ FrT L L' w w') := h2
 clear h1 h2 HI
 go_wp2_with fail
 go_ret
 exact ⟨x, T', H1.out, rfl, H2.out⟩
set_option maxHeartbeats 1000000 in
theorem and_ok (h : TAt w tb L T) (hm : Mid n lv M A T) (f g : Nat) (hf : Live T f) (hg : Live T g) (hroom : A + T.fresh.length + 2 ^ n ≤ M) :
 Calls Tryz.prog 67 #[.pointer (some ⟨tb, 0, none⟩), .int .i64 (f : Int), .int .i64 (g : Int)] w fun e w' => ∃ x T', IteP n lv M A n T f g 0 T' x ∧ Post w tb L x T' e w' := by
 have HI : Hid (Calls _ _ _ _ _) := ite_ok n w tb L T n lv M A f g 0 h hm hf hg hm.t.inv.live0 (by omega) (by omega) (by omega) hroom
 have mo := follows
 clear h hm hroom
 go_enter Tryz.func67, Tryz.ntmps67
 go_wp2_with fail
 refine HI.out.mono ?_
 rintro e w' ⟨x, T', h1, rfl, h2⟩
 have H1 : Hid (IteP n lv M A n T f g 0 T' x) := h1
 have H2 : Hid (∃ L', TAt w' tb L' T' ∧ FrT L L' w w') := h2
 clear h1 h2 HI
 go_wp2_with fail
 go_ret
 exact ⟨x, T', H1.out, rfl, H2.out⟩
set_option maxHeartbeats 1000000 in
theorem or_ok (h : TAt w tb L T) (hm : Mid n lv M A T) (f g : Nat) (hf : Live T f) (hg : Live T g) (hroom : A + T.fresh.length + 2 ^ n ≤ M) :
 Calls Tryz.prog 68 #[.pointer (some ⟨tb, 0, none⟩), .int .i64 (f : Int), .int .i64 (g : Int)] w fun e w' => ∃ x T', IteP n lv M A n T f 1 g T' x ∧ Post w tb L x T' e w' := by
 have HI : Hid (Calls _ _ _ _ _) := ite_ok n w tb L T n lv M A f 1 g h hm hf hm.t.inv.live1 hg (by omega) (by omega) (by omega) hroom
 have mo := follows
 clear h hm hroom
 go_enter Tryz.func68, Tryz.ntmps68
 go_wp2_with fail
 refine HI.out.mono ?_
 rintro e w' ⟨x, T', h1, rfl, h2⟩
 have H1 : Hid (IteP n lv M A n T f 1 g T' x) := h1
 have H2 : Hid (∃ L', TAt w' tb L' T' ∧ FrT L L' w w') := h2
 clear h1 h2 HI
 go_wp2_with fail
 go_ret
 exact ⟨x, T', H1.out, rfl, H2.out⟩
set_option maxHeartbeats 1000000 in
theorem Ite_out (h : TAt w tb L T) (hb : Base n lv M T) (f g k : Nat) (hf : Live T f) (hg : Live T g) (hk : Live T k) (hroom : T.rows.length - T.free.length + 2 ^ n ≤ M) :
 Calls Tryz.prog 29 #[.pointer (some ⟨tb, 0, none⟩), .int .i64 (f : Int), .int .i64 (g : Int), .int .i64 (k : Int)] w (OutPost w tb L n lv M T (iteF (vl n T f) (vl n T g) (vl n T k))) := by
 obtain ⟨rf, ef, df⟩ := id hf
 have HKf : Hid (Calls Tryz.prog 58 #[.pointer (some ⟨tb, 0, none⟩), .int .i64 (f : Int)] w _) := known_any h f rf ef df
 obtain ⟨rg, eg, dg⟩ := id hg
 have HKg : Hid (Calls Tryz.prog 58 #[.pointer (some ⟨tb, 0, none⟩), .int .i64 (g : Int)] w _) := known_any h g rg eg dg
 obtain ⟨rk, ek, dk⟩ := id hk
 have HKk : Hid (Calls Tryz.prog 58 #[.pointer (some ⟨tb, 0, none⟩), .int .i64 (k : Int)] w _) := known_any h k rk ek dk
 have HI : Hid (Calls _ _ _ _ _) := ite_ok n w tb L T n lv M _ f g k h hb.mid hf hg hk (by omega) (by omega) (by omega) (by rw [hb.fresh]; exact hroom)
 have HB : Hid (Base n lv M T) := hb
 have mo := follows
 clear h hb hroom hf ef df hg eg dg hk ek dk
 go_enter Tryz.func29, Tryz.ntmps29
 go_wp2_with fail
 refine HKf.out.mono ?_
 rintro e w' ⟨rfl, hw⟩; replace hw := hw.symm; subst hw
 go_wp2_with fail
 refine HKg.out.mono ?_
 rintro e w' ⟨rfl, hw⟩; replace hw := hw.symm; subst hw
 go_wp2_with fail
 refine HKk.out.mono ?_
 rintro e w' ⟨rfl, hw⟩; replace hw := hw.symm; subst hw
 go_wp2_with fail
 refine HI.out.mono ?_
 rintro e W1 ⟨x, T1, hI1, rfl, L1, hX1, hF1⟩
 have HG : Hid (Calls _ _ _ _ _) := give_out hX1 hI1.mid hI1.live HB.out hI1.more hI1.gv (F := iteF (vl n T f) (vl n T g) (vl n T k)) (by rw [hI1.val])
 have F1 : Hid (FrT L L1 w W1) := hF1
 clear hX1 hF1 hI1 HI
 go_wp2_with fail
 refine HG.out.mono ?_
 rintro e W2 ⟨rfl, T2, L2, hX2, hF2, hO⟩
 have X2 : Hid (TAt W2 tb L2 T2) := hX2
 have F2 : Hid (FrT L L2 w W2) := F1.out.trans hF2
 have O2 : Hid (Out n lv M T x (iteF (vl n T f) (vl n T g) (vl n T k)) T2) := hO
 clear hX2 hF2 hO HG
 go_wp2_with fail
 go_ret
 exact ⟨x, T2, L2, rfl, X2.out, F2.out, O2.out⟩
set_option maxHeartbeats 1000000 in
theorem Not_out (h : TAt w tb L T) (hb : Base n lv M T) (f : Nat) (hf : Live T f) (hroom : T.rows.length - T.free.length + 2 ^ n ≤ M) :
 Calls Tryz.prog 31 #[.pointer (some ⟨tb, 0, none⟩), .int .i64 (f : Int)] w (OutPost w tb L n lv M T (iteF (vl n T f) (fun _ => false) (fun _ => true))) := by
 obtain ⟨rf, ef, df⟩ := id hf
 have HKf : Hid (Calls Tryz.prog 58 #[.pointer (some ⟨tb, 0, none⟩), .int .i64 (f : Int)] w _) := known_any h f rf ef df
 have HI : Hid (Calls _ _ _ _ _) := not_ok h hb.mid f hf (by rw [hb.fresh]; exact hroom)
 have HB : Hid (Base n lv M T) := hb
 have mo := follows
 clear h hb hroom hf ef df
 go_enter Tryz.func31, Tryz.ntmps31
 go_wp2_with fail
 refine HKf.out.mono ?_
 rintro e w' ⟨rfl, hw⟩; replace hw := hw.symm; subst hw
 go_wp2_with fail
 refine HI.out.mono ?_
 rintro e W1 ⟨x, T1, hI1, rfl, L1, hX1, hF1⟩
 have HG : Hid (Calls _ _ _ _ _) := give_out hX1 hI1.mid hI1.live HB.out hI1.more hI1.gv (F := iteF (vl n T f) (fun _ => false) (fun _ => true)) (by rw [hI1.val]; unfold iteF; funext σ; simp only [vl_zero, vl_one])
 have F1 : Hid (FrT L L1 w W1) := hF1
 clear hX1 hF1 hI1 HI
 go_wp2_with fail
 refine HG.out.mono ?_
 rintro e W2 ⟨rfl, T2, L2, hX2, hF2, hO⟩
 have X2 : Hid (TAt W2 tb L2 T2) := hX2
 have F2 : Hid (FrT L L2 w W2) := F1.out.trans hF2
 have O2 : Hid (Out n lv M T x (iteF (vl n T f) (fun _ => false) (fun _ => true)) T2) := hO
 clear hX2 hF2 hO HG
 go_wp2_with fail
 go_ret
 exact ⟨x, T2, L2, rfl, X2.out, F2.out, O2.out⟩
set_option maxHeartbeats 1000000 in
theorem And_out (h : TAt w tb L T) (hb : Base n lv M T) (f g : Nat) (hf : Live T f) (hg : Live T g) (hroom : T.rows.length - T.free.length + 2 ^ n ≤ M) :
 Calls Tryz.prog 32 #[.pointer (some ⟨tb, 0, none⟩), .int .i64 (f : Int), .int .i64 (g : Int)] w (OutPost w tb L n lv M T (iteF (vl n T f) (vl n T g) (fun _ => false))) := by
 obtain ⟨rf, ef, df⟩ := id hf
 have HKf : Hid (Calls Tryz.prog 58 #[.pointer (some ⟨tb, 0, none⟩), .int .i64 (f : Int)] w _) := known_any h f rf ef df
 obtain ⟨rg, eg, dg⟩ := id hg
 have HKg : Hid (Calls Tryz.prog 58 #[.pointer (some ⟨tb, 0, none⟩), .int .i64 (g : Int)] w _) := known_any h g rg eg dg
 have HI : Hid (Calls _ _ _ _ _) := and_ok h hb.mid f g hf hg (by rw [hb.fresh]; exact hroom)
 have HB : Hid (Base n lv M T) := hb
 have mo := follows
 clear h hb hroom hf ef df hg eg dg
 go_enter Tryz.func32, Tryz.ntmps32
 go_wp2_with fail
 refine HKf.out.mono ?_
 rintro e w' ⟨rfl, hw⟩; replace hw := hw.symm; subst hw
 go_wp2_with fail
 refine HKg.out.mono ?_
 rintro e w' ⟨rfl, hw⟩; replace hw := hw.symm; subst hw
 go_wp2_with fail
 refine HI.out.mono ?_
 rintro e W1 ⟨x, T1, hI1, rfl, L1, hX1, hF1⟩
 have HG : Hid (Calls _ _ _ _ _) := give_out hX1 hI1.mid hI1.live HB.out hI1.more hI1.gv (F := iteF (vl n T f) (vl n T g) (fun _ => false)) (by rw [hI1.val]; unfold iteF; funext σ; simp only [vl_zero])
 have F1 : Hid (FrT L L1 w W1) := hF1
 clear hX1 hF1 hI1 HI
 go_wp2_with fail
 refine HG.out.mono ?_
 rintro e W2 ⟨rfl, T2, L2, hX2, hF2, hO⟩
 have X2 : Hid (TAt W2 tb L2 T2) := hX2
 have F2 : Hid (FrT L L2 w W2) := F1.out.trans hF2
 have O2 : Hid (Out n lv M T x (iteF (vl n T f) (vl n T g) (fun _ => false)) T2) := hO
 clear hX2 hF2 hO HG
 go_wp2_with fail
 go_ret
 exact ⟨x, T2, L2, rfl, X2.out, F2.out, O2.out⟩
set_option maxHeartbeats 1000000 in
theorem Or_out (h : TAt w tb L T) (hb : Base n lv M T) (f g : Nat) (hf : Live T f) (hg : Live T g) (hroom : T.rows.length - T.free.length + 2 ^ n ≤ M) :
 Calls Tryz.prog 33 #[.pointer (some ⟨tb, 0, none⟩), .int .i64 (f : Int), .int .i64 (g : Int)] w (OutPost w tb L n lv M T (iteF (vl n T f) (fun _ => true) (vl n T g))) := by
 obtain ⟨rf, ef, df⟩ := id hf
 have HKf : Hid (Calls Tryz.prog 58 #[.pointer (some ⟨tb, 0, none⟩), .int .i64 (f : Int)] w _) := known_any h f rf ef df
 obtain ⟨rg, eg, dg⟩ := id hg
 have HKg : Hid (Calls Tryz.prog 58 #[.pointer (some ⟨tb, 0, none⟩), .int .i64 (g : Int)] w _) := known_any h g rg eg dg
 have HI : Hid (Calls _ _ _ _ _) := or_ok h hb.mid f g hf hg (by rw [hb.fresh]; exact hroom)
 have HB : Hid (Base n lv M T) := hb
 have mo := follows
 clear h hb hroom hf ef df hg eg dg
 go_enter Tryz.func33, Tryz.ntmps33
 go_wp2_with fail
 refine HKf.out.mono ?_
 rintro e w' ⟨rfl, hw⟩; replace hw := hw.symm; subst hw
 go_wp2_with fail
 refine HKg.out.mono ?_
 rintro e w' ⟨rfl, hw⟩; replace hw := hw.symm; subst hw
 go_wp2_with fail
 refine HI.out.mono ?_
 rintro e W1 ⟨x, T1, hI1, rfl, L1, hX1, hF1⟩
 have HG : Hid (Calls _ _ _ _ _) := give_out hX1 hI1.mid hI1.live HB.out hI1.more hI1.gv (F := iteF (vl n T f) (fun _ => true) (vl n T g)) (by rw [hI1.val]; unfold iteF; funext σ; simp only [vl_one])
 have F1 : Hid (FrT L L1 w W1) := hF1
 clear hX1 hF1 hI1 HI
 go_wp2_with fail
 refine HG.out.mono ?_
 rintro e W2 ⟨rfl, T2, L2, hX2, hF2, hO⟩
 have X2 : Hid (TAt W2 tb L2 T2) := hX2
 have F2 : Hid (FrT L L2 w W2) := F1.out.trans hF2
 have O2 : Hid (Out n lv M T x (iteF (vl n T f) (fun _ => true) (vl n T g)) T2) := hO
 clear hX2 hF2 hO HG
 go_wp2_with fail
 go_ret
 exact ⟨x, T2, L2, rfl, X2.out, F2.out, O2.out⟩
end
end Go.Proofs.YtaakjjefnjbabaaGreat.Sx
