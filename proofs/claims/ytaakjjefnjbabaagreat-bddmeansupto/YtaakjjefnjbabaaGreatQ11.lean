/- Going through a diagram: how many values. -/
import Derived.Test.YtaakjjefnjbabaaGreatQ10
set_option maxRecDepth 100000
namespace Go.Proofs.YtaakjjefnjbabaaGreat.Sx
open Go.RowKit Go.Sort Go.Maps Go.WideMaps
def EBC (tb bm bt bj bo mm : Nat) : List (Nat × Obj) := [(bm, .cells #[.map (some mm)] 124 (0, 0)), (bt, .cells #[.pointer (some ⟨tb, 0, none⟩)] 36 (0, 0)), (bj, .cells #[.func (.func 75) #[] #[]] 100 (0, 0)), (bo, .cells #[.func (.func 97) #[] #[.pointer (some ⟨bm, 0, none⟩), .pointer (some ⟨bt, 0, none⟩), .pointer (some ⟨bj, 0, none⟩), .pointer (some ⟨bo, 0, none⟩)]] 68 (0, 0))]
def JoinOKC (n : Nat) (lv : Nat → Nat) (M A K : Nat) (T0 : Tb) (Val : Tb → Nat → Nat → Prop) (xs : List (Nat × Obj)) (mm tb : Nat) : Prop := ∀ (W : World) (L : Ly) (T : Tb) (f : Nat) (r : Rw) (x y : Nat), 2 ≤ f → T0.rows[f]? = some r → r.about ≠ -1 → TAt W tb L T → Mid n lv M A T → More T0 T → Env xs mm W L → Val T r.low x → Val T r.high y → A + T.fresh.length + K ≤ M →
 Calls Tryz.prog 75 #[.int .i64 r.about, .int .i64 (x : Int), .int .i64 (y : Int)] W fun e w' => ∃ (v : Nat) (T' : Tb) (L' : Ly), e = .returned (.int .i64 (v : Int)) ∧ TAt w' tb L' T' ∧ FrT L L' W w' ∧ JoinP n lv M A K Val T f T' v ∧ T' = T ∧ L' = L
def OfOKC (n : Nat) (lv : Nat → Nat) (M A K m : Nat) (T0 : Tb) (Val : Tb → Nat → Nat → Prop) (xs : List (Nat × Obj)) (mm tb bm bt bj bo : Nat) : Prop := ∀ (w : World) (L : Ly) (T : Tb) (ml : List (Nat × Nat)) (f : Nat), TAt w tb L T → Mid n lv M A T → More T0 T → Env xs mm w L → MapIs 32 w mm (mlV ml) → MS Val T ml → Live T0 f → n ≤ rk lv T0 f + m → A + T.fresh.length + (2 ^ m - 1) * K ≤ M →
 Calls Tryz.prog 97 #[.int .i64 (f : Int), .pointer (some ⟨bm, 0, none⟩), .pointer (some ⟨bt, 0, none⟩), .pointer (some ⟨bj, 0, none⟩), .pointer (some ⟨bo, 0, none⟩)] w fun e w' => ∃ (v : Nat) (T' : Tb) (L' : Ly) (ml' : List (Nat × Nat)), e = .returned (.int .i64 (v : Int)) ∧ TAt w' tb L' T' ∧ FrM mm L L' w w' ∧ MapIs 32 w' mm (mlV ml') ∧ OfP n lv M A K m T0 Val T ml f T' ml' v ∧ T' = T ∧ L' = L
section
variable {n : Nat} {lv : Nat → Nat} {M A K : Nat} {T0 : Tb} {Val : Tb → Nat → Nat → Prop} {xs : List (Nat × Obj)} {mm tb bm bt bj bo : Nat}
set_option maxHeartbeats 1000000 in
theorem of_hitC (hxs : ∀ p ∈ EBC tb bm bt bj bo mm, p ∈ xs) {w : World} {L : Ly} {ml : List (Nat × Nat)} (hE : Env xs mm w L) (hM : MapIs 32 w mm (mlV ml)) (hn : (ml.map Prod.fst).Nodup) {f v : Nat} (hf : Sm f) (hx : (f, v) ∈ ml) :
 Calls Tryz.prog 97 #[.int .i64 (f : Int), .pointer (some ⟨bm, 0, none⟩), .pointer (some ⟨bt, 0, none⟩), .pointer (some ⟨bj, 0, none⟩), .pointer (some ⟨bo, 0, none⟩)] w fun e w' => e = .returned (.int .i64 (v : Int)) ∧ w' = w := by
 have mo := follows
 have m0 := block_cell (hE.at' _ (hxs (bm, .cells #[.map (some mm)] 124 (0, 0)) (by simp [EBC]))) 0
 obtain ⟨k1, k2⟩ := mlV_hit hn hx
 have l1 := hM.hit lawN Tryz.underlying124 (keyN hf.fits) k1 k2 true
 rw [if_pos rfl] at l1
 clear hE hM hn hx k1 k2 hxs
 go_enter Tryz.func97, Tryz.ntmps97
 go_wp2_with fail
 go_ret
 exact ⟨rfl, rfl⟩
set_option maxHeartbeats 4000000 in
theorem of_missC {m : Nat} (hV : Mono n lv M A Val) (h0 : Tbl n lv z0 T0) (h0l : T0.rows.length ≤ 274877906944) (hJ : JoinOKC n lv M A K T0 Val xs mm tb) (hxs : ∀ p ∈ EBC tb bm bt bj bo mm, p ∈ xs) (hI : OfOKC n lv M A K m T0 Val xs mm tb bm bt bj bo) (w : World) (L : Ly) (T : Tb) (ml : List (Nat × Nat)) (f : Nat) (h : TAt w tb L T) (hm : Mid n lv M A T) (hT : More T0 T) (hE : Env xs mm w L) (hM : MapIs 32 w mm (mlV ml)) (hS : MS Val T ml) (hf : Live T0 f) (h2 : 2 ≤ f) (hk : n ≤ rk lv T0 f + (m + 1)) (hc : A + T.fresh.length + (2 ^ (m + 1) - 1) * K ≤ M) (hx : ∀ p ∈ ml, p.1 ≠ f) :
 Calls Tryz.prog 97 #[.int .i64 (f : Int), .pointer (some ⟨bm, 0, none⟩), .pointer (some ⟨bt, 0, none⟩), .pointer (some ⟨bj, 0, none⟩), .pointer (some ⟨bo, 0, none⟩)] w fun e w' => ∃ (v : Nat) (T' : Tb) (L' : Ly) (ml' : List (Nat × Nat)), e = .returned (.int .i64 (v : Int)) ∧ TAt w' tb L' T' ∧ FrM mm L L' w w' ∧ MapIs 32 w' mm (mlV ml') ∧ OfP n lv M A K (m + 1) T0 Val T ml f T' ml' v ∧ T' = T ∧ L' = L := by
 obtain ⟨r, hr, hd⟩ := id hf
 obtain ⟨q, hq, ea, el, eh, _⟩ := hT.keep f r hr hd
 obtain ⟨_, _, _, a4, a5, a6, a7⟩ := h0.inv.nd f r h2 hr hd
 have hfs : Sm f := by have := hf.lt; unfold Sm; omega
 have hbm := hE.at' _ (hxs (bm, .cells #[.map (some mm)] 124 (0, 0)) (by simp [EBC]))
 have hbt := hE.at' _ (hxs (bt, .cells #[.pointer (some ⟨tb, 0, none⟩)] 36 (0, 0)) (by simp [EBC]))
 have m0 := block_cell hbm 0
 have t0 := block_cell hbt 0
 obtain ⟨g, cap, G⟩ := h.rowsG hq
 have b2 := h.b2 G
 have hfl := lt_of_at hq
 have hf0 : (0 : Int) ≤ (f : Int) := by omega
 have c0 := G.c0 hq
 have c1 := G.c1 hq
 have c2 := G.c2 hq
 rw [ea] at c0
 rw [el] at c1
 rw [eh] at c2
 have l1 := hM.miss lawN Tryz.underlying124 (zeroI w) (keyN hfs.fits) (mlV_ne hx) true
 rw [if_pos rfl] at l1
 have hcs := cost_step m K
 have HC1 : Hid (∀ (W : World), TAt W tb L T → Env xs mm W L → MapIs 32 W mm (mlV ml) → Calls _ _ _ _ _) := fun W hW hEW hMW => hI W L T ml r.low hW hm hT hEW hMW hS a4 (by omega) (by omega)
 have HC2 : Hid (∀ (W : World) (L1 : Ly) (T1 : Tb) (ml1 : List (Nat × Nat)) (v1 : Nat), TAt W tb L1 T1 → Env xs mm W L1 → MapIs 32 W mm (mlV ml1) → OfP n lv M A K m T0 Val T ml r.low T1 ml1 v1 → Calls _ _ _ _ _) := fun W L1 T1 ml1 v1 hW hEW hMW hO => hI W L1 T1 ml1 r.high hW hO.mid (hT.trans hO.more) hEW hMW hO.ms a5 (by omega) (by have := hO.cost; omega)
 have HC3 : Hid (∀ (W : World) (L1 : Ly) (T1 T2 : Tb) (ml1 ml2 : List (Nat × Nat)) (v1 v2 : Nat), TAt W tb L1 T2 → Env xs mm W L1 → OfP n lv M A K m T0 Val T ml r.low T1 ml1 v1 → OfP n lv M A K m T0 Val T1 ml1 r.high T2 ml2 v2 → Calls _ _ _ _ _) := fun W L1 T1 T2 ml1 ml2 v1 v2 hW hEW hO hP => hJ W L1 T2 f r v1 v2 h2 hr hd hW hP.mid ((hT.trans hO.more).trans hP.more) hEW (hV T1 T2 _ _ hO.mid hP.more hO.val) hP.val (by have := hO.cost; have := hP.cost; omega)
 have HMAIN : Hid (∀ (T1 T2 T3 : Tb) (ml1 ml2 : List (Nat × Nat)) (v1 v2 v : Nat), OfP n lv M A K m T0 Val T ml r.low T1 ml1 v1 → OfP n lv M A K m T0 Val T1 ml1 r.high T2 ml2 v2 → JoinP n lv M A K Val T2 f T3 v → OfP n lv M A K (m + 1) T0 Val T ml f T3 (ml2 ++ [(f, v)]) v ∧ ∀ p ∈ ml2, p.1 ≠ f) := fun T1 T2 T3 ml1 ml2 v1 v2 v H1 H2 H3 => ⟨OfP.main hV h0 hr hd h2 hfs hx H1 H2 H3, OfP.absent h0 hr hd h2 hx H1 H2⟩
 have HK : Hid (Sm f) := hfs
 have HXS : Hid (∀ p ∈ EBC tb bm bt bj bo mm, p ∈ xs) := hxs
 obtain ⟨rl, hrl⟩ : ∃ rl, r.low = rl := ⟨_, rfl⟩
 obtain ⟨rh, hrh⟩ : ∃ rh, r.high = rh := ⟨_, rfl⟩
 obtain ⟨ra, hra⟩ : ∃ ra, r.about = ra := ⟨_, rfl⟩
 rw [hrl] at c1
 rw [hrh] at c2
 rw [hra] at c0
 rw [hrl] at HC1 HC2 HC3 HMAIN
 rw [hrh] at HC2 HC3 HMAIN
 rw [hra] at HC3
 have HX : Hid (TAt (w.alloc (.cells #[.int .i64 ra, .int .i64 (rl : Int), .int .i64 (rh : Int)] 89)) tb L T) := h.alloc _
 have HF : Hid (FrM mm L L w (w.alloc (.cells #[.int .i64 ra, .int .i64 (rl : Int), .int .i64 (rh : Int)] 89))) := FrM.grew ((Fr.refl _ w).alloc _)
 have HE : Hid (Env xs mm (w.alloc (.cells #[.int .i64 ra, .int .i64 (rl : Int), .int .i64 (rh : Int)] 89)) L) := hE.fr HF.out
 have HM : Hid (MapIs 32 (w.alloc (.cells #[.int .i64 ra, .int .i64 (rl : Int), .int .i64 (rh : Int)] 89)) mm (mlV ml)) := hM.of (heap_old hM.lt)
 have HB : Hid ((w.alloc (.cells #[.int .i64 ra, .int .i64 (rl : Int), .int .i64 (rh : Int)] 89)).heap[w.heap.size]? = some (.cells #[.int .i64 ra, .int .i64 (rl : Int), .int .i64 (rh : Int)] 89 (0, 0))) := heap_new rfl
 have hba0 := h.hi _ (Nat.le_refl _)
 have hbam : w.heap.size ≠ mm := by have := hE.lt; omega
 have mo := follows
 clear h hm hT hE hM hS hf hk hc hx hr hd hq ea el eh a4 a5 a6 a7 hfs hbm hbt G hcs hrl hrh hra hJ hI hV hxs h0 h0l h2
 go_enter Tryz.func97, Tryz.ntmps97
 go_wp2_with fail
 clear m0 t0 b2 c0 c1 c2 l1
 have HXd : Hid (TAt (w.alloc (.cells #[.int .i64 ra, .int .i64 (rl : Int), .int .i64 (rh : Int)] 89)).drew tb L T) := HX.out.drew
 have HFd : Hid (FrM mm L L w (w.alloc (.cells #[.int .i64 ra, .int .i64 (rl : Int), .int .i64 (rh : Int)] 89)).drew) := HF.out.trans (FrM.grew (Fr.refl _ _).drew)
 have HEd : Hid (Env xs mm (w.alloc (.cells #[.int .i64 ra, .int .i64 (rl : Int), .int .i64 (rh : Int)] 89)).drew L) := HE.out.fr (FrM.grew (Fr.refl _ _).drew)
 have HMd : Hid (MapIs 32 (w.alloc (.cells #[.int .i64 ra, .int .i64 (rl : Int), .int .i64 (rh : Int)] 89)).drew mm (mlV ml)) := HM.out.of rfl
 generalize (w.alloc (.cells #[.int .i64 ra, .int .i64 (rl : Int), .int .i64 (rh : Int)] 89)) = W at HE HB HXd HFd HEd HMd ⊢
 generalize w.heap.size = ba at HB hba0 hbam ⊢
 have HBA : Hid (L.own ba = 0 ∧ ba ≠ mm) := ⟨hba0, hbam⟩
 clear HX HF HM hba0 hbam hfl hf0
 have HBd : Hid (W.drew.heap[ba]? = some (.cells #[.int .i64 ra, .int .i64 (rl : Int), .int .i64 (rh : Int)] 89 (0, 0))) := HB.out
 have HJO : Hid (∀ (W' : World) (L' : Ly), Env xs mm W' L' → W'.cell? ⟨bj, 0, none⟩ = some (.func (.func 75) #[] #[]) ∧ W'.cell? ⟨bo, 0, none⟩ = some (.func (.func 97) #[] #[.pointer (some ⟨bm, 0, none⟩), .pointer (some ⟨bt, 0, none⟩), .pointer (some ⟨bj, 0, none⟩), .pointer (some ⟨bo, 0, none⟩)]) ∧ W'.cell? ⟨bm, 0, none⟩ = some (.map (some mm))) := fun W' L' hE' =>
  ⟨block_cell (hE'.at' _ (HXS.out (bj, .cells #[.func (.func 75) #[] #[]] 100 (0, 0)) (by simp [EBC]))) 0, block_cell (hE'.at' _ (HXS.out (bo, .cells #[.func (.func 97) #[] #[.pointer (some ⟨bm, 0, none⟩), .pointer (some ⟨bt, 0, none⟩), .pointer (some ⟨bj, 0, none⟩), .pointer (some ⟨bo, 0, none⟩)]] 68 (0, 0)) (by simp [EBC]))) 0, block_cell (hE'.at' _ (HXS.out (bm, .cells #[.map (some mm)] 124 (0, 0)) (by simp [EBC]))) 0⟩
 obtain ⟨x0, x1, -⟩ := HJO.out W L HE.out
 obtain ⟨y0, y1, -⟩ := HJO.out W.drew L HEd.out
 have x2 := block_cell HB.out 0
 have x3 := block_cell HB.out 1
 have x4 := block_cell HB.out 2
 have y2 := block_cell HBd.out 0
 have y3 := block_cell HBd.out 1
 have y4 := block_cell HBd.out 2
 clear HE HB
 go_wp2_with fail
 go_region_held3 (fun w' => w'.cell? ⟨bj, 0, none⟩ = some (.func (.func 75) #[] #[]) ∧ w'.cell? ⟨bo, 0, none⟩ = some (.func (.func 97) #[] #[.pointer (some ⟨bm, 0, none⟩), .pointer (some ⟨bt, 0, none⟩), .pointer (some ⟨bj, 0, none⟩), .pointer (some ⟨bo, 0, none⟩)]) ∧ w'.cell? ⟨ba, 0, none⟩ = some (.int .i64 ra) ∧ w'.cell? ⟨ba, 1, none⟩ = some (.int .i64 (rl : Int)) ∧ w'.cell? ⟨ba, 2, none⟩ = some (.int .i64 (rh : Int))) (first | (refine ⟨?_, ?_, ?_, ?_, ?_⟩ <;> assumption) | go_keep)
  ((first | (go_at_call 97; refine (HC2.out _ _ _ _ _ X5.out E5.out M5.out O5.out).mono ?_; rintro e W6 ⟨v2, T2, L2, ml2, rfl, hX6, hF6, hM6, hO6, q6a, q6b⟩; have EQ6 : Hid (T2 = T1 ∧ L2 = L1) := ⟨q6a, q6b⟩; clear q6a q6b; have O6 : Hid (OfP n lv M A K m T0 Val T1 ml1 rh T2 ml2 v2) := hO6; have X6 : Hid (TAt W6 tb L2 T2) := hX6; have E6 : Hid (Env xs mm W6 L2) := E5.out.fr hF6; have M6 : Hid (MapIs 32 W6 mm (mlV ml2)) := hM6; have F6 : Hid (FrM mm L L2 w W6) := F5.out.trans hF6; have B6 : Hid (W6.heap[ba]? = _) := (hF6.block ba (block_lt B5.out) BA5.out.1 BA5.out.2).trans B5.out; have BA6 : Hid (L2.own ba = 0 ∧ ba ≠ mm) := ⟨(hF6.own ba (block_lt B5.out)).trans BA5.out.1, BA5.out.2⟩; obtain ⟨k0, k1, -⟩ := HJO.out W6 L2 E6.out; have k2 := block_cell B6.out 0; have k3 := block_cell B6.out 1; have k4 := block_cell B6.out 2; clear hX6 hF6 hM6 hO6) | (go_at_call 97; refine (HC1.out _ HXd.out HEd.out HMd.out).mono ?_; rintro e W5 ⟨v1, T1, L1, ml1, rfl, hX5, hF5, hM5, hO5, q5a, q5b⟩; have EQ5 : Hid (T1 = T ∧ L1 = L) := ⟨q5a, q5b⟩; clear q5a q5b; have O5 : Hid (OfP n lv M A K m T0 Val T ml rl T1 ml1 v1) := hO5; have X5 : Hid (TAt W5 tb L1 T1) := hX5; have E5 : Hid (Env xs mm W5 L1) := HEd.out.fr hF5; have M5 : Hid (MapIs 32 W5 mm (mlV ml1)) := hM5; have F5 : Hid (FrM mm L L1 w W5) := HFd.out.trans hF5; have B5 : Hid (W5.heap[ba]? = _) := (hF5.block ba (block_lt HBd.out) HBA.out.1 HBA.out.2).trans HBd.out; have BA5 : Hid (L1.own ba = 0 ∧ ba ≠ mm) := ⟨(hF5.own ba (block_lt HBd.out)).trans HBA.out.1, HBA.out.2⟩; obtain ⟨z0', z1, -⟩ := HJO.out W5 L1 E5.out; have z2 := block_cell B5.out 0; have z3 := block_cell B5.out 1; have z4 := block_cell B5.out 2; clear hX5 hF5 hM5 hO5) | (go_at_call 75; refine (HC3.out _ _ _ _ _ _ _ _ X6.out E6.out O5.out O6.out).mono ?_; rintro e W7 ⟨v, T3, L3, rfl, hX7, hF7, hO7, q7a, q7b⟩; have EQ7 : Hid (T3 = T2 ∧ L3 = L2) := ⟨q7a, q7b⟩; clear q7a q7b; have O7 : Hid (JoinP n lv M A K Val T2 f T3 v) := hO7; have X7 : Hid (TAt W7 tb L3 T3) := hX7; have E7 : Hid (Env xs mm W7 L3) := E6.out.fr hF7.m; have M7 : Hid (MapIs 32 W7 mm (mlV ml2)) := M6.out.of (hF7.block mm M6.out.lt E6.out.om); have F7 : Hid (FrM mm L L3 w W7) := F6.out.trans hF7.m; have B7 : Hid (W7.heap[ba]? = _) := (hF7.block ba (block_lt B6.out) BA6.out.1).trans B6.out; obtain ⟨l0, l1, -⟩ := HJO.out W7 L3 E7.out; have l2 := block_cell B7.out 0; have l3 := block_cell B7.out 1; have l4 := block_cell B7.out 2; clear hX7 hF7 hO7)))
 obtain ⟨HEND, hab⟩ := HMAIN.out T1 T2 T3 ml1 ml2 v1 v2 v O5.out O6.out O7.out
 have HD : Hid (OfP n lv M A K (m + 1) T0 Val T ml f T3 (ml2 ++ [(f, v)]) v) := HEND
 obtain ⟨W8, p8, M8, f8, -⟩ := M7.out.put lawN Tryz.underlying124 (keyN HK.out.fits) (mlV_ne hab) (.int .i64 (v : Int))
 have HM8 : Hid (MapIs 32 W8 mm (mlV (ml2 ++ [(f, v)]))) := by rw [mlV_push]; exact M8
 have HX8 : Hid (TAt W8 tb L3 T3) := X7.out.besideM f8 E7.out.om
 have F8 : Hid (FrM mm L L3 w W8) := F7.out.trans (FrM.map f8)
 obtain ⟨-, -, m0⟩ := HJO.out W7 L3 E7.out
 clear x0 x1 x2 x3 x4 y0 y1 y2 y3 y4 z0' z1 z2 z3 z4 k0 k1 k2 k3 k4 l0 l1 l2 l3 l4 HC1 HC2 HC3 HMAIN HEND hab M8 f8 X7 E7 M7 F7 B7 O7 X6 E6 M6 F6 B6 BA6 O6 X5 E5 M5 F5 B5 BA5 O5 HXd HEd HMd HFd HBd HJO
 go_wp2_with fail
 go_ret
 exact ⟨v, T3, L3, _, rfl, HX8.out, F8.out, HM8.out, HD.out, EQ7.out.1.trans (EQ6.out.1.trans EQ5.out.1), EQ7.out.2.trans (EQ6.out.2.trans EQ5.out.2)⟩
theorem of_okC (hV : Mono n lv M A Val) (h0 : Tbl n lv z0 T0) (h0l : T0.rows.length ≤ 274877906944) (hJ : JoinOKC n lv M A K T0 Val xs mm tb) (hxs : ∀ p ∈ EBC tb bm bt bj bo mm, p ∈ xs) : ∀ m, OfOKC n lv M A K m T0 Val xs mm tb bm bt bj bo := by
 intro m
 induction m with
 | zero =>
   intro w L T ml f h hm hT hE hM hS hf hk hc
   have hfe : rk lv T0 f = n := by have := h0.rle f hf; omega
   obtain ⟨v, hv⟩ : ∃ v, (f, v) ∈ ml := by
    rcases h0.last hf hfe with rfl | rfl
    · exact hS.k0
    · exact hS.k1
   refine (of_hitC hxs hE hM hS.nd (hS.val _ hv).2 hv).mono ?_
   rintro e w' ⟨rfl, rfl⟩
   exact ⟨v, T, L, ml, rfl, h, FrT.m (FrT.refl _ _), hM, OfP.hit hm hS hv, rfl, rfl⟩
 | succ m ih =>
   intro w L T ml f h hm hT hE hM hS hf hk hc
   by_cases hx : ∃ q ∈ ml, q.1 = f
   · obtain ⟨⟨a, v⟩, hv, rfl⟩ := hx
     refine (of_hitC hxs hE hM hS.nd (hS.val _ hv).2 hv).mono ?_
     rintro e w' ⟨rfl, rfl⟩
     exact ⟨v, T, L, ml, rfl, h, FrT.m (FrT.refl _ _), hM, OfP.hit hm hS hv, rfl, rfl⟩
   · have h2 : 2 ≤ f := by
      by_cases e0 : f = 0
      · subst e0; obtain ⟨a, ha⟩ := hS.k0; exact absurd ⟨_, ha, rfl⟩ hx
      by_cases e1 : f = 1
      · subst e1; obtain ⟨a, ha⟩ := hS.k1; exact absurd ⟨_, ha, rfl⟩ hx
      omega
     exact of_missC hV h0 h0l hJ hxs ih w L T ml f h hm hT hE hM hS hf h2 hk hc fun p hp e => hx ⟨p, hp, e⟩
end
end Go.Proofs.YtaakjjefnjbabaaGreat.Sx
namespace Go.Proofs.YtaakjjefnjbabaaGreat.Sx
open Go.RowKit Go.Sort Go.Maps Go.WideMaps
def EBF (tb bm bt bj bo mm ca : Nat) : List (Nat × Obj) := [(bm, .cells #[.map (some mm)] 124 (0, 0)), (bt, .cells #[.pointer (some ⟨tb, 0, none⟩)] 36 (0, 0)), (bj, .cells #[.func (.func 77) #[] #[.pointer (some ⟨ca, 0, none⟩)]] 100 (0, 0)), (bo, .cells #[.func (.func 97) #[] #[.pointer (some ⟨bm, 0, none⟩), .pointer (some ⟨bt, 0, none⟩), .pointer (some ⟨bj, 0, none⟩), .pointer (some ⟨bo, 0, none⟩)]] 68 (0, 0))]
def JoinOKF (n : Nat) (lv : Nat → Nat) (M A K : Nat) (T0 : Tb) (Val : Tb → Nat → Nat → Prop) (xs : List (Nat × Obj)) (mm tb ca : Nat) : Prop := ∀ (W : World) (L : Ly) (T : Tb) (f : Nat) (r : Rw) (x y : Nat), 2 ≤ f → T0.rows[f]? = some r → r.about ≠ -1 → TAt W tb L T → Mid n lv M A T → More T0 T → Env xs mm W L → Val T r.low x → Val T r.high y → A + T.fresh.length + K ≤ M →
 Calls Tryz.prog 77 #[.int .i64 r.about, .int .i64 (x : Int), .int .i64 (y : Int), .pointer (some ⟨ca, 0, none⟩)] W fun e w' => ∃ (v : Nat) (T' : Tb) (L' : Ly), e = .returned (.int .i64 (v : Int)) ∧ TAt w' tb L' T' ∧ FrT L L' W w' ∧ JoinP n lv M A K Val T f T' v ∧ T' = T ∧ L' = L
def OfOKF (n : Nat) (lv : Nat → Nat) (M A K m : Nat) (T0 : Tb) (Val : Tb → Nat → Nat → Prop) (xs : List (Nat × Obj)) (mm tb bm bt bj bo : Nat) : Prop := ∀ (w : World) (L : Ly) (T : Tb) (ml : List (Nat × Nat)) (f : Nat), TAt w tb L T → Mid n lv M A T → More T0 T → Env xs mm w L → MapIs 32 w mm (mlV ml) → MS Val T ml → Live T0 f → n ≤ rk lv T0 f + m → A + T.fresh.length + (2 ^ m - 1) * K ≤ M →
 Calls Tryz.prog 97 #[.int .i64 (f : Int), .pointer (some ⟨bm, 0, none⟩), .pointer (some ⟨bt, 0, none⟩), .pointer (some ⟨bj, 0, none⟩), .pointer (some ⟨bo, 0, none⟩)] w fun e w' => ∃ (v : Nat) (T' : Tb) (L' : Ly) (ml' : List (Nat × Nat)), e = .returned (.int .i64 (v : Int)) ∧ TAt w' tb L' T' ∧ FrM mm L L' w w' ∧ MapIs 32 w' mm (mlV ml') ∧ OfP n lv M A K m T0 Val T ml f T' ml' v ∧ T' = T ∧ L' = L
section
variable {n : Nat} {lv : Nat → Nat} {M A K : Nat} {T0 : Tb} {Val : Tb → Nat → Nat → Prop} {xs : List (Nat × Obj)} {mm tb bm bt bj bo ca : Nat}
set_option maxHeartbeats 1000000 in
theorem of_hitF (hxs : ∀ p ∈ EBF tb bm bt bj bo mm ca, p ∈ xs) {w : World} {L : Ly} {ml : List (Nat × Nat)} (hE : Env xs mm w L) (hM : MapIs 32 w mm (mlV ml)) (hn : (ml.map Prod.fst).Nodup) {f v : Nat} (hf : Sm f) (hx : (f, v) ∈ ml) :
 Calls Tryz.prog 97 #[.int .i64 (f : Int), .pointer (some ⟨bm, 0, none⟩), .pointer (some ⟨bt, 0, none⟩), .pointer (some ⟨bj, 0, none⟩), .pointer (some ⟨bo, 0, none⟩)] w fun e w' => e = .returned (.int .i64 (v : Int)) ∧ w' = w := by
 have mo := follows
 have m0 := block_cell (hE.at' _ (hxs (bm, .cells #[.map (some mm)] 124 (0, 0)) (by simp [EBF]))) 0
 obtain ⟨k1, k2⟩ := mlV_hit hn hx
 have l1 := hM.hit lawN Tryz.underlying124 (keyN hf.fits) k1 k2 true
 rw [if_pos rfl] at l1
 clear hE hM hn hx k1 k2 hxs
 go_enter Tryz.func97, Tryz.ntmps97
 go_wp2_with fail
 go_ret
 exact ⟨rfl, rfl⟩
set_option maxHeartbeats 4000000 in
theorem of_missF {m : Nat} (hV : Mono n lv M A Val) (h0 : Tbl n lv z0 T0) (h0l : T0.rows.length ≤ 274877906944) (hJ : JoinOKF n lv M A K T0 Val xs mm tb ca) (hxs : ∀ p ∈ EBF tb bm bt bj bo mm ca, p ∈ xs) (hI : OfOKF n lv M A K m T0 Val xs mm tb bm bt bj bo) (w : World) (L : Ly) (T : Tb) (ml : List (Nat × Nat)) (f : Nat) (h : TAt w tb L T) (hm : Mid n lv M A T) (hT : More T0 T) (hE : Env xs mm w L) (hM : MapIs 32 w mm (mlV ml)) (hS : MS Val T ml) (hf : Live T0 f) (h2 : 2 ≤ f) (hk : n ≤ rk lv T0 f + (m + 1)) (hc : A + T.fresh.length + (2 ^ (m + 1) - 1) * K ≤ M) (hx : ∀ p ∈ ml, p.1 ≠ f) :
 Calls Tryz.prog 97 #[.int .i64 (f : Int), .pointer (some ⟨bm, 0, none⟩), .pointer (some ⟨bt, 0, none⟩), .pointer (some ⟨bj, 0, none⟩), .pointer (some ⟨bo, 0, none⟩)] w fun e w' => ∃ (v : Nat) (T' : Tb) (L' : Ly) (ml' : List (Nat × Nat)), e = .returned (.int .i64 (v : Int)) ∧ TAt w' tb L' T' ∧ FrM mm L L' w w' ∧ MapIs 32 w' mm (mlV ml') ∧ OfP n lv M A K (m + 1) T0 Val T ml f T' ml' v ∧ T' = T ∧ L' = L := by
 obtain ⟨r, hr, hd⟩ := id hf
 obtain ⟨q, hq, ea, el, eh, _⟩ := hT.keep f r hr hd
 obtain ⟨_, _, _, a4, a5, a6, a7⟩ := h0.inv.nd f r h2 hr hd
 have hfs : Sm f := by have := hf.lt; unfold Sm; omega
 have hbm := hE.at' _ (hxs (bm, .cells #[.map (some mm)] 124 (0, 0)) (by simp [EBF]))
 have hbt := hE.at' _ (hxs (bt, .cells #[.pointer (some ⟨tb, 0, none⟩)] 36 (0, 0)) (by simp [EBF]))
 have m0 := block_cell hbm 0
 have t0 := block_cell hbt 0
 obtain ⟨g, cap, G⟩ := h.rowsG hq
 have b2 := h.b2 G
 have hfl := lt_of_at hq
 have hf0 : (0 : Int) ≤ (f : Int) := by omega
 have c0 := G.c0 hq
 have c1 := G.c1 hq
 have c2 := G.c2 hq
 rw [ea] at c0
 rw [el] at c1
 rw [eh] at c2
 have l1 := hM.miss lawN Tryz.underlying124 (zeroI w) (keyN hfs.fits) (mlV_ne hx) true
 rw [if_pos rfl] at l1
 have hcs := cost_step m K
 have HC1 : Hid (∀ (W : World), TAt W tb L T → Env xs mm W L → MapIs 32 W mm (mlV ml) → Calls _ _ _ _ _) := fun W hW hEW hMW => hI W L T ml r.low hW hm hT hEW hMW hS a4 (by omega) (by omega)
 have HC2 : Hid (∀ (W : World) (L1 : Ly) (T1 : Tb) (ml1 : List (Nat × Nat)) (v1 : Nat), TAt W tb L1 T1 → Env xs mm W L1 → MapIs 32 W mm (mlV ml1) → OfP n lv M A K m T0 Val T ml r.low T1 ml1 v1 → Calls _ _ _ _ _) := fun W L1 T1 ml1 v1 hW hEW hMW hO => hI W L1 T1 ml1 r.high hW hO.mid (hT.trans hO.more) hEW hMW hO.ms a5 (by omega) (by have := hO.cost; omega)
 have HC3 : Hid (∀ (W : World) (L1 : Ly) (T1 T2 : Tb) (ml1 ml2 : List (Nat × Nat)) (v1 v2 : Nat), TAt W tb L1 T2 → Env xs mm W L1 → OfP n lv M A K m T0 Val T ml r.low T1 ml1 v1 → OfP n lv M A K m T0 Val T1 ml1 r.high T2 ml2 v2 → Calls _ _ _ _ _) := fun W L1 T1 T2 ml1 ml2 v1 v2 hW hEW hO hP => hJ W L1 T2 f r v1 v2 h2 hr hd hW hP.mid ((hT.trans hO.more).trans hP.more) hEW (hV T1 T2 _ _ hO.mid hP.more hO.val) hP.val (by have := hO.cost; have := hP.cost; omega)
 have HMAIN : Hid (∀ (T1 T2 T3 : Tb) (ml1 ml2 : List (Nat × Nat)) (v1 v2 v : Nat), OfP n lv M A K m T0 Val T ml r.low T1 ml1 v1 → OfP n lv M A K m T0 Val T1 ml1 r.high T2 ml2 v2 → JoinP n lv M A K Val T2 f T3 v → OfP n lv M A K (m + 1) T0 Val T ml f T3 (ml2 ++ [(f, v)]) v ∧ ∀ p ∈ ml2, p.1 ≠ f) := fun T1 T2 T3 ml1 ml2 v1 v2 v H1 H2 H3 => ⟨OfP.main hV h0 hr hd h2 hfs hx H1 H2 H3, OfP.absent h0 hr hd h2 hx H1 H2⟩
 have HK : Hid (Sm f) := hfs
 have HXS : Hid (∀ p ∈ EBF tb bm bt bj bo mm ca, p ∈ xs) := hxs
 obtain ⟨rl, hrl⟩ : ∃ rl, r.low = rl := ⟨_, rfl⟩
 obtain ⟨rh, hrh⟩ : ∃ rh, r.high = rh := ⟨_, rfl⟩
 obtain ⟨ra, hra⟩ : ∃ ra, r.about = ra := ⟨_, rfl⟩
 rw [hrl] at c1
 rw [hrh] at c2
 rw [hra] at c0
 rw [hrl] at HC1 HC2 HC3 HMAIN
 rw [hrh] at HC2 HC3 HMAIN
 rw [hra] at HC3
 have HX : Hid (TAt (w.alloc (.cells #[.int .i64 ra, .int .i64 (rl : Int), .int .i64 (rh : Int)] 89)) tb L T) := h.alloc _
 have HF : Hid (FrM mm L L w (w.alloc (.cells #[.int .i64 ra, .int .i64 (rl : Int), .int .i64 (rh : Int)] 89))) := FrM.grew ((Fr.refl _ w).alloc _)
 have HE : Hid (Env xs mm (w.alloc (.cells #[.int .i64 ra, .int .i64 (rl : Int), .int .i64 (rh : Int)] 89)) L) := hE.fr HF.out
 have HM : Hid (MapIs 32 (w.alloc (.cells #[.int .i64 ra, .int .i64 (rl : Int), .int .i64 (rh : Int)] 89)) mm (mlV ml)) := hM.of (heap_old hM.lt)
 have HB : Hid ((w.alloc (.cells #[.int .i64 ra, .int .i64 (rl : Int), .int .i64 (rh : Int)] 89)).heap[w.heap.size]? = some (.cells #[.int .i64 ra, .int .i64 (rl : Int), .int .i64 (rh : Int)] 89 (0, 0))) := heap_new rfl
 have hba0 := h.hi _ (Nat.le_refl _)
 have hbam : w.heap.size ≠ mm := by have := hE.lt; omega
 have mo := follows
 clear h hm hT hE hM hS hf hk hc hx hr hd hq ea el eh a4 a5 a6 a7 hfs hbm hbt G hcs hrl hrh hra hJ hI hV hxs h0 h0l h2
 go_enter Tryz.func97, Tryz.ntmps97
 go_wp2_with fail
 clear m0 t0 b2 c0 c1 c2 l1
 have HXd : Hid (TAt (w.alloc (.cells #[.int .i64 ra, .int .i64 (rl : Int), .int .i64 (rh : Int)] 89)).drew tb L T) := HX.out.drew
 have HFd : Hid (FrM mm L L w (w.alloc (.cells #[.int .i64 ra, .int .i64 (rl : Int), .int .i64 (rh : Int)] 89)).drew) := HF.out.trans (FrM.grew (Fr.refl _ _).drew)
 have HEd : Hid (Env xs mm (w.alloc (.cells #[.int .i64 ra, .int .i64 (rl : Int), .int .i64 (rh : Int)] 89)).drew L) := HE.out.fr (FrM.grew (Fr.refl _ _).drew)
 have HMd : Hid (MapIs 32 (w.alloc (.cells #[.int .i64 ra, .int .i64 (rl : Int), .int .i64 (rh : Int)] 89)).drew mm (mlV ml)) := HM.out.of rfl
 generalize (w.alloc (.cells #[.int .i64 ra, .int .i64 (rl : Int), .int .i64 (rh : Int)] 89)) = W at HE HB HXd HFd HEd HMd ⊢
 generalize w.heap.size = ba at HB hba0 hbam ⊢
 have HBA : Hid (L.own ba = 0 ∧ ba ≠ mm) := ⟨hba0, hbam⟩
 clear HX HF HM hba0 hbam hfl hf0
 have HBd : Hid (W.drew.heap[ba]? = some (.cells #[.int .i64 ra, .int .i64 (rl : Int), .int .i64 (rh : Int)] 89 (0, 0))) := HB.out
 have HJO : Hid (∀ (W' : World) (L' : Ly), Env xs mm W' L' → W'.cell? ⟨bj, 0, none⟩ = some (.func (.func 77) #[] #[.pointer (some ⟨ca, 0, none⟩)]) ∧ W'.cell? ⟨bo, 0, none⟩ = some (.func (.func 97) #[] #[.pointer (some ⟨bm, 0, none⟩), .pointer (some ⟨bt, 0, none⟩), .pointer (some ⟨bj, 0, none⟩), .pointer (some ⟨bo, 0, none⟩)]) ∧ W'.cell? ⟨bm, 0, none⟩ = some (.map (some mm))) := fun W' L' hE' =>
  ⟨block_cell (hE'.at' _ (HXS.out (bj, .cells #[.func (.func 77) #[] #[.pointer (some ⟨ca, 0, none⟩)]] 100 (0, 0)) (by simp [EBF]))) 0, block_cell (hE'.at' _ (HXS.out (bo, .cells #[.func (.func 97) #[] #[.pointer (some ⟨bm, 0, none⟩), .pointer (some ⟨bt, 0, none⟩), .pointer (some ⟨bj, 0, none⟩), .pointer (some ⟨bo, 0, none⟩)]] 68 (0, 0)) (by simp [EBF]))) 0, block_cell (hE'.at' _ (HXS.out (bm, .cells #[.map (some mm)] 124 (0, 0)) (by simp [EBF]))) 0⟩
 obtain ⟨x0, x1, -⟩ := HJO.out W L HE.out
 obtain ⟨y0, y1, -⟩ := HJO.out W.drew L HEd.out
 have x2 := block_cell HB.out 0
 have x3 := block_cell HB.out 1
 have x4 := block_cell HB.out 2
 have y2 := block_cell HBd.out 0
 have y3 := block_cell HBd.out 1
 have y4 := block_cell HBd.out 2
 clear HE HB
 go_wp2_with fail
 go_region_held3 (fun w' => w'.cell? ⟨bj, 0, none⟩ = some (.func (.func 77) #[] #[.pointer (some ⟨ca, 0, none⟩)]) ∧ w'.cell? ⟨bo, 0, none⟩ = some (.func (.func 97) #[] #[.pointer (some ⟨bm, 0, none⟩), .pointer (some ⟨bt, 0, none⟩), .pointer (some ⟨bj, 0, none⟩), .pointer (some ⟨bo, 0, none⟩)]) ∧ w'.cell? ⟨ba, 0, none⟩ = some (.int .i64 ra) ∧ w'.cell? ⟨ba, 1, none⟩ = some (.int .i64 (rl : Int)) ∧ w'.cell? ⟨ba, 2, none⟩ = some (.int .i64 (rh : Int))) (first | (refine ⟨?_, ?_, ?_, ?_, ?_⟩ <;> assumption) | go_keep)
  ((first | (go_at_call 97; refine (HC2.out _ _ _ _ _ X5.out E5.out M5.out O5.out).mono ?_; rintro e W6 ⟨v2, T2, L2, ml2, rfl, hX6, hF6, hM6, hO6, q6a, q6b⟩; have EQ6 : Hid (T2 = T1 ∧ L2 = L1) := ⟨q6a, q6b⟩; clear q6a q6b; have O6 : Hid (OfP n lv M A K m T0 Val T1 ml1 rh T2 ml2 v2) := hO6; have X6 : Hid (TAt W6 tb L2 T2) := hX6; have E6 : Hid (Env xs mm W6 L2) := E5.out.fr hF6; have M6 : Hid (MapIs 32 W6 mm (mlV ml2)) := hM6; have F6 : Hid (FrM mm L L2 w W6) := F5.out.trans hF6; have B6 : Hid (W6.heap[ba]? = _) := (hF6.block ba (block_lt B5.out) BA5.out.1 BA5.out.2).trans B5.out; have BA6 : Hid (L2.own ba = 0 ∧ ba ≠ mm) := ⟨(hF6.own ba (block_lt B5.out)).trans BA5.out.1, BA5.out.2⟩; obtain ⟨k0, k1, -⟩ := HJO.out W6 L2 E6.out; have k2 := block_cell B6.out 0; have k3 := block_cell B6.out 1; have k4 := block_cell B6.out 2; clear hX6 hF6 hM6 hO6) | (go_at_call 97; refine (HC1.out _ HXd.out HEd.out HMd.out).mono ?_; rintro e W5 ⟨v1, T1, L1, ml1, rfl, hX5, hF5, hM5, hO5, q5a, q5b⟩; have EQ5 : Hid (T1 = T ∧ L1 = L) := ⟨q5a, q5b⟩; clear q5a q5b; have O5 : Hid (OfP n lv M A K m T0 Val T ml rl T1 ml1 v1) := hO5; have X5 : Hid (TAt W5 tb L1 T1) := hX5; have E5 : Hid (Env xs mm W5 L1) := HEd.out.fr hF5; have M5 : Hid (MapIs 32 W5 mm (mlV ml1)) := hM5; have F5 : Hid (FrM mm L L1 w W5) := HFd.out.trans hF5; have B5 : Hid (W5.heap[ba]? = _) := (hF5.block ba (block_lt HBd.out) HBA.out.1 HBA.out.2).trans HBd.out; have BA5 : Hid (L1.own ba = 0 ∧ ba ≠ mm) := ⟨(hF5.own ba (block_lt HBd.out)).trans HBA.out.1, HBA.out.2⟩; obtain ⟨z0', z1, -⟩ := HJO.out W5 L1 E5.out; have z2 := block_cell B5.out 0; have z3 := block_cell B5.out 1; have z4 := block_cell B5.out 2; clear hX5 hF5 hM5 hO5) | (go_at_call 77; refine (HC3.out _ _ _ _ _ _ _ _ X6.out E6.out O5.out O6.out).mono ?_; rintro e W7 ⟨v, T3, L3, rfl, hX7, hF7, hO7, q7a, q7b⟩; have EQ7 : Hid (T3 = T2 ∧ L3 = L2) := ⟨q7a, q7b⟩; clear q7a q7b; have O7 : Hid (JoinP n lv M A K Val T2 f T3 v) := hO7; have X7 : Hid (TAt W7 tb L3 T3) := hX7; have E7 : Hid (Env xs mm W7 L3) := E6.out.fr hF7.m; have M7 : Hid (MapIs 32 W7 mm (mlV ml2)) := M6.out.of (hF7.block mm M6.out.lt E6.out.om); have F7 : Hid (FrM mm L L3 w W7) := F6.out.trans hF7.m; have B7 : Hid (W7.heap[ba]? = _) := (hF7.block ba (block_lt B6.out) BA6.out.1).trans B6.out; obtain ⟨l0, l1, -⟩ := HJO.out W7 L3 E7.out; have l2 := block_cell B7.out 0; have l3 := block_cell B7.out 1; have l4 := block_cell B7.out 2; clear hX7 hF7 hO7)))
 obtain ⟨HEND, hab⟩ := HMAIN.out T1 T2 T3 ml1 ml2 v1 v2 v O5.out O6.out O7.out
 have HD : Hid (OfP n lv M A K (m + 1) T0 Val T ml f T3 (ml2 ++ [(f, v)]) v) := HEND
 obtain ⟨W8, p8, M8, f8, -⟩ := M7.out.put lawN Tryz.underlying124 (keyN HK.out.fits) (mlV_ne hab) (.int .i64 (v : Int))
 have HM8 : Hid (MapIs 32 W8 mm (mlV (ml2 ++ [(f, v)]))) := by rw [mlV_push]; exact M8
 have HX8 : Hid (TAt W8 tb L3 T3) := X7.out.besideM f8 E7.out.om
 have F8 : Hid (FrM mm L L3 w W8) := F7.out.trans (FrM.map f8)
 obtain ⟨-, -, m0⟩ := HJO.out W7 L3 E7.out
 clear x0 x1 x2 x3 x4 y0 y1 y2 y3 y4 z0' z1 z2 z3 z4 k0 k1 k2 k3 k4 l0 l1 l2 l3 l4 HC1 HC2 HC3 HMAIN HEND hab M8 f8 X7 E7 M7 F7 B7 O7 X6 E6 M6 F6 B6 BA6 O6 X5 E5 M5 F5 B5 BA5 O5 HXd HEd HMd HFd HBd HJO
 go_wp2_with fail
 go_ret
 exact ⟨v, T3, L3, _, rfl, HX8.out, F8.out, HM8.out, HD.out, EQ7.out.1.trans (EQ6.out.1.trans EQ5.out.1), EQ7.out.2.trans (EQ6.out.2.trans EQ5.out.2)⟩
theorem of_okF (hV : Mono n lv M A Val) (h0 : Tbl n lv z0 T0) (h0l : T0.rows.length ≤ 274877906944) (hJ : JoinOKF n lv M A K T0 Val xs mm tb ca) (hxs : ∀ p ∈ EBF tb bm bt bj bo mm ca, p ∈ xs) : ∀ m, OfOKF n lv M A K m T0 Val xs mm tb bm bt bj bo := by
 intro m
 induction m with
 | zero =>
   intro w L T ml f h hm hT hE hM hS hf hk hc
   have hfe : rk lv T0 f = n := by have := h0.rle f hf; omega
   obtain ⟨v, hv⟩ : ∃ v, (f, v) ∈ ml := by
    rcases h0.last hf hfe with rfl | rfl
    · exact hS.k0
    · exact hS.k1
   refine (of_hitF hxs hE hM hS.nd (hS.val _ hv).2 hv).mono ?_
   rintro e w' ⟨rfl, rfl⟩
   exact ⟨v, T, L, ml, rfl, h, FrT.m (FrT.refl _ _), hM, OfP.hit hm hS hv, rfl, rfl⟩
 | succ m ih =>
   intro w L T ml f h hm hT hE hM hS hf hk hc
   by_cases hx : ∃ q ∈ ml, q.1 = f
   · obtain ⟨⟨a, v⟩, hv, rfl⟩ := hx
     refine (of_hitF hxs hE hM hS.nd (hS.val _ hv).2 hv).mono ?_
     rintro e w' ⟨rfl, rfl⟩
     exact ⟨v, T, L, ml, rfl, h, FrT.m (FrT.refl _ _), hM, OfP.hit hm hS hv, rfl, rfl⟩
   · have h2 : 2 ≤ f := by
      by_cases e0 : f = 0
      · subst e0; obtain ⟨a, ha⟩ := hS.k0; exact absurd ⟨_, ha, rfl⟩ hx
      by_cases e1 : f = 1
      · subst e1; obtain ⟨a, ha⟩ := hS.k1; exact absurd ⟨_, ha, rfl⟩ hx
      omega
     exact of_missF hV h0 h0l hJ hxs ih w L T ml f h hm hT hE hM hS hf h2 hk hc fun p hp e => hx ⟨p, hp, e⟩
end
end Go.Proofs.YtaakjjefnjbabaaGreat.Sx
