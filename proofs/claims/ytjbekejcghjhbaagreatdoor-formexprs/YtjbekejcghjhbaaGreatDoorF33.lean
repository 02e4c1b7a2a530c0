/- The reference: what stands behind a first. -/
import Derived.Test.YtjbekejcghjhbaaGreatDoorF32
namespace Go.Proofs.YtjbekejcghjhbaaGreatDoor.Sx
open Go.RowKit Go.Sort

theorem arg1 (W : World) (a : Value) : ∀ (k : Nat) (u : Value), [a][k]? = some u → (W.alloc (.cells #[a] 57)).cell? ((⟨W.heap.size, 0, none⟩ : Addr).add k) = some u := by
  intro k u hk
  match k, hk with
  | 0, hk => simp at hk; subst hk; simp [Addr.add]
  | k + 1, hk => simp at hk
theorem one1 {a : Value} (ha : a.oneCell' = true) : ∀ u ∈ [a], u.oneCell' = true := by
  intro u hu
  simp only [List.mem_cons, List.not_mem_nil, or_false] at hu
  rw [hu]; exact ha
set_option maxRecDepth 100000 in
set_option maxHeartbeats 4000000 in
theorem gbehind_any {K : Nat → Tk} {N br bl : Nat} {self : Nat → Nat → Nat → RX PX} (hS : SelfR K N br bl self) (hK : ∀ i, TkOK (K i)) (hL : Last K N) (hN : N ≤ 1000000) (hz : ∀ i, (K i).tx.length ≤ 4000) (hn : ∀ i, NumOK (K i)) (w : World) (d m i : Nat) (hd : d ≤ 24) (hm : m ≤ 1000000) (h : RSd K N w br bl (.ok i) d)
    (r : Except (Nat × Nat) (PX × Nat)) (hr : tightX K self m d i = some r) :
    Calls Tryz.prog 113 #[.pointer (some ⟨br, 0, none⟩)] w (PostT K N w br bl d r) := by
  have HS : Hid (SelfR K N br bl self) := hS
  have HK : Hid (∀ i, TkOK (K i)) := hK
  have HL : Hid (Last K N) := hL
  have hbr := h.lt
  have hbll := h.row.1
  obtain ⟨q, h1, hk⟩ := runS_bX (s := .ok i) (f := firstX K self m d) noX hr
  have HC : Hid (Calls _ _ _ _ _) := gfirst_any hS hK hL hN hz hn w d m (.ok i) (fun _ => hd) hm h q h1
  have H0 : Hid (runS (stX q) (fun j => behindX K self m d m (valX noX q) j) = some r) := hk
  obtain ⟨i0, hi0, hz0, hz1, hz2⟩ : ∃ i0, Tryz.prog.info? 57 = some i0 ∧ i0.zero = some (.pointer none) ∧ i0.size = 1 ∧ i0.bytes = 8 := by
    have := infoT
    cases hq : Tryz.prog.info? 57 with
    | none => rw [hq] at this; simp at this
    | some j => rw [hq] at this; simp at this; exact ⟨j, rfl, this.1, this.2.1, this.2.2⟩
  clear hS hK hL h hr h1 hk hz hn
  have mo := follows
  go_enter Tryz.func113, Tryz.ntmps113
  go_wp2_with fail
  refine HC.out.mono ?_
  rintro e W1 ⟨hf1, hr1, b1, rfl, ht1⟩
  have R1 : Hid (RSd K N W1 br bl (stX q) d) := hr1
  have F1 : Hid (Fr (· ≠ br) w W1) := hf1
  have T1 : Hid (OkS (stX q) → TreeT (fun k => w.heap.size ≤ k) W1 (valX noX q) (.pointer (some ⟨b1, 0, none⟩))) := fun o => by
    obtain ⟨j, e⟩ := ok_val noX o
    exact ht1 _ _ e
  clear hf1 hr1 ht1 HC
  go_wp2_with fail
  go_loopg [3] (m) (fun f s3 wr => ∃ (s : SX) (x : PX) (b : Nat), s3 = .pointer (some ⟨b, 0, none⟩) ∧ Hid (RSd K N wr br bl s d) ∧ Hid (OkS s → TreeT (fun k => w.heap.size ≤ k) wr x (.pointer (some ⟨b, 0, none⟩))) ∧ Hid (runS s (fun j => behindX K self m d f x j) = some r) ∧ Hid (Fr (· ≠ br) w wr))
  case atStart => exact ⟨stX q, valX noX q, b1, rfl, R1, T1, H0, F1⟩
  case round =>
    clear R1 F1 T1 H0
    obtain ⟨s1, x1, bx, rfl, R1, T1, P1, F1⟩ := hrel
    obtain ⟨e3, hfault⟩ := R1.out.err
    rcases s1 with ⟨c, p⟩ | i1
    · have hc := hfault c p rfl
      simp only [ec] at e3
      have HQ : Hid (r = .error (c, p)) := by have := P1.out; simp only [runS, Option.some.injEq] at this; exact this.symm
      clear hfault P1
      go_wp2_with fail
      go_ret
      rw [HQ.out]
      exact ⟨F1.out, R1.out, bx, rfl, fun l j e => by simp at e⟩
    · obtain ⟨f, rfl⟩ : ∃ f, gk = f + 1 := by
        cases gk with
        | zero => exact absurd P1.out (by simp [behindX, runS])
        | succ f => exact ⟨f, rfl⟩
      simp only [ec] at e3
      have HT1 : Hid (TreeT (fun k => w.heap.size ≤ k) wr x1 (.pointer (some ⟨bx, 0, none⟩))) := T1.out ⟨i1, rfl⟩
      have HB : Hid _ := behind_cases (show behindX K self m d (f + 1) x1 i1 = some r from P1.out)
      obtain ⟨cap, bad, dd, hb, hI, hne, hbl, t0, t1, t2⟩ := R1.out.open
      obtain ⟨hdr, u0, u1, u2⟩ := RS.cells hb hbl t0 t1 t2
      have c0 := block_cell hb 0
      have c1 := block_cell hb 1
      have c3 := block_cell hb 3
      have k0 := block_cell hdr 0
      have k1 := block_cell hdr 1
      have hbw := block_lt hb
      have hww := F1.out.size
      have hI1 : (i1 : Int) < ((N + 1 : Nat) : Int) := by omega
      obtain ⟨sb, hsb⟩ : ∃ sb, sortB (K i1).cl = sb := ⟨_, rfl⟩
      obtain ⟨tx, htx⟩ : ∃ tx, tokB (K i1) = tx := ⟨_, rfl⟩
      obtain ⟨aa, haa⟩ : ∃ aa, (K i1).at' = aa := ⟨_, rfl⟩
      rw [hsb] at t0 u0
      rw [htx] at t1 u1
      rw [haa] at t2 u2
      clear hb hdr hsb htx haa hfault P1 T1 e3
      go_wp2_with fail
      go_big_region_o
      have T2 : Hid (TBlk _ wr.heap.size sb tx (aa : Int)) := TBlk.new wr sb tx (aa : Int)
      have G2 : Hid (Grew wr (wr.alloc (.cells #[.int .u8 (sb : Int), .string tx, .int .i64 (aa : Int)] 106)).drew) := ((Grew.refl wr).alloc _).drew
      clear c0 c1 c3 k0 k1 u0 u1 u2 t0 t1 t2 hI1
      generalize (wr.alloc (.cells #[.int .u8 (sb : Int), .string tx, .int .i64 (aa : Int)] 106)).drew = W2 at G2 T2 ⊢
      obtain ⟨bt, hbt⟩ : ∃ bt, wr.heap.size = bt := ⟨_, rfl⟩
      rw [hbt] at T2 hbw hww ⊢
      have htw : bt ≤ wr.heap.size := by omega
      have hwt : wr.heap.size ≤ bt := by omega
      clear hbt
      have hbtr : bt ≠ br := by omega
      have R2 : Hid (RSd K N W2 br bl (.ok i1) d) := R1.out.grew G2.out
      have F2 : Hid (Fr (· ≠ br) w W2) := F1.out.trans (Fr.grew G2.out)
      have X2 : Hid (TreeT (fun k => w.heap.size ≤ k) W2 x1 (.pointer (some ⟨bx, 0, none⟩))) := HT1.out.fr (Fr.grew G2.out) fun _ _ q => q
      clear HT1 R1 F1 G2
      obtain ⟨bq, hbq⟩ : ∃ b, isS K (.ok i1) [91] = b := ⟨_, rfl⟩
      go_wp2_with fail
      refine (gNext_d HK.out W2 br bl (.ok i1) d ⟨#[91]⟩ (by decide) R2.out bq hbq).mono ?_
      rintro e W3 ⟨rfl, g3⟩
      have R3 : Hid (RSd K N W3 br bl (.ok i1) d) := R2.out.grew g3
      have F3 : Hid (Fr (· ≠ br) w W3) := F2.out.trans (Fr.grew g3)
      have X3 : Hid (TreeT (fun k => w.heap.size ≤ k) W3 x1 (.pointer (some ⟨bx, 0, none⟩))) := X2.out.fr (Fr.grew g3) fun _ _ q => q
      have T3 : Hid (TBlk W3 bt sb tx (aa : Int)) := T2.out.grew g3
      clear g3 R2 F2 X2 T2
      go_wp2_with fail
      refine (gTake_d HK.out HL.out W3 br bl (.ok i1) d ⟨#[46]⟩ (by decide) hN R3.out).mono ?_
      rintro e W4 ⟨rfl, hr4, hf4⟩
      have R4 : Hid (RSd K N W4 br bl (takeS K (.ok i1) [46]) d) := hr4
      have F4 : Hid (Fr (· ≠ br) w W4) := F3.out.trans hf4
      have X4 : Hid (TreeT (fun k => w.heap.size ≤ k) W4 x1 (.pointer (some ⟨bx, 0, none⟩))) := X3.out.fr (hf4.mono fun k q => by omega) fun _ _ q => q
      have T4 : Hid (TBlk W4 bt sb tx (aa : Int)) := T3.out.fr hf4 hbtr
      clear hr4 hf4 R3 F3 X3 T3
      obtain ⟨bp, hbp⟩ : ∃ b, isS K (.ok i1) (ByteArray.mk #[46]).data.toList = b := ⟨_, rfl⟩
      rw [hbp]
      have HBQ : Hid (((K i1).tx == [91]) = bq) := hbq
      have HBP : Hid (((K i1).tx == [46]) = bp) := hbp
      clear hbq hbp
      rcases HB.out with ⟨z1, r1, h1, hk⟩ | ⟨z1, z2, r1, h1, hk⟩ | ⟨z1, z2, hre⟩
      · obtain rfl : true = bq := by rw [← HBQ.out, z1]
        have hiN : i1 < N := HL.out.lt hI (m := [91]) (by simpa using z1) (by decide)
        have hz2 : ((K i1).tx == [46]) = false := by rw [eq_of_beq z1]; decide
        have R4' : Hid (RSd K N W4 br bl (.ok i1) d) := by
          have := R4.out
          rw [show takeS K (.ok i1) [46] = .ok i1 from by simp only [takeS, hz2]; rfl] at this
          exact this
        have H1 : Hid (runS (inS K i1 d) (self 0 (d + 1)) = some r1) := h1
        have HK1 : Hid (runS (stX r1) _ = some r) := hk
        clear R4 HB HBQ HBP z1 hz2 h1 hk
        go_wp2_with fail
        refine (gin_d hN W4 br bl i1 d hd hiN R4'.out).mono ?_
        rintro e W5 ⟨rfl, hr5, hf5⟩
        have R5 : Hid (RSd K N W5 br bl (inS K i1 d) (d + 1)) := hr5
        have F5 : Hid (Fr (· ≠ br) w W5) := F4.out.trans hf5
        have X5 : Hid (TreeT (fun k => w.heap.size ≤ k) W5 x1 (.pointer (some ⟨bx, 0, none⟩))) := X4.out.fr (hf5.mono fun k q => by omega) fun _ _ q => q
        have T5 : Hid (TBlk W5 bt sb tx (aa : Int)) := T4.out.fr hf5 hbtr
        clear hr5 hf5 R4' F4 X4 T4
        go_wp2_with fail
        refine (HS.out W5 0 (d + 1) (inS K i1 d) r1 (by omega) (in_ok hd) R5.out H1.out).mono ?_
        rintro e W6 ⟨hf6, hr6, bk, rfl, ht6⟩
        have R6 : Hid (RSd K N W6 br bl (stX r1) (d + 1)) := hr6
        have F6 : Hid (Fr (· ≠ br) w W6) := F5.out.trans hf6
        have X6 : Hid (TreeT (fun k => w.heap.size ≤ k) W6 x1 (.pointer (some ⟨bx, 0, none⟩))) := X5.out.fr (hf6.mono fun k q => by omega) fun _ _ q => q
        have T6 : Hid (TBlk W6 bt sb tx (aa : Int)) := T5.out.fr hf6 hbtr
        have hz5 := F5.out.size
        have Y6 : Hid (OkS (stX r1) → TreeT (fun k => w.heap.size ≤ k) W6 (valX noX r1) (.pointer (some ⟨bk, 0, none⟩))) := fun o => by
          obtain ⟨j, e⟩ := ok_val noX o
          exact (ht6 _ _ e).fr (Fr.refl _ _) fun _ _ q => by omega
        have hz6 := F6.out.size
        clear hf6 hr6 ht6 R5 F5 X5 T5
        have q2 := block_cell T6.out 2
        have hbt6 := block_lt T6.out
        go_wp2_with fail
        have hG : Grew W6 ((W6.alloc (.cells #[.pointer (some ⟨bx, 0, none⟩), .pointer (some ⟨bk, 0, none⟩)] 57)).alloc (.cells #[.string ⟨#[97, 116]⟩, .int .i64 (aa : Int), .string ⟨#[]⟩, .int .i64 0, .int .i64 0, .string ⟨#[]⟩, .slice none 0 0, .slice none 0 0, .slice (some ⟨W6.heap.size, 0, none⟩) 2 2, .int .i64 0, .int .i64 0] 165)) := ((Grew.refl _).alloc _).alloc _
        have R7 : Hid (RSd K N ((W6.alloc (.cells #[.pointer (some ⟨bx, 0, none⟩), .pointer (some ⟨bk, 0, none⟩)] 57)).alloc (.cells #[.string ⟨#[97, 116]⟩, .int .i64 (aa : Int), .string ⟨#[]⟩, .int .i64 0, .int .i64 0, .string ⟨#[]⟩, .slice none 0 0, .slice none 0 0, .slice (some ⟨W6.heap.size, 0, none⟩) 2 2, .int .i64 0, .int .i64 0] 165)) br bl (stX r1) (d + 1)) := R6.out.grew hG
        have F7 : Hid (Fr (· ≠ br) w ((W6.alloc (.cells #[.pointer (some ⟨bx, 0, none⟩), .pointer (some ⟨bk, 0, none⟩)] 57)).alloc (.cells #[.string ⟨#[97, 116]⟩, .int .i64 (aa : Int), .string ⟨#[]⟩, .int .i64 0, .int .i64 0, .string ⟨#[]⟩, .slice none 0 0, .slice none 0 0, .slice (some ⟨W6.heap.size, 0, none⟩) 2 2, .int .i64 0, .int .i64 0] 165))) := F6.out.trans (Fr.grew hG)
        have E7 : Hid (XBlk ((W6.alloc (.cells #[.pointer (some ⟨bx, 0, none⟩), .pointer (some ⟨bk, 0, none⟩)] 57)).alloc (.cells #[.string ⟨#[97, 116]⟩, .int .i64 (aa : Int), .string ⟨#[]⟩, .int .i64 0, .int .i64 0, .string ⟨#[]⟩, .slice none 0 0, .slice none 0 0, .slice (some ⟨W6.heap.size, 0, none⟩) 2 2, .int .i64 0, .int .i64 0] 165)) (W6.heap.size + 1) ⟨#[97, 116]⟩ (aa : Int) ⟨#[]⟩ 0 0 ⟨#[]⟩ (some ⟨W6.heap.size, 0, none⟩) 2 2) := heap_new (allocT_size W6 _)
        have hgr : (W6.alloc (.cells #[.pointer (some ⟨bx, 0, none⟩), .pointer (some ⟨bk, 0, none⟩)] 57)).heap[W6.heap.size]? = some (.cells #[.pointer (some ⟨bx, 0, none⟩), .pointer (some ⟨bk, 0, none⟩)] 57 (0, 0)) := heap_new rfl
        have G7 : Hid (((W6.alloc (.cells #[.pointer (some ⟨bx, 0, none⟩), .pointer (some ⟨bk, 0, none⟩)] 57)).alloc (.cells #[.string ⟨#[97, 116]⟩, .int .i64 (aa : Int), .string ⟨#[]⟩, .int .i64 0, .int .i64 0, .string ⟨#[]⟩, .slice none 0 0, .slice none 0 0, .slice (some ⟨W6.heap.size, 0, none⟩) 2 2, .int .i64 0, .int .i64 0] 165)).heap[W6.heap.size]? = some (.cells #[.pointer (some ⟨bx, 0, none⟩), .pointer (some ⟨bk, 0, none⟩)] 57 (0, 0))) := ((Fr.grew (P := fun _ => True) ((Grew.refl _).alloc _)).block _ (block_lt hgr) trivial).trans hgr
        have X7 : Hid (TreeT (fun k => w.heap.size ≤ k ∧ k < W6.heap.size) ((W6.alloc (.cells #[.pointer (some ⟨bx, 0, none⟩), .pointer (some ⟨bk, 0, none⟩)] 57)).alloc (.cells #[.string ⟨#[97, 116]⟩, .int .i64 (aa : Int), .string ⟨#[]⟩, .int .i64 0, .int .i64 0, .string ⟨#[]⟩, .slice none 0 0, .slice none 0 0, .slice (some ⟨W6.heap.size, 0, none⟩) 2 2, .int .i64 0, .int .i64 0] 165)) x1 (.pointer (some ⟨bx, 0, none⟩))) := X6.out.fr (Fr.grew hG) fun k hk q => ⟨q, hk⟩
        have Y7 : Hid (OkS (stX r1) → TreeT (fun k => w.heap.size ≤ k ∧ k < W6.heap.size) ((W6.alloc (.cells #[.pointer (some ⟨bx, 0, none⟩), .pointer (some ⟨bk, 0, none⟩)] 57)).alloc (.cells #[.string ⟨#[97, 116]⟩, .int .i64 (aa : Int), .string ⟨#[]⟩, .int .i64 0, .int .i64 0, .string ⟨#[]⟩, .slice none 0 0, .slice none 0 0, .slice (some ⟨W6.heap.size, 0, none⟩) 2 2, .int .i64 0, .int .i64 0] 165)) (valX noX r1) (.pointer (some ⟨bk, 0, none⟩))) := fun o => (Y6.out o).fr (Fr.grew hG) fun k hk q => ⟨q, hk⟩
        have A7 : Hid (OkS (stX r1) → TreeT (fun k => w.heap.size ≤ k) ((W6.alloc (.cells #[.pointer (some ⟨bx, 0, none⟩), .pointer (some ⟨bk, 0, none⟩)] 57)).alloc (.cells #[.string ⟨#[97, 116]⟩, .int .i64 (aa : Int), .string ⟨#[]⟩, .int .i64 0, .int .i64 0, .string ⟨#[]⟩, .slice none 0 0, .slice none 0 0, .slice (some ⟨W6.heap.size, 0, none⟩) 2 2, .int .i64 0, .int .i64 0] 165)) (dAt x1 (valX noX r1)) (.pointer (some ⟨W6.heap.size + 1, 0, none⟩))) := fun o => newT (nm := ⟨#[]⟩) (kids := [x1, valX noX r1]) rfl (by decide) (fun k y e => by
          match k, e with
          | 0, e => simp at e; subst e; exact ⟨_, rfl, X6.out⟩
          | 1, e => simp at e; subst e; exact ⟨_, rfl, Y6.out o⟩
          | k + 2, e => simp at e) hz6 (.inr (.inr (.inr (.inr (.inr (.inr (.inr (.inr (.inr (.inr (.inr (.inr (.inr (.inr (.inr (.inr (.inr (.inl ⟨rfl, _, _, rfl, rfl⟩))))))))))))))))))
        clear hG hgr R6 F6 T6 X6 Y6 q2
        generalize ((W6.alloc (.cells #[.pointer (some ⟨bx, 0, none⟩), .pointer (some ⟨bk, 0, none⟩)] 57)).alloc (.cells #[.string ⟨#[97, 116]⟩, .int .i64 (aa : Int), .string ⟨#[]⟩, .int .i64 0, .int .i64 0, .string ⟨#[]⟩, .slice none 0 0, .slice none 0 0, .slice (some ⟨W6.heap.size, 0, none⟩) 2 2, .int .i64 0, .int .i64 0] 165)) = W7 at R7 F7 E7 G7 X7 Y7 A7 ⊢
        obtain ⟨g, hg⟩ : ∃ g, W6.heap.size = g := ⟨_, rfl⟩
        rw [hg] at E7 G7 X7 Y7 A7 hz6 hbt6 ⊢
        clear hg
        have hgbr : g ≠ br := by omega
        have hger : g + 1 ≠ br := by omega
        obtain ⟨bu, hbu⟩ : ∃ b, isS K (stX r1) [58, 61] = b := ⟨_, rfl⟩
        have HTK : Hid (Calls Tryz.prog 111 #[.pointer (some ⟨br, 0, none⟩), .string ⟨#[58, 61]⟩] W7 fun e w' => e = .returned (.bool bu) ∧ RSd K N w' br bl (takeS K (stX r1) [58, 61]) (d + 1) ∧ Fr (· ≠ br) W7 w') := by
          have := gTake_d HK.out HL.out W7 br bl (stX r1) (d + 1) ⟨#[58, 61]⟩ (by decide) hN R7.out
          rw [show (⟨#[58, 61]⟩ : ByteArray).data.toList = [58, 61] from rfl, hbu] at this
          exact this
        cases bu with
        | false =>
          obtain ⟨htk, hk2⟩ := if_done (A := fun j => bX (self 0 (d + 1) j) fun v j => needX K [93] j fun j => behindX K self m d f (dPut x1 (valX noX r1) v) j) (B := fun j => needX K [93] j fun j => behindX K self m d f (dAt x1 (valX noX r1)) j) hbu HK1.out
          have HP2 : Hid (runS (wantS K (stX r1) [93]) (fun j => behindX K self m d f (dAt x1 (valX noX r1)) j) = some r) := want_run hk2
          rw [htk] at HTK
          clear hbu htk hk2 HK1 E7 G7 X7 Y7
          refine HTK.out.mono ?_
          rintro e W8 ⟨rfl, hr8, hf8⟩
          have R8 : Hid (RSd K N W8 br bl (stX r1) (d + 1)) := hr8
          have F8 : Hid (Fr (· ≠ br) w W8) := F7.out.trans hf8
          have A8 : Hid (OkS (stX r1) → TreeT (fun k => w.heap.size ≤ k) W8 (dAt x1 (valX noX r1)) (.pointer (some ⟨g + 1, 0, none⟩))) := fun o => (A7.out o).fr (hf8.mono fun k q => by omega) fun _ _ q => q
          clear hr8 hf8 R7 F7 A7 HTK
          go_wp2_with fail
          refine (gWant_d HK.out HL.out W8 br bl _ (d + 1) ⟨#[93]⟩ (by decide) hN R8.out).mono ?_
          rintro e W9 ⟨rfl, hr9, hf9⟩
          have R9 : Hid (RSd K N W9 br bl (wantS K (stX r1) [93]) (d + 1)) := hr9
          have F9 : Hid (Fr (· ≠ br) w W9) := F8.out.trans hf9
          have A9 : Hid (OkS (stX r1) → TreeT (fun k => w.heap.size ≤ k) W9 (dAt x1 (valX noX r1)) (.pointer (some ⟨g + 1, 0, none⟩))) := fun o => (A8.out o).fr (hf9.mono fun k q => by omega) fun _ _ q => q
          clear hr9 hf9 R8 F8 A8
          go_wp2_with fail
          refine (gout_d W9 br bl _ d hd R9.out).mono ?_
          rintro e W10 ⟨rfl, hr10, hf10⟩
          have R10 : Hid (RSd K N W10 br bl (wantS K (stX r1) [93]) d) := hr10
          have F10 : Hid (Fr (· ≠ br) w W10) := F9.out.trans hf10
          have A10 : Hid (OkS (wantS K (stX r1) [93]) → TreeT (fun k => w.heap.size ≤ k) W10 (dAt x1 (valX noX r1)) (.pointer (some ⟨g + 1, 0, none⟩))) := fun o => (A9.out (want_ok o)).fr (hf10.mono fun k q => by omega) fun _ _ q => q
          clear hr10 hf10 R9 F9 A9
          go_wp2_with fail
          go_roundg f
          case measure => omega
          case rel => exact ⟨_, _, g + 1, rfl, R10, A10, HP2, F10⟩
        | true =>
          obtain ⟨j1, htk, ho1, hk2⟩ := if_more (A := fun j => bX (self 0 (d + 1) j) fun v j => needX K [93] j fun j => behindX K self m d f (dPut x1 (valX noX r1) v) j) (B := fun j => needX K [93] j fun j => behindX K self m d f (dAt x1 (valX noX r1)) j) hbu HK1.out
          obtain ⟨r2, h2, hk3⟩ := runS_bX (s := .ok (j1 + 1)) (f := self 0 (d + 1)) noX hk2
          have HP2 : Hid (runS (wantS K (stX r2) [93]) (fun j => behindX K self m d f (dPut x1 (valX noX r1) (valX noX r2)) j) = some r) := want_run hk3
          have H2 : Hid (runS (.ok (j1 + 1)) (self 0 (d + 1)) = some r2) := h2
          have HD1 : d + 1 ≤ 24 := in_ok (K := K) (i := i1) hd (by
            by_cases hin : OkS (inS K i1 d)
            · exact hin
            · exact absurd (runS_okS H1.out ho1) hin)
          have Y8 : Hid (TreeT (fun k => w.heap.size ≤ k ∧ k < g) W7 (valX noX r1) (.pointer (some ⟨bk, 0, none⟩))) := Y7.out ho1
          rw [htk] at HTK
          clear hbu htk hk2 hk3 h2 HK1 Y7 A7 ho1 H1
          refine HTK.out.mono ?_
          rintro e W8 ⟨rfl, hr8, hf8⟩
          have R8 : Hid (RSd K N W8 br bl (.ok (j1 + 1)) (d + 1)) := hr8
          have F8 : Hid (Fr (· ≠ br) w W8) := F7.out.trans hf8
          have F78 : Hid (Fr (· ≠ br) W7 W8) := hf8
          clear hr8 hf8 R7 F7 HTK
          go_wp2_with fail
          refine (HS.out W8 0 (d + 1) (.ok (j1 + 1)) r2 (by omega) (fun _ => HD1) R8.out H2.out).mono ?_
          rintro e W9 ⟨hf9, hr9, bv, rfl, ht9⟩
          have hf79 := F78.out.trans hf9
          have R9 : Hid (RSd K N W9 br bl (stX r2) (d + 1)) := hr9
          have F9 : Hid (Fr (· ≠ br) w W9) := F8.out.trans hf9
          have hz8 := F78.out.size
          have hgl : g < W7.heap.size := block_lt G7.out
          have hel : g + 1 < W7.heap.size := block_lt E7.out
          have X9 : Hid (TreeT (fun k => w.heap.size ≤ k ∧ k ≠ g ∧ k ≠ g + 1) W9 x1 (.pointer (some ⟨bx, 0, none⟩))) := X7.out.fr (hf79.mono fun k q => by omega) fun k _ q => ⟨q.1, by omega, by omega⟩
          have Y9 : Hid (TreeT (fun k => w.heap.size ≤ k ∧ k ≠ g ∧ k ≠ g + 1) W9 (valX noX r1) (.pointer (some ⟨bk, 0, none⟩))) := Y8.out.fr (hf79.mono fun k q => by omega) fun k _ q => ⟨q.1, by omega, by omega⟩
          have V9 : Hid (OkS (stX r2) → TreeT (fun k => w.heap.size ≤ k ∧ k ≠ g ∧ k ≠ g + 1) W9 (valX noX r2) (.pointer (some ⟨bv, 0, none⟩))) := fun o => by
            obtain ⟨j, e⟩ := ok_val noX o
            exact (ht9 _ _ e).fr (Fr.refl _ _) fun k _ q => ⟨by omega, by omega, by omega⟩
          have E9 : Hid (XBlk W9 (g + 1) ⟨#[97, 116]⟩ (aa : Int) ⟨#[]⟩ 0 0 ⟨#[]⟩ (some ⟨g, 0, none⟩) 2 2) := E7.out.of hf79 hger
          have G9 : Hid (W9.heap[g]? = some (.cells #[.pointer (some ⟨bx, 0, none⟩), .pointer (some ⟨bk, 0, none⟩)] 57 (0, 0))) := (hf79.block g hgl hgbr).trans G7.out
          have hz9 := F9.out.size
          have hbl9 : br < W9.heap.size := by omega
          clear hf9 hr9 ht9 hf79 R8 F8 F78 X7 Y8 E7 G7 H2
          have x0 := block_cell E9.out 0
          have y0 := frozen_block E9.out 0
          have x8 := block_cell E9.out 8
          have hfs : Fr (· ≠ g + 1) W9 (W9.setCell ⟨g + 1, 0, none⟩ (.string ⟨#[112, 117, 116]⟩)) := (Fr.refl _ W9).set (by simp) _
          have E10 : Hid (XBlk (W9.setCell ⟨g + 1, 0, none⟩ (.string ⟨#[112, 117, 116]⟩)) (g + 1) ⟨#[112, 117, 116]⟩ (aa : Int) ⟨#[]⟩ 0 0 ⟨#[]⟩ (some ⟨g, 0, none⟩) 2 2) := E9.out.op _
          have G10 : (W9.setCell ⟨g + 1, 0, none⟩ (.string ⟨#[112, 117, 116]⟩)).heap[g]? = some (.cells #[.pointer (some ⟨bx, 0, none⟩), .pointer (some ⟨bk, 0, none⟩)] 57 (0, 0)) := (hfs.block g (block_lt G9.out) (by omega)).trans G9.out
          have HO10 : Hid ((W9.setCell ⟨g + 1, 0, none⟩ (.string ⟨#[112, 117, 116]⟩)).ownsRow w.heap.size 57 1 (.slice (some ⟨g, 0, none⟩) 2 2) 2 [.pointer (some ⟨bx, 0, none⟩), .pointer (some ⟨bk, 0, none⟩)]) := ⟨rfl, .inr ⟨g, 2, _, rfl, hz6, G10, by omega, by unfold maxLen; omega, rfl, rfl⟩⟩
          have R10 : Hid (RSd K N (W9.setCell ⟨g + 1, 0, none⟩ (.string ⟨#[112, 117, 116]⟩)) br bl (stX r2) (d + 1)) := R9.out.fr hfs (Ne.symm hger) (by omega)
          have F10 : Hid (Fr (· ≠ br) w (W9.setCell ⟨g + 1, 0, none⟩ (.string ⟨#[112, 117, 116]⟩))) := Fr.freshT F9.out (hfs.mono fun _ q => q.2) (by omega)
          have X10 : Hid (TreeT (fun k => w.heap.size ≤ k ∧ k ≠ g ∧ k ≠ g + 1) (W9.setCell ⟨g + 1, 0, none⟩ (.string ⟨#[112, 117, 116]⟩)) x1 (.pointer (some ⟨bx, 0, none⟩))) := X9.out.fr (hfs.mono fun _ q => q.2.2) fun _ _ q => q
          have Y10 : Hid (TreeT (fun k => w.heap.size ≤ k ∧ k ≠ g ∧ k ≠ g + 1) (W9.setCell ⟨g + 1, 0, none⟩ (.string ⟨#[112, 117, 116]⟩)) (valX noX r1) (.pointer (some ⟨bk, 0, none⟩))) := Y9.out.fr (hfs.mono fun _ q => q.2.2) fun _ _ q => q
          have V10 : Hid (OkS (stX r2) → TreeT (fun k => w.heap.size ≤ k ∧ k ≠ g ∧ k ≠ g + 1) (W9.setCell ⟨g + 1, 0, none⟩ (.string ⟨#[112, 117, 116]⟩)) (valX noX r2) (.pointer (some ⟨bv, 0, none⟩))) := fun o => (V9.out o).fr (hfs.mono fun _ q => q.2.2) fun _ _ q => q
          clear hfs G10
          go_upto_region 14 with fail
          clear x0 y0 x8 E9 G9 R9 F9 X9 Y9 V9
          generalize W9.setCell ⟨g + 1, 0, none⟩ (.string ⟨#[112, 117, 116]⟩) = W10 at E10 HO10 R10 F10 X10 Y10 V10 ⊢
          have x8 := block_cell E10.out 8
          have HOA : Hid ((W10.alloc (.cells #[.pointer (some ⟨bv, 0, none⟩)] 57)).ownsRow w.heap.size 57 1 (.slice (some ⟨g, 0, none⟩) 2 2) 2 [.pointer (some ⟨bx, 0, none⟩), .pointer (some ⟨bk, 0, none⟩)]) := HO10.out.alloc _
          have hz10 := F10.out.size
          go_wp2_with (at_builtin; refine wpList_append_lies _ rfl _ _ 163 rfl _ 57 i0 _ 1 8 Tryz.underlying163 hi0 hz0 hz1 hz2 rfl (by decide) (.slice (some ⟨g, 0, none⟩) 2 2) _ [.pointer (some ⟨bx, 0, none⟩), .pointer (some ⟨bk, 0, none⟩)] rfl HOA.out _ 1 1 [.pointer (some ⟨bv, 0, none⟩)] rfl rfl (arg1 W10 _) (one1 rfl) (by decide) (by unfold maxLen; omega) (by omega) (by simp; omega) (W10.heap.size + 1) (by simp) ?_)
          intro g' cap' w3 ho3 hg3 hat3 hlt3
          have hf3 : Fr (· ≠ g) W10 w3 := by
            have a1 := World.grownBy_alloc W10 (.cells #[.pointer (some ⟨bv, 0, none⟩)] 57) (some g)
            exact ⟨hg3.os.trans a1.os, hg3.tape.trans a1.tape, hg3.output.trans a1.output, Nat.le_trans a1.size hg3.size, fun k hk hp => (hg3.block k (Nat.lt_of_lt_of_le hk a1.size) (fun e => hp (by simpa [Value.ownBlock] using e))).trans (a1.block k hk (fun e => hp (by simpa using e)))⟩
          have hat4 : g' = g ∨ g' = W10.heap.size + 1 := by
            rcases hat3 with q | q
            · exact .inl (by simpa [Value.ownBlock] using q.symm)
            · exact .inr q
          have E11 : Hid (XBlk w3 (g + 1) ⟨#[112, 117, 116]⟩ (aa : Int) ⟨#[]⟩ 0 0 ⟨#[]⟩ (some ⟨g, 0, none⟩) 2 2) := E10.out.of hf3 (by omega)
          have hfk : Fr (· ≠ g + 1) w3 (w3.setCell ⟨g + 1, 8, none⟩ (.slice (some ⟨g', 0, none⟩) 3 cap')) := (Fr.refl _ w3).set (by simp) _
          have R11 : Hid (RSd K N (w3.setCell ⟨g + 1, 8, none⟩ (.slice (some ⟨g', 0, none⟩) 3 cap')) br bl (stX r2) (d + 1)) := (R10.out.fr hf3 (Ne.symm hgbr) (by omega)).fr hfk (Ne.symm hger) (by omega)
          have F11 : Hid (Fr (· ≠ br) w (w3.setCell ⟨g + 1, 8, none⟩ (.slice (some ⟨g', 0, none⟩) 3 cap'))) := Fr.freshT (Fr.freshT F10.out (hf3.mono fun _ q => q.2) hz6) (hfk.mono fun _ q => q.2) (by omega)
          have A11 : Hid (OkS (stX r2) → TreeT (fun k => w.heap.size ≤ k) (w3.setCell ⟨g + 1, 8, none⟩ (.slice (some ⟨g', 0, none⟩) 3 cap')) (dPut x1 (valX noX r1) (valX noX r2)) (.pointer (some ⟨g + 1, 0, none⟩))) := fun o => putT E10.out (by omega) (by omega) X10.out Y10.out (V10.out o) hf3 ho3 hat4 (.inr (.inr (.inr (.inr (.inr (.inr (.inr (.inr (.inr (.inr (.inr (.inr (.inr (.inr (.inr (.inr (.inr (.inr (.inl ⟨rfl, _, _, _, rfl, rfl⟩)))))))))))))))))))
          have x9 := block_cell E11.out 8
          have y9 := frozen_block E11.out 8
          clear ho3 hg3 hat3 hlt3 hat4 hf3 hfk HOA HO10 E10 R10 F10 X10 Y10 V10 x8
          go_wp2_with fail
          clear x9 y9 E11
          generalize w3.setCell ⟨g + 1, 8, none⟩ (.slice (some ⟨g', 0, none⟩) 3 cap') = W11 at R11 F11 A11 ⊢
          refine (gWant_d HK.out HL.out W11 br bl _ (d + 1) ⟨#[93]⟩ (by decide) hN R11.out).mono ?_
          rintro e W12 ⟨rfl, hr12, hf12⟩
          have R12 : Hid (RSd K N W12 br bl (wantS K (stX r2) [93]) (d + 1)) := hr12
          have F12 : Hid (Fr (· ≠ br) w W12) := F11.out.trans hf12
          have A12 : Hid (OkS (stX r2) → TreeT (fun k => w.heap.size ≤ k) W12 (dPut x1 (valX noX r1) (valX noX r2)) (.pointer (some ⟨g + 1, 0, none⟩))) := fun o => (A11.out o).fr (hf12.mono fun k q => by omega) fun _ _ q => q
          clear hr12 hf12 R11 F11 A11
          go_wp2_with fail
          refine (gout_d W12 br bl _ d hd R12.out).mono ?_
          rintro e W13 ⟨rfl, hr13, hf13⟩
          have R13 : Hid (RSd K N W13 br bl (wantS K (stX r2) [93]) d) := hr13
          have F13 : Hid (Fr (· ≠ br) w W13) := F12.out.trans hf13
          have A13 : Hid (OkS (wantS K (stX r2) [93]) → TreeT (fun k => w.heap.size ≤ k) W13 (dPut x1 (valX noX r1) (valX noX r2)) (.pointer (some ⟨g + 1, 0, none⟩))) := fun o => (A12.out (want_ok o)).fr (hf13.mono fun k q => by omega) fun _ _ q => q
          clear hr13 hf13 R12 F12 A12
          go_wp2_with fail
          go_roundg f
          case measure => omega
          case rel => exact ⟨_, _, g + 1, rfl, R13, A13, HP2, F13⟩
      · obtain rfl : false = bq := by rw [← HBQ.out, z1]
        obtain rfl : true = bp := by rw [← HBP.out, z2]
        have hiN : i1 < N := HL.out.lt hI (m := [46]) (by simpa using z2) (by decide)
        have R4' : Hid (RSd K N W4 br bl (.ok (i1 + 1)) d) := by
          have := R4.out
          rw [show takeS K (.ok i1) [46] = .ok (i1 + 1) from by simp only [takeS, z2]; rfl] at this
          exact this
        have H1 : Hid (runS (.ok (i1 + 1)) (nameX K) = some r1) := h1
        have HK1 : Hid (runS (stX r1) (fun j => behindX K self m d f (dAt x1 (dTxt (valX [] r1))) j) = some r) := hk
        obtain ⟨cap4, bad4, dd4, hb4, hI4, hne4, hbl4, t0, t1, t2⟩ := R4'.out.open
        obtain ⟨hdr4, -, -, u2⟩ := RS.cells hb4 hbl4 t0 t1 t2
        have c0 := block_cell hb4 0
        have c1 := block_cell hb4 1
        have k0 := block_cell hdr4 0
        have k1 := block_cell hdr4 1
        have hI1 : ((i1 + 1 : Nat) : Int) < ((N + 1 : Nat) : Int) := by omega
        obtain ⟨ab, hab⟩ : ∃ ab, (K (i1 + 1)).at' = ab := ⟨_, rfl⟩
        rw [hab] at t2 u2
        clear R4 HB HBQ HBP z1 z2 h1 hk hb4 hdr4 hab t0 t1
        go_upto_region 18 with fail
        go_big_region_o
        clear c0 c1 k0 k1 t2 u2 hI1
        have R5 : Hid (RSd K N W4.drew br bl (.ok (i1 + 1)) d) := R4'.out.grew (Grew.refl _).drew
        have F5 : Hid (Fr (· ≠ br) w W4.drew) := F4.out.drew
        have X5 : Hid (TreeT (fun k => w.heap.size ≤ k) W4.drew x1 (.pointer (some ⟨bx, 0, none⟩))) := X4.out.fr (Fr.grew (Grew.refl _).drew) fun _ _ q => q
        have T5 : Hid (TBlk W4.drew bt sb tx (aa : Int)) := T4.out.grew (Grew.refl _).drew
        clear R4' F4 X4 T4
        generalize W4.drew = W5 at R5 F5 X5 T5 ⊢
        go_wp2_with fail
        refine (gName_d HL.out W5 br bl (.ok (i1 + 1)) d hN R5.out r1 H1.out).mono ?_
        rintro e W6 ⟨rfl, hr6, hf6⟩
        have R6 : Hid (RSd K N W6 br bl (stX r1) d) := hr6
        have F6 : Hid (Fr (· ≠ br) w W6) := F5.out.trans hf6
        have X6 : Hid (TreeT (fun k => w.heap.size ≤ k) W6 x1 (.pointer (some ⟨bx, 0, none⟩))) := X5.out.fr (hf6.mono fun k q => by omega) fun _ _ q => q
        have T6 : Hid (TBlk W6 bt sb tx (aa : Int)) := T5.out.fr hf6 hbtr
        have HNV : Hid (OkS (stX r1) → (nameV r1).data.toList = valX [] r1) := fun o => name_val o
        clear hr6 hf6 R5 F5 X5 T5 H1
        obtain ⟨nv, hnv⟩ : ∃ nv, nameV r1 = nv := ⟨_, rfl⟩
        rw [hnv] at HNV ⊢
        clear hnv
        have hz6 := F6.out.size
        have hbt6 := block_lt T6.out
        have E7 : Hid (XBlk (W6.alloc (.cells #[.string ⟨#[118, 97, 108, 117, 101]⟩, .int .i64 (ab : Int), .string ⟨#[]⟩, .int .i64 3, .int .i64 0, .string nv, .slice none 0 0, .slice none 0 0, .slice none 0 0, .int .i64 0, .int .i64 0] 165)) W6.heap.size ⟨#[118, 97, 108, 117, 101]⟩ (ab : Int) ⟨#[]⟩ 3 0 nv none 0 0) := heap_new rfl
        have hG7 : Grew W6 (W6.alloc (.cells #[.string ⟨#[118, 97, 108, 117, 101]⟩, .int .i64 (ab : Int), .string ⟨#[]⟩, .int .i64 3, .int .i64 0, .string nv, .slice none 0 0, .slice none 0 0, .slice none 0 0, .int .i64 0, .int .i64 0] 165)) := (Grew.refl _).alloc _
        have R7 : Hid (RSd K N (W6.alloc (.cells #[.string ⟨#[118, 97, 108, 117, 101]⟩, .int .i64 (ab : Int), .string ⟨#[]⟩, .int .i64 3, .int .i64 0, .string nv, .slice none 0 0, .slice none 0 0, .slice none 0 0, .int .i64 0, .int .i64 0] 165)) br bl (stX r1) d) := R6.out.grew hG7
        have F7 : Hid (Fr (· ≠ br) w (W6.alloc (.cells #[.string ⟨#[118, 97, 108, 117, 101]⟩, .int .i64 (ab : Int), .string ⟨#[]⟩, .int .i64 3, .int .i64 0, .string nv, .slice none 0 0, .slice none 0 0, .slice none 0 0, .int .i64 0, .int .i64 0] 165))) := F6.out.trans (Fr.grew hG7)
        have X7 : Hid (TreeT (fun k => w.heap.size ≤ k) (W6.alloc (.cells #[.string ⟨#[118, 97, 108, 117, 101]⟩, .int .i64 (ab : Int), .string ⟨#[]⟩, .int .i64 3, .int .i64 0, .string nv, .slice none 0 0, .slice none 0 0, .slice none 0 0, .int .i64 0, .int .i64 0] 165)) x1 (.pointer (some ⟨bx, 0, none⟩))) := X6.out.fr (Fr.grew hG7) fun _ _ q => q
        have T7 : Hid (TBlk (W6.alloc (.cells #[.string ⟨#[118, 97, 108, 117, 101]⟩, .int .i64 (ab : Int), .string ⟨#[]⟩, .int .i64 3, .int .i64 0, .string nv, .slice none 0 0, .slice none 0 0, .slice none 0 0, .int .i64 0, .int .i64 0] 165)) bt sb tx (aa : Int)) := T6.out.grew hG7
        have Y7 : Hid (TreeT (fun k => w.heap.size ≤ k) (W6.alloc (.cells #[.string ⟨#[118, 97, 108, 117, 101]⟩, .int .i64 (ab : Int), .string ⟨#[]⟩, .int .i64 3, .int .i64 0, .string nv, .slice none 0 0, .slice none 0 0, .slice none 0 0, .int .i64 0, .int .i64 0] 165)) (dTxt nv.data.toList) (.pointer (some ⟨W6.heap.size, 0, none⟩))) := TreeT.leaf E7.out hz6 (.inl ⟨rfl, .inr (.inr (.inr (.inr ⟨rfl, rfl⟩)))⟩)
        clear hG7 E7
        go_upto_region 21 with fail
        generalize W6.alloc (.cells #[.string ⟨#[118, 97, 108, 117, 101]⟩, .int .i64 (ab : Int), .string ⟨#[]⟩, .int .i64 3, .int .i64 0, .string nv, .slice none 0 0, .slice none 0 0, .slice none 0 0, .int .i64 0, .int .i64 0] 165) = W7 at R7 F7 X7 T7 Y7 ⊢
        obtain ⟨bk, hbk⟩ : ∃ bk, W6.heap.size = bk := ⟨_, rfl⟩
        rw [hbk] at Y7 hz6 hbt6 ⊢
        clear hbk R6 F6 X6 T6
        have q2 := block_cell T7.out 2
        have hz7 := F7.out.size
        go_wp2_with fail
        have hG : Grew W7 ((W7.alloc (.cells #[.pointer (some ⟨bx, 0, none⟩), .pointer (some ⟨bk, 0, none⟩)] 57)).alloc (.cells #[.string ⟨#[97, 116]⟩, .int .i64 (aa : Int), .string ⟨#[]⟩, .int .i64 0, .int .i64 0, .string ⟨#[]⟩, .slice none 0 0, .slice none 0 0, .slice (some ⟨W7.heap.size, 0, none⟩) 2 2, .int .i64 0, .int .i64 0] 165)) := ((Grew.refl _).alloc _).alloc _
        go_roundg f
        case measure => omega
        case rel => exact ⟨_, dAt x1 (dTxt (valX [] r1)), W7.heap.size + 1, rfl, R7.out.grew hG, fun o => newT (nm := ⟨#[]⟩) (kids := [x1, dTxt (valX [] r1)]) rfl (by decide) (fun k y e => by
          match k, e with
          | 0, e => simp at e; subst e; exact ⟨_, rfl, X7.out⟩
          | 1, e => simp at e; subst e; exact ⟨_, rfl, by rw [← HNV.out o]; exact Y7.out⟩
          | k + 2, e => simp at e) hz7 (.inr (.inr (.inr (.inr (.inr (.inr (.inr (.inr (.inr (.inr (.inr (.inr (.inr (.inr (.inr (.inr (.inr (.inl ⟨rfl, _, _, rfl, rfl⟩)))))))))))))))))), HK1, F7.out.trans (Fr.grew hG)⟩
      · obtain rfl : false = bq := by rw [← HBQ.out, z1]
        obtain rfl : false = bp := by rw [← HBP.out, z2]
        have R4' : Hid (RSd K N W4 br bl (.ok i1) d) := by
          have := R4.out
          rw [show takeS K (.ok i1) [46] = .ok i1 from by simp only [takeS, z2]; rfl] at this
          exact this
        clear R4 HB HBQ HBP z1 z2
        go_wp2_with fail
        go_ret
        rw [hre]
        exact ⟨F4.out, R4'.out, bx, rfl, fun y j e => by rw [← (Prod.mk.inj (Except.ok.inj e)).1]; exact X4.out⟩
end Go.Proofs.YtjbekejcghjhbaaGreatDoor.Sx
