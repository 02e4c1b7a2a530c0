/- The reference: any expression. -/
import Derived.Test.YtjbekejcghjhbaaGreatDoorF34
namespace Go.Proofs.YtjbekejcghjhbaaGreatDoor.Sx
open Go.RowKit Go.Sort

theorem opens6_cases {l : List UInt8} (h : opens6.contains l = true) : l ∈ aheads6 ∨ l = wEnabled := by
  simp only [opens6, List.contains_eq_mem, List.mem_cons, List.not_mem_nil, or_false, decide_eq_true_eq] at h
  rcases h with h | h | h | h
  · exact .inl (by rw [h]; decide)
  · exact .inl (by rw [h]; decide)
  · exact .inl (by rw [h]; decide)
  · exact .inr h
theorem opens12_cases {l : List UInt8} (h : opens12.contains l = true) : l = wNeg ∨ l ∈ aheads12 ∨ l = wUnchanged := by
  simp only [opens12, List.contains_eq_mem, List.mem_cons, List.not_mem_nil, or_false, decide_eq_true_eq] at h
  rcases h with h | h | h | h | h
  · exact .inl h
  · exact .inr (.inl (by rw [h]; decide))
  · exact .inr (.inl (by rw [h]; decide))
  · exact .inr (.inl (by rw [h]; decide))
  · exact .inr (.inr h)
/-- level by level, from the tightest -/
theorem gP_desc {K : Nat → Tk} {N br bl : Nat} {self : Nat → Nat → Nat → RX PX} (hS : SelfR K N br bl self) (hK : ∀ i, TkOK (K i)) (hL : Last K N) (hN : N ≤ 1000000) (hz : ∀ i, (K i).tx.length ≤ 4000) (hn : ∀ i, NumOK (K i)) (d m : Nat) (hd : d ≤ 24) (hm : m ≤ 1000000) :
    ∀ (k : Nat), k ≤ 11 → ∀ (n : Nat), n + k = 12 → ∀ (w : World) (i : Nat) (r : Except (Nat × Nat) (PX × Nat)), RSd K N w br bl (.ok i) d → descX K self m d k i = some r → Calls Tryz.prog 58 #[.pointer (some ⟨br, 0, none⟩), .int .i64 (n : Int)] w (PostT K N w br bl d r)
  | 0, _, n, hk, w, i, r, h, hr => by
    obtain rfl : n = 12 := by omega
    rw [descX] at hr
    cases ho : opens12.contains (K i).tx with
    | true =>
      rw [ho, if_pos rfl] at hr
      rcases opens12_cases ho with e | e | e
      · exact gP_neg hS hK hL hN w d i hd h e r hr
      · exact gP_ahead12 hS hK hL hN w d i hd h e r hr
      · exact gP_unchanged hK hL hN w d i h e r hr
    | false =>
      rw [ho, if_neg (by simp)] at hr
      exact gP_down12 hK hL hN w d i h ho r fun W hW => gbehind_any hS hK hL hN hz hn W d m i hd hm hW r hr
  | k + 1, hk11, n, hk, w, i, r, h, hr => by
    have ih := gP_desc hS hK hL hN hz hn d m hd hm k (by omega) (n + 1) (by omega)
    rw [descX] at hr
    by_cases h5 : k = 5
    · obtain rfl : n = 6 := by omega
      rw [if_pos h5] at hr
      cases ho : opens6.contains (K i).tx with
      | true =>
        rw [ho, if_pos rfl] at hr
        rcases opens6_cases ho with e | e
        · exact gP_ahead6 hS hK hL hN w d i hd h e r hr
        · exact gP_enabled hK hL hN w d i h e r hr
      | false =>
        rw [ho, if_neg (by simp)] at hr
        exact gP_down6 hK hL hN w d i h ho r fun W hW => ih W i r hW hr
    · rw [if_neg h5] at hr
      obtain ⟨q, h1, h2⟩ := runS_bX (s := .ok i) (f := descX K self m d k) noX hr
      have e : 11 - k = n := by omega
      rw [e] at h2
      exact gP_level hS hK hL hN w d m n i hd h ⟨by omega, by omega, by omega⟩ q r (fun W hW => ih W i q hW h1) h2

set_option maxRecDepth 100000 in
set_option maxHeartbeats 1000000 in
theorem gP_zero {K : Nat → Tk} {N br bl : Nat} (w : World) (d i : Nat) (h : RSd K N w br bl (.ok i) d) (r : Except (Nat × Nat) (PX × Nat))
    (hP : ∀ W, RSd K N W br bl (.ok i) d → Calls Tryz.prog 107 #[.pointer (some ⟨br, 0, none⟩)] W (PostT K N W br bl d r)) :
    Calls Tryz.prog 58 #[.pointer (some ⟨br, 0, none⟩), .int .i64 0] w (PostT K N w br bl d r) := by
  have HR : Hid (RSd K N w br bl (.ok i) d) := h
  have HP : Hid (∀ W, RSd K N W br bl (.ok i) d → Calls _ _ _ _ _) := hP
  obtain ⟨cap, bad, dd, hb, hI, hne, hbl, t0, t1, t2⟩ := h.open
  obtain ⟨hdr, u0, u1, u2⟩ := RS.cells hb hbl t0 t1 t2
  have c0 := block_cell hb 0
  have c1 := block_cell hb 1
  have c3 := block_cell hb 3
  have k0 := block_cell hdr 0
  have k1 := block_cell hdr 1
  have hbr := block_lt hb
  have hI1 : (i : Int) < ((N + 1 : Nat) : Int) := by omega
  have mo := follows
  obtain ⟨sb, hsb⟩ : ∃ sb, sortB (K i).cl = sb := ⟨_, rfl⟩
  obtain ⟨tx, htx⟩ : ∃ tx, tokB (K i) = tx := ⟨_, rfl⟩
  obtain ⟨aa, haa⟩ : ∃ aa, (K i).at' = aa := ⟨_, rfl⟩
  rw [hsb] at t0 u0
  rw [htx] at t1 u1
  rw [haa] at t2 u2
  clear hb hdr h hsb htx haa hP
  go_enter Tryz.func58, Tryz.ntmps58
  go_wp2_with fail
  go_big_region_o
  have T1 : Hid (TBlk _ w.heap.size sb tx (aa : Int)) := TBlk.new w sb tx (aa : Int)
  have G1 : Hid (Grew w (w.alloc (.cells #[.int .u8 (sb : Int), .string tx, .int .i64 (aa : Int)] 106)).drew) := ((Grew.refl w).alloc _).drew
  clear c0 c1 c3 k0 k1 u0 u1 u2 t0 t1 t2 hI1
  generalize (w.alloc (.cells #[.int .u8 (sb : Int), .string tx, .int .i64 (aa : Int)] 106)).drew = W1 at G1 T1 ⊢
  have R1 : Hid (RSd K N W1 br bl (.ok i) d) := HR.out.grew G1.out
  go_wp2_with fail
  refine (HP.out W1 R1.out).mono ?_
  rintro e W4 hp
  obtain ⟨hf, hrs, b, rfl, ht⟩ := hp
  have HH : Hid (PostT K N w br bl d r (.returned (.pointer (some ⟨b, 0, none⟩))) W4) := PostT.from (Fr.grew G1.out) ⟨hf, hrs, b, rfl, ht⟩
  clear hf hrs ht R1 G1 T1
  go_wp2_with fail
  go_ret
  exact HH.out

/-- the reference's reading is the plain one -/
theorem refX_self {K : Nat → Tk} {N br bl : Nat} (hK : ∀ i, TkOK (K i)) (hL : Last K N) (hN : N ≤ 1000000) (hz : ∀ i, (K i).tx.length ≤ 4000) (hn : ∀ i, NumOK (K i)) : ∀ f, f ≤ 1000000 → SelfR K N br bl (refX K f)
  | 0, _ => by
    intro w n d s r hn12 hd h hr
    rcases s with q | i
    · obtain rfl : .error q = r := by simpa [runS] using hr
      exact gP_fault w n d q h
    · simp [runS, refX] at hr
  | f + 1, hf => by
    have ih := refX_self (br := br) (bl := bl) hK hL hN hz hn f (by omega)
    intro w n d s r hn12 hd h hr
    rcases s with q | i
    · obtain rfl : .error q = r := by simpa [runS] using hr
      exact gP_fault w n d q h
    · have hd := hd ⟨i, rfl⟩
      have hr2 : fallX K (refX K f) f n d i = some r := hr
      by_cases h0 : n = 0
      · subst h0
        exact gP_zero w d i h r fun W hW => gexpr_any ih hK hL hN W d f i hd hW r hr2 fun W' hW' hr' => gP_desc ih hK hL hN hz hn d f hd (by omega) 11 (by omega) 1 (by omega) W' i r hW' hr'
      · rw [fallX, if_neg h0] at hr2
        exact gP_desc ih hK hL hN hz hn d f hd (by omega) (12 - n) (by omega) n (by omega) w i r h hr2
end Go.Proofs.YtjbekejcghjhbaaGreatDoor.Sx
