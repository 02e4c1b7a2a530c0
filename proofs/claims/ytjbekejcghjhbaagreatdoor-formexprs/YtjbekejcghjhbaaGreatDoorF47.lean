/- The reference: every tree as text. -/
import Derived.Test.YtjbekejcghjhbaaGreatDoorF42
import Derived.Test.YtjbekejcghjhbaaGreatDoorF43
import Derived.Test.YtjbekejcghjhbaaGreatDoorF45
import Derived.Test.YtjbekejcghjhbaaGreatDoorF46
import Derived.Test.YtjbekejcghjhbaaGreatDoorF44
namespace Go.Proofs.YtjbekejcghjhbaaGreatDoor.Sx
open Go.RowKit Go.Sort

theorem gbare_any {N : Nat} (hP : PrT N) (P : Nat → Prop) (w : World) (be : Nat) (op nm tx : ByteArray) (a k n : Int) (pa : Option Addr) (len cap : Nat) (kids : List PX) (x : PX) (he : XBlk w be op a nm k n tx pa len cap) (hr : RowP P w (RepT P w N) pa len kids) (hm : MeansT op.data.toList nm.data.toList k n tx.data.toList kids x) (hl : x.tx.length ≤ 1000000000) : BareT w be x := by
  have hs : op = ⟨op.data.toList.toArray⟩ := bytesT rfl
  rcases hm with ⟨h, hv⟩ | ⟨h, rfl⟩ | ⟨h, rfl⟩ | ⟨h, rfl⟩ | ⟨h, rfl⟩ | ⟨h, rfl⟩ | ⟨h, rfl⟩ | ⟨h, rfl⟩ | ⟨h, rfl⟩ | ⟨h, rfl⟩ | ⟨h, x1, x2, x3, rfl, rfl⟩ | ⟨h, x1, x2, rfl, rfl⟩ | ⟨h, x1, x2, rfl, rfl⟩ | ⟨h, x1, x2, rfl, rfl⟩ | ⟨h, x1, rfl, rfl⟩ | ⟨h, x1, rfl, rfl⟩ | ⟨h, x1, rfl, rfl⟩ | ⟨h, x1, x2, rfl, rfl⟩ | ⟨h, x1, x2, x3, rfl, rfl⟩ | ⟨h, x1, x2, rfl, rfl⟩
  · rw [h] at hs; subst hs; exact gbare_value w be nm tx a k n pa len cap x he hv hl
  · rw [h] at hs; subst hs; exact gbare_name w be nm tx a k n pa len cap he
  · rw [h] at hs; subst hs; exact gbare_prime w be nm tx a k n pa len cap he hl
  · exact gbare_call hP P w be op nm tx a k n pa len cap kids he hr (.inl h) hl
  · exact gbare_call hP P w be op nm tx a k n pa len cap kids he hr (.inr h) hl
  · rw [h] at hs; subst hs; exact gbare_set hP P w be nm tx a k n pa len cap kids he hr hl
  · rw [h] at hs; subst hs; exact gbare_seq hP P w be nm tx a k n pa len cap kids he hr hl
  · rw [h] at hs; subst hs; exact gbare_fun hP P w be nm tx a k n pa len cap kids he hr hl
  · rw [h] at hs; exact gbare_ofname w be 12 op nm tx a k n pa len cap he (.inl hs) hl
  · rw [h] at hs; exact gbare_ofname w be 6 op nm tx a k n pa len cap he (.inr hs) hl
  · obtain rfl : len = 3 := hr.1
    obtain ⟨g, off, hn⟩ := ND.of he hr (by simp)
    rw [h] at hs; subst hs; exact gbare_if hP w be g off cap nm x1 x2 x3 hn hl
  · obtain rfl : len = 2 := hr.1
    obtain ⟨g, off, hn⟩ := ND.of he hr (by simp)
    rw [h] at hs; subst hs; exact gbare_let hP w be g off cap nm x1 x2 hn hl
  · obtain rfl : len = 2 := hr.1
    obtain ⟨g, off, hn⟩ := ND.of he hr (by simp)
    rcases h with h | h
    · refine gbare_bind3 hP w be g off cap op nm x1 x2 hn ?_ hl
      simp only [binds3, List.mem_cons, List.not_mem_nil, or_false] at h
      rcases h with h | h | h
      · rw [h] at hs; exact .inl hs
      · rw [h] at hs; exact .inr (.inl hs)
      · rw [h] at hs; exact .inr (.inr hs)
    · refine gbare_bind2 hP w be g off cap op nm x1 x2 hn ?_ hl
      simp only [binds2, List.mem_cons, List.not_mem_nil, or_false] at h
      rcases h with h | h
      · rw [h] at hs; exact .inl hs
      · rw [h] at hs; exact .inr hs
  · obtain rfl : len = 2 := hr.1
    obtain ⟨g, off, hn⟩ := ND.of he hr (by simp)
    rw [h] at hs; subst hs; exact gbare_fun_in hP w be g off cap nm x1 x2 hn hl
  · obtain rfl : len = 1 := hr.1
    obtain ⟨g, off, hn⟩ := ND.of he hr (by simp)
    rw [h] at hs; subst hs; exact gbare_neg hP w be g off cap nm x1 hn hl
  · obtain rfl : len = 1 := hr.1
    obtain ⟨g, off, hn⟩ := ND.of he hr (by simp)
    refine gbare_ahead6 hP w be g off cap op nm x1 hn ?_ hl
    simp only [aheads6, List.mem_cons, List.not_mem_nil, or_false] at h
    rcases h with h | h | h
    · rw [h] at hs; exact .inl hs
    · rw [h] at hs; exact .inr (.inl hs)
    · rw [h] at hs; exact .inr (.inr hs)
  · obtain rfl : len = 1 := hr.1
    obtain ⟨g, off, hn⟩ := ND.of he hr (by simp)
    refine gbare_ahead12 hP w be g off cap op nm x1 hn ?_ hl
    simp only [aheads12, List.mem_cons, List.not_mem_nil, or_false] at h
    rcases h with h | h | h
    · rw [h] at hs; exact .inl hs
    · rw [h] at hs; exact .inr (.inl hs)
    · rw [h] at hs; exact .inr (.inr hs)
  · obtain rfl : len = 2 := hr.1
    obtain ⟨g, off, hn⟩ := ND.of he hr (by simp)
    have c0 := block_cell he 0
    rw [h] at hs
    refine gbare_applied w be op _ c0 (.inl hs) ?_
    subst hs
    exact gapplied_at hP w be g off cap nm x1 x2 hn hl
  · obtain rfl : len = 3 := hr.1
    obtain ⟨g, off, hn⟩ := ND.of he hr (by simp)
    have c0 := block_cell he 0
    rw [h] at hs
    refine gbare_applied w be op _ c0 (.inr hs) ?_
    subst hs
    exact gapplied_put hP w be g off cap nm x1 x2 x3 hn hl
  · obtain rfl : len = 2 := hr.1
    obtain ⟨g, off, hn⟩ := ND.of he hr (by simp)
    simp only [joins, List.map_cons, List.map_nil, List.mem_cons, List.not_mem_nil, or_false] at h
    rcases h with h | h | h | h | h | h | h | h | h | h | h | h | h | h | h | h | h | h | h | h | h | h | h | h | h
    · rw [h] at hs; exact gbare_bin1 hP w be g off cap op nm x1 x2 hn (.inl hs) hl
    · rw [h] at hs; exact gbare_bin1 hP w be g off cap op nm x1 x2 hn (.inr hs) hl
    · rw [h] at hs; subst hs; exact gbare_bin2 hP w be g off cap nm x1 x2 hn hl
    · rw [h] at hs; subst hs; exact gbare_bin3 hP w be g off cap nm x1 x2 hn hl
    · rw [h] at hs; subst hs; exact gbare_bin4 hP w be g off cap nm x1 x2 hn hl
    · rw [h] at hs; subst hs; exact gbare_bin5 hP w be g off cap nm x1 x2 hn hl
    · rw [h] at hs; exact gbare_bin7 hP w be g off cap op nm x1 x2 hn (.inl hs) hl
    · rw [h] at hs; exact gbare_bin7 hP w be g off cap op nm x1 x2 hn (.inr (.inl hs)) hl
    · rw [h] at hs; exact gbare_bin7 hP w be g off cap op nm x1 x2 hn (.inr (.inr (.inl hs))) hl
    · rw [h] at hs; exact gbare_bin7 hP w be g off cap op nm x1 x2 hn (.inr (.inr (.inr (.inl hs)))) hl
    · rw [h] at hs; exact gbare_bin7 hP w be g off cap op nm x1 x2 hn (.inr (.inr (.inr (.inr (.inl hs))))) hl
    · rw [h] at hs; exact gbare_bin7 hP w be g off cap op nm x1 x2 hn (.inr (.inr (.inr (.inr (.inr (.inl hs)))))) hl
    · rw [h] at hs; exact gbare_bin7 hP w be g off cap op nm x1 x2 hn (.inr (.inr (.inr (.inr (.inr (.inr (.inl hs))))))) hl
    · rw [h] at hs; exact gbare_bin7 hP w be g off cap op nm x1 x2 hn (.inr (.inr (.inr (.inr (.inr (.inr (.inr hs))))))) hl
    · rw [h] at hs; subst hs; exact gbare_bin8 hP w be g off cap nm x1 x2 hn hl
    · rw [h] at hs; subst hs; exact gbare_bin9 hP w be g off cap nm x1 x2 hn hl
    · rw [h] at hs; exact gbare_bin10 hP w be g off cap op nm x1 x2 hn (.inl hs) hl
    · rw [h] at hs; exact gbare_bin10 hP w be g off cap op nm x1 x2 hn (.inr (.inl hs)) hl
    · rw [h] at hs; exact gbare_bin10 hP w be g off cap op nm x1 x2 hn (.inr (.inr (.inl hs))) hl
    · rw [h] at hs; exact gbare_bin10 hP w be g off cap op nm x1 x2 hn (.inr (.inr (.inr (.inl hs)))) hl
    · rw [h] at hs; exact gbare_bin10 hP w be g off cap op nm x1 x2 hn (.inr (.inr (.inr (.inr hs)))) hl
    · rw [h] at hs; exact gbare_bin11 hP w be g off cap op nm x1 x2 hn (.inl hs) hl
    · rw [h] at hs; exact gbare_bin11 hP w be g off cap op nm x1 x2 hn (.inr (.inl hs)) hl
    · rw [h] at hs; exact gbare_bin11 hP w be g off cap op nm x1 x2 hn (.inr (.inr (.inl hs))) hl
    · rw [h] at hs; exact gbare_bin11 hP w be g off cap op nm x1 x2 hn (.inr (.inr (.inr hs))) hl
/-- every tree is printed as it should -/
theorem prT : ∀ n, PrT n
  | 0 => fun _ _ _ _ _ h => absurd h id
  | n + 1 => by
    have ih := prT n
    intro P w x v q h hl _
    obtain ⟨b, op, nm, tx, a, k, i, pa, len, cap, kids, rfl, h2, h3, h4, h5⟩ := h
    exact gPrint_of w b q op x (block_cell h3 0) (own_rank h5) hl (gbare_any ih P w b op nm tx a k i pa len cap kids x h3 h4 h5 hl)
end Go.Proofs.YtjbekejcghjhbaaGreatDoor.Sx
