/- The law: what its calls come to. -/
import Derived.Test.YtkbomifmijafgaaDoorT19
namespace Go.Proofs.YtkbomifmijafgaaDoor.Sx
open Go.RowKit Go.Sort Go.Maps Go.WideMaps

section
variable {T : TL} {bm bt bj bo mm g cap lo2 lo3 bs bv bl : Nat} {fresh : Value} {R : List Rw} {M Fo : List (Value × Value)} {fr : List Nat} {L : List (Value × Value)}

theorem of_hitC {f v : Nat} (hf : f ≤ 1000) (hm : (Value.int .i64 (f : Int), Value.int .i64 (v : Int)) ∈ L) (hu : ∀ p ∈ L, p.1 = .int .i64 (f : Int) → p.2 = .int .i64 (v : Int)) : OfC T bm bt bj bo mm g cap fresh R M Fo fr f v L L :=
  ⟨fun W h => (of_hit T W bm bt bj bo mm g cap fresh R M Fo fr L h f v hf hm hu).mono fun e w' q => ⟨q.1, by rw [q.2]; exact h.map, by rw [q.2]; exact Fr.refl _ _⟩⟩
theorem ends_no (P : Nat) : OfC T bm bt bj bo mm g cap fresh R M Fo fr 0 0 (ends 0 P) (ends 0 P) :=
  of_hitC (by omega) (by simp [ends]) (by simp [ends])
theorem ends_yes (P : Nat) : OfC T bm bt bj bo mm g cap fresh R M Fo fr 1 P (ends 0 P) (ends 0 P) :=
  of_hitC (by omega) (by simp [ends]) (by simp [ends])
theorem ends_leaf {f P : Nat} {r : Rw} (hr : R[f]? = some r) (hf : f ≤ 1000) (h2 : 2 ≤ f) (hl : r.low = 0) (hh : r.high = 1) (hP : P ≤ 100000000) : OfC T bm bt bj bo mm g cap fresh R M Fo fr f (P / 2) (ends 0 P) (ends 0 P ++ [(.int .i64 (f : Int), .int .i64 ((P / 2 : Nat) : Int))]) := by
  have k := of_miss (T := T) (bm := bm) (bt := bt) (bj := bj) (bo := bo) (mm := mm) (g := g) (cap := cap) (fresh := fresh) (M := M) (Fo := Fo) (fr := fr) (L := ends 0 P) (L1 := ends 0 P) (L2 := ends 0 P) (vl := 0) (vh := P) hr hf (by simp [ends]; omega) (by simp [ends]; omega) (by omega) hP (by rw [hl]; exact ends_no P) (by rw [hh]; exact ends_yes P)
  rw [Nat.zero_add] at k
  exact k
theorem ends_two {f f' P : Nat} {r r' : Rw} (hr : R[f]? = some r) (hf : f ≤ 1000) (h2 : 2 ≤ f) (hl : r.low = 0) (hh : r.high = f') (hr' : R[f']? = some r') (hf' : f' ≤ 1000) (h2' : 2 ≤ f') (hl' : r'.low = 0) (hh' : r'.high = 1) (hP : P ≤ 100000000) (hne : f ≠ f') :
    OfC T bm bt bj bo mm g cap fresh R M Fo fr f (P / 2 / 2) (ends 0 P) (ends 0 P ++ [(.int .i64 (f' : Int), .int .i64 ((P / 2 : Nat) : Int))] ++ [(.int .i64 (f : Int), .int .i64 ((P / 2 / 2 : Nat) : Int))]) := by
  have k := of_miss (T := T) (bm := bm) (bt := bt) (bj := bj) (bo := bo) (mm := mm) (g := g) (cap := cap) (fresh := fresh) (M := M) (Fo := Fo) (fr := fr) (L := ends 0 P) (L1 := ends 0 P) (L2 := ends 0 P ++ [(.int .i64 (f' : Int), .int .i64 ((P / 2 : Nat) : Int))]) (vl := 0) (vh := P / 2) hr hf (by simp [ends]; omega) (by simp [ends]; omega) (by omega) (by omega) (by rw [hl]; exact ends_no P) (by rw [hh]; exact ends_leaf hr' hf' h2' hl' hh' hP)
  rw [Nat.zero_add] at k
  exact k

theorem vis_no {k : Nat} (hL : ∀ p ∈ L, p.2 = .agg #[]) (h0 : (Value.int .i64 0, Value.agg #[]) ∈ L) : VisC T lo2 lo3 bs bv bt bl mm g cap fresh R M Fo fr 0 L L k k := vis_hit (f := 0) (by omega) h0 fun p hp _ => hL p hp
theorem vis_yes {k : Nat} (hL : ∀ p ∈ L, p.2 = .agg #[]) (h0 : (Value.int .i64 1, Value.agg #[]) ∈ L) : VisC T lo2 lo3 bs bv bt bl mm g cap fresh R M Fo fr 1 L L k k := vis_hit (f := 1) (by omega) h0 fun p hp _ => hL p hp
theorem vis_leaf {f k : Nat} {r : Rw} (hr : R[f]? = some r) (hf : f ≤ 1000) (hl : r.low = 0) (hh : r.high = 1) (hk : k ≤ 1000) (hL : ∀ p ∈ L, p.2 = .agg #[]) (h0 : (Value.int .i64 0, Value.agg #[]) ∈ L) (h1 : (Value.int .i64 1, Value.agg #[]) ∈ L) (hu : ∀ p ∈ L, p.1 ≠ .int .i64 (f : Int)) :
    VisC T lo2 lo3 bs bv bt bl mm g cap fresh R M Fo fr f L (L ++ [(.int .i64 (f : Int), .agg #[])]) k (k + 1) := by
  have hL2 : ∀ p ∈ L ++ [(Value.int .i64 (f : Int), Value.agg #[])], p.2 = .agg #[] := by
    intro p hp
    rcases List.mem_append.1 hp with q | q
    · exact hL p q
    · obtain rfl : p = _ := by simpa using q
      rfl
  exact vis_miss hr hf hk hu (by rw [hl]; exact vis_no hL2 (List.mem_append_left _ h0)) (by rw [hh]; exact vis_yes hL2 (List.mem_append_left _ h1))
theorem vis_two {f f' : Nat} {r r' : Rw} (hr : R[f]? = some r) (hf : f ≤ 1000) (h2 : 2 ≤ f) (hl : r.low = 0) (hh : r.high = f') (hr' : R[f']? = some r') (hf' : f' ≤ 1000) (h2' : 2 ≤ f') (hl' : r'.low = 0) (hh' : r'.high = 1) (hne : f ≠ f') :
    VisC T lo2 lo3 bs bv bt bl mm g cap fresh R M Fo fr f ends2 (ends2 ++ [(.int .i64 (f : Int), .agg #[])] ++ [(.int .i64 (f' : Int), .agg #[])]) 0 2 := by
  refine vis_miss (L1 := ends2 ++ [(.int .i64 (f : Int), .agg #[])]) (k1 := 0) (k2 := 1) hr hf (by omega) (by simp [ends2]; omega) ?_ ?_
  · rw [hl]; exact vis_no (by simp [ends2]) (by simp [ends2])
  · rw [hh]; exact vis_leaf hr' hf' hl' hh' (by omega) (by simp [ends2]) (by simp [ends2]) (by simp [ends2]) (by simp [ends2]; omega)
end

end Go.Proofs.YtkbomifmijafgaaDoor.Sx
