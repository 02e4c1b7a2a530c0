/- The law: its ways. -/
import Derived.Test.YtkbomifmijafgaaDoorT21
namespace Go.Proofs.YtkbomifmijafgaaDoor.Sx
open Go.RowKit Go.Sort Go.Maps Go.WideMaps

theorem pw_le {n : Nat} (h : n ≤ 24) : 2 ^ n ≤ 100000000 := by
  have : ∀ m : Fin 25, 2 ^ m.val ≤ 100000000 := by decide
  exact this ⟨n, by omega⟩

section
variable {n : Nat} {i k : Int} {p : Option Addr} {m c : Nat} {at' : List Bool}

/-- what is no variable -/
theorem nV {T : TL} {W : World} {R : List Rw} {M : List (Value × Value)} {i : Int} (hT : T.n = n) (h : Tab T W R M [] []) (hi : (decide (0 ≤ i) && decide (i < n)) = false) : Calls Tryd.prog 6 #[.pointer (some ⟨T.b, 0, none⟩), .int .i64 i] W fun e w' => e = .returned (.int .i64 ((0 : Nat) : Int)) ∧ Tab T w' R M [] [] ∧ Fr (· < T.lo) W w' :=
  (var_no T W R M [] [] h i (by rw [hT]; exact hi)).mono fun e w' q => ⟨q.1, by rw [q.2]; exact h, by rw [q.2]; exact Fr.refl _ _⟩
/-- both, where it is plain -/
theorem nA {T : TL} {W : World} {R : List Rw} {M : List (Value × Value)} {f g x : Nat} {rf rg r : Rw} (h : Tab T W R M [] []) (hf : R[f]? = some rf) (hg : R[g]? = some rg) (nf : rf.about ≠ -1) (ng : rg.about ≠ -1) (hr : R[x]? = some r) (hx : iteT f g 0 = some x) : Calls Tryd.prog 7 #[.pointer (some ⟨T.b, 0, none⟩), .int .i64 (f : Int), .int .i64 (g : Int)] W fun e w' => e = .returned (.int .i64 (x : Int)) ∧ Tab T w' (R.set x { r with given := true }) M [] [] ∧ Fr (· < T.lo) W w' :=
  And_any T W R R M M h f g x rf rg r hf hg nf ng [] hr (by simp) (by simp) ((ite_triv W (.pointer (some ⟨T.b, 0, none⟩)) f g 0 x hx).mono fun e w' q => ⟨q.1, ⟨[], by simp, by rw [q.2]; exact h⟩, by rw [q.2]; exact Fr.refl _ _⟩)
theorem nE {T : TL} {W : World} {R : List Rw} {M : List (Value × Value)} {r : Rw} (h : Tab T W R M [] []) (hr : R[0]? = some r) (hn : r.about ≠ -1) (av : Value) : Calls Tryd.prog 8 #[.pointer (some ⟨T.b, 0, none⟩), .int .i64 ((0 : Nat) : Int), av] W fun e w' => e = .returned (.bool false) ∧ Fr (fun _ => True) W w' :=
  (eval_end T W R M [] [] h r hr hn av).mono fun e w' q => ⟨q.1, by rw [q.2]; exact Fr.refl _ _⟩
/-- the value of a variable -/
def atE (m i : Nat) (at' : List Bool) (eo : Bool) : Prop := (m ≤ i ∧ eo = false) ∨ (i < m ∧ at'[i]? = some eo)
theorem yE {T : TL} {W : World} {R : List Rw} {M : List (Value × Value)} {r : Rw} {f i : Nat} {eo : Bool} (h : Tab T W R M [] []) (hr : R[f]? = some r) (ha : r.about = (i : Int)) (hl : r.low = 0) (hh : r.high = 1) (hf : 2 ≤ f) (hA : AtOK W p m at') (he : atE m i at' eo) : Calls Tryd.prog 8 #[.pointer (some ⟨T.b, 0, none⟩), .int .i64 (f : Int), .slice p m c] W fun e w' => e = .returned (.bool eo) ∧ Fr (fun _ => True) W w' :=
  eval_node T W R M [] [] h f i r hr ha hl hh hf p m c eo (by
    rcases he with q | ⟨q1, q2⟩
    · exact .inl q
    · obtain ⟨a, e1, e2⟩ := hA.2 i eo q2
      exact .inr ⟨q1, a, e1, e2⟩)
/-- counted, sized: nothing -/
theorem zC {T : TL} {W : World} {R : List Rw} {M : List (Value × Value)} {r : Rw} (h : Tab T W R M [] []) (hr : R[0]? = some r) (hn : r.about ≠ -1) : Calls Tryd.prog 9 #[.pointer (some ⟨T.b, 0, none⟩), .int .i64 ((0 : Nat) : Int)] W fun e w' => e = .returned (.int .i64 ((0 : Nat) : Int)) ∧ Fr (fun _ => True) W w' :=
  Count_any T W R M [] [] h 0 0 r hr hn _ fun _ _ _ _ _ _ _ _ => ends_no _
theorem zS {T : TL} {W : World} {R : List Rw} {M : List (Value × Value)} {r : Rw} {bf : Nat} (h : Tab T W R M [] []) (hr : R[0]? = some r) (hn : r.about ≠ -1) (hb : W.heap[bf]? = some (.cells #[.int .i64 ((0 : Nat) : Int)] 29 (0, 0))) : Calls Tryd.prog 12 #[.pointer (some ⟨T.b, 0, none⟩), .slice (some ⟨bf, 0, none⟩) 1 1] W fun e w' => e = .returned (.int .i64 ((0 : Nat) : Int)) ∧ Fr (fun _ => True) W w' :=
  Size_any T W R M [] [] h 0 bf 0 hb r hr hn _ fun _ _ _ _ _ _ _ _ _ _ => vis_no (by simp [ends2]) (by simp [ends2])

/-- neither is a variable -/
theorem way_A (hi : (decide (0 ≤ i) && decide (i < n)) = false) (hk : (decide (0 ≤ k) && decide (k < n)) = false) : Way n i k p m c at' 0 0 0 0 0 false (R0 n) (R0 n) (R0 n) [] [] [] where
  h1 T W hT h := nV hT h hi
  h2 T W hT h := nV hT h hk
  h3 T W hT h := nA h (rf := ⟨n, 0, 0, 0, true⟩) (rg := ⟨n, 0, 0, 0, true⟩) (r := ⟨n, 0, 0, 0, true⟩) rfl rfl (by simp) (by simp) rfl rfl
  h4 T W hT h _ := nE h (r := ⟨n, 0, 0, 0, true⟩) rfl (by simp) _
  h5 T W hT h := zC h (r := ⟨n, 0, 0, 0, true⟩) rfl (by simp)
  h6 T W bf hT h hb := zS h (r := ⟨n, 0, 0, 0, true⟩) rfl (by simp) hb

def R1 (n j : Nat) : List Rw := [⟨n, 0, 0, 1, true⟩, ⟨n, 0, 0, 1, true⟩, ⟨j, 0, 1, 0, true⟩]
def M1 (j : Nat) : List (Value × Value) := [(askV j 0 1, .int .i64 2)]
theorem v1V {T : TL} {W : World} {j : Nat} (hT : T.n = n) (hj : j < n) (h : Tab T W (R0 n) [] [] []) : Calls Tryd.prog 6 #[.pointer (some ⟨T.b, 0, none⟩), .int .i64 (j : Int)] W fun e w' => e = .returned (.int .i64 ((2 : Nat) : Int)) ∧ Tab T w' (R1 n j) (M1 j) [] [] ∧ Fr (· < T.lo) W w' :=
  var_new T W (R0 n) [] h j (by omega) ⟨n, 0, 0, 0, true⟩ ⟨n, 0, 0, 0, true⟩ rfl rfl (by simp) (by simp) (by simp [R0]) (by simp)

/-- the second is a variable -/
theorem way_B {k : Nat} (hi : (decide (0 ≤ i) && decide (i < n)) = false) (hk : k < n) : Way n i k p m c at' 0 2 0 0 0 false (R0 n) (R1 n k) (R1 n k) [] (M1 k) (M1 k) where
  h1 T W hT h := nV hT h hi
  h2 T W hT h := v1V hT hk h
  h3 T W hT h := nA h (rf := ⟨n, 0, 0, 1, true⟩) (rg := ⟨k, 0, 1, 0, true⟩) (r := ⟨n, 0, 0, 1, true⟩) rfl rfl (by simp) (by simp) rfl rfl
  h4 T W hT h _ := nE h (r := ⟨n, 0, 0, 1, true⟩) rfl (by simp) _
  h5 T W hT h := zC h (r := ⟨n, 0, 0, 1, true⟩) rfl (by simp)
  h6 T W bf hT h hb := zS h (r := ⟨n, 0, 0, 1, true⟩) rfl (by simp) hb
/-- the first is a variable -/
theorem way_C {i : Nat} {eo : Bool} (hi : i < n) (he : atE m i at' eo) (hk : (decide (0 ≤ k) && decide (k < n)) = false) : Way n i k p m c at' 2 0 0 0 0 eo (R1 n i) (R1 n i) (R1 n i) (M1 i) (M1 i) (M1 i) where
  h1 T W hT h := v1V hT hi h
  h2 T W hT h := nV hT h hk
  h3 T W hT h := nA h (rf := ⟨i, 0, 1, 0, true⟩) (rg := ⟨n, 0, 0, 1, true⟩) (r := ⟨n, 0, 0, 1, true⟩) rfl rfl (by simp) (by simp) rfl rfl
  h4 T W hT h hA := yE h (r := ⟨i, 0, 1, 0, true⟩) rfl rfl rfl rfl (by omega) hA he
  h5 T W hT h := zC h (r := ⟨n, 0, 0, 1, true⟩) rfl (by simp)
  h6 T W bf hT h hb := zS h (r := ⟨n, 0, 0, 1, true⟩) rfl (by simp) hb

/-- one node counted, sized -/
theorem lC {T : TL} {W : World} {R : List Rw} {M : List (Value × Value)} {r : Rw} {f : Nat} (hT : T.n = n) (hn : n ≤ 24) (h : Tab T W R M [] []) (hr : R[f]? = some r) (ha : r.about ≠ -1) (hf : f ≤ 1000) (h2 : 2 ≤ f) (hl : r.low = 0) (hh : r.high = 1) : Calls Tryd.prog 9 #[.pointer (some ⟨T.b, 0, none⟩), .int .i64 (f : Int)] W fun e w' => e = .returned (.int .i64 ((2 ^ n / 2 : Nat) : Int)) ∧ Fr (fun _ => True) W w' := by
  subst hT
  exact Count_any T W R M [] [] h f (2 ^ T.n / 2) r hr ha _ fun _ _ _ _ _ _ _ _ => ends_leaf hr hf h2 hl hh (pw_le hn)
theorem lS {T : TL} {W : World} {R : List Rw} {M : List (Value × Value)} {r : Rw} {f bf : Nat} (h : Tab T W R M [] []) (hr : R[f]? = some r) (ha : r.about ≠ -1) (hf : f ≤ 1000) (h2 : 2 ≤ f) (hl : r.low = 0) (hh : r.high = 1) (hb : W.heap[bf]? = some (.cells #[.int .i64 (f : Int)] 29 (0, 0))) : Calls Tryd.prog 12 #[.pointer (some ⟨T.b, 0, none⟩), .slice (some ⟨bf, 0, none⟩) 1 1] W fun e w' => e = .returned (.int .i64 ((1 : Nat) : Int)) ∧ Fr (fun _ => True) W w' :=
  Size_any T W R M [] [] h f bf 1 hb r hr ha _ fun _ _ _ _ _ _ _ _ _ _ => vis_leaf hr hf hl hh (by omega) (by simp [ends2]) (by simp [ends2]) (by simp [ends2]) (by simp [ends2]; omega)
/-- two nodes -/
theorem tC {T : TL} {W : World} {R : List Rw} {M : List (Value × Value)} {r r' : Rw} {f f' : Nat} (hT : T.n = n) (hn : n ≤ 24) (h : Tab T W R M [] []) (hr : R[f]? = some r) (ha : r.about ≠ -1) (hf : f ≤ 1000) (h2 : 2 ≤ f) (hl : r.low = 0) (hh : r.high = f') (hr' : R[f']? = some r') (hf' : f' ≤ 1000) (h2' : 2 ≤ f') (hl' : r'.low = 0) (hh' : r'.high = 1) (hne : f ≠ f') : Calls Tryd.prog 9 #[.pointer (some ⟨T.b, 0, none⟩), .int .i64 (f : Int)] W fun e w' => e = .returned (.int .i64 ((2 ^ n / 2 / 2 : Nat) : Int)) ∧ Fr (fun _ => True) W w' := by
  subst hT
  exact Count_any T W R M [] [] h f (2 ^ T.n / 2 / 2) r hr ha _ fun _ _ _ _ _ _ _ _ => ends_two hr hf h2 hl hh hr' hf' h2' hl' hh' (pw_le hn) hne
theorem tS {T : TL} {W : World} {R : List Rw} {M : List (Value × Value)} {r r' : Rw} {f f' bf : Nat} (h : Tab T W R M [] []) (hr : R[f]? = some r) (ha : r.about ≠ -1) (hf : f ≤ 1000) (h2 : 2 ≤ f) (hl : r.low = 0) (hh : r.high = f') (hr' : R[f']? = some r') (hf' : f' ≤ 1000) (h2' : 2 ≤ f') (hl' : r'.low = 0) (hh' : r'.high = 1) (hne : f ≠ f') (hb : W.heap[bf]? = some (.cells #[.int .i64 (f : Int)] 29 (0, 0))) : Calls Tryd.prog 12 #[.pointer (some ⟨T.b, 0, none⟩), .slice (some ⟨bf, 0, none⟩) 1 1] W fun e w' => e = .returned (.int .i64 ((2 : Nat) : Int)) ∧ Fr (fun _ => True) W w' :=
  Size_any T W R M [] [] h f bf 2 hb r hr ha _ fun _ _ _ _ _ _ _ _ _ _ => vis_two hr hf h2 hl hh hr' hf' h2' hl' hh' hne

/-- the same variable twice -/
theorem way_D {i : Nat} {eo : Bool} (hn : n ≤ 24) (hi : i < n) (he : atE m i at' eo) : Way n i i p m c at' 2 2 2 (2 ^ n / 2) 1 eo (R1 n i) (R1 n i) (R1 n i) (M1 i) (M1 i) (M1 i) where
  h1 T W hT h := v1V hT hi h
  h2 T W hT h := var_old T W (R1 n i) (M1 i) h i 2 (by omega) ⟨i, 0, 1, 0, true⟩ rfl (by simp [M1]) (by simp [M1])
  h3 T W hT h := And_any T W (R1 n i) (R1 n i) (M1 i) (M1 i) h 2 2 2 ⟨i, 0, 1, 0, true⟩ ⟨i, 0, 1, 0, true⟩ ⟨i, 0, 1, 0, true⟩ rfl rfl (by simp) (by simp) [] rfl (by simp) (by simp)
    (ite_main T W (R1 n i) (M1 i) h 2 2 0 i i n i ⟨i, 0, 1, 0, true⟩ ⟨i, 0, 1, 0, true⟩ ⟨n, 0, 0, 1, true⟩ rfl rfl rfl rfl rfl rfl (by omega) (by omega) (by omega) rfl (by omega) (by omega) true true false (by simp) (by simp) (by simp; omega) 0 1 rfl rfl (by omega) (by omega) (by omega) (R1 n i) (M1 i) [] 2
      fun W' h' => (node_hit T W' (R1 n i) (M1 i) [] [] h' i 0 1 2 ⟨by omega, by omega⟩ (by omega) (by omega) (by omega) (by simp [M1]) (by simp [M1])).mono fun e w' q => ⟨q.1, Tab.grewT h' q.2, q.2.mono fun _ _ => trivial, Kept.fr q.2⟩)
  h4 T W hT h hA := yE h (r := ⟨i, 0, 1, 0, true⟩) rfl rfl rfl rfl (by omega) hA he
  h5 T W hT h := lC hT hn h (r := ⟨i, 0, 1, 0, true⟩) rfl (by simp) (by omega) (by omega) rfl rfl
  h6 T W bf hT h hb := lS h (r := ⟨i, 0, 1, 0, true⟩) rfl (by simp) (by omega) (by omega) rfl rfl hb

def R2 (n i k : Nat) : List Rw := [⟨n, 0, 0, 2, true⟩, ⟨n, 0, 0, 2, true⟩, ⟨i, 0, 1, 0, true⟩, ⟨k, 0, 1, 0, true⟩]
def M2 (i k : Nat) : List (Value × Value) := [(askV i 0 1, .int .i64 2), (askV k 0 1, .int .i64 3)]
theorem v2V {T : TL} {W : World} {i k : Nat} (hT : T.n = n) (hk : k < n) (hne : i ≠ k) (h : Tab T W (R1 n i) (M1 i) [] []) : Calls Tryd.prog 6 #[.pointer (some ⟨T.b, 0, none⟩), .int .i64 (k : Int)] W fun e w' => e = .returned (.int .i64 ((3 : Nat) : Int)) ∧ Tab T w' (R2 n i k) (M2 i k) [] [] ∧ Fr (· < T.lo) W w' :=
  var_new T W (R1 n i) (M1 i) h k (by omega) ⟨n, 0, 0, 1, true⟩ ⟨n, 0, 0, 1, true⟩ rfl rfl (by simp) (by simp) (by simp [R1]) (by simp [M1, askV]; omega)

/-- two variables, the first above the second -/
theorem way_E {i k : Nat} {eo : Bool} (hn : n ≤ 24) (hk : k < n) (hik : i < k) (he : atE m i at' eo) : Way n i k p m c at' 2 3 4 (2 ^ n / 2 / 2) 2 eo (R1 n i) (R2 n i k) [⟨n, 0, 0, 3, true⟩, ⟨n, 0, 0, 2, true⟩, ⟨i, 0, 1, 0, true⟩, ⟨k, 0, 1, 1, true⟩, ⟨i, 0, 3, 0, true⟩] (M1 i) (M2 i k) (M2 i k ++ [(askV i 0 3, Value.int .i64 4)]) where
  h1 T W hT h := v1V hT (by omega) h
  h2 T W hT h := v2V hT hk (by omega) h
  h3 T W hT h := And_any T W (R2 n i k) [⟨n, 0, 0, 3, true⟩, ⟨n, 0, 0, 2, true⟩, ⟨i, 0, 1, 0, true⟩, ⟨k, 0, 1, 1, true⟩, ⟨i, 0, 3, 0, false⟩] (M2 i k) (M2 i k ++ [(askV i 0 3, Value.int .i64 4)]) h 2 3 4 ⟨i, 0, 1, 0, true⟩ ⟨k, 0, 1, 0, true⟩ ⟨i, 0, 3, 0, false⟩ rfl rfl (by simp) (by simp) [4] rfl (by simp) (by simp)
    (ite_main T W (R2 n i k) (M2 i k) h 2 3 0 i k n i ⟨i, 0, 1, 0, true⟩ ⟨k, 0, 1, 0, true⟩ ⟨n, 0, 0, 2, true⟩ rfl rfl rfl rfl rfl rfl (by omega) (by omega) (by omega) rfl (by omega) (by omega) true false false (by simp) (by simp; omega) (by simp; omega) 0 3 rfl rfl (by omega) (by omega) (by omega) _ _ [4] 4
      fun W' h' => (node_miss T W' (R2 n i k) (M2 i k) [] [] h' i 0 3 ⟨n, 0, 0, 2, true⟩ ⟨k, 0, 1, 0, true⟩ ⟨by omega, by omega⟩ (by omega) (by omega) (by omega) (by simp [M2, askV]) (by simp [R2]) (by simp) rfl rfl (by simp) (by simp)).mono fun e w' q => ⟨q.1, q.2.1, q.2.2.1, q.2.2.2⟩)
  h4 T W hT h hA := yE h (r := ⟨i, 0, 1, 0, true⟩) rfl rfl rfl rfl (by omega) hA he
  h5 T W hT h := tC hT hn h (r := ⟨i, 0, 3, 0, true⟩) (r' := ⟨k, 0, 1, 1, true⟩) (f' := 3) rfl (by simp) (by omega) (by omega) rfl rfl rfl (by omega) (by omega) rfl rfl (by omega)
  h6 T W bf hT h hb := tS h (r := ⟨i, 0, 3, 0, true⟩) (r' := ⟨k, 0, 1, 1, true⟩) (f' := 3) rfl (by simp) (by omega) (by omega) rfl rfl rfl (by omega) (by omega) rfl rfl (by omega) hb
/-- two variables, the second above the first -/
theorem way_F {i k : Nat} {eo : Bool} (hn : n ≤ 24) (hi : i < n) (hik : k < i) (he : atE m i at' eo) : Way n i k p m c at' 2 3 4 (2 ^ n / 2 / 2) 2 eo (R1 n i) (R2 n i k) [⟨n, 0, 0, 3, true⟩, ⟨n, 0, 0, 2, true⟩, ⟨i, 0, 1, 1, true⟩, ⟨k, 0, 1, 0, true⟩, ⟨k, 0, 2, 0, true⟩] (M1 i) (M2 i k) (M2 i k ++ [(askV k 0 2, Value.int .i64 4)]) where
  h1 T W hT h := v1V hT hi h
  h2 T W hT h := v2V hT (by omega) (by omega) h
  h3 T W hT h := And_any T W (R2 n i k) [⟨n, 0, 0, 3, true⟩, ⟨n, 0, 0, 2, true⟩, ⟨i, 0, 1, 1, true⟩, ⟨k, 0, 1, 0, true⟩, ⟨k, 0, 2, 0, false⟩] (M2 i k) (M2 i k ++ [(askV k 0 2, Value.int .i64 4)]) h 2 3 4 ⟨i, 0, 1, 0, true⟩ ⟨k, 0, 1, 0, true⟩ ⟨k, 0, 2, 0, false⟩ rfl rfl (by simp) (by simp) [4] rfl (by simp) (by simp)
    (ite_main T W (R2 n i k) (M2 i k) h 2 3 0 i k n k ⟨i, 0, 1, 0, true⟩ ⟨k, 0, 1, 0, true⟩ ⟨n, 0, 0, 2, true⟩ rfl rfl rfl rfl rfl rfl (by omega) (by omega) (by omega) rfl (by omega) (by omega) false true false (by simp; omega) (by simp) (by simp; omega) 0 2 rfl rfl (by omega) (by omega) (by omega) _ _ [4] 4
      fun W' h' => (node_miss T W' (R2 n i k) (M2 i k) [] [] h' k 0 2 ⟨n, 0, 0, 2, true⟩ ⟨i, 0, 1, 0, true⟩ ⟨by omega, by omega⟩ (by omega) (by omega) (by omega) (by simp [M2, askV]) (by simp [R2]) (by simp) rfl rfl (by simp) (by simp)).mono fun e w' q => ⟨q.1, q.2.1, q.2.2.1, q.2.2.2⟩)
  h4 T W hT h hA := yE h (r := ⟨i, 0, 1, 1, true⟩) rfl rfl rfl rfl (by omega) hA he
  h5 T W hT h := tC hT hn h (r := ⟨k, 0, 2, 0, true⟩) (r' := ⟨i, 0, 1, 1, true⟩) (f' := 2) rfl (by simp) (by omega) (by omega) rfl rfl rfl (by omega) (by omega) rfl rfl (by omega)
  h6 T W bf hT h hb := tS h (r := ⟨k, 0, 2, 0, true⟩) (r' := ⟨i, 0, 1, 1, true⟩) (f' := 2) rfl (by simp) (by omega) (by omega) rfl rfl rfl (by omega) (by omega) rfl rfl (by omega) hb
end

end Go.Proofs.YtkbomifmijafgaaDoor.Sx
