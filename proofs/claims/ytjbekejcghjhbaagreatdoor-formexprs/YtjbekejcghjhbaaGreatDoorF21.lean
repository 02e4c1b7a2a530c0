/- The writer: expressions. -/
import Derived.Test.YtjbekejcghjhbaaGreatDoorF20
import Derived.Test.YtjbekejcghjhbaaGreatDoorShelf
import Derived.Test.YtjbekejcghjhbaaGreatDoorF04
import Derived.Test.YtjbekejcghjhbaaGreatDoorF17
namespace Go.Proofs.YtjbekejcghjhbaaGreatDoor.Sx
open Go.RowKit Go.Sort

def quoT (l : List UInt8) : List UInt8 := [34] ++ l ++ [34]
set_option maxRecDepth 100000 in
set_option maxHeartbeats 1000000 in
theorem wexpr_txt (B b be at' len cap : Nat) (l : List UInt8) (w : World) (op nm : ByteArray) (i : Int) (pa : Option Addr) (he : EBlk w be 1 op nm i at' pa len cap) (hB : Bld B b l w)
    (hlen : l.length + (quoT nm.data.toList).length ≤ 140737488355328) :
    Calls Tryz.prog 56 #[.pointer (some ⟨b, 0, none⟩), .pointer (some ⟨be, 0, none⟩)] w (WrotePost B b l (quoT nm.data.toList) w) := by
  have W0 : Hid (Wrote B b l ([] : List UInt8) w w) := Wrote.nil hB
  have HL : Hid (l.length + (quoT nm.data.toList).length ≤ 140737488355328) := hlen
  have c0 := block_cell he 0
  have c1 := block_cell he 1
  have c2 := block_cell he 2
  have mo := follows
  clear he hB hlen
  simp only [quoT] at HL ⊢
  go_enter Tryz.func56, Tryz.ntmps56
  go_wp2_with fail
  clear c0 c1 c2
  refine (put_call B b _ w _ [⟨#[34]⟩, nm, ⟨#[34]⟩] 3 ([34] ++ nm.data.toList ++ [34]) rfl rfl (by decide) (by simp [catB]) W0.out.1 (by have hL := HL.out; simp only [List.length_append, List.length_cons, List.length_nil] at hL ⊢; omega)).mono ?_
  rintro e v1 ⟨rfl, hw⟩
  have V1 : Hid (Wrote B b l (([] : List UInt8) ++ ([34] ++ nm.data.toList ++ [34])) w v1) := W0.out.put hw rfl
  clear hw
  go_wp2_with fail
  go_end0
  exact ⟨rfl, by have h := V1.out; simpa using h⟩
set_option maxRecDepth 100000 in
set_option maxHeartbeats 1000000 in
theorem wexpr_fixed (B b be at' len cap : Nat) (l : List UInt8) (w : World) (op nm : ByteArray) (i : Int) (pa : Option Addr) (he : EBlk w be 2 op nm i at' pa len cap) (hB : Bld B b l w)
    (hlen : l.length + (op.data.toList).length ≤ 140737488355328) :
    Calls Tryz.prog 56 #[.pointer (some ⟨b, 0, none⟩), .pointer (some ⟨be, 0, none⟩)] w (WrotePost B b l (op.data.toList) w) := by
  have W0 : Hid (Wrote B b l ([] : List UInt8) w w) := Wrote.nil hB
  have HL : Hid (l.length + (op.data.toList).length ≤ 140737488355328) := hlen
  have c0 := block_cell he 0
  have c1 := block_cell he 1
  have c2 := block_cell he 2
  have mo := follows
  clear he hB hlen
  go_enter Tryz.func56, Tryz.ntmps56
  go_wp2_with fail
  clear c0 c1 c2
  refine (put_call B b _ w _ [op] 1 op.data.toList rfl rfl (by decide) (by simp [catB]) W0.out.1 (by have hL := HL.out; simp only [List.length_append, List.length_nil] at hL ⊢; omega)).mono ?_
  rintro e v1 ⟨rfl, hw⟩
  have V1 : Hid (Wrote B b l (([] : List UInt8) ++ op.data.toList) w v1) := W0.out.put hw rfl
  clear hw
  go_wp2_with fail
  go_end0
  exact ⟨rfl, by have h := V1.out; simpa using h⟩
set_option maxRecDepth 100000 in
set_option maxHeartbeats 1000000 in
theorem wexpr_name (B b be at' len cap : Nat) (l : List UInt8) (w : World) (op nm : ByteArray) (i : Int) (pa : Option Addr) (he : EBlk w be 3 op nm i at' pa len cap) (hB : Bld B b l w)
    (hlen : l.length + (nm.data.toList).length ≤ 140737488355328) :
    Calls Tryz.prog 56 #[.pointer (some ⟨b, 0, none⟩), .pointer (some ⟨be, 0, none⟩)] w (WrotePost B b l (nm.data.toList) w) := by
  have W0 : Hid (Wrote B b l ([] : List UInt8) w w) := Wrote.nil hB
  have HL : Hid (l.length + (nm.data.toList).length ≤ 140737488355328) := hlen
  have c0 := block_cell he 0
  have c1 := block_cell he 1
  have c2 := block_cell he 2
  have mo := follows
  clear he hB hlen
  go_enter Tryz.func56, Tryz.ntmps56
  go_wp2_with fail
  clear c0 c1 c2
  refine (put_call B b _ w _ [nm] 1 nm.data.toList rfl rfl (by decide) (by simp [catB]) W0.out.1 (by have hL := HL.out; simp only [List.length_append, List.length_nil] at hL ⊢; omega)).mono ?_
  rintro e v1 ⟨rfl, hw⟩
  have V1 : Hid (Wrote B b l (([] : List UInt8) ++ nm.data.toList) w v1) := W0.out.put hw rfl
  clear hw
  go_wp2_with fail
  go_end0
  exact ⟨rfl, by have h := V1.out; simpa using h⟩
set_option maxRecDepth 100000 in
set_option maxHeartbeats 1000000 in
theorem wexpr_primed (B b be at' len cap : Nat) (l : List UInt8) (w : World) (op nm : ByteArray) (i : Int) (pa : Option Addr) (he : EBlk w be 4 op nm i at' pa len cap) (hB : Bld B b l w)
    (hlen : l.length + (nm.data.toList ++ [39]).length ≤ 140737488355328) :
    Calls Tryz.prog 56 #[.pointer (some ⟨b, 0, none⟩), .pointer (some ⟨be, 0, none⟩)] w (WrotePost B b l (nm.data.toList ++ [39]) w) := by
  have W0 : Hid (Wrote B b l ([] : List UInt8) w w) := Wrote.nil hB
  have HL : Hid (l.length + (nm.data.toList ++ [39]).length ≤ 140737488355328) := hlen
  have c0 := block_cell he 0
  have c1 := block_cell he 1
  have c2 := block_cell he 2
  have mo := follows
  clear he hB hlen
  go_enter Tryz.func56, Tryz.ntmps56
  go_wp2_with fail
  clear c0 c1 c2
  refine (put_call B b _ w _ [nm, ⟨#[39]⟩] 2 (nm.data.toList ++ [39]) rfl rfl (by decide) (by simp [catB]) W0.out.1 (by have hL := HL.out; simp only [List.length_append, List.length_cons, List.length_nil] at hL ⊢; omega)).mono ?_
  rintro e v1 ⟨rfl, hw⟩
  have V1 : Hid (Wrote B b l (([] : List UInt8) ++ (nm.data.toList ++ [39])) w v1) := W0.out.put hw rfl
  clear hw
  go_wp2_with fail
  go_end0
  exact ⟨rfl, by have h := V1.out; simpa using h⟩
set_option maxRecDepth 100000 in
set_option maxHeartbeats 1000000 in
theorem wexpr_unchanged (B b be at' len cap : Nat) (l : List UInt8) (w : World) (op nm : ByteArray) (i : Int) (pa : Option Addr) (he : EBlk w be 6 op nm i at' pa len cap) (hB : Bld B b l w)
    (hlen : l.length + ([117, 110, 99, 104, 97, 110, 103, 101, 100, 32] ++ nm.data.toList).length ≤ 140737488355328) :
    Calls Tryz.prog 56 #[.pointer (some ⟨b, 0, none⟩), .pointer (some ⟨be, 0, none⟩)] w (WrotePost B b l ([117, 110, 99, 104, 97, 110, 103, 101, 100, 32] ++ nm.data.toList) w) := by
  have W0 : Hid (Wrote B b l ([] : List UInt8) w w) := Wrote.nil hB
  have HL : Hid (l.length + ([117, 110, 99, 104, 97, 110, 103, 101, 100, 32] ++ nm.data.toList).length ≤ 140737488355328) := hlen
  have c0 := block_cell he 0
  have c1 := block_cell he 1
  have c2 := block_cell he 2
  have mo := follows
  clear he hB hlen
  go_enter Tryz.func56, Tryz.ntmps56
  go_wp2_with fail
  clear c0 c1 c2
  refine (put_call B b _ w _ [⟨#[117, 110, 99, 104, 97, 110, 103, 101, 100, 32]⟩, nm] 2 ([117, 110, 99, 104, 97, 110, 103, 101, 100, 32] ++ nm.data.toList) rfl rfl (by decide) (by simp [catB]) W0.out.1 (by have hL := HL.out; simp only [List.length_append, List.length_cons, List.length_nil] at hL ⊢; omega)).mono ?_
  rintro e v1 ⟨rfl, hw⟩
  have V1 : Hid (Wrote B b l (([] : List UInt8) ++ ([117, 110, 99, 104, 97, 110, 103, 101, 100, 32] ++ nm.data.toList)) w v1) := W0.out.put hw rfl
  clear hw
  go_wp2_with fail
  go_end0
  exact ⟨rfl, by have h := V1.out; simpa using h⟩
set_option maxRecDepth 100000 in
set_option maxHeartbeats 1000000 in
theorem wexpr_enabled (B b be at' len cap : Nat) (l : List UInt8) (w : World) (op nm : ByteArray) (i : Int) (pa : Option Addr) (he : EBlk w be 7 op nm i at' pa len cap) (hB : Bld B b l w)
    (hlen : l.length + ([101, 110, 97, 98, 108, 101, 100, 32] ++ nm.data.toList).length ≤ 140737488355328) :
    Calls Tryz.prog 56 #[.pointer (some ⟨b, 0, none⟩), .pointer (some ⟨be, 0, none⟩)] w (WrotePost B b l ([101, 110, 97, 98, 108, 101, 100, 32] ++ nm.data.toList) w) := by
  have W0 : Hid (Wrote B b l ([] : List UInt8) w w) := Wrote.nil hB
  have HL : Hid (l.length + ([101, 110, 97, 98, 108, 101, 100, 32] ++ nm.data.toList).length ≤ 140737488355328) := hlen
  have c0 := block_cell he 0
  have c1 := block_cell he 1
  have c2 := block_cell he 2
  have mo := follows
  clear he hB hlen
  go_enter Tryz.func56, Tryz.ntmps56
  go_wp2_with fail
  clear c0 c1 c2
  refine (put_call B b _ w _ [⟨#[101, 110, 97, 98, 108, 101, 100, 32]⟩, nm] 2 ([101, 110, 97, 98, 108, 101, 100, 32] ++ nm.data.toList) rfl rfl (by decide) (by simp [catB]) W0.out.1 (by have hL := HL.out; simp only [List.length_append, List.length_cons, List.length_nil] at hL ⊢; omega)).mono ?_
  rintro e v1 ⟨rfl, hw⟩
  have V1 : Hid (Wrote B b l (([] : List UInt8) ++ ([101, 110, 97, 98, 108, 101, 100, 32] ++ nm.data.toList)) w v1) := W0.out.put hw rfl
  clear hw
  go_wp2_with fail
  go_end0
  exact ⟨rfl, by have h := V1.out; simpa using h⟩
set_option maxRecDepth 100000 in
set_option maxHeartbeats 1000000 in
theorem wexpr_let {n : Nat} (hW : WrE n) (B b be sort at' len cap : Nat) (l : List UInt8) (w : World) (op nm : ByteArray) (i : Int) (pa : Option Addr) (ka kb : PX) (he : EBlk w be sort op nm i at' pa len cap) (hbe : be < B) (hr : RowP (· < B) w (RepE (· < B) w n) pa len [ka, kb]) (hB : Bld B b l w) (hs : sort = 9)
    (hlen : l.length + ((dLet nm.data.toList ka kb).tx).length ≤ 140737488355328) :
    Calls Tryz.prog 56 #[.pointer (some ⟨b, 0, none⟩), .pointer (some ⟨be, 0, none⟩)] w (WrotePost B b l ((dLet nm.data.toList ka kb).tx) w) := by
  have HE : Hid (EBlk w be sort op nm i at' pa len cap) := he
  have HW : Hid (WrE n) := hW
  have HB : Hid (Bld B b l w) := hB
  have W0 : Hid (Wrote B b l ([] : List UInt8) w w) := Wrote.nil hB
  have mo := follows
  have HL : Hid (l.length + ((dLet nm.data.toList ka kb).tx).length ≤ 140737488355328) := hlen
  obtain ⟨rfl, pb, off, hpa, hpB, hpl, x0, q0, r0, x1, q1, r1⟩ := row2 hr
  subst hpa
  have HX0 : Hid (RepE (· < B) w n _ _) := r0
  have HY0 : Hid (∀ W, Kp B b w W → W.cell? ⟨pb, off, none⟩ = some (.pointer (some ⟨x0, 0, none⟩))) := fun W k => (World.cell?_of_block (w := w) (k.1.block pb hpB)).trans q0
  have HX1 : Hid (RepE (· < B) w n _ _) := r1
  have HY1 : Hid (∀ W, Kp B b w W → W.cell? ⟨pb, off + 1, none⟩ = some (.pointer (some ⟨x1, 0, none⟩))) := fun W k => (World.cell?_of_block (w := w) (k.1.block pb hpB)).trans q1
  clear q0 r0 q1 r1
  clear he hW hB hr hlen
  simp only [dLet] at HL ⊢
  subst hs
  go_enter Tryz.func56, Tryz.ntmps56
  have c0 := block_cell (HE.out.kp W0.out.kp hbe) 0
  have c2 := block_cell (HE.out.kp W0.out.kp hbe) 2
  have c5 := block_cell (HE.out.kp W0.out.kp hbe) 5
  have y0 := HY0.out _ W0.out.kp
  have y1 := HY1.out _ W0.out.kp
  go_wp2_with fail
  clear c0 c2 c5 y0 y1
  refine (put_call B b _ w _ [⟨#[108, 101, 116, 32]⟩, nm, ⟨#[32, 61, 32]⟩] 3 ([108, 101, 116, 32] ++ nm.data.toList ++ [32, 61, 32]) rfl rfl (by decide) (by simp [catB]) W0.out.1 (by have hL := HL.out; simp only [List.length_append, List.length_cons, List.length_nil] at hL ⊢; omega)).mono ?_
  rintro e v1 ⟨rfl, hw⟩
  have V1 : Hid (Wrote B b l (([] : List UInt8) ++ ([108, 101, 116, 32] ++ nm.data.toList ++ [32, 61, 32])) w v1) := W0.out.put hw rfl
  clear hw
  have c0 := block_cell (HE.out.kp V1.out.kp hbe) 0
  have c2 := block_cell (HE.out.kp V1.out.kp hbe) 2
  have c5 := block_cell (HE.out.kp V1.out.kp hbe) 5
  have y0 := HY0.out _ V1.out.kp
  have y1 := HY1.out _ V1.out.kp
  go_wp2_with fail
  clear c0 c2 c5 y0 y1
  refine (HW.out B b _ v1 ka _ (HX0.out.kp V1.out.kp) V1.out.1 (by have hL := HL.out; simp only [List.length_append, List.length_cons, List.length_nil] at hL ⊢; omega)).mono ?_
  rintro e v2 ⟨rfl, hw⟩
  have V2 : Hid (Wrote B b l ((([] : List UInt8) ++ ([108, 101, 116, 32] ++ nm.data.toList ++ [32, 61, 32])) ++ ka.tx) w v2) := V1.out.put hw rfl
  clear hw
  have c0 := block_cell (HE.out.kp V2.out.kp hbe) 0
  have c2 := block_cell (HE.out.kp V2.out.kp hbe) 2
  have c5 := block_cell (HE.out.kp V2.out.kp hbe) 5
  have y0 := HY0.out _ V2.out.kp
  have y1 := HY1.out _ V2.out.kp
  go_wp2_with fail
  clear c0 c2 c5 y0 y1
  refine (put_call B b _ v2 _ [⟨#[32, 58, 32]⟩] 1 [32, 58, 32] rfl rfl (by decide) (by simp [catB]) V2.out.1 (by have hL := HL.out; simp only [List.length_append, List.length_cons, List.length_nil] at hL ⊢; omega)).mono ?_
  rintro e v3 ⟨rfl, hw⟩
  have V3 : Hid (Wrote B b l (((([] : List UInt8) ++ ([108, 101, 116, 32] ++ nm.data.toList ++ [32, 61, 32])) ++ ka.tx) ++ [32, 58, 32]) w v3) := V2.out.put hw rfl
  clear hw
  have c0 := block_cell (HE.out.kp V3.out.kp hbe) 0
  have c2 := block_cell (HE.out.kp V3.out.kp hbe) 2
  have c5 := block_cell (HE.out.kp V3.out.kp hbe) 5
  have y0 := HY0.out _ V3.out.kp
  have y1 := HY1.out _ V3.out.kp
  go_wp2_with fail
  clear c0 c2 c5 y0 y1
  refine (HW.out B b _ v3 kb _ (HX1.out.kp V3.out.kp) V3.out.1 (by have hL := HL.out; simp only [List.length_append, List.length_cons, List.length_nil] at hL ⊢; omega)).mono ?_
  rintro e v4 ⟨rfl, hw⟩
  have V4 : Hid (Wrote B b l ((((([] : List UInt8) ++ ([108, 101, 116, 32] ++ nm.data.toList ++ [32, 61, 32])) ++ ka.tx) ++ [32, 58, 32]) ++ kb.tx) w v4) := V3.out.put hw rfl
  clear hw
  go_wp2_with fail
  go_end0
  exact ⟨rfl, by have h := V4.out; simpa using h⟩
set_option maxRecDepth 100000 in
set_option maxHeartbeats 1000000 in
theorem wexpr_tail (B b be sort at' len cap f : Nat) (l T : List UInt8) (w : World) (op nm : ByteArray) (i : Int) (pa : Option Addr) (he : EBlk w be sort op nm i at' pa len cap)
    (hs : sort = 8 ∧ f = 98 ∨ sort = 10 ∧ f = 99 ∨ sort = 11 ∧ f = 100 ∨ sort = 12 ∧ f = 100)
    (hC : Calls Tryz.prog f #[.pointer (some ⟨b, 0, none⟩), .pointer (some ⟨be, 0, none⟩)] w (WrotePost B b l T w)) :
    Calls Tryz.prog 56 #[.pointer (some ⟨b, 0, none⟩), .pointer (some ⟨be, 0, none⟩)] w (WrotePost B b l T w) := by
  have HC : Hid (Calls _ _ _ _ _) := hC
  have c0 := block_cell he 0
  have mo := follows
  clear he hC
  rcases hs with ⟨rfl, rfl⟩ | ⟨rfl, rfl⟩ | ⟨rfl, rfl⟩ | ⟨rfl, rfl⟩
  all_goals
    go_enter Tryz.func56, Tryz.ntmps56
    go_wp2_with fail
    refine HC.out.mono ?_
    rintro e v1 ⟨rfl, hw⟩
    have V1 : Hid (Wrote B b l T w v1) := hw
    clear hw HC
    go_wp2_with fail
    go_end0
    exact ⟨rfl, V1.out⟩
set_option maxRecDepth 100000 in
set_option maxHeartbeats 1000000 in
theorem wexpr_int (B b be at' len cap : Nat) (l : List UInt8) (w : World) (op nm : ByteArray) (i : Int) (pa : Option Addr) (he : EBlk w be 0 op nm i at' pa len cap) (hi : -9223372036854775808 ≤ i ∧ i ≤ 9223372036854775807) (hB : Bld B b l w)
    (hlen : l.length + (Lib.itoa i).length ≤ 140737488355328) :
    Calls Tryz.prog 56 #[.pointer (some ⟨b, 0, none⟩), .pointer (some ⟨be, 0, none⟩)] w (WrotePost B b l (Lib.itoa i) w) := by
  have W0 : Hid (Wrote B b l ([] : List UInt8) w w) := Wrote.nil hB
  have HF : Hid (Calls _ 72 #[_, _] w _) := Tryz.strconv_FormatInt_10 i hi.1 hi.2 w hB.tab
  have c0 := block_cell he 0
  have c3 := block_cell he 3
  have mo := follows
  generalize Lib.itoa i = t at HF hlen ⊢
  have HL : Hid (l.length + t.length ≤ 140737488355328) := hlen
  clear he hB hi hlen
  go_enter Tryz.func56, Tryz.ntmps56
  go_wp2_with (go_at_call 72; refine HF.out.mono ?_; rintro e w1 ⟨rfl, hg⟩; have V0 : Hid (Wrote B b l ([] : List UInt8) w w1) := W0.out.grew hg; clear hg)
  refine (put_call B b _ w1 _ [⟨t.toArray⟩] 1 t rfl rfl (by decide) (by simp [catB]) V0.out.1 (by have hL := HL.out; rw [List.append_nil]; omega)).mono ?_
  rintro e v1 ⟨rfl, hw⟩
  have V1 : Hid (Wrote B b l t w v1) := V0.out.put hw rfl
  clear hw V0
  go_wp2_with fail
  go_end0
  exact ⟨rfl, V1.out⟩
set_option maxRecDepth 100000 in
set_option maxHeartbeats 1000000 in
theorem wexpr_call {n : Nat} (hW : WrE n) (B b be at' len cap : Nat) (l : List UInt8) (w : World) (op nm : ByteArray) (i : Int) (pa : Option Addr) (kids : List PX) (he : EBlk w be 5 op nm i at' pa len cap) (hr : RowP (· < B) w (RepE (· < B) w n) pa len kids) (hB : Bld B b l w)
    (hlen : l.length + (dCall nm.data.toList kids).tx.length ≤ 140737488355328) :
    Calls Tryz.prog 56 #[.pointer (some ⟨b, 0, none⟩), .pointer (some ⟨be, 0, none⟩)] w (WrotePost B b l (dCall nm.data.toList kids).tx w) := by
  have e1 : (nm ++ ⟨#[40]⟩ : ByteArray).data.toList ++ (commasX kids ++ (⟨#[41]⟩ : ByteArray).data.toList) = (dCall nm.data.toList kids).tx := by simp [dCall, ByteArray.data_append]
  have HC : Hid (∀ W, Grew w W → Calls Tryz.prog 97 #[.pointer (some ⟨b, 0, none⟩), .string (nm ++ ⟨#[40]⟩), .slice pa len cap, .string ⟨#[41]⟩] W (WrotePost B b l (dCall nm.data.toList kids).tx W)) := fun W hg => by
    have := wlist_any hW B b l W (nm ++ ⟨#[40]⟩) ⟨#[41]⟩ pa len cap kids (hr.kp (Kp.grew (b := b) hg hB.low)) (hB.grew hg) (by rw [e1]; exact hlen)
    rw [e1] at this
    exact this
  have HB : Hid (Bld B b l w) := hB
  have HE : Hid (EBlk w be 5 op nm i at' pa len cap) := he
  have hbl := block_lt he
  have hosz : nm.size ≤ 140737488355328 := by simp [dCall] at hlen; omega
  have hosz2 : nm.size ≤ 9223372036854775806 := by omega
  have c0 := block_cell he 0
  have c2 := block_cell he 2
  have c5 := block_cell he 5
  have d2 := block_cell (HE.out.of (P := fun _ => True) (Fr.grew (Grew.refl w).drew) trivial) 2
  have d5 := block_cell (HE.out.of (P := fun _ => True) (Fr.grew (Grew.refl w).drew) trivial) 5
  have mo := follows
  clear he hr hB hlen hW e1
  go_enter Tryz.func56, Tryz.ntmps56
  go_wp2_with fail
  go_region_with (go_at_call 97; refine (HC.out _ (Grew.refl w).drew).mono ?_; rintro e v1 ⟨rfl, hw⟩; have V1 : Hid (Wrote B b l (dCall nm.data.toList kids).tx w v1) := ⟨hw.1, (Kp.grew (Grew.refl w).drew HB.out.low).trans hw.2⟩; clear hw)
  all_goals go_wp2_with fail
  all_goals go_end0
  all_goals exact ⟨rfl, V1.out⟩

/-- every tree is written as it should -/
theorem wrE : ∀ n, WrE n
  | 0 => fun _ _ _ _ _ _ h => absurd h id
  | n + 1 => fun B b l w x v h hB hlen => by
    obtain ⟨be, sort, op, nm, i, a, pa, len, cap, kids, rfl, h2, h3, h4, h5⟩ := h
    have hW := wrE n
    rcases h5 with ⟨rfl, hi1, hi2, rfl⟩ | ⟨rfl, rfl⟩ | ⟨rfl, rfl⟩ | ⟨rfl, rfl⟩ | ⟨rfl, rfl⟩ | ⟨rfl, rfl⟩ | ⟨rfl, rfl⟩ | ⟨rfl, rfl⟩ | ⟨rfl, ka, kb, kc, rfl, rfl⟩ | ⟨rfl, ka, kb, rfl, rfl⟩ | ⟨rfl, ho, ka, kb, rfl, rfl⟩ | ⟨hs, hop⟩
    · exact wexpr_int B b be a len cap l w op nm i pa h3 ⟨hi1, hi2⟩ hB hlen
    · exact wexpr_txt B b be a len cap l w op nm i pa h3 hB hlen
    · exact wexpr_fixed B b be a len cap l w op nm i pa h3 hB hlen
    · exact wexpr_name B b be a len cap l w op nm i pa h3 hB hlen
    · exact wexpr_primed B b be a len cap l w op nm i pa h3 hB hlen
    · exact wexpr_call hW B b be a len cap l w op nm i pa kids h3 h4 hB hlen
    · exact wexpr_unchanged B b be a len cap l w op nm i pa h3 hB hlen
    · exact wexpr_enabled B b be a len cap l w op nm i pa h3 hB hlen
    · exact wexpr_tail B b be 8 a len cap _ l _ w op nm i pa h3 (.inl ⟨rfl, rfl⟩) (wchoice_any hW B b be 8 a len cap l w op nm i pa ka kb kc h3 h2 h4 hB hlen)
    · exact wexpr_let hW B b be 9 a len cap l w op nm i pa ka kb h3 h2 h4 hB rfl hlen
    · exact wexpr_tail B b be 10 a len cap _ l _ w op nm i pa h3 (.inr (.inl ⟨rfl, rfl⟩)) (wbind_any hW B b be 10 a len cap l w op nm i pa ka kb h3 h2 h4 hB ho hlen)
    · exact wexpr_tail B b be sort a len cap _ l _ w op nm i pa h3 (.inr (.inr (hs.imp (fun q => ⟨q, rfl⟩) (fun q => ⟨q, rfl⟩)))) (woperator_any hW B b be sort a len cap l w op nm i pa kids x h3 h2 h4 hB hop hlen)
end Go.Proofs.YtjbekejcghjhbaaGreatDoor.Sx

namespace Go.Proofs.YtjbekejcghjhbaaGreatDoor.Sx
open Go.RowKit Go.Sort

set_option maxRecDepth 100000 in
set_option maxHeartbeats 1000000 in
theorem wString_any (B b : Nat) (l : List UInt8) (w : World) (h : Lib.IsBuilder 97 5 B b (Lib.byteCells l) w) (h0 : 0 < l.length) :
    Calls Tryz.prog 32 #[.pointer (some ⟨b, 0, none⟩)] w fun e w' => e = .returned (.string ⟨l.toArray⟩) ∧ Below B w w' := by
  obtain ⟨p, hB, v, hbk, hown, hne⟩ : ∃ p, Lib.BuilderAt 97 5 B b p (Lib.byteCells l) w := by
    rcases h with h | h
    · exact ⟨_, h⟩
    · exact ⟨_, h⟩
  rw [Lib.byteCells_length] at hown
  have hcells := hown
  rcases hown.2 with ⟨-, hz⟩ | ⟨g, cap, cur, rfl, hbg, hg, hnc, hcm, hcs, -⟩
  · omega
  have hbd : w.drew.heap[b]? = some (.cells #[p, .slice (some ⟨g, 0, none⟩) l.length cap] 97 (0, 0)) := hbk
  have hgd : w.drew.heap[g]? = some (.cells cur 5 (0, 0)) := hg
  have c1 := block_cell hbk 1
  have d1 := block_cell hbd 1
  have hSD : (Builtin.unsafeSliceData_ #[74] 127 #[.slice (some ⟨g, 0, none⟩) l.length cap]).run Tryz.prog w.drew = .ok (.pointer (some ⟨g, 0, none⟩)) w.drew :=
    Lib.run_unsafeSliceData_row _ _ _ _ _ _ (by omega)
  have hUS : (Builtin.unsafeString_ #[127, 3] 9 #[.pointer (some ⟨g, 0, none⟩), .int .i64 l.length]).run Tryz.prog w.drew = .ok (.string ⟨l.toArray⟩) (w.drew.freeze ⟨g, 0, none⟩ l.length) :=
    Lib.run_unsafeString_row w.drew 127 3 9 5 Tryz.underlying127 (by kernel_rfl) g cur.size (by simp [World.shape?, hgd]) l (by intro e; rw [e] at h0; simp at h0) (by omega) (by unfold maxLen at hcm; omega)
      fun j x hx => hcells.cells (g := g) rfl j (.int .u8 x.toNat) (by simp [Lib.byteCells, hx])
  have mo := follows
  have HBG : Hid (B ≤ g) := hbg
  clear hbk hbd hg hgd hown hcells hnc hcm hcs hbg hne hB h
  go_enter Tryz.func32, Tryz.ntmps32
  go_wp2_with fail
  go_region_o
  all_goals go_wp2_with fail
  all_goals go_ret
  all_goals exact ⟨rfl, Lib.below_freeze (Below.drew (Below.refl B w)) (p := ⟨g, 0, none⟩) HBG.out _⟩
end Go.Proofs.YtjbekejcghjhbaaGreatDoor.Sx

namespace Go.Proofs.YtjbekejcghjhbaaGreatDoor.Sx
open Go.RowKit Go.Sort

def ExprPost (w : World) (r : Except (Nat × Nat) (PX × Nat)) (e : Ending) (w' : World) : Prop :=
  Fr (fun _ => True) w w' ∧ match r with
    | .ok (x, _) => e = .returned (.tuple #[.string ⟨x.tx.toArray⟩, .int .i64 0, .nilIface])
    | .error (c, p) => e = .returned (.tuple #[.string ⟨#[]⟩, .int .i64 (p : Int), .iface 61 (.int .i64 (c : Int))])
theorem Fr.low {w w' : World} {B : Nat} (h : Below B w w') (hb : w.heap.size ≤ B) : Fr (fun _ => True) w w' := ⟨h.os, h.tape, h.output, h.size, fun k hk _ => h.block k (by omega)⟩
set_option maxRecDepth 100000 in
set_option maxHeartbeats 2000000 in
theorem fExpr_of (t : ByteArray) (w : World) (r : Except (Nat × Nat) (PX × Nat)) (HC : Hid (Calls Tryz.prog 55 #[.string t] w (WholePost w r))) (htab : Lib.TabIs Tryz.prog w "internal/strconv.uint64pow10" .u64 Lib.pow10Tab) (hg : 2 < w.heap.size) (hlen : ∀ x j, r = .ok (x, j) → x.tx.length ≤ 140737488355328 ∧ 0 < x.tx.length) :
    Calls Tryz.prog 23 #[.string t] w (ExprPost w r) := by
  have HT : Hid (Lib.TabIs Tryz.prog w "internal/strconv.uint64pow10" .u64 Lib.pow10Tab) := htab
  clear htab
  go_enter Tryz.func23, Tryz.ntmps23
  go_wp2_with fail
  refine HC.out.mono ?_
  rintro e w1 ⟨hf, hm⟩
  rcases r with ⟨c, p⟩ | ⟨x, j⟩
  · obtain rfl := hm
    have HH : Hid (ExprPost w (.error (c, p)) (.returned (.tuple #[.string ⟨#[]⟩, .int .i64 (p : Int), .iface 61 (.int .i64 (c : Int))])) w1) := ⟨hf, rfl⟩
    clear hf HC
    go_wp2_with fail
    refine bodyPost_ret (v := .tuple #[.string ⟨#[]⟩, .int .i64 (p : Int), .iface 61 (.int .i64 (c : Int))]) (by simp [results, Tryz.results23, go_sem]) rfl HH.out
  · obtain ⟨v, rfl, hv⟩ := hm
    obtain ⟨bx, rfl, -, -⟩ := hv.ptr
    obtain ⟨n, hn⟩ := hv
    obtain ⟨hl1, hl2⟩ := hlen x j rfl
    have hz := hf.size
    have hfa : Fr (fun _ => True) w1 (w1.alloc (.cells #[.pointer none, .slice none 0 0] 97)) := (Fr.refl _ w1).alloc _
    have HX : Hid (RepE (· < w1.heap.size) (w1.alloc (.cells #[.pointer none, .slice none 0 0] 97)) n x (.pointer (some ⟨bx, 0, none⟩))) := RepE.fr (hfa.mono fun _ _ => trivial) (fun k hk _ => hk) n x _ hn
    have hb : (w1.alloc (.cells #[.pointer none, .slice none 0 0] 97)).heap[w1.heap.size]? = some (.cells #[.pointer none, .slice none 0 0] 97 (0, 0)) := heap_new rfl
    have hbel : Below w.heap.size w (w1.alloc (.cells #[.pointer none, .slice none 0 0] 97)) := ⟨hfa.os.trans hf.os, hfa.tape.trans hf.tape, hfa.output.trans hf.output, Nat.le_trans hf.size hfa.size, fun k hk => (hfa.block k (by omega) trivial).trans (hf.block k hk trivial)⟩
    have HB : Hid (Bld w1.heap.size w1.heap.size [] (w1.alloc (.cells #[.pointer none, .slice none 0 0] 97))) := ⟨.inl ⟨Nat.le_refl _, _, hb, ⟨rfl, .inl ⟨rfl, rfl⟩⟩, by simp [Value.ownBlock]⟩, hfa.size, tab_below hbel hg HT.out, by omega⟩
    have HF : Hid (Fr (fun _ => True) w (w1.alloc (.cells #[.pointer none, .slice none 0 0] 97))) := hf.trans hfa
    clear hf hn hfa hb hbel HC HT hlen
    go_wp2_with fail
    generalize w1.alloc (.cells #[.pointer none, .slice none 0 0] 97) = w2 at HX HB HF ⊢
    refine (wrE n w1.heap.size w1.heap.size [] w2 x _ HX.out HB.out (by simpa using hl1)).mono ?_
    rintro e w3 ⟨rfl, hw⟩
    have HS : Hid (Calls _ 32 #[_] w3 _) := wString_any w1.heap.size w1.heap.size x.tx w3 hw.1.is hl2
    have HF3 : Hid (Fr (fun _ => True) w w3) := HF.out.newer (frB hw.2.1) fun k hk => by omega
    clear hw HB HX HF
    go_wp2_with (go_at_call 32; refine HS.out.mono ?_; rintro e w4 ⟨rfl, hb⟩; have HF4 : Hid (Fr (fun _ => True) w w4) := HF3.out.newer (frB hb) fun k hk => (by omega); clear hb)
    refine bodyPost_ret (v := .tuple #[.string ⟨x.tx.toArray⟩, .int .i64 0, .nilIface]) (by simp [results, Tryz.results23, go_sem]) rfl ⟨HF4.out, rfl⟩
end Go.Proofs.YtjbekejcghjhbaaGreatDoor.Sx
