/- Keep. -/
import Derived.Test.YtaakjjefnjbabaaGreatQ22
set_option maxRecDepth 100000
namespace Go.Proofs.YtaakjjefnjbabaaGreat.Sx
open Go.RowKit Go.Sort Go.Maps Go.WideMaps
theorem users_set {R : List Rw} {f j m : Nat} {a z : Rw} (h : ∀ y ∈ R, y.users ≤ m) (ha : a.users ≤ m) (hz : (R.set f a)[j]? = some z) : z.users ≤ m := by
 rcases List.mem_or_eq_of_mem_set (List.mem_of_getElem? hz) with q | q
 · exact h z q
 · rw [q]; exact ha
section
variable {w : World} {tb : Nat} {L : Ly} {T : Tb} {n : Nat} {lv : Nat → Nat} {M : Nat}
set_option maxHeartbeats 4000000 in
theorem Keep_any (h : TAt w tb L T) (hB : Base n lv M T) (fs : List Nat) (hg : ∀ f ∈ fs, Giv T f) (hfl : fs.length ≤ 1099511627776) (p : Option Addr) (c : Nat) (hv : IntsV w p (nodesI fs)) (hp : ∀ q : Addr, p = some q → L.own q.block = 0) :
 Calls Tryz.prog 21 #[.pointer (some ⟨tb, 0, none⟩), .slice p fs.length c] w fun e w' => e = .returned (.tuple #[]) ∧ ∃ (ls : List Nat) (T' : Tb) (L' : Ly), TAt w' tb L' T' ∧ FrT L L' w w' ∧ DiaP T fs ls ∧ KeepP n lv M T fs ls T' := by
 have hrl : T.rows.length ≤ 274877906944 := Nat.le_trans hB.mid.rl hB.mid.rm
 have HD : Hid (Calls _ _ _ _ _) := diagram_any h hB.mid fs (fun f hf => (hg f hf).live) hfl p c hv
 have mo := follows
 obtain ⟨an, han⟩ : ∃ an, fs.length = an := ⟨_, rfl⟩
 have HAN : Hid (fs.length = an) := han
 have hanl : an ≤ 1099511627776 := by rw [← han]; exact hfl
 rw [han] at HD ⊢
 obtain ⟨g, cap, G0⟩ : ∃ g cap, RowsG w L T g cap := by
  obtain ⟨u, e⟩ := hB.mid.t.inv.e0
  exact h.rowsG e
 have HG0 : Hid (RowsG w L T g cap) := G0
 have HB : Hid (Base n lv M T) := hB
 have HGV : Hid (∀ f ∈ fs, Giv T f) := hg
 have HV : Hid (IntsV w p (nodesI fs)) := hv
 have HP : Hid (∀ q : Addr, p = some q → L.own q.block = 0) := hp
 have HX0 : Hid (TAt w tb L T) := h
 clear han hfl hv hp hg hB h G0
 go_enter Tryz.func21, Tryz.ntmps21
 go_wp2_with fail
 refine HD.out.mono ?_
 rintro e W1 ⟨sl, ls, rfl, hO, hD, hF⟩
 obtain ⟨kl, hkl⟩ : ∃ kl, ls.length = kl := ⟨_, rfl⟩
 obtain ⟨la, lc, hls, hlw, hlz⟩ : ∃ la lc, sl = .slice la kl lc ∧ IntsV W1 la (nodesI ls) ∧ ∀ q : Addr, la = some q → L.own q.block = 0 ∧ q.block < W1.heap.size := by
  rcases hO.2 with ⟨e, hn⟩ | ⟨g', cap', cur, e, hge, hb, _⟩
  · refine ⟨none, 0, by rw [e, ← hkl, hn], ⟨fun i x hx => ?_⟩, fun q hq => by cases hq⟩
    have hi := lt_of_at hx
    unfold nodesI at hi
    rw [List.length_map] at hi
    omega
  · refine ⟨some ⟨g', 0, none⟩, cap', by rw [e, hkl], ⟨fun i x hx => ⟨_, rfl, ?_⟩⟩, fun q hq => by cases hq; exact ⟨HX0.out.hi _ hge, block_lt hb⟩⟩
    unfold nodesI at hx
    rw [List.getElem?_map] at hx
    cases hq : ls[i]? with
    | none => rw [hq] at hx; cases hx
    | some y =>
      rw [hq] at hx
      obtain rfl : (y : Int) = x := Option.some.inj hx
      rw [e] at hO
      have := hO.cellAt i (by rw [Nat.mul_one]; exact lt_of_at hq)
      rw [i64C_at hq] at this
      unfold Addr.add
      by_cases hi0 : i = 0
      · subst hi0; simpa using this
      · simpa [hi0] using this
 subst hls
 have X1 : Hid (TAt W1 tb L T) := HX0.out.grew hF
 have F1 : Hid (FrT L L w W1) := FrT.of hF fun _ _ _ => trivial
 have D1 : Hid (DiaP T fs ls) := hD
 have KL : Hid (ls.length = kl) := hkl
 have LV : Hid (IntsV W1 la (nodesI ls)) := hlw
 have LZ : Hid (∀ q : Addr, la = some q → L.own q.block = 0) := fun q hq => (hlz q hq).1
 have LB : Hid (∀ q : Addr, la = some q → q.block < W1.heap.size) := fun q hq => (hlz q hq).2
 have FV : Hid (IntsV W1 p (nodesI fs)) := HV.out.frT HP.out F1.out
 clear hO hD hF hkl hlw hlz HD HV
 go_wp2_with fail
 go_loopg [19] (an) (fun k s19 wr => ∃ j : Nat, s19 = .int .i64 (j : Int) ∧ j + k = an ∧ Hid (TAt wr tb L T) ∧ Hid (FrT L L w wr) ∧ Hid (IntsV wr la (nodesI ls)) ∧ Hid (IntsV wr p (nodesI fs)) ∧ Hid (W1.heap.size ≤ wr.heap.size))
 case atStart => exact ⟨0, rfl, by omega, X1, F1, LV, FV, Nat.le_refl _⟩
 case round =>
  clear X1 F1 LV FV
  obtain ⟨j, rfl, hjk, X, F, LV, FV, SZ⟩ := hrel
  by_cases hj : j < an
  · obtain ⟨k, rfl⟩ : ∃ k, gk = k + 1 := ⟨gk - 1, by omega⟩
    have hjl : (j : Int) < (an : Int) := by omega
    have hj0 : (0 : Int) ≤ (j : Int) := by omega
    have hjf : j < fs.length := by rw [HAN.out]; exact hj
    obtain ⟨f, hf⟩ : ∃ f, fs[j]? = some f := ⟨_, List.getElem?_eq_getElem hjf⟩
    obtain ⟨r, hr, hd, hgv⟩ := HGV.out f (List.mem_of_getElem? hf)
    obtain ⟨q, rfl, cj⟩ := FV.out.cell j (f : Int) (by unfold nodesI; rw [List.getElem?_map, hf]; rfl)
    have GR := HG0.out.next X.out hr
    have hfl := lt_of_at hr
    have b2 := X.out.b2 GR
    have c4 := GR.c4 hr
    have z4 := GR.frz (f * 5 + 4)
    have XD : TAt wr.drew tb L T := X.out.drew
    have b2d := XD.b2 GR
    have c4d := (GR.next XD hr).c4 hr
    have z4d := (GR.next XD hr).frz (f * 5 + 4)
    have hf0 : (0 : Int) ≤ (f : Int) := by omega
    have hfl2 : (f : Int) < (T.rows.length : Int) := by omega
    have HK : Hid (Calls _ _ _ _ _) := known_any XD f r hr hd
    obtain ⟨q1, q2⟩ := XD.setRow (GR.next XD hr) r (j := 4) (v := .bool true) hr (by omega) (by unfold rwV; rw [hgv]; rfl)
    rw [list_set_same hr] at q1
    have X2 : Hid (TAt (wr.drew.setCell ⟨g, f * 5 + 4, none⟩ (.bool true)) tb L T) := q1
    have F2 : Hid (FrT L L w (wr.drew.setCell ⟨g, f * 5 + 4, none⟩ (.bool true))) := (F.out.trans (FrT.of (Fr.refl (fun _ => True) _).drew fun _ _ _ => trivial)).trans q2
    have FX : Hid (FrT L L wr (wr.drew.setCell ⟨g, f * 5 + 4, none⟩ (.bool true))) := (FrT.of (Fr.refl (fun _ => True) _).drew fun _ _ _ => trivial).trans q2
    clear q1 q2 XD GR hf hjf
    go_wp2_with fail
    have X3 : Hid (TAt ((wr.setCell ⟨g, f * 5 + 4, none⟩ (.bool true)).drew) tb L T) := X2
    have F3 : Hid (FrT L L w ((wr.setCell ⟨g, f * 5 + 4, none⟩ (.bool true)).drew)) := F2
    have FX3 : Hid (FrT L L wr ((wr.setCell ⟨g, f * 5 + 4, none⟩ (.bool true)).drew)) := FX
    have LV3 : Hid (IntsV ((wr.setCell ⟨g, f * 5 + 4, none⟩ (.bool true)).drew) la (nodesI ls)) := LV.out.frT LZ.out FX3.out
    have FV3 : Hid (IntsV ((wr.setCell ⟨g, f * 5 + 4, none⟩ (.bool true)).drew) (some q) (nodesI fs)) := FV.out.frT HP.out FX3.out
    have SZ3 : Hid (W1.heap.size ≤ ((wr.setCell ⟨g, f * 5 + 4, none⟩ (.bool true)).drew).heap.size) := Nat.le_trans SZ.out FX3.out.size
    clear X F LV FV FX FX3 X2 F2 SZ
    go_region_with (go_at_call 58; refine HK.out.mono ?_; rintro e w' ⟨rfl, hw⟩; replace hw := hw.symm; subst hw)
    all_goals
     go_wp2_with fail
     go_roundg k
     case measure => omega
     case rel => exact ⟨j + 1, by simp, by omega, X3, F3, LV3, FV3, SZ3⟩
  · have hjl : ¬ (j : Int) < (an : Int) := by omega
    have GR : RowsG wr L T g cap := RowsG.of HG0.out.eq X.out rfl (by obtain ⟨u, e⟩ := HB.out.mid.t.inv.e0; exact lt_of_at e)
    have b2 := X.out.b2 GR
    have hgl := GR.lt
    have hg4 : L.own g = 4 := GR.own
    have O1 : Hid (OldR wr T g) := ⟨fun i j r hr hj => GR.cell i j r hr hj, GR.lt⟩
    have HG4 : Hid (L.own g = 4) := hg4
    clear GR FV hg4
    go_wp2_with fail
    clear b2 hjl
    have hkll : kl ≤ 274877906944 := by
     have := nodup_len T.rows.length ls D1.out.nd fun x hx => (D1.out.new x hx).2.1.lt
     rw [KL.out] at this
     omega
    obtain ⟨W2, hW2⟩ : ∃ W2, wr = W2 := ⟨_, rfl⟩
    rw [hW2] at X F LV O1 SZ hgl ⊢
    clear hW2
    go_loopg [39, 8] (kl) (fun k s39 s8 wr => ∃ j : Nat, s39 = .int .i64 (j : Int) ∧ s8 = .int .i64 (mxP ls j : Int) ∧ j + k = kl ∧ Hid (Fr (fun _ => True) W2 wr))
    case atStart => exact ⟨0, rfl, rfl, by omega, Fr.refl _ _⟩
    case round =>
     obtain ⟨j, rfl, rfl, hjk, F2⟩ := hrel
     have X2 : Hid (TAt wr tb L T) := X.out.grew F2.out
     have LV2 : Hid (IntsV wr la (nodesI ls)) := LV.out.frT LZ.out (FrT.of F2.out fun _ _ _ => trivial : FrT L L _ _)
     by_cases hj : j < kl
     · obtain ⟨k, rfl⟩ : ∃ k, gk = k + 1 := ⟨gk - 1, by omega⟩
       have hjl : (j : Int) < (kl : Int) := by omega
       have hj0 : (0 : Int) ≤ (j : Int) := by omega
       have hjf : j < ls.length := by rw [KL.out]; exact hj
       obtain ⟨f, hf⟩ : ∃ f, ls[j]? = some f := ⟨_, List.getElem?_eq_getElem hjf⟩
       obtain ⟨q, rfl, cj⟩ := LV2.out.cell j (f : Int) (by unfold nodesI; rw [List.getElem?_map, hf]; rfl)
       have hmx : (mxP ls (j + 1) : Int) = if (mxP ls j : Int) < (f : Int) then (f : Int) else (mxP ls j : Int) := by
        have e : mxP ls (j + 1) = max (mxP ls j) f := by
         show max _ _ = _
         rw [List.getD_eq_getElem?_getD, hf]; rfl
        rw [e]
        split <;> omega
       have hmx2 : max (mxP ls j : Int) (f : Int) = (mxP ls (j + 1) : Int) := by rw [hmx]; omega
       have HMI : Hid (_ = _) := hmx2
       clear hmx hmx2
       go_wp2_with fail
       all_goals
        go_roundg k
        case measure => omega
        case rel => exact ⟨j + 1, by simp, by have := HMI.out; refine congrArg (Value.int .i64) ?_; omega, by omega, F2⟩
     · have hjl : ¬ (j : Int) < (kl : Int) := by omega
       obtain rfl : j = kl := by omega
       obtain ⟨last, hlast⟩ : ∃ last, mxP ls j = last := ⟨_, rfl⟩
       have h1l : 1 ≤ last := by rw [← hlast]; exact mxP_ge ls j
       have hll : last < T.rows.length := by
        rw [← hlast]
        refine mxP_lt ?_ (fun x hx => (D1.out.new x hx).2.1.lt) j
        obtain ⟨u, e⟩ := HB.out.mid.t.inv.e1
        exact lt_of_at e
       have HMX : Hid (∀ x ∈ ls, x < last + 1) := fun x hx => by
        obtain ⟨i, hi, e⟩ := List.getElem_of_mem hx
        have := mxP_mem (l := ls) (k := j) (j := i) (x := x) (by rw [List.getElem?_eq_getElem hi, e]) (by rw [← KL.out]; exact hi)
        omega
       rw [hlast]
       have HBR : Hid (Calls _ _ _ _ _) := bare_any X2.out n last HB.out.mid.t.inv.on HB.out.mid.n24 h1l (by omega)
       have F3 : Hid (FrT L L w wr) := F.out.trans (FrT.of F2.out fun _ _ _ => trivial)
       have O2 : Hid (OldR wr T g) := O1.out.of (F2.out.block g hgl trivial) F2.out.size
       have F2s : W2.heap.size ≤ wr.heap.size := F2.out.size
       clear X LV F O1 F2 hlast
       go_wp2_with fail
       refine HBR.out.mono ?_
       rintro e W3 ⟨rfl, L1, hX3, hF3, hB3, ⟨cap3, hv3⟩, -⟩
       obtain ⟨c3, hc3⟩ : ∃ c3, cap3 = c3 := ⟨_, rfl⟩
       rw [hc3] at hv3
       clear hc3 cap3
       have hgw : g < w.heap.size := HG0.out.lt
       have hgr : g < wr.heap.size := Nat.lt_of_lt_of_le hgw F3.out.size
       have hgne : g ≠ wr.heap.size := by omega
       have O3 : Hid (OldR W3 T g) := O2.out.of (hB3.block g hgr HG4.out) hB3.size
       have hgo : L1.own g = 4 := (hF3.own g hgr).trans HG4.out
       have hgo0 : L.own g = 4 := HG4.out
       have F3b : Hid (FrT L L1 w W3) := F3.out.trans hF3
       have LZ3 : Hid (∀ q : Addr, la = some q → ({ L1 with own := tag1 L1.own g 0 } : Ly).own q.block = 0) := fun q hq => by
        have hq0 := LZ.out q hq
        have hqg : q.block ≠ g := fun e => by rw [e, hgo0] at hq0; omega
        show tag1 L1.own g 0 q.block = 0
        unfold tag1
        rw [if_neg hqg, hF3.own q.block (Nat.lt_of_lt_of_le (LB.out q hq) (Nat.le_trans SZ.out F2s))]
        exact hq0
       have LV3 : Hid (IntsV W3 la (nodesI ls)) := LV2.out.frT LZ.out hF3
       have X3 : Hid (TAt W3 tb { L1 with own := tag1 L1.own g 0 } { T with rows := bareR n last, made := [] }) := hX3.retag0 (Nat.lt_of_lt_of_le hgr hF3.size) hgo hv3 hgne
       have T3 := KpI.zero (n := n) (lv := lv) (T := T) (ls := ls) (last := last) HB.out.mid.t.inv.on h1l
       have K3 : Hid (KpI n lv T ls last 0 { T with rows := bareR n last, made := [] }) := T3
       have HGR : Hid (g < W3.heap.size) := Nat.lt_of_lt_of_le hgr hF3.size
       have HGO : Hid (L1.own g = 4) := hgo
       have FB3 : Hid (FrT L L1 w W3) := F3b
       have HGW : Hid (g < w.heap.size) := hgw
       clear T3 hX3 hF3 hB3 F3b hgo hgo0 hgw hgr hgne hv3 LV2 X2 F3 O2 F2s SZ hgl HBR
       obtain ⟨L2, hL2⟩ : ∃ L2, ({ L1 with own := tag1 L1.own g 0 } : Ly) = L2 := ⟨_, rfl⟩
       have HG2 : Hid (L2.own g = 0) := by rw [← hL2]; exact if_pos rfl
       have HL2 : Hid (({ L1 with own := tag1 L1.own g 0 } : Ly) = L2) := hL2
       rw [hL2] at LZ3 X3
       clear hL2
       go_wp2_with fail
       go_loopg [52] (j) (fun k s52 wr => ∃ (i : Nat) (Tj : Tb), s52 = .int .i64 (i : Int) ∧ i + k = j ∧ Hid (TAt wr tb L2 Tj) ∧ Hid (FrT L2 L2 W3 wr) ∧ Hid (OldR wr T g) ∧ Hid (IntsV wr la (nodesI ls)) ∧ Hid (KpI n lv T ls last i Tj))
       case atStart => exact ⟨0, _, rfl, by omega, X3, FrT.of (Fr.refl (fun _ => True) _) fun _ _ _ => trivial, O3, LV3, K3⟩
       case round =>
        clear X3 O3 LV3 K3
        obtain ⟨i, Tj, rfl, hik, X, F, O, LV, KP⟩ := hrel
        by_cases hi : i < j
        · obtain ⟨k, rfl⟩ : ∃ k, gk = k + 1 := ⟨gk - 1, by omega⟩
          have hil : (i : Int) < (j : Int) := by omega
          have hi0 : (0 : Int) ≤ (i : Int) := by omega
          have hif : i < ls.length := by rw [KL.out]; exact hi
          obtain ⟨x, hx⟩ : ∃ x, ls[i]? = some x := ⟨_, List.getElem?_eq_getElem hif⟩
          obtain ⟨q, rfl, cj⟩ := LV.out.cell i (x : Int) (by unfold nodesI; rw [List.getElem?_map, hx]; rfl)
          obtain ⟨r, r', hr, hr', a1, a2, hlo, hhh, hk, KP2⟩ := KP.out.step HB.out.mid.t.inv (fun y hy => ⟨(D1.out.new y hy).1, (D1.out.new y hy).2.1, HMX.out y hy⟩) D1.out.nd hx (fun r hr => by
           refine D1.out.clo (ls.take i) (ls.drop (i + 1)) x r ?_ hr
           have e := List.take_append_drop i ls
           rw [List.drop_eq_getElem_cons hif] at e
           have e2 : ls[i] = x := by rw [List.getElem?_eq_getElem hif] at hx; exact Option.some.inj hx
           rw [e2] at e
           exact e.symm)
          have KPn : Hid (KpI n lv T ls last (i + 1) (keepT Tj x r r')) := KP2
          obtain ⟨gg, cg, G⟩ := X.out.rowsG hr'
          have hlen : Tj.rows.length = last + 1 := KP.out.len
          have hxl : x < last + 1 := by rw [← hlen]; exact lt_of_at hr'
          have hxT : x < T.rows.length := lt_of_at hr
          have hx0 : (0 : Int) ≤ (x : Int) := by omega
          have hx1 : (x : Int) < ((last + 1 : Nat) : Int) := by omega
          have hx2 : (x : Int) < (T.rows.length : Int) := by omega
          have b2 := X.out.b2 G
          rw [hlen] at b2
          have z4 := G.frz (x * 5 + 4)
          have c4 := O.out.c4 hr
          have e4 := G.c4 hr'
          have e4d : wr.drew.cell? ⟨gg, x * 5 + 4, none⟩ = some (.bool r'.given) := e4
          have b2d : wr.drew.cell? ⟨tb, 2, none⟩ = some (.slice (some ⟨gg, 0, none⟩) (last + 1) cg) := b2
          have z4d : wr.drew.frozen? ⟨gg, x * 5 + 4, none⟩ = false := z4
          have c4d : wr.drew.cell? ⟨g, x * 5 + 4, none⟩ = some (.bool r.given) := c4
          obtain ⟨q1, q2⟩ := X.out.setRow G { r' with given := r.given } (j := 4) (v := .bool r.given) hr' (by omega) rfl
          have X4 : Hid (TAt (wr.setCell ⟨gg, x * 5 + 4, none⟩ (.bool r.given)).drew tb L2 { Tj with rows := Tj.rows.set x { r' with given := r.given } }) := q1.drew
          have F4 : Hid (FrT L2 L2 wr (wr.setCell ⟨gg, x * 5 + 4, none⟩ (.bool r.given)).drew) := q2.trans (FrT.of (Fr.refl (fun _ => True) _).drew fun _ _ _ => trivial)
          clear q1 q2 KP2
          have hgl2 := G.lt
          have HGG : Hid (L2.own gg = 4) := G.own
          have HGE : Hid (L2.val 4 = .slice (some ⟨gg, 0, none⟩) (last + 1) cg) := by rw [← hlen]; exact G.eq
          clear G
          go_wp2_with fail
          go_big_region_o
          clear b2 b2d z4 z4d c4 c4d e4 e4d cj
          generalize (wr.setCell ⟨gg, x * 5 + 4, none⟩ (.bool r.given)).drew = W4 at X4 F4 ⊢
          have O4 : Hid (OldR W4 T g) := O.out.of (F4.out.block g O.out.lt HG2.out) F4.out.size
          have LV4 : Hid (IntsV W4 (some q) (nodesI ls)) := LV.out.frT LZ3.out F4.out
          have F5 : Hid (FrT L2 L2 W3 W4) := F.out.trans F4.out
          have hA : ∀ z ∈ Tj.rows.set x { r' with given := r.given }, z.users ≤ 549755813888 := by
           have h0 : ∀ z ∈ Tj.rows, z.users ≤ 549755813888 := fun z hz => by
            obtain ⟨y, hy⟩ := List.getElem?_of_mem hz
            have h1 := KP.out.inv.us y z hy
            have h2 := lnk_le (n := n) Tj.rows y
            have h3 : z.users = lnk n Tj.rows y + 0 := h1
            omega
           intro z hz
           obtain ⟨y, hy⟩ := List.getElem?_of_mem hz
           exact users_set h0 (a := { r' with given := r.given }) (h0 r' (List.mem_of_getElem? hr')) hy
          obtain ⟨s, s1, s2, g0, g1, g2, ge⟩ := layM_eq (R := Tj.rows.set x { r' with given := r.given }) (f := x) (ab := r.about) (lo := r.low) (hh := r.high) (by rw [List.length_set, hlen]; exact hxl) (by rw [List.length_set, hlen]; exact hlo) (by rw [List.length_set, hlen]; exact hhh)
          have hu0 : s.users ≤ 549755813888 := hA s (List.mem_of_getElem? g0)
          have hA1 : ∀ z ∈ (Tj.rows.set x { r' with given := r.given }).set x { s with about := r.about, low := r.low, high := r.high }, z.users ≤ 549755813888 := fun z hz => by
           obtain ⟨y, hy⟩ := List.getElem?_of_mem hz
           exact users_set hA (a := { s with about := r.about, low := r.low, high := r.high }) hu0 hy
          have hu1 : s1.users ≤ 549755813888 := hA1 s1 (List.mem_of_getElem? g1)
          have hu2 : s2.users ≤ 549755813889 := users_set (a := { s1 with users := s1.users + 1 }) (fun z hz => Nat.le_trans (hA1 z hz) (by omega)) (by show s1.users + 1 ≤ _; omega) g2
          have h24 := HB.out.mid.n24
          have HLY := lay_any X4.out x r.about r.low r.high s s1 s2 ⟨by omega, by omega⟩ (by unfold Sm; omega) (by unfold Sm; omega) g0 g1 g2 (by unfold Sm; omega) (by unfold Sm; omega) hk
          rw [← ge] at HLY
          have HLY : Hid (Calls _ _ _ _ _) := HLY
          unfold askV at HLY
          have c0 := O4.out.c0 hr
          have c1 := O4.out.c1 hr
          have c2 := O4.out.c2 hr
          clear X F O LV KP X4 F4 hA hA1 g0 g1 g2 ge hu0 hu1 hu2 hk
          go_wp2_with fail
          refine HLY.out.mono ?_
          rintro e W5 ⟨rfl, hX5, hF5⟩
          have X5 : Hid (TAt W5 tb L2 (keepT Tj x r r')) := hX5
          have F6 : Hid (FrT L2 L2 W3 W5) := F5.out.trans hF5
          have O5 : Hid (OldR W5 T g) := O4.out.of (hF5.block g O4.out.lt HG2.out) hF5.size
          have LV5 : Hid (IntsV W5 (some q) (nodesI ls)) := LV4.out.frT LZ3.out hF5
          clear hX5 hF5 c0 c1 c2 HLY O4 LV4 F5
          go_wp2_with fail
          go_roundg k
          case measure => omega
          case rel => exact ⟨i + 1, keepT Tj x r r', by simp, by omega, X5, F6, O5, LV5, KPn⟩
        · have hil : ¬ (i : Int) < (j : Int) := by omega
          obtain rfl : i = j := by omega
          have hln : Tj.rows.length = last + 1 := KP.out.len
          have KPn : Hid (KpI n lv T ls last i Tj) := KP.out
          obtain ⟨fa, fc, hf5⟩ := X.out.len 5 (by omega) (by omega)
          have c3 : wr.cell? ⟨tb, 3, none⟩ = some (.slice fa (Tj.len 5) fc) := by rw [X.out.cell 3]; show some (L2.val 5) = _; rw [hf5]
          obtain ⟨z3, q1, q2⟩ := X.out.store (t := 5) (T' := { Tj with free := [] }) (v := .slice none 0 0) (by omega) (by omega) ⟨fun s hs => by unfold Tb.len Tb.cells; simp [hs], fun _ => rfl, fun _ => rfl⟩ ⟨World.ownsRow_nil _ _ _ _, fun g hg => by cases hg⟩
          have z3 : wr.frozen? ⟨tb, 3, none⟩ = false := z3
          have X6 : Hid (TAt (wr.setCell ⟨tb, 3, none⟩ (.slice none 0 0)) tb (L2.put 5 (.slice none 0 0)) { Tj with free := [] }) := q1
          have F6 : Hid (FrT L2 (L2.put 5 (.slice none 0 0)) W3 (wr.setCell ⟨tb, 3, none⟩ (.slice none 0 0))) := F.out.trans q2
          clear q1 q2 X F O LV KP
          go_wp2_with fail
          clear c3 z3
          generalize (wr.setCell ⟨tb, 3, none⟩ (.slice none 0 0)) = W6 at X6 F6 ⊢
          go_loopg [13] (last - 1) (fun k s13 wr => ∃ (i : Nat) (L' : Ly), s13 = .int .i64 ((last : Int) - (i : Int)) ∧ i + k = last - 1 ∧ Hid (TAt wr tb L' { Tj with free := frP Tj.rows last i }) ∧ Hid (FrT L2 L' W3 wr))
          case atStart => exact ⟨0, _, by simp, by omega, X6, F6⟩
          case round =>
           clear X6 F6
           obtain ⟨t, L3, rfl, htk, X, F⟩ := hrel
           obtain ⟨f, hf⟩ : ∃ f : Nat, (last : Int) - (t : Int) = (f : Int) := ⟨last - t, by omega⟩
           have hft : last - t = f := by omega
           rw [hf]
           by_cases ht : 1 < f
           · obtain ⟨k, rfl⟩ : ∃ k, gk = k + 1 := ⟨gk - 1, by omega⟩
             have hf1 : (1 : Int) < (f : Int) := by omega
             have hfl : f < last + 1 := by omega
             have hfl2 : (f : Int) < ((last + 1 : Nat) : Int) := by omega
             have hf0 : (0 : Int) ≤ (f : Int) := by omega
             have hn1 : ((f : Int) - 1) = (last : Int) - ((t + 1 : Nat) : Int) := by omega
             obtain ⟨z, hz⟩ : ∃ z, Tj.rows[f]? = some z := ⟨_, List.getElem?_eq_getElem (by rw [hln]; exact hfl)⟩
             obtain ⟨gg, cg, G⟩ := X.out.rowsG (f := f) (r := z) hz
             have b2 := X.out.b2 G
             have b2 : wr.cell? ⟨tb, 2, none⟩ = some (.slice (some ⟨gg, 0, none⟩) (last + 1) cg) := by rw [← hln]; exact b2
             have c0 := G.c0 (f := f) (r := z) hz
             by_cases hzd : z.about = -1
             · have HFP : Hid (frP Tj.rows last (t + 1) = frP Tj.rows last t ++ [f]) := by
                show _ ++ _ = _
                have : isDead Tj.rows (last - t) = true := by
                 unfold isDead
                 rw [hft, hz]; simpa using hzd
                rw [this, hft]; simp
               rw [hzd] at c0
               obtain ⟨fa, fc, hf5⟩ := X.out.len 5 (by omega) (by omega)
               have HV : Hid (L3.val 5 = .slice fa (frP Tj.rows last t).length fc) := hf5
               have hfr : (frP Tj.rows last t).length ≤ 274877906944 := by
                have := nodup_len (last + 1) _ (frP_nodup Tj.rows last t (by omega)) fun y hy => by
                 obtain ⟨i, _, e, _⟩ := (frP_mem Tj.rows last t y).1 hy
                 omega
                omega
               have c6 : wr.cell? ⟨tb, 3, none⟩ = some (.slice fa (frP Tj.rows last t).length fc) := by rw [X.out.cell 3]; show some (L3.val 5) = _; rw [HV.out]
               obtain ⟨i0, hi0, hz0, hz1, hz2⟩ := infoNode
               have HOA : Hid ((wr.alloc (.cells #[.int .i64 (f : Int)] 32)).ownsRow 0 32 1 (.slice fa (frP Tj.rows last t).length fc) (frP Tj.rows last t).length (i64C (frP Tj.rows last t))) := by
                have := (X.out.sl 5 (by omega) (by omega) trivial).1.alloc (.cells #[.int .i64 (f : Int)] 32)
                rw [HV.out] at this
                exact this
               clear hf5 G
               go_wp2_with (at_builtin; refine wpList_append_lies _ rfl _ _ 35 rfl 0 32 i0 _ 1 8 Tryz.underlying35 hi0 hz0 hz1 hz2 rfl (by decide) (.slice fa (frP Tj.rows last t).length fc) _ _ rfl HOA.out ⟨wr.heap.size, 0, none⟩ 1 1 [.int .i64 (f : Int)] rfl rfl ?q1 ?q2 (by decide) ?q3 ?q4 ?q5 (wr.heap.size + 1) ?q6 ?_)
               case q2 => rfl
               case q3 => unfold maxLen; omega
               case q4 => omega
               clear b2 c0
               intro g' cap' w1 ho hg hat hlt
               obtain ⟨p0, p1, p2, p3⟩ := (X.out.alloc (.cells #[.int .i64 (f : Int)] 32)).app (t := 5) (T' := { Tj with free := frP Tj.rows last (t + 1) }) ((Fr.refl _ wr).alloc _) (by omega) (by omega) ⟨fun s hs => by unfold Tb.len Tb.cells; simp [hs], fun _ => rfl, fun _ => rfl⟩ (g := g') (cap := cap') (v' := .slice (some ⟨g', 0, none⟩) ((frP Tj.rows last t).length + 1) cap') (by show _ = Value.slice _ (frP Tj.rows last (t + 1)).length _; rw [HFP.out]; simp) (by
                show w1.ownsRow 0 32 1 _ (frP Tj.rows last (t + 1)).length (i64C (frP Tj.rows last (t + 1)))
                rw [HFP.out, List.length_append, show i64C (frP Tj.rows last t ++ [f]) = i64C (frP Tj.rows last t) ++ [.int .i64 (f : Int)] by simp [i64C]]; exact ho) (by rw [HV.out]; exact hg) (by
                rw [HV.out]
                rcases hat with q | q
                · exact .inl q
                · exact .inr (by simp; omega))
               have p1' : w1.cell? ⟨tb, 3, none⟩ = some (.slice fa (frP Tj.rows last t).length fc) := by rw [← HV.out]; exact p1
               have p0' : w1.frozen? ⟨tb, 3, none⟩ = false := p0
               have P2 : Hid (TAt _ _ _ _) := p2
               have P3 : Hid (FrT _ _ _ _) := F.out.trans p3
               rw [show fld 5 = 3 from rfl] at P2 P3
               clear p0 p1 p2 p3 ho hg hat hlt HOA c6 X F HV
               go_wp2_with fail
               go_roundg k
               case measure => omega
               case rel => exact ⟨t + 1, _, congrArg (Value.int .i64) (by omega), by omega, P2, P3⟩
             · have HFP : Hid (frP Tj.rows last (t + 1) = frP Tj.rows last t) := by
                show _ ++ _ = _
                have : isDead Tj.rows (last - t) = false := by
                 unfold isDead
                 rw [hft, hz]; simpa using hzd
                rw [this]; simp
               clear G
               go_wp2_with fail
               go_roundg k
               case measure => omega
               case rel => exact ⟨t + 1, L3, congrArg (Value.int .i64) (by omega), by omega, by rw [HFP.out]; exact X, F⟩
           · have hf1 : ¬ (1 : Int) < (f : Int) := by omega
             have ht2 : t = last - 1 := by omega
             go_wp2_with fail
             go_end0
             have hg3 : L3.own g = 0 := (F.out.own g HGR.out).trans HG2.out
             have hF := F.out
             rw [← HL2.out] at hF
             refine ⟨rfl, ls, _, { L3 with own := tag1 L3.own g 4 }, X.out.retag4 (Nat.lt_of_lt_of_le HGR.out F.out.size) hg3, FB3.out.retag HGW.out HG4.out hF, D1.out, ?_⟩
             rw [ht2]
             have hK := KPn.out
             rw [← KL.out] at hK
             exact hK.done HB.out D1.out HGV.out h1l hll
end
end Go.Proofs.YtaakjjefnjbabaaGreat.Sx
