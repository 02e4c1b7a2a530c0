/- What stands behind a part, in brackets: a key and what is put there. -/
import Derived.Test.YtjbfcadeapphbaaGreatDoorK12
import Derived.Deep.RegionLaw
namespace Go.Proofs.YtjbfcadeapphbaaGreatDoor.Sx
set_option maxRecDepth 100000
set_option maxHeartbeats 2000000
open Go.RowKit Go.Sort
theorem dL {w8 w9:World}{o:Obj}{lo be bg g cap lz at' bl bb bz:Nat}{x y z:PX}(E8:Ao w8 be 12 ⟨#[112,117,116]⟩ ⟨#[]⟩ 0 at' (some ⟨bg,0,none⟩) 2 2)
  (X8:Af (fun k=>lo<=k/\k<bg/\k≠be) w8 x (.pointer (some ⟨bl,0,none⟩))) (Y8:Af (fun k=>lo<=k/\k<bg/\k≠be) w8 y (.pointer (some ⟨bb,0,none⟩))) (Z8:Af (fun k=>lz<=k) w8 z (.pointer (some ⟨bz,0,none⟩)))
  (hlo:lo<=be) (hbe:be<bg) (hlz:bg<lz) (hl8:lz<=w8.heap.size) (ho:w9.ownsRow lo 37 1 (.slice (some ⟨g,0,none⟩) 3 cap) 3 [.pointer (some ⟨bl,0,none⟩),.pointer (some ⟨bb,0,none⟩),.pointer (some ⟨bz,0,none⟩)])
  (hg:(w8.alloc o).grownBy w9 (some bg)) (hat:some bg=some g\/g=w8.heap.size+1) :
  Af (fun k=>lo<=k) (w9.setCell ⟨be,5,none⟩ (.slice (some ⟨g,0,none⟩) 3 cap)) (Ht x y z) (.pointer (some ⟨be,0,none⟩))/\Fr (fun k=>k≠be/\k≠bg) w8 (w9.setCell ⟨be,5,none⟩ (.slice (some ⟨g,0,none⟩) 3 cap)):=by
 have n:bg<=g:=by
  rcases hat with q|q
  ·simp at q;omega
  ·omega
 have c:=World.grownBy_alloc w8 o none;have f:Fr (fun k=>k≠bg) w8 w9:=⟨hg.os.trans c.os,hg.tape.trans c.tape,hg.output.trans c.output,Nat.le_trans c.size hg.size,fun k hk hq=>(hg.block k (Nat.lt_of_lt_of_le hk c.size) (by simpa using hq)).trans (c.block k hk (by simp))⟩;have j:Ao (w9.setCell ⟨be,5,none⟩ (.slice (some ⟨g,0,none⟩) 3 cap)) be 12 ⟨#[112,117,116]⟩ ⟨#[]⟩ 0 at' (some ⟨g,0,none⟩) 3 cap:=(E8.of f (by omega)).parts _ _ _;have b:Fr (fun k=>k≠be/\k≠bg) w8 (w9.setCell ⟨be,5,none⟩ (.slice (some ⟨g,0,none⟩) 3 cap)):=(f.mono fun _ q=>q.2).set (by simp) _;have m:(w9.setCell ⟨be,5,none⟩ (.slice (some ⟨g,0,none⟩) 3 cap)).ownsRow lo 37 1 (.slice (some ⟨g,0,none⟩) 3 cap) 3 [.pointer (some ⟨bl,0,none⟩),.pointer (some ⟨bb,0,none⟩),.pointer (some ⟨bz,0,none⟩)]:=Lm ho fun q hq _ _=>by
  simp only[Value.ownBlock,Option.some.injEq] at hq;exact Below.heap_setCell w9 _ _ q (by simp;omega)
 have l:LSt (w9.setCell ⟨be,5,none⟩ (.slice (some ⟨g,0,none⟩) 3 cap)) lo (.slice (some ⟨g,0,none⟩) 3 cap) [x,y,z]:=by
  refine⟨_,m,fun i v q=>?_⟩
  match i with
  | 0=>simp at q;subst q;exact⟨_,rfl,X8.fr (b.mono fun k q=>by omega) fun k _ q=>⟨q.1,by simp only[Value.ownBlock,ne_eq,Option.some.injEq];omega⟩⟩
  | 1=>simp at q;subst q;exact⟨_,rfl,Y8.fr (b.mono fun k q=>by omega) fun k _ q=>⟨q.1,by simp only[Value.ownBlock,ne_eq,Option.some.injEq];omega⟩⟩
  | 2=>simp at q;subst q;exact⟨_,rfl,Z8.fr (b.mono fun k q=>by omega) fun k hk q=>⟨by omega,by
    simp only[Value.ownBlock,ne_eq,Option.some.injEq];rcases hat with h|h
    ·simp at h;omega
    ·omega⟩⟩
  | i+3=>simp at q
 obtain⟨a,p,r,e,d⟩:=l.row (by simp);injection e with e1 e2 e3
 subst e1 e2 e3;exact⟨Af.node ⟨be,12,⟨#[112,117,116]⟩,⟨#[]⟩,0,at',_,3,cap,[x,y,z],rfl,hlo,j,d,.inr (.inr (.inr (.inr (.inr (.inr (.inr (.inr (.inr (.inr (.inr ⟨.inr rfl,.inr (.inr (.inr (.inr (.inr (.inl ⟨rfl,x,y,z,rfl,rfl⟩)))))⟩))))))))))⟩,b⟩
theorem Fr.fresh2 {br be bg:Nat}{w w2 w3:World}(F:Fr (·≠br) w w2)(hf:Fr (fun k=>k≠be/\k≠bg) w2 w3)(h:w.heap.size<=be)(h2:w.heap.size<=bg):Fr (·≠br) w w3 :=
 ⟨hf.os.trans F.os,hf.tape.trans F.tape,hf.output.trans F.output,Nat.le_trans F.size hf.size,fun k hk hq=>(hf.block k (Nat.lt_of_lt_of_le hk F.size) ⟨by omega,by omega⟩).trans (F.block k hk hq)⟩
theorem aN {w8 w9:World}{o:Obj}{be bg at':Nat}(E8:Ao w8 be 12 ⟨#[112,117,116]⟩ ⟨#[]⟩ 0 at' (some ⟨bg,0,none⟩) 2 2)(hbe:be≠bg)(hg:(w8.alloc o).grownBy w9 (some bg)):w9.cell? ⟨be,5,none⟩=some (.slice (some ⟨bg,0,none⟩) 2 2)/\w9.frozen? ⟨be,5,none⟩=false:=by
 have a:=World.grownBy_alloc w8 o none;have c:w9.heap[be]?=w8.heap[be]?:=(hg.block be (Nat.lt_of_lt_of_le (Ab E8) a.size) (by simpa using hbe)).trans (a.block be (Ab E8) (by simp));have b:Ao w9 be 12 ⟨#[112,117,116]⟩ ⟨#[]⟩ 0 at' (some ⟨bg,0,none⟩) 2 2:=c.trans E8;exact⟨Aa b 5,Ac b 5⟩
theorem Xg {br:Nat}{t:ByteArray}{self:Nat->Nat->Nat->RX PX}(hS:Ax br t self)(w:World)(lo d i:Nat)(x:PX)(v:Value)(hd:d<=24)(ht:t.size<=4000)(hI:Bl w br)(hr:RdF w br t i d)(hlo:lo<=w.heap.size)(hbl:br<lo)(hx:Af (fun k=>lo<=k) w x v)
  (hyes:∀y j,self 0 (d+1) (i+1)=some (.ok (y,j))->(txF t.data.toList j==[58,61])=true) (r:Except (Nat×Nat) (PX×Nat)) (h:Ky (tkF t.data.toList) self d x i=some r) :
  Calls Tryz.prog 149 #[.pointer (some ⟨br,0,none⟩),v] w (Rl lo w br t d r):=by
 have HS:Hid (Ax br t self):=hS;have HI:Hid (Bl w br):=hI;have HL:Hid (∀(W:World)(k:Nat),_):=fun W k h=>Dz W br t k d h hd;have HD:Hid (∀(W:World)(m:ByteArray)(k:Nat)(b:Bool),_):=fun W m k b h=>Cj W br t m k (d+1) h ht b;have HK:Hid (∀(W:World)(k:Nat)(b:Bool),_):=fun W k b h=>Fu W br t ⟨#[58,61]⟩ k (d+1) h ht b;have HR:Hid (RdF w br t i d):=hr;have b8:=Ab hr;have h1:=Aa hr 1;clear hS hr hI;have mo:=follows;obtain⟨f,rfl,c8,b3⟩:=hx.ptr;have C:=(Fr.refl (fun _=>True) w).alloc (.cells #[.int .i64 12,.string ⟨#[97,116]⟩,.string ⟨#[]⟩,.int .i64 0,.int .i64 (atF t.data.toList i:Int),.slice none 0 0] 81);have E1:Hid (Ao (w.alloc (.cells #[.int .i64 12,.string ⟨#[97,116]⟩,.string ⟨#[]⟩,.int .i64 0,.int .i64 (atF t.data.toList i:Int),.slice none 0 0] 81)) w.heap.size 12 ⟨#[97,116]⟩ ⟨#[]⟩ 0 (atF t.data.toList i) none 0 0):=Aj rfl;have F1:Hid (Fr (·≠br) w (w.alloc (.cells #[.int .i64 12,.string ⟨#[97,116]⟩,.string ⟨#[]⟩,.int .i64 0,.int .i64 (atF t.data.toList i:Int),.slice none 0 0] 81))):=C.mono fun _ _=>trivial;have R1:Hid (RdF (w.alloc (.cells #[.int .i64 12,.string ⟨#[97,116]⟩,.string ⟨#[]⟩,.int .i64 0,.int .i64 (atF t.data.toList i:Int),.slice none 0 0] 81)) br t i d):=RdF.of HR.out C trivial;have X1:Hid (Af (fun k=>lo<=k/\k<w.heap.size) (w.alloc (.cells #[.int .i64 12,.string ⟨#[97,116]⟩,.string ⟨#[]⟩,.int .i64 0,.int .i64 (atF t.data.toList i:Int),.slice none 0 0] 81)) x (.pointer (some ⟨f,0,none⟩))):=hx.fr (C.mono fun _ _=>trivial) fun _ h q=>⟨q,h⟩;clear C hx;unfold Ky at h;go_enter Tryz.func149,Tryz.ntmps149
 go_wp2_with fail
 clear h1 HR;generalize w.alloc (.cells #[.int .i64 12,.string ⟨#[97,116]⟩,.string ⟨#[]⟩,.int .i64 0,.int .i64 (atF t.data.toList i:Int),.slice none 0 0] 81)=w1 at E1 F1 R1 X1 |-;obtain⟨be,a1⟩:∃be,w.heap.size=be:=⟨_,rfl⟩;rw[a1] at E1 b8 hlo X1 b3 |-;have M:w.heap.size<=be:=by omega
 clear a1;have l:be≠br:=by omega
 rcases C2 hd h with⟨b6,hk⟩|⟨rfl,rfl⟩
 case inr =>
  refine(Dg w1 br t i R1.out).mono ?_;rintro e F ⟨rfl,rfl⟩;exact⟨rfl,F1.out,rfl⟩
 refine(Ez w1 br t i d R1.out ht b6).mono ?_;rintro e F ⟨rfl,hr,hf⟩;have R2:Hid (RdF F br t (i+1) (d+1)):=hr;have E2:Hid (Ao F be 12 ⟨#[97,116]⟩ ⟨#[]⟩ 0 (atF t.data.toList i) none 0 0):=E1.out.of hf l;have V:Hid (Fr (·≠br) w F):=F1.out.trans hf;have X2:Hid (Af (fun k=>lo<=k/\k<be) F x (.pointer (some ⟨f,0,none⟩))):=X1.out.fr (hf.mono fun k q=>by omega) fun _ _ q=>q;have d0:be<F.heap.size:=Ab E2.out;clear hr hf E1 F1 R1 X1 h;go_wp2_with fail
 rcases Aq hk with⟨⟨c,p⟩,A,rfl⟩|⟨y,j,A,D⟩
 ·refine(Aw HS.out F (d+1) _ _ (by omega) (HI.out.fr V.out) R2.out A).mono ?_;rintro e a ⟨hf,rfl⟩;exact⟨rfl,V.out.trans hf,rfl⟩
 refine(Aw HS.out F (d+1) _ _ (by omega) (HI.out.fr V.out) R2.out A).mono ?_;rintro e a ⟨hf,⟨vy,rfl,hv⟩,hr⟩;have q:=hyes y j A;have R3:Hid (RdF a br t j (d+1)):=hr;have F3:Hid (Fr (·≠br) w a):=V.out.trans hf;have U:Hid (Ao a be 12 ⟨#[97,116]⟩ ⟨#[]⟩ 0 (atF t.data.toList i) none 0 0):=E2.out.of hf l;have X3:Hid (Af (fun k=>lo<=k/\k<be) a x (.pointer (some ⟨f,0,none⟩))):=X2.out.fr (hf.mono fun k q=>by omega) fun _ _ q=>q;have Y3:Hid (Af (fun k=>F.heap.size<=k) a y vy):=hv;have a5:be<a.heap.size:=Ab U.out;have c6:=hf.size;clear hf hr hv A hk hyes E2 V R2 X2;obtain⟨s,rfl,-,-⟩:=Y3.out.ptr;have Y:=Aa U.out 5;have Z:=Ac U.out 5;have a6:(tkF t.data.toList j).tx=txF t.data.toList j:=rfl;simp only[a6] at D;clear a6;rw[q,if_pos rfl] at D;have u:Fr (fun k=>k≠be) a ((a.setCell ⟨be,5,none⟩ (.slice (some ⟨a.heap.size,0,none⟩) 2 2)).alloc (.cells #[.pointer (some ⟨f,0,none⟩),.pointer (some ⟨s,0,none⟩)] 37)):=((Fr.refl _ a).set (by simp) _).alloc _;have E4:Hid (Ao ((a.setCell ⟨be,5,none⟩ (.slice (some ⟨a.heap.size,0,none⟩) 2 2)).alloc (.cells #[.pointer (some ⟨f,0,none⟩),.pointer (some ⟨s,0,none⟩)] 37)) be 12 ⟨#[97,116]⟩ ⟨#[]⟩ 0 (atF t.data.toList i) (some ⟨a.heap.size,0,none⟩) 2 2):=(U.out.parts _ _ _).of (P:=fun _=>True) ((Fr.refl _ _).alloc _) trivial;have T:Hid (((a.setCell ⟨be,5,none⟩ (.slice (some ⟨a.heap.size,0,none⟩) 2 2)).alloc (.cells #[.pointer (some ⟨f,0,none⟩),.pointer (some ⟨s,0,none⟩)] 37)).heap[a.heap.size]?=some (.cells #[.pointer (some ⟨f,0,none⟩),.pointer (some ⟨s,0,none⟩)] 37 (0,0))):=Aj (by simp);have R4:Hid (RdF _ br t j (d+1)):=RdF.of R3.out u (Ne.symm l);have F4:Hid (Fr (·≠br) w _):=F3.out.fresh (u.mono fun _ q=>q.2) M;have X4:Hid (Af (fun k=>lo<=k/\k<a.heap.size/\k≠be) _ x (.pointer (some ⟨f,0,none⟩))):=X3.out.fr (u.mono fun _ _=>by omega) fun _ h q=>by omega
 have Y4:Hid (Af (fun k=>lo<=k/\k<a.heap.size/\k≠be) _ y (.pointer (some ⟨s,0,none⟩))):=Y3.out.fr (u.mono fun _ _=>by omega) fun _ h q=>by omega
 have H:Hid (Calls _ _ _ _ _):=HK.out _ j true R4.out q;clear u U F3 R3 X3 Y3 q;go_wp2_with fail
 clear Y Z;generalize (a.setCell ⟨be,5,none⟩ (.slice (some ⟨a.heap.size,0,none⟩) 2 2)).alloc (.cells #[.pointer (some ⟨f,0,none⟩),.pointer (some ⟨s,0,none⟩)] 37)=w4 at E4 T R4 F4 X4 Y4 H |-;obtain⟨bg,a2⟩:∃bg,a.heap.size=bg:=⟨_,rfl⟩;rw[a2] at E4 T X4 Y4 a5 c6 |-;clear a2;refine H.out.mono ?_;rintro e n ⟨rfl,hr,hf⟩;have R5:Hid (RdF n br t (j+1) (d+1)):=hr;have F5:Hid (Fr (·≠br) w n):=F4.out.trans hf;have O:Hid (Ao n be 12 ⟨#[97,116]⟩ ⟨#[]⟩ 0 (atF t.data.toList i) (some ⟨bg,0,none⟩) 2 2):=E4.out.of hf l;have B5:Hid (n.heap[bg]?=some (.cells #[.pointer (some ⟨f,0,none⟩),.pointer (some ⟨s,0,none⟩)] 37 (0,0))):=(hf.block bg (Ab T.out) (by omega)).trans T.out;have X5:Hid (Af (fun k=>lo<=k/\k<bg/\k≠be) n x (.pointer (some ⟨f,0,none⟩))):=X4.out.fr (hf.mono fun k q=>by omega) fun _ _ q=>q;have Y5:Hid (Af (fun k=>lo<=k/\k<bg/\k≠be) n y (.pointer (some ⟨s,0,none⟩))):=Y4.out.fr (hf.mono fun k q=>by omega) fun _ _ q=>q;have c1:=Aa O.out 1;have f1:=Ac O.out 1;have Y:=Aa O.out 5;have Z:=Ac O.out 5;clear hr hf R4 F4 E4 T X4 Y4 H;go_wp2_with fail
 have Q:Hid (Ao (n.setCell ⟨be,1,none⟩ (.string ⟨#[112,117,116]⟩)) be 12 ⟨#[112,117,116]⟩ ⟨#[]⟩ 0 (atF t.data.toList i) (some ⟨bg,0,none⟩) 2 2):=O.out.op _;have R6:Hid (RdF (n.setCell ⟨be,1,none⟩ (.string ⟨#[112,117,116]⟩)) br t (j+1) (d+1)):=R5.out.setB (Ne.symm l) _;have F6:Hid (Fr (·≠br) w (n.setCell ⟨be,1,none⟩ (.string ⟨#[112,117,116]⟩))):=F5.out.setB M _;have B:Fr (·≠be) n (n.setCell ⟨be,1,none⟩ (.string ⟨#[112,117,116]⟩)):=(Fr.refl _ n).set (by simp) _;have X6:Hid (Af (fun k=>lo<=k/\k<bg/\k≠be) _ x (.pointer (some ⟨f,0,none⟩))):=X5.out.fr (B.mono fun k q=>q.2.2) fun _ _ q=>q;have Y6:Hid (Af (fun k=>lo<=k/\k<bg/\k≠be) _ y (.pointer (some ⟨s,0,none⟩))):=Y5.out.fr (B.mono fun k q=>q.2.2) fun _ _ q=>q;have B6:Hid ((n.setCell ⟨be,1,none⟩ (.string ⟨#[112,117,116]⟩)).heap[bg]?=some (.cells #[.pointer (some ⟨f,0,none⟩),.pointer (some ⟨s,0,none⟩)] 37 (0,0))):=(B.block bg (Ab B5.out) (by omega)).trans B5.out;clear c1 f1 Y Z B O R5 F5 X5 Y5 B5;generalize n.setCell ⟨be,1,none⟩ (.string ⟨#[112,117,116]⟩)=w6 at Q R6 F6 X6 Y6 B6 |-;have Y:=Aa Q.out 5;have k5:=Aa (Q.out.of (P:=fun _=>True) (Fr.grew (Ag.refl _).drew) trivial) 5;have Z:=Ac Q.out 5;have R7:Hid (RdF w6.drew br t (j+1) (d+1)):=RdF.of R6.out (P:=fun _=>True) (Fr.grew (Ag.refl _).drew) trivial;have F7:Hid (Fr (·≠br) w w6.drew):=F6.out.drew;rcases Aq D with⟨⟨c,p⟩,A,rfl⟩|⟨z,j2,A,a4⟩
 ·have HC:Hid (Calls _ _ _ _ _):=Aw HS.out w6.drew (d+1) _ _ (by omega) (HI.out.fr F7.out) R7.out A;refine wp_region_any (by kernel_rfl) ?_;change wpAny _ _ _ _ _ _ _ (World.drew _);refine wpAny_take (i:=0) (v:=.pointer (some ⟨be,0,none⟩)) rfl (by kernel_rfl) (by kernel_rfl) (by kernel_rfl) (fun _ _ _ h=>h) (Or.inl ⟨by rfl,by intro w;go_simp⟩) ?_;refine wpAny_take (i:=1) (v:=.pointer (some ⟨be,0,none⟩)) rfl (by kernel_rfl) (by kernel_rfl) (by kernel_rfl) (fun _ _ _ h=>h) (Or.inl ⟨by rfl,by intro w;go_simp⟩) ?_;refine wpAny_take (i:=5) (v:=.pointer (some ⟨br,0,none⟩)) rfl (by kernel_rfl) (by kernel_rfl) (by kernel_rfl) (fun _ _ _ h=>h) (Or.inl ⟨by rfl,by intro w;go_simp⟩) ?_;refine wpAny_take (i:=2) (v:=.pointer (some ⟨be,0,none⟩)) rfl (by kernel_rfl) (by kernel_rfl) (by kernel_rfl) (fun _ _ _ h=>h) (Or.inl ⟨by rfl,by intro w;go_simp⟩) ?_;refine wpAny_take (i:=3) (v:=.pointer (some ⟨be,5,none⟩)) rfl (by kernel_rfl) (by kernel_rfl) (by kernel_rfl) (fun _ _ _ h=>h) (Or.inl ⟨by rfl,by intro w;go_simp⟩) ?_;refine wpAny_ready (rs:=[4,6]) (by kernel_rfl) (by simp) ?_;refine AllReady.cons rfl (fun K hK=>?_) (AllReady.cons rfl (fun K hK=>?_) AllReady.nil)
  ·go_simp
   refine hK _ _ ?_;clear hK K;refine wpAny_ready (rs:=[6]) (by kernel_rfl) (by simp) ?_;refine AllReady.cons rfl (fun K hK=>?_) AllReady.nil;go_simp
   refine HC.out.mono ?_;rintro e w8 ⟨hf,rfl⟩;exact⟨rfl,F7.out.trans hf,rfl⟩
  ·go_simp
   refine HC.out.mono ?_;rintro e w8 ⟨hf,rfl⟩;exact⟨rfl,F7.out.trans hf,rfl⟩
 have HC:Hid (Calls _ _ _ _ _):=Aw HS.out w6.drew (d+1) _ _ (by omega) (HI.out.fr F7.out) R7.out A;obtain⟨R,b7,c2,c3,c4⟩:∃R,Tryz.prog.info? 37=some R/\R.zero=some (.pointer none)/\R.size=1/\R.bytes=8:=by
  have:=dI;cases hq:Tryz.prog.info? 37 with
  | none=>rw[hq] at this;simp at this
  | some j=>rw[hq] at this;simp at this;exact⟨j,rfl,this.1,this.2.1,this.2.2⟩
 have G:bg<w6.heap.size:=Ab B6.out;have a3:bg<w6.drew.heap.size:=by simp;exact G
 have c0:2+1<=maxLen:=by unfold maxLen;omega
 have b5:(2+1)*8<=140737488355328:=by omega
 clear D A;have HPO:Hid (∀(w8:World)(vz:Value),Fr (·≠br) w6.drew w8->Af (fun k=>w6.drew.heap.size<=k) w8 z vz->∃bz,vz=.pointer (some ⟨bz,0,none⟩)/\Ao w8 be 12 ⟨#[112,117,116]⟩ ⟨#[]⟩ 0 (atF t.data.toList i) (some ⟨bg,0,none⟩) 2 2/\(w8.alloc (.cells #[.pointer (some ⟨bz,0,none⟩)] 37)).ownsRow lo 37 1 (.slice (some ⟨bg,0,none⟩) 2 2) 2 [.pointer (some ⟨f,0,none⟩),.pointer (some ⟨s,0,none⟩)]/\lo<=(w8.alloc (.cells #[.pointer (some ⟨bz,0,none⟩)] 37)).heap.size/\(w8.alloc (.cells #[.pointer (some ⟨bz,0,none⟩)] 37)).heap[w8.heap.size]?=some (.cells #[.pointer (some ⟨bz,0,none⟩)] 37 (0,0))):=by
  intro w8 vz hf hv;obtain⟨bz,rfl,-,-⟩:=hv.ptr;have J:Fr (·≠br) w6 w8:=(Fr.grew (Ag.refl _).drew).trans hf;have hB:w8.heap[bg]?=_:=(J.block bg G (by omega)).trans B6.out;refine⟨bz,rfl,Q.out.of J l,World.ownsRow.alloc ⟨rfl,.inr ⟨bg,2,_,rfl,by omega,hB,by omega,by unfold maxLen;omega,rfl,rfl⟩⟩ _,?_,Aj rfl⟩;have:=J.size;simp;omega
 go_region_law (first
  | (
   refine step_append_lies _ rfl _ _ 79 rfl lo 37 R _ 1 8 Tryz.underlying79 b7 c2 c3 c4 rfl (by decide) (.slice (some ⟨bg,0,none⟩) 2 2) 2 _ (by simp[Act.eval]) OW.out _ 1 1 [.pointer (some ⟨bz,0,none⟩)] (by simp[Act.eval]) rfl (World.news_of_block NB.out) (by simp;rfl) (by decide) c0 b5 LW.out (w8.heap.size+1) (by simp) ?_;intro g o S ho hg a0 b9;have X:Hid (Af (fun k=>lo<=k) (S.setCell ⟨be,5,none⟩ (.slice (some ⟨g,0,none⟩) 3 o)) (Ht x y z) (.pointer (some ⟨be,0,none⟩))/\Fr (fun k=>k≠be/\k≠bg) w8 (S.setCell ⟨be,5,none⟩ (.slice (some ⟨g,0,none⟩) 3 o))):=dL E8.out X8.out Y8.out Z8.out hlo a5 a3 c7 ho hg a0;obtain⟨c9,f9⟩:=aN E8.out (by omega) hg;clear ho hg a0 b9)
  | (go_simp;go_wp2_with (go_at_call 29;refine HC.out.mono ?_;rintro e w8 ⟨hf,⟨vz,rfl,hv⟩,hr⟩;obtain⟨bz,rfl,hE,hO,hL,hN⟩:=HPO.out w8 vz hf hv;have R8:Hid (RdF w8 br t j2 (d+1)):=hr;have F8:Hid (Fr (·≠br) w w8):=F7.out.trans hf;have E8:Hid (Ao w8 be 12 ⟨#[112,117,116]⟩ ⟨#[]⟩ 0 (atF t.data.toList i) (some ⟨bg,0,none⟩) 2 2):=hE;have OW:Hid (World.ownsRow _ _ _ _ _ _ _):=hO;have LW:Hid (_<=_):=hL;have NB:Hid (_=_):=hN;have X8:Hid (Af (fun k=>lo<=k/\k<bg/\k≠be) w8 x (.pointer (some ⟨f,0,none⟩))):=X6.out.fr (((Fr.grew (Ag.refl _).drew).trans hf).mono fun k q=>by omega) fun _ _ q=>q;have Y8:Hid (Af (fun k=>lo<=k/\k<bg/\k≠be) w8 y (.pointer (some ⟨s,0,none⟩))):=Y6.out.fr (((Fr.grew (Ag.refl _).drew).trans hf).mono fun k q=>by omega) fun _ _ q=>q;have Z8:Hid (Af (fun k=>w6.drew.heap.size<=k) w8 z (.pointer (some ⟨bz,0,none⟩))):=hv;have c7:=hf.size;have k8:=Aa hE 5;have b4:be<w8.heap.size:=Ab hE;clear hr hf hv hE hO hL hN)))
 all_goals obtain⟨hT,I⟩:=X.out
 all_goals have R9:Hid (RdF (S.setCell ⟨be,5,none⟩ (.slice (some ⟨g,0,none⟩) 3 o)) br t j2 (d+1)):=RdF.of R8.out I ⟨Ne.symm l,by omega⟩
 all_goals have F9:Hid (Fr (·≠br) w (S.setCell ⟨be,5,none⟩ (.slice (some ⟨g,0,none⟩) 3 o))):=F8.out.fresh2 I M (by omega)
 all_goals have T9:Hid (Af (fun k=>lo<=k) (S.setCell ⟨be,5,none⟩ (.slice (some ⟨g,0,none⟩) 3 o)) (Ht x y z) (.pointer (some ⟨be,0,none⟩))):=hT
 all_goals clear hT I X R8 F8 E8 OW LW NB X8 Y8 Z8 k8 b4 c9 f9 Y k5 Z Q R6 F6 X6 Y6 B6 R7 F7 HC HPO
 all_goals generalize S.setCell ⟨be,5,none⟩ (.slice (some ⟨g,0,none⟩) 3 o)=w10 at R9 F9 T9 |-
 all_goals
  go_wp2_with fail
  rcases Bk a4 with⟨hb,L⟩|⟨hb,rfl⟩
  rotate_left
  ·refine(HD.out w10 ⟨#[93]⟩ j2 false R9.out hb).mono ?_;rintro e E ⟨hf,⟨q,-⟩|⟨-,rfl⟩⟩
   ·simp at q
   ·exact⟨rfl,F9.out.trans hf,rfl⟩
  refine(HD.out w10 ⟨#[93]⟩ j2 true R9.out hb).mono ?_;rintro e E ⟨hf,⟨-,rfl,hr⟩|⟨q,-⟩⟩
  rotate_left
  ·simp at q
  have a9:Hid (RdF E br t (j2+1) (d+1)):=hr;have a7:Hid (Fr (·≠br) w E):=F9.out.trans hf;have b1:Hid (Af (fun k=>lo<=k) E (Ht x y z) (.pointer (some ⟨be,0,none⟩))):=T9.out.fr (hf.mono fun k q=>by omega) fun _ _ q=>q;have HQ:Hid (r=.ok (Ht x y z,j2+1)):=by simp only[okX,Option.some.injEq] at L;exact L.symm
  clear hf hr hb a4 L R9 F9 T9;go_wp2_with (go_at_call 146;refine(HL.out _ _ a9.out).mono ?_;rintro e N ⟨rfl,hr,hf⟩;have b0:Hid (RdF N br t (j2+1) d):=hr;have a8:Hid (Fr (·≠br) w N):=a7.out.trans hf;have b2:Hid (Af (fun k=>lo<=k) N (Ht x y z) (.pointer (some ⟨be,0,none⟩))):=b1.out.fr (hf.mono fun k q=>by omega) fun _ _ q=>q;clear hr hf)
  go_ret
  rw[HQ.out];exact⟨a8.out,⟨_,rfl,b2.out⟩,b0.out⟩
end Go.Proofs.YtjbfcadeapphbaaGreatDoor.Sx
