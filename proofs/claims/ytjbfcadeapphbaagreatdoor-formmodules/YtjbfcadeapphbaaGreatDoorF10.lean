/- What a bracket begins: functions. -/
import Derived.Test.YtjbfcadeapphbaaGreatDoorF09
import Derived.Deep.RegionLaw
namespace Go.Proofs.YtjbfcadeapphbaaGreatDoor.Sx
set_option maxRecDepth 100000
set_option maxHeartbeats 2000000
open Go.RowKit Go.Sort
theorem gP {w8 w9:World}{o:Obj}{lo be bg g cap lz at' bl bb bz:Nat}{x y z:PX}(E8:Ar w8 be 12 ⟨#[112,117,116]⟩ ⟨#[]⟩ 0 at' (some ⟨bg,0,none⟩) 2 2)
  (X8:Ah (fun k=>lo<=k/\k<bg/\k≠be) w8 x (.pointer (some ⟨bl,0,none⟩))) (Y8:Ah (fun k=>lo<=k/\k<bg/\k≠be) w8 y (.pointer (some ⟨bb,0,none⟩))) (Z8:Ah (fun k=>lz<=k) w8 z (.pointer (some ⟨bz,0,none⟩)))
  (hlo:lo<=be) (hbe:be<bg) (hlz:bg<lz) (hl8:lz<=w8.heap.size) (ho:w9.ownsRow lo 37 1 (.slice (some ⟨g,0,none⟩) 3 cap) 3 [.pointer (some ⟨bl,0,none⟩),.pointer (some ⟨bb,0,none⟩),.pointer (some ⟨bz,0,none⟩)])
  (hg:(w8.alloc o).grownBy w9 (some bg)) (hat:some bg=some g\/g=w8.heap.size+1) :
  Ah (fun k=>lo<=k) (w9.setCell ⟨be,5,none⟩ (.slice (some ⟨g,0,none⟩) 3 cap)) (Gp x y z) (.pointer (some ⟨be,0,none⟩))/\Fr (fun k=>k≠be/\k≠bg) w8 (w9.setCell ⟨be,5,none⟩ (.slice (some ⟨g,0,none⟩) 3 cap)):=by
 have n:bg<=g:=by
  rcases hat with q|q
  ·simp at q;omega
  ·omega
 have c:=World.grownBy_alloc w8 o none;have f:Fr (fun k=>k≠bg) w8 w9:=⟨hg.os.trans c.os,hg.tape.trans c.tape,hg.output.trans c.output,Nat.le_trans c.size hg.size,fun k hk hq=>(hg.block k (Nat.lt_of_lt_of_le hk c.size) (by simpa using hq)).trans (c.block k hk (by simp))⟩;have j:Ar (w9.setCell ⟨be,5,none⟩ (.slice (some ⟨g,0,none⟩) 3 cap)) be 12 ⟨#[112,117,116]⟩ ⟨#[]⟩ 0 at' (some ⟨g,0,none⟩) 3 cap:=(E8.of f (by omega)).parts _ _ _;have b:Fr (fun k=>k≠be/\k≠bg) w8 (w9.setCell ⟨be,5,none⟩ (.slice (some ⟨g,0,none⟩) 3 cap)):=(f.mono fun _ q=>q.2).set (by simp) _;have m:(w9.setCell ⟨be,5,none⟩ (.slice (some ⟨g,0,none⟩) 3 cap)).ownsRow lo 37 1 (.slice (some ⟨g,0,none⟩) 3 cap) 3 [.pointer (some ⟨bl,0,none⟩),.pointer (some ⟨bb,0,none⟩),.pointer (some ⟨bz,0,none⟩)]:=Mx ho fun q hq _ _=>by
  simp only[Value.ownBlock,Option.some.injEq] at hq;exact Below.heap_setCell w9 _ _ q (by simp;omega)
 have l:LSt (w9.setCell ⟨be,5,none⟩ (.slice (some ⟨g,0,none⟩) 3 cap)) lo (.slice (some ⟨g,0,none⟩) 3 cap) [x,y,z]:=by
  refine⟨_,m,fun i v q=>?_⟩
  match i with
  | 0=>simp at q;subst q;exact⟨_,rfl,X8.fr (b.mono fun k q=>by omega) fun k _ q=>⟨q.1,by simp only[Value.ownBlock,ne_eq,Option.some.injEq];omega⟩⟩
  | 1=>simp at q;subst q;exact⟨_,rfl,Y8.fr (b.mono fun k q=>by omega) fun k _ q=>⟨q.1,by simp only[Value.ownBlock,ne_eq,Option.some.injEq];omega⟩⟩
  | 2=>simp at q;subst q;exact⟨_,rfl,Z8.fr (b.mono fun k q=>by omega) fun k hk q=>⟨by omega,by
    simp only[Value.ownBlock,ne_eq,Option.some.injEq];rcases hat with h|h
    ·simp at h;omega
    ·omega⟩⟩
  | i+3=>simp at q
 obtain⟨a,p,r,e,d⟩:=l.row (by simp);injection e with e1 e2 e3
 subst e1 e2 e3;exact⟨Ah.node ⟨be,12,⟨#[112,117,116]⟩,⟨#[]⟩,0,at',_,3,cap,[x,y,z],rfl,hlo,j,d,.inr (.inr (.inr (.inr (.inr (.inr (.inr (.inr (.inr (.inr (.inr ⟨.inr rfl,.inr (.inr (.inr (.inr (.inr (.inl ⟨rfl,x,y,z,rfl,rfl⟩)))))⟩))))))))))⟩,b⟩
theorem Fr.fresh2 {br be bg:Nat}{w w2 w3:World}(F:Fr (·≠br) w w2)(hf:Fr (fun k=>k≠be/\k≠bg) w2 w3)(h:w.heap.size<=be)(h2:w.heap.size<=bg):Fr (·≠br) w w3 :=
 ⟨hf.os.trans F.os,hf.tape.trans F.tape,hf.output.trans F.output,Nat.le_trans F.size hf.size,fun k hk hq=>(hf.block k (Nat.lt_of_lt_of_le hk F.size) ⟨by omega,by omega⟩).trans (F.block k hk hq)⟩
theorem dO {w8 w9:World}{o:Obj}{be bg at':Nat}(E8:Ar w8 be 12 ⟨#[112,117,116]⟩ ⟨#[]⟩ 0 at' (some ⟨bg,0,none⟩) 2 2)(hbe:be≠bg)(hg:(w8.alloc o).grownBy w9 (some bg)):w9.cell? ⟨be,5,none⟩=some (.slice (some ⟨bg,0,none⟩) 2 2)/\w9.frozen? ⟨be,5,none⟩=false:=by
 have a:=World.grownBy_alloc w8 o none;have c:w9.heap[be]?=w8.heap[be]?:=(hg.block be (Nat.lt_of_lt_of_le (Ac E8) a.size) (by simpa using hbe)).trans (a.block be (Ac E8) (by simp));have b:Ar w9 be 12 ⟨#[112,117,116]⟩ ⟨#[]⟩ 0 at' (some ⟨bg,0,none⟩) 2 2:=c.trans E8;exact⟨Aa b 5,Ab b 5⟩
theorem Zl {br:Nat}{t:ByteArray}{self:Nat->Nat->Nat->RX PX}(hS:Ba br t self)(w:World)(lo d i:Nat)(x:PX)(v:Value)(hd:d<=24)(ht:t.size<=4000)(hI:Cd w br)(hr:RdF w br t i d)(hlo:lo<=w.heap.size)(hbl:br<lo)(hx:Ah (fun k=>lo<=k) w x v)
  (hyes:∀y j,self 0 (d+1) (i+1)=some (.ok (y,j))->(txF t.data.toList j==[58,61])=true) (r:Except (Nat×Nat) (PX×Nat)) (h:Lx (tkF t.data.toList) self d x i=some r) :
  Calls Tryz.prog 149 #[.pointer (some ⟨br,0,none⟩),v] w (S2 lo w br t d r):=by
 have HS:Hid (Ba br t self):=hS;have HI:Hid (Cd w br):=hI;have HL:Hid (∀(W:World)(k:Nat),_):=fun W k h=>Et W br t k d h hd;have HD:Hid (∀(W:World)(m:ByteArray)(k:Nat)(b:Bool),_):=fun W m k b h=>C3 W br t m k (d+1) h ht b;have HK:Hid (∀(W:World)(k:Nat)(b:Bool),_):=fun W k b h=>Fz W br t ⟨#[58,61]⟩ k (d+1) h ht b;have HR:Hid (RdF w br t i d):=hr;have b8:=Ac hr;have h1:=Aa hr 1;clear hS hr hI;have mo:=follows;obtain⟨f,rfl,c8,b3⟩:=hx.ptr;have C:=(Fr.refl (fun _=>True) w).alloc (.cells #[.int .i64 12,.string ⟨#[97,116]⟩,.string ⟨#[]⟩,.int .i64 0,.int .i64 (atF t.data.toList i:Int),.slice none 0 0] 81);have E1:Hid (Ar (w.alloc (.cells #[.int .i64 12,.string ⟨#[97,116]⟩,.string ⟨#[]⟩,.int .i64 0,.int .i64 (atF t.data.toList i:Int),.slice none 0 0] 81)) w.heap.size 12 ⟨#[97,116]⟩ ⟨#[]⟩ 0 (atF t.data.toList i) none 0 0):=Af rfl;have F1:Hid (Fr (·≠br) w (w.alloc (.cells #[.int .i64 12,.string ⟨#[97,116]⟩,.string ⟨#[]⟩,.int .i64 0,.int .i64 (atF t.data.toList i:Int),.slice none 0 0] 81))):=C.mono fun _ _=>trivial;have R1:Hid (RdF (w.alloc (.cells #[.int .i64 12,.string ⟨#[97,116]⟩,.string ⟨#[]⟩,.int .i64 0,.int .i64 (atF t.data.toList i:Int),.slice none 0 0] 81)) br t i d):=RdF.of HR.out C trivial;have X1:Hid (Ah (fun k=>lo<=k/\k<w.heap.size) (w.alloc (.cells #[.int .i64 12,.string ⟨#[97,116]⟩,.string ⟨#[]⟩,.int .i64 0,.int .i64 (atF t.data.toList i:Int),.slice none 0 0] 81)) x (.pointer (some ⟨f,0,none⟩))):=hx.fr (C.mono fun _ _=>trivial) fun _ h q=>⟨q,h⟩;clear C hx;unfold Lx at h;go_enter Tryz.func149,Tryz.ntmps149
 go_wp2_with fail
 clear h1 HR;generalize w.alloc (.cells #[.int .i64 12,.string ⟨#[97,116]⟩,.string ⟨#[]⟩,.int .i64 0,.int .i64 (atF t.data.toList i:Int),.slice none 0 0] 81)=w1 at E1 F1 R1 X1 |-;obtain⟨be,a1⟩:∃be,w.heap.size=be:=⟨_,rfl⟩;rw[a1] at E1 b8 hlo X1 b3 |-;have M:w.heap.size<=be:=by omega
 clear a1;have l:be≠br:=by omega
 rcases Du hd h with⟨b6,hk⟩|⟨rfl,rfl⟩
 case inr =>
  refine(Eg w1 br t i R1.out).mono ?_;rintro e F ⟨rfl,rfl⟩;exact⟨rfl,F1.out,rfl⟩
 refine(Fm w1 br t i d R1.out ht b6).mono ?_;rintro e F ⟨rfl,hr,hf⟩;have R2:Hid (RdF F br t (i+1) (d+1)):=hr;have E2:Hid (Ar F be 12 ⟨#[97,116]⟩ ⟨#[]⟩ 0 (atF t.data.toList i) none 0 0):=E1.out.of hf l;have V:Hid (Fr (·≠br) w F):=F1.out.trans hf;have X2:Hid (Ah (fun k=>lo<=k/\k<be) F x (.pointer (some ⟨f,0,none⟩))):=X1.out.fr (hf.mono fun k q=>by omega) fun _ _ q=>q;have d0:be<F.heap.size:=Ac E2.out;clear hr hf E1 F1 R1 X1 h;go_wp2_with fail
 rcases Ax hk with⟨⟨c,p⟩,A,rfl⟩|⟨y,j,A,D⟩
 ·refine(Bb HS.out F (d+1) _ _ (by omega) (HI.out.fr V.out) R2.out A).mono ?_;rintro e a ⟨hf,rfl⟩;exact⟨rfl,V.out.trans hf,rfl⟩
 refine(Bb HS.out F (d+1) _ _ (by omega) (HI.out.fr V.out) R2.out A).mono ?_;rintro e a ⟨hf,⟨vy,rfl,hv⟩,hr⟩;have q:=hyes y j A;have R3:Hid (RdF a br t j (d+1)):=hr;have F3:Hid (Fr (·≠br) w a):=V.out.trans hf;have U:Hid (Ar a be 12 ⟨#[97,116]⟩ ⟨#[]⟩ 0 (atF t.data.toList i) none 0 0):=E2.out.of hf l;have X3:Hid (Ah (fun k=>lo<=k/\k<be) a x (.pointer (some ⟨f,0,none⟩))):=X2.out.fr (hf.mono fun k q=>by omega) fun _ _ q=>q;have Y3:Hid (Ah (fun k=>F.heap.size<=k) a y vy):=hv;have a5:be<a.heap.size:=Ac U.out;have c6:=hf.size;clear hf hr hv A hk hyes E2 V R2 X2;obtain⟨s,rfl,-,-⟩:=Y3.out.ptr;have Y:=Aa U.out 5;have Z:=Ab U.out 5;have a6:(tkF t.data.toList j).tx=txF t.data.toList j:=rfl;simp only[a6] at D;clear a6;rw[q,if_pos rfl] at D;have u:Fr (fun k=>k≠be) a ((a.setCell ⟨be,5,none⟩ (.slice (some ⟨a.heap.size,0,none⟩) 2 2)).alloc (.cells #[.pointer (some ⟨f,0,none⟩),.pointer (some ⟨s,0,none⟩)] 37)):=((Fr.refl _ a).set (by simp) _).alloc _;have E4:Hid (Ar ((a.setCell ⟨be,5,none⟩ (.slice (some ⟨a.heap.size,0,none⟩) 2 2)).alloc (.cells #[.pointer (some ⟨f,0,none⟩),.pointer (some ⟨s,0,none⟩)] 37)) be 12 ⟨#[97,116]⟩ ⟨#[]⟩ 0 (atF t.data.toList i) (some ⟨a.heap.size,0,none⟩) 2 2):=(U.out.parts _ _ _).of (P:=fun _=>True) ((Fr.refl _ _).alloc _) trivial;have T:Hid (((a.setCell ⟨be,5,none⟩ (.slice (some ⟨a.heap.size,0,none⟩) 2 2)).alloc (.cells #[.pointer (some ⟨f,0,none⟩),.pointer (some ⟨s,0,none⟩)] 37)).heap[a.heap.size]?=some (.cells #[.pointer (some ⟨f,0,none⟩),.pointer (some ⟨s,0,none⟩)] 37 (0,0))):=Af (by simp);have R4:Hid (RdF _ br t j (d+1)):=RdF.of R3.out u (Ne.symm l);have F4:Hid (Fr (·≠br) w _):=F3.out.fresh (u.mono fun _ q=>q.2) M;have X4:Hid (Ah (fun k=>lo<=k/\k<a.heap.size/\k≠be) _ x (.pointer (some ⟨f,0,none⟩))):=X3.out.fr (u.mono fun _ _=>by omega) fun _ h q=>by omega
 have Y4:Hid (Ah (fun k=>lo<=k/\k<a.heap.size/\k≠be) _ y (.pointer (some ⟨s,0,none⟩))):=Y3.out.fr (u.mono fun _ _=>by omega) fun _ h q=>by omega
 have H:Hid (Calls _ _ _ _ _):=HK.out _ j true R4.out q;clear u U F3 R3 X3 Y3 q;go_wp2_with fail
 clear Y Z;generalize (a.setCell ⟨be,5,none⟩ (.slice (some ⟨a.heap.size,0,none⟩) 2 2)).alloc (.cells #[.pointer (some ⟨f,0,none⟩),.pointer (some ⟨s,0,none⟩)] 37)=w4 at E4 T R4 F4 X4 Y4 H |-;obtain⟨bg,a2⟩:∃bg,a.heap.size=bg:=⟨_,rfl⟩;rw[a2] at E4 T X4 Y4 a5 c6 |-;clear a2;refine H.out.mono ?_;rintro e n ⟨rfl,hr,hf⟩;have R5:Hid (RdF n br t (j+1) (d+1)):=hr;have F5:Hid (Fr (·≠br) w n):=F4.out.trans hf;have O:Hid (Ar n be 12 ⟨#[97,116]⟩ ⟨#[]⟩ 0 (atF t.data.toList i) (some ⟨bg,0,none⟩) 2 2):=E4.out.of hf l;have B5:Hid (n.heap[bg]?=some (.cells #[.pointer (some ⟨f,0,none⟩),.pointer (some ⟨s,0,none⟩)] 37 (0,0))):=(hf.block bg (Ac T.out) (by omega)).trans T.out;have X5:Hid (Ah (fun k=>lo<=k/\k<bg/\k≠be) n x (.pointer (some ⟨f,0,none⟩))):=X4.out.fr (hf.mono fun k q=>by omega) fun _ _ q=>q;have Y5:Hid (Ah (fun k=>lo<=k/\k<bg/\k≠be) n y (.pointer (some ⟨s,0,none⟩))):=Y4.out.fr (hf.mono fun k q=>by omega) fun _ _ q=>q;have c1:=Aa O.out 1;have f1:=Ab O.out 1;have Y:=Aa O.out 5;have Z:=Ab O.out 5;clear hr hf R4 F4 E4 T X4 Y4 H;go_wp2_with fail
 have Q:Hid (Ar (n.setCell ⟨be,1,none⟩ (.string ⟨#[112,117,116]⟩)) be 12 ⟨#[112,117,116]⟩ ⟨#[]⟩ 0 (atF t.data.toList i) (some ⟨bg,0,none⟩) 2 2):=O.out.op _;have R6:Hid (RdF (n.setCell ⟨be,1,none⟩ (.string ⟨#[112,117,116]⟩)) br t (j+1) (d+1)):=R5.out.setB (Ne.symm l) _;have F6:Hid (Fr (·≠br) w (n.setCell ⟨be,1,none⟩ (.string ⟨#[112,117,116]⟩))):=F5.out.setB M _;have B:Fr (·≠be) n (n.setCell ⟨be,1,none⟩ (.string ⟨#[112,117,116]⟩)):=(Fr.refl _ n).set (by simp) _;have X6:Hid (Ah (fun k=>lo<=k/\k<bg/\k≠be) _ x (.pointer (some ⟨f,0,none⟩))):=X5.out.fr (B.mono fun k q=>q.2.2) fun _ _ q=>q;have Y6:Hid (Ah (fun k=>lo<=k/\k<bg/\k≠be) _ y (.pointer (some ⟨s,0,none⟩))):=Y5.out.fr (B.mono fun k q=>q.2.2) fun _ _ q=>q;have B6:Hid ((n.setCell ⟨be,1,none⟩ (.string ⟨#[112,117,116]⟩)).heap[bg]?=some (.cells #[.pointer (some ⟨f,0,none⟩),.pointer (some ⟨s,0,none⟩)] 37 (0,0))):=(B.block bg (Ac B5.out) (by omega)).trans B5.out;clear c1 f1 Y Z B O R5 F5 X5 Y5 B5;generalize n.setCell ⟨be,1,none⟩ (.string ⟨#[112,117,116]⟩)=w6 at Q R6 F6 X6 Y6 B6 |-;have Y:=Aa Q.out 5;have k5:=Aa (Q.out.of (P:=fun _=>True) (Fr.grew (Ad.refl _).drew) trivial) 5;have Z:=Ab Q.out 5;have R7:Hid (RdF w6.drew br t (j+1) (d+1)):=RdF.of R6.out (P:=fun _=>True) (Fr.grew (Ad.refl _).drew) trivial;have F7:Hid (Fr (·≠br) w w6.drew):=F6.out.drew;rcases Ax D with⟨⟨c,p⟩,A,rfl⟩|⟨z,j2,A,a4⟩
 ·have HC:Hid (Calls _ _ _ _ _):=Bb HS.out w6.drew (d+1) _ _ (by omega) (HI.out.fr F7.out) R7.out A;refine wp_region_any (by kernel_rfl) ?_;change wpAny _ _ _ _ _ _ _ (World.drew _);refine wpAny_take (i:=0) (v:=.pointer (some ⟨be,0,none⟩)) rfl (by kernel_rfl) (by kernel_rfl) (by kernel_rfl) (fun _ _ _ h=>h) (Or.inl ⟨by rfl,by intro w;go_simp⟩) ?_;refine wpAny_take (i:=1) (v:=.pointer (some ⟨be,0,none⟩)) rfl (by kernel_rfl) (by kernel_rfl) (by kernel_rfl) (fun _ _ _ h=>h) (Or.inl ⟨by rfl,by intro w;go_simp⟩) ?_;refine wpAny_take (i:=5) (v:=.pointer (some ⟨br,0,none⟩)) rfl (by kernel_rfl) (by kernel_rfl) (by kernel_rfl) (fun _ _ _ h=>h) (Or.inl ⟨by rfl,by intro w;go_simp⟩) ?_;refine wpAny_take (i:=2) (v:=.pointer (some ⟨be,0,none⟩)) rfl (by kernel_rfl) (by kernel_rfl) (by kernel_rfl) (fun _ _ _ h=>h) (Or.inl ⟨by rfl,by intro w;go_simp⟩) ?_;refine wpAny_take (i:=3) (v:=.pointer (some ⟨be,5,none⟩)) rfl (by kernel_rfl) (by kernel_rfl) (by kernel_rfl) (fun _ _ _ h=>h) (Or.inl ⟨by rfl,by intro w;go_simp⟩) ?_;refine wpAny_ready (rs:=[4,6]) (by kernel_rfl) (by simp) ?_;refine AllReady.cons rfl (fun K hK=>?_) (AllReady.cons rfl (fun K hK=>?_) AllReady.nil)
  ·go_simp
   refine hK _ _ ?_;clear hK K;refine wpAny_ready (rs:=[6]) (by kernel_rfl) (by simp) ?_;refine AllReady.cons rfl (fun K hK=>?_) AllReady.nil;go_simp
   refine HC.out.mono ?_;rintro e w8 ⟨hf,rfl⟩;exact⟨rfl,F7.out.trans hf,rfl⟩
  ·go_simp
   refine HC.out.mono ?_;rintro e w8 ⟨hf,rfl⟩;exact⟨rfl,F7.out.trans hf,rfl⟩
 have HC:Hid (Calls _ _ _ _ _):=Bb HS.out w6.drew (d+1) _ _ (by omega) (HI.out.fr F7.out) R7.out A;obtain⟨R,b7,c2,c3,c4⟩:∃R,Tryz.prog.info? 37=some R/\R.zero=some (.pointer none)/\R.size=1/\R.bytes=8:=by
  have:=gM;cases hq:Tryz.prog.info? 37 with
  | none=>rw[hq] at this;simp at this
  | some j=>rw[hq] at this;simp at this;exact⟨j,rfl,this.1,this.2.1,this.2.2⟩
 have G:bg<w6.heap.size:=Ac B6.out;have a3:bg<w6.drew.heap.size:=by simp;exact G
 have c0:2+1<=maxLen:=by unfold maxLen;omega
 have b5:(2+1)*8<=140737488355328:=by omega
 clear D A;have HPO:Hid (∀(w8:World)(vz:Value),Fr (·≠br) w6.drew w8->Ah (fun k=>w6.drew.heap.size<=k) w8 z vz->∃bz,vz=.pointer (some ⟨bz,0,none⟩)/\Ar w8 be 12 ⟨#[112,117,116]⟩ ⟨#[]⟩ 0 (atF t.data.toList i) (some ⟨bg,0,none⟩) 2 2/\(w8.alloc (.cells #[.pointer (some ⟨bz,0,none⟩)] 37)).ownsRow lo 37 1 (.slice (some ⟨bg,0,none⟩) 2 2) 2 [.pointer (some ⟨f,0,none⟩),.pointer (some ⟨s,0,none⟩)]/\lo<=(w8.alloc (.cells #[.pointer (some ⟨bz,0,none⟩)] 37)).heap.size/\(w8.alloc (.cells #[.pointer (some ⟨bz,0,none⟩)] 37)).heap[w8.heap.size]?=some (.cells #[.pointer (some ⟨bz,0,none⟩)] 37 (0,0))):=by
  intro w8 vz hf hv;obtain⟨bz,rfl,-,-⟩:=hv.ptr;have J:Fr (·≠br) w6 w8:=(Fr.grew (Ad.refl _).drew).trans hf;have hB:w8.heap[bg]?=_:=(J.block bg G (by omega)).trans B6.out;refine⟨bz,rfl,Q.out.of J l,World.ownsRow.alloc ⟨rfl,.inr ⟨bg,2,_,rfl,by omega,hB,by omega,by unfold maxLen;omega,rfl,rfl⟩⟩ _,?_,Af rfl⟩;have:=J.size;simp;omega
 go_region_law (first
  | (
   refine step_append_lies _ rfl _ _ 79 rfl lo 37 R _ 1 8 Tryz.underlying79 b7 c2 c3 c4 rfl (by decide) (.slice (some ⟨bg,0,none⟩) 2 2) 2 _ (by simp[Act.eval]) OW.out _ 1 1 [.pointer (some ⟨bz,0,none⟩)] (by simp[Act.eval]) rfl (World.news_of_block NB.out) (by simp;rfl) (by decide) c0 b5 LW.out (w8.heap.size+1) (by simp) ?_;intro g o S ho hg a0 b9;have X:Hid (Ah (fun k=>lo<=k) (S.setCell ⟨be,5,none⟩ (.slice (some ⟨g,0,none⟩) 3 o)) (Gp x y z) (.pointer (some ⟨be,0,none⟩))/\Fr (fun k=>k≠be/\k≠bg) w8 (S.setCell ⟨be,5,none⟩ (.slice (some ⟨g,0,none⟩) 3 o))):=gP E8.out X8.out Y8.out Z8.out hlo a5 a3 c7 ho hg a0;obtain⟨c9,f9⟩:=dO E8.out (by omega) hg;clear ho hg a0 b9)
  | (go_simp;go_wp2_with (go_at_call 29;refine HC.out.mono ?_;rintro e w8 ⟨hf,⟨vz,rfl,hv⟩,hr⟩;obtain⟨bz,rfl,hE,hO,hL,hN⟩:=HPO.out w8 vz hf hv;have R8:Hid (RdF w8 br t j2 (d+1)):=hr;have F8:Hid (Fr (·≠br) w w8):=F7.out.trans hf;have E8:Hid (Ar w8 be 12 ⟨#[112,117,116]⟩ ⟨#[]⟩ 0 (atF t.data.toList i) (some ⟨bg,0,none⟩) 2 2):=hE;have OW:Hid (World.ownsRow _ _ _ _ _ _ _):=hO;have LW:Hid (_<=_):=hL;have NB:Hid (_=_):=hN;have X8:Hid (Ah (fun k=>lo<=k/\k<bg/\k≠be) w8 x (.pointer (some ⟨f,0,none⟩))):=X6.out.fr (((Fr.grew (Ad.refl _).drew).trans hf).mono fun k q=>by omega) fun _ _ q=>q;have Y8:Hid (Ah (fun k=>lo<=k/\k<bg/\k≠be) w8 y (.pointer (some ⟨s,0,none⟩))):=Y6.out.fr (((Fr.grew (Ad.refl _).drew).trans hf).mono fun k q=>by omega) fun _ _ q=>q;have Z8:Hid (Ah (fun k=>w6.drew.heap.size<=k) w8 z (.pointer (some ⟨bz,0,none⟩))):=hv;have c7:=hf.size;have k8:=Aa hE 5;have b4:be<w8.heap.size:=Ac hE;clear hr hf hv hE hO hL hN)))
 all_goals obtain⟨hT,I⟩:=X.out
 all_goals have R9:Hid (RdF (S.setCell ⟨be,5,none⟩ (.slice (some ⟨g,0,none⟩) 3 o)) br t j2 (d+1)):=RdF.of R8.out I ⟨Ne.symm l,by omega⟩
 all_goals have F9:Hid (Fr (·≠br) w (S.setCell ⟨be,5,none⟩ (.slice (some ⟨g,0,none⟩) 3 o))):=F8.out.fresh2 I M (by omega)
 all_goals have T9:Hid (Ah (fun k=>lo<=k) (S.setCell ⟨be,5,none⟩ (.slice (some ⟨g,0,none⟩) 3 o)) (Gp x y z) (.pointer (some ⟨be,0,none⟩))):=hT
 all_goals clear hT I X R8 F8 E8 OW LW NB X8 Y8 Z8 k8 b4 c9 f9 Y k5 Z Q R6 F6 X6 Y6 B6 R7 F7 HC HPO
 all_goals generalize S.setCell ⟨be,5,none⟩ (.slice (some ⟨g,0,none⟩) 3 o)=w10 at R9 F9 T9 |-
 all_goals
  go_wp2_with fail
  rcases Bv a4 with⟨hb,L⟩|⟨hb,rfl⟩
  rotate_left
  ·refine(HD.out w10 ⟨#[93]⟩ j2 false R9.out hb).mono ?_;rintro e E ⟨hf,⟨q,-⟩|⟨-,rfl⟩⟩
   ·simp at q
   ·exact⟨rfl,F9.out.trans hf,rfl⟩
  refine(HD.out w10 ⟨#[93]⟩ j2 true R9.out hb).mono ?_;rintro e E ⟨hf,⟨-,rfl,hr⟩|⟨q,-⟩⟩
  rotate_left
  ·simp at q
  have a9:Hid (RdF E br t (j2+1) (d+1)):=hr;have a7:Hid (Fr (·≠br) w E):=F9.out.trans hf;have b1:Hid (Ah (fun k=>lo<=k) E (Gp x y z) (.pointer (some ⟨be,0,none⟩))):=T9.out.fr (hf.mono fun k q=>by omega) fun _ _ q=>q;have HQ:Hid (r=.ok (Gp x y z,j2+1)):=by simp only[okX,Option.some.injEq] at L;exact L.symm
  clear hf hr hb a4 L R9 F9 T9;go_wp2_with (go_at_call 146;refine(HL.out _ _ a9.out).mono ?_;rintro e N ⟨rfl,hr,hf⟩;have b0:Hid (RdF N br t (j2+1) d):=hr;have a8:Hid (Fr (·≠br) w N):=a7.out.trans hf;have b2:Hid (Ah (fun k=>lo<=k) N (Gp x y z) (.pointer (some ⟨be,0,none⟩))):=b1.out.fr (hf.mono fun k q=>by omega) fun _ _ q=>q;clear hr hf)
  go_ret
  rw[HQ.out];exact⟨a8.out,⟨_,rfl,b2.out⟩,b0.out⟩
def FSt (lo base:Nat)(w:World)(be at':Nat)(es:List PX)(pa:Option Addr)(ln cp:Nat):Prop :=
 Ar w be 12 ⟨#[102,117,110]⟩ ⟨#[]⟩ 0 at' pa ln cp/\∃vs,w.ownsRow base 37 1 (.slice pa ln cp) es.length vs/\∀(i:Nat)(x:PX),es[i]?=some x->∃v,vs[i]?=some v/\Ah (fun k=>lo<=k/\k<base) w x v
def Hu (l:List (PX×PX)):List PX:=l.flatMap fun p=>[p.1,p.2]
theorem Zm (l:List (PX×PX))(k:Nat)(p:PX×PX)(h:l[k]?=some p):Hu (l.take (k+1))=Hu (l.take k)++[p.1,p.2]:=by
 rw[List.take_add_one,h];simp[Hu]
theorem Nu:∀l:List (PX×PX),(Hu l).length=2*l.length
 | []=>rfl
 | a::l=>by
  have:=Nu l;simp only[Hu,List.flatMap_cons,List.length_append,List.length_cons,List.length_nil] at this |-;omega
theorem FSt.push {lo base be at' ln cp g cap:Nat}{pa:Option Addr}{w wa w9:World}{es:List PX}{x y:PX}{v u:Value}(h:FSt lo base w be at' es pa ln cp)(hbe:be<lo)(hx:Ah (fun k=>lo<=k/\k<base) w x v)(hy:Ah (fun k=>lo<=k/\k<base) w y u)
  (ha:Fr (fun _=>True) w wa) {vs:List Value} (hvs:w.ownsRow base 37 1 (.slice pa ln cp) es.length vs) (h2:∀(i:Nat)(x:PX),es[i]?=some x->∃v,vs[i]?=some v/\Ah (fun k=>lo<=k/\k<base) w x v)
  (ho:w9.ownsRow base 37 1 (.slice (some ⟨g,0,none⟩) (es.length+2) cap) (es.length+2) (vs++[v,u])) (hg:wa.grownBy w9 (Value.slice pa ln cp).ownBlock) :
  FSt lo base (w9.setCell ⟨be,5,none⟩ (.slice (some ⟨g,0,none⟩) (es.length+2) cap)) be at' (es++[x,y]) (some ⟨g,0,none⟩) (es.length+2) cap/\Fr (fun q=>q≠be/\q<base) w (w9.setCell ⟨be,5,none⟩ (.slice (some ⟨g,0,none⟩) (es.length+2) cap))/\w9.cell? ⟨be,5,none⟩=some (.slice pa ln cp)/\w9.frozen? ⟨be,5,none⟩=false:=by
 have f:∀q,(Value.slice pa ln cp).ownBlock=some q->base<=q:=fun q hq=>(hvs.lt q hq).1;have m:Fr (fun q=>q<base) w w9:=⟨hg.os.trans ha.os,hg.tape.trans ha.tape,hg.output.trans ha.output,Nat.le_trans ha.size hg.size,fun k hk hq=>(hg.block k (Nat.lt_of_lt_of_le hk ha.size) (fun e=>by have:=f k e.symm;omega)).trans (ha.block k hk trivial)⟩;have d:Fr (fun q=>q≠be/\q<base) w (w9.setCell ⟨be,5,none⟩ (.slice (some ⟨g,0,none⟩) (es.length+2) cap)):=(m.mono fun _ q=>q.2).set (by simp) _;have s:=Ac h.1;have j:be<base:=by
  rcases Nat.lt_or_ge be base with q|q
  ·exact q
  ·obtain⟨b,-,A,-⟩:=hx.ptr;omega
 have c:Ar w9 be 12 ⟨#[102,117,110]⟩ ⟨#[]⟩ 0 at' pa ln cp:=h.1.of m j;have p:base<=g:=(ho.lt g rfl).1;have l:vs.length=es.length:=by have:=hvs.1;omega
 refine⟨⟨c.parts _ _ _,vs++[v,u],?_,fun i z q=>?_⟩,d,Aa c 5,Ab c 5⟩
 ·rw[List.length_append];exact Mx ho fun q hq _ _=>by
   simp only[Value.ownBlock,Option.some.injEq] at hq;exact Below.heap_setCell w9 _ _ q (by simp;omega)
 ·have a:∀(z:PX)(t:Value),Ah (fun k=>lo<=k/\k<base) w z t->Ah (fun k=>lo<=k/\k<base) (w9.setCell ⟨be,5,none⟩ (.slice (some ⟨g,0,none⟩) (es.length+2) cap)) z t:=fun z t ht=>ht.fr (d.mono fun k q=>by omega) fun _ _ q=>q;by_cases r:i<es.length
  ·rw[List.getElem?_append_left r] at q;obtain⟨t,ht,o⟩:=h2 i z q;exact⟨t,by rw[List.getElem?_append_left (by omega)];exact ht,a _ _ o⟩
  ·rw[List.getElem?_append_right (by omega)] at q;rw[List.getElem?_append_right (by omega),l]
   match hm:i-es.length with
   | 0=>rw[hm] at q;simp at q;subst q;exact⟨v,rfl,a _ _ hx⟩
   | 1=>rw[hm] at q;simp at q;subst q;exact⟨u,rfl,a _ _ hy⟩
   | n+2=>rw[hm] at q;simp at q
theorem Om {K:Nat->Tk}{β:Type}{cl:List UInt8}{item:Nat->RX β}:∀m acc i l j,A2 K cl item m acc i=some (.ok (l,j))->l.length<=acc.length+m
 | 0,_,_,_,_,h=>by simp[A2] at h
 | m+1,acc,i,l,j,h=>by
  rw[A2] at h;rcases Ax h with⟨e,-,q⟩|⟨x,k,-,h2⟩
  ·simp at q
  ·split at h2
   ·simp only[okX,Option.some.injEq,Except.ok.injEq,Prod.mk.injEq] at h2;rw[<- h2.1];simp
   ·rcases Bv h2 with⟨-,h3⟩|⟨-,q⟩
    ·have:=Om m _ _ _ _ h3;simp only[List.length_append,List.length_cons,List.length_nil] at this;omega
    ·simp at q
theorem FSt.tree {lo base lw be at' ln cp:Nat}{pa:Option Addr}{w:World}{es:List PX}(h:FSt lo base w be at' es pa ln cp)(h1:lw<=lo)(h2:lw<=base)(h3:lw<=be)(hl:es.length<=4294967296):Ah (fun k=>lw<=k) w (Jh es) (.pointer (some ⟨be,0,none⟩)):=by
 obtain⟨n,y,j,r⟩:=h;have m:∀q,(Value.slice pa ln cp).ownBlock=some q->base<=q:=fun q hq=>(j.lt q hq).1;have a:ln=es.length:=by
  rcases j.2 with⟨e,p⟩|⟨g,d,f,e,-⟩
  ·injection e with e1 e2 e3;omega
  ·injection e with e1 e2 e3
 have b:Bw (fun k=>lw<=k) w (Ah (fun k=>lw<=k) w) pa ln es:=by
  rcases j.2 with⟨e,p⟩|⟨g,d,f,e,t,hq,s,_,u,l⟩
  ·injection e with e1 e2 e3
   exact⟨a,by omega,.inl (by omega)⟩
  ·injection e with e1 e2 e3
   refine⟨a,?_,.inr ⟨g,0,e1,Ac hq,by omega,fun i x q=>?_⟩⟩
   ·omega
   ·obtain⟨v,c,o⟩:=r i x q;refine⟨v,?_,o.fr (Fr.refl _ _) fun _ _ q=>by omega⟩;rw[Nat.zero_add,Aa hq];rw[<- l,List.getElem?_take] at c;split at c
    ·simpa using c
    ·simp at c
 exact Ah.node ⟨be,12,⟨#[102,117,110]⟩,⟨#[]⟩,0,at',pa,ln,cp,es,rfl,h3,n,b,.inr (.inr (.inr (.inr (.inr (.inr (.inr (.inr (.inr (.inr (.inr ⟨.inr rfl,.inr (.inr (.inr (.inl ⟨rfl,rfl⟩)))⟩))))))))))⟩
theorem Fr.fresh3 {br be B:Nat}{w w2 w3:World}(F:Fr (·≠br) w w2)(hf:Fr (fun q=>q≠be/\q<B) w2 w3)(h:w.heap.size<=be)(hB:w.heap.size<=B):Fr (·≠br) w w3 :=
 ⟨hf.os.trans F.os,hf.tape.trans F.tape,hf.output.trans F.output,Nat.le_trans F.size hf.size,fun k hk hq=>(hf.block k (Nat.lt_of_lt_of_le hk F.size) ⟨by omega,by omega⟩).trans (F.block k hk hq)⟩
theorem Ul {br:Nat}{t:ByteArray}{self:Nat->Nat->Nat->RX PX}(hS:Ba br t self)(w:World)(d i m:Nat)(hd:d<=24)(ht:t.size<=4000)(hm:m<=1000000)(hI:Cd w br)(hr:RdF w br t i d)(ho:txF t.data.toList i=[91])
  (r:Except (Nat×Nat) (PX×Nat)) (h:Cj (tkF t.data.toList) self m d i=some r) :
  Calls Tryz.prog 157 #[.pointer (some ⟨br,0,none⟩)] w (Dd w br t d r):=by
 have HS:Hid (Ba br t self):=hS;have HI:Hid (Cd w br):=hI;have HR:Hid (RdF w br t i d):=hr;have b6:=Ac hr;have h1:=Aa hr 1;have HL:Hid (∀(W:World)(k:Nat),_):=fun W k h=>Et W br t k d h hd;clear hI hS hr;have mo:=follows;have S:Hid (Ar (w.alloc (.cells #[.int .i64 12,.string ⟨#[]⟩,.string ⟨#[]⟩,.int .i64 0,.int .i64 (atF t.data.toList i:Int),.slice none 0 0] 81)) w.heap.size 12 ⟨#[]⟩ ⟨#[]⟩ 0 (atF t.data.toList i) none 0 0):=Af rfl;have F1:Hid (Fr (·≠br) w (w.alloc (.cells #[.int .i64 12,.string ⟨#[]⟩,.string ⟨#[]⟩,.int .i64 0,.int .i64 (atF t.data.toList i:Int),.slice none 0 0] 81))):=(Fr.refl _ w).alloc _;have Y:Hid (RdF (w.alloc (.cells #[.int .i64 12,.string ⟨#[]⟩,.string ⟨#[]⟩,.int .i64 0,.int .i64 (atF t.data.toList i:Int),.slice none 0 0] 81)) br t i d):=RdF.of HR.out (P:=fun _=>True) ((Fr.refl _ w).alloc _) trivial;have B:(pcF t i).toList=txF t.data.toList i:=by rw[ByteArray.toList_eq,Bm]
 have a6:(tkF t.data.toList i).tx=txF t.data.toList i:=rfl;unfold Cj at h;simp only[a6] at h;go_enter Tryz.func157,Tryz.ntmps157
 go_upto_region 2 with fail
 clear h1 HR;generalize (w.alloc (.cells #[.int .i64 12,.string ⟨#[]⟩,.string ⟨#[]⟩,.int .i64 0,.int .i64 (atF t.data.toList i:Int),.slice none 0 0] 81))=w1 at S F1 Y |-;obtain⟨n,a0⟩:∃n,w.heap.size=n:=⟨_,rfl⟩;rw[a0] at S b6 |-;have O:w.heap.size<=n:=by omega
 have c9:n<=w.heap.size:=by omega
 clear a0;have C:n≠br:=by omega
 have d1:n<w1.heap.size:=Ac S.out;have h2:=Aa Y.out 2;have g0:((pcF t i).toList==[40])=false:=by rw[B,ho];rfl
 have g1:((pcF t i).toList==[123])=false:=by rw[B,ho];rfl
 have g2:((pcF t i).toList==[60,60])=false:=by rw[B,ho];rfl
 have g3:((pcF t i).toList==[91])=true:=by rw[B,ho];rfl
 rw[ho] at h;rw[if_neg (by decide),if_neg (by decide),if_neg (by decide),if_pos (by decide)] at h;clear B a6 ho;go_wp2_with fail
 rcases Du hd h with⟨b3,hk⟩|⟨rfl,rfl⟩
 case inr =>
  refine(Eg w1 br t i Y.out).mono ?_;rintro e D ⟨rfl,rfl⟩;exact⟨rfl,F1.out,rfl⟩
 refine(Fm w1 br t i d Y.out ht b3).mono ?_;rintro e D ⟨rfl,hr,y⟩;have R2:Hid (RdF D br t (i+1) (d+1)):=hr;have T:Hid (Ar D n 12 ⟨#[]⟩ ⟨#[]⟩ 0 (atF t.data.toList i) none 0 0):=S.out.of y C;have F2:Hid (Fr (·≠br) w D):=F1.out.trans y;have d3:n<D.heap.size:=Ac T.out;have a7:=F2.out.size;clear hr y S F1 Y h h2;have HD:Hid (∀(W:World)(m:ByteArray)(k:Nat)(b:Bool),_):=fun W m k b h=>C3 W br t m k (d+1) h ht b;have c1:=Aa T.out 1;have f1:=Ab T.out 1;go_wp2_with fail
 have E3:Hid (Ar (D.setCell ⟨n,1,none⟩ (.string ⟨#[102,117,110]⟩)) n 12 ⟨#[102,117,110]⟩ ⟨#[]⟩ 0 (atF t.data.toList i) none 0 0):=T.out.op _;have R3:Hid (RdF (D.setCell ⟨n,1,none⟩ (.string ⟨#[102,117,110]⟩)) br t (i+1) (d+1)):=R2.out.setB (Ne.symm C) _;have L:Hid (Fr (·≠br) w (D.setCell ⟨n,1,none⟩ (.string ⟨#[102,117,110]⟩))):=F2.out.setB O _;clear c1 f1 T R2 F2;generalize D.setCell ⟨n,1,none⟩ (.string ⟨#[102,117,110]⟩)=w3 at E3 R3 L |-;have b8:n<w3.heap.size:=Ac E3.out;have d5:=L.out.size;rcases Ax hk with⟨⟨c,p⟩,hn,rfl⟩|⟨l,j,hn,N⟩
 ·refine(Qi HS.out w3 (d+1) _ m ⟨#[93]⟩ rfl (by omega) ht hm (HI.out.fr L.out) R3.out _ hn).mono ?_;rintro e o ⟨y,rfl⟩;exact⟨rfl,L.out.trans y,rfl⟩
 refine(Qi HS.out w3 (d+1) _ m ⟨#[93]⟩ rfl (by omega) ht hm (HI.out.fr L.out) R3.out _ hn).mono ?_;rintro e o ⟨y,⟨a,s,cap,rfl,I⟩,hr⟩;have R4:Hid (RdF o br t j (d+1)):=hr;have F4:Hid (Fr (·≠br) w o):=L.out.trans y;have E4:Hid (Ar o n 12 ⟨#[102,117,110]⟩ ⟨#[]⟩ 0 (atF t.data.toList i) none 0 0):=E3.out.of y C;have W4:Hid (Qh (fun k=>w3.heap.size<=k) o a s l):=I;have HQ:Hid (r=.ok (Jh (l.flatMap fun p=>[p.1,p.2]),j)):=by simp only[okX,Option.some.injEq] at N;exact N.symm
 have d4:n<o.heap.size:=Ac E4.out;have d6:=y.size;have d2:l.length<=1000000:=by have:=Om _ _ _ _ _ hn;simp at this;omega
 clear y hr I hn hk N E3 L R3;go_wp2_with fail
 have W5:Hid (Qh (fun k=>w3.heap.size<=k/\k<o.heap.size) o a s l):=W4.out.fr (Fr.refl _ _) fun k hk q=>⟨q,hk⟩;have G:Hid (s=l.length):=W4.out.1;have d0:s<=4294967296:=W4.out.2.1;clear W4;obtain⟨R,b5,b9,c0,a7⟩:∃R,Tryz.prog.info? 37=some R/\R.zero=some (.pointer none)/\R.size=1/\R.bytes=8:=by
  have:=gM;cases hq:Tryz.prog.info? 37 with
  | none=>rw[hq] at this;simp at this
  | some j=>rw[hq] at this;simp at this;exact⟨j,rfl,this.1,this.2.1,this.2.2⟩
 have F0:Hid (FSt w3.heap.size o.heap.size o n (atF t.data.toList i) (Hu (l.take 0)) none 0 0):=⟨E4.out,[],World.ownsRow_nil _ _ _ _,fun i x q=>by simp[Hu] at q⟩;go_loopw [57] (fun ix wr=>∃k:Nat,k<=s/\ix=.int .i64 k/\∃pa ln cp,Hid (FSt w3.heap.size o.heap.size wr n (atF t.data.toList i) (Hu (l.take k)) pa ln cp)/\Hid (Fr (fun q=>q≠n/\q<o.heap.size) o wr)) (fun ix _=>s-(intOf ix).toNat)
 case atStart=>exact⟨0,Nat.zero_le _,rfl,none,0,0,F0,Fr.refl _ _⟩
 case round =>
  clear F0;obtain⟨k,hk,rfl,pa,ln,cp,A,F⟩:=hrel;have a9:=F.out.size;by_cases hlt:k<s
  ·obtain⟨p,hp⟩:∃p,l[k]?=some p:=⟨_,List.getElem?_eq_getElem (by have:=G.out;omega)⟩;obtain⟨Q,a8,rfl,b1,c8,a3⟩:=W5.out.2.2.resolve_left (by omega);obtain⟨v,u,hv,hu,hT,hU⟩:=a3 k p hp;have M:wr.heap[Q]?=o.heap[Q]?:=F.out.block Q b1 (by omega);have y0:=(World.cell?_of_block (w:=o) (a:=⟨Q,a8+k*2,none⟩) M).trans hv;have y1:=(World.cell?_of_block (w:=o) (a:=⟨Q,a8+k*2+1,none⟩) M).trans hu;obtain⟨z,rfl,-,-⟩:=hT.ptr;obtain⟨f,rfl,-,-⟩:=hU.ptr;have T5:Hid (Ah _ wr p.1 _):=hT.fr (F.out.mono fun k q=>by omega) fun _ _ q=>q;have U5:Hid (Ah _ wr p.2 _):=hU.fr (F.out.mono fun k q=>by omega) fun _ _ q=>q;have c5:=Aa A.out.1 5;have a1:n<wr.heap.size:=Ac A.out.1;have a2:Q<wr.heap.size:=by omega
   have HP:Hid (l[k]?=some p):=hp;clear hv hu hT hU a3 hp M;go_wp2_with fail
   have J:Hid (Fr (fun _=>True) wr (wr.alloc (.cells #[.pointer (some ⟨z,0,none⟩),.pointer (some ⟨f,0,none⟩)] 214))):=(Fr.refl _ _).alloc _;have E:Hid ((wr.alloc (.cells #[.pointer (some ⟨z,0,none⟩),.pointer (some ⟨f,0,none⟩)] 214)).heap[wr.heap.size]?=some (.cells #[.pointer (some ⟨z,0,none⟩),.pointer (some ⟨f,0,none⟩)] 214 (0,0))):=Af rfl;clear y0 y1 c5;generalize wr.alloc (.cells #[.pointer (some ⟨z,0,none⟩),.pointer (some ⟨f,0,none⟩)] 214)=W1 at J E |-;obtain⟨Z,H⟩:∃Z,wr.heap.size=Z:=⟨_,rfl⟩;rw[H] at E a1 a2 a9 |-;clear H;have z5:=Aa (Ar.of A.out.1 J.out trivial) 5;have c4:=Aa (Ar.of A.out.1 J.out.drew trivial) 5;have q0:=Aa E.out 0;have q1:=Aa E.out 1;have K:W1.drew.heap[Z]?=some (.cells #[.pointer (some ⟨z,0,none⟩),.pointer (some ⟨f,0,none⟩)] 214 (0,0)):=((Fr.grew (P:=fun _=>True) (Ad.refl W1).drew).block Z (Ac E.out) trivial).trans E.out;have c2:=Aa K 0;have c3:=Aa K 1;have c7:Z<W1.heap.size:=Ac E.out;have c6:n<W1.heap.size:=Ac (Ar.of A.out.1 J.out trivial);obtain⟨vs,ho,h2⟩:=A.out.2;have b4:(Hu (l.take k)).length<=8589934592:=by
    rw[Nu,List.length_take];have:=W5.out.2.1;omega
   have OW:Hid ((W1.drew.alloc (.cells #[.pointer (some ⟨z,0,none⟩),.pointer (some ⟨f,0,none⟩)] 37)).ownsRow o.heap.size 37 1 (.slice pa ln cp) (Hu (l.take k)).length vs):=Mx ho fun g _ hg hlt=>(J.out.drew.alloc _).block g hlt trivial;have NB:Hid ((W1.drew.alloc (.cells #[.pointer (some ⟨z,0,none⟩),.pointer (some ⟨f,0,none⟩)] 37)).heap[W1.heap.size]?=some (.cells #[.pointer (some ⟨z,0,none⟩),.pointer (some ⟨f,0,none⟩)] 37 (0,0))):=Af (by simp);have X:Hid (∀(g cap:Nat)(w9:World),_):=fun g cap w9 ho9 hg9=>FSt.push A.out b8 T5.out U5.out (J.out.drew.alloc (.cells #[.pointer (some ⟨z,0,none⟩),.pointer (some ⟨f,0,none⟩)] 37)) ho h2 (g:=g) (cap:=cap) (w9:=w9) ho9 hg9;have U:Hid (Hu (l.take (k+1))=Hu (l.take k)++[p.1,p.2]):=Zm l k p HP.out;have b7:(Hu (l.take k)).length+2<=maxLen:=by unfold maxLen;omega
   have b2:((Hu (l.take k)).length+2)*8<=140737488355328:=by omega
   have LW:Hid (o.heap.size<=(W1.drew.alloc (.cells #[.pointer (some ⟨z,0,none⟩),.pointer (some ⟨f,0,none⟩)] 37)).heap.size):=by
    show _<=_;simp;omega
   have V:Hid (∀u∈[Value.pointer (some ⟨z,0,none⟩),Value.pointer (some ⟨f,0,none⟩)],u.oneCell'=true):=by
    intro u hu;simp only[List.mem_cons,List.not_mem_nil,or_false] at hu;rcases hu with rfl|rfl<;>rfl
   clear ho h2 K b4;go_region_law (refine step_append_lies _ rfl _ _ 79 rfl o.heap.size 37 R _ 1 8 Tryz.underlying79 b5 b9 c0 a7 rfl (by decide) (.slice pa ln cp) _ vs (by simp[Act.eval]) OW.out ⟨W1.heap.size,0,none⟩ 2 2 [.pointer (some ⟨z,0,none⟩),.pointer (some ⟨f,0,none⟩)] (by simp[Act.eval]) rfl (World.news_of_block NB.out) V.out (by decide) b7 b2 LW.out (W1.heap.size+1) (by simp) ?_;intro g cap w9 ho9 hg9 b0 a4;obtain⟨p1,p2,p3,p4⟩:=X.out g cap w9 ho9 hg9;have P1:Hid (FSt _ _ _ _ _ _ _ _ _):=p1;have P2:Hid (Fr _ _ _):=p2;clear ho9 hg9 b0 a4 p1 p2)
   all_goals rw[<- U.out] at P1
   all_goals clear z5 c4 q0 q1 c2 c3 OW NB X U LW V p3 p4 T5 U5 A J E
   all_goals generalize w9.setCell ⟨n,5,none⟩ _=W9 at P1 P2 |-
   all_goals go_wp2_with fail
   all_goals go_roundw
   all_goals first|exact⟨k+1,by omega,by go_num,_,_,_,P1,F.out.trans P2.out⟩|(simp[intOf];omega)
  ·obtain rfl:k=s:=by omega
   have a5:l.take k=l:=List.take_of_length_le (by have:=G.out;omega);rw[a5] at A;have T5:Hid (Ah (fun k=>w.heap.size<=k) wr (Jh (Hu l)) (.pointer (some ⟨n,0,none⟩))):=FSt.tree A.out (by omega) (by omega) O (by rw[Nu];omega);have R5:Hid (RdF wr br t j (d+1)):=RdF.of R4.out F.out ⟨Ne.symm C,by omega⟩;have F5:Hid (Fr (·≠br) w wr):=F4.out.fresh3 F.out O (by omega);clear A F R4 F4 E4 a5;go_wp2_with (go_at_call 146;refine(HL.out _ _ R5.out).mono ?_;rintro e w6 ⟨rfl,hr,y⟩;have R6:Hid (RdF w6 br t j d):=hr;have F6:Hid (Fr (·≠br) w w6):=F5.out.trans y;have T6:Hid (Ah (fun k=>w.heap.size<=k) w6 (Jh (Hu l)) (.pointer (some ⟨n,0,none⟩))):=T5.out.fr (y.mono fun k q=>by omega) fun _ _ q=>q;clear hr y)
   go_ret
   rw[HQ.out];exact⟨F6.out,⟨_,rfl,T6.out⟩,R6.out⟩
end Go.Proofs.YtjbfcadeapphbaaGreatDoor.Sx
