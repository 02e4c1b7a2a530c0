/- form.ReadModule. -/
import Derived.Test.YthcndopglfkmiaaGreatDoorK27
import Derived.Deep.RegionLaw
import Derived.Test.YthcndopglfkmiaaGreatDoorK17
namespace Go.Proofs.YthcndopglfkmiaaGreatDoor.Sx
set_option maxRecDepth 100000
set_option maxHeartbeats 4000000
open Go.RowKit Go.Sort
theorem bB {br bm n g cap j:Nat}{t nm:ByteArray}{na:Int}{w W8 Wa w9:World}{sl c0 c1 c2 c3 c4 c5 c6:Value}{vs:List Value}{ls:List (List UInt8)}{l:List UInt8}(hR:RdF W8 br t j 0)(hM:Jh W8 bm nm na sl)(hO:W8.ownsRow (bm+1) 81 7 sl n vs)
  (hV:Dh (fun k=>bm<k/\sl.ownBlock≠some k) W8 ls vs) (hd:Il (fun k=>bm<k/\sl.ownBlock≠some k) W8 (.agg #[c0,c1,c2,c3,c4,c5,c6]) l) (hF:Fr (·≠br) w W8) (hwb:w.heap.size<=bm) (hbr:br<bm) (hA:Fr (fun _=>True) W8 Wa)
  (ho:w9.ownsRow (bm+1) 81 7 (.slice (some ⟨g,0,none⟩) (n+1) cap) (n+1) (vs++[c0,c1,c2,c3,c4,c5,c6])) (hg:Wa.grownBy w9 sl.ownBlock) (hat:sl.ownBlock=some g\/W8.heap.size<=g) :
  Jh w9 bm nm na sl/\RdF (w9.setCell ⟨bm,2,none⟩ (.slice (some ⟨g,0,none⟩) (n+1) cap)) br t j 0/\Jh (w9.setCell ⟨bm,2,none⟩ (.slice (some ⟨g,0,none⟩) (n+1) cap)) bm nm na (.slice (some ⟨g,0,none⟩) (n+1) cap) /\
  (w9.setCell ⟨bm,2,none⟩ (.slice (some ⟨g,0,none⟩) (n+1) cap)).ownsRow (bm+1) 81 7 (.slice (some ⟨g,0,none⟩) (n+1) cap) (n+1) (vs++[c0,c1,c2,c3,c4,c5,c6]) /\
  Dh (fun k=>bm<k/\(Value.slice (some ⟨g,0,none⟩) (n+1) cap).ownBlock≠some k) (w9.setCell ⟨bm,2,none⟩ (.slice (some ⟨g,0,none⟩) (n+1) cap)) (ls++[l]) (vs++[c0,c1,c2,c3,c4,c5,c6])/\Fr (·≠br) w (w9.setCell ⟨bm,2,none⟩ (.slice (some ⟨g,0,none⟩) (n+1) cap)):=by
 have d:Fr (fun k=>sl.ownBlock≠some k) W8 w9:=(hA.mono fun _ _=>trivial).trans ⟨hg.os,hg.tape,hg.output,hg.size,fun k hk hp=>hg.block k hk (fun e=>hp e.symm)⟩;have a:∀k,k<=bm->sl.ownBlock≠some k:=fun k hk e=>by have:=(hO.lt k e).1;omega
 have f:Fr (·≠bm) w9 (w9.setCell ⟨bm,2,none⟩ (.slice (some ⟨g,0,none⟩) (n+1) cap)):=(Fr.refl _ w9).set (by simp) _;have c:=hM.of d (a bm (Nat.le_refl _));have h:∀k,k<W8.heap.size->(bm<k/\sl.ownBlock≠some k)->(bm<k/\(Value.slice (some ⟨g,0,none⟩) (n+1) cap).ownBlock≠some k):=fun k hk q=>⟨q.1,fun e=>by
   have m:g=k:=by simpa [Value.ownBlock] using e
   subst m;rcases hat with i|i
   ·exact q.2 i
   ·omega⟩
 have o:=hF.size;have b:Fr (fun k=>sl.ownBlock≠some k/\k≠bm) W8 (w9.setCell ⟨bm,2,none⟩ (.slice (some ⟨g,0,none⟩) (n+1) cap)):=(d.mono fun _ q=>q.1).trans (f.mono fun _ q=>q.2);refine⟨c,RdF.of hR b ⟨a br (by omega),by omega⟩,c.rows _,G4 ho (fun g' _ hg' hlt=>f.block g' hlt (by omega)),?_,?_⟩
 ·exact Dh.push (Il.fr (f.mono fun k q=>by omega) (fun _ _ q=>q) (hd.fr (d.mono fun _ q=>q.2) h)) _ _ (Dh.fr (f.mono fun k q=>by omega) (fun _ _ q=>q) _ _ (Dh.fr (d.mono fun _ q=>q.2) h _ _ hV))
 ·exact⟨b.os.trans hF.os,b.tape.trans hF.tape,b.output.trans hF.output,Nat.le_trans hF.size b.size,fun k hk hp=>(b.block k (by omega) ⟨a k (by omega),by omega⟩).trans (hF.block k hk hp)⟩
theorem Ni {br:Nat}{t:ByteArray}{self:Nat->Nat->Nat->RX PX}(hS:Ax br t self)(w:World)(m:Nat)(ht:t.size<=4000)(hm:m<=900000)(hI:Bl w br)(hr:RdF w br t 0 0)
  (r:Except (Nat×Nat) (List UInt8×Nat)) (h:Ix (tkF t.data.toList) self m 0=some r) :
  Calls Tryz.prog 23 #[.pointer (some ⟨br,0,none⟩)] w (eE w br t r):=by
 have HS:Hid (Ax br t self):=hS;have HI:Hid (Bl w br):=hI;have HD:Hid (∀(W:World)(m:ByteArray)(k:Nat)(b:Bool),_):=fun W m k b h=>Cj W br t m k 0 h ht b;have HX:Hid (Ix (tkF t.data.toList) self m 0=some r):=h;have R0:Hid (RdF w br t 0 0):=hr;have c8:=Ab hr;obtain⟨i0,c0,c4,c5,V⟩:∃i0,Tryz.prog.info? 81=some i0/\i0.zero=some (.agg #[.string ⟨#[]⟩,.int .i64 0,.string ⟨#[]⟩,.int .i64 0,.slice none 0 0,.string ⟨#[]⟩,.pointer none])/\i0.size=7/\i0.bytes=96:=by
  have:=fQ;cases hq:Tryz.prog.info? 81 with
  | none=>rw[hq] at this;simp at this
  | some j=>rw[hq] at this;simp at this;exact⟨j,rfl,this.1,this.2.1,this.2.2⟩
 clear hI hS hr h;have mo:=follows;go_enter Tryz.func23,Tryz.ntmps23
 go_wp2_with fail
 have h:=HX.out;unfold Ix at h;rcases Bf h with⟨hb,h2⟩|⟨hb,rfl⟩
 case inr =>
  refine(HD.out w ⟨#[109,111,100,117,108,101]⟩ 0 false R0.out hb).mono ?_;rintro e B ⟨s,⟨q,-⟩|⟨-,rfl⟩⟩
  ·simp at q
  ·exact⟨rfl,s,rfl⟩
 refine(HD.out w ⟨#[109,111,100,117,108,101]⟩ 0 true R0.out hb).mono ?_;rintro e w1 ⟨s,⟨-,rfl,hr⟩|⟨q,-⟩⟩
 case inr=>simp at q
 have M:Hid (RdF w1 br t (0+1) 0):=hr;have G:Hid (Fr (·≠br) w w1):=s;clear s hr hb h HX R0;go_wp2_with fail
 rcases Av h2 with⟨⟨c,p⟩,D,rfl⟩|⟨n,j,D,hk⟩
 ·refine(C6 w1 br t (0+1) 0 M.out ht _ D).mono ?_;rintro e B ⟨s,rfl⟩;exact⟨rfl,G.out.trans s,rfl⟩
 refine(C6 w1 br t (0+1) 0 M.out ht _ D).mono ?_;rintro e B ⟨s,rfl,hr⟩;have HN:Hid ((pcF t (0+1)).data.toList=n/\n≠[]):=Nz D;obtain⟨x,b5⟩:∃x,pcF t (0+1)=x:=⟨_,rfl⟩;obtain⟨C,a5⟩:∃C,atF t.data.toList (0+1)=C:=⟨_,rfl⟩;rw[b5] at HN |-;rw[a5];have U:Hid (RdF B br t j 0):=hr;have H:Hid (Fr (·≠br) w B):=G.out.trans s;have HK:Hid (Es (tkF t.data.toList) self m m (C3++[32]++n++[10]) j=some r):=hk;have V:=G.out.size;clear s hr D hk h2 b5 a5 M G;have b7:=H.out.size;have b3:=Ab U.out;have g3:Ag B (B.alloc (.cells #[.string x,.int .i64 (C:Int),.slice none 0 0] 78)):=(Ag.refl B).alloc _;have M3:Hid (Jh (B.alloc (.cells #[.string x,.int .i64 (C:Int),.slice none 0 0] 78)) B.heap.size x (C:Int) (.slice none 0 0)):=Ak rfl;have R3:Hid (RdF (B.alloc (.cells #[.string x,.int .i64 (C:Int),.slice none 0 0] 78)) br t j 0):=RdF.of U.out (P:=fun _=>True) (Fr.grew g3) trivial;have F3:Hid (Fr (·≠br) w (B.alloc (.cells #[.string x,.int .i64 (C:Int),.slice none 0 0] 78))):=H.out.trans (Fr.grew g3);have T:Hid (C3++[32]++n++[10]=C3++[32]++x.data.toList++[10]++Dw []):=by show _=_;rw[HN.out.1];simp[Dw]
 clear g3;go_upto_region 3 with fail
 generalize B.alloc (.cells #[.string x,.int .i64 (C:Int),.slice none 0 0] 78)=w3 at M3 R3 F3 |-;obtain⟨f,a8⟩:∃f,B.heap.size=f:=⟨_,rfl⟩;rw[a8] at M3 b7 b3 |-;clear a8 U H V HN;have a9:f≠br:=by omega
 generalize C3++[32]++n++[10]=acc0 at HK T;go_loopg [] (m) (fun k wr=>∃(j n:Nat)(y:List UInt8)(sl:Value)(F:List Value)(J:List (List UInt8)),n+k<=m/\Hid (RdF wr br t j 0)/\Hid (Jh wr f x (C:Int) sl)/\Hid (wr.ownsRow (f+1) 81 7 sl n F)/\Hid (Dh (fun k=>f<k/\sl.ownBlock≠some k) wr J F)/\Hid (n=J.length)/\Hid (y=C3++[32]++x.data.toList++[10]++Dw J)/\Hid (Es (tkF t.data.toList) self m k y j=some r)/\Hid (Fr (·≠br) w wr))
 case atStart=>exact⟨j,0,acc0,.slice none 0 0,[],[],by omega,R3,M3,World.ownsRow_nil _ _ _ _,rfl,rfl,T,HK,F3⟩
 case round =>
  clear R3 M3 F3 T HK;obtain⟨j,n,y,sl,F,J,d0,M,Y,O1,V1,EN,EA,Q1,G⟩:=hrel;obtain⟨k,rfl⟩:∃k,gk=k+1:=by
   cases gk with
   | zero=>exact absurd Q1.out (by simp[Es])
   | succ k=>exact⟨k,rfl⟩
  have S:=Q1.out;rw[Es] at S;have N:(tkF t.data.toList j).cl=clF t.data.toList j:=rfl;have c3:=Aa M.out 3;have d1:=G.out.size;obtain⟨z,A,rfl⟩:∃z A,sl=.slice z n A:=by
   rcases O1.out.2 with⟨rfl,D⟩|⟨g,a1,c6,rfl,-⟩
   ·exact⟨none,0,by rw[D]⟩
   ·exact⟨_,a1,rfl⟩
  by_cases Z:(tkF t.data.toList j).cl=0
  ·rw[if_pos Z] at S;have HR:Hid (r=.ok (y,j)):=by simp only[okX,Option.some.injEq] at S;exact S.symm
   have HH:Hid (eE w br t r (.returned (.pointer (some ⟨f,0,none⟩))) wr):=by
    rw[HR.out];exact⟨G.out,⟨f,rfl,by omega,x,_,_,n,F,J,Y.out,I3 (by omega) O1.out,EN.out,by omega,Dh.fr (Fr.refl _ _) (fun k _ q=>by omega) _ _ V1.out,EA.out⟩,M.out,Z⟩
   rw[<- N,Z] at c3;clear S HR Y O1 V1 EN EA Q1 G M N Z;go_wp2_with fail
   go_ret
   exact HH.out
  ·rw[if_neg Z] at S;have b1:(((clF t.data.toList j:Nat):Int) != 0)=true:=by rw[<- N];simp;omega
   obtain⟨cj,b2⟩:∃cj,clF t.data.toList j=cj:=⟨_,rfl⟩;rw[b2] at c3 b1;clear N Z b2 Q1;go_wp2_with fail
   clear c3 b1;have g2:Ag wr wr.drew:=(Ag.refl _).drew;have M2:Hid (Jh wr.drew f x (C:Int) (.slice z n A)):=Y.out.of (P:=fun _=>True) (Fr.grew g2) trivial;have c2:=Aa Y.out 2;have k2:=Aa M2.out 2;have U:Hid (RdF wr.drew br t j 0):=RdF.of M.out (P:=fun _=>True) (Fr.grew g2) trivial;have H:Hid (Fr (·≠br) w wr.drew):=G.out.drew;have O2:Hid (wr.drew.ownsRow (f+1) 81 7 (.slice z n A) n F):=G4 O1.out (fun g _ _ hlt=>g2.below.block g hlt);have V2:Hid (Dh (fun k=>f<k/\(Value.slice z n A).ownBlock≠some k) wr.drew J F):=Dh.fr (Fr.grew g2) (fun _ _ q=>q) _ _ V1.out;have a7:f<wr.heap.size:=Ab Y.out;clear g2 M G O1 V1;rcases Av S with⟨⟨c,p⟩,D,rfl⟩|⟨l,j2,D,hk⟩
   ·have HC:Hid (Calls _ _ _ _ _):=Rq HS.out wr.drew m j ht (by omega) (HI.out.fr H.out) U.out _ D;refine wp_region_any (by kernel_rfl) ?_;change wpAny _ _ _ _ _ _ _ (World.drew _);refine wpAny_take (i:=0) (v:=.pointer (some ⟨f,0,none⟩)) rfl (by kernel_rfl) (by kernel_rfl) (by kernel_rfl) (fun _ _ _ h=>h) (Or.inl ⟨by rfl,by intro w;go_simp⟩) ?_;refine wpAny_take (i:=1) (v:=.pointer (some ⟨f,0,none⟩)) rfl (by kernel_rfl) (by kernel_rfl) (by kernel_rfl) (fun _ _ _ h=>h) (Or.inl ⟨by rfl,by intro w;go_simp⟩) ?_;refine wpAny_take (i:=5) (v:=.pointer (some ⟨br,0,none⟩)) rfl (by kernel_rfl) (by kernel_rfl) (by kernel_rfl) (fun _ _ _ h=>h) (Or.inl ⟨by rfl,by intro w;go_simp⟩) ?_;refine wpAny_take (i:=2) (v:=.pointer (some ⟨f,0,none⟩)) rfl (by kernel_rfl) (by kernel_rfl) (by kernel_rfl) (fun _ _ _ h=>h) (Or.inl ⟨by rfl,by intro w;go_simp⟩) ?_;refine wpAny_take (i:=3) (v:=.pointer (some ⟨f,2,none⟩)) rfl (by kernel_rfl) (by kernel_rfl) (by kernel_rfl) (fun _ _ _ h=>h) (Or.inl ⟨by rfl,by intro w;go_simp⟩) ?_;refine wpAny_ready (rs:=[4,6]) (by kernel_rfl) (by simp) ?_;refine AllReady.cons rfl (fun K hK=>?_) (AllReady.cons rfl (fun K hK=>?_) AllReady.nil)
    ·go_simp
     refine hK _ _ ?_;clear hK K;refine wpAny_ready (rs:=[6]) (by kernel_rfl) (by simp) ?_;refine AllReady.cons rfl (fun K hK=>?_) AllReady.nil;go_simp
     refine HC.out.mono ?_;rintro e o ⟨s,rfl⟩;exact⟨rfl,H.out.trans s,rfl⟩
    ·go_simp
     refine HC.out.mono ?_;rintro e o ⟨s,rfl⟩;exact⟨rfl,H.out.trans s,rfl⟩
   have HC:Hid (Calls _ _ _ _ _):=Rq HS.out wr.drew m j ht (by omega) (HI.out.fr H.out) U.out _ D;have b4:n+1<=maxLen:=by unfold maxLen;omega
   have b0:(n+1)*96<=140737488355328:=by omega
   have b8:Hid (Es (tkF t.data.toList) self m k (y++l++[10]) j2=some r):=hk;clear S D hk;have b6:∀g,(Value.slice z n A).ownBlock=some g->g<wr.drew.heap.size:=fun g e=>(O2.out.lt g e).2;have a0:Hid (∀(o:World)(v:Value),Fr (·≠br) wr.drew o->Il (fun k=>wr.drew.heap.size<=k) o v l->∃d a I L Q X R u O,v=.agg #[.string d,.int .i64 a,.string I,.int .i64 L,.slice Q X R,.string u,.pointer O]/\Jh o f x (C:Int) (.slice z n A)/\o.ownsRow (f+1) 81 7 (.slice z n A) n F/\(o.alloc (.cells #[.string d,.int .i64 a,.string I,.int .i64 L,.slice Q X R,.string u,.pointer O] 81)).ownsRow (f+1) 81 7 (.slice z n A) n F/\f+1<=(o.alloc (.cells #[.string d,.int .i64 a,.string I,.int .i64 L,.slice Q X R,.string u,.pointer O] 81)).heap.size/\(o.alloc (.cells #[.string d,.int .i64 a,.string I,.int .i64 L,.slice Q X R,.string u,.pointer O] 81)).heap[o.heap.size]?=some (.cells #[.string d,.int .i64 a,.string I,.int .i64 L,.slice Q X R,.string u,.pointer O] 81 (0,0))/\Dh (fun k=>f<k/\(Value.slice z n A).ownBlock≠some k) o J F/\Il (fun k=>f<k/\(Value.slice z n A).ownBlock≠some k) o v l):=by
    intro o v s hv;obtain⟨d,a,I,L,ns,u,px,E,ox,e1,e2,e3,e4⟩:=hv;obtain⟨Q,R,rfl⟩:=e2.1.slice;obtain⟨O,rfl⟩:=e3.ptr;have c7:f<wr.drew.heap.size:=by simp;exact a7
    have c1:Il (fun k=>f<k/\(Value.slice z n A).ownBlock≠some k) o v l:=Il.fr (Fr.refl _ _) (fun k _ q=>⟨by omega,fun e=>by have:=b6 k e;omega⟩) ⟨d,a,I,L,_,u,_,E,ox,e1,e2,e3,e4⟩;have a3:o.ownsRow (f+1) 81 7 (.slice z n A) n F:=G4 O2.out fun g _ hg hlt=>s.block g hlt (by omega);refine⟨d,a,I,L,Q,E.length,R,u,O,e1,M2.out.of s a9,a3,a3.alloc _,?_,Ak rfl,Dh.fr (s.mono fun k q=>by omega) (fun _ _ q=>q) _ _ V2.out,c1⟩;have:=s.size;simp;omega
   go_region_law (first
    | (
     refine step_append_lies _ rfl _ _ 76 rfl (f+1) 81 i0 _ 7 96 Tryz.underlying76 c0 c4 c5 V rfl (by decide) (.slice z n A) n F (by simp[Act.eval]) OW.out _ 1 1 [.string d,.int .i64 a,.string I,.int .i64 L,.slice Q X R,.string u,.pointer O] (by simp[Act.eval]) rfl (World.news_of_block NB.out) (kR rfl rfl rfl rfl rfl rfl rfl) (by decide) b4 b0 LW.out (o.heap.size+1) (by simp) ?_;intro g a1 w9 ho hg a6 hlt;obtain⟨p1,p2,p3,p4,p5,p6⟩:=bB R8.out M8.out O8.out V8.out D8.out F8.out b7 b3 ((Fr.refl (fun _=>True) o).alloc _) ho hg (a6.imp id (fun e=>by omega));have c9:=Aa p1 2;have f9:=Ac p1 2;have l9:=Ab p1;have RZ:Hid (RdF _ _ _ _ _):=p2;have MX:Hid (Jh _ _ _ _ _):=p3;have OX:Hid (World.ownsRow _ _ _ _ _ _ _):=p4;have VX:Hid (Dh _ _ _ _):=p5;have FX:Hid (Fr _ _ _):=p6;clear ho hg a6 hlt p1 p2 p3 p4 p5 p6)
    | (go_simp;go_wp2_with (go_at_call 54;refine HC.out.mono ?_;rintro e o ⟨s,⟨v,rfl,hv⟩,hr⟩;obtain⟨d,a,I,L,Q,X,R,u,O,rfl,hM,hO,a4,hL,hN,hV,a2⟩:=a0.out o v s hv;have R8:Hid (RdF o br t j2 0):=hr;have F8:Hid (Fr (·≠br) w o):=H.out.trans s;have M8:Hid (Jh o f x (C:Int) (.slice z n A)):=hM;have O8:Hid (World.ownsRow _ _ _ _ _ _ _):=hO;have OW:Hid (World.ownsRow _ _ _ _ _ _ _):=a4;have LW:Hid (_<=_):=hL;have NB:Hid (_=_):=hN;have V8:Hid (Dh _ _ _ _):=hV;have D8:Hid (Il _ _ _ _):=a2;have k8:=Aa hM 2;have b9:f<o.heap.size:=Ab hM;clear hr s hv hM hO a4 hL hN hV a2)))
   all_goals
    clear c9 f9 l9 c2 k2 k8 b9 a0 HC LW NB OW R8 F8 M8 O8 V8 D8 U H M2 O2 V2 Y b4 b0 b6 a7;have E1:Hid (n+1=(J++[l]).length):=by show _=_;rw[List.length_append,EN.out];rfl
    have E2:Hid (y++l++[10]=C3++[32]++x.data.toList++[10]++Dw (J++[l])):=by show _=_;rw[EA.out,Pp];simp
    clear EN EA;generalize w9.setCell ⟨f,2,none⟩ _=WX at RZ MX OX VX FX |-;go_wp2_with fail
    go_roundg k
    case measure=>omega
    case rel=>exact⟨j2,n+1,y++l++[10],_,_,J++[l],by omega,RZ,MX,OX,VX,E1,E2,b8,FX⟩
end Go.Proofs.YthcndopglfkmiaaGreatDoor.Sx
namespace Go.Proofs.YthcndopglfkmiaaGreatDoor.Sx
set_option maxRecDepth 100000
set_option maxHeartbeats 2000000
open Go.RowKit Go.Sort
theorem Vd.fr {lo l2 b:Nat}{w w':World}{tx:List UInt8}(h:Vd lo w b tx)(hl:l2<=lo)(f:Fr (fun k=>lo<=k) w w'):Vd l2 w' b tx:=by
 obtain⟨a,p,o,r,n,s,m,c,d,e,i,j,l⟩:=h;exact⟨by omega,p,o,r,n,s,m,c.of f a,I3 hl (G4 d fun g _ hg hlt=>f.block g hlt hg),e,i,Dh.fr f (fun k _ q=>by omega) _ _ j,l⟩
def Eb (w:World)(r:Except (Nat×Nat) (List UInt8×Nat))(e:Ending)(w':World):Prop :=
 Fr (fun _=>True) w w'/\match r with
  | .ok (x,_)=>∃b,e=.returned (.tuple #[.pointer (some ⟨b,0,none⟩),.int .i64 0,.nilIface])/\Vd w.heap.size w' b x
  | .error (c,p)=>e=.returned (.tuple #[.pointer none,.int .i64 (p:Int),.iface 62 (.int .i64 (c:Int))])
theorem Ve (p q:Addr)(w:World) :
  CallsD Tryz.prog 48 #[.pointer (some p),.pointer (some q)] .returning w fun e u' w'=>e=.returned (.tuple #[])/\u'=.returning/\w'=w:=by
 refine callsD_of_wpS Tryz.func48 rfl fun c₀ cs hu=>?_;apply wpS_seq;apply wpS_region;simp[wpOpsS,go_sem,recoverD,hu,Tryz.ntmps48,Exit.thenS];refine wpS_of_wp ?_;go_wp2_with fail
 cases c₀
 simp_all[bodyPostS,results,Tryz.results48]
attribute [local go_sem] Lo
theorem Tq (bp bq:Nat)(c a:Nat)(w:World)(hp:w.heap[bp]?=some (.cells #[.int .i64 0] 3 (0,0)))(hq:w.heap[bq]?=some (.cells #[.nilIface] 23 (0,0)))(hne:bp≠bq) :
  CallsD Tryz.prog 48 #[.pointer (some ⟨bp,0,none⟩),.pointer (some ⟨bq,0,none⟩)] (.panicking [{ v:=.iface 106 (.agg #[.int .i64 (a:Int),.int .i64 (c:Int)]),recovered:=false }]) w fun e u' w' =>
   e=.returned (.tuple #[])/\u'=.panicking [{ v:=.iface 106 (.agg #[.int .i64 (a:Int),.int .i64 (c:Int)]),recovered:=true }]/\Fr (fun k=>k≠bp/\k≠bq) w w'/\w'.cell? ⟨bp,0,none⟩=some (.int .i64 (a:Int))/\w'.cell? ⟨bq,0,none⟩=some (.iface 62 (.int .i64 (c:Int))):=by
 refine callsD_of_wpS Tryz.func48 rfl fun c₀ cs hu=>?_;apply wpS_seq;apply wpS_region;simp[wpOpsS,go_sem,recoverD,hu,Tryz.ntmps48,Exit.thenS];refine wpS_of_wp (a:={ tmps:=#[.pointer (some ⟨bp,0,none⟩),.pointer (some ⟨bq,0,none⟩),undef,undef,undef,.iface 106 (.agg #[.int .i64 (a:Int),.int .i64 (c:Int)]),undef,undef,undef,undef,undef,undef,undef,undef,undef,undef],defers:=[] }) ?_;have L:=follows;have h:Fr (fun _=>True) w (w.alloc (.cells #[.int .i64 (a:Int),.int .i64 (c:Int)] 106)):=(Fr.refl _ w).alloc _;have f:Hid (_=_):=(h.block bp (Ab hp) trivial).trans hp;have g:Hid (_=_):=(h.block bq (Ab hq) trivial).trans hq;have d:Hid ((w.alloc (.cells #[.int .i64 (a:Int),.int .i64 (c:Int)] 106)).heap[w.heap.size]?=some (.cells #[.int .i64 (a:Int),.int .i64 (c:Int)] 106 (0,0))):=Ak rfl;have o:Hid (Fr _ w (w.alloc _)):=h;have r:=Ab hp;have s:=Ab hq;clear hp hq h;go_wp2_with fail
 generalize w.alloc (.cells #[.int .i64 (a:Int),.int .i64 (c:Int)] 106)=W1 at f g d o |-;obtain⟨i,l⟩:∃i,w.heap.size=i:=⟨_,rfl⟩;rw[l] at d r s |-;clear l;have b:Fr (fun _=>True) W1 W1.drew:=Fr.grew (Ag.refl W1).drew;have A:=Aa d.out 0;have B:=Aa d.out 1;have C:=Aa ((b.block i (Ab d.out) trivial).trans d.out) 0;have D:=Aa ((b.block i (Ab d.out) trivial).trans d.out) 1;have G:=Aa f.out 0;have t:=Aa ((b.block bp (Ab f.out) trivial).trans f.out) 0;have H:=Aa g.out 0;have u:=Aa ((b.block bq (Ab g.out) trivial).trans g.out) 0;have E:=Ac f.out 0;have p:=Ac ((b.block bp (Ab f.out) trivial).trans f.out) 0;have F:=Ac g.out 0;have q:=Ac ((b.block bq (Ab g.out) trivial).trans g.out) 0;clear b;have M:bp≠i:=by omega
 have N:bq≠i:=by omega
 go_big_region_o
 have x:Hid (Fr (fun k=>k≠bp/\k≠bq) w ((W1.setCell ⟨bp,0,none⟩ (.int .i64 (a:Int))).setCell ⟨bq,0,none⟩ (.iface 62 (.int .i64 (c:Int)))).drew):=(((o.out.mono fun _ _=>trivial).set (by simp) _).set (by simp) _).drew;have n:(W1.setCell ⟨bp,0,none⟩ (.int .i64 (a:Int))).heap[bq]?=some (.cells #[.nilIface] 23 (0,0)):=(Below.heap_setCell _ _ _ bq (by simp;omega)).trans g.out;have m:(W1.setCell ⟨bp,0,none⟩ (.int .i64 (a:Int))).heap[bp]?=some (.cells #[.int .i64 (a:Int)] 3 (0,0)):=by have:=Ah f.out 0 (.int .i64 (a:Int));simpa using this
 have y:Hid (((W1.setCell ⟨bp,0,none⟩ (.int .i64 (a:Int))).setCell ⟨bq,0,none⟩ (.iface 62 (.int .i64 (c:Int)))).drew.cell? ⟨bp,0,none⟩=some (.int .i64 (a:Int))):=by
  have j:=(Below.heap_setCell (W1.setCell ⟨bp,0,none⟩ (.int .i64 (a:Int))) ⟨bq,0,none⟩ (.iface 62 (.int .i64 (c:Int))) bp (by simp;omega)).trans m;exact Aa (((Fr.grew (P:=fun _=>True) (Ag.refl _).drew).block bp (Ab j) trivial).trans j) 0
 have z:Hid (((W1.setCell ⟨bp,0,none⟩ (.int .i64 (a:Int))).setCell ⟨bq,0,none⟩ (.iface 62 (.int .i64 (c:Int)))).drew.cell? ⟨bq,0,none⟩=some (.iface 62 (.int .i64 (c:Int)))):=by
  have j:=Ah n 0 (.iface 62 (.int .i64 (c:Int)));exact Aa (((Fr.grew (P:=fun _=>True) (Ag.refl _).drew).block bq (Ab j) trivial).trans j) 0
 clear A B C D G t H u E p F q n m f g d o;generalize ((W1.setCell ⟨bp,0,none⟩ (.int .i64 (a:Int))).setCell ⟨bq,0,none⟩ (.iface 62 (.int .i64 (c:Int)))).drew=W2 at x y z |-;have I:=x.out;have J:=y.out;have K:=z.out;simp(config:={ zetaDelta:=true }) [Exit.inBlock,bodyPostS,results,Tryz.results48,I,J,K]
theorem Vf (t:ByteArray)(w:World)(ht:t.size<=4000)(hI:Bl w w.heap.size)(f:Nat)(hf:f<=900000)(r:Except (Nat×Nat) (List UInt8×Nat))(h:Ix (tkF t.data.toList) (A3 (tkF t.data.toList) f) f 0=some r) :
  Calls Tryz.prog 22 #[.string t,.int .i64 4000,.func (.func 23) #[] #[]] w (Eb w r):=by
 have a2:∀(fn:Fn)(first cap:Array Value)(w:World),(Instr.makeFunc fn first cap).run Tryz.prog w=.ok (.func fn first cap) w:=fun _ _ _ _=>rfl;have a3:¬(4000:Int)<(t.size:Int):=by omega
 have mo:=follows;have HI:Hid (Bl w w.heap.size):=hI;have U:Hid (∀W:World,_):=fun W=>Lp t W (by omega);have d:Hid (((w.alloc (.cells #[.int .i64 0] 3)).alloc (.cells #[.nilIface] 23)).heap[w.heap.size]?=some (.cells #[.int .i64 0] 3 (0,0))):=by
  have Z:(w.alloc (.cells #[.int .i64 0] 3)).heap[w.heap.size]?=some (.cells #[.int .i64 0] 3 (0,0)):=Ak rfl;exact(((Fr.refl (fun _=>True) _).alloc _).block _ (Ab Z) trivial).trans Z
 have g:Hid (((w.alloc (.cells #[.int .i64 0] 3)).alloc (.cells #[.nilIface] 23)).heap[w.heap.size+1]?=some (.cells #[.nilIface] 23 (0,0))):=Ak (by simp);have m:Hid (Fr (fun _=>True) w ((w.alloc (.cells #[.int .i64 0] 3)).alloc (.cells #[.nilIface] 23))):=((Fr.refl _ w).alloc _).alloc _;clear hI;go_enter_defers Tryz.func22,Tryz.ntmps22
 go_wp2_with fail
 generalize (w.alloc (.cells #[.int .i64 0] 3)).alloc (.cells #[.nilIface] 23)=w0 at d g m |-;obtain⟨a,C⟩:∃a,w.heap.size=a:=⟨_,rfl⟩;rw[C] at d g |-;have a4:w.heap.size<=a:=by omega
 clear C;refine(U.out w0).mono ?_;rintro e z ⟨rfl,hb⟩;have H:=Ab d.out;have I:=Ab g.out;have o:Hid (Fr (fun _=>True) w0 z):=Fr.below hb;clear hb U;have O:Hid (RdB (z.alloc (.cells #[.string t,.int .i64 0,.string ⟨#[]⟩,.int .i64 0,.int .i64 0] 110)) z.heap.size t 0 ⟨#[]⟩ 0 0):=Ak rfl;have s:Hid (Fr (fun _=>True) w0 (z.alloc (.cells #[.string t,.int .i64 0,.string ⟨#[]⟩,.int .i64 0,.int .i64 0] 110))):=o.out.alloc _;have Q:=o.out.size;go_wp2_with fail
 generalize z.alloc (.cells #[.string t,.int .i64 0,.string ⟨#[]⟩,.int .i64 0,.int .i64 0] 110)=w2 at O s |-;obtain⟨l,D⟩:∃l,z.heap.size=l:=⟨_,rfl⟩;rw[D] at O Q |-;clear D o;refine(Jd w2 l t ⟨#[]⟩ 0 0 0 0 O.out (by omega) rfl).mono ?_;rintro e A ⟨rfl,L,G⟩;have V:Hid (RdF A l t 0 0):=L;have M:Hid (Fr (fun k=>k≠l) w0 A):=(s.out.mono fun _ _=>trivial).trans G;clear L G O s;have B:Hid (Bl A l):=Bl.at HI.out (m.out.newer M.out fun k hk=>by omega) (by omega);go_wp2_with fail
 rcases r with⟨c,p⟩|⟨x,j⟩
 ·refine(Ni (Hz l t (by omega) f (by omega)) A f ht hf B.out V.out _ h).mono ?_;rintro e b ⟨i,rfl⟩;have n:Hid (Fr (fun k=>k≠l) w0 b):=M.out.trans i;unfold Flt;refine leaves_cons (f:=48) (args:=#[.pointer (some ⟨a,0,none⟩),.pointer (some ⟨a+1,0,none⟩)]) (by simp) (by simp[go_sem]) ?_;refine(Tq a (a+1) _ _ b ((n.out.block a H (by omega)).trans d.out) ((n.out.block (a+1) I (by omega)).trans g.out) (by omega)).mono ?_;rintro e u' w5 ⟨rfl,rfl,hF,S,T⟩;have N:Eb w (.error (c,p)) (.returned (.tuple #[.pointer none,.int .i64 (p:Int),.iface 62 (.int .i64 (c:Int))])) w5:=⟨(m.out.newer n.out fun k hk=>by omega).newer hF fun k hk=>by omega,rfl⟩;simpa [Leaves,settle,results,Tryz.results22,go_sem,S,T] using N
 refine(Ni (Hz l t (by omega) f (by omega)) A f ht hf B.out V.out _ h).mono ?_;rintro e b ⟨i,⟨P,rfl,hv⟩,L,F⟩;have n:Hid (Fr (fun k=>k≠l) w0 b):=M.out.trans i;have T4:Hid (Vd A.heap.size b P x):=hv;have h3:=Aa L 3;have E:clF t.data.toList j=0:=F;rw[E] at h3;have a0:=M.out.size;have a1:=i.size;have R:Hid (Fr (fun _=>True) w b):=m.out.newer n.out fun k hk=>by omega
 clear i hv L F E h;have u:Hid (b.heap[a]?=_):=(n.out.block a H (by omega)).trans d.out;have v:Hid (b.heap[a+1]?=_):=(n.out.block (a+1) I (by omega)).trans g.out;have p0:=Aa u.out 0;have f0:=Ac u.out 0;have q0:=Aa v.out 0;have g0:=Ac v.out 0;go_wp2_with fail
 have y:Fr (fun k=>k≠a/\k≠a+1) b ((b.setCell ⟨a,0,none⟩ (.int .i64 0)).setCell ⟨a+1,0,none⟩ .nilIface):=((Fr.refl _ b).set (by simp) _).set (by simp) _;have K:(b.setCell ⟨a,0,none⟩ (.int .i64 0)).heap[a+1]?=some (.cells #[.nilIface] 23 (0,0)):=(Below.heap_setCell _ _ _ (a+1) (by simp)).trans v.out;have J:(b.setCell ⟨a,0,none⟩ (.int .i64 0)).heap[a]?=some (.cells #[.int .i64 0] 3 (0,0)):=by have:=Ah u.out 0 (.int .i64 0);simpa using this
 have X:((b.setCell ⟨a,0,none⟩ (.int .i64 0)).setCell ⟨a+1,0,none⟩ .nilIface).cell? ⟨a,0,none⟩=some (.int .i64 0):=Aa ((Below.heap_setCell _ ⟨a+1,0,none⟩ .nilIface a (by simp)).trans J) 0;have Y:((b.setCell ⟨a,0,none⟩ (.int .i64 0)).setCell ⟨a+1,0,none⟩ .nilIface).cell? ⟨a+1,0,none⟩=some .nilIface:=Aa (Ah K 0 .nilIface) 0;have N:Eb w (.ok (x,j)) (.returned (.tuple #[.pointer (some ⟨P,0,none⟩),.int .i64 0,.nilIface])) ((b.setCell ⟨a,0,none⟩ (.int .i64 0)).setCell ⟨a+1,0,none⟩ .nilIface) :=
  ⟨R.out.newer y fun k hk=>by omega,P,rfl,T4.out.fr (by omega) (y.mono fun k q=>by omega)⟩
 clear J K y p0 f0 q0 g0 h3;generalize (b.setCell ⟨a,0,none⟩ (.int .i64 0)).setCell ⟨a+1,0,none⟩ .nilIface=w5 at X Y N |-;refine leaves_cons (f:=48) (args:=#[.pointer (some ⟨a,0,none⟩),.pointer (some ⟨a+1,0,none⟩)]) (by simp) (by simp[go_sem]) ?_;refine(Ve _ _ _).mono ?_;rintro e u' w6 ⟨rfl,rfl,hw⟩;cases hw
 simpa [Leaves,settle,results,Tryz.results22,go_sem,X,Y] using N
theorem Tr (t:ByteArray)(w:World)(ht:4000<t.size)(hs:t.size<=9223372036854775807):Calls Tryz.prog 22 #[.string t,.int .i64 4000,.func (.func 23) #[] #[]] w (Eb w (.error (6,0))):=by
 have e:(4000:Int)<(t.size:Int):=by omega
 have f:=follows;go_enter_defers Tryz.func22,Tryz.ntmps22
 go_wp2_with fail
 have b:Eb w (.error (6,0)) (.returned (.tuple #[.pointer none,.int .i64 ((0:Nat):Int),.iface 62 (.int .i64 ((6:Nat):Int))])) ((w.alloc (.cells #[.int .i64 0] 3)).alloc (.cells #[.iface 62 (.int .i64 6)] 23)):=⟨((Fr.refl _ w).alloc _).alloc _,rfl⟩;have a:(w.alloc (.cells #[.int .i64 0] 3)).heap[w.heap.size]?=some (.cells #[.int .i64 0] 3 (0,0)):=Ak rfl;have c:((w.alloc (.cells #[.int .i64 0] 3)).alloc (.cells #[.iface 62 (.int .i64 6)] 23)).cell? ⟨w.heap.size,0,none⟩=some (.int .i64 0):=Aa ((((Fr.refl (fun _=>True) _).alloc _).block _ (Ab a) trivial).trans a) 0;have d:((w.alloc (.cells #[.int .i64 0] 3)).alloc (.cells #[.iface 62 (.int .i64 6)] 23)).cell? ⟨w.heap.size+1,0,none⟩=some (.iface 62 (.int .i64 6)):=Aa (Ak (by simp)) 0;clear a;generalize (w.alloc (.cells #[.int .i64 0] 3)).alloc (.cells #[.iface 62 (.int .i64 6)] 23)=w5 at c d b |-;simpa [bodyPostD,Leaves,settle,results,Tryz.results22,go_sem,c,d] using b
end Go.Proofs.YthcndopglfkmiaaGreatDoor.Sx
namespace Go.Proofs.YthcndopglfkmiaaGreatDoor.Sx
set_option maxRecDepth 100000
set_option maxHeartbeats 1000000
open Go.RowKit Go.Sort
theorem J6 (t:ByteArray)(w:World)(r:Except (Nat×Nat) (List UInt8×Nat))(HC:Hid (Calls Tryz.prog 22 #[.string t,.int .i64 4000,.func (.func 23) #[] #[]] w (Eb w r))) :
  Calls Tryz.prog 11 #[.string t] w (Eb w r):=by
 go_enter Tryz.func11,Tryz.ntmps11
 go_wp2_with fail
 refine HC.out.mono ?_;rintro e h ⟨a,f⟩;rcases r with⟨c,p⟩|⟨x,j⟩
 ·obtain rfl:=f;have b:Hid (Eb w (.error (c,p)) _ h):=⟨a,rfl⟩;clear a HC;go_wp2_with fail
  refine bodyPost_ret (v:=.tuple #[.pointer none,.int .i64 (p:Int),.iface 62 (.int .i64 (c:Int))]) (by simp[results,Tryz.results11,go_sem]) rfl b.out
 ·obtain⟨d,rfl,g⟩:=f;have b:Hid (Eb w (.ok (x,j)) (.returned (.tuple #[.pointer (some ⟨d,0,none⟩),.int .i64 0,.nilIface])) h):=⟨a,_,rfl,g⟩;clear a g HC;go_wp2_with fail
  refine bodyPost_ret (v:=.tuple #[.pointer (some ⟨d,0,none⟩),.int .i64 0,.nilIface]) (by simp[results,Tryz.results11,go_sem]) rfl b.out
end Go.Proofs.YthcndopglfkmiaaGreatDoor.Sx
