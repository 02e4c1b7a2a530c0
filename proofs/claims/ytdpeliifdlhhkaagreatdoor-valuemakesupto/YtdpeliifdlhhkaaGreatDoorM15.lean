/- The reference: sequences. -/
import Derived.Test.YtdpeliifdlhhkaaGreatDoorM14
import Derived.Deep.RegionLaw
import Derived.Test.YtdpeliifdlhhkaaGreatDoorM11
import Derived.Test.YtdpeliifdlhhkaaGreatDoorM10
namespace Go.Proofs.YtdpeliifdlhhkaaGreatDoor.Sx
open Go.RowKit Go.Sort Tryz
set_option maxRecDepth 100000
set_option maxHeartbeats 4000000
def Aa8 (i:Int):H5:=⟨.int .i64 2,.int .i64 i,.string ⟨#[]⟩,.slice none 0 0,.slice none 0 0,rfl,rfl,rfl,rfl,rfl⟩
theorem Lx (d:List H5)(x:H5):Bi d++[x.c0,x.c1,x.c2,x.c3,x.c4]=Bi (d++[x]):=by rw[O7];simp[Bi,Ac2]
theorem Are.snoc {P:Nat->Prop}{w:World}{n:Nat}{es:List (AV n)}{hs:List H5}{x:AV n}{u:H5}(h:Are P w n es hs)(hx:Ref P w n x u.v):Are P w n (es++[x]) (hs++[u]):=by
 have q:=h.put hx es.length (Ad9 _);rw[List.take_length,List.drop_length] at q;have a:=h.1;have b:hs.take es.length=hs:=by rw[<- a];exact List.take_length
 have c:hs.drop es.length=[]:=by rw[<- a];exact List.drop_length
 rw[b,c] at q;exact q
theorem H5.c_of {t:H5}{y0 y1 y2 y3 y4:Value}(h:t.v=.agg #[y0,y1,y2,y3,y4]):t.c0=y0/\t.c1=y1/\t.c2=y2/\t.c3=y3/\t.c4=y4:=by
 simp only[H5.v,Value.agg.injEq,Array.mk.injEq,List.cons.injEq,and_true] at h;exact h
theorem Ja (n:Nat)(P:Nat->Prop)(w:World)(a:Option Addr)(len cap:Nat)(vs:List (AV (n+1))){Q0:Nat->Prop}(h:Bm Q0 w (Ref P w (n+1)) a len vs)(hl:len<=1048576)(hW:∀x∈vs,wtR (n+1) x=wt (n+1) x/\wt (n+1) x<=1024) :
  Calls prog 45 #[.slice a len cap] w (dM (n+2) P w (mkF (wt (n+1)) (Aq n vs.length) vs:Ag (AV (n+1)))):=by
 obtain⟨e1,C,r1⟩:=h;have E1:Hid (len=vs.length):=e1;rw[<- e1];clear e1;have HW:Hid _:=hW;clear hW;have mo:=follows;obtain⟨i0,a8,c1,c2,c5⟩:=info_parts Zi;have T0:Hid (Two w _ 6 _ _ [] []) :=
  ⟨Ca _ _,Ca _ _,fun g e=>by simp[Value.ownBlock] at e,Af (by simp),Ac1 ((Ac.refl _).alloc _).below (Af rfl),Fr.grew (((Ac.refl w).alloc _).alloc _)⟩
 go_enter func45,ntmps45
 go_wp2_with fail
 generalize World.alloc _ _=W0 at T0 |-;go_loopw [4] (fun s wr=>∃(k:Nat)(hk hv:List H5)(sk sv:Value),s=.int .i64 k/\k<=len/\Hid (Are P w (n+1) ((Aq n len).take k) hk)/\Hid (Are P w (n+1) (vs.take k) hv)/\Hid (Two w wr 6 sk sv hk hv)) (fun s _=>len-(intOf s).toNat)
 case atStart=>exact⟨0,[],[],_,_,rfl,Ae1 _,⟨rfl,fun i x h hx=>by simp at hx⟩,⟨rfl,fun i x h hx=>by simp at hx⟩,T0⟩
 case round =>
  clear T0;obtain⟨k,hs,o,sk,sv,rfl,hk,Z,HU,c⟩:=hrel;have e2:hs.length=k:=by rw[Z.out.1,List.length_take,Dc];omega
  have e3:o.length=k:=by rw[HU.out.1,List.length_take,<- E1.out];omega
  have zb:=Aa c.out.box;by_cases a9:k<len
  ·have hy:k<vs.length:=by rw[<- E1.out];exact a9
   have S:=List.getElem?_eq_getElem hy;obtain⟨G,o2,rfl,b7,f8,a7⟩:=r1.resolve_left (by omega);obtain⟨v2,e5,V⟩:=a7 k vs[k] S;obtain⟨t,rfl⟩:=V.ones;obtain⟨y,z,b,A,B,et,_⟩:=e5;have HY:Hid (∀W:World,Fr (fun _=>True) w W->W.cell? ⟨G,o2+k*5,none⟩=some y/\W.cell? ⟨G,o2+k*5+1,none⟩=some z/\W.cell? ⟨G,o2+k*5+2,none⟩=some b/\W.cell? ⟨G,o2+k*5+3,none⟩=some A/\W.cell? ⟨G,o2+k*5+4,none⟩=some B/\G<W.heap.size):=by
    intro W hW;have q:=(show Qe w G (o2+k*5) t.v from⟨y,z,b,A,B,et,by assumption⟩).fr (hW.block G b7 trivial);obtain⟨z0,z1,z2,z3,z4,ez,q0,q1,q2,q3,q4⟩:=q;rw[et] at ez;simp only[Value.agg.injEq,Array.mk.injEq,List.cons.injEq,and_true] at ez;obtain⟨rfl,rfl,rfl,rfl,rfl⟩:=ez;exact⟨q0,q1,q2,q3,q4,Ad8 b7 hW.size⟩
   have a5:Hid _:=fun W=>Gq ((k:Int)+1) W;have c8:Hid (Are P w (n+1) ((Aq n len).take (k+1)) (hs++[Aa8 ((k:Int)+1)])):=by
    rw[List.take_add_one,Ve n len k a9];exact Z.out.snoc (O6 P w n ((k:Int)+1))
   have d6:Hid (Are P w (n+1) (vs.take (k+1)) (o++[t])):=by
    rw[List.take_add_one,S];exact HU.out.snoc V
   obtain⟨t0,t1,t2,t3,t4⟩:=H5.c_of et;have o0:=t.o0;have c6:=t.o1;have c7:=t.o2;have o3:=t.o3;have o4:=t.o4;rw[t0] at o0;rw[t1] at c6;rw[t2] at c7;rw[t3] at o3;rw[t4] at o4;have c9:Hid (Bi o++[y,z,b,A,B]=Bi (o++[t])):=by
    have q:=Lx o t;rw[t0,t1,t2,t3,t4] at q;exact q
   clear a7 V S r1 t0 t1 t2 t3 t4 Z HU;go_wp2_with fail
   refine(a5.out _).mono ?_;rintro e d ⟨rfl,hg⟩;have T1:Hid _:=c.out.grew hg;clear hg c a5 zb;have zb:=Aa T1.out.box;have c3:=Ab T1.out.box 3;have G2:Ac d ((d.alloc (.cells #[.int .i64 2,.int .i64 ((k:Int)+1),.string ⟨#[]⟩,.slice none 0 0,.slice none 0 0] 30)).alloc (.cells #[.int .i64 2,.int .i64 ((k:Int)+1),.string ⟨#[]⟩,.slice none 0 0,.slice none 0 0] 30)):=((Ac.refl d).alloc _).alloc _;have T2:Hid _:=T1.out.grew G2;have c0:((d.alloc (.cells #[.int .i64 2,.int .i64 ((k:Int)+1),.string ⟨#[]⟩,.slice none 0 0,.slice none 0 0] 30)).alloc _).heap[d.heap.size+1]?=some (.cells #[.int .i64 2,.int .i64 ((k:Int)+1),.string ⟨#[]⟩,.slice none 0 0,.slice none 0 0] 30 (0,0)):=Af (by simp);have p:Hid (_=_):=c0;clear c0 G2;go_wp2_with (at_builtin;refine wpList_append_lies _ rfl _ _ 28 rfl _ 30 i0 Bk 5 80 underlying28 a8 c1 c2 c5 rfl (by decide) sk _ _ rfl T2.out.o1 _ 1 1 [_,_,_,_,_] rfl rfl (World.news_of_block p.out) ?q2 (by decide) ?q3 ?q4 ?q5 (d.heap.size+2) ?q6 ?_)
   case q2 =>
    intro q D;simp only[List.mem_cons,List.not_mem_nil,or_false] at D;rcases D with rfl|rfl|rfl|rfl|rfl<;>rfl
   case q3=>unfold maxLen;omega
   case q4=>omega
   case q5=>simp;omega
   case q6=>simp
   intro g f6 w4 ho hg j b5;obtain⟨r,qt⟩:=T2.out.put1 (L:=k+1) (hs:=hs++[Aa8 _]) (Gh.of (by rw[<- Lx];exact ho)).1 (by rw[List.length_append,e2];rfl) ((Fr.refl _ _).grownBy hg (fun k' _ e hp=>hp.2 e)) (j.imp id (fun e=>by simp;omega));have q5:=Ab r 3;have q6:=Ad r 3;have zw:=Aa r;have I:Hid (Two w _ 6 _ sv _ o):=qt;clear ho hg j b5 r qt T2 T1 p zb c3;go_wp2_with fail
   generalize w4.setCell _ _=W2 at I |-;clear q5 q6 zw w4;have zb:=Aa I.out.box;have c4:=Ab I.out.box 4;have f4:=Ad I.out.box 4;obtain⟨m0,m1,m2,m3,m4,zp⟩:=HY.out W2 I.out.fr;have T3:Hid (Two w (W2.drew.alloc (.cells #[y,z,b,A,B] 30)) 6 _ sv _ o):=I.out.grew ((Ac.refl W2).drew.alloc _);have p:Hid ((W2.drew.alloc _).heap[W2.heap.size]?=some (.cells #[y,z,b,A,B] 30 (0,0))):=Af rfl;have e6:=Ae o0;have e7:=Ae c6;have e8:=Ae c7;have e9:=Ae o3;have f5:=Ae o4;have d7:W2.drew.cell? _=some sv:=c4;have d0:W2.drew.cell? _=some y:=m0;have d1:W2.drew.cell? _=some z:=m1;have d2:W2.drew.cell? _=some b:=m2;have d3:W2.drew.cell? _=some A:=m3;have d4:W2.drew.cell? _=some B:=m4;have l:∀u∈[y,z,b,A,B],Value.oneCell' u=true:=by
    intro q D;simp only[List.mem_cons,List.not_mem_nil,or_false] at D;rcases D with rfl|rfl|rfl|rfl|rfl<;>assumption
   have d5:Hid _:=l;have e4:o.length+1<=maxLen:=by unfold maxLen;omega
   have e0:(o.length+1)*80<=140737488355328:=by omega
   have d9:w.heap.size+2<=(W2.drew.alloc (.cells #[y,z,b,A,B] 30)).heap.size:=by simp;omega
   clear l;go_region_law (refine step_append_lies _ rfl _ _ 28 rfl _ 30 i0 Bk 5 80 underlying28 a8 c1 c2 c5 rfl (by decide) sv _ _ (by simp[Act.eval]) T3.out.o2 _ 1 1 [y,z,b,A,B] (by simp[Act.eval]) rfl (World.news_of_block p.out) d5.out (by decide) e4 e0 d9 (W2.heap.size+1) (by simp) ?_;intro g3 f7 w5 ho hg j b6;obtain⟨r,qt⟩:=T3.out.put2 (L:=k+1) (Gh.of (by rw[<- c9.out];exact ho)).1 (by rw[List.length_append,e3];rfl) ((Fr.refl _ _).grownBy hg (fun k' _ e hp=>hp.2 e)) (j.imp id (fun e=>by simp;omega));have q5:=Ab r 4;have q6:=Ad r 4;have zw:=Aa r;have TZ:Hid (Two w _ 6 _ _ _ _):=qt;clear ho hg j b6 r qt)
   all_goals clear d0 d1 d2 d3 d4 d7 m0 m1 m2 m3 m4 c4 f4 q5 q6 T3 I zw e6 e7 e8 e9 f5
   all_goals generalize w5.setCell _ _=W4 at TZ |-
   all_goals go_wp2_with fail
   all_goals go_roundw
   all_goals first|exact⟨k+1,_,_,_,_,by go_num,by omega,c8,d6,TZ⟩|(simp[intOf];omega)
  ·have f9:k=len:=by omega
   subst k;have O:=Z.out;have R:=HU.out;rw[List.take_of_length_le (by rw[Dc];omega)] at O;rw[List.take_of_length_le (by rw[<- E1.out];omega)] at R;have Z:Hid (Are P w (n+1) _ hs):=O;have HU:Hid (Are P w (n+1) vs o):=R;clear O R;obtain⟨sa,sn,sc,rfl,F⟩:=Bu (Q:=fun k=>(k<_/\P k)\/_+2<=k) c.out.o1 Z.out (by omega) (c.out.fr.mono (fun _ _=>trivial)) (fun g hg=>.inr hg) (fun k hk hp=>.inl ⟨hk,hp⟩);obtain⟨ta,tn,tc,rfl,m⟩:=Bu (Q:=fun k=>(k<_/\P k)\/_+2<=k) c.out.o2 HU.out (by omega) (c.out.fr.mono (fun _ _=>trivial)) (fun g hg=>.inr hg) (fun k hk hp=>.inl ⟨hk,hp⟩);have T:∀x∈_,_=_/\_<=1024:=fun x hx=>⟨Wa (n+1) x (aQ n len (by omega) x hx).1,Td n len x hx⟩;have U:=HW.out;have b8:=Dz _ (fun x hx=>(T x hx).1);have b9:=Dz _ (fun x hx=>(U x hx).1);have a6:=Mh _ _ (fun x hx=>(T x hx).2);have d8:=Mh _ _ (fun x hx=>(U x hx).2);rw[Dc] at a6;have g0:=E1.out;have X:Ref _ wr (n+2) (Dd (Aq n len) (vs):_) (.agg #[.int .i64 6,.int .i64 0,_,_,_]):=⟨⟨#[]⟩,sa,sn,sc,ta,tn,tc,rfl,rfl,F,m,lH c.out.o2⟩;have Y:wtR (n+2) (Dd (Aq n len) (vs):_)=1+wtL (wt (n+1)) (Aq n len)+wtL (wt (n+1)) (vs):=by show 1+wtL (wtR (n+1)) (Aq n len)+wtL (wtR (n+1)) vs=_;rw[b8,b9]
   have f:Hid _:=fun W hW=>by
    have:=Lu (n+1) _ W _ _ (X.grew hW) (by rw[Y];omega);rw[Y] at this;exact this
   have H:Hid (Ref _ wr (n+2) _ _):=X;have HM:Hid ((mkF _ _ vs:_)=if 1+_+wtL (wt (n+1)) (vs)<=1024 then Dd (Aq n len) (vs) else Ar):=rfl;obtain⟨a0,a1,a2,a3,a4⟩:=Ah c.out.box;clear X F m T U b8 b9 a6 d8 Y r1;generalize 1+_+_=q at f HM;by_cases D:q<=1024
   ·rw[if_pos D] at f HM;go_wp2_with fail
    refine(f.out wr (Ac.refl _)).mono ?_;rintro e d ⟨rfl,hg⟩;have b:Hid (_=_):=Ac1 hg.below c.out.res;have RF:Hid (Ref _ d (n+2) _ _):=H.out.grew hg;have FF:Hid _:=c.out.fr.trans (Fr.grew hg);clear a0 a1 a2 a3 a4 hg H c;obtain⟨J,C,K,M,N⟩:=Ah b.out;obtain⟨f0,f1,f2,f3,f4⟩:=Ax b.out;have z2:=Aa b.out;go_wp2_with fail
    change bodyPost _ _ _ _ _ (Ao d _ 0 _ _ _ _ _);have E:=Bc b.out (.int .i64 6) (.int .i64 0) (.string ⟨#[]⟩) (.slice sa sn sc) (.slice ta tn tc);rw[HM.out];have R1:Ref (fun k=>P k\/w.heap.size<=k) (Ao d w.heap.size 0 (.int .i64 6) (.int .i64 0) (.string ⟨#[]⟩) (.slice sa sn sc) (.slice ta tn tc)) (n+2) _ _:=RF.out.fr (Cz (Fr.refl _ d) (by omega) _ _ _ _ _ _) (fun k _ hk=>hk.elim (fun q=>.inl q.2) (fun q=>.inr (by omega))) _ _ _;have R2:=Qh FF.out (Ad9 _) 0 (.int .i64 6) (.int .i64 0) (.string ⟨#[]⟩) (.slice sa sn sc) (.slice ta tn tc);clear J C K M N f0 f1 f2 f3 f4;generalize Ao d _ 0 _ _ _ _ _=WZ at E R1 R2 |-;obtain⟨J,C,K,M,N⟩:=Ah E;exact Ae2 (by simp[results,results45,go_sem,J,C,K,M,N]) rfl ⟨_,rfl,R1,R2⟩
   ·rw[if_neg D] at f HM;unfold Bk at f;go_wp2_with fail
    refine(f.out wr (Ac.refl _)).mono ?_;rintro e d ⟨rfl,hg⟩;have b:Hid (_=_):=Ac1 hg.below c.out.res;have FF:Hid _:=c.out.fr.trans (Fr.grew hg);clear a0 a1 a2 a3 a4 hg H c;obtain⟨J,C,K,M,N⟩:=Ah b.out;obtain⟨f0,f1,f2,f3,f4⟩:=Ax b.out;have z2:=Aa b.out;go_wp2_with fail
    change bodyPost _ _ _ _ _ (Ao d _ 0 _ _ _ _ _);have E:=Bc b.out (.int .i64 0) (.int .i64 0) (.string ⟨#[]⟩) (.slice none 0 0) (.slice none 0 0);rw[HM.out];have R2:=Qh FF.out (Ad9 _) 0 (.int .i64 0) (.int .i64 0) (.string ⟨#[]⟩) (.slice none 0 0) (.slice none 0 0);clear J C K M N f0 f1 f2 f3 f4;generalize Ao d _ 0 _ _ _ _ _=WZ at E R2 |-;obtain⟨J,C,K,M,N⟩:=Ah E;exact Ae2 (by simp[results,results45,go_sem,J,C,K,M,N,Bk]) rfl ⟨_,rfl,Cm _ _ (n+1),R2⟩
structure RSt where
 at':Nat
 deep:Nat
 e:Nat
 bad:Nat
 hv:Bool
def RR (w:World)(br:Nat)(t:ByteArray)(s:RSt):Prop :=
 w.heap[br]?=some (.cells #[.string t,.int .i64 (s.at':Int),.int .i64 (s.deep:Int),.int .i64 (s.e:Int),.int .i64 (s.bad:Int),.bool s.hv] 69 (0,0))
theorem RR.fr {w w':World}{br:Nat}{t:ByteArray}{s:RSt}(h:RR w br t s)(hb:w'.heap[br]?=w.heap[br]?):RR w' br t s:=hb.trans h
def Hg (s:RSt)(c q:Nat):RSt:=if s.e=0 then { s with e:=c,bad:=q } else s
theorem D7 (w:World)(br:Nat)(t:ByteArray)(s:RSt)(c q:Nat)(h:RR w br t s) :
  Calls prog 29 #[.pointer (some ⟨br,0,none⟩),.int .i64 (c:Int),.int .i64 (q:Int)] w fun e w'=>e=.returned (.tuple #[])/\RR w' br t (Hg s c q)/\Fr (·≠br) w w':=by
 obtain⟨b,a,e,d,f⟩:=s;obtain⟨-,-,-,j,k⟩:=Ah h;obtain⟨-,-,-,l,m⟩:=Ax h;have o:=Aa h;have H:Hid (RR w br t _):=h;clear h;by_cases i:e=0
 ·subst i;have g:Hid (Hg ⟨b,a,0,d,f⟩ c q=⟨b,a,c,q,f⟩):=rfl;rw[g.out];go_enter func29,ntmps29
  go_wp2_with fail
  go_end0
  exact⟨rfl,Ai (Ai H.out 3 _) 4 _,((Fr.refl _ w).set (by simp) _).set (by simp) _⟩
 ·have n:((e:Int)==0)=false:=by simp;omega
  have g:Hid (Hg ⟨b,a,e,d,f⟩ c q=⟨b,a,e,d,f⟩):=by show _=_;simp[Hg,i]
  rw[g.out];go_enter func29,ntmps29
  go_wp2_with fail
  go_end0
  exact⟨rfl,H.out,Fr.refl _ w⟩
theorem Sd (w:World)(br:Nat)(t:ByteArray)(s:RSt)(h:RR w br t s)(ha:s.at'<=t.size)(ht:t.size<=4000) :
  Calls prog 28 #[.pointer (some ⟨br,0,none⟩)] w fun e w'=>e=.returned (.tuple #[])/\RR w' br t { s with at':=s.at'+Dg (t.data.toList.drop s.at') }/\Fr (·≠br) w w':=by
 have N:t.data.toList.length=t.size:=by simp
 obtain⟨d,j,e,n,F⟩:=s;have H:Hid (RR w br t _):=h;clear h;have E:=Nv (t.data.toList.drop d);rw[List.length_drop,N] at E;obtain⟨M,k⟩:∃M,d+Dg (t.data.toList.drop d)=M:=⟨_,rfl⟩;have B:Hid _:=k;show Calls prog 28 #[.pointer (some ⟨br,0,none⟩)] w fun e' w'=>e'=.returned (.tuple #[])/\RR w' br t ⟨d+Dg (t.data.toList.drop d),j,e,n,F⟩/\Fr (·≠br) w w';rw[k];have I:M<=t.size:=by have:d<=t.size:=ha;omega
 have y:d<=M:=by omega
 clear k E;have S:=follows;go_enter func28,ntmps28
 go_wp2_with fail
 go_loopg [] (t.size) (fun kx wr=>∃p:Nat,d<=p/\p<=M/\t.size-p<=kx/\Hid (RR wr br t ⟨p,j,e,n,F⟩)/\Hid (Fr (·≠br) w wr))
 case atStart=>exact⟨d,Ad9 _,y,by omega,H,Fr.refl _ w⟩
 case round =>
  obtain⟨p,P,Q,L,f,i⟩:=hrel;have K:=Aa f.out;obtain⟨o,r⟩:=Lf f.out;by_cases O:p<t.size
  ·have l:=Il Gy (t.data.toList.drop d) (p-d) t[p] (by have:=B.out;unfold Dg at this;omega) (by
    rw[List.getElem?_drop,show d+(p-d)=p from by omega,List.getElem?_eq_getElem (by omega)];rfl)
   have J:Gy t[p]=(decide ((t[p].toNat:Int)=32)||decide ((t[p].toNat:Int)=9)||decide ((t[p].toNat:Int)=10)):=by
    unfold Gy
    congr 1
    ·congr 1
     ·exact J1 _ 32 (by decide)
     ·exact J1 _ 9 (by decide)
    ·exact J1 _ 10 (by decide)
   have a:(Gy t[p]=true->p+1<=M)/\(Gy t[p]=false->M=p):=by
    have:=B.out;unfold Dg at this;exact⟨fun q=>by have:=l.1 q;omega,fun q=>by have:=l.2 q;omega⟩
   clear l;rw[J] at a;rcases(show(t[p].toNat:Int)=32\/((t[p].toNat:Int)≠32/\(t[p].toNat:Int)=9)\/((t[p].toNat:Int)≠32/\(t[p].toNat:Int)≠9/\(t[p].toNat:Int)=10)\/((t[p].toNat:Int)≠32/\(t[p].toNat:Int)≠9/\(t[p].toNat:Int)≠10) from by omega) with m|⟨m,v⟩|⟨m,v,A⟩|⟨m,v,A⟩
   ·have z:((t[p].toNat:Int)==32)=true:=by simp[m]
    have g:=a.1 (by simp[*]);clear a;go_wp2_with fail
    go_quiet (fail)
    have b:Hid (RR (wr.drewN nq) br t _):=f.out;have c:Hid _:=i.out.trans (Fr.grew ((Ac.refl wr).drewN nq));clear o r f i;generalize wr.drewN nq=W1 at b c |-;have C:=Ab b.out 1;have D:=Ad b.out 1;have u:=Aa b.out;go_wp2_with fail
    go_roundg (t.size-(p+1))
    case measure=>omega
    case rel=>exact⟨p+1,by omega,g,Ad9 _,by have:=Ai b.out 1 (.int .i64 ((p:Int)+1));simpa [RR,Hid] using this,c.out.set (by simp) _⟩
   ·have z:((t[p].toNat:Int)==32)=false:=by simp[m]
    have G:((t[p].toNat:Int)==9)=true:=by simp[v]
    have g:=a.1 (by simp[*]);clear a;go_wp2_with fail
    go_quiet (fail)
    have b:Hid (RR (wr.drewN nq) br t _):=f.out;have c:Hid _:=i.out.trans (Fr.grew ((Ac.refl wr).drewN nq));clear o r f i;generalize wr.drewN nq=W1 at b c |-;have C:=Ab b.out 1;have D:=Ad b.out 1;have u:=Aa b.out;go_wp2_with fail
    go_roundg (t.size-(p+1))
    case measure=>omega
    case rel=>exact⟨p+1,by omega,g,Ad9 _,by have:=Ai b.out 1 (.int .i64 ((p:Int)+1));simpa [RR,Hid] using this,c.out.set (by simp) _⟩
   ·have z:((t[p].toNat:Int)==32)=false:=by simp[m]
    have G:((t[p].toNat:Int)==9)=false:=by simp[v]
    have R:((t[p].toNat:Int)==10)=true:=by simp[A]
    have g:=a.1 (by simp[*]);clear a;go_wp2_with fail
    go_quiet (fail)
    have b:Hid (RR (wr.drewN nq) br t _):=f.out;have c:Hid _:=i.out.trans (Fr.grew ((Ac.refl wr).drewN nq));clear o r f i;generalize wr.drewN nq=W1 at b c |-;have C:=Ab b.out 1;have D:=Ad b.out 1;have u:=Aa b.out;go_wp2_with fail
    go_roundg (t.size-(p+1))
    case measure=>omega
    case rel=>exact⟨p+1,by omega,g,Ad9 _,by have:=Ai b.out 1 (.int .i64 ((p:Int)+1));simpa [RR,Hid] using this,c.out.set (by simp) _⟩
   ·have z:((t[p].toNat:Int)==32)=false:=by simp[m]
    have G:((t[p].toNat:Int)==9)=false:=by simp[v]
    have R:((t[p].toNat:Int)==10)=false:=by simp[A]
    have x:Hid (M=p):=a.2 (by simp[*]);clear a;go_wp2_with fail
    go_quiet (fail)
    have b:Hid (RR (wr.drewN nq) br t _):=f.out;have c:Hid _:=i.out.trans (Fr.grew ((Ac.refl wr).drewN nq));clear o r f i;generalize wr.drewN nq=W1 at b c |-;go_wp2_with fail
    go_end0
    exact⟨rfl,by rw[x.out];exact b.out,c.out⟩
  ·have x:Hid (M=p):=by show _=_;omega
   go_wp2_with fail
   go_quiet (fail)
   have b:Hid (RR (wr.drewN nq) br t _):=f.out;have c:Hid _:=i.out.trans (Fr.grew ((Ac.refl wr).drewN nq));clear o r f i;generalize wr.drewN nq=W1 at b c |-;go_wp2_with fail
   go_end0
   exact⟨rfl,by rw[x.out];exact b.out,c.out⟩
def Av (T:List UInt8)(p:Nat):Nat:=p+Dg (T.drop p)
theorem Ir {T:List UInt8}{p:Nat}(h:p<=T.length):p<=Av T p/\Av T p<=T.length:=by
 have:=Nv (T.drop p);rw[List.length_drop] at this;unfold Av;omega
def Ep (T:List UInt8)(m:List UInt8)(s:RSt):Bool:=decide (s.e=0)&&Lib.hasPrefix (T.drop (Av T s.at')) m
def Cq (T:List UInt8)(m:List UInt8)(s:RSt):RSt:={ s with at':=if Ep T m s then Av T s.at'+m.length else Av T s.at' }
theorem Ly (w:World)(br:Nat)(t m:ByteArray)(s:RSt)(h:RR w br t s)(ha:s.at'<=t.size)(ht:t.size<=4000)(hm:m.size<=100) :
  Calls prog 64 #[.pointer (some ⟨br,0,none⟩),.string m] w fun e w'=>e=.returned (.bool (Ep t.data.toList m.data.toList s))/\RR w' br t (Cq t.data.toList m.data.toList s)/\Fr (·≠br) w w':=by
 have P:t.data.toList.length=t.size:=by simp
 have v:m.data.toList.length=m.size:=by simp
 have k:Hid (Calls _ 28 #[_] w _):=Sd w br t s h ha ht;obtain⟨n,a,e,f,y⟩:=s;have R:=Ir (p:=n) (by rw[P];exact ha);have o:Hid (Ep _ _ ⟨n,a,e,f,y⟩=(decide (e=0)&&Lib.hasPrefix (t.data.toList.drop (Av _ n)) m.data.toList)):=rfl;have K:Hid (Cq t.data.toList m.data.toList ⟨n,a,e,f,y⟩=⟨if Ep t.data.toList m.data.toList ⟨n,a,e,f,y⟩ then Av t.data.toList n+m.size else Av t.data.toList n,a,e,f,y⟩):=by
  show _=_;unfold Cq;rw[v]
 rw[K.out];generalize Ep _ _ _=b at o |-;obtain⟨q,x⟩:∃q,Av t.data.toList n=q:=⟨_,rfl⟩;have k:Hid (Calls prog 28 #[.pointer (some ⟨br,0,none⟩)] w fun e' w'=>e'=.returned (.tuple #[])/\RR w' br t ⟨q,a,e,f,y⟩/\Fr (·≠br) w w'):=by
  rw[<- x];exact k.out
 rw[x] at R o |-;obtain⟨r,H⟩:∃r:RSt,(⟨if b then q+m.size else q,a,e,f,y⟩:RSt)=r:=⟨_,rfl⟩;rw[H];have A:Hid (_=r):=H;clear H x K h;have G:q<=t.size:=by omega
 clear R;go_enter func64,ntmps64
 go_wp2_with fail
 refine k.out.mono ?_;rintro e' d ⟨rfl,M,F⟩;have j:Hid (RR d br t _):=M;have l:Hid (Fr (·≠br) w d):=F;clear M F k;obtain⟨D,B,-,E⟩:=Ns j.out;have U:=Aa j.out;by_cases O:e=0
 ·subst O;have X:IntKind.i64.wrap ((t.size:Int)-(q:Int))=(t.size:Int)-(q:Int):=by rw[IntKind.wrap_i64];omega
  by_cases Q:(t.size:Int)-(q:Int)<(m.size:Int)
  ·have i:Hid (b=false):=by
    show _=_;rw[o.out];cases C:Lib.hasPrefix (t.data.toList.drop q) m.data.toList with
    | false=>rfl
    | true =>
     have:=List.IsPrefix.length_le (List.isPrefixOf_iff_prefix.1 C);rw[List.length_drop] at this;omega
   go_wp2_with fail
   go_quiet (fail)
   have c:Hid (RR (d.drewN nq) br t _):=j.out;have g:Hid _:=l.out.trans (Fr.grew ((Ac.refl d).drewN nq));clear D B E j l;generalize d.drewN nq=W2 at c g |-;go_wp2_with fail
   go_ret
   exact⟨by rw[i.out];rfl,by rw[<- A.out,i.out];exact c.out,g.out⟩
  ·have V:q+m.size<=t.size:=by omega
   obtain⟨z,J⟩:∃z,z=q+m.size:=⟨_,rfl⟩;have Y:(q:Int)+(m.size:Int)=(z:Int):=by omega
   have Z:IntKind.i64.wrap (z:Int)=(z:Int):=by rw[IntKind.wrap_i64];omega
   have W:(q:Int)<=(z:Int):=by omega
   have a1:(z:Int)<=(t.size:Int):=by omega
   have L:Hid (z=q+m.size):=J;rw[<- J] at A;clear J;cases u:(t.extract q z).toList==m.toList with
   | true =>
    have i:Hid (b=true):=by
     show _=_;rw[o.out];have:=eq_of_beq u;rw[L.out,ByteArray.toList_eq,ByteArray.toList_eq,Df,List.drop_take,show q+m.size-q=m.size from by omega] at this;have C:Lib.hasPrefix _ m.data.toList=true:=List.isPrefixOf_iff_prefix.2 (by rw[<- this];exact List.take_prefix _ _);rw[C];rfl
    go_wp2_with fail
    go_quiet (fail)
    have c:Hid (RR (d.drewN nq) br t _):=j.out;have g:Hid _:=l.out.trans (Fr.grew ((Ac.refl d).drewN nq));clear D B E j l;generalize d.drewN nq=W2 at c g |-;have B:=Ab c.out 1;have F:=Ad c.out 1;have N:=Aa c.out;go_wp2_with fail
    go_ret
    refine⟨by rw[i.out];rfl,?_,g.out.set (by simp) _⟩;rw[<- A.out,i.out];have:=Ai c.out 1 (.int .i64 (z:Int));simpa [RR] using this
   | false =>
    have i:Hid (b=false):=by
     show _=_;rw[o.out];cases C:Lib.hasPrefix (t.data.toList.drop q) m.data.toList with
     | false=>rfl
     | true =>
      obtain⟨r',I⟩:=List.isPrefixOf_iff_prefix.1 C;have:(t.extract q z).toList=m.toList:=by
       rw[L.out,ByteArray.toList_eq,ByteArray.toList_eq,Df,List.drop_take,show q+m.size-q=m.size from by omega,<- I,<- v,List.take_left'];rfl
      rw[this] at u;simp at u
    go_wp2_with fail
    go_quiet (fail)
    have c:Hid (RR (d.drewN nq) br t _):=j.out;have g:Hid _:=l.out.trans (Fr.grew ((Ac.refl d).drewN nq));clear D B E j l;generalize d.drewN nq=W2 at c g |-;go_wp2_with fail
    go_ret
    exact⟨by rw[i.out];rfl,by rw[<- A.out,i.out];exact c.out,g.out⟩
 ·have hb:((e:Int)==0)=false:=by simp;omega
  have S:((e:Int) != 0)=true:=by simp;omega
  have T:¬(e:Int)=0:=by omega
  have i:Hid (b=false):=by show _=_;rw[o.out];simp[O]
  clear o v P ht hm G;go_wp2_with fail
  go_quiet (fail)
  have c:Hid (RR (d.drewN nq) br t _):=j.out;have g:Hid _:=l.out.trans (Fr.grew ((Ac.refl d).drewN nq));clear D B E j l;generalize d.drewN nq=W2 at c g |-;go_wp2_with fail
  go_ret
  exact⟨by rw[i.out];rfl,by rw[<- A.out,i.out];exact c.out,g.out⟩
def Hn (T:List UInt8)(m:List UInt8)(s:RSt):RSt:=if Ep T m s then Cq T m s else Hg (Cq T m s) 1 (Cq T m s).at'
theorem Zk (w:World)(br:Nat)(t m:ByteArray)(s:RSt)(h:RR w br t s)(ha:s.at'<=t.size)(ht:t.size<=4000)(hm:m.size<=100) :
  Calls prog 123 #[.pointer (some ⟨br,0,none⟩),.string m] w fun e w'=>e=.returned (.tuple #[])/\RR w' br t (Hn t.data.toList m.data.toList s)/\Fr (·≠br) w w':=by
 have f:Hid (Calls _ 64 #[_,_] w _):=Ly w br t m s h ha ht hm;have c:Hid (Hn _ _ s=if Ep _ _ s then _ else Hg _ 1 (Cq t.data.toList m.data.toList s).at'):=rfl;generalize Hn _ _ s=r at c |-;generalize Ep _ _ s=b at f c;generalize Cq _ _ s=s1 at f c;clear h ha;go_enter func123,ntmps123
 go_wp2_with fail
 refine f.out.mono ?_;rintro e g ⟨rfl,d,l⟩;have k:Hid (RR g br t s1):=d;have i:Hid (Fr (·≠br) w g):=l;have a:Hid (Calls _ 29 #[_,.int .i64 (1:Int),_] g _):=D7 g br t s1 1 s1.at' d;have u:=Ab d 1;have v:=Aa d;clear d l f;cases b with
 | true =>
  have j:Hid (r=s1):=c.out;clear a;go_wp2_with fail
  go_end0
  exact⟨rfl,by rw[j.out];exact k.out,i.out⟩
 | false =>
  have j:Hid (r=Hg s1 1 s1.at'):=c.out;go_wp2_with fail
  refine a.out.mono ?_;rintro e x ⟨rfl,o,n⟩;have q:Hid (RR x br t _):=o;have p:Hid _:=i.out.trans n;clear o n k i u a;go_wp2_with fail
  go_end0
  exact⟨rfl,by rw[j.out];exact q.out,p.out⟩
theorem Oa (w:World)(br:Nat)(t:ByteArray)(s:RSt)(k:Nat)(i0:Int)(s1:ByteArray)(K U:Value)(oK:K.oneCell'=true)(oU:U.oneCell'=true)(h:RR w br t s) :
  Calls prog 66 #[.pointer (some ⟨br,0,none⟩),.agg #[.int .i64 k,.int .i64 i0,.string s1,K,U]] w fun e w'=>e=.returned (.agg #[.int .i64 k,.int .i64 i0,.string s1,K,U])/\RR w' br t { s with hv:=s.hv||decide (k=0) }/\Fr (·≠br) w w':=by
 obtain⟨I,b,e,z,hv⟩:=s;have G:=Aa h;have c:Hid (((w.alloc (.cells #[.int .i64 k,.int .i64 i0,.string s1,K,U] 30)).alloc (.cells #[.int .i64 0,.int .i64 0,.string ⟨#[]⟩,.slice none 0 0,.slice none 0 0] 30)).heap[w.heap.size]?=_) :=
  Ac1 ((Ac.refl _).alloc _).below (Af rfl)
 have n:Hid (((w.alloc (.cells #[.int .i64 k,.int .i64 i0,.string s1,K,U] 30)).alloc _).heap[w.heap.size+1]?=some (.cells #[.int .i64 0,.int .i64 0,.string ⟨#[]⟩,.slice none 0 0,.slice none 0 0] 30 (0,0))) :=
  Af (by simp)
 have C:Hid (Ac w ((w.alloc (.cells #[.int .i64 k,.int .i64 i0,.string s1,K,U] 30)).alloc (.cells #[.int .i64 0,.int .i64 0,.string ⟨#[]⟩,.slice none 0 0,.slice none 0 0] 30))):=((Ac.refl w).alloc _).alloc _;have H:Hid (RR w br t _):=h;clear h;have X:=Ae oK;have Y:=Ae oU;go_enter func66,ntmps66
 have d:Hid (RR _ br t _):=H.out.fr (C.out.below.block br G);go_upto_region 1 with(fail)
 generalize (w.alloc (.cells #[.int .i64 k,.int .i64 i0,.string s1,K,U] 30)).alloc _=W0 at C c n d |-;have r:=Ab c.out 0;have u:=Ab c.out 1;have v:=Ab c.out 2;have x:=Ab c.out 3;have y:=Ab c.out 4;obtain⟨f,g,j,l,m⟩:=Ah n.out;obtain⟨M,N,O,P,Q⟩:=Ax n.out;have J:=Ab d.out 5;have L:=Ad d.out 5;have A:=Aa d.out;have Z:=Aa c.out;have z2:=Aa n.out;have V:br≠w.heap.size:=by omega
 have W:br≠w.heap.size+1:=by omega
 by_cases S:k=0
 ·subst S;have D:(W0.setCell ⟨br,5,none⟩ (.bool true)).heap[_+1]?=_:=(Below.heap_setCell _ _ _ _ (by simp;omega)).trans n.out;have p:RR (W0.setCell ⟨br,5,none⟩ (.bool true)) br t ⟨I,b,e,z,true⟩:=by
   have:=Ai d.out 5 (.bool true);simpa [RR] using this
  have B:=Aa p;have R:Hid _:=D;have F:Hid _:=p;clear D p;go_wp2_with fail
  have D:=R.out;have p:=F.out;change bodyPost _ _ _ _ _ (Ao _ _ 0 _ _ _ K U);have E:=Bc D (.int .i64 0) (.int .i64 i0) (.string s1) K U;have o:Fr (·≠w.heap.size+1) _ (Ao (W0.setCell ⟨br,5,none⟩ (.bool true)) (w.heap.size+1) 0 (.int .i64 0) (.int .i64 i0) (.string s1) K U):=Cz (Fr.refl _ _) (by simp) _ _ _ _ _ _;have a:Fr (fun k=>k<w.heap.size/\k≠br) w (Ao (W0.setCell ⟨br,5,none⟩ (.bool true)) (w.heap.size+1) 0 (.int .i64 0) (.int .i64 i0) (.string s1) K U):=Cz (((Fr.grew C.out).set (by simp) _)) (by omega) _ _ _ _ _ _;have q:RR _ br t ⟨I,b,e,z,true⟩:=(o.block br B (by omega)).trans p;clear f g j l m M N O P Q r u v x y J L;generalize Ao _ _ 0 _ _ _ K U=WZ at E a q o |-;obtain⟨f,g,j,l,m⟩:=Ah E;refine Ae2 (by simp[results,results66,go_sem,f,g,j,l,m]) rfl ⟨rfl,?_,⟨a.os,a.tape,a.output,a.size,fun i hi hp=>a.block i hi ⟨hi,hp⟩⟩⟩;simpa [RR] using q
 ·have T:((k:Int)==0)=false:=by simp;omega
  go_wp2_with fail
  change bodyPost _ _ _ _ _ (Ao W0 _ 0 _ _ _ K U);have E:=Bc n.out (.int .i64 k) (.int .i64 i0) (.string s1) K U;have o:Fr (·≠w.heap.size+1) W0 (Ao W0 (w.heap.size+1) 0 (.int .i64 k) (.int .i64 i0) (.string s1) K U):=Cz (Fr.refl _ _) (by simp) _ _ _ _ _ _;have a:Fr (fun k=>k<w.heap.size/\k≠br) w (Ao W0 (w.heap.size+1) 0 (.int .i64 k) (.int .i64 i0) (.string s1) K U):=Cz ((Fr.grew C.out)) (by omega) _ _ _ _ _ _;have q:=d.out.fr (o.block br A (by omega));clear f g j l m M N O P Q r u v x y J L;generalize Ao W0 _ 0 _ _ _ K U=WZ at E a q o |-;obtain⟨f,g,j,l,m⟩:=Ah E;refine Ae2 (by simp[results,results66,go_sem,f,g,j,l,m]) rfl ⟨rfl,?_,⟨a.os,a.tape,a.output,a.size,fun i hi hp=>a.block i hi ⟨hi,hp⟩⟩⟩;exact q
end Go.Proofs.YtdpeliifdlhhkaaGreatDoor.Sx
