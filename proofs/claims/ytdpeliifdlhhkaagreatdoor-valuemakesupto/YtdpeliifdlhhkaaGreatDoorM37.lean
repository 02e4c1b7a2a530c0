/- Rows of rows: what is told of all sequences. -/
import Derived.Test.YtdpeliifdlhhkaaGreatDoorM36
namespace Go.Proofs.YtdpeliifdlhhkaaGreatDoor.Sx
open Go.RowKit Go.Sort Tryz
set_option maxRecDepth 100000
set_option maxHeartbeats 4000000
theorem Zx {m:Nat}{es:List (AV (m+1))}:∀{N:Nat},Kh m es N↔(D5 m es N).any (L8 (m+1))=false:=by
 intro N;unfold Kh D5;rw[List.any_eq_false];constructor
 ·intro h x a;obtain⟨i,b,a⟩:=List.mem_flatMap.1 a;have:=Ri.1 (h i (by simpa using b));rw[List.any_eq_false] at this;exact this x a
 ·intro h i b;refine Ri.2 ?_;rw[List.any_eq_false];intro x a;exact h x (List.mem_flatMap.2 ⟨i,by simpa using b,a⟩)
def H8 (m:Nat)(es:List (AV (m+1)))(N:Nat):Bool:=decide (1024<=wtL (wt (m+2)) (D5 m es N))||(D5 m es N).any (L8 (m+1))
theorem lZ {m:Nat}{es:List (AV (m+1))}{N:Nat}(h:H8 m es N=false):Jh m es N=mkS (wt (m+2)) (D5 m es N):=by
 unfold H8 at h;rw[Bool.or_eq_false_iff] at h;have a:=Zx.2 h.2;unfold Jh;rw[if_pos a,Vg a]
theorem pL {m:Nat}{es:List (AV (m+1))}{K N:Nat}(hk:K<=N)(h:H8 m es K=true):Jh m es N=Ar:=by
 refine K3 m hk ?_;unfold H8 at h;by_cases a:Kh m es K
 ·rw[Zx.1 a,Bool.or_false,decide_eq_true_eq,Vg a] at h;exact .inr h
 ·exact .inl a
theorem Su {m:Nat}{es:List (AV (m+1))}{N:Nat}(h:H8 m es N=false):(D5 m es N).length<1024:=by
 have:=qF m es N;unfold H8 at h;rw[Bool.or_eq_false_iff,decide_eq_false_iff_not] at h;omega
theorem kJ {m:Nat}{es:List (AV (m+1))}(he:0<es.length){N:Nat}(h:H8 m es N=false):N<1024:=by
 have a:=Su h;rw[mQ] at a;have:=Nx m he N;omega
theorem M4 (m:Nat):∀N,D5 m [] N=D5 m [] 0
 | 0=>rfl
 | N+1=>by rw[Vh,Tb,M4 m N];simp[Fv]
theorem Ks (m:Nat)(es:List (AV (m+1))):D5 m es 0=[fnB (m+1) (Aq m 0) []]:=by simp[D5,Fv,Ak]
theorem Uc (m:Nat)(es:List (AV (m+1))):H8 m es 0=false:=by
 unfold H8;rw[Ks];have a:fnB (m+1) (Aq m 0) []=fnA (m+1) (Aq m 0) []:=by
  unfold fnB fnA mkF;rw[if_pos (by simp[Aq,wtL])]
 rw[a];have b:wt (m+2) (fnA (m+1) (Aq m 0) [])=1:=by rw[Te];simp[Aq,wtL]
 simp only[List.any_cons,List.any_nil,xF,Bool.or_false,wtL,List.map_cons,List.map_nil,List.sum_cons,List.sum_nil,b]
 decide
theorem Zy {m:Nat}{es:List (AV (m+1))}{N:Nat}:∀x∈D5 m es N,wt (m+2) x<=1024:=by
 intro x a;obtain⟨i,_,a⟩:=List.mem_flatMap.1 a;exact Xe x a
theorem pM {Q:Nat->Prop}{W w':World}{n:Nat}{rows:List (List (AV n))}{a:Option Addr}{l l':Value}(h:En (fun k=>Q k/\some k≠l.ownBlock) W n rows a)(hg:W.grownBy w' l.ownBlock)(hat:l'.ownBlock=l.ownBlock\/l'.ownBlock=some W.heap.size):En (fun k=>Q k/\some k≠l'.ownBlock) w' n rows a:=by
 refine h.fr ⟨hg.os,hg.tape,hg.output,hg.size,fun k hk hp=>hg.block k hk hp.2⟩ ?_;intro k hk hp;refine⟨hp.1,fun e=>?_⟩;rcases hat with q|q
 ·rw[q] at e;exact hp.2 e
 ·rw[q] at e;have:=Ae5 e;omega
theorem Sv (m:Nat)(P:Nat->Prop)(w:World)(d p off cap:Nat)(es:List (AV (m+1)))(h:Dy P w (Aj P w (m+1)) (wt (m+1)) d es)(q:Nat)(y:AV q)(v:Value)(hp:p<w.heap.size)(hc:w.cell? ⟨p,off,none⟩=some v)(hv:Aj P w q y v)(N:Nat)(hi:Au q y=some (N:Int))(hN:N<=9223372036854775807)(hP:∀k,w.heap.size<=k->P k)(hw:1+wtL (wt (m+1)) es<=1024)(hl:es.length<=1024) :
  Calls prog 228 #[.pointer (some ⟨d,0,none⟩),.slice (some ⟨p,off,none⟩) 1 cap] w (Bd P w (m+3) (Jh m es N)):=by
 obtain⟨_,a1,n,C,e1,r1⟩:=h;have c1:=Ab e1 0;have z1:=Aa e1;have e9:n<=1024:=by rw[r1.1];exact hl
 have HL:Hid (n=es.length):=r1.1;have HR:Hid (Bv P w _ a1 n es):=r1;have HP:Hid _:=hP;have HW:Hid (∀x∈es,wt (m+1) x<=1024):=fun x hx=>by have:=Ru (wt (m+1)) hx;omega
 have ai:=W7 (hv.rep _ _ _);rw[hi] at ai;simp only[Option.getD_some,Option.isSome_some] at ai;have st:=Ae (hv.rep _ _ _).one;have n0:¬((N:Int)<0):=by omega
 clear e1 r1 hP hw hl hv hi;have b0:Hid (∀W:World,w.heap.size<W.heap.size->Below w.heap.size w W->_):=fun W hz hb=>E5 m (fun k=>P k/\k≠w.heap.size) W none 0 0 [] (by omega) ⟨rfl,by omega,.inl rfl⟩ (fun k hk=>⟨HP.out k (by omega),by omega⟩) (by simp) ⟨Ad9 _,fun _=>rfl,.inl rfl⟩;have mo:=follows;go_enter func228,ntmps228
 go_wp2_with fail
 have G0:Below _ w ((w.alloc (.cells #[.nilIface] 23)).alloc (.cells #[.slice none 0 0] 47)):=(((Ac.refl w).alloc _).alloc _).below;have X0:((w.alloc (.cells #[.nilIface] 23)).alloc (.cells #[.slice none 0 0] 47)).heap[w.heap.size]?=_:=Ac1 ((Ac.refl _).alloc _).below (Af rfl);have Y0:((w.alloc (.cells #[.nilIface] 23)).alloc (.cells #[.slice none 0 0] 47)).heap[w.heap.size+1]?=_:=Af (by simp);refine(b0.out _ (Aa X0) G0).mono ?_;rintro e O ⟨v1,rfl,a2,I⟩;have e4:=Ae (a2.rep _ _ _).one;have e2:w.heap.size+2<=O.heap.size:=by have:=I.size;simp at this;omega
 have Q:Below _ O (O.alloc (.cells #[v1] 23)):=((Ac.refl O).alloc _).below;have B1:=G0.trans (I.mono G0.size);have GS:Hid (Iy (fun k=>P k/\k≠w.heap.size) w (O.alloc (.cells #[v1] 23)) (m+2) (w.heap.size+1) (D5 m es 0) (.slice (some ⟨O.heap.size,0,none⟩) 1 1)):=by
  have hn:(O.alloc (.cells #[v1] 23)).heap[O.heap.size]?=_:=Af rfl;refine⟨⟨[v1],⟨rfl,.inr ⟨_,1,_,by rw[Ks];rfl,by omega,hn,by rw[Ks];exact Ad9 _,by decide,rfl,by rw[Ks];rfl⟩⟩,?_⟩,B1.trans (Q.mono B1.size)⟩;rw[Ks];refine⟨rfl,fun i x hx=>?_⟩;cases i with
  | zero =>
   simp at hx;subst hx;exact⟨v1,rfl,a2.fr (Fr.below Q) (fun k hk hp=>⟨hp,fun e=>by simp[Value.ownBlock] at e;omega⟩) _ _ _⟩
  | succ i=>simp at hx
 have RS:Hid (En (fun k=>(P k/\k≠w.heap.size)/\some k≠(Value.slice (some ⟨O.heap.size,0,none⟩) 1 1).ownBlock) _ (m+1) _ _):=Xg es (Ac1 Q (Ac1 I Y0)) ⟨⟨HP.out _ (by omega),by omega⟩,fun e=>by simp[Value.ownBlock] at e;omega⟩;have X1:Hid _:=Ac1 Q (Ac1 I X0);have d1:O.cell? _=some (.slice a1 n C):=(B1.cell (p:=⟨d,0,none⟩) z1).trans c1;have e5:=Ad8 z1 B1.size;clear G0 X0 Y0 a2 I B1 Q b0;go_wp2_with fail
 obtain⟨i0,d5,e0,c4,e3⟩:=info_parts Gn;generalize O.alloc _=W0 at GS RS X1 |-;go_loopw [7,8,9] (fun rs l i wr=>∃(k r c:Nat)(a:Option Addr),k<=N/\i=.int .i64 k/\rs=.slice a r c/\r<=1024/\Hid (r=(Ak es k).length)/\Hid (En (fun k=>(P k/\k≠w.heap.size)/\some k≠l.ownBlock) wr (m+1) (Ak es k) a)/\Hid (Iy (fun k=>P k/\k≠w.heap.size) w wr (m+2) (w.heap.size+1) (D5 m es k) l)/\Hid (wr.heap[w.heap.size]?=some (.cells #[.nilIface] 23 (0,0)))/\Hid (H8 m es k=false)) (fun _ _ i _=>N-(intOf i).toNat)
 case atStart=>exact⟨0,1,1,_,Ae1 _,rfl,rfl,by omega,rfl,RS,GS,X1,Uc m es⟩
 case round =>
  clear RS GS X1 e4 d1 e5 e2;obtain⟨k,r,c,a,hk,rfl,rfl,f0,E,o,f,s,HH⟩:=hrel;have dw:wr.cell? _=some (.slice a1 n C):=(f.out.low.cell (p:=⟨d,0,none⟩) z1).trans c1;have zw:=Ad8 z1 f.out.low.size;by_cases d4:k<N/\0<n
  ·obtain⟨d8,b9⟩:=d4;have e8:=kJ (by rw[<- HL.out];exact b9) HH.out;by_cases hm:r*n<1024
   ·have T:Hid (Calls _ 282 #[_,_] wr fun e w'=>∃b c,e=.returned (.tuple #[.slice b (Ak es (k+1)).length c,_])/\_/\En _ w' (m+1) (Ak es (k+1)) b) :=
     Xd (m+1) _ wr _ es a a1 c C r n E.out o.out (HR.out.fr (Fr.below f.out.low) (fun x v=>Aj.fr (Fr.below f.out.low) (fun k hk hp=>⟨⟨hp,by omega⟩,fun e=>by have:=(f.out.lt e.symm).1;omega⟩) (m+1) x v) (fun k hk hp=>⟨⟨hp,by omega⟩,fun e=>by have:=(f.out.lt e.symm).1;omega⟩)) hm (by omega) (by omega) (fun k hk=>⟨⟨HP.out k (by have:=f.out.low.size;omega),by have:=Aa s.out;omega⟩,fun e=>by have:=(f.out.lt e.symm).2;omega⟩) (fun row hrow=>by rw[Co k row hrow];omega)
    have Z:Hid ((Ak es (k+1)).length<=1024):=by
     show _<=_;rw[Fu,<- E.out,<- HL.out];omega
    generalize b3:(Ak es (k+1)).length=M at T Z;have R:Hid _:=b3.symm;have d0:M<=1024:=Z.out;have b5:(k:Int)<(N:Int):=by omega
    have b7:(0:Int)<(n:Int):=by omega
    clear b3 o E Z hm;go_wp2_with (go_at_call 282;refine T.out.mono ?_)
    rintro e w' ⟨b',c',rfl,hb,K⟩;have c6:Hid _:=f.out.low.trans (hb.mono f.out.low.size);have b2:Hid _:=Ac1 hb s.out;have a5:Hid (Iy (fun k=>P k/\k≠w.heap.size) w w' (m+2) (w.heap.size+1) (D5 m es k++Fv (m+1) (Aq m (k+1)) ((Ak es (k+1)).take 0)) u8):=by
     rw[List.take_zero];show Iy _ _ _ _ _ _ _;rw[show Fv (m+1) (Aq m (k+1)) []=[] from rfl,List.append_nil];exact f.out.keep hb
    have V:Hid (En _ w' (m+1) _ b'):=K;have e7:(D5 m es k).length<=1024:=by have:=Su HH.out;omega
    clear hb K f s dw zw T;go_wp2_with fail
    go_loopw [8,60] (fun l i wr=>∃j:Nat,j<=M/\i=.int .i64 j/\Hid (Iy (fun k=>P k/\k≠w.heap.size) w wr (m+2) (w.heap.size+1) (D5 m es k++Fv (m+1) (Aq m (k+1)) ((Ak es (k+1)).take j)) l)/\Hid (En (fun k=>(P k/\k≠w.heap.size)/\some k≠l.ownBlock) wr (m+1) (Ak es (k+1)) b')/\Hid (wr.heap[w.heap.size]?=some (.cells #[.nilIface] 23 (0,0)))) (fun _ i _=>M-(intOf i).toNat)
    case atStart=>exact⟨0,Ae1 _,rfl,a5,V,b2⟩
    case round =>
     clear a5 V b2 c6;obtain⟨j,hj,rfl,f,o,s⟩:=hrel;by_cases d7:j<M
     ·have d6:j<(Ak es (k+1)).length:=by rw[<- R.out];exact d7
      obtain⟨p0,o0,d2,b8,e6,b4⟩:=o.out.resolve_left (by omega);have X:Hid (En _ wr (m+1) _ b'):=o.out;subst d2;obtain⟨row,J⟩:∃x,(Ak es (k+1))[j]?=some x:=⟨_,List.getElem?_eq_getElem d6⟩;obtain⟨v0,c2,a',c8,rfl,a3,hrow⟩:=b4 j row J;have c0:=Co (k+1) row (Ae4 J);have a7:Hid _:=Ae4 J;rw[c0] at a3 hrow c2;have T:Hid (Calls _ 236 #[_] wr _) :=
       E5 m _ wr a' (k+1) c8 row (by omega) hrow (fun k hk=>⟨⟨HP.out k (by have:=f.out.low.size;omega),by have:=Aa s.out;omega⟩,fun e=>by have:=(f.out.lt e.symm).2;omega⟩) (fun x hx=>HW.out x (Ft (k+1) row a7.out x hx)) a3
      have a0:Hid (D5 m es k++Fv (m+1) (Aq m (k+1)) ((Ak es (k+1)).take (j+1))=(D5 m es k++Fv (m+1) (Aq m (k+1)) ((Ak es (k+1)).take j))++[fnB (m+1) (Aq m (k+1)) row]):=by
       show _=_;rw[List.take_add_one,J];simp[Fv]
      have F:(D5 m es k++Fv (m+1) (Aq m (k+1)) ((Ak es (k+1)).take j)).length<=2048:=by
       have:=R.out;simp only[Fv,List.length_append,List.length_map,List.length_take];omega
      generalize D5 m es k++_=acc at f a0 F;clear b4 J a3 hrow c0 a7 o;go_wp2_with (go_at_call 236;refine T.out.mono ?_)
      rintro e w' ⟨v,rfl,G,hb⟩;have c5:=Ae (G.rep _ _ _).one;have cc:=(G.rep _ _ _).one;have Q:Below _ wr (w'.alloc (.cells #[v] 23)):=hb.trans ((((Ac.refl w').alloc _).below).mono hb.size);have b1:Hid (Aj _ (w'.alloc (.cells #[v] 23)) (m+2) (fnB (m+1) _ row) v):=Aj.keep (Fr.grew ((Ac.refl w').alloc _)) G;have GA:Hid _:=f.out.keep Q;have RA:Hid (En _ _ (m+1) _ _):=X.out.fr (Fr.below Q) (fun _ _ h=>h);have XA:Hid _:=Ac1 Q s.out;obtain⟨vs,ho,c3⟩:=GA.out.own;have OW:Hid ((w'.alloc (.cells #[v] 23)).ownsRow _ 23 1 u8 _ vs):=ho;have KV:Hid (Ey _ _ (m+2) acc vs):=c3;have SW:Hid (Src (w'.alloc (.cells #[v] 23)) (some ⟨w'.heap.size,0,none⟩) 1 [v]):=by
       have hn:(w'.alloc (.cells #[v] 23)).heap[w'.heap.size]?=_:=Af rfl;refine⟨rfl,by simp[cc],.inr ⟨_,0,rfl,Aa hn,fun q u hu=>?_⟩⟩;rw[Nat.zero_add,Ab hn q];simpa using hu
      have d3:_+1<=_:=Ae0 (Aa s.out) hb.size;clear ho c3 G hb Q T f X c2 b8 s;go_wp2_with (at_builtin;refine Bz _ rfl _ _ 47 rfl _ 23 i0 _ 16 underlying47 d5 e0 c4 e3 rfl u8 _ vs rfl OW.out _ 1 1 [v] rfl SW.out ?q3 ?q4 ?q5 ?_)
      case q3=>unfold maxLen;omega
      case q4=>omega
      case q5=>first|omega|(simp;omega)
      intro l4 w4 b6 D H;have a8:Hid (Iy _ w w4 (m+2) (_+1) (acc++[fnB (m+1) _ row]) l4):=Iy.push GA.out.low (Nat.le_succ _) KV.out OW.out b6 D (by simpa using H) b1.out;have RN:Hid (En _ w4 (m+1) _ _):=pM RA.out D (by simpa using H);have XN:Hid _:=(D.block _ (Aa XA.out) (fun e=>by have:=(GA.out.lt e.symm).1;omega)).trans XA.out;rw[<- a0.out] at a8;clear b6 D H OW KV SW GA a0 b1 RA XA;go_wp2_with fail
      go_roundw
      case rel=>exact⟨j+1,by omega,by go_num,a8,RN,XN⟩
      case measure=>simp[intOf];omega
     ·obtain rfl:j=M:=by omega
      have HK:Hid (D5 m es k++Fv (m+1) (Aq m (k+1)) ((Ak es (k+1)).take j)=D5 m es (k+1)):=by
       show _=_;rw[List.take_of_length_le (by rw[<- R.out];omega),Vh]
      have F:(D5 m es k++Fv (m+1) (Aq m (k+1)) ((Ak es (k+1)).take j)).length<=2048:=by
       have:=R.out;simp only[Fv,List.length_append,List.length_map,List.length_take];omega
      rw[HK.out] at f F;obtain⟨L,S⟩:∃L,(D5 m es (k+1)).length=L:=⟨_,rfl⟩;rw[S] at F;obtain⟨a9,c9,a4,t,g⟩:=f.out.row (by rw[S];omega) (fun k hk=>⟨HP.out k (by omega),by omega⟩);subst a4;rw[S] at g t o f |-;have HT:Hid (Calls _ 284 #[_] wr _):=Rh (m+1) _ wr a9 L c9 _ g Zy;clear g t HK S;cases Y:H8 m es (k+1) with
      | true =>
       have HZ:Hid (Jh m es N=Ar):=pL (by omega) Y;unfold H8 at Y;rw[Y] at HT;clear Y;go_wp2_with (go_at_call 284;refine HT.out.mono ?_)
       rintro e w' ⟨rfl,z⟩;have L2:Hid _:=f.out.low.trans (z.below.mono f.out.low.size);have X2:Hid _:=Ac1 z.below s.out;have A:=U0 (P:=P) HZ.out L2.out X2.out;have B:Hid (Bd P w (m+3) _ _ _):=A.1;have ke:=A.2;have r0:=Ab X2.out 0;have s0:=Ad X2.out 0;have zx:=Aa X2.out;clear A z HZ HT f o s;go_wp2_with fail
       exact Ae2 (by simp[results,results228,go_sem,ke]) rfl B.out
      | false =>
       have c7:Hid _:=Y;unfold H8 at Y;rw[Y] at HT;clear Y;go_wp2_with (go_at_call 284;refine HT.out.mono ?_)
       rintro e w' ⟨rfl,z⟩;have GN:Hid _:=f.out.keep z.below;have RN:Hid (En _ w' (m+1) _ b'):=o.out.fr (Fr.grew z) (fun _ _ h=>h);have XN:Hid _:=Ac1 z.below s.out;clear z HT f o s HH;go_wp2_with fail
       go_roundw
       case rel=>exact⟨k+1,j,c',b',by omega,by go_num,rfl,d0,R,RN,GN,XN,c7⟩
       case measure=>simp[intOf];omega
   ·have T:Hid (Calls _ 282 #[_,_] wr _):=Ub a a1 r c n C wr (by omega) (by omega) (by omega);have HZ:Hid _:=Vk m d8 (by rw[<- E.out,<- HL.out];omega);have A:=U0 (P:=P) HZ.out f.out.low s.out;have B:Hid (Bd P w (m+3) _ _ _):=A.1;have ke:=A.2;have r0:=Ab s.out 0;have s0:=Ad s.out 0;have zx:=Aa s.out;have b5:(k:Int)<(N:Int):=by omega
    have b7:(0:Int)<(n:Int):=by omega
    clear o E HZ A hm f;go_wp2_with (go_at_call 282;refine T.out.mono ?_)
    rintro e w' ⟨rfl,d9⟩;subst d9;clear T dw zw;go_wp2_with fail
    exact Ae2 (by simp[results,results228,go_sem,ke]) rfl B.out
  ·have HS:Hid (Jh m es N=mkS (wt (m+2)) (D5 m es k)):=by
    show _=_;by_cases h0:0<n
    ·have:k=N:=by omega
     rw[<- this];exact lZ HH.out
    ·have h1:es=[]:=List.length_eq_zero_iff.1 (by have:=HL.out;omega);have h2:H8 m es N=false:=by
      unfold H8;rw[h1,M4 m N];exact Uc m []
     rw[lZ h2,h1,M4 m N,M4 m k]
   have F:=Su HH.out;obtain⟨L,S⟩:∃L,(D5 m es k).length=L:=⟨_,rfl⟩;have a6:Hid ((D5 m es k).length=L):=S;rw[S] at F;obtain⟨a9,c9,a4,t,g⟩:=f.out.row (by rw[S];omega) (fun k hk=>⟨HP.out k (by omega),by omega⟩);subst a4;rw[S] at g t |-;have LW:Hid _:=f.out.low;have R:Hid (Calls prog 220 #[.slice a9 L c9] wr fun e w''=>∃v,e=.returned (.agg #[v])/\Aj (fun k=>P k/\k≠w.heap.size) w'' (m+3) (Jh m es N) v/\Ac wr w''):=by
    rw[HS.out];exact Dh (m+2) _ wr a9 L c9 _ g (fun k hk=>⟨HP.out k (by have:=LW.out.size;omega),by have:=Aa s.out;omega⟩) Zy (by rw[a6.out];omega)
   clear g t f o HS a6 S HH E;by_cases b5:(k:Int)<(N:Int)
   ·have b7:¬(0:Int)<(n:Int):=by omega
    go_wp2_with fail
    refine R.out.mono ?_;rintro e w2 ⟨v,rfl,G,z⟩;have c5:=Ae (G.rep _ _ _).one;have U:Hid _:=Ac1 z.below s.out;have A:=Xf (LW.out.trans (z.below.mono LW.out.size)) U.out G;have B:Hid (Bd P w (m+3) _ _ _):=A.1;have ke:=A.2;have r0:=Ab U.out 0;have s0:=Ad U.out 0;have zx:=Aa U.out;clear A z G R s LW;go_wp2_with fail
    exact Ae2 (by simp[results,results228,go_sem,ke]) rfl B.out
   ·go_wp2_with fail
    refine R.out.mono ?_;rintro e w2 ⟨v,rfl,G,z⟩;have c5:=Ae (G.rep _ _ _).one;have U:Hid _:=Ac1 z.below s.out;have A:=Xf (LW.out.trans (z.below.mono LW.out.size)) U.out G;have B:Hid (Bd P w (m+3) _ _ _):=A.1;have ke:=A.2;have r0:=Ab U.out 0;have s0:=Ad U.out 0;have zx:=Aa U.out;clear A z G R s LW;go_wp2_with fail
    exact Ae2 (by simp[results,results228,go_sem,ke]) rfl B.out
theorem Sw (m:Nat)(P:Nat->Prop)(w:World)(d p off cap:Nat)(q:Nat)(y:AV q)(v:Value)(hp:p<w.heap.size)(hc:w.cell? ⟨p,off,none⟩=some v)(hv:Aj P w q y v)(hi:∀i,Au q y=some i->i<0) :
  Calls prog 228 #[.pointer (some ⟨d,0,none⟩),.slice (some ⟨p,off,none⟩) 1 cap] w (Bd P w (m+1) (Ar:Ag (AV m))):=by
 have c:=W7 (hv.rep _ _ _);have h:=Ae (hv.rep _ _ _).one;have e:Below w.heap.size w (w.alloc (.cells #[.nilIface] 23)):=((Ac.refl w).alloc _).below;have a:Hid (Bd P w (m+1) (Ar:Ag (AV m)) (.returned (.agg #[.nilIface])) (w.alloc (.cells #[.nilIface] 23))):=⟨_,rfl,e,Gk _ _ m⟩;clear e hv;have g:=follows;cases b:Au q y with
 | none =>
  rw[b] at c;simp only[Option.getD_none,Option.isSome_none] at c;clear hi b;go_enter func228,ntmps228
  go_wp2_with fail
  exact Ae2 (v:=.agg #[.nilIface]) (by simp[results,results228,go_sem]) rfl a.out
 | some i =>
  have f:=hi i b;rw[b] at c;simp only[Option.getD_some,Option.isSome_some] at c;clear hi b;go_enter func228,ntmps228
  go_wp2_with fail
  exact Ae2 (v:=.agg #[.nilIface]) (by simp[results,results228,go_sem]) rfl a.out
end Go.Proofs.YtdpeliifdlhhkaaGreatDoor.Sx
