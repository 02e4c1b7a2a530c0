/- The reference: a value is put among values. -/
import Derived.Test.YtdpeliifdlhhkaaGreatDoorM11
import Derived.Deep.AppendLies
namespace Go.Proofs.YtdpeliifdlhhkaaGreatDoor.Sx
open Go.RowKit Go.Sort Tryz
set_option maxRecDepth 100000
set_option maxHeartbeats 2000000
theorem Fr.grownBy {P:Nat->Prop}{a b c:World}{row:Option Nat}(h:Fr P a b)(g:b.grownBy c row)(hp:∀k,k<b.heap.size->row=some k->¬P k):Fr P a c :=
 h.trans ⟨g.os,g.tape,g.output,g.size,fun k hk hP=>g.block k hk (fun e=>hp k hk e.symm hP)⟩
theorem Zi:(prog.info? 30).map (fun i=>(i.zero,i.size,i.bytes))=some (some Bk,5,80):=by kernel_rfl
structure H5 where
 c0:Value
 c1:Value
 c2:Value
 c3:Value
 c4:Value
 o0:c0.oneCell'=true
 o1:c1.oneCell'=true
 o2:c2.oneCell'=true
 o3:c3.oneCell'=true
 o4:c4.oneCell'=true
def H5.v (h:H5):Value:=.agg #[h.c0,h.c1,h.c2,h.c3,h.c4]
def Ac2 (h:H5):List Value:=[h.c0,h.c1,h.c2,h.c3,h.c4]
def Bi (d:List H5):List Value:=d.flatMap Ac2
theorem lH {w:World}{base:Nat}{e:TypeId}{size:Nat}{a:Option Addr}{n c m:Nat}{xs:List Value}(h:w.ownsRow base e size (.slice a n c) m xs):n<=c:=by
 rcases h.2 with⟨b,_⟩|⟨g,d,f,b,_,_,i,_⟩
 ·simp at b;omega
 ·simp at b;obtain⟨_,rfl,rfl⟩:=b;exact i
theorem Lv:∀d:List H5,(Bi d).length=d.length*5
 | []=>rfl
 | h::d=>by
  show(Ac2 h++Bi d).length=_;rw[List.length_append,Lv d];simp[Ac2];omega
theorem dL:∀(d:List H5)(i:Nat)(h:H5),d[i]?=some h->(Bi d)[i*5]?=some h.c0/\(Bi d)[i*5+1]?=some h.c1/\(Bi d)[i*5+2]?=some h.c2/\(Bi d)[i*5+3]?=some h.c3/\(Bi d)[i*5+4]?=some h.c4
 | [],i,h,e=>by simp at e
 | g::d,0,h,e=>by
  simp at e;subst e;exact⟨rfl,rfl,rfl,rfl,rfl⟩
 | g::d,i+1,h,e=>by
  have ih:=dL d i h (by simpa using e);have key:∀j,(Bi (g::d))[(i+1)*5+j]?=(Bi d)[i*5+j]?:=by
   intro j;show(Ac2 g++Bi d)[(i+1)*5+j]?=_;rw[List.getElem?_append_right (by simp[Ac2];omega)]
   congr 1
   simp[Ac2];omega
  exact⟨(key 0).trans ih.1,(key 1).trans ih.2.1,(key 2).trans ih.2.2.1,(key 3).trans ih.2.2.2.1,(key 4).trans ih.2.2.2.2⟩
theorem O7 (d e:List H5):Bi (d++e)=Bi d++Bi e:=by simp[Bi]
theorem Zj:∀(d:List H5)(k:Nat)(x:H5),k<d.length->((((((Bi d).set (k*5) x.c0).set (k*5+1) x.c1).set (k*5+2) x.c2).set (k*5+3) x.c3).set (k*5+4) x.c4)=Bi (d.set k x)
 | [],k,x,h=>by simp at h
 | g::d,0,x,_=>rfl
 | g::d,k+1,x,h=>by
  have ih:=Zj d k x (by simpa using h);have key:∀(l:_)(j:Nat)(u:Value),(Ac2 g++l).set ((k+1)*5+j) u=Ac2 g++l.set (k*5+j) u:=by
   intro l j u;rw[List.set_append_right _ _ (by simp[Ac2];omega)]
   congr 2
   simp[Ac2];omega
  show((((((Ac2 g++Bi d).set ((k+1)*5+0) x.c0).set ((k+1)*5+1) x.c1).set ((k+1)*5+2) x.c2).set ((k+1)*5+3) x.c3).set ((k+1)*5+4) x.c4)=Ac2 g++Bi (d.set k x);rw[key,key,key,key,key,<- ih];rfl
structure Gh (w:World)(base g cap:Nat)(d:List H5):Prop where
 low:base<=g
 row:∃cur,w.heap[g]?=some (.cells cur 30 (0,0))/\d.length<=cap/\cap<=maxLen/\cur.size=cap*5/\cur.toList.take (d.length*5)=Bi d
theorem Gh.owns {w:World}{base g cap:Nat}{d:List H5}(h:Gh w base g cap d):w.ownsRow base 30 5 (.slice (some ⟨g,0,none⟩) d.length cap) d.length (Bi d):=by
 obtain⟨a,b,c,e,f,i⟩:=h.row;exact⟨Lv d,.inr ⟨g,cap,a,rfl,h.low,b,c,e,f,i⟩⟩
theorem Gh.of {w:World}{base g cap n:Nat}{d:List H5}(h:w.ownsRow base 30 5 (.slice (some ⟨g,0,none⟩) n cap) n (Bi d)):Gh w base g cap d/\n=d.length:=by
 have m:=h.1;rw[Lv] at m;have o:n=d.length:=by omega
 subst o;rcases h.2 with⟨b,_⟩|⟨p,c,a,b,e,f,i,j,k,l⟩
 ·cases b
 ·cases b
  exact⟨⟨e,a,f,i,j,k,l⟩,rfl⟩
theorem Gh.lt {w:World}{base g cap:Nat}{d:List H5}(h:Gh w base g cap d):g<w.heap.size:=by
 obtain⟨a,b,_⟩:=h.row;exact Aa b
theorem Gh.fr {w w':World}{base g cap:Nat}{d:List H5}(h:Gh w base g cap d)(hb:w'.heap[g]?=w.heap[g]?):Gh w' base g cap d:=by
 obtain⟨a,b,c⟩:=h.row;exact⟨h.low,a,hb.trans b,c⟩
theorem Gh.at {w:World}{base g cap:Nat}{d:List H5}(h:Gh w base g cap d){i:Nat}{e:H5}(he:d[i]?=some e) :
  (w.cell? ⟨g,i*5,none⟩=some e.c0/\w.cell? ⟨g,i*5+1,none⟩=some e.c1/\w.cell? ⟨g,i*5+2,none⟩=some e.c2/\w.cell? ⟨g,i*5+3,none⟩=some e.c3/\w.cell? ⟨g,i*5+4,none⟩=some e.c4)/\∀j,w.frozen? ⟨g,j,none⟩=false:=by
 obtain⟨c,b,p,q,r,o⟩:=h.row;have s:=(List.getElem?_eq_some_iff.1 he).1;have a:∀j,j<5->w.cell? ⟨g,i*5+j,none⟩=(Bi d)[i*5+j]?:=by
  intro j t;rw[Ab b,<- o,List.getElem?_take_of_lt (by omega)];simp
 obtain⟨f,k,l,m,n⟩:=dL d i e he;exact⟨⟨(a 0 (by omega)).trans f,(a 1 (by omega)).trans k,(a 2 (by omega)).trans l,(a 3 (by omega)).trans m,(a 4 (by omega)).trans n⟩,fun j=>Ad b j⟩
theorem Gh.set {w:World}{base g cap:Nat}{d:List H5}(h:Gh w base g cap d){k:Nat}(hk:k<d.length)(x:H5):Gh (Ao w g (k*5) x.c0 x.c1 x.c2 x.c3 x.c4) base g cap (d.set k x):=by
 obtain⟨a,b,c,e,f,i⟩:=h.row;refine⟨h.low,_,Ai (Ai (Ai (Ai (Ai b (k*5) x.c0) _ x.c1) _ x.c2) _ x.c3) _ x.c4,by simpa using c,e,by simpa using f,?_⟩;rw[List.length_set,<- Zj d k x hk,<- i];simp[List.take_set]
theorem iI (d:List H5)(q:Nat)(hq:q<d.length)(y:H5):(d.take (q+1)++y::d.drop (q+1)).set (q+1) d[q]=d.take q++d[q]::d.drop q:=by
 have a:(d.take (q+1)).length=q+1:=by rw[List.length_take];omega
 have b:d.take (q+1)=d.take q++[d[q]]:=by rw[List.take_add_one,List.getElem?_eq_getElem hq];rfl
 have c:=List.drop_eq_getElem_cons hq;rw[List.set_append_right _ _ (by omega),a,Nat.sub_self,List.set_cons_zero,b,c,List.append_assoc];rfl
theorem rP (d:List H5)(q:Nat)(hq:q<d.length)(y:H5):(d.take (q+1)++y::d.drop (q+1))[q]?=some d[q]:=by
 rw[List.getElem?_append_left (by rw[List.length_take];omega),List.getElem?_take_of_lt (by omega),List.getElem?_eq_getElem hq]
theorem Ur (w:World)(base:Nat)(sl:Value)(d:List H5)(x:H5)(i:Nat)(hi:i<=d.length)(hown:w.ownsRow base 30 5 sl d.length (Bi d))(hb:base<=w.heap.size)(hl:d.length<=1048576) :
  Calls prog 84 #[sl,.int .i64 i,x.v] w fun e w'=>∃g cap,e=.returned (.slice (some ⟨g,0,none⟩) (d.length+1) cap)/\Gh w' base g cap (d.take i++x::d.drop i)/\Fr (fun k=>k<w.heap.size/\sl.ownBlock≠some k) w w'/\(sl.ownBlock=some g\/w.heap.size<=g):=by
 obtain⟨i0,I,M,O,Q⟩:=info_parts Zi;obtain⟨f,j,l,m,n,p0,p1,p2,p3,p4⟩:=x;obtain⟨X,Y⟩:∃X:H5,X=⟨f,j,l,m,n,p0,p1,p2,p3,p4⟩:=⟨_,rfl⟩;obtain⟨Z,hZ⟩:∃Z:H5,Z=⟨.int .i64 0,.int .i64 0,.string ⟨#[]⟩,.slice none 0 0,.slice none 0 0,rfl,rfl,rfl,rfl,rfl⟩:=⟨_,rfl⟩;show Calls prog 84 #[sl,.int .i64 i,.agg #[f,j,l,m,n]] w _;rw[<- Y];have HX:Hid _:=Y;have HO:Hid (((w.alloc (.cells #[f,j,l,m,n] 30)).alloc (.cells #[.int .i64 0,.int .i64 0,.string ⟨#[]⟩,.slice none 0 0,.slice none 0 0] 30)).ownsRow base 30 5 sl _ _):=(hown.alloc _).alloc _;have R:Ac2 Z=[.int .i64 0,.int .i64 0,.string ⟨#[]⟩,.slice none 0 0,.slice none 0 0]:=by rw[hZ];rfl
 have HZ:Hid (_=_):=R;clear Y hZ R;have V:Hid (∀g,sl.ownBlock=some g->base<=g/\g<w.heap.size):=by
  intro g r;rcases hown.2 with⟨rfl,_⟩|⟨g',cap,a6,rfl,h1,h2,_⟩
  ·simp[Value.ownBlock] at r
  ·simp[Value.ownBlock] at r;subst r;exact⟨h1,Aa h2⟩
 clear hown;go_enter func84,ntmps84
 go_wp2_with (at_builtin;refine wpList_append_lies _ rfl _ _ 28 rfl base 30 i0 Bk 5 80 underlying28 I M O Q rfl (by decide) sl _ _ rfl HO.out _ 1 1 [.int .i64 0,.int .i64 0,.string ⟨#[]⟩,.slice none 0 0,.slice none 0 0] rfl rfl ?q1 ?q2 (by decide) ?q3 ?q4 ?q5 (w.heap.size+2) ?q6 ?_)
 case q1 =>
  have hx:((w.alloc (.cells #[f,j,l,m,n] 30)).alloc (.cells #[.int .i64 0,.int .i64 0,.string ⟨#[]⟩,.slice none 0 0,.slice none 0 0] 30)).heap[w.heap.size+1]?=_:=Af (by simp);exact World.news_of_block hx
 case q2 =>
  intro q A;simp only[List.mem_cons,List.not_mem_nil,or_false] at A;rcases A with rfl|rfl|rfl|rfl|rfl<;>rfl
 case q3=>unfold maxLen;omega
 case q4=>omega
 case q5=>simp;omega
 case q6=>simp
 intro g cap w4 U r p J;have G:g≠w.heap.size:=by
  rcases p with q|q
  ·have:=(V.out g q).2;omega
  ·omega
 have XB:Hid (w4.heap[w.heap.size]?=some (.cells #[f,j,l,m,n] 30 (0,0))):=by
  refine(r.block w.heap.size (by simp;omega) (fun e=>?_)).trans (Ac1 ((Ac.refl _).alloc _).below (Af rfl));have:=(V.out _ e.symm).2;omega
 have B:Hid (_=some g\/w.heap.size<=g):=p.imp id (fun e=>by omega);have FB:Hid (Fr (fun k=>k<w.heap.size/\sl.ownBlock≠some k) w w4):=by
  have f1:Fr (fun k=>k<w.heap.size/\sl.ownBlock≠some k) w ((w.alloc (.cells #[f,j,l,m,n] 30)).alloc (.cells #[.int .i64 0,.int .i64 0,.string ⟨#[]⟩,.slice none 0 0,.slice none 0 0] 30)):=Fr.grew (((Ac.refl w).alloc _).alloc _);exact f1.grownBy r (fun k _ e hp=>hp.2 e)
 have NG:Hid (¬(g<w.heap.size/\sl.ownBlock≠some g)):=by
  rintro⟨q1,q2⟩;rcases B.out with q|q
  ·exact q2 q
  ·omega
 have T:Hid (Gh w4 base g cap (d++[Z])):=by
  rw[<- HZ.out] at U;have e:Bi d++Ac2 Z=Bi (d++[Z]):=by rw[O7];simp[Bi]
  rw[e] at U;exact(Gh.of U).1
 clear U r p J V HO I M O Q;have a7:=T.out.low;have mo:=follows;obtain⟨N,W⟩:∃N,d.length=N:=⟨_,rfl⟩;have z:Hid (d.length=N):=W;rw[W] at hi hl |-;clear W;go_wp2_with fail
 have L:d++[Z]=d.take N++Z::d.drop N:=by rw[<- z.out];simp
 rw[L] at T;clear L;go_loopw [7] (fun s wr=>∃(k:Nat)(y:H5),s=.int .i64 k/\i<=k/\k<=N/\Hid (Gh wr base g cap (d.take k++y::d.drop k))/\Hid (wr.heap[w.heap.size]?=some (.cells #[f,j,l,m,n] 30 (0,0)))/\Hid (Fr (fun k=>k<w.heap.size/\sl.ownBlock≠some k) w wr)) (fun s _=>(intOf s).toNat)
 case atStart=>exact⟨N,Z,rfl,hi,Ad9 _,T,XB,FB⟩
 case round =>
  clear T XB FB;obtain⟨k,y,rfl,a8,a9,o,b,S⟩:=hrel;by_cases J:i<k
  ·obtain⟨q,rfl⟩:∃q,k=q+1:=⟨k-1,by omega⟩;have A:q<d.length:=by rw[z.out];omega
   have a5:=List.getElem?_eq_getElem A;have c:(d.take (q+1)++y::d.drop (q+1)).length=N+1:=by simp;have:=z.out;omega
   have E:=rP d q A y;have F:=iI d q A y;have D:Hid (Gh (Ao wr g ((q+1)*5) d[q].c0 d[q].c1 d[q].c2 d[q].c3 d[q].c4) base g cap (d.take q++d[q]::d.drop q)):=by
    rw[<- F];exact o.out.set (by omega) d[q]
   have SX:Hid ((Ao wr g ((q+1)*5) d[q].c0 d[q].c1 d[q].c2 d[q].c3 d[q].c4).heap[w.heap.size]?=_) :=
    ((Cz (P:=fun k=>k≠g) (Fr.refl _ wr) (by simp) _ _ _ _ _ _).block w.heap.size (Aa b.out) (Ne.symm G)).trans b.out
   have C:Hid (Fr _ w (Ao wr g ((q+1)*5) d[q].c0 d[q].c1 d[q].c2 d[q].c3 d[q].c4)):=Cz S.out NG.out _ _ _ _ _ _;obtain⟨⟨a0,a1,a2,a3,a4⟩,a⟩:=o.out.at E;obtain⟨h',H⟩:∃h',(d.take (q+1)++y::d.drop (q+1))[q+1]?=some h':=⟨_,List.getElem?_eq_getElem (by omega)⟩;obtain⟨⟨b0,b1,b2,b3,b4⟩,_⟩:=o.out.at H;have gl:=o.out.lt;obtain⟨z0,z1,z2,z3,z4⟩:=(⟨a ((q+1)*5),a ((q+1)*5+1),a ((q+1)*5+2),a ((q+1)*5+3),a ((q+1)*5+4)⟩:_/\_/\_/\_/\_);generalize d[q]=u at *;have s0:=Ae u.o0;have s1:=Ae u.o1;have s2:=Ae u.o2;have s3:=Ae u.o3;have s4:=Ae u.o4;obtain⟨K,hK⟩:∃K,K=q+1:=⟨_,rfl⟩;rw[<- hK] at b0 b1 b2 b3 b4 z0 z1 z2 z3 z4 D SX C;rw[show((q+1:Nat):Int)=(q:Int)+1 from by omega];have ea:((q:Int)+1).toNat=K:=by omega
   have pa:(0:Int)<=(q:Int)+1:=by omega
   have ba:(q:Int)+1<(N:Int)+1:=by omega
   have ra:IntKind.i64.wrap ((q:Int)+1)=(q:Int)+1:=by rw[IntKind.wrap_i64];omega
   clear H E F c a5 a o b S hK;go_wp2_with fail
   go_roundw
   case rel=>exact⟨q,u,rfl,by omega,by omega,D,SX,C⟩
   case measure=>simp[intOf]
  ·obtain rfl:k=i:=by omega
   have c:(d.take k++y::d.drop k).length=N+1:=by
    rw[List.length_append,List.length_cons,List.length_take,List.length_drop];have:=z.out;omega
   have t:(d.take k).length=k:=by rw[List.length_take];have:=z.out;omega
   have F:(d.take k++y::d.drop k).set k X=d.take k++X::d.drop k:=by
    rw[List.set_append_right _ _ (by omega),t,Nat.sub_self,List.set_cons_zero]
   have E:(d.take k++y::d.drop k)[k]?=some y:=by
    rw[List.getElem?_append_right (by omega),t,Nat.sub_self];rfl
   have D:Hid (Gh (Ao wr g (k*5) f j l m n) base g cap (d.take k++X::d.drop k)):=by
    have h:=o.out.set (k:=k) (by omega) X;rw[F] at h;have:=HX.out;subst this;exact h
   have C:Hid (Fr _ w (Ao wr g (k*5) f j l m n)):=Cz S.out NG.out _ _ _ _ _ _;obtain⟨⟨b0,b1,b2,b3,b4⟩,a⟩:=o.out.at E;obtain⟨z0,z1,z2,z3,z4⟩:=(⟨a (k*5),a (k*5+1),a (k*5+2),a (k*5+3),a (k*5+4)⟩:_/\_/\_/\_/\_);have gl:=o.out.lt;obtain⟨a0,a1,a2,a3,a4⟩:=Ah b.out;have s0:=Ae p0;have s1:=Ae p1;have s2:=Ae p2;have s3:=Ae p3;have s4:=Ae p4;clear E F c t a o b S HX;go_wp2_with fail
   change bodyPost _ _ _ _ _ (Ao wr g (k*5) f j l m n);generalize Ao wr g (k*5) f j l m n=WZ at D C |-;go_ret
   exact⟨g,cap,by rw[z.out];rfl,D.out,C.out,B.out⟩
theorem Cp {w:World}{base n:Nat}{sl:Value}{vs:List Value}(h:w.ownsRow base 30 5 sl n vs){g:Nat}(hg:sl.ownBlock=some g):base<=g/\g<w.heap.size:=by
 rcases h.2 with⟨rfl,_⟩|⟨e,a,b,rfl,c,d,_⟩
 ·simp[Value.ownBlock] at hg
 ·simp[Value.ownBlock] at hg;subst hg;exact⟨c,Aa d⟩
theorem vR (w:World)(base:Nat)(sl:Value)(d:List H5)(x:H5)(i:Nat)(hi:i<=d.length)(hown:w.ownsRow base 30 5 sl d.length (Bi d))(hb:base<=w.heap.size)(hl:d.length<=1048576) :
  Calls prog 84 #[sl,.int .i64 i,x.v] w fun e w'=>∃g cap,e=.returned (.slice (some ⟨g,0,none⟩) (d.length+1) cap)/\Gh w' base g cap (d.take i++x::d.drop i)/\Fr (fun k=>k<base) w w':=by
 refine(Ur w base sl d x i hi hown hb hl).mono ?_;rintro e w' ⟨g,cap,rfl,a,b,_⟩;exact⟨g,cap,rfl,a,b.mono (fun k hk=>⟨by omega,fun q=>by have:=(Cp hown q).1;omega⟩)⟩
end Go.Proofs.YtdpeliifdlhhkaaGreatDoor.Sx
