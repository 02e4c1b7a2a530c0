/- The reference: what begins with a word: fixed words. -/
import Derived.Test.YtjbfcadeapphbaaGreatDoorF20
namespace Go.Proofs.YtjbfcadeapphbaaGreatDoor.Sx
set_option maxRecDepth 100000
set_option maxHeartbeats 2000000
open Go.RowKit Go.Sort
theorem Jb {K:Nat->Tk}{N:Nat}(hN:N<=1000000)(w:World)(br bl i d:Nat)(hd:d<=24)(hi:i<N)(h:RSd K N w br bl (.ok i) d) :
  Calls Tryz.prog 44 #[.pointer (some ⟨br,0,none⟩)] w fun e w'=>e=.returned (.tuple #[])/\RSd K N w' br bl (inS K i d) (d+1)/\Fr (·≠br) w w':=by
 obtain⟨c,h,e⟩:=h;obtain rfl:=e ⟨i,rfl⟩;refine(kC hN w br bl i d hd hi h).mono ?_;rintro f w' ⟨rfl,a,b⟩;exact⟨rfl,⟨_,a,fun _=>rfl⟩,b⟩
theorem Gf {K:Nat->Tk}{N:Nat}(w:World)(br bl:Nat)(s:SX)(d:Nat)(hd:d<=24)(h:RSd K N w br bl s (d+1)) :
  Calls Tryz.prog 45 #[.pointer (some ⟨br,0,none⟩)] w fun e w'=>e=.returned (.tuple #[])/\RSd K N w' br bl s d/\Fr (·≠br) w w':=by
 obtain⟨a,h,e⟩:=h;refine(gZ w br bl s a h).mono ?_;rintro f w' ⟨rfl,b,c⟩;exact⟨rfl,⟨_,b,fun o=>by rw[e o];unfold wrap64;omega⟩,c⟩
theorem Av.new (w:World)(op tx nm:ByteArray)(a k n:Int):Av (w.alloc (.cells #[.string op,.int .i64 a,.string nm,.int .i64 k,.int .i64 n,.string tx,.slice none 0 0,.slice none 0 0,.slice none 0 0,.int .i64 0,.int .i64 0] 95)) w.heap.size op a nm k n tx none 0 0:=Af rfl
theorem RSd.open {K:Nat->Tk}{N br bl i d:Nat}{w:World}(h:RSd K N w br bl (.ok i) d):∃(cap:Nat)(bad dd:Int),G8 w br bl N cap i dd 0 bad/\i<=N/\bl≠br/\bl<w.heap.size/\w.cell? ⟨bl,i*3,none⟩=some (.int .u8 (Bn (K i).cl:Int))/\w.cell? ⟨bl,i*3+1,none⟩=some (.string (Cf (K i)))/\w.cell? ⟨bl,i*3+2,none⟩=some (.int .i64 ((K i).at':Int)):=by
 obtain⟨dd,h,-⟩:=h;obtain⟨cap,I,bad,e,c,b,a,g,j,k,f⟩:=h.open;obtain rfl:=f i rfl;exact⟨cap,bad,dd,e,c,b,a,g,j,k⟩
theorem J5 {K:Nat->Tk}{N:Nat}(hK:∀i,Bs (K i))(w:World)(br bl:Nat)(s:SX)(d:Nat)(m:ByteArray)(hm:m.data.toList∈Dp)(h:RSd K N w br bl s d)(q:Bool)(hq:isS K s m.data.toList=q) :
  Calls Tryz.prog 73 #[.pointer (some ⟨br,0,none⟩),.string m] w fun e w'=>e=.returned (.bool q)/\Ad w w':=by
 obtain⟨a,h,-⟩:=h;rw[<- hq];exact Nw hK w br bl s a m hm h
theorem C2 {K:Nat->Tk}{N:Nat}(hK:∀i,Bs (K i))(w:World)(br bl:Nat)(s:SX)(d:Nat)(vs:Array Value)(ms:List ByteArray)(n:Nat)(q:Bool)(hvs:vs=(ms.map Value.string).toArray)(hms:∀m∈ms,m.data.toList∈Dp)(hn:n=ms.length)(hn9:n<=1000)(hq:(ms.any fun m=>isS K s m.data.toList)=q)(h:RSd K N w br bl s d) :
  Calls Tryz.prog 43 #[.pointer (some ⟨br,0,none⟩),.slice (some ⟨w.heap.size,0,none⟩) n n] (w.alloc (.cells vs 9)) fun e w'=>e=.returned (.bool q)/\Ad w w':=by
 obtain⟨a,h,-⟩:=h;exact aB hK w br bl s a vs ms n q hvs hms hn hn9 hq h
def Ot:List ByteArray:=[⟨#[97,108,108]⟩,⟨#[115,111,109,101]⟩,⟨#[99,104,111,111,115,101]⟩,⟨#[102,117,110]⟩]
theorem Hb {K:Nat->Tk}{γ:Type}{i d:Nat}{k:Nat->RX γ}{r:Except (Nat×Nat) (γ×Nat)}(h:Dh K d i k=some r):Az (inS K i d) k=some r:=by
 unfold Dh at h;unfold inS;split at h
 ·rename_i e
  rw[if_pos e];simpa [Dg,Az] using h
 ·rename_i e
  rw[if_neg e];exact h
theorem Hv {K:Nat->Tk}{i d:Nat}(hd:d<=24)(h:OkS (inS K i d)):d+1<=24:=by
 unfold inS at h;split at h
 ·obtain⟨j,a⟩:=h;simp at a
 ·omega
theorem Ck {K:Nat->Tk}(hK:∀i,Bs (K i)){i:Nat}{m:List UInt8}(hm:m∈Dp)(h:(K i).tx=m):(Cf (K i)).data.toList=m:=by
 have:=I9 (hK i) hm h;rw[Ga _ (by omega),h]
theorem C0.from {K:Nat->Tk}{N:Nat}{w w1:World}{br bl d:Nat}{r:Except (Nat×Nat) (PX×Nat)}{e:Ending}{w':World}(F:Fr (·≠br) w w1)(h:C0 K N w1 br bl d r e w'):C0 K N w br bl d r e w':=by
 obtain⟨a,c,b,f,g⟩:=h;have:=F.size;exact⟨F.trans a,c,b,f,fun x j q=>(g x j q).fr (Fr.refl _ _) fun _ _ q=>by omega⟩
theorem Fr.freshT {br be:Nat}{w w2 w3:World}(F:Fr (·≠br) w w2)(hf:Fr (fun k=>k≠br/\k≠be) w2 w3)(h:w.heap.size<=be):Fr (·≠br) w w3 :=
 ⟨hf.os.trans F.os,hf.tape.trans F.tape,hf.output.trans F.output,Nat.le_trans F.size hf.size,fun k hk hq=>(hf.block k (Nat.lt_of_lt_of_le hk F.size) ⟨hq,by omega⟩).trans (F.block k hk hq)⟩
theorem eC (l:List UInt8):Es.contains l=false/\(l==wIf)=false/\(l==Jg)=false/\(Ot.any fun m=>l==m.data.toList)=false\/l=wIf\/l=Jg\/l∈Qs\/l=Ki:=by
 cases h:Es.contains l with
 | false =>
  refine .inl ⟨rfl,?_⟩;simp only[Es,List.contains_eq_mem,List.mem_cons,List.not_mem_nil,or_false,decide_eq_false_iff_not,not_or] at h;obtain⟨a,b,c,d,e,f⟩:=h;refine⟨by simpa [wIf] using a,by simpa [Jg] using b,?_⟩;simp only[Ot,List.any_cons,List.any_nil,Bool.or_false];simp[c,d,e,f]
 | true =>
  simp only[Es,List.contains_eq_mem,List.mem_cons,List.not_mem_nil,or_false,decide_eq_true_eq] at h;rcases h with h|h|h|h|h|h
  ·exact .inr (.inl h)
  ·exact .inr (.inr (.inl h))
  ·exact .inr (.inr (.inr (.inl (by rw[h];decide))))
  ·exact .inr (.inr (.inr (.inl (by rw[h];decide))))
  ·exact .inr (.inr (.inr (.inl (by rw[h];decide))))
  ·exact .inr (.inr (.inr (.inr h)))
theorem aD {K:Nat->Tk}{self:Nat->Nat->Nat->RX PX}{d i:Nat}{r:Except (Nat×Nat) (PX×Nat)}(e:(K i).tx=wIf)(h:Dv K self d i=some r):Az (inS K i d) (I6 K self (d+1))=some r:=by
 have:=Hb h;simpa [e,wIf] using this
theorem Xf {K:Nat->Tk}{self:Nat->Nat->Nat->RX PX}{d i:Nat}{r:Except (Nat×Nat) (PX×Nat)}(e:(K i).tx=Jg)(h:Dv K self d i=some r):Az (inS K i d) (hJ K self [61] 0 (d+1) Kh)=some r:=by
 have:=Hb h;simp[e,wIf,Jg] at this;exact this
theorem Na {K:Nat->Tk}{self:Nat->Nat->Nat->RX PX}{d i:Nat}{r:Except (Nat×Nat) (PX×Nat)}(e1:((K i).tx==wIf)=false)(e2:((K i).tx==Jg)=false)(h:Dv K self d i=some r):Az (inS K i d) (hJ K self [105,110] 8 (d+1) (C7 (K i).tx))=some r:=by
 have:=Hb h;simp only[e1,e2,Bool.false_eq_true,if_false] at this;exact this
theorem eD {K:Nat->Tk}{N br bl:Nat}{self:Nat->Nat->Nat->RX PX}(hS:Ch K N br bl self)(hK:∀i,Bs (K i))(hL:Bi K N)(hN:N<=1000000)(w:World)(d m i:Nat)(hd:d<=24)(h:RSd K N w br bl (.ok i) d)
  (r:Except (Nat×Nat) (PX×Nat)) (hr:Hh K self m 0 d i=some r)
  (hP1:∀W,RSd K N W br bl (.ok i) d->Ij K self m d 11 i=some r->Calls Tryz.prog 18 #[.pointer (some ⟨br,0,none⟩),.int .i64 1] W (C0 K N W br bl d r)) :
  Calls Tryz.prog 42 #[.pointer (some ⟨br,0,none⟩)] w (C0 K N w br bl d r):=by
 have HS:Hid (Ch K N br bl self):=hS;have HK:Hid (∀i,Bs (K i)):=hK;have HL:Hid (Bi K N):=hL;have HR:Hid (RSd K N w br bl (.ok i) d):=h;have a1:Hid (∀W,RSd K N W br bl (.ok i) d->_):=hP1;obtain⟨e9,e7,dd,hb,hI,f3,c9,t0,t1,t2⟩:=h.open;obtain⟨b4,u0,u1,u2⟩:=RS.cells hb c9 t0 t1 t2;have c0:=Aa hb 0;have c1:=Aa hb 1;have k0:=Aa b4 0;have k1:=Aa b4 1;have d6:=Ac hb;have d5:(i:Int)<((N+1:Nat):Int):=by omega
 have mo:=follows;obtain⟨sb,d4⟩:∃sb,Bn (K i).cl=sb:=⟨_,rfl⟩;obtain⟨p,D⟩:∃p,Cf (K i)=p:=⟨_,rfl⟩;obtain⟨u,c6⟩:∃u,(K i).at'=u:=⟨_,rfl⟩;have a3:Hid (Cf (K i)=p):=D;rw[d4] at t0 u0;rw[D] at t1 u1;rw[c6] at t2 u2;clear hb b4 h hS hK hL hP1 d4 D c6;go_enter Tryz.func42,Tryz.ntmps42
 go_wp2_with fail
 go_big_region_o
 have T1:Hid (Ap _ w.heap.size sb p (u:Int)):=Ap.new w sb p (u:Int);have G1:Hid (Ad w (w.alloc (.cells #[.int .u8 (sb:Int),.string p,.int .i64 (u:Int)] 55)).drew):=((Ad.refl w).alloc _).drew;clear c0 c1 k0 k1 u0 u1 u2 t0 t1 t2 d5;generalize (w.alloc (.cells #[.int .u8 (sb:Int),.string p,.int .i64 (u:Int)] 55)).drew=W1 at G1 T1 |-;obtain⟨Y,d0⟩:∃Y,w.heap.size=Y:=⟨_,rfl⟩;rw[d0] at T1 d6 |-;have f6:w.heap.size<=Y:=by omega
 have f5:Y<=w.heap.size:=by omega
 clear d0;have q1:=Aa T1.out 1;have q2:=Aa T1.out 2;go_wp2_with fail
 have E2:Hid (Av (W1.alloc (.cells #[.string p,.int .i64 (u:Int),.string ⟨#[]⟩,.int .i64 0,.int .i64 0,.string ⟨#[]⟩,.slice none 0 0,.slice none 0 0,.slice none 0 0,.int .i64 0,.int .i64 0] 95)) W1.heap.size p (u:Int) ⟨#[]⟩ 0 0 ⟨#[]⟩ none 0 0):=Av.new W1 p ⟨#[]⟩ ⟨#[]⟩ (u:Int) 0 0;have G2:Hid (Ad w (W1.alloc (.cells #[.string p,.int .i64 (u:Int),.string ⟨#[]⟩,.int .i64 0,.int .i64 0,.string ⟨#[]⟩,.slice none 0 0,.slice none 0 0,.slice none 0 0,.int .i64 0,.int .i64 0] 95))):=G1.out.alloc _;have T2:Hid (Ap (W1.alloc (.cells #[.string p,.int .i64 (u:Int),.string ⟨#[]⟩,.int .i64 0,.int .i64 0,.string ⟨#[]⟩,.slice none 0 0,.slice none 0 0,.slice none 0 0,.int .i64 0,.int .i64 0] 95)) Y sb p (u:Int)):=T1.out.grew ((Ad.refl _).alloc _);have d1:Y<W1.heap.size:=Ac T1.out;have d7:w.heap.size<=W1.heap.size:=G1.out.below.size;clear q1 q2 T1 G1;generalize (W1.alloc (.cells #[.string p,.int .i64 (u:Int),.string ⟨#[]⟩,.int .i64 0,.int .i64 0,.string ⟨#[]⟩,.slice none 0 0,.slice none 0 0,.slice none 0 0,.int .i64 0,.int .i64 0] 95))=W2 at E2 G2 T2 |-;obtain⟨g,c7⟩:∃g,W1.heap.size=g:=⟨_,rfl⟩;rw[c7] at E2 d1 d7 |-;clear c7;have l:g≠br:=by omega
 have e4:bl<w.heap.size:=c9;have R:g≠bl:=by omega
 have a0:Y≠br:=by omega
 have e0:g≠Y:=by omega
 obtain⟨b1,I⟩:∃b,isS K (.ok i) wIf=b:=⟨_,rfl⟩;obtain⟨b2,J⟩:∃b,isS K (.ok i) Jg=b:=⟨_,rfl⟩;obtain⟨b3,L⟩:∃b,(Ot.any fun m=>isS K (.ok i) m.data.toList)=b:=⟨_,rfl⟩;refine(J5 HK.out W2 br bl (.ok i) d ⟨#[105,102]⟩ (by decide) (HR.out.grew G2.out) b1 I).mono ?_;rintro e W3 ⟨rfl,g3⟩;have G3:Hid (Ad w W3):=G2.out.trans g3;have E3:Hid (Av W3 g p (u:Int) ⟨#[]⟩ 0 0 ⟨#[]⟩ none 0 0):=E2.out.of (P:=fun _=>True) (Fr.grew g3) trivial;have T3:Hid (Ap W3 Y sb p (u:Int)):=T2.out.grew g3;clear g3 E2 G2 T2;go_wp2_with fail
 refine(J5 HK.out W3 br bl (.ok i) d ⟨#[108,101,116]⟩ (by decide) (HR.out.grew G3.out) b2 J).mono ?_;rintro e W4 ⟨rfl,g4⟩;have G4:Hid (Ad w W4):=G3.out.trans g4;have E4:Hid (Av W4 g p (u:Int) ⟨#[]⟩ 0 0 ⟨#[]⟩ none 0 0):=E3.out.of (P:=fun _=>True) (Fr.grew g4) trivial;have T4:Hid (Ap W4 Y sb p (u:Int)):=T3.out.grew g4;clear g4 E3 G3 T3;go_wp2_with fail
 refine(C2 HK.out W4 br bl (.ok i) d _ Ot 4 b3 rfl (by decide) rfl (by decide) L (HR.out.grew G4.out)).mono ?_;rintro e W5 ⟨rfl,g5⟩;have G5:Hid (Ad w W5):=G4.out.trans g5;have E5:Hid (Av W5 g p (u:Int) ⟨#[]⟩ 0 0 ⟨#[]⟩ none 0 0):=E4.out.of (P:=fun _=>True) (Fr.grew g5) trivial;have T5:Hid (Ap W5 Y sb p (u:Int)):=T4.out.grew g5;have R5:Hid (RSd K N W5 br bl (.ok i) d):=HR.out.grew G5.out;clear g5 E4 G4 T4 HR;rcases eC (K i).tx with⟨h0,h1,h2,h3⟩|A|A|A|A
 ·obtain rfl:false=b1:=by rw[<- I];exact h1.symm
  obtain rfl:false=b2:=by rw[<- J];exact h2.symm
  obtain rfl:false=b3:=by rw[<- L];exact h3.symm
  have HC:Hid (Calls _ _ _ _ _):=a1.out W5 R5.out (by have:=hr;unfold Hh at this;rw[if_pos rfl,if_neg (by rw[h0];simp)] at this;exact this);clear h0 h1 h2 h3 I J L hr a1;go_wp2_with fail
  refine HC.out.mono ?_;rintro e s hp;obtain⟨hf,d3,b,rfl,ht⟩:=hp;have HH:Hid (C0 K N w br bl d r (.returned (.pointer (some ⟨b,0,none⟩))) s):=C0.from (Fr.grew G5.out) ⟨hf,d3,b,rfl,ht⟩;clear hf d3 ht HC;go_wp2_with fail
  go_ret
  exact HH.out
 ·have Z:i<N:=HL.out.lt hI (m:=wIf) (by rw[A];rfl) (by decide);have G:Hid (Dv K self d i=some r):=by have:=hr;unfold Hh at this;rw[if_pos rfl,if_pos (by rw[A];rfl)] at this;exact this
  obtain rfl:true=b1:=by rw[<- I];show _=((K i).tx==wIf);rw[A];rfl
  obtain rfl:false=b2:=by rw[<- J];show _=((K i).tx==Jg);rw[A];rfl
  obtain rfl:false=b3:=by rw[<- L];show _=(Ot.any fun m=>(K i).tx==m.data.toList);rw[A];rfl
  have D:p.data.toList=wIf:=by rw[<- a3.out];exact Ck HK.out (by decide) A
  have H:Hid (Calls _ _ _ _ _):=Jb hN W5 br bl i d hd Z R5.out;clear I J L hr a1 R5;go_wp2_with fail
  refine H.out.mono ?_;rintro e s ⟨rfl,E,t⟩;have R6:Hid (RSd K N s br bl (inS K i d) (d+1)):=E;have U:Hid (Fr (·≠br) w s):=(Fr.grew G5.out).trans t;have S:Hid (Av s g p (u:Int) ⟨#[]⟩ 0 0 ⟨#[]⟩ none 0 0):=E5.out.of t l;have T6:Hid (Ap s Y sb p (u:Int)):=T5.out.fr t a0;have O:Hid (OkS (inS K i d)->d+1<=24):=Hv hd;clear E t E5 T5 H G5;obtain⟨r1,h1,hc⟩:=A3 noX (aD A G.out);have hc:=Dk hc;obtain⟨r2,h2,hc⟩:=A3 noX hc;have hc:=Dk hc;obtain⟨r3,h3,hc⟩:=A3 noX hc;have HQ:Hid (stX r=stX r3/\∀y j,r=.ok (y,j)->y=dIf (Ao noX r1) (Ao noX r2) (Ao noX r3)):=Cz hc;have O1:Hid (OkS (stX r1)->OkS (inS K i d)):=fun o=>Dw h1 o;have O2:Hid (OkS (stX r2)->OkS (stX r1)):=fun o=>Cy (Dw h2 o);have O3:Hid (OkS (stX r3)->OkS (stX r2)):=fun o=>Cy (Dw h3 o);have H1:Hid (Az (inS K i d) (self 0 (d+1))=some r1):=h1;have H2:Hid (Az (Bk K (stX r1) [116,104,101,110]) (self 0 (d+1))=some r2):=h2;have H3:Hid (Az (Bk K (stX r2) [101,108,115,101]) (self 0 (d+1))=some r3):=h3;clear h1 h2 h3 hc G A;go_wp2_with fail
  refine(HS.out s 0 (d+1) _ r1 (by omega) O.out R6.out H1.out).mono ?_;rintro e W7 ⟨c,f,ba,rfl,v⟩;have R7:Hid (RSd K N W7 br bl (stX r1) (d+1)):=f;have F7:Hid (Fr (·≠br) w W7):=U.out.trans c;have E7:Hid (Av W7 g p (u:Int) ⟨#[]⟩ 0 0 ⟨#[]⟩ none 0 0):=S.out.of c l;have A7:Hid (∀x j,r1=.ok (x,j)->Aj (fun k=>s.heap.size<=k) W7 x (.pointer (some ⟨ba,0,none⟩))):=v;have b6:=U.out.size;have f1:g<s.heap.size:=Ac S.out;have E:=R6.out.lt;clear c f v R6 U S T6;go_wp2_with fail
  refine(Cu HK.out HL.out W7 br bl _ (d+1) ⟨#[116,104,101,110]⟩ (by decide) hN R7.out).mono ?_;rintro e F ⟨rfl,f,c⟩;have R8:Hid (RSd K N F br bl (Bk K (stX r1) [116,104,101,110]) (d+1)):=f;have F8:Hid (Fr (·≠br) w F):=F7.out.trans c;have E8:Hid (Av F g p (u:Int) ⟨#[]⟩ 0 0 ⟨#[]⟩ none 0 0):=E7.out.of c l;have A8:Hid (∀x j,r1=.ok (x,j)->Aj (fun k=>s.heap.size<=k) F x (.pointer (some ⟨ba,0,none⟩))):=fun x j e=>(A7.out x j e).fr (c.mono fun k q=>by omega) fun _ _ q=>q;clear c f R7 F7 E7 A7;go_wp2_with fail
  refine(HS.out F 0 (d+1) _ r2 (by omega) (fun o=>O.out (O1.out (Cy o))) R8.out H2.out).mono ?_;rintro e W9 ⟨c,f,bb,rfl,v⟩;have R9:Hid (RSd K N W9 br bl (stX r2) (d+1)):=f;have F9:Hid (Fr (·≠br) w W9):=F8.out.trans c;have E9:Hid (Av W9 g p (u:Int) ⟨#[]⟩ 0 0 ⟨#[]⟩ none 0 0):=E8.out.of c l;have A9:Hid (∀x j,r1=.ok (x,j)->Aj (fun k=>s.heap.size<=k) W9 x (.pointer (some ⟨ba,0,none⟩))):=fun x j e=>(A8.out x j e).fr (c.mono fun k q=>by omega) fun _ _ q=>q;have B9:Hid (∀x j,r2=.ok (x,j)->Aj (fun k=>F.heap.size<=k) W9 x (.pointer (some ⟨bb,0,none⟩))):=v;have f7:=F8.out.size;have f2:g<F.heap.size:=Ac E8.out;have f4:=R8.out.lt;clear c f v R8 F8 E8 A8;go_wp2_with fail
  refine(Cu HK.out HL.out W9 br bl _ (d+1) ⟨#[101,108,115,101]⟩ (by decide) hN R9.out).mono ?_;rintro e Q ⟨rfl,f,c⟩;have c4:Hid (RSd K N Q br bl (Bk K (stX r2) [101,108,115,101]) (d+1)):=f;have a5:Hid (Fr (·≠br) w Q):=F9.out.trans c;have a4:Hid (Av Q g p (u:Int) ⟨#[]⟩ 0 0 ⟨#[]⟩ none 0 0):=E9.out.of c l;have b7:Hid (∀x j,r1=.ok (x,j)->Aj (fun k=>s.heap.size<=k) Q x (.pointer (some ⟨ba,0,none⟩))):=fun x j e=>(A9.out x j e).fr (c.mono fun k q=>by omega) fun _ _ q=>q;have b9:Hid (∀x j,r2=.ok (x,j)->Aj (fun k=>F.heap.size<=k) Q x (.pointer (some ⟨bb,0,none⟩))):=fun x j e=>(B9.out x j e).fr (c.mono fun k q=>by omega) fun _ _ q=>q;clear c f R9 F9 E9 A9 B9;go_wp2_with fail
  refine(HS.out Q 0 (d+1) _ r3 (by omega) (fun o=>O.out (O1.out (O2.out (Cy o)))) c4.out H3.out).mono ?_;rintro e B ⟨c,f,bc,rfl,v⟩;have c5:Hid (RSd K N B br bl (stX r3) (d+1)):=f;have a6:Hid (Fr (·≠br) w B):=a5.out.trans c;have a2:Hid (Av B g p (u:Int) ⟨#[]⟩ 0 0 ⟨#[]⟩ none 0 0):=a4.out.of c l;have b8:Hid (∀x j,r1=.ok (x,j)->Aj (fun k=>s.heap.size<=k) B x (.pointer (some ⟨ba,0,none⟩))):=fun x j e=>(b7.out x j e).fr (c.mono fun k q=>by omega) fun _ _ q=>q;have c2:Hid (∀x j,r2=.ok (x,j)->Aj (fun k=>F.heap.size<=k) B x (.pointer (some ⟨bb,0,none⟩))):=fun x j e=>(b9.out x j e).fr (c.mono fun k q=>by omega) fun _ _ q=>q;have c3:Hid (∀x j,r3=.ok (x,j)->Aj (fun k=>Q.heap.size<=k) B x (.pointer (some ⟨bc,0,none⟩))):=v;have e5:=a5.out.size;have d8:g<Q.heap.size:=Ac a4.out;have c8:=Aa a2.out 8;have f8:=Ab a2.out 8;have d9:g<B.heap.size:=Ac a2.out;have e6:=a6.out.size;clear c f v c4 a5 a4 b7 b9;have b0:Fr (·≠g) B ((B.setCell ⟨g,8,none⟩ (.slice (some ⟨B.heap.size,0,none⟩) 3 3)).alloc (.cells #[.pointer (some ⟨ba,0,none⟩),.pointer (some ⟨bb,0,none⟩),.pointer (some ⟨bc,0,none⟩)] 26)):=((Fr.refl _ B).set (by simp) _).alloc _;have a8:Hid (RSd K N _ br bl (stX r3) (d+1)):=c5.out.fr b0 (Ne.symm l) (Ne.symm R);have a7:Hid (Fr (·≠br) w _):=a6.out.freshT (b0.mono fun _ q=>q.2) (by omega);have a9:Hid (∀x j,r=.ok (x,j)->Aj (fun k=>w.heap.size<=k) ((B.setCell ⟨g,8,none⟩ (.slice (some ⟨B.heap.size,0,none⟩) 3 3)).alloc (.cells #[.pointer (some ⟨ba,0,none⟩),.pointer (some ⟨bb,0,none⟩),.pointer (some ⟨bc,0,none⟩)] 26)) x (.pointer (some ⟨g,0,none⟩))):=fun x j e=>by
   have o3:OkS (stX r3):=by rw[<- HQ.out.1];exact Dz e
   have o2:=O3.out o3;obtain⟨j1,e1⟩:=Ci noX (O2.out o2);obtain⟨j2,e2⟩:=Ci noX o2;obtain⟨j3,e3⟩:=Ci noX o3;rw[HQ.out.2 x j e];exact(lD (lo:=w.heap.size) a2.out (m:=3) (vs:=#[.pointer (some ⟨ba,0,none⟩),.pointer (some ⟨bb,0,none⟩),.pointer (some ⟨bc,0,none⟩)]) (kids:=[Ao noX r1,Ao noX r2,Ao noX r3]) rfl (by omega) (fun k z qz=>by
    match k with
    | 0=>simp at qz;subst qz;exact⟨_,rfl,(b8.out _ _ e1).fr (Fr.refl _ _) fun _ _ q=>by omega⟩
    | 1=>simp at qz;subst qz;exact⟨_,rfl,(c2.out _ _ e2).fr (Fr.refl _ _) fun _ _ q=>by omega⟩
    | 2=>simp at qz;subst qz;exact⟨_,rfl,(c3.out _ _ e3).fr (Fr.refl _ _) fun _ _ q=>by omega⟩
    | k+3=>simp at qz) (by omega) (by rw[D];exact .inr (.inr (.inr (.inr (.inr (.inr (.inr (.inr (.inr (.inr (.inl ⟨rfl,_,_,_,rfl,rfl⟩)))))))))))).fr (Fr.refl _ _) fun _ _ q=>by omega
  go_wp2_with fail
  clear c8 f8 b0 c5 a6 a2 b8 c2 c3;generalize (B.setCell ⟨g,8,none⟩ (.slice (some ⟨B.heap.size,0,none⟩) 3 3)).alloc (.cells #[.pointer (some ⟨ba,0,none⟩),.pointer (some ⟨bb,0,none⟩),.pointer (some ⟨bc,0,none⟩)] 26)=W12 at a8 a7 a9 |-;refine(Gf W12 br bl _ d hd a8.out).mono ?_;rintro e C ⟨rfl,f,c⟩;have V:Hid (RSd K N C br bl (stX r3) d):=f;have T:Hid (Fr (·≠br) w C):=a7.out.trans c;have X:Hid (∀x j,r=.ok (x,j)->Aj (fun k=>w.heap.size<=k) C x (.pointer (some ⟨g,0,none⟩))):=fun x j e=>(a9.out x j e).fr (c.mono fun k q=>by omega) fun _ _ q=>q;clear c f a8 a7 a9;go_wp2_with fail
  go_ret
  exact⟨T.out,by rw[HQ.out.1];exact V.out,g,rfl,X.out⟩
 ·have Z:i<N:=HL.out.lt hI (m:=Jg) (by rw[A];rfl) (by decide);have G:Hid (Dv K self d i=some r):=by have:=hr;unfold Hh at this;rw[if_pos rfl,if_pos (by rw[A];rfl)] at this;exact this
  obtain rfl:false=b1:=by rw[<- I];show _=((K i).tx==wIf);rw[A];rfl
  obtain rfl:true=b2:=by rw[<- J];show _=((K i).tx==Jg);rw[A];rfl
  obtain rfl:false=b3:=by rw[<- L];show _=(Ot.any fun m=>(K i).tx==m.data.toList);rw[A];rfl
  have D:p.data.toList=Jg:=by rw[<- a3.out];exact Ck HK.out (by decide) A
  have H:Hid (Calls _ _ _ _ _):=Jb hN W5 br bl i d hd Z R5.out;clear I J L hr a1 R5;go_wp2_with fail
  refine H.out.mono ?_;rintro e s ⟨rfl,E,t⟩;have R6:Hid (RSd K N s br bl (inS K i d) (d+1)):=E;have U:Hid (Fr (·≠br) w s):=(Fr.grew G5.out).trans t;have S:Hid (Av s g p (u:Int) ⟨#[]⟩ 0 0 ⟨#[]⟩ none 0 0):=E5.out.of t l;have T6:Hid (Ap s Y sb p (u:Int)):=T5.out.fr t a0;have O:Hid (OkS (inS K i d)->d+1<=24):=Hv hd;clear E t E5 T5 H G5;have q1:=Aa T6.out 1;have qf:(p.toList==[102,117,110])=false:=by rw[ByteArray.toList_eq,D];rfl
  have b6:=U.out.size;have HC:Hid (Calls _ _ _ _ _):=J4 HS.out HK.out HL.out hN s g (d+1) _ p (u:Int) O.out l R R6.out S.out ⟨#[61]⟩ 0 Kh (.inl ⟨D,rfl,rfl⟩) (fun n a b=>by rw[D];exact .inr (.inr (.inr (.inr (.inr (.inr (.inr (.inr (.inr (.inr (.inr (.inl ⟨rfl,_,_,rfl,rfl⟩)))))))))))) r (Xf A G.out);have R7:Hid (RSd K N s br bl (inS K i d) (d+1)):=R6;have F7:Hid (Fr (·≠br) w s):=U;have E7:Hid (Av s g p (u:Int) ⟨#[]⟩ 0 0 ⟨#[]⟩ none 0 0):=S;clear G A R6 U S T6;go_wp2_with fail
  refine HC.out.mono ?_;rintro e F ⟨rfl,c,f,v⟩;have R8:Hid (RSd K N F br bl (stX r) (d+1)):=f;have F8:Hid (Fr (·≠br) w F):=F7.out.freshT (c.mono fun _ q=>⟨q.1,q.2⟩) (by omega);have T8:Hid (∀x j,r=.ok (x,j)->Aj (fun k=>w.heap.size<=k) F x (.pointer (some ⟨g,0,none⟩))):=fun x j e=>(v x j e).fr (Fr.refl _ _) fun _ _ q=>by omega
  clear c f v R7 F7 E7;go_wp2_with fail
  refine(Gf F br bl _ d hd R8.out).mono ?_;rintro e C ⟨rfl,f,c⟩;have V:Hid (RSd K N C br bl (stX r) d):=f;have T:Hid (Fr (·≠br) w C):=F8.out.trans c;have X:Hid (∀x j,r=.ok (x,j)->Aj (fun k=>w.heap.size<=k) C x (.pointer (some ⟨g,0,none⟩))):=fun x j e=>(T8.out x j e).fr (c.mono fun k q=>by omega) fun _ _ q=>q;clear c f R8 F8 T8;go_wp2_with fail
  go_ret
  exact⟨T.out,V.out,g,rfl,X.out⟩
 ·have M:(K i).tx=[97,108,108]\/(K i).tx=[115,111,109,101]\/(K i).tx=[99,104,111,111,115,101]:=by simpa [Qs] using A
  have d2:(K i).tx∈Dp:=by rcases M with e|e|e<;>rw[e]<;>decide
  have Z:i<N:=HL.out.lt hI (m:=(K i).tx) (by simp) d2;have G:Hid (Dv K self d i=some r):=by have:=hr;unfold Hh at this;rw[if_pos rfl,if_pos (by rcases M with e|e|e<;>rw[e]<;>rfl)] at this;exact this
  obtain rfl:false=b1:=by rw[<- I];show _=((K i).tx==wIf);rcases M with e|e|e<;>rw[e]<;>rfl
  obtain rfl:false=b2:=by rw[<- J];show _=((K i).tx==Jg);rcases M with e|e|e<;>rw[e]<;>rfl
  obtain rfl:true=b3:=by rw[<- L];show _=(Ot.any fun m=>(K i).tx==m.data.toList);rcases M with e|e|e<;>rw[e]<;>rfl
  have D:p.data.toList=(K i).tx:=by rw[<- a3.out];exact Ck HK.out d2 rfl
  have H:Hid (Calls _ _ _ _ _):=Jb hN W5 br bl i d hd Z R5.out;clear I J L hr a1 R5;go_wp2_with fail
  refine H.out.mono ?_;rintro e s ⟨rfl,E,t⟩;have R6:Hid (RSd K N s br bl (inS K i d) (d+1)):=E;have U:Hid (Fr (·≠br) w s):=(Fr.grew G5.out).trans t;have S:Hid (Av s g p (u:Int) ⟨#[]⟩ 0 0 ⟨#[]⟩ none 0 0):=E5.out.of t l;have T6:Hid (Ap s Y sb p (u:Int)):=T5.out.fr t a0;have O:Hid (OkS (inS K i d)->d+1<=24):=Hv hd;clear E t E5 T5 H G5;have q1:=Aa T6.out 1;have qf:(p.toList==[102,117,110])=false:=by rw[ByteArray.toList_eq,D];rcases M with e|e|e<;>rw[e]<;>rfl
  have b6:=U.out.size;have HC:Hid (Calls _ _ _ _ _):=J4 HS.out HK.out HL.out hN s g (d+1) _ p (u:Int) O.out l R R6.out S.out ⟨#[105,110]⟩ 8 (C7 (K i).tx) (.inr ⟨by rw[D];rcases M with e|e|e<;>rw[e]<;>decide,rfl,rfl⟩) (fun n a b=>by rw[D];exact .inr (.inr (.inr (.inr (.inr (.inr (.inr (.inr (.inr (.inr (.inr (.inr (.inl ⟨.inl A,_,_,rfl,rfl⟩))))))))))))) r (Na (by rcases M with e|e|e<;>rw[e]<;>rfl) (by rcases M with e|e|e<;>rw[e]<;>rfl) G.out);have R7:Hid (RSd K N s br bl (inS K i d) (d+1)):=R6;have F7:Hid (Fr (·≠br) w s):=U;have E7:Hid (Av s g p (u:Int) ⟨#[]⟩ 0 0 ⟨#[]⟩ none 0 0):=S;clear G A M R6 U S T6;go_wp2_with fail
  refine HC.out.mono ?_;rintro e F ⟨rfl,c,f,v⟩;have R8:Hid (RSd K N F br bl (stX r) (d+1)):=f;have F8:Hid (Fr (·≠br) w F):=F7.out.freshT (c.mono fun _ q=>⟨q.1,q.2⟩) (by omega);have T8:Hid (∀x j,r=.ok (x,j)->Aj (fun k=>w.heap.size<=k) F x (.pointer (some ⟨g,0,none⟩))):=fun x j e=>(v x j e).fr (Fr.refl _ _) fun _ _ q=>by omega
  clear c f v R7 F7 E7;go_wp2_with fail
  refine(Gf F br bl _ d hd R8.out).mono ?_;rintro e C ⟨rfl,f,c⟩;have V:Hid (RSd K N C br bl (stX r) d):=f;have T:Hid (Fr (·≠br) w C):=F8.out.trans c;have X:Hid (∀x j,r=.ok (x,j)->Aj (fun k=>w.heap.size<=k) C x (.pointer (some ⟨g,0,none⟩))):=fun x j e=>(T8.out x j e).fr (c.mono fun k q=>by omega) fun _ _ q=>q;clear c f R8 F8 T8;go_wp2_with fail
  go_ret
  exact⟨T.out,V.out,g,rfl,X.out⟩
 ·have Z:i<N:=HL.out.lt hI (m:=Ki) (by rw[A];rfl) (by decide);have G:Hid (Dv K self d i=some r):=by have:=hr;unfold Hh at this;rw[if_pos rfl,if_pos (by rw[A];rfl)] at this;exact this
  obtain rfl:false=b1:=by rw[<- I];show _=((K i).tx==wIf);rw[A];rfl
  obtain rfl:false=b2:=by rw[<- J];show _=((K i).tx==Jg);rw[A];rfl
  obtain rfl:true=b3:=by rw[<- L];show _=(Ot.any fun m=>(K i).tx==m.data.toList);rw[A];rfl
  have D:p.data.toList=Ki:=by rw[<- a3.out];exact Ck HK.out (by decide) A
  have H:Hid (Calls _ _ _ _ _):=Jb hN W5 br bl i d hd Z R5.out;clear I J L hr a1 R5;go_wp2_with fail
  refine H.out.mono ?_;rintro e s ⟨rfl,E,t⟩;have R6:Hid (RSd K N s br bl (inS K i d) (d+1)):=E;have U:Hid (Fr (·≠br) w s):=(Fr.grew G5.out).trans t;have S:Hid (Av s g p (u:Int) ⟨#[]⟩ 0 0 ⟨#[]⟩ none 0 0):=E5.out.of t l;have T6:Hid (Ap s Y sb p (u:Int)):=T5.out.fr t a0;have O:Hid (OkS (inS K i d)->d+1<=24):=Hv hd;clear E t E5 T5 H G5;have q1:=Aa T6.out 1;have qf:(p.toList==[102,117,110])=true:=by rw[ByteArray.toList_eq,D];rfl
  have b6:=U.out.size;have e8:=Aa S.out 0;have f0:=Ab S.out 0;have E7:Hid (Av (s.setCell ⟨g,0,none⟩ (.string ⟨#[102,117,110,32,105,110]⟩)) g ⟨#[102,117,110,32,105,110]⟩ (u:Int) ⟨#[]⟩ 0 0 ⟨#[]⟩ none 0 0):=S.out.op _;have b5:Fr (·≠g) s (s.setCell ⟨g,0,none⟩ (.string ⟨#[102,117,110,32,105,110]⟩)):=(Fr.refl _ s).set (by simp) _;have R7:Hid (RSd K N (s.setCell ⟨g,0,none⟩ (.string ⟨#[102,117,110,32,105,110]⟩)) br bl (inS K i d) (d+1)):=R6.out.fr b5 (Ne.symm l) (Ne.symm R);have F7:Hid (Fr (·≠br) w (s.setCell ⟨g,0,none⟩ (.string ⟨#[102,117,110,32,105,110]⟩))):=U.out.freshT (b5.mono fun _ q=>q.2) (by omega);have f9:=F7.out.size;have HC:Hid (Calls _ _ _ _ _):=J4 HS.out HK.out HL.out hN _ g (d+1) _ ⟨#[102,117,110,32,105,110]⟩ (u:Int) O.out l R R7.out E7.out ⟨#[105,110]⟩ 8 (C7 Ki) (.inr ⟨by decide,rfl,rfl⟩) (fun n a b=>.inr (.inr (.inr (.inr (.inr (.inr (.inr (.inr (.inr (.inr (.inr (.inr (.inr (.inl ⟨rfl,_,_,rfl,rfl⟩)))))))))))))) r (by have:=Na (by rw[A];rfl) (by rw[A];rfl) G.out;rw[A] at this;exact this);clear G A b5 R6 U S T6;go_wp2_with fail
  refine HC.out.mono ?_;rintro e F ⟨rfl,c,f,v⟩;have R8:Hid (RSd K N F br bl (stX r) (d+1)):=f;have F8:Hid (Fr (·≠br) w F):=F7.out.freshT (c.mono fun _ q=>⟨q.1,q.2⟩) (by omega);have T8:Hid (∀x j,r=.ok (x,j)->Aj (fun k=>w.heap.size<=k) F x (.pointer (some ⟨g,0,none⟩))):=fun x j e=>(v x j e).fr (Fr.refl _ _) fun _ _ q=>by omega
  clear c f v R7 F7 E7;go_wp2_with fail
  refine(Gf F br bl _ d hd R8.out).mono ?_;rintro e C ⟨rfl,f,c⟩;have V:Hid (RSd K N C br bl (stX r) d):=f;have T:Hid (Fr (·≠br) w C):=F8.out.trans c;have X:Hid (∀x j,r=.ok (x,j)->Aj (fun k=>w.heap.size<=k) C x (.pointer (some ⟨g,0,none⟩))):=fun x j e=>(T8.out x j e).fr (c.mono fun k q=>by omega) fun _ _ q=>q;clear c f R8 F8 T8;go_wp2_with fail
  go_ret
  exact⟨T.out,V.out,g,rfl,X.out⟩
def Nb (K:Nat->Tk)(N:Nat)(w:World)(br bl be d:Nat)(r:Except (Nat×Nat) (PX×Nat))(e:Ending)(w':World):Prop :=
 Fr (fun k=>k≠br/\k≠be) w w'/\RSd K N w' br bl (stX r) d/\e=.returned (.pointer (some ⟨be,0,none⟩))/\∀x j,r=.ok (x,j)->Aj (fun k=>k=be\/w.heap.size<=k) w' x (.pointer (some ⟨be,0,none⟩))
theorem Aj.leaf {P:Nat->Prop}{w:World}{be:Nat}{op nm tx:ByteArray}{a k n:Int}{x:PX}(h:Av w be op a nm k n tx none 0 0)(hp:P be)(hm:Hr op.data.toList nm.data.toList k n tx.data.toList [] x):Aj P w x (.pointer (some ⟨be,0,none⟩)) :=
 Aj.node ⟨be,op,nm,tx,a,k,n,none,0,0,[],rfl,hp,h,Hd _,hm⟩
theorem Tc (b:Bool)(n:Int)(hn:n=if b then 1 else 0)(w:World):Calls Tryz.prog 138 #[.bool b] w fun e w'=>e=.returned (.agg #[.int .i64 1,.int .i64 n,.string ⟨#[]⟩,.slice none 0 0,.slice none 0 0])/\Ad w w':=by
 subst hn;cases b with
 | true =>
  go_enter Tryz.func138,Tryz.ntmps138
  go_wp2_with fail
  refine bodyPost_ret (v:=.agg #[.int .i64 1,.int .i64 1,.string ⟨#[]⟩,.slice none 0 0,.slice none 0 0]) (by simp[results,Tryz.results138,go_sem]) rfl ?_;exact⟨rfl,(Ad.refl w).alloc _⟩
 | false =>
  go_enter Tryz.func138,Tryz.ntmps138
  go_wp2_with fail
  refine bodyPost_ret (v:=.agg #[.int .i64 1,.int .i64 0,.string ⟨#[]⟩,.slice none 0 0,.slice none 0 0]) (by simp[results,Tryz.results138,go_sem]) rfl ?_;exact⟨rfl,(Ad.refl w).alloc _⟩
theorem RSd.block {K:Nat->Tk}{N br bl i d:Nat}{w:World}(h:RSd K N w br bl (.ok i) d):w.cell? ⟨br,1,none⟩=some (.int .i64 (i:Int))/\w.frozen? ⟨br,1,none⟩=false:=by
 obtain⟨g,⟨c,I,b,a,j,e,k,f⟩,-⟩:=h;obtain rfl:I=i:=f;exact⟨Aa a 1,Ab a 1⟩
theorem RSd.next {K:Nat->Tk}{N br bl i d:Nat}{w:World}(h:RSd K N w br bl (.ok i) d)(hi:i<N):RSd K N (w.setCell ⟨br,1,none⟩ (.int .i64 ((i:Int)+1))) br bl (.ok (i+1)) d:=by
 obtain⟨f,⟨c,I,b,k,m,a,j,l⟩,e⟩:=h;obtain rfl:I=i:=l;have g:Fr (·≠br) w (w.setCell ⟨br,1,none⟩ (.int .i64 ((I:Int)+1))):=(Fr.refl _ w).set (by simp) _;exact⟨f,⟨c,I+1,b,k.setI (I+1),hi,a,j.of g a,rfl⟩,fun _=>e ⟨I,rfl⟩⟩
def iA (w:World)(b:Nat)(n:Int):World:=((((w.setCell ⟨b,3,none⟩ (.int .i64 1)).setCell ⟨b,4,none⟩ (.int .i64 n)).setCell ⟨b,5,none⟩ (.string ⟨#[]⟩)).setCell ⟨b,6,none⟩ (.slice none 0 0)).setCell ⟨b,7,none⟩ (.slice none 0 0)
theorem Av.val {w:World}{b:Nat}{op nm tx:ByteArray}{a k n:Int}{pa:Option Addr}{len cap:Nat}(h:Av w b op a nm k n tx pa len cap)(m:Int):Av (iA w b m) b op a nm 1 m ⟨#[]⟩ pa len cap:=by
 have:=Ag (Ag (Ag (Ag (Ag h 3 (.int .i64 1)) 4 (.int .i64 m)) 5 (.string ⟨#[]⟩)) 6 (.slice none 0 0)) 7 (.slice none 0 0);simpa [Av,iA] using this
theorem Fr.val {P:Nat->Prop}{a w:World}{b:Nat}(h:Fr P a w)(hp:¬P b)(m:Int):Fr P a (iA w b m):=((((h.set (p:=⟨b,3,none⟩) hp _).set (p:=⟨b,4,none⟩) hp _).set (p:=⟨b,5,none⟩) hp _).set (p:=⟨b,6,none⟩) hp _).set (p:=⟨b,7,none⟩) hp _
theorem aE {K:Nat->Tk}{N br bl:Nat}{self:Nat->Nat->Nat->RX PX}(hK:∀i,Bs (K i))(hL:Bi K N)(hN:N<=1000000)(w:World)(be d m i:Nat)(a0:Int)(hbe:be≠br)(hbl0:be≠bl)(h:RSd K N w br bl (.ok i) d)(he:Av w be ⟨#[]⟩ a0 ⟨#[]⟩ 0 0 ⟨#[]⟩ none 0 0)
  (hk:(K i).tx=[110,105,108]) (r:Except (Nat×Nat) (PX×Nat)) (hr:Ge K self m d i=some r) :
  Calls Tryz.prog 107 #[.pointer (some ⟨br,0,none⟩),.pointer (some ⟨be,0,none⟩)] w (Nb K N w br bl be d r):=by
 have M:Hid (RSd K N w br bl (.ok i) d):=h;have L:Hid (Av w be ⟨#[]⟩ a0 ⟨#[]⟩ 0 0 ⟨#[]⟩ none 0 0):=he;obtain⟨S,O,Z,k,U,V,v,B,C,D⟩:=h.open;obtain⟨a,H,I,J⟩:=RS.cells k v B C D;have Q:=Aa k 0;have R:=Aa k 1;have X:=Aa a 0;have Y:=Aa a 1;have y:=Ac k;have u:(i:Int)<((N+1:Nat):Int):=by omega
 have mo:=follows;have A:i<N:=hL.lt U (m:=[110,105,108]) (by rw[hk];rfl) (by decide);have p:Cf (K i)=⟨#[110,105,108]⟩:=ByteArray.ext (by have:=Ck hK (by decide) hk;exact Array.ext' this);obtain rfl:.ok (Cw [110,105,108],i+1)=r:=by
  have:Gh.contains (K i).tx=true:=by rw[hk];rfl
  unfold Ge at hr;rw[if_pos this,hk] at hr;simpa [okX] using hr
 obtain⟨c,o⟩:∃c,Bn (K i).cl=c:=⟨_,rfl⟩;obtain⟨b,g⟩:∃b,(K i).at'=b:=⟨_,rfl⟩;rw[o] at B H;rw[p] at C I;rw[g] at D J;have l:=Ac he;clear k a h hK hL o p g hr hk he;go_enter Tryz.func107,Tryz.ntmps107
 go_wp2_with fail
 go_big_region_o
 have t:Hid (Ap _ w.heap.size c ⟨#[110,105,108]⟩ (b:Int)):=Ap.new w c ⟨#[110,105,108]⟩ (b:Int);have q:Hid (Ad w (w.alloc (.cells #[.int .u8 (c:Int),.string ⟨#[110,105,108]⟩,.int .i64 (b:Int)] 55)).drew):=((Ad.refl w).alloc _).drew;clear Q R X Y H I J B C D u;generalize (w.alloc (.cells #[.int .u8 (c:Int),.string ⟨#[110,105,108]⟩,.int .i64 (b:Int)] 55)).drew=W1 at q t |-;obtain⟨f,n⟩:∃f,w.heap.size=f:=⟨_,rfl⟩;rw[n] at t y l |-;have W:f<=w.heap.size:=by omega
 clear n;have F:f≠br:=by omega
 have G:f≠be:=by omega
 have E:Hid (RSd K N W1 br bl (.ok i) d):=M.out.grew q.out;have s:Hid (Av W1 be ⟨#[]⟩ a0 ⟨#[]⟩ 0 0 ⟨#[]⟩ none 0 0):=L.out.of (P:=fun _=>True) (Fr.grew q.out) trivial;have q1:=Aa t.out 1;obtain⟨e1,f1⟩:=E.out.block;have x0:=Aa s.out 0;have g0:=Ab s.out 0;go_wp2_with fail
 go_ret
 have z:Fr (·≠be) (W1.setCell ⟨br,1,none⟩ (.int .i64 ((i:Int)+1))) ((W1.setCell ⟨br,1,none⟩ (.int .i64 ((i:Int)+1))).setCell ⟨be,0,none⟩ (.string ⟨#[118,97,108,117,101]⟩)):=(Fr.refl _ _).set (by simp) _;have T:Av (W1.setCell ⟨br,1,none⟩ (.int .i64 ((i:Int)+1))) be ⟨#[]⟩ a0 ⟨#[]⟩ 0 0 ⟨#[]⟩ none 0 0:=s.out.of (P:=(·≠br)) ((Fr.refl _ W1).set (by simp) _) hbe;exact⟨((Fr.grew q.out).set (by simp) _).set (by simp) _,(E.out.next A).fr z (Ne.symm hbe) (Ne.symm hbl0),rfl,fun x j e=>by simp at e;rw[<- e.1];exact Aj.leaf (T.op ⟨#[118,97,108,117,101]⟩) (.inl rfl) (.inl ⟨rfl,.inl ⟨rfl,rfl⟩⟩)⟩
theorem Xg {K:Nat->Tk}{N br bl:Nat}{self:Nat->Nat->Nat->RX PX}(hK:∀i,Bs (K i))(hL:Bi K N)(hN:N<=1000000)(w:World)(be d m i:Nat)(a0:Int)(hbe:be≠br)(hbl0:be≠bl)(h:RSd K N w br bl (.ok i) d)(he:Av w be ⟨#[]⟩ a0 ⟨#[]⟩ 0 0 ⟨#[]⟩ none 0 0)
  (hk:(K i).tx=[116,114,117,101]) (r:Except (Nat×Nat) (PX×Nat)) (hr:Ge K self m d i=some r) :
  Calls Tryz.prog 107 #[.pointer (some ⟨br,0,none⟩),.pointer (some ⟨be,0,none⟩)] w (Nb K N w br bl be d r):=by
 have Z:Hid (RSd K N w br bl (.ok i) d):=h;have Y:Hid (Av w be ⟨#[]⟩ a0 ⟨#[]⟩ 0 0 ⟨#[]⟩ none 0 0):=he;obtain⟨a2,a1,dd,p,hI,a3,H,M,O,Q⟩:=h.open;obtain⟨b,T,U,V⟩:=RS.cells p H M O Q;have c0:=Aa p 0;have c1:=Aa p 1;have k0:=Aa b 0;have k1:=Aa b 1;have I:=Ac p;have G:(i:Int)<((N+1:Nat):Int):=by omega
 have mo:=follows;have L:i<N:=hL.lt hI (m:=[116,114,117,101]) (by rw[hk];rfl) (by decide);have y:Cf (K i)=⟨#[116,114,117,101]⟩:=ByteArray.ext (by have:=Ck hK (by decide) hk;exact Array.ext' this);obtain rfl:.ok (Cw [116,114,117,101],i+1)=r:=by
  have:Gh.contains (K i).tx=true:=by rw[hk];rfl
  unfold Ge at hr;rw[if_pos this,hk] at hr;simpa [okX] using hr
 obtain⟨g,v⟩:∃g,Bn (K i).cl=g:=⟨_,rfl⟩;obtain⟨f,o⟩:∃f,(K i).at'=f:=⟨_,rfl⟩;rw[v] at M T;rw[y] at O U;rw[o] at Q V;have s:=Ac he;clear p b h hK hL v y o hr hk he;go_enter Tryz.func107,Tryz.ntmps107
 go_wp2_with fail
 go_big_region_o
 have A:Hid (Ap _ w.heap.size g ⟨#[116,114,117,101]⟩ (f:Int)):=Ap.new w g ⟨#[116,114,117,101]⟩ (f:Int);have l:Hid (Ad w (w.alloc (.cells #[.int .u8 (g:Int),.string ⟨#[116,114,117,101]⟩,.int .i64 (f:Int)] 55)).drew):=((Ad.refl w).alloc _).drew;clear c0 c1 k0 k1 T U V M O Q G;generalize (w.alloc (.cells #[.int .u8 (g:Int),.string ⟨#[116,114,117,101]⟩,.int .i64 (f:Int)] 55)).drew=W1 at l A |-;obtain⟨n,t⟩:∃n,w.heap.size=n:=⟨_,rfl⟩;rw[t] at A I s |-;have a4:n<=w.heap.size:=by omega
 clear t;have R:n≠br:=by omega
 have S:n≠be:=by omega
 have E:Hid (RSd K N W1 br bl (.ok i) d):=Z.out.grew l.out;have z:Hid (Av W1 be ⟨#[]⟩ a0 ⟨#[]⟩ 0 0 ⟨#[]⟩ none 0 0):=Y.out.of (P:=fun _=>True) (Fr.grew l.out) trivial;have q1:=Aa A.out 1;obtain⟨e1,f1⟩:=E.out.block;have x0:=Aa z.out 0;have g0:=Ab z.out 0;have HT:Hid (∀W:World,_):=fun W=>Tc true 1 rfl W;have C:Hid (Av ((W1.setCell ⟨br,1,none⟩ (.int .i64 ((i:Int)+1))).setCell ⟨be,0,none⟩ (.string ⟨#[118,97,108,117,101]⟩)) be ⟨#[118,97,108,117,101]⟩ a0 ⟨#[]⟩ 0 0 ⟨#[]⟩ none 0 0):=(z.out.of (P:=(·≠br)) ((Fr.refl _ W1).set (by simp) _) hbe).op _;have u:Fr (·≠be) (W1.setCell ⟨br,1,none⟩ (.int .i64 ((i:Int)+1))) ((W1.setCell ⟨br,1,none⟩ (.int .i64 ((i:Int)+1))).setCell ⟨be,0,none⟩ (.string ⟨#[118,97,108,117,101]⟩)):=(Fr.refl _ _).set (by simp) _;have F:Hid (RSd K N _ br bl (.ok (i+1)) d):=(E.out.next L).fr u (Ne.symm hbe) (Ne.symm hbl0);have D:Hid (Fr (fun k=>k≠br/\k≠be) w ((W1.setCell ⟨br,1,none⟩ (.int .i64 ((i:Int)+1))).setCell ⟨be,0,none⟩ (.string ⟨#[118,97,108,117,101]⟩))):=((Fr.grew l.out).set (by simp) _).set (by simp) _;clear u;go_wp2_with fail
 clear q1 e1 f1 x0 g0 A E z l;generalize (W1.setCell ⟨br,1,none⟩ (.int .i64 ((i:Int)+1))).setCell ⟨be,0,none⟩ (.string ⟨#[118,97,108,117,101]⟩)=W2 at C F D |-;refine(HT.out W2).mono ?_;rintro e c ⟨rfl,B⟩;have a:Hid (Av c be ⟨#[118,97,108,117,101]⟩ a0 ⟨#[]⟩ 0 0 ⟨#[]⟩ none 0 0):=C.out.of (P:=fun _=>True) (Fr.grew B) trivial;have R3:Hid (RSd K N c br bl (.ok (i+1)) d):=F.out.grew B;have X:Hid (Fr (fun k=>k≠br/\k≠be) w c):=D.out.trans (Fr.grew B);clear B C F D;have x3:=Aa a.out 3;have x4:=Aa a.out 4;have x5:=Aa a.out 5;have x6:=Aa a.out 6;have x7:=Aa a.out 7;have y3:=Ab a.out 3;have y4:=Ab a.out 4;have y5:=Ab a.out 5;have y6:=Ab a.out 6;have y7:=Ab a.out 7;go_wp2_with fail
 go_ret
 have J:Fr (·≠be) c (iA c be 1):=(Fr.refl _ c).val (by simp) 1;exact⟨X.out.val (fun q=>q.2 rfl) 1,R3.out.fr J (Ne.symm hbe) (Ne.symm hbl0),rfl,fun x j e=>by simp at e;rw[<- e.1];exact Aj.leaf (a.out.val 1) (.inl rfl) (.inl ⟨rfl,.inr (.inl ⟨rfl,rfl,rfl⟩)⟩)⟩
theorem U3 {K:Nat->Tk}{N br bl:Nat}{self:Nat->Nat->Nat->RX PX}(hK:∀i,Bs (K i))(hL:Bi K N)(hN:N<=1000000)(w:World)(be d m i:Nat)(a0:Int)(hbe:be≠br)(hbl0:be≠bl)(h:RSd K N w br bl (.ok i) d)(he:Av w be ⟨#[]⟩ a0 ⟨#[]⟩ 0 0 ⟨#[]⟩ none 0 0)
  (hk:(K i).tx=[102,97,108,115,101]) (r:Except (Nat×Nat) (PX×Nat)) (hr:Ge K self m d i=some r) :
  Calls Tryz.prog 107 #[.pointer (some ⟨br,0,none⟩),.pointer (some ⟨be,0,none⟩)] w (Nb K N w br bl be d r):=by
 have Z:Hid (RSd K N w br bl (.ok i) d):=h;have Y:Hid (Av w be ⟨#[]⟩ a0 ⟨#[]⟩ 0 0 ⟨#[]⟩ none 0 0):=he;obtain⟨a2,a1,dd,p,hI,a3,H,M,O,Q⟩:=h.open;obtain⟨b,T,U,V⟩:=RS.cells p H M O Q;have c0:=Aa p 0;have c1:=Aa p 1;have k0:=Aa b 0;have k1:=Aa b 1;have I:=Ac p;have G:(i:Int)<((N+1:Nat):Int):=by omega
 have mo:=follows;have L:i<N:=hL.lt hI (m:=[102,97,108,115,101]) (by rw[hk];rfl) (by decide);have y:Cf (K i)=⟨#[102,97,108,115,101]⟩:=ByteArray.ext (by have:=Ck hK (by decide) hk;exact Array.ext' this);obtain rfl:.ok (Cw [102,97,108,115,101],i+1)=r:=by
  have:Gh.contains (K i).tx=true:=by rw[hk];rfl
  unfold Ge at hr;rw[if_pos this,hk] at hr;simpa [okX] using hr
 obtain⟨g,v⟩:∃g,Bn (K i).cl=g:=⟨_,rfl⟩;obtain⟨f,o⟩:∃f,(K i).at'=f:=⟨_,rfl⟩;rw[v] at M T;rw[y] at O U;rw[o] at Q V;have s:=Ac he;clear p b h hK hL v y o hr hk he;go_enter Tryz.func107,Tryz.ntmps107
 go_wp2_with fail
 go_big_region_o
 have A:Hid (Ap _ w.heap.size g ⟨#[102,97,108,115,101]⟩ (f:Int)):=Ap.new w g ⟨#[102,97,108,115,101]⟩ (f:Int);have l:Hid (Ad w (w.alloc (.cells #[.int .u8 (g:Int),.string ⟨#[102,97,108,115,101]⟩,.int .i64 (f:Int)] 55)).drew):=((Ad.refl w).alloc _).drew;clear c0 c1 k0 k1 T U V M O Q G;generalize (w.alloc (.cells #[.int .u8 (g:Int),.string ⟨#[102,97,108,115,101]⟩,.int .i64 (f:Int)] 55)).drew=W1 at l A |-;obtain⟨n,t⟩:∃n,w.heap.size=n:=⟨_,rfl⟩;rw[t] at A I s |-;have a4:n<=w.heap.size:=by omega
 clear t;have R:n≠br:=by omega
 have S:n≠be:=by omega
 have E:Hid (RSd K N W1 br bl (.ok i) d):=Z.out.grew l.out;have z:Hid (Av W1 be ⟨#[]⟩ a0 ⟨#[]⟩ 0 0 ⟨#[]⟩ none 0 0):=Y.out.of (P:=fun _=>True) (Fr.grew l.out) trivial;have q1:=Aa A.out 1;obtain⟨e1,f1⟩:=E.out.block;have x0:=Aa z.out 0;have g0:=Ab z.out 0;have HT:Hid (∀W:World,_):=fun W=>Tc false 0 rfl W;have C:Hid (Av ((W1.setCell ⟨br,1,none⟩ (.int .i64 ((i:Int)+1))).setCell ⟨be,0,none⟩ (.string ⟨#[118,97,108,117,101]⟩)) be ⟨#[118,97,108,117,101]⟩ a0 ⟨#[]⟩ 0 0 ⟨#[]⟩ none 0 0):=(z.out.of (P:=(·≠br)) ((Fr.refl _ W1).set (by simp) _) hbe).op _;have u:Fr (·≠be) (W1.setCell ⟨br,1,none⟩ (.int .i64 ((i:Int)+1))) ((W1.setCell ⟨br,1,none⟩ (.int .i64 ((i:Int)+1))).setCell ⟨be,0,none⟩ (.string ⟨#[118,97,108,117,101]⟩)):=(Fr.refl _ _).set (by simp) _;have F:Hid (RSd K N _ br bl (.ok (i+1)) d):=(E.out.next L).fr u (Ne.symm hbe) (Ne.symm hbl0);have D:Hid (Fr (fun k=>k≠br/\k≠be) w ((W1.setCell ⟨br,1,none⟩ (.int .i64 ((i:Int)+1))).setCell ⟨be,0,none⟩ (.string ⟨#[118,97,108,117,101]⟩))):=((Fr.grew l.out).set (by simp) _).set (by simp) _;clear u;go_wp2_with fail
 clear q1 e1 f1 x0 g0 A E z l;generalize (W1.setCell ⟨br,1,none⟩ (.int .i64 ((i:Int)+1))).setCell ⟨be,0,none⟩ (.string ⟨#[118,97,108,117,101]⟩)=W2 at C F D |-;refine(HT.out W2).mono ?_;rintro e c ⟨rfl,B⟩;have a:Hid (Av c be ⟨#[118,97,108,117,101]⟩ a0 ⟨#[]⟩ 0 0 ⟨#[]⟩ none 0 0):=C.out.of (P:=fun _=>True) (Fr.grew B) trivial;have R3:Hid (RSd K N c br bl (.ok (i+1)) d):=F.out.grew B;have X:Hid (Fr (fun k=>k≠br/\k≠be) w c):=D.out.trans (Fr.grew B);clear B C F D;have x3:=Aa a.out 3;have x4:=Aa a.out 4;have x5:=Aa a.out 5;have x6:=Aa a.out 6;have x7:=Aa a.out 7;have y3:=Ab a.out 3;have y4:=Ab a.out 4;have y5:=Ab a.out 5;have y6:=Ab a.out 6;have y7:=Ab a.out 7;go_wp2_with fail
 go_ret
 have J:Fr (·≠be) c (iA c be 0):=(Fr.refl _ c).val (by simp) 0;exact⟨X.out.val (fun q=>q.2 rfl) 0,R3.out.fr J (Ne.symm hbe) (Ne.symm hbl0),rfl,fun x j e=>by simp at e;rw[<- e.1];exact Aj.leaf (a.out.val 0) (.inl rfl) (.inl ⟨rfl,.inr (.inr (.inl ⟨rfl,rfl,rfl⟩))⟩)⟩
end Go.Proofs.YtjbfcadeapphbaaGreatDoor.Sx
