/- The reference: a text is read as a module. -/
import Derived.Test.YtjbfcadeapphbaaGreatDoorF34
import Derived.Test.YtjbfcadeapphbaaGreatDoorF36
import Derived.Test.YtjbfcadeapphbaaGreatDoorF04
namespace Go.Proofs.YtjbfcadeapphbaaGreatDoor.Sx
set_option maxRecDepth 100000
set_option maxHeartbeats 4000000
open Go.RowKit Go.Sort
def OxT (P:Nat->Prop)(w:World)(v:Value)(ox:Option PX):Prop:=match ox with|none=>v=.pointer none|some x=>Aj P w x v
def Lp (P:Nat->Prop)(w:World)(v:Value)(l:List UInt8):Prop :=
 ∃word name a mo y1 y2 y3 p n ms more ox,v=.agg #[.string word,.string name,.int .i64 a,mo,.slice y1 y2 y3,.pointer p]/\w.ownsRow 0 9 1 mo n ms/\(∀g,mo.ownBlock=some g->P g)/\n=more.length/\ms=more.map Pc/\OxT P w (.pointer p) ox/\Jt word.data.toList name.data.toList more ox l
theorem iX.foot {lo:Nat}{w:World}{v:Value}{l:List UInt8}(h:iX lo w v l)(hs:∃s0 s1 a q1 q2 q3 p1 p2 p3 px,v=.agg #[.string s0,.string s1,.int .i64 a,.slice q1 q2 q3,.slice p1 p2 p3,.pointer px]):Lp (fun k=>lo<=k) w v l:=by
 obtain⟨d,c,a,r,x,px,n,s,b,t,i,j,m,o,p,q⟩:=h;obtain⟨s0,s1,u,q1,q2,q3,p1,p2,p3,f,e⟩:=hs;rw[i] at e;simp only[Value.agg.injEq,Array.mk.injEq,List.cons.injEq,and_true] at e;obtain⟨-,-,-,-,rfl,rfl⟩:=e;exact⟨d,c,a,r,p1,p2,p3,f,n,s,b,t,i,Lf (Nat.zero_le _) j,fun g e=>(j.lt g e).1,m,o,p,q⟩
theorem Lp.fr {P Q:Nat->Prop}{w w':World}(hf:Fr P w w')(hQ:∀k,k<w.heap.size->P k->Q k){v:Value}{l:List UInt8}(h:Lp P w v l):Lp Q w' v l:=by
 obtain⟨d,c,a,t,y,z,A,p,n,u,b,m,o,f,i,q,r,j,s⟩:=h;refine⟨d,c,a,t,y,z,A,p,n,u,b,m,o,Cl f (fun g e _ hlt=>hf.block g hlt (i g e)),fun g e=>hQ g (f.lt g e).2 (i g e),q,r,?_,s⟩;cases m with
 | none=>exact j
 | some x=>exact Aj.fr hf hQ j
def Eo (P:Nat->Prop)(w:World):List (List UInt8)->List Value->Prop
 | [],vs=>vs=[]
 | l::ls,vs=>∃c0 c1 c2 c3 c4 c5 vs',vs=c0::c1::c2::c3::c4::c5::vs'/\Lp P w (.agg #[c0,c1,c2,c3,c4,c5]) l/\Eo P w ls vs'
theorem Eo.fr {P Q:Nat->Prop}{w w':World}(hf:Fr P w w')(hQ:∀k,k<w.heap.size->P k->Q k):∀(ls:List (List UInt8))(vs:List Value),Eo P w ls vs->Eo Q w' ls vs
 | [],_,h=>h
 | _::ls,_,⟨c0,c1,c2,c3,c4,c5,vs',h1,h2,h3⟩=>⟨c0,c1,c2,c3,c4,c5,vs',h1,h2.fr hf hQ,Eo.fr hf hQ ls vs' h3⟩
theorem Eo.push {P:Nat->Prop}{w:World}{c0 c1 c2 c3 c4 c5:Value}{l:List UInt8}(hd:Lp P w (.agg #[c0,c1,c2,c3,c4,c5]) l):∀(ls:List (List UInt8))(vs:List Value),Eo P w ls vs->Eo P w (ls++[l]) (vs++[c0,c1,c2,c3,c4,c5])
 | [],vs,h=>by
  have h':vs=[]:=h;subst h';exact⟨c0,c1,c2,c3,c4,c5,[],rfl,hd,rfl⟩
 | _::ls,_,⟨d0,d1,d2,d3,d4,d5,vs',h1,h2,h3⟩=>⟨d0,d1,d2,d3,d4,d5,vs'++[c0,c1,c2,c3,c4,c5],by rw[h1];rfl,h2,Eo.push hd ls vs' h3⟩
theorem Eo.at {P:Nat->Prop}{w:World}:∀(ls:List (List UInt8))(vs:List Value),Eo P w ls vs->∀(i:Nat)(l:List UInt8),ls[i]?=some l->∃c0 c1 c2 c3 c4 c5,vs[i*6]?=some c0/\vs[i*6+1]?=some c1/\vs[i*6+2]?=some c2/\vs[i*6+3]?=some c3/\vs[i*6+4]?=some c4/\vs[i*6+5]?=some c5/\Lp P w (.agg #[c0,c1,c2,c3,c4,c5]) l
 | [],_,_,i,l,q=>by simp at q
 | _::ls,_,⟨c0,c1,c2,c3,c4,c5,vs',h1,h2,h3⟩,0,l,q=>by
  simp at q;subst q;subst h1;exact⟨c0,c1,c2,c3,c4,c5,rfl,rfl,rfl,rfl,rfl,rfl,h2⟩
 | _::ls,_,⟨c0,c1,c2,c3,c4,c5,vs',h1,h2,h3⟩,i+1,l,q=>by
  simp at q;subst h1;obtain⟨d0,d1,d2,d3,d4,d5,g0,g1,g2,g3,g4,g5,g6⟩:=Eo.at ls vs' h3 i l q;have e:(i+1)*6=i*6+6:=by omega
  refine⟨d0,d1,d2,d3,d4,d5,?_,?_,?_,?_,?_,?_,g6⟩<;>rw[e]<;>simpa using by assumption
def Iw (w:World)(b:Nat)(name:ByteArray)(sl:Value):Prop:=w.heap[b]?=some (.cells #[.string name,sl] 67 (0,0))
theorem Iw.of {w w':World}{b:Nat}{name:ByteArray}{sl:Value}(h:Iw w b name sl){P:Nat->Prop}(f:Fr P w w')(hp:P b):Iw w' b name sl:=(f.block b (Ac h) hp).trans h
theorem Iw.rows {w:World}{b:Nat}{name:ByteArray}{sl:Value}(h:Iw w b name sl)(v:Value):Iw (w.setCell ⟨b,1,none⟩ v) b name v:=by
 have:=Ag h 1 v;simpa [Iw] using this
theorem Iw.nam {w:World}{b:Nat}{name:ByteArray}{sl:Value}(h:Iw w b name sl)(v:ByteArray):Iw (w.setCell ⟨b,0,none⟩ (.string v)) b v sl:=by
 have:=Ag h 0 (.string v);simpa [Iw] using this
def nF (lo:Nat)(w:World)(b:Nat)(tx:List UInt8):Prop :=
 ∃name sl n vs ls,Iw w b name sl/\w.ownsRow lo 71 6 sl n vs/\n=ls.length/\n<=1000000/\Eo (fun _=>True) w ls vs/\tx=Cq++[32]++name.data.toList++[10]++Db ls
def J8 (w:World)(r:Except (Nat×Nat) (List UInt8×Nat))(e:Ending)(w':World):Prop :=
 Fr (fun _=>True) w w'/\match r with
  | .ok (x,_)=>∃b,e=.returned (.tuple #[.pointer (some ⟨b,0,none⟩),.int .i64 0,.int .i64 0])/\nF w.heap.size w' b x
  | .error (c,p)=>c≠0/\e=.returned (.tuple #[.pointer none,.int .i64 (p:Int),.int .i64 (c:Int)])
theorem nG:(Tryz.prog.info? 71).map (fun i=>(i.zero,i.size,i.bytes))=some (some (.agg #[.string ⟨#[]⟩,.string ⟨#[]⟩,.int .i64 0,.slice none 0 0,.slice none 0 0,.pointer none]),6,96):=by kernel_rfl
theorem nQ {a b c d e f:Value}(ha:a.oneCell'=true)(hb:b.oneCell'=true)(hc:c.oneCell'=true)(hd:d.oneCell'=true)(he:e.oneCell'=true)(hf:f.oneCell'=true):∀u∈[a,b,c,d,e,f],u.oneCell'=true:=by
 intro u g;simp only[List.mem_cons,List.not_mem_nil,or_false] at g;rcases g with rfl|rfl|rfl|rfl|rfl|rfl<;>assumption
theorem Nh (s:ByteArray)(w:World)(hs:4000<s.size)(hm:s.size<=9223372036854775807):Calls Tryz.prog 11 #[.string s] w (J8 w (.error (6,0))):=by
 have a:Hid (J8 w (.error (6,0)) (.returned (.tuple #[.pointer none,.int .i64 0,.int .i64 6])) w):=⟨Fr.refl _ _,by decide,rfl⟩;have b:(4000:Int)<(s.size:Int):=by omega
 go_enter Tryz.func11,Tryz.ntmps11
 go_wp2_with fail
 refine bodyPost_ret (v:=.tuple #[.pointer none,.int .i64 0,.int .i64 6]) (by simp[results,Tryz.results11,go_sem]) rfl a.out
theorem iZ {K:Nat->Tk}{N br bl bm n g cap:Nat}{w W8 Wa w9:World}{s:SX}{nv:ByteArray}{sl c0 c1 c2 c3 c4 c5:Value}{vs:List Value}{ls:List (List UInt8)}{l:List UInt8}(hR:RSd K N W8 br bl s 0)(hM:Iw W8 bm nv sl)(hO:W8.ownsRow (bm+1) 71 6 sl n vs)
  (hV:OkS s->Eo (fun k=>bm<k/\sl.ownBlock≠some k) W8 ls vs/\Lp (fun k=>bm<k/\sl.ownBlock≠some k) W8 (.agg #[c0,c1,c2,c3,c4,c5]) l) (hF:Fr (fun _=>True) w W8) (hwb:w.heap.size<=bm) (hbr:br<bm) (hbl:bl<bm) (hA:Fr (fun _=>True) W8 Wa)
  (ho:w9.ownsRow (bm+1) 71 6 (.slice (some ⟨g,0,none⟩) (n+1) cap) (n+1) (vs++[c0,c1,c2,c3,c4,c5])) (hg:Wa.grownBy w9 sl.ownBlock) (hat:sl.ownBlock=some g\/W8.heap.size<=g) :
  Iw w9 bm nv sl/\RSd K N (w9.setCell ⟨bm,1,none⟩ (.slice (some ⟨g,0,none⟩) (n+1) cap)) br bl s 0/\Iw (w9.setCell ⟨bm,1,none⟩ (.slice (some ⟨g,0,none⟩) (n+1) cap)) bm nv (.slice (some ⟨g,0,none⟩) (n+1) cap) /\
  (w9.setCell ⟨bm,1,none⟩ (.slice (some ⟨g,0,none⟩) (n+1) cap)).ownsRow (bm+1) 71 6 (.slice (some ⟨g,0,none⟩) (n+1) cap) (n+1) (vs++[c0,c1,c2,c3,c4,c5]) /\
  (OkS s->Eo (fun k=>bm<k/\(Value.slice (some ⟨g,0,none⟩) (n+1) cap).ownBlock≠some k) (w9.setCell ⟨bm,1,none⟩ (.slice (some ⟨g,0,none⟩) (n+1) cap)) (ls++[l]) (vs++[c0,c1,c2,c3,c4,c5]))/\Fr (fun _=>True) w (w9.setCell ⟨bm,1,none⟩ (.slice (some ⟨g,0,none⟩) (n+1) cap)):=by
 have b:Fr (fun k=>sl.ownBlock≠some k) W8 w9:=(hA.mono fun _ _=>trivial).trans ⟨hg.os,hg.tape,hg.output,hg.size,fun k hk hp=>hg.block k hk (fun e=>hp e.symm)⟩;have a:∀k,k<=bm->sl.ownBlock≠some k:=fun k hk e=>by have:=(hO.lt k e).1;omega
 have c:Fr (·≠bm) w9 (w9.setCell ⟨bm,1,none⟩ (.slice (some ⟨g,0,none⟩) (n+1) cap)):=(Fr.refl _ w9).set (by simp) _;have d:=hM.of b (a bm (Nat.le_refl _));refine⟨d,(hR.fr b (a br (by omega)) (a bl (by omega))).fr c (by omega) (by omega),d.rows _,Cl ho (fun g' _ hg' hlt=>c.block g' hlt (by omega)),fun o=>?_,?_⟩
 ·obtain⟨j,m⟩:=hV o;have f:∀k,k<W8.heap.size->(bm<k/\sl.ownBlock≠some k)->(bm<k/\(Value.slice (some ⟨g,0,none⟩) (n+1) cap).ownBlock≠some k):=fun k hk q=>⟨q.1,fun e=>by
   have i:g=k:=by simpa [Value.ownBlock] using e
   subst i;rcases hat with h|h
   ·exact q.2 h
   ·omega⟩
  exact Eo.push (Lp.fr (c.mono fun k q=>by omega) (fun _ _ q=>q) (m.fr (b.mono fun _ q=>q.2) f)) _ _ (Eo.fr (c.mono fun k q=>by omega) (fun _ _ q=>q) _ _ (Eo.fr (b.mono fun _ q=>q.2) f _ _ j))
 ·exact(hF.newerT b fun k hk=>a k (by omega)).newerT c fun k hk=>by omega
theorem N7 (s:ByteArray)(w:World)(hs:s.size<=4000)(f:Nat)(hf:f<=900000)(r:Except (Nat×Nat) (List UInt8×Nat))(hr:N6 (tkF s.data.toList) (Li (tkF s.data.toList) f) f 0=some r):Calls Tryz.prog 11 #[.string s] w (J8 w r):=by
 have hl:s.data.toList.length=s.size:=by simp
 obtain⟨q,hq,hk⟩:=A3 (s:=Bk (tkF s.data.toList) (.ok 0) Cq) (f:=Au (tkF s.data.toList)) [] (Dk (s:=.ok 0) hr);have h1:¬(4000:Int)<(s.size:Int):=by omega
 have b2:Hid (Calls _ _ _ _ _):=Xy s w (by omega);have i2:s.data.toList.length<=4000:=by omega
 clear hr hl;go_enter Tryz.func11,Tryz.ntmps11
 go_wp2_with fail
 refine b2.out.mono ?_;rintro e W1 ⟨N,x,cap,rfl,g7,a3,i8,V,a7⟩;have hN:N<=1000000:=by omega
 have hz:=Nz s.data.toList (by omega);have hn:=kM s.data.toList;have hK:=Ns s.data.toList;have hL:=Uc a3;generalize tkF s.data.toList=K at hq hk V hz hn hK hL;have R2:Hid (RSd K N (W1.alloc (.cells #[.slice (some ⟨x,0,none⟩) (N+1) cap,.int .i64 0,.int .i64 0,.int .i64 0,.int .i64 0] 52)) W1.heap.size x (.ok 0) 0):=RSd.start V;have X:Hid (Fr (fun _=>True) w (W1.alloc (.cells #[.slice (some ⟨x,0,none⟩) (N+1) cap,.int .i64 0,.int .i64 0,.int .i64 0,.int .i64 0] 52))):=a7.alloc _;have HQ:Hid (Az (Bk K (.ok 0) Cq) (Au K)=some q):=hq;have Z:Hid (Az (stX q) (fun j=>Fo K (Li K f) f f (Cq++[32]++Ao [] q++[10]) j)=some r):=hk;have HS:Hid (Ch K N W1.heap.size x (Li K f)):=Td hK hL hN hz hn f (by omega);have HK:Hid (∀i,Bs (K i)):=hK;have HL:Hid (Bi K N):=hL;have h3:=a7.size;clear hz hn hK hL V a7 hq hk b2 g7 a3;go_wp2_with fail
 generalize (W1.alloc (.cells #[.slice (some ⟨x,0,none⟩) (N+1) cap,.int .i64 0,.int .i64 0,.int .i64 0,.int .i64 0] 52))=W2 at R2 X |-;obtain⟨C,c6⟩:∃C,W1.heap.size=C:=⟨_,rfl⟩;rw[c6] at R2 HS h3 |-;clear c6;refine(Cu HK.out HL.out W2 C x _ 0 ⟨#[109,111,100,117,108,101]⟩ (by decide) hN R2.out).mono ?_;rintro e W3 ⟨rfl,e8,d6⟩;have R3:Hid (RSd K N W3 C x (Bk K (.ok 0) Cq) 0):=e8;have F3:Hid (Fr (fun _=>True) w W3):=X.out.newerT d6 fun k hk=>by omega
 clear e8 d6 R2 X;have h4:=F3.out.size;have b7:=R3.out.lt;have d9:=R3.out.row;have M4:Hid (Iw (W3.alloc (.cells #[.string ⟨#[]⟩,.slice none 0 0] 67)) W3.heap.size ⟨#[]⟩ (.slice none 0 0)):=Af rfl;have R4:Hid (RSd K N (W3.alloc (.cells #[.string ⟨#[]⟩,.slice none 0 0] 67)) C x (Bk K (.ok 0) Cq) 0):=R3.out.grew ((Ad.refl _).alloc _);have F4:Hid (Fr (fun _=>True) w (W3.alloc (.cells #[.string ⟨#[]⟩,.slice none 0 0] 67))):=F3.out.alloc _;go_wp2_with fail
 generalize W3.alloc (.cells #[.string ⟨#[]⟩,.slice none 0 0] 67)=W4 at M4 R4 F4 |-;obtain⟨b,b9⟩:∃b,W3.heap.size=b:=⟨_,rfl⟩;rw[b9] at M4 h4 b7 d9 |-;clear b9 R3 F3;have S:b≠C:=by omega
 have c4:b≠x:=by omega
 refine(Er HL.out W4 C x _ 0 hN R4.out q HQ.out).mono ?_;rintro e Y ⟨rfl,e9,a8⟩;have R5:Hid (RSd K N Y C x (stX q) 0):=e9;have F5:Hid (Fr (fun _=>True) w Y):=F4.out.newerT a8 fun k hk=>by omega
 have M5:Hid (Iw Y b ⟨#[]⟩ (.slice none 0 0)):=M4.out.of a8 S;have M:Hid (OkS (stX q)->(Cb q).data.toList=Ao [] q):=fun o=>Dx o;clear e9 a8 R4 F4 M4 HQ;obtain⟨m,e5⟩:∃m,Cb q=m:=⟨_,rfl⟩;rw[e5] at M |-;clear e5;have x0:=Aa M5.out 0;have y0:=Ab M5.out 0;have a9:Fr (·≠b) Y (Y.setCell ⟨b,0,none⟩ (.string m)):=(Fr.refl _ Y).set (by simp) _;have M6:Hid (Iw (Y.setCell ⟨b,0,none⟩ (.string m)) b m (.slice none 0 0)):=M5.out.nam m;have R6:Hid (RSd K N (Y.setCell ⟨b,0,none⟩ (.string m)) C x (stX q) 0):=R5.out.fr a9 (Ne.symm S) (Ne.symm c4);have F6:Hid (Fr (fun _=>True) w (Y.setCell ⟨b,0,none⟩ (.string m))):=F5.out.newerT a9 fun k hk=>by omega
 clear a9;have a0:Hid (OkS (stX q)->Cq++[32]++Ao [] q++[10]=Cq++[32]++m.data.toList++[10]++Db []):=fun o=>by rw[M.out o];simp[Db]
 obtain⟨i0,g9,h6,h7,h8⟩:∃i0,Tryz.prog.info? 71=some i0/\i0.zero=some (.agg #[.string ⟨#[]⟩,.string ⟨#[]⟩,.int .i64 0,.slice none 0 0,.slice none 0 0,.pointer none])/\i0.size=6/\i0.bytes=96:=by
  have:=nG;cases hq:Tryz.prog.info? 71 with
  | none=>rw[hq] at this;simp at this
  | some j=>rw[hq] at this;simp at this;exact⟨j,rfl,this.1,this.2.1,this.2.2⟩
 have mo:=follows;go_upto_region 8 with fail
 clear x0 y0 M5 R5 F5 M;generalize Y.setCell ⟨b,0,none⟩ (.string m)=W6 at M6 R6 F6 |-;generalize Cq++[32]++Ao [] q++[10]=acc0 at Z a0;generalize stX q=y at Z a0 R6;go_loopg [] (f) (fun k wr=>∃(s:SX)(h:List UInt8)(n:Nat)(sl:Value)(R:List Value)(D:List (List UInt8)),n+k<=f/\Hid (RSd K N wr C x s 0)/\Hid (Iw wr b m sl)/\Hid (wr.ownsRow (b+1) 71 6 sl n R)/\Hid (OkS s->Eo (fun k=>b<k/\sl.ownBlock≠some k) wr D R/\n=D.length/\h=Cq++[32]++m.data.toList++[10]++Db D)/\Hid (Az s (fun j=>Fo K (Li K f) f k h j)=some r)/\Hid (Fr (fun _=>True) w wr))
 case atStart=>exact⟨y,acc0,0,.slice none 0 0,[],[],by omega,R6,M6,World.ownsRow_nil _ _ _ _,fun o=>⟨rfl,rfl,a0.out o⟩,Z,F6⟩
 case round =>
  clear R6 M6 F6 a0 Z;obtain⟨z,h,n,sl,R,D,j0,R1,M1,O1,E1,Q1,F1⟩:=hrel;obtain⟨O,Q,h2⟩:=Gi O1.out;subst h2;rcases z with⟨c,p⟩|i
  ·have HR:Hid (r=.error (c,p)):=by have:=Q1.out;simp only[Az,Option.some.injEq] at this;exact this.symm
   have e3:wr.cell? ⟨C,3,none⟩=some (.int .i64 (c:Int)):=R1.out.err.1;have a6:((c:Int)==0)=false:=R1.out.err.2 c p rfl;have i6:((c:Int) != 0)=true:=by have:=a6;rw[beq_eq_false_iff_ne] at this;rw[bne_iff_ne];exact this
   have c8:c≠0:=by have:=a6;rw[beq_eq_false_iff_ne] at this;omega
   have f7:Hid (c≠0):=c8;clear Q1 E1 O1 M1 c8;go_wp2_with fail
   go_quiet (fail)
   have R4:Hid (RSd K N (wr.drewN nq) C x (.error (c,p)) 0):=R1.out.grew ((Ad.refl wr).drewN nq);have F4:Hid (Fr (fun _=>True) w (wr.drewN nq)):=F1.out.trans (Fr.grew ((Ad.refl wr).drewN nq));clear e3 a6 R1 F1;generalize wr.drewN nq=W7 at R4 F4 |-;have HH:Hid (J8 w r (.returned (.tuple #[.pointer none,.int .i64 (p:Int),.int .i64 (c:Int)])) W7.drew):=by
    rw[HR.out];exact⟨F4.out.drew,f7.out,rfl⟩
   obtain⟨e3,e4⟩:=R4.out.faults;obtain⟨k3,k4⟩:=(R4.out.grew (Ad.refl W7).drew).faults;clear R4 F4;go_wp2_with fail
   go_big_region_o
   clear e3 e4 k3 k4;generalize W7.drew=WX at HH |-;go_wp2_with fail
   refine bodyPost_ret (v:=.tuple #[.pointer none,.int .i64 (p:Int),.int .i64 (c:Int)]) (by simp[results,Tryz.results11,go_sem]) rfl HH.out
  ·obtain⟨k,rfl⟩:∃k,gk=k+1:=by
    cases gk with
    | zero=>exact absurd Q1.out (by simp[Fo,Az])
    | succ k=>exact⟨k,rfl⟩
   have hp:=Q1.out;simp only[Az,Fo] at hp;obtain⟨b4,b5,b6⟩:=E1.out ⟨i,rfl⟩;have V1:Hid (Eo (fun k=>b<k/\(Value.slice O n Q).ownBlock≠some k) wr D R):=b4;have EN:Hid (n=D.length):=b5;have EA:Hid (h=Cq++[32]++m.data.toList++[10]++Db D):=b6;obtain⟨i1,i4,dd,hb,hI,i9,b8,t0,t1,t2⟩:=R1.out.open;obtain⟨T,u0,u1,u2⟩:=RS.cells hb b8 t0 t1 t2;have c0:=Aa hb 0;have c1:=Aa hb 1;have c3:=Aa hb 3;have k0:=Aa T 0;have k1:=Aa T 1;have k3:=Aa T 3;have g6:(i:Int)<((N+1:Nat):Int):=by omega
   have i7:=Ac hb;have g2:Ad wr wr.drew:=(Ad.refl _).drew;have R2:Hid (RSd K N wr.drew C x (.ok i) 0):=R1.out.grew g2;have X:Hid (Fr (fun _=>True) w wr.drew):=F1.out.drew;have M2:Hid (Iw wr.drew b m (.slice O n Q)):=M1.out.of (P:=fun _=>True) (Fr.grew g2) trivial;have O2:Hid (wr.drew.ownsRow (b+1) 71 6 (.slice O n Q) n R):=Cl O1.out (fun g _ _ hlt=>g2.below.block g hlt);have V2:Hid (Eo (fun k=>b<k/\(Value.slice O n Q).ownBlock≠some k) wr.drew D R):=Eo.fr (Fr.grew g2) (fun _ _ q=>q) _ _ V1.out;obtain⟨sb,W⟩:∃sb,Bn (K i).cl=sb:=⟨_,rfl⟩;rw[W] at t0 u0;clear g2 b4 b5 b6 E1 V1 R1 F1 M1 O1 Q1;by_cases h0:(K i).cl=0
   ·have HR:Hid (r=.ok (h,i)):=by rw[if_pos h0] at hp;simp only[okX,Option.some.injEq] at hp;exact hp.symm
    have f1:((sb:Int) != 101)=false:=by rw[<- W,h0];decide
    have HH:Hid (J8 w r (.returned (.tuple #[.pointer (some ⟨b,0,none⟩),.int .i64 0,.int .i64 0])) wr.drew):=by
     rw[HR.out];exact⟨X.out,b,rfl,m,_,n,R,D,M2.out,Lf (by omega) O2.out,EN.out,by omega,Eo.fr (Fr.refl _ _) (fun _ _ _=>trivial) _ _ V2.out,EA.out⟩
    clear hb T hp HR W h0 t1 t2 u1 u2 X M2 O2 V2 EN EA;go_wp2_with fail
    go_big_region_o
    clear c0 c1 c3 k0 k1 t0 u0 R2;generalize wr.drew=W7 at k3 HH |-;go_wp2_with fail
    refine bodyPost_ret (v:=.tuple #[.pointer (some ⟨b,0,none⟩),.int .i64 0,.int .i64 0]) (by simp[results,Tryz.results11,go_sem]) rfl HH.out
   ·have f1:((sb:Int) != 101)=true:=by
     rw[<- W,bne_iff_ne];unfold Bn;rw[if_neg h0]
     repeat' split
     all_goals decide
    rw[if_neg h0] at hp;obtain⟨B,e7,d8⟩:=A3 (s:=.ok i) (f:=Da K (Li K f) f) [] hp;have H1:Hid (Da K (Li K f) f i=some B):=e7;have f8:Hid (Az (stX B) (fun j=>Fo K (Li K f) f k (h++Ao [] B++[10]) j)=some r):=d8;clear hb T hp W h0 t1 t2 u1 u2 e7 d8;go_wp2_with fail
    go_big_region_o
    clear c0 c1 c3 k0 k1 k3 t0 u0 f1 g6;generalize wr.drew=W7 at R2 X M2 O2 V2 |-;go_wp2_with fail
    refine(fN HS.out HK.out HL.out hN W7 f i (by omega) R2.out B H1.out).mono ?_;rintro e t ⟨U,f0,v,rfl,⟨y,z,a,I,J,L,E,F,G,H,rfl⟩,c9⟩;have j2:=X.out.size;have i5:=Ac M2.out;have R8:Hid (RSd K N t C x (stX B) 0):=f0;have F8:Hid (Fr (fun _=>True) w t):=X.out.newerT U fun k hk=>by omega
    have M8:Hid (Iw t b m (.slice O n Q)):=M2.out.of U S;have O8:Hid (t.ownsRow (b+1) 71 6 (.slice O n Q) n R):=Cl O2.out (fun g _ hg hlt=>U.block g hlt (by omega));have V8:Hid (Eo (fun k=>b<k/\(Value.slice O n Q).ownBlock≠some k) t D R):=Eo.fr (U.mono fun k q=>by omega) (fun _ _ q=>q) _ _ V2.out;have a4:∀g,(Value.slice O n Q).ownBlock=some g->g<W7.heap.size:=fun g e=>(O2.out.lt g e).2;have b0:Hid (∀l j,B=.ok (l,j)->Lp (fun k=>b<k/\(Value.slice O n Q).ownBlock≠some k) t (.agg #[.string y,.string z,.int .i64 a,.slice I J L,.slice E F G,.pointer H]) l):=fun l j e=>((c9 l j e).foot ⟨_,_,_,_,_,_,_,_,_,_,rfl⟩).fr (Fr.refl _ _) fun k _ q=>⟨by omega,fun e=>by have:=a4 k e;omega⟩;clear U f0 c9 R2 X M2 O2 V2 a4 H1;go_wp2_with fail
    have h5:=F8.out.size;have g8:=Ac M8.out;have d:Hid (Ai (t.alloc (.cells #[.string y,.string z,.int .i64 a,.slice I J L,.slice E F G,.pointer H] 71)) t.heap.size y z a (.slice I J L) (.slice E F G) (.pointer H)):=Af rfl;have A9:Hid (Fr (fun _=>True) t (t.alloc (.cells #[.string y,.string z,.int .i64 a,.slice I J L,.slice E F G,.pointer H] 71))):=(Fr.refl _ t).alloc _;generalize t.alloc (.cells #[.string y,.string z,.int .i64 a,.slice I J L,.slice E F G,.pointer H] 71)=W9 at d A9 |-;obtain⟨bq,a5⟩:∃bq,t.heap.size=bq:=⟨_,rfl⟩;have i3:Hid (t.heap.size=bq):=a5;rw[a5] at d h5 g8 |-;clear a5;have M9:=M8.out.of A9.out trivial;have b3:=M8.out.of A9.out.drew trivial;have m1:=Aa M9 1;have h9:=Aa b3 1;have A:=d.out.of (P:=fun _=>True) (Fr.grew (Ad.refl W9).drew) trivial;have d0:=Aa d.out 0;have d1:=Aa d.out 1;have d2:=Aa d.out 2;have d3:=Aa d.out 3;have d4:=Aa d.out 4;have d5:=Aa d.out 5;have f9:=Aa A 0;have g0:=Aa A 1;have g1:=Aa A 2;have g3:=Aa A 3;have g4:=Aa A 4;have g5:=Aa A 5;have c5:bq<W9.heap.size:=Ac d.out;have c2:b<W9.heap.size:=Ac M9;have AA:Hid (Fr (fun _=>True) t (W9.drew.alloc (.cells #[.string y,.string z,.int .i64 a,.slice I J L,.slice E F G,.pointer H] 71))):=A9.out.drew.alloc _;have OW:Hid ((W9.drew.alloc (.cells #[.string y,.string z,.int .i64 a,.slice I J L,.slice E F G,.pointer H] 71)).ownsRow (b+1) 71 6 (.slice O n Q) n R):=Cl O8.out fun g _ hg hlt=>AA.out.block g hlt trivial;have NB:Hid ((W9.drew.alloc (.cells #[.string y,.string z,.int .i64 a,.slice I J L,.slice E F G,.pointer H] 71)).heap[W9.heap.size]?=some (.cells #[.string y,.string z,.int .i64 a,.slice I J L,.slice E F G,.pointer H] 71 (0,0))):=Af (by simp);have e2:n+1<=maxLen:=by unfold maxLen;omega
    have c7:(n+1)*96<=140737488355328:=by omega
    have LW:Hid (b+1<=(W9.drew.alloc (.cells #[.string y,.string z,.int .i64 a,.slice I J L,.slice E F G,.pointer H] 71)).heap.size):=by
     show _<=_;simp;omega
    have M:Hid (∀u∈[Value.string y,.string z,.int .i64 a,.slice I J L,.slice E F G,.pointer H],u.oneCell'=true):=nQ rfl rfl rfl rfl rfl rfl;have b1:Hid (∀(g cap:Nat)(w9:World),w9.ownsRow (b+1) 71 6 (.slice (some ⟨g,0,none⟩) (n+1) cap) (n+1) (R++[.string y,.string z,.int .i64 a,.slice I J L,.slice E F G,.pointer H])->(W9.drew.alloc (.cells #[.string y,.string z,.int .i64 a,.slice I J L,.slice E F G,.pointer H] 71)).grownBy w9 (Value.slice O n Q).ownBlock->((Value.slice O n Q).ownBlock=some g\/t.heap.size<=g)->_):=fun g cap w9 ho hg hat=>iZ (l:=Ao [] B) R8.out M8.out O8.out (fun o=>⟨V8.out,by obtain⟨j1,e1⟩:=Ci ([]:List UInt8) o;exact b0.out _ _ e1⟩) F8.out (by omega) b7 d9.1 AA.out ho hg hat;clear M9 b3 A;go_region_law (refine step_append_lies _ rfl _ _ 65 rfl (b+1) 71 i0 _ 6 96 Tryz.underlying65 g9 h6 h7 h8 rfl (by decide) (.slice O n Q) _ R (by simp[Act.eval]) OW.out ⟨W9.heap.size,0,none⟩ 1 1 [.string y,.string z,.int .i64 a,.slice I J L,.slice E F G,.pointer H] (by simp[Act.eval]) rfl (World.news_of_block NB.out) M.out (by decide) e2 c7 LW.out (W9.heap.size+1) (by simp) ?_;intro g a2 w9 e6 d7 hat e0;obtain⟨a1,f2,f3,f4,f5,f6⟩:=b1.out g a2 w9 e6 d7 (hat.imp id (fun e=>by have:=A9.out.size;omega));have z1:=Aa a1 1;have z2:=Ab a1 1;have zl:=Ac a1;have RX:Hid (RSd _ _ _ _ _ _ _):=f2;have MX:Hid (Iw _ _ _ _):=f3;have OX:Hid (World.ownsRow _ _ _ _ _ _ _):=f4;have VX:Hid (OkS _->Eo _ _ _ _):=f5;have FX:Hid (Fr _ _ _):=f6;clear e6 d7 hat e0 a1 f2 f3 f4 f5 f6)
    all_goals
     clear d0 d1 d2 d3 d4 d5 f9 g0 g1 g3 g4 g5 m1 h9 z1 z2 zl b1 M LW NB OW AA A9 d R8 F8 M8 O8 V8 b0 e2 c7 c5 c2;have EE:Hid (OkS (stX B)->Eo (fun k=>b<k/\(Value.slice (some ⟨g,0,none⟩) (n+1) a2).ownBlock≠some k) _ (D++[Ao [] B]) _/\n+1=(D++[Ao [] B]).length/\h++Ao [] B++[10]=Cq++[32]++m.data.toList++[10]++Db (D++[Ao [] B])):=fun o=>⟨VX.out o,by rw[List.length_append,EN.out];rfl,by rw[EA.out,Mg];simp⟩;clear VX EN EA;generalize w9.setCell ⟨b,1,none⟩ _=WX at RX MX OX EE FX |-;go_wp2_with fail
     go_roundg k
     case measure=>omega
     case rel=>exact⟨stX B,h++Ao [] B++[10],n+1,_,_,D++[Ao [] B],by omega,RX,MX,OX,EE,f8,FX⟩
end Go.Proofs.YtjbfcadeapphbaaGreatDoor.Sx
