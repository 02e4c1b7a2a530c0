/- The reference: expressions that begin with a word that binds. -/
import Derived.Test.YtjbfcadeapphbaaGreatDoorE22
import Derived.Deep.AppendLies
import Derived.Deep.LoopGhost
namespace Go.Proofs.YtjbfcadeapphbaaGreatDoor.Sx
set_option maxRecDepth 100000
set_option maxHeartbeats 2000000
open Go.RowKit Go.Sort
def noX:PX:=B8 []
theorem Dm {β:Type}{s:SX}{x:β}{r:Except (Nat×Nat) (β×Nat)}(h:Ay s (fun j=>okX x j)=some r):stX r=s/\∀y j,r=.ok (y,j)->y=x:=by
 rcases s with e|i
 ·obtain rfl:.error e=r:=by simpa [Ay] using h
  exact⟨rfl,fun y j q=>by simp at q⟩
 ·obtain rfl:.ok (x,i)=r:=by simpa [Ay,okX] using h
  exact⟨rfl,fun y j q=>by simp at q;exact q.1.symm⟩
theorem Cp {β:Type}(z:β){r:Except (Nat×Nat) (β×Nat)}(h:OkS (stX r)):∃j,r=.ok (Au z r,j):=by
 rcases r with e|⟨x,j⟩
 ·obtain⟨i,a⟩:=h;simp[stX] at a
 ·exact⟨j,rfl⟩
theorem Iy {r:Except (Nat×Nat) (List UInt8×Nat)}(h:OkS (stX r)):(C4 r).data.toList=Au [] r:=by
 rcases r with e|⟨x,j⟩
 ·obtain⟨i,a⟩:=h;simp[stX] at a
 ·rfl
theorem Ee {β:Type}{x:β}{j:Nat}{r:Except (Nat×Nat) (β×Nat)}(h:r=.ok (x,j)):OkS (stX r):=⟨j,by rw[h];rfl⟩
theorem Ka {K:Nat->Tk}{N:Nat}(hL:Bn K N)(w:World)(br bl:Nat)(s:SX)(d:Nat)(hN:N<=1000000)(h:RSd K N w br bl s d)(r:Except (Nat×Nat) (List UInt8×Nat))(hr:Ay s (C0 K)=some r) :
  Calls Tryz.prog 26 #[.pointer (some ⟨br,0,none⟩)] w fun e w'=>e=.returned (.string (C4 r))/\RSd K N w' br bl (stX r) d/\Fr (·≠br) w w':=by
 obtain⟨a,h,e⟩:=h;refine(Yh hL w br bl s a hN h r hr).mono ?_;rintro f w' ⟨rfl,b,c⟩;exact⟨rfl,⟨a,b,fun o=>e (Es hr o)⟩,c⟩
theorem Fr.wide {br be:Nat}{w w':World}(h:Fr (·≠br) w w'):Fr (fun k=>k≠br/\k≠be) w w':=h.mono fun _ q=>q.1
theorem dF {w:World}{be lo:Nat}{op nm tx:ByteArray}{a0 k0 n0:Int}{pa:Option Addr}{len cap m:Nat}(he:Ao w be op a0 nm k0 n0 tx pa len cap){vs:Array Value}{kids:List PX}(hm:m=kids.length)(hm4:m<=4294967296)
  (hk:∀(i:Nat)(x:PX),kids[i]?=some x->∃v,vs[i]?=some v/\Ag (fun k=>lo<=k/\k≠be) w x v) (hlo:lo<=w.heap.size) {x:PX} (hx:Fo op.data.toList nm.data.toList k0 n0 tx.data.toList kids x) :
  Ag (fun k=>k=be\/lo<=k) ((w.setCell ⟨be,8,none⟩ (.slice (some ⟨w.heap.size,0,none⟩) m m)).alloc (.cells vs 26 (0,0))) x (.pointer (some ⟨be,0,none⟩)):=by
 have c:Fr (·≠be) w ((w.setCell ⟨be,8,none⟩ (.slice (some ⟨w.heap.size,0,none⟩) m m)).alloc (.cells vs 26 (0,0))):=((Fr.refl _ w).set (by simp) _).alloc _;have b:Ao ((w.setCell ⟨be,8,none⟩ (.slice (some ⟨w.heap.size,0,none⟩) m m)).alloc (.cells vs 26 (0,0))) be op a0 nm k0 n0 tx (some ⟨w.heap.size,0,none⟩) m m:=(he.kids _ _ _).of (P:=fun _=>True) ((Fr.refl _ _).alloc _) trivial;have a:((w.setCell ⟨be,8,none⟩ (.slice (some ⟨w.heap.size,0,none⟩) m m)).alloc (.cells vs 26 (0,0))).heap[w.heap.size]?=some (.cells vs 26 (0,0)):=Al (by simp);refine Ag.node ⟨be,op,nm,tx,a0,k0,n0,_,m,m,kids,rfl,.inl rfl,b,⟨hm,hm4,.inr ⟨w.heap.size,0,rfl,Ab a,.inr hlo,fun i x q=>?_⟩⟩,hx⟩;obtain⟨v,e,d⟩:=hk i x q;exact⟨v,by rw[Nat.zero_add,Aa a];exact e,d.fr (c.mono fun k q=>q.2) fun k _ q=>.inr q.1⟩
def aR (K:Nat->Tk)(self:Nat->Nat->Nat->RX PX)(mk:List UInt8)(q d:Nat)(D:List UInt8->PX->PX->PX)(i:Nat):RX PX :=
 bX (C0 K i) fun n j=>Cj K mk j fun j=>bX (self q d j) fun a j=>Cj K [58] j fun j=>bX (self 0 d j) fun b j=>okX (D n a b) j
theorem H7 {K:Nat->Tk}{N br bl:Nat}{self:Nat->Nat->Nat->RX PX}(hS:Cv K N br bl self)(hK:∀i,Bz (K i))(hL:Bn K N)(hN:N<=1000000)(w:World)(be d:Nat)(s:SX)(op:ByteArray)(a0:Int)(hd:OkS s->d<=24)(hbe:be≠br)(hbl:be≠bl)(h:RSd K N w br bl s d)(he:Ao w be op a0 ⟨#[]⟩ 0 0 ⟨#[]⟩ none 0 0)
  (mk:ByteArray) (q:Nat) (D:List UInt8->PX->PX->PX) (hmq:op.data.toList=Hk/\mk=⟨#[61]⟩/\q=0\/op.data.toList≠Hk/\mk=⟨#[105,110]⟩/\q=8) (hM:∀n a b,Fo op.data.toList n 0 0 [] [a,b] (D n a b))
  (r:Except (Nat×Nat) (PX×Nat)) (hr:Ay s (aR K self mk.data.toList q d D)=some r) :
  Calls Tryz.prog 74 #[.pointer (some ⟨br,0,none⟩),.pointer (some ⟨be,0,none⟩)] w (eU K N w br bl be d r):=by
 have HS:Hid (Cv K N br bl self):=hS;have HK:Hid (∀i,Bz (K i)):=hK;have HL:Hid (Bn K N):=hL;have HE:Hid (Ao w be op a0 ⟨#[]⟩ 0 0 ⟨#[]⟩ none 0 0):=he;have HM:Hid (∀n a b,Fo op.data.toList n 0 0 [] [a,b] (D n a b)):=hM;obtain⟨c,A,hr⟩:=Bx [] hr;have hr:=Eu hr;obtain⟨f,B,hr⟩:=Bx noX hr;have hr:=Eu hr;obtain⟨u,h3,hr⟩:=Bx noX hr;have HR:Hid (stX r=stX u/\∀y j,r=.ok (y,j)->y=D (Au [] c) (Au noX f) (Au noX u)):=Dm hr;have a1:Hid (OkS (stX u)->OkS (stX f)):=fun o=>Di (Es h3 o);have M:Hid (OkS (stX f)->OkS (stX c)):=fun o=>Di (Es B o);have J:Hid (OkS (stX c)->d<=24):=fun o=>hd (Es A o);have L:Hid (Calls _ _ _ _ _):=Ka hL w br bl s d hN h c A;have H2:Hid (Ay (Cl K (stX c) mk.data.toList) (self q d)=some f):=B;have H3:Hid (Ay (Cl K (stX f) [58]) (self 0 d)=some u):=h3;have a9:=h.lt;obtain⟨a3,a4⟩:=h.row;have Y:op.toList=op.data.toList:=ByteArray.toList_eq op;have a2:mk.data.toList∈C3:=by rcases hmq with⟨-,rfl,-⟩|⟨-,rfl,-⟩<;>decide
 have Q:q<=12:=by omega
 have hq:(op.toList==[108,101,116])=true/\mk=⟨#[61]⟩/\q=0\/(op.toList==[108,101,116])=false/\mk=⟨#[105,110]⟩/\q=8:=by
  rw[Y];rcases hmq with⟨e,A,B⟩|⟨e,A,B⟩
  ·exact .inl ⟨by rw[e];rfl,A,B⟩
  ·exact .inr ⟨by simpa [Hk] using e,A,B⟩
 clear hS hK hL he hM h hr A B h3 Y hmq hd;have mo:=follows;go_enter Tryz.func74,Tryz.ntmps74
 go_wp2_with fail
 refine L.out.mono ?_;rintro e g ⟨rfl,R,C⟩;have R1:Hid (RSd K N g br bl (stX c) d):=R;have F1:Hid (Fr (fun k=>k≠br/\k≠be) w g):=C.wide;have I:Hid (Ao g be op a0 ⟨#[]⟩ 0 0 ⟨#[]⟩ none 0 0):=HE.out.of C hbe;have c0:=Aa I.out 0;have c2:=Aa I.out 2;have f2:=Ac I.out 2;clear R C L HE;have E2:Hid (Ao (g.setCell ⟨be,2,none⟩ (.string (C4 c))) be op a0 (C4 c) 0 0 ⟨#[]⟩ none 0 0):=I.out.name _;have G:Fr (·≠be) g (g.setCell ⟨be,2,none⟩ (.string (C4 c))):=(Fr.refl _ g).set (by simp) _;have R2:Hid (RSd K N (g.setCell ⟨be,2,none⟩ (.string (C4 c))) br bl (stX c) d):=R1.out.fr G (Ne.symm hbe) (Ne.symm hbl);have F2:Hid (Fr (fun k=>k≠br/\k≠be) w (g.setCell ⟨be,2,none⟩ (.string (C4 c)))):=F1.out.trans (G.mono fun _ q=>q.2);clear G I R1 F1;rcases hq with⟨hq,rfl,rfl⟩|⟨hq,rfl,rfl⟩
 all_goals
  go_wp2_with fail
  clear c0 c2 f2;generalize g.setCell ⟨be,2,none⟩ (.string (C4 c))=w2 at E2 R2 F2 |-;refine(Dz HK.out HL.out w2 br bl _ d _ a2 hN R2.out).mono ?_;rintro e v ⟨rfl,S,E⟩;have R3:Hid (RSd K N v br bl _ d):=S;have F3:Hid (Fr (fun k=>k≠br/\k≠be) w v):=F2.out.trans E.wide;have E3:Hid (Ao v be op a0 (C4 c) 0 0 ⟨#[]⟩ none 0 0):=E2.out.of E hbe;clear S E E2 R2 F2;go_wp2_with fail
  refine(HS.out v _ d _ f Q (fun o=>J.out (Di o)) R3.out H2.out).mono ?_;rintro e Z ⟨F,T,O,rfl,W⟩;have R4:Hid (RSd K N Z br bl (stX f) d):=T;have F4:Hid (Fr (fun k=>k≠br/\k≠be) w Z):=F3.out.trans F.wide;have E4:Hid (Ao Z be op a0 (C4 c) 0 0 ⟨#[]⟩ none 0 0):=E3.out.of F hbe;have A4:Hid (∀x j,f=.ok (x,j)->Ag (fun k=>v.heap.size<=k) Z x (.pointer (some ⟨O,0,none⟩))):=W;have b0:=F3.out.size;have a6:be<v.heap.size:=Ab E3.out;have a5:=R3.out.lt;clear T F W E3 R3 F3;go_wp2_with fail
  refine(Dz HK.out HL.out Z br bl _ d ⟨#[58]⟩ (by decide) hN R4.out).mono ?_;rintro e H ⟨rfl,U,p⟩;have R5:Hid (RSd K N H br bl (Cl K (stX f) [58]) d):=U;have F5:Hid (Fr (fun k=>k≠br/\k≠be) w H):=F4.out.trans p.wide;have E5:Hid (Ao H be op a0 (C4 c) 0 0 ⟨#[]⟩ none 0 0):=E4.out.of p hbe;have A5:Hid (∀x j,f=.ok (x,j)->Ag (fun k=>v.heap.size<=k) H x (.pointer (some ⟨O,0,none⟩))):=fun x j e=>(A4.out x j e).fr (p.mono fun k q=>by omega) fun _ _ q=>q;clear U p E4 R4 F4 A4;go_wp2_with fail
  refine(HS.out H 0 d _ u (by omega) (fun o=>J.out (M.out (Di o))) R5.out H3.out).mono ?_;rintro e l ⟨t,V,bb,rfl,X⟩;have R6:Hid (RSd K N l br bl (stX u) d):=V;have F6:Hid (Fr (fun k=>k≠br/\k≠be) w l):=F5.out.trans t.wide;have E6:Hid (Ao l be op a0 (C4 c) 0 0 ⟨#[]⟩ none 0 0):=E5.out.of t hbe;have A6:Hid (∀x j,f=.ok (x,j)->Ag (fun k=>v.heap.size<=k) l x (.pointer (some ⟨O,0,none⟩))):=fun x j e=>(A5.out x j e).fr (t.mono fun k q=>by omega) fun _ _ q=>q;have B6:Hid (∀x j,u=.ok (x,j)->Ag (fun k=>H.heap.size<=k) l x (.pointer (some ⟨bb,0,none⟩))):=X;have b1:=F5.out.size;have a7:be<H.heap.size:=Ab E5.out;have b2:=F6.out.size;have c8:=Aa E6.out 8;have f8:=Ac E6.out 8;have a8:be<l.heap.size:=Ab E6.out;clear V t X E5 R5 F5 A5;go_wp2_with fail
  go_end0
  have P:Fr (·≠be) l ((l.setCell ⟨be,8,none⟩ (.slice (some ⟨l.heap.size,0,none⟩) 2 2)).alloc (.cells #[.pointer (some ⟨O,0,none⟩),.pointer (some ⟨bb,0,none⟩)] 26)):=((Fr.refl _ l).set (by simp) _).alloc _;refine⟨rfl,F6.out.trans (P.mono fun _ q=>q.2),by rw[HR.out.1];exact R6.out.fr P (Ne.symm hbe) (Ne.symm hbl),fun x j e=>?_⟩;have o3:OkS (stX u):=by rw[<- HR.out.1];exact Ee e
  have o2:=a1.out o3;have o1:=M.out o2;obtain⟨j2,e2⟩:=Cp noX o2;obtain⟨j3,e3⟩:=Cp noX o3;rw[HR.out.2 x j e];exact dF (lo:=w.heap.size) E6.out (m:=2) (vs:=#[.pointer (some ⟨O,0,none⟩),.pointer (some ⟨bb,0,none⟩)]) (kids:=[Au noX f,Au noX u]) rfl (by omega) (fun k z qz=>by
   match k with
   | 0=>simp at qz;subst qz;exact⟨_,rfl,(A6.out _ _ e2).fr (Fr.refl _ _) fun _ _ q=>by omega⟩
   | 1=>simp at qz;subst qz;exact⟨_,rfl,(B6.out _ _ e3).fr (Fr.refl _ _) fun _ _ q=>by omega⟩
   | k+2=>simp at qz) (by omega) (by rw[Iy o1];exact HM.out _ _ _)
theorem Wu:(Tryz.prog.info? 26).map (fun i=>(i.zero,i.size,i.bytes))=some (some (.pointer none),1,8):=by kernel_rfl
theorem aS {w w':World}{base:Nat}{sl:Value}{n:Nat}{vs:List Value}(h:w.ownsRow base 26 1 sl n vs)(hb:∀g,sl.ownBlock=some g->base<=g->g<w.heap.size->w'.heap[g]?=w.heap[g]?):w'.ownsRow base 26 1 sl n vs:=by
 refine⟨h.1,?_⟩;rcases h.2 with f|⟨g,a,b,e,c,d,r⟩
 ·exact .inl f
 ·exact .inr ⟨g,a,b,e,c,(hb g (by rw[e];rfl) c (Ab d)).trans d,r⟩
def LTS (w:World)(lo:Nat)(sl:Value)(n:Nat)(es:List PX)(c:Prop):Prop :=
 ∃vs,w.ownsRow lo 26 1 sl n vs/\(c->n=es.length/\∀(i:Nat)(x:PX),es[i]?=some x->∃v,vs[i]?=some v/\Ag (fun k=>lo<=k/\sl.ownBlock≠some k) w x v)
theorem LTS.nil (w:World)(lo:Nat)(c:Prop):LTS w lo (.slice none 0 0) 0 [] c:=⟨[],World.ownsRow_nil _ _ _ _,fun _=>⟨rfl,fun i x q=>by simp at q⟩⟩
theorem LTS.fr {w w':World}{lo br n:Nat}{sl:Value}{es:List PX}{c c':Prop}(h:LTS w lo sl n es c)(hc:c'->c)(f:Fr (·≠br) w w')(hbr:br<lo):LTS w' lo sl n es c':=by
 obtain⟨m,a,b⟩:=h;refine⟨m,aS a (fun g _ hg hlt=>f.block g hlt (by omega)),fun q=>?_⟩;obtain⟨d,e⟩:=b (hc q);refine⟨d,fun i x q=>?_⟩;obtain⟨v,l,j⟩:=e i x q;exact⟨v,l,j.fr (f.mono fun k hk=>by have:=hk.1;omega) fun _ _ q=>q⟩
theorem LTS.slice {w:World}{lo n:Nat}{sl:Value}{es:List PX}{c:Prop}(h:LTS w lo sl n es c):∃a cap,sl=.slice a n cap:=by
 obtain⟨f,d,-⟩:=h;rcases d.2 with⟨rfl,e⟩|⟨g,cap,b,rfl,-⟩
 ·exact⟨none,0,by rw[e]⟩
 ·exact⟨_,cap,rfl⟩
theorem LTS.row {w:World}{lo n cap:Nat}{a:Option Addr}{es:List PX}{c:Prop}(h:LTS w lo (.slice a n cap) n es c)(hl:n<=4294967296)(hc:c):Bh (fun k=>lo<=k) w (Ag (fun k=>lo<=k) w) a n es:=by
 obtain⟨A,m,o⟩:=h;obtain⟨f,p⟩:=o hc;rcases m.2 with⟨e,u⟩|⟨g,d,l,e,t,j,s,_,z,y⟩
 ·exact⟨f,hl,.inl u⟩
 ·injection e with e1 e2 e3
  subst e1;refine⟨f,hl,.inr ⟨g,0,rfl,Ab j,t,fun i x q=>?_⟩⟩;obtain⟨v,b,r⟩:=p i x q;refine⟨v,?_,r.fr (Fr.refl _ _) fun _ _ q=>q.1⟩;rw[Nat.zero_add,Aa j];rw[<- y,List.getElem?_take] at b;split at b
  ·simpa using b
  ·simp at b
theorem LTS.push {w1 w2:World}{lo lx g cap n b:Nat}{es:List PX}{sl:Value}{vs:List Value}{x:PX}{c c':Prop}{o:Obj}(hc:c'->c)
  (h1:w1.ownsRow lo 26 1 sl n vs) (h2:c->n=es.length/\∀(i:Nat)(x:PX),es[i]?=some x->∃v,vs[i]?=some v/\Ag (fun k=>lo<=k/\sl.ownBlock≠some k) w1 x v)
  (hx:c'->Ag (fun k=>lx<=k) w1 x (.pointer (some ⟨b,0,none⟩))) (hlx:lo<=lx) (hsl:∀q,sl.ownBlock=some q->q<lx)
  (ho:w2.ownsRow lo 26 1 (.slice (some ⟨g,0,none⟩) (n+1) cap) (n+1) (vs++[.pointer (some ⟨b,0,none⟩)])) (hg:(w1.alloc o).grownBy w2 sl.ownBlock) (hat:sl.ownBlock=some g\/g=w1.heap.size+1) :
  LTS w2 lo (.slice (some ⟨g,0,none⟩) (n+1) cap) (n+1) (es++[x]) c'/\Fr (fun k=>sl.ownBlock≠some k) w1 w2:=by
 have d:=World.grownBy_alloc w1 o sl.ownBlock;have j:Fr (fun k=>sl.ownBlock≠some k) w1 w2:=⟨hg.os.trans d.os,hg.tape.trans d.tape,hg.output.trans d.output,Nat.le_trans d.size hg.size,fun k hk hp=>(hg.block k (Nat.lt_of_lt_of_le hk d.size) (fun e=>hp e.symm)).trans (d.block k hk (fun e=>hp e.symm))⟩;refine⟨⟨_,ho,fun q=>?_⟩,j⟩;obtain⟨l,m⟩:=h2 (hc q);have h:vs.length=es.length:=by have:=h1.1;omega
 have a:∀(z:PX)(t:Value),Ag (fun k=>lo<=k/\sl.ownBlock≠some k) w1 z t->Ag (fun k=>lo<=k/\(Value.slice (some ⟨g,0,none⟩) (n+1) cap).ownBlock≠some k) w2 z t:=by
  intro z t u;refine u.fr (j.mono fun _ q=>q.2) fun k hk hp=>⟨hp.1,fun e=>?_⟩;simp only[Value.ownBlock,Option.some.injEq] at e;subst e;rcases hat with q|q
  ·exact hp.2 q
  ·omega
 refine⟨by rw[List.length_append,l];rfl,fun i y qy=>?_⟩;by_cases r:i<es.length
 ·rw[List.getElem?_append_left r] at qy;obtain⟨w,s,p⟩:=m i y qy;exact⟨w,by rw[List.getElem?_append_left (by omega)];exact s,a _ _ p⟩
 ·have f:i=es.length:=by
   have:=(List.getElem?_eq_some_iff.1 qy).1;simp at this;omega
  subst f;rw[List.getElem?_append_right (Nat.le_refl _)] at qy;simp at qy;subst qy;exact⟨_,by rw[List.getElem?_append_right (by omega)];simp[h],a _ _ ((hx q).fr (Fr.refl _ _) fun k _ hk=>⟨by omega,fun e=>by have:=hsl k e;omega⟩)⟩
def aT (K:Nat->Tk)(N:Nat)(w:World)(br bl d:Nat)(r:Except (Nat×Nat) (List PX×Nat))(e:Ending)(w':World):Prop :=
 Fr (·≠br) w w'/\RSd K N w' br bl (stX r) d/\∃a len cap,e=.returned (.slice a len cap)/\∀l j,r=.ok (l,j)->Bh (fun k=>w.heap.size<=k) w' (Ag (fun k=>w.heap.size<=k) w') a len l
theorem Kw {K:Nat->Tk}{β:Type}{item:Nat->RX β}{cl:List UInt8}{s1:SX}{f:Nat}{acc:List β}{r:Except (Nat×Nat) (List β×Nat)}(hb:isS K s1 [44]=true)(hc:cl≠[44])
  (hk:Ay s1 (fun j=>if (K j).tx==cl then okX acc (j+1) else Cj K [44] j fun j=>Bq K cl item f acc j)=some r):∃j,Cn K s1 [44]=.ok (j+1)/\OkS s1/\Bq K cl item f acc (j+1)=some r:=by
 rcases s1 with e|j
 ·simp[isS] at hb
 ·have a:((K j).tx==[44])=true:=hb;have b:((K j).tx==cl)=false:=by
   rw[eq_of_beq a];rw[beq_eq_false_iff_ne];exact Ne.symm hc
  simp only[Ay,b,Cj,a] at hk;exact⟨j,by simp only[Cn,a];rfl,⟨j,rfl⟩,by simpa using hk⟩
theorem Kx {K:Nat->Tk}{β:Type}{item:Nat->RX β}{cl:List UInt8}{s1:SX}{f:Nat}{acc:List β}{r:Except (Nat×Nat) (List β×Nat)}(hb:isS K s1 [44]=false)
  (hk:Ay s1 (fun j=>if (K j).tx==cl then okX acc (j+1) else Cj K [44] j fun j=>Bq K cl item f acc j)=some r):Cn K s1 [44]=s1/\Ay (Cl K s1 cl) (fun j=>okX acc j)=some r:=by
 rcases s1 with e|j
 ·exact⟨rfl,hk⟩
 ·have a:((K j).tx==[44])=false:=hb;refine⟨by simp only[Cn,a];rfl,?_⟩;simp only[Ay,Cj,a,Cl] at hk |-;cases b:(K j).tx==cl with
  | true=>rw[b] at hk;exact hk
  | false=>rw[b] at hk;simpa [Cz] using hk
theorem cK {K:Nat->Tk}{s:SX}{m:List UInt8}(h:OkS (Cn K s m)):OkS s:=by
 rcases s with e|i
 ·obtain⟨j,a⟩:=h;simp[Cn] at a
 ·exact⟨i,rfl⟩
theorem Fc {K:Nat->Tk}{N:Nat}(hK:∀i,Bz (K i))(hL:Bn K N)(w:World)(br bl:Nat)(s:SX)(d:Nat)(m:ByteArray)(hm:m.data.toList∈C3)(hN:N<=1000000)(h:RSd K N w br bl s d) :
  Calls Tryz.prog 46 #[.pointer (some ⟨br,0,none⟩),.string m] w fun e w'=>e=.returned (.bool (isS K s m.data.toList))/\RSd K N w' br bl (Cn K s m.data.toList) d/\Fr (·≠br) w w':=by
 obtain⟨a,h,e⟩:=h;refine(Ou hK hL w br bl s a m hm hN h).mono ?_;rintro f w' ⟨rfl,b,c⟩;exact⟨rfl,⟨a,b,fun o=>e (cK o)⟩,c⟩
theorem RSd.err {K:Nat->Tk}{N br bl:Nat}{w:World}{s:SX}{d:Nat}(h:RSd K N w br bl s d):w.cell? ⟨br,3,none⟩=some (.int .i64 (ec s))/\∀c p,s=.error (c,p)->((c:Int)==0)=false:=by
 obtain⟨g,h,-⟩:=h;have f:=h.fault;obtain⟨b,I,a,e,-⟩:=h;exact⟨Aa e 3,f⟩
theorem Ow {K:Nat->Tk}{N br bl:Nat}{self:Nat->Nat->Nat->RX PX}(hS:Cv K N br bl self)(hK:∀i,Bz (K i))(hL:Bn K N)(hN:N<=1000000)(w:World)(d m:Nat)(s:SX)(cl:ByteArray)(hd:OkS s->d<=24)(hm:m<=1000000)(hcl:cl.data.toList∈C3)(hc44:cl.data.toList≠[44])(h:RSd K N w br bl s d)
  (r:Except (Nat×Nat) (List PX×Nat)) (hr:Ay s (Bq K cl.data.toList (self 0 d) m [])=some r) :
  Calls Tryz.prog 108 #[.pointer (some ⟨br,0,none⟩),.string cl,.int .i64 1,.bool false] w (aT K N w br bl d r):=by
 have HS:Hid (Cv K N br bl self):=hS;have HK:Hid (∀i,Bz (K i)):=hK;have HL:Hid (Bn K N):=hL;have HR:Hid (RSd K N w br bl s d):=h;have H0:Hid (Ay s (Bq K cl.data.toList (self 0 d) m [])=some r):=hr;have b2:Hid (OkS s->d<=24):=hd;have F:=h.lt;have a5:=h.row.1;obtain⟨V,b5,b7,b8,b9⟩:∃V,Tryz.prog.info? 26=some V/\V.zero=some (.pointer none)/\V.size=1/\V.bytes=8:=by
  have:=Wu;cases hq:Tryz.prog.info? 26 with
  | none=>rw[hq] at this;simp at this
  | some j=>rw[hq] at this;simp at this;exact⟨j,rfl,this.1,this.2.1,this.2.2⟩
 clear hS hK hL h hr hd;have mo:=follows;go_enter Tryz.func108,Tryz.ntmps108
 go_wp2_with fail
 go_loopg [9] (m) (fun f s9 wr=>∃(s:SX)(D:List PX)(n:Nat),n+f<=1000000/\Hid (OkS s->d<=24)/\Hid (RSd K N wr br bl s d)/\Hid (LTS wr w.heap.size s9 n D (OkS s))/\Hid (Ay s (Bq K cl.data.toList (self 0 d) f D)=some r)/\Hid (Fr (·≠br) w wr))
 case atStart=>exact⟨s,[],0,by simpa using hm,b2,HR,LTS.nil _ _ _,H0,Fr.refl _ _⟩
 case round =>
  clear HR H0;obtain⟨s1,D,n,c0,b3,R1,L1,Z,F1⟩:=hrel;obtain⟨S,a,M⟩:=L1.out.slice;subst M;obtain⟨e3,t⟩:=R1.out.err;rcases s1 with⟨c,p⟩|i
  ·have hc:=t c p rfl;simp only[ec] at e3;have HQ:Hid (r=.error (c,p)):=by have:=Z.out;simp only[Ay,Option.some.injEq] at this;exact this.symm
   clear t Z;go_wp2_with fail
   refine(Dz HK.out HL.out wr br bl _ d cl hcl hN R1.out).mono ?_;rintro e O ⟨rfl,H,z⟩;have R2:Hid (RSd K N O br bl (.error (c,p)) d):=H;have J:Hid (Fr (·≠br) w O):=F1.out.trans z;clear H z e3;go_wp2_with fail
   go_ret
   rw[HQ.out];exact⟨J.out,R2.out,S,n,a,rfl,fun l j e=>by simp at e⟩
  ·obtain⟨f,rfl⟩:∃f,gk=f+1:=by
    cases gk with
    | zero=>exact absurd Z.out (by simp[Bq,Ay])
    | succ f=>exact⟨f,rfl⟩
   simp only[ec] at e3;have hp:=Z.out;simp only[Bq] at hp;obtain⟨b,h1,hk⟩:=Bx noX hp;have hd:=b3.out ⟨i,rfl⟩;clear t Z hp;go_wp2_with fail
   refine(HS.out wr 0 d _ b (by omega) (fun _=>hd) R1.out h1).mono ?_;rintro e O ⟨z,H,bx,rfl,b1⟩;have R2:Hid (RSd K N O br bl (stX b) d):=H;have J:Hid (Fr (·≠br) w O):=F1.out.trans z;have T2:Hid (OkS (stX b)->Ag (fun k=>wr.heap.size<=k) O (Au noX b) (.pointer (some ⟨bx,0,none⟩))):=fun o=>by
    obtain⟨j,e⟩:=Cp noX o;exact b1 _ _ e
   have b6:=F1.out.size;have c1:=J.out.size;have c2:=z.size;have M:∀q,(Value.slice S n a).ownBlock=some q->q<wr.heap.size:=by
    obtain⟨vs,q1,-⟩:=L1.out;intro q hq;exact(q1.lt q hq).2
   obtain⟨vs,ho,a0⟩:=L1.out.fr (c':=OkS (stX b)) (fun _=>⟨i,rfl⟩) z F;have HO:Hid (O.ownsRow w.heap.size 26 1 (.slice S n a) n vs):=ho;have W:Hid (OkS (stX b)->_):=a0;have Y:Hid (∀q,(Value.slice S n a).ownBlock=some q->q<wr.heap.size):=M;have X:Hid ((O.alloc (.cells #[.pointer (some ⟨bx,0,none⟩)] 26)).ownsRow w.heap.size 26 1 (.slice S n a) n vs):=ho.alloc _;clear H z b1 ho a0 M R1 F1 L1 h1 e3;go_wp2_with (at_builtin;refine wpList_append_lies _ rfl _ _ 93 rfl _ 26 V _ 1 8 Tryz.underlying93 b5 b7 b8 b9 rfl (by decide) (.slice S n a) _ vs rfl X.out _ 1 1 [.pointer (some ⟨bx,0,none⟩)] rfl rfl ?q1 ?q2 (by decide) ?q3 ?q4 ?q5 (O.heap.size+1) ?q6 ?_)
   case q1 =>
    intro k u hk
    match k,hk with
    | 0,hk=>simp at hk;subst hk;simp[Addr.add]
    | k+1,hk=>simp at hk
   case q2 =>
    intro u hu;simp only[List.mem_cons,List.not_mem_nil,or_false] at hu;subst hu;rfl
   case q3=>unfold maxLen;omega
   case q4=>omega
   case q5=>simp;omega
   case q6=>simp
   intro g E Q a9 a6 P a7;obtain⟨a2,x⟩:=LTS.push (c:=OkS (stX b)) (c':=OkS (stX b)) id HO.out W.out T2.out b6 Y.out a9 a6 P;have L3:Hid (LTS Q w.heap.size (.slice (some ⟨g,0,none⟩) (n+1) E) (n+1) (D++[Au noX b]) (OkS (stX b))):=a2;have B:∀k,k<w.heap.size->(Value.slice S n a).ownBlock≠some k:=fun k hk e=>by have:=(HO.out.lt k e).1;omega
   have F3:Hid (Fr (·≠br) w Q):=⟨x.os.trans J.out.os,x.tape.trans J.out.tape,x.output.trans J.out.output,Nat.le_trans J.out.size x.size,fun k hk hq=>(x.block k (by omega) (B k hk)).trans (J.out.block k hk hq)⟩;have a4:bl<w.heap.size:=a5;have R3:Hid (RSd K N Q br bl (stX b) d):=R2.out.fr x (B br F) (B bl a4);clear a9 a6 P a7 a2 x B W HO Y X T2 R2 J;have a3:n+1+f<=1000000:=by omega
   generalize D++[Au noX b]=acc2 at L3 hk;have L:Hid (Calls _ _ _ _ _):=Fc HK.out HL.out Q br bl (stX b) d ⟨#[44]⟩ (by decide) hN R3.out;cases U:isS K (stX b) [44] with
   | true =>
    have v:Hid (Calls Tryz.prog 46 #[.pointer (some ⟨br,0,none⟩),.string ⟨#[44]⟩] Q fun e w'=>e=.returned (.bool true)/\RSd K N w' br bl (Cn K (stX b) [44]) d/\Fr (·≠br) Q w'):=by
     have:=L.out;rw[show(⟨#[44]⟩:ByteArray).data.toList=[44] from rfl,U] at this;exact this
    obtain⟨j2,ht,a8,G⟩:=Kw U hc44 hk;have b4:Hid (OkS (stX b)):=a8;have C:Hid (Bq K cl.data.toList (self 0 d) f acc2 (j2+1)=some r):=G;rw[ht] at v;clear U hk ht a8 G L;go_wp2_with (go_at_call 46;refine v.out.mono ?_;rintro e R ⟨rfl,I,A⟩;have R4:Hid (RSd K N R br bl (.ok (j2+1)) d):=I;have F4:Hid (Fr (·≠br) w R):=F3.out.trans A;have L4:Hid (LTS R w.heap.size (.slice (some ⟨g,0,none⟩) (n+1) E) (n+1) acc2 (OkS (.ok (j2+1)))):=L3.out.fr (fun _=>b4.out) A F;clear I A)
    go_roundg f
    case measure=>omega
    case rel=>exact⟨.ok (j2+1),acc2,n+1,a3,fun _=>hd,R4,L4,C,F4⟩
   | false =>
    have v:Hid (Calls Tryz.prog 46 #[.pointer (some ⟨br,0,none⟩),.string ⟨#[44]⟩] Q fun e w'=>e=.returned (.bool false)/\RSd K N w' br bl (Cn K (stX b) [44]) d/\Fr (·≠br) Q w'):=by
     have:=L.out;rw[show(⟨#[44]⟩:ByteArray).data.toList=[44] from rfl,U] at this;exact this
    obtain⟨ht,G⟩:=Kx U hk;have C:Hid (stX r=Cl K (stX b) cl.data.toList/\∀y j,r=.ok (y,j)->y=acc2):=Dm G;rw[ht] at v;clear U hk ht G L;go_wp2_with (go_at_call 46;refine v.out.mono ?_;rintro e R ⟨rfl,I,A⟩;have R4:Hid (RSd K N R br bl (stX b) d):=I;have F4:Hid (Fr (·≠br) w R):=F3.out.trans A;have L4:Hid (LTS R w.heap.size (.slice (some ⟨g,0,none⟩) (n+1) E) (n+1) acc2 (OkS (stX b))):=L3.out.fr id A F;clear I A)
    refine(Dz HK.out HL.out R br bl _ d cl hcl hN R4.out).mono ?_;rintro e w5 ⟨rfl,b0,T⟩;have R5:Hid (RSd K N w5 br bl (Cl K (stX b) cl.data.toList) d):=b0;have F5:Hid (Fr (·≠br) w w5):=F4.out.trans T;have L5:Hid (LTS w5 w.heap.size (.slice (some ⟨g,0,none⟩) (n+1) E) (n+1) acc2 (OkS (stX b))):=L4.out.fr id T F;clear b0 T R4 F4 L4;go_wp2_with fail
    go_ret
    refine⟨F5.out,by rw[C.out.1];exact R5.out,_,n+1,E,rfl,fun l j e=>?_⟩;rw[C.out.2 l j e];exact L5.out.row (by omega) (Di (by rw[<- C.out.1];exact Ee e))
theorem M0 {K:Nat->Tk}{N br bl:Nat}{self:Nat->Nat->Nat->RX PX}(hS:Cv K N br bl self)(hK:∀i,Bz (K i))(hL:Bn K N)(hN:N<=1000000)(w:World)(d m:Nat)(s:SX)(cl:ByteArray)(hd:OkS s->d<=24)(hm:m<=1000000)(hcl:cl.data.toList∈C3)(hc44:cl.data.toList≠[44])(h:RSd K N w br bl s d)
  (r:Except (Nat×Nat) (List PX×Nat)) (hr:Ay s (Jc K cl.data.toList (self 0 d) m)=some r) :
  Calls Tryz.prog 108 #[.pointer (some ⟨br,0,none⟩),.string cl,.int .i64 0,.bool false] w (aT K N w br bl d r):=by
 have HS:Hid (Cv K N br bl self):=hS;have HK:Hid (∀i,Bz (K i)):=hK;have HL:Hid (Bn K N):=hL;have a0:Hid (OkS s->d<=24):=hd;have J:=h.lt;have a9:=h.row.1;obtain⟨i0,b9,c1,c2,c3⟩:∃i0,Tryz.prog.info? 26=some i0/\i0.zero=some (.pointer none)/\i0.size=1/\i0.bytes=8:=by
  have:=Wu;cases hq:Tryz.prog.info? 26 with
  | none=>rw[hq] at this;simp at this
  | some j=>rw[hq] at this;simp at this;exact⟨j,rfl,this.1,this.2.1,this.2.2⟩
 have F:Hid (Calls _ _ _ _ _):=Fc hK hL w br bl s d cl hcl hN h;clear hS hK hL h hd;have mo:=follows;cases A:isS K s cl.data.toList with
 | true =>
  rw[A] at F;rcases s with e|i
  ·simp[isS] at A
  have C:((K i).tx==cl.data.toList)=true:=A;have U:Cn K (.ok i) cl.data.toList=.ok (i+1):=by simp only[Cn,C];rfl
  rw[U] at F;clear a0;obtain rfl:.ok ([],i+1)=r:=by simpa [Ay,Jc,C,okX] using hr
  clear hr A C U;go_enter Tryz.func108,Tryz.ntmps108
  go_wp2_with (go_at_call 46;refine F.out.mono ?_;rintro e O ⟨rfl,t,a⟩;have Z:Hid (RSd K N O br bl (.ok (i+1)) d):=t;have Y:Hid (Fr (·≠br) w O):=a;clear t a)
  go_ret
  exact⟨Y.out,Z.out,none,0,0,rfl,fun l j e=>by simp at e;rw[e.1];exact Fb _⟩
 | false =>
 rw[A] at F;have b5:Cn K s cl.data.toList=s:=by
  rcases s with e|i
  ·rfl
  ·have C:((K i).tx==cl.data.toList)=false:=A;simp only[Cn,C];rfl
 rw[b5] at F;have H0:Hid (Ay s (Bq K cl.data.toList (self 0 d) m [])=some r):=by
  rcases s with e|i
  ·exact hr
  ·have C:((K i).tx==cl.data.toList)=false:=A;show _=_;simpa [Ay,Jc,C] using hr
 clear hr A b5;go_enter Tryz.func108,Tryz.ntmps108
 go_wp2_with (go_at_call 46;refine F.out.mono ?_;rintro e w0 ⟨rfl,t,a⟩;have HR:Hid (RSd K N w0 br bl s d):=t;have F0:Hid (Fr (·≠br) w w0):=a;clear t a)
 go_loopg [9] (m) (fun f s9 wr=>∃(s:SX)(H:List PX)(n:Nat),n+f<=1000000/\Hid (OkS s->d<=24)/\Hid (RSd K N wr br bl s d)/\Hid (LTS wr w.heap.size s9 n H (OkS s))/\Hid (Ay s (Bq K cl.data.toList (self 0 d) f H)=some r)/\Hid (Fr (·≠br) w wr))
 case atStart=>exact⟨s,[],0,by simpa using hm,a0,HR,LTS.nil _ _ _,H0,F0⟩
 case round =>
  clear HR H0 F0;obtain⟨s1,H,n,c4,b7,R1,L1,P1,F1⟩:=hrel;obtain⟨W,b,R⟩:=L1.out.slice;subst R;obtain⟨e3,x⟩:=R1.out.err;rcases s1 with⟨c,p⟩|i
  ·have hc:=x c p rfl;simp only[ec] at e3;have HQ:Hid (r=.error (c,p)):=by have:=P1.out;simp only[Ay,Option.some.injEq] at this;exact this.symm
   clear x P1;go_wp2_with fail
   refine(Dz HK.out HL.out wr br bl _ d cl hcl hN R1.out).mono ?_;rintro e S ⟨rfl,M,D⟩;have R2:Hid (RSd K N S br bl (.error (c,p)) d):=M;have P:Hid (Fr (·≠br) w S):=F1.out.trans D;clear M D e3;go_wp2_with fail
   go_ret
   rw[HQ.out];exact⟨P.out,R2.out,W,n,b,rfl,fun l j e=>by simp at e⟩
  ·obtain⟨f,rfl⟩:∃f,gk=f+1:=by
    cases gk with
    | zero=>exact absurd P1.out (by simp[Bq,Ay])
    | succ f=>exact⟨f,rfl⟩
   simp only[ec] at e3;have hp:=P1.out;simp only[Bq] at hp;obtain⟨v,h1,hk⟩:=Bx noX hp;have hd:=b7.out ⟨i,rfl⟩;clear x P1 hp;go_wp2_with fail
   refine(HS.out wr 0 d _ v (by omega) (fun _=>hd) R1.out h1).mono ?_;rintro e S ⟨D,M,bx,rfl,b6⟩;have R2:Hid (RSd K N S br bl (stX v) d):=M;have P:Hid (Fr (·≠br) w S):=F1.out.trans D;have T2:Hid (OkS (stX v)->Ag (fun k=>wr.heap.size<=k) S (Au noX v) (.pointer (some ⟨bx,0,none⟩))):=fun o=>by
    obtain⟨j,e⟩:=Cp noX o;exact b6 _ _ e
   have c0:=F1.out.size;have c5:=P.out.size;have c6:=D.size;have R:∀q,(Value.slice W n b).ownBlock=some q->q<wr.heap.size:=by
    obtain⟨vs,q1,-⟩:=L1.out;intro q hq;exact(q1.lt q hq).2
   obtain⟨vs,ho,a5⟩:=L1.out.fr (c':=OkS (stX v)) (fun _=>⟨i,rfl⟩) D J;have HO:Hid (S.ownsRow w.heap.size 26 1 (.slice W n b) n vs):=ho;have a2:Hid (OkS (stX v)->_):=a5;have a4:Hid (∀q,(Value.slice W n b).ownBlock=some q->q<wr.heap.size):=R;have a3:Hid ((S.alloc (.cells #[.pointer (some ⟨bx,0,none⟩)] 26)).ownsRow w.heap.size 26 1 (.slice W n b) n vs):=ho.alloc _;clear M D b6 ho a5 R R1 F1 L1 h1 e3;go_wp2_with (at_builtin;refine wpList_append_lies _ rfl _ _ 93 rfl _ 26 i0 _ 1 8 Tryz.underlying93 b9 c1 c2 c3 rfl (by decide) (.slice W n b) _ vs rfl a3.out _ 1 1 [.pointer (some ⟨bx,0,none⟩)] rfl rfl ?q1 ?q2 (by decide) ?q3 ?q4 ?q5 (S.heap.size+1) ?q6 ?_)
   case q1 =>
    intro k u hk
    match k,hk with
    | 0,hk=>simp at hk;subst hk;simp[Addr.add]
    | k+1,hk=>simp at hk
   case q2 =>
    intro u hu;simp only[List.mem_cons,List.not_mem_nil,or_false] at hu;subst hu;rfl
   case q3=>unfold maxLen;omega
   case q4=>omega
   case q5=>simp;omega
   case q6=>simp
   intro g I V b3 b0 T b1;obtain⟨a6,B⟩:=LTS.push (c:=OkS (stX v)) (c':=OkS (stX v)) id HO.out a2.out T2.out c0 a4.out b3 b0 T;have L3:Hid (LTS V w.heap.size (.slice (some ⟨g,0,none⟩) (n+1) I) (n+1) (H++[Au noX v]) (OkS (stX v))):=a6;have E:∀k,k<w.heap.size->(Value.slice W n b).ownBlock≠some k:=fun k hk e=>by have:=(HO.out.lt k e).1;omega
   have F3:Hid (Fr (·≠br) w V):=⟨B.os.trans P.out.os,B.tape.trans P.out.tape,B.output.trans P.out.output,Nat.le_trans P.out.size B.size,fun k hk hq=>(B.block k (by omega) (E k hk)).trans (P.out.block k hk hq)⟩;have a8:bl<w.heap.size:=a9;have R3:Hid (RSd K N V br bl (stX v) d):=R2.out.fr B (E br J) (E bl a8);clear b3 b0 T b1 a6 B E a2 HO a4 a3 T2 R2 P;have a7:n+1+f<=1000000:=by omega
   generalize H++[Au noX v]=acc2 at L3 hk;have Q:Hid (Calls _ _ _ _ _):=Fc HK.out HL.out V br bl (stX v) d ⟨#[44]⟩ (by decide) hN R3.out;cases hb:isS K (stX v) [44] with
   | true =>
    have z:Hid (Calls Tryz.prog 46 #[.pointer (some ⟨br,0,none⟩),.string ⟨#[44]⟩] V fun e w'=>e=.returned (.bool true)/\RSd K N w' br bl (Cn K (stX v) [44]) d/\Fr (·≠br) V w'):=by
     have:=Q.out;rw[show(⟨#[44]⟩:ByteArray).data.toList=[44] from rfl,hb] at this;exact this
    obtain⟨j2,U,b2,L⟩:=Kw hb hc44 hk;have b8:Hid (OkS (stX v)):=b2;have G:Hid (Bq K cl.data.toList (self 0 d) f acc2 (j2+1)=some r):=L;rw[U] at z;clear hb hk U b2 L Q;go_wp2_with (go_at_call 46;refine z.out.mono ?_;rintro e O ⟨rfl,t,a⟩;have Z:Hid (RSd K N O br bl (.ok (j2+1)) d):=t;have Y:Hid (Fr (·≠br) w O):=F3.out.trans a;have L4:Hid (LTS O w.heap.size (.slice (some ⟨g,0,none⟩) (n+1) I) (n+1) acc2 (OkS (.ok (j2+1)))):=L3.out.fr (fun _=>b8.out) a J;clear t a)
    go_roundg f
    case measure=>omega
    case rel=>exact⟨.ok (j2+1),acc2,n+1,a7,fun _=>hd,Z,L4,G,Y⟩
   | false =>
    have z:Hid (Calls Tryz.prog 46 #[.pointer (some ⟨br,0,none⟩),.string ⟨#[44]⟩] V fun e w'=>e=.returned (.bool false)/\RSd K N w' br bl (Cn K (stX v) [44]) d/\Fr (·≠br) V w'):=by
     have:=Q.out;rw[show(⟨#[44]⟩:ByteArray).data.toList=[44] from rfl,hb] at this;exact this
    obtain⟨U,L⟩:=Kx hb hk;have G:Hid (stX r=Cl K (stX v) cl.data.toList/\∀y j,r=.ok (y,j)->y=acc2):=Dm L;rw[U] at z;clear hb hk U L Q;go_wp2_with (go_at_call 46;refine z.out.mono ?_;rintro e O ⟨rfl,t,a⟩;have Z:Hid (RSd K N O br bl (stX v) d):=t;have Y:Hid (Fr (·≠br) w O):=F3.out.trans a;have L4:Hid (LTS O w.heap.size (.slice (some ⟨g,0,none⟩) (n+1) I) (n+1) acc2 (OkS (stX v))):=L3.out.fr id a J;clear t a)
    refine(Dz HK.out HL.out O br bl _ d cl hcl hN Z.out).mono ?_;rintro e w5 ⟨rfl,b4,X⟩;have R5:Hid (RSd K N w5 br bl (Cl K (stX v) cl.data.toList) d):=b4;have F5:Hid (Fr (·≠br) w w5):=Y.out.trans X;have L5:Hid (LTS w5 w.heap.size (.slice (some ⟨g,0,none⟩) (n+1) I) (n+1) acc2 (OkS (stX v))):=L4.out.fr id X J;clear b4 X Z Y L4;go_wp2_with fail
    go_ret
    refine⟨F5.out,by rw[G.out.1];exact R5.out,_,n+1,I,rfl,fun l j e=>?_⟩;rw[G.out.2 l j e];exact L5.out.row (by omega) (Di (by rw[<- G.out.1];exact Ee e))
def Ht (l:List (PX×PX)):List PX:=l.flatMap fun p=>[p.1,p.2]
theorem LTS.congr {w:World}{lo n:Nat}{sl:Value}{es es':List PX}{c:Prop}(h:LTS w lo sl n es c)(e:c->es=es'):LTS w lo sl n es' c:=by
 obtain⟨d,a,b⟩:=h;exact⟨d,a,fun q=>by rw[<- e q];exact b q⟩
def cL (K:Nat->Tk)(N:Nat)(w:World)(br bl d:Nat)(r:Except (Nat×Nat) (List (PX×PX)×Nat))(e:Ending)(w':World):Prop :=
 Fr (·≠br) w w'/\RSd K N w' br bl (stX r) d/\∃a len cap,e=.returned (.slice a len cap)/\∀l j,r=.ok (l,j)->Bh (fun k=>w.heap.size<=k) w' (Ag (fun k=>w.heap.size<=k) w') a len (Ht l)
theorem Yi {K:Nat->Tk}{N br bl:Nat}{self:Nat->Nat->Nat->RX PX}(hS:Cv K N br bl self)(hK:∀i,Bz (K i))(hL:Bn K N)(hN:N<=1000000)(w:World)(d m:Nat)(s:SX)(cl:ByteArray)(hd:OkS s->d<=24)(hm:m<=1000000)(hcl:cl.data.toList∈C3)(hc44:cl.data.toList≠[44])(h:RSd K N w br bl s d)
  (r:Except (Nat×Nat) (List (PX×PX)×Nat)) (hr:Ay s (Bq K cl.data.toList (Ev K self d) m [])=some r) :
  Calls Tryz.prog 108 #[.pointer (some ⟨br,0,none⟩),.string cl,.int .i64 1,.bool true] w (cL K N w br bl d r):=by
 have HS:Hid (Cv K N br bl self):=hS;have HK:Hid (∀i,Bz (K i)):=hK;have HL:Hid (Bn K N):=hL;have HR:Hid (RSd K N w br bl s d):=h;have H0:Hid (Ay s (Bq K cl.data.toList (Ev K self d) m [])=some r):=hr;have d4:Hid (OkS s->d<=24):=hd;have F:=h.lt;have b5:=h.row.1;obtain⟨i0,c6,d1,d2,d3⟩:∃i0,Tryz.prog.info? 26=some i0/\i0.zero=some (.pointer none)/\i0.size=1/\i0.bytes=8:=by
  have:=Wu;cases hq:Tryz.prog.info? 26 with
  | none=>rw[hq] at this;simp at this
  | some j=>rw[hq] at this;simp at this;exact⟨j,rfl,this.1,this.2.1,this.2.2⟩
 clear hS hK hL h hr hd;have mo:=follows;go_enter Tryz.func108,Tryz.ntmps108
 go_wp2_with fail
 go_loopg [9] (m) (fun f s9 wr=>∃(s:SX)(C:List (PX×PX))(n:Nat),n+2*f<=2000000/\Hid (OkS s->d<=24)/\Hid (RSd K N wr br bl s d)/\Hid (LTS wr w.heap.size s9 n (Ht C) (OkS s))/\Hid (Ay s (Bq K cl.data.toList (Ev K self d) f C)=some r)/\Hid (Fr (·≠br) w wr))
 case atStart=>exact⟨s,[],0,by omega,d4,HR,LTS.nil _ _ _,H0,Fr.refl _ _⟩
 case round =>
  clear HR H0;obtain⟨s1,C,n,e1,d5,R1,L1,P1,F1⟩:=hrel;obtain⟨a1,x,d8⟩:=L1.out.slice;subst d8;obtain⟨e3,A⟩:=R1.out.err;rcases s1 with⟨c,p⟩|i
  ·have hc:=A c p rfl;simp only[ec] at e3;have HQ:Hid (r=.error (c,p)):=by have:=P1.out;simp only[Ay,Option.some.injEq] at this;exact this.symm
   clear A P1;go_wp2_with fail
   refine(Dz HK.out HL.out wr br bl _ d cl hcl hN R1.out).mono ?_;rintro e w2 ⟨rfl,a4,L⟩;have R2:Hid (RSd K N w2 br bl (.error (c,p)) d):=a4;have F2:Hid (Fr (·≠br) w w2):=F1.out.trans L;clear a4 L e3;go_wp2_with fail
   go_ret
   rw[HQ.out];exact⟨F2.out,R2.out,a1,n,x,rfl,fun l j e=>by simp at e⟩
  ·obtain⟨f,rfl⟩:∃f,gk=f+1:=by
    cases gk with
    | zero=>exact absurd P1.out (by simp[Bq,Ay])
    | succ f=>exact⟨f,rfl⟩
   simp only[ec] at e3;have hp:=P1.out;simp only[Bq] at hp;obtain⟨rp,G,hk⟩:=Bx (noX,noX) hp;obtain⟨I,h1,G⟩:=Bx noX G;have hd:=d5.out ⟨i,rfl⟩;have G:=Eu G;obtain⟨v,h2,G⟩:=Bx noX G;obtain⟨b9,d0⟩:=Dm G;have c1:Hid (OkS (stX v)->Au (noX,noX) rp=(Au noX I,Au noX v)):=fun o=>by
    rw[<- b9] at o;obtain⟨j,e⟩:=Cp (noX,noX) o;exact d0 _ _ e
   rw[b9] at hk;have c0:Hid (OkS (stX v)->OkS (stX I)):=fun o=>Di (Es h2 o);have H2:Hid (Ay (Cl K (stX I) [58]) (self 0 d)=some v):=h2;clear A P1 hp G b9 d0 h2;go_wp2_with fail
   refine(HS.out wr 0 d _ I (by omega) (fun _=>hd) R1.out h1).mono ?_;rintro e w2 ⟨L,a4,bx,rfl,c8⟩;have R2:Hid (RSd K N w2 br bl (stX I) d):=a4;have F2:Hid (Fr (·≠br) w w2):=F1.out.trans L;have T2:Hid (OkS (stX I)->Ag (fun k=>wr.heap.size<=k) w2 (Au noX I) (.pointer (some ⟨bx,0,none⟩))):=fun o=>by
    obtain⟨j,e⟩:=Cp noX o;exact c8 _ _ e
   have e2:=F1.out.size;have e4:=F2.out.size;have e5:=L.size;have a6:∀q,(Value.slice a1 n x).ownBlock=some q->q<wr.heap.size:=by
    obtain⟨vs,q1,-⟩:=L1.out;intro q hq;exact(q1.lt q hq).2
   obtain⟨a8,a2,b3⟩:=L1.out.fr (c':=OkS (stX I)) (fun _=>⟨i,rfl⟩) L F;have Q:Hid (w2.ownsRow w.heap.size 26 1 (.slice a1 n x) n a8):=a2;have b1:Hid (OkS (stX I)->_):=b3;have T:Hid (∀q,((.slice a1 n x):Value).ownBlock=some q->q<wr.heap.size):=a6;have O:Hid ((w2.alloc (.cells #[.pointer (some ⟨bx,0,none⟩)] 26)).ownsRow w.heap.size 26 1 (.slice a1 n x) n a8):=a2.alloc _;clear a4 L c8 R1 F1 L1 h1 e3 a2 b3 a6;go_wp2_with (at_builtin;refine wpList_append_lies _ rfl _ _ 93 rfl _ 26 i0 _ 1 8 Tryz.underlying93 c6 d1 d2 d3 rfl (by decide) (.slice a1 n x) _ a8 rfl O.out _ 1 1 [.pointer (some ⟨bx,0,none⟩)] rfl rfl ?q1 ?q2 (by decide) ?q3 ?q4 ?q5 (w2.heap.size+1) ?q6 ?_)
   case q1 =>
    intro k u hk
    match k,hk with
    | 0,hk=>simp at hk;subst hk;simp[Addr.add]
    | k+1,hk=>simp at hk
   case q2 =>
    intro u hu;simp only[List.mem_cons,List.not_mem_nil,or_false] at hu;subst hu;rfl
   case q3=>unfold maxLen;omega
   case q4=>omega
   case q5=>simp;omega
   case q6=>simp
   intro D a w3 a0 X E Z;obtain⟨W,b⟩:=LTS.push (c:=OkS (stX I)) (c':=OkS (stX I)) id Q.out b1.out T2.out (by omega) T.out a0 X E;have c2:Hid (LTS w3 w.heap.size (.slice (some ⟨D,0,none⟩) (n+1) a) (n+1) (Ht C++[Au noX I]) (OkS (stX I))):=W;have g:∀k,k<w.heap.size->((.slice a1 n x):Value).ownBlock≠some k:=fun k hk e=>by have:=(Q.out.lt k e).1;omega
   have b6:Hid (Fr (·≠br) w w3):=⟨b.os.trans F2.out.os,b.tape.trans F2.out.tape,b.output.trans F2.out.output,Nat.le_trans F2.out.size b.size,fun k hk hq=>(b.block k (by omega) (g k hk)).trans (F2.out.block k hk hq)⟩;have c4:Hid (RSd K N w3 br bl _ d):=R2.out.fr b (g br F) (g bl b5);have d9:=b6.out.size;clear a0 X E Z W b g b1 Q T O T2 R2 F2;go_wp2_with fail
   refine(Dz HK.out HL.out w3 br bl _ d ⟨#[58]⟩ (by decide) hN c4.out).mono ?_;rintro e J ⟨rfl,H,z⟩;have R4:Hid (RSd K N J br bl (Cl K (stX I) [58]) d):=H;have F4:Hid (Fr (·≠br) w J):=b6.out.trans z;have L4:Hid (LTS J w.heap.size (.slice (some ⟨D,0,none⟩) (n+1) a) (n+1) (Ht C++[Au noX I]) (OkS (stX I))):=c2.out.fr id z F;clear H z c4 b6 c2;go_wp2_with fail
   refine(HS.out J 0 d _ v (by omega) (fun _=>hd) R4.out H2.out).mono ?_;rintro e w5 ⟨M,a5,b8,rfl,c9⟩;have R5:Hid (RSd K N w5 br bl (stX v) d):=a5;have F5:Hid (Fr (·≠br) w w5):=F4.out.trans M;have T5:Hid (OkS (stX v)->Ag (fun k=>J.heap.size<=k) w5 (Au noX v) (.pointer (some ⟨b8,0,none⟩))):=fun o=>by
    obtain⟨j,e⟩:=Cp noX o;exact c9 _ _ e
   have e6:=F4.out.size;have e7:=F5.out.size;have a7:∀q,(Value.slice (some ⟨D,0,none⟩) (n+1) a).ownBlock=some q->q<J.heap.size:=by
    obtain⟨vs,q1,-⟩:=L4.out;intro q hq;exact(q1.lt q hq).2
   obtain⟨a9,a3,b4⟩:=L4.out.fr (c':=OkS (stX v)) c0.out M F;have R:Hid (w5.ownsRow w.heap.size 26 1 (.slice (some ⟨D,0,none⟩) (n+1) a) (n+1) a9):=a3;have b2:Hid (OkS (stX v)->_):=b4;have U:Hid (∀q,((.slice (some ⟨D,0,none⟩) (n+1) a):Value).ownBlock=some q->q<J.heap.size):=a7;have P:Hid ((w5.alloc (.cells #[.pointer (some ⟨b8,0,none⟩)] 26)).ownsRow w.heap.size 26 1 (.slice (some ⟨D,0,none⟩) (n+1) a) (n+1) a9):=a3.alloc _;clear a5 M c9 R4 F4 L4 a3 b4 a7;go_wp2_with (at_builtin;refine wpList_append_lies _ rfl _ _ 93 rfl _ 26 i0 _ 1 8 Tryz.underlying93 c6 d1 d2 d3 rfl (by decide) (.slice (some ⟨D,0,none⟩) (n+1) a) _ a9 rfl P.out _ 1 1 [.pointer (some ⟨b8,0,none⟩)] rfl rfl ?q1 ?q2 (by decide) ?q3 ?q4 ?q5 (w5.heap.size+1) ?q6 ?_)
   case q1 =>
    intro k u hk
    match k,hk with
    | 0,hk=>simp at hk;subst hk;simp[Addr.add]
    | k+1,hk=>simp at hk
   case q2 =>
    intro u hu;simp only[List.mem_cons,List.not_mem_nil,or_false] at hu;subst hu;rfl
   case q3=>unfold maxLen;omega
   case q4=>omega
   case q5=>simp;omega
   case q6=>simp
   intro V t w6 a0 X E Z;obtain⟨W,b⟩:=LTS.push (c:=OkS (stX v)) (c':=OkS (stX v)) id R.out b2.out T5.out (by omega) U.out a0 X E;have c3:Hid (LTS w6 w.heap.size (.slice (some ⟨V,0,none⟩) ((n+1)+1) t) ((n+1)+1) ((Ht C++[Au noX I])++[Au noX v]) (OkS (stX v))):=W;have g:∀k,k<w.heap.size->((.slice (some ⟨D,0,none⟩) (n+1) a):Value).ownBlock≠some k:=fun k hk e=>by have:=(R.out.lt k e).1;omega
   have b7:Hid (Fr (·≠br) w w6):=⟨b.os.trans F5.out.os,b.tape.trans F5.out.tape,b.output.trans F5.out.output,Nat.le_trans F5.out.size b.size,fun k hk hq=>(b.block k (by omega) (g k hk)).trans (F5.out.block k hk hq)⟩;have d7:Hid (RSd K N w6 br bl _ d):=R5.out.fr b (g br F) (g bl b5);have e0:=b7.out.size;clear a0 X E Z W b g b2 R U P T5 R5 F5;have L7:Hid (LTS w6 w.heap.size (.slice (some ⟨V,0,none⟩) (n+1+1) t) (n+1+1) (Ht (C++[Au (noX,noX) rp])) (OkS (stX v))):=c3.out.congr fun o=>by rw[c1.out o];simp[Ht]
   clear c3 c1 c0 H2;have c5:n+1+1+2*f<=2000000:=by omega
   generalize C++[Au (noX,noX) rp]=acc2 at L7 hk;have b0:Hid (Calls _ _ _ _ _):=Fc HK.out HL.out w6 br bl (stX v) d ⟨#[44]⟩ (by decide) hN d7.out;cases hb:isS K (stX v) [44] with
   | true =>
    have B:Hid (Calls Tryz.prog 46 #[.pointer (some ⟨br,0,none⟩),.string ⟨#[44]⟩] w6 fun e w'=>e=.returned (.bool true)/\RSd K N w' br bl (Cn K (stX v) [44]) d/\Fr (·≠br) w6 w'):=by
     have:=b0.out;rw[show(⟨#[44]⟩:ByteArray).data.toList=[44] from rfl,hb] at this;exact this
    obtain⟨j2,ht,c7,Y⟩:=Kw hb hc44 hk;have d6:Hid (OkS (stX v)):=c7;have S:Hid (Bq K cl.data.toList (Ev K self d) f acc2 (j2+1)=some r):=Y;rw[ht] at B;clear hb hk ht c7 Y b0;go_wp2_with (go_at_call 46;refine B.out.mono ?_;rintro e J ⟨rfl,H,z⟩;have R4:Hid (RSd K N J br bl (.ok (j2+1)) d):=H;have F4:Hid (Fr (·≠br) w J):=b7.out.trans z;have L4:Hid (LTS J w.heap.size (.slice (some ⟨V,0,none⟩) (n+1+1) t) (n+1+1) (Ht acc2) (OkS (.ok (j2+1)))):=L7.out.fr (fun _=>d6.out) z F;clear H z)
    go_roundg f
    case measure=>omega
    case rel=>exact⟨.ok (j2+1),acc2,n+1+1,c5,fun _=>hd,R4,L4,S,F4⟩
   | false =>
    have B:Hid (Calls Tryz.prog 46 #[.pointer (some ⟨br,0,none⟩),.string ⟨#[44]⟩] w6 fun e w'=>e=.returned (.bool false)/\RSd K N w' br bl (Cn K (stX v) [44]) d/\Fr (·≠br) w6 w'):=by
     have:=b0.out;rw[show(⟨#[44]⟩:ByteArray).data.toList=[44] from rfl,hb] at this;exact this
    obtain⟨ht,Y⟩:=Kx hb hk;have S:Hid (stX r=Cl K (stX v) cl.data.toList/\∀y j,r=.ok (y,j)->y=acc2):=Dm Y;rw[ht] at B;clear hb hk ht Y b0;go_wp2_with (go_at_call 46;refine B.out.mono ?_;rintro e J ⟨rfl,H,z⟩;have R4:Hid (RSd K N J br bl (stX v) d):=H;have F4:Hid (Fr (·≠br) w J):=b7.out.trans z;have L4:Hid (LTS J w.heap.size (.slice (some ⟨V,0,none⟩) (n+1+1) t) (n+1+1) (Ht acc2) (OkS (stX v))):=L7.out.fr id z F;clear H z)
    refine(Dz HK.out HL.out J br bl _ d cl hcl hN R4.out).mono ?_;rintro e w5 ⟨rfl,a5,M⟩;have R5:Hid (RSd K N w5 br bl (Cl K (stX v) cl.data.toList) d):=a5;have F5:Hid (Fr (·≠br) w w5):=F4.out.trans M;have L5:Hid (LTS w5 w.heap.size (.slice (some ⟨V,0,none⟩) (n+1+1) t) (n+1+1) (Ht acc2) (OkS (stX v))):=L4.out.fr id M F;clear a5 M R4 F4 L4;go_wp2_with fail
    go_ret
    refine⟨F5.out,by rw[S.out.1];exact R5.out,_,n+1+1,t,rfl,fun l j e=>?_⟩;rw[S.out.2 l j e];exact L5.out.row (by omega) (Di (by rw[<- S.out.1];exact Ee e))
theorem Hf {K:Nat->Tk}{N:Nat}(hN:N<=1000000)(w:World)(br bl i d:Nat)(hd:d<=24)(hi:i<N)(h:RSd K N w br bl (.ok i) d) :
  Calls Tryz.prog 44 #[.pointer (some ⟨br,0,none⟩)] w fun e w'=>e=.returned (.tuple #[])/\RSd K N w' br bl (inS K i d) (d+1)/\Fr (·≠br) w w':=by
 obtain⟨c,h,e⟩:=h;obtain rfl:=e ⟨i,rfl⟩;refine(cJ hN w br bl i d hd hi h).mono ?_;rintro f w' ⟨rfl,a,b⟩;exact⟨rfl,⟨_,a,fun _=>rfl⟩,b⟩
theorem Ec {K:Nat->Tk}{N:Nat}(w:World)(br bl:Nat)(s:SX)(d:Nat)(hd:d<=24)(h:RSd K N w br bl s (d+1)) :
  Calls Tryz.prog 45 #[.pointer (some ⟨br,0,none⟩)] w fun e w'=>e=.returned (.tuple #[])/\RSd K N w' br bl s d/\Fr (·≠br) w w':=by
 obtain⟨a,h,e⟩:=h;refine(aP w br bl s a h).mono ?_;rintro f w' ⟨rfl,b,c⟩;exact⟨rfl,⟨_,b,fun o=>by rw[e o];unfold wrap64;omega⟩,c⟩
theorem Ao.new (w:World)(op tx nm:ByteArray)(a k n:Int):Ao (w.alloc (.cells #[.string op,.int .i64 a,.string nm,.int .i64 k,.int .i64 n,.string tx,.slice none 0 0,.slice none 0 0,.slice none 0 0,.int .i64 0,.int .i64 0] 95)) w.heap.size op a nm k n tx none 0 0:=Al rfl
theorem RSd.open {K:Nat->Tk}{N br bl i d:Nat}{w:World}(h:RSd K N w br bl (.ok i) d):∃(cap:Nat)(bad dd:Int),Fj w br bl N cap i dd 0 bad/\i<=N/\bl≠br/\bl<w.heap.size/\w.cell? ⟨bl,i*3,none⟩=some (.int .u8 (Bg (K i).cl:Int))/\w.cell? ⟨bl,i*3+1,none⟩=some (.string (B2 (K i)))/\w.cell? ⟨bl,i*3+2,none⟩=some (.int .i64 ((K i).at':Int)):=by
 obtain⟨dd,h,-⟩:=h;obtain⟨cap,I,bad,e,c,b,a,g,j,k,f⟩:=h.open;obtain rfl:=f i rfl;exact⟨cap,bad,dd,e,c,b,a,g,j,k⟩
theorem H8 {K:Nat->Tk}{N:Nat}(hK:∀i,Bz (K i))(w:World)(br bl:Nat)(s:SX)(d:Nat)(m:ByteArray)(hm:m.data.toList∈C3)(h:RSd K N w br bl s d)(q:Bool)(hq:isS K s m.data.toList=q) :
  Calls Tryz.prog 73 #[.pointer (some ⟨br,0,none⟩),.string m] w fun e w'=>e=.returned (.bool q)/\Ad w w':=by
 obtain⟨a,h,-⟩:=h;rw[<- hq];exact Kv hK w br bl s a m hm h
theorem D0 {K:Nat->Tk}{N:Nat}(hK:∀i,Bz (K i))(w:World)(br bl:Nat)(s:SX)(d:Nat)(vs:Array Value)(ms:List ByteArray)(n:Nat)(q:Bool)(hvs:vs=(ms.map Value.string).toArray)(hms:∀m∈ms,m.data.toList∈C3)(hn:n=ms.length)(hn9:n<=1000)(hq:(ms.any fun m=>isS K s m.data.toList)=q)(h:RSd K N w br bl s d) :
  Calls Tryz.prog 43 #[.pointer (some ⟨br,0,none⟩),.slice (some ⟨w.heap.size,0,none⟩) n n] (w.alloc (.cells vs 9)) fun e w'=>e=.returned (.bool q)/\Ad w w':=by
 obtain⟨a,h,-⟩:=h;exact Uz hK w br bl s a vs ms n q hvs hms hn hn9 hq h
def Lf:List ByteArray:=[⟨#[97,108,108]⟩,⟨#[115,111,109,101]⟩,⟨#[99,104,111,111,115,101]⟩,⟨#[102,117,110]⟩]
theorem Fa {K:Nat->Tk}{γ:Type}{i d:Nat}{k:Nat->RX γ}{r:Except (Nat×Nat) (γ×Nat)}(h:Cs K d i k=some r):Ay (inS K i d) k=some r:=by
 unfold Cs at h;unfold inS;split at h
 ·rename_i e
  rw[if_pos e];simpa [Cz,Ay] using h
 ·rename_i e
  rw[if_neg e];exact h
theorem Ft {K:Nat->Tk}{i d:Nat}(hd:d<=24)(h:OkS (inS K i d)):d+1<=24:=by
 unfold inS at h;split at h
 ·obtain⟨j,a⟩:=h;simp at a
 ·omega
theorem C8 {K:Nat->Tk}(hK:∀i,Bz (K i)){i:Nat}{m:List UInt8}(hm:m∈C3)(h:(K i).tx=m):(B2 (K i)).data.toList=m:=by
 have:=Hb (hK i) hm h;rw[Ea _ (by omega),h]
theorem Cd.from {K:Nat->Tk}{N:Nat}{w w1:World}{br bl d:Nat}{r:Except (Nat×Nat) (PX×Nat)}{e:Ending}{w':World}(F:Fr (·≠br) w w1)(h:Cd K N w1 br bl d r e w'):Cd K N w br bl d r e w':=by
 obtain⟨a,c,b,f,g⟩:=h;have:=F.size;exact⟨F.trans a,c,b,f,fun x j q=>(g x j q).fr (Fr.refl _ _) fun _ _ q=>by omega⟩
theorem Fr.freshT {br be:Nat}{w w2 w3:World}(F:Fr (·≠br) w w2)(hf:Fr (fun k=>k≠br/\k≠be) w2 w3)(h:w.heap.size<=be):Fr (·≠br) w w3 :=
 ⟨hf.os.trans F.os,hf.tape.trans F.tape,hf.output.trans F.output,Nat.le_trans F.size hf.size,fun k hk hq=>(hf.block k (Nat.lt_of_lt_of_le hk F.size) ⟨hq,by omega⟩).trans (F.block k hk hq)⟩
theorem Yj (l:List UInt8):Dj.contains l=false/\(l==wIf)=false/\(l==Hk)=false/\(Lf.any fun m=>l==m.data.toList)=false\/l=wIf\/l=Hk\/l∈Mx\/l=Ig:=by
 cases h:Dj.contains l with
 | false =>
  refine .inl ⟨rfl,?_⟩;simp only[Dj,List.contains_eq_mem,List.mem_cons,List.not_mem_nil,or_false,decide_eq_false_iff_not,not_or] at h;obtain⟨a,b,c,d,e,f⟩:=h;refine⟨by simpa [wIf] using a,by simpa [Hk] using b,?_⟩;simp only[Lf,List.any_cons,List.any_nil,Bool.or_false];simp[c,d,e,f]
 | true =>
  simp only[Dj,List.contains_eq_mem,List.mem_cons,List.not_mem_nil,or_false,decide_eq_true_eq] at h;rcases h with h|h|h|h|h|h
  ·exact .inr (.inl h)
  ·exact .inr (.inr (.inl h))
  ·exact .inr (.inr (.inr (.inl (by rw[h];decide))))
  ·exact .inr (.inr (.inr (.inl (by rw[h];decide))))
  ·exact .inr (.inr (.inr (.inl (by rw[h];decide))))
  ·exact .inr (.inr (.inr (.inr h)))
theorem U1 {K:Nat->Tk}{self:Nat->Nat->Nat->RX PX}{d i:Nat}{r:Except (Nat×Nat) (PX×Nat)}(e:(K i).tx=wIf)(h:Ct K self d i=some r):Ay (inS K i d) (Fw K self (d+1))=some r:=by
 have:=Fa h;simpa [e,wIf] using this
theorem Sk {K:Nat->Tk}{self:Nat->Nat->Nat->RX PX}{d i:Nat}{r:Except (Nat×Nat) (PX×Nat)}(e:(K i).tx=Hk)(h:Ct K self d i=some r):Ay (inS K i d) (aR K self [61] 0 (d+1) Hy)=some r:=by
 have:=Fa h;simp[e,wIf,Hk] at this;exact this
theorem Kb {K:Nat->Tk}{self:Nat->Nat->Nat->RX PX}{d i:Nat}{r:Except (Nat×Nat) (PX×Nat)}(e1:((K i).tx==wIf)=false)(e2:((K i).tx==Hk)=false)(h:Ct K self d i=some r):Ay (inS K i d) (aR K self [105,110] 8 (d+1) (Cc (K i).tx))=some r:=by
 have:=Fa h;simp only[e1,e2,Bool.false_eq_true,if_false] at this;exact this
theorem Yk {K:Nat->Tk}{N br bl:Nat}{self:Nat->Nat->Nat->RX PX}(hS:Cv K N br bl self)(hK:∀i,Bz (K i))(hL:Bn K N)(hN:N<=1000000)(w:World)(d m i:Nat)(hd:d<=24)(h:RSd K N w br bl (.ok i) d)
  (r:Except (Nat×Nat) (PX×Nat)) (hr:Fe K self m 0 d i=some r)
  (hP1:∀W,RSd K N W br bl (.ok i) d->Gj K self m d 11 i=some r->Calls Tryz.prog 18 #[.pointer (some ⟨br,0,none⟩),.int .i64 1] W (Cd K N W br bl d r)) :
  Calls Tryz.prog 42 #[.pointer (some ⟨br,0,none⟩)] w (Cd K N w br bl d r):=by
 have HS:Hid (Cv K N br bl self):=hS;have HK:Hid (∀i,Bz (K i)):=hK;have HL:Hid (Bn K N):=hL;have HR:Hid (RSd K N w br bl (.ok i) d):=h;have a1:Hid (∀W,RSd K N W br bl (.ok i) d->_):=hP1;obtain⟨e9,e7,dd,hb,hI,f3,c9,t0,t1,t2⟩:=h.open;obtain⟨b4,u0,u1,u2⟩:=RS.cells hb c9 t0 t1 t2;have c0:=Aa hb 0;have c1:=Aa hb 1;have k0:=Aa b4 0;have k1:=Aa b4 1;have d6:=Ab hb;have d5:(i:Int)<((N+1:Nat):Int):=by omega
 have mo:=follows;obtain⟨sb,d4⟩:∃sb,Bg (K i).cl=sb:=⟨_,rfl⟩;obtain⟨p,D⟩:∃p,B2 (K i)=p:=⟨_,rfl⟩;obtain⟨u,c6⟩:∃u,(K i).at'=u:=⟨_,rfl⟩;have a3:Hid (B2 (K i)=p):=D;rw[d4] at t0 u0;rw[D] at t1 u1;rw[c6] at t2 u2;clear hb b4 h hS hK hL hP1 d4 D c6;go_enter Tryz.func42,Tryz.ntmps42
 go_wp2_with fail
 go_big_region_o
 have T1:Hid (Ap _ w.heap.size sb p (u:Int)):=Ap.new w sb p (u:Int);have G1:Hid (Ad w (w.alloc (.cells #[.int .u8 (sb:Int),.string p,.int .i64 (u:Int)] 55)).drew):=((Ad.refl w).alloc _).drew;clear c0 c1 k0 k1 u0 u1 u2 t0 t1 t2 d5;generalize (w.alloc (.cells #[.int .u8 (sb:Int),.string p,.int .i64 (u:Int)] 55)).drew=W1 at G1 T1 |-;obtain⟨Y,d0⟩:∃Y,w.heap.size=Y:=⟨_,rfl⟩;rw[d0] at T1 d6 |-;have f6:w.heap.size<=Y:=by omega
 have f5:Y<=w.heap.size:=by omega
 clear d0;have q1:=Aa T1.out 1;have q2:=Aa T1.out 2;go_wp2_with fail
 have E2:Hid (Ao (W1.alloc (.cells #[.string p,.int .i64 (u:Int),.string ⟨#[]⟩,.int .i64 0,.int .i64 0,.string ⟨#[]⟩,.slice none 0 0,.slice none 0 0,.slice none 0 0,.int .i64 0,.int .i64 0] 95)) W1.heap.size p (u:Int) ⟨#[]⟩ 0 0 ⟨#[]⟩ none 0 0):=Ao.new W1 p ⟨#[]⟩ ⟨#[]⟩ (u:Int) 0 0;have G2:Hid (Ad w (W1.alloc (.cells #[.string p,.int .i64 (u:Int),.string ⟨#[]⟩,.int .i64 0,.int .i64 0,.string ⟨#[]⟩,.slice none 0 0,.slice none 0 0,.slice none 0 0,.int .i64 0,.int .i64 0] 95))):=G1.out.alloc _;have T2:Hid (Ap (W1.alloc (.cells #[.string p,.int .i64 (u:Int),.string ⟨#[]⟩,.int .i64 0,.int .i64 0,.string ⟨#[]⟩,.slice none 0 0,.slice none 0 0,.slice none 0 0,.int .i64 0,.int .i64 0] 95)) Y sb p (u:Int)):=T1.out.grew ((Ad.refl _).alloc _);have d1:Y<W1.heap.size:=Ab T1.out;have d7:w.heap.size<=W1.heap.size:=G1.out.below.size;clear q1 q2 T1 G1;generalize (W1.alloc (.cells #[.string p,.int .i64 (u:Int),.string ⟨#[]⟩,.int .i64 0,.int .i64 0,.string ⟨#[]⟩,.slice none 0 0,.slice none 0 0,.slice none 0 0,.int .i64 0,.int .i64 0] 95))=W2 at E2 G2 T2 |-;obtain⟨g,c7⟩:∃g,W1.heap.size=g:=⟨_,rfl⟩;rw[c7] at E2 d1 d7 |-;clear c7;have l:g≠br:=by omega
 have e4:bl<w.heap.size:=c9;have R:g≠bl:=by omega
 have a0:Y≠br:=by omega
 have e0:g≠Y:=by omega
 obtain⟨b1,I⟩:∃b,isS K (.ok i) wIf=b:=⟨_,rfl⟩;obtain⟨b2,J⟩:∃b,isS K (.ok i) Hk=b:=⟨_,rfl⟩;obtain⟨b3,L⟩:∃b,(Lf.any fun m=>isS K (.ok i) m.data.toList)=b:=⟨_,rfl⟩;refine(H8 HK.out W2 br bl (.ok i) d ⟨#[105,102]⟩ (by decide) (HR.out.grew G2.out) b1 I).mono ?_;rintro e W3 ⟨rfl,g3⟩;have G3:Hid (Ad w W3):=G2.out.trans g3;have E3:Hid (Ao W3 g p (u:Int) ⟨#[]⟩ 0 0 ⟨#[]⟩ none 0 0):=E2.out.of (P:=fun _=>True) (Fr.grew g3) trivial;have T3:Hid (Ap W3 Y sb p (u:Int)):=T2.out.grew g3;clear g3 E2 G2 T2;go_wp2_with fail
 refine(H8 HK.out W3 br bl (.ok i) d ⟨#[108,101,116]⟩ (by decide) (HR.out.grew G3.out) b2 J).mono ?_;rintro e W4 ⟨rfl,g4⟩;have G4:Hid (Ad w W4):=G3.out.trans g4;have E4:Hid (Ao W4 g p (u:Int) ⟨#[]⟩ 0 0 ⟨#[]⟩ none 0 0):=E3.out.of (P:=fun _=>True) (Fr.grew g4) trivial;have T4:Hid (Ap W4 Y sb p (u:Int)):=T3.out.grew g4;clear g4 E3 G3 T3;go_wp2_with fail
 refine(D0 HK.out W4 br bl (.ok i) d _ Lf 4 b3 rfl (by decide) rfl (by decide) L (HR.out.grew G4.out)).mono ?_;rintro e W5 ⟨rfl,g5⟩;have G5:Hid (Ad w W5):=G4.out.trans g5;have E5:Hid (Ao W5 g p (u:Int) ⟨#[]⟩ 0 0 ⟨#[]⟩ none 0 0):=E4.out.of (P:=fun _=>True) (Fr.grew g5) trivial;have T5:Hid (Ap W5 Y sb p (u:Int)):=T4.out.grew g5;have R5:Hid (RSd K N W5 br bl (.ok i) d):=HR.out.grew G5.out;clear g5 E4 G4 T4 HR;rcases Yj (K i).tx with⟨h0,h1,h2,h3⟩|A|A|A|A
 ·obtain rfl:false=b1:=by rw[<- I];exact h1.symm
  obtain rfl:false=b2:=by rw[<- J];exact h2.symm
  obtain rfl:false=b3:=by rw[<- L];exact h3.symm
  have HC:Hid (Calls _ _ _ _ _):=a1.out W5 R5.out (by have:=hr;unfold Fe at this;rw[if_pos rfl,if_neg (by rw[h0];simp)] at this;exact this);clear h0 h1 h2 h3 I J L hr a1;go_wp2_with fail
  refine HC.out.mono ?_;rintro e s hp;obtain⟨hf,d3,b,rfl,ht⟩:=hp;have HH:Hid (Cd K N w br bl d r (.returned (.pointer (some ⟨b,0,none⟩))) s):=Cd.from (Fr.grew G5.out) ⟨hf,d3,b,rfl,ht⟩;clear hf d3 ht HC;go_wp2_with fail
  go_ret
  exact HH.out
 ·have Z:i<N:=HL.out.lt hI (m:=wIf) (by rw[A];rfl) (by decide);have G:Hid (Ct K self d i=some r):=by have:=hr;unfold Fe at this;rw[if_pos rfl,if_pos (by rw[A];rfl)] at this;exact this
  obtain rfl:true=b1:=by rw[<- I];show _=((K i).tx==wIf);rw[A];rfl
  obtain rfl:false=b2:=by rw[<- J];show _=((K i).tx==Hk);rw[A];rfl
  obtain rfl:false=b3:=by rw[<- L];show _=(Lf.any fun m=>(K i).tx==m.data.toList);rw[A];rfl
  have D:p.data.toList=wIf:=by rw[<- a3.out];exact C8 HK.out (by decide) A
  have H:Hid (Calls _ _ _ _ _):=Hf hN W5 br bl i d hd Z R5.out;clear I J L hr a1 R5;go_wp2_with fail
  refine H.out.mono ?_;rintro e s ⟨rfl,E,t⟩;have R6:Hid (RSd K N s br bl (inS K i d) (d+1)):=E;have U:Hid (Fr (·≠br) w s):=(Fr.grew G5.out).trans t;have S:Hid (Ao s g p (u:Int) ⟨#[]⟩ 0 0 ⟨#[]⟩ none 0 0):=E5.out.of t l;have T6:Hid (Ap s Y sb p (u:Int)):=T5.out.fr t a0;have O:Hid (OkS (inS K i d)->d+1<=24):=Ft hd;clear E t E5 T5 H G5;obtain⟨r1,h1,hc⟩:=Bx noX (U1 A G.out);have hc:=Eu hc;obtain⟨r2,h2,hc⟩:=Bx noX hc;have hc:=Eu hc;obtain⟨r3,h3,hc⟩:=Bx noX hc;have HQ:Hid (stX r=stX r3/\∀y j,r=.ok (y,j)->y=dIf (Au noX r1) (Au noX r2) (Au noX r3)):=Dm hc;have O1:Hid (OkS (stX r1)->OkS (inS K i d)):=fun o=>Es h1 o;have O2:Hid (OkS (stX r2)->OkS (stX r1)):=fun o=>Di (Es h2 o);have O3:Hid (OkS (stX r3)->OkS (stX r2)):=fun o=>Di (Es h3 o);have H1:Hid (Ay (inS K i d) (self 0 (d+1))=some r1):=h1;have H2:Hid (Ay (Cl K (stX r1) [116,104,101,110]) (self 0 (d+1))=some r2):=h2;have H3:Hid (Ay (Cl K (stX r2) [101,108,115,101]) (self 0 (d+1))=some r3):=h3;clear h1 h2 h3 hc G A;go_wp2_with fail
  refine(HS.out s 0 (d+1) _ r1 (by omega) O.out R6.out H1.out).mono ?_;rintro e W7 ⟨c,f,ba,rfl,v⟩;have R7:Hid (RSd K N W7 br bl (stX r1) (d+1)):=f;have F7:Hid (Fr (·≠br) w W7):=U.out.trans c;have E7:Hid (Ao W7 g p (u:Int) ⟨#[]⟩ 0 0 ⟨#[]⟩ none 0 0):=S.out.of c l;have A7:Hid (∀x j,r1=.ok (x,j)->Ag (fun k=>s.heap.size<=k) W7 x (.pointer (some ⟨ba,0,none⟩))):=v;have b6:=U.out.size;have f1:g<s.heap.size:=Ab S.out;have E:=R6.out.lt;clear c f v R6 U S T6;go_wp2_with fail
  refine(Dz HK.out HL.out W7 br bl _ (d+1) ⟨#[116,104,101,110]⟩ (by decide) hN R7.out).mono ?_;rintro e F ⟨rfl,f,c⟩;have R8:Hid (RSd K N F br bl (Cl K (stX r1) [116,104,101,110]) (d+1)):=f;have F8:Hid (Fr (·≠br) w F):=F7.out.trans c;have E8:Hid (Ao F g p (u:Int) ⟨#[]⟩ 0 0 ⟨#[]⟩ none 0 0):=E7.out.of c l;have A8:Hid (∀x j,r1=.ok (x,j)->Ag (fun k=>s.heap.size<=k) F x (.pointer (some ⟨ba,0,none⟩))):=fun x j e=>(A7.out x j e).fr (c.mono fun k q=>by omega) fun _ _ q=>q;clear c f R7 F7 E7 A7;go_wp2_with fail
  refine(HS.out F 0 (d+1) _ r2 (by omega) (fun o=>O.out (O1.out (Di o))) R8.out H2.out).mono ?_;rintro e W9 ⟨c,f,bb,rfl,v⟩;have R9:Hid (RSd K N W9 br bl (stX r2) (d+1)):=f;have F9:Hid (Fr (·≠br) w W9):=F8.out.trans c;have E9:Hid (Ao W9 g p (u:Int) ⟨#[]⟩ 0 0 ⟨#[]⟩ none 0 0):=E8.out.of c l;have A9:Hid (∀x j,r1=.ok (x,j)->Ag (fun k=>s.heap.size<=k) W9 x (.pointer (some ⟨ba,0,none⟩))):=fun x j e=>(A8.out x j e).fr (c.mono fun k q=>by omega) fun _ _ q=>q;have B9:Hid (∀x j,r2=.ok (x,j)->Ag (fun k=>F.heap.size<=k) W9 x (.pointer (some ⟨bb,0,none⟩))):=v;have f7:=F8.out.size;have f2:g<F.heap.size:=Ab E8.out;have f4:=R8.out.lt;clear c f v R8 F8 E8 A8;go_wp2_with fail
  refine(Dz HK.out HL.out W9 br bl _ (d+1) ⟨#[101,108,115,101]⟩ (by decide) hN R9.out).mono ?_;rintro e Q ⟨rfl,f,c⟩;have c4:Hid (RSd K N Q br bl (Cl K (stX r2) [101,108,115,101]) (d+1)):=f;have a5:Hid (Fr (·≠br) w Q):=F9.out.trans c;have a4:Hid (Ao Q g p (u:Int) ⟨#[]⟩ 0 0 ⟨#[]⟩ none 0 0):=E9.out.of c l;have b7:Hid (∀x j,r1=.ok (x,j)->Ag (fun k=>s.heap.size<=k) Q x (.pointer (some ⟨ba,0,none⟩))):=fun x j e=>(A9.out x j e).fr (c.mono fun k q=>by omega) fun _ _ q=>q;have b9:Hid (∀x j,r2=.ok (x,j)->Ag (fun k=>F.heap.size<=k) Q x (.pointer (some ⟨bb,0,none⟩))):=fun x j e=>(B9.out x j e).fr (c.mono fun k q=>by omega) fun _ _ q=>q;clear c f R9 F9 E9 A9 B9;go_wp2_with fail
  refine(HS.out Q 0 (d+1) _ r3 (by omega) (fun o=>O.out (O1.out (O2.out (Di o)))) c4.out H3.out).mono ?_;rintro e B ⟨c,f,bc,rfl,v⟩;have c5:Hid (RSd K N B br bl (stX r3) (d+1)):=f;have a6:Hid (Fr (·≠br) w B):=a5.out.trans c;have a2:Hid (Ao B g p (u:Int) ⟨#[]⟩ 0 0 ⟨#[]⟩ none 0 0):=a4.out.of c l;have b8:Hid (∀x j,r1=.ok (x,j)->Ag (fun k=>s.heap.size<=k) B x (.pointer (some ⟨ba,0,none⟩))):=fun x j e=>(b7.out x j e).fr (c.mono fun k q=>by omega) fun _ _ q=>q;have c2:Hid (∀x j,r2=.ok (x,j)->Ag (fun k=>F.heap.size<=k) B x (.pointer (some ⟨bb,0,none⟩))):=fun x j e=>(b9.out x j e).fr (c.mono fun k q=>by omega) fun _ _ q=>q;have c3:Hid (∀x j,r3=.ok (x,j)->Ag (fun k=>Q.heap.size<=k) B x (.pointer (some ⟨bc,0,none⟩))):=v;have e5:=a5.out.size;have d8:g<Q.heap.size:=Ab a4.out;have c8:=Aa a2.out 8;have f8:=Ac a2.out 8;have d9:g<B.heap.size:=Ab a2.out;have e6:=a6.out.size;clear c f v c4 a5 a4 b7 b9;have b0:Fr (·≠g) B ((B.setCell ⟨g,8,none⟩ (.slice (some ⟨B.heap.size,0,none⟩) 3 3)).alloc (.cells #[.pointer (some ⟨ba,0,none⟩),.pointer (some ⟨bb,0,none⟩),.pointer (some ⟨bc,0,none⟩)] 26)):=((Fr.refl _ B).set (by simp) _).alloc _;have a8:Hid (RSd K N _ br bl (stX r3) (d+1)):=c5.out.fr b0 (Ne.symm l) (Ne.symm R);have a7:Hid (Fr (·≠br) w _):=a6.out.freshT (b0.mono fun _ q=>q.2) (by omega);have a9:Hid (∀x j,r=.ok (x,j)->Ag (fun k=>w.heap.size<=k) ((B.setCell ⟨g,8,none⟩ (.slice (some ⟨B.heap.size,0,none⟩) 3 3)).alloc (.cells #[.pointer (some ⟨ba,0,none⟩),.pointer (some ⟨bb,0,none⟩),.pointer (some ⟨bc,0,none⟩)] 26)) x (.pointer (some ⟨g,0,none⟩))):=fun x j e=>by
   have o3:OkS (stX r3):=by rw[<- HQ.out.1];exact Ee e
   have o2:=O3.out o3;obtain⟨j1,e1⟩:=Cp noX (O2.out o2);obtain⟨j2,e2⟩:=Cp noX o2;obtain⟨j3,e3⟩:=Cp noX o3;rw[HQ.out.2 x j e];exact(dF (lo:=w.heap.size) a2.out (m:=3) (vs:=#[.pointer (some ⟨ba,0,none⟩),.pointer (some ⟨bb,0,none⟩),.pointer (some ⟨bc,0,none⟩)]) (kids:=[Au noX r1,Au noX r2,Au noX r3]) rfl (by omega) (fun k z qz=>by
    match k with
    | 0=>simp at qz;subst qz;exact⟨_,rfl,(b8.out _ _ e1).fr (Fr.refl _ _) fun _ _ q=>by omega⟩
    | 1=>simp at qz;subst qz;exact⟨_,rfl,(c2.out _ _ e2).fr (Fr.refl _ _) fun _ _ q=>by omega⟩
    | 2=>simp at qz;subst qz;exact⟨_,rfl,(c3.out _ _ e3).fr (Fr.refl _ _) fun _ _ q=>by omega⟩
    | k+3=>simp at qz) (by omega) (by rw[D];exact .inr (.inr (.inr (.inr (.inr (.inr (.inr (.inr (.inr (.inr (.inl ⟨rfl,_,_,_,rfl,rfl⟩)))))))))))).fr (Fr.refl _ _) fun _ _ q=>by omega
  go_wp2_with fail
  clear c8 f8 b0 c5 a6 a2 b8 c2 c3;generalize (B.setCell ⟨g,8,none⟩ (.slice (some ⟨B.heap.size,0,none⟩) 3 3)).alloc (.cells #[.pointer (some ⟨ba,0,none⟩),.pointer (some ⟨bb,0,none⟩),.pointer (some ⟨bc,0,none⟩)] 26)=W12 at a8 a7 a9 |-;refine(Ec W12 br bl _ d hd a8.out).mono ?_;rintro e C ⟨rfl,f,c⟩;have V:Hid (RSd K N C br bl (stX r3) d):=f;have T:Hid (Fr (·≠br) w C):=a7.out.trans c;have X:Hid (∀x j,r=.ok (x,j)->Ag (fun k=>w.heap.size<=k) C x (.pointer (some ⟨g,0,none⟩))):=fun x j e=>(a9.out x j e).fr (c.mono fun k q=>by omega) fun _ _ q=>q;clear c f a8 a7 a9;go_wp2_with fail
  go_ret
  exact⟨T.out,by rw[HQ.out.1];exact V.out,g,rfl,X.out⟩
 ·have Z:i<N:=HL.out.lt hI (m:=Hk) (by rw[A];rfl) (by decide);have G:Hid (Ct K self d i=some r):=by have:=hr;unfold Fe at this;rw[if_pos rfl,if_pos (by rw[A];rfl)] at this;exact this
  obtain rfl:false=b1:=by rw[<- I];show _=((K i).tx==wIf);rw[A];rfl
  obtain rfl:true=b2:=by rw[<- J];show _=((K i).tx==Hk);rw[A];rfl
  obtain rfl:false=b3:=by rw[<- L];show _=(Lf.any fun m=>(K i).tx==m.data.toList);rw[A];rfl
  have D:p.data.toList=Hk:=by rw[<- a3.out];exact C8 HK.out (by decide) A
  have H:Hid (Calls _ _ _ _ _):=Hf hN W5 br bl i d hd Z R5.out;clear I J L hr a1 R5;go_wp2_with fail
  refine H.out.mono ?_;rintro e s ⟨rfl,E,t⟩;have R6:Hid (RSd K N s br bl (inS K i d) (d+1)):=E;have U:Hid (Fr (·≠br) w s):=(Fr.grew G5.out).trans t;have S:Hid (Ao s g p (u:Int) ⟨#[]⟩ 0 0 ⟨#[]⟩ none 0 0):=E5.out.of t l;have T6:Hid (Ap s Y sb p (u:Int)):=T5.out.fr t a0;have O:Hid (OkS (inS K i d)->d+1<=24):=Ft hd;clear E t E5 T5 H G5;have q1:=Aa T6.out 1;have qf:(p.toList==[102,117,110])=false:=by rw[ByteArray.toList_eq,D];rfl
  have b6:=U.out.size;have HC:Hid (Calls _ _ _ _ _):=H7 HS.out HK.out HL.out hN s g (d+1) _ p (u:Int) O.out l R R6.out S.out ⟨#[61]⟩ 0 Hy (.inl ⟨D,rfl,rfl⟩) (fun n a b=>by rw[D];exact .inr (.inr (.inr (.inr (.inr (.inr (.inr (.inr (.inr (.inr (.inr (.inl ⟨rfl,_,_,rfl,rfl⟩)))))))))))) r (Sk A G.out);have R7:Hid (RSd K N s br bl (inS K i d) (d+1)):=R6;have F7:Hid (Fr (·≠br) w s):=U;have E7:Hid (Ao s g p (u:Int) ⟨#[]⟩ 0 0 ⟨#[]⟩ none 0 0):=S;clear G A R6 U S T6;go_wp2_with fail
  refine HC.out.mono ?_;rintro e F ⟨rfl,c,f,v⟩;have R8:Hid (RSd K N F br bl (stX r) (d+1)):=f;have F8:Hid (Fr (·≠br) w F):=F7.out.freshT (c.mono fun _ q=>⟨q.1,q.2⟩) (by omega);have T8:Hid (∀x j,r=.ok (x,j)->Ag (fun k=>w.heap.size<=k) F x (.pointer (some ⟨g,0,none⟩))):=fun x j e=>(v x j e).fr (Fr.refl _ _) fun _ _ q=>by omega
  clear c f v R7 F7 E7;go_wp2_with fail
  refine(Ec F br bl _ d hd R8.out).mono ?_;rintro e C ⟨rfl,f,c⟩;have V:Hid (RSd K N C br bl (stX r) d):=f;have T:Hid (Fr (·≠br) w C):=F8.out.trans c;have X:Hid (∀x j,r=.ok (x,j)->Ag (fun k=>w.heap.size<=k) C x (.pointer (some ⟨g,0,none⟩))):=fun x j e=>(T8.out x j e).fr (c.mono fun k q=>by omega) fun _ _ q=>q;clear c f R8 F8 T8;go_wp2_with fail
  go_ret
  exact⟨T.out,V.out,g,rfl,X.out⟩
 ·have M:(K i).tx=[97,108,108]\/(K i).tx=[115,111,109,101]\/(K i).tx=[99,104,111,111,115,101]:=by simpa [Mx] using A
  have d2:(K i).tx∈C3:=by rcases M with e|e|e<;>rw[e]<;>decide
  have Z:i<N:=HL.out.lt hI (m:=(K i).tx) (by simp) d2;have G:Hid (Ct K self d i=some r):=by have:=hr;unfold Fe at this;rw[if_pos rfl,if_pos (by rcases M with e|e|e<;>rw[e]<;>rfl)] at this;exact this
  obtain rfl:false=b1:=by rw[<- I];show _=((K i).tx==wIf);rcases M with e|e|e<;>rw[e]<;>rfl
  obtain rfl:false=b2:=by rw[<- J];show _=((K i).tx==Hk);rcases M with e|e|e<;>rw[e]<;>rfl
  obtain rfl:true=b3:=by rw[<- L];show _=(Lf.any fun m=>(K i).tx==m.data.toList);rcases M with e|e|e<;>rw[e]<;>rfl
  have D:p.data.toList=(K i).tx:=by rw[<- a3.out];exact C8 HK.out d2 rfl
  have H:Hid (Calls _ _ _ _ _):=Hf hN W5 br bl i d hd Z R5.out;clear I J L hr a1 R5;go_wp2_with fail
  refine H.out.mono ?_;rintro e s ⟨rfl,E,t⟩;have R6:Hid (RSd K N s br bl (inS K i d) (d+1)):=E;have U:Hid (Fr (·≠br) w s):=(Fr.grew G5.out).trans t;have S:Hid (Ao s g p (u:Int) ⟨#[]⟩ 0 0 ⟨#[]⟩ none 0 0):=E5.out.of t l;have T6:Hid (Ap s Y sb p (u:Int)):=T5.out.fr t a0;have O:Hid (OkS (inS K i d)->d+1<=24):=Ft hd;clear E t E5 T5 H G5;have q1:=Aa T6.out 1;have qf:(p.toList==[102,117,110])=false:=by rw[ByteArray.toList_eq,D];rcases M with e|e|e<;>rw[e]<;>rfl
  have b6:=U.out.size;have HC:Hid (Calls _ _ _ _ _):=H7 HS.out HK.out HL.out hN s g (d+1) _ p (u:Int) O.out l R R6.out S.out ⟨#[105,110]⟩ 8 (Cc (K i).tx) (.inr ⟨by rw[D];rcases M with e|e|e<;>rw[e]<;>decide,rfl,rfl⟩) (fun n a b=>by rw[D];exact .inr (.inr (.inr (.inr (.inr (.inr (.inr (.inr (.inr (.inr (.inr (.inr (.inl ⟨.inl A,_,_,rfl,rfl⟩))))))))))))) r (Kb (by rcases M with e|e|e<;>rw[e]<;>rfl) (by rcases M with e|e|e<;>rw[e]<;>rfl) G.out);have R7:Hid (RSd K N s br bl (inS K i d) (d+1)):=R6;have F7:Hid (Fr (·≠br) w s):=U;have E7:Hid (Ao s g p (u:Int) ⟨#[]⟩ 0 0 ⟨#[]⟩ none 0 0):=S;clear G A M R6 U S T6;go_wp2_with fail
  refine HC.out.mono ?_;rintro e F ⟨rfl,c,f,v⟩;have R8:Hid (RSd K N F br bl (stX r) (d+1)):=f;have F8:Hid (Fr (·≠br) w F):=F7.out.freshT (c.mono fun _ q=>⟨q.1,q.2⟩) (by omega);have T8:Hid (∀x j,r=.ok (x,j)->Ag (fun k=>w.heap.size<=k) F x (.pointer (some ⟨g,0,none⟩))):=fun x j e=>(v x j e).fr (Fr.refl _ _) fun _ _ q=>by omega
  clear c f v R7 F7 E7;go_wp2_with fail
  refine(Ec F br bl _ d hd R8.out).mono ?_;rintro e C ⟨rfl,f,c⟩;have V:Hid (RSd K N C br bl (stX r) d):=f;have T:Hid (Fr (·≠br) w C):=F8.out.trans c;have X:Hid (∀x j,r=.ok (x,j)->Ag (fun k=>w.heap.size<=k) C x (.pointer (some ⟨g,0,none⟩))):=fun x j e=>(T8.out x j e).fr (c.mono fun k q=>by omega) fun _ _ q=>q;clear c f R8 F8 T8;go_wp2_with fail
  go_ret
  exact⟨T.out,V.out,g,rfl,X.out⟩
 ·have Z:i<N:=HL.out.lt hI (m:=Ig) (by rw[A];rfl) (by decide);have G:Hid (Ct K self d i=some r):=by have:=hr;unfold Fe at this;rw[if_pos rfl,if_pos (by rw[A];rfl)] at this;exact this
  obtain rfl:false=b1:=by rw[<- I];show _=((K i).tx==wIf);rw[A];rfl
  obtain rfl:false=b2:=by rw[<- J];show _=((K i).tx==Hk);rw[A];rfl
  obtain rfl:true=b3:=by rw[<- L];show _=(Lf.any fun m=>(K i).tx==m.data.toList);rw[A];rfl
  have D:p.data.toList=Ig:=by rw[<- a3.out];exact C8 HK.out (by decide) A
  have H:Hid (Calls _ _ _ _ _):=Hf hN W5 br bl i d hd Z R5.out;clear I J L hr a1 R5;go_wp2_with fail
  refine H.out.mono ?_;rintro e s ⟨rfl,E,t⟩;have R6:Hid (RSd K N s br bl (inS K i d) (d+1)):=E;have U:Hid (Fr (·≠br) w s):=(Fr.grew G5.out).trans t;have S:Hid (Ao s g p (u:Int) ⟨#[]⟩ 0 0 ⟨#[]⟩ none 0 0):=E5.out.of t l;have T6:Hid (Ap s Y sb p (u:Int)):=T5.out.fr t a0;have O:Hid (OkS (inS K i d)->d+1<=24):=Ft hd;clear E t E5 T5 H G5;have q1:=Aa T6.out 1;have qf:(p.toList==[102,117,110])=true:=by rw[ByteArray.toList_eq,D];rfl
  have b6:=U.out.size;have e8:=Aa S.out 0;have f0:=Ac S.out 0;have E7:Hid (Ao (s.setCell ⟨g,0,none⟩ (.string ⟨#[102,117,110,32,105,110]⟩)) g ⟨#[102,117,110,32,105,110]⟩ (u:Int) ⟨#[]⟩ 0 0 ⟨#[]⟩ none 0 0):=S.out.op _;have b5:Fr (·≠g) s (s.setCell ⟨g,0,none⟩ (.string ⟨#[102,117,110,32,105,110]⟩)):=(Fr.refl _ s).set (by simp) _;have R7:Hid (RSd K N (s.setCell ⟨g,0,none⟩ (.string ⟨#[102,117,110,32,105,110]⟩)) br bl (inS K i d) (d+1)):=R6.out.fr b5 (Ne.symm l) (Ne.symm R);have F7:Hid (Fr (·≠br) w (s.setCell ⟨g,0,none⟩ (.string ⟨#[102,117,110,32,105,110]⟩))):=U.out.freshT (b5.mono fun _ q=>q.2) (by omega);have f9:=F7.out.size;have HC:Hid (Calls _ _ _ _ _):=H7 HS.out HK.out HL.out hN _ g (d+1) _ ⟨#[102,117,110,32,105,110]⟩ (u:Int) O.out l R R7.out E7.out ⟨#[105,110]⟩ 8 (Cc Ig) (.inr ⟨by decide,rfl,rfl⟩) (fun n a b=>.inr (.inr (.inr (.inr (.inr (.inr (.inr (.inr (.inr (.inr (.inr (.inr (.inr (.inl ⟨rfl,_,_,rfl,rfl⟩)))))))))))))) r (by have:=Kb (by rw[A];rfl) (by rw[A];rfl) G.out;rw[A] at this;exact this);clear G A b5 R6 U S T6;go_wp2_with fail
  refine HC.out.mono ?_;rintro e F ⟨rfl,c,f,v⟩;have R8:Hid (RSd K N F br bl (stX r) (d+1)):=f;have F8:Hid (Fr (·≠br) w F):=F7.out.freshT (c.mono fun _ q=>⟨q.1,q.2⟩) (by omega);have T8:Hid (∀x j,r=.ok (x,j)->Ag (fun k=>w.heap.size<=k) F x (.pointer (some ⟨g,0,none⟩))):=fun x j e=>(v x j e).fr (Fr.refl _ _) fun _ _ q=>by omega
  clear c f v R7 F7 E7;go_wp2_with fail
  refine(Ec F br bl _ d hd R8.out).mono ?_;rintro e C ⟨rfl,f,c⟩;have V:Hid (RSd K N C br bl (stX r) d):=f;have T:Hid (Fr (·≠br) w C):=F8.out.trans c;have X:Hid (∀x j,r=.ok (x,j)->Ag (fun k=>w.heap.size<=k) C x (.pointer (some ⟨g,0,none⟩))):=fun x j e=>(T8.out x j e).fr (c.mono fun k q=>by omega) fun _ _ q=>q;clear c f R8 F8 T8;go_wp2_with fail
  go_ret
  exact⟨T.out,V.out,g,rfl,X.out⟩
end Go.Proofs.YtjbfcadeapphbaaGreatDoor.Sx
