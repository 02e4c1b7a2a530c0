/- What stands behind a part, in brackets: a key. -/
import Derived.Test.YtjbfcadeapphbaaGreatDoorK11
import Derived.Lib.AtoiErrMem
namespace Go.Proofs.YtjbfcadeapphbaaGreatDoor.Sx
set_option maxRecDepth 100000
set_option maxHeartbeats 2000000
open Go.RowKit Go.Sort
theorem jY:(Tryz.prog.info? 214).map (fun i=>(i.zero,i.size,i.bytes))=some (some (.agg #[.pointer none,.pointer none]),2,16):=by kernel_rfl
def O9 (P:Nat->Prop)(w:World)(a:Option Addr)(len:Nat)(es:List (PX×PX)):Prop :=
 len=es.length/\len<=4294967296/\(len=0\/∃b off,a=some ⟨b,off,none⟩/\b<w.heap.size/\P b/\∀(i:Nat)(p:PX×PX),es[i]?=some p->∃v u,w.cell? ⟨b,off+i*2,none⟩=some v/\w.cell? ⟨b,off+i*2+1,none⟩=some u/\Af P w p.1 v/\Af P w p.2 u)
theorem O9.fr {P Q:Nat->Prop}{w w':World}{a:Option Addr}{len:Nat}{es:List (PX×PX)}(h:O9 P w a len es)(hf:Fr P w w')(hQ:∀k,k<w.heap.size->P k->Q k):O9 Q w' a len es:=by
 obtain⟨l,m,c⟩:=h;refine⟨l,m,?_⟩;rcases c with c|⟨b,g,e,f,j,c⟩
 ·exact .inl c
 ·have d:=hf.block b f j;refine .inr ⟨b,g,e,Nat.lt_of_lt_of_le f hf.size,hQ b f j,fun i p q=>?_⟩;obtain⟨v,u,o,n,r,s⟩:=c i p q;exact⟨v,u,(World.cell?_of_block (w:=w) d).trans o,(World.cell?_of_block (w:=w) d).trans n,r.fr hf hQ,s.fr hf hQ⟩
def LS2 (w:World)(lo:Nat)(sl:Value)(es:List (PX×PX)):Prop :=
 ∃vs,w.ownsRow lo 214 2 sl es.length vs/\∀(i:Nat)(p:PX×PX),es[i]?=some p->∃v u,vs[i*2]?=some v/\vs[i*2+1]?=some u/\Af (fun k=>lo<=k/\sl.ownBlock≠some k) w p.1 v/\Af (fun k=>lo<=k/\sl.ownBlock≠some k) w p.2 u
theorem dK {w w':World}{base:Nat}{sl:Value}{n:Nat}{vs:List Value}(h:w.ownsRow base 214 2 sl n vs)(hb:∀g,sl.ownBlock=some g->base<=g->g<w.heap.size->w'.heap[g]?=w.heap[g]?):w'.ownsRow base 214 2 sl n vs:=by
 refine⟨h.1,?_⟩;rcases h.2 with f|⟨g,a,b,e,c,d,r⟩
 ·exact .inl f
 ·exact .inr ⟨g,a,b,e,c,(hb g (by rw[e];rfl) c (Ab d)).trans d,r⟩
theorem LS2.nil (w:World)(lo:Nat):LS2 w lo (.slice none 0 0) []:=⟨[],World.ownsRow_nil _ _ _ _,fun i x q=>by simp at q⟩
theorem LS2.fr {w w':World}{lo br:Nat}{sl:Value}{es:List (PX×PX)}(h:LS2 w lo sl es)(f:Fr (·≠br) w w')(hbr:br<lo):LS2 w' lo sl es:=by
 obtain⟨l,a,b⟩:=h;refine⟨l,dK a (fun g _ hg hlt=>f.block g hlt (by omega)),fun i x q=>?_⟩;obtain⟨v,u,j,e,d,c⟩:=b i x q;exact⟨v,u,j,e,d.fr (f.mono fun k hk=>by have:=hk.1;omega) fun _ _ q=>q,c.fr (f.mono fun k hk=>by have:=hk.1;omega) fun _ _ q=>q⟩
theorem LS2.row {w:World}{lo:Nat}{sl:Value}{es:List (PX×PX)}(h:LS2 w lo sl es)(hl:es.length<=4294967296):∃a len cap,sl=.slice a len cap/\O9 (fun k=>lo<=k) w a len es:=by
 obtain⟨t,j,l⟩:=h;rcases j.2 with⟨rfl,r⟩|⟨g,cap,f,rfl,o,d,p,_,s,e⟩
 ·exact⟨none,0,0,rfl,by omega,by omega,.inl rfl⟩
 ·refine⟨_,es.length,cap,rfl,rfl,hl,.inr ⟨g,0,rfl,Ab d,o,fun i x q=>?_⟩⟩;obtain⟨v,u,c,b,m,n⟩:=l i x q;refine⟨v,u,?_,?_,m.fr (Fr.refl _ _) fun _ _ q=>q.1,n.fr (Fr.refl _ _) fun _ _ q=>q.1⟩
  ·rw[Nat.zero_add,Aa d];rw[<- e,List.getElem?_take] at c;split at c
   ·simpa using c
   ·simp at c
  ·rw[Nat.zero_add,Aa d];rw[<- e,List.getElem?_take] at b;split at b
   ·simpa using b
   ·simp at b
theorem LS2.push {w w1 w2:World}{lo g cap:Nat}{es:List (PX×PX)}{sl:Value}{vs:List Value}{x y:PX}{v u:Value}
  (h2:∀(i:Nat)(p:PX×PX),es[i]?=some p->∃v u,vs[i*2]?=some v/\vs[i*2+1]?=some u/\Af (fun k=>lo<=k/\sl.ownBlock≠some k) w1 p.1 v/\Af (fun k=>lo<=k/\sl.ownBlock≠some k) w1 p.2 u) (hvl:vs.length=es.length*2)
  (hx:Af (fun k=>w.heap.size<=k) w1 x v) (hy:Af (fun k=>w.heap.size<=k) w1 y u) (hlo:lo<=w.heap.size) (hsl:∀q,sl.ownBlock=some q->q<w.heap.size)
  (ho:w2.ownsRow lo 214 2 (.slice (some ⟨g,0,none⟩) (es.length+1) cap) (es.length+1) (vs++[v,u])) (hg:w1.grownBy w2 sl.ownBlock) (hat:sl.ownBlock=some g\/w1.heap.size<=g) :
  LS2 w2 lo (.slice (some ⟨g,0,none⟩) (es.length+1) cap) (es++[(x,y)]):=by
 have a:∀(z:PX)(q:Value),Af (fun k=>lo<=k/\sl.ownBlock≠some k) w1 z q->Af (fun k=>lo<=k/\(Value.slice (some ⟨g,0,none⟩) (es.length+1) cap).ownBlock≠some k) w2 z q:=by
  intro z q m;have c:Fr (fun k=>lo<=k/\sl.ownBlock≠some k) w1 w2:=⟨hg.os,hg.tape,hg.output,hg.size,fun k hk hp=>hg.block k hk (fun e=>hp.2 e.symm)⟩;refine m.fr c fun k hk hp=>⟨hp.1,fun e=>?_⟩;simp only[Value.ownBlock,Option.some.injEq] at e;subst e;rcases hat with q|q
  ·exact hp.2 q
  ·omega
 refine⟨vs++[v,u],by rw[List.length_append];exact ho,fun i p q=>?_⟩;by_cases h:i<es.length
 ·rw[List.getElem?_append_left h] at q;obtain⟨o,n,l,j,d,f⟩:=h2 i p q;exact⟨o,n,by rw[List.getElem?_append_left (by omega)];exact l,by rw[List.getElem?_append_left (by omega)];exact j,a _ _ d,a _ _ f⟩
 ·have b:i=es.length:=by
   have:=(List.getElem?_eq_some_iff.1 q).1;simp at this;omega
  subst b;rw[List.getElem?_append_right (Nat.le_refl _)] at q;simp at q;subst q;exact⟨v,u,by rw[List.getElem?_append_right (by omega)];simp[hvl],by rw[List.getElem?_append_right (by omega),hvl,show es.length*2+1-es.length*2=1 from by omega];rfl,a _ _ (hx.fr (Fr.refl _ _) fun k _ hk=>⟨by omega,fun e=>by have:=hsl k e;omega⟩),a _ _ (hy.fr (Fr.refl _ _) fun k _ hk=>⟨by omega,fun e=>by have:=hsl k e;omega⟩)⟩
def jZ (w:World)(br:Nat)(t:ByteArray)(d:Nat)(r:Except (Nat×Nat) (List (PX×PX)×Nat))(e:Ending)(w':World):Prop :=
 Fr (·≠br) w w'/\match r with
  | .ok (l,j)=>(∃a len cap,e=.returned (.slice a len cap)/\O9 (fun k=>w.heap.size<=k) w' a len l)/\RdF w' br t j d
  | .error (c,p)=>e=Flt c p
def iF (w:World)(br:Nat)(t:ByteArray)(d:Nat)(cl:List UInt8)(r:Except (Nat×Nat) (List (PX×PX)×Nat))(e:Ending)(w':World):Prop :=
 Fr (·≠br) w w'/\((∃c p,r=.error (c,p)/\e=Flt c p)\/∃l j a len cap,e=.returned (.slice a len cap)/\O9 (fun k=>w.heap.size<=k) w' a len l/\RdF w' br t j d/\Xd (tkF t.data.toList) cl l j r)
theorem LS2.one {w w2:World}{x y:PX}{v u:Value}(hx:Af (fun k=>w.heap.size<=k) w2 x v)(hy:Af (fun k=>w.heap.size<=k) w2 y u)(hz:w.heap.size<=w2.heap.size) :
  LS2 (w2.alloc (.cells #[v,u] 214)) w.heap.size (.slice (some ⟨w2.heap.size,0,none⟩) 1 1) [(x,y)]:=by
 have b:(w2.alloc (.cells #[v,u] 214)).heap[w2.heap.size]?=some (.cells #[v,u] 214 (0,0)):=Aj rfl;have a:∀k,k<w2.heap.size->w.heap.size<=k->w.heap.size<=k/\(Value.slice (some ⟨w2.heap.size,0,none⟩) 1 1).ownBlock≠some k:=fun k hk hp=>⟨hp,fun e=>by
  simp only[Value.ownBlock,Option.some.injEq] at e;omega⟩
 refine⟨[v,u],⟨rfl,.inr ⟨w2.heap.size,1,#[v,u],rfl,hz,b,Nat.le_refl _,by unfold maxLen;omega,rfl,rfl⟩⟩,fun i p q=>?_⟩
 match i,q with
 | 0,q =>
  simp at q;subst q;exact⟨v,u,rfl,rfl,hx.fr ((Fr.refl _ w2).alloc _) a,hy.fr ((Fr.refl _ w2).alloc _) a⟩
 | i+1,q=>simp at q
theorem Qs {br:Nat}{t:ByteArray}{self:Nat->Nat->Nat->RX PX}(hS:Ax br t self)(w:World)(d i m:Nat)(cl:List UInt8)(hcl:(([44]:List UInt8)==cl)=false)(hd:d<=24)(ht:t.size<=4000)(hm:m<=1000000)(hI:Bl w br)(hr:RdF w br t i d)
  (r:Except (Nat×Nat) (List (PX×PX)×Nat)) (h:Bj (tkF t.data.toList) cl (Gn (tkF t.data.toList) self d) m [] i=some r) :
  Calls Tryz.prog 169 #[.pointer (some ⟨br,0,none⟩),.func (.func 165) #[.pointer (some ⟨br,0,none⟩)] #[]] w (iF w br t d cl r):=by
 have HS:Hid (Ax br t self):=hS;have HI:Hid (Bl w br):=hI;have HK:Hid (∀(W:World)(k:Nat)(b:Bool),_):=fun W k b h=>Fu W br t ⟨#[44]⟩ k d h ht b;have HC:Hid ((([44]:List UInt8)==cl)=false):=hcl;have E:=Ab hr;have HR:Hid (RdF w br t i d):=hr;clear hI hS hr hcl;have mo:=follows;obtain⟨P,b0,b3,b4,b5⟩:∃P,Tryz.prog.info? 214=some P/\P.zero=some (.agg #[.pointer none,.pointer none])/\P.size=2/\P.bytes=16:=by
  have:=jY;cases hq:Tryz.prog.info? 214 with
  | none=>rw[hq] at this;simp at this
  | some j=>rw[hq] at this;simp at this;exact⟨j,rfl,this.1,this.2.1,this.2.2⟩
 obtain⟨m,rfl⟩:∃m',m=m'+1:=by
  cases m with
  | zero=>exact absurd h (by simp[Bj])
  | succ m=>exact⟨m,rfl⟩
 rw[Bj] at h;go_enter Tryz.func169,Tryz.ntmps169
 go_wp2_with fail
 rcases Aq h with⟨⟨c,p⟩,F,rfl⟩|⟨⟨x,x2⟩,j2,F,hk⟩
 ·refine(Kf HS.out w d _ hd ht HI.out HR.out _ F).mono ?_;rintro e z ⟨l,rfl⟩;exact⟨rfl,l,.inl ⟨_,_,rfl,rfl⟩⟩
 refine(Kf HS.out w d _ hd ht HI.out HR.out _ F).mono ?_;rintro e z ⟨l,⟨v,u,rfl,hv,H⟩,hr⟩;have R2:Hid (RdF z br t j2 d):=hr;have F2:Hid (Fr (·≠br) w z):=l;have T2:Hid (Af (fun k=>w.heap.size<=k) z x v):=hv;have U2:Hid (Af (fun k=>w.heap.size<=k) z x2 u):=H;have P2:Hid (_=some r):=hk;have M:=l.size;clear l hr F hv H hk h HR;obtain⟨bx,rfl,-,-⟩:=T2.out.ptr;obtain⟨D,rfl,-,-⟩:=U2.out.ptr;go_wp2_with fail
 have L3:Hid (LS2 (z.alloc (.cells #[.pointer (some ⟨bx,0,none⟩),.pointer (some ⟨D,0,none⟩)] 214)) w.heap.size (.slice (some ⟨z.heap.size,0,none⟩) 1 1) [(x,x2)]):=LS2.one T2.out U2.out M;have F3:Hid (Fr (·≠br) w (z.alloc (.cells #[.pointer (some ⟨bx,0,none⟩),.pointer (some ⟨D,0,none⟩)] 214))):=F2.out.alloc _;have R3:Hid (RdF (z.alloc (.cells #[.pointer (some ⟨bx,0,none⟩),.pointer (some ⟨D,0,none⟩)] 214)) br t j2 d):=RdF.of R2.out ((Fr.refl (fun _=>True) z).alloc _) trivial;clear F2 R2 T2 U2 M;generalize z.alloc (.cells #[.pointer (some ⟨bx,0,none⟩),.pointer (some ⟨D,0,none⟩)] 214)=w3 at L3 F3 R3 |-;generalize a8:Value.slice (some ⟨z.heap.size,0,none⟩) 1 1=s5 at L3 |-;clear a8;go_loopg [5] (m) (fun f s5 wr=>∃(j:Nat)(a:List (PX×PX)),a.length+f<=1000000/\Hid (RdF wr br t j d)/\Hid (LS2 wr w.heap.size s5 a)/\Hid ((if ((tkF t.data.toList) j).tx==cl then okX a (j+1) else Bv (tkF t.data.toList) [44] j fun j=>Bj (tkF t.data.toList) cl (Gn (tkF t.data.toList) self d) f a j)=some r)/\Hid (Fr (·≠br) w wr))
 case atStart=>exact⟨j2,[(x,x2)],by simp;omega,R3,L3,P2,F3⟩
 case round =>
  clear R3 L3 P2 F3;obtain⟨j,a,b7,R1,L1,P1,F1⟩:=hrel;rcases O6 HC.out P1.out with⟨Z,hp⟩|⟨Z,hp⟩
  case inr =>
   have R:Hid (Xd (tkF t.data.toList) cl a j r):=hp;have C:Hid (Calls _ _ _ _ _):=HK.out wr j false R1.out Z;clear Z hp P1 R1;go_wp2_with (go_at_call 112;refine C.out.mono ?_;rintro e s ⟨rfl,hr,l⟩;have V:Hid (RdF s br t j d):=hr;have G:Hid (Fr (·≠br) w s):=F1.out.trans l;have T:Hid (LS2 s w.heap.size _ a):=L1.out.fr l E;clear hr l)
   go_ret
   obtain⟨a4,l4,c4,a2,K⟩:=T.out.row (by omega);exact⟨G.out,.inr ⟨a,j,a4,l4,c4,by rw[a2];rfl,K,V.out,R.out⟩⟩
  have C:Hid (Calls _ _ _ _ _):=HK.out wr j true R1.out Z;have R:Hid (Bj (tkF t.data.toList) cl (Gn (tkF t.data.toList) self d) gk a (j+1)=some r):=hp;clear Z hp P1 R1;obtain⟨f,rfl⟩:∃f,gk=f+1:=by
   cases gk with
   | zero=>exact absurd R.out (by simp[Bj])
   | succ f=>exact⟨f,rfl⟩
  go_wp2_with (go_at_call 112;refine C.out.mono ?_;rintro e s ⟨rfl,hr,l⟩;have V:Hid (RdF s br t (j+1) d):=hr;have G:Hid (Fr (·≠br) w s):=F1.out.trans l;have T:Hid (LS2 s w.heap.size u5 a):=L1.out.fr l E;clear hr l)
  have hp:=R.out;rw[Bj] at hp;clear R C L1 F1;rcases Aq hp with⟨⟨c,p⟩,F,rfl⟩|⟨⟨y,y2⟩,j3,F,hk⟩
  ·refine(Kf HS.out s d _ hd ht (HI.out.fr G.out) V.out _ F).mono ?_;rintro e B ⟨l,rfl⟩;exact⟨rfl,G.out.trans l,.inl ⟨_,_,rfl,rfl⟩⟩
  refine(Kf HS.out s d _ hd ht (HI.out.fr G.out) V.out _ F).mono ?_;rintro e B ⟨l,⟨v,u,rfl,hv,H⟩,hr⟩;have b2:=G.out.size;have R5:Hid (RdF B br t j3 d):=hr;have I:Hid (Fr (·≠br) w B):=G.out.trans l;have T5:Hid (Af (fun k=>s.heap.size<=k) B y v):=hv;have U5:Hid (Af (fun k=>s.heap.size<=k) B y2 u):=H;have P5:Hid (_=some r):=hk;have L5:=T.out.fr l E;have a0:∀q,u5.ownBlock=some q->q<s.heap.size:=by
   obtain⟨vs,h1,-⟩:=T.out;intro q hq;exact(h1.lt q hq).2
  obtain⟨vs,O,h2⟩:=L5;have a5:vs.length=a.length*2:=by have:=O.1;omega
  have HO:Hid (B.ownsRow w.heap.size 214 2 u5 a.length vs):=O;have H2:Hid (∀(i:Nat)(p:PX×PX),a[i]?=some p->_):=h2;have S:Hid (∀q,u5.ownBlock=some q->q<s.heap.size):=a0;have M:=I.out.size;have b8:=l.size;clear l hr F hv H hk O h2 a0 V G T hp;obtain⟨J,rfl,-,-⟩:=T5.out.ptr;obtain⟨bz,rfl,-,-⟩:=U5.out.ptr;have Q:Hid ((B.alloc (.cells #[.pointer (some ⟨J,0,none⟩),.pointer (some ⟨bz,0,none⟩)] 214)).ownsRow w.heap.size 214 2 u5 a.length vs):=HO.out.alloc _;go_wp2_with (at_builtin;refine wpList_append_lies _ rfl _ _ 212 rfl _ 214 P _ 2 16 Tryz.underlying212 b0 b3 b4 b5 rfl (by decide) u5 _ vs rfl Q.out _ 1 1 [.pointer (some ⟨J,0,none⟩),.pointer (some ⟨bz,0,none⟩)] rfl rfl ?q1 ?q2 (by decide) ?q3 ?q4 ?q5 (B.heap.size+1) ?q6 ?_)
  case q1 =>
   intro k u hk
   match k,hk with
   | 0,hk=>simp at hk;subst hk;simp[Addr.add]
   | 1,hk=>simp at hk;subst hk;simp[Addr.add]
   | k+2,hk=>simp at hk
  case q2 =>
   intro u H;simp only[List.mem_cons,List.not_mem_nil,or_false] at H;rcases H with rfl|rfl<;>rfl
  case q3=>unfold maxLen;omega
  case q4=>omega
  case q5=>simp;omega
  case q6=>simp
  intro g X w6 O N Y b1;have o:B.grownBy w6 u5.ownBlock:=by
   have a1:=World.grownBy_alloc B (.cells #[.pointer (some ⟨J,0,none⟩),.pointer (some ⟨bz,0,none⟩)] 214) u5.ownBlock;refine⟨N.os,N.tape,N.output,?_,fun k hk hne=>?_⟩
   ·have:=N.size;simp at this;omega
   ·rw[N.block k (by simp;omega) hne,a1.block k hk hne]
  have U:Hid (LS2 w6 w.heap.size (.slice (some ⟨g,0,none⟩) (a.length+1) X) (a++[(y,y2)])):=LS2.push H2.out a5 T5.out U5.out b2 S.out O o (by rcases Y with q|q;exact .inl q;exact .inr (by omega));have n:Fr (fun k=>u5.ownBlock≠some k) B w6:=⟨o.os,o.tape,o.output,o.size,fun k hk hp=>o.block k hk (fun e=>hp e.symm)⟩;have A:∀k,k<w.heap.size->u5.ownBlock≠some k:=fun k hk e=>by have:=(HO.out.lt k e).1;omega
  have F6:Hid (Fr (·≠br) w w6):=⟨n.os.trans I.out.os,n.tape.trans I.out.tape,n.output.trans I.out.output,Nat.le_trans I.out.size n.size,fun k hk hq=>(n.block k (by omega) (A k hk)).trans (I.out.block k hk hq)⟩;have R6:Hid (RdF w6 br t j3 d):=RdF.of R5.out n (A br E);clear O N Y b1 o n A H2 HO S Q T5 U5 R5 I;have b6:a.length+1+f<=1000000:=by omega
  generalize hA:a++[(y,y2)]=acc2 at U P5;have a7:acc2.length=a.length+1:=by rw[<- hA];simp
  clear hA;rw[<- a7] at U |-;generalize a9:Value.slice (some ⟨g,0,none⟩) acc2.length X=sl at U |-;clear a9 a5;obtain⟨a6,l6,c6,a3,L⟩:=U.out.row (by omega);clear L;subst a3;go_wp2_with fail
  go_roundg f
  case measure=>omega
  case rel=>exact⟨j3,acc2,by omega,R6,U,P5,F6⟩
theorem Pb {br:Nat}{t:ByteArray}{self:Nat->Nat->Nat->RX PX}(hS:Ax br t self)(w:World)(d i m:Nat)(cl:ByteArray)(hcl:(([44]:List UInt8)==cl.data.toList)=false)(hd:d<=24)(ht:t.size<=4000)(hm:m<=1000000)(hI:Bl w br)(hr:RdF w br t i d)
  (r:Except (Nat×Nat) (List (PX×PX)×Nat)) (h:Bj (tkF t.data.toList) cl.data.toList (Gn (tkF t.data.toList) self d) m [] i=some r) :
  Calls Tryz.prog 164 #[.pointer (some ⟨br,0,none⟩),.func (.func 165) #[.pointer (some ⟨br,0,none⟩)] #[],.string cl] w (jZ w br t d r):=by
 have C:Hid (Calls _ _ _ _ _):=Qs hS w d i m cl.data.toList hcl hd ht hm hI hr r h;have y:Hid (∀(W:World)(k:Nat)(b:Bool),_):=fun W k b h=>Cj W br t cl k d h ht b;have I:=Ab hr;clear hI hS hr h hcl;have J:=follows;go_enter Tryz.func164,Tryz.ntmps164
 go_wp2_with fail
 refine C.out.mono ?_;rintro e s ⟨f,⟨c,p,rfl,rfl⟩|⟨l,j,a,n,A,rfl,g,hr,o⟩⟩
 ·exact⟨rfl,f,rfl⟩
 have z:Hid (RdF s br t j d):=hr;have x:Hid (Fr (·≠br) w s):=f;have D:Hid (O9 (fun k=>w.heap.size<=k) s a n l):=g;clear f hr g C;rcases o with⟨u,o⟩|⟨u,o⟩
 case inr =>
  obtain rfl:=o;go_wp2_with fail
  refine(y.out s j false z.out u).mono ?_;rintro e v ⟨f,⟨q,-⟩|⟨-,rfl⟩⟩
  ·simp at q
  ·exact⟨rfl,x.out.trans f,rfl⟩
 have F:Hid (r=.ok (l,j+1)):=o;have B:Hid (((tkF t.data.toList j).tx==cl.data.toList)=true):=u;clear o u;go_wp2_with fail
 refine(y.out s j true z.out B.out).mono ?_;rintro e v ⟨f,⟨-,rfl,hr⟩|⟨q,-⟩⟩
 case inr=>simp at q
 have G:Hid (RdF v br t (j+1) d):=hr;have E:Hid (Fr (·≠br) w v):=x.out.trans f;have H:Hid (O9 (fun k=>w.heap.size<=k) v a n l):=O9.fr D.out (f.mono fun k q=>by omega) (fun _ _ q=>q);clear f hr z x D y B;go_wp2_with fail
 go_ret
 rw[F.out];exact⟨E.out,⟨a,n,A,rfl,H.out⟩,G.out⟩
theorem S3 {br:Nat}{t:ByteArray}{self:Nat->Nat->Nat->RX PX}(hS:Ax br t self)(w:World)(d i m:Nat)(hd:d<=24)(ht:t.size<=4000)(hI:Bl w br)(hr:RdF w br t i d)(ho:txF t.data.toList i=[40])
  (r:Except (Nat×Nat) (PX×Nat)) (h:Bp (tkF t.data.toList) self m d i=some r) :
  Calls Tryz.prog 157 #[.pointer (some ⟨br,0,none⟩)] w (Cr w br t d r):=by
 have T:Hid (Ax br t self):=hS;have R:Hid (Bl w br):=hI;have S:Hid (RdF w br t i d):=hr;have L:=Ab hr;have h1:=Aa hr 1;have HL:Hid (∀(W:World)(k:Nat),_):=fun W k h=>Dz W br t k d h hd;clear hI hS hr;have mo:=follows;have s:Hid (Ao (w.alloc (.cells #[.int .i64 12,.string ⟨#[]⟩,.string ⟨#[]⟩,.int .i64 0,.int .i64 (atF t.data.toList i:Int),.slice none 0 0] 81)) w.heap.size 12 ⟨#[]⟩ ⟨#[]⟩ 0 (atF t.data.toList i) none 0 0):=Aj rfl;have C:Hid (Fr (·≠br) w (w.alloc (.cells #[.int .i64 12,.string ⟨#[]⟩,.string ⟨#[]⟩,.int .i64 0,.int .i64 (atF t.data.toList i:Int),.slice none 0 0] 81))):=(Fr.refl _ w).alloc _;have u:Hid (RdF (w.alloc (.cells #[.int .i64 12,.string ⟨#[]⟩,.string ⟨#[]⟩,.int .i64 0,.int .i64 (atF t.data.toList i:Int),.slice none 0 0] 81)) br t i d):=RdF.of S.out (P:=fun _=>True) ((Fr.refl _ w).alloc _) trivial;have A:(pcF t i).toList=txF t.data.toList i:=by rw[ByteArray.toList_eq,A5]
 have B:(tkF t.data.toList i).tx=txF t.data.toList i:=rfl;unfold Bp at h;simp only[B] at h;go_enter Tryz.func157,Tryz.ntmps157
 go_upto_region 2 with fail
 clear h1 S;generalize (w.alloc (.cells #[.int .i64 12,.string ⟨#[]⟩,.string ⟨#[]⟩,.int .i64 0,.int .i64 (atF t.data.toList i:Int),.slice none 0 0] 81))=w1 at s C u |-;obtain⟨f,y⟩:∃f,w.heap.size=f:=⟨_,rfl⟩;rw[y] at s L |-;have a3:w.heap.size<=f:=by omega
 have a0:f<=w.heap.size:=by omega
 clear y;have M:f≠br:=by omega
 have a1:f<w1.heap.size:=Ab s.out;have h2:=Aa u.out 2;have g0:((pcF t i).toList==[40])=true:=by rw[A,ho];rfl
 rw[ho] at h;rw[if_pos (by decide)] at h;clear A B ho;go_wp2_with fail
 rcases C2 hd h with⟨K,V⟩|⟨rfl,rfl⟩
 case inr =>
  refine(Dg w1 br t i u.out).mono ?_;rintro e l ⟨rfl,rfl⟩;exact⟨rfl,C.out,rfl⟩
 refine(Ez w1 br t i d u.out ht K).mono ?_;rintro e l ⟨rfl,hr,a⟩;have H:Hid (RdF l br t (i+1) (d+1)):=hr;have O:Hid (Ao l f 12 ⟨#[]⟩ ⟨#[]⟩ 0 (atF t.data.toList i) none 0 0):=s.out.of a M;have n:Hid (Fr (·≠br) w l):=C.out.trans a;have a2:f<l.heap.size:=Ab O.out;have a4:=n.out.size;clear hr a s C u h h2;have Q:Hid (∀(W:World)(m:ByteArray)(k:Nat)(b:Bool),_):=fun W m k b h=>Cj W br t m k (d+1) h ht b;go_wp2_with fail
 rcases Aq V with⟨⟨c,p⟩,E,rfl⟩|⟨x,j,E,z⟩
 ·refine(Aw T.out l (d+1) _ _ (by omega) (R.out.fr n.out) H.out E).mono ?_;rintro e o ⟨a,rfl⟩;exact⟨rfl,n.out.trans a,rfl⟩
 refine(Aw T.out l (d+1) _ _ (by omega) (R.out.fr n.out) H.out E).mono ?_;rintro e o ⟨a,⟨v,rfl,X⟩,hr⟩;have I:Hid (RdF o br t j (d+1)):=hr;have G:Hid (Fr (·≠br) w o):=n.out.trans a;have J:Hid (Af (fun k=>w.heap.size<=k) o x v):=X.fr (Fr.refl _ _) fun _ _ q=>by omega
 clear a hr X E V O n H;obtain⟨U,rfl,-,-⟩:=J.out.ptr;go_wp2_with fail
 rcases Bk z with⟨D,g⟩|⟨D,rfl⟩
 case inr =>
  refine(Q.out o ⟨#[41]⟩ j false I.out D).mono ?_;rintro e F ⟨a,⟨q,-⟩|⟨-,rfl⟩⟩
  ·simp at q
  ·exact⟨rfl,G.out.trans a,rfl⟩
 refine(Q.out o ⟨#[41]⟩ j true I.out D).mono ?_;rintro e F ⟨a,⟨-,rfl,hr⟩|⟨q,-⟩⟩
 case inr=>simp at q
 have R4:Hid (RdF F br t (j+1) (d+1)):=hr;have Y:Hid (Fr (·≠br) w F):=G.out.trans a;have T4:Hid (Af (fun k=>w.heap.size<=k) F x (.pointer (some ⟨U,0,none⟩))):=J.out.fr (a.mono fun k q=>by omega) fun _ _ q=>q;have HQ:Hid (r=.ok (x,j+1)):=by simp only[okX,Option.some.injEq] at g;exact g.symm
 clear a hr D z g I G J;go_wp2_with (go_at_call 146;refine(HL.out _ _ R4.out).mono ?_;rintro e N ⟨rfl,hr,a⟩;have R5:Hid (RdF N br t (j+1) d):=hr;have Z:Hid (Fr (·≠br) w N):=Y.out.trans a;have T5:Hid (Af (fun k=>w.heap.size<=k) N x (.pointer (some ⟨U,0,none⟩))):=T4.out.fr (a.mono fun k q=>by omega) fun _ _ q=>q;clear hr a)
 go_ret
 rw[HQ.out];exact⟨Z.out,⟨_,rfl,T5.out⟩,R5.out⟩
theorem S4 {br:Nat}{t:ByteArray}{self:Nat->Nat->Nat->RX PX}(hS:Ax br t self)(w:World)(d i m:Nat)(hd:d<=24)(ht:t.size<=4000)(hm:m<=1000000)(hI:Bl w br)(hr:RdF w br t i d)(ho:txF t.data.toList i=[123])
  (r:Except (Nat×Nat) (PX×Nat)) (h:Bp (tkF t.data.toList) self m d i=some r) :
  Calls Tryz.prog 157 #[.pointer (some ⟨br,0,none⟩)] w (Cr w br t d r):=by
 have O:Hid (Ax br t self):=hS;have H:Hid (Bl w br):=hI;have I:Hid (RdF w br t i d):=hr;have E:=Ab hr;have U:=Aa hr 1;have N:Hid (∀(W:World)(k:Nat),_):=fun W k h=>Dz W br t k d h hd;clear hI hS hr;have mo:=follows;have o:Hid (Ao (w.alloc (.cells #[.int .i64 12,.string ⟨#[]⟩,.string ⟨#[]⟩,.int .i64 0,.int .i64 (atF t.data.toList i:Int),.slice none 0 0] 81)) w.heap.size 12 ⟨#[]⟩ ⟨#[]⟩ 0 (atF t.data.toList i) none 0 0):=Aj rfl;have z:Hid (Fr (·≠br) w (w.alloc (.cells #[.int .i64 12,.string ⟨#[]⟩,.string ⟨#[]⟩,.int .i64 0,.int .i64 (atF t.data.toList i:Int),.slice none 0 0] 81))):=(Fr.refl _ w).alloc _;have q:Hid (RdF (w.alloc (.cells #[.int .i64 12,.string ⟨#[]⟩,.string ⟨#[]⟩,.int .i64 0,.int .i64 (atF t.data.toList i:Int),.slice none 0 0] 81)) br t i d):=RdF.of I.out (P:=fun _=>True) ((Fr.refl _ w).alloc _) trivial;have g:(pcF t i).toList=txF t.data.toList i:=by rw[ByteArray.toList_eq,A5]
 have y:(tkF t.data.toList i).tx=txF t.data.toList i:=rfl;unfold Bp at h;simp only[y] at h;go_enter Tryz.func157,Tryz.ntmps157
 go_upto_region 2 with fail
 clear U I;generalize (w.alloc (.cells #[.int .i64 12,.string ⟨#[]⟩,.string ⟨#[]⟩,.int .i64 0,.int .i64 (atF t.data.toList i:Int),.slice none 0 0] 81))=w1 at o z q |-;obtain⟨f,s⟩:∃f,w.heap.size=f:=⟨_,rfl⟩;rw[s] at o E |-;have l:w.heap.size<=f:=by omega
 have X:f<=w.heap.size:=by omega
 clear s;have v:f≠br:=by omega
 have Z:f<w1.heap.size:=Ab o.out;have V:=Aa q.out 2;have g0:((pcF t i).toList==[40])=false:=by rw[g,ho];rfl
 have g1:((pcF t i).toList==[123])=true:=by rw[g,ho];rfl
 rw[ho] at h;rw[if_neg (by decide),if_pos (by decide)] at h;clear g y ho;go_wp2_with fail
 rcases C2 hd h with⟨D,Y⟩|⟨rfl,rfl⟩
 case inr =>
  refine(Dg w1 br t i q.out).mono ?_;rintro e n ⟨rfl,rfl⟩;exact⟨rfl,z.out,rfl⟩
 refine(Ez w1 br t i d q.out ht D).mono ?_;rintro e n ⟨rfl,hr,a⟩;have Q:Hid (RdF n br t (i+1) (d+1)):=hr;have F:Hid (Ao n f 12 ⟨#[]⟩ ⟨#[]⟩ 0 (atF t.data.toList i) none 0 0):=o.out.of a v;have A:Hid (Fr (·≠br) w n):=z.out.trans a;have a0:f<n.heap.size:=Ab F.out;have a1:=A.out.size;clear hr a o z q h V;have HD:Hid (∀(W:World)(m:ByteArray)(k:Nat)(b:Bool),_):=fun W m k b h=>Cj W br t m k (d+1) h ht b;have C:=H.out.new l;have G:Hid (Calls _ _ _ _ _):=dJ O.out n f (d+1) (i+1) m _ (by omega) ht hm v C (H.out.fr A.out) Q.out F.out r Y;go_wp2_with fail
 refine G.out.mono ?_;rintro e B ⟨a,u⟩;rcases r with⟨c,p⟩|⟨x,j⟩
 ·obtain rfl:=u;exact⟨rfl,Ll l A.out a⟩
 ·obtain⟨rfl,J,hr⟩:=u;have T:Hid (Af _ B x _):=J;have R:Hid (RdF B br t j (d+1)):=hr;have L:Hid (Fr _ n B):=a;clear J hr a G;go_wp2_with (go_at_call 146;refine(N.out _ _ R.out).mono ?_;rintro e K ⟨rfl,hr,a⟩;have S:Hid (RdF K br t j d):=hr;have M:Hid (Fr (·≠br) B K):=a;clear hr a)
  go_ret
  exact I1 l (by omega) A.out L.out T.out rfl S.out M.out
theorem S5 {br:Nat}{t:ByteArray}{self:Nat->Nat->Nat->RX PX}(hS:Ax br t self)(w:World)(d i m:Nat)(hd:d<=24)(ht:t.size<=4000)(hm:m<=1000000)(hI:Bl w br)(hr:RdF w br t i d)(ho:txF t.data.toList i=[60,60])
  (r:Except (Nat×Nat) (PX×Nat)) (h:Bp (tkF t.data.toList) self m d i=some r) :
  Calls Tryz.prog 157 #[.pointer (some ⟨br,0,none⟩)] w (Cr w br t d r):=by
 have U:Hid (Ax br t self):=hS;have S:Hid (Bl w br):=hI;have T:Hid (RdF w br t i d):=hr;have N:=Ab hr;have h1:=Aa hr 1;have HL:Hid (∀(W:World)(k:Nat),_):=fun W k h=>Dz W br t k d h hd;clear hI hS hr;have mo:=follows;have E:Hid (Ao (w.alloc (.cells #[.int .i64 12,.string ⟨#[]⟩,.string ⟨#[]⟩,.int .i64 0,.int .i64 (atF t.data.toList i:Int),.slice none 0 0] 81)) w.heap.size 12 ⟨#[]⟩ ⟨#[]⟩ 0 (atF t.data.toList i) none 0 0):=Aj rfl;have I:Hid (Fr (·≠br) w (w.alloc (.cells #[.int .i64 12,.string ⟨#[]⟩,.string ⟨#[]⟩,.int .i64 0,.int .i64 (atF t.data.toList i:Int),.slice none 0 0] 81))):=(Fr.refl _ w).alloc _;have F:Hid (RdF (w.alloc (.cells #[.int .i64 12,.string ⟨#[]⟩,.string ⟨#[]⟩,.int .i64 0,.int .i64 (atF t.data.toList i:Int),.slice none 0 0] 81)) br t i d):=RdF.of T.out (P:=fun _=>True) ((Fr.refl _ w).alloc _) trivial;have u:(pcF t i).toList=txF t.data.toList i:=by rw[ByteArray.toList_eq,A5]
 have H:(tkF t.data.toList i).tx=txF t.data.toList i:=rfl;unfold Bp at h;simp only[H] at h;go_enter Tryz.func157,Tryz.ntmps157
 go_upto_region 2 with fail
 clear h1 T;generalize (w.alloc (.cells #[.int .i64 12,.string ⟨#[]⟩,.string ⟨#[]⟩,.int .i64 0,.int .i64 (atF t.data.toList i:Int),.slice none 0 0] 81))=w1 at E I F |-;obtain⟨f,G⟩:∃f,w.heap.size=f:=⟨_,rfl⟩;rw[G] at E N |-;have B:w.heap.size<=f:=by omega
 have a0:f<=w.heap.size:=by omega
 clear G;have s:f≠br:=by omega
 have a1:f<w1.heap.size:=Ab E.out;have h2:=Aa F.out 2;have g0:((pcF t i).toList==[40])=false:=by rw[u,ho];rfl
 have g1:((pcF t i).toList==[123])=false:=by rw[u,ho];rfl
 have g2:((pcF t i).toList==[60,60])=true:=by rw[u,ho];rfl
 rw[ho] at h;rw[if_neg (by decide),if_neg (by decide),if_pos (by decide)] at h;clear u H ho;go_wp2_with fail
 rcases C2 hd h with⟨M,Z⟩|⟨rfl,rfl⟩
 case inr =>
  refine(Dg w1 br t i F.out).mono ?_;rintro e o ⟨rfl,rfl⟩;exact⟨rfl,I.out,rfl⟩
 refine(Ez w1 br t i d F.out ht M).mono ?_;rintro e o ⟨rfl,hr,g⟩;have L:Hid (RdF o br t (i+1) (d+1)):=hr;have K:Hid (Ao o f 12 ⟨#[]⟩ ⟨#[]⟩ 0 (atF t.data.toList i) none 0 0):=E.out.of g s;have D:Hid (Fr (·≠br) w o):=I.out.trans g;have O:f<o.heap.size:=Ab K.out;have a2:=D.out.size;clear hr g E I F h h2;have HD:Hid (∀(W:World)(m:ByteArray)(k:Nat)(b:Bool),_):=fun W m k b h=>Cj W br t m k (d+1) h ht b;go_wp2_with fail
 rcases Aq Z with⟨⟨c,p⟩,J,rfl⟩|⟨l,j,J,A⟩
 ·refine(Ln U.out o (d+1) _ m ⟨#[62,62]⟩ rfl (by omega) ht hm (S.out.fr D.out) L.out _ J).mono ?_;rintro e n ⟨g,rfl⟩;exact⟨rfl,D.out.trans g,rfl⟩
 refine(Ln U.out o (d+1) _ m ⟨#[62,62]⟩ rfl (by omega) ht hm (S.out.fr D.out) L.out _ J).mono ?_;rintro e n ⟨g,⟨a,v,cap,rfl,y⟩,hr⟩;have V:Hid (RdF n br t j (d+1)):=hr;have R:Hid (Fr (·≠br) w n):=D.out.trans g;have C:Hid (Ao n f 12 ⟨#[]⟩ ⟨#[]⟩ 0 (atF t.data.toList i) none 0 0):=K.out.of g s;have X:Hid (Ca (fun k=>o.heap.size<=k) n (Af (fun k=>o.heap.size<=k) n) a v l):=y;have HQ:Hid (r=.ok (Jq l,j)):=by simp only[okX,Option.some.injEq] at A;exact A.symm
 have c1:=Aa C.out 1;have f1:=Ac C.out 1;have c5:=Aa C.out 5;have f5:=Ac C.out 5;have z:Fr (fun k=>o.heap.size<=k) n (n.setCell ⟨f,1,none⟩ (.string ⟨#[115,101,113]⟩)):=(Fr.refl _ _).set (by simp;omega) _;have Y:=O7 (lo:=w.heap.size) (cap:=cap) O (Ca.fr z (fun _ _ h=>h.fr z fun _ _ q=>q) (fun _ _ q=>q) X.out) B (C.out.op ⟨#[115,101,113]⟩) (x:=Jq l) (.inr (.inr (.inr (.inr (.inr (.inr (.inr (.inr (.inr (.inr (.inr ⟨.inr rfl,.inr (.inr (.inl ⟨rfl,rfl⟩))⟩)))))))))));have T4:Hid (Af (fun k=>w.heap.size<=k) ((n.setCell ⟨f,1,none⟩ (.string ⟨#[115,101,113]⟩)).setCell ⟨f,5,none⟩ (.slice a v cap)) (Jq l) (.pointer (some ⟨f,0,none⟩))):=Y;have R4:Hid (RdF ((n.setCell ⟨f,1,none⟩ (.string ⟨#[115,101,113]⟩)).setCell ⟨f,5,none⟩ (.slice a v cap)) br t j (d+1)):=(V.out.setB (Ne.symm s) _).setB (Ne.symm s) _;have F4:Hid (Fr (·≠br) w ((n.setCell ⟨f,1,none⟩ (.string ⟨#[115,101,113]⟩)).setCell ⟨f,5,none⟩ (.slice a v cap))):=(R.out.setB B _).setB B _;clear g hr y J Z A K D L Y z C X V R;go_wp2_with (go_at_call 146;refine(HL.out _ _ R4.out).mono ?_;rintro e Q ⟨rfl,hr,g⟩;have R5:Hid (RdF Q br t j d):=hr;have F5:Hid (Fr (·≠br) w Q):=F4.out.trans g;have T5:Hid (Af (fun k=>w.heap.size<=k) Q (Jq l) (.pointer (some ⟨f,0,none⟩))):=T4.out.fr (g.mono fun k q=>by omega) fun _ _ q=>q;clear hr g)
 go_ret
 rw[HQ.out];exact⟨F5.out,⟨_,rfl,T5.out⟩,R5.out⟩
theorem Qt {br:Nat}{t:ByteArray}{self:Nat->Nat->Nat->RX PX}(hS:Ax br t self)(w:World)(d i m:Nat)(hd:d<=24)(hI:Bl w br)(hr:RdF w br t i d)(ho:txF t.data.toList i≠[40]/\txF t.data.toList i≠[123]/\txF t.data.toList i≠[60,60]/\txF t.data.toList i≠[91])
  (r:Except (Nat×Nat) (PX×Nat)) (h:Bp (tkF t.data.toList) self m d i=some r) :
  Calls Tryz.prog 157 #[.pointer (some ⟨br,0,none⟩)] w (Cr w br t d r):=by
 have G:Hid (Ax br t self):=hS;have E:Hid (Bl w br):=hI;have x:Hid (RdF w br t i d):=hr;have o:=Ab hr;have z:=Aa hr 1;have F:Hid (∀(W:World)(k:Nat),_):=fun W k h=>Dz W br t k d h hd;clear hI hS hr;have M:=follows;have j:Hid (Ao (w.alloc (.cells #[.int .i64 12,.string ⟨#[]⟩,.string ⟨#[]⟩,.int .i64 0,.int .i64 (atF t.data.toList i:Int),.slice none 0 0] 81)) w.heap.size 12 ⟨#[]⟩ ⟨#[]⟩ 0 (atF t.data.toList i) none 0 0):=Aj rfl;have v:Hid (Fr (·≠br) w (w.alloc (.cells #[.int .i64 12,.string ⟨#[]⟩,.string ⟨#[]⟩,.int .i64 0,.int .i64 (atF t.data.toList i:Int),.slice none 0 0] 81))):=(Fr.refl _ w).alloc _;have n:Hid (RdF (w.alloc (.cells #[.int .i64 12,.string ⟨#[]⟩,.string ⟨#[]⟩,.int .i64 0,.int .i64 (atF t.data.toList i:Int),.slice none 0 0] 81)) br t i d):=RdF.of x.out (P:=fun _=>True) ((Fr.refl _ w).alloc _) trivial;have a:(pcF t i).toList=txF t.data.toList i:=by rw[ByteArray.toList_eq,A5]
 have g:(tkF t.data.toList i).tx=txF t.data.toList i:=rfl;unfold Bp at h;simp only[g] at h;go_enter Tryz.func157,Tryz.ntmps157
 go_upto_region 2 with fail
 clear z x;generalize (w.alloc (.cells #[.int .i64 12,.string ⟨#[]⟩,.string ⟨#[]⟩,.int .i64 0,.int .i64 (atF t.data.toList i:Int),.slice none 0 0] 81))=w1 at j v n |-;obtain⟨b,f⟩:∃b,w.heap.size=b:=⟨_,rfl⟩;rw[f] at j o |-;have D:w.heap.size<=b:=by omega
 have A:b<=w.heap.size:=by omega
 clear f;have C:b≠br:=by omega
 have B:b<w1.heap.size:=Ab j.out;have L:=Aa n.out 2;obtain⟨p,q,s,u⟩:=ho;have H:((pcF t i).toList==[40])=false:=by rw[a];simpa using p
 have I:((pcF t i).toList==[123])=false:=by rw[a];simpa using q
 have J:((pcF t i).toList==[60,60])=false:=by rw[a];simpa using s
 have K:((pcF t i).toList==[91])=false:=by rw[a];simpa using u
 rw[if_neg (by simpa using p),if_neg (by simpa using q),if_neg (by simpa using s),if_neg (by simpa using u)] at h;have c:(tkF t.data.toList i).at'=atF t.data.toList i:=rfl;rw[c] at h;have y:Hid (r=.error (1,atF t.data.toList i)):=by simp only[Ck,Option.some.injEq] at h;exact h.symm
 have l:Hid (Calls _ _ _ _ _):=Ey w1 br t i d 1 n.out;clear a g p q s u h c;go_wp2_with (go_at_call 61;refine l.out.mono ?_;rintro e N ⟨rfl,rfl⟩;unfold Flt)
 rw[y.out];exact⟨rfl,v.out,rfl⟩
theorem Xf (m:ByteArray)(w:World)(br:Nat)(hE:Bl w br)(hm:m.size<=4000) :
  Calls Tryz.prog 159 #[.string m,.int .i64 10,.int .i64 64] w fun e w'=>Below w.heap.size w w'/\((∃v,Lib.parseIntB 64 m.data.toList=.ok v/\e=.returned (.tuple #[.int .i64 v,.nilIface]))\/((∀v,Lib.parseIntB 64 m.data.toList≠.ok v)/\∃v T p,e=.returned (.tuple #[.int .i64 v,.iface T p]))):=by
 obtain⟨j,k,⟨b,d,f⟩,l,c,g,h⟩:=hE;cases q:Lib.parseIntB 64 m.data.toList with
 | ok v =>
  refine(Tryz.strconv_ParseInt_10_at64_ok m (by omega) v q w).mono ?_;rintro e w' ⟨rfl,i⟩;refine⟨?_,.inl ⟨v,rfl,rfl⟩⟩;rcases i with rfl|⟨s,rfl⟩
  ·exact Below.refl _ _
  ·exact Lib.bytesWorld_below _ _ _
 | range =>
  refine(Tryz.strconv_ParseInt_10_at64_range m (by omega) q b w d f).mono ?_;rintro e w' ⟨N,rfl,_,_,a⟩;exact⟨a,.inr ⟨fun v=>by simp,_,_,_,rfl⟩⟩
 | _ =>
  refine(Tryz.strconv_ParseInt_10_at64_syntax m (by omega) q c w g h).mono ?_;rintro e w' ⟨N,rfl,_,_,a⟩;exact⟨a,.inr ⟨fun v=>by simp,_,_,_,rfl⟩⟩
def kA (K:Nat->Tk)(i:Nat):RX PX:=match Lib.parseIntB 64 (K i).tx with | .ok v=>okX (Ct (Lib.itoa v)) (i+1)|_=>Ck 5 (K i).at'
theorem U0 {br:Nat}{t:ByteArray}(w:World)(d i:Nat)(ht:t.size<=4000)(hI:Bl w br)(hr:RdF w br t i d)(hv64:∀v,Lib.parseIntB 64 (txF t.data.toList i)=.ok v->-9223372036854775808<=v/\v<=9223372036854775807)
  (r:Except (Nat×Nat) (PX×Nat)) (h:kA (tkF t.data.toList) i=some r) :
  Calls Tryz.prog 155 #[.pointer (some ⟨br,0,none⟩)] w (Cr w br t d r):=by
 have x:=Hw t.data.toList i;have J:t.data.toList.length=t.size:=by simp
 have z:=Jx t i;have m:Hid (Calls _ _ _ _ _):=Xf (pcF t i) w br hI (by omega);have n:Hid (RdF w br t i d):=hr;have K:=Ab hr;have D:=Aa hr 2;have j:(pcF t i).data.toList=txF t.data.toList i:=A5 t i;have k:(tkF t.data.toList i).tx=txF t.data.toList i:=rfl;have b:(tkF t.data.toList i).at'=atF t.data.toList i:=rfl;unfold kA at h;simp only[k,b] at h;rw[j] at m;clear hr hI x J z j k b;have N:=follows;go_enter Tryz.func155,Tryz.ntmps155
 go_wp2_with fail
 refine m.out.mono ?_;rintro e a ⟨c,⟨v,A,rfl⟩|⟨g,v,T,p,rfl⟩⟩
 ·have o:Hid (RdF a br t i d):=RdF.of n.out (P:=fun _=>True) (Fr.below c) trivial;have l:Hid (Fr (·≠br) w a):=Fr.below c;have M:=Aa o.out 1;rw[A] at h;have u:Hid (r=.ok (Ct (Lib.itoa v),i+1)):=by simp only[okX,Option.some.injEq] at h;exact h.symm
  have C:=hv64 v A;clear c A h m n D hv64;have f:=(Fr.refl (fun _=>True) a).alloc (.cells #[.int .i64 0,.string ⟨#[]⟩,.string ⟨#[]⟩,.int .i64 v,.int .i64 (atF t.data.toList i:Int),.slice none 0 0] 81);have H:Hid (Calls _ _ _ _ _):=Co _ br t i d (RdF.of o.out f trivial) ht;have L:=l.out.size;have E:Hid (Ao (a.alloc (.cells #[.int .i64 0,.string ⟨#[]⟩,.string ⟨#[]⟩,.int .i64 v,.int .i64 (atF t.data.toList i:Int),.slice none 0 0] 81)) a.heap.size 0 ⟨#[]⟩ ⟨#[]⟩ v (atF t.data.toList i) none 0 0):=Aj rfl;clear f;go_wp2_with (go_at_call 60;refine H.out.mono ?_;rintro e B ⟨rfl,hr,y⟩;have I:Hid (RdF B br t (i+1) d):=hr;have G:Hid (Fr (·≠br) w B):=(l.out.alloc _).trans y;have F:Hid (Ao B a.heap.size 0 ⟨#[]⟩ ⟨#[]⟩ v (atF t.data.toList i) none 0 0):=E.out.of y (by omega);clear hr y)
  go_ret
  rw[u.out];exact⟨G.out,⟨_,rfl,Af.node ⟨a.heap.size,0,⟨#[]⟩,⟨#[]⟩,v,atF t.data.toList i,none,0,0,[],rfl,L,F.out,Ih _,.inl ⟨rfl,C.1,C.2,rfl⟩⟩⟩,I.out⟩
 ·have o:Hid (RdF a br t i d):=RdF.of n.out (P:=fun _=>True) (Fr.below c) trivial;have l:Hid (Fr (·≠br) w a):=Fr.below c;have u:Hid (r=.error (5,atF t.data.toList i)):=by
   cases q:Lib.parseIntB 64 (txF t.data.toList i) with
   | ok v=>exact absurd q (g v)
   | _=>rw[q] at h;simp only[Ck,Option.some.injEq] at h;exact h.symm
  have s:Hid (Calls _ _ _ _ _):=Ey a br t i d 5 o.out;clear c g h m n D hv64;go_wp2_with (go_at_call 61;refine s.out.mono ?_;rintro e O ⟨rfl,rfl⟩;unfold Flt)
  rw[u.out];exact⟨rfl,l.out,rfl⟩
def Ky (K:Nat->Tk)(self:Nat->Nat->Nat->RX PX)(d:Nat)(x:PX)(i:Nat):RX PX :=
 Bw K d i fun j=>bX (self 0 (d+1) j) fun k j =>
  if (K j).tx==[58,61] then bX (self 0 (d+1) (j+1)) fun v j=>Bv K [93] j fun j=>okX (Ht x k v) j
  else Bv K [93] j fun j=>okX (dAt x k) j
theorem Md {br:Nat}{t:ByteArray}{self:Nat->Nat->Nat->RX PX}(hS:Ax br t self)(w:World)(lo d i:Nat)(x:PX)(v:Value)(hd:d<=24)(ht:t.size<=4000)(hI:Bl w br)(hr:RdF w br t i d)(hlo:lo<=w.heap.size)(hbl:br<lo)(hx:Af (fun k=>lo<=k) w x v)
  (hno:∀y j,self 0 (d+1) (i+1)=some (.ok (y,j))->(txF t.data.toList j==[58,61])=false) (r:Except (Nat×Nat) (PX×Nat)) (h:Ky (tkF t.data.toList) self d x i=some r) :
  Calls Tryz.prog 149 #[.pointer (some ⟨br,0,none⟩),v] w (Rl lo w br t d r):=by
 have HS:Hid (Ax br t self):=hS;have HI:Hid (Bl w br):=hI;have HL:Hid (∀(W:World)(k:Nat),_):=fun W k h=>Dz W br t k d h hd;have HD:Hid (∀(W:World)(m:ByteArray)(k:Nat)(b:Bool),_):=fun W m k b h=>Cj W br t m k (d+1) h ht b;have HK:Hid (∀(W:World)(k:Nat)(b:Bool),_):=fun W k b h=>Fu W br t ⟨#[58,61]⟩ k (d+1) h ht b;have HR:Hid (RdF w br t i d):=hr;have X:=Ab hr;have h1:=Aa hr 1;clear hS hr hI;have mo:=follows;obtain⟨K,rfl,a0,U⟩:=hx.ptr;have g:=(Fr.refl (fun _=>True) w).alloc (.cells #[.int .i64 12,.string ⟨#[97,116]⟩,.string ⟨#[]⟩,.int .i64 0,.int .i64 (atF t.data.toList i:Int),.slice none 0 0] 81);have G:Hid (Ao (w.alloc (.cells #[.int .i64 12,.string ⟨#[97,116]⟩,.string ⟨#[]⟩,.int .i64 0,.int .i64 (atF t.data.toList i:Int),.slice none 0 0] 81)) w.heap.size 12 ⟨#[97,116]⟩ ⟨#[]⟩ 0 (atF t.data.toList i) none 0 0):=Aj rfl;have H:Hid (Fr (·≠br) w (w.alloc (.cells #[.int .i64 12,.string ⟨#[97,116]⟩,.string ⟨#[]⟩,.int .i64 0,.int .i64 (atF t.data.toList i:Int),.slice none 0 0] 81))):=g.mono fun _ _=>trivial;have I:Hid (RdF (w.alloc (.cells #[.int .i64 12,.string ⟨#[97,116]⟩,.string ⟨#[]⟩,.int .i64 0,.int .i64 (atF t.data.toList i:Int),.slice none 0 0] 81)) br t i d):=RdF.of HR.out g trivial;have J:Hid (Af (fun k=>lo<=k/\k<w.heap.size) (w.alloc (.cells #[.int .i64 12,.string ⟨#[97,116]⟩,.string ⟨#[]⟩,.int .i64 0,.int .i64 (atF t.data.toList i:Int),.slice none 0 0] 81)) x (.pointer (some ⟨K,0,none⟩))):=hx.fr (g.mono fun _ _=>trivial) fun _ h q=>⟨q,h⟩;clear g hx;unfold Ky at h;go_enter Tryz.func149,Tryz.ntmps149
 go_wp2_with fail
 clear h1 HR;generalize w.alloc (.cells #[.int .i64 12,.string ⟨#[97,116]⟩,.string ⟨#[]⟩,.int .i64 0,.int .i64 (atF t.data.toList i:Int),.slice none 0 0] 81)=w1 at G H I J |-;obtain⟨f,C⟩:∃f,w.heap.size=f:=⟨_,rfl⟩;rw[C] at G X hlo J U |-;have Z:w.heap.size<=f:=by omega
 clear C;have s:f≠br:=by omega
 rcases C2 hd h with⟨V,hk⟩|⟨rfl,rfl⟩
 case inr =>
  refine(Dg w1 br t i I.out).mono ?_;rintro e n ⟨rfl,rfl⟩;exact⟨rfl,H.out,rfl⟩
 refine(Ez w1 br t i d I.out ht V).mono ?_;rintro e n ⟨rfl,hr,a⟩;have Q:Hid (RdF n br t (i+1) (d+1)):=hr;have N:Hid (Ao n f 12 ⟨#[97,116]⟩ ⟨#[]⟩ 0 (atF t.data.toList i) none 0 0):=G.out.of a s;have B:Hid (Fr (·≠br) w n):=H.out.trans a;have X2:Hid (Af (fun k=>lo<=k/\k<f) n x (.pointer (some ⟨K,0,none⟩))):=J.out.fr (a.mono fun k q=>by omega) fun _ _ q=>q;have a1:f<n.heap.size:=Ab N.out;clear hr a G H I J h;go_wp2_with fail
 rcases Aq hk with⟨⟨c,p⟩,D,rfl⟩|⟨y,j,D,l⟩
 ·refine(Aw HS.out n (d+1) _ _ (by omega) (HI.out.fr B.out) Q.out D).mono ?_;rintro e u ⟨a,rfl⟩;exact⟨rfl,B.out.trans a,rfl⟩
 refine(Aw HS.out n (d+1) _ _ (by omega) (HI.out.fr B.out) Q.out D).mono ?_;rintro e u ⟨a,⟨vy,rfl,hv⟩,hr⟩;have Y:=hno y j D;have R3:Hid (RdF u br t j (d+1)):=hr;have F3:Hid (Fr (·≠br) w u):=B.out.trans a;have A:Hid (Ao u f 12 ⟨#[97,116]⟩ ⟨#[]⟩ 0 (atF t.data.toList i) none 0 0):=N.out.of a s;have X3:Hid (Af (fun k=>lo<=k/\k<f) u x (.pointer (some ⟨K,0,none⟩))):=X2.out.fr (a.mono fun k q=>by omega) fun _ _ q=>q;have S:Hid (Af (fun k=>n.heap.size<=k) u y vy):=hv;have a2:f<u.heap.size:=Ab A.out;have a3:=a.size;clear a hr hv D hk hno N B Q X2;obtain⟨bb,rfl,-,-⟩:=S.out.ptr;have c5:=Aa A.out 5;have f5:=Ac A.out 5;have E:(tkF t.data.toList j).tx=txF t.data.toList j:=rfl;simp only[E] at l;clear E;rw[Y,if_neg (by simp)] at l;obtain⟨hT,T⟩:=Hy (lo:=lo) A.out (m:=2) (vs:=#[.pointer (some ⟨K,0,none⟩),.pointer (some ⟨bb,0,none⟩)]) (kids:=[x,y]) (x:=dAt x y) rfl (by omega) (fun k z q=>by
   match k with
   | 0=>simp at q;subst q;exact⟨_,rfl,X3.out.fr (Fr.refl _ _) fun _ _ q=>by omega⟩
   | 1=>simp at q;subst q;exact⟨_,rfl,S.out.fr (Fr.refl _ _) fun _ _ q=>by omega⟩
   | k+2=>simp at q) (by omega)
  (.inr (.inr (.inr (.inr (.inr (.inr (.inr (.inr (.inr (.inr (.inr ⟨.inr rfl,.inr (.inr (.inr (.inr (.inl ⟨rfl,x,y,rfl,rfl⟩))))⟩)))))))))))
 have T4:Hid (Af (fun k=>lo<=k) _ (dAt x y) _):=hT.fr (Fr.refl _ _) fun _ _ q=>by omega
 have R4:Hid (RdF _ br t j (d+1)):=RdF.of R3.out T (Ne.symm s);have F4:Hid (Fr (·≠br) w _):=F3.out.fresh (T.mono fun _ q=>q.2) Z;have P:Hid (Calls _ _ _ _ _):=HK.out _ j false R4.out Y;clear hT T A F3 R3 X3 S Y;go_wp2_with (go_at_call 112;refine P.out.mono ?_;rintro e F ⟨rfl,hr,a⟩;have R:Hid (RdF F br t j (d+1)):=hr;have O:Hid (Fr (·≠br) w F):=F4.out.trans a;have T5:Hid (Af (fun k=>lo<=k) F (dAt x y) (.pointer (some ⟨f,0,none⟩))):=T4.out.fr (a.mono fun k q=>by omega) fun _ _ q=>q;clear hr a)
 rcases Bk l with⟨L,o⟩|⟨L,rfl⟩
 case inr =>
  refine(HD.out F ⟨#[93]⟩ j false R.out L).mono ?_;rintro e M ⟨a,⟨q,-⟩|⟨-,rfl⟩⟩
  ·simp at q
  ·exact⟨rfl,O.out.trans a,rfl⟩
 refine(HD.out F ⟨#[93]⟩ j true R.out L).mono ?_;rintro e M ⟨a,⟨-,rfl,hr⟩|⟨q,-⟩⟩
 case inr=>simp at q
 have R6:Hid (RdF M br t (j+1) (d+1)):=hr;have F6:Hid (Fr (·≠br) w M):=O.out.trans a;have T6:Hid (Af (fun k=>lo<=k) M (dAt x y) (.pointer (some ⟨f,0,none⟩))):=T5.out.fr (a.mono fun k q=>by omega) fun _ _ q=>q;have HQ:Hid (r=.ok (dAt x y,j+1)):=by simp only[okX,Option.some.injEq] at o;exact o.symm
 clear a hr L l o R O T5;go_wp2_with (go_at_call 146;refine(HL.out _ _ R6.out).mono ?_;rintro e w7 ⟨rfl,hr,a⟩;have R7:Hid (RdF w7 br t (j+1) d):=hr;have F7:Hid (Fr (·≠br) w w7):=F6.out.trans a;have T7:Hid (Af (fun k=>lo<=k) w7 (dAt x y) (.pointer (some ⟨f,0,none⟩))):=T6.out.fr (a.mono fun k q=>by omega) fun _ _ q=>q;clear hr a)
 go_ret
 rw[HQ.out];exact⟨F7.out,⟨_,rfl,T7.out⟩,R7.out⟩
end Go.Proofs.YtjbfcadeapphbaaGreatDoor.Sx
