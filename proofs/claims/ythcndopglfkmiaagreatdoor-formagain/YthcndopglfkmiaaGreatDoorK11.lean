/- What a name begins. -/
import Derived.Test.YthcndopglfkmiaaGreatDoorK10
import Derived.Deep.AppendLies
import Derived.Deep.LoopGhost
namespace Go.Proofs.YthcndopglfkmiaaGreatDoor.Sx
set_option maxRecDepth 100000
set_option maxHeartbeats 2000000
open Go.RowKit Go.Sort
theorem dE:(Tryz.prog.info? 64).map (fun i=>(i.zero,i.size,i.bytes))=some (some (.pointer none),1,8):=by kernel_rfl
def LSt (w:World)(lo:Nat)(sl:Value)(es:List PX):Prop :=
 ∃vs,w.ownsRow lo 64 1 sl es.length vs/\∀(i:Nat)(x:PX),es[i]?=some x->∃v,vs[i]?=some v/\Af (fun k=>lo<=k/\sl.ownBlock≠some k) w x v
theorem Lm {w w':World}{base:Nat}{sl:Value}{n:Nat}{vs:List Value}(h:w.ownsRow base 64 1 sl n vs)(hb:∀g,sl.ownBlock=some g->base<=g->g<w.heap.size->w'.heap[g]?=w.heap[g]?):w'.ownsRow base 64 1 sl n vs:=by
 refine⟨h.1,?_⟩;rcases h.2 with f|⟨g,a,b,e,c,d,r⟩
 ·exact .inl f
 ·exact .inr ⟨g,a,b,e,c,(hb g (by rw[e];rfl) c (Ab d)).trans d,r⟩
theorem LSt.nil (w:World)(lo:Nat):LSt w lo (.slice none 0 0) []:=⟨[],World.ownsRow_nil _ _ _ _,fun i x q=>by simp at q⟩
theorem LSt.fr {w w':World}{lo br:Nat}{sl:Value}{es:List PX}(h:LSt w lo sl es)(f:Fr (·≠br) w w')(hbr:br<lo):LSt w' lo sl es:=by
 obtain⟨e,a,b⟩:=h;refine⟨e,Lm a (fun g _ hg hlt=>f.block g hlt (by omega)),fun i x q=>?_⟩;obtain⟨v,d,c⟩:=b i x q;exact⟨v,d,c.fr (f.mono fun k hk=>by have:=hk.1;omega) fun _ _ q=>q⟩
theorem LSt.row {w:World}{lo:Nat}{sl:Value}{es:List PX}(h:LSt w lo sl es)(hl:es.length<=4294967296):∃a len cap,sl=.slice a len cap/\Cb (fun k=>lo<=k) w (Af (fun k=>lo<=k) w) a len es:=by
 obtain⟨r,e,f⟩:=h;rcases e.2 with⟨rfl,o⟩|⟨g,cap,d,rfl,l,c,n,_,p,m⟩
 ·exact⟨none,0,0,rfl,by omega,by omega,.inl rfl⟩
 ·refine⟨_,es.length,cap,rfl,rfl,hl,.inr ⟨g,0,rfl,Ab c,l,fun i x q=>?_⟩⟩;obtain⟨v,b,j⟩:=f i x q;refine⟨v,?_,j.fr (Fr.refl _ _) fun _ _ q=>q.1⟩;rw[Nat.zero_add,Aa c];rw[<- m,List.getElem?_take] at b;split at b
  ·simpa using b
  ·simp at b
theorem LSt.push {w w1 w2:World}{lo g cap:Nat}{es:List PX}{sl:Value}{vs:List Value}{x:PX}{v:Value}
  (h2:∀(i:Nat)(x:PX),es[i]?=some x->∃v,vs[i]?=some v/\Af (fun k=>lo<=k/\sl.ownBlock≠some k) w1 x v) (hvl:vs.length=es.length)
  (hx:Af (fun k=>w.heap.size<=k) w1 x v) (hlo:lo<=w.heap.size) (hsl:∀q,sl.ownBlock=some q->q<w.heap.size)
  (ho:w2.ownsRow lo 64 1 (.slice (some ⟨g,0,none⟩) (es.length+1) cap) (es.length+1) (vs++[v])) (hg:w1.grownBy w2 sl.ownBlock) (hat:sl.ownBlock=some g\/w1.heap.size<=g) :
  LSt w2 lo (.slice (some ⟨g,0,none⟩) (es.length+1) cap) (es++[x]):=by
 have a:∀(z:PX)(q:Value),Af (fun k=>lo<=k/\sl.ownBlock≠some k) w1 z q->Af (fun k=>lo<=k/\(Value.slice (some ⟨g,0,none⟩) (es.length+1) cap).ownBlock≠some k) w2 z q:=by
  intro z q j;have c:Fr (fun k=>lo<=k/\sl.ownBlock≠some k) w1 w2:=⟨hg.os,hg.tape,hg.output,hg.size,fun k hk hp=>hg.block k hk (fun e=>hp.2 e.symm)⟩;refine j.fr c fun k hk hp=>⟨hp.1,fun e=>?_⟩;simp only[Value.ownBlock,Option.some.injEq] at e;subst e;rcases hat with q|q
  ·exact hp.2 q
  ·omega
 refine⟨vs++[v],by rw[List.length_append];exact ho,fun i y q=>?_⟩;by_cases f:i<es.length
 ·rw[List.getElem?_append_left f] at q;obtain⟨l,h,d⟩:=h2 i y q;exact⟨l,by rw[List.getElem?_append_left (by omega)];exact h,a _ _ d⟩
 ·have b:i=es.length:=by
   have:=(List.getElem?_eq_some_iff.1 q).1;simp at this;omega
  subst b;rw[List.getElem?_append_right (Nat.le_refl _)] at q;simp at q;subst q;exact⟨v,by rw[List.getElem?_append_right (by omega)];simp[hvl],a _ _ (hx.fr (Fr.refl _ _) fun k _ hk=>⟨by omega,fun e=>by have:=hsl k e;omega⟩)⟩
def Y9 (w:World)(br:Nat)(t:ByteArray)(d:Nat)(r:Except (Nat×Nat) (List PX×Nat))(e:Ending)(w':World):Prop :=
 Fr (·≠br) w w'/\match r with
  | .ok (l,j)=>(∃a len cap,e=.returned (.slice a len cap)/\Cb (fun k=>w.heap.size<=k) w' (Af (fun k=>w.heap.size<=k) w') a len l)/\RdF w' br t j d
  | .error (c,p)=>e=Flt c p
theorem Ri {br:Nat}{t:ByteArray}{self:Nat->Nat->Nat->RX PX}(hS:Ax br t self)(w:World)(d i m:Nat)(cl:ByteArray)(hd:d<=24)(ht:t.size<=4000)(hm:m<=1000000)(hI:Bl w br)(hr:RdF w br t i d)
  (r:Except (Nat×Nat) (List PX×Nat)) (h:Bs (tkF t.data.toList) cl.data.toList (self 0 d) m [] i=some r) :
  Calls Tryz.prog 165 #[.pointer (some ⟨br,0,none⟩),.func (.func 42) #[.pointer (some ⟨br,0,none⟩)] #[],.string cl] w (Y9 w br t d r):=by
 have HS:Hid (Ax br t self):=hS;have HI:Hid (Bl w br):=hI;have HD:Hid (∀(W:World)(m:ByteArray)(k:Nat)(b:Bool),_):=fun W m k b h=>Cj W br t m k d h ht b;have HK:Hid (∀(W:World)(k:Nat)(b:Bool),_):=fun W k b h=>Fu W br t cl k d h ht b;have z:=Ab hr;have HR:Hid (RdF w br t i d):=hr;have H0:Hid (Bs (tkF t.data.toList) cl.data.toList (self 0 d) m [] i=some r):=h;clear hI hS hr h;have mo:=follows;obtain⟨M,a5,a8,a9,b0⟩:∃M,Tryz.prog.info? 64=some M/\M.zero=some (.pointer none)/\M.size=1/\M.bytes=8:=by
  have:=dE;cases hq:Tryz.prog.info? 64 with
  | none=>rw[hq] at this;simp at this
  | some j=>rw[hq] at this;simp at this;exact⟨j,rfl,this.1,this.2.1,this.2.2⟩
 go_enter Tryz.func165,Tryz.ntmps165
 go_wp2_with fail
 go_loopg [7] (m) (fun f s7 wr=>∃(j:Nat)(a:List PX),a.length+f<=1000000/\Hid (RdF wr br t j d)/\Hid (LSt wr w.heap.size s7 a)/\Hid (Bs (tkF t.data.toList) cl.data.toList (self 0 d) f a j=some r)/\Hid (Fr (·≠br) w wr))
 case atStart=>exact⟨i,[],by simpa using hm,HR,LSt.nil _ _,H0,Fr.refl _ _⟩
 case round =>
  clear HR H0;obtain⟨j,a,b2,R1,L1,P1,J⟩:=hrel;obtain⟨f,rfl⟩:∃f,gk=f+1:=by
   cases gk with
   | zero=>exact absurd P1.out (by simp[Bs])
   | succ f=>exact⟨f,rfl⟩
  have hp:=P1.out;rw[Bs] at hp;go_wp2_with fail
  rcases Av hp with⟨⟨c,p⟩,hn,rfl⟩|⟨x,s,hn,hk⟩
  ·refine(Ay HS.out wr d _ _ hd (HI.out.fr J.out) R1.out hn).mono ?_;rintro e B ⟨l,rfl⟩;exact⟨rfl,J.out.trans l,rfl⟩
  refine(Ay HS.out wr d _ _ hd (HI.out.fr J.out) R1.out hn).mono ?_;rintro e B ⟨l,⟨v,rfl,hv⟩,hr⟩;have a7:=J.out.size;have R2:Hid (RdF B br t s d):=hr;have D:Hid (Fr (·≠br) w B):=J.out.trans l;have T2:Hid (Af (fun k=>wr.heap.size<=k) B x v):=hv;have L2:=L1.out.fr l z;have U:∀q,u7.ownBlock=some q->q<wr.heap.size:=by
   obtain⟨Z,h1,-⟩:=L1.out;intro q hq;exact(h1.lt q hq).2
  obtain⟨Z,L,h2⟩:=L2;have Y:Z.length=a.length:=by have:=L.1;omega
  have HO:Hid (B.ownsRow w.heap.size 64 1 u7 a.length Z):=L;have H2:Hid (∀(i:Nat)(x:PX),a[i]?=some x->_):=h2;have P:Hid (∀q,u7.ownBlock=some q->q<wr.heap.size):=U;have b3:=D.out.size;have b4:=l.size;clear l hr hn hv L h2 U R1 J L1 P1 hp;obtain⟨bx,rfl,-,-⟩:=T2.out.ptr;have O:Hid ((B.alloc (.cells #[.pointer (some ⟨bx,0,none⟩)] 64)).ownsRow w.heap.size 64 1 u7 a.length Z):=HO.out.alloc _;go_wp2_with (at_builtin;refine wpList_append_lies _ rfl _ _ 100 rfl _ 64 M _ 1 8 Tryz.underlying100 a5 a8 a9 b0 rfl (by decide) u7 _ Z rfl O.out _ 1 1 [.pointer (some ⟨bx,0,none⟩)] rfl rfl ?q1 ?q2 (by decide) ?q3 ?q4 ?q5 (B.heap.size+1) ?q6 ?_)
  case q1 =>
   intro k u hk
   match k,hk with
   | 0,hk=>simp at hk;subst hk;simp[Addr.add]
   | k+1,hk=>simp at hk
  case q2 =>
   intro u hu;simp only[List.mem_cons,List.not_mem_nil,or_false] at hu;subst hu;rfl
  case q3=>unfold maxLen;omega
  case q4=>omega
  case q5=>simp;omega
  case q6=>simp
  intro g R I L K S a6;have o:B.grownBy I u7.ownBlock:=by
   have a1:=World.grownBy_alloc B (.cells #[.pointer (some ⟨bx,0,none⟩)] 64) u7.ownBlock;refine⟨K.os,K.tape,K.output,?_,fun k hk hne=>?_⟩
   ·have:=K.size;simp at this;omega
   ·rw[K.block k (by simp;omega) hne,a1.block k hk hne]
  have F:Hid (LSt I w.heap.size (.slice (some ⟨g,0,none⟩) (a.length+1) R) (a++[x])):=LSt.push H2.out Y T2.out a7 P.out L o (by rcases S with q|q;exact .inl q;exact .inr (by omega));have n:Fr (fun k=>u7.ownBlock≠some k) B I:=⟨o.os,o.tape,o.output,o.size,fun k hk hp=>o.block k hk (fun e=>hp e.symm)⟩;have A:∀k,k<w.heap.size->u7.ownBlock≠some k:=fun k hk e=>by have:=(HO.out.lt k e).1;omega
  have F3:Hid (Fr (·≠br) w I):=⟨n.os.trans D.out.os,n.tape.trans D.out.tape,n.output.trans D.out.output,Nat.le_trans D.out.size n.size,fun k hk hq=>(n.block k (by omega) (A k hk)).trans (D.out.block k hk hq)⟩;have R3:Hid (RdF I br t s d):=RdF.of R2.out n (A br z);clear L K S a6 o n A H2 HO P O T2 R2 D;have b1:a.length+1+f<=1000000:=by omega
  generalize hA:a++[x]=acc2 at F hk;have a0:acc2.length=a.length+1:=by rw[<- hA];simp
  clear hA;rw[<- a0] at F |-;generalize a2:Value.slice (some ⟨g,0,none⟩) acc2.length R=sl at F |-;clear a2 Y;obtain⟨a3,l3,c3,V,G⟩:=F.out.row (by omega);clear G;subst V;cases y:(tkF t.data.toList s).tx==cl.data.toList with
  | true =>
   rw[y,if_pos rfl] at hk;have HQ:Hid (r=.ok (acc2,s+1)):=by simp only[okX,Option.some.injEq] at hk;exact hk.symm
   have E:Hid (Calls _ _ _ _ _):=HK.out I s true R3.out y;clear hk y HK R3;go_wp2_with (go_at_call 85;refine E.out.mono ?_;rintro e C ⟨rfl,hr,l⟩;have Q:Hid (RdF C br t (s+1) d):=hr;have N:Hid (Fr (·≠br) w C):=F3.out.trans l;have L4:Hid (LSt C w.heap.size _ acc2):=F.out.fr l z;clear hr l)
   go_ret
   rw[HQ.out];obtain⟨a4,l4,c4,X,H⟩:=L4.out.row (by omega);exact⟨N.out,⟨a4,l4,c4,by rw[X];rfl,H⟩,Q.out⟩
  | false =>
   rw[y,if_neg (by simp)] at hk;have E:Hid (Calls _ _ _ _ _):=HK.out I s false R3.out y;clear y HK R3;go_wp2_with (go_at_call 85;refine E.out.mono ?_;rintro e C ⟨rfl,hr,l⟩;have Q:Hid (RdF C br t s d):=hr;have N:Hid (Fr (·≠br) w C):=F3.out.trans l;have L4:Hid (LSt C w.heap.size _ acc2):=F.out.fr l z;clear hr l)
   rcases Bf hk with⟨y,T⟩|⟨y,rfl⟩
   case inr =>
    refine(HD.out C ⟨#[44]⟩ s false Q.out y).mono ?_;rintro e w5 ⟨l,⟨q,-⟩|⟨-,rfl⟩⟩
    ·simp at q
    ·exact⟨rfl,N.out.trans l,rfl⟩
   refine(HD.out C ⟨#[44]⟩ s true Q.out y).mono ?_;rintro e w5 ⟨l,⟨-,rfl,hr⟩|⟨q,-⟩⟩
   case inr=>simp at q
   have R5:Hid (RdF w5 br t (s+1) d):=hr;have F5:Hid (Fr (·≠br) w w5):=N.out.trans l;have L5:Hid (LSt w5 w.heap.size (.slice a3 l3 c3) acc2):=L4.out.fr l z;have P5:Hid (_=some r):=T;clear l hr y hk T Q N L4 F3 F;go_wp2_with fail
   go_roundg f
   case measure=>omega
   case rel=>exact⟨s+1,acc2,by omega,R5,L5,P5,F5⟩
theorem Ln {br:Nat}{t:ByteArray}{self:Nat->Nat->Nat->RX PX}(hS:Ax br t self)(w:World)(d i m:Nat)(cl:ByteArray)(hd:d<=24)(ht:t.size<=4000)(hm:m<=1000000)(hI:Bl w br)(hr:RdF w br t i d)
  (r:Except (Nat×Nat) (List PX×Nat)) (h:Km (tkF t.data.toList) cl.data.toList (self 0 d) m i=some r) :
  Calls Tryz.prog 160 #[.pointer (some ⟨br,0,none⟩),.string cl] w (Y9 w br t d r):=by
 have D:Hid (Ax br t self):=hS;have A:Hid (Bl w br):=hI;have y:Hid (∀(b:Bool),_):=fun b=>Fu w br t cl i d hr ht b;clear hI hS hr;have G:=follows;unfold Km at h;cases o:(tkF t.data.toList i).tx==cl.data.toList with
 | true =>
  rw[o,if_pos rfl] at h;have C:Hid (r=.ok ([],i+1)):=by simp only[okX,Option.some.injEq] at h;exact h.symm
  have f:Hid (Calls _ _ _ _ _):=y.out true o;clear h o y;go_enter Tryz.func160,Tryz.ntmps160
  go_wp2_with (go_at_call 85;refine f.out.mono ?_;rintro e s ⟨rfl,hr,g⟩;have z:Hid (RdF s br t (i+1) d):=hr;have n:Hid (Fr (·≠br) w s):=g;clear hr g)
  go_ret
  rw[C.out];exact⟨n.out,⟨none,0,0,rfl,Ii _⟩,z.out⟩
 | false =>
  rw[o,if_neg (by simp)] at h;have f:Hid (Calls _ _ _ _ _):=y.out false o;clear o y;go_enter Tryz.func160,Tryz.ntmps160
  go_wp2_with (go_at_call 85;refine f.out.mono ?_;rintro e s ⟨rfl,hr,g⟩;have z:Hid (RdF s br t i d):=hr;have n:Hid (Fr (·≠br) w s):=g;clear hr g)
  refine(Ri D.out s d i m cl hd ht hm (A.out.fr n.out) z.out r h).mono ?_;rintro e E ⟨g,v⟩;have F:=n.out.size;rcases r with⟨c,p⟩|⟨l,j⟩
  ·obtain rfl:=v;exact⟨rfl,n.out.trans g,rfl⟩
  ·obtain⟨⟨a,x,u,rfl,k⟩,hr⟩:=v;have B:Hid (Y9 w br t d (.ok (l,j)) (.returned (.slice a x u)) E):=⟨n.out.trans g,⟨a,x,u,rfl,Cb.fr (Fr.refl _ _) (fun _ _ h=>h.fr (Fr.refl _ _) fun _ _ q=>by omega) (fun _ _ q=>by omega) k⟩,hr⟩;clear g k hr f;go_wp2_with fail
   go_ret
   exact B.out
theorem J1 {br:Nat}{t:ByteArray}{self:Nat->Nat->Nat->RX PX}(hS:Ax br t self)(w:World)(d i m:Nat)(cl:ByteArray)(hd:d<=24)(ht:t.size<=4000)(hm:m<=1000000)(hI:Bl w br)(hr:RdF w br t i d)
  (r:Except (Nat×Nat) (List PX×Nat)) (h:Bv (tkF t.data.toList) d i (fun j=>Bs (tkF t.data.toList) cl.data.toList (self 0 (d+1)) m [] j)=some r) :
  Calls Tryz.prog 157 #[.pointer (some ⟨br,0,none⟩),.func (.func 42) #[.pointer (some ⟨br,0,none⟩)] #[],.string cl] w (Y9 w br t d r):=by
 have G:Hid (Ax br t self):=hS;have E:Hid (Bl w br):=hI;have x:Hid (RdF w br t i d):=hr;have L:=Ab hr;clear hI hS hr;have N:=follows;go_enter Tryz.func157,Tryz.ntmps157
 go_wp2_with fail
 rcases C2 hd h with⟨z,B⟩|⟨rfl,rfl⟩
 case inr =>
  refine(Dg w br t i x.out).mono ?_;rintro e s ⟨rfl,rfl⟩;exact⟨rfl,Fr.refl _ _,rfl⟩
 refine(Ez w br t i d x.out ht z).mono ?_;rintro e s ⟨rfl,hr,b⟩;have A:Hid (RdF s br t (i+1) (d+1)):=hr;have o:Hid (Fr (·≠br) w s):=b;have M:=b.size;clear hr b h x;go_wp2_with fail
 refine(Ri G.out s (d+1) (i+1) m cl (by omega) ht hm (E.out.fr o.out) A.out r B).mono ?_;rintro e u ⟨b,n⟩;rcases r with⟨c,p⟩|⟨l,j⟩
 ·obtain rfl:=n;exact⟨rfl,o.out.trans b,rfl⟩
 ·obtain⟨⟨a,g,y,rfl,f⟩,hr⟩:=n;have H:Hid (RdF u br t j (d+1)):=hr;have C:Hid (Fr (·≠br) w u):=o.out.trans b;have J:Hid (Cb (fun k=>w.heap.size<=k) u (Af (fun k=>w.heap.size<=k) u) a g l):=Cb.fr (Fr.refl _ _) (fun _ _ h=>h.fr (Fr.refl _ _) fun _ _ q=>by omega) (fun _ _ q=>by omega) f;have F:Hid (∀(W:World)(k:Nat),_):=fun W k h=>Dz W br t k d h (by omega);clear b f hr B A o;go_wp2_with (go_at_call 144;refine(F.out _ _ H.out).mono ?_;rintro e v ⟨rfl,hr,b⟩;have I:Hid (RdF v br t j d):=hr;have D:Hid (Fr (·≠br) w v):=C.out.trans b;have K:Hid (Cb (fun k=>w.heap.size<=k) v (Af (fun k=>w.heap.size<=k) v) a g l):=Cb.fr (b.mono fun k q=>by omega) (fun _ _ h=>h.fr (b.mono fun k q=>by omega) fun _ _ q=>q) (fun _ _ q=>q) J.out;clear hr b)
  go_ret
  exact⟨D.out,⟨a,g,y,rfl,K.out⟩,I.out⟩
end Go.Proofs.YthcndopglfkmiaaGreatDoor.Sx
namespace Go.Proofs.YthcndopglfkmiaaGreatDoor.Sx
set_option maxRecDepth 100000
set_option maxHeartbeats 1000000
open Go.RowKit Go.Sort
attribute [local go_sem] Hw Uu
theorem Uv (K:Nat->Tk)(self:Nat->Nat->Nat->RX PX)(m:Nat)(n:List UInt8)(d i:Nat):G0 K self m n d i=bX (Bv K d i fun j=>Bs K [41] (self 0 (d+1)) m [] j) fun l j=>okX (Ed n l) j:=by
 unfold G0 Bv;split<;>rfl
theorem O6 {lo be:Nat}{w w':World}{sort:Nat}{op nm:ByteArray}{n:Int}{at':Nat}{pa:Option Addr}{len cap l0 c0:Nat}{p0:Option Addr}{kids:List PX}{x:PX}(hbe:be<w.heap.size)(hrow:Cb (fun k=>w.heap.size<=k) w' (Af (fun k=>w.heap.size<=k) w') pa len kids)(hb:lo<=be)(he':Ao w' be sort op nm n at' p0 l0 c0)
  (hm:M5 sort op.data.toList nm.data.toList n kids x):Af (fun k=>lo<=k) (w'.setCell ⟨be,5,none⟩ (.slice pa len cap)) x (.pointer (some ⟨be,0,none⟩)):=by
 have a:Fr (fun k=>w.heap.size<=k) w' (w'.setCell ⟨be,5,none⟩ (.slice pa len cap)):=(Fr.refl _ _).set (by simp;omega) _;refine Af.node ⟨be,sort,op,nm,n,at',pa,len,cap,kids,rfl,hb,he'.parts _ _ _,?_,hm⟩;exact Cb.fr a (fun _ _ h=>h.fr a fun _ _ q=>by omega) (fun _ _ q=>by omega) hrow
theorem Wz {br:Nat}{t:ByteArray}{self:Nat->Nat->Nat->RX PX}(hS:Ax br t self)(w:World)(d i m:Nat)(hd:d<=24)(ht:t.size<=4000)(hm:m<=1000000)(hI:Bl w br)(hr:RdF w br t i d)
  (r:Except (Nat×Nat) (PX×Nat)) (h:Fe (tkF t.data.toList) self m d i=some r) :
  Calls Tryz.prog 158 #[.pointer (some ⟨br,0,none⟩)] w (Cr w br t d r):=by
 have W:Hid (Ax br t self):=hS;have V:Hid (Bl w br):=hI;have P:Hid (∀(q:Except (Nat×Nat) (List UInt8×Nat)),_):=fun q=>C6 w br t i d hr ht q;have a1:=Ab hr;clear hI hS hr;have mo:=follows;unfold Fe at h;go_enter Tryz.func158,Tryz.ntmps158
 go_wp2_with fail
 rcases Av h with⟨⟨c,p⟩,v,rfl⟩|⟨n,j,v,g⟩
 ·refine(P.out _ v).mono ?_;rintro e x ⟨f,rfl⟩;exact⟨rfl,f,rfl⟩
 refine(P.out _ v).mono ?_;rintro e x ⟨f,rfl,hr⟩;have X:Hid (RdF x br t j d):=hr;have U:Hid (Fr (·≠br) w x):=f;have Q:Hid (n=txF t.data.toList i/\j=i+1):=Hx v;have G:(pcF t i).data.toList=n:=by rw[Q.out.1];exact A5 t i
 have hz:=f.size;clear f hr v h P;go_upto_region 3 with fail
 have s:Hid (Ao ((x.alloc (.cells #[.string (pcF t i),.int .i64 (atF t.data.toList i:Int)] 75)).alloc (.cells #[.int .i64 3,.string ⟨#[]⟩,.string (pcF t i),.int .i64 0,.int .i64 (atF t.data.toList i:Int),.slice none 0 0] 102)) (x.heap.size+1) 3 ⟨#[]⟩ (pcF t i) 0 (atF t.data.toList i) none 0 0):=Ak (by simp);have E:Fr (fun _=>True) x ((x.alloc (.cells #[.string (pcF t i),.int .i64 (atF t.data.toList i:Int)] 75)).alloc (.cells #[.int .i64 3,.string ⟨#[]⟩,.string (pcF t i),.int .i64 0,.int .i64 (atF t.data.toList i:Int),.slice none 0 0] 102)):=((Fr.refl _ x).alloc _).alloc _;have D:Hid (RdF _ br t j d):=RdF.of X.out E trivial;have I:Hid (Fr (·≠br) w _):=U.out.trans (E.mono fun _ _=>trivial);clear E X U;generalize (x.alloc (.cells #[.string (pcF t i),.int .i64 (atF t.data.toList i:Int)] 75)).alloc (.cells #[.int .i64 3,.string ⟨#[]⟩,.string (pcF t i),.int .i64 0,.int .i64 (atF t.data.toList i:Int),.slice none 0 0] 102)=w3 at s D I |-;generalize S:x.heap.size+1=be at s |-;have u:be≠br:=by omega
 have o:w.heap.size<=be:=by omega
 have a2:be<w3.heap.size:=Ab s.out;clear S;have h2:=Aa D.out 2;have b:(pcF t j).toList=txF t.data.toList j:=by rw[ByteArray.toList_eq,A5]
 have z:(tkF t.data.toList j).tx=txF t.data.toList j:=rfl;simp only[z] at g;generalize pcF t j=pc at h2 b;by_cases H:txF t.data.toList j=[39]
 ·have g1:(pc.toList==[39])=true:=by rw[b,H];rfl
  rw[H,if_pos (by decide)] at g;have M:Hid (r=.ok (Ct (n++[39]),j+1)):=by simp only[okX,Option.some.injEq] at g;exact g.symm
  have Y:=Aa s.out 0;have Z:=Ac s.out 0;have K:Hid (Ao (w3.setCell ⟨be,0,none⟩ (.int .i64 4)) be 4 ⟨#[]⟩ (pcF t i) 0 (atF t.data.toList i) none 0 0):=s.out.sort 4;have HA:Hid (Calls _ _ _ _ _):=Co (w3.setCell ⟨be,0,none⟩ (.int .i64 4)) br t j d (D.out.setB (Ne.symm u) _) ht;have A:Hid (Fr (·≠br) w (w3.setCell ⟨be,0,none⟩ (.int .i64 4))):=I.out.setB o _;clear b z H g s D I;go_wp2_with (go_at_call 50;refine HA.out.mono ?_;rintro e y ⟨rfl,hr,f⟩;have R:Hid (RdF y br t (j+1) d):=hr;have O:Hid (Fr (·≠br) w y):=A.out.trans f;have L:Hid (Ao y be 4 ⟨#[]⟩ (pcF t i) 0 (atF t.data.toList i) none 0 0):=K.out.of f u;clear hr f)
  go_ret
  rw[M.out];exact⟨O.out,⟨_,rfl,Af.node ⟨be,4,⟨#[]⟩,pcF t i,0,atF t.data.toList i,none,0,0,[],rfl,o,L.out,Ii _,.inr (.inr (.inr (.inr (.inl ⟨rfl,by rw[G]⟩))))⟩⟩,R.out⟩
 have g1:(pc.toList==[39])=false:=by rw[b];simpa using H
 rw[if_neg (by simpa using H)] at g;by_cases J:txF t.data.toList j=[40]
 ·have g2:(pc.toList==[40])=true:=by rw[b,J];rfl
  rw[J,if_pos (by decide),Uv] at g;have Y:=Aa s.out 0;have Z:=Ac s.out 0;have K:Hid (Ao (w3.setCell ⟨be,0,none⟩ (.int .i64 5)) be 5 ⟨#[]⟩ (pcF t i) 0 (atF t.data.toList i) none 0 0):=s.out.sort 5;have N:Hid (RdF (w3.setCell ⟨be,0,none⟩ (.int .i64 5)) br t j d):=D.out.setB (Ne.symm u) _;have A:Hid (Fr (·≠br) w (w3.setCell ⟨be,0,none⟩ (.int .i64 5))):=I.out.setB o _;have B:be<(w3.setCell ⟨be,0,none⟩ (.int .i64 5)).heap.size:=Ab K.out;clear b z H J s D I;go_wp2_with fail
  clear Y Z h2;generalize w3.setCell ⟨be,0,none⟩ (.int .i64 5)=w4 at K N A B |-;rcases Av g with⟨⟨c,p⟩,v,rfl⟩|⟨l,j2,v,F⟩
  ·refine(J1 W.out w4 d j m ⟨#[41]⟩ hd ht hm (V.out.fr A.out) N.out _ v).mono ?_;rintro e y ⟨f,rfl⟩;exact⟨rfl,A.out.trans f,rfl⟩
  refine(J1 W.out w4 d j m ⟨#[41]⟩ hd ht hm (V.out.fr A.out) N.out _ v).mono ?_;rintro e y ⟨f,⟨a,T,a0,rfl,C⟩,hr⟩;have R:Hid (RdF y br t j2 d):=hr;have O:Hid (Fr (·≠br) w y):=A.out.trans f;have L:Hid (Ao y be 5 ⟨#[]⟩ (pcF t i) 0 (atF t.data.toList i) none 0 0):=K.out.of f u;have W5:Hid (Cb (fun k=>w4.heap.size<=k) y (Af (fun k=>w4.heap.size<=k) y) a T l):=C;have M:Hid (r=.ok (Ed n l,j2)):=by simp only[okX,Option.some.injEq] at F;exact F.symm
  have c5:=Aa L.out 5;have f5:=Ac L.out 5;clear f hr C v g F N A;go_wp2_with fail
  go_ret
  rw[M.out];exact⟨O.out.setB o _,⟨_,rfl,O6 B W5.out o L.out (.inr (.inr (.inr (.inr (.inr (.inl ⟨rfl,by rw[G]⟩))))))⟩,R.out.setB (Ne.symm u) _⟩
 have g2:(pc.toList==[40])=false:=by rw[b];simpa using J
 rw[if_neg (by simpa using J)] at g;have M:Hid (r=.ok (Ct n,j)):=by simp only[okX,Option.some.injEq] at g;exact g.symm
 clear b z H J g;go_wp2_with fail
 go_ret
 rw[M.out];exact⟨I.out,⟨_,rfl,Af.node ⟨be,3,⟨#[]⟩,pcF t i,0,atF t.data.toList i,none,0,0,[],rfl,o,s.out,Ii _,.inr (.inr (.inr (.inl ⟨rfl,by rw[G]⟩)))⟩⟩,D.out⟩
end Go.Proofs.YthcndopglfkmiaaGreatDoor.Sx
