/- Pairs of parts, and lists of them. -/
import Derived.Test.YthcndopglfkmiaaGreatDoorF08
import Derived.Deep.AppendLies
import Derived.Deep.LoopGhost
namespace Go.Proofs.YthcndopglfkmiaaGreatDoor.Sx
set_option maxRecDepth 100000
set_option maxHeartbeats 1000000
open Go.RowKit Go.Sort
attribute [local go_sem] Ik
theorem Wm (a b:Value)(w:World):(Instr.field 75 (.agg #[a,b]) 1).run Tryz.prog w=.ok b w:=by kernel_rfl
attribute [local go_sem] Wm
theorem Qc {P:Nat->Prop}{w:World}{sort:Nat}{op nm:ByteArray}{n:Int}{at':Nat}{pa:Option Addr}{len cap:Nat}{kids:List PX}{x:PX}(hrow:B8 P w (Ah P w) pa len kids)(hp:P w.heap.size)(hm:Oe sort op.data.toList nm.data.toList n kids x) :
  Ah P (w.alloc (.cells #[.int .i64 (sort:Int),.string op,.string nm,.int .i64 n,.int .i64 (at':Int),.slice pa len cap] 102)) x (.pointer (some ⟨w.heap.size,0,none⟩)) :=
 Ah.node ⟨w.heap.size,sort,op,nm,n,at',pa,len,cap,kids,rfl,hp,Ag rfl,B8.fr ((Fr.refl P w).alloc _) (fun _ _ h=>h.fr ((Fr.refl P w).alloc _) fun _ _ q=>q) (fun _ _ q=>q) hrow,hm⟩
theorem dF {P:Nat->Prop}{w:World}{vs:Array Value}{kids:List PX}{m:Nat}(hm:m=kids.length)(hm4:m<=4294967296)(hk:∀(i:Nat)(x:PX),kids[i]?=some x->∃v,vs[i]?=some v/\Ah P w x v)(hp:P w.heap.size) :
  B8 P (w.alloc (.cells vs 64)) (Ah P (w.alloc (.cells vs 64))) (some ⟨w.heap.size,0,none⟩) m kids:=by
 have a:(w.alloc (.cells vs 64)).heap[w.heap.size]?=some (.cells vs 64 (0,0)):=Ag rfl;refine⟨hm,hm4,.inr ⟨w.heap.size,0,rfl,Ac a,hp,fun i x q=>?_⟩⟩;obtain⟨v,c,b⟩:=hk i x q;exact⟨v,by rw[Nat.zero_add,Aa a];exact c,b.fr ((Fr.refl P w).alloc _) fun _ _ q=>q⟩
theorem Oi (w:World)(br:Nat)(t:ByteArray)(lo d i:Nat)(x:PX)(v:Value)(ht:t.size<=4000)(hr:RdF w br t i d)(hlo:lo<=w.heap.size)(hbl:br<lo)(hx:Ah (fun k=>lo<=k) w x v)
  (r:Except (Nat×Nat) (PX×Nat)) (h:bX (Au (tkF t.data.toList) (i+1)) (fun n j=>okX (dAt x (Fg n)) j)=some r) :
  Calls Tryz.prog 148 #[.pointer (some ⟨br,0,none⟩),v] w (Sv lo w br t d r):=by
 have F:Hid (Calls _ _ _ _ _):=Dc w br t i d hr ht;have y:Hid (∀(W:World)(q:Except (Nat×Nat) (List UInt8×Nat)),_):=fun W q h=>Dy W br t (i+1) d h ht q;have R:=Ac hr;have S:=Aa hr 1;clear hr;have U:=follows;obtain⟨s,rfl,N,O⟩:=hx.ptr;have G:Hid (Ah (fun k=>lo<=k) w x _):=hx;clear hx;go_enter Tryz.func148,Tryz.ntmps148
 go_wp2_with (first|(go_at_call 50;refine F.out.mono ?_;rintro e D ⟨rfl,hr,b⟩;have B:Hid (RdF D br t (i+1) d):=hr;have u:Hid (Fr (·≠br) w D):=b;have H:Hid (Ah (fun k=>lo<=k) D x (.pointer (some ⟨s,0,none⟩))):=G.out.fr (b.mono fun k q=>by omega) fun _ _ q=>q;clear hr b))
 rcases Az h with⟨⟨c,p⟩,o,rfl⟩|⟨n,j,o,I⟩
 ·refine(y.out _ _ B.out o).mono ?_;rintro e a ⟨b,rfl⟩;exact⟨rfl,u.out.trans b,rfl⟩
 refine(y.out _ _ B.out o).mono ?_;rintro e a ⟨b,rfl,hr⟩;have J:Hid (RdF a br t j d):=hr;have E:Hid (Fr (·≠br) w a):=u.out.trans b;have K:Hid (Ah (fun k=>lo<=k) a x (.pointer (some ⟨s,0,none⟩))):=H.out.fr (b.mono fun k q=>by omega) fun _ _ q=>q;have A:Hid (n=txF t.data.toList (i+1)/\j=i+1+1):=Il o;have C:(pcF t (i+1)).data.toList=txF t.data.toList (i+1):=Bm t (i+1);have T:=E.out.size;clear b hr o h y F B u H G;go_wp2_with fail
 go_ret
 obtain rfl:r=.ok (dAt x (Fg n),j):=by simp only[okX,Option.some.injEq] at I;exact I.symm
 have L:=Qc (P:=fun k=>lo<=k) (w:=a.alloc (.cells #[.string (pcF t (i+1)),.int .i64 (atF t.data.toList (i+1):Int)] 75)) (sort:=1) (op:=⟨#[]⟩) (nm:=pcF t (i+1)) (n:=0) (at':=atF t.data.toList (i+1)) (pa:=none) (len:=0) (cap:=0) (kids:=[]) (x:=Fg n) (Hc _) (by simp;omega) (.inr (.inl ⟨rfl,by rw[C,<- A.out.1]⟩));have M:=K.out.fr (((Fr.refl _ a).alloc (.cells #[.string (pcF t (i+1)),.int .i64 (atF t.data.toList (i+1):Int)] 75)).alloc (.cells #[.int .i64 ((1:Nat):Int),.string ⟨#[]⟩,.string (pcF t (i+1)),.int .i64 0,.int .i64 (atF t.data.toList (i+1):Int),.slice none 0 0] 102)) (Q:=fun k=>lo<=k) fun _ _ q=>q;have l:=dF (m:=2) (kids:=[x,Fg n]) (vs:=#[.pointer (some ⟨s,0,none⟩),.pointer (some ⟨a.heap.size+1,0,none⟩)]) rfl (by omega) (fun k z q=>by
   match k with
   | 0=>simp at q;subst q;exact⟨_,rfl,M⟩
   | 1=>simp at q;subst q;exact⟨_,rfl,by simpa using L⟩
   | k+2=>simp at q) (by simp;omega)
 have f:=Qc (sort:=12) (op:=⟨#[97,116]⟩) (nm:=⟨#[]⟩) (n:=0) (at':=atF t.data.toList i) (cap:=2) (x:=dAt x (Fg n)) l (by simp;omega) (.inr (.inr (.inr (.inr (.inr (.inr (.inr (.inr (.inr (.inr (.inr ⟨.inr rfl,.inr (.inr (.inr (.inr (.inl ⟨rfl,x,Fg n,rfl,rfl⟩))))⟩)))))))))));have g:=((((Fr.refl (fun _=>True) a).alloc (.cells #[.string (pcF t (i+1)),.int .i64 (atF t.data.toList (i+1):Int)] 75)).alloc (.cells #[.int .i64 ((1:Nat):Int),.string ⟨#[]⟩,.string (pcF t (i+1)),.int .i64 0,.int .i64 (atF t.data.toList (i+1):Int),.slice none 0 0] 102)).alloc (.cells #[.pointer (some ⟨s,0,none⟩),.pointer (some ⟨a.heap.size+1,0,none⟩)] 64)).alloc (.cells #[.int .i64 ((12:Nat):Int),.string ⟨#[97,116]⟩,.string ⟨#[]⟩,.int .i64 0,.int .i64 (atF t.data.toList i:Int),.slice (some ⟨a.heap.size+1+1,0,none⟩) 2 2] 102);refine⟨E.out.trans (g.mono fun _ _=>trivial),⟨_,rfl,?_⟩,RdF.of J.out g trivial⟩;simpa using f
end Go.Proofs.YthcndopglfkmiaaGreatDoor.Sx
namespace Go.Proofs.YthcndopglfkmiaaGreatDoor.Sx
set_option maxRecDepth 100000
set_option maxHeartbeats 2000000
open Go.RowKit Go.Sort
theorem gG:(Tryz.prog.info? 64).map (fun i=>(i.zero,i.size,i.bytes))=some (some (.pointer none),1,8):=by kernel_rfl
def LSt (w:World)(lo:Nat)(sl:Value)(es:List PX):Prop :=
 ∃vs,w.ownsRow lo 64 1 sl es.length vs/\∀(i:Nat)(x:PX),es[i]?=some x->∃v,vs[i]?=some v/\Ah (fun k=>lo<=k/\sl.ownBlock≠some k) w x v
theorem Mv {w w':World}{base:Nat}{sl:Value}{n:Nat}{vs:List Value}(h:w.ownsRow base 64 1 sl n vs)(hb:∀g,sl.ownBlock=some g->base<=g->g<w.heap.size->w'.heap[g]?=w.heap[g]?):w'.ownsRow base 64 1 sl n vs:=by
 refine⟨h.1,?_⟩;rcases h.2 with f|⟨g,a,b,e,c,d,r⟩
 ·exact .inl f
 ·exact .inr ⟨g,a,b,e,c,(hb g (by rw[e];rfl) c (Ac d)).trans d,r⟩
theorem LSt.nil (w:World)(lo:Nat):LSt w lo (.slice none 0 0) []:=⟨[],World.ownsRow_nil _ _ _ _,fun i x q=>by simp at q⟩
theorem LSt.fr {w w':World}{lo br:Nat}{sl:Value}{es:List PX}(h:LSt w lo sl es)(f:Fr (·≠br) w w')(hbr:br<lo):LSt w' lo sl es:=by
 obtain⟨e,a,b⟩:=h;refine⟨e,Mv a (fun g _ hg hlt=>f.block g hlt (by omega)),fun i x q=>?_⟩;obtain⟨v,d,c⟩:=b i x q;exact⟨v,d,c.fr (f.mono fun k hk=>by have:=hk.1;omega) fun _ _ q=>q⟩
theorem LSt.row {w:World}{lo:Nat}{sl:Value}{es:List PX}(h:LSt w lo sl es)(hl:es.length<=4294967296):∃a len cap,sl=.slice a len cap/\B8 (fun k=>lo<=k) w (Ah (fun k=>lo<=k) w) a len es:=by
 obtain⟨r,e,f⟩:=h;rcases e.2 with⟨rfl,o⟩|⟨g,cap,d,rfl,l,c,n,_,p,m⟩
 ·exact⟨none,0,0,rfl,by omega,by omega,.inl rfl⟩
 ·refine⟨_,es.length,cap,rfl,rfl,hl,.inr ⟨g,0,rfl,Ac c,l,fun i x q=>?_⟩⟩;obtain⟨v,b,j⟩:=f i x q;refine⟨v,?_,j.fr (Fr.refl _ _) fun _ _ q=>q.1⟩;rw[Nat.zero_add,Aa c];rw[<- m,List.getElem?_take] at b;split at b
  ·simpa using b
  ·simp at b
theorem LSt.push {w w1 w2:World}{lo g cap:Nat}{es:List PX}{sl:Value}{vs:List Value}{x:PX}{v:Value}
  (h2:∀(i:Nat)(x:PX),es[i]?=some x->∃v,vs[i]?=some v/\Ah (fun k=>lo<=k/\sl.ownBlock≠some k) w1 x v) (hvl:vs.length=es.length)
  (hx:Ah (fun k=>w.heap.size<=k) w1 x v) (hlo:lo<=w.heap.size) (hsl:∀q,sl.ownBlock=some q->q<w.heap.size)
  (ho:w2.ownsRow lo 64 1 (.slice (some ⟨g,0,none⟩) (es.length+1) cap) (es.length+1) (vs++[v])) (hg:w1.grownBy w2 sl.ownBlock) (hat:sl.ownBlock=some g\/w1.heap.size<=g) :
  LSt w2 lo (.slice (some ⟨g,0,none⟩) (es.length+1) cap) (es++[x]):=by
 have a:∀(z:PX)(q:Value),Ah (fun k=>lo<=k/\sl.ownBlock≠some k) w1 z q->Ah (fun k=>lo<=k/\(Value.slice (some ⟨g,0,none⟩) (es.length+1) cap).ownBlock≠some k) w2 z q:=by
  intro z q j;have c:Fr (fun k=>lo<=k/\sl.ownBlock≠some k) w1 w2:=⟨hg.os,hg.tape,hg.output,hg.size,fun k hk hp=>hg.block k hk (fun e=>hp.2 e.symm)⟩;refine j.fr c fun k hk hp=>⟨hp.1,fun e=>?_⟩;simp only[Value.ownBlock,Option.some.injEq] at e;subst e;rcases hat with q|q
  ·exact hp.2 q
  ·omega
 refine⟨vs++[v],by rw[List.length_append];exact ho,fun i y q=>?_⟩;by_cases f:i<es.length
 ·rw[List.getElem?_append_left f] at q;obtain⟨l,h,d⟩:=h2 i y q;exact⟨l,by rw[List.getElem?_append_left (by omega)];exact h,a _ _ d⟩
 ·have b:i=es.length:=by
   have:=(List.getElem?_eq_some_iff.1 q).1;simp at this;omega
  subst b;rw[List.getElem?_append_right (Nat.le_refl _)] at q;simp at q;subst q;exact⟨v,by rw[List.getElem?_append_right (by omega)];simp[hvl],a _ _ (hx.fr (Fr.refl _ _) fun k _ hk=>⟨by omega,fun e=>by have:=hsl k e;omega⟩)⟩
def cE (w:World)(br:Nat)(t:ByteArray)(d:Nat)(r:Except (Nat×Nat) (List PX×Nat))(e:Ending)(w':World):Prop :=
 Fr (·≠br) w w'/\match r with
  | .ok (l,j)=>(∃a len cap,e=.returned (.slice a len cap)/\B8 (fun k=>w.heap.size<=k) w' (Ah (fun k=>w.heap.size<=k) w') a len l)/\RdF w' br t j d
  | .error (c,p)=>e=Flt c p
theorem Sw {br:Nat}{t:ByteArray}{self:Nat->Nat->Nat->RX PX}(hS:A3 br t self)(w:World)(d i m:Nat)(cl:ByteArray)(hd:d<=24)(ht:t.size<=4000)(hm:m<=1000000)(hI:Cc w br)(hr:RdF w br t i d)
  (r:Except (Nat×Nat) (List PX×Nat)) (h:Bg (tkF t.data.toList) cl.data.toList (self 0 d) m [] i=some r) :
  Calls Tryz.prog 165 #[.pointer (some ⟨br,0,none⟩),.func (.func 42) #[.pointer (some ⟨br,0,none⟩)] #[],.string cl] w (cE w br t d r):=by
 have HS:Hid (A3 br t self):=hS;have HI:Hid (Cc w br):=hI;have HD:Hid (∀(W:World)(m:ByteArray)(k:Nat)(b:Bool),_):=fun W m k b h=>C3 W br t m k d h ht b;have HK:Hid (∀(W:World)(k:Nat)(b:Bool),_):=fun W k b h=>Fz W br t cl k d h ht b;have z:=Ac hr;have HR:Hid (RdF w br t i d):=hr;have H0:Hid (Bg (tkF t.data.toList) cl.data.toList (self 0 d) m [] i=some r):=h;clear hI hS hr h;have mo:=follows;obtain⟨M,a5,a8,a9,b0⟩:∃M,Tryz.prog.info? 64=some M/\M.zero=some (.pointer none)/\M.size=1/\M.bytes=8:=by
  have:=gG;cases hq:Tryz.prog.info? 64 with
  | none=>rw[hq] at this;simp at this
  | some j=>rw[hq] at this;simp at this;exact⟨j,rfl,this.1,this.2.1,this.2.2⟩
 go_enter Tryz.func165,Tryz.ntmps165
 go_wp2_with fail
 go_loopg [7] (m) (fun f s7 wr=>∃(j:Nat)(a:List PX),a.length+f<=1000000/\Hid (RdF wr br t j d)/\Hid (LSt wr w.heap.size s7 a)/\Hid (Bg (tkF t.data.toList) cl.data.toList (self 0 d) f a j=some r)/\Hid (Fr (·≠br) w wr))
 case atStart=>exact⟨i,[],by simpa using hm,HR,LSt.nil _ _,H0,Fr.refl _ _⟩
 case round =>
  clear HR H0;obtain⟨j,a,b2,R1,L1,P1,J⟩:=hrel;obtain⟨f,rfl⟩:∃f,gk=f+1:=by
   cases gk with
   | zero=>exact absurd P1.out (by simp[Bg])
   | succ f=>exact⟨f,rfl⟩
  have hp:=P1.out;rw[Bg] at hp;go_wp2_with fail
  rcases Az hp with⟨⟨c,p⟩,hn,rfl⟩|⟨x,s,hn,hk⟩
  ·refine(Bf HS.out wr d _ _ hd (HI.out.fr J.out) R1.out hn).mono ?_;rintro e B ⟨l,rfl⟩;exact⟨rfl,J.out.trans l,rfl⟩
  refine(Bf HS.out wr d _ _ hd (HI.out.fr J.out) R1.out hn).mono ?_;rintro e B ⟨l,⟨v,rfl,hv⟩,hr⟩;have a7:=J.out.size;have R2:Hid (RdF B br t s d):=hr;have D:Hid (Fr (·≠br) w B):=J.out.trans l;have T2:Hid (Ah (fun k=>wr.heap.size<=k) B x v):=hv;have L2:=L1.out.fr l z;have U:∀q,u7.ownBlock=some q->q<wr.heap.size:=by
   obtain⟨Z,h1,-⟩:=L1.out;intro q hq;exact(h1.lt q hq).2
  obtain⟨Z,L,h2⟩:=L2;have Y:Z.length=a.length:=by have:=L.1;omega
  have HO:Hid (B.ownsRow w.heap.size 64 1 u7 a.length Z):=L;have H2:Hid (∀(i:Nat)(x:PX),a[i]?=some x->_):=h2;have P:Hid (∀q,u7.ownBlock=some q->q<wr.heap.size):=U;have b3:=D.out.size;have b4:=l.size;clear l hr hn hv L h2 U R1 J L1 P1 hp;obtain⟨bx,rfl,-,-⟩:=T2.out.ptr;have O:Hid ((B.alloc (.cells #[.pointer (some ⟨bx,0,none⟩)] 64)).ownsRow w.heap.size 64 1 u7 a.length Z):=HO.out.alloc _;go_wp2_with (at_builtin;refine wpList_append_lies _ rfl _ _ 100 rfl _ 64 M _ 1 8 Tryz.underlying100 a5 a8 a9 b0 rfl (by decide) u7 _ Z rfl O.out _ 1 1 [.pointer (some ⟨bx,0,none⟩)] rfl rfl ?q1 ?q2 (by decide) ?q3 ?q4 ?q5 (B.heap.size+1) ?q6 ?_)
  case q1 =>
   intro k u hk
   match k,hk with
   | 0,hk=>simp at hk;subst hk;simp[Addr.add]
   | k+1,hk=>simp at hk
  case q2 =>
   intro u hu;simp only[List.mem_cons,List.not_mem_nil,or_false] at hu;subst hu;rfl
  case q3=>unfold maxLen;omega
  case q4=>omega
  case q5=>simp;omega
  case q6=>simp
  intro g R I L K S a6;have o:B.grownBy I u7.ownBlock:=by
   have a1:=World.grownBy_alloc B (.cells #[.pointer (some ⟨bx,0,none⟩)] 64) u7.ownBlock;refine⟨K.os,K.tape,K.output,?_,fun k hk hne=>?_⟩
   ·have:=K.size;simp at this;omega
   ·rw[K.block k (by simp;omega) hne,a1.block k hk hne]
  have F:Hid (LSt I w.heap.size (.slice (some ⟨g,0,none⟩) (a.length+1) R) (a++[x])):=LSt.push H2.out Y T2.out a7 P.out L o (by rcases S with q|q;exact .inl q;exact .inr (by omega));have n:Fr (fun k=>u7.ownBlock≠some k) B I:=⟨o.os,o.tape,o.output,o.size,fun k hk hp=>o.block k hk (fun e=>hp e.symm)⟩;have A:∀k,k<w.heap.size->u7.ownBlock≠some k:=fun k hk e=>by have:=(HO.out.lt k e).1;omega
  have F3:Hid (Fr (·≠br) w I):=⟨n.os.trans D.out.os,n.tape.trans D.out.tape,n.output.trans D.out.output,Nat.le_trans D.out.size n.size,fun k hk hq=>(n.block k (by omega) (A k hk)).trans (D.out.block k hk hq)⟩;have R3:Hid (RdF I br t s d):=RdF.of R2.out n (A br z);clear L K S a6 o n A H2 HO P O T2 R2 D;have b1:a.length+1+f<=1000000:=by omega
  generalize hA:a++[x]=acc2 at F hk;have a0:acc2.length=a.length+1:=by rw[<- hA];simp
  clear hA;rw[<- a0] at F |-;generalize a2:Value.slice (some ⟨g,0,none⟩) acc2.length R=sl at F |-;clear a2 Y;obtain⟨a3,l3,c3,V,G⟩:=F.out.row (by omega);clear G;subst V;cases y:(tkF t.data.toList s).tx==cl.data.toList with
  | true =>
   rw[y,if_pos rfl] at hk;have HQ:Hid (r=.ok (acc2,s+1)):=by simp only[okX,Option.some.injEq] at hk;exact hk.symm
   have E:Hid (Calls _ _ _ _ _):=HK.out I s true R3.out y;clear hk y HK R3;go_wp2_with (go_at_call 85;refine E.out.mono ?_;rintro e C ⟨rfl,hr,l⟩;have Q:Hid (RdF C br t (s+1) d):=hr;have N:Hid (Fr (·≠br) w C):=F3.out.trans l;have L4:Hid (LSt C w.heap.size _ acc2):=F.out.fr l z;clear hr l)
   go_ret
   rw[HQ.out];obtain⟨a4,l4,c4,X,H⟩:=L4.out.row (by omega);exact⟨N.out,⟨a4,l4,c4,by rw[X];rfl,H⟩,Q.out⟩
  | false =>
   rw[y,if_neg (by simp)] at hk;have E:Hid (Calls _ _ _ _ _):=HK.out I s false R3.out y;clear y HK R3;go_wp2_with (go_at_call 85;refine E.out.mono ?_;rintro e C ⟨rfl,hr,l⟩;have Q:Hid (RdF C br t s d):=hr;have N:Hid (Fr (·≠br) w C):=F3.out.trans l;have L4:Hid (LSt C w.heap.size _ acc2):=F.out.fr l z;clear hr l)
   rcases Bu hk with⟨y,T⟩|⟨y,rfl⟩
   case inr =>
    refine(HD.out C ⟨#[44]⟩ s false Q.out y).mono ?_;rintro e w5 ⟨l,⟨q,-⟩|⟨-,rfl⟩⟩
    ·simp at q
    ·exact⟨rfl,N.out.trans l,rfl⟩
   refine(HD.out C ⟨#[44]⟩ s true Q.out y).mono ?_;rintro e w5 ⟨l,⟨-,rfl,hr⟩|⟨q,-⟩⟩
   case inr=>simp at q
   have R5:Hid (RdF w5 br t (s+1) d):=hr;have F5:Hid (Fr (·≠br) w w5):=N.out.trans l;have L5:Hid (LSt w5 w.heap.size (.slice a3 l3 c3) acc2):=L4.out.fr l z;have P5:Hid (_=some r):=T;clear l hr y hk T Q N L4 F3 F;go_wp2_with fail
   go_roundg f
   case measure=>omega
   case rel=>exact⟨s+1,acc2,by omega,R5,L5,P5,F5⟩
theorem Mw {br:Nat}{t:ByteArray}{self:Nat->Nat->Nat->RX PX}(hS:A3 br t self)(w:World)(d i m:Nat)(cl:ByteArray)(hd:d<=24)(ht:t.size<=4000)(hm:m<=1000000)(hI:Cc w br)(hr:RdF w br t i d)
  (r:Except (Nat×Nat) (List PX×Nat)) (h:Lg (tkF t.data.toList) cl.data.toList (self 0 d) m i=some r) :
  Calls Tryz.prog 160 #[.pointer (some ⟨br,0,none⟩),.string cl] w (cE w br t d r):=by
 have D:Hid (A3 br t self):=hS;have A:Hid (Cc w br):=hI;have y:Hid (∀(b:Bool),_):=fun b=>Fz w br t cl i d hr ht b;clear hI hS hr;have G:=follows;unfold Lg at h;cases o:(tkF t.data.toList i).tx==cl.data.toList with
 | true =>
  rw[o,if_pos rfl] at h;have C:Hid (r=.ok ([],i+1)):=by simp only[okX,Option.some.injEq] at h;exact h.symm
  have f:Hid (Calls _ _ _ _ _):=y.out true o;clear h o y;go_enter Tryz.func160,Tryz.ntmps160
  go_wp2_with (go_at_call 85;refine f.out.mono ?_;rintro e s ⟨rfl,hr,g⟩;have z:Hid (RdF s br t (i+1) d):=hr;have n:Hid (Fr (·≠br) w s):=g;clear hr g)
  go_ret
  rw[C.out];exact⟨n.out,⟨none,0,0,rfl,Hc _⟩,z.out⟩
 | false =>
  rw[o,if_neg (by simp)] at h;have f:Hid (Calls _ _ _ _ _):=y.out false o;clear o y;go_enter Tryz.func160,Tryz.ntmps160
  go_wp2_with (go_at_call 85;refine f.out.mono ?_;rintro e s ⟨rfl,hr,g⟩;have z:Hid (RdF s br t i d):=hr;have n:Hid (Fr (·≠br) w s):=g;clear hr g)
  refine(Sw D.out s d i m cl hd ht hm (A.out.fr n.out) z.out r h).mono ?_;rintro e E ⟨g,v⟩;have F:=n.out.size;rcases r with⟨c,p⟩|⟨l,j⟩
  ·obtain rfl:=v;exact⟨rfl,n.out.trans g,rfl⟩
  ·obtain⟨⟨a,x,u,rfl,k⟩,hr⟩:=v;have B:Hid (cE w br t d (.ok (l,j)) (.returned (.slice a x u)) E):=⟨n.out.trans g,⟨a,x,u,rfl,B8.fr (Fr.refl _ _) (fun _ _ h=>h.fr (Fr.refl _ _) fun _ _ q=>by omega) (fun _ _ q=>by omega) k⟩,hr⟩;clear g k hr f;go_wp2_with fail
   go_ret
   exact B.out
theorem Kt {br:Nat}{t:ByteArray}{self:Nat->Nat->Nat->RX PX}(hS:A3 br t self)(w:World)(d i m:Nat)(cl:ByteArray)(hd:d<=24)(ht:t.size<=4000)(hm:m<=1000000)(hI:Cc w br)(hr:RdF w br t i d)
  (r:Except (Nat×Nat) (List PX×Nat)) (h:Dh (tkF t.data.toList) d i (fun j=>Bg (tkF t.data.toList) cl.data.toList (self 0 (d+1)) m [] j)=some r) :
  Calls Tryz.prog 157 #[.pointer (some ⟨br,0,none⟩),.func (.func 42) #[.pointer (some ⟨br,0,none⟩)] #[],.string cl] w (cE w br t d r):=by
 have G:Hid (A3 br t self):=hS;have E:Hid (Cc w br):=hI;have x:Hid (RdF w br t i d):=hr;have L:=Ac hr;clear hI hS hr;have N:=follows;go_enter Tryz.func157,Tryz.ntmps157
 go_wp2_with fail
 rcases Du hd h with⟨z,B⟩|⟨rfl,rfl⟩
 case inr =>
  refine(Eg w br t i x.out).mono ?_;rintro e s ⟨rfl,rfl⟩;exact⟨rfl,Fr.refl _ _,rfl⟩
 refine(Fm w br t i d x.out ht z).mono ?_;rintro e s ⟨rfl,hr,b⟩;have A:Hid (RdF s br t (i+1) (d+1)):=hr;have o:Hid (Fr (·≠br) w s):=b;have M:=b.size;clear hr b h x;go_wp2_with fail
 refine(Sw G.out s (d+1) (i+1) m cl (by omega) ht hm (E.out.fr o.out) A.out r B).mono ?_;rintro e u ⟨b,n⟩;rcases r with⟨c,p⟩|⟨l,j⟩
 ·obtain rfl:=n;exact⟨rfl,o.out.trans b,rfl⟩
 ·obtain⟨⟨a,g,y,rfl,f⟩,hr⟩:=n;have H:Hid (RdF u br t j (d+1)):=hr;have C:Hid (Fr (·≠br) w u):=o.out.trans b;have J:Hid (B8 (fun k=>w.heap.size<=k) u (Ah (fun k=>w.heap.size<=k) u) a g l):=B8.fr (Fr.refl _ _) (fun _ _ h=>h.fr (Fr.refl _ _) fun _ _ q=>by omega) (fun _ _ q=>by omega) f;have F:Hid (∀(W:World)(k:Nat),_):=fun W k h=>Et W br t k d h (by omega);clear b f hr B A o;go_wp2_with (go_at_call 144;refine(F.out _ _ H.out).mono ?_;rintro e v ⟨rfl,hr,b⟩;have I:Hid (RdF v br t j d):=hr;have D:Hid (Fr (·≠br) w v):=C.out.trans b;have K:Hid (B8 (fun k=>w.heap.size<=k) v (Ah (fun k=>w.heap.size<=k) v) a g l):=B8.fr (b.mono fun k q=>by omega) (fun _ _ h=>h.fr (b.mono fun k q=>by omega) fun _ _ q=>q) (fun _ _ q=>q) J.out;clear hr b)
  go_ret
  exact⟨D.out,⟨a,g,y,rfl,K.out⟩,I.out⟩
end Go.Proofs.YthcndopglfkmiaaGreatDoor.Sx
namespace Go.Proofs.YthcndopglfkmiaaGreatDoor.Sx
set_option maxRecDepth 100000
set_option maxHeartbeats 1000000
open Go.RowKit Go.Sort
attribute [local go_sem] Ik Wm
theorem Wn (K:Nat->Tk)(self:Nat->Nat->Nat->RX PX)(m:Nat)(n:List UInt8)(d i:Nat):Ke K self m n d i=bX (Dh K d i fun j=>Bg K [41] (self 0 (d+1)) m [] j) fun l j=>okX (Ef n l) j:=by
 unfold Ke Dh;split<;>rfl
theorem Qd {lo be:Nat}{w w':World}{sort:Nat}{op nm:ByteArray}{n:Int}{at':Nat}{pa:Option Addr}{len cap l0 c0:Nat}{p0:Option Addr}{kids:List PX}{x:PX}(hbe:be<w.heap.size)(hrow:B8 (fun k=>w.heap.size<=k) w' (Ah (fun k=>w.heap.size<=k) w') pa len kids)(hb:lo<=be)(he':Ar w' be sort op nm n at' p0 l0 c0)
  (hm:Oe sort op.data.toList nm.data.toList n kids x):Ah (fun k=>lo<=k) (w'.setCell ⟨be,5,none⟩ (.slice pa len cap)) x (.pointer (some ⟨be,0,none⟩)):=by
 have a:Fr (fun k=>w.heap.size<=k) w' (w'.setCell ⟨be,5,none⟩ (.slice pa len cap)):=(Fr.refl _ _).set (by simp;omega) _;refine Ah.node ⟨be,sort,op,nm,n,at',pa,len,cap,kids,rfl,hb,he'.parts _ _ _,?_,hm⟩;exact B8.fr a (fun _ _ h=>h.fr a fun _ _ q=>by omega) (fun _ _ q=>by omega) hrow
theorem Zc {br:Nat}{t:ByteArray}{self:Nat->Nat->Nat->RX PX}(hS:A3 br t self)(w:World)(d i m:Nat)(hd:d<=24)(ht:t.size<=4000)(hm:m<=1000000)(hI:Cc w br)(hr:RdF w br t i d)
  (r:Except (Nat×Nat) (PX×Nat)) (h:Hp (tkF t.data.toList) self m d i=some r) :
  Calls Tryz.prog 158 #[.pointer (some ⟨br,0,none⟩)] w (Dd w br t d r):=by
 have W:Hid (A3 br t self):=hS;have V:Hid (Cc w br):=hI;have P:Hid (∀(q:Except (Nat×Nat) (List UInt8×Nat)),_):=fun q=>Dy w br t i d hr ht q;have a1:=Ac hr;clear hI hS hr;have mo:=follows;unfold Hp at h;go_enter Tryz.func158,Tryz.ntmps158
 go_wp2_with fail
 rcases Az h with⟨⟨c,p⟩,v,rfl⟩|⟨n,j,v,g⟩
 ·refine(P.out _ v).mono ?_;rintro e x ⟨f,rfl⟩;exact⟨rfl,f,rfl⟩
 refine(P.out _ v).mono ?_;rintro e x ⟨f,rfl,hr⟩;have X:Hid (RdF x br t j d):=hr;have U:Hid (Fr (·≠br) w x):=f;have Q:Hid (n=txF t.data.toList i/\j=i+1):=Il v;have G:(pcF t i).data.toList=n:=by rw[Q.out.1];exact Bm t i
 have hz:=f.size;clear f hr v h P;go_upto_region 3 with fail
 have s:Hid (Ar ((x.alloc (.cells #[.string (pcF t i),.int .i64 (atF t.data.toList i:Int)] 75)).alloc (.cells #[.int .i64 3,.string ⟨#[]⟩,.string (pcF t i),.int .i64 0,.int .i64 (atF t.data.toList i:Int),.slice none 0 0] 102)) (x.heap.size+1) 3 ⟨#[]⟩ (pcF t i) 0 (atF t.data.toList i) none 0 0):=Ag (by simp);have E:Fr (fun _=>True) x ((x.alloc (.cells #[.string (pcF t i),.int .i64 (atF t.data.toList i:Int)] 75)).alloc (.cells #[.int .i64 3,.string ⟨#[]⟩,.string (pcF t i),.int .i64 0,.int .i64 (atF t.data.toList i:Int),.slice none 0 0] 102)):=((Fr.refl _ x).alloc _).alloc _;have D:Hid (RdF _ br t j d):=RdF.of X.out E trivial;have I:Hid (Fr (·≠br) w _):=U.out.trans (E.mono fun _ _=>trivial);clear E X U;generalize (x.alloc (.cells #[.string (pcF t i),.int .i64 (atF t.data.toList i:Int)] 75)).alloc (.cells #[.int .i64 3,.string ⟨#[]⟩,.string (pcF t i),.int .i64 0,.int .i64 (atF t.data.toList i:Int),.slice none 0 0] 102)=w3 at s D I |-;generalize S:x.heap.size+1=be at s |-;have u:be≠br:=by omega
 have o:w.heap.size<=be:=by omega
 have a2:be<w3.heap.size:=Ac s.out;clear S;have h2:=Aa D.out 2;have b:(pcF t j).toList=txF t.data.toList j:=by rw[ByteArray.toList_eq,Bm]
 have z:(tkF t.data.toList j).tx=txF t.data.toList j:=rfl;simp only[z] at g;generalize pcF t j=pc at h2 b;by_cases H:txF t.data.toList j=[39]
 ·have g1:(pc.toList==[39])=true:=by rw[b,H];rfl
  rw[H,if_pos (by decide)] at g;have M:Hid (r=.ok (Cw (n++[39]),j+1)):=by simp only[okX,Option.some.injEq] at g;exact g.symm
  have Y:=Aa s.out 0;have Z:=Ab s.out 0;have K:Hid (Ar (w3.setCell ⟨be,0,none⟩ (.int .i64 4)) be 4 ⟨#[]⟩ (pcF t i) 0 (atF t.data.toList i) none 0 0):=s.out.sort 4;have HA:Hid (Calls _ _ _ _ _):=Dc (w3.setCell ⟨be,0,none⟩ (.int .i64 4)) br t j d (D.out.setB (Ne.symm u) _) ht;have A:Hid (Fr (·≠br) w (w3.setCell ⟨be,0,none⟩ (.int .i64 4))):=I.out.setB o _;clear b z H g s D I;go_wp2_with (go_at_call 50;refine HA.out.mono ?_;rintro e y ⟨rfl,hr,f⟩;have R:Hid (RdF y br t (j+1) d):=hr;have O:Hid (Fr (·≠br) w y):=A.out.trans f;have L:Hid (Ar y be 4 ⟨#[]⟩ (pcF t i) 0 (atF t.data.toList i) none 0 0):=K.out.of f u;clear hr f)
  go_ret
  rw[M.out];exact⟨O.out,⟨_,rfl,Ah.node ⟨be,4,⟨#[]⟩,pcF t i,0,atF t.data.toList i,none,0,0,[],rfl,o,L.out,Hc _,.inr (.inr (.inr (.inr (.inl ⟨rfl,by rw[G]⟩))))⟩⟩,R.out⟩
 have g1:(pc.toList==[39])=false:=by rw[b];simpa using H
 rw[if_neg (by simpa using H)] at g;by_cases J:txF t.data.toList j=[40]
 ·have g2:(pc.toList==[40])=true:=by rw[b,J];rfl
  rw[J,if_pos (by decide),Wn] at g;have Y:=Aa s.out 0;have Z:=Ab s.out 0;have K:Hid (Ar (w3.setCell ⟨be,0,none⟩ (.int .i64 5)) be 5 ⟨#[]⟩ (pcF t i) 0 (atF t.data.toList i) none 0 0):=s.out.sort 5;have N:Hid (RdF (w3.setCell ⟨be,0,none⟩ (.int .i64 5)) br t j d):=D.out.setB (Ne.symm u) _;have A:Hid (Fr (·≠br) w (w3.setCell ⟨be,0,none⟩ (.int .i64 5))):=I.out.setB o _;have B:be<(w3.setCell ⟨be,0,none⟩ (.int .i64 5)).heap.size:=Ac K.out;clear b z H J s D I;go_wp2_with fail
  clear Y Z h2;generalize w3.setCell ⟨be,0,none⟩ (.int .i64 5)=w4 at K N A B |-;rcases Az g with⟨⟨c,p⟩,v,rfl⟩|⟨l,j2,v,F⟩
  ·refine(Kt W.out w4 d j m ⟨#[41]⟩ hd ht hm (V.out.fr A.out) N.out _ v).mono ?_;rintro e y ⟨f,rfl⟩;exact⟨rfl,A.out.trans f,rfl⟩
  refine(Kt W.out w4 d j m ⟨#[41]⟩ hd ht hm (V.out.fr A.out) N.out _ v).mono ?_;rintro e y ⟨f,⟨a,T,a0,rfl,C⟩,hr⟩;have R:Hid (RdF y br t j2 d):=hr;have O:Hid (Fr (·≠br) w y):=A.out.trans f;have L:Hid (Ar y be 5 ⟨#[]⟩ (pcF t i) 0 (atF t.data.toList i) none 0 0):=K.out.of f u;have W5:Hid (B8 (fun k=>w4.heap.size<=k) y (Ah (fun k=>w4.heap.size<=k) y) a T l):=C;have M:Hid (r=.ok (Ef n l,j2)):=by simp only[okX,Option.some.injEq] at F;exact F.symm
  have c5:=Aa L.out 5;have f5:=Ab L.out 5;clear f hr C v g F N A;go_wp2_with fail
  go_ret
  rw[M.out];exact⟨O.out.setB o _,⟨_,rfl,Qd B W5.out o L.out (.inr (.inr (.inr (.inr (.inr (.inl ⟨rfl,by rw[G]⟩))))))⟩,R.out.setB (Ne.symm u) _⟩
 have g2:(pc.toList==[40])=false:=by rw[b];simpa using J
 rw[if_neg (by simpa using J)] at g;have M:Hid (r=.ok (Cw n,j)):=by simp only[okX,Option.some.injEq] at g;exact g.symm
 clear b z H J g;go_wp2_with fail
 go_ret
 rw[M.out];exact⟨I.out,⟨_,rfl,Ah.node ⟨be,3,⟨#[]⟩,pcF t i,0,atF t.data.toList i,none,0,0,[],rfl,o,s.out,Hc _,.inr (.inr (.inr (.inl ⟨rfl,by rw[G]⟩)))⟩⟩,D.out⟩
end Go.Proofs.YthcndopglfkmiaaGreatDoor.Sx
namespace Go.Proofs.YthcndopglfkmiaaGreatDoor.Sx
set_option maxRecDepth 100000
set_option maxHeartbeats 2000000
open Go.RowKit Go.Sort
theorem dG {br:Nat}{t:ByteArray}{self:Nat->Nat->Nat->RX PX}(hS:A3 br t self)(w:World)(d i m:Nat)(hd:d<=24)(ht:t.size<=4000)(hm:m<=1000000)(hI:Cc w br)(hr:RdF w br t i d)
  (r:Except (Nat×Nat) (PX×Nat)) (h:Ge (tkF t.data.toList) self m d i=some r) :
  Calls Tryz.prog 153 #[.pointer (some ⟨br,0,none⟩)] w (Dd w br t d r):=by
 have HS:Hid (A3 br t self):=hS;have HI:Hid (Cc w br):=hI;have HR:Hid (RdF w br t i d):=hr;have a2:=Ac hr;have h1:=Aa hr 1;have U:=Aa hr 2;have N:=RdF.of HR.out (P:=fun _=>True) (Fr.grew (Ad.refl w).drew) trivial;have k1:=Aa N 1;have k2:=Aa N 2;clear hI hS hr N;have mo:=follows;go_enter Tryz.func153,Tryz.ntmps153
 go_wp2_with fail
 go_big_region_o
 have L:Fr (fun _=>True) w (w.alloc (.cells #[.int .i64 0,.string (pcF t i),.string ⟨#[]⟩,.int .i64 0,.int .i64 (atF t.data.toList i:Int),.slice none 0 0] 102)).drew:=((Fr.refl _ w).alloc _).drew;have A:Hid (Ar (w.alloc (.cells #[.int .i64 0,.string (pcF t i),.string ⟨#[]⟩,.int .i64 0,.int .i64 (atF t.data.toList i:Int),.slice none 0 0] 102)).drew w.heap.size 0 (pcF t i) ⟨#[]⟩ 0 (atF t.data.toList i) none 0 0):=Ar.of (w:=w.alloc (.cells #[.int .i64 0,.string (pcF t i),.string ⟨#[]⟩,.int .i64 0,.int .i64 (atF t.data.toList i:Int),.slice none 0 0] 102)) (P:=fun _=>True) (Ag rfl) (Fr.refl _ _).drew trivial;have F:Hid (Fr (·≠br) w _):=L.mono fun _ _=>trivial;have K:Hid (RdF _ br t i d):=RdF.of HR.out L trivial;clear h1 U k1 k2 HR L;generalize (w.alloc (.cells #[.int .i64 0,.string (pcF t i),.string ⟨#[]⟩,.int .i64 0,.int .i64 (atF t.data.toList i:Int),.slice none 0 0] 102)).drew=w1 at A F K |-;obtain⟨f,V⟩:∃f,w.heap.size=f:=⟨_,rfl⟩;rw[V] at A a2 |-;have z:w.heap.size<=f:=by omega
 clear V;have u:f≠br:=by omega
 have a6:f<w1.heap.size:=Ac A.out;have U:=Aa K.out 2;have g:(pcF t i).data.toList=txF t.data.toList i:=Bm t i;have D:(tkF t.data.toList i).tx=txF t.data.toList i:=rfl;unfold Ge at h;simp only[D] at h;have c0:=Aa A.out 0;have f0:=Ab A.out 0;have R:Hid (∀W:World,_):=fun W h=>Dc W br t i d h ht;cases J:Gh.contains (txF t.data.toList i) with
 | true =>
  rw[J,if_pos rfl] at h;have T:Hid (r=.ok (Cw (txF t.data.toList i),i+1)):=by simp only[okX,Option.some.injEq] at h;exact h.symm
  have E2:Hid (Ar (w1.setCell ⟨f,0,none⟩ (.int .i64 2)) f 2 (pcF t i) ⟨#[]⟩ 0 (atF t.data.toList i) none 0 0):=A.out.sort 2;have R2:Hid (RdF (w1.setCell ⟨f,0,none⟩ (.int .i64 2)) br t i d):=K.out.setB (Ne.symm u) _;have F2:Hid (Fr (·≠br) w (w1.setCell ⟨f,0,none⟩ (.int .i64 2))):=F.out.setB z _;have HA:Hid (Calls _ _ _ _ _):=R.out _ R2.out;have y:Hid ((pcF t i).data.toList=txF t.data.toList i):=g;have n:pcF t i=⟨⟨txF t.data.toList i⟩⟩:=by rw[<- g]
  simp only[Gh,List.contains_cons,List.contains_nil,Bool.or_false,Bool.or_eq_true,beq_iff_eq] at J;clear h D A K F g;rcases J with q|q|q
  all_goals
   rw[q] at n;rw[n] at U |-;clear q;go_wp2_with (go_at_call 50;refine HA.out.mono ?_;rintro e o ⟨rfl,hr,b⟩;have C:Hid (RdF o br t (i+1) d):=hr;have B:Hid (Fr (·≠br) w o):=F2.out.trans b;have Z:Hid (Ar o f 2 (pcF t i) ⟨#[]⟩ 0 (atF t.data.toList i) none 0 0):=E2.out.of b u;clear hr b)
   go_ret
   rw[T.out];exact⟨B.out,⟨_,rfl,Ah.node ⟨f,2,pcF t i,⟨#[]⟩,0,atF t.data.toList i,none,0,0,[],rfl,z,Z.out,Hc _,.inr (.inr (.inl ⟨rfl,by rw[y.out]⟩))⟩⟩,C.out⟩
 | false =>
  rw[J,if_neg (by simp)] at h;cases E:Cs.contains (txF t.data.toList i) with
  | true =>
   rw[E,if_pos rfl] at h;have a1:txF t.data.toList i∈Cs:=List.contains_iff_mem.1 E;have E2:Hid (Ar (w1.setCell ⟨f,0,none⟩ (.int .i64 12)) f 12 (pcF t i) ⟨#[]⟩ 0 (atF t.data.toList i) none 0 0):=A.out.sort 12;have R2:Hid (RdF (w1.setCell ⟨f,0,none⟩ (.int .i64 12)) br t i d):=K.out.setB (Ne.symm u) _;have F2:Hid (Fr (·≠br) w (w1.setCell ⟨f,0,none⟩ (.int .i64 12))):=F.out.setB z _;have HA:Hid (Calls _ _ _ _ _):=R.out _ R2.out;have y:Hid ((pcF t i).data.toList=txF t.data.toList i):=g;have n:pcF t i=⟨⟨txF t.data.toList i⟩⟩:=by rw[<- g]
   have I:(tkF t.data.toList (i+1)).tx=txF t.data.toList (i+1):=rfl;have G:(tkF t.data.toList (i+1)).at'=atF t.data.toList (i+1):=rfl;have s:(pcF t (i+1)).toList=txF t.data.toList (i+1):=by rw[ByteArray.toList_eq,Bm]
   simp only[I,G] at h;have S:Hid (∀W:World,_):=fun W h=>Fy W br t (i+1) d 1 h;simp only[Cs,List.contains_cons,List.contains_nil,Bool.or_false,Bool.or_eq_true,beq_iff_eq] at E;clear D I G A K F g J;cases O:txF t.data.toList (i+1)==[40] with
   | false =>
    rw[O,if_neg (by simp)] at h;have T:Hid (r=.error (1,atF t.data.toList (i+1))):=by simp only[Dg,Option.some.injEq] at h;exact h.symm
    have g3:((pcF t (i+1)).toList==[40])=false:=by rw[s];exact O
    clear h O s;rcases E with q|q|q|q|q|q|q
    all_goals
     rw[q] at n;rw[n] at U |-;clear q;go_wp2_with (first|(go_at_call 50;refine HA.out.mono ?_;rintro e o ⟨rfl,hr,b⟩;have C:Hid (RdF o br t (i+1) d):=hr;have B:Hid (Fr (·≠br) w o):=F2.out.trans b;have y2:=Aa C.out 2;clear hr b)|(go_at_call 51;refine(S.out _ C.out).mono ?_;rintro e w4 ⟨rfl,rfl⟩;unfold Flt))
     rw[T.out];exact⟨rfl,B.out,rfl⟩
   | true =>
    rw[O,if_pos rfl,Wn] at h;have g3:((pcF t (i+1)).toList==[40])=true:=by rw[s];exact O
    have HW:Hid (∀(W:World)(q:Except (Nat×Nat) (List PX×Nat)),_):=fun W q e h=>Kt HS.out W d (i+1) m ⟨#[41]⟩ hd ht hm e h q;clear O s S;rcases E with q|q|q|q|q|q|q
    all_goals
     rw[q] at n;rw[n] at U |-;clear q;go_wp2_with (first|(go_at_call 50;refine HA.out.mono ?_;rintro e o ⟨rfl,hr,b⟩;have C:Hid (RdF o br t (i+1) d):=hr;have B:Hid (Fr (·≠br) w o):=F2.out.trans b;have Z:Hid (Ar o f 12 (pcF t i) ⟨#[]⟩ 0 (atF t.data.toList i) none 0 0):=E2.out.of b u;have y2:=Aa C.out 2;clear hr b))
     rcases Az h with⟨⟨c,p⟩,hn,rfl⟩|⟨l,j2,hn,M⟩
     ·refine(HW.out o _ (HI.out.fr B.out) C.out hn).mono ?_;rintro e Q ⟨b,rfl⟩;exact⟨rfl,B.out.trans b,rfl⟩
     refine(HW.out o _ (HI.out.fr B.out) C.out hn).mono ?_;rintro e Q ⟨b,⟨a,a3,a4,rfl,H⟩,hr⟩;have R5:Hid (RdF Q br t j2 d):=hr;have F5:Hid (Fr (·≠br) w Q):=B.out.trans b;have E5:Hid (Ar Q f 12 (pcF t i) ⟨#[]⟩ 0 (atF t.data.toList i) none 0 0):=Z.out.of b u;have W5:Hid (B8 (fun k=>o.heap.size<=k) Q (Ah (fun k=>o.heap.size<=k) Q) a a3 l):=H;have T:Hid (r=.ok (Ef (txF t.data.toList i) l,j2)):=by simp only[okX,Option.some.injEq] at M;exact M.symm
     have X:f<o.heap.size:=Ac Z.out;have c5:=Aa E5.out 5;have f5:=Ab E5.out 5;clear b hr H hn h M C B y2;go_wp2_with fail
     go_ret
     rw[T.out];exact⟨F5.out.setB z _,⟨_,rfl,Qd X W5.out z E5.out (.inr (.inr (.inr (.inr (.inr (.inr (.inr (.inr (.inr (.inr (.inr ⟨.inr rfl,by rw[y.out];exact .inr (.inr (.inr (.inr (.inr (.inr (.inr (.inr (.inr ⟨a1,rfl⟩))))))))⟩)))))))))))⟩,R5.out.setB (Ne.symm u) _⟩
  | false =>
   rw[E,if_neg (by simp)] at h;have Y:(pcF t i).toList=txF t.data.toList i:=by rw[ByteArray.toList_eq,g]
   simp only[Gh,List.contains_cons,List.contains_nil,Bool.or_false,Bool.or_eq_false_iff] at J;simp only[Cs,List.contains_cons,List.contains_nil,Bool.or_false,Bool.or_eq_false_iff] at E;rw[<- Y] at J E;obtain⟨g1,g2,g3⟩:=J;obtain⟨g4,g5,g6,g7,g8,g9,a5⟩:=E;have HC:Hid (Calls _ _ _ _ _):=Zc HS.out w1 d i m hd ht hm (HI.out.fr F.out) K.out r h;clear Y D g h c0 f0;go_wp2_with fail
   refine HC.out.mono ?_;rintro e w2 hp;rcases r with⟨c,p⟩|⟨x,j⟩
   ·obtain⟨b,rfl⟩:=hp;exact⟨rfl,F.out.trans b,rfl⟩
   ·have HH:=Dd.from F.out hp;obtain⟨b,⟨v,rfl,hv⟩,hr⟩:=hp;have a0:Hid (Dd w br t d (.ok (x,j)) (.returned v) w2):=HH;clear HH b hv hr HC;go_wp2_with fail
    go_ret
    exact a0.out
theorem dH {be:Nat}{w w':World}{sort:Nat}{op nm:ByteArray}{n:Int}{at':Nat}{pa p0:Option Addr}{len cap l0 c0:Nat}{kids:List PX}{x:PX}(hbe:be<w.heap.size)(hrow:B8 (fun k=>w.heap.size<=k) w' (Ah (fun k=>w.heap.size<=k) w') pa len kids)(he':Ar w' be sort op nm n at' p0 l0 c0)
  (hm:Oe sort op.data.toList nm.data.toList n kids x):Ah (fun k=>k=be\/w.heap.size<=k) (w'.setCell ⟨be,5,none⟩ (.slice pa len cap)) x (.pointer (some ⟨be,0,none⟩)):=by
 have a:Fr (fun k=>w.heap.size<=k) w' (w'.setCell ⟨be,5,none⟩ (.slice pa len cap)):=(Fr.refl _ _).set (by simp;omega) _;refine Ah.node ⟨be,sort,op,nm,n,at',pa,len,cap,kids,rfl,.inl rfl,he'.parts _ _ _,?_,hm⟩;exact B8.fr a (fun _ _ h=>h.fr a fun _ _ q=>.inr q) (fun _ _ q=>.inr q) hrow
theorem gH {br:Nat}{t:ByteArray}{self:Nat->Nat->Nat->RX PX}(hS:A3 br t self)(w:World)(be d i m a0:Nat)(hd:d<=24)(ht:t.size<=4000)(hm:m<=1000000)(hbe:be≠br)(hb34:be≠5/\be≠6)(hI:Cc w br)(hr:RdF w br t i d)(he:Ar w be 12 ⟨#[]⟩ ⟨#[]⟩ 0 a0 none 0 0)
  (r:Except (Nat×Nat) (PX×Nat)) (h:Ox (tkF t.data.toList) self m d i=some r) :
  Calls Tryz.prog 159 #[.pointer (some ⟨br,0,none⟩),.pointer (some ⟨be,0,none⟩)] w (Su w br be t d r):=by
 have L:Hid (A3 br t self):=hS;have K:Hid (Cc w br):=hI;have E:Hid (RdF w br t i d):=hr;have J:Hid (Ar w be 12 ⟨#[]⟩ ⟨#[]⟩ 0 a0 none 0 0):=he;have a1:=Ac hr;have U:=Ac he;have h2:=Aa hr 2;clear hI hS hr he;have mo:=follows;have o:(pcF t i).data.toList=txF t.data.toList i:=Bm t i;have v:(pcF t i).toList=txF t.data.toList i:=by rw[ByteArray.toList_eq,o]
 have A:(tkF t.data.toList i).tx=txF t.data.toList i:=rfl;unfold Ox at h;simp only[A] at h;cases s:Dr.contains (txF t.data.toList i) with
 | false =>
  rw[s,if_neg (by simp)] at h;simp only[Dr,List.contains_cons,List.contains_nil,Bool.or_false,Bool.or_eq_false_iff] at s;rw[<- v] at s;obtain⟨g1,g2⟩:=s;clear o v A;go_enter Tryz.func159,Tryz.ntmps159
  go_wp2_with fail
  rcases Az h with⟨⟨c,p⟩,u,rfl⟩|⟨l,j2,u,g⟩
  ·refine(Mw L.out w d i m ⟨#[125]⟩ hd ht hm K.out E.out _ u).mono ?_;rintro e n ⟨f,rfl⟩;exact⟨rfl,f.two,rfl⟩
  refine(Mw L.out w d i m ⟨#[125]⟩ hd ht hm K.out E.out _ u).mono ?_;rintro e n ⟨f,⟨a,V,cap,rfl,y⟩,hr⟩;have T:Hid (RdF n br t j2 d):=hr;have Q:Hid (Fr (·≠br) w n):=f;have D:Hid (Ar n be 12 ⟨#[]⟩ ⟨#[]⟩ 0 a0 none 0 0):=J.out.of f hbe;have W5:Hid (B8 (fun k=>w.heap.size<=k) n (Ah (fun k=>w.heap.size<=k) n) a V l):=y;have R:Hid (r=.ok (Jo l,j2)):=by simp only[okX,Option.some.injEq] at g;exact g.symm
  have c1:=Aa D.out 1;have f1:=Ab D.out 1;have c5:=Aa D.out 5;have f5:=Ab D.out 5;clear f hr y u h g E J h2;go_wp2_with fail
  refine bodyPost_ret (results_none rfl _ _ _) rfl ?_;rw[R.out];have F:Fr (fun k=>w.heap.size<=k) n (n.setCell ⟨be,1,none⟩ (.string ⟨#[115,101,116]⟩)):=(Fr.refl _ _).set (by simp;omega) _;have N:=dH (cap:=cap) U (B8.fr F (fun _ _ h=>h.fr F fun _ _ q=>q) (fun _ _ q=>q) W5.out) (D.out.op ⟨#[115,101,116]⟩) (x:=Jo l) (.inr (.inr (.inr (.inr (.inr (.inr (.inr (.inr (.inr (.inr (.inr ⟨.inr rfl,.inr (.inl ⟨rfl,rfl⟩)⟩)))))))))));exact⟨(Q.out.two.set (p:=⟨be,1,none⟩) (fun q=>q.2 rfl) _).set (p:=⟨be,5,none⟩) (fun q=>q.2 rfl) _,rfl,N,(T.out.setB (Ne.symm hbe) _).setB (Ne.symm hbe) _⟩
 | true =>
  rw[s,if_pos rfl] at h;have Z:Hid (Calls _ _ _ _ _):=K7 w br t i d E.out ht;have G:(pcF t i).data.toList∈Jj\/(pcF t i).data.toList∈Dr:=.inr (by rw[o];exact List.contains_iff_mem.1 s);rw[<- o] at h;have Y:Hid (∀(W:World)(m:ByteArray)(k:Nat)(b:Bool),_):=fun W m k b h=>C3 W br t m k d h ht b;have hg:((pcF t i).toList==[101,97,99,104])=true\/(((pcF t i).toList==[101,97,99,104])=false/\((pcF t i).toList==[116,104,111,115,101])=true):=by
   rw[v];simp only[Dr,List.contains_cons,List.contains_nil,Bool.or_false,Bool.or_eq_true] at s;cases e:txF t.data.toList i==[101,97,99,104] with
   | true=>exact .inl rfl
   | false=>rw[e] at s;simp at s;exact .inr ⟨rfl,by simpa using s⟩
  clear s v A o;rcases hg with g1|⟨g1,g2⟩
  all_goals
   go_enter Tryz.func159,Tryz.ntmps159
   go_wp2_with (go_at_call 87;refine Z.out.mono ?_;rintro e B ⟨rfl,hr,f⟩;have R2:Hid (RdF B br t (i+1) d):=hr;have X:Hid (Fr (·≠br) w B):=f;have H:Hid (Ar B be 12 ⟨#[]⟩ ⟨#[]⟩ 0 a0 none 0 0):=J.out.of f hbe;have c1:=Aa H.out 1;have f1:=Ab H.out 1;clear hr f)
   have I:Hid (Ar (B.setCell ⟨be,1,none⟩ (.string (pcF t i))) be 12 (pcF t i) ⟨#[]⟩ 0 a0 none 0 0):=H.out.op _;have M:Hid (RdF (B.setCell ⟨be,1,none⟩ (.string (pcF t i))) br t (i+1) d):=R2.out.setB (Ne.symm hbe) _;have z:Hid (Fr (fun k=>k≠br/\k≠be) w (B.setCell ⟨be,1,none⟩ (.string (pcF t i)))):=X.out.two.set (p:=⟨be,1,none⟩) (fun q=>q.2 rfl) _;clear c1 f1 H R2 X Z E J h2;generalize B.setCell ⟨be,1,none⟩ (.string (pcF t i))=w3 at I M z |-;have a2:=z.out.size;rcases Az h with⟨⟨c,p⟩,u,rfl⟩|⟨x,j,u,hk⟩
   ·refine(Lv L.out w3 be d (i+1) 12 _ (pcF t i) _ 0 hd ht hbe hb34 (K.out.two hb34 z.out) M.out I.out G _ u).mono ?_;rintro e C ⟨f,rfl⟩;exact⟨rfl,z.out.trans f,rfl⟩
   refine(Lv L.out w3 be d (i+1) 12 _ (pcF t i) _ 0 hd ht hbe hb34 (K.out.two hb34 z.out) M.out I.out G _ u).mono ?_;rintro e C ⟨f,rfl,N,hr⟩;have S:Hid (RdF C br t j d):=hr;have P:Hid (Fr (fun k=>k≠br/\k≠be) w C):=z.out.trans f;have T4:Hid (Ah (fun k=>k=be\/w.heap.size<=k) C x (.pointer (some ⟨be,0,none⟩))):=N.fr (Fr.refl _ _) fun _ _ q=>by omega
   clear f N hr u h I M z;go_wp2_with fail
   rcases Bu hk with⟨O,g⟩|⟨O,rfl⟩
   case inr =>
    refine(Y.out C ⟨#[125]⟩ j false S.out O).mono ?_;rintro e n ⟨f,⟨q,-⟩|⟨-,rfl⟩⟩
    ·simp at q
    ·exact⟨rfl,P.out.trans f.two,rfl⟩
   refine(Y.out C ⟨#[125]⟩ j true S.out O).mono ?_;rintro e n ⟨f,⟨-,rfl,hr⟩|⟨q,-⟩⟩
   case inr=>simp at q
   have T:Hid (RdF n br t (j+1) d):=hr;have Q:Hid (Fr (fun k=>k≠br/\k≠be) w n):=P.out.trans f.two;have T5:Hid (Ah (fun k=>k=be\/w.heap.size<=k) n x (.pointer (some ⟨be,0,none⟩))):=T4.out.fr (f.mono fun k q=>by omega) fun _ _ q=>q;have R:Hid (r=.ok (x,j+1)):=by simp only[okX,Option.some.injEq] at g;exact g.symm
   clear f hr O hk g S P T4;go_wp2_with fail
   go_end0
   rw[R.out];exact⟨Q.out,rfl,T5.out,T.out⟩
def mF (w:World)(br:Nat)(t:ByteArray)(d:Nat)(r:Except (Nat×Nat) ((PX×PX)×Nat))(e:Ending)(w':World):Prop :=
 Fr (·≠br) w w'/\match r with
  | .ok ((a,b),j)=>(∃va vb,e=.returned (.agg #[va,vb])/\Ah (fun k=>w.heap.size<=k) w' a va/\Ah (fun k=>w.heap.size<=k) w' b vb)/\RdF w' br t j d
  | .error (c,p)=>e=Flt c p
theorem Sy {br:Nat}{t:ByteArray}{self:Nat->Nat->Nat->RX PX}(hS:A3 br t self)(w:World)(d i:Nat)(hd:d<=24)(ht:t.size<=4000)(hI:Cc w br)(hr:RdF w br t i d)
  (r:Except (Nat×Nat) ((PX×PX)×Nat)) (h:Hg (tkF t.data.toList) self d i=some r) :
  Calls Tryz.prog 162 #[.pointer (some ⟨br,0,none⟩)] w (mF w br t d r):=by
 have N:Hid (A3 br t self):=hS;have M:Hid (Cc w br):=hI;have HD:Hid (∀(W:World)(m:ByteArray)(k:Nat)(b:Bool),_):=fun W m k b h=>C3 W br t m k d h ht b;have Z:=Ac hr;have HR:Hid (RdF w br t i d):=hr;clear hI hS hr;have mo:=follows;unfold Hg at h;go_enter Tryz.func162,Tryz.ntmps162
 have C:Hid ((w.alloc (.cells #[.pointer none,.pointer none] 211)).heap[w.heap.size]?=some (.cells #[.pointer none,.pointer none] 211 (0,0))):=Ag rfl;have O:Hid (RdF (w.alloc (.cells #[.pointer none,.pointer none] 211)) br t i d):=RdF.of HR.out (P:=fun _=>True) ((Fr.refl _ w).alloc _) trivial;have o:Hid (Fr (·≠br) w (w.alloc (.cells #[.pointer none,.pointer none] 211))):=(Fr.refl _ w).alloc _;clear HR;go_wp2_with fail
 generalize w.alloc (.cells #[.pointer none,.pointer none] 211)=w3 at C O o |-;obtain⟨g,G⟩:∃g,w.heap.size=g:=⟨_,rfl⟩;rw[G] at C Z |-;have K:w.heap.size<=g:=by omega
 clear G;have a0:g<w3.heap.size:=Ac C.out;obtain⟨z,a1⟩:∃z,w3.heap.size=z:=⟨_,rfl⟩;rcases Az h with⟨⟨c,p⟩,l,rfl⟩|⟨a,j,l,hk⟩
 ·refine(Bf N.out w3 d _ _ hd (M.out.fr o.out) O.out l).mono ?_;rintro e A ⟨f,rfl⟩;exact⟨rfl,o.out.trans f,rfl⟩
 refine(Bf N.out w3 d _ _ hd (M.out.fr o.out) O.out l).mono ?_;rintro e A ⟨f,⟨va,rfl,J⟩,hr⟩;have V:Hid (RdF A br t j (d)):=hr;have a5:=o.out.size;have a2:=f.size;have U:Hid (Fr (·≠br) w A):=o.out.trans f;have S:Hid (A.heap[g]?=some (.cells #[.pointer none,.pointer none] 211 (0,0))):=(f.block g (Ac C.out) (by omega)).trans C.out;have s:Hid (Ah (fun k=>z<=k) A a va):=Ah.fr (Fr.refl _ _) (fun _ _ q=>by omega) J;clear f hr l J h;clear O o C;obtain⟨Q,rfl,-,-⟩:=s.out.ptr;go_wp2_with fail
 rcases Bu hk with⟨R,I⟩|⟨R,rfl⟩
 case inr =>
  refine(HD.out A ⟨#[58]⟩ (j) false V.out R).mono ?_;rintro e B ⟨f,⟨q,-⟩|⟨-,rfl⟩⟩
  ·simp at q
  ·exact⟨rfl,U.out.trans f,rfl⟩
 refine(HD.out A ⟨#[58]⟩ (j) true V.out R).mono ?_;rintro e B ⟨f,⟨-,rfl,hr⟩|⟨q,-⟩⟩
 case inr=>simp at q
 have X:Hid (RdF B br t (j+1) (d)):=hr;have a3:=f.size;have D:Hid (Fr (·≠br) w B):=U.out.trans f;have E:Hid (Ah (fun k=>z<=k) B a (.pointer (some ⟨Q,0,none⟩))):=s.out.fr (f.mono fun k q=>by omega) (fun _ _ q=>q);have T:Hid (B.heap[g]?=some (.cells #[.pointer none,.pointer none] 211 (0,0))):=(f.block g (Ac S.out) (by omega)).trans S.out;clear f hr R hk;clear V U s S;go_wp2_with fail
 rcases Az I with⟨⟨c,p⟩,l,rfl⟩|⟨b,j2,l,u⟩
 ·refine(Bf N.out B d _ _ hd (M.out.fr D.out) X.out l).mono ?_;rintro e n ⟨f,rfl⟩;exact⟨rfl,D.out.trans f,rfl⟩
 refine(Bf N.out B d _ _ hd (M.out.fr D.out) X.out l).mono ?_;rintro e n ⟨f,⟨vb,rfl,J⟩,hr⟩;have R6:Hid (RdF n br t j2 (d)):=hr;have a6:=D.out.size;have a4:=f.size;have F6:Hid (Fr (·≠br) w n):=D.out.trans f;have Y:Hid (Ah (fun k=>z<=k) n a (.pointer (some ⟨Q,0,none⟩))):=E.out.fr (f.mono fun k q=>by omega) (fun _ _ q=>q);have L:Hid (n.heap[g]?=some (.cells #[.pointer none,.pointer none] 211 (0,0))):=(f.block g (Ac T.out) (by omega)).trans T.out;have F:Hid (Ah (fun k=>z<=k) n b vb):=Ah.fr (Fr.refl _ _) (fun _ _ q=>by omega) J;clear f hr l J I;clear X D E T;obtain⟨bb,rfl,-,-⟩:=F.out.ptr;obtain⟨y0,y1⟩:=lE L.out;obtain⟨z0,z1,-⟩:=Kq L.out;have HQ:Hid (r=.ok ((a,b),j2)):=by simp only[okX,Option.some.injEq] at u;exact u.symm
 clear u;go_wp2_with fail
 have e0:=fun x y=>Aa (Af (Af L.out 0 x) 1 y) 0;have e1:=fun x y=>Aa (Af (Af L.out 0 x) 1 y) 1;simp at e0 e1;refine bodyPost_ret (v:=.agg #[.pointer (some ⟨Q,0,none⟩),.pointer (some ⟨bb,0,none⟩)]) (by simp[results,Tryz.results162,go_sem,e0,e1]) rfl ?_;rw[HQ.out];have H:Fr (fun k=>z<=k) n ((n.setCell ⟨g,0,none⟩ (.pointer (some ⟨Q,0,none⟩))).setCell ⟨g,1,none⟩ (.pointer (some ⟨bb,0,none⟩))):=((Fr.refl _ _).set (by simp;omega) _).set (by simp;omega) _;exact⟨(F6.out.setB K _).setB K _,⟨_,_,rfl,Y.out.fr H fun _ _ q=>by omega,F.out.fr H fun _ _ q=>by omega⟩,(R6.out.setB (by simp;omega) _).setB (by simp;omega) _⟩
end Go.Proofs.YthcndopglfkmiaaGreatDoor.Sx
