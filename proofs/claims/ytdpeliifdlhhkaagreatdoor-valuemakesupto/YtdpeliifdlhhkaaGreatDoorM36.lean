/- Operators: flatten. -/
import Derived.Test.YtdpeliifdlhhkaaGreatDoorM35
import Derived.Test.YtdpeliifdlhhkaaGreatDoorM28
import Derived.Test.YtdpeliifdlhhkaaGreatDoorM32
import Derived.Test.YtdpeliifdlhhkaaGreatDoorM05
import Derived.Test.YtdpeliifdlhhkaaGreatDoorM03
import Derived.ArgAppend
import Derived.Laws.MakeOwn
import Derived.Deep.RegionLawGrows
import Derived.Deep.AppendLies
namespace Go.Proofs.YtdpeliifdlhhkaaGreatDoor.Sx
open Go.RowKit Go.Sort Tryz
set_option maxRecDepth 100000
set_option maxHeartbeats 4000000
theorem fE (n:Nat)(P:Nat->Prop)(w:World)(b:Nat)(es:List (AV (n+1)))(o:Value)(h:Dy P w (Aj P w (n+1)) (wt (n+1)) b es)(z:AV (n+1))(hP:∀k,w.heap.size<=k->P k)(hl:(es.flatMap (Ez n)).length<=1048576)(hw:∀t∈es.flatMap (Ez n),wt n t<=1024)
  (H0:(∃e∈es,Om n e≠5)->z=(Ar:Ag (AV n))) (H1:(∀e∈es,Om n e=5)->z=(mkS (wt n) (Eo (Al n) (es.flatMap (Ez n))):Ag (AV n))) :
  Calls prog 225 #[.pointer (some ⟨b,0,none⟩),o] w (Bd P w (n+1) z):=by
 obtain⟨_,a,g,c4,h0,e1,b1,r1⟩:=h;obtain⟨i0,a9,b8,b9,c1⟩:=info_parts Gn;have c0:=Ab h0 0;have zb:=Aa h0;have E1:Hid (g=es.length):=e1;have C:Hid _:=H0;have D:Hid _:=H1;have HP:Hid _:=hP;have HW:Hid _:=hw;have O:Hid (Ac w (w.alloc (.cells #[.nilIface] 23))):=(Ac.refl w).alloc _;have T:Hid ((w.alloc (.cells #[.nilIface] 23)).heap[w.heap.size]?=_):=Af rfl;have z0:(w.alloc (.cells #[.nilIface] 23)).heap.size=w.heap.size+1:=by simp
 have XR:Hid (Bv (fun k=>P k/\k≠w.heap.size) _ (Aj (fun k=>P k/\k≠w.heap.size) _ (n+1)) a g es):=Bv.fr (Fr.grew O.out) (fun x v=>Aj.fr (Fr.grew O.out) (fun k hk hp=>⟨hp,by omega⟩) (n+1) x v) (fun k hk hp=>⟨hp,by omega⟩) (show _ from⟨e1,b1,r1⟩);clear h0 e1 H0 H1 hP hw r1;have mo:=follows;go_enter func225,ntmps225
 go_wp2_with fail
 generalize w.alloc _=W0 at O T XR z0 |-;go_loopw [5,15] (fun sl i wr=>∃k:Nat,k<=g/\i=.int .i64 k/\Hid (Nq (fun k=>P k/\k≠w.heap.size) W0 wr n ((es.take k).flatMap (Ez n)) sl)/\Hid (∀e∈es.take k,Om n e=5)) (fun _ i _=>g-(intOf i).toNat)
 case atStart=>exact⟨0,Ae1 _,rfl,⟨⟨[],World.ownsRow_nil _ _ _ _,fun i x hx=>by simp at hx⟩,Below.refl _ _⟩,(by simp:∀e∈_,_=5)⟩
 case round =>
  obtain⟨k,hk,rfl,j,f⟩:=hrel;have U:Hid _:=Ac1 j.out.low T.out;have S:Hid _:=O.out.below.trans (j.out.low.mono (by omega));by_cases b3:k<g
  ·have b0:k<es.length:=by rw[<- E1.out];exact b3
   obtain⟨p1,o1,a7,a0,_,Y⟩:=XR.out.2.2.resolve_left (by omega);subst a7;have l:=List.getElem?_eq_getElem b0;obtain⟨v,a1,M⟩:=Y k es[k] l;have st:=Ae (M.rep _ _ _).one;have g0:=(j.out.low.cell (p:=⟨p1,o1+k,none⟩) a0).trans a1;have s1:=Ad8 a0 j.out.low.size;have d:Hid (_=_):=Zt (n:=n) l;have c:Hid _:=Ae4 l;have s:Hid (∀e∈es.take (k+1),e∈es.take k\/e=es[k]):=by
    intro e he;rw[List.take_add_one,l,Option.toList_some,List.mem_append,List.mem_singleton] at he;exact he
   have H:Hid _:=Ae0 (Pz es (k+1)) hl;have r:Hid (Aj _ W0 (n+1) es[k] v):=M;have Q:Hid (Nq _ W0 (wr.alloc (.cells #[v] 23)) n _ u5):=j.out.keep ((Ac.refl wr).alloc _).below;have XA:Hid ((wr.alloc (.cells #[v] 23)).heap[_]?=_):=Ac1 ((Ac.refl wr).alloc _).below U.out;have LA:Hid (Below _ w (wr.alloc (.cells #[v] 23))):=S.out.trans ((((Ac.refl wr).alloc _).below).mono S.out.size);have u:Hid _:=j.out.low;clear Y a1 M l j U S;generalize es[k]=e at d c s r;rcases Si (x:=(e:Ag (AV n))) r.out with⟨b2,V,⟨_,a2,n2,c2,h2,r2⟩,-,q2⟩|⟨V,q2⟩
   ·have a5:Hid (Om n e=5):=by show Ag.kind e=5;rw[V];rfl
    have d0:=Ab h2 0;have a4:=Aa h2;obtain⟨A,S2,V2⟩:=Jf r2;have F:Hid (n2=(Ez n e).length):=r2.1;have SW:Hid (Src _ a2 n2 A):=S2.below Q.out.low;have R:Hid (Ey _ W0 n (Ez n e) A):=V2;have m0:wr.cell? _=some (.slice a2 n2 c2):=(u.out.cell (p:=⟨b2,0,none⟩) a4).trans d0;have c7:=Ad8 a4 u.out.size;obtain⟨vs,N,a3⟩:=Q.out.own;have KV:Hid _:=a3;obtain⟨L,I⟩:∃L,((es.take k).flatMap (Ez n)).length=L:=⟨_,rfl⟩;have G:Hid _:=I;rw[I] at N;have OW:Hid ((wr.alloc (.cells #[v] 23)).ownsRow _ 23 1 u5 L vs):=N;have c3:L+n2<=1048576:=by have:=H.out;rw[d.out,List.length_append,I] at this;have:=F.out;omega
    have a8:=u.out.size;clear N a3 I h2 r2 S2 V2 d0 V;go_wp2_with (at_builtin;refine Gl _ rfl _ _ 47 rfl _ 23 i0 _ 16 underlying47 a9 b8 b9 c1 rfl u5 L vs rfl OW.out a2 n2 c2 A rfl SW.out ?q3 ?q4 ?q5 ?_)
    case q3=>unfold maxLen;omega
    case q4=>omega
    case q5=>first|omega|(simp;omega)
    intro l4 w4 N Z;have HN:Hid (Nq (fun k=>P k/\k≠w.heap.size) W0 w4 n ((es.take (k+1)).flatMap (Ez n)) l4):=by
     have b7:vs.length=L:=by have:=OW.out.1;omega
     have b5:Ey _ W0 n _ vs:=⟨by rw[b7,G.out],KV.out⟩;have b6:=b5.app R.out;refine⟨⟨vs++A,?_,?_⟩,K9 Q.out.low (Ad9 _) OW.out Z⟩
     ·rw[d.out,List.length_append,<- F.out,G.out,z0];exact N
     ·rw[d.out];exact b6.2
    have a6:Hid _:=fun e' he=>(s.out e' he).elim (f.out e') (fun q=>by rw[q];exact a5.out);clear N Z OW KV R SW Q f d s H F G c XA LA m0 g0 u r;go_wp2_with fail
    go_roundw
    case rel=>exact⟨k+1,by omega,by go_num,HN,a6⟩
    case measure=>simp[intOf];omega
   ·have K0:Hid (∀W:World,Aj (fun k=>P k/\k≠w.heap.size) W (n+1) z _):=fun W=>by rw[C.out ⟨e,c.out,V⟩];exact Gk _ W n
    have U:Hid _:=Ac1 u.out T.out;have E:=A6 (O.out.below.trans (u.out.mono (by omega))) (K0.out wr);have y:Ac _ ((wr.setCell ⟨w.heap.size,0,none⟩ .nilIface).alloc (.cells #[v] 23)):=(Ac.refl _).alloc _;have HE:Hid (Bd P w (n+1) z _ _):=⟨_,rfl,E.1.trans (y.below.mono E.1.size),E.2.keep (Fr.grew y)⟩;have XF:Hid (((wr.setCell ⟨w.heap.size,0,none⟩ .nilIface).alloc (.cells #[v] 23)).heap[w.heap.size]?=some (.cells #[_] 23 (0,0))):=Ac1 y.below (Ai U.out 0 _);have c8:w.heap.size<wr.heap.size:=by have:=u.out.size;omega
    have c5:=Ab (Ac1 u.out T.out) 0;have c6:=Ad (Ac1 u.out T.out) 0;clear E y C D f d s H c Q r V K0 LA XA;go_wp2_with fail
    have k0:=Ab XF.out 0;exact Ae2 (by simp[results,results225,go_sem,k0]) rfl HE.out
  ·obtain rfl:k=g:=by omega
   have HT:Hid (es.take k=es):=by
    show _=_;rw[E1.out];exact List.take_length
   rw[HT.out] at j f;obtain⟨L,I⟩:∃L,(es.flatMap (Ez n)).length=L:=⟨_,rfl⟩;obtain⟨a',B,rfl,X,K,m⟩:=j.out.row (by omega) (fun k hk=>⟨HP.out k (by omega),by omega⟩);rw[I] at m K |-;have b4:=j.out.low.size;have HN:Hid (Calls prog 211 #[.slice a' L B] wr fun e w'=>∃v,e=.returned (.agg #[v])/\Aj (fun k=>P k/\k≠w.heap.size) w' (n+1) z v/\Below wr.heap.size wr w'):=by
    rw[D.out f.out];exact J7 n _ wr a' L B _ (by omega) X m (fun k hk=>⟨HP.out k (by omega),by omega⟩) HW.out K
   clear m HW C D f j b4 HT XR hl I X K;go_wp2_with fail
   refine HN.out.mono ?_;rintro e w2 ⟨v,rfl,hr,J⟩;have st:=Ae (hr.rep _ _ _).one;have E:=A6 (S.out.trans (J.mono S.out.size)) hr;have HE:Hid (Bd P w (n+1) z _ _):=⟨v,rfl,E.1,E.2⟩;have X2:Hid _:=Ac1 J U.out;have XF:Hid ((w2.setCell ⟨w.heap.size,0,none⟩ v).heap[w.heap.size]?=some (.cells #[v] 23 (0,0))):=Ai X2.out 0 v;have r0:=Ab X2.out 0;have s0:=Ad X2.out 0;have zw:=Aa X2.out;clear E J hr;go_wp2_with fail
   have k0:=Ab XF.out 0;exact Ae2 (by simp[results,results225,go_sem,k0]) rfl HE.out
theorem yI {n g:Nat}{W:World}{P:Nat->Prop}(hPg:∀k,P k->k≠g):∀(es:List (AV n))(vs:List Value),Ey P W n es vs ->
  ∃hs:List (PH n g W),hs.map xyP=Bs es/\(∀a∈hs,Aj P W n a.k.x a.k.v/\Aj P W n a.u.x a.u.v)/\∀(i:Nat)(r:PH n g W),hs[i]?=some r->vs[2*i]?=some r.k.v/\vs[2*i+1]?=some r.u.v
 | [],vs,_=>⟨[],rfl,by simp,by simp⟩
 | [a],vs,_=>⟨[],rfl,by simp,by simp⟩
 | a::b::es,vs,h=>by
  obtain⟨v,h1,h2⟩:=h.2 0 a rfl;obtain⟨u,h3,h4⟩:=h.2 1 b rfl;obtain⟨c,vs1,rfl⟩:∃c l,vs=c::l:=by
   cases vs with
   | nil=>simp at h1
   | cons c l=>exact⟨c,l,rfl⟩
  obtain⟨d,e,rfl⟩:∃c l,vs1=c::l:=by
   cases vs1 with
   | nil=>simp at h3
   | cons c l=>exact⟨c,l,rfl⟩
  simp at h1 h3;subst h1 h3;have s:Ey P W n es e:=⟨by have:=h.1;simpa using this,fun i x hx=>by
   obtain⟨q,t,w⟩:=h.2 (i+2) x (by simpa using hx);exact⟨q,by simpa using t,w⟩⟩
  obtain⟨hs,j,m,o⟩:=yI hPg es e s;refine⟨⟨⟨a,c,h2.fr (Fr.refl _ W) (fun k _ hp=>hPg k hp) n a c⟩,⟨b,d,h4.fr (Fr.refl _ W) (fun k _ hp=>hPg k hp) n b d⟩⟩::hs,?_,?_,?_⟩
  ·show(a,b)::hs.map xyP=(a,b)::Bs es;rw[j]
  ·intro p hp;rcases List.mem_cons.1 hp with rfl|hp
   ·exact⟨h2,h4⟩
   ·exact m p hp
  ·intro i r f;cases i with
   | zero=>simp at f;subst f;exact⟨rfl,rfl⟩
   | succ i =>
    have:=o i r (by simpa using f);rw[show 2*(i+1)=2*i+1+1 from by omega];exact⟨by simpa using this.1,by simpa using this.2⟩
def tQ (W1 wr:World)(g h:Nat)(vs:List Value)(k:Nat):Prop:=∃cur:Array Value,wr.heap[g]?=some (.cells cur 273 (0,0))/\cur.size=h*2/\(∀j,j<2*k->cur[j]?=vs[j]?)/\Fr (·≠g) W1 wr
theorem kF (n:Nat)(P:Nat->Prop)(w:World)(a:Option Addr)(len cap:Nat)(h:len % 2=1) :
  Calls prog 229 #[.slice a len cap] w (Bd P w (n+1) (Ar:Ag (AV n))):=by
 have c:Int.tmod (len:Int) 2=((len % 2:Nat):Int):=by rw[Int.tmod_eq_emod_of_nonneg (by omega)];omega
 have b:(((len % 2:Nat):Int) != 0)=true:=by rw[h];rfl
 go_enter func229,ntmps229
 go_wp2_with fail
 exact Ae2 (v:=.agg #[.nilIface]) (by simp[results,results229,go_sem]) rfl (Cw (Gk P _ n))
theorem kG (a:Value)(w:World):Sem.run prog (callFunc 176 #[a]) w=.ok (.enter 176 #[a]) w:=by kernel_rfl
def L8 (n:Nat)(x:AV (n+1)):Bool:=Gj (α:=AV n) x
theorem bP (n:Nat)(P:Nat->Prop)(w:World)(a:Option Addr)(len cap:Nat)(es:List (AV (n+1)))(h:Bv P w (Aj P w (n+1)) a len es) :
  Calls prog 333 #[.slice a len cap,.func (.func 176) #[] #[]] w fun e w'=>(∃i:Int,e=.returned (.int .i64 i)/\(0<=i↔es.any (L8 n)=true))/\Ac w w':=by
 obtain⟨A,M,C⟩:=h;have y:Hid (len=es.length):=A;have D:Hid (∀(x:_)(v:Value)(W:World),Aj P w (n+1) x v->_->Calls _ 176 #[_] W fun e w'=>e=.returned (.bool (L8 n x))/\_):=fun x v W hr hW=>Yx n W x v ((hr.rep _ _ _).grew hW);clear A;go_enter func333,ntmps333
 go_wp2_with fail
 go_loopw [8,5] (fun i _ wr=>∃k:Nat,k<=len/\i=.int .i64 k/\Hid (Ac w wr)/\Hid ((es.take k).any (L8 n)=false)) (fun i _ _=>len-(intOf i).toNat)
 case atStart=>exact⟨0,Ae1 _,rfl,Ac.refl w,rfl⟩
 case round =>
  obtain⟨k,L,rfl,f,r⟩:=hrel;by_cases u:k<len
  ·have t:k<es.length:=by rw[<- y.out];exact u
   obtain⟨I,H,rfl,j,_,g⟩:=C.resolve_left (by omega);have b:=List.getElem?_eq_getElem t;obtain⟨v,m,l⟩:=g k es[k] b;have G:=kG (.agg #[v]);have F:=(f.out.below.cell (p:=⟨I,H+k,none⟩) j).trans m;have N:=Ad8 j f.out.below.size;have c:Hid (Calls _ 176 #[_] wr _):=D.out _ v wr l f.out;have d:Hid ((es.take (k+1)).any (L8 n)=((es.take k).any (L8 n)||L8 n es[k])):=by
    show _=_;rw[List.take_add_one,b,Option.toList_some,List.any_append];simp
   have o:Hid _:=Ae4 b;clear g m l b;generalize es[k]=e at c d o;go_wp2_with fail
   refine c.out.mono ?_;rintro K J ⟨rfl,B⟩;have z:Hid (Ac w J):=f.out.trans B;clear B c F f;cases q:L8 n e with
   | true =>
    have E:Hid _:=List.any_eq_true.2 ⟨e,o.out,q⟩;clear q d o;go_wp2_with fail
    go_ret
    exact⟨⟨_,rfl,by rw[E.out];simp⟩,z.out⟩
   | false =>
    rw[q,Bool.or_false] at d;have s:Hid _:=d.out.trans r.out;clear q d o;go_wp2_with fail
    go_roundw
    case rel=>exact⟨k+1,by omega,by go_num,z,s⟩
    case measure=>simp[intOf];omega
  ·obtain rfl:k=len:=by omega
   have d:Hid (es.take k=es):=by
    show _=_;rw[y.out];exact List.take_length
   rw[d.out] at r;clear C;go_wp2_with fail
   go_ret
   exact⟨⟨_,rfl,by rw[r.out];simp⟩,f.out⟩
theorem Ul (n:Nat)(P:Nat->Prop)(w:World)(a:Option Addr)(len cap:Nat)(es:List (AV (n+1)))(h:Bv P w (Aj P w (n+1)) a len es) :
  Calls prog 313 #[.slice a len cap,.func (.func 176) #[] #[]] w fun e w'=>e=.returned (.bool (es.any (L8 n)))/\Ac w w':=by
 have b:Hid (Calls _ 333 #[_,_] w _):=bP n P w a len cap es h;clear h;go_enter func313,ntmps313
 go_wp2_with fail
 refine b.out.mono ?_;rintro e j ⟨⟨i,rfl,d⟩,c⟩;have f:Hid (decide (0<=i)=es.any (L8 n)):=by
  show _=_;rw[Bool.eq_iff_iff,decide_eq_true_iff];exact d
 have g:Hid (Ac w j):=c;clear d c b;go_wp2_with fail
 go_ret
 exact⟨by rw[<- f.out];simp,g.out⟩
theorem Rh (n:Nat)(P:Nat->Prop)(w:World)(a:Option Addr)(len cap:Nat)(es:List (AV (n+1)))(h:Bv P w (Aj P w (n+1)) a len es)(hw:∀x∈es,wt (n+1) x<=1024) :
  Calls prog 284 #[.slice a len cap] w fun e w'=>e=.returned (.bool (decide (1024<=wtL (wt (n+1)) es)||es.any (L8 n)))/\Ac w w':=by
 have c:Hid (Calls _ 279 #[_] w _):=Mi (n+1) w a len cap es (h.row (Aj.rep (n+1))) hw;have b:Hid _:=fun W hW=>Ul n P W a len cap es (h.keep (Fr.grew hW));generalize es.any (L8 n)=B at b |-;clear h hw;go_enter func284,ntmps284
 go_wp2_with fail
 refine c.out.mono ?_;rintro e k ⟨rfl,d⟩;have f:Hid (Ac w k):=d;clear d c;by_cases j:1024<=wtL (wt (n+1)) es
 ·have i:(1024:Int)<=((wtL (wt (n+1)) es:Nat):Int):=by omega
  go_wp2_with fail
  go_ret
  exact⟨by simp[j],f.out⟩
 ·have i:¬(1024:Int)<=((wtL (wt (n+1)) es:Nat):Int):=by omega
  go_wp2_with fail
  refine(b.out k f.out).mono ?_;rintro e l ⟨rfl,d⟩;have g:Hid (Ac w l):=f.out.trans d;clear d b;go_wp2_with fail
  go_ret
  exact⟨by simp[j];intro q;omega,g.out⟩
theorem tR (a:Nat)(ha:a<9223372036854775808):bits .and .i64 (a:Int) 1=((a % 2:Nat):Int):=by
 have b:(BitVec.ofInt 64 (a:Int)).toNat=a:=by
  rw[BitVec.ofInt_natCast,BitVec.toNat_ofNat];exact Nat.mod_eq_of_lt (by omega)
 have c:(BitVec.ofInt 64 (1:Int)).toNat=1:=by decide
 show IntKind.i64.wrap ((BitVec.ofInt 64 (a:Int) &&& BitVec.ofInt 64 (1:Int)).toNat:Int)=_;rw[BitVec.toNat_and,b,c,Nat.and_one_is_mod,IntKind.wrap_i64];omega
theorem zS (k j:Nat)(hk:k<9223372036854775808):(bits .and .i64 ((k:Int) / 2 ^ j) 1==1)=k.testBit j:=by
 have e:((k:Int) / 2 ^ j)=((k / 2 ^ j:Nat):Int):=by simp
 have a:k / 2 ^ j<9223372036854775808:=Nat.lt_of_le_of_lt (Nat.div_le_self _ _) hk;rw[e,tR _ a,Nat.testBit_eq_decide_div_mod_eq];generalize k / 2 ^ j=m;rcases Nat.mod_two_eq_zero_or_one m with h|h<;>simp[h]
def kH (n:Nat)(p:List (AV n)):AV (n+1):=(Bt p:Ag (AV n))
def Ua (R:Nat->Prop)(w wr:World)(n g len:Nat)(es:List (AV n))(k:Nat):Prop :=
 (∃cur:Array Value,wr.heap[g]?=some (.cells cur 23 (0,0))/\cur.size=len/\∀i,i<k->∃v,cur[i]?=some v/\Aj R wr (n+1) (kH n (Da es i es.length)) v)/\Below w.heap.size w wr/\wr.heap[w.heap.size]?=some (.cells #[.nilIface] 23 (0,0))
theorem Ua.next {R:Nat->Prop}{w wo w':World}{n g len:Nat}{es:List (AV n)}{k:Nat}{v:Value}(h:Ua R w wo n g len es k)(hg:g=w.heap.size+1)(hR:¬R g)(hk:k<len)(hb:Below wo.heap.size wo w')(hr:Aj R w' (n+1) (kH n (Da es k es.length)) v):Ua R w (w'.setCell ⟨g,k,none⟩ v) n g len es (k+1):=by
 obtain⟨⟨m,o,j,hi⟩,f,r⟩:=h;have c:=Ac1 hb o;have a:Fr (fun q=>q<w.heap.size) w (w'.setCell ⟨g,k,none⟩ v):=(Fr.below (f.trans (hb.mono f.size))).set (by simp;omega) v;have l:Fr (fun q=>q≠g) w' (w'.setCell ⟨g,k,none⟩ v):=(Fr.refl _ _).set (by simp) v;have b:=Ac1 hb r;refine⟨⟨_,Ai c k v,by simp[j],fun i hik=>?_⟩,⟨a.os,a.tape,a.output,a.size,fun i hi=>a.block i hi hi⟩,(l.block _ (Aa b) (by omega)).trans b⟩;by_cases e:i=k
 ·subst e;exact⟨v,by simp[Array.set!,j,hk],hr.keep ((Fr.refl _ _).set hR v)⟩
 ·obtain⟨u,p,d⟩:=hi i (by omega);exact⟨u,by simp[Array.set!,Ne.symm e,p],d.keep ((Fr.below hb).set hR v)⟩
theorem Ua.row {R Q:Nat->Prop}{w wr:World}{n g N:Nat}{es:List (AV n)}(h:Ua R w wr n g N es N)(hN:2 ^ es.length=N)(hl:N<=1024)(hg:Q g)(hQ:∀k,R k->Q k):Bv Q wr (Aj Q wr (n+1)) (some ⟨g,0,none⟩) N ((Cj es es.length).map (kH n)):=by
 obtain⟨⟨c,b,j,d⟩,-,-⟩:=h;refine⟨by rw[List.length_map,Mf,hN],by omega,.inr ⟨g,0,rfl,Aa b,hg,fun i x hx=>?_⟩⟩;rw[Kw,hN,List.map_map] at hx;have a:=by have:=(List.getElem?_eq_some_iff.1 hx).1;simpa using this
 rw[List.getElem?_map,List.getElem?_range a] at hx;simp at hx;subst hx;obtain⟨v,f,e⟩:=d i a;exact⟨v,by rw[Nat.zero_add];exact(Ab b i).trans f,e.fr (Fr.refl _ _) (fun k _ h=>hQ k h) _ _ _⟩
theorem xE {n:Nat}{es p:List (AV n)}(hw:1+wtL (wt n) es<=1024)(h:p.Sublist es):wt (n+1) (kH n p)<=1024:=by
 have:=aD (wt n) h;show 1+wtL (wt n) p<=1024;omega
theorem bQ (n:Nat)(P:Nat->Prop)(w:World)(b:Nat)(es:List (AV n))(o:Value)(h:Dy P w (Aj P w n) (wt n) b es)(z:AV (n+2))(hP:∀k,w.heap.size<=k->P k)(hw:1+wtL (wt n) es<=1024)(hlen:es.length<=10)
  (hz:z=(mkS (wt (n+1)) (Eo (Al (n+1)) ((Cj es es.length).map (kH n))):Ag (AV (n+1)))) :
  Calls prog 226 #[.pointer (some ⟨b,0,none⟩),o] w (Bd P w (n+2) z):=by
 obtain⟨_,a,c,b1,h0,M⟩:=h;have J:c=es.length:=M.1;have R:Hid (c=es.length):=J;obtain⟨i0,X,a4,a5,a6⟩:=info_parts Gn;have c0:=Ab h0 0;have zb:=Aa h0;have a8:Hid (∀W,Calls _ 281 #[_] W fun e w'=>e=.returned (.int .i64 11)/\w'=W):=fun W=>(Tryz.bits_Len 1024 W (by omega) (by omega)).mono (fun e w' h=>⟨h.1.trans (by rfl),h.2⟩);have c3:¬(11:Int)<=(c:Int):=by omega
 have HZ:Hid _:=hz;have HP:Hid _:=hP;have HR:Hid (Bv P w _ a c es):=M;have G0:Hid (Ac w (w.alloc (.cells #[.nilIface] 23))):=(Ac.refl w).alloc _;have X0:Hid ((w.alloc (.cells #[.nilIface] 23)).heap[w.heap.size]?=_):=Af rfl;obtain⟨N,hN⟩:∃N:Nat,2 ^ c=N:=⟨_,rfl⟩;have T:Hid (2 ^ es.length=N):=by rw[<- J];exact hN
 have b3:N<=1024:=by
  rw[<- hN]
  calc 2 ^ c<=2 ^ 10:=Nat.pow_le_pow_right (by omega) (by omega)
   _=1024:=rfl
 have a3:wrap64 ((2:Int) ^ c)=(N:Int):=by
  have:(2:Int) ^ c=((2 ^ c:Nat):Int):=by simp
  rw[this,hN];unfold wrap64;omega
 obtain⟨w1,ra,oa,ga⟩:=run_make_full _ (w.alloc (.cells #[.nilIface] 23)).heap.size 47 23 i0 _ 1 underlying47 X a4 a5 .i64 .i64 N (by rw[a6];omega) (by unfold maxLen;omega) (Ad9 _);have a7:(w.alloc (.cells #[.nilIface] 23)).heap.size=w.heap.size+1:=by simp
 rw[a7] at ra oa;have B1:Hid _:=G0.out.below.trans (((Below.refl _ _).grown ga (Ad9 _) (fun k hk=>by simp at hk)).mono (by omega));have X1:Hid _:=(ga.block _ (Aa X0.out) (by simp)).trans X0.out;have PI:Hid (Ua (fun q=>(P q/\q≠w.heap.size)/\q≠w.heap.size+1) w w1 n (w.heap.size+1) N es 0):=by
  refine⟨?_,B1.out,X1.out⟩;rcases oa.2 with⟨e,_⟩|⟨g',l,t,e,_,hb,_,_,hs,_⟩
  ·simp at e
  ·simp at e;obtain⟨rfl,rfl⟩:=e;exact⟨t,hb,by omega,fun i hi=>by omega⟩
 clear h0 M hz hP J oa ga a7 hN G0 X0;have mo:=follows;go_enter func226,ntmps226
 go_wp2_with (go_at_call 281;refine(a8.out _).mono ?_;rintro e w' ⟨rfl,rfl⟩)
 rw[a3];clear a3;go_loopw [25] (fun i wr=>∃k:Nat,k<=N/\i=.int .i64 k/\Hid (Ua (fun q=>(P q/\q≠w.heap.size)/\q≠w.heap.size+1) w wr n (w.heap.size+1) N es k)) (fun i _=>N-(intOf i).toNat)
 case atStart=>exact⟨0,Ae1 _,rfl,PI⟩
 case round =>
  clear PI ra;obtain⟨k,hk,rfl,f⟩:=hrel;obtain⟨d,c1⟩:∃d,d=wr:=⟨_,rfl⟩;subst c1;have d0:d.cell? _=some (.slice a c b1):=(f.out.2.1.cell (p:=⟨b,0,none⟩) zb).trans c0;have c6:=Ad8 zb f.out.2.1.size;by_cases b8:k<N
  ·go_wp2_with fail
   go_loopw [8,33] (fun sl i wi=>∃j:Nat,j<=c/\i=.int .i64 j/\Hid (Nq (fun q=>(P q/\q≠w.heap.size)/\q≠w.heap.size+1) d wi n (Da es k j) sl)) (fun _ i _=>c-(intOf i).toNat)
   case atStart=>exact⟨0,Ae1 _,rfl,⟨⟨[],World.ownsRow_nil _ _ _ _,fun i x hx=>by simp[Da] at hx⟩,Below.refl _ _⟩⟩
   case round =>
    obtain⟨j,hj,rfl,s⟩:=hrel;by_cases b6:j<c
    ·have b7:j<es.length:=by rw[<- R.out];exact b6
     obtain⟨p1,o1,b5,Z,_,U⟩:=HR.out.2.2.resolve_left (by omega);subst b5;obtain⟨x,I⟩:∃x,es[j]?=some x:=⟨_,List.getElem?_eq_getElem b7⟩;obtain⟨v,a1,B⟩:=U j x I;have st:=Ae (B.rep _ _ _).one;have cc:=(B.rep _ _ _).one;have g0:=((f.out.2.1.trans (s.out.low.mono f.out.2.1.size)).cell (p:=⟨p1,o1+j,none⟩) Z).trans a1;have s1:=Ad8 Z (Ae0 f.out.2.1.size s.out.low.size);have C:=zS k j (by omega);have c2:Hid _:=f.out.2.1;have F:Hid (Aj (fun q=>(P q/\q≠w.heap.size)/\q≠w.heap.size+1) d n x v):=B.fr (Fr.below f.out.2.1) (fun q hq hp=>⟨⟨hp,by omega⟩,by omega⟩) n x v;have D:Hid (es[j]?=some x):=I;have GA:Hid (Nq _ d (wr.alloc (.cells #[v] 23)) n _ u8):=s.out.keep ((Ac.refl wr).alloc _).below;have GB:Hid (Nq _ d ((wr.alloc (.cells #[v] 23)).alloc (.cells #[v] 23)) n _ u8):=GA.out.keep ((Ac.refl _).alloc _).below;have c4:=s.out.low.size;clear U a1 B I s;cases O:k.testBit j with
     | false =>
      rw[O] at C;have g:Hid (Da es k (j+1)=Da es k j):=by show _=_;simp[Da,O]
      rw[<- g.out] at GA;clear O GB g F D;go_wp2_with fail
      go_roundw
      case rel=>exact⟨j+1,by omega,by go_num,GA⟩
      case measure=>simp[intOf];omega
     | true =>
      rw[O] at C;have g:Hid (Da es k (j+1)=Da es k j++[x]):=by show _=_;simp[Da,O,D.out]
      obtain⟨vs,K,a2⟩:=GB.out.own;obtain⟨L,u⟩:∃L,(Da es k j).length=L:=⟨_,rfl⟩;have S:Hid ((Da es k j).length=L):=u;have b2:L<=1024:=by
       rw[<- u];have:=(Ke es k j).length_le;omega
      rw[u] at K;have OB:Hid (((wr.alloc (.cells #[v] 23)).alloc (.cells #[v] 23)).ownsRow _ 23 1 u8 L vs):=K;have KV:Hid (Ey _ d n _ vs):=⟨by rw[u];have:=K.1;omega,a2⟩;have SB:Hid (Src ((wr.alloc (.cells #[v] 23)).alloc (.cells #[v] 23)) (some ⟨wr.heap.size+1,0,none⟩) 1 [v]):=by
       have hn:((wr.alloc (.cells #[v] 23)).alloc (.cells #[v] 23)).heap[wr.heap.size+1]?=_:=Af (by simp);refine⟨rfl,by simp[cc],.inr ⟨_+1,0,rfl,Aa hn,fun i q hq=>?_⟩⟩;cases i with
       | zero=>simp at hq;subst hq;exact Ab hn 0
       | succ i=>simp at hq
      clear K a2 u O GA;go_wp2_with (at_builtin;refine Gl _ rfl _ _ 47 rfl _ 23 i0 _ 16 underlying47 X a4 a5 a6 rfl u8 L vs rfl OB.out _ 1 1 [v] rfl SB.out ?q3 ?q4 ?q5 ?_)
      case q3=>unfold maxLen;omega
      case q4=>omega
      case q5=>first|omega|(simp;omega)
      intro l4 w4 K V;have HN:Hid (Nq (fun q=>(P q/\q≠w.heap.size)/\q≠w.heap.size+1) d w4 n (Da es k (j+1)) l4):=by
       rw[g.out];have b9:=KV.out.app (show Ey _ d n [x] [v] from⟨rfl,fun i y hy=>by
        cases i with
        | zero=>simp at hy;subst hy;exact⟨v,rfl,F.out⟩
        | succ i=>simp at hy⟩)
       refine⟨⟨vs++[v],?_,b9.2⟩,K9 GB.out.low (Ad9 _) OB.out V⟩;rw[List.length_append,S.out];exact K
      clear K V OB KV SB GB g S F D;go_wp2_with fail
      go_roundw
      case rel=>exact⟨j+1,by omega,by go_num,HN⟩
      case measure=>simp[intOf];omega
    ·obtain rfl:j=c:=by omega
     have a0:w.heap.size+1<d.heap.size:=by obtain⟨⟨t,Q,-⟩,-⟩:=f.out;exact Aa Q
     have c5:=s.out.low.size;obtain⟨L,u⟩:∃L,(Da es k j).length=L:=⟨_,rfl⟩;have b2:L<=1024:=by
      rw[<- u];have:=(Ke es k j).length_le;omega
     obtain⟨a',l,rfl,b4,Y,r⟩:=s.out.row (by omega) (fun q hq=>⟨⟨HP.out q (by omega),by omega⟩,by omega⟩);rw[u] at r Y |-;have b0:Hid (Calls prog 220 #[.slice a' L l] wr fun e w'=>∃v,e=.returned (.agg #[v])/\Aj (fun q=>(P q/\q≠w.heap.size)/\q≠w.heap.size+1) w' (n+1) (kH n (Da es k es.length)) v/\Ac wr w'):=by
      have hs:=aD (wt n) (Ke es k j);have q:=Dh n _ wr a' L l _ r (fun q hq=>⟨⟨HP.out q (by omega),by omega⟩,by omega⟩) (fun x hx=>by have:=Ru (wt n) hx;omega) (by omega);rw[show mkS (wt n) (Da es k j)=Bt (Da es k j) from if_pos (by omega)] at q;show Calls _ _ _ _ fun e w'=>∃v,e=_/\Aj _ w' (n+1) (kH n (Da es k es.length)) v/\Ac wr w';rw[<- R.out];exact q
     have HB:Hid _:=s.out.low;clear r Y b4 u s hw;go_wp2_with (go_at_call 220;refine b0.out.mono ?_;rintro e w' ⟨v,rfl,m,hg⟩;have st:=Ae (m.rep _ _ _).one;have H:=HB.out.trans (hg.below.mono HB.out.size);have a9:Hid (Ua _ w _ n _ N es (k+1)):=f.out.next rfl (by simp) b8 H m;obtain⟨⟨t,Q,hs,-⟩,-⟩:=f.out;have A:=Ac1 H Q;have x0:=(Ab A k).trans (Array.getElem?_eq_getElem (by omega));have x1:=Ad A k;have x2:=Aa A;clear m hg H Q A)
     exact⟨⟨k+1,by omega,by go_num,a9⟩,by simp[intOf];omega⟩
  ·obtain rfl:k=N:=by omega
   have a0:w.heap.size+1<d.heap.size:=by obtain⟨⟨t,Q,-⟩,-⟩:=f.out;exact Aa Q
   have HN:Hid (Calls prog 211 #[.slice (some ⟨w.heap.size+1,0,none⟩) k k] d fun e w'=>∃v,e=.returned (.agg #[v])/\Aj (fun q=>P q/\q≠w.heap.size) w' (n+2) z v/\Below d.heap.size d w'):=by
    rw[HZ.out];exact J7 (n+1) _ d _ k k _ (by omega) (.inr ⟨_,_,rfl⟩) (f.out.row T.out b3 ⟨HP.out _ (by omega),by omega⟩ (fun _ h=>h.1)) (fun q hq=>⟨HP.out q (by omega),by omega⟩) (fun x hx=>by
     rw[Kw,List.map_map,List.mem_map] at hx;obtain⟨p,-,rfl⟩:=hx;exact xE hw (Ke es p es.length)) (by simp)
   have L1:Hid _:=f.out.2.1;have X1:Hid _:=f.out.2.2;clear f HZ HR T;go_wp2_with fail
   refine HN.out.mono ?_;rintro e w2 ⟨v,rfl,M,G⟩;have st:=Ae (M.rep _ _ _).one;have E:=A6 (L1.out.trans (G.mono L1.out.size)) M;have HE:Hid (Bd P w (n+2) z _ _):=⟨v,rfl,E.1,E.2⟩;have X2:Hid _:=Ac1 G X1.out;have XF:Hid ((w2.setCell ⟨w.heap.size,0,none⟩ v).heap[w.heap.size]?=some (.cells #[v] 23 (0,0))):=Ai X2.out 0 v;have r0:=Ab X2.out 0;have s0:=Ad X2.out 0;have zw:=Aa X2.out;clear E G M;go_wp2_with fail
   have k0:=Ab XF.out 0;exact Ae2 (by simp[results,results226,go_sem,k0]) rfl HE.out
theorem X9 (n:Nat)(P:Nat->Prop)(w:World)(b:Nat)(es:List (AV n))(o:Value)(h:Dy P w (Aj P w n) (wt n) b es)(z:AV (n+2))(hlen:11<=es.length)(hz:z=(Ar:Ag (AV (n+1)))) :
  Calls prog 226 #[.pointer (some ⟨b,0,none⟩),o] w (Bd P w (n+2) z):=by
 obtain⟨_,a,c,m,f,i⟩:=h;have g:c=es.length:=i.1;have q:c<=4294967296:=i.2.1;have r:=Ab f 0;have v:=Aa f;have d:Hid (∀W,Calls _ 281 #[_] W fun e w'=>e=.returned (.int .i64 11)/\w'=W):=fun W=>(Tryz.bits_Len 1024 W (by omega) (by omega)).mono (fun e w' h=>⟨h.1.trans (by rfl),h.2⟩);have p:(11:Int)<=(c:Int):=by omega
 have j:Hid (Ac w (w.alloc (.cells #[.nilIface] 23))):=(Ac.refl w).alloc _;have k:Hid ((w.alloc (.cells #[.nilIface] 23)).heap[w.heap.size]?=_):=Af rfl;have l:Hid (Bd P w (n+2) z _ _):=⟨_,rfl,j.out.below,by rw[hz];exact Gk _ _ (n+1)⟩;have t:=Ab k.out 0;have u:=Ad k.out 0;clear f i hz g j;have s:=follows;go_enter func226,ntmps226
 go_wp2_with (go_at_call 281;refine(d.out _).mono ?_;rintro e w' ⟨rfl,rfl⟩)
 exact Ae2 (by simp[results,results226,go_sem]) rfl l.out
theorem Ub (a a2:Option Addr)(r rc l lc:Nat)(w:World)(hr:r<=1048576)(hl:l<=1048576)(h:1024<=r*l):Calls prog 282 #[.slice a r rc,.slice a2 l lc] w fun e w'=>e=.returned (.tuple #[.slice none 0 0,.bool false])/\w'=w:=by
 have c:=Nat.mul_le_mul hr hl;have d:wrap64 ((r:Int)*(l:Int))=((r*l:Nat):Int):=by
  rw[<- Int.natCast_mul];unfold wrap64;omega
 obtain⟨m,b⟩:∃m,r*l=m:=⟨_,rfl⟩;rw[b] at d h;have f:(1024:Int)<=(m:Int):=by omega
 clear c b;go_enter func282,ntmps282
 go_wp2_with fail
 exact Ae2 (by simp[results,results282,go_sem]) rfl ⟨rfl,rfl⟩
theorem tS (a:Option Addr)(l c:Nat)(w:World)(hs:Gm a l c):Calls prog 311 #[.slice a l c] w fun e w'=>e=.returned (.slice a l l)/\w'=w:=by
 obtain⟨i,f,d⟩:=hs;rcases d with rfl|⟨b,g,rfl⟩
 ·have h:=f rfl;go_enter func311,ntmps311
  go_wp2_with fail
  go_ret
  exact⟨rfl,rfl⟩
 ·go_enter func311,ntmps311
  go_wp2_with fail
  go_ret
  exact⟨rfl,rfl⟩
theorem lX:(prog.info? 47).map (fun i=>(i.zero,i.size,i.bytes))=some (some (.slice none 0 0),1,24):=by kernel_rfl
def Oq (Q:Nat->Prop)(w:World)(n:Nat)(row:List (AV n))(v:Value):Prop :=
 ∃a c,v=.slice a row.length c/\Gm a row.length c/\Bv Q w (Aj Q w n) a row.length row
theorem Oq.fr {P Q:Nat->Prop}{w w':World}(hf:Fr P w w')(hQ:∀k,k<w.heap.size->P k->Q k){n:Nat}{row:List (AV n)}{v:Value}(h:Oq P w n row v):Oq Q w' n row v:=by
 obtain⟨a,c,e,d,b⟩:=h;exact⟨a,c,e,d,Bv.fr hf (fun x v=>Aj.fr hf hQ n x v) hQ b⟩
theorem Oq.one {Q:Nat->Prop}{w:World}{n:Nat}{row:List (AV n)}{v:Value}(h:Oq Q w n row v):v.oneCell'=true:=by
 obtain⟨a,c,rfl,-,-⟩:=h;rfl
def Rows (Q:Nat->Prop)(w:World)(n:Nat)(acc:List (List (AV n)))(vs:List Value):Prop :=
 vs.length=acc.length/\∀(i:Nat)(row:List (AV n)),acc[i]?=some row->∃v,vs[i]?=some v/\Oq Q w n row v
theorem Rows.fr {P Q:Nat->Prop}{w w':World}(hf:Fr P w w')(hQ:∀k,k<w.heap.size->P k->Q k){n:Nat}{acc:List (List (AV n))}{vs:List Value}(h:Rows P w n acc vs):Rows Q w' n acc vs :=
 ⟨h.1,fun i row hi=>by
  obtain⟨v,hv,hr⟩:=h.2 i row hi;exact⟨v,hv,hr.fr hf hQ⟩⟩
theorem Rows.app {Q:Nat->Prop}{w:World}{n:Nat}{acc:List (List (AV n))}{vs:List Value}{row:List (AV n)}{v:Value}(h:Rows Q w n acc vs)(hr:Oq Q w n row v):Rows Q w n (acc++[row]) (vs++[v]):=by
 refine⟨by simp[h.1],fun i y hy=>?_⟩;by_cases c:i<acc.length
 ·rw[List.getElem?_append_left c] at hy;obtain⟨u,d,a⟩:=h.2 i y hy;exact⟨u,by rw[List.getElem?_append_left (by rw[h.1];exact c)];exact d,a⟩
 ·rw[List.getElem?_append_right (by omega)] at hy;have b:i-acc.length=0:=by
   have:=(List.getElem?_eq_some_iff.1 hy).1;simp at this;omega
  rw[b] at hy;simp at hy;subst hy;exact⟨v,by rw[List.getElem?_append_right (by rw[h.1];omega),h.1,b];rfl,hr⟩
theorem Ix {w:World}{base:Nat}{e:TypeId}{sl:Value}{n g:Nat}{vs:List Value}(h:w.ownsRow base e 1 sl n vs)(hg:sl.ownBlock=some g):base<=g/\g<w.heap.size:=by
 rcases h.2 with⟨rfl,_⟩|⟨f,a,b,rfl,c,d,_⟩
 ·simp[Value.ownBlock] at hg
 ·simp[Value.ownBlock] at hg;subst hg;exact⟨c,Aa d⟩
theorem Kc {w w':World}{B:Nat}{e:TypeId}{v:Value}{n:Nat}{xs:List Value}(h:w.ownsRow B e 1 v n xs)(hb:Below w.heap.size w w'):w'.ownsRow B e 1 v n xs:=by
 refine⟨h.1,?_⟩;rcases h.2 with h|⟨g,a,b,c,d,f,i⟩
 ·exact .inl h
 ·exact .inr ⟨g,a,b,c,d,Ac1 hb f,i⟩
structure Kr (Q:Nat->Prop)(w wr:World)(n base:Nat)(acc:List (List (AV n)))(l:Value):Prop where
 own:∃vs:List Value,wr.ownsRow base 47 1 l acc.length vs/\Rows (fun k=>Q k/\some k≠l.ownBlock) wr n acc vs
 low:Below w.heap.size w wr
theorem Kr.keep {Q:Nat->Prop}{w wr w':World}{n base:Nat}{acc:List (List (AV n))}{l:Value}(h:Kr Q w wr n base acc l)(hb:Below wr.heap.size wr w'):Kr Q w w' n base acc l:=by
 obtain⟨c,b,a⟩:=h.own;exact⟨⟨c,Kc b hb,a.fr (Fr.below hb) (fun _ _ h=>h)⟩,h.low.trans (hb.mono h.low.size)⟩
theorem Kr.push {Q:Nat->Prop}{w W w':World}{n base:Nat}{acc:List (List (AV n))}{l l':Value}(hl:Below w.heap.size w W)(hb:w.heap.size<=base){vs:List Value}{v:Value}{row:List (AV n)}(ha:Rows (fun k=>Q k/\some k≠l.ownBlock) W n acc vs)(ho:W.ownsRow base 47 1 l acc.length vs)(ho':w'.ownsRow base 47 1 l' (acc.length+1) (vs++[v]))(hg:W.grownBy w' l.ownBlock)(hat:l'.ownBlock=l.ownBlock\/l'.ownBlock=some W.heap.size)(hx:Oq (fun k=>Q k/\some k≠l.ownBlock) W n row v):Kr Q w w' n base (acc++[row]) l':=by
 have a:Fr (fun k=>Q k/\some k≠l.ownBlock) W w':=⟨hg.os,hg.tape,hg.output,hg.size,fun k hk hp=>hg.block k hk hp.2⟩;have b:∀k,k<W.heap.size->(Q k/\some k≠l.ownBlock)->(Q k/\some k≠l'.ownBlock):=by
  intro k hk hp;refine⟨hp.1,fun e=>?_⟩;rcases hat with q|q
  ·rw[q] at e;exact hp.2 e
  ·rw[q] at e;have:=Ae5 e;omega
 exact⟨⟨vs++[v],by rw[List.length_append];exact ho',(ha.app hx).fr a b⟩,⟨hg.os.trans hl.os,hg.tape.trans hl.tape,hg.output.trans hl.output,Ae0 hl.size hg.size,fun j hj=>(hg.block j (Ad8 hj hl.size) (fun e=>by have:=(Ix ho e.symm).1;omega)).trans (hl.block j hj)⟩⟩
theorem Gv {w:World}{base:Nat}{e:TypeId}{sl:Value}{n:Nat}{vs:List Value}(h:w.ownsRow base e 1 sl n vs):∃a c,sl=.slice a n c/\n<=c/\(n=0\/∃g,a=some ⟨g,0,none⟩/\base<=g/\g<w.heap.size/\∀j u,vs[j]?=some u->w.cell? ⟨g,j,none⟩=some u):=by
 have d:=h;rcases h.2 with⟨rfl,i⟩|⟨g,b,f,rfl,m,k,l,_⟩
 ·subst i;exact⟨none,0,rfl,Ad9 _,.inl rfl⟩
 ·refine⟨some ⟨g,0,none⟩,b,rfl,l,.inr ⟨g,rfl,m,Aa k,fun j u hu=>?_⟩⟩;rw[d.cellAt j (by have:=(List.getElem?_eq_some_iff.1 hu).1;have:=d.1;omega)];exact hu
/-- a slice of slices -/
def En (P:Nat->Prop)(w:World)(n:Nat)(rows:List (List (AV n)))(a:Option Addr):Prop :=
 rows.length=0\/∃b off,a=some ⟨b,off,none⟩/\b<w.heap.size/\P b/\∀(i:Nat)(row:List (AV n)),rows[i]?=some row->∃v,w.cell? ⟨b,off+i,none⟩=some v/\Oq P w n row v
def Bb {α:Type}(rows:List (List α))(es:List α):List (List α):=rows.flatMap fun row=>es.map fun x=>row++[x]
theorem Sr (W:World){ops:Array Oper}{o:Oper}{a:Act}{K:Act->World->Prop}{Q:Exit->Act->World->Prop}{E:Prop}(hgd:o.guard=none)(s x:Operand)
  (ho:o.op=.call { callee:=.builtin .append,args:=#[s,x],argTypes:=#[47,47] })
  (ao:Option Addr) (q:Nat) (vs:List Value) (hs:a.eval s=.slice ao q q) (hS:Src W ao q vs) (hn:ao=none->q=0) (g c:Nat) (v:Value) (hx:a.eval x=.slice (some ⟨g,0,none⟩) 1 c) (hc:W.cell? ⟨g,0,none⟩=some v) (h1:v.oneCell'=true) (hq:q<=4294967296)
  (h:∀v' w',w'.ownsRow W.heap.size 23 1 v' (q+1) (vs++[v])->W.grownBy w' none->K (a.put o.dst v') w'):if Region.wanted o (yielded ops a.tmps)=true then Oper.wp prog o a W K Q else E:=by
 obtain⟨r,i,k,l,m⟩:=info_parts Gn;obtain⟨p,-,hS⟩:=hS;refine step_append_grows hgd s x 47 ho 23 r _ 1 16 underlying47 i k l m rfl (by decide) ao q q vs hs (fun e=>⟨hn e,hn e⟩) (by rw[p,Nat.mul_one]) ?_ _ 1 c [v] hx rfl ?_ (by simp[h1]) (by omega) (by unfold maxLen;omega) (by omega) h
 ·intro b e j u d;rcases hS with y|⟨w,t,n,_,f⟩
  ·have:=(List.getElem?_eq_some_iff.1 d).1;omega
  ·rw[n] at e;cases e
   rw[Addr.add_lit];exact f j u d
 ·intro j u d;cases j with
  | zero=>simp at d;subst d;rw[Addr.add_lit];exact hc
  | succ j=>simp at d
theorem Ss (W:World){ops:Array Oper}{o:Oper}{a:Act}{K:Act->World->Prop}{Q:Exit->Act->World->Prop}{E:Prop}(hgd:o.guard=none)(s x:Operand)
  (ho:o.op=.call { callee:=.builtin .append,args:=#[s,x],argTypes:=#[286,286] })
  (base:Nat) (v:Value) (n:Nat) (xs:List Value) (hs:a.eval s=v) (hown:W.ownsRow base 47 1 v n xs) (g c:Nat) (u:Value) (hx:a.eval x=.slice (some ⟨g,0,none⟩) 1 c) (hc:W.cell? ⟨g,0,none⟩=some u) (h1:u.oneCell'=true) (hn:n<=1099512676352) (hbase:base<=W.heap.size)
  (h:∀v' w',w'.ownsRow base 47 1 v' (n+1) (xs++[u])->W.grownBy w' v.ownBlock->(v'.ownBlock=v.ownBlock\/v'.ownBlock=some W.heap.size)->K (a.put o.dst v') w'):if Region.wanted o (yielded ops a.tmps)=true then Oper.wp prog o a W K Q else E:=by
 obtain⟨t,d,i,k,l⟩:=info_parts lX;have r:prog.underlying 286=some (.slice 47):=by kernel_rfl
 refine step_append_lies _ hgd s x 286 ho base 47 t _ 1 24 r d i k l rfl (by decide) v n xs hs hown _ 1 c [u] hx rfl ?_ (by simp[h1]) (by decide) (by unfold maxLen;omega) (by omega) hbase _ rfl ?_
 ·intro j y e;cases j with
  | zero=>simp at e;subst e;rw[Addr.add_lit];exact hc
  | succ j=>simp at e
 ·intro w m w' f p b _;exact h _ w' f p (b.elim (fun q=>.inl q.symm) (fun q=>.inr (by rw[q];rfl)))
theorem M3 {α:Type}(es:List α):∀rows:List (List α),(Bb rows es).length=rows.length*es.length
 | []=>by simp[Bb]
 | a::l=>by
  have:=M3 es l;simp only[Bb,List.flatMap_cons,List.length_append,List.length_map,List.length_cons] at this |-;rw[this,Nat.add_mul];omega
theorem Kr.rows {Q:Nat->Prop}{w wr:World}{n base:Nat}{acc:List (List (AV n))}{l:Value}(h:Kr Q w wr n base acc l)(hQ:∀k,base<=k->Q k):∃a c,l=.slice a acc.length c/\acc.length<=c/\En Q wr n acc a:=by
 obtain⟨r,o,f⟩:=h.own;obtain⟨a,c,rfl,j,e⟩:=Gv o;refine⟨a,c,rfl,j,e.imp id ?_⟩;rintro⟨g,rfl,m,d,b⟩;refine⟨g,0,rfl,d,hQ g m,fun i row hi=>?_⟩;obtain⟨v,q,p⟩:=f.2 i row hi;exact⟨v,by rw[Nat.zero_add];exact b i v q,p.fr (Fr.refl _ _) (fun _ _ h=>h.1)⟩
theorem En.fr {P Q:Nat->Prop}{w w':World}(hf:Fr P w w')(hQ:∀k,k<w.heap.size->P k->Q k){n:Nat}{rows:List (List (AV n))}{a:Option Addr}(h:En P w n rows a):En Q w' n rows a:=by
 rcases h with h|⟨b,d,e,c,f,g⟩
 ·exact .inl h
 ·refine .inr ⟨b,d,e,Ad8 c hf.size,hQ b c f,fun i row hi=>?_⟩;obtain⟨v,l,j⟩:=g i row hi;exact⟨v,(World.cell?_of_block (a:=⟨b,d+i,none⟩) (hf.block b c f)).trans l,j.fr hf hQ⟩
theorem kI {P:Nat->Prop}{w W w4:World}{n q:Nat}{row:List (AV n)}{x:AV n}{vs0:List Value}{v l4 u:Value}(hV:Ey P w n row vs0)(hx:Aj P w n x v)(hq:row.length=q)(q9:q<=1048576)(hlow:Below w.heap.size w W)(hg:W.grownBy w4 none)(ho:w4.ownsRow W.heap.size 23 1 l4 (q+1) (vs0++[v]))(hu:∀g,u.ownBlock=some g->w.heap.size<=g/\g<W.heap.size)(hP:∀k,w.heap.size<=k->P k) :
  ∃a4 c4,l4=.slice a4 (q+1) c4/\Oq (fun k=>P k/\some k≠u.ownBlock) w4 n (row++[x]) l4:=by
 have b:=(Below.refl _ _).grown hg (Ad9 _) (fun k hk=>by simp at hk);have a:Ey (fun k=>P k/\some k≠_) w4 n _ _:=(hV.app (show Ey P w n [x] [v] from⟨rfl,fun i y hy=>by
  cases i with
  | zero=>simp at hy;subst hy;exact⟨v,rfl,hx⟩
  | succ i=>simp at hy⟩)).fr (Fr.below (hlow.trans (b.mono hlow.size))) (fun k hk hp=>⟨hp,fun e=>by have:=(hu k e.symm).1;omega⟩)
 obtain⟨a4,c4,rfl,d,c⟩:=Pf (W:=w4) ho a (by omega) (fun k hk=>⟨hP k (Ae0 hlow.size hk),fun e=>by have:=(hu k e.symm).2;omega⟩) rfl;have e:(row++[x]).length=q+1:=by simp[hq]
 exact⟨a4,c4,rfl,a4,c4,by rw[e],by rw[e];exact d,by rw[e];exact c⟩
theorem Xd (n:Nat)(P:Nat->Prop)(w:World)(rows:List (List (AV n)))(es:List (AV n))(a a2:Option Addr)(rc lc r l:Nat)(hr:r=rows.length)(h:En P w n rows a)(hl:Bv P w (Aj P w n) a2 l es)(hm:r*l<1024)(hr9:r<=1048576)(hl9:l<=1048576)(hP:∀k,w.heap.size<=k->P k)(hq9:∀row∈rows,row.length<=1048576) :
  Calls prog 282 #[.slice a r rc,.slice a2 l lc] w fun e w'=>∃b c,e=.returned (.tuple #[.slice b (Bb rows es).length c,.bool true])/\Below w.heap.size w w'/\En P w' n (Bb rows es) b:=by
 obtain⟨i0,b6,c5,c6,c7⟩:=info_parts lX;obtain⟨m,a5⟩:∃m,r*l=m:=⟨_,rfl⟩;have hw:wrap64 ((r:Int)*(l:Int))=(m:Int):=by
  rw[<- Int.natCast_mul,a5];unfold wrap64;omega
 have h4:¬(1024:Int)<=(m:Int):=by omega
 have hu:prog.underlying 286=some (.slice 47):=by kernel_rfl
 obtain⟨w1,ra,oa,ga⟩:=run_make_own w _ 286 47 i0 _ 1 hu b6 c5 c6 .i64 .i64 m (by rw[c7];omega) (by unfold maxLen;omega) (Ad9 _);have G1:Hid (Kr P w w1 n _ [] _):=⟨⟨[],oa,rfl,fun i row h=>by simp at h⟩,((Below.refl _ _).grown ga (Ad9 _) (fun k hk=>by simp at hk))⟩;have HR:Hid (En P w n rows a):=h;have HL:Hid (Bv P w _ a2 l es):=hl;have HP:Hid _:=hP;have Q:Hid (r=rows.length):=hr;clear h hl hP oa ga hr hm a5;have mo:=follows;go_enter func282,ntmps282
 go_wp2_with fail
 clear hw;go_loopw [6,25] (fun sl i wr=>∃k:Nat,k<=r/\i=.int .i64 k/\Hid (Kr P w wr n w.heap.size (Bb (rows.take k) es) sl)) (fun _ i _=>r-(intOf i).toNat)
 case atStart=>exact⟨0,Ae1 _,rfl,G1⟩
 case round =>
  clear G1 ra;obtain⟨k,hk,rfl,B⟩:=hrel;by_cases c0:k<r
  ·have b8:k<rows.length:=by rw[<- Q.out];exact c0
   obtain⟨p0,o0,D,a9,_,Z⟩:=HR.out.resolve_left (by omega);subst D;obtain⟨row,u⟩:∃x,rows[k]?=some x:=⟨_,List.getElem?_eq_getElem b8⟩;obtain⟨v0,b2,c2⟩:=Z k row u;have g0:=(B.out.low.cell (p:=⟨p0,o0+k,none⟩) a9).trans b2;have s0:=Ad8 a9 B.out.low.size;obtain⟨V,c',rfl,z,o⟩:=c2;obtain⟨q,hq⟩:∃q,row.length=q:=⟨_,rfl⟩;rw[hq] at z o g0;have HQ:Hid (row.length=q):=hq;obtain⟨A,S0,V0⟩:=Jf o;have q9:q<=1048576:=by rw[<- hq];exact hq9 row (Ae4 u)
   have S:Hid (Src w V q A):=S0;have U:Hid (Ey P w n row A):=V0;have K:Hid _:=fun W=>tS V q c' W z;have N:Hid (V=none->q=0):=z.2.1;have M:Hid (rows[k]?=some row):=u;have L:Hid (Kr P w wr n w.heap.size (Bb (rows.take k) es++(es.take 0).map (fun x=>row++[x])) u6):=by
    show Kr _ _ _ _ _ _ _;rw[List.take_zero,List.map_nil,List.append_nil];exact B.out
   clear Z b2 u z o S0 V0 hq B;go_wp2_with fail
   go_loopw [6,31] (fun sl i wi=>∃j:Nat,j<=l/\i=.int .i64 j/\Hid (Kr P w wi n w.heap.size (Bb (rows.take k) es++(es.take j).map (fun x=>row++[x])) sl)) (fun _ i _=>l-(intOf i).toNat)
   case atStart=>exact⟨0,Ae1 _,rfl,L⟩
   case round =>
    clear L;obtain⟨j,hj,rfl,f⟩:=hrel;by_cases b7:j<l
    ·have a3:j<es.length:=by rw[<- HL.out.1];exact b7
     obtain⟨p1,o1,D,b0,_,a0⟩:=HL.out.2.2.resolve_left (by omega);subst D;obtain⟨x,E⟩:∃x,es[j]?=some x:=⟨_,List.getElem?_eq_getElem a3⟩;obtain⟨v,b3,y⟩:=a0 j x E;have st:=Ae (y.rep _ _ _).one;have cc:=(y.rep _ _ _).one;have g1:=(f.out.low.cell (p:=⟨p1,o1+j,none⟩) b0).trans b3;have s1:=Ad8 b0 f.out.low.size;have R:Hid (Aj P w n x v):=y;have d:Hid (Bb (rows.take k) es++(es.take (j+1)).map (fun x=>row++[x])=(Bb (rows.take k) es++(es.take j).map (fun x=>row++[x]))++[row++[x]]):=by
      show _=_;rw[List.take_add_one,E];simp
     have X:(Bb (rows.take k) es++(es.take j).map (fun x=>row++[x])).length<=1099512676352:=by
      rw[List.length_append,M3,List.length_map];have h1:(rows.take k).length<=1048576:=by rw[List.length_take];omega
      have h2:es.length<=1048576:=by rw[<- HL.out.1];exact hl9
      have h3:=Nat.mul_le_mul h1 h2;have h5:(es.take j).length<=1048576:=by rw[List.length_take];omega
      omega
     generalize _++(es.take j).map _=acc at f d X;have J:Hid (Kr P w ((wr.alloc (.cells #[v] 23)).drew.alloc (.cells #[v] 23)) n _ acc u6):=f.out.keep (((Ac.refl wr).alloc _).drew.alloc _).below;have SB:Hid (Src _ V q A):=S.out.below J.out.low;have CB:Hid (((wr.alloc (.cells #[v] 23)).drew.alloc (.cells #[v] 23)).cell? ⟨wr.heap.size+1,0,none⟩=some v):=Ab (Af (by simp)) 0;clear a0 b3 y E f;go_wp2_with fail
     have T:Hid (∀g,u6.ownBlock=some g->w.heap.size<=g/\g<((wr.alloc (.cells #[v] 23)).drew.alloc (.cells #[v] 23)).heap.size):=by
      obtain⟨c8,c1,-⟩:=J.out.own;exact fun g hg=>Ix c1 hg
     go_region_law (first
      | (
       refine Sr _ rfl (.tmp 37) (.tmp 39) rfl V q A (by simp[Act.eval]) SB.out N.out (wr.heap.size+1) 1 v (by simp[Act.eval]) CB.out cc (by omega) ?_;intro l4 G a6 t;obtain⟨H,I,rfl,b1⟩:=kI U.out R.out HQ.out q9 J.out.low t a6 T.out HP.out;have O:Hid (Oq _ (G.alloc (.cells #[.slice H (q+1) I] 47)) n _ _):=b1.fr (Fr.grew ((Ac.refl G).alloc _)) (fun _ _ h=>h);have GC:Hid (Kr P w (G.alloc (.cells #[.slice H (q+1) I] 47)) n _ acc u6):=J.out.keep (((Below.refl _ _).grown t (Ad9 _) (fun k hk=>by simp at hk)).trans ((((Ac.refl G).alloc _).below).mono t.size));have CC:Hid ((G.alloc (.cells #[.slice H (q+1) I] 47)).cell? _=some (.slice H (q+1) I)):=Ab (Af rfl) 0;obtain⟨F,a8,Y⟩:=GC.out.own;have OC:Hid ((G.alloc (.cells #[.slice H (q+1) I] 47)).ownsRow _ 47 1 u6 _ F):=a8;have AC:Hid (Rows _ _ n acc F):=Y;clear a8 Y b1 a6 t)
      | (
       refine Ss _ rfl (.tmp 35) (.tmp 41) rfl w.heap.size u6 acc.length F (by simp[Act.eval]) OC.out G.heap.size 1 (.slice H (q+1) I) (by simp[Act.eval]) CC.out rfl X GC.out.low.size ?_;intro l5 w5 a7 a1 C;have HN:Hid _:=Kr.push GC.out.low (Ad9 _) AC.out OC.out a7 a1 C O.out;clear a7 a1 C)
      | (go_simp;go_wp2_with (go_at_call 311;refine(K.out _).mono ?_;rintro e w' ⟨rfl,c3⟩;cases c3)))
     all_goals rw[<- d.out] at HN
     all_goals clear OC AC CC GC O J SB CB T R
     all_goals go_wp2_with fail
     all_goals go_roundw
     all_goals first|exact⟨j+1,by omega,by go_num,HN⟩|(simp[intOf];omega)
    ·obtain rfl:j=l:=by omega
     have d:Hid (Bb (rows.take k) es++(es.take j).map (fun x=>row++[x])=Bb (rows.take (k+1)) es):=by
      show _=_;rw[List.take_of_length_le (l:=es) (by rw[<- HL.out.1];omega),List.take_add_one,M.out,Option.toList_some];simp[Bb]
     rw[d.out] at f;clear d S U K N M HQ;go_wp2_with fail
     go_roundw
     case rel=>exact⟨k+1,by omega,by go_num,f⟩
     case measure=>simp[intOf];omega
  ·obtain rfl:k=r:=by omega
   have d:Hid (Bb (rows.take k) es=Bb rows es):=by
    show _=_;rw[List.take_of_length_le (by rw[<- Q.out];omega)]
   rw[d.out] at B;obtain⟨b9,c9,rfl,-,s⟩:=B.out.rows HP.out;have b4:Hid _:=B.out.low;have b5:Hid (En P wr n _ b9):=s;clear d B s;go_wp2_with fail
   exact Ae2 (by simp[results,results282,go_sem]) rfl ⟨b9,c9,rfl,b4.out,b5.out⟩
/-- a row of values that grows while they are made; what they lie in is not the row's own block -/
structure Iy (Q:Nat->Prop)(w wr:World)(n base:Nat)(acc:List (AV n))(l:Value):Prop where
 own:∃vs:List Value,wr.ownsRow base 23 1 l acc.length vs/\Ey (fun k=>Q k/\some k≠l.ownBlock) wr n acc vs
 low:Below w.heap.size w wr
theorem Iy.keep {Q:Nat->Prop}{w wr w':World}{n base:Nat}{acc:List (AV n)}{l:Value}(h:Iy Q w wr n base acc l)(hb:Below wr.heap.size wr w'):Iy Q w w' n base acc l:=by
 obtain⟨c,b,a⟩:=h.own;exact⟨⟨c,Kc b hb,a.fr (Fr.below hb) (fun _ _ h=>h)⟩,h.low.trans (hb.mono h.low.size)⟩
theorem Iy.push {Q:Nat->Prop}{w W w':World}{n base:Nat}{acc:List (AV n)}{l l':Value}(hl:Below w.heap.size w W)(hb:w.heap.size<=base){vs:List Value}{v:Value}{x:AV n}(ha:Ey (fun k=>Q k/\some k≠l.ownBlock) W n acc vs)(ho:W.ownsRow base 23 1 l acc.length vs)(ho':w'.ownsRow base 23 1 l' (acc.length+1) (vs++[v]))(hg:W.grownBy w' l.ownBlock)(hat:l'.ownBlock=l.ownBlock\/l'.ownBlock=some W.heap.size)(hx:Aj (fun k=>Q k/\some k≠l.ownBlock) W n x v):Iy Q w w' n base (acc++[x]) l':=by
 have b:Fr (fun k=>Q k/\some k≠l.ownBlock) W w':=⟨hg.os,hg.tape,hg.output,hg.size,fun k hk hp=>hg.block k hk hp.2⟩;have c:∀k,k<W.heap.size->(Q k/\some k≠l.ownBlock)->(Q k/\some k≠l'.ownBlock):=by
  intro k hk hp;refine⟨hp.1,fun e=>?_⟩;rcases hat with q|q
  ·rw[q] at e;exact hp.2 e
  ·rw[q] at e;have:=Ae5 e;omega
 have a:Ey (fun k=>Q k/\some k≠l.ownBlock) W n [x] [v]:=⟨rfl,fun i y hy=>by
  cases i with
  | zero=>simp at hy;subst hy;exact⟨v,rfl,hx⟩
  | succ i=>simp at hy⟩
 exact⟨⟨vs++[v],by rw[List.length_append];exact ho',(ha.app a).fr b c⟩,⟨hg.os.trans hl.os,hg.tape.trans hl.tape,hg.output.trans hl.output,Ae0 hl.size hg.size,fun j hj=>(hg.block j (Ad8 hj hl.size) (fun e=>by have:=(Ix ho e.symm).1;omega)).trans (hl.block j hj)⟩⟩
theorem Iy.row {Q:Nat->Prop}{w wr:World}{n base:Nat}{acc:List (AV n)}{l:Value}(h:Iy Q w wr n base acc l)(hl:acc.length<=4294967296)(hQ:∀k,base<=k->Q k):∃a c,l=.slice a acc.length c/\Gm a acc.length c/\Bv Q wr (Aj Q wr n) a acc.length acc:=by
 obtain⟨e,d,b⟩:=h.own;exact Pf (W:=wr) d (b.fr (Fr.refl _ _) (fun _ _ h=>h.1)) hl hQ rfl
theorem Iy.lt {Q:Nat->Prop}{w wr:World}{n base g:Nat}{acc:List (AV n)}{l:Value}(h:Iy Q w wr n base acc l)(hg:l.ownBlock=some g):base<=g/\g<wr.heap.size:=by
 obtain⟨b,a,-⟩:=h.own;exact Ix a hg
theorem lY {n:Nat}(ks us:List (AV n)):L8 n (fnB n ks us)=!decide (1+wtL (wt n) ks+wtL (wt n) us<=1024):=by
 unfold L8 Gj fnB mkF;split<;>simp_all[Dd,Ar]
theorem xF {n:Nat}(ks us:List (AV n)):L8 n (fnA n ks us)=false:=rfl
theorem zT {n:Nat}(ks us:List (AV n)):wt (n+1) (fnB n ks us)<=1024:=by
 unfold fnB mkF;split
 ·rename_i h
  exact Ae0 (Nat.le_of_eq (Te ks us)) h
 ·exact Ae0 (Nat.le_of_eq rfl) (show 1<=1024 by omega)
theorem Xe {n:Nat}{ks:List (AV n)}{rs:List (List (AV n))}:∀x∈Fv n ks rs,wt (n+1) x<=1024:=by
 intro x a;obtain⟨r,_,rfl⟩:=List.mem_map.1 a;exact zT _ _
theorem Ri {n:Nat}{ks:List (AV n)}{rs:List (List (AV n))}:Qn n ks rs↔(Fv n ks rs).any (L8 n)=false:=by
 unfold Fv;rw[List.any_map,List.any_eq_false];constructor
 ·intro h r a;simp[Function.comp,lY,h r a]
 ·intro h r a;have:=h r a;simpa [Function.comp,lY] using this
theorem xG {n:Nat}{ks bs:List (AV n)}(h:(decide (1024<=wtL (wt (n+1)) (Fv n ks (Ak bs ks.length)))||(Fv n ks (Ak bs ks.length)).any (L8 n))=true):I8 n ks bs=Ar:=by
 unfold I8;split
 ·rename_i hl
  rw[Ri.1 hl,Bool.or_false,decide_eq_true_eq,Rv hl] at h;exact Rw h
 ·rfl
theorem xH {n:Nat}{ks bs:List (AV n)}(h:(decide (1024<=wtL (wt (n+1)) (Fv n ks (Ak bs ks.length)))||(Fv n ks (Ak bs ks.length)).any (L8 n))=false):I8 n ks bs=mkS (wt (n+1)) (Fv n ks (Ak bs ks.length)):=by
 rw[Bool.or_eq_false_iff] at h;have a:=Ri.2 h.2;unfold I8;rw[if_pos a,Rv a];rfl
theorem U0 {P:Nat->Prop}{w wr:World}{n:Nat}{z:AV (n+1)}(hz:z=(Ar:Ag (AV n)))(hl:Below w.heap.size w wr)(hx:wr.heap[w.heap.size]?=some (.cells #[.nilIface] 23 (0,0))) :
  Bd P w (n+1) z (.returned (.agg #[.nilIface])) (wr.setCell ⟨w.heap.size,0,none⟩ .nilIface)/\(wr.setCell ⟨w.heap.size,0,none⟩ .nilIface).cell? ⟨w.heap.size,0,none⟩=some .nilIface:=by
 have E:=A6 hl (show Aj (fun k=>P k/\k≠_) wr (n+1) z _ by rw[hz];exact Gk _ wr n);exact⟨⟨_,rfl,E.1,E.2⟩,Ab (Ai hx 0 _) 0⟩
theorem Xf {P:Nat->Prop}{w w2:World}{m:Nat}{z:AV m}{v:Value}(hl:Below w.heap.size w w2)(hx:w2.heap[w.heap.size]?=some (.cells #[.nilIface] 23 (0,0)))(hr:Aj (fun k=>P k/\k≠w.heap.size) w2 m z v) :
  Bd P w m z (.returned (.agg #[v])) (w2.setCell ⟨w.heap.size,0,none⟩ v)/\(w2.setCell ⟨w.heap.size,0,none⟩ v).cell? ⟨w.heap.size,0,none⟩=some v:=by
 have E:=A6 (P:=P) hl hr;exact⟨⟨_,rfl,E.1,E.2⟩,Ab (Ai hx 0 _) 0⟩
theorem Xg {R:Nat->Prop}{w:World}{n g:Nat}(bs:List (AV n))(h:w.heap[g]?=some (.cells #[.slice none 0 0] 47 (0,0)))(hR:R g):En R w n (Ak bs 0) (some ⟨g,0,none⟩):=by
 refine .inr ⟨g,0,rfl,Aa h,hR,fun i row hi=>?_⟩;cases i with
 | zero =>
  simp[Ak] at hi;subst hi;exact⟨_,by rw[Nat.zero_add];exact Ab h 0,none,0,rfl,⟨Ad9 _,fun _=>rfl,.inl rfl⟩,rfl,by simp,.inl rfl⟩
 | succ i=>simp[Ak] at hi
theorem bS (n:Nat)(P:Nat->Prop)(w:World)(d1 d2:Nat)(ks bs:List (AV n))(h1:Dy P w (Aj P w n) (wt n) d1 ks)(h2:Dy P w (Aj P w n) (wt n) d2 bs)(hP:∀k,w.heap.size<=k->P k)(hw1:1+wtL (wt n) ks<=1024)(hw2:1+wtL (wt n) bs<=1024)(hlk:ks.length<=1024)(hlb:bs.length<=1024) :
  Calls prog 227 #[.pointer (some ⟨d1,0,none⟩),.pointer (some ⟨d2,0,none⟩)] w (Bd P w (n+2) (I8 n ks bs)):=by
 have a5:Hid (Dy P w _ (wt n) d1 ks):=h1;obtain⟨_,a1,g,d5,e1,r1⟩:=h1;obtain⟨_,a2,d,B,e2,r2⟩:=h2;have c1:=Ab e1 0;have z1:=Aa e1;have c2:=Ab e2 0;have z2:=Aa e2;have d7:g<=1024:=by rw[r1.1];exact hlk
 have d8:d<=1024:=by rw[r2.1];exact hlb
 have F:Hid (g=ks.length):=r1.1;have Z:Hid (d=bs.length):=r2.1;have b4:Hid (Bv P w _ a2 d bs):=r2;have HP:Hid _:=hP;have L:Hid (∀x∈bs,wt n x<=1024):=fun x hx=>by have:=Ru (wt n) hx;omega
 have b5:Hid _:=hw1;have HM:Hid (∀(W:World)(k r c:Nat)(a:_),_->w.heap.size<W.heap.size->r=_->r<=1048576->k<=1048576->_->r*d<1024->Calls _ 282 #[_,_] W fun e w'=>∃b c,e=.returned (.tuple #[.slice b (Ak bs (k+1)).length c,_])/\_/\En _ w' n (Ak bs (k+1)) b):=fun W k r c a hW hz hr hr9 hk hrows hm=>Xd n (fun k=>P k/\k≠w.heap.size) W _ bs a a2 c B r d hr hrows (b4.out.fr (Fr.below hW) (fun x v=>Aj.fr (Fr.below hW) (fun k hk hp=>⟨hp,by omega⟩) n x v) (fun k hk hp=>⟨hp,by omega⟩)) hm hr9 (by omega) (fun k hk=>⟨hP k (by have:=hW.size;omega),by omega⟩) (fun row hrow=>by rw[Co k row hrow];exact hk);clear e1 e2 r1 r2 hP hw1 hw2 hlk hlb;have mo:=follows;go_enter func227,ntmps227
 go_wp2_with fail
 have G0:Hid (Below _ w ((w.alloc (.cells #[.nilIface] 23)).alloc (.cells #[.slice none 0 0] 47))):=(((Ac.refl w).alloc _).alloc _).below;have X0:Hid (((w.alloc (.cells #[.nilIface] 23)).alloc (.cells #[.slice none 0 0] 47)).heap[w.heap.size]?=_):=Ac1 ((Ac.refl _).alloc _).below (Af rfl);have R0:Hid (En (fun k=>P k/\k≠w.heap.size) ((w.alloc (.cells #[.nilIface] 23)).alloc _) n _ (some ⟨w.heap.size+1,0,none⟩)):=Xg bs (Af (by simp)) ⟨HP.out _ (by omega),by omega⟩;go_loopw [5,17] (fun rs i wr=>∃(k r c:Nat)(a:Option Addr),k<=g/\i=.int .i64 k/\rs=.slice a r c/\r<=1024/\Hid (r=(Ak bs k).length)/\Hid (En (fun k=>P k/\k≠w.heap.size) wr n (Ak bs k) a)/\Hid (Below w.heap.size w wr)/\Hid (wr.heap[w.heap.size]?=some (.cells #[.nilIface] 23 (0,0)))) (fun _ i _=>g-(intOf i).toNat)
 case atStart=>exact⟨0,1,1,_,Ae1 _,rfl,rfl,by omega,rfl,R0,G0,X0⟩
 case round =>
  clear R0 G0 X0;obtain⟨k,r,c,a,hk,rfl,rfl,hr9,h,A,t,D⟩:=hrel;by_cases c7:k<g
  ·have a6:wr.cell? _=some (.slice a2 d B):=(t.out.cell (p:=⟨d2,0,none⟩) z2).trans c2;have b2:=Ad8 z2 t.out.size;by_cases hm:r*d<1024
   ·have E:Hid (Calls _ 282 #[_,_] wr _):=HM.out wr k r c a t.out (Aa D.out) h.out (by omega) (by omega) A.out hm;have M:Hid ((Ak bs (k+1)).length<=1024):=by
     show _<=_;rw[Fu,<- h.out,<- Z.out];omega
    generalize hN:(Ak bs (k+1)).length=N at E M;have O:Hid _:=hN.symm;have b8:N<=1024:=M.out;clear hN HM A h M hm;go_wp2_with (go_at_call 282;refine E.out.mono ?_)
    rintro e w' ⟨b',c',rfl,hb,hrows⟩;have L:Hid _:=t.out.trans (hb.mono t.out.size);have b6:Hid _:=Ac1 hb D.out;have a3:Hid (En _ w' n _ b'):=hrows;clear hb hrows t D a6 b2 E;go_wp2_with fail
    go_roundw
    case rel=>exact⟨k+1,N,c',b',by omega,by go_num,rfl,b8,O,a3,L,b6⟩
    case measure=>simp[intOf];omega
   ·have E:Hid (Calls _ 282 #[_,_] wr _):=Ub a a2 r c d B wr (by omega) (by omega) (by omega);have H:Hid _:=Yk n (by rw[<- F.out];exact c7) (by rw[<- h.out,<- Z.out];omega);have y:=U0 (P:=P) H.out t.out D.out;have z:Hid (Bd P w (n+2) _ _ _):=y.1;have ke:=y.2;have r0:=Ab D.out 0;have s0:=Ad D.out 0;have zw:=Aa D.out;clear HM A h H y hm;go_wp2_with (go_at_call 282;refine E.out.mono ?_)
    rintro e w' ⟨rfl,c8⟩;subst c8;clear E a6 b2;go_wp2_with fail
    exact Ae2 (by simp[results,results227,go_sem,ke]) rfl z.out
  ·obtain rfl:k=g:=by omega
   obtain⟨W1,b9⟩:∃W1,W1=wr:=⟨_,rfl⟩;subst b9;clear HM c2 z2;go_wp2_with fail
   obtain⟨i0,c4,d0,d3,d4⟩:=info_parts Gn;go_loopw [8,35] (fun l i wr=>∃j:Nat,j<=r/\i=.int .i64 j/\Hid (Iy (fun k=>P k/\k≠w.heap.size) W1 wr (n+1) W1.heap.size (Fv n ks ((Ak bs k).take j)) l)) (fun _ i _=>r-(intOf i).toNat)
   case atStart=>exact⟨0,Ae1 _,rfl,⟨⟨[],World.ownsRow_nil _ _ _ _,rfl,fun i x hx=>by simp[Fv] at hx⟩,Below.refl _ _⟩⟩
   case round =>
    obtain⟨j,hj,rfl,f⟩:=hrel;by_cases c6:j<r
    ·have c5:j<(Ak bs k).length:=by rw[<- h.out];exact c6
     obtain⟨p0,o0,c0,b0,_,a7⟩:=A.out.resolve_left (by omega);subst c0;obtain⟨row,C⟩:∃x,(Ak bs k)[j]?=some x:=⟨_,List.getElem?_eq_getElem c5⟩;obtain⟨v0,V,a',c',rfl,U,hrow⟩:=a7 j row C;have T:=Co k row (Ae4 C);have a0:Hid _:=Ae4 C;rw[T] at U hrow V;have g0:=(f.out.low.cell (p:=⟨p0,o0+j,none⟩) b0).trans V;have s0:=Ad8 b0 f.out.low.size;have G:Hid _:=t.out.trans (f.out.low.mono t.out.size);have d6:=t.out.size;have E:Hid (Calls _ 283 #[_,_] wr _) :=
      E4 n (fun k=>_/\some k≠_) wr d1 a' k c' ks row
       (a5.out.fr (Fr.below G.out) (fun x v=>Aj.fr (Fr.below G.out) (fun k hk hp=>⟨⟨hp,by omega⟩,fun e=>by have:=(f.out.lt e.symm).1;omega⟩) n x v) (fun k hk hp=>⟨⟨hp,by omega⟩,fun e=>by have:=(f.out.lt e.symm).1;omega⟩))
       (hrow.fr (Fr.below f.out.low) (fun x v=>Aj.fr (Fr.below f.out.low) (fun k hk hp=>⟨hp,fun e=>by have:=(f.out.lt e.symm).1;omega⟩) n x v) (fun k hk hp=>⟨hp,fun e=>by have:=(f.out.lt e.symm).1;omega⟩))
       (fun k hk=>⟨⟨HP.out k (by have:=G.out.size;omega),by have:=Aa D.out;have:=f.out.low.size;omega⟩,fun e=>by have:=(f.out.lt e.symm).2;omega⟩)
       b5.out (fun x hx=>L.out x (Ft k row a0.out x hx)) (by rw[T];exact F.out.symm) U
     have Q:Hid (Fv n ks ((Ak bs k).take (j+1))=Fv n ks ((Ak bs k).take j)++[fnB n ks row]):=by
      show _=_;rw[List.take_add_one,C];simp[Fv]
     have b7:(Fv n ks ((Ak bs k).take j)).length<=1024:=by
      have:=h.out;simp only[Fv,List.length_map,List.length_take];omega
     generalize Fv n ks _=acc at f Q b7;clear a7 V C U hrow T a0 G;go_wp2_with (go_at_call 283;refine E.out.mono ?_)
     rintro e w' ⟨v,rfl,hr,o⟩;have st:=Ae (hr.rep _ _ _).one;have cc:=(hr.rep _ _ _).one;have a4:Hid (Aj _ (w'.alloc (.cells #[v] 23)) (n+1) (fnB n ks row) v):=Aj.keep (Fr.grew ((Ac.refl w').alloc _)) hr;have GA:Hid (Iy _ W1 (w'.alloc (.cells #[v] 23)) (n+1) _ acc u8):=f.out.keep (o.alloc _).below;obtain⟨vs,ho,b1⟩:=GA.out.own;have OW:Hid ((w'.alloc (.cells #[v] 23)).ownsRow _ 23 1 u8 _ vs):=ho;have KV:Hid (Ey _ _ (n+1) acc vs):=b1;have SW:Hid (Src (w'.alloc (.cells #[v] 23)) (some ⟨w'.heap.size,0,none⟩) 1 [v]):=by
      have hn:(w'.alloc (.cells #[v] 23)).heap[w'.heap.size]?=_:=Af rfl;refine⟨rfl,by simp[cc],.inr ⟨_,0,rfl,Aa hn,fun q u hu=>?_⟩⟩;rw[Nat.zero_add,Ab hn q];simpa using hu
     have c3:=Ae0 f.out.low.size o.below.size;clear ho b1 hr o E f g0 s0;go_wp2_with (at_builtin;refine Bz _ rfl _ _ 47 rfl _ 23 i0 _ 16 underlying47 c4 d0 d3 d4 rfl u8 _ vs rfl OW.out _ 1 1 [v] rfl SW.out ?q3 ?q4 ?q5 ?_)
     case q3=>unfold maxLen;omega
     case q4=>omega
     case q5=>first|omega|(simp;omega)
     intro l4 w4 a8 J I;have O:Hid _:=Iy.push GA.out.low (Ad9 _) KV.out OW.out a8 J (by simpa using I) a4.out;rw[<- Q.out] at O;clear a8 J I OW KV SW GA Q a4;go_wp2_with fail
     go_roundw
     case rel=>exact⟨j+1,by omega,by go_num,O⟩
     case measure=>simp[intOf];omega
    ·obtain rfl:j=r:=by omega
     have HK:Hid (Fv n ks ((Ak bs k).take j)=Fv n ks (Ak bs ks.length)):=by
      show _=_;rw[List.take_of_length_le (by rw[<- h.out];omega),F.out]
     have s:(Fv n ks (Ak bs ks.length)).length=j:=by
      have:=h.out;rw[F.out] at this;simp[Fv,this]
     rw[HK.out] at f;obtain⟨a9,c9,rfl,K,m⟩:=f.out.row (by rw[s];omega) (fun k hk=>⟨HP.out k (by have:=t.out.size;omega),by have:=Aa D.out;omega⟩);rw[s] at m K |-;have G:Hid _:=t.out.trans (f.out.low.mono t.out.size);have XW:Hid _:=Ac1 f.out.low D.out;have X:Hid (Calls _ 284 #[_] wr _):=Rh n _ wr a9 j c9 _ m Xe;have R:Hid (Bv _ wr _ a9 j _):=m;have b3:Hid _:=s;clear m K f A HK s a5;cases Y:(decide (1024<=wtL (wt (n+1)) (Fv n ks (Ak bs ks.length)))||(Fv n ks (Ak bs ks.length)).any (L8 n)) with
     | true =>
      rw[Y] at X;have H:Hid _:=xG Y;clear Y;go_wp2_with (go_at_call 284;refine X.out.mono ?_)
      rintro e w' ⟨rfl,o⟩;have L2:Hid _:=G.out.trans (o.below.mono G.out.size);have S:Hid _:=Ac1 o.below XW.out;have y:=U0 (P:=P) H.out L2.out S.out;have z:Hid (Bd P w (n+2) _ _ _):=y.1;have ke:=y.2;have r0:=Ab S.out 0;have s0:=Ad S.out 0;have zw:=Aa S.out;clear y o H X R;go_wp2_with fail
      exact Ae2 (by simp[results,results227,go_sem,ke]) rfl z.out
     | false =>
      rw[Y] at X;have H:Hid _:=xH Y;clear Y;go_wp2_with (go_at_call 284;refine X.out.mono ?_)
      rintro e w' ⟨rfl,o⟩;have L2:Hid _:=G.out.trans (o.below.mono G.out.size);have S:Hid _:=Ac1 o.below XW.out;have O:Hid (Calls prog 220 #[.slice a9 j c9] w' fun e w''=>∃v,e=.returned (.agg #[v])/\Aj (fun k=>P k/\k≠w.heap.size) w'' (n+2) (I8 n ks bs) v/\Ac w' w''):=by
       rw[H.out];exact Dh (n+1) _ w' a9 j c9 _ (R.out.keep (Fr.grew o)) (fun k hk=>⟨HP.out k (by have:=L2.out.size;omega),by have:=Aa S.out;omega⟩) Xe (by rw[b3.out];omega)
      clear o H X R;go_wp2_with (go_at_call 220;refine O.out.mono ?_)
      rintro e w2 ⟨v,rfl,hr,o⟩;have st:=Ae (hr.rep _ _ _).one;have X3:Hid _:=Ac1 o.below S.out;have y:=Xf (L2.out.trans (o.below.mono L2.out.size)) X3.out hr;have z:Hid (Bd P w (n+2) _ _ _):=y.1;have ke:=y.2;have r0:=Ab X3.out 0;have s0:=Ad X3.out 0;have zw:=Aa X3.out;clear y o hr O;go_wp2_with fail
      exact Ae2 (by simp[results,results227,go_sem,ke]) rfl z.out
end Go.Proofs.YtdpeliifdlhhkaaGreatDoor.Sx
