/- What a name begins. -/
import Derived.Test.YtjbfcadeapphbaaGreatDoorK09
import Derived.Deep.AppendLies
import Derived.Deep.LoopGhost
namespace Go.Proofs.YtjbfcadeapphbaaGreatDoor.Sx
set_option maxRecDepth 100000
set_option maxHeartbeats 1000000
open Go.RowKit Go.Sort
attribute [local go_sem] Hx
theorem Uy (a b:Value)(w:World):(Instr.field 108 (.agg #[a,b]) 1).run Tryz.prog w=.ok b w:=by kernel_rfl
attribute [local go_sem] Uy
theorem O4 {P:Nat->Prop}{w:World}{sort:Nat}{op nm:ByteArray}{n:Int}{at':Nat}{pa:Option Addr}{len cap:Nat}{kids:List PX}{x:PX}(hrow:Ca P w (Af P w) pa len kids)(hp:P w.heap.size)(hm:M5 sort op.data.toList nm.data.toList n kids x) :
  Af P (w.alloc (.cells #[.int .i64 (sort:Int),.string op,.string nm,.int .i64 n,.int .i64 (at':Int),.slice pa len cap] 81)) x (.pointer (some ⟨w.heap.size,0,none⟩)) :=
 Af.node ⟨w.heap.size,sort,op,nm,n,at',pa,len,cap,kids,rfl,hp,Aj rfl,Ca.fr ((Fr.refl P w).alloc _) (fun _ _ h=>h.fr ((Fr.refl P w).alloc _) fun _ _ q=>q) (fun _ _ q=>q) hrow,hm⟩
theorem aK {P:Nat->Prop}{w:World}{vs:Array Value}{kids:List PX}{m:Nat}(hm:m=kids.length)(hm4:m<=4294967296)(hk:∀(i:Nat)(x:PX),kids[i]?=some x->∃v,vs[i]?=some v/\Af P w x v)(hp:P w.heap.size) :
  Ca P (w.alloc (.cells vs 37)) (Af P (w.alloc (.cells vs 37))) (some ⟨w.heap.size,0,none⟩) m kids:=by
 have a:(w.alloc (.cells vs 37)).heap[w.heap.size]?=some (.cells vs 37 (0,0)):=Aj rfl;refine⟨hm,hm4,.inr ⟨w.heap.size,0,rfl,Ab a,hp,fun i x q=>?_⟩⟩;obtain⟨v,c,b⟩:=hk i x q;exact⟨v,by rw[Nat.zero_add,Aa a];exact c,b.fr ((Fr.refl P w).alloc _) fun _ _ q=>q⟩
theorem M7 (w:World)(br:Nat)(t:ByteArray)(lo d i:Nat)(x:PX)(v:Value)(ht:t.size<=4000)(hr:RdF w br t i d)(hlo:lo<=w.heap.size)(hbl:br<lo)(hx:Af (fun k=>lo<=k) w x v)
  (r:Except (Nat×Nat) (PX×Nat)) (h:bX (Bo (tkF t.data.toList) (i+1)) (fun n j=>okX (dAt x (Ee n)) j)=some r) :
  Calls Tryz.prog 150 #[.pointer (some ⟨br,0,none⟩),v] w (Rl lo w br t d r):=by
 have F:Hid (Calls _ _ _ _ _):=Co w br t i d hr ht;have y:Hid (∀(W:World)(q:Except (Nat×Nat) (List UInt8×Nat)),_):=fun W q h=>C6 W br t (i+1) d h ht q;have R:=Ab hr;have S:=Aa hr 1;clear hr;have U:=follows;obtain⟨s,rfl,N,O⟩:=hx.ptr;have G:Hid (Af (fun k=>lo<=k) w x _):=hx;clear hx;go_enter Tryz.func150,Tryz.ntmps150
 go_wp2_with (first|(go_at_call 60;refine F.out.mono ?_;rintro e D ⟨rfl,hr,b⟩;have B:Hid (RdF D br t (i+1) d):=hr;have u:Hid (Fr (·≠br) w D):=b;have H:Hid (Af (fun k=>lo<=k) D x (.pointer (some ⟨s,0,none⟩))):=G.out.fr (b.mono fun k q=>by omega) fun _ _ q=>q;clear hr b))
 rcases Aq h with⟨⟨c,p⟩,o,rfl⟩|⟨n,j,o,I⟩
 ·refine(y.out _ _ B.out o).mono ?_;rintro e a ⟨b,rfl⟩;exact⟨rfl,u.out.trans b,rfl⟩
 refine(y.out _ _ B.out o).mono ?_;rintro e a ⟨b,rfl,hr⟩;have J:Hid (RdF a br t j d):=hr;have E:Hid (Fr (·≠br) w a):=u.out.trans b;have K:Hid (Af (fun k=>lo<=k) a x (.pointer (some ⟨s,0,none⟩))):=H.out.fr (b.mono fun k q=>by omega) fun _ _ q=>q;have A:Hid (n=txF t.data.toList (i+1)/\j=i+1+1):=G4 o;have C:(pcF t (i+1)).data.toList=txF t.data.toList (i+1):=A5 t (i+1);have T:=E.out.size;clear b hr o h y F B u H G;go_wp2_with fail
 go_ret
 obtain rfl:r=.ok (dAt x (Ee n),j):=by simp only[okX,Option.some.injEq] at I;exact I.symm
 have L:=O4 (P:=fun k=>lo<=k) (w:=a.alloc (.cells #[.string (pcF t (i+1)),.int .i64 (atF t.data.toList (i+1):Int)] 108)) (sort:=1) (op:=⟨#[]⟩) (nm:=pcF t (i+1)) (n:=0) (at':=atF t.data.toList (i+1)) (pa:=none) (len:=0) (cap:=0) (kids:=[]) (x:=Ee n) (Ih _) (by simp;omega) (.inr (.inl ⟨rfl,by rw[C,<- A.out.1]⟩));have M:=K.out.fr (((Fr.refl _ a).alloc (.cells #[.string (pcF t (i+1)),.int .i64 (atF t.data.toList (i+1):Int)] 108)).alloc (.cells #[.int .i64 ((1:Nat):Int),.string ⟨#[]⟩,.string (pcF t (i+1)),.int .i64 0,.int .i64 (atF t.data.toList (i+1):Int),.slice none 0 0] 81)) (Q:=fun k=>lo<=k) fun _ _ q=>q;have l:=aK (m:=2) (kids:=[x,Ee n]) (vs:=#[.pointer (some ⟨s,0,none⟩),.pointer (some ⟨a.heap.size+1,0,none⟩)]) rfl (by omega) (fun k z q=>by
   match k with
   | 0=>simp at q;subst q;exact⟨_,rfl,M⟩
   | 1=>simp at q;subst q;exact⟨_,rfl,by simpa using L⟩
   | k+2=>simp at q) (by simp;omega)
 have f:=O4 (sort:=12) (op:=⟨#[97,116]⟩) (nm:=⟨#[]⟩) (n:=0) (at':=atF t.data.toList i) (cap:=2) (x:=dAt x (Ee n)) l (by simp;omega) (.inr (.inr (.inr (.inr (.inr (.inr (.inr (.inr (.inr (.inr (.inr ⟨.inr rfl,.inr (.inr (.inr (.inr (.inl ⟨rfl,x,Ee n,rfl,rfl⟩))))⟩)))))))))));have g:=((((Fr.refl (fun _=>True) a).alloc (.cells #[.string (pcF t (i+1)),.int .i64 (atF t.data.toList (i+1):Int)] 108)).alloc (.cells #[.int .i64 ((1:Nat):Int),.string ⟨#[]⟩,.string (pcF t (i+1)),.int .i64 0,.int .i64 (atF t.data.toList (i+1):Int),.slice none 0 0] 81)).alloc (.cells #[.pointer (some ⟨s,0,none⟩),.pointer (some ⟨a.heap.size+1,0,none⟩)] 37)).alloc (.cells #[.int .i64 ((12:Nat):Int),.string ⟨#[97,116]⟩,.string ⟨#[]⟩,.int .i64 0,.int .i64 (atF t.data.toList i:Int),.slice (some ⟨a.heap.size+1+1,0,none⟩) 2 2] 81);refine⟨E.out.trans (g.mono fun _ _=>trivial),⟨_,rfl,?_⟩,RdF.of J.out g trivial⟩;simpa using f
end Go.Proofs.YtjbfcadeapphbaaGreatDoor.Sx
namespace Go.Proofs.YtjbfcadeapphbaaGreatDoor.Sx
set_option maxRecDepth 100000
set_option maxHeartbeats 2000000
open Go.RowKit Go.Sort
theorem dI:(Tryz.prog.info? 37).map (fun i=>(i.zero,i.size,i.bytes))=some (some (.pointer none),1,8):=by kernel_rfl
def LSt (w:World)(lo:Nat)(sl:Value)(es:List PX):Prop :=
 ∃vs,w.ownsRow lo 37 1 sl es.length vs/\∀(i:Nat)(x:PX),es[i]?=some x->∃v,vs[i]?=some v/\Af (fun k=>lo<=k/\sl.ownBlock≠some k) w x v
theorem Lm {w w':World}{base:Nat}{sl:Value}{n:Nat}{vs:List Value}(h:w.ownsRow base 37 1 sl n vs)(hb:∀g,sl.ownBlock=some g->base<=g->g<w.heap.size->w'.heap[g]?=w.heap[g]?):w'.ownsRow base 37 1 sl n vs:=by
 refine⟨h.1,?_⟩;rcases h.2 with f|⟨g,a,b,e,c,d,r⟩
 ·exact .inl f
 ·exact .inr ⟨g,a,b,e,c,(hb g (by rw[e];rfl) c (Ab d)).trans d,r⟩
theorem LSt.nil (w:World)(lo:Nat):LSt w lo (.slice none 0 0) []:=⟨[],World.ownsRow_nil _ _ _ _,fun i x q=>by simp at q⟩
theorem LSt.fr {w w':World}{lo br:Nat}{sl:Value}{es:List PX}(h:LSt w lo sl es)(f:Fr (·≠br) w w')(hbr:br<lo):LSt w' lo sl es:=by
 obtain⟨e,a,b⟩:=h;refine⟨e,Lm a (fun g _ hg hlt=>f.block g hlt (by omega)),fun i x q=>?_⟩;obtain⟨v,d,c⟩:=b i x q;exact⟨v,d,c.fr (f.mono fun k hk=>by have:=hk.1;omega) fun _ _ q=>q⟩
theorem LSt.row {w:World}{lo:Nat}{sl:Value}{es:List PX}(h:LSt w lo sl es)(hl:es.length<=4294967296):∃a len cap,sl=.slice a len cap/\Ca (fun k=>lo<=k) w (Af (fun k=>lo<=k) w) a len es:=by
 obtain⟨r,e,f⟩:=h;rcases e.2 with⟨rfl,o⟩|⟨g,cap,d,rfl,l,c,n,_,p,m⟩
 ·exact⟨none,0,0,rfl,by omega,by omega,.inl rfl⟩
 ·refine⟨_,es.length,cap,rfl,rfl,hl,.inr ⟨g,0,rfl,Ab c,l,fun i x q=>?_⟩⟩;obtain⟨v,b,j⟩:=f i x q;refine⟨v,?_,j.fr (Fr.refl _ _) fun _ _ q=>q.1⟩;rw[Nat.zero_add,Aa c];rw[<- m,List.getElem?_take] at b;split at b
  ·simpa using b
  ·simp at b
theorem LSt.push {w w1 w2:World}{lo g cap:Nat}{es:List PX}{sl:Value}{vs:List Value}{x:PX}{v:Value}
  (h2:∀(i:Nat)(x:PX),es[i]?=some x->∃v,vs[i]?=some v/\Af (fun k=>lo<=k/\sl.ownBlock≠some k) w1 x v) (hvl:vs.length=es.length)
  (hx:Af (fun k=>w.heap.size<=k) w1 x v) (hlo:lo<=w.heap.size) (hsl:∀q,sl.ownBlock=some q->q<w.heap.size)
  (ho:w2.ownsRow lo 37 1 (.slice (some ⟨g,0,none⟩) (es.length+1) cap) (es.length+1) (vs++[v])) (hg:w1.grownBy w2 sl.ownBlock) (hat:sl.ownBlock=some g\/w1.heap.size<=g) :
  LSt w2 lo (.slice (some ⟨g,0,none⟩) (es.length+1) cap) (es++[x]):=by
 have a:∀(z:PX)(q:Value),Af (fun k=>lo<=k/\sl.ownBlock≠some k) w1 z q->Af (fun k=>lo<=k/\(Value.slice (some ⟨g,0,none⟩) (es.length+1) cap).ownBlock≠some k) w2 z q:=by
  intro z q j;have c:Fr (fun k=>lo<=k/\sl.ownBlock≠some k) w1 w2:=⟨hg.os,hg.tape,hg.output,hg.size,fun k hk hp=>hg.block k hk (fun e=>hp.2 e.symm)⟩;refine j.fr c fun k hk hp=>⟨hp.1,fun e=>?_⟩;simp only[Value.ownBlock,Option.some.injEq] at e;subst e;rcases hat with q|q
  ·exact hp.2 q
  ·omega
 refine⟨vs++[v],by rw[List.length_append];exact ho,fun i y q=>?_⟩;by_cases f:i<es.length
 ·rw[List.getElem?_append_left f] at q;obtain⟨l,h,d⟩:=h2 i y q;exact⟨l,by rw[List.getElem?_append_left (by omega)];exact h,a _ _ d⟩
 ·have b:i=es.length:=by
   have:=(List.getElem?_eq_some_iff.1 q).1;simp at this;omega
  subst b;rw[List.getElem?_append_right (Nat.le_refl _)] at q;simp at q;subst q;exact⟨v,by rw[List.getElem?_append_right (by omega)];simp[hvl],a _ _ (hx.fr (Fr.refl _ _) fun k _ hk=>⟨by omega,fun e=>by have:=hsl k e;omega⟩)⟩
def Zd (w:World)(br:Nat)(t:ByteArray)(d:Nat)(r:Except (Nat×Nat) (List PX×Nat))(e:Ending)(w':World):Prop :=
 Fr (·≠br) w w'/\match r with
  | .ok (l,j)=>(∃a len cap,e=.returned (.slice a len cap)/\Ca (fun k=>w.heap.size<=k) w' (Af (fun k=>w.heap.size<=k) w') a len l)/\RdF w' br t j d
  | .error (c,p)=>e=Flt c p
def Xd {β:Type}(K:Nat->Tk)(cl:List UInt8)(l:List β)(j:Nat)(r:Except (Nat×Nat) (List β×Nat)):Prop :=
 ((K j).tx==cl)=true/\r=.ok (l,j+1)\/((K j).tx==cl)=false/\r=.error (1,(K j).at')
theorem O6 {β:Type}{K:Nat->Tk}{cl:List UInt8}{l:List β}{j:Nat}{k:Nat->RX (List β)}{r:Except (Nat×Nat) (List β×Nat)}(hcl:(([44]:List UInt8)==cl)=false)
  (h:(if (K j).tx==cl then okX l (j+1) else Bv K [44] j k)=some r):((K j).tx==[44])=true/\k (j+1)=some r\/((K j).tx==[44])=false/\Xd K cl l j r:=by
 cases c:(K j).tx==[44] with
 | true =>
  have d:(K j).tx=[44]:=by simpa using c
  rw[d,hcl,if_neg (by simp)] at h;rcases Bk h with⟨_,a⟩|⟨a,_⟩
  ·exact .inl ⟨rfl,a⟩
  ·rw[c] at a;simp at a
 | false =>
  refine .inr ⟨rfl,?_⟩;cases b:(K j).tx==cl with
  | true =>
   rw[b,if_pos rfl] at h;simp only[okX,Option.some.injEq] at h;exact .inl ⟨b,h.symm⟩
  | false =>
   rw[b,if_neg (by simp)] at h;rcases Bk h with⟨a,_⟩|⟨_,a⟩
   ·rw[c] at a;simp at a
   ·exact .inr ⟨b,a⟩
def jW (w:World)(br:Nat)(t:ByteArray)(d:Nat)(cl:List UInt8)(r:Except (Nat×Nat) (List PX×Nat))(e:Ending)(w':World):Prop :=
 Fr (·≠br) w w'/\((∃c p,r=.error (c,p)/\e=Flt c p)\/∃l j a len cap,e=.returned (.slice a len cap)/\Ca (fun k=>w.heap.size<=k) w' (Af (fun k=>w.heap.size<=k) w') a len l/\RdF w' br t j d/\Xd (tkF t.data.toList) cl l j r)
theorem LSt.one {w w2:World}{x:PX}{v:Value}(hx:Af (fun k=>w.heap.size<=k) w2 x v)(hz:w.heap.size<=w2.heap.size) :
  LSt (w2.alloc (.cells #[v] 37)) w.heap.size (.slice (some ⟨w2.heap.size,0,none⟩) 1 1) [x]:=by
 have a:(w2.alloc (.cells #[v] 37)).heap[w2.heap.size]?=some (.cells #[v] 37 (0,0)):=Aj rfl;refine⟨[v],⟨rfl,.inr ⟨w2.heap.size,1,#[v],rfl,hz,a,Nat.le_refl _,by unfold maxLen;omega,rfl,rfl⟩⟩,fun i y q=>?_⟩
 match i,q with
 | 0,q =>
  simp at q;subst q;refine⟨v,rfl,hx.fr ((Fr.refl _ w2).alloc _) fun k hk hp=>⟨hp,fun e=>?_⟩⟩;simp only[Value.ownBlock,Option.some.injEq] at e;omega
 | i+1,q=>simp at q
theorem S2 {br:Nat}{t:ByteArray}{self:Nat->Nat->Nat->RX PX}(hS:Ax br t self)(w:World)(d i m:Nat)(cl:List UInt8)(hcl:(([44]:List UInt8)==cl)=false)(hd:d<=24)(ht:t.size<=4000)(hm:m<=1000000)(hI:Bl w br)(hr:RdF w br t i d)
  (r:Except (Nat×Nat) (List PX×Nat)) (h:Bj (tkF t.data.toList) cl (self 0 d) m [] i=some r) :
  Calls Tryz.prog 175 #[.pointer (some ⟨br,0,none⟩),.func (.func 29) #[.pointer (some ⟨br,0,none⟩)] #[]] w (jW w br t d cl r):=by
 have HS:Hid (Ax br t self):=hS;have HI:Hid (Bl w br):=hI;have HK:Hid (∀(W:World)(k:Nat)(b:Bool),_):=fun W k b h=>Fu W br t ⟨#[44]⟩ k d h ht b;have HC:Hid ((([44]:List UInt8)==cl)=false):=hcl;have D:=Ab hr;have HR:Hid (RdF w br t i d):=hr;clear hI hS hr hcl;have mo:=follows;obtain⟨N,a8,b1,b2,b3⟩:∃N,Tryz.prog.info? 37=some N/\N.zero=some (.pointer none)/\N.size=1/\N.bytes=8:=by
  have:=dI;cases hq:Tryz.prog.info? 37 with
  | none=>rw[hq] at this;simp at this
  | some j=>rw[hq] at this;simp at this;exact⟨j,rfl,this.1,this.2.1,this.2.2⟩
 obtain⟨m,rfl⟩:∃m',m=m'+1:=by
  cases m with
  | zero=>exact absurd h (by simp[Bj])
  | succ m=>exact⟨m,rfl⟩
 rw[Bj] at h;go_enter Tryz.func175,Tryz.ntmps175
 go_wp2_with fail
 rcases Aq h with⟨⟨c,p⟩,E,rfl⟩|⟨x,j2,E,hk⟩
 ·refine(Aw HS.out w d _ _ hd HI.out HR.out E).mono ?_;rintro e A ⟨l,rfl⟩;exact⟨rfl,l,.inl ⟨_,_,rfl,rfl⟩⟩
 refine(Aw HS.out w d _ _ hd HI.out HR.out E).mono ?_;rintro e A ⟨l,⟨v,rfl,hv⟩,hr⟩;have R2:Hid (RdF A br t j2 d):=hr;have F2:Hid (Fr (·≠br) w A):=l;have T2:Hid (Af (fun k=>w.heap.size<=k) A x v):=hv;have P2:Hid (_=some r):=hk;have K:=l.size;clear l hr E hv hk h HR;obtain⟨bx,rfl,-,-⟩:=T2.out.ptr;go_wp2_with fail
 have L3:Hid (LSt (A.alloc (.cells #[.pointer (some ⟨bx,0,none⟩)] 37)) w.heap.size (.slice (some ⟨A.heap.size,0,none⟩) 1 1) [x]):=LSt.one T2.out K;have F3:Hid (Fr (·≠br) w (A.alloc (.cells #[.pointer (some ⟨bx,0,none⟩)] 37))):=F2.out.alloc _;have R3:Hid (RdF (A.alloc (.cells #[.pointer (some ⟨bx,0,none⟩)] 37)) br t j2 d):=RdF.of R2.out ((Fr.refl (fun _=>True) A).alloc _) trivial;clear F2 R2 T2 K;generalize A.alloc (.cells #[.pointer (some ⟨bx,0,none⟩)] 37)=w3 at L3 F3 R3 |-;generalize a5:Value.slice (some ⟨A.heap.size,0,none⟩) 1 1=s5 at L3 |-;clear a5;go_loopg [5] (m) (fun f s5 wr=>∃(j:Nat)(a:List PX),a.length+f<=1000000/\Hid (RdF wr br t j d)/\Hid (LSt wr w.heap.size s5 a)/\Hid ((if ((tkF t.data.toList) j).tx==cl then okX a (j+1) else Bv (tkF t.data.toList) [44] j fun j=>Bj (tkF t.data.toList) cl (self 0 d) f a j)=some r)/\Hid (Fr (·≠br) w wr))
 case atStart=>exact⟨j2,[x],by simp;omega,R3,L3,P2,F3⟩
 case round =>
  clear R3 L3 P2 F3;obtain⟨j,a,b5,R1,L1,P1,F1⟩:=hrel;rcases O6 HC.out P1.out with⟨X,hp⟩|⟨X,hp⟩
  case inr =>
   have P:Hid (Xd (tkF t.data.toList) cl a j r):=hp;have C:Hid (Calls _ _ _ _ _):=HK.out wr j false R1.out X;clear X hp P1 R1;go_wp2_with (go_at_call 112;refine C.out.mono ?_;rintro e s ⟨rfl,hr,l⟩;have T:Hid (RdF s br t j d):=hr;have F:Hid (Fr (·≠br) w s):=F1.out.trans l;have R:Hid (LSt s w.heap.size _ a):=L1.out.fr l D;clear hr l)
   go_ret
   obtain⟨a4,l4,c4,Z,I⟩:=R.out.row (by omega);exact⟨F.out,.inr ⟨a,j,a4,l4,c4,by rw[Z];rfl,I,T.out,P.out⟩⟩
  have C:Hid (Calls _ _ _ _ _):=HK.out wr j true R1.out X;have P:Hid (Bj (tkF t.data.toList) cl (self 0 d) gk a (j+1)=some r):=hp;clear X hp P1 R1;obtain⟨f,rfl⟩:∃f,gk=f+1:=by
   cases gk with
   | zero=>exact absurd P.out (by simp[Bj])
   | succ f=>exact⟨f,rfl⟩
  go_wp2_with (go_at_call 112;refine C.out.mono ?_;rintro e s ⟨rfl,hr,l⟩;have T:Hid (RdF s br t (j+1) d):=hr;have F:Hid (Fr (·≠br) w s):=F1.out.trans l;have R:Hid (LSt s w.heap.size u5 a):=L1.out.fr l D;clear hr l)
  have hp:=P.out;rw[Bj] at hp;clear P C L1 F1;rcases Aq hp with⟨⟨c,p⟩,E,rfl⟩|⟨y,j3,E,hk⟩
  ·refine(Aw HS.out s d _ _ hd (HI.out.fr F.out) T.out E).mono ?_;rintro e B ⟨l,rfl⟩;exact⟨rfl,F.out.trans l,.inl ⟨_,_,rfl,rfl⟩⟩
  refine(Aw HS.out s d _ _ hd (HI.out.fr F.out) T.out E).mono ?_;rintro e B ⟨l,⟨v,rfl,hv⟩,hr⟩;have b0:=F.out.size;have R5:Hid (RdF B br t j3 d):=hr;have G:Hid (Fr (·≠br) w B):=F.out.trans l;have T5:Hid (Af (fun k=>s.heap.size<=k) B y v):=hv;have P5:Hid (_=some r):=hk;have L5:=R.out.fr l D;have Y:∀q,u5.ownBlock=some q->q<s.heap.size:=by
   obtain⟨vs,h1,-⟩:=R.out;intro q hq;exact(h1.lt q hq).2
  obtain⟨vs,M,h2⟩:=L5;have a2:vs.length=a.length:=by have:=M.1;omega
  have HO:Hid (B.ownsRow w.heap.size 37 1 u5 a.length vs):=M;have H2:Hid (∀(i:Nat)(x:PX),a[i]?=some x->_):=h2;have Q:Hid (∀q,u5.ownBlock=some q->q<s.heap.size):=Y;have K:=G.out.size;have b6:=l.size;clear l hr E hv hk M h2 Y T F R hp;obtain⟨H,rfl,-,-⟩:=T5.out.ptr;have O:Hid ((B.alloc (.cells #[.pointer (some ⟨H,0,none⟩)] 37)).ownsRow w.heap.size 37 1 u5 a.length vs):=HO.out.alloc _;go_wp2_with (at_builtin;refine wpList_append_lies _ rfl _ _ 79 rfl _ 37 N _ 1 8 Tryz.underlying79 a8 b1 b2 b3 rfl (by decide) u5 _ vs rfl O.out _ 1 1 [.pointer (some ⟨H,0,none⟩)] rfl rfl ?q1 ?q2 (by decide) ?q3 ?q4 ?q5 (B.heap.size+1) ?q6 ?_)
  case q1 =>
   intro k u hk
   match k,hk with
   | 0,hk=>simp at hk;subst hk;simp[Addr.add]
   | k+1,hk=>simp at hk
  case q2 =>
   intro u hu;simp only[List.mem_cons,List.not_mem_nil,or_false] at hu;subst hu;rfl
  case q3=>unfold maxLen;omega
  case q4=>omega
  case q5=>simp;omega
  case q6=>simp
  intro g U w6 M L V a9;have o:B.grownBy w6 u5.ownBlock:=by
   have a1:=World.grownBy_alloc B (.cells #[.pointer (some ⟨H,0,none⟩)] 37) u5.ownBlock;refine⟨L.os,L.tape,L.output,?_,fun k hk hne=>?_⟩
   ·have:=L.size;simp at this;omega
   ·rw[L.block k (by simp;omega) hne,a1.block k hk hne]
  have S:Hid (LSt w6 w.heap.size (.slice (some ⟨g,0,none⟩) (a.length+1) U) (a++[y])):=LSt.push H2.out a2 T5.out b0 Q.out M o (by rcases V with q|q;exact .inl q;exact .inr (by omega));have n:Fr (fun k=>u5.ownBlock≠some k) B w6:=⟨o.os,o.tape,o.output,o.size,fun k hk hp=>o.block k hk (fun e=>hp e.symm)⟩;have z:∀k,k<w.heap.size->u5.ownBlock≠some k:=fun k hk e=>by have:=(HO.out.lt k e).1;omega
  have F6:Hid (Fr (·≠br) w w6):=⟨n.os.trans G.out.os,n.tape.trans G.out.tape,n.output.trans G.out.output,Nat.le_trans G.out.size n.size,fun k hk hq=>(n.block k (by omega) (z k hk)).trans (G.out.block k hk hq)⟩;have R6:Hid (RdF w6 br t j3 d):=RdF.of R5.out n (z br D);clear M L V a9 o n z H2 HO Q O T5 R5 G;have b4:a.length+1+f<=1000000:=by omega
  generalize hA:a++[y]=acc2 at S P5;have a3:acc2.length=a.length+1:=by rw[<- hA];simp
  clear hA;rw[<- a3] at S |-;generalize a7:Value.slice (some ⟨g,0,none⟩) acc2.length U=sl at S |-;clear a7 a2;obtain⟨a6,l6,c6,a0,J⟩:=S.out.row (by omega);clear J;subst a0;go_wp2_with fail
  go_roundg f
  case measure=>omega
  case rel=>exact⟨j3,acc2,by omega,R6,S,P5,F6⟩
theorem Rm {br:Nat}{t:ByteArray}{self:Nat->Nat->Nat->RX PX}(hS:Ax br t self)(w:World)(d i m:Nat)(cl:ByteArray)(hcl:(([44]:List UInt8)==cl.data.toList)=false)(hd:d<=24)(ht:t.size<=4000)(hm:m<=1000000)(hI:Bl w br)(hr:RdF w br t i d)
  (r:Except (Nat×Nat) (List PX×Nat)) (h:Bj (tkF t.data.toList) cl.data.toList (self 0 d) m [] i=some r) :
  Calls Tryz.prog 168 #[.pointer (some ⟨br,0,none⟩),.func (.func 29) #[.pointer (some ⟨br,0,none⟩)] #[],.string cl] w (Zd w br t d r):=by
 have C:Hid (Calls _ _ _ _ _):=S2 hS w d i m cl.data.toList hcl hd ht hm hI hr r h;have y:Hid (∀(W:World)(k:Nat)(b:Bool),_):=fun W k b h=>Cj W br t cl k d h ht b;have I:=Ab hr;clear hI hS hr h hcl;have J:=follows;go_enter Tryz.func168,Tryz.ntmps168
 go_wp2_with fail
 refine C.out.mono ?_;rintro e s ⟨f,⟨c,p,rfl,rfl⟩|⟨l,j,a,n,A,rfl,g,hr,o⟩⟩
 ·exact⟨rfl,f,rfl⟩
 have z:Hid (RdF s br t j d):=hr;have x:Hid (Fr (·≠br) w s):=f;have D:Hid (Ca (fun k=>w.heap.size<=k) s (Af (fun k=>w.heap.size<=k) s) a n l):=g;clear f hr g C;rcases o with⟨v,o⟩|⟨v,o⟩
 case inr =>
  obtain rfl:=o;go_wp2_with fail
  refine(y.out s j false z.out v).mono ?_;rintro e u ⟨f,⟨q,-⟩|⟨-,rfl⟩⟩
  ·simp at q
  ·exact⟨rfl,x.out.trans f,rfl⟩
 have F:Hid (r=.ok (l,j+1)):=o;have B:Hid (((tkF t.data.toList j).tx==cl.data.toList)=true):=v;clear o v;go_wp2_with fail
 refine(y.out s j true z.out B.out).mono ?_;rintro e u ⟨f,⟨-,rfl,hr⟩|⟨q,-⟩⟩
 case inr=>simp at q
 have G:Hid (RdF u br t (j+1) d):=hr;have E:Hid (Fr (·≠br) w u):=x.out.trans f;have H:Hid (Ca (fun k=>w.heap.size<=k) u (Af (fun k=>w.heap.size<=k) u) a n l):=Ca.fr (f.mono fun k q=>by omega) (fun _ _ h=>h.fr (f.mono fun k q=>by omega) fun _ _ q=>q) (fun _ _ q=>q) D.out;clear f hr z x D y B;go_wp2_with fail
 go_ret
 rw[F.out];exact⟨E.out,⟨a,n,A,rfl,H.out⟩,G.out⟩
theorem Ln {br:Nat}{t:ByteArray}{self:Nat->Nat->Nat->RX PX}(hS:Ax br t self)(w:World)(d i m:Nat)(cl:ByteArray)(hcl:(([44]:List UInt8)==cl.data.toList)=false)(hd:d<=24)(ht:t.size<=4000)(hm:m<=1000000)(hI:Bl w br)(hr:RdF w br t i d)
  (r:Except (Nat×Nat) (List PX×Nat)) (h:Km (tkF t.data.toList) cl.data.toList (self 0 d) m i=some r) :
  Calls Tryz.prog 163 #[.pointer (some ⟨br,0,none⟩),.string cl] w (Zd w br t d r):=by
 have D:Hid (Ax br t self):=hS;have A:Hid (Bl w br):=hI;have y:Hid (∀(b:Bool),_):=fun b=>Fu w br t cl i d hr ht b;clear hI hS hr;have G:=follows;unfold Km at h;cases o:(tkF t.data.toList i).tx==cl.data.toList with
 | true =>
  rw[o,if_pos rfl] at h;have C:Hid (r=.ok ([],i+1)):=by simp only[okX,Option.some.injEq] at h;exact h.symm
  have f:Hid (Calls _ _ _ _ _):=y.out true o;clear h o y;go_enter Tryz.func163,Tryz.ntmps163
  go_wp2_with (go_at_call 112;refine f.out.mono ?_;rintro e s ⟨rfl,hr,g⟩;have z:Hid (RdF s br t (i+1) d):=hr;have n:Hid (Fr (·≠br) w s):=g;clear hr g)
  go_ret
  rw[C.out];exact⟨n.out,⟨none,0,0,rfl,Ih _⟩,z.out⟩
 | false =>
  rw[o,if_neg (by simp)] at h;have f:Hid (Calls _ _ _ _ _):=y.out false o;clear o y;go_enter Tryz.func163,Tryz.ntmps163
  go_wp2_with (go_at_call 112;refine f.out.mono ?_;rintro e s ⟨rfl,hr,g⟩;have z:Hid (RdF s br t i d):=hr;have n:Hid (Fr (·≠br) w s):=g;clear hr g)
  refine(Rm D.out s d i m cl hcl hd ht hm (A.out.fr n.out) z.out r h).mono ?_;rintro e E ⟨g,v⟩;have F:=n.out.size;rcases r with⟨c,p⟩|⟨l,j⟩
  ·obtain rfl:=v;exact⟨rfl,n.out.trans g,rfl⟩
  ·obtain⟨⟨a,x,u,rfl,k⟩,hr⟩:=v;have B:Hid (Zd w br t d (.ok (l,j)) (.returned (.slice a x u)) E):=⟨n.out.trans g,⟨a,x,u,rfl,Ca.fr (Fr.refl _ _) (fun _ _ h=>h.fr (Fr.refl _ _) fun _ _ q=>by omega) (fun _ _ q=>by omega) k⟩,hr⟩;clear g k hr f;go_wp2_with fail
   go_ret
   exact B.out
theorem J0 {br:Nat}{t:ByteArray}{self:Nat->Nat->Nat->RX PX}(hS:Ax br t self)(w:World)(d i m:Nat)(cl:ByteArray)(hcl:(([44]:List UInt8)==cl.data.toList)=false)(hd:d<=24)(ht:t.size<=4000)(hm:m<=1000000)(hI:Bl w br)(hr:RdF w br t i d)
  (r:Except (Nat×Nat) (List PX×Nat)) (h:Bw (tkF t.data.toList) d i (fun j=>Bj (tkF t.data.toList) cl.data.toList (self 0 (d+1)) m [] j)=some r) :
  Calls Tryz.prog 160 #[.pointer (some ⟨br,0,none⟩),.func (.func 29) #[.pointer (some ⟨br,0,none⟩)] #[],.string cl] w (Zd w br t d r):=by
 have G:Hid (Ax br t self):=hS;have E:Hid (Bl w br):=hI;have x:Hid (RdF w br t i d):=hr;have L:=Ab hr;clear hI hS hr;have N:=follows;go_enter Tryz.func160,Tryz.ntmps160
 go_wp2_with fail
 rcases C2 hd h with⟨z,B⟩|⟨rfl,rfl⟩
 case inr =>
  refine(Dg w br t i x.out).mono ?_;rintro e s ⟨rfl,rfl⟩;exact⟨rfl,Fr.refl _ _,rfl⟩
 refine(Ez w br t i d x.out ht z).mono ?_;rintro e s ⟨rfl,hr,b⟩;have A:Hid (RdF s br t (i+1) (d+1)):=hr;have o:Hid (Fr (·≠br) w s):=b;have M:=b.size;clear hr b h x;go_wp2_with fail
 refine(Rm G.out s (d+1) (i+1) m cl hcl (by omega) ht hm (E.out.fr o.out) A.out r B).mono ?_;rintro e u ⟨b,n⟩;rcases r with⟨c,p⟩|⟨l,j⟩
 ·obtain rfl:=n;exact⟨rfl,o.out.trans b,rfl⟩
 ·obtain⟨⟨a,g,y,rfl,f⟩,hr⟩:=n;have H:Hid (RdF u br t j (d+1)):=hr;have C:Hid (Fr (·≠br) w u):=o.out.trans b;have J:Hid (Ca (fun k=>w.heap.size<=k) u (Af (fun k=>w.heap.size<=k) u) a g l):=Ca.fr (Fr.refl _ _) (fun _ _ h=>h.fr (Fr.refl _ _) fun _ _ q=>by omega) (fun _ _ q=>by omega) f;have F:Hid (∀(W:World)(k:Nat),_):=fun W k h=>Dz W br t k d h (by omega);clear b f hr B A o;go_wp2_with (go_at_call 146;refine(F.out _ _ H.out).mono ?_;rintro e v ⟨rfl,hr,b⟩;have I:Hid (RdF v br t j d):=hr;have D:Hid (Fr (·≠br) w v):=C.out.trans b;have K:Hid (Ca (fun k=>w.heap.size<=k) v (Af (fun k=>w.heap.size<=k) v) a g l):=Ca.fr (b.mono fun k q=>by omega) (fun _ _ h=>h.fr (b.mono fun k q=>by omega) fun _ _ q=>q) (fun _ _ q=>q) J.out;clear hr b)
  go_ret
  exact⟨D.out,⟨a,g,y,rfl,K.out⟩,I.out⟩
end Go.Proofs.YtjbfcadeapphbaaGreatDoor.Sx
namespace Go.Proofs.YtjbfcadeapphbaaGreatDoor.Sx
set_option maxRecDepth 100000
set_option maxHeartbeats 1000000
open Go.RowKit Go.Sort
attribute [local go_sem] Hx Uy
theorem Uz (K:Nat->Tk)(self:Nat->Nat->Nat->RX PX)(m:Nat)(n:List UInt8)(d i:Nat):G0 K self m n d i=bX (Bw K d i fun j=>Bj K [41] (self 0 (d+1)) m [] j) fun l j=>okX (Ed n l) j:=by
 unfold G0 Bw;split<;>rfl
theorem O7 {lo be:Nat}{w w':World}{sort:Nat}{op nm:ByteArray}{n:Int}{at':Nat}{pa:Option Addr}{len cap l0 c0:Nat}{p0:Option Addr}{kids:List PX}{x:PX}(hbe:be<w.heap.size)(hrow:Ca (fun k=>w.heap.size<=k) w' (Af (fun k=>w.heap.size<=k) w') pa len kids)(hb:lo<=be)(he':Ao w' be sort op nm n at' p0 l0 c0)
  (hm:M5 sort op.data.toList nm.data.toList n kids x):Af (fun k=>lo<=k) (w'.setCell ⟨be,5,none⟩ (.slice pa len cap)) x (.pointer (some ⟨be,0,none⟩)):=by
 have a:Fr (fun k=>w.heap.size<=k) w' (w'.setCell ⟨be,5,none⟩ (.slice pa len cap)):=(Fr.refl _ _).set (by simp;omega) _;refine Af.node ⟨be,sort,op,nm,n,at',pa,len,cap,kids,rfl,hb,he'.parts _ _ _,?_,hm⟩;exact Ca.fr a (fun _ _ h=>h.fr a fun _ _ q=>by omega) (fun _ _ q=>by omega) hrow
theorem Xe {br:Nat}{t:ByteArray}{self:Nat->Nat->Nat->RX PX}(hS:Ax br t self)(w:World)(d i m:Nat)(hd:d<=24)(ht:t.size<=4000)(hm:m<=1000000)(hI:Bl w br)(hr:RdF w br t i d)
  (r:Except (Nat×Nat) (PX×Nat)) (h:Fe (tkF t.data.toList) self m d i=some r) :
  Calls Tryz.prog 161 #[.pointer (some ⟨br,0,none⟩)] w (Cr w br t d r):=by
 have W:Hid (Ax br t self):=hS;have V:Hid (Bl w br):=hI;have P:Hid (∀(q:Except (Nat×Nat) (List UInt8×Nat)),_):=fun q=>C6 w br t i d hr ht q;have a1:=Ab hr;clear hI hS hr;have mo:=follows;unfold Fe at h;go_enter Tryz.func161,Tryz.ntmps161
 go_wp2_with fail
 rcases Aq h with⟨⟨c,p⟩,v,rfl⟩|⟨n,j,v,g⟩
 ·refine(P.out _ v).mono ?_;rintro e x ⟨f,rfl⟩;exact⟨rfl,f,rfl⟩
 refine(P.out _ v).mono ?_;rintro e x ⟨f,rfl,hr⟩;have X:Hid (RdF x br t j d):=hr;have U:Hid (Fr (·≠br) w x):=f;have Q:Hid (n=txF t.data.toList i/\j=i+1):=G4 v;have G:(pcF t i).data.toList=n:=by rw[Q.out.1];exact A5 t i
 have hz:=f.size;clear f hr v h P;go_upto_region 3 with fail
 have s:Hid (Ao ((x.alloc (.cells #[.string (pcF t i),.int .i64 (atF t.data.toList i:Int)] 108)).alloc (.cells #[.int .i64 3,.string ⟨#[]⟩,.string (pcF t i),.int .i64 0,.int .i64 (atF t.data.toList i:Int),.slice none 0 0] 81)) (x.heap.size+1) 3 ⟨#[]⟩ (pcF t i) 0 (atF t.data.toList i) none 0 0):=Aj (by simp);have E:Fr (fun _=>True) x ((x.alloc (.cells #[.string (pcF t i),.int .i64 (atF t.data.toList i:Int)] 108)).alloc (.cells #[.int .i64 3,.string ⟨#[]⟩,.string (pcF t i),.int .i64 0,.int .i64 (atF t.data.toList i:Int),.slice none 0 0] 81)):=((Fr.refl _ x).alloc _).alloc _;have D:Hid (RdF _ br t j d):=RdF.of X.out E trivial;have I:Hid (Fr (·≠br) w _):=U.out.trans (E.mono fun _ _=>trivial);clear E X U;generalize (x.alloc (.cells #[.string (pcF t i),.int .i64 (atF t.data.toList i:Int)] 108)).alloc (.cells #[.int .i64 3,.string ⟨#[]⟩,.string (pcF t i),.int .i64 0,.int .i64 (atF t.data.toList i:Int),.slice none 0 0] 81)=w3 at s D I |-;generalize S:x.heap.size+1=be at s |-;have u:be≠br:=by omega
 have o:w.heap.size<=be:=by omega
 have a2:be<w3.heap.size:=Ab s.out;clear S;have h2:=Aa D.out 2;have b:(pcF t j).toList=txF t.data.toList j:=by rw[ByteArray.toList_eq,A5]
 have z:(tkF t.data.toList j).tx=txF t.data.toList j:=rfl;simp only[z] at g;generalize pcF t j=pc at h2 b;by_cases H:txF t.data.toList j=[39]
 ·have g1:(pc.toList==[39])=true:=by rw[b,H];rfl
  rw[H,if_pos (by decide)] at g;have M:Hid (r=.ok (Ct (n++[39]),j+1)):=by simp only[okX,Option.some.injEq] at g;exact g.symm
  have Y:=Aa s.out 0;have Z:=Ac s.out 0;have K:Hid (Ao (w3.setCell ⟨be,0,none⟩ (.int .i64 4)) be 4 ⟨#[]⟩ (pcF t i) 0 (atF t.data.toList i) none 0 0):=s.out.sort 4;have HA:Hid (Calls _ _ _ _ _):=Co (w3.setCell ⟨be,0,none⟩ (.int .i64 4)) br t j d (D.out.setB (Ne.symm u) _) ht;have A:Hid (Fr (·≠br) w (w3.setCell ⟨be,0,none⟩ (.int .i64 4))):=I.out.setB o _;clear b z H g s D I;go_wp2_with (go_at_call 60;refine HA.out.mono ?_;rintro e y ⟨rfl,hr,f⟩;have R:Hid (RdF y br t (j+1) d):=hr;have O:Hid (Fr (·≠br) w y):=A.out.trans f;have L:Hid (Ao y be 4 ⟨#[]⟩ (pcF t i) 0 (atF t.data.toList i) none 0 0):=K.out.of f u;clear hr f)
  go_ret
  rw[M.out];exact⟨O.out,⟨_,rfl,Af.node ⟨be,4,⟨#[]⟩,pcF t i,0,atF t.data.toList i,none,0,0,[],rfl,o,L.out,Ih _,.inr (.inr (.inr (.inr (.inl ⟨rfl,by rw[G]⟩))))⟩⟩,R.out⟩
 have g1:(pc.toList==[39])=false:=by rw[b];simpa using H
 rw[if_neg (by simpa using H)] at g;by_cases J:txF t.data.toList j=[40]
 ·have g2:(pc.toList==[40])=true:=by rw[b,J];rfl
  rw[J,if_pos (by decide),Uz] at g;have Y:=Aa s.out 0;have Z:=Ac s.out 0;have K:Hid (Ao (w3.setCell ⟨be,0,none⟩ (.int .i64 5)) be 5 ⟨#[]⟩ (pcF t i) 0 (atF t.data.toList i) none 0 0):=s.out.sort 5;have N:Hid (RdF (w3.setCell ⟨be,0,none⟩ (.int .i64 5)) br t j d):=D.out.setB (Ne.symm u) _;have A:Hid (Fr (·≠br) w (w3.setCell ⟨be,0,none⟩ (.int .i64 5))):=I.out.setB o _;have B:be<(w3.setCell ⟨be,0,none⟩ (.int .i64 5)).heap.size:=Ab K.out;clear b z H J s D I;go_wp2_with fail
  clear Y Z h2;generalize w3.setCell ⟨be,0,none⟩ (.int .i64 5)=w4 at K N A B |-;rcases Aq g with⟨⟨c,p⟩,v,rfl⟩|⟨l,j2,v,F⟩
  ·refine(J0 W.out w4 d j m ⟨#[41]⟩ rfl hd ht hm (V.out.fr A.out) N.out _ v).mono ?_;rintro e y ⟨f,rfl⟩;exact⟨rfl,A.out.trans f,rfl⟩
  refine(J0 W.out w4 d j m ⟨#[41]⟩ rfl hd ht hm (V.out.fr A.out) N.out _ v).mono ?_;rintro e y ⟨f,⟨a,T,a0,rfl,C⟩,hr⟩;have R:Hid (RdF y br t j2 d):=hr;have O:Hid (Fr (·≠br) w y):=A.out.trans f;have L:Hid (Ao y be 5 ⟨#[]⟩ (pcF t i) 0 (atF t.data.toList i) none 0 0):=K.out.of f u;have W5:Hid (Ca (fun k=>w4.heap.size<=k) y (Af (fun k=>w4.heap.size<=k) y) a T l):=C;have M:Hid (r=.ok (Ed n l,j2)):=by simp only[okX,Option.some.injEq] at F;exact F.symm
  have c5:=Aa L.out 5;have f5:=Ac L.out 5;clear f hr C v g F N A;go_wp2_with fail
  go_ret
  rw[M.out];exact⟨O.out.setB o _,⟨_,rfl,O7 B W5.out o L.out (.inr (.inr (.inr (.inr (.inr (.inl ⟨rfl,by rw[G]⟩))))))⟩,R.out.setB (Ne.symm u) _⟩
 have g2:(pc.toList==[40])=false:=by rw[b];simpa using J
 rw[if_neg (by simpa using J)] at g;have M:Hid (r=.ok (Ct n,j)):=by simp only[okX,Option.some.injEq] at g;exact g.symm
 clear b z H J g;go_wp2_with fail
 go_ret
 rw[M.out];exact⟨I.out,⟨_,rfl,Af.node ⟨be,3,⟨#[]⟩,pcF t i,0,atF t.data.toList i,none,0,0,[],rfl,o,s.out,Ih _,.inr (.inr (.inr (.inl ⟨rfl,by rw[G]⟩)))⟩⟩,D.out⟩
end Go.Proofs.YtjbfcadeapphbaaGreatDoor.Sx
