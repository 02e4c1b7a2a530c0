/- What a token begins; what holds at least so tightly. -/
import Derived.Test.YthcndopglfkmiaaGreatDoorF10
namespace Go.Proofs.YthcndopglfkmiaaGreatDoor.Sx
set_option maxRecDepth 100000
set_option maxHeartbeats 2000000
open Go.RowKit Go.Sort
def FSt (lo base:Nat)(w:World)(be at':Nat)(es:List PX)(pa:Option Addr)(ln cp:Nat):Prop :=
 Ar w be 12 ⟨#[102,117,110]⟩ ⟨#[]⟩ 0 at' pa ln cp/\∃vs,w.ownsRow base 64 1 (.slice pa ln cp) es.length vs/\∀(i:Nat)(x:PX),es[i]?=some x->∃v,vs[i]?=some v/\Ah (fun k=>lo<=k/\k<base) w x v
def Ht (l:List (PX×PX)):List PX:=l.flatMap fun p=>[p.1,p.2]
theorem Zg (l:List (PX×PX))(k:Nat)(p:PX×PX)(h:l[k]?=some p):Ht (l.take (k+1))=Ht (l.take k)++[p.1,p.2]:=by
 rw[List.take_add_one,h];simp[Ht]
theorem Ns:∀l:List (PX×PX),(Ht l).length=2*l.length
 | []=>rfl
 | a::l=>by
  have:=Ns l;simp only[Ht,List.flatMap_cons,List.length_append,List.length_cons,List.length_nil] at this |-;omega
theorem FSt.push {lo base be at' ln cp g cap:Nat}{pa:Option Addr}{w wa w9:World}{es:List PX}{x y:PX}{v u:Value}(h:FSt lo base w be at' es pa ln cp)(hbe:be<lo)(hx:Ah (fun k=>lo<=k/\k<base) w x v)(hy:Ah (fun k=>lo<=k/\k<base) w y u)
  (ha:Fr (fun _=>True) w wa) {vs:List Value} (hvs:w.ownsRow base 64 1 (.slice pa ln cp) es.length vs) (h2:∀(i:Nat)(x:PX),es[i]?=some x->∃v,vs[i]?=some v/\Ah (fun k=>lo<=k/\k<base) w x v)
  (ho:w9.ownsRow base 64 1 (.slice (some ⟨g,0,none⟩) (es.length+2) cap) (es.length+2) (vs++[v,u])) (hg:wa.grownBy w9 (Value.slice pa ln cp).ownBlock) :
  FSt lo base (w9.setCell ⟨be,5,none⟩ (.slice (some ⟨g,0,none⟩) (es.length+2) cap)) be at' (es++[x,y]) (some ⟨g,0,none⟩) (es.length+2) cap/\Fr (fun q=>q≠be/\q<base) w (w9.setCell ⟨be,5,none⟩ (.slice (some ⟨g,0,none⟩) (es.length+2) cap))/\w9.cell? ⟨be,5,none⟩=some (.slice pa ln cp)/\w9.frozen? ⟨be,5,none⟩=false:=by
 have f:∀q,(Value.slice pa ln cp).ownBlock=some q->base<=q:=fun q hq=>(hvs.lt q hq).1;have m:Fr (fun q=>q<base) w w9:=⟨hg.os.trans ha.os,hg.tape.trans ha.tape,hg.output.trans ha.output,Nat.le_trans ha.size hg.size,fun k hk hq=>(hg.block k (Nat.lt_of_lt_of_le hk ha.size) (fun e=>by have:=f k e.symm;omega)).trans (ha.block k hk trivial)⟩;have d:Fr (fun q=>q≠be/\q<base) w (w9.setCell ⟨be,5,none⟩ (.slice (some ⟨g,0,none⟩) (es.length+2) cap)):=(m.mono fun _ q=>q.2).set (by simp) _;have s:=Ac h.1;have j:be<base:=by
  rcases Nat.lt_or_ge be base with q|q
  ·exact q
  ·obtain⟨b,-,A,-⟩:=hx.ptr;omega
 have c:Ar w9 be 12 ⟨#[102,117,110]⟩ ⟨#[]⟩ 0 at' pa ln cp:=h.1.of m j;have p:base<=g:=(ho.lt g rfl).1;have l:vs.length=es.length:=by have:=hvs.1;omega
 refine⟨⟨c.parts _ _ _,vs++[v,u],?_,fun i z q=>?_⟩,d,Aa c 5,Ab c 5⟩
 ·rw[List.length_append];exact Mv ho fun q hq _ _=>by
   simp only[Value.ownBlock,Option.some.injEq] at hq;exact Below.heap_setCell w9 _ _ q (by simp;omega)
 ·have a:∀(z:PX)(t:Value),Ah (fun k=>lo<=k/\k<base) w z t->Ah (fun k=>lo<=k/\k<base) (w9.setCell ⟨be,5,none⟩ (.slice (some ⟨g,0,none⟩) (es.length+2) cap)) z t:=fun z t ht=>ht.fr (d.mono fun k q=>by omega) fun _ _ q=>q;by_cases r:i<es.length
  ·rw[List.getElem?_append_left r] at q;obtain⟨t,ht,o⟩:=h2 i z q;exact⟨t,by rw[List.getElem?_append_left (by omega)];exact ht,a _ _ o⟩
  ·rw[List.getElem?_append_right (by omega)] at q;rw[List.getElem?_append_right (by omega),l]
   match hm:i-es.length with
   | 0=>rw[hm] at q;simp at q;subst q;exact⟨v,rfl,a _ _ hx⟩
   | 1=>rw[hm] at q;simp at q;subst q;exact⟨u,rfl,a _ _ hy⟩
   | n+2=>rw[hm] at q;simp at q
theorem Oj {K:Nat->Tk}{β:Type}{cl:List UInt8}{item:Nat->RX β}:∀m acc i l j,Bg K cl item m acc i=some (.ok (l,j))->l.length<=acc.length+m
 | 0,_,_,_,_,h=>by simp[Bg] at h
 | m+1,acc,i,l,j,h=>by
  rw[Bg] at h;rcases Az h with⟨e,-,q⟩|⟨x,k,-,h2⟩
  ·simp at q
  ·split at h2
   ·simp only[okX,Option.some.injEq,Except.ok.injEq,Prod.mk.injEq] at h2;rw[<- h2.1];simp
   ·rcases Bu h2 with⟨-,h3⟩|⟨-,q⟩
    ·have:=Oj m _ _ _ _ h3;simp only[List.length_append,List.length_cons,List.length_nil] at this;omega
    ·simp at q
theorem FSt.tree {lo base lw be at' ln cp:Nat}{pa:Option Addr}{w:World}{es:List PX}(h:FSt lo base w be at' es pa ln cp)(h1:lw<=lo)(h2:lw<=base)(h3:lw<=be)(hl:es.length<=4294967296):Ah (fun k=>lw<=k) w (Jh es) (.pointer (some ⟨be,0,none⟩)):=by
 obtain⟨n,y,j,r⟩:=h;have m:∀q,(Value.slice pa ln cp).ownBlock=some q->base<=q:=fun q hq=>(j.lt q hq).1;have a:ln=es.length:=by
  rcases j.2 with⟨e,p⟩|⟨g,d,f,e,-⟩
  ·injection e with e1 e2 e3;omega
  ·injection e with e1 e2 e3
 have b:B8 (fun k=>lw<=k) w (Ah (fun k=>lw<=k) w) pa ln es:=by
  rcases j.2 with⟨e,p⟩|⟨g,d,f,e,t,hq,s,_,u,l⟩
  ·injection e with e1 e2 e3
   exact⟨a,by omega,.inl (by omega)⟩
  ·injection e with e1 e2 e3
   refine⟨a,?_,.inr ⟨g,0,e1,Ac hq,by omega,fun i x q=>?_⟩⟩
   ·omega
   ·obtain⟨v,c,o⟩:=r i x q;refine⟨v,?_,o.fr (Fr.refl _ _) fun _ _ q=>by omega⟩;rw[Nat.zero_add,Aa hq];rw[<- l,List.getElem?_take] at c;split at c
    ·simpa using c
    ·simp at c
 exact Ah.node ⟨be,12,⟨#[102,117,110]⟩,⟨#[]⟩,0,at',pa,ln,cp,es,rfl,h3,n,b,.inr (.inr (.inr (.inr (.inr (.inr (.inr (.inr (.inr (.inr (.inr ⟨.inr rfl,.inr (.inr (.inr (.inl ⟨rfl,rfl⟩)))⟩))))))))))⟩
theorem Fr.fresh3 {br be B:Nat}{w w2 w3:World}(F:Fr (·≠br) w w2)(hf:Fr (fun q=>q≠be/\q<B) w2 w3)(h:w.heap.size<=be)(hB:w.heap.size<=B):Fr (·≠br) w w3 :=
 ⟨hf.os.trans F.os,hf.tape.trans F.tape,hf.output.trans F.output,Nat.le_trans F.size hf.size,fun k hk hq=>(hf.block k (Nat.lt_of_lt_of_le hk F.size) ⟨by omega,by omega⟩).trans (F.block k hk hq)⟩
theorem Ue {br:Nat}{t:ByteArray}{self:Nat->Nat->Nat->RX PX}(hS:A3 br t self)(w:World)(d i m:Nat)(hd:d<=24)(ht:t.size<=4000)(hm:m<=1000000)(hI:Cc w br)(hr:RdF w br t i d)(ho:txF t.data.toList i=[91])
  (r:Except (Nat×Nat) (PX×Nat)) (h:Cj (tkF t.data.toList) self m d i=some r) :
  Calls Tryz.prog 154 #[.pointer (some ⟨br,0,none⟩)] w (Dd w br t d r):=by
 have HS:Hid (A3 br t self):=hS;have HI:Hid (Cc w br):=hI;have HR:Hid (RdF w br t i d):=hr;have b6:=Ac hr;have h1:=Aa hr 1;have HL:Hid (∀(W:World)(k:Nat),_):=fun W k h=>Et W br t k d h hd;clear hI hS hr;have mo:=follows;have S:Hid (Ar (w.alloc (.cells #[.int .i64 12,.string ⟨#[]⟩,.string ⟨#[]⟩,.int .i64 0,.int .i64 (atF t.data.toList i:Int),.slice none 0 0] 102)) w.heap.size 12 ⟨#[]⟩ ⟨#[]⟩ 0 (atF t.data.toList i) none 0 0):=Ag rfl;have F1:Hid (Fr (·≠br) w (w.alloc (.cells #[.int .i64 12,.string ⟨#[]⟩,.string ⟨#[]⟩,.int .i64 0,.int .i64 (atF t.data.toList i:Int),.slice none 0 0] 102))):=(Fr.refl _ w).alloc _;have Y:Hid (RdF (w.alloc (.cells #[.int .i64 12,.string ⟨#[]⟩,.string ⟨#[]⟩,.int .i64 0,.int .i64 (atF t.data.toList i:Int),.slice none 0 0] 102)) br t i d):=RdF.of HR.out (P:=fun _=>True) ((Fr.refl _ w).alloc _) trivial;have B:(pcF t i).toList=txF t.data.toList i:=by rw[ByteArray.toList_eq,Bm]
 have a6:(tkF t.data.toList i).tx=txF t.data.toList i:=rfl;unfold Cj at h;simp only[a6] at h;go_enter Tryz.func154,Tryz.ntmps154
 go_upto_region 2 with fail
 clear h1 HR;generalize (w.alloc (.cells #[.int .i64 12,.string ⟨#[]⟩,.string ⟨#[]⟩,.int .i64 0,.int .i64 (atF t.data.toList i:Int),.slice none 0 0] 102))=w1 at S F1 Y |-;obtain⟨n,a0⟩:∃n,w.heap.size=n:=⟨_,rfl⟩;rw[a0] at S b6 |-;have O:w.heap.size<=n:=by omega
 have c9:n<=w.heap.size:=by omega
 clear a0;have C:n≠br:=by omega
 have d1:n<w1.heap.size:=Ac S.out;have h2:=Aa Y.out 2;have g0:((pcF t i).toList==[40])=false:=by rw[B,ho];rfl
 have g1:((pcF t i).toList==[123])=false:=by rw[B,ho];rfl
 have g2:((pcF t i).toList==[60,60])=false:=by rw[B,ho];rfl
 have g3:((pcF t i).toList==[91])=true:=by rw[B,ho];rfl
 rw[ho] at h;rw[if_neg (by decide),if_neg (by decide),if_neg (by decide),if_pos (by decide)] at h;clear B a6 ho;go_wp2_with fail
 rcases Du hd h with⟨b3,hk⟩|⟨rfl,rfl⟩
 case inr =>
  refine(Eg w1 br t i Y.out).mono ?_;rintro e D ⟨rfl,rfl⟩;exact⟨rfl,F1.out,rfl⟩
 refine(Fm w1 br t i d Y.out ht b3).mono ?_;rintro e D ⟨rfl,hr,y⟩;have R2:Hid (RdF D br t (i+1) (d+1)):=hr;have T:Hid (Ar D n 12 ⟨#[]⟩ ⟨#[]⟩ 0 (atF t.data.toList i) none 0 0):=S.out.of y C;have F2:Hid (Fr (·≠br) w D):=F1.out.trans y;have d3:n<D.heap.size:=Ac T.out;have a7:=F2.out.size;clear hr y S F1 Y h h2;have HD:Hid (∀(W:World)(m:ByteArray)(k:Nat)(b:Bool),_):=fun W m k b h=>C3 W br t m k (d+1) h ht b;have c1:=Aa T.out 1;have f1:=Ab T.out 1;go_wp2_with fail
 have E3:Hid (Ar (D.setCell ⟨n,1,none⟩ (.string ⟨#[102,117,110]⟩)) n 12 ⟨#[102,117,110]⟩ ⟨#[]⟩ 0 (atF t.data.toList i) none 0 0):=T.out.op _;have R3:Hid (RdF (D.setCell ⟨n,1,none⟩ (.string ⟨#[102,117,110]⟩)) br t (i+1) (d+1)):=R2.out.setB (Ne.symm C) _;have L:Hid (Fr (·≠br) w (D.setCell ⟨n,1,none⟩ (.string ⟨#[102,117,110]⟩))):=F2.out.setB O _;clear c1 f1 T R2 F2;generalize D.setCell ⟨n,1,none⟩ (.string ⟨#[102,117,110]⟩)=w3 at E3 R3 L |-;have b8:n<w3.heap.size:=Ac E3.out;have d5:=L.out.size;rcases Az hk with⟨⟨c,p⟩,hn,rfl⟩|⟨l,j,hn,N⟩
 ·refine(Qe HS.out w3 (d+1) _ m ⟨#[93]⟩ (by omega) ht hm (HI.out.fr L.out) R3.out _ hn).mono ?_;rintro e o ⟨y,rfl⟩;exact⟨rfl,L.out.trans y,rfl⟩
 refine(Qe HS.out w3 (d+1) _ m ⟨#[93]⟩ (by omega) ht hm (HI.out.fr L.out) R3.out _ hn).mono ?_;rintro e o ⟨y,⟨a,s,cap,rfl,I⟩,hr⟩;have R4:Hid (RdF o br t j (d+1)):=hr;have F4:Hid (Fr (·≠br) w o):=L.out.trans y;have E4:Hid (Ar o n 12 ⟨#[102,117,110]⟩ ⟨#[]⟩ 0 (atF t.data.toList i) none 0 0):=E3.out.of y C;have W4:Hid (Zd (fun k=>w3.heap.size<=k) o a s l):=I;have HQ:Hid (r=.ok (Jh (l.flatMap fun p=>[p.1,p.2]),j)):=by simp only[okX,Option.some.injEq] at N;exact N.symm
 have d4:n<o.heap.size:=Ac E4.out;have d6:=y.size;have d2:l.length<=1000000:=by have:=Oj _ _ _ _ _ hn;simp at this;omega
 clear y hr I hn hk N E3 L R3;go_wp2_with fail
 have W5:Hid (Zd (fun k=>w3.heap.size<=k/\k<o.heap.size) o a s l):=W4.out.fr (Fr.refl _ _) fun k hk q=>⟨q,hk⟩;have G:Hid (s=l.length):=W4.out.1;have d0:s<=4294967296:=W4.out.2.1;clear W4;obtain⟨R,b5,b9,c0,a7⟩:∃R,Tryz.prog.info? 64=some R/\R.zero=some (.pointer none)/\R.size=1/\R.bytes=8:=by
  have:=gG;cases hq:Tryz.prog.info? 64 with
  | none=>rw[hq] at this;simp at this
  | some j=>rw[hq] at this;simp at this;exact⟨j,rfl,this.1,this.2.1,this.2.2⟩
 have F0:Hid (FSt w3.heap.size o.heap.size o n (atF t.data.toList i) (Ht (l.take 0)) none 0 0):=⟨E4.out,[],World.ownsRow_nil _ _ _ _,fun i x q=>by simp[Ht] at q⟩;go_loopw [57] (fun ix wr=>∃k:Nat,k<=s/\ix=.int .i64 k/\∃pa ln cp,Hid (FSt w3.heap.size o.heap.size wr n (atF t.data.toList i) (Ht (l.take k)) pa ln cp)/\Hid (Fr (fun q=>q≠n/\q<o.heap.size) o wr)) (fun ix _=>s-(intOf ix).toNat)
 case atStart=>exact⟨0,Nat.zero_le _,rfl,none,0,0,F0,Fr.refl _ _⟩
 case round =>
  clear F0;obtain⟨k,hk,rfl,pa,ln,cp,A,F⟩:=hrel;have a9:=F.out.size;by_cases hlt:k<s
  ·obtain⟨p,hp⟩:∃p,l[k]?=some p:=⟨_,List.getElem?_eq_getElem (by have:=G.out;omega)⟩;obtain⟨Q,a8,rfl,b1,c8,a3⟩:=W5.out.2.2.resolve_left (by omega);obtain⟨v,u,hv,hu,hT,hU⟩:=a3 k p hp;have M:wr.heap[Q]?=o.heap[Q]?:=F.out.block Q b1 (by omega);have y0:=(World.cell?_of_block (w:=o) (a:=⟨Q,a8+k*2,none⟩) M).trans hv;have y1:=(World.cell?_of_block (w:=o) (a:=⟨Q,a8+k*2+1,none⟩) M).trans hu;obtain⟨z,rfl,-,-⟩:=hT.ptr;obtain⟨f,rfl,-,-⟩:=hU.ptr;have T5:Hid (Ah _ wr p.1 _):=hT.fr (F.out.mono fun k q=>by omega) fun _ _ q=>q;have U5:Hid (Ah _ wr p.2 _):=hU.fr (F.out.mono fun k q=>by omega) fun _ _ q=>q;have c5:=Aa A.out.1 5;have a1:n<wr.heap.size:=Ac A.out.1;have a2:Q<wr.heap.size:=by omega
   have HP:Hid (l[k]?=some p):=hp;clear hv hu hT hU a3 hp M;go_wp2_with fail
   have J:Hid (Fr (fun _=>True) wr (wr.alloc (.cells #[.pointer (some ⟨z,0,none⟩),.pointer (some ⟨f,0,none⟩)] 211))):=(Fr.refl _ _).alloc _;have E:Hid ((wr.alloc (.cells #[.pointer (some ⟨z,0,none⟩),.pointer (some ⟨f,0,none⟩)] 211)).heap[wr.heap.size]?=some (.cells #[.pointer (some ⟨z,0,none⟩),.pointer (some ⟨f,0,none⟩)] 211 (0,0))):=Ag rfl;clear y0 y1 c5;generalize wr.alloc (.cells #[.pointer (some ⟨z,0,none⟩),.pointer (some ⟨f,0,none⟩)] 211)=W1 at J E |-;obtain⟨Z,H⟩:∃Z,wr.heap.size=Z:=⟨_,rfl⟩;rw[H] at E a1 a2 a9 |-;clear H;have z5:=Aa (Ar.of A.out.1 J.out trivial) 5;have c4:=Aa (Ar.of A.out.1 J.out.drew trivial) 5;have q0:=Aa E.out 0;have q1:=Aa E.out 1;have K:W1.drew.heap[Z]?=some (.cells #[.pointer (some ⟨z,0,none⟩),.pointer (some ⟨f,0,none⟩)] 211 (0,0)):=((Fr.grew (P:=fun _=>True) (Ad.refl W1).drew).block Z (Ac E.out) trivial).trans E.out;have c2:=Aa K 0;have c3:=Aa K 1;have c7:Z<W1.heap.size:=Ac E.out;have c6:n<W1.heap.size:=Ac (Ar.of A.out.1 J.out trivial);obtain⟨vs,ho,h2⟩:=A.out.2;have b4:(Ht (l.take k)).length<=8589934592:=by
    rw[Ns,List.length_take];have:=W5.out.2.1;omega
   have OW:Hid ((W1.drew.alloc (.cells #[.pointer (some ⟨z,0,none⟩),.pointer (some ⟨f,0,none⟩)] 64)).ownsRow o.heap.size 64 1 (.slice pa ln cp) (Ht (l.take k)).length vs):=Mv ho fun g _ hg hlt=>(J.out.drew.alloc _).block g hlt trivial;have NB:Hid ((W1.drew.alloc (.cells #[.pointer (some ⟨z,0,none⟩),.pointer (some ⟨f,0,none⟩)] 64)).heap[W1.heap.size]?=some (.cells #[.pointer (some ⟨z,0,none⟩),.pointer (some ⟨f,0,none⟩)] 64 (0,0))):=Ag (by simp);have X:Hid (∀(g cap:Nat)(w9:World),_):=fun g cap w9 ho9 hg9=>FSt.push A.out b8 T5.out U5.out (J.out.drew.alloc (.cells #[.pointer (some ⟨z,0,none⟩),.pointer (some ⟨f,0,none⟩)] 64)) ho h2 (g:=g) (cap:=cap) (w9:=w9) ho9 hg9;have U:Hid (Ht (l.take (k+1))=Ht (l.take k)++[p.1,p.2]):=Zg l k p HP.out;have b7:(Ht (l.take k)).length+2<=maxLen:=by unfold maxLen;omega
   have b2:((Ht (l.take k)).length+2)*8<=140737488355328:=by omega
   have LW:Hid (o.heap.size<=(W1.drew.alloc (.cells #[.pointer (some ⟨z,0,none⟩),.pointer (some ⟨f,0,none⟩)] 64)).heap.size):=by
    show _<=_;simp;omega
   have V:Hid (∀u∈[Value.pointer (some ⟨z,0,none⟩),Value.pointer (some ⟨f,0,none⟩)],u.oneCell'=true):=by
    intro u hu;simp only[List.mem_cons,List.not_mem_nil,or_false] at hu;rcases hu with rfl|rfl<;>rfl
   clear ho h2 K b4;go_region_law (refine step_append_lies _ rfl _ _ 100 rfl o.heap.size 64 R _ 1 8 Tryz.underlying100 b5 b9 c0 a7 rfl (by decide) (.slice pa ln cp) _ vs (by simp[Act.eval]) OW.out ⟨W1.heap.size,0,none⟩ 2 2 [.pointer (some ⟨z,0,none⟩),.pointer (some ⟨f,0,none⟩)] (by simp[Act.eval]) rfl (World.news_of_block NB.out) V.out (by decide) b7 b2 LW.out (W1.heap.size+1) (by simp) ?_;intro g cap w9 ho9 hg9 b0 a4;obtain⟨p1,p2,p3,p4⟩:=X.out g cap w9 ho9 hg9;have P1:Hid (FSt _ _ _ _ _ _ _ _ _):=p1;have P2:Hid (Fr _ _ _):=p2;clear ho9 hg9 b0 a4 p1 p2)
   all_goals rw[<- U.out] at P1
   all_goals clear z5 c4 q0 q1 c2 c3 OW NB X U LW V p3 p4 T5 U5 A J E
   all_goals generalize w9.setCell ⟨n,5,none⟩ _=W9 at P1 P2 |-
   all_goals go_wp2_with fail
   all_goals go_roundw
   all_goals first|exact⟨k+1,by omega,by go_num,_,_,_,P1,F.out.trans P2.out⟩|(simp[intOf];omega)
  ·obtain rfl:k=s:=by omega
   have a5:l.take k=l:=List.take_of_length_le (by have:=G.out;omega);rw[a5] at A;have T5:Hid (Ah (fun k=>w.heap.size<=k) wr (Jh (Ht l)) (.pointer (some ⟨n,0,none⟩))):=FSt.tree A.out (by omega) (by omega) O (by rw[Ns];omega);have R5:Hid (RdF wr br t j (d+1)):=RdF.of R4.out F.out ⟨Ne.symm C,by omega⟩;have F5:Hid (Fr (·≠br) w wr):=F4.out.fresh3 F.out O (by omega);clear A F R4 F4 E4 a5;go_wp2_with (go_at_call 144;refine(HL.out _ _ R5.out).mono ?_;rintro e w6 ⟨rfl,hr,y⟩;have R6:Hid (RdF w6 br t j d):=hr;have F6:Hid (Fr (·≠br) w w6):=F5.out.trans y;have T6:Hid (Ah (fun k=>w.heap.size<=k) w6 (Jh (Ht l)) (.pointer (some ⟨n,0,none⟩))):=T5.out.fr (y.mono fun k q=>by omega) fun _ _ q=>q;clear hr y)
   go_ret
   rw[HQ.out];exact⟨F6.out,⟨_,rfl,T6.out⟩,R6.out⟩
theorem Uf {br:Nat}{t:ByteArray}{self:Nat->Nat->Nat->RX PX}(hS:A3 br t self)(w:World)(d i m:Nat)(hd:d<=24)(ht:t.size<=4000)(hm:m<=1000000)(hI:Cc w br)(hr:RdF w br t i d)
  (r:Except (Nat×Nat) (PX×Nat)) (h:Cj (tkF t.data.toList) self m d i=some r) :
  Calls Tryz.prog 154 #[.pointer (some ⟨br,0,none⟩)] w (Dd w br t d r):=by
 by_cases a:txF t.data.toList i=[40]
 ·exact Ub hS w d i m hd ht hI hr a r h
 by_cases b:txF t.data.toList i=[123]
 ·exact Uc hS w d i m hd ht hm hI hr b r h
 by_cases c:txF t.data.toList i=[60,60]
 ·exact Ud hS w d i m hd ht hm hI hr c r h
 by_cases e:txF t.data.toList i=[91]
 ·exact Ue hS w d i m hd ht hm hI hr e r h
 exact Rs hS w d i m hd hI hr ⟨a,b,c,e⟩ r h
def mL (K:Nat->Tk)(i:Nat):RX PX:=okX (Fg (((K i).tx.take ((K i).tx.length-1)).drop 1)) (i+1)
theorem Zh {br:Nat}{t:ByteArray}(w:World)(d i:Nat)(ht:t.size<=4000)(hr:RdF w br t i d)(hc:clF t.data.toList i=3)
  (r:Except (Nat×Nat) (PX×Nat)) (h:mL (tkF t.data.toList) i=some r) :
  Calls Tryz.prog 146 #[.pointer (some ⟨br,0,none⟩)] w (Dd w br t d r):=by
 have C:2<=(pcF t i).size:=by
  have:=(Nq t.data.toList i).two hc;rw[Kr,<- Gz];exact this
 have j:=Ji t.data.toList i;have B:t.data.toList.length=t.size:=by simp
 have f:=Kr t i;have H:(pcF t i).size<=4000:=by omega
 have g:Hid (RdF w br t i d):=hr;have D:=Ac hr;have z:=Aa hr 1;have A:=Aa hr 2;have q:=Aa hr 3;rw[hc] at q;have b:=RdF.of g.out (P:=fun _=>True) (Fr.grew (Ad.refl w).drew) trivial;have I:=Aa b 1;have J:=Aa b 2;have c:(pcF t i).data.toList=txF t.data.toList i:=Bm t i;have x:Hid (r=.ok (Fg ((((pcF t i).data.toList).take ((pcF t i).size-1)).drop 1),i+1)):=by
  show _=_;have l:(tkF t.data.toList i).tx=txF t.data.toList i:=rfl;simp only[mL,okX,l,Option.some.injEq] at h;rw[c,f,<- Gz];exact h.symm
 clear hr b j B f h c;have K:=follows;have E:(((pcF t i).size:Int)-1).toNat=(pcF t i).size-1:=by omega
 have F:(1:Int)<=((pcF t i).size:Int)-1:=by omega
 have G:((pcF t i).size:Int)-1<=((pcF t i).size:Int):=by omega
 go_enter Tryz.func146,Tryz.ntmps146
 go_wp2_with fail
 go_big_region_o
 have a:Fr (fun _=>True) w (w.alloc (.cells #[.int .i64 1,.string ⟨#[]⟩,.string ((pcF t i).extract 1 ((pcF t i).size-1)),.int .i64 0,.int .i64 (atF t.data.toList i:Int),.slice none 0 0] 102)).drew:=((Fr.refl _ w).alloc _).drew;have n:Hid (Ar (w.alloc (.cells #[.int .i64 1,.string ⟨#[]⟩,.string ((pcF t i).extract 1 ((pcF t i).size-1)),.int .i64 0,.int .i64 (atF t.data.toList i:Int),.slice none 0 0] 102)).drew w.heap.size 1 ⟨#[]⟩ ((pcF t i).extract 1 ((pcF t i).size-1)) 0 (atF t.data.toList i) none 0 0):=Ar.of (w:=w.alloc (.cells #[.int .i64 1,.string ⟨#[]⟩,.string ((pcF t i).extract 1 ((pcF t i).size-1)),.int .i64 0,.int .i64 (atF t.data.toList i:Int),.slice none 0 0] 102)) (Ag rfl) (P:=fun _=>True) (Fr.grew (Ad.refl _).drew) trivial;have o:Hid (Fr (·≠br) w _):=a.mono fun _ _=>trivial;have p:Hid (RdF _ br t i d):=RdF.of g.out a trivial;clear z A q I J g a;generalize (w.alloc (.cells #[.int .i64 1,.string ⟨#[]⟩,.string ((pcF t i).extract 1 ((pcF t i).size-1)),.int .i64 0,.int .i64 (atF t.data.toList i:Int),.slice none 0 0] 102)).drew=w1 at n o p |-;have v:Hid (Calls _ _ _ _ _):=Dc w1 br t i d p.out ht;go_wp2_with (go_at_call 50;refine v.out.mono ?_;rintro e m ⟨rfl,hr,k⟩;have y:Hid (RdF m br t (i+1) d):=hr;have u:Hid (Fr (·≠br) w m):=o.out.trans k;have s:Hid (Ar m w.heap.size 1 ⟨#[]⟩ ((pcF t i).extract 1 ((pcF t i).size-1)) 0 (atF t.data.toList i) none 0 0):=n.out.of k (by omega);clear hr k)
 go_ret
 rw[x.out];exact⟨u.out,⟨_,rfl,Ah.node ⟨w.heap.size,1,⟨#[]⟩,_,0,atF t.data.toList i,none,0,0,[],rfl,Nat.le_refl _,s.out,Hc _,.inr (.inl ⟨rfl,by rw[Fx]⟩)⟩⟩,y.out⟩
theorem Qf {br:Nat}{t:ByteArray}{self:Nat->Nat->Nat->RX PX}(hS:A3 br t self)(w:World)(d i m:Nat)(hd:d<=24)(ht:t.size<=4000)(hm:m<=1000000)(hI:Cc w br)(hr:RdF w br t i d)
  (r:Except (Nat×Nat) (PX×Nat)) (h:Gv (tkF t.data.toList) self m d i=some r) :
  Calls Tryz.prog 146 #[.pointer (some ⟨br,0,none⟩)] w (Dd w br t d r):=by
 have n:(tkF t.data.toList i).cl=clF t.data.toList i:=rfl;have q:=Aa hr 3;unfold Gv at h;rw[n] at h;clear n;have A:=follows;by_cases f:clF t.data.toList i=2
 ·rw[f] at q;rw[if_pos f] at h;have b:Hid (Calls _ _ _ _ _):=Wo w d i ht hI hr (fun v hv=>by have:=Lib.parseIntB_bounds hv;omega) r h;clear hS hr h hI f;go_enter Tryz.func146,Tryz.ntmps146
  go_wp2_with fail
  refine b.out.mono ?_;rintro e o ⟨a,hm⟩;rcases r with⟨c,p⟩|⟨x,j⟩
  ·obtain rfl:=hm;exact⟨rfl,a,rfl⟩
  ·obtain⟨⟨v,rfl,hv⟩,hr⟩:=hm;have l:Hid (Dd w br t d (.ok (x,j)) (.returned v) o):=⟨a,⟨v,rfl,hv⟩,hr⟩;clear a hv hr b;go_wp2_with fail
   go_ret
   exact l.out
 rw[if_neg f] at h;by_cases k:clF t.data.toList i=3
 ·rw[if_pos k] at h;exact Zh w d i ht hr k r h
 rw[if_neg k] at h;by_cases g:clF t.data.toList i=1
 ·rw[g] at q;rw[if_pos g] at h;have b:Hid (Calls _ _ _ _ _):=dG hS w d i m hd ht hm hI hr r h;clear hS hr h hI g f k;go_enter Tryz.func146,Tryz.ntmps146
  go_wp2_with fail
  refine b.out.mono ?_;rintro e o ⟨a,hm⟩;rcases r with⟨c,p⟩|⟨x,j⟩
  ·obtain rfl:=hm;exact⟨rfl,a,rfl⟩
  ·obtain⟨⟨v,rfl,hv⟩,hr⟩:=hm;have l:Hid (Dd w br t d (.ok (x,j)) (.returned v) o):=⟨a,⟨v,rfl,hv⟩,hr⟩;clear a hv hr b;go_wp2_with fail
   go_ret
   exact l.out
 ·rw[if_neg g] at h;have b:Hid (Calls _ _ _ _ _):=Uf hS w d i m hd ht hm hI hr r h;obtain⟨c,s⟩:∃c,clF t.data.toList i=c:=⟨_,rfl⟩;rw[s] at q g f k;have u:((c:Int)==2)=false:=by simp;omega
  have y:((c:Int)==3)=false:=by simp;omega
  have z:((c:Int)==1)=false:=by simp;omega
  clear hS hr h hI g f k s;go_enter Tryz.func146,Tryz.ntmps146
  go_wp2_with fail
  refine b.out.mono ?_;rintro e o ⟨a,hm⟩;rcases r with⟨c,p⟩|⟨x,j⟩
  ·obtain rfl:=hm;exact⟨rfl,a,rfl⟩
  ·obtain⟨⟨v,rfl,hv⟩,hr⟩:=hm;have l:Hid (Dd w br t d (.ok (x,j)) (.returned v) o):=⟨a,⟨v,rfl,hv⟩,hr⟩;clear a hv hr b;go_wp2_with fail
   go_ret
   exact l.out
theorem Qg {br:Nat}{t:ByteArray}{self:Nat->Nat->Nat->RX PX}(hS:A3 br t self)(w:World)(lo d i:Nat)(x:PX)(v:Value)(hd:d<=24)(ht:t.size<=4000)(hI:Cc w br)(hr:RdF w br t i d)(hlo:lo<=w.heap.size)(hbl:br<lo)(hx:Ah (fun k=>lo<=k) w x v)
  (r:Except (Nat×Nat) (PX×Nat)) (h:Lw (tkF t.data.toList) self d x i=some r) :
  Calls Tryz.prog 147 #[.pointer (some ⟨br,0,none⟩),v] w (Sv lo w br t d r):=by
 cases a:self 0 (d+1) (i+1) with
 | none=>exact Nr hS w lo d i x v hd ht hI hr hlo hbl hx (fun y j e=>by rw[a] at e;simp at e) r h
 | some q =>
  rcases q with e|⟨y,j⟩
  ·exact Nr hS w lo d i x v hd ht hI hr hlo hbl hx (fun y j e=>by rw[a] at e;simp at e) r h
  ·cases b:txF t.data.toList j==[58,61] with
   | true=>exact Zf hS w lo d i x v hd ht hI hr hlo hbl hx (fun y' j' e=>by rw[a] at e;simp at e;rw[<- e.2];exact b) r h
   | false=>exact Nr hS w lo d i x v hd ht hI hr hlo hbl hx (fun y' j' e=>by rw[a] at e;simp at e;rw[<- e.2];exact b) r h
theorem Wp {γ δ:Type}(K:Nat->Tk)(m:List UInt8)(i:Nat)(k:Nat->RX γ)(l:γ->Nat->RX δ):bX (Cd K m i k) l=Cd K m i fun j=>bX (k j) l:=by
 unfold Cd;split<;>rfl
theorem dJ {γ δ:Type}(K:Nat->Tk)(d i:Nat)(k:Nat->RX γ)(l:γ->Nat->RX δ):bX (Dh K d i k) l=Dh K d i fun j=>bX (k j) l:=by
 unfold Dh;split<;>rfl
theorem Ug (K:Nat->Tk)(self:Nat->Nat->Nat->RX PX)(M d m:Nat)(x:PX)(i:Nat):Ce K self M d (m+1) x i =
  if (K i).tx==[91] then bX (Lw K self d x i) fun y j=>Ce K self M d m y j
  else if (K i).tx==[46] then bX (bX (Au K (i+1)) fun n j=>okX (dAt x (Fg n)) j) fun y j=>Ce K self M d m y j
  else okX x i:=by
 rw[Ce];split
 ·unfold Lw;rw[dJ]
  congr 1
  funext j
  rw[C8]
  congr 1
  funext k j
  split
  ·rw[C8];congr 1;funext v j;rw[Wp];rfl
  ·rw[Wp];rfl
 ·split
  ·rw[C8];rfl
  ·rfl
theorem Dd.L {w:World}{br:Nat}{t:ByteArray}{d:Nat}{r:Except (Nat×Nat) (PX×Nat)}{e:Ending}{w':World}(h:Dd w br t d r e w'):Sv w.heap.size w br t d r e w':=h
theorem Zi {br:Nat}{t:ByteArray}{self:Nat->Nat->Nat->RX PX}(hS:A3 br t self)(w:World)(d i m:Nat)(hd:d<=24)(ht:t.size<=4000)(hm:m<=1000000)(hI:Cc w br)(hr:RdF w br t i d)
  (r:Except (Nat×Nat) (PX×Nat)) (h:Gq (tkF t.data.toList) self m d i=some r) :
  Calls Tryz.prog 129 #[.pointer (some ⟨br,0,none⟩)] w (Dd w br t d r):=by
 have J:Hid (A3 br t self):=hS;have I:Hid (Cc w br):=hI;have M:Hid (RdF w br t i d):=hr;have s:=Ac hr;clear hS hI hr;have V:=follows;unfold Gq at h;go_enter Tryz.func129,Tryz.ntmps129
 go_wp2_with fail
 rcases Az h with⟨⟨c,p⟩,g,rfl⟩|⟨x,j,g,C⟩
 ·refine(Qf J.out w d i m hd ht hm I.out M.out _ g).mono ?_;rintro e K ⟨b,rfl⟩;exact⟨rfl,b,rfl⟩
 refine(Qf J.out w d i m hd ht hm I.out M.out _ g).mono ?_;rintro e K ⟨b,⟨v,rfl,D⟩,hr⟩;have q:Hid (RdF K br t j d):=hr;have l:Hid (Fr (·≠br) w K):=b;have o:Hid (Ah (fun k=>w.heap.size<=k) K x v):=D;have B:Hid (Ce (tkF t.data.toList) self m d m x j=some r):=C;clear b hr D g h C M;obtain⟨U,rfl,-,-⟩:=o.out.ptr;go_wp2_with fail
 go_loopg [3] (m) (fun f s7 wr=>∃(j:Nat)(x:PX),Hid (RdF wr br t j d)/\Hid (Ah (fun k=>w.heap.size<=k) wr x s7)/\Hid (Ce (tkF t.data.toList) self m d f x j=some r)/\Hid (Fr (·≠br) w wr))
 case atStart=>exact⟨j,x,q,o,B,l⟩
 case round =>
  clear q o B l;obtain⟨j,x,q,o,B,l⟩:=hrel;obtain⟨f,rfl⟩:∃f,gk=f+1:=by
   cases gk with
   | zero=>exact absurd B.out (by simp[Ce])
   | succ f=>exact⟨f,rfl⟩
  have n:=B.out;rw[Ug] at n;have u:(tkF t.data.toList j).tx=txF t.data.toList j:=rfl;rw[u] at n;have a:(pcF t j).toList=txF t.data.toList j:=by rw[ByteArray.toList_eq,Bm]
  have R:=Aa q.out 2;have z:=l.out.size;obtain⟨U,rfl,-,-⟩:=o.out.ptr;cases E:(txF t.data.toList j==[91]) with
  | true =>
   have Q:((pcF t j).toList==[91])=true:=by rw[a];exact E
   rw[E,if_pos rfl] at n;clear B u a E;go_wp2_with fail
   rcases Az n with⟨⟨c,p⟩,g,rfl⟩|⟨y,H,g,C⟩
   ·refine(Qg J.out wr w.heap.size d j x _ hd ht (I.out.fr l.out) q.out z s o.out _ g).mono ?_;rintro e A ⟨b,rfl⟩;exact⟨rfl,l.out.trans b,rfl⟩
   refine(Qg J.out wr w.heap.size d j x _ hd ht (I.out.fr l.out) q.out z s o.out _ g).mono ?_;rintro e A ⟨b,⟨v,rfl,D⟩,hr⟩;have O:Hid (RdF A br t H d):=hr;have L:Hid (Fr (·≠br) w A):=l.out.trans b;have G:Hid (Ah (fun k=>w.heap.size<=k) A y v):=D;have N:Hid (_=some r):=C;clear b hr D g C n q l o R Q;obtain⟨P,rfl,-,-⟩:=G.out.ptr;go_wp2_with fail
   go_roundg f
   case measure=>omega
   case rel=>exact⟨H,y,O,G,N,L⟩
  | false =>
   have Q:((pcF t j).toList==[91])=false:=by rw[a];exact E
   rw[E,if_neg (by simp)] at n;cases F:(txF t.data.toList j==[46]) with
   | true =>
    have S:((pcF t j).toList==[46])=true:=by rw[a];exact F
    rw[F,if_pos rfl] at n;clear B u a E F;go_wp2_with fail
    rcases Az n with⟨⟨c,p⟩,g,rfl⟩|⟨y,H,g,C⟩
    ·refine(Oi wr br t w.heap.size d j x _ ht q.out z s o.out _ g).mono ?_;rintro e A ⟨b,rfl⟩;exact⟨rfl,l.out.trans b,rfl⟩
    refine(Oi wr br t w.heap.size d j x _ ht q.out z s o.out _ g).mono ?_;rintro e A ⟨b,⟨v,rfl,D⟩,hr⟩;have O:Hid (RdF A br t H d):=hr;have L:Hid (Fr (·≠br) w A):=l.out.trans b;have G:Hid (Ah (fun k=>w.heap.size<=k) A y v):=D;have N:Hid (_=some r):=C;clear b hr D g C n q l o R Q S;obtain⟨P,rfl,-,-⟩:=G.out.ptr;go_wp2_with fail
    go_roundg f
    case measure=>omega
    case rel=>exact⟨H,y,O,G,N,L⟩
   | false =>
    have S:((pcF t j).toList==[46])=false:=by rw[a];exact F
    rw[F,if_neg (by simp)] at n;have T:Hid (r=.ok (x,j)):=by simp only[okX,Option.some.injEq] at n;exact n.symm
    clear B u a E F n;go_wp2_with fail
    go_ret
    rw[T.out];exact⟨l.out,⟨_,rfl,o.out⟩,q.out⟩
theorem Ol (l:List UInt8):C6 l=0/\Es.contains l=true\/C6 l=6/\Ek.contains l=true\/C6 l=12/\Df.contains l=true\/C6 l=14:=by
 unfold C6;cases a:Es.contains l with
 | true=>exact .inl ⟨by simp,rfl⟩
 | false =>
  cases b:Ek.contains l with
  | true=>exact .inr (.inl ⟨by simp,rfl⟩)
  | false =>
   cases c:Df.contains l with
   | true=>exact .inr (.inr (.inl ⟨by simp,rfl⟩))
   | false=>exact .inr (.inr (.inr (by simp)))
theorem Om {br:Nat}{t:ByteArray}{self:Nat->Nat->Nat->RX PX}(hS:A3 br t self)(w:World)(d i m:Nat)(hd:d<=24)(ht:t.size<=4000)(hm:m<=1000000)(hI:Cc w br)(hr:RdF w br t i d)
  (r:Except (Nat×Nat) (PX×Nat)) (h:Hb (tkF t.data.toList) self m (C6 (txF t.data.toList i)) d i=some r) :
  Calls Tryz.prog 101 #[.pointer (some ⟨br,0,none⟩),.int .i64 (C6 (txF t.data.toList i):Int)] w (Dd w br t d r):=by
 unfold Hb at h;have n:=follows;rcases Ol (txF t.data.toList i) with⟨q,g⟩|⟨q,g⟩|⟨q,g⟩|q
 ·have b:Hid (Calls _ _ _ _ _):=Ua hS w d i hd ht hI hr g r (by rw[q,if_pos rfl] at h;exact h);rw[q];clear hS hr h hI g q;go_enter Tryz.func101,Tryz.ntmps101
  go_wp2_with fail
  refine b.out.mono ?_;rintro e l ⟨a,hm⟩;rcases r with⟨c,p⟩|⟨x,j⟩
  ·obtain rfl:=hm;exact⟨rfl,a,rfl⟩
  ·obtain⟨⟨v,rfl,f⟩,hr⟩:=hm;have k:Hid (Dd w br t d (.ok (x,j)) (.returned v) l):=⟨a,⟨v,rfl,f⟩,hr⟩;clear a f hr b;go_wp2_with fail
   go_ret
   exact k.out
 ·have b:Hid (Calls _ _ _ _ _):=Qb hS w d i 6 hd ht hI hr (.inl ⟨rfl,g⟩) r (by rw[q,if_neg (by decide),if_pos (by decide)] at h;exact h);rw[q];clear hS hr h hI g q;go_enter Tryz.func101,Tryz.ntmps101
  go_wp2_with fail
  refine b.out.mono ?_;rintro e l ⟨a,hm⟩;rcases r with⟨c,p⟩|⟨x,j⟩
  ·obtain rfl:=hm;exact⟨rfl,a,rfl⟩
  ·obtain⟨⟨v,rfl,f⟩,hr⟩:=hm;have k:Hid (Dd w br t d (.ok (x,j)) (.returned v) l):=⟨a,⟨v,rfl,f⟩,hr⟩;clear a f hr b;go_wp2_with fail
   go_ret
   exact k.out
 ·have b:Hid (Calls _ _ _ _ _):=Qb hS w d i 12 hd ht hI hr (.inr ⟨rfl,g⟩) r (by rw[q,if_neg (by decide),if_pos (by decide)] at h;exact h);rw[q];clear hS hr h hI g q;go_enter Tryz.func101,Tryz.ntmps101
  go_wp2_with fail
  refine b.out.mono ?_;rintro e l ⟨a,hm⟩;rcases r with⟨c,p⟩|⟨x,j⟩
  ·obtain rfl:=hm;exact⟨rfl,a,rfl⟩
  ·obtain⟨⟨v,rfl,f⟩,hr⟩:=hm;have k:Hid (Dd w br t d (.ok (x,j)) (.returned v) l):=⟨a,⟨v,rfl,f⟩,hr⟩;clear a f hr b;go_wp2_with fail
   go_ret
   exact k.out
 ·have b:Hid (Calls _ _ _ _ _):=Zi hS w d i m hd ht hm hI hr r (by rw[q,if_neg (by decide),if_neg (by decide)] at h;exact h);rw[q];clear hS hr h hI q;go_enter Tryz.func101,Tryz.ntmps101
  go_wp2_with fail
  refine b.out.mono ?_;rintro e l ⟨a,hm⟩;rcases r with⟨c,p⟩|⟨x,j⟩
  ·obtain rfl:=hm;exact⟨rfl,a,rfl⟩
  ·obtain⟨⟨v,rfl,f⟩,hr⟩:=hm;have k:Hid (Dd w br t d (.ok (x,j)) (.returned v) l):=⟨a,⟨v,rfl,f⟩,hr⟩;clear a f hr b;go_wp2_with fail
   go_ret
   exact k.out
theorem Uh {br:Nat}{t:ByteArray}{self:Nat->Nat->Nat->RX PX}(hS:A3 br t self)(w:World)(d i m n:Nat)(hd:d<=24)(hn:n<=12)(ht:t.size<=4000)(hm:m<=1000000)(hI:Cc w br)(hr:RdF w br t i d)
  (r:Except (Nat×Nat) (PX×Nat)) (h:bX (Ih (tkF t.data.toList) self m n d i) (fun x j=>okX x.1 j)=some r) :
  Calls Tryz.prog 74 #[.pointer (some ⟨br,0,none⟩),.int .i64 (n:Int)] w (Dd w br t d r):=by
 have HS:Hid (A3 br t self):=hS;have HI:Hid (Cc w br):=hI;have HR:Hid (RdF w br t i d):=hr;have a4:=Ac hr;have h2:=Aa hr 2;have HO:Hid (∀W:World,_):=fun W=>Fh (pcF t i) W;rw[Bm] at HO;have D:(tkF t.data.toList i).tx=txF t.data.toList i:=rfl;unfold Ih at h;simp only[D] at h;have HP:Hid (Calls _ _ _ _ _):=HO.out w;clear hS hI hr D HO;have mo:=follows;obtain⟨o,ho⟩:∃o,C6 (txF t.data.toList i)=o:=⟨_,rfl⟩;have V:Hid (C6 (txF t.data.toList i)=o):=ho;rw[ho] at h HP;clear ho;by_cases K:o<n
 ·rw[if_pos K] at h;have R:Hid (r=.error (1,atF t.data.toList i)):=by simp only[Dg,bX,Option.some.injEq] at h;exact h.symm
  have N:(o:Int)<(n:Int):=by omega
  have HF:Hid (Calls _ _ _ _ _):=Fy w br t i d 1 HR.out;clear h K;go_enter Tryz.func74,Tryz.ntmps74
  go_wp2_with (first|(go_at_call 76;refine HP.out.mono ?_;rintro e w' ⟨rfl,rfl⟩)|(go_at_call 51;refine HF.out.mono ?_;rintro e w' ⟨rfl,rfl⟩;unfold Flt))
  rw[R.out];exact⟨rfl,Fr.refl _ _,rfl⟩
 rw[if_neg K] at h;have N:¬(o:Int)<(n:Int):=by omega
 clear K;rw[C8] at h;go_enter Tryz.func74,Tryz.ntmps74
 go_wp2_with (go_at_call 76;refine HP.out.mono ?_;rintro e w' ⟨rfl,rfl⟩)
 have A:Hid (C6 (txF t.data.toList i)=o):=V;rcases Az h with⟨⟨c,p⟩,L,rfl⟩|⟨x,j,L,Z⟩
 ·have s:=Om HS.out w' d i m hd ht hm HI.out HR.out _ (by rw[A.out];exact L);rw[A.out] at s;refine s.mono ?_;rintro e w1 ⟨G,rfl⟩;exact⟨rfl,G,rfl⟩
 have s:=Om HS.out w' d i m hd ht hm HI.out HR.out _ (by rw[A.out];exact L);rw[A.out] at s;refine s.mono ?_;rintro e w1 ⟨G,⟨v,rfl,hv⟩,hr⟩;have E:Hid (RdF w1 br t j d):=hr;have H:Hid (Fr (·≠br) w' w1):=G;have F:Hid (Ah (fun k=>w'.heap.size<=k) w1 x v):=hv;have T:Hid (bX (Cr (tkF t.data.toList) self n d m o x j) (fun x j=>okX x.1 j)=some r):=Z;have C:o<=14:=by rcases Ol (txF t.data.toList i) with⟨q,-⟩|⟨q,-⟩|⟨q,-⟩|q<;>(have:=A.out;omega)
 clear G hr hv L h Z s HR h2 HP N A V;obtain⟨bx,rfl,-,-⟩:=F.out.ptr;go_wp2_with fail
 go_loopg [5,6] (m) (fun f s5 s6 wr=>∃(j o:Nat)(x:PX),s5=.int .i64 (o:Int)/\o<=14/\Hid (RdF wr br t j d)/\Hid (Ah (fun k=>w'.heap.size<=k) wr x s6)/\Hid (bX (Cr (tkF t.data.toList) self n d f o x j) (fun x j=>okX x.1 j)=some r)/\Hid (Fr (·≠br) w' wr))
 case atStart=>exact⟨j,o,x,rfl,C,E,F,T,H⟩
 case round =>
  clear E F T H C;obtain⟨j,o,x,rfl,C,E,F,T,H⟩:=hrel;obtain⟨f,rfl⟩:∃f,gk=f+1:=by
   cases gk with
   | zero=>exact absurd T.out (by simp[Cr,bX])
   | succ f=>exact⟨f,rfl⟩
  have g:=T.out;rw[Cr] at g;have D:(tkF t.data.toList j).tx=txF t.data.toList j:=rfl;simp only[D] at g;have h2:=Aa E.out 2;have b0:=H.out.size;obtain⟨bx,rfl,-,-⟩:=F.out.ptr;have HJ:Hid (∀W:World,_):=fun W=>H6 (pcF t j) W;rw[Bm] at HJ;obtain⟨a,S⟩:∃a,Ak (txF t.data.toList j)=a:=⟨_,rfl⟩;have Q:Hid (Ak (txF t.data.toList j)=a):=S;rw[S] at g HJ;have a9:a<=11:=by have:=Gk (txF t.data.toList j);omega
  have J:Hid (Calls _ _ _ _ _):=HJ.out wr;clear D S T HJ;by_cases O:a=0
  ·subst O;rw[if_pos (.inl rfl)] at g;have R:Hid (r=.ok (x,j)):=by simp only[okX,bX,Option.some.injEq] at g;exact g.symm
   have a0:(-1:Int)<(n:Int):=by omega
   clear g;have u:Hid (Calls Tryz.prog 78 #[.string (pcF t j)] wr fun e w'=>e=.returned (.agg #[.int .i64 (-1),.int .i64 0,.int .i64 0])/\Ad wr w'):=J.out;clear J;go_wp2_with (go_at_call 78;refine u.out.mono ?_;rintro e l ⟨rfl,B⟩;have I:Hid (Ad wr l):=B;clear B)
   go_ret
   rw[R.out];have b:Fr (fun _=>True) wr (l.alloc (.cells #[.int .i64 (-1),.int .i64 0,.int .i64 0] 143)):=(Fr.grew I.out).alloc _;exact⟨H.out.trans (b.mono fun _ _=>trivial),⟨_,rfl,F.out.fr (b.mono fun _ _=>trivial) fun _ _ q=>q⟩,RdF.of E.out b trivial⟩
  have u:Hid (Calls Tryz.prog 78 #[.string (pcF t j)] wr fun e w'=>e=.returned (.agg #[.int .i64 (a:Int),.int .i64 (Cv a:Int),.int .i64 (B7 a:Int)])/\Ad wr w'):=by
   have:=J.out;unfold Kf at this;rw[if_neg O] at this;exact this
  clear J;by_cases q1:a<n
  ·rw[if_pos (.inr (.inl q1))] at g;have R:Hid (r=.ok (x,j)):=by simp only[okX,bX,Option.some.injEq] at g;exact g.symm
   have a0:(a:Int)<(n:Int):=by omega
   clear g q1 O;go_wp2_with (go_at_call 78;refine u.out.mono ?_;rintro e l ⟨rfl,B⟩;have I:Hid (Ad wr l):=B;clear B)
   go_ret
   rw[R.out];have b:Fr (fun _=>True) wr (l.alloc (.cells #[.int .i64 (a:Int),.int .i64 (Cv a:Int),.int .i64 (B7 a:Int)] 143)):=(Fr.grew I.out).alloc _;exact⟨H.out.trans (b.mono fun _ _=>trivial),⟨_,rfl,F.out.fr (b.mono fun _ _=>trivial) fun _ _ q=>q⟩,RdF.of E.out b trivial⟩
  have a5:¬(a:Int)<(n:Int):=by omega
  by_cases q2:o<Cv a
  ·rw[if_pos (.inr (.inr q2))] at g;have R:Hid (r=.ok (x,j)):=by simp only[okX,bX,Option.some.injEq] at g;exact g.symm
   have a0:(o:Int)<(Cv a:Int):=by omega
   clear g q1 O q2;go_wp2_with (go_at_call 78;refine u.out.mono ?_;rintro e l ⟨rfl,B⟩;have I:Hid (Ad wr l):=B;clear B)
   go_ret
   rw[R.out];have b:Fr (fun _=>True) wr (l.alloc (.cells #[.int .i64 (a:Int),.int .i64 (Cv a:Int),.int .i64 (B7 a:Int)] 143)):=(Fr.grew I.out).alloc _;exact⟨H.out.trans (b.mono fun _ _=>trivial),⟨_,rfl,F.out.fr (b.mono fun _ _=>trivial) fun _ _ q=>q⟩,RdF.of E.out b trivial⟩
  have a6:¬(o:Int)<(Cv a:Int):=by omega
  rw[if_neg (fun q=>by omega),C8] at g;have a1:bX (bX (self (B7 a) d (j+1)) fun y j'=>okX (B2 (txF t.data.toList j) x y) j') (fun z j=>bX (Cr (tkF t.data.toList) self n d f a z j) fun x j=>okX x.1 j)=some r:=by rw[C8];exact g
  have HG:Hid (Kf a=.agg #[.int .i64 (a:Int),.int .i64 (Cv a:Int),.int .i64 (B7 a:Int)]):=by show _=_;unfold Kf;rw[if_neg O]
  clear g q1 q2;go_wp2_with (go_at_call 78;refine u.out.mono ?_;rintro e l ⟨rfl,B⟩;have I:Hid (Ad wr l):=B;clear B)
  have U:Hid ((l.alloc (.cells #[.int .i64 (a:Int),.int .i64 (Cv a:Int),.int .i64 (B7 a:Int)] 143)).heap[l.heap.size]?=some (.cells #[.int .i64 (a:Int),.int .i64 (Cv a:Int),.int .i64 (B7 a:Int)] 143 (0,0))):=Ag rfl;have b:Fr (fun _=>True) wr (l.alloc (.cells #[.int .i64 (a:Int),.int .i64 (Cv a:Int),.int .i64 (B7 a:Int)] 143)):=(Fr.grew I.out).alloc _;have P:Hid (Fr (·≠br) w' _):=H.out.trans (b.mono fun _ _=>trivial);have T2:Hid (Ah (fun k=>w'.heap.size<=k) _ x _):=F.out.fr (b.mono fun _ _=>trivial) fun _ _ q=>q;have R2:Hid (RdF _ br t j d):=RdF.of E.out b trivial;have a7:=I.out.below.size;have a8:br<wr.heap.size:=Ac E.out;clear b H F E h2 I;generalize l.alloc (.cells #[.int .i64 (a:Int),.int .i64 (Cv a:Int),.int .i64 (B7 a:Int)] 143)=w3 at P T2 R2 U |-;obtain⟨bg,X⟩:∃bg,l.heap.size=bg:=⟨_,rfl⟩;rw[X] at U a7 |-;clear X;have a2:=P.out.size;have Y:bg≠br:=by omega
  have M:br<w'.heap.size:=a4;have a3:a<=14:=by omega
  rcases Az a1 with⟨⟨c,p⟩,L,rfl⟩|⟨z,j2,L,Z⟩
  ·have s:=Og HS.out w3 w'.heap.size d j a x _ hd ht (HI.out.fr P.out) R2.out a2 M T2.out Q.out O _ L;rw[HG.out] at s;refine s.mono ?_;rintro e w4 ⟨G,rfl⟩;exact⟨rfl,P.out.trans G,rfl⟩
  have s:=Og HS.out w3 w'.heap.size d j a x _ hd ht (HI.out.fr P.out) R2.out a2 M T2.out Q.out O _ L;rw[HG.out] at s;refine s.mono ?_;rintro e w4 ⟨G,⟨v,rfl,hv⟩,hr⟩;have R4:Hid (RdF w4 br t j2 d):=hr;have F4:Hid (Fr (·≠br) w' w4):=P.out.trans G;have T4:Hid (Ah (fun k=>w'.heap.size<=k) w4 z v):=hv;have P4:Hid (_=some r):=Z;have c0:=Aa ((G.block bg (Ac U.out) Y).trans U.out) 0;clear G hr hv L Z a1 s P T2 R2 U u HG Q a5 a6 O;obtain⟨bz,rfl,-,-⟩:=T4.out.ptr;go_wp2_with fail
  go_roundg f
  case measure=>omega
  case rel=>exact⟨j2,a,z,rfl,a3,R4,T4,P4,F4⟩
theorem Lx (br:Nat)(t:ByteArray)(ht:t.size<=4000):∀f,f<=1000000->A3 br t (Hs (tkF t.data.toList) f)
 | 0,_=>fun w n d i r hn hd hI hr h=>by simp[Hs] at h
 | f+1,hf=>fun w n d i r hn hd hI hr h=>by
  rw[Hs,show min n 12=n from by omega] at h;exact Uh (Lx br t ht f (by omega)) w d i f n hd hn ht (by omega) hI hr r h
end Go.Proofs.YthcndopglfkmiaaGreatDoor.Sx
