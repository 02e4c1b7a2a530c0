/- What a bracket begins: functions. -/
import Derived.Test.YtjbfcadeapphbaaGreatDoorK13
namespace Go.Proofs.YtjbfcadeapphbaaGreatDoor.Sx
set_option maxRecDepth 100000
set_option maxHeartbeats 2000000
open Go.RowKit Go.Sort
def FSt (lo base:Nat)(w:World)(be at':Nat)(es:List PX)(pa:Option Addr)(ln cp:Nat):Prop :=
 Ao w be 12 ⟨#[102,117,110]⟩ ⟨#[]⟩ 0 at' pa ln cp/\∃vs,w.ownsRow base 37 1 (.slice pa ln cp) es.length vs/\∀(i:Nat)(x:PX),es[i]?=some x->∃v,vs[i]?=some v/\Af (fun k=>lo<=k/\k<base) w x v
def G8 (l:List (PX×PX)):List PX:=l.flatMap fun p=>[p.1,p.2]
theorem Xh (l:List (PX×PX))(k:Nat)(p:PX×PX)(h:l[k]?=some p):G8 (l.take (k+1))=G8 (l.take k)++[p.1,p.2]:=by
 rw[List.take_add_one,h];simp[G8]
theorem Mf:∀l:List (PX×PX),(G8 l).length=2*l.length
 | []=>rfl
 | a::l=>by
  have:=Mf l;simp only[G8,List.flatMap_cons,List.length_append,List.length_cons,List.length_nil] at this |-;omega
theorem FSt.push {lo base be at' ln cp g cap:Nat}{pa:Option Addr}{w wa w9:World}{es:List PX}{x y:PX}{v u:Value}(h:FSt lo base w be at' es pa ln cp)(hbe:be<lo)(hx:Af (fun k=>lo<=k/\k<base) w x v)(hy:Af (fun k=>lo<=k/\k<base) w y u)
  (ha:Fr (fun _=>True) w wa) {vs:List Value} (hvs:w.ownsRow base 37 1 (.slice pa ln cp) es.length vs) (h2:∀(i:Nat)(x:PX),es[i]?=some x->∃v,vs[i]?=some v/\Af (fun k=>lo<=k/\k<base) w x v)
  (ho:w9.ownsRow base 37 1 (.slice (some ⟨g,0,none⟩) (es.length+2) cap) (es.length+2) (vs++[v,u])) (hg:wa.grownBy w9 (Value.slice pa ln cp).ownBlock) :
  FSt lo base (w9.setCell ⟨be,5,none⟩ (.slice (some ⟨g,0,none⟩) (es.length+2) cap)) be at' (es++[x,y]) (some ⟨g,0,none⟩) (es.length+2) cap/\Fr (fun q=>q≠be/\q<base) w (w9.setCell ⟨be,5,none⟩ (.slice (some ⟨g,0,none⟩) (es.length+2) cap))/\w9.cell? ⟨be,5,none⟩=some (.slice pa ln cp)/\w9.frozen? ⟨be,5,none⟩=false:=by
 have f:∀q,(Value.slice pa ln cp).ownBlock=some q->base<=q:=fun q hq=>(hvs.lt q hq).1;have m:Fr (fun q=>q<base) w w9:=⟨hg.os.trans ha.os,hg.tape.trans ha.tape,hg.output.trans ha.output,Nat.le_trans ha.size hg.size,fun k hk hq=>(hg.block k (Nat.lt_of_lt_of_le hk ha.size) (fun e=>by have:=f k e.symm;omega)).trans (ha.block k hk trivial)⟩;have d:Fr (fun q=>q≠be/\q<base) w (w9.setCell ⟨be,5,none⟩ (.slice (some ⟨g,0,none⟩) (es.length+2) cap)):=(m.mono fun _ q=>q.2).set (by simp) _;have s:=Ab h.1;have j:be<base:=by
  rcases Nat.lt_or_ge be base with q|q
  ·exact q
  ·obtain⟨b,-,A,-⟩:=hx.ptr;omega
 have c:Ao w9 be 12 ⟨#[102,117,110]⟩ ⟨#[]⟩ 0 at' pa ln cp:=h.1.of m j;have p:base<=g:=(ho.lt g rfl).1;have l:vs.length=es.length:=by have:=hvs.1;omega
 refine⟨⟨c.parts _ _ _,vs++[v,u],?_,fun i z q=>?_⟩,d,Aa c 5,Ac c 5⟩
 ·rw[List.length_append];exact Lm ho fun q hq _ _=>by
   simp only[Value.ownBlock,Option.some.injEq] at hq;exact Below.heap_setCell w9 _ _ q (by simp;omega)
 ·have a:∀(z:PX)(t:Value),Af (fun k=>lo<=k/\k<base) w z t->Af (fun k=>lo<=k/\k<base) (w9.setCell ⟨be,5,none⟩ (.slice (some ⟨g,0,none⟩) (es.length+2) cap)) z t:=fun z t ht=>ht.fr (d.mono fun k q=>by omega) fun _ _ q=>q;by_cases r:i<es.length
  ·rw[List.getElem?_append_left r] at q;obtain⟨t,ht,o⟩:=h2 i z q;exact⟨t,by rw[List.getElem?_append_left (by omega)];exact ht,a _ _ o⟩
  ·rw[List.getElem?_append_right (by omega)] at q;rw[List.getElem?_append_right (by omega),l]
   match hm:i-es.length with
   | 0=>rw[hm] at q;simp at q;subst q;exact⟨v,rfl,a _ _ hx⟩
   | 1=>rw[hm] at q;simp at q;subst q;exact⟨u,rfl,a _ _ hy⟩
   | n+2=>rw[hm] at q;simp at q
theorem M9 {K:Nat->Tk}{β:Type}{cl:List UInt8}{item:Nat->RX β}:∀m acc i l j,Bj K cl item m acc i=some (.ok (l,j))->l.length<=acc.length+m
 | 0,_,_,_,_,h=>by simp[Bj] at h
 | m+1,acc,i,l,j,h=>by
  rw[Bj] at h;rcases Aq h with⟨e,-,q⟩|⟨x,k,-,h2⟩
  ·simp at q
  ·split at h2
   ·simp only[okX,Option.some.injEq,Except.ok.injEq,Prod.mk.injEq] at h2;rw[<- h2.1];simp
   ·rcases Bk h2 with⟨-,h3⟩|⟨-,q⟩
    ·have:=M9 m _ _ _ _ h3;simp only[List.length_append,List.length_cons,List.length_nil] at this;omega
    ·simp at q
theorem FSt.tree {lo base lw be at' ln cp:Nat}{pa:Option Addr}{w:World}{es:List PX}(h:FSt lo base w be at' es pa ln cp)(h1:lw<=lo)(h2:lw<=base)(h3:lw<=be)(hl:es.length<=4294967296):Af (fun k=>lw<=k) w (Kl es) (.pointer (some ⟨be,0,none⟩)):=by
 obtain⟨n,y,j,r⟩:=h;have m:∀q,(Value.slice pa ln cp).ownBlock=some q->base<=q:=fun q hq=>(j.lt q hq).1;have a:ln=es.length:=by
  rcases j.2 with⟨e,p⟩|⟨g,d,f,e,-⟩
  ·injection e with e1 e2 e3;omega
  ·injection e with e1 e2 e3
 have b:Ca (fun k=>lw<=k) w (Af (fun k=>lw<=k) w) pa ln es:=by
  rcases j.2 with⟨e,p⟩|⟨g,d,f,e,t,hq,s,_,u,l⟩
  ·injection e with e1 e2 e3
   exact⟨a,by omega,.inl (by omega)⟩
  ·injection e with e1 e2 e3
   refine⟨a,?_,.inr ⟨g,0,e1,Ab hq,by omega,fun i x q=>?_⟩⟩
   ·omega
   ·obtain⟨v,c,o⟩:=r i x q;refine⟨v,?_,o.fr (Fr.refl _ _) fun _ _ q=>by omega⟩;rw[Nat.zero_add,Aa hq];rw[<- l,List.getElem?_take] at c;split at c
    ·simpa using c
    ·simp at c
 exact Af.node ⟨be,12,⟨#[102,117,110]⟩,⟨#[]⟩,0,at',pa,ln,cp,es,rfl,h3,n,b,.inr (.inr (.inr (.inr (.inr (.inr (.inr (.inr (.inr (.inr (.inr ⟨.inr rfl,.inr (.inr (.inr (.inl ⟨rfl,rfl⟩)))⟩))))))))))⟩
theorem Fr.fresh3 {br be B:Nat}{w w2 w3:World}(F:Fr (·≠br) w w2)(hf:Fr (fun q=>q≠be/\q<B) w2 w3)(h:w.heap.size<=be)(hB:w.heap.size<=B):Fr (·≠br) w w3 :=
 ⟨hf.os.trans F.os,hf.tape.trans F.tape,hf.output.trans F.output,Nat.le_trans F.size hf.size,fun k hk hq=>(hf.block k (Nat.lt_of_lt_of_le hk F.size) ⟨by omega,by omega⟩).trans (F.block k hk hq)⟩
theorem S6 {br:Nat}{t:ByteArray}{self:Nat->Nat->Nat->RX PX}(hS:Ax br t self)(w:World)(d i m:Nat)(hd:d<=24)(ht:t.size<=4000)(hm:m<=1000000)(hI:Bl w br)(hr:RdF w br t i d)(ho:txF t.data.toList i=[91])
  (r:Except (Nat×Nat) (PX×Nat)) (h:Bp (tkF t.data.toList) self m d i=some r) :
  Calls Tryz.prog 157 #[.pointer (some ⟨br,0,none⟩)] w (Cr w br t d r):=by
 have HS:Hid (Ax br t self):=hS;have HI:Hid (Bl w br):=hI;have HR:Hid (RdF w br t i d):=hr;have b6:=Ab hr;have h1:=Aa hr 1;have HL:Hid (∀(W:World)(k:Nat),_):=fun W k h=>Dz W br t k d h hd;clear hI hS hr;have mo:=follows;have S:Hid (Ao (w.alloc (.cells #[.int .i64 12,.string ⟨#[]⟩,.string ⟨#[]⟩,.int .i64 0,.int .i64 (atF t.data.toList i:Int),.slice none 0 0] 81)) w.heap.size 12 ⟨#[]⟩ ⟨#[]⟩ 0 (atF t.data.toList i) none 0 0):=Aj rfl;have F1:Hid (Fr (·≠br) w (w.alloc (.cells #[.int .i64 12,.string ⟨#[]⟩,.string ⟨#[]⟩,.int .i64 0,.int .i64 (atF t.data.toList i:Int),.slice none 0 0] 81))):=(Fr.refl _ w).alloc _;have Y:Hid (RdF (w.alloc (.cells #[.int .i64 12,.string ⟨#[]⟩,.string ⟨#[]⟩,.int .i64 0,.int .i64 (atF t.data.toList i:Int),.slice none 0 0] 81)) br t i d):=RdF.of HR.out (P:=fun _=>True) ((Fr.refl _ w).alloc _) trivial;have B:(pcF t i).toList=txF t.data.toList i:=by rw[ByteArray.toList_eq,A5]
 have a6:(tkF t.data.toList i).tx=txF t.data.toList i:=rfl;unfold Bp at h;simp only[a6] at h;go_enter Tryz.func157,Tryz.ntmps157
 go_upto_region 2 with fail
 clear h1 HR;generalize (w.alloc (.cells #[.int .i64 12,.string ⟨#[]⟩,.string ⟨#[]⟩,.int .i64 0,.int .i64 (atF t.data.toList i:Int),.slice none 0 0] 81))=w1 at S F1 Y |-;obtain⟨n,a0⟩:∃n,w.heap.size=n:=⟨_,rfl⟩;rw[a0] at S b6 |-;have O:w.heap.size<=n:=by omega
 have c9:n<=w.heap.size:=by omega
 clear a0;have C:n≠br:=by omega
 have d1:n<w1.heap.size:=Ab S.out;have h2:=Aa Y.out 2;have g0:((pcF t i).toList==[40])=false:=by rw[B,ho];rfl
 have g1:((pcF t i).toList==[123])=false:=by rw[B,ho];rfl
 have g2:((pcF t i).toList==[60,60])=false:=by rw[B,ho];rfl
 have g3:((pcF t i).toList==[91])=true:=by rw[B,ho];rfl
 rw[ho] at h;rw[if_neg (by decide),if_neg (by decide),if_neg (by decide),if_pos (by decide)] at h;clear B a6 ho;go_wp2_with fail
 rcases C2 hd h with⟨b3,hk⟩|⟨rfl,rfl⟩
 case inr =>
  refine(Dg w1 br t i Y.out).mono ?_;rintro e D ⟨rfl,rfl⟩;exact⟨rfl,F1.out,rfl⟩
 refine(Ez w1 br t i d Y.out ht b3).mono ?_;rintro e D ⟨rfl,hr,y⟩;have R2:Hid (RdF D br t (i+1) (d+1)):=hr;have T:Hid (Ao D n 12 ⟨#[]⟩ ⟨#[]⟩ 0 (atF t.data.toList i) none 0 0):=S.out.of y C;have F2:Hid (Fr (·≠br) w D):=F1.out.trans y;have d3:n<D.heap.size:=Ab T.out;have a7:=F2.out.size;clear hr y S F1 Y h h2;have HD:Hid (∀(W:World)(m:ByteArray)(k:Nat)(b:Bool),_):=fun W m k b h=>Cj W br t m k (d+1) h ht b;have c1:=Aa T.out 1;have f1:=Ac T.out 1;go_wp2_with fail
 have E3:Hid (Ao (D.setCell ⟨n,1,none⟩ (.string ⟨#[102,117,110]⟩)) n 12 ⟨#[102,117,110]⟩ ⟨#[]⟩ 0 (atF t.data.toList i) none 0 0):=T.out.op _;have R3:Hid (RdF (D.setCell ⟨n,1,none⟩ (.string ⟨#[102,117,110]⟩)) br t (i+1) (d+1)):=R2.out.setB (Ne.symm C) _;have L:Hid (Fr (·≠br) w (D.setCell ⟨n,1,none⟩ (.string ⟨#[102,117,110]⟩))):=F2.out.setB O _;clear c1 f1 T R2 F2;generalize D.setCell ⟨n,1,none⟩ (.string ⟨#[102,117,110]⟩)=w3 at E3 R3 L |-;have b8:n<w3.heap.size:=Ab E3.out;have d5:=L.out.size;rcases Aq hk with⟨⟨c,p⟩,hn,rfl⟩|⟨l,j,hn,N⟩
 ·refine(Pb HS.out w3 (d+1) _ m ⟨#[93]⟩ rfl (by omega) ht hm (HI.out.fr L.out) R3.out _ hn).mono ?_;rintro e o ⟨y,rfl⟩;exact⟨rfl,L.out.trans y,rfl⟩
 refine(Pb HS.out w3 (d+1) _ m ⟨#[93]⟩ rfl (by omega) ht hm (HI.out.fr L.out) R3.out _ hn).mono ?_;rintro e o ⟨y,⟨a,s,cap,rfl,I⟩,hr⟩;have R4:Hid (RdF o br t j (d+1)):=hr;have F4:Hid (Fr (·≠br) w o):=L.out.trans y;have E4:Hid (Ao o n 12 ⟨#[102,117,110]⟩ ⟨#[]⟩ 0 (atF t.data.toList i) none 0 0):=E3.out.of y C;have W4:Hid (O9 (fun k=>w3.heap.size<=k) o a s l):=I;have HQ:Hid (r=.ok (Kl (l.flatMap fun p=>[p.1,p.2]),j)):=by simp only[okX,Option.some.injEq] at N;exact N.symm
 have d4:n<o.heap.size:=Ab E4.out;have d6:=y.size;have d2:l.length<=1000000:=by have:=M9 _ _ _ _ _ hn;simp at this;omega
 clear y hr I hn hk N E3 L R3;go_wp2_with fail
 have W5:Hid (O9 (fun k=>w3.heap.size<=k/\k<o.heap.size) o a s l):=W4.out.fr (Fr.refl _ _) fun k hk q=>⟨q,hk⟩;have G:Hid (s=l.length):=W4.out.1;have d0:s<=4294967296:=W4.out.2.1;clear W4;obtain⟨R,b5,b9,c0,a7⟩:∃R,Tryz.prog.info? 37=some R/\R.zero=some (.pointer none)/\R.size=1/\R.bytes=8:=by
  have:=dI;cases hq:Tryz.prog.info? 37 with
  | none=>rw[hq] at this;simp at this
  | some j=>rw[hq] at this;simp at this;exact⟨j,rfl,this.1,this.2.1,this.2.2⟩
 have F0:Hid (FSt w3.heap.size o.heap.size o n (atF t.data.toList i) (G8 (l.take 0)) none 0 0):=⟨E4.out,[],World.ownsRow_nil _ _ _ _,fun i x q=>by simp[G8] at q⟩;go_loopw [57] (fun ix wr=>∃k:Nat,k<=s/\ix=.int .i64 k/\∃pa ln cp,Hid (FSt w3.heap.size o.heap.size wr n (atF t.data.toList i) (G8 (l.take k)) pa ln cp)/\Hid (Fr (fun q=>q≠n/\q<o.heap.size) o wr)) (fun ix _=>s-(intOf ix).toNat)
 case atStart=>exact⟨0,Nat.zero_le _,rfl,none,0,0,F0,Fr.refl _ _⟩
 case round =>
  clear F0;obtain⟨k,hk,rfl,pa,ln,cp,A,F⟩:=hrel;have a9:=F.out.size;by_cases hlt:k<s
  ·obtain⟨p,hp⟩:∃p,l[k]?=some p:=⟨_,List.getElem?_eq_getElem (by have:=G.out;omega)⟩;obtain⟨Q,a8,rfl,b1,c8,a3⟩:=W5.out.2.2.resolve_left (by omega);obtain⟨v,u,hv,hu,hT,hU⟩:=a3 k p hp;have M:wr.heap[Q]?=o.heap[Q]?:=F.out.block Q b1 (by omega);have y0:=(World.cell?_of_block (w:=o) (a:=⟨Q,a8+k*2,none⟩) M).trans hv;have y1:=(World.cell?_of_block (w:=o) (a:=⟨Q,a8+k*2+1,none⟩) M).trans hu;obtain⟨z,rfl,-,-⟩:=hT.ptr;obtain⟨f,rfl,-,-⟩:=hU.ptr;have T5:Hid (Af _ wr p.1 _):=hT.fr (F.out.mono fun k q=>by omega) fun _ _ q=>q;have U5:Hid (Af _ wr p.2 _):=hU.fr (F.out.mono fun k q=>by omega) fun _ _ q=>q;have c5:=Aa A.out.1 5;have a1:n<wr.heap.size:=Ab A.out.1;have a2:Q<wr.heap.size:=by omega
   have HP:Hid (l[k]?=some p):=hp;clear hv hu hT hU a3 hp M;go_wp2_with fail
   have J:Hid (Fr (fun _=>True) wr (wr.alloc (.cells #[.pointer (some ⟨z,0,none⟩),.pointer (some ⟨f,0,none⟩)] 214))):=(Fr.refl _ _).alloc _;have E:Hid ((wr.alloc (.cells #[.pointer (some ⟨z,0,none⟩),.pointer (some ⟨f,0,none⟩)] 214)).heap[wr.heap.size]?=some (.cells #[.pointer (some ⟨z,0,none⟩),.pointer (some ⟨f,0,none⟩)] 214 (0,0))):=Aj rfl;clear y0 y1 c5;generalize wr.alloc (.cells #[.pointer (some ⟨z,0,none⟩),.pointer (some ⟨f,0,none⟩)] 214)=W1 at J E |-;obtain⟨Z,H⟩:∃Z,wr.heap.size=Z:=⟨_,rfl⟩;rw[H] at E a1 a2 a9 |-;clear H;have z5:=Aa (Ao.of A.out.1 J.out trivial) 5;have c4:=Aa (Ao.of A.out.1 J.out.drew trivial) 5;have q0:=Aa E.out 0;have q1:=Aa E.out 1;have K:W1.drew.heap[Z]?=some (.cells #[.pointer (some ⟨z,0,none⟩),.pointer (some ⟨f,0,none⟩)] 214 (0,0)):=((Fr.grew (P:=fun _=>True) (Ag.refl W1).drew).block Z (Ab E.out) trivial).trans E.out;have c2:=Aa K 0;have c3:=Aa K 1;have c7:Z<W1.heap.size:=Ab E.out;have c6:n<W1.heap.size:=Ab (Ao.of A.out.1 J.out trivial);obtain⟨vs,ho,h2⟩:=A.out.2;have b4:(G8 (l.take k)).length<=8589934592:=by
    rw[Mf,List.length_take];have:=W5.out.2.1;omega
   have OW:Hid ((W1.drew.alloc (.cells #[.pointer (some ⟨z,0,none⟩),.pointer (some ⟨f,0,none⟩)] 37)).ownsRow o.heap.size 37 1 (.slice pa ln cp) (G8 (l.take k)).length vs):=Lm ho fun g _ hg hlt=>(J.out.drew.alloc _).block g hlt trivial;have NB:Hid ((W1.drew.alloc (.cells #[.pointer (some ⟨z,0,none⟩),.pointer (some ⟨f,0,none⟩)] 37)).heap[W1.heap.size]?=some (.cells #[.pointer (some ⟨z,0,none⟩),.pointer (some ⟨f,0,none⟩)] 37 (0,0))):=Aj (by simp);have X:Hid (∀(g cap:Nat)(w9:World),_):=fun g cap w9 ho9 hg9=>FSt.push A.out b8 T5.out U5.out (J.out.drew.alloc (.cells #[.pointer (some ⟨z,0,none⟩),.pointer (some ⟨f,0,none⟩)] 37)) ho h2 (g:=g) (cap:=cap) (w9:=w9) ho9 hg9;have U:Hid (G8 (l.take (k+1))=G8 (l.take k)++[p.1,p.2]):=Xh l k p HP.out;have b7:(G8 (l.take k)).length+2<=maxLen:=by unfold maxLen;omega
   have b2:((G8 (l.take k)).length+2)*8<=140737488355328:=by omega
   have LW:Hid (o.heap.size<=(W1.drew.alloc (.cells #[.pointer (some ⟨z,0,none⟩),.pointer (some ⟨f,0,none⟩)] 37)).heap.size):=by
    show _<=_;simp;omega
   have V:Hid (∀u∈[Value.pointer (some ⟨z,0,none⟩),Value.pointer (some ⟨f,0,none⟩)],u.oneCell'=true):=by
    intro u hu;simp only[List.mem_cons,List.not_mem_nil,or_false] at hu;rcases hu with rfl|rfl<;>rfl
   clear ho h2 K b4;go_region_law (refine step_append_lies _ rfl _ _ 79 rfl o.heap.size 37 R _ 1 8 Tryz.underlying79 b5 b9 c0 a7 rfl (by decide) (.slice pa ln cp) _ vs (by simp[Act.eval]) OW.out ⟨W1.heap.size,0,none⟩ 2 2 [.pointer (some ⟨z,0,none⟩),.pointer (some ⟨f,0,none⟩)] (by simp[Act.eval]) rfl (World.news_of_block NB.out) V.out (by decide) b7 b2 LW.out (W1.heap.size+1) (by simp) ?_;intro g cap w9 ho9 hg9 b0 a4;obtain⟨p1,p2,p3,p4⟩:=X.out g cap w9 ho9 hg9;have P1:Hid (FSt _ _ _ _ _ _ _ _ _):=p1;have P2:Hid (Fr _ _ _):=p2;clear ho9 hg9 b0 a4 p1 p2)
   all_goals rw[<- U.out] at P1
   all_goals clear z5 c4 q0 q1 c2 c3 OW NB X U LW V p3 p4 T5 U5 A J E
   all_goals generalize w9.setCell ⟨n,5,none⟩ _=W9 at P1 P2 |-
   all_goals go_wp2_with fail
   all_goals go_roundw
   all_goals first|exact⟨k+1,by omega,by go_num,_,_,_,P1,F.out.trans P2.out⟩|(simp[intOf];omega)
  ·obtain rfl:k=s:=by omega
   have a5:l.take k=l:=List.take_of_length_le (by have:=G.out;omega);rw[a5] at A;have T5:Hid (Af (fun k=>w.heap.size<=k) wr (Kl (G8 l)) (.pointer (some ⟨n,0,none⟩))):=FSt.tree A.out (by omega) (by omega) O (by rw[Mf];omega);have R5:Hid (RdF wr br t j (d+1)):=RdF.of R4.out F.out ⟨Ne.symm C,by omega⟩;have F5:Hid (Fr (·≠br) w wr):=F4.out.fresh3 F.out O (by omega);clear A F R4 F4 E4 a5;go_wp2_with (go_at_call 146;refine(HL.out _ _ R5.out).mono ?_;rintro e w6 ⟨rfl,hr,y⟩;have R6:Hid (RdF w6 br t j d):=hr;have F6:Hid (Fr (·≠br) w w6):=F5.out.trans y;have T6:Hid (Af (fun k=>w.heap.size<=k) w6 (Kl (G8 l)) (.pointer (some ⟨n,0,none⟩))):=T5.out.fr (y.mono fun k q=>by omega) fun _ _ q=>q;clear hr y)
   go_ret
   rw[HQ.out];exact⟨F6.out,⟨_,rfl,T6.out⟩,R6.out⟩
end Go.Proofs.YtjbfcadeapphbaaGreatDoor.Sx
