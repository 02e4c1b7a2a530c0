/- The reference: the set of values. -/
import Derived.Test.YtdpeliifdlhhkaaGreatDoorM12
import Derived.Test.YtdpeliifdlhhkaaGreatDoorM05
import Derived.Test.YtdpeliifdlhhkaaGreatDoorM10
namespace Go.Proofs.YtdpeliifdlhhkaaGreatDoor.Sx
open Go.RowKit Go.Sort Tryz
set_option maxRecDepth 100000
set_option maxHeartbeats 4000000
theorem Fr.top {a b c:World}{B:Nat}(h:Fr (fun _=>True) a b)(k:Fr (fun k=>k<B) b c)(hB:a.heap.size<=B):Fr (fun _=>True) a c :=
 ⟨k.os.trans h.os,k.tape.trans h.tape,k.output.trans h.output,Ae0 h.size k.size,fun i hi _=>(k.block i (Ad8 hi h.size) (Ad8 hi hB)).trans (h.block i hi trivial)⟩
def B6 (n:Nat)(es:List (AV n))(x:AV n):Nat:=(es.filter fun y=>decide (Al n y x<0)).length
def Ch (n:Nat)(es:List (AV n))(x:AV n):Bool:=es.any fun y=>Al n y x==0
theorem Q7 {n:Nat}{x:AV n}:∀(es:List (AV n)),Asc (Al n) es->∀(j:Nat)(y:AV n),es[j]?=some y->(j<B6 n es x↔Al n y x<0)
 | [],_,j,y,h=>by simp at h
 | e::es,hA,j,y,h=>by
  obtain⟨h1,h2⟩:=List.pairwise_cons.1 hA;by_cases hc:Al n e x<0
  ·have hp:B6 n (e::es) x=B6 n es x+1:=by simp[B6,hc]
   rw[hp];cases j with
   | zero=>simp at h;subst h;simp[hc]
   | succ j=>rw[<- Q7 es h2 j y (by simpa using h)];omega
  ·have a:∀z∈es,¬Al n z x<0:=fun z hz q=>hc (dK (h1 z hz) q);have hp:B6 n (e::es) x=0:=by
    unfold B6;rw[List.filter_cons,if_neg (by simpa using hc),List.filter_eq_nil_iff.2 (fun z hz=>by simpa using a z hz)];rfl
   rw[hp];refine⟨fun q=>by omega,fun q=>?_⟩;cases j with
   | zero=>simp at h;subst h;exact absurd q hc
   | succ j=>exact absurd q (a y (Ae4 (by simpa using h)))
theorem E6 {n:Nat}{es:List (AV n)}{x:AV n}(hA:Asc (Al n) es):Mn n es x (B6 n es x) (Ch n es x):=by
 have b:B6 n es x<=_:=List.length_filter_le _ _;refine⟨b,fun hf=>?_,fun hf j y hy=>⟨fun q=>(Q7 es hA j y hy).1 q,fun q=>?_⟩⟩
 ·obtain⟨y,hy,e⟩:=List.any_eq_true.1 hf;have d:=(Em n y x).1 (by simpa using e);subst d;obtain⟨j,a⟩:=List.mem_iff_getElem?.1 hy;have g:¬j<B6 n es y:=fun q=>by
   have:=(Q7 es hA j y a).1 q;rw[(ord n).self] at this;omega
  have h:¬_<j:=fun q=>by
   have c:B6 n es y<es.length:=by have:=(List.getElem?_eq_some_iff.1 a).1;omega
   have f:=List.getElem?_eq_getElem c;have:=Mo hA q f a;have:=(Q7 es hA _ _ f).2 this;omega
  rw[show B6 n es y=j by omega];exact a
 ·have g:¬Al n y x<0:=fun e=>by have:=(Q7 es hA j y hy).2 e;omega
  have h:Al n y x≠0:=fun e=>by
   have:=List.any_eq_false.1 hf y (Ae4 hy);simp[e] at this
  omega
theorem Mn.one {n:Nat}{es:List (AV n)}{x:AV n}{i:Nat}{f:Bool}(h:Mn n es x i f)(hA:Asc (Al n) es):i=B6 n es x/\f=Ch n es x:=by
 have k:=E6 (x:=x) hA;have m:∀(i j:Nat),es[i]?=some x->es[j]?=some x->i=j:=fun i j hi hj=>by
  have o:=(ord n).self x;rcases Nat.lt_trichotomy i j with q|q|q
  ·have:=Mo hA q hi hj;omega
  ·exact q
  ·have:=Mo hA q hj hi;omega
 cases f with
 | true =>
  have l:=h.yes rfl;have c:Ch n es x=true:=List.any_eq_true.2 ⟨x,Ae4 l,by simp[(ord n).self x]⟩;exact⟨m _ _ l (k.yes c),c.symm⟩
 | false =>
  have e:=h.no rfl;have c:Ch n es x=false:=by
   cases q:Ch n es x with
   | false=>rfl
   | true =>
    have l:=k.yes q;have:=e _ x l;rw[(ord n).self] at this;omega
  have g:=k.no c;refine⟨?_,c.symm⟩;rcases Nat.lt_trichotomy i (B6 n es x) with q|q|q
  ·have d:i<es.length:=by have:=k.le;omega
   have a:=(e i _ (List.getElem?_eq_getElem d)).2 (Ad9 _);have b:=(g i _ (List.getElem?_eq_getElem d)).1 q;omega
  ·exact q
  ·have d:B6 n es x<es.length:=by have:=h.le;omega
   have a:=(g _ _ (List.getElem?_eq_getElem d)).2 (Ad9 _);have b:=(e _ _ (List.getElem?_eq_getElem d)).1 q;omega
theorem J8 (n:Nat)(P:Nat->Prop)(w:World)(a:Option Addr)(len cap:Nat)(es:List (AV n))(x:AV n)(v:Value)(h1:Bm P w (Ref P w n) a len es)(hx:Ref P w n x v)(hA:Asc (Al n) es)(hv:∃c0 c1 c2 c3 c4,v=.agg #[c0,c1,c2,c3,c4]) :
  Calls prog 83 #[.slice a len cap,v] w fun e w'=>e=.returned (.tuple #[.int .i64 (B6 n es x),.bool (Ch n es x)])/\Ac w w':=by
 refine(nR n P w a len cap es x v h1 hx hA hv).mono ?_;rintro e w' ⟨i,f,rfl,b,c⟩;obtain⟨rfl,rfl⟩:=c.one hA;exact⟨rfl,b⟩
theorem Mn.asc {n:Nat}{es:List (AV n)}{x:AV n}{i:Nat}(h:Mn n es x i false)(hA:Asc (Al n) es):Asc (Al n) (es.take i++x::es.drop i):=by
 have f:=h.no rfl;unfold Asc at *;rw[List.pairwise_append];refine⟨hA.sublist (List.take_sublist _ _),List.pairwise_cons.2 ⟨fun y hy=>?_,hA.sublist (List.drop_sublist _ _)⟩,fun a ha b hb=>?_⟩
 ·obtain⟨j,c⟩:=List.mem_iff_getElem?.1 hy;rw[List.getElem?_drop] at c;have:=(f _ y c).2 (by omega);have k:=(ord n).anti y x;omega
 ·obtain⟨j,c⟩:=List.mem_iff_getElem?.1 ha;have e:j<i:=by
   have:=(List.getElem?_eq_some_iff.1 c).1;rw[List.length_take] at this;omega
  rw[List.getElem?_take_of_lt e] at c;have g:=(f _ a c).1 e;rcases List.mem_cons.1 hb with rfl|hb
  ·exact g
  ·obtain⟨l,d⟩:=List.mem_iff_getElem?.1 hb;rw[List.getElem?_drop] at d;exact Mo hA (by omega) c d
theorem lI {α:Type}(es:List α)(x z:α)(i:Nat):z∈es.take i++x::es.drop i↔z=x\/z∈es:=by
 have:z∈es↔z∈es.take i++es.drop i:=by rw[List.take_append_drop]
 rw[this];simp only[List.mem_append,List.mem_cons];constructor
 ·rintro(h|h|h)
  ·exact .inr (.inl h)
  ·exact .inl h
  ·exact .inr (.inr h)
 ·rintro(h|h|h)
  ·exact .inr (.inl h)
  ·exact .inl h
  ·exact .inr (.inr h)
def Are (P:Nat->Prop)(w:World)(n:Nat)(es:List (AV n))(hs:List H5):Prop :=
 hs.length=es.length/\∀(i:Nat)(x:AV n)(h:H5),es[i]?=some x->hs[i]?=some h->Ref P w n x h.v
theorem Are.put {P:Nat->Prop}{w:World}{n:Nat}{es:List (AV n)}{hs:List H5}(h:Are P w n es hs){x:AV n}{u:H5}(hx:Ref P w n x u.v)(i:Nat)(hi:i<=es.length):Are P w n (es.take i++x::es.drop i) (hs.take i++u::hs.drop i):=by
 have c:=h.1;refine⟨by simp[c],fun j y g hy hg=>?_⟩;have a:(es.take i).length=i:=by rw[List.length_take];omega
 have b:(hs.take i).length=i:=by rw[List.length_take];omega
 rcases Nat.lt_trichotomy j i with q|q|q
 ·rw[List.getElem?_append_left (by omega),List.getElem?_take_of_lt q] at hy hg;exact h.2 j y g hy hg
 ·subst q;rw[List.getElem?_append_right (by omega),a,Nat.sub_self] at hy;rw[List.getElem?_append_right (by omega),b,Nat.sub_self] at hg;simp at hy hg;subst hy hg;exact hx
 ·rw[List.getElem?_append_right (by omega),a] at hy;rw[List.getElem?_append_right (by omega),b] at hg;obtain⟨m,d⟩:∃m,j-i=m+1:=⟨j-i-1,by omega⟩;rw[d,List.getElem?_cons_succ,List.getElem?_drop] at hy hg;exact h.2 _ y g hy hg
theorem Ref.ones {P:Nat->Prop}{w:World}:∀{n:Nat} {x:AV n} {v:Value},Ref P w n x v->∃h:H5,v=h.v
 | 0,_,_,h=>absurd h id
 | n+1,x,v,h=>by
  obtain⟨s,ka,kl,kc,va,vl,vc,e,_⟩:=h;exact⟨⟨_,_,_,_,_,rfl,rfl,rfl,rfl,rfl⟩,e⟩
theorem Tn {w wr:World}{base n:Nat}{P:Nat->Prop}{sl:Value}{es:List (AV n)}{hs:List H5}(ho:wr.ownsRow base 30 5 sl hs.length (Bi hs))(ha:Are P w n es hs)(hl:hs.length<=4294967296)(hf:Fr P w wr):∃a len cap,sl=.slice a len cap/\Bm (fun _=>True) wr (Ref (fun _=>True) wr n) a len es:=by
 rcases ho.2 with⟨rfl,d⟩|⟨g,cap,c,rfl,o⟩
 ·have:=List.eq_nil_of_length_eq_zero (by rw[<- ha.1];exact d);subst this;exact⟨none,0,0,rfl,B9 _ _ _ _⟩
 ·have O:=(Gh.of ho).1;refine⟨_,_,_,rfl,ha.1,hl,.inr ⟨g,0,rfl,O.lt,trivial,fun i x hx=>?_⟩⟩;have e:=(List.getElem?_eq_some_iff.1 hx).1;obtain⟨h,b⟩:∃h,hs[i]?=some h:=⟨_,List.getElem?_eq_getElem (by rw[ha.1];exact e)⟩;obtain⟨⟨f,j,k,l,m⟩,_⟩:=O.at b;refine⟨h.v,⟨h.c0,h.c1,h.c2,h.c3,h.c4,rfl,?_,?_,?_,?_,?_⟩,(ha.2 i x h hx b).fr hf (fun _ _ _=>trivial) n x h.v⟩
  all_goals rw[Nat.zero_add];assumption
structure Ng (n:Nat)(es:List (AV n))(k:Nat)(acc:List (AV n)):Prop where
 asc:Asc (Al n) acc
 mem:∀z,z∈acc↔z∈es.take k
 len:acc.length<=k
theorem Ng.start (n:Nat)(es:List (AV n)):Ng n es 0 []:=⟨List.Pairwise.nil,fun z=>by simp,Ad9 _⟩
theorem Ng.skip {n:Nat}{es:List (AV n)}{k:Nat}{acc:List (AV n)}{x:AV n}(h:Ng n es k acc)(hx:es[k]?=some x)(hin:Ch n acc x=true):Ng n es (k+1) acc:=by
 refine⟨h.asc,fun z=>?_,by have:=h.len;omega⟩;rw[List.take_add_one,hx,List.mem_append,<- h.mem z];constructor
 ·exact .inl
 ·rintro(q|q)
  ·exact q
  ·simp at q;subst q;exact Ae4 ((E6 h.asc).yes hin)
theorem Ng.put {n:Nat}{es:List (AV n)}{k:Nat}{acc:List (AV n)}{x:AV n}(h:Ng n es k acc)(hx:es[k]?=some x)(hin:Ch n acc x=false):Ng n es (k+1) (acc.take (B6 n acc x)++x::acc.drop (B6 n acc x)):=by
 have a:=E6 (x:=x) h.asc;rw[hin] at a;refine⟨a.asc h.asc,fun z=>?_,?_⟩
 ·rw[lI,List.take_add_one,hx,List.mem_append,<- h.mem z];constructor
  ·rintro(q|q)
   ·exact .inr (by simp[q])
   ·exact .inl q
  ·rintro(q|q)
   ·exact .inr q
   ·exact .inl (by simpa using q)
 ·have:=h.len;have:=a.le;rw[List.length_append,List.length_cons,List.length_take,List.length_drop];omega
theorem Ng.done {n:Nat}{es acc:List (AV n)}(h:Ng n es es.length acc):acc=Eo (Al n) es:=by
 refine aF (ord n) _ _ h.asc (Lp (ord n) (fun a b e=>(Em n a b).1 e) es) (fun z=>?_);rw[h.mem z,List.take_length];exact(J6 (fun a b e=>(Em n a b).1 e) es z).symm
theorem Bo {w w':World}{base:Nat}{sl:Value}{n:Nat}{vs:List Value}(h:w.ownsRow base 30 5 sl n vs)(hb:∀g,base<=g->g<w.heap.size->w'.heap[g]?=w.heap[g]?):w'.ownsRow base 30 5 sl n vs:=by
 refine⟨h.1,?_⟩;rcases h.2 with f|⟨g,a,b,e,c,d,r⟩
 ·exact .inl f
 ·exact .inr ⟨g,a,b,e,c,(hb g c (Aa d)).trans d,r⟩
theorem Ca (w:World)(base:Nat):w.ownsRow base 30 5 (.slice none 0 0) 0 (Bi []):=⟨rfl,.inl ⟨rfl,rfl⟩⟩
theorem Bu {w wr:World}{base n:Nat}{P Q:Nat->Prop}{sl:Value}{es:List (AV n)}{hs:List H5}(ho:wr.ownsRow base 30 5 sl hs.length (Bi hs))(ha:Are P w n es hs)(hl:hs.length<=4294967296)(hf:Fr P w wr)(h1:∀g,base<=g->Q g)(h2:∀k,k<w.heap.size->P k->Q k):∃a len cap,sl=.slice a len cap/\Bm Q wr (Ref Q wr n) a len es:=by
 rcases ho.2 with⟨rfl,d⟩|⟨g,cap,c,rfl,e,_⟩
 ·have:=List.eq_nil_of_length_eq_zero (by rw[<- ha.1];exact d);subst this;exact⟨none,0,0,rfl,B9 _ _ _ _⟩
 ·have O:=(Gh.of ho).1;refine⟨_,_,_,rfl,ha.1,hl,.inr ⟨g,0,rfl,O.lt,h1 g e,fun i x hx=>?_⟩⟩;have f:=(List.getElem?_eq_some_iff.1 hx).1;obtain⟨h,b⟩:∃h,hs[i]?=some h:=⟨_,List.getElem?_eq_getElem (by rw[ha.1];exact f)⟩;obtain⟨⟨j,l,m,o,p⟩,_⟩:=O.at b;refine⟨h.v,⟨h.c0,h.c1,h.c2,h.c3,h.c4,rfl,?_,?_,?_,?_,?_⟩,(ha.2 i x h hx b).fr hf h2 n x h.v⟩
  all_goals rw[Nat.zero_add];assumption
theorem Hm {w:World}{b b' i j:Nat}{u v:Value}(h:w.cell? ⟨b',i,none⟩=some v)(hb:b'≠b):(w.setCell ⟨b,j,none⟩ u).cell? ⟨b',i,none⟩=some v :=
 (World.cell?_setCell_other w _ _ u (fun e=>hb (congrArg Addr.block e).symm)).trans h
def dM (n:Nat)(P:Nat->Prop)(w:World)(r:AV n)(e:Ending)(w':World):Prop :=
 ∃v,e=.returned v/\Ref (fun k=>P k\/w.heap.size<=k) w' n r v/\Fr (fun _=>True) w w'
theorem Qh {w w':World}(h:Fr (fun _=>True) w w'){b:Nat}(hb:w.heap.size<=b)(o:Nat)(c0 c1 c2 c3 c4:Value):Fr (fun _=>True) w (Ao w' b o c0 c1 c2 c3 c4):=by
 have a:Fr (fun k=>k<w.heap.size) w (Ao w' b o c0 c1 c2 c3 c4):=Cz (h.mono (fun _ _=>trivial)) (by omega) _ _ _ _ _ _;exact⟨a.os,a.tape,a.output,a.size,fun i hi _=>a.block i hi hi⟩
theorem vS {w W1 w':World}{g cap L:Nat}{hs:List H5}{sl0:Value}(OW:Gh w' (w.heap.size+2) g cap hs)(hl:hs.length=L)(BW:w'.heap[w.heap.size+1]?=some (.cells #[.int .i64 5,.int .i64 0,.string ⟨#[]⟩,sl0,.slice none 0 0] 30 (0,0)))
  (HR:W1.heap[w.heap.size]?=some (.cells #[.int .i64 0,.int .i64 0,.string ⟨#[]⟩,.slice none 0 0,.slice none 0 0] 30 (0,0))) (FW:Fr (fun k=>k<w.heap.size+2) W1.drew w') (HF:Fr (fun _=>True) w W1) :
  (w'.setCell ⟨w.heap.size+1,3,none⟩ (.slice (some ⟨g,0,none⟩) L cap)).ownsRow (w.heap.size+2) 30 5 (.slice (some ⟨g,0,none⟩) L cap) hs.length (Bi hs) /\
  (w'.setCell ⟨w.heap.size+1,3,none⟩ (.slice (some ⟨g,0,none⟩) L cap)).heap[w.heap.size+1]?=some (.cells #[.int .i64 5,.int .i64 0,.string ⟨#[]⟩,.slice (some ⟨g,0,none⟩) L cap,.slice none 0 0] 30 (0,0)) /\
  (w'.setCell ⟨w.heap.size+1,3,none⟩ (.slice (some ⟨g,0,none⟩) L cap)).heap[w.heap.size]?=some (.cells #[.int .i64 0,.int .i64 0,.string ⟨#[]⟩,.slice none 0 0,.slice none 0 0] 30 (0,0)) /\
  Fr (fun _=>True) w (w'.setCell ⟨w.heap.size+1,3,none⟩ (.slice (some ⟨g,0,none⟩) L cap)):=by
 have c:=OW.low;refine⟨?_,Ai BW 3 _,?_,?_⟩
 ·have h:=OW.owns;rw[hl] at h |-;exact Bo h (fun q hq _=>Below.heap_setCell _ _ _ _ (by simp;omega))
 ·exact(Below.heap_setCell _ _ _ _ (by simp)).trans ((FW.block w.heap.size (Aa HR) (by omega)).trans HR)
 ·have b:=Fr.top (HF.trans (Fr.grew ((Ac.refl W1).drew))) FW (by omega);have a:Fr (fun k=>k<w.heap.size) w (w'.setCell ⟨w.heap.size+1,3,none⟩ (.slice (some ⟨g,0,none⟩) L cap)):=(b.mono (fun _ _=>trivial)).set (by simp) _;exact⟨a.os,a.tape,a.output,a.size,fun i hi _=>a.block i hi hi⟩
theorem Ut {α:Type}(l:List α)(x:α)(i:Nat)(h:i<=l.length):(l.take i++x::l.drop i).length=l.length+1:=by
 rw[List.length_append,List.length_cons,List.length_take,List.length_drop];omega
theorem G6 (n:Nat)(P:Nat->Prop)(w:World)(a:Option Addr)(len cap:Nat)(es:List (AV n)){Q0:Nat->Prop}(h:Bm Q0 w (Ref P w n) a len es)(hl:len<=1048576)(hW:∀x∈es,wtR n x=wt n x/\wt n x<=1024) :
  Calls prog 44 #[.slice a len cap] w (dM (n+1) P w (mkS (wt n) (Eo (Al n) es):Ag (AV n))):=by
 obtain⟨e1,F,r1⟩:=h;have E1:Hid (len=es.length):=e1;clear e1;have HW:Hid _:=hW;clear hW;have mo:=follows;go_enter func44,ntmps44
 go_wp2_with fail
 have G:Hid (((w.alloc (.cells #[.int .i64 0,.int .i64 0,.string ⟨#[]⟩,.slice none 0 0,.slice none 0 0] 30)).alloc _).heap[w.heap.size+1]?=some (.cells #[.int .i64 5,.int .i64 0,.string ⟨#[]⟩,.slice none 0 0,.slice none 0 0] 30 (0,0))):=Af (by simp);have I:Hid (((w.alloc (.cells #[.int .i64 0,.int .i64 0,.string ⟨#[]⟩,.slice none 0 0,.slice none 0 0] 30)).alloc (.cells #[.int .i64 5,.int .i64 0,.string ⟨#[]⟩,.slice none 0 0,.slice none 0 0] 30)).heap[w.heap.size]?=_):=Ac1 ((Ac.refl _).alloc _).below (Af rfl);have H:Hid (Fr (fun _=>True) w ((w.alloc (.cells #[.int .i64 0,.int .i64 0,.string ⟨#[]⟩,.slice none 0 0,.slice none 0 0] 30)).alloc (.cells #[.int .i64 5,.int .i64 0,.string ⟨#[]⟩,.slice none 0 0,.slice none 0 0] 30))):=Fr.grew (((Ac.refl w).alloc _).alloc _);generalize World.alloc _ _=W0 at G I H |-;go_loopw [4] (fun s wr=>∃(k:Nat)(b:List (AV n))(C:List H5)(sl:Value),s=.int .i64 k/\k<=len/\Hid (Ng n es k b)/\Hid (Are P w n b C)/\Hid (wr.ownsRow (w.heap.size+2) 30 5 sl C.length (Bi C))/\Hid (wr.heap[w.heap.size+1]?=some (.cells #[.int .i64 5,.int .i64 0,.string ⟨#[]⟩,sl,.slice none 0 0] 30 (0,0)))/\Hid (wr.heap[w.heap.size]?=some (.cells #[.int .i64 0,.int .i64 0,.string ⟨#[]⟩,.slice none 0 0,.slice none 0 0] 30 (0,0)))/\Hid (Fr (fun _=>True) w wr)) (fun s _=>len-(intOf s).toNat)
 case atStart=>exact⟨0,[],[],_,rfl,Ae1 _,Ng.start n es,⟨rfl,fun i x h hx=>by simp at hx⟩,Ca _ _,G,I,H⟩
 case round =>
  clear G I H;obtain⟨k,b,C,sl,rfl,hk,o,HA,HO,HB,HR,l⟩:=hrel;have b7:C.length<=1048576:=by have:=o.out.len;have:=HA.out.1;omega
  have zb:=Aa HB.out;by_cases c6:k<len
  ·have hx:k<es.length:=by rw[<- E1.out];exact c6
   have S:=List.getElem?_eq_getElem hx;obtain⟨p1,o1,rfl,b8,c9,b6⟩:=r1.resolve_left (by omega);obtain⟨v1,c0,B⟩:=b6 k es[k] S;obtain⟨u,rfl⟩:=B.ones;have c7:=c0.fr (l.out.block p1 b8 trivial);obtain⟨x0,x1,x2,x3,x4,eu,g0,g1,g2,g3,g4⟩:=c7;have V:=Ad8 b8 l.out.size;obtain⟨X,Z,Y,rfl,c⟩:=Tn HO.out HA.out (by omega) (l.out.mono (fun _ _=>trivial));have b9:=B.fr (l.out.mono (fun _ _=>trivial)) (fun _ _ _=>trivial) n es[k] u.v;have y:Hid (∀W:World,_->Calls _ 83 #[_,.agg #[x0,x1,x2,x3,x4]] W _):=fun W hW=>by
    rw[<- eu];exact J8 n _ W X Z Y b es[k] u.v (c.grew hW) (b9.grew hW) o.out.asc ⟨_,_,_,_,_,eu⟩
   have K:Hid _:=o.out.skip S;have A:Hid _:=o.out.put S;have p:Hid (B6 n b es[k]<=_/\Are P w n _ (_++u::C.drop (B6 n b es[k]))) :=
    ⟨(E6 o.out.asc).le,HA.out.put B _ (E6 o.out.asc).le⟩
   have c2:=HA.out.1;clear b6 c0 B r1 c b9 o;generalize B6 n b es[k]=pp at y A p;generalize hb:Ch n b es[k]=bb at y K A;clear hb;have i0:=cell_grown V g0;have i1:=cell_grown V g1;have i2:=cell_grown V g2;have i3:=cell_grown V g3;have i4:=cell_grown V g4;have j3:=cell_grown zb (Ab HB.out 3);clear g0 g1 g2 g3 g4;go_wp2_with fail
   go_quiet_grown (first|(go_at_call 83;refine Ae3 (y.out _ ⟨_,_,rfl⟩)))
   have G1:Ac wr _:=⟨nq,osq,rfl⟩;have t:Hid ((grow (wr.drewN nq) osq).ownsRow _ 30 5 _ _ _):=Bo HO.out (fun g _ hg=>G1.below.block g hg);have d:Hid _:=Ac1 G1.below HB.out;have z:Hid _:=Ac1 G1.below HR.out;have r:Hid _:=l.out.trans (Fr.grew G1);have m0:=i0 nq osq;have m1:=i1 nq osq;have m2:=i2 nq osq;have m3:=i3 nq osq;have m4:=i4 nq osq;have n1:=Ad8 V G1.below.size;show Exit.then _ _ _ _ (grow (wr.drewN nq) osq);clear i0 i1 i2 i3 i4 j3 y HO HB HR l G1 V zb;generalize grow _ osq=W1 at t d z r m0 m1 m2 m3 m4 n1 |-;clear nq osq;have zb:=Aa d.out;cases bb with
   | true =>
    have L:Hid _:=K.out rfl;clear m0 m1 m2 m3 m4;go_wp2_with fail
    go_roundw
    case rel=>exact⟨k+1,b,C,_,by go_num,by omega,L,HA,t,d,z,r⟩
    case measure=>simp[intOf];omega
   | false =>
    have L:Hid _:=A.out rfl;have a8:Hid (∀W:World,Ac W1 W->Calls _ 84 #[_,_,.agg #[x0,x1,x2,x3,x4]] W _):=fun W hW=>by
     rw[<- eu];exact vR W _ _ C u pp (by rw[c2];exact p.out.1) (Bo t.out (fun g _ hg=>hW.below.block g hg)) (by have:=hW.below.size;omega) b7
    have c3:=Ab d.out 3;have f3:=Ad d.out 3;clear K A;go_wp2_with fail
    have d7:p1<w.heap.size+2:=by omega
    have d8:p1≠w.heap.size+1:=by omega
    have c4:W1.drew.cell? _=some (.slice X Z Y):=c3;have d0:W1.drew.cell? _=some x0:=m0;have d1:W1.drew.cell? _=some x1:=m1;have d2:W1.drew.cell? _=some x2:=m2;have d3:W1.drew.cell? _=some x3:=m3;have d4:W1.drew.cell? _=some x4:=m4;go_region_with (go_at_call 84;refine(a8.out _ ?_).mono ?_;exact(Ac.refl W1).drew;rintro e j ⟨g,b5,rfl,ho,hf⟩;have qb:=(hf.block (w.heap.size+1) zb (by omega)).trans d.out;have q5:=Ab qb 3;have q6:=Ad qb 3;have OW:Hid (Gh j _ g b5 _):=ho;have FW:Hid (Fr _ W1.drew j):=hf;have BW:Hid (_=_):=qb;clear ho hf qb)
    all_goals clear d0 d1 d2 d3 d4 c4 m0 m1 m2 m3 m4 c3 f3 q5 q6 a8
    all_goals have c5:=(Ut C u pp (by have:=p.out.1;omega)).trans (show _+1=b.length+1 by omega)
    all_goals obtain⟨ko,kb,kr,kf⟩:=vS OW.out c5 BW.out z.out FW.out r.out
    all_goals have a7:Hid _:=ko
    all_goals have a5:Hid _:=kb
    all_goals have a9:Hid _:=kr
    all_goals have a6:Hid _:=kf
    all_goals clear ko kb kr kf
    all_goals clear OW FW BW t d z r
    all_goals generalize j.setCell _ _=WN at a7 a5 a9 a6 |-
    all_goals go_wp2_with fail
    all_goals go_roundw
    all_goals first|exact⟨k+1,_,_,_,by go_num,by omega,L,p.out.2,a7,a5,a9,a6⟩|(simp[intOf];omega)
  ·have d6:k=len:=by omega
   subst k;have HD:Hid (b=Eo (Al n) es):=by
    have h:=o.out;rw[E1.out] at h;exact h.done
   obtain⟨X,Z,Y,rfl,c⟩:=Bu (Q:=fun k=>(k<_/\P k)\/_+2<=k) HO.out HA.out (by omega) (l.out.mono (fun _ _=>trivial)) (fun g hg=>.inr hg) (fun k hk hp=>.inl ⟨hk,hp⟩);have m:=fun x hx=>HW.out x (List.mem_of_mem_take ((o.out.mem x).1 hx));have c1:=Dz b (fun x hx=>(m x hx).1);have c8:=Mh (wt n) b (fun x hx=>(m x hx).2);have d5:b.length<=1048576:=by have:=o.out.len;omega
   have T:Ref _ wr (n+1) (Bt b:_) (.agg #[.int .i64 5,.int .i64 0,_,_,_]):=⟨⟨#[]⟩,X,Z,Y,none,0,0,rfl,rfl,c,B9 _ _ _ _,Ad9 _⟩;have U:wtR (n+1) (Bt b:_)=1+wtL (wt n) b:=by show 1+wtL (wtR n) b+0=_;rw[c1];rfl
   have f:Hid _:=fun W hW=>by
    have:=Lu n _ W _ _ (T.grew hW) (by rw[U];omega);rw[U] at this;exact this
   have J:Hid (Ref _ wr (n+1) _ _):=T;have HM:Hid ((mkS (wt n) (Eo (Al n) es):_)=if 1+wtL (wt n) b<=1024 then Bt b else Ar):=by show _=_;rw[<- HD.out];rfl
   obtain⟨a0,a1,a2,a3,a4⟩:=Ah HB.out;clear T c m c1 c8 U r1;generalize 1+wtL (wt n) b=q at f HM;by_cases hq:q<=1024
   ·rw[if_pos hq] at f HM;go_wp2_with fail
    refine(f.out wr (Ac.refl _)).mono ?_;rintro e j ⟨rfl,hg⟩;have D:Hid (_=_):=Ac1 hg.below HR.out;have RF:Hid (Ref _ j (n+1) _ _):=J.out.grew hg;have FF:Hid _:=l.out.trans (Fr.grew hg);clear a0 a1 a2 a3 a4 hg J l;obtain⟨M,F,N,O,R⟩:=Ah D.out;obtain⟨f0,f1,f2,f3,f4⟩:=Ax D.out;have z2:=Aa D.out;go_wp2_with fail
    change bodyPost _ _ _ _ _ (Ao j _ 0 _ _ _ _ _);have E:=Bc D.out (.int .i64 5) (.int .i64 0) (.string ⟨#[]⟩) (.slice X Z Y) (.slice none 0 0);rw[HM.out];have R1:Ref (fun k=>P k\/w.heap.size<=k) (Ao j w.heap.size 0 (.int .i64 5) (.int .i64 0) (.string ⟨#[]⟩) (.slice X Z Y) (.slice none 0 0)) (n+1) _ _:=RF.out.fr (Cz (Fr.refl _ j) (by omega) _ _ _ _ _ _) (fun k _ hk=>hk.elim (fun q=>.inl q.2) (fun q=>.inr (by omega))) _ _ _;have R2:=Qh FF.out (Ad9 _) 0 (.int .i64 5) (.int .i64 0) (.string ⟨#[]⟩) (.slice X Z Y) (.slice none 0 0);clear M F N O R f0 f1 f2 f3 f4;generalize Ao j _ 0 _ _ _ _ _=WZ at E R1 R2 |-;obtain⟨M,F,N,O,R⟩:=Ah E;exact Ae2 (by simp[results,results44,go_sem,M,F,N,O,R]) rfl ⟨_,rfl,R1,R2⟩
   ·rw[if_neg hq] at f HM;unfold Bk at f;go_wp2_with fail
    refine(f.out wr (Ac.refl _)).mono ?_;rintro e j ⟨rfl,hg⟩;have D:Hid (_=_):=Ac1 hg.below HR.out;have FF:Hid _:=l.out.trans (Fr.grew hg);clear a0 a1 a2 a3 a4 hg J l;obtain⟨M,F,N,O,R⟩:=Ah D.out;obtain⟨f0,f1,f2,f3,f4⟩:=Ax D.out;have z2:=Aa D.out;go_wp2_with fail
    change bodyPost _ _ _ _ _ (Ao j _ 0 _ _ _ _ _);have E:=Bc D.out (.int .i64 0) (.int .i64 0) (.string ⟨#[]⟩) (.slice none 0 0) (.slice none 0 0);rw[HM.out];have R2:=Qh FF.out (Ad9 _) 0 (.int .i64 0) (.int .i64 0) (.string ⟨#[]⟩) (.slice none 0 0) (.slice none 0 0);clear M F N O R f0 f1 f2 f3 f4;generalize Ao j _ 0 _ _ _ _ _=WZ at E R2 |-;obtain⟨M,F,N,O,R⟩:=Ah E;exact Ae2 (by simp[results,results44,go_sem,M,F,N,O,R,Bk]) rfl ⟨_,rfl,Cm _ _ n,R2⟩
def cPr (n:Nat)(a b:AV n×AV n):Int:=Al n a.1 b.1
theorem rR (n:Nat):Er (cPr n):=(ord n).pull Prod.fst
structure Lw (n:Nat)(ps:List (AV n×AV n))(k:Nat)(acc:List (AV n×AV n)):Prop where
 asc:Asc (Al n) (acc.map Prod.fst)
 find:∀z,acc.find? (fun y=>cPr n z y==0)=(ps.take k).find? (fun y=>cPr n z y==0)
 mem:∀p∈acc,p∈ps
 len:acc.length<=k
theorem Lw.start (n:Nat)(ps:List (AV n×AV n)):Lw n ps 0 []:=⟨List.Pairwise.nil,fun z=>by simp,fun p h=>by simp at h,Ad9 _⟩
theorem dN {n:Nat}{acc:List (AV n×AV n)}{x:AV n}:Ch n (acc.map Prod.fst) x=true↔∃p∈acc,p.1=x:=by
 unfold Ch;rw[List.any_eq_true];constructor
 ·rintro⟨y,b,e⟩;obtain⟨p,a,rfl⟩:=List.mem_map.1 b;exact⟨p,a,(Em n _ _).1 (by simpa using e)⟩
 ·rintro⟨p,a,rfl⟩;exact⟨p.1,List.mem_map.2 ⟨p,a,rfl⟩,by simp[(ord n).self]⟩
theorem Lw.skip {n:Nat}{ps:List (AV n×AV n)}{k:Nat}{acc:List (AV n×AV n)}{p:AV n×AV n}(h:Lw n ps k acc)(hp:ps[k]?=some p)(hin:Ch n (acc.map Prod.fst) p.1=true):Lw n ps (k+1) acc:=by
 refine⟨h.asc,fun z=>?_,h.mem,by have:=h.len;omega⟩;rw[List.take_add_one,hp,List.find?_append,<- h.find z];cases a:acc.find? (fun y=>cPr n z y==0) with
 | some y=>rfl
 | none =>
  have c:(cPr n z p==0)=false:=by
   obtain⟨q,b,e⟩:=dN.1 hin;have:=List.find?_eq_none.1 a q b;simp only[cPr,e] at this |-;simpa using this
  simp[c]
theorem Lw.put {n:Nat}{ps:List (AV n×AV n)}{k:Nat}{acc:List (AV n×AV n)}{p:AV n×AV n}(h:Lw n ps k acc)(hp:ps[k]?=some p)(hin:Ch n (acc.map Prod.fst) p.1=false):Lw n ps (k+1) (acc.take (B6 n (acc.map Prod.fst) p.1)++p::acc.drop (B6 n (acc.map Prod.fst) p.1)):=by
 have c:=E6 (x:=p.1) h.asc;rw[hin] at c;have d:=c.le;rw[List.length_map] at d;refine⟨?_,fun z=>?_,fun q hq=>?_,?_⟩
 ·have:=c.asc h.asc;rw[List.map_append,List.map_cons,List.map_take,List.map_drop];exact this
 ·rw[List.take_add_one,hp,List.find?_append,List.find?_append,<- h.find z,List.find?_cons];have b:acc.find? (fun y=>cPr n z y==0)=((acc.take (B6 n (acc.map Prod.fst) p.1)).find? (fun y=>cPr n z y==0)).or ((acc.drop (B6 n (acc.map Prod.fst) p.1)).find? (fun y=>cPr n z y==0)):=by
   rw[<- List.find?_append,List.take_append_drop]
  cases f:cPr n z p==0 with
  | true =>
   have a:acc.find? (fun y=>cPr n z y==0)=none:=by
    rw[List.find?_eq_none];intro q hq e;have g:=(Em n _ _).1 (by simpa [cPr] using f);have i:=(Em n _ _).1 (by simpa [cPr] using e);have:=dN.2 ⟨q,hq,by rw[<- i,g]⟩;rw[hin] at this;simp at this
   have j:(acc.take (B6 n (acc.map Prod.fst) p.1)).find? (fun y=>cPr n z y==0)=none:=by
    rw[List.find?_eq_none] at a |-;exact fun q hq=>a q (List.mem_of_mem_take hq)
   rw[a,j];simp[f]
  | false =>
   rw[b];simp[f]
 ·rcases(lI acc p q _).1 hq with rfl|hq
  ·exact Ae4 hp
  ·exact h.mem q hq
 ·rw[Ut _ _ _ d];have:=h.len;omega
theorem Lw.done {n:Nat}{ps acc:List (AV n×AV n)}(h:Lw n ps ps.length acc):acc=Dp (Al n) ps:=by
 rw[K4];refine Rx (rR n) acc _ (List.pairwise_map.1 h.asc) (O0 (rR n) ps) (fun z=>?_);rw[h.find z,List.take_length];exact(Vl (rR n) ps z).symm
theorem nS {α:Type}(wta:α->Nat)(l:List (α×α)):mkP wta l=if 1+wtL wta (l.map Prod.fst)+wtL wta (l.map Prod.snd)<=1024 then Dd (l.map Prod.fst) (l.map Prod.snd) else Ar:=by
 unfold mkP mkF;by_cases h:1+wtL wta (l.map Prod.fst)<=1024
 ·rw[if_pos h]
 ·rw[if_neg h,if_neg (by omega)]
/-- two slices own rows of their own; the box that holds them; the box of the result -/
structure Two (w wr:World)(kd:Int)(s1 s2:Value)(h1 h2:List H5):Prop where
 o1:wr.ownsRow (w.heap.size+2) 30 5 s1 h1.length (Bi h1)
 o2:wr.ownsRow (w.heap.size+2) 30 5 s2 h2.length (Bi h2)
 dis:∀g,s1.ownBlock=some g->s2.ownBlock≠some g
 box:wr.heap[w.heap.size+1]?=some (.cells #[.int .i64 kd,.int .i64 0,.string ⟨#[]⟩,s1,s2] 30 (0,0))
 res:wr.heap[w.heap.size]?=some (.cells #[.int .i64 0,.int .i64 0,.string ⟨#[]⟩,.slice none 0 0,.slice none 0 0] 30 (0,0))
 fr:Fr (fun _=>True) w wr
theorem Two.grew {w wr W:World}{kd:Int}{s1 s2:Value}{h1 h2:List H5}(h:Two w wr kd s1 s2 h1 h2)(g:Ac wr W):Two w W kd s1 s2 h1 h2 :=
 ⟨Bo h.o1 (fun k _ hk=>g.below.block k hk),Bo h.o2 (fun k _ hk=>g.below.block k hk),h.dis,Ac1 g.below h.box,Ac1 g.below h.res,h.fr.trans (Fr.grew g)⟩
theorem lJ {w w':World}(h:Fr (fun _=>True) w w'){b o:Nat}(hb:w.heap.size<=b)(u:Value):Fr (fun _=>True) w (w'.setCell ⟨b,o,none⟩ u):=by
 have a:Fr (fun k=>k<_) w (w'.setCell ⟨b,o,none⟩ u):=(h.mono (fun _ _=>trivial)).set (by simp;omega) _;exact⟨a.os,a.tape,a.output,a.size,fun i hi _=>a.block i hi hi⟩
theorem Two.put1 {w W w':World}{kd:Int}{s1 s2:Value}{h1 h2 hs:List H5}{g cap L:Nat}(h:Two w W kd s1 s2 h1 h2)(ow:Gh w' (w.heap.size+2) g cap hs)(hl:hs.length=L)(fw:Fr (fun k=>k<W.heap.size/\s1.ownBlock≠some k) W w')(hg:s1.ownBlock=some g\/W.heap.size<=g) :
  w'.heap[w.heap.size+1]?=some (.cells #[.int .i64 kd,.int .i64 0,.string ⟨#[]⟩,s1,s2] 30 (0,0))/\Two w (w'.setCell ⟨w.heap.size+1,3,none⟩ (.slice (some ⟨g,0,none⟩) L cap)) kd (.slice (some ⟨g,0,none⟩) L cap) s2 hs h2:=by
 have m:=ow.low;have b:=Aa h.box;have c:=Aa h.res;have j:=(fw.block _ b ⟨b,fun e=>by have:=(Cp h.o1 e).1;omega⟩).trans h.box;have r:=(fw.block _ c ⟨c,fun e=>by have:=(Cp h.o1 e).1;omega⟩).trans h.res;have p:Fr (fun _=>True) w w':=⟨fw.os.trans h.fr.os,fw.tape.trans h.fr.tape,fw.output.trans h.fr.output,Ae0 h.fr.size fw.size,fun i hi _=>(fw.block i (Ad8 hi h.fr.size) ⟨Ad8 hi h.fr.size,fun e=>by have:=(Cp h.o1 e).1;omega⟩).trans (h.fr.block i hi trivial)⟩;refine⟨j,?_,?_,?_,Ai j 3 _,(Below.heap_setCell _ _ _ _ (by simp)).trans r,lJ p (by omega) _⟩
 ·have q:=ow.owns;rw[hl] at q |-;exact Bo q (fun q hq _=>Below.heap_setCell _ _ _ _ (by simp;omega))
 ·refine⟨h.o2.1,?_⟩;rcases h.o2.2 with q|⟨f,o,d,e,s,n,t⟩
  ·exact .inl q
  ·refine .inr ⟨f,o,d,e,s,?_,t⟩;have a:=Aa n;rw[Below.heap_setCell _ _ _ _ (by simp;omega)];exact(fw.block f a ⟨a,fun e'=>h.dis f e' (by rw[e];rfl)⟩).trans n
 ·intro k l;simp only[Value.ownBlock,Option.some.injEq] at l;subst l;rcases hg with q|q
  ·exact h.dis g q
  ·intro e;have:=(Cp h.o2 e).2;omega
theorem Two.put2 {w W w':World}{kd:Int}{s1 s2:Value}{h1 h2 hs:List H5}{g cap L:Nat}(h:Two w W kd s1 s2 h1 h2)(ow:Gh w' (w.heap.size+2) g cap hs)(hl:hs.length=L)(fw:Fr (fun k=>k<W.heap.size/\s2.ownBlock≠some k) W w')(hg:s2.ownBlock=some g\/W.heap.size<=g) :
  w'.heap[w.heap.size+1]?=some (.cells #[.int .i64 kd,.int .i64 0,.string ⟨#[]⟩,s1,s2] 30 (0,0))/\Two w (w'.setCell ⟨w.heap.size+1,4,none⟩ (.slice (some ⟨g,0,none⟩) L cap)) kd s1 (.slice (some ⟨g,0,none⟩) L cap) h1 hs:=by
 have m:=ow.low;have b:=Aa h.box;have c:=Aa h.res;have j:=(fw.block _ b ⟨b,fun e=>by have:=(Cp h.o2 e).1;omega⟩).trans h.box;have r:=(fw.block _ c ⟨c,fun e=>by have:=(Cp h.o2 e).1;omega⟩).trans h.res;have p:Fr (fun _=>True) w w':=⟨fw.os.trans h.fr.os,fw.tape.trans h.fr.tape,fw.output.trans h.fr.output,Ae0 h.fr.size fw.size,fun i hi _=>(fw.block i (Ad8 hi h.fr.size) ⟨Ad8 hi h.fr.size,fun e=>by have:=(Cp h.o2 e).1;omega⟩).trans (h.fr.block i hi trivial)⟩;refine⟨j,?_,?_,?_,Ai j 4 _,(Below.heap_setCell _ _ _ _ (by simp)).trans r,lJ p (by omega) _⟩
 ·refine⟨h.o1.1,?_⟩;rcases h.o1.2 with q|⟨f,o,d,e,s,n,t⟩
  ·exact .inl q
  ·refine .inr ⟨f,o,d,e,s,?_,t⟩;have a:=Aa n;rw[Below.heap_setCell _ _ _ _ (by simp;omega)];exact(fw.block f a ⟨a,fun e'=>h.dis f (by rw[e];rfl) e'⟩).trans n
 ·have q:=ow.owns;rw[hl] at q |-;exact Bo q (fun q hq _=>Below.heap_setCell _ _ _ _ (by simp;omega))
 ·intro k l e;simp only[Value.ownBlock,Option.some.injEq] at e;subst e;rcases hg with q|q
  ·exact h.dis g l q
  ·have:=(Cp h.o1 l).2;omega
theorem O8 (n:Nat)(P:Nat->Prop)(w:World)(a a':Option Addr)(len cap cap':Nat)(ks vs:List (AV n))(h:Bm P w (Ref P w n) a len ks)(h':Bm P w (Ref P w n) a' len vs)(hl:len<=1048576)(hW:∀x,x∈ks\/x∈vs->wtR n x=wt n x/\wt n x<=1024) :
  Calls prog 67 #[.slice a len cap,.slice a' len cap'] w (dM (n+1) P w (mkP (wt n) (Dp (Al n) (ks.zip vs)):Ag (AV n))):=by
 obtain⟨e1,F,r1⟩:=h;obtain⟨e2,_,r2⟩:=h';have E1:Hid (len=ks.length):=e1;have E2:Hid (len=vs.length):=e2;clear e1 e2;have HW:Hid _:=hW;clear hW;have mo:=follows;have T0:Hid (Two w _ 6 _ _ [] []) :=
  ⟨Ca _ _,Ca _ _,fun g e=>by simp[Value.ownBlock] at e,Af (by simp),Ac1 ((Ac.refl _).alloc _).below (Af rfl),Fr.grew (((Ac.refl w).alloc _).alloc _)⟩
 go_enter func67,ntmps67
 go_wp2_with fail
 generalize World.alloc _ _=W0 at T0 |-;go_loopw [6] (fun s wr=>∃(k:Nat)(b:List (AV n×AV n))(hk hv:List H5)(sk sv:Value),s=.int .i64 k/\k<=len/\Hid (Lw n (ks.zip vs) k b)/\Hid (Are P w n (b.map Prod.fst) hk)/\Hid (Are P w n (b.map Prod.snd) hv)/\Hid (Two w wr 6 sk sv hk hv)) (fun s _=>len-(intOf s).toNat)
 case atStart=>exact⟨0,[],[],[],_,_,rfl,Ae1 _,Lw.start n _,⟨rfl,fun i x h hx=>by simp at hx⟩,⟨rfl,fun i x h hx=>by simp at hx⟩,T0⟩
 case round =>
  clear T0;obtain⟨k,b,hs,H,sk,sv,rfl,hk,m,HA,HU,c⟩:=hrel;have c1:hs.length<=1048576:=by have:=m.out.len;have:=HA.out.1;rw[List.length_map] at this;omega
  have a5:H.length<=1048576:=by have:=m.out.len;have:=HU.out.1;rw[List.length_map] at this;omega
  have zb:=Aa c.out.box;by_cases c2:k<len
  ·have hx:k<ks.length:=by rw[<- E1.out];exact c2
   have hy:k<vs.length:=by rw[<- E2.out];exact c2
   have S:=List.getElem?_eq_getElem hx;have T:=List.getElem?_eq_getElem hy;have U:(ks.zip vs)[k]?=some (ks[k],vs[k]):=by rw[List.getElem?_zip_eq_some];exact⟨S,T⟩
   obtain⟨p1,o1,rfl,c5,e7,b8⟩:=r1.resolve_left (by omega);obtain⟨v1,c9,B⟩:=b8 k ks[k] S;obtain⟨u,rfl⟩:=B.ones;obtain⟨G,o2,rfl,c6,e8,b9⟩:=r2.resolve_left (by omega);obtain⟨v2,e4,Y⟩:=b9 k vs[k] T;obtain⟨t,rfl⟩:=Y.ones;have d5:=c9.fr (c.out.fr.block p1 c5 trivial);obtain⟨x0,x1,x2,x3,x4,eu,g0,g1,g2,g3,g4⟩:=d5;obtain⟨y0,y1,j,y3,y4,et,_⟩:=e4;have HY:Hid (∀W:World,Fr (fun _=>True) w W->W.cell? ⟨G,o2+k*5,none⟩=some y0/\W.cell? ⟨G,o2+k*5+1,none⟩=some y1/\W.cell? ⟨G,o2+k*5+2,none⟩=some j/\W.cell? ⟨G,o2+k*5+3,none⟩=some y3/\W.cell? ⟨G,o2+k*5+4,none⟩=some y4/\G<W.heap.size):=by
    intro W hW;have q:=(show Qe w G (o2+k*5) t.v from⟨y0,y1,j,y3,y4,et,by assumption⟩).fr (hW.block G c6 trivial);obtain⟨z0,z1,z2,z3,z4,ez,q0,q1,q2,q3,q4⟩:=q;rw[et] at ez;simp only[Value.agg.injEq,Array.mk.injEq,List.cons.injEq,and_true] at ez;obtain⟨rfl,rfl,rfl,rfl,rfl⟩:=ez;exact⟨q0,q1,q2,q3,q4,Ad8 c6 hW.size⟩
   have s1:=Ad8 c5 c.out.fr.size;obtain⟨sa,sn,sc,rfl,f⟩:=Tn c.out.o1 HA.out (by omega) (c.out.fr.mono (fun _ _=>trivial));have c7:=B.fr (c.out.fr.mono (fun _ _=>trivial)) (fun _ _ _=>trivial) n ks[k] u.v;have z:Hid (∀W:World,_->Calls _ 83 #[_,.agg #[x0,x1,x2,x3,x4]] W _):=fun W hW=>by
    rw[<- eu];exact J8 n _ W sa sn sc _ ks[k] u.v (f.grew hW) (c7.grew hW) m.out.asc ⟨_,_,_,_,_,eu⟩
   have J:Hid (Ch n _ ks[k]=true->_):=m.out.skip U;have A:Hid (Ch n _ ks[k]=false->Lw n _ (k+1) (b.take (B6 n _ ks[k])++_::b.drop (B6 n _ ks[k]))):=m.out.put U;have d:=(E6 (x:=ks[k]) m.out.asc).le;have a7:Hid (Are P w n ((b.take (B6 n (b.map Prod.fst) ks[k])++(ks[k],vs[k])::b.drop (B6 n (b.map Prod.fst) ks[k])).map Prod.fst) (hs.take (B6 n (b.map Prod.fst) ks[k])++u::hs.drop (B6 n (b.map Prod.fst) ks[k]))):=by
    have q:=HA.out.put B _ d;rw[List.map_append,List.map_cons,List.map_take,List.map_drop];exact q
   have b5:Hid (Are P w n ((b.take (B6 n (b.map Prod.fst) ks[k])++(ks[k],vs[k])::b.drop (B6 n (b.map Prod.fst) ks[k])).map Prod.snd) (H.take (B6 n (b.map Prod.fst) ks[k])++t::H.drop (B6 n (b.map Prod.fst) ks[k]))):=by
    have q:=HU.out.put Y _ (by rw[List.length_map] at d |-;exact d);rw[List.map_append,List.map_cons,List.map_take,List.map_drop];exact q
   have d8:=HA.out.1;have d9:=HU.out.1;rw[List.length_map] at d8 d9 d;clear b8 b9 c9 B Y r1 r2 f c7 m U S T;generalize B6 n _ ks[k]=pp at z A a7 b5 d;generalize hb:Ch n _ ks[k]=bb at z J A;clear hb;have i0:=cell_grown s1 g0;have i1:=cell_grown s1 g1;have i2:=cell_grown s1 g2;have i3:=cell_grown s1 g3;have i4:=cell_grown s1 g4;have j3:=cell_grown zb (Ab c.out.box 3);clear g0 g1 g2 g3 g4;go_wp2_with fail
   go_quiet_grown (first|(go_at_call 83;refine Ae3 (z.out _ ⟨_,_,rfl⟩)))
   have D:Hid _:=c.out.grew ⟨nq,osq,rfl⟩;have m0:=i0 nq osq;have m1:=i1 nq osq;have m2:=i2 nq osq;have m3:=i3 nq osq;have m4:=i4 nq osq;show Exit.then _ _ _ _ (grow (wr.drewN nq) osq);clear i0 i1 i2 i3 i4 j3 z c s1 zb;generalize grow _ osq=W1 at D m0 m1 m2 m3 m4 |-;clear nq osq;have zb:=Aa D.out.box;cases bb with
   | true =>
    have K:Hid _:=J.out rfl;clear m0 m1 m2 m3 m4;go_wp2_with fail
    go_roundw
    case rel=>exact⟨k+1,b,hs,H,_,_,by go_num,by omega,K,HA,HU,D⟩
    case measure=>simp[intOf];omega
   | false =>
    have K:Hid _:=A.out rfl;have a8:Hid (∀W:World,_->Calls _ 84 #[_,_,.agg #[x0,x1,x2,x3,x4]] W _):=fun W hW=>by
     rw[<- eu];exact Ur W _ _ hs u pp (by omega) (D.out.grew hW).o1 (by have:=hW.below.size;omega) c1
    have a9:Hid (∀(W:World)(sk:Value)(hk:List H5),Two w W 6 sk sv hk H->Calls _ 84 #[sv,_,.agg #[y0,y1,j,y3,y4]] W _):=fun W sk hk hT=>by
     rw[<- et];exact Ur W _ sv H t pp (by omega) hT.o2 (by have:=Aa hT.box;omega) a5
    have c3:=Ab D.out.box 3;have f3:=Ad D.out.box 3;have c8:_=b.length+1:=(Ut H t pp (by omega)).trans (by omega);have c0:_=b.length+1:=(Ut hs u pp (by omega)).trans (by omega);clear J A;go_wp2_with fail
    have e0:W1.drew.cell? _=some (.slice sa sn sc):=c3;have d0:W1.drew.cell? _=some x0:=m0;have d1:W1.drew.cell? _=some x1:=m1;have d2:W1.drew.cell? _=some x2:=m2;have d3:W1.drew.cell? _=some x3:=m3;have d4:W1.drew.cell? _=some x4:=m4;have TD:Hid _:=D.out.grew (Ac.refl W1).drew;go_region_with (go_at_call 84;refine(a8.out _ ?_).mono ?_;exact(Ac.refl W1).drew;rintro e y ⟨g,e5,rfl,ho,hf,o⟩;obtain⟨C,qt⟩:=TD.out.put1 ho c0 hf o;have q5:=Ab C 3;have q6:=Ad C 3;have L:Hid (Two w _ 6 _ sv _ H):=qt;have zw:=Aa C;clear ho hf o C qt)
    all_goals clear d0 d1 d2 d3 d4 e0 m0 m1 m2 m3 m4 c3 f3 q5 q6 a8 TD D zw
    all_goals generalize y.setCell _ _=W2 at L |-
    all_goals clear y zb
    all_goals have zb:=Aa L.out.box
    all_goals have c4:=Ab L.out.box 4
    all_goals have f4:=Ad L.out.box 4
    all_goals obtain⟨m0,m1,m2,m3,m4,zp⟩:=HY.out W2 L.out.fr
    all_goals go_wp2_with fail
    all_goals have e3:W2.drew.cell? _=some sv:=c4
    all_goals have d0:W2.drew.cell? _=some y0:=m0
    all_goals have d1:W2.drew.cell? _=some y1:=m1
    all_goals have d2:W2.drew.cell? _=some j:=m2
    all_goals have d3:W2.drew.cell? _=some y3:=m3
    all_goals have d4:W2.drew.cell? _=some y4:=m4
    all_goals have TD:Hid _:=L.out.grew (Ac.refl W2).drew
    all_goals go_region_with (go_at_call 84;refine(a9.out W2.drew _ _ TD.out).mono ?_;rintro e w3 ⟨g3,e6,rfl,ho,hf,o⟩;obtain⟨C,qt⟩:=TD.out.put2 ho c8 hf o;have q5:=Ab C 4;have q6:=Ad C 4;have TZ:Hid (Two w _ 6 _ _ _ _):=qt;have zw:=Aa C;clear ho hf o C qt)
    all_goals clear d0 d1 d2 d3 d4 e3 m0 m1 m2 m3 m4 c4 f4 q5 q6 a9 TD L zw
    all_goals generalize w3.setCell _ _=W4 at TZ |-
    all_goals go_wp2_with fail
    all_goals go_roundw
    all_goals first|exact⟨k+1,_,_,_,_,_,by go_num,by omega,K,a7,b5,TZ⟩|(simp[intOf];omega)
  ·have f5:k=len:=by omega
   subst k;have HD:Hid (b=Dp (Al n) (ks.zip vs)):=by
    have h:=m.out;have hz:(ks.zip vs).length=len:=by rw[List.length_zip,<- E1.out,<- E2.out];omega
    rw[<- hz] at h;exact h.done
   obtain⟨sa,sn,sc,rfl,f⟩:=Bu (Q:=fun k=>(k<_/\P k)\/_+2<=k) c.out.o1 HA.out (by omega) (c.out.fr.mono (fun _ _=>trivial)) (fun g hg=>.inr hg) (fun k hk hp=>.inl ⟨hk,hp⟩);obtain⟨ta,tn,tc,rfl,r⟩:=Bu (Q:=fun k=>(k<_/\P k)\/_+2<=k) c.out.o2 HU.out (by omega) (c.out.fr.mono (fun _ _=>trivial)) (fun g hg=>.inr hg) (fun k hk hp=>.inl ⟨hk,hp⟩);have V:∀x∈b.map Prod.fst,wtR n x=wt n x/\wt n x<=1024:=fun x hx=>by
    obtain⟨p,hp,rfl⟩:=List.mem_map.1 hx;have:=m.out.mem p hp;exact HW.out _ (.inl (List.of_mem_zip this).1)
   have X:∀x∈b.map Prod.snd,wtR n x=wt n x/\wt n x<=1024:=fun x hx=>by
    obtain⟨p,hp,rfl⟩:=List.mem_map.1 hx;have:=m.out.mem p hp;exact HW.out _ (.inr (List.of_mem_zip this).2)
   have d6:=Dz _ (fun x hx=>(V x hx).1);have d7:=Dz _ (fun x hx=>(X x hx).1);have b6:=Mh (wt n) _ (fun x hx=>(V x hx).2);have b7:=Mh (wt n) _ (fun x hx=>(X x hx).2);rw[List.length_map] at b6 b7;have e9:b.length<=1048576:=by have:=m.out.len;omega
   have Z:Ref _ wr (n+1) (Dd _ _:_) (.agg #[.int .i64 6,.int .i64 0,_,_,_]):=⟨⟨#[]⟩,sa,sn,sc,ta,tn,tc,rfl,rfl,f,r,lH c.out.o2⟩;have a6:wtR (n+1) (Dd (b.map Prod.fst) (b.map Prod.snd):_)=1+wtL (wt n) (b.map Prod.fst)+wtL (wt n) (b.map Prod.snd):=by show 1+wtL (wtR n) (b.map Prod.fst)+wtL (wtR n) (b.map Prod.snd)=_;rw[d6,d7]
   have l:Hid _:=fun W hW=>by
    have:=Lu n _ W _ _ (Z.grew hW) (by rw[a6];omega);rw[a6] at this;exact this
   have I:Hid (Ref _ wr (n+1) _ _):=Z;have HM:Hid ((mkP (wt n) (Dp (Al n) (ks.zip vs)):_)=if 1+wtL (wt n) (b.map Prod.fst)+wtL (wt n) (b.map Prod.snd)<=1024 then Dd (b.map Prod.fst) (b.map Prod.snd) else Ar):=by show _=_;rw[<- HD.out,nS]
   obtain⟨a0,a1,a2,a3,a4⟩:=Ah c.out.box;clear Z f r V X d6 d7 b6 b7 a6 r1 r2;generalize 1+_+_=q at l HM;by_cases hq:q<=1024
   ·rw[if_pos hq] at l HM;go_wp2_with fail
    refine(l.out wr (Ac.refl _)).mono ?_;rintro e y ⟨rfl,hg⟩;have j:Hid (_=_):=Ac1 hg.below c.out.res;have RF:Hid (Ref _ y (n+1) _ _):=I.out.grew hg;have FF:Hid _:=c.out.fr.trans (Fr.grew hg);clear a0 a1 a2 a3 a4 hg I c;obtain⟨M,F,N,O,R⟩:=Ah j.out;obtain⟨f0,f1,f2,f3,f4⟩:=Ax j.out;have z2:=Aa j.out;go_wp2_with fail
    change bodyPost _ _ _ _ _ (Ao y _ 0 _ _ _ _ _);have E:=Bc j.out (.int .i64 6) (.int .i64 0) (.string ⟨#[]⟩) (.slice sa sn sc) (.slice ta tn tc);rw[HM.out];have R1:Ref (fun k=>P k\/w.heap.size<=k) (Ao y w.heap.size 0 (.int .i64 6) (.int .i64 0) (.string ⟨#[]⟩) (.slice sa sn sc) (.slice ta tn tc)) (n+1) _ _:=RF.out.fr (Cz (Fr.refl _ y) (by omega) _ _ _ _ _ _) (fun k _ hk=>hk.elim (fun q=>.inl q.2) (fun q=>.inr (by omega))) _ _ _;have R2:=Qh FF.out (Ad9 _) 0 (.int .i64 6) (.int .i64 0) (.string ⟨#[]⟩) (.slice sa sn sc) (.slice ta tn tc);clear M F N O R f0 f1 f2 f3 f4;generalize Ao y _ 0 _ _ _ _ _=WZ at E R1 R2 |-;obtain⟨M,F,N,O,R⟩:=Ah E;exact Ae2 (by simp[results,results67,go_sem,M,F,N,O,R]) rfl ⟨_,rfl,R1,R2⟩
   ·rw[if_neg hq] at l HM;unfold Bk at l;go_wp2_with fail
    refine(l.out wr (Ac.refl _)).mono ?_;rintro e y ⟨rfl,hg⟩;have j:Hid (_=_):=Ac1 hg.below c.out.res;have FF:Hid _:=c.out.fr.trans (Fr.grew hg);clear a0 a1 a2 a3 a4 hg I c;obtain⟨M,F,N,O,R⟩:=Ah j.out;obtain⟨f0,f1,f2,f3,f4⟩:=Ax j.out;have z2:=Aa j.out;go_wp2_with fail
    change bodyPost _ _ _ _ _ (Ao y _ 0 _ _ _ _ _);have E:=Bc j.out (.int .i64 0) (.int .i64 0) (.string ⟨#[]⟩) (.slice none 0 0) (.slice none 0 0);rw[HM.out];have R2:=Qh FF.out (Ad9 _) 0 (.int .i64 0) (.int .i64 0) (.string ⟨#[]⟩) (.slice none 0 0) (.slice none 0 0);clear M F N O R f0 f1 f2 f3 f4;generalize Ao y _ 0 _ _ _ _ _=WZ at E R2 |-;obtain⟨M,F,N,O,R⟩:=Ah E;exact Ae2 (by simp[results,results67,go_sem,M,F,N,O,R,Bk]) rfl ⟨_,rfl,Cm _ _ n,R2⟩
end Go.Proofs.YtdpeliifdlhhkaaGreatDoor.Sx
