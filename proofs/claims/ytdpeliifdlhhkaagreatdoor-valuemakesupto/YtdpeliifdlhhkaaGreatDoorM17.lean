/- The reference: its reader: rows too far in. -/
import Derived.Test.YtdpeliifdlhhkaaGreatDoorM16
import Derived.Test.YtdpeliifdlhhkaaGreatDoorM10
import Derived.Test.YtdpeliifdlhhkaaGreatDoorM08
namespace Go.Proofs.YtdpeliifdlhhkaaGreatDoor.Sx
open Go.RowKit Go.Sort Tryz
set_option maxRecDepth 100000
set_option maxHeartbeats 4000000
def yD (w:World)(br:Nat)(t m:ByteArray)(s:RSt)(e:Ending)(w':World):Prop :=
 ∃s':RSt,e=.returned (.tuple #[.slice none 0 0,.slice none 0 0])/\Fr (·≠br) w w'/\RR w' br t s'/\s'.deep=s.deep/\s'.at'<=t.size/\s.at'<=s'.at'/\s'.e=6/\s'.bad=s.at'-m.size
theorem Q9 (le:Bool)(w:World)(br:Nat)(t m:ByteArray)(s:RSt)(h:RR w br t s)(he:s.e=0)(hd:s.deep=24)(ha:s.at'<=t.size)(hb:m.size<=s.at')(ht:t.size<=4000)(hms:m.size<=2) :
  Calls prog 65 #[.pointer (some ⟨br,0,none⟩),.string m,.int .i64 (if le then 1 else 0),.bool le] w (yD w br t m s):=by
 have v:t.data.toList.length=t.size:=by simp
 obtain⟨at',deep,e,p,d⟩:=s;simp only at he hd ha hb;subst he hd;generalize K:yD w br t m _=PP;have G:Hid (_=PP):=K;clear K;obtain⟨-,I,A⟩:=Rp h;have B:=Ad h 2;have R:=Aa h;obtain⟨q,L⟩:∃q,q=at'-m.size:=⟨_,rfl⟩;have P:(at':Int)-(m.size:Int)=(q:Int):=by omega
 have Q:wrap64 (q:Int)=(q:Int):=by unfold wrap64;omega
 have H:Hid (q=at'-m.size):=L;clear L;have o:Hid (RR (w.setCell ⟨br,2,none⟩ (.int .i64 25)) br t ⟨at',25,0,p,d⟩):=by
  have:=Ai h 2 (.int .i64 25);exact this
 have z:Hid (Fr (·≠br) w (w.setCell ⟨br,2,none⟩ (.int .i64 25))):=(Fr.refl _ w).set (by simp) _;have r:(w.setCell ⟨br,2,none⟩ (.int .i64 25)).cell? _=some (.int .i64 (at':Int)):=Ab o.out 1;clear h;have D:Hid _:=fun W s mm q1 q2 q3=>Ly W br t mm s q1 q2 ht q3;have i:Hid _:=fun W q1=>D7 W br t ⟨at',25,0,p,d⟩ 6 q q1;cases le with
 | false =>
  go_enter func65,ntmps65
  go_wp2_with fail
  refine(i.out _ o.out).mono ?_;rintro J y ⟨rfl,c,b⟩;have a:Hid (RR y br t ⟨at',25,6,q,d⟩):=c;have g:Hid _:=z.out.trans b;clear c b z o I A B r i;go_wp2_with fail
  refine(D.out y _ m a.out ha (by omega)).mono ?_;rintro J N ⟨rfl,x,u⟩;have M:=Wg t.data.toList m.data.toList ⟨at',25,6,q,d⟩ (by simp);have F:=Mr _ m.data.toList ⟨at',25,6,q,d⟩ (by rw[v];exact ha);rw[M.1];have C:Hid _:=g.out.trans u;obtain⟨l,k⟩:∃l,(Cq t.data.toList m.data.toList ⟨at',25,6,q,d⟩).at'=l:=⟨_,rfl⟩;have j:Hid (RR N br t ⟨l,25,6,q,d⟩):=by rw[<- k];exact x
  rw[k,v] at F;have n:Hid (at'<=l/\l<=t.size):=F;clear x u M F k g a;obtain⟨-,-,A,O⟩:=Ns j.out;have B:=Ad j.out 2;have E:=Aa j.out;go_wp2_with fail
  go_loopg [10,11,12] 1 (fun f sk sl en wr=>sk=.slice none 0 0/\sl=.slice none 0 0/\en=.bool false/\wr=N)
  case atStart=>exact⟨rfl,rfl,rfl,rfl⟩
  case round =>
   obtain⟨rfl,rfl,rfl,rfl⟩:=hrel;go_wp2_with fail
   rw[<- G.out];refine⟨⟨l,24,6,q,d⟩,rfl,C.out.set (by simp) _,Ai j.out 2 _,rfl,n.out.2,n.out.1,rfl,H.out⟩
 | true =>
  go_enter func65,ntmps65
  go_wp2_with fail
  refine(i.out _ o.out).mono ?_;rintro J y ⟨rfl,c,b⟩;have a:Hid (RR y br t ⟨at',25,6,q,d⟩):=c;have g:Hid _:=z.out.trans b;clear c b z o I A B r i;obtain⟨-,-,A,O⟩:=Ns a.out;have B:=Ad a.out 2;have E:=Aa a.out;go_wp2_with fail
  go_loopg [10,11,12] 1 (fun f sk sl en wr=>sk=.slice none 0 0/\sl=.slice none 0 0/\en=.bool false/\wr=y)
  case atStart=>exact⟨rfl,rfl,rfl,rfl⟩
  case round =>
   obtain⟨rfl,rfl,rfl,rfl⟩:=hrel;go_wp2_with fail
   rw[<- G.out];refine⟨⟨at',24,6,q,d⟩,rfl,g.out.set (by simp) _,Ai a.out 2 _,rfl,ha,Ad9 _,rfl,H.out⟩
def Wgt (n:Nat)(x:AV n):Prop:=wtR n x=wt n x/\wt n x<=1024
theorem O9 (n k:Nat)(i:Int)(l:List UInt8):Wgt (n+1) (⟨k,i,l,[],[]⟩:Ag (AV n)):=by
 have b:wtR (n+1) (⟨k,i,l,[],[]⟩:_)=1:=rfl;have a:wt (n+1) (⟨k,i,l,[],[]⟩:_)=1:=by
  show wtN (wt n) (⟨k,i,l,[],[]⟩:Ag (AV n))=1;unfold wtN;simp[wtL]
 exact⟨b.trans a.symm,Ae0 (Nat.le_of_eq a) (by decide)⟩
theorem dU (n:Nat):Wgt (n+1) (Ar:Ag (AV n)):=O9 n 0 0 []
theorem dV (n:Nat)(ks vs:List (AV n))(h1:∀x∈ks,Wgt n x)(h2:∀x∈vs,Wgt n x):Wgt (n+1) (mkF (wt n) ks vs:Ag (AV n)):=by
 refine⟨?_,gU n ks vs⟩;unfold mkF;split
 ·show 1+wtL (wtR n) ks+wtL (wtR n) vs=1+wtL (wt n) ks+wtL (wt n) vs;rw[Dz ks (fun x hx=>(h1 x hx).1),Dz vs (fun x hx=>(h2 x hx).1)]
 ·rfl
theorem rU (n:Nat)(es:List (AV n))(h:∀x∈es,Wgt n x):Wgt (n+1) (mkS (wt n) es:Ag (AV n)):=by
 refine⟨?_,qQ n es⟩;unfold mkS;split
 ·show 1+wtL (wtR n) es+wtL (wtR n) []=1+wtL (wt n) es;rw[Dz es (fun x hx=>(h x hx).1)];rfl
 ·rfl
theorem rV (n:Nat)(ps:List (AV n×AV n))(h1:∀x∈ps.map Prod.fst,Wgt n x)(h2:∀x∈ps.map Prod.snd,Wgt n x):Wgt (n+1) (mkP (wt n) ps:Ag (AV n)):=by
 refine⟨?_,qR n ps⟩;unfold mkP;split
 ·exact(dV n _ _ h1 h2).1
 ·rfl
theorem Wi {k:Nat}{T:List UInt8}{S:St}{m:List UInt8}(h:isP T S m=true):A8 T (k+1) S=Di T (A8 T k) S/\Bh T S=m:=by
 unfold isP at h;rw[Bool.and_eq_true,beq_iff_eq,decide_eq_true_iff] at h;refine⟨?_,h.2⟩;show Dl T (Di T (A8 T k)) S=_;unfold Dl;rw[h.1];simp
theorem dW {T:List UInt8}{S:St}{m:List UInt8}(h:isP T S m=true)(hm:m=[123]\/m=[60,60]\/m=[91]):A8 T 0 S=.error (6,S.at'):=by
 unfold isP at h;rw[Bool.and_eq_true,beq_iff_eq,decide_eq_true_iff] at h;show Dl T _ S=_;unfold Dl;rw[h.1];simp only[h.2];rw[if_neg (by decide),if_neg (by decide),if_neg (by decide),if_pos trivial,if_pos hm]
theorem bC {d:Nat}{T:List UInt8}{p:Nat}{hv:Bool}(hp:p<=T.length)(h1:isP T (pos T p hv) [123]=false)(h2:isP T (pos T p hv) [60,60]=false)(h3:isP T (pos T p hv) [91]=false) :
  A8 T d (pos T p hv)=I4 T (Av T p) hv (Bf T (Av T p)):=by
 have b:∀m,(pos T p hv).cl=4->isP T (pos T p hv) m=false->¬Bh T (pos T p hv)=m:=by
  intro m a h q;unfold isP at h;rw[a,q] at h;simp at h
 by_cases a:(pos T p hv).cl=4
 ·have f:=b _ a h1;have g:=b _ a h2;have i:=b _ a h3;cases d with
  | zero =>
   show Dl T _ (pos T p hv)=_;refine Oe (Ir hp).2 ?_;rw[if_neg (by simp[f,g,i])];rfl
  | succ k =>
   show Dl T _ (pos T p hv)=_;refine Oe (Ir hp).2 ?_;unfold Di;rw[if_neg f,if_neg g,if_neg i];rfl
 ·have e:∀br c:St->Except _ (AV (d+1)×St),Dl T br (pos T p hv)=Dl T c (pos T p hv):=by
   intro br c;unfold Dl;rw[if_neg a,if_neg a]
  have j:=Oe (hv:=hv) (br:=fun _=>(_:Except _ (AV (d+1)×St))) (Ir hp).2 rfl;cases d with
  | zero=>exact(e _ _).trans j
  | succ k=>exact(e _ _).trans j
/-- the keys of a sequence, at any level -/
def rW:(d:Nat)->Nat->List (AV d)
 | 0,_=>[]
 | n+1,len=>Aq n len
theorem vU (d:Nat)(P:Nat->Prop)(w:World)(a:Option Addr)(len cap:Nat)(vs:List (AV d))(h:Bm P w (Ref P w d) a len vs)(hl:len<=1048576)(hW:∀x∈vs,Wgt d x) :
  Calls prog 45 #[.slice a len cap] w (dM (d+1) P w (mkF (wt d) (rW d vs.length) vs:Ag (AV d))):=by
 cases d with
 | succ n=>exact Ja n P w a len cap vs h hl hW
 | zero =>
  have j:vs=[]:=by
   cases vs with
   | nil=>rfl
   | cons x _=>exact(show Empty from x).elim
  subst j;have b:len=0:=h.1;subst b;refine(Ja 0 P w a 0 cap [] (B9 P w _ a) (by omega) (by simp)).mono ?_;rintro e C ⟨v,rfl,r,p⟩;refine⟨v,rfl,?_,p⟩;have o:(mkF (wt 1) (Aq 0 ([]:List (AV 1)).length) []:_)=Dd [] []:=by unfold mkF;simp[Aq,wtL]
  have c:(mkF (wt 0) (rW 0 ([]:List (AV 0)).length) []:_)=Dd [] []:=by unfold mkF;simp[rW,wtL]
  rw[c];have g:Ref (fun k=>P k\/w.heap.size<=k) C 2 (Dd [] []:Ag (AV 1)) v:=by rw[<- o];exact r
  obtain⟨s,t,y,u,z,B,A,rfl,i,q,j,f⟩:=g;have l:y=0:=q.1;have m:B=0:=j.1;subst l m;exact⟨s,t,0,u,z,0,A,rfl,i,B9 _ _ _ _,B9 _ _ _ _,f⟩
theorem rX (d:Nat)(vs:List (AV d))(h:∀x∈vs,Wgt d x):Wgt (d+1) (mkF (wt d) (rW d vs.length) vs:Ag (AV d)):=by
 refine dV d _ _ ?_ h;cases d with
 | zero=>intro x b;exact(show Empty from x).elim
 | succ n =>
  intro x b;have a:x∈(List.range vs.length).map _:=b;obtain⟨i,_,rfl⟩:=List.mem_map.1 a;exact O9 n 2 _ []
theorem rY (d:Nat)(vs:List (AV d))(h:∀x∈vs,Wgt d x):Wgt (d+1) (mkS (wt d) (Eo (Al d) vs):Ag (AV d)) :=
 rU d _ (fun x hx=>h x ((J6 (fun a b e=>(Em d a b).1 e) vs x).1 hx))
theorem rZ (d:Nat)(ps:List (AV d×AV d))(h:∀x,x∈ps.map Prod.fst\/x∈ps.map Prod.snd->Wgt d x):Wgt (d+1) (mkP (wt d) (Dp (Al d) ps):Ag (AV d)):=by
 refine rV d _ (fun x hx=>?_) (fun x hx=>?_)
 ·obtain⟨p,a,rfl⟩:=List.mem_map.1 hx;exact h _ (.inl (List.mem_map.2 ⟨p,Ze _ ps p a,rfl⟩))
 ·obtain⟨p,a,rfl⟩:=List.mem_map.1 hx;exact h _ (.inr (List.mem_map.2 ⟨p,Ze _ ps p a,rfl⟩))
theorem Zo {β:Type}{T:List UInt8}{R:Except (Nat×Nat) (β×St)}{s s':RSt}{x y:β}{b:Bool}(h:Ck T R s x { s' with hv:=b })(he:s'.e≠0):Ck T R s y s':=by
 obtain⟨c,d,f,g,i⟩:=h;refine⟨c,d,f,g,fun q=>?_⟩;rcases i q with⟨a,_⟩|⟨a,j⟩
 ·exact absurd a he
 ·exact .inr ⟨a,j⟩
theorem iL {d:Nat}{T:List UInt8}{a0 deep e bad:Nat}{hv:Bool}{s':RSt}{x:AV (d+1)}(ha:a0<=T.length)(h:Ck T (A8 T d (pos T (Av T a0) hv)) ⟨Av T a0,deep,e,bad,hv⟩ x s'):Ck T (A8 T d (pos T a0 hv)) ⟨a0,deep,e,bad,hv⟩ x s':=by
 rw[dT] at h;obtain⟨a,b,c,f,g⟩:=h;exact⟨a,b,Ae0 (Ir ha).1 c,f,g⟩
theorem dX:∀(l:List UInt8)(i:Nat),i<=(Ci l i).2
 | [],i=>Ad9 _
 | c::r,i=>by
  have:=dX r (i+1);simp only[Ci];split
  ·exact Nat.le_succ i
  ·split
   ·omega
   ·exact Ad9 _
theorem zE (l:List UInt8)(mi:Bool)(q en:Nat):(Ob l mi q en).2.2.2.2=q\/(Ob l mi q en).2.2.2.2=en:=by
 unfold Ob;split
 ·split
  ·exact .inl rfl
  ·exact .inr rfl
 ·exact .inl rfl
theorem vV (l:List UInt8)(en:Nat):(Pv l en).2.2.2.2=en:=by
 unfold Pv
 repeat' split
 all_goals rfl
theorem lM (T:List UInt8)(q f:Nat)(h1:q<=f)(h2:f<=T.length):q<=(Oc T q f).2.2.2.2/\(Oc T q f).2.2.2.2<=T.length:=by
 have a:=Gz (T.drop f);rw[List.length_drop] at a;unfold Oc;split
 ·exact⟨Ad9 q,Ae0 h1 h2⟩
 ·split
  ·rcases zE ((T.take (f+A5 (T.drop f))).drop f) (decide (q<f)) q (f+A5 (T.drop f)) with h|h
   ·rw[h];omega
   ·rw[h];omega
  ·split
   ·exact⟨Ad9 q,Ae0 h1 h2⟩
   ·rw[vV];omega
theorem oA (T:List UInt8)(q:Nat)(h:q<=T.length):q<=(Bf T q).2.2.2.2/\(Bf T q).2.2.2.2<=T.length:=by
 unfold Bf;split
 ·exact⟨Ad9 q,h⟩
 ·have b:q+1<=T.length:=by omega
  split
  ·have c:=dX (T.drop (q+1)) (q+1);have a:=Qr (T.drop (q+1)) (q+1);rw[List.length_drop] at a;split
   ·show q<=(Ci (T.drop (q+1)) (q+1)).2/\(Ci (T.drop (q+1)) (q+1)).2<=T.length;omega
   ·exact⟨Ad9 q,h⟩
  ·split
   ·exact lM T q (q+1) (by omega) b
   ·exact lM T q q (Ad9 q) h
theorem bD {d:Nat}{T:List UInt8}{p deep e bad:Nat}{hv:Bool}(he:e=0)(hp:p<=T.length)(h:A8 T d (pos T p hv)=I4 T p hv (Bf T p)) :
  Ck T (A8 T d (pos T p hv)) ⟨p,deep,e,bad,hv⟩ (⟨(Bf T p).1,(Bf T p).2.1,(Bf T p).2.2.1,[],[]⟩:Ag (AV d)) (Wf ⟨p,deep,e,bad,hv⟩ (Bf T p) p):=by
 have a:=oA T p hp;rw[h];generalize Bf T p=X at a |-;subst he;by_cases b:X.2.2.2.1=0
 ·have c:Wf ⟨p,deep,0,bad,hv⟩ X p=⟨X.2.2.2.2,deep,0,bad,hv⟩:=by unfold Wf;rw[if_pos b]
  rw[c];refine⟨rfl,a.2,a.1,fun q=>absurd rfl q,fun _=>.inl ⟨rfl,?_⟩⟩;unfold I4;rw[if_pos b]
 ·have c:Wf ⟨p,deep,0,bad,hv⟩ X p=⟨X.2.2.2.2,deep,X.2.2.2.1,p,hv⟩:=by unfold Wf;rw[if_neg b]
  rw[c];refine⟨rfl,a.2,a.1,fun q=>absurd rfl q,fun _=>.inr ⟨b,?_⟩⟩;unfold I4;rw[if_neg b]
theorem Ra {β:Type}{n:Nat}{T:List UInt8}{R:Except (Nat×Nat) (List β×St)}{f:List β->AV (n+1)}{s s2 s3:RSt}{ks:List β}(he:s.e=0)(he2:s2.e=0)(hd:s2.deep=s.deep)(ha:s.at'<=s2.at')(h:Ck T R s2 ks s3) :
  Ck T (Qb (Lg f R)) s (f ks) { s3 with hv:=s3.hv||Gj (α:=AV n) (f ks) }:=by
 obtain⟨c,d,g,j,i⟩:=h;refine⟨c.trans hd,d,Ae0 ha g,fun q=>absurd he q,fun _=>?_⟩;rcases i he2 with⟨a,b⟩|⟨a,b⟩
 ·left;refine⟨a,?_⟩;rw[b];rfl
 ·right;refine⟨a,?_⟩;rw[b];rfl
def Tq (T m:List UInt8)(n d:Nat)(s0 s:RSt):Prop:=s0.e=0/\s0.at'<=n/\s0.deep=24-d/\Ep T m s0=true/\s=Cq T m s0
def Sg (d:Nat)(m c:ByteArray)(f:List (AV d)->AV (d+1)):Prop :=
 ∀(w:World)(br:Nat)(t:ByteArray)(s0 s:RSt),RR w br t s->t.size<=4000->Tq t.data.toList m.data.toList t.size d s0 s ->
 Calls prog 65 #[.pointer (some ⟨br,0,none⟩),.string c,.int .i64 0,.bool false] w fun e w' =>
  ∃(a:Option Addr)(len cap:Nat)(ks:List (AV d))(s':RSt),e=.returned (.tuple #[.slice a len cap,.slice none 0 0])/\Fr (·≠br) w w'/\Bm (fun j=>w.heap.size<=j) w' (Ref (fun j=>w.heap.size<=j) w' d) a len ks/\len<=4001/\(∀x∈ks,Wgt d x)/\RR w' br t s' /\
   Ck t.data.toList (A8 t.data.toList d (pos t.data.toList s0.at' s0.hv)) s0 (f ks) { s' with hv:=s'.hv||Gj (α:=AV d) (f ks) }
def Uw (d:Nat)(m c:ByteArray):Prop :=
 ∀(w:World)(br:Nat)(t:ByteArray)(s0 s:RSt),RR w br t s->t.size<=4000->Tq t.data.toList m.data.toList t.size d s0 s ->
 Calls prog 65 #[.pointer (some ⟨br,0,none⟩),.string c,.int .i64 1,.bool true] w fun e w' =>
  ∃(a a':Option Addr)(len cap cap':Nat)(ps:List (AV d×AV d))(s':RSt),e=.returned (.tuple #[.slice a len cap,.slice a' len cap'])/\Fr (·≠br) w w'/\Bm (fun j=>w.heap.size<=j) w' (Ref (fun j=>w.heap.size<=j) w' d) a len (ps.map Prod.fst)/\Bm (fun j=>w.heap.size<=j) w' (Ref (fun j=>w.heap.size<=j) w' d) a' len (ps.map Prod.snd)/\len<=4001/\(∀x,x∈ps.map Prod.fst\/x∈ps.map Prod.snd->Wgt d x)/\RR w' br t s' /\
   (s'.e≠0->Ck t.data.toList (A8 t.data.toList d (pos t.data.toList s0.at' s0.hv)) s0 (Ar:Ag (AV d)) s') /\
   (s'.e=0->Ck t.data.toList (A8 t.data.toList d (pos t.data.toList s0.at' s0.hv)) s0 (mkP (wt d) (Dp (Al d) ps):Ag (AV d)) { s' with hv:=s'.hv||Gj (α:=AV d) (mkP (wt d) (Dp (Al d) ps)) })
theorem Og {T m:List UInt8}{n d:Nat}{s0 s:RSt}(hn:T.length=n)(hm:Sgn m)(h:Tq T m n d s0 s):isP T (pos T s0.at' s0.hv) m=true/\Cb T (pos T s0.at' s0.hv)=pos T s.at' s.hv/\s.at'=Av T s0.at'+m.length/\s.e=0/\s.deep=24-d/\s.hv=s0.hv/\s0.at'<=s.at'/\s.at'<=n:=by
 obtain⟨a,i,f,b,rfl⟩:=h;have c:=Uv T m s0 hm a;have g:=Mr T m s0 (by omega);have q:=c.2.1 b;exact⟨c.1.symm.trans b,q.1,q.2,a,f,rfl,g.1,by omega⟩
theorem Tr (k:Nat)(hV:dS k)(hk:k<=23)(m c:ByteArray)(f:List (AV (k+1))->AV (k+2))(hm:Sgn m.data.toList)(hc:Sgn c.data.toList)(h44:[44]≠c.data.toList)(hms:c.size<=2)
  (hB:∀(T:List UInt8)(S:St),Bh T S=m.data.toList->Di T (A8 T k) S=Qb (Lg f (Cy T c.data.toList (A8 T k) (Cb T S)))):Sg (k+1) m c f:=by
 intro w o t G s r u h;obtain⟨y,z,E,n,A,F,B,C⟩:=Og (by simp) hm h;refine(bB k hV hk w o t c s r n (by omega) C u hc h44 hms).mono ?_;rintro e H ⟨a,j,d,x,D,rfl,p,b,q,v,i,g⟩;refine⟨a,j,d,x,D,rfl,p,b,q,v,i,?_⟩;have l:=Wi (k:=k) y;rw[l.1,hB _ _ l.2,z];exact Ra h.1 n (A.trans h.2.2.1.symm) B g
theorem bE (k:Nat)(hV:dS k)(hk:k<=23):Uw (k+1) ⟨#[91]⟩ ⟨#[93]⟩:=by
 intro w x t p s A B h;have j:(⟨#[91]⟩:ByteArray).data.toList=[91]:=rfl;have b:(⟨#[93]⟩:ByteArray).data.toList=[93]:=rfl;rw[j] at h;obtain⟨D,E,I,u,F,J,G,H⟩:=Og (by simp) (by unfold Sgn;simp) h;refine(Xx k hV hk w x t ⟨#[93]⟩ s A u (by omega) H B (by rw[b];unfold Sgn;simp) (by rw[b];decide) (by decide)).mono ?_;rintro e K ⟨a,v,m,i,d,n,o,rfl,y,g,c,z,C,l,f⟩;have hv:=Wi (k:=k) D;have r:Ck t.data.toList (A8 t.data.toList (k+1) (pos t.data.toList p.at' p.hv)) p (mkP (wt (k+1)) (Dp (Al (k+1)) n):_) { o with hv:=o.hv||Gj (mkP (wt (k+1)) (Dp (Al (k+1)) n)) }:=by
  rw[hv.1,Qz hv.2,E];rw[b] at f;exact Ra h.1 u (F.trans h.2.2.1.symm) G f
 exact⟨a,v,m,i,d,n,o,rfl,y,g,c,z,C,l,fun q=>Zo r q,fun _=>r⟩
theorem Wj {T:List UInt8}{m:List UInt8}{s0 s s':RSt}{x:AV 1}{b:Bool}{n c:Nat}(hn:T.length=n)(hm:m=[123]\/m=[60,60]\/m=[91])(ho:Tq T m n 0 s0 s)(h1:s'.deep=s.deep)(h2:s'.at'<=n)(h3:s.at'<=s'.at')(h4:s'.e=6)(h5:s'.bad=s.at'-c)(hc:c=m.length) :
  Ck T (A8 T 0 (pos T s0.at' s0.hv)) s0 x { s' with hv:=b }:=by
 obtain⟨a,h,d,i,f,j,g,k⟩:=Og hn (by unfold Sgn;rcases hm with rfl|rfl|rfl<;>simp) ho;refine⟨h1.trans (f.trans ho.2.2.1.symm),by rw[hn];exact h2,Ae0 g h3,fun q=>absurd ho.1 q,fun _=>.inr ⟨by rw[show({ s' with hv:=b }:RSt).e=s'.e from rfl,h4];decide,?_⟩⟩;rw[dW a hm];have:(pos T s0.at' s0.hv).at'=Av T s0.at':=by rw[Gi]
 rw[this];show _=Except.error (s'.e,s'.bad);rw[h4,h5,d,hc,Nat.add_sub_cancel]
theorem Ts (m c:ByteArray)(f:List (AV 0)->AV 1)(hm:m.data.toList=[123]\/m.data.toList=[60,60]\/m.data.toList=[91])(hc:c.size=m.size)(hms:c.size<=2):Sg 0 m c f:=by
 intro w d t E s p q b;have o:m.data.toList.length=m.size:=by simp
 obtain⟨z,A,B,r,u,C,D,v⟩:=Og (by simp) (by unfold Sgn;rcases hm with h|h|h<;>rw[h]<;>simp) b;have H:Calls _ 65 #[_,_,.int .i64 0,_] w _:=Q9 false w d t c s p r u v (by omega) q hms;refine H.mono ?_;rintro e F ⟨y,rfl,n,a,g,i,j,k,l⟩;exact⟨none,0,0,[],y,rfl,n,B9 _ _ _ _,by omega,(fun x hx=>by simp at hx),a,Wj (by simp) hm b g i j k l (by omega)⟩
theorem bG:Uw 0 ⟨#[91]⟩ ⟨#[93]⟩:=by
 intro w g t D s m n d;have a:(⟨#[91]⟩:ByteArray).data.toList=[91]:=rfl;rw[a] at d;obtain⟨z,A,p,r,u,B,C,v⟩:=Og (by simp) (by unfold Sgn;simp) d;have o:(⟨#[93]⟩:ByteArray).size=1:=rfl;have H:Calls _ 65 #[_,_,.int .i64 1,_] w _:=Q9 true w g t _ s m r u v (by rw[o,p];simp) n (by decide);refine H.mono ?_;rintro e E ⟨y,rfl,l,f,h,i,j,c,k⟩;refine⟨none,none,0,0,0,[],y,rfl,l,B9 _ _ _ _,B9 _ _ _ _,by omega,(fun x hx=>by simp at hx),f,fun q=>?_,fun q=>absurd (c.symm.trans q) (by decide)⟩;exact Zo (x:=(Ar:_)) (b:=false) (Wj (by simp) (.inr (.inr rfl)) d h i j c k rfl) (by rw[c];decide)
end Go.Proofs.YtdpeliifdlhhkaaGreatDoor.Sx
