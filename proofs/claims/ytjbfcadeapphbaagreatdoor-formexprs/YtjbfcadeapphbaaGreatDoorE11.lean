/- Lists of pairs. -/
import Derived.Test.YtjbfcadeapphbaaGreatDoorE10
namespace Go.Proofs.YtjbfcadeapphbaaGreatDoor.Sx
set_option maxRecDepth 100000
set_option maxHeartbeats 2000000
open Go.RowKit Go.Sort
theorem Xr {br:Nat}{t:ByteArray}{self:Nat->Nat->Nat->RX PX}(hS:Az br t self)(w:World)(d i m:Nat)(hd:d<=24)(ht:t.size<=4000)(hm:m<=1000000)(hI:B1 w br)(hr:RdF w br t i d)
  (r:Except (Nat×Nat) (PX×Nat)) (h:D3 (tkF t.data.toList) self m d i=some r) :
  Calls Tryz.prog 156 #[.pointer (some ⟨br,0,none⟩)] w (Cq w br t d r):=by
 have HS:Hid (Az br t self):=hS;have HI:Hid (B1 w br):=hI;have HR:Hid (RdF w br t i d):=hr;have a2:=Ab hr;have h1:=Aa hr 1;have U:=Aa hr 2;have N:=RdF.of HR.out (P:=fun _=>True) (Fr.grew (Ad.refl w).drew) trivial;have k1:=Aa N 1;have k2:=Aa N 2;clear hI hS hr N;have mo:=follows;go_enter Tryz.func156,Tryz.ntmps156
 go_wp2_with fail
 go_big_region_o
 have L:Fr (fun _=>True) w (w.alloc (.cells #[.int .i64 0,.string (pcF t i),.string ⟨#[]⟩,.int .i64 0,.int .i64 (atF t.data.toList i:Int),.slice none 0 0] 81)).drew:=((Fr.refl _ w).alloc _).drew;have A:Hid (Ak (w.alloc (.cells #[.int .i64 0,.string (pcF t i),.string ⟨#[]⟩,.int .i64 0,.int .i64 (atF t.data.toList i:Int),.slice none 0 0] 81)).drew w.heap.size 0 (pcF t i) ⟨#[]⟩ 0 (atF t.data.toList i) none 0 0):=Ak.of (w:=w.alloc (.cells #[.int .i64 0,.string (pcF t i),.string ⟨#[]⟩,.int .i64 0,.int .i64 (atF t.data.toList i:Int),.slice none 0 0] 81)) (P:=fun _=>True) (Al rfl) (Fr.refl _ _).drew trivial;have F:Hid (Fr (·≠br) w _):=L.mono fun _ _=>trivial;have K:Hid (RdF _ br t i d):=RdF.of HR.out L trivial;clear h1 U k1 k2 HR L;generalize (w.alloc (.cells #[.int .i64 0,.string (pcF t i),.string ⟨#[]⟩,.int .i64 0,.int .i64 (atF t.data.toList i:Int),.slice none 0 0] 81)).drew=w1 at A F K |-;obtain⟨f,V⟩:∃f,w.heap.size=f:=⟨_,rfl⟩;rw[V] at A a2 |-;have z:w.heap.size<=f:=by omega
 clear V;have u:f≠br:=by omega
 have a6:f<w1.heap.size:=Ab A.out;have U:=Aa K.out 2;have g:(pcF t i).data.toList=txF t.data.toList i:=Br t i;have D:(tkF t.data.toList i).tx=txF t.data.toList i:=rfl;unfold D3 at h;simp only[D] at h;have c0:=Aa A.out 0;have f0:=Ac A.out 0;have R:Hid (∀W:World,_):=fun W h=>Dh W br t i d h ht;cases J:Eg.contains (txF t.data.toList i) with
 | true =>
  rw[J,if_pos rfl] at h;have T:Hid (r=.ok (B8 (txF t.data.toList i),i+1)):=by simp only[okX,Option.some.injEq] at h;exact h.symm
  have E2:Hid (Ak (w1.setCell ⟨f,0,none⟩ (.int .i64 2)) f 2 (pcF t i) ⟨#[]⟩ 0 (atF t.data.toList i) none 0 0):=A.out.sort 2;have R2:Hid (RdF (w1.setCell ⟨f,0,none⟩ (.int .i64 2)) br t i d):=K.out.setB (Ne.symm u) _;have F2:Hid (Fr (·≠br) w (w1.setCell ⟨f,0,none⟩ (.int .i64 2))):=F.out.setB z _;have HA:Hid (Calls _ _ _ _ _):=R.out _ R2.out;have y:Hid ((pcF t i).data.toList=txF t.data.toList i):=g;have n:pcF t i=⟨⟨txF t.data.toList i⟩⟩:=by rw[<- g]
  simp only[Eg,List.contains_cons,List.contains_nil,Bool.or_false,Bool.or_eq_true,beq_iff_eq] at J;clear h D A K F g;rcases J with q|q|q
  all_goals
   rw[q] at n;rw[n] at U |-;clear q;go_wp2_with (go_at_call 60;refine HA.out.mono ?_;rintro e o ⟨rfl,hr,b⟩;have C:Hid (RdF o br t (i+1) d):=hr;have B:Hid (Fr (·≠br) w o):=F2.out.trans b;have Z:Hid (Ak o f 2 (pcF t i) ⟨#[]⟩ 0 (atF t.data.toList i) none 0 0):=E2.out.of b u;clear hr b)
   go_ret
   rw[T.out];exact⟨B.out,⟨_,rfl,Ae.node ⟨f,2,pcF t i,⟨#[]⟩,0,atF t.data.toList i,none,0,0,[],rfl,z,Z.out,Fb _,.inr (.inr (.inl ⟨rfl,by rw[y.out]⟩))⟩⟩,C.out⟩
 | false =>
  rw[J,if_neg (by simp)] at h;cases E:B7.contains (txF t.data.toList i) with
  | true =>
   rw[E,if_pos rfl] at h;have a1:txF t.data.toList i∈B7:=List.contains_iff_mem.1 E;have E2:Hid (Ak (w1.setCell ⟨f,0,none⟩ (.int .i64 12)) f 12 (pcF t i) ⟨#[]⟩ 0 (atF t.data.toList i) none 0 0):=A.out.sort 12;have R2:Hid (RdF (w1.setCell ⟨f,0,none⟩ (.int .i64 12)) br t i d):=K.out.setB (Ne.symm u) _;have F2:Hid (Fr (·≠br) w (w1.setCell ⟨f,0,none⟩ (.int .i64 12))):=F.out.setB z _;have HA:Hid (Calls _ _ _ _ _):=R.out _ R2.out;have y:Hid ((pcF t i).data.toList=txF t.data.toList i):=g;have n:pcF t i=⟨⟨txF t.data.toList i⟩⟩:=by rw[<- g]
   have I:(tkF t.data.toList (i+1)).tx=txF t.data.toList (i+1):=rfl;have G:(tkF t.data.toList (i+1)).at'=atF t.data.toList (i+1):=rfl;have s:(pcF t (i+1)).toList=txF t.data.toList (i+1):=by rw[ByteArray.toList_eq,Br]
   simp only[I,G] at h;have S:Hid (∀W:World,_):=fun W h=>Em W br t (i+1) d 1 h;simp only[B7,List.contains_cons,List.contains_nil,Bool.or_false,Bool.or_eq_true,beq_iff_eq] at E;clear D I G A K F g J;cases O:txF t.data.toList (i+1)==[40] with
   | false =>
    rw[O,if_neg (by simp)] at h;have T:Hid (r=.error (1,atF t.data.toList (i+1))):=by simp only[Cz,Option.some.injEq] at h;exact h.symm
    have g3:((pcF t (i+1)).toList==[40])=false:=by rw[s];exact O
    clear h O s;rcases E with q|q|q|q|q|q|q
    all_goals
     rw[q] at n;rw[n] at U |-;clear q;go_wp2_with (first|(go_at_call 60;refine HA.out.mono ?_;rintro e o ⟨rfl,hr,b⟩;have C:Hid (RdF o br t (i+1) d):=hr;have B:Hid (Fr (·≠br) w o):=F2.out.trans b;have y2:=Aa C.out 2;clear hr b)|(go_at_call 61;refine(S.out _ C.out).mono ?_;rintro e w4 ⟨rfl,rfl⟩;unfold Flt))
     rw[T.out];exact⟨rfl,B.out,rfl⟩
   | true =>
    rw[O,if_pos rfl,Rw] at h;have g3:((pcF t (i+1)).toList==[40])=true:=by rw[s];exact O
    have HW:Hid (∀(W:World)(q:Except (Nat×Nat) (List PX×Nat)),_):=fun W q e h=>Iv HS.out W d (i+1) m ⟨#[41]⟩ rfl hd ht hm e h q;clear O s S;rcases E with q|q|q|q|q|q|q
    all_goals
     rw[q] at n;rw[n] at U |-;clear q;go_wp2_with (first|(go_at_call 60;refine HA.out.mono ?_;rintro e o ⟨rfl,hr,b⟩;have C:Hid (RdF o br t (i+1) d):=hr;have B:Hid (Fr (·≠br) w o):=F2.out.trans b;have Z:Hid (Ak o f 12 (pcF t i) ⟨#[]⟩ 0 (atF t.data.toList i) none 0 0):=E2.out.of b u;have y2:=Aa C.out 2;clear hr b))
     rcases Aw h with⟨⟨c,p⟩,hn,rfl⟩|⟨l,j2,hn,M⟩
     ·refine(HW.out o _ (HI.out.fr B.out) C.out hn).mono ?_;rintro e Q ⟨b,rfl⟩;exact⟨rfl,B.out.trans b,rfl⟩
     refine(HW.out o _ (HI.out.fr B.out) C.out hn).mono ?_;rintro e Q ⟨b,⟨a,a3,a4,rfl,H⟩,hr⟩;have R5:Hid (RdF Q br t j2 d):=hr;have F5:Hid (Fr (·≠br) w Q):=B.out.trans b;have E5:Hid (Ak Q f 12 (pcF t i) ⟨#[]⟩ 0 (atF t.data.toList i) none 0 0):=Z.out.of b u;have W5:Hid (Bh (fun k=>o.heap.size<=k) Q (Ae (fun k=>o.heap.size<=k) Q) a a3 l):=H;have T:Hid (r=.ok (C6 (txF t.data.toList i) l,j2)):=by simp only[okX,Option.some.injEq] at M;exact M.symm
     have X:f<o.heap.size:=Ab Z.out;have c5:=Aa E5.out 5;have f5:=Ac E5.out 5;clear b hr H hn h M C B y2;go_wp2_with fail
     go_ret
     rw[T.out];exact⟨F5.out.setB z _,⟨_,rfl,Mh X W5.out z E5.out (.inr (.inr (.inr (.inr (.inr (.inr (.inr (.inr (.inr (.inr (.inr ⟨.inr rfl,by rw[y.out];exact .inr (.inr (.inr (.inr (.inr (.inr (.inr (.inr (.inr ⟨a1,rfl⟩))))))))⟩)))))))))))⟩,R5.out.setB (Ne.symm u) _⟩
  | false =>
   rw[E,if_neg (by simp)] at h;have Y:(pcF t i).toList=txF t.data.toList i:=by rw[ByteArray.toList_eq,g]
   simp only[Eg,List.contains_cons,List.contains_nil,Bool.or_false,Bool.or_eq_false_iff] at J;simp only[B7,List.contains_cons,List.contains_nil,Bool.or_false,Bool.or_eq_false_iff] at E;rw[<- Y] at J E;obtain⟨g1,g2,g3⟩:=J;obtain⟨g4,g5,g6,g7,g8,g9,a5⟩:=E;have HC:Hid (Calls _ _ _ _ _):=Ua HS.out w1 d i m hd ht hm (HI.out.fr F.out) K.out r h;clear Y D g h c0 f0;go_wp2_with fail
   refine HC.out.mono ?_;rintro e w2 hp;rcases r with⟨c,p⟩|⟨x,j⟩
   ·obtain⟨b,rfl⟩:=hp;exact⟨rfl,F.out.trans b,rfl⟩
   ·have HH:=Cq.from F.out hp;obtain⟨b,⟨v,rfl,hv⟩,hr⟩:=hp;have a0:Hid (Cq w br t d (.ok (x,j)) (.returned v) w2):=HH;clear HH b hv hr HC;go_wp2_with fail
    go_ret
    exact a0.out
theorem Xs {be:Nat}{w w':World}{sort:Nat}{op nm:ByteArray}{n:Int}{at':Nat}{pa p0:Option Addr}{len cap l0 c0:Nat}{kids:List PX}{x:PX}(hbe:be<w.heap.size)(hrow:Bh (fun k=>w.heap.size<=k) w' (Ae (fun k=>w.heap.size<=k) w') pa len kids)(he':Ak w' be sort op nm n at' p0 l0 c0)
  (hm:K6 sort op.data.toList nm.data.toList n kids x):Ae (fun k=>k=be\/w.heap.size<=k) (w'.setCell ⟨be,5,none⟩ (.slice pa len cap)) x (.pointer (some ⟨be,0,none⟩)):=by
 have a:Fr (fun k=>w.heap.size<=k) w' (w'.setCell ⟨be,5,none⟩ (.slice pa len cap)):=(Fr.refl _ _).set (by simp;omega) _;refine Ae.node ⟨be,sort,op,nm,n,at',pa,len,cap,kids,rfl,.inl rfl,he'.parts _ _ _,?_,hm⟩;exact Bh.fr a (fun _ _ h=>h.fr a fun _ _ q=>.inr q) (fun _ _ q=>.inr q) hrow
theorem aC {br:Nat}{t:ByteArray}{self:Nat->Nat->Nat->RX PX}(hS:Az br t self)(w:World)(be d i m a0:Nat)(hd:d<=24)(ht:t.size<=4000)(hm:m<=1000000)(hbe:be≠br)(hb34:be≠5/\be≠6)(hI:B1 w br)(hr:RdF w br t i d)(he:Ak w be 12 ⟨#[]⟩ ⟨#[]⟩ 0 a0 none 0 0)
  (r:Except (Nat×Nat) (PX×Nat)) (h:Kj (tkF t.data.toList) self m d i=some r) :
  Calls Tryz.prog 162 #[.pointer (some ⟨br,0,none⟩),.pointer (some ⟨be,0,none⟩)] w (Oe w br be t d r):=by
 have L:Hid (Az br t self):=hS;have K:Hid (B1 w br):=hI;have E:Hid (RdF w br t i d):=hr;have J:Hid (Ak w be 12 ⟨#[]⟩ ⟨#[]⟩ 0 a0 none 0 0):=he;have a1:=Ab hr;have U:=Ab he;have h2:=Aa hr 2;clear hI hS hr he;have mo:=follows;have o:(pcF t i).data.toList=txF t.data.toList i:=Br t i;have v:(pcF t i).toList=txF t.data.toList i:=by rw[ByteArray.toList_eq,o]
 have A:(tkF t.data.toList i).tx=txF t.data.toList i:=rfl;unfold Kj at h;simp only[A] at h;cases s:Cy.contains (txF t.data.toList i) with
 | false =>
  rw[s,if_neg (by simp)] at h;simp only[Cy,List.contains_cons,List.contains_nil,Bool.or_false,Bool.or_eq_false_iff] at s;rw[<- v] at s;obtain⟨g1,g2⟩:=s;clear o v A;go_enter Tryz.func162,Tryz.ntmps162
  go_wp2_with fail
  rcases Aw h with⟨⟨c,p⟩,u,rfl⟩|⟨l,j2,u,g⟩
  ·refine(J7 L.out w d i m ⟨#[125]⟩ rfl hd ht hm K.out E.out _ u).mono ?_;rintro e n ⟨f,rfl⟩;exact⟨rfl,f.two,rfl⟩
  refine(J7 L.out w d i m ⟨#[125]⟩ rfl hd ht hm K.out E.out _ u).mono ?_;rintro e n ⟨f,⟨a,V,cap,rfl,y⟩,hr⟩;have T:Hid (RdF n br t j2 d):=hr;have Q:Hid (Fr (·≠br) w n):=f;have D:Hid (Ak n be 12 ⟨#[]⟩ ⟨#[]⟩ 0 a0 none 0 0):=J.out.of f hbe;have W5:Hid (Bh (fun k=>w.heap.size<=k) n (Ae (fun k=>w.heap.size<=k) n) a V l):=y;have R:Hid (r=.ok (Hl l,j2)):=by simp only[okX,Option.some.injEq] at g;exact g.symm
  have c1:=Aa D.out 1;have f1:=Ac D.out 1;have c5:=Aa D.out 5;have f5:=Ac D.out 5;clear f hr y u h g E J h2;go_wp2_with fail
  refine bodyPost_ret (results_none rfl _ _ _) rfl ?_;rw[R.out];have F:Fr (fun k=>w.heap.size<=k) n (n.setCell ⟨be,1,none⟩ (.string ⟨#[115,101,116]⟩)):=(Fr.refl _ _).set (by simp;omega) _;have N:=Xs (cap:=cap) U (Bh.fr F (fun _ _ h=>h.fr F fun _ _ q=>q) (fun _ _ q=>q) W5.out) (D.out.op ⟨#[115,101,116]⟩) (x:=Hl l) (.inr (.inr (.inr (.inr (.inr (.inr (.inr (.inr (.inr (.inr (.inr ⟨.inr rfl,.inr (.inl ⟨rfl,rfl⟩)⟩)))))))))));exact⟨(Q.out.two.set (p:=⟨be,1,none⟩) (fun q=>q.2 rfl) _).set (p:=⟨be,5,none⟩) (fun q=>q.2 rfl) _,rfl,N,(T.out.setB (Ne.symm hbe) _).setB (Ne.symm hbe) _⟩
 | true =>
  rw[s,if_pos rfl] at h;have Z:Hid (Calls _ _ _ _ _):=Kr w br t i d E.out ht;have G:(pcF t i).data.toList∈Hn\/(pcF t i).data.toList∈Cy:=.inr (by rw[o];exact List.contains_iff_mem.1 s);rw[<- o] at h;have Y:Hid (∀(W:World)(m:ByteArray)(k:Nat)(b:Bool),_):=fun W m k b h=>Db W br t m k d h ht b;have hg:((pcF t i).toList==[101,97,99,104])=true\/(((pcF t i).toList==[101,97,99,104])=false/\((pcF t i).toList==[116,104,111,115,101])=true):=by
   rw[v];simp only[Cy,List.contains_cons,List.contains_nil,Bool.or_false,Bool.or_eq_true] at s;cases e:txF t.data.toList i==[101,97,99,104] with
   | true=>exact .inl rfl
   | false=>rw[e] at s;simp at s;exact .inr ⟨rfl,by simpa using s⟩
  clear s v A o;rcases hg with g1|⟨g1,g2⟩
  all_goals
   go_enter Tryz.func162,Tryz.ntmps162
   go_wp2_with (go_at_call 114;refine Z.out.mono ?_;rintro e B ⟨rfl,hr,f⟩;have R2:Hid (RdF B br t (i+1) d):=hr;have X:Hid (Fr (·≠br) w B):=f;have H:Hid (Ak B be 12 ⟨#[]⟩ ⟨#[]⟩ 0 a0 none 0 0):=J.out.of f hbe;have c1:=Aa H.out 1;have f1:=Ac H.out 1;clear hr f)
   have I:Hid (Ak (B.setCell ⟨be,1,none⟩ (.string (pcF t i))) be 12 (pcF t i) ⟨#[]⟩ 0 a0 none 0 0):=H.out.op _;have M:Hid (RdF (B.setCell ⟨be,1,none⟩ (.string (pcF t i))) br t (i+1) d):=R2.out.setB (Ne.symm hbe) _;have z:Hid (Fr (fun k=>k≠br/\k≠be) w (B.setCell ⟨be,1,none⟩ (.string (pcF t i)))):=X.out.two.set (p:=⟨be,1,none⟩) (fun q=>q.2 rfl) _;clear c1 f1 H R2 X Z E J h2;generalize B.setCell ⟨be,1,none⟩ (.string (pcF t i))=w3 at I M z |-;have a2:=z.out.size;rcases Aw h with⟨⟨c,p⟩,u,rfl⟩|⟨x,j,u,hk⟩
   ·refine(Jo L.out w3 be d (i+1) 12 _ (pcF t i) _ 0 hd ht hbe hb34 (K.out.two hb34 z.out) M.out I.out G _ u).mono ?_;rintro e C ⟨f,rfl⟩;exact⟨rfl,z.out.trans f,rfl⟩
   refine(Jo L.out w3 be d (i+1) 12 _ (pcF t i) _ 0 hd ht hbe hb34 (K.out.two hb34 z.out) M.out I.out G _ u).mono ?_;rintro e C ⟨f,rfl,N,hr⟩;have S:Hid (RdF C br t j d):=hr;have P:Hid (Fr (fun k=>k≠br/\k≠be) w C):=z.out.trans f;have T4:Hid (Ae (fun k=>k=be\/w.heap.size<=k) C x (.pointer (some ⟨be,0,none⟩))):=N.fr (Fr.refl _ _) fun _ _ q=>by omega
   clear f N hr u h I M z;go_wp2_with fail
   rcases Cf hk with⟨O,g⟩|⟨O,rfl⟩
   case inr =>
    refine(Y.out C ⟨#[125]⟩ j false S.out O).mono ?_;rintro e n ⟨f,⟨q,-⟩|⟨-,rfl⟩⟩
    ·simp at q
    ·exact⟨rfl,P.out.trans f.two,rfl⟩
   refine(Y.out C ⟨#[125]⟩ j true S.out O).mono ?_;rintro e n ⟨f,⟨-,rfl,hr⟩|⟨q,-⟩⟩
   case inr=>simp at q
   have T:Hid (RdF n br t (j+1) d):=hr;have Q:Hid (Fr (fun k=>k≠br/\k≠be) w n):=P.out.trans f.two;have T5:Hid (Ae (fun k=>k=be\/w.heap.size<=k) n x (.pointer (some ⟨be,0,none⟩))):=T4.out.fr (f.mono fun k q=>by omega) fun _ _ q=>q;have R:Hid (r=.ok (x,j+1)):=by simp only[okX,Option.some.injEq] at g;exact g.symm
   clear f hr O hk g S P T4;go_wp2_with fail
   go_end0
   rw[R.out];exact⟨Q.out,rfl,T5.out,T.out⟩
def eL (w:World)(br:Nat)(t:ByteArray)(d:Nat)(r:Except (Nat×Nat) ((PX×PX)×Nat))(e:Ending)(w':World):Prop :=
 Fr (·≠br) w w'/\match r with
  | .ok ((a,b),j)=>(∃va vb,e=.returned (.agg #[va,vb])/\Ae (fun k=>w.heap.size<=k) w' a va/\Ae (fun k=>w.heap.size<=k) w' b vb)/\RdF w' br t j d
  | .error (c,p)=>e=Flt c p
theorem I6 {br:Nat}{t:ByteArray}{self:Nat->Nat->Nat->RX PX}(hS:Az br t self)(w:World)(d i:Nat)(hd:d<=24)(ht:t.size<=4000)(hI:B1 w br)(hr:RdF w br t i d)
  (r:Except (Nat×Nat) ((PX×PX)×Nat)) (h:Ev (tkF t.data.toList) self d i=some r) :
  Calls Tryz.prog 165 #[.pointer (some ⟨br,0,none⟩)] w (eL w br t d r):=by
 have N:Hid (Az br t self):=hS;have M:Hid (B1 w br):=hI;have HD:Hid (∀(W:World)(m:ByteArray)(k:Nat)(b:Bool),_):=fun W m k b h=>Db W br t m k d h ht b;have Z:=Ab hr;have HR:Hid (RdF w br t i d):=hr;clear hI hS hr;have mo:=follows;unfold Ev at h;go_enter Tryz.func165,Tryz.ntmps165
 have C:Hid ((w.alloc (.cells #[.pointer none,.pointer none] 214)).heap[w.heap.size]?=some (.cells #[.pointer none,.pointer none] 214 (0,0))):=Al rfl;have O:Hid (RdF (w.alloc (.cells #[.pointer none,.pointer none] 214)) br t i d):=RdF.of HR.out (P:=fun _=>True) ((Fr.refl _ w).alloc _) trivial;have o:Hid (Fr (·≠br) w (w.alloc (.cells #[.pointer none,.pointer none] 214))):=(Fr.refl _ w).alloc _;clear HR;go_wp2_with fail
 generalize w.alloc (.cells #[.pointer none,.pointer none] 214)=w3 at C O o |-;obtain⟨g,G⟩:∃g,w.heap.size=g:=⟨_,rfl⟩;rw[G] at C Z |-;have K:w.heap.size<=g:=by omega
 clear G;have a0:g<w3.heap.size:=Ab C.out;obtain⟨z,a1⟩:∃z,w3.heap.size=z:=⟨_,rfl⟩;rcases Aw h with⟨⟨c,p⟩,l,rfl⟩|⟨a,j,l,hk⟩
 ·refine(A0 N.out w3 d _ _ hd (M.out.fr o.out) O.out l).mono ?_;rintro e A ⟨f,rfl⟩;exact⟨rfl,o.out.trans f,rfl⟩
 refine(A0 N.out w3 d _ _ hd (M.out.fr o.out) O.out l).mono ?_;rintro e A ⟨f,⟨va,rfl,J⟩,hr⟩;have V:Hid (RdF A br t j (d)):=hr;have a5:=o.out.size;have a2:=f.size;have U:Hid (Fr (·≠br) w A):=o.out.trans f;have S:Hid (A.heap[g]?=some (.cells #[.pointer none,.pointer none] 214 (0,0))):=(f.block g (Ab C.out) (by omega)).trans C.out;have s:Hid (Ae (fun k=>z<=k) A a va):=Ae.fr (Fr.refl _ _) (fun _ _ q=>by omega) J;clear f hr l J h;clear O o C;obtain⟨Q,rfl,-,-⟩:=s.out.ptr;go_wp2_with fail
 rcases Cf hk with⟨R,I⟩|⟨R,rfl⟩
 case inr =>
  refine(HD.out A ⟨#[58]⟩ (j) false V.out R).mono ?_;rintro e B ⟨f,⟨q,-⟩|⟨-,rfl⟩⟩
  ·simp at q
  ·exact⟨rfl,U.out.trans f,rfl⟩
 refine(HD.out A ⟨#[58]⟩ (j) true V.out R).mono ?_;rintro e B ⟨f,⟨-,rfl,hr⟩|⟨q,-⟩⟩
 case inr=>simp at q
 have X:Hid (RdF B br t (j+1) (d)):=hr;have a3:=f.size;have D:Hid (Fr (·≠br) w B):=U.out.trans f;have E:Hid (Ae (fun k=>z<=k) B a (.pointer (some ⟨Q,0,none⟩))):=s.out.fr (f.mono fun k q=>by omega) (fun _ _ q=>q);have T:Hid (B.heap[g]?=some (.cells #[.pointer none,.pointer none] 214 (0,0))):=(f.block g (Ab S.out) (by omega)).trans S.out;clear f hr R hk;clear V U s S;go_wp2_with fail
 rcases Aw I with⟨⟨c,p⟩,l,rfl⟩|⟨b,j2,l,u⟩
 ·refine(A0 N.out B d _ _ hd (M.out.fr D.out) X.out l).mono ?_;rintro e n ⟨f,rfl⟩;exact⟨rfl,D.out.trans f,rfl⟩
 refine(A0 N.out B d _ _ hd (M.out.fr D.out) X.out l).mono ?_;rintro e n ⟨f,⟨vb,rfl,J⟩,hr⟩;have R6:Hid (RdF n br t j2 (d)):=hr;have a6:=D.out.size;have a4:=f.size;have F6:Hid (Fr (·≠br) w n):=D.out.trans f;have Y:Hid (Ae (fun k=>z<=k) n a (.pointer (some ⟨Q,0,none⟩))):=E.out.fr (f.mono fun k q=>by omega) (fun _ _ q=>q);have L:Hid (n.heap[g]?=some (.cells #[.pointer none,.pointer none] 214 (0,0))):=(f.block g (Ab T.out) (by omega)).trans T.out;have F:Hid (Ae (fun k=>z<=k) n b vb):=Ae.fr (Fr.refl _ _) (fun _ _ q=>by omega) J;clear f hr l J I;clear X D E T;obtain⟨bb,rfl,-,-⟩:=F.out.ptr;obtain⟨y0,y1⟩:=dN L.out;obtain⟨z0,z1,-⟩:=Ip L.out;have HQ:Hid (r=.ok ((a,b),j2)):=by simp only[okX,Option.some.injEq] at u;exact u.symm
 clear u;go_wp2_with fail
 have e0:=fun x y=>Aa (Aj (Aj L.out 0 x) 1 y) 0;have e1:=fun x y=>Aa (Aj (Aj L.out 0 x) 1 y) 1;simp at e0 e1;refine bodyPost_ret (v:=.agg #[.pointer (some ⟨Q,0,none⟩),.pointer (some ⟨bb,0,none⟩)]) (by simp[results,Tryz.results165,go_sem,e0,e1]) rfl ?_;rw[HQ.out];have H:Fr (fun k=>z<=k) n ((n.setCell ⟨g,0,none⟩ (.pointer (some ⟨Q,0,none⟩))).setCell ⟨g,1,none⟩ (.pointer (some ⟨bb,0,none⟩))):=((Fr.refl _ _).set (by simp;omega) _).set (by simp;omega) _;exact⟨(F6.out.setB K _).setB K _,⟨_,_,rfl,Y.out.fr H fun _ _ q=>by omega,F.out.fr H fun _ _ q=>by omega⟩,(R6.out.setB (by simp;omega) _).setB (by simp;omega) _⟩
theorem eM:(Tryz.prog.info? 214).map (fun i=>(i.zero,i.size,i.bytes))=some (some (.agg #[.pointer none,.pointer none]),2,16):=by kernel_rfl
def Mi (P:Nat->Prop)(w:World)(a:Option Addr)(len:Nat)(es:List (PX×PX)):Prop :=
 len=es.length/\len<=4294967296/\(len=0\/∃b off,a=some ⟨b,off,none⟩/\b<w.heap.size/\P b/\∀(i:Nat)(p:PX×PX),es[i]?=some p->∃v u,w.cell? ⟨b,off+i*2,none⟩=some v/\w.cell? ⟨b,off+i*2+1,none⟩=some u/\Ae P w p.1 v/\Ae P w p.2 u)
theorem Mi.fr {P Q:Nat->Prop}{w w':World}{a:Option Addr}{len:Nat}{es:List (PX×PX)}(h:Mi P w a len es)(hf:Fr P w w')(hQ:∀k,k<w.heap.size->P k->Q k):Mi Q w' a len es:=by
 obtain⟨l,m,c⟩:=h;refine⟨l,m,?_⟩;rcases c with c|⟨b,g,e,f,j,c⟩
 ·exact .inl c
 ·have d:=hf.block b f j;refine .inr ⟨b,g,e,Nat.lt_of_lt_of_le f hf.size,hQ b f j,fun i p q=>?_⟩;obtain⟨v,u,o,n,r,s⟩:=c i p q;exact⟨v,u,(World.cell?_of_block (w:=w) d).trans o,(World.cell?_of_block (w:=w) d).trans n,r.fr hf hQ,s.fr hf hQ⟩
def LS2 (w:World)(lo:Nat)(sl:Value)(es:List (PX×PX)):Prop :=
 ∃vs,w.ownsRow lo 214 2 sl es.length vs/\∀(i:Nat)(p:PX×PX),es[i]?=some p->∃v u,vs[i*2]?=some v/\vs[i*2+1]?=some u/\Ae (fun k=>lo<=k/\sl.ownBlock≠some k) w p.1 v/\Ae (fun k=>lo<=k/\sl.ownBlock≠some k) w p.2 u
theorem aD {w w':World}{base:Nat}{sl:Value}{n:Nat}{vs:List Value}(h:w.ownsRow base 214 2 sl n vs)(hb:∀g,sl.ownBlock=some g->base<=g->g<w.heap.size->w'.heap[g]?=w.heap[g]?):w'.ownsRow base 214 2 sl n vs:=by
 refine⟨h.1,?_⟩;rcases h.2 with f|⟨g,a,b,e,c,d,r⟩
 ·exact .inl f
 ·exact .inr ⟨g,a,b,e,c,(hb g (by rw[e];rfl) c (Ab d)).trans d,r⟩
theorem LS2.nil (w:World)(lo:Nat):LS2 w lo (.slice none 0 0) []:=⟨[],World.ownsRow_nil _ _ _ _,fun i x q=>by simp at q⟩
theorem LS2.fr {w w':World}{lo br:Nat}{sl:Value}{es:List (PX×PX)}(h:LS2 w lo sl es)(f:Fr (·≠br) w w')(hbr:br<lo):LS2 w' lo sl es:=by
 obtain⟨l,a,b⟩:=h;refine⟨l,aD a (fun g _ hg hlt=>f.block g hlt (by omega)),fun i x q=>?_⟩;obtain⟨v,u,j,e,d,c⟩:=b i x q;exact⟨v,u,j,e,d.fr (f.mono fun k hk=>by have:=hk.1;omega) fun _ _ q=>q,c.fr (f.mono fun k hk=>by have:=hk.1;omega) fun _ _ q=>q⟩
theorem LS2.row {w:World}{lo:Nat}{sl:Value}{es:List (PX×PX)}(h:LS2 w lo sl es)(hl:es.length<=4294967296):∃a len cap,sl=.slice a len cap/\Mi (fun k=>lo<=k) w a len es:=by
 obtain⟨t,j,l⟩:=h;rcases j.2 with⟨rfl,r⟩|⟨g,cap,f,rfl,o,d,p,_,s,e⟩
 ·exact⟨none,0,0,rfl,by omega,by omega,.inl rfl⟩
 ·refine⟨_,es.length,cap,rfl,rfl,hl,.inr ⟨g,0,rfl,Ab d,o,fun i x q=>?_⟩⟩;obtain⟨v,u,c,b,m,n⟩:=l i x q;refine⟨v,u,?_,?_,m.fr (Fr.refl _ _) fun _ _ q=>q.1,n.fr (Fr.refl _ _) fun _ _ q=>q.1⟩
  ·rw[Nat.zero_add,Aa d];rw[<- e,List.getElem?_take] at c;split at c
   ·simpa using c
   ·simp at c
  ·rw[Nat.zero_add,Aa d];rw[<- e,List.getElem?_take] at b;split at b
   ·simpa using b
   ·simp at b
theorem LS2.push {w w1 w2:World}{lo g cap:Nat}{es:List (PX×PX)}{sl:Value}{vs:List Value}{x y:PX}{v u:Value}
  (h2:∀(i:Nat)(p:PX×PX),es[i]?=some p->∃v u,vs[i*2]?=some v/\vs[i*2+1]?=some u/\Ae (fun k=>lo<=k/\sl.ownBlock≠some k) w1 p.1 v/\Ae (fun k=>lo<=k/\sl.ownBlock≠some k) w1 p.2 u) (hvl:vs.length=es.length*2)
  (hx:Ae (fun k=>w.heap.size<=k) w1 x v) (hy:Ae (fun k=>w.heap.size<=k) w1 y u) (hlo:lo<=w.heap.size) (hsl:∀q,sl.ownBlock=some q->q<w.heap.size)
  (ho:w2.ownsRow lo 214 2 (.slice (some ⟨g,0,none⟩) (es.length+1) cap) (es.length+1) (vs++[v,u])) (hg:w1.grownBy w2 sl.ownBlock) (hat:sl.ownBlock=some g\/w1.heap.size<=g) :
  LS2 w2 lo (.slice (some ⟨g,0,none⟩) (es.length+1) cap) (es++[(x,y)]):=by
 have a:∀(z:PX)(q:Value),Ae (fun k=>lo<=k/\sl.ownBlock≠some k) w1 z q->Ae (fun k=>lo<=k/\(Value.slice (some ⟨g,0,none⟩) (es.length+1) cap).ownBlock≠some k) w2 z q:=by
  intro z q m;have c:Fr (fun k=>lo<=k/\sl.ownBlock≠some k) w1 w2:=⟨hg.os,hg.tape,hg.output,hg.size,fun k hk hp=>hg.block k hk (fun e=>hp.2 e.symm)⟩;refine m.fr c fun k hk hp=>⟨hp.1,fun e=>?_⟩;simp only[Value.ownBlock,Option.some.injEq] at e;subst e;rcases hat with q|q
  ·exact hp.2 q
  ·omega
 refine⟨vs++[v,u],by rw[List.length_append];exact ho,fun i p q=>?_⟩;by_cases h:i<es.length
 ·rw[List.getElem?_append_left h] at q;obtain⟨o,n,l,j,d,f⟩:=h2 i p q;exact⟨o,n,by rw[List.getElem?_append_left (by omega)];exact l,by rw[List.getElem?_append_left (by omega)];exact j,a _ _ d,a _ _ f⟩
 ·have b:i=es.length:=by
   have:=(List.getElem?_eq_some_iff.1 q).1;simp at this;omega
  subst b;rw[List.getElem?_append_right (Nat.le_refl _)] at q;simp at q;subst q;exact⟨v,u,by rw[List.getElem?_append_right (by omega)];simp[hvl],by rw[List.getElem?_append_right (by omega),hvl,show es.length*2+1-es.length*2=1 from by omega];rfl,a _ _ (hx.fr (Fr.refl _ _) fun k _ hk=>⟨by omega,fun e=>by have:=hsl k e;omega⟩),a _ _ (hy.fr (Fr.refl _ _) fun k _ hk=>⟨by omega,fun e=>by have:=hsl k e;omega⟩)⟩
def eN (w:World)(br:Nat)(t:ByteArray)(d:Nat)(r:Except (Nat×Nat) (List (PX×PX)×Nat))(e:Ending)(w':World):Prop :=
 Fr (·≠br) w w'/\match r with
  | .ok (l,j)=>(∃a len cap,e=.returned (.slice a len cap)/\Mi (fun k=>w.heap.size<=k) w' a len l)/\RdF w' br t j d
  | .error (c,p)=>e=Flt c p
def dQ (w:World)(br:Nat)(t:ByteArray)(d:Nat)(cl:List UInt8)(r:Except (Nat×Nat) (List (PX×PX)×Nat))(e:Ending)(w':World):Prop :=
 Fr (·≠br) w w'/\((∃c p,r=.error (c,p)/\e=Flt c p)\/∃l j a len cap,e=.returned (.slice a len cap)/\Mi (fun k=>w.heap.size<=k) w' a len l/\RdF w' br t j d/\aB (tkF t.data.toList) cl l j r)
theorem LS2.one {w w2:World}{x y:PX}{v u:Value}(hx:Ae (fun k=>w.heap.size<=k) w2 x v)(hy:Ae (fun k=>w.heap.size<=k) w2 y u)(hz:w.heap.size<=w2.heap.size) :
  LS2 (w2.alloc (.cells #[v,u] 214)) w.heap.size (.slice (some ⟨w2.heap.size,0,none⟩) 1 1) [(x,y)]:=by
 have b:(w2.alloc (.cells #[v,u] 214)).heap[w2.heap.size]?=some (.cells #[v,u] 214 (0,0)):=Al rfl;have a:∀k,k<w2.heap.size->w.heap.size<=k->w.heap.size<=k/\(Value.slice (some ⟨w2.heap.size,0,none⟩) 1 1).ownBlock≠some k:=fun k hk hp=>⟨hp,fun e=>by
  simp only[Value.ownBlock,Option.some.injEq] at e;omega⟩
 refine⟨[v,u],⟨rfl,.inr ⟨w2.heap.size,1,#[v,u],rfl,hz,b,Nat.le_refl _,by unfold maxLen;omega,rfl,rfl⟩⟩,fun i p q=>?_⟩
 match i,q with
 | 0,q =>
  simp at q;subst q;exact⟨v,u,rfl,rfl,hx.fr ((Fr.refl _ w2).alloc _) a,hy.fr ((Fr.refl _ w2).alloc _) a⟩
 | i+1,q=>simp at q
theorem Nl {br:Nat}{t:ByteArray}{self:Nat->Nat->Nat->RX PX}(hS:Az br t self)(w:World)(d i m:Nat)(cl:List UInt8)(hcl:(([44]:List UInt8)==cl)=false)(hd:d<=24)(ht:t.size<=4000)(hm:m<=1000000)(hI:B1 w br)(hr:RdF w br t i d)
  (r:Except (Nat×Nat) (List (PX×PX)×Nat)) (h:Bq (tkF t.data.toList) cl (Ev (tkF t.data.toList) self d) m [] i=some r) :
  Calls Tryz.prog 169 #[.pointer (some ⟨br,0,none⟩),.func (.func 165) #[.pointer (some ⟨br,0,none⟩)] #[]] w (dQ w br t d cl r):=by
 have HS:Hid (Az br t self):=hS;have HI:Hid (B1 w br):=hI;have HK:Hid (∀(W:World)(k:Nat)(b:Bool),_):=fun W k b h=>Gb W br t ⟨#[44]⟩ k d h ht b;have HC:Hid ((([44]:List UInt8)==cl)=false):=hcl;have E:=Ab hr;have HR:Hid (RdF w br t i d):=hr;clear hI hS hr hcl;have mo:=follows;obtain⟨P,b0,b3,b4,b5⟩:∃P,Tryz.prog.info? 214=some P/\P.zero=some (.agg #[.pointer none,.pointer none])/\P.size=2/\P.bytes=16:=by
  have:=eM;cases hq:Tryz.prog.info? 214 with
  | none=>rw[hq] at this;simp at this
  | some j=>rw[hq] at this;simp at this;exact⟨j,rfl,this.1,this.2.1,this.2.2⟩
 obtain⟨m,rfl⟩:∃m',m=m'+1:=by
  cases m with
  | zero=>exact absurd h (by simp[Bq])
  | succ m=>exact⟨m,rfl⟩
 rw[Bq] at h;go_enter Tryz.func169,Tryz.ntmps169
 go_wp2_with fail
 rcases Aw h with⟨⟨c,p⟩,F,rfl⟩|⟨⟨x,x2⟩,j2,F,hk⟩
 ·refine(I6 HS.out w d _ hd ht HI.out HR.out _ F).mono ?_;rintro e z ⟨l,rfl⟩;exact⟨rfl,l,.inl ⟨_,_,rfl,rfl⟩⟩
 refine(I6 HS.out w d _ hd ht HI.out HR.out _ F).mono ?_;rintro e z ⟨l,⟨v,u,rfl,hv,H⟩,hr⟩;have R2:Hid (RdF z br t j2 d):=hr;have F2:Hid (Fr (·≠br) w z):=l;have T2:Hid (Ae (fun k=>w.heap.size<=k) z x v):=hv;have U2:Hid (Ae (fun k=>w.heap.size<=k) z x2 u):=H;have P2:Hid (_=some r):=hk;have M:=l.size;clear l hr F hv H hk h HR;obtain⟨bx,rfl,-,-⟩:=T2.out.ptr;obtain⟨D,rfl,-,-⟩:=U2.out.ptr;go_wp2_with fail
 have L3:Hid (LS2 (z.alloc (.cells #[.pointer (some ⟨bx,0,none⟩),.pointer (some ⟨D,0,none⟩)] 214)) w.heap.size (.slice (some ⟨z.heap.size,0,none⟩) 1 1) [(x,x2)]):=LS2.one T2.out U2.out M;have F3:Hid (Fr (·≠br) w (z.alloc (.cells #[.pointer (some ⟨bx,0,none⟩),.pointer (some ⟨D,0,none⟩)] 214))):=F2.out.alloc _;have R3:Hid (RdF (z.alloc (.cells #[.pointer (some ⟨bx,0,none⟩),.pointer (some ⟨D,0,none⟩)] 214)) br t j2 d):=RdF.of R2.out ((Fr.refl (fun _=>True) z).alloc _) trivial;clear F2 R2 T2 U2 M;generalize z.alloc (.cells #[.pointer (some ⟨bx,0,none⟩),.pointer (some ⟨D,0,none⟩)] 214)=w3 at L3 F3 R3 |-;generalize a8:Value.slice (some ⟨z.heap.size,0,none⟩) 1 1=s5 at L3 |-;clear a8;go_loopg [5] (m) (fun f s5 wr=>∃(j:Nat)(a:List (PX×PX)),a.length+f<=1000000/\Hid (RdF wr br t j d)/\Hid (LS2 wr w.heap.size s5 a)/\Hid ((if ((tkF t.data.toList) j).tx==cl then okX a (j+1) else Cj (tkF t.data.toList) [44] j fun j=>Bq (tkF t.data.toList) cl (Ev (tkF t.data.toList) self d) f a j)=some r)/\Hid (Fr (·≠br) w wr))
 case atStart=>exact⟨j2,[(x,x2)],by simp;omega,R3,L3,P2,F3⟩
 case round =>
  clear R3 L3 P2 F3;obtain⟨j,a,b7,R1,L1,P1,F1⟩:=hrel;rcases Rv HC.out P1.out with⟨Z,hp⟩|⟨Z,hp⟩
  case inr =>
   have R:Hid (aB (tkF t.data.toList) cl a j r):=hp;have C:Hid (Calls _ _ _ _ _):=HK.out wr j false R1.out Z;clear Z hp P1 R1;go_wp2_with (go_at_call 112;refine C.out.mono ?_;rintro e s ⟨rfl,hr,l⟩;have V:Hid (RdF s br t j d):=hr;have G:Hid (Fr (·≠br) w s):=F1.out.trans l;have T:Hid (LS2 s w.heap.size _ a):=L1.out.fr l E;clear hr l)
   go_ret
   obtain⟨a4,l4,c4,a2,K⟩:=T.out.row (by omega);exact⟨G.out,.inr ⟨a,j,a4,l4,c4,by rw[a2];rfl,K,V.out,R.out⟩⟩
  have C:Hid (Calls _ _ _ _ _):=HK.out wr j true R1.out Z;have R:Hid (Bq (tkF t.data.toList) cl (Ev (tkF t.data.toList) self d) gk a (j+1)=some r):=hp;clear Z hp P1 R1;obtain⟨f,rfl⟩:∃f,gk=f+1:=by
   cases gk with
   | zero=>exact absurd R.out (by simp[Bq])
   | succ f=>exact⟨f,rfl⟩
  go_wp2_with (go_at_call 112;refine C.out.mono ?_;rintro e s ⟨rfl,hr,l⟩;have V:Hid (RdF s br t (j+1) d):=hr;have G:Hid (Fr (·≠br) w s):=F1.out.trans l;have T:Hid (LS2 s w.heap.size u5 a):=L1.out.fr l E;clear hr l)
  have hp:=R.out;rw[Bq] at hp;clear R C L1 F1;rcases Aw hp with⟨⟨c,p⟩,F,rfl⟩|⟨⟨y,y2⟩,j3,F,hk⟩
  ·refine(I6 HS.out s d _ hd ht (HI.out.fr G.out) V.out _ F).mono ?_;rintro e B ⟨l,rfl⟩;exact⟨rfl,G.out.trans l,.inl ⟨_,_,rfl,rfl⟩⟩
  refine(I6 HS.out s d _ hd ht (HI.out.fr G.out) V.out _ F).mono ?_;rintro e B ⟨l,⟨v,u,rfl,hv,H⟩,hr⟩;have b2:=G.out.size;have R5:Hid (RdF B br t j3 d):=hr;have I:Hid (Fr (·≠br) w B):=G.out.trans l;have T5:Hid (Ae (fun k=>s.heap.size<=k) B y v):=hv;have U5:Hid (Ae (fun k=>s.heap.size<=k) B y2 u):=H;have P5:Hid (_=some r):=hk;have L5:=T.out.fr l E;have a0:∀q,u5.ownBlock=some q->q<s.heap.size:=by
   obtain⟨vs,h1,-⟩:=T.out;intro q hq;exact(h1.lt q hq).2
  obtain⟨vs,O,h2⟩:=L5;have a5:vs.length=a.length*2:=by have:=O.1;omega
  have HO:Hid (B.ownsRow w.heap.size 214 2 u5 a.length vs):=O;have H2:Hid (∀(i:Nat)(p:PX×PX),a[i]?=some p->_):=h2;have S:Hid (∀q,u5.ownBlock=some q->q<s.heap.size):=a0;have M:=I.out.size;have b8:=l.size;clear l hr F hv H hk O h2 a0 V G T hp;obtain⟨J,rfl,-,-⟩:=T5.out.ptr;obtain⟨bz,rfl,-,-⟩:=U5.out.ptr;have Q:Hid ((B.alloc (.cells #[.pointer (some ⟨J,0,none⟩),.pointer (some ⟨bz,0,none⟩)] 214)).ownsRow w.heap.size 214 2 u5 a.length vs):=HO.out.alloc _;go_wp2_with (at_builtin;refine wpList_append_lies _ rfl _ _ 212 rfl _ 214 P _ 2 16 Tryz.underlying212 b0 b3 b4 b5 rfl (by decide) u5 _ vs rfl Q.out _ 1 1 [.pointer (some ⟨J,0,none⟩),.pointer (some ⟨bz,0,none⟩)] rfl rfl ?q1 ?q2 (by decide) ?q3 ?q4 ?q5 (B.heap.size+1) ?q6 ?_)
  case q1 =>
   intro k u hk
   match k,hk with
   | 0,hk=>simp at hk;subst hk;simp[Addr.add]
   | 1,hk=>simp at hk;subst hk;simp[Addr.add]
   | k+2,hk=>simp at hk
  case q2 =>
   intro u H;simp only[List.mem_cons,List.not_mem_nil,or_false] at H;rcases H with rfl|rfl<;>rfl
  case q3=>unfold maxLen;omega
  case q4=>omega
  case q5=>simp;omega
  case q6=>simp
  intro g X w6 O N Y b1;have o:B.grownBy w6 u5.ownBlock:=by
   have a1:=World.grownBy_alloc B (.cells #[.pointer (some ⟨J,0,none⟩),.pointer (some ⟨bz,0,none⟩)] 214) u5.ownBlock;refine⟨N.os,N.tape,N.output,?_,fun k hk hne=>?_⟩
   ·have:=N.size;simp at this;omega
   ·rw[N.block k (by simp;omega) hne,a1.block k hk hne]
  have U:Hid (LS2 w6 w.heap.size (.slice (some ⟨g,0,none⟩) (a.length+1) X) (a++[(y,y2)])):=LS2.push H2.out a5 T5.out U5.out b2 S.out O o (by rcases Y with q|q;exact .inl q;exact .inr (by omega));have n:Fr (fun k=>u5.ownBlock≠some k) B w6:=⟨o.os,o.tape,o.output,o.size,fun k hk hp=>o.block k hk (fun e=>hp e.symm)⟩;have A:∀k,k<w.heap.size->u5.ownBlock≠some k:=fun k hk e=>by have:=(HO.out.lt k e).1;omega
  have F6:Hid (Fr (·≠br) w w6):=⟨n.os.trans I.out.os,n.tape.trans I.out.tape,n.output.trans I.out.output,Nat.le_trans I.out.size n.size,fun k hk hq=>(n.block k (by omega) (A k hk)).trans (I.out.block k hk hq)⟩;have R6:Hid (RdF w6 br t j3 d):=RdF.of R5.out n (A br E);clear O N Y b1 o n A H2 HO S Q T5 U5 R5 I;have b6:a.length+1+f<=1000000:=by omega
  generalize hA:a++[(y,y2)]=acc2 at U P5;have a7:acc2.length=a.length+1:=by rw[<- hA];simp
  clear hA;rw[<- a7] at U |-;generalize a9:Value.slice (some ⟨g,0,none⟩) acc2.length X=sl at U |-;clear a9 a5;obtain⟨a6,l6,c6,a3,L⟩:=U.out.row (by omega);clear L;subst a3;go_wp2_with fail
  go_roundg f
  case measure=>omega
  case rel=>exact⟨j3,acc2,by omega,R6,U,P5,F6⟩
theorem Mj {br:Nat}{t:ByteArray}{self:Nat->Nat->Nat->RX PX}(hS:Az br t self)(w:World)(d i m:Nat)(cl:ByteArray)(hcl:(([44]:List UInt8)==cl.data.toList)=false)(hd:d<=24)(ht:t.size<=4000)(hm:m<=1000000)(hI:B1 w br)(hr:RdF w br t i d)
  (r:Except (Nat×Nat) (List (PX×PX)×Nat)) (h:Bq (tkF t.data.toList) cl.data.toList (Ev (tkF t.data.toList) self d) m [] i=some r) :
  Calls Tryz.prog 164 #[.pointer (some ⟨br,0,none⟩),.func (.func 165) #[.pointer (some ⟨br,0,none⟩)] #[],.string cl] w (eN w br t d r):=by
 have C:Hid (Calls _ _ _ _ _):=Nl hS w d i m cl.data.toList hcl hd ht hm hI hr r h;have y:Hid (∀(W:World)(k:Nat)(b:Bool),_):=fun W k b h=>Db W br t cl k d h ht b;have I:=Ab hr;clear hI hS hr h hcl;have J:=follows;go_enter Tryz.func164,Tryz.ntmps164
 go_wp2_with fail
 refine C.out.mono ?_;rintro e s ⟨f,⟨c,p,rfl,rfl⟩|⟨l,j,a,n,A,rfl,g,hr,o⟩⟩
 ·exact⟨rfl,f,rfl⟩
 have z:Hid (RdF s br t j d):=hr;have x:Hid (Fr (·≠br) w s):=f;have D:Hid (Mi (fun k=>w.heap.size<=k) s a n l):=g;clear f hr g C;rcases o with⟨u,o⟩|⟨u,o⟩
 case inr =>
  obtain rfl:=o;go_wp2_with fail
  refine(y.out s j false z.out u).mono ?_;rintro e v ⟨f,⟨q,-⟩|⟨-,rfl⟩⟩
  ·simp at q
  ·exact⟨rfl,x.out.trans f,rfl⟩
 have F:Hid (r=.ok (l,j+1)):=o;have B:Hid (((tkF t.data.toList j).tx==cl.data.toList)=true):=u;clear o u;go_wp2_with fail
 refine(y.out s j true z.out B.out).mono ?_;rintro e v ⟨f,⟨-,rfl,hr⟩|⟨q,-⟩⟩
 case inr=>simp at q
 have G:Hid (RdF v br t (j+1) d):=hr;have E:Hid (Fr (·≠br) w v):=x.out.trans f;have H:Hid (Mi (fun k=>w.heap.size<=k) v a n l):=Mi.fr D.out (f.mono fun k q=>by omega) (fun _ _ q=>q);clear f hr z x D y B;go_wp2_with fail
 go_ret
 rw[F.out];exact⟨E.out,⟨a,n,A,rfl,H.out⟩,G.out⟩
end Go.Proofs.YtjbfcadeapphbaaGreatDoor.Sx
