/- Pairs of parts, and lists of them. -/
import Derived.Test.YtjbfcadeapphbaaGreatDoorK10
namespace Go.Proofs.YtjbfcadeapphbaaGreatDoor.Sx
set_option maxRecDepth 100000
set_option maxHeartbeats 2000000
open Go.RowKit Go.Sort
theorem aL {br:Nat}{t:ByteArray}{self:Nat->Nat->Nat->RX PX}(hS:Ax br t self)(w:World)(d i m:Nat)(hd:d<=24)(ht:t.size<=4000)(hm:m<=1000000)(hI:Bl w br)(hr:RdF w br t i d)
  (r:Except (Nat×Nat) (PX×Nat)) (h:Gp (tkF t.data.toList) self m d i=some r) :
  Calls Tryz.prog 156 #[.pointer (some ⟨br,0,none⟩)] w (Cr w br t d r):=by
 have HS:Hid (Ax br t self):=hS;have HI:Hid (Bl w br):=hI;have HR:Hid (RdF w br t i d):=hr;have a2:=Ab hr;have h1:=Aa hr 1;have U:=Aa hr 2;have N:=RdF.of HR.out (P:=fun _=>True) (Fr.grew (Ag.refl w).drew) trivial;have k1:=Aa N 1;have k2:=Aa N 2;clear hI hS hr N;have mo:=follows;go_enter Tryz.func156,Tryz.ntmps156
 go_wp2_with fail
 go_big_region_o
 have L:Fr (fun _=>True) w (w.alloc (.cells #[.int .i64 0,.string (pcF t i),.string ⟨#[]⟩,.int .i64 0,.int .i64 (atF t.data.toList i:Int),.slice none 0 0] 81)).drew:=((Fr.refl _ w).alloc _).drew;have A:Hid (Ao (w.alloc (.cells #[.int .i64 0,.string (pcF t i),.string ⟨#[]⟩,.int .i64 0,.int .i64 (atF t.data.toList i:Int),.slice none 0 0] 81)).drew w.heap.size 0 (pcF t i) ⟨#[]⟩ 0 (atF t.data.toList i) none 0 0):=Ao.of (w:=w.alloc (.cells #[.int .i64 0,.string (pcF t i),.string ⟨#[]⟩,.int .i64 0,.int .i64 (atF t.data.toList i:Int),.slice none 0 0] 81)) (P:=fun _=>True) (Aj rfl) (Fr.refl _ _).drew trivial;have F:Hid (Fr (·≠br) w _):=L.mono fun _ _=>trivial;have K:Hid (RdF _ br t i d):=RdF.of HR.out L trivial;clear h1 U k1 k2 HR L;generalize (w.alloc (.cells #[.int .i64 0,.string (pcF t i),.string ⟨#[]⟩,.int .i64 0,.int .i64 (atF t.data.toList i:Int),.slice none 0 0] 81)).drew=w1 at A F K |-;obtain⟨f,V⟩:∃f,w.heap.size=f:=⟨_,rfl⟩;rw[V] at A a2 |-;have z:w.heap.size<=f:=by omega
 clear V;have u:f≠br:=by omega
 have a6:f<w1.heap.size:=Ab A.out;have U:=Aa K.out 2;have g:(pcF t i).data.toList=txF t.data.toList i:=A5 t i;have D:(tkF t.data.toList i).tx=txF t.data.toList i:=rfl;unfold Gp at h;simp only[D] at h;have c0:=Aa A.out 0;have f0:=Ac A.out 0;have R:Hid (∀W:World,_):=fun W h=>Co W br t i d h ht;cases J:Gv.contains (txF t.data.toList i) with
 | true =>
  rw[J,if_pos rfl] at h;have T:Hid (r=.ok (Ct (txF t.data.toList i),i+1)):=by simp only[okX,Option.some.injEq] at h;exact h.symm
  have E2:Hid (Ao (w1.setCell ⟨f,0,none⟩ (.int .i64 2)) f 2 (pcF t i) ⟨#[]⟩ 0 (atF t.data.toList i) none 0 0):=A.out.sort 2;have R2:Hid (RdF (w1.setCell ⟨f,0,none⟩ (.int .i64 2)) br t i d):=K.out.setB (Ne.symm u) _;have F2:Hid (Fr (·≠br) w (w1.setCell ⟨f,0,none⟩ (.int .i64 2))):=F.out.setB z _;have HA:Hid (Calls _ _ _ _ _):=R.out _ R2.out;have y:Hid ((pcF t i).data.toList=txF t.data.toList i):=g;have n:pcF t i=⟨⟨txF t.data.toList i⟩⟩:=by rw[<- g]
  simp only[Gv,List.contains_cons,List.contains_nil,Bool.or_false,Bool.or_eq_true,beq_iff_eq] at J;clear h D A K F g;rcases J with q|q|q
  all_goals
   rw[q] at n;rw[n] at U |-;clear q;go_wp2_with (go_at_call 60;refine HA.out.mono ?_;rintro e o ⟨rfl,hr,b⟩;have C:Hid (RdF o br t (i+1) d):=hr;have B:Hid (Fr (·≠br) w o):=F2.out.trans b;have Z:Hid (Ao o f 2 (pcF t i) ⟨#[]⟩ 0 (atF t.data.toList i) none 0 0):=E2.out.of b u;clear hr b)
   go_ret
   rw[T.out];exact⟨B.out,⟨_,rfl,Af.node ⟨f,2,pcF t i,⟨#[]⟩,0,atF t.data.toList i,none,0,0,[],rfl,z,Z.out,Ih _,.inr (.inr (.inl ⟨rfl,by rw[y.out]⟩))⟩⟩,C.out⟩
 | false =>
  rw[J,if_neg (by simp)] at h;cases E:Cz.contains (txF t.data.toList i) with
  | true =>
   rw[E,if_pos rfl] at h;have a1:txF t.data.toList i∈Cz:=List.contains_iff_mem.1 E;have E2:Hid (Ao (w1.setCell ⟨f,0,none⟩ (.int .i64 12)) f 12 (pcF t i) ⟨#[]⟩ 0 (atF t.data.toList i) none 0 0):=A.out.sort 12;have R2:Hid (RdF (w1.setCell ⟨f,0,none⟩ (.int .i64 12)) br t i d):=K.out.setB (Ne.symm u) _;have F2:Hid (Fr (·≠br) w (w1.setCell ⟨f,0,none⟩ (.int .i64 12))):=F.out.setB z _;have HA:Hid (Calls _ _ _ _ _):=R.out _ R2.out;have y:Hid ((pcF t i).data.toList=txF t.data.toList i):=g;have n:pcF t i=⟨⟨txF t.data.toList i⟩⟩:=by rw[<- g]
   have I:(tkF t.data.toList (i+1)).tx=txF t.data.toList (i+1):=rfl;have G:(tkF t.data.toList (i+1)).at'=atF t.data.toList (i+1):=rfl;have s:(pcF t (i+1)).toList=txF t.data.toList (i+1):=by rw[ByteArray.toList_eq,A5]
   simp only[I,G] at h;have S:Hid (∀W:World,_):=fun W h=>Ey W br t (i+1) d 1 h;simp only[Cz,List.contains_cons,List.contains_nil,Bool.or_false,Bool.or_eq_true,beq_iff_eq] at E;clear D I G A K F g J;cases O:txF t.data.toList (i+1)==[40] with
   | false =>
    rw[O,if_neg (by simp)] at h;have T:Hid (r=.error (1,atF t.data.toList (i+1))):=by simp only[Ck,Option.some.injEq] at h;exact h.symm
    have g3:((pcF t (i+1)).toList==[40])=false:=by rw[s];exact O
    clear h O s;rcases E with q|q|q|q|q|q|q
    all_goals
     rw[q] at n;rw[n] at U |-;clear q;go_wp2_with (first|(go_at_call 60;refine HA.out.mono ?_;rintro e o ⟨rfl,hr,b⟩;have C:Hid (RdF o br t (i+1) d):=hr;have B:Hid (Fr (·≠br) w o):=F2.out.trans b;have y2:=Aa C.out 2;clear hr b)|(go_at_call 61;refine(S.out _ C.out).mono ?_;rintro e w4 ⟨rfl,rfl⟩;unfold Flt))
     rw[T.out];exact⟨rfl,B.out,rfl⟩
   | true =>
    rw[O,if_pos rfl,Uz] at h;have g3:((pcF t (i+1)).toList==[40])=true:=by rw[s];exact O
    have HW:Hid (∀(W:World)(q:Except (Nat×Nat) (List PX×Nat)),_):=fun W q e h=>J0 HS.out W d (i+1) m ⟨#[41]⟩ rfl hd ht hm e h q;clear O s S;rcases E with q|q|q|q|q|q|q
    all_goals
     rw[q] at n;rw[n] at U |-;clear q;go_wp2_with (first|(go_at_call 60;refine HA.out.mono ?_;rintro e o ⟨rfl,hr,b⟩;have C:Hid (RdF o br t (i+1) d):=hr;have B:Hid (Fr (·≠br) w o):=F2.out.trans b;have Z:Hid (Ao o f 12 (pcF t i) ⟨#[]⟩ 0 (atF t.data.toList i) none 0 0):=E2.out.of b u;have y2:=Aa C.out 2;clear hr b))
     rcases Aq h with⟨⟨c,p⟩,hn,rfl⟩|⟨l,j2,hn,M⟩
     ·refine(HW.out o _ (HI.out.fr B.out) C.out hn).mono ?_;rintro e Q ⟨b,rfl⟩;exact⟨rfl,B.out.trans b,rfl⟩
     refine(HW.out o _ (HI.out.fr B.out) C.out hn).mono ?_;rintro e Q ⟨b,⟨a,a3,a4,rfl,H⟩,hr⟩;have R5:Hid (RdF Q br t j2 d):=hr;have F5:Hid (Fr (·≠br) w Q):=B.out.trans b;have E5:Hid (Ao Q f 12 (pcF t i) ⟨#[]⟩ 0 (atF t.data.toList i) none 0 0):=Z.out.of b u;have W5:Hid (Ca (fun k=>o.heap.size<=k) Q (Af (fun k=>o.heap.size<=k) Q) a a3 l):=H;have T:Hid (r=.ok (Ed (txF t.data.toList i) l,j2)):=by simp only[okX,Option.some.injEq] at M;exact M.symm
     have X:f<o.heap.size:=Ab Z.out;have c5:=Aa E5.out 5;have f5:=Ac E5.out 5;clear b hr H hn h M C B y2;go_wp2_with fail
     go_ret
     rw[T.out];exact⟨F5.out.setB z _,⟨_,rfl,O7 X W5.out z E5.out (.inr (.inr (.inr (.inr (.inr (.inr (.inr (.inr (.inr (.inr (.inr ⟨.inr rfl,by rw[y.out];exact .inr (.inr (.inr (.inr (.inr (.inr (.inr (.inr (.inr ⟨a1,rfl⟩))))))))⟩)))))))))))⟩,R5.out.setB (Ne.symm u) _⟩
  | false =>
   rw[E,if_neg (by simp)] at h;have Y:(pcF t i).toList=txF t.data.toList i:=by rw[ByteArray.toList_eq,g]
   simp only[Gv,List.contains_cons,List.contains_nil,Bool.or_false,Bool.or_eq_false_iff] at J;simp only[Cz,List.contains_cons,List.contains_nil,Bool.or_false,Bool.or_eq_false_iff] at E;rw[<- Y] at J E;obtain⟨g1,g2,g3⟩:=J;obtain⟨g4,g5,g6,g7,g8,g9,a5⟩:=E;have HC:Hid (Calls _ _ _ _ _):=Xe HS.out w1 d i m hd ht hm (HI.out.fr F.out) K.out r h;clear Y D g h c0 f0;go_wp2_with fail
   refine HC.out.mono ?_;rintro e w2 hp;rcases r with⟨c,p⟩|⟨x,j⟩
   ·obtain⟨b,rfl⟩:=hp;exact⟨rfl,F.out.trans b,rfl⟩
   ·have HH:=Cr.from F.out hp;obtain⟨b,⟨v,rfl,hv⟩,hr⟩:=hp;have a0:Hid (Cr w br t d (.ok (x,j)) (.returned v) w2):=HH;clear HH b hv hr HC;go_wp2_with fail
    go_ret
    exact a0.out
theorem aM {be:Nat}{w w':World}{sort:Nat}{op nm:ByteArray}{n:Int}{at':Nat}{pa p0:Option Addr}{len cap l0 c0:Nat}{kids:List PX}{x:PX}(hbe:be<w.heap.size)(hrow:Ca (fun k=>w.heap.size<=k) w' (Af (fun k=>w.heap.size<=k) w') pa len kids)(he':Ao w' be sort op nm n at' p0 l0 c0)
  (hm:M5 sort op.data.toList nm.data.toList n kids x):Af (fun k=>k=be\/w.heap.size<=k) (w'.setCell ⟨be,5,none⟩ (.slice pa len cap)) x (.pointer (some ⟨be,0,none⟩)):=by
 have a:Fr (fun k=>w.heap.size<=k) w' (w'.setCell ⟨be,5,none⟩ (.slice pa len cap)):=(Fr.refl _ _).set (by simp;omega) _;refine Af.node ⟨be,sort,op,nm,n,at',pa,len,cap,kids,rfl,.inl rfl,he'.parts _ _ _,?_,hm⟩;exact Ca.fr a (fun _ _ h=>h.fr a fun _ _ q=>.inr q) (fun _ _ q=>.inr q) hrow
theorem dJ {br:Nat}{t:ByteArray}{self:Nat->Nat->Nat->RX PX}(hS:Ax br t self)(w:World)(be d i m a0:Nat)(hd:d<=24)(ht:t.size<=4000)(hm:m<=1000000)(hbe:be≠br)(hb34:be≠5/\be≠6)(hI:Bl w br)(hr:RdF w br t i d)(he:Ao w be 12 ⟨#[]⟩ ⟨#[]⟩ 0 a0 none 0 0)
  (r:Except (Nat×Nat) (PX×Nat)) (h:Jr (tkF t.data.toList) self m d i=some r) :
  Calls Tryz.prog 162 #[.pointer (some ⟨br,0,none⟩),.pointer (some ⟨be,0,none⟩)] w (Rk w br be t d r):=by
 have L:Hid (Ax br t self):=hS;have K:Hid (Bl w br):=hI;have E:Hid (RdF w br t i d):=hr;have J:Hid (Ao w be 12 ⟨#[]⟩ ⟨#[]⟩ 0 a0 none 0 0):=he;have a1:=Ab hr;have U:=Ab he;have h2:=Aa hr 2;clear hI hS hr he;have mo:=follows;have o:(pcF t i).data.toList=txF t.data.toList i:=A5 t i;have v:(pcF t i).toList=txF t.data.toList i:=by rw[ByteArray.toList_eq,o]
 have A:(tkF t.data.toList i).tx=txF t.data.toList i:=rfl;unfold Jr at h;simp only[A] at h;cases s:Cp.contains (txF t.data.toList i) with
 | false =>
  rw[s,if_neg (by simp)] at h;simp only[Cp,List.contains_cons,List.contains_nil,Bool.or_false,Bool.or_eq_false_iff] at s;rw[<- v] at s;obtain⟨g1,g2⟩:=s;clear o v A;go_enter Tryz.func162,Tryz.ntmps162
  go_wp2_with fail
  rcases Aq h with⟨⟨c,p⟩,u,rfl⟩|⟨l,j2,u,g⟩
  ·refine(Ln L.out w d i m ⟨#[125]⟩ rfl hd ht hm K.out E.out _ u).mono ?_;rintro e n ⟨f,rfl⟩;exact⟨rfl,f.two,rfl⟩
  refine(Ln L.out w d i m ⟨#[125]⟩ rfl hd ht hm K.out E.out _ u).mono ?_;rintro e n ⟨f,⟨a,V,cap,rfl,y⟩,hr⟩;have T:Hid (RdF n br t j2 d):=hr;have Q:Hid (Fr (·≠br) w n):=f;have D:Hid (Ao n be 12 ⟨#[]⟩ ⟨#[]⟩ 0 a0 none 0 0):=J.out.of f hbe;have W5:Hid (Ca (fun k=>w.heap.size<=k) n (Af (fun k=>w.heap.size<=k) n) a V l):=y;have R:Hid (r=.ok (Kt l,j2)):=by simp only[okX,Option.some.injEq] at g;exact g.symm
  have c1:=Aa D.out 1;have f1:=Ac D.out 1;have c5:=Aa D.out 5;have f5:=Ac D.out 5;clear f hr y u h g E J h2;go_wp2_with fail
  refine bodyPost_ret (results_none rfl _ _ _) rfl ?_;rw[R.out];have F:Fr (fun k=>w.heap.size<=k) n (n.setCell ⟨be,1,none⟩ (.string ⟨#[115,101,116]⟩)):=(Fr.refl _ _).set (by simp;omega) _;have N:=aM (cap:=cap) U (Ca.fr F (fun _ _ h=>h.fr F fun _ _ q=>q) (fun _ _ q=>q) W5.out) (D.out.op ⟨#[115,101,116]⟩) (x:=Kt l) (.inr (.inr (.inr (.inr (.inr (.inr (.inr (.inr (.inr (.inr (.inr ⟨.inr rfl,.inr (.inl ⟨rfl,rfl⟩)⟩)))))))))));exact⟨(Q.out.two.set (p:=⟨be,1,none⟩) (fun q=>q.2 rfl) _).set (p:=⟨be,5,none⟩) (fun q=>q.2 rfl) _,rfl,N,(T.out.setB (Ne.symm hbe) _).setB (Ne.symm hbe) _⟩
 | true =>
  rw[s,if_pos rfl] at h;have Z:Hid (Calls _ _ _ _ _):=Ke w br t i d E.out ht;have G:(pcF t i).data.toList∈Iu\/(pcF t i).data.toList∈Cp:=.inr (by rw[o];exact List.contains_iff_mem.1 s);rw[<- o] at h;have Y:Hid (∀(W:World)(m:ByteArray)(k:Nat)(b:Bool),_):=fun W m k b h=>Cj W br t m k d h ht b;have hg:((pcF t i).toList==[101,97,99,104])=true\/(((pcF t i).toList==[101,97,99,104])=false/\((pcF t i).toList==[116,104,111,115,101])=true):=by
   rw[v];simp only[Cp,List.contains_cons,List.contains_nil,Bool.or_false,Bool.or_eq_true] at s;cases e:txF t.data.toList i==[101,97,99,104] with
   | true=>exact .inl rfl
   | false=>rw[e] at s;simp at s;exact .inr ⟨rfl,by simpa using s⟩
  clear s v A o;rcases hg with g1|⟨g1,g2⟩
  all_goals
   go_enter Tryz.func162,Tryz.ntmps162
   go_wp2_with (go_at_call 114;refine Z.out.mono ?_;rintro e B ⟨rfl,hr,f⟩;have R2:Hid (RdF B br t (i+1) d):=hr;have X:Hid (Fr (·≠br) w B):=f;have H:Hid (Ao B be 12 ⟨#[]⟩ ⟨#[]⟩ 0 a0 none 0 0):=J.out.of f hbe;have c1:=Aa H.out 1;have f1:=Ac H.out 1;clear hr f)
   have I:Hid (Ao (B.setCell ⟨be,1,none⟩ (.string (pcF t i))) be 12 (pcF t i) ⟨#[]⟩ 0 a0 none 0 0):=H.out.op _;have M:Hid (RdF (B.setCell ⟨be,1,none⟩ (.string (pcF t i))) br t (i+1) d):=R2.out.setB (Ne.symm hbe) _;have z:Hid (Fr (fun k=>k≠br/\k≠be) w (B.setCell ⟨be,1,none⟩ (.string (pcF t i)))):=X.out.two.set (p:=⟨be,1,none⟩) (fun q=>q.2 rfl) _;clear c1 f1 H R2 X Z E J h2;generalize B.setCell ⟨be,1,none⟩ (.string (pcF t i))=w3 at I M z |-;have a2:=z.out.size;rcases Aq h with⟨⟨c,p⟩,u,rfl⟩|⟨x,j,u,hk⟩
   ·refine(Kx L.out w3 be d (i+1) 12 _ (pcF t i) _ 0 hd ht hbe hb34 (K.out.two hb34 z.out) M.out I.out G _ u).mono ?_;rintro e C ⟨f,rfl⟩;exact⟨rfl,z.out.trans f,rfl⟩
   refine(Kx L.out w3 be d (i+1) 12 _ (pcF t i) _ 0 hd ht hbe hb34 (K.out.two hb34 z.out) M.out I.out G _ u).mono ?_;rintro e C ⟨f,rfl,N,hr⟩;have S:Hid (RdF C br t j d):=hr;have P:Hid (Fr (fun k=>k≠br/\k≠be) w C):=z.out.trans f;have T4:Hid (Af (fun k=>k=be\/w.heap.size<=k) C x (.pointer (some ⟨be,0,none⟩))):=N.fr (Fr.refl _ _) fun _ _ q=>by omega
   clear f N hr u h I M z;go_wp2_with fail
   rcases Bk hk with⟨O,g⟩|⟨O,rfl⟩
   case inr =>
    refine(Y.out C ⟨#[125]⟩ j false S.out O).mono ?_;rintro e n ⟨f,⟨q,-⟩|⟨-,rfl⟩⟩
    ·simp at q
    ·exact⟨rfl,P.out.trans f.two,rfl⟩
   refine(Y.out C ⟨#[125]⟩ j true S.out O).mono ?_;rintro e n ⟨f,⟨-,rfl,hr⟩|⟨q,-⟩⟩
   case inr=>simp at q
   have T:Hid (RdF n br t (j+1) d):=hr;have Q:Hid (Fr (fun k=>k≠br/\k≠be) w n):=P.out.trans f.two;have T5:Hid (Af (fun k=>k=be\/w.heap.size<=k) n x (.pointer (some ⟨be,0,none⟩))):=T4.out.fr (f.mono fun k q=>by omega) fun _ _ q=>q;have R:Hid (r=.ok (x,j+1)):=by simp only[okX,Option.some.injEq] at g;exact g.symm
   clear f hr O hk g S P T4;go_wp2_with fail
   go_end0
   rw[R.out];exact⟨Q.out,rfl,T5.out,T.out⟩
def jX (w:World)(br:Nat)(t:ByteArray)(d:Nat)(r:Except (Nat×Nat) ((PX×PX)×Nat))(e:Ending)(w':World):Prop :=
 Fr (·≠br) w w'/\match r with
  | .ok ((a,b),j)=>(∃va vb,e=.returned (.agg #[va,vb])/\Af (fun k=>w.heap.size<=k) w' a va/\Af (fun k=>w.heap.size<=k) w' b vb)/\RdF w' br t j d
  | .error (c,p)=>e=Flt c p
theorem Kf {br:Nat}{t:ByteArray}{self:Nat->Nat->Nat->RX PX}(hS:Ax br t self)(w:World)(d i:Nat)(hd:d<=24)(ht:t.size<=4000)(hI:Bl w br)(hr:RdF w br t i d)
  (r:Except (Nat×Nat) ((PX×PX)×Nat)) (h:Gn (tkF t.data.toList) self d i=some r) :
  Calls Tryz.prog 165 #[.pointer (some ⟨br,0,none⟩)] w (jX w br t d r):=by
 have N:Hid (Ax br t self):=hS;have M:Hid (Bl w br):=hI;have HD:Hid (∀(W:World)(m:ByteArray)(k:Nat)(b:Bool),_):=fun W m k b h=>Cj W br t m k d h ht b;have Z:=Ab hr;have HR:Hid (RdF w br t i d):=hr;clear hI hS hr;have mo:=follows;unfold Gn at h;go_enter Tryz.func165,Tryz.ntmps165
 have C:Hid ((w.alloc (.cells #[.pointer none,.pointer none] 214)).heap[w.heap.size]?=some (.cells #[.pointer none,.pointer none] 214 (0,0))):=Aj rfl;have O:Hid (RdF (w.alloc (.cells #[.pointer none,.pointer none] 214)) br t i d):=RdF.of HR.out (P:=fun _=>True) ((Fr.refl _ w).alloc _) trivial;have o:Hid (Fr (·≠br) w (w.alloc (.cells #[.pointer none,.pointer none] 214))):=(Fr.refl _ w).alloc _;clear HR;go_wp2_with fail
 generalize w.alloc (.cells #[.pointer none,.pointer none] 214)=w3 at C O o |-;obtain⟨g,G⟩:∃g,w.heap.size=g:=⟨_,rfl⟩;rw[G] at C Z |-;have K:w.heap.size<=g:=by omega
 clear G;have a0:g<w3.heap.size:=Ab C.out;obtain⟨z,a1⟩:∃z,w3.heap.size=z:=⟨_,rfl⟩;rcases Aq h with⟨⟨c,p⟩,l,rfl⟩|⟨a,j,l,hk⟩
 ·refine(Aw N.out w3 d _ _ hd (M.out.fr o.out) O.out l).mono ?_;rintro e A ⟨f,rfl⟩;exact⟨rfl,o.out.trans f,rfl⟩
 refine(Aw N.out w3 d _ _ hd (M.out.fr o.out) O.out l).mono ?_;rintro e A ⟨f,⟨va,rfl,J⟩,hr⟩;have V:Hid (RdF A br t j (d)):=hr;have a5:=o.out.size;have a2:=f.size;have U:Hid (Fr (·≠br) w A):=o.out.trans f;have S:Hid (A.heap[g]?=some (.cells #[.pointer none,.pointer none] 214 (0,0))):=(f.block g (Ab C.out) (by omega)).trans C.out;have s:Hid (Af (fun k=>z<=k) A a va):=Af.fr (Fr.refl _ _) (fun _ _ q=>by omega) J;clear f hr l J h;clear O o C;obtain⟨Q,rfl,-,-⟩:=s.out.ptr;go_wp2_with fail
 rcases Bk hk with⟨R,I⟩|⟨R,rfl⟩
 case inr =>
  refine(HD.out A ⟨#[58]⟩ (j) false V.out R).mono ?_;rintro e B ⟨f,⟨q,-⟩|⟨-,rfl⟩⟩
  ·simp at q
  ·exact⟨rfl,U.out.trans f,rfl⟩
 refine(HD.out A ⟨#[58]⟩ (j) true V.out R).mono ?_;rintro e B ⟨f,⟨-,rfl,hr⟩|⟨q,-⟩⟩
 case inr=>simp at q
 have X:Hid (RdF B br t (j+1) (d)):=hr;have a3:=f.size;have D:Hid (Fr (·≠br) w B):=U.out.trans f;have E:Hid (Af (fun k=>z<=k) B a (.pointer (some ⟨Q,0,none⟩))):=s.out.fr (f.mono fun k q=>by omega) (fun _ _ q=>q);have T:Hid (B.heap[g]?=some (.cells #[.pointer none,.pointer none] 214 (0,0))):=(f.block g (Ab S.out) (by omega)).trans S.out;clear f hr R hk;clear V U s S;go_wp2_with fail
 rcases Aq I with⟨⟨c,p⟩,l,rfl⟩|⟨b,j2,l,u⟩
 ·refine(Aw N.out B d _ _ hd (M.out.fr D.out) X.out l).mono ?_;rintro e n ⟨f,rfl⟩;exact⟨rfl,D.out.trans f,rfl⟩
 refine(Aw N.out B d _ _ hd (M.out.fr D.out) X.out l).mono ?_;rintro e n ⟨f,⟨vb,rfl,J⟩,hr⟩;have R6:Hid (RdF n br t j2 (d)):=hr;have a6:=D.out.size;have a4:=f.size;have F6:Hid (Fr (·≠br) w n):=D.out.trans f;have Y:Hid (Af (fun k=>z<=k) n a (.pointer (some ⟨Q,0,none⟩))):=E.out.fr (f.mono fun k q=>by omega) (fun _ _ q=>q);have L:Hid (n.heap[g]?=some (.cells #[.pointer none,.pointer none] 214 (0,0))):=(f.block g (Ab T.out) (by omega)).trans T.out;have F:Hid (Af (fun k=>z<=k) n b vb):=Af.fr (Fr.refl _ _) (fun _ _ q=>by omega) J;clear f hr l J I;clear X D E T;obtain⟨bb,rfl,-,-⟩:=F.out.ptr;obtain⟨y0,y1⟩:=iC L.out;obtain⟨z0,z1,-⟩:=Jw L.out;have HQ:Hid (r=.ok ((a,b),j2)):=by simp only[okX,Option.some.injEq] at u;exact u.symm
 clear u;go_wp2_with fail
 have e0:=fun x y=>Aa (Ah (Ah L.out 0 x) 1 y) 0;have e1:=fun x y=>Aa (Ah (Ah L.out 0 x) 1 y) 1;simp at e0 e1;refine bodyPost_ret (v:=.agg #[.pointer (some ⟨Q,0,none⟩),.pointer (some ⟨bb,0,none⟩)]) (by simp[results,Tryz.results165,go_sem,e0,e1]) rfl ?_;rw[HQ.out];have H:Fr (fun k=>z<=k) n ((n.setCell ⟨g,0,none⟩ (.pointer (some ⟨Q,0,none⟩))).setCell ⟨g,1,none⟩ (.pointer (some ⟨bb,0,none⟩))):=((Fr.refl _ _).set (by simp;omega) _).set (by simp;omega) _;exact⟨(F6.out.setB K _).setB K _,⟨_,_,rfl,Y.out.fr H fun _ _ q=>by omega,F.out.fr H fun _ _ q=>by omega⟩,(R6.out.setB (by simp;omega) _).setB (by simp;omega) _⟩
end Go.Proofs.YtjbfcadeapphbaaGreatDoor.Sx
