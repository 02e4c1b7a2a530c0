/- What stands behind a part: a point and a name. -/
import Derived.Test.YthcndopglfkmiaaGreatDoorK09
namespace Go.Proofs.YthcndopglfkmiaaGreatDoor.Sx
set_option maxRecDepth 100000
set_option maxHeartbeats 1000000
open Go.RowKit Go.Sort
theorem Cr.from {w w1:World}{br:Nat}{t:ByteArray}{d:Nat}{r:Except (Nat×Nat) (PX×Nat)}{e:Ending}{w':World}(F:Fr (·≠br) w w1)(h:Cr w1 br t d r e w'):Cr w br t d r e w':=by
 obtain⟨b,a⟩:=h;have:=F.size;refine⟨F.trans b,?_⟩;rcases r with⟨c,p⟩|⟨x,j⟩
 ·exact a
 ·obtain⟨⟨v,rfl,g⟩,f⟩:=a;exact⟨⟨v,rfl,g.fr (Fr.refl _ _) fun _ _ q=>by omega⟩,f⟩
theorem O3 {br:Nat}{t:ByteArray}{self:Nat->Nat->Nat->RX PX}(hS:Ax br t self)(w:World)(d i rk:Nat)(hd:d<=24)(ht:t.size<=4000)(hI:Bl w br)(hr:RdF w br t i d)(ho:rk=6/\De.contains (txF t.data.toList i)=true\/rk=12/\Cf.contains (txF t.data.toList i)=true)
  (r:Except (Nat×Nat) (PX×Nat)) (h:Dn (tkF t.data.toList) self rk d i=some r) :
  Calls Tryz.prog 128 #[.pointer (some ⟨br,0,none⟩),.int .i64 (rk:Int)] w (Cr w br t d r):=by
 have HS:Hid (Ax br t self):=hS;have HI:Hid (Bl w br):=hI;have HR:Hid (RdF w br t i d):=hr;have Z:=Ab hr;have h1:=Aa hr 1;have h2:=Aa hr 2;clear hI hS hr;have mo:=follows;have HO:Hid (∀W:World,Calls Tryz.prog 130 #[.string (pcF t i)] W fun e w'=>e=.returned (.int .i64 (Jz (pcF t i).data.toList:Int))/\Ag W w'):=fun W=>(Kq (pcF t i) W).mono fun e w' h=>⟨h.1,by rw[h.2];exact Ag.refl _⟩;have a1:Hid (∀W,Ag w W->W.cell? ⟨br,1,none⟩=some (.int .i64 (atF t.data.toList i:Int))/\W.cell? ⟨br,2,none⟩=some (.string (pcF t i))):=by
  intro W g;have h:=RdF.of HR.out (P:=fun _=>True) (Fr.grew g) trivial;exact⟨Aa h 1,Aa h 2⟩
 go_enter Tryz.func128,Tryz.ntmps128
 go_wp2_with fail
 go_region_held3 (fun w'=>w'.cell? ⟨br,1,none⟩=some (.int .i64 (atF t.data.toList i:Int))/\w'.cell? ⟨br,2,none⟩=some (.string (pcF t i))) (first|(constructor<;>assumption)|go_keep)
    ((go_at_call 130;refine(HO.out _).mono ?_;rintro e w' ⟨rfl,hg⟩;obtain⟨j0,j1⟩:=a1.out _ ((Ag.refl w).drew.trans hg);have HG:Hid (Ag w w'):=(Ag.refl w).drew.trans hg;have j2:br<w'.heap.size:=Nat.lt_of_lt_of_le Z HG.out.below.size;clear hg))
 obtain⟨A,C⟩:∃A,Jz (pcF t i).data.toList=A:=⟨_,rfl⟩;have a3:Hid (Jz (pcF t i).data.toList=A):=C;rw[C];have H:Hid (Ao (w'.alloc (.cells #[.int .i64 (A:Int),.string (pcF t i),.string ⟨#[]⟩,.int .i64 0,.int .i64 (atF t.data.toList i:Int),.slice none 0 0] 102)) w'.heap.size A (pcF t i) ⟨#[]⟩ 0 (atF t.data.toList i) none 0 0):=Ak rfl;have I:Hid (Fr (·≠br) w (w'.alloc (.cells #[.int .i64 (A:Int),.string (pcF t i),.string ⟨#[]⟩,.int .i64 0,.int .i64 (atF t.data.toList i:Int),.slice none 0 0] 102))):=(Fr.grew HG.out).alloc _;have S:Hid (RdF (w'.alloc (.cells #[.int .i64 (A:Int),.string (pcF t i),.string ⟨#[]⟩,.int .i64 0,.int .i64 (atF t.data.toList i:Int),.slice none 0 0] 102)) br t i d):=RdF.of HR.out (P:=fun _=>True) ((Fr.grew HG.out).alloc _) trivial;have HB:Hid (w.heap.size<=w'.heap.size):=HG.out.below.size;clear h1 h2 HR a1 HO j0 j1 C HG;generalize hW:w'.alloc _=w1 at H I S |-;clear hW;obtain⟨f,a2⟩:∃f,w'.heap.size=f:=⟨_,rfl⟩;rw[a2] at H HB j2 |-;clear a2;have z:f≠br:=by omega
 have h2:=Aa S.out 2;have l:(pcF t i).toList=txF t.data.toList i:=by rw[ByteArray.toList_eq,A5]
 have F:(pcF t i).data.toList=txF t.data.toList i:=A5 t i;have G:(tkF t.data.toList i).tx=txF t.data.toList i:=rfl;unfold Dn at h;simp only[G] at h;have HN:Hid (∀(s rk:Nat)(op:List UInt8),_):=fun s rk op hs r h=>Uq w1 br t i d s rk op hs S.out ht r h;by_cases M:txF t.data.toList i=C8
 ·have g1:((pcF t i).toList==[101,110,97,98,108,101,100])=true:=by rw[l,M];rfl
  rw[M] at h ho;have n:rk=6:=by
   rcases ho with⟨e,-⟩|⟨-,e⟩
   ·exact e
   ·exact absurd e (by decide)
  rw[if_pos (by decide)] at h;have HC:Hid (Calls _ _ _ _ _):=HN.out 7 rk C8 (.inl ⟨rfl,n,rfl⟩) r h;clear l F G M ho h HN n;go_wp2_with fail
  refine HC.out.mono ?_;rintro e w2 hp;rcases r with⟨c,p⟩|⟨x,j⟩
  ·obtain⟨b,rfl⟩:=hp;exact⟨rfl,I.out.trans b,rfl⟩
  ·have HH:=Cr.from I.out hp;obtain⟨b,⟨v,rfl,L⟩,hr⟩:=hp;have R:Hid (Cr w br t d (.ok (x,j)) (.returned v) w2):=HH;clear HH b L hr HC;go_wp2_with fail
   go_ret
   exact R.out
 have g1:((pcF t i).toList==[101,110,97,98,108,101,100])=false:=by rw[l];simpa [C8] using M
 by_cases N:txF t.data.toList i=Cd
 ·have g2:((pcF t i).toList==[117,110,99,104,97,110,103,101,100])=true:=by rw[l,N];rfl
  rw[N] at h ho;have n:rk=12:=by
   rcases ho with⟨-,e⟩|⟨e,-⟩
   ·exact absurd e (by decide)
   ·exact e
  rw[if_pos (by decide)] at h;have HC:Hid (Calls _ _ _ _ _):=HN.out 6 rk Cd (.inr ⟨rfl,n,rfl⟩) r h;clear l F G M N ho h HN n;go_wp2_with fail
  refine HC.out.mono ?_;rintro e w2 hp;rcases r with⟨c,p⟩|⟨x,j⟩
  ·obtain⟨b,rfl⟩:=hp;exact⟨rfl,I.out.trans b,rfl⟩
  ·have HH:=Cr.from I.out hp;obtain⟨b,⟨v,rfl,L⟩,hr⟩:=hp;have R:Hid (Cr w br t d (.ok (x,j)) (.returned v) w2):=HH;clear HH b L hr HC;go_wp2_with fail
   go_ret
   exact R.out
 have g2:((pcF t i).toList==[117,110,99,104,97,110,103,101,100])=false:=by rw[l];simpa [Cd] using N
 rw[if_neg (by simp[M,N])] at h;clear HN;have HL:Hid (∀(W:World)(k:Nat),_):=fun W k h=>Dz W br t k d h (by omega);have n:rk<=12:=by omega
 have C:A=11\/A=12:=by
  have:=a3.out;unfold Jz at this;split at this<;>omega
 have a6:f<w1.heap.size:=Ab H.out;by_cases q3:txF t.data.toList i=Ks
 ·have g3:((pcF t i).toList==[45])=true:=by rw[l,q3];rfl
  have E:rk=12:=by
   rw[q3] at ho;rcases ho with⟨-,e⟩|⟨e,-⟩
   ·exact absurd e (by decide)
   ·exact e
  have HM:Hid (∀a,Lk (⟨#[110,101,103]⟩:ByteArray).data.toList [a] (Em rk (txF t.data.toList i) a)):=fun a=>.inr (.inr (.inr (.inr (.inr (.inr (.inl ⟨rfl,a,rfl,by rw[E,q3]⟩))))));have c1:=Aa H.out 1;have f1:=Ac H.out 1;have E2:Hid (Ao (w1.setCell ⟨f,1,none⟩ (.string ⟨#[110,101,103]⟩)) f A ⟨#[110,101,103]⟩ ⟨#[]⟩ 0 (atF t.data.toList i) none 0 0):=H.out.op _;have T:Hid (RdF (w1.setCell ⟨f,1,none⟩ (.string ⟨#[110,101,103]⟩)) br t i d):=S.out.setB (Ne.symm z) _;have Q:Hid (Fr (·≠br) w (w1.setCell ⟨f,1,none⟩ (.string ⟨#[110,101,103]⟩))):=I.out.setB HB.out _;clear l F G M N q3 ho E H S I;go_wp2_with fail
  rcases C2 hd h with⟨Y,hk⟩|⟨rfl,rfl⟩
  case inr =>
   refine(Dg (w1.setCell ⟨f,1,none⟩ (.string ⟨#[110,101,103]⟩)) br t i T.out).mono ?_;rintro e o ⟨rfl,rfl⟩;exact⟨rfl,Q.out,rfl⟩
  refine(Ez (w1.setCell ⟨f,1,none⟩ (.string ⟨#[110,101,103]⟩)) br t i d T.out ht Y).mono ?_;rintro e o ⟨rfl,hr,b⟩;have U:Hid (RdF o br t (i+1) (d+1)):=hr;have O:Hid (Ao o f A ⟨#[110,101,103]⟩ ⟨#[]⟩ 0 (atF t.data.toList i) none 0 0):=E2.out.of b z;have J:Hid (Fr (·≠br) w o):=Q.out.trans b;have a4:f<o.heap.size:=Ab O.out;clear hr b E2 Q T h;go_wp2_with fail
  rcases Av hk with⟨⟨c,p⟩,K,rfl⟩|⟨a,j,K,u⟩
  ·refine(HS.out o rk (d+1) _ _ n (by omega) (HI.out.fr J.out) U.out K).mono ?_;rintro e B ⟨b,rfl⟩;exact⟨rfl,J.out.trans b,rfl⟩
  refine(HS.out o rk (d+1) _ _ n (by omega) (HI.out.fr J.out) U.out K).mono ?_;rintro e B ⟨b,⟨va,rfl,L⟩,hr⟩;have R4:Hid (RdF B br t j (d+1)):=hr;have D:Hid (Ao B f A ⟨#[110,101,103]⟩ ⟨#[]⟩ 0 (atF t.data.toList i) none 0 0):=O.out.of b z;have F4:Hid (Fr (·≠br) o B):=b;have V:Hid (Af (fun k=>o.heap.size<=k) B a va):=L;have a5:f<B.heap.size:=Ab D.out;have a0:=b.size;clear hr b L K hk O U;obtain⟨ba,rfl,-,-⟩:=V.out.ptr;have c5:=Aa D.out 5;have f5:=Ac D.out 5;obtain⟨hT,X⟩:=Hy (lo:=o.heap.size) D.out (m:=1) (vs:=#[.pointer (some ⟨ba,0,none⟩)]) (kids:=[a]) (x:=Em rk (txF t.data.toList i) a) rfl (by omega) (fun k y q=>by
    match k with
    | 0=>simp at q;subst q;exact⟨_,rfl,V.out.fr (Fr.refl _ _) fun _ _ q=>by omega⟩
    | k+1=>simp at q) a0
   (.inr (.inr (.inr (.inr (.inr (.inr (.inr (.inr (.inr (.inr (.inr ⟨C,HM.out a⟩)))))))))))
  have T5:Hid (Af _ _ _ _):=hT;have F5:Hid (Fr (·≠f) B _):=X;have R5:Hid (RdF _ br t j (d+1)):=RdF.of R4.out X (Ne.symm z);have HE:Hid (r=.ok (Em rk (txF t.data.toList i) a,j)):=by simp only[okX,Option.some.injEq] at u;exact u.symm
  clear hT X u D R4 V;go_wp2_with (go_at_call 144;refine(HL.out _ _ R5.out).mono ?_;rintro e w6 ⟨rfl,hr,b⟩;have R6:Hid (RdF w6 br t j d):=hr;have F6:Hid (Fr (·≠br) _ w6):=b;clear hr b)
  go_ret
  exact I2 HB.out Z J.out (F4.out.two.trans (F5.out.mono fun _ q=>q.2)) T5.out HE.out R6.out F6.out
 have g3:((pcF t i).toList==[45])=false:=by rw[l];simpa [Ks] using q3
 have HM:Hid (∀a,Lk (pcF t i).data.toList [a] (Em rk (txF t.data.toList i) a)):=by
  intro a;rw[F];rcases ho with⟨rfl,ho⟩|⟨rfl,ho⟩
  ·refine .inr (.inr (.inr (.inr (.inr (.inr (.inr (.inl ⟨?_,a,rfl,rfl⟩)))))));simp only[De,List.contains_cons,List.contains_nil,Bool.or_false,Bool.or_eq_true,beq_iff_eq] at ho;simp only[Hd,List.mem_cons,List.not_mem_nil,or_false];rcases ho with ho|ho|ho|ho
   ·exact .inl ho
   ·exact .inr (.inl ho)
   ·exact .inr (.inr ho)
   ·exact absurd ho M
  ·refine .inr (.inr (.inr (.inr (.inr (.inr (.inr (.inr (.inl ⟨?_,a,rfl,rfl⟩))))))));simp only[Cf,List.contains_cons,List.contains_nil,Bool.or_false,Bool.or_eq_true,beq_iff_eq] at ho;simp only[Gq,List.mem_cons,List.not_mem_nil,or_false];rcases ho with ho|ho|ho|ho|ho
   ·exact absurd ho q3
   ·exact .inl ho
   ·exact .inr (.inl ho)
   ·exact .inr (.inr ho)
   ·exact absurd ho N
 have E2:Hid (Ao w1 f A (pcF t i) ⟨#[]⟩ 0 (atF t.data.toList i) none 0 0):=H.out;have T:Hid (RdF w1 br t i d):=S.out;have Q:Hid (Fr (·≠br) w w1):=I.out;clear l F G M N q3 ho H S I;go_wp2_with fail
 rcases C2 hd h with⟨Y,hk⟩|⟨rfl,rfl⟩
 case inr =>
  refine(Dg w1 br t i T.out).mono ?_;rintro e o ⟨rfl,rfl⟩;exact⟨rfl,Q.out,rfl⟩
 refine(Ez w1 br t i d T.out ht Y).mono ?_;rintro e o ⟨rfl,hr,b⟩;have U:Hid (RdF o br t (i+1) (d+1)):=hr;have O:Hid (Ao o f A (pcF t i) ⟨#[]⟩ 0 (atF t.data.toList i) none 0 0):=E2.out.of b z;have J:Hid (Fr (·≠br) w o):=Q.out.trans b;have a4:f<o.heap.size:=Ab O.out;clear hr b E2 Q T h;go_wp2_with fail
 rcases Av hk with⟨⟨c,p⟩,K,rfl⟩|⟨a,j,K,u⟩
 ·refine(HS.out o rk (d+1) _ _ n (by omega) (HI.out.fr J.out) U.out K).mono ?_;rintro e B ⟨b,rfl⟩;exact⟨rfl,J.out.trans b,rfl⟩
 refine(HS.out o rk (d+1) _ _ n (by omega) (HI.out.fr J.out) U.out K).mono ?_;rintro e B ⟨b,⟨va,rfl,L⟩,hr⟩;have R4:Hid (RdF B br t j (d+1)):=hr;have D:Hid (Ao B f A (pcF t i) ⟨#[]⟩ 0 (atF t.data.toList i) none 0 0):=O.out.of b z;have F4:Hid (Fr (·≠br) o B):=b;have V:Hid (Af (fun k=>o.heap.size<=k) B a va):=L;have a5:f<B.heap.size:=Ab D.out;have a0:=b.size;clear hr b L K hk O U;obtain⟨ba,rfl,-,-⟩:=V.out.ptr;have c5:=Aa D.out 5;have f5:=Ac D.out 5;obtain⟨hT,X⟩:=Hy (lo:=o.heap.size) D.out (m:=1) (vs:=#[.pointer (some ⟨ba,0,none⟩)]) (kids:=[a]) (x:=Em rk (txF t.data.toList i) a) rfl (by omega) (fun k y q=>by
   match k with
   | 0=>simp at q;subst q;exact⟨_,rfl,V.out.fr (Fr.refl _ _) fun _ _ q=>by omega⟩
   | k+1=>simp at q) a0
  (.inr (.inr (.inr (.inr (.inr (.inr (.inr (.inr (.inr (.inr (.inr ⟨C,HM.out a⟩)))))))))))
 have T5:Hid (Af _ _ _ _):=hT;have F5:Hid (Fr (·≠f) B _):=X;have R5:Hid (RdF _ br t j (d+1)):=RdF.of R4.out X (Ne.symm z);have HE:Hid (r=.ok (Em rk (txF t.data.toList i) a,j)):=by simp only[okX,Option.some.injEq] at u;exact u.symm
 clear hT X u D R4 V;go_wp2_with (go_at_call 144;refine(HL.out _ _ R5.out).mono ?_;rintro e w6 ⟨rfl,hr,b⟩;have R6:Hid (RdF w6 br t j d):=hr;have F6:Hid (Fr (·≠br) _ w6):=b;clear hr b)
 go_ret
 exact I2 HB.out Z J.out (F4.out.two.trans (F5.out.mono fun _ q=>q.2)) T5.out HE.out R6.out F6.out
def Rh (lo:Nat)(w:World)(br:Nat)(t:ByteArray)(d:Nat)(r:Except (Nat×Nat) (PX×Nat))(e:Ending)(w':World):Prop :=
 Fr (·≠br) w w'/\match r with
  | .ok (x,j)=>(∃v,e=.returned v/\Af (fun k=>lo<=k) w' x v)/\RdF w' br t j d
  | .error (c,p)=>e=Flt c p
theorem M6 {br:Nat}{t:ByteArray}{self:Nat->Nat->Nat->RX PX}(hS:Ax br t self)(w:World)(lo d i lv:Nat)(x:PX)(v:Value)(hd:d<=24)(ht:t.size<=4000)(hI:Bl w br)(hr:RdF w br t i d)(hlo:lo<=w.heap.size)(hbl:br<lo)(hx:Af (fun k=>lo<=k) w x v)(hlv:Ae (txF t.data.toList i)=lv)(hl0:lv≠0)
  (r:Except (Nat×Nat) (PX×Nat)) (h:bX (self (Bh lv) d (i+1)) (fun y j=>okX (I1 (txF t.data.toList i) x y) j)=some r) :
  Calls Tryz.prog 102 #[.pointer (some ⟨br,0,none⟩),v,Jo lv] w (Rh lo w br t d r):=by
 have HS:Hid (Ax br t self):=hS;have HI:Hid (Bl w br):=hI;have HR:Hid (RdF w br t i d):=hr;have a3:=Ab hr;have h1:=Aa hr 1;have h2:=Aa hr 2;clear hI hS hr;have mo:=follows;unfold Jo;rw[if_neg hl0];obtain⟨B,rfl,-,-⟩:=hx.ptr;have HX:Hid (Af (fun k=>lo<=k) w x _):=hx;clear hx;go_enter Tryz.func102,Tryz.ntmps102
 go_wp2_with fail
 have G:Hid ((w.alloc (.cells #[.int .i64 (lv:Int),.int .i64 (Bi lv:Int),.int .i64 (Bh lv:Int)] 143)).heap[w.heap.size]?=some (.cells #[.int .i64 (lv:Int),.int .i64 (Bi lv:Int),.int .i64 (Bh lv:Int)] 143 (0,0))):=Ak rfl;have Z:Hid (Fr (·≠br) w (w.alloc (.cells #[.int .i64 (lv:Int),.int .i64 (Bi lv:Int),.int .i64 (Bh lv:Int)] 143))):=(Fr.refl _ w).alloc _;have I:Hid (RdF (w.alloc (.cells #[.int .i64 (lv:Int),.int .i64 (Bi lv:Int),.int .i64 (Bh lv:Int)] 143)) br t i d):=RdF.of HR.out (P:=fun _=>True) ((Fr.refl _ w).alloc _) trivial;have X:Hid (Af (fun k=>lo<=k) (w.alloc (.cells #[.int .i64 (lv:Int),.int .i64 (Bi lv:Int),.int .i64 (Bh lv:Int)] 143)) x (.pointer (some ⟨B,0,none⟩))):=HX.out.fr ((Fr.refl _ w).alloc _) fun _ _ q=>q;clear h1 h2 HR HX;generalize w.alloc (.cells #[.int .i64 (lv:Int),.int .i64 (Bi lv:Int),.int .i64 (Bh lv:Int)] 143)=w0 at G Z I X |-;obtain⟨u,C⟩:∃u,w.heap.size=u:=⟨_,rfl⟩;rw[C] at G a3 hlo |-;have H:Hid (w.heap.size=u):=C;clear C;have HO:Hid (∀W:World,Calls Tryz.prog 130 #[.string (pcF t i)] W fun e w'=>e=.returned (.int .i64 (Jz (pcF t i).data.toList:Int))/\Ag W w'):=fun W=>(Kq (pcF t i) W).mono fun e w' h=>⟨h.1,by rw[h.2];exact Ag.refl _⟩;have A:Hid (∀W,Ag w0 W->W.cell? ⟨br,1,none⟩=some (.int .i64 (atF t.data.toList i:Int))/\W.cell? ⟨br,2,none⟩=some (.string (pcF t i))):=by
  intro W g;have h:=RdF.of I.out (P:=fun _=>True) (Fr.grew g) trivial;exact⟨Aa h 1,Aa h 2⟩
 obtain⟨h1,h2⟩:=A.out w0 (Ag.refl _);have M:br<w0.heap.size:=Ab I.out;have K:u<w0.heap.size:=Ab G.out;go_region_held3 (fun w'=>w'.cell? ⟨br,1,none⟩=some (.int .i64 (atF t.data.toList i:Int))/\w'.cell? ⟨br,2,none⟩=some (.string (pcF t i))) (first|(constructor<;>assumption)|go_keep)
    ((go_at_call 130;refine(HO.out _).mono ?_;rintro e w' ⟨rfl,hg⟩;obtain⟨j0,j1⟩:=A.out _ ((Ag.refl w0).drew.trans hg);have U:Hid (Ag w0 w'):=(Ag.refl w0).drew.trans hg;have j2:br<w'.heap.size:=Nat.lt_of_lt_of_le M U.out.below.size;clear hg))
 obtain⟨b,n⟩:∃b,Jz (pcF t i).data.toList=b:=⟨_,rfl⟩;have a0:Hid (Jz (pcF t i).data.toList=b):=n;rw[n];have F:Hid (Ao (w'.alloc (.cells #[.int .i64 (b:Int),.string ⟨#[]⟩,.string ⟨#[]⟩,.int .i64 0,.int .i64 (atF t.data.toList i:Int),.slice none 0 0] 102)) w'.heap.size b ⟨#[]⟩ ⟨#[]⟩ 0 (atF t.data.toList i) none 0 0):=Ak rfl;have l:Fr (fun _=>True) w0 (w'.alloc (.cells #[.int .i64 (b:Int),.string ⟨#[]⟩,.string ⟨#[]⟩,.int .i64 0,.int .i64 (atF t.data.toList i:Int),.slice none 0 0] 102)):=(Fr.grew U.out).alloc _;have F1:Hid (Fr (·≠br) w (w'.alloc (.cells #[.int .i64 (b:Int),.string ⟨#[]⟩,.string ⟨#[]⟩,.int .i64 0,.int .i64 (atF t.data.toList i:Int),.slice none 0 0] 102))):=Z.out.trans (l.mono fun _ _=>trivial);have R1:Hid (RdF (w'.alloc (.cells #[.int .i64 (b:Int),.string ⟨#[]⟩,.string ⟨#[]⟩,.int .i64 0,.int .i64 (atF t.data.toList i:Int),.slice none 0 0] 102)) br t i d):=RdF.of I.out l trivial;have X1:Hid (Af (fun k=>lo<=k/\k<w0.heap.size) (w'.alloc (.cells #[.int .i64 (b:Int),.string ⟨#[]⟩,.string ⟨#[]⟩,.int .i64 0,.int .i64 (atF t.data.toList i:Int),.slice none 0 0] 102)) x (.pointer (some ⟨B,0,none⟩))):=X.out.fr (l.mono fun _ _=>trivial) fun _ h q=>⟨q,h⟩;have T:Hid ((w'.alloc (.cells #[.int .i64 (b:Int),.string ⟨#[]⟩,.string ⟨#[]⟩,.int .i64 0,.int .i64 (atF t.data.toList i:Int),.slice none 0 0] 102)).heap[u]?=_):=(l.block u K trivial).trans G.out;have HB:Hid (w0.heap.size<=w'.heap.size):=U.out.below.size;have XP:=X.out.ptr;clear h1 h2 A HO j0 j1 n U I Z X G l;generalize hW:w'.alloc _=w1 at F F1 R1 X1 T |-;clear hW;obtain⟨a,J⟩:∃a,w'.heap.size=a:=⟨_,rfl⟩;rw[J] at F HB j2 |-;clear J;have hB:=HB.out;have s:a≠br:=by omega
 obtain⟨a1,L,a7,a6⟩:=XP;obtain rfl:B=a1:=by simpa using L
 have a5:a<w1.heap.size:=Ab F.out;have HT:Hid (∀W:World,_):=fun W h=>Kf W br t i d h ht;go_wp2_with (go_at_call 87;refine(HT.out _ R1.out).mono ?_;rintro e o ⟨rfl,hr,f⟩;have R2:Hid (RdF o br t (i+1) d):=hr;have Q:Hid (Ao o a b ⟨#[]⟩ ⟨#[]⟩ 0 (atF t.data.toList i) none 0 0):=F.out.of f s;have F2:Hid (Fr (·≠br) w o):=F1.out.trans f;have X2:Hid (Af (fun k=>lo<=k/\k<w0.heap.size) o x (.pointer (some ⟨B,0,none⟩))):=X1.out.fr (f.mono fun k q=>by omega) fun _ _ q=>q;have G2:Hid (o.heap[u]?=_):=(f.block u (Ab T.out) (by omega)).trans T.out;have c1:=Aa Q.out 1;have f1:=Ac Q.out 1;have q2:=Aa G2.out 2;clear hr f)
 have R:Hid (Ao (o.setCell ⟨a,1,none⟩ (.string (pcF t i))) a b (pcF t i) ⟨#[]⟩ 0 (atF t.data.toList i) none 0 0):=Q.out.op _;have V:Hid (RdF (o.setCell ⟨a,1,none⟩ (.string (pcF t i))) br t (i+1) d):=R2.out.setB (Ne.symm s) _;have E:Hid (Fr (·≠br) w (o.setCell ⟨a,1,none⟩ (.string (pcF t i)))):=F2.out.setB (by have:=H.out;simp;omega) _;have X3:Hid (Af (fun k=>lo<=k/\k<w0.heap.size) (o.setCell ⟨a,1,none⟩ (.string (pcF t i))) x (.pointer (some ⟨B,0,none⟩))):=X2.out.fr ((Fr.refl _ _).set (by simp;omega) _) fun _ _ q=>q;have a4:a<(o.setCell ⟨a,1,none⟩ (.string (pcF t i))).heap.size:=Ab R.out;clear c1 f1 q2 Q R2 F2 X2 G2 F R1 F1 X1 T HT;generalize o.setCell ⟨a,1,none⟩ (.string (pcF t i))=w3 at R V E X3 a4 |-;have N:Bh lv<=12:=by
  have:=Gg (txF t.data.toList i);unfold Bh;split<;>omega
 have O:(pcF t i).data.toList=txF t.data.toList i:=A5 t i;rcases Av h with⟨⟨c,p⟩,Y,rfl⟩|⟨y,j,Y,hk⟩
 ·refine(HS.out w3 (Bh lv) d _ _ N hd (HI.out.fr E.out) V.out Y).mono ?_;rintro e D ⟨f,rfl⟩;exact⟨rfl,E.out.trans f,rfl⟩
 refine(HS.out w3 (Bh lv) d _ _ N hd (HI.out.fr E.out) V.out Y).mono ?_;rintro e D ⟨f,⟨vy,rfl,hv⟩,hr⟩;have R4:Hid (RdF D br t j d):=hr;have S:Hid (Ao D a b (pcF t i) ⟨#[]⟩ 0 (atF t.data.toList i) none 0 0):=R.out.of f s;have F4:Hid (Fr (·≠br) w D):=E.out.trans f;have X4:Hid (Af (fun k=>lo<=k/\k<w0.heap.size) D x (.pointer (some ⟨B,0,none⟩))):=X3.out.fr (f.mono fun k q=>by omega) fun _ _ q=>q;have Y4:Hid (Af (fun k=>w3.heap.size<=k) D y vy):=hv;have a9:a<D.heap.size:=Ab S.out;have b0:=f.size;clear hr f hv Y h R V E X3;obtain⟨bb,rfl,-,-⟩:=Y4.out.ptr;have c5:=Aa S.out 5;have f5:=Ac S.out 5;have n:b=11\/b=12:=by
  have:=a0.out;unfold Jz at this;split at this<;>omega
 have a2:(pcF t i).data.toList∈Eu.map Prod.fst:=by
  rw[O];refine Classical.byContradiction fun q=>?_;have:Ae (txF t.data.toList i)=0:=by unfold Ae;rw[J0 _ q];rfl
  omega
 go_wp2_with fail
 go_ret
 obtain rfl:r=.ok (I1 (txF t.data.toList i) x y,j):=by simp only[okX,Option.some.injEq] at hk;exact hk.symm
 obtain⟨hT,hF⟩:=Hy (lo:=lo) S.out (m:=2) (vs:=#[.pointer (some ⟨B,0,none⟩),.pointer (some ⟨bb,0,none⟩)]) (kids:=[x,y]) (x:=I1 (txF t.data.toList i) x y) rfl (by omega) (fun k z q=>by
   match k with
   | 0=>simp at q;subst q;exact⟨_,rfl,X4.out.fr (Fr.refl _ _) fun _ _ q=>by omega⟩
   | 1=>simp at q;subst q;exact⟨_,rfl,Y4.out.fr (Fr.refl _ _) fun _ _ q=>by omega⟩
   | k+2=>simp at q) (by omega)
  (.inr (.inr (.inr (.inr (.inr (.inr (.inr (.inr (.inr (.inr (.inr ⟨n,.inl ⟨a2,x,y,rfl,by rw[O]⟩⟩)))))))))))
 have a8:=H.out;refine⟨F4.out.fresh (hF.mono fun _ q=>q.2) (by omega),⟨_,rfl,hT.fr (Fr.refl _ _) fun _ _ q=>by omega⟩,RdF.of R4.out hF (Ne.symm s)⟩
end Go.Proofs.YthcndopglfkmiaaGreatDoor.Sx
namespace Go.Proofs.YthcndopglfkmiaaGreatDoor.Sx
set_option maxRecDepth 100000
set_option maxHeartbeats 1000000
open Go.RowKit Go.Sort
attribute [local go_sem] Hw
theorem Uu (a b:Value)(w:World):(Instr.field 75 (.agg #[a,b]) 1).run Tryz.prog w=.ok b w:=by kernel_rfl
attribute [local go_sem] Uu
theorem O4 {P:Nat->Prop}{w:World}{sort:Nat}{op nm:ByteArray}{n:Int}{at':Nat}{pa:Option Addr}{len cap:Nat}{kids:List PX}{x:PX}(hrow:Cb P w (Af P w) pa len kids)(hp:P w.heap.size)(hm:M5 sort op.data.toList nm.data.toList n kids x) :
  Af P (w.alloc (.cells #[.int .i64 (sort:Int),.string op,.string nm,.int .i64 n,.int .i64 (at':Int),.slice pa len cap] 102)) x (.pointer (some ⟨w.heap.size,0,none⟩)) :=
 Af.node ⟨w.heap.size,sort,op,nm,n,at',pa,len,cap,kids,rfl,hp,Ak rfl,Cb.fr ((Fr.refl P w).alloc _) (fun _ _ h=>h.fr ((Fr.refl P w).alloc _) fun _ _ q=>q) (fun _ _ q=>q) hrow,hm⟩
theorem aG {P:Nat->Prop}{w:World}{vs:Array Value}{kids:List PX}{m:Nat}(hm:m=kids.length)(hm4:m<=4294967296)(hk:∀(i:Nat)(x:PX),kids[i]?=some x->∃v,vs[i]?=some v/\Af P w x v)(hp:P w.heap.size) :
  Cb P (w.alloc (.cells vs 64)) (Af P (w.alloc (.cells vs 64))) (some ⟨w.heap.size,0,none⟩) m kids:=by
 have a:(w.alloc (.cells vs 64)).heap[w.heap.size]?=some (.cells vs 64 (0,0)):=Ak rfl;refine⟨hm,hm4,.inr ⟨w.heap.size,0,rfl,Ab a,hp,fun i x q=>?_⟩⟩;obtain⟨v,c,b⟩:=hk i x q;exact⟨v,by rw[Nat.zero_add,Aa a];exact c,b.fr ((Fr.refl P w).alloc _) fun _ _ q=>q⟩
theorem M7 (w:World)(br:Nat)(t:ByteArray)(lo d i:Nat)(x:PX)(v:Value)(ht:t.size<=4000)(hr:RdF w br t i d)(hlo:lo<=w.heap.size)(hbl:br<lo)(hx:Af (fun k=>lo<=k) w x v)
  (r:Except (Nat×Nat) (PX×Nat)) (h:bX (Bo (tkF t.data.toList) (i+1)) (fun n j=>okX (dAt x (Ee n)) j)=some r) :
  Calls Tryz.prog 148 #[.pointer (some ⟨br,0,none⟩),v] w (Rh lo w br t d r):=by
 have F:Hid (Calls _ _ _ _ _):=Co w br t i d hr ht;have y:Hid (∀(W:World)(q:Except (Nat×Nat) (List UInt8×Nat)),_):=fun W q h=>C6 W br t (i+1) d h ht q;have R:=Ab hr;have S:=Aa hr 1;clear hr;have U:=follows;obtain⟨s,rfl,N,O⟩:=hx.ptr;have G:Hid (Af (fun k=>lo<=k) w x _):=hx;clear hx;go_enter Tryz.func148,Tryz.ntmps148
 go_wp2_with (first|(go_at_call 50;refine F.out.mono ?_;rintro e D ⟨rfl,hr,b⟩;have B:Hid (RdF D br t (i+1) d):=hr;have u:Hid (Fr (·≠br) w D):=b;have H:Hid (Af (fun k=>lo<=k) D x (.pointer (some ⟨s,0,none⟩))):=G.out.fr (b.mono fun k q=>by omega) fun _ _ q=>q;clear hr b))
 rcases Av h with⟨⟨c,p⟩,o,rfl⟩|⟨n,j,o,I⟩
 ·refine(y.out _ _ B.out o).mono ?_;rintro e a ⟨b,rfl⟩;exact⟨rfl,u.out.trans b,rfl⟩
 refine(y.out _ _ B.out o).mono ?_;rintro e a ⟨b,rfl,hr⟩;have J:Hid (RdF a br t j d):=hr;have E:Hid (Fr (·≠br) w a):=u.out.trans b;have K:Hid (Af (fun k=>lo<=k) a x (.pointer (some ⟨s,0,none⟩))):=H.out.fr (b.mono fun k q=>by omega) fun _ _ q=>q;have A:Hid (n=txF t.data.toList (i+1)/\j=i+1+1):=Hx o;have C:(pcF t (i+1)).data.toList=txF t.data.toList (i+1):=A5 t (i+1);have T:=E.out.size;clear b hr o h y F B u H G;go_wp2_with fail
 go_ret
 obtain rfl:r=.ok (dAt x (Ee n),j):=by simp only[okX,Option.some.injEq] at I;exact I.symm
 have L:=O4 (P:=fun k=>lo<=k) (w:=a.alloc (.cells #[.string (pcF t (i+1)),.int .i64 (atF t.data.toList (i+1):Int)] 75)) (sort:=1) (op:=⟨#[]⟩) (nm:=pcF t (i+1)) (n:=0) (at':=atF t.data.toList (i+1)) (pa:=none) (len:=0) (cap:=0) (kids:=[]) (x:=Ee n) (Ii _) (by simp;omega) (.inr (.inl ⟨rfl,by rw[C,<- A.out.1]⟩));have M:=K.out.fr (((Fr.refl _ a).alloc (.cells #[.string (pcF t (i+1)),.int .i64 (atF t.data.toList (i+1):Int)] 75)).alloc (.cells #[.int .i64 ((1:Nat):Int),.string ⟨#[]⟩,.string (pcF t (i+1)),.int .i64 0,.int .i64 (atF t.data.toList (i+1):Int),.slice none 0 0] 102)) (Q:=fun k=>lo<=k) fun _ _ q=>q;have l:=aG (m:=2) (kids:=[x,Ee n]) (vs:=#[.pointer (some ⟨s,0,none⟩),.pointer (some ⟨a.heap.size+1,0,none⟩)]) rfl (by omega) (fun k z q=>by
   match k with
   | 0=>simp at q;subst q;exact⟨_,rfl,M⟩
   | 1=>simp at q;subst q;exact⟨_,rfl,by simpa using L⟩
   | k+2=>simp at q) (by simp;omega)
 have f:=O4 (sort:=12) (op:=⟨#[97,116]⟩) (nm:=⟨#[]⟩) (n:=0) (at':=atF t.data.toList i) (cap:=2) (x:=dAt x (Ee n)) l (by simp;omega) (.inr (.inr (.inr (.inr (.inr (.inr (.inr (.inr (.inr (.inr (.inr ⟨.inr rfl,.inr (.inr (.inr (.inr (.inl ⟨rfl,x,Ee n,rfl,rfl⟩))))⟩)))))))))));have g:=((((Fr.refl (fun _=>True) a).alloc (.cells #[.string (pcF t (i+1)),.int .i64 (atF t.data.toList (i+1):Int)] 75)).alloc (.cells #[.int .i64 ((1:Nat):Int),.string ⟨#[]⟩,.string (pcF t (i+1)),.int .i64 0,.int .i64 (atF t.data.toList (i+1):Int),.slice none 0 0] 102)).alloc (.cells #[.pointer (some ⟨s,0,none⟩),.pointer (some ⟨a.heap.size+1,0,none⟩)] 64)).alloc (.cells #[.int .i64 ((12:Nat):Int),.string ⟨#[97,116]⟩,.string ⟨#[]⟩,.int .i64 0,.int .i64 (atF t.data.toList i:Int),.slice (some ⟨a.heap.size+1+1,0,none⟩) 2 2] 102);refine⟨E.out.trans (g.mono fun _ _=>trivial),⟨_,rfl,?_⟩,RdF.of J.out g trivial⟩;simpa using f
end Go.Proofs.YthcndopglfkmiaaGreatDoor.Sx
