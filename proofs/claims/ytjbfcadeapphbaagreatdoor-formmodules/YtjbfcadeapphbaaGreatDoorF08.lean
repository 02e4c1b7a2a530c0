/- What a name begins. -/
import Derived.Test.YtjbfcadeapphbaaGreatDoorF07
import Derived.Deep.AppendLies
import Derived.Deep.LoopGhost
namespace Go.Proofs.YtjbfcadeapphbaaGreatDoor.Sx
set_option maxRecDepth 100000
set_option maxHeartbeats 1000000
open Go.RowKit Go.Sort
theorem Il (a b:Value)(w:World):(Instr.field 108 (.agg #[a,b]) 0).run Tryz.prog w=.ok a w:=by kernel_rfl
attribute [local go_sem] Il
theorem Hk {K:Nat->Tk}{i:Nat}{n:List UInt8}{j:Nat}(h:Au K i=some (.ok (n,j))):n=(K i).tx/\j=i+1:=by
 unfold Au at h;split at h
 ·simp[Dg] at h
 ·split at h
  ·simp[Dg] at h
  ·simp only[okX,Option.some.injEq,Except.ok.injEq,Prod.mk.injEq] at h;exact⟨h.1.symm,h.2.symm⟩
theorem Wp (w:World)(br:Nat)(t:ByteArray)(i d s rk:Nat)(op:List UInt8)(hs:s=7/\rk=6/\op=C5\/s=6/\rk=12/\op=Cc)(hr:RdF w br t i d)(ht:t.size<=4000)
  (r:Except (Nat×Nat) (PX×Nat)) (h:bX (Au (tkF t.data.toList) (i+1)) (fun n j=>okX (Ed rk op n) j)=some r) :
  Calls Tryz.prog 147 #[.pointer (some ⟨br,0,none⟩),.int .i64 (s:Int)] w (Dd w br t d r):=by
 have x:Hid (Calls _ _ _ _ _):=Dc w br t i d hr ht;have k:Hid (∀(W:World)(q:Except (Nat×Nat) (List UInt8×Nat)),_):=fun W q h=>Dy W br t (i+1) d h ht q;have D:=Aa hr 1;have C:=Ac hr;clear hr;have E:=follows;go_enter Tryz.func147,Tryz.ntmps147
 go_wp2_with (first|(go_at_call 60;refine x.out.mono ?_;rintro e z ⟨rfl,hr,a⟩;have m:Hid (RdF z br t (i+1) d):=hr;have g:Hid (Fr (·≠br) w z):=a;clear hr a))
 rcases Ax h with⟨⟨c,p⟩,b,rfl⟩|⟨n,j,b,y⟩
 ·refine(k.out _ _ m.out b).mono ?_;rintro e f ⟨a,rfl⟩;exact⟨rfl,g.out.trans a,rfl⟩
 ·refine(k.out _ _ m.out b).mono ?_;rintro e f ⟨a,rfl,hr⟩;have B:Hid (RdF f br t j d):=hr;have v:Hid (Fr (·≠br) w f):=g.out.trans a;have l:Hid (n=txF t.data.toList (i+1)/\j=i+1+1):=Hk b;have A:Hid (_=some r):=y;have o:=Bm t (i+1);clear a hr b y h k x m g;go_wp2_with fail
  go_ret
  obtain rfl:r=.ok (Ed rk op n,j):=by have:=A.out;simp only[okX,Option.some.injEq] at this;exact this.symm
  have u:=v.out.size;refine⟨v.out.alloc _,⟨_,rfl,Ah.node ⟨f.heap.size,s,⟨#[]⟩,pcF t (i+1),0,atF t.data.toList i,none,0,0,[],rfl,u,Af rfl,Hd _,?_⟩⟩,RdF.of B.out (P:=fun _=>True) ((Fr.refl _ f).alloc _) trivial⟩;rw[o,<- l.out.1];rcases hs with⟨rfl,rfl,rfl⟩|⟨rfl,rfl,rfl⟩
  ·exact .inr (.inr (.inr (.inr (.inr (.inr (.inr (.inl ⟨rfl,rfl⟩)))))))
  ·exact .inr (.inr (.inr (.inr (.inr (.inr (.inl ⟨rfl,rfl⟩))))))
end Go.Proofs.YtjbfcadeapphbaaGreatDoor.Sx
namespace Go.Proofs.YtjbfcadeapphbaaGreatDoor.Sx
set_option maxRecDepth 100000
set_option maxHeartbeats 1000000
open Go.RowKit Go.Sort
attribute [local go_sem] Il
def Cd (w:World)(br:Nat):Prop:=br≠6/\6<w.heap.size/\(∃ev,w.cell? ⟨6,0,none⟩=some ev/\(ev=.nilIface\/∃te pe,ev=.iface te pe))/\br≠5/\∃ev,w.cell? ⟨5,0,none⟩=some ev/\(ev=.nilIface\/∃te pe,ev=.iface te pe)
theorem Cd.of {w w':World}{br:Nat}{P:Nat->Prop}(h:Cd w br)(f:Fr P w w')(h4:P 6)(h3:P 5):Cd w' br:=by
 obtain⟨d,a,⟨b,e,g⟩,i,c,j,k⟩:=h;exact⟨d,Nat.lt_of_lt_of_le a f.size,⟨b,(World.cell?_of_block (w:=w) (f.block 6 a h4)).trans e,g⟩,i,c,(World.cell?_of_block (w:=w) (f.block 5 (by omega) h3)).trans j,k⟩
theorem Cd.fr {w w':World}{br:Nat}(h:Cd w br)(f:Fr (·≠br) w w'):Cd w' br:=h.of f (Ne.symm h.1) (Ne.symm h.2.2.2.1)
theorem Cd.two {w w':World}{br be:Nat}(h:Cd w br)(hb:be≠5/\be≠6)(f:Fr (fun k=>k≠br/\k≠be) w w'):Cd w' br:=h.of f ⟨Ne.symm h.1,Ne.symm hb.2⟩ ⟨Ne.symm h.2.2.2.1,Ne.symm hb.1⟩
theorem Cd.new {w:World}{br be:Nat}(h:Cd w br)(hb:w.heap.size<=be):be≠5/\be≠6:=by have:=h.2.1;omega
def Ba (br:Nat)(t:ByteArray)(self:Nat->Nat->Nat->RX PX):Prop :=
 ∀(w:World)(n d i:Nat)(r:Except (Nat×Nat) (PX×Nat)),n<=12->d<=24->Cd w br->RdF w br t i d->self n d i=some r->Calls Tryz.prog 62 #[.pointer (some ⟨br,0,none⟩),.int .i64 (n:Int)] w (Dd w br t d r)
theorem Bb {br:Nat}{t:ByteArray}{self:Nat->Nat->Nat->RX PX}(hS:Ba br t self)(w:World)(d i:Nat)(r:Except (Nat×Nat) (PX×Nat))(hd:d<=24)(hI:Cd w br)(hr:RdF w br t i d)(h:self 0 d i=some r) :
  Calls Tryz.prog 29 #[.pointer (some ⟨br,0,none⟩)] w (Dd w br t d r):=by
 have b:Hid (Calls _ _ _ _ _):=hS w 0 d i r (by omega) hd hI hr h;clear hS hr h hI;go_enter Tryz.func29,Tryz.ntmps29
 go_wp2_with fail
 refine b.out.mono ?_;rintro e l ⟨a,f⟩;rcases r with⟨c,p⟩|⟨x,j⟩
 ·obtain rfl:=f;exact⟨rfl,a,rfl⟩
 ·obtain⟨⟨v,rfl,g⟩,hr⟩:=f;have k:Hid (Dd w br t d (.ok (x,j)) (.returned v) l):=⟨a,⟨v,rfl,g⟩,hr⟩;clear a g hr b;go_wp2_with fail
  go_ret
  exact k.out
def Ar (w:World)(b sort:Nat)(op nm:ByteArray)(n:Int)(at':Nat)(pa:Option Addr)(len cap:Nat):Prop :=
 w.heap[b]?=some (.cells #[.int .i64 (sort:Int),.string op,.string nm,.int .i64 n,.int .i64 (at':Int),.slice pa len cap] 81 (0,0))
theorem Ar.of {w w':World}{b sort:Nat}{op nm:ByteArray}{n:Int}{at':Nat}{pa:Option Addr}{len cap:Nat}(h:Ar w b sort op nm n at' pa len cap){P:Nat->Prop}(f:Fr P w w')(hp:P b):Ar w' b sort op nm n at' pa len cap:=(f.block b (Ac h) hp).trans h
def S1 (w:World)(br be:Nat)(t:ByteArray)(d:Nat)(r:Except (Nat×Nat) (PX×Nat))(e:Ending)(w':World):Prop :=
 Fr (fun k=>k≠br/\k≠be) w w'/\match r with
  | .ok (x,j)=>e=.returned (.tuple #[])/\Ah (fun k=>k=be\/w.heap.size<=k) w' x (.pointer (some ⟨be,0,none⟩))/\RdF w' br t j d
  | .error (c,p)=>e=Flt c p
theorem Bv {γ:Type}{K:Nat->Tk}{m:List UInt8}{i:Nat}{k:Nat->RX γ}{r:Except (Nat×Nat) (γ×Nat)}(h:B7 K m i k=some r):(((K i).tx==m)=true/\k (i+1)=some r)\/(((K i).tx==m)=false/\r=.error (1,(K i).at')):=by
 unfold B7 at h;cases q:(K i).tx==m with
 | true=>rw[q] at h;exact .inl ⟨rfl,h⟩
 | false=>rw[q] at h;simp only[Dg,Bool.false_eq_true,if_false,Option.some.injEq] at h;exact .inr ⟨rfl,h.symm⟩
theorem Fr.two {br be:Nat}{w w':World}(h:Fr (·≠br) w w'):Fr (fun k=>k≠br/\k≠be) w w':=h.mono fun _ q=>q.1
theorem Ar.sort {w:World}{b sort:Nat}{op nm:ByteArray}{n:Int}{at':Nat}{pa:Option Addr}{len cap:Nat}(h:Ar w b sort op nm n at' pa len cap)(s:Nat):Ar (w.setCell ⟨b,0,none⟩ (.int .i64 (s:Int))) b s op nm n at' pa len cap:=by
 have:=Ag h 0 (.int .i64 (s:Int));simpa [Ar] using this
theorem Ar.op {w:World}{b sort:Nat}{op nm:ByteArray}{n:Int}{at':Nat}{pa:Option Addr}{len cap:Nat}(h:Ar w b sort op nm n at' pa len cap)(s:ByteArray):Ar (w.setCell ⟨b,1,none⟩ (.string s)) b sort s nm n at' pa len cap:=by
 have:=Ag h 1 (.string s);simpa [Ar] using this
theorem Ar.name {w:World}{b sort:Nat}{op nm:ByteArray}{n:Int}{at':Nat}{pa:Option Addr}{len cap:Nat}(h:Ar w b sort op nm n at' pa len cap)(s:ByteArray):Ar (w.setCell ⟨b,2,none⟩ (.string s)) b sort op s n at' pa len cap:=by
 have:=Ag h 2 (.string s);simpa [Ar] using this
theorem Ar.parts {w:World}{b sort:Nat}{op nm:ByteArray}{n:Int}{at':Nat}{pa:Option Addr}{len cap:Nat}(h:Ar w b sort op nm n at' pa len cap)(a:Option Addr)(l c:Nat):Ar (w.setCell ⟨b,5,none⟩ (.slice a l c)) b sort op nm n at' a l c:=by
 have:=Ag h 5 (.slice a l c);simpa [Ar] using this
theorem Im {w:World}{be lo sort:Nat}{op nm:ByteArray}{n:Int}{at':Nat}{pa:Option Addr}{len cap m:Nat}(he:Ar w be sort op nm n at' pa len cap){vs:Array Value}{kids:List PX}(hm:m=kids.length)(hm4:m<=4294967296)
  (hk:∀(i:Nat)(x:PX),kids[i]?=some x->∃v,vs[i]?=some v/\Ah (fun k=>lo<=k/\k≠be) w x v) (hlo:lo<=w.heap.size) {x:PX} (hx:Oi sort op.data.toList nm.data.toList n kids x) :
  Ah (fun k=>k=be\/lo<=k) ((w.setCell ⟨be,5,none⟩ (.slice (some ⟨w.heap.size,0,none⟩) m m)).alloc (.cells vs 37 (0,0))) x (.pointer (some ⟨be,0,none⟩)) /\
  Fr (·≠be) w ((w.setCell ⟨be,5,none⟩ (.slice (some ⟨w.heap.size,0,none⟩) m m)).alloc (.cells vs 37 (0,0))):=by
 have a:Fr (·≠be) w ((w.setCell ⟨be,5,none⟩ (.slice (some ⟨w.heap.size,0,none⟩) m m)).alloc (.cells vs 37 (0,0))):=((Fr.refl _ w).set (by simp) _).alloc _;have c:Ar ((w.setCell ⟨be,5,none⟩ (.slice (some ⟨w.heap.size,0,none⟩) m m)).alloc (.cells vs 37 (0,0))) be sort op nm n at' (some ⟨w.heap.size,0,none⟩) m m:=(he.parts _ _ _).of (P:=fun _=>True) ((Fr.refl _ _).alloc _) trivial;have b:((w.setCell ⟨be,5,none⟩ (.slice (some ⟨w.heap.size,0,none⟩) m m)).alloc (.cells vs 37 (0,0))).heap[w.heap.size]?=some (.cells vs 37 (0,0)):=Af (by simp);refine⟨Ah.node ⟨be,sort,op,nm,n,at',_,m,m,kids,rfl,.inl rfl,c,⟨hm,hm4,.inr ⟨w.heap.size,0,rfl,Ac b,.inr hlo,fun i x q=>?_⟩⟩,hx⟩,a⟩;obtain⟨v,e,d⟩:=hk i x q;refine⟨v,by rw[Nat.zero_add,Aa b];exact e,d.fr (a.mono fun k q=>q.2) fun k _ q=>.inr q.1⟩
theorem Lw {br:Nat}{t:ByteArray}{self:Nat->Nat->Nat->RX PX}(hS:Ba br t self)(w:World)(be d i s0 a0:Nat)(op nm0:ByteArray)(n0:Int)(hd:d<=24)(ht:t.size<=4000)(hbe:be≠br)(hb34:be≠5/\be≠6)(hI:Cd w br)(hr:RdF w br t i d)(he:Ar w be s0 op nm0 n0 a0 none 0 0)
  (hop:op.data.toList∈Jj\/op.data.toList∈Dr) (r:Except (Nat×Nat) (PX×Nat)) (h:Jy (tkF t.data.toList) self op.data.toList d i=some r) :
  Calls Tryz.prog 145 #[.pointer (some ⟨br,0,none⟩),.pointer (some ⟨be,0,none⟩)] w (S1 w br be t d r):=by
 have M:Hid (Ba br t self):=hS;have L:Hid (Cd w br):=hI;have V:Hid (∀(W:World)(q:Except (Nat×Nat) (List UInt8×Nat)),_):=fun W q h=>Dy W br t i d h ht q;have Y:Hid (RdF w br t i d):=hr;have HE:Hid (Ar w be s0 op nm0 n0 a0 none 0 0):=he;clear hI hS hr he;have mo:=follows;go_enter Tryz.func145,Tryz.ntmps145
 go_wp2_with fail
 unfold Jy at h;rcases Ax h with⟨⟨c,p⟩,g,rfl⟩|⟨n,j,g,hk⟩
 ·refine(V.out _ _ Y.out g).mono ?_;rintro e u ⟨f,rfl⟩;exact⟨rfl,f.two,rfl⟩
 refine(V.out _ _ Y.out g).mono ?_;rintro e u ⟨f,rfl,hr⟩;have X:Hid (n=txF t.data.toList i/\j=i+1):=Hk g;have R2:Hid (RdF u br t j d):=hr;have z:Hid (Ar u be s0 op nm0 n0 a0 none 0 0):=HE.out.of f hbe;have F2:Hid (Fr (·≠br) w u):=f;have c0:=Aa z.out 0;have c2:=Aa z.out 2;have f0:=Ab z.out 0;have f2:=Ab z.out 2;clear f hr g h V HE Y;go_wp2_with fail
 have R:Hid (Ar ((u.setCell ⟨be,0,none⟩ (.int .i64 10)).setCell ⟨be,2,none⟩ (.string (pcF t i))) be 10 op (pcF t i) n0 a0 none 0 0):=(z.out.sort 10).name _;have N:Hid (RdF ((u.setCell ⟨be,0,none⟩ (.int .i64 10)).setCell ⟨be,2,none⟩ (.string (pcF t i))) br t j d):=(R2.out.setB (Ne.symm hbe) _).setB (Ne.symm hbe) _;have J:Hid (Fr (fun k=>k≠br/\k≠be) w ((u.setCell ⟨be,0,none⟩ (.int .i64 10)).setCell ⟨be,2,none⟩ (.string (pcF t i)))):=(F2.out.two.set (p:=⟨be,0,none⟩) (fun q=>q.2 rfl) _).set (p:=⟨be,2,none⟩) (fun q=>q.2 rfl) _;clear c0 c2 f0 f2 z R2 F2;generalize (u.setCell ⟨be,0,none⟩ (.int .i64 10)).setCell ⟨be,2,none⟩ (.string (pcF t i))=w3 at R N J |-;have K:Hid (∀(W:World)(m:ByteArray)(k:Nat)(b:Bool),_):=fun W m k b h=>C3 W br t m k d h ht b;rcases Bv hk with⟨s,C⟩|⟨s,rfl⟩
 case inr =>
  refine(K.out w3 ⟨#[105,110]⟩ j false N.out s).mono ?_;rintro e l ⟨f,⟨q,-⟩|⟨-,rfl⟩⟩
  ·simp at q
  ·exact⟨rfl,J.out.trans f.two,rfl⟩
 refine(K.out w3 ⟨#[105,110]⟩ j true N.out s).mono ?_;rintro e l ⟨f,⟨-,rfl,hr⟩|⟨q,-⟩⟩
 case inr=>simp at q
 have O:Hid (RdF l br t (j+1) d):=hr;have S:Hid (Ar l be 10 op (pcF t i) n0 a0 none 0 0):=R.out.of f hbe;have A:Hid (Fr (fun k=>k≠br/\k≠be) w l):=J.out.trans f.two;clear f hr s hk R N J;go_wp2_with fail
 rcases Ax C with⟨⟨c,p⟩,g,rfl⟩|⟨a,Q,g,D⟩
 ·refine(M.out l 8 d _ _ (by omega) hd (L.out.two hb34 A.out) O.out g).mono ?_;rintro e v ⟨f,rfl⟩;exact⟨rfl,A.out.trans f.two,rfl⟩
 refine(M.out l 8 d _ _ (by omega) hd (L.out.two hb34 A.out) O.out g).mono ?_;rintro e v ⟨f,⟨va,rfl,G⟩,hr⟩;have Z:Hid (RdF v br t Q d):=hr;have E5:Hid (Ar v be 10 op (pcF t i) n0 a0 none 0 0):=S.out.of f hbe;have U:Hid (Fr (fun k=>k≠br/\k≠be) w v):=A.out.trans f.two;have T5:Hid (Ah (fun k=>l.heap.size<=k) v a va):=G;have a3:be<l.heap.size:=Ac S.out;have a1:br<l.heap.size:=Ac O.out;have a6:=A.out.size;clear f hr g G C S O A;obtain⟨ba,rfl,-,-⟩:=T5.out.ptr;go_wp2_with fail
 rcases Bv D with⟨s,E⟩|⟨s,rfl⟩
 case inr =>
  refine(K.out v ⟨#[58]⟩ Q false Z.out s).mono ?_;rintro e o ⟨f,⟨q,-⟩|⟨-,rfl⟩⟩
  ·simp at q
  ·exact⟨rfl,U.out.trans f.two,rfl⟩
 refine(K.out v ⟨#[58]⟩ Q true Z.out s).mono ?_;rintro e o ⟨f,⟨-,rfl,hr⟩|⟨q,-⟩⟩
 case inr=>simp at q
 have P:Hid (RdF o br t (Q+1) d):=hr;have T:Hid (Ar o be 10 op (pcF t i) n0 a0 none 0 0):=E5.out.of f hbe;have B:Hid (Fr (fun k=>k≠br/\k≠be) w o):=U.out.trans f.two;have T6:Hid (Ah (fun k=>l.heap.size<=k) o a (.pointer (some ⟨ba,0,none⟩))):=T5.out.fr (f.mono fun k q=>by omega) (fun _ _ q=>q);clear f hr s D E5 Z U T5;go_wp2_with fail
 rcases Ax E with⟨⟨c,p⟩,g,rfl⟩|⟨b,j3,g,F⟩
 ·refine(Bb M.out o d _ _ hd (L.out.two hb34 B.out) P.out g).mono ?_;rintro e y ⟨f,rfl⟩;exact⟨rfl,B.out.trans f.two,rfl⟩
 refine(Bb M.out o d _ _ hd (L.out.two hb34 B.out) P.out g).mono ?_;rintro e y ⟨f,⟨vb,rfl,H⟩,hr⟩;have R7:Hid (RdF y br t j3 d):=hr;have I:Hid (Ar y be 10 op (pcF t i) n0 a0 none 0 0):=T.out.of f hbe;have F7:Hid (Fr (fun k=>k≠br/\k≠be) w y):=B.out.trans f.two;have T7:Hid (Ah (fun k=>l.heap.size<=k) y a (.pointer (some ⟨ba,0,none⟩))):=T6.out.fr (f.mono fun k q=>by omega) (fun _ _ q=>q);have U7:Hid (Ah (fun k=>o.heap.size<=k) y b vb):=H;have a7:=B.out.size;have a4:be<o.heap.size:=Ac T.out;have a2:br<o.heap.size:=Ac P.out;have a8:=f.size;clear f hr g H E T P B T6;obtain⟨bb,rfl,-,-⟩:=U7.out.ptr;have c5:=Aa I.out 5;have f5:=Ab I.out 5;have a5:be<y.heap.size:=Ac I.out;go_wp2_with fail
 go_end0
 obtain rfl:r=.ok (C7 op.data.toList n a b,j3):=by simp only[okX,Option.some.injEq] at F;exact F.symm
 obtain⟨hT,hF⟩:=Im (lo:=w.heap.size) I.out (m:=2) (vs:=#[.pointer (some ⟨ba,0,none⟩),.pointer (some ⟨bb,0,none⟩)]) (kids:=[a,b]) (x:=C7 op.data.toList n a b) rfl (by omega) (fun k x q=>by
   match k with
   | 0=>simp at q;subst q;exact⟨_,rfl,T7.out.fr (Fr.refl _ _) fun _ _ q=>by omega⟩
   | 1=>simp at q;subst q;exact⟨_,rfl,U7.out.fr (Fr.refl _ _) fun _ _ q=>by omega⟩
   | k+2=>simp at q) (by omega)
  (by
   rw[Bm,<- X.out.1];exact .inr (.inr (.inr (.inr (.inr (.inr (.inr (.inr (.inr (.inr (.inl ⟨rfl,hop,a,b,rfl,rfl⟩)))))))))))
 exact⟨F7.out.trans (hF.mono fun _ q=>q.2),rfl,hT,RdF.of R7.out hF (Ne.symm hbe)⟩
end Go.Proofs.YtjbfcadeapphbaaGreatDoor.Sx
namespace Go.Proofs.YtjbfcadeapphbaaGreatDoor.Sx
set_option maxRecDepth 100000
set_option maxHeartbeats 1000000
open Go.RowKit Go.Sort
attribute [local go_sem] Il
theorem Wq {br:Nat}{t:ByteArray}{self:Nat->Nat->Nat->RX PX}(hS:Ba br t self)(w:World)(be d i s0 a0:Nat)(op nm0:ByteArray)(n0:Int)(hd:d<=24)(ht:t.size<=4000)(hbe:be≠br)(hb34:be≠5/\be≠6)(hI:Cd w br)(hr:RdF w br t i d)(he:Ar w be s0 op nm0 n0 a0 none 0 0)
  (r:Except (Nat×Nat) (PX×Nat)) (h:Jz (tkF t.data.toList) self d i=some r) :
  Calls Tryz.prog 144 #[.pointer (some ⟨br,0,none⟩),.pointer (some ⟨be,0,none⟩)] w (S1 w br be t d r):=by
 have O:Hid (Ba br t self):=hS;have N:Hid (Cd w br):=hI;have T:Hid (∀(W:World)(q:Except (Nat×Nat) (List UInt8×Nat)),_):=fun W q h=>Dy W br t i d h ht q;have M:Hid (∀(W:World)(m:ByteArray)(k:Nat)(b:Bool),_):=fun W m k b h=>C3 W br t m k d h ht b;have V:Hid (RdF w br t i d):=hr;have HE:Hid (Ar w be s0 op nm0 n0 a0 none 0 0):=he;have a3:=Ac hr;have a4:=Ac he;clear hI hS hr he;have mo:=follows;go_enter Tryz.func144,Tryz.ntmps144
 go_wp2_with fail
 unfold Jz at h;rcases Ax h with⟨⟨c,p⟩,g,rfl⟩|⟨n,j,g,hk⟩
 ·refine(T.out _ _ V.out g).mono ?_;rintro e o ⟨f,rfl⟩;exact⟨rfl,f.two,rfl⟩
 refine(T.out _ _ V.out g).mono ?_;rintro e o ⟨f,rfl,hr⟩;have U:Hid (n=txF t.data.toList i/\j=i+1):=Hk g;have R2:Hid (RdF o br t j d):=hr;have y:Hid (Ar o be s0 op nm0 n0 a0 none 0 0):=HE.out.of f hbe;have F2:Hid (Fr (·≠br) w o):=f;have c0:=Aa y.out 0;have c2:=Aa y.out 2;have f0:=Ab y.out 0;have f2:=Ab y.out 2;clear f hr g h T HE V;go_wp2_with fail
 have R:Hid (Ar ((o.setCell ⟨be,0,none⟩ (.int .i64 9)).setCell ⟨be,2,none⟩ (.string (pcF t i))) be 9 op (pcF t i) n0 a0 none 0 0):=(y.out.sort 9).name _;have P:Hid (RdF ((o.setCell ⟨be,0,none⟩ (.int .i64 9)).setCell ⟨be,2,none⟩ (.string (pcF t i))) br t j d):=(R2.out.setB (Ne.symm hbe) _).setB (Ne.symm hbe) _;have L:Hid (Fr (fun k=>k≠br/\k≠be) w ((o.setCell ⟨be,0,none⟩ (.int .i64 9)).setCell ⟨be,2,none⟩ (.string (pcF t i)))):=(F2.out.two.set (p:=⟨be,0,none⟩) (fun q=>q.2 rfl) _).set (p:=⟨be,2,none⟩) (fun q=>q.2 rfl) _;clear c0 c2 f0 f2 y R2 F2;generalize (o.setCell ⟨be,0,none⟩ (.int .i64 9)).setCell ⟨be,2,none⟩ (.string (pcF t i))=w3 at R P L |-;rcases Bv hk with⟨l,F⟩|⟨l,rfl⟩
 case inr =>
  refine(M.out w3 ⟨#[61]⟩ (j) false P.out l).mono ?_;rintro e B ⟨f,⟨q,-⟩|⟨-,rfl⟩⟩
  ·simp at q
  ·exact⟨rfl,L.out.trans f.two,rfl⟩
 refine(M.out w3 ⟨#[61]⟩ (j) true P.out l).mono ?_;rintro e B ⟨f,⟨-,rfl,hr⟩|⟨q,-⟩⟩
 case inr=>simp at q
 have X:Hid (RdF B br t (j+1) (d)):=hr;have E4:Hid (Ar B be 9 op (pcF t i) n0 a0 none 0 0):=R.out.of f (by omega);have z:Hid (Fr (fun k=>k≠br/\k≠be) w B):=L.out.trans f.two;clear f hr l hk;clear R P L;go_wp2_with fail
 rcases Ax F with⟨⟨c,p⟩,g,rfl⟩|⟨a,Q,g,G⟩
 ·refine(Bb O.out B d _ _ hd (N.out.two hb34 z.out) X.out g).mono ?_;rintro e u ⟨f,rfl⟩;exact⟨rfl,z.out.trans f.two,rfl⟩
 refine(Bb O.out B d _ _ hd (N.out.two hb34 z.out) X.out g).mono ?_;rintro e u ⟨f,⟨va,rfl,J⟩,hr⟩;have Y:Hid (RdF u br t Q (d)):=hr;have a6:=z.out.size;have E5:Hid (Ar u be 9 op (pcF t i) n0 a0 none 0 0):=E4.out.of f (by omega);have S:Hid (Fr (fun k=>k≠br/\k≠be) w u):=z.out.trans f.two;have s:Hid (Ah (fun k=>w.heap.size<=k) u a va):=Ah.fr (Fr.refl _ _) (fun _ _ q=>by omega) J;clear f hr g J F;clear E4 X z;obtain⟨ba,rfl,-,-⟩:=s.out.ptr;go_wp2_with fail
 rcases Bv G with⟨l,H⟩|⟨l,rfl⟩
 case inr =>
  refine(M.out u ⟨#[58]⟩ (Q) false Y.out l).mono ?_;rintro e v ⟨f,⟨q,-⟩|⟨-,rfl⟩⟩
  ·simp at q
  ·exact⟨rfl,S.out.trans f.two,rfl⟩
 refine(M.out u ⟨#[58]⟩ (Q) true Y.out l).mono ?_;rintro e v ⟨f,⟨-,rfl,hr⟩|⟨q,-⟩⟩
 case inr=>simp at q
 have Z:Hid (RdF v br t (Q+1) (d)):=hr;have E6:Hid (Ar v be 9 op (pcF t i) n0 a0 none 0 0):=E5.out.of f (by omega);have A:Hid (Fr (fun k=>k≠br/\k≠be) w v):=S.out.trans f.two;have D:Hid (Ah (fun k=>w.heap.size<=k) v a (.pointer (some ⟨ba,0,none⟩))):=s.out.fr (f.mono fun k q=>by omega) (fun _ _ q=>q);clear f hr l G;clear E5 Y S s;go_wp2_with fail
 rcases Ax H with⟨⟨c,p⟩,g,rfl⟩|⟨b,j3,g,I⟩
 ·refine(Bb O.out v d _ _ hd (N.out.two hb34 A.out) Z.out g).mono ?_;rintro e C ⟨f,rfl⟩;exact⟨rfl,A.out.trans f.two,rfl⟩
 refine(Bb O.out v d _ _ hd (N.out.two hb34 A.out) Z.out g).mono ?_;rintro e C ⟨f,⟨vb,rfl,J⟩,hr⟩;have R7:Hid (RdF C br t j3 (d)):=hr;have a7:=A.out.size;have K:Hid (Ar C be 9 op (pcF t i) n0 a0 none 0 0):=E6.out.of f (by omega);have F7:Hid (Fr (fun k=>k≠br/\k≠be) w C):=A.out.trans f.two;have a1:Hid (Ah (fun k=>w.heap.size<=k) C a (.pointer (some ⟨ba,0,none⟩))):=D.out.fr (f.mono fun k q=>by omega) (fun _ _ q=>q);have E:Hid (Ah (fun k=>w.heap.size<=k) C b vb):=Ah.fr (Fr.refl _ _) (fun _ _ q=>by omega) J;clear f hr g J H;clear E6 Z A D;obtain⟨bb,rfl,-,-⟩:=E.out.ptr;have c5:=Aa K.out 5;have f5:=Ab K.out 5;have a5:=Ac K.out;go_wp2_with fail
 go_end0
 obtain rfl:r=.ok (Kh n a b,j3):=by simp only[okX,Option.some.injEq] at I;exact I.symm
 have a2:=F7.out.size;obtain⟨hT,hF⟩:=Im (lo:=w.heap.size) K.out (m:=2) (vs:=#[.pointer (some ⟨ba,0,none⟩),.pointer (some ⟨bb,0,none⟩)]) (kids:=[a,b]) (x:=Kh n a b) rfl (by omega) (fun k x q=>by
   match k with
   | 0=>simp at q;subst q;exact⟨_,rfl,a1.out.fr (Fr.refl _ _) fun _ _ q=>by omega⟩
   | 1=>simp at q;subst q;exact⟨_,rfl,E.out.fr (Fr.refl _ _) fun _ _ q=>by omega⟩
   | k+2=>simp at q) a2
  (by
   rw[Bm,<- U.out.1];exact .inr (.inr (.inr (.inr (.inr (.inr (.inr (.inr (.inr (.inl ⟨rfl,a,b,rfl,rfl⟩))))))))))
 exact⟨F7.out.trans (hF.mono fun _ q=>q.2),rfl,hT,RdF.of R7.out hF (Ne.symm hbe)⟩
theorem Wr {br:Nat}{t:ByteArray}{self:Nat->Nat->Nat->RX PX}(hS:Ba br t self)(w:World)(be d i s0 a0:Nat)(op nm0:ByteArray)(n0:Int)(hd:d<=24)(ht:t.size<=4000)(hbe:be≠br)(hb34:be≠5/\be≠6)(hI:Cd w br)(hr:RdF w br t i d)(he:Ar w be s0 op nm0 n0 a0 none 0 0)
  (r:Except (Nat×Nat) (PX×Nat)) (h:I6 (tkF t.data.toList) self d i=some r) :
  Calls Tryz.prog 143 #[.pointer (some ⟨br,0,none⟩),.pointer (some ⟨be,0,none⟩)] w (S1 w br be t d r):=by
 have K:Hid (Ba br t self):=hS;have J:Hid (Cd w br):=hI;have X:Hid (∀(W:World)(m:ByteArray)(k:Nat)(b:Bool),_):=fun W m k b h=>C3 W br t m k d h ht b;obtain⟨v,o⟩:∃v,v=w:=⟨w,rfl⟩;have R3:Hid (RdF v br t i d):=by rw[o];exact hr
 have E3:Hid (Ar v be s0 op nm0 n0 a0 none 0 0):=by rw[o];exact he
 have G:Hid (Fr (fun k=>k≠br/\k≠be) w v):=by rw[o];exact Fr.refl _ _
 have a4:=Ac hr;have a5:=Ac he;clear hI hS hr he;have mo:=follows;rw[show Calls Tryz.prog 143 #[.pointer (some ⟨br,0,none⟩),.pointer (some ⟨be,0,none⟩)] w (S1 w br be t d r)=Calls Tryz.prog 143 #[.pointer (some ⟨br,0,none⟩),.pointer (some ⟨be,0,none⟩)] v (S1 w br be t d r) from by rw[o]];clear o;go_enter Tryz.func143,Tryz.ntmps143
 go_wp2_with fail
 unfold I6 at h;rcases Ax h with⟨⟨c,p⟩,g,rfl⟩|⟨a,j,g,hk⟩
 ·refine(Bb K.out v d _ _ hd (J.out.two hb34 G.out) R3.out g).mono ?_;rintro e D ⟨f,rfl⟩;exact⟨rfl,G.out.trans f.two,rfl⟩
 refine(Bb K.out v d _ _ hd (J.out.two hb34 G.out) R3.out g).mono ?_;rintro e D ⟨f,⟨va,rfl,u⟩,hr⟩;have R4:Hid (RdF D br t j (d)):=hr;have a7:=G.out.size;have E4:Hid (Ar D be s0 op nm0 n0 a0 none 0 0):=E3.out.of f (by omega);have Z:Hid (Fr (fun k=>k≠br/\k≠be) w D):=G.out.trans f.two;have B:Hid (Ah (fun k=>w.heap.size<=k) D a va):=Ah.fr (Fr.refl _ _) (fun _ _ q=>by omega) u;clear f hr g u h;clear E3 R3 G;obtain⟨Q,rfl,-,-⟩:=B.out.ptr;go_wp2_with fail
 rcases Bv hk with⟨s,R⟩|⟨s,rfl⟩
 case inr =>
  refine(X.out D ⟨#[116,104,101,110]⟩ (j) false R4.out s).mono ?_;rintro e E ⟨f,⟨q,-⟩|⟨-,rfl⟩⟩
  ·simp at q
  ·exact⟨rfl,Z.out.trans f.two,rfl⟩
 refine(X.out D ⟨#[116,104,101,110]⟩ (j) true R4.out s).mono ?_;rintro e E ⟨f,⟨-,rfl,hr⟩|⟨q,-⟩⟩
 case inr=>simp at q
 have R5:Hid (RdF E br t (j+1) (d)):=hr;have E5:Hid (Ar E be s0 op nm0 n0 a0 none 0 0):=E4.out.of f (by omega);have H:Hid (Fr (fun k=>k≠br/\k≠be) w E):=Z.out.trans f.two;have L:Hid (Ah (fun k=>w.heap.size<=k) E a (.pointer (some ⟨Q,0,none⟩))):=B.out.fr (f.mono fun k q=>by omega) (fun _ _ q=>q);clear f hr s hk;clear E4 R4 Z B;go_wp2_with fail
 rcases Ax R with⟨⟨c,p⟩,g,rfl⟩|⟨b,Y,g,S⟩
 ·refine(Bb K.out E d _ _ hd (J.out.two hb34 H.out) R5.out g).mono ?_;rintro e z ⟨f,rfl⟩;exact⟨rfl,H.out.trans f.two,rfl⟩
 refine(Bb K.out E d _ _ hd (J.out.two hb34 H.out) R5.out g).mono ?_;rintro e z ⟨f,⟨vb,rfl,u⟩,hr⟩;have R6:Hid (RdF z br t Y (d)):=hr;have a8:=H.out.size;have E6:Hid (Ar z be s0 op nm0 n0 a0 none 0 0):=E5.out.of f (by omega);have F6:Hid (Fr (fun k=>k≠br/\k≠be) w z):=H.out.trans f.two;have M:Hid (Ah (fun k=>w.heap.size<=k) z a (.pointer (some ⟨Q,0,none⟩))):=L.out.fr (f.mono fun k q=>by omega) (fun _ _ q=>q);have C:Hid (Ah (fun k=>w.heap.size<=k) z b vb):=Ah.fr (Fr.refl _ _) (fun _ _ q=>by omega) u;clear f hr g u R;clear E5 R5 H L;obtain⟨bb,rfl,-,-⟩:=C.out.ptr;go_wp2_with fail
 rcases Bv S with⟨s,T⟩|⟨s,rfl⟩
 case inr =>
  refine(X.out z ⟨#[101,108,115,101]⟩ (Y) false R6.out s).mono ?_;rintro e A ⟨f,⟨q,-⟩|⟨-,rfl⟩⟩
  ·simp at q
  ·exact⟨rfl,F6.out.trans f.two,rfl⟩
 refine(X.out z ⟨#[101,108,115,101]⟩ (Y) true R6.out s).mono ?_;rintro e A ⟨f,⟨-,rfl,hr⟩|⟨q,-⟩⟩
 case inr=>simp at q
 have R7:Hid (RdF A br t (Y+1) (d)):=hr;have E7:Hid (Ar A be s0 op nm0 n0 a0 none 0 0):=E6.out.of f (by omega);have I:Hid (Fr (fun k=>k≠br/\k≠be) w A):=F6.out.trans f.two;have N:Hid (Ah (fun k=>w.heap.size<=k) A a (.pointer (some ⟨Q,0,none⟩))):=M.out.fr (f.mono fun k q=>by omega) (fun _ _ q=>q);have O:Hid (Ah (fun k=>w.heap.size<=k) A b (.pointer (some ⟨bb,0,none⟩))):=C.out.fr (f.mono fun k q=>by omega) (fun _ _ q=>q);clear f hr s S;clear E6 R6 F6 M C;go_wp2_with fail
 rcases Ax T with⟨⟨c,p⟩,g,rfl⟩|⟨x,j3,g,U⟩
 ·refine(Bb K.out A d _ _ hd (J.out.two hb34 I.out) R7.out g).mono ?_;rintro e l ⟨f,rfl⟩;exact⟨rfl,I.out.trans f.two,rfl⟩
 refine(Bb K.out A d _ _ hd (J.out.two hb34 I.out) R7.out g).mono ?_;rintro e l ⟨f,⟨vx,rfl,u⟩,hr⟩;have R8:Hid (RdF l br t j3 (d)):=hr;have a9:=I.out.size;have F:Hid (Ar l be s0 op nm0 n0 a0 none 0 0):=E7.out.of f (by omega);have F8:Hid (Fr (fun k=>k≠br/\k≠be) w l):=I.out.trans f.two;have a1:Hid (Ah (fun k=>w.heap.size<=k) l a (.pointer (some ⟨Q,0,none⟩))):=N.out.fr (f.mono fun k q=>by omega) (fun _ _ q=>q);have a2:Hid (Ah (fun k=>w.heap.size<=k) l b (.pointer (some ⟨bb,0,none⟩))):=O.out.fr (f.mono fun k q=>by omega) (fun _ _ q=>q);have P:Hid (Ah (fun k=>w.heap.size<=k) l x vx):=Ah.fr (Fr.refl _ _) (fun _ _ q=>by omega) u;clear f hr g u T;clear E7 R7 I N O;obtain⟨bx,rfl,-,-⟩:=P.out.ptr;have c0:=Aa F.out 0;have f0:=Ab F.out 0;have c5:=Aa F.out 5;have f5:=Ab F.out 5;have a6:=Ac F.out;go_wp2_with fail
 go_end0
 obtain rfl:r=.ok (dIf a b x,j3):=by simp only[okX,Option.some.injEq] at U;exact U.symm
 have a3:=F8.out.size;have V:(l.setCell ⟨be,0,none⟩ (.int .i64 8)).heap.size=l.heap.size:=by simp
 have n:Fr (·≠be) l (l.setCell ⟨be,0,none⟩ (.int .i64 8)):=(Fr.refl _ _).set (by simp) _;have E9:Ar (l.setCell ⟨be,0,none⟩ (.int .i64 8)) be 8 op nm0 n0 a0 none 0 0:=F.out.sort 8;obtain⟨hT,hF⟩:=Im (lo:=w.heap.size) E9 (m:=3) (vs:=#[.pointer (some ⟨Q,0,none⟩),.pointer (some ⟨bb,0,none⟩),.pointer (some ⟨bx,0,none⟩)]) (kids:=[a,b,x]) (x:=dIf a b x) rfl (by omega) (fun k y q=>by
   match k with
   | 0=>simp at q;subst q;exact⟨_,rfl,a1.out.fr (n.mono fun _ _=>by omega) fun _ _ q=>by omega⟩
   | 1=>simp at q;subst q;exact⟨_,rfl,a2.out.fr (n.mono fun _ _=>by omega) fun _ _ q=>by omega⟩
   | 2=>simp at q;subst q;exact⟨_,rfl,P.out.fr (n.mono fun _ _=>by omega) fun _ _ q=>by omega⟩
   | k+3=>simp at q) (by rw[V];exact a3)
  (.inr (.inr (.inr (.inr (.inr (.inr (.inr (.inr (.inl ⟨rfl,a,b,x,rfl,rfl⟩)))))))))
 rw[V] at hT hF;exact⟨(F8.out.trans (n.mono fun _ q=>q.2)).trans (hF.mono fun _ q=>q.2),rfl,hT,RdF.of (RdF.of R8.out n (Ne.symm hbe)) hF (Ne.symm hbe)⟩
end Go.Proofs.YtjbfcadeapphbaaGreatDoor.Sx
namespace Go.Proofs.YtjbfcadeapphbaaGreatDoor.Sx
set_option maxRecDepth 100000
set_option maxHeartbeats 1000000
open Go.RowKit Go.Sort
theorem Du {γ:Type}{K:Nat->Tk}{d i:Nat}{k:Nat->RX γ}{r:Except (Nat×Nat) (γ×Nat)}(hd:d<=24)(h:Dh K d i k=some r):(d<24/\k (i+1)=some r)\/(d=24/\r=.error (6,(K i).at')):=by
 unfold Dh at h;by_cases q:d=24
 ·rw[if_pos q] at h;simp only[Dg,Option.some.injEq] at h;exact .inr ⟨q,h.symm⟩
 ·rw[if_neg q] at h;exact .inl ⟨by omega,h⟩
theorem Fr.fresh {br be:Nat}{w w2 w3:World}(F:Fr (·≠br) w w2)(hf:Fr (fun k=>k≠br/\k≠be) w2 w3)(h:w.heap.size<=be):Fr (·≠br) w w3 :=
 ⟨hf.os.trans F.os,hf.tape.trans F.tape,hf.output.trans F.output,Nat.le_trans F.size hf.size,fun k hk hq=>(hf.block k (Nat.lt_of_lt_of_le hk F.size) ⟨hq,by omega⟩).trans (F.block k hk hq)⟩
theorem Jp {w w2 w3 w4:World}{br be:Nat}{t:ByteArray}{d j:Nat}{x:PX}{r:Except (Nat×Nat) (PX×Nat)}(hw:w.heap.size<=be)(hlb:br<w.heap.size)(F:Fr (·≠br) w w2)(hf:Fr (fun k=>k≠br/\k≠be) w2 w3)(hT:Ah (fun k=>k=be\/w2.heap.size<=k) w3 x (.pointer (some ⟨be,0,none⟩)))(e:r=.ok (x,j))(hr:RdF w4 br t j d)(hf4:Fr (·≠br) w3 w4) :
  Dd w br t d r (.returned (.pointer (some ⟨be,0,none⟩))) w4:=by
 subst e;have:=F.size;exact⟨(F.fresh hf hw).trans hf4,⟨_,rfl,hT.fr (hf4.mono fun k q=>by omega) fun k _ q=>by omega⟩,hr⟩
theorem Mw {w w2 w3:World}{br be:Nat}{t:ByteArray}{d c p:Nat}(hw:w.heap.size<=be)(F:Fr (·≠br) w w2)(hf:Fr (fun k=>k≠br/\k≠be) w2 w3):Dd w br t d (.error (c,p)) (Flt c p) w3:=⟨F.fresh hf hw,rfl⟩
theorem Ug {br:Nat}{t:ByteArray}{self:Nat->Nat->Nat->RX PX}(hS:Ba br t self)(w:World)(d i:Nat)(hd:d<=24)(ht:t.size<=4000)(hI:Cd w br)(hr:RdF w br t i d)(ho:Es.contains (txF t.data.toList i)=true)
  (r:Except (Nat×Nat) (PX×Nat)) (h:Dv (tkF t.data.toList) self d i=some r) :
  Calls Tryz.prog 127 #[.pointer (some ⟨br,0,none⟩)] w (Dd w br t d r):=by
 have V:Hid (Ba br t self):=hS;have Q:Hid (Cd w br):=hI;have U:Hid (RdF w br t i d):=hr;have Y:=Ac hr;have h1:=Aa hr 1;have h2:=Aa hr 2;clear hI hS hr;have mo:=follows;go_enter Tryz.func127,Tryz.ntmps127
 have G:=RdF.of U.out (P:=fun _=>True) (Fr.grew (Ad.refl w).drew) trivial;have k1:=Aa G 1;have k2:=Aa G 2;clear G;go_wp2_with fail
 go_big_region_o
 have N:Hid (Ar (w.alloc (.cells #[.int .i64 0,.string ⟨#[]⟩,.string ⟨#[]⟩,.int .i64 0,.int .i64 (atF t.data.toList i:Int),.slice none 0 0] 81)).drew w.heap.size 0 ⟨#[]⟩ ⟨#[]⟩ 0 (atF t.data.toList i) none 0 0):=Ar.of (w:=w.alloc (.cells #[.int .i64 0,.string ⟨#[]⟩,.string ⟨#[]⟩,.int .i64 0,.int .i64 (atF t.data.toList i:Int),.slice none 0 0] 81)) (P:=fun _=>True) (Af rfl) (Fr.refl _ _).drew trivial;have O:Hid (Fr (·≠br) w (w.alloc (.cells #[.int .i64 0,.string ⟨#[]⟩,.string ⟨#[]⟩,.int .i64 0,.int .i64 (atF t.data.toList i:Int),.slice none 0 0] 81)).drew):=((Fr.refl _ w).alloc _).drew;have R:Hid (RdF (w.alloc (.cells #[.int .i64 0,.string ⟨#[]⟩,.string ⟨#[]⟩,.int .i64 0,.int .i64 (atF t.data.toList i:Int),.slice none 0 0] 81)).drew br t i d):=RdF.of U.out (P:=fun _=>True) (((Fr.refl _ w).alloc _).drew) trivial;clear h1 h2 k1 k2 U;generalize (w.alloc (.cells #[.int .i64 0,.string ⟨#[]⟩,.string ⟨#[]⟩,.int .i64 0,.int .i64 (atF t.data.toList i:Int),.slice none 0 0] 81)).drew=w1 at N O R |-;obtain⟨b,F⟩:∃b,w.heap.size=b:=⟨_,rfl⟩;have n:Hid (w.heap.size=b):=F;rw[F] at N Y |-;clear F;have o:b≠br:=by omega
 have E:=Q.out.new (Nat.le_of_eq n.out);go_wp2_with fail
 rcases Du hd h with⟨X,s⟩|⟨rfl,rfl⟩
 case inr =>
  refine(Eg w1 br t i R.out).mono ?_;rintro e g ⟨rfl,rfl⟩;exact⟨rfl,O.out,rfl⟩
 refine(Fm w1 br t i d R.out ht X).mono ?_;rintro e g ⟨rfl,hr,a⟩;have S:Hid (RdF g br t (i+1) (d+1)):=hr;have D:Hid (Ar g b 0 ⟨#[]⟩ ⟨#[]⟩ 0 (atF t.data.toList i) none 0 0):=N.out.of a o;have v:Hid (Fr (·≠br) w g):=O.out.trans a;have a1:b<g.heap.size:=Ac D.out;clear hr a N O R h;have T:Hid (∀(W:World)(k:Nat),_):=fun W k h=>Et W br t k d h (by omega);have f:(pcF t i).toList=txF t.data.toList i:=by rw[ByteArray.toList_eq,Bm]
 have m:(pcF t i).data.toList=txF t.data.toList i:=Bm t i;have u:(tkF t.data.toList i).tx=txF t.data.toList i:=rfl;simp only[u] at s;generalize pcF t i=pc at f m |-;by_cases B:txF t.data.toList i=wIf
 ·have g1:(pc.toList==[105,102])=true:=by rw[f,B];rfl
  rw[B,if_pos (by decide)] at s;clear f m u B ho;have q:Hid (Calls _ _ _ _ _):=Wr V.out g b (d+1) (i+1) 0 _ _ _ 0 (by omega) ht o E (Q.out.fr v.out) S.out D.out r s;go_wp2_with fail
  refine q.out.mono ?_;rintro e l ⟨a,A⟩;rcases r with⟨c,p⟩|⟨x,j⟩
  ·obtain rfl:=A;exact⟨rfl,Mw (by have:=n.out;omega) v.out a⟩
  ·obtain⟨rfl,z,hr⟩:=A;have K:Hid (Ah _ l x _):=z;have I:Hid (RdF l br t j (d+1)):=hr;have y:Hid (Fr _ g l):=a;clear z hr a q;go_wp2_with (go_at_call 146;refine(T.out _ _ I.out).mono ?_;rintro e C ⟨rfl,hr,a⟩;have L:Hid (RdF C br t j d):=hr;have J:Hid (Fr (·≠br) l C):=a;clear hr a)
   go_ret
   exact Jp (by have:=n.out;omega) (by have:=n.out;omega) v.out y.out K.out rfl L.out J.out
 have g1:(pc.toList==[105,102])=false:=by rw[f];simpa [wIf] using B
 rw[if_neg (by simpa using B)] at s;by_cases H:txF t.data.toList i=Jg
 ·have g2:(pc.toList==[108,101,116])=true:=by rw[f,H];rfl
  rw[H,if_pos (by decide)] at s;clear f m u B H ho;have q:Hid (Calls _ _ _ _ _):=Wq V.out g b (d+1) (i+1) 0 _ _ _ 0 (by omega) ht o E (Q.out.fr v.out) S.out D.out r s;go_wp2_with fail
  refine q.out.mono ?_;rintro e l ⟨a,A⟩;rcases r with⟨c,p⟩|⟨x,j⟩
  ·obtain rfl:=A;exact⟨rfl,Mw (by have:=n.out;omega) v.out a⟩
  ·obtain⟨rfl,z,hr⟩:=A;have K:Hid (Ah _ l x _):=z;have I:Hid (RdF l br t j (d+1)):=hr;have y:Hid (Fr _ g l):=a;clear z hr a q;go_wp2_with (go_at_call 146;refine(T.out _ _ I.out).mono ?_;rintro e C ⟨rfl,hr,a⟩;have L:Hid (RdF C br t j d):=hr;have J:Hid (Fr (·≠br) l C):=a;clear hr a)
   go_ret
   exact Jp (by have:=n.out;omega) (by have:=n.out;omega) v.out y.out K.out rfl L.out J.out
 have g2:(pc.toList==[108,101,116])=false:=by rw[f];simpa [Jg] using H
 rw[if_neg (by simpa using H)] at s;have E3:Hid (Ar (g.setCell ⟨b,1,none⟩ (.string pc)) b 0 pc ⟨#[]⟩ 0 (atF t.data.toList i) none 0 0):=D.out.op pc;have I:Hid (RdF (g.setCell ⟨b,1,none⟩ (.string pc)) br t (i+1) (d+1)):=S.out.setB (Ne.symm o) _;have y:Hid (Fr (·≠br) w (g.setCell ⟨b,1,none⟩ (.string pc))):=v.out.setB (by have:=n.out;simp;omega) _;have c1:=Aa D.out 1;have f1:=Ab D.out 1;have M:pc.data.toList∈Jj\/pc.data.toList∈Dr:=by
  rw[m];simp only[Es,List.contains_cons,List.contains_nil,Bool.or_false,Bool.or_eq_true,beq_iff_eq] at ho;refine .inl ?_;simp only[Jj,List.mem_cons,List.not_mem_nil,or_false];rcases ho with ho|ho|ho
  ·exact absurd ho B
  ·exact absurd ho H
  ·exact ho
 rw[<- m] at s;have q:Hid (Calls _ _ _ _ _):=Lw V.out (g.setCell ⟨b,1,none⟩ (.string pc)) b (d+1) (i+1) 0 _ pc _ 0 (by omega) ht o E (Q.out.fr y.out) I.out E3.out M r s;clear f m u B H ho M D S v E3 I;have a0:(g.setCell ⟨b,1,none⟩ (.string pc)).heap.size=g.heap.size:=by simp
 have Z:b<(g.setCell ⟨b,1,none⟩ (.string pc)).heap.size:=by omega
 clear a0;go_wp2_with fail
 refine q.out.mono ?_;clear c1 f1;generalize g.setCell ⟨b,1,none⟩ (.string pc)=w2' at y q Z |-;rintro e l ⟨a,A⟩;rcases r with⟨c,p⟩|⟨x,j⟩
 ·obtain rfl:=A;exact⟨rfl,Mw (by have:=n.out;omega) y.out a⟩
 ·obtain⟨rfl,z,hr⟩:=A;have K:Hid (Ah _ l x _):=z;have L:Hid (RdF l br t j (d+1)):=hr;have J:Hid (Fr _ w2' l):=a;clear z hr a q;go_wp2_with (go_at_call 146;refine(T.out _ _ L.out).mono ?_;rintro e C ⟨rfl,hr,a⟩;have R5:Hid (RdF C br t j d):=hr;have F5:Hid (Fr (·≠br) l C):=a;clear hr a)
  go_ret
  exact Jp (by have:=n.out;omega) (by have:=n.out;omega) y.out J.out K.out rfl R5.out F5.out
theorem Dd.from {w w1:World}{br:Nat}{t:ByteArray}{d:Nat}{r:Except (Nat×Nat) (PX×Nat)}{e:Ending}{w':World}(F:Fr (·≠br) w w1)(h:Dd w1 br t d r e w'):Dd w br t d r e w':=by
 obtain⟨b,a⟩:=h;have:=F.size;refine⟨F.trans b,?_⟩;rcases r with⟨c,p⟩|⟨x,j⟩
 ·exact a
 ·obtain⟨⟨v,rfl,g⟩,f⟩:=a;exact⟨⟨v,rfl,g.fr (Fr.refl _ _) fun _ _ q=>by omega⟩,f⟩
theorem Qd {br:Nat}{t:ByteArray}{self:Nat->Nat->Nat->RX PX}(hS:Ba br t self)(w:World)(d i rk:Nat)(hd:d<=24)(ht:t.size<=4000)(hI:Cd w br)(hr:RdF w br t i d)(ho:rk=6/\Ek.contains (txF t.data.toList i)=true\/rk=12/\Df.contains (txF t.data.toList i)=true)
  (r:Except (Nat×Nat) (PX×Nat)) (h:El (tkF t.data.toList) self rk d i=some r) :
  Calls Tryz.prog 128 #[.pointer (some ⟨br,0,none⟩),.int .i64 (rk:Int)] w (Dd w br t d r):=by
 have HS:Hid (Ba br t self):=hS;have HI:Hid (Cd w br):=hI;have HR:Hid (RdF w br t i d):=hr;have Z:=Ac hr;have h1:=Aa hr 1;have h2:=Aa hr 2;clear hI hS hr;have mo:=follows;have HO:Hid (∀W:World,Calls Tryz.prog 130 #[.string (pcF t i)] W fun e w'=>e=.returned (.int .i64 (Ks (pcF t i).data.toList:Int))/\Ad W w'):=fun W=>(Lm (pcF t i) W).mono fun e w' h=>⟨h.1,by rw[h.2];exact Ad.refl _⟩;have a1:Hid (∀W,Ad w W->W.cell? ⟨br,1,none⟩=some (.int .i64 (atF t.data.toList i:Int))/\W.cell? ⟨br,2,none⟩=some (.string (pcF t i))):=by
  intro W g;have h:=RdF.of HR.out (P:=fun _=>True) (Fr.grew g) trivial;exact⟨Aa h 1,Aa h 2⟩
 go_enter Tryz.func128,Tryz.ntmps128
 go_wp2_with fail
 go_region_held3 (fun w'=>w'.cell? ⟨br,1,none⟩=some (.int .i64 (atF t.data.toList i:Int))/\w'.cell? ⟨br,2,none⟩=some (.string (pcF t i))) (first|(constructor<;>assumption)|go_keep)
    ((go_at_call 130;refine(HO.out _).mono ?_;rintro e w' ⟨rfl,hg⟩;obtain⟨j0,j1⟩:=a1.out _ ((Ad.refl w).drew.trans hg);have HG:Hid (Ad w w'):=(Ad.refl w).drew.trans hg;have j2:br<w'.heap.size:=Nat.lt_of_lt_of_le Z HG.out.below.size;clear hg))
 obtain⟨A,C⟩:∃A,Ks (pcF t i).data.toList=A:=⟨_,rfl⟩;have a3:Hid (Ks (pcF t i).data.toList=A):=C;rw[C];have H:Hid (Ar (w'.alloc (.cells #[.int .i64 (A:Int),.string (pcF t i),.string ⟨#[]⟩,.int .i64 0,.int .i64 (atF t.data.toList i:Int),.slice none 0 0] 81)) w'.heap.size A (pcF t i) ⟨#[]⟩ 0 (atF t.data.toList i) none 0 0):=Af rfl;have I:Hid (Fr (·≠br) w (w'.alloc (.cells #[.int .i64 (A:Int),.string (pcF t i),.string ⟨#[]⟩,.int .i64 0,.int .i64 (atF t.data.toList i:Int),.slice none 0 0] 81))):=(Fr.grew HG.out).alloc _;have S:Hid (RdF (w'.alloc (.cells #[.int .i64 (A:Int),.string (pcF t i),.string ⟨#[]⟩,.int .i64 0,.int .i64 (atF t.data.toList i:Int),.slice none 0 0] 81)) br t i d):=RdF.of HR.out (P:=fun _=>True) ((Fr.grew HG.out).alloc _) trivial;have HB:Hid (w.heap.size<=w'.heap.size):=HG.out.below.size;clear h1 h2 HR a1 HO j0 j1 C HG;generalize hW:w'.alloc _=w1 at H I S |-;clear hW;obtain⟨f,a2⟩:∃f,w'.heap.size=f:=⟨_,rfl⟩;rw[a2] at H HB j2 |-;clear a2;have z:f≠br:=by omega
 have h2:=Aa S.out 2;have l:(pcF t i).toList=txF t.data.toList i:=by rw[ByteArray.toList_eq,Bm]
 have F:(pcF t i).data.toList=txF t.data.toList i:=Bm t i;have G:(tkF t.data.toList i).tx=txF t.data.toList i:=rfl;unfold El at h;simp only[G] at h;have HN:Hid (∀(s rk:Nat)(op:List UInt8),_):=fun s rk op hs r h=>Wp w1 br t i d s rk op hs S.out ht r h;by_cases M:txF t.data.toList i=C5
 ·have g1:((pcF t i).toList==[101,110,97,98,108,101,100])=true:=by rw[l,M];rfl
  rw[M] at h ho;have n:rk=6:=by
   rcases ho with⟨e,-⟩|⟨-,e⟩
   ·exact e
   ·exact absurd e (by decide)
  rw[if_pos (by decide)] at h;have HC:Hid (Calls _ _ _ _ _):=HN.out 7 rk C5 (.inl ⟨rfl,n,rfl⟩) r h;clear l F G M ho h HN n;go_wp2_with fail
  refine HC.out.mono ?_;rintro e w2 hp;rcases r with⟨c,p⟩|⟨x,j⟩
  ·obtain⟨b,rfl⟩:=hp;exact⟨rfl,I.out.trans b,rfl⟩
  ·have HH:=Dd.from I.out hp;obtain⟨b,⟨v,rfl,L⟩,hr⟩:=hp;have R:Hid (Dd w br t d (.ok (x,j)) (.returned v) w2):=HH;clear HH b L hr HC;go_wp2_with fail
   go_ret
   exact R.out
 have g1:((pcF t i).toList==[101,110,97,98,108,101,100])=false:=by rw[l];simpa [C5] using M
 by_cases N:txF t.data.toList i=Cc
 ·have g2:((pcF t i).toList==[117,110,99,104,97,110,103,101,100])=true:=by rw[l,N];rfl
  rw[N] at h ho;have n:rk=12:=by
   rcases ho with⟨-,e⟩|⟨e,-⟩
   ·exact absurd e (by decide)
   ·exact e
  rw[if_pos (by decide)] at h;have HC:Hid (Calls _ _ _ _ _):=HN.out 6 rk Cc (.inr ⟨rfl,n,rfl⟩) r h;clear l F G M N ho h HN n;go_wp2_with fail
  refine HC.out.mono ?_;rintro e w2 hp;rcases r with⟨c,p⟩|⟨x,j⟩
  ·obtain⟨b,rfl⟩:=hp;exact⟨rfl,I.out.trans b,rfl⟩
  ·have HH:=Dd.from I.out hp;obtain⟨b,⟨v,rfl,L⟩,hr⟩:=hp;have R:Hid (Dd w br t d (.ok (x,j)) (.returned v) w2):=HH;clear HH b L hr HC;go_wp2_with fail
   go_ret
   exact R.out
 have g2:((pcF t i).toList==[117,110,99,104,97,110,103,101,100])=false:=by rw[l];simpa [Cc] using N
 rw[if_neg (by simp[M,N])] at h;clear HN;have HL:Hid (∀(W:World)(k:Nat),_):=fun W k h=>Et W br t k d h (by omega);have n:rk<=12:=by omega
 have C:A=11\/A=12:=by
  have:=a3.out;unfold Ks at this;split at this<;>omega
 have a6:f<w1.heap.size:=Ac H.out;by_cases q3:txF t.data.toList i=Lg
 ·have g3:((pcF t i).toList==[45])=true:=by rw[l,q3];rfl
  have E:rk=12:=by
   rw[q3] at ho;rcases ho with⟨-,e⟩|⟨e,-⟩
   ·exact absurd e (by decide)
   ·exact e
  have HM:Hid (∀a,Mv (⟨#[110,101,103]⟩:ByteArray).data.toList [a] (Co rk (txF t.data.toList i) a)):=fun a=>.inr (.inr (.inr (.inr (.inr (.inr (.inl ⟨rfl,a,rfl,by rw[E,q3]⟩))))));have c1:=Aa H.out 1;have f1:=Ab H.out 1;have E2:Hid (Ar (w1.setCell ⟨f,1,none⟩ (.string ⟨#[110,101,103]⟩)) f A ⟨#[110,101,103]⟩ ⟨#[]⟩ 0 (atF t.data.toList i) none 0 0):=H.out.op _;have T:Hid (RdF (w1.setCell ⟨f,1,none⟩ (.string ⟨#[110,101,103]⟩)) br t i d):=S.out.setB (Ne.symm z) _;have Q:Hid (Fr (·≠br) w (w1.setCell ⟨f,1,none⟩ (.string ⟨#[110,101,103]⟩))):=I.out.setB HB.out _;clear l F G M N q3 ho E H S I;go_wp2_with fail
  rcases Du hd h with⟨Y,hk⟩|⟨rfl,rfl⟩
  case inr =>
   refine(Eg (w1.setCell ⟨f,1,none⟩ (.string ⟨#[110,101,103]⟩)) br t i T.out).mono ?_;rintro e o ⟨rfl,rfl⟩;exact⟨rfl,Q.out,rfl⟩
  refine(Fm (w1.setCell ⟨f,1,none⟩ (.string ⟨#[110,101,103]⟩)) br t i d T.out ht Y).mono ?_;rintro e o ⟨rfl,hr,b⟩;have U:Hid (RdF o br t (i+1) (d+1)):=hr;have O:Hid (Ar o f A ⟨#[110,101,103]⟩ ⟨#[]⟩ 0 (atF t.data.toList i) none 0 0):=E2.out.of b z;have J:Hid (Fr (·≠br) w o):=Q.out.trans b;have a4:f<o.heap.size:=Ac O.out;clear hr b E2 Q T h;go_wp2_with fail
  rcases Ax hk with⟨⟨c,p⟩,K,rfl⟩|⟨a,j,K,u⟩
  ·refine(HS.out o rk (d+1) _ _ n (by omega) (HI.out.fr J.out) U.out K).mono ?_;rintro e B ⟨b,rfl⟩;exact⟨rfl,J.out.trans b,rfl⟩
  refine(HS.out o rk (d+1) _ _ n (by omega) (HI.out.fr J.out) U.out K).mono ?_;rintro e B ⟨b,⟨va,rfl,L⟩,hr⟩;have R4:Hid (RdF B br t j (d+1)):=hr;have D:Hid (Ar B f A ⟨#[110,101,103]⟩ ⟨#[]⟩ 0 (atF t.data.toList i) none 0 0):=O.out.of b z;have F4:Hid (Fr (·≠br) o B):=b;have V:Hid (Ah (fun k=>o.heap.size<=k) B a va):=L;have a5:f<B.heap.size:=Ac D.out;have a0:=b.size;clear hr b L K hk O U;obtain⟨ba,rfl,-,-⟩:=V.out.ptr;have c5:=Aa D.out 5;have f5:=Ab D.out 5;obtain⟨hT,X⟩:=Im (lo:=o.heap.size) D.out (m:=1) (vs:=#[.pointer (some ⟨ba,0,none⟩)]) (kids:=[a]) (x:=Co rk (txF t.data.toList i) a) rfl (by omega) (fun k y q=>by
    match k with
    | 0=>simp at q;subst q;exact⟨_,rfl,V.out.fr (Fr.refl _ _) fun _ _ q=>by omega⟩
    | k+1=>simp at q) a0
   (.inr (.inr (.inr (.inr (.inr (.inr (.inr (.inr (.inr (.inr (.inr ⟨C,HM.out a⟩)))))))))))
  have T5:Hid (Ah _ _ _ _):=hT;have F5:Hid (Fr (·≠f) B _):=X;have R5:Hid (RdF _ br t j (d+1)):=RdF.of R4.out X (Ne.symm z);have HE:Hid (r=.ok (Co rk (txF t.data.toList i) a,j)):=by simp only[okX,Option.some.injEq] at u;exact u.symm
  clear hT X u D R4 V;go_wp2_with (go_at_call 146;refine(HL.out _ _ R5.out).mono ?_;rintro e w6 ⟨rfl,hr,b⟩;have R6:Hid (RdF w6 br t j d):=hr;have F6:Hid (Fr (·≠br) _ w6):=b;clear hr b)
  go_ret
  exact Jp HB.out Z J.out (F4.out.two.trans (F5.out.mono fun _ q=>q.2)) T5.out HE.out R6.out F6.out
 have g3:((pcF t i).toList==[45])=false:=by rw[l];simpa [Lg] using q3
 have HM:Hid (∀a,Mv (pcF t i).data.toList [a] (Co rk (txF t.data.toList i) a)):=by
  intro a;rw[F];rcases ho with⟨rfl,ho⟩|⟨rfl,ho⟩
  ·refine .inr (.inr (.inr (.inr (.inr (.inr (.inr (.inl ⟨?_,a,rfl,rfl⟩)))))));simp only[Ek,List.contains_cons,List.contains_nil,Bool.or_false,Bool.or_eq_true,beq_iff_eq] at ho;simp only[En,List.mem_cons,List.not_mem_nil,or_false];rcases ho with ho|ho|ho|ho
   ·exact .inl ho
   ·exact .inr (.inl ho)
   ·exact .inr (.inr ho)
   ·exact absurd ho M
  ·refine .inr (.inr (.inr (.inr (.inr (.inr (.inr (.inr (.inl ⟨?_,a,rfl,rfl⟩))))))));simp only[Df,List.contains_cons,List.contains_nil,Bool.or_false,Bool.or_eq_true,beq_iff_eq] at ho;simp only[Dq,List.mem_cons,List.not_mem_nil,or_false];rcases ho with ho|ho|ho|ho|ho
   ·exact absurd ho q3
   ·exact .inl ho
   ·exact .inr (.inl ho)
   ·exact .inr (.inr ho)
   ·exact absurd ho N
 have E2:Hid (Ar w1 f A (pcF t i) ⟨#[]⟩ 0 (atF t.data.toList i) none 0 0):=H.out;have T:Hid (RdF w1 br t i d):=S.out;have Q:Hid (Fr (·≠br) w w1):=I.out;clear l F G M N q3 ho H S I;go_wp2_with fail
 rcases Du hd h with⟨Y,hk⟩|⟨rfl,rfl⟩
 case inr =>
  refine(Eg w1 br t i T.out).mono ?_;rintro e o ⟨rfl,rfl⟩;exact⟨rfl,Q.out,rfl⟩
 refine(Fm w1 br t i d T.out ht Y).mono ?_;rintro e o ⟨rfl,hr,b⟩;have U:Hid (RdF o br t (i+1) (d+1)):=hr;have O:Hid (Ar o f A (pcF t i) ⟨#[]⟩ 0 (atF t.data.toList i) none 0 0):=E2.out.of b z;have J:Hid (Fr (·≠br) w o):=Q.out.trans b;have a4:f<o.heap.size:=Ac O.out;clear hr b E2 Q T h;go_wp2_with fail
 rcases Ax hk with⟨⟨c,p⟩,K,rfl⟩|⟨a,j,K,u⟩
 ·refine(HS.out o rk (d+1) _ _ n (by omega) (HI.out.fr J.out) U.out K).mono ?_;rintro e B ⟨b,rfl⟩;exact⟨rfl,J.out.trans b,rfl⟩
 refine(HS.out o rk (d+1) _ _ n (by omega) (HI.out.fr J.out) U.out K).mono ?_;rintro e B ⟨b,⟨va,rfl,L⟩,hr⟩;have R4:Hid (RdF B br t j (d+1)):=hr;have D:Hid (Ar B f A (pcF t i) ⟨#[]⟩ 0 (atF t.data.toList i) none 0 0):=O.out.of b z;have F4:Hid (Fr (·≠br) o B):=b;have V:Hid (Ah (fun k=>o.heap.size<=k) B a va):=L;have a5:f<B.heap.size:=Ac D.out;have a0:=b.size;clear hr b L K hk O U;obtain⟨ba,rfl,-,-⟩:=V.out.ptr;have c5:=Aa D.out 5;have f5:=Ab D.out 5;obtain⟨hT,X⟩:=Im (lo:=o.heap.size) D.out (m:=1) (vs:=#[.pointer (some ⟨ba,0,none⟩)]) (kids:=[a]) (x:=Co rk (txF t.data.toList i) a) rfl (by omega) (fun k y q=>by
   match k with
   | 0=>simp at q;subst q;exact⟨_,rfl,V.out.fr (Fr.refl _ _) fun _ _ q=>by omega⟩
   | k+1=>simp at q) a0
  (.inr (.inr (.inr (.inr (.inr (.inr (.inr (.inr (.inr (.inr (.inr ⟨C,HM.out a⟩)))))))))))
 have T5:Hid (Ah _ _ _ _):=hT;have F5:Hid (Fr (·≠f) B _):=X;have R5:Hid (RdF _ br t j (d+1)):=RdF.of R4.out X (Ne.symm z);have HE:Hid (r=.ok (Co rk (txF t.data.toList i) a,j)):=by simp only[okX,Option.some.injEq] at u;exact u.symm
 clear hT X u D R4 V;go_wp2_with (go_at_call 146;refine(HL.out _ _ R5.out).mono ?_;rintro e w6 ⟨rfl,hr,b⟩;have R6:Hid (RdF w6 br t j d):=hr;have F6:Hid (Fr (·≠br) _ w6):=b;clear hr b)
 go_ret
 exact Jp HB.out Z J.out (F4.out.two.trans (F5.out.mono fun _ q=>q.2)) T5.out HE.out R6.out F6.out
def S2 (lo:Nat)(w:World)(br:Nat)(t:ByteArray)(d:Nat)(r:Except (Nat×Nat) (PX×Nat))(e:Ending)(w':World):Prop :=
 Fr (·≠br) w w'/\match r with
  | .ok (x,j)=>(∃v,e=.returned v/\Ah (fun k=>lo<=k) w' x v)/\RdF w' br t j d
  | .error (c,p)=>e=Flt c p
theorem Oj {br:Nat}{t:ByteArray}{self:Nat->Nat->Nat->RX PX}(hS:Ba br t self)(w:World)(lo d i lv:Nat)(x:PX)(v:Value)(hd:d<=24)(ht:t.size<=4000)(hI:Cd w br)(hr:RdF w br t i d)(hlo:lo<=w.heap.size)(hbl:br<lo)(hx:Ah (fun k=>lo<=k) w x v)(hlv:Ak (txF t.data.toList i)=lv)(hl0:lv≠0)
  (r:Except (Nat×Nat) (PX×Nat)) (h:bX (self (Ca lv) d (i+1)) (fun y j=>okX (B8 (txF t.data.toList i) x y) j)=some r) :
  Calls Tryz.prog 94 #[.pointer (some ⟨br,0,none⟩),v,Kf lv] w (S2 lo w br t d r):=by
 have HS:Hid (Ba br t self):=hS;have HI:Hid (Cd w br):=hI;have HR:Hid (RdF w br t i d):=hr;have a3:=Ac hr;have h1:=Aa hr 1;have h2:=Aa hr 2;clear hI hS hr;have mo:=follows;unfold Kf;rw[if_neg hl0];obtain⟨B,rfl,-,-⟩:=hx.ptr;have HX:Hid (Ah (fun k=>lo<=k) w x _):=hx;clear hx;go_enter Tryz.func94,Tryz.ntmps94
 go_wp2_with fail
 have G:Hid ((w.alloc (.cells #[.int .i64 (lv:Int),.int .i64 (Cv lv:Int),.int .i64 (Ca lv:Int)] 130)).heap[w.heap.size]?=some (.cells #[.int .i64 (lv:Int),.int .i64 (Cv lv:Int),.int .i64 (Ca lv:Int)] 130 (0,0))):=Af rfl;have Z:Hid (Fr (·≠br) w (w.alloc (.cells #[.int .i64 (lv:Int),.int .i64 (Cv lv:Int),.int .i64 (Ca lv:Int)] 130))):=(Fr.refl _ w).alloc _;have I:Hid (RdF (w.alloc (.cells #[.int .i64 (lv:Int),.int .i64 (Cv lv:Int),.int .i64 (Ca lv:Int)] 130)) br t i d):=RdF.of HR.out (P:=fun _=>True) ((Fr.refl _ w).alloc _) trivial;have X:Hid (Ah (fun k=>lo<=k) (w.alloc (.cells #[.int .i64 (lv:Int),.int .i64 (Cv lv:Int),.int .i64 (Ca lv:Int)] 130)) x (.pointer (some ⟨B,0,none⟩))):=HX.out.fr ((Fr.refl _ w).alloc _) fun _ _ q=>q;clear h1 h2 HR HX;generalize w.alloc (.cells #[.int .i64 (lv:Int),.int .i64 (Cv lv:Int),.int .i64 (Ca lv:Int)] 130)=w0 at G Z I X |-;obtain⟨u,C⟩:∃u,w.heap.size=u:=⟨_,rfl⟩;rw[C] at G a3 hlo |-;have H:Hid (w.heap.size=u):=C;clear C;have HO:Hid (∀W:World,Calls Tryz.prog 130 #[.string (pcF t i)] W fun e w'=>e=.returned (.int .i64 (Ks (pcF t i).data.toList:Int))/\Ad W w'):=fun W=>(Lm (pcF t i) W).mono fun e w' h=>⟨h.1,by rw[h.2];exact Ad.refl _⟩;have A:Hid (∀W,Ad w0 W->W.cell? ⟨br,1,none⟩=some (.int .i64 (atF t.data.toList i:Int))/\W.cell? ⟨br,2,none⟩=some (.string (pcF t i))):=by
  intro W g;have h:=RdF.of I.out (P:=fun _=>True) (Fr.grew g) trivial;exact⟨Aa h 1,Aa h 2⟩
 obtain⟨h1,h2⟩:=A.out w0 (Ad.refl _);have M:br<w0.heap.size:=Ac I.out;have K:u<w0.heap.size:=Ac G.out;go_region_held3 (fun w'=>w'.cell? ⟨br,1,none⟩=some (.int .i64 (atF t.data.toList i:Int))/\w'.cell? ⟨br,2,none⟩=some (.string (pcF t i))) (first|(constructor<;>assumption)|go_keep)
    ((go_at_call 130;refine(HO.out _).mono ?_;rintro e w' ⟨rfl,hg⟩;obtain⟨j0,j1⟩:=A.out _ ((Ad.refl w0).drew.trans hg);have U:Hid (Ad w0 w'):=(Ad.refl w0).drew.trans hg;have j2:br<w'.heap.size:=Nat.lt_of_lt_of_le M U.out.below.size;clear hg))
 obtain⟨b,n⟩:∃b,Ks (pcF t i).data.toList=b:=⟨_,rfl⟩;have a0:Hid (Ks (pcF t i).data.toList=b):=n;rw[n];have F:Hid (Ar (w'.alloc (.cells #[.int .i64 (b:Int),.string ⟨#[]⟩,.string ⟨#[]⟩,.int .i64 0,.int .i64 (atF t.data.toList i:Int),.slice none 0 0] 81)) w'.heap.size b ⟨#[]⟩ ⟨#[]⟩ 0 (atF t.data.toList i) none 0 0):=Af rfl;have l:Fr (fun _=>True) w0 (w'.alloc (.cells #[.int .i64 (b:Int),.string ⟨#[]⟩,.string ⟨#[]⟩,.int .i64 0,.int .i64 (atF t.data.toList i:Int),.slice none 0 0] 81)):=(Fr.grew U.out).alloc _;have F1:Hid (Fr (·≠br) w (w'.alloc (.cells #[.int .i64 (b:Int),.string ⟨#[]⟩,.string ⟨#[]⟩,.int .i64 0,.int .i64 (atF t.data.toList i:Int),.slice none 0 0] 81))):=Z.out.trans (l.mono fun _ _=>trivial);have R1:Hid (RdF (w'.alloc (.cells #[.int .i64 (b:Int),.string ⟨#[]⟩,.string ⟨#[]⟩,.int .i64 0,.int .i64 (atF t.data.toList i:Int),.slice none 0 0] 81)) br t i d):=RdF.of I.out l trivial;have X1:Hid (Ah (fun k=>lo<=k/\k<w0.heap.size) (w'.alloc (.cells #[.int .i64 (b:Int),.string ⟨#[]⟩,.string ⟨#[]⟩,.int .i64 0,.int .i64 (atF t.data.toList i:Int),.slice none 0 0] 81)) x (.pointer (some ⟨B,0,none⟩))):=X.out.fr (l.mono fun _ _=>trivial) fun _ h q=>⟨q,h⟩;have T:Hid ((w'.alloc (.cells #[.int .i64 (b:Int),.string ⟨#[]⟩,.string ⟨#[]⟩,.int .i64 0,.int .i64 (atF t.data.toList i:Int),.slice none 0 0] 81)).heap[u]?=_):=(l.block u K trivial).trans G.out;have HB:Hid (w0.heap.size<=w'.heap.size):=U.out.below.size;have XP:=X.out.ptr;clear h1 h2 A HO j0 j1 n U I Z X G l;generalize hW:w'.alloc _=w1 at F F1 R1 X1 T |-;clear hW;obtain⟨a,J⟩:∃a,w'.heap.size=a:=⟨_,rfl⟩;rw[J] at F HB j2 |-;clear J;have hB:=HB.out;have s:a≠br:=by omega
 obtain⟨a1,L,a7,a6⟩:=XP;obtain rfl:B=a1:=by simpa using L
 have a5:a<w1.heap.size:=Ac F.out;have HT:Hid (∀W:World,_):=fun W h=>K7 W br t i d h ht;go_wp2_with (go_at_call 114;refine(HT.out _ R1.out).mono ?_;rintro e o ⟨rfl,hr,f⟩;have R2:Hid (RdF o br t (i+1) d):=hr;have Q:Hid (Ar o a b ⟨#[]⟩ ⟨#[]⟩ 0 (atF t.data.toList i) none 0 0):=F.out.of f s;have F2:Hid (Fr (·≠br) w o):=F1.out.trans f;have X2:Hid (Ah (fun k=>lo<=k/\k<w0.heap.size) o x (.pointer (some ⟨B,0,none⟩))):=X1.out.fr (f.mono fun k q=>by omega) fun _ _ q=>q;have G2:Hid (o.heap[u]?=_):=(f.block u (Ac T.out) (by omega)).trans T.out;have c1:=Aa Q.out 1;have f1:=Ab Q.out 1;have q2:=Aa G2.out 2;clear hr f)
 have R:Hid (Ar (o.setCell ⟨a,1,none⟩ (.string (pcF t i))) a b (pcF t i) ⟨#[]⟩ 0 (atF t.data.toList i) none 0 0):=Q.out.op _;have V:Hid (RdF (o.setCell ⟨a,1,none⟩ (.string (pcF t i))) br t (i+1) d):=R2.out.setB (Ne.symm s) _;have E:Hid (Fr (·≠br) w (o.setCell ⟨a,1,none⟩ (.string (pcF t i)))):=F2.out.setB (by have:=H.out;simp;omega) _;have X3:Hid (Ah (fun k=>lo<=k/\k<w0.heap.size) (o.setCell ⟨a,1,none⟩ (.string (pcF t i))) x (.pointer (some ⟨B,0,none⟩))):=X2.out.fr ((Fr.refl _ _).set (by simp;omega) _) fun _ _ q=>q;have a4:a<(o.setCell ⟨a,1,none⟩ (.string (pcF t i))).heap.size:=Ac R.out;clear c1 f1 q2 Q R2 F2 X2 G2 F R1 F1 X1 T HT;generalize o.setCell ⟨a,1,none⟩ (.string (pcF t i))=w3 at R V E X3 a4 |-;have N:Ca lv<=12:=by
  have:=Gk (txF t.data.toList i);unfold Ca;split<;>omega
 have O:(pcF t i).data.toList=txF t.data.toList i:=Bm t i;rcases Ax h with⟨⟨c,p⟩,Y,rfl⟩|⟨y,j,Y,hk⟩
 ·refine(HS.out w3 (Ca lv) d _ _ N hd (HI.out.fr E.out) V.out Y).mono ?_;rintro e D ⟨f,rfl⟩;exact⟨rfl,E.out.trans f,rfl⟩
 refine(HS.out w3 (Ca lv) d _ _ N hd (HI.out.fr E.out) V.out Y).mono ?_;rintro e D ⟨f,⟨vy,rfl,hv⟩,hr⟩;have R4:Hid (RdF D br t j d):=hr;have S:Hid (Ar D a b (pcF t i) ⟨#[]⟩ 0 (atF t.data.toList i) none 0 0):=R.out.of f s;have F4:Hid (Fr (·≠br) w D):=E.out.trans f;have X4:Hid (Ah (fun k=>lo<=k/\k<w0.heap.size) D x (.pointer (some ⟨B,0,none⟩))):=X3.out.fr (f.mono fun k q=>by omega) fun _ _ q=>q;have Y4:Hid (Ah (fun k=>w3.heap.size<=k) D y vy):=hv;have a9:a<D.heap.size:=Ac S.out;have b0:=f.size;clear hr f hv Y h R V E X3;obtain⟨bb,rfl,-,-⟩:=Y4.out.ptr;have c5:=Aa S.out 5;have f5:=Ab S.out 5;have n:b=11\/b=12:=by
  have:=a0.out;unfold Ks at this;split at this<;>omega
 have a2:(pcF t i).data.toList∈E0.map Prod.fst:=by
  rw[O];refine Classical.byContradiction fun q=>?_;have:Ak (txF t.data.toList i)=0:=by unfold Ak;rw[Gn _ q];rfl
  omega
 go_wp2_with fail
 go_ret
 obtain rfl:r=.ok (B8 (txF t.data.toList i) x y,j):=by simp only[okX,Option.some.injEq] at hk;exact hk.symm
 obtain⟨hT,hF⟩:=Im (lo:=lo) S.out (m:=2) (vs:=#[.pointer (some ⟨B,0,none⟩),.pointer (some ⟨bb,0,none⟩)]) (kids:=[x,y]) (x:=B8 (txF t.data.toList i) x y) rfl (by omega) (fun k z q=>by
   match k with
   | 0=>simp at q;subst q;exact⟨_,rfl,X4.out.fr (Fr.refl _ _) fun _ _ q=>by omega⟩
   | 1=>simp at q;subst q;exact⟨_,rfl,Y4.out.fr (Fr.refl _ _) fun _ _ q=>by omega⟩
   | k+2=>simp at q) (by omega)
  (.inr (.inr (.inr (.inr (.inr (.inr (.inr (.inr (.inr (.inr (.inr ⟨n,.inl ⟨a2,x,y,rfl,by rw[O]⟩⟩)))))))))))
 have a8:=H.out;refine⟨F4.out.fresh (hF.mono fun _ q=>q.2) (by omega),⟨_,rfl,hT.fr (Fr.refl _ _) fun _ _ q=>by omega⟩,RdF.of R4.out hF (Ne.symm s)⟩
end Go.Proofs.YtjbfcadeapphbaaGreatDoor.Sx
namespace Go.Proofs.YtjbfcadeapphbaaGreatDoor.Sx
set_option maxRecDepth 100000
set_option maxHeartbeats 1000000
open Go.RowKit Go.Sort
attribute [local go_sem] Il
theorem Ws (a b:Value)(w:World):(Instr.field 108 (.agg #[a,b]) 1).run Tryz.prog w=.ok b w:=by kernel_rfl
attribute [local go_sem] Ws
theorem Qe {P:Nat->Prop}{w:World}{sort:Nat}{op nm:ByteArray}{n:Int}{at':Nat}{pa:Option Addr}{len cap:Nat}{kids:List PX}{x:PX}(hrow:Bw P w (Ah P w) pa len kids)(hp:P w.heap.size)(hm:Oi sort op.data.toList nm.data.toList n kids x) :
  Ah P (w.alloc (.cells #[.int .i64 (sort:Int),.string op,.string nm,.int .i64 n,.int .i64 (at':Int),.slice pa len cap] 81)) x (.pointer (some ⟨w.heap.size,0,none⟩)) :=
 Ah.node ⟨w.heap.size,sort,op,nm,n,at',pa,len,cap,kids,rfl,hp,Af rfl,Bw.fr ((Fr.refl P w).alloc _) (fun _ _ h=>h.fr ((Fr.refl P w).alloc _) fun _ _ q=>q) (fun _ _ q=>q) hrow,hm⟩
theorem dL {P:Nat->Prop}{w:World}{vs:Array Value}{kids:List PX}{m:Nat}(hm:m=kids.length)(hm4:m<=4294967296)(hk:∀(i:Nat)(x:PX),kids[i]?=some x->∃v,vs[i]?=some v/\Ah P w x v)(hp:P w.heap.size) :
  Bw P (w.alloc (.cells vs 37)) (Ah P (w.alloc (.cells vs 37))) (some ⟨w.heap.size,0,none⟩) m kids:=by
 have a:(w.alloc (.cells vs 37)).heap[w.heap.size]?=some (.cells vs 37 (0,0)):=Af rfl;refine⟨hm,hm4,.inr ⟨w.heap.size,0,rfl,Ac a,hp,fun i x q=>?_⟩⟩;obtain⟨v,c,b⟩:=hk i x q;exact⟨v,by rw[Nat.zero_add,Aa a];exact c,b.fr ((Fr.refl P w).alloc _) fun _ _ q=>q⟩
theorem Ol (w:World)(br:Nat)(t:ByteArray)(lo d i:Nat)(x:PX)(v:Value)(ht:t.size<=4000)(hr:RdF w br t i d)(hlo:lo<=w.heap.size)(hbl:br<lo)(hx:Ah (fun k=>lo<=k) w x v)
  (r:Except (Nat×Nat) (PX×Nat)) (h:bX (Au (tkF t.data.toList) (i+1)) (fun n j=>okX (dAt x (Fg n)) j)=some r) :
  Calls Tryz.prog 150 #[.pointer (some ⟨br,0,none⟩),v] w (S2 lo w br t d r):=by
 have F:Hid (Calls _ _ _ _ _):=Dc w br t i d hr ht;have y:Hid (∀(W:World)(q:Except (Nat×Nat) (List UInt8×Nat)),_):=fun W q h=>Dy W br t (i+1) d h ht q;have R:=Ac hr;have S:=Aa hr 1;clear hr;have U:=follows;obtain⟨s,rfl,N,O⟩:=hx.ptr;have G:Hid (Ah (fun k=>lo<=k) w x _):=hx;clear hx;go_enter Tryz.func150,Tryz.ntmps150
 go_wp2_with (first|(go_at_call 60;refine F.out.mono ?_;rintro e D ⟨rfl,hr,b⟩;have B:Hid (RdF D br t (i+1) d):=hr;have u:Hid (Fr (·≠br) w D):=b;have H:Hid (Ah (fun k=>lo<=k) D x (.pointer (some ⟨s,0,none⟩))):=G.out.fr (b.mono fun k q=>by omega) fun _ _ q=>q;clear hr b))
 rcases Ax h with⟨⟨c,p⟩,o,rfl⟩|⟨n,j,o,I⟩
 ·refine(y.out _ _ B.out o).mono ?_;rintro e a ⟨b,rfl⟩;exact⟨rfl,u.out.trans b,rfl⟩
 refine(y.out _ _ B.out o).mono ?_;rintro e a ⟨b,rfl,hr⟩;have J:Hid (RdF a br t j d):=hr;have E:Hid (Fr (·≠br) w a):=u.out.trans b;have K:Hid (Ah (fun k=>lo<=k) a x (.pointer (some ⟨s,0,none⟩))):=H.out.fr (b.mono fun k q=>by omega) fun _ _ q=>q;have A:Hid (n=txF t.data.toList (i+1)/\j=i+1+1):=Hk o;have C:(pcF t (i+1)).data.toList=txF t.data.toList (i+1):=Bm t (i+1);have T:=E.out.size;clear b hr o h y F B u H G;go_wp2_with fail
 go_ret
 obtain rfl:r=.ok (dAt x (Fg n),j):=by simp only[okX,Option.some.injEq] at I;exact I.symm
 have L:=Qe (P:=fun k=>lo<=k) (w:=a.alloc (.cells #[.string (pcF t (i+1)),.int .i64 (atF t.data.toList (i+1):Int)] 108)) (sort:=1) (op:=⟨#[]⟩) (nm:=pcF t (i+1)) (n:=0) (at':=atF t.data.toList (i+1)) (pa:=none) (len:=0) (cap:=0) (kids:=[]) (x:=Fg n) (Hd _) (by simp;omega) (.inr (.inl ⟨rfl,by rw[C,<- A.out.1]⟩));have M:=K.out.fr (((Fr.refl _ a).alloc (.cells #[.string (pcF t (i+1)),.int .i64 (atF t.data.toList (i+1):Int)] 108)).alloc (.cells #[.int .i64 ((1:Nat):Int),.string ⟨#[]⟩,.string (pcF t (i+1)),.int .i64 0,.int .i64 (atF t.data.toList (i+1):Int),.slice none 0 0] 81)) (Q:=fun k=>lo<=k) fun _ _ q=>q;have l:=dL (m:=2) (kids:=[x,Fg n]) (vs:=#[.pointer (some ⟨s,0,none⟩),.pointer (some ⟨a.heap.size+1,0,none⟩)]) rfl (by omega) (fun k z q=>by
   match k with
   | 0=>simp at q;subst q;exact⟨_,rfl,M⟩
   | 1=>simp at q;subst q;exact⟨_,rfl,by simpa using L⟩
   | k+2=>simp at q) (by simp;omega)
 have f:=Qe (sort:=12) (op:=⟨#[97,116]⟩) (nm:=⟨#[]⟩) (n:=0) (at':=atF t.data.toList i) (cap:=2) (x:=dAt x (Fg n)) l (by simp;omega) (.inr (.inr (.inr (.inr (.inr (.inr (.inr (.inr (.inr (.inr (.inr ⟨.inr rfl,.inr (.inr (.inr (.inr (.inl ⟨rfl,x,Fg n,rfl,rfl⟩))))⟩)))))))))));have g:=((((Fr.refl (fun _=>True) a).alloc (.cells #[.string (pcF t (i+1)),.int .i64 (atF t.data.toList (i+1):Int)] 108)).alloc (.cells #[.int .i64 ((1:Nat):Int),.string ⟨#[]⟩,.string (pcF t (i+1)),.int .i64 0,.int .i64 (atF t.data.toList (i+1):Int),.slice none 0 0] 81)).alloc (.cells #[.pointer (some ⟨s,0,none⟩),.pointer (some ⟨a.heap.size+1,0,none⟩)] 37)).alloc (.cells #[.int .i64 ((12:Nat):Int),.string ⟨#[97,116]⟩,.string ⟨#[]⟩,.int .i64 0,.int .i64 (atF t.data.toList i:Int),.slice (some ⟨a.heap.size+1+1,0,none⟩) 2 2] 81);refine⟨E.out.trans (g.mono fun _ _=>trivial),⟨_,rfl,?_⟩,RdF.of J.out g trivial⟩;simpa using f
end Go.Proofs.YtjbfcadeapphbaaGreatDoor.Sx
namespace Go.Proofs.YtjbfcadeapphbaaGreatDoor.Sx
set_option maxRecDepth 100000
set_option maxHeartbeats 2000000
open Go.RowKit Go.Sort
theorem gM:(Tryz.prog.info? 37).map (fun i=>(i.zero,i.size,i.bytes))=some (some (.pointer none),1,8):=by kernel_rfl
def LSt (w:World)(lo:Nat)(sl:Value)(es:List PX):Prop :=
 ∃vs,w.ownsRow lo 37 1 sl es.length vs/\∀(i:Nat)(x:PX),es[i]?=some x->∃v,vs[i]?=some v/\Ah (fun k=>lo<=k/\sl.ownBlock≠some k) w x v
theorem Mx {w w':World}{base:Nat}{sl:Value}{n:Nat}{vs:List Value}(h:w.ownsRow base 37 1 sl n vs)(hb:∀g,sl.ownBlock=some g->base<=g->g<w.heap.size->w'.heap[g]?=w.heap[g]?):w'.ownsRow base 37 1 sl n vs:=by
 refine⟨h.1,?_⟩;rcases h.2 with f|⟨g,a,b,e,c,d,r⟩
 ·exact .inl f
 ·exact .inr ⟨g,a,b,e,c,(hb g (by rw[e];rfl) c (Ac d)).trans d,r⟩
theorem LSt.nil (w:World)(lo:Nat):LSt w lo (.slice none 0 0) []:=⟨[],World.ownsRow_nil _ _ _ _,fun i x q=>by simp at q⟩
theorem LSt.fr {w w':World}{lo br:Nat}{sl:Value}{es:List PX}(h:LSt w lo sl es)(f:Fr (·≠br) w w')(hbr:br<lo):LSt w' lo sl es:=by
 obtain⟨e,a,b⟩:=h;refine⟨e,Mx a (fun g _ hg hlt=>f.block g hlt (by omega)),fun i x q=>?_⟩;obtain⟨v,d,c⟩:=b i x q;exact⟨v,d,c.fr (f.mono fun k hk=>by have:=hk.1;omega) fun _ _ q=>q⟩
theorem LSt.row {w:World}{lo:Nat}{sl:Value}{es:List PX}(h:LSt w lo sl es)(hl:es.length<=4294967296):∃a len cap,sl=.slice a len cap/\Bw (fun k=>lo<=k) w (Ah (fun k=>lo<=k) w) a len es:=by
 obtain⟨r,e,f⟩:=h;rcases e.2 with⟨rfl,o⟩|⟨g,cap,d,rfl,l,c,n,_,p,m⟩
 ·exact⟨none,0,0,rfl,by omega,by omega,.inl rfl⟩
 ·refine⟨_,es.length,cap,rfl,rfl,hl,.inr ⟨g,0,rfl,Ac c,l,fun i x q=>?_⟩⟩;obtain⟨v,b,j⟩:=f i x q;refine⟨v,?_,j.fr (Fr.refl _ _) fun _ _ q=>q.1⟩;rw[Nat.zero_add,Aa c];rw[<- m,List.getElem?_take] at b;split at b
  ·simpa using b
  ·simp at b
theorem LSt.push {w w1 w2:World}{lo g cap:Nat}{es:List PX}{sl:Value}{vs:List Value}{x:PX}{v:Value}
  (h2:∀(i:Nat)(x:PX),es[i]?=some x->∃v,vs[i]?=some v/\Ah (fun k=>lo<=k/\sl.ownBlock≠some k) w1 x v) (hvl:vs.length=es.length)
  (hx:Ah (fun k=>w.heap.size<=k) w1 x v) (hlo:lo<=w.heap.size) (hsl:∀q,sl.ownBlock=some q->q<w.heap.size)
  (ho:w2.ownsRow lo 37 1 (.slice (some ⟨g,0,none⟩) (es.length+1) cap) (es.length+1) (vs++[v])) (hg:w1.grownBy w2 sl.ownBlock) (hat:sl.ownBlock=some g\/w1.heap.size<=g) :
  LSt w2 lo (.slice (some ⟨g,0,none⟩) (es.length+1) cap) (es++[x]):=by
 have a:∀(z:PX)(q:Value),Ah (fun k=>lo<=k/\sl.ownBlock≠some k) w1 z q->Ah (fun k=>lo<=k/\(Value.slice (some ⟨g,0,none⟩) (es.length+1) cap).ownBlock≠some k) w2 z q:=by
  intro z q j;have c:Fr (fun k=>lo<=k/\sl.ownBlock≠some k) w1 w2:=⟨hg.os,hg.tape,hg.output,hg.size,fun k hk hp=>hg.block k hk (fun e=>hp.2 e.symm)⟩;refine j.fr c fun k hk hp=>⟨hp.1,fun e=>?_⟩;simp only[Value.ownBlock,Option.some.injEq] at e;subst e;rcases hat with q|q
  ·exact hp.2 q
  ·omega
 refine⟨vs++[v],by rw[List.length_append];exact ho,fun i y q=>?_⟩;by_cases f:i<es.length
 ·rw[List.getElem?_append_left f] at q;obtain⟨l,h,d⟩:=h2 i y q;exact⟨l,by rw[List.getElem?_append_left (by omega)];exact h,a _ _ d⟩
 ·have b:i=es.length:=by
   have:=(List.getElem?_eq_some_iff.1 q).1;simp at this;omega
  subst b;rw[List.getElem?_append_right (Nat.le_refl _)] at q;simp at q;subst q;exact⟨v,by rw[List.getElem?_append_right (by omega)];simp[hvl],a _ _ (hx.fr (Fr.refl _ _) fun k _ hk=>⟨by omega,fun e=>by have:=hsl k e;omega⟩)⟩
def cK (w:World)(br:Nat)(t:ByteArray)(d:Nat)(r:Except (Nat×Nat) (List PX×Nat))(e:Ending)(w':World):Prop :=
 Fr (·≠br) w w'/\match r with
  | .ok (l,j)=>(∃a len cap,e=.returned (.slice a len cap)/\Bw (fun k=>w.heap.size<=k) w' (Ah (fun k=>w.heap.size<=k) w') a len l)/\RdF w' br t j d
  | .error (c,p)=>e=Flt c p
def Zi {β:Type}(K:Nat->Tk)(cl:List UInt8)(l:List β)(j:Nat)(r:Except (Nat×Nat) (List β×Nat)):Prop :=
 ((K j).tx==cl)=true/\r=.ok (l,j+1)\/((K j).tx==cl)=false/\r=.error (1,(K j).at')
theorem Qf {β:Type}{K:Nat->Tk}{cl:List UInt8}{l:List β}{j:Nat}{k:Nat->RX (List β)}{r:Except (Nat×Nat) (List β×Nat)}(hcl:(([44]:List UInt8)==cl)=false)
  (h:(if (K j).tx==cl then okX l (j+1) else B7 K [44] j k)=some r):((K j).tx==[44])=true/\k (j+1)=some r\/((K j).tx==[44])=false/\Zi K cl l j r:=by
 cases c:(K j).tx==[44] with
 | true =>
  have d:(K j).tx=[44]:=by simpa using c
  rw[d,hcl,if_neg (by simp)] at h;rcases Bv h with⟨_,a⟩|⟨a,_⟩
  ·exact .inl ⟨rfl,a⟩
  ·rw[c] at a;simp at a
 | false =>
  refine .inr ⟨rfl,?_⟩;cases b:(K j).tx==cl with
  | true =>
   rw[b,if_pos rfl] at h;simp only[okX,Option.some.injEq] at h;exact .inl ⟨b,h.symm⟩
  | false =>
   rw[b,if_neg (by simp)] at h;rcases Bv h with⟨a,_⟩|⟨_,a⟩
   ·rw[c] at a;simp at a
   ·exact .inr ⟨b,a⟩
def mP (w:World)(br:Nat)(t:ByteArray)(d:Nat)(cl:List UInt8)(r:Except (Nat×Nat) (List PX×Nat))(e:Ending)(w':World):Prop :=
 Fr (·≠br) w w'/\((∃c p,r=.error (c,p)/\e=Flt c p)\/∃l j a len cap,e=.returned (.slice a len cap)/\Bw (fun k=>w.heap.size<=k) w' (Ah (fun k=>w.heap.size<=k) w') a len l/\RdF w' br t j d/\Zi (tkF t.data.toList) cl l j r)
theorem LSt.one {w w2:World}{x:PX}{v:Value}(hx:Ah (fun k=>w.heap.size<=k) w2 x v)(hz:w.heap.size<=w2.heap.size) :
  LSt (w2.alloc (.cells #[v] 37)) w.heap.size (.slice (some ⟨w2.heap.size,0,none⟩) 1 1) [x]:=by
 have a:(w2.alloc (.cells #[v] 37)).heap[w2.heap.size]?=some (.cells #[v] 37 (0,0)):=Af rfl;refine⟨[v],⟨rfl,.inr ⟨w2.heap.size,1,#[v],rfl,hz,a,Nat.le_refl _,by unfold maxLen;omega,rfl,rfl⟩⟩,fun i y q=>?_⟩
 match i,q with
 | 0,q =>
  simp at q;subst q;refine⟨v,rfl,hx.fr ((Fr.refl _ w2).alloc _) fun k hk hp=>⟨hp,fun e=>?_⟩⟩;simp only[Value.ownBlock,Option.some.injEq] at e;omega
 | i+1,q=>simp at q
theorem Uh {br:Nat}{t:ByteArray}{self:Nat->Nat->Nat->RX PX}(hS:Ba br t self)(w:World)(d i m:Nat)(cl:List UInt8)(hcl:(([44]:List UInt8)==cl)=false)(hd:d<=24)(ht:t.size<=4000)(hm:m<=1000000)(hI:Cd w br)(hr:RdF w br t i d)
  (r:Except (Nat×Nat) (List PX×Nat)) (h:A2 (tkF t.data.toList) cl (self 0 d) m [] i=some r) :
  Calls Tryz.prog 175 #[.pointer (some ⟨br,0,none⟩),.func (.func 29) #[.pointer (some ⟨br,0,none⟩)] #[]] w (mP w br t d cl r):=by
 have HS:Hid (Ba br t self):=hS;have HI:Hid (Cd w br):=hI;have HK:Hid (∀(W:World)(k:Nat)(b:Bool),_):=fun W k b h=>Fz W br t ⟨#[44]⟩ k d h ht b;have HC:Hid ((([44]:List UInt8)==cl)=false):=hcl;have D:=Ac hr;have HR:Hid (RdF w br t i d):=hr;clear hI hS hr hcl;have mo:=follows;obtain⟨N,a8,b1,b2,b3⟩:∃N,Tryz.prog.info? 37=some N/\N.zero=some (.pointer none)/\N.size=1/\N.bytes=8:=by
  have:=gM;cases hq:Tryz.prog.info? 37 with
  | none=>rw[hq] at this;simp at this
  | some j=>rw[hq] at this;simp at this;exact⟨j,rfl,this.1,this.2.1,this.2.2⟩
 obtain⟨m,rfl⟩:∃m',m=m'+1:=by
  cases m with
  | zero=>exact absurd h (by simp[A2])
  | succ m=>exact⟨m,rfl⟩
 rw[A2] at h;go_enter Tryz.func175,Tryz.ntmps175
 go_wp2_with fail
 rcases Ax h with⟨⟨c,p⟩,E,rfl⟩|⟨x,j2,E,hk⟩
 ·refine(Bb HS.out w d _ _ hd HI.out HR.out E).mono ?_;rintro e A ⟨l,rfl⟩;exact⟨rfl,l,.inl ⟨_,_,rfl,rfl⟩⟩
 refine(Bb HS.out w d _ _ hd HI.out HR.out E).mono ?_;rintro e A ⟨l,⟨v,rfl,hv⟩,hr⟩;have R2:Hid (RdF A br t j2 d):=hr;have F2:Hid (Fr (·≠br) w A):=l;have T2:Hid (Ah (fun k=>w.heap.size<=k) A x v):=hv;have P2:Hid (_=some r):=hk;have K:=l.size;clear l hr E hv hk h HR;obtain⟨bx,rfl,-,-⟩:=T2.out.ptr;go_wp2_with fail
 have L3:Hid (LSt (A.alloc (.cells #[.pointer (some ⟨bx,0,none⟩)] 37)) w.heap.size (.slice (some ⟨A.heap.size,0,none⟩) 1 1) [x]):=LSt.one T2.out K;have F3:Hid (Fr (·≠br) w (A.alloc (.cells #[.pointer (some ⟨bx,0,none⟩)] 37))):=F2.out.alloc _;have R3:Hid (RdF (A.alloc (.cells #[.pointer (some ⟨bx,0,none⟩)] 37)) br t j2 d):=RdF.of R2.out ((Fr.refl (fun _=>True) A).alloc _) trivial;clear F2 R2 T2 K;generalize A.alloc (.cells #[.pointer (some ⟨bx,0,none⟩)] 37)=w3 at L3 F3 R3 |-;generalize a5:Value.slice (some ⟨A.heap.size,0,none⟩) 1 1=s5 at L3 |-;clear a5;go_loopg [5] (m) (fun f s5 wr=>∃(j:Nat)(a:List PX),a.length+f<=1000000/\Hid (RdF wr br t j d)/\Hid (LSt wr w.heap.size s5 a)/\Hid ((if ((tkF t.data.toList) j).tx==cl then okX a (j+1) else B7 (tkF t.data.toList) [44] j fun j=>A2 (tkF t.data.toList) cl (self 0 d) f a j)=some r)/\Hid (Fr (·≠br) w wr))
 case atStart=>exact⟨j2,[x],by simp;omega,R3,L3,P2,F3⟩
 case round =>
  clear R3 L3 P2 F3;obtain⟨j,a,b5,R1,L1,P1,F1⟩:=hrel;rcases Qf HC.out P1.out with⟨X,hp⟩|⟨X,hp⟩
  case inr =>
   have P:Hid (Zi (tkF t.data.toList) cl a j r):=hp;have C:Hid (Calls _ _ _ _ _):=HK.out wr j false R1.out X;clear X hp P1 R1;go_wp2_with (go_at_call 112;refine C.out.mono ?_;rintro e s ⟨rfl,hr,l⟩;have T:Hid (RdF s br t j d):=hr;have F:Hid (Fr (·≠br) w s):=F1.out.trans l;have R:Hid (LSt s w.heap.size _ a):=L1.out.fr l D;clear hr l)
   go_ret
   obtain⟨a4,l4,c4,Z,I⟩:=R.out.row (by omega);exact⟨F.out,.inr ⟨a,j,a4,l4,c4,by rw[Z];rfl,I,T.out,P.out⟩⟩
  have C:Hid (Calls _ _ _ _ _):=HK.out wr j true R1.out X;have P:Hid (A2 (tkF t.data.toList) cl (self 0 d) gk a (j+1)=some r):=hp;clear X hp P1 R1;obtain⟨f,rfl⟩:∃f,gk=f+1:=by
   cases gk with
   | zero=>exact absurd P.out (by simp[A2])
   | succ f=>exact⟨f,rfl⟩
  go_wp2_with (go_at_call 112;refine C.out.mono ?_;rintro e s ⟨rfl,hr,l⟩;have T:Hid (RdF s br t (j+1) d):=hr;have F:Hid (Fr (·≠br) w s):=F1.out.trans l;have R:Hid (LSt s w.heap.size u5 a):=L1.out.fr l D;clear hr l)
  have hp:=P.out;rw[A2] at hp;clear P C L1 F1;rcases Ax hp with⟨⟨c,p⟩,E,rfl⟩|⟨y,j3,E,hk⟩
  ·refine(Bb HS.out s d _ _ hd (HI.out.fr F.out) T.out E).mono ?_;rintro e B ⟨l,rfl⟩;exact⟨rfl,F.out.trans l,.inl ⟨_,_,rfl,rfl⟩⟩
  refine(Bb HS.out s d _ _ hd (HI.out.fr F.out) T.out E).mono ?_;rintro e B ⟨l,⟨v,rfl,hv⟩,hr⟩;have b0:=F.out.size;have R5:Hid (RdF B br t j3 d):=hr;have G:Hid (Fr (·≠br) w B):=F.out.trans l;have T5:Hid (Ah (fun k=>s.heap.size<=k) B y v):=hv;have P5:Hid (_=some r):=hk;have L5:=R.out.fr l D;have Y:∀q,u5.ownBlock=some q->q<s.heap.size:=by
   obtain⟨vs,h1,-⟩:=R.out;intro q hq;exact(h1.lt q hq).2
  obtain⟨vs,M,h2⟩:=L5;have a2:vs.length=a.length:=by have:=M.1;omega
  have HO:Hid (B.ownsRow w.heap.size 37 1 u5 a.length vs):=M;have H2:Hid (∀(i:Nat)(x:PX),a[i]?=some x->_):=h2;have Q:Hid (∀q,u5.ownBlock=some q->q<s.heap.size):=Y;have K:=G.out.size;have b6:=l.size;clear l hr E hv hk M h2 Y T F R hp;obtain⟨H,rfl,-,-⟩:=T5.out.ptr;have O:Hid ((B.alloc (.cells #[.pointer (some ⟨H,0,none⟩)] 37)).ownsRow w.heap.size 37 1 u5 a.length vs):=HO.out.alloc _;go_wp2_with (at_builtin;refine wpList_append_lies _ rfl _ _ 79 rfl _ 37 N _ 1 8 Tryz.underlying79 a8 b1 b2 b3 rfl (by decide) u5 _ vs rfl O.out _ 1 1 [.pointer (some ⟨H,0,none⟩)] rfl rfl ?q1 ?q2 (by decide) ?q3 ?q4 ?q5 (B.heap.size+1) ?q6 ?_)
  case q1 =>
   intro k u hk
   match k,hk with
   | 0,hk=>simp at hk;subst hk;simp[Addr.add]
   | k+1,hk=>simp at hk
  case q2 =>
   intro u hu;simp only[List.mem_cons,List.not_mem_nil,or_false] at hu;subst hu;rfl
  case q3=>unfold maxLen;omega
  case q4=>omega
  case q5=>simp;omega
  case q6=>simp
  intro g U w6 M L V a9;have o:B.grownBy w6 u5.ownBlock:=by
   have a1:=World.grownBy_alloc B (.cells #[.pointer (some ⟨H,0,none⟩)] 37) u5.ownBlock;refine⟨L.os,L.tape,L.output,?_,fun k hk hne=>?_⟩
   ·have:=L.size;simp at this;omega
   ·rw[L.block k (by simp;omega) hne,a1.block k hk hne]
  have S:Hid (LSt w6 w.heap.size (.slice (some ⟨g,0,none⟩) (a.length+1) U) (a++[y])):=LSt.push H2.out a2 T5.out b0 Q.out M o (by rcases V with q|q;exact .inl q;exact .inr (by omega));have n:Fr (fun k=>u5.ownBlock≠some k) B w6:=⟨o.os,o.tape,o.output,o.size,fun k hk hp=>o.block k hk (fun e=>hp e.symm)⟩;have z:∀k,k<w.heap.size->u5.ownBlock≠some k:=fun k hk e=>by have:=(HO.out.lt k e).1;omega
  have F6:Hid (Fr (·≠br) w w6):=⟨n.os.trans G.out.os,n.tape.trans G.out.tape,n.output.trans G.out.output,Nat.le_trans G.out.size n.size,fun k hk hq=>(n.block k (by omega) (z k hk)).trans (G.out.block k hk hq)⟩;have R6:Hid (RdF w6 br t j3 d):=RdF.of R5.out n (z br D);clear M L V a9 o n z H2 HO Q O T5 R5 G;have b4:a.length+1+f<=1000000:=by omega
  generalize hA:a++[y]=acc2 at S P5;have a3:acc2.length=a.length+1:=by rw[<- hA];simp
  clear hA;rw[<- a3] at S |-;generalize a7:Value.slice (some ⟨g,0,none⟩) acc2.length U=sl at S |-;clear a7 a2;obtain⟨a6,l6,c6,a0,J⟩:=S.out.row (by omega);clear J;subst a0;go_wp2_with fail
  go_roundg f
  case measure=>omega
  case rel=>exact⟨j3,acc2,by omega,R6,S,P5,F6⟩
theorem S3 {br:Nat}{t:ByteArray}{self:Nat->Nat->Nat->RX PX}(hS:Ba br t self)(w:World)(d i m:Nat)(cl:ByteArray)(hcl:(([44]:List UInt8)==cl.data.toList)=false)(hd:d<=24)(ht:t.size<=4000)(hm:m<=1000000)(hI:Cd w br)(hr:RdF w br t i d)
  (r:Except (Nat×Nat) (List PX×Nat)) (h:A2 (tkF t.data.toList) cl.data.toList (self 0 d) m [] i=some r) :
  Calls Tryz.prog 168 #[.pointer (some ⟨br,0,none⟩),.func (.func 29) #[.pointer (some ⟨br,0,none⟩)] #[],.string cl] w (cK w br t d r):=by
 have C:Hid (Calls _ _ _ _ _):=Uh hS w d i m cl.data.toList hcl hd ht hm hI hr r h;have y:Hid (∀(W:World)(k:Nat)(b:Bool),_):=fun W k b h=>C3 W br t cl k d h ht b;have I:=Ac hr;clear hI hS hr h hcl;have J:=follows;go_enter Tryz.func168,Tryz.ntmps168
 go_wp2_with fail
 refine C.out.mono ?_;rintro e s ⟨f,⟨c,p,rfl,rfl⟩|⟨l,j,a,n,A,rfl,g,hr,o⟩⟩
 ·exact⟨rfl,f,rfl⟩
 have z:Hid (RdF s br t j d):=hr;have x:Hid (Fr (·≠br) w s):=f;have D:Hid (Bw (fun k=>w.heap.size<=k) s (Ah (fun k=>w.heap.size<=k) s) a n l):=g;clear f hr g C;rcases o with⟨v,o⟩|⟨v,o⟩
 case inr =>
  obtain rfl:=o;go_wp2_with fail
  refine(y.out s j false z.out v).mono ?_;rintro e u ⟨f,⟨q,-⟩|⟨-,rfl⟩⟩
  ·simp at q
  ·exact⟨rfl,x.out.trans f,rfl⟩
 have F:Hid (r=.ok (l,j+1)):=o;have B:Hid (((tkF t.data.toList j).tx==cl.data.toList)=true):=v;clear o v;go_wp2_with fail
 refine(y.out s j true z.out B.out).mono ?_;rintro e u ⟨f,⟨-,rfl,hr⟩|⟨q,-⟩⟩
 case inr=>simp at q
 have G:Hid (RdF u br t (j+1) d):=hr;have E:Hid (Fr (·≠br) w u):=x.out.trans f;have H:Hid (Bw (fun k=>w.heap.size<=k) u (Ah (fun k=>w.heap.size<=k) u) a n l):=Bw.fr (f.mono fun k q=>by omega) (fun _ _ h=>h.fr (f.mono fun k q=>by omega) fun _ _ q=>q) (fun _ _ q=>q) D.out;clear f hr z x D y B;go_wp2_with fail
 go_ret
 rw[F.out];exact⟨E.out,⟨a,n,A,rfl,H.out⟩,G.out⟩
theorem Mz {br:Nat}{t:ByteArray}{self:Nat->Nat->Nat->RX PX}(hS:Ba br t self)(w:World)(d i m:Nat)(cl:ByteArray)(hcl:(([44]:List UInt8)==cl.data.toList)=false)(hd:d<=24)(ht:t.size<=4000)(hm:m<=1000000)(hI:Cd w br)(hr:RdF w br t i d)
  (r:Except (Nat×Nat) (List PX×Nat)) (h:Lh (tkF t.data.toList) cl.data.toList (self 0 d) m i=some r) :
  Calls Tryz.prog 163 #[.pointer (some ⟨br,0,none⟩),.string cl] w (cK w br t d r):=by
 have D:Hid (Ba br t self):=hS;have A:Hid (Cd w br):=hI;have y:Hid (∀(b:Bool),_):=fun b=>Fz w br t cl i d hr ht b;clear hI hS hr;have G:=follows;unfold Lh at h;cases o:(tkF t.data.toList i).tx==cl.data.toList with
 | true =>
  rw[o,if_pos rfl] at h;have C:Hid (r=.ok ([],i+1)):=by simp only[okX,Option.some.injEq] at h;exact h.symm
  have f:Hid (Calls _ _ _ _ _):=y.out true o;clear h o y;go_enter Tryz.func163,Tryz.ntmps163
  go_wp2_with (go_at_call 112;refine f.out.mono ?_;rintro e s ⟨rfl,hr,g⟩;have z:Hid (RdF s br t (i+1) d):=hr;have n:Hid (Fr (·≠br) w s):=g;clear hr g)
  go_ret
  rw[C.out];exact⟨n.out,⟨none,0,0,rfl,Hd _⟩,z.out⟩
 | false =>
  rw[o,if_neg (by simp)] at h;have f:Hid (Calls _ _ _ _ _):=y.out false o;clear o y;go_enter Tryz.func163,Tryz.ntmps163
  go_wp2_with (go_at_call 112;refine f.out.mono ?_;rintro e s ⟨rfl,hr,g⟩;have z:Hid (RdF s br t i d):=hr;have n:Hid (Fr (·≠br) w s):=g;clear hr g)
  refine(S3 D.out s d i m cl hcl hd ht hm (A.out.fr n.out) z.out r h).mono ?_;rintro e E ⟨g,v⟩;have F:=n.out.size;rcases r with⟨c,p⟩|⟨l,j⟩
  ·obtain rfl:=v;exact⟨rfl,n.out.trans g,rfl⟩
  ·obtain⟨⟨a,x,u,rfl,k⟩,hr⟩:=v;have B:Hid (cK w br t d (.ok (l,j)) (.returned (.slice a x u)) E):=⟨n.out.trans g,⟨a,x,u,rfl,Bw.fr (Fr.refl _ _) (fun _ _ h=>h.fr (Fr.refl _ _) fun _ _ q=>by omega) (fun _ _ q=>by omega) k⟩,hr⟩;clear g k hr f;go_wp2_with fail
   go_ret
   exact B.out
theorem Kt {br:Nat}{t:ByteArray}{self:Nat->Nat->Nat->RX PX}(hS:Ba br t self)(w:World)(d i m:Nat)(cl:ByteArray)(hcl:(([44]:List UInt8)==cl.data.toList)=false)(hd:d<=24)(ht:t.size<=4000)(hm:m<=1000000)(hI:Cd w br)(hr:RdF w br t i d)
  (r:Except (Nat×Nat) (List PX×Nat)) (h:Dh (tkF t.data.toList) d i (fun j=>A2 (tkF t.data.toList) cl.data.toList (self 0 (d+1)) m [] j)=some r) :
  Calls Tryz.prog 160 #[.pointer (some ⟨br,0,none⟩),.func (.func 29) #[.pointer (some ⟨br,0,none⟩)] #[],.string cl] w (cK w br t d r):=by
 have G:Hid (Ba br t self):=hS;have E:Hid (Cd w br):=hI;have x:Hid (RdF w br t i d):=hr;have L:=Ac hr;clear hI hS hr;have N:=follows;go_enter Tryz.func160,Tryz.ntmps160
 go_wp2_with fail
 rcases Du hd h with⟨z,B⟩|⟨rfl,rfl⟩
 case inr =>
  refine(Eg w br t i x.out).mono ?_;rintro e s ⟨rfl,rfl⟩;exact⟨rfl,Fr.refl _ _,rfl⟩
 refine(Fm w br t i d x.out ht z).mono ?_;rintro e s ⟨rfl,hr,b⟩;have A:Hid (RdF s br t (i+1) (d+1)):=hr;have o:Hid (Fr (·≠br) w s):=b;have M:=b.size;clear hr b h x;go_wp2_with fail
 refine(S3 G.out s (d+1) (i+1) m cl hcl (by omega) ht hm (E.out.fr o.out) A.out r B).mono ?_;rintro e u ⟨b,n⟩;rcases r with⟨c,p⟩|⟨l,j⟩
 ·obtain rfl:=n;exact⟨rfl,o.out.trans b,rfl⟩
 ·obtain⟨⟨a,g,y,rfl,f⟩,hr⟩:=n;have H:Hid (RdF u br t j (d+1)):=hr;have C:Hid (Fr (·≠br) w u):=o.out.trans b;have J:Hid (Bw (fun k=>w.heap.size<=k) u (Ah (fun k=>w.heap.size<=k) u) a g l):=Bw.fr (Fr.refl _ _) (fun _ _ h=>h.fr (Fr.refl _ _) fun _ _ q=>by omega) (fun _ _ q=>by omega) f;have F:Hid (∀(W:World)(k:Nat),_):=fun W k h=>Et W br t k d h (by omega);clear b f hr B A o;go_wp2_with (go_at_call 146;refine(F.out _ _ H.out).mono ?_;rintro e v ⟨rfl,hr,b⟩;have I:Hid (RdF v br t j d):=hr;have D:Hid (Fr (·≠br) w v):=C.out.trans b;have K:Hid (Bw (fun k=>w.heap.size<=k) v (Ah (fun k=>w.heap.size<=k) v) a g l):=Bw.fr (b.mono fun k q=>by omega) (fun _ _ h=>h.fr (b.mono fun k q=>by omega) fun _ _ q=>q) (fun _ _ q=>q) J.out;clear hr b)
  go_ret
  exact⟨D.out,⟨a,g,y,rfl,K.out⟩,I.out⟩
end Go.Proofs.YtjbfcadeapphbaaGreatDoor.Sx
namespace Go.Proofs.YtjbfcadeapphbaaGreatDoor.Sx
set_option maxRecDepth 100000
set_option maxHeartbeats 1000000
open Go.RowKit Go.Sort
attribute [local go_sem] Il Ws
theorem Wt (K:Nat->Tk)(self:Nat->Nat->Nat->RX PX)(m:Nat)(n:List UInt8)(d i:Nat):Ke K self m n d i=bX (Dh K d i fun j=>A2 K [41] (self 0 (d+1)) m [] j) fun l j=>okX (Ef n l) j:=by
 unfold Ke Dh;split<;>rfl
theorem Qg {lo be:Nat}{w w':World}{sort:Nat}{op nm:ByteArray}{n:Int}{at':Nat}{pa:Option Addr}{len cap l0 c0:Nat}{p0:Option Addr}{kids:List PX}{x:PX}(hbe:be<w.heap.size)(hrow:Bw (fun k=>w.heap.size<=k) w' (Ah (fun k=>w.heap.size<=k) w') pa len kids)(hb:lo<=be)(he':Ar w' be sort op nm n at' p0 l0 c0)
  (hm:Oi sort op.data.toList nm.data.toList n kids x):Ah (fun k=>lo<=k) (w'.setCell ⟨be,5,none⟩ (.slice pa len cap)) x (.pointer (some ⟨be,0,none⟩)):=by
 have a:Fr (fun k=>w.heap.size<=k) w' (w'.setCell ⟨be,5,none⟩ (.slice pa len cap)):=(Fr.refl _ _).set (by simp;omega) _;refine Ah.node ⟨be,sort,op,nm,n,at',pa,len,cap,kids,rfl,hb,he'.parts _ _ _,?_,hm⟩;exact Bw.fr a (fun _ _ h=>h.fr a fun _ _ q=>by omega) (fun _ _ q=>by omega) hrow
theorem Zj {br:Nat}{t:ByteArray}{self:Nat->Nat->Nat->RX PX}(hS:Ba br t self)(w:World)(d i m:Nat)(hd:d<=24)(ht:t.size<=4000)(hm:m<=1000000)(hI:Cd w br)(hr:RdF w br t i d)
  (r:Except (Nat×Nat) (PX×Nat)) (h:Hq (tkF t.data.toList) self m d i=some r) :
  Calls Tryz.prog 161 #[.pointer (some ⟨br,0,none⟩)] w (Dd w br t d r):=by
 have W:Hid (Ba br t self):=hS;have V:Hid (Cd w br):=hI;have P:Hid (∀(q:Except (Nat×Nat) (List UInt8×Nat)),_):=fun q=>Dy w br t i d hr ht q;have a1:=Ac hr;clear hI hS hr;have mo:=follows;unfold Hq at h;go_enter Tryz.func161,Tryz.ntmps161
 go_wp2_with fail
 rcases Ax h with⟨⟨c,p⟩,v,rfl⟩|⟨n,j,v,g⟩
 ·refine(P.out _ v).mono ?_;rintro e x ⟨f,rfl⟩;exact⟨rfl,f,rfl⟩
 refine(P.out _ v).mono ?_;rintro e x ⟨f,rfl,hr⟩;have X:Hid (RdF x br t j d):=hr;have U:Hid (Fr (·≠br) w x):=f;have Q:Hid (n=txF t.data.toList i/\j=i+1):=Hk v;have G:(pcF t i).data.toList=n:=by rw[Q.out.1];exact Bm t i
 have hz:=f.size;clear f hr v h P;go_upto_region 3 with fail
 have s:Hid (Ar ((x.alloc (.cells #[.string (pcF t i),.int .i64 (atF t.data.toList i:Int)] 108)).alloc (.cells #[.int .i64 3,.string ⟨#[]⟩,.string (pcF t i),.int .i64 0,.int .i64 (atF t.data.toList i:Int),.slice none 0 0] 81)) (x.heap.size+1) 3 ⟨#[]⟩ (pcF t i) 0 (atF t.data.toList i) none 0 0):=Af (by simp);have E:Fr (fun _=>True) x ((x.alloc (.cells #[.string (pcF t i),.int .i64 (atF t.data.toList i:Int)] 108)).alloc (.cells #[.int .i64 3,.string ⟨#[]⟩,.string (pcF t i),.int .i64 0,.int .i64 (atF t.data.toList i:Int),.slice none 0 0] 81)):=((Fr.refl _ x).alloc _).alloc _;have D:Hid (RdF _ br t j d):=RdF.of X.out E trivial;have I:Hid (Fr (·≠br) w _):=U.out.trans (E.mono fun _ _=>trivial);clear E X U;generalize (x.alloc (.cells #[.string (pcF t i),.int .i64 (atF t.data.toList i:Int)] 108)).alloc (.cells #[.int .i64 3,.string ⟨#[]⟩,.string (pcF t i),.int .i64 0,.int .i64 (atF t.data.toList i:Int),.slice none 0 0] 81)=w3 at s D I |-;generalize S:x.heap.size+1=be at s |-;have u:be≠br:=by omega
 have o:w.heap.size<=be:=by omega
 have a2:be<w3.heap.size:=Ac s.out;clear S;have h2:=Aa D.out 2;have b:(pcF t j).toList=txF t.data.toList j:=by rw[ByteArray.toList_eq,Bm]
 have z:(tkF t.data.toList j).tx=txF t.data.toList j:=rfl;simp only[z] at g;generalize pcF t j=pc at h2 b;by_cases H:txF t.data.toList j=[39]
 ·have g1:(pc.toList==[39])=true:=by rw[b,H];rfl
  rw[H,if_pos (by decide)] at g;have M:Hid (r=.ok (Cw (n++[39]),j+1)):=by simp only[okX,Option.some.injEq] at g;exact g.symm
  have Y:=Aa s.out 0;have Z:=Ab s.out 0;have K:Hid (Ar (w3.setCell ⟨be,0,none⟩ (.int .i64 4)) be 4 ⟨#[]⟩ (pcF t i) 0 (atF t.data.toList i) none 0 0):=s.out.sort 4;have HA:Hid (Calls _ _ _ _ _):=Dc (w3.setCell ⟨be,0,none⟩ (.int .i64 4)) br t j d (D.out.setB (Ne.symm u) _) ht;have A:Hid (Fr (·≠br) w (w3.setCell ⟨be,0,none⟩ (.int .i64 4))):=I.out.setB o _;clear b z H g s D I;go_wp2_with (go_at_call 60;refine HA.out.mono ?_;rintro e y ⟨rfl,hr,f⟩;have R:Hid (RdF y br t (j+1) d):=hr;have O:Hid (Fr (·≠br) w y):=A.out.trans f;have L:Hid (Ar y be 4 ⟨#[]⟩ (pcF t i) 0 (atF t.data.toList i) none 0 0):=K.out.of f u;clear hr f)
  go_ret
  rw[M.out];exact⟨O.out,⟨_,rfl,Ah.node ⟨be,4,⟨#[]⟩,pcF t i,0,atF t.data.toList i,none,0,0,[],rfl,o,L.out,Hd _,.inr (.inr (.inr (.inr (.inl ⟨rfl,by rw[G]⟩))))⟩⟩,R.out⟩
 have g1:(pc.toList==[39])=false:=by rw[b];simpa using H
 rw[if_neg (by simpa using H)] at g;by_cases J:txF t.data.toList j=[40]
 ·have g2:(pc.toList==[40])=true:=by rw[b,J];rfl
  rw[J,if_pos (by decide),Wt] at g;have Y:=Aa s.out 0;have Z:=Ab s.out 0;have K:Hid (Ar (w3.setCell ⟨be,0,none⟩ (.int .i64 5)) be 5 ⟨#[]⟩ (pcF t i) 0 (atF t.data.toList i) none 0 0):=s.out.sort 5;have N:Hid (RdF (w3.setCell ⟨be,0,none⟩ (.int .i64 5)) br t j d):=D.out.setB (Ne.symm u) _;have A:Hid (Fr (·≠br) w (w3.setCell ⟨be,0,none⟩ (.int .i64 5))):=I.out.setB o _;have B:be<(w3.setCell ⟨be,0,none⟩ (.int .i64 5)).heap.size:=Ac K.out;clear b z H J s D I;go_wp2_with fail
  clear Y Z h2;generalize w3.setCell ⟨be,0,none⟩ (.int .i64 5)=w4 at K N A B |-;rcases Ax g with⟨⟨c,p⟩,v,rfl⟩|⟨l,j2,v,F⟩
  ·refine(Kt W.out w4 d j m ⟨#[41]⟩ rfl hd ht hm (V.out.fr A.out) N.out _ v).mono ?_;rintro e y ⟨f,rfl⟩;exact⟨rfl,A.out.trans f,rfl⟩
  refine(Kt W.out w4 d j m ⟨#[41]⟩ rfl hd ht hm (V.out.fr A.out) N.out _ v).mono ?_;rintro e y ⟨f,⟨a,T,a0,rfl,C⟩,hr⟩;have R:Hid (RdF y br t j2 d):=hr;have O:Hid (Fr (·≠br) w y):=A.out.trans f;have L:Hid (Ar y be 5 ⟨#[]⟩ (pcF t i) 0 (atF t.data.toList i) none 0 0):=K.out.of f u;have W5:Hid (Bw (fun k=>w4.heap.size<=k) y (Ah (fun k=>w4.heap.size<=k) y) a T l):=C;have M:Hid (r=.ok (Ef n l,j2)):=by simp only[okX,Option.some.injEq] at F;exact F.symm
  have c5:=Aa L.out 5;have f5:=Ab L.out 5;clear f hr C v g F N A;go_wp2_with fail
  go_ret
  rw[M.out];exact⟨O.out.setB o _,⟨_,rfl,Qg B W5.out o L.out (.inr (.inr (.inr (.inr (.inr (.inl ⟨rfl,by rw[G]⟩))))))⟩,R.out.setB (Ne.symm u) _⟩
 have g2:(pc.toList==[40])=false:=by rw[b];simpa using J
 rw[if_neg (by simpa using J)] at g;have M:Hid (r=.ok (Cw n,j)):=by simp only[okX,Option.some.injEq] at g;exact g.symm
 clear b z H J g;go_wp2_with fail
 go_ret
 rw[M.out];exact⟨I.out,⟨_,rfl,Ah.node ⟨be,3,⟨#[]⟩,pcF t i,0,atF t.data.toList i,none,0,0,[],rfl,o,s.out,Hd _,.inr (.inr (.inr (.inl ⟨rfl,by rw[G]⟩)))⟩⟩,D.out⟩
end Go.Proofs.YtjbfcadeapphbaaGreatDoor.Sx
