/- A sign between two parts, and the second one. -/
import Derived.Test.YtjbfcadeapphbaaGreatDoorK08
namespace Go.Proofs.YtjbfcadeapphbaaGreatDoor.Sx
set_option maxRecDepth 100000
set_option maxHeartbeats 1000000
open Go.RowKit Go.Sort
theorem Hx (a b:Value)(w:World):(Instr.field 108 (.agg #[a,b]) 0).run Tryz.prog w=.ok a w:=by kernel_rfl
attribute [local go_sem] Hx
theorem G4 {K:Nat->Tk}{i:Nat}{n:List UInt8}{j:Nat}(h:Bo K i=some (.ok (n,j))):n=(K i).tx/\j=i+1:=by
 unfold Bo at h;split at h
 ·simp[Ck] at h
 ·split at h
  ·simp[Ck] at h
  ·simp only[okX,Option.some.injEq,Except.ok.injEq,Prod.mk.injEq] at h;exact⟨h.1.symm,h.2.symm⟩
theorem Uv (w:World)(br:Nat)(t:ByteArray)(i d s rk:Nat)(op:List UInt8)(hs:s=7/\rk=6/\op=C8\/s=6/\rk=12/\op=Cd)(hr:RdF w br t i d)(ht:t.size<=4000)
  (r:Except (Nat×Nat) (PX×Nat)) (h:bX (Bo (tkF t.data.toList) (i+1)) (fun n j=>okX (Gm rk op n) j)=some r) :
  Calls Tryz.prog 147 #[.pointer (some ⟨br,0,none⟩),.int .i64 (s:Int)] w (Cr w br t d r):=by
 have x:Hid (Calls _ _ _ _ _):=Co w br t i d hr ht;have k:Hid (∀(W:World)(q:Except (Nat×Nat) (List UInt8×Nat)),_):=fun W q h=>C6 W br t (i+1) d h ht q;have D:=Aa hr 1;have C:=Ab hr;clear hr;have E:=follows;go_enter Tryz.func147,Tryz.ntmps147
 go_wp2_with (first|(go_at_call 60;refine x.out.mono ?_;rintro e z ⟨rfl,hr,a⟩;have m:Hid (RdF z br t (i+1) d):=hr;have g:Hid (Fr (·≠br) w z):=a;clear hr a))
 rcases Aq h with⟨⟨c,p⟩,b,rfl⟩|⟨n,j,b,y⟩
 ·refine(k.out _ _ m.out b).mono ?_;rintro e f ⟨a,rfl⟩;exact⟨rfl,g.out.trans a,rfl⟩
 ·refine(k.out _ _ m.out b).mono ?_;rintro e f ⟨a,rfl,hr⟩;have B:Hid (RdF f br t j d):=hr;have v:Hid (Fr (·≠br) w f):=g.out.trans a;have l:Hid (n=txF t.data.toList (i+1)/\j=i+1+1):=G4 b;have A:Hid (_=some r):=y;have o:=A5 t (i+1);clear a hr b y h k x m g;go_wp2_with fail
  go_ret
  obtain rfl:r=.ok (Gm rk op n,j):=by have:=A.out;simp only[okX,Option.some.injEq] at this;exact this.symm
  have u:=v.out.size;refine⟨v.out.alloc _,⟨_,rfl,Af.node ⟨f.heap.size,s,⟨#[]⟩,pcF t (i+1),0,atF t.data.toList i,none,0,0,[],rfl,u,Aj rfl,Ih _,?_⟩⟩,RdF.of B.out (P:=fun _=>True) ((Fr.refl _ f).alloc _) trivial⟩;rw[o,<- l.out.1];rcases hs with⟨rfl,rfl,rfl⟩|⟨rfl,rfl,rfl⟩
  ·exact .inr (.inr (.inr (.inr (.inr (.inr (.inr (.inl ⟨rfl,rfl⟩)))))))
  ·exact .inr (.inr (.inr (.inr (.inr (.inr (.inl ⟨rfl,rfl⟩))))))
end Go.Proofs.YtjbfcadeapphbaaGreatDoor.Sx
namespace Go.Proofs.YtjbfcadeapphbaaGreatDoor.Sx
set_option maxRecDepth 100000
set_option maxHeartbeats 1000000
open Go.RowKit Go.Sort
attribute [local go_sem] Hx
def Bl (w:World)(br:Nat):Prop:=br≠6/\6<w.heap.size/\(∃ev,w.cell? ⟨6,0,none⟩=some ev/\(ev=.nilIface\/∃te pe,ev=.iface te pe))/\br≠5/\∃ev,w.cell? ⟨5,0,none⟩=some ev/\(ev=.nilIface\/∃te pe,ev=.iface te pe)
theorem Bl.of {w w':World}{br:Nat}{P:Nat->Prop}(h:Bl w br)(f:Fr P w w')(h4:P 6)(h3:P 5):Bl w' br:=by
 obtain⟨d,a,⟨b,e,g⟩,i,c,j,k⟩:=h;exact⟨d,Nat.lt_of_lt_of_le a f.size,⟨b,(World.cell?_of_block (w:=w) (f.block 6 a h4)).trans e,g⟩,i,c,(World.cell?_of_block (w:=w) (f.block 5 (by omega) h3)).trans j,k⟩
theorem Bl.fr {w w':World}{br:Nat}(h:Bl w br)(f:Fr (·≠br) w w'):Bl w' br:=h.of f (Ne.symm h.1) (Ne.symm h.2.2.2.1)
theorem Bl.two {w w':World}{br be:Nat}(h:Bl w br)(hb:be≠5/\be≠6)(f:Fr (fun k=>k≠br/\k≠be) w w'):Bl w' br:=h.of f ⟨Ne.symm h.1,Ne.symm hb.2⟩ ⟨Ne.symm h.2.2.2.1,Ne.symm hb.1⟩
theorem Bl.new {w:World}{br be:Nat}(h:Bl w br)(hb:w.heap.size<=be):be≠5/\be≠6:=by have:=h.2.1;omega
def Ax (br:Nat)(t:ByteArray)(self:Nat->Nat->Nat->RX PX):Prop :=
 ∀(w:World)(n d i:Nat)(r:Except (Nat×Nat) (PX×Nat)),n<=12->d<=24->Bl w br->RdF w br t i d->self n d i=some r->Calls Tryz.prog 62 #[.pointer (some ⟨br,0,none⟩),.int .i64 (n:Int)] w (Cr w br t d r)
theorem Aw {br:Nat}{t:ByteArray}{self:Nat->Nat->Nat->RX PX}(hS:Ax br t self)(w:World)(d i:Nat)(r:Except (Nat×Nat) (PX×Nat))(hd:d<=24)(hI:Bl w br)(hr:RdF w br t i d)(h:self 0 d i=some r) :
  Calls Tryz.prog 29 #[.pointer (some ⟨br,0,none⟩)] w (Cr w br t d r):=by
 have b:Hid (Calls _ _ _ _ _):=hS w 0 d i r (by omega) hd hI hr h;clear hS hr h hI;go_enter Tryz.func29,Tryz.ntmps29
 go_wp2_with fail
 refine b.out.mono ?_;rintro e l ⟨a,f⟩;rcases r with⟨c,p⟩|⟨x,j⟩
 ·obtain rfl:=f;exact⟨rfl,a,rfl⟩
 ·obtain⟨⟨v,rfl,g⟩,hr⟩:=f;have k:Hid (Cr w br t d (.ok (x,j)) (.returned v) l):=⟨a,⟨v,rfl,g⟩,hr⟩;clear a g hr b;go_wp2_with fail
  go_ret
  exact k.out
def Ao (w:World)(b sort:Nat)(op nm:ByteArray)(n:Int)(at':Nat)(pa:Option Addr)(len cap:Nat):Prop :=
 w.heap[b]?=some (.cells #[.int .i64 (sort:Int),.string op,.string nm,.int .i64 n,.int .i64 (at':Int),.slice pa len cap] 81 (0,0))
theorem Ao.of {w w':World}{b sort:Nat}{op nm:ByteArray}{n:Int}{at':Nat}{pa:Option Addr}{len cap:Nat}(h:Ao w b sort op nm n at' pa len cap){P:Nat->Prop}(f:Fr P w w')(hp:P b):Ao w' b sort op nm n at' pa len cap:=(f.block b (Ab h) hp).trans h
def Rk (w:World)(br be:Nat)(t:ByteArray)(d:Nat)(r:Except (Nat×Nat) (PX×Nat))(e:Ending)(w':World):Prop :=
 Fr (fun k=>k≠br/\k≠be) w w'/\match r with
  | .ok (x,j)=>e=.returned (.tuple #[])/\Af (fun k=>k=be\/w.heap.size<=k) w' x (.pointer (some ⟨be,0,none⟩))/\RdF w' br t j d
  | .error (c,p)=>e=Flt c p
theorem Bk {γ:Type}{K:Nat->Tk}{m:List UInt8}{i:Nat}{k:Nat->RX γ}{r:Except (Nat×Nat) (γ×Nat)}(h:Bv K m i k=some r):(((K i).tx==m)=true/\k (i+1)=some r)\/(((K i).tx==m)=false/\r=.error (1,(K i).at')):=by
 unfold Bv at h;cases q:(K i).tx==m with
 | true=>rw[q] at h;exact .inl ⟨rfl,h⟩
 | false=>rw[q] at h;simp only[Ck,Bool.false_eq_true,if_false,Option.some.injEq] at h;exact .inr ⟨rfl,h.symm⟩
theorem Fr.two {br be:Nat}{w w':World}(h:Fr (·≠br) w w'):Fr (fun k=>k≠br/\k≠be) w w':=h.mono fun _ q=>q.1
theorem Ao.sort {w:World}{b sort:Nat}{op nm:ByteArray}{n:Int}{at':Nat}{pa:Option Addr}{len cap:Nat}(h:Ao w b sort op nm n at' pa len cap)(s:Nat):Ao (w.setCell ⟨b,0,none⟩ (.int .i64 (s:Int))) b s op nm n at' pa len cap:=by
 have:=Ah h 0 (.int .i64 (s:Int));simpa [Ao] using this
theorem Ao.op {w:World}{b sort:Nat}{op nm:ByteArray}{n:Int}{at':Nat}{pa:Option Addr}{len cap:Nat}(h:Ao w b sort op nm n at' pa len cap)(s:ByteArray):Ao (w.setCell ⟨b,1,none⟩ (.string s)) b sort s nm n at' pa len cap:=by
 have:=Ah h 1 (.string s);simpa [Ao] using this
theorem Ao.name {w:World}{b sort:Nat}{op nm:ByteArray}{n:Int}{at':Nat}{pa:Option Addr}{len cap:Nat}(h:Ao w b sort op nm n at' pa len cap)(s:ByteArray):Ao (w.setCell ⟨b,2,none⟩ (.string s)) b sort op s n at' pa len cap:=by
 have:=Ah h 2 (.string s);simpa [Ao] using this
theorem Ao.parts {w:World}{b sort:Nat}{op nm:ByteArray}{n:Int}{at':Nat}{pa:Option Addr}{len cap:Nat}(h:Ao w b sort op nm n at' pa len cap)(a:Option Addr)(l c:Nat):Ao (w.setCell ⟨b,5,none⟩ (.slice a l c)) b sort op nm n at' a l c:=by
 have:=Ah h 5 (.slice a l c);simpa [Ao] using this
theorem Hy {w:World}{be lo sort:Nat}{op nm:ByteArray}{n:Int}{at':Nat}{pa:Option Addr}{len cap m:Nat}(he:Ao w be sort op nm n at' pa len cap){vs:Array Value}{kids:List PX}(hm:m=kids.length)(hm4:m<=4294967296)
  (hk:∀(i:Nat)(x:PX),kids[i]?=some x->∃v,vs[i]?=some v/\Af (fun k=>lo<=k/\k≠be) w x v) (hlo:lo<=w.heap.size) {x:PX} (hx:M5 sort op.data.toList nm.data.toList n kids x) :
  Af (fun k=>k=be\/lo<=k) ((w.setCell ⟨be,5,none⟩ (.slice (some ⟨w.heap.size,0,none⟩) m m)).alloc (.cells vs 37 (0,0))) x (.pointer (some ⟨be,0,none⟩)) /\
  Fr (·≠be) w ((w.setCell ⟨be,5,none⟩ (.slice (some ⟨w.heap.size,0,none⟩) m m)).alloc (.cells vs 37 (0,0))):=by
 have a:Fr (·≠be) w ((w.setCell ⟨be,5,none⟩ (.slice (some ⟨w.heap.size,0,none⟩) m m)).alloc (.cells vs 37 (0,0))):=((Fr.refl _ w).set (by simp) _).alloc _;have c:Ao ((w.setCell ⟨be,5,none⟩ (.slice (some ⟨w.heap.size,0,none⟩) m m)).alloc (.cells vs 37 (0,0))) be sort op nm n at' (some ⟨w.heap.size,0,none⟩) m m:=(he.parts _ _ _).of (P:=fun _=>True) ((Fr.refl _ _).alloc _) trivial;have b:((w.setCell ⟨be,5,none⟩ (.slice (some ⟨w.heap.size,0,none⟩) m m)).alloc (.cells vs 37 (0,0))).heap[w.heap.size]?=some (.cells vs 37 (0,0)):=Aj (by simp);refine⟨Af.node ⟨be,sort,op,nm,n,at',_,m,m,kids,rfl,.inl rfl,c,⟨hm,hm4,.inr ⟨w.heap.size,0,rfl,Ab b,.inr hlo,fun i x q=>?_⟩⟩,hx⟩,a⟩;obtain⟨v,e,d⟩:=hk i x q;refine⟨v,by rw[Nat.zero_add,Aa b];exact e,d.fr (a.mono fun k q=>q.2) fun k _ q=>.inr q.1⟩
theorem Kx {br:Nat}{t:ByteArray}{self:Nat->Nat->Nat->RX PX}(hS:Ax br t self)(w:World)(be d i s0 a0:Nat)(op nm0:ByteArray)(n0:Int)(hd:d<=24)(ht:t.size<=4000)(hbe:be≠br)(hb34:be≠5/\be≠6)(hI:Bl w br)(hr:RdF w br t i d)(he:Ao w be s0 op nm0 n0 a0 none 0 0)
  (hop:op.data.toList∈Iu\/op.data.toList∈Cp) (r:Except (Nat×Nat) (PX×Nat)) (h:Fd (tkF t.data.toList) self op.data.toList d i=some r) :
  Calls Tryz.prog 145 #[.pointer (some ⟨br,0,none⟩),.pointer (some ⟨be,0,none⟩)] w (Rk w br be t d r):=by
 have M:Hid (Ax br t self):=hS;have L:Hid (Bl w br):=hI;have V:Hid (∀(W:World)(q:Except (Nat×Nat) (List UInt8×Nat)),_):=fun W q h=>C6 W br t i d h ht q;have Y:Hid (RdF w br t i d):=hr;have HE:Hid (Ao w be s0 op nm0 n0 a0 none 0 0):=he;clear hI hS hr he;have mo:=follows;go_enter Tryz.func145,Tryz.ntmps145
 go_wp2_with fail
 unfold Fd at h;rcases Aq h with⟨⟨c,p⟩,g,rfl⟩|⟨n,j,g,hk⟩
 ·refine(V.out _ _ Y.out g).mono ?_;rintro e u ⟨f,rfl⟩;exact⟨rfl,f.two,rfl⟩
 refine(V.out _ _ Y.out g).mono ?_;rintro e u ⟨f,rfl,hr⟩;have X:Hid (n=txF t.data.toList i/\j=i+1):=G4 g;have R2:Hid (RdF u br t j d):=hr;have z:Hid (Ao u be s0 op nm0 n0 a0 none 0 0):=HE.out.of f hbe;have F2:Hid (Fr (·≠br) w u):=f;have c0:=Aa z.out 0;have c2:=Aa z.out 2;have f0:=Ac z.out 0;have f2:=Ac z.out 2;clear f hr g h V HE Y;go_wp2_with fail
 have R:Hid (Ao ((u.setCell ⟨be,0,none⟩ (.int .i64 10)).setCell ⟨be,2,none⟩ (.string (pcF t i))) be 10 op (pcF t i) n0 a0 none 0 0):=(z.out.sort 10).name _;have N:Hid (RdF ((u.setCell ⟨be,0,none⟩ (.int .i64 10)).setCell ⟨be,2,none⟩ (.string (pcF t i))) br t j d):=(R2.out.setB (Ne.symm hbe) _).setB (Ne.symm hbe) _;have J:Hid (Fr (fun k=>k≠br/\k≠be) w ((u.setCell ⟨be,0,none⟩ (.int .i64 10)).setCell ⟨be,2,none⟩ (.string (pcF t i)))):=(F2.out.two.set (p:=⟨be,0,none⟩) (fun q=>q.2 rfl) _).set (p:=⟨be,2,none⟩) (fun q=>q.2 rfl) _;clear c0 c2 f0 f2 z R2 F2;generalize (u.setCell ⟨be,0,none⟩ (.int .i64 10)).setCell ⟨be,2,none⟩ (.string (pcF t i))=w3 at R N J |-;have K:Hid (∀(W:World)(m:ByteArray)(k:Nat)(b:Bool),_):=fun W m k b h=>Cj W br t m k d h ht b;rcases Bk hk with⟨s,C⟩|⟨s,rfl⟩
 case inr =>
  refine(K.out w3 ⟨#[105,110]⟩ j false N.out s).mono ?_;rintro e l ⟨f,⟨q,-⟩|⟨-,rfl⟩⟩
  ·simp at q
  ·exact⟨rfl,J.out.trans f.two,rfl⟩
 refine(K.out w3 ⟨#[105,110]⟩ j true N.out s).mono ?_;rintro e l ⟨f,⟨-,rfl,hr⟩|⟨q,-⟩⟩
 case inr=>simp at q
 have O:Hid (RdF l br t (j+1) d):=hr;have S:Hid (Ao l be 10 op (pcF t i) n0 a0 none 0 0):=R.out.of f hbe;have A:Hid (Fr (fun k=>k≠br/\k≠be) w l):=J.out.trans f.two;clear f hr s hk R N J;go_wp2_with fail
 rcases Aq C with⟨⟨c,p⟩,g,rfl⟩|⟨a,Q,g,D⟩
 ·refine(M.out l 8 d _ _ (by omega) hd (L.out.two hb34 A.out) O.out g).mono ?_;rintro e v ⟨f,rfl⟩;exact⟨rfl,A.out.trans f.two,rfl⟩
 refine(M.out l 8 d _ _ (by omega) hd (L.out.two hb34 A.out) O.out g).mono ?_;rintro e v ⟨f,⟨va,rfl,G⟩,hr⟩;have Z:Hid (RdF v br t Q d):=hr;have E5:Hid (Ao v be 10 op (pcF t i) n0 a0 none 0 0):=S.out.of f hbe;have U:Hid (Fr (fun k=>k≠br/\k≠be) w v):=A.out.trans f.two;have T5:Hid (Af (fun k=>l.heap.size<=k) v a va):=G;have a3:be<l.heap.size:=Ab S.out;have a1:br<l.heap.size:=Ab O.out;have a6:=A.out.size;clear f hr g G C S O A;obtain⟨ba,rfl,-,-⟩:=T5.out.ptr;go_wp2_with fail
 rcases Bk D with⟨s,E⟩|⟨s,rfl⟩
 case inr =>
  refine(K.out v ⟨#[58]⟩ Q false Z.out s).mono ?_;rintro e o ⟨f,⟨q,-⟩|⟨-,rfl⟩⟩
  ·simp at q
  ·exact⟨rfl,U.out.trans f.two,rfl⟩
 refine(K.out v ⟨#[58]⟩ Q true Z.out s).mono ?_;rintro e o ⟨f,⟨-,rfl,hr⟩|⟨q,-⟩⟩
 case inr=>simp at q
 have P:Hid (RdF o br t (Q+1) d):=hr;have T:Hid (Ao o be 10 op (pcF t i) n0 a0 none 0 0):=E5.out.of f hbe;have B:Hid (Fr (fun k=>k≠br/\k≠be) w o):=U.out.trans f.two;have T6:Hid (Af (fun k=>l.heap.size<=k) o a (.pointer (some ⟨ba,0,none⟩))):=T5.out.fr (f.mono fun k q=>by omega) (fun _ _ q=>q);clear f hr s D E5 Z U T5;go_wp2_with fail
 rcases Aq E with⟨⟨c,p⟩,g,rfl⟩|⟨b,j3,g,F⟩
 ·refine(Aw M.out o d _ _ hd (L.out.two hb34 B.out) P.out g).mono ?_;rintro e y ⟨f,rfl⟩;exact⟨rfl,B.out.trans f.two,rfl⟩
 refine(Aw M.out o d _ _ hd (L.out.two hb34 B.out) P.out g).mono ?_;rintro e y ⟨f,⟨vb,rfl,H⟩,hr⟩;have R7:Hid (RdF y br t j3 d):=hr;have I:Hid (Ao y be 10 op (pcF t i) n0 a0 none 0 0):=T.out.of f hbe;have F7:Hid (Fr (fun k=>k≠br/\k≠be) w y):=B.out.trans f.two;have T7:Hid (Af (fun k=>l.heap.size<=k) y a (.pointer (some ⟨ba,0,none⟩))):=T6.out.fr (f.mono fun k q=>by omega) (fun _ _ q=>q);have U7:Hid (Af (fun k=>o.heap.size<=k) y b vb):=H;have a7:=B.out.size;have a4:be<o.heap.size:=Ab T.out;have a2:br<o.heap.size:=Ab P.out;have a8:=f.size;clear f hr g H E T P B T6;obtain⟨bb,rfl,-,-⟩:=U7.out.ptr;have c5:=Aa I.out 5;have f5:=Ac I.out 5;have a5:be<y.heap.size:=Ab I.out;go_wp2_with fail
 go_end0
 obtain rfl:r=.ok (Ds op.data.toList n a b,j3):=by simp only[okX,Option.some.injEq] at F;exact F.symm
 obtain⟨hT,hF⟩:=Hy (lo:=w.heap.size) I.out (m:=2) (vs:=#[.pointer (some ⟨ba,0,none⟩),.pointer (some ⟨bb,0,none⟩)]) (kids:=[a,b]) (x:=Ds op.data.toList n a b) rfl (by omega) (fun k x q=>by
   match k with
   | 0=>simp at q;subst q;exact⟨_,rfl,T7.out.fr (Fr.refl _ _) fun _ _ q=>by omega⟩
   | 1=>simp at q;subst q;exact⟨_,rfl,U7.out.fr (Fr.refl _ _) fun _ _ q=>by omega⟩
   | k+2=>simp at q) (by omega)
  (by
   rw[A5,<- X.out.1];exact .inr (.inr (.inr (.inr (.inr (.inr (.inr (.inr (.inr (.inr (.inl ⟨rfl,hop,a,b,rfl,rfl⟩)))))))))))
 exact⟨F7.out.trans (hF.mono fun _ q=>q.2),rfl,hT,RdF.of R7.out hF (Ne.symm hbe)⟩
end Go.Proofs.YtjbfcadeapphbaaGreatDoor.Sx
namespace Go.Proofs.YtjbfcadeapphbaaGreatDoor.Sx
set_option maxRecDepth 100000
set_option maxHeartbeats 1000000
open Go.RowKit Go.Sort
attribute [local go_sem] Hx
theorem Uw {br:Nat}{t:ByteArray}{self:Nat->Nat->Nat->RX PX}(hS:Ax br t self)(w:World)(be d i s0 a0:Nat)(op nm0:ByteArray)(n0:Int)(hd:d<=24)(ht:t.size<=4000)(hbe:be≠br)(hb34:be≠5/\be≠6)(hI:Bl w br)(hr:RdF w br t i d)(he:Ao w be s0 op nm0 n0 a0 none 0 0)
  (r:Except (Nat×Nat) (PX×Nat)) (h:Ft (tkF t.data.toList) self d i=some r) :
  Calls Tryz.prog 144 #[.pointer (some ⟨br,0,none⟩),.pointer (some ⟨be,0,none⟩)] w (Rk w br be t d r):=by
 have O:Hid (Ax br t self):=hS;have N:Hid (Bl w br):=hI;have T:Hid (∀(W:World)(q:Except (Nat×Nat) (List UInt8×Nat)),_):=fun W q h=>C6 W br t i d h ht q;have M:Hid (∀(W:World)(m:ByteArray)(k:Nat)(b:Bool),_):=fun W m k b h=>Cj W br t m k d h ht b;have V:Hid (RdF w br t i d):=hr;have HE:Hid (Ao w be s0 op nm0 n0 a0 none 0 0):=he;have a3:=Ab hr;have a4:=Ab he;clear hI hS hr he;have mo:=follows;go_enter Tryz.func144,Tryz.ntmps144
 go_wp2_with fail
 unfold Ft at h;rcases Aq h with⟨⟨c,p⟩,g,rfl⟩|⟨n,j,g,hk⟩
 ·refine(T.out _ _ V.out g).mono ?_;rintro e o ⟨f,rfl⟩;exact⟨rfl,f.two,rfl⟩
 refine(T.out _ _ V.out g).mono ?_;rintro e o ⟨f,rfl,hr⟩;have U:Hid (n=txF t.data.toList i/\j=i+1):=G4 g;have R2:Hid (RdF o br t j d):=hr;have y:Hid (Ao o be s0 op nm0 n0 a0 none 0 0):=HE.out.of f hbe;have F2:Hid (Fr (·≠br) w o):=f;have c0:=Aa y.out 0;have c2:=Aa y.out 2;have f0:=Ac y.out 0;have f2:=Ac y.out 2;clear f hr g h T HE V;go_wp2_with fail
 have R:Hid (Ao ((o.setCell ⟨be,0,none⟩ (.int .i64 9)).setCell ⟨be,2,none⟩ (.string (pcF t i))) be 9 op (pcF t i) n0 a0 none 0 0):=(y.out.sort 9).name _;have P:Hid (RdF ((o.setCell ⟨be,0,none⟩ (.int .i64 9)).setCell ⟨be,2,none⟩ (.string (pcF t i))) br t j d):=(R2.out.setB (Ne.symm hbe) _).setB (Ne.symm hbe) _;have L:Hid (Fr (fun k=>k≠br/\k≠be) w ((o.setCell ⟨be,0,none⟩ (.int .i64 9)).setCell ⟨be,2,none⟩ (.string (pcF t i)))):=(F2.out.two.set (p:=⟨be,0,none⟩) (fun q=>q.2 rfl) _).set (p:=⟨be,2,none⟩) (fun q=>q.2 rfl) _;clear c0 c2 f0 f2 y R2 F2;generalize (o.setCell ⟨be,0,none⟩ (.int .i64 9)).setCell ⟨be,2,none⟩ (.string (pcF t i))=w3 at R P L |-;rcases Bk hk with⟨l,F⟩|⟨l,rfl⟩
 case inr =>
  refine(M.out w3 ⟨#[61]⟩ (j) false P.out l).mono ?_;rintro e B ⟨f,⟨q,-⟩|⟨-,rfl⟩⟩
  ·simp at q
  ·exact⟨rfl,L.out.trans f.two,rfl⟩
 refine(M.out w3 ⟨#[61]⟩ (j) true P.out l).mono ?_;rintro e B ⟨f,⟨-,rfl,hr⟩|⟨q,-⟩⟩
 case inr=>simp at q
 have X:Hid (RdF B br t (j+1) (d)):=hr;have E4:Hid (Ao B be 9 op (pcF t i) n0 a0 none 0 0):=R.out.of f (by omega);have z:Hid (Fr (fun k=>k≠br/\k≠be) w B):=L.out.trans f.two;clear f hr l hk;clear R P L;go_wp2_with fail
 rcases Aq F with⟨⟨c,p⟩,g,rfl⟩|⟨a,Q,g,G⟩
 ·refine(Aw O.out B d _ _ hd (N.out.two hb34 z.out) X.out g).mono ?_;rintro e u ⟨f,rfl⟩;exact⟨rfl,z.out.trans f.two,rfl⟩
 refine(Aw O.out B d _ _ hd (N.out.two hb34 z.out) X.out g).mono ?_;rintro e u ⟨f,⟨va,rfl,J⟩,hr⟩;have Y:Hid (RdF u br t Q (d)):=hr;have a6:=z.out.size;have E5:Hid (Ao u be 9 op (pcF t i) n0 a0 none 0 0):=E4.out.of f (by omega);have S:Hid (Fr (fun k=>k≠br/\k≠be) w u):=z.out.trans f.two;have s:Hid (Af (fun k=>w.heap.size<=k) u a va):=Af.fr (Fr.refl _ _) (fun _ _ q=>by omega) J;clear f hr g J F;clear E4 X z;obtain⟨ba,rfl,-,-⟩:=s.out.ptr;go_wp2_with fail
 rcases Bk G with⟨l,H⟩|⟨l,rfl⟩
 case inr =>
  refine(M.out u ⟨#[58]⟩ (Q) false Y.out l).mono ?_;rintro e v ⟨f,⟨q,-⟩|⟨-,rfl⟩⟩
  ·simp at q
  ·exact⟨rfl,S.out.trans f.two,rfl⟩
 refine(M.out u ⟨#[58]⟩ (Q) true Y.out l).mono ?_;rintro e v ⟨f,⟨-,rfl,hr⟩|⟨q,-⟩⟩
 case inr=>simp at q
 have Z:Hid (RdF v br t (Q+1) (d)):=hr;have E6:Hid (Ao v be 9 op (pcF t i) n0 a0 none 0 0):=E5.out.of f (by omega);have A:Hid (Fr (fun k=>k≠br/\k≠be) w v):=S.out.trans f.two;have D:Hid (Af (fun k=>w.heap.size<=k) v a (.pointer (some ⟨ba,0,none⟩))):=s.out.fr (f.mono fun k q=>by omega) (fun _ _ q=>q);clear f hr l G;clear E5 Y S s;go_wp2_with fail
 rcases Aq H with⟨⟨c,p⟩,g,rfl⟩|⟨b,j3,g,I⟩
 ·refine(Aw O.out v d _ _ hd (N.out.two hb34 A.out) Z.out g).mono ?_;rintro e C ⟨f,rfl⟩;exact⟨rfl,A.out.trans f.two,rfl⟩
 refine(Aw O.out v d _ _ hd (N.out.two hb34 A.out) Z.out g).mono ?_;rintro e C ⟨f,⟨vb,rfl,J⟩,hr⟩;have R7:Hid (RdF C br t j3 (d)):=hr;have a7:=A.out.size;have K:Hid (Ao C be 9 op (pcF t i) n0 a0 none 0 0):=E6.out.of f (by omega);have F7:Hid (Fr (fun k=>k≠br/\k≠be) w C):=A.out.trans f.two;have a1:Hid (Af (fun k=>w.heap.size<=k) C a (.pointer (some ⟨ba,0,none⟩))):=D.out.fr (f.mono fun k q=>by omega) (fun _ _ q=>q);have E:Hid (Af (fun k=>w.heap.size<=k) C b vb):=Af.fr (Fr.refl _ _) (fun _ _ q=>by omega) J;clear f hr g J H;clear E6 Z A D;obtain⟨bb,rfl,-,-⟩:=E.out.ptr;have c5:=Aa K.out 5;have f5:=Ac K.out 5;have a5:=Ab K.out;go_wp2_with fail
 go_end0
 obtain rfl:r=.ok (L7 n a b,j3):=by simp only[okX,Option.some.injEq] at I;exact I.symm
 have a2:=F7.out.size;obtain⟨hT,hF⟩:=Hy (lo:=w.heap.size) K.out (m:=2) (vs:=#[.pointer (some ⟨ba,0,none⟩),.pointer (some ⟨bb,0,none⟩)]) (kids:=[a,b]) (x:=L7 n a b) rfl (by omega) (fun k x q=>by
   match k with
   | 0=>simp at q;subst q;exact⟨_,rfl,a1.out.fr (Fr.refl _ _) fun _ _ q=>by omega⟩
   | 1=>simp at q;subst q;exact⟨_,rfl,E.out.fr (Fr.refl _ _) fun _ _ q=>by omega⟩
   | k+2=>simp at q) a2
  (by
   rw[A5,<- U.out.1];exact .inr (.inr (.inr (.inr (.inr (.inr (.inr (.inr (.inr (.inl ⟨rfl,a,b,rfl,rfl⟩))))))))))
 exact⟨F7.out.trans (hF.mono fun _ q=>q.2),rfl,hT,RdF.of R7.out hF (Ne.symm hbe)⟩
theorem Ux {br:Nat}{t:ByteArray}{self:Nat->Nat->Nat->RX PX}(hS:Ax br t self)(w:World)(be d i s0 a0:Nat)(op nm0:ByteArray)(n0:Int)(hd:d<=24)(ht:t.size<=4000)(hbe:be≠br)(hb34:be≠5/\be≠6)(hI:Bl w br)(hr:RdF w br t i d)(he:Ao w be s0 op nm0 n0 a0 none 0 0)
  (r:Except (Nat×Nat) (PX×Nat)) (h:Fs (tkF t.data.toList) self d i=some r) :
  Calls Tryz.prog 143 #[.pointer (some ⟨br,0,none⟩),.pointer (some ⟨be,0,none⟩)] w (Rk w br be t d r):=by
 have K:Hid (Ax br t self):=hS;have J:Hid (Bl w br):=hI;have X:Hid (∀(W:World)(m:ByteArray)(k:Nat)(b:Bool),_):=fun W m k b h=>Cj W br t m k d h ht b;obtain⟨v,o⟩:∃v,v=w:=⟨w,rfl⟩;have R3:Hid (RdF v br t i d):=by rw[o];exact hr
 have E3:Hid (Ao v be s0 op nm0 n0 a0 none 0 0):=by rw[o];exact he
 have G:Hid (Fr (fun k=>k≠br/\k≠be) w v):=by rw[o];exact Fr.refl _ _
 have a4:=Ab hr;have a5:=Ab he;clear hI hS hr he;have mo:=follows;rw[show Calls Tryz.prog 143 #[.pointer (some ⟨br,0,none⟩),.pointer (some ⟨be,0,none⟩)] w (Rk w br be t d r)=Calls Tryz.prog 143 #[.pointer (some ⟨br,0,none⟩),.pointer (some ⟨be,0,none⟩)] v (Rk w br be t d r) from by rw[o]];clear o;go_enter Tryz.func143,Tryz.ntmps143
 go_wp2_with fail
 unfold Fs at h;rcases Aq h with⟨⟨c,p⟩,g,rfl⟩|⟨a,j,g,hk⟩
 ·refine(Aw K.out v d _ _ hd (J.out.two hb34 G.out) R3.out g).mono ?_;rintro e D ⟨f,rfl⟩;exact⟨rfl,G.out.trans f.two,rfl⟩
 refine(Aw K.out v d _ _ hd (J.out.two hb34 G.out) R3.out g).mono ?_;rintro e D ⟨f,⟨va,rfl,u⟩,hr⟩;have R4:Hid (RdF D br t j (d)):=hr;have a7:=G.out.size;have E4:Hid (Ao D be s0 op nm0 n0 a0 none 0 0):=E3.out.of f (by omega);have Z:Hid (Fr (fun k=>k≠br/\k≠be) w D):=G.out.trans f.two;have B:Hid (Af (fun k=>w.heap.size<=k) D a va):=Af.fr (Fr.refl _ _) (fun _ _ q=>by omega) u;clear f hr g u h;clear E3 R3 G;obtain⟨Q,rfl,-,-⟩:=B.out.ptr;go_wp2_with fail
 rcases Bk hk with⟨s,R⟩|⟨s,rfl⟩
 case inr =>
  refine(X.out D ⟨#[116,104,101,110]⟩ (j) false R4.out s).mono ?_;rintro e E ⟨f,⟨q,-⟩|⟨-,rfl⟩⟩
  ·simp at q
  ·exact⟨rfl,Z.out.trans f.two,rfl⟩
 refine(X.out D ⟨#[116,104,101,110]⟩ (j) true R4.out s).mono ?_;rintro e E ⟨f,⟨-,rfl,hr⟩|⟨q,-⟩⟩
 case inr=>simp at q
 have R5:Hid (RdF E br t (j+1) (d)):=hr;have E5:Hid (Ao E be s0 op nm0 n0 a0 none 0 0):=E4.out.of f (by omega);have H:Hid (Fr (fun k=>k≠br/\k≠be) w E):=Z.out.trans f.two;have L:Hid (Af (fun k=>w.heap.size<=k) E a (.pointer (some ⟨Q,0,none⟩))):=B.out.fr (f.mono fun k q=>by omega) (fun _ _ q=>q);clear f hr s hk;clear E4 R4 Z B;go_wp2_with fail
 rcases Aq R with⟨⟨c,p⟩,g,rfl⟩|⟨b,Y,g,S⟩
 ·refine(Aw K.out E d _ _ hd (J.out.two hb34 H.out) R5.out g).mono ?_;rintro e z ⟨f,rfl⟩;exact⟨rfl,H.out.trans f.two,rfl⟩
 refine(Aw K.out E d _ _ hd (J.out.two hb34 H.out) R5.out g).mono ?_;rintro e z ⟨f,⟨vb,rfl,u⟩,hr⟩;have R6:Hid (RdF z br t Y (d)):=hr;have a8:=H.out.size;have E6:Hid (Ao z be s0 op nm0 n0 a0 none 0 0):=E5.out.of f (by omega);have F6:Hid (Fr (fun k=>k≠br/\k≠be) w z):=H.out.trans f.two;have M:Hid (Af (fun k=>w.heap.size<=k) z a (.pointer (some ⟨Q,0,none⟩))):=L.out.fr (f.mono fun k q=>by omega) (fun _ _ q=>q);have C:Hid (Af (fun k=>w.heap.size<=k) z b vb):=Af.fr (Fr.refl _ _) (fun _ _ q=>by omega) u;clear f hr g u R;clear E5 R5 H L;obtain⟨bb,rfl,-,-⟩:=C.out.ptr;go_wp2_with fail
 rcases Bk S with⟨s,T⟩|⟨s,rfl⟩
 case inr =>
  refine(X.out z ⟨#[101,108,115,101]⟩ (Y) false R6.out s).mono ?_;rintro e A ⟨f,⟨q,-⟩|⟨-,rfl⟩⟩
  ·simp at q
  ·exact⟨rfl,F6.out.trans f.two,rfl⟩
 refine(X.out z ⟨#[101,108,115,101]⟩ (Y) true R6.out s).mono ?_;rintro e A ⟨f,⟨-,rfl,hr⟩|⟨q,-⟩⟩
 case inr=>simp at q
 have R7:Hid (RdF A br t (Y+1) (d)):=hr;have E7:Hid (Ao A be s0 op nm0 n0 a0 none 0 0):=E6.out.of f (by omega);have I:Hid (Fr (fun k=>k≠br/\k≠be) w A):=F6.out.trans f.two;have N:Hid (Af (fun k=>w.heap.size<=k) A a (.pointer (some ⟨Q,0,none⟩))):=M.out.fr (f.mono fun k q=>by omega) (fun _ _ q=>q);have O:Hid (Af (fun k=>w.heap.size<=k) A b (.pointer (some ⟨bb,0,none⟩))):=C.out.fr (f.mono fun k q=>by omega) (fun _ _ q=>q);clear f hr s S;clear E6 R6 F6 M C;go_wp2_with fail
 rcases Aq T with⟨⟨c,p⟩,g,rfl⟩|⟨x,j3,g,U⟩
 ·refine(Aw K.out A d _ _ hd (J.out.two hb34 I.out) R7.out g).mono ?_;rintro e l ⟨f,rfl⟩;exact⟨rfl,I.out.trans f.two,rfl⟩
 refine(Aw K.out A d _ _ hd (J.out.two hb34 I.out) R7.out g).mono ?_;rintro e l ⟨f,⟨vx,rfl,u⟩,hr⟩;have R8:Hid (RdF l br t j3 (d)):=hr;have a9:=I.out.size;have F:Hid (Ao l be s0 op nm0 n0 a0 none 0 0):=E7.out.of f (by omega);have F8:Hid (Fr (fun k=>k≠br/\k≠be) w l):=I.out.trans f.two;have a1:Hid (Af (fun k=>w.heap.size<=k) l a (.pointer (some ⟨Q,0,none⟩))):=N.out.fr (f.mono fun k q=>by omega) (fun _ _ q=>q);have a2:Hid (Af (fun k=>w.heap.size<=k) l b (.pointer (some ⟨bb,0,none⟩))):=O.out.fr (f.mono fun k q=>by omega) (fun _ _ q=>q);have P:Hid (Af (fun k=>w.heap.size<=k) l x vx):=Af.fr (Fr.refl _ _) (fun _ _ q=>by omega) u;clear f hr g u T;clear E7 R7 I N O;obtain⟨bx,rfl,-,-⟩:=P.out.ptr;have c0:=Aa F.out 0;have f0:=Ac F.out 0;have c5:=Aa F.out 5;have f5:=Ac F.out 5;have a6:=Ab F.out;go_wp2_with fail
 go_end0
 obtain rfl:r=.ok (dIf a b x,j3):=by simp only[okX,Option.some.injEq] at U;exact U.symm
 have a3:=F8.out.size;have V:(l.setCell ⟨be,0,none⟩ (.int .i64 8)).heap.size=l.heap.size:=by simp
 have n:Fr (·≠be) l (l.setCell ⟨be,0,none⟩ (.int .i64 8)):=(Fr.refl _ _).set (by simp) _;have E9:Ao (l.setCell ⟨be,0,none⟩ (.int .i64 8)) be 8 op nm0 n0 a0 none 0 0:=F.out.sort 8;obtain⟨hT,hF⟩:=Hy (lo:=w.heap.size) E9 (m:=3) (vs:=#[.pointer (some ⟨Q,0,none⟩),.pointer (some ⟨bb,0,none⟩),.pointer (some ⟨bx,0,none⟩)]) (kids:=[a,b,x]) (x:=dIf a b x) rfl (by omega) (fun k y q=>by
   match k with
   | 0=>simp at q;subst q;exact⟨_,rfl,a1.out.fr (n.mono fun _ _=>by omega) fun _ _ q=>by omega⟩
   | 1=>simp at q;subst q;exact⟨_,rfl,a2.out.fr (n.mono fun _ _=>by omega) fun _ _ q=>by omega⟩
   | 2=>simp at q;subst q;exact⟨_,rfl,P.out.fr (n.mono fun _ _=>by omega) fun _ _ q=>by omega⟩
   | k+3=>simp at q) (by rw[V];exact a3)
  (.inr (.inr (.inr (.inr (.inr (.inr (.inr (.inr (.inl ⟨rfl,a,b,x,rfl,rfl⟩)))))))))
 rw[V] at hT hF;exact⟨(F8.out.trans (n.mono fun _ q=>q.2)).trans (hF.mono fun _ q=>q.2),rfl,hT,RdF.of (RdF.of R8.out n (Ne.symm hbe)) hF (Ne.symm hbe)⟩
end Go.Proofs.YtjbfcadeapphbaaGreatDoor.Sx
namespace Go.Proofs.YtjbfcadeapphbaaGreatDoor.Sx
set_option maxRecDepth 100000
set_option maxHeartbeats 1000000
open Go.RowKit Go.Sort
theorem C2 {γ:Type}{K:Nat->Tk}{d i:Nat}{k:Nat->RX γ}{r:Except (Nat×Nat) (γ×Nat)}(hd:d<=24)(h:Bw K d i k=some r):(d<24/\k (i+1)=some r)\/(d=24/\r=.error (6,(K i).at')):=by
 unfold Bw at h;by_cases q:d=24
 ·rw[if_pos q] at h;simp only[Ck,Option.some.injEq] at h;exact .inr ⟨q,h.symm⟩
 ·rw[if_neg q] at h;exact .inl ⟨by omega,h⟩
theorem Fr.fresh {br be:Nat}{w w2 w3:World}(F:Fr (·≠br) w w2)(hf:Fr (fun k=>k≠br/\k≠be) w2 w3)(h:w.heap.size<=be):Fr (·≠br) w w3 :=
 ⟨hf.os.trans F.os,hf.tape.trans F.tape,hf.output.trans F.output,Nat.le_trans F.size hf.size,fun k hk hq=>(hf.block k (Nat.lt_of_lt_of_le hk F.size) ⟨hq,by omega⟩).trans (F.block k hk hq)⟩
theorem I1 {w w2 w3 w4:World}{br be:Nat}{t:ByteArray}{d j:Nat}{x:PX}{r:Except (Nat×Nat) (PX×Nat)}(hw:w.heap.size<=be)(hlb:br<w.heap.size)(F:Fr (·≠br) w w2)(hf:Fr (fun k=>k≠br/\k≠be) w2 w3)(hT:Af (fun k=>k=be\/w2.heap.size<=k) w3 x (.pointer (some ⟨be,0,none⟩)))(e:r=.ok (x,j))(hr:RdF w4 br t j d)(hf4:Fr (·≠br) w3 w4) :
  Cr w br t d r (.returned (.pointer (some ⟨be,0,none⟩))) w4:=by
 subst e;have:=F.size;exact⟨(F.fresh hf hw).trans hf4,⟨_,rfl,hT.fr (hf4.mono fun k q=>by omega) fun k _ q=>by omega⟩,hr⟩
theorem Ll {w w2 w3:World}{br be:Nat}{t:ByteArray}{d c p:Nat}(hw:w.heap.size<=be)(F:Fr (·≠br) w w2)(hf:Fr (fun k=>k≠br/\k≠be) w2 w3):Cr w br t d (.error (c,p)) (Flt c p) w3:=⟨F.fresh hf hw,rfl⟩
theorem S1 {br:Nat}{t:ByteArray}{self:Nat->Nat->Nat->RX PX}(hS:Ax br t self)(w:World)(d i:Nat)(hd:d<=24)(ht:t.size<=4000)(hI:Bl w br)(hr:RdF w br t i d)(ho:Dm.contains (txF t.data.toList i)=true)
  (r:Except (Nat×Nat) (PX×Nat)) (h:Cn (tkF t.data.toList) self d i=some r) :
  Calls Tryz.prog 127 #[.pointer (some ⟨br,0,none⟩)] w (Cr w br t d r):=by
 have V:Hid (Ax br t self):=hS;have Q:Hid (Bl w br):=hI;have U:Hid (RdF w br t i d):=hr;have Y:=Ab hr;have h1:=Aa hr 1;have h2:=Aa hr 2;clear hI hS hr;have mo:=follows;go_enter Tryz.func127,Tryz.ntmps127
 have G:=RdF.of U.out (P:=fun _=>True) (Fr.grew (Ag.refl w).drew) trivial;have k1:=Aa G 1;have k2:=Aa G 2;clear G;go_wp2_with fail
 go_big_region_o
 have N:Hid (Ao (w.alloc (.cells #[.int .i64 0,.string ⟨#[]⟩,.string ⟨#[]⟩,.int .i64 0,.int .i64 (atF t.data.toList i:Int),.slice none 0 0] 81)).drew w.heap.size 0 ⟨#[]⟩ ⟨#[]⟩ 0 (atF t.data.toList i) none 0 0):=Ao.of (w:=w.alloc (.cells #[.int .i64 0,.string ⟨#[]⟩,.string ⟨#[]⟩,.int .i64 0,.int .i64 (atF t.data.toList i:Int),.slice none 0 0] 81)) (P:=fun _=>True) (Aj rfl) (Fr.refl _ _).drew trivial;have O:Hid (Fr (·≠br) w (w.alloc (.cells #[.int .i64 0,.string ⟨#[]⟩,.string ⟨#[]⟩,.int .i64 0,.int .i64 (atF t.data.toList i:Int),.slice none 0 0] 81)).drew):=((Fr.refl _ w).alloc _).drew;have R:Hid (RdF (w.alloc (.cells #[.int .i64 0,.string ⟨#[]⟩,.string ⟨#[]⟩,.int .i64 0,.int .i64 (atF t.data.toList i:Int),.slice none 0 0] 81)).drew br t i d):=RdF.of U.out (P:=fun _=>True) (((Fr.refl _ w).alloc _).drew) trivial;clear h1 h2 k1 k2 U;generalize (w.alloc (.cells #[.int .i64 0,.string ⟨#[]⟩,.string ⟨#[]⟩,.int .i64 0,.int .i64 (atF t.data.toList i:Int),.slice none 0 0] 81)).drew=w1 at N O R |-;obtain⟨b,F⟩:∃b,w.heap.size=b:=⟨_,rfl⟩;have n:Hid (w.heap.size=b):=F;rw[F] at N Y |-;clear F;have o:b≠br:=by omega
 have E:=Q.out.new (Nat.le_of_eq n.out);go_wp2_with fail
 rcases C2 hd h with⟨X,s⟩|⟨rfl,rfl⟩
 case inr =>
  refine(Dg w1 br t i R.out).mono ?_;rintro e g ⟨rfl,rfl⟩;exact⟨rfl,O.out,rfl⟩
 refine(Ez w1 br t i d R.out ht X).mono ?_;rintro e g ⟨rfl,hr,a⟩;have S:Hid (RdF g br t (i+1) (d+1)):=hr;have D:Hid (Ao g b 0 ⟨#[]⟩ ⟨#[]⟩ 0 (atF t.data.toList i) none 0 0):=N.out.of a o;have v:Hid (Fr (·≠br) w g):=O.out.trans a;have a1:b<g.heap.size:=Ab D.out;clear hr a N O R h;have T:Hid (∀(W:World)(k:Nat),_):=fun W k h=>Dz W br t k d h (by omega);have f:(pcF t i).toList=txF t.data.toList i:=by rw[ByteArray.toList_eq,A5]
 have m:(pcF t i).data.toList=txF t.data.toList i:=A5 t i;have u:(tkF t.data.toList i).tx=txF t.data.toList i:=rfl;simp only[u] at s;generalize pcF t i=pc at f m |-;by_cases B:txF t.data.toList i=wIf
 ·have g1:(pc.toList==[105,102])=true:=by rw[f,B];rfl
  rw[B,if_pos (by decide)] at s;clear f m u B ho;have q:Hid (Calls _ _ _ _ _):=Ux V.out g b (d+1) (i+1) 0 _ _ _ 0 (by omega) ht o E (Q.out.fr v.out) S.out D.out r s;go_wp2_with fail
  refine q.out.mono ?_;rintro e l ⟨a,A⟩;rcases r with⟨c,p⟩|⟨x,j⟩
  ·obtain rfl:=A;exact⟨rfl,Ll (by have:=n.out;omega) v.out a⟩
  ·obtain⟨rfl,z,hr⟩:=A;have K:Hid (Af _ l x _):=z;have I:Hid (RdF l br t j (d+1)):=hr;have y:Hid (Fr _ g l):=a;clear z hr a q;go_wp2_with (go_at_call 146;refine(T.out _ _ I.out).mono ?_;rintro e C ⟨rfl,hr,a⟩;have L:Hid (RdF C br t j d):=hr;have J:Hid (Fr (·≠br) l C):=a;clear hr a)
   go_ret
   exact I1 (by have:=n.out;omega) (by have:=n.out;omega) v.out y.out K.out rfl L.out J.out
 have g1:(pc.toList==[105,102])=false:=by rw[f];simpa [wIf] using B
 rw[if_neg (by simpa using B)] at s;by_cases H:txF t.data.toList i=Qj
 ·have g2:(pc.toList==[108,101,116])=true:=by rw[f,H];rfl
  rw[H,if_pos (by decide)] at s;clear f m u B H ho;have q:Hid (Calls _ _ _ _ _):=Uw V.out g b (d+1) (i+1) 0 _ _ _ 0 (by omega) ht o E (Q.out.fr v.out) S.out D.out r s;go_wp2_with fail
  refine q.out.mono ?_;rintro e l ⟨a,A⟩;rcases r with⟨c,p⟩|⟨x,j⟩
  ·obtain rfl:=A;exact⟨rfl,Ll (by have:=n.out;omega) v.out a⟩
  ·obtain⟨rfl,z,hr⟩:=A;have K:Hid (Af _ l x _):=z;have I:Hid (RdF l br t j (d+1)):=hr;have y:Hid (Fr _ g l):=a;clear z hr a q;go_wp2_with (go_at_call 146;refine(T.out _ _ I.out).mono ?_;rintro e C ⟨rfl,hr,a⟩;have L:Hid (RdF C br t j d):=hr;have J:Hid (Fr (·≠br) l C):=a;clear hr a)
   go_ret
   exact I1 (by have:=n.out;omega) (by have:=n.out;omega) v.out y.out K.out rfl L.out J.out
 have g2:(pc.toList==[108,101,116])=false:=by rw[f];simpa [Qj] using H
 rw[if_neg (by simpa using H)] at s;have E3:Hid (Ao (g.setCell ⟨b,1,none⟩ (.string pc)) b 0 pc ⟨#[]⟩ 0 (atF t.data.toList i) none 0 0):=D.out.op pc;have I:Hid (RdF (g.setCell ⟨b,1,none⟩ (.string pc)) br t (i+1) (d+1)):=S.out.setB (Ne.symm o) _;have y:Hid (Fr (·≠br) w (g.setCell ⟨b,1,none⟩ (.string pc))):=v.out.setB (by have:=n.out;simp;omega) _;have c1:=Aa D.out 1;have f1:=Ac D.out 1;have M:pc.data.toList∈Iu\/pc.data.toList∈Cp:=by
  rw[m];simp only[Dm,List.contains_cons,List.contains_nil,Bool.or_false,Bool.or_eq_true,beq_iff_eq] at ho;refine .inl ?_;simp only[Iu,List.mem_cons,List.not_mem_nil,or_false];rcases ho with ho|ho|ho
  ·exact absurd ho B
  ·exact absurd ho H
  ·exact ho
 rw[<- m] at s;have q:Hid (Calls _ _ _ _ _):=Kx V.out (g.setCell ⟨b,1,none⟩ (.string pc)) b (d+1) (i+1) 0 _ pc _ 0 (by omega) ht o E (Q.out.fr y.out) I.out E3.out M r s;clear f m u B H ho M D S v E3 I;have a0:(g.setCell ⟨b,1,none⟩ (.string pc)).heap.size=g.heap.size:=by simp
 have Z:b<(g.setCell ⟨b,1,none⟩ (.string pc)).heap.size:=by omega
 clear a0;go_wp2_with fail
 refine q.out.mono ?_;clear c1 f1;generalize g.setCell ⟨b,1,none⟩ (.string pc)=w2' at y q Z |-;rintro e l ⟨a,A⟩;rcases r with⟨c,p⟩|⟨x,j⟩
 ·obtain rfl:=A;exact⟨rfl,Ll (by have:=n.out;omega) y.out a⟩
 ·obtain⟨rfl,z,hr⟩:=A;have K:Hid (Af _ l x _):=z;have L:Hid (RdF l br t j (d+1)):=hr;have J:Hid (Fr _ w2' l):=a;clear z hr a q;go_wp2_with (go_at_call 146;refine(T.out _ _ L.out).mono ?_;rintro e C ⟨rfl,hr,a⟩;have R5:Hid (RdF C br t j d):=hr;have F5:Hid (Fr (·≠br) l C):=a;clear hr a)
  go_ret
  exact I1 (by have:=n.out;omega) (by have:=n.out;omega) y.out J.out K.out rfl R5.out F5.out
theorem Cr.from {w w1:World}{br:Nat}{t:ByteArray}{d:Nat}{r:Except (Nat×Nat) (PX×Nat)}{e:Ending}{w':World}(F:Fr (·≠br) w w1)(h:Cr w1 br t d r e w'):Cr w br t d r e w':=by
 obtain⟨b,a⟩:=h;have:=F.size;refine⟨F.trans b,?_⟩;rcases r with⟨c,p⟩|⟨x,j⟩
 ·exact a
 ·obtain⟨⟨v,rfl,g⟩,f⟩:=a;exact⟨⟨v,rfl,g.fr (Fr.refl _ _) fun _ _ q=>by omega⟩,f⟩
theorem O3 {br:Nat}{t:ByteArray}{self:Nat->Nat->Nat->RX PX}(hS:Ax br t self)(w:World)(d i rk:Nat)(hd:d<=24)(ht:t.size<=4000)(hI:Bl w br)(hr:RdF w br t i d)(ho:rk=6/\De.contains (txF t.data.toList i)=true\/rk=12/\Cf.contains (txF t.data.toList i)=true)
  (r:Except (Nat×Nat) (PX×Nat)) (h:Dn (tkF t.data.toList) self rk d i=some r) :
  Calls Tryz.prog 128 #[.pointer (some ⟨br,0,none⟩),.int .i64 (rk:Int)] w (Cr w br t d r):=by
 have HS:Hid (Ax br t self):=hS;have HI:Hid (Bl w br):=hI;have HR:Hid (RdF w br t i d):=hr;have Z:=Ab hr;have h1:=Aa hr 1;have h2:=Aa hr 2;clear hI hS hr;have mo:=follows;have HO:Hid (∀W:World,Calls Tryz.prog 130 #[.string (pcF t i)] W fun e w'=>e=.returned (.int .i64 (Jy (pcF t i).data.toList:Int))/\Ag W w'):=fun W=>(Kq (pcF t i) W).mono fun e w' h=>⟨h.1,by rw[h.2];exact Ag.refl _⟩;have a1:Hid (∀W,Ag w W->W.cell? ⟨br,1,none⟩=some (.int .i64 (atF t.data.toList i:Int))/\W.cell? ⟨br,2,none⟩=some (.string (pcF t i))):=by
  intro W g;have h:=RdF.of HR.out (P:=fun _=>True) (Fr.grew g) trivial;exact⟨Aa h 1,Aa h 2⟩
 go_enter Tryz.func128,Tryz.ntmps128
 go_wp2_with fail
 go_region_held3 (fun w'=>w'.cell? ⟨br,1,none⟩=some (.int .i64 (atF t.data.toList i:Int))/\w'.cell? ⟨br,2,none⟩=some (.string (pcF t i))) (first|(constructor<;>assumption)|go_keep)
    ((go_at_call 130;refine(HO.out _).mono ?_;rintro e w' ⟨rfl,hg⟩;obtain⟨j0,j1⟩:=a1.out _ ((Ag.refl w).drew.trans hg);have HG:Hid (Ag w w'):=(Ag.refl w).drew.trans hg;have j2:br<w'.heap.size:=Nat.lt_of_lt_of_le Z HG.out.below.size;clear hg))
 obtain⟨A,C⟩:∃A,Jy (pcF t i).data.toList=A:=⟨_,rfl⟩;have a3:Hid (Jy (pcF t i).data.toList=A):=C;rw[C];have H:Hid (Ao (w'.alloc (.cells #[.int .i64 (A:Int),.string (pcF t i),.string ⟨#[]⟩,.int .i64 0,.int .i64 (atF t.data.toList i:Int),.slice none 0 0] 81)) w'.heap.size A (pcF t i) ⟨#[]⟩ 0 (atF t.data.toList i) none 0 0):=Aj rfl;have I:Hid (Fr (·≠br) w (w'.alloc (.cells #[.int .i64 (A:Int),.string (pcF t i),.string ⟨#[]⟩,.int .i64 0,.int .i64 (atF t.data.toList i:Int),.slice none 0 0] 81))):=(Fr.grew HG.out).alloc _;have S:Hid (RdF (w'.alloc (.cells #[.int .i64 (A:Int),.string (pcF t i),.string ⟨#[]⟩,.int .i64 0,.int .i64 (atF t.data.toList i:Int),.slice none 0 0] 81)) br t i d):=RdF.of HR.out (P:=fun _=>True) ((Fr.grew HG.out).alloc _) trivial;have HB:Hid (w.heap.size<=w'.heap.size):=HG.out.below.size;clear h1 h2 HR a1 HO j0 j1 C HG;generalize hW:w'.alloc _=w1 at H I S |-;clear hW;obtain⟨f,a2⟩:∃f,w'.heap.size=f:=⟨_,rfl⟩;rw[a2] at H HB j2 |-;clear a2;have z:f≠br:=by omega
 have h2:=Aa S.out 2;have l:(pcF t i).toList=txF t.data.toList i:=by rw[ByteArray.toList_eq,A5]
 have F:(pcF t i).data.toList=txF t.data.toList i:=A5 t i;have G:(tkF t.data.toList i).tx=txF t.data.toList i:=rfl;unfold Dn at h;simp only[G] at h;have HN:Hid (∀(s rk:Nat)(op:List UInt8),_):=fun s rk op hs r h=>Uv w1 br t i d s rk op hs S.out ht r h;by_cases M:txF t.data.toList i=C8
 ·have g1:((pcF t i).toList==[101,110,97,98,108,101,100])=true:=by rw[l,M];rfl
  rw[M] at h ho;have n:rk=6:=by
   rcases ho with⟨e,-⟩|⟨-,e⟩
   ·exact e
   ·exact absurd e (by decide)
  rw[if_pos (by decide)] at h;have HC:Hid (Calls _ _ _ _ _):=HN.out 7 rk C8 (.inl ⟨rfl,n,rfl⟩) r h;clear l F G M ho h HN n;go_wp2_with fail
  refine HC.out.mono ?_;rintro e w2 hp;rcases r with⟨c,p⟩|⟨x,j⟩
  ·obtain⟨b,rfl⟩:=hp;exact⟨rfl,I.out.trans b,rfl⟩
  ·have HH:=Cr.from I.out hp;obtain⟨b,⟨v,rfl,L⟩,hr⟩:=hp;have R:Hid (Cr w br t d (.ok (x,j)) (.returned v) w2):=HH;clear HH b L hr HC;go_wp2_with fail
   go_ret
   exact R.out
 have g1:((pcF t i).toList==[101,110,97,98,108,101,100])=false:=by rw[l];simpa [C8] using M
 by_cases N:txF t.data.toList i=Cd
 ·have g2:((pcF t i).toList==[117,110,99,104,97,110,103,101,100])=true:=by rw[l,N];rfl
  rw[N] at h ho;have n:rk=12:=by
   rcases ho with⟨-,e⟩|⟨e,-⟩
   ·exact absurd e (by decide)
   ·exact e
  rw[if_pos (by decide)] at h;have HC:Hid (Calls _ _ _ _ _):=HN.out 6 rk Cd (.inr ⟨rfl,n,rfl⟩) r h;clear l F G M N ho h HN n;go_wp2_with fail
  refine HC.out.mono ?_;rintro e w2 hp;rcases r with⟨c,p⟩|⟨x,j⟩
  ·obtain⟨b,rfl⟩:=hp;exact⟨rfl,I.out.trans b,rfl⟩
  ·have HH:=Cr.from I.out hp;obtain⟨b,⟨v,rfl,L⟩,hr⟩:=hp;have R:Hid (Cr w br t d (.ok (x,j)) (.returned v) w2):=HH;clear HH b L hr HC;go_wp2_with fail
   go_ret
   exact R.out
 have g2:((pcF t i).toList==[117,110,99,104,97,110,103,101,100])=false:=by rw[l];simpa [Cd] using N
 rw[if_neg (by simp[M,N])] at h;clear HN;have HL:Hid (∀(W:World)(k:Nat),_):=fun W k h=>Dz W br t k d h (by omega);have n:rk<=12:=by omega
 have C:A=11\/A=12:=by
  have:=a3.out;unfold Jy at this;split at this<;>omega
 have a6:f<w1.heap.size:=Ab H.out;by_cases q3:txF t.data.toList i=Ks
 ·have g3:((pcF t i).toList==[45])=true:=by rw[l,q3];rfl
  have E:rk=12:=by
   rw[q3] at ho;rcases ho with⟨-,e⟩|⟨e,-⟩
   ·exact absurd e (by decide)
   ·exact e
  have HM:Hid (∀a,Lk (⟨#[110,101,103]⟩:ByteArray).data.toList [a] (Em rk (txF t.data.toList i) a)):=fun a=>.inr (.inr (.inr (.inr (.inr (.inr (.inl ⟨rfl,a,rfl,by rw[E,q3]⟩))))));have c1:=Aa H.out 1;have f1:=Ac H.out 1;have E2:Hid (Ao (w1.setCell ⟨f,1,none⟩ (.string ⟨#[110,101,103]⟩)) f A ⟨#[110,101,103]⟩ ⟨#[]⟩ 0 (atF t.data.toList i) none 0 0):=H.out.op _;have T:Hid (RdF (w1.setCell ⟨f,1,none⟩ (.string ⟨#[110,101,103]⟩)) br t i d):=S.out.setB (Ne.symm z) _;have Q:Hid (Fr (·≠br) w (w1.setCell ⟨f,1,none⟩ (.string ⟨#[110,101,103]⟩))):=I.out.setB HB.out _;clear l F G M N q3 ho E H S I;go_wp2_with fail
  rcases C2 hd h with⟨Y,hk⟩|⟨rfl,rfl⟩
  case inr =>
   refine(Dg (w1.setCell ⟨f,1,none⟩ (.string ⟨#[110,101,103]⟩)) br t i T.out).mono ?_;rintro e o ⟨rfl,rfl⟩;exact⟨rfl,Q.out,rfl⟩
  refine(Ez (w1.setCell ⟨f,1,none⟩ (.string ⟨#[110,101,103]⟩)) br t i d T.out ht Y).mono ?_;rintro e o ⟨rfl,hr,b⟩;have U:Hid (RdF o br t (i+1) (d+1)):=hr;have O:Hid (Ao o f A ⟨#[110,101,103]⟩ ⟨#[]⟩ 0 (atF t.data.toList i) none 0 0):=E2.out.of b z;have J:Hid (Fr (·≠br) w o):=Q.out.trans b;have a4:f<o.heap.size:=Ab O.out;clear hr b E2 Q T h;go_wp2_with fail
  rcases Aq hk with⟨⟨c,p⟩,K,rfl⟩|⟨a,j,K,u⟩
  ·refine(HS.out o rk (d+1) _ _ n (by omega) (HI.out.fr J.out) U.out K).mono ?_;rintro e B ⟨b,rfl⟩;exact⟨rfl,J.out.trans b,rfl⟩
  refine(HS.out o rk (d+1) _ _ n (by omega) (HI.out.fr J.out) U.out K).mono ?_;rintro e B ⟨b,⟨va,rfl,L⟩,hr⟩;have R4:Hid (RdF B br t j (d+1)):=hr;have D:Hid (Ao B f A ⟨#[110,101,103]⟩ ⟨#[]⟩ 0 (atF t.data.toList i) none 0 0):=O.out.of b z;have F4:Hid (Fr (·≠br) o B):=b;have V:Hid (Af (fun k=>o.heap.size<=k) B a va):=L;have a5:f<B.heap.size:=Ab D.out;have a0:=b.size;clear hr b L K hk O U;obtain⟨ba,rfl,-,-⟩:=V.out.ptr;have c5:=Aa D.out 5;have f5:=Ac D.out 5;obtain⟨hT,X⟩:=Hy (lo:=o.heap.size) D.out (m:=1) (vs:=#[.pointer (some ⟨ba,0,none⟩)]) (kids:=[a]) (x:=Em rk (txF t.data.toList i) a) rfl (by omega) (fun k y q=>by
    match k with
    | 0=>simp at q;subst q;exact⟨_,rfl,V.out.fr (Fr.refl _ _) fun _ _ q=>by omega⟩
    | k+1=>simp at q) a0
   (.inr (.inr (.inr (.inr (.inr (.inr (.inr (.inr (.inr (.inr (.inr ⟨C,HM.out a⟩)))))))))))
  have T5:Hid (Af _ _ _ _):=hT;have F5:Hid (Fr (·≠f) B _):=X;have R5:Hid (RdF _ br t j (d+1)):=RdF.of R4.out X (Ne.symm z);have HE:Hid (r=.ok (Em rk (txF t.data.toList i) a,j)):=by simp only[okX,Option.some.injEq] at u;exact u.symm
  clear hT X u D R4 V;go_wp2_with (go_at_call 146;refine(HL.out _ _ R5.out).mono ?_;rintro e w6 ⟨rfl,hr,b⟩;have R6:Hid (RdF w6 br t j d):=hr;have F6:Hid (Fr (·≠br) _ w6):=b;clear hr b)
  go_ret
  exact I1 HB.out Z J.out (F4.out.two.trans (F5.out.mono fun _ q=>q.2)) T5.out HE.out R6.out F6.out
 have g3:((pcF t i).toList==[45])=false:=by rw[l];simpa [Ks] using q3
 have HM:Hid (∀a,Lk (pcF t i).data.toList [a] (Em rk (txF t.data.toList i) a)):=by
  intro a;rw[F];rcases ho with⟨rfl,ho⟩|⟨rfl,ho⟩
  ·refine .inr (.inr (.inr (.inr (.inr (.inr (.inr (.inl ⟨?_,a,rfl,rfl⟩)))))));simp only[De,List.contains_cons,List.contains_nil,Bool.or_false,Bool.or_eq_true,beq_iff_eq] at ho;simp only[Hf,List.mem_cons,List.not_mem_nil,or_false];rcases ho with ho|ho|ho|ho
   ·exact .inl ho
   ·exact .inr (.inl ho)
   ·exact .inr (.inr ho)
   ·exact absurd ho M
  ·refine .inr (.inr (.inr (.inr (.inr (.inr (.inr (.inr (.inl ⟨?_,a,rfl,rfl⟩))))))));simp only[Cf,List.contains_cons,List.contains_nil,Bool.or_false,Bool.or_eq_true,beq_iff_eq] at ho;simp only[Gr,List.mem_cons,List.not_mem_nil,or_false];rcases ho with ho|ho|ho|ho|ho
   ·exact absurd ho q3
   ·exact .inl ho
   ·exact .inr (.inl ho)
   ·exact .inr (.inr ho)
   ·exact absurd ho N
 have E2:Hid (Ao w1 f A (pcF t i) ⟨#[]⟩ 0 (atF t.data.toList i) none 0 0):=H.out;have T:Hid (RdF w1 br t i d):=S.out;have Q:Hid (Fr (·≠br) w w1):=I.out;clear l F G M N q3 ho H S I;go_wp2_with fail
 rcases C2 hd h with⟨Y,hk⟩|⟨rfl,rfl⟩
 case inr =>
  refine(Dg w1 br t i T.out).mono ?_;rintro e o ⟨rfl,rfl⟩;exact⟨rfl,Q.out,rfl⟩
 refine(Ez w1 br t i d T.out ht Y).mono ?_;rintro e o ⟨rfl,hr,b⟩;have U:Hid (RdF o br t (i+1) (d+1)):=hr;have O:Hid (Ao o f A (pcF t i) ⟨#[]⟩ 0 (atF t.data.toList i) none 0 0):=E2.out.of b z;have J:Hid (Fr (·≠br) w o):=Q.out.trans b;have a4:f<o.heap.size:=Ab O.out;clear hr b E2 Q T h;go_wp2_with fail
 rcases Aq hk with⟨⟨c,p⟩,K,rfl⟩|⟨a,j,K,u⟩
 ·refine(HS.out o rk (d+1) _ _ n (by omega) (HI.out.fr J.out) U.out K).mono ?_;rintro e B ⟨b,rfl⟩;exact⟨rfl,J.out.trans b,rfl⟩
 refine(HS.out o rk (d+1) _ _ n (by omega) (HI.out.fr J.out) U.out K).mono ?_;rintro e B ⟨b,⟨va,rfl,L⟩,hr⟩;have R4:Hid (RdF B br t j (d+1)):=hr;have D:Hid (Ao B f A (pcF t i) ⟨#[]⟩ 0 (atF t.data.toList i) none 0 0):=O.out.of b z;have F4:Hid (Fr (·≠br) o B):=b;have V:Hid (Af (fun k=>o.heap.size<=k) B a va):=L;have a5:f<B.heap.size:=Ab D.out;have a0:=b.size;clear hr b L K hk O U;obtain⟨ba,rfl,-,-⟩:=V.out.ptr;have c5:=Aa D.out 5;have f5:=Ac D.out 5;obtain⟨hT,X⟩:=Hy (lo:=o.heap.size) D.out (m:=1) (vs:=#[.pointer (some ⟨ba,0,none⟩)]) (kids:=[a]) (x:=Em rk (txF t.data.toList i) a) rfl (by omega) (fun k y q=>by
   match k with
   | 0=>simp at q;subst q;exact⟨_,rfl,V.out.fr (Fr.refl _ _) fun _ _ q=>by omega⟩
   | k+1=>simp at q) a0
  (.inr (.inr (.inr (.inr (.inr (.inr (.inr (.inr (.inr (.inr (.inr ⟨C,HM.out a⟩)))))))))))
 have T5:Hid (Af _ _ _ _):=hT;have F5:Hid (Fr (·≠f) B _):=X;have R5:Hid (RdF _ br t j (d+1)):=RdF.of R4.out X (Ne.symm z);have HE:Hid (r=.ok (Em rk (txF t.data.toList i) a,j)):=by simp only[okX,Option.some.injEq] at u;exact u.symm
 clear hT X u D R4 V;go_wp2_with (go_at_call 146;refine(HL.out _ _ R5.out).mono ?_;rintro e w6 ⟨rfl,hr,b⟩;have R6:Hid (RdF w6 br t j d):=hr;have F6:Hid (Fr (·≠br) _ w6):=b;clear hr b)
 go_ret
 exact I1 HB.out Z J.out (F4.out.two.trans (F5.out.mono fun _ q=>q.2)) T5.out HE.out R6.out F6.out
def Rl (lo:Nat)(w:World)(br:Nat)(t:ByteArray)(d:Nat)(r:Except (Nat×Nat) (PX×Nat))(e:Ending)(w':World):Prop :=
 Fr (·≠br) w w'/\match r with
  | .ok (x,j)=>(∃v,e=.returned v/\Af (fun k=>lo<=k) w' x v)/\RdF w' br t j d
  | .error (c,p)=>e=Flt c p
theorem M6 {br:Nat}{t:ByteArray}{self:Nat->Nat->Nat->RX PX}(hS:Ax br t self)(w:World)(lo d i lv:Nat)(x:PX)(v:Value)(hd:d<=24)(ht:t.size<=4000)(hI:Bl w br)(hr:RdF w br t i d)(hlo:lo<=w.heap.size)(hbl:br<lo)(hx:Af (fun k=>lo<=k) w x v)(hlv:Ae (txF t.data.toList i)=lv)(hl0:lv≠0)
  (r:Except (Nat×Nat) (PX×Nat)) (h:bX (self (Bg lv) d (i+1)) (fun y j=>okX (I0 (txF t.data.toList i) x y) j)=some r) :
  Calls Tryz.prog 94 #[.pointer (some ⟨br,0,none⟩),v,Jn lv] w (Rl lo w br t d r):=by
 have HS:Hid (Ax br t self):=hS;have HI:Hid (Bl w br):=hI;have HR:Hid (RdF w br t i d):=hr;have a3:=Ab hr;have h1:=Aa hr 1;have h2:=Aa hr 2;clear hI hS hr;have mo:=follows;unfold Jn;rw[if_neg hl0];obtain⟨B,rfl,-,-⟩:=hx.ptr;have HX:Hid (Af (fun k=>lo<=k) w x _):=hx;clear hx;go_enter Tryz.func94,Tryz.ntmps94
 go_wp2_with fail
 have G:Hid ((w.alloc (.cells #[.int .i64 (lv:Int),.int .i64 (Bh lv:Int),.int .i64 (Bg lv:Int)] 130)).heap[w.heap.size]?=some (.cells #[.int .i64 (lv:Int),.int .i64 (Bh lv:Int),.int .i64 (Bg lv:Int)] 130 (0,0))):=Aj rfl;have Z:Hid (Fr (·≠br) w (w.alloc (.cells #[.int .i64 (lv:Int),.int .i64 (Bh lv:Int),.int .i64 (Bg lv:Int)] 130))):=(Fr.refl _ w).alloc _;have I:Hid (RdF (w.alloc (.cells #[.int .i64 (lv:Int),.int .i64 (Bh lv:Int),.int .i64 (Bg lv:Int)] 130)) br t i d):=RdF.of HR.out (P:=fun _=>True) ((Fr.refl _ w).alloc _) trivial;have X:Hid (Af (fun k=>lo<=k) (w.alloc (.cells #[.int .i64 (lv:Int),.int .i64 (Bh lv:Int),.int .i64 (Bg lv:Int)] 130)) x (.pointer (some ⟨B,0,none⟩))):=HX.out.fr ((Fr.refl _ w).alloc _) fun _ _ q=>q;clear h1 h2 HR HX;generalize w.alloc (.cells #[.int .i64 (lv:Int),.int .i64 (Bh lv:Int),.int .i64 (Bg lv:Int)] 130)=w0 at G Z I X |-;obtain⟨u,C⟩:∃u,w.heap.size=u:=⟨_,rfl⟩;rw[C] at G a3 hlo |-;have H:Hid (w.heap.size=u):=C;clear C;have HO:Hid (∀W:World,Calls Tryz.prog 130 #[.string (pcF t i)] W fun e w'=>e=.returned (.int .i64 (Jy (pcF t i).data.toList:Int))/\Ag W w'):=fun W=>(Kq (pcF t i) W).mono fun e w' h=>⟨h.1,by rw[h.2];exact Ag.refl _⟩;have A:Hid (∀W,Ag w0 W->W.cell? ⟨br,1,none⟩=some (.int .i64 (atF t.data.toList i:Int))/\W.cell? ⟨br,2,none⟩=some (.string (pcF t i))):=by
  intro W g;have h:=RdF.of I.out (P:=fun _=>True) (Fr.grew g) trivial;exact⟨Aa h 1,Aa h 2⟩
 obtain⟨h1,h2⟩:=A.out w0 (Ag.refl _);have M:br<w0.heap.size:=Ab I.out;have K:u<w0.heap.size:=Ab G.out;go_region_held3 (fun w'=>w'.cell? ⟨br,1,none⟩=some (.int .i64 (atF t.data.toList i:Int))/\w'.cell? ⟨br,2,none⟩=some (.string (pcF t i))) (first|(constructor<;>assumption)|go_keep)
    ((go_at_call 130;refine(HO.out _).mono ?_;rintro e w' ⟨rfl,hg⟩;obtain⟨j0,j1⟩:=A.out _ ((Ag.refl w0).drew.trans hg);have U:Hid (Ag w0 w'):=(Ag.refl w0).drew.trans hg;have j2:br<w'.heap.size:=Nat.lt_of_lt_of_le M U.out.below.size;clear hg))
 obtain⟨b,n⟩:∃b,Jy (pcF t i).data.toList=b:=⟨_,rfl⟩;have a0:Hid (Jy (pcF t i).data.toList=b):=n;rw[n];have F:Hid (Ao (w'.alloc (.cells #[.int .i64 (b:Int),.string ⟨#[]⟩,.string ⟨#[]⟩,.int .i64 0,.int .i64 (atF t.data.toList i:Int),.slice none 0 0] 81)) w'.heap.size b ⟨#[]⟩ ⟨#[]⟩ 0 (atF t.data.toList i) none 0 0):=Aj rfl;have l:Fr (fun _=>True) w0 (w'.alloc (.cells #[.int .i64 (b:Int),.string ⟨#[]⟩,.string ⟨#[]⟩,.int .i64 0,.int .i64 (atF t.data.toList i:Int),.slice none 0 0] 81)):=(Fr.grew U.out).alloc _;have F1:Hid (Fr (·≠br) w (w'.alloc (.cells #[.int .i64 (b:Int),.string ⟨#[]⟩,.string ⟨#[]⟩,.int .i64 0,.int .i64 (atF t.data.toList i:Int),.slice none 0 0] 81))):=Z.out.trans (l.mono fun _ _=>trivial);have R1:Hid (RdF (w'.alloc (.cells #[.int .i64 (b:Int),.string ⟨#[]⟩,.string ⟨#[]⟩,.int .i64 0,.int .i64 (atF t.data.toList i:Int),.slice none 0 0] 81)) br t i d):=RdF.of I.out l trivial;have X1:Hid (Af (fun k=>lo<=k/\k<w0.heap.size) (w'.alloc (.cells #[.int .i64 (b:Int),.string ⟨#[]⟩,.string ⟨#[]⟩,.int .i64 0,.int .i64 (atF t.data.toList i:Int),.slice none 0 0] 81)) x (.pointer (some ⟨B,0,none⟩))):=X.out.fr (l.mono fun _ _=>trivial) fun _ h q=>⟨q,h⟩;have T:Hid ((w'.alloc (.cells #[.int .i64 (b:Int),.string ⟨#[]⟩,.string ⟨#[]⟩,.int .i64 0,.int .i64 (atF t.data.toList i:Int),.slice none 0 0] 81)).heap[u]?=_):=(l.block u K trivial).trans G.out;have HB:Hid (w0.heap.size<=w'.heap.size):=U.out.below.size;have XP:=X.out.ptr;clear h1 h2 A HO j0 j1 n U I Z X G l;generalize hW:w'.alloc _=w1 at F F1 R1 X1 T |-;clear hW;obtain⟨a,J⟩:∃a,w'.heap.size=a:=⟨_,rfl⟩;rw[J] at F HB j2 |-;clear J;have hB:=HB.out;have s:a≠br:=by omega
 obtain⟨a1,L,a7,a6⟩:=XP;obtain rfl:B=a1:=by simpa using L
 have a5:a<w1.heap.size:=Ab F.out;have HT:Hid (∀W:World,_):=fun W h=>Ke W br t i d h ht;go_wp2_with (go_at_call 114;refine(HT.out _ R1.out).mono ?_;rintro e o ⟨rfl,hr,f⟩;have R2:Hid (RdF o br t (i+1) d):=hr;have Q:Hid (Ao o a b ⟨#[]⟩ ⟨#[]⟩ 0 (atF t.data.toList i) none 0 0):=F.out.of f s;have F2:Hid (Fr (·≠br) w o):=F1.out.trans f;have X2:Hid (Af (fun k=>lo<=k/\k<w0.heap.size) o x (.pointer (some ⟨B,0,none⟩))):=X1.out.fr (f.mono fun k q=>by omega) fun _ _ q=>q;have G2:Hid (o.heap[u]?=_):=(f.block u (Ab T.out) (by omega)).trans T.out;have c1:=Aa Q.out 1;have f1:=Ac Q.out 1;have q2:=Aa G2.out 2;clear hr f)
 have R:Hid (Ao (o.setCell ⟨a,1,none⟩ (.string (pcF t i))) a b (pcF t i) ⟨#[]⟩ 0 (atF t.data.toList i) none 0 0):=Q.out.op _;have V:Hid (RdF (o.setCell ⟨a,1,none⟩ (.string (pcF t i))) br t (i+1) d):=R2.out.setB (Ne.symm s) _;have E:Hid (Fr (·≠br) w (o.setCell ⟨a,1,none⟩ (.string (pcF t i)))):=F2.out.setB (by have:=H.out;simp;omega) _;have X3:Hid (Af (fun k=>lo<=k/\k<w0.heap.size) (o.setCell ⟨a,1,none⟩ (.string (pcF t i))) x (.pointer (some ⟨B,0,none⟩))):=X2.out.fr ((Fr.refl _ _).set (by simp;omega) _) fun _ _ q=>q;have a4:a<(o.setCell ⟨a,1,none⟩ (.string (pcF t i))).heap.size:=Ab R.out;clear c1 f1 q2 Q R2 F2 X2 G2 F R1 F1 X1 T HT;generalize o.setCell ⟨a,1,none⟩ (.string (pcF t i))=w3 at R V E X3 a4 |-;have N:Bg lv<=12:=by
  have:=Gg (txF t.data.toList i);unfold Bg;split<;>omega
 have O:(pcF t i).data.toList=txF t.data.toList i:=A5 t i;rcases Aq h with⟨⟨c,p⟩,Y,rfl⟩|⟨y,j,Y,hk⟩
 ·refine(HS.out w3 (Bg lv) d _ _ N hd (HI.out.fr E.out) V.out Y).mono ?_;rintro e D ⟨f,rfl⟩;exact⟨rfl,E.out.trans f,rfl⟩
 refine(HS.out w3 (Bg lv) d _ _ N hd (HI.out.fr E.out) V.out Y).mono ?_;rintro e D ⟨f,⟨vy,rfl,hv⟩,hr⟩;have R4:Hid (RdF D br t j d):=hr;have S:Hid (Ao D a b (pcF t i) ⟨#[]⟩ 0 (atF t.data.toList i) none 0 0):=R.out.of f s;have F4:Hid (Fr (·≠br) w D):=E.out.trans f;have X4:Hid (Af (fun k=>lo<=k/\k<w0.heap.size) D x (.pointer (some ⟨B,0,none⟩))):=X3.out.fr (f.mono fun k q=>by omega) fun _ _ q=>q;have Y4:Hid (Af (fun k=>w3.heap.size<=k) D y vy):=hv;have a9:a<D.heap.size:=Ab S.out;have b0:=f.size;clear hr f hv Y h R V E X3;obtain⟨bb,rfl,-,-⟩:=Y4.out.ptr;have c5:=Aa S.out 5;have f5:=Ac S.out 5;have n:b=11\/b=12:=by
  have:=a0.out;unfold Jy at this;split at this<;>omega
 have a2:(pcF t i).data.toList∈Eu.map Prod.fst:=by
  rw[O];refine Classical.byContradiction fun q=>?_;have:Ae (txF t.data.toList i)=0:=by unfold Ae;rw[Jz _ q];rfl
  omega
 go_wp2_with fail
 go_ret
 obtain rfl:r=.ok (I0 (txF t.data.toList i) x y,j):=by simp only[okX,Option.some.injEq] at hk;exact hk.symm
 obtain⟨hT,hF⟩:=Hy (lo:=lo) S.out (m:=2) (vs:=#[.pointer (some ⟨B,0,none⟩),.pointer (some ⟨bb,0,none⟩)]) (kids:=[x,y]) (x:=I0 (txF t.data.toList i) x y) rfl (by omega) (fun k z q=>by
   match k with
   | 0=>simp at q;subst q;exact⟨_,rfl,X4.out.fr (Fr.refl _ _) fun _ _ q=>by omega⟩
   | 1=>simp at q;subst q;exact⟨_,rfl,Y4.out.fr (Fr.refl _ _) fun _ _ q=>by omega⟩
   | k+2=>simp at q) (by omega)
  (.inr (.inr (.inr (.inr (.inr (.inr (.inr (.inr (.inr (.inr (.inr ⟨n,.inl ⟨a2,x,y,rfl,by rw[O]⟩⟩)))))))))))
 have a8:=H.out;refine⟨F4.out.fresh (hF.mono fun _ q=>q.2) (by omega),⟨_,rfl,hT.fr (Fr.refl _ _) fun _ _ q=>by omega⟩,RdF.of R4.out hF (Ne.symm s)⟩
end Go.Proofs.YtjbfcadeapphbaaGreatDoor.Sx
