/- The reader's block; going on to the next token. -/
import Derived.Test.YtdpeliifdlhhkaaGreatDoorM02
import Derived.Deep.RegionHeld3
import Derived.Deep.LoopGhost
import Derived.Test.YtdpeliifdlhhkaaGreatDoorM01
namespace Go.Proofs.YtdpeliifdlhhkaaGreatDoor.Sx
open Go.RowKit Go.Sort Tryz
set_option maxRecDepth 100000
set_option maxHeartbeats 1000000
/-- the old blocks of which something is so are as they were -/
structure Fr (P:Nat->Prop)(w w':World):Prop where
 os:w'.os=w.os
 tape:w'.tape=w.tape
 output:w'.output=w.output
 size:w.heap.size<=w'.heap.size
 block:∀k,k<w.heap.size->P k->w'.heap[k]?=w.heap[k]?
theorem Fr.refl (P:Nat->Prop)(w:World):Fr P w w:=⟨rfl,rfl,rfl,Ad9 _,fun _ _ _=>rfl⟩
theorem Fr.trans {P:Nat->Prop}{a b c:World}(h:Fr P a b)(k:Fr P b c):Fr P a c :=
 ⟨k.os.trans h.os,k.tape.trans h.tape,k.output.trans h.output,Ae0 h.size k.size,fun i hi hp=>(k.block i (Ad8 hi h.size) hp).trans (h.block i hi hp)⟩
theorem Fr.mono {P Q:Nat->Prop}{a b:World}(h:Fr P a b)(hq:∀k,Q k->P k):Fr Q a b:=⟨h.os,h.tape,h.output,h.size,fun i hi hp=>h.block i hi (hq i hp)⟩
theorem Fr.below {P:Nat->Prop}{a b:World}(h:Below a.heap.size a b):Fr P a b:=⟨h.os,h.tape,h.output,h.size,fun i hi _=>h.block i hi⟩
theorem Fr.grew {P:Nat->Prop}{a b:World}(h:Ac a b):Fr P a b:=Fr.below h.below
theorem Fr.set {P:Nat->Prop}{a b:World}(h:Fr P a b){p:Addr}(hp:¬P p.block)(u:Value):Fr P a (b.setCell p u) :=
 ⟨h.os,h.tape,h.output,by simpa using h.size,fun i hi hq=>by rw[Below.heap_setCell b p u i (fun e=>hp (by rw[<- e];exact hq))];exact h.block i hi hq⟩
theorem Fr.drew {P:Nat->Prop}{a b:World}(h:Fr P a b):Fr P a b.drew:=h.trans (Fr.grew (Ac.drew (Ac.refl _)))
theorem Fr.alloc {P:Nat->Prop}{a b:World}(h:Fr P a b)(o:Obj):Fr P a (b.alloc o):=h.trans (Fr.grew (Ac.alloc (Ac.refl _) o))
def Ik (w:World)(br:Nat)(t:ByteArray)(at' en cl op:Nat)(hv:Bool):Prop :=
 w.heap[br]?=some (.cells #[.string t,.int .i64 at',.int .i64 en,.int .i64 cl,.int .i64 op,.bool hv] 64 (0,0))
theorem Ik.of {w w':World}{br:Nat}{t:ByteArray}{a e c o:Nat}{hv:Bool}(h:Ik w br t a e c o hv){P:Nat->Prop}(f:Fr P w w')(hp:P br):Ik w' br t a e c o hv:=(f.block br (Aa h) hp).trans h
theorem Ad {w:World}{b:Nat}{vs:Array Value}{t:TypeId}(h:w.heap[b]?=some (.cells vs t (0,0)))(i:Nat):w.frozen? ⟨b,i,none⟩=false:=by
 simp[World.frozen?,h]
theorem cK {w:World}{b:Nat}{vs:Array Value}{t:TypeId}(h:w.heap[b]?=some (.cells vs t (0,0))):w.frozen? ⟨b,0,none⟩=false/\w.frozen? ⟨b,1,none⟩=false/\w.frozen? ⟨b,2,none⟩=false:=⟨Ad h 0,Ad h 1,Ad h 2⟩
theorem Ax {w:World}{b:Nat}{vs:Array Value}{t:TypeId}(h:w.heap[b]?=some (.cells vs t (0,0))):w.frozen? ⟨b,0,none⟩=false/\w.frozen? ⟨b,1,none⟩=false/\w.frozen? ⟨b,2,none⟩=false/\w.frozen? ⟨b,3,none⟩=false/\w.frozen? ⟨b,4,none⟩=false:=⟨Ad h 0,Ad h 1,Ad h 2,Ad h 3,Ad h 4⟩
theorem Ai {w:World}{b:Nat}{vs:Array Value}{t:TypeId}{f:Nat×Nat}(h:w.heap[b]?=some (.cells vs t f))(i:Nat)(u:Value):(w.setCell ⟨b,i,none⟩ u).heap[b]?=some (.cells (vs.set! i u) t f):=by
 simp[World.setCell,Array.getElem?_modify,h]
def Dg (l:List UInt8):Nat:=(l.takeWhile Gy).length
theorem Nv (l:List UInt8):Dg l<=l.length:=List.Sublist.length_le (List.takeWhile_sublist _)
theorem Jg {w:World}{b i j:Nat}{u v:Value}(h:w.cell? ⟨b,i,none⟩=some v)(hij:j≠i):(w.setCell ⟨b,j,none⟩ u).cell? ⟨b,i,none⟩=some v:=by
 exact(World.cell?_setCell_other w _ _ u (fun e=>hij (congrArg Addr.off e))).trans h
theorem Ik.cells {w:World}{br:Nat}{t:ByteArray}{a e c o:Nat}{hv:Bool}(h:Ik w br t a e c o hv){w':World}(g:Ac w w') :
  w'.cell? ⟨br,0,none⟩=some (.string t)/\w'.cell? ⟨br,1,none⟩=some (.int .i64 a)/\w'.cell? ⟨br,2,none⟩=some (.int .i64 e)/\w'.cell? ⟨br,3,none⟩=some (.int .i64 c)/\w'.frozen? ⟨br,2,none⟩=false/\w'.frozen? ⟨br,3,none⟩=false/\w'.heap.size=w'.heap.size:=by
 have b:=h.of (P:=fun _=>True) (Fr.grew g) trivial;exact⟨Ab b 0,Ab b 1,Ab b 2,Ab b 3,Ad b 2,Ad b 3,rfl⟩
theorem cL (w:World)(br:Nat)(t:ByteArray)(a en cl op:Nat)(hv:Bool)(hr:Ik w br t a en cl op hv)(hen:en<=t.size)(ht:t.size<=4000)(M L n c:Nat)
  (hM:M=en+Dg (t.data.toList.drop en)) (hT:Fa (t.data.toList.drop M)=(c,n)) (hL:L=M+n) (hLs:L<=t.size) :
  Calls prog 62 #[.pointer (some ⟨br,0,none⟩)] w fun e w'=>e=.returned (.tuple #[])/\Ik w' br t M L c op hv/\Fr (·≠br) w w':=by
 have hl:t.data.toList.length=t.size:=by simp
 obtain⟨-,c1,c2⟩:=Rp hr;have f1:=Ad hr 1;have j:Hid (Ik w br t a en cl op hv):=hr;clear hr;have m:en<=M:=by omega
 have B:M<=t.size:=by omega
 have Q:Hid _:=hM;have R:Hid _:=hT;have O:Hid (L=M+n):=hL;clear hM hT hL;have mo:=follows;have HB:Hid _:=mN;go_enter func62,ntmps62
 go_wp2_with fail
 go_loopg [] (t.size) (fun kx wr=>∃p:Nat,en<=p/\p<=M/\t.size-p<=kx/\Hid (Ik wr br t p en cl op hv)/\Hid (Fr (·≠br) w wr))
 case atStart =>
  refine⟨en,Ad9 _,m,by omega,?_,?_⟩
  ·show Ik _ _ _ _ _ _ _ _;have:=Ai j.out 1 (.int .i64 (en:Int));simpa [Ik] using this
  ·exact(Fr.refl _ w).set (by simp) _
 case round =>
  clear c1 c2 f1 j;obtain⟨p,F,H,E,j,N⟩:=hrel;have D:=Aa j.out;have g0:=cell_grown D (Ab j.out 0);have g1:=cell_grown D (Ab j.out 1);by_cases x:p<t.size
  ·have r:=Il Gy (t.data.toList.drop en) (p-en) _ (by have:=Q.out;unfold Dg at this;omega) (by rw[List.getElem?_drop,show en+(p-en)=p from by omega];exact Hy (by omega));have C:=Ib t p x;have o:=HB.out (Ap t.data.toList p);rw[C] at r o;have f:(Gy t[p]=true->p+1<=M)/\(Gy t[p]=false->M=p):=by
    have:=Q.out;unfold Dg at this;exact⟨fun q=>by have:=r.1 q;omega,fun q=>by have:=r.2 q;omega⟩
   clear r C;generalize Gy t[p]=b at f o;have z:Hid _:=o;clear o;go_wp2_with fail
   go_quiet_grown (first|(go_at_call 117;refine Ae3 ((z.out _).mono fun e W h=>⟨h.1,by rw[h.2];exact Ac.refl _⟩)))
   have G:Hid (Ac wr _):=⟨nq,osq,rfl⟩;clear g0 g1;generalize grow (wr.drewN nq) osq=W1 at G |-;clear nq osq;have d:Hid (Ik W1 br t p en cl op hv):=j.out.of (P:=fun _=>True) (Fr.grew G.out) trivial;have g:Hid _:=N.out.trans (Fr.grew G.out);have A:=Ab d.out 1;have e1:=Ad d.out 1;clear j N G;cases b with
   | true =>
    have U:=f.1 rfl;clear f;go_wp2_with fail
    go_roundg (t.size-(p+1))
    case measure=>omega
    case rel =>
     refine⟨p+1,by omega,U,Ad9 _,?_,?_⟩
     ·show Ik _ _ _ _ _ _ _ _;have:=Ai d.out 1 (.int .i64 ((p:Int)+1));simpa [Ik] using this
     ·exact g.out.set (by simp) _
   | false =>
    have s:Hid (M=p):=f.2 rfl;clear f A e1;go_wp2_with fail
    have l:Hid (∀W:World,Calls prog 118 #[.string (t.extract p t.size)] W fun e w'=>e=.returned (.tuple #[.int .i64 c,.int .i64 n])/\Ac W w'):=by
     intro W;have:=Yf (t.extract p t.size) W (by simp;omega);rw[show(t.extract p t.size).data.toList=t.data.toList.drop M from by rw[Df,List.take_of_length_le (by omega),s.out],R.out] at this;exact this
    have y:(p:Int)<=(t.size:Int):=by omega
    obtain⟨k0,k1,_,k3,_,q3,_⟩:=d.out.cells (Ac.refl W1);have Y:((p:Int)).toNat=p:=by omega
    clear Q R z;generalize (t[p]).toNat=cc;clear x;clear F H E m B hen hl mo;go_region_held3 (fun w'=>w'.cell? ⟨br,0,none⟩=some (.string t)/\w'.cell? ⟨br,1,none⟩=some (.int .i64 p)) (first|(constructor<;>assumption)|(refine⟨Jg ?_ (by decide),Jg ?_ (by decide)⟩<;>assumption)|go_keep)
     ((go_at_call 118;refine(l.out _).mono ?_;rintro e w' ⟨rfl,v⟩;obtain⟨Z,I,J,j3,K,j5,_⟩:=d.out.cells ((Ac.refl W1).drew.trans v);have u:Hid (Ac W1 w'):=(Ac.refl W1).drew.trans v;clear v))
    have A:(w'.setCell ⟨br,3,none⟩ (.int .i64 (c:Int))).cell? _=_:=Jg I (by decide);have S:(w'.setCell ⟨br,3,none⟩ (.int .i64 (c:Int))).cell? _=_:=Jg J (by decide);have T:(w'.setCell ⟨br,3,none⟩ (.int .i64 (c:Int))).frozen? ⟨br,2,none⟩=false:=by simpa using K
    have k:Hid (Ik (w'.setCell ⟨br,3,none⟩ (.int .i64 (c:Int))) br t p en c op hv):=by
     show Ik _ _ _ _ _ _ _ _;have:=Ai (d.out.of (P:=fun _=>True) (Fr.grew u.out) trivial) 3 (.int .i64 (c:Int));simpa [Ik] using this
    have i:Hid (Fr _ w (w'.setCell ⟨br,3,none⟩ (.int .i64 (c:Int)))):=(g.out.trans (Fr.grew u.out)).set (by simp) _;clear Z I J j3 K j5 u d g l;generalize w'.setCell _ _=W2 at A S T k i |-;have y:p+n<=4000:=by have:=s.out;have:=O.out;omega
    go_wp2_with fail
    go_end0
    refine⟨rfl,?_,i.out.set (by simp) _⟩;have:=Ai k.out 2 (.int .i64 ((p:Int)+(n:Int)));rw[O.out,s.out];simpa [Ik] using this
  ·have s:Hid (M=p):=by show M=p;omega
   have X:p=t.size:=by omega
   have V:¬(p:Int)<(t.size:Int):=by omega
   have hd:decide ((p:Int)<(t.size:Int))=false:=by simp;omega
   clear g0 g1;obtain⟨b0,b1⟩:=Lf j.out;go_wp2_with fail
   go_quiet (fail)
   clear b0 b1;have G:Hid (Ac wr _):=(Ac.refl wr).drewN nq;generalize wr.drewN nq=W1 at G |-;clear nq;have d:Hid (Ik W1 br t p en cl op hv):=j.out.of (P:=fun _=>True) (Fr.grew G.out) trivial;have g:Hid _:=N.out.trans (Fr.grew G.out);clear j N G hd;go_wp2_with fail
   have l:Hid (∀W:World,Calls prog 118 #[.string (t.extract p t.size)] W fun e w'=>e=.returned (.tuple #[.int .i64 c,.int .i64 n])/\Ac W w'):=by
    intro W;have:=Yf (t.extract p t.size) W (by simp;omega);rw[show(t.extract p t.size).data.toList=t.data.toList.drop M from by rw[Df,List.take_of_length_le (by omega),s.out],R.out] at this;exact this
   have y:(p:Int)<=(t.size:Int):=by omega
   obtain⟨k0,k1,_,k3,_,q3,_⟩:=d.out.cells (Ac.refl W1);have Y:((p:Int)).toNat=p:=by omega
   clear Q R;clear x V X;clear F H E m B hen hl mo;go_region_held3 (fun w'=>w'.cell? ⟨br,0,none⟩=some (.string t)/\w'.cell? ⟨br,1,none⟩=some (.int .i64 p)) (first|(constructor<;>assumption)|(refine⟨Jg ?_ (by decide),Jg ?_ (by decide)⟩<;>assumption)|go_keep)
    ((go_at_call 118;refine(l.out _).mono ?_;rintro e w' ⟨rfl,v⟩;obtain⟨Z,I,J,j3,K,j5,_⟩:=d.out.cells ((Ac.refl W1).drew.trans v);have u:Hid (Ac W1 w'):=(Ac.refl W1).drew.trans v;clear v))
   have A:(w'.setCell ⟨br,3,none⟩ (.int .i64 (c:Int))).cell? _=_:=Jg I (by decide);have S:(w'.setCell ⟨br,3,none⟩ (.int .i64 (c:Int))).cell? _=_:=Jg J (by decide);have T:(w'.setCell ⟨br,3,none⟩ (.int .i64 (c:Int))).frozen? ⟨br,2,none⟩=false:=by simpa using K
   have k:Hid (Ik (w'.setCell ⟨br,3,none⟩ (.int .i64 (c:Int))) br t p en c op hv):=by
    show Ik _ _ _ _ _ _ _ _;have:=Ai (d.out.of (P:=fun _=>True) (Fr.grew u.out) trivial) 3 (.int .i64 (c:Int));simpa [Ik] using this
   have i:Hid (Fr _ w (w'.setCell ⟨br,3,none⟩ (.int .i64 (c:Int)))):=(g.out.trans (Fr.grew u.out)).set (by simp) _;clear Z I J j3 K j5 u d g l;generalize w'.setCell _ _=W2 at A S T k i |-;have y:p+n<=4000:=by have:=s.out;have:=O.out;omega
   go_wp2_with fail
   go_end0
   refine⟨rfl,?_,i.out.set (by simp) _⟩;have:=Ai k.out 2 (.int .i64 ((p:Int)+(n:Int)));rw[O.out,s.out];simpa [Ik] using this
theorem Ac.setNew {w w1:World}(h:Ac w w1){p:Addr}(hp:w.heap.size<=p.block)(u:Value):Ac w (w1.setCell p u):=by
 obtain⟨q,c,rfl⟩:=h;have a:∃f:Obj->Obj,∀W:World,W.setCell p u={ W with heap:=W.heap.modify p.block f }:=⟨_,fun _=>rfl⟩;obtain⟨f,b⟩:=a;refine⟨q,c.modify (p.block-(w.drewN q).heap.size) f,?_⟩;rw[b];simp only[grow];rw[modify_append_right _ _ _ _ (by exact hp)]
def Gm (a:Option Addr)(len cap:Nat):Prop:=len<=cap/\(a=none->len=0)/\(a=none\/∃b off,a=some ⟨b,off,none⟩)
section
variable {α:Type} (P:Nat->Prop) (w:World) (R:α->Value->Prop) (num:α->Option Int) (wta:α->Nat)
def Bv (a:Option Addr)(len:Nat)(es:List α):Prop :=
 len=es.length/\len<=4294967296/\(len=0\/∃b off,a=some ⟨b,off,none⟩/\b<w.heap.size/\P b/\∀i x,es[i]?=some x->∃v,w.cell? ⟨b,off+i,none⟩=some v/\R x v)
def Dy (b:Nat)(es:List α):Prop :=
 P b/\∃a len cap,w.heap[b]?=some (.cells #[.slice a len cap,.int .i64 ((1+wtL wta es:Nat):Int)] 124 (0,0))/\Bv P w R a len es
def FnP (b d:Nat)(ks us:List α):Prop :=
 P b/\Dy P w R wta d ks/\ks.length=us.length/\∃a len cap,w.heap[b]?=some (.cells #[.pointer (some ⟨d,0,none⟩),.slice a len cap,.int .i64 ((1+wtL wta ks+wtL wta us:Nat):Int),.bool (A7 num ks)] 130 (0,0))/\Bv P w R a len us/\Gm a len cap
def Nw (a:Ag α)(v:Value):Prop :=
 (a=Ar/\v=.nilIface)\/(∃b,a=Bj b/\v=.iface 4 (.bool b))\/(∃i,a=Cu i/\v=.iface 2 (.int .i64 i)) \/
 (∃s:ByteArray,a=Dm s.data.toList/\v=.iface 119 (.string s))\/(∃s:ByteArray,a=D9 s.data.toList/\v=.iface 120 (.string s)) \/
 (∃es b,a=Bt es/\v=.iface 121 (.pointer (some ⟨b,0,none⟩))/\Dy P w R wta b es) \/
 (∃ks us b d,a=Dd ks us/\v=.iface 125 (.pointer (some ⟨b,0,none⟩))/\FnP P w R num wta b d ks us)
end
def Aj (P:Nat->Prop)(w:World):(n:Nat)->AV n->Value->Prop
 | 0,_,_=>False
 | n+1,a,v=>Nw P w (Aj P w n) (Au n) (wt n) a v
section
variable {α:Type} {P Q:Nat->Prop} {w w':World} {R R':α->Value->Prop} {num:α->Option Int} {wta:α->Nat}
theorem Bv.fr (hf:Fr P w w')(hR:∀x v,R x v->R' x v)(hQ:∀k,k<w.heap.size->P k->Q k){a:Option Addr}{len:Nat}{es:List α}(h:Bv P w R a len es):Bv Q w' R' a len es:=by
 refine⟨h.1,h.2.1,?_⟩;rcases h.2.2 with f|⟨b,d,rfl,c,e,l⟩
 ·exact .inl f
 ·refine .inr ⟨b,d,rfl,Ad8 c hf.size,hQ b c e,fun i x hx=>?_⟩;obtain⟨v,g,j⟩:=l i x hx;exact⟨v,(World.cell?_of_block (w:=w) (hf.block b c e)).trans g,hR x v j⟩
theorem Dy.fr (hf:Fr P w w')(hR:∀x v,R x v->R' x v)(hQ:∀k,k<w.heap.size->P k->Q k){b:Nat}{es:List α}(h:Dy P w R wta b es):Dy Q w' R' wta b es:=by
 obtain⟨f,a,e,c,d,g⟩:=h;exact⟨hQ b (Aa d) f,a,e,c,(hf.block b (Aa d) f).trans d,g.fr hf hR hQ⟩
theorem FnP.fr (hf:Fr P w w')(hR:∀x v,R x v->R' x v)(hQ:∀k,k<w.heap.size->P k->Q k){b d:Nat}{ks us:List α}(h:FnP P w R num wta b d ks us):FnP Q w' R' num wta b d ks us:=by
 obtain⟨g,m,j,a,f,c,e,l,i⟩:=h;exact⟨hQ b (Aa e) g,m.fr hf hR hQ,j,a,f,c,(hf.block b (Aa e) g).trans e,l.fr hf hR hQ,i⟩
theorem Nw.fr (hf:Fr P w w')(hR:∀x v,R x v->R' x v)(hQ:∀k,k<w.heap.size->P k->Q k){a:Ag α}{v:Value}(h:Nw P w R num wta a v):Nw Q w' R' num wta a v:=by
 rcases h with h|h|h|h|h|⟨g,b,c,e,f⟩|⟨i,j,b,d,c,e,f⟩
 ·exact .inl h
 ·exact .inr (.inl h)
 ·exact .inr (.inr (.inl h))
 ·exact .inr (.inr (.inr (.inl h)))
 ·exact .inr (.inr (.inr (.inr (.inl h))))
 ·exact .inr (.inr (.inr (.inr (.inr (.inl ⟨g,b,c,e,f.fr hf hR hQ⟩)))))
 ·exact .inr (.inr (.inr (.inr (.inr (.inr ⟨i,j,b,d,c,e,f.fr hf hR hQ⟩)))))
theorem Bv.row (hR:∀x v,R x v->R' x v){a:Option Addr}{len:Nat}{es:List α}(h:Bv P w R a len es):Jw w R' a len es:=by
 refine⟨h.1,h.2.1,?_⟩;rcases h.2.2 with e|⟨b,d,rfl,c,k,j⟩
 ·exact .inl e
 ·refine .inr ⟨b,d,rfl,c,fun i x hx=>?_⟩;obtain⟨v,f,g⟩:=j i x hx;exact⟨v,f,hR x v g⟩
theorem Dy.set (hR:∀x v,R x v->R' x v){b:Nat}{es:List α}(h:Dy P w R wta b es):Kx w R' wta b es:=by
 obtain⟨g,a,d,c,e,f⟩:=h;exact⟨a,d,c,e,f.row hR⟩
theorem FnP.fn (hR:∀x v,R x v->R' x v){b d:Nat}{ks us:List α}(h:FnP P w R num wta b d ks us):Xm w R' num wta b d ks us:=by
 obtain⟨k,j,g,a,e,c,f,i,_⟩:=h;exact⟨j.set hR,g,a,e,c,f,i.row hR⟩
theorem Nw.rep (hR:∀x v,R x v->R' x v){a:Ag α}{v:Value}(h:Nw P w R num wta a v):mD w R' num wta a v:=by
 rcases h with h|h|h|h|h|⟨g,b,c,e,f⟩|⟨i,j,b,d,c,e,f⟩
 ·exact .inl h
 ·exact .inr (.inl h)
 ·exact .inr (.inr (.inl h))
 ·exact .inr (.inr (.inr (.inl h)))
 ·exact .inr (.inr (.inr (.inr (.inl h))))
 ·exact .inr (.inr (.inr (.inr (.inr (.inl ⟨g,b,c,e,f.set hR⟩)))))
 ·exact .inr (.inr (.inr (.inr (.inr (.inr ⟨i,j,b,d,c,e,f.fn hR⟩)))))
end
theorem Aj.fr {P Q:Nat->Prop}{w w':World}(hf:Fr P w w')(hQ:∀k,k<w.heap.size->P k->Q k):∀(n:Nat)(a:AV n)(v:Value),Aj P w n a v->Aj Q w' n a v
 | 0,_,_,h=>h
 | n+1,_,_,h=>Nw.fr hf (Aj.fr hf hQ n) hQ h
theorem Aj.keep {P:Nat->Prop}{w w':World}(hf:Fr P w w'){n:Nat}{a:AV n}{v:Value}(h:Aj P w n a v):Aj P w' n a v:=h.fr hf (fun _ _ h=>h) n a v
theorem Aj.rep {P:Nat->Prop}{w:World}:∀(n:Nat)(a:AV n)(v:Value),Aj P w n a v->Rep w n a v
 | 0,_,_,h=>h
 | n+1,_,_,h=>Nw.rep (Aj.rep n) h
theorem Bv.keep {P:Nat->Prop}{w w':World}(hf:Fr P w w'){n:Nat}{a:Option Addr}{len:Nat}{es:List (AV n)}(h:Bv P w (Aj P w n) a len es):Bv P w' (Aj P w' n) a len es :=
 h.fr hf (fun x v=>Aj.fr hf (fun _ _ h=>h) n x v) (fun _ _ h=>h)
theorem Dy.keep {P:Nat->Prop}{w w':World}(hf:Fr P w w'){n:Nat}{b:Nat}{es:List (AV n)}(h:Dy P w (Aj P w n) (wt n) b es):Dy P w' (Aj P w' n) (wt n) b es :=
 h.fr hf (fun x v=>Aj.fr hf (fun _ _ h=>h) n x v) (fun _ _ h=>h)
theorem Fo {α:Type}(f:α->Nat)(x:α)(l:List α):wtL f (x::l)=f x+wtL f l:=by simp[wtL]
theorem Vd {α:Type}(f:α->Nat)(l:List α)(k:Nat)(x:α)(h:l[k]?=some x):wtL f (l.take (k+1))=wtL f (l.take k)+f x:=by
 rw[List.take_add_one,h];simp[wtL]
theorem Mh {α:Type}(f:α->Nat)(l:List α)(h:∀x∈l,f x<=1024):wtL f l<=1024*l.length:=by
 induction l with
 | nil=>simp[wtL]
 | cons x l ih =>
  rw[Fo,List.length_cons];have:=h x (by simp);have:=ih (fun y hy=>h y (by simp[hy]));omega
theorem Mi (n:Nat)(w:World)(a:Option Addr)(len cap:Nat)(es:List (AV n))(h:Jw w (Rep w n) a len es)(hw:∀x∈es,wt n x<=1024) :
  Calls prog 279 #[.slice a len cap] w fun e w'=>e=.returned (.int .i64 (wtL (wt n) es))/\Ac w w':=by
 obtain⟨t,G,o⟩:=h;have q:Hid (len=es.length):=t;clear t;have v:Hid (∀k,wtL (wt n) (es.take k)<=1024*k):=by
  intro k;refine Ae0 (Mh _ _ fun x hx=>hw x (List.mem_of_mem_take hx)) ?_;have:=List.length_take_le k es;omega
 have z:Hid _:=hw;clear hw;go_enter func279,ntmps279
 go_wp2_with fail
 go_loopw [3,8] (fun s i wr=>∃k:Nat,k<=len/\i=.int .i64 k/\s=.int .i64 (wtL (wt n) (es.take k))/\Hid (Ac w wr)) (fun _ i _=>len-(intOf i).toNat)
 case atStart=>exact⟨0,Ae1 _,rfl,rfl,Ac.refl w⟩
 case round =>
  obtain⟨k,I,rfl,rfl,c⟩:=hrel;have A:=v.out k;by_cases l:k<len
  ·have hx:k<es.length:=by rw[<- q.out];exact l
   obtain⟨D,C,rfl,f,d⟩:=o.resolve_left (by omega);obtain⟨F,g,b⟩:=d k es[k] (List.getElem?_eq_getElem hx);have H:=(c.out.below.cell (p:=⟨D,C+k,none⟩) f).trans g;have K:=Ad8 f c.out.below.size;have E:=Ae b.one;have j:Hid (_=_+wt n es[k]):=Vd _ _ _ _ (List.getElem?_eq_getElem hx);have m:=z.out es[k] (List.getElem_mem hx);have r:Hid _:=fun(W:World) (hW:_)=>U5 n es[k] F W (b.grew hW);clear d g b o;generalize wt n es[k]=wk at j r m;generalize wtL (wt n) (es.take k)=sk at j A |-;go_wp2_with (go_at_call 14;refine(r.out _ (c.out.alloc _)).mono ?_;rintro e w' ⟨rfl,u⟩;have B:Hid (Ac w w'):=(c.out.alloc _).trans u;clear u)
   go_roundw
   case rel=>exact⟨k+1,by omega,by go_num,by rw[j.out];go_num,by assumption⟩
   case measure=>simp[intOf];omega
  ·have J:k=len:=by omega
   have y:Hid (wtL (wt n) (es.take k)=wtL (wt n) es):=by
    show _=_;rw[List.take_of_length_le (by rw[<- q.out];omega)]
   clear o;rw[y.out];go_wp2_with fail
   go_ret
   exact⟨rfl,c.out⟩
section
attribute [local go_sem] Na Nb Jq Jr Fy Fz Ga Gb Ln Nc I6 I7 Fe Ff Fg Fh Hr Hs Gc Gd Ea Eb Ec Ed Ht Hu Ge Gf Ee Ef Eg Eh Gw Hv Fj Fk Dq Dr Ds Dt Gx Hw Fl Fm Du Dv Dw Dx
def mkS {α:Type}(wta:α->Nat)(es:List α):Ag α:=if 1+wtL wta es<=1024 then Bt es else Ar
theorem Kf {w w':World}{v:Value}{T:TypeId}(h:Ac (w.alloc (.cells #[v] T)) w'):w'.cell? ⟨w.heap.size,0,none⟩=some v/\w'.frozen? ⟨w.heap.size,0,none⟩=false/\w.heap.size<w'.heap.size:=by
 have b:(w.alloc (.cells #[v] T)).heap[w.heap.size]?=some (.cells #[v] T (0,0)):=by
  show(w.heap.push _)[w.heap.size]?=_;simp
 have a:=Ac1 h.below b;exact⟨Ab a 0,Ad a 0,Aa a⟩
theorem Af {W:World}{o:Obj}{k:Nat}(h:W.heap.size=k):(W.alloc o).heap[k]?=some o:=by subst h;exact heap_alloc_new W o
theorem Ac.of_alloc {w w':World}{o:Obj}(h:Ac (w.alloc o) w'):Ac w w':=((Ac.refl w).alloc o).trans h
theorem Dh (n:Nat)(P:Nat->Prop)(w:World)(a:Option Addr)(len cap:Nat)(es:List (AV n))(h:Bv P w (Aj P w n) a len es)(hP:∀k,w.heap.size<=k->P k)(hw:∀x∈es,wt n x<=1024)(hl:es.length<=4294967296) :
  Calls prog 220 #[.slice a len cap] w fun e w'=>∃v,e=.returned (.agg #[v])/\Aj P w' (n+1) (mkS (wt n) es) v/\Ac w w':=by
 have f:Hid _:=fun(W:World) (hW:Ac w W)=>Mi n W a len cap es ((h.row (Aj.rep n)).below hW.below fun x v=>Rep.below hW.below n x v) hw;have q:=Mh (wt n) es hw;have m:Hid _:=hP;have o:Hid (Bv P w _ a len es):=h;unfold mkS;have l:Hid (∀(b:Nat)(W:World),Ac w W->w.heap.size<=b->W.heap[b]?=some (.cells #[.slice a len cap,.int .i64 ((1+wtL (wt n) es:Nat):Int)] 124 (0,0))->Aj P W (n+1) (Bt es:_) (.iface 121 (.pointer (some ⟨b,0,none⟩)))):=by
  intro b W hW g r;exact .inr (.inr (.inr (.inr (.inr (.inl ⟨es,b,rfl,rfl,m.out b g,a,len,cap,r,o.out.keep (Fr.grew hW)⟩)))))
 clear h hP hw o m;generalize wtL (wt n) es=N at f q l |-;by_cases p:1+N<=1024
 ·rw[if_pos p];go_enter func220,ntmps220
  go_wp2_with (go_at_call 279;refine(f.out _ ((Ac.refl w).alloc _)).mono ?_;rintro e w' ⟨rfl,c⟩;obtain⟨i,s,j⟩:=Kf c;have d:Hid (Ac w w'):=c.of_alloc;clear c)
  refine Ae2 (v:=.agg #[.iface 121 (.pointer (some ⟨w'.heap.size,0,none⟩))]) (by simp[results,results220,go_sem,i,j]) rfl ⟨_,rfl,?_,(d.out.setNew (Ad9 _) _).alloc _⟩;refine l.out _ _ ((d.out.setNew (Ad9 _) _).alloc _) d.out.below.size ?_;rw[show((1+N:Nat):Int)=1+(N:Int) from by omega];exact Af (by simp)
 ·rw[if_neg p];have t:(1024:Int)<1+(N:Int):=by omega
  go_enter func220,ntmps220
  go_wp2_with (go_at_call 279;refine(f.out _ ((Ac.refl w).alloc _)).mono ?_;rintro e w' ⟨rfl,c⟩;obtain⟨i,s,j⟩:=Kf c;have d:Hid (Ac w w'):=c.of_alloc;clear c)
  refine Ae2 (by simp[results,results220,go_sem,i,j]) rfl ⟨_,rfl,.inl ⟨rfl,rfl⟩,(d.out.setNew (Ad9 _) _).alloc _⟩
theorem Pr {α:Type}(num:α->Option Int):∀(i:Nat)(l:List α)(k:Nat)(x:α),l[k]?=some x->Cn num i l=true->num x=some ((i+k:Nat):Int)
 | _,[],_,_,h,_=>by simp at h
 | i,a::l,0,x,h,hc=>by
  simp only[List.getElem?_cons_zero,Option.some.injEq] at h;subst h;simp only[Cn,Bool.and_eq_true,beq_iff_eq] at hc;simpa using hc.1
 | i,a::l,k+1,x,h,hc=>by
  simp only[List.getElem?_cons_succ] at h;simp only[Cn,Bool.and_eq_true] at hc;have:=Pr num (i+1) l k x h hc.2;rw[this];congr 1;omega
theorem Ps {α:Type}(num:α->Option Int):∀(i:Nat)(l:List α),(∀k x,l[k]?=some x->num x=some ((i+k:Nat):Int))->Cn num i l=true
 | _,[],_=>rfl
 | i,a::l,h=>by
  simp only[Cn,Bool.and_eq_true,beq_iff_eq];refine⟨by simpa using h 0 a rfl,Ps num (i+1) l fun k x hx=>?_⟩;have:=h (k+1) x (by simpa using hx);rw[this];congr 1;omega
theorem Rep.num {w:World}:∀{n:Nat} {a:AV n} {v:Value},Rep w n a v->(∃i,v=.iface 2 (.int .i64 i)/\Au n a=some i)\/(Au n a=none/\(v=.nilIface\/(∃x,v=.iface 4 x)\/(∃x,v=.iface 119 x)\/(∃x,v=.iface 120 x)\/(∃x,v=.iface 121 x)\/(∃x,v=.iface 125 x)))
 | 0,_,_,h=>absurd h id
 | n+1,a,v,h=>by
  rcases h with⟨rfl,rfl⟩|⟨b,rfl,rfl⟩|⟨i,rfl,rfl⟩|⟨s,rfl,rfl⟩|⟨s,rfl,rfl⟩|⟨es,b,rfl,rfl,_⟩|⟨ks,us,b,d,rfl,rfl,_⟩
  ·exact .inr ⟨rfl,.inl rfl⟩
  ·exact .inr ⟨rfl,.inr (.inl ⟨_,rfl⟩)⟩
  ·exact .inl ⟨i,rfl,rfl⟩
  ·exact .inr ⟨rfl,.inr (.inr (.inl ⟨_,rfl⟩))⟩
  ·exact .inr ⟨rfl,.inr (.inr (.inr (.inl ⟨_,rfl⟩)))⟩
  ·exact .inr ⟨rfl,.inr (.inr (.inr (.inr (.inl ⟨_,rfl⟩))))⟩
  ·exact .inr ⟨rfl,.inr (.inr (.inr (.inr (.inr ⟨_,rfl⟩))))⟩
theorem gK (n:Nat)(w:World)(a:Option Addr)(len cap:Nat)(es:List (AV n))(h:Jw w (Rep w n) a len es) :
  Calls prog 312 #[.slice a len cap] w fun e w'=>e=.returned (.bool (A7 (Au n) es))/\Ac w w':=by
 obtain⟨J,Q,H⟩:=h;have I:Hid (len=es.length):=J;clear J;obtain⟨B,y⟩:∃B,A7 (Au n) es=B:=⟨_,rfl⟩;have C:Hid ((∀k x,es[k]?=some x->Au n x=some ((1+k:Nat):Int))->B=true):=by
  intro q;rw[<- y];exact Ps _ 1 es q
 have D:Hid (∀k x,es[k]?=some x->Au n x≠some ((1+k:Nat):Int)->B=false):=by
  intro k x u q;rw[<- y];cases K:A7 (Au n) es with
  | false=>rfl
  | true=>exact absurd (Pr _ 1 es k x u K) q
 rw[y];clear y;go_enter func312,ntmps312
 go_wp2_with fail
 go_loopw [9] (fun i wr=>∃k:Nat,k<=len/\i=.int .i64 k/\Hid (∀j x,j<k->es[j]?=some x->Au n x=some ((1+j:Nat):Int))/\Hid (Ac w wr)) (fun i _=>len-(intOf i).toNat)
 case atStart=>exact⟨0,Ae1 _,rfl,fun j x hj=>by omega,Ac.refl w⟩
 case round =>
  obtain⟨k,S,rfl,v,g⟩:=hrel;by_cases G:k<len
  ·have u:k<es.length:=by rw[<- I.out];exact G
   obtain⟨O,N,rfl,s,r⟩:=H.resolve_left (by omega);obtain⟨V,t,f⟩:=r k es[k] (List.getElem?_eq_getElem u);have R:=(g.out.below.cell (p:=⟨O,N+k,none⟩) s).trans t;have U:=Ad8 s g.out.below.size;have P:=Ae f.one;have b:=D.out k es[k] (List.getElem?_eq_getElem u);have o:Au n es[k]=some ((1+k:Nat):Int)->Hid (∀j x,j<k+1->es[j]?=some x->Au n x=some ((1+j:Nat):Int)):=by
    intro q j x hj c;by_cases F:j<k
    ·exact v.out j x F c
    ·obtain rfl:j=k:=by omega
     rw[List.getElem?_eq_getElem u] at c;simp only[Option.some.injEq] at c;rw[<- c];exact q
   have d:=f.num;clear r t f H D C v;generalize Au n es[k]=m at b o d;rcases d with⟨i,rfl,z⟩|⟨z,M⟩
   ·subst z;by_cases E:i=(k:Int)+1
    ·have A:=o (by rw[E];congr 1;omega);clear o b;subst E;go_wp2_with fail
     go_roundw
     case rel=>exact⟨k+1,by omega,by go_num,A,g.out.alloc _⟩
     case measure=>simp[intOf];omega
    ·have l:Hid _:=b (by intro q;simp only[Option.some.injEq] at q;omega);clear o b;have L:(i==(k:Int)+1)=false:=by simp[E]
     go_wp2_with fail
     go_ret
     exact⟨by rw[l.out];rfl,g.out.alloc _⟩
   ·have l:Hid _:=b (by rw[z];simp);clear o b z;rcases M with rfl|⟨x,rfl⟩|⟨x,rfl⟩|⟨x,rfl⟩|⟨x,rfl⟩|⟨x,rfl⟩
    all_goals
     go_wp2_with fail
     go_ret
     exact⟨by rw[l.out];rfl,g.out.alloc _⟩
  ·have T:k=len:=by omega
   have l:Hid _:=C.out fun j x hj=>v.out j x (by have:=(List.getElem?_eq_some_iff.1 hj).1;rw[<- I.out] at this;omega) hj;clear H C D v;go_wp2_with fail
   go_ret
   exact⟨by rw[l.out];rfl,g.out⟩
end
section
attribute [local go_sem] Na Nb Jq Jr Fy Fz Ga Gb Ln Nc I6 I7 Fe Ff Fg Fh Hr Hs Gc Gd Ea Eb Ec Ed Ht Hu Ge Gf Ee Ef Eg Eh Gw Hv Fj Fk Dq Dr Ds Dt Gx Hw Fl Fm Du Dv Dw Dx
def mkF {α:Type}(wta:α->Nat)(ks us:List α):Ag α:=if 1+wtL wta ks+wtL wta us<=1024 then Dd ks us else Ar
theorem E4 (n:Nat)(P:Nat->Prop)(w:World)(d:Nat)(a:Option Addr)(len cap:Nat)(ks us:List (AV n))(hd:Dy P w (Aj P w n) (wt n) d ks)(h:Bv P w (Aj P w n) a len us)(hP:∀k,w.heap.size<=k->P k)
  (hwk:1+wtL (wt n) ks<=1024) (hw:∀x∈us,wt n x<=1024) (hl:ks.length=us.length) (hcap:Gm a len cap) :
  Calls prog 283 #[.pointer (some ⟨d,0,none⟩),.slice a len cap] w fun e w'=>∃v,e=.returned (.agg #[v])/\Aj P w' (n+1) (mkF (wt n) ks us) v/\Ac w w':=by
 have F:Hid _:=fun(W:World) (hW:Ac w W)=>Mi n W a len cap us ((h.row (Aj.rep n)).below hW.below fun x v=>Rep.below hW.below n x v) hw;have hb:=Mh (wt n) us hw;have a0:us.length<=4294967296:=by have:=h.1;have:=h.2.1;omega
 have T:Hid (Dy P w _ (wt n) d ks):=hd;obtain⟨G,Y,q,o,A,p⟩:=hd;have U:Hid _:=fun(W:World) (hW:Ac w W)=>gK n W Y q o ks ((p.row (Aj.rep n)).below hW.below fun x v=>Rep.below hW.below n x v);have V:Hid _:=hP;have X:Hid (Bv P w _ a len us):=h;have D:Hid (∀(b:Nat)(W:World),Ac w W->w.heap.size<=b->W.heap[b]?=some (.cells #[.pointer (some ⟨d,0,none⟩),.slice a len cap,.int .i64 ((1+wtL (wt n) ks+wtL (wt n) us:Nat):Int),.bool (A7 (Au n) ks)] 130 (0,0))->Aj P W (n+1) (Dd ks us:_) (.iface 125 (.pointer (some ⟨b,0,none⟩)))):=by
  intro b W hW H A;exact .inr (.inr (.inr (.inr (.inr (.inr ⟨ks,us,b,d,rfl,rfl,V.out b H,T.out.keep (Fr.grew hW),hl,a,len,cap,A,X.out.keep (Fr.grew hW),hcap⟩)))))
 have u:Hid (∀W:World,Ac w W->W.cell? ⟨d,0,none⟩=some (.slice Y q o)/\W.cell? ⟨d,1,none⟩=some (.int .i64 ((1+wtL (wt n) ks:Nat):Int))):=by
  intro W hW;have:=Ac1 hW.below A;exact⟨Ab this 0,Ab this 1⟩
 unfold mkF;have a2:=Aa A;clear h hP hw X V T G A p hl;have hz:d≠w.heap.size:=by omega
 generalize wtL (wt n) us=N at F hb D |-;generalize wtL (wt n) ks=K at u hwk D |-;generalize A7 (Au n) ks=C at U D;have mo:=follows;by_cases Z:1+K+N<=1024
 ·rw[if_pos Z];go_enter func283,ntmps283
  go_wp2_with fail
  obtain⟨E,O⟩:=u.out _ ((Ac.refl w).alloc (.cells #[.nilIface] 23));go_region_held3 (fun w'=>w'.cell? ⟨d,1,none⟩=some (.int .i64 ((1+K:Nat):Int))) (first|assumption|go_keep)
   ((go_at_call 279;refine(F.out _ (((Ac.refl w).alloc _).drew)).mono ?_;rintro e w' ⟨rfl,j⟩;obtain⟨L,M,B⟩:=Kf (((Ac.refl _).drew).trans j);have z:Hid (w'.heap[w.heap.size]?=some (.cells #[_] 23 (0,0))):=Ac1 (((Ac.refl _).drew).trans j).below (Af rfl);have s:Hid (Ac w w'):=(((Ac.refl _).drew).trans j).of_alloc;clear j;obtain⟨Q,R⟩:=u.out _ s.out))
  have f:IntKind.i64.wrap (1+(K:Int)+(N:Int))=1+(K:Int)+(N:Int):=by rw[IntKind.wrap_i64];omega
  rw[f];clear f;obtain⟨l,i⟩:∃b,b=w'.heap.size:=⟨_,rfl⟩;have g:(w'.alloc (.cells #[.pointer (some ⟨d,0,none⟩),.slice a len cap,.int .i64 (1+(K:Int)+(N:Int)),.bool false] 130)).heap[l]?=_:=Af i.symm;have r:Hid (Ac w (w'.alloc (.cells #[.pointer (some ⟨d,0,none⟩),.slice a len cap,.int .i64 (1+(K:Int)+(N:Int)),.bool false] 130))):=s.out.alloc _;have c:(w'.alloc (.cells #[.pointer (some ⟨d,0,none⟩),.slice a len cap,.int .i64 (1+(K:Int)+(N:Int)),.bool false] 130)).heap[w.heap.size]?=some (.cells #[.nilIface] 23 (0,0)):=by
   rw[Below.heap_alloc _ _ _ B];exact z.out
  have m:w.heap.size<l:=by omega
  rw[<- i];clear i L M B s Q R E O z;generalize w'.alloc _=W2 at g r c |-;have HN:Hid (W2.heap[l]?=_):=g;have HB:Hid (W2.heap[w.heap.size]?=_):=c;have c2:=Ab g 2;obtain⟨E,_⟩:=u.out _ r.out;clear g c;go_wp2_with (go_at_call 312;refine(U.out _ r.out).mono ?_;rintro e w3 ⟨rfl,j⟩;have t:Hid _:=Ac1 j.below HN.out;have y:Hid _:=Ac1 j.below HB.out;have S:Hid (Ac w w3):=r.out.trans j;clear j;have u0:=Ab t.out 3;have u1:=Ad t.out 3;have J:=Ab y.out 0;have u3:=Ad y.out 0)
  have r1:(w3.setCell ⟨l,3,none⟩ (.bool C)).cell? _=some .nilIface:=(World.cell?_setCell_other _ _ _ _ (fun e=>by have:=congrArg Addr.block e;simp at this;omega)).trans J;have I:=World.cell?_setCell_same _ _ (.iface 125 (.pointer (some ⟨l,0,none⟩))) r1;refine Ae2 (v:=.agg #[.iface 125 (.pointer (some ⟨l,0,none⟩))]) (by simp[results,results283,go_sem,I]) rfl ⟨_,rfl,?_,(S.out.setNew (Nat.le_of_lt m) _).setNew (Ad9 _) _⟩;refine D.out _ _ ((S.out.setNew (Nat.le_of_lt m) _).setNew (Ad9 _) _) (Nat.le_of_lt m) ?_;rw[Below.heap_setCell _ _ _ _ (by simp;omega),Ai t.out 3 (.bool C),show((1+K+N:Nat):Int)=1+(K:Int)+(N:Int) from by omega];rfl
 ·rw[if_neg Z];have a1:(1024:Int)<1+(K:Int)+(N:Int):=by omega
  go_enter func283,ntmps283
  go_wp2_with fail
  obtain⟨E,O⟩:=u.out _ ((Ac.refl w).alloc (.cells #[.nilIface] 23));go_region_held3 (fun w'=>w'.cell? ⟨d,1,none⟩=some (.int .i64 ((1+K:Nat):Int))) (first|assumption|go_keep)
   ((go_at_call 279;refine(F.out _ (((Ac.refl w).alloc _).drew)).mono ?_;rintro e w' ⟨rfl,j⟩;obtain⟨L,M,B⟩:=Kf (((Ac.refl _).drew).trans j);have z:Hid (w'.heap[w.heap.size]?=some (.cells #[_] 23 (0,0))):=Ac1 (((Ac.refl _).drew).trans j).below (Af rfl);have s:Hid (Ac w w'):=(((Ac.refl _).drew).trans j).of_alloc;clear j;obtain⟨Q,R⟩:=u.out _ s.out))
  have f:IntKind.i64.wrap (1+(K:Int)+(N:Int))=1+(K:Int)+(N:Int):=by rw[IntKind.wrap_i64];omega
  rw[f];clear f;obtain⟨l,i⟩:∃b,b=w'.heap.size:=⟨_,rfl⟩;have g:(w'.alloc (.cells #[.pointer (some ⟨d,0,none⟩),.slice a len cap,.int .i64 (1+(K:Int)+(N:Int)),.bool false] 130)).heap[l]?=_:=Af i.symm;have r:Hid (Ac w (w'.alloc (.cells #[.pointer (some ⟨d,0,none⟩),.slice a len cap,.int .i64 (1+(K:Int)+(N:Int)),.bool false] 130))):=s.out.alloc _;have c:(w'.alloc (.cells #[.pointer (some ⟨d,0,none⟩),.slice a len cap,.int .i64 (1+(K:Int)+(N:Int)),.bool false] 130)).heap[w.heap.size]?=some (.cells #[.nilIface] 23 (0,0)):=by
   rw[Below.heap_alloc _ _ _ B];exact z.out
  have m:w.heap.size<l:=by omega
  rw[<- i];clear i L M B s Q R E O z;generalize w'.alloc _=W2 at g r c |-;have c2:=Ab g 2;have J:=Ab c 0;have u3:=Ad c 0;clear g c;go_wp2_with fail
  have I:=World.cell?_setCell_same _ _ .nilIface J;exact Ae2 (by simp[results,results283,go_sem,I]) rfl ⟨_,rfl,.inl ⟨rfl,rfl⟩,r.out.setNew (Ad9 _) _⟩
end
section
attribute [local go_sem] Na Nb Jq Jr Fy Fz Ga Gb Ln Nc I6 I7 Fe Ff Fg Fh Hr Hs Gc Gd Ea Eb Ec Ed Ht Hu Ge Gf Ee Ef Eg Eh Gw Hv Fj Fk Dq Dr Ds Dt Gx Hw Fl Fm Du Dv Dw Dx
def Yg (m:Nat)(i:Int):AV (m+1):=(Cu i:Ag (AV m))
def Aq (m len:Nat):List (AV (m+1)):=(List.range len).map fun(i:Nat)=>Yg m ((i:Int)+1)
theorem Dc (m len:Nat):(Aq m len).length=len:=by simp[Aq]
theorem Ve (m len i:Nat)(h:i<len):(Aq m len)[i]?=some (Yg m ((i:Int)+1)):=by
 simp[Aq,h]
theorem Vf {α:Type}(f:α->Nat)(l:List α)(h:∀x∈l,f x=1):wtL f l=l.length:=by
 induction l with
 | nil=>rfl
 | cons x l ih=>rw[Fo,h x (by simp),ih (fun y hy=>h y (by simp[hy]))];simp;omega
theorem Kg (m len:Nat):wtL (wt (m+1)) (Aq m len)=len:=by
 rw[Vf _ _ ?_,Dc];intro x a;obtain⟨i,_,rfl⟩:=List.mem_map.1 a;rfl
theorem Td (m len:Nat):∀x∈Aq m len,wt (m+1) x<=1024:=by
 intro x a;obtain⟨i,_,rfl⟩:=List.mem_map.1 a;exact(by decide:1<=1024)
theorem Aj.boxed {P:Nat->Prop}{w W:World}{n:Nat}{a:AV n}{v:Value}{b:Nat}(u:Value)(h:Aj (fun k=>P k/\k≠b) W n a v)(_:w=w):Aj P (W.setCell ⟨b,0,none⟩ u) n a v :=
 h.fr ((Fr.refl _ W).set (by simp) u) (fun _ _ h=>h.1) n a v
theorem Gn:(prog.info? 23).map (fun i=>(i.zero,i.size,i.bytes))=some (some (.agg #[.nilIface]),1,16):=by kernel_rfl
theorem qE (m:Nat)(P:Nat->Prop)(w:World)(len:Nat)(hl:len<=1048577)(hP:∀k,w.heap.size<=k->P k) :
  Calls prog 209 #[.int .i64 1,.int .i64 len] w fun e w'=>∃v,e=.returned (.agg #[v])/\Aj P w' (m+2) (mkS (wt (m+1)) (Aq m len)) v/\Below w.heap.size w w':=by
 have B:Hid _:=hP;clear hP;by_cases O:len=0
 ·subst O;have z:Hid _:=fun(W:World) (hW:w.heap.size<W.heap.size)=>Dh (m+1) (fun k=>P k/\k≠w.heap.size) W none 0 0 [] ⟨rfl,by decide,.inl rfl⟩ (fun k hk=>⟨B.out k (by omega),by omega⟩) (by simp) (by simp);go_enter func209,ntmps209
  go_wp2_with (go_at_call 220;refine(z.out _ (by simp)).mono ?_;rintro e w' ⟨v,rfl,a,f⟩;obtain⟨K,Z,x2⟩:=Kf f;have y:Hid (Ac w w'):=f.of_alloc;have Y:=Ae (a.rep _ _ _).one;have C:Hid (Aj _ w' (m+2) _ v):=a;clear f a)
  have I:=World.cell?_setCell_same _ _ v K;refine Ae2 (v:=.agg #[v]) (by simp[results,results209,go_sem,I]) rfl ⟨_,rfl,?_,(y.out.setNew (Ad9 _) _).below⟩;exact C.out.boxed (w:=w) v rfl
 ·obtain⟨V,G,n,o,p⟩:=info_parts Gn;by_cases h1:1024<len
  ·have l:Hid (mkS (wt (m+1)) (Aq m len)=Ar):=by
    show _=_;unfold mkS;rw[if_neg (by rw[Kg];omega)]
   rw[l.out];clear l G n o p;go_enter func209,ntmps209
   go_wp2_with fail
   exact Ae2 (by simp[results,results209,go_sem]) rfl ⟨_,rfl,.inl ⟨rfl,rfl⟩,((Ac.refl w).alloc _).below⟩
  ·obtain⟨w1,h,J,M⟩:=run_make_full (w.alloc (.cells #[.nilIface] 23)) (w.heap.size+1) 47 23 V _ 1 underlying47 G n o .i64 .i64 len (by rw[p];omega) (by unfold maxLen;omega) (by simp);clear G n o p;simp only[World.size_alloc] at h J;go_enter func209,ntmps209
   go_wp2_with fail
   go_loopw [25] (fun i wr=>∃k:Nat,k<=len/\i=.int .i64 k/\Hid (∃r,wr.ownsRow (w.heap.size+1) 23 1 (.slice (some ⟨w.heap.size+1,0,none⟩) len len) len r/\∀j,j<k->r[j]?=some (.iface 2 (.int .i64 ((j:Int)+1))))/\Hid (Below (w.heap.size+1) (w.alloc (.cells #[.nilIface] 23)) wr)) (fun i _=>len-(intOf i).toNat)
   case atStart=>exact⟨0,Ae1 _,rfl,⟨_,J,fun j hj=>by omega⟩,(Below.refl _ _).grown M (by simp) (fun k hk=>by simp at hk)⟩
   case round =>
    clear J M h;obtain⟨k,hk,rfl,A,u⟩:=hrel;obtain⟨r,g,H⟩:=A.out;have U:r.length=len:=by have:=g.1;omega
    have D:Hid _:=H;by_cases S:k<len
    ·have F:=g.cellAt k (by omega);have R:wr.cell? ⟨w.heap.size+1,k,none⟩=some r[k]:=by rw[F,List.getElem?_eq_getElem (by omega)]
     have hf:=g.frozenAt k;have l:=g.stored k (.iface 2 (.int .i64 ((k:Int)+1)));have l:Hid (_/\_):=l;clear F H g A;go_wp2_with fail
     go_roundw
     case rel =>
      refine⟨k+1,by omega,by go_num,⟨r.set k (.iface 2 (.int .i64 ((k:Int)+1))),?_,fun j hj=>?_⟩,?_⟩
      ·rw[show(1+(k:Int))=(k:Int)+1 from by omega];exact l.out.1
      ·by_cases e:j=k
       ·subst e;rw[List.getElem?_set_self (by omega)]
       ·rw[List.getElem?_set_ne (by omega)];exact D.out j (by omega)
      ·rw[show(1+(k:Int))=(k:Int)+1 from by omega];exact u.out.grown l.out.2 (by simpa using u.out.size) (fun q hq=>by simp at hq;omega)
     case measure=>simp[intOf];omega
    ·obtain rfl:k=len:=by omega
     have d:Bv (fun q=>P q/\q≠w.heap.size) wr (Aj (fun q=>P q/\q≠w.heap.size) wr (m+1)) (some ⟨w.heap.size+1,0,none⟩) k (Aq m k):=by
      refine⟨(Dc m k).symm,by omega,.inr ⟨_+1,0,rfl,?_,⟨B.out _ (by omega),by omega⟩,fun i x hix=>?_⟩⟩
      ·have F:=g.cellAt 0 (by omega);rcases g.2 with⟨s,_⟩|⟨g',L,N,s,_,f,_⟩
       ·simp at s
       ·simp at s;obtain⟨rfl,_⟩:=s;exact Aa f
      ·have t:=by have:=(List.getElem?_eq_some_iff.1 hix).1;rw[Dc] at this;exact this
       rw[Ve m k i t] at hix;simp only[Option.some.injEq] at hix;subst hix;refine⟨_,?_,.inr (.inr (.inl ⟨_,rfl,rfl⟩))⟩;rw[Nat.zero_add,g.cellAt i (by omega),D.out i t]
     have T:w.heap.size+1<wr.heap.size:=by
      rcases d.2.2 with s|⟨b,X,e,Q,_⟩
      ·omega
      ·simp at e;rw[e.1];exact Q
     have z:Hid (Calls _ _ _ _ _):=Dh (m+1) _ wr _ k k _ d (fun q hq=>⟨B.out q (by omega),by omega⟩) (Td m k) (by rw[Dc];omega);have c:=(u.out.block w.heap.size (by omega)).trans (Af rfl);have E:Hid (wr.heap[w.heap.size]?=_):=c;clear d c H g A D;go_wp2_with (go_at_call 220;refine z.out.mono ?_;rintro e w' ⟨v,rfl,a,f⟩;have c:=Ac1 f.below E.out;have K:=Ab c 0;have Z:=Ad c 0;have y:Hid (Ac wr w'):=f;have Y:=Ae (a.rep _ _ _).one;have C:Hid (Aj _ w' (m+2) _ v):=a;clear f a c)
     have I:=World.cell?_setCell_same _ _ v K;refine Ae2 (by simp[results,results209,go_sem,I]) rfl ⟨_,rfl,C.out.boxed (w:=w) v rfl,?_⟩;exact(((Below.refl _ w).alloc (Ad9 _) _).trans ((u.out.mono (by omega)).trans (y.out.below.mono (by omega)))).setCell (Ad9 _) _
theorem Bv.keepB {P:Nat->Prop}{w w':World}(hb:Below w.heap.size w w'){n:Nat}{a:Option Addr}{len:Nat}{es:List (AV n)}(h:Bv P w (Aj P w n) a len es):Bv P w' (Aj P w' n) a len es:=h.keep (Fr.below hb)
theorem Bv.narrow {P Q:Nat->Prop}{w:World}{n:Nat}{a:Option Addr}{len:Nat}{es:List (AV n)}(h:Bv P w (Aj P w n) a len es)(hQ:∀k,k<w.heap.size->P k->Q k):Bv Q w (Aj Q w n) a len es :=
 h.fr (Fr.refl P w) (fun x v=>Aj.fr (Fr.refl P w) hQ n x v) hQ
theorem Aj.set_inv {P:Nat->Prop}{w:World}{n:Nat}{es:List (AV n)}{v:Value}(h:Aj P w (n+1) (Bt es:Ag (AV n)) v):∃b,v=.iface 121 (.pointer (some ⟨b,0,none⟩))/\Dy P w (Aj P w n) (wt n) b es:=by
 rcases h with⟨h,_⟩|⟨b,h,_⟩|⟨i,h,_⟩|⟨s,h,_⟩|⟨s,h,_⟩|⟨a,b,h,e,c⟩|⟨f,g,b,d,h,_⟩
 ·exact absurd (congrArg Ag.kind h) (by simp[Bt,Ar])
 ·exact absurd (congrArg Ag.kind h) (by simp[Bt,Bj])
 ·exact absurd (congrArg Ag.kind h) (by simp[Bt,Cu])
 ·exact absurd (congrArg Ag.kind h) (by simp[Bt,Dm])
 ·exact absurd (congrArg Ag.kind h) (by simp[Bt,D9])
 ·obtain rfl:es=a:=congrArg Ag.keys h;exact⟨b,e,c⟩
 ·exact absurd (congrArg Ag.kind h) (by simp[Bt,Dd])
theorem Aj.nil_inv {P:Nat->Prop}{w:World}{n:Nat}{v:Value}(h:Aj P w (n+1) (Ar:Ag (AV n)) v):v=.nilIface:=by
 rcases h with⟨_,h⟩|⟨b,h,_⟩|⟨i,h,_⟩|⟨s,h,_⟩|⟨s,h,_⟩|⟨a,b,h,e,c⟩|⟨f,g,b,d,h,_⟩
 ·exact h
 ·exact absurd (congrArg Ag.kind h) (by simp[Ar,Bj])
 ·exact absurd (congrArg Ag.kind h) (by simp[Ar,Cu])
 ·exact absurd (congrArg Ag.kind h) (by simp[Ar,Dm])
 ·exact absurd (congrArg Ag.kind h) (by simp[Ar,D9])
 ·exact absurd (congrArg Ag.kind h) (by simp[Ar,Bt])
 ·exact absurd (congrArg Ag.kind h) (by simp[Ar,Dd])
theorem Lo (v:Value)(w:World)(h:v.oneCell'=true):(Instr.field 23 (.agg #[v]) 0).run prog w=.ok v w:=by
 cases v<;>first|(simp[Value.oneCell'] at h;done)|kernel_rfl
theorem E5 (m:Nat)(P:Nat->Prop)(w:World)(a:Option Addr)(len cap:Nat)(us:List (AV (m+1)))(hl:len<=1048577)(h:Bv P w (Aj P w (m+1)) a len us)(hP:∀k,w.heap.size<=k->P k)(hw:∀x∈us,wt (m+1) x<=1024)(hcap:Gm a len cap) :
  Calls prog 236 #[.slice a len cap] w fun e w'=>∃v,e=.returned (.agg #[v])/\Aj P w' (m+2) (mkF (wt (m+1)) (Aq m len) us) v/\Below w.heap.size w w':=by
 have y:Hid _:=hP;have s:us.length=len:=h.1.symm;have z:Hid _:=fun(W:World) (hW:w.heap.size<W.heap.size)=>qE m (fun k=>P k/\k≠w.heap.size) W len hl (fun k hk=>⟨y.out k (by omega),by omega⟩);have C:Hid (∀(W:World)(d:Nat),_->w.heap.size<W.heap.size->_->1+len<=1024->_) :=
  fun(W:World) (d:Nat) hW hs hd hle=>E4 (m+1) _ W d a len cap _ us hd ((h.narrow (Q:=fun k=>P k/\k≠w.heap.size) (fun k hk hp=>⟨hp,by omega⟩)).keepB hW) (fun k hk=>⟨y.out k (by omega),by omega⟩) (by rw[Kg];exact hle) hw (by rw[Dc,s]) hcap
 clear h hP;have B:Hid (¬1+len<=1024->mkF (wt (m+1)) (Aq m len) us=Ar):=by
  intro q;unfold mkF;rw[if_neg (by rw[Kg];omega)]
 by_cases hle:1+len<=1024
 ·have p:Hid (mkS (wt (m+1)) (Aq m len)=Bt (Aq m len)):=by show _=_;unfold mkS;rw[if_pos (by rw[Kg];exact hle)]
  go_enter func236,ntmps236
  go_wp2_with (go_at_call 209;refine(z.out _ (by simp)).mono ?_;rintro e l ⟨v,rfl,c,g⟩;rw[p.out] at c;obtain⟨b,rfl,i⟩:=c.set_inv;have F:=fun W=>Lo (.iface 121 (.pointer (some ⟨b,0,none⟩))) W rfl;have f:=Ac1 g (Af (o:=.cells #[_] 23) rfl);have A:Hid (l.heap[w.heap.size]?=_):=f;have j:Hid _:=((Below.refl _ w).alloc (Ad9 _) _).trans (g.mono (by simp));have D:Hid (Dy _ l _ _ b _):=i;clear g c f i)
  have r:=Aa A.out;refine(C.out l b j.out r D.out hle).mono ?_;rintro e G ⟨v,rfl,c,g⟩;have f:=Ac1 g.below A.out;have u:=Ab f 0;have H:=Ad f 0;have I:=Ae (c.rep _ _ _).one;have E:Hid (Aj _ G (m+2) _ v):=c;have n:Hid _:=j.out.trans (g.below.mono (by omega));clear g c f;go_wp2_with fail
  have t:=World.cell?_setCell_same _ _ v u;exact Ae2 (by simp[results,results236,go_sem,t]) rfl ⟨_,rfl,E.out.boxed (w:=w) v rfl,n.out.setCell (Ad9 _) _⟩
 ·have p:Hid (mkS (wt (m+1)) (Aq m len)=Ar):=by show _=_;unfold mkS;rw[if_neg (by rw[Kg];exact hle)]
  rw[B.out hle];go_enter func236,ntmps236
  go_wp2_with (go_at_call 209;refine(z.out _ (by simp)).mono ?_;rintro e l ⟨v,rfl,c,g⟩;rw[p.out] at c;obtain rfl:=c.nil_inv;have F:=fun W=>Lo .nilIface W rfl;have f:=Ac1 g (Af (o:=.cells #[_] 23) rfl);have u:=Ab f 0;have H:=Ad f 0;have j:Hid _:=((Below.refl _ w).alloc (Ad9 _) _).trans (g.mono (by simp));clear g c f)
  have t:=World.cell?_setCell_same _ _ .nilIface u;exact Ae2 (by simp[results,results236,go_sem,t]) rfl ⟨_,rfl,.inl ⟨rfl,rfl⟩,j.out.setCell (Ad9 _) _⟩
end
theorem P7 {α:Type}(f:α->Nat):∀(l:List α),(∀x∈l,1<=f x)->l.length<=wtL f l
 | [],_=>Ae1 _
 | x::l,h=>by
  have h1:=h x (by simp);have h2:=P7 f l (fun y hy=>h y (by simp[hy]));rw[Fo];simp;omega
theorem uY {α:Type}(f:α->Nat)(l m:List α):wtL f (l++m)=wtL f l+wtL f m:=by
 unfold wtL;rw[List.map_append,List.sum_append]
theorem Ru {α:Type}(f:α->Nat){l:List α}{x:α}(h:x∈l):f x<=wtL f l:=by
 induction l with
 | nil=>simp at h
 | cons y l ih =>
  rw[Fo];rcases List.mem_cons.1 h with rfl|h
  ·omega
  ·have:=ih h;omega
theorem aD {α:Type}(f:α->Nat){l m:List α}(h:l.Sublist m):wtL f l<=wtL f m:=by
 induction h with
 | slnil=>exact Ad9 _
 | cons x _ ih=>rw[Fo];omega
 | cons_cons x _ ih=>rw[Fo,Fo];omega
def fnA (n:Nat)(ks us:List (AV n)):AV (n+1):=(Dd ks us:Ag (AV n))
def fnB (n:Nat)(ks us:List (AV n)):AV (n+1):=(mkF (wt n) ks us:Ag (AV n))
theorem Te {n:Nat}(ks us:List (AV n)):wt (n+1) (fnA n ks us)=1+wtL (wt n) ks+wtL (wt n) us:=by
 show wtN (wt n) (Dd ks us)=_;unfold wtN Dd;simp
theorem uZ {n:Nat}(ks us:List (AV n)):1<=wt (n+1) (fnB n ks us):=by
 unfold fnB mkF;split
 ·exact Ae0 (by omega) (Nat.le_of_eq (Te ks us).symm)
 ·exact Nat.le_of_eq rfl
theorem gL {n:Nat}(ks ks' us us':List (AV n)):Al (n+1) (fnA n ks us) (fnA n ks' us')=A4 (Es (Al n) ks ks') (Es (Al n) us us'):=by
 show A4 (Lib.compareInt 6 6) (A4 (Lib.compareInt 0 0) (A4 (Lib.compareBytes [] []) _))=_;simp only[Lib.compareInt,Lib.compareBytes];rfl
theorem Yh {α:Type}{c:α->α->Int}(r r':List α)(h:r.length=r'.length):Es c r r'=Ew c r r':=by
 unfold Es;rw[h];simp[A4,Lib.compareInt]
theorem gM {α:Type}{c:α->α->Int}(r r':List α)(h:r.length<r'.length):Es c r r'<0:=by
 unfold Es;have a:Lib.compareInt (r.length:Int) (r'.length:Int)=-1:=by unfold Lib.compareInt;rw[if_pos (by omega)]
 rw[a];simp[A4]
def Yi (n:Nat)(ks bs:List (AV n)):List (AV (n+1)):=(Ak bs ks.length).map (fnA n ks)
def Fv (n:Nat)(ks:List (AV n))(rs:List (List (AV n))):List (AV (n+1)):=rs.map (fnB n ks)
abbrev Qn (n:Nat)(ks:List (AV n))(rs:List (List (AV n))):Prop:=∀r∈rs,1+wtL (wt n) ks+wtL (wt n) r<=1024
theorem Rv {n:Nat}{ks:List (AV n)}{rs:List (List (AV n))}(h:Qn n ks rs):Fv n ks rs=rs.map (fnA n ks) :=
 List.map_congr_left fun r hr=>by unfold fnB mkF;rw[if_pos (h r hr)];rfl
def I8 (n:Nat)(ks bs:List (AV n)):Ag (AV (n+1)):=if Qn n ks (Ak bs ks.length) then mkS (wt (n+1)) (Yi n ks bs) else Ar
theorem Yj (n:Nat){ks bs:List (AV n)}(hb:Asc (Al n) bs):Asc (Al (n+1)) (Yi n ks bs):=by
 unfold Asc Yi;rw[List.pairwise_map];refine List.Pairwise.imp_of_mem ?_ (P5 (ord n) hb ks.length);intro r c d b a;rw[gL,(Kd (ord n)).self ks,Yh r c (by rw[Co _ r d,Co _ c b])];simpa [A4] using a
theorem Rw {α:Type}{f:α->Nat}{l:List α}(h:1024<=wtL f l):mkS f l=Ar:=by unfold mkS;rw[if_neg (by omega)]
theorem Yk (n:Nat){ks bs:List (AV n)}{k:Nat}(hk:k<ks.length)(h:1024<=(Ak bs k).length*bs.length):I8 n ks bs=Ar:=by
 unfold I8;split
 ·refine Rw ?_;have c:0<bs.length:=by
   rcases Nat.eq_zero_or_pos bs.length with a|a
   ·rw[a] at h;omega
   ·exact a
  have b:1024<=(Yi n ks bs).length:=by
   unfold Yi;rw[List.length_map];rw[<- Fu] at h;exact Ae0 h (Yc c hk)
  refine Ae0 b (P7 _ _ fun x hx=>?_);obtain⟨r,_,rfl⟩:=List.mem_map.1 hx;rw[Te];omega
 ·rfl
def B7 (m:Nat)(es:List (AV (m+1)))(N:Nat):List (AV (m+2)):=(List.range (N+1)).flatMap fun i=>(Ak es i).map (fnA (m+1) (Aq m i))
def D5 (m:Nat)(es:List (AV (m+1)))(N:Nat):List (AV (m+2)):=(List.range (N+1)).flatMap fun i=>Fv (m+1) (Aq m i) (Ak es i)
abbrev Kh (m:Nat)(es:List (AV (m+1)))(N:Nat):Prop:=∀i,i<N+1->Qn (m+1) (Aq m i) (Ak es i)
def Jh (m:Nat)(es:List (AV (m+1)))(N:Nat):Ag (AV (m+2)):=if Kh m es N then mkS (wt (m+2)) (B7 m es N) else Ar
theorem Vg {m:Nat}{es:List (AV (m+1))}{N:Nat}(h:Kh m es N):D5 m es N=B7 m es N:=by
 unfold D5 B7;rw[List.flatMap_def,List.flatMap_def]
 congr 1
 refine List.map_congr_left fun i hi=>?_;rw[Rv (h i (by simpa using hi))]
theorem Vh (m:Nat)(es:List (AV (m+1)))(N:Nat):D5 m es (N+1)=D5 m es N++Fv (m+1) (Aq m (N+1)) (Ak es (N+1)):=by
 unfold D5;rw[List.range_succ,List.flatMap_append];simp
theorem Ic (m:Nat)(es:List (AV (m+1)))(N:Nat):B7 m es (N+1)=B7 m es N++(Ak es (N+1)).map (fnA (m+1) (Aq m (N+1))):=by
 unfold B7;rw[List.range_succ,List.flatMap_append];simp
theorem Vi (m:Nat){es:List (AV (m+1))}(hb:Asc (Al (m+1)) es)(N:Nat):Asc (Al (m+2)) (B7 m es N):=by
 unfold Asc B7;rw[List.pairwise_flatMap];constructor
 ·intro i k;rw[List.pairwise_map];refine List.Pairwise.imp_of_mem ?_ (P5 (ord (m+1)) hb i);intro r d e c b;rw[gL,(Kd (ord (m+1))).self,Yh r d (by rw[Co _ r e,Co _ d c])];simpa [A4] using b
 ·refine List.Pairwise.imp ?_ (List.pairwise_lt_range (n:=N+1));intro i j a x g y h;obtain⟨r,_,rfl⟩:=List.mem_map.1 g;obtain⟨d,_,rfl⟩:=List.mem_map.1 h;have f:Es (Al (m+1)) (Aq m i) (Aq m j)<0:=gM _ _ (by rw[Dc,Dc];exact a);rw[gL];unfold A4;rw[if_neg (by omega)];exact f
theorem Vj (m:Nat)(es:List (AV (m+1))){K N:Nat}(h:K<=N):wtL (wt (m+2)) (B7 m es K)<=wtL (wt (m+2)) (B7 m es N):=by
 induction N with
 | zero =>
  obtain rfl:K=0:=by omega
  exact Ad9 _
 | succ N ih =>
  rcases Nat.lt_or_ge N K with a|a
  ·obtain rfl:K=N+1:=by omega
   exact Ad9 _
  ·rw[Ic,uY];have:=ih a;omega
theorem K3 (m:Nat){es:List (AV (m+1))}{K N:Nat}(h:K<=N)(hh:¬Kh m es K\/1024<=wtL (wt (m+2)) (B7 m es K)):Jh m es N=Ar:=by
 unfold Jh;split
 ·rename_i hl
  rcases hh with hh|hh
  ·exact absurd (fun i hi=>hl i (by omega)) hh
  ·exact Rw (Ae0 hh (Vj m es h))
 ·rfl
theorem mQ (m:Nat)(es:List (AV (m+1)))(N:Nat):(D5 m es N).length=(B7 m es N).length:=by
 simp[D5,B7,List.length_flatMap,Fv]
theorem qF (m:Nat)(es:List (AV (m+1)))(N:Nat):(D5 m es N).length<=wtL (wt (m+2)) (D5 m es N):=by
 refine P7 _ _ fun x hx=>?_;obtain⟨i,_,hx⟩:=List.mem_flatMap.1 hx;obtain⟨r,_,rfl⟩:=List.mem_map.1 hx;exact uZ _ _
theorem Yl (m:Nat)(es:List (AV (m+1)))(N:Nat):(B7 m es N).length<=wtL (wt (m+2)) (B7 m es N):=by
 refine P7 _ _ fun x hx=>?_;obtain⟨i,_,hx⟩:=List.mem_flatMap.1 hx;obtain⟨r,_,rfl⟩:=List.mem_map.1 hx;rw[Te];omega
theorem Nx (m:Nat){es:List (AV (m+1))}(he:0<es.length):∀N,N+1<=(B7 m es N).length
 | 0=>by simp[B7,Ak]
 | N+1=>by
  rw[Ic,List.length_append,List.length_map];have:=Nx m he N;have:=gH he (N+1);omega
theorem Vk (m:Nat){es:List (AV (m+1))}{k N:Nat}(hk:k<N)(h:1024<=(Ak es k).length*es.length):Jh m es N=Ar:=by
 refine K3 m (K:=k+1) hk (.inr ?_);refine Ae0 ?_ (Yl m es (k+1));rw[Ic,List.length_append,List.length_map,Fu];omega
/-- a value and its tree, in a world -/
structure Fc (n:Nat)(W:World) where
 x:AV n
 v:Value
 h:Rep W n x v
def Gp (w:World)(g len:Nat)(vs:List Value):Prop :=
 g<w.heap.size/\vs.length=len/\∀i,i<len->w.cell? ⟨g,i,none⟩=some (vs.getD i .nilIface)/\w.frozen? ⟨g,i,none⟩=false
theorem Gp.fr {w w':World}{g len:Nat}{vs:List Value}(h:Gp w g len vs){P:Nat->Prop}(f:Fr P w w')(hg:P g):Gp w' g len vs:=by
 have c:=f.block g h.1 hg;refine⟨Ad8 h.1 f.size,h.2.1,fun i hi=>?_⟩;obtain⟨a,b⟩:=h.2.2 i hi;exact⟨(World.cell?_of_block (w:=w) c).trans a,(World.frozen?_of_block (w:=w) c).trans b⟩
theorem Gp.set {w:World}{g len:Nat}{vs:List Value}(h:Gp w g len vs)(j:Nat)(hj:j<len)(u:Value):Gp (w.setCell ⟨g,j,none⟩ u) g len (vs.set j u):=by
 refine⟨by simpa using h.1,by simpa using h.2.1,fun i hi=>?_⟩;obtain⟨a,b⟩:=h.2.2 i hi;refine⟨?_,by simpa using b⟩;have c:=h.2.1;by_cases e:i=j
 ·subst e;rw[World.cell?_setCell_same _ _ _ a];simp[List.getD,List.getElem?_set_self (show i<vs.length by omega)]
 ·rw[World.cell?_setCell_other _ _ _ _ (fun q=>e (congrArg Addr.off q).symm),a];simp[List.getD,List.getElem?_set_ne (Ne.symm e)]
theorem Fr.setCells {P:Nat->Prop}{a:World}{g:Nat}(hg:¬P g):∀(vs:List Value)(o:Nat){b:World},Fr P a b->Fr P a (b.setCells g o vs)
 | [],_,_,h=>h
 | v::r,o,_,h=>Fr.setCells hg r (o+1) (h.set (p:=⟨g,o,none⟩) hg v)
theorem Je {g:Nat}:∀(vs:List Value)(o i:Nat)(w:World),i<o->(w.setCells g o vs).cell? ⟨g,i,none⟩=w.cell? ⟨g,i,none⟩
 | [],_,_,_,_=>rfl
 | v::r,o,i,w,h=>by
  rw[World.setCells,Je r (o+1) i _ (by omega),World.cell?_setCell_other _ _ _ _ (fun q=>by have:=congrArg Addr.off q;simp at this;omega)]
theorem Im {α:Type}(f:α->Value)(l:List α)(i:Nat)(x:α)(h:l[i]?=some x):(l.map f).getD i .nilIface=f x:=by
 simp[List.getD,h]
theorem Vm {W0 w w':World}{g:Nat}(h:Below W0.heap.size W0 w)(f:Fr (·≠g) w w')(hg:W0.heap.size<=g):Below W0.heap.size W0 w' :=
 ⟨f.os.trans h.os,f.tape.trans h.tape,f.output.trans h.output,Ae0 h.size f.size,fun k hk=>(f.block k (Ad8 hk h.size) (by omega)).trans (h.block k hk)⟩
end Go.Proofs.YtdpeliifdlhhkaaGreatDoor.Sx
