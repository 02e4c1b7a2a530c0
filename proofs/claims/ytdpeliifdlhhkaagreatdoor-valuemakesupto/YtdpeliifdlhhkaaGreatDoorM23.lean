/- Operators: the one of a name and of a number of values. -/
import Derived.Test.YtdpeliifdlhhkaaGreatDoorM22
namespace Go.Proofs.YtdpeliifdlhhkaaGreatDoor.Sx
open Go.RowKit Go.Sort Tryz
set_option maxRecDepth 100000
set_option maxHeartbeats 4000000
theorem eL:(Cc.map (·.1)).Nodup:=by decide
theorem Zr {i j:Nat}{x y:List UInt8×Int×(World->Value->Prop)}(hi:Cc[i]?=some x)(hj:Cc[j]?=some y)(h:x.1=y.1):i=j:=by
 have e:=List.getElem?_eq_some_iff.1 hi;have f:=List.getElem?_eq_some_iff.1 hj;obtain⟨c,rfl⟩:=e;obtain⟨d,rfl⟩:=f;have g:=eL;have b:=List.pairwise_iff_getElem.1 g;rcases Nat.lt_trichotomy i j with a|a|a
 ·exact absurd (by rw[List.getElem_map,List.getElem_map];exact h) (b i j (by simpa using c) (by simpa using d) a)
 ·exact a
 ·exact absurd (by rw[List.getElem_map,List.getElem_map];exact h.symm) (b j i (by simpa using d) (by simpa using c) a)
def jD (op:List UInt8)(n:Nat):Prop:=∀x∈Cc,x.1=op->x.2.1≠-1/\x.2.1≠(n:Int)
def Wy (w:World)(op:ByteArray)(n:Nat)(e:Ending)(w':World):Prop :=
 Below w.heap.size w w'/\((∃(i:Nat)(t:Int)(C:World->Value->Prop)(k:FuncId)(cs:Array Value),e=.returned (.func (.func k) #[] cs)/\Cc[i]?=some (op.data.toList,t,C)/\C w' (.func (.func k) #[] cs)/\(t=-1\/t=(n:Int))) \/
  (e=.returned (.func (.func 82) #[] #[])/\jD op.data.toList n))
theorem Rd (op:ByteArray)(n:Nat)(w:World):Calls prog 42 #[.string op,.int .i64 (n:Int)] w (Wy w op n):=by
 obtain⟨a,s⟩:∃a,Wy w op n=a:=⟨_,rfl⟩;have p:Hid (Wy w op n=a):=s;rw[s];clear s;have z:Hid _:=fun W=>sP op W;go_enter func42,ntmps42
 go_wp2_with fail
 refine(z.out _).mono ?_;rintro e b ⟨m,⟨i,t,C,k,c,rfl,B,A⟩|⟨rfl,o⟩⟩
 ·have y:Hid (Below w.heap.size w b):=m;have E:=Ae (v:=.func (.func k) #[] c) rfl;have l:Hid _:=B;have D:Hid _:=A;clear m B A z;have d:Below _ b (b.alloc (.cells #[.string op,.int .i64 t,.func (.func k) #[] c] 137)):=((Ac.refl b).alloc _).below;have g:Hid _:=y.out.trans (d.mono y.out.size);have h:Hid (C _ _):=Tv _ (Ae4 l.out) b _ _ d D.out;clear d;by_cases q:t=-1
  ·have f:Hid (a (.returned (.func (.func k) #[] c)) (b.alloc (.cells #[.string op,.int .i64 t,.func (.func k) #[] c] 137))):=by
    show a _ _;rw[<- p.out];exact⟨g.out,.inl ⟨i,t,C,k,c,rfl,l.out,h.out,.inl q⟩⟩
   subst q;go_wp2_with fail
   exact f.out
  ·by_cases r:t=(n:Int)
   ·have f:Hid (a (.returned (.func (.func k) #[] c)) (b.alloc (.cells #[.string op,.int .i64 t,.func (.func k) #[] c] 137))):=by
     show a _ _;rw[<- p.out];exact⟨g.out,.inl ⟨i,t,C,k,c,rfl,l.out,h.out,.inr r⟩⟩
    subst r;go_wp2_with fail
    exact f.out
   ·have f:Hid (a (.returned (.func (.func 82) #[] #[])) (b.alloc (.cells #[.string op,.int .i64 t,.func (.func k) #[] c] 137))):=by
     show a _ _;rw[<- p.out];refine⟨g.out,.inr ⟨rfl,fun x hx e=>?_⟩⟩;obtain⟨j,u⟩:=List.mem_iff_getElem?.1 hx;obtain rfl:=Zr l.out u e.symm;rw[l.out] at u;obtain rfl:=Ae5 u;exact⟨q,r⟩
    have F:(t != -1)=true:=by simpa using q
    have G:(t != (n:Int))=true:=by simpa using r
    go_wp2_with fail
    exact f.out
 ·have E:=Ae (v:=.nilFunc) rfl;have g:Below _ w (b.alloc (.cells #[.string ⟨#[]⟩,.int .i64 0,.nilFunc] 137)):=m.trans ((((Ac.refl b).alloc _).below).mono m.size);have f:Hid (a (.returned (.func (.func 82) #[] #[])) (b.alloc (.cells #[.string ⟨#[]⟩,.int .i64 0,.nilFunc] 137))):=by
   show a _ _;rw[<- p.out];exact⟨g,.inr ⟨rfl,fun x hx e=>absurd e (o x hx)⟩⟩
  clear g m o;go_wp2_with fail
  exact f.out
def zI (k:FuncId)(cs:Array Value)(a:Value)(w:World)(Q:Ending->World->Prop):Prop :=
 ∃args,Sem.run prog (callFunc k (#[a]++cs)) w=.ok (.enter k args) w/\Calls prog k args w Q
def Bd (P:Nat->Prop)(w:World)(m:Nat)(y:AV m)(e:Ending)(w':World):Prop:=∃v,e=.returned (.agg #[v])/\Below w.heap.size w w'/\Aj P w' m y v
theorem A6 {P:Nat->Prop}{w w1:World}{m:Nat}{y:AV m}{v:Value}(hb:Below w.heap.size w w1)(hr:Aj (fun k=>P k/\k≠w.heap.size) w1 m y v):Below w.heap.size w (w1.setCell ⟨w.heap.size,0,none⟩ v)/\Aj P (w1.setCell ⟨w.heap.size,0,none⟩ v) m y v:=by
 have b:Fr (fun k=>P k/\k≠w.heap.size) w1 (w1.setCell ⟨w.heap.size,0,none⟩ v):=(Fr.refl _ w1).set (by simp) v;have a:Fr (fun k=>k<w.heap.size) w (w1.setCell ⟨w.heap.size,0,none⟩ v):=(Fr.below hb).set (by simp) v;exact⟨⟨a.os,a.tape,a.output,a.size,fun i hi=>a.block i hi hi⟩,hr.fr b (fun k _ h=>h.1) m y v⟩
theorem Ko (op:ByteArray)(a:Option Addr)(n cap:Nat)(w:World)(i:Nat)(t:Int)(C:World->Value->Prop)(hi:Cc[i]?=some (op.data.toList,t,C))(ht:t=-1\/t=(n:Int))(P:Nat->Prop)(m:Nat)(y:AV m)
  (H:∀(W:World)(k:FuncId)(cs:Array Value),Below w.heap.size w W->w.heap.size<W.heap.size->C W (.func (.func k) #[] cs)->zI k cs (.slice a n cap) W (Bd (fun k=>P k/\k≠w.heap.size) W m y)) :
  Calls prog 21 #[.string op,.slice a n cap] w (Bd P w m y):=by
 have B:Hid _:=fun W=>Rd op n W;have A:Hid _:=H;have o:Hid _:=hi;have D:Hid (t=-1\/t=(n:Int)):=ht;clear H hi ht;have r:Hid ((w.alloc _).heap[w.heap.size]?=some (.cells #[.nilIface] 23 (0,0))):=Af rfl;have l:Hid (Below _ w (w.alloc (.cells #[.nilIface] 23))):=((Ac.refl w).alloc _).below;go_enter func21,ntmps21
 go_wp2_with fail
 generalize w.alloc _=W0 at r l |-;refine(B.out W0).mono ?_;rintro e M ⟨d,⟨O,L,x,k,cs,rfl,c,f,_⟩|⟨rfl,p⟩⟩
 ·obtain rfl:=Zr o.out c rfl;rw[o.out] at c;obtain⟨_,rfl,rfl⟩:True/\t=L/\C=x:=by simpa using c
  have j:Hid _:=l.out.trans (d.mono l.out.size);have s:Hid _:=Ac1 d r.out;obtain⟨u,K,b⟩:=A.out M k cs j.out (Aa s.out) f;clear c f d;go_wp2_with fail
  refine b.mono ?_;rintro e N ⟨v,rfl,d,q⟩;have S:=Ae (q.rep _ _ _).one;have g:Hid _:=Ac1 d s.out;have E:=A6 (j.out.trans (d.mono j.out.size)) q;have z:Hid (Bd P w m y _ _):=⟨v,rfl,E.1,E.2⟩;have F:Hid ((N.setCell _ v).heap[w.heap.size]?=some (.cells #[v] 23 (0,0))):=Ai g.out 0 v;have Q:=Ab g.out 0;have R:=Ad g.out 0;have T:=Aa g.out;clear E d q b K;go_wp2_with fail
  have G:=Ab F.out 0;exact Ae2 (by simp[results,results21,go_sem,G]) rfl z.out
 ·obtain⟨I,J⟩:=p _ (Ae4 o.out) rfl;rcases D.out with h|h
  ·exact absurd h I
  ·exact absurd h J
end Go.Proofs.YtdpeliifdlhhkaaGreatDoor.Sx
