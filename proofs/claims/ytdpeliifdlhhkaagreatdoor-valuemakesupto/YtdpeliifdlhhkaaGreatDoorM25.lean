/- Operators: subset. -/
import Derived.Test.YtdpeliifdlhhkaaGreatDoorM24
namespace Go.Proofs.YtdpeliifdlhhkaaGreatDoor.Sx
open Go.RowKit Go.Sort Tryz
set_option maxRecDepth 100000
set_option maxHeartbeats 2000000
theorem jO (n:Nat)(P:Nat->Prop)(w:World)(b1 b2:Nat)(es fs:List (AV n))(h1:Dy P w (Aj P w n) (wt n) b1 es)(h2:Dy P w (Aj P w n) (wt n) b2 fs)(hA:Asc (Al n) fs) :
  Calls prog 214 #[.pointer (some ⟨b1,0,none⟩),.pointer (some ⟨b2,0,none⟩)] w (Bd P w (n+1) (Bj (((es.filter (fun x=>Ch n fs x)).length:Int)==(es.length:Int)):Ag (AV n))):=by
 have c:Hid (Ac w (w.alloc (.cells #[.nilIface] 23))):=(Ac.refl w).alloc _;have m:Hid ((w.alloc _).heap[w.heap.size]?=some (.cells #[.nilIface] 23 (0,0))):=Af rfl;have j:Hid (Asc (Al n) fs):=hA;obtain⟨D,a,C,d,b,g⟩:=id h1;obtain rfl:=g.1;have o:=Ab b 0;have i:=Aa b;have k:Hid _:=fun W hW =>
  Sk n P W b1 es (h1.keep (Fr.grew hW)) 216 _ (fun x=>_) (fun v W=>eR _ _ W) (fun x v W' hx hb=>Uz n W' b2 fs x v (((h2.keep (Fr.grew hW)).set (Aj.rep n)).below hb fun y u=>Rep.below hb n y u) ((hx.rep _ _ _).below hb n x v) j.out)
 clear h1 h2 hA b g D j;generalize es.filter _=acc at k |-;have H:=follows;go_enter func214,ntmps214
 go_wp2_with fail
 have r:(w.alloc (.cells #[.nilIface] 23)).cell? _=some (.slice a _ d):=(c.out.below.cell (p:=⟨b1,0,none⟩) i).trans o;have t:=Ad8 i c.out.below.size;clear o;generalize w.alloc _=W0 at m c r t |-;go_region_held3 (fun w'=>w'.cell? ⟨b1,0,none⟩=some (.slice a es.length d)) (first|assumption|(refine Et ?_ (Nat.ne_of_lt i);assumption)|go_keep)
  ((go_at_call 215;refine(k.out _ (c.out.drew)).mono ?_;rintro e E ⟨K,rfl,f⟩;obtain⟨F,q,rfl⟩:=f.form;have l:Hid _:=(c.out.drew).below.trans (f.low.mono (c.out.drew).below.size);have h:Hid _:=Ac1 f.low m.out;have G:=(f.low.cell (p:=⟨b1,0,none⟩) t).trans r;have I:=Ab h.out 0;have J:=Ad h.out 0;have L:=Aa h.out;clear f))
 generalize (_==(_:Int))=s at *;have z:Hid (Bd P w (n+1) _ _ _):=⟨_,rfl,(A6 (P:=P) l.out (Ej _ _ n s)).1,(A6 l.out (Ej _ _ n s)).2⟩;have A:Hid ((E.setCell _ _).heap[w.heap.size]?=some (.cells #[.iface 4 (.bool s)] 23 (0,0))):=Ai h.out 0 _;go_wp2_with fail
 have B:=Ab A.out 0;exact Ae2 (by simp[results,results214,go_sem,B]) rfl z.out
theorem wZ (n:Nat)(P:Nat->Prop)(w:World)(a:Option Addr)(len cap:Nat)(o:Value)(hl:len<=9223372036854775807) :
  Calls prog 239 #[.slice a len cap,o] w (Bd P w (n+1) (Cu (len:Int):Ag (AV n))):=by
 have b:IntKind.i64.wrap (len:Int)=(len:Int):=by rw[IntKind.wrap_i64];omega
 go_enter func239,ntmps239
 go_wp2_with fail
 exact Ae2 (by simp[results,results239,go_sem]) rfl (Cw (K6 P _ n _))
theorem pC (n:Nat)(P:Nat->Prop)(w:World)(a:Option Addr)(cap:Nat)(o:Value) :
  Calls prog 240 #[.slice a 0 cap,o] w (Bd P w (n+1) (Ar:Ag (AV n))):=by
 go_enter func240,ntmps240
 go_wp2_with fail
 exact Ae2 (by simp[results,results240,go_sem]) rfl (Cw (Gk P _ n))
theorem sY (n:Nat)(P:Nat->Prop)(w:World)(a:Option Addr)(len cap:Nat)(o:Value)(x:AV n)(xs:List (AV n))(h:Bv P w (Aj P w n) a len (x::xs)) :
  Calls prog 240 #[.slice a len cap,o] w (Bd P w n x):=by
 have d:=by have:=h.1;simpa using this
 have l:=h.2.1;obtain⟨b,f,rfl,j,g⟩:=W5 h (by omega);obtain⟨v,c,e⟩:=g 0 x rfl;have k:w.cell? ⟨b,f,none⟩=some v:=c;have q:=Ae (e.rep _ _ _).one;have i:Hid (Bd P w n x _ (w.alloc (.cells #[v] 23))):=Cw (e.keep (Fr.grew ((Ac.refl w).alloc _)));have p:((len:Int)==0)=false:=by simp;omega
 have m:(0:Int)<(len:Int):=by omega
 clear h g e c d;go_enter func240,ntmps240
 go_wp2_with fail
 exact Ae2 (by simp[results,results240,go_sem]) rfl i.out
theorem sZ (n:Nat)(P:Nat->Prop)(w:World)(b d:Nat)(ks us:List (AV n))(h:FnP P w (Aj P w n) (Au n) (wt n) b d ks us)(hA:Asc (Al n) ks)(p off cap:Nat)(x:AV n)(v:Value)(hp:p<w.heap.size)(hc:w.cell? ⟨p,off,none⟩=some v)(hv:Aj P w n x v)(m:Nat)(z:AV m)
  (hin:Ch n ks x=true->∀y u,us[B6 n ks x]?=some y->Aj P w n y u->Aj P w m z u) (hout:Ch n ks x=false->Aj P w m z .nilIface) :
  Calls prog 231 #[.pointer (some ⟨b,0,none⟩),.slice (some ⟨p,off,none⟩) 1 cap] w (Bd P w m z):=by
 obtain⟨_,Q,A,a,j,O,J,S,_⟩:=h;obtain⟨N,X⟩:=Lf J;have D:=Aa J;have st:=Ae (hv.rep _ _ _).one;have M:Hid _:=fun W hW=>Qj n W d ks x v ((Q.set (Aj.rep n)).below hW.below fun y u=>Rep.below hW.below n y u) ((hv.rep _ _ _).grew hW) hA;have mo:=follows;have H:Hid ((w.alloc _).heap[w.heap.size]?=some (.cells #[.nilIface] 23 (0,0))):=Af rfl;have e:Hid (Ac w (w.alloc (.cells #[.nilIface] 23))):=(Ac.refl w).alloc _;have G:Hid (Bv P w _ a j us):=S;clear J Q S hv;go_enter func231,ntmps231
 go_wp2_with fail
 have l:=Ad8 D e.out.below.size;have r:=Ad8 hp e.out.below.size;have U:=cell_grown l ((e.out.below.cell (p:=⟨b,0,none⟩) D).trans N);have V:=cell_grown r ((e.out.below.cell (p:=⟨p,off,none⟩) hp).trans hc);clear N hc;generalize w.alloc _=W0 at H e U V l r |-;go_quiet_grown (first|(go_at_call 277;refine Ae3 (M.out _ (e.out.grown _ _))))
 have c:Hid (Ac w (grow (W0.drewN nq) osq)):=e.out.grown _ _;have s:Hid _:=Ac1 (Ac.below ⟨nq,osq,rfl⟩) H.out;show Exit.then _ _ _ _ (grow (W0.drewN nq) osq);clear U V H e M l r;generalize grow _ osq=W1 at c s |-;clear nq osq;have r0:=Ab s.out 0;have s0:=Ad s.out 0;have zw:=Aa s.out;cases K:Ch n ks x with
 | false =>
  have E:=A6 c.out.below (((hout K).fr (Fr.refl _ w) (fun k hk hp=>(⟨hp,by omega⟩:P k/\k≠w.heap.size)) m z _).keep (Fr.grew c.out));have F:Hid (Bd P w m z _ _):=⟨_,rfl,E.1,E.2⟩;have I:Hid ((W1.setCell _ _).heap[w.heap.size]?=some (.cells #[.nilIface] 23 (0,0))):=Ai s.out 0 _;clear E hin hout;go_wp2_with fail
  have L:=Ab I.out 0;exact Ae2 (by simp[results,results231,go_sem,L]) rfl F.out
 | true =>
  have B:=E6 (x:=x) hA;have f:B6 n ks x<us.length:=by
   rw[<- A];have:=B.yes K;exact(List.getElem?_eq_some_iff.1 this).1
  generalize Y:B6 n ks x=q at f |-;have a0:j=us.length:=G.out.1;obtain⟨g,o,rfl,R,_,t⟩:=G.out.2.2.resolve_left (by omega);obtain⟨u,C,i⟩:=t q us[q] (List.getElem?_eq_getElem f);have su:=Ae (i.rep _ _ _).one;have T:=hin K us[q] u (by rw[Y];exact List.getElem?_eq_getElem f) i;have E:=A6 c.out.below ((T.fr (Fr.refl _ w) (fun k hk hp=>(⟨hp,by omega⟩:P k/\k≠w.heap.size)) m z _).keep (Fr.grew c.out));have F:Hid (Bd P w m z _ _):=⟨_,rfl,E.1,E.2⟩;have I:Hid ((W1.setCell _ u).heap[w.heap.size]?=some (.cells #[u] 23 (0,0))):=Ai s.out 0 _;have d1:=(c.out.below.cell (p:=⟨b,1,none⟩) D).trans X;have d2:=(c.out.below.cell (p:=⟨g,o+q,none⟩) R).trans C;have a1:=Ad8 D c.out.below.size;have a2:=Ad8 R c.out.below.size;have Z:(q:Int)<(j:Int):=by omega
  clear E hin hout t C i T G hA B;go_wp2_with fail
  have L:=Ab I.out 0;exact Ae2 (by simp[results,results231,go_sem,L]) rfl F.out
theorem tA (n:Nat)(P:Nat->Prop)(w:World)(a:Value):Calls prog 82 #[a] w (Bd P w (n+1) (Ar:Ag (AV n))):=by
 go_enter func82,ntmps82
 go_wp2_with fail
 exact Ae2 (by simp[results,results82,go_sem]) rfl (Cw (Gk P _ n))
theorem jR (op:ByteArray)(a:Option Addr)(m cap:Nat)(w:World)(n:Nat)(P:Nat->Prop)(h:jD op.data.toList m):Calls prog 21 #[.string op,.slice a m cap] w (Bd P w (n+1) (Ar:Ag (AV n))):=by
 have r:Hid _:=fun W=>Rd op m W;have q:Hid (jD op.data.toList m):=h;have p:Hid (∀W,Calls _ 82 #[.slice a m cap] W (Bd (fun k=>P k/\k≠w.heap.size) W (n+1) _)):=fun W=>tA n _ W _;clear h;have l:Hid ((w.alloc _).heap[w.heap.size]?=some (.cells #[.nilIface] 23 (0,0))):=Af rfl;have d:Hid (Below _ w (w.alloc (.cells #[.nilIface] 23))):=((Ac.refl w).alloc _).below;go_enter func21,ntmps21
 go_wp2_with fail
 generalize w.alloc _=W0 at l d |-;refine(r.out W0).mono ?_;rintro e A ⟨b,⟨F,J,C,k,D,rfl,g,z,i⟩|⟨rfl,-⟩⟩
 ·obtain⟨x,y⟩:=q.out _ (Ae4 g) rfl;rcases i with h|h
  ·exact absurd h x
  ·exact absurd h y
 ·have j:Hid _:=d.out.trans (b.mono d.out.size);have s:Hid _:=Ac1 b l.out;clear b;go_wp2_with fail
  refine(p.out A).mono ?_;rintro e B ⟨v,rfl,b,f⟩;have I:=Ae (f.rep _ _ _).one;have c:Hid _:=Ac1 b s.out;have E:=A6 (j.out.trans (b.mono j.out.size)) f;have o:Hid (Bd P w (n+1) _ _ _):=⟨v,rfl,E.1,E.2⟩;have t:Hid ((B.setCell _ v).heap[w.heap.size]?=some (.cells #[v] 23 (0,0))):=Ai c.out 0 v;have G:=Ab c.out 0;have H:=Ad c.out 0;have K:=Aa c.out;clear E b f;go_wp2_with fail
  have u:=Ab t.out 0;exact Ae2 (by simp[results,results21,go_sem,u]) rfl o.out
theorem Ug (n m:Nat)(P:Nat->Prop)(w:World)(b d:Nat)(ks us:List (AV n))(h:FnP P w (Aj P w n) (Au n) (wt n) b d ks us)(o:Value)(r:Nat)(k:FuncId)(hr:Box w r 253 (.func (.func k) #[] #[]))(z:AV m)
  (HC:∀(g1 g2:Value)(W:World),Sem.run prog (callFunc k #[g1,g2]) W=.ok (.enter k #[g1,g2]) W)
  (H0:A7 (Au n) ks=false->Aj (fun k=>P k/\k≠w.heap.size) w m z .nilIface)
  (H1:A7 (Au n) ks=true->∀a len cap,Bv P w (Aj P w n) a len us->Gm a len cap->∀W,Ac w W->w.heap.size<W.heap.size->Calls prog k #[.slice a len cap,o] W (Bd (fun k=>P k/\k≠w.heap.size) W m z)) :
  Calls prog 286 #[.pointer (some ⟨b,0,none⟩),o,.pointer (some ⟨r,0,none⟩)] w (Bd P w m z):=by
 obtain⟨_,G,H,a,len,cap,l,c,i⟩:=h;have u:Hid ((w.alloc _).heap[w.heap.size]?=some (.cells #[.nilIface] 23 (0,0))):=Af rfl;have f:Hid (Ac w (w.alloc (.cells #[.nilIface] 23))):=(Ac.refl w).alloc _;obtain⟨-,C,-,v⟩:=Ns l;have I:=Ab hr 0;have x:=Aa l;have y:=Aa hr;have U:=follows;have T:=HC (.slice a len cap) o;cases q:A7 (Au n) ks with
 | false =>
  rw[q] at v;have B:Hid _:=H0 q;have E:=A6 f.out.below (B.out.keep (Fr.grew f.out));have A:(w.alloc (.cells #[.nilIface] 23)).setCell ⟨w.heap.size,0,none⟩ .nilIface=w.alloc (.cells #[.nilIface] 23):=by simp[go_sem]
  rw[A] at E;have t:Hid (Bd P w m z _ _):=⟨_,rfl,E.1,E.2⟩;clear E A B H0 H1 HC G c l hr;go_enter func286,ntmps286
  go_wp2_with fail
  exact Ae2 (by simp[results,results286,go_sem]) rfl t.out
 | true =>
  rw[q] at v;have M:Hid _:=H1 q a len cap c i;clear H0 H1 HC G c l hr;go_enter func286,ntmps286
  go_wp2_with fail
  have D:(w.alloc (.cells #[.nilIface] 23)).cell? _=some (.func _ #[] #[]):=(f.out.below.cell (p:=⟨r,0,none⟩) y).trans I;have F:(w.alloc (.cells #[.nilIface] 23)).cell? _=some (.slice a len cap):=(f.out.below.cell (p:=⟨b,1,none⟩) x).trans C;have J:=Ad8 y f.out.below.size;have K:=Ad8 x f.out.below.size;have L:=Aa u.out;clear I C v;generalize w.alloc _=W0 at u f D F J K L |-;go_region_held3 (fun w'=>w'.cell? ⟨r,0,none⟩=some (.func (.func k) #[] #[])/\w'.cell? ⟨b,1,none⟩=some (.slice a len cap)) (first|(constructor<;>assumption)|(refine⟨Et ?_ (Nat.ne_of_lt y),Et ?_ (Nat.ne_of_lt x)⟩<;>assumption)|go_keep)
   ((refine(M.out _ (f.out.drew) L).mono ?_;rintro e Q ⟨s,rfl,g,hr⟩;have Y:=Ae (hr.rep _ _ _).one;have j:Hid _:=Ac1 g u.out;have E:=A6 ((f.out.drew).below.trans (g.mono (f.out.drew).below.size)) hr;have t:Hid (Bd P w m z _ _):=⟨s,rfl,E.1,E.2⟩;have V:=Ab j.out 0;have X:=Ad j.out 0;have Z:=Aa j.out;have R:=(g.cell (p:=⟨r,0,none⟩) J).trans D;have S:=(g.cell (p:=⟨b,1,none⟩) K).trans F;clear E g hr))
  have N:Hid ((Q.setCell _ s).heap[w.heap.size]?=some (.cells #[s] 23 (0,0))):=Ai j.out 0 s;go_wp2_with fail
  have O:=Ab N.out 0;exact Ae2 (by simp[results,results286,go_sem,O]) rfl t.out
end Go.Proofs.YtdpeliifdlhhkaaGreatDoor.Sx
