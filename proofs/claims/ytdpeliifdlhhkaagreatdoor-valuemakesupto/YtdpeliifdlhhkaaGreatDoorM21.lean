/- Plain: values at other levels. -/
import Derived.Test.YtdpeliifdlhhkaaGreatDoorM10
import Derived.Test.YtdpeliifdlhhkaaGreatDoorM11
import Derived.Test.YtdpeliifdlhhkaaGreatDoorM03
namespace Go.Proofs.YtdpeliifdlhhkaaGreatDoor.Sx
open Go.RowKit Go.Sort Tryz
set_option maxRecDepth 100000
/-- the same node, of parts at another level -/
def Hz {α β:Type}(f:α->β)(a:Ag α):Ag β:=⟨a.kind,a.int,a.text,a.keys.map f,a.vals.map f⟩
def up:(n:Nat)->AV n->AV (n+1)
 | 0,a=>Empty.elim a
 | n+1,a=>(Hz (up n) a:Ag (AV (n+1)))
theorem eH {α β:Type}{c:α->α->Int}{d:β->β->Int}{f:α->β}(h:∀a b,d (f a) (f b)=c a b):∀l m:List α,Ew d (l.map f) (m.map f)=Ew c l m
 | [],[]=>rfl
 | [],_::_=>rfl
 | _::_,[]=>rfl
 | a::l,b::m=>by
  show A4 (d (f a) (f b)) (Ew d (l.map f) (m.map f))=A4 (c a b) (Ew c l m);rw[h,eH h l m]
theorem eI {α β:Type}{c:α->α->Int}{d:β->β->Int}{f:α->β}(h:∀a b,d (f a) (f b)=c a b)(l m:List α):Es d (l.map f) (m.map f)=Es c l m:=by
 unfold Es;rw[eH h,List.length_map,List.length_map]
theorem iT:∀(n:Nat)(a b:AV n),Al (n+1) (up n a) (up n b)=Al n a b
 | 0,a,_=>Empty.elim a
 | n+1,a,b=>by
  show Nm (Al (n+1)) (Hz (up n) a) (Hz (up n) b)=Nm (Al n) a b;unfold Nm Hz;rw[eI (iT n),eI (iT n)]
theorem Iv {α β:Type}{f:α->β}{g:α->Nat}{k:β->Nat}(h:∀a,k (f a)=g a)(l:List α):wtL k (l.map f)=wtL g l:=by
 unfold wtL;rw[List.map_map];congr 1;exact List.map_congr_left (fun a _=>h a)
theorem Px:∀(n:Nat)(a:AV n),wt (n+1) (up n a)=wt n a
 | 0,a=>Empty.elim a
 | n+1,a=>by
  show wtN (wt (n+1)) (Hz (up n) a)=wtN (wt n) a;unfold wtN Hz;rw[Iv (Px n),Iv (Px n)]
theorem sF:∀(n:Nat)(a:AV n),Au (n+1) (up n a)=Au n a
 | 0,a=>Empty.elim a
 | _+1,_=>rfl
theorem Oj {α β:Type}{f:α->β}{g:α->Option Int}{k:β->Option Int}(h:∀a,k (f a)=g a):∀(i:Nat)(l:List α),Cn k i (l.map f)=Cn g i l
 | _,[]=>rfl
 | i,a::l=>by
  show(k (f a)==some (i:Int)&&Cn k (i+1) (l.map f))=(g a==some (i:Int)&&Cn g (i+1) l);rw[h,Oj h]
theorem Wl {α β:Type}{f:α->β}{g:α->Option Int}{k:β->Option Int}(h:∀a,k (f a)=g a)(l:List α):A7 k (l.map f)=A7 g l:=Oj h 1 l
theorem yE:∀(n:Nat)(a:AV n),sh (n+1) (up n a)=sh n a
 | 0,a=>Empty.elim a
 | n+1,a=>by
  show shN (sh (n+1)) (Au (n+1)) (Hz (up n) a)=shN (sh n) (Au n) a;have e:∀l:List (AV n),(l.map (up n)).map (sh (n+1))=l.map (sh n):=fun l=>by
   rw[List.map_map];exact List.map_congr_left (fun a _=>yE n a)
  unfold shN Hz;rw[e,e,Wl (sF n)]
theorem Ux {α β:Type}{c:α->α->Int}{d:β->β->Int}{f:α->β}(h:∀a b,d (f a) (f b)=c a b)(l:List α):Asc d (l.map f)↔Asc c l:=by
 unfold Asc;rw[List.pairwise_map];simp only[h]
theorem wD {α β:Type}{W:α->Prop}{W':β->Prop}{c:α->α->Int}{d:β->β->Int}{g:α->Nat}{k:β->Nat}{f:α->β}(hW:∀a,W' (f a)↔W a)(hc:∀a b,d (f a) (f b)=c a b)(hg:∀a,k (f a)=g a)(a:Ag α):wfN W' d k (Hz f a)↔wfN W c g a:=by
 have e:∀l:List α,(∀x∈l.map f,W' x)↔∀x∈l,W x:=fun l=>by
  constructor
  ·intro h x C;exact(hW x).1 (h _ (List.mem_map_of_mem C))
  ·intro h x C;obtain⟨y,E,rfl⟩:=List.mem_map.1 C;exact(hW y).2 (h y E)
 obtain⟨H,i,t,n,A⟩:=a;unfold wfN;have z:∀l:List α,l.map f=[]↔l=[]:=fun l=>List.map_eq_nil_iff;simp only[Hz,Ar,Bj,Cu,Dm,D9,Bt,Dd,Ag.mk.injEq,z];constructor
 ·rintro(h|⟨b,h⟩|⟨j,h,m,o⟩|⟨l,h,m⟩|⟨l,h,m⟩|⟨D,⟨m,o,r,s,u⟩,v,w,q⟩|⟨F,G,⟨m,o,r,s,u⟩,v,w,q,B,p⟩)
  ·exact .inl h
  ·exact .inr (.inl ⟨b,h⟩)
  ·exact .inr (.inr (.inl ⟨j,h,m,o⟩))
  ·exact .inr (.inr (.inr (.inl ⟨l,h,m⟩)))
  ·exact .inr (.inr (.inr (.inr (.inl ⟨l,h,m⟩))))
  ·subst s;exact .inr (.inr (.inr (.inr (.inr (.inl ⟨n,⟨m,o,r,rfl,u⟩,(e n).1 v,(Ux hc n).1 w,by rw[Iv hg] at q;exact q⟩)))))
  ·subst s;subst u;exact .inr (.inr (.inr (.inr (.inr (.inr ⟨n,A,⟨m,o,r,rfl,rfl⟩,(e n).1 v,(e A).1 w,(Ux hc n).1 q,by simpa using B,by rw[Iv hg,Iv hg] at p;exact p⟩)))))
 ·rintro(h|⟨b,h⟩|⟨j,h,m,o⟩|⟨l,h,m⟩|⟨l,h,m⟩|⟨D,⟨m,o,r,s,u⟩,v,w,q⟩|⟨F,G,⟨m,o,r,s,u⟩,v,w,q,B,p⟩)
  ·exact .inl h
  ·exact .inr (.inl ⟨b,h⟩)
  ·exact .inr (.inr (.inl ⟨j,h,m,o⟩))
  ·exact .inr (.inr (.inr (.inl ⟨l,h,m⟩)))
  ·exact .inr (.inr (.inr (.inr (.inl ⟨l,h,m⟩))))
  ·subst s;exact .inr (.inr (.inr (.inr (.inr (.inl ⟨n.map f,⟨m,o,r,rfl,u⟩,(e n).2 v,(Ux hc n).2 w,by rw[Iv hg];exact q⟩)))))
  ·subst s;subst u;exact .inr (.inr (.inr (.inr (.inr (.inr ⟨n.map f,A.map f,⟨m,o,r,rfl,rfl⟩,(e n).2 v,(e A).2 w,(Ux hc n).2 q,by simpa using B,by rw[Iv hg,Iv hg];exact p⟩)))))
theorem yF:∀(n:Nat)(a:AV n),WF (n+1) (up n a)↔WF n a
 | 0,a=>Empty.elim a
 | n+1,a=>wD (yF n) (iT n) (Px n) a
theorem bI (n:Nat)(a:AV n):Li (n+1) (up n a)↔Li n a:=by
 unfold Li;rw[yF,yE,Px]
theorem Tu {α β:Type}{f:α->β}:∀l:List β,(∀x∈l,∃y,f y=x)->∃m:List α,m.map f=l
 | [],_=>⟨[],rfl⟩
 | x::l,h=>by
  obtain⟨y,hy⟩:=h x (by simp);obtain⟨m,hm⟩:=Tu l (fun z hz=>h z (by simp[hz]));exact⟨y::m,by simp[hy,hm]⟩
theorem oI:∀(n:Nat)(a:AV (n+1)),1<=wt (n+1) a:=by
 intro n a;show 1<=wtN (wt n) a;unfold wtN;split;· omega
 split<;>omega
theorem Uy:∀(n:Nat)(a:AV (n+1)),WF (n+1) a->wt (n+1) a<=n->∃b:AV n,up n b=a
 | 0,a,_,h=>by have:=oI 0 a;omega
 | n+1,a,hw,h=>by
  have key:∀l:List (AV (n+1)),(∀x∈l,WF (n+1) x)->1+wtL (wt (n+1)) l<=n+1->∃m:List (AV n),m.map (up n)=l:=fun l hl hb =>
   Tu l (fun x hx=>Uy n x (hl x hx) (by have:=Uq (wt (n+1)) l x hx;omega))
  have leaf:∀(k:Nat)(i:Int)(t:List UInt8),a=(⟨k,i,t,[],[]⟩:Ag (AV (n+1)))->∃b:AV (n+1),up (n+1) b=a:=fun k i t e=>⟨(⟨k,i,t,[],[]⟩:Ag (AV n)),e.symm⟩;rcases hw with e|⟨b,e⟩|⟨i,e,_⟩|⟨l,e,_⟩|⟨l,e,_⟩|⟨es,e,h1,_⟩|⟨ks,vs,e,h1,h2,_⟩
  ·exact leaf _ _ _ e
  ·exact leaf _ _ _ e
  ·exact leaf _ _ _ e
  ·exact leaf _ _ _ e
  ·exact leaf _ _ _ e
  ·subst e;have hb:1+wtL (wt (n+1)) es<=n+1:=h;obtain⟨m,hm⟩:=key es h1 hb;exact⟨(Bt m:Ag (AV n)),by show Hz (up n) (Bt m)=_;unfold Hz Bt;rw[<- hm];rfl⟩
  ·subst e;have hb:1+wtL (wt (n+1)) ks+wtL (wt (n+1)) vs<=n+1:=h;obtain⟨m,hm⟩:=key ks h1 (by omega);obtain⟨m2,hm2⟩:=key vs h2 (by omega);exact⟨(Dd m m2:Ag (AV n)),by show Hz (up n) (Dd m m2)=_;unfold Hz Dd;rw[<- hm,<- hm2]⟩
section
variable {α β:Type} {P:Nat->Prop} {w:World} {R:α->Value->Prop} {R':β->Value->Prop} {num:α->Option Int} {num':β->Option Int} {g:α->Nat} {g':β->Nat} {f:α->β}
theorem Wm (hR:∀x v,R' (f x) v↔R x v)(a:Option Addr)(len:Nat)(es:List α):Bv P w R' a len (es.map f)↔Bv P w R a len es:=by
 unfold Bv;rw[List.length_map];refine and_congr_right fun _=>and_congr_right fun _=>or_congr_right ?_;refine exists_congr fun b=>exists_congr fun off=>and_congr_right fun _=>and_congr_right fun _=>and_congr_right fun _=>?_;constructor
 ·intro h i x c;obtain⟨v,d,e⟩:=h i (f x) (by rw[List.getElem?_map,c];rfl);exact⟨v,d,(hR x v).1 e⟩
 ·intro h i x c;rw[List.getElem?_map] at c;obtain⟨y,g,rfl⟩:=Option.map_eq_some_iff.1 c;obtain⟨v,d,e⟩:=h i y g;exact⟨v,d,(hR y v).2 e⟩
theorem Wn (hR:∀x v,R' (f x) v↔R x v)(hg:∀a,g' (f a)=g a)(b:Nat)(es:List α):Dy P w R' g' b (es.map f)↔Dy P w R g b es:=by
 unfold Dy;rw[Iv hg];simp only[Wm hR]
theorem lP (hR:∀x v,R' (f x) v↔R x v)(hg:∀a,g' (f a)=g a)(hn:∀a,num' (f a)=num a)(b d:Nat)(ks us:List α):FnP P w R' num' g' b d (ks.map f) (us.map f)↔FnP P w R num g b d ks us:=by
 unfold FnP;rw[Iv hg,Iv hg,Wn hR hg,Wl hn,List.length_map,List.length_map];simp only[Wm hR]
theorem sG (a:Ag α):Hz f a=Ar↔a=Ar:=by
 obtain⟨b,i,t,c,d⟩:=a;simp[Hz,Ar]
theorem oJ (b:Bool)(a:Ag α):Hz f a=Bj b↔a=Bj b:=by
 obtain⟨c,i,t,d,e⟩:=a;simp[Hz,Bj]
theorem sH (b:Int)(a:Ag α):Hz f a=Cu b↔a=Cu b:=by
 obtain⟨c,i,t,d,e⟩:=a;simp[Hz,Cu]
theorem oL (b:List UInt8)(a:Ag α):Hz f a=Dm b↔a=Dm b:=by
 obtain⟨c,i,t,d,e⟩:=a;simp[Hz,Dm]
theorem oM (b:List UInt8)(a:Ag α):Hz f a=D9 b↔a=D9 b:=by
 obtain⟨c,i,t,d,e⟩:=a;simp[Hz,D9]
theorem sI {a:Ag α}{es:List β}(h:Hz f a=Bt es):a=Bt a.keys/\es=a.keys.map f:=by
 obtain⟨b,i,t,c,d⟩:=a;simp only[Hz,Bt,Ag.mk.injEq,List.map_eq_nil_iff] at h;obtain⟨rfl,rfl,rfl,h,rfl⟩:=h;exact⟨rfl,h.symm⟩
theorem wE {a:Ag α}{ks us:List β}(h:Hz f a=Dd ks us):a=Dd a.keys a.vals/\ks=a.keys.map f/\us=a.vals.map f:=by
 obtain⟨e,i,t,c,d⟩:=a;simp only[Hz,Dd,Ag.mk.injEq] at h;obtain⟨rfl,rfl,rfl,h,b⟩:=h;exact⟨rfl,h.symm,b.symm⟩
theorem oN (hR:∀x v,R' (f x) v↔R x v)(hg:∀a,g' (f a)=g a)(hn:∀a,num' (f a)=num a)(a:Ag α)(v:Value):Nw P w R' num' g' (Hz f a) v↔Nw P w R num g a v:=by
 unfold Nw;simp only[sG,oJ,sH,oL,oM];refine or_congr_right (or_congr_right (or_congr_right (or_congr_right (or_congr_right (or_congr ?_ ?_)))))
 ·constructor
  ·rintro⟨i,b,j,c,e⟩;obtain⟨h,rfl⟩:=sI j;exact⟨a.keys,b,h,c,(Wn hR hg b a.keys).1 e⟩
  ·rintro⟨i,b,rfl,c,e⟩;exact⟨i.map f,b,rfl,c,(Wn hR hg b i).2 e⟩
 ·constructor
  ·rintro⟨k,l,b,d,j,c,e⟩;obtain⟨h,rfl,rfl⟩:=wE j;exact⟨a.keys,a.vals,b,d,h,c,(lP hR hg hn b d a.keys a.vals).1 e⟩
  ·rintro⟨k,l,b,d,rfl,c,e⟩;exact⟨k.map f,l.map f,b,d,rfl,c,(lP hR hg hn b d k l).2 e⟩
theorem sJ (hR:∀x v,R' (f x) v↔R x v)(a:Option Addr)(len:Nat)(es:List α):Bm P w R' a len (es.map f)↔Bm P w R a len es:=by
 unfold Bm;rw[List.length_map];refine and_congr_right fun _=>and_congr_right fun _=>or_congr_right ?_;refine exists_congr fun b=>exists_congr fun off=>and_congr_right fun _=>and_congr_right fun _=>and_congr_right fun _=>?_;constructor
 ·intro h i x c;obtain⟨v,d,e⟩:=h i (f x) (by rw[List.getElem?_map,c];rfl);exact⟨v,d,(hR x v).1 e⟩
 ·intro h i x c;rw[List.getElem?_map] at c;obtain⟨y,g,rfl⟩:=Option.map_eq_some_iff.1 c;obtain⟨v,d,e⟩:=h i y g;exact⟨v,d,(hR y v).2 e⟩
theorem sL (hR:∀x v,R' (f x) v↔R x v)(a:Ag α)(v:Value):dJ P w R' (Hz f a) v↔dJ P w R a v:=by
 unfold dJ Hz;simp only[sJ hR]
end
theorem Lj (P:Nat->Prop)(w:World):∀(n:Nat)(a:AV n)(v:Value),Aj P w (n+1) (up n a) v↔Aj P w n a v
 | 0,a,_=>Empty.elim a
 | n+1,a,v=>oN (Lj P w n) (Px n) (sF n) a v
theorem H6 (P:Nat->Prop)(w:World):∀(n:Nat)(a:AV n)(v:Value),Ref P w (n+1) (up n a) v↔Ref P w n a v
 | 0,a,_=>Empty.elim a
 | n+1,a,v=>sL (H6 P w n) a v
structure Hh (P:Nat->Prop)(w:World)(n:Nat)(x:AV n)(v u:Value):Prop where
 rep:Aj P w n x v
 ref:Ref P w n x u
 fine:Li n x
 wt:wt n x<=1024
theorem Hh.fr {P Q:Nat->Prop}{w w':World}{n:Nat}{x:AV n}{v u:Value}(h:Hh P w n x v u)(hf:Fr P w w')(hQ:∀k,k<w.heap.size->P k->Q k):Hh Q w' n x v u :=
 ⟨h.rep.fr hf hQ _ _ _,h.ref.fr hf hQ _ _ _,h.fine,h.wt⟩
theorem Hh.up {P:Nat->Prop}{w:World}{n:Nat}{x:AV n}{v u:Value}(h:Hh P w n x v u):Hh P w (n+1) (up n x) v u :=
 ⟨(Lj P w n x v).2 h.rep,(H6 P w n x u).2 h.ref,(bI n x).2 h.fine,by rw[Px];exact h.wt⟩
theorem Hh.down {P:Nat->Prop}{w:World}{n:Nat}{x:AV (n+1)}{v u:Value}(h:Hh P w (n+1) x v u)(hn:1024<=n):∃y:AV n,Hh P w n y v u:=by
 obtain⟨y,rfl⟩:=Uy n x h.fine.1 (Ae0 h.wt hn);exact⟨y,(Lj P w n y v).1 h.rep,(H6 P w n y u).1 h.ref,(bI n y).1 h.fine,by have:=h.wt;rw[Px] at this;exact this⟩
theorem Ad0 {P:Nat->Prop}{w:World}{v u:Value}(n:Nat):∀(d:Nat),(∃x:AV n,Hh P w n x v u)->∃x:AV (n+d),Hh P w (n+d) x v u
 | 0,h=>h
 | d+1,h=>by
  obtain⟨x,hx⟩:=Ad0 n d h;exact⟨_,hx.up⟩
theorem Ad1 {P:Nat->Prop}{w:World}{v u:Value}(m:Nat)(hm:1024<=m):∀(d:Nat),(∃x:AV (m+d),Hh P w (m+d) x v u)->∃x:AV m,Hh P w m x v u
 | 0,h=>h
 | d+1,h=>by
  obtain⟨x,hx⟩:=h;exact Ad1 m hm d (Hh.down (n:=m+d) hx (by omega))
def eJ (P:Nat->Prop)(w:World)(v u:Value):Prop:=∃(n:Nat)(x:AV n),Hh P w n x v u
theorem eJ.at {P:Nat->Prop}{w:World}{v u:Value}(h:eJ P w v u)(m:Nat)(hm:1024<=m):∃x:AV m,Hh P w m x v u:=by
 obtain⟨n,x,a⟩:=h;rcases Nat.le_total n m with h|h
 ·obtain⟨d,rfl⟩:=Nat.exists_eq_add_of_le h;exact Ad0 n d ⟨x,a⟩
 ·obtain⟨d,rfl⟩:=Nat.exists_eq_add_of_le h;exact Ad1 m hm d ⟨x,a⟩
theorem eJ.fr {P Q:Nat->Prop}{w w':World}{v u:Value}(h:eJ P w v u)(hf:Fr P w w')(hQ:∀k,k<w.heap.size->P k->Q k):eJ Q w' v u:=by
 obtain⟨n,x,a⟩:=h;exact⟨n,x,a.fr hf hQ⟩
/-- fine, and so are its parts -/
def Bn:(n:Nat)->AV n->Prop
 | 0,_=>True
 | n+1,a=>Li (n+1) a/\∀t,t∈Ag.keys a\/t∈Ag.vals a->Bn n t
theorem Ce:∀(n:Nat)(a:AV n),Bn n a->Li n a
 | 0,a,_=>Empty.elim a
 | _+1,_,h=>h.1
theorem Lz {n:Nat}{a:Ag (AV n)}(h:Li (n+1) a)(hk:a.keys=[])(hv:a.vals=[]):Bn (n+1) a:=⟨h,fun t ht=>by rw[hk,hv] at ht;simp at ht⟩
theorem Br (n:Nat):Bn (n+1) (Ar:Ag (AV n)):=Lz (V6 n) rfl rfl
theorem Ih (n:Nat)(b:Bool):Bn (n+1) (Bj b:Ag (AV n)):=Lz (nI n b) rfl rfl
theorem Iw (n:Nat)(i:Int)(h0:-9223372036854775808<=i)(h1:i<=9223372036854775807):Bn (n+1) (Cu i:Ag (AV n)):=Lz (dH n i h0 h1) rfl rfl
theorem oO (n:Nat)(l:List UInt8)(h:∀c∈l,Le c=true)(hl:l.length<=4000):Bn (n+1) (Dm l:Ag (AV n)):=Lz (nJ n l h hl) rfl rfl
theorem oP (n:Nat)(l:List UInt8)(h:gF l):Bn (n+1) (D9 l:Ag (AV n)):=Lz (nK n l h) rfl rfl
theorem Jk (n:Nat)(es:List (AV n))(h:∀x∈es,Bn n x)(ha:Asc (Al n) es):Bn (n+1) (mkS (wt n) es:Ag (AV n)):=by
 refine⟨rI n es (fun x hx=>Ce n x (h x hx)) ha,?_⟩;unfold mkS;split
 ·rintro t (a|a)
  ·exact h t a
  ·simp[Bt] at a
 ·rintro t (a|a)<;>simp[Ar] at a
theorem Rc (n:Nat)(ks us:List (AV n))(hk:∀x∈ks,Bn n x)(hu:∀x∈us,Bn n x)(ha:Asc (Al n) ks)(hl:ks.length=us.length):Bn (n+1) (mkF (wt n) ks us:Ag (AV n)):=by
 refine⟨vQ n ks us (fun x hx=>Ce n x (hk x hx)) (fun x hx=>Ce n x (hu x hx)) ha hl,?_⟩;unfold mkF;split
 ·rintro t (a|a)
  ·exact hk t a
  ·exact hu t a
 ·rintro t (a|a)<;>simp[Ar] at a
theorem Wo {n:Nat}(l:List (AV n×AV n)):∀p∈Dp (Al n) l,p∈l:=by
 rw[K4];intro z a
 induction l with
 | nil=>simp[Ie] at a
 | cons x l ih =>
  rcases Nz x (Ie _ l) z a with q|q
  ·simp[q]
  ·exact List.mem_cons_of_mem _ (ih q)
theorem iU {n:Nat}(l:List (AV n×AV n)):Asc (Al n) ((Dp (Al n) l).map Prod.fst):=by
 rw[K4];have O:Er (fun a b:AV n×AV n=>Al n a.1 b.1):=⟨fun a b=>(ord n).rng _ _,fun a b=>(ord n).anti _ _,fun a b d=>(ord n).trans _ _ _⟩;have c:=O0 O l;unfold Asc;rw[List.pairwise_map];exact c
theorem Wp (n:Nat)(l:List (AV n×AV n))(h:∀p∈l,Bn n p.1/\Bn n p.2):Bn (n+1) (mkP (wt n) (Dp (Al n) l):Ag (AV n)):=by
 unfold mkP;split
 ·refine Rc n _ _ ?_ ?_ (iU l) (by simp)
  ·intro x b;obtain⟨p,a,rfl⟩:=List.mem_map.1 b;exact(h p (Wo l p a)).1
  ·intro x b;obtain⟨p,a,rfl⟩:=List.mem_map.1 b;exact(h p (Wo l p a)).2
 ·exact Br n
theorem Ms (m len:Nat)(h:len<=4294967296):∀x∈Aq m len,Bn (m+1) x:=by
 intro x b;obtain⟨i,a,rfl⟩:=List.mem_map.1 b;have:=List.mem_range.1 a;exact Iw m _ (by omega) (by omega)
theorem Pb:∀(n:Nat)(a:AV n),Bn (n+1) (up n a)↔Bn n a
 | 0,a=>Empty.elim a
 | n+1,a=>by
  show(Li (n+2) (up (n+1) a)/\_)↔(Li (n+1) a/\_);rw[bI];refine and_congr_right fun _=>?_;constructor
  ·intro h t ht;refine(Pb n t).1 (h (up n t) ?_);rcases ht with ht|ht
   ·exact .inl (List.mem_map_of_mem ht)
   ·exact .inr (List.mem_map_of_mem ht)
  ·rintro h t (ht|ht)
   ·obtain⟨s,hs,rfl⟩:=List.mem_map.1 ht;exact(Pb n s).2 (h s (.inl hs))
   ·obtain⟨s,hs,rfl⟩:=List.mem_map.1 ht;exact(Pb n s).2 (h s (.inr hs))
theorem lQ {m:Nat}{T:List UInt8}(hT:T.length<=4000){br:St->Except (Nat×Nat) (AV (m+1)×St)}(H:N5 T (Bn (m+1)) br):N5 T (Bn (m+1)) (Dl T br):=by
 intro s x i b h;have j:=nL T s;unfold Dl at h;split at h
 ·rename_i hc
  obtain⟨f,g⟩:=b.1 hc;split at h
  ·rw[<- Ml h];exact Br m
  ·split at h
   ·rw[<- Ml h];exact Ih m true
   ·split at h
    ·rw[<- Ml h];exact Ih m false
    ·split at h
     ·simp at h
     ·rename_i hr
      split at h
      ·simp at h
      ·rename_i hn
       rw[<- Ml h];exact oP m _ ⟨by omega,f,g,by simpa using hr⟩
 ·split at h
  ·cases a:Lib.parseIntB 64 (Bh T s) with
   | ok v =>
    rw[a] at h;rw[<- Ml h];obtain⟨c,d⟩:=Lib.parseIntB_bounds a;have e:((2 ^ (64-1):Nat):Int)=9223372036854775808:=by decide
    rw[e] at c d;exact Iw m v (by omega) (by omega)
   | _=>rw[a] at h;simp at h
  ·split at h
   ·rename_i hc
    rw[<- Ml h];exact oO m _ (b.2 hc) (by simp;omega)
   ·split at h
    ·exact H s x i b h
    ·simp at h
theorem iV {m:Nat}{T:List UInt8}(hT:T.length<=4000){item:St->Except (Nat×Nat) (AV (m+1)×St)}(H:N5 T (Bn (m+1)) item):N5 T (Bn (m+2)) (Di T item):=by
 intro s x j i h;unfold Di at h;split at h
 ·cases c:Cy T [125] item (Cb T s) with
  | error e=>rw[c] at h;simp at h
  | ok q =>
   obtain⟨l,f⟩:=q;rw[c] at h;rw[<- Ml h];have d:=Zb H _ _ _ (Lr T s) c;refine Jk (m+1) _ (fun y hy=>d y ((J6 (fun a b e=>(Em (m+1) a b).1 e) l y).1 hy)) (Lp (ord (m+1)) (fun a b e=>(Em (m+1) a b).1 e) l)
 ·split at h
  ·cases c:Cy T [62,62] item (Cb T s) with
   | error e=>rw[c] at h;simp at h
   | ok q =>
    obtain⟨l,f⟩:=q;rw[c] at h;rw[<- Ml h];have d:=Zb H _ _ _ (Lr T s) c;have g:=aR c;exact Rc (m+1) _ _ (Ms m _ (by omega)) d (N6 m _) (Dc m _)
  ·split at h
   ·cases c:Cl T [93] (Gg T item) (T.length+1) (Cb T s) with
    | error e=>rw[c] at h;simp at h
    | ok q =>
     obtain⟨l,f⟩:=q;rw[c] at h;rw[<- Ml h];have d:=aO (vP H) _ _ _ _ (Lr T s) c;exact Wp (m+1) l d
   ·simp at h
theorem eK {T:List UInt8}(hT:T.length<=4000):∀d,N5 T (Bn (d+1)) (A8 T d)
 | 0=>by
  refine lQ hT ?_;intro s x s' _ h;simp only at h;split at h<;>simp at h
 | d+1=>lQ hT (iV hT (eK hT d))
theorem iW {T:List UInt8}{x:AV 25}(h:Fq T=.ok x):Bn 25 x:=by
 unfold Fq at h;split at h
 ·simp at h
 ·rename_i hT
  cases a:A8 T 24 (Cb T ⟨0,0,0,false⟩) with
  | error e=>rw[a] at h;simp at h
  | ok q =>
   obtain⟨v,s⟩:=q;rw[a] at h;simp only at h;split at h
   ·simp at h
   ·split at h
    ·simp at h
    ·simp only[Except.ok.injEq] at h;subst h;exact eK (by omega) 24 _ _ _ (Lr T _) a
structure Cr (P:Nat->Prop)(w:World)(n:Nat)(x:AV n)(v u:Value):Prop where
 rep:Aj P w n x v
 ref:Ref P w n x u
 fine:Bn n x
 wt:wt n x<=1024
theorem Cr.fr {P Q:Nat->Prop}{w w':World}{n:Nat}{x:AV n}{v u:Value}(h:Cr P w n x v u)(hf:Fr P w w')(hQ:∀k,k<w.heap.size->P k->Q k):Cr Q w' n x v u :=
 ⟨h.rep.fr hf hQ _ _ _,h.ref.fr hf hQ _ _ _,h.fine,h.wt⟩
theorem Cr.up {P:Nat->Prop}{w:World}{n:Nat}{x:AV n}{v u:Value}(h:Cr P w n x v u):Cr P w (n+1) (up n x) v u :=
 ⟨(Lj P w n x v).2 h.rep,(H6 P w n x u).2 h.ref,(Pb n x).2 h.fine,by rw[Px];exact h.wt⟩
theorem Cr.down {P:Nat->Prop}{w:World}{n:Nat}{x:AV (n+1)}{v u:Value}(h:Cr P w (n+1) x v u)(hn:1024<=n):∃y:AV n,Cr P w n y v u:=by
 obtain⟨y,rfl⟩:=Uy n x (Ce _ _ h.fine).1 (Ae0 h.wt hn);exact⟨y,(Lj P w n y v).1 h.rep,(H6 P w n y u).1 h.ref,(Pb n y).1 h.fine,by have:=h.wt;rw[Px] at this;exact this⟩
theorem Ad2 {P:Nat->Prop}{w:World}{v u:Value}(n:Nat):∀(d:Nat),(∃x:AV n,Cr P w n x v u)->∃x:AV (n+d),Cr P w (n+d) x v u
 | 0,h=>h
 | d+1,h=>by
  obtain⟨x,hx⟩:=Ad2 n d h;exact⟨_,hx.up⟩
theorem Ad3 {P:Nat->Prop}{w:World}{v u:Value}(m:Nat)(hm:1024<=m):∀(d:Nat),(∃x:AV (m+d),Cr P w (m+d) x v u)->∃x:AV m,Cr P w m x v u
 | 0,h=>h
 | d+1,h=>by
  obtain⟨x,hx⟩:=h;exact Ad3 m hm d (Cr.down (n:=m+d) hx (by omega))
def Wq (P:Nat->Prop)(w:World)(v u:Value):Prop:=∃(n:Nat)(x:AV n),Cr P w n x v u
theorem Wq.at {P:Nat->Prop}{w:World}{v u:Value}(h:Wq P w v u)(m:Nat)(hm:1024<=m):∃x:AV m,Cr P w m x v u:=by
 obtain⟨n,x,a⟩:=h;rcases Nat.le_total n m with h|h
 ·obtain⟨d,rfl⟩:=Nat.exists_eq_add_of_le h;exact Ad2 n d ⟨x,a⟩
 ·obtain⟨d,rfl⟩:=Nat.exists_eq_add_of_le h;exact Ad3 m hm d ⟨x,a⟩
theorem Wq.fr {P Q:Nat->Prop}{w w':World}{v u:Value}(h:Wq P w v u)(hf:Fr P w w')(hQ:∀k,k<w.heap.size->P k->Q k):Wq Q w' v u:=by
 obtain⟨n,x,a⟩:=h;exact⟨n,x,a.fr hf hQ⟩
/-- one cell in a block of its own -/
def Box (w:World)(b:Nat)(t:TypeId)(v:Value):Prop:=w.heap[b]?=some (.cells #[v] t (0,0))
theorem Box.below {w w':World}(hb:Below w.heap.size w w'){b:Nat}{t:TypeId}{v:Value}(h:Box w b t v):Box w' b t v:=Ac1 hb h
def Pq (f:FuncId)(_:World)(c:Value):Prop:=c=.func (.func f) #[] #[]
def I0 (v f:Value)(w:World)(c:Value):Prop:=∃p q,c=.func (.func 273) #[] #[.pointer (some ⟨p,0,none⟩),.pointer (some ⟨q,0,none⟩)]/\Box w p 23 v/\Box w q 239 f
def Lk (f:FuncId)(w:World)(c:Value):Prop:=∃r,I0 (.iface 4 (.bool false)) (.func (.func 198) #[] #[.pointer (some ⟨r,0,none⟩)]) w c/\Box w r 237 (.func (.func f) #[] #[])
def Ku (v f:Value)(w:World)(c:Value):Prop:=∃p q,c=.func (.func 276) #[] #[.pointer (some ⟨p,0,none⟩),.pointer (some ⟨q,0,none⟩)]/\Box w p 23 v/\Box w q 245 f
def Mt (f:Value)(w:World)(c:Value):Prop:=∃q,c=.func (.func 280) #[] #[.pointer (some ⟨q,0,none⟩)]/\Box w q 248 f
def L6 (f:Value)(w:World)(c:Value):Prop:=∃q,c=.func (.func 285) #[] #[.pointer (some ⟨q,0,none⟩)]/\Box w q 250 f
def Kv (f:FuncId)(w:World)(c:Value):Prop:=∃r,L6 (.func (.func 286) #[] #[.pointer (some ⟨r,0,none⟩)]) w c/\Box w r 253 (.func (.func f) #[] #[])
theorem I0.below {w w':World}(hb:Below w.heap.size w w'){v f c:Value}(h:I0 v f w c):I0 v f w' c:=by
 obtain⟨p,q,e,a,b⟩:=h;exact⟨p,q,e,a.below hb,b.below hb⟩
theorem Lk.below {w w':World}(hb:Below w.heap.size w w'){f:FuncId}{c:Value}(h:Lk f w c):Lk f w' c:=by
 obtain⟨r,a,b⟩:=h;exact⟨r,a.below hb,b.below hb⟩
theorem Ku.below {w w':World}(hb:Below w.heap.size w w'){v f c:Value}(h:Ku v f w c):Ku v f w' c:=by
 obtain⟨p,q,e,a,b⟩:=h;exact⟨p,q,e,a.below hb,b.below hb⟩
theorem Mt.below {w w':World}(hb:Below w.heap.size w w'){f c:Value}(h:Mt f w c):Mt f w' c:=by
 obtain⟨q,e,a⟩:=h;exact⟨q,e,a.below hb⟩
theorem L6.below {w w':World}(hb:Below w.heap.size w w'){f c:Value}(h:L6 f w c):L6 f w' c:=by
 obtain⟨q,e,a⟩:=h;exact⟨q,e,a.below hb⟩
theorem Kv.below {w w':World}(hb:Below w.heap.size w w'){f:FuncId}{c:Value}(h:Kv f w c):Kv f w' c:=by
 obtain⟨r,a,b⟩:=h;exact⟨r,a.below hb,b.below hb⟩
def E8 (w:World)(C:World->Value->Prop)(e:Ending)(w':World):Prop:=∃c,e=.returned c/\c.oneCell'=true/\C w' c/\Ac w w'
theorem Wr (v:Value)(k:FuncId)(cs:Array Value)(sv:v.oneCell'=true)(w:World):Calls prog 197 #[.agg #[v],.func (.func k) #[] cs] w (E8 w (I0 v (.func (.func k) #[] cs))):=by
 have d:=Ae sv;obtain⟨a,b⟩:∃a,E8 w (I0 v (.func (.func k) #[] cs))=a:=⟨_,rfl⟩;have c:Hid (a (.returned (.func (.func 273) #[] #[.pointer (some ⟨w.heap.size,0,none⟩),.pointer (some ⟨w.heap.size+1,0,none⟩)])) ((w.alloc (.cells #[v] 23)).alloc (.cells #[.func (.func k) #[] cs] 239))):=by
  show a _ _;rw[<- b];exact⟨_,rfl,rfl,⟨_,_,rfl,Ac1 ((Ac.refl _).alloc _).below (Af rfl),Af (by simp)⟩,((Ac.refl w).alloc _).alloc _⟩
 rw[b];clear b sv;go_enter func197,ntmps197
 go_wp2_with fail
 exact c.out
theorem Kn (v:Value)(k:FuncId)(cs:Array Value)(sv:v.oneCell'=true)(w:World):Calls prog 213 #[.agg #[v],.func (.func k) #[] cs] w (E8 w (Ku v (.func (.func k) #[] cs))):=by
 have d:=Ae sv;obtain⟨a,b⟩:∃a,E8 w (Ku v (.func (.func k) #[] cs))=a:=⟨_,rfl⟩;have c:Hid (a (.returned (.func (.func 276) #[] #[.pointer (some ⟨w.heap.size,0,none⟩),.pointer (some ⟨w.heap.size+1,0,none⟩)])) ((w.alloc (.cells #[v] 23)).alloc (.cells #[.func (.func k) #[] cs] 245))):=by
  show a _ _;rw[<- b];exact⟨_,rfl,rfl,⟨_,_,rfl,Ac1 ((Ac.refl _).alloc _).below (Af rfl),Af (by simp)⟩,((Ac.refl w).alloc _).alloc _⟩
 rw[b];clear b sv;go_enter func213,ntmps213
 go_wp2_with fail
 exact c.out
theorem Pc (k:FuncId)(cs:Array Value)(w:World):Calls prog 223 #[.func (.func k) #[] cs] w (E8 w (Mt (.func (.func k) #[] cs))):=by
 obtain⟨a,b⟩:∃a,E8 w (Mt (.func (.func k) #[] cs))=a:=⟨_,rfl⟩;have c:Hid (a (.returned (.func (.func 280) #[] #[.pointer (some ⟨w.heap.size,0,none⟩)])) (w.alloc (.cells #[.func (.func k) #[] cs] 248))):=by
  show a _ _;rw[<- b];exact⟨_,rfl,rfl,⟨_,rfl,Af rfl⟩,(Ac.refl w).alloc _⟩
 rw[b];clear b;go_enter func223,ntmps223
 go_wp2_with fail
 exact c.out
theorem Gr (k:FuncId)(cs:Array Value)(w:World):Calls prog 230 #[.func (.func k) #[] cs] w (E8 w (L6 (.func (.func k) #[] cs))):=by
 obtain⟨a,b⟩:∃a,E8 w (L6 (.func (.func k) #[] cs))=a:=⟨_,rfl⟩;have c:Hid (a (.returned (.func (.func 285) #[] #[.pointer (some ⟨w.heap.size,0,none⟩)])) (w.alloc (.cells #[.func (.func k) #[] cs] 250))):=by
  show a _ _;rw[<- b];exact⟨_,rfl,rfl,⟨_,rfl,Af rfl⟩,(Ac.refl w).alloc _⟩
 rw[b];clear b;go_enter func230,ntmps230
 go_wp2_with fail
 exact c.out
theorem Gs (g:FuncId)(w:World):Calls prog 238 #[.func (.func g) #[] #[]] w (E8 w (Kv g)):=by
 obtain⟨a,f⟩:∃a,E8 w (Kv g)=a:=⟨_,rfl⟩;have i:Hid (∀W:World,Calls _ 230 #[.func (.func 286) #[] #[.pointer (some ⟨w.heap.size,0,none⟩)]] W _):=fun W=>Gr _ _ W;have b:Hid (Box _ w.heap.size 253 (.func (.func g) #[] #[])):=Af rfl;have d:Hid (Ac w (w.alloc (.cells #[.func (.func g) #[] #[]] 253))):=(Ac.refl w).alloc _;rw[f];have j:Hid (E8 w (Kv g)=a):=f;clear f;go_enter func238,ntmps238
 go_wp2_with fail
 generalize w.alloc _=W0 at b d |-;refine(i.out W0).mono ?_;rintro e n ⟨c,rfl,l,k,h⟩;have m:Hid (a (.returned c) n):=by
  show a _ _;rw[<- j.out];exact⟨c,rfl,l,⟨_,k,b.out.below h.below⟩,d.out.trans h⟩
 clear l k h b d i j;go_wp2_with fail
 exact m.out
theorem Mu (g:FuncId)(w:World):Calls prog 196 #[.func (.func g) #[] #[]] w (E8 w (Lk g)):=by
 obtain⟨a,f⟩:∃a,E8 w (Lk g)=a:=⟨_,rfl⟩;have i:Hid (∀W:World,Calls _ 197 #[.agg #[.iface 4 (.bool false)],.func (.func 198) #[] #[.pointer (some ⟨w.heap.size,0,none⟩)]] W _):=fun W=>Wr _ _ _ rfl W;have b:Hid (Box _ w.heap.size 237 (.func (.func g) #[] #[])):=Af rfl;have d:Hid (Ac w (w.alloc (.cells #[.func (.func g) #[] #[]] 237))):=(Ac.refl w).alloc _;rw[f];have j:Hid (E8 w (Lk g)=a):=f;clear f;go_enter func196,ntmps196
 go_wp2_with fail
 generalize w.alloc _=W0 at b d |-;refine(i.out W0).mono ?_;rintro e n ⟨c,rfl,l,k,h⟩;have m:Hid (a (.returned c) n):=by
  show a _ _;rw[<- j.out];exact⟨c,rfl,l,⟨_,k,b.out.below h.below⟩,d.out.trans h⟩
 clear l k h b d i j;go_wp2_with fail
 exact m.out
theorem G8 (k:FuncId)(w:World):Calls prog 203 #[.func (.func k) #[] #[]] w (E8 w (I0 .nilIface (.func (.func k) #[] #[]))):=by
 obtain⟨a,b⟩:∃a,E8 w (I0 .nilIface (.func (.func k) #[] #[]))=a:=⟨_,rfl⟩;have d:Hid (Calls _ 197 #[_,_] w (E8 w (I0 .nilIface (.func (.func k) #[] #[])))):=Wr _ _ _ rfl w;have f:Hid _:=b;rw[b];clear b;go_enter func203,ntmps203
 go_wp2_with fail
 refine d.out.mono ?_;rintro e l ⟨c,rfl,h,g,i⟩;have j:Hid (a (.returned c) l):=by
  show a _ _;rw[<- f.out];exact⟨c,rfl,h,g,i⟩
 clear h g i d f;go_wp2_with fail
 exact j.out
end Go.Proofs.YtdpeliifdlhhkaaGreatDoor.Sx
