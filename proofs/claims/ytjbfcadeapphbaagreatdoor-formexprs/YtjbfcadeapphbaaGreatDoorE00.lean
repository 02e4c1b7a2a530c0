/- Plain: every text is read to its end, or to a fault. -/
import Derived.Lib.Bytealg
import Derived.Lib.Small
import Derived.Lib.ItoaNum
import Derived.Lib.ParseIntB
namespace Go.Proofs.YtjbfcadeapphbaaGreatDoor.Sx
structure Hj (α:Type) where
 kind:Nat
 int:Int
 text:List UInt8
 keys:List α
 vals:List α
def AV:Nat->Type
 | 0=>Empty
 | n+1=>Hj (AV n)
def Q7 {α:Type}:Hj α:=⟨0,0,[],[],[]⟩
def Lk {α:Type}(b:Bool):Hj α:=⟨1,if b then 1 else 0,[],[],[]⟩
def N5 {α:Type}(n:Int):Hj α:=⟨2,n,[],[],[]⟩
def Fl {α:Type}(l:List UInt8):Hj α:=⟨3,0,l,[],[]⟩
def Ll {α:Type}(l:List UInt8):Hj α:=⟨4,0,l,[],[]⟩
def Ib {α:Type}(es:List α):Hj α:=⟨5,0,[],es,[]⟩
def Tg {α:Type}(ks vs:List α):Hj α:=⟨6,0,[],ks,vs⟩
def N6 (x y:Int):Int:=if x=0 then y else x
def eG {α:Type}(c:α->α->Int):List α->List α->Int
 | [],[]=>0
 | [],_::_=>-1
 | _::_,[]=>1
 | a::as,b::bs=>N6 (c a b) (eG c as bs)
def eH {α:Type}(c:α->α->Int)(a b:List α):Int:=N6 (Lib.compareInt a.length b.length) (eG c a b)
def eY {α:Type}(c:α->α->Int)(a b:Hj α):Int :=
 N6 (Lib.compareInt a.kind b.kind) (N6 (Lib.compareInt a.int b.int) (N6 (Lib.compareBytes a.text b.text) (N6 (eH c a.keys b.keys) (eH c a.vals b.vals))))
def dJ:(n:Nat)->AV n->AV n->Int
 | 0,_,_=>0
 | n+1,a,b=>eY (dJ n) a b
structure eI {α:Type}(c:α->α->Int):Prop where
 rng:∀a b,c a b=-1\/c a b=0\/c a b=1
 anti:∀a b,c b a=- c a b
 trans:∀a b d,c a b<=0->c b d<=0->c a d<=0
theorem eI.self {α:Type}{c:α->α->Int}(h:eI c)(a:α):c a a=0:=by
 have:=h.anti a a;omega
end Go.Proofs.YtjbfcadeapphbaaGreatDoor.Sx
namespace Go.Proofs.YtjbfcadeapphbaaGreatDoor.Sx
def A2 (c:UInt8):Bool:=(97<=c&&c<=122)||(65<=c&&c<=90)
def Av (c:UInt8):Bool:=48<=c&&c<=57
def Bf (c:UInt8):Bool:=A2 c||Av c||c==95
def str (s:String):List UInt8:=s.toUTF8.data.toList
def Cg : List (List UInt8) := ["module", "constant", "atoms", "symmetric", "variable", "define", "init", "action", "fair", "weak", "strong", "invariant", "property", "and", "or", "not", "implies", "iff", "in", "union", "inter", "minus", "subset", "powerset", "flatten", "domain", "unchanged", "enabled", "always", "eventually", "until", "leadsto", "choose", "all", "some", "each", "those", "fun", "if", "then", "else", "let", "nil", "true", "false", "size", "len", "head", "tail", "append", "values", "seqs"].map str
def Aq (l:List UInt8):Bool:=Cg.contains l
def Wy:List UInt8:=[110,105,108]
def K1:List UInt8:=[116,114,117,101]
def Ih:List UInt8:=[102,97,108,115,101]
structure Th (l:List UInt8):Prop where
 len:l.length<=16
 head:∃c r,l=c::r/\A2 c=true
 all:∀c∈l,Bf c=true
 free:Aq l=false
def Jk (c:UInt8):Bool:=32<=c&&c<=126&&c != 34&&c != 92
def Q8:(n:Nat)->AV n->Option Int
 | 0,_=>none
 | _+1,a=>if Hj.kind a=2 then some (Hj.int a) else none
def Gf {α:Type}(num:α->Option Int):Nat->List α->Bool
 | _,[]=>true
 | i,a::l=>num a==some (i:Int)&&Gf num (i+1) l
def Dq {α:Type}(num:α->Option Int)(l:List α):Bool:=Gf num 1 l
def wtL {α:Type}(wt:α->Nat)(l:List α):Nat:=(l.map wt).sum
def wtN {α:Type}(wt:α->Nat)(a:Hj α):Nat:=if a.kind=5 then 1+wtL wt a.keys else if a.kind=6 then 1+wtL wt a.keys+wtL wt a.vals else 1
def wt:(n:Nat)->AV n->Nat
 | 0,_=>0
 | n+1,a=>wtN (wt n) a
def jT (cl:List UInt8):List (List UInt8)->List UInt8
 | []=>cl
 | a::l=>44::32::(a++jT cl l)
def jL (cl:List UInt8):List (List UInt8)->List UInt8
 | []=>cl
 | a::l=>a++jT cl l
def jQ:List (List UInt8)->List (List UInt8)->List UInt8
 | k::ks,v::vs=>44::32::(k++58::32::(v++jQ ks vs))
 | _,_=>[93]
def jP:List (List UInt8)->List (List UInt8)->List UInt8
 | k::ks,v::vs=>k++58::32::(v++jQ ks vs)
 | _,_=>[93]
def shN {α:Type}(s:α->List UInt8)(num:α->Option Int)(a:Hj α):List UInt8 :=
 if a.kind=0 then Wy
 else if a.kind=1 then(if a.int=1 then K1 else Ih)
 else if a.kind=2 then Lib.itoa a.int
 else if a.kind=3 then 34::(a.text++[34])
 else if a.kind=4 then a.text
 else if a.kind=5 then 123::jL [125] (a.keys.map s)
 else if Dq num a.keys then 60::60::jL [62,62] (a.vals.map s)
 else 91::jP (a.keys.map s) (a.vals.map s)
def sh:(n:Nat)->AV n->List UInt8
 | 0,_=>[]
 | n+1,a=>shN (sh n) (Q8 n) a
def Asc {α:Type}(c:α->α->Int)(l:List α):Prop:=l.Pairwise fun a b=>c a b<0
def wfN {α:Type}(W:α->Prop)(c:α->α->Int)(wt:α->Nat)(a:Hj α):Prop :=
 a=Q7\/(∃b,a=Lk b)\/(∃n,a=N5 n/\-9223372036854775808<=n/\n<=9223372036854775807) \/
 (∃l,a=Fl l/\∀c∈l,Jk c=true)\/(∃l,a=Ll l/\Th l) \/
 (∃es,a=Ib es/\(∀x∈es,W x)/\Asc c es/\1+wtL wt es<=1024) \/
 (∃ks vs,a=Tg ks vs/\(∀x∈ks,W x)/\(∀x∈vs,W x)/\Asc c ks/\ks.length=vs.length/\1+wtL wt ks+wtL wt vs<=1024)
def WF:(n:Nat)->AV n->Prop
 | 0,_=>True
 | n+1,a=>wfN (WF n) (dJ n) (wt n) a
def isW (c:UInt8):Bool:=Bf c||c==45
def Gw (r:List UInt8):Prop:=∀c l,r=c::l->isW c=false
theorem Dw {c:UInt8}{l:List UInt8}(h:isW c=false):Gw (c::l):=by
 intro d m e;simp only[List.cons.injEq] at e;rw[<- e.1];exact h
theorem Lm:∀(u v r s:List UInt8),(∀c∈u,isW c=true)->(∀c∈v,isW c=true)->Gw r->Gw s->u++r=v++s->u=v/\r=s
 | [],[],r,s,_,_,_,_,e=>⟨rfl,by simpa using e⟩
 | [],d::v,r,s,_,hv,hr,_,e=>by
  have:=hr d (v++s) (by simpa using e);rw[hv d (by simp)] at this;simp at this
 | c::u,[],r,s,hu,_,_,hs,e=>by
  have:=hs c (u++r) (by simpa using e.symm);rw[hu c (by simp)] at this;simp at this
 | c::u,d::v,r,s,hu,hv,hr,hs,e=>by
  simp only[List.cons_append,List.cons.injEq] at e;obtain⟨e1,e2⟩:=e;obtain⟨h1,h2⟩:=Lm u v r s (fun x hx=>hu x (by simp[hx])) (fun x hx=>hv x (by simp[hx])) hr hs e2;exact⟨by rw[e1,h1],h2⟩
theorem Kh {c:UInt8}(h:Av c=true):isW c=true:=by simp[isW,Bf,h]
theorem Q9 {c:UInt8}(h:Bf c=true):isW c=true:=by simp[isW,h]
theorem Ju (k:Nat)(h:k<10):(UInt8.ofNat (48+k)).toNat=48+k:=by
 simp;omega
theorem Fm (n:Nat):∀c∈Lib.decDigits n,Av c=true:=by
 induction n using Nat.strongRecOn with
 | ind n ih =>
  intro c a;rw[Lib.decDigits] at a;split at a
  ·rename_i hn
   simp only[List.mem_singleton] at a;subst a;simp[Av,UInt8.le_iff_toNat_le];omega
  ·simp only[List.mem_append,List.mem_singleton] at a;rcases a with a|a
   ·exact ih (n / 10) (by omega) c a
   ·subst a;simp[Av,UInt8.le_iff_toNat_le];omega
theorem Hw (n:Nat):Lib.decDigits n≠[]:=by
 rw[Lib.decDigits];split<;>simp
theorem Je:∀(n m:Nat),Lib.decDigits n=Lib.decDigits m->n=m:=by
 intro n
 induction n using Nat.strongRecOn with
 | ind n ih =>
  intro m h;rw[Lib.decDigits.eq_def n,Lib.decDigits.eq_def m] at h;split at h<;>split at h
  ·rename_i h1 h2
   simp only[List.cons.injEq,and_true] at h;have:=congrArg UInt8.toNat h;rw[Ju n h1,Ju m h2] at this;omega
  ·have:=congrArg List.length h;simp at this;exact absurd this (Hw _)
  ·have:=congrArg List.length h;simp at this;exact absurd this (Hw _)
  ·obtain⟨d,c⟩:=List.append_inj' h (by simp);have a:=ih (n / 10) (by omega) (m / 10) d;simp only[List.cons.injEq,and_true] at c;have b:=congrArg UInt8.toNat c;rw[Ju _ (by omega),Ju _ (by omega)] at b;omega
theorem dK (n:Int):∀c∈Lib.itoa n,isW c=true:=by
 intro c a;unfold Lib.itoa at a;split at a
 ·rcases List.mem_cons.1 a with a|a
  ·subst a;decide
  ·exact Kh (Fm _ c a)
 ·exact Kh (Fm _ c a)
theorem Ln (c:UInt8)(h:Av c=true):c≠45/\A2 c=false:=by
 simp[Av,UInt8.le_iff_toNat_le] at h;refine⟨fun e=>by subst e;simp at h,?_⟩;simp[A2,UInt8.le_iff_toNat_le];omega
theorem Gg (n:Nat):∃c r,Lib.decDigits n=c::r/\Av c=true:=by
 cases h:Lib.decDigits n with
 | nil=>exact absurd h (Hw n)
 | cons c r=>exact⟨c,r,rfl,Fm n c (by simp[h])⟩
theorem Zo (n m:Int)(h:Lib.itoa n=Lib.itoa m):n=m:=by
 unfold Lib.itoa at h;obtain⟨c,r,e,f⟩:=Gg n.toNat;obtain⟨b,g,d,a⟩:=Gg m.toNat;split at h<;>split at h
 ·simp only[List.cons.injEq,true_and] at h;have:=Je _ _ h;omega
 ·rw[d] at h;simp only[List.cons.injEq] at h;exact absurd h.1.symm (Ln b a).1
 ·rw[e] at h;simp only[List.cons.injEq] at h;exact absurd h.1 (Ln c f).1
 ·have:=Je _ _ h;omega
theorem Ki (n:Int):∃c r,Lib.itoa n=c::r/\A2 c=false/\(Av c=true\/c=45):=by
 unfold Lib.itoa;obtain⟨c,r,e,a⟩:=Gg n.toNat;split
 ·exact⟨45,_,rfl,by decide,.inr rfl⟩
 ·exact⟨c,r,e,(Ln c a).2,.inl a⟩
theorem Wc:Aq Wy=true:=by decide +kernel
theorem Zp:Aq K1=true:=by decide +kernel
theorem Wz:Aq Ih=true:=by decide +kernel
section
variable {α:Type} (s:α->List UInt8) (num:α->Option Int)
theorem Zq:shN s num Q7=Wy:=rfl
theorem O9 (b:Bool):shN s num (Lk b)=if b then K1 else Ih:=by cases b<;>rfl
theorem Zr (n:Int):shN s num (N5 n)=Lib.itoa n:=rfl
theorem bU (l:List UInt8):shN s num (Fl l)=34::(l++[34]):=rfl
theorem Wd (l:List UInt8):shN s num (Ll l)=l:=rfl
theorem Zs (es:List α):shN s num (Ib es)=123::jL [125] (es.map s):=rfl
theorem Ti (ks vs:List α)(h:Dq num ks=true):shN s num (Tg ks vs)=60::60::jL [62,62] (vs.map s):=by
 show(if Dq num ks=true then _ else _)=_;rw[if_pos h];rfl
theorem Zt (ks vs:List α)(h:¬Dq num ks=true):shN s num (Tg ks vs)=91::jP (ks.map s) (vs.map s):=by
 show(if Dq num ks=true then _ else _)=_;rw[if_neg h];rfl
def kd (a:Hj α):Nat :=
 if a.kind=3 then 1 else if a.kind=5 then 2 else if a.kind=6 then(if Dq num a.keys then 3 else 4) else 0
theorem Hx (ks vs:List α)(h:Dq num ks=true):kd num (Tg ks vs)=3:=by
 show(if Dq num ks=true then 3 else 4)=3;rw[if_pos h]
theorem Jv (ks vs:List α)(h:¬Dq num ks=true):kd num (Tg ks vs)=4:=by
 show(if Dq num ks=true then 3 else 4)=4;rw[if_neg h]
def first (k:Nat)(c:UInt8):Bool :=
 if k=0 then isW c else if k=1 then c==34 else if k=2 then c==123 else if k=3 then c==60 else if k=4 then c==91 else false
variable (W:α->Prop) (c:α->α->Int) (wta:α->Nat)
theorem Lo {a:Hj α}(hw:wfN W c wta a)(hk:kd num a=0):∀c∈shN s num a,isW c=true:=by
 rcases hw with rfl|⟨b,rfl⟩|⟨n,rfl,_⟩|⟨l,rfl,_⟩|⟨l,rfl,h⟩|⟨f,rfl,_⟩|⟨d,e,rfl,_⟩
 ·rw[Zq];decide
 ·rw[O9];cases b<;>decide
 ·rw[Zr];exact dK n
 ·exact absurd hk (by simp[kd,Fl])
 ·rw[Wd];exact fun c hc=>Q9 (h.all c hc)
 ·exact absurd hk (by simp[kd,Ib])
 ·by_cases q:Dq num d=true
  ·rw[Hx num d e q] at hk;simp at hk
  ·rw[Jv num d e q] at hk;simp at hk
theorem Zu {a b:Hj α}(ha:wfN W c wta a)(hb:wfN W c wta b)(ka:kd num a=0)(kb:kd num b=0)(h:shN s num a=shN s num b):a=b:=by
 have z:∀{l:List UInt8} {n:Int},Th l->l=Lib.itoa n->False:=by
  intro l n g e;obtain⟨c,r,D,x⟩:=g.head;obtain⟨C,H,p,d,_⟩:=Ki n;rw[D,p] at e;simp only[List.cons.injEq] at e;rw[e.1,d] at x;simp at x
 have k:∀{l:List UInt8} {n:Int},A2 (l.headD 0)=true->l=Lib.itoa n->False:=by
  intro l n g e;obtain⟨C,H,p,d,_⟩:=Ki n;rw[e,p] at g;simp[d] at g
 have m:∀{l r:List UInt8},Th l->Aq r=true->l=r->False:=by
  intro l r g y e;rw[<- e,g.free] at y;simp at y
 have A:∀f i,kd num (Tg f i)=0->False:=by
  intro f i j;by_cases q:Dq num f=true
  ·rw[Hx num f i q] at j;simp at j
  ·rw[Jv num f i q] at j;simp at j
 have B:A2 (Wy.headD 0)=true:=by decide
 have o:∀b:Bool,A2 ((if b then K1 else Ih).headD 0)=true/\Aq (if b then K1 else Ih)=true:=by
  intro b;cases b
  ·exact⟨by decide,Wz⟩
  ·exact⟨by decide,Zp⟩
 rcases ha with rfl|⟨v,rfl⟩|⟨I,rfl,_⟩|⟨F,rfl,_⟩|⟨F,rfl,t⟩|⟨E,rfl,_⟩|⟨f,i,rfl,_⟩
 all_goals first|(exact absurd ka (A _ _))|(exfalso;simp[kd,Fl,Ib] at ka;done)|skip
 all_goals rcases hb with rfl|⟨w,rfl⟩|⟨J,rfl,_⟩|⟨G,rfl,_⟩|⟨G,rfl,u⟩|⟨E,rfl,_⟩|⟨f,i,rfl,_⟩
 all_goals first|(exact absurd kb (A _ _))|(exfalso;simp[kd,Fl,Ib] at kb;done)|skip
 all_goals simp only[Zq,O9,Zr,Wd] at h
 all_goals first
  | rfl
  | (cases w<;>simp[Wy,K1,Ih] at h;done)
  | (cases v<;>simp[Wy,K1,Ih] at h;done)
  | (cases v<;>cases w<;>first | rfl | (simp[K1,Ih] at h;done))
  | (exact absurd h (fun e=>k (o _).1 e))
  | (exact absurd h.symm (fun e=>k (o _).1 e))
  | (exact absurd h (fun e=>k B e))
  | (exact absurd h.symm (fun e=>k B e))
  | (exact absurd h.symm (fun e=>m u Wc e))
  | (exact absurd h (fun e=>m t Wc e))
  | (exact absurd h.symm (fun e=>m u (o _).2 e))
  | (exact absurd h (fun e=>m t (o _).2 e))
  | (exact absurd h (fun e=>z t e))
  | (exact absurd h.symm (fun e=>z u e))
  | (rw[Zo _ _ h])
  | (rw[h])
theorem Pb {a:Hj α}(hw:wfN W c wta a):∃d r,shN s num a=d::r/\first (kd num a) d=true:=by
 rcases hw with rfl|⟨b,rfl⟩|⟨n,rfl,_⟩|⟨l,rfl,_⟩|⟨l,rfl,h⟩|⟨i,rfl,_⟩|⟨f,g,rfl,_⟩
 ·exact⟨110,_,rfl,(by decide:isW 110=true)⟩
 ·rw[O9];cases b
  ·exact⟨102,_,rfl,(by decide:isW 102=true)⟩
  ·exact⟨116,_,rfl,(by decide:isW 116=true)⟩
 ·obtain⟨d,r,e,_,h⟩:=Ki n;refine⟨d,r,e,?_⟩;rcases h with h|h
  ·exact Kh h
  ·subst h;exact(by decide:isW 45=true)
 ·exact⟨34,l++[34],rfl,rfl⟩
 ·obtain⟨d,r,e,j⟩:=h.head;exact⟨d,r,e,Q9 (h.all d (by simp[e]))⟩
 ·exact⟨123,_,Zs s num i,rfl⟩
 ·by_cases q:Dq num f=true
  ·exact⟨60,_,Ti s num f g q,by rw[Hx num f g q];rfl⟩
  ·exact⟨91,_,Zt s num f g q,by rw[Jv num f g q];rfl⟩
theorem Xa {j k:Nat}{c:UInt8}(h:first j c=true)(h':first k c=true):j=k:=by
 have a:isW c=true->c≠34/\c≠123/\c≠60/\c≠91:=by
  intro f;refine⟨?_,?_,?_,?_⟩<;>(intro e;subst e;exact absurd f (by decide))
 have d:∀i,first i c=true->i=0/\isW c=true\/i=1/\c=34\/i=2/\c=123\/i=3/\c=60\/i=4/\c=91:=by
  intro i b;unfold first at b
  repeat' split at b
  all_goals first|(simp at b;done)|simp_all
 rcases d j h with⟨rfl,x⟩|⟨rfl,x⟩|⟨rfl,x⟩|⟨rfl,x⟩|⟨rfl,x⟩ <;>
 rcases d k h' with⟨rfl,y⟩|⟨rfl,y⟩|⟨rfl,y⟩|⟨rfl,y⟩|⟨rfl,y⟩ <;>
 first|rfl|(exact absurd y (a x).1)|(exact absurd y (a x).2.1)|(exact absurd y (a x).2.2.1)|(exact absurd y (a x).2.2.2)|(exact absurd x (a y).1)|(exact absurd x (a y).2.1)|(exact absurd x (a y).2.2.1)|(exact absurd x (a y).2.2.2)|(rw[x] at y;simp at y)
theorem dL {a b:Hj α}(ha:wfN W c wta a)(hb:wfN W c wta b){r t:List UInt8}(h:shN s num a++r=shN s num b++t):kd num a=kd num b:=by
 obtain⟨x,u,e,d⟩:=Pb s num W c wta ha;obtain⟨y,v,f,g⟩:=Pb s num W c wta hb;rw[e,f] at h;simp only[List.cons_append,List.cons.injEq] at h;rw[h.1] at d;exact Xa d g
theorem Jw:∀(u v r s:List UInt8),(∀c∈u,Jk c=true)->(∀c∈v,Jk c=true)->u++34::r=v++34::s->u=v/\r=s
 | [],[],r,s,_,_,e=>⟨rfl,by simpa using e⟩
 | [],d::v,r,s,_,hv,e=>by
  simp only[List.nil_append,List.cons_append,List.cons.injEq] at e;have:=hv d (by simp);rw[<- e.1] at this;exact absurd this (by decide)
 | c::u,[],r,s,hu,_,e=>by
  simp only[List.nil_append,List.cons_append,List.cons.injEq] at e;have:=hu c (by simp);rw[e.1] at this;exact absurd this (by decide)
 | c::u,d::v,r,s,hu,hv,e=>by
  simp only[List.cons_append,List.cons.injEq] at e;obtain⟨h1,h2⟩:=Jw u v r s (fun x hx=>hu x (by simp[hx])) (fun x hx=>hv x (by simp[hx])) e.2;exact⟨by rw[e.1,h1],h2⟩
structure Tj (s:α->List UInt8)(W:α->Prop):Prop where
 can:∀a b r t,W a->W b->Gw r->Gw t->s a++r=s b++t->a=b/\r=t
 head:∀a,W a->∃d r k,s a=d::r/\first k d=true
theorem Wf {s:α->List UInt8}{W:α->Prop}(H:Tj s W){a:α}(ha:W a){c:UInt8}{r t:List UInt8}(hc:∀k,first k c=false):s a++r≠c::t:=by
 obtain⟨d,u,k,e,b⟩:=H.head a ha;rw[e];intro h;simp only[List.cons_append,List.cons.injEq] at h;rw[h.1,hc] at b;simp at b
structure Clo (cl:List UInt8):Prop where
 ex:∃c r,cl=c::r/\(∀k,first k c=false)/\c≠44
theorem Clo.delim {cl:List UInt8}(h:Clo cl)(r:List UInt8):Gw (cl++r):=by
 obtain⟨c,u,rfl,a,_⟩:=h.ex;exact Dw (a 0)
theorem N7 {c:UInt8}(h:isW c=false/\c≠34/\c≠123/\c≠60/\c≠91)(k:Nat):first k c=false:=by
 unfold first;repeat' split
 all_goals simp[h]
theorem Xb:Clo [125]:=⟨125,[],rfl,N7 (by decide),by decide⟩
theorem Xc:Clo [62,62]:=⟨62,[62],rfl,N7 (by decide),by decide⟩
theorem Jx {cl:List UInt8}(h:Clo cl)(l:List (List UInt8))(r:List UInt8):Gw (jT cl l++r):=by
 cases l with
 | nil=>exact h.delim r
 | cons a l=>exact Dw (by decide)
theorem Zv {s:α->List UInt8}{W:α->Prop}(H:Tj s W){cl:List UInt8}(hcl:Clo cl):∀(l m:List α)(r t:List UInt8),(∀x∈l,W x)->(∀x∈m,W x)->Gw r->Gw t->jT cl (l.map s)++r=jT cl (m.map s)++t->l=m/\r=t
 | [],[],r,s,_,_,_,_,e=>⟨rfl,by simpa [jT] using e⟩
 | [],b::m,r,s,_,_,_,_,e=>by
  obtain⟨c,u,rfl,_,h2⟩:=hcl.ex;simp only[List.map,jT,List.cons_append,List.cons.injEq] at e;exact absurd e.1 h2
 | a::l,[],r,s,_,_,_,_,e=>by
  obtain⟨c,u,rfl,_,h2⟩:=hcl.ex;simp only[List.map,jT,List.cons_append,List.cons.injEq] at e;exact absurd e.1.symm h2
 | a::l,b::m,r,t,hl,hm,hr,hs,e=>by
  simp only[List.map,jT,List.cons_append,List.cons.injEq,true_and,List.append_assoc] at e;obtain⟨h1,h2⟩:=H.can a b _ _ (hl a (by simp)) (hm b (by simp)) (Jx hcl _ r) (Jx hcl _ t) e;obtain⟨h3,h4⟩:=Zv H hcl l m r t (fun x hx=>hl x (by simp[hx])) (fun x hx=>hm x (by simp[hx])) hr hs h2;exact⟨by rw[h1,h3],h4⟩
theorem Zw {s:α->List UInt8}{W:α->Prop}(H:Tj s W){cl:List UInt8}(hcl:Clo cl)(l m:List α)(r t:List UInt8)(hl:∀x∈l,W x)(hm:∀x∈m,W x)(hr:Gw r)(hs:Gw t)(e:jL cl (l.map s)++r=jL cl (m.map s)++t):l=m/\r=t:=by
 obtain⟨c,u,f,d,_⟩:=hcl.ex;cases l with
 | nil =>
  cases m with
  | nil=>exact⟨rfl,by simpa [jL] using e⟩
  | cons b m =>
   simp only[List.map,jL,f,List.cons_append,List.append_assoc] at e;exact absurd e.symm (Wf H (hm b (by simp)) d)
 | cons a l =>
  cases m with
  | nil =>
   simp only[List.map,jL,f,List.cons_append,List.append_assoc] at e;exact absurd e (Wf H (hl a (by simp)) d)
  | cons b m =>
   simp only[List.map,jL,List.append_assoc] at e;obtain⟨d,g⟩:=H.can a b _ _ (hl a (by simp)) (hm b (by simp)) (Jx hcl _ r) (Jx hcl _ t) e;obtain⟨h,i⟩:=Zv H hcl l m r t (fun x hx=>hl x (by simp[hx])) (fun x hx=>hm x (by simp[hx])) hr hs g;exact⟨by rw[d,h],i⟩
theorem dM (v:List (List UInt8)):jQ [] v=[93]:=by cases v<;>rfl
theorem bV (k:List (List UInt8)):jQ k []=[93]:=by cases k<;>rfl
theorem Jy (k v:List (List UInt8))(r:List UInt8):Gw (jQ k v++r):=by
 cases k with
 | nil=>rw[dM];exact Dw (by decide)
 | cons a k =>
  cases v with
  | nil=>rw[bV];exact Dw (by decide)
  | cons b v=>exact Dw (by decide)
theorem Zx {s:α->List UInt8}{W:α->Prop}(H:Tj s W):∀(k v k' v':List α)(r t:List UInt8),(∀x∈k,W x)->(∀x∈v,W x)->(∀x∈k',W x)->(∀x∈v',W x)->k.length=v.length->k'.length=v'.length->Gw r->Gw t ->
  jQ (k.map s) (v.map s)++r=jQ (k'.map s) (v'.map s)++t->k=k'/\v=v'/\r=t
 | [],v,k',v',r,s,_,_,_,_,hl,hl',_,_,e=>by
  have hv:v=[]:=List.length_eq_zero_iff.1 (by simpa using hl.symm);subst hv;cases k' with
  | nil =>
   have hv':v'=[]:=List.length_eq_zero_iff.1 (by simpa using hl'.symm);subst hv';exact⟨rfl,rfl,by simpa [jQ] using e⟩
  | cons a k' =>
   cases v' with
   | nil=>simp at hl'
   | cons b v'=>simp[jQ] at e
 | a::k,[],k',v',r,s,_,_,_,_,hl,_,_,_,e=>by simp at hl
 | a::k,b::v,[],v',r,s,_,_,_,_,_,hl',_,_,e=>by simp[jQ] at e
 | a::k,b::v,c::k',[],r,s,_,_,_,_,_,hl',_,_,e=>by simp at hl'
 | a::k,b::v,c::k',d::v',r,t,hk,hv,wk,wv,hl,hl',hr,hs,e=>by
  simp only[List.map,jQ,List.cons_append,List.cons.injEq,true_and,List.append_assoc] at e;obtain⟨h1,h2⟩:=H.can a c _ _ (hk a (by simp)) (wk c (by simp)) (Dw (by decide)) (Dw (by decide)) e;simp only[List.cons.injEq,true_and] at h2;obtain⟨h3,h4⟩:=H.can b d _ _ (hv b (by simp)) (wv d (by simp)) (Jy _ _ r) (Jy _ _ t) h2;obtain⟨h5,h6,h7⟩:=Zx H k v k' v' r t (fun x hx=>hk x (by simp[hx])) (fun x hx=>hv x (by simp[hx])) (fun x hx=>wk x (by simp[hx])) (fun x hx=>wv x (by simp[hx])) (by simpa using hl) (by simpa using hl') hr hs h4;exact⟨by rw[h1,h5],by rw[h3,h6],h7⟩
theorem N8 {num:α->Option Int}{W:α->Prop}(hn:∀a b n,W a->W b->num a=some n->num b=some n->a=b):∀(i:Nat)(k l:List α),(∀x∈k,W x)->(∀x∈l,W x)->Gf num i k=true->Gf num i l=true->k.length=l.length->k=l
 | _,[],[],_,_,_,_,_=>rfl
 | _,[],_::_,_,_,_,_,h=>by simp at h
 | _,_::_,[],_,_,_,_,h=>by simp at h
 | i,a::k,b::l,wk,wl,ha,hb,h=>by
  simp only[Gf,Bool.and_eq_true,beq_iff_eq] at ha hb;rw[hn a b i (wk a (by simp)) (wl b (by simp)) ha.1 hb.1,N8 hn (i+1) k l (fun x hx=>wk x (by simp[hx])) (fun x hx=>wl x (by simp[hx])) ha.2 hb.2 (by simpa using h)]
theorem Xd {s:α->List UInt8}{num:α->Option Int}{W:α->Prop}(H:Tj s W)(hn:∀a b n,W a->W b->num a=some n->num b=some n->a=b)(c:α->α->Int)(wta:α->Nat):Tj (shN s num) (wfN W c wta):=by
 constructor
 ·intro a b r t w y z A e;have j:=dL s num W c wta w y e;by_cases I:kd num a=0
  ·have l:kd num b=0:=by omega
   obtain⟨g,i⟩:=Lm _ _ r t (Lo s num W c wta w I) (Lo s num W c wta y l) z A e;exact⟨Zu s num W c wta w y I l g,i⟩
  ·have l:¬kd num b=0:=by omega
   have O:∀x:Hj α,x.kind≠3->x.kind≠5->x.kind≠6->kd num x=0:=by
    intro x C D E;simp[kd,C,D,E]
   rcases w with rfl|⟨U,rfl⟩|⟨X,rfl,_⟩|⟨M,rfl,F⟩|⟨M,rfl,_⟩|⟨P,rfl,T,_⟩|⟨ks,vs,rfl,K,L,_,m,_⟩
   all_goals first|(exfalso;refine I (O _ ?_ ?_ ?_)<;>(simp[Q7,Lk,N5,Ll];done))|skip
   all_goals rcases y with rfl|⟨V,rfl⟩|⟨Y,rfl,_⟩|⟨N,rfl,G⟩|⟨N,rfl,_⟩|⟨B,rfl,J,_⟩|⟨ks',vs',rfl,p,u,_,f,_⟩
   all_goals first|(exfalso;refine l (O _ ?_ ?_ ?_)<;>(simp[Q7,Lk,N5,Ll];done))|skip
   ·simp only[bU,List.cons_append,List.cons.injEq,true_and,List.append_assoc,List.nil_append] at e;obtain⟨g,i⟩:=Jw M N r t F G e;exact⟨by rw[g],i⟩
   ·exact absurd j (by simp[kd,Fl,Ib])
   ·exact absurd j (by
     by_cases q:Dq num ks'=true
     ·rw[Hx num ks' vs' q];simp[kd,Fl]
     ·rw[Jv num ks' vs' q];simp[kd,Fl])
   ·exact absurd j (by simp[kd,Fl,Ib])
   ·simp only[Zs,List.cons_append,List.cons.injEq,true_and] at e;obtain⟨g,i⟩:=Zw H Xb P B r t T J z A e;exact⟨by rw[g],i⟩
   ·exact absurd j (by
     by_cases q:Dq num ks'=true
     ·rw[Hx num ks' vs' q];simp[kd,Ib]
     ·rw[Jv num ks' vs' q];simp[kd,Ib])
   ·exact absurd j (by
     by_cases q:Dq num ks=true
     ·rw[Hx num ks vs q];simp[kd,Fl]
     ·rw[Jv num ks vs q];simp[kd,Fl])
   ·exact absurd j (by
     by_cases q:Dq num ks=true
     ·rw[Hx num ks vs q];simp[kd,Ib]
     ·rw[Jv num ks vs q];simp[kd,Ib])
   ·by_cases q:Dq num ks=true
    ·by_cases o:Dq num ks'=true
     ·simp only[Ti _ _ _ _ q,Ti _ _ _ _ o,List.cons_append,List.cons.injEq,true_and] at e;obtain⟨g,i⟩:=Zw H Xc vs vs' r t L u z A e;have S:ks.length=ks'.length:=by rw[m,f,g]
      rw[N8 hn 1 ks ks' K p q o S,g];exact⟨rfl,i⟩
     ·rw[Hx num ks vs q,Jv num ks' vs' o] at j;simp at j
    ·by_cases o:Dq num ks'=true
     ·rw[Jv num ks vs q,Hx num ks' vs' o] at j;simp at j
     ·simp only[Zt _ _ _ _ q,Zt _ _ _ _ o,List.cons_append,List.cons.injEq,true_and] at e;cases ks with
      | nil=>exact absurd rfl q
      | cons k ks =>
       cases ks' with
       | nil=>exact absurd rfl o
       | cons k' ks' =>
        cases vs with
        | nil=>simp at m
        | cons v vs =>
         cases vs' with
         | nil=>simp at f
         | cons v' vs' =>
          simp only[List.map,jP,List.append_assoc,List.cons_append] at e;obtain⟨g,i⟩:=H.can k k' _ _ (K k (by simp)) (p k' (by simp)) (Dw (by decide)) (Dw (by decide)) e;simp only[List.cons.injEq,true_and] at i;obtain⟨C,Q⟩:=H.can v v' _ _ (L v (by simp)) (u v' (by simp)) (Jy _ _ r) (Jy _ _ t) i;obtain⟨D,E,R⟩:=Zx H ks vs ks' vs' r t (fun x hx=>K x (by simp[hx])) (fun x hx=>L x (by simp[hx])) (fun x hx=>p x (by simp[hx])) (fun x hx=>u x (by simp[hx])) (by simpa using m) (by simpa using f) z A Q;exact⟨by rw[g,C,D,E],R⟩
 ·intro a w;obtain⟨d,r,e,h⟩:=Pb s num W c wta w;exact⟨d,r,_,e,h⟩
end
theorem bW:∀(n:Nat)(a b:AV n)(i:Int),WF n a->WF n b->Q8 n a=some i->Q8 n b=some i->a=b
 | 0,a,_,_,_,_,_,_=>Empty.elim a
 | n+1,a,b,i,ha,hb,ea,eb=>by
  have one:∀x:AV (n+1),WF (n+1) x->Q8 (n+1) x=some i->x=(N5 i:Hj (AV n)):=by
   intro x d c;simp only[Q8] at c;split at c
   ·rename_i hk
    rcases d with rfl|⟨b,rfl⟩|⟨m,rfl,_⟩|⟨l,rfl,_⟩|⟨l,rfl,_⟩|⟨e,rfl,_⟩|⟨f,g,rfl,_⟩
    ·exact absurd hk (by simp[Q7])
    ·exact absurd hk (by simp[Lk])
    ·simp only[N5,Option.some.injEq] at c;rw[c]
    ·exact absurd hk (by simp[Fl])
    ·exact absurd hk (by simp[Ll])
    ·exact absurd hk (by simp[Ib])
    ·exact absurd hk (by simp[Tg])
   ·simp at c
  rw[one a ha ea,one b hb eb]
theorem Pc:∀n,Tj (sh n) (WF n)
 | 0=>⟨fun a=>Empty.elim a,fun a=>Empty.elim a⟩
 | n+1=>Xd (Pc n) (bW n) (dJ n) (wt n)
end Go.Proofs.YtjbfcadeapphbaaGreatDoor.Sx
namespace Go.Proofs.YtjbfcadeapphbaaGreatDoor.Sx
structure Tk where
 cl:Nat
 tx:List UInt8
 at':Nat
structure PX where
 rk:Nat
 tx:List UInt8
 key:Option (List UInt8)
def wIf:List UInt8:=[105,102]
def Hk:List UInt8:=[108,101,116]
def Jb:List UInt8:=[45]
def Ch:List UInt8:=[101,110,97,98,108,101,100]
def Bo:List UInt8:=[117,110,99,104,97,110,103,101,100]
def Dj:List (List UInt8):=[[105,102],[108,101,116],[97,108,108],[115,111,109,101],[99,104,111,111,115,101],[102,117,110]]
def Dd:List (List UInt8):=[[110,111,116],[97,108,119,97,121,115],[101,118,101,110,116,117,97,108,108,121],[101,110,97,98,108,101,100]]
def Cr:List (List UInt8):=[[45],[100,111,109,97,105,110],[112,111,119,101,114,115,101,116],[102,108,97,116,116,101,110],[117,110,99,104,97,110,103,101,100]]
def Eg:List (List UInt8):=[[110,105,108],[116,114,117,101],[102,97,108,115,101]]
def B7:List (List UInt8):=[[115,105,122,101],[108,101,110],[104,101,97,100],[116,97,105,108],[97,112,112,101,110,100],[118,97,108,117,101,115],[115,101,113,115]]
def Cy:List (List UInt8):=[[101,97,99,104],[116,104,111,115,101]]
def Ci (p:List UInt8):Nat:=if Dj.contains p then 0 else if Dd.contains p then 6 else if Cr.contains p then 12 else 14
def Dr:List (List UInt8×Nat):=[([108,101,97,100,115,116,111],1),([117,110,116,105,108],1),([105,102,102],2),([105,109,112,108,105,101,115],3),([111,114],4),([97,110,100],5),
 ([61],7),([47,61],7),([60],7),([60,61],7),([62],7),([62,61],7),([105,110],7),([115,117,98,115,101,116],7),([45,62],8),([46,46],9),
 ([43],10),([45],10),([117,110,105,111,110],10),([109,105,110,117,115],10),([43,43],10),([42],11),([47],11),([37],11),([105,110,116,101,114],11)]
def Ah (p:List UInt8):Nat:=(Dr.lookup p).getD 0
def Gx (n:Nat):Bool:=n==2||n==4||n==5||n==10||n==11
def Ca (n:Nat):Nat:=if Gx n then n else n+1
def Bm (n:Nat):Nat:=if n=3 then 3 else n+1
def Ai (x:PX)(least:Nat):List UInt8:=if x.rk<least then 40::(x.tx++[41]) else x.tx
def Bd (sep:Nat->List UInt8):Nat->List (List UInt8)->List UInt8
 | _,[]=>[]
 | i,a::l=>sep i++a++Bd sep (i+1) l
def Co (i:Nat):List UInt8:=if i=0 then[] else[44,32]
def Cm (i:Nat):List UInt8:=if i % 2=1 then[58,32] else if i=0 then[] else[44,32]
def Cb (l:List PX):List UInt8:=Bd Co 0 (l.map PX.tx)
def Dx (l:List UInt8):Bool:=(match l with | []=>false|c::_=>A2 c)&&decide (l.length<=16)&&l.all Bf&&!Aq l
def B8 (t:List UInt8):PX:=⟨14,t,none⟩
def Du (n:List UInt8):PX:=⟨14,34::(n++[34]),if Dx n then some n else none⟩
def C6 (n:List UInt8)(l:List PX):PX:=⟨14,n++40::(Cb l++[41]),none⟩
def Hl (l:List PX):PX:=⟨14,123::(Cb l++[125]),none⟩
def Gh (l:List PX):PX:=⟨14,60::60::(Cb l++[62,62]),none⟩
def Gt (l:List PX):PX:=⟨14,91::(Bd Cm 0 (l.map PX.tx)++[93]),none⟩
def C2 (r:Nat)(op n:List UInt8):PX:=⟨r,op++32::n,none⟩
def Bu (r:Nat)(op:List UInt8)(x:PX):PX:=⟨r,if op=Jb then 45::Ai x r else op++32::Ai x r,none⟩
def dIf (a b c:PX):PX:=⟨0,[105,102,32]++a.tx++[32,116,104,101,110,32]++b.tx++[32,101,108,115,101,32]++c.tx,none⟩
def Hy (n:List UInt8)(a b:PX):PX:=⟨0,[108,101,116,32]++n++[32,61,32]++a.tx++[32,58,32]++b.tx,none⟩
def Ep (op n:List UInt8)(a b:PX):List UInt8:=op++[32]++n++[32,105,110,32]++Ai a 8++[32,58,32]++b.tx
def Cc (op n:List UInt8)(a b:PX):PX:=if Cy.contains op then⟨14,123::(Ep op n a b++[125]),none⟩ else⟨0,Ep op n a b,none⟩
def Bl (op:List UInt8)(a b:PX):PX:=⟨Ah op,Ai a (Ca (Ah op))++[32]++op++[32]++Ai b (Bm (Ah op)),none⟩
def dAt (f k:PX):PX:=⟨13,Ai f 13++(match k.key with|some n=>46::n|none=>91::(k.tx++[93])),none⟩
def Ed (f k v:PX):PX:=⟨13,Ai f 13++91::(k.tx++[32,58,61,32]++v.tx++[93]),none⟩
abbrev RX (β:Type):=Option (Except (Nat×Nat) (β×Nat))
def bX {β γ:Type}(r:RX β)(k:β->Nat->RX γ):RX γ :=
 match r with
 | none=>none
 | some (.error e)=>some (.error e)
 | some (.ok (x,i))=>k x i
def okX {β:Type}(x:β)(i:Nat):RX β:=some (.ok (x,i))
def Cz {β:Type}(c p:Nat):RX β:=some (.error (c,p))
section
variable (K:Nat->Tk)
def Cj {γ:Type}(m:List UInt8)(i:Nat)(k:Nat->RX γ):RX γ:=if (K i).tx==m then k (i+1) else Cz 1 (K i).at'
def Cs {γ:Type}(d i:Nat)(k:Nat->RX γ):RX γ:=if d=24 then Cz 6 (K i).at' else k (i+1)
def C0 (i:Nat):RX (List UInt8) :=
 if (K i).cl≠1\/Aq (K i).tx=true then Cz 1 (K i).at' else if 16<(K i).tx.length then Cz 5 (K i).at' else okX (K i).tx (i+1)
def Bq {β:Type}(closing:List UInt8)(item:Nat->RX β):Nat->List β->Nat->RX (List β)
 | 0,_,_=>none
 | m+1,acc,i=>bX (item i) fun x j=>if (K j).tx==closing then okX (acc++[x]) (j+1) else Cj K [44] j fun j=>Bq closing item m (acc++[x]) j
def Jc {β:Type}(closing:List UInt8)(item:Nat->RX β)(m i:Nat):RX (List β) :=
 if (K i).tx==closing then okX [] (i+1) else Bq K closing item m [] i
variable (self:Nat->Nat->Nat->RX PX)
def Ev (d i:Nat):RX (PX×PX):=bX (self 0 d i) fun a j=>Cj K [58] j fun j=>bX (self 0 d j) fun b j=>okX (a,b) j
def Gi (op:List UInt8)(d i:Nat):RX PX :=
 bX (C0 K i) fun n j=>Cj K [105,110] j fun j=>bX (self 8 d j) fun a j=>Cj K [58] j fun j=>bX (self 0 d j) fun b j=>okX (Cc op n a b) j
def Fw (d i:Nat):RX PX :=
 bX (self 0 d i) fun a j=>Cj K [116,104,101,110] j fun j=>bX (self 0 d j) fun b j=>Cj K [101,108,115,101] j fun j=>bX (self 0 d j) fun c j=>okX (dIf a b c) j
def Gy (d i:Nat):RX PX :=
 bX (C0 K i) fun n j=>Cj K [61] j fun j=>bX (self 0 d j) fun a j=>Cj K [58] j fun j=>bX (self 0 d j) fun b j=>okX (Hy n a b) j
def Ct (d i:Nat):RX PX :=
 Cs K d i fun j=>if (K i).tx==wIf then Fw K self (d+1) j else if (K i).tx==Hk then Gy K self (d+1) j else Gi K self (K i).tx (d+1) j
def C5 (r d i:Nat):RX PX :=
 if (K i).tx==Ch||(K i).tx==Bo then bX (C0 K (i+1)) fun n j=>okX (C2 r (K i).tx n) j
 else Cs K d i fun j=>bX (self r (d+1) j) fun x j=>okX (Bu r (K i).tx x) j
def Gz (m:Nat)(n:List UInt8)(d i:Nat):RX PX :=
 Cs K d i fun j=>bX (Bq K [41] (self 0 (d+1)) m [] j) fun l j=>okX (C6 n l) j
def Ew (m d i:Nat):RX PX :=
 bX (C0 K i) fun n j=>if (K j).tx==[39] then okX (B8 (n++[39])) (j+1) else if (K j).tx==[40] then Gz K self m n d j else okX (B8 n) j
def D3 (m d i:Nat):RX PX :=
 if Eg.contains (K i).tx then okX (B8 (K i).tx) (i+1)
 else if B7.contains (K i).tx then(if (K (i+1)).tx==[40] then Gz K self m (K i).tx d (i+1) else Cz 1 (K (i+1)).at')
 else Ew K self m d i
def Kj (m d i:Nat):RX PX :=
 if Cy.contains (K i).tx then bX (Gi K self (K i).tx d (i+1)) fun x j=>Cj K [125] j fun j=>okX x j
 else bX (Jc K [125] (self 0 d) m i) fun l j=>okX (Hl l) j
def Bp (m d i:Nat):RX PX :=
 if (K i).tx==[40] then Cs K d i fun j=>bX (self 0 (d+1) j) fun x j=>Cj K [41] j fun j=>okX x j
 else if (K i).tx==[123] then Cs K d i fun j=>Kj K self m (d+1) j
 else if (K i).tx==[60,60] then Cs K d i fun j=>bX (Jc K [62,62] (self 0 (d+1)) m j) fun l j=>okX (Gh l) j
 else if (K i).tx==[91] then Cs K d i fun j=>bX (Bq K [93] (Ev K self (d+1)) m [] j) fun l j=>okX (Gt (l.flatMap fun p=>[p.1,p.2])) j
 else Cz 1 (K i).at'
def Eh (m d i:Nat):RX PX :=
 if (K i).cl=2 then(match Lib.parseIntB 64 (K i).tx with | .ok v=>okX (B8 (Lib.itoa v)) (i+1)|_=>Cz 5 (K i).at')
 else if (K i).cl=3 then okX (Du (((K i).tx.take ((K i).tx.length-1)).drop 1)) (i+1)
 else if (K i).cl=1 then D3 K self m d i
 else Bp K self m d i
def Bj (M d:Nat):Nat->PX->Nat->RX PX
 | 0,_,_=>none
 | m+1,x,i =>
  if (K i).tx==[91] then Cs K d i fun j=>bX (self 0 (d+1) j) fun k j =>
   if (K j).tx==[58,61] then bX (self 0 (d+1) (j+1)) fun v j=>Cj K [93] j fun j=>Bj M d m (Ed x k v) j
   else Cj K [93] j fun j=>Bj M d m (dAt x k) j
  else if (K i).tx==[46] then bX (C0 K (i+1)) fun n j=>Bj M d m (dAt x (Du n)) j
  else okX x i
def Ei (m d i:Nat):RX PX:=bX (Eh K self m d i) fun x j=>Bj K self m d m x j
def Bv (rank d:Nat):Nat->Nat->PX->Nat->RX (PX×Nat)
 | 0,_,_,_=>none
 | m+1,held,x,i =>
  if Ah (K i).tx=0\/Ah (K i).tx<rank\/held<Ca (Ah (K i).tx) then okX (x,held) i
  else bX (self (Bm (Ah (K i).tx)) d (i+1)) fun y j=>Bv rank d m (Ah (K i).tx) (Bl (K i).tx x y) j
def Er (m held d i:Nat):RX PX:=if held=0 then Ct K self d i else if held=6\/held=12 then C5 K self held d i else Ei K self m d i
def Fq (m rank d i:Nat):RX (PX×Nat) :=
 if Ci (K i).tx<rank then Cz 1 (K i).at'
 else bX (Er K self m (Ci (K i).tx) d i) fun x j=>Bv K self rank d m (Ci (K i).tx) x j
def Gu (n d:Nat):Nat->PX->Nat->RX PX
 | 0,_,_=>none
 | m+1,x,i =>
  if Ah (K i).tx=n then bX (self (Bm n) d (i+1)) fun y j=>if Gx n then Gu n d m (Bl (K i).tx x y) j else okX (Bl (K i).tx x y) j
  else okX x i
def Gj (m d:Nat):Nat->Nat->RX PX
 | 0,i=>if Cr.contains (K i).tx then C5 K self 12 d i else Ei K self m d i
 | k+1,i =>
  if k=5 then(if Dd.contains (K i).tx then C5 K self 6 d i else Gj m d k i)
  else bX (Gj m d k i) fun x j=>Gu K self (11-k) d m x j
def Fe (m n d i:Nat):RX PX :=
 if n=0 then(if Dj.contains (K i).tx then Ct K self d i else Gj K self m d 11 i) else Gj K self m d (12-n) i
end
def Ff (K:Nat->Tk):Nat->Nat->Nat->Nat->RX PX
 | 0,_,_,_=>none
 | f+1,n,d,i=>bX (Fq K (Ff K f) f (min n 12) d i) fun x j=>okX x.1 j
def Lp (K:Nat->Tk):Nat->Nat->Nat->Nat->RX PX
 | 0,_,_,_=>none
 | f+1,n,d,i=>Fe K (Lp K f) f n d i
def leX {β:Type}(a b:RX β):Prop:=a=none\/a=b
theorem leX.refl {β:Type}(a:RX β):leX a a:=.inr rfl
theorem leX.none {β:Type}(a:RX β):leX Option.none a:=.inl rfl
theorem leX.trans {β:Type}{a b c:RX β}(h:leX a b)(k:leX b c):leX a c:=by
 rcases h with h|h
 ·exact .inl h
 ·subst h;exact k
theorem leX.some {β:Type}{a b:RX β}(h:leX a b){r:Except (Nat×Nat) (β×Nat)}(e:a=Option.some r):b=Option.some r:=by
 rcases h with h|h
 ·rw[h] at e;simp at e
 ·rw[<- h,e]
theorem Bb {β γ:Type}{r r':RX β}{k k':β->Nat->RX γ}(h:leX r r')(hk:∀x i,leX (k x i) (k' x i)):leX (bX r k) (bX r' k'):=by
 rcases h with h|h
 ·rw[h];exact .inl rfl
 ·subst h;rcases r with _|(e|⟨x,i⟩)
  ·exact .inl rfl
  ·exact .inr rfl
  ·exact hk x i
theorem Bc {β:Type}{c:Prop}[Decidable c]{a a' b b':RX β}(h:leX a a')(k:leX b b'):leX (if c then a else b) (if c then a' else b'):=by
 split
 ·exact h
 ·exact k
theorem Dk {γ:Type}{K:Nat->Tk}{m:List UInt8}{i:Nat}{k k':Nat->RX γ}(h:∀j,leX (k j) (k' j)):leX (Cj K m i k) (Cj K m i k'):=Bc (h _) (leX.refl _)
theorem Dv {γ:Type}{K:Nat->Tk}{d i:Nat}{k k':Nat->RX γ}(h:∀j,leX (k j) (k' j)):leX (Cs K d i k) (Cs K d i k'):=Bc (leX.refl _) (h _)
theorem Hz {β:Type}{K:Nat->Tk}{cl:List UInt8}{item item':Nat->RX β}(h:∀i,leX (item i) (item' i)):∀m m',m<=m'->∀acc i,leX (Bq K cl item m acc i) (Bq K cl item' m' acc i)
 | 0,_,_,_,_=>leX.none _
 | m+1,0,hm,_,_=>absurd hm (by omega)
 | m+1,m'+1,hm,acc,i=>Bb (h i) fun x j=>Bc (leX.refl _) (Dk fun j=>Hz h m m' (by omega) _ _)
theorem N9 {β:Type}{K:Nat->Tk}{cl:List UInt8}{item item':Nat->RX β}(h:∀i,leX (item i) (item' i)){m m':Nat}(hm:m<=m')(i:Nat):leX (Jc K cl item m i) (Jc K cl item' m' i) :=
 Bc (leX.refl _) (Hz h m m' hm _ _)
abbrev LeS (self self':Nat->Nat->Nat->RX PX):Prop:=∀n d i,leX (self n d i) (self' n d i)
section
variable {K:Nat->Tk} {self self':Nat->Nat->Nat->RX PX}
theorem Tl (hs:LeS self self')(d i:Nat):leX (Ev K self d i) (Ev K self' d i) :=
 Bb (hs _ _ _) fun _ _=>Dk fun _=>Bb (hs _ _ _) fun _ _=>leX.refl _
theorem K2 (hs:LeS self self')(op:List UInt8)(d i:Nat):leX (Gi K self op d i) (Gi K self' op d i) :=
 Bb (leX.refl _) fun _ _=>Dk fun _=>Bb (hs _ _ _) fun _ _=>Dk fun _=>Bb (hs _ _ _) fun _ _=>leX.refl _
theorem Pd (hs:LeS self self')(d i:Nat):leX (Fw K self d i) (Fw K self' d i) :=
 Bb (hs _ _ _) fun _ _=>Dk fun _=>Bb (hs _ _ _) fun _ _=>Dk fun _=>Bb (hs _ _ _) fun _ _=>leX.refl _
theorem Pe (hs:LeS self self')(d i:Nat):leX (Gy K self d i) (Gy K self' d i) :=
 Bb (leX.refl _) fun _ _=>Dk fun _=>Bb (hs _ _ _) fun _ _=>Dk fun _=>Bb (hs _ _ _) fun _ _=>leX.refl _
theorem Jf (hs:LeS self self')(d i:Nat):leX (Ct K self d i) (Ct K self' d i) :=
 Dv fun _=>Bc (Pd hs _ _) (Bc (Pe hs _ _) (K2 hs _ _ _))
theorem Ii (hs:LeS self self')(r d i:Nat):leX (C5 K self r d i) (C5 K self' r d i) :=
 Bc (leX.refl _) (Dv fun _=>Bb (hs _ _ _) fun _ _=>leX.refl _)
theorem Lq (hs:LeS self self'){m m':Nat}(hm:m<=m')(n:List UInt8)(d i:Nat):leX (Gz K self m n d i) (Gz K self' m' n d i) :=
 Dv fun _=>Bb (Hz (fun i=>hs _ _ i) m m' hm _ _) fun _ _=>leX.refl _
theorem Ra (hs:LeS self self'){m m':Nat}(hm:m<=m')(d i:Nat):leX (Ew K self m d i) (Ew K self' m' d i) :=
 Bb (leX.refl _) fun _ _=>Bc (leX.refl _) (Bc (Lq hs hm _ _ _) (leX.refl _))
theorem Tm (hs:LeS self self'){m m':Nat}(hm:m<=m')(d i:Nat):leX (D3 K self m d i) (D3 K self' m' d i) :=
 Bc (leX.refl _) (Bc (Bc (Lq hs hm _ _ _) (leX.refl _)) (Ra hs hm _ _))
theorem Xe (hs:LeS self self'){m m':Nat}(hm:m<=m')(d i:Nat):leX (Kj K self m d i) (Kj K self' m' d i) :=
 Bc (Bb (K2 hs _ _ _) fun _ _=>leX.refl _) (Bb (N9 (fun i=>hs _ _ i) hm _) fun _ _=>leX.refl _)
theorem Nc (hs:LeS self self'){m m':Nat}(hm:m<=m')(d i:Nat):leX (Bp K self m d i) (Bp K self' m' d i) :=
 Bc (Dv fun _=>Bb (hs _ _ _) fun _ _=>leX.refl _) (Bc (Dv fun _=>Xe hs hm _ _)
  (Bc (Dv fun _=>Bb (N9 (fun i=>hs _ _ i) hm _) fun _ _=>leX.refl _)
   (Bc (Dv fun _=>Bb (Hz (fun i=>Tl hs _ i) m m' hm _ _) fun _ _=>leX.refl _) (leX.refl _))))
theorem Rb (hs:LeS self self'){m m':Nat}(hm:m<=m')(d i:Nat):leX (Eh K self m d i) (Eh K self' m' d i) :=
 Bc (leX.refl _) (Bc (leX.refl _) (Bc (Tm hs hm _ _) (Nc hs hm _ _)))
theorem Fx (hs:LeS self self')(M M' d:Nat):∀m m',m<=m'->∀x i,leX (Bj K self M d m x i) (Bj K self' M' d m' x i)
 | 0,_,_,_,_=>leX.none _
 | m+1,0,hm,_,_=>absurd hm (by omega)
 | m+1,m'+1,hm,x,i =>
  Bc (Dv fun _=>Bb (hs _ _ _) fun _ _=>Bc (Bb (hs _ _ _) fun _ _=>Dk fun _=>Fx hs M M' d m m' (by omega) _ _) (Dk fun _=>Fx hs M M' d m m' (by omega) _ _))
   (Bc (Bb (leX.refl _) fun _ _=>Fx hs M M' d m m' (by omega) _ _) (leX.refl _))
theorem Ij (hs:LeS self self'){m m':Nat}(hm:m<=m')(d i:Nat):leX (Ei K self m d i) (Ei K self' m' d i) :=
 Bb (Rb hs hm _ _) fun _ _=>Fx hs _ _ _ m m' hm _ _
theorem Fg (hs:LeS self self')(rank d:Nat):∀m m',m<=m'->∀h x i,leX (Bv K self rank d m h x i) (Bv K self' rank d m' h x i)
 | 0,_,_,_,_,_=>leX.none _
 | m+1,0,hm,_,_,_=>absurd hm (by omega)
 | m+1,m'+1,hm,h,x,i=>Bc (leX.refl _) (Bb (hs _ _ _) fun _ _=>Fg hs rank d m m' (by omega) _ _ _)
theorem Fy (hs:LeS self self'){m m':Nat}(hm:m<=m')(held d i:Nat):leX (Er K self m held d i) (Er K self' m' held d i) :=
 Bc (Jf hs _ _) (Bc (Ii hs _ _ _) (Ij hs hm _ _))
theorem Jl (hs:LeS self self'){m m':Nat}(hm:m<=m')(rank d i:Nat):leX (Fq K self m rank d i) (Fq K self' m' rank d i) :=
 Bc (leX.refl _) (Bb (Fy hs hm _ _ _) fun _ _=>Fg hs _ _ m m' hm _ _ _)
theorem Oa (hs:LeS self self')(n d:Nat):∀m m',m<=m'->∀x i,leX (Gu K self n d m x i) (Gu K self' n d m' x i)
 | 0,_,_,_,_=>leX.none _
 | m+1,0,hm,_,_=>absurd hm (by omega)
 | m+1,m'+1,hm,x,i=>Bc (Bb (hs _ _ _) fun _ _=>Bc (Oa hs n d m m' (by omega) _ _) (leX.refl _)) (leX.refl _)
theorem H4 (hs:LeS self self'){m m':Nat}(hm:m<=m')(d:Nat):∀k i,leX (Gj K self m d k i) (Gj K self' m' d k i)
 | 0,_=>Bc (Ii hs _ _ _) (Ij hs hm _ _)
 | k+1,i=>Bc (Bc (Ii hs _ _ _) (H4 hs hm d k i)) (Bb (H4 hs hm d k i) fun _ _=>Oa hs _ _ m m' hm _ _)
theorem Tn (hs:LeS self self'){m m':Nat}(hm:m<=m')(n d i:Nat):leX (Fe K self m n d i) (Fe K self' m' n d i) :=
 Bc (Bc (Jf hs _ _) (H4 hs hm _ _ _)) (H4 hs hm _ _ _)
end
theorem Lr (K:Nat->Tk):∀f f',f<=f'->∀n d i,leX (Ff K f n d i) (Ff K f' n d i)
 | 0,_,_,_,_,_=>leX.none _
 | f+1,0,h,_,_,_=>absurd h (by omega)
 | f+1,f'+1,h,n,d,i=>Bb (Jl (Lr K f f' (by omega)) (by omega) _ _ _) fun _ _=>leX.refl _
structure Bz (t:Tk):Prop where
 word:∀c r,t.tx=c::r->A2 c=true->t.cl=1
 sort:t.cl=0\/t.cl=1\/t.cl=2\/t.cl=3\/t.cl=4\/t.cl=5
 none:t.cl=0->t.tx=[]
 odd:t.cl=2\/t.cl=3\/t.cl=5->∀c r,t.tx=c::r->Av c=true\/c=95\/c=34
 two:t.cl=3->2<=t.tx.length
theorem Ls {p:List UInt8}{v:Nat}:∀(l:List (List UInt8×Nat)),l.lookup p=some v->v∈l.map Prod.snd
 | [],h=>by simp at h
 | (a,b)::l,h=>by
  rw[List.lookup_cons] at h;split at h
  ·simp only[Option.some.injEq] at h;simp[h]
  ·have:=Ls l h;simp only[List.map_cons,List.mem_cons];exact .inr this
theorem Ej (p:List UInt8):Ah p=0\/Ah p=1\/Ah p=2\/Ah p=3\/Ah p=4\/Ah p=5\/Ah p=7\/Ah p=8\/Ah p=9\/Ah p=10\/Ah p=11:=by
 unfold Ah;cases h:Dr.lookup p with
 | none=>exact .inl rfl
 | some v =>
  have:=Ls _ h;simp only[Dr,List.map_cons,List.map_nil,List.mem_cons,List.not_mem_nil,or_false] at this;simp only[Option.getD_some];omega
theorem Ik (n:Nat):n<=Ca n/\Ca n<=n+1:=by unfold Ca;split<;>omega
theorem Wg {p:List UInt8}(h:Dj.contains p=true):Ci p=0:=by unfold Ci;rw[if_pos h]
theorem Wh {p:List UInt8}(h:Dd.contains p=true):Ci p=6:=by
 have:Dj.contains p=false:=by
  simp only[Dd,List.contains_cons,List.contains_nil,Bool.or_false,Bool.or_eq_true,beq_iff_eq] at h;rcases h with rfl|rfl|rfl|rfl<;>rfl
 unfold Ci;rw[this,h];rfl
theorem Lt {p:List UInt8}(h:Cr.contains p=true):Ci p=12:=by
 have a:Dj.contains p=false/\Dd.contains p=false:=by
  simp only[Cr,List.contains_cons,List.contains_nil,Bool.or_false,Bool.or_eq_true,beq_iff_eq] at h;rcases h with rfl|rfl|rfl|rfl|rfl<;>exact⟨rfl,rfl⟩
 unfold Ci;rw[a.1,a.2,h];rfl
theorem Jz (p:List UInt8):(Ci p=0/\Dj.contains p=true)\/(Ci p=6/\Dd.contains p=true)\/(Ci p=12/\Cr.contains p=true)\/(Ci p=14/\Dj.contains p=false/\Dd.contains p=false/\Cr.contains p=false):=by
 cases b:Dj.contains p with
 | true=>exact .inl ⟨Wg b,rfl⟩
 | false =>
  cases c:Dd.contains p with
  | true=>exact .inr (.inl ⟨Wh c,rfl⟩)
  | false =>
   cases a:Cr.contains p with
   | true=>exact .inr (.inr (.inl ⟨Lt a,rfl⟩))
   | false=>exact .inr (.inr (.inr ⟨by unfold Ci;rw[b,c,a];rfl,rfl,rfl,rfl⟩))
theorem Lu {K:Nat->Tk}{self:Nat->Nat->Nat->RX PX}{m d i:Nat}(hK:Bz (K i))(h:Dj.contains (K i).tx=true\/Dd.contains (K i).tx=true):Ei K self m d i=Cz 1 (K i).at':=by
 have a:(K i).cl=1/\Eg.contains (K i).tx=false/\B7.contains (K i).tx=false/\Aq (K i).tx=true:=by
  simp only[Dj,Dd,List.contains_cons,List.contains_nil,Bool.or_false,Bool.or_eq_true,beq_iff_eq] at h;rcases h with(h|h|h|h|h|h)|(h|h|h|h)
  all_goals
   refine⟨hK.word _ _ h rfl,?_⟩;rw[h];exact⟨rfl,rfl,by decide⟩
 have b:C0 K i=Cz 1 (K i).at':=by unfold C0;rw[if_pos (.inr a.2.2.2)]
 unfold Ei Eh D3 Ew;rw[if_neg (by omega),if_neg (by omega),if_pos a.1,if_neg (by rw[a.2.1];simp),if_neg (by rw[a.2.2.1];simp),b];rfl
theorem Ck {β γ δ:Type}(r:RX β)(k:β->Nat->RX γ)(l:γ->Nat->RX δ):bX (bX r k) l=bX r fun x i=>bX (k x i) l:=by
 rcases r with _|(e|⟨x,i⟩)<;>rfl
theorem eJ {β γ:Type}(x:β)(i:Nat)(k:β->Nat->RX γ):bX (okX x i) k=k x i:=rfl
section
variable {K:Nat->Tk} {self:Nat->Nat->Nat->RX PX}
theorem K3 (n d m2:Nat):∀m held x i,leX (bX (Bv K self (n+1) d m held x i) fun y j=>Bv K self n d m2 y.2 y.1 j) (Bv K self n d (m+m2) held x i)
 | 0,_,_,_=>leX.none _
 | m+1,held,x,i=>by
  rw[Bv];by_cases h:Ah (K i).tx=0\/Ah (K i).tx<n+1\/held<Ca (Ah (K i).tx)
  ·rw[if_pos h,eJ];exact Fg (fun _ _ _=>leX.refl _) n d m2 (m+1+m2) (by omega) _ _ _
  ·rw[if_neg h,show m+1+m2=(m+m2)+1 from by omega,Bv,if_neg (by omega),Ck];exact Bb (leX.refl _) fun y j=>K3 n d m2 m _ _ _
theorem Lv (n d:Nat):∀m held x i y h' j,Bv K self n d m held x i=some (.ok ((y,h'),j))->n<=held->n<=h'/\(Ah (K j).tx=0\/Ah (K j).tx<n\/h'<Ca (Ah (K j).tx))
 | 0,_,_,_,_,_,_,e,_=>by simp[Bv] at e
 | m+1,held,x,i,y,h',j,e,hn=>by
  rw[Bv] at e;by_cases h:Ah (K i).tx=0\/Ah (K i).tx<n\/held<Ca (Ah (K i).tx)
  ·rw[if_pos h] at e;simp only[okX,Option.some.injEq,Except.ok.injEq,Prod.mk.injEq] at e;obtain⟨⟨-,rfl⟩,rfl⟩:=e;exact⟨hn,h⟩
  ·rw[if_neg h] at e;cases q:self (Bm (Ah (K i).tx)) d (i+1) with
   | none=>rw[q] at e;simp[bX] at e
   | some r =>
    rw[q] at e;rcases r with e' | ⟨z,k⟩
    ·simp[bX] at e
    ·exact Lv n d m _ _ _ y h' j e (by omega)
theorem Gk {n d m held:Nat}{x:PX}{i:Nat}(h:Ah (K i).tx=0\/Ah (K i).tx<n\/held<Ca (Ah (K i).tx)):Bv K self n d (m+1) held x i=okX (x,held) i:=by rw[Bv,if_pos h]
theorem Rc (n d:Nat)(hn:1<=n)(hl:Gx n=true):∀m y j,leX (Gu K self n d m y j) (bX (Bv K self n d m n y j) fun z j=>okX z.1 j)
 | 0,_,_=>leX.none _
 | m+1,y,j=>by
  rw[Gu,Bv];have hlf:Ca n=n:=by unfold Ca;rw[hl];rfl
  by_cases h:Ah (K j).tx=n
  ·rw[if_pos h,if_neg (by rw[h,hlf];omega),Ck,h];exact Bb (leX.refl _) fun z k=>by rw[hl];exact Rc n d hn hl m _ _
  ·have:=(Ik (Ah (K j).tx)).1;rw[if_neg h,if_pos (by omega)];exact leX.refl _
theorem Xf (n d:Nat)(hn:1<=n)(m:Nat)(y:PX)(h' j:Nat)(hh:n+1<=h')(hs:Ah (K j).tx=0\/Ah (K j).tx<n+1\/h'<Ca (Ah (K j).tx)) :
  leX (Gu K self n d m y j) (bX (Bv K self n d (m+1) h' y j) fun z j=>okX z.1 j):=by
 cases m with
 | zero=>exact leX.none _
 | succ m =>
  rw[Gu,Bv];have c:=Ik n;by_cases h:Ah (K j).tx=n
  ·rw[if_pos h,if_neg (by rw[h];omega),Ck,h];refine Bb (leX.refl _) fun z k=>?_;cases a:Gx n with
   | true=>exact(Rc n d hn a m _ _).trans (Bb (Fg (fun _ _ _=>leX.refl _) n d m (m+1) (by omega) _ _ _) fun _ _=>leX.refl _)
   | false =>
    have b:Ca n=n+1:=by unfold Ca;rw[a];rfl
    have e:=Ik (Ah (K k).tx);rw[if_neg (by simp),Gk (by
     by_cases q:Ah (K k).tx=n
     ·rw[q,b];omega
     ·omega)]
    exact leX.refl _
  ·rw[if_neg h,if_pos (by omega)];exact leX.refl _
theorem Lw {a b:Nat}(h:∀p,(Ah p=0\/Ah p<a)↔(Ah p=0\/Ah p<b))(d:Nat):∀m held x i,Bv K self a d m held x i=Bv K self b d m held x i
 | 0,_,_,_=>rfl
 | m+1,held,x,i=>by
  rw[Bv,Bv];have:=h (K i).tx;by_cases q:Ah (K i).tx=0\/Ah (K i).tx<a\/held<Ca (Ah (K i).tx)
  ·rw[if_pos q,if_pos (by omega)]
  ·rw[if_neg q,if_neg (by omega)]
   congr 1;funext y j;exact Lw h d m _ _ _
theorem Kk (hK:∀i,Bz (K i))(m d:Nat):∀k,k<=11->∀i,leX (Gj K self m d k i) (bX (Fq K self ((k+1)*(m+1)) (12-k) d i) fun x j=>okX x.1 j)
 | 0,_,i=>by
  rw[Gj];unfold Fq;rcases Jz (K i).tx with⟨e,h⟩|⟨e,h⟩|⟨e,h⟩|⟨e,h0,h6,h⟩
  ·rw[e,if_pos (show 0<12-0 by omega)];have:Cr.contains (K i).tx=false:=by
    cases q:Cr.contains (K i).tx with
    | false=>rfl
    | true=>have:=Lt q;omega
   rw[this,Lu (hK i) (.inl h)];exact leX.refl _
  ·rw[e,if_pos (show 6<12-0 by omega)];have:Cr.contains (K i).tx=false:=by
    cases q:Cr.contains (K i).tx with
    | false=>rfl
    | true=>have:=Lt q;omega
   rw[this,Lu (hK i) (.inr h)];exact leX.refl _
  ·rw[h,e,if_neg (show ¬12<12-0 by omega),if_pos rfl,Ck];have c:Er K self ((0+1)*(m+1)) 12 d i=C5 K self 12 d i:=rfl;rw[c];rcases hq:C5 K self 12 d i with _|(q|⟨x,j⟩)
   ·exact leX.none _
   ·exact leX.refl _
   ·show leX _ (bX (Bv _ _ _ _ _ _ _ _) _);rw[show(0+1)*(m+1)=m+1 from by omega,Gk (by have:=Ej (K j).tx;omega)];exact leX.refl _
  ·rw[h,e,if_neg (show ¬14<12-0 by omega),Ck];have c:Er K self ((0+1)*(m+1)) 14 d i=Ei K self (m+1) d i:=by rw[show(0+1)*(m+1)=m+1 from by omega];rfl
   rw[c];refine leX.trans (Ij (fun _ _ _=>leX.refl _) (Nat.le_succ m) _ _) ?_;rcases hq:Ei K self (m+1) d i with _|(q|⟨x,j⟩)
   ·exact leX.none _
   ·exact leX.refl _
   ·show leX _ (bX (Bv _ _ _ _ _ _ _ _) _);rw[show(0+1)*(m+1)=m+1 from by omega,Gk (by have:=Ej (K j).tx;omega)];exact leX.refl _
 | k+1,hk,i=>by
  have g:=Kk hK m d k (by omega) i;have r:(k+1+1)*(m+1)=(k+1)*(m+1)+(m+1):=by rw[Nat.add_mul (k+1) 1 (m+1),Nat.one_mul]
  rw[Gj];by_cases o:k=5
  ·subst o;rw[if_pos rfl];unfold Fq;unfold Fq at g;cases h6:Dd.contains (K i).tx with
   | true =>
    have e:=Wh h6;rw[e,if_pos rfl,if_neg (show ¬6<12-(5+1) by omega),Ck];have c:∀M,Er K self M 6 d i=C5 K self 6 d i:=fun _=>rfl;rw[c];rcases hq:C5 K self 6 d i with _|(q|⟨x,j⟩)
    ·exact leX.none _
    ·exact leX.refl _
    ·show leX _ (bX (Bv _ _ _ _ _ _ _ _) _);rw[show(5+1+1)*(m+1)=(6*(m+1)+m)+1 from by omega,Gk (by have:=Ej (K j).tx;have:=Ik (Ah (K j).tx);omega)];exact leX.refl _
   | false =>
    have e:=Jz (K i).tx;rw[h6] at e;refine leX.trans g ?_;by_cases q:Ci (K i).tx<12-5
    ·rw[if_pos q,if_pos (by simp at e;omega)];exact leX.refl _
    ·rw[if_neg q,if_neg (by omega),Ck,Ck];refine Bb (Fy (fun _ _ _=>leX.refl _) (by omega) _ _ _) fun x j=>?_;rw[Lw (a:=12-(5+1)) (b:=12-5) (fun p=>by have:=Ej p;omega)];exact Bb (Fg (fun _ _ _=>leX.refl _) _ _ _ _ (by omega) _ _ _) fun _ _=>leX.refl _
  ·rw[if_neg o];refine leX.trans (Bb g fun _ _=>leX.refl _) ?_;unfold Fq;have e:=Jz (K i).tx;by_cases q:Ci (K i).tx<12-k
   ·rw[if_pos q,if_pos (by omega)];exact leX.refl _
   ·rw[if_neg q,if_neg (by omega),Ck,Ck,Ck];refine Bb (Fy (fun _ _ _=>leX.refl _) (by omega) _ _ _) fun x j=>?_;rw[r,show 12-k=(12-(k+1))+1 from by omega];have f:=Lv (K:=K) (self:=self) (12-(k+1)+1) d ((k+1)*(m+1)) (Ci (K i).tx) x j;refine leX.trans ?_ (Bb (K3 (12-(k+1)) d (m+1) ((k+1)*(m+1)) _ _ _) fun _ _=>leX.refl _);rw[Ck];rcases hq:Bv K self (12-(k+1)+1) d ((k+1)*(m+1)) (Ci (K i).tx) x j with _|(u|⟨⟨y,n⟩,l⟩)
    ·exact leX.none _
    ·exact leX.refl _
    ·obtain⟨s,t⟩:=f y n l hq (by omega);show leX (Gu _ _ _ _ _ _ _) (bX (Bv _ _ _ _ _ _ _ _) _);rw[show 11-k=12-(k+1) from by omega];exact Xf _ d (by omega) m y n l s t
theorem Xg (hK:∀i,Bz (K i))(m n d i:Nat)(hn:n<=12):leX (Fe K self m n d i) (bX (Fq K self (12*(m+1)) n d i) fun x j=>okX x.1 j):=by
 unfold Fe;by_cases h:n=0
 ·subst h;rw[if_pos rfl];cases c:Dj.contains (K i).tx with
  | true =>
   unfold Fq;rw[Wg c,if_pos rfl,if_neg (show ¬0<0 by omega),Ck];have f:∀M,Er K self M 0 d i=Ct K self d i:=fun _=>rfl;rw[f];rcases hq:Ct K self d i with _|(q|⟨x,j⟩)
   ·exact leX.none _
   ·exact leX.refl _
   ·show leX _ (bX (Bv _ _ _ _ _ _ _ _) _);rw[show 12*(m+1)=(12*m+11)+1 from by omega,Gk (by have:=Ej (K j).tx;have:=Ik (Ah (K j).tx);omega)];exact leX.refl _
  | false =>
   refine leX.trans (Kk hK m d 11 (by omega) i) ?_;have e:=Jz (K i).tx;rw[c] at e;unfold Fq;rw[if_neg (by simp at e;omega),if_neg (by omega),Ck,Ck];refine Bb (Fy (fun _ _ _=>leX.refl _) (by omega) _ _ _) fun x j=>?_;rw[Lw (a:=0) (b:=12-11) (fun p=>by have:=Ej p;omega)];exact leX.refl _
 ·rw[if_neg h];refine leX.trans (Kk hK m d (12-n) (by omega) i) ?_;rw[show 12-(12-n)=n from by omega];exact Bb (Jl (fun _ _ _=>leX.refl _) (Nat.mul_le_mul_right _ (by omega)) _ _ _) fun _ _=>leX.refl _
end
theorem Rd {K:Nat->Tk}(hK:∀i,Bz (K i)):∀f n d i,leX (Lp K f n d i) (Ff K (13*f+20) n d i)
 | 0,_,_,_=>leX.none _
 | f+1,n,d,i=>by
  have ih:=Rd hK f;have e:Fe K (Ff K (13*f+20)) f n d i=Fe K (Ff K (13*f+20)) f (min n 12) d i:=by
   by_cases h:n<=12
   ·rw[Nat.min_eq_left h]
   ·unfold Fe;rw[if_neg (by omega),if_neg (by omega),show 12-n=12-min n 12 from by omega]
  refine leX.trans (Tn ih (Nat.le_refl f) n d i) ?_;rw[e];refine leX.trans (Xg hK f (min n 12) d i (by omega)) ?_;rw[show 13*(f+1)+20=(13*f+32)+1 from by omega,Ff];exact Bb (Jl (Lr K _ _ (by omega)) (by omega) _ _ _) fun _ _=>leX.refl _
def Adv {β:Type}(lo N:Nat)(r:RX β):Prop:=∃e,r=some e/\∀x j,e=.ok (x,j)->lo<=j/\j<=N
theorem Adv.err {β:Type}{lo N c p:Nat}:Adv lo N (Cz c p:RX β):=⟨_,rfl,fun _ _ h=>by simp at h⟩
theorem Adv.ok {β:Type}{lo N:Nat}{x:β}{j:Nat}(h:lo<=j)(k:j<=N):Adv lo N (okX x j):=⟨_,rfl,fun _ _ e=>by simp at e;omega⟩
theorem Adv.bind {β γ:Type}{a lo N:Nat}{r:RX β}{k:β->Nat->RX γ}(h:Adv a N r)(hk:∀x j,a<=j->j<=N->Adv lo N (k x j)):Adv lo N (bX r k):=by
 obtain⟨e,rfl,h⟩:=h;rcases e with e|⟨x,j⟩
 ·exact⟨_,rfl,fun _ _ h=>by simp at h⟩
 ·obtain⟨b,c⟩:=h x j rfl;exact hk x j b c
theorem Adv.mono {β:Type}{a b N:Nat}{r:RX β}(h:Adv a N r)(hb:b<=a):Adv b N r:=by
 obtain⟨e,c,h⟩:=h;exact⟨e,c,fun x j q=>⟨Nat.le_trans hb (h x j q).1,(h x j q).2⟩⟩
theorem Adv.ite {β:Type}{lo N:Nat}{c:Prop}[Decidable c]{a b:RX β}(h:c->Adv lo N a)(k:¬c->Adv lo N b):Adv lo N (if c then a else b):=by
 split
 ·exact h ‹_›
 ·exact k ‹_›
def bY:List (List UInt8):=[[109,111,100,117,108,101],[99,111,110,115,116,97,110,116],[97,116,111,109,115],[115,121,109,109,101,116,114,105,99],[118,97,114,105,97,98,108,101],[100,101,102,105,110,101],[105,110,105,116],[97,99,116,105,111,110],[102,97,105,114],[119,101,97,107],[115,116,114,111,110,103],[105,110,118,97,114,105,97,110,116],[112,114,111,112,101,114,116,121],[61,61]]
def C3:List (List UInt8):=[[58],[105,110],[116,104,101,110],[101,108,115,101],[61],[44],[41],[93],[125],[62,62],[39],[40],[123],[60,60],[91],[46],[58,61]]++bY++Dj++Dd++Cr++Eg++B7++Cy++Dr.map Prod.fst
structure Bn (K:Nat->Tk)(N:Nat):Prop where
 cl:(K N).cl=0\/(K N).cl=5
 tx:∀m∈C3,(K N).tx≠m
section
variable {K:Nat->Tk} {N:Nat}
theorem Bn.lt (h:Bn K N){i:Nat}(hi:i<=N){m:List UInt8}(e:((K i).tx==m)=true)(hm:m∈C3):i<N:=by
 rcases Nat.lt_or_eq_of_le hi with q|q
 ·exact q
 ·subst q;exact absurd (eq_of_beq e) (h.tx m hm)
theorem Bn.lt_in (h:Bn K N){i:Nat}(hi:i<=N){l:List (List UInt8)}(e:l.contains (K i).tx=true)(hm:∀m∈l,m∈C3):i<N:=by
 rcases Nat.lt_or_eq_of_le hi with q|q
 ·exact q
 ·subst q;exact absurd rfl (h.tx _ (hm _ (List.contains_iff_mem.1 e)))
theorem Bn.lt_cl (h:Bn K N){i:Nat}(hi:i<=N)(e:(K i).cl=1\/(K i).cl=2\/(K i).cl=3):i<N:=by
 rcases Nat.lt_or_eq_of_le hi with q|q
 ·exact q
 ·subst q;have:=h.cl;omega
theorem Df {γ:Type}(h:Bn K N){m:List UInt8}(hm:m∈C3){lo i:Nat}(hi:i<=N){k:Nat->RX γ}(hk:i+1<=N->Adv lo N (k (i+1))):Adv lo N (Cj K m i k) :=
 Adv.ite (fun e=>hk (h.lt hi e hm)) fun _=>Adv.err
theorem D4 {γ:Type}{d lo i:Nat}{k:Nat->RX γ}(hk:Adv lo N (k (i+1))):Adv lo N (Cs K d i k):=Adv.ite (fun _=>Adv.err) fun _=>hk
theorem Hp (h:Bn K N){i:Nat}(hi:i<=N):Adv (i+1) N (C0 K i) :=
 Adv.ite (fun _=>Adv.err) fun q=>Adv.ite (fun _=>Adv.err) fun _=>Adv.ok (Nat.le_refl _) (h.lt_cl hi (by have:(K i).cl=1:=Classical.byContradiction fun e=>q (.inl e);omega))
theorem I4 {β:Type}(h:Bn K N){cl:List UInt8}(hc:cl∈C3){item:Nat->RX β}{lo:Nat}(hi:∀i,lo<=i->i<=N->Adv (i+1) N (item i)):∀m acc i,lo<=i->i<=N->N-i<m->Adv (i+1) N (Bq K cl item m acc i)
 | 0,_,_,_,_,q=>absurd q (by omega)
 | m+1,acc,i,h1,h2,q=>(hi i h1 h2).bind fun x j a b=>Adv.ite (fun e=>Adv.ok (by omega) (h.lt b e hc)) fun _ =>
   Df h (by decide) b fun c=>(I4 h hc hi m _ _ (by omega) c (by omega)).mono (by omega)
theorem Rf {β:Type}(h:Bn K N){cl:List UInt8}(hc:cl∈C3){item:Nat->RX β}{i m:Nat}(hi:∀j,i<=j->j<=N->Adv (j+1) N (item j))(h2:i<=N)(q:N-i<m):Adv (i+1) N (Jc K cl item m i) :=
 Adv.ite (fun e=>Adv.ok (by omega) (h.lt h2 e hc)) fun _=>I4 h hc hi m _ _ (Nat.le_refl _) h2 q
variable {self:Nat->Nat->Nat->RX PX}
abbrev Dg (N lo:Nat)(self:Nat->Nat->Nat->RX PX):Prop:=∀n d j,lo<=j->j<=N->Adv (j+1) N (self n d j)
theorem Xh (h:Bn K N){lo:Nat}(hs:Dg N lo self)(d:Nat){i:Nat}(h1:lo<=i)(h2:i<=N):Adv (i+1) N (Ev K self d i) :=
 (hs 0 d i h1 h2).bind fun _ j a b=>Df h (by decide) b fun c=>(hs 0 d _ (by omega) c).bind fun _ _ a b=>Adv.ok (by omega) b
theorem Lx (h:Bn K N){lo:Nat}(hs:Dg N lo self)(op:List UInt8)(d:Nat){i:Nat}(h1:lo<=i)(h2:i<=N):Adv (i+1) N (Gi K self op d i) :=
 (Hp h h2).bind fun _ j a b=>Df h (by decide) b fun c=>(hs 8 d _ (by omega) c).bind fun _ j a b=>Df h (by decide) b fun c=>(hs 0 d _ (by omega) c).bind fun _ _ a b=>Adv.ok (by omega) b
theorem Rg (h:Bn K N){lo:Nat}(hs:Dg N lo self)(d:Nat){i:Nat}(h1:lo<=i)(h2:i<=N):Adv (i+1) N (Fw K self d i) :=
 (hs 0 d i h1 h2).bind fun _ j a b=>Df h (by decide) b fun c=>(hs 0 d _ (by omega) c).bind fun _ j a b=>Df h (by decide) b fun c=>(hs 0 d _ (by omega) c).bind fun _ _ a b=>Adv.ok (by omega) b
theorem Rh (h:Bn K N){lo:Nat}(hs:Dg N lo self)(d:Nat){i:Nat}(h1:lo<=i)(h2:i<=N):Adv (i+1) N (Gy K self d i) :=
 (Hp h h2).bind fun _ j a b=>Df h (by decide) b fun c=>(hs 0 d _ (by omega) c).bind fun _ j a b=>Df h (by decide) b fun c=>(hs 0 d _ (by omega) c).bind fun _ _ a b=>Adv.ok (by omega) b
theorem Pf (h:Bn K N){i:Nat}(hs:Dg N (i+1) self)(d:Nat)(h2:i<N):Adv (i+1) N (Ct K self d i) :=
 D4 (Adv.ite (fun _=>(Rg h hs _ (Nat.le_refl _) h2).mono (by omega)) fun _=>Adv.ite (fun _=>(Rh h hs _ (Nat.le_refl _) h2).mono (by omega)) fun _=>(Lx h hs _ _ (Nat.le_refl _) h2).mono (by omega))
theorem Ly (h:Bn K N){i:Nat}(hs:Dg N (i+1) self)(r d:Nat)(h2:i<N):Adv (i+1) N (C5 K self r d i) :=
 Adv.ite (fun _=>(Hp h h2).bind fun _ _ a b=>Adv.ok (by omega) b) fun _=>D4 ((hs _ _ _ (Nat.le_refl _) h2).bind fun _ _ a b=>Adv.ok (by omega) b)
theorem Ob (h:Bn K N){lo:Nat}(hs:Dg N lo self)(n:List UInt8)(d:Nat){m i:Nat}(h1:lo<=i+1)(h2:i<N)(q:N-i<m+1):Adv (i+1) N (Gz K self m n d i) :=
 D4 ((I4 h (by decide) (fun j a b=>hs 0 (d+1) j a b) m _ _ h1 h2 (by omega)).bind fun _ _ a b=>Adv.ok (by omega) b)
theorem Tp (h:Bn K N){i m:Nat}(hs:Dg N (i+1) self)(d:Nat)(h2:i<=N)(q:N-i<m+1):Adv (i+1) N (Ew K self m d i) :=
 (Hp h h2).bind fun _ j a b=>Adv.ite (fun e=>Adv.ok (by omega) (h.lt b e (by decide))) fun _=>Adv.ite (fun e=>(Ob h hs _ d (by omega) (h.lt b e (by decide)) (by omega)).mono (by omega)) fun _=>Adv.ok a b
theorem Xi (h:Bn K N){i m:Nat}(hs:Dg N (i+1) self)(d:Nat)(h2:i<N)(q:N-i<m+1):Adv (i+1) N (D3 K self m d i) :=
 Adv.ite (fun _=>Adv.ok (by omega) h2) fun _=>Adv.ite (fun _=>Adv.ite (fun e=>(Ob h hs _ d (by omega) (h.lt h2 e (by decide)) (by omega)).mono (by omega)) fun _=>Adv.err) fun _=>Tp h hs d (by omega) q
theorem Zy (h:Bn K N){i m:Nat}(hs:Dg N i self)(d:Nat)(h2:i<=N)(q:N-i<m):Adv (i+1) N (Kj K self m d i) :=
 Adv.ite (fun e=>(Lx h hs _ d (by omega) (h.lt_in h2 e (by decide))).bind fun _ j a b=>Df h (by decide) b fun c=>Adv.ok (by omega) c) fun _=>(Rf h (by decide) (fun j a b=>hs 0 d j a b) h2 q).bind fun _ _ a b=>Adv.ok a b
theorem Pg (h:Bn K N){i m:Nat}(hs:Dg N (i+1) self)(d:Nat)(h2:i<=N)(q:N-i<m+1):Adv (i+1) N (Bp K self m d i) :=
 Adv.ite (fun e=>D4 ((hs _ _ _ (Nat.le_refl _) (h.lt h2 e (by decide))).bind fun _ j a b=>Df h (by decide) b fun c=>Adv.ok (by omega) c)) fun _ =>
 Adv.ite (fun e=>have:=h.lt h2 e (by decide);D4 ((Zy h hs _ this (by omega)).mono (by omega))) fun _ =>
 Adv.ite (fun e=>have:=h.lt h2 e (by decide);D4 ((Rf h (by decide) (fun j a b=>hs 0 (d+1) j a b) this (by omega)).bind fun _ _ a b=>Adv.ok (by omega) b)) fun _ =>
 Adv.ite (fun e=>have:=h.lt h2 e (by decide);D4 ((I4 h (by decide) (fun j a b=>Xh h hs (d+1) a b) m _ _ (Nat.le_refl _) this (by omega)).bind fun _ _ a b=>Adv.ok (by omega) b)) fun _=>Adv.err
theorem Tq (h:Bn K N){i m:Nat}(hs:Dg N (i+1) self)(d:Nat)(h2:i<=N)(q:N-i<m+1):Adv (i+1) N (Eh K self m d i) :=
 Adv.ite (fun e=>by
  have:=h.lt_cl h2 (.inr (.inl e));split
  ·exact Adv.ok (Nat.le_refl _) this
  ·exact Adv.err) fun _ =>
 Adv.ite (fun e=>Adv.ok (Nat.le_refl _) (h.lt_cl h2 (.inr (.inr e)))) fun _=>Adv.ite (fun e=>Xi h hs d (h.lt_cl h2 (.inl e)) q) fun _=>Pg h hs d h2 q
theorem G6 (h:Bn K N){lo:Nat}(hs:Dg N lo self)(M d:Nat):∀m x i,lo<=i->i<=N->N-i<m->Adv i N (Bj K self M d m x i)
 | 0,_,_,_,_,q=>absurd q (by omega)
 | m+1,x,i,h1,h2,q =>
  Adv.ite (fun e=>D4 ((hs _ _ _ (by omega) (h.lt h2 e (by decide))).bind fun _ j a b =>
   Adv.ite (fun e=>(hs _ _ _ (by omega) (h.lt b e (by decide))).bind fun _ j a b=>Df h (by decide) b fun c=>(G6 h hs M d m _ _ (by omega) c (by omega)).mono (by omega))
    fun _=>Df h (by decide) b fun c=>(G6 h hs M d m _ _ (by omega) c (by omega)).mono (by omega))) fun _ =>
  Adv.ite (fun e=>(Hp h (h.lt h2 e (by decide))).bind fun _ j a b=>(G6 h hs M d m _ _ (by omega) b (by omega)).mono (by omega)) fun _=>Adv.ok (Nat.le_refl _) h2
theorem Tr (h:Bn K N){i m:Nat}(hs:Dg N (i+1) self)(d:Nat)(h2:i<=N)(q:N-i<m+1):Adv (i+1) N (Ei K self m d i) :=
 (Tq h hs d h2 q).bind fun x j a b=>(G6 h hs m d m x j a b (by omega)).mono a
theorem Ri (h:Bn K N){lo:Nat}(hs:Dg N lo self)(n d:Nat)(hn:1<=n):∀m x i,lo<=i->i<=N->N-i<m->Adv i N (Gu K self n d m x i)
 | 0,_,_,_,_,q=>absurd q (by omega)
 | m+1,x,i,h1,h2,q=>by
  rw[Gu];refine Adv.ite (fun e=>?_) fun _=>Adv.ok (Nat.le_refl _) h2;have hlt:i<N:=by
   rcases Nat.lt_or_eq_of_le h2 with q|q
   ·exact q
   ·subst q;unfold Ah at e;cases w:Dr.lookup (K i).tx with
    | none=>rw[w] at e;simp at e;omega
    | some v =>
     have:(K i).tx∈Dr.map Prod.fst:=by
      have:∀l:List (List UInt8×Nat),l.lookup (K i).tx=some v->(K i).tx∈l.map Prod.fst:=by
       intro l
       induction l with
       | nil=>intro w;simp at w
       | cons a l ih =>
        intro w;rw[List.lookup_cons] at w;split at w
        ·rename_i q;rw[eq_of_beq q];simp
        ·simp only[List.map_cons,List.mem_cons];exact .inr (ih w)
      exact this _ w
     exact absurd rfl (h.tx _ (by unfold C3;exact List.mem_append_right _ this))
  exact(hs _ _ _ (by omega) hlt).bind fun _ j a b=>Adv.ite (fun _=>(Ri h hs n d hn m _ _ (by omega) b (by omega)).mono (by omega)) fun _=>Adv.ok (by omega) b
theorem I5 (h:Bn K N){i m:Nat}(hs:Dg N (i+1) self)(d:Nat)(h2:i<=N)(q:N-i<m+1):∀k,k<=11->Adv (i+1) N (Gj K self m d k i)
 | 0,_=>Adv.ite (fun e=>Ly h hs 12 d (h.lt_in h2 e (by decide))) fun _=>Tr h hs d h2 q
 | k+1,hk=>Adv.ite (fun _=>Adv.ite (fun e=>Ly h hs 6 d (h.lt_in h2 e (by decide))) fun _=>I5 h hs d h2 q k (by omega)) fun _ =>
   (I5 h hs d h2 q k (by omega)).bind fun x j a b=>(Ri h hs _ d (by omega) m x j a b (by omega)).mono a
theorem Xj (h:Bn K N){i m:Nat}(hs:Dg N (i+1) self)(n d:Nat)(h2:i<=N)(q:N-i<m+1):Adv (i+1) N (Fe K self m n d i) :=
 Adv.ite (fun _=>Adv.ite (fun e=>Pf h hs d (h.lt_in h2 e (by decide))) fun _=>I5 h hs d h2 q 11 (by omega)) fun _=>I5 h hs d h2 q _ (by omega)
end
theorem Rj {K:Nat->Tk}{N:Nat}(h:Bn K N):∀f n d i,i<=N->N-i<f->Adv (i+1) N (Lp K f n d i)
 | 0,_,_,_,_,q=>absurd q (by omega)
 | f+1,n,d,i,h2,q=>Xj h (self:=Lp K f) (fun n d j a b=>Rj h f n d j b (by omega)) n d h2 q
end Go.Proofs.YtjbfcadeapphbaaGreatDoor.Sx
