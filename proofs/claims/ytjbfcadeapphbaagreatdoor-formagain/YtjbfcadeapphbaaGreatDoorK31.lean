/- The reference: lists of pairs. -/
import Derived.Test.YtjbfcadeapphbaaGreatDoorK30
import Derived.Deep.AppendLies
import Derived.Deep.LoopGhost
namespace Go.Proofs.YtjbfcadeapphbaaGreatDoor.Sx
open Go.RowKit Go.Sort
theorem Iv.grew {w w':World}{bt sb:Nat}{tx:ByteArray}{a:Int}(h:Iv w bt sb tx a)(g:Ag w w'):Iv w' bt sb tx a:=(g.below.block bt (Ab h)).trans h
theorem Iv.fr {w w':World}{bt sb br:Nat}{tx:ByteArray}{a:Int}(h:Iv w bt sb tx a)(g:Fr (·≠br) w w')(hb:bt≠br):Iv w' bt sb tx a:=(g.block bt (Ab h) hb).trans h
def iM:List UInt8:=[118,97,108,117,101]
def kF:List UInt8:=[110,97,109,101]
def iN:List UInt8:=[112,114,105,109,101]
def kG:List UInt8:=[99,97,108,108]
def iO:List UInt8:=[102,117,110,32,105,110]
def iP:List (List UInt8):=[[97,108,108],[115,111,109,101],[99,104,111,111,115,101]]
def dX (k n:Int)(tx:List UInt8)(x:PX):Prop :=
 (k=0/\x=Ct [110,105,108])\/(k=1/\n=1/\x=Ct [116,114,117,101])\/(k=1/\n=0/\x=Ct [102,97,108,115,101]) \/
 (k=2/\-9223372036854775808<=n/\n<=9223372036854775807/\x=Ct (Lib.itoa n))\/(k=3/\x=Ee tx)
def dY (op nm:List UInt8)(k n:Int)(tx:List UInt8)(kids:List PX)(x:PX):Prop :=
 (op=iM/\dX k n tx x)\/(op=kF/\x=Ct nm)\/(op=iN/\x=Ct (nm++[39]))\/(op=kG/\x=Ed nm kids)\/(op∈Cz/\x=Ed nm kids) \/
 (op=dG/\x=Kt kids)\/(op=dH/\x=Jq kids)\/(op=Uu/\x=Kl kids)\/(op=Cd/\x=Gm 12 op nm)\/(op=C8/\x=Gm 6 op nm) \/
 (op=wIf/\∃a b c,kids=[a,b,c]/\x=dIf a b c)\/(op=Qj/\∃a b,kids=[a,b]/\x=L7 nm a b)\/((op∈iP\/op∈Cp)/\∃a b,kids=[a,b]/\x=Ds op nm a b)\/(op=iO/\∃a b,kids=[a,b]/\x=Ds Uu nm a b) \/
 (op=Xc/\∃a,kids=[a]/\x=Em 12 Ks a)\/(op∈Hf/\∃a,kids=[a]/\x=Em 6 op a)\/(op∈Gr/\∃a,kids=[a]/\x=Em 12 op a) \/
 (op=oAt/\∃f k,kids=[f,k]/\x=dAt f k)\/(op=Xb/\∃f k v,kids=[f,k,v]/\x=Ht f k v)\/(op∈Eu.map Prod.fst/\∃a b,kids=[a,b]/\x=I0 op a b)
def Hg (w:World)(b:Nat)(op:ByteArray)(a:Int)(nm:ByteArray)(k n:Int)(tx:ByteArray)(pa:Option Addr)(len cap:Nat):Prop :=
 w.heap[b]?=some (.cells #[.string op,.int .i64 a,.string nm,.int .i64 k,.int .i64 n,.string tx,.slice none 0 0,.slice none 0 0,.slice pa len cap,.int .i64 0,.int .i64 0] 95 (0,0))
theorem Hg.of {w w':World}{b:Nat}{op nm tx:ByteArray}{a k n:Int}{pa:Option Addr}{len cap:Nat}(h:Hg w b op a nm k n tx pa len cap){P:Nat->Prop}(f:Fr P w w')(hp:P b):Hg w' b op a nm k n tx pa len cap:=(f.block b (Ab h) hp).trans h
theorem Hg.op {w:World}{b:Nat}{op nm tx:ByteArray}{a k n:Int}{pa:Option Addr}{len cap:Nat}(h:Hg w b op a nm k n tx pa len cap)(s:ByteArray):Hg (w.setCell ⟨b,0,none⟩ (.string s)) b s a nm k n tx pa len cap:=by
 have:=Ah h 0 (.string s);simpa [Hg] using this
theorem Hg.name {w:World}{b:Nat}{op nm tx:ByteArray}{a k n:Int}{pa:Option Addr}{len cap:Nat}(h:Hg w b op a nm k n tx pa len cap)(s:ByteArray):Hg (w.setCell ⟨b,2,none⟩ (.string s)) b op a s k n tx pa len cap:=by
 have:=Ah h 2 (.string s);simpa [Hg] using this
theorem Hg.kids {w:World}{b:Nat}{op nm tx:ByteArray}{a k n:Int}{pa:Option Addr}{len cap:Nat}(h:Hg w b op a nm k n tx pa len cap)(q:Option Addr)(l c:Nat):Hg (w.setCell ⟨b,8,none⟩ (.slice q l c)) b op a nm k n tx q l c:=by
 have:=Ah h 8 (.slice q l c);simpa [Hg] using this
section
variable (P:Nat->Prop) (w:World)
def gT (R:PX->Value->Prop)(x:PX)(v:Value):Prop :=
 ∃(b:Nat)(op nm tx:ByteArray)(a k n:Int)(pa:Option Addr)(len cap:Nat)(kids:List PX),
  v=.pointer (some ⟨b,0,none⟩)/\P b/\Hg w b op a nm k n tx pa len cap/\Ca P w R pa len kids/\dY op.data.toList nm.data.toList k n tx.data.toList kids x
def H4:Nat->PX->Value->Prop
 | 0,_,_=>False
 | n+1,x,v=>gT P w (H4 n) x v
def Gt (x:PX)(v:Value):Prop:=∃n,H4 P w n x v
end
theorem H4.up {P:Nat->Prop}{w:World}:∀(n m:Nat),n<=m->∀x v,H4 P w n x v->H4 P w m x v
 | 0,_,_,_,_,h=>absurd h id
 | n+1,0,hm,_,_,_=>absurd hm (by omega)
 | n+1,m+1,hm,x,v,h=>by
  obtain⟨b,op,nm,tx,a,k,i,pa,len,cap,kids,h1,h2,h3,h4,h5⟩:=h;exact⟨b,op,nm,tx,a,k,i,pa,len,cap,kids,h1,h2,h3,h4.mono (H4.up n m (by omega)),h5⟩
theorem H4.fr {P Q:Nat->Prop}{w w':World}(hf:Fr P w w')(hQ:∀k,k<w.heap.size->P k->Q k):∀(n:Nat) x v,H4 P w n x v->H4 Q w' n x v
 | 0,_,_,h=>absurd h id
 | n+1,x,v,h=>by
  obtain⟨b,op,nm,tx,a,k,i,pa,len,cap,kids,h1,h2,h3,h4,h5⟩:=h;exact⟨b,op,nm,tx,a,k,i,pa,len,cap,kids,h1,hQ b (Ab h3) h2,(hf.block b (Ab h3) h2).trans h3,Ca.fr hf (H4.fr hf hQ n) hQ h4,h5⟩
theorem Gt.fr {P Q:Nat->Prop}{w w':World}(hf:Fr P w w')(hQ:∀k,k<w.heap.size->P k->Q k){x:PX}{v:Value}(h:Gt P w x v):Gt Q w' x v:=by
 obtain⟨n,h⟩:=h;exact⟨n,H4.fr hf hQ n x v h⟩
theorem Gt.node {P:Nat->Prop}{w:World}{x:PX}{v:Value}(h:gT P w (Gt P w) x v):Gt P w x v:=by
 obtain⟨b,M,L,N,a,k,i,z,f,r,c,D,E,F,⟨A,B,p⟩,G⟩:=h;have s:∃n,Ca P w (H4 P w n) z f c:=by
  rcases p with p|⟨g,j,e,H,J,p⟩
  ·exact⟨0,A,B,.inl p⟩
  ·have:∀(l:List PX)(o:Nat),(∀i x,l[i]?=some x->∃v,w.cell? ⟨g,o+i,none⟩=some v/\Gt P w x v)->∃n,∀i x,l[i]?=some x->∃v,w.cell? ⟨g,o+i,none⟩=some v/\H4 P w n x v:=by
    intro l
    induction l with
    | nil=>intro o _;exact⟨0,fun i x q=>by simp at q⟩
    | cons y l ih =>
     intro o t;obtain⟨O,C,m,I⟩:=t 0 y rfl;obtain⟨n,d⟩:=ih (o+1) fun i x q=>by
      have:=t (i+1) x (by simpa using q);rw[show o+(i+1)=o+1+i from by omega] at this;exact this
     refine⟨max m n,fun i x q=>?_⟩;cases i with
     | zero=>simp at q;subst q;exact⟨O,C,H4.up m _ (by omega) _ _ I⟩
     | succ i =>
      obtain⟨v,u,K⟩:=d i x (by simpa using q);rw[show o+1+i=o+(i+1) from by omega] at u;exact⟨v,u,H4.up n _ (by omega) _ _ K⟩
   obtain⟨n,d⟩:=this c j p;exact⟨n,A,B,.inr ⟨g,j,e,H,J,d⟩⟩
 obtain⟨n,d⟩:=s;exact⟨n+1,b,M,L,N,a,k,i,z,f,r,c,D,E,F,d,G⟩
def RSd (K:Nat->Tk)(N:Nat)(w:World)(br bl:Nat)(s:SX)(d:Nat):Prop:=∃dd:Int,RS K N w br bl s dd/\(OkS s->dd=(d:Int))
theorem RSd.fr {K:Nat->Tk}{N br bl:Nat}{w w':World}{s:SX}{d:Nat}{P:Nat->Prop}(h:RSd K N w br bl s d)(f:Fr P w w')(h1:P br)(h2:P bl):RSd K N w' br bl s d:=by
 obtain⟨a,h,e⟩:=h;exact⟨a,h.of f h1 h2,e⟩
theorem RSd.grew {K:Nat->Tk}{N br bl:Nat}{w w':World}{s:SX}{d:Nat}(h:RSd K N w br bl s d)(g:Ag w w'):RSd K N w' br bl s d:=h.fr (P:=fun _=>True) (Fr.grew g) trivial trivial
theorem RSd.lt {K:Nat->Tk}{N br bl:Nat}{w:World}{s:SX}{d:Nat}(h:RSd K N w br bl s d):br<w.heap.size:=by
 obtain⟨a,h,-⟩:=h;exact h.lt
theorem RSd.row {K:Nat->Tk}{N br bl:Nat}{w:World}{s:SX}{d:Nat}(h:RSd K N w br bl s d):bl<w.heap.size/\bl≠br:=by
 obtain⟨f,⟨c,I,b,i,g,a,e,j⟩,-⟩:=h;exact⟨e.1,a⟩
def Zj (K:Nat->Tk)(N:Nat)(w:World)(br bl d:Nat)(r:Except (Nat×Nat) (PX×Nat))(e:Ending)(w':World):Prop :=
 Fr (·≠br) w w'/\RSd K N w' br bl (stX r) d/\∃b,e=.returned (.pointer (some ⟨b,0,none⟩))/\∀x j,r=.ok (x,j)->Gt (fun k=>w.heap.size<=k) w' x (.pointer (some ⟨b,0,none⟩))
theorem dZ {w w':World}{base:Nat}{sl:Value}{n:Nat}{vs:List Value}(h:w.ownsRow base 26 1 sl n vs)(hb:∀g,sl.ownBlock=some g->base<=g->g<w.heap.size->w'.heap[g]?=w.heap[g]?):w'.ownsRow base 26 1 sl n vs:=by
 refine⟨h.1,?_⟩;rcases h.2 with f|⟨g,a,b,e,c,d,r⟩
 ·exact .inl f
 ·exact .inr ⟨g,a,b,e,c,(hb g (by rw[e];rfl) c (Ab d)).trans d,r⟩
def LTS (w:World)(lo:Nat)(sl:Value)(n:Nat)(es:List PX)(c:Prop):Prop :=
 ∃vs,w.ownsRow lo 26 1 sl n vs/\(c->n=es.length/\∀(i:Nat)(x:PX),es[i]?=some x->∃v,vs[i]?=some v/\Gt (fun k=>lo<=k/\sl.ownBlock≠some k) w x v)
theorem LTS.nil (w:World)(lo:Nat)(c:Prop):LTS w lo (.slice none 0 0) 0 [] c:=⟨[],World.ownsRow_nil _ _ _ _,fun _=>⟨rfl,fun i x q=>by simp at q⟩⟩
theorem LTS.fr {w w':World}{lo br n:Nat}{sl:Value}{es:List PX}{c c':Prop}(h:LTS w lo sl n es c)(hc:c'->c)(f:Fr (·≠br) w w')(hbr:br<lo):LTS w' lo sl n es c':=by
 obtain⟨m,a,b⟩:=h;refine⟨m,dZ a (fun g _ hg hlt=>f.block g hlt (by omega)),fun q=>?_⟩;obtain⟨d,e⟩:=b (hc q);refine⟨d,fun i x q=>?_⟩;obtain⟨v,l,j⟩:=e i x q;exact⟨v,l,j.fr (f.mono fun k hk=>by have:=hk.1;omega) fun _ _ q=>q⟩
theorem LTS.slice {w:World}{lo n:Nat}{sl:Value}{es:List PX}{c:Prop}(h:LTS w lo sl n es c):∃a cap,sl=.slice a n cap:=by
 obtain⟨f,d,-⟩:=h;rcases d.2 with⟨rfl,e⟩|⟨g,cap,b,rfl,-⟩
 ·exact⟨none,0,by rw[e]⟩
 ·exact⟨_,cap,rfl⟩
theorem LTS.row {w:World}{lo n cap:Nat}{a:Option Addr}{es:List PX}{c:Prop}(h:LTS w lo (.slice a n cap) n es c)(hl:n<=4294967296)(hc:c):Ca (fun k=>lo<=k) w (Gt (fun k=>lo<=k) w) a n es:=by
 obtain⟨A,m,o⟩:=h;obtain⟨f,p⟩:=o hc;rcases m.2 with⟨e,u⟩|⟨g,d,l,e,t,j,s,_,z,y⟩
 ·exact⟨f,hl,.inl u⟩
 ·injection e with e1 e2 e3
  subst e1;refine⟨f,hl,.inr ⟨g,0,rfl,Ab j,t,fun i x q=>?_⟩⟩;obtain⟨v,b,r⟩:=p i x q;refine⟨v,?_,r.fr (Fr.refl _ _) fun _ _ q=>q.1⟩;rw[Nat.zero_add,Aa j];rw[<- y,List.getElem?_take] at b;split at b
  ·simpa using b
  ·simp at b
theorem LTS.push {w1 w2:World}{lo lx g cap n b:Nat}{es:List PX}{sl:Value}{vs:List Value}{x:PX}{c c':Prop}{o:Obj}(hc:c'->c)
  (h1:w1.ownsRow lo 26 1 sl n vs) (h2:c->n=es.length/\∀(i:Nat)(x:PX),es[i]?=some x->∃v,vs[i]?=some v/\Gt (fun k=>lo<=k/\sl.ownBlock≠some k) w1 x v)
  (hx:c'->Gt (fun k=>lx<=k) w1 x (.pointer (some ⟨b,0,none⟩))) (hlx:lo<=lx) (hsl:∀q,sl.ownBlock=some q->q<lx)
  (ho:w2.ownsRow lo 26 1 (.slice (some ⟨g,0,none⟩) (n+1) cap) (n+1) (vs++[.pointer (some ⟨b,0,none⟩)])) (hg:(w1.alloc o).grownBy w2 sl.ownBlock) (hat:sl.ownBlock=some g\/g=w1.heap.size+1) :
  LTS w2 lo (.slice (some ⟨g,0,none⟩) (n+1) cap) (n+1) (es++[x]) c'/\Fr (fun k=>sl.ownBlock≠some k) w1 w2:=by
 have d:=World.grownBy_alloc w1 o sl.ownBlock;have j:Fr (fun k=>sl.ownBlock≠some k) w1 w2:=⟨hg.os.trans d.os,hg.tape.trans d.tape,hg.output.trans d.output,Nat.le_trans d.size hg.size,fun k hk hp=>(hg.block k (Nat.lt_of_lt_of_le hk d.size) (fun e=>hp e.symm)).trans (d.block k hk (fun e=>hp e.symm))⟩;refine⟨⟨_,ho,fun q=>?_⟩,j⟩;obtain⟨l,m⟩:=h2 (hc q);have h:vs.length=es.length:=by have:=h1.1;omega
 have a:∀(z:PX)(t:Value),Gt (fun k=>lo<=k/\sl.ownBlock≠some k) w1 z t->Gt (fun k=>lo<=k/\(Value.slice (some ⟨g,0,none⟩) (n+1) cap).ownBlock≠some k) w2 z t:=by
  intro z t u;refine u.fr (j.mono fun _ q=>q.2) fun k hk hp=>⟨hp.1,fun e=>?_⟩;simp only[Value.ownBlock,Option.some.injEq] at e;subst e;rcases hat with q|q
  ·exact hp.2 q
  ·omega
 refine⟨by rw[List.length_append,l];rfl,fun i y qy=>?_⟩;by_cases r:i<es.length
 ·rw[List.getElem?_append_left r] at qy;obtain⟨w,s,p⟩:=m i y qy;exact⟨w,by rw[List.getElem?_append_left (by omega)];exact s,a _ _ p⟩
 ·have f:i=es.length:=by
   have:=(List.getElem?_eq_some_iff.1 qy).1;simp at this;omega
  subst f;rw[List.getElem?_append_right (Nat.le_refl _)] at qy;simp at qy;subst qy;exact⟨_,by rw[List.getElem?_append_right (by omega)];simp[h],a _ _ ((hx q).fr (Fr.refl _ _) fun k _ hk=>⟨by omega,fun e=>by have:=hsl k e;omega⟩)⟩
theorem RSd.err {K:Nat->Tk}{N br bl:Nat}{w:World}{s:SX}{d:Nat}(h:RSd K N w br bl s d):w.cell? ⟨br,3,none⟩=some (.int .i64 (ec s))/\∀c p,s=.error (c,p)->((c:Int)==0)=false:=by
 obtain⟨g,h,-⟩:=h;have f:=h.fault;obtain⟨b,I,a,e,-⟩:=h;exact⟨Aa e 3,f⟩
theorem LTS.congr {w:World}{lo n:Nat}{sl:Value}{es es':List PX}{c:Prop}(h:LTS w lo sl n es c)(e:c->es=es'):LTS w lo sl n es' c:=by
 obtain⟨d,a,b⟩:=h;exact⟨d,a,fun q=>by rw[<- e q];exact b q⟩
end Go.Proofs.YtjbfcadeapphbaaGreatDoor.Sx
