/- Plain: what is read is well formed, and its text is not long. Nothing of the program. -/
import Derived.Test.YtdpeliifdlhhkaaGreatDoorM05
import Derived.Test.YtdpeliifdlhhkaaGreatDoorM03
import Derived.Test.YtdpeliifdlhhkaaGreatDoorM01
import Derived.Lib.ItoaLen
import Derived.Lib.ParseIntBTie
import Derived.Test.YtdpeliifdlhhkaaGreatDoorM08
import Derived.Test.YtdpeliifdlhhkaaGreatDoorM09
namespace Go.Proofs.YtdpeliifdlhhkaaGreatDoor.Sx
open Go.RowKit Go.Sort Tryz
theorem Vz (l:List UInt8):l.take (A5 l)=l.takeWhile C9 :=
 (List.prefix_iff_eq_take.1 (List.takeWhile_prefix C9)).symm
theorem Pu (p:UInt8->Bool):∀l:List UInt8,∀c∈l.takeWhile p,p c=true
 | [],c,h=>by simp at h
 | a::l,c,h=>by
  rw[List.takeWhile_cons] at h;split at h
  ·rcases List.mem_cons.1 h with rfl|h
   ·assumption
   ·exact Pu p l c h
  ·simp at h
theorem dF (l:List UInt8):(Po l).1=2\/(Po l).1=5:=by
 unfold Po;split
 ·exact .inr rfl
 ·exact Ji _
theorem Za (l:List UInt8):(Kz l).1=4\/(Kz l).1=5:=by
 unfold Kz;repeat' split
 all_goals simp
theorem dG:∀(l:List UInt8)(i:Nat),(Ci l i).1=3->∃k,(Ci l i).2=i+k+1/\k<l.length/\∀c∈l.take k,Le c=true
 | [],i,h=>by simp[Ci] at h
 | c::r,i,h=>by
  simp only[Ci] at h |-;split at h
  ·rename_i q;rw[if_pos q];exact⟨0,rfl,by simp,by simp⟩
  ·rename_i q
   rw[if_neg q];split at h
   ·rename_i q2
    rw[if_pos q2];obtain⟨k,h1,h2,h3⟩:=dG r (i+1) h;refine⟨k+1,by omega,by simpa using h2,?_⟩;intro d hd;simp only[List.take_succ_cons,List.mem_cons] at hd;rcases hd with rfl|hd
    ·exact q2
    ·exact h3 d hd
   ·simp at h
theorem rE (l:List UInt8)(h:(Fa l).1=1):(∃c r,l.take (Fa l).2=c::r/\C8 c=true)/\∀c∈l.take (Fa l).2,C9 c=true:=by
 unfold Fa at h |-;split at h
 ·simp at h
 ·rename_i h0
  rw[if_neg h0];split at h
  ·rename_i h1
   rw[if_pos h1];simp only[Vz];refine⟨?_,Pu C9 l⟩;cases l with
   | nil=>simp at h0
   | cons c r =>
    have e:Ap (c::r) 0=c:=rfl;rw[e] at h1;refine⟨c,r.takeWhile C9,?_,h1⟩;rw[List.takeWhile_cons,if_pos (by simp[C9,h1])]
  ·exfalso;split at h
   ·have:=Ji l;omega
   ·split at h
    ·have:=dF l;omega
    ·split at h
     ·have:=J5 (l.drop 1) 1;omega
     ·have:=Za l;omega
theorem nG (l:List UInt8)(h:(Fa l).1=3):∀c∈((l.take (Fa l).2).take ((l.take (Fa l).2).length-1)).drop 1,Le c=true:=by
 unfold Fa at h |-;split at h
 ·simp at h
 ·rename_i h0
  rw[if_neg h0];split at h
  ·simp at h
  ·rename_i h1
   rw[if_neg h1];split at h
   ·exfalso;have:=Ji l;omega
   ·rename_i h2
    rw[if_neg h2];split at h
    ·exfalso;have:=dF l;omega
    ·rename_i h3
     rw[if_neg h3];split at h
     ·rename_i h4
      rw[if_pos h4];obtain⟨k,a,b,d⟩:=dG (l.drop 1) 1 h;rw[a];simp only[List.length_drop] at b;have e:(l.take (1+k+1)).length=k+2:=by simp;omega
      rw[e,List.take_take,Nat.min_eq_left (by omega),List.drop_take];exact fun c hc=>d c (by simpa using hc)
     ·exfalso;have:=Za l;omega
def yW (T:List UInt8)(s:St):Prop :=
 (s.cl=1->(∃c r,Bh T s=c::r/\C8 c=true)/\∀c∈Bh T s,C9 c=true) /\
 (s.cl=3->∀c∈((Bh T s).take ((Bh T s).length-1)).drop 1,Le c=true)
theorem nH (T:List UInt8)(s:St):∃l,Bh T (Cb T s)=l.take (Fa l).2/\(Cb T s).cl=(Fa l).1:=by
 refine⟨T.drop (s.en+Dg (T.drop s.en)),?_,rfl⟩;simp only[Bh,Cb];rw[List.drop_take]
 congr 1
 omega
theorem Lr (T:List UInt8)(s:St):yW T (Cb T s):=by
 obtain⟨l,a,b⟩:=nH T s;unfold yW;rw[a,b];exact⟨rE l,nG l⟩
def N5 {β:Type}(T:List UInt8)(Q:β->Prop)(item:St->Except (Nat×Nat) (β×St)):Prop:=∀s x s',yW T s->item s=.ok (x,s')->Q x
theorem aO {β:Type}{T closing:List UInt8}{Q:β->Prop}{item:St->Except (Nat×Nat) (β×St)}(H:N5 T Q item):∀f,N5 T (fun l=>∀x∈l,Q x) (Cl T closing item f)
 | 0,s,l,s',_,h=>by simp[Cl] at h
 | f+1,s,l,s',ht,h=>by
  simp only[Cl] at h;cases hi:item s with
  | error e=>rw[hi] at h;simp at h
  | ok q =>
   obtain⟨x,s1⟩:=q;rw[hi] at h;have hx:=H s x s1 ht hi;simp only at h;split at h
   ·simp only[Except.ok.injEq,Prod.mk.injEq] at h;obtain⟨rfl,_⟩:=h;simpa using hx
   ·split at h
    ·cases hl:Cl T closing item f (Cb T s1) with
     | error e=>rw[hl] at h;simp at h
     | ok q =>
      obtain⟨l2,s2⟩:=q;rw[hl] at h;simp only[Except.ok.injEq,Prod.mk.injEq] at h;obtain⟨rfl,_⟩:=h;have:=aO H f _ _ _ (Lr T s1) hl;intro y hy;rcases List.mem_cons.1 hy with rfl|hy
      ·exact hx
      ·exact this y hy
    ·simp at h
theorem Zb {β:Type}{T closing:List UInt8}{Q:β->Prop}{item:St->Except (Nat×Nat) (β×St)}(H:N5 T Q item):N5 T (fun l=>∀x∈l,Q x) (Cy T closing item):=by
 intro s l b a h;unfold Cy at h;split at h
 ·simp only[Except.ok.injEq,Prod.mk.injEq] at h;obtain⟨rfl,_⟩:=h;simp
 ·exact aO H _ s l b a h
theorem vP {β:Type}{T:List UInt8}{Q:β->Prop}{item:St->Except (Nat×Nat) (β×St)}(H:N5 T Q item):N5 T (fun p=>Q p.1/\Q p.2) (Gg T item):=by
 intro s p f d h;unfold Gg at h;cases a:item s with
 | error e=>rw[a] at h;simp at h
 | ok q =>
  obtain⟨x,c⟩:=q;rw[a] at h;simp only at h;split at h
  ·cases b:item (Cb T c) with
   | error e=>rw[b] at h;simp at h
   | ok q =>
    obtain⟨y,g⟩:=q;rw[b] at h;simp only[Except.ok.injEq,Prod.mk.injEq] at h;obtain⟨rfl,_⟩:=h;exact⟨H _ _ _ d a,H _ _ _ (Lr T c) b⟩
  ·simp at h
def ll:List (List UInt8)->Nat
 | []=>0
 | a::l=>a.length+2+ll l
theorem rF (cl:List UInt8):∀l,(jT cl l).length=cl.length+ll l
 | []=>rfl
 | a::l=>by simp[jT,ll,rF cl l];omega
theorem rG (cl:List UInt8)(l:List (List UInt8)):(jL cl l).length<=cl.length+ll l:=by
 cases l with
 | nil=>simp[jL,ll]
 | cons a l=>simp[jL,ll,rF];omega
theorem rH:∀ks us,(jQ ks us).length<=1+ll ks+ll us
 | [],us=>by simp[jQ,ll]
 | _::_,[]=>by simp[jQ,ll]
 | k::ks,u::us=>by have:=rH ks us;simp[jQ,ll];omega
theorem yX (ks us:List (List UInt8)):(jP ks us).length<=1+ll ks+ll us:=by
 cases ks with
 | nil=>simp[jP,ll]
 | cons k ks =>
  cases us with
  | nil=>simp[jP,ll]
  | cons u us=>have:=rH ks us;simp[jP,ll];omega
theorem aP {α:Type}(s:α->List UInt8)(wta:α->Nat):∀l:List α,(∀x∈l,(s x).length+4<=5000*wta x)->ll (l.map s)<=5000*wtL wta l
 | [],_=>by simp[ll]
 | a::l,h=>by
  have h1:=h a (by simp);have h2:=aP s wta l (fun x hx=>h x (by simp[hx]));rw[Fo];simp only[List.map_cons,ll];omega
def Li (n:Nat)(a:AV n):Prop:=WF n a/\(sh n a).length+4<=5000*wt n a
theorem V6 (n:Nat):Li (n+1) (Ar:Ag (AV n)):=⟨.inl rfl,by show 3+4<=5000*1;omega⟩
theorem nI (n:Nat)(b:Bool):Li (n+1) (Bj b:Ag (AV n)):=by
 refine⟨.inr (.inl ⟨b,rfl⟩),?_⟩;show(shN (sh n) (Au n) (Bj b)).length+4<=5000*1;rw[kX];cases b<;>decide
theorem dH (n:Nat)(i:Int)(h0:-9223372036854775808<=i)(h1:i<=9223372036854775807):Li (n+1) (Cu i:Ag (AV n)):=by
 refine⟨.inr (.inr (.inl ⟨i,rfl,h0,h1⟩)),?_⟩;have:=Lib.itoa_length_le i h0 h1;show(Lib.itoa i).length+4<=5000*1;omega
theorem nJ (n:Nat)(l:List UInt8)(h:∀c∈l,Le c=true)(hl:l.length<=4000):Li (n+1) (Dm l:Ag (AV n)):=by
 refine⟨.inr (.inr (.inr (.inl ⟨l,rfl,h⟩))),?_⟩;have e:(shN (sh n) (Au n) (Dm l)).length=l.length+2:=by rw[uU];simp
 show(shN (sh n) (Au n) (Dm l)).length+4<=5000*1;omega
theorem nK (n:Nat)(l:List UInt8)(h:gF l):Li (n+1) (D9 l:Ag (AV n)):=by
 refine⟨.inr (.inr (.inr (.inr (.inl ⟨l,rfl,h⟩)))),?_⟩;have:=h.len;show l.length+4<=5000*1;omega
theorem rI (n:Nat)(es:List (AV n))(h:∀x∈es,Li n x)(ha:Asc (Al n) es):Li (n+1) (mkS (wt n) es:Ag (AV n)):=by
 unfold mkS;split
 ·rename_i hw
  refine⟨.inr (.inr (.inr (.inr (.inr (.inl ⟨es,rfl,fun x hx=>(h x hx).1,ha,hw⟩))))),?_⟩;have a:=rG [125] (es.map (sh n));have b:=aP (sh n) (wt n) es (fun x hx=>(h x hx).2);show(jL [125] (es.map (sh n))).length+1+4<=5000*(1+wtL (wt n) es);simp at a;omega
 ·exact V6 n
theorem vQ (n:Nat)(ks us:List (AV n))(hk:∀x∈ks,Li n x)(hu:∀x∈us,Li n x)(ha:Asc (Al n) ks)(hl:ks.length=us.length):Li (n+1) (mkF (wt n) ks us:Ag (AV n)):=by
 unfold mkF;split
 ·rename_i hw
  refine⟨.inr (.inr (.inr (.inr (.inr (.inr ⟨ks,us,rfl,fun x hx=>(hk x hx).1,fun x hx=>(hu x hx).1,ha,hl,hw⟩))))),?_⟩;show(shN (sh n) (Au n) (Dd ks us)).length+4<=5000*(1+wtL (wt n) ks+wtL (wt n) us);have c:=aP (sh n) (wt n) ks (fun x hx=>(hk x hx).2);have d:=aP (sh n) (wt n) us (fun x hx=>(hu x hx).2);cases b:A7 (Au n) ks with
  | true =>
   rw[gG _ _ ks us b];have a:=rG [62,62] (us.map (sh n));simp at a |-;omega
  | false =>
   rw[qA _ _ ks us (by simp[b])];have a:=yX (ks.map (sh n)) (us.map (sh n));simp at a |-;omega
 ·exact V6 n
theorem Zc (m:Nat)(i j:Int)(h:i<j):Al (m+1) (Yg m i) (Yg m j)<0:=by
 show A4 (Lib.compareInt 2 2) (A4 (Lib.compareInt i j) _)<0;have a:Lib.compareInt 2 2=0:=by decide
 have b:Lib.compareInt i j=-1:=by unfold Lib.compareInt;rw[if_pos h]
 rw[a,b];simp[A4]
theorem N6 (m len:Nat):Asc (Al (m+1)) (Aq m len):=by
 unfold Asc Aq;rw[List.pairwise_map];exact List.Pairwise.imp (fun h=>Zc m _ _ (by omega)) List.pairwise_lt_range
theorem aQ (m len:Nat)(h:len<=4294967296):∀x∈Aq m len,Li (m+1) x:=by
 intro x b;obtain⟨i,a,rfl⟩:=List.mem_map.1 b;have:=List.mem_range.1 a;exact dH m _ (by omega) (by omega)
theorem Zd {α:Type}(c:α->α->Int)(x:α×α):∀l:List (α×α),insP c x l=Ny (fun a b=>c a.1 b.1) x l
 | []=>rfl
 | y::l=>by simp only[insP,Ny,Zd c x l]
theorem K4 {α:Type}(c:α->α->Int)(l:List (α×α)):Dp c l=Ie (fun a b=>c a.1 b.1) l:=by
 induction l with
 | nil=>rfl
 | cons x l ih =>
  show insP c x (Dp c l)=Ny _ x (Ie _ l);rw[ih,Zd]
theorem nL (T:List UInt8)(s:St):(Bh T s).length<=T.length:=by
 unfold Bh;simp;omega
theorem V7 {β:Type}{T closing:List UInt8}{item:St->Except (Nat×Nat) (β×St)}:∀(f:Nat)(s s':St)(l:List β),Cl T closing item f s=.ok (l,s')->l.length<=f
 | 0,s,s',l,h=>by simp[Cl] at h
 | f+1,s,s',l,h=>by
  simp only[Cl] at h;cases hi:item s with
  | error e=>rw[hi] at h;simp at h
  | ok q =>
   obtain⟨x,s1⟩:=q;rw[hi] at h;simp only at h;split at h
   ·simp only[Except.ok.injEq,Prod.mk.injEq] at h;obtain⟨rfl,_⟩:=h;simp
   ·split at h
    ·cases hl:Cl T closing item f (Cb T s1) with
     | error e=>rw[hl] at h;simp at h
     | ok q =>
      obtain⟨l2,s2⟩:=q;rw[hl] at h;simp only[Except.ok.injEq,Prod.mk.injEq] at h;obtain⟨rfl,_⟩:=h;have:=V7 f _ _ _ hl;simp;omega
    ·simp at h
theorem aR {β:Type}{T closing:List UInt8}{item:St->Except (Nat×Nat) (β×St)}{s s':St}{l:List β}(h:Cy T closing item s=.ok (l,s')):l.length<=T.length+1:=by
 unfold Cy at h;split at h
 ·simp only[Except.ok.injEq,Prod.mk.injEq] at h;obtain⟨rfl,_⟩:=h;simp
 ·exact V7 _ _ _ _ h
theorem Ml {ε α β:Type}{a x:α}{b y:β}(h:(Except.ok (a,b):Except ε (α×β))=.ok (x,y)):a=x:=by
 injection h with h
 exact congrArg Prod.fst h
/-- what the laws start from -/
structure Ju (w:World):Prop where
 env:hJ w
 tab : Lib.TabIs prog w "internal/strconv.uint64pow10" .u64 Lib.pow10Tab
theorem Ju.below {w w':World}(h:Ju w)(hb:Below w.heap.size w w'):Ju w':=⟨h.env.below hb,O5 hb (by have:=h.env.1;omega) h.tab⟩
structure Had (w:World)(x:AV 25)(v:Value):Prop where
 rep:Aj (fun _=>True) w 25 x v
 fine:Li 25 x
 wt:wt 25 x<=1024
theorem Had.below {w w':World}{x:AV 25}{v:Value}(h:Had w x v)(hb:Below w.heap.size w w'):Had w' x v:=⟨h.rep.keep (Fr.below hb),h.fine,h.wt⟩
def Kl (f:FuncId)(args:Array Value)(w:World)(r:Value):Prop:=Calls prog f args w fun e w'=>e=.returned r/\Below w.heap.size w w'
/-- what is kept of a value that was read and lies in a box -/
structure yY (w0 w:World)(k:Nat)(x:AV 25)(v:Value):Prop where
 box:w.heap[k]?=some (.cells #[v] 23 (0,0))
 had:Had w x v
theorem yY.below {w0 w w':World}{k:Nat}{x:AV 25}{v:Value}(h:yY w0 w k x v)(hb:Below w.heap.size w w'):yY w0 w' k x v:=⟨Ac1 hb h.box,h.had.below hb⟩
structure Now (w0 w:World):Prop where
 base:Ju w
 low:Below w0.heap.size w0 w
theorem Now.below {w0 w w':World}(h:Now w0 w)(hb:Below w.heap.size w w'):Now w0 w':=⟨h.base.below hb,h.low.trans (hb.mono h.low.size)⟩
theorem lG:Fa []=(0,0):=rfl
def Sgn (u:List UInt8):Prop:=u=[123]\/u=[125]\/u=[91]\/u=[93]\/u=[44]\/u=[58]\/u=[60,60]\/u=[62,62]
theorem rJ (u r:List UInt8)(h:Sgn u):Fa (u++r)=(4,u.length):=by
 rcases h with rfl|rfl|rfl|rfl|rfl|rfl|rfl|rfl
 all_goals rfl
def pos (T:List UInt8)(p:Nat)(hv:Bool):St:=Cb T ⟨0,p,0,hv⟩
theorem Q4 (T:List UInt8)(s:St):Cb T s=pos T s.en s.hv:=rfl
theorem N7 {α:Type}{c:α->α->Int}:∀(l:List α),Asc c l->Eo c l=l
 | [],_=>rfl
 | x::l,h=>by
  obtain⟨h1,h2⟩:=List.pairwise_cons.1 h;show Xp c x (Eo c l)=_;rw[N7 l h2];cases l with
  | nil=>rfl
  | cons y l=>simp only[Xp];rw[if_pos (h1 y (by simp))]
theorem V8 {α:Type}{c:α->α->Int}:∀(l:List (α×α)),Asc c (l.map Prod.fst)->Dp c l=l
 | [],_=>rfl
 | x::l,h=>by
  obtain⟨h1,h2⟩:=List.pairwise_cons.1 h;show insP c x (Dp c l)=_;rw[V8 l h2];cases l with
  | nil=>rfl
  | cons y l=>simp only[insP];rw[if_pos (h1 y.1 (by simp))]
theorem Ze {α:Type}(c:α->α->Int)(l:List (α×α)):∀p∈Dp c l,p∈l:=by
 intro z a;rw[K4] at a
 induction l with
 | nil=>simp[Ie] at a
 | cons x l ih =>
  rcases Nz x (Ie _ l) z a with q|q
  ·simp[q]
  ·exact List.mem_cons_of_mem _ (ih q)
theorem iE (n:Nat)(a:AV (n+1)):1<=wt (n+1) a:=by
 show 1<=wtN (wt n) a;unfold wtN
 repeat' split
 all_goals omega
end Go.Proofs.YtdpeliifdlhhkaaGreatDoor.Sx
