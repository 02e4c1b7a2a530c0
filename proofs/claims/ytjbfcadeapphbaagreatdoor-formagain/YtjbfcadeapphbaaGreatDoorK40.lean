/- The reference: a text is read as a module: its rows in memory. -/
import Derived.Test.YtjbfcadeapphbaaGreatDoorK35
import Derived.Test.YtjbfcadeapphbaaGreatDoorK36
import Derived.Test.YtjbfcadeapphbaaGreatDoorK39
import Derived.Test.YtjbfcadeapphbaaGreatDoorK04
namespace Go.Proofs.YtjbfcadeapphbaaGreatDoor.Sx
open Go.RowKit Go.Sort
def OxT (P:Nat->Prop)(w:World)(v:Value)(ox:Option PX):Prop:=match ox with|none=>v=.pointer none|some x=>Gt P w x v
def Pq (P:Nat->Prop)(w:World)(v:Value)(l:List UInt8):Prop :=
 ∃word name a mo y1 y2 y3 p n ms more ox,v=.agg #[.string word,.string name,.int .i64 a,mo,.slice y1 y2 y3,.pointer p]/\w.ownsRow 0 9 1 mo n ms/\(∀g,mo.ownBlock=some g->P g)/\n=more.length/\ms=more.map kI/\OxT P w (.pointer p) ox/\Ki word.data.toList name.data.toList more ox l
theorem gX.foot {lo:Nat}{w:World}{v:Value}{l:List UInt8}(h:gX lo w v l)(hs:∃s0 s1 a q1 q2 q3 p1 p2 p3 px,v=.agg #[.string s0,.string s1,.int .i64 a,.slice q1 q2 q3,.slice p1 p2 p3,.pointer px]):Pq (fun k=>lo<=k) w v l:=by
 obtain⟨d,c,a,r,x,px,n,s,b,t,i,j,m,o,p,q⟩:=h;obtain⟨s0,s1,u,q1,q2,q3,p1,p2,p3,f,e⟩:=hs;rw[i] at e;simp only[Value.agg.injEq,Array.mk.injEq,List.cons.injEq,and_true] at e;obtain⟨-,-,-,-,rfl,rfl⟩:=e;exact⟨d,c,a,r,p1,p2,p3,f,n,s,b,t,i,bF (Nat.zero_le _) j,fun g e=>(j.lt g e).1,m,o,p,q⟩
theorem Pq.fr {P Q:Nat->Prop}{w w':World}(hf:Fr P w w')(hQ:∀k,k<w.heap.size->P k->Q k){v:Value}{l:List UInt8}(h:Pq P w v l):Pq Q w' v l:=by
 obtain⟨d,c,a,t,y,z,A,p,n,u,b,m,o,f,i,q,r,j,s⟩:=h;refine⟨d,c,a,t,y,z,A,p,n,u,b,m,o,eD f (fun g e _ hlt=>hf.block g hlt (i g e)),fun g e=>hQ g (f.lt g e).2 (i g e),q,r,?_,s⟩;cases m with
 | none=>exact j
 | some x=>exact Gt.fr hf hQ j
def Jo (P:Nat->Prop)(w:World):List (List UInt8)->List Value->Prop
 | [],vs=>vs=[]
 | l::ls,vs=>∃c0 c1 c2 c3 c4 c5 vs',vs=c0::c1::c2::c3::c4::c5::vs'/\Pq P w (.agg #[c0,c1,c2,c3,c4,c5]) l/\Jo P w ls vs'
theorem Jo.fr {P Q:Nat->Prop}{w w':World}(hf:Fr P w w')(hQ:∀k,k<w.heap.size->P k->Q k):∀(ls:List (List UInt8))(vs:List Value),Jo P w ls vs->Jo Q w' ls vs
 | [],_,h=>h
 | _::ls,_,⟨c0,c1,c2,c3,c4,c5,vs',h1,h2,h3⟩=>⟨c0,c1,c2,c3,c4,c5,vs',h1,h2.fr hf hQ,Jo.fr hf hQ ls vs' h3⟩
theorem Jo.push {P:Nat->Prop}{w:World}{c0 c1 c2 c3 c4 c5:Value}{l:List UInt8}(hd:Pq P w (.agg #[c0,c1,c2,c3,c4,c5]) l):∀(ls:List (List UInt8))(vs:List Value),Jo P w ls vs->Jo P w (ls++[l]) (vs++[c0,c1,c2,c3,c4,c5])
 | [],vs,h=>by
  have h':vs=[]:=h;subst h';exact⟨c0,c1,c2,c3,c4,c5,[],rfl,hd,rfl⟩
 | _::ls,_,⟨d0,d1,d2,d3,d4,d5,vs',h1,h2,h3⟩=>⟨d0,d1,d2,d3,d4,d5,vs'++[c0,c1,c2,c3,c4,c5],by rw[h1];rfl,h2,Jo.push hd ls vs' h3⟩
theorem Jo.at {P:Nat->Prop}{w:World}:∀(ls:List (List UInt8))(vs:List Value),Jo P w ls vs->∀(i:Nat)(l:List UInt8),ls[i]?=some l->∃c0 c1 c2 c3 c4 c5,vs[i*6]?=some c0/\vs[i*6+1]?=some c1/\vs[i*6+2]?=some c2/\vs[i*6+3]?=some c3/\vs[i*6+4]?=some c4/\vs[i*6+5]?=some c5/\Pq P w (.agg #[c0,c1,c2,c3,c4,c5]) l
 | [],_,_,i,l,q=>by simp at q
 | _::ls,_,⟨c0,c1,c2,c3,c4,c5,vs',h1,h2,h3⟩,0,l,q=>by
  simp at q;subst q;subst h1;exact⟨c0,c1,c2,c3,c4,c5,rfl,rfl,rfl,rfl,rfl,rfl,h2⟩
 | _::ls,_,⟨c0,c1,c2,c3,c4,c5,vs',h1,h2,h3⟩,i+1,l,q=>by
  simp at q;subst h1;obtain⟨d0,d1,d2,d3,d4,d5,g0,g1,g2,g3,g4,g5,g6⟩:=Jo.at ls vs' h3 i l q;have e:(i+1)*6=i*6+6:=by omega
  refine⟨d0,d1,d2,d3,d4,d5,?_,?_,?_,?_,?_,?_,g6⟩<;>rw[e]<;>simpa using by assumption
def Xz (w:World)(b:Nat)(name:ByteArray)(sl:Value):Prop:=w.heap[b]?=some (.cells #[.string name,sl] 67 (0,0))
theorem Xz.of {w w':World}{b:Nat}{name:ByteArray}{sl:Value}(h:Xz w b name sl){P:Nat->Prop}(f:Fr P w w')(hp:P b):Xz w' b name sl:=(f.block b (Ab h) hp).trans h
theorem Xz.rows {w:World}{b:Nat}{name:ByteArray}{sl:Value}(h:Xz w b name sl)(v:Value):Xz (w.setCell ⟨b,1,none⟩ v) b name v:=by
 have:=Ah h 1 v;simpa [Xz] using this
end Go.Proofs.YtjbfcadeapphbaaGreatDoor.Sx
