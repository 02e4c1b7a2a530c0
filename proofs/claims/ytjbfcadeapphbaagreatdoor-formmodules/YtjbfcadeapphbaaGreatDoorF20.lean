/- The reference: lists of pairs. -/
import Derived.Test.YtjbfcadeapphbaaGreatDoorF07
import Derived.Test.YtjbfcadeapphbaaGreatDoorF05
import Derived.Deep.Cut
import Derived.Deep.AppendLies
import Derived.Deep.LoopGhost
namespace Go.Proofs.YtjbfcadeapphbaaGreatDoor.Sx
set_option maxRecDepth 100000
set_option maxHeartbeats 2000000
open Go.RowKit Go.Sort
abbrev SX:=Except (Nat×Nat) Nat
def Az {β:Type}(s:SX)(k:Nat->RX β):RX β:=match s with | .ok i=>k i | .error e=>some (.error e)
def stX {β:Type}(r:Except (Nat×Nat) (β×Nat)):SX:=match r with | .ok (_,j)=>.ok j | .error e=>.error e
def Ao {β:Type}(z:β)(r:Except (Nat×Nat) (β×Nat)):β:=match r with | .ok (x,_)=>x | .error _=>z
def OkS (s:SX):Prop:=∃i,s=.ok i
theorem A3 {β γ:Type}(z:β){s:SX}{f:Nat->RX β}{k:β->Nat->RX γ}{r:Except (Nat×Nat) (γ×Nat)}(h:Az s (fun j=>bX (f j) k)=some r) :
  ∃q,Az s f=some q/\Az (stX q) (fun j=>k (Ao z q) j)=some r:=by
 rcases s with e|i
 ·exact⟨.error e,rfl,h⟩
 ·rcases hq:f i with _|(e|⟨x,j⟩)
  ·simp[Az,hq,bX] at h
  ·exact⟨.error e,hq,by simpa [Az,hq,bX,stX] using h⟩
  ·exact⟨.ok (x,j),hq,by simpa [Az,hq,bX,stX,Ao] using h⟩
theorem Dw {β:Type}{s:SX}{f:Nat->RX β}{q:Except (Nat×Nat) (β×Nat)}(h:Az s f=some q)(ho:OkS (stX q)):OkS s:=by
 rcases s with e|i
 ·simp only[Az,Option.some.injEq] at h;obtain⟨i,a⟩:=ho;rw[<- h] at a;simp[stX] at a
 ·exact⟨i,rfl⟩
section
variable (K:Nat->Tk)
def isS (s:SX)(m:List UInt8):Bool:=match s with | .ok i=>(K i).tx==m | .error _=>false
def Hl (s:SX)(c p:Nat):SX:=match s with | .ok _=>.error (c,p) | .error q=>.error q
def ec (s:SX):Int:=match s with | .ok _=>0 | .error (c,_)=>(c:Int)
def Bn (c:Nat):Nat:=if c=0 then 101 else if c=1 then 119 else if c=2 then 48 else if c=3 then 34 else if c=4 then 111 else 120
def Cf (t:Tk):ByteArray:=if t.cl=5 then⟨#[]⟩ else⟨t.tx.toArray⟩
def Gr (N bl:Nat)(w:World):Prop:=bl<w.heap.size/\∀i,i<=N->w.cell? ⟨bl,i*3,none⟩=some (.int .u8 (Bn (K i).cl:Int))/\w.cell? ⟨bl,i*3+1,none⟩=some (.string (Cf (K i)))/\w.cell? ⟨bl,i*3+2,none⟩=some (.int .i64 ((K i).at':Int))
def G8 (w:World)(br bl N cap I:Nat)(d e bad:Int):Prop :=
 w.heap[br]?=some (.cells #[.slice (some ⟨bl,0,none⟩) (N+1) cap,.int .i64 (I:Int),.int .i64 d,.int .i64 e,.int .i64 bad] 52 (0,0))
def RS (N:Nat)(w:World)(br bl:Nat)(s:SX)(d:Int):Prop :=
 ∃(cap I:Nat)(bad:Int),G8 w br bl N cap I d (ec s) bad/\I<=N/\bl≠br/\Gr K N bl w/\(match s with | .ok i=>I=i | .error (c,p)=>c≠0/\bad=(p:Int))
end
theorem Gr.of {K:Nat->Tk}{N bl:Nat}{w w':World}{P:Nat->Prop}(h:Gr K N bl w)(f:Fr P w w')(hp:P bl):Gr K N bl w':=by
 refine⟨Nat.lt_of_lt_of_le h.1 f.size,fun i hi=>?_⟩;obtain⟨b,c,d⟩:=h.2 i hi;have a:=f.block bl h.1 hp;exact⟨(World.cell?_of_block (w:=w) a).trans b,(World.cell?_of_block (w:=w) a).trans c,(World.cell?_of_block (w:=w) a).trans d⟩
theorem RS.of {K:Nat->Tk}{N br bl:Nat}{w w':World}{s:SX}{d:Int}{P:Nat->Prop}(h:RS K N w br bl s d)(f:Fr P w w')(h1:P br)(h2:P bl):RS K N w' br bl s d:=by
 obtain⟨b,I,a,e,g,c,i,j⟩:=h;exact⟨b,I,a,(f.block br (Ac e) h1).trans e,g,c,i.of f h2,j⟩
theorem RS.lt {K:Nat->Tk}{N br bl:Nat}{w:World}{s:SX}{d:Int}(h:RS K N w br bl s d):br<w.heap.size:=by
 obtain⟨b,I,a,c,-⟩:=h;exact Ac c
theorem Ga (t:Tk)(h:t.cl≠5):(Cf t).data.toList=t.tx:=by unfold Cf;rw[if_neg h]
theorem jW {t:Tk}(h:Bs t){m:List UInt8}(hm:m∈Dp):((Cf t).data.toList==m&&((Bn t.cl==111)||(Bn t.cl==119)))=(t.tx==m):=by
 by_cases e:t.tx=m
 ·have a:=I9 h hm e;rw[Ga t (by omega),e];rcases a with a|a<;>rw[a]<;>simp[Bn]
 ·have b:(t.tx==m)=false:=by simpa using e
  rw[b];by_cases c:t.cl=5
  ·rw[c];simp[Bn]
  ·rw[Ga t c,b];rfl
theorem Ic {K:Nat->Tk}{N:Nat}(w:World)(br bl:Nat)(s:SX)(d:Int)(c p:Nat)(hc:c≠0)(h:RS K N w br bl s d) :
  Calls Tryz.prog 19 #[.pointer (some ⟨br,0,none⟩),.int .i64 (c:Int),.int .i64 (p:Int)] w fun e w'=>e=.returned (.tuple #[])/\RS K N w' br bl (Hl s c p) d/\Fr (·≠br) w w':=by
 have l:Hid (RS K N w br bl s d):=h;obtain⟨f,I,n,a,u,b,j,v⟩:=h;have k:Hid (G8 _ _ _ _ _ _ _ _ _):=a;have m:Hid (Gr K N bl w):=j;have g:=Aa a 3;have r:=Ab a 3;have q:=Aa a 4;have t:=Ab a 4;clear a j;rcases s with⟨o,y⟩|i
 ·have x:((o:Int)==0)=false:=by simp;exact v.1
  simp only[ec] at g;clear r q t;go_enter Tryz.func19,Tryz.ntmps19
  go_wp2_with fail
  go_end0
  exact⟨rfl,l.out,Fr.refl _ _⟩
 ·simp only[ec] at g;go_enter Tryz.func19,Tryz.ntmps19
  go_wp2_with fail
  go_end0
  refine⟨rfl,⟨f,I,(p:Int),?_,u,b,m.out.of (P:=(·≠br)) (((Fr.refl _ w).set (by simp) _).set (by simp) _) b,hc,rfl⟩,((Fr.refl _ w).set (by simp) _).set (by simp) _⟩;have:=Ag (Ag k.out 3 (.int .i64 (c:Int))) 4 (.int .i64 (p:Int));simpa [G8,ec,Hl] using this
theorem RS.open {K:Nat->Tk}{N:Nat}{w:World}{br bl:Nat}{s:SX}{d:Int}(h:RS K N w br bl s d):∃(cap I:Nat)(bad:Int),G8 w br bl N cap I d (ec s) bad/\I<=N/\bl≠br/\bl<w.heap.size/\w.cell? ⟨bl,I*3,none⟩=some (.int .u8 (Bn (K I).cl:Int))/\w.cell? ⟨bl,I*3+1,none⟩=some (.string (Cf (K I)))/\w.cell? ⟨bl,I*3+2,none⟩=some (.int .i64 ((K I).at':Int))/\(∀i,s=.ok i->I=i):=by
 obtain⟨cap,I,bad,f,b,a,c,g⟩:=h;obtain⟨j,k,l⟩:=c.2 I b;exact⟨cap,I,bad,f,b,a,c.1,j,k,l,fun i e=>by subst e;exact g⟩
theorem RS.fault {K:Nat->Tk}{N:Nat}{w:World}{br bl:Nat}{s:SX}{d:Int}(h:RS K N w br bl s d):∀c p,s=.error (c,p)->((c:Int)==0)=false:=by
 obtain⟨b,I,a,-,-,-,-,f⟩:=h;intro c p e;subst e;have:=f.1;simp;exact this
def Ap (w:World)(bt sb:Nat)(tx:ByteArray)(a:Int):Prop:=w.heap[bt]?=some (.cells #[.int .u8 (sb:Int),.string tx,.int .i64 a] 55 (0,0))
theorem Ap.new (w:World)(sb:Nat)(tx:ByteArray)(a:Int):Ap (w.alloc (.cells #[.int .u8 (sb:Int),.string tx,.int .i64 a] 55)).drew w.heap.size sb tx a:=by
 have b:(w.alloc (.cells #[.int .u8 (sb:Int),.string tx,.int .i64 a] 55)).heap[w.heap.size]?=some (.cells #[.int .u8 (sb:Int),.string tx,.int .i64 a] 55 (0,0)):=Af rfl;exact((Fr.grew (P:=fun _=>True) (Ad.refl _).drew).block _ (Ac b) trivial).trans b
theorem RS.cells {w:World}{br bl N cap I:Nat}{d e bad:Int}(hb:G8 w br bl N cap I d e bad)(hbl:bl<w.heap.size){v0 v1 v2:Value}(t0:w.cell? ⟨bl,I*3,none⟩=some v0)(t1:w.cell? ⟨bl,I*3+1,none⟩=some v1)(t2:w.cell? ⟨bl,I*3+2,none⟩=some v2) :
  G8 w.drew br bl N cap I d e bad/\w.drew.cell? ⟨bl,I*3,none⟩=some v0/\w.drew.cell? ⟨bl,I*3+1,none⟩=some v1/\w.drew.cell? ⟨bl,I*3+2,none⟩=some v2:=by
 have b:=(Fr.grew (P:=fun _=>True) (Ad.refl w).drew).block br (Ac hb) trivial;have a:=(Fr.grew (P:=fun _=>True) (Ad.refl w).drew).block bl hbl trivial;exact⟨b.trans hb,(World.cell?_of_block (w:=w) a).trans t0,(World.cell?_of_block (w:=w) a).trans t1,(World.cell?_of_block (w:=w) a).trans t2⟩
theorem Zz (w:World)(br bl N cap I sb:Nat)(d ev bad a:Int)(tx m:ByteArray)(q:Bool)(hI:I<=N)(hb:G8 w br bl N cap I d ev bad)(hbl:bl<w.heap.size)(t0:w.cell? ⟨bl,I*3,none⟩=some (.int .u8 (sb:Int)))(t1:w.cell? ⟨bl,I*3+1,none⟩=some (.string tx))(t2:w.cell? ⟨bl,I*3+2,none⟩=some (.int .i64 a))
  (HQ:Hid ((ev==0&&(tx.toList==m.toList)&&((sb==111)||(sb==119)))=q)) :
  Calls Tryz.prog 73 #[.pointer (some ⟨br,0,none⟩),.string m] w fun e w'=>e=.returned (.bool q)/\Ad w w':=by
 obtain⟨n,z,A,B⟩:=RS.cells hb hbl t0 t1 t2;have t:=Aa hb 0;have u:=Aa hb 1;have x:=Aa n 0;have y:=Aa n 1;have l:=Ac hb;have r:Hid (G8 w br bl N cap I d ev bad):=hb;have C:=follows;have k:(I:Int)<((N+1:Nat):Int):=by omega
 clear hb n;have g:Hid (Ap _ w.heap.size sb tx a):=Ap.new w sb tx a;have c:Hid (Ad w (w.alloc (.cells #[.int .u8 (sb:Int),.string tx,.int .i64 a] 55)).drew):=((Ad.refl w).alloc _).drew;go_enter Tryz.func73,Tryz.ntmps73
 go_wp2_with fail
 go_big_region_o
 have v:=Aa ((c.out.below.block br l).trans r.out) 3;clear t u x y z A B t0 t1 t2 k r;generalize (w.alloc (.cells #[.int .u8 (sb:Int),.string tx,.int .i64 a] 55)).drew=W1 at c g v |-;obtain⟨s,h⟩:∃s,w.heap.size=s:=⟨_,rfl⟩;rw[h] at g |-;clear h;have D:=Aa g.out 0;have E:=Aa g.out 1;clear g;cases i:(ev==0) with
 | false =>
  obtain rfl:false=q:=by have:=HQ.out;rw[i] at this;exact this
  clear HQ;go_wp2_with fail
  go_ret
  exact⟨rfl,c.out⟩
 | true =>
  cases j:(tx.toList==m.toList) with
  | false =>
   obtain rfl:false=q:=by have:=HQ.out;rw[i,j] at this;exact this
   clear HQ;go_wp2_with fail
   go_ret
   exact⟨rfl,c.out⟩
  | true =>
   cases b:(sb==111) with
   | true =>
    obtain rfl:true=q:=by have:=HQ.out;rw[i,j,b] at this;exact this
    have o:((sb:Int)==111)=true:=by rw[beq_iff_eq] at b |-;omega
    clear HQ b;go_wp2_with fail
    go_ret
    exact⟨rfl,c.out⟩
   | false =>
    have o:((sb:Int)==111)=false:=by rw[beq_eq_false_iff_ne] at b |-;omega
    cases f:(sb==119) with
    | true =>
     obtain rfl:true=q:=by have:=HQ.out;rw[i,j,b,f] at this;exact this
     have p:((sb:Int)==119)=true:=by rw[beq_iff_eq] at f |-;omega
     clear HQ b f;go_wp2_with fail
     go_ret
     exact⟨rfl,c.out⟩
    | false =>
     obtain rfl:false=q:=by have:=HQ.out;rw[i,j,b,f] at this;exact this
     have p:((sb:Int)==119)=false:=by rw[beq_eq_false_iff_ne] at f |-;omega
     clear HQ b f;go_wp2_with fail
     go_ret
     exact⟨rfl,c.out⟩
theorem Nw {K:Nat->Tk}{N:Nat}(hK:∀i,Bs (K i))(w:World)(br bl:Nat)(s:SX)(d:Int)(m:ByteArray)(hm:m.data.toList∈Dp)(h:RS K N w br bl s d) :
  Calls Tryz.prog 73 #[.pointer (some ⟨br,0,none⟩),.string m] w fun e w'=>e=.returned (.bool (isS K s m.data.toList))/\Ad w w':=by
 obtain⟨b,I,a,j,g,l,f,o,q,r,n⟩:=h.open;refine Zz w br bl N b I _ d (ec s) a _ _ m _ g j f o q r ?_;show _=_;rcases s with⟨c,p⟩|i
 ·have k:=h.fault c p rfl;simp only[ec,k,isS,Bool.false_and]
 ·obtain rfl:=n i rfl;have:=jW (hK I) hm;rw[ByteArray.toList_eq,ByteArray.toList_eq];simp only[ec,isS,beq_self_eq_true,Bool.true_and];exact this
theorem RS.grew {K:Nat->Tk}{N:Nat}{w w':World}{br bl:Nat}{s:SX}{d:Int}(h:RS K N w br bl s d)(g:Ad w w'):RS K N w' br bl s d:=h.of (P:=fun _=>True) (Fr.grew g) trivial trivial
theorem aA {K:Nat->Tk}{N:Nat}(hK:∀i,Bs (K i))(w:World)(br bl g n c:Nat)(s:SX)(d:Int)(ms:List ByteArray)(hms:∀m∈ms,m.data.toList∈Dp)(hn:n=ms.length)(hn9:n<=1000)(hrow:w.heap[g]?=some (.cells (ms.map Value.string).toArray 9 (0,0)))(h:RS K N w br bl s d) :
  Calls Tryz.prog 43 #[.pointer (some ⟨br,0,none⟩),.slice (some ⟨g,0,none⟩) n c] w fun e w'=>e=.returned (.bool (ms.any fun m=>isS K s m.data.toList))/\Ad w w':=by
 have z:Hid (w.heap[g]?=_):=hrow;have B:Hid (RS K N w br bl s d):=h;have x:Hid (n=ms.length):=hn;have A:Hid (∀m∈ms,m.data.toList∈Dp):=hms;obtain⟨q,b⟩:∃q,(ms.any fun m=>isS K s m.data.toList)=q:=⟨_,rfl⟩;rw[b];have y:Hid ((ms.any fun m=>isS K s m.data.toList)=q):=b;clear hrow hms hn h b;have H:=follows;go_enter Tryz.func43,Tryz.ntmps43
 go_wp2_with fail
 go_loopw [5] (fun i wr=>∃k:Nat,k<=n/\i=.int .i64 k/\Hid (Ad w wr)/\Hid (∀j m,j<k->ms[j]?=some m->isS K s m.data.toList=false)) (fun i _=>n-(intOf i).toNat)
 case atStart=>exact⟨0,Nat.zero_le _,rfl,Ad.refl _,fun j m h=>absurd h (Nat.not_lt_zero j)⟩
 case round =>
  obtain⟨k,G,rfl,o,r⟩:=hrel;by_cases E:k<n
  ·obtain⟨m,l⟩:∃m,ms[k]?=some m:=⟨_,List.getElem?_eq_getElem (by have:=x.out;omega)⟩;have a:=(o.out.below.block g (Ac z.out)).trans z.out;have F:wr.cell? ⟨g,k,none⟩=some (.string m):=by rw[Aa a];simp[l]
   have D:g<wr.heap.size:=Ac a;have t:Hid (Calls _ _ _ _ _):=Nw hK wr br bl s d m (A.out m (List.mem_of_getElem? l)) (B.out.grew o.out);have p:Hid (ms[k]?=some m):=l;clear a l;cases f:isS K s m.data.toList with
   | true =>
    rw[f] at t;have b:q=true:=by
     rw[<- y.out,List.any_eq_true];exact⟨m,List.mem_of_getElem? p.out,f⟩
    subst b;clear f r;go_wp2_with (go_at_call 73;refine t.out.mono ?_;rintro e v ⟨rfl,a⟩;have u:Hid (Ad w v):=o.out.trans a;clear a)
    go_ret
    exact⟨rfl,u.out⟩
   | false =>
    rw[f] at t;have C:Hid (∀j m,j<k+1->ms[j]?=some m->isS K s m.data.toList=false):=fun j m' hj hm'=>by
     by_cases e:j=k
     ·subst e;rw[p.out] at hm';simp at hm';rw[<- hm'];exact f
     ·exact r.out j m' (by omega) hm'
    clear f r;go_wp2_with (go_at_call 73;refine t.out.mono ?_;rintro e v ⟨rfl,a⟩;have u:Hid (Ad w v):=o.out.trans a;clear a)
    go_roundw
    case rel=>exact⟨k+1,by omega,by go_num,u,C⟩
    case measure=>simp[intOf];omega
  ·obtain rfl:k=n:=by omega
   have b:q=false:=by
    rw[<- y.out,List.any_eq_false];intro m l;obtain⟨j,hj⟩:=List.mem_iff_getElem?.1 l;have:=r.out j m (by have:=(List.getElem?_eq_some_iff.1 hj).1;have:=x.out;omega) hj;simp[this]
   subst b;clear r;go_wp2_with fail
   go_ret
   exact⟨rfl,o.out⟩
theorem aB {K:Nat->Tk}{N:Nat}(hK:∀i,Bs (K i))(w:World)(br bl:Nat)(s:SX)(d:Int)(vs:Array Value)(ms:List ByteArray)(n:Nat)(q:Bool)(hvs:vs=(ms.map Value.string).toArray)(hms:∀m∈ms,m.data.toList∈Dp)(hn:n=ms.length)(hn9:n<=1000)(hq:(ms.any fun m=>isS K s m.data.toList)=q)(h:RS K N w br bl s d) :
  Calls Tryz.prog 43 #[.pointer (some ⟨br,0,none⟩),.slice (some ⟨w.heap.size,0,none⟩) n n] (w.alloc (.cells vs 9)) fun e w'=>e=.returned (.bool q)/\Ad w w':=by
 subst hvs hq;refine(aA hK (w.alloc (.cells (ms.map Value.string).toArray 9)) br bl w.heap.size n n s d ms hms hn hn9 (Af rfl) (h.grew ((Ad.refl w).alloc _))).mono ?_;rintro e w' ⟨rfl,a⟩;exact⟨rfl,((Ad.refl w).alloc _).trans a⟩
theorem G8.setI {w:World}{br bl N cap I:Nat}{d e bad:Int}(h:G8 w br bl N cap I d e bad)(I':Nat):G8 (w.setCell ⟨br,1,none⟩ (.int .i64 (I':Int))) br bl N cap I' d e bad:=by
 have:=Ag h 1 (.int .i64 (I':Int));simpa [G8] using this
theorem G8.setD {w:World}{br bl N cap I:Nat}{d e bad:Int}(h:G8 w br bl N cap I d e bad)(d':Int):G8 (w.setCell ⟨br,2,none⟩ (.int .i64 d')) br bl N cap I d' e bad:=by
 have:=Ag h 2 (.int .i64 d');simpa [G8] using this
def Cp (K:Nat->Tk)(s:SX)(m:List UInt8):SX:=match s with | .ok i=>if (K i).tx==m then .ok (i+1) else .ok i | .error e=>.error e
def Bk (K:Nat->Tk)(s:SX)(m:List UInt8):SX:=match s with | .ok i=>if (K i).tx==m then .ok (i+1) else .error (1,(K i).at') | .error e=>.error e
theorem S9 {K:Nat->Tk}{N:Nat}(hK:∀i,Bs (K i))(hL:Bi K N)(w:World)(br bl:Nat)(s:SX)(d:Int)(m:ByteArray)(hm:m.data.toList∈Dp)(hN:N<=1000000)(h:RS K N w br bl s d) :
  Calls Tryz.prog 46 #[.pointer (some ⟨br,0,none⟩),.string m] w fun e w'=>e=.returned (.bool (isS K s m.data.toList))/\RS K N w' br bl (Cp K s m.data.toList) d/\Fr (·≠br) w w':=by
 have q:Hid (Calls _ _ _ _ _):=Nw hK w br bl s d m hm h;have r:Hid (RS K N w br bl s d):=h;have u:=h.lt;clear h;have F:=follows;cases a:isS K s m.data.toList with
 | false =>
  rw[a] at q;have o:Cp K s m.data.toList=s:=by
   rcases s with e|i
   ·rfl
   ·simp only[isS] at a;simp only[Cp,a];rfl
  rw[o];clear a o;go_enter Tryz.func46,Tryz.ntmps46
  go_wp2_with (go_at_call 73;refine q.out.mono ?_;rintro e k ⟨rfl,j⟩;have p:Hid (Ad w k):=j;clear j)
  go_ret
  exact⟨rfl,r.out.grew p.out,Fr.grew p.out⟩
 | true =>
  rw[a] at q;rcases s with e|i
  ·simp[isS] at a
  have f:((K i).tx==m.data.toList)=true:=a;have o:Cp K (.ok i) m.data.toList=.ok (i+1):=by simp only[Cp,f];rfl
  rw[o];obtain⟨c,I,b,l,B,n,y,C⟩:=r.out;obtain rfl:I=i:=C;have v:=hL.lt B f hm;have z:Hid (∀W,Ad w W->G8 W br bl N c I d (ec (.ok I)) b):=fun W g=>(g.below.block br u).trans l;have A:Hid (Gr K N bl w):=y;clear a f o l y r;go_enter Tryz.func46,Tryz.ntmps46
  go_wp2_with (go_at_call 73;refine q.out.mono ?_;rintro e k ⟨rfl,j⟩;have t:Hid (G8 k br bl N c I d (ec (.ok I)) b):=z.out k j;have D:=Aa t.out 1;have E:=Ab t.out 1;have p:Hid (Ad w k):=j;clear j)
  go_ret
  have x:Fr (·≠br) w (k.setCell ⟨br,1,none⟩ (.int .i64 ((I:Int)+1))):=(Fr.grew p.out).set (by simp) _;exact⟨rfl,⟨c,I+1,b,t.out.setI (I+1),v,n,A.out.of x n,rfl⟩,x⟩
theorem dZ {K:Nat->Tk}{N:Nat}(hK:∀i,Bs (K i))(hL:Bi K N)(w:World)(br bl:Nat)(s:SX)(d:Int)(m:ByteArray)(hm:m.data.toList∈Dp)(hN:N<=1000000)(h:RS K N w br bl s d) :
  Calls Tryz.prog 25 #[.pointer (some ⟨br,0,none⟩),.string m] w fun e w'=>e=.returned (.tuple #[])/\RS K N w' br bl (Bk K s m.data.toList) d/\Fr (·≠br) w w':=by
 have j:Hid (Calls _ _ _ _ _):=S9 hK hL w br bl s d m hm hN h;clear h;have P:=follows;cases b:isS K s m.data.toList with
 | true =>
  rw[b] at j;have n:Cp K s m.data.toList=Bk K s m.data.toList:=by
   rcases s with e|i
   ·rfl
   ·simp only[isS] at b;simp only[Cp,Bk,b];rfl
  rw[n] at j;clear b n;go_enter Tryz.func25,Tryz.ntmps25
  go_wp2_with (go_at_call 46;refine j.out.mono ?_;rintro e k ⟨rfl,c,f⟩;have o:Hid (RS K N k br bl (Bk K s m.data.toList) d):=c;have p:Hid (Fr (·≠br) w k):=f;clear c f)
  go_end0
  exact⟨rfl,o.out,p.out⟩
 | false =>
  rw[b] at j;have n:Cp K s m.data.toList=s:=by
   rcases s with e|i
   ·rfl
   ·simp only[isS] at b;simp only[Cp,b];rfl
  rw[n] at j;have u:Hid (∀I,(∀i,s=.ok i->I=i)->Hl s 1 (K I).at'=Bk K s m.data.toList):=fun I hI=>by
   rcases s with e|i
   ·rfl
   ·obtain rfl:=hI i rfl;simp only[isS] at b;simp only[Hl,Bk,b];rfl
  clear b n;go_enter Tryz.func25,Tryz.ntmps25
  go_wp2_with (go_at_call 46;refine j.out.mono ?_;rintro e k ⟨rfl,c,f⟩;have o:Hid (RS K N k br bl s d):=c;have p:Hid (Fr (·≠br) w k):=f;clear c f)
  obtain⟨E,I,D,a,hI,H,q,x,y,z,v⟩:=o.out.open;have J:=Aa a 0;have L:=Aa a 1;have G:=Ac a;have F:(I:Int)<((N+1:Nat):Int):=by omega
  have t:Hid (∀W,Ad k W->Calls _ _ _ _ _):=fun W g=>Ic W br bl s d 1 (K I).at' (by decide) (o.out.grew g);have l:Hid (Hl s 1 (K I).at'=_):=u.out I v;generalize (K I).at'=aa at z t l;obtain⟨r,-,-,Q⟩:=RS.cells a q x y z;have M:=Aa r 0;have O:=Aa r 1;clear a x y v u j r;go_region_with (go_at_call 19;refine(t.out _ (Ad.refl k).drew).mono ?_;rintro e A ⟨rfl,c,f⟩;rw[l.out] at c;have C:Hid (RS K N A br bl (Bk K s m.data.toList) d):=c;have B:Hid (Fr (·≠br) w A):=p.out.drew.trans f;clear c f)
  all_goals go_wp2_with fail
  all_goals go_end0
  all_goals exact⟨rfl,C.out,B.out⟩
theorem Ap.grew {w w':World}{bt sb:Nat}{tx:ByteArray}{a:Int}(h:Ap w bt sb tx a)(g:Ad w w'):Ap w' bt sb tx a:=(g.below.block bt (Ac h)).trans h
theorem Ap.fr {w w':World}{bt sb br:Nat}{tx:ByteArray}{a:Int}(h:Ap w bt sb tx a)(g:Fr (·≠br) w w')(hb:bt≠br):Ap w' bt sb tx a:=(g.block bt (Ac h) hb).trans h
theorem U0 (s:SX)(c p:Nat)(hc:c≠0)(h:∀c p,s=.error (c,p)->((c:Int)==0)=false):(ec (Hl s c p) != 0)=true:=by
 rcases s with⟨a,b⟩|i
 ·have:=h a b rfl;simp only[Hl,ec];simp at this |-;omega
 ·simp only[Hl,ec];simp;omega
def Cb (r:Except (Nat×Nat) (List UInt8×Nat)):ByteArray:=match r with | .ok (n,_)=>⟨n.toArray⟩ | .error _=>⟨#[]⟩
theorem Ta (c:Nat):(Bn c==119)=true↔c=1:=by
 unfold Bn;by_cases a:c=0
 ·subst a;decide
 by_cases b:c=1
 ·subst b;decide
 by_cases d:c=2
 ·subst d;decide
 by_cases e:c=3
 ·subst e;decide
 by_cases f:c=4
 ·subst f;decide
 rw[if_neg a,if_neg b,if_neg d,if_neg e,if_neg f];simp;omega
theorem aC {K:Nat->Tk}{N I:Nat}{s:SX}{r:Except (Nat×Nat) (List UInt8×Nat)}(hL:Bi K N)(hI:I<=N)(hs:∀i,s=.ok i->I=i)(hr:Az s (Au K)=some r) :
  ((((Bn (K I).cl==119)=false\/A0 (Cf (K I)).data.toList=true)->Hl s 1 (K I).at'=stX r/\Cb r=⟨#[]⟩)/\((Bn (K I).cl==119)=true->A0 (Cf (K I)).data.toList=false->16<(Cf (K I)).size->Hl s 5 (K I).at'=stX r/\Cb r=⟨#[]⟩)/\((Bn (K I).cl==119)=true->A0 (Cf (K I)).data.toList=false->¬16<(Cf (K I)).size->(∀i,s=.ok i->stX r=.ok (I+1)/\Cb r=Cf (K I)/\I+1<=N)/\(∀e,s=.error e->stX r=.error e/\Cb r=⟨#[]⟩))):=by
 rcases s with e|i
 ·obtain rfl:.error e=r:=by simpa [Az] using hr
  exact⟨fun _=>⟨rfl,rfl⟩,fun _ _ _=>⟨rfl,rfl⟩,fun _ _ _=>⟨fun i h=>by simp at h,fun e' h=>by simp at h;subst h;exact⟨rfl,rfl⟩⟩⟩
 ·obtain rfl:=hs i rfl;have a:Au K I=some r:=hr;unfold Au at a;by_cases c:(K I).cl=1
  ·have b:(Bn (K I).cl==119)=true:=(Ta _).2 c;have g:(Cf (K I)).data.toList=(K I).tx:=Ga _ (by omega);have j:(Cf (K I)).size=(K I).tx.length:=by rw[<- g];simp
   rw[b,g,j];cases f:A0 (K I).tx with
   | true =>
    rw[if_pos (.inr f)] at a;obtain rfl:.error (1,(K I).at')=r:=by simpa [Dg] using a
    exact⟨fun _=>⟨rfl,rfl⟩,fun _ h=>by simp at h,fun _ h=>by simp at h⟩
   | false =>
    rw[if_neg (by simp[c,f])] at a;by_cases d:16<(K I).tx.length
    ·rw[if_pos d] at a;obtain rfl:.error (5,(K I).at')=r:=by simpa [Dg] using a
     exact⟨fun h=>by simp at h,fun _ _ _=>⟨rfl,rfl⟩,fun _ _ h=>absurd d h⟩
    ·rw[if_neg d] at a;obtain rfl:.ok ((K I).tx,I+1)=r:=by simpa [okX] using a
     refine⟨fun h=>by simp at h,fun _ _ h=>absurd h d,fun _ _ _=>⟨fun i _=>⟨rfl,?_,hL.lt_cl hI (.inl c)⟩,fun e h=>by simp at h⟩⟩;unfold Cf;rw[if_neg (by omega)];rfl
  ·rw[if_pos (.inl c)] at a;obtain rfl:.error (1,(K I).at')=r:=by simpa [Dg] using a
   have b:(Bn (K I).cl==119)=false:=by
    cases h:Bn (K I).cl==119 with
    | true=>exact absurd ((Ta _).1 h) c
    | false=>rfl
   rw[b];exact⟨fun _=>⟨rfl,rfl⟩,fun h=>by simp at h,fun h=>by simp at h⟩
theorem eA {K:Nat->Tk}{N:Nat}(hL:Bi K N)(w:World)(br bl:Nat)(s:SX)(d:Int)(hN:N<=1000000)(h:RS K N w br bl s d)(r:Except (Nat×Nat) (List UInt8×Nat))(hr:Az s (Au K)=some r) :
  Calls Tryz.prog 26 #[.pointer (some ⟨br,0,none⟩)] w fun e w'=>e=.returned (.string (Cb r))/\RS K N w' br bl (stX r) d/\Fr (·≠br) w w':=by
 obtain⟨b0,I,a9,R,hI,b2,a1,t0,t1,t2,hs⟩:=h.open;obtain⟨hd,u0,u1,u2⟩:=RS.cells R a1 t0 t1 t2;have c0:=Aa R 0;have c1:=Aa R 1;have k0:=Aa hd 0;have k1:=Aa hd 1;have a2:=Ac R;have HS:Hid (RS K N w br bl s d):=h;have Y:Hid (∀i,s=.ok i->I=i):=hs;have g:Hid (∀c p,s=.error (c,p)->((c:Int)==0)=false):=h.fault;have mo:=follows;have a0:(I:Int)<((N+1:Nat):Int):=by omega
 have A:Hid (∀W:World,_):=fun W=>Lr (Cf (K I)) W;have q:Hid ((((Bn (K I).cl==119)=false\/A0 (Cf (K I)).data.toList=true)->Hl s 1 (K I).at'=stX r/\Cb r=⟨#[]⟩)/\((Bn (K I).cl==119)=true->A0 (Cf (K I)).data.toList=false->16<(Cf (K I)).size->Hl s 5 (K I).at'=stX r/\Cb r=⟨#[]⟩)/\((Bn (K I).cl==119)=true->A0 (Cf (K I)).data.toList=false->¬16<(Cf (K I)).size->(∀i,s=.ok i->stX r=.ok (I+1)/\Cb r=Cf (K I)/\I+1<=N)/\(∀e,s=.error e->stX r=.error e/\Cb r=⟨#[]⟩))):=aC hL hI hs hr;generalize a4:Bn (K I).cl=sb at t0 u0 q;generalize a5:Cf (K I)=tx at t1 u1 q A;generalize (K I).at'=aa at t2 u2 q;clear R hd h a4 a5 hr;have L:Hid (Ap _ w.heap.size sb tx (aa:Int)):=Ap.new w sb tx (aa:Int);have X:Hid (Ad w (w.alloc (.cells #[.int .u8 (sb:Int),.string tx,.int .i64 (aa:Int)] 55)).drew):=((Ad.refl w).alloc _).drew;go_enter Tryz.func26,Tryz.ntmps26
 go_wp2_with fail
 go_big_region_o
 clear c0 c1 k0 k1 u0 u1 u2 t0 t1 t2 a0;generalize (w.alloc (.cells #[.int .u8 (sb:Int),.string tx,.int .i64 (aa:Int)] 55)).drew=W1 at X L |-;obtain⟨U,S⟩:∃U,w.heap.size=U:=⟨_,rfl⟩;rw[S] at L a2 |-;clear S;have a8:U≠br:=by omega
 have q1:=Aa L.out 1;go_wp2_with fail
 refine(A.out W1).mono ?_;rintro e m ⟨rfl,hg⟩;have F:Hid (Ad w m):=X.out.trans hg;have T2:Hid (Ap m U sb tx (aa:Int)):=L.out.grew hg;have D:Hid (RS K N m br bl s d):=HS.out.grew F.out;clear hg q1 X L A HS;have y0:=Aa T2.out 0;have y1:=Aa T2.out 1;have y2:=Aa T2.out 2;obtain⟨C,G,H⟩:=q.out;cases o:(sb==119) with
 | false =>
  have a6:((sb:Int) != 119)=true:=by rw[beq_eq_false_iff_ne] at o;rw[bne_iff_ne];omega
  obtain⟨k,l⟩:=C (.inl o);have v:Hid (Calls _ _ _ _ _):=Ic m br bl s d 1 aa (by decide) D.out;have u:Hid ((ec (Hl s 1 aa) != 0)=true):=U0 s 1 aa (by decide) g.out;rw[k] at v u;have t:Hid (Cb r=⟨#[]⟩):=l;clear C G H q o k l g;go_wp2_with (go_at_call 19;refine v.out.mono ?_;rintro e x ⟨rfl,j,y⟩;have n:Hid (RS K N x br bl (stX r) d):=j;have J:Hid (Fr (·≠br) w x):=(Fr.grew F.out).trans y;obtain⟨f,B,b,a,-⟩:=j;have V:=Aa a 3;have E:=u.out;clear a y)
  go_ret
  exact⟨by rw[t.out];rfl,n.out,J.out⟩
 | true =>
  have a6:((sb:Int) != 119)=false:=by rw[beq_iff_eq] at o;rw[bne_eq_false_iff_eq];omega
  cases z1:A0 tx.data.toList with
  | true =>
   obtain⟨k,l⟩:=C (.inr z1);have v:Hid (Calls _ _ _ _ _):=Ic m br bl s d 1 aa (by decide) D.out;have u:Hid ((ec (Hl s 1 aa) != 0)=true):=U0 s 1 aa (by decide) g.out;rw[k] at v u;have t:Hid (Cb r=⟨#[]⟩):=l;clear C G H q o k l g;go_wp2_with (go_at_call 19;refine v.out.mono ?_;rintro e x ⟨rfl,j,y⟩;have n:Hid (RS K N x br bl (stX r) d):=j;have J:Hid (Fr (·≠br) w x):=(Fr.grew F.out).trans y;obtain⟨f,B,b,a,-⟩:=j;have V:=Aa a 3;have E:=u.out;clear a y)
   go_ret
   exact⟨by rw[t.out];rfl,n.out,J.out⟩
  | false =>
   by_cases T:16<tx.size
   ·have a7:(16:Int)<(tx.size:Int):=by omega
    obtain⟨k,l⟩:=G o z1 T;have v:Hid (Calls _ _ _ _ _):=Ic m br bl s d 5 aa (by decide) D.out;have u:Hid ((ec (Hl s 5 aa) != 0)=true):=U0 s 5 aa (by decide) g.out;rw[k] at v u;have t:Hid (Cb r=⟨#[]⟩):=l;clear C G H q o T k l g;go_wp2_with (go_at_call 19;refine v.out.mono ?_;rintro e x ⟨rfl,j,y⟩;have n:Hid (RS K N x br bl (stX r) d):=j;have J:Hid (Fr (·≠br) w x):=(Fr.grew F.out).trans y;obtain⟨f,B,b,a,-⟩:=j;have V:=Aa a 3;have E:=u.out;clear a y)
    go_ret
    exact⟨by rw[t.out];rfl,n.out,J.out⟩
   ·have a7:¬(16:Int)<(tx.size:Int):=by omega
    obtain⟨k,l⟩:=H o z1 T;rcases s with⟨c,p⟩|i
    ·obtain⟨M,O⟩:=l _ rfl;have P1:Hid (stX r=_):=M;have t:Hid (Cb r=⟨#[]⟩):=O;have V:m.cell? ⟨br,3,none⟩=some (.int .i64 (c:Int)):=by
      obtain⟨f,B,b,a,-⟩:=D.out;exact Aa a 3
     have E:((c:Int) != 0)=true:=by have:=g.out c p rfl;simp at this |-;exact this
     clear C G H q o T k l M O g;go_wp2_with fail
     go_ret
     exact⟨by rw[t.out];rfl,by rw[P1.out];exact D.out,Fr.grew F.out⟩
    ·obtain⟨M,O,h3⟩:=k _ rfl;have P1:Hid (stX r=_):=M;have t:Hid (Cb r=tx):=O;obtain⟨f,B,b,a,b1,z,Q,a3⟩:=D.out;obtain rfl:B=i:=a3;obtain rfl:I=B:=Y.out B rfl;have n:Hid (G8 m br bl N f I d 0 b):=a;have V:=Aa n.out 3;have e1:=Aa n.out 1;have f1:=Ab n.out 1;have Z:Hid (Gr K N bl m):=Q;clear C G H q o T k l M O g a Q D;go_wp2_with fail
     go_ret
     have hF:Fr (·≠br) w (m.setCell ⟨br,1,none⟩ (.int .i64 ((I:Int)+1))):=(Fr.grew F.out).set (by simp) _;refine⟨by rw[t.out];rfl,?_,hF⟩;rw[P1.out];exact⟨f,I+1,b,n.out.setI (I+1),h3,z,Z.out.of (P:=(·≠br)) ((Fr.refl _ m).set (by simp) _) z,rfl⟩
theorem gZ {K:Nat->Tk}{N:Nat}(w:World)(br bl:Nat)(s:SX)(d:Int)(h:RS K N w br bl s d) :
  Calls Tryz.prog 45 #[.pointer (some ⟨br,0,none⟩)] w fun e w'=>e=.returned (.tuple #[])/\RS K N w' br bl s (wrap64 (d-1))/\Fr (·≠br) w w':=by
 obtain⟨b,I,a,f,j,c,k,l⟩:=h;have i:Hid (G8 w br bl N b I d (ec s) a):=f;have m:=Aa f 2;have n:=Ab f 2;clear f;have o:=follows;go_enter Tryz.func45,Tryz.ntmps45
 go_wp2_with fail
 go_end0
 have g:Fr (·≠br) w (w.setCell ⟨br,2,none⟩ (.int .i64 (wrap64 (d-1)))):=(Fr.refl _ w).set (by simp) _;exact⟨rfl,⟨b,I,a,i.out.setD _,j,c,k.of g c,l⟩,g⟩
def inS (K:Nat->Tk)(i d:Nat):SX:=if d=24 then .error (6,(K i).at') else .ok (i+1)
theorem kC {K:Nat->Tk}{N:Nat}(hN:N<=1000000)(w:World)(br bl i d:Nat)(hd:d<=24)(hi:i<N)(h:RS K N w br bl (.ok i) (d:Int)) :
  Calls Tryz.prog 44 #[.pointer (some ⟨br,0,none⟩)] w fun e w'=>e=.returned (.tuple #[])/\RS K N w' br bl (inS K i d) ((d+1:Nat):Int)/\Fr (·≠br) w w':=by
 obtain⟨b,I,a,M,hI,f,y,u⟩:=h;obtain rfl:I=i:=u;have j:Hid (G8 w br bl N b I (d:Int) 0 a):=M;have X:Hid (Gr K N bl w):=y;have c2:=Aa j.out 2;have f2:=Ab j.out 2;have m:Fr (·≠br) w (w.setCell ⟨br,2,none⟩ (.int .i64 ((d:Int)+1))):=(Fr.refl _ w).set (by simp) _;have D:Hid (RS K N (w.setCell ⟨br,2,none⟩ (.int .i64 ((d:Int)+1))) br bl (.ok I) ((d:Int)+1)):=⟨b,I,a,j.out.setD _,hI,f,y.of m f,rfl⟩;have v:Hid (Fr (·≠br) w (w.setCell ⟨br,2,none⟩ (.int .i64 ((d:Int)+1)))):=m;have k:Hid (G8 (w.setCell ⟨br,2,none⟩ (.int .i64 ((d:Int)+1))) br bl N b I ((d:Int)+1) 0 a):=j.out.setD _;clear M y m;have mo:=follows;by_cases l:d=24
 ·subst l;have q:inS K I 24=.error (6,(K I).at'):=rfl;rw[q];have s:Hid (RS K N (w.setCell ⟨br,2,none⟩ (.int .i64 25)) br bl (.ok I) 25):=D.out;have B:Hid (Fr (·≠br) w (w.setCell ⟨br,2,none⟩ (.int .i64 25))):=v.out;have p:Hid (G8 (w.setCell ⟨br,2,none⟩ (.int .i64 25)) br bl N b I 25 0 a):=k.out;clear q D v k;go_enter Tryz.func44,Tryz.ntmps44
  go_wp2_with fail
  clear c2 f2;generalize w.setCell ⟨br,2,none⟩ (.int .i64 25)=w1 at s B p |-;obtain⟨G,o,E,c,a0,Q,z,S,T,U,u⟩:=s.out.open;obtain rfl:o=I:=u I rfl;have C:Hid (∀W,Ad w1 W->Calls _ _ _ _ _):=fun W g=>Ic W br bl (.ok o) 25 6 (K o).at' (by decide) (s.out.grew g);obtain⟨hd,-,-,u2⟩:=RS.cells c z S T U;have c0:=Aa c 0;have Z:=Aa c 1;have k0:=Aa hd 0;have k1:=Aa hd 1;have a1:(o:Int)<((N+1:Nat):Int):=by omega
  have a2:=Ac c;obtain⟨t,n⟩:∃t,(K o).at'=t:=⟨_,rfl⟩;have x:Hid ((K o).at'=t):=n;rw[n] at U u2 C;clear n;clear c S T u hd s p;go_region_with (go_at_call 19;refine(C.out _ (Ad.refl w1).drew).mono ?_;rintro e A ⟨rfl,R,O⟩;have Y:Hid (RS K N A br bl (.error (6,t)) 25):=R;have V:Hid (Fr (·≠br) w A):=B.out.drew.trans O;obtain⟨H,I3,F,r,-⟩:=R;have e3:A.cell? ⟨br,3,none⟩=some (.int .i64 6):=Aa r 3;clear r O)
  all_goals go_wp2_with fail
  all_goals go_end0
  all_goals exact⟨rfl,by rw[x.out];exact Y.out,V.out⟩
 ·have q:inS K I d=.ok (I+1):=by unfold inS;rw[if_neg l]
  rw[q];have J:¬(24:Int)<(d:Int)+1:=by omega
  have c3:=Aa j.out 3;have Z:=Aa j.out 1;have f1:=Ab j.out 1;clear q l;go_enter Tryz.func44,Tryz.ntmps44
  go_wp2_with fail
  go_end0
  have L:Fr (·≠br) w ((w.setCell ⟨br,2,none⟩ (.int .i64 ((d:Int)+1))).setCell ⟨br,1,none⟩ (.int .i64 ((I:Int)+1))):=v.out.set (by simp) _;exact⟨rfl,⟨b,I+1,a,k.out.setI (I+1),hi,f,X.out.of (P:=(·≠br)) L f,rfl⟩,L⟩
def U1:List UInt8:=[118,97,108,117,101]
def mY:List UInt8:=[110,97,109,101]
def lT:List UInt8:=[112,114,105,109,101]
def hH:List UInt8:=[99,97,108,108]
def lU:List UInt8:=[102,117,110,32,105,110]
def Qs:List (List UInt8):=[[97,108,108],[115,111,109,101],[99,104,111,111,115,101]]
def Qt (k n:Int)(tx:List UInt8)(x:PX):Prop :=
 (k=0/\x=Cw [110,105,108])\/(k=1/\n=1/\x=Cw [116,114,117,101])\/(k=1/\n=0/\x=Cw [102,97,108,115,101]) \/
 (k=2/\-9223372036854775808<=n/\n<=9223372036854775807/\x=Cw (Lib.itoa n))\/(k=3/\x=Fg tx)
def Hr (op nm:List UInt8)(k n:Int)(tx:List UInt8)(kids:List PX)(x:PX):Prop :=
 (op=U1/\Qt k n tx x)\/(op=mY/\x=Cw nm)\/(op=lT/\x=Cw (nm++[39]))\/(op=hH/\x=Ef nm kids)\/(op∈Cs/\x=Ef nm kids) \/
 (op=gK/\x=Jo kids)\/(op=gL/\x=Iz kids)\/(op=Ki/\x=Jh kids)\/(op=Cc/\x=Ed 12 op nm)\/(op=C5/\x=Ed 6 op nm) \/
 (op=wIf/\∃a b c,kids=[a,b,c]/\x=dIf a b c)\/(op=Jg/\∃a b,kids=[a,b]/\x=Kh nm a b)\/((op∈Qs\/op∈Dr)/\∃a b,kids=[a,b]/\x=C7 op nm a b)\/(op=lU/\∃a b,kids=[a,b]/\x=C7 Ki nm a b) \/
 (op=Zh/\∃a,kids=[a]/\x=Co 12 Lg a)\/(op∈En/\∃a,kids=[a]/\x=Co 6 op a)\/(op∈Dq/\∃a,kids=[a]/\x=Co 12 op a) \/
 (op=oAt/\∃f k,kids=[f,k]/\x=dAt f k)\/(op=Zg/\∃f k v,kids=[f,k,v]/\x=Gp f k v)\/(op∈E0.map Prod.fst/\∃a b,kids=[a,b]/\x=B8 op a b)
def Av (w:World)(b:Nat)(op:ByteArray)(a:Int)(nm:ByteArray)(k n:Int)(tx:ByteArray)(pa:Option Addr)(len cap:Nat):Prop :=
 w.heap[b]?=some (.cells #[.string op,.int .i64 a,.string nm,.int .i64 k,.int .i64 n,.string tx,.slice none 0 0,.slice none 0 0,.slice pa len cap,.int .i64 0,.int .i64 0] 95 (0,0))
theorem Av.of {w w':World}{b:Nat}{op nm tx:ByteArray}{a k n:Int}{pa:Option Addr}{len cap:Nat}(h:Av w b op a nm k n tx pa len cap){P:Nat->Prop}(f:Fr P w w')(hp:P b):Av w' b op a nm k n tx pa len cap:=(f.block b (Ac h) hp).trans h
theorem Av.op {w:World}{b:Nat}{op nm tx:ByteArray}{a k n:Int}{pa:Option Addr}{len cap:Nat}(h:Av w b op a nm k n tx pa len cap)(s:ByteArray):Av (w.setCell ⟨b,0,none⟩ (.string s)) b s a nm k n tx pa len cap:=by
 have:=Ag h 0 (.string s);simpa [Av] using this
theorem Av.name {w:World}{b:Nat}{op nm tx:ByteArray}{a k n:Int}{pa:Option Addr}{len cap:Nat}(h:Av w b op a nm k n tx pa len cap)(s:ByteArray):Av (w.setCell ⟨b,2,none⟩ (.string s)) b op a s k n tx pa len cap:=by
 have:=Ag h 2 (.string s);simpa [Av] using this
theorem Av.kids {w:World}{b:Nat}{op nm tx:ByteArray}{a k n:Int}{pa:Option Addr}{len cap:Nat}(h:Av w b op a nm k n tx pa len cap)(q:Option Addr)(l c:Nat):Av (w.setCell ⟨b,8,none⟩ (.slice q l c)) b op a nm k n tx q l c:=by
 have:=Ag h 8 (.slice q l c);simpa [Av] using this
section
variable (P:Nat->Prop) (w:World)
def lC (R:PX->Value->Prop)(x:PX)(v:Value):Prop :=
 ∃(b:Nat)(op nm tx:ByteArray)(a k n:Int)(pa:Option Addr)(len cap:Nat)(kids:List PX),
  v=.pointer (some ⟨b,0,none⟩)/\P b/\Av w b op a nm k n tx pa len cap/\Bw P w R pa len kids/\Hr op.data.toList nm.data.toList k n tx.data.toList kids x
def Fc:Nat->PX->Value->Prop
 | 0,_,_=>False
 | n+1,x,v=>lC P w (Fc n) x v
def Aj (x:PX)(v:Value):Prop:=∃n,Fc P w n x v
end
theorem Fc.up {P:Nat->Prop}{w:World}:∀(n m:Nat),n<=m->∀x v,Fc P w n x v->Fc P w m x v
 | 0,_,_,_,_,h=>absurd h id
 | n+1,0,hm,_,_,_=>absurd hm (by omega)
 | n+1,m+1,hm,x,v,h=>by
  obtain⟨b,op,nm,tx,a,k,i,pa,len,cap,kids,h1,h2,h3,h4,h5⟩:=h;exact⟨b,op,nm,tx,a,k,i,pa,len,cap,kids,h1,h2,h3,h4.mono (Fc.up n m (by omega)),h5⟩
theorem Fc.fr {P Q:Nat->Prop}{w w':World}(hf:Fr P w w')(hQ:∀k,k<w.heap.size->P k->Q k):∀(n:Nat) x v,Fc P w n x v->Fc Q w' n x v
 | 0,_,_,h=>absurd h id
 | n+1,x,v,h=>by
  obtain⟨b,op,nm,tx,a,k,i,pa,len,cap,kids,h1,h2,h3,h4,h5⟩:=h;exact⟨b,op,nm,tx,a,k,i,pa,len,cap,kids,h1,hQ b (Ac h3) h2,(hf.block b (Ac h3) h2).trans h3,Bw.fr hf (Fc.fr hf hQ n) hQ h4,h5⟩
theorem Aj.fr {P Q:Nat->Prop}{w w':World}(hf:Fr P w w')(hQ:∀k,k<w.heap.size->P k->Q k){x:PX}{v:Value}(h:Aj P w x v):Aj Q w' x v:=by
 obtain⟨n,h⟩:=h;exact⟨n,Fc.fr hf hQ n x v h⟩
theorem Aj.node {P:Nat->Prop}{w:World}{x:PX}{v:Value}(h:lC P w (Aj P w) x v):Aj P w x v:=by
 obtain⟨b,M,L,N,a,k,i,z,f,r,c,D,E,F,⟨A,B,p⟩,G⟩:=h;have s:∃n,Bw P w (Fc P w n) z f c:=by
  rcases p with p|⟨g,j,e,H,J,p⟩
  ·exact⟨0,A,B,.inl p⟩
  ·have:∀(l:List PX)(o:Nat),(∀i x,l[i]?=some x->∃v,w.cell? ⟨g,o+i,none⟩=some v/\Aj P w x v)->∃n,∀i x,l[i]?=some x->∃v,w.cell? ⟨g,o+i,none⟩=some v/\Fc P w n x v:=by
    intro l
    induction l with
    | nil=>intro o _;exact⟨0,fun i x q=>by simp at q⟩
    | cons y l ih =>
     intro o t;obtain⟨O,C,m,I⟩:=t 0 y rfl;obtain⟨n,d⟩:=ih (o+1) fun i x q=>by
      have:=t (i+1) x (by simpa using q);rw[show o+(i+1)=o+1+i from by omega] at this;exact this
     refine⟨max m n,fun i x q=>?_⟩;cases i with
     | zero=>simp at q;subst q;exact⟨O,C,Fc.up m _ (by omega) _ _ I⟩
     | succ i =>
      obtain⟨v,u,K⟩:=d i x (by simpa using q);rw[show o+1+i=o+(i+1) from by omega] at u;exact⟨v,u,Fc.up n _ (by omega) _ _ K⟩
   obtain⟨n,d⟩:=this c j p;exact⟨n,A,B,.inr ⟨g,j,e,H,J,d⟩⟩
 obtain⟨n,d⟩:=s;exact⟨n+1,b,M,L,N,a,k,i,z,f,r,c,D,E,F,d,G⟩
def RSd (K:Nat->Tk)(N:Nat)(w:World)(br bl:Nat)(s:SX)(d:Nat):Prop:=∃dd:Int,RS K N w br bl s dd/\(OkS s->dd=(d:Int))
theorem RSd.fr {K:Nat->Tk}{N br bl:Nat}{w w':World}{s:SX}{d:Nat}{P:Nat->Prop}(h:RSd K N w br bl s d)(f:Fr P w w')(h1:P br)(h2:P bl):RSd K N w' br bl s d:=by
 obtain⟨a,h,e⟩:=h;exact⟨a,h.of f h1 h2,e⟩
theorem RSd.grew {K:Nat->Tk}{N br bl:Nat}{w w':World}{s:SX}{d:Nat}(h:RSd K N w br bl s d)(g:Ad w w'):RSd K N w' br bl s d:=h.fr (P:=fun _=>True) (Fr.grew g) trivial trivial
theorem RSd.lt {K:Nat->Tk}{N br bl:Nat}{w:World}{s:SX}{d:Nat}(h:RSd K N w br bl s d):br<w.heap.size:=by
 obtain⟨a,h,-⟩:=h;exact h.lt
theorem RSd.row {K:Nat->Tk}{N br bl:Nat}{w:World}{s:SX}{d:Nat}(h:RSd K N w br bl s d):bl<w.heap.size/\bl≠br:=by
 obtain⟨f,⟨c,I,b,i,g,a,e,j⟩,-⟩:=h;exact⟨e.1,a⟩
def C0 (K:Nat->Tk)(N:Nat)(w:World)(br bl d:Nat)(r:Except (Nat×Nat) (PX×Nat))(e:Ending)(w':World):Prop :=
 Fr (·≠br) w w'/\RSd K N w' br bl (stX r) d/\∃b,e=.returned (.pointer (some ⟨b,0,none⟩))/\∀x j,r=.ok (x,j)->Aj (fun k=>w.heap.size<=k) w' x (.pointer (some ⟨b,0,none⟩))
def Ch (K:Nat->Tk)(N br bl:Nat)(self:Nat->Nat->Nat->RX PX):Prop :=
 ∀(w:World)(n d:Nat)(s:SX)(r:Except (Nat×Nat) (PX×Nat)),n<=12->(OkS s->d<=24)->RSd K N w br bl s d->Az s (self n d)=some r->Calls Tryz.prog 18 #[.pointer (some ⟨br,0,none⟩),.int .i64 (n:Int)] w (C0 K N w br bl d r)
def mZ (K:Nat->Tk)(N:Nat)(w:World)(br bl be d:Nat)(r:Except (Nat×Nat) (PX×Nat))(e:Ending)(w':World):Prop :=
 e=.returned (.tuple #[])/\Fr (fun k=>k≠br/\k≠be) w w'/\RSd K N w' br bl (stX r) d/\∀x j,r=.ok (x,j)->Aj (fun k=>k=be\/w.heap.size<=k) w' x (.pointer (some ⟨be,0,none⟩))
theorem Dk {K:Nat->Tk}{γ:Type}{s:SX}{m:List UInt8}{k:Nat->RX γ}{r:Except (Nat×Nat) (γ×Nat)}(h:Az s (fun i=>B7 K m i k)=some r):Az (Bk K s m) k=some r:=by
 rcases s with e|i
 ·exact h
 ·simp only[Az,B7,Bk] at h |-;cases a:(K i).tx==m with
  | true=>rw[a] at h;exact h
  | false=>rw[a] at h;simp only[Dg] at h;exact h
theorem Cy {K:Nat->Tk}{s:SX}{m:List UInt8}(h:OkS (Bk K s m)):OkS s:=by
 rcases s with e|i
 ·obtain⟨j,a⟩:=h;simp[Bk] at a
 ·exact⟨i,rfl⟩
theorem Cu {K:Nat->Tk}{N:Nat}(hK:∀i,Bs (K i))(hL:Bi K N)(w:World)(br bl:Nat)(s:SX)(d:Nat)(m:ByteArray)(hm:m.data.toList∈Dp)(hN:N<=1000000)(h:RSd K N w br bl s d) :
  Calls Tryz.prog 25 #[.pointer (some ⟨br,0,none⟩),.string m] w fun e w'=>e=.returned (.tuple #[])/\RSd K N w' br bl (Bk K s m.data.toList) d/\Fr (·≠br) w w':=by
 obtain⟨a,h,e⟩:=h;refine(dZ hK hL w br bl s a m hm hN h).mono ?_;rintro f w' ⟨rfl,b,c⟩;exact⟨rfl,⟨a,b,fun o=>e (Cy o)⟩,c⟩
def noX:PX:=Cw []
theorem Cz {β:Type}{s:SX}{x:β}{r:Except (Nat×Nat) (β×Nat)}(h:Az s (fun j=>okX x j)=some r):stX r=s/\∀y j,r=.ok (y,j)->y=x:=by
 rcases s with e|i
 ·obtain rfl:.error e=r:=by simpa [Az] using h
  exact⟨rfl,fun y j q=>by simp at q⟩
 ·obtain rfl:.ok (x,i)=r:=by simpa [Az,okX] using h
  exact⟨rfl,fun y j q=>by simp at q;exact q.1.symm⟩
theorem Ci {β:Type}(z:β){r:Except (Nat×Nat) (β×Nat)}(h:OkS (stX r)):∃j,r=.ok (Ao z r,j):=by
 rcases r with e|⟨x,j⟩
 ·obtain⟨i,a⟩:=h;simp[stX] at a
 ·exact⟨j,rfl⟩
theorem Dx {r:Except (Nat×Nat) (List UInt8×Nat)}(h:OkS (stX r)):(Cb r).data.toList=Ao [] r:=by
 rcases r with e|⟨x,j⟩
 ·obtain⟨i,a⟩:=h;simp[stX] at a
 ·rfl
theorem Dz {β:Type}{x:β}{j:Nat}{r:Except (Nat×Nat) (β×Nat)}(h:r=.ok (x,j)):OkS (stX r):=⟨j,by rw[h];rfl⟩
theorem Er {K:Nat->Tk}{N:Nat}(hL:Bi K N)(w:World)(br bl:Nat)(s:SX)(d:Nat)(hN:N<=1000000)(h:RSd K N w br bl s d)(r:Except (Nat×Nat) (List UInt8×Nat))(hr:Az s (Au K)=some r) :
  Calls Tryz.prog 26 #[.pointer (some ⟨br,0,none⟩)] w fun e w'=>e=.returned (.string (Cb r))/\RSd K N w' br bl (stX r) d/\Fr (·≠br) w w':=by
 obtain⟨a,h,e⟩:=h;refine(eA hL w br bl s a hN h r hr).mono ?_;rintro f w' ⟨rfl,b,c⟩;exact⟨rfl,⟨a,b,fun o=>e (Dw hr o)⟩,c⟩
theorem Fr.wide {br be:Nat}{w w':World}(h:Fr (·≠br) w w'):Fr (fun k=>k≠br/\k≠be) w w':=h.mono fun _ q=>q.1
theorem lD {w:World}{be lo:Nat}{op nm tx:ByteArray}{a0 k0 n0:Int}{pa:Option Addr}{len cap m:Nat}(he:Av w be op a0 nm k0 n0 tx pa len cap){vs:Array Value}{kids:List PX}(hm:m=kids.length)(hm4:m<=4294967296)
  (hk:∀(i:Nat)(x:PX),kids[i]?=some x->∃v,vs[i]?=some v/\Aj (fun k=>lo<=k/\k≠be) w x v) (hlo:lo<=w.heap.size) {x:PX} (hx:Hr op.data.toList nm.data.toList k0 n0 tx.data.toList kids x) :
  Aj (fun k=>k=be\/lo<=k) ((w.setCell ⟨be,8,none⟩ (.slice (some ⟨w.heap.size,0,none⟩) m m)).alloc (.cells vs 26 (0,0))) x (.pointer (some ⟨be,0,none⟩)):=by
 have c:Fr (·≠be) w ((w.setCell ⟨be,8,none⟩ (.slice (some ⟨w.heap.size,0,none⟩) m m)).alloc (.cells vs 26 (0,0))):=((Fr.refl _ w).set (by simp) _).alloc _;have b:Av ((w.setCell ⟨be,8,none⟩ (.slice (some ⟨w.heap.size,0,none⟩) m m)).alloc (.cells vs 26 (0,0))) be op a0 nm k0 n0 tx (some ⟨w.heap.size,0,none⟩) m m:=(he.kids _ _ _).of (P:=fun _=>True) ((Fr.refl _ _).alloc _) trivial;have a:((w.setCell ⟨be,8,none⟩ (.slice (some ⟨w.heap.size,0,none⟩) m m)).alloc (.cells vs 26 (0,0))).heap[w.heap.size]?=some (.cells vs 26 (0,0)):=Af (by simp);refine Aj.node ⟨be,op,nm,tx,a0,k0,n0,_,m,m,kids,rfl,.inl rfl,b,⟨hm,hm4,.inr ⟨w.heap.size,0,rfl,Ac a,.inr hlo,fun i x q=>?_⟩⟩,hx⟩;obtain⟨v,e,d⟩:=hk i x q;exact⟨v,by rw[Nat.zero_add,Aa a];exact e,d.fr (c.mono fun k q=>q.2) fun k _ q=>.inr q.1⟩
def hJ (K:Nat->Tk)(self:Nat->Nat->Nat->RX PX)(mk:List UInt8)(q d:Nat)(D:List UInt8->PX->PX->PX)(i:Nat):RX PX :=
 bX (Au K i) fun n j=>B7 K mk j fun j=>bX (self q d j) fun a j=>B7 K [58] j fun j=>bX (self 0 d j) fun b j=>okX (D n a b) j
theorem J4 {K:Nat->Tk}{N br bl:Nat}{self:Nat->Nat->Nat->RX PX}(hS:Ch K N br bl self)(hK:∀i,Bs (K i))(hL:Bi K N)(hN:N<=1000000)(w:World)(be d:Nat)(s:SX)(op:ByteArray)(a0:Int)(hd:OkS s->d<=24)(hbe:be≠br)(hbl:be≠bl)(h:RSd K N w br bl s d)(he:Av w be op a0 ⟨#[]⟩ 0 0 ⟨#[]⟩ none 0 0)
  (mk:ByteArray) (q:Nat) (D:List UInt8->PX->PX->PX) (hmq:op.data.toList=Jg/\mk=⟨#[61]⟩/\q=0\/op.data.toList≠Jg/\mk=⟨#[105,110]⟩/\q=8) (hM:∀n a b,Hr op.data.toList n 0 0 [] [a,b] (D n a b))
  (r:Except (Nat×Nat) (PX×Nat)) (hr:Az s (hJ K self mk.data.toList q d D)=some r) :
  Calls Tryz.prog 74 #[.pointer (some ⟨br,0,none⟩),.pointer (some ⟨be,0,none⟩)] w (mZ K N w br bl be d r):=by
 have HS:Hid (Ch K N br bl self):=hS;have HK:Hid (∀i,Bs (K i)):=hK;have HL:Hid (Bi K N):=hL;have HE:Hid (Av w be op a0 ⟨#[]⟩ 0 0 ⟨#[]⟩ none 0 0):=he;have HM:Hid (∀n a b,Hr op.data.toList n 0 0 [] [a,b] (D n a b)):=hM;obtain⟨c,A,hr⟩:=A3 [] hr;have hr:=Dk hr;obtain⟨f,B,hr⟩:=A3 noX hr;have hr:=Dk hr;obtain⟨u,h3,hr⟩:=A3 noX hr;have HR:Hid (stX r=stX u/\∀y j,r=.ok (y,j)->y=D (Ao [] c) (Ao noX f) (Ao noX u)):=Cz hr;have a1:Hid (OkS (stX u)->OkS (stX f)):=fun o=>Cy (Dw h3 o);have M:Hid (OkS (stX f)->OkS (stX c)):=fun o=>Cy (Dw B o);have J:Hid (OkS (stX c)->d<=24):=fun o=>hd (Dw A o);have L:Hid (Calls _ _ _ _ _):=Er hL w br bl s d hN h c A;have H2:Hid (Az (Bk K (stX c) mk.data.toList) (self q d)=some f):=B;have H3:Hid (Az (Bk K (stX f) [58]) (self 0 d)=some u):=h3;have a9:=h.lt;obtain⟨a3,a4⟩:=h.row;have Y:op.toList=op.data.toList:=ByteArray.toList_eq op;have a2:mk.data.toList∈Dp:=by rcases hmq with⟨-,rfl,-⟩|⟨-,rfl,-⟩<;>decide
 have Q:q<=12:=by omega
 have hq:(op.toList==[108,101,116])=true/\mk=⟨#[61]⟩/\q=0\/(op.toList==[108,101,116])=false/\mk=⟨#[105,110]⟩/\q=8:=by
  rw[Y];rcases hmq with⟨e,A,B⟩|⟨e,A,B⟩
  ·exact .inl ⟨by rw[e];rfl,A,B⟩
  ·exact .inr ⟨by simpa [Jg] using e,A,B⟩
 clear hS hK hL he hM h hr A B h3 Y hmq hd;have mo:=follows;go_enter Tryz.func74,Tryz.ntmps74
 go_wp2_with fail
 refine L.out.mono ?_;rintro e g ⟨rfl,R,C⟩;have R1:Hid (RSd K N g br bl (stX c) d):=R;have F1:Hid (Fr (fun k=>k≠br/\k≠be) w g):=C.wide;have I:Hid (Av g be op a0 ⟨#[]⟩ 0 0 ⟨#[]⟩ none 0 0):=HE.out.of C hbe;have c0:=Aa I.out 0;have c2:=Aa I.out 2;have f2:=Ab I.out 2;clear R C L HE;have E2:Hid (Av (g.setCell ⟨be,2,none⟩ (.string (Cb c))) be op a0 (Cb c) 0 0 ⟨#[]⟩ none 0 0):=I.out.name _;have G:Fr (·≠be) g (g.setCell ⟨be,2,none⟩ (.string (Cb c))):=(Fr.refl _ g).set (by simp) _;have R2:Hid (RSd K N (g.setCell ⟨be,2,none⟩ (.string (Cb c))) br bl (stX c) d):=R1.out.fr G (Ne.symm hbe) (Ne.symm hbl);have F2:Hid (Fr (fun k=>k≠br/\k≠be) w (g.setCell ⟨be,2,none⟩ (.string (Cb c)))):=F1.out.trans (G.mono fun _ q=>q.2);clear G I R1 F1;rcases hq with⟨hq,rfl,rfl⟩|⟨hq,rfl,rfl⟩
 all_goals
  go_wp2_with fail
  clear c0 c2 f2;generalize g.setCell ⟨be,2,none⟩ (.string (Cb c))=w2 at E2 R2 F2 |-;refine(Cu HK.out HL.out w2 br bl _ d _ a2 hN R2.out).mono ?_;rintro e v ⟨rfl,S,E⟩;have R3:Hid (RSd K N v br bl _ d):=S;have F3:Hid (Fr (fun k=>k≠br/\k≠be) w v):=F2.out.trans E.wide;have E3:Hid (Av v be op a0 (Cb c) 0 0 ⟨#[]⟩ none 0 0):=E2.out.of E hbe;clear S E E2 R2 F2;go_wp2_with fail
  refine(HS.out v _ d _ f Q (fun o=>J.out (Cy o)) R3.out H2.out).mono ?_;rintro e Z ⟨F,T,O,rfl,W⟩;have R4:Hid (RSd K N Z br bl (stX f) d):=T;have F4:Hid (Fr (fun k=>k≠br/\k≠be) w Z):=F3.out.trans F.wide;have E4:Hid (Av Z be op a0 (Cb c) 0 0 ⟨#[]⟩ none 0 0):=E3.out.of F hbe;have A4:Hid (∀x j,f=.ok (x,j)->Aj (fun k=>v.heap.size<=k) Z x (.pointer (some ⟨O,0,none⟩))):=W;have b0:=F3.out.size;have a6:be<v.heap.size:=Ac E3.out;have a5:=R3.out.lt;clear T F W E3 R3 F3;go_wp2_with fail
  refine(Cu HK.out HL.out Z br bl _ d ⟨#[58]⟩ (by decide) hN R4.out).mono ?_;rintro e H ⟨rfl,U,p⟩;have R5:Hid (RSd K N H br bl (Bk K (stX f) [58]) d):=U;have F5:Hid (Fr (fun k=>k≠br/\k≠be) w H):=F4.out.trans p.wide;have E5:Hid (Av H be op a0 (Cb c) 0 0 ⟨#[]⟩ none 0 0):=E4.out.of p hbe;have A5:Hid (∀x j,f=.ok (x,j)->Aj (fun k=>v.heap.size<=k) H x (.pointer (some ⟨O,0,none⟩))):=fun x j e=>(A4.out x j e).fr (p.mono fun k q=>by omega) fun _ _ q=>q;clear U p E4 R4 F4 A4;go_wp2_with fail
  refine(HS.out H 0 d _ u (by omega) (fun o=>J.out (M.out (Cy o))) R5.out H3.out).mono ?_;rintro e l ⟨t,V,bb,rfl,X⟩;have R6:Hid (RSd K N l br bl (stX u) d):=V;have F6:Hid (Fr (fun k=>k≠br/\k≠be) w l):=F5.out.trans t.wide;have E6:Hid (Av l be op a0 (Cb c) 0 0 ⟨#[]⟩ none 0 0):=E5.out.of t hbe;have A6:Hid (∀x j,f=.ok (x,j)->Aj (fun k=>v.heap.size<=k) l x (.pointer (some ⟨O,0,none⟩))):=fun x j e=>(A5.out x j e).fr (t.mono fun k q=>by omega) fun _ _ q=>q;have B6:Hid (∀x j,u=.ok (x,j)->Aj (fun k=>H.heap.size<=k) l x (.pointer (some ⟨bb,0,none⟩))):=X;have b1:=F5.out.size;have a7:be<H.heap.size:=Ac E5.out;have b2:=F6.out.size;have c8:=Aa E6.out 8;have f8:=Ab E6.out 8;have a8:be<l.heap.size:=Ac E6.out;clear V t X E5 R5 F5 A5;go_wp2_with fail
  go_end0
  have P:Fr (·≠be) l ((l.setCell ⟨be,8,none⟩ (.slice (some ⟨l.heap.size,0,none⟩) 2 2)).alloc (.cells #[.pointer (some ⟨O,0,none⟩),.pointer (some ⟨bb,0,none⟩)] 26)):=((Fr.refl _ l).set (by simp) _).alloc _;refine⟨rfl,F6.out.trans (P.mono fun _ q=>q.2),by rw[HR.out.1];exact R6.out.fr P (Ne.symm hbe) (Ne.symm hbl),fun x j e=>?_⟩;have o3:OkS (stX u):=by rw[<- HR.out.1];exact Dz e
  have o2:=a1.out o3;have o1:=M.out o2;obtain⟨j2,e2⟩:=Ci noX o2;obtain⟨j3,e3⟩:=Ci noX o3;rw[HR.out.2 x j e];exact lD (lo:=w.heap.size) E6.out (m:=2) (vs:=#[.pointer (some ⟨O,0,none⟩),.pointer (some ⟨bb,0,none⟩)]) (kids:=[Ao noX f,Ao noX u]) rfl (by omega) (fun k z qz=>by
   match k with
   | 0=>simp at qz;subst qz;exact⟨_,rfl,(A6.out _ _ e2).fr (Fr.refl _ _) fun _ _ q=>by omega⟩
   | 1=>simp at qz;subst qz;exact⟨_,rfl,(B6.out _ _ e3).fr (Fr.refl _ _) fun _ _ q=>by omega⟩
   | k+2=>simp at qz) (by omega) (by rw[Dx o1];exact HM.out _ _ _)
theorem cQ:(Tryz.prog.info? 26).map (fun i=>(i.zero,i.size,i.bytes))=some (some (.pointer none),1,8):=by kernel_rfl
theorem hY {w w':World}{base:Nat}{sl:Value}{n:Nat}{vs:List Value}(h:w.ownsRow base 26 1 sl n vs)(hb:∀g,sl.ownBlock=some g->base<=g->g<w.heap.size->w'.heap[g]?=w.heap[g]?):w'.ownsRow base 26 1 sl n vs:=by
 refine⟨h.1,?_⟩;rcases h.2 with f|⟨g,a,b,e,c,d,r⟩
 ·exact .inl f
 ·exact .inr ⟨g,a,b,e,c,(hb g (by rw[e];rfl) c (Ac d)).trans d,r⟩
def LTS (w:World)(lo:Nat)(sl:Value)(n:Nat)(es:List PX)(c:Prop):Prop :=
 ∃vs,w.ownsRow lo 26 1 sl n vs/\(c->n=es.length/\∀(i:Nat)(x:PX),es[i]?=some x->∃v,vs[i]?=some v/\Aj (fun k=>lo<=k/\sl.ownBlock≠some k) w x v)
theorem LTS.nil (w:World)(lo:Nat)(c:Prop):LTS w lo (.slice none 0 0) 0 [] c:=⟨[],World.ownsRow_nil _ _ _ _,fun _=>⟨rfl,fun i x q=>by simp at q⟩⟩
theorem LTS.fr {w w':World}{lo br n:Nat}{sl:Value}{es:List PX}{c c':Prop}(h:LTS w lo sl n es c)(hc:c'->c)(f:Fr (·≠br) w w')(hbr:br<lo):LTS w' lo sl n es c':=by
 obtain⟨m,a,b⟩:=h;refine⟨m,hY a (fun g _ hg hlt=>f.block g hlt (by omega)),fun q=>?_⟩;obtain⟨d,e⟩:=b (hc q);refine⟨d,fun i x q=>?_⟩;obtain⟨v,l,j⟩:=e i x q;exact⟨v,l,j.fr (f.mono fun k hk=>by have:=hk.1;omega) fun _ _ q=>q⟩
theorem LTS.slice {w:World}{lo n:Nat}{sl:Value}{es:List PX}{c:Prop}(h:LTS w lo sl n es c):∃a cap,sl=.slice a n cap:=by
 obtain⟨f,d,-⟩:=h;rcases d.2 with⟨rfl,e⟩|⟨g,cap,b,rfl,-⟩
 ·exact⟨none,0,by rw[e]⟩
 ·exact⟨_,cap,rfl⟩
theorem LTS.row {w:World}{lo n cap:Nat}{a:Option Addr}{es:List PX}{c:Prop}(h:LTS w lo (.slice a n cap) n es c)(hl:n<=4294967296)(hc:c):Bw (fun k=>lo<=k) w (Aj (fun k=>lo<=k) w) a n es:=by
 obtain⟨A,m,o⟩:=h;obtain⟨f,p⟩:=o hc;rcases m.2 with⟨e,u⟩|⟨g,d,l,e,t,j,s,_,z,y⟩
 ·exact⟨f,hl,.inl u⟩
 ·injection e with e1 e2 e3
  subst e1;refine⟨f,hl,.inr ⟨g,0,rfl,Ac j,t,fun i x q=>?_⟩⟩;obtain⟨v,b,r⟩:=p i x q;refine⟨v,?_,r.fr (Fr.refl _ _) fun _ _ q=>q.1⟩;rw[Nat.zero_add,Aa j];rw[<- y,List.getElem?_take] at b;split at b
  ·simpa using b
  ·simp at b
theorem LTS.push {w1 w2:World}{lo lx g cap n b:Nat}{es:List PX}{sl:Value}{vs:List Value}{x:PX}{c c':Prop}{o:Obj}(hc:c'->c)
  (h1:w1.ownsRow lo 26 1 sl n vs) (h2:c->n=es.length/\∀(i:Nat)(x:PX),es[i]?=some x->∃v,vs[i]?=some v/\Aj (fun k=>lo<=k/\sl.ownBlock≠some k) w1 x v)
  (hx:c'->Aj (fun k=>lx<=k) w1 x (.pointer (some ⟨b,0,none⟩))) (hlx:lo<=lx) (hsl:∀q,sl.ownBlock=some q->q<lx)
  (ho:w2.ownsRow lo 26 1 (.slice (some ⟨g,0,none⟩) (n+1) cap) (n+1) (vs++[.pointer (some ⟨b,0,none⟩)])) (hg:(w1.alloc o).grownBy w2 sl.ownBlock) (hat:sl.ownBlock=some g\/g=w1.heap.size+1) :
  LTS w2 lo (.slice (some ⟨g,0,none⟩) (n+1) cap) (n+1) (es++[x]) c'/\Fr (fun k=>sl.ownBlock≠some k) w1 w2:=by
 have d:=World.grownBy_alloc w1 o sl.ownBlock;have j:Fr (fun k=>sl.ownBlock≠some k) w1 w2:=⟨hg.os.trans d.os,hg.tape.trans d.tape,hg.output.trans d.output,Nat.le_trans d.size hg.size,fun k hk hp=>(hg.block k (Nat.lt_of_lt_of_le hk d.size) (fun e=>hp e.symm)).trans (d.block k hk (fun e=>hp e.symm))⟩;refine⟨⟨_,ho,fun q=>?_⟩,j⟩;obtain⟨l,m⟩:=h2 (hc q);have h:vs.length=es.length:=by have:=h1.1;omega
 have a:∀(z:PX)(t:Value),Aj (fun k=>lo<=k/\sl.ownBlock≠some k) w1 z t->Aj (fun k=>lo<=k/\(Value.slice (some ⟨g,0,none⟩) (n+1) cap).ownBlock≠some k) w2 z t:=by
  intro z t u;refine u.fr (j.mono fun _ q=>q.2) fun k hk hp=>⟨hp.1,fun e=>?_⟩;simp only[Value.ownBlock,Option.some.injEq] at e;subst e;rcases hat with q|q
  ·exact hp.2 q
  ·omega
 refine⟨by rw[List.length_append,l];rfl,fun i y qy=>?_⟩;by_cases r:i<es.length
 ·rw[List.getElem?_append_left r] at qy;obtain⟨w,s,p⟩:=m i y qy;exact⟨w,by rw[List.getElem?_append_left (by omega)];exact s,a _ _ p⟩
 ·have f:i=es.length:=by
   have:=(List.getElem?_eq_some_iff.1 qy).1;simp at this;omega
  subst f;rw[List.getElem?_append_right (Nat.le_refl _)] at qy;simp at qy;subst qy;exact⟨_,by rw[List.getElem?_append_right (by omega)];simp[h],a _ _ ((hx q).fr (Fr.refl _ _) fun k _ hk=>⟨by omega,fun e=>by have:=hsl k e;omega⟩)⟩
def hZ (K:Nat->Tk)(N:Nat)(w:World)(br bl d:Nat)(r:Except (Nat×Nat) (List PX×Nat))(e:Ending)(w':World):Prop :=
 Fr (·≠br) w w'/\RSd K N w' br bl (stX r) d/\∃a len cap,e=.returned (.slice a len cap)/\∀l j,r=.ok (l,j)->Bw (fun k=>w.heap.size<=k) w' (Aj (fun k=>w.heap.size<=k) w') a len l
theorem Ld {K:Nat->Tk}{β:Type}{item:Nat->RX β}{cl:List UInt8}{s1:SX}{f:Nat}{acc:List β}{r:Except (Nat×Nat) (List β×Nat)}(hb:isS K s1 [44]=true)(hc:cl≠[44])
  (hk:Az s1 (fun j=>if (K j).tx==cl then okX acc (j+1) else B7 K [44] j fun j=>A2 K cl item f acc j)=some r):∃j,Cp K s1 [44]=.ok (j+1)/\OkS s1/\A2 K cl item f acc (j+1)=some r:=by
 rcases s1 with e|j
 ·simp[isS] at hb
 ·have a:((K j).tx==[44])=true:=hb;have b:((K j).tx==cl)=false:=by
   rw[eq_of_beq a];rw[beq_eq_false_iff_ne];exact Ne.symm hc
  simp only[Az,b,B7,a] at hk;exact⟨j,by simp only[Cp,a];rfl,⟨j,rfl⟩,by simpa using hk⟩
theorem Le {K:Nat->Tk}{β:Type}{item:Nat->RX β}{cl:List UInt8}{s1:SX}{f:Nat}{acc:List β}{r:Except (Nat×Nat) (List β×Nat)}(hb:isS K s1 [44]=false)
  (hk:Az s1 (fun j=>if (K j).tx==cl then okX acc (j+1) else B7 K [44] j fun j=>A2 K cl item f acc j)=some r):Cp K s1 [44]=s1/\Az (Bk K s1 cl) (fun j=>okX acc j)=some r:=by
 rcases s1 with e|j
 ·exact⟨rfl,hk⟩
 ·have a:((K j).tx==[44])=false:=hb;refine⟨by simp only[Cp,a];rfl,?_⟩;simp only[Az,B7,a,Bk] at hk |-;cases b:(K j).tx==cl with
  | true=>rw[b] at hk;exact hk
  | false=>rw[b] at hk;simpa [Dg] using hk
theorem kD {K:Nat->Tk}{s:SX}{m:List UInt8}(h:OkS (Cp K s m)):OkS s:=by
 rcases s with e|i
 ·obtain⟨j,a⟩:=h;simp[Cp] at a
 ·exact⟨i,rfl⟩
theorem Gc {K:Nat->Tk}{N:Nat}(hK:∀i,Bs (K i))(hL:Bi K N)(w:World)(br bl:Nat)(s:SX)(d:Nat)(m:ByteArray)(hm:m.data.toList∈Dp)(hN:N<=1000000)(h:RSd K N w br bl s d) :
  Calls Tryz.prog 46 #[.pointer (some ⟨br,0,none⟩),.string m] w fun e w'=>e=.returned (.bool (isS K s m.data.toList))/\RSd K N w' br bl (Cp K s m.data.toList) d/\Fr (·≠br) w w':=by
 obtain⟨a,h,e⟩:=h;refine(S9 hK hL w br bl s a m hm hN h).mono ?_;rintro f w' ⟨rfl,b,c⟩;exact⟨rfl,⟨a,b,fun o=>e (kD o)⟩,c⟩
theorem RSd.err {K:Nat->Tk}{N br bl:Nat}{w:World}{s:SX}{d:Nat}(h:RSd K N w br bl s d):w.cell? ⟨br,3,none⟩=some (.int .i64 (ec s))/\∀c p,s=.error (c,p)->((c:Int)==0)=false:=by
 obtain⟨g,h,-⟩:=h;have f:=h.fault;obtain⟨b,I,a,e,-⟩:=h;exact⟨Aa e 3,f⟩
theorem Tb {K:Nat->Tk}{N br bl:Nat}{self:Nat->Nat->Nat->RX PX}(hS:Ch K N br bl self)(hK:∀i,Bs (K i))(hL:Bi K N)(hN:N<=1000000)(w:World)(d m:Nat)(s:SX)(cl:ByteArray)(hd:OkS s->d<=24)(hm:m<=1000000)(hcl:cl.data.toList∈Dp)(hc44:cl.data.toList≠[44])(h:RSd K N w br bl s d)
  (r:Except (Nat×Nat) (List PX×Nat)) (hr:Az s (A2 K cl.data.toList (self 0 d) m [])=some r) :
  Calls Tryz.prog 108 #[.pointer (some ⟨br,0,none⟩),.string cl,.int .i64 1,.bool false] w (hZ K N w br bl d r):=by
 have HS:Hid (Ch K N br bl self):=hS;have HK:Hid (∀i,Bs (K i)):=hK;have HL:Hid (Bi K N):=hL;have HR:Hid (RSd K N w br bl s d):=h;have H0:Hid (Az s (A2 K cl.data.toList (self 0 d) m [])=some r):=hr;have b2:Hid (OkS s->d<=24):=hd;have F:=h.lt;have a5:=h.row.1;obtain⟨V,b5,b7,b8,b9⟩:∃V,Tryz.prog.info? 26=some V/\V.zero=some (.pointer none)/\V.size=1/\V.bytes=8:=by
  have:=cQ;cases hq:Tryz.prog.info? 26 with
  | none=>rw[hq] at this;simp at this
  | some j=>rw[hq] at this;simp at this;exact⟨j,rfl,this.1,this.2.1,this.2.2⟩
 clear hS hK hL h hr hd;have mo:=follows;go_enter Tryz.func108,Tryz.ntmps108
 go_wp2_with fail
 go_loopg [9] (m) (fun f s9 wr=>∃(s:SX)(D:List PX)(n:Nat),n+f<=1000000/\Hid (OkS s->d<=24)/\Hid (RSd K N wr br bl s d)/\Hid (LTS wr w.heap.size s9 n D (OkS s))/\Hid (Az s (A2 K cl.data.toList (self 0 d) f D)=some r)/\Hid (Fr (·≠br) w wr))
 case atStart=>exact⟨s,[],0,by simpa using hm,b2,HR,LTS.nil _ _ _,H0,Fr.refl _ _⟩
 case round =>
  clear HR H0;obtain⟨s1,D,n,c0,b3,R1,L1,Z,F1⟩:=hrel;obtain⟨S,a,M⟩:=L1.out.slice;subst M;obtain⟨e3,t⟩:=R1.out.err;rcases s1 with⟨c,p⟩|i
  ·have hc:=t c p rfl;simp only[ec] at e3;have HQ:Hid (r=.error (c,p)):=by have:=Z.out;simp only[Az,Option.some.injEq] at this;exact this.symm
   clear t Z;go_wp2_with fail
   refine(Cu HK.out HL.out wr br bl _ d cl hcl hN R1.out).mono ?_;rintro e O ⟨rfl,H,z⟩;have R2:Hid (RSd K N O br bl (.error (c,p)) d):=H;have J:Hid (Fr (·≠br) w O):=F1.out.trans z;clear H z e3;go_wp2_with fail
   go_ret
   rw[HQ.out];exact⟨J.out,R2.out,S,n,a,rfl,fun l j e=>by simp at e⟩
  ·obtain⟨f,rfl⟩:∃f,gk=f+1:=by
    cases gk with
    | zero=>exact absurd Z.out (by simp[A2,Az])
    | succ f=>exact⟨f,rfl⟩
   simp only[ec] at e3;have hp:=Z.out;simp only[A2] at hp;obtain⟨b,h1,hk⟩:=A3 noX hp;have hd:=b3.out ⟨i,rfl⟩;clear t Z hp;go_wp2_with fail
   refine(HS.out wr 0 d _ b (by omega) (fun _=>hd) R1.out h1).mono ?_;rintro e O ⟨z,H,bx,rfl,b1⟩;have R2:Hid (RSd K N O br bl (stX b) d):=H;have J:Hid (Fr (·≠br) w O):=F1.out.trans z;have T2:Hid (OkS (stX b)->Aj (fun k=>wr.heap.size<=k) O (Ao noX b) (.pointer (some ⟨bx,0,none⟩))):=fun o=>by
    obtain⟨j,e⟩:=Ci noX o;exact b1 _ _ e
   have b6:=F1.out.size;have c1:=J.out.size;have c2:=z.size;have M:∀q,(Value.slice S n a).ownBlock=some q->q<wr.heap.size:=by
    obtain⟨vs,q1,-⟩:=L1.out;intro q hq;exact(q1.lt q hq).2
   obtain⟨vs,ho,a0⟩:=L1.out.fr (c':=OkS (stX b)) (fun _=>⟨i,rfl⟩) z F;have HO:Hid (O.ownsRow w.heap.size 26 1 (.slice S n a) n vs):=ho;have W:Hid (OkS (stX b)->_):=a0;have Y:Hid (∀q,(Value.slice S n a).ownBlock=some q->q<wr.heap.size):=M;have X:Hid ((O.alloc (.cells #[.pointer (some ⟨bx,0,none⟩)] 26)).ownsRow w.heap.size 26 1 (.slice S n a) n vs):=ho.alloc _;clear H z b1 ho a0 M R1 F1 L1 h1 e3;go_wp2_with (at_builtin;refine wpList_append_lies _ rfl _ _ 93 rfl _ 26 V _ 1 8 Tryz.underlying93 b5 b7 b8 b9 rfl (by decide) (.slice S n a) _ vs rfl X.out _ 1 1 [.pointer (some ⟨bx,0,none⟩)] rfl rfl ?q1 ?q2 (by decide) ?q3 ?q4 ?q5 (O.heap.size+1) ?q6 ?_)
   case q1 =>
    intro k u hk
    match k,hk with
    | 0,hk=>simp at hk;subst hk;simp[Addr.add]
    | k+1,hk=>simp at hk
   case q2 =>
    intro u hu;simp only[List.mem_cons,List.not_mem_nil,or_false] at hu;subst hu;rfl
   case q3=>unfold maxLen;omega
   case q4=>omega
   case q5=>simp;omega
   case q6=>simp
   intro g E Q a9 a6 P a7;obtain⟨a2,x⟩:=LTS.push (c:=OkS (stX b)) (c':=OkS (stX b)) id HO.out W.out T2.out b6 Y.out a9 a6 P;have L3:Hid (LTS Q w.heap.size (.slice (some ⟨g,0,none⟩) (n+1) E) (n+1) (D++[Ao noX b]) (OkS (stX b))):=a2;have B:∀k,k<w.heap.size->(Value.slice S n a).ownBlock≠some k:=fun k hk e=>by have:=(HO.out.lt k e).1;omega
   have F3:Hid (Fr (·≠br) w Q):=⟨x.os.trans J.out.os,x.tape.trans J.out.tape,x.output.trans J.out.output,Nat.le_trans J.out.size x.size,fun k hk hq=>(x.block k (by omega) (B k hk)).trans (J.out.block k hk hq)⟩;have a4:bl<w.heap.size:=a5;have R3:Hid (RSd K N Q br bl (stX b) d):=R2.out.fr x (B br F) (B bl a4);clear a9 a6 P a7 a2 x B W HO Y X T2 R2 J;have a3:n+1+f<=1000000:=by omega
   generalize D++[Ao noX b]=acc2 at L3 hk;have L:Hid (Calls _ _ _ _ _):=Gc HK.out HL.out Q br bl (stX b) d ⟨#[44]⟩ (by decide) hN R3.out;cases U:isS K (stX b) [44] with
   | true =>
    have v:Hid (Calls Tryz.prog 46 #[.pointer (some ⟨br,0,none⟩),.string ⟨#[44]⟩] Q fun e w'=>e=.returned (.bool true)/\RSd K N w' br bl (Cp K (stX b) [44]) d/\Fr (·≠br) Q w'):=by
     have:=L.out;rw[show(⟨#[44]⟩:ByteArray).data.toList=[44] from rfl,U] at this;exact this
    obtain⟨j2,ht,a8,G⟩:=Ld U hc44 hk;have b4:Hid (OkS (stX b)):=a8;have C:Hid (A2 K cl.data.toList (self 0 d) f acc2 (j2+1)=some r):=G;rw[ht] at v;clear U hk ht a8 G L;go_wp2_with (go_at_call 46;refine v.out.mono ?_;rintro e R ⟨rfl,I,A⟩;have R4:Hid (RSd K N R br bl (.ok (j2+1)) d):=I;have F4:Hid (Fr (·≠br) w R):=F3.out.trans A;have L4:Hid (LTS R w.heap.size (.slice (some ⟨g,0,none⟩) (n+1) E) (n+1) acc2 (OkS (.ok (j2+1)))):=L3.out.fr (fun _=>b4.out) A F;clear I A)
    go_roundg f
    case measure=>omega
    case rel=>exact⟨.ok (j2+1),acc2,n+1,a3,fun _=>hd,R4,L4,C,F4⟩
   | false =>
    have v:Hid (Calls Tryz.prog 46 #[.pointer (some ⟨br,0,none⟩),.string ⟨#[44]⟩] Q fun e w'=>e=.returned (.bool false)/\RSd K N w' br bl (Cp K (stX b) [44]) d/\Fr (·≠br) Q w'):=by
     have:=L.out;rw[show(⟨#[44]⟩:ByteArray).data.toList=[44] from rfl,U] at this;exact this
    obtain⟨ht,G⟩:=Le U hk;have C:Hid (stX r=Bk K (stX b) cl.data.toList/\∀y j,r=.ok (y,j)->y=acc2):=Cz G;rw[ht] at v;clear U hk ht G L;go_wp2_with (go_at_call 46;refine v.out.mono ?_;rintro e R ⟨rfl,I,A⟩;have R4:Hid (RSd K N R br bl (stX b) d):=I;have F4:Hid (Fr (·≠br) w R):=F3.out.trans A;have L4:Hid (LTS R w.heap.size (.slice (some ⟨g,0,none⟩) (n+1) E) (n+1) acc2 (OkS (stX b))):=L3.out.fr id A F;clear I A)
    refine(Cu HK.out HL.out R br bl _ d cl hcl hN R4.out).mono ?_;rintro e w5 ⟨rfl,b0,T⟩;have R5:Hid (RSd K N w5 br bl (Bk K (stX b) cl.data.toList) d):=b0;have F5:Hid (Fr (·≠br) w w5):=F4.out.trans T;have L5:Hid (LTS w5 w.heap.size (.slice (some ⟨g,0,none⟩) (n+1) E) (n+1) acc2 (OkS (stX b))):=L4.out.fr id T F;clear b0 T R4 F4 L4;go_wp2_with fail
    go_ret
    refine⟨F5.out,by rw[C.out.1];exact R5.out,_,n+1,E,rfl,fun l j e=>?_⟩;rw[C.out.2 l j e];exact L5.out.row (by omega) (Cy (by rw[<- C.out.1];exact Dz e))
theorem Qu {K:Nat->Tk}{N br bl:Nat}{self:Nat->Nat->Nat->RX PX}(hS:Ch K N br bl self)(hK:∀i,Bs (K i))(hL:Bi K N)(hN:N<=1000000)(w:World)(d m:Nat)(s:SX)(cl:ByteArray)(hd:OkS s->d<=24)(hm:m<=1000000)(hcl:cl.data.toList∈Dp)(hc44:cl.data.toList≠[44])(h:RSd K N w br bl s d)
  (r:Except (Nat×Nat) (List PX×Nat)) (hr:Az s (Lh K cl.data.toList (self 0 d) m)=some r) :
  Calls Tryz.prog 108 #[.pointer (some ⟨br,0,none⟩),.string cl,.int .i64 0,.bool false] w (hZ K N w br bl d r):=by
 have HS:Hid (Ch K N br bl self):=hS;have HK:Hid (∀i,Bs (K i)):=hK;have HL:Hid (Bi K N):=hL;have a0:Hid (OkS s->d<=24):=hd;have J:=h.lt;have a9:=h.row.1;obtain⟨i0,b9,c1,c2,c3⟩:∃i0,Tryz.prog.info? 26=some i0/\i0.zero=some (.pointer none)/\i0.size=1/\i0.bytes=8:=by
  have:=cQ;cases hq:Tryz.prog.info? 26 with
  | none=>rw[hq] at this;simp at this
  | some j=>rw[hq] at this;simp at this;exact⟨j,rfl,this.1,this.2.1,this.2.2⟩
 have F:Hid (Calls _ _ _ _ _):=Gc hK hL w br bl s d cl hcl hN h;clear hS hK hL h hd;have mo:=follows;cases A:isS K s cl.data.toList with
 | true =>
  rw[A] at F;rcases s with e|i
  ·simp[isS] at A
  have C:((K i).tx==cl.data.toList)=true:=A;have U:Cp K (.ok i) cl.data.toList=.ok (i+1):=by simp only[Cp,C];rfl
  rw[U] at F;clear a0;obtain rfl:.ok ([],i+1)=r:=by simpa [Az,Lh,C,okX] using hr
  clear hr A C U;go_enter Tryz.func108,Tryz.ntmps108
  go_wp2_with (go_at_call 46;refine F.out.mono ?_;rintro e O ⟨rfl,t,a⟩;have Z:Hid (RSd K N O br bl (.ok (i+1)) d):=t;have Y:Hid (Fr (·≠br) w O):=a;clear t a)
  go_ret
  exact⟨Y.out,Z.out,none,0,0,rfl,fun l j e=>by simp at e;rw[e.1];exact Hd _⟩
 | false =>
 rw[A] at F;have b5:Cp K s cl.data.toList=s:=by
  rcases s with e|i
  ·rfl
  ·have C:((K i).tx==cl.data.toList)=false:=A;simp only[Cp,C];rfl
 rw[b5] at F;have H0:Hid (Az s (A2 K cl.data.toList (self 0 d) m [])=some r):=by
  rcases s with e|i
  ·exact hr
  ·have C:((K i).tx==cl.data.toList)=false:=A;show _=_;simpa [Az,Lh,C] using hr
 clear hr A b5;go_enter Tryz.func108,Tryz.ntmps108
 go_wp2_with (go_at_call 46;refine F.out.mono ?_;rintro e w0 ⟨rfl,t,a⟩;have HR:Hid (RSd K N w0 br bl s d):=t;have F0:Hid (Fr (·≠br) w w0):=a;clear t a)
 go_loopg [9] (m) (fun f s9 wr=>∃(s:SX)(H:List PX)(n:Nat),n+f<=1000000/\Hid (OkS s->d<=24)/\Hid (RSd K N wr br bl s d)/\Hid (LTS wr w.heap.size s9 n H (OkS s))/\Hid (Az s (A2 K cl.data.toList (self 0 d) f H)=some r)/\Hid (Fr (·≠br) w wr))
 case atStart=>exact⟨s,[],0,by simpa using hm,a0,HR,LTS.nil _ _ _,H0,F0⟩
 case round =>
  clear HR H0 F0;obtain⟨s1,H,n,c4,b7,R1,L1,P1,F1⟩:=hrel;obtain⟨W,b,R⟩:=L1.out.slice;subst R;obtain⟨e3,x⟩:=R1.out.err;rcases s1 with⟨c,p⟩|i
  ·have hc:=x c p rfl;simp only[ec] at e3;have HQ:Hid (r=.error (c,p)):=by have:=P1.out;simp only[Az,Option.some.injEq] at this;exact this.symm
   clear x P1;go_wp2_with fail
   refine(Cu HK.out HL.out wr br bl _ d cl hcl hN R1.out).mono ?_;rintro e S ⟨rfl,M,D⟩;have R2:Hid (RSd K N S br bl (.error (c,p)) d):=M;have P:Hid (Fr (·≠br) w S):=F1.out.trans D;clear M D e3;go_wp2_with fail
   go_ret
   rw[HQ.out];exact⟨P.out,R2.out,W,n,b,rfl,fun l j e=>by simp at e⟩
  ·obtain⟨f,rfl⟩:∃f,gk=f+1:=by
    cases gk with
    | zero=>exact absurd P1.out (by simp[A2,Az])
    | succ f=>exact⟨f,rfl⟩
   simp only[ec] at e3;have hp:=P1.out;simp only[A2] at hp;obtain⟨v,h1,hk⟩:=A3 noX hp;have hd:=b7.out ⟨i,rfl⟩;clear x P1 hp;go_wp2_with fail
   refine(HS.out wr 0 d _ v (by omega) (fun _=>hd) R1.out h1).mono ?_;rintro e S ⟨D,M,bx,rfl,b6⟩;have R2:Hid (RSd K N S br bl (stX v) d):=M;have P:Hid (Fr (·≠br) w S):=F1.out.trans D;have T2:Hid (OkS (stX v)->Aj (fun k=>wr.heap.size<=k) S (Ao noX v) (.pointer (some ⟨bx,0,none⟩))):=fun o=>by
    obtain⟨j,e⟩:=Ci noX o;exact b6 _ _ e
   have c0:=F1.out.size;have c5:=P.out.size;have c6:=D.size;have R:∀q,(Value.slice W n b).ownBlock=some q->q<wr.heap.size:=by
    obtain⟨vs,q1,-⟩:=L1.out;intro q hq;exact(q1.lt q hq).2
   obtain⟨vs,ho,a5⟩:=L1.out.fr (c':=OkS (stX v)) (fun _=>⟨i,rfl⟩) D J;have HO:Hid (S.ownsRow w.heap.size 26 1 (.slice W n b) n vs):=ho;have a2:Hid (OkS (stX v)->_):=a5;have a4:Hid (∀q,(Value.slice W n b).ownBlock=some q->q<wr.heap.size):=R;have a3:Hid ((S.alloc (.cells #[.pointer (some ⟨bx,0,none⟩)] 26)).ownsRow w.heap.size 26 1 (.slice W n b) n vs):=ho.alloc _;clear M D b6 ho a5 R R1 F1 L1 h1 e3;go_wp2_with (at_builtin;refine wpList_append_lies _ rfl _ _ 93 rfl _ 26 i0 _ 1 8 Tryz.underlying93 b9 c1 c2 c3 rfl (by decide) (.slice W n b) _ vs rfl a3.out _ 1 1 [.pointer (some ⟨bx,0,none⟩)] rfl rfl ?q1 ?q2 (by decide) ?q3 ?q4 ?q5 (S.heap.size+1) ?q6 ?_)
   case q1 =>
    intro k u hk
    match k,hk with
    | 0,hk=>simp at hk;subst hk;simp[Addr.add]
    | k+1,hk=>simp at hk
   case q2 =>
    intro u hu;simp only[List.mem_cons,List.not_mem_nil,or_false] at hu;subst hu;rfl
   case q3=>unfold maxLen;omega
   case q4=>omega
   case q5=>simp;omega
   case q6=>simp
   intro g I V b3 b0 T b1;obtain⟨a6,B⟩:=LTS.push (c:=OkS (stX v)) (c':=OkS (stX v)) id HO.out a2.out T2.out c0 a4.out b3 b0 T;have L3:Hid (LTS V w.heap.size (.slice (some ⟨g,0,none⟩) (n+1) I) (n+1) (H++[Ao noX v]) (OkS (stX v))):=a6;have E:∀k,k<w.heap.size->(Value.slice W n b).ownBlock≠some k:=fun k hk e=>by have:=(HO.out.lt k e).1;omega
   have F3:Hid (Fr (·≠br) w V):=⟨B.os.trans P.out.os,B.tape.trans P.out.tape,B.output.trans P.out.output,Nat.le_trans P.out.size B.size,fun k hk hq=>(B.block k (by omega) (E k hk)).trans (P.out.block k hk hq)⟩;have a8:bl<w.heap.size:=a9;have R3:Hid (RSd K N V br bl (stX v) d):=R2.out.fr B (E br J) (E bl a8);clear b3 b0 T b1 a6 B E a2 HO a4 a3 T2 R2 P;have a7:n+1+f<=1000000:=by omega
   generalize H++[Ao noX v]=acc2 at L3 hk;have Q:Hid (Calls _ _ _ _ _):=Gc HK.out HL.out V br bl (stX v) d ⟨#[44]⟩ (by decide) hN R3.out;cases hb:isS K (stX v) [44] with
   | true =>
    have z:Hid (Calls Tryz.prog 46 #[.pointer (some ⟨br,0,none⟩),.string ⟨#[44]⟩] V fun e w'=>e=.returned (.bool true)/\RSd K N w' br bl (Cp K (stX v) [44]) d/\Fr (·≠br) V w'):=by
     have:=Q.out;rw[show(⟨#[44]⟩:ByteArray).data.toList=[44] from rfl,hb] at this;exact this
    obtain⟨j2,U,b2,L⟩:=Ld hb hc44 hk;have b8:Hid (OkS (stX v)):=b2;have G:Hid (A2 K cl.data.toList (self 0 d) f acc2 (j2+1)=some r):=L;rw[U] at z;clear hb hk U b2 L Q;go_wp2_with (go_at_call 46;refine z.out.mono ?_;rintro e O ⟨rfl,t,a⟩;have Z:Hid (RSd K N O br bl (.ok (j2+1)) d):=t;have Y:Hid (Fr (·≠br) w O):=F3.out.trans a;have L4:Hid (LTS O w.heap.size (.slice (some ⟨g,0,none⟩) (n+1) I) (n+1) acc2 (OkS (.ok (j2+1)))):=L3.out.fr (fun _=>b8.out) a J;clear t a)
    go_roundg f
    case measure=>omega
    case rel=>exact⟨.ok (j2+1),acc2,n+1,a7,fun _=>hd,Z,L4,G,Y⟩
   | false =>
    have z:Hid (Calls Tryz.prog 46 #[.pointer (some ⟨br,0,none⟩),.string ⟨#[44]⟩] V fun e w'=>e=.returned (.bool false)/\RSd K N w' br bl (Cp K (stX v) [44]) d/\Fr (·≠br) V w'):=by
     have:=Q.out;rw[show(⟨#[44]⟩:ByteArray).data.toList=[44] from rfl,hb] at this;exact this
    obtain⟨U,L⟩:=Le hb hk;have G:Hid (stX r=Bk K (stX v) cl.data.toList/\∀y j,r=.ok (y,j)->y=acc2):=Cz L;rw[U] at z;clear hb hk U L Q;go_wp2_with (go_at_call 46;refine z.out.mono ?_;rintro e O ⟨rfl,t,a⟩;have Z:Hid (RSd K N O br bl (stX v) d):=t;have Y:Hid (Fr (·≠br) w O):=F3.out.trans a;have L4:Hid (LTS O w.heap.size (.slice (some ⟨g,0,none⟩) (n+1) I) (n+1) acc2 (OkS (stX v))):=L3.out.fr id a J;clear t a)
    refine(Cu HK.out HL.out O br bl _ d cl hcl hN Z.out).mono ?_;rintro e w5 ⟨rfl,b4,X⟩;have R5:Hid (RSd K N w5 br bl (Bk K (stX v) cl.data.toList) d):=b4;have F5:Hid (Fr (·≠br) w w5):=Y.out.trans X;have L5:Hid (LTS w5 w.heap.size (.slice (some ⟨g,0,none⟩) (n+1) I) (n+1) acc2 (OkS (stX v))):=L4.out.fr id X J;clear b4 X Z Y L4;go_wp2_with fail
    go_ret
    refine⟨F5.out,by rw[G.out.1];exact R5.out,_,n+1,I,rfl,fun l j e=>?_⟩;rw[G.out.2 l j e];exact L5.out.row (by omega) (Cy (by rw[<- G.out.1];exact Dz e))
def Jq (l:List (PX×PX)):List PX:=l.flatMap fun p=>[p.1,p.2]
theorem LTS.congr {w:World}{lo n:Nat}{sl:Value}{es es':List PX}{c:Prop}(h:LTS w lo sl n es c)(e:c->es=es'):LTS w lo sl n es' c:=by
 obtain⟨d,a,b⟩:=h;exact⟨d,a,fun q=>by rw[<- e q];exact b q⟩
def kE (K:Nat->Tk)(N:Nat)(w:World)(br bl d:Nat)(r:Except (Nat×Nat) (List (PX×PX)×Nat))(e:Ending)(w':World):Prop :=
 Fr (·≠br) w w'/\RSd K N w' br bl (stX r) d/\∃a len cap,e=.returned (.slice a len cap)/\∀l j,r=.ok (l,j)->Bw (fun k=>w.heap.size<=k) w' (Aj (fun k=>w.heap.size<=k) w') a len (Jq l)
theorem eB {K:Nat->Tk}{N br bl:Nat}{self:Nat->Nat->Nat->RX PX}(hS:Ch K N br bl self)(hK:∀i,Bs (K i))(hL:Bi K N)(hN:N<=1000000)(w:World)(d m:Nat)(s:SX)(cl:ByteArray)(hd:OkS s->d<=24)(hm:m<=1000000)(hcl:cl.data.toList∈Dp)(hc44:cl.data.toList≠[44])(h:RSd K N w br bl s d)
  (r:Except (Nat×Nat) (List (PX×PX)×Nat)) (hr:Az s (A2 K cl.data.toList (Gt K self d) m [])=some r) :
  Calls Tryz.prog 108 #[.pointer (some ⟨br,0,none⟩),.string cl,.int .i64 1,.bool true] w (kE K N w br bl d r):=by
 have HS:Hid (Ch K N br bl self):=hS;have HK:Hid (∀i,Bs (K i)):=hK;have HL:Hid (Bi K N):=hL;have HR:Hid (RSd K N w br bl s d):=h;have H0:Hid (Az s (A2 K cl.data.toList (Gt K self d) m [])=some r):=hr;have d4:Hid (OkS s->d<=24):=hd;have F:=h.lt;have b5:=h.row.1;obtain⟨i0,c6,d1,d2,d3⟩:∃i0,Tryz.prog.info? 26=some i0/\i0.zero=some (.pointer none)/\i0.size=1/\i0.bytes=8:=by
  have:=cQ;cases hq:Tryz.prog.info? 26 with
  | none=>rw[hq] at this;simp at this
  | some j=>rw[hq] at this;simp at this;exact⟨j,rfl,this.1,this.2.1,this.2.2⟩
 clear hS hK hL h hr hd;have mo:=follows;go_enter Tryz.func108,Tryz.ntmps108
 go_wp2_with fail
 go_loopg [9] (m) (fun f s9 wr=>∃(s:SX)(C:List (PX×PX))(n:Nat),n+2*f<=2000000/\Hid (OkS s->d<=24)/\Hid (RSd K N wr br bl s d)/\Hid (LTS wr w.heap.size s9 n (Jq C) (OkS s))/\Hid (Az s (A2 K cl.data.toList (Gt K self d) f C)=some r)/\Hid (Fr (·≠br) w wr))
 case atStart=>exact⟨s,[],0,by omega,d4,HR,LTS.nil _ _ _,H0,Fr.refl _ _⟩
 case round =>
  clear HR H0;obtain⟨s1,C,n,e1,d5,R1,L1,P1,F1⟩:=hrel;obtain⟨a1,x,d8⟩:=L1.out.slice;subst d8;obtain⟨e3,A⟩:=R1.out.err;rcases s1 with⟨c,p⟩|i
  ·have hc:=A c p rfl;simp only[ec] at e3;have HQ:Hid (r=.error (c,p)):=by have:=P1.out;simp only[Az,Option.some.injEq] at this;exact this.symm
   clear A P1;go_wp2_with fail
   refine(Cu HK.out HL.out wr br bl _ d cl hcl hN R1.out).mono ?_;rintro e w2 ⟨rfl,a4,L⟩;have R2:Hid (RSd K N w2 br bl (.error (c,p)) d):=a4;have F2:Hid (Fr (·≠br) w w2):=F1.out.trans L;clear a4 L e3;go_wp2_with fail
   go_ret
   rw[HQ.out];exact⟨F2.out,R2.out,a1,n,x,rfl,fun l j e=>by simp at e⟩
  ·obtain⟨f,rfl⟩:∃f,gk=f+1:=by
    cases gk with
    | zero=>exact absurd P1.out (by simp[A2,Az])
    | succ f=>exact⟨f,rfl⟩
   simp only[ec] at e3;have hp:=P1.out;simp only[A2] at hp;obtain⟨rp,G,hk⟩:=A3 (noX,noX) hp;obtain⟨I,h1,G⟩:=A3 noX G;have hd:=d5.out ⟨i,rfl⟩;have G:=Dk G;obtain⟨v,h2,G⟩:=A3 noX G;obtain⟨b9,d0⟩:=Cz G;have c1:Hid (OkS (stX v)->Ao (noX,noX) rp=(Ao noX I,Ao noX v)):=fun o=>by
    rw[<- b9] at o;obtain⟨j,e⟩:=Ci (noX,noX) o;exact d0 _ _ e
   rw[b9] at hk;have c0:Hid (OkS (stX v)->OkS (stX I)):=fun o=>Cy (Dw h2 o);have H2:Hid (Az (Bk K (stX I) [58]) (self 0 d)=some v):=h2;clear A P1 hp G b9 d0 h2;go_wp2_with fail
   refine(HS.out wr 0 d _ I (by omega) (fun _=>hd) R1.out h1).mono ?_;rintro e w2 ⟨L,a4,bx,rfl,c8⟩;have R2:Hid (RSd K N w2 br bl (stX I) d):=a4;have F2:Hid (Fr (·≠br) w w2):=F1.out.trans L;have T2:Hid (OkS (stX I)->Aj (fun k=>wr.heap.size<=k) w2 (Ao noX I) (.pointer (some ⟨bx,0,none⟩))):=fun o=>by
    obtain⟨j,e⟩:=Ci noX o;exact c8 _ _ e
   have e2:=F1.out.size;have e4:=F2.out.size;have e5:=L.size;have a6:∀q,(Value.slice a1 n x).ownBlock=some q->q<wr.heap.size:=by
    obtain⟨vs,q1,-⟩:=L1.out;intro q hq;exact(q1.lt q hq).2
   obtain⟨a8,a2,b3⟩:=L1.out.fr (c':=OkS (stX I)) (fun _=>⟨i,rfl⟩) L F;have Q:Hid (w2.ownsRow w.heap.size 26 1 (.slice a1 n x) n a8):=a2;have b1:Hid (OkS (stX I)->_):=b3;have T:Hid (∀q,((.slice a1 n x):Value).ownBlock=some q->q<wr.heap.size):=a6;have O:Hid ((w2.alloc (.cells #[.pointer (some ⟨bx,0,none⟩)] 26)).ownsRow w.heap.size 26 1 (.slice a1 n x) n a8):=a2.alloc _;clear a4 L c8 R1 F1 L1 h1 e3 a2 b3 a6;go_wp2_with (at_builtin;refine wpList_append_lies _ rfl _ _ 93 rfl _ 26 i0 _ 1 8 Tryz.underlying93 c6 d1 d2 d3 rfl (by decide) (.slice a1 n x) _ a8 rfl O.out _ 1 1 [.pointer (some ⟨bx,0,none⟩)] rfl rfl ?q1 ?q2 (by decide) ?q3 ?q4 ?q5 (w2.heap.size+1) ?q6 ?_)
   case q1 =>
    intro k u hk
    match k,hk with
    | 0,hk=>simp at hk;subst hk;simp[Addr.add]
    | k+1,hk=>simp at hk
   case q2 =>
    intro u hu;simp only[List.mem_cons,List.not_mem_nil,or_false] at hu;subst hu;rfl
   case q3=>unfold maxLen;omega
   case q4=>omega
   case q5=>simp;omega
   case q6=>simp
   intro D a w3 a0 X E Z;obtain⟨W,b⟩:=LTS.push (c:=OkS (stX I)) (c':=OkS (stX I)) id Q.out b1.out T2.out (by omega) T.out a0 X E;have c2:Hid (LTS w3 w.heap.size (.slice (some ⟨D,0,none⟩) (n+1) a) (n+1) (Jq C++[Ao noX I]) (OkS (stX I))):=W;have g:∀k,k<w.heap.size->((.slice a1 n x):Value).ownBlock≠some k:=fun k hk e=>by have:=(Q.out.lt k e).1;omega
   have b6:Hid (Fr (·≠br) w w3):=⟨b.os.trans F2.out.os,b.tape.trans F2.out.tape,b.output.trans F2.out.output,Nat.le_trans F2.out.size b.size,fun k hk hq=>(b.block k (by omega) (g k hk)).trans (F2.out.block k hk hq)⟩;have c4:Hid (RSd K N w3 br bl _ d):=R2.out.fr b (g br F) (g bl b5);have d9:=b6.out.size;clear a0 X E Z W b g b1 Q T O T2 R2 F2;go_wp2_with fail
   refine(Cu HK.out HL.out w3 br bl _ d ⟨#[58]⟩ (by decide) hN c4.out).mono ?_;rintro e J ⟨rfl,H,z⟩;have R4:Hid (RSd K N J br bl (Bk K (stX I) [58]) d):=H;have F4:Hid (Fr (·≠br) w J):=b6.out.trans z;have L4:Hid (LTS J w.heap.size (.slice (some ⟨D,0,none⟩) (n+1) a) (n+1) (Jq C++[Ao noX I]) (OkS (stX I))):=c2.out.fr id z F;clear H z c4 b6 c2;go_wp2_with fail
   refine(HS.out J 0 d _ v (by omega) (fun _=>hd) R4.out H2.out).mono ?_;rintro e w5 ⟨M,a5,b8,rfl,c9⟩;have R5:Hid (RSd K N w5 br bl (stX v) d):=a5;have F5:Hid (Fr (·≠br) w w5):=F4.out.trans M;have T5:Hid (OkS (stX v)->Aj (fun k=>J.heap.size<=k) w5 (Ao noX v) (.pointer (some ⟨b8,0,none⟩))):=fun o=>by
    obtain⟨j,e⟩:=Ci noX o;exact c9 _ _ e
   have e6:=F4.out.size;have e7:=F5.out.size;have a7:∀q,(Value.slice (some ⟨D,0,none⟩) (n+1) a).ownBlock=some q->q<J.heap.size:=by
    obtain⟨vs,q1,-⟩:=L4.out;intro q hq;exact(q1.lt q hq).2
   obtain⟨a9,a3,b4⟩:=L4.out.fr (c':=OkS (stX v)) c0.out M F;have R:Hid (w5.ownsRow w.heap.size 26 1 (.slice (some ⟨D,0,none⟩) (n+1) a) (n+1) a9):=a3;have b2:Hid (OkS (stX v)->_):=b4;have U:Hid (∀q,((.slice (some ⟨D,0,none⟩) (n+1) a):Value).ownBlock=some q->q<J.heap.size):=a7;have P:Hid ((w5.alloc (.cells #[.pointer (some ⟨b8,0,none⟩)] 26)).ownsRow w.heap.size 26 1 (.slice (some ⟨D,0,none⟩) (n+1) a) (n+1) a9):=a3.alloc _;clear a5 M c9 R4 F4 L4 a3 b4 a7;go_wp2_with (at_builtin;refine wpList_append_lies _ rfl _ _ 93 rfl _ 26 i0 _ 1 8 Tryz.underlying93 c6 d1 d2 d3 rfl (by decide) (.slice (some ⟨D,0,none⟩) (n+1) a) _ a9 rfl P.out _ 1 1 [.pointer (some ⟨b8,0,none⟩)] rfl rfl ?q1 ?q2 (by decide) ?q3 ?q4 ?q5 (w5.heap.size+1) ?q6 ?_)
   case q1 =>
    intro k u hk
    match k,hk with
    | 0,hk=>simp at hk;subst hk;simp[Addr.add]
    | k+1,hk=>simp at hk
   case q2 =>
    intro u hu;simp only[List.mem_cons,List.not_mem_nil,or_false] at hu;subst hu;rfl
   case q3=>unfold maxLen;omega
   case q4=>omega
   case q5=>simp;omega
   case q6=>simp
   intro V t w6 a0 X E Z;obtain⟨W,b⟩:=LTS.push (c:=OkS (stX v)) (c':=OkS (stX v)) id R.out b2.out T5.out (by omega) U.out a0 X E;have c3:Hid (LTS w6 w.heap.size (.slice (some ⟨V,0,none⟩) ((n+1)+1) t) ((n+1)+1) ((Jq C++[Ao noX I])++[Ao noX v]) (OkS (stX v))):=W;have g:∀k,k<w.heap.size->((.slice (some ⟨D,0,none⟩) (n+1) a):Value).ownBlock≠some k:=fun k hk e=>by have:=(R.out.lt k e).1;omega
   have b7:Hid (Fr (·≠br) w w6):=⟨b.os.trans F5.out.os,b.tape.trans F5.out.tape,b.output.trans F5.out.output,Nat.le_trans F5.out.size b.size,fun k hk hq=>(b.block k (by omega) (g k hk)).trans (F5.out.block k hk hq)⟩;have d7:Hid (RSd K N w6 br bl _ d):=R5.out.fr b (g br F) (g bl b5);have e0:=b7.out.size;clear a0 X E Z W b g b2 R U P T5 R5 F5;have L7:Hid (LTS w6 w.heap.size (.slice (some ⟨V,0,none⟩) (n+1+1) t) (n+1+1) (Jq (C++[Ao (noX,noX) rp])) (OkS (stX v))):=c3.out.congr fun o=>by rw[c1.out o];simp[Jq]
   clear c3 c1 c0 H2;have c5:n+1+1+2*f<=2000000:=by omega
   generalize C++[Ao (noX,noX) rp]=acc2 at L7 hk;have b0:Hid (Calls _ _ _ _ _):=Gc HK.out HL.out w6 br bl (stX v) d ⟨#[44]⟩ (by decide) hN d7.out;cases hb:isS K (stX v) [44] with
   | true =>
    have B:Hid (Calls Tryz.prog 46 #[.pointer (some ⟨br,0,none⟩),.string ⟨#[44]⟩] w6 fun e w'=>e=.returned (.bool true)/\RSd K N w' br bl (Cp K (stX v) [44]) d/\Fr (·≠br) w6 w'):=by
     have:=b0.out;rw[show(⟨#[44]⟩:ByteArray).data.toList=[44] from rfl,hb] at this;exact this
    obtain⟨j2,ht,c7,Y⟩:=Ld hb hc44 hk;have d6:Hid (OkS (stX v)):=c7;have S:Hid (A2 K cl.data.toList (Gt K self d) f acc2 (j2+1)=some r):=Y;rw[ht] at B;clear hb hk ht c7 Y b0;go_wp2_with (go_at_call 46;refine B.out.mono ?_;rintro e J ⟨rfl,H,z⟩;have R4:Hid (RSd K N J br bl (.ok (j2+1)) d):=H;have F4:Hid (Fr (·≠br) w J):=b7.out.trans z;have L4:Hid (LTS J w.heap.size (.slice (some ⟨V,0,none⟩) (n+1+1) t) (n+1+1) (Jq acc2) (OkS (.ok (j2+1)))):=L7.out.fr (fun _=>d6.out) z F;clear H z)
    go_roundg f
    case measure=>omega
    case rel=>exact⟨.ok (j2+1),acc2,n+1+1,c5,fun _=>hd,R4,L4,S,F4⟩
   | false =>
    have B:Hid (Calls Tryz.prog 46 #[.pointer (some ⟨br,0,none⟩),.string ⟨#[44]⟩] w6 fun e w'=>e=.returned (.bool false)/\RSd K N w' br bl (Cp K (stX v) [44]) d/\Fr (·≠br) w6 w'):=by
     have:=b0.out;rw[show(⟨#[44]⟩:ByteArray).data.toList=[44] from rfl,hb] at this;exact this
    obtain⟨ht,Y⟩:=Le hb hk;have S:Hid (stX r=Bk K (stX v) cl.data.toList/\∀y j,r=.ok (y,j)->y=acc2):=Cz Y;rw[ht] at B;clear hb hk ht Y b0;go_wp2_with (go_at_call 46;refine B.out.mono ?_;rintro e J ⟨rfl,H,z⟩;have R4:Hid (RSd K N J br bl (stX v) d):=H;have F4:Hid (Fr (·≠br) w J):=b7.out.trans z;have L4:Hid (LTS J w.heap.size (.slice (some ⟨V,0,none⟩) (n+1+1) t) (n+1+1) (Jq acc2) (OkS (stX v))):=L7.out.fr id z F;clear H z)
    refine(Cu HK.out HL.out J br bl _ d cl hcl hN R4.out).mono ?_;rintro e w5 ⟨rfl,a5,M⟩;have R5:Hid (RSd K N w5 br bl (Bk K (stX v) cl.data.toList) d):=a5;have F5:Hid (Fr (·≠br) w w5):=F4.out.trans M;have L5:Hid (LTS w5 w.heap.size (.slice (some ⟨V,0,none⟩) (n+1+1) t) (n+1+1) (Jq acc2) (OkS (stX v))):=L4.out.fr id M F;clear a5 M R4 F4 L4;go_wp2_with fail
    go_ret
    refine⟨F5.out,by rw[S.out.1];exact R5.out,_,n+1+1,t,rfl,fun l j e=>?_⟩;rw[S.out.2 l j e];exact L5.out.row (by omega) (Cy (by rw[<- S.out.1];exact Dz e))
end Go.Proofs.YtjbfcadeapphbaaGreatDoor.Sx
