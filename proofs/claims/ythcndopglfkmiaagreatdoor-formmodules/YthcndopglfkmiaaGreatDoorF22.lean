/- The reference: one of several; taking, wanting, levels. -/
import Derived.Test.YthcndopglfkmiaaGreatDoorF07
import Derived.Test.YthcndopglfkmiaaGreatDoorF05
import Derived.Deep.Cut
namespace Go.Proofs.YthcndopglfkmiaaGreatDoor.Sx
set_option maxRecDepth 100000
set_option maxHeartbeats 1000000
open Go.RowKit Go.Sort
abbrev SX:=Except (Nat×Nat) Nat
def Ay {β:Type}(s:SX)(k:Nat->RX β):RX β:=match s with | .ok i=>k i | .error e=>some (.error e)
def stX {β:Type}(r:Except (Nat×Nat) (β×Nat)):SX:=match r with | .ok (_,j)=>.ok j | .error e=>.error e
def Ao {β:Type}(z:β)(r:Except (Nat×Nat) (β×Nat)):β:=match r with | .ok (x,_)=>x | .error _=>z
def OkS (s:SX):Prop:=∃i,s=.ok i
theorem A2 {β γ:Type}(z:β){s:SX}{f:Nat->RX β}{k:β->Nat->RX γ}{r:Except (Nat×Nat) (γ×Nat)}(h:Ay s (fun j=>bX (f j) k)=some r) :
  ∃q,Ay s f=some q/\Ay (stX q) (fun j=>k (Ao z q) j)=some r:=by
 rcases s with e|i
 ·exact⟨.error e,rfl,h⟩
 ·rcases hq:f i with _|(e|⟨x,j⟩)
  ·simp[Ay,hq,bX] at h
  ·exact⟨.error e,hq,by simpa [Ay,hq,bX,stX] using h⟩
  ·exact⟨.ok (x,j),hq,by simpa [Ay,hq,bX,stX,Ao] using h⟩
theorem Dw {β:Type}{s:SX}{f:Nat->RX β}{q:Except (Nat×Nat) (β×Nat)}(h:Ay s f=some q)(ho:OkS (stX q)):OkS s:=by
 rcases s with e|i
 ·simp only[Ay,Option.some.injEq] at h;obtain⟨i,a⟩:=ho;rw[<- h] at a;simp[stX] at a
 ·exact⟨i,rfl⟩
section
variable (K:Nat->Tk)
def isS (s:SX)(m:List UInt8):Bool:=match s with | .ok i=>(K i).tx==m | .error _=>false
def Hk (s:SX)(c p:Nat):SX:=match s with | .ok _=>.error (c,p) | .error q=>.error q
def ec (s:SX):Int:=match s with | .ok _=>0 | .error (c,_)=>(c:Int)
def Bn (c:Nat):Nat:=if c=0 then 101 else if c=1 then 119 else if c=2 then 48 else if c=3 then 34 else if c=4 then 111 else 120
def Cf (t:Tk):ByteArray:=if t.cl=5 then⟨#[]⟩ else⟨t.tx.toArray⟩
def Gr (N bl:Nat)(w:World):Prop:=bl<w.heap.size/\∀i,i<=N->w.cell? ⟨bl,i*3,none⟩=some (.int .u8 (Bn (K i).cl:Int))/\w.cell? ⟨bl,i*3+1,none⟩=some (.string (Cf (K i)))/\w.cell? ⟨bl,i*3+2,none⟩=some (.int .i64 ((K i).at':Int))
def G6 (w:World)(br bl N cap I:Nat)(d e bad:Int):Prop :=
 w.heap[br]?=some (.cells #[.slice (some ⟨bl,0,none⟩) (N+1) cap,.int .i64 (I:Int),.int .i64 d,.int .i64 e,.int .i64 bad] 48 (0,0))
def RS (N:Nat)(w:World)(br bl:Nat)(s:SX)(d:Int):Prop :=
 ∃(cap I:Nat)(bad:Int),G6 w br bl N cap I d (ec s) bad/\I<=N/\bl≠br/\Gr K N bl w/\(match s with | .ok i=>I=i | .error (c,p)=>c≠0/\bad=(p:Int))
end
theorem Gr.of {K:Nat->Tk}{N bl:Nat}{w w':World}{P:Nat->Prop}(h:Gr K N bl w)(f:Fr P w w')(hp:P bl):Gr K N bl w':=by
 refine⟨Nat.lt_of_lt_of_le h.1 f.size,fun i hi=>?_⟩;obtain⟨b,c,d⟩:=h.2 i hi;have a:=f.block bl h.1 hp;exact⟨(World.cell?_of_block (w:=w) a).trans b,(World.cell?_of_block (w:=w) a).trans c,(World.cell?_of_block (w:=w) a).trans d⟩
theorem RS.of {K:Nat->Tk}{N br bl:Nat}{w w':World}{s:SX}{d:Int}{P:Nat->Prop}(h:RS K N w br bl s d)(f:Fr P w w')(h1:P br)(h2:P bl):RS K N w' br bl s d:=by
 obtain⟨b,I,a,e,g,c,i,j⟩:=h;exact⟨b,I,a,(f.block br (Ac e) h1).trans e,g,c,i.of f h2,j⟩
theorem RS.lt {K:Nat->Tk}{N br bl:Nat}{w:World}{s:SX}{d:Int}(h:RS K N w br bl s d):br<w.heap.size:=by
 obtain⟨b,I,a,c,-⟩:=h;exact Ac c
theorem Ga (t:Tk)(h:t.cl≠5):(Cf t).data.toList=t.tx:=by unfold Cf;rw[if_neg h]
theorem jN {t:Tk}(h:Bs t){m:List UInt8}(hm:m∈Dp):((Cf t).data.toList==m&&((Bn t.cl==111)||(Bn t.cl==119)))=(t.tx==m):=by
 by_cases e:t.tx=m
 ·have a:=I9 h hm e;rw[Ga t (by omega),e];rcases a with a|a<;>rw[a]<;>simp[Bn]
 ·have b:(t.tx==m)=false:=by simpa using e
  rw[b];by_cases c:t.cl=5
  ·rw[c];simp[Bn]
  ·rw[Ga t c,b];rfl
theorem Ib {K:Nat->Tk}{N:Nat}(w:World)(br bl:Nat)(s:SX)(d:Int)(c p:Nat)(hc:c≠0)(h:RS K N w br bl s d) :
  Calls Tryz.prog 33 #[.pointer (some ⟨br,0,none⟩),.int .i64 (c:Int),.int .i64 (p:Int)] w fun e w'=>e=.returned (.tuple #[])/\RS K N w' br bl (Hk s c p) d/\Fr (·≠br) w w':=by
 have l:Hid (RS K N w br bl s d):=h;obtain⟨f,I,n,a,u,b,j,v⟩:=h;have k:Hid (G6 _ _ _ _ _ _ _ _ _):=a;have m:Hid (Gr K N bl w):=j;have g:=Aa a 3;have r:=Ab a 3;have q:=Aa a 4;have t:=Ab a 4;clear a j;rcases s with⟨o,y⟩|i
 ·have x:((o:Int)==0)=false:=by simp;exact v.1
  simp only[ec] at g;clear r q t;go_enter Tryz.func33,Tryz.ntmps33
  go_wp2_with fail
  go_end0
  exact⟨rfl,l.out,Fr.refl _ _⟩
 ·simp only[ec] at g;go_enter Tryz.func33,Tryz.ntmps33
  go_wp2_with fail
  go_end0
  refine⟨rfl,⟨f,I,(p:Int),?_,u,b,m.out.of (P:=(·≠br)) (((Fr.refl _ w).set (by simp) _).set (by simp) _) b,hc,rfl⟩,((Fr.refl _ w).set (by simp) _).set (by simp) _⟩;have:=Af (Af k.out 3 (.int .i64 (c:Int))) 4 (.int .i64 (p:Int));simpa [G6,ec,Hk] using this
theorem RS.open {K:Nat->Tk}{N:Nat}{w:World}{br bl:Nat}{s:SX}{d:Int}(h:RS K N w br bl s d):∃(cap I:Nat)(bad:Int),G6 w br bl N cap I d (ec s) bad/\I<=N/\bl≠br/\bl<w.heap.size/\w.cell? ⟨bl,I*3,none⟩=some (.int .u8 (Bn (K I).cl:Int))/\w.cell? ⟨bl,I*3+1,none⟩=some (.string (Cf (K I)))/\w.cell? ⟨bl,I*3+2,none⟩=some (.int .i64 ((K I).at':Int))/\(∀i,s=.ok i->I=i):=by
 obtain⟨cap,I,bad,f,b,a,c,g⟩:=h;obtain⟨j,k,l⟩:=c.2 I b;exact⟨cap,I,bad,f,b,a,c.1,j,k,l,fun i e=>by subst e;exact g⟩
theorem RS.fault {K:Nat->Tk}{N:Nat}{w:World}{br bl:Nat}{s:SX}{d:Int}(h:RS K N w br bl s d):∀c p,s=.error (c,p)->((c:Int)==0)=false:=by
 obtain⟨b,I,a,-,-,-,-,f⟩:=h;intro c p e;subst e;have:=f.1;simp;exact this
def Ap (w:World)(bt sb:Nat)(tx:ByteArray)(a:Int):Prop:=w.heap[bt]?=some (.cells #[.int .u8 (sb:Int),.string tx,.int .i64 a] 54 (0,0))
theorem Ap.new (w:World)(sb:Nat)(tx:ByteArray)(a:Int):Ap (w.alloc (.cells #[.int .u8 (sb:Int),.string tx,.int .i64 a] 54)).drew w.heap.size sb tx a:=by
 have b:(w.alloc (.cells #[.int .u8 (sb:Int),.string tx,.int .i64 a] 54)).heap[w.heap.size]?=some (.cells #[.int .u8 (sb:Int),.string tx,.int .i64 a] 54 (0,0)):=Ag rfl;exact((Fr.grew (P:=fun _=>True) (Ad.refl _).drew).block _ (Ac b) trivial).trans b
theorem RS.cells {w:World}{br bl N cap I:Nat}{d e bad:Int}(hb:G6 w br bl N cap I d e bad)(hbl:bl<w.heap.size){v0 v1 v2:Value}(t0:w.cell? ⟨bl,I*3,none⟩=some v0)(t1:w.cell? ⟨bl,I*3+1,none⟩=some v1)(t2:w.cell? ⟨bl,I*3+2,none⟩=some v2) :
  G6 w.drew br bl N cap I d e bad/\w.drew.cell? ⟨bl,I*3,none⟩=some v0/\w.drew.cell? ⟨bl,I*3+1,none⟩=some v1/\w.drew.cell? ⟨bl,I*3+2,none⟩=some v2:=by
 have b:=(Fr.grew (P:=fun _=>True) (Ad.refl w).drew).block br (Ac hb) trivial;have a:=(Fr.grew (P:=fun _=>True) (Ad.refl w).drew).block bl hbl trivial;exact⟨b.trans hb,(World.cell?_of_block (w:=w) a).trans t0,(World.cell?_of_block (w:=w) a).trans t1,(World.cell?_of_block (w:=w) a).trans t2⟩
theorem Zt (w:World)(br bl N cap I sb:Nat)(d ev bad a:Int)(tx m:ByteArray)(q:Bool)(hI:I<=N)(hb:G6 w br bl N cap I d ev bad)(hbl:bl<w.heap.size)(t0:w.cell? ⟨bl,I*3,none⟩=some (.int .u8 (sb:Int)))(t1:w.cell? ⟨bl,I*3+1,none⟩=some (.string tx))(t2:w.cell? ⟨bl,I*3+2,none⟩=some (.int .i64 a))
  (HQ:Hid ((ev==0&&(tx.toList==m.toList)&&((sb==111)||(sb==119)))=q)) :
  Calls Tryz.prog 60 #[.pointer (some ⟨br,0,none⟩),.string m] w fun e w'=>e=.returned (.bool q)/\Ad w w':=by
 obtain⟨n,z,A,B⟩:=RS.cells hb hbl t0 t1 t2;have t:=Aa hb 0;have u:=Aa hb 1;have x:=Aa n 0;have y:=Aa n 1;have l:=Ac hb;have r:Hid (G6 w br bl N cap I d ev bad):=hb;have C:=follows;have k:(I:Int)<((N+1:Nat):Int):=by omega
 clear hb n;have g:Hid (Ap _ w.heap.size sb tx a):=Ap.new w sb tx a;have c:Hid (Ad w (w.alloc (.cells #[.int .u8 (sb:Int),.string tx,.int .i64 a] 54)).drew):=((Ad.refl w).alloc _).drew;go_enter Tryz.func60,Tryz.ntmps60
 go_wp2_with fail
 go_big_region_o
 have v:=Aa ((c.out.below.block br l).trans r.out) 3;clear t u x y z A B t0 t1 t2 k r;generalize (w.alloc (.cells #[.int .u8 (sb:Int),.string tx,.int .i64 a] 54)).drew=W1 at c g v |-;obtain⟨s,h⟩:∃s,w.heap.size=s:=⟨_,rfl⟩;rw[h] at g |-;clear h;have D:=Aa g.out 0;have E:=Aa g.out 1;clear g;cases i:(ev==0) with
 | false =>
  obtain rfl:false=q:=by have:=HQ.out;rw[i] at this;exact this
  clear HQ;go_wp2_with fail
  go_ret
  exact⟨rfl,c.out⟩
 | true =>
  cases j:(tx.toList==m.toList) with
  | false =>
   obtain rfl:false=q:=by have:=HQ.out;rw[i,j] at this;exact this
   clear HQ;go_wp2_with fail
   go_ret
   exact⟨rfl,c.out⟩
  | true =>
   cases b:(sb==111) with
   | true =>
    obtain rfl:true=q:=by have:=HQ.out;rw[i,j,b] at this;exact this
    have o:((sb:Int)==111)=true:=by rw[beq_iff_eq] at b |-;omega
    clear HQ b;go_wp2_with fail
    go_ret
    exact⟨rfl,c.out⟩
   | false =>
    have o:((sb:Int)==111)=false:=by rw[beq_eq_false_iff_ne] at b |-;omega
    cases f:(sb==119) with
    | true =>
     obtain rfl:true=q:=by have:=HQ.out;rw[i,j,b,f] at this;exact this
     have p:((sb:Int)==119)=true:=by rw[beq_iff_eq] at f |-;omega
     clear HQ b f;go_wp2_with fail
     go_ret
     exact⟨rfl,c.out⟩
    | false =>
     obtain rfl:false=q:=by have:=HQ.out;rw[i,j,b,f] at this;exact this
     have p:((sb:Int)==119)=false:=by rw[beq_eq_false_iff_ne] at f |-;omega
     clear HQ b f;go_wp2_with fail
     go_ret
     exact⟨rfl,c.out⟩
theorem Nu {K:Nat->Tk}{N:Nat}(hK:∀i,Bs (K i))(w:World)(br bl:Nat)(s:SX)(d:Int)(m:ByteArray)(hm:m.data.toList∈Dp)(h:RS K N w br bl s d) :
  Calls Tryz.prog 60 #[.pointer (some ⟨br,0,none⟩),.string m] w fun e w'=>e=.returned (.bool (isS K s m.data.toList))/\Ad w w':=by
 obtain⟨b,I,a,j,g,l,f,o,q,r,n⟩:=h.open;refine Zt w br bl N b I _ d (ec s) a _ _ m _ g j f o q r ?_;show _=_;rcases s with⟨c,p⟩|i
 ·have k:=h.fault c p rfl;simp only[ec,k,isS,Bool.false_and]
 ·obtain rfl:=n i rfl;have:=jN (hK I) hm;rw[ByteArray.toList_eq,ByteArray.toList_eq];simp only[ec,isS,beq_self_eq_true,Bool.true_and];exact this
theorem RS.grew {K:Nat->Tk}{N:Nat}{w w':World}{br bl:Nat}{s:SX}{d:Int}(h:RS K N w br bl s d)(g:Ad w w'):RS K N w' br bl s d:=h.of (P:=fun _=>True) (Fr.grew g) trivial trivial
theorem Zu {K:Nat->Tk}{N:Nat}(hK:∀i,Bs (K i))(w:World)(br bl g n c:Nat)(s:SX)(d:Int)(ms:List ByteArray)(hms:∀m∈ms,m.data.toList∈Dp)(hn:n=ms.length)(hn9:n<=1000)(hrow:w.heap[g]?=some (.cells (ms.map Value.string).toArray 9 (0,0)))(h:RS K N w br bl s d) :
  Calls Tryz.prog 35 #[.pointer (some ⟨br,0,none⟩),.slice (some ⟨g,0,none⟩) n c] w fun e w'=>e=.returned (.bool (ms.any fun m=>isS K s m.data.toList))/\Ad w w':=by
 have z:Hid (w.heap[g]?=_):=hrow;have B:Hid (RS K N w br bl s d):=h;have x:Hid (n=ms.length):=hn;have A:Hid (∀m∈ms,m.data.toList∈Dp):=hms;obtain⟨q,b⟩:∃q,(ms.any fun m=>isS K s m.data.toList)=q:=⟨_,rfl⟩;rw[b];have y:Hid ((ms.any fun m=>isS K s m.data.toList)=q):=b;clear hrow hms hn h b;have H:=follows;go_enter Tryz.func35,Tryz.ntmps35
 go_wp2_with fail
 go_loopw [5] (fun i wr=>∃k:Nat,k<=n/\i=.int .i64 k/\Hid (Ad w wr)/\Hid (∀j m,j<k->ms[j]?=some m->isS K s m.data.toList=false)) (fun i _=>n-(intOf i).toNat)
 case atStart=>exact⟨0,Nat.zero_le _,rfl,Ad.refl _,fun j m h=>absurd h (Nat.not_lt_zero j)⟩
 case round =>
  obtain⟨k,G,rfl,o,r⟩:=hrel;by_cases E:k<n
  ·obtain⟨m,l⟩:∃m,ms[k]?=some m:=⟨_,List.getElem?_eq_getElem (by have:=x.out;omega)⟩;have a:=(o.out.below.block g (Ac z.out)).trans z.out;have F:wr.cell? ⟨g,k,none⟩=some (.string m):=by rw[Aa a];simp[l]
   have D:g<wr.heap.size:=Ac a;have t:Hid (Calls _ _ _ _ _):=Nu hK wr br bl s d m (A.out m (List.mem_of_getElem? l)) (B.out.grew o.out);have p:Hid (ms[k]?=some m):=l;clear a l;cases f:isS K s m.data.toList with
   | true =>
    rw[f] at t;have b:q=true:=by
     rw[<- y.out,List.any_eq_true];exact⟨m,List.mem_of_getElem? p.out,f⟩
    subst b;clear f r;go_wp2_with (go_at_call 60;refine t.out.mono ?_;rintro e v ⟨rfl,a⟩;have u:Hid (Ad w v):=o.out.trans a;clear a)
    go_ret
    exact⟨rfl,u.out⟩
   | false =>
    rw[f] at t;have C:Hid (∀j m,j<k+1->ms[j]?=some m->isS K s m.data.toList=false):=fun j m' hj hm'=>by
     by_cases e:j=k
     ·subst e;rw[p.out] at hm';simp at hm';rw[<- hm'];exact f
     ·exact r.out j m' (by omega) hm'
    clear f r;go_wp2_with (go_at_call 60;refine t.out.mono ?_;rintro e v ⟨rfl,a⟩;have u:Hid (Ad w v):=o.out.trans a;clear a)
    go_roundw
    case rel=>exact⟨k+1,by omega,by go_num,u,C⟩
    case measure=>simp[intOf];omega
  ·obtain rfl:k=n:=by omega
   have b:q=false:=by
    rw[<- y.out,List.any_eq_false];intro m l;obtain⟨j,hj⟩:=List.mem_iff_getElem?.1 l;have:=r.out j m (by have:=(List.getElem?_eq_some_iff.1 hj).1;have:=x.out;omega) hj;simp[this]
   subst b;clear r;go_wp2_with fail
   go_ret
   exact⟨rfl,o.out⟩
theorem Zv {K:Nat->Tk}{N:Nat}(hK:∀i,Bs (K i))(w:World)(br bl:Nat)(s:SX)(d:Int)(vs:Array Value)(ms:List ByteArray)(n:Nat)(q:Bool)(hvs:vs=(ms.map Value.string).toArray)(hms:∀m∈ms,m.data.toList∈Dp)(hn:n=ms.length)(hn9:n<=1000)(hq:(ms.any fun m=>isS K s m.data.toList)=q)(h:RS K N w br bl s d) :
  Calls Tryz.prog 35 #[.pointer (some ⟨br,0,none⟩),.slice (some ⟨w.heap.size,0,none⟩) n n] (w.alloc (.cells vs 9)) fun e w'=>e=.returned (.bool q)/\Ad w w':=by
 subst hvs hq;refine(Zu hK (w.alloc (.cells (ms.map Value.string).toArray 9)) br bl w.heap.size n n s d ms hms hn hn9 (Ag rfl) (h.grew ((Ad.refl w).alloc _))).mono ?_;rintro e w' ⟨rfl,a⟩;exact⟨rfl,((Ad.refl w).alloc _).trans a⟩
theorem G6.setI {w:World}{br bl N cap I:Nat}{d e bad:Int}(h:G6 w br bl N cap I d e bad)(I':Nat):G6 (w.setCell ⟨br,1,none⟩ (.int .i64 (I':Int))) br bl N cap I' d e bad:=by
 have:=Af h 1 (.int .i64 (I':Int));simpa [G6] using this
theorem G6.setD {w:World}{br bl N cap I:Nat}{d e bad:Int}(h:G6 w br bl N cap I d e bad)(d':Int):G6 (w.setCell ⟨br,2,none⟩ (.int .i64 d')) br bl N cap I d' e bad:=by
 have:=Af h 2 (.int .i64 d');simpa [G6] using this
def Cp (K:Nat->Tk)(s:SX)(m:List UInt8):SX:=match s with | .ok i=>if (K i).tx==m then .ok (i+1) else .ok i | .error e=>.error e
def Bk (K:Nat->Tk)(s:SX)(m:List UInt8):SX:=match s with | .ok i=>if (K i).tx==m then .ok (i+1) else .error (1,(K i).at') | .error e=>.error e
theorem S4 {K:Nat->Tk}{N:Nat}(hK:∀i,Bs (K i))(hL:Bi K N)(w:World)(br bl:Nat)(s:SX)(d:Int)(m:ByteArray)(hm:m.data.toList∈Dp)(hN:N<=1000000)(h:RS K N w br bl s d) :
  Calls Tryz.prog 32 #[.pointer (some ⟨br,0,none⟩),.string m] w fun e w'=>e=.returned (.bool (isS K s m.data.toList))/\RS K N w' br bl (Cp K s m.data.toList) d/\Fr (·≠br) w w':=by
 have q:Hid (Calls _ _ _ _ _):=Nu hK w br bl s d m hm h;have r:Hid (RS K N w br bl s d):=h;have u:=h.lt;clear h;have F:=follows;cases a:isS K s m.data.toList with
 | false =>
  rw[a] at q;have o:Cp K s m.data.toList=s:=by
   rcases s with e|i
   ·rfl
   ·simp only[isS] at a;simp only[Cp,a];rfl
  rw[o];clear a o;go_enter Tryz.func32,Tryz.ntmps32
  go_wp2_with (go_at_call 60;refine q.out.mono ?_;rintro e k ⟨rfl,j⟩;have p:Hid (Ad w k):=j;clear j)
  go_ret
  exact⟨rfl,r.out.grew p.out,Fr.grew p.out⟩
 | true =>
  rw[a] at q;rcases s with e|i
  ·simp[isS] at a
  have f:((K i).tx==m.data.toList)=true:=a;have o:Cp K (.ok i) m.data.toList=.ok (i+1):=by simp only[Cp,f];rfl
  rw[o];obtain⟨c,I,b,l,B,n,y,C⟩:=r.out;obtain rfl:I=i:=C;have v:=hL.lt B f hm;have z:Hid (∀W,Ad w W->G6 W br bl N c I d (ec (.ok I)) b):=fun W g=>(g.below.block br u).trans l;have A:Hid (Gr K N bl w):=y;clear a f o l y r;go_enter Tryz.func32,Tryz.ntmps32
  go_wp2_with (go_at_call 60;refine q.out.mono ?_;rintro e k ⟨rfl,j⟩;have t:Hid (G6 k br bl N c I d (ec (.ok I)) b):=z.out k j;have D:=Aa t.out 1;have E:=Ab t.out 1;have p:Hid (Ad w k):=j;clear j)
  go_ret
  have x:Fr (·≠br) w (k.setCell ⟨br,1,none⟩ (.int .i64 ((I:Int)+1))):=(Fr.grew p.out).set (by simp) _;exact⟨rfl,⟨c,I+1,b,t.out.setI (I+1),v,n,A.out.of x n,rfl⟩,x⟩
theorem dT {K:Nat->Tk}{N:Nat}(hK:∀i,Bs (K i))(hL:Bi K N)(w:World)(br bl:Nat)(s:SX)(d:Int)(m:ByteArray)(hm:m.data.toList∈Dp)(hN:N<=1000000)(h:RS K N w br bl s d) :
  Calls Tryz.prog 15 #[.pointer (some ⟨br,0,none⟩),.string m] w fun e w'=>e=.returned (.tuple #[])/\RS K N w' br bl (Bk K s m.data.toList) d/\Fr (·≠br) w w':=by
 have j:Hid (Calls _ _ _ _ _):=S4 hK hL w br bl s d m hm hN h;clear h;have P:=follows;cases b:isS K s m.data.toList with
 | true =>
  rw[b] at j;have n:Cp K s m.data.toList=Bk K s m.data.toList:=by
   rcases s with e|i
   ·rfl
   ·simp only[isS] at b;simp only[Cp,Bk,b];rfl
  rw[n] at j;clear b n;go_enter Tryz.func15,Tryz.ntmps15
  go_wp2_with (go_at_call 32;refine j.out.mono ?_;rintro e k ⟨rfl,c,f⟩;have o:Hid (RS K N k br bl (Bk K s m.data.toList) d):=c;have p:Hid (Fr (·≠br) w k):=f;clear c f)
  go_end0
  exact⟨rfl,o.out,p.out⟩
 | false =>
  rw[b] at j;have n:Cp K s m.data.toList=s:=by
   rcases s with e|i
   ·rfl
   ·simp only[isS] at b;simp only[Cp,b];rfl
  rw[n] at j;have u:Hid (∀I,(∀i,s=.ok i->I=i)->Hk s 1 (K I).at'=Bk K s m.data.toList):=fun I hI=>by
   rcases s with e|i
   ·rfl
   ·obtain rfl:=hI i rfl;simp only[isS] at b;simp only[Hk,Bk,b];rfl
  clear b n;go_enter Tryz.func15,Tryz.ntmps15
  go_wp2_with (go_at_call 32;refine j.out.mono ?_;rintro e k ⟨rfl,c,f⟩;have o:Hid (RS K N k br bl s d):=c;have p:Hid (Fr (·≠br) w k):=f;clear c f)
  obtain⟨E,I,D,a,hI,H,q,x,y,z,v⟩:=o.out.open;have J:=Aa a 0;have L:=Aa a 1;have G:=Ac a;have F:(I:Int)<((N+1:Nat):Int):=by omega
  have t:Hid (∀W,Ad k W->Calls _ _ _ _ _):=fun W g=>Ib W br bl s d 1 (K I).at' (by decide) (o.out.grew g);have l:Hid (Hk s 1 (K I).at'=_):=u.out I v;generalize (K I).at'=aa at z t l;obtain⟨r,-,-,Q⟩:=RS.cells a q x y z;have M:=Aa r 0;have O:=Aa r 1;clear a x y v u j r;go_region_with (go_at_call 33;refine(t.out _ (Ad.refl k).drew).mono ?_;rintro e A ⟨rfl,c,f⟩;rw[l.out] at c;have C:Hid (RS K N A br bl (Bk K s m.data.toList) d):=c;have B:Hid (Fr (·≠br) w A):=p.out.drew.trans f;clear c f)
  all_goals go_wp2_with fail
  all_goals go_end0
  all_goals exact⟨rfl,C.out,B.out⟩
end Go.Proofs.YthcndopglfkmiaaGreatDoor.Sx
