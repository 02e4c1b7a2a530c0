/- The reference: expressions as trees in memory; what its reading ends in. -/
import Derived.Test.YtjbfcadeapphbaaGreatDoorE08
import Derived.Test.YtjbfcadeapphbaaGreatDoorE05
import Derived.Deep.Cut
namespace Go.Proofs.YtjbfcadeapphbaaGreatDoor.Sx
set_option maxRecDepth 100000
set_option maxHeartbeats 2000000
open Go.RowKit Go.Sort
abbrev SX:=Except (Nat×Nat) Nat
def Ay {β:Type}(s:SX)(k:Nat->RX β):RX β:=match s with | .ok i=>k i | .error e=>some (.error e)
def stX {β:Type}(r:Except (Nat×Nat) (β×Nat)):SX:=match r with | .ok (_,j)=>.ok j | .error e=>.error e
def Au {β:Type}(z:β)(r:Except (Nat×Nat) (β×Nat)):β:=match r with | .ok (x,_)=>x | .error _=>z
def OkS (s:SX):Prop:=∃i,s=.ok i
theorem Bx {β γ:Type}(z:β){s:SX}{f:Nat->RX β}{k:β->Nat->RX γ}{r:Except (Nat×Nat) (γ×Nat)}(h:Ay s (fun j=>bX (f j) k)=some r) :
  ∃q,Ay s f=some q/\Ay (stX q) (fun j=>k (Au z q) j)=some r:=by
 rcases s with e|i
 ·exact⟨.error e,rfl,h⟩
 ·rcases hq:f i with _|(e|⟨x,j⟩)
  ·simp[Ay,hq,bX] at h
  ·exact⟨.error e,hq,by simpa [Ay,hq,bX,stX] using h⟩
  ·exact⟨.ok (x,j),hq,by simpa [Ay,hq,bX,stX,Au] using h⟩
theorem Es {β:Type}{s:SX}{f:Nat->RX β}{q:Except (Nat×Nat) (β×Nat)}(h:Ay s f=some q)(ho:OkS (stX q)):OkS s:=by
 rcases s with e|i
 ·simp only[Ay,Option.some.injEq] at h;obtain⟨i,a⟩:=ho;rw[<- h] at a;simp[stX] at a
 ·exact⟨i,rfl⟩
section
variable (K:Nat->Tk)
def isS (s:SX)(m:List UInt8):Bool:=match s with | .ok i=>(K i).tx==m | .error _=>false
def Fh (s:SX)(c p:Nat):SX:=match s with | .ok _=>.error (c,p) | .error q=>.error q
def ec (s:SX):Int:=match s with | .ok _=>0 | .error (c,_)=>(c:Int)
def Bg (c:Nat):Nat:=if c=0 then 101 else if c=1 then 119 else if c=2 then 48 else if c=3 then 34 else if c=4 then 111 else 120
def B2 (t:Tk):ByteArray:=if t.cl=5 then⟨#[]⟩ else⟨t.tx.toArray⟩
def Et (N bl:Nat)(w:World):Prop:=bl<w.heap.size/\∀i,i<=N->w.cell? ⟨bl,i*3,none⟩=some (.int .u8 (Bg (K i).cl:Int))/\w.cell? ⟨bl,i*3+1,none⟩=some (.string (B2 (K i)))/\w.cell? ⟨bl,i*3+2,none⟩=some (.int .i64 ((K i).at':Int))
def Fj (w:World)(br bl N cap I:Nat)(d e bad:Int):Prop :=
 w.heap[br]?=some (.cells #[.slice (some ⟨bl,0,none⟩) (N+1) cap,.int .i64 (I:Int),.int .i64 d,.int .i64 e,.int .i64 bad] 52 (0,0))
def RS (N:Nat)(w:World)(br bl:Nat)(s:SX)(d:Int):Prop :=
 ∃(cap I:Nat)(bad:Int),Fj w br bl N cap I d (ec s) bad/\I<=N/\bl≠br/\Et K N bl w/\(match s with | .ok i=>I=i | .error (c,p)=>c≠0/\bad=(p:Int))
end
theorem Et.of {K:Nat->Tk}{N bl:Nat}{w w':World}{P:Nat->Prop}(h:Et K N bl w)(f:Fr P w w')(hp:P bl):Et K N bl w':=by
 refine⟨Nat.lt_of_lt_of_le h.1 f.size,fun i hi=>?_⟩;obtain⟨b,c,d⟩:=h.2 i hi;have a:=f.block bl h.1 hp;exact⟨(World.cell?_of_block (w:=w) a).trans b,(World.cell?_of_block (w:=w) a).trans c,(World.cell?_of_block (w:=w) a).trans d⟩
theorem RS.of {K:Nat->Tk}{N br bl:Nat}{w w':World}{s:SX}{d:Int}{P:Nat->Prop}(h:RS K N w br bl s d)(f:Fr P w w')(h1:P br)(h2:P bl):RS K N w' br bl s d:=by
 obtain⟨b,I,a,e,g,c,i,j⟩:=h;exact⟨b,I,a,(f.block br (Ab e) h1).trans e,g,c,i.of f h2,j⟩
theorem RS.lt {K:Nat->Tk}{N br bl:Nat}{w:World}{s:SX}{d:Int}(h:RS K N w br bl s d):br<w.heap.size:=by
 obtain⟨b,I,a,c,-⟩:=h;exact Ab c
theorem Ea (t:Tk)(h:t.cl≠5):(B2 t).data.toList=t.tx:=by unfold B2;rw[if_neg h]
theorem cC {t:Tk}(h:Bz t){m:List UInt8}(hm:m∈C3):((B2 t).data.toList==m&&((Bg t.cl==111)||(Bg t.cl==119)))=(t.tx==m):=by
 by_cases e:t.tx=m
 ·have a:=Hb h hm e;rw[Ea t (by omega),e];rcases a with a|a<;>rw[a]<;>simp[Bg]
 ·have b:(t.tx==m)=false:=by simpa using e
  rw[b];by_cases c:t.cl=5
  ·rw[c];simp[Bg]
  ·rw[Ea t c,b];rfl
theorem Gd {K:Nat->Tk}{N:Nat}(w:World)(br bl:Nat)(s:SX)(d:Int)(c p:Nat)(hc:c≠0)(h:RS K N w br bl s d) :
  Calls Tryz.prog 19 #[.pointer (some ⟨br,0,none⟩),.int .i64 (c:Int),.int .i64 (p:Int)] w fun e w'=>e=.returned (.tuple #[])/\RS K N w' br bl (Fh s c p) d/\Fr (·≠br) w w':=by
 have l:Hid (RS K N w br bl s d):=h;obtain⟨f,I,n,a,u,b,j,v⟩:=h;have k:Hid (Fj _ _ _ _ _ _ _ _ _):=a;have m:Hid (Et K N bl w):=j;have g:=Aa a 3;have r:=Ac a 3;have q:=Aa a 4;have t:=Ac a 4;clear a j;rcases s with⟨o,y⟩|i
 ·have x:((o:Int)==0)=false:=by simp;exact v.1
  simp only[ec] at g;clear r q t;go_enter Tryz.func19,Tryz.ntmps19
  go_wp2_with fail
  go_end0
  exact⟨rfl,l.out,Fr.refl _ _⟩
 ·simp only[ec] at g;go_enter Tryz.func19,Tryz.ntmps19
  go_wp2_with fail
  go_end0
  refine⟨rfl,⟨f,I,(p:Int),?_,u,b,m.out.of (P:=(·≠br)) (((Fr.refl _ w).set (by simp) _).set (by simp) _) b,hc,rfl⟩,((Fr.refl _ w).set (by simp) _).set (by simp) _⟩;have:=Aj (Aj k.out 3 (.int .i64 (c:Int))) 4 (.int .i64 (p:Int));simpa [Fj,ec,Fh] using this
theorem RS.open {K:Nat->Tk}{N:Nat}{w:World}{br bl:Nat}{s:SX}{d:Int}(h:RS K N w br bl s d):∃(cap I:Nat)(bad:Int),Fj w br bl N cap I d (ec s) bad/\I<=N/\bl≠br/\bl<w.heap.size/\w.cell? ⟨bl,I*3,none⟩=some (.int .u8 (Bg (K I).cl:Int))/\w.cell? ⟨bl,I*3+1,none⟩=some (.string (B2 (K I)))/\w.cell? ⟨bl,I*3+2,none⟩=some (.int .i64 ((K I).at':Int))/\(∀i,s=.ok i->I=i):=by
 obtain⟨cap,I,bad,f,b,a,c,g⟩:=h;obtain⟨j,k,l⟩:=c.2 I b;exact⟨cap,I,bad,f,b,a,c.1,j,k,l,fun i e=>by subst e;exact g⟩
theorem RS.fault {K:Nat->Tk}{N:Nat}{w:World}{br bl:Nat}{s:SX}{d:Int}(h:RS K N w br bl s d):∀c p,s=.error (c,p)->((c:Int)==0)=false:=by
 obtain⟨b,I,a,-,-,-,-,f⟩:=h;intro c p e;subst e;have:=f.1;simp;exact this
def Ap (w:World)(bt sb:Nat)(tx:ByteArray)(a:Int):Prop:=w.heap[bt]?=some (.cells #[.int .u8 (sb:Int),.string tx,.int .i64 a] 55 (0,0))
theorem Ap.new (w:World)(sb:Nat)(tx:ByteArray)(a:Int):Ap (w.alloc (.cells #[.int .u8 (sb:Int),.string tx,.int .i64 a] 55)).drew w.heap.size sb tx a:=by
 have b:(w.alloc (.cells #[.int .u8 (sb:Int),.string tx,.int .i64 a] 55)).heap[w.heap.size]?=some (.cells #[.int .u8 (sb:Int),.string tx,.int .i64 a] 55 (0,0)):=Al rfl;exact((Fr.grew (P:=fun _=>True) (Ad.refl _).drew).block _ (Ab b) trivial).trans b
theorem RS.cells {w:World}{br bl N cap I:Nat}{d e bad:Int}(hb:Fj w br bl N cap I d e bad)(hbl:bl<w.heap.size){v0 v1 v2:Value}(t0:w.cell? ⟨bl,I*3,none⟩=some v0)(t1:w.cell? ⟨bl,I*3+1,none⟩=some v1)(t2:w.cell? ⟨bl,I*3+2,none⟩=some v2) :
  Fj w.drew br bl N cap I d e bad/\w.drew.cell? ⟨bl,I*3,none⟩=some v0/\w.drew.cell? ⟨bl,I*3+1,none⟩=some v1/\w.drew.cell? ⟨bl,I*3+2,none⟩=some v2:=by
 have b:=(Fr.grew (P:=fun _=>True) (Ad.refl w).drew).block br (Ab hb) trivial;have a:=(Fr.grew (P:=fun _=>True) (Ad.refl w).drew).block bl hbl trivial;exact⟨b.trans hb,(World.cell?_of_block (w:=w) a).trans t0,(World.cell?_of_block (w:=w) a).trans t1,(World.cell?_of_block (w:=w) a).trans t2⟩
theorem Ux (w:World)(br bl N cap I sb:Nat)(d ev bad a:Int)(tx m:ByteArray)(q:Bool)(hI:I<=N)(hb:Fj w br bl N cap I d ev bad)(hbl:bl<w.heap.size)(t0:w.cell? ⟨bl,I*3,none⟩=some (.int .u8 (sb:Int)))(t1:w.cell? ⟨bl,I*3+1,none⟩=some (.string tx))(t2:w.cell? ⟨bl,I*3+2,none⟩=some (.int .i64 a))
  (HQ:Hid ((ev==0&&(tx.toList==m.toList)&&((sb==111)||(sb==119)))=q)) :
  Calls Tryz.prog 73 #[.pointer (some ⟨br,0,none⟩),.string m] w fun e w'=>e=.returned (.bool q)/\Ad w w':=by
 obtain⟨n,z,A,B⟩:=RS.cells hb hbl t0 t1 t2;have t:=Aa hb 0;have u:=Aa hb 1;have x:=Aa n 0;have y:=Aa n 1;have l:=Ab hb;have r:Hid (Fj w br bl N cap I d ev bad):=hb;have C:=follows;have k:(I:Int)<((N+1:Nat):Int):=by omega
 clear hb n;have g:Hid (Ap _ w.heap.size sb tx a):=Ap.new w sb tx a;have c:Hid (Ad w (w.alloc (.cells #[.int .u8 (sb:Int),.string tx,.int .i64 a] 55)).drew):=((Ad.refl w).alloc _).drew;go_enter Tryz.func73,Tryz.ntmps73
 go_wp2_with fail
 go_big_region_o
 have v:=Aa ((c.out.below.block br l).trans r.out) 3;clear t u x y z A B t0 t1 t2 k r;generalize (w.alloc (.cells #[.int .u8 (sb:Int),.string tx,.int .i64 a] 55)).drew=W1 at c g v |-;obtain⟨s,h⟩:∃s,w.heap.size=s:=⟨_,rfl⟩;rw[h] at g |-;clear h;have D:=Aa g.out 0;have E:=Aa g.out 1;clear g;cases i:(ev==0) with
 | false =>
  obtain rfl:false=q:=by have:=HQ.out;rw[i] at this;exact this
  clear HQ;go_wp2_with fail
  go_ret
  exact⟨rfl,c.out⟩
 | true =>
  cases j:(tx.toList==m.toList) with
  | false =>
   obtain rfl:false=q:=by have:=HQ.out;rw[i,j] at this;exact this
   clear HQ;go_wp2_with fail
   go_ret
   exact⟨rfl,c.out⟩
  | true =>
   cases b:(sb==111) with
   | true =>
    obtain rfl:true=q:=by have:=HQ.out;rw[i,j,b] at this;exact this
    have o:((sb:Int)==111)=true:=by rw[beq_iff_eq] at b |-;omega
    clear HQ b;go_wp2_with fail
    go_ret
    exact⟨rfl,c.out⟩
   | false =>
    have o:((sb:Int)==111)=false:=by rw[beq_eq_false_iff_ne] at b |-;omega
    cases f:(sb==119) with
    | true =>
     obtain rfl:true=q:=by have:=HQ.out;rw[i,j,b,f] at this;exact this
     have p:((sb:Int)==119)=true:=by rw[beq_iff_eq] at f |-;omega
     clear HQ b f;go_wp2_with fail
     go_ret
     exact⟨rfl,c.out⟩
    | false =>
     obtain rfl:false=q:=by have:=HQ.out;rw[i,j,b,f] at this;exact this
     have p:((sb:Int)==119)=false:=by rw[beq_eq_false_iff_ne] at f |-;omega
     clear HQ b f;go_wp2_with fail
     go_ret
     exact⟨rfl,c.out⟩
theorem Kv {K:Nat->Tk}{N:Nat}(hK:∀i,Bz (K i))(w:World)(br bl:Nat)(s:SX)(d:Int)(m:ByteArray)(hm:m.data.toList∈C3)(h:RS K N w br bl s d) :
  Calls Tryz.prog 73 #[.pointer (some ⟨br,0,none⟩),.string m] w fun e w'=>e=.returned (.bool (isS K s m.data.toList))/\Ad w w':=by
 obtain⟨b,I,a,j,g,l,f,o,q,r,n⟩:=h.open;refine Ux w br bl N b I _ d (ec s) a _ _ m _ g j f o q r ?_;show _=_;rcases s with⟨c,p⟩|i
 ·have k:=h.fault c p rfl;simp only[ec,k,isS,Bool.false_and]
 ·obtain rfl:=n i rfl;have:=cC (hK I) hm;rw[ByteArray.toList_eq,ByteArray.toList_eq];simp only[ec,isS,beq_self_eq_true,Bool.true_and];exact this
theorem RS.grew {K:Nat->Tk}{N:Nat}{w w':World}{br bl:Nat}{s:SX}{d:Int}(h:RS K N w br bl s d)(g:Ad w w'):RS K N w' br bl s d:=h.of (P:=fun _=>True) (Fr.grew g) trivial trivial
theorem Uy {K:Nat->Tk}{N:Nat}(hK:∀i,Bz (K i))(w:World)(br bl g n c:Nat)(s:SX)(d:Int)(ms:List ByteArray)(hms:∀m∈ms,m.data.toList∈C3)(hn:n=ms.length)(hn9:n<=1000)(hrow:w.heap[g]?=some (.cells (ms.map Value.string).toArray 9 (0,0)))(h:RS K N w br bl s d) :
  Calls Tryz.prog 43 #[.pointer (some ⟨br,0,none⟩),.slice (some ⟨g,0,none⟩) n c] w fun e w'=>e=.returned (.bool (ms.any fun m=>isS K s m.data.toList))/\Ad w w':=by
 have z:Hid (w.heap[g]?=_):=hrow;have B:Hid (RS K N w br bl s d):=h;have x:Hid (n=ms.length):=hn;have A:Hid (∀m∈ms,m.data.toList∈C3):=hms;obtain⟨q,b⟩:∃q,(ms.any fun m=>isS K s m.data.toList)=q:=⟨_,rfl⟩;rw[b];have y:Hid ((ms.any fun m=>isS K s m.data.toList)=q):=b;clear hrow hms hn h b;have H:=follows;go_enter Tryz.func43,Tryz.ntmps43
 go_wp2_with fail
 go_loopw [5] (fun i wr=>∃k:Nat,k<=n/\i=.int .i64 k/\Hid (Ad w wr)/\Hid (∀j m,j<k->ms[j]?=some m->isS K s m.data.toList=false)) (fun i _=>n-(intOf i).toNat)
 case atStart=>exact⟨0,Nat.zero_le _,rfl,Ad.refl _,fun j m h=>absurd h (Nat.not_lt_zero j)⟩
 case round =>
  obtain⟨k,G,rfl,o,r⟩:=hrel;by_cases E:k<n
  ·obtain⟨m,l⟩:∃m,ms[k]?=some m:=⟨_,List.getElem?_eq_getElem (by have:=x.out;omega)⟩;have a:=(o.out.below.block g (Ab z.out)).trans z.out;have F:wr.cell? ⟨g,k,none⟩=some (.string m):=by rw[Aa a];simp[l]
   have D:g<wr.heap.size:=Ab a;have t:Hid (Calls _ _ _ _ _):=Kv hK wr br bl s d m (A.out m (List.mem_of_getElem? l)) (B.out.grew o.out);have p:Hid (ms[k]?=some m):=l;clear a l;cases f:isS K s m.data.toList with
   | true =>
    rw[f] at t;have b:q=true:=by
     rw[<- y.out,List.any_eq_true];exact⟨m,List.mem_of_getElem? p.out,f⟩
    subst b;clear f r;go_wp2_with (go_at_call 73;refine t.out.mono ?_;rintro e v ⟨rfl,a⟩;have u:Hid (Ad w v):=o.out.trans a;clear a)
    go_ret
    exact⟨rfl,u.out⟩
   | false =>
    rw[f] at t;have C:Hid (∀j m,j<k+1->ms[j]?=some m->isS K s m.data.toList=false):=fun j m' hj hm'=>by
     by_cases e:j=k
     ·subst e;rw[p.out] at hm';simp at hm';rw[<- hm'];exact f
     ·exact r.out j m' (by omega) hm'
    clear f r;go_wp2_with (go_at_call 73;refine t.out.mono ?_;rintro e v ⟨rfl,a⟩;have u:Hid (Ad w v):=o.out.trans a;clear a)
    go_roundw
    case rel=>exact⟨k+1,by omega,by go_num,u,C⟩
    case measure=>simp[intOf];omega
  ·obtain rfl:k=n:=by omega
   have b:q=false:=by
    rw[<- y.out,List.any_eq_false];intro m l;obtain⟨j,hj⟩:=List.mem_iff_getElem?.1 l;have:=r.out j m (by have:=(List.getElem?_eq_some_iff.1 hj).1;have:=x.out;omega) hj;simp[this]
   subst b;clear r;go_wp2_with fail
   go_ret
   exact⟨rfl,o.out⟩
theorem Uz {K:Nat->Tk}{N:Nat}(hK:∀i,Bz (K i))(w:World)(br bl:Nat)(s:SX)(d:Int)(vs:Array Value)(ms:List ByteArray)(n:Nat)(q:Bool)(hvs:vs=(ms.map Value.string).toArray)(hms:∀m∈ms,m.data.toList∈C3)(hn:n=ms.length)(hn9:n<=1000)(hq:(ms.any fun m=>isS K s m.data.toList)=q)(h:RS K N w br bl s d) :
  Calls Tryz.prog 43 #[.pointer (some ⟨br,0,none⟩),.slice (some ⟨w.heap.size,0,none⟩) n n] (w.alloc (.cells vs 9)) fun e w'=>e=.returned (.bool q)/\Ad w w':=by
 subst hvs hq;refine(Uy hK (w.alloc (.cells (ms.map Value.string).toArray 9)) br bl w.heap.size n n s d ms hms hn hn9 (Al rfl) (h.grew ((Ad.refl w).alloc _))).mono ?_;rintro e w' ⟨rfl,a⟩;exact⟨rfl,((Ad.refl w).alloc _).trans a⟩
theorem Fj.setI {w:World}{br bl N cap I:Nat}{d e bad:Int}(h:Fj w br bl N cap I d e bad)(I':Nat):Fj (w.setCell ⟨br,1,none⟩ (.int .i64 (I':Int))) br bl N cap I' d e bad:=by
 have:=Aj h 1 (.int .i64 (I':Int));simpa [Fj] using this
theorem Fj.setD {w:World}{br bl N cap I:Nat}{d e bad:Int}(h:Fj w br bl N cap I d e bad)(d':Int):Fj (w.setCell ⟨br,2,none⟩ (.int .i64 d')) br bl N cap I d' e bad:=by
 have:=Aj h 2 (.int .i64 d');simpa [Fj] using this
def Cn (K:Nat->Tk)(s:SX)(m:List UInt8):SX:=match s with | .ok i=>if (K i).tx==m then .ok (i+1) else .ok i | .error e=>.error e
def Cl (K:Nat->Tk)(s:SX)(m:List UInt8):SX:=match s with | .ok i=>if (K i).tx==m then .ok (i+1) else .error (1,(K i).at') | .error e=>.error e
theorem Ou {K:Nat->Tk}{N:Nat}(hK:∀i,Bz (K i))(hL:Bn K N)(w:World)(br bl:Nat)(s:SX)(d:Int)(m:ByteArray)(hm:m.data.toList∈C3)(hN:N<=1000000)(h:RS K N w br bl s d) :
  Calls Tryz.prog 46 #[.pointer (some ⟨br,0,none⟩),.string m] w fun e w'=>e=.returned (.bool (isS K s m.data.toList))/\RS K N w' br bl (Cn K s m.data.toList) d/\Fr (·≠br) w w':=by
 have q:Hid (Calls _ _ _ _ _):=Kv hK w br bl s d m hm h;have r:Hid (RS K N w br bl s d):=h;have u:=h.lt;clear h;have F:=follows;cases a:isS K s m.data.toList with
 | false =>
  rw[a] at q;have o:Cn K s m.data.toList=s:=by
   rcases s with e|i
   ·rfl
   ·simp only[isS] at a;simp only[Cn,a];rfl
  rw[o];clear a o;go_enter Tryz.func46,Tryz.ntmps46
  go_wp2_with (go_at_call 73;refine q.out.mono ?_;rintro e k ⟨rfl,j⟩;have p:Hid (Ad w k):=j;clear j)
  go_ret
  exact⟨rfl,r.out.grew p.out,Fr.grew p.out⟩
 | true =>
  rw[a] at q;rcases s with e|i
  ·simp[isS] at a
  have f:((K i).tx==m.data.toList)=true:=a;have o:Cn K (.ok i) m.data.toList=.ok (i+1):=by simp only[Cn,f];rfl
  rw[o];obtain⟨c,I,b,l,B,n,y,C⟩:=r.out;obtain rfl:I=i:=C;have v:=hL.lt B f hm;have z:Hid (∀W,Ad w W->Fj W br bl N c I d (ec (.ok I)) b):=fun W g=>(g.below.block br u).trans l;have A:Hid (Et K N bl w):=y;clear a f o l y r;go_enter Tryz.func46,Tryz.ntmps46
  go_wp2_with (go_at_call 73;refine q.out.mono ?_;rintro e k ⟨rfl,j⟩;have t:Hid (Fj k br bl N c I d (ec (.ok I)) b):=z.out k j;have D:=Aa t.out 1;have E:=Ac t.out 1;have p:Hid (Ad w k):=j;clear j)
  go_ret
  have x:Fr (·≠br) w (k.setCell ⟨br,1,none⟩ (.int .i64 ((I:Int)+1))):=(Fr.grew p.out).set (by simp) _;exact⟨rfl,⟨c,I+1,b,t.out.setI (I+1),v,n,A.out.of x n,rfl⟩,x⟩
theorem Yg {K:Nat->Tk}{N:Nat}(hK:∀i,Bz (K i))(hL:Bn K N)(w:World)(br bl:Nat)(s:SX)(d:Int)(m:ByteArray)(hm:m.data.toList∈C3)(hN:N<=1000000)(h:RS K N w br bl s d) :
  Calls Tryz.prog 25 #[.pointer (some ⟨br,0,none⟩),.string m] w fun e w'=>e=.returned (.tuple #[])/\RS K N w' br bl (Cl K s m.data.toList) d/\Fr (·≠br) w w':=by
 have j:Hid (Calls _ _ _ _ _):=Ou hK hL w br bl s d m hm hN h;clear h;have P:=follows;cases b:isS K s m.data.toList with
 | true =>
  rw[b] at j;have n:Cn K s m.data.toList=Cl K s m.data.toList:=by
   rcases s with e|i
   ·rfl
   ·simp only[isS] at b;simp only[Cn,Cl,b];rfl
  rw[n] at j;clear b n;go_enter Tryz.func25,Tryz.ntmps25
  go_wp2_with (go_at_call 46;refine j.out.mono ?_;rintro e k ⟨rfl,c,f⟩;have o:Hid (RS K N k br bl (Cl K s m.data.toList) d):=c;have p:Hid (Fr (·≠br) w k):=f;clear c f)
  go_end0
  exact⟨rfl,o.out,p.out⟩
 | false =>
  rw[b] at j;have n:Cn K s m.data.toList=s:=by
   rcases s with e|i
   ·rfl
   ·simp only[isS] at b;simp only[Cn,b];rfl
  rw[n] at j;have u:Hid (∀I,(∀i,s=.ok i->I=i)->Fh s 1 (K I).at'=Cl K s m.data.toList):=fun I hI=>by
   rcases s with e|i
   ·rfl
   ·obtain rfl:=hI i rfl;simp only[isS] at b;simp only[Fh,Cl,b];rfl
  clear b n;go_enter Tryz.func25,Tryz.ntmps25
  go_wp2_with (go_at_call 46;refine j.out.mono ?_;rintro e k ⟨rfl,c,f⟩;have o:Hid (RS K N k br bl s d):=c;have p:Hid (Fr (·≠br) w k):=f;clear c f)
  obtain⟨E,I,D,a,hI,H,q,x,y,z,v⟩:=o.out.open;have J:=Aa a 0;have L:=Aa a 1;have G:=Ab a;have F:(I:Int)<((N+1:Nat):Int):=by omega
  have t:Hid (∀W,Ad k W->Calls _ _ _ _ _):=fun W g=>Gd W br bl s d 1 (K I).at' (by decide) (o.out.grew g);have l:Hid (Fh s 1 (K I).at'=_):=u.out I v;generalize (K I).at'=aa at z t l;obtain⟨r,-,-,Q⟩:=RS.cells a q x y z;have M:=Aa r 0;have O:=Aa r 1;clear a x y v u j r;go_region_with (go_at_call 19;refine(t.out _ (Ad.refl k).drew).mono ?_;rintro e A ⟨rfl,c,f⟩;rw[l.out] at c;have C:Hid (RS K N A br bl (Cl K s m.data.toList) d):=c;have B:Hid (Fr (·≠br) w A):=p.out.drew.trans f;clear c f)
  all_goals go_wp2_with fail
  all_goals go_end0
  all_goals exact⟨rfl,C.out,B.out⟩
theorem Ap.grew {w w':World}{bt sb:Nat}{tx:ByteArray}{a:Int}(h:Ap w bt sb tx a)(g:Ad w w'):Ap w' bt sb tx a:=(g.below.block bt (Ab h)).trans h
theorem Ap.fr {w w':World}{bt sb br:Nat}{tx:ByteArray}{a:Int}(h:Ap w bt sb tx a)(g:Fr (·≠br) w w')(hb:bt≠br):Ap w' bt sb tx a:=(g.block bt (Ab h) hb).trans h
theorem Ql (s:SX)(c p:Nat)(hc:c≠0)(h:∀c p,s=.error (c,p)->((c:Int)==0)=false):(ec (Fh s c p) != 0)=true:=by
 rcases s with⟨a,b⟩|i
 ·have:=h a b rfl;simp only[Fh,ec];simp at this |-;omega
 ·simp only[Fh,ec];simp;omega
def C4 (r:Except (Nat×Nat) (List UInt8×Nat)):ByteArray:=match r with | .ok (n,_)=>⟨n.toArray⟩ | .error _=>⟨#[]⟩
theorem Ov (c:Nat):(Bg c==119)=true↔c=1:=by
 unfold Bg;by_cases a:c=0
 ·subst a;decide
 by_cases b:c=1
 ·subst b;decide
 by_cases d:c=2
 ·subst d;decide
 by_cases e:c=3
 ·subst e;decide
 by_cases f:c=4
 ·subst f;decide
 rw[if_neg a,if_neg b,if_neg d,if_neg e,if_neg f];simp;omega
theorem U0 {K:Nat->Tk}{N I:Nat}{s:SX}{r:Except (Nat×Nat) (List UInt8×Nat)}(hL:Bn K N)(hI:I<=N)(hs:∀i,s=.ok i->I=i)(hr:Ay s (C0 K)=some r) :
  ((((Bg (K I).cl==119)=false\/Aq (B2 (K I)).data.toList=true)->Fh s 1 (K I).at'=stX r/\C4 r=⟨#[]⟩)/\((Bg (K I).cl==119)=true->Aq (B2 (K I)).data.toList=false->16<(B2 (K I)).size->Fh s 5 (K I).at'=stX r/\C4 r=⟨#[]⟩)/\((Bg (K I).cl==119)=true->Aq (B2 (K I)).data.toList=false->¬16<(B2 (K I)).size->(∀i,s=.ok i->stX r=.ok (I+1)/\C4 r=B2 (K I)/\I+1<=N)/\(∀e,s=.error e->stX r=.error e/\C4 r=⟨#[]⟩))):=by
 rcases s with e|i
 ·obtain rfl:.error e=r:=by simpa [Ay] using hr
  exact⟨fun _=>⟨rfl,rfl⟩,fun _ _ _=>⟨rfl,rfl⟩,fun _ _ _=>⟨fun i h=>by simp at h,fun e' h=>by simp at h;subst h;exact⟨rfl,rfl⟩⟩⟩
 ·obtain rfl:=hs i rfl;have a:C0 K I=some r:=hr;unfold C0 at a;by_cases c:(K I).cl=1
  ·have b:(Bg (K I).cl==119)=true:=(Ov _).2 c;have g:(B2 (K I)).data.toList=(K I).tx:=Ea _ (by omega);have j:(B2 (K I)).size=(K I).tx.length:=by rw[<- g];simp
   rw[b,g,j];cases f:Aq (K I).tx with
   | true =>
    rw[if_pos (.inr f)] at a;obtain rfl:.error (1,(K I).at')=r:=by simpa [Cz] using a
    exact⟨fun _=>⟨rfl,rfl⟩,fun _ h=>by simp at h,fun _ h=>by simp at h⟩
   | false =>
    rw[if_neg (by simp[c,f])] at a;by_cases d:16<(K I).tx.length
    ·rw[if_pos d] at a;obtain rfl:.error (5,(K I).at')=r:=by simpa [Cz] using a
     exact⟨fun h=>by simp at h,fun _ _ _=>⟨rfl,rfl⟩,fun _ _ h=>absurd d h⟩
    ·rw[if_neg d] at a;obtain rfl:.ok ((K I).tx,I+1)=r:=by simpa [okX] using a
     refine⟨fun h=>by simp at h,fun _ _ h=>absurd h d,fun _ _ _=>⟨fun i _=>⟨rfl,?_,hL.lt_cl hI (.inl c)⟩,fun e h=>by simp at h⟩⟩;unfold B2;rw[if_neg (by omega)];rfl
  ·rw[if_pos (.inl c)] at a;obtain rfl:.error (1,(K I).at')=r:=by simpa [Cz] using a
   have b:(Bg (K I).cl==119)=false:=by
    cases h:Bg (K I).cl==119 with
    | true=>exact absurd ((Ov _).1 h) c
    | false=>rfl
   rw[b];exact⟨fun _=>⟨rfl,rfl⟩,fun h=>by simp at h,fun h=>by simp at h⟩
theorem Yh {K:Nat->Tk}{N:Nat}(hL:Bn K N)(w:World)(br bl:Nat)(s:SX)(d:Int)(hN:N<=1000000)(h:RS K N w br bl s d)(r:Except (Nat×Nat) (List UInt8×Nat))(hr:Ay s (C0 K)=some r) :
  Calls Tryz.prog 26 #[.pointer (some ⟨br,0,none⟩)] w fun e w'=>e=.returned (.string (C4 r))/\RS K N w' br bl (stX r) d/\Fr (·≠br) w w':=by
 obtain⟨b0,I,a9,R,hI,b2,a1,t0,t1,t2,hs⟩:=h.open;obtain⟨hd,u0,u1,u2⟩:=RS.cells R a1 t0 t1 t2;have c0:=Aa R 0;have c1:=Aa R 1;have k0:=Aa hd 0;have k1:=Aa hd 1;have a2:=Ab R;have HS:Hid (RS K N w br bl s d):=h;have Y:Hid (∀i,s=.ok i->I=i):=hs;have g:Hid (∀c p,s=.error (c,p)->((c:Int)==0)=false):=h.fault;have mo:=follows;have a0:(I:Int)<((N+1:Nat):Int):=by omega
 have A:Hid (∀W:World,_):=fun W=>Jj (B2 (K I)) W;have q:Hid ((((Bg (K I).cl==119)=false\/Aq (B2 (K I)).data.toList=true)->Fh s 1 (K I).at'=stX r/\C4 r=⟨#[]⟩)/\((Bg (K I).cl==119)=true->Aq (B2 (K I)).data.toList=false->16<(B2 (K I)).size->Fh s 5 (K I).at'=stX r/\C4 r=⟨#[]⟩)/\((Bg (K I).cl==119)=true->Aq (B2 (K I)).data.toList=false->¬16<(B2 (K I)).size->(∀i,s=.ok i->stX r=.ok (I+1)/\C4 r=B2 (K I)/\I+1<=N)/\(∀e,s=.error e->stX r=.error e/\C4 r=⟨#[]⟩))):=U0 hL hI hs hr;generalize a4:Bg (K I).cl=sb at t0 u0 q;generalize a5:B2 (K I)=tx at t1 u1 q A;generalize (K I).at'=aa at t2 u2 q;clear R hd h a4 a5 hr;have L:Hid (Ap _ w.heap.size sb tx (aa:Int)):=Ap.new w sb tx (aa:Int);have X:Hid (Ad w (w.alloc (.cells #[.int .u8 (sb:Int),.string tx,.int .i64 (aa:Int)] 55)).drew):=((Ad.refl w).alloc _).drew;go_enter Tryz.func26,Tryz.ntmps26
 go_wp2_with fail
 go_big_region_o
 clear c0 c1 k0 k1 u0 u1 u2 t0 t1 t2 a0;generalize (w.alloc (.cells #[.int .u8 (sb:Int),.string tx,.int .i64 (aa:Int)] 55)).drew=W1 at X L |-;obtain⟨U,S⟩:∃U,w.heap.size=U:=⟨_,rfl⟩;rw[S] at L a2 |-;clear S;have a8:U≠br:=by omega
 have q1:=Aa L.out 1;go_wp2_with fail
 refine(A.out W1).mono ?_;rintro e m ⟨rfl,hg⟩;have F:Hid (Ad w m):=X.out.trans hg;have T2:Hid (Ap m U sb tx (aa:Int)):=L.out.grew hg;have D:Hid (RS K N m br bl s d):=HS.out.grew F.out;clear hg q1 X L A HS;have y0:=Aa T2.out 0;have y1:=Aa T2.out 1;have y2:=Aa T2.out 2;obtain⟨C,G,H⟩:=q.out;cases o:(sb==119) with
 | false =>
  have a6:((sb:Int) != 119)=true:=by rw[beq_eq_false_iff_ne] at o;rw[bne_iff_ne];omega
  obtain⟨k,l⟩:=C (.inl o);have v:Hid (Calls _ _ _ _ _):=Gd m br bl s d 1 aa (by decide) D.out;have u:Hid ((ec (Fh s 1 aa) != 0)=true):=Ql s 1 aa (by decide) g.out;rw[k] at v u;have t:Hid (C4 r=⟨#[]⟩):=l;clear C G H q o k l g;go_wp2_with (go_at_call 19;refine v.out.mono ?_;rintro e x ⟨rfl,j,y⟩;have n:Hid (RS K N x br bl (stX r) d):=j;have J:Hid (Fr (·≠br) w x):=(Fr.grew F.out).trans y;obtain⟨f,B,b,a,-⟩:=j;have V:=Aa a 3;have E:=u.out;clear a y)
  go_ret
  exact⟨by rw[t.out];rfl,n.out,J.out⟩
 | true =>
  have a6:((sb:Int) != 119)=false:=by rw[beq_iff_eq] at o;rw[bne_eq_false_iff_eq];omega
  cases z1:Aq tx.data.toList with
  | true =>
   obtain⟨k,l⟩:=C (.inr z1);have v:Hid (Calls _ _ _ _ _):=Gd m br bl s d 1 aa (by decide) D.out;have u:Hid ((ec (Fh s 1 aa) != 0)=true):=Ql s 1 aa (by decide) g.out;rw[k] at v u;have t:Hid (C4 r=⟨#[]⟩):=l;clear C G H q o k l g;go_wp2_with (go_at_call 19;refine v.out.mono ?_;rintro e x ⟨rfl,j,y⟩;have n:Hid (RS K N x br bl (stX r) d):=j;have J:Hid (Fr (·≠br) w x):=(Fr.grew F.out).trans y;obtain⟨f,B,b,a,-⟩:=j;have V:=Aa a 3;have E:=u.out;clear a y)
   go_ret
   exact⟨by rw[t.out];rfl,n.out,J.out⟩
  | false =>
   by_cases T:16<tx.size
   ·have a7:(16:Int)<(tx.size:Int):=by omega
    obtain⟨k,l⟩:=G o z1 T;have v:Hid (Calls _ _ _ _ _):=Gd m br bl s d 5 aa (by decide) D.out;have u:Hid ((ec (Fh s 5 aa) != 0)=true):=Ql s 5 aa (by decide) g.out;rw[k] at v u;have t:Hid (C4 r=⟨#[]⟩):=l;clear C G H q o T k l g;go_wp2_with (go_at_call 19;refine v.out.mono ?_;rintro e x ⟨rfl,j,y⟩;have n:Hid (RS K N x br bl (stX r) d):=j;have J:Hid (Fr (·≠br) w x):=(Fr.grew F.out).trans y;obtain⟨f,B,b,a,-⟩:=j;have V:=Aa a 3;have E:=u.out;clear a y)
    go_ret
    exact⟨by rw[t.out];rfl,n.out,J.out⟩
   ·have a7:¬(16:Int)<(tx.size:Int):=by omega
    obtain⟨k,l⟩:=H o z1 T;rcases s with⟨c,p⟩|i
    ·obtain⟨M,O⟩:=l _ rfl;have P1:Hid (stX r=_):=M;have t:Hid (C4 r=⟨#[]⟩):=O;have V:m.cell? ⟨br,3,none⟩=some (.int .i64 (c:Int)):=by
      obtain⟨f,B,b,a,-⟩:=D.out;exact Aa a 3
     have E:((c:Int) != 0)=true:=by have:=g.out c p rfl;simp at this |-;exact this
     clear C G H q o T k l M O g;go_wp2_with fail
     go_ret
     exact⟨by rw[t.out];rfl,by rw[P1.out];exact D.out,Fr.grew F.out⟩
    ·obtain⟨M,O,h3⟩:=k _ rfl;have P1:Hid (stX r=_):=M;have t:Hid (C4 r=tx):=O;obtain⟨f,B,b,a,b1,z,Q,a3⟩:=D.out;obtain rfl:B=i:=a3;obtain rfl:I=B:=Y.out B rfl;have n:Hid (Fj m br bl N f I d 0 b):=a;have V:=Aa n.out 3;have e1:=Aa n.out 1;have f1:=Ac n.out 1;have Z:Hid (Et K N bl m):=Q;clear C G H q o T k l M O g a Q D;go_wp2_with fail
     go_ret
     have hF:Fr (·≠br) w (m.setCell ⟨br,1,none⟩ (.int .i64 ((I:Int)+1))):=(Fr.grew F.out).set (by simp) _;refine⟨by rw[t.out];rfl,?_,hF⟩;rw[P1.out];exact⟨f,I+1,b,n.out.setI (I+1),h3,z,Z.out.of (P:=(·≠br)) ((Fr.refl _ m).set (by simp) _) z,rfl⟩
theorem aP {K:Nat->Tk}{N:Nat}(w:World)(br bl:Nat)(s:SX)(d:Int)(h:RS K N w br bl s d) :
  Calls Tryz.prog 45 #[.pointer (some ⟨br,0,none⟩)] w fun e w'=>e=.returned (.tuple #[])/\RS K N w' br bl s (wrap64 (d-1))/\Fr (·≠br) w w':=by
 obtain⟨b,I,a,f,j,c,k,l⟩:=h;have i:Hid (Fj w br bl N b I d (ec s) a):=f;have m:=Aa f 2;have n:=Ac f 2;clear f;have o:=follows;go_enter Tryz.func45,Tryz.ntmps45
 go_wp2_with fail
 go_end0
 have g:Fr (·≠br) w (w.setCell ⟨br,2,none⟩ (.int .i64 (wrap64 (d-1)))):=(Fr.refl _ w).set (by simp) _;exact⟨rfl,⟨b,I,a,i.out.setD _,j,c,k.of g c,l⟩,g⟩
def inS (K:Nat->Tk)(i d:Nat):SX:=if d=24 then .error (6,(K i).at') else .ok (i+1)
theorem cJ {K:Nat->Tk}{N:Nat}(hN:N<=1000000)(w:World)(br bl i d:Nat)(hd:d<=24)(hi:i<N)(h:RS K N w br bl (.ok i) (d:Int)) :
  Calls Tryz.prog 44 #[.pointer (some ⟨br,0,none⟩)] w fun e w'=>e=.returned (.tuple #[])/\RS K N w' br bl (inS K i d) ((d+1:Nat):Int)/\Fr (·≠br) w w':=by
 obtain⟨b,I,a,M,hI,f,y,u⟩:=h;obtain rfl:I=i:=u;have j:Hid (Fj w br bl N b I (d:Int) 0 a):=M;have X:Hid (Et K N bl w):=y;have c2:=Aa j.out 2;have f2:=Ac j.out 2;have m:Fr (·≠br) w (w.setCell ⟨br,2,none⟩ (.int .i64 ((d:Int)+1))):=(Fr.refl _ w).set (by simp) _;have D:Hid (RS K N (w.setCell ⟨br,2,none⟩ (.int .i64 ((d:Int)+1))) br bl (.ok I) ((d:Int)+1)):=⟨b,I,a,j.out.setD _,hI,f,y.of m f,rfl⟩;have v:Hid (Fr (·≠br) w (w.setCell ⟨br,2,none⟩ (.int .i64 ((d:Int)+1)))):=m;have k:Hid (Fj (w.setCell ⟨br,2,none⟩ (.int .i64 ((d:Int)+1))) br bl N b I ((d:Int)+1) 0 a):=j.out.setD _;clear M y m;have mo:=follows;by_cases l:d=24
 ·subst l;have q:inS K I 24=.error (6,(K I).at'):=rfl;rw[q];have s:Hid (RS K N (w.setCell ⟨br,2,none⟩ (.int .i64 25)) br bl (.ok I) 25):=D.out;have B:Hid (Fr (·≠br) w (w.setCell ⟨br,2,none⟩ (.int .i64 25))):=v.out;have p:Hid (Fj (w.setCell ⟨br,2,none⟩ (.int .i64 25)) br bl N b I 25 0 a):=k.out;clear q D v k;go_enter Tryz.func44,Tryz.ntmps44
  go_wp2_with fail
  clear c2 f2;generalize w.setCell ⟨br,2,none⟩ (.int .i64 25)=w1 at s B p |-;obtain⟨G,o,E,c,a0,Q,z,S,T,U,u⟩:=s.out.open;obtain rfl:o=I:=u I rfl;have C:Hid (∀W,Ad w1 W->Calls _ _ _ _ _):=fun W g=>Gd W br bl (.ok o) 25 6 (K o).at' (by decide) (s.out.grew g);obtain⟨hd,-,-,u2⟩:=RS.cells c z S T U;have c0:=Aa c 0;have Z:=Aa c 1;have k0:=Aa hd 0;have k1:=Aa hd 1;have a1:(o:Int)<((N+1:Nat):Int):=by omega
  have a2:=Ab c;obtain⟨t,n⟩:∃t,(K o).at'=t:=⟨_,rfl⟩;have x:Hid ((K o).at'=t):=n;rw[n] at U u2 C;clear n;clear c S T u hd s p;go_region_with (go_at_call 19;refine(C.out _ (Ad.refl w1).drew).mono ?_;rintro e A ⟨rfl,R,O⟩;have Y:Hid (RS K N A br bl (.error (6,t)) 25):=R;have V:Hid (Fr (·≠br) w A):=B.out.drew.trans O;obtain⟨H,I3,F,r,-⟩:=R;have e3:A.cell? ⟨br,3,none⟩=some (.int .i64 6):=Aa r 3;clear r O)
  all_goals go_wp2_with fail
  all_goals go_end0
  all_goals exact⟨rfl,by rw[x.out];exact Y.out,V.out⟩
 ·have q:inS K I d=.ok (I+1):=by unfold inS;rw[if_neg l]
  rw[q];have J:¬(24:Int)<(d:Int)+1:=by omega
  have c3:=Aa j.out 3;have Z:=Aa j.out 1;have f1:=Ac j.out 1;clear q l;go_enter Tryz.func44,Tryz.ntmps44
  go_wp2_with fail
  go_end0
  have L:Fr (·≠br) w ((w.setCell ⟨br,2,none⟩ (.int .i64 ((d:Int)+1))).setCell ⟨br,1,none⟩ (.int .i64 ((I:Int)+1))):=v.out.set (by simp) _;exact⟨rfl,⟨b,I+1,a,k.out.setI (I+1),hi,f,X.out.of (P:=(·≠br)) L f,rfl⟩,L⟩
def Qm:List UInt8:=[118,97,108,117,101]
def eT:List UInt8:=[110,97,109,101]
def dW:List UInt8:=[112,114,105,109,101]
def aQ:List UInt8:=[99,97,108,108]
def dX:List UInt8:=[102,117,110,32,105,110]
def Mx:List (List UInt8):=[[97,108,108],[115,111,109,101],[99,104,111,111,115,101]]
def Mz (k n:Int)(tx:List UInt8)(x:PX):Prop :=
 (k=0/\x=B8 [110,105,108])\/(k=1/\n=1/\x=B8 [116,114,117,101])\/(k=1/\n=0/\x=B8 [102,97,108,115,101]) \/
 (k=2/\-9223372036854775808<=n/\n<=9223372036854775807/\x=B8 (Lib.itoa n))\/(k=3/\x=Du tx)
def Fo (op nm:List UInt8)(k n:Int)(tx:List UInt8)(kids:List PX)(x:PX):Prop :=
 (op=Qm/\Mz k n tx x)\/(op=eT/\x=B8 nm)\/(op=dW/\x=B8 (nm++[39]))\/(op=aQ/\x=C6 nm kids)\/(op∈B7/\x=C6 nm kids) \/
 (op=Z7/\x=Hl kids)\/(op=Z9/\x=Gh kids)\/(op=Ig/\x=Gt kids)\/(op=Bo/\x=C2 12 op nm)\/(op=Ch/\x=C2 6 op nm) \/
 (op=wIf/\∃a b c,kids=[a,b,c]/\x=dIf a b c)\/(op=Hk/\∃a b,kids=[a,b]/\x=Hy nm a b)\/((op∈Mx\/op∈Cy)/\∃a b,kids=[a,b]/\x=Cc op nm a b)\/(op=dX/\∃a b,kids=[a,b]/\x=Cc Ig nm a b) \/
 (op=T0/\∃a,kids=[a]/\x=Bu 12 Jb a)\/(op∈De/\∃a,kids=[a]/\x=Bu 6 op a)\/(op∈Cx/\∃a,kids=[a]/\x=Bu 12 op a) \/
 (op=oAt/\∃f k,kids=[f,k]/\x=dAt f k)\/(op=Tz/\∃f k v,kids=[f,k,v]/\x=Ed f k v)\/(op∈Dr.map Prod.fst/\∃a b,kids=[a,b]/\x=Bl op a b)
def Ao (w:World)(b:Nat)(op:ByteArray)(a:Int)(nm:ByteArray)(k n:Int)(tx:ByteArray)(pa:Option Addr)(len cap:Nat):Prop :=
 w.heap[b]?=some (.cells #[.string op,.int .i64 a,.string nm,.int .i64 k,.int .i64 n,.string tx,.slice none 0 0,.slice none 0 0,.slice pa len cap,.int .i64 0,.int .i64 0] 95 (0,0))
theorem Ao.of {w w':World}{b:Nat}{op nm tx:ByteArray}{a k n:Int}{pa:Option Addr}{len cap:Nat}(h:Ao w b op a nm k n tx pa len cap){P:Nat->Prop}(f:Fr P w w')(hp:P b):Ao w' b op a nm k n tx pa len cap:=(f.block b (Ab h) hp).trans h
theorem Ao.op {w:World}{b:Nat}{op nm tx:ByteArray}{a k n:Int}{pa:Option Addr}{len cap:Nat}(h:Ao w b op a nm k n tx pa len cap)(s:ByteArray):Ao (w.setCell ⟨b,0,none⟩ (.string s)) b s a nm k n tx pa len cap:=by
 have:=Aj h 0 (.string s);simpa [Ao] using this
theorem Ao.name {w:World}{b:Nat}{op nm tx:ByteArray}{a k n:Int}{pa:Option Addr}{len cap:Nat}(h:Ao w b op a nm k n tx pa len cap)(s:ByteArray):Ao (w.setCell ⟨b,2,none⟩ (.string s)) b op a s k n tx pa len cap:=by
 have:=Aj h 2 (.string s);simpa [Ao] using this
theorem Ao.kids {w:World}{b:Nat}{op nm tx:ByteArray}{a k n:Int}{pa:Option Addr}{len cap:Nat}(h:Ao w b op a nm k n tx pa len cap)(q:Option Addr)(l c:Nat):Ao (w.setCell ⟨b,8,none⟩ (.slice q l c)) b op a nm k n tx q l c:=by
 have:=Aj h 8 (.slice q l c);simpa [Ao] using this
section
variable (P:Nat->Prop) (w:World)
def dE (R:PX->Value->Prop)(x:PX)(v:Value):Prop :=
 ∃(b:Nat)(op nm tx:ByteArray)(a k n:Int)(pa:Option Addr)(len cap:Nat)(kids:List PX),
  v=.pointer (some ⟨b,0,none⟩)/\P b/\Ao w b op a nm k n tx pa len cap/\Bh P w R pa len kids/\Fo op.data.toList nm.data.toList k n tx.data.toList kids x
def D2:Nat->PX->Value->Prop
 | 0,_,_=>False
 | n+1,x,v=>dE P w (D2 n) x v
def Ag (x:PX)(v:Value):Prop:=∃n,D2 P w n x v
end
theorem D2.up {P:Nat->Prop}{w:World}:∀(n m:Nat),n<=m->∀x v,D2 P w n x v->D2 P w m x v
 | 0,_,_,_,_,h=>absurd h id
 | n+1,0,hm,_,_,_=>absurd hm (by omega)
 | n+1,m+1,hm,x,v,h=>by
  obtain⟨b,op,nm,tx,a,k,i,pa,len,cap,kids,h1,h2,h3,h4,h5⟩:=h;exact⟨b,op,nm,tx,a,k,i,pa,len,cap,kids,h1,h2,h3,h4.mono (D2.up n m (by omega)),h5⟩
theorem D2.fr {P Q:Nat->Prop}{w w':World}(hf:Fr P w w')(hQ:∀k,k<w.heap.size->P k->Q k):∀(n:Nat) x v,D2 P w n x v->D2 Q w' n x v
 | 0,_,_,h=>absurd h id
 | n+1,x,v,h=>by
  obtain⟨b,op,nm,tx,a,k,i,pa,len,cap,kids,h1,h2,h3,h4,h5⟩:=h;exact⟨b,op,nm,tx,a,k,i,pa,len,cap,kids,h1,hQ b (Ab h3) h2,(hf.block b (Ab h3) h2).trans h3,Bh.fr hf (D2.fr hf hQ n) hQ h4,h5⟩
theorem Ag.fr {P Q:Nat->Prop}{w w':World}(hf:Fr P w w')(hQ:∀k,k<w.heap.size->P k->Q k){x:PX}{v:Value}(h:Ag P w x v):Ag Q w' x v:=by
 obtain⟨n,h⟩:=h;exact⟨n,D2.fr hf hQ n x v h⟩
theorem Ag.node {P:Nat->Prop}{w:World}{x:PX}{v:Value}(h:dE P w (Ag P w) x v):Ag P w x v:=by
 obtain⟨b,M,L,N,a,k,i,z,f,r,c,D,E,F,⟨A,B,p⟩,G⟩:=h;have s:∃n,Bh P w (D2 P w n) z f c:=by
  rcases p with p|⟨g,j,e,H,J,p⟩
  ·exact⟨0,A,B,.inl p⟩
  ·have:∀(l:List PX)(o:Nat),(∀i x,l[i]?=some x->∃v,w.cell? ⟨g,o+i,none⟩=some v/\Ag P w x v)->∃n,∀i x,l[i]?=some x->∃v,w.cell? ⟨g,o+i,none⟩=some v/\D2 P w n x v:=by
    intro l
    induction l with
    | nil=>intro o _;exact⟨0,fun i x q=>by simp at q⟩
    | cons y l ih =>
     intro o t;obtain⟨O,C,m,I⟩:=t 0 y rfl;obtain⟨n,d⟩:=ih (o+1) fun i x q=>by
      have:=t (i+1) x (by simpa using q);rw[show o+(i+1)=o+1+i from by omega] at this;exact this
     refine⟨max m n,fun i x q=>?_⟩;cases i with
     | zero=>simp at q;subst q;exact⟨O,C,D2.up m _ (by omega) _ _ I⟩
     | succ i =>
      obtain⟨v,u,K⟩:=d i x (by simpa using q);rw[show o+1+i=o+(i+1) from by omega] at u;exact⟨v,u,D2.up n _ (by omega) _ _ K⟩
   obtain⟨n,d⟩:=this c j p;exact⟨n,A,B,.inr ⟨g,j,e,H,J,d⟩⟩
 obtain⟨n,d⟩:=s;exact⟨n+1,b,M,L,N,a,k,i,z,f,r,c,D,E,F,d,G⟩
def RSd (K:Nat->Tk)(N:Nat)(w:World)(br bl:Nat)(s:SX)(d:Nat):Prop:=∃dd:Int,RS K N w br bl s dd/\(OkS s->dd=(d:Int))
theorem RSd.fr {K:Nat->Tk}{N br bl:Nat}{w w':World}{s:SX}{d:Nat}{P:Nat->Prop}(h:RSd K N w br bl s d)(f:Fr P w w')(h1:P br)(h2:P bl):RSd K N w' br bl s d:=by
 obtain⟨a,h,e⟩:=h;exact⟨a,h.of f h1 h2,e⟩
theorem RSd.grew {K:Nat->Tk}{N br bl:Nat}{w w':World}{s:SX}{d:Nat}(h:RSd K N w br bl s d)(g:Ad w w'):RSd K N w' br bl s d:=h.fr (P:=fun _=>True) (Fr.grew g) trivial trivial
theorem RSd.lt {K:Nat->Tk}{N br bl:Nat}{w:World}{s:SX}{d:Nat}(h:RSd K N w br bl s d):br<w.heap.size:=by
 obtain⟨a,h,-⟩:=h;exact h.lt
theorem RSd.row {K:Nat->Tk}{N br bl:Nat}{w:World}{s:SX}{d:Nat}(h:RSd K N w br bl s d):bl<w.heap.size/\bl≠br:=by
 obtain⟨f,⟨c,I,b,i,g,a,e,j⟩,-⟩:=h;exact⟨e.1,a⟩
def Cd (K:Nat->Tk)(N:Nat)(w:World)(br bl d:Nat)(r:Except (Nat×Nat) (PX×Nat))(e:Ending)(w':World):Prop :=
 Fr (·≠br) w w'/\RSd K N w' br bl (stX r) d/\∃b,e=.returned (.pointer (some ⟨b,0,none⟩))/\∀x j,r=.ok (x,j)->Ag (fun k=>w.heap.size<=k) w' x (.pointer (some ⟨b,0,none⟩))
def Cv (K:Nat->Tk)(N br bl:Nat)(self:Nat->Nat->Nat->RX PX):Prop :=
 ∀(w:World)(n d:Nat)(s:SX)(r:Except (Nat×Nat) (PX×Nat)),n<=12->(OkS s->d<=24)->RSd K N w br bl s d->Ay s (self n d)=some r->Calls Tryz.prog 18 #[.pointer (some ⟨br,0,none⟩),.int .i64 (n:Int)] w (Cd K N w br bl d r)
def eU (K:Nat->Tk)(N:Nat)(w:World)(br bl be d:Nat)(r:Except (Nat×Nat) (PX×Nat))(e:Ending)(w':World):Prop :=
 e=.returned (.tuple #[])/\Fr (fun k=>k≠br/\k≠be) w w'/\RSd K N w' br bl (stX r) d/\∀x j,r=.ok (x,j)->Ag (fun k=>k=be\/w.heap.size<=k) w' x (.pointer (some ⟨be,0,none⟩))
theorem Eu {K:Nat->Tk}{γ:Type}{s:SX}{m:List UInt8}{k:Nat->RX γ}{r:Except (Nat×Nat) (γ×Nat)}(h:Ay s (fun i=>Cj K m i k)=some r):Ay (Cl K s m) k=some r:=by
 rcases s with e|i
 ·exact h
 ·simp only[Ay,Cj,Cl] at h |-;cases a:(K i).tx==m with
  | true=>rw[a] at h;exact h
  | false=>rw[a] at h;simp only[Cz] at h;exact h
theorem Di {K:Nat->Tk}{s:SX}{m:List UInt8}(h:OkS (Cl K s m)):OkS s:=by
 rcases s with e|i
 ·obtain⟨j,a⟩:=h;simp[Cl] at a
 ·exact⟨i,rfl⟩
theorem Dz {K:Nat->Tk}{N:Nat}(hK:∀i,Bz (K i))(hL:Bn K N)(w:World)(br bl:Nat)(s:SX)(d:Nat)(m:ByteArray)(hm:m.data.toList∈C3)(hN:N<=1000000)(h:RSd K N w br bl s d) :
  Calls Tryz.prog 25 #[.pointer (some ⟨br,0,none⟩),.string m] w fun e w'=>e=.returned (.tuple #[])/\RSd K N w' br bl (Cl K s m.data.toList) d/\Fr (·≠br) w w':=by
 obtain⟨a,h,e⟩:=h;refine(Yg hK hL w br bl s a m hm hN h).mono ?_;rintro f w' ⟨rfl,b,c⟩;exact⟨rfl,⟨a,b,fun o=>e (Di o)⟩,c⟩
end Go.Proofs.YtjbfcadeapphbaaGreatDoor.Sx
