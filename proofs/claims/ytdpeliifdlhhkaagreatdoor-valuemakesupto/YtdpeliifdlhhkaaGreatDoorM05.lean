/- The library's sort of no element. -/
import Derived.Test.YtdpeliifdlhhkaaGreatDoorM03
import Derived.Test.YtdpeliifdlhhkaaGreatDoorLay
import Derived.Test.YtdpeliifdlhhkaaGreatDoorM01
import Derived.Lib.SliceRun
import Derived.Test.YtdpeliifdlhhkaaGreatDoorM02
import Derived.Lib.ParseIntB
import Derived.Deep.AppendLies
namespace Go.Proofs.YtdpeliifdlhhkaaGreatDoor.Sx
open Go.RowKit Go.Sort Tryz
set_option maxRecDepth 100000
set_option maxHeartbeats 2000000
theorem cS (a:Option Addr)(cap:Nat)(fv:Value)(w:World):Calls prog 325 #[.slice a 0 cap,.int .i64 0,.int .i64 0,fv] w fun e w'=>e=.returned (.tuple #[])/\w'=w:=by
 go_enter func325,ntmps325
 go_wp2_with fail
 refine wp_loop_rounds 1 ?_;rw[rounds_succ];go_wp2_with fail
 go_end0
 exact⟨rfl,rfl⟩
theorem qH (a:Option Addr)(cap:Nat)(lim:Int)(fv:Value)(w:World):Calls prog 308 #[.slice a 0 cap,.int .i64 0,.int .i64 0,.int .i64 lim,fv] w fun e w'=>e=.returned (.tuple #[])/\w'=w:=by
 have b:Hid _:=fun W=>cS a cap fv W;go_enter func308,ntmps308
 go_wp2_with fail
 refine wp_loop_rounds 1 ?_;rw[rounds_succ];go_wp2_with (go_at_call 325;refine(b.out _).mono ?_;rintro e w' ⟨rfl,rfl⟩)
 (try simp only[Exit.inBlock,Exit.then]);refine Ae2 (results_none rfl _ _ _) rfl ?_
 exact⟨rfl,rfl⟩
theorem Yt (a:Option Addr)(cap:Nat)(fv:Value)(w:World):Calls prog 274 #[.slice a 0 cap,fv] w fun e w'=>e=.returned (.tuple #[])/\w'=w:=by
 have c:Hid _:=fun lim W=>qH a cap lim fv W;have b:Hid _:=fun W=>Tryz.bits_Len 0 W (by omega) (by omega);go_enter func274,ntmps274
 go_wp2_with (first|(go_at_call 281;refine(b.out _).mono ?_;rintro e w' ⟨rfl,rfl⟩)|(go_at_call 308;refine(c.out _ _).mono ?_;rintro e w' ⟨rfl,rfl⟩))
 go_end0
 exact⟨rfl,rfl⟩
theorem cT (w:World)(ty:TypeId)(b o n c:Nat)(hn:0<n)(hc:∀j,j<n->(w.cell? ⟨b,o+j,none⟩).isSome=true)(hf:∀j,j<n->w.frozen? ⟨b,o+j,none⟩=false) :
  (Builtin.clear_ #[47] ty #[.slice (some ⟨b,o,none⟩) n c]).run prog w=.ok (.tuple #[]) (w.setCells b o (List.replicate n .nilIface)):=by
 have d:(Builtin.zeroCells (Value.agg #[Value.nilIface]).cells n).toList=List.replicate n .nilIface:=by
  simp only[Value.cells,Builtin.zeroCells];apply List.ext_getElem
  ·simp
  ·intro i e f;simp[Nat.mod_one]
 have a:=run_storeCells_cells (P:=prog) b o (List.replicate n .nilIface) 0 w (by simpa using hc) (by simpa using hf) (by intro v hv;rw[List.eq_of_mem_replicate hv];rfl);simp only[Nat.add_zero] at a;obtain⟨m,rfl⟩:∃m,n=m+1:=⟨n-1,by omega⟩;simp[Builtin.clear_,run_underlying underlying47,d,a]
theorem cU (n:Nat)(W0 w:World)(g len cap:Nat)(hs:List (Fc n W0))(hW:Below W0.heap.size W0 w)(hg:W0.heap.size<=g)(hlen:hs.length=len)(hl:len<=4294967296)(hcap:len<=cap)(hmax:cap<=9223372036854775807)(hrow:Gp w g len (hs.map Fc.v)) :
  Calls prog 275 #[.slice (some ⟨g,0,none⟩) len cap,.func (.func 194) #[] #[]] w fun e w'=>∃rs:List (Fc n W0),rs=D6 (fun a b=>Al n a.x b.x==0) hs/\e=.returned (.slice (some ⟨g,0,none⟩) rs.length cap) /\
   (∀i r,rs[i]?=some r->w'.cell? ⟨g,i,none⟩=some r.v)/\Fr (·≠g) w w':=by
 by_cases h2:len<2
 ·have N:Hid (D6 (fun a b:_=>Al n a.x b.x==0) hs=hs):=by
   show _=_
   match hs,hlen with
   | [],_=>rfl
   | [x],_=>rfl
   | x::y::l,hlen=>simp at hlen;omega
  have HC:Hid (∀i r,hs[i]?=some r->w.cell? ⟨g,i,none⟩=some (Fc.v r)):=by
   intro i r hr;rw[(hrow.2.2 i (by have:=(List.getElem?_eq_some_iff.1 hr).1;omega)).1,Im _ _ _ _ hr]
  clear hrow hW;go_enter func275,ntmps275
  go_wp2_with fail
  go_ret
  exact⟨hs,N.out.symm,by rw[hlen];rfl,HC.out,Fr.refl _ _⟩
 ·have mo:=follows;have X:Hid (Gp w g len _):=hrow;have z:Hid (Below W0.heap.size W0 w):=hW;have HS:Hid _:=fun(a b:Fc n W0) (W:World) (hF:Fr (·≠g) w W) =>
   Qm n W a.x b.x a.v b.v (a.h.below ⟨hF.os.trans z.out.os,hF.tape.trans z.out.tape,hF.output.trans z.out.output,Ae0 z.out.size hF.size,fun k hk=>(hF.block k (Ad8 hk z.out.size) (by omega)).trans (z.out.block k hk)⟩ n _ _) (b.h.below ⟨hF.os.trans z.out.os,hF.tape.trans z.out.tape,hF.output.trans z.out.output,Ae0 z.out.size hF.size,fun k hk=>(hF.block k (Ad8 hk z.out.size) (by omega)).trans (z.out.block k hk)⟩ n _ _)
  clear hrow hW;obtain⟨E,hE⟩:∃E:Fc n W0->Fc n W0->Bool,E=fun a b=>Al n a.x b.x==0:=⟨_,rfl⟩;have V:Hid (∀(a b:_)(W:World),Fr (·≠g) w W->Calls prog 194 #[.agg #[a.v],.agg #[b.v]] W fun e w'=>e=.returned (.bool (E a b))/\Ac W w'):=by rw[hE];exact HS.out
  clear HS;rw[<- hE];clear hE z;have st:∀a:Fc n W0,∀(ad:Addr)(m:Mode)(w:World),_=_:=fun a=>Ae a.h.one;go_enter func275,ntmps275
  go_wp2_with fail
  go_loopw [5] (fun i wr=>∃j:Nat,j+1<=len/\i=.int .i64 ((j:Int)+1)/\Hid (Ac w wr)/\Hid (∀p,hs[j]?=some p->D6 E hs=hs.take (j+1)++goC E p (hs.drop (j+1)))) (fun i _=>len-(intOf i).toNat)
  case atStart=>exact⟨0,by omega,rfl,Ac.refl w,fun p hp=>Tf E hp⟩
  case round =>
   obtain⟨j,hj,rfl,O,H⟩:=hrel;by_cases b1:j+1<len
   ·obtain⟨p,hp⟩:∃p,hs[j]?=some p:=⟨_,List.getElem?_eq_getElem (by omega)⟩;obtain⟨x,hx⟩:∃x,hs[j+1]?=some x:=⟨_,List.getElem?_eq_getElem (by omega)⟩;have c:=H.out p hp;rw[Qo E hx] at c;have F:=X.out.fr (P:=fun _=>True) (Fr.grew O.out) trivial;have J:=(F.2.2 j (by omega)).1;have K:=(F.2.2 (j+1) (by omega)).1;rw[Im _ _ _ _ hp] at J;rw[Im _ _ _ _ hx] at K;have A:=F.1;have Z:=cell_grown A J;have Q:=cell_grown A K;have HX:Hid (hs[j+1]?=some x):=hx;have a6:Hid (hs[j]?=some p):=hp;have o:Hid _:=V.out x p;have f:Hid (D6 E hs=_):=c;have s:Hid (Gp wr g len _):=F;clear hp hx c F J K H;have b2:(j:Int)+1<(len:Int):=by omega
    generalize hb:E x p=b at o f;have a0:Hid (E x p=b):=hb;clear hb;obtain⟨T,D⟩:∃q,q=j+1:=⟨_,rfl⟩;obtain⟨jN,I⟩:∃q,q=j:=⟨_,rfl⟩;have ea:((j:Int)+1).toNat=T:=by omega
    have pa:(0:Int)<=(j:Int)+1:=by omega
    have ra:IntKind.i64.wrap ((j:Int)+1)=(j:Int)+1:=by rw[IntKind.wrap_i64];omega
    have ec:((j:Int)).toNat=jN:=by omega
    have pc:(0:Int)<=(j:Int):=by omega
    have bc:(j:Int)<(len:Int):=by omega
    have rc:IntKind.i64.wrap ((j:Int))=(j:Int):=by rw[IntKind.wrap_i64];omega
    rw[<- D] at Q;rw[<- I] at Z;clear D I;go_wp2_with fail
    go_quiet_grown (first|(go_at_call 194;refine Ae3 (o.out _ (Fr.grew (O.out.grown _ _)))))
    clear ea pa ra ec pc bc rc;have G1:Hid (Ac w (grow (wr.drewN nq) osq)):=O.out.grown _ _;have M:Hid (Gp _ g len _):=s.out.fr (P:=fun _=>True) (Fr.grew ⟨nq,osq,rfl⟩) trivial;clear Z Q O s;generalize grow _ osq=W1 at G1 M |-;clear nq osq;cases b with
    | false =>
     go_wp2_with fail
     go_roundw
     case rel =>
      refine⟨j+1,by omega,by go_num,G1,fun q hq=>?_⟩;have C:=HX.out;rw[C] at hq;simp only[Option.some.injEq] at hq;subst hq;have:=f.out;simp only[Bool.false_eq_true,if_false] at this;rw[this,List.take_add_one (i:=j+1),C];simp
     case measure=>simp[intOf];omega
    | true =>
     have a1:Hid (D6 E hs=hs.take (j+1)++goC E x (hs.drop (j+1+1))):=by have:=f.out;show _=_;simpa using this
     clear f o;go_wp2_with fail
     generalize a7:len-(j+1)=L2;generalize cap-(j+1)=C2;clear a0;go_loopw [5,7] (fun s5 s7 wr=>∃(d t:Nat)(G:List (Fc n W0)),s5=.int .i64 d/\s7=.int .i64 ((t:Int)+1)/\t+1<=L2/\d<=j+1+t/\G.length=len/\Hid (Gp wr g len (G.map Fc.v))/\Hid (∀q,j+1+t<=q->G[q]?=hs[q]?) /\
      Hid (∀p,hs[j+1+t]?=some p->D6 E hs=G.take d++goC E p (hs.drop (j+1+t+1)))/\Hid (Fr (·≠g) w wr)) (fun _ s7 _=>L2-(intOf s7).toNat)
     case atStart =>
      refine⟨j+1,0,hs,by go_num,rfl,by omega,by omega,hlen,M,fun q _=>rfl,fun q hq=>?_,Fr.grew G1.out⟩;have C:=HX.out;rw[Nat.add_zero] at hq;rw[C] at hq;simp only[Option.some.injEq] at hq;subst hq;exact a1.out
     case round =>
      obtain⟨d,t,G,rfl,rfl,ht,a9,S,s,Y,H,N⟩:=hrel;have A:=s.out.1;by_cases a4:t+1<L2
      ·obtain⟨U,B⟩:∃p,hs[j+1+t]?=some p:=⟨_,List.getElem?_eq_getElem (by omega)⟩;obtain⟨u,hu⟩:∃u,hs[j+1+t+1]?=some u:=⟨_,List.getElem?_eq_getElem (by omega)⟩;have c:=H.out U B;rw[Qo E hu] at c;have J:=(s.out.2.2 (j+1+t) (by omega)).1;have K:=(s.out.2.2 (j+1+t+1) (by omega)).1;have dk:=s.out.2.2 d (by omega);rw[Im _ _ _ _ ((Y.out _ (Nat.le_refl _)).trans B)] at J;rw[Im _ _ _ _ ((Y.out _ (by omega)).trans hu)] at K;obtain⟨T,D⟩:∃q,q=t+1:=⟨_,rfl⟩;obtain⟨jN,I⟩:∃q,q=t:=⟨_,rfl⟩;have ea:((t:Int)+1).toNat=T:=by omega
       have pa:(0:Int)<=(t:Int)+1:=by omega
       have ba:(t:Int)+1<(L2:Int):=by omega
       have ra:IntKind.i64.wrap ((t:Int)+1)=(t:Int)+1:=by rw[IntKind.wrap_i64];omega
       have ec:((t:Int)).toNat=jN:=by omega
       have pc:(0:Int)<=(t:Int):=by omega
       have bc:(t:Int)<(L2:Int):=by omega
       have rc:IntKind.i64.wrap ((t:Int))=(t:Int):=by rw[IntKind.wrap_i64];omega
       rw[show j+1+t+1=j+1+T from by omega] at K;rw[show j+1+t=j+1+jN from by omega] at J;have Z:=cell_grown A J;have Q:=cell_grown A K;have a5:Hid (T=t+1):=D;have HU:Hid (hs[j+1+t+1]?=some u):=hu;have o:Hid _:=V.out u U;have f:Hid (D6 E hs=_):=c;clear D I B hu c J K H;generalize hb:E u U=b at o f;clear hb;go_wp2_with fail
       go_quiet_grown (first|(go_at_call 194;refine Ae3 (o.out _ (N.out.trans (Fr.grew ⟨_,_,rfl⟩)))))
       have C:=Q nq osq;clear Z Q;have F1:Hid _:=N.out.trans (Fr.grew ⟨nq,osq,rfl⟩);have M:Hid (Gp _ g len _):=s.out.fr (P:=fun _=>True) (Fr.grew ⟨nq,osq,rfl⟩) trivial;clear dk s N A;generalize grow _ osq=W2 at F1 M C |-;clear nq osq;have dk:=M.out.2.2 d (by omega);obtain⟨a2,a3⟩:=dk;cases b with
       | true =>
        have L:Hid (D6 E hs=G.take d++goC E u (hs.drop (j+1+t+1+1))):=by have:=f.out;show _=_;simpa using this
        clear f o a2 a3 C;go_wp2_with fail
        go_roundw
        case rel =>
         refine⟨d,t+1,G,rfl,by go_num,by omega,by omega,S,M,fun q hq=>Y.out q (by omega),fun q hq=>?_,F1⟩;have C:=HU.out;rw[show j+1+(t+1)=j+1+t+1 from by omega] at hq |-;rw[C] at hq;simp only[Option.some.injEq] at hq;subst hq;exact L.out
        case measure=>simp[intOf];omega
       | false =>
        have L:Hid (D6 E hs=G.take d++u::goC E u (hs.drop (j+1+t+1+1))):=by have:=f.out;show _=_;simpa using this
        have su:=st u;clear f o;go_wp2_with fail
        go_roundw
        case rel =>
         refine⟨d+1,t+1,G.set d u,by go_num,by go_num,by omega,by omega,by simpa using S,?_,fun q hq=>?_,fun q hq=>?_,?_⟩
         ·show Gp _ _ _ _;have:=M.out.set d (by omega) u.v;rw[<- List.map_set] at this;exact this
         ·rw[List.getElem?_set_ne (by omega)];exact Y.out q (by omega)
         ·have C:=HU.out;rw[show j+1+(t+1)=j+1+t+1 from by omega] at hq |-;rw[C] at hq;simp only[Option.some.injEq] at hq;subst hq;rw[L.out,List.take_add_one,List.getElem?_set_self (by omega),List.take_set_of_le (Nat.le_refl _)];simp
         ·exact F1.out.set (by simp) _
        case measure=>simp[intOf];omega
      ·obtain⟨U,B⟩:∃p,hs[j+1+t]?=some p:=⟨_,List.getElem?_eq_getElem (by omega)⟩;have c:=H.out U B;rw[List.drop_of_length_le (by omega)] at c;have HR:Hid (D6 E hs=G.take d):=by show _=_;rw[c];simp[goC]
       have b0:(d:Int)<(len:Int):=by omega
       have a8:=fun ty=>cT wr ty g d (len-d) (cap-d) (by omega) (fun q hq=>by rw[(s.out.2.2 (d+q) (by omega)).1];rfl) (fun q hq=>(s.out.2.2 (d+q) (by omega)).2);clear c H B V X st;go_wp2_with fail
       go_ret
       refine⟨_,HR.out.symm,by rw[List.length_take,show min d G.length=d from by omega];rfl,fun i r hr=>?_,Fr.setCells (by simp) _ _ N.out⟩;have R:i<d:=by have:=(List.getElem?_eq_some_iff.1 hr).1;rw[List.length_take] at this;omega
       rw[Je _ _ _ _ R,(s.out.2.2 i (by omega)).1,Im _ _ _ _ (by rw[List.getElem?_take,if_pos R] at hr;exact hr)]
   ·obtain⟨p,hp⟩:∃p,hs[j]?=some p:=⟨_,List.getElem?_eq_getElem (by omega)⟩;have c:=H.out p hp;rw[List.drop_of_length_le (by omega),List.take_of_length_le (by omega)] at c;have HR:Hid (D6 E hs=hs):=by show _=_;rw[c];simp[goC]
    have s:=X.out.fr (P:=fun _=>True) (Fr.grew O.out) trivial;have s:Hid (Gp wr g len _):=s;clear c H hp V X st;go_wp2_with fail
    go_ret
    refine⟨hs,HR.out.symm,by rw[hlen];rfl,fun i r hr=>?_,Fr.grew O.out⟩;rw[(s.out.2.2 i (by have:=(List.getElem?_eq_some_iff.1 hr).1;omega)).1,Im _ _ _ _ hr]
def Ue {n:Nat}{W:World}(a:Fc n W):List Value:=[a.v]
theorem gT {α:Type}{c:α->α->Int}(h:Er c):SWO (ltOf c) where
 irrefl x:=by simp[ltOf,h.self x]
 trans x y z h1 h2:=by
  simp only[ltOf,decide_eq_true_eq] at *;have:=h.trans x y z (by omega) (by omega);rcases h.rng x z with q|q|q
  ·omega
  ·have:=h.sub q y;have:=h.anti y z;omega
  ·omega
 ntrans x y z h1 h2:=by
  simp only[ltOf,decide_eq_false_iff_not] at *;have a:=h.anti x y;have b:=h.anti y z;have:=h.trans z y x (by omega) (by omega);have:=h.anti x z;omega
theorem Js {n:Nat}{W0:World}[Inhabited (Fc n W0)](w:World)(g m:Nat)(dk:Array (Fc n W0))(os:Array Obj):Fr (·≠g) w (sortWorldK Ue 1 w g 0 m dk os):=by
 refine⟨rfl,rfl,rfl,?_,fun k hk hkg=>?_⟩
 ·show w.heap.size<=(grow (putRowK Ue 1 (Sort.ahead w m) g 0 dk) os).heap.size;simp[putRowK,putRow,mapBlock,Sort.ahead]
 ·show(grow (putRowK Ue 1 (Sort.ahead w m) g 0 dk) os).heap[k]?=_;rw[heap_grow_old _ _ (by simpa [putRowK,putRow,mapBlock,Sort.ahead] using hk)];simp only[putRowK,putRow,mapBlock,Sort.ahead,Array.getElem?_modify];rw[if_neg (fun e=>hkg e.symm)]
theorem qI (n:Nat)(W0 w:World)(g len cap:Nat)(hs:List (Fc n W0))(hW:Below W0.heap.size W0 w)(hg:W0.heap.size<=g)(hlen:hs.length=len)(h0:0<len)(hl:len<=4294967296)(hrow:Gp w g len (hs.map Fc.v)) :
  Calls prog 274 #[.slice (some ⟨g,0,none⟩) len cap,.func (.func 17) #[] #[]] w fun e w'=>e=.returned (.tuple #[])/\∃rs:List (Fc n W0),rs.Perm hs/\rs.Pairwise (fun a b=>Al n a.x b.x<=0)/\Gp w' g len (rs.map Fc.v)/\Fr (·≠g) w w':=by
 obtain⟨F,E⟩:∃x,hs[0]?=some x:=⟨_,List.getElem?_eq_getElem (by omega)⟩;let inst:Inhabited (Fc n W0):=⟨F⟩
 have D:∀args w,(callFunc 17 args).run _ w=_:=enters_of func17 (by kernel_rfl) rfl;have l:CmpLays prog 17 #[] Ue 1 (fun a b:Fc n W0=>Al n a.x b.x) g 0 hs.toArray.size w:=by
  intro m r C _ a b;have B:=Vm hW (Js w g m C r) hg;exact Ia n _ a.x b.x a.v b.v (a.h.below B n _ _) (b.h.below B n _ _)
 have A:HoldsK Ue 1 w g 0 hs.toArray:=by
  intro j k;rw[size_flatK] at k;rw[get_flatK _ _ _ _ k];have u:j<len:=by simpa [hlen] using k
  obtain⟨a,b⟩:=hrow.2.2 j u;have e:(Ue hs.toArray[j / 1]!)[j % 1]! = (hs.map Fc.v).getD j .nilIface:=by
   rw[Im Fc.v hs j hs[j] (List.getElem?_eq_getElem (by omega))];have y:j<hs.length:=by omega
   simp[Ue,Nat.mod_one,y]
  rw[e,Nat.zero_add];exact⟨a,b⟩
 have d:=AnyQ.slices_SortFunc Tryz.sortV 1 (fun w=>by kernel_rfl) (fun w=>by kernel_rfl) Ue (fun _=>rfl) (fun x v hv=>by simp[Ue] at hv;subst hv;exact x.h.one) _ (gT ((ord n).pull Fc.x)) 17 #[] g 0 cap _ w D l A hrow.1 (by simp;omega);change Calls prog 274 _ _ _ at d;rw[show hs.toArray.size=len from by simpa using hlen] at d;refine d.mono ?_;rintro e w' ⟨rfl,c,q,r,p,z,rfl⟩;refine⟨rfl,c.toList,?_,?_,?_,Js _ _ _ _ _⟩
 ·have:=p.2.2;have f:=p.1;simp only[List.size_toArray] at f;rw[Array.extract_eq_self_of_le (show c.size<=len by omega),Array.extract_eq_self_of_le (show hs.toArray.size<=len by simp;omega)] at this;simpa using this
 ·have f:=p.1;simp only[List.size_toArray] at f;rw[List.pairwise_iff_getElem];intro i j hi k t;simp only[Array.length_toList] at hi k;have:=z i j (Ae1 _) t (by omega);rw[getElem!_pos c i hi,getElem!_pos c j k] at this;simp only[ltOf,decide_eq_false_iff_not] at this;have a:=(ord n).anti c[i].x c[j].x;simp only[Array.getElem_toList];omega
 ·have f:=p.1;simp only[List.size_toArray] at f;have s:=holdsK_sortWorldK_c Ue 1 w g 0 _ c q r A hrow.1 p.1;refine⟨Ad8 hrow.1 (Js w g q c r).size,by simp;omega,fun i hi=>?_⟩;have:=s i (by rw[size_flatK];omega);rw[get_flatK _ _ _ _ (by omega),Nat.zero_add] at this;have o:i<c.size:=by omega
  have e:(Ue c[i / 1]!)[i % 1]! = (c.toList.map Fc.v).getD i .nilIface:=by
   rw[Im Fc.v c.toList i c[i] (by simp[o])];simp[Ue,Nat.mod_one,o]
  rw[e] at this;exact this
theorem Yu (w:World)(b off len cap:Nat)(vs:List Value)(hlen:vs.length=len)(hl:len<=4294967296)(hc:∀j u,vs[j]?=some u->w.cell? ⟨b,off+j,none⟩=some u)(h1:∀u∈vs,u.oneCell'=true) :
  Calls prog 237 #[.slice (some ⟨b,off,none⟩) len cap] w fun e w'=>∃g cap',e=.returned (.slice (some ⟨g,0,none⟩) len cap')/\w.heap.size<=g/\len<=cap'/\cap'<=9223372036854775807/\Gp w' g len vs/\Below w.heap.size w w':=by
 obtain⟨v,hi,k,l,m⟩:=info_parts Gn;have a:=AnyE.slices_Clone Tryz.cloneV v _ 1 16 hi k l m rfl (by decide) (fun w=>by kernel_rfl) b off len cap vs w (by omega) (by unfold maxLen;omega) (by omega) hc h1;change Calls prog 237 _ _ _ at a;refine a.mono ?_;rintro e w' ⟨x,rfl,h,f,p⟩;rcases h.2 with⟨o,_⟩|⟨g,cap',n,rfl,d,s,r,c,q,t⟩
 ·exact absurd o f
 ·refine⟨g,cap',rfl,d,r,by unfold maxLen at c;exact c,⟨Aa s,hlen,fun i hi=>?_⟩,p⟩;refine⟨?_,h.frozenAt i⟩;rw[h.cellAt i (by omega),List.getElem?_eq_getElem (by omega)];simp[List.getD,show i<vs.length by omega]
theorem aF {α:Type}{c:α->α->Int}(h:Er c):∀(l m:List α),Asc c l->Asc c m->(∀x,x∈l↔x∈m)->l=m
 | [],[],_,_,_=>rfl
 | [],y::m,_,_,e=>absurd ((e y).2 (by simp)) (by simp)
 | x::l,[],_,_,e=>absurd ((e x).1 (by simp)) (by simp)
 | x::l,y::m,hl,hm,e=>by
  obtain⟨l1,l2⟩:=List.pairwise_cons.1 hl;obtain⟨m1,m2⟩:=List.pairwise_cons.1 hm;have hxy:x=y:=by
   rcases List.mem_cons.1 ((e x).1 (by simp)) with q|q
   ·exact q
   ·rcases List.mem_cons.1 ((e y).2 (by simp)) with r|r
    ·exact r.symm
    ·have a:=m1 x q;have b:=l1 y r;have:=h.anti x y;omega
  subst hxy;have f:∀z,z∈l->z≠x:=fun z hz q=>by subst q;have:=l1 z hz;have:=h.self z;omega
  have d:∀z,z∈m->z≠x:=fun z hz q=>by subst q;have:=m1 z hz;have:=h.self z;omega
  rw[aF h l m l2 m2 fun z=>⟨fun hz=>by
   rcases List.mem_cons.1 ((e z).1 (by simp[hz])) with q|q
   ·exact absurd q (f z hz)
   ·exact q,fun hz=>by
   rcases List.mem_cons.1 ((e z).2 (by simp[hz])) with q|q
   ·exact absurd q (d z hz)
   ·exact q⟩]
def Xp {α:Type}(c:α->α->Int)(x:α):List α->List α
 | []=>[x]
 | y::l=>if c x y<0 then x::y::l else if c x y=0 then y::l else y::Xp c x l
def Eo {α:Type}(c:α->α->Int)(l:List α):List α:=l.foldr (Xp c) []
theorem Vn {α:Type}{c:α->α->Int}(he:∀a b,c a b=0->a=b)(x:α):∀(l:List α)(z:α),z∈Xp c x l↔z=x\/z∈l
 | [],z=>by simp[Xp]
 | y::l,z=>by
  simp only[Xp];split
  ·simp
  ·split
   ·rename_i _ h;have:=he x y h;subst this;simp
   ·simp only[List.mem_cons,Vn he x l z];constructor
    ·rintro(h|h|h)
     ·exact .inr (.inl h)
     ·exact .inl h
     ·exact .inr (.inr h)
    ·rintro(h|h|h)
     ·exact .inr (.inl h)
     ·exact .inl h
     ·exact .inr (.inr h)
theorem cV {α:Type}{c:α->α->Int}(h:Er c)(he:∀a b,c a b=0->a=b)(x:α):∀(l:List α),Asc c l->Asc c (Xp c x l)
 | [],_=>List.pairwise_cons.2 ⟨by simp,List.Pairwise.nil⟩
 | y::l,hl=>by
  obtain⟨l1,l2⟩:=List.pairwise_cons.1 hl;simp only[Xp];split
  ·rename_i hlt
   refine List.pairwise_cons.2 ⟨fun z hz=>?_,hl⟩;rcases List.mem_cons.1 hz with q|q
   ·subst q;exact hlt
   ·exact of_decide_eq_true ((gT h).trans x y z (decide_eq_true hlt) (decide_eq_true (l1 z q)))
  ·split
   ·exact hl
   ·rename_i h1 h2
    refine List.pairwise_cons.2 ⟨fun z hz=>?_,cV h he x l l2⟩;rcases(Vn he x l z).1 hz with q|q
    ·subst q;have:=h.anti z y;rcases h.rng z y with r|r|r<;>omega
    ·exact l1 z q
theorem J6 {α:Type}{c:α->α->Int}(he:∀a b,c a b=0->a=b)(l:List α)(z:α):z∈Eo c l↔z∈l:=by
 induction l with
 | nil=>simp[Eo]
 | cons x l ih =>
  show z∈Xp c x (Eo c l)↔_;rw[Vn he,ih];simp
theorem Lp {α:Type}{c:α->α->Int}(h:Er c)(he:∀a b,c a b=0->a=b)(l:List α):Asc c (Eo c l):=by
 induction l with
 | nil=>exact List.Pairwise.nil
 | cons x l ih=>exact cV h he x _ ih
theorem aG {n:Nat}{P:Nat->Prop}{w:World}{b:Nat}:∀(es:List (AV n))(off:Nat),(∀i x,es[i]?=some x->∃v,w.cell? ⟨b,off+i,none⟩=some v/\Aj P w n x v) ->
  ∃hs:List (Fc n w),hs.map Fc.x=es/\(∀i r,hs[i]?=some r->w.cell? ⟨b,off+i,none⟩=some r.v)/\∀r∈hs,Aj P w n r.x r.v
 | [],_,_=>⟨[],rfl,by simp,by simp⟩
 | x::es,off,h=>by
  obtain⟨v,hv,hr⟩:=h 0 x rfl;obtain⟨hs,h1,h2,h3⟩:=aG es _ fun i y hy=>by
   obtain⟨u,hu,hr⟩:=h (i+1) y (by simpa using hy);exact⟨u,by rw[show off+1+i=off+(i+1) from by omega];exact hu,hr⟩
  refine⟨⟨x,v,hr.rep n x v⟩::hs,by simp[h1],fun i r hir=>?_,fun r hm=>?_⟩
  ·cases i with
   | zero=>simp at hir;subst hir;simpa using hv
   | succ i=>rw[show off+(i+1)=off+1+i from by omega];exact h2 i r (by simpa using hir)
  ·rcases List.mem_cons.1 hm with q|q
   ·subst q;exact hr
   ·exact h3 r q
theorem mT {n:Nat}{W:World}(hs rs:List (Fc n W))(hp:rs.Perm hs)(hsrt:rs.Pairwise fun a b=>Al n a.x b.x<=0):(D6 (fun a b:Fc n W=>Al n a.x b.x==0) rs).map Fc.x=Eo (Al n) (hs.map Fc.x):=by
 have O:=(ord n).pull (Fc.x (n:=n) (W:=W));have h:=fun a b=>(Em n a b).1;refine aF (ord n) _ _ ?_ (Lp (ord n) h _) fun z=>?_
 ·cases rs with
  | nil=>exact List.Pairwise.nil
  | cons p l =>
   have:=(P8 (fun a b:Fc n W=>Al n a.x b.x) O.rng O.anti O.trans p l hsrt).1;exact List.pairwise_map.2 this
 ·rw[J6 h];constructor
  ·intro d;obtain⟨r,g,rfl⟩:=List.mem_map.1 d;exact List.mem_map.2 ⟨r,hp.mem_iff.1 (Yn _ _ r g),rfl⟩
  ·intro d;obtain⟨r,g,rfl⟩:=List.mem_map.1 d;have c:=hp.mem_iff.2 g;cases rs with
   | nil=>simp at c
   | cons p l =>
    have f:=(P8 (fun a b:Fc n W=>Al n a.x b.x) O.rng O.anti O.trans p l hsrt).2;rcases List.mem_cons.1 c with q|q
    ·exact List.mem_map.2 ⟨r,by rw[q];simp[D6],rfl⟩
    ·obtain⟨z,d,e⟩:=f r q;exact List.mem_map.2 ⟨z,d,((Em n _ _).1 e).symm⟩
theorem cW (fv:Value)(w:World):Calls prog 275 #[.slice none 0 0,fv] w fun e w'=>e=.returned (.slice none 0 0)/\w'=w:=by
 go_enter func275,ntmps275
 go_wp2_with fail
 go_ret
 exact⟨rfl,rfl⟩
theorem Yv (n c:Nat)(w:World):Calls prog 237 #[.slice none n c] w fun e w'=>e=.returned (.slice none 0 0)/\w'=w :=
 AnyE.slices_Clone_nil Tryz.cloneV n c w
theorem mU (n:Nat)(W0 w:World)(g len cap:Nat)(hs:List (Fc n W0))(hW:Below W0.heap.size W0 w)(hg:W0.heap.size<=g)(hlen:hs.length=len)(hl:len<=4294967296)(hrow:Gp w g len (hs.map Fc.v)) :
  Calls prog 274 #[.slice (some ⟨g,0,none⟩) len cap,.func (.func 17) #[] #[]] w fun e w'=>e=.returned (.tuple #[])/\∃rs:List (Fc n W0),rs.Perm hs/\rs.Pairwise (fun a b=>Al n a.x b.x<=0)/\Gp w' g len (rs.map Fc.v)/\Fr (·≠g) w w':=by
 by_cases c:0<len
 ·exact qI n W0 w g len cap hs hW hg hlen c hl hrow
 ·obtain rfl:len=0:=by omega
  obtain rfl:hs=[]:=List.length_eq_zero_iff.1 hlen;refine(Yt _ _ _ w).mono ?_;rintro e w' ⟨rfl,rfl⟩;exact⟨rfl,[],List.Perm.refl _,List.Pairwise.nil,hrow,Fr.refl _ _⟩
theorem J7 (n:Nat)(P:Nat->Prop)(w:World)(a:Option Addr)(len cap:Nat)(es:List (AV n))(hl:len<=4294967296)(ha:a=none\/∃b off,a=some ⟨b,off,none⟩){Q0:Nat->Prop}(h:Bv Q0 w (Aj P w n) a len es)(hP:∀k,w.heap.size<=k->P k)(hw:∀x∈es,wt n x<=1024)(hnil:a=none->len=0) :
  Calls prog 211 #[.slice a len cap] w fun e w'=>∃v,e=.returned (.agg #[v])/\Aj P w' (n+1) (mkS (wt n) (Eo (Al n) es)) v/\Below w.heap.size w w':=by
 have T:Hid _:=hP;clear hP;rcases ha with rfl|⟨b,off,rfl⟩
 ·obtain rfl:=hnil rfl;obtain rfl:es=[]:=List.length_eq_zero_iff.1 h.1.symm;have S:Hid _:=fun(W:World) (hW:w.heap.size<W.heap.size)=>Dh n (fun k=>P k/\k≠w.heap.size) W none 0 0 [] ⟨rfl,by decide,.inl rfl⟩ (fun k hk=>⟨T.out k (by omega),by omega⟩) (by simp) (by simp);have z:Hid _:=Yv;have O:Hid _:=Yt;have Q:Hid _:=cW;clear h hw hnil;go_enter func211,ntmps211
  go_wp2_with (first
   | (go_at_call 237;refine(z.out _ _ _).mono ?_;rintro e w' ⟨rfl,hw⟩;cases hw)
   | (go_at_call 274;refine(O.out _ _ _ _).mono ?_;rintro e w' ⟨rfl,hw⟩;cases hw)
   | (go_at_call 275;refine(Q.out _ _).mono ?_;rintro e w' ⟨rfl,hw⟩;cases hw)
   | (go_at_call 220;refine(S.out _ (by simp)).mono ?_;rintro e w' ⟨v,rfl,c,hg⟩;obtain⟨x0,x1,x2⟩:=Kf hg;have HG:Hid (Ac w w'):=hg.of_alloc;have st:=Ae (c.rep _ _ _).one;have HR:Hid (Aj _ w' (n+1) _ v):=c;clear hg c))
  have r0:=World.cell?_setCell_same _ _ v x0;exact Ae2 (by simp[results,results211,go_sem,r0]) rfl ⟨_,rfl,HR.out.boxed (w:=w) v rfl,(HG.out.setNew (Ad9 _) _).below⟩
 ·have G:len=es.length:=h.1;obtain⟨l,L,K,I⟩:∃l:List (Fc n w),l.map Fc.x=es/\(∀i r,l[i]?=some r->w.cell? ⟨b,off+i,none⟩=some r.v)/\∀r∈l,Aj P w n r.x r.v:=by
   rcases h.2.2 with h0|⟨b',J,e,_,_,K⟩
   ·obtain rfl:es=[]:=List.length_eq_zero_iff.1 (by omega);exact⟨[],rfl,by simp,by simp⟩
   ·simp only[Option.some.injEq,Addr.mk.injEq,and_true] at e;obtain⟨rfl,rfl⟩:=e;exact aG es off K
  have s:l.length=len:=by rw[G,<- L];simp
  have F:0<len->b<w.heap.size:=by
   intro q;rcases h.2.2 with h0|⟨b',J,e,hb,_⟩
   ·omega
   ·simp only[Option.some.injEq,Addr.mk.injEq,and_true] at e;rw[e.1];exact hb
  clear h;have z:Hid (Calls _ 237 #[_] _ _):=Yu (w.alloc (.cells #[.nilIface] 23)) b off len cap (l.map Fc.v) (by simpa using s) hl (fun j u hu=>by
    rw[List.getElem?_map] at hu;obtain⟨r,hr,rfl⟩:=Option.map_eq_some_iff.1 hu;have hj:=(List.getElem?_eq_some_iff.1 hr).1;exact(((Below.refl _ w).alloc (Ad9 _) _).cell (p:=⟨b,off+j,none⟩) (F (by omega))).trans (K j r hr)) (fun u hu=>by
    obtain⟨r,_,rfl⟩:=List.mem_map.1 hu;exact r.h.one)
  have HS:Hid _:=fun(W:World) (g cap':Nat) hW hg hr=>mU n w W g len cap' l hW hg s hl hr;have HK:Hid (∀(W:World)(g cap':Nat)(rs:List _),_->_<=g->rs.Perm l->len<=cap'->cap'<=9223372036854775807->_->_):=fun(W:World) (g cap':Nat) rs hW hg hp h1 h2 hr=>cU n w W g len cap' rs hW hg (by rw[hp.length_eq];exact s) hl h1 h2 hr;have S:Hid (∀(W:World)(g cap':Nat)(rs:_),rs.Perm l->rs.Pairwise (fun a b=>Al n a.x b.x<=0)->Below w.heap.size w W->w.heap.size+1<=g->g<W.heap.size->(∀i r,(D6 (fun a b:_=>Al n a.x b.x==0) rs)[i]?=some r->W.cell? ⟨g,i,none⟩=some r.v) ->
    Calls prog 220 #[.slice (some ⟨g,0,none⟩) (D6 (fun a b:Fc n w=>Al n a.x b.x==0) rs).length cap'] W fun e w'=>∃v,e=.returned (.agg #[v])/\Aj (fun k=>P k/\k≠w.heap.size) w' (n+1) (mkS (wt n) (Eo (Al n) es)) v/\Ac W w'):=by
   intro W g cap' rs hp f hW hg a2 d;rw[<- L,<- mT l rs hp f];have t:∀r∈D6 (fun a b:_=>Al n a.x b.x==0) rs,r∈l:=fun r hr=>hp.mem_iff.1 (Yn _ _ r hr);have H:=Ym (fun a b:_=>Al n a.x b.x==0) rs;rw[hp.length_eq,s] at H;refine Dh n _ W _ _ cap' _ ⟨by simp,by omega,.inr ⟨g,0,rfl,a2,⟨T.out g (by omega),by omega⟩,fun i x hix=>?_⟩⟩ (fun k hk=>⟨T.out k (by omega),by omega⟩) (fun x hxm=>?_) (by simp;omega)
   ·rw[List.getElem?_map] at hix;obtain⟨r,hr,rfl⟩:=Option.map_eq_some_iff.1 hix;refine⟨r.v,by rw[Nat.zero_add];exact d i r hr,?_⟩;exact(I r (t r (Ae4 hr))).fr (Fr.below hW) (fun k hk hpk=>⟨hpk,by omega⟩) n _ _
   ·obtain⟨r,hr,rfl⟩:=List.mem_map.1 hxm;exact hw r.x (by rw[<- L];exact List.mem_map.2 ⟨r,t r hr,rfl⟩)
  clear hw hnil K I F L G;go_enter func211,ntmps211
  go_wp2_with fail
  refine z.out.mono ?_;rintro e w2 ⟨g,cap',rfl,hg,Z,a0,y,A⟩;have a1:=by simpa using hg
  have M:Hid _:=((Below.refl _ w).alloc (Ad9 _) _).trans (A.mono (by simp));have X:Hid _:=(A.block _ (by simp)).trans (Af rfl);have R2:Hid (Gp w2 g len _):=y;clear y A hg;go_wp2_with fail
  refine(HS.out w2 g cap' M.out (by omega) R2.out).mono ?_;rintro e w3 ⟨rfl,rs,hp,f,m,C⟩;have N:Hid _:=Vm M.out C (by omega);have Y:Hid _:=(C.block _ (Aa X.out) (by omega)).trans X.out;have V:Hid (Gp w3 g len _):=m;have E:Hid (rs.Perm l):=hp;have U:Hid _:=f;clear m C R2 X M hp f;go_wp2_with fail
  refine(HK.out w3 g cap' rs N.out (by omega) E.out Z a0 V.out).mono ?_;rintro e w4 ⟨ts,a3,rfl,d,o⟩;subst a3;have B4:Hid _:=Vm N.out o (by omega);have X4:Hid _:=(o.block _ (Aa Y.out) (by omega)).trans Y.out;have S4:=Ad8 V.out.1 o.size;have R:Hid (∀i r,_->_):=d;clear d o V Y N;go_wp2_with fail
  refine(S.out w4 g cap' rs E.out U.out B4.out a1 S4 R.out).mono ?_;rintro e w5 ⟨v,rfl,c,D⟩;have B:=Ac1 D.below X4.out;have x0:=Ab B 0;have x1:=Ad B 0;have st:=Ae (c.rep _ _ _).one;have HV:Hid (Aj _ w5 (n+1) _ v):=c;have B5:Hid _:=B4.out.trans (D.below.mono (by omega));clear D c B;go_wp2_with fail
  have r0:=World.cell?_setCell_same _ _ v x0;exact Ae2 (by simp[results,results211,go_sem,r0]) rfl ⟨_,rfl,HV.out.boxed (w:=w) v rfl,B5.out.setCell (Ad9 _) _⟩
structure St where
 at':Nat
 en:Nat
 cl:Nat
 hv:Bool
def Cb (T:List UInt8)(s:St):St :=
 ⟨s.en+Dg (T.drop s.en),s.en+Dg (T.drop s.en)+(Fa (T.drop (s.en+Dg (T.drop s.en)))).2,(Fa (T.drop (s.en+Dg (T.drop s.en)))).1,s.hv⟩
theorem Qr:∀(l:List UInt8)(i:Nat),(Ci l i).2<=i+l.length
 | [],i=>by simp[Ci]
 | c::r,i=>by
  have:=Qr r (i+1);simp only[Ci,List.length_cons]
  repeat' split
  all_goals simp
  all_goals omega
theorem qJ (l:List UInt8)(h:0<l.length):(Kz l).2<=l.length:=by
 unfold Kz Lib.hasPrefix;split
 ·rename_i q;have:=List.IsPrefix.length_le (List.isPrefixOf_iff_prefix.1 q);simpa using this
 ·split
  ·rename_i q;have:=List.IsPrefix.length_le (List.isPrefixOf_iff_prefix.1 q);simpa using this
  ·split<;>(simp;omega)
theorem vC (l:List UInt8)(h:0<l.length):(Po l).2<=l.length:=by
 unfold Po;split
 ·simp;omega
 ·have:=Vc (l.drop 1);simp at this |-;omega
theorem lB (l:List UInt8):(Fa l).2<=l.length:=by
 unfold Fa;split
 ·simp
 ·rename_i h0
  repeat' split
  ·exact Gz l
  ·exact Vc l
  ·exact vC l (by omega)
  ·have:=Qr (l.drop 1) 1;simp at this |-;omega
  ·exact qJ l (by omega)
theorem lC (T:List UInt8)(s:St)(h:s.en<=T.length):(Cb T s).at'<=(Cb T s).en/\(Cb T s).en<=T.length/\s.en<=(Cb T s).at':=by
 have a:=Nv (T.drop s.en);have b:=lB (T.drop (s.en+Dg (T.drop s.en)));simp at a b;simp only[Cb];omega
def Bh (T:List UInt8)(s:St):List UInt8:=(T.take s.en).drop s.at'
def isP (T:List UInt8)(s:St)(m:List UInt8):Bool:=decide (s.cl=4)&&(Bh T s==m)
def Cl {β:Type}(T:List UInt8)(closing:List UInt8)(item:St->Except (Nat×Nat) (β×St)):Nat->St->Except (Nat×Nat) (List β×St)
 | 0,s=>.error (0,s.at')
 | f+1,s =>
  match item s with
  | .error e=>.error e
  | .ok (x,s1) =>
   if isP T s1 closing then .ok ([x],Cb T s1)
   else if isP T s1 [44] then
    match Cl T closing item f (Cb T s1) with
    | .error e=>.error e
    | .ok (l,s2)=>.ok (x::l,s2)
   else .error (1,s1.at')
def Cy {β:Type}(T:List UInt8)(closing:List UInt8)(item:St->Except (Nat×Nat) (β×St))(s:St):Except (Nat×Nat) (List β×St) :=
 if isP T s closing then .ok ([],Cb T s) else Cl T closing item (T.length+1) s
def Gg {β:Type}(T:List UInt8)(item:St->Except (Nat×Nat) (β×St))(s:St):Except (Nat×Nat) ((β×β)×St) :=
 match item s with
 | .error e=>.error e
 | .ok (x,s1) =>
  if isP T s1 [58] then
   match item (Cb T s1) with
   | .error e=>.error e
   | .ok (y,s2)=>.ok ((x,y),s2)
  else .error (1,s1.at')
def insP {α:Type}(c:α->α->Int)(x:α×α):List (α×α)->List (α×α)
 | []=>[x]
 | y::l=>if c x.1 y.1<0 then x::y::l else if c x.1 y.1=0 then x::l else y::insP c x l
def Dp {α:Type}(c:α->α->Int)(l:List (α×α)):List (α×α):=l.foldr (insP c) []
def mkP {α:Type}(wta:α->Nat)(l:List (α×α)):Ag α :=
 if 1+wtL wta (l.map Prod.fst)<=1024 then mkF wta (l.map Prod.fst) (l.map Prod.snd) else Ar
def Gj {α:Type}(v:Ag α):Bool:=v.kind==0
def Di {m:Nat}(T:List UInt8)(item:St->Except (Nat×Nat) (AV (m+1)×St))(s:St):Except (Nat×Nat) (AV (m+2)×St) :=
 if Bh T s=[123] then
  match Cy T [125] item (Cb T s) with
  | .error e=>.error e
  | .ok (l,s1)=>.ok ((mkS (wt (m+1)) (Eo (Al (m+1)) l):Ag (AV (m+1))),{ s1 with hv:=s1.hv||Gj (mkS (wt (m+1)) (Eo (Al (m+1)) l)) })
 else if Bh T s=[60,60] then
  match Cy T [62,62] item (Cb T s) with
  | .error e=>.error e
  | .ok (l,s1)=>.ok ((mkF (wt (m+1)) (Aq m l.length) l:Ag (AV (m+1))),{ s1 with hv:=s1.hv||Gj (mkF (wt (m+1)) (Aq m l.length) l) })
 else if Bh T s=[91] then
  match Cl T [93] (Gg T item) (T.length+1) (Cb T s) with
  | .error e=>.error e
  | .ok (l,s1)=>.ok ((mkP (wt (m+1)) (Dp (Al (m+1)) l):Ag (AV (m+1))),{ s1 with hv:=s1.hv||Gj (mkP (wt (m+1)) (Dp (Al (m+1)) l)) })
 else .error (1,s.at')
def Dl {m:Nat}(T:List UInt8)(br:St->Except (Nat×Nat) (AV (m+1)×St))(s:St):Except (Nat×Nat) (AV (m+1)×St) :=
 if s.cl=1 then
  (if Bh T s=Z6 then .ok ((Ar:Ag (AV m)),Cb T s)
  else if Bh T s=Ta then .ok ((Bj true:Ag (AV m)),Cb T s)
  else if Bh T s=Nr then .ok ((Bj false:Ag (AV m)),Cb T s)
  else if Bw (Bh T s) then .error (1,s.at')
  else if 16<(Bh T s).length then .error (5,s.at')
  else .ok ((D9 (Bh T s):Ag (AV m)),Cb T s))
 else if s.cl=2 then
  match Lib.parseIntB 64 (Bh T s) with
  | .ok v=>.ok ((Cu v:Ag (AV m)),Cb T s)
  | _=>.error (5,s.at')
 else if s.cl=3 then .ok ((Dm (((Bh T s).take ((Bh T s).length-1)).drop 1):Ag (AV m)),Cb T s)
 else if s.cl=4 then br s
 else .error (1,s.at')
def A8 (T:List UInt8):(d:Nat)->St->Except (Nat×Nat) (AV (d+1)×St)
 | 0,s=>Dl T (fun s=>if Bh T s=[123]\/Bh T s=[60,60]\/Bh T s=[91] then .error (6,s.at') else .error (1,s.at')) s
 | d+1,s=>Dl T (Di T (A8 T d)) s
def Fq (T:List UInt8):Except (Nat×Nat) (AV 25) :=
 if 4000<T.length then .error (6,0)
 else match A8 T 24 (Cb T ⟨0,0,0,false⟩) with
  | .error e=>.error e
  | .ok (v,s)=>if s.cl≠0 then .error (1,s.at') else if s.hv then .error (6,0) else .ok v
/-- the reader stands at a state -/
def RdS (w:World)(br:Nat)(t:ByteArray)(s:St)(op:Nat):Prop:=Ik w br t s.at' s.en s.cl op s.hv
theorem Kj (w:World)(br:Nat)(t:ByteArray)(s:St)(op:Nat)(hr:RdS w br t s op)(hen:s.en<=t.size)(ht:t.size<=4000) :
  Calls prog 62 #[.pointer (some ⟨br,0,none⟩)] w fun e w'=>e=.returned (.tuple #[])/\RdS w' br t (Cb t.data.toList s) op/\Fr (·≠br) w w':=by
 have a:t.data.toList.length=t.size:=by simp
 have h:=lC t.data.toList s (by omega);exact cL w br t s.at' s.en s.cl op s.hv hr hen ht _ _ _ _ rfl rfl rfl (by have:=h.2.1;simp only[Cb] at this;omega)
theorem Vo (w:World)(br:Nat)(t:ByteArray)(s:St)(op:Nat)(m:ByteArray)(hr:RdS w br t s op)(ha:s.at'<=s.en)(hen:s.en<=t.size)(ht:t.size<=4000) :
  Calls prog 266 #[.pointer (some ⟨br,0,none⟩),.string m] w fun e w'=>e=.returned (.bool (isP t.data.toList s m.data.toList))/\RdS w' br t (if isP t.data.toList s m.data.toList then Cb t.data.toList s else s) op/\Fr (·≠br) w w':=by
 have D:t.data.toList.length=t.size:=by simp
 obtain⟨B,c⟩:∃B,isP t.data.toList s m.data.toList=B:=⟨_,rfl⟩;rw[c];unfold isP at c;have x:Hid _:=fun(W:World) (h:_)=>Kj W br t s op h hen ht;obtain⟨a,en,l,E⟩:=s;simp only at ha hen c;have b:=Aa hr;have n:=cell_grown b (Ab hr 0);have o:=cell_grown b (Ab hr 1);have p:=cell_grown b (Ab hr 2);have q:=cell_grown b (Ab hr 3);have v:=Ab hr 3;have k:Hid (RdS w br t _ op):=hr;clear hr;have F:=follows;by_cases i:l=4
 ·subst i;have u:((t.extract a en).toList==m.toList)=B:=by
   rw[ByteArray.toList_eq,ByteArray.toList_eq,Df,<- c];simp[Bh]
  have j:Hid (_=B):=u;clear c u v;have z:(a:Int)<=(en:Int):=by omega
  have A:(en:Int)<=(t.size:Int):=by omega
  go_enter func266,ntmps266
  go_wp2_with fail
  go_quiet_grown (fail)
  rw[j.out];have G:Hid (Ac w _):=⟨nq,osq,rfl⟩;clear n o p q;show Exit.then _ _ _ _ (grow (w.drewN nq) osq);generalize grow (w.drewN nq) osq=W1 at G |-;clear nq osq;have d:Hid (RdS W1 br t _ op):=k.out.of (P:=fun _=>True) (Fr.grew G.out) trivial;clear j;cases B with
  | true =>
   go_wp2_with (go_at_call 62;refine(x.out _ d.out).mono ?_;rintro e w' ⟨rfl,f,r⟩;have g:Hid (RdS w' br t _ op):=f;have y:Hid (Fr (·≠br) W1 w'):=r;clear f r)
   go_ret
   exact⟨rfl,g.out,(Fr.grew G.out).trans y.out⟩
  | false =>
   go_wp2_with fail
   go_ret
   exact⟨rfl,d.out,Fr.grew G.out⟩
 ·obtain rfl:B=false:=by rw[<- c];simp[i]
  have C:((l:Int) != 4)=true:=by rw[bne_iff_ne];omega
  clear c n o p q i;go_enter func266,ntmps266
  go_wp2_with fail
  go_quiet (fail)
  have G:Hid (Ac w _):=(Ac.refl w).drewN nq;generalize w.drewN nq=W1 at G |-;clear nq v;go_wp2_with fail
  go_ret
  exact⟨rfl,k.out.of (P:=fun _=>True) (Fr.grew G.out) trivial,Fr.grew G.out⟩
def Hj (w:World)(br:Nat)(t:ByteArray)(op d:Nat)(R:Except (Nat×Nat) (AV (d+1)×St))(e:Ending)(w':World):Prop :=
 ∃v er,e=.returned (.tuple #[.agg #[v],er])/\Fr (·≠br) w w' /\
  match R with
  | .ok (x,s')=>er=.nilIface/\Aj (fun k=>w.heap.size<=k) w' (d+1) x v/\wt (d+1) x<=1024/\RdS w' br t s' op
  | .error (c,p)=>er=.iface 61 (.int .i64 (c:Int))/\(∃x,Aj (fun k=>w.heap.size<=k) w' (d+1) x v/\wt (d+1) x<=1024)/\∃s':St,s'.at'=p/\RdS w' br t s' op
theorem Qs (s:ByteArray)(w:World)(hs:s.size<=4294967296):Calls prog 121 #[.string s] w fun e w'=>e=.returned (.string s)/\Below w.heap.size w w':=by
 have b:Hid (Calls _ _ _ _ _):=Tryz.stringslite_Clone s w (by omega);go_enter func121,ntmps121
 go_wp2_with (go_at_call 172;refine b.out.mono ?_;rintro e w' ⟨rfl,a⟩;have c:Hid (Below w.heap.size w w'):=a;clear a)
 go_ret
 exact⟨rfl,by assumption⟩
theorem Vp {w w':World}{br:Nat}{u v:Value}(hbr:br<w.heap.size)(f:Fr (·≠br) ((w.alloc (.cells #[u] 23)).alloc (.cells #[v] 23)) w') :
  w'.cell? ⟨w.heap.size,0,none⟩=some u/\w'.frozen? ⟨w.heap.size,0,none⟩=false/\w'.cell? ⟨w.heap.size+1,0,none⟩=some v/\w'.frozen? ⟨w.heap.size+1,0,none⟩=false/\Fr (·≠br) w w':=by
 have a:((w.alloc (.cells #[u] 23)).alloc (.cells #[v] 23)).heap[w.heap.size]?=_:=(Below.heap_alloc _ _ _ (by simp)).trans (Af rfl);have b:((w.alloc (.cells #[u] 23)).alloc (.cells #[v] 23)).heap[w.heap.size+1]?=_:=Af (by simp);have c:=(f.block _ (Aa a) (by omega)).trans a;have d:=(f.block _ (Aa b) (by omega)).trans b;exact⟨Ab c 0,Ad c 0,Ab d 0,Ad d 0,(((Fr.refl _ w).alloc _).alloc _).trans f⟩
theorem O1 {p q:List UInt8}(h:p≠q):(p==q)=false:=by
 cases e:p==q with
 | false=>rfl
 | true=>exact absurd (eq_of_beq e) h
theorem Fr.setNew {P:Nat->Prop}{a b:World}(h:Fr P a b){p:Addr}(hp:a.heap.size<=p.block)(u:Value):Fr P a (b.setCell p u) :=
 ⟨h.os,h.tape,h.output,by simpa using h.size,fun i hi hq=>by rw[Below.heap_setCell b p u i (by omega)];exact h.block i hi hq⟩
theorem RdS.setOther {w:World}{br:Nat}{t:ByteArray}{s:St}{op:Nat}(h:RdS w br t s op){p:Addr}(hp:br≠p.block)(u:Value):RdS (w.setCell p u) br t s op :=
 (Below.heap_setCell w p u br hp).trans h
theorem Un {d:Nat}{w w':World}{br:Nat}{t:ByteArray}{op:Nat}{x:AV (d+1)}{s':St}{v:Value}(hbr:br<w.heap.size)(hf:Fr (·≠br) w w')(hx:∀W:World,Aj (fun k=>w.heap.size<=k) W (d+1) x v)(hw:wt (d+1) x<=1024)(hr:RdS w' br t s' op)(b:Nat)(hb:w.heap.size<=b)(u:Value) :
  Hj w br t op d (.ok (x,s')) (.returned (.tuple #[.agg #[v],.nilIface])) (w'.setCell ⟨b,0,none⟩ u) :=
 ⟨v,.nilIface,rfl,hf.setNew hb u,rfl,hx _,hw,hr.setOther (by simp;omega) u⟩
theorem Lq {d:Nat}{w w':World}{br:Nat}{t:ByteArray}{op c:Nat}{s':St}(hf:Fr (·≠br) w w')(hr:RdS w' br t s' op) :
  Hj w br t op d (.error (c,s'.at')) (.returned (.tuple #[.agg #[.nilIface],.iface 61 (.int .i64 (c:Int))])) w' :=
 ⟨.nilIface,_,rfl,hf,rfl,⟨(Ar:Ag (AV d)),.inl ⟨rfl,rfl⟩,(by show 1<=1024;omega)⟩,s',rfl,hr⟩
theorem qK (d:Nat)(w:World)(br:Nat)(t m:ByteArray)(s:St)(op:Nat)(hr:RdS w br t s op)(hen:s.en<=t.size)(ht:t.size<=4000)(hm:m.data.toList=Bh t.data.toList s) :
  Calls prog 119 #[.pointer (some ⟨br,0,none⟩),.string m] w (Hj w br t op d
   (if Bh t.data.toList s=Z6 then .ok ((Ar:Ag (AV d)),Cb t.data.toList s)
   else if Bh t.data.toList s=Ta then .ok ((Bj true:Ag (AV d)),Cb t.data.toList s)
   else if Bh t.data.toList s=Nr then .ok ((Bj false:Ag (AV d)),Cb t.data.toList s)
   else if Bw (Bh t.data.toList s) then .error (1,s.at')
   else if 16<(Bh t.data.toList s).length then .error (5,s.at')
   else .ok ((D9 (Bh t.data.toList s):Ag (AV d)),Cb t.data.toList s))):=by
 have i:=Aa hr;have E:Hid _:=fun(W:World) (h:_)=>Kj W br t s op h hen ht;have F:Hid (RdS ((w.alloc (.cells #[.nilIface] 23)).alloc (.cells #[.nilIface] 23)) br t s op):=hr.of (P:=fun _=>True) (Fr.grew (((Ac.refl w).alloc _).alloc _)) trivial;have B:Hid (RdS w br t s op):=hr;have a:=fun W=>aC m W;rw[<- hm];have l:m.data.toList.length=m.size:=by simp
 have b:=ByteArray.toList_eq m;clear hr hm;by_cases o:m.data.toList=Z6
 ·rw[if_pos o];have z:(m.toList==[110,105,108])=true:=by rw[b,o];rfl
  clear b o l a;go_enter func119,ntmps119
  go_wp2_with (go_at_call 62;refine(E.out _ F.out).mono ?_;rintro e n ⟨rfl,c,k⟩;obtain⟨y,K,L,M,f⟩:=Vp i k;have g:Hid (RdS n br t _ op):=c;have r:Hid (Fr (·≠br) w n):=f;clear c k f)
  have x:=World.cell?_setCell_same _ _ .nilIface y;exact Ae2 (by simp[results,results119,go_sem,x]) rfl (Un i r.out (fun _=>.inl ⟨rfl,rfl⟩) (by show 1<=1024;omega) g.out _ (Ad9 _) _)
 ·rw[if_neg o];have z:(m.toList==[110,105,108])=false:=by rw[b];exact O1 o
  by_cases p:m.data.toList=Ta
  ·rw[if_pos p];have T:(m.toList==[116,114,117,101])=true:=by rw[b,p];rfl
   clear b o p l a;have u:Hid (RdS ((w.alloc (.cells #[.nilIface] 23)).alloc (.cells #[.iface 4 (.bool true)] 23)) br t s op):=B.out.of (P:=fun _=>True) (Fr.grew (((Ac.refl w).alloc _).alloc _)) trivial;go_enter func119,ntmps119
   go_wp2_with (go_at_call 62;refine(E.out _ u.out).mono ?_;rintro e n ⟨rfl,c,k⟩;obtain⟨y,K,L,M,f⟩:=Vp i k;have g:Hid (RdS n br t _ op):=c;have r:Hid (Fr (·≠br) w n):=f;clear c k f)
   have x:=World.cell?_setCell_same _ _ (.iface 4 (.bool true)) y;exact Ae2 (by simp[results,results119,go_sem,x]) rfl (Un i r.out (fun _=>.inr (.inl ⟨true,rfl,rfl⟩)) (by show 1<=1024;omega) g.out _ (Ad9 _) _)
  ·rw[if_neg p];have T:(m.toList==[116,114,117,101])=false:=by rw[b];exact O1 p
   by_cases q:m.data.toList=Nr
   ·rw[if_pos q];have U:(m.toList==[102,97,108,115,101])=true:=by rw[b,q];rfl
    clear b o p q l a;have u:Hid (RdS ((w.alloc (.cells #[.nilIface] 23)).alloc (.cells #[.iface 4 (.bool false)] 23)) br t s op):=B.out.of (P:=fun _=>True) (Fr.grew (((Ac.refl w).alloc _).alloc _)) trivial;go_enter func119,ntmps119
    go_wp2_with (go_at_call 62;refine(E.out _ u.out).mono ?_;rintro e n ⟨rfl,c,k⟩;obtain⟨y,K,L,M,f⟩:=Vp i k;have g:Hid (RdS n br t _ op):=c;have r:Hid (Fr (·≠br) w n):=f;clear c k f)
    have x:=World.cell?_setCell_same _ _ (.iface 4 (.bool false)) y;exact Ae2 (by simp[results,results119,go_sem,x]) rfl (Un i r.out (fun _=>.inr (.inl ⟨false,rfl,rfl⟩)) (by show 1<=1024;omega) g.out _ (Ad9 _) _)
   ·rw[if_neg q];have U:(m.toList==[102,97,108,115,101])=false:=by rw[b];exact O1 q
    by_cases v:Bw m.data.toList=true
    ·rw[if_pos v];rw[v] at a;have j:Hid (∀W:World,_):=a;clear b o p q v l a;go_enter func119,ntmps119
     go_wp2_with (go_at_call 169;refine(j.out _).mono ?_;rintro e n ⟨rfl,D⟩;cases D)
     exact Ae2 (by simp[results,results119,go_sem]) rfl (Lq (Fr.grew (((Ac.refl w).alloc _).alloc _)) F.out)
    ·rw[if_neg v];rw[show Bw m.data.toList=false from by simpa using v] at a;have j:Hid (∀W:World,_):=a;by_cases G:16<m.data.toList.length
     ·rw[if_pos G];have V:(16:Int)<(m.size:Int):=by omega
      clear b o p q v l a G;go_enter func119,ntmps119
      go_wp2_with (go_at_call 169;refine(j.out _).mono ?_;rintro e n ⟨rfl,D⟩;cases D)
      exact Ae2 (by simp[results,results119,go_sem]) rfl (Lq (Fr.grew (((Ac.refl w).alloc _).alloc _)) F.out)
     ·rw[if_neg G];have V:¬(16:Int)<(m.size:Int):=by omega
      have H:Hid _:=fun W=>Qs m W (by omega);clear b o p q v l a G;go_enter func119,ntmps119
      go_wp2_with (first|(go_at_call 169;refine(j.out _).mono ?_;rintro e n ⟨rfl,D⟩;cases D))
      refine(H.out _).mono ?_;rintro e A ⟨rfl,C⟩;have Q:A.heap[w.heap.size]?=some (.cells #[_] 23 (0,0)):=(C.block _ (by simp;omega)).trans ((Below.heap_alloc _ _ _ (by simp)).trans (Af rfl));have z:A.heap[w.heap.size+1]?=some (.cells #[_] 23 (0,0)):=(C.block _ (by simp)).trans (Af (by simp));have X:=Ab z 0;have Y:=Ad z 0;have R:Hid (Fr (·≠br) w (A.setCell ⟨w.heap.size+1,0,none⟩ (.iface 120 (.string m)))):=((((Fr.refl _ w).alloc _).alloc _).trans (Fr.below C)).setNew (by simp) _;have S:Hid (RdS (A.setCell ⟨w.heap.size+1,0,none⟩ (.iface 120 (.string m))) br t s op):=RdS.setOther (F.out.of (P:=fun _=>True) (Fr.below C) trivial) (by simp;omega) _;have N:Hid ((A.setCell ⟨w.heap.size+1,0,none⟩ (.iface 120 (.string m))).heap[w.heap.size]?=_):=(Below.heap_setCell _ _ _ _ (by simp)).trans Q;have O:Hid ((A.setCell ⟨w.heap.size+1,0,none⟩ (.iface 120 (.string m))).heap[_+1]?=some (.cells #[_] 23 (0,0))):=Ai z 0 _;clear C Q z;go_wp2_with (go_at_call 62;refine(E.out _ S.out).mono ?_;rintro e n ⟨rfl,c,k⟩;have I:=(k.block _ (Aa N.out) (by omega)).trans N.out;have J:=(k.block _ (Aa O.out) (by omega)).trans O.out;have y:=Ab I 0;have K:=Ad I 0;have L:=Ab J 0;have M:=Ad J 0;have g:Hid (RdS n br t _ op):=c;have r:Hid _:=R.out.trans k;clear c k I J)
      have x:=World.cell?_setCell_same _ _ (.iface 120 (.string m)) y;exact Ae2 (by simp[results,results119,go_sem,x]) rfl (Un i r.out (fun _=>.inr (.inr (.inr (.inr (.inl ⟨m,rfl,rfl⟩))))) (by show 1<=1024;omega) g.out _ (Ad9 _) _)
def Fwd (T:List UInt8)(s s':St):Prop:=s'.at'<=s'.en/\s'.en<=T.length/\s.en<=s'.at'
def Kk {β:Type}(T:List UInt8)(item:St->Except (Nat×Nat) (β×St)):Prop:=∀s x s',s.en<=T.length->item s=.ok (x,s')->Fwd T s s'
theorem Ip (T:List UInt8)(s:St)(h:s.en<=T.length):Fwd T s (Cb T s):=lC T s h
theorem Fwd.trans {T:List UInt8}{a b c:St}(h:Fwd T a b)(k:Fwd T b c):Fwd T a c:=⟨k.1,k.2.1,by have:=h.1;have:=h.2.2;have:=k.2.2;omega⟩
def Jx (s:St):Prop:=s.cl=3->s.at'+2<=s.en
theorem Rz:∀(l:List UInt8)(i:Nat),(Ci l i).1=3->i+1<=(Ci l i).2
 | [],i,h=>by simp[Ci] at h
 | c::r,i,h=>by
  simp only[Ci] at h |-;split at h
  ·rename_i q;rw[if_pos q];exact Ad9 _
  ·rename_i q
   rw[if_neg q];split at h
   ·rename_i q2;rw[if_pos q2];have:=Rz r (i+1) h;omega
   ·simp at h
theorem Ji (l:List UInt8):(De l).1=2\/(De l).1=5:=by
 unfold De;repeat' split
 all_goals first|exact .inl rfl|exact .inr rfl
theorem vD (l:List UInt8)(h:(Fa l).1=3):2<=(Fa l).2:=by
 unfold Fa at h |-;by_cases b:l.length=0
 ·rw[if_pos b] at h;exact absurd h (by decide)
 rw[if_neg b] at h |-;by_cases c:C8 (Ap l 0)=true
 ·rw[if_pos c] at h;exact absurd h (by show ¬1=3;decide)
 rw[if_neg c] at h |-;by_cases d:Ay (Ap l 0)=true
 ·rw[if_pos d] at h;rcases Ji l with e|e<;>rw[e] at h<;>exact absurd h (by decide)
 rw[if_neg d] at h |-;by_cases f:(Ap l 0).toNat=45
 ·rw[if_pos f] at h;unfold Po at h;split at h
  ·exact absurd h (by show ¬5=3;decide)
  ·have a:(De (l.drop 1)).1=3:=h;rcases Ji (l.drop 1) with e|e<;>rw[e] at a<;>exact absurd a (by decide)
 rw[if_neg f] at h |-;by_cases g:(Ap l 0).toNat=34
 ·rw[if_pos g] at h |-;exact Rz _ _ h
 ·rw[if_neg g] at h;unfold Kz at h
  repeat' split at h
  all_goals exact absurd h (by first|(show ¬4=3;decide)|(show ¬5=3;decide))
theorem Uo (T:List UInt8)(s:St):Jx (Cb T s):=by
 intro h;have:=vD _ h;simp only[Cb];omega
theorem aH {T:List UInt8}{s:St}{c:UInt8}{m:List UInt8}(h:isP T s (c::m)=true):s.at'<s.en:=by
 simp only[isP,Bool.and_eq_true,beq_iff_eq] at h;have:=congrArg List.length h.2;simp[Bh] at this;omega
theorem P9 {β:Type}{T closing:List UInt8}{item:St->Except (Nat×Nat) (β×St)}(H:Kk T item):∀f,Kk T (Cl T closing item f)
 | 0,s,x,s',_,h=>by simp[Cl] at h
 | f+1,s,x,s',hs,h=>by
  simp only[Cl] at h;cases hi:item s with
  | error e=>rw[hi] at h;simp at h
  | ok q =>
   obtain⟨y,s1⟩:=q;have f1:=H s y s1 hs hi;rw[hi] at h;simp only at h;split at h
   ·simp only[Except.ok.injEq,Prod.mk.injEq] at h;rw[<- h.2];exact f1.trans (Ip T s1 f1.2.1)
   ·split at h
    ·cases hl:Cl T closing item f (Cb T s1) with
     | error e=>rw[hl] at h;simp at h
     | ok q =>
      obtain⟨l,s2⟩:=q;rw[hl] at h;simp only[Except.ok.injEq,Prod.mk.injEq] at h;rw[<- h.2];have f2:=Ip T s1 f1.2.1;exact(f1.trans f2).trans (P9 H f _ l s2 f2.2.1 hl)
    ·simp at h
theorem Qt {β:Type}{T closing:List UInt8}{item:St->Except (Nat×Nat) (β×St)}(H:Kk T item):Kk T (Cy T closing item):=by
 intro s x b a h;unfold Cy at h;split at h
 ·simp only[Except.ok.injEq,Prod.mk.injEq] at h;rw[<- h.2];exact Ip T s a
 ·exact P9 H _ s x b a h
theorem Vq {β:Type}{T:List UInt8}{item:St->Except (Nat×Nat) (β×St)}(H:Kk T item):Kk T (Gg T item):=by
 intro s x j g h;unfold Gg at h;cases a:item s with
 | error e=>rw[a] at h;simp at h
 | ok q =>
  obtain⟨y,c⟩:=q;have d:=H s y c g a;rw[a] at h;simp only at h;split at h
  ·have f:=Ip T c d.2.1;cases b:item (Cb T c) with
   | error e=>rw[b] at h;simp at h
   | ok q =>
    obtain⟨z,i⟩:=q;rw[b] at h;simp only[Except.ok.injEq,Prod.mk.injEq] at h;rw[<- h.2];exact(d.trans f).trans (H _ z i f.2.1 b)
  ·simp at h
theorem Xq {m:Nat}{T:List UInt8}{item:St->Except (Nat×Nat) (AV (m+1)×St)}(H:Kk T item):Kk T (Di T item):=by
 intro s x i g h;have f:=Ip T s g;have d:∀(s1:St)(b:Bool),Fwd T _ s1->Fwd T s { s1 with hv:=b }:=fun s1 b k=>f.trans k;unfold Di at h;split at h
 ·cases a:Cy T [125] item (Cb T s) with
  | error e=>rw[a] at h;simp at h
  | ok q =>
   rw[a] at h;have c:=congrArg Prod.snd (Except.ok.inj h);simp only at c;rw[<- c];exact d _ _ (Qt H _ _ _ f.2.1 a)
 ·split at h
  ·cases a:Cy T [62,62] item (Cb T s) with
   | error e=>rw[a] at h;simp at h
   | ok q =>
    rw[a] at h;have c:=congrArg Prod.snd (Except.ok.inj h);simp only at c;rw[<- c];exact d _ _ (Qt H _ _ _ f.2.1 a)
  ·split at h
   ·cases a:Cl T [93] (Gg T item) (T.length+1) (Cb T s) with
    | error e=>rw[a] at h;simp at h
    | ok q =>
     rw[a] at h;have c:=congrArg Prod.snd (Except.ok.inj h);simp only at c;rw[<- c];exact d _ _ (P9 (Vq H) _ _ _ _ f.2.1 a)
   ·simp at h
theorem Vr {m:Nat}{T:List UInt8}{br:St->Except (Nat×Nat) (AV (m+1)×St)}(H:Kk T br):Kk T (Dl T br):=by
 intro s x d b h;have c:=Ip T s b;unfold Dl at h
 repeat' split at h
 all_goals first
  | (have a:=congrArg Prod.snd (Except.ok.inj h);simp only at a;rw[<- a];exact c)
  | (simp at h;done)
  | (exact H s x d b h)
theorem Jj (T:List UInt8):∀d,Kk T (A8 T d)
 | 0=>Vr (fun s x s' _ h=>by split at h<;>simp at h)
 | d+1=>Vr (Xq (Jj T d))
/-- the library's error, where it lies -/
def Env (w:World)(br:Nat):Prop:=br≠4/\4<w.heap.size/\(∃ev,w.cell? ⟨4,0,none⟩=some ev/\(ev=.nilIface\/∃te pe,ev=.iface te pe))/\br≠3/\∃ev,w.cell? ⟨3,0,none⟩=some ev/\(ev=.nilIface\/∃te pe,ev=.iface te pe)
theorem Env.fr {w w':World}{br:Nat}(h:Env w br)(f:Fr (·≠br) w w'):Env w' br:=by
 obtain⟨a,b,⟨d,g,i⟩,c,e,j,k⟩:=h;exact⟨a,Ad8 b f.size,⟨d,(World.cell?_of_block (w:=w) (f.block 4 b (Ne.symm a))).trans g,i⟩,c,e,(World.cell?_of_block (w:=w) (f.block 3 (by omega) (Ne.symm c))).trans j,k⟩
def Tg (d:Nat):Prop:=∀(w:World)(br:Nat)(t:ByteArray)(s:St),Env w br->RdS w br t s (24-d)->s.at'<=s.en->Jx s->s.en<=t.size->t.size<=4000 ->
 Calls prog 63 #[.pointer (some ⟨br,0,none⟩)] w (Hj w br t (24-d) d (A8 t.data.toList d s))
def LIx (n:Nat)(w:World)(bl base:Nat)(es:List (AV n))(sl:Value)(vs:List Value):Prop :=
 w.heap[bl]?=some (.cells #[sl] 47 (0,0))/\w.ownsRow base 23 1 sl es.length vs/\(∀(i:Nat)(x:AV n),es[i]?=some x->∃v,vs[i]?=some v/\Aj (fun k=>base<=k/\sl.ownBlock≠some k) w n x v)/\∀x∈es,wt n x<=1024
def LI (n:Nat)(w:World)(bl base:Nat)(es:List (AV n)):Prop:=∃(sl:Value)(vs:List Value),LIx n w bl base es sl vs
theorem lD {w w':World}{base:Nat}{sl:Value}{n:Nat}{vs:List Value}(h:w.ownsRow base 23 1 sl n vs)(hb:∀g,sl.ownBlock=some g->base<=g->g<w.heap.size->w'.heap[g]?=w.heap[g]?):w'.ownsRow base 23 1 sl n vs:=by
 refine⟨h.1,?_⟩;rcases h.2 with f|⟨g,a,b,e,c,d,r⟩
 ·exact .inl f
 ·exact .inr ⟨g,a,b,e,c,(hb g (by rw[e];rfl) c (Aa d)).trans d,r⟩
theorem LIx.fr {n:Nat}{w w':World}{bl base br:Nat}{es:List (AV n)}{sl:Value}{vs:List Value}(h:LIx n w bl base es sl vs)(f:Fr (·≠br) w w')(hbr:br<base)(hbl:bl≠br):LIx n w' bl base es sl vs:=by
 obtain⟨a,b,c,d⟩:=h;refine⟨(f.block bl (Aa a) hbl).trans a,lD b (fun g _ hg hlt=>f.block g hlt (by omega)),fun i x hx=>?_,d⟩;obtain⟨v,j,e⟩:=c i x hx;exact⟨v,j,e.keep (f.mono fun k hk=>by have:=hk.1;omega)⟩
theorem Vs {w:World}{base:Nat}{sl:Value}{n g:Nat}{vs:List Value}(h:w.ownsRow base 23 1 sl n vs)(hg:sl.ownBlock=some g):base<=g/\g<w.heap.size:=by
 rcases h.2 with⟨rfl,_⟩|⟨e,a,b,rfl,c,d,_⟩
 ·simp[Value.ownBlock] at hg
 ·simp[Value.ownBlock] at hg;subst hg;exact⟨c,Aa d⟩
theorem Fr.grown {P:Nat->Prop}{a b c:World}{row:Option Nat}(h:Fr P a b)(g:b.grownBy c row)(hr:∀k,k<a.heap.size->row=some k->¬P k):Fr P a c :=
 ⟨g.os.trans h.os,g.tape.trans h.tape,g.output.trans h.output,Ae0 h.size g.size,fun k hk hp=>(g.block k (Ad8 hk h.size) (fun e=>hr k hk e.symm hp)).trans (h.block k hk hp)⟩
theorem LI.push {n:Nat}{w w1 w2:World}{bl base br g cap:Nat}{es:List (AV n)}{sl u:Value}{vs:List Value}{x:AV n}{v:Value}
  (h2:w1.ownsRow base 23 1 sl es.length vs) (h3:∀(i:Nat)(x:AV n),es[i]?=some x->∃v,vs[i]?=some v/\Aj (fun k=>base<=k/\sl.ownBlock≠some k) w1 n x v) (h4:∀x∈es,wt n x<=1024)
  (hx:Aj (fun k=>w.heap.size<=k) w1 n x v) (hw:wt n x<=1024) (hbase:base<=w.heap.size) (hsl:∀q,sl.ownBlock=some q->q<w.heap.size)
  (ho:w2.ownsRow base 23 1 (.slice (some ⟨g,0,none⟩) (es.length+1) cap) (es.length+1) (vs++[v])) (hg:w1.grownBy w2 sl.ownBlock) (hat:sl.ownBlock=some g\/w1.heap.size<=g)
  (hbl:bl<base) (hb:w2.heap[bl]?=some (.cells #[u] 47 (0,0))) (_:br=br) :
  LI n (w2.setCell ⟨bl,0,none⟩ (.slice (some ⟨g,0,none⟩) (es.length+1) cap)) bl base (es++[x]):=by
 have j:base<=g:=(Vs ho (by rfl)).1;have a:∀(y:AV n)(u:Value),Aj (fun k=>base<=k/\sl.ownBlock≠some k) w1 n y u->Aj (fun k=>base<=k/\(Value.slice (some ⟨g,0,none⟩) (es.length+1) cap).ownBlock≠some k) (w2.setCell ⟨bl,0,none⟩ (.slice (some ⟨g,0,none⟩) (es.length+1) cap)) n y u:=by
  intro y u hy;have h:Fr (fun k=>base<=k/\_≠some k) w1 w2:=(Fr.refl _ w1).grown hg (fun k _ e hp=>hp.2 e);refine hy.fr (h.set (by simp;omega) _) (fun k hk hp=>⟨hp.1,fun e=>?_⟩) n y u;simp only[Value.ownBlock,Option.some.injEq] at e;subst e;rcases hat with q|q
  ·exact hp.2 q
  ·omega
 refine⟨_,vs++[v],Ai hb 0 _,?_,fun i y hy=>?_,fun y hy=>?_⟩
 ·rw[List.length_append];exact lD ho (fun q hq hbq _=>by rw[Below.heap_setCell _ _ _ _ (by simp;omega)])
 ·by_cases l:i<es.length
  ·rw[List.getElem?_append_left l] at hy;obtain⟨u,f,m⟩:=h3 i y hy;have c:=(List.getElem?_eq_some_iff.1 f).1;exact⟨u,by rw[List.getElem?_append_left c];exact f,a y u m⟩
  ·have d:vs.length=es.length:=by have:=h2.1;omega
   have b:i=es.length:=by
    have:=(List.getElem?_eq_some_iff.1 hy).1;simp at this;omega
   subst b;rw[List.getElem?_append_right (Nat.le_refl _)] at hy;simp at hy;subst hy;refine⟨v,by rw[List.getElem?_append_right (by omega)];simp[d],?_⟩;exact a x v (hx.fr (Fr.refl _ w1) (fun k _ hk=>⟨by omega,fun e=>by have:=hsl k e;omega⟩) n x v)
 ·rcases List.mem_append.1 hy with q|q
  ·exact h4 y q
  ·simp at q;subst q;exact hw
def qL (w:World)(br bl base:Nat)(t:ByteArray)(op d:Nat)(es:List (AV (d+1)))(R:Except (Nat×Nat) (AV (d+1)×St))(e:Ending)(w':World):Prop :=
 ∃er,e=.returned er/\Fr (fun k=>k<base/\k≠br/\k≠bl) w w' /\
  match R with
  | .ok (x,s')=>er=.nilIface/\LI (d+1) w' bl base (es++[x])/\RdS w' br t s' op
  | .error (c,p)=>er=.iface 61 (.int .i64 (c:Int))/\(∃es',LI (d+1) w' bl base es'/\es'.length=es.length+1)/\∃s':St,s'.at'=p/\RdS w' br t s' op
def Th {d:Nat}(w':World)(br:Nat)(t:ByteArray)(op:Nat)(R:Except (Nat×Nat) (AV (d+1)×St))(er:Value)(x:AV (d+1)):Prop :=
 match R with
 | .ok (y,s')=>er=.nilIface/\x=y/\RdS w' br t s' op
 | .error (c,p)=>er=.iface 61 (.int .i64 (c:Int))/\∃s':St,s'.at'=p/\RdS w' br t s' op
theorem Th.keep {d:Nat}{w w':World}{br:Nat}{t:ByteArray}{op:Nat}{R:Except (Nat×Nat) (AV (d+1)×St)}{er:Value}{x:AV (d+1)}(h:Th w br t op R er x)(hb:w'.heap[br]?=w.heap[br]?):Th w' br t op R er x:=by
 cases R with
 | ok q=>obtain⟨a,b,c⟩:=h;exact⟨a,b,hb.trans c⟩
 | error q=>obtain⟨a,e,b,c⟩:=h;exact⟨a,e,b,hb.trans c⟩
theorem Qa {d:Nat}{w w':World}{br:Nat}{t:ByteArray}{op:Nat}{R:Except (Nat×Nat) (AV (d+1)×St)}{e:Ending}(h:Hj w br t op d R e w') :
  ∃v er x,e=.returned (.tuple #[.agg #[v],er])/\Fr (·≠br) w w'/\Aj (fun k=>w.heap.size<=k) w' (d+1) x v/\wt (d+1) x<=1024/\(er=.nilIface\/∃c:Nat,er=.iface 61 (.int .i64 (c:Int))) /\
   Th w' br t op R er x:=by
 obtain⟨v,er,i,j,l⟩:=h;cases R with
 | ok q =>
  obtain⟨x,m⟩:=q;obtain⟨a,b,f,g⟩:=l;exact⟨v,er,x,i,j,b,f,.inl a,a,rfl,g⟩
 | error q =>
  obtain⟨c,p⟩:=q;obtain⟨a,⟨x,b,f⟩,g⟩:=l;exact⟨v,er,x,i,j,b,f,.inr ⟨c,a⟩,a,g⟩
theorem RdS.mono {w w':World}{br:Nat}{t:ByteArray}{s:St}{op:Nat}(h:RdS w br t s op)(hb:w'.heap[br]?=w.heap[br]?):RdS w' br t s op:=hb.trans h
theorem qM (d:Nat)(V:Tg d)(w:World)(br bR bl base:Nat)(t:ByteArray)(s:St)(es:List (AV (d+1)))(hE:Env w br)(hr:RdS w br t s (24-d))(ha:s.at'<=s.en)(hk:Jx s)(hen:s.en<=t.size)(ht:t.size<=4000)
  (hR:w.heap[bR]?=some (.cells #[.pointer (some ⟨br,0,none⟩)] 108 (0,0))) (hL:LI (d+1) w bl base es) (h1:br<base) (h3:bl<base) (h4:base<=w.heap.size) (n1:br≠bl) (hlen:es.length<=5000) :
  Calls prog 301 #[.pointer (some ⟨bR,0,none⟩),.pointer (some ⟨bl,0,none⟩)] w (qL w br bl base t (24-d) d es (A8 t.data.toList d s)):=by
 have M:Hid (Calls _ _ _ _ _):=V w br t s hE hr ha hk hen ht;have k0:=Ab hR 0;obtain⟨i0,hi,T,U,W⟩:=info_parts Gn;generalize A8 t.data.toList d s=R at M |-;have HL:Hid (LI (d+1) w bl base es):=hL;clear hE hr hR hL V hk;go_enter func301,ntmps301
 go_wp2_with fail
 refine M.out.mono ?_;intro e b hp;obtain⟨v,P,x,rfl,H,I,hw,a0,hm⟩:=Qa hp;clear hp M;obtain⟨o,Y,m⟩:=HL.out;have F:∀q,_=some q->q<_:=fun q hq=>(Vs m.2.1 hq).2;obtain⟨G,X,l3,l4⟩:=m.fr H h1 (Ne.symm n1);have a3:=H.size;have st:=Ae (I.rep _ _ _).one;have c1:=Ab G 0;have c2:=Ad G 0;have E:=Aa G;have cc:=(I.rep _ _ _).one;have h:Hid (((b.alloc (.cells #[v] 23)).alloc (.cells #[v] 23)).ownsRow base 23 1 o _ Y):=(X.alloc _).alloc _;have r:Hid (b.heap[bl]?=_):=G;have HX:Hid (Aj _ b (d+1) x v):=I;have HT:Hid (Th b br t _ R P x):=hm;have HF:Hid (Fr (·≠br) w b):=H;have l:Hid (b.ownsRow base 23 1 o _ Y):=X;have z:Hid _:=l3;have A:Hid (∀x∈es,_):=l4;clear G X l3 l4 I hm H HL m;go_wp2_with (at_builtin;refine wpList_append_lies _ rfl _ _ 47 rfl base 23 i0 _ 1 16 underlying47 hi T U W rfl (by decide) o _ Y rfl h.out _ 1 1 [v] rfl rfl ?q1 ?q2 (by decide) ?q3 ?q4 ?q5 (b.heap.size+2) ?q6 ?_)
 case q1 =>
  intro j u hj
  match j,hj with
  | 0,hj =>
   simp at hj;subst hj;simp[Addr.add]
 case q2=>intro u hu;simp at hu;subst hu;exact cc
 case q3=>unfold maxLen;omega
 case q4=>omega
 case q5=>simp;omega
 case q6=>simp
 intro g C Z ho n D S;have a:b.grownBy Z o.ownBlock:=by
  have a1:=World.grownBy_alloc b (.cells #[v] 23) o.ownBlock;have a2:=World.grownBy_alloc (b.alloc (.cells #[v] 23)) (.cells #[v] 23) o.ownBlock;refine⟨n.os,n.tape,n.output,?_,fun k hk hne=>?_⟩
  ·have:=n.size;simp at this;omega
  ·rw[n.block k (by simp;omega) hne,a2.block k (by simp;omega) hne,a1.block k hk hne]
 have J:∀k,k<base->some k≠_:=fun k hk e=>by have:=(Vs l.out e.symm).1;omega
 have f:=(a.block bl E (J bl h3)).trans r.out;have d1:=Ab f 0;have d2:=Ad f 0;have i:=a.block br (by omega) (J br h1);have B:Hid (LI (d+1) _ bl base _) :=
  LI.push (br:=br) l.out z.out A.out HX.out hw h4 F ho a (D.imp id fun e=>by omega) h3 f rfl
 have L:Hid (Th (Z.setCell ⟨bl,0,none⟩ (.slice (some ⟨g,0,none⟩) (es.length+1) C)) br t _ R P x):=HT.out.keep ((Below.heap_setCell _ _ _ _ n1).trans i);have K:Hid (Fr _ w (Z.setCell ⟨bl,0,none⟩ (.slice (some ⟨g,0,none⟩) (es.length+1) C))) :=
  ((HF.out.mono (Q:=fun k=>k<base/\k≠br/\k≠bl) fun k hk=>hk.2.1).grown a (fun k _ e hp=>J k hp.1 e.symm)).set (by simp) _
 clear ho n D S a J f i l z A HX HT HF r h;go_wp2_with fail
 go_ret
 refine⟨P,rfl,K.out,?_⟩;have hT:=L.out;cases R with
 | ok q =>
  obtain⟨y,s'⟩:=q;obtain⟨N,rfl,O⟩:=hT;exact⟨N,B.out,O⟩
 | error q =>
  obtain⟨c,p⟩:=q;obtain⟨N,s',e2,O⟩:=hT;exact⟨N,⟨es++[x],B.out,by simp⟩,s',e2,O⟩
/-- what came before, and the rest -/
def Nn {β:Type}(pre:List β)(r:Except (Nat×Nat) (List β×St)):Except (Nat×Nat) (List β×St) :=
 match r with
 | .ok (l,s')=>.ok (pre++l,s')
 | .error e=>.error e
def qN {β:Type}(Pp:Nat->Prop)(Inv:World->List β->Prop)(w:World)(br:Nat)(t:ByteArray)(op:Nat)(R:Except (Nat×Nat) (List β×St))(e:Ending)(w':World):Prop :=
 ∃er,e=.returned er/\Fr Pp w w' /\
  match R with
  | .ok (l,s')=>er=.nilIface/\Inv w' l/\RdS w' br t s' op
  | .error (c,p)=>er=.iface 61 (.int .i64 (c:Int))/\(∃l,Inv w' l)/\∃s':St,s'.at'=p/\RdS w' br t s' op
def zZ {β:Type}(Pp:Nat->Prop)(Inv:World->List β->Prop)(w:World)(br:Nat)(t:ByteArray)(op:Nat)(acc:List β)(R:Except (Nat×Nat) (β×St))(e:Ending)(w':World):Prop :=
 ∃er,e=.returned er/\Fr Pp w w' /\
  match R with
  | .ok (x,s')=>er=.nilIface/\Inv w' (acc++[x])/\RdS w' br t s' op
  | .error (c,p)=>er=.iface 61 (.int .i64 (c:Int))/\(∃l,Inv w' l)/\∃s':St,s'.at'=p/\RdS w' br t s' op
theorem qO {F:Nat}(hF:F=301\/F=265){β:Type}(Pp:Nat->Prop)(Inv:World->List β->Prop)(br:Nat)(t closing:ByteArray)(op:Nat)(cb:Array Value)(item:St->Except (Nat×Nat) (β×St))(c0:UInt8)(cr:List UInt8)(hcl:closing.data.toList=c0::cr)
  (hG:Kk t.data.toList item) (hPb:∀k,Pp k->k≠br) (hP4:Pp 4/\Pp 3) (hInv:∀w w' l,Inv w l->Fr (·≠br) w w'->Inv w' l) (ht:t.size<=4000)
  (hI:∀(w:World)(s:St)(acc:List β),Env w br->RdS w br t s op->s.at'<=s.en->Jx s->s.en<=t.size->Inv w acc->acc.length<=5000->Calls prog F cb w (zZ Pp Inv w br t op acc (item s)))
  (w:World) (s:St) (hE:Env w br) (hr:RdS w br t s op) (ha:s.at'<=s.en) (hk:Jx s) (hen:s.en<=t.size) (hi:Inv w []) :
  Calls prog 264 #[.pointer (some ⟨br,0,none⟩),.string closing,.func (.func F) #[] cb] w (qN Pp Inv w br t op (Cl t.data.toList closing.data.toList item (t.data.toList.length+1) s)):=by
 have hl:t.data.toList.length=t.size:=by simp
 obtain⟨R,hR⟩:∃R,Cl t.data.toList closing.data.toList item (t.data.toList.length+1) s=R:=⟨_,rfl⟩;rw[hR];have HR:Hid _:=hR;clear hR;have HI:Hid _:=hI;have Y:Hid _:=fun(W:World) (s:St) (m:_) h1 h2 h3=>Vo W br t s op m h1 h2 h3 ht;have C:Hid _:=hInv;have HG:Hid (Kk t.data.toList item):=hG;have V:Hid (∀k,Pp k->k≠br):=hPb;have a4:Hid (∀w w',Env w br->Fr Pp w w'->Env w' br):=by
  intro w w' h f;obtain⟨e1,e2,⟨ev,e3,e4⟩,e5,ew,e6,e7⟩:=h;exact⟨e1,Ad8 e2 f.size,⟨ev,(World.cell?_of_block (w:=w) (f.block 4 e2 hP4.1)).trans e3,e4⟩,e5,ew,(World.cell?_of_block (w:=w) (f.block 3 (by omega) hP4.2)).trans e6,e7⟩
 have a5:Hid (Jx s):=hk;have H0:Hid (_/\_/\_):=⟨hE,hr,hi⟩;clear hI hInv hG hPb hE hr hi hP4 hk;have HC:Hid _:=hcl;clear hcl;rcases hF with rfl|rfl
 all_goals
  go_enter func264,ntmps264
  go_wp2_with fail
  go_loopg [] (t.size+1) (fun f wr=>∃(r:St)(acc:List β),r.at'<=r.en/\r.en<=t.size/\acc.length<=r.en/\t.size+1<=f+r.en/\Hid (Jx r)/\Hid (Env wr br)/\Hid (RdS wr br t r op)/\Hid (Inv wr acc)/\Hid (R=Nn acc (Cl t.data.toList closing.data.toList item f r))/\Hid (Fr Pp w wr))
  case atStart =>
   refine⟨s,[],ha,hen,by simp,by omega,a5,H0.out.1,H0.out.2.1,H0.out.2.2,?_,Fr.refl _ _⟩;show _=_;rw[<- HR.out,hl];unfold Nn;cases Cl t.data.toList closing.data.toList item (t.size+1) s<;>rfl
  case round =>
   obtain⟨r,acc,a7,b0,b3,b4,a6,D,X,Q,I,E⟩:=hrel;obtain⟨f,rfl⟩:∃f,gk=f+1:=⟨gk-1,by omega⟩;go_wp2_with fail
   refine(HI.out wr r acc D.out X.out a7 a6.out b0 Q.out (by omega)).mono ?_;intro e M hp;have i:=HG.out r;cases j:item r with
   | error q =>
    rw[j] at hp;obtain⟨c,p⟩:=q;obtain⟨er,rfl,L,rfl,g,v⟩:=hp;have J:Hid (R=.error (c,p)):=by show _=_;rw[I.out];simp[Cl,j,Nn]
    have y:Hid (Fr Pp w M):=E.out.trans L;have HZ:Hid (_/\∃s':St,s'.at'=p/\_):=⟨g,v⟩;clear j g v L i;go_wp2_with fail
    go_ret
    rw[J.out];exact⟨_,rfl,y.out,rfl,HZ.out.1,HZ.out.2⟩
   | ok q =>
    rw[j] at hp;obtain⟨x,a⟩:=q;obtain⟨er,rfl,L,rfl,g,v⟩:=hp;obtain⟨g1,g2,g3⟩:=i x a (by omega) j;have d:Hid (R=Nn acc (if isP t.data.toList a closing.data.toList then .ok ([x],Cb t.data.toList a) else if isP t.data.toList a [44] then Nn [x] (Cl t.data.toList closing.data.toList item f (Cb t.data.toList a)) else .error (1,a.at'))):=by
     show _=_;rw[I.out];simp only[Cl,j]
     congr 1
     split
     ·rfl
     ·split
      ·unfold Nn;cases Cl t.data.toList closing.data.toList item f (Cb t.data.toList a)<;>rfl
      ·rfl
    have y:Hid (Fr Pp w M):=E.out.trans L;have N:Hid (Env M br):=a4.out _ _ D.out L;have U:Hid (Inv M (acc++[x])):=g;have Z:Hid (RdS M br t a op):=v;have a1:a.en<=t.size:=by omega
    clear j g v L i I E D X Q;have u:=fun q=>aH (T:=t.data.toList) (s:=a) (c:=c0) (m:=cr) q;have b:=fun q=>aH (T:=t.data.toList) (s:=a) (c:=44) (m:=[]) q;have a2:=Ip t.data.toList a g2;go_wp2_with fail
    refine(Y.out M a closing Z.out g1 a1).mono ?_;rintro e w2 ⟨rfl,n,A⟩;have H:Hid _:=C.out _ _ _ U.out A;have G:Hid _:=y.out.trans (A.mono V.out);have O:Hid (Env w2 br):=N.out.fr A;clear A y U N Z;rw[HC.out] at n d |-;generalize a8:isP _ a _=b1 at n d u |-;clear a8;cases b1 with
    | true =>
     have J:Hid (R=.ok (acc++[x],Cb t.data.toList a)):=by show _=_;rw[d.out];rfl
     have z:Hid (RdS w2 br t (Cb _ a) op):=n;clear n d u b;go_wp2_with fail
     go_ret
     rw[J.out];exact⟨_,rfl,G.out,rfl,H.out,z.out⟩
    | false =>
     have z:Hid (RdS w2 br t a op):=n;clear n u;go_wp2_with fail
     refine(Y.out w2 a ⟨#[44]⟩ z.out g1 a1).mono ?_;rintro e w3 ⟨rfl,o,B⟩;have S:Hid _:=C.out _ _ _ H.out B;have P:Hid _:=G.out.trans (B.mono V.out);have a3:Hid (Env w3 br):=O.out.fr B;clear B G H O z;have a0:(⟨#[44]⟩:ByteArray).data.toList=[44]:=rfl;rw[a0] at o |-;clear a0;generalize a9:isP _ a [44]=b2 at o d b |-;clear a9;cases b2 with
     | true =>
      have b5:=b rfl;have J:Hid (R=Nn (acc++[x]) (Cl t.data.toList (c0::cr) item f (Cb t.data.toList a))):=by
       show _=_;rw[d.out];simp only[Bool.false_eq_true,if_false,if_true];unfold Nn;cases Cl t.data.toList (c0::cr) item f (Cb t.data.toList a) with
       | ok q=>simp
       | error q=>rfl
      have K:Hid (RdS w3 br t (Cb _ a) op):=o;clear o d b;obtain⟨v1,v2,v3⟩:=a2;go_wp2_with fail
      go_roundg f
      case measure=>omega
      case rel=>exact⟨_,acc++[x],v1,by omega,by simp;omega,by omega,Uo _ _,a3,K,S,by rw[HC.out];exact J,P⟩
     | false =>
      have J:Hid (R=.error (1,a.at')):=by show _=_;rw[d.out];rfl
      have K:Hid (RdS w3 br t a op):=o;clear o d b;go_wp2_with fail
      go_ret
      rw[J.out];exact⟨_,rfl,P.out,rfl,⟨_,S.out⟩,a,rfl,K.out⟩
/-- a list of values that was read: a slice -/
def vE (n:Nat)(w0 w:World)(l:List (AV n))(sl:Value):Prop :=
 ∃a cap,sl=.slice a l.length cap/\(a=none\/∃b off,a=some ⟨b,off,none⟩)/\((a=none->l.length=0)/\l.length<=cap)/\Bv (fun k=>w0.heap.size<=k) w (Aj (fun k=>w0.heap.size<=k) w n) a l.length l/\∀x∈l,wt n x<=1024
theorem LI.row {n:Nat}{w0 w:World}{bl base:Nat}{l:List (AV n)}(h:LI n w bl base l)(hb:w0.heap.size<=base)(hl:l.length<=4294967296):∃sl,w.heap[bl]?=some (.cells #[sl] 47 (0,0))/\vE n w0 w l sl:=by
 obtain⟨sl,u,o,f,p,j⟩:=h;refine⟨sl,o,?_⟩;have c:=f;rcases f.2 with⟨rfl,b⟩|⟨g,a,m,rfl,t,q,d,_⟩
 ·exact⟨none,0,by rw[b],.inl rfl,⟨fun _=>b,by omega⟩,⟨rfl,hl,.inl b⟩,j⟩
 ·refine⟨_,a,rfl,.inr ⟨g,0,rfl⟩,⟨fun e=>by simp at e,d⟩,⟨rfl,hl,.inr ⟨g,0,rfl,Aa q,by omega,fun i x hx=>?_⟩⟩,j⟩;obtain⟨v,s,r⟩:=p i x hx;refine⟨v,?_,r.fr (Fr.refl _ w) (fun k _ hk=>by have:=hk.1;omega) n x v⟩;rw[Nat.zero_add,c.cellAt i (by have:=(List.getElem?_eq_some_iff.1 hx).1;omega),s]
def qP (n:Nat)(w:World)(br:Nat)(t:ByteArray)(op:Nat)(R:Except (Nat×Nat) (List (AV n)×St))(e:Ending)(w':World):Prop :=
 ∃sl er,e=.returned (.tuple #[sl,er])/\Fr (·≠br) w w' /\
  match R with
  | .ok (l,s')=>er=.nilIface/\vE n w w' l sl/\l.length<=4000/\RdS w' br t s' op
  | .error (c,p)=>er=.iface 61 (.int .i64 (c:Int))/\(∃l,vE n w w' l sl/\l.length<=5001)/\∃s':St,s'.at'=p/\RdS w' br t s' op
theorem Yw {β:Type}{T closing:List UInt8}{item:St->Except (Nat×Nat) (β×St)}(H:Kk T item):∀(f:Nat)(s:St)(l:List β)(s':St),s.en<=T.length->Cl T closing item f s=.ok (l,s')->l.length+s.en<=T.length+1
 | 0,s,l,s',_,h=>by simp[Cl] at h
 | f+1,s,l,s',hs,h=>by
  simp only[Cl] at h;cases hi:item s with
  | error e=>rw[hi] at h;simp at h
  | ok q =>
   obtain⟨y,s1⟩:=q;have f1:=H s y s1 hs hi;rw[hi] at h;simp only at h;split at h
   ·simp only[Except.ok.injEq,Prod.mk.injEq] at h;rw[<- h.1];simp;omega
   ·split at h
    ·rename_i hc
     have hp:=aH hc;cases hl:Cl T closing item f (Cb T s1) with
     | error e=>rw[hl] at h;simp at h
     | ok q =>
      obtain⟨l2,s2⟩:=q;rw[hl] at h;simp only[Except.ok.injEq,Prod.mk.injEq] at h;have f2:=Ip T s1 f1.2.1;have:=Yw H f _ l2 s2 f2.2.1 hl;rw[<- h.1];have a1:=f1.2.2;have a2:=f2.2.2;have a3:=f2.1;simp;omega
    ·simp at h
theorem Vt (d:Nat)(V:Tg d)(w:World)(br:Nat)(t closing:ByteArray)(s:St)(c0:UInt8)(cr:List UInt8)(hcl:closing.data.toList=c0::cr)(hE:Env w br)(hr:RdS w br t s (24-d))(ha:s.at'<=s.en)(hk:Jx s)(hen:s.en<=t.size)(hen1:1<=s.en)(ht:t.size<=4000) :
  Calls prog 263 #[.pointer (some ⟨br,0,none⟩),.string closing] w (qP (d+1) w br t (24-d) (Cy t.data.toList closing.data.toList (A8 t.data.toList d) s)):=by
 have hl:t.data.toList.length=t.size:=by simp
 have a3:=Aa hr;have E:Hid (Calls _ 266 #[_,_] _ _):=Vo (w.alloc (.cells #[.pointer (some ⟨br,0,none⟩)] 108)) br t s _ closing (hr.of (P:=fun _=>True) (Fr.grew ((Ac.refl w).alloc _)) trivial) ha hen ht;have HE:Hid (Env (w.alloc (.cells #[.pointer (some ⟨br,0,none⟩)] 108)) br):=hE.fr (Fr.grew ((Ac.refl w).alloc _));unfold Cy;have a5:∀(fn:Fn)(first cap:_)(w:World),(Instr.makeFunc fn first cap).run prog w=.ok _ w:=fun _ _ _ _=>rfl;generalize hB:isP _ s _=B at E |-;have X:Hid _:=hcl;have Y:Hid (Jx s):=hk;clear hk;have I:Hid _:=hl;clear hr hE hB hcl hl;cases B with
 | true =>
  rw[if_pos rfl];go_enter func263,ntmps263
  go_wp2_with (go_at_call 266;refine E.out.mono ?_;rintro e g ⟨rfl,hr1,i⟩;have v:Hid (RdS g br t _ (24-d)):=hr1;have r:Hid (Fr (·≠br) _ g):=i;clear hr1 i)
  go_ret2
  refine⟨_,_,rfl,((Fr.refl _ w).alloc _).trans r.out,rfl,⟨none,0,rfl,.inl rfl,⟨fun _=>rfl,Ad9 _⟩,⟨rfl,by simp,.inl rfl⟩,by simp⟩,by simp,v.out⟩
 | false =>
  rw[if_neg (by simp)];generalize M:Cl _ _ _ _ s=R;have J:Hid _:=M;clear M;go_enter func263,ntmps263
  go_wp2_with (go_at_call 266;refine E.out.mono ?_;rintro e g ⟨rfl,hr1,i⟩;have v:Hid (RdS g br t _ (24-d)):=hr1;have r:Hid (Fr (·≠br) _ g):=i;have T:=(i.block _ (by simp) (by omega)).trans (Af rfl);have x0:=Ab T 0;have xs:=Aa T;have XR:Hid (g.heap[w.heap.size]?=_):=T;have H:Hid (Env g br):=HE.out.fr i;clear hr1 i T)
  obtain⟨o,z⟩:∃b,b=g.heap.size:=⟨_,rfl⟩;rw[<- z];have S:(g.alloc (.cells #[.slice none 0 0] 47)).heap[o]?=_:=Af z.symm;have a2:(g.alloc (.cells #[.slice none 0 0] 47)).heap.size=o+1:=by simp[z]
  have U:Hid (Fr _ w (g.alloc (.cells #[.slice none 0 0] 47))):=(((Fr.refl _ w).alloc _).trans r.out).alloc _;have R2:Hid (RdS (g.alloc (.cells #[.slice none 0 0] 47)) br t s _):=v.out.of (P:=fun _=>True) (Fr.grew ((Ac.refl g).alloc _)) trivial;have C:Hid (Env (g.alloc (.cells #[.slice none 0 0] 47)) br):=H.out.fr (Fr.grew ((Ac.refl g).alloc _));have D:(g.alloc (.cells #[.slice none 0 0] 47)).heap[w.heap.size]?=_:=(Below.heap_alloc _ _ _ xs).trans XR.out;clear r v H XR x0;generalize g.alloc _=W2 at S a2 U R2 C D |-;have a4:w.heap.size<o:=by omega
  clear z xs;have u:Hid (Calls _ 264 #[_,_,.func (.func 301) #[] #[_,_]] W2 _) :=
   qO (.inl rfl) (fun k=>k<o+1/\k≠br/\k≠o) (fun W l=>LI (d+1) W o (o+1) l/\o+1<=_/\W.heap[w.heap.size]?=_/\l.length<=5001) br t closing _ #[_,_] _ c0 cr X.out (Jj _ d) (fun k hk=>hk.2.1) ⟨⟨by have:=C.out.2.1;omega,Ne.symm C.out.1,by
    intro e;obtain⟨ev,F,y⟩:=C.out.2.2.1;rw[e,Ab S 0] at F;simp at F;subst F;rcases y with y|⟨_,_,y⟩<;>simp at y⟩,by have:=C.out.2.1;omega,Ne.symm C.out.2.2.2.1,by
    intro e;obtain⟨ev,F,y⟩:=C.out.2.2.2.2;rw[e,Ab S 0] at F;simp at F;subst F;rcases y with y|⟨_,_,y⟩<;>simp at y⟩
    (fun W W' l h f=>⟨by obtain⟨Q,vs,hx⟩:=h.1;exact⟨Q,vs,hx.fr f (by omega) (by omega)⟩,Ae0 h.2.1 f.size,(f.block _ (Aa h.2.2.1) (by omega)).trans h.2.2.1,h.2.2.2⟩) ht
    (fun W s1 acc hE1 hr1 ha1 hk1 he1 hinv hlen=>by
     refine(qM d V W br w.heap.size o (o+1) t s1 acc hE1 hr1 ha1 hk1 he1 ht hinv.2.2.1 hinv.1 (by omega) (by omega) hinv.2.1 (by omega) hlen).mono ?_;rintro e W' ⟨er,he,Z,A⟩;have k1:=Ae0 hinv.2.1 Z.size;have k2:=(Z.block _ (Aa hinv.2.2.1) ⟨by omega,by omega,by omega⟩).trans hinv.2.2.1;refine⟨er,he,Z,?_⟩;cases hv:A8 t.data.toList d s1 with
     | ok q=>rw[hv] at A;obtain⟨x,s'⟩:=q;exact⟨A.1,⟨A.2.1,k1,k2,by simp;omega⟩,A.2.2⟩
     | error q=>rw[hv] at A;obtain⟨c,p⟩:=q;obtain⟨m1,⟨es',m2,m4⟩,m3⟩:=A;exact⟨m1,⟨es',m2,k1,k2,by omega⟩,m3⟩)
    W2 s C.out R2.out ha Y.out hen ⟨⟨_,[],S,⟨rfl,.inl ⟨rfl,rfl⟩⟩,by simp,by simp⟩,by omega,D,by simp⟩
  have j:Hid (∀l s',Cl _ closing.data.toList _ (t.data.toList.length+1) s=.ok (l,s')->_+s.en<=_+1):=fun l s' h=>Yw (Jj _ d) _ s l s' (by rw[I.out];exact hen) h;rw[J.out] at u j;clear J;go_wp2_with fail
  go_at_call 264
  refine u.out.mono ?_;rintro e w3 ⟨er,rfl,m,A⟩;have F3:Hid (Fr (·≠br) w w3):=by
   have L:=U.out;refine⟨m.os.trans L.os,m.tape.trans L.tape,m.output.trans L.output,Ae0 L.size m.size,fun k hk hp=>?_⟩;exact(m.block k (by omega) ⟨by omega,hp,by omega⟩).trans (L.block k hk hp)
  clear U m;cases R with
  | ok q =>
   obtain⟨l,s'⟩:=q;obtain⟨rfl,⟨n,_,_,a0⟩,N⟩:=A;obtain⟨Q,G,a⟩:=n.row (w0:=w) (by omega) (by omega);have hc:=Ab G 0;have a1:=j.out l s' rfl;rw[I.out] at a1;have K:Hid (_/\_):=⟨a,N⟩;clear n a N j u;go_wp2_with fail
   go_ret2
   exact⟨Q,_,rfl,F3.out,rfl,K.out.1,by omega,K.out.2⟩
  | error q =>
   obtain⟨c,p⟩:=q;obtain⟨rfl,⟨l,n,_,_,a0⟩,O⟩:=A;obtain⟨Q,G,a⟩:=n.row (w0:=w) (by omega) (by omega);have hc:=Ab G 0;have K:Hid (_/\∃s':St,s'.at'=p/\_):=⟨a,O⟩;clear n a O j u;go_wp2_with fail
   go_ret2
   exact⟨Q,_,rfl,F3.out,rfl,⟨l,K.out.1,by omega⟩,K.out.2⟩
def Lg {β γ:Type}(f:List β->γ)(R:Except (Nat×Nat) (List β×St)):Except (Nat×Nat) (γ×St) :=
 match R with
 | .ok (l,s')=>.ok (f l,s')
 | .error e=>.error e
theorem qQ (n:Nat)(l:List (AV n)):wt (n+1) (mkS (wt n) l:Ag (AV n))<=1024:=by
 show wtN (wt n) (mkS (wt n) l)<=1024;unfold mkS;split
 ·simpa [wtN,Bt] using by assumption
 ·simp[wtN,Ar]
theorem gU (n:Nat)(k l:List (AV n)):wt (n+1) (mkF (wt n) k l:Ag (AV n))<=1024:=by
 show wtN (wt n) (mkF (wt n) k l)<=1024;unfold mkF;split
 ·simpa [wtN,Dd] using by assumption
 ·simp[wtN,Ar]
theorem qR (n:Nat)(l:List (AV n×AV n)):wt (n+1) (mkP (wt n) l:Ag (AV n))<=1024:=by
 unfold mkP;split
 ·exact gU n _ _
 ·show wtN (wt n) Ar<=1024;simp[wtN,Ar]
def gV {β:Type}(w':World)(br:Nat)(t:ByteArray)(op:Nat)(R:Except (Nat×Nat) (List β×St))(er:Value)(l:List β):Prop :=
 (∃s',R=.ok (l,s')/\er=.nilIface/\RdS w' br t s' op)\/(∃c p s',R=.error (c,p)/\er=.iface 61 (.int .i64 (c:Int))/\St.at' s'=p/\RdS w' br t s' op)
theorem qP.split {n:Nat}{w w':World}{br:Nat}{t:ByteArray}{op:Nat}{R:Except (Nat×Nat) (List (AV n)×St)}{e:Ending}(h:qP n w br t op R e w') :
  ∃sl er l,e=.returned (.tuple #[sl,er])/\Fr (·≠br) w w'/\vE n w w' l sl/\l.length<=5001/\gV w' br t op R er l:=by
 obtain⟨sl,er,d,f,a⟩:=h;cases R with
 | ok q=>obtain⟨l,b⟩:=q;exact⟨sl,er,l,d,f,a.2.1,Ae0 a.2.2.1 (by omega),.inl ⟨b,rfl,a.1,a.2.2.2⟩⟩
 | error q=>obtain⟨c,p⟩:=q;obtain⟨h1,⟨l,h2,h3⟩,b,h4,h5⟩:=a;exact⟨sl,er,l,d,f,h2,h3,.inr ⟨c,p,b,rfl,h1,h4,h5⟩⟩
theorem Vu {β:Type}{d:Nat}{w w2 w3:World}{br:Nat}{t:ByteArray}{op:Nat}{R:Except (Nat×Nat) (List β×St)}{er v u:Value}{l:List β}(f:List β->AV (d+1))(hbr:br<w.heap.size)
  (hf:Fr (·≠br) w w2) (ht:gV w2 br t op R er l) (hb:Below w2.heap.size w2 w3) (hv:Aj (fun k=>w.heap.size<=k/\k≠w.heap.size) w3 (d+1) (f l) v) (hw:∀l,wt (d+1) (f l)<=1024) :
  Hj w br t op d (Lg f R) (.returned (.tuple #[.agg #[v],er])) (w3.setCell ⟨w.heap.size,0,none⟩ u):=by
 have a:∀s',RdS w2 br t s' op->RdS (w3.setCell ⟨w.heap.size,0,none⟩ u) br t s' op:=fun s' h=>RdS.setOther (Ik.of h (P:=fun _=>True) (Fr.below hb) trivial) (by simp;omega) u;refine⟨v,er,rfl,(hf.trans (Fr.below hb)).setNew (Ad9 _) u,?_⟩;rcases ht with⟨s',rfl,rfl,h⟩|⟨c,p,s',rfl,rfl,b,h⟩
 ·exact⟨rfl,hv.boxed (w:=w) u rfl,hw l,a s' h⟩
 ·exact⟨rfl,⟨f l,hv.boxed (w:=w) u rfl,hw l⟩,s',b,a s' h⟩
theorem vF (d:Nat)(V:Tg d)(w:World)(br:Nat)(t:ByteArray)(s:St)(hE:Env w br)(hr:RdS w br t s (24-d))(ha:s.at'<=s.en)(hk:Jx s)(hen:s.en<=t.size)(hen1:1<=s.en)(ht:t.size<=4000) :
  Calls prog 173 #[.pointer (some ⟨br,0,none⟩)] w (Hj w br t (24-d) (d+1) (Lg (fun l=>(mkS (wt (d+1)) (Eo (Al (d+1)) l):Ag (AV (d+1)))) (Cy t.data.toList [125] (A8 t.data.toList d) s))):=by
 have q:=Aa hr;have j:Hid (Calls _ 263 #[_,_] _ _):=Vt d V (w.alloc (.cells #[.nilIface] 23)) br t ⟨#[125]⟩ s 125 [] rfl (hE.fr (Fr.grew ((Ac.refl w).alloc _))) (hr.of (P:=fun _=>True) (Fr.grew ((Ac.refl w).alloc _)) trivial) ha hk hen hen1 ht;have B:(⟨#[125]⟩:ByteArray).data.toList=[125]:=rfl;rw[B] at j;clear B hE hr V hk;generalize Cy _ [125] _ s=R at j |-;go_enter func173,ntmps173
 go_wp2_with (go_at_call 263;refine j.out.mono ?_)
 intro e i E;obtain⟨N,C,l,rfl,r,h,D,c⟩:=E.split;have o:=(r.block _ (by simp) (by omega)).trans (Af rfl);have u:=Aa o;have I:Hid _:=((Fr.refl _ w).alloc _).trans r;have J:Hid (gV i br t _ R C l):=c;have K:_+1<=_:=u;obtain⟨a,n,rfl,f,g,b,F⟩:=h;have A:Hid (Calls _ 211 #[_] i _):=J7 (d+1) (fun k=>w.heap.size<=k/\k≠w.heap.size) i a _ n l (by omega) f (b.narrow (fun k _ hk=>by simp at hk;omega)) (fun k hk=>⟨by omega,by omega⟩) F g.1;have z:Hid _:=o;clear E r c b f g F o j;go_wp2_with fail
 go_at_call 211
 refine A.out.mono ?_;rintro e G ⟨v,rfl,x,p⟩;have y:=Ac1 p z.out;have M:=Ab y 0;have Q:=Ad y 0;have m:Hid (Aj _ G (d+2) _ v):=x;have H:Hid (Below i.heap.size i G):=p;have O:=Ae (x.rep _ _ _).one;clear x p y A z;go_wp2_with fail
 have L:=World.cell?_setCell_same _ _ v M;refine Ae2 (v:=.tuple #[.agg #[v],C]) (by simp[results,results173,go_sem,L]) rfl ?_;exact Vu _ q I.out J.out H.out m.out (fun l=>qQ (d+1) _)
theorem aI (d:Nat)(V:Tg d)(w:World)(br:Nat)(t:ByteArray)(s:St)(hE:Env w br)(hr:RdS w br t s (24-d))(ha:s.at'<=s.en)(hk:Jx s)(hen:s.en<=t.size)(hen1:1<=s.en)(ht:t.size<=4000) :
  Calls prog 174 #[.pointer (some ⟨br,0,none⟩)] w (Hj w br t (24-d) (d+1) (Lg (fun l=>(mkF (wt (d+1)) (Aq d l.length) l:Ag (AV (d+1)))) (Cy t.data.toList [62,62] (A8 t.data.toList d) s))):=by
 have q:=Aa hr;have j:Hid (Calls _ 263 #[_,_] _ _):=Vt d V (w.alloc (.cells #[.nilIface] 23)) br t ⟨#[62,62]⟩ s 62 [62] rfl (hE.fr (Fr.grew ((Ac.refl w).alloc _))) (hr.of (P:=fun _=>True) (Fr.grew ((Ac.refl w).alloc _)) trivial) ha hk hen hen1 ht;have B:(⟨#[62,62]⟩:ByteArray).data.toList=[62,62]:=rfl;rw[B] at j;clear B hE hr V hk;generalize Cy _ [62,62] _ s=R at j |-;go_enter func174,ntmps174
 go_wp2_with (go_at_call 263;refine j.out.mono ?_)
 intro e i E;obtain⟨N,C,l,rfl,r,h,D,c⟩:=E.split;have o:=(r.block _ (by simp) (by omega)).trans (Af rfl);have u:=Aa o;have I:Hid _:=((Fr.refl _ w).alloc _).trans r;have J:Hid (gV i br t _ R C l):=c;have K:_+1<=_:=u;obtain⟨a,n,rfl,g,f,b,F⟩:=h;have A:Hid (Calls _ 236 #[_] i _):=E5 d (fun k=>w.heap.size<=k/\k≠w.heap.size) i a _ n l (by omega) (b.narrow (fun k _ hk=>by simp at hk;omega)) (fun k hk=>⟨by omega,by omega⟩) F ⟨f.2,f.1,g⟩;have z:Hid _:=o;clear E r c b g f F o j;go_wp2_with fail
 go_at_call 236
 refine A.out.mono ?_;rintro e G ⟨v,rfl,x,p⟩;have y:=Ac1 p z.out;have M:=Ab y 0;have Q:=Ad y 0;have m:Hid (Aj _ G (d+2) _ v):=x;have H:Hid (Below i.heap.size i G):=p;have O:=Ae (x.rep _ _ _).one;clear x p y A z;go_wp2_with fail
 have L:=World.cell?_setCell_same _ _ v M;refine Ae2 (v:=.tuple #[.agg #[v],C]) (by simp[results,results174,go_sem,L]) rfl ?_;exact Vu _ q I.out J.out H.out m.out (fun l=>gU (d+1) _ _)
theorem Yx (n:Nat)(w:World)(x:AV (n+1))(v:Value)(h:Rep w (n+1) x v):Calls prog 176 #[.agg #[v]] w fun e w'=>e=.returned (.bool (Gj (α:=AV n) x))/\Ac w w':=by
 have j:=Ae h.one;obtain⟨q,a⟩:∃q,Gj (α:=AV n) x=q:=⟨_,rfl⟩;rw[a];have c:(v=.nilIface/\q=true)\/(∃T u,v=.iface T u/\q=false):=by
  rw[<- a];rcases h with⟨rfl,rfl⟩|⟨b,rfl,rfl⟩|⟨i,rfl,rfl⟩|⟨b,rfl,rfl⟩|⟨b,rfl,rfl⟩|⟨f,b,rfl,rfl,_⟩|⟨g,k,b,d,rfl,rfl,_⟩
  ·exact .inl ⟨rfl,rfl⟩
  all_goals exact .inr ⟨_,_,rfl,rfl⟩
 clear h a;rcases c with⟨rfl,rfl⟩|⟨T,u,rfl,rfl⟩
 ·go_enter func176,ntmps176
  go_wp2_with fail
  go_ret
  exact⟨rfl,(Ac.refl w).alloc _⟩
 ·go_enter func176,ntmps176
  go_wp2_with fail
  go_ret
  exact⟨rfl,(Ac.refl w).alloc _⟩
theorem RdS.setOpen {w:World}{br:Nat}{t:ByteArray}{s:St}{op:Nat}(h:RdS w br t s op)(o:Nat):RdS (w.setCell ⟨br,4,none⟩ (.int .i64 (o:Int))) br t s o:=by
 have:=Ai h 4 (.int .i64 (o:Int));simpa [RdS,Ik] using this
theorem RdS.setHeavy {w:World}{br:Nat}{t:ByteArray}{s:St}{op:Nat}(h:RdS w br t s op)(b:Bool):RdS (w.setCell ⟨br,5,none⟩ (.bool b)) br t { s with hv:=b } op:=by
 have:=Ai h 5 (.bool b);simpa [RdS,Ik] using this
def Qb {n:Nat}(R:Except (Nat×Nat) (AV (n+1)×St)):Except (Nat×Nat) (AV (n+1)×St) :=
 match R with
 | .ok (x,s1)=>.ok (x,{ s1 with hv:=s1.hv||Gj (α:=AV n) x })
 | .error e=>.error e
def Aa0 (d:Nat):Prop:=∀(w:World)(br:Nat)(t:ByteArray)(s:St),Env w br->RdS w br t s (24-d)->s.at'<=s.en->Jx s->s.en<=t.size->1<=s.en->t.size<=4000 ->
 Calls prog 175 #[.pointer (some ⟨br,0,none⟩)] w (Hj w br t (24-d) (d+1) (Lg (fun l=>(mkP (wt (d+1)) (Dp (Al (d+1)) l):Ag (AV (d+1)))) (Cl t.data.toList [93] (Gg t.data.toList (A8 t.data.toList d)) (t.data.toList.length+1) s)))
def Yy (d:Nat)(R:Except (Nat×Nat) (AV (d+1)×St))(er:Value)(x:AV (d+1))(s':St):Prop :=
 (R=.ok (x,s')/\er=.nilIface)\/(∃c,R=.error (c,s'.at')/\er=.iface 61 (.int .i64 (c:Int)))
theorem Hj.split {d:Nat}{w w':World}{br:Nat}{t:ByteArray}{op:Nat}{R:Except (Nat×Nat) (AV (d+1)×St)}{e:Ending}(h:Hj w br t op d R e w') :
  ∃v er x s',e=.returned (.tuple #[.agg #[v],er])/\Fr (·≠br) w w'/\Aj (fun k=>w.heap.size<=k) w' (d+1) x v/\wt (d+1) x<=1024/\RdS w' br t s' op/\Yy d R er x s':=by
 obtain⟨v,er,b,f,a⟩:=h;cases R with
 | ok q=>obtain⟨x,s'⟩:=q;exact⟨v,er,x,s',b,f,a.2.1,a.2.2.1,a.2.2.2,.inl ⟨rfl,a.1⟩⟩
 | error q=>obtain⟨c,p⟩:=q;obtain⟨h1,⟨x,h2,h3⟩,s',rfl,h5⟩:=a;exact⟨v,er,x,s',b,f,h2,h3,h5,.inr ⟨c,rfl,h1⟩⟩
def yM (d k:Nat)(f:ByteArray->St->Except (Nat×Nat) (AV (d+2)×St)):Prop:=∀(w:World)(br:Nat)(t:ByteArray)(s:St),Env w br->RdS w br t s (24-d)->s.at'<=s.en->Jx s->s.en<=t.size->1<=s.en->t.size<=4000 ->
 Calls prog k #[.pointer (some ⟨br,0,none⟩)] w (Hj w br t (24-d) (d+1) (f t s))
theorem Qu {d:Nat}{w W:World}{br:Nat}{t:ByteArray}{o:Nat}{R:Except (Nat×Nat) (AV (d+1)×St)}{er v:Value}{x:AV (d+1)}{s':St}{h:Bool}(hbr:br<w.heap.size)(hf:Fr (·≠br) w W)
  (hx:Aj (fun k=>w.heap.size<=k/\k≠w.heap.size) W (d+1) x v) (hw:wt (d+1) x<=1024) (hT:Yy d R er x s') (hr:RdS W br t { s' with hv:=h } o) (hh:(s'.hv||Gj (α:=AV d) x)=h) (u:Value) :
  Hj w br t o d (Qb R) (.returned (.tuple #[.agg #[v],er])) (W.setCell ⟨w.heap.size,0,none⟩ u):=by
 have a:=RdS.setOther hr (p:=⟨w.heap.size,0,none⟩) (by simp;omega) u;refine⟨v,er,rfl,hf.setNew (Ad9 _) u,?_⟩;rcases hT with⟨rfl,rfl⟩|⟨c,rfl,rfl⟩
 ·subst hh;exact⟨rfl,hx.boxed (w:=w) u rfl,hw,a⟩
 ·exact⟨rfl,⟨x,hx.boxed (w:=w) u rfl,hw⟩,{ s' with hv:=h },rfl,a⟩
theorem Sa {F:Nat}{m:ByteArray}(hF:F=173/\m.data.toList=[123]\/F=174/\m.data.toList=[60,60]\/F=175/\m.data.toList=[91])(d:Nat)(hd:d<=23)(f:ByteArray->St->Except (Nat×Nat) (AV (d+2)×St))(V:yM d F f)(w:World)(br:Nat)(t:ByteArray)(s:St)(hE:Env w br)(hr:RdS w br t s (24-(d+1)))(hen:s.en<=t.size)(hen1:1<=s.en)(ht:t.size<=4000) :
  Calls prog 122 #[.pointer (some ⟨br,0,none⟩),.string m] w (Hj w br t (24-(d+1)) (d+1) (Qb (f t (Cb t.data.toList s)))):=by
 have J:=Aa hr;have hl:t.data.toList.length=t.size:=by simp
 obtain⟨o,ho⟩:∃o,o=24-(d+1):=⟨_,rfl⟩;have K:24-d=o+1:=by omega
 have a4:o<=23:=by omega
 rw[<- ho] at hr |-;have c:=ByteArray.toList_eq m;have I:=Ip t.data.toList s (by omega);have T:Hid (∀W:World,Env W br->RdS W br t (Cb t.data.toList s) (o+1)->Calls prog F #[.pointer (some ⟨br,0,none⟩)] W (Hj W br t (o+1) (d+1) (f t (Cb t.data.toList s)))):=by
  intro W e r;rw[<- K] at r |-;exact V W br t _ e r (by have:=I.1;omega) (Uo _ _) (by have:=I.2.1;omega) (by have:=I.2.2;have:=I.1;omega) ht
 have HA:Hid _:=fun(W:World) (h:_)=>Kj W br t s (o+1) h hen ht;generalize f t _=R at T |-;generalize Cb t.data.toList s=s1 at T HA;have x4:=Ab hr 4;have z4:=Ad hr 4;have H:RdS (w.setCell _ (.int .i64 ((o:Int)+1))) br t s (o+1):=hr.setOpen (o+1);have B:Hid (RdS ((w.setCell ⟨br,4,none⟩ (.int .i64 ((o:Int)+1))).alloc (.cells #[.nilIface] 23)) br t s (o+1)):=H.of (P:=fun _=>True) (Fr.grew ((Ac.refl _).alloc _)) trivial;have Y:Fr (·≠br) w ((w.setCell ⟨br,4,none⟩ (.int .i64 ((o:Int)+1))).alloc (.cells #[.nilIface] 23)):=((Fr.refl _ w).set (by simp) _).alloc _;have z:Hid (Env _ br):=hE.fr Y;have A:Hid _:=Y;have Q:Hid (((w.setCell ⟨br,4,none⟩ (.int .i64 ((o:Int)+1))).alloc (.cells #[.nilIface] 23)).heap[w.heap.size]?=_):=Af (by simp);have a5:((o:Int)==24)=false:=by simp;omega
 rcases hF with⟨rfl,q⟩|⟨rfl,q⟩|⟨rfl,q⟩
 all_goals
  try have h1:(m.toList==[123])=true:=by rw[c,q];rfl
  try have h1:(m.toList==[123])=false:=by rw[c,q];rfl
  try have h2:(m.toList==[60,60])=true:=by rw[c,q];rfl
  try have h2:(m.toList==[60,60])=false:=by rw[c,q];rfl
  try have h3:(m.toList==[91])=true:=by rw[c,q];rfl
  try have h3:(m.toList==[91])=false:=by rw[c,q];rfl
  clear hr hE I q c V H ho K hd Y;go_enter func122,ntmps122
  go_wp2_with fail
  generalize (w.setCell ⟨br,4,none⟩ (.int .i64 ((o:Int)+1))).alloc _=W1 at B z A Q |-;clear x4 z4;refine(HA.out W1 B.out).mono ?_;rintro e w3 ⟨rfl,L,n⟩;have E3:Hid (Env w3 br):=z.out.fr n;have R3:Hid (RdS w3 br t s1 (o+1)):=L;have F3:Hid _:=A.out.trans n;have H3:Hid _:=(n.block _ (Aa Q.out) (by omega)).trans Q.out;have a2:=Aa H3.out;clear z B L A n Q HA;go_wp2_with fail
  refine(T.out w3 E3.out R3.out).mono ?_;intro e a hp;obtain⟨v,er,x,y,rfl,p,hx,N,i,M⟩:=hp.split;have st:=Ae (hx.rep _ _ _).one;obtain⟨g,hg⟩:∃g,Gj (α:=AV (d+1)) x=g:=⟨_,rfl⟩;have l:=(p.block _ a2 (by omega)).trans H3.out;have a6:=p.size;have a3:br<a.heap.size:=Aa i;have x4:=Ab i 4;have x5:=Ab i 5;have z4:=Ad i 4;have z5:=Ad i 5;have y0:=Ab l 0;have y1:=Ad l 0;have R4:Hid (RdS a br t y (o+1)):=i;have X4:Hid (Aj _ a (d+2) x v):=hx;have Z:Hid _:=F3.out.trans p;have T4:Hid (Yy (d+1) R er x y):=M;clear hp p hx i M H3 R3 E3 F3 T;obtain⟨hv,C⟩:∃b,y.hv=b:=⟨_,rfl⟩;rw[C] at x5;have G:Hid (y.hv=hv):=C;have HG:Hid _:=hg;clear C hg;cases hv with
  | true =>
   have u:Fr (·≠br) a ((a.setCell ⟨br,4,none⟩ (.int .i64 (o:Int))).setCell ⟨br,5,none⟩ (.bool true)):=((Fr.refl _ a).set (by simp) _).set (by simp) _;have E:=(u.block _ (Aa l) (by omega)).trans l;have a0:=Ab E 0;have a1:=Ad E 0;have fB:=u.alloc (.cells #[v] 23);have kB:=(fB.block _ (Aa l) (by omega)).trans l;have b0:=Ab kB 0;have b1:=Ad kB 0;have RB:Hid (RdS ((((a.setCell ⟨br,4,none⟩ (.int .i64 (o:Int))).setCell ⟨br,5,none⟩ (.bool true))).alloc (.cells #[v] 23)) br t { y with hv:=true } o):=Ik.of ((R4.out.setOpen o).setHeavy true) (P:=fun _=>True) (Fr.grew ((Ac.refl _).alloc _)) trivial;have FB:Hid (Fr (·≠br) a _):=fB;clear u E kB fB l;have XB:Hid (Aj (fun k=>w.heap.size<=k/\k≠w.heap.size) _ (d+2) x v):=X4.out.fr (FB.out.mono fun k hk=>by omega) (fun k _ hk=>⟨by omega,by omega⟩) _ _ _;go_wp2_with fail
   have r0:=World.cell?_setCell_same _ _ v b0;refine Ae2 (v:=.tuple #[.agg #[v],er]) (by simp[results,results122,go_sem,r0]) rfl ?_;exact Qu J (Z.out.trans FB.out) XB.out N T4.out RB.out (by rw[G.out];rfl) v
  | false =>
   have u:Fr (·≠br) a ((a.setCell ⟨br,4,none⟩ (.int .i64 (o:Int))).alloc (.cells #[v] 23)):=((Fr.refl _ a).set (by simp) _).alloc _;have E:=(u.block _ (Aa l) (by omega)).trans l;have KA:Hid _:=E;have KB:Hid (((a.setCell ⟨br,4,none⟩ (.int .i64 (o:Int))).alloc (.cells #[v] 23)).heap[a.heap.size]?=_):=Af (by simp);have RA:Hid (RdS ((a.setCell ⟨br,4,none⟩ (.int .i64 (o:Int))).alloc (.cells #[v] 23)) br t y o):=Ik.of (R4.out.setOpen o) (P:=fun _=>True) (Fr.grew ((Ac.refl _).alloc _)) trivial;have xA:=X4.out.fr (u.mono fun k hk=>by omega) (fun k _ hk=>hk) _ _ _;have S:Hid (Calls _ 176 #[_] _ _):=Yx (d+1) _ x v (xA.rep _ _ _);have XA:Hid (Aj _ _ (d+2) x v):=xA;have FA:Hid _:=Z.out.trans u;rw[HG.out] at S;clear u E l xA X4 Z R4;go_wp2_with fail
   generalize (a.setCell ⟨br,4,none⟩ (.int .i64 (o:Int))).alloc _=W6 at KA KB RA S XA FA |-;refine S.out.mono ?_;rintro e D ⟨rfl,j⟩;have f7:Fr (·≠br) W6 D:=Fr.grew j;have X:RdS D br t y o:=RA.out.of (P:=fun _=>True) (Fr.grew j) trivial;have O:=Ac1 j.below KA.out;have U:=Ac1 j.below KB.out;have a0:=Ab O 0;have a1:=Ad O 0;have b0:=Ab U 0;have b5:=Ad X 5;have c5:=Ab X 5;have n0:w.heap.size≠br:=by omega
   have n1:a.heap.size≠br:=by omega
   have F7:Hid (Fr _ w (D.setCell ⟨br,5,none⟩ (.bool g))):=(FA.out.trans f7).set (by simp) _;have X7:Hid (Aj (fun k=>w.heap.size<=k/\k≠w.heap.size) (D.setCell ⟨br,5,none⟩ (.bool g)) (d+2) x v):=XA.out.fr ((Fr.set f7 (by simp) _).mono fun k hk=>by omega) (fun k _ hk=>⟨by omega,by omega⟩) _ _ _;have R7:Hid (RdS _ br t { y with hv:=g } o):=X.setHeavy g;have f8:Fr (·≠br) D (D.setCell ⟨br,5,none⟩ (.bool g)):=(Fr.refl _ D).set (by simp) _;have k8:=(f8.block _ (Aa O) n0).trans O;have d0:=Ab k8 0;have d1:=Ad k8 0;have j8:=(f8.block _ (Aa U) n1).trans U;have e0:=Ab j8 0;clear O U X f7 j KA KB RA S XA FA x4 z4 x5 z5 y0 y1 f8 k8 j8;go_wp2_with fail
   have r0:=World.cell?_setCell_same _ _ v d0;refine Ae2 (v:=.tuple #[.agg #[v],er]) (by simp[results,results122,go_sem,r0]) rfl ?_;exact Qu J F7.out X7.out N T4.out R7.out (by rw[G.out,HG.out];rfl) v
end Go.Proofs.YtdpeliifdlhhkaaGreatDoor.Sx
