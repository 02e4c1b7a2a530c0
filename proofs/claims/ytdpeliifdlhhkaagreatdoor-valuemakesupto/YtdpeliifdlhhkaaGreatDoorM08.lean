/- Equal neighbours are struck from a row of pairs. -/
import Derived.Test.YtdpeliifdlhhkaaGreatDoorM06
import Derived.Lib.SliceRun
import Derived.Test.YtdpeliifdlhhkaaGreatDoorM05
import Derived.Test.YtdpeliifdlhhkaaGreatDoorM07
import Derived.Deep.Cut
import Derived.Deep.CutRange
import Derived.Lib.AtoiErrMem
namespace Go.Proofs.YtdpeliifdlhhkaaGreatDoor.Sx
open Go.RowKit Go.Sort Tryz
set_option maxRecDepth 100000
set_option maxHeartbeats 4000000
/-- a row of pairs, as a list -/
def Jt {n γ:Nat}{W0:World}(w:World)(g len:Nat)(l:List (PH n γ W0)):Prop :=
 g<w.heap.size/\l.length=len/\∀(i:Nat)(x:PH n γ W0),l[i]?=some x->w.cell? ⟨g,i*2,none⟩=some x.k.v/\w.cell? ⟨g,i*2+1,none⟩=some x.u.v/\w.frozen? ⟨g,i*2,none⟩=false/\w.frozen? ⟨g,i*2+1,none⟩=false
section
variable {n g:Nat} {W0:World}
theorem Cf.list [Inhabited (PH n g W0)]{w:World}{d:Array (PH n g W0)}(h:Cf w g d):Jt w g d.size d.toList:=by
 refine⟨h.1,by simp,fun i x hx=>?_⟩;have a:=by simpa using(List.getElem?_eq_some_iff.1 hx).1
 have:=h.2 i a;rw[getElem!_pos d i a] at this;simp only[Array.getElem?_toList] at hx;rw[Array.getElem?_eq_getElem a] at hx;simp only[Option.some.injEq] at hx;rw[<- hx];exact this
theorem Jt.fr {w w':World}{len:Nat}{l:List (PH n g W0)}(h:Jt w g len l){P:Nat->Prop}(f:Fr P w w')(hg:P g):Jt w' g len l:=by
 have d:=f.block g h.1 hg;refine⟨Ad8 h.1 f.size,h.2.1,fun i x hx=>?_⟩;obtain⟨a,b,c,e⟩:=h.2.2 i x hx;exact⟨(World.cell?_of_block (w:=w) d).trans a,(World.cell?_of_block (w:=w) d).trans b,(World.frozen?_of_block (w:=w) d).trans c,(World.frozen?_of_block (w:=w) d).trans e⟩
theorem Jt.set {w:World}{len:Nat}{l:List (PH n g W0)}(h:Jt w g len l)(j:Nat)(hj:j<len)(x:PH n g W0):Jt ((w.setCell ⟨g,j*2,none⟩ x.k.v).setCell ⟨g,j*2+1,none⟩ x.u.v) g len (l.set j x):=by
 have d:∀(w:World)(o j:Nat)(v:Value),j≠o->(w.setCell ⟨g,o,none⟩ v).cell? _=w.cell? ⟨g,j,none⟩:=fun w o j v q=>World.cell?_setCell_other _ _ _ _ (fun e=>q (congrArg Addr.off e).symm);obtain⟨y,f⟩:∃y,l[j]?=some y:=⟨_,List.getElem?_eq_getElem (by rw[h.2.1];exact hj)⟩;obtain⟨a,b,c,e⟩:=h.2.2 j y f;refine⟨by simpa using h.1,by simpa using h.2.1,fun t z hz=>?_⟩;by_cases q:t=j
 ·subst q;rw[List.getElem?_set_self (by rw[h.2.1];exact hj)] at hz;simp only[Option.some.injEq] at hz;subst hz;exact⟨by rw[d _ _ _ _ (by omega),World.cell?_setCell_same _ _ _ a],by rw[World.cell?_setCell_same _ _ _ ((d _ _ _ _ (by omega)).trans b)],by simpa using c,by simpa using e⟩
 ·rw[List.getElem?_set_ne (Ne.symm q)] at hz;obtain⟨a,b,c,e⟩:=h.2.2 t z hz;exact⟨by rw[d _ _ _ _ (by omega),d _ _ _ _ (by omega),a],by rw[d _ _ _ _ (by omega),d _ _ _ _ (by omega),b],by simpa using c,by simpa using e⟩
theorem Jt.grown {w:World}{len:Nat}{l:List (PH n g W0)}(h:Jt w g len l){i:Nat}{x:PH n g W0}(hx:l[i]?=some x) :
  (∀q os,(grow (w.drewN q) os).cell? ⟨g,i*2,none⟩=some x.k.v)/\(∀q os,(grow (w.drewN q) os).cell? ⟨g,i*2+1,none⟩=some x.u.v):=by
 obtain⟨a,b,_,_⟩:=h.2.2 i x hx;exact⟨cell_grown h.1 a,cell_grown h.1 b⟩
theorem gY (W:World)(a b:PH n g W0)(hW:Fr (·≠g) W0 W):Calls prog 305 #[.agg #[a.k.v,a.u.v],.agg #[b.k.v,b.u.v]] W fun e w'=>e=.returned (.bool (cP a b==0))/\Ac W w' :=
 mW n W a.k.x b.k.x a.k.v b.k.v a.u.v b.u.v ((a.k.h.keep hW).rep _ _ _) ((b.k.h.keep hW).rep _ _ _) a.u.one b.u.one
end
theorem cX (w:World)(ty:TypeId)(b o n c:Nat)(hn:0<n)(hc:∀j,j<n*2->(w.cell? ⟨b,o+j,none⟩).isSome=true)(hf:∀j,j<n*2->w.frozen? ⟨b,o+j,none⟩=false) :
  (Builtin.clear_ #[270] ty #[.slice (some ⟨b,o,none⟩) n c]).run prog w=.ok (.tuple #[]) (w.setCells b o (List.replicate (n*2) .nilIface)):=by
 have d:(Builtin.zeroCells (Value.agg #[Value.nilIface,Value.nilIface]).cells n).toList=List.replicate (n*2) .nilIface:=by
  simp only[Value.cells,Builtin.zeroCells];apply List.ext_getElem
  ·simp
  ·intro i e f;simp only[List.getElem_replicate];rcases Nat.mod_two_eq_zero_or_one i with q|q<;>simp[q]
 have a:=run_storeCells_cells (P:=prog) b o (List.replicate (n*2) .nilIface) 0 w (by simpa using hc) (by simpa using hf) (by intro v hv;rw[List.eq_of_mem_replicate hv];rfl);simp only[Nat.add_zero] at a;obtain⟨m,rfl⟩:∃m,n=m+1:=⟨n-1,by omega⟩;simp[Builtin.clear_,run_underlying underlying270,d,a]
theorem aJ (n g:Nat)(W0 w:World)(len cap:Nat)(hs:List (PH n g W0))(hW:Fr (·≠g) W0 w)(hlen:hs.length=len)(hl:len<=4294967296)(hcap:len<=cap)(hrow:Jt w g len hs) :
  Calls prog 304 #[.slice (some ⟨g,0,none⟩) len cap,.func (.func 305) #[] #[]] w fun e w'=>∃rs:List (PH n g W0),rs=D6 (fun a b=>cP a b==0) hs/\e=.returned (.slice (some ⟨g,0,none⟩) rs.length cap) /\
   (∀(i:Nat)(r:PH n g W0),rs[i]?=some r->w'.cell? ⟨g,i*2,none⟩=some r.k.v/\w'.cell? ⟨g,i*2+1,none⟩=some r.u.v)/\Fr (·≠g) w w':=by
 by_cases h2:len<2
 ·have M:Hid (D6 (fun a b:_=>cP a b==0) hs=hs):=by
   show _=_
   match hs,hlen with
   | [],_=>rfl
   | [x],_=>rfl
   | x::y::l,hlen=>simp at hlen;omega
  have HC:Hid (∀(i:Nat)(r:_),hs[i]?=some r->_=_/\_=_):=fun i r hr=>⟨(hrow.2.2 i r hr).1,(hrow.2.2 i r hr).2.1⟩;clear hrow hW;go_enter func304,ntmps304
  go_wp2_with fail
  go_ret
  exact⟨hs,M.out.symm,by rw[hlen];rfl,HC.out,Fr.refl _ _⟩
 ·have mo:=follows;have HM:Hid (Jt w g len hs):=hrow;have HW:Hid (Fr (·≠g) W0 w):=hW;have HS:Hid _:=fun(a b:PH n g W0) (W:World) (hF:_) =>
   gY W a b (HW.out.trans hF)
  clear hrow hW;obtain⟨E,hE⟩:∃E:PH n g W0->PH n g W0->Bool,E=fun a b=>cP a b==0:=⟨_,rfl⟩;have HE:Hid (∀(a b:_)(W:World),Fr (·≠g) w W->Calls prog 305 #[.agg #[a.k.v,a.u.v],.agg #[b.k.v,b.u.v]] W fun e w'=>e=.returned (.bool (E a b))/\Ac W w'):=by rw[hE];exact HS.out
  clear HS;rw[<- hE];clear hE HW;have st:∀a:PH n g W0,_/\∀(ad:Addr)(m:Mode)(w:World),_=_:=fun a=>⟨Ae a.k.one,Ae a.u.one⟩;have ST:Hid _:=st;clear st;go_enter func304,ntmps304
  go_wp2_with fail
  go_loopw [5] (fun i wr=>∃j:Nat,j+1<=len/\i=.int .i64 ((j:Int)+1)/\Hid (Ac w wr)/\Hid (∀p,hs[j]?=some p->D6 E hs=hs.take (j+1)++goC E p (hs.drop (j+1)))) (fun i _=>len-(intOf i).toNat)
  case atStart=>exact⟨0,by omega,rfl,Ac.refl w,fun p hp=>Tf E hp⟩
  case round =>
   obtain⟨j,hj,rfl,N,G⟩:=hrel;by_cases b4:j+1<len
   ·obtain⟨p,hp⟩:∃p,hs[j]?=some p:=⟨_,List.getElem?_eq_getElem (by omega)⟩;obtain⟨x,hx⟩:∃x,hs[j+1]?=some x:=⟨_,List.getElem?_eq_getElem (by omega)⟩;have c:=G.out p hp;rw[Qo E hx] at c;have I:=HM.out.fr (P:=fun _=>True) (Fr.grew N.out) trivial;obtain⟨V,D⟩:=I.grown hp;obtain⟨O,A⟩:=I.grown hx;have HX:Hid (hs[j+1]?=some x):=hx;have a8:Hid (hs[j]?=some p):=hp;have h:Hid _:=HE.out x p;have f:Hid (D6 E hs=_):=c;have o:Hid (Jt wr g len _):=I;clear hp hx c I G;have b5:(j:Int)+1<(len:Int):=by omega
    generalize hb:E x p=b at h f;have a0:Hid (E x p=b):=hb;clear hb;obtain⟨Y,F⟩:∃q,q=j+1:=⟨_,rfl⟩;obtain⟨jN,H⟩:∃q,q=j:=⟨_,rfl⟩;have ea:((j:Int)+1).toNat=Y:=by omega
    have pa:(0:Int)<=(j:Int)+1:=by omega
    have ra:IntKind.i64.wrap ((j:Int)+1)=(j:Int)+1:=by rw[IntKind.wrap_i64];omega
    have ec:((j:Int)).toNat=jN:=by omega
    have pc:(0:Int)<=(j:Int):=by omega
    have bc:(j:Int)<(len:Int):=by omega
    have rc:IntKind.i64.wrap ((j:Int))=(j:Int):=by rw[IntKind.wrap_i64];omega
    rw[<- F] at O A;rw[<- H] at V D;clear F H;go_wp2_with fail
    go_quiet_grown (first|(go_at_call 305;refine Ae3 (h.out _ (Fr.grew (N.out.grown _ _)))))
    clear ea pa ra ec pc bc rc;have G1:Hid (Ac w (grow (wr.drewN nq) osq)):=N.out.grown _ _;have K:Hid (Jt _ g len _):=o.out.fr (P:=fun _=>True) (Fr.grew ⟨nq,osq,rfl⟩) trivial;clear V O D A N o;generalize grow _ osq=W1 at G1 K |-;clear nq osq;cases b with
    | false =>
     go_wp2_with fail
     go_roundw
     case rel =>
      refine⟨j+1,by omega,by go_num,G1,fun q hq=>?_⟩;have C:=HX.out;rw[C] at hq;simp only[Option.some.injEq] at hq;subst hq;have:=f.out;simp only[Bool.false_eq_true,if_false] at this;rw[this,List.take_add_one (i:=j+1),C];simp
     case measure=>simp[intOf];omega
    | true =>
     have a1:Hid (D6 E hs=hs.take (j+1)++goC E x (hs.drop (j+1+1))):=by have:=f.out;show _=_;simpa using this
     clear f h;go_wp2_with fail
     generalize b0:len-(j+1)=L2;generalize cap-(j+1)=C2;clear a0;go_loopw [5,7] (fun s5 s7 wr=>∃(d t:Nat)(s:List (PH n g W0)),s5=.int .i64 d/\s7=.int .i64 ((t:Int)+1)/\t+1<=L2/\d<=j+1+t/\s.length=len/\Hid (Jt wr g len s)/\Hid (∀q,j+1+t<=q->s[q]?=hs[q]?) /\
      Hid (∀p,hs[j+1+t]?=some p->D6 E hs=s.take d++goC E p (hs.drop (j+1+t+1)))/\Hid (Fr (·≠g) w wr)) (fun _ s7 _=>L2-(intOf s7).toNat)
     case atStart =>
      refine⟨j+1,0,hs,by go_num,rfl,by omega,by omega,hlen,K,fun q _=>rfl,fun q hq=>?_,Fr.grew G1.out⟩;have C:=HX.out;rw[Nat.add_zero] at hq;rw[C] at hq;simp only[Option.some.injEq] at hq;subst hq;exact a1.out
     case round =>
      obtain⟨d,t,s,rfl,rfl,ht,b2,X,o,HY,G,M⟩:=hrel;have a4:=o.out.1;by_cases a6:t+1<L2
      ·obtain⟨Z,B⟩:∃p,hs[j+1+t]?=some p:=⟨_,List.getElem?_eq_getElem (by omega)⟩;obtain⟨u,hu⟩:∃u,hs[j+1+t+1]?=some u:=⟨_,List.getElem?_eq_getElem (by omega)⟩;have c:=G.out Z B;rw[Qo E hu] at c;obtain⟨V,D⟩:=o.out.grown ((HY.out _ (Ad9 _)).trans B);obtain⟨O,A⟩:=o.out.grown ((HY.out _ (by omega)).trans hu);obtain⟨yk,L⟩:∃y,s[d]?=some y:=⟨_,List.getElem?_eq_getElem (by omega)⟩;obtain⟨Y,F⟩:∃q,q=t+1:=⟨_,rfl⟩;obtain⟨jN,H⟩:∃q,q=t:=⟨_,rfl⟩;have ea:((t:Int)+1).toNat=Y:=by omega
       have pa:(0:Int)<=(t:Int)+1:=by omega
       have ba:(t:Int)+1<(L2:Int):=by omega
       have ra:IntKind.i64.wrap ((t:Int)+1)=(t:Int)+1:=by rw[IntKind.wrap_i64];omega
       have ec:((t:Int)).toNat=jN:=by omega
       have pc:(0:Int)<=(t:Int):=by omega
       have bc:(t:Int)<(L2:Int):=by omega
       have rc:IntKind.i64.wrap ((t:Int))=(t:Int):=by rw[IntKind.wrap_i64];omega
       rw[show(j+1+t+1)*2=(j+1)*2+Y*2 from by omega] at O A;rw[show(j+1+t)*2=(j+1)*2+jN*2 from by omega] at V D;have a7:Hid (Y=t+1):=F;have HU:Hid (hs[j+1+t+1]?=some u):=hu;have h:Hid _:=HE.out u Z;have f:Hid (D6 E hs=_):=c;clear F H B hu c G;generalize hb:E u Z=b at h f;clear hb;go_wp2_with fail
       go_quiet_grown (first|(go_at_call 305;refine Ae3 (h.out _ (M.out.trans (Fr.grew ⟨_,_,rfl⟩)))))
       have C:=O nq osq;have U:=A nq osq;clear V O D A;have F1:Hid _:=M.out.trans (Fr.grew ⟨nq,osq,rfl⟩);have K:Hid (Jt _ g len _):=o.out.fr (P:=fun _=>True) (Fr.grew ⟨nq,osq,rfl⟩) trivial;clear o M a4;generalize grow _ osq=W2 at F1 K C U |-;clear nq osq;obtain⟨a2,S,a3,T⟩:=K.out.2.2 d yk L;have a9:Hid (s[d]?=some yk):=L;clear L;cases b with
       | true =>
        have J:Hid (D6 E hs=s.take d++goC E u (hs.drop (j+1+t+1+1))):=by have:=f.out;show _=_;simpa using this
        clear f h a2 a3 S T C U;go_wp2_with fail
        go_roundw
        case rel =>
         refine⟨d,t+1,s,rfl,by go_num,by omega,by omega,X,K,fun q hq=>HY.out q (by omega),fun q hq=>?_,F1⟩;have C:=HU.out;rw[show j+1+(t+1)=j+1+t+1 from by omega] at hq |-;rw[C] at hq;simp only[Option.some.injEq] at hq;subst hq;exact J.out
        case measure=>simp[intOf];omega
       | false =>
        have J:Hid (D6 E hs=s.take d++u::goC E u (hs.drop (j+1+t+1+1))):=by have:=f.out;show _=_;simpa using this
        obtain⟨su,b6⟩:=ST.out u;clear f h;go_wp2_with fail
        go_roundw
        case rel =>
         refine⟨d+1,t+1,s.set d u,by go_num,by go_num,by omega,by omega,by simpa using X,?_,fun q hq=>?_,fun q hq=>?_,?_⟩
         ·show Jt _ _ _ _;exact K.out.set d (by omega) u
         ·rw[List.getElem?_set_ne (by omega)];exact HY.out q (by omega)
         ·have C:=HU.out;rw[show j+1+(t+1)=j+1+t+1 from by omega] at hq |-;rw[C] at hq;simp only[Option.some.injEq] at hq;subst hq;rw[J.out,List.take_add_one,List.getElem?_set_self (by omega),List.take_set_of_le (Nat.le_refl _)];simp
         ·exact(F1.out.set (by simp) _).set (by simp) _
        case measure=>simp[intOf];omega
      ·obtain⟨Z,B⟩:∃p,hs[j+1+t]?=some p:=⟨_,List.getElem?_eq_getElem (by omega)⟩;have c:=G.out Z B;rw[List.drop_of_length_le (by omega)] at c;have HR:Hid (D6 E hs=s.take d):=by show _=_;rw[c];simp[goC]
       have b3:(d:Int)<(len:Int):=by omega
       have b1:=fun ty=>cX wr ty g _ (len-d) (cap-d) (by omega) (fun q hq=>by
        obtain⟨z,hz⟩:∃z,s[d+q / 2]?=some z:=⟨_,List.getElem?_eq_getElem (by omega)⟩;obtain⟨Q,R,_,_⟩:=o.out.2.2 _ z hz;rcases Nat.mod_two_eq_zero_or_one q with r|r
        ·rw[show d*2+q=(d+q / 2)*2 from by omega,Q];rfl
        ·rw[show d*2+q=(d+q / 2)*2+1 from by omega,R];rfl) (fun q hq=>by
        obtain⟨z,hz⟩:∃z,s[d+q / 2]?=some z:=⟨_,List.getElem?_eq_getElem (by omega)⟩;obtain⟨_,_,Q,R⟩:=o.out.2.2 _ z hz;rcases Nat.mod_two_eq_zero_or_one q with r|r
        ·rw[show d*2+q=(d+q / 2)*2 from by omega,Q]
        ·rw[show d*2+q=(d+q / 2)*2+1 from by omega,R])
       clear c G B HE HM ST;go_wp2_with fail
       go_ret
       refine⟨_,HR.out.symm,by rw[List.length_take,show min d s.length=d from by omega];rfl,fun i r hr=>?_,Fr.setCells (by simp) _ _ M.out⟩;have a5:i<d:=by have:=(List.getElem?_eq_some_iff.1 hr).1;rw[List.length_take] at this;omega
       rw[List.getElem?_take,if_pos a5] at hr;obtain⟨Q,R,_,_⟩:=o.out.2.2 i r hr;exact⟨by rw[Je _ _ _ _ (by omega),Q],by rw[Je _ _ _ _ (by omega),R]⟩
   ·obtain⟨p,hp⟩:∃p,hs[j]?=some p:=⟨_,List.getElem?_eq_getElem (by omega)⟩;have c:=G.out p hp;rw[List.drop_of_length_le (by omega),List.take_of_length_le (by omega)] at c;have HR:Hid (D6 E hs=hs):=by show _=_;rw[c];simp[goC]
    have o:=HM.out.fr (P:=fun _=>True) (Fr.grew N.out) trivial;have o:Hid (Jt wr g len _):=o;clear c G hp HE HM ST;go_wp2_with fail
    go_ret
    refine⟨hs,HR.out.symm,by rw[hlen];rfl,fun i r hr=>?_,Fr.grew N.out⟩;exact⟨(o.out.2.2 i r hr).1,(o.out.2.2 i r hr).2.1⟩
theorem xU:(prog.info? 273).map (fun i=>(i.zero,i.size,i.bytes))=some (some (.agg #[.nilIface,.nilIface]),2,32):=by kernel_rfl
def LPx (n:Nat)(w:World)(bl base:Nat)(es:List (AV n×AV n))(sl:Value)(vs:List Value):Prop :=
 w.heap[bl]?=some (.cells #[sl] 270 (0,0))/\w.ownsRow base 273 2 sl es.length vs/\(∀(i:Nat)(p:AV n×AV n),es[i]?=some p->∃v u,vs[i*2]?=some v/\vs[i*2+1]?=some u/\Aj (fun k=>base<=k/\sl.ownBlock≠some k) w n p.1 v/\Aj (fun k=>base<=k/\sl.ownBlock≠some k) w n p.2 u)/\(∀p∈es,wt n p.1<=1024/\wt n p.2<=1024)/\(sl=.slice none 0 0\/0<es.length)
def LP (n:Nat)(w:World)(bl base:Nat)(es:List (AV n×AV n)):Prop:=∃(sl:Value)(vs:List Value),LPx n w bl base es sl vs
theorem cY {w w':World}{base:Nat}{sl:Value}{n:Nat}{vs:List Value}(h:w.ownsRow base 273 2 sl n vs)(hb:∀g,sl.ownBlock=some g->base<=g->g<w.heap.size->w'.heap[g]?=w.heap[g]?):w'.ownsRow base 273 2 sl n vs:=by
 refine⟨h.1,?_⟩;rcases h.2 with f|⟨g,a,b,e,c,d,r⟩
 ·exact .inl f
 ·exact .inr ⟨g,a,b,e,c,(hb g (by rw[e];rfl) c (Aa d)).trans d,r⟩
theorem aK {w:World}{base:Nat}{sl:Value}{n g:Nat}{vs:List Value}(h:w.ownsRow base 273 2 sl n vs)(hg:sl.ownBlock=some g):base<=g/\g<w.heap.size:=by
 rcases h.2 with⟨rfl,_⟩|⟨e,a,b,rfl,c,d,_⟩
 ·simp[Value.ownBlock] at hg
 ·simp[Value.ownBlock] at hg;subst hg;exact⟨c,Aa d⟩
theorem LPx.fr {n:Nat}{w w':World}{bl base br:Nat}{es:List (AV n×AV n)}{sl:Value}{vs:List Value}(h:LPx n w bl base es sl vs)(f:Fr (·≠br) w w')(hbr:br<base)(hbl:bl≠br):LPx n w' bl base es sl vs:=by
 obtain⟨a,b,c,d,e⟩:=h;refine⟨(f.block bl (Aa a) hbl).trans a,cY b (fun g _ hg hlt=>f.block g hlt (by omega)),fun i p hp=>?_,d,e⟩;obtain⟨v,u,o,m,j,l⟩:=c i p hp;exact⟨v,u,o,m,j.keep (f.mono fun k hk=>by have:=hk.1;omega),l.keep (f.mono fun k hk=>by have:=hk.1;omega)⟩
theorem LP.push {n:Nat}{w w1 w2:World}{bl base g cap:Nat}{es:List (AV n×AV n)}{sl u0:Value}{vs:List Value}{x y:AV n}{v u:Value}
  (h2:w1.ownsRow base 273 2 sl es.length vs) (h3:∀(i:Nat)(p:AV n×AV n),es[i]?=some p->∃v u,vs[i*2]?=some v/\vs[i*2+1]?=some u/\Aj (fun k=>base<=k/\sl.ownBlock≠some k) w1 n p.1 v/\Aj (fun k=>base<=k/\sl.ownBlock≠some k) w1 n p.2 u) (h4:∀p∈es,wt n p.1<=1024/\wt n p.2<=1024)
  (hx:Aj (fun k=>w.heap.size<=k) w1 n x v) (hy:Aj (fun k=>w.heap.size<=k) w1 n y u) (hw:wt n x<=1024/\wt n y<=1024) (hbase:base<=w.heap.size) (hsl:∀q,sl.ownBlock=some q->q<w.heap.size)
  (ho:w2.ownsRow base 273 2 (.slice (some ⟨g,0,none⟩) (es.length+1) cap) (es.length+1) (vs++[v,u])) (hg:w1.grownBy w2 sl.ownBlock) (hat:sl.ownBlock=some g\/w1.heap.size<=g)
  (hbl:bl<base) (hb:w2.heap[bl]?=some (.cells #[u0] 270 (0,0))) :
  LP n (w2.setCell ⟨bl,0,none⟩ (.slice (some ⟨g,0,none⟩) (es.length+1) cap)) bl base (es++[(x,y)]):=by
 have f:base<=g:=(aK ho (by rfl)).1;have a:∀(z:AV n)(q:Value),Aj (fun k=>base<=k/\sl.ownBlock≠some k) w1 n z q->Aj (fun k=>base<=k/\(Value.slice (some ⟨g,0,none⟩) (es.length+1) cap).ownBlock≠some k) (w2.setCell ⟨bl,0,none⟩ (.slice (some ⟨g,0,none⟩) (es.length+1) cap)) n z q:=by
  intro z q r;have d:Fr (fun k=>base<=k/\_≠some k) w1 w2:=(Fr.refl _ w1).grown hg (fun k _ e hp=>hp.2 e);refine r.fr (d.set (by simp;omega) _) (fun k hk hp=>⟨hp.1,fun e=>?_⟩) n z q;simp only[Value.ownBlock,Option.some.injEq] at e;subst e;rcases hat with q|q
  ·exact hp.2 q
  ·omega
 have b:vs.length=es.length*2:=h2.1;refine⟨_,vs++[v,u],Ai hb 0 _,?_,fun i p hp=>?_,fun p hp=>?_,.inr (by simp)⟩
 ·rw[List.length_append];exact cY ho (fun q hq hbq _=>by rw[Below.heap_setCell _ _ _ _ (by simp;omega)])
 ·by_cases h:i<es.length
  ·rw[List.getElem?_append_left h] at hp;obtain⟨t,s,o,m,j,l⟩:=h3 i p hp;exact⟨t,s,by rw[List.getElem?_append_left (by omega)];exact o,by rw[List.getElem?_append_left (by omega)];exact m,a _ _ j,a _ _ l⟩
  ·have c:i=es.length:=by
    have:=(List.getElem?_eq_some_iff.1 hp).1;simp at this;omega
   subst c;rw[List.getElem?_append_right (Nat.le_refl _)] at hp;simp at hp;subst hp;refine⟨v,u,by rw[List.getElem?_append_right (by omega)];simp[b],by rw[List.getElem?_append_right (by omega),b,show es.length*2+1-es.length*2=1 from by omega];rfl,?_,?_⟩
   ·exact a x v (hx.fr (Fr.refl _ w1) (fun k _ hk=>⟨by omega,fun e=>by have:=hsl k e;omega⟩) n x v)
   ·exact a y u (hy.fr (Fr.refl _ w1) (fun k _ hk=>⟨by omega,fun e=>by have:=hsl k e;omega⟩) n y u)
 ·rcases List.mem_append.1 hp with q|q
  ·exact h4 p q
  ·simp at q;subst q;exact hw
def qW (w:World)(br bl base:Nat)(t:ByteArray)(op d:Nat)(es:List (AV (d+1)×AV (d+1)))(R:Except (Nat×Nat) ((AV (d+1)×AV (d+1))×St))(e:Ending)(w':World):Prop :=
 ∃er,e=.returned er/\Fr (fun k=>k<base/\k≠br/\k≠bl) w w' /\
  match R with
  | .ok (p,s')=>er=.nilIface/\LP (d+1) w' bl base (es++[p])/\RdS w' br t s' op
  | .error (c,q)=>er=.iface 61 (.int .i64 (c:Int))/\(∃es',LP (d+1) w' bl base es'/\es'.length<=es.length+1)/\∃s':St,s'.at'=q/\RdS w' br t s' op
def xV {α:Type}(x:α)(R:Except (Nat×Nat) (α×St)):Except (Nat×Nat) ((α×α)×St) :=
 match R with
 | .error e=>.error e
 | .ok (y,s2)=>.ok ((x,y),s2)
theorem qX (d:Nat)(V:Tg d)(w:World)(br bR bl base:Nat)(t:ByteArray)(s:St)(es:List (AV (d+1)×AV (d+1)))(hE:Env w br)(hr:RdS w br t s (24-d))(ha:s.at'<=s.en)(hk:Jx s)(hen:s.en<=t.size)(ht:t.size<=4000)
  (hR:w.heap[bR]?=some (.cells #[.pointer (some ⟨br,0,none⟩)] 108 (0,0))) (hL:LP (d+1) w bl base es) (h1:br<base) (h3:bl<base) (h4:base<=w.heap.size) (n1:br≠bl) (n2:br≠bR) (hlen:es.length<=5000) :
  Calls prog 265 #[.pointer (some ⟨bR,0,none⟩),.pointer (some ⟨bl,0,none⟩)] w (qW w br bl base t (24-d) d es (Gg t.data.toList (A8 t.data.toList d) s)):=by
 have hl:t.data.toList.length=t.size:=by simp
 have HV:Hid (Calls _ _ _ _ _):=V w br t s hE hr ha hk hen ht;have c9:Hid _:=fun W s' e r a k b=>V W br t s' e r a k b ht;have c7:Hid _:=fun(W:World) (s:St) (m:_) h1 h2 h3=>Vo W br t s (24-d) m h1 h2 h3 ht;have HG:Hid (Kk _ (A8 t.data.toList d)):=Jj _ d;have k0:=Ab hR 0;have b1:Hid (w.heap[bR]?=_):=hR;have c5:Hid (Env w br):=hE;obtain⟨i0,hi,d5,d6,d7⟩:=info_parts xU;have HL:Hid (LP (d+1) w bl base es):=hL;clear hE hr hR hL V hk;obtain⟨Z,U⟩:∃Z,Gg t.data.toList (A8 t.data.toList d) s=Z:=⟨_,rfl⟩;rw[U];have S:Hid _:=U;clear U;have f:=HG.out s;generalize L:A8 _ d s=R at HV f;have A:Hid _:=L;clear L;go_enter func265,ntmps265
 go_wp2_with fail
 refine HV.out.mono ?_;intro e l hp;obtain⟨v,er,x,rfl,hf,hx,hw,X,hm⟩:=Qa hp;clear hp HV;have st:=Ae (hx.rep _ _ _).one;have d8:br<l.heap.size:=by have:=hf.size;omega
 have e0:=hf.size;have M:Hid (Fr _ w (l.alloc (.cells #[v] 23))):=hf.alloc _;have XA:Hid (Aj _ (l.alloc (.cells #[v] 23)) (d+1) x v):=hx.keep (Fr.grew ((Ac.refl l).alloc _));have BA:Hid ((l.alloc (.cells #[v] 23)).heap[l.heap.size]?=_):=Af rfl;have RA:Hid _:=(M.out.block _ (Aa b1.out) (Ne.symm n2)).trans b1.out;have c0:=Ab RA.out 0;cases R with
 | error q =>
  obtain⟨c,p⟩:=q;obtain⟨rfl,s',c3,E⟩:=hm;have HZ:Hid (∃s':St,s'.at'=p/\RdS (l.alloc (.cells #[v] 23)) br t s' _):=⟨s',c3,E.of (P:=fun _=>True) (Fr.grew ((Ac.refl l).alloc _)) trivial⟩;have O:Hid (∃es',LP (d+1) (l.alloc (.cells #[v] 23)) bl base es'/\es'.length<=es.length+1):=by
   obtain⟨G,Y,i⟩:=HL.out;exact⟨es,⟨G,Y,i.fr M.out h1 (Ne.symm n1)⟩,by omega⟩
  have HQ:Hid (Z=.error (c,p)):=by show _=_;rw[<- S.out];unfold Gg;rw[A.out]
  clear c3 E hf hx X f;go_wp2_with fail
  go_ret
  rw[HQ.out];exact⟨_,rfl,M.out.mono (fun k hk=>hk.2.1),rfl,O.out,HZ.out⟩
 | ok q =>
  obtain⟨x',F⟩:=q;obtain⟨rfl,rfl,E⟩:=hm;obtain⟨g1,g2,g3⟩:=f x F (by omega) rfl;have b7:=Ip t.data.toList F g2;have RD:Hid (RdS (l.alloc (.cells #[v] 23)) br t F _):=E.of (P:=fun _=>True) (Fr.grew ((Ac.refl l).alloc _)) trivial;have EA:Hid (Env _ br):=c5.out.fr M.out;have o:Hid (Calls _ 266 #[_,_] _ _):=c7.out _ F ⟨#[58]⟩ RD.out g1 (by omega);have b5:(⟨#[58]⟩:ByteArray).data.toList=[58]:=rfl;rw[b5] at o;clear hf hx E f b5 X;generalize hB:isP _ F [58]=B at o;have a0:Hid _:=hB;clear hB;go_wp2_with fail
  clear c0;generalize b6:l.alloc _=WA at M XA BA RA RD EA o |-;have d9:l.heap.size+1<=WA.heap.size:=by rw[<- b6];simp
  clear b6;refine o.out.mono ?_;rintro e w2 ⟨rfl,I,h⟩;have F2:Hid _:=M.out.trans h;have X2:Hid (Aj _ w2 (d+1) x v):=XA.out.keep (h.mono fun k hk=>by omega);have B2:Hid _:=(h.block _ (Aa BA.out) (by omega)).trans BA.out;have R2:Hid _:=(h.block _ (Aa RA.out) (Ne.symm n2)).trans RA.out;have E2:Hid (Env w2 br):=EA.out.fr h;have d0:=Ab R2.out 0;have e4:=h.size;clear h M XA BA RA RD EA o;cases B with
  | false =>
   have d1:Hid (RdS w2 br t F (24-d)):=I;have O:Hid (∃es',LP (d+1) w2 bl base es'/\es'.length<=es.length+1):=by
    obtain⟨G,Y,i⟩:=HL.out;exact⟨es,⟨G,Y,i.fr F2.out h1 (Ne.symm n1)⟩,by omega⟩
   have HQ:Hid (Z=.error (1,F.at')):=by show _=_;rw[<- S.out];unfold Gg;rw[A.out];simp only;rw[a0.out];rfl
   clear I;go_wp2_with fail
   go_ret
   rw[HQ.out];exact⟨_,rfl,F2.out.mono (fun k hk=>hk.2.1),rfl,O.out,F,rfl,d1.out⟩
  | true =>
   obtain⟨a1,a2,a3⟩:=b7;have T:Hid (Calls _ 63 #[_] w2 _):=c9.out w2 (Cb _ F) E2.out I a1 (Uo _ _) (by omega);have hj:Z=xV x (A8 t.data.toList d (Cb t.data.toList F)):=by
    rw[<- S.out];unfold Gg;rw[A.out];simp only;rw[a0.out];rfl
   generalize A8 _ d _=R2v at T hj;have a9:Hid (Z=xV x R2v):=hj;clear hj;clear I;go_wp2_with fail
   refine T.out.mono ?_;intro e n hp;obtain⟨u,er,y,rfl,C,hy,d4,X,hm⟩:=Qa hp;clear hp T;have e6:=Ae (hy.rep _ _ _).one;have e5:=C.size;obtain⟨G,Y,i⟩:=HL.out;have c4:∀q,_=some q->q<_:=fun q hq=>(aK i.2.1 hq).2;have F3:=F2.out.trans C;obtain⟨l1,l2,l3,l4,l5⟩:=i.fr F3 h1 (Ne.symm n1);have x3:=X2.out.keep (C.mono fun k hk=>by omega);have y3:Aj (fun k=>w.heap.size<=k) n (d+1) y u:=hy.fr (Fr.refl _ n) (fun k _ hk=>by omega) _ _ _;have B3:=(C.block _ (Aa B2.out) (by omega)).trans B2.out;have b0:=Ab B3 0;have c1:=Ab l1 0;have c2:=Ad l1 0;have b9:=Aa l1;have cc:=(x3.rep _ _ _).one;have cd:=(y3.rep _ _ _).one;have J:Hid (((n.alloc (.cells #[u] 23)).alloc (.cells #[v,u] 273)).ownsRow base 273 2 G _ Y):=(l2.alloc _).alloc _;have d3:l.heap.size<n.heap.size:=by omega
   have a4:Hid (n.heap[bl]?=_):=l1;have b2:Hid (Aj _ n (d+1) x v):=x3;have b3:Hid (Aj _ n (d+1) y u):=y3;have HT:Hid (Th n br t _ R2v er y):=hm;have a5:Hid (Fr (·≠br) w n):=F3;have N:Hid (n.ownsRow base 273 2 G _ Y):=l2;have a6:Hid _:=l3;have a7:Hid (∀p∈es,_):=l4;clear l1 l2 l3 l4 l5 x3 y3 hm F3 C i HL hy B3 X2 F2 B2 R2 E2 d0;go_wp2_with (at_builtin;refine wpList_append_lies _ rfl _ _ 270 rfl base 273 i0 _ 2 32 underlying270 hi d5 d6 d7 rfl (by decide) G _ Y rfl J.out _ 1 1 [v,u] rfl rfl ?q1 ?q2 (by decide) ?q3 ?q4 ?q5 (n.heap.size+2) ?q6 ?_)
   case q1 =>
    intro j q hj
    match j,hj with
    | 0,hj =>
     simp at hj;subst hj;simp[Addr.add]
    | 1,hj =>
     simp at hj;subst hj;simp[Addr.add]
   case q2 =>
    intro q hq;simp only[List.mem_cons,List.not_mem_nil,or_false] at hq;rcases hq with rfl|rfl
    ·exact cc
    ·exact cd
   case q3=>unfold maxLen;omega
   case q4=>omega
   case q5=>simp;omega
   case q6=>simp
   intro g b4 w4 ho hg b8 d2;have D:n.grownBy w4 G.ownBlock:=by
    have a1:=World.grownBy_alloc n (.cells #[u] 23) G.ownBlock;have a2:=World.grownBy_alloc (n.alloc (.cells #[u] 23)) (.cells #[v,u] 273) G.ownBlock;refine⟨hg.os,hg.tape,hg.output,?_,fun k hk hne=>?_⟩
    ·have:=hg.size;simp at this;omega
    ·rw[hg.block k (by simp;omega) hne,a2.block k (by simp;omega) hne,a1.block k hk hne]
   have nb:∀k,k<base->some k≠_:=fun k hk e=>by have:=(aK N.out e.symm).1;omega
   have H:=(D.block bl b9 (nb bl h3)).trans a4.out;have f1:=Ab H 0;have f2:=Ad H 0;have K:=D.block br (by omega) (nb br h1);have a8:Hid (LP (d+1) _ bl base _) :=
    LP.push N.out a6.out a7.out b2.out b3.out ⟨hw,d4⟩ h4 c4 ho D (b8.imp id fun e=>by omega) h3 H
   have c8:Hid (Th (w4.setCell ⟨bl,0,none⟩ (.slice (some ⟨g,0,none⟩) (es.length+1) b4)) br t _ R2v er y):=HT.out.keep ((Below.heap_setCell _ _ _ _ n1).trans K);have c6:Hid (Fr _ w (w4.setCell ⟨bl,0,none⟩ (.slice (some ⟨g,0,none⟩) (es.length+1) b4))) :=
    ((a5.out.mono (Q:=fun k=>k<base/\k≠br/\k≠bl) fun k hk=>hk.2.1).grown D (fun k _ e hp=>nb k hp.1 e.symm)).set (by simp) _
   clear ho hg b8 d2 D nb H K N a6 a7 b2 b3 HT a5 a4 J;go_wp2_with fail
   go_ret
   refine⟨er,rfl,c6.out,?_⟩;have hT:=c8.out;rw[a9.out];cases R2v with
   | ok q =>
    obtain⟨z,s'⟩:=q;obtain⟨e1,rfl,e3⟩:=hT;exact⟨e1,a8.out,e3⟩
   | error q =>
    obtain⟨c,p⟩:=q;obtain⟨e1,s',e2,e3⟩:=hT;exact⟨e1,⟨es++[(x,y)],a8.out,by simp⟩,s',e2,e3⟩
section
attribute [local go_sem] Na Nb Jq Jr Fy Fz Ga Gb Ln Nc I6 I7 Fe Ff Fg Fh Hr Hs Gc Gd Ea Eb Ec Ed Ht Hu Ge Gf Ee Ef Eg Eh Gw Hv Fj Fk Dq Dr Ds Dt Gx Hw Fl Fm Du Dv Dw Dx
def xyP {n γ:Nat}{W:World}(a:PH n γ W):AV n×AV n:=(a.k.x,a.u.x)
theorem cZ {n γ:Nat}{W:World}(a:PH n γ W):∀l:List (PH n γ W),(Ny cP a l).map xyP=insP (Al n) (xyP a) (l.map xyP)
 | []=>rfl
 | b::l=>by
  have ih:=cZ a l;simp only[Ny,insP,List.map_cons];show(if Al n a.k.x b.k.x<0 then a::b::l else if Al n a.k.x b.k.x=0 then a::l else b::Ny cP a l).map xyP=if Al n a.k.x b.k.x<0 then _ else if Al n a.k.x b.k.x=0 then _ else _;split
  ·rfl
  ·split
   ·rfl
   ·simp[ih]
theorem mY {n γ:Nat}{W:World}(l:List (PH n γ W)):(Ie cP l).map xyP=Dp (Al n) (l.map xyP):=by
 induction l with
 | nil=>rfl
 | cons a l ih =>
  show(Ny cP a (Ie cP l)).map xyP=insP (Al n) (xyP a) (Dp (Al n) (l.map xyP));rw[cZ,ih]
theorem Yz {α:Type}{c:α->α->Int}(l:List α)(z:α)(h:z∈Ie c l):z∈l:=by
 induction l with
 | nil=>simp[Ie] at h
 | cons x l ih =>
  rcases Nz x (Ie c l) z h with q|q
  ·simp[q]
  ·exact List.mem_cons_of_mem _ (ih q)
theorem Jt.arr {n g:Nat}{W0 w:World}[Inhabited (PH n g W0)]{len:Nat}{l:List (PH n g W0)}(h:Jt w g len l):Cf w g l.toArray:=by
 refine⟨h.1,fun i hi=>?_⟩;have a:i<l.length:=by simpa using hi
 rw[getElem!_pos l.toArray i hi];exact h.2.2 i _ (by simp)
theorem dA {α:Type}[Inhabited α]{c:α->α->Int}{d:Array α}(h:Srt c d 0 d.size):d.toList.Pairwise fun a b=>c a b<=0:=by
 rw[List.pairwise_iff_getElem];intro i j g f e;have:=h i j (Ae1 _) e (by simpa using f);rw[getElem!_pos d i (by simpa using g),getElem!_pos d j (by simpa using f)] at this;simpa using this
theorem dB (n g:Nat)(W0 w:World)(len cap:Nat)(hs:List (PH n g W0))(hpos:0<len)(hW:Fr (·≠g) W0 w)(hrow:Jt w g len hs)(hl:len<=4294967296) :
  Calls prog 302 #[.slice (some ⟨g,0,none⟩) len cap,.func (.func 303) #[] #[]] w fun e w'=>e=.returned (.tuple #[])/\∃rs:List (PH n g W0),Jt w' g len rs/\D6 (fun a b=>cP a b==0) rs=Ie cP hs/\Fr (·≠g) w w':=by
 have c:=hrow.2.1;obtain⟨l,k⟩:∃x,hs[0]?=some x:=⟨_,List.getElem?_eq_getElem (by omega)⟩;let inst:Inhabited (PH n g W0):=⟨l⟩
 refine(Vv w len cap hs.toArray hW (by simpa using c) hrow.arr hl).mono ?_;rintro e w' ⟨rfl,m,d,h,j,i⟩;have f:=d.size.trans (by simpa using c);refine⟨rfl,_,by rw[<- f];exact j.list,?_,i⟩;exact gQ (N2 n g W0) hs _ d.cls (dA (by rw[f];exact h))
theorem N3 (n:Nat)(P:Nat->Prop)(w:World)(g len cap:Nat)(hs:List (PH n g w))(hP1:∀a∈hs,Aj P w n a.k.x a.k.v/\Aj P w n a.u.x a.u.v)(hrow:Jt w g len hs)(hpos:0<len)(hl:len<=1048577)(hcap:len<=cap)(hPg:¬P g)(hP:∀k,w.heap.size<=k->P k)(hw:∀a∈hs,wt n a.k.x<=1024/\wt n a.u.x<=1024) :
  Calls prog 267 #[.slice (some ⟨g,0,none⟩) len cap] w fun e w'=>∃v,e=.returned (.agg #[v])/\Aj P w' (n+1) (mkP (wt n) (Dp (Al n) (hs.map xyP))) v/\Fr (·≠g) w w':=by
 have d4:=hrow.1;have b3:Hid (Jt (w.alloc (.cells #[.nilIface] 23)) g len hs):=hrow.fr (P:=fun _=>True) (Fr.grew ((Ac.refl w).alloc _)) trivial;have HS:Hid (Calls _ 302 #[_,_] _ _):=dB n g w _ len cap hs hpos (Fr.grew ((Ac.refl w).alloc _)) b3.out (by omega);have b2:Hid _:=mY hs;have z:Hid (∀a∈Ie cP hs,_/\_<=1024/\_<=1024):=fun a ha=>⟨hP1 a (Yz hs a ha),hw a (Yz hs a ha)⟩;rw[<- b2.out];have d3:Hid (¬P g):=hPg;have HP:Hid _:=hP;clear hrow hP1 hw b2 hPg hP;obtain⟨i0,hi,a6,a7,a8⟩:=info_parts Gn;have mo:=follows;go_enter func267,ntmps267
 go_wp2_with fail
 refine HS.out.mono ?_;rintro x w2 ⟨rfl,rs,K,a4,a2⟩;have F2:=((Fr.refl _ w).alloc _).trans a2;have HK:Hid (Calls _ 304 #[_,_] w2 _):=aJ n g w w2 len cap rs F2 K.2.1 (by omega) hcap K;have X2:Hid _:=(a2.block _ (by simp) (by omega)).trans (Af rfl);have a9:Hid (Fr (·≠g) w w2):=F2;have a5:=by have:=Ym (fun a b=>cP a b==0) rs;rw[K.2.1] at this;exact this
 rw[a4] at a5;have b1:Hid _:=a4;clear K a4 a2 F2 b3;go_wp2_with fail
 refine HK.out.mono ?_;rintro x p ⟨f,E,rfl,b6,a3⟩;obtain rfl:f=Ie cP hs:=E.trans b1.out;have X3:Hid _:=(a3.block _ (Aa X2.out) (by omega)).trans X2.out;have S:Hid _:=a9.out.trans a3;have G3:=Ad8 d4 S.out.size;have C3:Hid _:=b6;clear E b1 b6 a3 X2 a9 HS HK;generalize E:Ie cP hs=f at z a5 C3 |-;have b0:Hid (Ie cP hs=f):=E;clear E;generalize hL:f.length=L at a5 |-;have HL:Hid (f.length=L):=hL;clear hL;go_upto_region 3 with fail
 go_cut [3,4] from 13 (fun s3 s4 wx=>∃l m,s3=.slice (some ⟨l,0,none⟩) L L/\s4=.slice (some ⟨m,0,none⟩) L L/\p.heap.size<=l/\p.heap.size<=m/\l≠m/\Hid (∃s,Gp wx l L s)/\Hid (∃H,Gp wx m L H)/\Hid (Below p.heap.size p wx))
 case first =>
  obtain⟨wa,ra,oa,ga⟩:=run_make_full p.drew p.heap.size 47 23 i0 _ 1 underlying47 hi a6 a7 .i64 .i64 L (by rw[a8];omega) (by unfold maxLen;omega) (by simp);obtain⟨wb,rb,ob,gb⟩:=run_make_full wa _ 47 23 i0 _ 1 underlying47 hi a6 a7 .i64 .i64 L (by rw[a8];omega) (by unfold maxLen;omega) (by have:=ga.size;simpa using this);have oc:∀(W:World)(b:Nat)(xs:_),W.ownsRow p.heap.size 23 1 (.slice (some ⟨b,0,none⟩) L L) L xs->∃s,Gp W b L s:=by
   intro W b xs ho;refine⟨xs,?_,by have:=ho.1;omega,fun i hi=>⟨?_,ho.frozenAt i⟩⟩
   ·rcases ho.2 with⟨h',_⟩|⟨g',d9,e4,h',_,B,_⟩
    ·simp at h'
    ·simp at h';obtain⟨rfl,_⟩:=h';exact Aa B
   ·have e8:xs.length=L:=by have:=ho.1;omega
    rw[ho.cellAt i (by omega),List.getElem?_eq_getElem (by omega)];simp[List.getD,show i<xs.length by omega]
  have ma:∃s,Gp wb p.heap.size L s:=by
   obtain⟨s,hv⟩:=oc wa _ _ oa;exact⟨s,hv.fr (P:=fun k=>k<_) ((Fr.refl _ wa).grown gb (fun k _ e=>by simp at e)) hv.1⟩
  have mb:=oc wb _ _ ob;have f0:p.heap.size<wa.heap.size:=by obtain⟨s,hv⟩:=oc wa _ _ oa;exact hv.1
  have b5:Below p.heap.size p wb:=((Below.refl _ p).drew.grown ga (by simp) (fun k hk=>by simp at hk)).grown gb (by omega) (fun k hk=>by simp at hk);have N:Hid _:=ma;have MB:Hid _:=mb;have BB:Hid (Below p.heap.size p wb):=b5;clear oc ma mb b5 oa ob ga gb;go_region
  ·clear ra rb;go_wp2_with fail
   go_meet
   exact⟨_,_,rfl,rfl,Ad9 _,by omega,by omega,N,MB,BB⟩
  ·clear ra rb;go_wp2_with fail
   go_meet
   exact⟨_,_,rfl,rfl,by omega,Ad9 _,by omega,MB,N,BB⟩
 case rest =>
  obtain⟨l,m,rfl,rfl,e5,e6,b9,V,X,y⟩:=hcut;generalize wc=w4 at V X y |-;obtain⟨d1,c4⟩:=V.out;obtain⟨d0,c3⟩:=X.out;have M0:Hid (Gp w4 l L d1):=c4;have N0:Hid (Gp w4 m L d0):=c3;have f1:=y.out.size;clear c4 c3 V X hi a6 a7 a8;go_wp2_with fail
  go_loopw [21,5,6] (fun i _ _ wr=>∃(k:Nat)(s H:List Value),k<=L/\i=.int .i64 k/\Hid (Gp wr l L s)/\Hid (Gp wr m L H)/\Hid (∀(j:Nat)(r:PH n g w),j<k->f[j]?=some r->s[j]?=some r.k.v/\H[j]?=some r.u.v)/\Hid (Fr (fun q=>q≠l/\q≠m) w4 wr)) (fun i _ _ _=>L-(intOf i).toNat)
  case atStart=>exact⟨0,d1,d0,Ae1 _,rfl,M0,N0,fun j r q=>by omega,Fr.refl _ _⟩
  case round =>
   clear M0 N0;obtain⟨k,s,H,hk,rfl,U,Y,HQ,M⟩:=hrel;by_cases C:k<L
   ·obtain⟨r,F⟩:∃r,f[k]?=some r:=⟨_,List.getElem?_eq_getElem (by have:=HL.out;omega)⟩;have b7:g<w4.heap.size:=by omega
    have x0:=(M.out.block g b7 ⟨by omega,by omega⟩).trans (y.out.block g G3);obtain⟨c1,c2⟩:=C3.out k r F;have e1:=(World.cell?_of_block (w:=p) (a:=⟨g,k*2,none⟩) x0).trans c1;have e2:=(World.cell?_of_block (w:=p) (a:=⟨g,k*2+1,none⟩) x0).trans c2;have s1:=Ae r.k.one;have s2:=Ae r.u.one;have e7:=Ad8 b7 M.out.size;have b4:Hid (f[k]?=some r):=F;have f2:l<wr.heap.size:=U.out.1;have f6:m<wr.heap.size:=Y.out.1;clear x0 c1 c2 F;go_upto_region 7 with fail
    have o:(wr.alloc (.cells #[r.k.v,r.u.v] 273)).heap[wr.heap.size]?=_:=Af rfl;have N:Gp (wr.alloc (.cells #[r.k.v,r.u.v] 273)) l L s:=U.out.fr (P:=fun _=>True) (Fr.grew ((Ac.refl wr).alloc _)) trivial;have NA:Gp (wr.alloc (.cells #[r.k.v,r.u.v] 273)) m L H:=Y.out.fr (P:=fun _=>True) (Fr.grew ((Ac.refl wr).alloc _)) trivial;have FA:Hid (Fr _ w4 (wr.alloc (.cells #[r.k.v,r.u.v] 273))):=M.out.alloc _;have bx:wr.heap.size≠l/\wr.heap.size≠m:=⟨by omega,by omega⟩;generalize wr.alloc _=Wb at o N NA FA |-;generalize wr.heap.size=bb at o bx |-;obtain⟨e0,e3⟩:=bx;obtain⟨q0,q1⟩:=Lf o;obtain⟨m1,m2⟩:=N.2.2 k C;obtain⟨n1,n2⟩:=NA.2.2 k C;have d7:=Ab ((Fr.refl (fun _=>True) Wb).drew.block _ (Aa o) trivial |>.trans o) 0;have d8:=Ab ((Fr.refl (fun _=>True) Wb).drew.block _ (Aa o) trivial |>.trans o) 1;obtain⟨c7,d5⟩:=(N.fr (P:=fun _=>True) ((Fr.refl _ Wb).drew) trivial).2.2 k C;obtain⟨c8,d6⟩:=(NA.fr (P:=fun _=>True) ((Fr.refl _ Wb).drew) trivial).2.2 k C;have M1:Hid (Gp ((Wb.setCell ⟨l,k,none⟩ r.k.v).setCell ⟨m,k,none⟩ r.u.v).drew l L _) :=
     ((N.set k C r.k.v).fr (P:=fun q=>q≠m) ((Fr.refl _ _).set (by simp) _) b9).fr (P:=fun _=>True) ((Fr.refl _ _).drew) trivial
    have N1:Hid (Gp ((Wb.setCell ⟨l,k,none⟩ r.k.v).setCell ⟨m,k,none⟩ r.u.v).drew m L _) :=
     ((NA.fr (P:=fun q=>q≠l) ((Fr.refl _ _).set (by simp) _) (Ne.symm b9)).set k C r.u.v).fr (P:=fun _=>True) ((Fr.refl _ _).drew) trivial
    have F1:Hid (Fr _ w4 ((Wb.setCell ⟨l,k,none⟩ r.k.v).setCell ⟨m,k,none⟩ r.u.v).drew):=((FA.out.set (by simp) _).set (by simp) _).drew;have Q1:Hid (∀(j:Nat)(r':_),j<k+1->f[j]?=some r'->(s.set k r.k.v)[j]?=some r'.k.v/\(H.set k r.u.v)[j]?=some r'.u.v):=by
     intro j r' hj J;have l1:=U.out.2.1;have l2:=Y.out.2.1;by_cases e:j=k
     ·subst e;rw[b4.out] at J;simp only[Option.some.injEq] at J;subst J;exact⟨by rw[List.getElem?_set_self (by omega)],by rw[List.getElem?_set_self (by omega)]⟩
     ·rw[List.getElem?_set_ne (Ne.symm e),List.getElem?_set_ne (Ne.symm e)];exact HQ.out j r' (by omega) J
    clear o N NA FA U Y M HQ b4;generalize s.set k r.k.v=vs' at M1 Q1;generalize H.set k r.u.v=us' at N1 Q1;generalize s.getD k .nilIface=ov at m1 c7;generalize H.getD k .nilIface=ou at n1 c8;go_big_region_o
    clear m1 m2 n1 n2 q0 q1 c7 d5 c8 d6 d7 d8 s1 s2;generalize ((Wb.setCell ⟨l,k,none⟩ r.k.v).setCell ⟨m,k,none⟩ r.u.v).drew=W1 at M1 N1 F1 |-;go_wp2_with fail
    go_roundw
    case rel=>exact⟨k+1,vs',us',by omega,by go_num,M1,N1,Q1,F1⟩
    case measure=>simp[intOf];omega
   ·obtain rfl:k=L:=by omega
    have b8:=HL.out;have c0:=Aa X3.out;have e9:=M.out.size;have A:Fr (fun q=>q≠g/\q<p.heap.size) w wr:=by
     have f3:=S.out;have f4:=y.out;have f5:=M.out;exact⟨f5.os.trans (f4.os.trans f3.os),f5.tape.trans (f4.tape.trans f3.tape),f5.output.trans (f4.output.trans f3.output),by have:=f3.size;omega,fun q hq hp=>(f5.block q (by omega) ⟨by omega,by omega⟩).trans ((f4.block q hp.2).trans (f3.block q hq hp.1))⟩
    have c9:∀q,P q->q≠g:=fun q hq e=>d3.out (by rw[<- e];exact hq);have fP:Fr P w wr:=⟨A.os,A.tape,A.output,A.size,fun q hq hp=>A.block q hq ⟨c9 q hp,by have:=S.out.size;omega⟩⟩;have G:∀(x:AV n)(v:Value),Aj P w n x v->Aj (fun q=>P q/\q≠w.heap.size) wr n x v:=fun x v h=>h.fr fP (fun q hq hp=>⟨hp,by omega⟩) n x v;have Q:Bv (fun q=>P q/\q≠w.heap.size) wr (Aj (fun q=>P q/\q≠w.heap.size) wr n) (some ⟨l,0,none⟩) k (f.map fun a=>a.k.x):=by
     refine⟨by simp[b8],by omega,.inr ⟨l,0,rfl,U.out.1,⟨HP.out l (by have:=S.out.size;omega),by omega⟩,fun i x hix=>?_⟩⟩;rw[List.getElem?_map] at hix;obtain⟨r,F,rfl⟩:=Option.map_eq_some_iff.1 hix;have D:i<k:=by have:=(List.getElem?_eq_some_iff.1 F).1;omega
     refine⟨r.k.v,?_,G _ _ (z.out r (Ae4 F)).1.1⟩;rw[Nat.zero_add,(U.out.2.2 i D).1];simp[List.getD,(HQ.out i r D F).1]
    have R:Bv (fun q=>P q/\q≠w.heap.size) wr (Aj (fun q=>P q/\q≠w.heap.size) wr n) (some ⟨m,0,none⟩) k (f.map fun a=>a.u.x):=by
     refine⟨by simp[b8],by omega,.inr ⟨m,0,rfl,Y.out.1,⟨HP.out m (by have:=S.out.size;omega),by omega⟩,fun i x hix=>?_⟩⟩;rw[List.getElem?_map] at hix;obtain⟨r,F,rfl⟩:=Option.map_eq_some_iff.1 hix;have D:i<k:=by have:=(List.getElem?_eq_some_iff.1 F).1;omega
     refine⟨r.u.v,?_,G _ _ (z.out r (Ae4 F)).1.2⟩;rw[Nat.zero_add,(Y.out.2.2 i D).1];simp[List.getD,(HQ.out i r D F).2]
    have a1:∀q,wr.heap.size<=q->P q/\q≠w.heap.size:=fun q hq=>⟨HP.out q (by have:=A.size;omega),by have:=A.size;omega⟩;have c5:∀x∈f.map (fun a=>a.k.x),wt n x<=1024:=fun x hx=>by
     obtain⟨a,ha,rfl⟩:=List.mem_map.1 hx;exact(z.out a ha).2.1
    have c6:∀x∈f.map (fun a=>a.u.x),wt n x<=1024:=fun x hx=>by
     obtain⟨a,ha,rfl⟩:=List.mem_map.1 hx;exact(z.out a ha).2.2
    have a0:Hid (Calls _ 220 #[_] wr _):=Dh n _ wr _ k k _ Q a1 c5 (by simp;omega);have T:Hid (∀(W:World)(d:Nat),Ac wr W->_->1+_<=1024->_):=fun W d hW hd hle =>
     E4 n _ W d _ k k (f.map fun a=>a.k.x) _ hd (R.keepB hW.below) (fun q hq=>a1 q (Ae0 hW.below.size hq)) hle c6 (by simp) ⟨Ad9 _,by simp,.inr ⟨_,_,rfl⟩⟩
    have hX:=(M.out.block _ (by omega) ⟨by omega,by omega⟩).trans ((y.out.block _ c0).trans X3.out);have X5:Hid _:=hX;have FW:Hid (Fr _ w wr):=⟨A.os,A.tape,A.output,A.size,fun q hq hp=>A.block q hq ⟨hp,by have:=S.out.size;omega⟩⟩;have e1:(f.map xyP).map Prod.fst=f.map fun a=>a.k.x:=by simp[xyP]
    have e2:(f.map xyP).map Prod.snd=f.map fun a=>a.u.x:=by simp[xyP]
    have I:Hid (mkP (wt n) (f.map xyP)=if 1+wtL (wt n) (f.map fun a=>a.k.x)<=1024 then mkF (wt n) (f.map fun a=>a.k.x) (f.map fun a=>a.u.x) else Ar):=by
     show _=_;unfold mkP;rw[e1,e2]
    clear Q R G fP A c9 a1 c5 c6 hX e1 e2 U Y HQ M y C3 z S X3;generalize (f.map _)=ks at a0 T I;generalize (f.map _)=H at T I;by_cases hle:1+wtL (wt n) ks<=1024
    ·have HK:Hid (mkS (wt n) ks=Bt ks):=by show _=_;unfold mkS;rw[if_pos hle]
     have Z:Hid (mkP (wt n) (f.map xyP)=mkF (wt n) ks H):=by show _=_;rw[I.out,if_pos hle]
     go_wp2_with (go_at_call 220;refine a0.out.mono ?_;rintro e w5 ⟨v,rfl,c,B⟩;rw[HK.out] at c;obtain⟨b,rfl,O⟩:=c.set_inv;have ff:=fun W=>Lo (.iface 121 (.pointer (some ⟨b,0,none⟩))) W rfl;have HX:Hid _:=Ac1 B.below X5.out;have HG:Hid (Ac wr w5):=B;have HR:Hid (Dy _ w5 _ _ b _):=O;clear B c O)
     refine(T.out w5 b HG.out HR.out hle).mono ?_;rintro e w6 ⟨v,rfl,c,B⟩;have t:=Ac1 B.below HX.out;have x0:=Ab t 0;have x1:=Ad t 0;have st:=Ae (c.rep _ _ _).one;have HV:Hid (Aj _ w6 (n+1) _ v):=c;have d2:Hid _:=FW.out.trans ((Fr.grew HG.out).trans (Fr.grew B));clear B c t;go_wp2_with fail
     have r0:=World.cell?_setCell_same _ _ v x0;refine Ae2 (v:=.agg #[v]) (by simp[results,results267,go_sem,r0]) rfl ⟨_,rfl,?_,d2.out.setNew (Ad9 _) _⟩;rw[b0.out,Z.out];exact HV.out.boxed (w:=w) v rfl
    ·have HK:Hid (mkS (wt n) ks=Ar):=by show _=_;unfold mkS;rw[if_neg hle]
     have Z:Hid (mkP (wt n) (f.map xyP)=Ar):=by show _=_;rw[I.out,if_neg hle]
     go_wp2_with (go_at_call 220;refine a0.out.mono ?_;rintro e w5 ⟨v,rfl,c,B⟩;rw[HK.out] at c;obtain rfl:=c.nil_inv;have ff:=fun W=>Lo .nilIface W rfl;have t:=Ac1 B.below X5.out;have x0:=Ab t 0;have x1:=Ad t 0;have HG:Hid (Ac wr w5):=B;clear B c t)
     have r0:=World.cell?_setCell_same _ _ .nilIface x0;refine Ae2 (v:=.agg #[.nilIface]) (by simp[results,results267,go_sem,r0]) rfl ⟨_,rfl,?_,(FW.out.trans (Fr.grew HG.out)).setNew (Ad9 _) _⟩;rw[b0.out,Z.out];exact .inl ⟨rfl,rfl⟩
end
section
attribute [local go_sem] Na Nb Jq Jr Fy Fz Ga Gb Ln Nc I6 I7 Fe Ff Fg Fh Hr Hs Gc Gd Ea Eb Ec Ed Ht Hu Ge Gf Ee Ef Eg Eh Gw Hv Fj Fk Dq Dr Ds Dt Gx Hw Fl Fm Du Dv Dw Dx
theorem vI (fv:Value)(w:World):Calls prog 340 #[.slice none 0 0,.int .i64 0,.int .i64 0,fv] w fun e w'=>e=.returned (.tuple #[])/\w'=w:=by
 go_enter func340,ntmps340
 go_wp2_with fail
 go_loopw [8] (fun i wr=>i=.int .i64 1/\Hid (wr=w)) (fun _ _=>0)
 case atStart=>exact⟨rfl,rfl⟩
 case round =>
  obtain⟨rfl,a⟩:=hrel;go_wp2_with fail
  go_end0
  exact⟨rfl,a.out⟩
theorem gZ (fv:Value)(w:World):Calls prog 324 #[.slice none 0 0,.int .i64 0,fv] w fun e w'=>e=.returned (.tuple #[])/\w'=w:=by
 have b:Hid _:=fun W=>vI fv W;go_enter func324,ntmps324
 go_wp2_with fail
 go_loopw [7,8] (fun s t wr=>s=.int .i64 0/\t=.int .i64 20/\Hid (wr=w)) (fun _ _ _=>0)
 case atStart=>exact⟨rfl,rfl,rfl⟩
 case round =>
  obtain⟨rfl,rfl,a⟩:=hrel;go_wp2_with (go_at_call 340;refine(b.out _).mono ?_;rintro e w' ⟨rfl,c⟩;cases c)
  go_loopw [6,7,8,9] (fun s _ _ _ wr'=>s=.int .i64 20/\Hid (wr'=w)) (fun _ _ _ _ _=>0)
  case atStart=>exact⟨rfl,a⟩
  case round =>
   clear a;obtain⟨rfl,a⟩:=hrel;go_wp2_with fail
   go_end0
   exact⟨rfl,a.out⟩
theorem Vw (fv:Value)(w:World):Calls prog 302 #[.slice none 0 0,fv] w fun e w'=>e=.returned (.tuple #[])/\w'=w:=by
 have a:Hid (Calls _ _ _ _ _):=gZ fv w;go_enter func302,ntmps302
 go_wp2_with fail
 refine a.out.mono ?_;rintro e w' ⟨rfl,b⟩;cases b
 go_wp2_with fail
 go_end0
 exact⟨rfl,rfl⟩
theorem aL (fv:Value)(w:World):Calls prog 304 #[.slice none 0 0,fv] w fun e w'=>e=.returned (.slice none 0 0)/\w'=w:=by
 go_enter func304,ntmps304
 go_wp2_with fail
 go_ret
 exact⟨rfl,rfl⟩
theorem Vx (n:Nat)(P:Nat->Prop)(w:World)(hP:∀k,w.heap.size<=k->P k) :
  Calls prog 267 #[.slice none 0 0] w fun e w'=>∃v,e=.returned (.agg #[v])/\Aj P w' (n+1) (mkP (wt n) (Dp (Al n) [])) v/\Below w.heap.size w w':=by
 have X:Hid _:=hP;have y:Hid _:=Vw;have z:Hid _:=aL;have x:Hid (mkP (wt n) (Dp (Al n) [])=mkF (wt n) [] []):=by show _=_;unfold mkP;rw[if_pos (by simp[Dp,wtL])];rfl
 rw[x.out];clear hP;have B:Hid ((w.alloc (.cells #[.nilIface] 23)).heap[w.heap.size]?=_):=Af rfl;have t:Hid (Below _ w (w.alloc (.cells #[.nilIface] 23))):=(Below.refl _ w).alloc (Ad9 _) _;have g:w.heap.size+1=(w.alloc (.cells #[.nilIface] 23)).heap.size:=by simp
 have p:Hid _:=g;clear g;obtain⟨S,E,m,o,I⟩:=info_parts Gn;have mo:=follows;go_enter func267,ntmps267
 go_wp2_with fail
 refine(y.out _ _).mono ?_;rintro e w' ⟨rfl,G⟩;cases G
 go_wp2_with fail
 refine(z.out _ _).mono ?_;rintro e w' ⟨rfl,G⟩;cases G
 generalize w.alloc _=w3 at B t p |-;have F:w.heap.size<w3.heap.size:=by have:=p.out;omega
 go_upto_region 3 with fail
 go_cut [3,4] from 13 (fun s3 s4 wx=>∃C D,s3=.slice (some ⟨C,0,none⟩) 0 0/\s4=.slice (some ⟨D,0,none⟩) 0 0/\Hid (Below w3.heap.size w3 wx))
 case first =>
  obtain⟨wa,J,oa,s⟩:=run_make_full w3.drew w3.heap.size 47 23 S _ 1 underlying47 E m o .i64 .i64 0 (by omega) (by unfold maxLen;omega) (by simp);obtain⟨T,K,ob,R⟩:=run_make_full wa _ 47 23 S _ 1 underlying47 E m o .i64 .i64 0 (by omega) (by unfold maxLen;omega) (by have:=s.size;simpa using this);have r:Below w3.heap.size w3 T:=((Below.refl _ w3).drew.grown s (by simp) (fun k hk=>by simp at hk)).grown R (by have:=s.size;simp at this;omega) (fun k hk=>by simp at hk);have N:Hid (Below w3.heap.size w3 T):=r;clear r oa ob s R;rw[show((0:Nat):Int)=0 from rfl] at J K;go_region
  ·clear J K;go_wp2_with fail
   go_meet
   exact⟨_,_,rfl,rfl,N⟩
  ·clear J K;go_wp2_with fail
   go_meet
   exact⟨_,_,rfl,rfl,N⟩
 case rest =>
  obtain⟨C,D,rfl,rfl,c⟩:=hcut;generalize wc=w4 at c |-;have a0:=c.out.size;clear E m o I;go_wp2_with fail
  go_loopw [21,5,6] (fun i _ _ wr=>i=.int .i64 0/\Hid (wr=w4)) (fun _ _ _ _=>0)
  case atStart=>exact⟨rfl,rfl⟩
  case round =>
   obtain⟨rfl,Q⟩:=hrel;have H:=Q.out;subst H;have h:∀q,wr.heap.size<=q->P q/\q≠w.heap.size:=fun q hq=>⟨X.out q (by omega),by omega⟩;have A:Hid (Calls _ 220 #[_] wr _):=Dh n _ wr (some ⟨C,0,none⟩) 0 0 [] ⟨rfl,by decide,.inl rfl⟩ h (by simp) (by simp);have u:Hid (∀(W:World)(d:Nat),Ac wr W->_->_):=fun W d hW hd =>
    E4 n _ W d (some ⟨D,0,none⟩) 0 0 [] [] hd ⟨rfl,by decide,.inl rfl⟩ (fun q hq=>h q (Ae0 hW.below.size hq)) (by simp[wtL]) (by simp) rfl ⟨Ad9 _,by simp,.inr ⟨_,_,rfl⟩⟩
   have X5:Hid _:=(c.out.block _ F).trans B.out;have M:Hid _:=t.out.trans (c.out.mono (by omega));have V:Hid (mkS (wt n) []=Bt []):=by show _=_;unfold mkS;rw[if_pos (by simp[wtL])]
   clear h Q c B t;go_wp2_with (go_at_call 220;refine A.out.mono ?_;rintro e L ⟨v,rfl,a,l⟩;rw[V.out] at a;obtain⟨b,rfl,f⟩:=a.set_inv;have ff:=fun W=>Lo (.iface 121 (.pointer (some ⟨b,0,none⟩))) W rfl;have HX:Hid _:=Ac1 l.below X5.out;have O:Hid (Ac wr L):=l;have Y:Hid (Dy _ L _ _ b _):=f;clear l a f)
   refine(u.out L b O.out Y.out).mono ?_;rintro e w6 ⟨v,rfl,a,l⟩;have j:=Ac1 l.below HX.out;have x0:=Ab j 0;have x1:=Ad j 0;have st:=Ae (a.rep _ _ _).one;have Z:Hid (Aj _ w6 (n+1) _ v):=a;have U:Hid _:=M.out.trans ((O.out.trans l).below.mono (by have:=M.out.size;omega));clear l a j;go_wp2_with fail
   have r0:=World.cell?_setCell_same _ _ v x0;exact Ae2 (by simp[results,results267,go_sem,r0]) rfl ⟨_,rfl,Z.out.boxed (w:=w) v rfl,U.out.setCell (Ad9 _) _⟩
end
theorem dC {n:Nat}{P:Nat->Prop}{w:World}{g:Nat}(hPg:∀k,P k->k≠g):∀(es:List (AV n×AV n))(off:Nat),(∀(i:Nat)(p:AV n×AV n),es[i]?=some p->∃v u,w.cell? ⟨g,(off+i)*2,none⟩=some v/\w.cell? ⟨g,(off+i)*2+1,none⟩=some u/\Aj P w n p.1 v/\Aj P w n p.2 u) ->
  ∃hs:List (PH n g w),hs.map xyP=es/\(∀(i:Nat)(r:PH n g w),hs[i]?=some r->w.cell? ⟨g,(off+i)*2,none⟩=some r.k.v/\w.cell? ⟨g,(off+i)*2+1,none⟩=some r.u.v)/\∀a∈hs,Aj P w n a.k.x a.k.v/\Aj P w n a.u.x a.u.v
 | [],_,_=>⟨[],rfl,by simp,by simp⟩
 | p::es,off,h=>by
  obtain⟨v,u,hv,hu,hr,hs⟩:=h 0 p rfl;obtain⟨l,h1,h2,h3⟩:=dC hPg es _ fun i y hy=>by
   obtain⟨v,u,hv,hu,hr,hs⟩:=h (i+1) y (by simpa using hy);exact⟨v,u,by rw[show off+1+i=off+(i+1) from by omega];exact hv,by rw[show off+1+i=off+(i+1) from by omega];exact hu,hr,hs⟩
  refine⟨⟨⟨p.1,v,hr.fr (Fr.refl _ w) (fun k _ hk=>hPg k hk) _ _ _⟩,⟨p.2,u,hs.fr (Fr.refl _ w) (fun k _ hk=>hPg k hk) _ _ _⟩⟩::l,by simp[h1,xyP],fun i r hir=>?_,fun a ha=>?_⟩
  ·cases i with
   | zero=>simp at hir;subst hir;exact⟨by simpa using hv,by simpa using hu⟩
   | succ i=>rw[show off+(i+1)=off+1+i from by omega];exact h2 i r (by simpa using hir)
  ·rcases List.mem_cons.1 ha with q|q
   ·subst q;exact⟨hr,hs⟩
   ·exact h3 a q
theorem Tj {β:Type}{d:Nat}{w w2 w3:World}{br b g:Nat}{t:ByteArray}{op:Nat}{R:Except (Nat×Nat) (List β×St)}{er v u:Value}{l:List β}(f:List β->AV (d+1))(hbr:br<w.heap.size)
  (hf:Fr (·≠br) w w2) (ht:gV w2 br t op R er l) (hb:Fr (·≠g) w2 w3) (hg:w.heap.size<=g) (hbw:w.heap.size<=b) (hv:Aj (fun k=>w.heap.size<=k/\k≠b) w3 (d+1) (f l) v) (hw:∀l,wt (d+1) (f l)<=1024) :
  Hj w br t op d (Lg f R) (.returned (.tuple #[.agg #[v],er])) (w3.setCell ⟨b,0,none⟩ u):=by
 have a:∀s',RdS w2 br t s' op->RdS (w3.setCell ⟨b,0,none⟩ u) br t s' op:=fun s' h=>RdS.setOther (Ik.of h hb (by omega)) (by simp;omega) u;have e:Fr (·≠br) w (w3.setCell ⟨b,0,none⟩ u):=by
  refine Fr.setNew ⟨hb.os.trans hf.os,hb.tape.trans hf.tape,hb.output.trans hf.output,Ae0 hf.size hb.size,fun k hk hp=>?_⟩ hbw u;exact(hb.block k (Ad8 hk hf.size) (by omega)).trans (hf.block k hk hp)
 refine⟨v,er,rfl,e,?_⟩;rcases ht with⟨s',rfl,rfl,h⟩|⟨c,p,s',rfl,rfl,hp,h⟩
 ·exact⟨rfl,hv.boxed (w:=w) u rfl,hw l,a s' h⟩
 ·exact⟨rfl,⟨f l,hv.boxed (w:=w) u rfl,hw l⟩,s',hp,a s' h⟩
theorem qN.split {β:Type}{Pp:Nat->Prop}{Inv:World->List β->Prop}{w w':World}{br:Nat}{t:ByteArray}{op:Nat}{R:Except (Nat×Nat) (List β×St)}{e:Ending}(h:qN Pp Inv w br t op R e w') :
  ∃er l,e=.returned er/\Fr Pp w w'/\Inv w' l/\gV w' br t op R er l:=by
 obtain⟨er,d,f,a⟩:=h;cases R with
 | ok q=>obtain⟨l,b⟩:=q;exact⟨er,l,d,f,a.2.1,.inl ⟨b,rfl,a.1,a.2.2⟩⟩
 | error q=>obtain⟨c,p⟩:=q;obtain⟨h1,⟨l,h2⟩,b,h4,h5⟩:=a;exact⟨er,l,d,f,h2,.inr ⟨c,p,b,rfl,h1,h4,h5⟩⟩
theorem aM (d:Nat)(V:Tg d):Aa0 d:=by
 intro w z t s J hr ha hk b4 c6 ht;have hl:t.data.toList.length=t.size:=by simp
 have a3:=Aa hr;have c9:∀(fn:Fn)(first n:_)(w:World),(Instr.makeFunc fn first n).run prog w=.ok _ w:=fun _ _ _ _=>rfl;obtain⟨bR,o⟩:∃b,b=w.heap.size:=⟨_,rfl⟩;obtain⟨G,r⟩:∃b,b=w.heap.size+1:=⟨_,rfl⟩;obtain⟨B,m⟩:∃b,b=w.heap.size+2:=⟨_,rfl⟩;have c3:(((w.alloc (.cells #[.pointer (some ⟨z,0,none⟩)] 108)).alloc (.cells #[.nilIface] 23)).alloc (.cells #[.slice none 0 0] 270)).heap.size=B+1:=by simp[m]
 have hN:(((w.alloc (.cells #[.pointer (some ⟨z,0,none⟩)] 108)).alloc (.cells #[.nilIface] 23)).alloc (.cells #[.slice none 0 0] 270)).heap[B]?=_:=Af (by simp[m]);have N:(((w.alloc (.cells #[.pointer (some ⟨z,0,none⟩)] 108)).alloc (.cells #[.nilIface] 23)).alloc (.cells #[.slice none 0 0] 270)).heap[bR]?=_ :=
  (Below.heap_alloc _ _ _ (by simp[o];omega)).trans ((Below.heap_alloc _ _ _ (by simp[o])).trans (Af o.symm))
 have a2:(((w.alloc (.cells #[.pointer (some ⟨z,0,none⟩)] 108)).alloc (.cells #[.nilIface] 23)).alloc (.cells #[.slice none 0 0] 270)).heap[G]?=_ :=
  (Below.heap_alloc _ _ _ (by simp[r])).trans (Af (by simp[r]))
 have F2:Fr (·≠z) w (((w.alloc (.cells #[.pointer (some ⟨z,0,none⟩)] 108)).alloc (.cells #[.nilIface] 23)).alloc (.cells #[.slice none 0 0] 270)):=(((Fr.refl _ w).alloc _).alloc _).alloc _;have R2:RdS (((w.alloc (.cells #[.pointer (some ⟨z,0,none⟩)] 108)).alloc (.cells #[.nilIface] 23)).alloc (.cells #[.slice none 0 0] 270)) z t s _:=hr.of (P:=fun _=>True) (Fr.grew ((((Ac.refl w).alloc _).alloc _).alloc _)) trivial;have E2:=J.fr F2;have x0:=Ab N 0;obtain⟨R,M⟩:∃R,Cl t.data.toList [93] (Gg t.data.toList (A8 t.data.toList d)) (t.data.toList.length+1) s=R:=⟨_,rfl⟩;have Z:Hid _:=M;rw[M];clear M;have A:Hid (Calls _ 264 #[_,_,.func (.func 265) #[] #[_,_]] _ _) :=
  qO (.inr rfl) (fun k=>k<B+1/\k≠z/\k≠B) (fun W l=>LP (d+1) W B (B+1) l/\B+1<=_/\W.heap[bR]?=_/\l.length<=5001) z t ⟨#[93]⟩ _ #[_,_] _ 93 [] rfl (Vq (Jj _ d)) (fun k hk=>hk.2.1) ⟨⟨by have:=J.2.1;omega,Ne.symm J.1,by have:=J.2.1;omega⟩,by have:=J.2.1;omega,Ne.symm J.2.2.2.1,by have:=J.2.1;omega⟩
   (fun W W' l h f=>⟨by obtain⟨sl,vs,U⟩:=h.1;exact⟨sl,vs,U.fr f (by omega) (by omega)⟩,Ae0 h.2.1 f.size,(f.block _ (Aa h.2.2.1) (by omega)).trans h.2.2.1,h.2.2.2⟩) ht
   (fun W s1 acc hE1 hr1 ha1 hk1 he1 hinv hlen=>by
    refine(qX d V W z bR B (B+1) t s1 acc hE1 hr1 ha1 hk1 he1 ht hinv.2.2.1 hinv.1 (by omega) (by omega) hinv.2.1 (by omega) (by omega) hlen).mono ?_;rintro e W' ⟨er,he,hf,T⟩;have k1:=Ae0 hinv.2.1 hf.size;have k2:=(hf.block _ (Aa hinv.2.2.1) ⟨by omega,by omega,by omega⟩).trans hinv.2.2.1;refine⟨er,he,hf,?_⟩;cases F:Gg t.data.toList (A8 t.data.toList d) s1 with
    | ok q=>rw[F] at T;obtain⟨x,s'⟩:=q;exact⟨T.1,⟨T.2.1,k1,k2,by simp;omega⟩,T.2.2⟩
    | error q=>rw[F] at T;obtain⟨c,p⟩:=q;obtain⟨m1,⟨es',m2,m4⟩,m3⟩:=T;exact⟨m1,⟨es',m2,k1,k2,by omega⟩,m3⟩)
   _ s E2 R2 ha hk b4 ⟨⟨_,[],hN,⟨rfl,.inl ⟨rfl,rfl⟩⟩,by simp,by simp,.inl rfl⟩,by omega,N,by simp⟩
 have a0:(⟨#[93]⟩:ByteArray).data.toList=[93]:=rfl;rw[a0,Z.out] at A;clear a0;have H1:Hid (Fr (·≠z) w _):=F2;have H2:Hid (_=_):=a2;have a8:B+1<=(((w.alloc (.cells #[.pointer (some ⟨z,0,none⟩)] 108)).alloc (.cells #[.nilIface] 23)).alloc (.cells #[.slice none 0 0] 270)).heap.size:=by omega
 rw[o] at x0 A;have b0:Hid (B=_+2/\G=_+1/\bR=_):=⟨m,r,o⟩;rw[m] at A;clear J hr hk F2 R2 E2 N a2 V Z m r o c3 hN;go_enter func175,ntmps175
 go_wp2_with fail
 generalize ((w.alloc (.cells #[.pointer (some ⟨z,0,none⟩)] 108)).alloc (.cells #[.nilIface] 23)).alloc _=W2 at H1 H2 A a8 x0 |-;refine A.out.mono ?_;intro e E hp;obtain⟨er,l,rfl,y,⟨⟨sl,vs,j⟩,c4,_,c8⟩,D⟩:=hp.split;have b3:=b0.out;obtain⟨m,r,o⟩:=b3;rw[<- m] at j y c4;have F3:Hid (Fr (·≠z) w E):=by
  have f2:=H1.out;refine⟨y.os.trans f2.os,y.tape.trans f2.tape,y.output.trans f2.output,Ae0 f2.size y.size,fun k hk hp=>?_⟩;exact(y.block k (by omega) ⟨by omega,hp,by omega⟩).trans (f2.block k hk hp)
 have B3:Hid _:=(y.block G (by omega) ⟨by omega,by omega,by omega⟩).trans H2.out;have HT:Hid (gV E z t _ R er l):=D;have c0:=Ab j.1 0;have K:w.heap.size<=G:=by omega
 have c5:G<B:=by omega
 rw[m] at c0;have a1:∀l,wt (d+2) (mkP _ (Dp (Al (d+1)) l):_)<=1024:=fun l=>qR (d+1) _;rcases j.2.2.2.2 with rfl|a6
 ·have a5:l=[]:=by
   rcases j.2.1.2 with⟨_,h0⟩|⟨g,n,H,e,_⟩
   ·exact List.length_eq_zero_iff.1 h0
   ·simp at e
  have S:Hid (Calls _ 267 #[_] E _):=Vx (d+1) (fun k=>w.heap.size<=k/\k≠G) E (fun k hk=>⟨by omega,by omega⟩);have b2:Hid (l=[]):=a5;have Y:Hid (G=w.heap.size+1):=r;clear a5 j y D hp A H1 H2 x0 m r o;go_wp2_with fail
  refine S.out.mono ?_;rintro e X ⟨v,rfl,F,O⟩;have I:=Ac1 O B3.out;rw[Y.out] at I;have y0:=Ab I 0;have y1:=Ad I 0;have HV:Hid (Aj _ X (d+2) _ v):=F;have HB:Hid (Below E.heap.size E X):=O;have st:=Ae (F.rep _ _ _).one;clear F O I S;go_wp2_with fail
  have r0:=World.cell?_setCell_same _ _ v y0;refine Ae2 (v:=.tuple #[.agg #[v],er]) (by simp[results,results175,go_sem,r0]) rfl ?_;have:=Tj (u:=v) _ a3 F3.out HT.out (Fr.below HB.out) (by omega) K (by rw[b2.out];exact HV.out) a1;rw[Y.out] at this;exact this
 ·obtain⟨g,n,H,rfl,c7,hq,b8,b9,c1,c2⟩:∃g n H,sl=.slice (some ⟨g,0,none⟩) l.length n/\B+1<=g/\E.heap[g]?=some (.cells H 273 (0,0))/\l.length<=n/\n<=maxLen/\H.size=n*2/\H.toList.take (l.length*2)=vs:=by
   rcases j.2.1.2 with⟨_,h0⟩|h
   ·omega
   ·exact h
  have C:=fun i hi=>j.2.1.cellAt i hi;obtain⟨hs,U,hc,a7⟩:=dC (P:=fun k=>B+1<=k/\k≠g) (fun k hk=>hk.2) l 0 fun i p hp=>by
   have hi:=(List.getElem?_eq_some_iff.1 hp).1;obtain⟨v,u,F,hu,hr,hs⟩:=j.2.2.1 i p hp;refine⟨v,u,by rw[Nat.zero_add,C _ (by omega),F],by rw[Nat.zero_add,C _ (by omega),hu],?_,?_⟩
   ·exact hr.fr (Fr.refl _ E) (fun k _ hk=>⟨hk.1,fun e=>hk.2 (by rw[e];rfl)⟩) _ _ _
   ·exact hs.fr (Fr.refl _ E) (fun k _ hk=>⟨hk.1,fun e=>hk.2 (by rw[e];rfl)⟩) _ _ _
  have a4:hs.length=l.length:=by rw[<- U];simp
  have L:Jt E g l.length hs:=by
   refine⟨Aa hq,a4,fun i x hix=>?_⟩;obtain⟨a,b⟩:=hc i x hix;rw[Nat.zero_add] at a b;exact⟨a,b,j.2.1.frozenAt _,j.2.1.frozenAt _⟩
  have S:Hid (Calls _ 267 #[_] E _):=N3 (d+1) _ E g _ n hs a7 L a6 (by omega) b8 (fun h=>h.2 rfl) (fun k hk=>⟨by omega,by have:=Aa hq;omega⟩) (fun a ha=>by
   have:xyP a∈l:=by rw[<- U];exact List.mem_map_of_mem ha
   exact j.2.2.2.1 _ this)
  rw[U] at S;have Y:Hid (G=w.heap.size+1):=r;have b7:w.heap.size<=g/\g≠G:=⟨by omega,by omega⟩;obtain⟨b5,b6⟩:=b7;have a9:Hid (∀k,B+1<=k->w.heap.size<=k/\k≠G):=fun k hk=>⟨by omega,by omega⟩;clear U hc a7 L j y D hp A H1 H2 x0 m r o C hq b9 c1 c2 a4;go_wp2_with fail
  refine S.out.mono ?_;rintro e X ⟨v,rfl,F,Q⟩;have I:=(Q.block G (Aa B3.out) (Ne.symm b6)).trans B3.out;rw[Y.out] at I;have y0:=Ab I 0;have y1:=Ad I 0;have HV:Hid (Aj _ X (d+2) _ v):=F.fr (Fr.refl _ X) (fun k _ hk=>a9.out k hk.1) _ _ _;have b1:Hid (Fr (·≠g) E X):=Q;have st:=Ae (F.rep _ _ _).one;clear F Q I S;go_wp2_with fail
  have r0:=World.cell?_setCell_same _ _ v y0;refine Ae2 (v:=.tuple #[.agg #[v],er]) (by simp[results,results175,go_sem,r0]) rfl ?_;have:=Tj (u:=v) _ a3 F3.out HT.out b1.out b5 K HV.out a1;rw[Y.out] at this;exact this
theorem Qw (d:Nat)(w:World)(br:Nat)(t m:ByteArray)(s:St)(op:Nat)(hr:RdS w br t s op)(n1:m.data.toList≠[123])(n2:m.data.toList≠[60,60])(n3:m.data.toList≠[91]) :
  Calls prog 122 #[.pointer (some ⟨br,0,none⟩),.string m] w (Hj w br t op d (.error (1,s.at'))):=by
 have b:Hid (RdS (w.alloc (.cells #[.nilIface] 23)) br t s op):=hr.of (P:=fun _=>True) (Fr.grew ((Ac.refl w).alloc _)) trivial;have a:=ByteArray.toList_eq m;have c:(m.toList==[123])=false:=by rw[a];exact O1 n1
 have e:(m.toList==[60,60])=false:=by rw[a];exact O1 n2
 have f:(m.toList==[91])=false:=by rw[a];exact O1 n3
 clear hr a n1 n2 n3;go_enter func122,ntmps122
 go_wp2_with fail
 exact Ae2 (by simp[results,results122,go_sem]) rfl (Lq (Fr.grew ((Ac.refl w).alloc _)) b.out)
theorem aN (d:Nat)(w:World)(br:Nat)(t m:ByteArray)(s:St)(hr:RdS w br t s 24)(hm:m.data.toList=[123]\/m.data.toList=[60,60]\/m.data.toList=[91]) :
  Calls prog 122 #[.pointer (some ⟨br,0,none⟩),.string m] w (Hj w br t 24 d (.error (6,s.at'))):=by
 have b:Hid (RdS (w.alloc (.cells #[.nilIface] 23)) br t s 24):=hr.of (P:=fun _=>True) (Fr.grew ((Ac.refl w).alloc _)) trivial;have f:=Aa hr;have h:=Ab hr 4;have a:=ByteArray.toList_eq m;rcases hm with hm|hm|hm
 ·have c:(m.toList==[123])=true:=by rw[a,hm];rfl
  clear hr a hm;go_enter func122,ntmps122
  go_wp2_with fail
  exact Ae2 (by simp[results,results122,go_sem]) rfl (Lq (Fr.grew ((Ac.refl w).alloc _)) b.out)
 ·have c:(m.toList==[123])=false:=by rw[a,hm];rfl
  have e:(m.toList==[60,60])=true:=by rw[a,hm];rfl
  clear hr a hm;go_enter func122,ntmps122
  go_wp2_with fail
  exact Ae2 (by simp[results,results122,go_sem]) rfl (Lq (Fr.grew ((Ac.refl w).alloc _)) b.out)
 ·have c:(m.toList==[123])=false:=by rw[a,hm];rfl
  have e:(m.toList==[60,60])=false:=by rw[a,hm];rfl
  have g:(m.toList==[91])=true:=by rw[a,hm];rfl
  clear hr a hm;go_enter func122,ntmps122
  go_wp2_with fail
  exact Ae2 (by simp[results,results122,go_sem]) rfl (Lq (Fr.grew ((Ac.refl w).alloc _)) b.out)
theorem Sb {T:List UInt8}{s:St}{c:UInt8}{l:List UInt8}(h:Bh T s=c::l):1<=s.en:=by
 have:=congrArg List.length h;simp[Bh] at this;omega
def yN (d:Nat)(brP:List UInt8->St->Except (Nat×Nat) (AV (d+1)×St)):Prop:=∀(w:World)(br:Nat)(t m:ByteArray)(s:St),Env w br->RdS w br t s (24-d)->s.en<=t.size->t.size<=4000->m.data.toList=Bh t.data.toList s ->
 Calls prog 122 #[.pointer (some ⟨br,0,none⟩),.string m] w (Hj w br t (24-d) d (brP t.data.toList s))
theorem mZ:yN 0 (fun T s=>if Bh T s=[123]\/Bh T s=[60,60]\/Bh T s=[91] then .error (6,s.at') else .error (1,s.at')):=by
 intro w b t m s f c d g a;by_cases q:Bh t.data.toList s=[123]\/Bh t.data.toList s=[60,60]\/Bh t.data.toList s=[91]
 ·simp only[if_pos q];exact aN 0 w b t m s c (by rw[a];exact q)
 ·simp only[if_neg q];exact Qw 0 w b t m s _ c (by rw[a];exact fun e=>q (.inl e)) (by rw[a];exact fun e=>q (.inr (.inl e))) (by rw[a];exact fun e=>q (.inr (.inr e)))
theorem Qx {d:Nat}{T:List UInt8}{item:St->Except (Nat×Nat) (AV (d+1)×St)}{s:St}(q:Bh T s=[123]):Di T item s=Qb (Lg (fun l=>(mkS (wt (d+1)) (Eo (Al (d+1)) l):Ag (AV (d+1)))) (Cy T [125] item (Cb T s))):=by
 unfold Di;rw[if_pos q];cases Cy T [125] item (Cb T s)<;>rfl
theorem Qy {d:Nat}{T:List UInt8}{item:St->Except (Nat×Nat) (AV (d+1)×St)}{s:St}(q:Bh T s=[60,60]):Di T item s=Qb (Lg (fun l=>(mkF (wt (d+1)) (Aq d l.length) l:Ag (AV (d+1)))) (Cy T [62,62] item (Cb T s))):=by
 unfold Di;rw[if_neg (by rw[q];decide),if_pos q];cases Cy T [62,62] item (Cb T s)<;>rfl
theorem Qz {d:Nat}{T:List UInt8}{item:St->Except (Nat×Nat) (AV (d+1)×St)}{s:St}(q:Bh T s=[91]):Di T item s=Qb (Lg (fun l=>(mkP (wt (d+1)) (Dp (Al (d+1)) l):Ag (AV (d+1)))) (Cl T [93] (Gg T item) (T.length+1) (Cb T s))):=by
 unfold Di;rw[if_neg (by rw[q];decide),if_neg (by rw[q];decide),if_pos q];cases Cl T [93] (Gg T item) (T.length+1) (Cb T s)<;>rfl
theorem nA (d:Nat)(hd:d<=23)(V:Tg d):yN (d+1) (fun T s=>Di T (A8 T d) s):=by
 intro w br t m s o n f p g;show Calls prog 122 #[.pointer (some ⟨br,0,none⟩),.string m] w (Hj w br t (24-(d+1)) (d+1) (Di t.data.toList (A8 t.data.toList d) s));by_cases i:Bh t.data.toList s=[123]
 ·rw[Qx i];exact Sa (.inl ⟨rfl,by rw[g,i]⟩) d hd _ (fun w br t s e r a k b c h=>vF d V w br t s e r a k b c h) w br t s o n f (Sb i) p
 ·by_cases j:Bh t.data.toList s=[60,60]
  ·rw[Qy j];exact Sa (.inr (.inl ⟨rfl,by rw[g,j]⟩)) d hd _ (fun w br t s e r a k b c h=>aI d V w br t s e r a k b c h) w br t s o n f (Sb j) p
  ·by_cases l:Bh t.data.toList s=[91]
   ·rw[Qz l];exact Sa (.inr (.inr ⟨rfl,by rw[g,l]⟩)) d hd _ (aM d V) w br t s o n f (Sb l) p
   ·have e:Di t.data.toList (A8 t.data.toList d) s=.error (1,s.at'):=by
     unfold Di;rw[if_neg i,if_neg j,if_neg l]
    rw[e];exact Qw (d+1) w br t m s _ n (by rw[g];exact i) (by rw[g];exact j) (by rw[g];exact l)
theorem Iq {d:Nat}{w W1 w':World}{br b:Nat}{t:ByteArray}{op:Nat}{R:Except (Nat×Nat) (AV (d+1)×St)}{er v u:Value}{x:AV (d+1)}{s':St}(hbr:br<w.heap.size)(hF:Fr (·≠br) w W1)(hb1:w.heap.size<=b)(hb2:b<W1.heap.size)
  (hf:Fr (·≠br) W1 w') (hx:Aj (fun k=>W1.heap.size<=k) w' (d+1) x v) (hw:wt (d+1) x<=1024) (hr:RdS w' br t s' op) (hT:Yy d R er x s'):Hj w br t op d R (.returned (.tuple #[.agg #[v],er])) (w'.setCell ⟨b,0,none⟩ u):=by
 have a:=RdS.setOther hr (p:=⟨b,0,none⟩) (by simp;omega) u;have e:Aj (fun k=>w.heap.size<=k) (w'.setCell ⟨b,0,none⟩ u) (d+1) x v:=hx.fr ((Fr.refl _ w').set (by simp;omega) u) (fun k _ hk=>by have:=hF.size;omega) _ _ _;refine⟨v,er,rfl,(hF.trans hf).setNew hb1 u,?_⟩;rcases hT with⟨rfl,rfl⟩|⟨c,rfl,rfl⟩
 ·exact⟨rfl,e,hw,a⟩
 ·exact⟨rfl,⟨x,e,hw⟩,s',rfl,a⟩
/-- numbers as the library reads them: how it ends, what became of the world -/
theorem nB (m:ByteArray)(w:World)(br:Nat)(hE:Env w br)(hm:m.size<=4000) :
  Calls prog 120 #[.string m,.int .i64 10,.int .i64 64] w fun e w'=>Below w.heap.size w w'/\((∃v,Lib.parseIntB 64 m.data.toList=.ok v/\e=.returned (.tuple #[.int .i64 v,.nilIface]))\/((∀v,Lib.parseIntB 64 m.data.toList≠.ok v)/\∃v T p,e=.returned (.tuple #[.int .i64 v,.iface T p]))):=by
 obtain⟨j,k,⟨b,d,f⟩,l,c,g,h⟩:=hE;cases q:Lib.parseIntB 64 m.data.toList with
 | ok v =>
  refine(Tryz.strconv_ParseInt_10_at64_ok m (by omega) v q w).mono ?_;rintro e w' ⟨rfl,i⟩;refine⟨?_,.inl ⟨v,rfl,rfl⟩⟩;rcases i with rfl|⟨s,rfl⟩
  ·exact Below.refl _ _
  ·exact Lib.bytesWorld_below _ _ _
 | range =>
  refine(Tryz.strconv_ParseInt_10_at64_range m (by omega) q b w d f).mono ?_;rintro e w' ⟨N,rfl,_,_,a⟩;exact⟨a,.inr ⟨fun v=>by simp,_,_,_,rfl⟩⟩
 | _ =>
  refine(Tryz.strconv_ParseInt_10_at64_syntax m (by omega) q c w g h).mono ?_;rintro e w' ⟨N,rfl,_,_,a⟩;exact⟨a,.inr ⟨fun v=>by simp,_,_,_,rfl⟩⟩
theorem Env.below {w w':World}{br:Nat}(h:Env w br)(hb:Below w.heap.size w w'):Env w' br:=h.fr (Fr.below hb)
theorem Y9 (d:Nat)(brP:List UInt8->St->Except (Nat×Nat) (AV (d+1)×St))(hB:yN d brP)(w:World)(br:Nat)(t:ByteArray)(s:St)(hE:Env w br)(hr:RdS w br t s (24-d))(ha:s.at'<=s.en)(hk:Jx s)(hen:s.en<=t.size)(ht:t.size<=4000) :
  Calls prog 63 #[.pointer (some ⟨br,0,none⟩)] w (Hj w br t (24-d) d (Dl t.data.toList (brP t.data.toList) s)):=by
 have hl:t.data.toList.length=t.size:=by simp
 have j:=Aa hr;obtain⟨i,O⟩:∃i,Dl t.data.toList (brP t.data.toList) s=i:=⟨_,rfl⟩;rw[O];have k:Hid _:=O;clear O;obtain⟨g,a1⟩:∃g,g=24-d:=⟨_,rfl⟩;rw[<- a1] at hr |-;have HA:Hid _:=fun(W:World) (h:_)=>Kj W br t s g h hen ht;obtain⟨m,hm⟩:∃m,m=t.extract s.at' s.en:=⟨_,rfl⟩;have D:m.data.toList=Bh t.data.toList s:=by rw[hm,Df];rfl
 have a0:m.size=s.en-s.at':=by rw[hm];simp;omega
 have K:Hid _:=D;have a8:Hid (m.size=s.en-s.at'):=a0;have c0:m.size<=4000:=by omega
 have a9:Hid _:=fun(W:World) (h:_)=>qK d W br t m s g h hen ht D;have a5:Hid (∀W:World,_->RdS W br t s g->Calls _ 122 #[_,_] W (Hj W br t g d _)):=fun W e r=>by rw[a1] at r |-;exact hB W br t m s e r hen ht D
 have b0:Hid _:=fun(W:World) (e:_)=>nB m W br e (by omega);have a7:Hid (Jx s):=hk;have M:Hid (RdS (w.alloc (.cells #[.nilIface] 23)) br t s g):=hr.of (P:=fun _=>True) (Fr.grew ((Ac.refl w).alloc _)) trivial;have EA:Hid (Env (w.alloc (.cells #[.nilIface] 23)) br):=hE.fr (Fr.grew ((Ac.refl w).alloc _));have XA:Hid ((w.alloc (.cells #[.nilIface] 23)).heap[w.heap.size]?=_):=Af rfl;have FA:Hid (Fr (·≠br) w (w.alloc (.cells #[.nilIface] 23))):=(Fr.refl _ w).alloc _;have HM:Hid _:=hm.symm;clear hr hE hm D hk a0;have mo:=follows;go_enter func63,ntmps63
 go_wp2_with fail
 generalize w.alloc _=wA at M EA XA FA |-;have Q:=Aa M.out;have g0:=cell_grown Q (Ab M.out 0);have g1:=cell_grown Q (Ab M.out 1);have g2:=cell_grown Q (Ab M.out 2);have b5:(s.at':Int)<=(s.en:Int):=by omega
 have b6:(s.en:Int)<=(t.size:Int):=by omega
 go_quiet_grown (fail)
 clear g0 g1 g2;have G:Hid (Ac wA _):=⟨nq,osq,rfl⟩;rw[HM.out];generalize grow (wA.drewN nq) osq=W1 at G |-;clear nq osq;have L:Hid (RdS W1 br t s g):=M.out.of (P:=fun _=>True) (Fr.grew G.out) trivial;have E1:Hid (Env W1 br):=EA.out.fr (Fr.grew G.out);have F:Hid _:=Ac1 G.out.below XA.out;have Y:Hid _:=FA.out.trans (Fr.grew G.out);have c:=Aa F.out;clear M EA XA FA G;have c3:=Ab L.out 3;have E:w.heap.size≠br:=by omega
 by_cases A:s.cl=1
 ·have b1:((s.cl:Int)==1)=true:=by simp;omega
  have J:Hid (Calls _ 119 #[_,_] W1 _):=a9.out W1 L.out;have b:=k.out;unfold Dl at b;rw[if_pos A] at b;rw[b] at J;clear b A;go_wp2_with fail
  refine J.out.mono ?_;intro e y hp;obtain⟨v,er,x,s',rfl,R,V,hw,l,o⟩:=hp.split;have f:=(R.block _ c E).trans F.out;have z:=Ab f 0;have y1:=Ad f 0;have st:=Ae (V.rep _ _ _).one;have a:Hid (Hj w br t g d i _ (y.setCell _ v)):=Iq j Y.out (Ad9 _) c R V hw l o;clear hp R V hw l o f c3;go_wp2_with fail
  have u:=World.cell?_setCell_same _ _ v z;exact Ae2 (by simp[results,results63,go_sem,u]) rfl a.out
 ·have b1:((s.cl:Int)==1)=false:=by simp;omega
  by_cases I:s.cl=2
  ·have b2:((s.cl:Int)==2)=true:=by simp;omega
   have J:Hid (Calls _ 120 #[_,_,_] W1 _):=b0.out W1 E1.out;have b:=k.out;unfold Dl at b;rw[if_neg A,if_pos I,<- K.out] at b;have B:Hid (_=i):=b;clear b A I;go_wp2_with fail
   refine J.out.mono ?_;rintro e y ⟨H,⟨v,hv,rfl⟩|⟨hv,v,T,p,rfl⟩⟩
   ·have Z:Hid (i=.ok ((Cu v:_),Cb t.data.toList s)):=by show _=_;rw[<- B.out,hv]
    have R2:Hid (RdS y br t s g):=L.out.of (P:=fun _=>True) (Fr.below H) trivial;have N:Hid _:=Ac1 H F.out;have F2:Hid _:=Y.out.trans (Fr.below H);have n:=Aa N.out;clear hv H c3;go_wp2_with fail
    refine(HA.out y R2.out).mono ?_;rintro e w3 ⟨rfl,a4,U⟩;have f:=(U.block _ n E).trans N.out;have z:=Ab f 0;have y1:=Ad f 0;have a:Hid (Hj w br t g d i (.returned (.tuple #[.agg #[.iface 2 (.int .i64 v)],.nilIface])) (w3.setCell ⟨w.heap.size,0,none⟩ (.iface 2 (.int .i64 v)))):=by
     rw[Z.out];exact Iq j F2.out (Ad9 _) n U (.inr (.inr (.inl ⟨v,rfl,rfl⟩))) (by show 1<=1024;omega) a4 (.inl ⟨rfl,rfl⟩)
    clear U a4 f;go_wp2_with fail
    have u:=World.cell?_setCell_same _ _ (.iface 2 (.int .i64 v)) z;exact Ae2 (by simp[results,results63,go_sem,u]) rfl a.out
   ·have Z:Hid (i=.error (5,s.at')):=by
     show _=_;rw[<- B.out];cases q:Lib.parseIntB 64 m.data.toList with
     | ok v=>exact absurd q (hv v)
     | _=>rfl
    have N:Hid _:=Ac1 H F.out;have z:=Ab N.out 0;have y1:=Ad N.out 0;have a:Hid (Hj w br t g d i (.returned (.tuple #[.agg #[.nilIface],.iface 61 (.int .i64 5)])) (y.setCell ⟨w.heap.size,0,none⟩ .nilIface)):=by
     rw[Z.out];exact Iq j Y.out (Ad9 _) c (Fr.below H) (.inl ⟨rfl,rfl⟩) (by show 1<=1024;omega) (L.out.of (P:=fun _=>True) (Fr.below H) trivial) (.inr ⟨5,rfl,rfl⟩)
    clear hv H c3;go_wp2_with fail
    have u:=World.cell?_setCell_same _ _ .nilIface z;exact Ae2 (by simp[results,results63,go_sem,u]) rfl a.out
  ·have b2:((s.cl:Int)==2)=false:=by simp;omega
   by_cases X:s.cl=3
   ·have b3:((s.cl:Int)==3)=true:=by simp;omega
    have b7:2<=m.size:=by have:=a7.out X;have:=a8.out;omega
    have b:i=.ok ((Dm (((Bh t.data.toList s).take ((Bh t.data.toList s).length-1)).drop 1):_),Cb t.data.toList s):=by rw[<- k.out];unfold Dl;rw[if_neg A,if_neg I,if_pos X]
    have a2:(Bh t.data.toList s).length=m.size:=by rw[<- K.out];simp
    rw[a2,<- K.out,<- Df] at b;have B:Hid (i=_):=b;have b8:(1:Int)<=(m.size:Int)-1:=by omega
    have b9:((m.size:Int)-1).toNat=m.size-1:=by omega
    have a6:Hid _:=fun W=>Qs (m.extract 1 (m.size-1)) W (by simp;omega);clear b A I X a2;go_wp2_with fail
    refine(HA.out W1 L.out).mono ?_;rintro e y ⟨rfl,a3,S⟩;have f:=(S.block _ c E).trans F.out;have R2:Hid (RdS y br t _ g):=a3;have F2:Hid (Fr (·≠br) W1 y):=S;have N:Hid _:=f;have n:=Aa f;clear a3 S f c3;go_wp2_with fail
    refine(a6.out y).mono ?_;rintro e w3 ⟨rfl,C⟩;have f:=Ac1 C N.out;have z:=Ab f 0;have y1:=Ad f 0;have a:Hid (Hj w br t g d i (.returned (.tuple #[.agg #[.iface 119 (.string (m.extract 1 (m.size-1)))],.nilIface])) (w3.setCell ⟨w.heap.size,0,none⟩ (.iface 119 (.string (m.extract 1 (m.size-1)))))):=by
     rw[B.out];exact Iq j Y.out (Ad9 _) c (F2.out.trans (Fr.below C)) (.inr (.inr (.inr (.inl ⟨_,rfl,rfl⟩)))) (by show 1<=1024;omega) (R2.out.of (P:=fun _=>True) (Fr.below C) trivial) (.inl ⟨rfl,rfl⟩)
    clear C f;go_wp2_with fail
    have u:=World.cell?_setCell_same _ _ (.iface 119 (.string (m.extract 1 (m.size-1)))) z;exact Ae2 (by simp[results,results63,go_sem,u]) rfl a.out
   ·have b3:((s.cl:Int)==3)=false:=by simp;omega
    by_cases q4:s.cl=4
    ·have b4:((s.cl:Int)==4)=true:=by simp;omega
     have J:Hid (Calls _ 122 #[_,_] W1 _):=a5.out W1 E1.out L.out;have b:i=brP t.data.toList s:=by rw[<- k.out];unfold Dl;rw[if_neg A,if_neg I,if_neg X,if_pos q4]
     rw[<- b] at J;clear b A I X q4;go_wp2_with fail
     refine J.out.mono ?_;intro e y hp;obtain⟨v,er,x,s',rfl,R,V,hw,l,o⟩:=hp.split;have f:=(R.block _ c E).trans F.out;have z:=Ab f 0;have y1:=Ad f 0;have st:=Ae (V.rep _ _ _).one;have a:Hid (Hj w br t g d i _ (y.setCell _ v)):=Iq j Y.out (Ad9 _) c R V hw l o;clear hp R V hw l o f c3;go_wp2_with fail
     have u:=World.cell?_setCell_same _ _ v z;exact Ae2 (by simp[results,results63,go_sem,u]) rfl a.out
    ·have b4:((s.cl:Int)==4)=false:=by simp;omega
     have Z:Hid (i=.error (1,s.at')):=by show _=_;rw[<- k.out];unfold Dl;rw[if_neg A,if_neg I,if_neg X,if_neg q4]
     have z:=Ab F.out 0;have y1:=Ad F.out 0;have a:Hid (Hj w br t g d i (.returned (.tuple #[.agg #[.nilIface],.iface 61 (.int .i64 1)])) (W1.setCell ⟨w.heap.size,0,none⟩ .nilIface)):=by
      rw[Z.out];exact Iq j Y.out (Ad9 _) c (Fr.refl _ W1) (.inl ⟨rfl,rfl⟩) (by show 1<=1024;omega) L.out (.inr ⟨1,rfl,rfl⟩)
     clear A I X q4;go_wp2_with fail
     have u:=World.cell?_setCell_same _ _ .nilIface z;exact Ae2 (by simp[results,results63,go_sem,u]) rfl a.out
theorem xW:∀d,d<=24->Tg d
 | 0,_=>fun w br t s hE hr ha hk hen ht=>Y9 0 _ mZ w br t s hE hr ha hk hen ht
 | d+1,hd=>fun w br t s hE hr ha hk hen ht=>Y9 (d+1) _ (nA d (by omega) (xW d (by omega))) w br t s hE hr ha hk hen ht
def nC (R:Except (Nat×Nat) (AV 25×St)):Except (Nat×Nat) (AV 25×St) :=
 match R with
 | .error e=>.error e
 | .ok (x,s')=>if s'.cl≠0 then .error (1,s'.at') else .ok (x,s')
def Qc (T:List UInt8)(s:St):Except (Nat×Nat) (AV 25×St):=nC (A8 T 24 (Cb T s))
theorem nD (w:World)(br:Nat)(t:ByteArray)(s:St)(hE:Env w br)(hr:RdS w br t s 0)(hen:s.en<=t.size)(ht:t.size<=4000) :
  Calls prog 26 #[.pointer (some ⟨br,0,none⟩)] w (Hj w br t 0 24 (Qc t.data.toList s)):=by
 have hl:t.data.toList.length=t.size:=by simp
 have m:=Aa hr;obtain⟨i,f⟩:∃i,Qc t.data.toList s=i:=⟨_,rfl⟩;rw[f];unfold Qc at f;have S:=Ip t.data.toList s (by omega);have V:Hid _:=fun(W:World) (h:_)=>Kj W br t s 0 h hen ht;have L:Hid _:=fun(W:World) e r=>xW 24 (Ad9 _) W br t _ e r S.1 (Uo _ _) (by have:=S.2.1;omega) ht;have M:Hid (RdS (w.alloc (.cells #[.nilIface] 23)) br t s 0):=hr.of (P:=fun _=>True) (Fr.grew ((Ac.refl w).alloc _)) trivial;have I:Hid (Env (w.alloc (.cells #[.nilIface] 23)) br):=hE.fr (Fr.grew ((Ac.refl w).alloc _));have G:Hid ((w.alloc (.cells #[.nilIface] 23)).heap[w.heap.size]?=_):=Af rfl;have K:Hid (Fr (·≠br) w (w.alloc (.cells #[.nilIface] 23))):=(Fr.refl _ w).alloc _;generalize B:A8 _ 24 _=R at L f;have d:Hid (nC R=i):=f;clear f B hr hE S;generalize Cb t.data.toList s=s1 at L V;have p:w.heap.size≠br:=by omega
 go_enter func26,ntmps26
 go_wp2_with fail
 generalize w.alloc _=wA at M I G K |-;refine(V.out wA M.out).mono ?_;rintro e H ⟨rfl,u,j⟩;have R1:Hid (RdS H br t s1 (24-24)):=u;have E1:Hid (Env H br):=I.out.fr j;have X:Hid _:=(j.block _ (Aa G.out) p).trans G.out;have J:Hid _:=K.out.trans j;have b:=Aa X.out;clear M I G K u j;go_wp2_with fail
 refine(L.out H E1.out R1.out).mono ?_;intro e g hp;obtain⟨v,er,x,l,rfl,T,U,hw,y,A⟩:=hp.split;have st:=Ae (U.rep _ _ _).one;have N:=(T.block _ b p).trans X.out;have z:=Aa N;have o:Hid ((g.alloc (.cells #[v] 23)).heap[w.heap.size]?=_):=(Below.heap_alloc _ _ _ z).trans N;have O:Hid ((g.alloc (.cells #[v] 23)).heap[g.heap.size]?=_):=Af rfl;have n:Hid (RdS (g.alloc (.cells #[v] 23)) br t l 0):=y.of (P:=fun _=>True) (Fr.grew ((Ac.refl g).alloc _)) trivial;have E:Hid (Fr _ H (g.alloc (.cells #[v] 23))):=T.alloc _;have Q:Hid (Aj _ (g.alloc (.cells #[v] 23)) 25 x v):=U.keep (Fr.grew ((Ac.refl g).alloc _));have Y:=Ab n.out 3;have D:=Ab o.out 0;have y1:=Ad o.out 0;have y2:=Ab O.out 0;have F:Hid (Yy 24 R er x l):=A;have Z:w.heap.size≠g.heap.size:=by omega
 clear hp T U y A N;go_upto_region 3 with fail
 clear Y D y1 y2;generalize g.alloc _=WB at o O n E Q |-;have Y:=Ab n.out 3;have D:=Ab o.out 0;have y1:=Ad o.out 0;have y2:=Ab O.out 0;rcases F.out with⟨rfl,rfl⟩|⟨c,rfl,rfl⟩
 ·by_cases q:l.cl=0
  ·have b1:((l.cl:Int) != 0)=false:=by simp;omega
   have k:Hid (i=.ok (x,l)):=by show _=_;rw[<- d.out];simp[nC,q]
   have a:Hid (Hj w br t 0 24 i (.returned (.tuple #[.agg #[v],.nilIface])) (WB.setCell ⟨w.heap.size,0,none⟩ v)):=by
    rw[k.out];exact Iq m J.out (Ad9 _) b E.out Q.out hw n.out (.inl ⟨rfl,rfl⟩)
   clear q d k F;go_wp2_with fail
   have C:=World.cell?_setCell_same _ _ v D;exact Ae2 (by simp[results,results26,go_sem,C]) rfl a.out
  ·have b1:((l.cl:Int) != 0)=true:=by simp;omega
   have k:Hid (i=.error (1,l.at')):=by show _=_;rw[<- d.out];simp[nC,q]
   have a:Hid (Hj w br t 0 24 i (.returned (.tuple #[.agg #[.nilIface],.iface 61 (.int .i64 1)])) (WB.setCell ⟨w.heap.size,0,none⟩ .nilIface)):=by
    rw[k.out];exact Iq m J.out (Ad9 _) b E.out (.inl ⟨rfl,rfl⟩) (by show 1<=1024;omega) n.out (.inr ⟨1,rfl,rfl⟩)
   clear q d k F;go_wp2_with fail
   have C:=World.cell?_setCell_same _ _ .nilIface D;exact Ae2 (by simp[results,results26,go_sem,C]) rfl a.out
 ·have k:Hid (i=.error (c,l.at')):=by show _=_;rw[<- d.out];rfl
  have a:Hid (Hj w br t 0 24 i (.returned (.tuple #[.agg #[v],.iface 61 (.int .i64 (c:Int))])) (WB.setCell ⟨w.heap.size,0,none⟩ v)):=by
   rw[k.out];exact Iq m J.out (Ad9 _) b E.out Q.out hw n.out (.inr ⟨c,rfl,rfl⟩)
  clear d k F;go_wp2_with fail
  have C:=World.cell?_setCell_same _ _ v D;exact Ae2 (by simp[results,results26,go_sem,C]) rfl a.out
def hJ (w:World):Prop:=4<w.heap.size/\(∃ev,w.cell? ⟨4,0,none⟩=some ev/\(ev=.nilIface\/∃te pe,ev=.iface te pe))/\∃ev,w.cell? ⟨3,0,none⟩=some ev/\(ev=.nilIface\/∃te pe,ev=.iface te pe)
theorem hJ.env {w:World}(h:hJ w){br:Nat}(hb:4<br):Env w br:=⟨by omega,h.1,h.2.1,by omega,h.2.2⟩
theorem hJ.below {w w':World}(h:hJ w)(hb:Below w.heap.size w w'):hJ w':=by
 obtain⟨a,⟨b,d,e⟩,c,f,g⟩:=h;exact⟨Ad8 a hb.size,⟨b,(hb.cell (p:=⟨4,0,none⟩) a).trans d,e⟩,c,(hb.cell (p:=⟨3,0,none⟩) (by show 3<_;omega)).trans f,g⟩
def N4 (w:World)(R:Except (Nat×Nat) (AV 25))(e:Ending)(w':World):Prop :=
 Below w.heap.size w w'/\∃(v er:Value)(p:Nat),e=.returned (.tuple #[.agg #[v],.int .i64 (p:Int),er])/\∃x,Aj (fun k=>w.heap.size<=k) w' 25 x v/\wt 25 x<=1024 /\
  ((R=.ok x/\p=0/\er=.nilIface)\/∃c,R=.error (c,p)/\x=(Ar:Ag (AV 24))/\er=.iface 61 (.int .i64 (c:Int)))
def Tk (R:Except (Nat×Nat) (AV 25×St)):Except (Nat×Nat) (AV 25) :=
 match R with
 | .error e=>.error e
 | .ok (x,s')=>if s'.hv then .error (6,0) else .ok x
theorem iA (T:List UInt8)(h:¬4000<T.length):Fq T=Tk (Qc T ⟨0,0,0,false⟩):=by
 unfold Fq Qc;rw[if_neg h];cases A8 T 24 (Cb T ⟨0,0,0,false⟩) with
 | error e=>rfl
 | ok q =>
  obtain⟨x,s⟩:=q;by_cases c:s.cl=0
  ·simp[nC,Tk,c]
  ·simp[nC,Tk,c]
theorem qY (t:ByteArray)(w:World)(hE:hJ w)(ht:t.size<=9223372036854775806):Calls prog 9 #[.string t] w (N4 w (Fq t.data.toList)):=by
 have hl:t.data.toList.length=t.size:=by simp
 by_cases h0:4000<t.size
 ·have HR:Hid (Fq t.data.toList=.error (6,0)):=by show _=_;unfold Fq;rw[if_pos (by omega)]
  rw[HR.out];have HB:Hid (Below _ w (w.alloc (.cells #[.nilIface] 23))):=(Below.refl _ w).alloc (Ad9 _) _;clear hE hl;go_enter func9,ntmps9
  go_wp2_with fail
  exact Ae2 (by simp[results,results9,go_sem]) rfl ⟨HB.out,_,_,0,rfl,_,.inl ⟨rfl,rfl⟩,by show 1<=1024;omega,.inr ⟨6,rfl,rfl,rfl⟩⟩
 ·have r:Hid (_=Tk (Qc t.data.toList _)):=iA _ (by omega);rw[r.out];have a2:=hE.1;obtain⟨I,h⟩:∃b,b=w.heap.size+1:=⟨_,rfl⟩;have W:RdS ((w.alloc (.cells #[.nilIface] 23)).alloc (.cells #[_,.int .i64 0,.int .i64 0,.int .i64 0,.int .i64 0,.bool false] 64)) I t ⟨0,0,0,false⟩ 0:=Af (by simp[h]);have s:Env ((w.alloc (.cells #[.nilIface] 23)).alloc (.cells #[.string t,.int .i64 0,.int .i64 0,.int .i64 0,.int .i64 0,.bool false] 64)) I:=(hE.below ((((Ac.refl w).alloc _).alloc _).below)).env (by omega);have H:Hid (Calls _ 26 #[_] _ _):=nD _ I t _ s W (by simp) (by omega);have M:Hid (((w.alloc (.cells #[.nilIface] 23)).alloc (.cells #[.string t,.int .i64 0,.int .i64 0,.int .i64 0,.int .i64 0,.bool false] 64)).heap[w.heap.size]?=_):=(Below.heap_alloc _ _ _ (by simp)).trans (Af rfl);have p:Hid (Below _ w ((w.alloc (.cells #[.nilIface] 23)).alloc (.cells #[.string t,.int .i64 0,.int .i64 0,.int .i64 0,.int .i64 0,.bool false] 64))):=(((Ac.refl w).alloc _).alloc _).below;generalize Qc _ _=R at H |-;generalize y:Tk R=RR;have d:Hid (Tk R=RR):=y;rw[h] at H;have a0:Hid (I=w.heap.size+1):=h;clear y W s hE h r;have mo:=follows;go_enter func9,ntmps9
  go_wp2_with fail
  generalize (w.alloc (.cells #[.nilIface] 23)).alloc _=wA at H M p |-;refine H.out.mono ?_;intro e f X;obtain⟨v,er,x,J,rfl,n,O,hw,l,B⟩:=X.split;have st:=Ae (O.rep _ _ _).one;have A:=Aa M.out;have L:=(n.block _ A (by omega)).trans M.out;have z:=Aa L;have T:Below _ w f:=⟨n.os.trans p.out.os,n.tape.trans p.out.tape,n.output.trans p.out.output,by omega,fun k hk=>(n.block k (by omega) (by omega)).trans (p.out.block k hk)⟩;have U:Below _ w (f.alloc (.cells #[v] 23)):=T.alloc (by omega) _;have j:=Aa l;have i:=l.of (P:=fun _=>True) (Fr.grew ((Ac.refl f).alloc (.cells #[v] 23))) trivial;have g:Hid ((f.alloc (.cells #[v] 23)).heap[w.heap.size]?=_):=(Below.heap_alloc _ _ _ z).trans L;have N:Hid ((f.alloc (.cells #[v] 23)).heap[f.heap.size]?=_):=Af rfl;have V:Hid (Aj (fun k=>w.heap.size<=k/\k≠w.heap.size) (f.alloc (.cells #[v] 23)) 25 x v):=O.fr (Fr.grew ((Ac.refl f).alloc _)) (fun k _ hk=>⟨by omega,by omega⟩) _ _ _;have F:Hid (∀u,Below _ w ((f.alloc (.cells #[v] 23)).setCell ⟨w.heap.size,0,none⟩ u)):=fun u=>U.setCell (Ad9 _) u;have D:=Ab g.out 0;have Y:=Ad g.out 0;have Z:=Ab N.out 0;have K:=Ab i 1;have E:=Ab i 5;have a1:w.heap.size+1<f.heap.size:=j;have G:Hid (Yy 24 R er x J):=B;clear X n O l B L T U j;go_upto_region 5 with fail
  clear D Y Z K E;generalize f.alloc _=WB at g N V F i |-;have D:=Ab g.out 0;have Y:=Ad g.out 0;have Z:=Ab N.out 0;have K:=Ab i 1;have E:=Ab i 5;have Q:=Ab ((Fr.refl (fun _=>True) WB).drew.block _ (Aa g.out) trivial |>.trans g.out) 0;have S:=Ad ((Fr.refl (fun _=>True) WB).drew.block _ (Aa g.out) trivial |>.trans g.out) 0;have m:=Ab ((Fr.refl (fun _=>True) WB).drew.block _ (Aa i) trivial |>.trans i) 1;clear i;rcases G.out with⟨rfl,rfl⟩|⟨c,rfl,rfl⟩
  ·cases o:J.hv with
   | false =>
    rw[o] at E;have q:Hid (RR=.ok x):=by show _=_;rw[<- d.out];simp[Tk,o]
    clear o d G K m;have a:Hid (N4 w RR (.returned (.tuple #[_,.int .i64 0,_])) _) :=
     ⟨F.out v,v,_,0,rfl,x,V.out.boxed (w:=w) v rfl,hw,.inl ⟨q.out,rfl,rfl⟩⟩
    go_wp2_with fail
    have C:=World.cell?_setCell_same _ _ v D;exact Ae2 (by simp[results,results9,go_sem,C]) rfl a.out
   | true =>
    rw[o] at E;have q:Hid (RR=.error (6,0)):=by show _=_;rw[<- d.out];simp[Tk,o]
    clear o d G K m;have a:Hid (N4 w RR (.returned (.tuple #[_,.int .i64 0,.iface 61 (.int .i64 6)])) (WB.setCell _ .nilIface)) :=
     ⟨F.out _,_,_,0,rfl,_,.inl ⟨rfl,rfl⟩,by show 1<=1024;omega,.inr ⟨6,q.out,rfl,rfl⟩⟩
    go_wp2_with fail
    have C:=World.cell?_setCell_same _ _ .nilIface D;exact Ae2 (by simp[results,results9,go_sem,C]) rfl a.out
  ·have q:Hid (RR=.error (c,J.at')):=by show _=_;rw[<- d.out];rfl
   clear d G E;have a:Hid (N4 w RR _ (WB.setCell ⟨w.heap.size,0,none⟩ .nilIface).drew) :=
    ⟨(F.out _).drew,_,_,J.at',rfl,_,.inl ⟨rfl,rfl⟩,by show 1<=1024;omega,.inr ⟨c,q.out,rfl,rfl⟩⟩
   go_wp2_with fail
   go_region
   all_goals
    clear S m Q;go_wp2_with fail
   have C:=World.cell?_setCell_same _ _ .nilIface D;exact Ae2 (by simp[results,results9,go_sem,C]) rfl a.out
end Go.Proofs.YtdpeliifdlhhkaaGreatDoor.Sx
