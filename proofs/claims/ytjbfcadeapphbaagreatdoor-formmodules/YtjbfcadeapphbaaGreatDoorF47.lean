/- The reference: a module as text. -/
import Derived.Test.YtjbfcadeapphbaaGreatDoorF46
namespace Go.Proofs.YtjbfcadeapphbaaGreatDoor.Sx
set_option maxRecDepth 100000
set_option maxHeartbeats 40000000
open Go.RowKit Go.Sort
theorem N9 (w:World)(lo b:Nat)(tx:List UInt8)(h:nF lo w b tx)(hl:tx.length<=1000000000) :
  Calls Tryz.prog 12 #[.pointer (some ⟨b,0,none⟩)] w fun e w'=>e=.returned (.string ⟨tx.toArray⟩)/\Ad w w':=by
 obtain⟨v,sl,n,vs,J,hM,hO,hn,i6,hV,I⟩:=h;have M0:Hid (Iw w b v sl):=hM;have O0:Hid (w.ownsRow lo 71 6 sl n vs):=hO;have V0:Hid (Eo (fun _=>True) w J vs):=hV;have HN:Hid (n=J.length):=hn;obtain⟨R,U⟩:∃R,Cq++[32]++v.data.toList++[10]=R:=⟨_,rfl⟩;rw[U] at I;have HD:Hid ((⟨#[109,111,100,117,108,101,32]⟩:ByteArray)++v++⟨#[10]⟩=⟨R.toArray⟩):=by
  show _=_;rw[<- U,mC (b:=v) rfl];exact ByteArray.ext (by simp[ByteArray.data_append,Cq])
 have F:v.data.toList.length=v.size:=by simp
 have e9:R.length=8+v.size:=by rw[<- U];simp[Cq];omega
 have d8:Hid (∀k,R.length+(Db (J.take k)).length<=1000000000):=fun k=>by have:=Ym J k;rw[I,List.length_append] at hl;omega
 have a4:Hid (R++Db (J.take n)=tx):=by show _=_;rw[I,List.take_of_length_le (by omega)]
 have i7:¬9223372036854775807<7+v.size:=by rw[I,List.length_append] at hl;omega
 have i8:¬9223372036854775807<7+v.size+1:=by rw[I,List.length_append] at hl;omega
 obtain⟨sa,sc,rfl⟩:=Gi hO;have c0:=Aa hM 0;have c1:=Aa hM 1;have i3:=Ac hM;clear hM hO hV hn hl I U F e9;have mo:=follows;go_enter Tryz.func12,Tryz.ntmps12
 go_wp2_with fail
 rw[HD.out];go_loopw [3,4] (fun s3 i wr=>∃k:Nat,k<=n/\i=.int .i64 (k:Int)/\s3=.string ⟨(R++Db (J.take k)).toArray⟩/\Hid (Ad w wr)) (fun _ i _=>n-(intOf i).toNat)
 case atStart=>exact⟨0,Nat.zero_le _,rfl,by simp[Db],Ad.refl _⟩
 case round =>
  clear c0 c1;obtain⟨k,hk,rfl,rfl,HG⟩:=hrel;have c1:=Aa (M0.out.of (P:=fun _=>True) (Fr.grew HG.out) trivial) 1;by_cases hlt:k<n
  ·obtain⟨l,hx⟩:∃l,J[k]?=some l:=⟨_,List.getElem?_eq_getElem (by have:=HN.out;omega)⟩;obtain⟨d0,d1,d2,d3,d4,d5,g0,g1,g2,g3,g4,g5,c5⟩:=Eo.at _ _ (Eo.fr (Q:=fun _=>True) (Fr.grew HG.out) (fun _ _ q=>q) _ _ V0.out) k l hx;obtain⟨c,f,a,i9,y1,y2,y3,px,C,ms,d,ox,c3,V,-,c9,c8,d6,E⟩:=c5;have c2:wr.ownsRow lo 71 6 (.slice sa n sc) n vs:=Cl O0.out (fun g _ _ hlt=>HG.out.below.block g hlt);obtain⟨g,h8,B,h6,r⟩:=Ti c2 g0;have M:=r _ _ g0;have e1:=r _ _ g1;have e2:=r _ _ g2;have e3:=r _ _ g3;have e4:=r _ _ g4;have e5:=r _ _ g5;simp only[Value.slice.injEq] at B;obtain⟨h3,-,rfl⟩:=B;subst h3;simp only[Value.agg.injEq,Array.mk.injEq,List.cons.injEq,and_true] at c3;obtain⟨rfl,rfl,rfl,rfl,rfl,rfl⟩:=c3;obtain⟨am,cm,rfl⟩:=Gi V;obtain⟨d7,m,a0⟩:=E.tx;have HX:Hid (J[k]?=some l):=hx;have a8:Hid (wr.ownsRow 0 9 1 (.slice am C cm) C ms):=V;obtain⟨s,hs⟩:∃s,R++Db (J.take k)=s:=⟨_,rfl⟩;have b9:Hid (R++Db (J.take (k+1))=s++Gu c.data.toList f.data.toList d ox++[10]):=by show _=_;rw[Mh J k l hx,<- hs,a0];simp
   have hL:=d8.out (k+1);rw[Mh J k l hx,a0,List.length_append,List.length_append] at hL;have B:s.length+(Gu c.data.toList f.data.toList d ox).length<=999999999:=by
    have:s.length=R.length+(Db (J.take k)).length:=by rw[<- hs,List.length_append]
    simp only[List.length_cons,List.length_nil] at hL;omega
   have T:Hid (s.length+(Gu c.data.toList f.data.toList d ox).length<=999999999):=B;have W:C<=maxLen:=jA V;have g9:C<=9223372036854775807:=by unfold maxLen at W;omega
   clear W;rw[hs];have H:Hid (C=d.length):=c9;have a7:Hid (ms=d.map Pc):=c8;have a9:Hid (OxT (fun _=>True) wr (.pointer px) ox):=d6;have h7:Hid (c.data.toList∈jB):=d7;have HM:Hid (Jt c.data.toList f.data.toList d ox l):=E;clear hx g0 g1 g2 g3 g4 g5 c2 r V E hs hL B c9 c8 d6 d7 a0;go_upto_region 6 with fail
   have K:Hid (Ai (wr.alloc (.cells #[.string c,.string f,.int .i64 a,.slice am C cm,.slice y1 y2 y3,.pointer px] 71)) wr.heap.size c f a (.slice am C cm) (.slice y1 y2 y3) (.pointer px)):=Af rfl;have GX:Hid (Ad wr (wr.alloc (.cells #[.string c,.string f,.int .i64 a,.slice am C cm,.slice y1 y2 y3,.pointer px] 71))):=(Ad.refl wr).alloc _;clear M e1 e2 e3 e4 e5 c1;generalize wr.alloc (.cells #[.string c,.string f,.int .i64 a,.slice am C cm,.slice y1 y2 y3,.pointer px] 71)=W1 at K GX |-;obtain⟨bd,c4⟩:∃bd,wr.heap.size=bd:=⟨_,rfl⟩;rw[c4] at K |-;clear c4;have a6:Hid (c.data.toList=B2\/c.data.toList=Aq\/d=[]):=m;clear m;have a5:Hid (∀j x,d[j]?=some x->∃gm,am=some ⟨gm,0,none⟩/\gm<W1.heap.size/\W1.cell? ⟨gm,j,none⟩=some (.string ⟨x.toArray⟩)):=fun j x hj=>by
    have hO:=Cl (w':=W1) a8.out (fun g _ _ hlt=>GX.out.below.block g hlt);have hv:ms[j]?=some (.string ⟨x.toArray⟩):=by rw[a7.out,List.getElem?_map,hj];rfl
    obtain⟨gm,h5,X,g8,e7⟩:=Ti hO hv;simp only[Value.slice.injEq] at X;exact⟨gm,X.1,g8,e7 j _ hv⟩
   clear a8 a7;cases ox with
   | none =>
    rcases HM.out with⟨o,-,m,x,⟨⟩,-⟩|⟨o|o,m,-,-⟩|⟨o,m,-,-⟩|⟨o,-,-⟩|⟨o,m,x,⟨⟩,-⟩|⟨o,m,x,⟨⟩,-⟩|⟨o,m,x,⟨⟩,-⟩
    all_goals cases b0:(c.toList==[119,101,97,107])
    all_goals try (exfalso;rw[ByteArray.toList_eq,o] at b0;revert b0;decide)
    all_goals cases b1:(c.toList==[115,116,114,111,110,103])
    all_goals try (exfalso;rw[ByteArray.toList_eq,o] at b1;revert b1;decide)
    all_goals cases b2:(c.toList==[99,111,110,115,116,97,110,116])
    all_goals try (exfalso;rw[ByteArray.toList_eq,o] at b2;revert b2;decide)
    all_goals cases b3:(c.toList==[97,116,111,109,115])
    all_goals try (exfalso;rw[ByteArray.toList_eq,o] at b3;revert b3;decide)
    all_goals cases b4:(c.toList==[118,97,114,105,97,98,108,101])
    all_goals try (exfalso;rw[ByteArray.toList_eq,o] at b4;revert b4;decide)
    all_goals cases b5:(c.toList==[100,101,102,105,110,101])
    all_goals try (exfalso;rw[ByteArray.toList_eq,o] at b5;revert b5;decide)
    all_goals cases b6:(c.toList==[97,99,116,105,111,110])
    all_goals try (exfalso;rw[ByteArray.toList_eq,o] at b6;revert b6;decide)
    all_goals cases b7:(c.toList==[105,110,118,97,114,105,97,110,116])
    all_goals try (exfalso;rw[ByteArray.toList_eq,o] at b7;revert b7;decide)
    all_goals cases b8:(c.toList==[112,114,111,112,101,114,116,121])
    all_goals try (exfalso;rw[ByteArray.toList_eq,o] at b8;revert b8;decide)
    all_goals
     try (have Y:Hid (d=[]):=m;clear m)
     try (have Z:Hid (d≠[]):=m;clear m)
     have x0:=Aa K.out 0;have x1:=Aa K.out 1;have x3:=Aa K.out 3;have x5:=Aa K.out 5;have e6:=Ac K.out;have O:c.data.toList.length=c.size:=by simp
     have F:f.data.toList.length=f.size:=by simp
     have hB:=Tl c.data.toList f.data.toList d none;have B:=T.out;rw[O,F] at hB;have z0:¬9223372036854775807<5+c.size:=by omega
     have z1:¬9223372036854775807<s.length+c.size:=by omega
     have z2:¬9223372036854775807<s.length+c.size+1:=by omega
     have z3:¬9223372036854775807<s.length+c.size+1+f.size:=by omega
     have z4:¬9223372036854775807<s.length+(5+c.size):=by omega
     have z5:¬9223372036854775807<s.length+(5+c.size)+1:=by omega
     have z6:¬9223372036854775807<s.length+(5+c.size)+1+f.size:=by omega
     have HB:Hid (c.size+1+f.size+(K0 c.data.toList d).length+0<=(Gu c.data.toList f.data.toList d none).length):=hB;have L:Hid ((Bj d).length<=999999999):=by
      have:=Tm a6.out;show _<=_;omega
     have HW:Hid (c.data.toList=_):=o;clear o O F hB B;go_wp2_with fail
     go_loopw [7,8] (fun s7 s8 wx=>∃j:Nat,j<=C/\s8=.int .i64 (j:Int)/\s7=.string ⟨(Hy d j).toArray⟩/\W1=wx) (fun _ i _=>C-(intOf i).toNat)
     case atStart=>exact⟨0,Nat.zero_le _,rfl,by simp[Hy,Bj,Bh],rfl⟩
     case round =>
      obtain⟨j,hj,rfl,rfl,a3⟩:=hrel;obtain rfl:=a3.symm;by_cases g7:j<C
      ·obtain⟨z,hz⟩:∃z,d[j]?=some z:=⟨_,List.getElem?_eq_getElem (by have:=H.out;omega)⟩;obtain⟨gm,rfl,e8,cg⟩:=a5.out j z hz;have G:=Rc d j z hz;have u:=Nat.le_trans (Yl d (j+1)) L.out;rw[G] at u;simp only[List.length_append] at u;have A:Hid (Hy d (j+1)=Hy d j++(Br j++z)):=G;obtain⟨p,hp⟩:∃p,Hy d j=p:=⟨_,rfl⟩;rw[hp] at A u |-;clear hz G hp;by_cases D:j=0
       ·subst D;have M:Br 0=[]:=rfl;rw[M] at A u;have q1:¬9223372036854775807<p.length+z.length:=by simp at u;omega
        go_wp2_with fail
        go_roundw
        case rel=>exact⟨1,by omega,by go_num,by show Value.string (_++_)=_;rw[Mc,A.out];rfl,trivial⟩
        case measure=>simp[intOf];omega
       ·have M:Br j=[44,32]:=by unfold Br;rw[if_neg D]
        rw[M] at A u;simp only[List.length_cons,List.length_nil] at u;have q1:¬9223372036854775807<p.length+2:=by omega
        have q2:¬9223372036854775807<p.length+2+z.length:=by omega
        have g6:(0:Int)<(j:Int):=by omega
        clear M D;go_wp2_with fail
        go_roundw
        case rel=>exact⟨j+1,by omega,by go_num,by show Value.string ((⟨p.toArray⟩++⟨[44,32].toArray⟩)++⟨z.toArray⟩)=_;rw[Mc,Mc,A.out,List.append_assoc],trivial⟩
        case measure=>simp[intOf];omega
      ·obtain rfl:j=C:=by omega
       rw[Tj d j (by have:=H.out;omega)];have hq:=HB.out;have a1:=T.out;have a2:=L.out;have y1:¬9223372036854775807<s.length+c.size+1+f.size+4:=by omega
       have y2:¬9223372036854775807<s.length+c.size+1+f.size+4+(Bj d).length:=by omega
       have y3:¬9223372036854775807<s.length+c.size+1+f.size+4+(Bj d).length+1:=by omega
       have y4:¬9223372036854775807<s.length+c.size+1+f.size+4+(Bj d).length+1+1:=by omega
       have y5:¬9223372036854775807<s.length+c.size+1+f.size+1:=by omega
       have y6:¬9223372036854775807<s.length+(5+c.size)+1+f.size+1:=by omega
       have h0:px=none:=by have:=a9.out;simpa [OxT] using this
       subst h0;clear hq a1 a2;go_wp2_with fail
       go_roundw
       case rel=>exact⟨k+1,by omega,by go_num,by rw[b9.out];exact congrArg Value.string (ByteArray.ext (Array.toList_inj.1 (by simp[ByteArray.data_append,Gu,K0,HW.out,B1,Eb,Bz,B2,Aq,Bl,Bo,Ep]))),HG.out.trans GX.out⟩
       case measure=>simp[intOf];omega
   | some y =>
    rcases HM.out with⟨o,-,m,x,-,-⟩|⟨-,-,⟨⟩,-⟩|⟨-,-,⟨⟩,-⟩|⟨-,⟨⟩,-⟩|⟨o,m,x,-,-⟩|⟨o,m,x,-,-⟩|⟨o|o|o,m,x,-,-⟩
    all_goals try (simp only[Ep,List.mem_cons,List.not_mem_nil,or_false] at o;rcases o with o|o|o)
    all_goals cases b0:(c.toList==[119,101,97,107])
    all_goals try (exfalso;rw[ByteArray.toList_eq,o] at b0;revert b0;decide)
    all_goals cases b1:(c.toList==[115,116,114,111,110,103])
    all_goals try (exfalso;rw[ByteArray.toList_eq,o] at b1;revert b1;decide)
    all_goals cases b2:(c.toList==[99,111,110,115,116,97,110,116])
    all_goals try (exfalso;rw[ByteArray.toList_eq,o] at b2;revert b2;decide)
    all_goals cases b3:(c.toList==[97,116,111,109,115])
    all_goals try (exfalso;rw[ByteArray.toList_eq,o] at b3;revert b3;decide)
    all_goals cases b4:(c.toList==[118,97,114,105,97,98,108,101])
    all_goals try (exfalso;rw[ByteArray.toList_eq,o] at b4;revert b4;decide)
    all_goals cases b5:(c.toList==[100,101,102,105,110,101])
    all_goals try (exfalso;rw[ByteArray.toList_eq,o] at b5;revert b5;decide)
    all_goals cases b6:(c.toList==[97,99,116,105,111,110])
    all_goals try (exfalso;rw[ByteArray.toList_eq,o] at b6;revert b6;decide)
    all_goals cases b7:(c.toList==[105,110,118,97,114,105,97,110,116])
    all_goals try (exfalso;rw[ByteArray.toList_eq,o] at b7;revert b7;decide)
    all_goals cases b8:(c.toList==[112,114,111,112,101,114,116,121])
    all_goals try (exfalso;rw[ByteArray.toList_eq,o] at b8;revert b8;decide)
    all_goals
     try (have Y:Hid (d=[]):=m;clear m)
     try (have Z:Hid (d≠[]):=m;clear m)
     have x0:=Aa K.out 0;have x1:=Aa K.out 1;have x3:=Aa K.out 3;have x5:=Aa K.out 5;have e6:=Ac K.out;have O:c.data.toList.length=c.size:=by simp
     have F:f.data.toList.length=f.size:=by simp
     have hB:=Tl c.data.toList f.data.toList d (some y);have B:=T.out;rw[O,F] at hB;have z0:¬9223372036854775807<5+c.size:=by omega
     have z1:¬9223372036854775807<s.length+c.size:=by omega
     have z2:¬9223372036854775807<s.length+c.size+1:=by omega
     have z3:¬9223372036854775807<s.length+c.size+1+f.size:=by omega
     have z4:¬9223372036854775807<s.length+(5+c.size):=by omega
     have z5:¬9223372036854775807<s.length+(5+c.size)+1:=by omega
     have z6:¬9223372036854775807<s.length+(5+c.size)+1+f.size:=by omega
     have HB:Hid (c.size+1+f.size+(K0 c.data.toList d).length+y.tx.length<=(Gu c.data.toList f.data.toList d (some y)).length):=hB;have L:Hid ((Bj d).length<=999999999):=by
      have:=Tm a6.out;show _<=_;omega
     have HW:Hid (c.data.toList=_):=o;clear o O F hB B;go_wp2_with fail
     go_loopw [7,8] (fun s7 s8 wx=>∃j:Nat,j<=C/\s8=.int .i64 (j:Int)/\s7=.string ⟨(Hy d j).toArray⟩/\W1=wx) (fun _ i _=>C-(intOf i).toNat)
     case atStart=>exact⟨0,Nat.zero_le _,rfl,by simp[Hy,Bj,Bh],rfl⟩
     case round =>
      obtain⟨j,hj,rfl,rfl,a3⟩:=hrel;obtain rfl:=a3.symm;by_cases g7:j<C
      ·obtain⟨z,hz⟩:∃z,d[j]?=some z:=⟨_,List.getElem?_eq_getElem (by have:=H.out;omega)⟩;obtain⟨gm,rfl,e8,cg⟩:=a5.out j z hz;have G:=Rc d j z hz;have u:=Nat.le_trans (Yl d (j+1)) L.out;rw[G] at u;simp only[List.length_append] at u;have A:Hid (Hy d (j+1)=Hy d j++(Br j++z)):=G;obtain⟨p,hp⟩:∃p,Hy d j=p:=⟨_,rfl⟩;rw[hp] at A u |-;clear hz G hp;by_cases D:j=0
       ·subst D;have M:Br 0=[]:=rfl;rw[M] at A u;have q1:¬9223372036854775807<p.length+z.length:=by simp at u;omega
        go_wp2_with fail
        go_roundw
        case rel=>exact⟨1,by omega,by go_num,by show Value.string (_++_)=_;rw[Mc,A.out];rfl,trivial⟩
        case measure=>simp[intOf];omega
       ·have M:Br j=[44,32]:=by unfold Br;rw[if_neg D]
        rw[M] at A u;simp only[List.length_cons,List.length_nil] at u;have q1:¬9223372036854775807<p.length+2:=by omega
        have q2:¬9223372036854775807<p.length+2+z.length:=by omega
        have g6:(0:Int)<(j:Int):=by omega
        clear M D;go_wp2_with fail
        go_roundw
        case rel=>exact⟨j+1,by omega,by go_num,by show Value.string ((⟨p.toArray⟩++⟨[44,32].toArray⟩)++⟨z.toArray⟩)=_;rw[Mc,Mc,A.out,List.append_assoc],trivial⟩
        case measure=>simp[intOf];omega
      ·obtain rfl:j=C:=by omega
       rw[Tj d j (by have:=H.out;omega)];have hq:=HB.out;have a1:=T.out;have a2:=L.out;have h4:y.tx.length<=999999999:=by omega
       obtain⟨tn,N⟩:=a9.out;obtain⟨bp,rfl⟩:=Fc.ptrT N;have S:Hid (Calls _ _ _ _ _):=prT tn (fun _=>True) wr y (.pointer (some ⟨bp,0,none⟩)) 0 (N.grew GX.out) (by omega) (by omega);rw[Hx] at S;obtain⟨t,ht⟩:∃t,y.tx=t:=⟨_,rfl⟩;rw[ht] at S hq;have d9:Hid (y.tx=t):=ht;clear ht N;have f0:¬9223372036854775807<s.length+c.size+1+f.size+t.length:=by omega
       have f1:¬9223372036854775807<s.length+c.size+1+f.size+t.length+1:=by omega
       have f2:¬9223372036854775807<s.length+c.size+1+f.size+3:=by omega
       have f3:¬9223372036854775807<s.length+c.size+1+f.size+3+t.length:=by omega
       have f4:¬9223372036854775807<s.length+c.size+1+f.size+3+t.length+1:=by omega
       have f5:¬9223372036854775807<s.length+c.size+1+f.size+4:=by omega
       have f6:¬9223372036854775807<s.length+c.size+1+f.size+4+t.length:=by omega
       have f7:¬9223372036854775807<s.length+c.size+1+f.size+4+t.length+1:=by omega
       have f8:¬9223372036854775807<s.length+c.size+1+f.size+1+(Bj d).length+1+4:=by omega
       have f9:¬9223372036854775807<s.length+c.size+1+f.size+1+(Bj d).length+1+4+t.length:=by omega
       have h9:¬9223372036854775807<s.length+c.size+1+f.size+1+(Bj d).length+1+4+t.length+1:=by omega
       have i0:¬9223372036854775807<s.length+c.size+1+f.size+1:=by omega
       have i1:¬9223372036854775807<s.length+c.size+1+f.size+1+(Bj d).length:=by omega
       have i2:¬9223372036854775807<s.length+c.size+1+f.size+1+(Bj d).length+1:=by omega
       try (have i4:¬(0:Int)<(j:Int):=by have h1:=H.out;have h2:=Y.out;rw[h2] at h1;simp at h1;omega)
       try (have i5:(0:Int)<(j:Int):=by have h1:=H.out;have h2:=List.length_pos_iff.2 Z.out;omega)
       clear hq a1 a2 h4;go_wp2_with fail
       refine S.out.mono ?_;rintro e W9 ⟨rfl,c6⟩;have G9:Hid (Ad w W9):=HG.out.trans (GX.out.trans c6);clear c6 S;go_wp2_with fail
       first|have c7:=Y.out|have c7:=Z.out
       go_roundw
       case rel=>exact⟨k+1,by omega,by go_num,by rw[b9.out];exact congrArg Value.string (ByteArray.ext (Array.toList_inj.1 (by simp[ByteArray.data_append,Gu,K0,HW.out,d9.out,c7,Ea,Eb,Bz,B2,Aq,Bl,Bo,Ep]))),G9⟩
       case measure=>simp[intOf];omega
  ·obtain rfl:k=n:=by omega
   go_wp2_with fail
   go_ret
   exact⟨by rw[a4.out];rfl,HG.out⟩
end Go.Proofs.YtjbfcadeapphbaaGreatDoor.Sx
