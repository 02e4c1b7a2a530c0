/- The reference: its reader, at every level; what it tells of a text. -/
import Derived.Test.YtdpeliifdlhhkaaGreatDoorM18
namespace Go.Proofs.YtdpeliifdlhhkaaGreatDoor.Sx
open Go.RowKit Go.Sort Tryz
set_option maxRecDepth 100000
set_option maxHeartbeats 8000000
theorem dY:∀d,d<=24->dS d
 | 0,_=>Tt 0 (Ts _ _ _ (.inl rfl) rfl (by decide)) (Ts _ _ _ (.inr (.inl rfl)) rfl (by decide)) bG
 | k+1,h=>by
  have V:=dY k (by omega);refine Tt (k+1) (Tr k V (by omega) _ _ _ (.inl rfl) (.inr (.inl rfl)) (by decide) (by decide) (fun T S q=>Qx q)) ?_ (bE k V (by omega));refine Tr k V (by omega) _ _ _ ?_ ?_ (by decide) (by decide) (fun T S q=>Qy q)
  ·exact .inr (.inr (.inr (.inr (.inr (.inr (.inl rfl))))))
  ·exact .inr (.inr (.inr (.inr (.inr (.inr (.inr rfl))))))
theorem Wk (l:List UInt8):(De l).1=2\/(De l).1=5:=by
 unfold De
 repeat' split
 ·exact .inr rfl
 ·exact .inl rfl
 ·exact .inr rfl
theorem sA (l:List UInt8)(h:l.length≠0):(Fa l).1≠0:=by
 unfold Fa;rw[if_neg h];split
 ·exact Nat.one_ne_zero
 ·split
  ·rcases Wk l with q|q<;>rw[q]<;>decide
  ·split
   ·unfold Po;split
    ·decide
    ·rcases Wk (l.drop 1) with q|q
     ·show(De (l.drop 1)).1≠0;rw[q];decide
     ·show(De (l.drop 1)).1≠0;rw[q];decide
   ·split
    ·rcases J5 (l.drop 1) 1 with q|q<;>rw[q]<;>decide
    ·unfold Kz
     repeat' split
     all_goals decide
theorem oB {T:List UInt8}{x:AV 25}{s':RSt}(ht:T.length<=4000)(h:Ck T (A8 T 24 (pos T 0 false)) ⟨0,0,0,0,false⟩ x s') :
  (s'.e≠0->Fq T=.error (s'.e,s'.bad))/\(s'.e=0->Av T s'.at'<T.length->Fq T=.error (1,Av T s'.at')) /\
  (s'.e=0->Av T s'.at'=T.length->s'.hv=true->Fq T=.error (6,0))/\(s'.e=0->Av T s'.at'=T.length->s'.hv=false->Fq T=.ok x):=by
 obtain⟨l,m,n,o,k⟩:=h;have f:Fq T=match A8 T 24 (pos T 0 false) with
  | .error e=>.error e
  | .ok (v,s)=>if s.cl≠0 then .error (1,s.at') else if s.hv then .error (6,0) else .ok v:=by
  unfold Fq;rw[if_neg (by omega)];rfl
 rcases k rfl with⟨c,g⟩|⟨c,g⟩
 ·rw[g] at f;have a:(pos T s'.at' s'.hv).cl=(Fa (T.drop (Av T s'.at'))).1:=rfl;have j:(pos T s'.at' s'.hv).at'=Av T s'.at':=rfl;have d:(pos T s'.at' s'.hv).hv=s'.hv:=rfl;have b:Fq T=if _≠0 then _ else _:=f;refine⟨fun q=>absurd c q,fun _ q=>?_,fun _ q q2=>?_,fun _ q q2=>?_⟩
  ·rw[b,if_pos (by rw[a];exact sA _ (by rw[List.length_drop];omega)),j]
  ·have i:T.drop (Av T s'.at')=[]:=List.drop_eq_nil_of_le (by omega);rw[b,if_neg (by rw[a,i,lG];simp),if_pos (by rw[d];exact q2)]
  ·have i:T.drop (Av T s'.at')=[]:=List.drop_eq_nil_of_le (by omega);rw[b,if_neg (by rw[a,i,lG];simp),if_neg (by rw[d,q2];simp)]
 ·rw[g] at f;exact⟨fun _=>f,fun q=>absurd q c,fun q=>absurd q c,fun q=>absurd q c⟩
def Zp (w:World)(R:Except (Nat×Nat) (AV 25))(e:Ending)(w':World):Prop :=
 ∃(v:Value)(x:AV 25)(bad c:Nat),e=.returned (.tuple #[v,.int .i64 (bad:Int),.int .i64 (c:Int)])/\Fr (fun _=>True) w w'/\Ref (fun k=>w.heap.size<=k) w' 25 x v/\((R=.ok x/\c=0/\bad=0)\/(R=.error (c,bad)/\c≠0/\x=(Ar:Ag (AV 24))))
theorem sB {w W:World}{v0 v1 v2 v3 v4 c0 c1 c2 c3 c4:Value}{x:AV 25}{R:Except (Nat×Nat) (AV 25)}{bad c:Nat}(x2:W.heap[w.heap.size]?=some (.cells #[v0,v1,v2,v3,v4] 30 (0,0)))(F:Fr (fun _=>True) w W)(RF:Ref (fun k=>w.heap.size+1<=k) W 25 x (.agg #[c0,c1,c2,c3,c4]))(hR:(R=.ok x/\c=0/\bad=0)\/(R=.error (c,bad)/\c≠0/\x=(Ar:Ag (AV 24)))) :
  (Ao W w.heap.size 0 c0 c1 c2 c3 c4).heap[w.heap.size]?=some (.cells #[c0,c1,c2,c3,c4] 30 (0,0))/\Zp w R (.returned (.tuple #[.agg #[c0,c1,c2,c3,c4],.int .i64 (bad:Int),.int .i64 (c:Int)])) (Ao W w.heap.size 0 c0 c1 c2 c3 c4):=by
 refine⟨Bc x2 c0 c1 c2 c3 c4,_,x,bad,c,rfl,Qh F (Ad9 _) 0 c0 c1 c2 c3 c4,?_,hR⟩;exact RF.fr (Cz (Fr.refl _ W) (by omega) _ _ _ _ _ _) (fun k _ hk=>by omega) _ _ _
theorem iM (w:World)(t:ByteArray)(ht:4000<t.size)(hs:t.size<=9223372036854775806):Calls prog 10 #[.string t] w (Zp w (Fq t.data.toList)):=by
 have a:t.data.toList.length=t.size:=by simp
 have d:Hid (Fq t.data.toList=.error (6,0)):=by show _=_;unfold Fq;rw[if_pos (by omega)]
 rw[d.out];clear a;have c:Hid ((w.alloc _).heap[w.heap.size]?=some (.cells #[.int .i64 0,.int .i64 0,.string ⟨#[]⟩,.slice none 0 0,.slice none 0 0] 30 (0,0))):=Af rfl;have b:Hid (Ac w (w.alloc (.cells #[.int .i64 0,.int .i64 0,.string ⟨#[]⟩,.slice none 0 0,.slice none 0 0] 30))):=(Ac.refl w).alloc _;go_enter func10,ntmps10
 go_wp2_with fail
 generalize w.alloc _=W0 at c b |-;obtain⟨e,f,g,h,i⟩:=Ah c.out;exact Ae2 (by simp[results,results10,go_sem,e,f,g,h,i,Bk]) rfl ⟨Bk,_,0,6,rfl,Fr.grew b.out,Cm _ _ 24,.inr ⟨rfl,by decide,rfl⟩⟩
theorem dZ (w:World)(t:ByteArray)(ht:t.size<=4000):Calls prog 10 #[.string t] w (Zp w (Fq t.data.toList)):=by
 have G:t.data.toList.length=t.size:=by simp
 obtain⟨z,hP⟩:∃z,Zp w (Fq t.data.toList)=z:=⟨_,rfl⟩;have s:Hid (∀(W:World)(x:AV 25)(V C X h j:Value)(B c:Nat),W.heap[w.heap.size]?=some (.cells #[.int .i64 0,.int .i64 0,.string ⟨#[]⟩,.slice none 0 0,.slice none 0 0] 30 (0,0))->Fr (·≠w.heap.size+1) w W->Ref (fun k=>w.heap.size+2<=k) W 25 x (.agg #[V,C,X,h,j]) ->
   ((Fq t.data.toList=.ok x/\c=0/\B=0)\/(Fq t.data.toList=.error (c,B)/\c≠0/\x=(Ar:Ag (AV 24)))) ->
   (Ao W w.heap.size 0 V C X h j).heap[w.heap.size]?=some (.cells #[V,C,X,h,j] 30 (0,0))/\z (.returned (.tuple #[.agg #[V,C,X,h,j],.int .i64 (B:Int),.int .i64 (c:Int)])) (Ao W w.heap.size 0 V C X h j)/\z (.returned (.tuple #[.agg #[V,C,X,h,j],.int .i64 (B:Int),.int .i64 (c:Int)])) (Ao W w.heap.size 0 V C X h j).drew):=by
  intro W x V C X h j B c q1 q2 q3 q4;rw[<- hP];have Z:=sB q1 ⟨q2.os,q2.tape,q2.output,q2.size,fun i hi _=>q2.block i hi (by omega)⟩ (q3.fr (Fr.refl _ W) (fun k _ hk=>by omega) _ _ _) q4;refine⟨Z.1,Z.2,?_⟩;obtain⟨v,y,bd,cc,e,F,RF,hR⟩:=Z.2;exact⟨v,y,bd,cc,e,F.drew,RF.grew ((Ac.refl _).drew),hR⟩
 rw[hP];clear hP;have G0:Hid (Ac w ((w.alloc (.cells #[.int .i64 0,.int .i64 0,.string ⟨#[]⟩,.slice none 0 0,.slice none 0 0] 30)).alloc (.cells #[.string t,.int .i64 0,.int .i64 0,.int .i64 0,.int .i64 0,.bool false] 69))):=((Ac.refl w).alloc _).alloc _;have x2:Hid (((w.alloc (.cells #[.int .i64 0,.int .i64 0,.string ⟨#[]⟩,.slice none 0 0,.slice none 0 0] 30)).alloc (.cells #[.string t,.int .i64 0,.int .i64 0,.int .i64 0,.int .i64 0,.bool false] 69)).heap[w.heap.size]?=_):=Ac1 ((Ac.refl _).alloc _).below (Af rfl);have R0:Hid (RR ((w.alloc (.cells #[.int .i64 0,.int .i64 0,.string ⟨#[]⟩,.slice none 0 0,.slice none 0 0] 30)).alloc (.cells #[.string t,.int .i64 0,.int .i64 0,.int .i64 0,.int .i64 0,.bool false] 69)) (w.heap.size+1) t ⟨0,0,0,0,false⟩):=by
  have q:((w.alloc (.cells #[.int .i64 0,.int .i64 0,.string ⟨#[]⟩,.slice none 0 0,.slice none 0 0] 30)).alloc _).heap[w.heap.size+1]?=some (.cells #[.string t,.int .i64 0,.int .i64 0,.int .i64 0,.int .i64 0,.bool false] 69 (0,0)):=Af (by simp);exact q
 have a7:((w.alloc (.cells #[.int .i64 0,.int .i64 0,.string ⟨#[]⟩,.slice none 0 0,.slice none 0 0] 30)).alloc (.cells #[.string t,.int .i64 0,.int .i64 0,.int .i64 0,.int .i64 0,.bool false] 69)).heap.size=w.heap.size+2:=by simp
 go_enter func10,ntmps10
 go_wp2_with fail
 generalize ((w.alloc (.cells #[.int .i64 0,.int .i64 0,.string ⟨#[]⟩,.slice none 0 0,.slice none 0 0] 30)).alloc _)=W0 at G0 x2 R0 a7 |-;refine(dY 24 (by omega) W0 (w.heap.size+1) t ⟨0,0,0,0,false⟩ R0.out rfl (Ae1 _) ht).mono ?_;rintro e' I ⟨v,x,s1,rfl,f1,hx,hw,Y,a3⟩;have b:Hid _:=oB (by rw[G];exact ht) a3;have a5:s1.at'<=t.size:=by rw[<- G];exact a3.2.1
 have HX:Ref (fun k=>w.heap.size+2<=k) I 25 x v:=hx.fr (Fr.refl _ I) (fun k _ hk=>by omega) _ _ _;obtain⟨sb,ka,kl,kc,va,vl,vc,rfl,a9,hk,a6,_⟩:=id HX;have Y1:Hid _:=(f1.block w.heap.size (Aa x2.out) (by omega)).trans x2.out;have F1:Hid _:=(Fr.grew G0.out).trans f1;have a4:Hid (Ref _ I 25 x _):=HX;have R1:Hid (RR I _ t s1):=Y;clear HX hx hw f1 Y a3 a9 hk a6 G0 x2 R0 a7;go_wp2_with fail
 have G2:Ac I (I.alloc (.cells #[.int .i64 x.kind,.int .i64 x.int,.string sb,.slice ka kl kc,.slice va vl vc] 30)):=(Ac.refl I).alloc _;have Y2:Hid _:=Ac1 G2.below Y1.out;have F2:Hid _:=F1.out.trans (Fr.grew G2);have a0:Hid (Ref _ _ 25 x (.agg #[.int .i64 x.kind,.int .i64 x.int,_,_,_])):=a4.out.grew G2;have R2:Hid (RR _ _ t s1):=R1.out.fr (G2.below.block _ (Aa R1.out));have V2:Hid ((I.alloc _).heap[I.heap.size]?=some (.cells #[.int .i64 x.kind,.int .i64 x.int,.string sb,.slice ka kl kc,.slice va vl vc] 30 (0,0))):=Af rfl;have zv:=Aa R1.out;clear G2 Y1 F1 a4 R1;generalize I.alloc _=w2 at Y2 F2 a0 R2 V2 |-;obtain⟨a1,dp,e1,bd,H⟩:=s1;refine(Sd w2 (w.heap.size+1) t ⟨a1,dp,e1,bd,H⟩ R2.out a5 ht).mono ?_;rintro e' g ⟨rfl,h3,f3⟩;have sk:=Ir (p:=a1) (by rw[G];exact a5);rw[G] at sk;have J:Hid (RR g _ t ⟨Av _ a1,dp,e1,bd,H⟩):=h3;have u:Hid _:=(f3.block w.heap.size (Aa Y2.out) (by omega)).trans Y2.out;have V3:Hid _:=(f3.block I.heap.size (Aa V2.out) (by omega)).trans V2.out;have F3:Hid _:=F2.out.trans f3;have a2:Hid (Ref _ g 25 x _):=a0.out.fr (f3.mono (fun k hk=>by omega)) (fun k _ hk=>hk) _ _ _;clear h3 f3 Y2 V2 F2 a0 R2;simp only at b;rw[G] at b;generalize Av _ a1=q at b J sk;have C:=Ab J.out 1;have h:=Ab J.out 3;have j:=Ab J.out 4;have c5:=Ab J.out 5;have S:=Aa J.out;by_cases he:e1=0
 ·subst he;by_cases hq:q<t.size
  ·have a8:(q:Int)<(t.size:Int):=by omega
   have HR:Hid _:=b.out.2.1 rfl hq;clear b;go_wp2_with fail
   refine(D7 g (w.heap.size+1) t ⟨q,dp,0,bd,H⟩ 1 q J.out).mono ?_;rintro e' a ⟨rfl,D,f4⟩;have P:Hid (RR a _ t ⟨q,dp,1,q,H⟩):=D;have R:Hid _:=(f4.block w.heap.size (Aa u.out) (by omega)).trans u.out;have F4:Hid _:=F3.out.trans f4;clear D f4 J u V3 F3 a2 C h j c5 S;have h:=Ab P.out 3;have j:=Ab P.out 4;have c5:=Ab P.out 5;have S:=Aa P.out;obtain⟨l,m,n,o,r⟩:=Ah R.out;obtain⟨K,L,M,N,O⟩:=Ax R.out;have z2:=Aa R.out;obtain⟨A,f,d⟩:=s.out a _ _ _ _ _ _ q 1 R.out F4.out (Cm _ _ 24) (.inr ⟨HR.out,by decide,rfl⟩);have E:Hid (_=_):=A;have RP:Hid (z _ _):=f;have Q:Hid (z _ _):=d;clear A f d;have d0:a.drew.cell? _=some _:=l;have h0:a.drew.frozen? _=_:=K;have d1:a.drew.cell? _=some _:=m;have Y:a.drew.frozen? _=_:=L;have d2:a.drew.cell? _=some _:=n;have h2:a.drew.frozen? _=_:=M;have d3:a.drew.cell? _=some _:=o;have h3:a.drew.frozen? _=_:=N;have d4:a.drew.cell? _=some _:=r;have D:a.drew.frozen? _=_:=O;have e3:a.drew.cell? _=some _:=h;have e4:a.drew.cell? _=some _:=j;have mo:=follows;go_wp2_with fail
   go_big_region_o
   change Exit.then _ _ _ _ (Ao a _ 0 _ _ _ _ _).drew;clear l m n o r K L M N O d0 d1 d2 d3 d4 h0 Y h2 h3 D e3 e4 h j c5;have U:Hid ((Ao a w.heap.size 0 (.int .i64 0) (.int .i64 0) (.string ⟨#[]⟩) (.slice none 0 0) (.slice none 0 0)).drew.heap[w.heap.size]?=_):=E.out;generalize (Ao a _ 0 _ _ _ _ _).drew=WZ at U Q |-;go_wp2_with fail
   obtain⟨l,m,n,o,r⟩:=Ah U.out;exact Ae2 (by simp[results,results10,go_sem,l,m,n,o,r]) rfl Q.out
  ·have T:q=t.size:=by omega
   have a8:¬(q:Int)<(t.size:Int):=by omega
   cases H with
   | true =>
    have HR:Hid _:=b.out.2.2.1 rfl T rfl;clear b T;go_wp2_with fail
    refine(D7 g (w.heap.size+1) t ⟨q,dp,0,bd,true⟩ 6 0 J.out).mono ?_;rintro e' a ⟨rfl,D,f4⟩;have P:Hid (RR a _ t ⟨q,dp,6,0,true⟩):=D;have R:Hid _:=(f4.block w.heap.size (Aa u.out) (by omega)).trans u.out;have F4:Hid _:=F3.out.trans f4;clear D f4 J u V3 F3 a2 C h j c5 S;have h:=Ab P.out 3;have j:=Ab P.out 4;have c5:=Ab P.out 5;have S:=Aa P.out;obtain⟨l,m,n,o,r⟩:=Ah R.out;obtain⟨K,L,M,N,O⟩:=Ax R.out;have z2:=Aa R.out;obtain⟨A,f,d⟩:=s.out a _ _ _ _ _ _ 0 6 R.out F4.out (Cm _ _ 24) (.inr ⟨HR.out,by decide,rfl⟩);have E:Hid (_=_):=A;have RP:Hid (z _ _):=f;have Q:Hid (z _ _):=d;clear A f d;have d0:a.drew.cell? _=some _:=l;have h0:a.drew.frozen? _=_:=K;have d1:a.drew.cell? _=some _:=m;have Y:a.drew.frozen? _=_:=L;have d2:a.drew.cell? _=some _:=n;have h2:a.drew.frozen? _=_:=M;have d3:a.drew.cell? _=some _:=o;have h3:a.drew.frozen? _=_:=N;have d4:a.drew.cell? _=some _:=r;have D:a.drew.frozen? _=_:=O;have e3:a.drew.cell? _=some _:=h;have e4:a.drew.cell? _=some _:=j;have mo:=follows;go_wp2_with fail
    go_big_region_o
    change Exit.then _ _ _ _ (Ao a _ 0 _ _ _ _ _).drew;clear l m n o r K L M N O d0 d1 d2 d3 d4 h0 Y h2 h3 D e3 e4 h j c5;have U:Hid ((Ao a w.heap.size 0 (.int .i64 0) (.int .i64 0) (.string ⟨#[]⟩) (.slice none 0 0) (.slice none 0 0)).drew.heap[w.heap.size]?=_):=E.out;generalize (Ao a _ 0 _ _ _ _ _).drew=WZ at U Q |-;go_wp2_with fail
    obtain⟨l,m,n,o,r⟩:=Ah U.out;exact Ae2 (by simp[results,results10,go_sem,l,m,n,o,r]) rfl Q.out
   | false =>
    have HR:Hid _:=b.out.2.2.2 rfl T rfl;clear b T;obtain⟨v0,v1,v2,v3,v4⟩:=Ah V3.out;have a6:=Aa V3.out;obtain⟨l,m,n,o,r⟩:=Ah u.out;obtain⟨K,L,M,N,O⟩:=Ax u.out;have z2:=Aa u.out;obtain⟨A,f,d⟩:=s.out g x _ _ _ _ _ 0 0 u.out F3.out a2.out (.inl ⟨HR.out,rfl,rfl⟩);have E:Hid (_=_):=A;have RP:Hid (z _ _):=f;have Q:Hid (z _ _):=d;clear A f d;go_wp2_with fail
    change bodyPost _ _ _ _ _ (Ao g _ 0 (.int .i64 x.kind) (.int .i64 x.int) _ _ _);clear l m n o r K L M N O;generalize Ao g _ 0 _ _ _ _ _=WZ at E RP |-;obtain⟨l,m,n,o,r⟩:=Ah E.out;exact Ae2 (by simp[results,results10,go_sem,l,m,n,o,r]) rfl RP.out
 ·have b5:((e1:Int)==0)=false:=by simp;omega
  have HR:Hid _:=b.out.1 he;clear b;obtain⟨l,m,n,o,r⟩:=Ah u.out;obtain⟨K,L,M,N,O⟩:=Ax u.out;have z2:=Aa u.out;obtain⟨A,f,d⟩:=s.out g _ _ _ _ _ _ bd e1 u.out F3.out (Cm _ _ 24) (.inr ⟨HR.out,he,rfl⟩);have E:Hid (_=_):=A;have RP:Hid (z _ _):=f;have Q:Hid (z _ _):=d;clear A f d;have d0:g.drew.cell? _=some _:=l;have h0:g.drew.frozen? _=_:=K;have d1:g.drew.cell? _=some _:=m;have Y:g.drew.frozen? _=_:=L;have d2:g.drew.cell? _=some _:=n;have h2:g.drew.frozen? _=_:=M;have d3:g.drew.cell? _=some _:=o;have h3:g.drew.frozen? _=_:=N;have d4:g.drew.cell? _=some _:=r;have D:g.drew.frozen? _=_:=O;have e3:g.drew.cell? _=some _:=h;have e4:g.drew.cell? _=some _:=j;have mo:=follows;go_wp2_with fail
  go_big_region_o
  change Exit.then _ _ _ _ (Ao g _ 0 _ _ _ _ _).drew;clear l m n o r K L M N O d0 d1 d2 d3 d4 h0 Y h2 h3 D e3 e4 h j c5;have U:Hid ((Ao g w.heap.size 0 (.int .i64 0) (.int .i64 0) (.string ⟨#[]⟩) (.slice none 0 0) (.slice none 0 0)).drew.heap[w.heap.size]?=_):=E.out;generalize (Ao g _ 0 _ _ _ _ _).drew=WZ at U Q |-;go_wp2_with fail
  obtain⟨l,m,n,o,r⟩:=Ah U.out;exact Ae2 (by simp[results,results10,go_sem,l,m,n,o,r]) rfl Q.out
theorem oC (w:World)(t:ByteArray)(hs:t.size<=9223372036854775806):Calls prog 10 #[.string t] w (Zp w (Fq t.data.toList)):=by
 by_cases h:t.size<=4000
 ·exact dZ w t h
 ·exact iM w t (by omega) hs
end Go.Proofs.YtdpeliifdlhhkaaGreatDoor.Sx
