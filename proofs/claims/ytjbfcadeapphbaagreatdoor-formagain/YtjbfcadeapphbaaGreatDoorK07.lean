/- How tightly tokens hold. -/
import Derived.Test.YtjbfcadeapphbaaGreatDoorK06
import Derived.WalkLawsBesides
namespace Go.Proofs.YtjbfcadeapphbaaGreatDoor.Sx
set_option maxRecDepth 100000
set_option maxHeartbeats 4000000
open Go.RowKit Go.Sort
theorem Fr.setB {P:Nat->Prop}{a b:World}(h:Fr P a b){p:Addr}(hp:a.heap.size<=p.block)(u:Value):Fr P a (b.setCell p u) :=
 ⟨h.os,h.tape,h.output,by simpa using h.size,fun i hi hq=>by rw[Below.heap_setCell b p u i (by omega)];exact h.block i hi hq⟩
theorem RdF.setB {w:World}{br:Nat}{t:ByteArray}{i d:Nat}(h:RdF w br t i d){p:Addr}(hp:br≠p.block)(u:Value):RdF (w.setCell p u) br t i d:=(Below.heap_setCell w p u br hp).trans h
def Flt (c p:Nat):Ending:=.panicked [{ v:=.iface 119 (.agg #[.int .i64 (p:Int),.int .i64 (c:Int)]),recovered:=false }]
theorem Ey (w:World)(br:Nat)(t:ByteArray)(i d c:Nat)(hr:RdF w br t i d) :
  Calls Tryz.prog 61 #[.pointer (some ⟨br,0,none⟩),.int .i64 (c:Int)] w fun e w'=>e=Flt c (atF t.data.toList i)/\w'=w:=by
 unfold Flt;have b:=Aa hr 1;clear hr;generalize atF t.data.toList i=a at b |-;have f:=follows;go_enter Tryz.func61,Tryz.ntmps61
 go_wp2_with fail
 exact⟨rfl,rfl,rfl⟩
theorem RdB.setD {w:World}{br:Nat}{t:ByteArray}{a:Nat}{p:ByteArray}{c d:Nat}(h:RdB w br t a p c d)(d':Nat):RdB (w.setCell ⟨br,4,none⟩ (.int .i64 (d':Int))) br t a p c d':=by
 have:=Ah h 4 (.int .i64 (d':Int));simpa [RdB] using this
theorem Dz (w:World)(br:Nat)(t:ByteArray)(i d:Nat)(hr:RdF w br t i (d+1))(hd:d<=24) :
  Calls Tryz.prog 146 #[.pointer (some ⟨br,0,none⟩)] w fun e w'=>e=.returned (.tuple #[])/\RdF w' br t i d/\Fr (·≠br) w w':=by
 have a:Hid (RdF w br t i (d+1)):=hr;have c:=Aa hr 4;have b:=Ac hr 4;clear hr;have f:=follows;go_enter Tryz.func146,Tryz.ntmps146
 go_wp2_with fail
 go_end0
 exact⟨rfl,RdB.setD a.out d,(Fr.refl _ w).set (by simp) _⟩
theorem Ez (w:World)(br:Nat)(t:ByteArray)(i d:Nat)(hr:RdF w br t i d)(ht:t.size<=4000)(hd:d<24) :
  Calls Tryz.prog 142 #[.pointer (some ⟨br,0,none⟩)] w fun e w'=>e=.returned (.tuple #[])/\RdF w' br t (i+1) (d+1)/\Fr (·≠br) w w':=by
 have b:Hid (RdF _ br t i (d+1)):=RdB.setD hr (d+1);have a:Hid (Fr (·≠br) w (w.setCell ⟨br,4,none⟩ (.int .i64 ((d+1:Nat):Int)))):=(Fr.refl _ w).set (by simp) _;have j:Hid (∀W:World,_):=fun W h=>Co W br t i (d+1) h ht;have n:=Aa hr 4;have m:=Ac hr 4;have l:((d:Int)==24)=false:=by simp;omega
 have c:((d+1:Nat):Int)=(d:Int)+1:=by omega
 rw[c] at b a;clear hr c;have o:=follows;go_enter Tryz.func142,Tryz.ntmps142
 go_wp2_with (go_at_call 60;refine(j.out _ b.out).mono ?_;rintro e w' ⟨rfl,h,f⟩;have k:Hid (RdF w' br t (i+1) (d+1)):=h;have g:Hid (Fr (·≠br) w w'):=a.out.trans f;clear h f)
 go_end0
 exact⟨rfl,k.out,g.out⟩
theorem Dg (w:World)(br:Nat)(t:ByteArray)(i:Nat)(hr:RdF w br t i 24) :
  Calls Tryz.prog 142 #[.pointer (some ⟨br,0,none⟩)] w fun e w'=>e=Flt 6 (atF t.data.toList i)/\w'=w:=by
 have a:Hid (Calls _ _ _ _ _):=Ey w br t i 24 6 hr;have b:=Aa hr 4;clear hr;have c:=follows;go_enter Tryz.func142,Tryz.ntmps142
 go_wp2_with (go_at_call 61;refine a.out.mono ?_;rintro e w' ⟨rfl,rfl⟩;unfold Flt)
 exact⟨rfl,rfl,rfl⟩
theorem Fu (w:World)(br:Nat)(t m:ByteArray)(i d:Nat)(hr:RdF w br t i d)(ht:t.size<=4000)(b:Bool)(hb:(txF t.data.toList i==m.data.toList)=b) :
  Calls Tryz.prog 112 #[.pointer (some ⟨br,0,none⟩),.string m] w fun e w'=>e=.returned (.bool b)/\RdF w' br t (if b then i+1 else i) d/\Fr (·≠br) w w':=by
 have f:Hid (Calls _ _ _ _ _):=Co w br t i d hr ht;have g:Hid (RdF w br t i d):=hr;have k:=Aa hr 2;clear hr;have l:((pcF t i).toList==m.toList)=b:=by rw[ByteArray.toList_eq,ByteArray.toList_eq,A5];exact hb
 clear hb;have n:=follows;generalize pcF t i=p at l k;cases b with
 | true =>
  go_enter Tryz.func112,Tryz.ntmps112
  go_wp2_with (go_at_call 60;refine f.out.mono ?_;rintro e w' ⟨rfl,h,a⟩;have j:Hid (RdF w' br t (i+1) d):=h;have c:Hid (Fr (·≠br) w w'):=a;clear h a)
  go_ret
  exact⟨rfl,j.out,c.out⟩
 | false =>
  go_enter Tryz.func112,Tryz.ntmps112
  go_wp2_with fail
  go_ret
  exact⟨rfl,g.out,Fr.refl _ _⟩
def dD (w:World)(br:Nat)(t:ByteArray)(i d:Nat)(b:Bool)(e:Ending)(w':World):Prop :=
 Fr (·≠br) w w'/\((b=true/\e=.returned (.tuple #[])/\RdF w' br t (i+1) d)\/(b=false/\e=Flt 1 (atF t.data.toList i)))
theorem Cj (w:World)(br:Nat)(t m:ByteArray)(i d:Nat)(hr:RdF w br t i d)(ht:t.size<=4000)(b:Bool)(hb:(txF t.data.toList i==m.data.toList)=b) :
  Calls Tryz.prog 85 #[.pointer (some ⟨br,0,none⟩),.string m] w (dD w br t i d b):=by
 have j:Hid (Calls _ _ _ _ _):=Fu w br t m i d hr ht b hb;have k:Hid (∀W:World,_):=fun W h=>Ey W br t i d 1 h;clear hr hb;have l:=follows;cases b with
 | true =>
  go_enter Tryz.func85,Tryz.ntmps85
  go_wp2_with (go_at_call 112;refine j.out.mono ?_;rintro e a ⟨rfl,h,c⟩;have g:Hid (RdF a br t (i+1) d):=h;have f:Hid (Fr (·≠br) w a):=c;clear h c)
  go_end0
  exact⟨f.out,.inl ⟨rfl,rfl,g.out⟩⟩
 | false =>
  go_enter Tryz.func85,Tryz.ntmps85
  go_wp2_with (first|(go_at_call 112;refine j.out.mono ?_;rintro e a ⟨rfl,h,c⟩;have g:Hid (RdF a br t i d):=h;have f:Hid (Fr (·≠br) w a):=c;clear h c)|(go_at_call 61;refine(k.out _ g.out).mono ?_;rintro e a ⟨rfl,rfl⟩;unfold Flt))
  exact⟨rfl,f.out,.inr ⟨rfl,rfl⟩⟩
theorem Ke (w:World)(br:Nat)(t:ByteArray)(i d:Nat)(hr:RdF w br t i d)(ht:t.size<=4000) :
  Calls Tryz.prog 114 #[.pointer (some ⟨br,0,none⟩)] w fun e w'=>e=.returned (.string (pcF t i))/\RdF w' br t (i+1) d/\Fr (·≠br) w w':=by
 have c:Hid (Calls _ _ _ _ _):=Co w br t i d hr ht;have g:=Aa hr 2;clear hr;have j:=follows;go_enter Tryz.func114,Tryz.ntmps114
 go_wp2_with (go_at_call 60;refine c.out.mono ?_;rintro e w' ⟨rfl,h,a⟩;have f:Hid (RdF w' br t (i+1) d):=h;have b:Hid (Fr (·≠br) w w'):=a;clear h a)
 go_ret
 exact⟨rfl,f.out,b.out⟩
def dE (w:World)(br:Nat)(t:ByteArray)(i d:Nat)(r:Except (Nat×Nat) (List UInt8×Nat))(e:Ending)(w':World):Prop :=
 Fr (·≠br) w w'/\match r with
  | .ok (_,j)=>e=.returned (.agg #[.string (pcF t i),.int .i64 (atF t.data.toList i)])/\RdF w' br t j d
  | .error (c,p)=>e=Flt c p
theorem C6 (w:World)(br:Nat)(t:ByteArray)(i d:Nat)(hr:RdF w br t i d)(ht:t.size<=4000)(r:Except (Nat×Nat) (List UInt8×Nat))(h:Bo (tkF t.data.toList) i=some r) :
  Calls Tryz.prog 86 #[.pointer (some ⟨br,0,none⟩)] w (dE w br t i d r):=by
 have b:Hid (∀o:Obj,RdF (w.alloc o) br t i d):=fun o=>RdF.of hr (P:=fun _=>True) ((Fr.refl _ w).alloc o) trivial;have D:Hid (∀W:World,_):=fun W h=>Ke W br t i d h ht;have s:Hid (∀(W:World)(c:Nat),_):=fun W c=>Ey W br t i d c;have j:Hid (∀W:World,_):=fun W=>Lj (pcF t i) W;have g:=Jx t i;have I:=fun o=>Aa (b.out o) 1;have J:=fun o=>Aa (b.out o) 2;have F:=fun o=>Aa (b.out o) 3;have G:=Ab hr;clear hr;have M:=follows;have m:(tkF t.data.toList i).cl=clF t.data.toList i:=rfl;have p:(tkF t.data.toList i).tx=txF t.data.toList i:=rfl;have l:(tkF t.data.toList i).at'=atF t.data.toList i:=rfl;unfold Bo at h;rw[m,p,l,Gy] at h;rw[A5] at j;generalize Nt t.data.toList i=L at h g;generalize Bm (txF t.data.toList i)=B at h j;generalize clF t.data.toList i=cl at h F;clear m p l ht;have K:((pcF t i).size:Int)=(L:Int):=by rw[g]
 clear g;by_cases x:cl=1
 ·subst x;cases B with
  | true =>
   have f:Hid (r=.error (1,atF t.data.toList i)):=by
    rw[if_pos (.inr rfl)] at h;simp only[Ck,Option.some.injEq] at h;exact h.symm
   clear h;go_enter Tryz.func86,Tryz.ntmps86
   go_wp2_with (first|(go_at_call 113;refine(j.out _).mono ?_;rintro e a ⟨rfl,rfl⟩)|(go_at_call 61;refine(s.out _ 1 (b.out _)).mono ?_;rintro e a ⟨rfl,rfl⟩;unfold Flt))
   rw[f.out];exact⟨rfl,(Fr.refl _ w).alloc _,rfl⟩
  | false =>
   by_cases q:16<L
   ·have f:Hid (r=.error (5,atF t.data.toList i)):=by
     rw[if_neg (by simp),if_pos q] at h;simp only[Ck,Option.some.injEq] at h;exact h.symm
    clear h;have y:(16:Int)<(L:Int):=by omega
    clear q;go_enter Tryz.func86,Tryz.ntmps86
    go_wp2_with (first|(go_at_call 113;refine(j.out _).mono ?_;rintro e a ⟨rfl,rfl⟩)|(go_at_call 61;refine(s.out _ 5 (b.out _)).mono ?_;rintro e a ⟨rfl,rfl⟩;unfold Flt))
    rw[f.out];exact⟨rfl,(Fr.refl _ w).alloc _,rfl⟩
   ·have f:Hid (∃n,r=.ok (n,i+1)):=by
     rw[if_neg (by simp),if_neg q] at h;simp only[okX,Option.some.injEq] at h;exact⟨_,h.symm⟩
    clear h;have y:¬(16:Int)<(L:Int):=by omega
    clear q;go_enter Tryz.func86,Tryz.ntmps86
    go_wp2_with (first|(go_at_call 113;refine(j.out _).mono ?_;rintro e a ⟨rfl,rfl⟩)|(go_at_call 114;refine(D.out _ (b.out _)).mono ?_;rintro e a ⟨rfl,hr,u⟩;have E:Hid (RdF a br t (i+1) d):=hr;have C:Hid (Fr (·≠br) (w.alloc _) a):=u;have k:Hid (a.heap[w.heap.size]?=some _):=(u.block _ (by simp) (by omega)).trans (Aj rfl);have N:=Aa k.out 0;have O:=Aa k.out 1;obtain⟨Q,R,-⟩:=Jw k.out;clear hr u))
    have z:=Aa (Ah (Ah k.out 0 (.string (pcF t i))) 1 (.int .i64 (atF t.data.toList i:Int))) 0;have A:=Aa (Ah (Ah k.out 0 (.string (pcF t i))) 1 (.int .i64 (atF t.data.toList i:Int))) 1;simp at z A;refine bodyPost_ret (v:=.agg #[.string (pcF t i),.int .i64 (atF t.data.toList i:Int)]) (by simp[results,Tryz.results86,go_sem,z,A]) rfl ?_;obtain⟨n,rfl⟩:=f.out;exact⟨(((((Fr.refl _ w).alloc _).trans C.out).setB (by simp) _).setB (by simp) _),rfl,(E.out.setB (by simp;omega) _).setB (by simp;omega) _⟩
 ·have f:Hid (r=.error (1,atF t.data.toList i)):=by
   rw[if_pos (.inl x)] at h;simp only[Ck,Option.some.injEq] at h;exact h.symm
  have H:((cl:Int) != 1)=true:=by rw[bne_iff_ne];omega
  clear h x;go_enter Tryz.func86,Tryz.ntmps86
  go_wp2_with (first|(go_at_call 113;refine(j.out _).mono ?_;rintro e a ⟨rfl,rfl⟩)|(go_at_call 61;refine(s.out _ 1 (b.out _)).mono ?_;rintro e a ⟨rfl,rfl⟩;unfold Flt))
  rw[f.out];exact⟨rfl,(Fr.refl _ w).alloc _,rfl⟩
theorem S0 {β:Type}{f:List UInt8->β}{l v:List UInt8}{r k:β}(H:Hid (f l=r))(h:(l==v)=true)(hv:f v=k):r=k:=by
 have:=eq_of_beq h;subst this;rw[<- H.out];exact hv
theorem Qo (s:ByteArray)(w:World)(r:Nat)(H:Hid (Bd s.toList=r)):Calls Tryz.prog 65 #[.string s] w fun e w'=>e=.returned (.int .i64 r)/\w'=w:=by
 go_enter Tryz.func65,Tryz.ntmps65
 go_wp2_with fail
 all_goals first
  | (exact Ie ‹(s.toList==_)=true› ‹(s.toList==_)=false›)
  | (
   have q:=S0 (k:=0) H ‹(s.toList==_)=true› (by decide);subst q;go_ret
   exact⟨rfl,rfl⟩)
  | (
   have q:=S0 (k:=6) H ‹(s.toList==_)=true› (by decide);subst q;go_ret
   exact⟨rfl,rfl⟩)
  | (
   have q:=S0 (k:=12) H ‹(s.toList==_)=true› (by decide);subst q;go_ret
   exact⟨rfl,rfl⟩)
  | (
   have q:r=14:=by
    rw[<- H.out];simp only[Bd,Dm,De,Cf,List.contains_cons,List.contains_nil,Bool.or_false, *,Bool.false_eq_true,if_false]
   subst q;go_ret
   exact⟨rfl,rfl⟩)
theorem Er (s:ByteArray)(w:World):Calls Tryz.prog 65 #[.string s] w fun e w'=>e=.returned (.int .i64 (Bd s.data.toList))/\w'=w:=by
 refine Qo s w _ ?_;rw[ByteArray.toList_eq];exact rfl
def dF:List (List UInt8):=[[97,108,119,97,121,115],[101,118,101,110,116,117,97,108,108,121],[117,110,116,105,108],[108,101,97,100,115,116,111]]
def Jy (l:List UInt8):Nat:=if dF.contains l then 11 else 12
theorem Ox (s:ByteArray)(w:World)(r:Nat)(H:Hid (Jy s.toList=r)):Calls Tryz.prog 130 #[.string s] w fun e w'=>e=.returned (.int .i64 r)/\w'=w:=by
 go_enter Tryz.func130,Tryz.ntmps130
 go_wp2_with fail
 all_goals first
  | (exact Ie ‹(s.toList==_)=true› ‹(s.toList==_)=false›)
  | (
   have q:=S0 (k:=11) H ‹(s.toList==_)=true› (by decide);subst q;go_ret
   exact⟨rfl,rfl⟩)
  | (
   have q:r=12:=by
    rw[<- H.out];simp only[Jy,dF,List.contains_cons,List.contains_nil,Bool.or_false, *,Bool.false_eq_true,if_false]
   subst q;go_ret
   exact⟨rfl,rfl⟩)
theorem Kq (s:ByteArray)(w:World):Calls Tryz.prog 130 #[.string s] w fun e w'=>e=.returned (.int .i64 (Jy s.data.toList))/\w'=w:=by
 refine Ox s w _ ?_;rw[ByteArray.toList_eq];exact rfl
def Jn (n:Nat):Value:=if n=0 then .agg #[.int .i64 (-1),.int .i64 0,.int .i64 0] else .agg #[.int .i64 (n:Int),.int .i64 (Bh n:Int),.int .i64 (Bg n:Int)]
theorem Xa (n:Int)(w:World)(hn:0<=n/\n<=14):Calls Tryz.prog 101 #[.int .i64 n] w fun e w'=>e=.returned (.agg #[.int .i64 n,.int .i64 (n+1),.int .i64 (n+1)])/\Ag w w':=by
 have a:=follows;go_enter Tryz.func101,Tryz.ntmps101
 go_wp2_with fail
 refine bodyPost_ret (v:=.agg #[.int .i64 n,.int .i64 (n+1),.int .i64 (n+1)]) (by simp[results,Tryz.results101,go_sem]) rfl ⟨rfl,(Ag.refl w).alloc _⟩
theorem Qp (n:Int)(w:World)(hn:0<=n/\n<=14):Calls Tryz.prog 102 #[.int .i64 n] w fun e w'=>e=.returned (.agg #[.int .i64 n,.int .i64 n,.int .i64 (n+1)])/\Ag w w':=by
 have a:=follows;go_enter Tryz.func102,Tryz.ntmps102
 go_wp2_with fail
 refine bodyPost_ret (v:=.agg #[.int .i64 n,.int .i64 n,.int .i64 (n+1)]) (by simp[results,Tryz.results102,go_sem]) rfl ⟨rfl,(Ag.refl w).alloc _⟩
theorem Oy (n:Int)(w:World)(hn:0<=n/\n<=14):Calls Tryz.prog 103 #[.int .i64 n] w fun e w'=>e=.returned (.agg #[.int .i64 n,.int .i64 (n+1),.int .i64 n])/\Ag w w':=by
 have a:=follows;go_enter Tryz.func103,Tryz.ntmps103
 go_wp2_with fail
 refine bodyPost_ret (v:=.agg #[.int .i64 n,.int .i64 (n+1),.int .i64 n]) (by simp[results,Tryz.results103,go_sem]) rfl ⟨rfl,(Ag.refl w).alloc _⟩
theorem Oz {w w':World}{o:Obj}{vs:Array Value}{T:TypeId}(ho:o=.cells vs T (0,0))(hg:Ag (w.alloc o) w'):w'.heap[w.heap.size]?=some (.cells vs T (0,0)):=by
 subst ho;exact((Fr.grew (P:=fun _=>True) hg).block _ (by simp) trivial).trans (Aj rfl)
end Go.Proofs.YtjbfcadeapphbaaGreatDoor.Sx
