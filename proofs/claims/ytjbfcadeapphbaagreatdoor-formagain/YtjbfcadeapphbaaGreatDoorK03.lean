/- Bytes and words. -/
import Derived.Test.YtjbfcadeapphbaaGreatDoorK01
import Derived.Test.YtjbfcadeapphbaaGreatDoorShelf
import Derived.BigQuiet
import Derived.Lib.SlBytesConst
import Derived.Deep.RegionWith
namespace Go.Proofs.YtjbfcadeapphbaaGreatDoor.Sx
set_option maxRecDepth 100000
set_option maxHeartbeats 4000000
open Go.RowKit Go.Sort
theorem Uk (c:UInt8):A8 c=(decide (97<=(c.toNat:Int)/\(c.toNat:Int)<=122)||decide (65<=(c.toNat:Int)/\(c.toNat:Int)<=90)):=by
 rw[Bool.eq_iff_iff];simp[A8,UInt8.le_iff_toNat_le];omega
theorem Wt (c:UInt8):Bn c=decide (48<=(c.toNat:Int)/\(c.toNat:Int)<=57):=by
 rw[Bool.eq_iff_iff];simp[Bn,UInt8.le_iff_toNat_le];omega
theorem Wu (x:Int)(w:World):Calls Tryz.prog 120 #[.int .u8 x] w fun e w'=>e=.returned (.bool (decide (97<=x/\x<=122)||decide (65<=x/\x<=90)))/\w'=w:=by
 have a:∀b,(decide (97<=x/\x<=122)||decide (65<=x/\x<=90))=b->(decide (97<=x/\x<=122)||decide (65<=x/\x<=90))=b:=fun _ h=>h;rcases(show x<65\/(65<=x/\x<=90)\/(90<x/\x<97)\/(97<=x/\x<=122)\/122<x from by omega) with h|h|h|h|h
 ·rw[a false (by simp;omega)];clear a;have c:¬97<=x:=by omega
  have f:¬65<=x:=by omega
  go_enter Tryz.func120,Tryz.ntmps120
  go_wp2
  go_ret
  exact⟨rfl,rfl⟩
 ·rw[a true (by simp;omega)];clear a;obtain⟨d,g⟩:=h;have c:¬97<=x:=by omega
  go_enter Tryz.func120,Tryz.ntmps120
  go_wp2
  go_ret
  exact⟨rfl,rfl⟩
 ·rw[a false (by simp;omega)];clear a;have c:¬97<=x:=by omega
  have f:65<=x:=by omega
  have d:¬x<=90:=by omega
  clear h;go_enter Tryz.func120,Tryz.ntmps120
  go_wp2
  go_ret
  exact⟨rfl,rfl⟩
 ·rw[a true (by simp;omega)];clear a;obtain⟨d,g⟩:=h;go_enter Tryz.func120,Tryz.ntmps120
  go_wp2
  go_ret
  exact⟨rfl,rfl⟩
 ·rw[a false (by simp;omega)];clear a;have c:97<=x:=by omega
  have f:65<=x:=by omega
  have d:¬x<=90:=by omega
  have g:¬x<=122:=by omega
  clear h;go_enter Tryz.func120,Tryz.ntmps120
  go_wp2
  go_ret
  exact⟨rfl,rfl⟩
theorem aE (x:Int)(w:World):Calls Tryz.prog 141 #[.int .u8 x] w fun e w'=>e=.returned (.bool (decide (48<=x/\x<=57)))/\w'=w:=by
 have a:∀b,decide (48<=x/\x<=57)=b->decide (48<=x/\x<=57)=b:=fun _ h=>h;rcases(show x<48\/(48<=x/\x<=57)\/57<x from by omega) with h|h|h
 ·rw[a false (by simp;omega)];clear a;have c:¬48<=x:=by omega
  clear h;go_enter Tryz.func141,Tryz.ntmps141
  go_wp2
  go_ret
  exact⟨rfl,rfl⟩
 ·rw[a true (by simp;omega)];clear a;obtain⟨c,d⟩:=h;go_enter Tryz.func141,Tryz.ntmps141
  go_wp2
  go_ret
  exact⟨rfl,rfl⟩
 ·rw[a false (by simp;omega)];clear a;have c:48<=x:=by omega
  have d:¬x<=57:=by omega
  clear h;go_enter Tryz.func141,Tryz.ntmps141
  go_wp2
  go_ret
  exact⟨rfl,rfl⟩
theorem Kv (c:UInt8)(w:World):Calls Tryz.prog 120 #[.int .u8 c.toNat] w fun e w'=>e=.returned (.bool (A8 c))/\w'=w:=by
 rw[Uk];exact Wu _ w
theorem Ri (c:UInt8)(w:World):Calls Tryz.prog 141 #[.int .u8 c.toNat] w fun e w'=>e=.returned (.bool (Bn c))/\w'=w:=by
 rw[Wt];exact aE _ w
theorem aF (x:Int)(b1 b2:Bool)(w:World)(h1:Calls Tryz.prog 120 #[.int .u8 x] w fun e w'=>e=.returned (.bool b1)/\w'=w)(h2:Calls Tryz.prog 141 #[.int .u8 x] w fun e w'=>e=.returned (.bool b2)/\w'=w) :
  Calls Tryz.prog 122 #[.int .u8 x] w fun e w'=>e=.returned (.bool (b1||b2||decide (x=95)))/\w'=w:=by
 have a:Hid (Calls _ _ _ _ _):=h1;have b:Hid (Calls _ _ _ _ _):=h2;clear h1 h2;cases b1 with
 | true =>
  go_enter Tryz.func122,Tryz.ntmps122
  go_wp2_with (go_at_call 120;refine a.out.mono ?_;rintro e w' ⟨rfl,rfl⟩)
  go_ret
  exact⟨rfl,rfl⟩
 | false =>
  cases b2 with
  | true =>
   go_enter Tryz.func122,Tryz.ntmps122
   go_wp2_with (first|(go_at_call 120;refine a.out.mono ?_;rintro e w' ⟨rfl,rfl⟩)|(go_at_call 141;refine b.out.mono ?_;rintro e w' ⟨rfl,rfl⟩))
   go_ret
   exact⟨rfl,rfl⟩
  | false =>
   by_cases h:x=95
   ·rw[decide_eq_true h];have c:(x==95)=true:=by simp[h]
    clear h;go_enter Tryz.func122,Tryz.ntmps122
    go_wp2_with (first|(go_at_call 120;refine a.out.mono ?_;rintro e w' ⟨rfl,rfl⟩)|(go_at_call 141;refine b.out.mono ?_;rintro e w' ⟨rfl,rfl⟩))
    go_ret
    exact⟨rfl,rfl⟩
   ·rw[decide_eq_false h];have c:(x==95)=false:=by simp[h]
    clear h;go_enter Tryz.func122,Tryz.ntmps122
    go_wp2_with (first|(go_at_call 120;refine a.out.mono ?_;rintro e w' ⟨rfl,rfl⟩)|(go_at_call 141;refine b.out.mono ?_;rintro e w' ⟨rfl,rfl⟩))
    go_ret
    exact⟨rfl,rfl⟩
theorem Li (c:UInt8)(k:Nat)(hk:k<256):(c==UInt8.ofNat k)=decide ((c.toNat:Int)=k):=by
 rw[Bool.eq_iff_iff];simp[<- UInt8.toNat_inj];omega
theorem Ul (c:UInt8)(w:World):Calls Tryz.prog 122 #[.int .u8 c.toNat] w fun e w'=>e=.returned (.bool (Ba c))/\w'=w:=by
 have e:Ba c=(A8 c||Bn c||decide ((c.toNat:Int)=95)):=by
  unfold Ba;congr 1;exact Li c 95 (by decide)
 rw[e];exact aF _ _ _ w (Kv c w) (Ri c w)
def Df (c:UInt8):Bool:=c==32||c==9||c==10
theorem aG (x:Int)(w:World):Calls Tryz.prog 118 #[.int .u8 x] w fun e w'=>e=.returned (.bool (decide (x=32)||decide (x=9)||decide (x=10)))/\w'=w:=by
 rcases(show x=32\/x=9\/x=10\/(x≠32/\x≠9/\x≠10) from by omega) with rfl|rfl|rfl|⟨a,b,c⟩
 ·go_enter Tryz.func118,Tryz.ntmps118
  go_wp2
  go_ret
  exact⟨rfl,rfl⟩
 ·go_enter Tryz.func118,Tryz.ntmps118
  go_wp2
  go_ret
  exact⟨rfl,rfl⟩
 ·go_enter Tryz.func118,Tryz.ntmps118
  go_wp2
  go_ret
  exact⟨rfl,rfl⟩
 ·rw[decide_eq_false a,decide_eq_false b,decide_eq_false c];have d:(x==32)=false:=by simp[a]
  have f:(x==9)=false:=by simp[b]
  have g:(x==10)=false:=by simp[c]
  clear a b c;go_enter Tryz.func118,Tryz.ntmps118
  go_wp2
  go_ret
  exact⟨rfl,rfl⟩
theorem aH (c:UInt8)(w:World):Calls Tryz.prog 118 #[.int .u8 c.toNat] w fun e w'=>e=.returned (.bool (Df c))/\w'=w:=by
 have e:Df c=(decide ((c.toNat:Int)=32)||decide ((c.toNat:Int)=9)||decide ((c.toNat:Int)=10)):=by
  unfold Df
  congr 1
  ·congr 1
   ·exact Li c 32 (by decide)
   ·exact Li c 9 (by decide)
  ·exact Li c 10 (by decide)
 rw[e];exact aG _ w
def Bx (l:List UInt8):Nat:=(l.takeWhile Ba).length
theorem Hk (l:List UInt8):Bx l<=l.length:=List.Sublist.length_le (List.takeWhile_sublist _)
theorem Ov (p:UInt8->Bool)(l:List UInt8)(k:Nat)(c:UInt8)(hk:k<=(l.takeWhile p).length)(hc:l[k]?=some c) :
  (p c=true->k+1<=(l.takeWhile p).length)/\(p c=false->(l.takeWhile p).length=k):=by
 induction l generalizing k with
 | nil=>simp at hc
 | cons x l ih =>
  cases k with
  | zero =>
   simp only[List.getElem?_cons_zero,Option.some.injEq] at hc;subst hc;constructor
   ·intro h;simp[h]
   ·intro h;simp[h]
  | succ k =>
   have e:p x=true:=by
    cases d:p x with
    | true=>rfl
    | false=>simp[d] at hk
   simp only[List.getElem?_cons_succ] at hc;simp only[List.takeWhile_cons,e,if_true,List.length_cons] at hk |-;obtain⟨a,b⟩:=ih k (by omega) hc;exact⟨fun h=>by have:=a h;omega,fun h=>by have:=b h;omega⟩
theorem Sr (s:ByteArray)(w:World)(hs:s.size<=4294967296):Calls Tryz.prog 121 #[.string s] w fun e w'=>e=.returned (.int .i64 (Bx s.data.toList))/\w'=w:=by
 have q:=Hk s.data.toList;have u:s.data.toList.length=s.size:=by simp
 have p:Hid (∀c W,Calls Tryz.prog 122 #[.int .u8 (UInt8.toNat c)] W _):=Ul;obtain⟨N,l⟩:∃N,Bx s.data.toList=N:=⟨_,rfl⟩;have n:Hid (Bx s.data.toList=N):=l;rw[l] at q |-;clear l;have v:=follows;go_enter Tryz.func121,Tryz.ntmps121
 go_wp2_with fail
 go_loopw [3] (fun i wr=>∃k:Nat,k<=N/\i=.int .i64 k/\Hid (wr=w)) (fun i _=>s.size-(intOf i).toNat)
 case atStart=>exact⟨0,Nat.zero_le _,rfl,rfl⟩
 case round =>
  obtain⟨k,t,rfl,j⟩:=hrel;by_cases r:k<s.size
  ·have m:=Ov Ba s.data.toList k s[k] (by have:=n.out;unfold Bx at this;omega) (by rw[List.getElem?_eq_getElem (by omega)];rfl);have f:=p.out s[k];obtain⟨b,o⟩:∃b,Ba s[k]=b:=⟨_,rfl⟩;rw[o] at f m;have g:Hid (∀W,Calls Tryz.prog 122 #[.int .u8 (UInt8.toNat s[k])] W _):=f;have a:(b=true->k+1<=N)/\(b=false->N=k):=by
    have:=n.out;unfold Bx at this;rw[<- this];exact m
   clear f m o;cases b with
   | true =>
    have d:=a.1 rfl;clear a;go_wp2_with (go_at_call 122;refine(g.out _).mono ?_;rintro e w' ⟨rfl,rfl⟩)
    go_roundw
    case rel=>exact⟨k+1,d,by go_num,j⟩
    case measure=>simp[intOf];omega
   | false =>
    have d:=a.2 rfl;clear a;have h:Hid (N=k):=d;clear d;go_wp2_with (go_at_call 122;refine(g.out _).mono ?_;rintro e w' ⟨rfl,rfl⟩)
    go_ret
    exact⟨by rw[h.out];rfl,j.out⟩
  ·have h:Hid (N=k):=by show _=_;omega
   go_wp2_with fail
   go_ret
   exact⟨by rw[h.out];rfl,j.out⟩
end Go.Proofs.YtjbfcadeapphbaaGreatDoor.Sx
namespace Go.Proofs.YtjbfcadeapphbaaGreatDoor.Sx
open Go.RowKit Go.Sort
def Cc:List UInt8->Nat->Nat×Nat
 | [],i=>(5,i)
 | c::r,i=>if c==34 then(3,i+1) else if Hq c then Cc r (i+1) else(5,i)
theorem Wv (l:List UInt8)(k:Nat)(c:UInt8)(h:l[k]?=some c):Cc (l.drop k) k=if c==34 then(3,k+1) else if Hq c then Cc (l.drop (k+1)) (k+1) else(5,k):=by
 obtain⟨b,a⟩:=List.getElem?_eq_some_iff.1 h;rw[List.drop_eq_getElem_cons b,a];rfl
theorem Ow (c:UInt8):(c==34)=decide ((c.toNat:Int)=34)/\Hq c=(decide (32<=(c.toNat:Int))&&decide ((c.toNat:Int)<=126)&&decide ((c.toNat:Int)≠34)&&decide ((c.toNat:Int)≠92)):=by
 refine⟨Li c 34 (by decide),?_⟩;rw[Bool.eq_iff_iff];simp[Hq,UInt8.le_iff_toNat_le,<- UInt8.toNat_inj];omega
theorem aI (s:ByteArray)(w:World)(hs:s.size<=4294967296)(h1:1<=s.size):Calls Tryz.prog 125 #[.string s] w fun e w'=>e=.returned (.tuple #[.int .i64 (Cc (s.data.toList.drop 1) 1).2,.bool (decide ((Cc (s.data.toList.drop 1) 1).1=3))])/\w'=w:=by
 have G:s.data.toList.length=s.size:=by simp
 obtain⟨d,l,u⟩:∃d l,Cc (s.data.toList.drop 1) 1=(d,l):=⟨_,_,rfl⟩;rw[u];have t:Hid (Cc (s.data.toList.drop 1) 1=(d,l)):=u;clear u;obtain⟨A,o⟩:∃b,decide (d=3)=b:=⟨_,rfl⟩;show Calls Tryz.prog 125 #[.string s] w fun e w'=>e=.returned (.tuple #[.int .i64 l,.bool (decide (d=3))])/\w'=w;rw[o];have f:Hid (decide (d=3)=A):=o;clear o;go_enter Tryz.func125,Tryz.ntmps125
 go_wp2_with fail
 go_loop [4] (fun i=>∃k:Nat,1<=k/\k<=s.size/\i=.int .i64 k/\Hid (Cc (s.data.toList.drop k) k=(d,l))) (fun i=>s.size-(intOf i).toNat)
 case atStart=>exact⟨1,Nat.le_refl _,h1,rfl,t⟩
 case round =>
  obtain⟨k,D,F,rfl,r⟩:=hrel;by_cases E:k<s.size
  ·have p:=Wv s.data.toList k s[k] (by rw[List.getElem?_eq_getElem (by omega)];rfl);rw[r.out,(Ow s[k]).1,(Ow s[k]).2] at p;have a:Hid (_=_):=p;clear p r t;rcases(show(s[k].toNat:Int)=34\/((s[k].toNat:Int)≠34/\(s[k].toNat:Int)<32)\/((s[k].toNat:Int)≠34/\126<(s[k].toNat:Int))\/(s[k].toNat:Int)=92\/((s[k].toNat:Int)≠34/\(s[k].toNat:Int)≠92/\32<=(s[k].toNat:Int)/\(s[k].toNat:Int)<=126) from by omega) with h|⟨j,q⟩|⟨j,q⟩|h|⟨j,q,y,z⟩
   ·have g:Hid (d=3/\l=k+1):=by
     have:=a.out;simp[h] at this;exact this
    have v:((s[k].toNat:Int)==34)=true:=by simp[h]
    clear a h;go_wp2_with fail
    go_ret2
    obtain⟨m,n⟩:=g.out;have c:=f.out;subst m n;simp at c;subst c;exact⟨rfl,rfl⟩
   ·have g:Hid (d=5/\l=k):=by
     have:=a.out;simp[j,show ¬32<=(s[k].toNat:Int) from by omega] at this;exact this
    have v:((s[k].toNat:Int)==34)=false:=by simp[j]
    clear a j;go_wp2_with fail
    go_ret2
    obtain⟨m,n⟩:=g.out;have c:=f.out;subst m n;simp at c;subst c;exact⟨rfl,rfl⟩
   ·have g:Hid (d=5/\l=k):=by
     have:=a.out;simp[j,show ¬(s[k].toNat:Int)<=126 from by omega] at this;exact this
    have v:((s[k].toNat:Int)==34)=false:=by simp[j]
    have x:¬(s[k].toNat:Int)<32:=by omega
    clear a j;go_wp2_with fail
    go_ret2
    obtain⟨m,n⟩:=g.out;have c:=f.out;subst m n;simp at c;subst c;exact⟨rfl,rfl⟩
   ·have g:Hid (d=5/\l=k):=by
     have:=a.out;simp[h] at this;exact this
    have h1:((s[k].toNat:Int)==34)=false:=by simp[h]
    have x:¬(s[k].toNat:Int)<32:=by omega
    have B:¬126<(s[k].toNat:Int):=by omega
    have C:((s[k].toNat:Int)==92)=true:=by simp[h]
    clear a h;go_wp2_with fail
    go_ret2
    obtain⟨m,n⟩:=g.out;have c:=f.out;subst m n;simp at c;subst c;exact⟨rfl,rfl⟩
   ·have g:Hid (Cc (s.data.toList.drop (k+1)) (k+1)=(d,l)):=by
     have:=a.out;simp[j,q,y,z] at this;exact this.symm
    have h1:((s[k].toNat:Int)==34)=false:=by simp[j]
    have x:¬(s[k].toNat:Int)<32:=by omega
    have B:¬126<(s[k].toNat:Int):=by omega
    have C:((s[k].toNat:Int)==92)=false:=by simp[q]
    clear a j q y z;go_wp2_with fail
    go_round
    case rel=>exact⟨k+1,by omega,by omega,by go_num,g⟩
    case measure=>simp[intOf];omega
  ·have g:Hid (d=5/\l=s.size):=by
    have:=r.out;rw[List.drop_of_length_le (by omega)] at this;simp[Cc] at this;exact⟨this.1.symm,by omega⟩
   clear r t;go_wp2_with fail
   go_ret2
   obtain⟨m,n⟩:=g.out;have c:=f.out;subst m n;simp at c;subst c;exact⟨rfl,rfl⟩
end Go.Proofs.YtjbfcadeapphbaaGreatDoor.Sx
namespace Go.Proofs.YtjbfcadeapphbaaGreatDoor.Sx
open Go.RowKit Go.Sort
def Cw (l:List UInt8)(k:Nat):UInt8:=l.getD k 0
theorem Hv {l:List UInt8}{k:Nat}(h:k<l.length):l[k]?=some (Cw l k):=by
 simp[Cw,List.getD,List.getElem?_eq_getElem h]
theorem aJ (w:World)(s:ByteArray)(N cap k:Nat)(f:Nat×Nat)(hN:N<=s.size)(hk:k<N) :
  (w.alloc (.cells (bytesRow (s.extract 0 N) cap) 5 f)).cell? ⟨w.heap.size,k,none⟩=some (.int .u8 ((Cw s.data.toList k).toNat:Int)):=by
 have e:(s.extract 0 N).data.size=N:=by
  have:(s.extract 0 N).size=N:=by simp[ByteArray.size_extract];omega
  simpa using this
 have a:=bytesRow_at (s.extract 0 N) cap k (by omega);have b:(w.alloc (.cells (bytesRow (s.extract 0 N) cap) 5 f)).heap[w.heap.size]?=some (.cells (bytesRow (s.extract 0 N) cap) 5 f):=by
  show(w.heap.push _)[w.heap.size]?=_;simp
 rw[Aa b k,a];have c:(s.extract 0 N).data[k]=Cw s.data.toList k:=by
  have:s.data.toList[k]?=some (Cw s.data.toList k):=Hv (by simp;omega);simp only[Array.getElem?_toList] at this;have d:=(Array.getElem?_eq_some_iff.1 this).2;rw[<- d];simp[ByteArray.data_extract]
 rw[c]
def Ju (l:List UInt8):Bool:=(l.take (Bx l)).all Bn&&(decide (Bx l=1)||(decide (1<Bx l)&&!decide ((Cw l 0).toNat=48)))
theorem Ww (s:ByteArray)(w:World)(hs:s.size<=4294967296)(h1:1<=s.size):Calls Tryz.prog 123 #[.string s] w fun e w'=>e=.returned (.tuple #[.int .i64 (Bx s.data.toList),.bool (Ju s.data.toList)])/\Ag w w':=by
 have T:s.data.toList.length=s.size:=by simp
 have Q:=Hk s.data.toList;have g:=Sr s w hs;obtain⟨B,E⟩:∃B,Ju s.data.toList=B:=⟨_,rfl⟩;rw[E];have m:Hid (Ju s.data.toList=B):=E;clear E;unfold Ju at m;generalize Bx s.data.toList=N at Q g m;have d:Hid (Calls _ _ _ _ _):=g;clear g;have K:Cw s.data.toList 0=s[0]:=by
  have:=Hv (l:=s.data.toList) (k:=0) (by omega);rw[List.getElem?_eq_getElem (by omega)] at this;simp only[Option.some.injEq] at this;rw[<- this];rfl
 rw[K] at m;clear K;have t:=fun w s=>run_bytes_of_string (P:=Tryz.prog) w 9 41 5 s Tryz.underlying9 Tryz.underlying41 Tryz.underlying5;have L:min N s.size=N:=by omega
 have a:=fun cap f k hk=>aJ w s N cap k f (by omega) hk;have x:Hid (∀c W,Calls Tryz.prog 141 #[.int .u8 (UInt8.toNat c)] W _):=Ri;have y:Hid (∀k,k<N->(s.data.toList.take (k+1)).all Bn=((s.data.toList.take k).all Bn&&Bn (Cw s.data.toList k))):=by
  intro k hk;rw[List.take_add_one,Hv (by omega),List.all_append];simp
 have u:Hid (∀k,k<N->Bn (Cw s.data.toList k)=false->(s.data.toList.take N).all Bn=false):=by
  intro k hk S;rw[List.all_eq_false];exact⟨Cw s.data.toList k,List.mem_of_getElem? (i:=k) (by rw[List.getElem?_take];simp[hk,Hv (show k<s.data.toList.length by omega)]),by simp[S]⟩
 generalize J:s.data.toList.take N=tN at m u;have H:Hid (s.data.toList.take N=tN):=J;clear J;have U:=follows;go_enter Tryz.func123,Tryz.ntmps123
 go_wp2_with (go_at_call 121;refine d.out.mono ?_;rintro e w' ⟨rfl,rfl⟩)
 generalize grownCap _ N 0 5=cap;go_loop [14] (fun i=>∃k:Nat,k<=N/\i=.int .i64 k/\Hid ((s.data.toList.take k).all Bn=true)) (fun i=>N-(intOf i).toNat)
 case atStart=>exact⟨0,Nat.zero_le _,rfl,by simp[Hid]⟩
 case round =>
  obtain⟨k,hk,rfl,C⟩:=hrel;by_cases p:k<N
  ·have v:=y.out k p;have F:=u.out k p;have R:=fun f=>a cap f k p;have n:=x.out (Cw s.data.toList k);rw[C.out,Bool.true_and] at v;generalize Bn (Cw s.data.toList k)=b at v F n;have r:Hid (∀W,Calls Tryz.prog 141 #[.int .u8 (UInt8.toNat (Cw s.data.toList k))] W _):=n;have z:Hid (_=b):=v;have A:Hid (b=false->_):=F;clear v F n y u x a d t;cases b with
   | true =>
    go_wp2_with (go_at_call 141;refine(r.out _).mono ?_;rintro e w' ⟨rfl,rfl⟩)
    go_round
    case rel=>exact⟨k+1,by omega,by go_num,z⟩
    case measure=>simp[intOf];omega
   | false =>
    have h:Hid (B=false):=by
     have:=m.out;rw[A.out rfl] at this;exact this.symm
    go_wp2_with (go_at_call 141;refine(r.out _).mono ?_;rintro e w' ⟨rfl,rfl⟩)
    go_ret2
    have j:=h.out;subst j;exact⟨rfl,((Ag.refl _).alloc _).drew⟩
  ·obtain rfl:k=N:=by omega
   have h:Hid (B=(decide (k=1)||(decide (1<k)&&!decide (s[0].toNat=48)))):=by
    have:=m.out;rw[<- H.out,C.out,Bool.true_and] at this;exact this.symm
   clear y u x a d t m H C;rcases(show k=0\/k=1\/(1<k/\(s[0].toNat:Int)=48)\/(1<k/\(s[0].toNat:Int)≠48) from by omega) with q|q|⟨q,G⟩|⟨q,G⟩
   ·have o:Hid (B=false):=by show _=_;rw[h.out,q];rfl
    have D:((k:Int)==1)=false:=by simp;omega
    have I:decide ((1:Int)<(k:Int))=false:=by simp;omega
    clear h q;go_wp2_with fail
    go_quiet (fail)
    go_wp2_with fail
    go_ret2
    have j:=o.out;subst j;exact⟨rfl,(((Ag.refl _).alloc _).drew).drewN _⟩
   ·have o:Hid (B=true):=by show _=_;rw[h.out,q];rfl
    have D:((k:Int)==1)=true:=by simp;omega
    clear h q;go_wp2_with fail
    go_quiet (fail)
    go_wp2_with fail
    go_ret2
    have j:=o.out;subst j;exact⟨rfl,(((Ag.refl _).alloc _).drew).drewN _⟩
   ·have o:Hid (B=false):=by
     show _=_;rw[h.out,decide_eq_false (by omega),decide_eq_true q,decide_eq_true (show s[0].toNat=48 by omega)];rfl
    have D:((k:Int)==1)=false:=by simp;omega
    have I:decide ((1:Int)<(k:Int))=true:=by simp;omega
    have M:0<s.size:=h1;have O:((s[0].toNat:Int) != 48)=false:=by simp;omega
    clear h G q;go_wp2_with fail
    go_quiet (fail)
    go_wp2_with fail
    go_ret2
    have j:=o.out;subst j;exact⟨rfl,(((Ag.refl _).alloc _).drew).drewN _⟩
   ·have o:Hid (B=true):=by
     show _=_;rw[h.out,decide_eq_false (by omega),decide_eq_true q,decide_eq_false (show ¬s[0].toNat=48 by omega)];rfl
    have D:((k:Int)==1)=false:=by simp;omega
    have I:decide ((1:Int)<(k:Int))=true:=by simp;omega
    have M:0<s.size:=h1;have O:((s[0].toNat:Int) != 48)=true:=by simp;omega
    clear h G q;go_wp2_with fail
    go_quiet (fail)
    go_wp2_with fail
    go_ret2
    have j:=o.out;subst j;exact⟨rfl,(((Ag.refl _).alloc _).drew).drewN _⟩
theorem Gq (s:ByteArray)(i j:Nat):(s.extract i j).data.toList=(s.data.toList.take j).drop i:=by
 simp[ByteArray.data_extract,List.drop_take]
end Go.Proofs.YtjbfcadeapphbaaGreatDoor.Sx
namespace Go.Proofs.YtjbfcadeapphbaaGreatDoor.Sx
open Go.RowKit Go.Sort
theorem M0 (s:ByteArray)(k:Nat)(h:k<s.size):Cw s.data.toList k=s[k]:=by
 have a:s.data.toList.length=s.size:=by simp
 have:=Hv (l:=s.data.toList) (k:=k) (by omega);rw[List.getElem?_eq_getElem (by omega)] at this;simp only[Option.some.injEq] at this;rw[<- this];rfl
theorem Kd:∀(l:List UInt8)(i:Nat),(Cc l i).1=3\/(Cc l i).1=5
 | [],_=>.inr rfl
 | c::r,i=>by
  have:=Kd r (i+1);simp only[Cc]
  repeat' split
  all_goals first|exact .inl rfl|exact .inr rfl|exact this
end Go.Proofs.YtjbfcadeapphbaaGreatDoor.Sx
namespace Go.Proofs.YtjbfcadeapphbaaGreatDoor.Sx
open Go.RowKit Go.Sort
theorem fJ {l v:List UInt8}{b:Bool}(H:Hid (Bm l=b))(h:(l==v)=true)(hv:Bm v=true):b=true:=by
 have:=eq_of_beq h;subst this;rw[<- H.out];exact hv
theorem iD {l:List UInt8}{b:Bool}(H:Hid (Bm l=b))(h:∀v∈Iq,(l==v)=false):b=false:=by
 rw[<- H.out];unfold Bm;rw[List.contains_eq_any_beq,List.any_eq_false];intro v a;rw[h v a];simp
theorem Ie {b:Bool}{p:Prop}(h:b=true)(h':b=false):p:=by rw[h] at h';simp at h'
theorem Ql:Iq=[[109,111,100,117,108,101],[99,111,110,115,116,97,110,116],[97,116,111,109,115],[115,121,109,109,101,116,114,105,99],[118,97,114,105,97,98,108,101],[100,101,102,105,110,101],[105,110,105,116],[97,99,116,105,111,110],[102,97,105,114],[119,101,97,107],[115,116,114,111,110,103],[105,110,118,97,114,105,97,110,116],[112,114,111,112,101,114,116,121],[97,110,100],[111,114],[110,111,116],[105,109,112,108,105,101,115],[105,102,102],[105,110],[117,110,105,111,110],[105,110,116,101,114],[109,105,110,117,115],[115,117,98,115,101,116],[112,111,119,101,114,115,101,116],[102,108,97,116,116,101,110],[100,111,109,97,105,110],[117,110,99,104,97,110,103,101,100],[101,110,97,98,108,101,100],[97,108,119,97,121,115],[101,118,101,110,116,117,97,108,108,121],[117,110,116,105,108],[108,101,97,100,115,116,111],[99,104,111,111,115,101],[97,108,108],[115,111,109,101],[101,97,99,104],[116,104,111,115,101],[102,117,110],[105,102],[116,104,101,110],[101,108,115,101],[108,101,116],[110,105,108],[116,114,117,101],[102,97,108,115,101],[115,105,122,101],[108,101,110],[104,101,97,100],[116,97,105,108],[97,112,112,101,110,100],[118,97,108,117,101,115],[115,101,113,115]]:=by decide +kernel
theorem Qm (s:ByteArray)(w:World)(b:Bool)(H:Hid (Bm s.toList=b)):Calls Tryz.prog 113 #[.string s] w fun e w'=>e=.returned (.bool b)/\w'=w:=by
 go_enter Tryz.func113,Tryz.ntmps113
 go_wp2_with fail
 all_goals first
  | (exact Ie ‹(s.toList==_)=true› ‹(s.toList==_)=false›)
  | (
   have q:=fJ H ‹(s.toList==_)=true› (by decide +kernel);subst q;go_ret
   exact⟨rfl,rfl⟩)
  | (
   have q:b=false:=by
    refine iD H ?_;rw[Ql];intro v a;simp only[List.mem_cons,List.not_mem_nil,or_false] at a;rcases a with rfl|rfl|rfl|rfl|rfl|rfl|rfl|rfl|rfl|rfl|rfl|rfl|rfl|rfl|rfl|rfl|rfl|rfl|rfl|rfl|rfl|rfl|rfl|rfl|rfl|rfl|rfl|rfl|rfl|rfl|rfl|rfl|rfl|rfl|rfl|rfl|rfl|rfl|rfl|rfl|rfl|rfl|rfl|rfl|rfl|rfl|rfl|rfl|rfl|rfl|rfl|rfl<;>assumption
   subst q;go_ret
   exact⟨rfl,rfl⟩)
theorem Lj (s:ByteArray)(w:World):Calls Tryz.prog 113 #[.string s] w fun e w'=>e=.returned (.bool (Bm s.data.toList))/\w'=w:=by
 refine Qm s w _ ?_;rw[ByteArray.toList_eq];exact rfl
end Go.Proofs.YtjbfcadeapphbaaGreatDoor.Sx
