/- The reference: bytes, words, quotations. -/
import Derived.Test.YtjbfcadeapphbaaGreatDoorK04
import Derived.Lib.IndexAny
import Derived.Test.YtjbfcadeapphbaaGreatDoorK03
import Derived.Deep.RegionHeld3
import Derived.Deep.LoopGhost
namespace Go.Proofs.YtjbfcadeapphbaaGreatDoor.Sx
set_option maxRecDepth 100000
set_option maxHeartbeats 2000000
open Go.RowKit Go.Sort
def Fk (l:List UInt8):Nat:=if Lib.indexByte l 10<0 then l.length else(Lib.indexByte l 10).toNat
theorem Jv (c:UInt8)(l:List UInt8):Fk (c::l)=if c==10 then 0 else Fk l+1:=by
 have a:=Lib.indexByte_ge l 10;unfold Fk;rw[Lib.indexByte];by_cases h:(c==10)=true
 ·rw[if_pos h,if_pos h];rfl
 ·rw[if_neg h,if_neg h];by_cases q:Lib.indexByte l 10=-1
  ·rw[q];simp
  ·have e:(if (Lib.indexByte l 10==-1)=true then(-1:Int) else Lib.indexByte l 10+1)=Lib.indexByte l 10+1:=if_neg (by simpa using q);rw[e,if_neg (by omega),if_neg (by omega)];omega
theorem Un:∀l:List UInt8,btw true l=Fk l+btw false (l.drop (Fk l))
 | []=>rfl
 | c::l=>by
  rw[Jv];by_cases h:c=10
  ·subst h;simp[btw,Df]
  ·have:=Un l;have h':(c==10)=false:=by simpa using h
   rw[h',if_neg (by simp)];simp only[btw,h',Bool.or_true,if_true,Bool.not_false,Bool.and_self,List.drop_succ_cons];omega
theorem dC (l:List UInt8)(k:Nat)(c:UInt8)(h:l[k]?=some c) :
  (Df c=true->btw false (l.drop k)=1+btw false (l.drop (k+1)))/\(Df c=false->c=35->btw false (l.drop k)=Fk (l.drop k)+btw false (l.drop (k+Fk (l.drop k)))/\0<Fk (l.drop k)/\k+Fk (l.drop k)<=l.length)/\(Df c=false->¬c=35->btw false (l.drop k)=0):=by
 obtain⟨g,d⟩:=List.getElem?_eq_some_iff.1 h;rw[List.drop_eq_getElem_cons g,d];refine⟨fun q=>?_,fun q e=>?_,fun q e=>?_⟩
 ·have:(c==35)=false:=by
   unfold Df at q;simp only[Bool.or_eq_true,beq_iff_eq] at q;rcases q with(q|q)|q<;>subst q<;>rfl
  simp[btw,q,this]
 ·subst e;have f:Fk ((35:UInt8)::l.drop (k+1))=Fk (l.drop (k+1))+1:=by rw[Jv];rfl
  have b:Fk (l.drop (k+1))<=(l.drop (k+1)).length:=by
   generalize l.drop (k+1)=m
   induction m with
   | nil=>exact Nat.le_refl _
   | cons a m ih=>rw[Jv];split<;>simp;omega
  rw[f];simp only[List.length_drop] at b;refine⟨?_,by omega,by omega⟩;rw[btw,if_pos (by simp),show(((35:UInt8)==35||false)&&!((35:UInt8)==10))=true from rfl,Un,List.drop_drop];rw[show k+1+Fk (l.drop (k+1))=k+(Fk (l.drop (k+1))+1) from by omega];omega
 ·have:(c==35)=false:=by simpa using e
  simp[btw,q,this]
theorem Uo (s:ByteArray)(w:World):Calls Tryz.prog 119 #[.string s] w fun e w'=>e=.returned (.int .i64 (Fk s.data.toList))/\w'=w:=by
 have g:s.data.toList.length=s.size:=by simp
 have a:=Tryz.strings_IndexByte s 10 w;have f:=Lib.indexByte_ge s.data.toList 10;unfold Fk;rw[show((10:Int).toNat.toUInt8)=10 from rfl] at a;generalize Lib.indexByte s.data.toList 10=d at a f;have b:Hid (Calls _ _ _ _ _):=a;clear a;by_cases q:d<0
 ·rw[if_pos q,g];go_enter Tryz.func119,Tryz.ntmps119
  go_wp2_with (go_at_call 140;refine b.out.mono ?_;rintro e w' ⟨rfl,c⟩;cases c)
  go_ret
  exact⟨rfl,rfl⟩
 ·rw[if_neg q,Int.toNat_of_nonneg (by omega)];go_enter Tryz.func119,Tryz.ntmps119
  go_wp2_with (go_at_call 140;refine b.out.mono ?_;rintro e w' ⟨rfl,c⟩;cases c)
  go_ret
  exact⟨rfl,rfl⟩
theorem Sy (s:ByteArray)(w:World)(hs:s.size<=4000):Calls Tryz.prog 91 #[.string s] w fun e w'=>e=.returned (.int .i64 (btw false s.data.toList))/\w'=w:=by
 have E:s.data.toList.length=s.size:=by simp
 have B:=Ss false s.data.toList;obtain⟨N,r⟩:∃N,btw false s.data.toList=N:=⟨_,rfl⟩;have y:Hid (btw false s.data.toList=N):=r;rw[r] at B |-;clear r;have F:=follows;have x:Hid _:=aH;go_enter Tryz.func91,Tryz.ntmps91
 go_wp2_with fail
 go_loopw [3] (fun i wr=>∃k:Nat,k<=s.size/\i=.int .i64 k/\Hid (wr=w)/\Hid (N=k+btw false (s.data.toList.drop k))) (fun i _=>s.size-(intOf i).toNat)
 case atStart=>exact⟨0,Nat.zero_le _,rfl,rfl,by show N=_;rw[<- y.out];simp⟩
 case round =>
  obtain⟨k,D,rfl,l,d⟩:=hrel;by_cases t:k<s.size
  ·have c:=dC s.data.toList k s[k] (by rw[List.getElem?_eq_getElem (by omega)];rfl);have h:=x.out s[k];have f:(s[k]=35)↔(s[k].toNat:Int)=35:=by rw[<- UInt8.toNat_inj];simp;omega
   rw[f] at c;generalize Df s[k]=b at c h;have g:Hid (∀W,Calls Tryz.prog 118 #[.int .u8 (UInt8.toNat s[k])] W _):=h;have a:Hid _:=c;clear c h f;cases b with
   | true =>
    have j:Hid (N=(k+1)+btw false (s.data.toList.drop (k+1))):=by
     show N=_;have:=a.out.1 rfl;have:=d.out;omega
    clear a d;go_wp2_with (go_at_call 118;refine(g.out _).mono ?_;rintro e w' ⟨rfl,rfl⟩)
    go_roundw
    case rel=>exact⟨k+1,t,by go_num,l,j⟩
    case measure=>simp[intOf];omega
   | false =>
    by_cases q:(s[k].toNat:Int)=35
    ·obtain⟨u,A,v⟩:=a.out.2.1 rfl q;have n:=fun W=>Uo (s.extract k s.size) W;rw[show(s.extract k s.size).data.toList=s.data.toList.drop k from by rw[Gq,List.take_of_length_le (by omega)]] at n;generalize Fk (s.data.toList.drop k)=m at u A v n;have z:Hid (∀W,Calls Tryz.prog 119 #[.string (s.extract k s.size)] W _):=n;have j:Hid (N=(k+m)+btw false (s.data.toList.drop (k+m))):=by
      show N=_;have:=d.out;omega
     have C:((s[k].toNat:Int)==35)=true:=by simp[q]
     have p:k+m<=s.size:=by omega
     clear a d u q v n;go_wp2_with (first|(go_at_call 118;refine(g.out _).mono ?_;rintro e w' ⟨rfl,rfl⟩)|(go_at_call 119;refine(z.out _).mono ?_;rintro e w' ⟨rfl,rfl⟩))
     go_roundw
     case rel=>exact⟨k+m,p,by go_num,l,j⟩
     case measure=>simp[intOf];omega
    ·have o:Hid (N=k):=by
      show N=_;have:=a.out.2.2 rfl q;have:=d.out;omega
     have C:((s[k].toNat:Int)==35)=false:=by simp[q]
     clear a d q;go_wp2_with (go_at_call 118;refine(g.out _).mono ?_;rintro e w' ⟨rfl,rfl⟩)
     go_ret
     exact⟨by rw[o.out];rfl,l.out⟩
  ·have o:Hid (N=k):=by
    show N=_;have:=d.out;rw[List.drop_of_length_le (by omega)] at this;simpa [btw] using this
   clear d;go_wp2_with fail
   go_ret
   exact⟨by rw[o.out];rfl,l.out⟩
theorem Kw (c n:Int)(b:Bool)(w:World):Calls Tryz.prog 124 #[.int .i64 c,.int .i64 n,.bool b] w fun e w'=>e=.returned (.tuple #[.int .i64 (if b then c else 5),.int .i64 n])/\w'=w:=by
 cases b with
 | true =>
  rw[if_pos rfl];go_enter Tryz.func124,Tryz.ntmps124
  go_wp2
  go_ret2
  exact⟨rfl,rfl⟩
 | false =>
  rw[if_neg (by simp)];go_enter Tryz.func124,Tryz.ntmps124
  go_wp2
  go_ret2
  exact⟨rfl,rfl⟩
theorem fM {l v:List UInt8}{n:Nat}{c:Bool}{r:Nat}(H:Hid (r=if decide (1<n)&&Cb.contains l then 2 else if c then 1 else 0))(hn:1<n)(h:(l==v)=true)(hv:Cb.contains v=true):r=2:=by
 have:=eq_of_beq h;subst this;rw[H.out,hv];simp[hn]
theorem iE {l:List UInt8}{n:Nat}{c:Bool}{r:Nat}(H:Hid (r=if decide (1<n)&&Cb.contains l then 2 else if c then 1 else 0))(h:Cb.contains l=false):r=if c then 1 else 0:=by
 rw[H.out,h];simp
theorem Wy (s:ByteArray)(w:World)(h0:0<s.size)(d:Int)(r:Nat)(hix:Calls Tryz.prog 140 #[.string ⟨#[61,60,62,43,45,42,47,37,40,41,123,125,91,93,44,58,46,39]⟩,.int .u8 (s[0].toNat:Int)] w fun e w'=>e=.returned (.int .i64 d)/\w'=w)
  (H:Hid (r=if decide (1<s.size)&&Cb.contains (s.extract 0 2).toList then 2 else if decide (0<=d) then 1 else 0)) :
  Calls Tryz.prog 126 #[.string s] w fun e w'=>e=.returned (.int .i64 r)/\w'=w:=by
 have a:Hid (Calls _ _ _ _ _):=hix;clear hix;have k:=follows;by_cases i:1<s.size
 ·have h:(1:Int)<(s.size:Int):=by omega
  have j:(2:Int)<=(s.size:Int):=by omega
  go_enter Tryz.func126,Tryz.ntmps126
  go_wp2_with fail
  all_goals first
   | (exact Ie ‹((s.extract 0 2).toList==_)=true› ‹((s.extract 0 2).toList==_)=false›)
   | (
    have q:=fM H i ‹((s.extract 0 2).toList==_)=true› (by decide);subst q;go_ret
    exact⟨rfl,rfl⟩)
   | skip
  have q:=iE H (by
   simp only[Cb,List.contains_cons,List.contains_nil,Bool.or_false,Bool.or_eq_false_iff]
   repeat' constructor
   all_goals assumption)
  have f:Hid (r=_):=q;clear H q;by_cases g:0<=d
  ·have b:Hid (0<=d):=g;go_wp2_with (go_at_call 140;refine a.out.mono ?_;rintro e w' ⟨rfl,c⟩;cases c)
   go_ret
   exact⟨by rw[f.out];simp[b.out],rfl⟩
  ·have b:Hid (¬0<=d):=g;go_wp2_with (go_at_call 140;refine a.out.mono ?_;rintro e w' ⟨rfl,c⟩;cases c)
   go_ret
   exact⟨by rw[f.out,decide_eq_false (by have:=b.out;omega)];rfl,rfl⟩
 ·have h:¬(1:Int)<(s.size:Int):=by omega
  have f:Hid (r=if decide (0<=d) then 1 else 0):=by show r=_;rw[H.out];simp[i]
  clear H;by_cases g:0<=d
  ·have b:Hid (0<=d):=g;go_enter Tryz.func126,Tryz.ntmps126
   go_wp2_with (go_at_call 140;refine a.out.mono ?_;rintro e w' ⟨rfl,c⟩;cases c)
   go_ret
   exact⟨by rw[f.out];simp[b.out],rfl⟩
  ·have b:Hid (¬0<=d):=g;go_enter Tryz.func126,Tryz.ntmps126
   go_wp2_with (go_at_call 140;refine a.out.mono ?_;rintro e w' ⟨rfl,c⟩;cases c)
   go_ret
   exact⟨by rw[f.out,decide_eq_false (by have:=b.out;omega)];rfl,rfl⟩
theorem Nu (s:ByteArray)(w:World)(h0:0<s.size):Calls Tryz.prog 126 #[.string s] w fun e w'=>e=.returned (.int .i64 (Fj s.data.toList))/\w'=w:=by
 have b:s.data.toList.length=s.size:=by simp
 have a:=Tryz.strings_IndexByte ⟨#[61,60,62,43,45,42,47,37,40,41,123,125,91,93,44,58,46,39]⟩ (s[0].toNat:Int) w;rw[show((s[0].toNat:Int).toNat.toUInt8)=Cw s.data.toList 0 from by rw[M0 s 0 h0];simp] at a;refine Wy s w h0 _ _ a ?_;show Fj _=_;unfold Fj;rw[ByteArray.toList_eq,Gq,List.drop_zero,b,Lib.contains_iff_indexByte];rfl
theorem Sz (s:ByteArray)(w:World)(h:s.size=0):Calls Tryz.prog 92 #[.string s] w fun e w'=>e=.returned (.tuple #[.int .i64 0,.int .i64 0])/\w'=w:=by
 have a:s=⟨#[]⟩:=by
  have:s.data.size=0:=by simpa using h
  cases s;simp_all
 subst a;go_enter Tryz.func92,Tryz.ntmps92
 go_wp2_with fail
 go_ret2
 exact⟨rfl,rfl⟩
theorem Uq (s:ByteArray)(w:World)(h0:0<s.size)(b1 b2:Bool)(r1 r2:Nat)
  (hL:Calls Tryz.prog 120 #[.int .u8 (s[0].toNat:Int)] w fun e w'=>e=.returned (.bool b1)/\w'=w)
  (hP:Calls Tryz.prog 122 #[.int .u8 (s[0].toNat:Int)] w fun e w'=>e=.returned (.bool b2)/\w'=w)
  (h1:b1=true->r1=1/\Calls Tryz.prog 121 #[.string s] w fun e w'=>e=.returned (.int .i64 r2)/\w'=w)
  (h2:b1=false->b2=true->∃b:Bool,r1=(if b then 2 else 5)/\Calls Tryz.prog 123 #[.string s] w fun e w'=>e=.returned (.tuple #[.int .i64 r2,.bool b])/\Ag w w')
  (h3:b1=false->b2=false->(s[0].toNat:Int)=34->∃b:Bool,r1=(if b then 3 else 5)/\Calls Tryz.prog 125 #[.string s] w fun e w'=>e=.returned (.tuple #[.int .i64 r2,.bool b])/\w'=w)
  (h4:b1=false->b2=false->(s[0].toNat:Int)≠34->r1=(if decide (0<r2) then 4 else 5)/\Calls Tryz.prog 126 #[.string s] w fun e w'=>e=.returned (.int .i64 r2)/\w'=w) :
  Calls Tryz.prog 92 #[.string s] w fun e w'=>e=.returned (.tuple #[.int .i64 r1,.int .i64 r2])/\Ag w w':=by
 have k:Hid (Calls _ _ _ _ _):=hL;have n:Hid (Calls _ _ _ _ _):=hP;clear hL hP;have y:=follows;have u:s.toList.isEmpty=false:=by
  rw[ByteArray.toList_eq];cases q:s.data.toList with
  | nil =>
   have:s.data.toList.length=s.size:=by simp
   rw[q] at this;simp at this;omega
  | cons a l=>rfl
 cases b1 with
 | true =>
  obtain⟨m,h1⟩:=h1 rfl;have f:Hid (Calls _ _ _ _ _):=h1;have t:Hid (r1=1):=m;clear h1 m h2 h3 h4;go_enter Tryz.func92,Tryz.ntmps92
  go_wp2_with (first|(go_at_call 120;refine k.out.mono ?_;rintro e w' ⟨rfl,c⟩;cases c)|(go_at_call 121;refine f.out.mono ?_;rintro e w' ⟨rfl,c⟩;cases c))
  go_ret2
  exact⟨by rw[t.out];rfl,Ag.refl _⟩
 | false =>
  clear h1;cases b2 with
  | true =>
   obtain⟨b,g,h⟩:=h2 rfl rfl;have f:Hid (Calls _ _ _ _ _):=h;have i:Hid (∀W:World,_):=fun W=>Kw 2 (r2:Int) b W;have d:Hid (r1=if b then 2 else 5):=g;clear h2 h3 h4 h g;cases b
   all_goals
    go_enter Tryz.func92,Tryz.ntmps92
    go_wp2_with (first|(go_at_call 120;refine k.out.mono ?_;rintro e w' ⟨rfl,c⟩;cases c)|(go_at_call 122;refine n.out.mono ?_;rintro e w' ⟨rfl,c⟩;cases c)|(go_at_call 123;refine f.out.mono ?_;rintro e w' ⟨rfl,p⟩;have x:Hid (Ag w w'):=p;clear p)|(go_at_call 124;refine(i.out _).mono ?_;rintro e w' ⟨rfl,c⟩;cases c))
    go_ret2
    rw[d.out];exact⟨rfl,by assumption⟩
  | false =>
   clear h2;have h3:=h3 rfl rfl;have h4:=h4 rfl rfl;by_cases j:(s[0].toNat:Int)=34
   ·obtain⟨b,g,h⟩:=h3 j;have f:Hid (Calls _ _ _ _ _):=h;have i:Hid (∀W:World,_):=fun W=>Kw 3 (r2:Int) b W;have d:Hid (r1=if b then 3 else 5):=g;have v:((s[0].toNat:Int)==34)=true:=by simp[j]
    clear h3 h4 j h g;cases b
    all_goals
     go_enter Tryz.func92,Tryz.ntmps92
     go_wp2_with (first|(go_at_call 120;refine k.out.mono ?_;rintro e w' ⟨rfl,c⟩;cases c)|(go_at_call 122;refine n.out.mono ?_;rintro e w' ⟨rfl,c⟩;cases c)|(go_at_call 125;refine f.out.mono ?_;rintro e w' ⟨rfl,c⟩;cases c)|(go_at_call 124;refine(i.out _).mono ?_;rintro e w' ⟨rfl,c⟩;cases c))
     go_ret2
     rw[d.out];exact⟨rfl,Ag.refl _⟩
   ·obtain⟨g,h⟩:=h4 j;have f:Hid (Calls _ _ _ _ _):=h;have i:Hid (∀(W:World)(b:Bool),_):=fun W b=>Kw 4 (r2:Int) b W;have d:Hid (r1=if decide (0<r2) then 4 else 5):=g;have v:((s[0].toNat:Int)==34)=false:=by simp[j]
    clear h3 h4 j h g;by_cases r:0<r2
    ·have o:(0:Int)<(r2:Int):=by omega
     go_enter Tryz.func92,Tryz.ntmps92
     go_wp2_with (first|(go_at_call 120;refine k.out.mono ?_;rintro e w' ⟨rfl,c⟩;cases c)|(go_at_call 122;refine n.out.mono ?_;rintro e w' ⟨rfl,c⟩;cases c)|(go_at_call 126;refine f.out.mono ?_;rintro e w' ⟨rfl,c⟩;cases c)|(go_at_call 124;refine(i.out _ _).mono ?_;rintro e w' ⟨rfl,c⟩;cases c))
     go_ret2
     rw[d.out];exact⟨by simp[r],Ag.refl _⟩
    ·have o:¬(0:Int)<(r2:Int):=by omega
     go_enter Tryz.func92,Tryz.ntmps92
     go_wp2_with (first|(go_at_call 120;refine k.out.mono ?_;rintro e w' ⟨rfl,c⟩;cases c)|(go_at_call 122;refine n.out.mono ?_;rintro e w' ⟨rfl,c⟩;cases c)|(go_at_call 126;refine f.out.mono ?_;rintro e w' ⟨rfl,c⟩;cases c)|(go_at_call 124;refine(i.out _ _).mono ?_;rintro e w' ⟨rfl,c⟩;cases c))
     go_ret2
     rw[d.out];exact⟨by simp[r],Ag.refl _⟩
theorem Wz (s:ByteArray)(w:World)(hs:s.size<=4294967296):Calls Tryz.prog 92 #[.string s] w fun e w'=>e=.returned (.tuple #[.int .i64 (Dr s.data.toList).1,.int .i64 (Dr s.data.toList).2])/\Ag w w':=by
 have d:s.data.toList.length=s.size:=by simp
 by_cases b:s.size=0
 ·have:Dr s.data.toList=(0,0):=by unfold Dr;rw[if_pos (by omega)]
  rw[this];exact(Sz s w b).mono fun e w' h=>⟨h.1,by rw[h.2];exact Ag.refl _⟩
 ·have c:=M0 s 0 (by omega);unfold Dr;rw[if_neg (by omega),c];refine Uq s w (by omega) (A8 s[0]) (Ba s[0]) _ _ (Kv _ w) (Ul _ w) ?_ ?_ ?_ ?_
  ·intro h;rw[if_pos h];exact⟨rfl,Sr s w hs⟩
  ·intro h a;rw[if_neg (by simp[h]),if_pos a];exact⟨Ju s.data.toList,rfl,Ww s w hs (by omega)⟩
  ·intro h a q;rw[if_neg (by simp[h]),if_neg (by simp[a]),if_pos (by omega)];refine⟨decide ((Cc (s.data.toList.drop 1) 1).1=3),?_,aI s w hs (by omega)⟩;rcases Kd (s.data.toList.drop 1) 1 with q|q<;>rw[q]<;>rfl
  ·intro h a q;rw[if_neg (by simp[h]),if_neg (by simp[a]),if_neg (by omega)];have:=Nu s w (by omega);by_cases z:Fj s.data.toList=0
   ·rw[if_pos z];rw[z] at this;exact⟨rfl,this⟩
   ·rw[if_neg z];exact⟨by simp[Nat.pos_of_ne_zero z],this⟩
end Go.Proofs.YtjbfcadeapphbaaGreatDoor.Sx
namespace Go.Proofs.YtjbfcadeapphbaaGreatDoor.Sx
open Go.RowKit Go.Sort
structure Fr (P:Nat->Prop)(w w':World):Prop where
 os:w'.os=w.os
 tape:w'.tape=w.tape
 output:w'.output=w.output
 size:w.heap.size<=w'.heap.size
 block:∀k,k<w.heap.size->P k->w'.heap[k]?=w.heap[k]?
theorem Fr.refl (P:Nat->Prop)(w:World):Fr P w w:=⟨rfl,rfl,rfl,Nat.le_refl _,fun _ _ _=>rfl⟩
theorem Fr.trans {P:Nat->Prop}{a b c:World}(h:Fr P a b)(k:Fr P b c):Fr P a c :=
 ⟨k.os.trans h.os,k.tape.trans h.tape,k.output.trans h.output,Nat.le_trans h.size k.size,fun i hi hp=>(k.block i (Nat.lt_of_lt_of_le hi h.size) hp).trans (h.block i hi hp)⟩
theorem Fr.mono {P Q:Nat->Prop}{a b:World}(h:Fr P a b)(hq:∀k,Q k->P k):Fr Q a b:=⟨h.os,h.tape,h.output,h.size,fun i hi hp=>h.block i hi (hq i hp)⟩
theorem Fr.below {P:Nat->Prop}{a b:World}(h:Below a.heap.size a b):Fr P a b:=⟨h.os,h.tape,h.output,h.size,fun i hi _=>h.block i hi⟩
theorem Fr.grew {P:Nat->Prop}{a b:World}(h:Ag a b):Fr P a b:=Fr.below h.below
theorem Fr.set {P:Nat->Prop}{a b:World}(h:Fr P a b){p:Addr}(hp:¬P p.block)(u:Value):Fr P a (b.setCell p u) :=
 ⟨h.os,h.tape,h.output,by simpa using h.size,fun i hi hq=>by rw[Below.heap_setCell b p u i (fun e=>hp (by rw[<- e];exact hq))];exact h.block i hi hq⟩
theorem Fr.drew {P:Nat->Prop}{a b:World}(h:Fr P a b):Fr P a b.drew:=h.trans (Fr.grew (Ag.drew (Ag.refl _)))
theorem Fr.alloc {P:Nat->Prop}{a b:World}(h:Fr P a b)(o:Obj):Fr P a (b.alloc o):=h.trans (Fr.grew (Ag.alloc (Ag.refl _) o))
theorem Ac {w:World}{b:Nat}{vs:Array Value}{t:TypeId}(h:w.heap[b]?=some (.cells vs t (0,0)))(i:Nat):w.frozen? ⟨b,i,none⟩=false:=by
 simp[World.frozen?,h]
theorem Jw {w:World}{b:Nat}{vs:Array Value}{t:TypeId}(h:w.heap[b]?=some (.cells vs t (0,0))):w.frozen? ⟨b,0,none⟩=false/\w.frozen? ⟨b,1,none⟩=false/\w.frozen? ⟨b,2,none⟩=false:=⟨Ac h 0,Ac h 1,Ac h 2⟩
theorem Ur {w:World}{b:Nat}{vs:Array Value}{t:TypeId}(h:w.heap[b]?=some (.cells vs t (0,0))):w.frozen? ⟨b,0,none⟩=false/\w.frozen? ⟨b,1,none⟩=false/\w.frozen? ⟨b,2,none⟩=false/\w.frozen? ⟨b,3,none⟩=false/\w.frozen? ⟨b,4,none⟩=false:=⟨Ac h 0,Ac h 1,Ac h 2,Ac h 3,Ac h 4⟩
theorem Ah {w:World}{b:Nat}{vs:Array Value}{t:TypeId}{f:Nat×Nat}(h:w.heap[b]?=some (.cells vs t f))(i:Nat)(u:Value):(w.setCell ⟨b,i,none⟩ u).heap[b]?=some (.cells (vs.set! i u) t f):=by
 simp[World.setCell,Array.getElem?_modify,h]
end Go.Proofs.YtjbfcadeapphbaaGreatDoor.Sx
namespace Go.Proofs.YtjbfcadeapphbaaGreatDoor.Sx
open Go.RowKit Go.Sort
theorem Ut {w:World}{b i j:Nat}{u v:Value}(h:w.cell? ⟨b,i,none⟩=some v)(hij:j≠i):(w.setCell ⟨b,j,none⟩ u).cell? ⟨b,i,none⟩=some v:=by
 exact(World.cell?_setCell_other w _ _ u (fun e=>hij (congrArg Addr.off e))).trans h
end Go.Proofs.YtjbfcadeapphbaaGreatDoor.Sx
namespace Go.Proofs.YtjbfcadeapphbaaGreatDoor.Sx
open Go.RowKit Go.Sort
theorem Ag.setNew {w w1:World}(h:Ag w w1){p:Addr}(hp:w.heap.size<=p.block)(u:Value):Ag w (w1.setCell p u):=by
 obtain⟨q,c,rfl⟩:=h;have a:∃f:Obj->Obj,∀W:World,W.setCell p u={ W with heap:=W.heap.modify p.block f }:=⟨_,fun _=>rfl⟩;obtain⟨f,b⟩:=a;refine⟨q,c.modify (p.block-(w.drewN q).heap.size) f,?_⟩;rw[b];simp only[grow];rw[modify_append_right _ _ _ _ (by exact hp)]
section
variable {α:Type} (P:Nat->Prop) (w:World) (R:α->Value->Prop) (num:α->Option Int) (wta:α->Nat)
def Ca (a:Option Addr)(len:Nat)(es:List α):Prop :=
 len=es.length/\len<=4294967296/\(len=0\/∃b off,a=some ⟨b,off,none⟩/\b<w.heap.size/\P b/\∀i x,es[i]?=some x->∃v,w.cell? ⟨b,off+i,none⟩=some v/\R x v)
end
section
variable {α:Type} {P Q:Nat->Prop} {w w':World} {R R':α->Value->Prop} {num:α->Option Int} {wta:α->Nat}
theorem Ca.fr (hf:Fr P w w')(hR:∀x v,R x v->R' x v)(hQ:∀k,k<w.heap.size->P k->Q k){a:Option Addr}{len:Nat}{es:List α}(h:Ca P w R a len es):Ca Q w' R' a len es:=by
 refine⟨h.1,h.2.1,?_⟩;rcases h.2.2 with f|⟨b,d,rfl,c,e,l⟩
 ·exact .inl f
 ·refine .inr ⟨b,d,rfl,Nat.lt_of_lt_of_le c hf.size,hQ b c e,fun i x hx=>?_⟩;obtain⟨v,g,j⟩:=l i x hx;exact⟨v,(World.cell?_of_block (w:=w) (hf.block b c e)).trans g,hR x v j⟩
theorem Ca.row (hR:∀x v,R x v->R' x v){a:Option Addr}{len:Nat}{es:List α}(h:Ca P w R a len es):Rh w R' a len es:=by
 refine⟨h.1,h.2.1,?_⟩;rcases h.2.2 with e|⟨b,d,rfl,c,k,j⟩
 ·exact .inl e
 ·refine .inr ⟨b,d,rfl,c,fun i x hx=>?_⟩;obtain⟨v,f,g⟩:=j i x hx;exact⟨v,f,hR x v g⟩
end
end Go.Proofs.YtjbfcadeapphbaaGreatDoor.Sx
namespace Go.Proofs.YtjbfcadeapphbaaGreatDoor.Sx
open Go.RowKit Go.Sort
attribute [local go_sem] Y9 Za Sl Sm Zb Zc Sn Sq
theorem Aj {W:World}{o:Obj}{k:Nat}(h:W.heap.size=k):(W.alloc o).heap[k]?=some o:=by subst h;exact heap_alloc_new W o
end Go.Proofs.YtjbfcadeapphbaaGreatDoor.Sx
namespace Go.Proofs.YtjbfcadeapphbaaGreatDoor.Sx
open Go.RowKit Go.Sort
end Go.Proofs.YtjbfcadeapphbaaGreatDoor.Sx
namespace Go.Proofs.YtjbfcadeapphbaaGreatDoor.Sx
open Go.RowKit Go.Sort
end Go.Proofs.YtjbfcadeapphbaaGreatDoor.Sx
namespace Go.Proofs.YtjbfcadeapphbaaGreatDoor.Sx
open Go.RowKit Go.Sort
def Q8:Nat->List UInt8->Nat
 | a,[]=>a
 | a,c::l=>Q8 (a*10+(c.toNat-48)) l
theorem Zt:∀(l:List UInt8)(a:Nat),a<=Q8 a l
 | [],a=>Nat.le_refl a
 | c::l,a=>Nat.le_trans (Nat.le_trans (Nat.le_mul_of_pos_right a (by decide)) (Nat.le_add_right _ _)) (Zt l (a*10+(c.toNat-48)))
end Go.Proofs.YtjbfcadeapphbaaGreatDoor.Sx
