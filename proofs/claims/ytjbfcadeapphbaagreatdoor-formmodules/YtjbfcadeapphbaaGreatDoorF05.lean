/- The reference: bytes, words, quotations. -/
import Derived.Test.YtjbfcadeapphbaaGreatDoorF04
import Derived.Lib.IndexAny
import Derived.Test.YtjbfcadeapphbaaGreatDoorF03
import Derived.Deep.RegionHeld3
import Derived.Deep.LoopGhost
namespace Go.Proofs.YtjbfcadeapphbaaGreatDoor.Sx
set_option maxRecDepth 100000
set_option maxHeartbeats 2000000
open Go.RowKit Go.Sort
def Fs (l:List UInt8):Nat:=if Lib.indexByte l 10<0 then l.length else(Lib.indexByte l 10).toNat
theorem Ko (c:UInt8)(l:List UInt8):Fs (c::l)=if c==10 then 0 else Fs l+1:=by
 have a:=Lib.indexByte_ge l 10;unfold Fs;rw[Lib.indexByte];by_cases h:(c==10)=true
 ·rw[if_pos h,if_pos h];rfl
 ·rw[if_neg h,if_neg h];by_cases q:Lib.indexByte l 10=-1
  ·rw[q];simp
  ·have e:(if (Lib.indexByte l 10==-1)=true then(-1:Int) else Lib.indexByte l 10+1)=Lib.indexByte l 10+1:=if_neg (by simpa using q);rw[e,if_neg (by omega),if_neg (by omega)];omega
theorem Wk:∀l:List UInt8,btw true l=Fs l+btw false (l.drop (Fs l))
 | []=>rfl
 | c::l=>by
  rw[Ko];by_cases h:c=10
  ·subst h;simp[btw,Ee]
  ·have:=Wk l;have h':(c==10)=false:=by simpa using h
   rw[h',if_neg (by simp)];simp only[btw,h',Bool.or_true,if_true,Bool.not_false,Bool.and_self,List.drop_succ_cons];omega
theorem gG (l:List UInt8)(k:Nat)(c:UInt8)(h:l[k]?=some c) :
  (Ee c=true->btw false (l.drop k)=1+btw false (l.drop (k+1)))/\(Ee c=false->c=35->btw false (l.drop k)=Fs (l.drop k)+btw false (l.drop (k+Fs (l.drop k)))/\0<Fs (l.drop k)/\k+Fs (l.drop k)<=l.length)/\(Ee c=false->¬c=35->btw false (l.drop k)=0):=by
 obtain⟨g,d⟩:=List.getElem?_eq_some_iff.1 h;rw[List.drop_eq_getElem_cons g,d];refine⟨fun q=>?_,fun q e=>?_,fun q e=>?_⟩
 ·have:(c==35)=false:=by
   unfold Ee at q;simp only[Bool.or_eq_true,beq_iff_eq] at q;rcases q with(q|q)|q<;>subst q<;>rfl
  simp[btw,q,this]
 ·subst e;have f:Fs ((35:UInt8)::l.drop (k+1))=Fs (l.drop (k+1))+1:=by rw[Ko];rfl
  have b:Fs (l.drop (k+1))<=(l.drop (k+1)).length:=by
   generalize l.drop (k+1)=m
   induction m with
   | nil=>exact Nat.le_refl _
   | cons a m ih=>rw[Ko];split<;>simp;omega
  rw[f];simp only[List.length_drop] at b;refine⟨?_,by omega,by omega⟩;rw[btw,if_pos (by simp),show(((35:UInt8)==35||false)&&!((35:UInt8)==10))=true from rfl,Wk,List.drop_drop];rw[show k+1+Fs (l.drop (k+1))=k+(Fs (l.drop (k+1))+1) from by omega];omega
 ·have:(c==35)=false:=by simpa using e
  simp[btw,q,this]
theorem Wl (s:ByteArray)(w:World):Calls Tryz.prog 119 #[.string s] w fun e w'=>e=.returned (.int .i64 (Fs s.data.toList))/\w'=w:=by
 have g:s.data.toList.length=s.size:=by simp
 have a:=Tryz.strings_IndexByte s 10 w;have f:=Lib.indexByte_ge s.data.toList 10;unfold Fs;rw[show((10:Int).toNat.toUInt8)=10 from rfl] at a;generalize Lib.indexByte s.data.toList 10=d at a f;have b:Hid (Calls _ _ _ _ _):=a;clear a;by_cases q:d<0
 ·rw[if_pos q,g];go_enter Tryz.func119,Tryz.ntmps119
  go_wp2_with (go_at_call 140;refine b.out.mono ?_;rintro e w' ⟨rfl,c⟩;cases c)
  go_ret
  exact⟨rfl,rfl⟩
 ·rw[if_neg q,Int.toNat_of_nonneg (by omega)];go_enter Tryz.func119,Tryz.ntmps119
  go_wp2_with (go_at_call 140;refine b.out.mono ?_;rintro e w' ⟨rfl,c⟩;cases c)
  go_ret
  exact⟨rfl,rfl⟩
theorem Ud (s:ByteArray)(w:World)(hs:s.size<=4000):Calls Tryz.prog 91 #[.string s] w fun e w'=>e=.returned (.int .i64 (btw false s.data.toList))/\w'=w:=by
 have E:s.data.toList.length=s.size:=by simp
 have B:=Ub false s.data.toList;obtain⟨N,r⟩:∃N,btw false s.data.toList=N:=⟨_,rfl⟩;have y:Hid (btw false s.data.toList=N):=r;rw[r] at B |-;clear r;have F:=follows;have x:Hid _:=dI;go_enter Tryz.func91,Tryz.ntmps91
 go_wp2_with fail
 go_loopw [3] (fun i wr=>∃k:Nat,k<=s.size/\i=.int .i64 k/\Hid (wr=w)/\Hid (N=k+btw false (s.data.toList.drop k))) (fun i _=>s.size-(intOf i).toNat)
 case atStart=>exact⟨0,Nat.zero_le _,rfl,rfl,by show N=_;rw[<- y.out];simp⟩
 case round =>
  obtain⟨k,D,rfl,l,d⟩:=hrel;by_cases t:k<s.size
  ·have c:=gG s.data.toList k s[k] (by rw[List.getElem?_eq_getElem (by omega)];rfl);have h:=x.out s[k];have f:(s[k]=35)↔(s[k].toNat:Int)=35:=by rw[<- UInt8.toNat_inj];simp;omega
   rw[f] at c;generalize Ee s[k]=b at c h;have g:Hid (∀W,Calls Tryz.prog 118 #[.int .u8 (UInt8.toNat s[k])] W _):=h;have a:Hid _:=c;clear c h f;cases b with
   | true =>
    have j:Hid (N=(k+1)+btw false (s.data.toList.drop (k+1))):=by
     show N=_;have:=a.out.1 rfl;have:=d.out;omega
    clear a d;go_wp2_with (go_at_call 118;refine(g.out _).mono ?_;rintro e w' ⟨rfl,rfl⟩)
    go_roundw
    case rel=>exact⟨k+1,t,by go_num,l,j⟩
    case measure=>simp[intOf];omega
   | false =>
    by_cases q:(s[k].toNat:Int)=35
    ·obtain⟨u,A,v⟩:=a.out.2.1 rfl q;have n:=fun W=>Wl (s.extract k s.size) W;rw[show(s.extract k s.size).data.toList=s.data.toList.drop k from by rw[Fx,List.take_of_length_le (by omega)]] at n;generalize Fs (s.data.toList.drop k)=m at u A v n;have z:Hid (∀W,Calls Tryz.prog 119 #[.string (s.extract k s.size)] W _):=n;have j:Hid (N=(k+m)+btw false (s.data.toList.drop (k+m))):=by
      show N=_;have:=d.out;omega
     have C:((s[k].toNat:Int)==35)=true:=by simp[q]
     have p:k+m<=s.size:=by omega
     clear a d u q v n;go_wp2_with (first|(go_at_call 118;refine(g.out _).mono ?_;rintro e w' ⟨rfl,rfl⟩)|(go_at_call 119;refine(z.out _).mono ?_;rintro e w' ⟨rfl,rfl⟩))
     go_roundw
     case rel=>exact⟨k+m,p,by go_num,l,j⟩
     case measure=>simp[intOf];omega
    ·have o:Hid (N=k):=by
      show N=_;have:=a.out.2.2 rfl q;have:=d.out;omega
     have C:((s[k].toNat:Int)==35)=false:=by simp[q]
     clear a d q;go_wp2_with (go_at_call 118;refine(g.out _).mono ?_;rintro e w' ⟨rfl,rfl⟩)
     go_ret
     exact⟨by rw[o.out];rfl,l.out⟩
  ·have o:Hid (N=k):=by
    show N=_;have:=d.out;rw[List.drop_of_length_le (by omega)] at this;simpa [btw] using this
   clear d;go_wp2_with fail
   go_ret
   exact⟨by rw[o.out];rfl,l.out⟩
theorem Lv (c n:Int)(b:Bool)(w:World):Calls Tryz.prog 124 #[.int .i64 c,.int .i64 n,.bool b] w fun e w'=>e=.returned (.tuple #[.int .i64 (if b then c else 5),.int .i64 n])/\w'=w:=by
 cases b with
 | true =>
  rw[if_pos rfl];go_enter Tryz.func124,Tryz.ntmps124
  go_wp2
  go_ret2
  exact⟨rfl,rfl⟩
 | false =>
  rw[if_neg (by simp)];go_enter Tryz.func124,Tryz.ntmps124
  go_wp2
  go_ret2
  exact⟨rfl,rfl⟩
theorem jV {l v:List UInt8}{n:Nat}{c:Bool}{r:Nat}(H:Hid (r=if decide (1<n)&&J2.contains l then 2 else if c then 1 else 0))(hn:1<n)(h:(l==v)=true)(hv:J2.contains v=true):r=2:=by
 have:=eq_of_beq h;subst this;rw[H.out,hv];simp[hn]
theorem lM {l:List UInt8}{n:Nat}{c:Bool}{r:Nat}(H:Hid (r=if decide (1<n)&&J2.contains l then 2 else if c then 1 else 0))(h:J2.contains l=false):r=if c then 1 else 0:=by
 rw[H.out,h];simp
theorem Zd (s:ByteArray)(w:World)(h0:0<s.size)(d:Int)(r:Nat)(hix:Calls Tryz.prog 140 #[.string ⟨#[61,60,62,43,45,42,47,37,40,41,123,125,91,93,44,58,46,39]⟩,.int .u8 (s[0].toNat:Int)] w fun e w'=>e=.returned (.int .i64 d)/\w'=w)
  (H:Hid (r=if decide (1<s.size)&&J2.contains (s.extract 0 2).toList then 2 else if decide (0<=d) then 1 else 0)) :
  Calls Tryz.prog 126 #[.string s] w fun e w'=>e=.returned (.int .i64 r)/\w'=w:=by
 have a:Hid (Calls _ _ _ _ _):=hix;clear hix;have k:=follows;by_cases i:1<s.size
 ·have h:(1:Int)<(s.size:Int):=by omega
  have j:(2:Int)<=(s.size:Int):=by omega
  go_enter Tryz.func126,Tryz.ntmps126
  go_wp2_with fail
  all_goals first
   | (exact I8 ‹((s.extract 0 2).toList==_)=true› ‹((s.extract 0 2).toList==_)=false›)
   | (
    have q:=jV H i ‹((s.extract 0 2).toList==_)=true› (by decide);subst q;go_ret
    exact⟨rfl,rfl⟩)
   | skip
  have q:=lM H (by
   simp only[J2,List.contains_cons,List.contains_nil,Bool.or_false,Bool.or_eq_false_iff]
   repeat' constructor
   all_goals assumption)
  have f:Hid (r=_):=q;clear H q;by_cases g:0<=d
  ·have b:Hid (0<=d):=g;go_wp2_with (go_at_call 140;refine a.out.mono ?_;rintro e w' ⟨rfl,c⟩;cases c)
   go_ret
   exact⟨by rw[f.out];simp[b.out],rfl⟩
  ·have b:Hid (¬0<=d):=g;go_wp2_with (go_at_call 140;refine a.out.mono ?_;rintro e w' ⟨rfl,c⟩;cases c)
   go_ret
   exact⟨by rw[f.out,decide_eq_false (by have:=b.out;omega)];rfl,rfl⟩
 ·have h:¬(1:Int)<(s.size:Int):=by omega
  have f:Hid (r=if decide (0<=d) then 1 else 0):=by show r=_;rw[H.out];simp[i]
  clear H;by_cases g:0<=d
  ·have b:Hid (0<=d):=g;go_enter Tryz.func126,Tryz.ntmps126
   go_wp2_with (go_at_call 140;refine a.out.mono ?_;rintro e w' ⟨rfl,c⟩;cases c)
   go_ret
   exact⟨by rw[f.out];simp[b.out],rfl⟩
  ·have b:Hid (¬0<=d):=g;go_enter Tryz.func126,Tryz.ntmps126
   go_wp2_with (go_at_call 140;refine a.out.mono ?_;rintro e w' ⟨rfl,c⟩;cases c)
   go_ret
   exact⟨by rw[f.out,decide_eq_false (by have:=b.out;omega)];rfl,rfl⟩
theorem O4 (s:ByteArray)(w:World)(h0:0<s.size):Calls Tryz.prog 126 #[.string s] w fun e w'=>e=.returned (.int .i64 (Gm s.data.toList))/\w'=w:=by
 have b:s.data.toList.length=s.size:=by simp
 have a:=Tryz.strings_IndexByte ⟨#[61,60,62,43,45,42,47,37,40,41,123,125,91,93,44,58,46,39]⟩ (s[0].toNat:Int) w;rw[show((s[0].toNat:Int).toNat.toUInt8)=Dn s.data.toList 0 from by rw[Og s 0 h0];simp] at a;refine Zd s w h0 _ _ a ?_;show Gm _=_;unfold Gm;rw[ByteArray.toList_eq,Fx,List.drop_zero,b,Lib.contains_iff_indexByte];rfl
theorem Ue (s:ByteArray)(w:World)(h:s.size=0):Calls Tryz.prog 92 #[.string s] w fun e w'=>e=.returned (.tuple #[.int .i64 0,.int .i64 0])/\w'=w:=by
 have a:s=⟨#[]⟩:=by
  have:s.data.size=0:=by simpa using h
  cases s;simp_all
 subst a;go_enter Tryz.func92,Tryz.ntmps92
 go_wp2_with fail
 go_ret2
 exact⟨rfl,rfl⟩
theorem Wm (s:ByteArray)(w:World)(h0:0<s.size)(b1 b2:Bool)(r1 r2:Nat)
  (hL:Calls Tryz.prog 120 #[.int .u8 (s[0].toNat:Int)] w fun e w'=>e=.returned (.bool b1)/\w'=w)
  (hP:Calls Tryz.prog 122 #[.int .u8 (s[0].toNat:Int)] w fun e w'=>e=.returned (.bool b2)/\w'=w)
  (h1:b1=true->r1=1/\Calls Tryz.prog 121 #[.string s] w fun e w'=>e=.returned (.int .i64 r2)/\w'=w)
  (h2:b1=false->b2=true->∃b:Bool,r1=(if b then 2 else 5)/\Calls Tryz.prog 123 #[.string s] w fun e w'=>e=.returned (.tuple #[.int .i64 r2,.bool b])/\Ad w w')
  (h3:b1=false->b2=false->(s[0].toNat:Int)=34->∃b:Bool,r1=(if b then 3 else 5)/\Calls Tryz.prog 125 #[.string s] w fun e w'=>e=.returned (.tuple #[.int .i64 r2,.bool b])/\w'=w)
  (h4:b1=false->b2=false->(s[0].toNat:Int)≠34->r1=(if decide (0<r2) then 4 else 5)/\Calls Tryz.prog 126 #[.string s] w fun e w'=>e=.returned (.int .i64 r2)/\w'=w) :
  Calls Tryz.prog 92 #[.string s] w fun e w'=>e=.returned (.tuple #[.int .i64 r1,.int .i64 r2])/\Ad w w':=by
 have k:Hid (Calls _ _ _ _ _):=hL;have n:Hid (Calls _ _ _ _ _):=hP;clear hL hP;have y:=follows;have u:s.toList.isEmpty=false:=by
  rw[ByteArray.toList_eq];cases q:s.data.toList with
  | nil =>
   have:s.data.toList.length=s.size:=by simp
   rw[q] at this;simp at this;omega
  | cons a l=>rfl
 cases b1 with
 | true =>
  obtain⟨m,h1⟩:=h1 rfl;have f:Hid (Calls _ _ _ _ _):=h1;have t:Hid (r1=1):=m;clear h1 m h2 h3 h4;go_enter Tryz.func92,Tryz.ntmps92
  go_wp2_with (first|(go_at_call 120;refine k.out.mono ?_;rintro e w' ⟨rfl,c⟩;cases c)|(go_at_call 121;refine f.out.mono ?_;rintro e w' ⟨rfl,c⟩;cases c))
  go_ret2
  exact⟨by rw[t.out];rfl,Ad.refl _⟩
 | false =>
  clear h1;cases b2 with
  | true =>
   obtain⟨b,g,h⟩:=h2 rfl rfl;have f:Hid (Calls _ _ _ _ _):=h;have i:Hid (∀W:World,_):=fun W=>Lv 2 (r2:Int) b W;have d:Hid (r1=if b then 2 else 5):=g;clear h2 h3 h4 h g;cases b
   all_goals
    go_enter Tryz.func92,Tryz.ntmps92
    go_wp2_with (first|(go_at_call 120;refine k.out.mono ?_;rintro e w' ⟨rfl,c⟩;cases c)|(go_at_call 122;refine n.out.mono ?_;rintro e w' ⟨rfl,c⟩;cases c)|(go_at_call 123;refine f.out.mono ?_;rintro e w' ⟨rfl,p⟩;have x:Hid (Ad w w'):=p;clear p)|(go_at_call 124;refine(i.out _).mono ?_;rintro e w' ⟨rfl,c⟩;cases c))
    go_ret2
    rw[d.out];exact⟨rfl,by assumption⟩
  | false =>
   clear h2;have h3:=h3 rfl rfl;have h4:=h4 rfl rfl;by_cases j:(s[0].toNat:Int)=34
   ·obtain⟨b,g,h⟩:=h3 j;have f:Hid (Calls _ _ _ _ _):=h;have i:Hid (∀W:World,_):=fun W=>Lv 3 (r2:Int) b W;have d:Hid (r1=if b then 3 else 5):=g;have v:((s[0].toNat:Int)==34)=true:=by simp[j]
    clear h3 h4 j h g;cases b
    all_goals
     go_enter Tryz.func92,Tryz.ntmps92
     go_wp2_with (first|(go_at_call 120;refine k.out.mono ?_;rintro e w' ⟨rfl,c⟩;cases c)|(go_at_call 122;refine n.out.mono ?_;rintro e w' ⟨rfl,c⟩;cases c)|(go_at_call 125;refine f.out.mono ?_;rintro e w' ⟨rfl,c⟩;cases c)|(go_at_call 124;refine(i.out _).mono ?_;rintro e w' ⟨rfl,c⟩;cases c))
     go_ret2
     rw[d.out];exact⟨rfl,Ad.refl _⟩
   ·obtain⟨g,h⟩:=h4 j;have f:Hid (Calls _ _ _ _ _):=h;have i:Hid (∀(W:World)(b:Bool),_):=fun W b=>Lv 4 (r2:Int) b W;have d:Hid (r1=if decide (0<r2) then 4 else 5):=g;have v:((s[0].toNat:Int)==34)=false:=by simp[j]
    clear h3 h4 j h g;by_cases r:0<r2
    ·have o:(0:Int)<(r2:Int):=by omega
     go_enter Tryz.func92,Tryz.ntmps92
     go_wp2_with (first|(go_at_call 120;refine k.out.mono ?_;rintro e w' ⟨rfl,c⟩;cases c)|(go_at_call 122;refine n.out.mono ?_;rintro e w' ⟨rfl,c⟩;cases c)|(go_at_call 126;refine f.out.mono ?_;rintro e w' ⟨rfl,c⟩;cases c)|(go_at_call 124;refine(i.out _ _).mono ?_;rintro e w' ⟨rfl,c⟩;cases c))
     go_ret2
     rw[d.out];exact⟨by simp[r],Ad.refl _⟩
    ·have o:¬(0:Int)<(r2:Int):=by omega
     go_enter Tryz.func92,Tryz.ntmps92
     go_wp2_with (first|(go_at_call 120;refine k.out.mono ?_;rintro e w' ⟨rfl,c⟩;cases c)|(go_at_call 122;refine n.out.mono ?_;rintro e w' ⟨rfl,c⟩;cases c)|(go_at_call 126;refine f.out.mono ?_;rintro e w' ⟨rfl,c⟩;cases c)|(go_at_call 124;refine(i.out _ _).mono ?_;rintro e w' ⟨rfl,c⟩;cases c))
     go_ret2
     rw[d.out];exact⟨by simp[r],Ad.refl _⟩
theorem Ze (s:ByteArray)(w:World)(hs:s.size<=4294967296):Calls Tryz.prog 92 #[.string s] w fun e w'=>e=.returned (.tuple #[.int .i64 (Ey s.data.toList).1,.int .i64 (Ey s.data.toList).2])/\Ad w w':=by
 have d:s.data.toList.length=s.size:=by simp
 by_cases b:s.size=0
 ·have:Ey s.data.toList=(0,0):=by unfold Ey;rw[if_pos (by omega)]
  rw[this];exact(Ue s w b).mono fun e w' h=>⟨h.1,by rw[h.2];exact Ad.refl _⟩
 ·have c:=Og s 0 (by omega);unfold Ey;rw[if_neg (by omega),c];refine Wm s w (by omega) (Bp s[0]) (Bu s[0]) _ _ (Lu _ w) (Wi _ w) ?_ ?_ ?_ ?_
  ·intro h;rw[if_pos h];exact⟨rfl,Ua s w hs⟩
  ·intro h a;rw[if_neg (by simp[h]),if_pos a];exact⟨Mr s.data.toList,rfl,Zb s w hs (by omega)⟩
  ·intro h a q;rw[if_neg (by simp[h]),if_neg (by simp[a]),if_pos (by omega)];refine⟨decide ((Dj (s.data.toList.drop 1) 1).1=3),?_,dJ s w hs (by omega)⟩;rcases Gz (s.data.toList.drop 1) 1 with q|q<;>rw[q]<;>rfl
  ·intro h a q;rw[if_neg (by simp[h]),if_neg (by simp[a]),if_neg (by omega)];have:=O4 s w (by omega);by_cases z:Gm s.data.toList=0
   ·rw[if_pos z];rw[z] at this;exact⟨rfl,this⟩
   ·rw[if_neg z];exact⟨by simp[Nat.pos_of_ne_zero z],this⟩
end Go.Proofs.YtjbfcadeapphbaaGreatDoor.Sx
namespace Go.Proofs.YtjbfcadeapphbaaGreatDoor.Sx
open Go.RowKit Go.Sort
structure Fr (P:Nat->Prop)(w w':World):Prop where
 os:w'.os=w.os
 tape:w'.tape=w.tape
 output:w'.output=w.output
 size:w.heap.size<=w'.heap.size
 block:∀k,k<w.heap.size->P k->w'.heap[k]?=w.heap[k]?
theorem Fr.refl (P:Nat->Prop)(w:World):Fr P w w:=⟨rfl,rfl,rfl,Nat.le_refl _,fun _ _ _=>rfl⟩
theorem Fr.trans {P:Nat->Prop}{a b c:World}(h:Fr P a b)(k:Fr P b c):Fr P a c :=
 ⟨k.os.trans h.os,k.tape.trans h.tape,k.output.trans h.output,Nat.le_trans h.size k.size,fun i hi hp=>(k.block i (Nat.lt_of_lt_of_le hi h.size) hp).trans (h.block i hi hp)⟩
theorem Fr.mono {P Q:Nat->Prop}{a b:World}(h:Fr P a b)(hq:∀k,Q k->P k):Fr Q a b:=⟨h.os,h.tape,h.output,h.size,fun i hi hp=>h.block i hi (hq i hp)⟩
theorem Fr.below {P:Nat->Prop}{a b:World}(h:Below a.heap.size a b):Fr P a b:=⟨h.os,h.tape,h.output,h.size,fun i hi _=>h.block i hi⟩
theorem Fr.grew {P:Nat->Prop}{a b:World}(h:Ad a b):Fr P a b:=Fr.below h.below
theorem Fr.set {P:Nat->Prop}{a b:World}(h:Fr P a b){p:Addr}(hp:¬P p.block)(u:Value):Fr P a (b.setCell p u) :=
 ⟨h.os,h.tape,h.output,by simpa using h.size,fun i hi hq=>by rw[Below.heap_setCell b p u i (fun e=>hp (by rw[<- e];exact hq))];exact h.block i hi hq⟩
theorem Fr.drew {P:Nat->Prop}{a b:World}(h:Fr P a b):Fr P a b.drew:=h.trans (Fr.grew (Ad.drew (Ad.refl _)))
theorem Fr.alloc {P:Nat->Prop}{a b:World}(h:Fr P a b)(o:Obj):Fr P a (b.alloc o):=h.trans (Fr.grew (Ad.alloc (Ad.refl _) o))
theorem Ab {w:World}{b:Nat}{vs:Array Value}{t:TypeId}(h:w.heap[b]?=some (.cells vs t (0,0)))(i:Nat):w.frozen? ⟨b,i,none⟩=false:=by
 simp[World.frozen?,h]
theorem Kq {w:World}{b:Nat}{vs:Array Value}{t:TypeId}(h:w.heap[b]?=some (.cells vs t (0,0))):w.frozen? ⟨b,0,none⟩=false/\w.frozen? ⟨b,1,none⟩=false/\w.frozen? ⟨b,2,none⟩=false:=⟨Ab h 0,Ab h 1,Ab h 2⟩
theorem Wn {w:World}{b:Nat}{vs:Array Value}{t:TypeId}(h:w.heap[b]?=some (.cells vs t (0,0))):w.frozen? ⟨b,0,none⟩=false/\w.frozen? ⟨b,1,none⟩=false/\w.frozen? ⟨b,2,none⟩=false/\w.frozen? ⟨b,3,none⟩=false/\w.frozen? ⟨b,4,none⟩=false:=⟨Ab h 0,Ab h 1,Ab h 2,Ab h 3,Ab h 4⟩
theorem Ag {w:World}{b:Nat}{vs:Array Value}{t:TypeId}{f:Nat×Nat}(h:w.heap[b]?=some (.cells vs t f))(i:Nat)(u:Value):(w.setCell ⟨b,i,none⟩ u).heap[b]?=some (.cells (vs.set! i u) t f):=by
 simp[World.setCell,Array.getElem?_modify,h]
end Go.Proofs.YtjbfcadeapphbaaGreatDoor.Sx
namespace Go.Proofs.YtjbfcadeapphbaaGreatDoor.Sx
open Go.RowKit Go.Sort
theorem Wo {w:World}{b i j:Nat}{u v:Value}(h:w.cell? ⟨b,i,none⟩=some v)(hij:j≠i):(w.setCell ⟨b,j,none⟩ u).cell? ⟨b,i,none⟩=some v:=by
 exact(World.cell?_setCell_other w _ _ u (fun e=>hij (congrArg Addr.off e))).trans h
end Go.Proofs.YtjbfcadeapphbaaGreatDoor.Sx
namespace Go.Proofs.YtjbfcadeapphbaaGreatDoor.Sx
open Go.RowKit Go.Sort
theorem Ad.setNew {w w1:World}(h:Ad w w1){p:Addr}(hp:w.heap.size<=p.block)(u:Value):Ad w (w1.setCell p u):=by
 obtain⟨q,c,rfl⟩:=h;have a:∃f:Obj->Obj,∀W:World,W.setCell p u={ W with heap:=W.heap.modify p.block f }:=⟨_,fun _=>rfl⟩;obtain⟨f,b⟩:=a;refine⟨q,c.modify (p.block-(w.drewN q).heap.size) f,?_⟩;rw[b];simp only[grow];rw[modify_append_right _ _ _ _ (by exact hp)]
section
variable {α:Type} (P:Nat->Prop) (w:World) (R:α->Value->Prop) (num:α->Option Int) (wta:α->Nat)
def Bw (a:Option Addr)(len:Nat)(es:List α):Prop :=
 len=es.length/\len<=4294967296/\(len=0\/∃b off,a=some ⟨b,off,none⟩/\b<w.heap.size/\P b/\∀i x,es[i]?=some x->∃v,w.cell? ⟨b,off+i,none⟩=some v/\R x v)
end
section
variable {α:Type} {P Q:Nat->Prop} {w w':World} {R R':α->Value->Prop} {num:α->Option Int} {wta:α->Nat}
theorem Bw.fr (hf:Fr P w w')(hR:∀x v,R x v->R' x v)(hQ:∀k,k<w.heap.size->P k->Q k){a:Option Addr}{len:Nat}{es:List α}(h:Bw P w R a len es):Bw Q w' R' a len es:=by
 refine⟨h.1,h.2.1,?_⟩;rcases h.2.2 with f|⟨b,d,rfl,c,e,l⟩
 ·exact .inl f
 ·refine .inr ⟨b,d,rfl,Nat.lt_of_lt_of_le c hf.size,hQ b c e,fun i x hx=>?_⟩;obtain⟨v,g,j⟩:=l i x hx;exact⟨v,(World.cell?_of_block (w:=w) (hf.block b c e)).trans g,hR x v j⟩
theorem Bw.row (hR:∀x v,R x v->R' x v){a:Option Addr}{len:Nat}{es:List α}(h:Bw P w R a len es):Sz w R' a len es:=by
 refine⟨h.1,h.2.1,?_⟩;rcases h.2.2 with e|⟨b,d,rfl,c,k,j⟩
 ·exact .inl e
 ·refine .inr ⟨b,d,rfl,c,fun i x hx=>?_⟩;obtain⟨v,f,g⟩:=j i x hx;exact⟨v,f,hR x v g⟩
end
end Go.Proofs.YtjbfcadeapphbaaGreatDoor.Sx
namespace Go.Proofs.YtjbfcadeapphbaaGreatDoor.Sx
open Go.RowKit Go.Sort
attribute [local go_sem] cF cG Tx Ty cH cI Tz T0
theorem Af {W:World}{o:Obj}{k:Nat}(h:W.heap.size=k):(W.alloc o).heap[k]?=some o:=by subst h;exact heap_alloc_new W o
end Go.Proofs.YtjbfcadeapphbaaGreatDoor.Sx
namespace Go.Proofs.YtjbfcadeapphbaaGreatDoor.Sx
set_option maxRecDepth 100000
set_option maxHeartbeats 4000000
open Go.RowKit Go.Sort
theorem Yr (x:Int)(w:World):Calls Tryz.prog 71 #[.int .u8 x] w fun e w'=>e=.returned (.bool (decide (97<=x/\x<=122)||decide (65<=x/\x<=90)))/\w'=w:=by
 have a:∀b,_=b->(decide (97<=x/\x<=122)||decide (65<=x/\x<=90))=b:=fun _ h=>h;rcases(show x<65\/(65<=x/\x<=90)\/(90<x/\x<97)\/(97<=x/\x<=122)\/122<x from by omega) with h|h|h|h|h
 ·rw[a false (by simp;omega)];clear a;have c:¬97<=x:=by omega
  have f:¬65<=x:=by omega
  go_enter Tryz.func71,Tryz.ntmps71
  go_wp2
  go_ret
  exact⟨rfl,rfl⟩
 ·rw[a true (by simp;omega)];clear a;obtain⟨d,g⟩:=h;have c:¬97<=x:=by omega
  go_enter Tryz.func71,Tryz.ntmps71
  go_wp2
  go_ret
  exact⟨rfl,rfl⟩
 ·rw[a false (by simp;omega)];clear a;have c:¬97<=x:=by omega
  have f:65<=x:=by omega
  have d:¬x<=90:=by omega
  clear h;go_enter Tryz.func71,Tryz.ntmps71
  go_wp2
  go_ret
  exact⟨rfl,rfl⟩
 ·rw[a true (by simp;omega)];clear a;obtain⟨d,g⟩:=h;go_enter Tryz.func71,Tryz.ntmps71
  go_wp2
  go_ret
  exact⟨rfl,rfl⟩
 ·rw[a false (by simp;omega)];clear a;have c:97<=x:=by omega
  have f:65<=x:=by omega
  have d:¬x<=90:=by omega
  have g:¬x<=122:=by omega
  clear h;go_enter Tryz.func71,Tryz.ntmps71
  go_wp2
  go_ret
  exact⟨rfl,rfl⟩
theorem bV (x:Int)(w:World):Calls Tryz.prog 72 #[.int .u8 x] w fun e w'=>e=.returned (.bool (decide (48<=x/\x<=57)))/\w'=w:=by
 have a:∀b,_=b->decide (48<=x/\x<=57)=b:=fun _ h=>h;rcases(show x<48\/(48<=x/\x<=57)\/57<x from by omega) with h|h|h
 ·rw[a false (by simp;omega)];clear a;have c:¬48<=x:=by omega
  clear h;go_enter Tryz.func72,Tryz.ntmps72
  go_wp2
  go_ret
  exact⟨rfl,rfl⟩
 ·rw[a true (by simp;omega)];clear a;obtain⟨c,d⟩:=h;go_enter Tryz.func72,Tryz.ntmps72
  go_wp2
  go_ret
  exact⟨rfl,rfl⟩
 ·rw[a false (by simp;omega)];clear a;have c:48<=x:=by omega
  have d:¬x<=57:=by omega
  clear h;go_enter Tryz.func72,Tryz.ntmps72
  go_wp2
  go_ret
  exact⟨rfl,rfl⟩
theorem K5 (c:UInt8)(w:World):Calls Tryz.prog 71 #[.int .u8 c.toNat] w fun e w'=>e=.returned (.bool (Bp c))/\w'=w:=by
 rw[Oe];exact Yr _ w
theorem Rm (c:UInt8)(w:World):Calls Tryz.prog 72 #[.int .u8 c.toNat] w fun e w'=>e=.returned (.bool (Bg c))/\w'=w:=by
 rw[Py];exact bV _ w
theorem bW (x:Int)(b1 b2:Bool)(w:World)(h1:Calls Tryz.prog 71 #[.int .u8 x] w fun e w'=>e=.returned (.bool b1)/\w'=w)(h2:Calls Tryz.prog 72 #[.int .u8 x] w fun e w'=>e=.returned (.bool b2)/\w'=w) :
  Calls Tryz.prog 37 #[.int .u8 x] w fun e w'=>e=.returned (.bool (b1||b2||decide (x=95)))/\w'=w:=by
 have a:Hid (Calls _ _ _ _ _):=h1;have b:Hid (Calls _ _ _ _ _):=h2;clear h1 h2;by_cases h:x=95
 ·rw[decide_eq_true h];have c:(x==95)=true:=by simp[h]
  clear h;cases b1<;>cases b2 <;>
  (
   go_enter Tryz.func37,Tryz.ntmps37
   go_wp2_with (first|(go_at_call 71;refine a.out.mono ?_;rintro e w' ⟨rfl,rfl⟩)|(go_at_call 72;refine b.out.mono ?_;rintro e w' ⟨rfl,rfl⟩))
   go_ret
   exact⟨rfl,rfl⟩)
 ·rw[decide_eq_false h];have c:(x==95)=false:=by simp[h]
  clear h;cases b1<;>cases b2 <;>
  (
   go_enter Tryz.func37,Tryz.ntmps37
   go_wp2_with (first|(go_at_call 71;refine a.out.mono ?_;rintro e w' ⟨rfl,rfl⟩)|(go_at_call 72;refine b.out.mono ?_;rintro e w' ⟨rfl,rfl⟩))
   go_ret
   exact⟨rfl,rfl⟩)
theorem Oa (c:UInt8)(w:World):Calls Tryz.prog 37 #[.int .u8 c.toNat] w fun e w'=>e=.returned (.bool (Bu c))/\w'=w:=by
 have e:Bu c=(Bp c||Bg c||decide ((c.toNat:Int)=95)):=by
  unfold Bu;congr 1;exact H6 c 95 (by decide)
 rw[e];exact bW _ _ _ w (K5 c w) (Rm c w)
theorem jI (s:ByteArray)(p:Nat)(w:World)(hs:s.size<=4294967296)(hp:p<=s.size):Calls Tryz.prog 38 #[.string s,.int .i64 p] w fun e w'=>e=.returned (.int .i64 ((p+Cm (s.data.toList.drop p):Nat):Int))/\w'=w:=by
 have n:=Gl (s.data.toList.drop p);have x:s.data.toList.length=s.size:=by simp
 rw[List.length_drop] at n;have t:Hid _:=Oa;obtain⟨N,j⟩:∃N,Cm (s.data.toList.drop p)=N:=⟨_,rfl⟩;have m:Hid _:=j;rw[j] at n |-;clear j;have y:=follows;go_enter Tryz.func38,Tryz.ntmps38
 go_wp2_with fail
 go_loopw [1] (fun i wr=>∃k:Nat,k<=N/\i=.int .i64 ((p+k:Nat):Int)/\Hid (wr=w)) (fun i _=>s.size-(intOf i).toNat)
 case atStart=>exact⟨0,Nat.zero_le _,rfl,rfl⟩
 case round =>
  obtain⟨k,v,rfl,h⟩:=hrel;obtain⟨q,r⟩:∃q,p+k=q:=⟨_,rfl⟩;rw[r];by_cases u:q<s.size
  ·have l:=Kn Bu (s.data.toList.drop p) k s[q] (by have:=m.out;unfold Cm at this;omega) (by rw[List.getElem?_drop,r,List.getElem?_eq_getElem (by omega)];rfl);have c:=t.out s[q];obtain⟨b,o⟩:∃b,Bu s[q]=b:=⟨_,rfl⟩;rw[o] at c l;have f:Hid _:=c;have a:(b=true->k+1<=N)/\(b=false->N=k):=by
    have:=m.out;unfold Cm at this;rw[<- this];exact l
   clear c l o;cases b with
   | true =>
    have d:=a.1 rfl;clear a;go_wp2_with (go_at_call 37;refine(f.out _).mono ?_;rintro e w' ⟨rfl,rfl⟩)
    go_roundw
    case rel=>exact⟨k+1,d,by
     have e:p+(k+1)=q+1:=by omega
     rw[e];go_num,h⟩
    case measure=>simp[intOf];omega
   | false =>
    have d:=a.2 rfl;clear a;have g:Hid (p+N=q):=by show _=_;omega
    clear d;go_wp2_with (go_at_call 37;refine(f.out _).mono ?_;rintro e w' ⟨rfl,rfl⟩)
    go_ret
    exact⟨by rw[g.out];rfl,h.out⟩
  ·have g:Hid (p+N=q):=by show _=_;omega
   go_wp2_with fail
   go_ret
   exact⟨by rw[g.out];rfl,h.out⟩
end Go.Proofs.YtjbfcadeapphbaaGreatDoor.Sx
namespace Go.Proofs.YtjbfcadeapphbaaGreatDoor.Sx
open Go.RowKit Go.Sort
def bY (r:Nat×Nat):Int:=if r.1=3 then(r.2:Int) else -1
theorem jJ (n:Nat):bY (3,n)=n:=rfl
theorem mJ (n:Nat):bY (5,n)=-1:=rfl
theorem bZ (s:ByteArray)(p:Nat)(w:World)(hs:s.size<=4294967296)(hp:p<s.size):Calls Tryz.prog 40 #[.string s,.int .i64 p] w fun e w'=>e=.returned (.int .i64 (bY (Dj (s.data.toList.drop (p+1)) (p+1))))/\w'=w:=by
 have B:s.data.toList.length=s.size:=by simp
 obtain⟨r,m⟩:∃r,bY (Dj (s.data.toList.drop (p+1)) (p+1))=r:=⟨_,rfl⟩;rw[m];have j:Hid _:=m;clear m;go_enter Tryz.func40,Tryz.ntmps40
 go_wp2_with fail
 go_loop [5] (fun i=>∃k:Nat,p<k/\k<=s.size/\i=.int .i64 k/\Hid (bY (Dj (s.data.toList.drop k) k)=r)) (fun i=>s.size-(intOf i).toNat)
 case atStart=>exact⟨p+1,by omega,by omega,by go_num,j⟩
 case round =>
  obtain⟨k,y,A,rfl,g⟩:=hrel;by_cases z:k<s.size
  ·have d:=Pz s.data.toList k s[k] (by rw[List.getElem?_eq_getElem (by omega)];rfl);rw[(J1 s[k]).1,(J1 s[k]).2] at d;have l:=g.out;rw[d] at l;have a:Hid (_=r):=l;clear d l g j;rcases(show(s[k].toNat:Int)=34\/((s[k].toNat:Int)≠34/\(s[k].toNat:Int)<32)\/((s[k].toNat:Int)≠34/\126<(s[k].toNat:Int))\/(s[k].toNat:Int)=92\/((s[k].toNat:Int)≠34/\(s[k].toNat:Int)≠92/\32<=(s[k].toNat:Int)/\(s[k].toNat:Int)<=126) from by omega) with h|⟨c,f⟩|⟨c,f⟩|h|⟨c,f,q,t⟩
   ·have b:Hid (r=((k+1:Nat):Int)):=by
     have:=a.out;simp[h] at this;rw[<- this];exact jJ (k+1)
    have n:((s[k].toNat:Int)==34)=true:=by simp[h]
    clear a h;go_wp2_with fail
    go_ret
    exact⟨by rw[b.out];go_num,rfl⟩
   ·have b:Hid (r=-1):=by
     have:=a.out;simp[c,show ¬32<=(s[k].toNat:Int) from by omega] at this;exact this.symm
    have n:((s[k].toNat:Int)==34)=false:=by simp[c]
    clear a c;go_wp2_with fail
    go_ret
    exact⟨by rw[b.out];rfl,rfl⟩
   ·have b:Hid (r=-1):=by
     have:=a.out;simp[c,show ¬(s[k].toNat:Int)<=126 from by omega] at this;exact this.symm
    have n:((s[k].toNat:Int)==34)=false:=by simp[c]
    have o:¬(s[k].toNat:Int)<32:=by omega
    clear a c;go_wp2_with fail
    go_ret
    exact⟨by rw[b.out];rfl,rfl⟩
   ·have b:Hid (r=-1):=by
     have:=a.out;simp[h] at this;exact this.symm
    have u:((s[k].toNat:Int)==34)=false:=by simp[h]
    have o:¬(s[k].toNat:Int)<32:=by omega
    have v:¬126<(s[k].toNat:Int):=by omega
    have x:((s[k].toNat:Int)==92)=true:=by simp[h]
    clear a h;go_wp2_with fail
    go_ret
    exact⟨by rw[b.out];rfl,rfl⟩
   ·have b:Hid (bY (Dj (s.data.toList.drop (k+1)) (k+1))=r):=by
     have:=a.out;simp[c,f,q,t] at this;exact this
    have u:((s[k].toNat:Int)==34)=false:=by simp[c]
    have o:¬(s[k].toNat:Int)<32:=by omega
    have v:¬126<(s[k].toNat:Int):=by omega
    have x:((s[k].toNat:Int)==92)=false:=by simp[f]
    clear a c f q t;go_wp2_with fail
    go_round
    case rel=>exact⟨k+1,by omega,by omega,by go_num,b⟩
    case measure=>simp[intOf];omega
  ·have b:Hid (r=-1):=by
    have:=g.out;rw[List.drop_of_length_le (by omega)] at this;exact this.symm
   clear g j;go_wp2_with fail
   go_ret
   exact⟨by rw[b.out];rfl,rfl⟩
def Vt:Array Value:=(C4.map fun l=>Value.string ⟨l.toArray⟩).toArray
theorem Rn:C4.length=52:=by decide +kernel
theorem fS (i:Nat)(h:i<52):∃s:ByteArray,Vt[i]?=some (.string s)/\C4[i]?=some s.data.toList:=by
 have a:=Rn;have e:_[i]?=some C4[i]:=List.getElem?_eq_getElem _;refine⟨⟨C4[i].toArray⟩,?_,by rw[e]⟩;unfold Vt;rw[List.getElem?_toArray,List.getElem?_map,e];rfl
theorem Tp (l:List UInt8):A0 l=true↔∃i:Nat,i<52/\C4[i]?=some l:=by
 unfold A0;rw[List.contains_iff_mem,List.mem_iff_getElem?];constructor
 ·rintro⟨i,h⟩;have:=(List.getElem?_eq_some_iff.1 h).1;have a:=Rn;exact⟨i,by omega,h⟩
 ·rintro⟨i,_,h⟩;exact⟨i,h⟩
theorem Lr (s:ByteArray)(w:World):Calls Tryz.prog 56 #[.string s] w fun e w'=>e=.returned (.bool (A0 s.data.toList))/\Ad w w':=by
 obtain⟨b,p⟩:∃b,A0 s.data.toList=b:=⟨_,rfl⟩;rw[p];have n:Hid _:=p;clear p;go_enter Tryz.func56,Tryz.ntmps56
 go_wp2_with fail
 generalize v:w.alloc (.cells _ 9)=W;have d:W=w.alloc (.cells Vt 9):=by rw[<- v];kernel_rfl
 clear v;have r:Hid (Ad w W):=by show Ad w W;rw[d];exact(Ad.refl w).alloc _
 have u:Hid (W.heap[w.heap.size]?=some (.cells Vt 9 (0,0))):=by show _=_;rw[d];exact Af rfl
 clear d;have z:=Ac u.out;go_loop [4] (fun i=>∃k:Nat,k<=52/\i=.int .i64 k/\Hid (∀j,j<k->C4[j]?≠some s.data.toList)) (fun i=>52-(intOf i).toNat)
 case atStart=>exact⟨0,Nat.zero_le _,rfl,fun j h=>absurd h (Nat.not_lt_zero j)⟩
 case round =>
  obtain⟨k,D,rfl,l⟩:=hrel;by_cases c:k<52
  ·obtain⟨t,g,a⟩:=fS k c;have A:=(Aa u.out k).trans g;clear g;have m:(t.toList==s.toList)=(t.data.toList==s.data.toList):=by rw[ByteArray.toList_eq,ByteArray.toList_eq]
   cases f:t.toList==s.toList with
   | true =>
    have o:Hid (b=true):=by
     show _=_;rw[<- n.out,Tp];refine⟨k,c,?_⟩;rw[a,eq_of_beq (m.symm.trans f)]
    clear a n l m;go_wp2_with fail
    go_ret
    exact⟨by rw[o.out];rfl,r.out⟩
   | false =>
    have x:Hid (∀j,j<k+1->C4[j]?≠some s.data.toList):=by
     intro j C;by_cases e:j<k
     ·exact l.out j e
     ·have:j=k:=by omega
      subst this;rw[a];intro q;rw[m] at f;exact absurd (beq_iff_eq.2 (Option.some.inj q)) (by rw[f];simp)
    clear a l m;go_wp2_with fail
    go_round
    case rel=>exact⟨k+1,by omega,by go_num,x⟩
    case measure=>simp[intOf];omega
  ·have o:Hid (b=false):=by
    show _=_;rw[<- n.out];cases q:A0 s.data.toList with
    | false=>rfl
    | true =>
     obtain⟨i,B,y⟩:=(Tp _).1 q;exact absurd y (l.out i (by omega))
   go_wp2_with fail
   go_ret
   exact⟨by rw[o.out];rfl,r.out⟩
end Go.Proofs.YtjbfcadeapphbaaGreatDoor.Sx
namespace Go.Proofs.YtjbfcadeapphbaaGreatDoor.Sx
open Go.RowKit Go.Sort
def Iy:Nat->List UInt8->Nat
 | a,[]=>a
 | a,c::l=>Iy (a*10+(c.toNat-48)) l
theorem Vu:∀(l:List UInt8)(a:Nat),a<=Iy a l
 | [],a=>Nat.le_refl a
 | c::l,a=>Nat.le_trans (Nat.le_trans (Nat.le_mul_of_pos_right a (by decide)) (Nat.le_add_right _ _)) (Vu l (a*10+(c.toNat-48)))
theorem fT (l:List UInt8)(k:Nat)(c:UInt8)(a:Nat)(h:l[k]?=some c):Iy a (l.drop k)=Iy (a*10+(c.toNat-48)) (l.drop (k+1)):=by
 obtain⟨d,b⟩:=List.getElem?_eq_some_iff.1 h;rw[List.drop_eq_getElem_cons d,b];rfl
theorem jK (s:ByteArray)(w:World)(hs:s.size<=4294967296)(hd:∀c∈s.data.toList,Bg c=true):Calls Tryz.prog 105 #[.string s] w fun e w'=>e=.returned (if Iy 0 s.data.toList<=9223372036854775808 then .tuple #[.int .u64 (Iy 0 s.data.toList),.bool true] else .tuple #[.int .u64 0,.bool false])/\w'=w:=by
 have H:s.data.toList.length=s.size:=by simp
 obtain⟨r,g⟩:∃r,(if Iy 0 s.data.toList<=9223372036854775808 then Value.tuple #[.int .u64 (Iy 0 s.data.toList),.bool true] else .tuple #[.int .u64 0,.bool false])=r:=⟨_,rfl⟩;rw[g];obtain⟨N,l⟩:∃N,Iy 0 s.data.toList=N:=⟨_,rfl⟩;have u:Hid (Iy 0 (s.data.toList.drop 0)=N):=l;rw[l] at g;have q:Hid (_=r):=g;have t:Hid (∀k,(h:k<s.size)->48<=s[k].toNat/\s[k].toNat<=57):=by
  intro k h;have:=hd s[k] (by
   have e:s[k]=s.data.toList[k]:=rfl;rw[e];exact List.getElem_mem _)
  simpa [Bg,UInt8.le_iff_toNat_le] using this
 clear g l hd;go_enter Tryz.func105,Tryz.ntmps105
 go_wp2_with fail
 go_loop [4,5] (fun n i=>∃k m:Nat,k<=s.size/\m<=9223372036854775808/\n=.int .u64 m/\i=.int .i64 k/\Hid (Iy m (s.data.toList.drop k)=N)) (fun _ i=>s.size-(intOf i).toNat)
 case atStart=>exact⟨0,0,Nat.zero_le _,Nat.zero_le _,rfl,rfl,u⟩
 case round =>
  obtain⟨k,m,G,B,rfl,rfl,f⟩:=hrel;by_cases p:k<s.size
  ·obtain⟨C,D⟩:=t.out k p;have a:=f.out;rw[fT s.data.toList k s[k] m (by rw[List.getElem?_eq_getElem (by omega)];rfl)] at a;obtain⟨d,hd⟩:∃d,s[k].toNat-48=d:=⟨_,rfl⟩;rw[hd] at a;have b:Hid _:=a;have y:((s[k].toNat:Nat):Int)-48=(d:Int):=by omega
   have z:d<=9:=by omega
   have E:IntKind.wrap .u8 (((s[k].toNat:Nat):Int)-48)=(d:Int):=by
    rw[y,IntKind.wrap_u8];omega
   clear a f hd;by_cases A:(9223372036854775808-(d:Int)) / 10<(m:Int)
   ·have j:Hid (r=.tuple #[.int .u64 0,.bool false]):=by
     show _=_;rw[<- q.out,if_neg];have:=Vu (s.data.toList.drop (k+1)) (m*10+d);rw[b.out] at this;omega
    clear b;go_wp2_with fail
    go_ret2
    exact⟨by rw[j.out];rfl,rfl⟩
   ·have o:m*10+d<=9223372036854775808:=by omega
    have v:((m:Int)*10)+d=((m*10+d:Nat):Int):=by omega
    have F:IntKind.u64.wrap ((m:Int)*10+d)=((m*10+d:Nat):Int):=by rw[IntKind.wrap_u64];omega
    clear v;go_wp2_with fail
    go_round
    case rel=>exact⟨k+1,m*10+d,by omega,o,rfl,by go_num,b⟩
    case measure=>simp[intOf];omega
  ·have j:Hid (r=.tuple #[.int .u64 m,.bool true]):=by
    have:=f.out;rw[List.drop_of_length_le (by omega)] at this;have x:m=N:=this;show _=_;rw[<- q.out,<- x,if_pos B]
   clear f;go_wp2_with fail
   go_ret2
   exact⟨by rw[j.out];rfl,rfl⟩
end Go.Proofs.YtjbfcadeapphbaaGreatDoor.Sx
