/- The reference: what a token is, plainly; its rows. -/
import Derived.Test.YtjbfcadeapphbaaGreatDoorE22
import Derived.Deep.LoopGhost
namespace Go.Proofs.YtjbfcadeapphbaaGreatDoor.Sx
set_option maxRecDepth 100000
set_option maxHeartbeats 1000000
open Go.RowKit Go.Sort
theorem Vi (x:Int)(w:World):Calls Tryz.prog 36 #[.int .u8 x] w fun e w'=>e=.returned (.bool (decide (x=32)||decide (x=9)||decide (x=10)))/\w'=w:=by
 rcases(show x=32\/x=9\/x=10\/(x≠32/\x≠9/\x≠10) from by omega) with rfl|rfl|rfl|⟨a,b,c⟩
 ·go_enter Tryz.func36,Tryz.ntmps36
  go_wp2
  go_ret
  exact⟨rfl,rfl⟩
 ·go_enter Tryz.func36,Tryz.ntmps36
  go_wp2
  go_ret
  exact⟨rfl,rfl⟩
 ·go_enter Tryz.func36,Tryz.ntmps36
  go_wp2
  go_ret
  exact⟨rfl,rfl⟩
 ·rw[decide_eq_false a,decide_eq_false b,decide_eq_false c];have d:(x==32)=false:=by simp[a]
  have f:(x==9)=false:=by simp[b]
  have g:(x==10)=false:=by simp[c]
  clear a b c;go_enter Tryz.func36,Tryz.ntmps36
  go_wp2
  go_ret
  exact⟨rfl,rfl⟩
theorem Vj (c:UInt8)(w:World):Calls Tryz.prog 36 #[.int .u8 c.toNat] w fun e w'=>e=.returned (.bool (C9 c))/\w'=w:=by
 have e:C9 c=(decide ((c.toNat:Int)=32)||decide ((c.toNat:Int)=9)||decide ((c.toNat:Int)=10)):=by
  unfold C9
  congr 1
  ·congr 1
   ·exact Fz c 32 (by decide)
   ·exact Fz c 9 (by decide)
  ·exact Fz c 10 (by decide)
 rw[e];exact Vi _ w
def S1 (l:List UInt8):Nat:=if A2 (Cw l 0) then 119 else if l.all Av&&(decide (l.length=1)||!decide ((Cw l 0).toNat=48)) then 48 else 120
theorem eV (s:ByteArray)(h:0<s.size):Cw s.data.toList 0=s[0]:=by
 have a:s.data.toList.length=s.size:=by simp
 have:=Ey (l:=s.data.toList) (k:=0) (by omega);rw[List.getElem?_eq_getElem (by omega)] at this;simp only[Option.some.injEq] at this;rw[<- this];rfl
theorem bB {l:List UInt8}{k:Nat}{c:UInt8}(h:l[k]?=some c)(ha:(l.take k).all Av=true):(l.take (k+1)).all Av=Av c:=by
 rw[List.take_add_one,h,List.all_append,ha];simp
theorem Yv (s:ByteArray)(w:World)(hs:s.size<=4294967296)(h1:1<=s.size):Calls Tryz.prog 39 #[.string s] w fun e w'=>e=.returned (.int .u8 (S1 s.data.toList:Int))/\w'=w:=by
 have A:s.data.toList.length=s.size:=by simp
 obtain⟨v,m⟩:∃v,S1 s.data.toList=v:=⟨_,rfl⟩;rw[m];unfold S1 at m;rw[eV s (by omega)] at m;have r:Hid (Calls _ _ _ _ _):=I2 s[0] w;have y:Hid _:=Na;have D:0<s.size:=by omega
 obtain⟨b,l⟩:∃b,A2 s[0]=b:=⟨_,rfl⟩;rw[l] at m r;clear l;have F:=follows;cases b with
 | true =>
  obtain rfl:v=119:=by simpa using m.symm
  clear m;go_enter Tryz.func39,Tryz.ntmps39
  go_wp2_with (go_at_call 71;refine r.out.mono ?_;rintro e w' ⟨rfl,rfl⟩)
  go_ret
  exact⟨rfl,rfl⟩
 | false =>
  have j:Hid ((if s.data.toList.all Av&&(decide (s.data.toList.length=1)||!decide (s[0].toNat=48)) then 48 else 120)=v):=by have:=m;rw[if_neg (by simp)] at this;exact this
  clear m;go_enter Tryz.func39,Tryz.ntmps39
  go_wp2_with (go_at_call 71;refine r.out.mono ?_;rintro e w' ⟨rfl,rfl⟩)
  go_loop [4] (fun i=>∃k:Nat,k<=s.size/\i=.int .i64 k/\Hid ((s.data.toList.take k).all Av=true/\(1<k->s[0].toNat≠48))) (fun i=>s.size-(intOf i).toNat)
  case atStart=>exact⟨0,Nat.zero_le _,rfl,by simp,fun h=>absurd h (by omega)⟩
  case round =>
   clear r;obtain⟨k,E,rfl,g⟩:=hrel;by_cases B:k<s.size
   ·have p:s.data.toList[k]?=some s[k]:=by rw[List.getElem?_eq_getElem (by omega)];rfl
    have n:=bB p g.out.1;have c:=y.out s[k];have a:Av s[k]=false->s.data.toList.all Av=false:=fun q=>by
     rw[List.all_eq_false];exact⟨s[k],List.mem_of_getElem? p,by simp[q]⟩
    obtain⟨b,l⟩:∃b,Av s[k]=b:=⟨_,rfl⟩;rw[l] at c a n;have f:Hid (∀W,Calls _ _ _ _ _):=c;have t:Hid (_=b):=n;cases b with
    | false =>
     obtain rfl:120=v:=by have:=j.out;rw[a rfl] at this;simpa using this
     clear n c a l p j g t;go_wp2_with (go_at_call 72;refine(f.out _).mono ?_;rintro e w' ⟨rfl,rfl⟩)
     go_ret
     exact⟨rfl,rfl⟩
    | true =>
     by_cases d:k=1/\s[0].toNat=48
     ·obtain rfl:120=v:=by have:=j.out;rw[show decide (s.data.toList.length=1)=false from by simp;omega,show decide (s[0].toNat=48)=true from by simp[d.2]] at this;simpa using this
      have x:((k:Int)==1)=true:=by simp;omega
      have z:((s[0].toNat:Int)==48)=true:=by simp;omega
      clear n c a l p j g t d;go_wp2_with (go_at_call 72;refine(f.out _).mono ?_;rintro e w' ⟨rfl,rfl⟩)
      go_ret
      exact⟨rfl,rfl⟩
     ·have u:Hid ((s.data.toList.take (k+1)).all Av=true/\(1<k+1->s[0].toNat≠48)):=⟨n,fun q e=>by
       by_cases o:k=1
       ·exact d ⟨o,e⟩
       ·exact g.out.2 (by omega) e⟩
      by_cases o:k=1
      ·have x:((k:Int)==1)=true:=by simp;omega
       have z:((s[0].toNat:Int)==48)=false:=by rw[beq_eq_false_iff_ne];omega
       clear n c a l p j g t d o;go_wp2_with (go_at_call 72;refine(f.out _).mono ?_;rintro e w' ⟨rfl,rfl⟩)
       go_round
       case rel=>exact⟨k+1,by omega,by go_num,u⟩
       case measure=>simp[intOf];omega
      ·have x:((k:Int)==1)=false:=by simp;omega
       clear n c a l p j g t d o;go_wp2_with (go_at_call 72;refine(f.out _).mono ?_;rintro e w' ⟨rfl,rfl⟩)
       go_round
       case rel=>exact⟨k+1,by omega,by go_num,u⟩
       case measure=>simp[intOf];omega
   ·obtain rfl:k=s.size:=by omega
    obtain rfl:48=v:=by
     have:=j.out;obtain⟨o,C⟩:=g.out;rw[List.take_of_length_le (by omega)] at o;rw[o,A] at this;by_cases q:s.size=1
     ·simpa [q] using this
     ·have:=C (by omega)
      simp_all
    clear j g;go_wp2_with fail
    go_ret
    exact⟨rfl,rfl⟩
def Dn:List ByteArray:=[⟨#[61,61]⟩,⟨#[58,61]⟩,⟨#[47,61]⟩,⟨#[60,61]⟩,⟨#[62,61]⟩,⟨#[60,60]⟩,⟨#[62,62]⟩,⟨#[46,46]⟩,⟨#[45,62]⟩,⟨#[43,43]⟩,⟨#[61]⟩,⟨#[60]⟩,⟨#[62]⟩,⟨#[43]⟩,⟨#[45]⟩,⟨#[42]⟩,⟨#[47]⟩,⟨#[37]⟩,⟨#[40]⟩,⟨#[41]⟩,⟨#[123]⟩,⟨#[125]⟩,⟨#[91]⟩,⟨#[93]⟩,⟨#[44]⟩,⟨#[58]⟩,⟨#[46]⟩,⟨#[39]⟩]
theorem Vk (w:World):Calls Tryz.prog 41 #[] w fun e w'=>e=.returned (.slice (some ⟨w.heap.size,0,none⟩) 28 28)/\w'=w.alloc (.cells (Dn.map Value.string).toArray 9):=by
 go_enter Tryz.func41,Tryz.ntmps41
 go_wp2_with fail
 go_ret
 exact⟨rfl,rfl⟩
def Fu:List (List UInt8)->List UInt8->Nat
 | [],_=>0
 | g::r,l=>if decide (g.length<=l.length)&&l.take g.length==g then g.length else Fu r l
theorem Oz:∀(a b:List (List UInt8))(l:List UInt8),(∀g∈a,g≠[])->Fu (a++b) l=if Fu a l=0 then Fu b l else Fu a l
 | [],b,l,_=>by simp[Fu]
 | g::r,b,l,h=>by
  have hg:=h g (by simp);simp only[List.cons_append,Fu];split
  ·rw[if_neg (by intro e;exact hg (List.length_eq_zero_iff.1 e))]
  ·exact Oz r b l fun g q=>h g (by simp[q])
theorem Ky {n:Nat}(hn:n≠0):∀(a:List (List UInt8))(l:List UInt8),(∀g∈a,g.length=n)->Fu a l=if decide (n<=l.length)&&a.contains (l.take n) then n else 0
 | [],l,_=>by simp[Fu]
 | g::r,l,h=>by
  have hg:=h g (by simp);simp only[Fu,hg,List.contains_cons];rw[Ky hn r l fun g q=>h g (by simp[q])];cases decide (n<=l.length)<;>cases(l.take n==g)<;>simp
theorem bC (l:List UInt8)(h:l≠[]):Fu (Dn.map fun b=>b.data.toList) l=El l:=by
 have e:(Dn.map fun b=>b.data.toList)=H6++Km.map (fun c=>[c]):=by decide
 rw[e,Oz _ _ _ (by decide),Ky (n:=2) (by decide) H6 l (by decide),Ky (n:=1) (by decide) (Km.map fun c=>[c]) l (by decide)];cases l with
 | nil=>exact absurd rfl h
 | cons c r =>
  unfold El;have a:(Km.map fun c=>[c]).contains ((c::r).take 1)=Km.contains c:=by
   simp[Km]
  rw[a];have d:Cw (c::r) 0=c:=rfl;rw[d];have f:decide (2<=(c::r).length)=decide (1<(c::r).length):=rfl;rw[f];have g:decide (1<=(c::r).length)=true:=by simp
  rw[g,Bool.true_and];split
  ·simp
  ·rfl
theorem S2:∀(l:List UInt8)(i j:Nat),Cu l (i+j)=((Cu l j).1,i+(Cu l j).2)
 | [],i,j=>rfl
 | c::l,i,j=>by
  simp only[Cu];split
  ·simp;omega
  ·split
   ·rw[Nat.add_assoc,S2 l i (j+1)]
   ·rfl
theorem bD (M:Nat)(hM:M<=18446744073709551615):∀(l:List UInt8)(a:Nat),(∀c∈l,Av c=true)->a<=M->Lib.parseUintM M a l=if Gs a l<=M then .ok (Gs a l) else .range
 | [],a,_,ha=>by
  show Lib.NumEnd.ok a=if a<=M then .ok a else .range;rw[if_pos ha]
 | c::l,a,hd,ha=>by
  have hc:=hd c (by simp);simp[Av,UInt8.le_iff_toNat_le] at hc;have e:Gs a (c::l)=Gs _ l:=rfl;rw[e];have hmono:=Q6 l (a*10+(c.toNat-48));have ih:=fun h=>bD M hM l (a*10+(c.toNat-48)) (fun d hd'=>hd d (by simp[hd'])) h;clear e;rw[Lib.parseUintM,if_pos hc];obtain⟨z,hz⟩:∃z,a*10+(c.toNat-48)=z:=⟨_,rfl⟩;rw[hz] at hmono ih |-;by_cases h1:1844674407370955162<=a
  ·rw[if_pos h1,if_neg (by omega)]
  ·rw[if_neg h1];by_cases h2:M<z
   ·rw[if_pos h2,if_neg (by omega)]
   ·rw[if_neg h2];exact ih (by omega)
theorem Yw (l:List UInt8)(hn:l≠[])(hd:∀c∈l,Av c=true):Lib.parseIntB 64 l=if Gs 0 l<9223372036854775808 then .ok (Gs 0 l:Int) else .range:=by
 cases l with
 | nil=>exact absurd rfl hn
 | cons c r =>
  have f:=hd c (by simp);simp[Av,UInt8.le_iff_toNat_le] at f;have e:¬(c.toNat=43\/c.toNat=45):=by omega
  have a:¬c.toNat=45:=by omega
  have g:=bD (2 ^ 64-1) (by decide) _ 0 hd (by omega);simp only[Lib.parseIntB];rw[if_neg e];unfold Lib.parseUintB;rw[if_neg (by simp),g];generalize Gs 0 (c::r)=N;by_cases b:N<=2 ^ 64-1
  ·rw[if_pos b];simp only;by_cases d:N<9223372036854775808
   ·rw[if_neg (by simp[a];omega),if_neg (by simp[a]),if_neg a,if_pos d]
   ·rw[if_pos (by simp[a];omega),if_neg d]
  ·rw[if_neg b,if_neg (by omega)]
theorem Hg {T:List UInt8}{q:Nat}{c:UInt8}(h:T[q]?=some c):T.drop q=c::T.drop (q+1):=by
 obtain⟨a,b⟩:=List.getElem?_eq_some_iff.1 h;rw[List.drop_eq_getElem_cons a,b]
theorem Ge (c:UInt8)(l:List UInt8):Dp (c::l)=(if A2 c then(1,Bw (c::l)) else if Bf c then(if J0 (c::l) then 2 else 5,Bw (c::l)) else if c.toNat=34 then Cu l 1 else if El (c::l)=0 then(5,0) else(4,El (c::l))):=by
 unfold Dp;rw[if_neg (by simp),show Cw (c::l) 0=c from rfl];rfl
theorem Jt {c:UInt8}{l:List UInt8}(h:Bf c=true):0<Bw (c::l):=by simp[Bw,h]
theorem Vl {c:UInt8}{l:List UInt8}{n:Nat}(h:0<n):Cw ((c::l).take n) 0=c:=by
 cases n with
 | zero=>omega
 | succ n=>rfl
theorem dZ {c:UInt8}{l:List UInt8}(h:Bf c=true):(Dp (c::l)).2=Bw (c::l)/\S1 ((c::l).take (Bw (c::l)))=Bg (Dp (c::l)).1:=by
 have e:=Jt (l:=l) h;have d:=Ek (c::l);rw[Ge];unfold S1;rw[Vl e];cases f:A2 c with
 | true=>exact⟨rfl,rfl⟩
 | false =>
  rw[if_neg (show ¬(false=true) by simp),if_pos h,if_neg (show ¬(false=true) by simp)];refine⟨rfl,?_⟩;show _=Bg (if J0 (c::l) then 2 else 5);have a:((c::l).take (Bw (c::l))).length=Bw (c::l):=by rw[List.length_take];omega
  rw[a];unfold J0;rw[show Cw (c::l) 0=c from rfl];generalize ((c::l).take (Bw (c::l))).all Av=b;by_cases q:Bw (c::l)=1
  ·rw[q];cases b<;>rfl
  ·rw[decide_eq_false q,decide_eq_true (show 1<Bw (c::l) by omega)];cases b<;>cases decide (c.toNat=48)<;>rfl
theorem Yx {T:List UInt8}{q:Nat}{c:UInt8}(hc:T[q]?=some c)(h:Bf c=false)(h4:c.toNat=34) :
  Wa (Cu (T.drop (q+1)) (q+1))=if (Dp (T.drop q)).1=3 then((q+(Dp (T.drop q)).2:Nat):Int) else -1:=by
 have a:A2 c=false:=by simp only[Bf,Bool.or_eq_false_iff] at h;exact h.1.1
 have e:Dp (T.drop q)=Cu (T.drop (q+1)) 1:=by rw[Hg hc,Ge,a,h,if_neg (by simp),if_neg (by simp),if_pos h4]
 rw[e,S2];rcases Ez (T.drop (q+1)) 1 with k|k
 ·rw[if_pos k,k,bS]
 ·rw[if_neg (by omega),k,eF]
theorem Qx {T:List UInt8}{q:Nat}{c:UInt8}(hc:T[q]?=some c)(h:Bf c=false)(h4:c.toNat=34):(Dp (T.drop q)).1=3\/(Dp (T.drop q)).1=5:=by
 have a:A2 c=false:=by simp only[Bf,Bool.or_eq_false_iff] at h;exact h.1.1
 rw[Hg hc,Ge,a,h,if_neg (by simp),if_neg (by simp),if_pos h4];exact Ez _ _
theorem bE {T:List UInt8}{q:Nat}{c:UInt8}(hc:T[q]?=some c)(h:Bf c=false)(h4:c.toNat≠34):Dp (T.drop q)=if El (T.drop q)=0 then(5,0) else(4,El (T.drop q)):=by
 have a:A2 c=false:=by simp only[Bf,Bool.or_eq_false_iff] at h;exact h.1.1
 rw[Hg hc,Ge,a,h,if_neg (by simp),if_neg (by simp),if_neg h4]
theorem eA {T:List UInt8}{q:Nat}{c:UInt8}(hc:T[q]?=some c)(r:Bool):btw r (T.drop q)=if C9 c||(c==35||r) then 1+btw ((c==35||r)&&!(c==10)) (T.drop (q+1)) else 0:=by
 rw[Hg hc,btw]
theorem cP {T:List UInt8}{q:Nat}(h:T.length<=q)(r:Bool):btw r (T.drop q)=0:=by rw[List.drop_of_length_le h];cases r<;>rfl
theorem Kd (s:ByteArray)(a n:Nat):s.extract a (a+n)=⟨((s.data.toList.drop a).take n).toArray⟩:=by
 apply ByteArray.ext;rw[ByteArray.data_extract];apply Array.ext';rw[Array.toList_extract];simp[List.extract]
def Dt (T:List UInt8)(n:Nat):List Value:=(List.range n).flatMap fun j=>[.int .u8 (Bg (clF T j):Int),.string (B2 (tkF T j)),.int .i64 (atF T j:Int)]
theorem Gr (T:List UInt8)(n:Nat):Dt T (n+1)=Dt T n++[.int .u8 (Bg (clF T n):Int),.string (B2 (tkF T n)),.int .i64 (atF T n:Int)]:=by
 unfold Dt;rw[List.range_succ,List.flatMap_append];simp
theorem Ke (T:List UInt8):∀n,(Dt T n).length=n*3
 | 0=>rfl
 | n+1=>by rw[Gr,List.length_append,Ke T n];simp;omega
theorem S3 (T:List UInt8):∀n i,i<n->(Dt T n)[i*3]?=some (.int .u8 (Bg (clF T i):Int))/\(Dt T n)[i*3+1]?=some (.string (B2 (tkF T i)))/\(Dt T n)[i*3+2]?=some (.int .i64 (atF T i:Int))
 | 0,i,h=>absurd h (by omega)
 | n+1,i,h=>by
  rw[Gr];have hl:=Ke T n;by_cases q:i<n
  ·obtain⟨a,b,c⟩:=S3 T n i q;rw[List.getElem?_append_left (by omega),List.getElem?_append_left (by omega),List.getElem?_append_left (by omega)];exact⟨a,b,c⟩
  ·obtain rfl:i=n:=by omega
   rw[List.getElem?_append_right (by omega),List.getElem?_append_right (by omega),List.getElem?_append_right (by omega),hl];rw[show i*3-i*3=0 by omega,show i*3+1-i*3=1 by omega,show i*3+2-i*3=2 by omega];exact⟨rfl,rfl,rfl⟩
theorem Et.owns {T:List UInt8}{N g cap lo:Nat}{w:World}(h:w.ownsRow lo 55 3 (.slice (some ⟨g,0,none⟩) (N+1) cap) (N+1) (Dt T (N+1))):Et (tkF T) N g w:=by
 rcases h.2 with⟨e,-⟩|⟨m,f,k,e,n,j,-,-,o,l⟩
 ·simp at e
 ·simp only[Value.slice.injEq,Option.some.injEq,Addr.mk.injEq,and_true,true_and] at e;obtain⟨rfl,rfl⟩:=e;have d:∀(i:Nat)(v:Value),(Dt T (N+1))[i]?=some v->w.cell? ⟨g,i,none⟩=some v:=by
   intro i v q;rw[<- l,List.getElem?_take] at q;split at q
   ·rw[Aa j];simpa using q
   ·simp at q
  refine⟨Ab j,fun i hi=>?_⟩;obtain⟨a,b,c⟩:=S3 T (N+1) i (by omega);exact⟨d _ _ a,d _ _ b,d _ _ c⟩
theorem cQ:(Tryz.prog.info? 55).map (fun i=>(i.zero,i.size,i.bytes))=some (some (.agg #[.int .u8 0,.string ⟨#[]⟩,.int .i64 0]),3,32):=by kernel_rfl
theorem Fr.grownT {w w1 w2:World}{o:Obj}{sl:Value}(h:Fr (fun _=>True) w w1)(hg:(w1.alloc o).grownBy w2 sl.ownBlock)(hsl:∀q,sl.ownBlock=some q->w.heap.size<=q):Fr (fun _=>True) w w2:=by
 have a:=World.grownBy_alloc w1 o sl.ownBlock;exact⟨hg.os.trans (a.os.trans h.os),hg.tape.trans (a.tape.trans h.tape),hg.output.trans (a.output.trans h.output),Nat.le_trans h.size (Nat.le_trans a.size hg.size),fun k hk hp=>by
  have c:∀q:Prop,(some k=sl.ownBlock->q):=fun q e=>absurd (hsl k e.symm) (by omega);have b:=Nat.lt_of_lt_of_le hk h.size;exact(hg.block k (Nat.lt_of_lt_of_le b a.size) (c False)).trans ((a.block k b (c False)).trans (h.block k hk trivial))⟩
end Go.Proofs.YtjbfcadeapphbaaGreatDoor.Sx
