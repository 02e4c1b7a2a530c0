/- The reference: the tokens of a text. -/
import Derived.Test.YtjbfcadeapphbaaGreatDoorF20
import Derived.Deep.LoopGhost
import Derived.Deep.AppendLies
import Derived.Deep.DeepCutAuto
namespace Go.Proofs.YtjbfcadeapphbaaGreatDoor.Sx
set_option maxRecDepth 100000
set_option maxHeartbeats 20000000
open Go.RowKit Go.Sort
theorem aR (x:Int)(w:World):Calls Tryz.prog 36 #[.int .u8 x] w fun e w'=>e=.returned (.bool (decide (x=32)||decide (x=9)||decide (x=10)))/\w'=w:=by
 rcases(show x=32\/x=9\/x=10\/(x≠32/\x≠9/\x≠10) from by omega) with rfl|rfl|rfl|⟨a,b,c⟩
 ·go_enter Tryz.func36,Tryz.ntmps36
  go_wp2
  go_ret
  exact⟨rfl,rfl⟩
 ·go_enter Tryz.func36,Tryz.ntmps36
  go_wp2
  go_ret
  exact⟨rfl,rfl⟩
 ·go_enter Tryz.func36,Tryz.ntmps36
  go_wp2
  go_ret
  exact⟨rfl,rfl⟩
 ·rw[decide_eq_false a,decide_eq_false b,decide_eq_false c];have d:(x==32)=false:=by simp[a]
  have f:(x==9)=false:=by simp[b]
  have g:(x==10)=false:=by simp[c]
  clear a b c;go_enter Tryz.func36,Tryz.ntmps36
  go_wp2
  go_ret
  exact⟨rfl,rfl⟩
theorem aS (c:UInt8)(w:World):Calls Tryz.prog 36 #[.int .u8 c.toNat] w fun e w'=>e=.returned (.bool (Ee c))/\w'=w:=by
 have e:Ee c=(decide ((c.toNat:Int)=32)||decide ((c.toNat:Int)=9)||decide ((c.toNat:Int)=10)):=by
  unfold Ee
  congr 1
  ·congr 1
   ·exact H6 c 32 (by decide)
   ·exact H6 c 9 (by decide)
  ·exact H6 c 10 (by decide)
 rw[e];exact aR _ w
def Xu (l:List UInt8):Nat:=if Bp (Dn l 0) then 119 else if l.all Bg&&(decide (l.length=1)||!decide ((Dn l 0).toNat=48)) then 48 else 120
theorem nA (s:ByteArray)(h:0<s.size):Dn s.data.toList 0=s[0]:=by
 have a:s.data.toList.length=s.size:=by simp
 have:=Gy (l:=s.data.toList) (k:=0) (by omega);rw[List.getElem?_eq_getElem (by omega)] at this;simp only[Option.some.injEq] at this;rw[<- this];rfl
theorem iH {l:List UInt8}{k:Nat}{c:UInt8}(h:l[k]?=some c)(ha:(l.take k).all Bg=true):(l.take (k+1)).all Bg=Bg c:=by
 rw[List.take_add_one,h,List.all_append,ha];simp
theorem eO (s:ByteArray)(w:World)(hs:s.size<=4294967296)(h1:1<=s.size):Calls Tryz.prog 39 #[.string s] w fun e w'=>e=.returned (.int .u8 (Xu s.data.toList:Int))/\w'=w:=by
 have A:s.data.toList.length=s.size:=by simp
 obtain⟨v,m⟩:∃v,Xu s.data.toList=v:=⟨_,rfl⟩;rw[m];unfold Xu at m;rw[nA s (by omega)] at m;have r:Hid (Calls _ _ _ _ _):=K5 s[0] w;have y:Hid _:=Rm;have D:0<s.size:=by omega
 obtain⟨b,l⟩:∃b,Bp s[0]=b:=⟨_,rfl⟩;rw[l] at m r;clear l;have F:=follows;cases b with
 | true =>
  obtain rfl:v=119:=by simpa using m.symm
  clear m;go_enter Tryz.func39,Tryz.ntmps39
  go_wp2_with (go_at_call 71;refine r.out.mono ?_;rintro e w' ⟨rfl,rfl⟩)
  go_ret
  exact⟨rfl,rfl⟩
 | false =>
  have j:Hid ((if s.data.toList.all Bg&&(decide (s.data.toList.length=1)||!decide (s[0].toNat=48)) then 48 else 120)=v):=by have:=m;rw[if_neg (by simp)] at this;exact this
  clear m;go_enter Tryz.func39,Tryz.ntmps39
  go_wp2_with (go_at_call 71;refine r.out.mono ?_;rintro e w' ⟨rfl,rfl⟩)
  go_loop [4] (fun i=>∃k:Nat,k<=s.size/\i=.int .i64 k/\Hid ((s.data.toList.take k).all Bg=true/\(1<k->s[0].toNat≠48))) (fun i=>s.size-(intOf i).toNat)
  case atStart=>exact⟨0,Nat.zero_le _,rfl,by simp,fun h=>absurd h (by omega)⟩
  case round =>
   clear r;obtain⟨k,E,rfl,g⟩:=hrel;by_cases B:k<s.size
   ·have p:s.data.toList[k]?=some s[k]:=by rw[List.getElem?_eq_getElem (by omega)];rfl
    have n:=iH p g.out.1;have c:=y.out s[k];have a:Bg s[k]=false->s.data.toList.all Bg=false:=fun q=>by
     rw[List.all_eq_false];exact⟨s[k],List.mem_of_getElem? p,by simp[q]⟩
    obtain⟨b,l⟩:∃b,Bg s[k]=b:=⟨_,rfl⟩;rw[l] at c a n;have f:Hid (∀W,Calls _ _ _ _ _):=c;have t:Hid (_=b):=n;cases b with
    | false =>
     obtain rfl:120=v:=by have:=j.out;rw[a rfl] at this;simpa using this
     clear n c a l p j g t;go_wp2_with (go_at_call 72;refine(f.out _).mono ?_;rintro e w' ⟨rfl,rfl⟩)
     go_ret
     exact⟨rfl,rfl⟩
    | true =>
     by_cases d:k=1/\s[0].toNat=48
     ·obtain rfl:120=v:=by have:=j.out;rw[show decide (s.data.toList.length=1)=false from by simp;omega,show decide (s[0].toNat=48)=true from by simp[d.2]] at this;simpa using this
      have x:((k:Int)==1)=true:=by simp;omega
      have z:((s[0].toNat:Int)==48)=true:=by simp;omega
      clear n c a l p j g t d;go_wp2_with (go_at_call 72;refine(f.out _).mono ?_;rintro e w' ⟨rfl,rfl⟩)
      go_ret
      exact⟨rfl,rfl⟩
     ·have u:Hid ((s.data.toList.take (k+1)).all Bg=true/\(1<k+1->s[0].toNat≠48)):=⟨n,fun q e=>by
       by_cases o:k=1
       ·exact d ⟨o,e⟩
       ·exact g.out.2 (by omega) e⟩
      by_cases o:k=1
      ·have x:((k:Int)==1)=true:=by simp;omega
       have z:((s[0].toNat:Int)==48)=false:=by rw[beq_eq_false_iff_ne];omega
       clear n c a l p j g t d o;go_wp2_with (go_at_call 72;refine(f.out _).mono ?_;rintro e w' ⟨rfl,rfl⟩)
       go_round
       case rel=>exact⟨k+1,by omega,by go_num,u⟩
       case measure=>simp[intOf];omega
      ·have x:((k:Int)==1)=false:=by simp;omega
       clear n c a l p j g t d o;go_wp2_with (go_at_call 72;refine(f.out _).mono ?_;rintro e w' ⟨rfl,rfl⟩)
       go_round
       case rel=>exact⟨k+1,by omega,by go_num,u⟩
       case measure=>simp[intOf];omega
   ·obtain rfl:k=s.size:=by omega
    obtain rfl:48=v:=by
     have:=j.out;obtain⟨o,C⟩:=g.out;rw[List.take_of_length_le (by omega)] at o;rw[o,A] at this;by_cases q:s.size=1
     ·simpa [q] using this
     ·have:=C (by omega)
      simp_all
    clear j g;go_wp2_with fail
    go_ret
    exact⟨rfl,rfl⟩
def Eu:List ByteArray:=[⟨#[61,61]⟩,⟨#[58,61]⟩,⟨#[47,61]⟩,⟨#[60,61]⟩,⟨#[62,61]⟩,⟨#[60,60]⟩,⟨#[62,62]⟩,⟨#[46,46]⟩,⟨#[45,62]⟩,⟨#[43,43]⟩,⟨#[61]⟩,⟨#[60]⟩,⟨#[62]⟩,⟨#[43]⟩,⟨#[45]⟩,⟨#[42]⟩,⟨#[47]⟩,⟨#[37]⟩,⟨#[40]⟩,⟨#[41]⟩,⟨#[123]⟩,⟨#[125]⟩,⟨#[91]⟩,⟨#[93]⟩,⟨#[44]⟩,⟨#[58]⟩,⟨#[46]⟩,⟨#[39]⟩]
theorem aT (w:World):Calls Tryz.prog 41 #[] w fun e w'=>e=.returned (.slice (some ⟨w.heap.size,0,none⟩) 28 28)/\w'=w.alloc (.cells (Eu.map Value.string).toArray 9):=by
 go_enter Tryz.func41,Tryz.ntmps41
 go_wp2_with fail
 go_ret
 exact⟨rfl,rfl⟩
def Hw:List (List UInt8)->List UInt8->Nat
 | [],_=>0
 | g::r,l=>if decide (g.length<=l.length)&&l.take g.length==g then g.length else Hw r l
theorem Te:∀(a b:List (List UInt8))(l:List UInt8),(∀g∈a,g≠[])->Hw (a++b) l=if Hw a l=0 then Hw b l else Hw a l
 | [],b,l,_=>by simp[Hw]
 | g::r,b,l,h=>by
  have hg:=h g (by simp);simp only[List.cons_append,Hw];split
  ·rw[if_neg (by intro e;exact hg (List.length_eq_zero_iff.1 e))]
  ·exact Te r b l fun g q=>h g (by simp[q])
theorem Nx {n:Nat}(hn:n≠0):∀(a:List (List UInt8))(l:List UInt8),(∀g∈a,g.length=n)->Hw a l=if decide (n<=l.length)&&a.contains (l.take n) then n else 0
 | [],l,_=>by simp[Hw]
 | g::r,l,h=>by
  have hg:=h g (by simp);simp only[Hw,hg,List.contains_cons];rw[Nx hn r l fun g q=>h g (by simp[q])];cases decide (n<=l.length)<;>cases(l.take n==g)<;>simp
theorem iI (l:List UInt8)(h:l≠[]):Hw (Eu.map fun b=>b.data.toList) l=Gm l:=by
 have e:(Eu.map fun b=>b.data.toList)=J2++Np.map (fun c=>[c]):=by decide
 rw[e,Te _ _ _ (by decide),Nx (n:=2) (by decide) J2 l (by decide),Nx (n:=1) (by decide) (Np.map fun c=>[c]) l (by decide)];cases l with
 | nil=>exact absurd rfl h
 | cons c r =>
  unfold Gm;have a:(Np.map fun c=>[c]).contains ((c::r).take 1)=Np.contains c:=by
   simp[Np]
  rw[a];have d:Dn (c::r) 0=c:=rfl;rw[d];have f:decide (2<=(c::r).length)=decide (1<(c::r).length):=rfl;rw[f];have g:decide (1<=(c::r).length)=true:=by simp
  rw[g,Bool.true_and];split
  ·simp
  ·rfl
theorem Xv:∀(l:List UInt8)(i j:Nat),Dj l (i+j)=((Dj l j).1,i+(Dj l j).2)
 | [],i,j=>rfl
 | c::l,i,j=>by
  simp only[Dj];split
  ·simp;omega
  ·split
   ·rw[Nat.add_assoc,Xv l i (j+1)]
   ·rfl
theorem iJ (M:Nat)(hM:M<=18446744073709551615):∀(l:List UInt8)(a:Nat),(∀c∈l,Bg c=true)->a<=M->Lib.parseUintM M a l=if Iy a l<=M then .ok (Iy a l) else .range
 | [],a,_,ha=>by
  show Lib.NumEnd.ok a=if a<=M then .ok a else .range;rw[if_pos ha]
 | c::l,a,hd,ha=>by
  have hc:=hd c (by simp);simp[Bg,UInt8.le_iff_toNat_le] at hc;have e:Iy a (c::l)=Iy _ l:=rfl;rw[e];have hmono:=Vu l (a*10+(c.toNat-48));have ih:=fun h=>iJ M hM l (a*10+(c.toNat-48)) (fun d hd'=>hd d (by simp[hd'])) h;clear e;rw[Lib.parseUintM,if_pos hc];obtain⟨z,hz⟩:∃z,a*10+(c.toNat-48)=z:=⟨_,rfl⟩;rw[hz] at hmono ih |-;by_cases h1:1844674407370955162<=a
  ·rw[if_pos h1,if_neg (by omega)]
  ·rw[if_neg h1];by_cases h2:M<z
   ·rw[if_pos h2,if_neg (by omega)]
   ·rw[if_neg h2];exact ih (by omega)
theorem eP (l:List UInt8)(hn:l≠[])(hd:∀c∈l,Bg c=true):Lib.parseIntB 64 l=if Iy 0 l<9223372036854775808 then .ok (Iy 0 l:Int) else .range:=by
 cases l with
 | nil=>exact absurd rfl hn
 | cons c r =>
  have f:=hd c (by simp);simp[Bg,UInt8.le_iff_toNat_le] at f;have e:¬(c.toNat=43\/c.toNat=45):=by omega
  have a:¬c.toNat=45:=by omega
  have g:=iJ (2 ^ 64-1) (by decide) _ 0 hd (by omega);simp only[Lib.parseIntB];rw[if_neg e];unfold Lib.parseUintB;rw[if_neg (by simp),g];generalize Iy 0 (c::r)=N;by_cases b:N<=2 ^ 64-1
  ·rw[if_pos b];simp only;by_cases d:N<9223372036854775808
   ·rw[if_neg (by simp[a];omega),if_neg (by simp[a]),if_neg a,if_pos d]
   ·rw[if_pos (by simp[a];omega),if_neg d]
  ·rw[if_neg b,if_neg (by omega)]
theorem Jc {T:List UInt8}{q:Nat}{c:UInt8}(h:T[q]?=some c):T.drop q=c::T.drop (q+1):=by
 obtain⟨a,b⟩:=List.getElem?_eq_some_iff.1 h;rw[List.drop_eq_getElem_cons a,b]
theorem Ie (c:UInt8)(l:List UInt8):Ey (c::l)=(if Bp c then(1,Cm (c::l)) else if Bu c then(if Mr (c::l) then 2 else 5,Cm (c::l)) else if c.toNat=34 then Dj l 1 else if Gm (c::l)=0 then(5,0) else(4,Gm (c::l))):=by
 unfold Ey;rw[if_neg (by simp),show Dn (c::l) 0=c from rfl];rfl
theorem Mb {c:UInt8}{l:List UInt8}(h:Bu c=true):0<Cm (c::l):=by simp[Cm,h]
theorem aU {c:UInt8}{l:List UInt8}{n:Nat}(h:0<n):Dn ((c::l).take n) 0=c:=by
 cases n with
 | zero=>omega
 | succ n=>rfl
theorem lW {c:UInt8}{l:List UInt8}(h:Bu c=true):(Ey (c::l)).2=Cm (c::l)/\Xu ((c::l).take (Cm (c::l)))=Bn (Ey (c::l)).1:=by
 have e:=Mb (l:=l) h;have d:=Gl (c::l);rw[Ie];unfold Xu;rw[aU e];cases f:Bp c with
 | true=>exact⟨rfl,rfl⟩
 | false =>
  rw[if_neg (show ¬(false=true) by simp),if_pos h,if_neg (show ¬(false=true) by simp)];refine⟨rfl,?_⟩;show _=Bn (if Mr (c::l) then 2 else 5);have a:((c::l).take (Cm (c::l))).length=Cm (c::l):=by rw[List.length_take];omega
  rw[a];unfold Mr;rw[show Dn (c::l) 0=c from rfl];generalize ((c::l).take (Cm (c::l))).all Bg=b;by_cases q:Cm (c::l)=1
  ·rw[q];cases b<;>rfl
  ·rw[decide_eq_false q,decide_eq_true (show 1<Cm (c::l) by omega)];cases b<;>cases decide (c.toNat=48)<;>rfl
theorem eQ {T:List UInt8}{q:Nat}{c:UInt8}(hc:T[q]?=some c)(h:Bu c=false)(h4:c.toNat=34) :
  bY (Dj (T.drop (q+1)) (q+1))=if (Ey (T.drop q)).1=3 then((q+(Ey (T.drop q)).2:Nat):Int) else -1:=by
 have a:Bp c=false:=by simp only[Bu,Bool.or_eq_false_iff] at h;exact h.1.1
 have e:Ey (T.drop q)=Dj (T.drop (q+1)) 1:=by rw[Jc hc,Ie,a,h,if_neg (by simp),if_neg (by simp),if_pos h4]
 rw[e,Xv];rcases Gz (T.drop (q+1)) 1 with k|k
 ·rw[if_pos k,k,jJ]
 ·rw[if_neg (by omega),k,mJ]
theorem Vf {T:List UInt8}{q:Nat}{c:UInt8}(hc:T[q]?=some c)(h:Bu c=false)(h4:c.toNat=34):(Ey (T.drop q)).1=3\/(Ey (T.drop q)).1=5:=by
 have a:Bp c=false:=by simp only[Bu,Bool.or_eq_false_iff] at h;exact h.1.1
 rw[Jc hc,Ie,a,h,if_neg (by simp),if_neg (by simp),if_pos h4];exact Gz _ _
theorem iK {T:List UInt8}{q:Nat}{c:UInt8}(hc:T[q]?=some c)(h:Bu c=false)(h4:c.toNat≠34):Ey (T.drop q)=if Gm (T.drop q)=0 then(5,0) else(4,Gm (T.drop q)):=by
 have a:Bp c=false:=by simp only[Bu,Bool.or_eq_false_iff] at h;exact h.1.1
 rw[Jc hc,Ie,a,h,if_neg (by simp),if_neg (by simp),if_neg h4]
theorem lX {T:List UInt8}{q:Nat}{c:UInt8}(hc:T[q]?=some c)(r:Bool):btw r (T.drop q)=if Ee c||(c==35||r) then 1+btw ((c==35||r)&&!(c==10)) (T.drop (q+1)) else 0:=by
 rw[Jc hc,btw]
theorem kI {T:List UInt8}{q:Nat}(h:T.length<=q)(r:Bool):btw r (T.drop q)=0:=by rw[List.drop_of_length_le h];cases r<;>rfl
theorem Nc (s:ByteArray)(a n:Nat):s.extract a (a+n)=⟨((s.data.toList.drop a).take n).toArray⟩:=by
 apply ByteArray.ext;rw[ByteArray.data_extract];apply Array.ext';rw[Array.toList_extract];simp[List.extract]
def Fa (T:List UInt8)(n:Nat):List Value:=(List.range n).flatMap fun j=>[.int .u8 (Bn (clF T j):Int),.string (Cf (tkF T j)),.int .i64 (atF T j:Int)]
theorem Iu (T:List UInt8)(n:Nat):Fa T (n+1)=Fa T n++[.int .u8 (Bn (clF T n):Int),.string (Cf (tkF T n)),.int .i64 (atF T n:Int)]:=by
 unfold Fa;rw[List.range_succ,List.flatMap_append];simp
theorem Nd (T:List UInt8):∀n,(Fa T n).length=n*3
 | 0=>rfl
 | n+1=>by rw[Iu,List.length_append,Nd T n];simp;omega
theorem Xw (T:List UInt8):∀n i,i<n->(Fa T n)[i*3]?=some (.int .u8 (Bn (clF T i):Int))/\(Fa T n)[i*3+1]?=some (.string (Cf (tkF T i)))/\(Fa T n)[i*3+2]?=some (.int .i64 (atF T i:Int))
 | 0,i,h=>absurd h (by omega)
 | n+1,i,h=>by
  rw[Iu];have hl:=Nd T n;by_cases q:i<n
  ·obtain⟨a,b,c⟩:=Xw T n i q;rw[List.getElem?_append_left (by omega),List.getElem?_append_left (by omega),List.getElem?_append_left (by omega)];exact⟨a,b,c⟩
  ·obtain rfl:i=n:=by omega
   rw[List.getElem?_append_right (by omega),List.getElem?_append_right (by omega),List.getElem?_append_right (by omega),hl];rw[show i*3-i*3=0 by omega,show i*3+1-i*3=1 by omega,show i*3+2-i*3=2 by omega];exact⟨rfl,rfl,rfl⟩
theorem Gr.owns {T:List UInt8}{N g cap lo:Nat}{w:World}(h:w.ownsRow lo 55 3 (.slice (some ⟨g,0,none⟩) (N+1) cap) (N+1) (Fa T (N+1))):Gr (tkF T) N g w:=by
 rcases h.2 with⟨e,-⟩|⟨m,f,k,e,n,j,-,-,o,l⟩
 ·simp at e
 ·simp only[Value.slice.injEq,Option.some.injEq,Addr.mk.injEq,and_true,true_and] at e;obtain⟨rfl,rfl⟩:=e;have d:∀(i:Nat)(v:Value),(Fa T (N+1))[i]?=some v->w.cell? ⟨g,i,none⟩=some v:=by
   intro i v q;rw[<- l,List.getElem?_take] at q;split at q
   ·rw[Aa j];simpa using q
   ·simp at q
  refine⟨Ac j,fun i hi=>?_⟩;obtain⟨a,b,c⟩:=Xw T (N+1) i (by omega);exact⟨d _ _ a,d _ _ b,d _ _ c⟩
theorem kJ:(Tryz.prog.info? 55).map (fun i=>(i.zero,i.size,i.bytes))=some (some (.agg #[.int .u8 0,.string ⟨#[]⟩,.int .i64 0]),3,32):=by kernel_rfl
theorem Fr.grownT {w w1 w2:World}{o:Obj}{sl:Value}(h:Fr (fun _=>True) w w1)(hg:(w1.alloc o).grownBy w2 sl.ownBlock)(hsl:∀q,sl.ownBlock=some q->w.heap.size<=q):Fr (fun _=>True) w w2:=by
 have a:=World.grownBy_alloc w1 o sl.ownBlock;exact⟨hg.os.trans (a.os.trans h.os),hg.tape.trans (a.tape.trans h.tape),hg.output.trans (a.output.trans h.output),Nat.le_trans h.size (Nat.le_trans a.size hg.size),fun k hk hp=>by
  have c:∀q:Prop,(some k=sl.ownBlock->q):=fun q e=>absurd (hsl k e.symm) (by omega);have b:=Nat.lt_of_lt_of_le hk h.size;exact(hg.block k (Nat.lt_of_lt_of_le b a.size) (c False)).trans ((a.block k b (c False)).trans (h.block k hk trivial))⟩
theorem Js {w w':World}{base sz n:Nat}{e:TypeId}{sl:Value}{vs:List Value}(h:w.ownsRow base e sz sl n vs)(hb:∀g,sl.ownBlock=some g->w'.heap[g]?=w.heap[g]?):w'.ownsRow base e sz sl n vs:=by
 refine⟨h.1,?_⟩;rcases h.2 with d|⟨g,a,b,c,f,i,r⟩
 ·exact .inl d
 ·exact .inr ⟨g,a,b,c,f,(hb g (by rw[c];rfl)).trans i,r⟩
theorem Xx {T:List UInt8}{n:Nat}(h:clF T n=0\/clF T n=5):Cf (tkF T n)=⟨#[]⟩:=by
 unfold Cf;rcases h with h|h
 ·rw[if_neg (by show ¬clF T n=5;omega),(Ns T n).none h]
 ·rw[if_pos (by show clF T n=5;exact h)]
theorem kK (W:World)(a b c:Value):∀(k:Nat)(u:Value),[a,b,c][k]?=some u->(W.alloc (.cells #[a,b,c] 55)).cell? ((⟨W.heap.size,0,none⟩:Addr).add k)=some u:=by
 intro k u hk
 match k,hk with
 | 0,hk=>simp at hk;subst hk;simp[Addr.add]
 | 1,hk=>simp at hk;subst hk;simp[Addr.add]
 | 2,hk=>simp at hk;subst hk;simp[Addr.add]
 | k+3,hk=>simp at hk
theorem kL {a b c:Value}(ha:a.oneCell'=true)(hb:b.oneCell'=true)(hc:c.oneCell'=true):∀u∈[a,b,c],u.oneCell'=true:=by
 intro u d;simp only[List.mem_cons,List.not_mem_nil,or_false] at d;rcases d with rfl|rfl|rfl
 ·exact ha
 ·exact hb
 ·exact hc
theorem Fr.new1 {w W:World}{bt:Nat}(h:Fr (fun _=>True) w W)(hb:w.heap.size<=bt)(o:Nat)(v:Value):Fr (fun _=>True) w (W.setCell ⟨bt,o,none⟩ v):=by
 have f:Fr (·≠bt) W (W.setCell ⟨bt,o,none⟩ v):=(Fr.refl _ W).set (by simp) _;exact⟨f.os.trans h.os,f.tape.trans h.tape,f.output.trans h.output,Nat.le_trans h.size f.size,fun k hk _=>(f.block k (Nat.lt_of_lt_of_le hk h.size) (by omega)).trans (h.block k hk trivial)⟩
theorem Ap.put {w:World}{b v:Nat}{tx:ByteArray}{a:Int}(h:Ap w b v tx a)(u:Nat):Ap (w.setCell ⟨b,0,none⟩ (.int .u8 (u:Int))) b u tx a:=by
 have:=Ag h 0 (.int .u8 (u:Int));simpa [Ap] using this
theorem Ap.text {w:World}{b v:Nat}{tx:ByteArray}{a:Int}(h:Ap w b v tx a)(u:ByteArray):Ap (w.setCell ⟨b,1,none⟩ (.string u)) b v u a:=by
 have:=Ag h 1 (.string u);simpa [Ap] using this
theorem iL (c:UInt8)(l:List UInt8):(Ey (c::l)).1≠0:=by
 rw[Ie];have:=Gz l 1
 repeat' split
 all_goals first|decide|omega
def Ny (cl ln q v:Nat)(E:Int):Prop:=(cl≠5/\E=((q+ln:Nat):Int)/\v=Bn cl)\/(cl=5/\(E<=(q:Int)\/v=120))
def Nf (T:List UInt8)(w:World)(e:Ending)(w':World):Prop :=
 ∃N g cap,e=.returned (.slice (some ⟨g,0,none⟩) (N+1) cap)/\N<=T.length/\(clF T N=0\/clF T N=5)/\w.heap.size<=g/\Gr (tkF T) N g w'/\Fr (fun _=>True) w w'
theorem Xy (s:ByteArray)(w:World)(hs:s.size<=4000):Calls Tryz.prog 17 #[.string s] w (Nf s.data.toList w):=by
 have hl:s.data.toList.length=s.size:=by simp
 obtain⟨T,hT⟩:∃T,s.data.toList=T:=⟨_,rfl⟩;have HT:Hid (s.data.toList=T):=hT;rw[hT] at hl |-;clear hT;obtain⟨i0,b9,c6,c7,c8⟩:∃i0,Tryz.prog.info? 55=some i0/\i0.zero=some (.agg #[.int .u8 0,.string ⟨#[]⟩,.int .i64 0])/\i0.size=3/\i0.bytes=32:=by
  have:=kJ;cases hq:Tryz.prog.info? 55 with
  | none=>rw[hq] at this;simp at this
  | some j=>rw[hq] at this;simp at this;exact⟨j,rfl,this.1,this.2.1,this.2.2⟩
 have a8:Hid (T.length=s.size):=hl;clear hl;have mo:=follows;go_enter Tryz.func17,Tryz.ntmps17
 go_wp2_with fail
 go_loopg [3,4] (s.size+1) (fun f s3 s4 wr=>∃n p:Nat,s4=.int .i64 (p:Int)/\p<=s.size/\n<=p/\s.size+1<=f+p/\Hid (p=I1 T n)/\Hid (wr.ownsRow w.heap.size 55 3 s3 n (Fa T n))/\Hid (Fr (fun _=>True) w wr))
 case atStart=>exact⟨0,0,rfl,by omega,by omega,by omega,rfl,World.ownsRow_nil _ _ _ _,Fr.refl _ _⟩
 case round =>
  obtain⟨n,p,rfl,hp,i9,hf,HP,HO,HF⟩:=hrel;have HA:Hid (p+btw false (T.drop p)=atF T n):=by show _=_;rw[HP.out];rfl
  obtain⟨A,hA⟩:∃A,atF T n=A:=⟨_,rfl⟩;have I:Hid (atF T n=A):=hA;have h8:A<=s.size:=by have:=(Ji T n).2.1;have:=a8.out;omega
  have j0:p<=A:=by have:=(Ji T n).1;have:=HP.out;omega
  rw[hA] at HA;clear hA;go_wp2_with fail
  go_loop [4,5] (fun i r=>∃(q:Nat)(b:Bool),q<=s.size/\i=.int .i64 (q:Int)/\r=.bool b/\Hid (q+btw b (T.drop q)=A)) (fun i _=>s.size-(intOf i).toNat)
  case atStart=>exact⟨p,false,hp,rfl,rfl,HA⟩
  case round =>
   obtain⟨q,b,hq,rfl,rfl,HQ⟩:=hrel;by_cases G:q<s.size
   ·have D:T[q]?=some s[q]:=by rw[<- HT.out,List.getElem?_eq_getElem (by simpa using G)];rfl
    have y:=lX D b;have K:Hid (∀W,Calls _ _ _ _ _):=fun W=>aS s[q] W;rcases(show s[q].toNat=10\/s[q].toNat=35\/(s[q].toNat≠10/\s[q].toNat≠35) from by omega) with e|e|⟨e1,e2⟩
    ·have hc:s[q]=10:=by rw[<- UInt8.toNat_inj];exact e
     have HB:Hid (∀W,Calls Tryz.prog 36 #[.int .u8 s[q].toNat] W fun e w'=>e=.returned (.bool true)/\w'=W):=fun W=>by have:=K.out W;rw[show Ee s[q]=true from by rw[hc];rfl] at this;exact this
     have HN:Hid (q+1+btw false (T.drop (q+1))=A):=by
      have:=HQ.out;rw[y,hc] at this;simp[Ee] at this;show _=_;omega
     have a1:((s[q].toNat:Int)==35)=false:=by rw[beq_eq_false_iff_ne];omega
     have a2:((s[q].toNat:Int)==10)=true:=by rw[beq_iff_eq];omega
     clear e hc D;clear y HQ K;go_wp2_with (go_at_call 36;refine(HB.out _).mono ?_;rintro e w' ⟨rfl,H⟩;obtain rfl:=H.symm)
     go_round
     case rel=>exact⟨q+1,_,by omega,by go_num,rfl,HN⟩
     case measure=>simp[intOf];omega
    ·have hc:s[q]=35:=by rw[<- UInt8.toNat_inj];exact e
     have HB:Hid (∀W,Calls Tryz.prog 36 #[.int .u8 s[q].toNat] W fun e w'=>e=.returned (.bool false)/\w'=W):=fun W=>by have:=K.out W;rw[show Ee s[q]=false from by rw[hc];rfl] at this;exact this
     have HN:Hid (q+1+btw true (T.drop (q+1))=A):=by
      have:=HQ.out;rw[y,hc] at this;simp[Ee] at this;show _=_;omega
     have a1:((s[q].toNat:Int)==35)=true:=by rw[beq_iff_eq];omega
     have a2:((s[q].toNat:Int)==10)=false:=by rw[beq_eq_false_iff_ne];omega
     clear e hc D;clear y HQ K;go_wp2_with (go_at_call 36;refine(HB.out _).mono ?_;rintro e w' ⟨rfl,H⟩;obtain rfl:=H.symm)
     go_round
     case rel=>exact⟨q+1,_,by omega,by go_num,rfl,HN⟩
     case measure=>simp[intOf];omega
    ·have c1:(s[q]==10)=false:=by rw[beq_eq_false_iff_ne];intro h;rw[h] at e1;exact e1 rfl
     have c2:(s[q]==35)=false:=by rw[beq_eq_false_iff_ne];intro h;rw[h] at e2;exact e2 rfl
     have a1:((s[q].toNat:Int)==35)=false:=by rw[beq_eq_false_iff_ne];omega
     have a2:((s[q].toNat:Int)==10)=false:=by rw[beq_eq_false_iff_ne];omega
     obtain⟨k,hk⟩:∃k,Ee s[q]=k:=⟨_,rfl⟩;have HB:Hid (∀W,Calls Tryz.prog 36 #[.int .u8 s[q].toNat] W fun e w'=>e=.returned (.bool k)/\w'=W):=fun W=>by have:=K.out W;rw[hk] at this;exact this
     rw[hk,c1,c2] at y;clear e1 e2 c1 c2 hk;cases k with
     | true =>
      have HN:Hid (q+1+btw b (T.drop (q+1))=A):=by
       have:=HQ.out;rw[y] at this;simp at this;show _=_;omega
      clear D;cases b
      all_goals
       clear y HQ K;go_wp2_with (go_at_call 36;refine(HB.out _).mono ?_;rintro e w' ⟨rfl,H⟩;obtain rfl:=H.symm)
       go_round
       case rel=>exact⟨q+1,_,by omega,by go_num,rfl,HN⟩
       case measure=>simp[intOf];omega
     | false =>
      cases b with
      | true =>
       have HN:Hid (q+1+btw true (T.drop (q+1))=A):=by
        have:=HQ.out;rw[y] at this;simp at this;show _=_;omega
       clear D y HQ K;go_wp2_with (go_at_call 36;refine(HB.out _).mono ?_;rintro e w' ⟨rfl,H⟩;obtain rfl:=H.symm)
       go_round
       case rel=>exact⟨q+1,_,by omega,by go_num,rfl,HN⟩
       case measure=>simp[intOf];omega
      | false =>
       obtain rfl:q=A:=by have:=HQ.out;rw[y] at this;simpa using this
       have HG:Hid (T[q]?=some s[q]):=D;have a3:((q:Int)==(s.size:Int))=false:=by rw[beq_eq_false_iff_ne];omega
       clear y HQ K D HA;go_upto_region 15 with(go_at_call 36;refine(HB.out _).mono ?_;rintro e w' ⟨rfl,H⟩;obtain rfl:=H.symm)
       obtain⟨u,d8⟩:∃u,clF T n=u:=⟨_,rfl⟩;obtain⟨d,e0⟩:∃d,Lj T n=d:=⟨_,rfl⟩;have d1:Ey (T.drop q)=(u,d):=by rw[<- d8,<- e0];unfold clF Lj;rw[I.out]
       have J:Hid (Ey (T.drop q)=(u,d)):=d1;have O:Hid (clF T n=u/\Lj T n=d):=⟨d8,e0⟩;have T1:Hid (Ap (wr.alloc (.cells #[.int .u8 120,.string ⟨#[]⟩,.int .i64 (q:Int)] 55)) wr.heap.size 120 ⟨#[]⟩ (q:Int)):=Af rfl;have b0:Hid (Fr (fun _=>True) w (wr.alloc (.cells #[.int .u8 120,.string ⟨#[]⟩,.int .i64 (q:Int)] 55))):=HF.out.alloc _;have V:Hid ((wr.alloc (.cells #[.int .u8 120,.string ⟨#[]⟩,.int .i64 (q:Int)] 55)).ownsRow w.heap.size 55 3 u3 n (Fa T n)):=HO.out.alloc _;have b5:∀g,u3.ownBlock=some g->g≠wr.heap.size/\w.heap.size<=g:=fun g e=>⟨by have:=(HO.out.lt g e).2;omega,(HO.out.lt g e).1⟩;have a4:=HF.out.size;generalize (wr.alloc (.cells #[.int .u8 120,.string ⟨#[]⟩,.int .i64 (q:Int)] 55))=W1 at T1 b0 V |-;obtain⟨a,b2⟩:∃a,wr.heap.size=a:=⟨_,rfl⟩;rw[b2] at T1 b5 a4 |-;have m:Hid (∀g,u3.ownBlock=some g->g≠a/\w.heap.size<=g):=b5;clear b2 b5 d8 e0 d1 HF HO;obtain⟨bi,d7⟩:∃b,Bu s[q]=b:=⟨_,rfl⟩;have a9:Hid (Bu s[q]=bi):=d7;have g2:Hid (∀W,Calls Tryz.prog 37 #[.int .u8 s[q].toNat] W fun e w'=>e=.returned (.bool bi)/\w'=W):=fun W=>by have:=Oa s[q] W;rw[d7] at this;exact this
       clear d7;go_upto_if 52 with(go_at_call 37;refine(g2.out _).mono ?_;rintro e w' ⟨rfl,H⟩;obtain rfl:=H.symm)
       go_cut [9] (fun s9 wc=>∃(E:Int)(v:Nat),s9=.int .i64 E/\Hid (Ap wc a v ⟨#[]⟩ (q:Int))/\Hid (wc.ownsRow w.heap.size 55 3 u3 n (Fa T n))/\Hid (Fr (fun _=>True) w wc)/\Hid (Ny u d q v E))
       case first =>
        have c4:=Gl (T.drop q);have g7:=a8.out;rw[List.length_drop] at c4;cases bi with
        | true =>
         obtain⟨R,hR⟩:∃R,Cm (T.drop q)=R:=⟨_,rfl⟩;have c3:=lW (c:=s[q]) (l:=T.drop (q+1)) a9.out;rw[<- Jc HG.out,J.out,hR] at c3;have h9:0<R:=by rw[<- hR,Jc HG.out];exact Mb a9.out
         rw[hR] at c4;have e5:Hid (∀W,Calls Tryz.prog 38 #[.string s,.int .i64 (q:Int)] W fun e w'=>e=.returned (.int .i64 ((q+R:Nat):Int))/\w'=W):=fun W=>by have:=jI s q W (by omega) (by omega);rw[HT.out,hR] at this;exact this
         have h4:(s.extract q (q+R)).size=R:=by simp[ByteArray.size_extract];omega
         have HW:Hid (∀W,Calls Tryz.prog 39 #[.string (s.extract q (q+R))] W fun e w'=>e=.returned (.int .u8 (Bn u:Int))/\w'=W):=fun W=>by
          have:=eO (s.extract q (q+R)) W (by omega) (by omega);rw[Nc,HT.out] at this;have e2:(⟨((T.drop q).take R).toArray⟩:ByteArray).data.toList=(T.drop q).take R:=rfl;rw[e2,c3.2,<- HT.out,<- Nc] at this;exact this
         have M:Hid (Ny u d q (Bn u) ((q+R:Nat):Int)):=by
          by_cases h5:u=5
          ·exact .inr ⟨h5,.inr (by rw[h5];rfl)⟩
          ·exact .inl ⟨h5,by rw[<- c3.1],rfl⟩
         have x0:=Aa T1.out 0;have y0:=Ab T1.out 0;clear hR c3 h4;obtain⟨sv,f6⟩:∃v,Bn u=v:=⟨_,rfl⟩;rw[f6] at HW M;clear f6;have g9:((q+R:Nat):Int)=(q:Int)+(R:Int):=by omega
         go_wp2_with fail
         refine(e5.out _).mono ?_;rintro e w' ⟨rfl,H⟩;obtain rfl:=H.symm;go_wp2_with (go_at_call 39;refine(HW.out _).mono ?_;rintro e w' ⟨rfl,H⟩;obtain rfl:=H.symm)
         go_meet
         case rel=>exact⟨_,sv,rfl,T1.out.put sv,Js V.out (fun g e=>((Fr.refl (·≠a) W1).set (by simp) _).block g ((V.out.lt g e).2) (m.out g e).1),b0.out.new1 a4 _ _,by show Ny _ _ _ _ _;rw[<- g9];exact M.out⟩
        | false =>
         by_cases b1:s[q].toNat=34
         ·have a5:((s[q].toNat:Int)==34)=true:=by rw[beq_iff_eq];omega
          have e4:=eQ HG.out a9.out b1;have e3:=Vf HG.out a9.out b1;rw[J.out] at e4 e3;obtain⟨E,hE⟩:∃E,(if u=3 then((q+d:Nat):Int) else -1)=E:=⟨_,rfl⟩;have g4:Hid (∀W,Calls Tryz.prog 40 #[.string s,.int .i64 (q:Int)] W fun e w'=>e=.returned (.int .i64 E)/\w'=W):=fun W=>by
           have:=bZ s q W (by omega) (by omega);rw[HT.out,e4] at this;have g6:(if (u,d).1=3 then((q+(u,d).2:Nat):Int) else -1)=E:=hE;rw[g6] at this;exact this
          have M:Hid (Ny u d q 34 E):=by
           rcases e3 with h|h
           ·have h:u=3:=h;exact .inl ⟨by omega,by rw[<- hE,if_pos h],by rw[h];rfl⟩
           ·have h:u=5:=h;exact .inr ⟨h,.inl (by rw[<- hE,if_neg (by omega)];omega)⟩
          have x0:=Aa T1.out 0;have y0:=Ab T1.out 0;clear e4 e3 hE b1 c4;go_wp2_with (go_at_call 40;refine(g4.out _).mono ?_;rintro e w' ⟨rfl,H⟩;obtain rfl:=H.symm)
          go_meet
          case rel=>exact⟨E,34,rfl,T1.out.put 34,Js V.out (fun g e=>((Fr.refl (·≠a) W1).set (by simp) _).block g ((V.out.lt g e).2) (m.out g e).1),b0.out.new1 a4 _ _,M⟩
         ·have a5:((s[q].toNat:Int)==34)=false:=by rw[beq_eq_false_iff_ne];omega
          have c5:=iK HG.out a9.out b1;rw[J.out] at c5;have f4:T.drop q≠[]:=by rw[Jc HG.out];simp
          obtain⟨L,hL⟩:∃L,T.drop q=L:=⟨_,rfl⟩;obtain⟨F,hF⟩:∃F,Gm L=F:=⟨_,rfl⟩;have d6:=iI L (by rw[<- hL];exact f4);rw[hL,hF] at c5;rw[hF] at d6;have g5:Hid (Hw (Eu.map fun b=>b.data.toList) L=F):=d6;have HL:Hid (T.drop q=L):=hL;have e6:Hid ((u,d)=if F=0 then(5,0) else(4,F)):=c5;have g3:Hid (L.length=s.size-q):=by show _=_;rw[<- hL,List.length_drop];omega
          have C:Hid (Calls _ _ _ _ _):=aT W1;clear c5 f4 hL hF d6 b1 c4;go_wp2_with (go_at_call 41;refine C.out.mono ?_;rintro e w' ⟨rfl,H⟩;obtain rfl:=H.symm)
          have b6:Hid ((W1.alloc (.cells (Eu.map Value.string).toArray 9)).heap[W1.heap.size]?=some (.cells (Eu.map Value.string).toArray 9 (0,0))):=Af rfl;have T4:Hid (Ap (W1.alloc (.cells (Eu.map Value.string).toArray 9)) a 120 ⟨#[]⟩ (q:Int)):=((Fr.grew (P:=fun _=>True) ((Ad.refl W1).alloc _)).block a (Ac T1.out) trivial).trans T1.out;have d5:Hid ((W1.alloc (.cells (Eu.map Value.string).toArray 9)).ownsRow w.heap.size 55 3 u3 n (Fa T n)):=V.out.alloc _;have d4:Hid (Fr (fun _=>True) w (W1.alloc (.cells (Eu.map Value.string).toArray 9))):=b0.out.alloc _;have f0:a<W1.heap.size:=Ac T1.out;generalize W1.alloc (.cells (Eu.map Value.string).toArray 9)=W4 at b6 T4 d5 d4 |-;obtain⟨bg,e8⟩:∃bg,W1.heap.size=bg:=⟨_,rfl⟩;rw[e8] at b6 f0 |-;clear e8 T1 V b0 C;have e9:bg≠a:=by omega
          go_loopg [9,11] (29) (fun f s9 s11 wr2=>∃(k:Nat)(E:Int)(v:Nat),s9=.int .i64 E/\s11=.int .i64 (k:Int)/\k<=28/\f+k=29/\Hid (Ap wr2 a v ⟨#[]⟩ (q:Int))/\Hid (wr2.ownsRow w.heap.size 55 3 u3 n (Fa T n))/\Hid (Fr (fun _=>True) w wr2)/\Hid (wr2.heap[bg]?=some (.cells (Eu.map Value.string).toArray 9 (0,0)))/\Hid ((E=(q:Int)/\v=120/\Hw ((Eu.drop k).map fun b=>b.data.toList) L=F)\/(E=((q+F:Nat):Int)/\v=111/\F≠0)))
          case atStart=>exact⟨0,(q:Int),120,rfl,rfl,by omega,by omega,T4,d5,d4,b6,.inl ⟨rfl,rfl,g5.out⟩⟩
          case round =>
           clear T4 d5 d4 b6;obtain⟨k,E,v,rfl,rfl,h6,i5,T5,Y,a6,S,b7⟩:=hrel;rcases b7.out with⟨rfl,rfl,x⟩|⟨rfl,rfl,e7⟩
           ·have e1:((q:Int)==(q:Int))=true:=by simp
            by_cases hk:k<28
            ·obtain⟨b,hb⟩:∃b,Eu[k]?=some b:=⟨_,List.getElem?_eq_getElem (by show k<28;exact hk)⟩;have g8:1<=b.size/\b.size<=2:=(show ∀b∈Eu,1<=b.size/\b.size<=2 by decide) b (List.mem_of_getElem? hb);obtain⟨i3,i4⟩:=g8;have f2:Eu.drop k=b::Eu.drop (k+1):=by
              obtain⟨h1,h2⟩:=List.getElem?_eq_some_iff.1 hb;rw[List.drop_eq_getElem_cons h1,h2]
             have f1:b.data.toList.length=b.size:=by simp
             rw[f2,List.map_cons,Hw,f1,g3.out] at x;have c0:wr.cell? ⟨bg,k,none⟩=some (.string b):=by rw[Aa S.out];simp[hb]
             have d9:wr.drew.heap[bg]?=some (.cells (Eu.map Value.string).toArray 9 (0,0)):=((Fr.grew (P:=fun _=>True) (Ad.refl wr).drew).block bg (Ac S.out) trivial).trans S.out;have d0:wr.drew.cell? ⟨bg,k,none⟩=some (.string b):=by rw[Aa d9];simp[hb]
             have x0:=Aa T5.out 0;have y0:=Ab T5.out 0;have i7:=Ac S.out;have i6:(k:Int)<28:=by omega
             have b8:Ap wr.drew a 120 ⟨#[]⟩ (q:Int):=((Fr.grew (P:=fun _=>True) (Ad.refl wr).drew).block a (Ac T5.out) trivial).trans T5.out;have T6:Hid (Ap wr.drew a 120 ⟨#[]⟩ (q:Int)):=b8;have Z:Hid (wr.drew.ownsRow w.heap.size 55 3 u3 n (Fa T n)):=Js Y.out (fun g e=>(Fr.grew (P:=fun _=>True) (Ad.refl wr).drew).block g (Y.out.lt g e).2 trivial);have a7:Hid (Fr (fun _=>True) w wr.drew):=a6.out.drew;have U:Hid (wr.drew.heap[bg]?=some (.cells (Eu.map Value.string).toArray 9 (0,0))):=d9;have x6:=Aa b8 0;have y6:=Ab b8 0;clear b7 d9 f2 f1 hb b8;by_cases h1:b.size<=s.size-q
             ·have i1:(b.size:Int)<=(s.size:Int)-(q:Int):=by omega
              have i2:q+b.size<=s.size:=by omega
              rw[decide_eq_true h1,Bool.true_and] at x;have f3:(s.extract q (q+b.size)).toList=L.take b.size:=by rw[ByteArray.toList_eq,Nc,HT.out,HL.out]
              have b2:b.data.toList=b.toList:=by rw[ByteArray.toList_eq]
              rw[b2,<- f3] at x;obtain⟨z,hz⟩:∃z,((s.extract q (q+b.size)).toList==b.toList)=z:=⟨_,rfl⟩;rw[hz] at x;have C:Hid (_=F):=x;clear x f3 b2 h1;cases z with
              | true =>
               have HH:Hid (((q:Int)+(b.size:Int)=((q+F:Nat):Int))/\F≠0):=by
                have:=C.out;rw[if_pos rfl] at this;exact⟨by omega,by omega⟩
               clear C;go_upto_region 27 with fail
               go_big_region_o
               clear x0 y0 c0 T5 Y a6 S;generalize wr.drew=W6 at T6 Z a7 U x6 y6 d0 |-;go_wp2_with fail
               have g1:Hid ((W6.setCell ⟨a,0,none⟩ (.int .u8 111)).heap[bg]?=some (.cells (Eu.map Value.string).toArray 9 (0,0))):=(((Fr.refl (·≠a) W6).set (by simp) _).block bg (Ac U.out) e9).trans U.out;go_roundg (gk-1)
               case measure=>omega
               case rel=>exact⟨k+1,_,111,rfl,by go_num,by omega,by omega,T6.out.put 111,Js Z.out (fun g e=>((Fr.refl (·≠a) W6).set (by simp) _).block g ((Z.out.lt g e).2) (m.out g e).1),a7.out.new1 a4 _ _,g1,.inr ⟨HH.out.1,rfl,HH.out.2⟩⟩
              | false =>
               have HH:Hid (Hw ((Eu.drop (k+1)).map fun b=>b.data.toList) L=F):=by have:=C.out;rw[if_neg (by simp)] at this;exact this
               clear C;go_upto_region 27 with fail
               go_big_region_o
               clear x0 y0 c0 T5 Y a6 S;generalize wr.drew=W6 at T6 Z a7 U x6 y6 d0 |-;go_wp2_with fail
               go_roundg (gk-1)
               case measure=>omega
               case rel=>exact⟨k+1,_,120,rfl,by go_num,by omega,by omega,T6,Z,a7,U,.inl ⟨rfl,rfl,HH.out⟩⟩
             ·have i1:¬(b.size:Int)<=(s.size:Int)-(q:Int):=by omega
              rw[decide_eq_false h1,Bool.false_and] at x;have C:Hid (Hw ((Eu.drop (k+1)).map fun b=>b.data.toList) L=F):=by have:=x;rw[if_neg (by simp)] at this;exact this
              clear x h1;go_upto_region 27 with fail
              go_big_region_o
              clear x0 y0 c0 T5 Y a6 S;generalize wr.drew=W6 at T6 Z a7 U x6 y6 d0 |-;go_wp2_with fail
              go_roundg (gk-1)
              case measure=>omega
              case rel=>exact⟨k+1,_,120,rfl,by go_num,by omega,by omega,T6,Z,a7,U,.inl ⟨rfl,rfl,C.out⟩⟩
            ·obtain rfl:k=28:=by omega
             have d3:Hid (Ny u d q 120 (q:Int)):=by
              have h0:(0:Nat)=F:=x;have:=e6.out;rw[if_pos h0.symm] at this;injection this with h1 h2
              exact .inr ⟨h1,.inl (Int.le_refl _)⟩
             clear b7 x;go_wp2_with fail
             go_meet
             case rel=>exact⟨_,120,rfl,T5,Y,a6,d3⟩
           ·have e1:(((q+F:Nat):Int)==(q:Int))=false:=by rw[beq_eq_false_iff_ne];omega
            have d3:Hid (Ny u d q 111 ((q+F:Nat):Int)):=by
             have:=e6.out;rw[if_neg e7] at this;injection this with h1 h2
             exact .inl ⟨by omega,by rw[h2],by rw[h1];rfl⟩
            clear b7 e7;by_cases hk:k<28
            all_goals
             go_wp2_with fail
             go_meet
             case rel=>exact⟨_,111,rfl,T5,Y,a6,d3⟩
       case rest =>
        obtain⟨E,v,rfl,T2,N,Q,M⟩:=hcut;have b4:u≠5->0<d:=fun h=>by
         have h0:=iL s[q] (T.drop (q+1));rw[<- Jc HG.out] at h0;have:=P0 (T.drop q) h0 (by rw[J.out];exact h);rw[J.out] at this;exact this
        have b3:=(Ji T n).2.2;rw[I.out,O.out.2] at b3;have g7:=a8.out;rcases M.out with⟨h5,hE,hv⟩|⟨h5,hb⟩
        ·have h7:=b4 h5;subst hE;have j2:((v:Int)==120)=false:=by
          rw[beq_eq_false_iff_ne];have f5:=(Ns T n).sort;have h3:(tkF T n).cl=u:=O.out.1;rw[h3] at f5;rcases f5 with e|e|e|e|e|e<;>rw[e] at hv h5<;>simp[Bn] at hv<;>omega
         have HV:Hid (v=Bn u):=hv;have i8:¬((q+d:Nat):Int)<=(q:Int):=by omega
         have x0:=Aa T2.out 0;have x1:=Aa T2.out 1;have x2:=Aa T2.out 2;have y1:=Ab T2.out 1;have j1:q+d<=s.size:=by omega
         have t:Hid (Ap (wc.setCell ⟨a,1,none⟩ (.string (s.extract q (q+d)))) a v (s.extract q (q+d)) (q:Int)):=T2.out.text _;have X:Hid ((wc.setCell ⟨a,1,none⟩ (.string (s.extract q (q+d)))).ownsRow w.heap.size 55 3 u3 n (Fa T n)):=Js N.out (fun g e=>((Fr.refl (·≠a) wc).set (by simp) _).block g ((N.out.lt g e).2) (m.out g e).1);have B:Hid (Fr (fun _=>True) w (wc.setCell ⟨a,1,none⟩ (.string (s.extract q (q+d))))):=Q.out.new1 a4 _ _;clear hv b4 M b3;go_upto_region 35 with fail
         generalize wc.setCell ⟨a,1,none⟩ (.string (s.extract q (q+d)))=W3 at t X B |-;clear x0 x1 x2 y1 T2 N Q;have x0:=Aa t.out 0;have x1:=Aa t.out 1;have x2:=Aa t.out 2;have f7:=B.out.size;have o:Hid ((W3.alloc (.cells #[.int .u8 (v:Int),.string (s.extract q (q+d)),.int .i64 (q:Int)] 55)).ownsRow w.heap.size 55 3 u3 n (Fa T n)):=X.out.alloc _;go_wp2_with (at_builtin;refine wpList_append_lies _ rfl _ _ 48 rfl _ 55 i0 _ 3 32 Tryz.underlying48 b9 c6 c7 c8 rfl (by decide) u3 _ (Fa T n) rfl o.out _ 1 1 [.int .u8 (v:Int),.string (s.extract q (q+d)),.int .i64 (q:Int)] rfl rfl (kK W3 _ _ _) (kL rfl rfl rfl) (by decide) (by unfold maxLen;omega) (by omega) (by simp;omega) (W3.heap.size+1) (by simp) ?_)
         intro g cap w3 ho D a0 G;have f8:Hid (w3.ownsRow w.heap.size 55 3 (.slice (some ⟨g,0,none⟩) (n+1) cap) (n+1) (Fa T (n+1))):=by
          show World.ownsRow _ _ _ _ _ _ _;have e1:Cf (tkF T n)=s.extract q (q+d):=by
           unfold Cf;rw[if_neg (by show ¬clF T n=5;rw[O.out.1];exact h5),Nc,HT.out];show ByteArray.mk (((T.drop (atF T n)).take (Lj T n)).toArray)=_;rw[I.out,O.out.2]
          rw[Iu,O.out.1,I.out,e1,<- HV.out];exact ho
         have f9:Hid (Fr (fun _=>True) w w3):=Fr.grownT B.out D fun k e=>(m.out k e).2;have g0:Hid (q+d=I1 T (n+1)):=by show _=_;rw[Nr,I.out,O.out.2]
         clear ho D a0 G o X B t x0 x1 x2;go_wp2_with fail
         go_roundg (gk-1)
         case measure=>omega
         case rel=>exact⟨n+1,q+d,rfl,by omega,by omega,by omega,g0,f8,f9⟩
        ·have d2:Hid (clF T n=5):=by show _=_;rw[O.out.1];exact h5
         have c9:Hid (∀(g cap:Nat)(w3:World),w3.ownsRow w.heap.size 55 3 (.slice (some ⟨g,0,none⟩) (n+1) cap) (n+1) (Fa T n++[.int .u8 120,.string ⟨#[]⟩,.int .i64 (q:Int)])->Fr (fun _=>True) w w3->Nf T w (.returned (.slice (some ⟨g,0,none⟩) (n+1) cap)) w3):=fun g cap w3 ho hf=>⟨n,g,cap,rfl,by omega,.inr d2.out,(ho.lt g rfl).1,Gr.owns (by rw[Iu,d2.out,I.out,Xx (.inr d2.out)];exact ho),hf⟩;have x0:=Aa T2.out 0;have y0:=Ab T2.out 0;clear b4 M b3;by_cases hE:E<=(q:Int)
         ·have t:Hid (Ap (wc.setCell ⟨a,0,none⟩ (.int .u8 120)) a 120 ⟨#[]⟩ (q:Int)):=T2.out.put 120;have X:Hid ((wc.setCell ⟨a,0,none⟩ (.int .u8 120)).ownsRow w.heap.size 55 3 u3 n (Fa T n)):=Js N.out (fun g e=>((Fr.refl (·≠a) wc).set (by simp) _).block g ((N.out.lt g e).2) (m.out g e).1);have B:Hid (Fr (fun _=>True) w (wc.setCell ⟨a,0,none⟩ (.int .u8 120))):=Q.out.new1 a4 _ _;clear hb;go_upto_region 32 with fail
          generalize wc.setCell ⟨a,0,none⟩ (.int .u8 120)=W3 at t X B |-;clear x0 y0 T2 N Q;have x0:=Aa t.out 0;have x1:=Aa t.out 1;have x2:=Aa t.out 2;have f7:=B.out.size;have o:Hid ((W3.alloc (.cells #[.int .u8 120,.string ⟨#[]⟩,.int .i64 (q:Int)] 55)).ownsRow w.heap.size 55 3 u3 n (Fa T n)):=X.out.alloc _;go_wp2_with (at_builtin;refine wpList_append_lies _ rfl _ _ 48 rfl _ 55 i0 _ 3 32 Tryz.underlying48 b9 c6 c7 c8 rfl (by decide) u3 _ (Fa T n) rfl o.out _ 1 1 [.int .u8 (120),.string ⟨#[]⟩,.int .i64 (q:Int)] rfl rfl (kK W3 _ _ _) (kL rfl rfl rfl) (by decide) (by unfold maxLen;omega) (by omega) (by simp;omega) (W3.heap.size+1) (by simp) ?_)
          intro g cap w3 ho D a0 G;have HH:Hid (Nf T w (.returned (.slice (some ⟨g,0,none⟩) (n+1) cap)) w3):=c9.out g cap w3 ho (Fr.grownT B.out D fun k e=>(m.out k e).2);clear ho D a0 G o X B t x0 x1 x2;go_wp2_with fail
          go_ret
          exact HH.out
         ·obtain rfl:v=120:=by rcases hb with h|h;exact absurd h hE;exact h
          have x1:=Aa T2.out 1;have x2:=Aa T2.out 2;have f7:=Q.out.size;have o:Hid ((wc.alloc (.cells #[.int .u8 120,.string ⟨#[]⟩,.int .i64 (q:Int)] 55)).ownsRow w.heap.size 55 3 u3 n (Fa T n)):=N.out.alloc _;clear hb;go_wp2_with (at_builtin;refine wpList_append_lies _ rfl _ _ 48 rfl _ 55 i0 _ 3 32 Tryz.underlying48 b9 c6 c7 c8 rfl (by decide) u3 _ (Fa T n) rfl o.out _ 1 1 [.int .u8 (120),.string ⟨#[]⟩,.int .i64 (q:Int)] rfl rfl (kK wc _ _ _) (kL rfl rfl rfl) (by decide) (by unfold maxLen;omega) (by omega) (by simp;omega) (wc.heap.size+1) (by simp) ?_)
          intro g cap w3 ho D a0 G;have HH:Hid (Nf T w (.returned (.slice (some ⟨g,0,none⟩) (n+1) cap)) w3):=c9.out g cap w3 ho (Fr.grownT Q.out D fun k e=>(m.out k e).2);clear ho D a0 G o N Q T2 x0 x1 x2;go_wp2_with fail
          go_ret
          exact HH.out
   ·obtain rfl:q=s.size:=by omega
    obtain rfl:s.size=A:=by have:=HQ.out;rw[kI (by have:=a8.out;omega)] at this;exact this
    have HC:Hid (clF T n=0/\Lj T n=0):=by
     unfold Hid clF Lj;rw[I.out,List.drop_of_length_le (by have:=a8.out;omega)];exact⟨rfl,rfl⟩
    have a3:((s.size:Int)==(s.size:Int))=true:=by simp
    clear HQ HA;have o:Hid ((wr.alloc (.cells #[.int .u8 101,.string ⟨#[]⟩,.int .i64 (s.size:Int)] 55)).ownsRow w.heap.size 55 3 u3 n (Fa T n)):=HO.out.alloc _;have a4:=HF.out.size;go_wp2_with (at_builtin;refine wpList_append_lies _ rfl _ _ 48 rfl _ 55 i0 _ 3 32 Tryz.underlying48 b9 c6 c7 c8 rfl (by decide) u3 _ (Fa T n) rfl o.out _ 1 1 [.int .u8 101,.string ⟨#[]⟩,.int .i64 (s.size:Int)] rfl rfl (kK wr _ _ _) (kL rfl rfl rfl) (by decide) (by unfold maxLen;omega) (by omega) (by simp;omega) (wr.heap.size+1) (by simp) ?_)
    intro g cap w3 ho D a0 G;have HE:Hid (Nf T w (.returned (.slice (some ⟨g,0,none⟩) (n+1) cap)) w3):=⟨n,g,cap,rfl,by have:=a8.out;omega,.inl HC.out.1,(ho.lt g rfl).1,Gr.owns (by rw[Iu,HC.out.1,I.out,Xx (.inl HC.out.1)];exact ho),Fr.grownT HF.out D fun k e=>(HO.out.lt k e).1⟩;clear ho D a0 G o HO;go_wp2_with fail
    go_ret
    exact HE.out
end Go.Proofs.YtjbfcadeapphbaaGreatDoor.Sx
