/- Rows put behind one another: the step. -/
import Derived.Test.YtdpeliifdlhhkaaGreatDoorM25
import Derived.Lib.AppendZeros
namespace Go.Proofs.YtdpeliifdlhhkaaGreatDoor.Sx
open Go.RowKit Go.Sort Tryz
set_option maxRecDepth 100000
set_option maxHeartbeats 4000000
/-- a row of values that can be read -/
def Src (w:World)(a:Option Addr)(n:Nat)(vs:List Value):Prop :=
 vs.length=n/\(∀u∈vs,u.oneCell'=true)/\(n=0\/∃b off,a=some ⟨b,off,none⟩/\b<w.heap.size/\∀j u,vs[j]?=some u->w.cell? ⟨b,off+j,none⟩=some u)
theorem Src.below {w w':World}{a:Option Addr}{n:Nat}{vs:List Value}(h:Src w a n vs)(hb:Below w.heap.size w w'):Src w' a n vs:=by
 obtain⟨f,g,i⟩:=h;refine⟨f,g,?_⟩;rcases i with h|⟨b,d,e,c,k⟩
 ·exact .inl h
 ·exact .inr ⟨b,d,e,Ad8 c hb.size,fun j u hu=>(hb.cell (p:=⟨b,d+j,none⟩) c).trans (k j u hu)⟩
theorem add_plain (b off j:Nat):(⟨b,off,none⟩:Addr).add j=⟨b,off+j,none⟩:=by unfold Addr.add;split<;>simp_all
theorem Hd {P:Program}(w:World)(base:Nat)(t ty e:TypeId)(i:TypeInfo)(size:Nat)(ht:P.underlying t=some (.slice e))(hi:P.info? e=some i)
  (v:Value) (n:Nat) (xs:List Value) (hown:w.ownsRow base e size v n xs) (x:Option Addr) (c:Nat) :
  (Builtin.append_ #[t,t] ty #[v,.slice x 0 c]).run P w=.ok v w:=by
 rcases hown.2 with⟨rfl,rfl⟩|⟨g,d,f,rfl,_,_,b,_⟩
 ·cases x with
  | none=>simp[Builtin.append_,run_underlying ht,sizeOf,typeInfo,hi,Builtin.lenOf,Builtin.firstCells]
  | some ad =>
   have a:=run_firstCells_some (P:=P) w i.size 0 ad 0 c [] (by simp) (by simp);simp[Builtin.append_,run_underlying ht,sizeOf,typeInfo,hi,Builtin.lenOf,a]
 ·cases x with
  | none=>simp[Builtin.append_,run_underlying ht,sizeOf,typeInfo,hi,Builtin.lenOf,Builtin.firstCells,b,storeCells]
  | some ad =>
   have a:=run_firstCells_some (P:=P) w i.size 0 ad 0 c [] (by simp) (by simp);simp[Builtin.append_,run_underlying ht,sizeOf,typeInfo,hi,Builtin.lenOf,a,b,storeCells]
theorem J4 (w:World)(r:Option Nat):w.grownBy w r:=⟨rfl,rfl,rfl,Ad9 _,fun _ _ _=>rfl⟩
theorem Bz (w:World){ops:Array Oper}{rest:List Oper}{o:Oper}{a:Act}{Q:Exit->Act->World->Prop}(hgd:o.guard=none)(s x:Operand)(t:TypeId)
  (ho:o.op=.call { callee:=.builtin .append,args:=#[s,x],argTypes:=#[t,t] })
  (base:Nat) (e:TypeId) (i:TypeInfo) (z:Value) (bytes:Nat) (ht:prog.underlying t=some (.slice e)) (hi:prog.info? e=some i) (hz:i.zero=some z)
  (hsize:i.size=1) (hby:i.bytes=bytes) (hzs:z.cells.size=1)
  (v:Value) (n:Nat) (xs:List Value) (hs:a.eval s=v) (hown:w.ownsRow base e 1 v n xs)
  (ad:Option Addr) (m c:Nat) (news:List Value) (hx:a.eval x=.slice ad m c) (hS:Src w ad m news) (h63:n+m<=maxLen) (hbytes:(n+m)*bytes<=140737488355328) (hbase:base<=w.heap.size)
  (h:∀v' w',w'.ownsRow base e 1 v' (n+m) (xs++news)->w.grownBy w' v.ownBlock->(v'.ownBlock=v.ownBlock\/v'.ownBlock=some w.heap.size)->wpList prog ops Q rest (a.put o.dst v') w'):wpList prog ops Q (o::rest) a w:=by
 obtain⟨l,y,r|⟨b,k,rfl,C,A⟩⟩:=hS
 ·subst r;obtain rfl:news=[]:=List.length_eq_zero_iff.1 l;refine Lib.wpList_append_run w hgd s x t t ho _ _ hs hx v w (Hd w base t o.type e i 1 ht hi v n xs hown ad c) ?_;exact h v w (by simpa using hown) (J4 w _) (.inl rfl)
 ·by_cases D:m=0
  ·subst D;obtain rfl:news=[]:=List.length_eq_zero_iff.1 l;refine Lib.wpList_append_run w hgd s x t t ho _ _ hs hx v w (Hd w base t o.type e i 1 ht hi v n xs hown _ c) ?_;exact h v w (by simpa using hown) (J4 w _) (.inl rfl)
  ·refine wpList_append_lies w hgd s x t ho base e i z 1 bytes ht hi hz hsize hby hzs (by decide) v n xs hs hown ⟨b,k,none⟩ m c news hx (by omega) (fun j u hu=>by rw[add_plain];exact A j u hu) y (by omega) h63 hbytes hbase w.heap.size rfl ?_;intro g p w' f B d _;exact h _ w' f B (d.elim (fun q=>.inl q.symm) (fun q=>.inr (by rw[q];rfl)))
theorem Gl (w:World){ops:Array Oper}{rest:List Oper}{o:Oper}{a:Act}{Q:Exit->Act->World->Prop}(hgd:o.guard=none)(s x:Operand)(t:TypeId)
  (ho:o.op=.call { callee:=.builtin .append,args:=#[s,x],argTypes:=#[t,t] })
  (base:Nat) (e:TypeId) (i:TypeInfo) (z:Value) (bytes:Nat) (ht:prog.underlying t=some (.slice e)) (hi:prog.info? e=some i) (hz:i.zero=some z)
  (hsize:i.size=1) (hby:i.bytes=bytes) (hzs:z.cells.size=1)
  (v:Value) (n:Nat) (xs:List Value) (hs:a.eval s=v) (hown:w.ownsRow base e 1 v n xs)
  (ad:Option Addr) (m c:Nat) (news:List Value) (hx:a.eval x=.slice ad m c) (hS:Src w ad m news) (h63:n+m<=maxLen) (hbytes:(n+m)*bytes<=140737488355328) (hbase:base<=w.heap.size)
  (h:∀v' w',w'.ownsRow base e 1 v' (n+m) (xs++news)->w.grownBy w' v.ownBlock->wpList prog ops Q rest (a.put o.dst v') w'):wpList prog ops Q (o::rest) a w :=
 Bz w hgd s x t ho base e i z bytes ht hi hz hsize hby hzs v n xs hs hown ad m c news hx hS h63 hbytes hbase fun v' w' h1 h2 _=>h v' w' h1 h2
theorem K9 {w w1 w2:World}{base n:Nat}{sl:Value}{xs:List Value}(hl:Below w.heap.size w w1)(hb:w.heap.size<=base)(ho:w1.ownsRow base 23 1 sl n xs)(hg:w1.grownBy w2 sl.ownBlock):Below w.heap.size w w2 :=
 ⟨hg.os.trans hl.os,hg.tape.trans hl.tape,hg.output.trans hl.output,Ae0 hl.size hg.size,fun j hj=>(hg.block j (Ad8 hj hl.size) (fun e=>by have:=(Vs ho e.symm).1;omega)).trans (hl.block j hj)⟩
theorem tL (n:Nat)(w:World)(hn:n<=4294967296):Calls prog 278 #[.slice none 0 0,.int .i64 (n:Int)] w fun e w'=>∃sl,e=.returned sl/\w'.ownsRow w.heap.size 23 1 sl 0 []/\Below w.heap.size w w':=by
 obtain⟨h,a,b,g,c⟩:=info_parts Gn;by_cases d:n=0
 ·subst d;go_enter func278,ntmps278
  go_wp2_with fail
  go_ret
  exact⟨_,rfl,World.ownsRow_nil _ _ _ _,Below.refl _ _⟩
 ·have f:=Lib.run_append_nil_zeros w 47 3 47 23 h _ .i64 .i64 underlying47 underlying3 a b n (by omega) (by omega) (by omega) (by rw[c];omega);have i:(0:Int)<(n:Int):=by omega
  have j:wrap64 (n:Int)=n:=by unfold wrap64;omega
  go_enter func278,ntmps278
  go_wp2_with (at_builtin;refine Lib.wpList_append_run _ rfl _ _ _ _ rfl _ _ rfl rfl _ _ f ?_)
  go_ret
  refine⟨_,rfl,⟨rfl,.inr ⟨_,_,_,rfl,Ad9 _,Af rfl,Ae1 _,grownCap_le_maxLen w n 0 23 (by unfold maxLen;omega),?_,rfl⟩⟩,((Ac.refl w).alloc _).drew.below⟩;have:=grownCap_ge w n 0 23;simp[size_zeroCells];omega
def J0 (n1 n2:Nat):Nat->Nat
 | 0=>0
 | 1=>n1
 | _=>n1+n2
def Ql (v1 v2:List Value):Nat->List Value
 | 0=>[]
 | 1=>v1
 | _=>v1++v2
theorem Xc (w:World)(g:Nat)(a1 a2:Option Addr)(n1 c1 n2 c2 cap:Nat)(v1 v2:List Value)(hg:w.heap[g]?=some (.cells #[.slice a1 n1 c1,.slice a2 n2 c2] 47 (0,0)))(h1:Src w a1 n1 v1)(h2:Src w a2 n2 v2)(hl1:n1<=1048576)(hl2:n2<=1048576) :
  Calls prog 218 #[.slice (some ⟨g,0,none⟩) 2 cap] w fun e w'=>∃sl,e=.returned sl/\w'.ownsRow w.heap.size 23 1 sl (n1+n2) (v1++v2)/\Below w.heap.size w w':=by
 obtain⟨z,h,j,l,m⟩:=info_parts Gn;obtain⟨D,E⟩:=Lf hg;have q:=Aa hg;have u:Hid (∀W,Calls _ 278 #[_,.int .i64 (_+_)] W _):=fun W=>by rw[<- Int.natCast_add];exact tL (n1+n2) W (by omega)
 have B:Hid (Src w a1 n1 v1):=h1;have C:Hid (Src w a2 n2 v2):=h2;clear h1 h2 hg;have I:wrap64 ((n1:Int)+(n2:Int))=((n1+n2:Nat):Int):=by unfold wrap64;omega
 have H:wrap64 ((n1:Int))=((n1:Nat):Int):=by unfold wrap64;omega
 go_enter func218,ntmps218
 go_wp2_with fail
 go_loopw [3,11] (fun sz i wr=>∃k:Nat,k<=2/\sz=.int .i64 ((J0 n1 n2 k:Nat):Int)/\i=.int .i64 k/\w=wr) (fun _ i _=>2-(intOf i).toNat)
 case atStart=>exact⟨0,by omega,rfl,rfl,rfl⟩
 case round =>
  obtain⟨k,F,rfl,rfl,rfl⟩:=hrel;rcases(show k=0\/k=1\/k=2 by omega) with rfl|rfl|rfl
  ·show Code.wp _ _ _ _ _;simp only[J0];go_wp2_with fail
   go_roundw
   case rel=>exact⟨1,by omega,by simp,by go_num,by simp⟩
   case measure=>simp[intOf]
  ·simp only[J0];go_wp2_with fail
   go_roundw
   case rel=>exact⟨2,by omega,by simp,by go_num,by simp⟩
   case measure=>simp[intOf]
  ·simp only[J0];go_wp2_with fail
   refine(u.out w).mono ?_;rintro e A ⟨sl,rfl,d,y⟩;have x:Hid (A.ownsRow _ 23 1 sl 0 []):=d;have v:Hid (Below w.heap.size w A):=y;clear d y u;go_wp2_with fail
   go_loopw [6,27] (fun sl i wr=>∃k:Nat,k<=2/\i=.int .i64 k/\Hid (wr.ownsRow w.heap.size 23 1 sl (J0 n1 n2 k) (Ql v1 v2 k))/\Hid (Below w.heap.size w wr)) (fun _ i _=>2-(intOf i).toNat)
   case atStart=>exact⟨0,by omega,rfl,x,v⟩
   case round =>
    clear x v;obtain⟨k,F,rfl,b,a⟩:=hrel;rcases(show k=0\/k=1\/k=2 by omega) with rfl|rfl|rfl
    ·have c:=b;have f:Hid (Src wr a1 n1 v1):=B.out.below a.out;have t:wr.cell? _=some (.slice a1 n1 c1):=(a.out.cell (p:=⟨g,0,none⟩) q).trans D;have G:=Ad8 q a.out.size;clear b;go_wp2_with (at_builtin;refine Gl _ rfl _ _ 47 rfl _ 23 z _ 16 underlying47 h j l m rfl u6 _ _ rfl c.out a1 n1 c1 v1 rfl f.out ?q3 ?q4 a.out.size ?_)
     case q3=>simp only[J0];unfold maxLen;omega
     case q4=>simp only[J0];omega
     intro n o d hg;have s:Hid (o.ownsRow w.heap.size 23 1 n (J0 n1 n2 1) (Ql v1 v2 1)):=by
      show o.ownsRow w.heap.size 23 1 n (J0 n1 n2 1) (Ql v1 v2 1);simpa [J0,Ql] using d
     have r:Hid _:=K9 a.out (Ad9 _) c.out hg;clear d hg c a f t;go_wp2_with fail
     go_roundw
     case rel=>exact⟨1,by omega,by go_num,s,r⟩
     case measure=>simp[intOf]
    ·have c:=b;have f:Hid (Src wr a2 n2 v2):=C.out.below a.out;have t:wr.cell? _=some (.slice a2 n2 c2):=(a.out.cell (p:=⟨g,1,none⟩) q).trans E;have G:=Ad8 q a.out.size;clear b;go_wp2_with (at_builtin;refine Gl _ rfl _ _ 47 rfl _ 23 z _ 16 underlying47 h j l m rfl u6 _ _ rfl c.out a2 n2 c2 v2 rfl f.out ?q3 ?q4 a.out.size ?_)
     case q3=>simp only[J0];unfold maxLen;omega
     case q4=>simp only[J0];omega
     intro n o d hg;have s:Hid (o.ownsRow w.heap.size 23 1 n (J0 n1 n2 2) (Ql v1 v2 2)):=by
      show o.ownsRow w.heap.size 23 1 n (J0 n1 n2 2) (Ql v1 v2 2);simpa [J0,Ql] using d
     have r:Hid _:=K9 a.out (Ad9 _) c.out hg;clear d hg c a f t;go_wp2_with fail
     go_roundw
     case rel=>exact⟨2,by omega,by go_num,s,r⟩
     case measure=>simp[intOf]
    ·have c:Hid (wr.ownsRow _ 23 1 u6 (n1+n2) (v1++v2)):=b;clear b;go_wp2_with fail
     go_ret
     exact⟨_,rfl,c.out,a.out⟩
/-- the values that stand in a row -/
def Ey (P:Nat->Prop)(w:World)(n:Nat)(es:List (AV n))(vs:List Value):Prop:=vs.length=es.length/\∀(i:Nat)(x:AV n),es[i]?=some x->∃v,vs[i]?=some v/\Aj P w n x v
theorem Jf {P:Nat->Prop}{w:World}{n:Nat}{a:Option Addr}{len:Nat}{es:List (AV n)}{Q0:Nat->Prop}(h:Bv Q0 w (Aj P w n) a len es):∃vs,Src w a len vs/\Ey P w n es vs:=by
 obtain⟨p,y,g|⟨b,c,rfl,f,q,s⟩⟩:=h
 ·obtain rfl:es=[]:=List.length_eq_zero_iff.1 (by omega);exact⟨[],⟨by simp[g],by simp,.inl g⟩,rfl,by simp⟩
 ·obtain⟨t,l,m,o⟩:=aG es c s;subst l;refine⟨t.map Fc.v,⟨by rw[p];simp,?_,.inr ⟨b,c,rfl,f,?_⟩⟩,by simp,?_⟩
  ·intro u e;obtain⟨r,_,rfl⟩:=List.mem_map.1 e;exact r.h.one
  ·intro j u e;rw[List.getElem?_map] at e;obtain⟨r,d,rfl⟩:=Option.map_eq_some_iff.1 e;exact m j r d
  ·intro i x k;rw[List.getElem?_map] at k;obtain⟨r,d,rfl⟩:=Option.map_eq_some_iff.1 k;exact⟨r.v,by rw[List.getElem?_map,d];rfl,o r (Ae4 d)⟩
theorem Ey.app {P:Nat->Prop}{w:World}{n:Nat}{es fs:List (AV n)}{vs us:List Value}(h1:Ey P w n es vs)(h2:Ey P w n fs us):Ey P w n (es++fs) (vs++us):=by
 refine⟨by rw[List.length_append,List.length_append,h1.1,h2.1],fun i x hx=>?_⟩;rcases Nat.lt_or_ge i es.length with h|h
 ·rw[List.getElem?_append_left h] at hx;obtain⟨v,a,b⟩:=h1.2 i x hx;exact⟨v,by rw[List.getElem?_append_left (by rw[h1.1];exact h)];exact a,b⟩
 ·rw[List.getElem?_append_right h] at hx;obtain⟨v,a,b⟩:=h2.2 _ x hx;exact⟨v,by rw[List.getElem?_append_right (by rw[h1.1];exact h),h1.1];exact a,b⟩
theorem Ey.fr {P Q:Nat->Prop}{w w':World}{n:Nat}{es:List (AV n)}{vs:List Value}(h:Ey P w n es vs)(hf:Fr P w w')(hQ:∀k,k<w.heap.size->P k->Q k):Ey Q w' n es vs :=
 ⟨h.1,fun i x hx=>by obtain⟨v,a,b⟩:=h.2 i x hx;exact⟨v,a,b.fr hf hQ n x v⟩⟩
theorem Pf {P:Nat->Prop}{W w:World}{n base len:Nat}{es:List (AV n)}{vs:List Value}{sl:Value}(ho:w.ownsRow base 23 1 sl len vs)(hv:Ey P w n es vs)(hl:len<=4294967296)(hP:∀k,base<=k->P k)(_:W=W):∃a cap,sl=.slice a len cap/\Gm a len cap/\Bv P w (Aj P w n) a len es:=by
 have b:len=es.length:=by have:=ho.1;have:=hv.1;omega
 have c:=ho;rcases ho.2 with⟨rfl,e⟩|⟨g,cap,d,rfl,m,j,l,_⟩
 ·subst e;exact⟨none,0,rfl,⟨Ad9 _,fun _=>rfl,.inl rfl⟩,b,hl,.inl rfl⟩
 ·refine⟨_,cap,rfl,⟨l,by simp,.inr ⟨g,0,rfl⟩⟩,b,hl,.inr ⟨g,0,rfl,Aa j,hP g m,fun i x hx=>?_⟩⟩;obtain⟨v,f,h⟩:=hv.2 i x hx;refine⟨v,?_,h⟩;rw[Nat.zero_add,c.cellAt i (by have:=(List.getElem?_eq_some_iff.1 hx).1;omega)];exact f
theorem Zw (w:World)(a:Option Addr)(len cap:Nat)(vs:List Value)(h:Src w a len vs)(hs:Gm a len cap)(hl:len<=4294967296) :
  Calls prog 237 #[.slice a len cap] w fun e w'=>∃sl,e=.returned sl/\w'.ownsRow w.heap.size 23 1 sl len vs/\Below w.heap.size w w':=by
 rcases hs.2.2 with rfl|⟨b,d,rfl⟩
 ·obtain rfl:=hs.2.1 rfl;obtain rfl:vs=[]:=List.length_eq_zero_iff.1 h.1;refine(Yv 0 cap w).mono ?_;rintro e w' ⟨rfl,rfl⟩;exact⟨_,rfl,World.ownsRow_nil _ _ _ _,Below.refl _ _⟩
 ·obtain⟨r,o,i,k,l⟩:=info_parts Gn;have f:∀j u,vs[j]?=some u->w.cell? ⟨b,d+j,none⟩=some u:=by
   intro j u g;rcases h.2.2 with v|⟨t,m,e,_,f⟩
   ·have:vs=[]:=List.length_eq_zero_iff.1 (by have:=h.1;omega);rw[this] at g;simp at g
   ·simp only[Option.some.injEq,Addr.mk.injEq,and_true] at e;obtain⟨rfl,rfl⟩:=e;exact f j u g
  have c:=AnyE.slices_Clone Tryz.cloneV r _ 1 16 o i k l rfl (by decide) (fun w=>by kernel_rfl) b d len cap vs w (by have:=h.1;omega) (by unfold maxLen;omega) (by omega) f h.2.1;change Calls prog 237 _ _ _ at c;refine c.mono ?_;rintro e w' ⟨s,rfl,q,p,n⟩;exact⟨s,rfl,q,n⟩
theorem pJ (n:Nat)(P:Nat->Prop)(w:World)(b1 b2:Nat)(es fs:List (AV n))(h1:Dy P w (Aj P w n) (wt n) b1 es)(h2:Dy P w (Aj P w n) (wt n) b2 fs)(hw:∀x∈es++fs,wt n x<=1024)(hl1:es.length<=1048576)(hl2:fs.length<=1048576)(hP:∀k,w.heap.size<=k->P k) :
  Calls prog 217 #[.pointer (some ⟨b1,0,none⟩),.pointer (some ⟨b2,0,none⟩)] w (Bd P w (n+1) (mkS (wt n) (Eo (Al n) (es++fs)))):=by
 obtain⟨_,s,c,C,F,L⟩:=h1;obtain⟨_,t,d,D,G,M⟩:=h2;obtain⟨v1,X,Z⟩:=Jf L;obtain⟨v2,Y,V2⟩:=Jf M;have x1:c=es.length:=L.1;have x2:d=fs.length:=M.1;have y1:=Ab F 0;have y2:=Ab G 0;have z1:=Aa F;have z2:=Aa G;have A:Hid _:=hP;have S:Hid _:=hw;have T:Hid (Src w s c v1):=X;have U:Hid (Src w t d v2):=Y;have V:Hid (Ey P w n _ _):=Z.app V2;have I:c<=1048576:=by omega
 have J:d<=1048576:=by omega
 have z:Hid (c+d=(es++fs).length):=by show _=_;simp;omega
 clear X Y Z V2 L M F G hP hw hl1 hl2 x1 x2;have mo:=follows;have i:Hid (Ac w (w.alloc (.cells #[.nilIface] 23))):=(Ac.refl w).alloc _;have X0:Hid ((w.alloc (.cells #[.nilIface] 23)).heap[w.heap.size]?=_):=Af rfl;have y:Hid (∀(W:World)(g:Nat),Ac w W->W.heap[w.heap.size]?=some (.cells #[.nilIface] 23 (0,0))->W.heap[g]?=some (.cells #[.slice s c C,.slice t d D] 47 (0,0)) ->
   Calls prog 218 #[.slice (some ⟨g,0,none⟩) 2 2] W fun e w1=>∃a b,e=.returned (.slice a (c+d) b)/\Below w.heap.size w w1/\w1.heap[w.heap.size]?=some (.cells #[.nilIface] 23 (0,0)) /\
    Calls prog 211 #[.slice a (c+d) b] w1 fun e w'=>∃v,e=.returned (.agg #[v])/\Aj (fun k=>P k/\k≠w.heap.size) w' (n+1) (mkS (wt n) (Eo (Al n) (es++fs))) v/\Below w1.heap.size w1 w'):=by
  intro W g u hX hY;refine(Xc W g s t c C d D 2 v1 v2 hY (T.out.below u.below) (U.out.below u.below) I J).mono ?_;rintro e w1 ⟨sl,rfl,ho,H⟩;have a3:=Aa hX;have l:=u.below.trans (H.mono u.below.size);have B:Ey (fun k=>P k/\k≠w.heap.size) w1 n _ _:=V.out.fr (Fr.below l) (fun k hk hp=>⟨hp,by omega⟩);obtain⟨a,b,rfl,o,m⟩:=Pf (W:=w) ho B (by omega) (fun k hk=>⟨A.out k (by omega),by omega⟩) rfl;have a0:=H.size;exact⟨a,b,rfl,l,Ac1 H hX,J7 n _ w1 a _ b _ (by omega) o.2.2 m (fun k hk=>⟨A.out k (by omega),by omega⟩) S.out o.2.1⟩
 clear V T U S z A;go_enter func217,ntmps217
 go_wp2_with fail
 have d1:(w.alloc (.cells #[.nilIface] 23)).drew.cell? _=some (.slice s c C):=(i.out.below.cell (p:=⟨b1,0,none⟩) z1).trans y1;have d2:(w.alloc (.cells #[.nilIface] 23)).drew.cell? _=some (.slice t d D):=(i.out.below.cell (p:=⟨b2,0,none⟩) z2).trans y2;have O:=Ad8 z1 i.out.below.size;have Q:=Ad8 z2 i.out.below.size;clear y1 y2;generalize w.alloc _=W0 at i X0 d1 d2 O Q |-;go_region_with (first
  | (go_at_call 218;refine(y.out _ _ ?_ ?_ ?_).mono ?_;exact(i.out.drew).alloc _;exact Ac1 ((Ac.refl _).alloc _).below (show _[_]?=_ from X0.out);exact Af rfl;rintro e w1 ⟨a,b,rfl,hl1,q,f⟩;have l:Hid (Below w.heap.size w w1):=hl1;have X1:Hid _:=q;have HN:Hid (Calls _ 211 #[_] w1 _):=f;clear hl1 q f)
  | (go_at_call 211;refine HN.out.mono ?_;rintro e N ⟨v,rfl,K,h⟩;have st:=Ae (K.rep _ _ _).one;have R:Hid (Aj _ N (n+1) _ v):=K;have j:Hid (Below w1.heap.size w1 N):=h;have r:Hid _:=Ac1 h X1.out;have r0:=Ab r.out 0;have s0:=Ad r.out 0;have zw:=Aa r.out;clear K h))
 all_goals have E:=A6 (l.out.trans (j.out.mono l.out.size)) R.out
 all_goals have HE:Hid (Bd P w (n+1) _ _ _):=⟨v,rfl,E.1,E.2⟩
 all_goals have XF:Hid ((N.setCell ⟨w.heap.size,0,none⟩ v).heap[w.heap.size]?=some (.cells #[v] 23 (0,0))):=Ai r.out 0 v
 all_goals clear E R j
 all_goals go_wp2_with fail
 all_goals have k0:=Ab XF.out 0
 all_goals exact Ae2 (by simp[results,results217,go_sem,k0]) rfl HE.out
theorem fC (n:Nat)(P:Nat->Prop)(w:World)(b d:Nat)(ks us:List (AV n))(o:Value)(h:FnP P w (Aj P w n) (Au n) (wt n) b d ks us)(hw:∀x∈us,wt n x<=1024)(hP:∀k,w.heap.size<=k->P k) :
  Calls prog 234 #[.pointer (some ⟨b,0,none⟩),o] w (Bd P w (n+1) (mkS (wt n) (Eo (Al n) us))):=by
 obtain⟨_,C,y,a,i,p,q,c,g⟩:=h;have H:=Ab q 1;have M:=Aa q;have r:i<=4294967296:=c.2.1;have j:Hid (Ac w (w.alloc (.cells #[.nilIface] 23))):=(Ac.refl w).alloc _;have u:Hid ((w.alloc (.cells #[.nilIface] 23)).heap[w.heap.size]?=_):=Af rfl;have G:(w.alloc (.cells #[.nilIface] 23)).heap.size=w.heap.size+1:=by simp
 have t:Hid (Calls _ 211 #[_] _ fun e w'=>∃v,e=_/\Aj (fun k=>P k/\k≠w.heap.size) w' (n+1) _ v/\_) :=
  J7 n _ _ a i p us r g.2.2 (c.fr (Fr.grew j.out) (fun x v=>Aj.fr (Fr.grew j.out) (fun k hk hp=>⟨hp,by omega⟩) n x v) (fun _ _ _=>trivial)) (fun k hk=>⟨hP k (by omega),by omega⟩) hw g.2.1
 have m:Hid _:=j.out.below;clear q C c g hw hP j;have I:=follows;go_enter func234,ntmps234
 go_wp2_with fail
 generalize w.alloc _=W0 at u G t m |-;have A:Hid (W0.heap[w.heap.size]?=_):=u;refine t.out.mono ?_;rintro e F ⟨v,rfl,s,f⟩;have L:=Ae (s.rep _ _ _).one;have E:=A6 (m.out.trans (f.mono m.out.size)) s;have z:Hid (Bd P w (n+1) _ _ _):=⟨v,rfl,E.1,E.2⟩;have l:Hid _:=Ac1 f A.out;have B:Hid ((F.setCell ⟨w.heap.size,0,none⟩ v).heap[w.heap.size]?=some (.cells #[v] 23 (0,0))):=Ai l.out 0 v;have J:=Ab l.out 0;have K:=Ad l.out 0;have N:=Aa l.out;clear E f s;go_wp2_with fail
 have D:=Ab B.out 0;exact Ae2 (by simp[results,results234,go_sem,D]) rfl z.out
theorem pK (n:Nat)(P:Nat->Prop)(w:World)(a:Option Addr)(cap:Nat)(o:Value) :
  Calls prog 241 #[.slice a 0 cap,o] w (Bd P w (n+1) (Ar:Ag (AV n))):=by
 go_enter func241,ntmps241
 go_wp2_with fail
 exact Ae2 (by simp[results,results241,go_sem]) rfl (Cw (Gk P _ n))
theorem tM {P:Nat->Prop}{w:World}{n:Nat}{a:Option Addr}{len cap:Nat}{x:AV n}{us:List (AV n)}(h:Bv P w (Aj P w n) a (len+1) (x::us))(hsh:Gm a (len+1) cap):∃b off off',a=some ⟨b,off,none⟩/\(if cap=1 then off else off+1)=off'/\Bv P w (Aj P w n) (some ⟨b,off',none⟩) len us/\Gm (some ⟨b,off',none⟩) len (cap-1):=by
 obtain⟨g,l,k|⟨b,off,rfl,d,c,j⟩⟩:=h
 ·omega
 ·refine⟨b,off,_,rfl,rfl,⟨by simpa using g,by omega,?_⟩,by have:=hsh.1;omega,by simp,.inr ⟨_,_,rfl⟩⟩;rcases Nat.eq_zero_or_pos len with q|q
  ·exact .inl q
  ·refine .inr ⟨b,_,rfl,d,c,fun i y hy=>?_⟩;obtain⟨v,e,f⟩:=j (i+1) y (by simpa using hy);have:=hsh.1;refine⟨v,?_,f⟩;rw[if_neg (by omega),show off+1+i=off+(i+1) from by omega];exact e
theorem tO (m:Nat)(P:Nat->Prop)(w:World)(a:Option Addr)(len cap:Nat)(x:AV (m+1))(us:List (AV (m+1)))(o:Value)(h:Bv P w (Aj P w (m+1)) a (len+1) (x::us))(hsh:Gm a (len+1) cap)(hl:len<=1048576)(hw:∀x∈us,wt (m+1) x<=1024)(hP:∀k,w.heap.size<=k->P k) :
  Calls prog 241 #[.slice a (len+1) cap,o] w (Bd P w (m+2) (mkF (wt (m+1)) (Aq m len) us)):=by
 obtain⟨b,D,r,rfl,q,c,g⟩:=tM h hsh;have B:=Sj b D len cap;rw[q] at B;obtain⟨u,K,L⟩:=Jf c;have I:Hid (Src w _ len u):=K;have J:Hid (Ey P w (m+1) us u):=L;have G:Hid _:=hP;have H:Hid _:=hw;have l:Hid (Gm _ len _):=g;have j:Hid (Ac w (w.alloc (.cells #[.nilIface] 23))):=(Ac.refl w).alloc _;have z:Hid ((w.alloc (.cells #[.nilIface] 23)).heap[w.heap.size]?=_):=Af rfl;have N:(w.alloc (.cells #[.nilIface] 23)).heap.size=w.heap.size+1:=by simp
 have X:(((len+1:Nat):Int)==0)=false:=by simp;omega
 clear h hsh K L hw hP c g q;have Y:=follows;go_enter func241,ntmps241
 go_wp2_with fail
 generalize w.alloc _=W0 at z N j |-;refine(Zw W0 (some ⟨b,r,none⟩) len (cap-1) u (I.out.below j.out.below) l.out (by omega)).mono ?_;rintro e F ⟨sl,rfl,M,t⟩;have y:Hid _:=j.out.below.trans (t.mono j.out.below.size);have R:Hid _:=Ac1 t z.out;have n:Ey (fun k=>P k/\k≠w.heap.size) F (m+1) us u:=J.out.fr (Fr.below y.out) (fun k hk hp=>⟨hp,by omega⟩);obtain⟨T,p,rfl,f,d⟩:=Pf (W:=w) M n (by omega) (fun k hk=>⟨G.out k (by omega),by omega⟩) rfl;have C:=t.size;have Q:Hid (Calls _ 236 #[_] F _):=E5 m _ F T len p us (by omega) d (fun k hk=>⟨G.out k (by omega),by omega⟩) H.out f;clear M t n f d C J I H l z N j;go_wp2_with fail
 refine Q.out.mono ?_;rintro e V ⟨v,rfl,A,i⟩;have st:=Ae (A.rep _ _ _).one;have E:=A6 (y.out.trans (i.mono y.out.size)) A;have O:Hid (Bd P w (m+2) _ _ _):=⟨v,rfl,E.1,E.2⟩;have s:Hid _:=Ac1 i R.out;have S:Hid ((V.setCell ⟨w.heap.size,0,none⟩ v).heap[w.heap.size]?=some (.cells #[v] 23 (0,0))):=Ai s.out 0 v;have Z:=Ab s.out 0;have s0:=Ad s.out 0;have zw:=Aa s.out;clear E i A;go_wp2_with fail
 have U:=Ab S.out 0;exact Ae2 (by simp[results,results241,go_sem,U]) rfl O.out
theorem yH (m:Nat)(P:Nat->Prop)(w:World)(a1 a2:Option Addr)(n1 c1 n2 c2:Nat)(es fs:List (AV (m+1)))(r1:Bv P w (Aj P w (m+1)) a1 n1 es){Q0:Nat->Prop}(r2:Bv Q0 w (Aj P w (m+1)) a2 n2 fs)(hw:∀x∈es++fs,wt (m+1) x<=1024)(hn1:n1<=524288)(hn2:n2<=524288)(hP:∀k,w.heap.size<=k->P k) :
  ∀(W:World)(g:Nat),Ac w W->W.heap[w.heap.size]?=some (.cells #[.nilIface] 23 (0,0))->W.heap[g]?=some (.cells #[.slice a1 n1 c1,.slice a2 n2 c2] 47 (0,0)) ->
   Calls prog 218 #[.slice (some ⟨g,0,none⟩) 2 2] W fun e w1=>∃a cap,e=.returned (.slice a (n1+n2) cap)/\Below w.heap.size w w1/\w1.heap[w.heap.size]?=some (.cells #[.nilIface] 23 (0,0)) /\
    Calls prog 236 #[.slice a (n1+n2) cap] w1 fun e w'=>∃v,e=.returned (.agg #[v])/\Aj (fun k=>P k/\k≠w.heap.size) w' (m+2) (mkF (wt (m+1)) (Aq m (n1+n2)) (es++fs)) v/\Below w1.heap.size w1 w':=by
 obtain⟨u,l,o⟩:=Jf r1;obtain⟨y,n,p⟩:=Jf r2;intro W g c j q;refine(Xc W g a1 a2 n1 c1 n2 c2 2 u y q (l.below c.below) (n.below c.below) (by omega) (by omega)).mono ?_;rintro e w1 ⟨z,rfl,r,f⟩;have t:=Aa j;have i:=c.below.trans (f.mono c.below.size);have d:Ey (fun k=>P k/\k≠w.heap.size) w1 (m+1) _ _:=(o.app p).fr (Fr.below i) (fun k hk hp=>⟨hp,by omega⟩);obtain⟨a,cap,rfl,h,b⟩:=Pf (W:=w) r d (by omega) (fun k hk=>⟨hP k (by omega),by omega⟩) rfl;have s:=f.size;exact⟨a,cap,rfl,i,Ac1 f j,E5 m _ w1 a _ cap _ (by omega) b (fun k hk=>⟨hP k (by omega),by omega⟩) hw h⟩
theorem fD (n m:Nat)(P:Nat->Prop)(w:World)(a1:Option Addr)(n1 c1 c2 b off:Nat)(y:Ag (AV n))(v:Value)(hb:b<w.heap.size)(hc:w.cell? ⟨b,off,none⟩=some v)(hv:Aj P w (n+1) y v)(hn:¬(y.kind=6/\A7 (Au n) y.keys=true)) :
  Calls prog 243 #[.slice a1 n1 c1,.slice (some ⟨b,off,none⟩) 1 c2] w (Bd P w (m+1) (Ar:Ag (AV m))):=by
 have r:=Ae (hv.rep _ _ _).one;rcases sX hv with⟨s,u,e,q,-,p⟩|⟨e,p⟩
 ·have g:A7 (Au n) y.keys=false:=by
   cases k:A7 (Au n) y.keys with
   | false=>rfl
   | true=>exact absurd ⟨by rw[e];rfl,k⟩ hn
  obtain⟨_,j,h,a,l,i,d,c,f⟩:=q;rw[g] at d;have t:=Ab d 3;have x:=Aa d;clear d j c f hv hn g e;have o:=follows;go_enter func243,ntmps243
  go_wp2_with fail
  exact Ae2 (by simp[results,results243,go_sem]) rfl (Cw (Gk P _ m))
 ·clear hv hn;have o:=follows;go_enter func243,ntmps243
  go_wp2_with fail
  exact Ae2 (by simp[results,results243,go_sem]) rfl (Cw (Gk P _ m))
theorem kE (m:Nat)(P:Nat->Prop)(w:World)(a1:Option Addr)(n1 c1 c2 b off:Nat)(es:List (AV (m+1)))(y:Ag (AV (m+1)))(v:Value)(hb:b<w.heap.size)(hc:w.cell? ⟨b,off,none⟩=some v)(hv:Aj P w (m+2) y v)(hk6:y.kind=6)(hk:A7 (Au (m+1)) y.keys=true)(r1:Bv P w (Aj P w (m+1)) a1 n1 es)(hw:∀x∈es++y.vals,wt (m+1) x<=1024)(hn1:n1<=524288)(hn2:y.vals.length<=524288)(hP:∀k,w.heap.size<=k->P k) :
  Calls prog 243 #[.slice a1 n1 c1,.slice (some ⟨b,off,none⟩) 1 c2] w (Bd P w (m+2) (mkF (wt (m+1)) (Aq m (n1+y.vals.length)) (es++y.vals))):=by
 have Q:=Ae (hv.rep _ _ _).one;rcases sX hv with⟨T,U,r,O,-,N⟩|⟨r,N⟩
 ·obtain⟨_,L,j,I,B,g,h,u,t⟩:=O;rw[hk] at h;have J:=Ab h 3;have q:=Ab h 1;have Z:=Aa h;have A:B=y.vals.length:=u.1;have f:Hid _:=yH m P w a1 I n1 c1 B g es y.vals r1 u hw hn1 (by omega) hP;rw[<- A];have o:Hid (Ac w (w.alloc (.cells #[.nilIface] 23))):=(Ac.refl w).alloc _;have p:Hid ((w.alloc (.cells #[.nilIface] 23)).heap[w.heap.size]?=_):=Af rfl;clear h L r1 u t hv hk hw hP j r A hk6 hn2;have V:=follows;go_enter func243,ntmps243
  go_wp2_with fail
  clear q J;have S:w.heap.size+1=(w.alloc (.cells #[.nilIface] 23)).heap.size:=by simp
  rw[S];generalize w.alloc _=W0 at p o |-;refine(f.out _ _ ?_ ?_ ?_).mono ?_
  ·exact o.out.alloc _
  ·exact Ac1 ((Ac.refl _).alloc _).below p.out
  ·exact Af rfl
  rintro e C ⟨a,K,rfl,i,l,c⟩;have z:Hid (Below w.heap.size w C):=i;have G:Hid _:=l;have F:Hid (Calls _ 236 #[_] C _):=c;clear i l c f p o;go_wp2_with fail
  refine F.out.mono ?_;rintro e R ⟨v,rfl,s,d⟩;have Y:=Ae (s.rep _ _ _).one;have E:=A6 (z.out.trans (d.mono z.out.size)) s;have D:Hid (Bd P w (m+2) _ _ _):=⟨v,rfl,E.1,E.2⟩;have n:Hid _:=Ac1 d G.out;have H:Hid ((R.setCell ⟨w.heap.size,0,none⟩ v).heap[w.heap.size]?=some (.cells #[v] 23 (0,0))):=Ai n.out 0 v;have W:=Ab n.out 0;have X:=Ad n.out 0;have zw:=Aa n.out;clear E d s;go_wp2_with fail
  have M:=Ab H.out 0;exact Ae2 (by simp[results,results243,go_sem,M]) rfl D.out
 ·exact absurd hk6 r
section
attribute [local go_sem] Na Nb Jq Jr Fy Fz Ga Gb Ln Nc I6 I7 Fe Ff Fg Fh Hr Hs Gc Gd Ea Eb Ec Ed Ht Hu Ge Gf Ee Ef Eg Eh Gw Hv Fj Fk Dq Dr Ds Dt Gx Hw Fl Fm Du Dv Dw Dx
theorem tP (g:Nat)(fv:Value)(w:World):Calls prog 340 #[.slice (some ⟨g,0,none⟩) 0 0,.int .i64 0,.int .i64 0,fv] w fun e w'=>e=.returned (.tuple #[])/\w'=w:=by
 go_enter func340,ntmps340
 go_wp2_with fail
 go_loopw [8] (fun i wr=>i=.int .i64 1/\Hid (wr=w)) (fun _ _=>0)
 case atStart=>exact⟨rfl,rfl⟩
 case round =>
  obtain⟨rfl,a⟩:=hrel;go_wp2_with fail
  go_end0
  exact⟨rfl,a.out⟩
theorem fF (g:Nat)(fv:Value)(w:World):Calls prog 324 #[.slice (some ⟨g,0,none⟩) 0 0,.int .i64 0,fv] w fun e w'=>e=.returned (.tuple #[])/\w'=w:=by
 have b:Hid _:=fun W=>tP g fv W;go_enter func324,ntmps324
 go_wp2_with fail
 go_loopw [7,8] (fun s t wr=>s=.int .i64 0/\t=.int .i64 20/\Hid (wr=w)) (fun _ _ _=>0)
 case atStart=>exact⟨rfl,rfl,rfl⟩
 case round =>
  obtain⟨rfl,rfl,a⟩:=hrel;go_wp2_with (go_at_call 340;refine(b.out _).mono ?_;rintro e w' ⟨rfl,c⟩;cases c)
  go_loopw [6,7,8,9] (fun s _ _ _ wr'=>s=.int .i64 20/\Hid (wr'=w)) (fun _ _ _ _ _=>0)
  case atStart=>exact⟨rfl,a⟩
  case round =>
   clear a;obtain⟨rfl,a⟩:=hrel;go_wp2_with fail
   go_end0
   exact⟨rfl,a.out⟩
theorem Uj (g:Nat)(fv:Value)(w:World):Calls prog 302 #[.slice (some ⟨g,0,none⟩) 0 0,fv] w fun e w'=>e=.returned (.tuple #[])/\w'=w:=by
 have a:Hid (Calls _ _ _ _ _):=fF g fv w;go_enter func302,ntmps302
 go_wp2_with fail
 refine a.out.mono ?_;rintro e w' ⟨rfl,b⟩;cases b
 go_wp2_with fail
 go_end0
 exact⟨rfl,rfl⟩
theorem X8 (g:Nat)(fv:Value)(w:World):Calls prog 304 #[.slice (some ⟨g,0,none⟩) 0 0,fv] w fun e w'=>e=.returned (.slice (some ⟨g,0,none⟩) 0 0)/\w'=w:=by
 go_enter func304,ntmps304
 go_wp2_with fail
 go_ret
 exact⟨rfl,rfl⟩
theorem Uk (g n:Nat)(P:Nat->Prop)(w:World)(hP:∀k,w.heap.size<=k->P k) :
  Calls prog 267 #[.slice (some ⟨g,0,none⟩) 0 0] w fun e w'=>∃v,e=.returned (.agg #[v])/\Aj P w' (n+1) (mkP (wt n) (Dp (Al n) [])) v/\Below w.heap.size w w':=by
 have Y:Hid _:=hP;have z:Hid _:=Uj g;have A:Hid _:=X8 g;have y:Hid (mkP (wt n) (Dp (Al n) [])=mkF (wt n) [] []):=by show _=_;unfold mkP;rw[if_pos (by simp[Dp,wtL])];rfl
 rw[y.out];clear hP;have C:Hid ((w.alloc (.cells #[.nilIface] 23)).heap[w.heap.size]?=_):=Af rfl;have u:Hid (Below _ w (w.alloc (.cells #[.nilIface] 23))):=(Below.refl _ w).alloc (Ad9 _) _;have h:w.heap.size+1=(w.alloc (.cells #[.nilIface] 23)).heap.size:=by simp
 have r:Hid _:=h;clear h;obtain⟨T,F,o,p,J⟩:=info_parts Gn;have mo:=follows;go_enter func267,ntmps267
 go_wp2_with fail
 refine(z.out _ _).mono ?_;rintro e w' ⟨rfl,H⟩;cases H
 go_wp2_with fail
 refine(A.out _ _).mono ?_;rintro e w' ⟨rfl,H⟩;cases H
 generalize w.alloc _=w3 at C u r |-;have G:w.heap.size<w3.heap.size:=by have:=r.out;omega
 go_upto_region 3 with fail
 go_cut [3,4] from 13 (fun s3 s4 wx=>∃D E,s3=.slice (some ⟨D,0,none⟩) 0 0/\s4=.slice (some ⟨E,0,none⟩) 0 0/\Hid (Below w3.heap.size w3 wx))
 case first =>
  obtain⟨wa,K,oa,t⟩:=run_make_full w3.drew w3.heap.size 47 23 T _ 1 underlying47 F o p .i64 .i64 0 (by omega) (by unfold maxLen;omega) (by simp);obtain⟨U,L,ob,S⟩:=run_make_full wa _ 47 23 T _ 1 underlying47 F o p .i64 .i64 0 (by omega) (by unfold maxLen;omega) (by have:=t.size;simpa using this);have s:Below w3.heap.size w3 U:=((Below.refl _ w3).drew.grown t (by simp) (fun k hk=>by simp at hk)).grown S (by have:=t.size;simp at this;omega) (fun k hk=>by simp at hk);have O:Hid (Below w3.heap.size w3 U):=s;clear s oa ob t S;rw[show((0:Nat):Int)=0 from rfl] at K L;go_region
  ·clear K L;go_wp2_with fail
   go_meet
   exact⟨_,_,rfl,rfl,O⟩
  ·clear K L;go_wp2_with fail
   go_meet
   exact⟨_,_,rfl,rfl,O⟩
 case rest =>
  obtain⟨D,E,rfl,rfl,c⟩:=hcut;generalize wc=w4 at c |-;have a0:=c.out.size;clear F o p J;go_wp2_with fail
  go_loopw [21,5,6] (fun i _ _ wr=>i=.int .i64 0/\Hid (wr=w4)) (fun _ _ _ _=>0)
  case atStart=>exact⟨rfl,rfl⟩
  case round =>
   obtain⟨rfl,R⟩:=hrel;have I:=R.out;subst I;have j:∀q,wr.heap.size<=q->P q/\q≠w.heap.size:=fun q hq=>⟨Y.out q (by omega),by omega⟩;have B:Hid (Calls _ 220 #[_] wr _):=Dh n _ wr (some ⟨D,0,none⟩) 0 0 [] ⟨rfl,by decide,.inl rfl⟩ j (by simp) (by simp);have x:Hid (∀(W:World)(d:Nat),Ac wr W->_->_):=fun W d hW hd =>
    E4 n _ W d (some ⟨E,0,none⟩) 0 0 [] [] hd ⟨rfl,by decide,.inl rfl⟩ (fun q hq=>j q (Ae0 hW.below.size hq)) (by simp[wtL]) (by simp) rfl ⟨Ad9 _,by simp,.inr ⟨_,_,rfl⟩⟩
   have X5:Hid _:=(c.out.block _ G).trans C.out;have N:Hid _:=u.out.trans (c.out.mono (by omega));have X:Hid (mkS (wt n) []=Bt []):=by show _=_;unfold mkS;rw[if_pos (by simp[wtL])]
   clear j R c C u;go_wp2_with (go_at_call 220;refine B.out.mono ?_;rintro e M ⟨v,rfl,a,m⟩;rw[X.out] at a;obtain⟨b,rfl,f⟩:=a.set_inv;have ff:=fun W=>Lo (.iface 121 (.pointer (some ⟨b,0,none⟩))) W rfl;have HX:Hid _:=Ac1 m.below X5.out;have Q:Hid (Ac wr M):=m;have Z:Hid (Dy _ M _ _ b _):=f;clear m a f)
   refine(x.out M b Q.out Z.out).mono ?_;rintro e w6 ⟨v,rfl,a,m⟩;have l:=Ac1 m.below HX.out;have x0:=Ab l 0;have x1:=Ad l 0;have st:=Ae (a.rep _ _ _).one;have HV:Hid (Aj _ w6 (n+1) _ v):=a;have V:Hid _:=N.out.trans ((Q.out.trans m).below.mono (by have:=N.out.size;omega));clear m a l;go_wp2_with fail
   have r0:=World.cell?_setCell_same _ _ v x0;exact Ae2 (by simp[results,results267,go_sem,r0]) rfl ⟨_,rfl,HV.out.boxed (w:=w) v rfl,V.out.setCell (Ad9 _) _⟩
end
/-- a row in which one value was put in the place of another -/
theorem xD {P:Nat->Prop}{w W:World}{n g len:Nat}{us:List (AV n)}{vs:List Value}(hm:Gp W g len vs)(hv:Ey P w n us vs)(hlen:us.length=len)(hl:len<=4294967296){y:AV n}{u:Value}(hu:Aj P w n y u)(i:Nat)(hi:i<len){Q:Nat->Prop}(hQg:Q g)(hf:Fr P w (W.setCell ⟨g,i,none⟩ u))(hQ:∀k,k<w.heap.size->P k->Q k) :
  Bv Q (W.setCell ⟨g,i,none⟩ u) (Aj Q (W.setCell ⟨g,i,none⟩ u) n) (some ⟨g,0,none⟩) len (us.set i y):=by
 refine⟨by rw[List.length_set];exact hlen.symm,hl,.inr ⟨g,0,rfl,by rw[World.size_setCell];exact hm.1,hQg,fun j x hx=>?_⟩⟩;rw[Nat.zero_add];have f:j<len:=by have:=(List.getElem?_eq_some_iff.1 hx).1;rw[List.length_set] at this;omega
 have a:=(hm.2.2 j f).1;by_cases b:j=i
 ·subst b;rw[List.getElem?_set_self (by omega)] at hx;obtain rfl:=Ae5 hx;exact⟨u,World.cell?_setCell_same _ _ u a,hu.fr hf hQ n y u⟩
 ·rw[List.getElem?_set_ne (by omega)] at hx;obtain⟨v,c,d⟩:=hv.2 j x hx;refine⟨v,?_,d.fr hf hQ n x v⟩;rw[World.cell?_setCell_other _ _ _ _ (fun e=>by have:=congrArg Addr.off e;simp at this;omega),a];simp[List.getD,c]
theorem fG (n:Nat)(P:Nat->Prop)(w:World)(b d:Nat)(ks us:List (AV n))(h:FnP P w (Aj P w n) (Au n) (wt n) b d ks us)(hA:Asc (Al n) ks)(p off cap:Nat)(x y:AV n)(v u:Value)(hp:p<w.heap.size)(hc:w.cell? ⟨p,off,none⟩=some v)(hc2:w.cell? ⟨p,off+1,none⟩=some u)(hv:Aj P w n x v)(hu:Aj P w n y u)(hP:∀k,w.heap.size<=k->P k)(hwk:1+wtL (wt n) ks<=1024)(hwu:∀z∈us.set (B6 n ks x) y,wt n z<=1024)(z:AV (n+1))(hz0:Ch n ks x=false->(Dd ks us:Ag (AV n))=z)(hz1:Ch n ks x=true->(mkF (wt n) ks (us.set (B6 n ks x) y):Ag (AV n))=z) :
  Calls prog 232 #[.pointer (some ⟨b,0,none⟩),.slice (some ⟨p,off,none⟩) 2 cap] w (Bd P w (n+1) z):=by
 have H:Hid _:=hz0;have I:Hid _:=hz1;clear hz0 hz1;have hF:=h;obtain⟨_,hd,A,a,c,s,h0,Q,a1⟩:=h;obtain⟨c0,c1⟩:=Lf h0;have B:=Aa h0;have st:=Ae (hv.rep _ _ _).one;have su:=Ae (hu.rep _ _ _).one;have HS:Hid _:=fun W hW=>Qj n W d ks x v ((hd.set (Aj.rep n)).below hW.below fun y u=>Rep.below hW.below n y u) ((hv.rep _ _ _).grew hW) hA;have mo:=follows;have X0:Hid ((w.alloc (.cells #[.nilIface] 23)).heap[w.heap.size]?=_):=Af rfl;have r:Hid (Ac w (w.alloc (.cells #[.nilIface] 23))):=(Ac.refl w).alloc _;have T:Hid (Bv P w _ a c us):=Q;have HD:Hid (Dy P w _ (wt n) d ks):=hd;have HF:Hid (FnP P w _ _ (wt n) b d ks us):=hF;have HU:Hid (Aj P w n y u):=hu;have HP:Hid _:=hP;have a4:Hid (Gm a c s):=a1;have D:Hid (ks.length=us.length):=A;have G:Hid _:=hwu;have a3:Hid (Asc (Al n) ks):=hA;clear h0 hd Q hv hF hu hP a1 A hwu hA;go_enter func232,ntmps232
 go_wp2_with fail
 have K:=Ad8 B r.out.below.size;have L:=Ad8 hp r.out.below.size;have i0:=cell_grown K ((r.out.below.cell (p:=⟨b,0,none⟩) B).trans c0);have j0:=cell_grown L ((r.out.below.cell (p:=⟨p,off,none⟩) hp).trans hc);clear hc;generalize w.alloc _=W0 at X0 r i0 j0 K L |-;go_quiet_grown (first|(go_at_call 277;refine Ae3 (HS.out _ (r.out.grown _ _))))
 have m:Hid (Ac w (grow (W0.drewN nq) osq)):=r.out.grown _ _;have O:Hid _:=Ac1 (Ac.below ⟨nq,osq,rfl⟩) X0.out;show Exit.then _ _ _ _ (grow (W0.drewN nq) osq);clear i0 j0 X0 r HS K L;generalize grow _ osq=W1 at m O |-;clear nq osq;have r0:=Ab O.out 0;have s0:=Ad O.out 0;have zw:=Aa O.out;have d0:=(m.out.below.cell (p:=⟨b,0,none⟩) B).trans c0;have d1:=(m.out.below.cell (p:=⟨b,1,none⟩) B).trans c1;have b4:=Ad8 B m.out.below.size;cases hi:Ch n ks x with
 | false =>
  obtain rfl:=H.out hi;clear H I;have X:Aj P w (n+1) _ _:=.inr (.inr (.inr (.inr (.inr (.inr ⟨ks,us,b,d,rfl,rfl,HF.out⟩)))));have E:=A6 m.out.below ((X.fr (Fr.refl _ w) (fun k hk hp=>(⟨hp,by omega⟩:P k/\k≠w.heap.size)) (n+1) _ _).keep (Fr.grew m.out));have HE:Hid (Bd P w (n+1) _ _ _):=⟨_,rfl,E.1,E.2⟩;have XF:Hid ((W1.setCell ⟨w.heap.size,0,none⟩ (.iface 125 (.pointer (some ⟨b,0,none⟩)))).heap[w.heap.size]?=some (.cells #[_] 23 (0,0))):=Ai O.out 0 _;clear E X;go_wp2_with fail
  have k0:=Ab XF.out 0;exact Ae2 (by simp[results,results232,go_sem,k0]) rfl HE.out
 | true =>
  have a2:=I.out hi;clear H I;have Z:=E6 (x:=x) a3.out;have a0:B6 n ks x<us.length:=by
   rw[<- D.out];have:=Z.yes hi;exact(List.getElem?_eq_some_iff.1 this).1
  generalize hq:B6 n ks x=q at a0 G a2 |-;obtain rfl:=a2;clear Z hq hi;have F:Hid (c=us.length):=T.out.1;have a8:0<c:=by have:=F.out;omega
  have b2:q<c:=by have:=F.out;omega
  clear a0;obtain⟨g,o,rfl,hg,_,a6⟩:=T.out.2.2.resolve_left (by omega);clear a6;obtain⟨vs,S1,V1⟩:=Jf T.out;have Y:c<=4294967296:=T.out.2.1;have V:∀j w',vs[j]?=some w'->w.cell? ⟨g,o+j,none⟩=some w':=by
   intro j w' hw';rcases S1.2.2 with h' | ⟨b',o',e,_,a5⟩
   ·omega
   ·simp only[Option.some.injEq,Addr.mk.injEq,and_true] at e;obtain⟨rfl,rfl⟩:=e;exact a5 j w' hw'
  have S:Hid (Calls _ 237 #[_] W1 _):=Yu W1 g o c s vs (by have:=S1.1;omega) Y (fun j w' hw'=>(m.out.below.cell (p:=⟨g,o+j,none⟩) hg).trans (V j w' hw')) S1.2.1;have KV:Hid (Ey P w n us vs):=V1;have b1:(q:Int)<(c:Int):=by omega
  clear S1 V1 V;go_wp2_with fail
  refine S.out.mono ?_;rintro e R ⟨l,t,rfl,a9,U,a7,f,hb⟩;have M:Hid _:=m.out.below.trans (hb.mono m.out.below.size);have X2:Hid _:=Ac1 hb O.out;have MR:Hid (Gp R l c vs):=f;have b7:=Ad8 hp M.out.size;have b5:=Ad8 B M.out.size;have m2:=(M.out.cell (p:=⟨p,off+1,none⟩) hp).trans hc2;have b0:w.heap.size<l:=by omega
  have b6:l<R.heap.size:=f.1;have tc:=(f.2.2 q (by omega)).1;have tf:=(f.2.2 q (by omega)).2;have n0:=(M.out.cell (p:=⟨b,0,none⟩) B).trans c0;have N:Fr (fun k=>k<_) w (R.setCell ⟨l,q,none⟩ u):=(Fr.below M.out).set (by show ¬l<w.heap.size;omega) u;have C:Hid (Below _ w _):=⟨N.os,N.tape,N.output,N.size,fun i hi=>N.block i hi hi⟩;have X3:Hid ((R.setCell ⟨l,q,none⟩ u).heap[w.heap.size]?=_):=(Below.heap_setCell _ _ _ _ (by simp;omega)).trans X2.out;have n3:=(C.out.cell (p:=⟨b,0,none⟩) B).trans c0;have HN:Hid (Calls prog 283 #[.pointer (some ⟨d,0,none⟩),.slice (some ⟨l,0,none⟩) c t] (R.setCell ⟨l,q,none⟩ u) fun e w'=>∃v,e=.returned (.agg #[v])/\Aj (fun k=>P k/\k≠w.heap.size) w' (n+1) (mkF (wt n) ks (us.set q y)) v/\Ac (R.setCell ⟨l,q,none⟩ u) w'):=by
   refine E4 n _ _ d _ c t ks _ (HD.out.fr (Fr.below C.out) (fun x v=>Aj.fr (Fr.below C.out) (fun k hk hp=>⟨hp,by omega⟩) n x v) (fun k hk hp=>⟨hp,by omega⟩)) ?_ (fun k hk=>⟨HP.out k (by have:=C.out.size;omega),by have:=Aa X3.out;omega⟩) hwk G.out (by rw[List.length_set];exact D.out) ⟨U,by simp,.inr ⟨_,_,rfl⟩⟩;exact xD MR.out KV.out F.out.symm Y HU.out q (by omega) ⟨HP.out l (by omega),by omega⟩ (Fr.below C.out) (fun k hk hp=>⟨hp,by omega⟩)
  clear f hb MR KV HD G HU HP HF D a4 S T N M;go_wp2_with fail
  refine HN.out.mono ?_;rintro e w4 ⟨v',rfl,Q,J⟩;have b3:=Ae (Q.rep _ _ _).one;have E:=A6 (C.out.trans (J.below.mono C.out.size)) Q;have HE:Hid (Bd P w (n+1) _ _ _):=⟨v',rfl,E.1,E.2⟩;have X4:Hid _:=Ac1 J.below X3.out;have XF:Hid ((w4.setCell ⟨w.heap.size,0,none⟩ v').heap[w.heap.size]?=some (.cells #[v'] 23 (0,0))):=Ai X4.out 0 v';have r4:=Ab X4.out 0;have s4:=Ad X4.out 0;have z4:=Aa X4.out;clear E J Q;go_wp2_with fail
  have k0:=Ab XF.out 0;exact Ae2 (by simp[results,results232,go_sem,k0]) rfl HE.out
end Go.Proofs.YtdpeliifdlhhkaaGreatDoor.Sx
