/- form.Module. -/
import Derived.Test.YtjbfcadeapphbaaGreatDoorF17
import Derived.Test.YtjbfcadeapphbaaGreatDoorF13
import Derived.Test.YtjbfcadeapphbaaGreatDoorF18
namespace Go.Proofs.YtjbfcadeapphbaaGreatDoor.Sx
set_option maxRecDepth 100000
set_option maxHeartbeats 2000000
open Go.RowKit Go.Sort
def Hz (l:List (List UInt8))(k:Nat):List UInt8:=Bj (l.take k)
theorem bS (l:List (List UInt8))(k:Nat)(x:List UInt8)(h:l[k]?=some x):Hz l (k+1)=Hz l k++(Br k++x):=by
 have a:=(List.getElem?_eq_some_iff.1 h).1;unfold Hz Bj;rw[List.take_add_one,h,Option.toList_some,J3,List.length_take,Nat.zero_add,Nat.min_eq_left (by omega)]
theorem fP (l:List (List UInt8))(k:Nat)(h:l.length<=k):Hz l k=Bj l:=by
 unfold Hz;rw[List.take_of_length_le h]
theorem jG (l:List (List UInt8))(k:Nat):(Hz l k).length<=(Bj l).length:=by
 have:=Lz Br (l.take k) (l.drop k) 0;rw[List.take_append_drop] at this;exact this
theorem NmP.kp {B b:Nat}{w w':World}{ns:Value}{l:List (List UInt8)}(h:NmP (·<B) w ns l)(k:Kp B b w w'):NmP (·<B) w' ns l:=h.fr (frB k.1) fun _ _ q=>q
theorem NmP.at {P:Nat->Prop}{w:World}{a:Option Addr}{len cap:Nat}{l:List (List UInt8)}(h:NmP P w (.slice a len cap) l){k:Nat}(hk:k<len):len=l.length/\∃g x s na,a=some ⟨g,0,none⟩/\g<w.heap.size/\l[k]?=some x/\w.cell? ⟨g,k*2,none⟩=some (.string s)/\w.cell? ⟨g,k*2+1,none⟩=some (.int .i64 na)/\s.data.toList=x:=by
 obtain⟨⟨y,p,r⟩,-⟩:=h;rcases p.2 with⟨e,B⟩|⟨g,c,j,e,A,d,z,_,C,u⟩
 ·simp only[Value.slice.injEq] at e;omega
 ·simp only[Value.slice.injEq] at e;obtain⟨rfl,t,rfl⟩:=e;obtain⟨x,f⟩:∃x,l[k]?=some x:=⟨_,List.getElem?_eq_getElem (by omega)⟩;obtain⟨s,na,m,n,o⟩:=r k x f;have b:∀(i:Nat)(v:Value),y[i]?=some v->w.cell? ⟨g,i,none⟩=some v:=by
   intro i v q;rw[<- u,List.getElem?_take] at q;split at q
   ·rw[Aa d];simpa using q
   ·simp at q
  exact⟨t,g,x,s,na,rfl,Ac d,f,b _ _ m,b _ _ n,o⟩
theorem NmP.len {P:Nat->Prop}{w:World}{a:Option Addr}{len cap:Nat}{l:List (List UInt8)}(h:NmP P w (.slice a len cap) l):len=l.length/\len<=maxLen:=by
 obtain⟨⟨p,d,-⟩,-⟩:=h;rcases d.2 with⟨e,k⟩|⟨g,b,c,e,i,m,f,j,n,o⟩
 ·simp only[Value.slice.injEq] at e;refine⟨by omega,by unfold maxLen;omega⟩
 ·simp only[Value.slice.injEq] at e;exact⟨e.2.1,by omega⟩
theorem Kc (B b:Nat)(l:List UInt8)(w:World)(op cl:ByteArray)(pa:Option Addr)(len cap:Nat)(ns:List (List UInt8))(hr:NmP (·<B) w (.slice pa len cap) ns)(hB:Bld B b l w)
  (hlen:l.length+(op.data.toList++(Bj ns++cl.data.toList)).length<=140737488355328) :
  Calls Tryz.prog 88 #[.pointer (some ⟨b,0,none⟩),.string op,.slice pa len cap,.string cl] w (Ay B b l (op.data.toList++(Bj ns++cl.data.toList)) w):=by
 have O:Hid (NmP (·<B) w (.slice pa len cap) ns):=hr;have M:Hid (Bld B b l w):=hB;have N:Hid (len=ns.length):=hr.len.1;have U:len<=9223372036854775807:=by have:=hr.len.2;unfold maxLen at this;omega
 have t:op.data.toList.length=op.size:=by simp
 have u:cl.data.toList.length=cl.size:=by simp
 simp only[List.length_append] at hlen;have A:Hid (l.length+(op.data.toList.length+((Bj ns).length+cl.data.toList.length))<=140737488355328):=hlen;clear hr hB hlen t u;go_enter Tryz.func88,Tryz.ntmps88
 go_wp2_with fail
 refine(Aw B b l w _ [op] 1 op.data.toList rfl rfl (by decide) (by simp[De]) M.out (by have:=A.out;omega)).mono ?_;rintro e V ⟨rfl,a⟩;have h:Hid (Ae B b l (op.data.toList++Hz ns 0) w V):=by
  show Ae _ _ _ _ _ _;rw[show Hz ns 0=[] from rfl,List.append_nil];exact a
 clear a;go_wp2_with fail
 go_loopw [16] (fun i wr=>∃k:Nat,k<=len/\i=.int .i64 k/\Hid (Ae B b l (op.data.toList++Hz ns k) w wr)) (fun i _=>len-(intOf i).toNat)
 case atStart=>exact⟨0,Nat.zero_le _,rfl,h⟩
 case round =>
  clear h;obtain⟨k,X,rfl,h⟩:=hrel;by_cases E:k<len
  ·obtain⟨-,g,x,s,v,rfl,T,L,C,D,o⟩:=(O.out.kp h.out.kp).at E;have n:=bS ns k x L;have r:=jG ns (k+1);rw[n,List.length_append,List.length_append] at r;have f:Hid (Hz ns (k+1)=Hz ns k++(Br k++s.data.toList)):=by show _=_;rw[n,o]
   have R:=A.out;have F:s.data.toList.length=x.length:=by rw[o]
   have d:Hid ((l++(op.data.toList++Hz ns k)).length+((Br k).length+s.data.toList.length)<=140737488355328):=by
    show _<=_;simp only[List.length_append];omega
   clear L n r R o F;have I:Ad wr (wr.alloc (.cells #[.string s,.int .i64 v] 108)):=(Ad.refl wr).alloc _;have j:Hid (Ae B b l (op.data.toList++Hz ns k) w (wr.alloc (.cells #[.string s,.int .i64 v] 108))):=h.out.grew I;have c:Hid ((wr.alloc (.cells #[.string s,.int .i64 v] 108)).heap[wr.heap.size]?=some (.cells #[.string s,.int .i64 v] 108 (0,0))):=Af rfl;have m:wr.heap.size≠b:=by have:=h.out.1.lt;omega
   clear I h;go_upto_region 4 with fail
   clear C D;generalize wr.alloc (.cells #[.string s,.int .i64 v] 108)=y at j c |-;obtain⟨H,q⟩:∃H,wr.heap.size=H:=⟨_,rfl⟩;rw[q] at c m |-;clear q;by_cases J:k=0
   ·subst J;have G:=Aa c.out 0;go_wp2_with fail
    clear G;refine(Aw B b _ y _ [s] 1 s.data.toList rfl rfl (by decide) (by simp[De]) j.out.1 (by have:=d.out;omega)).mono ?_;rintro e z ⟨rfl,a⟩;have p:Hid (Ae B b l (op.data.toList++Hz ns (0+1)) w z):=j.out.put a (by rw[f.out];simp[Br]);clear a j f d c;go_wp2_with fail
    go_roundw
    case rel=>exact⟨0+1,by omega,by go_num,p⟩
    case measure=>simp[intOf];omega
   ·have Q:(0:Int)<(k:Int):=by omega
    have K:Br k=[44,32]:=by unfold Br;rw[if_neg J]
    rw[K] at d f;clear K;go_wp2_with fail
    refine(Aw B b _ y _ [⟨#[44,32]⟩] 1 [44,32] rfl rfl (by decide) rfl j.out.1 (by have:=d.out;simp only[List.length_cons,List.length_nil] at this |-;omega)).mono ?_;rintro e z ⟨rfl,a⟩;have p:Hid (Ae B b l ((op.data.toList++Hz ns k)++[44,32]) w z):=j.out.put a rfl;have G:=Aa (a.kp.kept (by decide) c.out m) 0;have S:=Ac (a.kp.kept (by decide) c.out m);clear a j c;go_wp2_with fail
    clear G;refine(Aw B b _ z _ [s] 1 s.data.toList rfl rfl (by decide) (by simp[De]) p.out.1 (by have:=d.out;simp only[List.length_append,List.length_cons,List.length_nil] at this |-;omega)).mono ?_;rintro e W ⟨rfl,a⟩;have P:Hid (Ae B b l (op.data.toList++Hz ns (k+1)) w W):=p.out.put a (by rw[f.out];simp);clear a p f d;go_wp2_with fail
    go_roundw
    case rel=>exact⟨k+1,by omega,by go_num,P⟩
    case measure=>simp[intOf];omega
  ·obtain rfl:k=len:=by omega
   rw[fP ns k (by have:=N.out;omega)] at h;go_wp2_with fail
   refine(Aw B b _ wr _ [cl] 1 cl.data.toList rfl rfl (by decide) (by simp[De]) h.out.1 (by have:=A.out;simp only[List.length_append] at this |-;omega)).mono ?_;rintro e y ⟨rfl,a⟩;have j:Hid (Ae B b l (op.data.toList++(Bj ns++cl.data.toList)) w y):=h.out.put a (by simp);clear a h;go_wp2_with fail
   go_end0
   exact⟨rfl,j.out⟩
theorem Bf.kp {B b bd:Nat}{w w':World}{word nm how:ByteArray}{a na:Int}{ns px:Value}(h:Bf w bd word a nm na ns how px)(k:Kp B b w w')(hb:bd≠b):Bf w' bd word a nm na ns how px:=k.kept (by decide) h hb
theorem H8 {n:Nat}(hW:WrE n)(B b:Nat)(l:List UInt8)(w:World)(word nm how:ByteArray)(a na:Int)(s1:Option Addr)(s2 s3:Nat)(px:Option Addr)(x:PX)(hx:Bt (·<B) w n x (.pointer px))(hB:Bld B b l w)
  (hlen:l.length+((if word.data.toList=Ea then[] else[32]++Bq word.data.toList)++[32]++x.tx).length<=140737488355328) :
  Calls Tryz.prog 89 #[.pointer (some ⟨b,0,none⟩),.agg #[.string word,.int .i64 a,.string nm,.int .i64 na,.slice s1 s2 s3,.string how,.pointer px]] w (Ay B b l ((if word.data.toList=Ea then[] else[32]++Bq word.data.toList)++[32]++x.tx) w):=by
 have G:Hid (Bt (·<B) w n x (.pointer px)):=hx;have F:Hid (WrE n):=hW;have J:Hid (∀(W:World),_):=fun W=>K1 word W;have H:Ad w (w.alloc (.cells #[.string word,.int .i64 a,.string nm,.int .i64 na,.slice s1 s2 s3,.string how,.pointer px] 114)):=(Ad.refl w).alloc _;have m:Hid (Ae B b l [] w (w.alloc (.cells #[.string word,.int .i64 a,.string nm,.int .i64 na,.slice s1 s2 s3,.string how,.pointer px] 114))):=(Ae.nil hB).grew H;have i:Hid (Bf (w.alloc (.cells #[.string word,.int .i64 a,.string nm,.int .i64 na,.slice s1 s2 s3,.string how,.pointer px] 114)) w.heap.size word a nm na (.slice s1 s2 s3) how (.pointer px)):=Af rfl;have f:w.heap.size≠b:=by have:=hB.lt;omega
 clear hB H;clear hx hW;by_cases u:word.data.toList=Ea
 ·have A:(word.toList==[105,110,105,116])=true:=by rw[ByteArray.toList_eq,u];decide
  rw[if_pos u] at hlen |-;have s:Hid (l.length+([]++[32]++x.tx).length<=140737488355328):=hlen;obtain⟨T,p⟩:∃T,([]++[32]++x.tx)=T:=⟨_,rfl⟩;have z:Hid (([]++[32]++x.tx)=T):=p;rw[p];clear u hlen p;have C:=Aa i.out 0;go_enter Tryz.func89,Tryz.ntmps89
  go_wp2_with fail
  clear C A;have c:(w.alloc (.cells #[.string word,.int .i64 a,.string nm,.int .i64 na,.slice s1 s2 s3,.string how,.pointer px] 114)).heap.size=w.heap.size+1:=by simp
  generalize w.alloc (.cells #[.string word,.int .i64 a,.string nm,.int .i64 na,.slice s1 s2 s3,.string how,.pointer px] 114)=w1 at m i c |-;obtain⟨j,g⟩:∃j,w.heap.size=j:=⟨_,rfl⟩;rw[g] at i f c |-;rw[<- c];clear g c;refine(Aw B b _ w1 _ [⟨#[32]⟩] 1 [32] rfl rfl (by decide) (by simp[De]) m.out.1 (by have k:=s.out;simp only[List.length_append,List.length_cons,List.length_nil] at k |-;omega)).mono ?_;rintro e q ⟨rfl,d⟩;have o:Hid (Ae B b l (([]:List UInt8)++[32]) w q):=m.out.put d rfl;have r:Hid (Bf q j word a nm na (.slice s1 s2 s3) how (.pointer px)):=i.out.kp d.kp f;clear d m i;have D:=Aa r.out 6;go_wp2_with fail
  clear D;refine(F.out B b _ q x _ (G.out.kp o.out.kp) o.out.1 (by have k:=s.out;simp only[List.length_append,List.length_cons,List.length_nil] at k |-;omega)).mono ?_;rintro e v ⟨rfl,d⟩;have t:Hid (Ae B b l ((([]:List UInt8)++[32])++x.tx) w v):=o.out.put d rfl;have y:Hid (Bf v j word a nm na (.slice s1 s2 s3) how (.pointer px)):=r.out.kp d.kp f;clear d o r;go_wp2_with fail
  go_end0
  exact⟨rfl,by have h:=t.out;rw[<- z.out];simpa using h⟩
 ·have A:(word.toList==[105,110,105,116])=false:=by rw[ByteArray.toList_eq];simpa [Ea] using u
  rw[if_neg u] at hlen |-;have s:Hid (l.length+([32]++Bq word.data.toList++[32]++x.tx).length<=140737488355328):=hlen;obtain⟨T,p⟩:∃T,([32]++Bq word.data.toList++[32]++x.tx)=T:=⟨_,rfl⟩;have z:Hid (([32]++Bq word.data.toList++[32]++x.tx)=T):=p;rw[p];clear u hlen p;have C:=Aa i.out 0;go_enter Tryz.func89,Tryz.ntmps89
  go_wp2_with (go_at_call 117;refine(J.out _).mono ?_;rintro e M ⟨rfl,E⟩;cases E)
  clear C A;have c:(w.alloc (.cells #[.string word,.int .i64 a,.string nm,.int .i64 na,.slice s1 s2 s3,.string how,.pointer px] 114)).heap.size=w.heap.size+1:=by simp
  generalize w.alloc (.cells #[.string word,.int .i64 a,.string nm,.int .i64 na,.slice s1 s2 s3,.string how,.pointer px] 114)=w1 at m i c |-;obtain⟨j,g⟩:∃j,w.heap.size=j:=⟨_,rfl⟩;rw[g] at i f c |-;rw[<- c];clear g c;refine(Aw B b _ w1 _ [⟨#[32]⟩,Mf word.data.toList] 2 ([32]++Bq word.data.toList) rfl rfl (by decide) (by simp[De,Mf]) m.out.1 (by have k:=s.out;simp only[List.length_append,List.length_cons,List.length_nil] at k |-;omega)).mono ?_;rintro e q ⟨rfl,d⟩;have o:Hid (Ae B b l (([]:List UInt8)++([32]++Bq word.data.toList)) w q):=m.out.put d rfl;have r:Hid (Bf q j word a nm na (.slice s1 s2 s3) how (.pointer px)):=i.out.kp d.kp f;clear d m i;go_wp2_with fail
  refine(Aw B b _ q _ [⟨#[32]⟩] 1 [32] rfl rfl (by decide) (by simp[De]) o.out.1 (by have k:=s.out;simp only[List.length_append,List.length_cons,List.length_nil] at k |-;omega)).mono ?_;rintro e v ⟨rfl,d⟩;have t:Hid (Ae B b l ((([]:List UInt8)++([32]++Bq word.data.toList))++[32]) w v):=o.out.put d rfl;have y:Hid (Bf v j word a nm na (.slice s1 s2 s3) how (.pointer px)):=r.out.kp d.kp f;clear d o r;have D:=Aa y.out 6;go_wp2_with fail
  clear D;refine(F.out B b _ v x _ (G.out.kp t.out.kp) t.out.1 (by have k:=s.out;simp only[List.length_append,List.length_cons,List.length_nil] at k |-;omega)).mono ?_;rintro e I ⟨rfl,d⟩;have K:Hid (Ae B b l (((([]:List UInt8)++([32]++Bq word.data.toList))++[32])++x.tx) w I):=t.out.put d rfl;have L:Hid (Bf I j word a nm na (.slice s1 s2 s3) how (.pointer px)):=y.out.kp d.kp f;clear d t y;go_wp2_with fail
  go_end0
  exact⟨rfl,by have h:=K.out;rw[<- z.out];simpa using h⟩
def Jm (p:List UInt8):List UInt8:=if p=[] then[] else[32]++p
def Fl (how nm:List UInt8)(k:Nat):List UInt8:=if k=0 then[] else if k=1 then Jm how else Jm how++Jm nm
def Jn (word:List UInt8)(names:List (List UInt8)):List UInt8:=if word=B2 then[32,61,32]++[123]++Bj names++[125] else if word=Aq/\names≠[] then[40]++Bj names++[41] else[]
def bT (word:List UInt8)(ox:Option PX):List UInt8:=match ox with|none=>[]|some x=>(if word=Ea then[] else[32]++Bq word)++[32]++x.tx
theorem Vs (word how nm:List UInt8)(names:List (List UInt8))(ox:Option PX):Fp word how nm names ox=word++Fl how nm 2++Jn word names++bT word ox:=by
 unfold Fp Fl Jm Jn bT;cases ox<;>simp
def OxR (n:Nat)(P:Nat->Prop)(w:World)(v:Value)(ox:Option PX):Prop:=match ox with|none=>v=.pointer none|some x=>Bt P w n x v
theorem OxR.kp {B b n:Nat}{w w':World}{v:Value}{ox:Option PX}(h:OxR n (·<B) w v ox)(k:Kp B b w w'):OxR n (·<B) w' v ox:=by
 cases ox with
 | none=>exact h
 | some x=>exact Bt.kp h k
theorem kY (how nm:List UInt8)(k:Nat):(Fl how nm k).length<=(Fl how nm 2).length:=by
 unfold Fl
 repeat' split
 all_goals simp
 all_goals omega
theorem fQ {n:Nat}(hW:WrE n)(B b:Nat)(l:List UInt8)(w:World)(word nm how:ByteArray)(a na:Int)(s1:Option Addr)(s2 s3:Nat)(px:Option Addr)(names:List (List UInt8))(ox:Option PX)(hN:NmP (·<B) w (.slice s1 s2 s3) names)(hx:OxR n (·<B) w (.pointer px) ox)(hB:Bld B b l w)
  (hlen:l.length+(Fp word.data.toList how.data.toList nm.data.toList names ox).length<=140737488355328) :
  Calls Tryz.prog 55 #[.pointer (some ⟨b,0,none⟩),.agg #[.string word,.int .i64 a,.string nm,.int .i64 na,.slice s1 s2 s3,.string how,.pointer px]] w (Ay B b l (Fp word.data.toList how.data.toList nm.data.toList names ox) w):=by
 have HX:Hid (OxR n (·<B) w (.pointer px) ox):=hx;have S:Hid (NmP (·<B) w (.slice s1 s2 s3) names):=hN;have HW:Hid (WrE n):=hW;rw[Vs] at hlen |-;have v:Hid (l.length+(word.data.toList++Fl how.data.toList nm.data.toList 2++Jn word.data.toList names++bT word.data.toList ox).length<=140737488355328):=hlen;obtain⟨T,hT⟩:∃T,word.data.toList++Fl how.data.toList nm.data.toList 2++Jn word.data.toList names++bT word.data.toList ox=T:=⟨_,rfl⟩;have C:Hid (word.data.toList++Fl how.data.toList nm.data.toList 2++Jn word.data.toList names++bT word.data.toList ox=T):=hT;rw[hT];have hg:Ad w (w.alloc (.cells #[.string word,.int .i64 a,.string nm,.int .i64 na,.slice s1 s2 s3,.string how,.pointer px] 114)):=(Ad.refl w).alloc _;have W1:Hid (Ae B b l [] w (w.alloc (.cells #[.string word,.int .i64 a,.string nm,.int .i64 na,.slice s1 s2 s3,.string how,.pointer px] 114))):=(Ae.nil hB).grew hg;have D1:Hid (Bf (w.alloc (.cells #[.string word,.int .i64 a,.string nm,.int .i64 na,.slice s1 s2 s3,.string how,.pointer px] 114)) w.heap.size word a nm na (.slice s1 s2 s3) how (.pointer px)):=Af rfl;have j:w.heap.size≠b:=by have:=hB.lt;omega
 clear hB hg;clear hx hN hW hlen hT;have o:=Aa D1.out 0;go_enter Tryz.func55,Tryz.ntmps55
 go_wp2_with fail
 clear o;have V:(w.alloc (.cells #[.string word,.int .i64 a,.string nm,.int .i64 na,.slice s1 s2 s3,.string how,.pointer px] 114)).heap.size=w.heap.size+1:=by simp
 generalize w.alloc (.cells #[.string word,.int .i64 a,.string nm,.int .i64 na,.slice s1 s2 s3,.string how,.pointer px] 114)=w1 at W1 D1 V |-;obtain⟨r,Q⟩:∃r,w.heap.size=r:=⟨_,rfl⟩;rw[Q] at D1 j V |-;rw[<- V];clear Q V;refine(Aw B b _ w1 _ [word] 1 word.data.toList rfl rfl (by decide) (by simp[De]) W1.out.1 (by have u:=v.out;simp only[List.length_append,List.length_nil] at u |-;omega)).mono ?_;rintro e L ⟨rfl,d⟩;have W2:Hid (Ae B b l (([]:List UInt8)++word.data.toList) w L):=W1.out.put d rfl;have D2:Hid (Bf L r word a nm na (.slice s1 s2 s3) how (.pointer px)):=D1.out.kp d.kp j;clear d W1 D1;have E:=Aa D2.out 2;have F:=Aa D2.out 5;go_wp2_with fail
 clear E F;have Z:Ad L (L.alloc (.cells #[.string how,.string nm] 9)):=(Ad.refl L).alloc _;have m:Hid (Ae B b l (word.data.toList++Fl how.data.toList nm.data.toList 0) w (L.alloc (.cells #[.string how,.string nm] 9))):=by
  have:=W2.out.grew Z;show Ae _ _ _ _ _ _;simpa [Fl] using this
 have D3:Hid (Bf (L.alloc (.cells #[.string how,.string nm] 9)) r word a nm na (.slice s1 s2 s3) how (.pointer px)):=D2.out.of (P:=fun _=>True) (Fr.grew Z) trivial;have N:Hid ((L.alloc (.cells #[.string how,.string nm] 9)).heap[L.heap.size]?=some (.cells #[.string how,.string nm] 9 (0,0))):=Af rfl;have Y:L.heap.size≠b:=by have:=W2.out.1.lt;omega
 clear Z W2 D2;generalize L.alloc (.cells #[.string how,.string nm] 9)=w3 at m D3 N |-;obtain⟨bg,Q⟩:∃bg,L.heap.size=bg:=⟨_,rfl⟩;rw[Q] at N Y |-;clear Q;have R:Hid (Kp B b w3 w3):=Kp.refl _ _ _;go_loopw [18] (fun i wr=>∃k:Nat,k<=2/\i=.int .i64 (k:Int)/\Hid (Ae B b l (word.data.toList++Fl how.data.toList nm.data.toList k) w wr)/\Hid (Kp B b w3 wr)) (fun i _=>2-(intOf i).toNat)
 case atStart=>exact⟨0,Nat.zero_le _,rfl,m,R⟩
 case round =>
  clear m R;obtain⟨k,hk,rfl,m,R⟩:=hrel;by_cases a5:k<2
  ·obtain⟨p,cp,a0⟩:∃p:ByteArray,wr.cell? ⟨bg,k,none⟩=some (.string p)/\Fl how.data.toList nm.data.toList (k+1)=Fl how.data.toList nm.data.toList k++Jm p.data.toList:=by
    have hr:=R.out.kept (by decide) N.out Y;have a1:k=0\/k=1:=by omega
    rcases a1 with rfl|rfl
    ·exact⟨how,Aa hr 0,by simp[Fl]⟩
    ·exact⟨nm,Aa hr 1,by simp[Fl]⟩
   have a6:=Ac (R.out.kept (by decide) N.out Y);have M:Hid (Fl how.data.toList nm.data.toList (k+1)=Fl how.data.toList nm.data.toList k++Jm p.data.toList):=a0;have a2:=kY how.data.toList nm.data.toList (k+1);rw[a0,List.length_append] at a2;have HS:Hid ((l++(word.data.toList++Fl how.data.toList nm.data.toList k)).length+(Jm p.data.toList).length<=140737488355328):=by
    have u:=v.out;show _<=_;simp only[List.length_append] at u |-;omega
   clear a0 a2;by_cases hp:p.data.toList=[]
   ·have e1:(p.toList==[])=true:=by rw[ByteArray.toList_eq,hp];rfl
    have W4:Hid (Ae B b l (word.data.toList++Fl how.data.toList nm.data.toList (k+1)) w wr):=by
     show Ae _ _ _ _ _ _;rw[M.out,hp];have:=m.out;simpa [Jm] using this
    clear hp m M HS;go_wp2_with fail
    go_roundw
    case rel=>exact⟨k+1,by omega,by go_num,W4,R⟩
    case measure=>simp[intOf];omega
   ·have e1:(p.toList==[])=false:=by rw[ByteArray.toList_eq];simpa using hp
    have a3:Jm p.data.toList=[32]++p.data.toList:=by unfold Jm;rw[if_neg hp]
    rw[a3] at M HS;clear hp a3;go_wp2_with fail
    refine(Aw B b _ wr _ [⟨#[32]⟩,p] 2 ([32]++p.data.toList) rfl rfl (by decide) (by simp[De]) m.out.1 HS.out).mono ?_;rintro e w4 ⟨rfl,d⟩;have W4:Hid (Ae B b l (word.data.toList++Fl how.data.toList nm.data.toList (k+1)) w w4):=m.out.put d (by rw[M.out];simp);have K4:Hid (Kp B b w3 w4):=R.out.trans d.kp;clear d m R M HS cp;go_wp2_with fail
    go_roundw
    case rel=>exact⟨k+1,by omega,by go_num,W4,K4⟩
    case measure=>simp[intOf];omega
  ·obtain rfl:k=2:=by omega
   have D:Hid (Bf wr r word a nm na (.slice s1 s2 s3) how (.pointer px)):=D3.out.kp R.out j;clear D3 N R a5 hk;have a4:Hid (s2=names.length/\s2<=maxLen):=S.out.len;have a7:s2<=9223372036854775807:=by have:=a4.out.2;unfold maxLen at this;omega
   cases ox with
   | none =>
    have U:px=none:=by have:=HX.out;simpa [OxR] using this
    subst U;rw[show bT word.data.toList none=[] from rfl] at v C;by_cases y:word.data.toList=B2
    ·have bA:(word.toList==[97,116,111,109,115])=true:=by rw[ByteArray.toList_eq,y];decide
     rw[show Jn word.data.toList names=[32,61,32]++[123]++Bj names++[125] from by unfold Jn;rw[if_pos y]] at v C;clear y;have g:Hid (Ae B b l (word.data.toList++Fl how.data.toList nm.data.toList 2) w wr):=m;have c:Hid (Bf wr r word a nm na (.slice s1 s2 s3) how (.pointer none)):=D;clear m D;have o:=Aa c.out 0;have s:=Aa c.out 4;have t:=Aa c.out 6;go_wp2_with fail
     clear o s t;refine(Aw B b _ wr _ [⟨#[32,61,32]⟩] 1 [32,61,32] rfl rfl (by decide) (by simp[De]) g.out.1 (by have u:=v.out;simp only[List.length_append,List.length_cons,List.length_nil] at u |-;omega)).mono ?_;rintro e A ⟨rfl,d⟩;have z:Hid (Ae B b l ((word.data.toList++Fl how.data.toList nm.data.toList 2)++[32,61,32]) w A):=g.out.put d rfl;have f:Hid (Bf A r word a nm na (.slice s1 s2 s3) how (.pointer none)):=c.out.kp d.kp j;clear d g c;have o:=Aa f.out 0;have s:=Aa f.out 4;have t:=Aa f.out 6;go_wp2_with fail
     clear o s t;refine(Kc B b _ A ⟨#[123]⟩ ⟨#[125]⟩ s1 s2 s3 names (S.out.kp z.out.kp) z.out.1 (by have u:=v.out;simp only[List.length_append,List.length_cons,List.length_nil] at u |-;omega)).mono ?_;rintro e W ⟨rfl,d⟩;have X:Hid (Ae B b l (((word.data.toList++Fl how.data.toList nm.data.toList 2)++[32,61,32])++([123]++(Bj names++[125]))) w W):=z.out.put d rfl;have H:Hid (Bf W r word a nm na (.slice s1 s2 s3) how (.pointer none)):=f.out.kp d.kp j;clear d z f;have o:=Aa H.out 0;have s:=Aa H.out 4;have t:=Aa H.out 6;go_wp2_with fail
     go_end0
     exact⟨rfl,by have h:=X.out;rw[<- C.out];simpa using h⟩
    have bA:(word.toList==[97,116,111,109,115])=false:=by rw[ByteArray.toList_eq];simpa [B2] using y
    by_cases G:word.data.toList=Aq
    ·have bD:(word.toList==[100,101,102,105,110,101])=true:=by rw[ByteArray.toList_eq,G];decide
     by_cases K:names=[]
     ·rw[show Jn word.data.toList names=[] from by unfold Jn;rw[if_neg y,if_neg (fun q=>q.2 K)]] at v C;have hs:¬(0:Int)<(s2:Int):=by have:=S.out.len.1;rw[K] at this;simp at this;omega
      clear y G K;have g:Hid (Ae B b l (word.data.toList++Fl how.data.toList nm.data.toList 2) w wr):=m;have c:Hid (Bf wr r word a nm na (.slice s1 s2 s3) how (.pointer none)):=D;clear m D;have o:=Aa c.out 0;have s:=Aa c.out 4;have t:=Aa c.out 6;go_wp2_with fail
      go_end0
      exact⟨rfl,by have h:=g.out;rw[<- C.out];simpa using h⟩
     ·rw[show Jn word.data.toList names=[40]++Bj names++[41] from by unfold Jn;rw[if_neg y,if_pos ⟨G,K⟩]] at v C;have hs:(0:Int)<(s2:Int):=by have:=S.out.len.1;have:=List.length_pos_iff.2 K;omega
      clear y G K;have g:Hid (Ae B b l (word.data.toList++Fl how.data.toList nm.data.toList 2) w wr):=m;have c:Hid (Bf wr r word a nm na (.slice s1 s2 s3) how (.pointer none)):=D;clear m D;have o:=Aa c.out 0;have s:=Aa c.out 4;have t:=Aa c.out 6;go_wp2_with fail
      clear o s t;refine(Kc B b _ wr ⟨#[40]⟩ ⟨#[41]⟩ s1 s2 s3 names (S.out.kp g.out.kp) g.out.1 (by have u:=v.out;simp only[List.length_append,List.length_cons,List.length_nil] at u |-;omega)).mono ?_;rintro e A ⟨rfl,d⟩;have z:Hid (Ae B b l ((word.data.toList++Fl how.data.toList nm.data.toList 2)++([40]++(Bj names++[41]))) w A):=g.out.put d rfl;have f:Hid (Bf A r word a nm na (.slice s1 s2 s3) how (.pointer none)):=c.out.kp d.kp j;clear d g c;have o:=Aa f.out 0;have s:=Aa f.out 4;have t:=Aa f.out 6;go_wp2_with fail
      go_end0
      exact⟨rfl,by have h:=z.out;rw[<- C.out];simpa using h⟩
    ·have bD:(word.toList==[100,101,102,105,110,101])=false:=by rw[ByteArray.toList_eq];simpa [Aq] using G
     rw[show Jn word.data.toList names=[] from by unfold Jn;rw[if_neg y,if_neg (fun q=>G q.1)]] at v C;clear y G;have g:Hid (Ae B b l (word.data.toList++Fl how.data.toList nm.data.toList 2) w wr):=m;have c:Hid (Bf wr r word a nm na (.slice s1 s2 s3) how (.pointer none)):=D;clear m D;have o:=Aa c.out 0;have s:=Aa c.out 4;have t:=Aa c.out 6;go_wp2_with fail
     go_end0
     exact⟨rfl,by have h:=g.out;rw[<- C.out];simpa using h⟩
   | some x =>
    obtain⟨O,U⟩:=Bt.ptr HX.out;simp only[Value.pointer.injEq] at U;subst U;rw[show bT word.data.toList (some x)=(if word.data.toList=Ea then[] else[32]++Bq word.data.toList)++[32]++x.tx from rfl] at v C;by_cases y:word.data.toList=B2
    ·have bA:(word.toList==[97,116,111,109,115])=true:=by rw[ByteArray.toList_eq,y];decide
     rw[show Jn word.data.toList names=[32,61,32]++[123]++Bj names++[125] from by unfold Jn;rw[if_pos y]] at v C;clear y;have g:Hid (Ae B b l (word.data.toList++Fl how.data.toList nm.data.toList 2) w wr):=m;have c:Hid (Bf wr r word a nm na (.slice s1 s2 s3) how (.pointer (some ⟨O,0,none⟩))):=D;clear m D;have o:=Aa c.out 0;have I:=Aa c.out 1;have E:=Aa c.out 2;have J:=Aa c.out 3;have s:=Aa c.out 4;have F:=Aa c.out 5;have t:=Aa c.out 6;go_wp2_with fail
     clear o I E J s F t;refine(Aw B b _ wr _ [⟨#[32,61,32]⟩] 1 [32,61,32] rfl rfl (by decide) (by simp[De]) g.out.1 (by have u:=v.out;simp only[List.length_append,List.length_cons,List.length_nil] at u |-;omega)).mono ?_;rintro e A ⟨rfl,d⟩;have z:Hid (Ae B b l ((word.data.toList++Fl how.data.toList nm.data.toList 2)++[32,61,32]) w A):=g.out.put d rfl;have f:Hid (Bf A r word a nm na (.slice s1 s2 s3) how (.pointer (some ⟨O,0,none⟩))):=c.out.kp d.kp j;clear d g c;have o:=Aa f.out 0;have I:=Aa f.out 1;have E:=Aa f.out 2;have J:=Aa f.out 3;have s:=Aa f.out 4;have F:=Aa f.out 5;have t:=Aa f.out 6;go_wp2_with fail
     clear o I E J s F t;refine(Kc B b _ A ⟨#[123]⟩ ⟨#[125]⟩ s1 s2 s3 names (S.out.kp z.out.kp) z.out.1 (by have u:=v.out;simp only[List.length_append,List.length_cons,List.length_nil] at u |-;omega)).mono ?_;rintro e W ⟨rfl,d⟩;have X:Hid (Ae B b l (((word.data.toList++Fl how.data.toList nm.data.toList 2)++[32,61,32])++([123]++(Bj names++[125]))) w W):=z.out.put d rfl;have H:Hid (Bf W r word a nm na (.slice s1 s2 s3) how (.pointer (some ⟨O,0,none⟩))):=f.out.kp d.kp j;clear d z f;have o:=Aa H.out 0;have I:=Aa H.out 1;have E:=Aa H.out 2;have J:=Aa H.out 3;have s:=Aa H.out 4;have F:=Aa H.out 5;have t:=Aa H.out 6;go_wp2_with fail
     clear o I E J s F t;refine(H8 HW.out B b _ W word nm how a na s1 s2 s3 _ x (Bt.kp HX.out X.out.kp) X.out.1 (by have u:=v.out;simp only[List.length_append,List.length_cons,List.length_nil] at u |-;omega)).mono ?_;rintro e w8 ⟨rfl,d⟩;have W8:Hid (Ae B b l ((((word.data.toList++Fl how.data.toList nm.data.toList 2)++[32,61,32])++([123]++(Bj names++[125])))++((if word.data.toList=Ea then[] else[32]++Bq word.data.toList)++[32]++x.tx)) w w8):=X.out.put d rfl;have D8:Hid (Bf w8 r word a nm na (.slice s1 s2 s3) how (.pointer (some ⟨O,0,none⟩))):=H.out.kp d.kp j;clear d X H;go_wp2_with fail
     go_end0
     exact⟨rfl,by have h:=W8.out;rw[<- C.out];simpa using h⟩
    have bA:(word.toList==[97,116,111,109,115])=false:=by rw[ByteArray.toList_eq];simpa [B2] using y
    by_cases G:word.data.toList=Aq
    ·have bD:(word.toList==[100,101,102,105,110,101])=true:=by rw[ByteArray.toList_eq,G];decide
     by_cases K:names=[]
     ·rw[show Jn word.data.toList names=[] from by unfold Jn;rw[if_neg y,if_neg (fun q=>q.2 K)]] at v C;have hs:¬(0:Int)<(s2:Int):=by have:=S.out.len.1;rw[K] at this;simp at this;omega
      clear y G K;have g:Hid (Ae B b l (word.data.toList++Fl how.data.toList nm.data.toList 2) w wr):=m;have c:Hid (Bf wr r word a nm na (.slice s1 s2 s3) how (.pointer (some ⟨O,0,none⟩))):=D;clear m D;have o:=Aa c.out 0;have I:=Aa c.out 1;have E:=Aa c.out 2;have J:=Aa c.out 3;have s:=Aa c.out 4;have F:=Aa c.out 5;have t:=Aa c.out 6;go_wp2_with fail
      clear o I E J s F t;refine(H8 HW.out B b _ wr word nm how a na s1 s2 s3 _ x (Bt.kp HX.out g.out.kp) g.out.1 (by have u:=v.out;simp only[List.length_append,List.length_cons,List.length_nil] at u |-;omega)).mono ?_;rintro e A ⟨rfl,d⟩;have z:Hid (Ae B b l ((word.data.toList++Fl how.data.toList nm.data.toList 2)++((if word.data.toList=Ea then[] else[32]++Bq word.data.toList)++[32]++x.tx)) w A):=g.out.put d rfl;have f:Hid (Bf A r word a nm na (.slice s1 s2 s3) how (.pointer (some ⟨O,0,none⟩))):=c.out.kp d.kp j;clear d g c;go_wp2_with fail
      go_end0
      exact⟨rfl,by have h:=z.out;rw[<- C.out];simpa using h⟩
     ·rw[show Jn word.data.toList names=[40]++Bj names++[41] from by unfold Jn;rw[if_neg y,if_pos ⟨G,K⟩]] at v C;have hs:(0:Int)<(s2:Int):=by have:=S.out.len.1;have:=List.length_pos_iff.2 K;omega
      clear y G K;have g:Hid (Ae B b l (word.data.toList++Fl how.data.toList nm.data.toList 2) w wr):=m;have c:Hid (Bf wr r word a nm na (.slice s1 s2 s3) how (.pointer (some ⟨O,0,none⟩))):=D;clear m D;have o:=Aa c.out 0;have I:=Aa c.out 1;have E:=Aa c.out 2;have J:=Aa c.out 3;have s:=Aa c.out 4;have F:=Aa c.out 5;have t:=Aa c.out 6;go_wp2_with fail
      clear o I E J s F t;refine(Kc B b _ wr ⟨#[40]⟩ ⟨#[41]⟩ s1 s2 s3 names (S.out.kp g.out.kp) g.out.1 (by have u:=v.out;simp only[List.length_append,List.length_cons,List.length_nil] at u |-;omega)).mono ?_;rintro e A ⟨rfl,d⟩;have z:Hid (Ae B b l ((word.data.toList++Fl how.data.toList nm.data.toList 2)++([40]++(Bj names++[41]))) w A):=g.out.put d rfl;have f:Hid (Bf A r word a nm na (.slice s1 s2 s3) how (.pointer (some ⟨O,0,none⟩))):=c.out.kp d.kp j;clear d g c;have o:=Aa f.out 0;have I:=Aa f.out 1;have E:=Aa f.out 2;have J:=Aa f.out 3;have s:=Aa f.out 4;have F:=Aa f.out 5;have t:=Aa f.out 6;go_wp2_with fail
      clear o I E J s F t;refine(H8 HW.out B b _ A word nm how a na s1 s2 s3 _ x (Bt.kp HX.out z.out.kp) z.out.1 (by have u:=v.out;simp only[List.length_append,List.length_cons,List.length_nil] at u |-;omega)).mono ?_;rintro e W ⟨rfl,d⟩;have X:Hid (Ae B b l (((word.data.toList++Fl how.data.toList nm.data.toList 2)++([40]++(Bj names++[41])))++((if word.data.toList=Ea then[] else[32]++Bq word.data.toList)++[32]++x.tx)) w W):=z.out.put d rfl;have H:Hid (Bf W r word a nm na (.slice s1 s2 s3) how (.pointer (some ⟨O,0,none⟩))):=f.out.kp d.kp j;clear d z f;go_wp2_with fail
      go_end0
      exact⟨rfl,by have h:=X.out;rw[<- C.out];simpa using h⟩
    ·have bD:(word.toList==[100,101,102,105,110,101])=false:=by rw[ByteArray.toList_eq];simpa [Aq] using G
     rw[show Jn word.data.toList names=[] from by unfold Jn;rw[if_neg y,if_neg (fun q=>G q.1)]] at v C;clear y G;have g:Hid (Ae B b l (word.data.toList++Fl how.data.toList nm.data.toList 2) w wr):=m;have c:Hid (Bf wr r word a nm na (.slice s1 s2 s3) how (.pointer (some ⟨O,0,none⟩))):=D;clear m D;have o:=Aa c.out 0;have I:=Aa c.out 1;have E:=Aa c.out 2;have J:=Aa c.out 3;have s:=Aa c.out 4;have F:=Aa c.out 5;have t:=Aa c.out 6;go_wp2_with fail
     clear o I E J s F t;refine(H8 HW.out B b _ wr word nm how a na s1 s2 s3 _ x (Bt.kp HX.out g.out.kp) g.out.1 (by have u:=v.out;simp only[List.length_append,List.length_cons,List.length_nil] at u |-;omega)).mono ?_;rintro e A ⟨rfl,d⟩;have z:Hid (Ae B b l ((word.data.toList++Fl how.data.toList nm.data.toList 2)++((if word.data.toList=Ea then[] else[32]++Bq word.data.toList)++[32]++x.tx)) w A):=g.out.put d rfl;have f:Hid (Bf A r word a nm na (.slice s1 s2 s3) how (.pointer (some ⟨O,0,none⟩))):=c.out.kp d.kp j;clear d g c;go_wp2_with fail
     go_end0
     exact⟨rfl,by have h:=z.out;rw[<- C.out];simpa using h⟩
def mG (B:Nat)(w:World)(bm:Nat)(tx:List UInt8):Prop :=
 ∃nm na sl n vs ls,bm<B/\Kb w bm nm na sl/\w.ownsRow 0 114 7 sl n vs/\(∀g,sl.ownBlock=some g->g<B)/\n=ls.length/\n<=1000000/\Eh (·<B) w ls vs/\tx=Cq++[32]++nm.data.toList++[10]++Db ls
theorem bU {w:World}{lo sz n:Nat}{e:TypeId}{sl:Value}{vs:List Value}(h:w.ownsRow lo e sz sl n vs){i:Nat}{v:Value}(hv:vs[i]?=some v):∃g cap,sl=.slice (some ⟨g,0,none⟩) n cap/\g<w.heap.size/\∀(j:Nat)(u:Value),vs[j]?=some u->w.cell? ⟨g,j,none⟩=some u:=by
 have a:=h.1;rcases h.2 with⟨rfl,d⟩|⟨g,cap,c,rfl,l,b,k,_,m,f⟩
 ·subst d;have:=(List.getElem?_eq_some_iff.1 hv).1;simp at a;subst a;simp at this
 ·refine⟨g,cap,rfl,Ac b,fun j u hu=>?_⟩;rw[Aa b];rw[<- f,List.getElem?_take] at hu;split at hu
  ·simpa using hu
  ·simp at hu
theorem Yq (B b bm:Nat)(l tx:List UInt8)(w:World)(hM:mG B w bm tx)(hB:Bld B b l w)(hlen:l.length+tx.length<=140737488355328) :
  Calls Tryz.prog 24 #[.pointer (some ⟨b,0,none⟩),.pointer (some ⟨bm,0,none⟩)] w (Ay B b l tx w):=by
 obtain⟨nm,na,sl,n,vs,j,R,hQ,hO,A,hn,a7,hV,v⟩:=hM;have Q0:Hid (Kb w bm nm na sl):=hQ;have O0:Hid (w.ownsRow 0 114 7 sl n vs):=hO;have OB:Hid (∀g,sl.ownBlock=some g->g<B):=A;have V0:Hid (Eh (·<B) w j vs):=hV;have HN:Hid (n=j.length):=hn;have W0:Hid (Ae B b l ([]:List UInt8) w w):=Ae.nil hB;obtain⟨o,H⟩:∃o,Cq++[32]++nm.data.toList++[10]=o:=⟨_,rfl⟩;rw[H] at v;have a0:Hid (Cq++[32]++nm.data.toList++[10]=o):=H;have K:Hid (∀k,l.length+(o++Db (j.take k)).length<=140737488355328):=fun k=>by have:=Ym j k;rw[v,List.length_append] at hlen;rw[List.length_append];omega
 have J:Hid (o++Db (j.take n)=tx):=by show _=_;rw[v,List.take_of_length_le (by omega)]
 obtain⟨sa,sc,rfl⟩:∃sa sc,sl=.slice sa n sc:=by
  rcases hO.2 with⟨rfl,hn⟩|⟨g,N,a5,rfl,-⟩
  ·exact⟨none,0,by rw[hn]⟩
  ·exact⟨_,N,rfl⟩
 have c0:=Aa hQ 0;have a6:=Ac hQ;clear hQ hO A hV hn hB hlen v H;go_enter Tryz.func24,Tryz.ntmps24
 go_wp2_with fail
 clear c0;refine(Aw B b _ w _ [⟨#[109,111,100,117,108,101,32]⟩,nm,⟨#[10]⟩] 3 o rfl rfl (by decide) (by rw[<- a0.out];simp[De,Cq]) W0.out.1 (by have:=K.out 0;simp[Db] at this |-;omega)).mono ?_;rintro e w1 ⟨rfl,C⟩;have m:Hid (Ae B b l (o++Db (j.take 0)) w w1):=by
  show Ae _ _ _ _ _ _;have:=W0.out.put C rfl;simpa [Db] using this
 clear C W0;have c2:=Aa (Q0.out.of (frB m.out.kp.1) R) 2;have T:=Ac (Q0.out.of (frB m.out.kp.1) R);go_wp2_with fail
 clear c2 T;go_loopw [19] (fun i wr=>∃k:Nat,k<=n/\i=.int .i64 (k:Int)/\Hid (Ae B b l (o++Db (j.take k)) w wr)) (fun i _=>n-(intOf i).toNat)
 case atStart=>exact⟨0,Nat.zero_le _,rfl,m⟩
 case round =>
  clear m;obtain⟨k,hk,rfl,m⟩:=hrel;by_cases hlt:k<n
  ·obtain⟨x,hx⟩:∃x,j[k]?=some x:=⟨_,List.getElem?_eq_getElem (by have:=HN.out;omega)⟩;obtain⟨e0,e1,e2,e3,e4,e5,e6,g0,g1,g2,g3,g4,g5,g6,S⟩:=Eh.at _ _ (Eh.fr (frB m.out.kp.1) (fun _ _ q=>q) _ _ V0.out) k x hx;obtain⟨d,a,r,G,ns,h,px,f,I,P,t,u,X⟩:=S;have O:wr.ownsRow 0 114 7 (.slice sa n sc) n vs:=Hn O0.out (fun g e _ hlt=>m.out.kp.1.block g (OB.out g e));obtain⟨g,N,V,a4,c⟩:=bU O g0;have z0:=c _ _ g0;have z1:=c _ _ g1;have z2:=c _ _ g2;have z3:=c _ _ g3;have z4:=c _ _ g4;have z5:=c _ _ g5;have z6:=c _ _ g6;simp only[Value.slice.injEq] at V;obtain⟨a3,-,rfl⟩:=V;subst a3;simp only[Value.agg.injEq,Array.mk.injEq,List.cons.injEq,and_true] at P;obtain⟨rfl,rfl,rfl,rfl,rfl,rfl,rfl⟩:=P;obtain⟨D,E,a1⟩:=t.1.slice;obtain⟨z,a2⟩:=u.ptr;subst a1;subst a2;obtain⟨s,U⟩:∃s,f.length=s:=⟨_,rfl⟩;rw[U] at t z4;have L:Hid (NmP (·<B) wr (.slice D s E) f):=t;obtain⟨tn,W⟩:∃tn,OxR tn (·<B) wr (.pointer z) I:=by
    cases I with
    | none=>exact⟨0,u⟩
    | some y=>exact u
   have M:Hid (OxR tn (·<B) wr (.pointer z) I):=W;have F:Hid (Db (j.take (k+1))=Db (j.take k)++Fp d.data.toList h.data.toList r.data.toList f I++[10]):=by show _=_;rw[Mh j k x hx,X]
   have HS:Hid ((l++(o++Db (j.take k))).length+((Fp d.data.toList h.data.toList r.data.toList f I).length+1)<=140737488355328):=by
    have h1:=K.out (k+1);rw[F.out] at h1;show _<=_;simp only[List.length_append,List.length_cons,List.length_nil] at h1 |-;omega
   clear hx g0 g1 g2 g3 g4 g5 g6 O c t u W X U;have gr:Ad wr (wr.alloc (.cells #[.string d,.int .i64 a,.string r,.int .i64 G,.slice D s E,.string h,.pointer z] 114)):=(Ad.refl wr).alloc _;have Z:Hid (Ae B b l (o++Db (j.take k)) w (wr.alloc (.cells #[.string d,.int .i64 a,.string r,.int .i64 G,.slice D s E,.string h,.pointer z] 114))):=m.out.grew gr;have Y:Hid (Kp B b wr (wr.alloc (.cells #[.string d,.int .i64 a,.string r,.int .i64 G,.slice D s E,.string h,.pointer z] 114))):=Kp.grew gr m.out.1.low;have p:Hid (Bf (wr.alloc (.cells #[.string d,.int .i64 a,.string r,.int .i64 G,.slice D s E,.string h,.pointer z] 114)) wr.heap.size d a r G (.slice D s E) h (.pointer z)):=Af rfl;clear gr m;go_upto_region 4 with fail
   clear z0 z1 z2 z3 z4 z5 z6;generalize wr.alloc (.cells #[.string d,.int .i64 a,.string r,.int .i64 G,.slice D s E,.string h,.pointer z] 114)=w2 at Z Y p |-;obtain⟨bd,Q⟩:∃bd,wr.heap.size=bd:=⟨_,rfl⟩;rw[Q] at p |-;clear Q;have d0:=Aa p.out 0;have d1:=Aa p.out 1;have d2:=Aa p.out 2;have d3:=Aa p.out 3;have d4:=Aa p.out 4;have d5:=Aa p.out 5;have d6:=Aa p.out 6;go_wp2_with fail
   clear d0 d1 d2 d3 d4 d5 d6 p;refine(fQ (wrE tn) B b _ w2 d r h a G D s E z f I (L.out.kp Y.out) (M.out.kp Y.out) Z.out.1 (by have:=HS.out;omega)).mono ?_;rintro e w3 ⟨rfl,C⟩;have W3:Hid (Ae B b l ((o++Db (j.take k))++Fp d.data.toList h.data.toList r.data.toList f I) w w3):=Z.out.put C rfl;clear C Z Y L M;go_wp2_with fail
   refine(Aw B b _ w3 _ [⟨#[10]⟩] 1 [10] rfl rfl (by decide) rfl W3.out.1 (by have:=HS.out;simp only[List.length_append,List.length_cons,List.length_nil] at this |-;omega)).mono ?_;rintro e w4 ⟨rfl,C⟩;have W4:Hid (Ae B b l (o++Db (j.take (k+1))) w w4):=W3.out.put C (by rw[F.out];simp);clear C W3 F HS;go_wp2_with fail
   go_roundw
   case rel=>exact⟨k+1,by omega,by go_num,W4⟩
   case measure=>simp[intOf];omega
  ·obtain rfl:k=n:=by omega
   rw[J.out] at m;go_wp2_with fail
   go_end0
   exact⟨rfl,m.out⟩
theorem Yn.below {lo b:Nat}{w w':World}{tx:List UInt8}(h:Yn lo w b tx)(f:Fr (fun _=>True) w w'):mG w.heap.size w' b tx:=by
 obtain⟨s,p,o,q,n,r,m,a,c,d,i,j,l⟩:=h;exact⟨p,o,q,n,r,m,Ac a,a.of f trivial,Ju (Nat.zero_le _) (Hn c fun g _ _ hlt=>f.block g hlt trivial),fun g e=>(c.lt g e).2,d,i,Eh.fr (f.mono fun _ _=>trivial) (fun k hk _=>hk) _ _ j,l⟩
def Mi (w:World)(r:Except (Nat×Nat) (List UInt8×Nat))(e:Ending)(w':World):Prop :=
 Fr (fun _=>True) w w'/\match r with
  | .ok (x,_)=>e=.returned (.tuple #[.string ⟨x.toArray⟩,.int .i64 0,.nilIface])
  | .error (c,p)=>e=.returned (.tuple #[.string ⟨#[]⟩,.int .i64 (p:Int),.iface 58 (.int .i64 (c:Int))])
theorem Rj (t : ByteArray) (w : World) (r : Except (Nat × Nat) (List UInt8 × Nat)) (HC : Hid (Calls Tryz.prog 23 #[.string t] w (Ev w r))) (htab : Lib.TabIs Tryz.prog w "internal/strconv.uint64pow10" .u64 Lib.pow10Tab) (hg : 1 < w.heap.size) (hlen : ∀ x j, r = .ok (x, j) -> x.length <= 140737488355328 /\ 0 < x.length) :
  Calls Tryz.prog 10 #[.string t] w (Mi w r):=by
 have y : Hid (Lib.TabIs Tryz.prog w "internal/strconv.uint64pow10" .u64 Lib.pow10Tab) := htab;clear htab;go_enter Tryz.func10,Tryz.ntmps10
 go_wp2_with fail
 refine HC.out.mono ?_;rintro e b ⟨d,A⟩;rcases r with⟨c,p⟩|⟨x,j⟩
 ·obtain rfl:=A;have C:Hid (Mi w (.error (c,p)) (.returned (.tuple #[.string ⟨#[]⟩,.int .i64 (p:Int),.iface 58 (.int .i64 (c:Int))])) b):=⟨d,rfl⟩;clear d HC;go_wp2_with fail
  refine bodyPost_ret (v:=.tuple #[.string ⟨#[]⟩,.int .i64 (p:Int),.iface 58 (.int .i64 (c:Int))]) (by simp[results,Tryz.results10,go_sem]) rfl C.out
 ·obtain⟨z,rfl,B⟩:=A;obtain⟨o,q⟩:=hlen x j rfl;have F:=d.size;have a:Fr (fun _=>True) b (b.alloc (.cells #[.pointer none,.slice none 0 0] 45)):=(Fr.refl _ b).alloc _;have n:Hid (mG b.heap.size (b.alloc (.cells #[.pointer none,.slice none 0 0] 45)) z x):=B.below a;have g:(b.alloc (.cells #[.pointer none,.slice none 0 0] 45)).heap[b.heap.size]?=some (.cells #[.pointer none,.slice none 0 0] 45 (0,0)):=Af rfl;have f:Below w.heap.size w (b.alloc (.cells #[.pointer none,.slice none 0 0] 45)):=⟨a.os.trans d.os,a.tape.trans d.tape,a.output.trans d.output,Nat.le_trans d.size a.size,fun k hk=>(a.block k (by omega) trivial).trans (d.block k hk trivial)⟩;have h:Hid (Bld b.heap.size b.heap.size [] (b.alloc (.cells #[.pointer none,.slice none 0 0] 45))):=⟨.inl ⟨Nat.le_refl _,_,g,⟨rfl,.inl ⟨rfl,rfl⟩⟩,by simp[Value.ownBlock]⟩,a.size,K9 f hg y.out,by omega⟩;have i:Hid (Fr (fun _=>True) w (b.alloc (.cells #[.pointer none,.slice none 0 0] 45))):=d.trans a;clear d B a g f HC y hlen;go_wp2_with fail
  generalize b.alloc (.cells #[.pointer none,.slice none 0 0] 45)=w2 at n h i |-;refine(Yq b.heap.size b.heap.size z [] x w2 n.out h.out (by simpa using o)).mono ?_;rintro e u ⟨rfl,s⟩;have D:Hid (Calls _ 16 #[_] u _):=Xe b.heap.size b.heap.size x u s.1.is q;have l:Hid (Fr (fun _=>True) w u):=i.out.newer (frB s.2.1) fun k hk=>by omega
  clear s h n i;go_wp2_with (go_at_call 16;refine D.out.mono ?_;rintro e E ⟨rfl,g⟩;have m:Hid (Fr (fun _=>True) w E):=l.out.newer (frB g) fun k hk=>(by omega);clear g)
  refine bodyPost_ret (v:=.tuple #[.string ⟨x.toArray⟩,.int .i64 0,.nilIface]) (by simp[results,Tryz.results10,go_sem]) rfl ⟨m.out,rfl⟩
end Go.Proofs.YtjbfcadeapphbaaGreatDoor.Sx
