/- The program: declarations. -/
import Derived.Test.YtjbfcadeapphbaaGreatDoorK07
import Derived.Test.YtjbfcadeapphbaaGreatDoorK04
import Derived.Test.YtjbfcadeapphbaaGreatDoorK10
namespace Go.Proofs.YtjbfcadeapphbaaGreatDoor.Sx
set_option maxRecDepth 100000
set_option maxHeartbeats 2000000
open Go.RowKit Go.Sort
def K6 (l:List UInt8):ByteArray:=⟨(A4 l).toArray⟩
theorem J4 (d:ByteArray)(w:World):Calls Tryz.prog 117 #[.string d] w fun e w'=>e=.returned (.string (K6 d.data.toList))/\w'=w:=by
 by_cases a:d.data.toList=Bt
 ·have b:K6 d.data.toList=⟨#[61]⟩:=by unfold K6 A4;rw[if_pos a]
  have f:(d.toList==[99,111,110,115,116,97,110,116])=true:=by rw[ByteArray.toList_eq,a];decide
  rw[b];clear a b;go_enter Tryz.func117,Tryz.ntmps117
  go_wp2_with fail
  go_ret
  exact⟨rfl,rfl⟩
 by_cases c:d.data.toList=Bu
 ·have b:K6 d.data.toList=⟨#[105,110]⟩:=by unfold K6 A4;rw[if_neg a,if_pos c]
  have f:(d.toList==[99,111,110,115,116,97,110,116])=false:=by rw[ByteArray.toList_eq,c];decide
  have g:(d.toList==[118,97,114,105,97,98,108,101])=true:=by rw[ByteArray.toList_eq,c];decide
  rw[b];clear a c b;go_enter Tryz.func117,Tryz.ntmps117
  go_wp2_with fail
  go_ret
  exact⟨rfl,rfl⟩
 ·have b:K6 d.data.toList=⟨#[61,61]⟩:=by unfold K6 A4;rw[if_neg a,if_neg c]
  have f:(d.toList==[99,111,110,115,116,97,110,116])=false:=by rw[ByteArray.toList_eq];simpa [Bt] using a
  have g:(d.toList==[118,97,114,105,97,98,108,101])=false:=by rw[ByteArray.toList_eq];simpa [Bu] using c
  rw[b];clear a c b;go_enter Tryz.func117,Tryz.ntmps117
  go_wp2_with fail
  go_ret
  exact⟨rfl,rfl⟩
def Tr (w:World)(br:Nat)(t:ByteArray)(i d:Nat)(b:Bool)(e:Ending)(w':World):Prop :=
 Fr (·≠br) w w'/\((b=true/\e=.returned (.string (pcF t i))/\RdF w' br t (i+1) d)\/(b=false/\e=Flt 1 (atF t.data.toList i)))
theorem Q6 (w:World)(br:Nat)(t:ByteArray)(i d:Nat)(hr:RdF w br t i d)(ht:t.size<=4000) :
  Calls Tryz.prog 115 #[.pointer (some ⟨br,0,none⟩)] w (Tr w br t i d (txF t.data.toList i==Ga||txF t.data.toList i==C4)):=by
 have l:Hid (Calls _ _ _ _ _):=Ke w br t i d hr ht;have o:Hid (Calls _ _ _ _ _):=Ey w br t i d 1 hr;have n:=Aa hr 2;have a:(pcF t i).toList=txF t.data.toList i:=by rw[ByteArray.toList_eq];exact A5 t i
 clear hr;have p:=follows;cases f:txF t.data.toList i==Ga with
 | true =>
  have k:((pcF t i).toList==[119,101,97,107])=true:=by rw[a];exact f
  clear a f;go_enter Tryz.func115,Tryz.ntmps115
  go_wp2_with fail
  refine l.out.mono ?_;rintro e h ⟨rfl,c,b⟩;have j:Hid (Tr w br t i d true (.returned (.string (pcF t i))) h):=⟨b,.inl ⟨rfl,rfl,c⟩⟩;clear c b n k;go_wp2_with fail
  go_ret
  exact j.out
 | false =>
  have k:((pcF t i).toList==[119,101,97,107])=false:=by rw[a];exact f
  cases g:txF t.data.toList i==C4 with
  | true =>
   have m:((pcF t i).toList==[115,116,114,111,110,103])=true:=by rw[a];exact g
   clear a f g;go_enter Tryz.func115,Tryz.ntmps115
   go_wp2_with fail
   refine l.out.mono ?_;rintro e h ⟨rfl,c,b⟩;have j:Hid (Tr w br t i d true (.returned (.string (pcF t i))) h):=⟨b,.inl ⟨rfl,rfl,c⟩⟩;clear c b n k m;go_wp2_with fail
   go_ret
   exact j.out
  | false =>
   have m:((pcF t i).toList==[115,116,114,111,110,103])=false:=by rw[a];exact g
   clear a f g;go_enter Tryz.func115,Tryz.ntmps115
   go_wp2_with fail
   refine o.out.mono ?_;rintro e h ⟨rfl,rfl⟩;exact⟨rfl,Fr.refl _ _,.inr ⟨rfl,rfl⟩⟩
theorem kJ:(Tryz.prog.info? 108).map (fun i=>(i.zero,i.size,i.bytes))=some (some (.agg #[.string ⟨#[]⟩,.int .i64 0]),2,24):=by kernel_rfl
def NmS (w:World)(lo:Nat)(sl:Value)(l:List (List UInt8)):Prop :=
 ∃vs,w.ownsRow lo 108 2 sl l.length vs/\∀(i:Nat)(x:List UInt8),l[i]?=some x->∃(s:ByteArray)(a:Int),vs[i*2]?=some (.string s)/\vs[i*2+1]?=some (.int .i64 a)/\s.data.toList=x
theorem G5 {w w':World}{base sz n:Nat}{e:TypeId}{sl:Value}{vs:List Value}(h:w.ownsRow base e sz sl n vs)(hb:∀g,sl.ownBlock=some g->base<=g->g<w.heap.size->w'.heap[g]?=w.heap[g]?):w'.ownsRow base e sz sl n vs:=by
 refine⟨h.1,?_⟩;rcases h.2 with i|⟨g,a,b,c,d,f,r⟩
 ·exact .inl i
 ·exact .inr ⟨g,a,b,c,d,(hb g (by rw[c];rfl) d (Ab f)).trans f,r⟩
theorem I2 {w:World}{base b2 sz n:Nat}{e:TypeId}{sl:Value}{vs:List Value}(hb:b2<=base)(h:w.ownsRow base e sz sl n vs):w.ownsRow b2 e sz sl n vs:=by
 refine⟨h.1,?_⟩;rcases h.2 with d|⟨g,a,b,c,f,r⟩
 ·exact .inl d
 ·exact .inr ⟨g,a,b,c,Nat.le_trans hb f,r⟩
theorem NmS.nil (w:World)(lo:Nat):NmS w lo (.slice none 0 0) []:=⟨[],World.ownsRow_nil _ _ _ _,fun i x q=>by simp at q⟩
theorem NmS.keep {w w':World}{lo:Nat}{sl:Value}{l:List (List UInt8)}(h:NmS w lo sl l)(hb:∀g,sl.ownBlock=some g->lo<=g->g<w.heap.size->w'.heap[g]?=w.heap[g]?):NmS w' lo sl l:=by
 obtain⟨c,a,b⟩:=h;exact⟨c,G5 a hb,b⟩
theorem NmS.slice {w:World}{lo:Nat}{sl:Value}{l:List (List UInt8)}(h:NmS w lo sl l):∃a cap,sl=.slice a l.length cap:=by
 obtain⟨e,c,-⟩:=h;rcases c.2 with⟨rfl,d⟩|⟨g,cap,b,rfl,-⟩
 ·exact⟨none,0,by rw[d]⟩
 ·exact⟨_,cap,rfl⟩
theorem NmS.push {w2:World}{lo g cap:Nat}{l:List (List UInt8)}{vs:List Value}{x:List UInt8}{s:ByteArray}{a:Int}
  (h2:∀(i:Nat)(x:List UInt8),l[i]?=some x->∃(s:ByteArray)(a:Int),vs[i*2]?=some (.string s)/\vs[i*2+1]?=some (.int .i64 a)/\s.data.toList=x) (hvl:vs.length=l.length*2)
  (ho:w2.ownsRow lo 108 2 (.slice (some ⟨g,0,none⟩) (l.length+1) cap) (l.length+1) (vs++[.string s,.int .i64 a])) (hs:s.data.toList=x) :
  NmS w2 lo (.slice (some ⟨g,0,none⟩) (l.length+1) cap) (l++[x]):=by
 refine⟨vs++[.string s,.int .i64 a],by rw[List.length_append];exact ho,fun i y q=>?_⟩;by_cases h:i<l.length
 ·rw[List.getElem?_append_left h] at q;obtain⟨j,c,d,e,f⟩:=h2 i y q;exact⟨j,c,by rw[List.getElem?_append_left (by omega)];exact d,by rw[List.getElem?_append_left (by omega)];exact e,f⟩
 ·have b:i=l.length:=by
   have:=(List.getElem?_eq_some_iff.1 q).1;simp at this;omega
  subst b;rw[List.getElem?_append_right (Nat.le_refl _)] at q;simp at q;subst q;exact⟨s,a,by rw[List.getElem?_append_right (by omega)];simp[hvl],by rw[List.getElem?_append_right (by omega)];simp[hvl],hs⟩
theorem kW (W:World)(t:TypeId)(a b:Value):∀(k:Nat)(u:Value),[a,b][k]?=some u->(W.alloc (.cells #[a,b] t)).cell? ((⟨W.heap.size,0,none⟩:Addr).add k)=some u:=by
 intro k u hk
 match k,hk with
 | 0,hk=>simp at hk;subst hk;simp[Addr.add]
 | 1,hk=>simp at hk;subst hk;simp[Addr.add]
 | k+2,hk=>simp at hk
theorem kX {a b:Value}(ha:a.oneCell'=true)(hb:b.oneCell'=true):∀u∈[a,b],u.oneCell'=true:=by
 intro u c;simp only[List.mem_cons,List.not_mem_nil,or_false] at c;rcases c with rfl|rfl<;>assumption
def iR (w:World)(br:Nat)(t:ByteArray)(d:Nat)(r:Except (Nat×Nat) (List (List UInt8)×Nat))(e:Ending)(w':World):Prop :=
 Fr (·≠br) w w'/\match r with
  | .ok (l,j)=>(∃sl,e=.returned sl/\NmS w' w.heap.size sl l)/\RdF w' br t j d
  | .error (c,p)=>e=Flt c p
def iS (w:World)(br:Nat)(t:ByteArray)(d:Nat)(cl:List UInt8)(r:Except (Nat×Nat) (List (List UInt8)×Nat))(e:Ending)(w':World):Prop :=
 Fr (·≠br) w w'/\((∃c p,r=.error (c,p)/\e=Flt c p)\/∃l j sl,e=.returned sl/\NmS w' w.heap.size sl l/\RdF w' br t j d/\Xd (tkF t.data.toList) cl l j r)
theorem NmS.one {w w2:World}{x:List UInt8}{s:ByteArray}{a:Int}(hs:s.data.toList=x)(hz:w.heap.size<=w2.heap.size) :
  NmS (w2.alloc (.cells #[.string s,.int .i64 a] 108)) w.heap.size (.slice (some ⟨w2.heap.size,0,none⟩) 1 1) [x]:=by
 have b:(w2.alloc (.cells #[.string s,.int .i64 a] 108)).heap[w2.heap.size]?=some (.cells #[.string s,.int .i64 a] 108 (0,0)):=Aj rfl;refine⟨[.string s,.int .i64 a],⟨rfl,.inr ⟨w2.heap.size,1,#[.string s,.int .i64 a],rfl,hz,b,Nat.le_refl _,by unfold maxLen;omega,rfl,rfl⟩⟩,fun i y q=>?_⟩
 match i,q with
 | 0,q =>
  simp at q;subst q;exact⟨s,a,rfl,rfl,hs⟩
 | i+1,q=>simp at q
theorem Q7 (w:World)(br:Nat)(t:ByteArray)(d i m:Nat)(cl:List UInt8)(hcl:(([44]:List UInt8)==cl)=false)(ht:t.size<=4000)(hm:m<=1000000)(hr:RdF w br t i d)
  (r:Except (Nat×Nat) (List (List UInt8)×Nat)) (h:Bj (tkF t.data.toList) cl (Bo (tkF t.data.toList)) m [] i=some r) :
  Calls Tryz.prog 153 #[.pointer (some ⟨br,0,none⟩),.func (.func 86) #[.pointer (some ⟨br,0,none⟩)] #[]] w (iS w br t d cl r):=by
 have HK:Hid (∀(W:World)(k:Nat)(b:Bool),_):=fun W k b h=>Fu W br t ⟨#[44]⟩ k d h ht b;have HN:Hid (∀(W:World)(k:Nat)(q:Except (Nat×Nat) (List UInt8×Nat)),_):=fun W k q h=>C6 W br t k d h ht q;have HC:Hid ((([44]:List UInt8)==cl)=false):=hcl;have a8:=Ab hr;have HR:Hid (RdF w br t i d):=hr;clear hr hcl;have mo:=follows;obtain⟨P,a7,a9,b0,b1⟩:∃P,Tryz.prog.info? 108=some P/\P.zero=some (.agg #[.string ⟨#[]⟩,.int .i64 0])/\P.size=2/\P.bytes=24:=by
  have:=kJ;cases hq:Tryz.prog.info? 108 with
  | none=>rw[hq] at this;simp at this
  | some j=>rw[hq] at this;simp at this;exact⟨j,rfl,this.1,this.2.1,this.2.2⟩
 obtain⟨m,rfl⟩:∃m',m=m'+1:=by
  cases m with
  | zero=>exact absurd h (by simp[Bj])
  | succ m=>exact⟨m,rfl⟩
 rw[Bj] at h;go_enter Tryz.func153,Tryz.ntmps153
 go_wp2_with fail
 rcases Aq h with⟨⟨c,p⟩,s,rfl⟩|⟨x,j2,s,hk⟩
 ·refine(HN.out w i _ HR.out s).mono ?_;rintro e z ⟨l,rfl⟩;exact⟨rfl,l,.inl ⟨_,_,rfl,rfl⟩⟩
 refine(HN.out w i _ HR.out s).mono ?_;rintro e z ⟨l,rfl,hr⟩;have I:Hid ((pcF t i).data.toList=x):=by
  have:=(G4 s).1;rw[this];exact A5 t i
 have R2:Hid (RdF z br t j2 d):=hr;have F2:Hid (Fr (·≠br) w z):=l;have P2:Hid (_=some r):=hk;have L:=l.size;obtain⟨G,u⟩:∃G,pcF t i=G:=⟨_,rfl⟩;obtain⟨D,o⟩:∃D,atF t.data.toList i=D:=⟨_,rfl⟩;rw[u] at I |-;rw[o];clear l hr s hk h HR u o;go_wp2_with fail
 have L3:Hid (NmS (z.alloc (.cells #[.string G,.int .i64 (D:Int)] 108)) w.heap.size (.slice (some ⟨z.heap.size,0,none⟩) 1 1) [x]):=NmS.one I.out L;have F3:Hid (Fr (·≠br) w (z.alloc (.cells #[.string G,.int .i64 (D:Int)] 108))):=F2.out.alloc _;have R3:Hid (RdF (z.alloc (.cells #[.string G,.int .i64 (D:Int)] 108)) br t j2 d):=RdF.of R2.out ((Fr.refl (fun _=>True) z).alloc _) trivial;clear F2 R2 I L;generalize z.alloc (.cells #[.string G,.int .i64 (D:Int)] 108)=w3 at L3 F3 R3 |-;generalize a3:Value.slice (some ⟨z.heap.size,0,none⟩) 1 1=s5 at L3 |-;clear a3;go_loopg [5] (m) (fun f s5 wr=>∃(j:Nat)(a:List (List UInt8)),a.length+f<=1000000/\Hid (RdF wr br t j d)/\Hid (NmS wr w.heap.size s5 a)/\Hid ((if ((tkF t.data.toList) j).tx==cl then okX a (j+1) else Bv (tkF t.data.toList) [44] j fun j=>Bj (tkF t.data.toList) cl (Bo (tkF t.data.toList)) f a j)=some r)/\Hid (Fr (·≠br) w wr))
 case atStart=>exact⟨j2,[x],by simp;omega,R3,L3,P2,F3⟩
 case round =>
  clear R3 L3 P2 F3;obtain⟨j,a,a5,R1,L1,P1,F1⟩:=hrel;rcases O6 HC.out P1.out with⟨X,hp⟩|⟨X,hp⟩
  case inr =>
   have R:Hid (Xd (tkF t.data.toList) cl a j r):=hp;have B:Hid (Calls _ _ _ _ _):=HK.out wr j false R1.out X;clear X hp P1 R1;go_wp2_with (go_at_call 112;refine B.out.mono ?_;rintro e C ⟨rfl,hr,l⟩;have U:Hid (RdF C br t j d):=hr;have N:Hid (Fr (·≠br) w C):=F1.out.trans l;have T:Hid (NmS C w.heap.size u5 a):=L1.out.keep fun g _ hg hlt=>l.block g hlt (by omega);clear hr l)
   go_ret
   obtain⟨a4,c4,F⟩:=T.out.slice;exact⟨N.out,.inr ⟨a,j,_,by rw[F],by rw[<- F];exact T.out,U.out,R.out⟩⟩
  have B:Hid (Calls _ _ _ _ _):=HK.out wr j true R1.out X;have R:Hid (Bj (tkF t.data.toList) cl (Bo (tkF t.data.toList)) gk a (j+1)=some r):=hp;clear X hp P1 R1;obtain⟨f,rfl⟩:∃f,gk=f+1:=by
   cases gk with
   | zero=>exact absurd R.out (by simp[Bj])
   | succ f=>exact⟨f,rfl⟩
  go_wp2_with (go_at_call 112;refine B.out.mono ?_;rintro e C ⟨rfl,hr,l⟩;have U:Hid (RdF C br t (j+1) d):=hr;have N:Hid (Fr (·≠br) w C):=F1.out.trans l;have T:Hid (NmS C w.heap.size u5 a):=L1.out.keep fun g _ hg hlt=>l.block g hlt (by omega);clear hr l)
  have hp:=R.out;rw[Bj] at hp;clear R B L1 F1;rcases Aq hp with⟨⟨c,p⟩,s,rfl⟩|⟨y,j3,s,hk⟩
  ·refine(HN.out C _ _ U.out s).mono ?_;rintro e A ⟨l,rfl⟩;exact⟨rfl,N.out.trans l,.inl ⟨_,_,rfl,rfl⟩⟩
  refine(HN.out C _ _ U.out s).mono ?_;rintro e A ⟨l,rfl,hr⟩;have I:Hid ((pcF t (j+1)).data.toList=y):=by
   have:=(G4 s).1;rw[this];exact A5 t (j+1)
  have b2:=N.out.size;have R5:Hid (RdF A br t j3 d):=hr;have H:Hid (Fr (·≠br) w A):=N.out.trans l;have P5:Hid (_=some r):=hk;have L5:=T.out.keep (w':=A) fun g _ hg hlt=>l.block g hlt (by omega);obtain⟨vs,O,h2⟩:=L5;have Z:vs.length=a.length*2:=by have:=O.1;omega
  have HO:Hid (A.ownsRow w.heap.size 108 2 u5 a.length vs):=O;have H2:Hid (∀(i:Nat)(x:List UInt8),a[i]?=some x->_):=h2;have S:Hid (vs.length=a.length*2):=Z;have L:=H.out.size;have b3:=l.size;obtain⟨M,u⟩:∃G,pcF t (j+1)=G:=⟨_,rfl⟩;obtain⟨K,o⟩:∃D,atF t.data.toList (j+1)=D:=⟨_,rfl⟩;rw[u] at I |-;rw[o];clear l hr s hk O h2 Z U N T hp u o;have Q:Hid ((A.alloc (.cells #[.string M,.int .i64 (K:Int)] 108)).ownsRow w.heap.size 108 2 u5 a.length vs):=HO.out.alloc _;go_wp2_with (at_builtin;refine wpList_append_lies _ rfl _ _ 112 rfl _ 108 P _ 2 24 Tryz.underlying112 a7 a9 b0 b1 rfl (by decide) u5 _ vs rfl Q.out _ 1 1 [.string M,.int .i64 (K:Int)] rfl rfl (kW A _ _ _) (kX rfl rfl) (by decide) (by unfold maxLen;omega) (by omega) (by simp;omega) (A.heap.size+1) (by simp) ?_)
  intro g a2 w6 O hg a6 hlt;have J:=World.grownBy_alloc A (.cells #[.string M,.int .i64 (K:Int)] 108) u5.ownBlock;have n:Fr (fun k=>u5.ownBlock≠some k) A w6:=⟨hg.os.trans J.os,hg.tape.trans J.tape,hg.output.trans J.output,Nat.le_trans J.size hg.size,fun k hk hp=>(hg.block k (Nat.lt_of_lt_of_le hk J.size) (fun e=>hp e.symm)).trans (J.block k hk (fun e=>hp e.symm))⟩;have L6:Hid (NmS w6 w.heap.size (.slice (some ⟨g,0,none⟩) (a.length+1) a2) (a++[y])):=NmS.push H2.out S.out O I.out;have v:∀k,k<w.heap.size->u5.ownBlock≠some k:=fun k hk e=>by have:=(HO.out.lt k e).1;omega
  have F6:Hid (Fr (·≠br) w w6):=⟨n.os.trans H.out.os,n.tape.trans H.out.tape,n.output.trans H.out.output,Nat.le_trans H.out.size n.size,fun k hk hq=>(n.block k (by omega) (v k hk)).trans (H.out.block k hk hq)⟩;have R6:Hid (RdF w6 br t j3 d):=RdF.of R5.out n (v br a8);clear O hg a6 hlt J n v H2 S HO Q I R5 H;have E:a.length+1+f<=1000000:=by omega
  generalize hA:a++[y]=acc2 at L6 P5;have V:acc2.length=a.length+1:=by rw[<- hA];simp
  clear hA;rw[<- V] at L6 E |-;clear V a5;generalize Y:acc2.length=n2 at L6 E |-;have a0:Hid (acc2.length=n2):=Y;clear Y;go_wp2_with fail
  go_roundg f
  case measure=>omega
  case rel=>exact⟨j3,acc2,by have:=a0.out;omega,R6,L6,P5,F6⟩
theorem Je (w:World)(br:Nat)(t:ByteArray)(d i m:Nat)(cl:ByteArray)(hcl:(([44]:List UInt8)==cl.data.toList)=false)(ht:t.size<=4000)(hm:m<=1000000)(hr:RdF w br t i d)
  (r:Except (Nat×Nat) (List (List UInt8)×Nat)) (h:Bj (tkF t.data.toList) cl.data.toList (Bo (tkF t.data.toList)) m [] i=some r) :
  Calls Tryz.prog 139 #[.pointer (some ⟨br,0,none⟩),.func (.func 86) #[.pointer (some ⟨br,0,none⟩)] #[],.string cl] w (iR w br t d r):=by
 have E:Hid (Calls _ _ _ _ _):=Q7 w br t d i m cl.data.toList hcl ht hm hr r h;have z:Hid (∀(W:World)(k:Nat)(b:Bool),_):=fun W k b h=>Cj W br t cl k d h ht b;have J:=Ab hr;clear hr h hcl;have K:=follows;go_enter Tryz.func139,Tryz.ntmps139
 go_wp2_with fail
 refine E.out.mono ?_;rintro e u ⟨n,⟨c,p,rfl,rfl⟩|⟨l,j,L,rfl,f,hr,o⟩⟩
 ·exact⟨rfl,n,rfl⟩
 have A:Hid (RdF u br t j d):=hr;have y:Hid (Fr (·≠br) w u):=n;obtain⟨a,s,rfl⟩:=f.slice;have B:Hid (NmS u w.heap.size (.slice a l.length s) l):=f;generalize C:l.length=len at B |-;clear n hr f E C;rcases o with⟨v,o⟩|⟨v,o⟩
 case inr =>
  obtain rfl:=o;go_wp2_with fail
  refine(z.out u j false A.out v).mono ?_;rintro e x ⟨n,⟨q,-⟩|⟨-,rfl⟩⟩
  ·simp at q
  ·exact⟨rfl,y.out.trans n,rfl⟩
 have G:Hid (r=.ok (l,j+1)):=o;have D:Hid (((tkF t.data.toList j).tx==cl.data.toList)=true):=v;clear o v;go_wp2_with fail
 refine(z.out u j true A.out D.out).mono ?_;rintro e x ⟨n,⟨-,rfl,hr⟩|⟨q,-⟩⟩
 case inr=>simp at q
 have H:Hid (RdF x br t (j+1) d):=hr;have F:Hid (Fr (·≠br) w x):=y.out.trans n;have I:Hid (NmS x w.heap.size (.slice a len s) l):=B.out.keep fun g _ hg hlt=>n.block g hlt (by omega);clear n hr A y B z D;go_wp2_with fail
 go_ret
 rw[G.out];exact⟨F.out,⟨_,rfl,I.out⟩,H.out⟩
def A0 (w:World)(b:Nat)(word:ByteArray)(a:Int)(nm:ByteArray)(na:Int)(ns:Value)(how:ByteArray)(px:Value):Prop:=w.heap[b]?=some (.cells #[.string word,.int .i64 a,.string nm,.int .i64 na,ns,.string how,px] 114 (0,0))
section
variable {w:World} {b:Nat} {word nm how:ByteArray} {a na:Int} {ns px:Value}
theorem A0.of {w':World}(h:A0 w b word a nm na ns how px){P:Nat->Prop}(f:Fr P w w')(hp:P b):A0 w' b word a nm na ns how px:=(f.block b (Ab h) hp).trans h
theorem A0.names (h:A0 w b word a nm na ns how px)(v:Value):A0 (w.setCell ⟨b,4,none⟩ v) b word a nm na v how px:=by
 have:=Ah h 4 v;simpa [A0] using this
theorem A0.hows (h:A0 w b word a nm na ns how px)(v:ByteArray):A0 (w.setCell ⟨b,5,none⟩ (.string v)) b word a nm na ns v px:=by
 have:=Ah h 5 (.string v);simpa [A0] using this
theorem A0.exp (h:A0 w b word a nm na ns how px)(v:Value):A0 (w.setCell ⟨b,6,none⟩ v) b word a nm na ns how v:=by
 have:=Ah h 6 v;simpa [A0] using this
theorem A0.ident (h:A0 w b word a nm na ns how px)(v:ByteArray)(k:Int):A0 ((w.setCell ⟨b,2,none⟩ (.string v)).setCell ⟨b,3,none⟩ (.int .i64 k)) b word a v k ns how px:=by
 have:=Ah (Ah h 2 (.string v)) 3 (.int .i64 k);simpa [A0] using this
end
def OxE (P:Nat->Prop)(w:World)(px:Value)(ox:Option PX):Prop:=match ox with|none=>px=.pointer none|some x=>Af P w x px
def Nh (w:World)(br bd:Nat)(t:ByteArray)(word:ByteArray)(a:Int)(nm:ByteArray)(na:Int)(how:ByteArray)(r:Except (Nat×Nat) ((List (List UInt8)×Option PX)×Nat))(e:Ending)(w':World):Prop :=
 Fr (fun k=>k≠br/\k≠bd) w w'/\match r with
  | .ok ((l,ox),j)=>e=.returned (.tuple #[])/\RdF w' br t j 0/\∃ns px,A0 w' bd word a nm na ns how px/\NmS w' w.heap.size ns l/\OxE (fun k=>w.heap.size<=k) w' px ox
  | .error (c,p)=>e=Flt c p
theorem Pv (w:World)(br bd:Nat)(t:ByteArray)(m i:Nat)(word nm how:ByteArray)(a na:Int)(ht:t.size<=4000)(hm:m<=1000000)(hbd:bd≠br)(hr:RdF w br t i 0)(hD:A0 w bd word a nm na (.slice none 0 0) how (.pointer none))(hw:word.data.toList=Br)
  (r:Except (Nat×Nat) ((List (List UInt8)×Option PX)×Nat)) (h:Bv (tkF t.data.toList) [61] i (fun j=>Bv (tkF t.data.toList) [123] j fun j=>bX (Bj (tkF t.data.toList) [125] (Bo (tkF t.data.toList)) m [] j) fun l j=>okX (l,none) j)=some r) :
  Calls Tryz.prog 116 #[.pointer (some ⟨br,0,none⟩),.pointer (some ⟨bd,0,none⟩)] w (Nh w br bd t word a nm na how r):=by
 have z:Hid (∀(W:World)(m:ByteArray)(k:Nat)(b:Bool),_):=fun W m k b h=>Cj W br t m k 0 h ht b;have V:(word.toList==[97,116,111,109,115])=true:=by rw[ByteArray.toList_eq,hw];decide
 have E:Hid (RdF w br t i 0):=hr;have L:Hid (A0 w bd word a nm na (.slice none 0 0) how (.pointer none)):=hD;have Z:=Ab hr;have a0:=Ab hD;have x0:=Aa hD 0;have H:Hid (_=some r):=h;clear hr hD hw h;have mo:=follows;go_enter Tryz.func116,Tryz.ntmps116
 go_wp2_with fail
 clear x0 V;have h:=H.out;clear H;rcases Bk h with⟨f,A⟩|⟨f,rfl⟩
 case inr =>
  refine(z.out w ⟨#[61]⟩ i false E.out f).mono ?_;rintro e s ⟨d,⟨q,-⟩|⟨-,rfl⟩⟩
  ·simp at q
  ·exact⟨rfl,d.two,rfl⟩
 refine(z.out w ⟨#[61]⟩ i true E.out f).mono ?_;rintro e v ⟨d,⟨-,rfl,hr⟩|⟨q,-⟩⟩
 case inr=>simp at q
 have F:Hid (RdF v br t (i+1) 0):=hr;have D:Hid (Fr (fun k=>k≠br/\k≠bd) w v):=d.two;have M:Hid (A0 v bd word a nm na (.slice none 0 0) how (.pointer none)):=L.out.of d hbd;clear d hr f h E L;go_wp2_with fail
 rcases Bk A with⟨f,R⟩|⟨f,rfl⟩
 case inr =>
  refine(z.out v ⟨#[123]⟩ (i+1) false F.out f).mono ?_;rintro e s ⟨d,⟨q,-⟩|⟨-,rfl⟩⟩
  ·simp at q
  ·exact⟨rfl,D.out.trans d.two,rfl⟩
 refine(z.out v ⟨#[123]⟩ (i+1) true F.out f).mono ?_;rintro e s ⟨d,⟨-,rfl,hr⟩|⟨q,-⟩⟩
 case inr=>simp at q
 have G:Hid (RdF s br t (i+1+1) 0):=hr;have y:Hid (Fr (fun k=>k≠br/\k≠bd) w s):=D.out.trans d.two;have C:Hid (A0 s bd word a nm na (.slice none 0 0) how (.pointer none)):=M.out.of d hbd;clear d hr f A F D M;go_wp2_with fail
 rcases Aq R with⟨⟨c,p⟩,B,rfl⟩|⟨l,j,B,I⟩
 ·refine(Je s br t 0 _ m ⟨#[125]⟩ rfl ht hm G.out _ B).mono ?_;rintro e o ⟨d,rfl⟩;exact⟨rfl,y.out.trans d.two,rfl⟩
 refine(Je s br t 0 _ m ⟨#[125]⟩ rfl ht hm G.out _ B).mono ?_;rintro e o ⟨d,⟨sl,rfl,J⟩,hr⟩;have K:=y.out.size;have Q:Hid (RdF o br t j 0):=hr;have N:Hid (Fr (fun k=>k≠br/\k≠bd) w o):=y.out.trans d.two;have x:Hid (A0 o bd word a nm na (.slice none 0 0) how (.pointer none)):=C.out.of d hbd;obtain⟨T,U,rfl⟩:=J.slice;have Y:=Ab C.out;have P:Hid (r=.ok ((l,none),j)):=by simp only[okX,Option.some.injEq] at I;exact I.symm
 have n:Fr (·≠bd) o (o.setCell ⟨bd,4,none⟩ (.slice T l.length U)):=(Fr.refl _ o).set (by simp) _;have O:Hid (Nh w br bd t word a nm na how r (.returned (.tuple #[])) (o.setCell ⟨bd,4,none⟩ (.slice T l.length U))):=by
  rw[P.out];obtain⟨vs,X,A⟩:=J;refine⟨N.out.trans (n.mono fun _ q=>q.2),rfl,RdF.of Q.out n (Ne.symm hbd),_,_,x.out.names _,⟨vs,?_,A⟩,rfl⟩;refine I2 K (G5 X fun g _ hg hlt=>n.block g hlt (by omega))
 have x4:=Aa x.out 4;have y4:=Ac x.out 4;obtain⟨S,u⟩:∃S,l.length=S:=⟨_,rfl⟩;rw[u] at O |-;clear d hr J B R I n G y C Q N x P u;go_wp2_with fail
 refine bodyPost_ret (results_none rfl _ _ _) rfl ?_;exact O.out
theorem NmS.low {w:World}{lo b2:Nat}{sl:Value}{l:List (List UInt8)}(h:NmS w lo sl l)(hb:b2<=lo):NmS w b2 sl l:=by
 obtain⟨c,a,b⟩:=h;exact⟨c,I2 hb a,b⟩
theorem Pw {br:Nat}{t:ByteArray}{self:Nat->Nat->Nat->RX PX}(hS:Ax br t self)(w:World)(bd:Nat)(i:Nat)(word nm how:ByteArray)(a na:Int)(ht:t.size<=4000)(hbd:bd≠br)(hb34:bd≠5/\bd≠6)(hI:Bl w br)(hr:RdF w br t i 0)(hD:A0 w bd word a nm na (.slice none 0 0) how (.pointer none))(hw:word.data.toList≠Br/\word.data.toList≠Al)
  (r:Except (Nat×Nat) ((List (List UInt8)×Option PX)×Nat)) (h:Ps (tkF t.data.toList) self word.data.toList [] i=some r) :
  Calls Tryz.prog 116 #[.pointer (some ⟨br,0,none⟩),.pointer (some ⟨bd,0,none⟩)] w (Nh w br bd t word a nm na how r):=by
 have K:Hid (Ax br t self):=hS;have J:Hid (Bl w br):=hI;have I:Hid (∀(W:World)(m:ByteArray)(k:Nat)(b:Bool),_):=fun W m k b h=>Cj W br t m k 0 h ht b;have HK:Hid (∀(W:World)(k:Nat)(b:Bool),_):=fun W k b h=>Fu W br t ⟨#[40]⟩ k 0 h ht b;have S:Hid (∀(W:World),_):=fun W=>J4 word W;have T:(word.toList==[97,116,111,109,115])=false:=by rw[ByteArray.toList_eq];simpa [Br] using hw.1
 have U:(word.toList==[100,101,102,105,110,101])=false:=by rw[ByteArray.toList_eq];simpa [Al] using hw.2
 have B:Hid (RdF w br t i 0):=hr;have G:Hid (A0 w bd word a nm na (.slice none 0 0) how (.pointer none)):=hD;have u:Hid (Fr (fun k=>k≠br/\k≠bd) w w):=Fr.refl _ _;have Y:=Ab hr;have Z:=Ab hD;have x0:=Aa hD 0;have mo:=follows;clear hr hD hI hS;have M:Hid (NmS w w.heap.size (.slice none 0 0) []):=NmS.nil _ _;have L:Hid (_=some r):=h;clear h hw;go_enter Tryz.func116,Tryz.ntmps116
 go_wp2_with (go_at_call 117;refine(S.out _).mono ?_;rintro e w7 ⟨rfl,F⟩;cases F)
 clear x0 T U;have h:=L.out;clear L;unfold Ps at h;rcases Bk h with⟨y,Q⟩|⟨y,rfl⟩
 case inr =>
  refine(I.out w (K6 word.data.toList) i false B.out y).mono ?_;rintro e n ⟨d,⟨q,-⟩|⟨-,rfl⟩⟩
  ·simp at q
  ·exact⟨rfl,u.out.trans d.two,rfl⟩
 refine(I.out w (K6 word.data.toList) i true B.out y).mono ?_;rintro e n ⟨d,⟨-,rfl,hr⟩|⟨q,-⟩⟩
 case inr=>simp at q
 have C:Hid (RdF n br t (i+1) 0):=hr;have o:Hid (Fr (fun k=>k≠br/\k≠bd) w n):=u.out.trans d.two;have A:Hid (A0 n bd word a nm na (.slice none 0 0) how (.pointer none)):=G.out.of d hbd;have a1:=u.out.size;have N:Hid (NmS n w.heap.size (.slice none 0 0) []):=M.out.keep fun g _ hg hlt=>d.block g hlt (by omega);clear d hr y B u G M;go_wp2_with fail
 rcases Aq Q with⟨⟨c,p⟩,z,rfl⟩|⟨x,j,z,D⟩
 ·refine(Aw K.out n 0 _ _ (by omega) (J.out.two hb34 o.out) C.out z).mono ?_;rintro e l ⟨d,rfl⟩;exact⟨rfl,o.out.trans d.two,rfl⟩
 refine(Aw K.out n 0 _ _ (by omega) (J.out.two hb34 o.out) C.out z).mono ?_;rintro e l ⟨d,⟨v,rfl,E⟩,hr⟩;obtain⟨P,rfl,-,-⟩:=E.ptr;have a0:=o.out.size;have X:=Ab A.out;have O:Hid (RdF l br t j 0):=hr;have H:Hid (Fr (fun k=>k≠br/\k≠bd) w l):=o.out.trans d.two;have s:Hid (A0 l bd word a nm na (.slice none 0 0) how (.pointer none)):=A.out.of d hbd;have f:Fr (·≠bd) l (l.setCell ⟨bd,6,none⟩ (.pointer (some ⟨P,0,none⟩))):=(Fr.refl _ l).set (by simp) _;have R:Hid (Nh w br bd t word a nm na how r (.returned (.tuple #[])) (l.setCell ⟨bd,6,none⟩ (.pointer (some ⟨P,0,none⟩)))):=by
  have V:r=.ok (([],some x),j):=by simp only[okX,Option.some.injEq] at D;exact D.symm
  rw[V];refine⟨H.out.trans (f.mono fun _ q=>q.2),rfl,RdF.of O.out f (Ne.symm hbd),_,_,s.out.exp _,?_,?_⟩
  ·exact(N.out.keep fun g _ hg hlt=>d.block g hlt (by omega)).keep fun g _ hg hlt=>f.block g hlt (by omega)
  ·exact E.fr (f.mono fun k q=>by omega) fun _ _ q=>by omega
 have x6:=Aa s.out 6;have y6:=Ac s.out 6;clear d hr E z D Q h f C o A N O H s;go_wp2_with fail
 go_end0
 exact R.out
theorem Nw {br:Nat}{t:ByteArray}{self:Nat->Nat->Nat->RX PX}(hS:Ax br t self)(w:World)(bd:Nat)(m i:Nat)(word nm how:ByteArray)(a na:Int)(ht:t.size<=4000)(hm:m<=1000000)(hbd:bd≠br)(hb34:bd≠5/\bd≠6)(hI:Bl w br)(hr:RdF w br t i 0)(hD:A0 w bd word a nm na (.slice none 0 0) how (.pointer none))(hw:word.data.toList=Al)
  (r:Except (Nat×Nat) ((List (List UInt8)×Option PX)×Nat)) (h:(if ((tkF t.data.toList i).tx==[40])=true then bX (Bj (tkF t.data.toList) [41] (Bo (tkF t.data.toList)) m [] (i+1)) (fun l j=>Ps (tkF t.data.toList) self word.data.toList l j) else Ps (tkF t.data.toList) self word.data.toList [] i)=some r) :
  Calls Tryz.prog 116 #[.pointer (some ⟨br,0,none⟩),.pointer (some ⟨bd,0,none⟩)] w (Nh w br bd t word a nm na how r):=by
 have HS:Hid (Ax br t self):=hS;have HI:Hid (Bl w br):=hI;have HD:Hid (∀(W:World)(m:ByteArray)(k:Nat)(b:Bool),_):=fun W m k b h=>Cj W br t m k 0 h ht b;have HK:Hid (∀(W:World)(k:Nat)(b:Bool),_):=fun W k b h=>Fu W br t ⟨#[40]⟩ k 0 h ht b;have HV:Hid (∀(W:World),_):=fun W=>J4 word W;have b1:(word.toList==[97,116,111,109,115])=false:=by rw[ByteArray.toList_eq];rw[hw];decide
 have b2:(word.toList==[100,101,102,105,110,101])=true:=by rw[ByteArray.toList_eq];rw[hw];decide
 have R0:Hid (RdF w br t i 0):=hr;have D0:Hid (A0 w bd word a nm na (.slice none 0 0) how (.pointer none)):=hD;have F0:Hid (Fr (fun k=>k≠br/\k≠bd) w w):=Fr.refl _ _;have a5:=Ab hr;have a6:=Ab hD;have O:=Aa hD 0;have mo:=follows;clear hr hD hI hS;cases o:(tkF t.data.toList i).tx==[40] with
 | false =>
  rw[o,if_neg (by simp)] at h;have I:Hid (Calls _ _ _ _ _):=HK.out w i false R0.out o;have R:Hid (_=some r):=h;clear h hw o HK R0;go_enter Tryz.func116,Tryz.ntmps116
  go_wp2_with (go_at_call 112;refine I.out.mono ?_;rintro e A ⟨rfl,hr,d⟩;have J:Hid (RdF A br t i 0):=hr;have F:Hid (Fr (fun k=>k≠br/\k≠bd) w A):=d.two;have G:Hid (A0 A bd word a nm na (.slice none 0 0) how (.pointer none)):=D0.out.of d hbd;clear hr d O;have O:=Aa G.out 0)
  have N1:Hid (NmS A w.heap.size (.slice none 0 0) []):=NmS.nil _ _;go_wp2_with (go_at_call 117;refine(HV.out _).mono ?_;rintro e w7 ⟨rfl,N⟩;cases N)
  clear O b1 b2;have h:=R.out;clear R;unfold Ps at h;rcases Bk h with⟨o,V⟩|⟨o,rfl⟩
  case inr =>
   refine(HD.out A (K6 word.data.toList) i false J.out o).mono ?_;rintro e s ⟨d,⟨q,-⟩|⟨-,rfl⟩⟩
   ·simp at q
   ·exact⟨rfl,F.out.trans d.two,rfl⟩
  refine(HD.out A (K6 word.data.toList) i true J.out o).mono ?_;rintro e s ⟨d,⟨-,rfl,hr⟩|⟨q,-⟩⟩
  case inr=>simp at q
  have K:Hid (RdF s br t (i+1) 0):=hr;have y:Hid (Fr (fun k=>k≠br/\k≠bd) w s):=F.out.trans d.two;have H:Hid (A0 s bd word a nm na (.slice none 0 0) how (.pointer none)):=G.out.of d hbd;have a3:=F.out.size;have S:Hid (NmS s w.heap.size (.slice none 0 0) []):=N1.out.keep fun g _ hg hlt=>d.block g hlt (by omega);clear d hr o J F G N1;go_wp2_with fail
  rcases Aq V with⟨⟨c,p⟩,u,rfl⟩|⟨x,j,u,L⟩
  ·refine(Aw HS.out s 0 _ _ (by omega) (HI.out.two hb34 y.out) K.out u).mono ?_;rintro e n ⟨d,rfl⟩;exact⟨rfl,y.out.trans d.two,rfl⟩
  refine(Aw HS.out s 0 _ _ (by omega) (HI.out.two hb34 y.out) K.out u).mono ?_;rintro e n ⟨d,⟨v,rfl,M⟩,hr⟩;obtain⟨U,rfl,-,-⟩:=M.ptr;have a2:=y.out.size;have a0:=Ab H.out;have T:Hid (RdF n br t j 0):=hr;have Q:Hid (Fr (fun k=>k≠br/\k≠bd) w n):=y.out.trans d.two;have E:Hid (A0 n bd word a nm na (.slice none 0 0) how (.pointer none)):=H.out.of d hbd;have f:Fr (·≠bd) n (n.setCell ⟨bd,6,none⟩ (.pointer (some ⟨U,0,none⟩))):=(Fr.refl _ n).set (by simp) _;have HH:Hid (Nh w br bd t word a nm na how r (.returned (.tuple #[])) (n.setCell ⟨bd,6,none⟩ (.pointer (some ⟨U,0,none⟩)))):=by
   have hR:r=.ok (([],some x),j):=by simp only[okX,Option.some.injEq] at L;exact L.symm
   rw[hR];refine⟨Q.out.trans (f.mono fun _ q=>q.2),rfl,RdF.of T.out f (Ne.symm hbd),_,_,E.out.exp _,?_,?_⟩
   ·exact(S.out.keep fun g _ hg hlt=>d.block g hlt (by omega)).keep fun g _ hg hlt=>f.block g hlt (by omega)
   ·exact M.fr (f.mono fun k q=>by omega) fun _ _ q=>by omega
  have x6:=Aa E.out 6;have y6:=Ac E.out 6;clear d hr M u L V h f K y H S T Q E;go_wp2_with fail
  go_end0
  exact HH.out
 | true =>
  rw[o,if_pos rfl] at h;have I:Hid (Calls _ _ _ _ _):=HK.out w i true R0.out o;have R:Hid (_=some r):=h;clear h hw o HK R0;go_enter Tryz.func116,Tryz.ntmps116
  go_wp2_with (go_at_call 112;refine I.out.mono ?_;rintro e A ⟨rfl,hr,d⟩;have J:Hid (RdF A br t (i+1) 0):=hr;have F:Hid (Fr (fun k=>k≠br/\k≠bd) w A):=d.two;have G:Hid (A0 A bd word a nm na (.slice none 0 0) how (.pointer none)):=D0.out.of d hbd;clear hr d O)
  have h:=R.out;clear R b1 b2;rcases Aq h with⟨⟨c,p⟩,u,rfl⟩|⟨l,Y,u,h'⟩
  ·refine(Je A br t 0 _ m ⟨#[41]⟩ rfl ht hm J.out _ u).mono ?_;rintro e B ⟨d,rfl⟩;exact⟨rfl,F.out.trans d.two,rfl⟩
  refine(Je A br t 0 _ m ⟨#[41]⟩ rfl ht hm J.out _ u).mono ?_;rintro e B ⟨d,⟨sl,rfl,hs⟩,hr⟩;have a1:=F.out.size;have a4:=Ab G.out;have R3:Hid (RdF B br t Y 0):=hr;have F3:Hid (Fr (fun k=>k≠br/\k≠bd) w B):=F.out.trans d.two;have Z:Hid (A0 B bd word a nm na (.slice none 0 0) how (.pointer none)):=G.out.of d hbd;obtain⟨C,D,rfl⟩:=hs.slice;have N3:Hid (NmS B A.heap.size (.slice C l.length D) l):=hs;obtain⟨z,X⟩:∃z,l.length=z:=⟨_,rfl⟩;rw[X] at N3 |-;have f:Fr (·≠bd) B (B.setCell ⟨bd,4,none⟩ (.slice C z D)):=(Fr.refl _ B).set (by simp) _;have R4:Hid (RdF (B.setCell ⟨bd,4,none⟩ (.slice C z D)) br t Y 0):=RdF.of R3.out f (Ne.symm hbd);have P:Hid (Fr (fun k=>k≠br/\k≠bd) w (B.setCell ⟨bd,4,none⟩ (.slice C z D))):=F3.out.trans (f.mono fun _ q=>q.2);have D4:Hid (A0 (B.setCell ⟨bd,4,none⟩ (.slice C z D)) bd word a nm na (.slice C z D) how (.pointer none)):=Z.out.names _;have N4:Hid (NmS (B.setCell ⟨bd,4,none⟩ (.slice C z D)) w.heap.size (.slice C z D) l):=(N3.out.keep fun g _ hg hlt=>f.block g hlt (by omega)).low a1;have x4:=Aa Z.out 4;have y4:=Ac Z.out 4;have O:=Aa D4.out 0;clear d hr hs u h f J F G R3 F3 Z N3 X;go_wp2_with (go_at_call 117;refine(HV.out _).mono ?_;rintro e w7 ⟨rfl,N⟩;cases N)
  clear O x4 y4;generalize B.setCell ⟨bd,4,none⟩ (.slice C z D)=w4 at R4 P D4 N4 |-;unfold Ps at h';rcases Bk h' with⟨o,V⟩|⟨o,rfl⟩
  case inr =>
   refine(HD.out w4 (K6 word.data.toList) Y false R4.out o).mono ?_;rintro e s ⟨d,⟨q,-⟩|⟨-,rfl⟩⟩
   ·simp at q
   ·exact⟨rfl,P.out.trans d.two,rfl⟩
  refine(HD.out w4 (K6 word.data.toList) Y true R4.out o).mono ?_;rintro e s ⟨d,⟨-,rfl,hr⟩|⟨q,-⟩⟩
  case inr=>simp at q
  have K:Hid (RdF s br t (Y+1) 0):=hr;have y:Hid (Fr (fun k=>k≠br/\k≠bd) w s):=P.out.trans d.two;have H:Hid (A0 s bd word a nm na (.slice C z D) how (.pointer none)):=D4.out.of d hbd;have a3:=P.out.size;have S:Hid (NmS s w.heap.size (.slice C z D) l):=N4.out.keep fun g _ hg hlt=>d.block g hlt (by omega);clear d hr o R4 P D4 N4;go_wp2_with fail
  rcases Aq V with⟨⟨c,p⟩,u,rfl⟩|⟨x,j,u,L⟩
  ·refine(Aw HS.out s 0 _ _ (by omega) (HI.out.two hb34 y.out) K.out u).mono ?_;rintro e n ⟨d,rfl⟩;exact⟨rfl,y.out.trans d.two,rfl⟩
  refine(Aw HS.out s 0 _ _ (by omega) (HI.out.two hb34 y.out) K.out u).mono ?_;rintro e n ⟨d,⟨v,rfl,M⟩,hr⟩;obtain⟨U,rfl,-,-⟩:=M.ptr;have a2:=y.out.size;have a0:=Ab H.out;have T:Hid (RdF n br t j 0):=hr;have Q:Hid (Fr (fun k=>k≠br/\k≠bd) w n):=y.out.trans d.two;have E:Hid (A0 n bd word a nm na (.slice C z D) how (.pointer none)):=H.out.of d hbd;have f:Fr (·≠bd) n (n.setCell ⟨bd,6,none⟩ (.pointer (some ⟨U,0,none⟩))):=(Fr.refl _ n).set (by simp) _;have HH:Hid (Nh w br bd t word a nm na how r (.returned (.tuple #[])) (n.setCell ⟨bd,6,none⟩ (.pointer (some ⟨U,0,none⟩)))):=by
   have hR:r=.ok ((l,some x),j):=by simp only[okX,Option.some.injEq] at L;exact L.symm
   rw[hR];refine⟨Q.out.trans (f.mono fun _ q=>q.2),rfl,RdF.of T.out f (Ne.symm hbd),_,_,E.out.exp _,?_,?_⟩
   ·exact(S.out.keep fun g _ hg hlt=>d.block g hlt (by omega)).keep fun g _ hg hlt=>f.block g hlt (by omega)
   ·exact M.fr (f.mono fun k q=>by omega) fun _ _ q=>by omega
  have x6:=Aa E.out 6;have y6:=Ac E.out 6;clear d hr M u L V h' f K y H S T Q E;go_wp2_with fail
  go_end0
  exact HH.out
def NmP (P:Nat->Prop)(w:World)(ns:Value)(l:List (List UInt8)):Prop:=NmS w 0 ns l/\∀g,ns.ownBlock=some g->P g
def Ik (P:Nat->Prop)(w:World)(v:Value)(l:List UInt8):Prop :=
 ∃word a nm na ns how px names ox,v=.agg #[.string word,.int .i64 a,.string nm,.int .i64 na,ns,.string how,px]/\NmP P w ns names/\OxE P w px ox/\l=E0 word.data.toList how.data.toList nm.data.toList names ox
theorem NmP.nil (P:Nat->Prop)(w:World):NmP P w (.slice none 0 0) []:=⟨NmS.nil _ _,fun g e=>by simp[Value.ownBlock] at e⟩
theorem NmP.fr {P Q:Nat->Prop}{w w':World}(hf:Fr P w w')(hQ:∀k,k<w.heap.size->P k->Q k){ns:Value}{l:List (List UInt8)}(h:NmP P w ns l):NmP Q w' ns l:=by
 refine⟨h.1.keep fun g e _ hlt=>hf.block g hlt (h.2 g e),fun g e=>?_⟩;obtain⟨b,a,-⟩:=h.1;exact hQ g (a.lt g e).2 (h.2 g e)
theorem NmS.foot {w:World}{lo:Nat}{ns:Value}{l:List (List UInt8)}(h:NmS w lo ns l):NmP (fun k=>lo<=k) w ns l:=by
 refine⟨h.low (Nat.zero_le _),fun g e=>?_⟩;obtain⟨b,a,-⟩:=h;exact(a.lt g e).1
theorem OxE.fr {P Q:Nat->Prop}{w w':World}(hf:Fr P w w')(hQ:∀k,k<w.heap.size->P k->Q k){px:Value}{ox:Option PX}(h:OxE P w px ox):OxE Q w' px ox:=by
 cases ox with
 | none=>exact h
 | some x=>exact Af.fr hf hQ h
theorem OxE.ptr {P:Nat->Prop}{w:World}{px:Value}{ox:Option PX}(h:OxE P w px ox):∃p,px=.pointer p:=by
 cases ox with
 | none=>exact⟨_,h⟩
 | some x =>
  obtain⟨b,e,-⟩:=Af.ptr h;exact⟨_,e⟩
theorem Ik.fr {P Q:Nat->Prop}{w w':World}(hf:Fr P w w')(hQ:∀k,k<w.heap.size->P k->Q k){v:Value}{l:List UInt8}(h:Ik P w v l):Ik Q w' v l:=by
 obtain⟨c,a,m,j,n,d,p,b,o,e,f,g,i⟩:=h;exact⟨c,a,m,j,n,d,p,b,o,e,f.fr hf hQ,g.fr hf hQ,i⟩
def Ix (w:World)(br:Nat)(t:ByteArray)(r:Except (Nat×Nat) (List UInt8×Nat))(e:Ending)(w':World):Prop :=
 Fr (·≠br) w w'/\match r with
  | .ok (l,j)=>(∃v,e=.returned v/\Ik (fun k=>w.heap.size<=k) w' v l)/\RdF w' br t j 0
  | .error (c,p)=>e=Flt c p
def Ge (w:World)(b:Nat)(c0 c1 c2 c3 c4 c5 c6:Value):World:=((((((w.setCell ⟨b,0,none⟩ c0).setCell ⟨b,1,none⟩ c1).setCell ⟨b,2,none⟩ c2).setCell ⟨b,3,none⟩ c3).setCell ⟨b,4,none⟩ c4).setCell ⟨b,5,none⟩ c5).setCell ⟨b,6,none⟩ c6
theorem Jf {w:World}{b:Nat}{word nm how:ByteArray}{a na:Int}{ns px:Value}(h:A0 w b word a nm na ns how px)(c0 c2 c5:ByteArray)(c1 c3:Int)(c4 c6:Value):A0 (Ge w b (.string c0) (.int .i64 c1) (.string c2) (.int .i64 c3) c4 (.string c5) c6) b c0 c1 c2 c3 c4 c5 c6:=by
 have:=Ah (Ah (Ah (Ah (Ah (Ah (Ah h 0 (.string c0)) 1 (.int .i64 c1)) 2 (.string c2)) 3 (.int .i64 c3)) 4 c4) 5 (.string c5)) 6 c6;simpa [A0,Ge] using this
theorem Ny {P:Nat->Prop}{a w:World}(h:Fr P a w){b:Nat}(hp:¬P b)(c0 c1 c2 c3 c4 c5 c6:Value):Fr P a (Ge w b c0 c1 c2 c3 c4 c5 c6) :=
 ((((((h.set (p:=⟨b,0,none⟩) hp _).set (p:=⟨b,1,none⟩) hp _).set (p:=⟨b,2,none⟩) hp _).set (p:=⟨b,3,none⟩) hp _).set (p:=⟨b,4,none⟩) hp _).set (p:=⟨b,5,none⟩) hp _).set (p:=⟨b,6,none⟩) hp _
theorem X9 {br:Nat}{t:ByteArray}{self:Nat->Nat->Nat->RX PX}(hS:Ax br t self)(w:World)(m i:Nat)(ht:t.size<=4000)(hI:Bl w br)(hr:RdF w br t i 0)(hw:txF t.data.toList i=Cy)
  (r:Except (Nat×Nat) (List UInt8×Nat)) (h:Dd (tkF t.data.toList) self m i=some r) :
  Calls Tryz.prog 87 #[.pointer (some ⟨br,0,none⟩)] w (Ix w br t r):=by
 have HS:Hid (Ax br t self):=hS;have HI:Hid (Bl w br):=hI;have HA:Hid (∀W:World,_):=fun W h=>Co W br t i 0 h ht;have HX:Hid (bX (self 0 0 (i+1)) (fun x j=>okX (Cy++[32]++x.tx) j)=some r):=by have:=h;unfold Dd at this;rw[show(tkF t.data.toList i).tx=Cy from hw,if_pos (by decide)] at this;exact this
 have HW:Hid (txF t.data.toList i=Cy):=hw;clear h;have a5:=Ab hr;have M:Ag w (w.alloc (.cells #[.string ⟨#[]⟩,.int .i64 0,.string ⟨#[]⟩,.int .i64 0,.slice none 0 0,.string ⟨#[]⟩,.pointer none] 114)):=(Ag.refl w).alloc _;have E:Hid (RdF (w.alloc (.cells #[.string ⟨#[]⟩,.int .i64 0,.string ⟨#[]⟩,.int .i64 0,.slice none 0 0,.string ⟨#[]⟩,.pointer none] 114)) br t i 0):=RdF.of hr (P:=fun _=>True) (Fr.grew M) trivial;have F0:Hid (Fr (·≠br) w (w.alloc (.cells #[.string ⟨#[]⟩,.int .i64 0,.string ⟨#[]⟩,.int .i64 0,.slice none 0 0,.string ⟨#[]⟩,.pointer none] 114))):=Fr.grew M;have U:Hid (A0 (w.alloc (.cells #[.string ⟨#[]⟩,.int .i64 0,.string ⟨#[]⟩,.int .i64 0,.slice none 0 0,.string ⟨#[]⟩,.pointer none] 114)) w.heap.size ⟨#[]⟩ 0 ⟨#[]⟩ 0 (.slice none 0 0) ⟨#[]⟩ (.pointer none)):=Aj rfl;have c1:=Aa E.out 1;have Q:=Aa E.out 2;clear hr hI hS M;have mo:=follows;obtain⟨d,A⟩:∃d,pcF t i=d:=⟨_,rfl⟩;have S:Hid (d.data.toList=txF t.data.toList i):=by rw[<- A];exact A5 t i
 obtain⟨f,J⟩:∃f,atF t.data.toList i=f:=⟨_,rfl⟩;rw[A] at Q;rw[J] at c1;have b1:(d.toList==[105,110,105,116])=true:=by rw[ByteArray.toList_eq,S.out,hw];decide
 go_enter Tryz.func87,Tryz.ntmps87
 go_wp2_with fail
 have H:=Aa (RdF.of E.out (P:=fun _=>True) (Fr.grew (Ag.refl _).drew) trivial) 1;have I:=Aa (RdF.of E.out (P:=fun _=>True) (Fr.grew (Ag.refl _).drew) trivial) 2;rw[A] at I;rw[J] at H;generalize w.alloc (.cells #[.string ⟨#[]⟩,.int .i64 0,.string ⟨#[]⟩,.int .i64 0,.slice none 0 0,.string ⟨#[]⟩,.pointer none] 114)=W0 at E F0 U c1 Q H I |-;obtain⟨l,K⟩:∃l,w.heap.size=l:=⟨_,rfl⟩;rw[K] at U a5 |-;have a4:Hid (w.heap.size=l):=K;have T:Hid (pcF t i=d):=A;clear K A J;have a6:=Ab E.out;have a7:=Ab U.out;go_big_region_o
 have C:Ag W0 (W0.alloc (.cells #[.string d,.int .i64 (f:Int),.string ⟨#[]⟩,.int .i64 0,.slice none 0 0,.string ⟨#[]⟩,.pointer none] 114)).drew:=((Ag.refl W0).alloc _).drew;have D1:Hid (A0 (W0.alloc (.cells #[.string d,.int .i64 (f:Int),.string ⟨#[]⟩,.int .i64 0,.slice none 0 0,.string ⟨#[]⟩,.pointer none] 114)).drew W0.heap.size d (f:Int) ⟨#[]⟩ 0 (.slice none 0 0) ⟨#[]⟩ (.pointer none)):=A0.of (w:=W0.alloc (.cells #[.string d,.int .i64 (f:Int),.string ⟨#[]⟩,.int .i64 0,.slice none 0 0,.string ⟨#[]⟩,.pointer none] 114)) (Aj rfl) (P:=fun _=>True) (Fr.grew (Ag.refl _).drew) trivial;have R1:Hid (RdF (W0.alloc (.cells #[.string d,.int .i64 (f:Int),.string ⟨#[]⟩,.int .i64 0,.slice none 0 0,.string ⟨#[]⟩,.pointer none] 114)).drew br t i 0):=RdF.of E.out (P:=fun _=>True) (Fr.grew C) trivial;have F1:Hid (Fr (·≠br) w (W0.alloc (.cells #[.string d,.int .i64 (f:Int),.string ⟨#[]⟩,.int .i64 0,.slice none 0 0,.string ⟨#[]⟩,.pointer none] 114)).drew):=F0.out.trans (Fr.grew C);have Z1:Hid (A0 (W0.alloc (.cells #[.string d,.int .i64 (f:Int),.string ⟨#[]⟩,.int .i64 0,.slice none 0 0,.string ⟨#[]⟩,.pointer none] 114)).drew l ⟨#[]⟩ 0 ⟨#[]⟩ 0 (.slice none 0 0) ⟨#[]⟩ (.pointer none)):=U.out.of (P:=fun _=>True) (Fr.grew C) trivial;have a8:=F0.out.size;clear c1 Q H I C;generalize (W0.alloc (.cells #[.string d,.int .i64 (f:Int),.string ⟨#[]⟩,.int .i64 0,.slice none 0 0,.string ⟨#[]⟩,.pointer none] 114)).drew=W1 at D1 R1 F1 Z1 |-;obtain⟨o,X⟩:∃o,W0.heap.size=o:=⟨_,rfl⟩;rw[X] at D1 a6 a7 a8 |-;clear X E F0 U;have y:o≠br:=by omega
 have z:l≠br:=by omega
 have Y:o≠l:=by omega
 have Q:=Aa R1.out 2;rw[T.out] at Q;go_wp2_with fail
 clear Q;refine(HA.out W1 R1.out).mono ?_;rintro e F ⟨rfl,a0,B⟩;have R2:Hid (RdF F br t (i+1) 0):=a0;have N:Hid (Fr (·≠br) w F):=F1.out.trans B;have D2:Hid (A0 F o d (f:Int) ⟨#[]⟩ 0 (.slice none 0 0) ⟨#[]⟩ (.pointer none)):=D1.out.of B y;have Z2:Hid (A0 F l ⟨#[]⟩ 0 ⟨#[]⟩ 0 (.slice none 0 0) ⟨#[]⟩ (.pointer none)):=Z1.out.of B z;clear a0 B R1 F1 D1 Z1;go_wp2_with fail
 rcases Aq HX.out with⟨⟨c,p⟩,hn,rfl⟩|⟨x,j,hn,hk⟩
 ·refine(Aw HS.out F 0 _ _ (by omega) (HI.out.fr N.out) R2.out hn).mono ?_;rintro e n ⟨R,rfl⟩;exact⟨rfl,N.out.trans R,rfl⟩
 refine(Aw HS.out F 0 _ _ (by omega) (HI.out.fr N.out) R2.out hn).mono ?_;rintro e n ⟨R,⟨v,rfl,hv⟩,hr⟩;obtain⟨g,rfl,-,-⟩:=hv.ptr;have b0:=N.out.size;have a9:=Ab D2.out;have b3:=Ab Z2.out;have R3:Hid (RdF n br t j 0):=hr;have O:Hid (Fr (·≠br) w n):=N.out.trans R;have D:Hid (A0 n o d (f:Int) ⟨#[]⟩ 0 (.slice none 0 0) ⟨#[]⟩ (.pointer none)):=D2.out.of R y;have u:Hid (A0 n l ⟨#[]⟩ 0 ⟨#[]⟩ 0 (.slice none 0 0) ⟨#[]⟩ (.pointer none)):=Z2.out.of R z;have T3:Hid (Af (fun k=>F.heap.size<=k) n x (.pointer (some ⟨g,0,none⟩))):=hv;have HR:Hid (r=.ok (Cy++[32]++x.tx,j)):=by simp only[okX,Option.some.injEq] at hk;exact hk.symm
 clear R hr hv hn hk HX R2 N D2 Z2;have x0:=Aa D.out 0;have x1:=Aa D.out 1;have x2:=Aa D.out 2;have x3:=Aa D.out 3;have x4:=Aa D.out 4;have x5:=Aa D.out 5;have x6:=Aa D.out 6;have y6:=Ac D.out 6;have n0:=Aa u.out 0;have m0:=Ac u.out 0;have n1:=Aa u.out 1;have m1:=Ac u.out 1;have n2:=Aa u.out 2;have m2:=Ac u.out 2;have n3:=Aa u.out 3;have m3:=Ac u.out 3;have n4:=Aa u.out 4;have m4:=Ac u.out 4;have n5:=Aa u.out 5;have m5:=Ac u.out 5;have n6:=Aa u.out 6;have m6:=Ac u.out 6;have L:Fr (·≠o) n (n.setCell ⟨o,6,none⟩ (.pointer (some ⟨g,0,none⟩))):=(Fr.refl _ n).set (by simp) _;have V:=u.out.of L (Ne.symm Y);have Z:=Ny (P:=(·≠l)) (a:=n.setCell ⟨o,6,none⟩ (.pointer (some ⟨g,0,none⟩))) (Fr.refl _ _) (b:=l) (by simp) (.string d) (.int .i64 (f:Int)) (.string ⟨#[]⟩) (.int .i64 0) (.slice none 0 0) (.string ⟨#[]⟩) (.pointer (some ⟨g,0,none⟩));have s:Fr (fun k=>k≠o/\k≠l) n (Ge (n.setCell ⟨o,6,none⟩ (.pointer (some ⟨g,0,none⟩))) l (.string d) (.int .i64 (f:Int)) (.string ⟨#[]⟩) (.int .i64 0) (.slice none 0 0) (.string ⟨#[]⟩) (.pointer (some ⟨g,0,none⟩))):=(L.mono fun _ q=>q.1).trans (Z.mono fun _ q=>q.2);have G:Hid (A0 (Ge (n.setCell ⟨o,6,none⟩ (.pointer (some ⟨g,0,none⟩))) l (.string d) (.int .i64 (f:Int)) (.string ⟨#[]⟩) (.int .i64 0) (.slice none 0 0) (.string ⟨#[]⟩) (.pointer (some ⟨g,0,none⟩))) l d (f:Int) ⟨#[]⟩ 0 (.slice none 0 0) ⟨#[]⟩ (.pointer (some ⟨g,0,none⟩))):=Jf V _ _ _ _ _ _ _;have b2:=a4.out;have FE:Hid (Fr (·≠br) w (Ge (n.setCell ⟨o,6,none⟩ (.pointer (some ⟨g,0,none⟩))) l (.string d) (.int .i64 (f:Int)) (.string ⟨#[]⟩) (.int .i64 0) (.slice none 0 0) (.string ⟨#[]⟩) (.pointer (some ⟨g,0,none⟩)))):=⟨s.os.trans O.out.os,s.tape.trans O.out.tape,s.output.trans O.out.output,Nat.le_trans O.out.size s.size,fun k hk hq=>(s.block k (by have:=O.out.size;omega) ⟨by omega,by omega⟩).trans (O.out.block k hk hq)⟩;have RE:Hid (RdF (Ge (n.setCell ⟨o,6,none⟩ (.pointer (some ⟨g,0,none⟩))) l (.string d) (.int .i64 (f:Int)) (.string ⟨#[]⟩) (.int .i64 0) (.slice none 0 0) (.string ⟨#[]⟩) (.pointer (some ⟨g,0,none⟩))) br t j 0):=RdF.of R3.out s ⟨Ne.symm y,Ne.symm z⟩;have HH:Hid (Ix w br t r (.returned (.agg #[.string d,.int .i64 (f:Int),.string ⟨#[]⟩,.int .i64 0,.slice none 0 0,.string ⟨#[]⟩,.pointer (some ⟨g,0,none⟩)])) (Ge (n.setCell ⟨o,6,none⟩ (.pointer (some ⟨g,0,none⟩))) l (.string d) (.int .i64 (f:Int)) (.string ⟨#[]⟩) (.int .i64 0) (.slice none 0 0) (.string ⟨#[]⟩) (.pointer (some ⟨g,0,none⟩)))):=by
  rw[HR.out];refine⟨FE.out,⟨_,rfl,d,_,_,_,_,_,_,[],some x,rfl,NmP.nil _ _,?_,?_⟩,RE.out⟩
  ·exact T3.out.fr (s.mono fun k q=>by omega) fun _ _ q=>by omega
  ·rw[S.out,HW.out];rfl
 clear L V Z s FE RE;go_wp2_with fail
 have r0:=Aa G.out 0;have a1:=Aa G.out 1;have a2:=Aa G.out 2;have a3:=Aa G.out 3;have r4:=Aa G.out 4;have r5:=Aa G.out 5;have r6:=Aa G.out 6;change bodyPost _ _ _ _ _ (Ge (n.setCell ⟨o,6,none⟩ (.pointer (some ⟨g,0,none⟩))) l (.string d) (.int .i64 (f:Int)) (.string ⟨#[]⟩) (.int .i64 0) (.slice none 0 0) (.string ⟨#[]⟩) (.pointer (some ⟨g,0,none⟩)));generalize (Ge (n.setCell ⟨o,6,none⟩ (.pointer (some ⟨g,0,none⟩))) l (.string d) (.int .i64 (f:Int)) (.string ⟨#[]⟩) (.int .i64 0) (.slice none 0 0) (.string ⟨#[]⟩) (.pointer (some ⟨g,0,none⟩)))=WE at HH r0 a1 a2 a3 r4 r5 r6 |-;refine bodyPost_ret (v:=.agg #[.string d,.int .i64 (f:Int),.string ⟨#[]⟩,.int .i64 0,.slice none 0 0,.string ⟨#[]⟩,.pointer (some ⟨g,0,none⟩)]) (by simp[results,Tryz.results87,go_sem,r0,a1,a2,a3,r4,r5,r6]) rfl HH.out
end Go.Proofs.YtjbfcadeapphbaaGreatDoor.Sx
