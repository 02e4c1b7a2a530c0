/- The program: a text is read as a module. -/
import Derived.Test.YtjbfcadeapphbaaGreatDoorK26
import Derived.Deep.RegionLaw
namespace Go.Proofs.YtjbfcadeapphbaaGreatDoor.Sx
set_option maxRecDepth 100000
set_option maxHeartbeats 4000000
open Go.RowKit Go.Sort
theorem Yc {br:Nat}{t:ByteArray}(w:World)(i:Nat)(hr:RdF w br t i 0)(hw:∀l∈Kr,txF t.data.toList i≠l) :
  Calls Tryz.prog 87 #[.pointer (some ⟨br,0,none⟩)] w (Ix w br t (.error (1,atF t.data.toList i))):=by
 have z:=Ab hr;have n:Ag w (w.alloc (.cells #[.string ⟨#[]⟩,.int .i64 0,.string ⟨#[]⟩,.int .i64 0,.slice none 0 0,.string ⟨#[]⟩,.pointer none] 114)):=(Ag.refl w).alloc _;have g:Hid (RdF (w.alloc (.cells #[.string ⟨#[]⟩,.int .i64 0,.string ⟨#[]⟩,.int .i64 0,.slice none 0 0,.string ⟨#[]⟩,.pointer none] 114)) br t i 0):=RdF.of hr (P:=fun _=>True) (Fr.grew n) trivial;have u:Hid (Fr (·≠br) w (w.alloc (.cells #[.string ⟨#[]⟩,.int .i64 0,.string ⟨#[]⟩,.int .i64 0,.slice none 0 0,.string ⟨#[]⟩,.pointer none] 114))):=Fr.grew n;have q:Hid (A0 (w.alloc (.cells #[.string ⟨#[]⟩,.int .i64 0,.string ⟨#[]⟩,.int .i64 0,.slice none 0 0,.string ⟨#[]⟩,.pointer none] 114)) w.heap.size ⟨#[]⟩ 0 ⟨#[]⟩ 0 (.slice none 0 0) ⟨#[]⟩ (.pointer none)):=Aj rfl;have y:=Aa g.out 1;have r:=Aa g.out 2;clear hr n;have X:=follows;obtain⟨a,c⟩:∃a,pcF t i=a:=⟨_,rfl⟩;have b:Hid (a.data.toList=txF t.data.toList i):=by rw[<- c];exact A5 t i
 obtain⟨d,k⟩:∃d,atF t.data.toList i=d:=⟨_,rfl⟩;rw[c] at r;rw[k] at y;have M:(a.toList==[105,110,105,116])=false:=by rw[ByteArray.toList_eq,b.out];simpa using hw [105,110,105,116] (by decide)
 have N:(a.toList==[102,97,105,114])=false:=by rw[ByteArray.toList_eq,b.out];simpa using hw [102,97,105,114] (by decide)
 have O:(a.toList==[115,121,109,109,101,116,114,105,99])=false:=by rw[ByteArray.toList_eq,b.out];simpa using hw [115,121,109,109,101,116,114,105,99] (by decide)
 have Q:(a.toList==[99,111,110,115,116,97,110,116])=false:=by rw[ByteArray.toList_eq,b.out];simpa using hw [99,111,110,115,116,97,110,116] (by decide)
 have R:(a.toList==[118,97,114,105,97,98,108,101])=false:=by rw[ByteArray.toList_eq,b.out];simpa using hw [118,97,114,105,97,98,108,101] (by decide)
 have S:(a.toList==[97,99,116,105,111,110])=false:=by rw[ByteArray.toList_eq,b.out];simpa using hw [97,99,116,105,111,110] (by decide)
 have T:(a.toList==[105,110,118,97,114,105,97,110,116])=false:=by rw[ByteArray.toList_eq,b.out];simpa using hw [105,110,118,97,114,105,97,110,116] (by decide)
 have U:(a.toList==[112,114,111,112,101,114,116,121])=false:=by rw[ByteArray.toList_eq,b.out];simpa using hw [112,114,111,112,101,114,116,121] (by decide)
 have V:(a.toList==[97,116,111,109,115])=false:=by rw[ByteArray.toList_eq,b.out];simpa using hw [97,116,111,109,115] (by decide)
 have W:(a.toList==[100,101,102,105,110,101])=false:=by rw[ByteArray.toList_eq,b.out];simpa using hw [100,101,102,105,110,101] (by decide)
 go_enter Tryz.func87,Tryz.ntmps87
 go_wp2_with fail
 have h:=Aa (RdF.of g.out (P:=fun _=>True) (Fr.grew (Ag.refl _).drew) trivial) 1;have j:=Aa (RdF.of g.out (P:=fun _=>True) (Fr.grew (Ag.refl _).drew) trivial) 2;rw[c] at j;rw[k] at h;generalize w.alloc (.cells #[.string ⟨#[]⟩,.int .i64 0,.string ⟨#[]⟩,.int .i64 0,.slice none 0 0,.string ⟨#[]⟩,.pointer none] 114)=W0 at g u q y r h j |-;obtain⟨o,m⟩:∃o,w.heap.size=o:=⟨_,rfl⟩;rw[m] at q z |-;have J:Hid (w.heap.size=o):=m;have p:Hid (pcF t i=a):=c;clear m c k;have A:=Ab g.out;have B:=Ab q.out;go_big_region_o
 have f:Ag W0 (W0.alloc (.cells #[.string a,.int .i64 (d:Int),.string ⟨#[]⟩,.int .i64 0,.slice none 0 0,.string ⟨#[]⟩,.pointer none] 114)).drew:=((Ag.refl W0).alloc _).drew;have E:Hid (A0 (W0.alloc (.cells #[.string a,.int .i64 (d:Int),.string ⟨#[]⟩,.int .i64 0,.slice none 0 0,.string ⟨#[]⟩,.pointer none] 114)).drew W0.heap.size a (d:Int) ⟨#[]⟩ 0 (.slice none 0 0) ⟨#[]⟩ (.pointer none)):=A0.of (w:=W0.alloc (.cells #[.string a,.int .i64 (d:Int),.string ⟨#[]⟩,.int .i64 0,.slice none 0 0,.string ⟨#[]⟩,.pointer none] 114)) (Aj rfl) (P:=fun _=>True) (Fr.grew (Ag.refl _).drew) trivial;have x:Hid (RdF (W0.alloc (.cells #[.string a,.int .i64 (d:Int),.string ⟨#[]⟩,.int .i64 0,.slice none 0 0,.string ⟨#[]⟩,.pointer none] 114)).drew br t i 0):=RdF.of g.out (P:=fun _=>True) (Fr.grew f) trivial;have F:Hid (Fr (·≠br) w (W0.alloc (.cells #[.string a,.int .i64 (d:Int),.string ⟨#[]⟩,.int .i64 0,.slice none 0 0,.string ⟨#[]⟩,.pointer none] 114)).drew):=u.out.trans (Fr.grew f);have K:Hid (A0 (W0.alloc (.cells #[.string a,.int .i64 (d:Int),.string ⟨#[]⟩,.int .i64 0,.slice none 0 0,.string ⟨#[]⟩,.pointer none] 114)).drew o ⟨#[]⟩ 0 ⟨#[]⟩ 0 (.slice none 0 0) ⟨#[]⟩ (.pointer none)):=q.out.of (P:=fun _=>True) (Fr.grew f) trivial;have C:=u.out.size;clear y r h j f;generalize (W0.alloc (.cells #[.string a,.int .i64 (d:Int),.string ⟨#[]⟩,.int .i64 0,.slice none 0 0,.string ⟨#[]⟩,.pointer none] 114)).drew=W1 at E x F K |-;obtain⟨v,s⟩:∃v,W0.heap.size=v:=⟨_,rfl⟩;rw[s] at E A B C |-;clear s g u q;have G:v≠br:=by omega
 have I:o≠br:=by omega
 have H:v≠o:=by omega
 have r:=Aa x.out 2;rw[p.out] at r;go_wp2_with fail
 refine(Ey W1 br t i 0 1 x.out).mono ?_;rintro e L ⟨rfl,D⟩;cases D
 exact⟨rfl,F.out,rfl⟩
theorem Rt {br:Nat}{t:ByteArray}{self:Nat->Nat->Nat->RX PX}(hS:Ax br t self)(w:World)(m i:Nat)(ht:t.size<=4000)(hm:m<=1000000)(hI:Bl w br)(hr:RdF w br t i 0)
  (r:Except (Nat×Nat) (List UInt8×Nat)) (h:Dd (tkF t.data.toList) self m i=some r) :
  Calls Tryz.prog 87 #[.pointer (some ⟨br,0,none⟩)] w (Ix w br t r):=by
 have j:(tkF t.data.toList i).tx=txF t.data.toList i:=rfl;by_cases c:txF t.data.toList i=Cy
 ·exact X9 hS w m i ht hI hr c r h
 by_cases d:txF t.data.toList i=Fm
 ·exact Ya w m i ht hr d r h
 by_cases f:txF t.data.toList i=Bi
 ·exact Nx w m i ht hr f r h
 by_cases g:txF t.data.toList i∈H5
 ·exact Yb hS w m i ht hm hI hr g r h
 have a:∀l,txF t.data.toList i≠l->(txF t.data.toList i==l)=false:=fun l q=>by simpa using q
 have b:∀l∈H5,txF t.data.toList i≠l:=fun l hl e=>g (e ▸ hl);have n:r=.error (1,(tkF t.data.toList i).at'):=by
  have k:Eh.contains (txF t.data.toList i)=false:=by
   cases o:Eh.contains (txF t.data.toList i) with
   | false=>rfl
   | true =>
    exfalso;have:txF t.data.toList i∈Eh:=by simpa using o
    exact g (by unfold H5;simp[this])
  unfold Dd at h;rw[j,a _ c,a _ d,a _ f,a _ (b Br (by decide)),a _ (b Al (by decide)),a _ (b Bt (by decide)),a _ (b Bu (by decide)),k] at h;simpa [Ck,eq_comm] using h
 rw[n];refine Yc w i hr fun l hl e=>?_;unfold Kr at hl;rcases List.mem_append.1 hl with q|q
 ·simp only[List.mem_cons,List.not_mem_nil,or_false] at q;rcases q with rfl|rfl|rfl
  ·exact c e
  ·exact d e
  ·exact f e
 ·exact b l q e
def Dh (P:Nat->Prop)(w:World):List (List UInt8)->List Value->Prop
 | [],vs=>vs=[]
 | l::ls,vs=>∃c0 c1 c2 c3 c4 c5 c6 vs',vs=c0::c1::c2::c3::c4::c5::c6::vs'/\Ik P w (.agg #[c0,c1,c2,c3,c4,c5,c6]) l/\Dh P w ls vs'
theorem Dh.fr {P Q:Nat->Prop}{w w':World}(hf:Fr P w w')(hQ:∀k,k<w.heap.size->P k->Q k):∀(ls:List (List UInt8))(vs:List Value),Dh P w ls vs->Dh Q w' ls vs
 | [],_,h=>h
 | _::ls,_,⟨c0,c1,c2,c3,c4,c5,c6,vs',h1,h2,h3⟩=>⟨c0,c1,c2,c3,c4,c5,c6,vs',h1,h2.fr hf hQ,Dh.fr hf hQ ls vs' h3⟩
theorem Dh.push {P:Nat->Prop}{w:World}{c0 c1 c2 c3 c4 c5 c6:Value}{l:List UInt8}(hd:Ik P w (.agg #[c0,c1,c2,c3,c4,c5,c6]) l):∀(ls:List (List UInt8))(vs:List Value),Dh P w ls vs->Dh P w (ls++[l]) (vs++[c0,c1,c2,c3,c4,c5,c6])
 | [],vs,h=>by
  have h':vs=[]:=h;subst h';exact⟨c0,c1,c2,c3,c4,c5,c6,[],rfl,hd,rfl⟩
 | _::ls,_,⟨d0,d1,d2,d3,d4,d5,d6,vs',h1,h2,h3⟩=>⟨d0,d1,d2,d3,d4,d5,d6,vs'++[c0,c1,c2,c3,c4,c5,c6],by rw[h1];rfl,h2,Dh.push hd ls vs' h3⟩
theorem Dh.at {P:Nat->Prop}{w:World}:∀(ls:List (List UInt8))(vs:List Value),Dh P w ls vs->∀(i:Nat)(l:List UInt8),ls[i]?=some l->∃c0 c1 c2 c3 c4 c5 c6,vs[i*7]?=some c0/\vs[i*7+1]?=some c1/\vs[i*7+2]?=some c2/\vs[i*7+3]?=some c3/\vs[i*7+4]?=some c4/\vs[i*7+5]?=some c5/\vs[i*7+6]?=some c6/\Ik P w (.agg #[c0,c1,c2,c3,c4,c5,c6]) l
 | [],_,_,i,l,q=>by simp at q
 | _::ls,_,⟨c0,c1,c2,c3,c4,c5,c6,vs',h1,h2,h3⟩,0,l,q=>by
  simp at q;subst q;subst h1;exact⟨c0,c1,c2,c3,c4,c5,c6,rfl,rfl,rfl,rfl,rfl,rfl,rfl,h2⟩
 | _::ls,_,⟨c0,c1,c2,c3,c4,c5,c6,vs',h1,h2,h3⟩,i+1,l,q=>by
  simp at q;subst h1;obtain⟨d0,d1,d2,d3,d4,d5,d6,g0,g1,g2,g3,g4,g5,g6,g7⟩:=Dh.at ls vs' h3 i l q;have e:(i+1)*7=i*7+7:=by omega
  refine⟨d0,d1,d2,d3,d4,d5,d6,?_,?_,?_,?_,?_,?_,?_,g7⟩<;>rw[e]<;>simpa using by assumption
def Jg (w:World)(b:Nat)(nm:ByteArray)(na:Int)(sl:Value):Prop:=w.heap[b]?=some (.cells #[.string nm,.int .i64 na,sl] 111 (0,0))
theorem Jg.of {w w':World}{b:Nat}{nm:ByteArray}{na:Int}{sl:Value}(h:Jg w b nm na sl){P:Nat->Prop}(f:Fr P w w')(hp:P b):Jg w' b nm na sl:=(f.block b (Ab h) hp).trans h
theorem Jg.rows {w:World}{b:Nat}{nm:ByteArray}{na:Int}{sl:Value}(h:Jg w b nm na sl)(v:Value):Jg (w.setCell ⟨b,2,none⟩ v) b nm na v:=by
 have:=Ah h 2 v;simpa [Jg] using this
def Vh (lo:Nat)(w:World)(b:Nat)(tx:List UInt8):Prop :=
 lo<=b/\∃nm na sl n vs ls,Jg w b nm na sl/\w.ownsRow lo 114 7 sl n vs/\n=ls.length/\n<=1000000/\Dh (fun k=>lo<=k) w ls vs/\tx=C3++[32]++nm.data.toList++[10]++Dw ls
theorem fU:(Tryz.prog.info? 114).map (fun i=>(i.zero,i.size,i.bytes))=some (some (.agg #[.string ⟨#[]⟩,.int .i64 0,.string ⟨#[]⟩,.int .i64 0,.slice none 0 0,.string ⟨#[]⟩,.pointer none]),7,96):=by kernel_rfl
theorem kY {a b c d e f g:Value}(ha:a.oneCell'=true)(hb:b.oneCell'=true)(hc:c.oneCell'=true)(hd:d.oneCell'=true)(he:e.oneCell'=true)(hf:f.oneCell'=true)(hg:g.oneCell'=true):∀u∈[a,b,c,d,e,f,g],u.oneCell'=true:=by
 intro u h;simp only[List.mem_cons,List.not_mem_nil,or_false] at h;rcases h with rfl|rfl|rfl|rfl|rfl|rfl|rfl<;>assumption
def eI (w:World)(br:Nat)(t:ByteArray)(r:Except (Nat×Nat) (List UInt8×Nat))(e:Ending)(w':World):Prop :=
 Fr (·≠br) w w'/\match r with
  | .ok (l,j)=>(∃b,e=.returned (.pointer (some ⟨b,0,none⟩))/\Vh w.heap.size w' b l)/\RdF w' br t j 0/\(tkF t.data.toList j).cl=0
  | .error (c,p)=>e=Flt c p
theorem bG {br bm n g cap j:Nat}{t nm:ByteArray}{na:Int}{w W8 Wa w9:World}{sl c0 c1 c2 c3 c4 c5 c6:Value}{vs:List Value}{ls:List (List UInt8)}{l:List UInt8}(hR:RdF W8 br t j 0)(hM:Jg W8 bm nm na sl)(hO:W8.ownsRow (bm+1) 114 7 sl n vs)
  (hV:Dh (fun k=>bm<k/\sl.ownBlock≠some k) W8 ls vs) (hd:Ik (fun k=>bm<k/\sl.ownBlock≠some k) W8 (.agg #[c0,c1,c2,c3,c4,c5,c6]) l) (hF:Fr (·≠br) w W8) (hwb:w.heap.size<=bm) (hbr:br<bm) (hA:Fr (fun _=>True) W8 Wa)
  (ho:w9.ownsRow (bm+1) 114 7 (.slice (some ⟨g,0,none⟩) (n+1) cap) (n+1) (vs++[c0,c1,c2,c3,c4,c5,c6])) (hg:Wa.grownBy w9 sl.ownBlock) (hat:sl.ownBlock=some g\/W8.heap.size<=g) :
  Jg w9 bm nm na sl/\RdF (w9.setCell ⟨bm,2,none⟩ (.slice (some ⟨g,0,none⟩) (n+1) cap)) br t j 0/\Jg (w9.setCell ⟨bm,2,none⟩ (.slice (some ⟨g,0,none⟩) (n+1) cap)) bm nm na (.slice (some ⟨g,0,none⟩) (n+1) cap) /\
  (w9.setCell ⟨bm,2,none⟩ (.slice (some ⟨g,0,none⟩) (n+1) cap)).ownsRow (bm+1) 114 7 (.slice (some ⟨g,0,none⟩) (n+1) cap) (n+1) (vs++[c0,c1,c2,c3,c4,c5,c6]) /\
  Dh (fun k=>bm<k/\(Value.slice (some ⟨g,0,none⟩) (n+1) cap).ownBlock≠some k) (w9.setCell ⟨bm,2,none⟩ (.slice (some ⟨g,0,none⟩) (n+1) cap)) (ls++[l]) (vs++[c0,c1,c2,c3,c4,c5,c6])/\Fr (·≠br) w (w9.setCell ⟨bm,2,none⟩ (.slice (some ⟨g,0,none⟩) (n+1) cap)):=by
 have d:Fr (fun k=>sl.ownBlock≠some k) W8 w9:=(hA.mono fun _ _=>trivial).trans ⟨hg.os,hg.tape,hg.output,hg.size,fun k hk hp=>hg.block k hk (fun e=>hp e.symm)⟩;have a:∀k,k<=bm->sl.ownBlock≠some k:=fun k hk e=>by have:=(hO.lt k e).1;omega
 have f:Fr (·≠bm) w9 (w9.setCell ⟨bm,2,none⟩ (.slice (some ⟨g,0,none⟩) (n+1) cap)):=(Fr.refl _ w9).set (by simp) _;have c:=hM.of d (a bm (Nat.le_refl _));have h:∀k,k<W8.heap.size->(bm<k/\sl.ownBlock≠some k)->(bm<k/\(Value.slice (some ⟨g,0,none⟩) (n+1) cap).ownBlock≠some k):=fun k hk q=>⟨q.1,fun e=>by
   have m:g=k:=by simpa [Value.ownBlock] using e
   subst m;rcases hat with i|i
   ·exact q.2 i
   ·omega⟩
 have o:=hF.size;have b:Fr (fun k=>sl.ownBlock≠some k/\k≠bm) W8 (w9.setCell ⟨bm,2,none⟩ (.slice (some ⟨g,0,none⟩) (n+1) cap)):=(d.mono fun _ q=>q.1).trans (f.mono fun _ q=>q.2);refine⟨c,RdF.of hR b ⟨a br (by omega),by omega⟩,c.rows _,G5 ho (fun g' _ hg' hlt=>f.block g' hlt (by omega)),?_,?_⟩
 ·exact Dh.push (Ik.fr (f.mono fun k q=>by omega) (fun _ _ q=>q) (hd.fr (d.mono fun _ q=>q.2) h)) _ _ (Dh.fr (f.mono fun k q=>by omega) (fun _ _ q=>q) _ _ (Dh.fr (d.mono fun _ q=>q.2) h _ _ hV))
 ·exact⟨b.os.trans hF.os,b.tape.trans hF.tape,b.output.trans hF.output,Nat.le_trans hF.size b.size,fun k hk hp=>(b.block k (by omega) ⟨a k (by omega),by omega⟩).trans (hF.block k hk hp)⟩
theorem Ni {br:Nat}{t:ByteArray}{self:Nat->Nat->Nat->RX PX}(hS:Ax br t self)(w:World)(m:Nat)(ht:t.size<=4000)(hm:m<=900000)(hI:Bl w br)(hr:RdF w br t 0 0)
  (r:Except (Nat×Nat) (List UInt8×Nat)) (h:Iw (tkF t.data.toList) self m 0=some r) :
  Calls Tryz.prog 54 #[.pointer (some ⟨br,0,none⟩)] w (eI w br t r):=by
 have HS:Hid (Ax br t self):=hS;have HI:Hid (Bl w br):=hI;have HD:Hid (∀(W:World)(m:ByteArray)(k:Nat)(b:Bool),_):=fun W m k b h=>Cj W br t m k 0 h ht b;have HX:Hid (Iw (tkF t.data.toList) self m 0=some r):=h;have R0:Hid (RdF w br t 0 0):=hr;have c8:=Ab hr;obtain⟨i0,c0,c4,c5,V⟩:∃i0,Tryz.prog.info? 114=some i0/\i0.zero=some (.agg #[.string ⟨#[]⟩,.int .i64 0,.string ⟨#[]⟩,.int .i64 0,.slice none 0 0,.string ⟨#[]⟩,.pointer none])/\i0.size=7/\i0.bytes=96:=by
  have:=fU;cases hq:Tryz.prog.info? 114 with
  | none=>rw[hq] at this;simp at this
  | some j=>rw[hq] at this;simp at this;exact⟨j,rfl,this.1,this.2.1,this.2.2⟩
 clear hI hS hr h;have mo:=follows;go_enter Tryz.func54,Tryz.ntmps54
 go_wp2_with fail
 have h:=HX.out;unfold Iw at h;rcases Bk h with⟨hb,h2⟩|⟨hb,rfl⟩
 case inr =>
  refine(HD.out w ⟨#[109,111,100,117,108,101]⟩ 0 false R0.out hb).mono ?_;rintro e B ⟨s,⟨q,-⟩|⟨-,rfl⟩⟩
  ·simp at q
  ·exact⟨rfl,s,rfl⟩
 refine(HD.out w ⟨#[109,111,100,117,108,101]⟩ 0 true R0.out hb).mono ?_;rintro e w1 ⟨s,⟨-,rfl,hr⟩|⟨q,-⟩⟩
 case inr=>simp at q
 have M:Hid (RdF w1 br t (0+1) 0):=hr;have G:Hid (Fr (·≠br) w w1):=s;clear s hr hb h HX R0;go_wp2_with fail
 rcases Aq h2 with⟨⟨c,p⟩,D,rfl⟩|⟨n,j,D,hk⟩
 ·refine(C6 w1 br t (0+1) 0 M.out ht _ D).mono ?_;rintro e B ⟨s,rfl⟩;exact⟨rfl,G.out.trans s,rfl⟩
 refine(C6 w1 br t (0+1) 0 M.out ht _ D).mono ?_;rintro e B ⟨s,rfl,hr⟩;have HN:Hid ((pcF t (0+1)).data.toList=n/\n≠[]):=Nz D;obtain⟨x,b5⟩:∃x,pcF t (0+1)=x:=⟨_,rfl⟩;obtain⟨C,a5⟩:∃C,atF t.data.toList (0+1)=C:=⟨_,rfl⟩;rw[b5] at HN |-;rw[a5];have U:Hid (RdF B br t j 0):=hr;have H:Hid (Fr (·≠br) w B):=G.out.trans s;have HK:Hid (Es (tkF t.data.toList) self m m (C3++[32]++n++[10]) j=some r):=hk;have V:=G.out.size;clear s hr D hk h2 b5 a5 M G;have b7:=H.out.size;have b3:=Ab U.out;have g3:Ag B (B.alloc (.cells #[.string x,.int .i64 (C:Int),.slice none 0 0] 111)):=(Ag.refl B).alloc _;have M3:Hid (Jg (B.alloc (.cells #[.string x,.int .i64 (C:Int),.slice none 0 0] 111)) B.heap.size x (C:Int) (.slice none 0 0)):=Aj rfl;have R3:Hid (RdF (B.alloc (.cells #[.string x,.int .i64 (C:Int),.slice none 0 0] 111)) br t j 0):=RdF.of U.out (P:=fun _=>True) (Fr.grew g3) trivial;have F3:Hid (Fr (·≠br) w (B.alloc (.cells #[.string x,.int .i64 (C:Int),.slice none 0 0] 111))):=H.out.trans (Fr.grew g3);have T:Hid (C3++[32]++n++[10]=C3++[32]++x.data.toList++[10]++Dw []):=by show _=_;rw[HN.out.1];simp[Dw]
 clear g3;go_upto_region 3 with fail
 generalize B.alloc (.cells #[.string x,.int .i64 (C:Int),.slice none 0 0] 111)=w3 at M3 R3 F3 |-;obtain⟨f,a8⟩:∃f,B.heap.size=f:=⟨_,rfl⟩;rw[a8] at M3 b7 b3 |-;clear a8 U H V HN;have a9:f≠br:=by omega
 generalize C3++[32]++n++[10]=acc0 at HK T;go_loopg [] (m) (fun k wr=>∃(j n:Nat)(y:List UInt8)(sl:Value)(F:List Value)(J:List (List UInt8)),n+k<=m/\Hid (RdF wr br t j 0)/\Hid (Jg wr f x (C:Int) sl)/\Hid (wr.ownsRow (f+1) 114 7 sl n F)/\Hid (Dh (fun k=>f<k/\sl.ownBlock≠some k) wr J F)/\Hid (n=J.length)/\Hid (y=C3++[32]++x.data.toList++[10]++Dw J)/\Hid (Es (tkF t.data.toList) self m k y j=some r)/\Hid (Fr (·≠br) w wr))
 case atStart=>exact⟨j,0,acc0,.slice none 0 0,[],[],by omega,R3,M3,World.ownsRow_nil _ _ _ _,rfl,rfl,T,HK,F3⟩
 case round =>
  clear R3 M3 F3 T HK;obtain⟨j,n,y,sl,F,J,d0,M,Y,O1,V1,EN,EA,Q1,G⟩:=hrel;obtain⟨k,rfl⟩:∃k,gk=k+1:=by
   cases gk with
   | zero=>exact absurd Q1.out (by simp[Es])
   | succ k=>exact⟨k,rfl⟩
  have S:=Q1.out;rw[Es] at S;have N:(tkF t.data.toList j).cl=clF t.data.toList j:=rfl;have c3:=Aa M.out 3;have d1:=G.out.size;obtain⟨z,A,rfl⟩:∃z A,sl=.slice z n A:=by
   rcases O1.out.2 with⟨rfl,D⟩|⟨g,a1,c6,rfl,-⟩
   ·exact⟨none,0,by rw[D]⟩
   ·exact⟨_,a1,rfl⟩
  by_cases Z:(tkF t.data.toList j).cl=0
  ·rw[if_pos Z] at S;have HR:Hid (r=.ok (y,j)):=by simp only[okX,Option.some.injEq] at S;exact S.symm
   have HH:Hid (eI w br t r (.returned (.pointer (some ⟨f,0,none⟩))) wr):=by
    rw[HR.out];exact⟨G.out,⟨f,rfl,by omega,x,_,_,n,F,J,Y.out,I2 (by omega) O1.out,EN.out,by omega,Dh.fr (Fr.refl _ _) (fun k _ q=>by omega) _ _ V1.out,EA.out⟩,M.out,Z⟩
   rw[<- N,Z] at c3;clear S HR Y O1 V1 EN EA Q1 G M N Z;go_wp2_with fail
   go_ret
   exact HH.out
  ·rw[if_neg Z] at S;have b1:(((clF t.data.toList j:Nat):Int) != 0)=true:=by rw[<- N];simp;omega
   obtain⟨cj,b2⟩:∃cj,clF t.data.toList j=cj:=⟨_,rfl⟩;rw[b2] at c3 b1;clear N Z b2 Q1;go_wp2_with fail
   clear c3 b1;have g2:Ag wr wr.drew:=(Ag.refl _).drew;have M2:Hid (Jg wr.drew f x (C:Int) (.slice z n A)):=Y.out.of (P:=fun _=>True) (Fr.grew g2) trivial;have c2:=Aa Y.out 2;have k2:=Aa M2.out 2;have U:Hid (RdF wr.drew br t j 0):=RdF.of M.out (P:=fun _=>True) (Fr.grew g2) trivial;have H:Hid (Fr (·≠br) w wr.drew):=G.out.drew;have O2:Hid (wr.drew.ownsRow (f+1) 114 7 (.slice z n A) n F):=G5 O1.out (fun g _ _ hlt=>g2.below.block g hlt);have V2:Hid (Dh (fun k=>f<k/\(Value.slice z n A).ownBlock≠some k) wr.drew J F):=Dh.fr (Fr.grew g2) (fun _ _ q=>q) _ _ V1.out;have a7:f<wr.heap.size:=Ab Y.out;clear g2 M G O1 V1;rcases Aq S with⟨⟨c,p⟩,D,rfl⟩|⟨l,j2,D,hk⟩
   ·have HC:Hid (Calls _ _ _ _ _):=Rt HS.out wr.drew m j ht (by omega) (HI.out.fr H.out) U.out _ D;refine wp_region_any (by kernel_rfl) ?_;change wpAny _ _ _ _ _ _ _ (World.drew _);refine wpAny_take (i:=0) (v:=.pointer (some ⟨f,0,none⟩)) rfl (by kernel_rfl) (by kernel_rfl) (by kernel_rfl) (fun _ _ _ h=>h) (Or.inl ⟨by rfl,by intro w;go_simp⟩) ?_;refine wpAny_take (i:=1) (v:=.pointer (some ⟨f,0,none⟩)) rfl (by kernel_rfl) (by kernel_rfl) (by kernel_rfl) (fun _ _ _ h=>h) (Or.inl ⟨by rfl,by intro w;go_simp⟩) ?_;refine wpAny_take (i:=5) (v:=.pointer (some ⟨br,0,none⟩)) rfl (by kernel_rfl) (by kernel_rfl) (by kernel_rfl) (fun _ _ _ h=>h) (Or.inl ⟨by rfl,by intro w;go_simp⟩) ?_;refine wpAny_take (i:=2) (v:=.pointer (some ⟨f,0,none⟩)) rfl (by kernel_rfl) (by kernel_rfl) (by kernel_rfl) (fun _ _ _ h=>h) (Or.inl ⟨by rfl,by intro w;go_simp⟩) ?_;refine wpAny_take (i:=3) (v:=.pointer (some ⟨f,2,none⟩)) rfl (by kernel_rfl) (by kernel_rfl) (by kernel_rfl) (fun _ _ _ h=>h) (Or.inl ⟨by rfl,by intro w;go_simp⟩) ?_;refine wpAny_ready (rs:=[4,6]) (by kernel_rfl) (by simp) ?_;refine AllReady.cons rfl (fun K hK=>?_) (AllReady.cons rfl (fun K hK=>?_) AllReady.nil)
    ·go_simp
     refine hK _ _ ?_;clear hK K;refine wpAny_ready (rs:=[6]) (by kernel_rfl) (by simp) ?_;refine AllReady.cons rfl (fun K hK=>?_) AllReady.nil;go_simp
     refine HC.out.mono ?_;rintro e o ⟨s,rfl⟩;exact⟨rfl,H.out.trans s,rfl⟩
    ·go_simp
     refine HC.out.mono ?_;rintro e o ⟨s,rfl⟩;exact⟨rfl,H.out.trans s,rfl⟩
   have HC:Hid (Calls _ _ _ _ _):=Rt HS.out wr.drew m j ht (by omega) (HI.out.fr H.out) U.out _ D;have b4:n+1<=maxLen:=by unfold maxLen;omega
   have b0:(n+1)*96<=140737488355328:=by omega
   have b8:Hid (Es (tkF t.data.toList) self m k (y++l++[10]) j2=some r):=hk;clear S D hk;have b6:∀g,(Value.slice z n A).ownBlock=some g->g<wr.drew.heap.size:=fun g e=>(O2.out.lt g e).2;have a0:Hid (∀(o:World)(v:Value),Fr (·≠br) wr.drew o->Ik (fun k=>wr.drew.heap.size<=k) o v l->∃d a I L Q X R u O,v=.agg #[.string d,.int .i64 a,.string I,.int .i64 L,.slice Q X R,.string u,.pointer O]/\Jg o f x (C:Int) (.slice z n A)/\o.ownsRow (f+1) 114 7 (.slice z n A) n F/\(o.alloc (.cells #[.string d,.int .i64 a,.string I,.int .i64 L,.slice Q X R,.string u,.pointer O] 114)).ownsRow (f+1) 114 7 (.slice z n A) n F/\f+1<=(o.alloc (.cells #[.string d,.int .i64 a,.string I,.int .i64 L,.slice Q X R,.string u,.pointer O] 114)).heap.size/\(o.alloc (.cells #[.string d,.int .i64 a,.string I,.int .i64 L,.slice Q X R,.string u,.pointer O] 114)).heap[o.heap.size]?=some (.cells #[.string d,.int .i64 a,.string I,.int .i64 L,.slice Q X R,.string u,.pointer O] 114 (0,0))/\Dh (fun k=>f<k/\(Value.slice z n A).ownBlock≠some k) o J F/\Ik (fun k=>f<k/\(Value.slice z n A).ownBlock≠some k) o v l):=by
    intro o v s hv;obtain⟨d,a,I,L,ns,u,px,E,ox,e1,e2,e3,e4⟩:=hv;obtain⟨Q,R,rfl⟩:=e2.1.slice;obtain⟨O,rfl⟩:=e3.ptr;have c7:f<wr.drew.heap.size:=by simp;exact a7
    have c1:Ik (fun k=>f<k/\(Value.slice z n A).ownBlock≠some k) o v l:=Ik.fr (Fr.refl _ _) (fun k _ q=>⟨by omega,fun e=>by have:=b6 k e;omega⟩) ⟨d,a,I,L,_,u,_,E,ox,e1,e2,e3,e4⟩;have a3:o.ownsRow (f+1) 114 7 (.slice z n A) n F:=G5 O2.out fun g _ hg hlt=>s.block g hlt (by omega);refine⟨d,a,I,L,Q,E.length,R,u,O,e1,M2.out.of s a9,a3,a3.alloc _,?_,Aj rfl,Dh.fr (s.mono fun k q=>by omega) (fun _ _ q=>q) _ _ V2.out,c1⟩;have:=s.size;simp;omega
   go_region_law (first
    | (
     refine step_append_lies _ rfl _ _ 109 rfl (f+1) 114 i0 _ 7 96 Tryz.underlying109 c0 c4 c5 V rfl (by decide) (.slice z n A) n F (by simp[Act.eval]) OW.out _ 1 1 [.string d,.int .i64 a,.string I,.int .i64 L,.slice Q X R,.string u,.pointer O] (by simp[Act.eval]) rfl (World.news_of_block NB.out) (kY rfl rfl rfl rfl rfl rfl rfl) (by decide) b4 b0 LW.out (o.heap.size+1) (by simp) ?_;intro g a1 w9 ho hg a6 hlt;obtain⟨p1,p2,p3,p4,p5,p6⟩:=bG R8.out M8.out O8.out V8.out D8.out F8.out b7 b3 ((Fr.refl (fun _=>True) o).alloc _) ho hg (a6.imp id (fun e=>by omega));have c9:=Aa p1 2;have f9:=Ac p1 2;have l9:=Ab p1;have RZ:Hid (RdF _ _ _ _ _):=p2;have MX:Hid (Jg _ _ _ _ _):=p3;have OX:Hid (World.ownsRow _ _ _ _ _ _ _):=p4;have VX:Hid (Dh _ _ _ _):=p5;have FX:Hid (Fr _ _ _):=p6;clear ho hg a6 hlt p1 p2 p3 p4 p5 p6)
    | (go_simp;go_wp2_with (go_at_call 87;refine HC.out.mono ?_;rintro e o ⟨s,⟨v,rfl,hv⟩,hr⟩;obtain⟨d,a,I,L,Q,X,R,u,O,rfl,hM,hO,a4,hL,hN,hV,a2⟩:=a0.out o v s hv;have R8:Hid (RdF o br t j2 0):=hr;have F8:Hid (Fr (·≠br) w o):=H.out.trans s;have M8:Hid (Jg o f x (C:Int) (.slice z n A)):=hM;have O8:Hid (World.ownsRow _ _ _ _ _ _ _):=hO;have OW:Hid (World.ownsRow _ _ _ _ _ _ _):=a4;have LW:Hid (_<=_):=hL;have NB:Hid (_=_):=hN;have V8:Hid (Dh _ _ _ _):=hV;have D8:Hid (Ik _ _ _ _):=a2;have k8:=Aa hM 2;have b9:f<o.heap.size:=Ab hM;clear hr s hv hM hO a4 hL hN hV a2)))
   all_goals
    clear c9 f9 l9 c2 k2 k8 b9 a0 HC LW NB OW R8 F8 M8 O8 V8 D8 U H M2 O2 V2 Y b4 b0 b6 a7;have E1:Hid (n+1=(J++[l]).length):=by show _=_;rw[List.length_append,EN.out];rfl
    have E2:Hid (y++l++[10]=C3++[32]++x.data.toList++[10]++Dw (J++[l])):=by show _=_;rw[EA.out,Pr];simp
    clear EN EA;generalize w9.setCell ⟨f,2,none⟩ _=WX at RZ MX OX VX FX |-;go_wp2_with fail
    go_roundg k
    case measure=>omega
    case rel=>exact⟨j2,n+1,y++l++[10],_,_,J++[l],by omega,RZ,MX,OX,VX,E1,E2,b8,FX⟩
end Go.Proofs.YtjbfcadeapphbaaGreatDoor.Sx
