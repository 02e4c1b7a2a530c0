/- The reference: what begins with a word: fixed words. -/
import Derived.Test.YtjbfcadeapphbaaGreatDoorE23
namespace Go.Proofs.YtjbfcadeapphbaaGreatDoor.Sx
set_option maxRecDepth 100000
set_option maxHeartbeats 2000000
open Go.RowKit Go.Sort
def Kc (K:Nat->Tk)(N:Nat)(w:World)(br bl be d:Nat)(r:Except (Nat×Nat) (PX×Nat))(e:Ending)(w':World):Prop :=
 Fr (fun k=>k≠br/\k≠be) w w'/\RSd K N w' br bl (stX r) d/\e=.returned (.pointer (some ⟨be,0,none⟩))/\∀x j,r=.ok (x,j)->Ag (fun k=>k=be\/w.heap.size<=k) w' x (.pointer (some ⟨be,0,none⟩))
theorem Ag.leaf {P:Nat->Prop}{w:World}{be:Nat}{op nm tx:ByteArray}{a k n:Int}{x:PX}(h:Ao w be op a nm k n tx none 0 0)(hp:P be)(hm:Fo op.data.toList nm.data.toList k n tx.data.toList [] x):Ag P w x (.pointer (some ⟨be,0,none⟩)) :=
 Ag.node ⟨be,op,nm,tx,a,k,n,none,0,0,[],rfl,hp,h,Fb _,hm⟩
theorem Ox (b:Bool)(n:Int)(hn:n=if b then 1 else 0)(w:World):Calls Tryz.prog 138 #[.bool b] w fun e w'=>e=.returned (.agg #[.int .i64 1,.int .i64 n,.string ⟨#[]⟩,.slice none 0 0,.slice none 0 0])/\Ad w w':=by
 subst hn;cases b with
 | true =>
  go_enter Tryz.func138,Tryz.ntmps138
  go_wp2_with fail
  refine bodyPost_ret (v:=.agg #[.int .i64 1,.int .i64 1,.string ⟨#[]⟩,.slice none 0 0,.slice none 0 0]) (by simp[results,Tryz.results138,go_sem]) rfl ?_;exact⟨rfl,(Ad.refl w).alloc _⟩
 | false =>
  go_enter Tryz.func138,Tryz.ntmps138
  go_wp2_with fail
  refine bodyPost_ret (v:=.agg #[.int .i64 1,.int .i64 0,.string ⟨#[]⟩,.slice none 0 0,.slice none 0 0]) (by simp[results,Tryz.results138,go_sem]) rfl ?_;exact⟨rfl,(Ad.refl w).alloc _⟩
theorem RSd.block {K:Nat->Tk}{N br bl i d:Nat}{w:World}(h:RSd K N w br bl (.ok i) d):w.cell? ⟨br,1,none⟩=some (.int .i64 (i:Int))/\w.frozen? ⟨br,1,none⟩=false:=by
 obtain⟨g,⟨c,I,b,a,j,e,k,f⟩,-⟩:=h;obtain rfl:I=i:=f;exact⟨Aa a 1,Ac a 1⟩
theorem RSd.next {K:Nat->Tk}{N br bl i d:Nat}{w:World}(h:RSd K N w br bl (.ok i) d)(hi:i<N):RSd K N (w.setCell ⟨br,1,none⟩ (.int .i64 ((i:Int)+1))) br bl (.ok (i+1)) d:=by
 obtain⟨f,⟨c,I,b,k,m,a,j,l⟩,e⟩:=h;obtain rfl:I=i:=l;have g:Fr (·≠br) w (w.setCell ⟨br,1,none⟩ (.int .i64 ((I:Int)+1))):=(Fr.refl _ w).set (by simp) _;exact⟨f,⟨c,I+1,b,k.setI (I+1),hi,a,j.of g a,rfl⟩,fun _=>e ⟨I,rfl⟩⟩
def aU (w:World)(b:Nat)(n:Int):World:=((((w.setCell ⟨b,3,none⟩ (.int .i64 1)).setCell ⟨b,4,none⟩ (.int .i64 n)).setCell ⟨b,5,none⟩ (.string ⟨#[]⟩)).setCell ⟨b,6,none⟩ (.slice none 0 0)).setCell ⟨b,7,none⟩ (.slice none 0 0)
theorem Ao.val {w:World}{b:Nat}{op nm tx:ByteArray}{a k n:Int}{pa:Option Addr}{len cap:Nat}(h:Ao w b op a nm k n tx pa len cap)(m:Int):Ao (aU w b m) b op a nm 1 m ⟨#[]⟩ pa len cap:=by
 have:=Aj (Aj (Aj (Aj (Aj h 3 (.int .i64 1)) 4 (.int .i64 m)) 5 (.string ⟨#[]⟩)) 6 (.slice none 0 0)) 7 (.slice none 0 0);simpa [Ao,aU] using this
theorem Fr.val {P:Nat->Prop}{a w:World}{b:Nat}(h:Fr P a w)(hp:¬P b)(m:Int):Fr P a (aU w b m):=((((h.set (p:=⟨b,3,none⟩) hp _).set (p:=⟨b,4,none⟩) hp _).set (p:=⟨b,5,none⟩) hp _).set (p:=⟨b,6,none⟩) hp _).set (p:=⟨b,7,none⟩) hp _
theorem U3 {K:Nat->Tk}{N br bl:Nat}{self:Nat->Nat->Nat->RX PX}(hK:∀i,Bz (K i))(hL:Bn K N)(hN:N<=1000000)(w:World)(be d m i:Nat)(a0:Int)(hbe:be≠br)(hbl0:be≠bl)(h:RSd K N w br bl (.ok i) d)(he:Ao w be ⟨#[]⟩ a0 ⟨#[]⟩ 0 0 ⟨#[]⟩ none 0 0)
  (hk:(K i).tx=[110,105,108]) (r:Except (Nat×Nat) (PX×Nat)) (hr:D3 K self m d i=some r) :
  Calls Tryz.prog 107 #[.pointer (some ⟨br,0,none⟩),.pointer (some ⟨be,0,none⟩)] w (Kc K N w br bl be d r):=by
 have M:Hid (RSd K N w br bl (.ok i) d):=h;have L:Hid (Ao w be ⟨#[]⟩ a0 ⟨#[]⟩ 0 0 ⟨#[]⟩ none 0 0):=he;obtain⟨S,O,Z,k,U,V,v,B,C,D⟩:=h.open;obtain⟨a,H,I,J⟩:=RS.cells k v B C D;have Q:=Aa k 0;have R:=Aa k 1;have X:=Aa a 0;have Y:=Aa a 1;have y:=Ab k;have u:(i:Int)<((N+1:Nat):Int):=by omega
 have mo:=follows;have A:i<N:=hL.lt U (m:=[110,105,108]) (by rw[hk];rfl) (by decide);have p:B2 (K i)=⟨#[110,105,108]⟩:=ByteArray.ext (by have:=C8 hK (by decide) hk;exact Array.ext' this);obtain rfl:.ok (B8 [110,105,108],i+1)=r:=by
  have:Eg.contains (K i).tx=true:=by rw[hk];rfl
  unfold D3 at hr;rw[if_pos this,hk] at hr;simpa [okX] using hr
 obtain⟨c,o⟩:∃c,Bg (K i).cl=c:=⟨_,rfl⟩;obtain⟨b,g⟩:∃b,(K i).at'=b:=⟨_,rfl⟩;rw[o] at B H;rw[p] at C I;rw[g] at D J;have l:=Ab he;clear k a h hK hL o p g hr hk he;go_enter Tryz.func107,Tryz.ntmps107
 go_wp2_with fail
 go_big_region_o
 have t:Hid (Ap _ w.heap.size c ⟨#[110,105,108]⟩ (b:Int)):=Ap.new w c ⟨#[110,105,108]⟩ (b:Int);have q:Hid (Ad w (w.alloc (.cells #[.int .u8 (c:Int),.string ⟨#[110,105,108]⟩,.int .i64 (b:Int)] 55)).drew):=((Ad.refl w).alloc _).drew;clear Q R X Y H I J B C D u;generalize (w.alloc (.cells #[.int .u8 (c:Int),.string ⟨#[110,105,108]⟩,.int .i64 (b:Int)] 55)).drew=W1 at q t |-;obtain⟨f,n⟩:∃f,w.heap.size=f:=⟨_,rfl⟩;rw[n] at t y l |-;have W:f<=w.heap.size:=by omega
 clear n;have F:f≠br:=by omega
 have G:f≠be:=by omega
 have E:Hid (RSd K N W1 br bl (.ok i) d):=M.out.grew q.out;have s:Hid (Ao W1 be ⟨#[]⟩ a0 ⟨#[]⟩ 0 0 ⟨#[]⟩ none 0 0):=L.out.of (P:=fun _=>True) (Fr.grew q.out) trivial;have q1:=Aa t.out 1;obtain⟨e1,f1⟩:=E.out.block;have x0:=Aa s.out 0;have g0:=Ac s.out 0;go_wp2_with fail
 go_ret
 have z:Fr (·≠be) (W1.setCell ⟨br,1,none⟩ (.int .i64 ((i:Int)+1))) ((W1.setCell ⟨br,1,none⟩ (.int .i64 ((i:Int)+1))).setCell ⟨be,0,none⟩ (.string ⟨#[118,97,108,117,101]⟩)):=(Fr.refl _ _).set (by simp) _;have T:Ao (W1.setCell ⟨br,1,none⟩ (.int .i64 ((i:Int)+1))) be ⟨#[]⟩ a0 ⟨#[]⟩ 0 0 ⟨#[]⟩ none 0 0:=s.out.of (P:=(·≠br)) ((Fr.refl _ W1).set (by simp) _) hbe;exact⟨((Fr.grew q.out).set (by simp) _).set (by simp) _,(E.out.next A).fr z (Ne.symm hbe) (Ne.symm hbl0),rfl,fun x j e=>by simp at e;rw[<- e.1];exact Ag.leaf (T.op ⟨#[118,97,108,117,101]⟩) (.inl rfl) (.inl ⟨rfl,.inl ⟨rfl,rfl⟩⟩)⟩
theorem Sl {K:Nat->Tk}{N br bl:Nat}{self:Nat->Nat->Nat->RX PX}(hK:∀i,Bz (K i))(hL:Bn K N)(hN:N<=1000000)(w:World)(be d m i:Nat)(a0:Int)(hbe:be≠br)(hbl0:be≠bl)(h:RSd K N w br bl (.ok i) d)(he:Ao w be ⟨#[]⟩ a0 ⟨#[]⟩ 0 0 ⟨#[]⟩ none 0 0)
  (hk:(K i).tx=[116,114,117,101]) (r:Except (Nat×Nat) (PX×Nat)) (hr:D3 K self m d i=some r) :
  Calls Tryz.prog 107 #[.pointer (some ⟨br,0,none⟩),.pointer (some ⟨be,0,none⟩)] w (Kc K N w br bl be d r):=by
 have Z:Hid (RSd K N w br bl (.ok i) d):=h;have Y:Hid (Ao w be ⟨#[]⟩ a0 ⟨#[]⟩ 0 0 ⟨#[]⟩ none 0 0):=he;obtain⟨a2,a1,dd,p,hI,a3,H,M,O,Q⟩:=h.open;obtain⟨b,T,U,V⟩:=RS.cells p H M O Q;have c0:=Aa p 0;have c1:=Aa p 1;have k0:=Aa b 0;have k1:=Aa b 1;have I:=Ab p;have G:(i:Int)<((N+1:Nat):Int):=by omega
 have mo:=follows;have L:i<N:=hL.lt hI (m:=[116,114,117,101]) (by rw[hk];rfl) (by decide);have y:B2 (K i)=⟨#[116,114,117,101]⟩:=ByteArray.ext (by have:=C8 hK (by decide) hk;exact Array.ext' this);obtain rfl:.ok (B8 [116,114,117,101],i+1)=r:=by
  have:Eg.contains (K i).tx=true:=by rw[hk];rfl
  unfold D3 at hr;rw[if_pos this,hk] at hr;simpa [okX] using hr
 obtain⟨g,v⟩:∃g,Bg (K i).cl=g:=⟨_,rfl⟩;obtain⟨f,o⟩:∃f,(K i).at'=f:=⟨_,rfl⟩;rw[v] at M T;rw[y] at O U;rw[o] at Q V;have s:=Ab he;clear p b h hK hL v y o hr hk he;go_enter Tryz.func107,Tryz.ntmps107
 go_wp2_with fail
 go_big_region_o
 have A:Hid (Ap _ w.heap.size g ⟨#[116,114,117,101]⟩ (f:Int)):=Ap.new w g ⟨#[116,114,117,101]⟩ (f:Int);have l:Hid (Ad w (w.alloc (.cells #[.int .u8 (g:Int),.string ⟨#[116,114,117,101]⟩,.int .i64 (f:Int)] 55)).drew):=((Ad.refl w).alloc _).drew;clear c0 c1 k0 k1 T U V M O Q G;generalize (w.alloc (.cells #[.int .u8 (g:Int),.string ⟨#[116,114,117,101]⟩,.int .i64 (f:Int)] 55)).drew=W1 at l A |-;obtain⟨n,t⟩:∃n,w.heap.size=n:=⟨_,rfl⟩;rw[t] at A I s |-;have a4:n<=w.heap.size:=by omega
 clear t;have R:n≠br:=by omega
 have S:n≠be:=by omega
 have E:Hid (RSd K N W1 br bl (.ok i) d):=Z.out.grew l.out;have z:Hid (Ao W1 be ⟨#[]⟩ a0 ⟨#[]⟩ 0 0 ⟨#[]⟩ none 0 0):=Y.out.of (P:=fun _=>True) (Fr.grew l.out) trivial;have q1:=Aa A.out 1;obtain⟨e1,f1⟩:=E.out.block;have x0:=Aa z.out 0;have g0:=Ac z.out 0;have HT:Hid (∀W:World,_):=fun W=>Ox true 1 rfl W;have C:Hid (Ao ((W1.setCell ⟨br,1,none⟩ (.int .i64 ((i:Int)+1))).setCell ⟨be,0,none⟩ (.string ⟨#[118,97,108,117,101]⟩)) be ⟨#[118,97,108,117,101]⟩ a0 ⟨#[]⟩ 0 0 ⟨#[]⟩ none 0 0):=(z.out.of (P:=(·≠br)) ((Fr.refl _ W1).set (by simp) _) hbe).op _;have u:Fr (·≠be) (W1.setCell ⟨br,1,none⟩ (.int .i64 ((i:Int)+1))) ((W1.setCell ⟨br,1,none⟩ (.int .i64 ((i:Int)+1))).setCell ⟨be,0,none⟩ (.string ⟨#[118,97,108,117,101]⟩)):=(Fr.refl _ _).set (by simp) _;have F:Hid (RSd K N _ br bl (.ok (i+1)) d):=(E.out.next L).fr u (Ne.symm hbe) (Ne.symm hbl0);have D:Hid (Fr (fun k=>k≠br/\k≠be) w ((W1.setCell ⟨br,1,none⟩ (.int .i64 ((i:Int)+1))).setCell ⟨be,0,none⟩ (.string ⟨#[118,97,108,117,101]⟩))):=((Fr.grew l.out).set (by simp) _).set (by simp) _;clear u;go_wp2_with fail
 clear q1 e1 f1 x0 g0 A E z l;generalize (W1.setCell ⟨br,1,none⟩ (.int .i64 ((i:Int)+1))).setCell ⟨be,0,none⟩ (.string ⟨#[118,97,108,117,101]⟩)=W2 at C F D |-;refine(HT.out W2).mono ?_;rintro e c ⟨rfl,B⟩;have a:Hid (Ao c be ⟨#[118,97,108,117,101]⟩ a0 ⟨#[]⟩ 0 0 ⟨#[]⟩ none 0 0):=C.out.of (P:=fun _=>True) (Fr.grew B) trivial;have R3:Hid (RSd K N c br bl (.ok (i+1)) d):=F.out.grew B;have X:Hid (Fr (fun k=>k≠br/\k≠be) w c):=D.out.trans (Fr.grew B);clear B C F D;have x3:=Aa a.out 3;have x4:=Aa a.out 4;have x5:=Aa a.out 5;have x6:=Aa a.out 6;have x7:=Aa a.out 7;have y3:=Ac a.out 3;have y4:=Ac a.out 4;have y5:=Ac a.out 5;have y6:=Ac a.out 6;have y7:=Ac a.out 7;go_wp2_with fail
 go_ret
 have J:Fr (·≠be) c (aU c be 1):=(Fr.refl _ c).val (by simp) 1;exact⟨X.out.val (fun q=>q.2 rfl) 1,R3.out.fr J (Ne.symm hbe) (Ne.symm hbl0),rfl,fun x j e=>by simp at e;rw[<- e.1];exact Ag.leaf (a.out.val 1) (.inl rfl) (.inl ⟨rfl,.inr (.inl ⟨rfl,rfl,rfl⟩)⟩)⟩
theorem Qn {K:Nat->Tk}{N br bl:Nat}{self:Nat->Nat->Nat->RX PX}(hK:∀i,Bz (K i))(hL:Bn K N)(hN:N<=1000000)(w:World)(be d m i:Nat)(a0:Int)(hbe:be≠br)(hbl0:be≠bl)(h:RSd K N w br bl (.ok i) d)(he:Ao w be ⟨#[]⟩ a0 ⟨#[]⟩ 0 0 ⟨#[]⟩ none 0 0)
  (hk:(K i).tx=[102,97,108,115,101]) (r:Except (Nat×Nat) (PX×Nat)) (hr:D3 K self m d i=some r) :
  Calls Tryz.prog 107 #[.pointer (some ⟨br,0,none⟩),.pointer (some ⟨be,0,none⟩)] w (Kc K N w br bl be d r):=by
 have Z:Hid (RSd K N w br bl (.ok i) d):=h;have Y:Hid (Ao w be ⟨#[]⟩ a0 ⟨#[]⟩ 0 0 ⟨#[]⟩ none 0 0):=he;obtain⟨a2,a1,dd,p,hI,a3,H,M,O,Q⟩:=h.open;obtain⟨b,T,U,V⟩:=RS.cells p H M O Q;have c0:=Aa p 0;have c1:=Aa p 1;have k0:=Aa b 0;have k1:=Aa b 1;have I:=Ab p;have G:(i:Int)<((N+1:Nat):Int):=by omega
 have mo:=follows;have L:i<N:=hL.lt hI (m:=[102,97,108,115,101]) (by rw[hk];rfl) (by decide);have y:B2 (K i)=⟨#[102,97,108,115,101]⟩:=ByteArray.ext (by have:=C8 hK (by decide) hk;exact Array.ext' this);obtain rfl:.ok (B8 [102,97,108,115,101],i+1)=r:=by
  have:Eg.contains (K i).tx=true:=by rw[hk];rfl
  unfold D3 at hr;rw[if_pos this,hk] at hr;simpa [okX] using hr
 obtain⟨g,v⟩:∃g,Bg (K i).cl=g:=⟨_,rfl⟩;obtain⟨f,o⟩:∃f,(K i).at'=f:=⟨_,rfl⟩;rw[v] at M T;rw[y] at O U;rw[o] at Q V;have s:=Ab he;clear p b h hK hL v y o hr hk he;go_enter Tryz.func107,Tryz.ntmps107
 go_wp2_with fail
 go_big_region_o
 have A:Hid (Ap _ w.heap.size g ⟨#[102,97,108,115,101]⟩ (f:Int)):=Ap.new w g ⟨#[102,97,108,115,101]⟩ (f:Int);have l:Hid (Ad w (w.alloc (.cells #[.int .u8 (g:Int),.string ⟨#[102,97,108,115,101]⟩,.int .i64 (f:Int)] 55)).drew):=((Ad.refl w).alloc _).drew;clear c0 c1 k0 k1 T U V M O Q G;generalize (w.alloc (.cells #[.int .u8 (g:Int),.string ⟨#[102,97,108,115,101]⟩,.int .i64 (f:Int)] 55)).drew=W1 at l A |-;obtain⟨n,t⟩:∃n,w.heap.size=n:=⟨_,rfl⟩;rw[t] at A I s |-;have a4:n<=w.heap.size:=by omega
 clear t;have R:n≠br:=by omega
 have S:n≠be:=by omega
 have E:Hid (RSd K N W1 br bl (.ok i) d):=Z.out.grew l.out;have z:Hid (Ao W1 be ⟨#[]⟩ a0 ⟨#[]⟩ 0 0 ⟨#[]⟩ none 0 0):=Y.out.of (P:=fun _=>True) (Fr.grew l.out) trivial;have q1:=Aa A.out 1;obtain⟨e1,f1⟩:=E.out.block;have x0:=Aa z.out 0;have g0:=Ac z.out 0;have HT:Hid (∀W:World,_):=fun W=>Ox false 0 rfl W;have C:Hid (Ao ((W1.setCell ⟨br,1,none⟩ (.int .i64 ((i:Int)+1))).setCell ⟨be,0,none⟩ (.string ⟨#[118,97,108,117,101]⟩)) be ⟨#[118,97,108,117,101]⟩ a0 ⟨#[]⟩ 0 0 ⟨#[]⟩ none 0 0):=(z.out.of (P:=(·≠br)) ((Fr.refl _ W1).set (by simp) _) hbe).op _;have u:Fr (·≠be) (W1.setCell ⟨br,1,none⟩ (.int .i64 ((i:Int)+1))) ((W1.setCell ⟨br,1,none⟩ (.int .i64 ((i:Int)+1))).setCell ⟨be,0,none⟩ (.string ⟨#[118,97,108,117,101]⟩)):=(Fr.refl _ _).set (by simp) _;have F:Hid (RSd K N _ br bl (.ok (i+1)) d):=(E.out.next L).fr u (Ne.symm hbe) (Ne.symm hbl0);have D:Hid (Fr (fun k=>k≠br/\k≠be) w ((W1.setCell ⟨br,1,none⟩ (.int .i64 ((i:Int)+1))).setCell ⟨be,0,none⟩ (.string ⟨#[118,97,108,117,101]⟩))):=((Fr.grew l.out).set (by simp) _).set (by simp) _;clear u;go_wp2_with fail
 clear q1 e1 f1 x0 g0 A E z l;generalize (W1.setCell ⟨br,1,none⟩ (.int .i64 ((i:Int)+1))).setCell ⟨be,0,none⟩ (.string ⟨#[118,97,108,117,101]⟩)=W2 at C F D |-;refine(HT.out W2).mono ?_;rintro e c ⟨rfl,B⟩;have a:Hid (Ao c be ⟨#[118,97,108,117,101]⟩ a0 ⟨#[]⟩ 0 0 ⟨#[]⟩ none 0 0):=C.out.of (P:=fun _=>True) (Fr.grew B) trivial;have R3:Hid (RSd K N c br bl (.ok (i+1)) d):=F.out.grew B;have X:Hid (Fr (fun k=>k≠br/\k≠be) w c):=D.out.trans (Fr.grew B);clear B C F D;have x3:=Aa a.out 3;have x4:=Aa a.out 4;have x5:=Aa a.out 5;have x6:=Aa a.out 6;have x7:=Aa a.out 7;have y3:=Ac a.out 3;have y4:=Ac a.out 4;have y5:=Ac a.out 5;have y6:=Ac a.out 6;have y7:=Ac a.out 7;go_wp2_with fail
 go_ret
 have J:Fr (·≠be) c (aU c be 0):=(Fr.refl _ c).val (by simp) 0;exact⟨X.out.val (fun q=>q.2 rfl) 0,R3.out.fr J (Ne.symm hbe) (Ne.symm hbl0),rfl,fun x j e=>by simp at e;rw[<- e.1];exact Ag.leaf (a.out.val 0) (.inl rfl) (.inl ⟨rfl,.inr (.inr (.inl ⟨rfl,rfl,rfl⟩))⟩)⟩
end Go.Proofs.YtjbfcadeapphbaaGreatDoor.Sx
