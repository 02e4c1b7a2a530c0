/- A text is read. -/
import Derived.Test.YtjbfcadeapphbaaGreatDoorE14
import Derived.Recover
import Derived.Test.YtjbfcadeapphbaaGreatDoorE04
import Derived.Test.YtjbfcadeapphbaaGreatDoorShelf
namespace Go.Proofs.YtjbfcadeapphbaaGreatDoor.Sx
set_option maxRecDepth 100000
set_option maxHeartbeats 1000000
open Go.RowKit Go.Sort
theorem Ug (p q:Addr)(w:World) :
  CallsD Tryz.prog 58 #[.pointer (some p),.pointer (some q)] .returning w fun e u' w'=>e=.returned (.tuple #[])/\u'=.returning/\w'=w:=by
 refine callsD_of_wpS Tryz.func58 rfl fun c₀ cs hu=>?_;apply wpS_seq;apply wpS_region;simp[wpOpsS,go_sem,recoverD,hu,Tryz.ntmps58,Exit.thenS];refine wpS_of_wp ?_;go_wp2_with fail
 cases c₀
 simp_all[bodyPostS,results,Tryz.results58]
theorem P0 (x:Value)(w:World):(Instr.typeAssert (.iface 119 x) 20 119 true).run Tryz.prog w=.ok (.tuple #[x,.bool true]) w:=by kernel_rfl
attribute [local go_sem] P0
theorem Ld (bp bq:Nat)(c a:Nat)(w:World)(hp:w.heap[bp]?=some (.cells #[.int .i64 0] 3 (0,0)))(hq:w.heap[bq]?=some (.cells #[.nilIface] 23 (0,0)))(hne:bp≠bq) :
  CallsD Tryz.prog 58 #[.pointer (some ⟨bp,0,none⟩),.pointer (some ⟨bq,0,none⟩)] (.panicking [{ v:=.iface 119 (.agg #[.int .i64 (a:Int),.int .i64 (c:Int)]),recovered:=false }]) w fun e u' w' =>
   e=.returned (.tuple #[])/\u'=.panicking [{ v:=.iface 119 (.agg #[.int .i64 (a:Int),.int .i64 (c:Int)]),recovered:=true }]/\Fr (fun k=>k≠bp/\k≠bq) w w'/\w'.cell? ⟨bp,0,none⟩=some (.int .i64 (a:Int))/\w'.cell? ⟨bq,0,none⟩=some (.iface 58 (.int .i64 (c:Int))):=by
 refine callsD_of_wpS Tryz.func58 rfl fun c₀ cs hu=>?_;apply wpS_seq;apply wpS_region;simp[wpOpsS,go_sem,recoverD,hu,Tryz.ntmps58,Exit.thenS];refine wpS_of_wp (a:={ tmps:=#[.pointer (some ⟨bp,0,none⟩),.pointer (some ⟨bq,0,none⟩),undef,undef,undef,.iface 119 (.agg #[.int .i64 (a:Int),.int .i64 (c:Int)]),undef,undef,undef,undef,undef,undef,undef,undef,undef,undef],defers:=[] }) ?_;have L:=follows;have h:Fr (fun _=>True) w (w.alloc (.cells #[.int .i64 (a:Int),.int .i64 (c:Int)] 119)):=(Fr.refl _ w).alloc _;have f:Hid (_=_):=(h.block bp (Ab hp) trivial).trans hp;have g:Hid (_=_):=(h.block bq (Ab hq) trivial).trans hq;have d:Hid ((w.alloc (.cells #[.int .i64 (a:Int),.int .i64 (c:Int)] 119)).heap[w.heap.size]?=some (.cells #[.int .i64 (a:Int),.int .i64 (c:Int)] 119 (0,0))):=Al rfl;have o:Hid (Fr _ w (w.alloc _)):=h;have r:=Ab hp;have s:=Ab hq;clear hp hq h;go_wp2_with fail
 generalize w.alloc (.cells #[.int .i64 (a:Int),.int .i64 (c:Int)] 119)=W1 at f g d o |-;obtain⟨i,l⟩:∃i,w.heap.size=i:=⟨_,rfl⟩;rw[l] at d r s |-;clear l;have b:Fr (fun _=>True) W1 W1.drew:=Fr.grew (Ad.refl W1).drew;have A:=Aa d.out 0;have B:=Aa d.out 1;have C:=Aa ((b.block i (Ab d.out) trivial).trans d.out) 0;have D:=Aa ((b.block i (Ab d.out) trivial).trans d.out) 1;have G:=Aa f.out 0;have t:=Aa ((b.block bp (Ab f.out) trivial).trans f.out) 0;have H:=Aa g.out 0;have u:=Aa ((b.block bq (Ab g.out) trivial).trans g.out) 0;have E:=Ac f.out 0;have p:=Ac ((b.block bp (Ab f.out) trivial).trans f.out) 0;have F:=Ac g.out 0;have q:=Ac ((b.block bq (Ab g.out) trivial).trans g.out) 0;clear b;have M:bp≠i:=by omega
 have N:bq≠i:=by omega
 go_big_region_o
 have x:Hid (Fr (fun k=>k≠bp/\k≠bq) w ((W1.setCell ⟨bp,0,none⟩ (.int .i64 (a:Int))).setCell ⟨bq,0,none⟩ (.iface 58 (.int .i64 (c:Int)))).drew):=(((o.out.mono fun _ _=>trivial).set (by simp) _).set (by simp) _).drew;have n:(W1.setCell ⟨bp,0,none⟩ (.int .i64 (a:Int))).heap[bq]?=some (.cells #[.nilIface] 23 (0,0)):=(Below.heap_setCell _ _ _ bq (by simp;omega)).trans g.out;have m:(W1.setCell ⟨bp,0,none⟩ (.int .i64 (a:Int))).heap[bp]?=some (.cells #[.int .i64 (a:Int)] 3 (0,0)):=by have:=Aj f.out 0 (.int .i64 (a:Int));simpa using this
 have y:Hid (((W1.setCell ⟨bp,0,none⟩ (.int .i64 (a:Int))).setCell ⟨bq,0,none⟩ (.iface 58 (.int .i64 (c:Int)))).drew.cell? ⟨bp,0,none⟩=some (.int .i64 (a:Int))):=by
  have j:=(Below.heap_setCell (W1.setCell ⟨bp,0,none⟩ (.int .i64 (a:Int))) ⟨bq,0,none⟩ (.iface 58 (.int .i64 (c:Int))) bp (by simp;omega)).trans m;exact Aa (((Fr.grew (P:=fun _=>True) (Ad.refl _).drew).block bp (Ab j) trivial).trans j) 0
 have z:Hid (((W1.setCell ⟨bp,0,none⟩ (.int .i64 (a:Int))).setCell ⟨bq,0,none⟩ (.iface 58 (.int .i64 (c:Int)))).drew.cell? ⟨bq,0,none⟩=some (.iface 58 (.int .i64 (c:Int)))):=by
  have j:=Aj n 0 (.iface 58 (.int .i64 (c:Int)));exact Aa (((Fr.grew (P:=fun _=>True) (Ad.refl _).drew).block bq (Ab j) trivial).trans j) 0
 clear A B C D G t H u E p F q n m f g d o;generalize ((W1.setCell ⟨bp,0,none⟩ (.int .i64 (a:Int))).setCell ⟨bq,0,none⟩ (.iface 58 (.int .i64 (c:Int)))).drew=W2 at x y z |-;have I:=x.out;have J:=y.out;have K:=z.out;simp(config:={ zetaDelta:=true }) [Exit.inBlock,bodyPostS,results,Tryz.results58,I,J,K]
end Go.Proofs.YtjbfcadeapphbaaGreatDoor.Sx
namespace Go.Proofs.YtjbfcadeapphbaaGreatDoor.Sx
set_option maxRecDepth 100000
set_option maxHeartbeats 2000000
open Go.RowKit Go.Sort
theorem P3 (s:ByteArray)(w:World)(hs:s.size<=4000):Calls Tryz.prog 59 #[.string s] w fun e w'=>e=.returned (.string s)/\Below w.heap.size w w':=by
 have c:Hid (Calls _ _ _ _ _):=Tryz.stringslite_Clone s w (by omega);go_enter Tryz.func59,Tryz.ntmps59
 go_wp2_with (go_at_call 90;refine c.out.mono ?_;rintro e w' ⟨rfl,a⟩;have b:Hid (Below w.heap.size w w'):=a;clear a)
 go_ret
 exact⟨rfl,b.out⟩
theorem Fr.newer {P:Nat->Prop}{w w0 w':World}(h:Fr (fun _=>True) w w0)(f:Fr P w0 w')(hp:∀k,k<w.heap.size->P k):Fr (fun _=>True) w w' :=
 ⟨f.os.trans h.os,f.tape.trans h.tape,f.output.trans h.output,Nat.le_trans h.size f.size,fun k hk _=>(f.block k (Nat.lt_of_lt_of_le hk h.size) (hp k hk)).trans (h.block k hk trivial)⟩
def Qa (K:Nat->Tk)(f:Nat):RX PX:=bX (Ff K f 0 0 0) fun x j=>if (K j).cl=0 then okX x j else Cz 1 (K j).at'
def Ds (w:World)(r:Except (Nat×Nat) (PX×Nat))(e:Ending)(w':World):Prop :=
 Fr (fun _=>True) w w'/\match r with
  | .ok (x,_)=>∃v,e=.returned (.tuple #[v,.int .i64 0,.nilIface])/\Ae (fun k=>w.heap.size<=k) w' x v
  | .error (c,p)=>e=.returned (.tuple #[.pointer none,.int .i64 (p:Int),.iface 58 (.int .i64 (c:Int))])
theorem B1.at {w w':World}{br:Nat}(h:B1 w w.heap.size)(f:Fr (fun _=>True) w w')(hb:w.heap.size<=br):B1 w' br:=by
 obtain⟨j,a,⟨b,d,e⟩,k,c,g,i⟩:=h;exact⟨by omega,Nat.lt_of_lt_of_le a f.size,⟨b,(World.cell?_of_block (w:=w) (f.block 6 a trivial)).trans d,e⟩,by omega,c,(World.cell?_of_block (w:=w) (f.block 5 (by omega) trivial)).trans g,i⟩
theorem Uh (t:ByteArray)(w:World)(ht:t.size<=1000)(hI:B1 w w.heap.size)(f:Nat)(hf:f<=1000000)(r:Except (Nat×Nat) (PX×Nat))(h:Qa (tkF t.data.toList) f=some r) :
  Calls Tryz.prog 28 #[.string t,.int .i64 1000,.func (.func 29) #[] #[]] w (Ds w r):=by
 have a2:∀(fn:Fn)(first cap:Array Value)(w:World),(Instr.makeFunc fn first cap).run Tryz.prog w=.ok (.func fn first cap) w:=fun _ _ _ _=>rfl;have a3:¬(1000:Int)<(t.size:Int):=by omega
 have mo:=follows;have HI:Hid (B1 w w.heap.size):=hI;have HC:Hid (∀W:World,_):=fun W=>P3 t W (by omega);have d:Hid (((w.alloc (.cells #[.int .i64 0] 3)).alloc (.cells #[.nilIface] 23)).heap[w.heap.size]?=some (.cells #[.int .i64 0] 3 (0,0))):=by
  have h1:(w.alloc (.cells #[.int .i64 0] 3)).heap[w.heap.size]?=some (.cells #[.int .i64 0] 3 (0,0)):=Al rfl;exact(((Fr.refl (fun _=>True) _).alloc _).block _ (Ab h1) trivial).trans h1
 have g:Hid (((w.alloc (.cells #[.int .i64 0] 3)).alloc (.cells #[.nilIface] 23)).heap[w.heap.size+1]?=some (.cells #[.nilIface] 23 (0,0))):=Al (by simp);have l:Hid (Fr (fun _=>True) w ((w.alloc (.cells #[.int .i64 0] 3)).alloc (.cells #[.nilIface] 23))):=((Fr.refl _ w).alloc _).alloc _;clear hI;unfold Qa at h;go_enter_defers Tryz.func28,Tryz.ntmps28
 go_wp2_with fail
 generalize (w.alloc (.cells #[.int .i64 0] 3)).alloc (.cells #[.nilIface] 23)=w0 at d g l |-;obtain⟨a,K⟩:∃a,w.heap.size=a:=⟨_,rfl⟩;rw[K] at d g |-;have a4:w.heap.size<=a:=by omega
 clear K;refine(HC.out w0).mono ?_;rintro e G ⟨rfl,hb⟩;have C:=Ab d.out;have D:=Ab g.out;have o:Hid (Fr (fun _=>True) w0 G):=Fr.below hb;clear hb HC;have R:Hid (RdB (G.alloc (.cells #[.string t,.int .i64 0,.string ⟨#[]⟩,.int .i64 0,.int .i64 0] 123)) G.heap.size t 0 ⟨#[]⟩ 0 0):=Al rfl;have s:Hid (Fr (fun _=>True) w0 (G.alloc (.cells #[.string t,.int .i64 0,.string ⟨#[]⟩,.int .i64 0,.int .i64 0] 123))):=o.out.alloc _;have V:=o.out.size;go_wp2_with fail
 generalize G.alloc (.cells #[.string t,.int .i64 0,.string ⟨#[]⟩,.int .i64 0,.int .i64 0] 123)=w2 at R s |-;obtain⟨i,L⟩:∃i,G.heap.size=i:=⟨_,rfl⟩;rw[L] at R V |-;clear L o;refine(J3 w2 i t ⟨#[]⟩ 0 0 0 0 R.out (by omega) rfl).mono ?_;rintro e H ⟨rfl,E,N⟩;have R3:Hid (RdF H i t 0 0):=E;have Q:Hid (Fr (fun k=>k≠i) w0 H):=(s.out.mono fun _ _=>trivial).trans N;clear E N R s;have I:Hid (B1 H i):=B1.at HI.out (l.out.newer Q.out fun k hk=>by omega) (by omega);go_wp2_with fail
 rcases Aw h with⟨⟨c,p⟩,S,rfl⟩|⟨x,j,S,hk⟩
 ·refine(A0 (Jq i t (by omega) f hf) H 0 0 _ (by omega) I.out R3.out S).mono ?_;rintro e b ⟨m,rfl⟩;have n:Hid (Fr (fun k=>k≠i) w0 b):=Q.out.trans m;unfold Flt;refine leaves_cons (f:=58) (args:=#[.pointer (some ⟨a,0,none⟩),.pointer (some ⟨a+1,0,none⟩)]) (by simp) (by simp[go_sem]) ?_;refine(Ld a (a+1) _ _ b ((n.out.block a C (by omega)).trans d.out) ((n.out.block (a+1) D (by omega)).trans g.out) (by omega)).mono ?_;rintro e u' T ⟨rfl,rfl,Y,A,B⟩;have F:Ds w (.error (c,p)) (.returned (.tuple #[.pointer none,.int .i64 (p:Int),.iface 58 (.int .i64 (c:Int))])) T:=⟨(l.out.newer n.out fun k hk=>by omega).newer Y fun k hk=>by omega,rfl⟩;simpa [Leaves,settle,results,Tryz.results28,go_sem,A,B] using F
 refine(A0 (Jq i t (by omega) f hf) H 0 0 _ (by omega) I.out R3.out S).mono ?_;rintro e b ⟨m,⟨v,rfl,hv⟩,E⟩;have n:Hid (Fr (fun k=>k≠i) w0 b):=Q.out.trans m;have R4:Hid (RdF b i t j 0):=E;have T4:Hid (Ae (fun k=>H.heap.size<=k) b x v):=hv;have M:(tkF t.data.toList j).cl=clF t.data.toList j:=rfl;have J:(tkF t.data.toList j).at'=atF t.data.toList j:=rfl;rw[M,J] at hk;have X:=Aa E 3;have a0:=Q.out.size;have a1:=m.size;have Z:Hid (Fr (fun _=>True) w b):=l.out.newer n.out fun k hk=>by omega
 have U:Hid (Calls _ _ _ _ _):=Em b i t j 0 1 E;clear m hv E S M J;obtain⟨bx,rfl,-,-⟩:=T4.out.ptr;by_cases q:clF t.data.toList j=0
 ·rw[q] at X;rw[if_pos q] at hk;have HQ:Hid (r=.ok (x,j)):=by simp only[okX,Option.some.injEq] at hk;exact hk.symm
  have u:Hid (b.heap[a]?=_):=(n.out.block a C (by omega)).trans d.out;have y:Hid (b.heap[a+1]?=_):=(n.out.block (a+1) D (by omega)).trans g.out;have p0:=Aa u.out 0;have f0:=Ac u.out 0;have q0:=Aa y.out 0;have g0:=Ac y.out 0;clear hk q h;go_wp2_with fail
  have z:Fr (fun k=>k≠a/\k≠a+1) b ((b.setCell ⟨a,0,none⟩ (.int .i64 0)).setCell ⟨a+1,0,none⟩ .nilIface):=((Fr.refl _ b).set (by simp) _).set (by simp) _;have P:(b.setCell ⟨a,0,none⟩ (.int .i64 0)).heap[a+1]?=some (.cells #[.nilIface] 23 (0,0)):=(Below.heap_setCell _ _ _ (a+1) (by simp)).trans y.out;have O:(b.setCell ⟨a,0,none⟩ (.int .i64 0)).heap[a]?=some (.cells #[.int .i64 0] 3 (0,0)):=by have:=Aj u.out 0 (.int .i64 0);simpa using this
  have c0:((b.setCell ⟨a,0,none⟩ (.int .i64 0)).setCell ⟨a+1,0,none⟩ .nilIface).cell? ⟨a,0,none⟩=some (.int .i64 0):=Aa ((Below.heap_setCell _ ⟨a+1,0,none⟩ .nilIface a (by simp)).trans O) 0;have c1:((b.setCell ⟨a,0,none⟩ (.int .i64 0)).setCell ⟨a+1,0,none⟩ .nilIface).cell? ⟨a+1,0,none⟩=some .nilIface:=Aa (Aj P 0 .nilIface) 0;have F:Ds w (.ok (x,j)) (.returned (.tuple #[.pointer (some ⟨bx,0,none⟩),.int .i64 0,.nilIface])) ((b.setCell ⟨a,0,none⟩ (.int .i64 0)).setCell ⟨a+1,0,none⟩ .nilIface) :=
   ⟨Z.out.newer z fun k hk=>by omega,_,rfl,T4.out.fr (z.mono fun k q=>by omega) fun k _ q=>by omega⟩
  rw[HQ.out];clear O P z p0 f0 q0 g0 X;generalize (b.setCell ⟨a,0,none⟩ (.int .i64 0)).setCell ⟨a+1,0,none⟩ .nilIface=T at c0 c1 F |-;refine leaves_cons (f:=58) (args:=#[.pointer (some ⟨a,0,none⟩),.pointer (some ⟨a+1,0,none⟩)]) (by simp) (by simp[go_sem]) ?_;refine(Ug _ _ _).mono ?_;rintro e u' w6 ⟨rfl,rfl,hw⟩;cases hw
  simpa [Leaves,settle,results,Tryz.results28,go_sem,c0,c1] using F
 ·rw[if_neg q] at hk;obtain rfl:r=.error (1,atF t.data.toList j):=by simp only[Cz,Option.some.injEq] at hk;exact hk.symm
  obtain⟨c,hc⟩:∃c,clF t.data.toList j=c:=⟨_,rfl⟩;rw[hc] at X q;have g1:((c:Int) != 0)=true:=by simp;omega
  clear hk q hc h;go_wp2_with (go_at_call 61;refine U.out.mono ?_;rintro e w' ⟨rfl,hw⟩;cases hw;unfold Flt)
  refine leaves_cons (f:=58) (args:=#[.pointer (some ⟨a,0,none⟩),.pointer (some ⟨a+1,0,none⟩)]) (by simp) (by simp[go_sem]) ?_;refine(Ld a (a+1) _ _ b ((n.out.block a C (by omega)).trans d.out) ((n.out.block (a+1) D (by omega)).trans g.out) (by omega)).mono ?_;rintro e u' T ⟨rfl,rfl,Y,A,B⟩;have F:Ds w (.error (1,atF t.data.toList j)) (.returned (.tuple #[.pointer none,.int .i64 (atF t.data.toList j:Int),.iface 58 (.int .i64 ((1:Nat):Int))])) T:=⟨(l.out.newer n.out fun k hk=>by omega).newer Y fun k hk=>by omega,rfl⟩;simpa [Leaves,settle,results,Tryz.results28,go_sem,A,B] using F
theorem Rz (t:ByteArray)(w:World)(ht:1000<t.size)(hs:t.size<=9223372036854775807):Calls Tryz.prog 28 #[.string t,.int .i64 1000,.func (.func 29) #[] #[]] w (Ds w (.error (6,0))):=by
 have e:(1000:Int)<(t.size:Int):=by omega
 have f:=follows;go_enter_defers Tryz.func28,Tryz.ntmps28
 go_wp2_with fail
 have b:Ds w (.error (6,0)) (.returned (.tuple #[.pointer none,.int .i64 ((0:Nat):Int),.iface 58 (.int .i64 ((6:Nat):Int))])) ((w.alloc (.cells #[.int .i64 0] 3)).alloc (.cells #[.iface 58 (.int .i64 6)] 23)):=⟨((Fr.refl _ w).alloc _).alloc _,rfl⟩;have a:(w.alloc (.cells #[.int .i64 0] 3)).heap[w.heap.size]?=some (.cells #[.int .i64 0] 3 (0,0)):=Al rfl;have c:((w.alloc (.cells #[.int .i64 0] 3)).alloc (.cells #[.iface 58 (.int .i64 6)] 23)).cell? ⟨w.heap.size,0,none⟩=some (.int .i64 0):=Aa ((((Fr.refl (fun _=>True) _).alloc _).block _ (Ab a) trivial).trans a) 0;have d:((w.alloc (.cells #[.int .i64 0] 3)).alloc (.cells #[.iface 58 (.int .i64 6)] 23)).cell? ⟨w.heap.size+1,0,none⟩=some (.iface 58 (.int .i64 6)):=Aa (Al (by simp)) 0;clear a;generalize (w.alloc (.cells #[.int .i64 0] 3)).alloc (.cells #[.iface 58 (.int .i64 6)] 23)=w5 at c d b |-;simpa [bodyPostD,Leaves,settle,results,Tryz.results28,go_sem,c,d] using b
theorem J8 (t:ByteArray)(w:World)(r:Except (Nat×Nat) (PX×Nat))(HC:Hid (Calls Tryz.prog 28 #[.string t,.int .i64 1000,.func (.func 29) #[] #[]] w (Ds w r))) :
  Calls Tryz.prog 14 #[.string t] w (Ds w r):=by
 go_enter Tryz.func14,Tryz.ntmps14
 go_wp2_with fail
 refine HC.out.mono ?_;rintro e h ⟨a,g⟩;rcases r with⟨c,p⟩|⟨x,j⟩
 ·obtain rfl:=g;have b:Hid (Ds w (.error (c,p)) _ h):=⟨a,rfl⟩;clear a HC;go_wp2_with fail
  refine bodyPost_ret (v:=.tuple #[.pointer none,.int .i64 (p:Int),.iface 58 (.int .i64 (c:Int))]) (by simp[results,Tryz.results14,go_sem]) rfl b.out
 ·obtain⟨v,rfl,d⟩:=g;obtain⟨f,rfl,-,-⟩:=d.ptr;have b:Hid (Ds w (.ok (x,j)) (.returned (.tuple #[.pointer (some ⟨f,0,none⟩),.int .i64 0,.nilIface])) h):=⟨a,_,rfl,d⟩;clear a d HC;go_wp2_with fail
  refine bodyPost_ret (v:=.tuple #[.pointer (some ⟨f,0,none⟩),.int .i64 0,.nilIface]) (by simp[results,Tryz.results14,go_sem]) rfl b.out
end Go.Proofs.YtjbfcadeapphbaaGreatDoor.Sx
