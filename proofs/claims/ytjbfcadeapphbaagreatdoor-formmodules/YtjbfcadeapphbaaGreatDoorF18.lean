/- form.ReadModule. -/
import Derived.Test.YtjbfcadeapphbaaGreatDoorF17
import Derived.Test.YtjbfcadeapphbaaGreatDoorF11
namespace Go.Proofs.YtjbfcadeapphbaaGreatDoor.Sx
set_option maxRecDepth 100000
set_option maxHeartbeats 2000000
open Go.RowKit Go.Sort
theorem Yn.fr {lo l2 b:Nat}{w w':World}{tx:List UInt8}(h:Yn lo w b tx)(hl:l2<=lo)(f:Fr (fun k=>lo<=k) w w'):Yn l2 w' b tx:=by
 obtain⟨a,p,o,r,n,s,m,c,d,e,i,j,l⟩:=h;exact⟨by omega,p,o,r,n,s,m,c.of f a,Ju hl (Hn d fun g _ hg hlt=>f.block g hlt hg),e,i,Eh.fr f (fun k _ q=>by omega) _ _ j,l⟩
def Ev (w:World)(r:Except (Nat×Nat) (List UInt8×Nat))(e:Ending)(w':World):Prop :=
 Fr (fun _=>True) w w'/\match r with
  | .ok (x,_)=>∃b,e=.returned (.tuple #[.pointer (some ⟨b,0,none⟩),.int .i64 0,.nilIface])/\Yn w.heap.size w' b x
  | .error (c,p)=>e=.returned (.tuple #[.pointer none,.int .i64 (p:Int),.iface 58 (.int .i64 (c:Int))])
theorem Yo (p q:Addr)(w:World) :
  CallsD Tryz.prog 84 #[.pointer (some p),.pointer (some q)] .returning w fun e u' w'=>e=.returned (.tuple #[])/\u'=.returning/\w'=w:=by
 refine callsD_of_wpS Tryz.func84 rfl fun c₀ cs hu=>?_;apply wpS_seq;apply wpS_region;simp[wpOpsS,go_sem,recoverD,hu,Tryz.ntmps84,Exit.thenS];refine wpS_of_wp ?_;go_wp2_with fail
 cases c₀
 simp_all[bodyPostS,results,Tryz.results84]
attribute [local go_sem] M7
theorem Vq (bp bq:Nat)(c a:Nat)(w:World)(hp:w.heap[bp]?=some (.cells #[.int .i64 0] 3 (0,0)))(hq:w.heap[bq]?=some (.cells #[.nilIface] 23 (0,0)))(hne:bp≠bq) :
  CallsD Tryz.prog 84 #[.pointer (some ⟨bp,0,none⟩),.pointer (some ⟨bq,0,none⟩)] (.panicking [{ v:=.iface 119 (.agg #[.int .i64 (a:Int),.int .i64 (c:Int)]),recovered:=false }]) w fun e u' w' =>
   e=.returned (.tuple #[])/\u'=.panicking [{ v:=.iface 119 (.agg #[.int .i64 (a:Int),.int .i64 (c:Int)]),recovered:=true }]/\Fr (fun k=>k≠bp/\k≠bq) w w'/\w'.cell? ⟨bp,0,none⟩=some (.int .i64 (a:Int))/\w'.cell? ⟨bq,0,none⟩=some (.iface 58 (.int .i64 (c:Int))):=by
 refine callsD_of_wpS Tryz.func84 rfl fun c₀ cs hu=>?_;apply wpS_seq;apply wpS_region;simp[wpOpsS,go_sem,recoverD,hu,Tryz.ntmps84,Exit.thenS];refine wpS_of_wp (a:={ tmps:=#[.pointer (some ⟨bp,0,none⟩),.pointer (some ⟨bq,0,none⟩),undef,undef,undef,.iface 119 (.agg #[.int .i64 (a:Int),.int .i64 (c:Int)]),undef,undef,undef,undef,undef,undef,undef,undef,undef,undef],defers:=[] }) ?_;have L:=follows;have h:Fr (fun _=>True) w (w.alloc (.cells #[.int .i64 (a:Int),.int .i64 (c:Int)] 119)):=(Fr.refl _ w).alloc _;have f:Hid (_=_):=(h.block bp (Ac hp) trivial).trans hp;have g:Hid (_=_):=(h.block bq (Ac hq) trivial).trans hq;have d:Hid ((w.alloc (.cells #[.int .i64 (a:Int),.int .i64 (c:Int)] 119)).heap[w.heap.size]?=some (.cells #[.int .i64 (a:Int),.int .i64 (c:Int)] 119 (0,0))):=Af rfl;have o:Hid (Fr _ w (w.alloc _)):=h;have r:=Ac hp;have s:=Ac hq;clear hp hq h;go_wp2_with fail
 generalize w.alloc (.cells #[.int .i64 (a:Int),.int .i64 (c:Int)] 119)=W1 at f g d o |-;obtain⟨i,l⟩:∃i,w.heap.size=i:=⟨_,rfl⟩;rw[l] at d r s |-;clear l;have b:Fr (fun _=>True) W1 W1.drew:=Fr.grew (Ad.refl W1).drew;have A:=Aa d.out 0;have B:=Aa d.out 1;have C:=Aa ((b.block i (Ac d.out) trivial).trans d.out) 0;have D:=Aa ((b.block i (Ac d.out) trivial).trans d.out) 1;have G:=Aa f.out 0;have t:=Aa ((b.block bp (Ac f.out) trivial).trans f.out) 0;have H:=Aa g.out 0;have u:=Aa ((b.block bq (Ac g.out) trivial).trans g.out) 0;have E:=Ab f.out 0;have p:=Ab ((b.block bp (Ac f.out) trivial).trans f.out) 0;have F:=Ab g.out 0;have q:=Ab ((b.block bq (Ac g.out) trivial).trans g.out) 0;clear b;have M:bp≠i:=by omega
 have N:bq≠i:=by omega
 go_big_region_o
 have x:Hid (Fr (fun k=>k≠bp/\k≠bq) w ((W1.setCell ⟨bp,0,none⟩ (.int .i64 (a:Int))).setCell ⟨bq,0,none⟩ (.iface 58 (.int .i64 (c:Int)))).drew):=(((o.out.mono fun _ _=>trivial).set (by simp) _).set (by simp) _).drew;have n:(W1.setCell ⟨bp,0,none⟩ (.int .i64 (a:Int))).heap[bq]?=some (.cells #[.nilIface] 23 (0,0)):=(Below.heap_setCell _ _ _ bq (by simp;omega)).trans g.out;have m:(W1.setCell ⟨bp,0,none⟩ (.int .i64 (a:Int))).heap[bp]?=some (.cells #[.int .i64 (a:Int)] 3 (0,0)):=by have:=Ag f.out 0 (.int .i64 (a:Int));simpa using this
 have y:Hid (((W1.setCell ⟨bp,0,none⟩ (.int .i64 (a:Int))).setCell ⟨bq,0,none⟩ (.iface 58 (.int .i64 (c:Int)))).drew.cell? ⟨bp,0,none⟩=some (.int .i64 (a:Int))):=by
  have j:=(Below.heap_setCell (W1.setCell ⟨bp,0,none⟩ (.int .i64 (a:Int))) ⟨bq,0,none⟩ (.iface 58 (.int .i64 (c:Int))) bp (by simp;omega)).trans m;exact Aa (((Fr.grew (P:=fun _=>True) (Ad.refl _).drew).block bp (Ac j) trivial).trans j) 0
 have z:Hid (((W1.setCell ⟨bp,0,none⟩ (.int .i64 (a:Int))).setCell ⟨bq,0,none⟩ (.iface 58 (.int .i64 (c:Int)))).drew.cell? ⟨bq,0,none⟩=some (.iface 58 (.int .i64 (c:Int)))):=by
  have j:=Ag n 0 (.iface 58 (.int .i64 (c:Int)));exact Aa (((Fr.grew (P:=fun _=>True) (Ad.refl _).drew).block bq (Ac j) trivial).trans j) 0
 clear A B C D G t H u E p F q n m f g d o;generalize ((W1.setCell ⟨bp,0,none⟩ (.int .i64 (a:Int))).setCell ⟨bq,0,none⟩ (.iface 58 (.int .i64 (c:Int)))).drew=W2 at x y z |-;have I:=x.out;have J:=y.out;have K:=z.out;simp(config:={ zetaDelta:=true }) [Exit.inBlock,bodyPostS,results,Tryz.results84,I,J,K]
theorem Yp (t:ByteArray)(w:World)(ht:t.size<=4000)(hI:Cd w w.heap.size)(f:Nat)(hf:f<=900000)(r:Except (Nat×Nat) (List UInt8×Nat))(h:N6 (tkF t.data.toList) (Ht (tkF t.data.toList) f) f 0=some r) :
  Calls Tryz.prog 53 #[.string t,.int .i64 4000,.func (.func 54) #[] #[]] w (Ev w r):=by
 have a2:∀(fn:Fn)(first cap:Array Value)(w:World),(Instr.makeFunc fn first cap).run Tryz.prog w=.ok (.func fn first cap) w:=fun _ _ _ _=>rfl;have a3:¬(4000:Int)<(t.size:Int):=by omega
 have mo:=follows;have HI:Hid (Cd w w.heap.size):=hI;have U:Hid (∀W:World,_):=fun W=>Uq t W (by omega);have d:Hid (((w.alloc (.cells #[.int .i64 0] 3)).alloc (.cells #[.nilIface] 23)).heap[w.heap.size]?=some (.cells #[.int .i64 0] 3 (0,0))):=by
  have Z:(w.alloc (.cells #[.int .i64 0] 3)).heap[w.heap.size]?=some (.cells #[.int .i64 0] 3 (0,0)):=Af rfl;exact(((Fr.refl (fun _=>True) _).alloc _).block _ (Ac Z) trivial).trans Z
 have g:Hid (((w.alloc (.cells #[.int .i64 0] 3)).alloc (.cells #[.nilIface] 23)).heap[w.heap.size+1]?=some (.cells #[.nilIface] 23 (0,0))):=Af (by simp);have m:Hid (Fr (fun _=>True) w ((w.alloc (.cells #[.int .i64 0] 3)).alloc (.cells #[.nilIface] 23))):=((Fr.refl _ w).alloc _).alloc _;clear hI;go_enter_defers Tryz.func53,Tryz.ntmps53
 go_wp2_with fail
 generalize (w.alloc (.cells #[.int .i64 0] 3)).alloc (.cells #[.nilIface] 23)=w0 at d g m |-;obtain⟨a,C⟩:∃a,w.heap.size=a:=⟨_,rfl⟩;rw[C] at d g |-;have a4:w.heap.size<=a:=by omega
 clear C;refine(U.out w0).mono ?_;rintro e z ⟨rfl,hb⟩;have H:=Ac d.out;have I:=Ac g.out;have o:Hid (Fr (fun _=>True) w0 z):=Fr.below hb;clear hb U;have O:Hid (RdB (z.alloc (.cells #[.string t,.int .i64 0,.string ⟨#[]⟩,.int .i64 0,.int .i64 0] 123)) z.heap.size t 0 ⟨#[]⟩ 0 0):=Af rfl;have s:Hid (Fr (fun _=>True) w0 (z.alloc (.cells #[.string t,.int .i64 0,.string ⟨#[]⟩,.int .i64 0,.int .i64 0] 123))):=o.out.alloc _;have Q:=o.out.size;go_wp2_with fail
 generalize z.alloc (.cells #[.string t,.int .i64 0,.string ⟨#[]⟩,.int .i64 0,.int .i64 0] 123)=w2 at O s |-;obtain⟨l,D⟩:∃l,z.heap.size=l:=⟨_,rfl⟩;rw[D] at O Q |-;clear D o;refine(Mu w2 l t ⟨#[]⟩ 0 0 0 0 O.out (by omega) rfl).mono ?_;rintro e A ⟨rfl,L,G⟩;have V:Hid (RdF A l t 0 0):=L;have M:Hid (Fr (fun k=>k≠l) w0 A):=(s.out.mono fun _ _=>trivial).trans G;clear L G O s;have B:Hid (Cd A l):=Cd.at HI.out (m.out.newer M.out fun k hk=>by omega) (by omega);go_wp2_with fail
 rcases r with⟨c,p⟩|⟨x,j⟩
 ·refine(Oy (Ly l t (by omega) f (by omega)) A f ht hf B.out V.out _ h).mono ?_;rintro e b ⟨i,rfl⟩;have n:Hid (Fr (fun k=>k≠l) w0 b):=M.out.trans i;unfold Flt;refine leaves_cons (f:=84) (args:=#[.pointer (some ⟨a,0,none⟩),.pointer (some ⟨a+1,0,none⟩)]) (by simp) (by simp[go_sem]) ?_;refine(Vq a (a+1) _ _ b ((n.out.block a H (by omega)).trans d.out) ((n.out.block (a+1) I (by omega)).trans g.out) (by omega)).mono ?_;rintro e u' w5 ⟨rfl,rfl,hF,S,T⟩;have N:Ev w (.error (c,p)) (.returned (.tuple #[.pointer none,.int .i64 (p:Int),.iface 58 (.int .i64 (c:Int))])) w5:=⟨(m.out.newer n.out fun k hk=>by omega).newer hF fun k hk=>by omega,rfl⟩;simpa [Leaves,settle,results,Tryz.results53,go_sem,S,T] using N
 refine(Oy (Ly l t (by omega) f (by omega)) A f ht hf B.out V.out _ h).mono ?_;rintro e b ⟨i,⟨P,rfl,hv⟩,L,F⟩;have n:Hid (Fr (fun k=>k≠l) w0 b):=M.out.trans i;have T4:Hid (Yn A.heap.size b P x):=hv;have h3:=Aa L 3;have E:clF t.data.toList j=0:=F;rw[E] at h3;have a0:=M.out.size;have a1:=i.size;have R:Hid (Fr (fun _=>True) w b):=m.out.newer n.out fun k hk=>by omega
 clear i hv L F E h;have u:Hid (b.heap[a]?=_):=(n.out.block a H (by omega)).trans d.out;have v:Hid (b.heap[a+1]?=_):=(n.out.block (a+1) I (by omega)).trans g.out;have p0:=Aa u.out 0;have f0:=Ab u.out 0;have q0:=Aa v.out 0;have g0:=Ab v.out 0;go_wp2_with fail
 have y:Fr (fun k=>k≠a/\k≠a+1) b ((b.setCell ⟨a,0,none⟩ (.int .i64 0)).setCell ⟨a+1,0,none⟩ .nilIface):=((Fr.refl _ b).set (by simp) _).set (by simp) _;have K:(b.setCell ⟨a,0,none⟩ (.int .i64 0)).heap[a+1]?=some (.cells #[.nilIface] 23 (0,0)):=(Below.heap_setCell _ _ _ (a+1) (by simp)).trans v.out;have J:(b.setCell ⟨a,0,none⟩ (.int .i64 0)).heap[a]?=some (.cells #[.int .i64 0] 3 (0,0)):=by have:=Ag u.out 0 (.int .i64 0);simpa using this
 have X:((b.setCell ⟨a,0,none⟩ (.int .i64 0)).setCell ⟨a+1,0,none⟩ .nilIface).cell? ⟨a,0,none⟩=some (.int .i64 0):=Aa ((Below.heap_setCell _ ⟨a+1,0,none⟩ .nilIface a (by simp)).trans J) 0;have Y:((b.setCell ⟨a,0,none⟩ (.int .i64 0)).setCell ⟨a+1,0,none⟩ .nilIface).cell? ⟨a+1,0,none⟩=some .nilIface:=Aa (Ag K 0 .nilIface) 0;have N:Ev w (.ok (x,j)) (.returned (.tuple #[.pointer (some ⟨P,0,none⟩),.int .i64 0,.nilIface])) ((b.setCell ⟨a,0,none⟩ (.int .i64 0)).setCell ⟨a+1,0,none⟩ .nilIface) :=
  ⟨R.out.newer y fun k hk=>by omega,P,rfl,T4.out.fr (by omega) (y.mono fun k q=>by omega)⟩
 clear J K y p0 f0 q0 g0 h3;generalize (b.setCell ⟨a,0,none⟩ (.int .i64 0)).setCell ⟨a+1,0,none⟩ .nilIface=w5 at X Y N |-;refine leaves_cons (f:=84) (args:=#[.pointer (some ⟨a,0,none⟩),.pointer (some ⟨a+1,0,none⟩)]) (by simp) (by simp[go_sem]) ?_;refine(Yo _ _ _).mono ?_;rintro e u' w6 ⟨rfl,rfl,hw⟩;cases hw
 simpa [Leaves,settle,results,Tryz.results53,go_sem,X,Y] using N
theorem Vr (t:ByteArray)(w:World)(ht:4000<t.size)(hs:t.size<=9223372036854775807):Calls Tryz.prog 53 #[.string t,.int .i64 4000,.func (.func 54) #[] #[]] w (Ev w (.error (6,0))):=by
 have e:(4000:Int)<(t.size:Int):=by omega
 have f:=follows;go_enter_defers Tryz.func53,Tryz.ntmps53
 go_wp2_with fail
 have b:Ev w (.error (6,0)) (.returned (.tuple #[.pointer none,.int .i64 ((0:Nat):Int),.iface 58 (.int .i64 ((6:Nat):Int))])) ((w.alloc (.cells #[.int .i64 0] 3)).alloc (.cells #[.iface 58 (.int .i64 6)] 23)):=⟨((Fr.refl _ w).alloc _).alloc _,rfl⟩;have a:(w.alloc (.cells #[.int .i64 0] 3)).heap[w.heap.size]?=some (.cells #[.int .i64 0] 3 (0,0)):=Af rfl;have c:((w.alloc (.cells #[.int .i64 0] 3)).alloc (.cells #[.iface 58 (.int .i64 6)] 23)).cell? ⟨w.heap.size,0,none⟩=some (.int .i64 0):=Aa ((((Fr.refl (fun _=>True) _).alloc _).block _ (Ac a) trivial).trans a) 0;have d:((w.alloc (.cells #[.int .i64 0] 3)).alloc (.cells #[.iface 58 (.int .i64 6)] 23)).cell? ⟨w.heap.size+1,0,none⟩=some (.iface 58 (.int .i64 6)):=Aa (Af (by simp)) 0;clear a;generalize (w.alloc (.cells #[.int .i64 0] 3)).alloc (.cells #[.iface 58 (.int .i64 6)] 23)=w5 at c d b |-;simpa [bodyPostD,Leaves,settle,results,Tryz.results53,go_sem,c,d] using b
end Go.Proofs.YtjbfcadeapphbaaGreatDoor.Sx
namespace Go.Proofs.YtjbfcadeapphbaaGreatDoor.Sx
set_option maxRecDepth 100000
set_option maxHeartbeats 1000000
open Go.RowKit Go.Sort
theorem K2 (t:ByteArray)(w:World)(r:Except (Nat×Nat) (List UInt8×Nat))(HC:Hid (Calls Tryz.prog 53 #[.string t,.int .i64 4000,.func (.func 54) #[] #[]] w (Ev w r))) :
  Calls Tryz.prog 23 #[.string t] w (Ev w r):=by
 go_enter Tryz.func23,Tryz.ntmps23
 go_wp2_with fail
 refine HC.out.mono ?_;rintro e h ⟨a,f⟩;rcases r with⟨c,p⟩|⟨x,j⟩
 ·obtain rfl:=f;have b:Hid (Ev w (.error (c,p)) _ h):=⟨a,rfl⟩;clear a HC;go_wp2_with fail
  refine bodyPost_ret (v:=.tuple #[.pointer none,.int .i64 (p:Int),.iface 58 (.int .i64 (c:Int))]) (by simp[results,Tryz.results23,go_sem]) rfl b.out
 ·obtain⟨d,rfl,g⟩:=f;have b:Hid (Ev w (.ok (x,j)) (.returned (.tuple #[.pointer (some ⟨d,0,none⟩),.int .i64 0,.nilIface])) h):=⟨a,_,rfl,g⟩;clear a g HC;go_wp2_with fail
  refine bodyPost_ret (v:=.tuple #[.pointer (some ⟨d,0,none⟩),.int .i64 0,.nilIface]) (by simp[results,Tryz.results23,go_sem]) rfl b.out
end Go.Proofs.YtjbfcadeapphbaaGreatDoor.Sx
