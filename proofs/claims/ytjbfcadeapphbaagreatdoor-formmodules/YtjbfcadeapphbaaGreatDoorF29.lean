/- The reference: any expression. -/
import Derived.Test.YtjbfcadeapphbaaGreatDoorF28
namespace Go.Proofs.YtjbfcadeapphbaaGreatDoor.Sx
set_option maxRecDepth 100000
set_option maxHeartbeats 1000000
open Go.RowKit Go.Sort
theorem Vd {l:List UInt8}(h:Ek.contains l=true):l∈En\/l=C5:=by
 simp only[Ek,List.contains_eq_mem,List.mem_cons,List.not_mem_nil,or_false,decide_eq_true_eq] at h;rcases h with h|h|h|h
 ·exact .inl (by rw[h];decide)
 ·exact .inl (by rw[h];decide)
 ·exact .inl (by rw[h];decide)
 ·exact .inr h
theorem Sj {l:List UInt8}(h:Df.contains l=true):l=Lg\/l∈Dq\/l=Cc:=by
 simp only[Df,List.contains_eq_mem,List.mem_cons,List.not_mem_nil,or_false,decide_eq_true_eq] at h;rcases h with h|h|h|h|h
 ·exact .inl h
 ·exact .inr (.inl (by rw[h];decide))
 ·exact .inr (.inl (by rw[h];decide))
 ·exact .inr (.inl (by rw[h];decide))
 ·exact .inr (.inr h)
theorem Ve {K:Nat->Tk}{N br bl:Nat}{self:Nat->Nat->Nat->RX PX}(hS:Ch K N br bl self)(hK:∀i,Bs (K i))(hL:Bi K N)(hN:N<=1000000)(hz:∀i,(K i).tx.length<=4000)(hn:∀i,Xm (K i))(d m:Nat)(hd:d<=24)(hm:m<=1000000) :
  ∀(k:Nat),k<=11->∀(n:Nat),n+k=12->∀(w:World)(i:Nat)(r:Except (Nat×Nat) (PX×Nat)),RSd K N w br bl (.ok i) d->Ij K self m d k i=some r->Calls Tryz.prog 18 #[.pointer (some ⟨br,0,none⟩),.int .i64 (n:Int)] w (C0 K N w br bl d r)
 | 0,_,n,hk,w,i,r,h,hr=>by
  obtain rfl:n=12:=by omega
  rw[Ij] at hr;cases a:Df.contains (K i).tx with
  | true =>
   rw[a,if_pos rfl] at hr;rcases Sj a with e|e|e
   ·exact lV hS hK hL hN w d i hd h e r hr
   ·exact aO hS hK hL hN w d i hd h e r hr
   ·exact Va hK hL hN w d i h e r hr
  | false =>
   rw[a,if_neg (by simp)] at hr;exact eL hK hL hN w d i h a r fun W hW=>Xs hS hK hL hN hz hn W d m i hd hm hW r hr
 | k+1,hk11,n,hk,w,i,r,h,hr=>by
  have g:=Ve hS hK hL hN hz hn d m hd hm k (by omega) (n+1) (by omega);rw[Ij] at hr;by_cases c:k=5
  ·obtain rfl:n=6:=by omega
   rw[if_pos c] at hr;cases a:Ek.contains (K i).tx with
   | true =>
    rw[a,if_pos rfl] at hr;rcases Vd a with e|e
    ·exact eK hS hK hL hN w d i hd h e r hr
    ·exact aP hK hL hN w d i h e r hr
   | false =>
    rw[a,if_neg (by simp)] at hr;exact iF hK hL hN w d i h a r fun W hW=>g W i r hW hr
  ·rw[if_neg c] at hr;obtain⟨q,j,b⟩:=A3 (s:=.ok i) (f:=Ij K self m d k) noX hr;have e:11-k=n:=by omega
   rw[e] at b;exact iG hS hK hL hN w d m n i hd h ⟨by omega,by omega,by omega⟩ q r (fun W hW=>g W i q hW j) b
theorem kH {K:Nat->Tk}{N br bl:Nat}(w:World)(d i:Nat)(h:RSd K N w br bl (.ok i) d)(r:Except (Nat×Nat) (PX×Nat))
  (hP:∀W,RSd K N W br bl (.ok i) d->Calls Tryz.prog 42 #[.pointer (some ⟨br,0,none⟩)] W (C0 K N W br bl d r)) :
  Calls Tryz.prog 18 #[.pointer (some ⟨br,0,none⟩),.int .i64 0] w (C0 K N w br bl d r):=by
 have F:Hid (RSd K N w br bl (.ok i) d):=h;have E:Hid (∀W,RSd K N W br bl (.ok i) d->Calls _ _ _ _ _):=hP;obtain⟨M,H,T,f,U,P,q,s,t,u⟩:=h.open;obtain⟨a,A,B,C⟩:=RS.cells f q s t u;have I:=Aa f 0;have J:=Aa f 1;have L:=Aa f 3;have R:=Aa a 0;have S:=Aa a 1;have O:=Ac f;have p:(i:Int)<((N+1:Nat):Int):=by omega
 have V:=follows;obtain⟨g,m⟩:∃g,Bn (K i).cl=g:=⟨_,rfl⟩;obtain⟨j,n⟩:∃j,Cf (K i)=j:=⟨_,rfl⟩;obtain⟨c,k⟩:∃c,(K i).at'=c:=⟨_,rfl⟩;rw[m] at s A;rw[n] at t B;rw[k] at u C;clear f a h m n k hP;go_enter Tryz.func18,Tryz.ntmps18
 go_wp2_with fail
 go_big_region_o
 have x:Hid (Ap _ w.heap.size g j (c:Int)):=Ap.new w g j (c:Int);have o:Hid (Ad w (w.alloc (.cells #[.int .u8 (g:Int),.string j,.int .i64 (c:Int)] 55)).drew):=((Ad.refl w).alloc _).drew;clear I J L R S A B C s t u p;generalize (w.alloc (.cells #[.int .u8 (g:Int),.string j,.int .i64 (c:Int)] 55)).drew=W1 at o x |-;have v:Hid (RSd K N W1 br bl (.ok i) d):=F.out.grew o.out;go_wp2_with fail
 refine(E.out W1 v.out).mono ?_;rintro e G Q;obtain⟨y,l,b,rfl,z⟩:=Q;have D:Hid (C0 K N w br bl d r (.returned (.pointer (some ⟨b,0,none⟩))) G):=C0.from (Fr.grew o.out) ⟨y,l,b,rfl,z⟩;clear y l z v o x;go_wp2_with fail
 go_ret
 exact D.out
theorem Td {K:Nat->Tk}{N br bl:Nat}(hK:∀i,Bs (K i))(hL:Bi K N)(hN:N<=1000000)(hz:∀i,(K i).tx.length<=4000)(hn:∀i,Xm (K i)):∀f,f<=1000000->Ch K N br bl (Li K f)
 | 0,_=>by
  intro w n d s r hn12 hd h hr;rcases s with q|i
  ·obtain rfl:.error q=r:=by simpa [Az] using hr
   exact Xp w n d q h
  ·simp[Az,Li] at hr
 | f+1,hf=>by
  have b:=Td (br:=br) (bl:=bl) hK hL hN hz hn f (by omega);intro w n d s r hn12 hd h hr;rcases s with q|i
  ·obtain rfl:.error q=r:=by simpa [Az] using hr
   exact Xp w n d q h
  ·have hd:=hd ⟨i,rfl⟩;have a:Hh K (Li K f) f n d i=some r:=hr;by_cases c:n=0
   ·subst c;exact kH w d i h r fun W hW=>eD b hK hL hN W d f i hd hW r a fun W' hW' hr'=>Ve b hK hL hN hz hn d f hd (by omega) 11 (by omega) 1 (by omega) W' i r hW' hr'
   ·rw[Hh,if_neg c] at a;exact Ve b hK hL hN hz hn d f hd (by omega) (12-n) (by omega) n (by omega) w i r h a
end Go.Proofs.YtjbfcadeapphbaaGreatDoor.Sx
