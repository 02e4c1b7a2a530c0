/- Operators: the tables. -/
import Derived.Test.YtdpeliifdlhhkaaGreatDoorM21
namespace Go.Proofs.YtdpeliifdlhhkaaGreatDoor.Sx
open Go.RowKit Go.Sort Tryz
set_option maxRecDepth 100000
set_option maxHeartbeats 4000000
def Cc:List (List UInt8×Int×(World->Value->Prop)):=[([110,111,116],1,Pq 187),([97,110,100],2,Pq 189),([111,114],2,Pq 190),([105,109,112,108,105,101,115],2,Pq 191),([105,102,102],2,Pq 192),([61],2,Pq 193),([47,61],2,Pq 195),([60],2,Lk 199),([60,61],2,Lk 200),([62],2,Lk 201),([62,61],2,Lk 202),([43],2,I0 (.nilIface) (.func (.func 204) #[] #[])),([45],2,I0 (.nilIface) (.func (.func 205) #[] #[])),([42],2,I0 (.nilIface) (.func (.func 206) #[] #[])),([47],2,I0 (.nilIface) (.func (.func 207) #[] #[])),([37],2,I0 (.nilIface) (.func (.func 208) #[] #[])),([46,46],2,I0 (.nilIface) (.func (.func 209) #[] #[])),([110,101,103],1,Pq 210),([115,101,116],-1,Pq 211),([105,110],2,Pq 212),([115,117,98,115,101,116],2,Ku (.iface 4 (.bool false)) (.func (.func 214) #[] #[])),([117,110,105,111,110],2,Ku (.nilIface) (.func (.func 217) #[] #[])),([105,110,116,101,114],2,Ku (.nilIface) (.func (.func 219) #[] #[])),([109,105,110,117,115],2,Ku (.nilIface) (.func (.func 221) #[] #[])),([115,105,122,101],1,Mt (.func (.func 224) #[] #[])),([102,108,97,116,116,101,110],1,Mt (.func (.func 225) #[] #[])),([112,111,119,101,114,115,101,116],1,Mt (.func (.func 226) #[] #[])),([45,62],2,Ku (.nilIface) (.func (.func 227) #[] #[])),([115,101,113,115],2,Mt (.func (.func 228) #[] #[])),([102,117,110],-1,Pq 229),([97,116],2,L6 (.func (.func 231) #[] #[])),([112,117,116],3,L6 (.func (.func 232) #[] #[])),([100,111,109,97,105,110],1,L6 (.func (.func 233) #[] #[])),([118,97,108,117,101,115],1,L6 (.func (.func 234) #[] #[])),([115,101,113],-1,Pq 235),([108,101,110],1,Kv 239),([104,101,97,100],1,Kv 240),([116,97,105,108],1,Kv 241),([97,112,112,101,110,100],2,Kv 242),([43,43],2,Kv 243)]
def sM (w:World)(b s len:Nat):Prop:=∀j,j<len->∃nm t C c,Cc[s+j]?=some (nm,t,C)/\C w c/\w.cell? ⟨b,3*j,none⟩=some (.string ⟨nm.toArray⟩)/\w.cell? ⟨b,3*j+1,none⟩=some (.int .i64 t)/\w.cell? ⟨b,3*j+2,none⟩=some c
def Ei (w:World)(s len:Nat)(e:Ending)(w':World):Prop:=∃b,e=.returned (.slice (some ⟨b,0,none⟩) len len)/\b<w'.heap.size/\sM w' b s len/\Ac w w'
theorem Mv {w W:World}{vs:Array Value}{t:TypeId}{s n:Nat}(G:Ac w W)(h:∀j,j<n->∃nm u C c,Cc[s+j]?=some (nm,u,C)/\C (W.alloc (.cells vs t)) c/\vs[3*j]?=some (.string ⟨nm.toArray⟩)/\vs[3*j+1]?=some (.int .i64 u)/\vs[3*j+2]?=some c):Ei w s n (.returned (.slice (some ⟨W.heap.size,0,none⟩) n n)) (W.alloc (.cells vs t)):=by
 have X:(W.alloc (.cells vs t)).heap[W.heap.size]?=some (.cells vs t (0,0)):=Af rfl;refine⟨_,rfl,Aa X,fun j hj=>?_,G.alloc _⟩;obtain⟨nm,u,C,c,a,b,d,e,f⟩:=h j hj;exact⟨nm,u,C,c,a,b,(Ab X _).trans d,(Ab X _).trans e,(Ab X _).trans f⟩
theorem iX (w:World):Calls prog 138 #[] w (Ei w 0 7):=by
 obtain⟨a,b⟩:∃a,Ei w 0 7=a:=⟨_,rfl⟩;have d:Hid _:=b;rw[b];clear b;go_enter func138,ntmps138
 go_wp2_with fail
 show a (.returned (.slice _ _ _)) (World.alloc _ (.cells _ _));rw[<- d.out];refine Mv (Ac.refl w) ?_;intro j e;have c:j=0\/j=1\/j=2\/j=3\/j=4\/j=5\/j=6:=by omega
 rcases c with rfl|rfl|rfl|rfl|rfl|rfl|rfl
 ·exact⟨_,_,_,_,rfl,rfl,rfl,rfl,rfl⟩
 ·exact⟨_,_,_,_,rfl,rfl,rfl,rfl,rfl⟩
 ·exact⟨_,_,_,_,rfl,rfl,rfl,rfl,rfl⟩
 ·exact⟨_,_,_,_,rfl,rfl,rfl,rfl,rfl⟩
 ·exact⟨_,_,_,_,rfl,rfl,rfl,rfl,rfl⟩
 ·exact⟨_,_,_,_,rfl,rfl,rfl,rfl,rfl⟩
 ·exact⟨_,_,_,_,rfl,rfl,rfl,rfl,rfl⟩
theorem iY (w:World):Calls prog 139 #[] w (Ei w 7 4):=by
 obtain⟨f,l⟩:∃f,Ei w 7 4=f:=⟨_,rfl⟩;have r:Hid _:=l;rw[l];clear l;go_enter func139,ntmps139
 go_wp2_with fail
 refine(Mu 199 w).mono ?_;rintro e s ⟨_,rfl,_,a,g⟩;obtain⟨_,⟨_,_,rfl,-⟩,-⟩:=id a;replace a:Hid (Lk _ _ _):=a;replace g:Hid (Ac _ _):=g;go_wp2_with fail
 refine(Mu 200 s).mono ?_;rintro e t ⟨_,rfl,_,b,h⟩;obtain⟨_,⟨_,_,rfl,-⟩,-⟩:=id b;replace b:Hid (Lk _ _ _):=b;replace h:Hid (Ac _ _):=h;go_wp2_with fail
 refine(Mu 201 t).mono ?_;rintro e u ⟨_,rfl,_,c,i⟩;obtain⟨_,⟨_,_,rfl,-⟩,-⟩:=id c;replace c:Hid (Lk _ _ _):=c;replace i:Hid (Ac _ _):=i;go_wp2_with fail
 refine(Mu 202 u).mono ?_;rintro e v ⟨_,rfl,_,d,k⟩;obtain⟨_,⟨_,_,rfl,-⟩,-⟩:=id d;replace d:Hid (Lk _ _ _):=d;replace k:Hid (Ac _ _):=k;go_wp2_with fail
 show f (.returned (.slice _ _ _)) (World.alloc _ (.cells _ _));rw[<- r.out];have q:=Ac.refl v;have p:=k.out.trans q;have o:=i.out.trans p;have n:=h.out.trans o;refine Mv (g.out.trans n) ?_;intro j x;have m:j=0\/j=1\/j=2\/j=3:=by omega
 rcases m with rfl|rfl|rfl|rfl
 ·exact⟨_,_,_,_,rfl,a.out.below (n.alloc _).below,rfl,rfl,rfl⟩
 ·exact⟨_,_,_,_,rfl,b.out.below (o.alloc _).below,rfl,rfl,rfl⟩
 ·exact⟨_,_,_,_,rfl,c.out.below (p.alloc _).below,rfl,rfl,rfl⟩
 ·exact⟨_,_,_,_,rfl,d.out.below (q.alloc _).below,rfl,rfl,rfl⟩
theorem bJ (w:World):Calls prog 140 #[] w (Ei w 11 7):=by
 obtain⟨h,p⟩:∃h,Ei w 11 7=h:=⟨_,rfl⟩;have y:Hid _:=p;rw[p];clear p;go_enter func140,ntmps140
 go_wp2_with fail
 refine(G8 204 w).mono ?_;rintro e z ⟨_,rfl,_,a,i⟩;obtain⟨_,_,rfl,-⟩:=id a;replace a:Hid (I0 _ _ _ _):=a;replace i:Hid (Ac _ _):=i;go_wp2_with fail
 refine(G8 205 z).mono ?_;rintro e A ⟨_,rfl,_,b,k⟩;obtain⟨_,_,rfl,-⟩:=id b;replace b:Hid (I0 _ _ _ _):=b;replace k:Hid (Ac _ _):=k;go_wp2_with fail
 refine(G8 206 A).mono ?_;rintro e B ⟨_,rfl,_,c,l⟩;obtain⟨_,_,rfl,-⟩:=id c;replace c:Hid (I0 _ _ _ _):=c;replace l:Hid (Ac _ _):=l;go_wp2_with fail
 refine(G8 207 B).mono ?_;rintro e C ⟨_,rfl,_,d,m⟩;obtain⟨_,_,rfl,-⟩:=id d;replace d:Hid (I0 _ _ _ _):=d;replace m:Hid (Ac _ _):=m;go_wp2_with fail
 refine(G8 208 C).mono ?_;rintro e D ⟨_,rfl,_,f,n⟩;obtain⟨_,_,rfl,-⟩:=id f;replace f:Hid (I0 _ _ _ _):=f;replace n:Hid (Ac _ _):=n;go_wp2_with fail
 refine(G8 209 D).mono ?_;rintro e E ⟨_,rfl,_,g,o⟩;obtain⟨_,_,rfl,-⟩:=id g;replace g:Hid (I0 _ _ _ _):=g;replace o:Hid (Ac _ _):=o;go_wp2_with fail
 show h (.returned (.slice _ _ _)) (World.alloc _ (.cells _ _));rw[<- y.out];have x:=Ac.refl E;have v:=o.out.trans x;have u:=n.out.trans v;have t:=m.out.trans u;have s:=l.out.trans t;have r:=k.out.trans s;refine Mv (i.out.trans r) ?_;intro j F;have q:j=0\/j=1\/j=2\/j=3\/j=4\/j=5\/j=6:=by omega
 rcases q with rfl|rfl|rfl|rfl|rfl|rfl|rfl
 ·exact⟨_,_,_,_,rfl,a.out.below (r.alloc _).below,rfl,rfl,rfl⟩
 ·exact⟨_,_,_,_,rfl,b.out.below (s.alloc _).below,rfl,rfl,rfl⟩
 ·exact⟨_,_,_,_,rfl,c.out.below (t.alloc _).below,rfl,rfl,rfl⟩
 ·exact⟨_,_,_,_,rfl,d.out.below (u.alloc _).below,rfl,rfl,rfl⟩
 ·exact⟨_,_,_,_,rfl,f.out.below (v.alloc _).below,rfl,rfl,rfl⟩
 ·exact⟨_,_,_,_,rfl,g.out.below (x.alloc _).below,rfl,rfl,rfl⟩
 ·exact⟨_,_,_,_,rfl,rfl,rfl,rfl,rfl⟩
theorem oQ (w:World):Calls prog 141 #[] w (Ei w 18 8):=by
 obtain⟨h,p⟩:∃h,Ei w 18 8=h:=⟨_,rfl⟩;have y:Hid _:=p;rw[p];clear p;go_enter func141,ntmps141
 go_wp2_with fail
 refine(Kn _ 214 _ rfl w).mono ?_;rintro e z ⟨_,rfl,_,a,i⟩;obtain⟨_,_,rfl,-⟩:=id a;replace a:Hid (Ku _ _ _ _):=a;replace i:Hid (Ac _ _):=i;go_wp2_with fail
 refine(Kn _ 217 _ rfl z).mono ?_;rintro e A ⟨_,rfl,_,b,k⟩;obtain⟨_,_,rfl,-⟩:=id b;replace b:Hid (Ku _ _ _ _):=b;replace k:Hid (Ac _ _):=k;go_wp2_with fail
 refine(Kn _ 219 _ rfl A).mono ?_;rintro e B ⟨_,rfl,_,c,l⟩;obtain⟨_,_,rfl,-⟩:=id c;replace c:Hid (Ku _ _ _ _):=c;replace l:Hid (Ac _ _):=l;go_wp2_with fail
 refine(Kn _ 221 _ rfl B).mono ?_;rintro e C ⟨_,rfl,_,d,m⟩;obtain⟨_,_,rfl,-⟩:=id d;replace d:Hid (Ku _ _ _ _):=d;replace m:Hid (Ac _ _):=m;go_wp2_with fail
 refine(Pc 224 _ C).mono ?_;rintro e D ⟨_,rfl,_,f,n⟩;obtain⟨_,rfl,-⟩:=id f;replace f:Hid (Mt _ _ _):=f;replace n:Hid (Ac _ _):=n;go_wp2_with fail
 refine(Pc 225 _ D).mono ?_;rintro e E ⟨_,rfl,_,g,o⟩;obtain⟨_,rfl,-⟩:=id g;replace g:Hid (Mt _ _ _):=g;replace o:Hid (Ac _ _):=o;go_wp2_with fail
 show h (.returned (.slice _ _ _)) (World.alloc _ (.cells _ _));rw[<- y.out];have x:=Ac.refl E;have v:=o.out.trans x;have u:=n.out.trans v;have t:=m.out.trans u;have s:=l.out.trans t;have r:=k.out.trans s;refine Mv (i.out.trans r) ?_;intro j F;have q:j=0\/j=1\/j=2\/j=3\/j=4\/j=5\/j=6\/j=7:=by omega
 rcases q with rfl|rfl|rfl|rfl|rfl|rfl|rfl|rfl
 ·exact⟨_,_,_,_,rfl,rfl,rfl,rfl,rfl⟩
 ·exact⟨_,_,_,_,rfl,rfl,rfl,rfl,rfl⟩
 ·exact⟨_,_,_,_,rfl,a.out.below (r.alloc _).below,rfl,rfl,rfl⟩
 ·exact⟨_,_,_,_,rfl,b.out.below (s.alloc _).below,rfl,rfl,rfl⟩
 ·exact⟨_,_,_,_,rfl,c.out.below (t.alloc _).below,rfl,rfl,rfl⟩
 ·exact⟨_,_,_,_,rfl,d.out.below (u.alloc _).below,rfl,rfl,rfl⟩
 ·exact⟨_,_,_,_,rfl,f.out.below (v.alloc _).below,rfl,rfl,rfl⟩
 ·exact⟨_,_,_,_,rfl,g.out.below (x.alloc _).below,rfl,rfl,rfl⟩
theorem Xy (w:World):Calls prog 142 #[] w (Ei w 26 3):=by
 obtain⟨d,i⟩:∃d,Ei w 26 3=d:=⟨_,rfl⟩;have o:Hid _:=i;rw[i];clear i;go_enter func142,ntmps142
 go_wp2_with fail
 refine(Pc 226 _ w).mono ?_;rintro e p ⟨_,rfl,_,a,f⟩;obtain⟨_,rfl,-⟩:=id a;replace a:Hid (Mt _ _ _):=a;replace f:Hid (Ac _ _):=f;go_wp2_with fail
 refine(Kn _ 227 _ rfl p).mono ?_;rintro e q ⟨_,rfl,_,b,g⟩;obtain⟨_,_,rfl,-⟩:=id b;replace b:Hid (Ku _ _ _ _):=b;replace g:Hid (Ac _ _):=g;go_wp2_with fail
 refine(Pc 228 _ q).mono ?_;rintro e r ⟨_,rfl,_,c,h⟩;obtain⟨_,rfl,-⟩:=id c;replace c:Hid (Mt _ _ _):=c;replace h:Hid (Ac _ _):=h;go_wp2_with fail
 show d (.returned (.slice _ _ _)) (World.alloc _ (.cells _ _));rw[<- o.out];have n:=Ac.refl r;have m:=h.out.trans n;have l:=g.out.trans m;refine Mv (f.out.trans l) ?_;intro j s;have k:j=0\/j=1\/j=2:=by omega
 rcases k with rfl|rfl|rfl
 ·exact⟨_,_,_,_,rfl,a.out.below (l.alloc _).below,rfl,rfl,rfl⟩
 ·exact⟨_,_,_,_,rfl,b.out.below (m.alloc _).below,rfl,rfl,rfl⟩
 ·exact⟨_,_,_,_,rfl,c.out.below (n.alloc _).below,rfl,rfl,rfl⟩
theorem Ws (w:World):Calls prog 143 #[] w (Ei w 29 5):=by
 obtain⟨f,l⟩:∃f,Ei w 29 5=f:=⟨_,rfl⟩;have r:Hid _:=l;rw[l];clear l;go_enter func143,ntmps143
 go_wp2_with fail
 refine(Gr 231 _ w).mono ?_;rintro e s ⟨_,rfl,_,a,g⟩;obtain⟨_,rfl,-⟩:=id a;replace a:Hid (L6 _ _ _):=a;replace g:Hid (Ac _ _):=g;go_wp2_with fail
 refine(Gr 232 _ s).mono ?_;rintro e t ⟨_,rfl,_,b,h⟩;obtain⟨_,rfl,-⟩:=id b;replace b:Hid (L6 _ _ _):=b;replace h:Hid (Ac _ _):=h;go_wp2_with fail
 refine(Gr 233 _ t).mono ?_;rintro e u ⟨_,rfl,_,c,i⟩;obtain⟨_,rfl,-⟩:=id c;replace c:Hid (L6 _ _ _):=c;replace i:Hid (Ac _ _):=i;go_wp2_with fail
 refine(Gr 234 _ u).mono ?_;rintro e v ⟨_,rfl,_,d,k⟩;obtain⟨_,rfl,-⟩:=id d;replace d:Hid (L6 _ _ _):=d;replace k:Hid (Ac _ _):=k;go_wp2_with fail
 show f (.returned (.slice _ _ _)) (World.alloc _ (.cells _ _));rw[<- r.out];have q:=Ac.refl v;have p:=k.out.trans q;have o:=i.out.trans p;have n:=h.out.trans o;refine Mv (g.out.trans n) ?_;intro j x;have m:j=0\/j=1\/j=2\/j=3\/j=4:=by omega
 rcases m with rfl|rfl|rfl|rfl|rfl
 ·exact⟨_,_,_,_,rfl,rfl,rfl,rfl,rfl⟩
 ·exact⟨_,_,_,_,rfl,a.out.below (n.alloc _).below,rfl,rfl,rfl⟩
 ·exact⟨_,_,_,_,rfl,b.out.below (o.alloc _).below,rfl,rfl,rfl⟩
 ·exact⟨_,_,_,_,rfl,c.out.below (p.alloc _).below,rfl,rfl,rfl⟩
 ·exact⟨_,_,_,_,rfl,d.out.below (q.alloc _).below,rfl,rfl,rfl⟩
theorem Wt (w:World):Calls prog 144 #[] w (Ei w 34 6):=by
 obtain⟨g,n⟩:∃g,Ei w 34 6=g:=⟨_,rfl⟩;have u:Hid _:=n;rw[n];clear n;go_enter func144,ntmps144
 go_wp2_with fail
 refine(Gs 239 w).mono ?_;rintro e v ⟨_,rfl,_,a,h⟩;obtain⟨_,⟨_,rfl,-⟩,-⟩:=id a;replace a:Hid (Kv _ _ _):=a;replace h:Hid (Ac _ _):=h;go_wp2_with fail
 refine(Gs 240 v).mono ?_;rintro e x ⟨_,rfl,_,b,i⟩;obtain⟨_,⟨_,rfl,-⟩,-⟩:=id b;replace b:Hid (Kv _ _ _):=b;replace i:Hid (Ac _ _):=i;go_wp2_with fail
 refine(Gs 241 x).mono ?_;rintro e y ⟨_,rfl,_,c,k⟩;obtain⟨_,⟨_,rfl,-⟩,-⟩:=id c;replace c:Hid (Kv _ _ _):=c;replace k:Hid (Ac _ _):=k;go_wp2_with fail
 refine(Gs 242 y).mono ?_;rintro e z ⟨_,rfl,_,d,l⟩;obtain⟨_,⟨_,rfl,-⟩,-⟩:=id d;replace d:Hid (Kv _ _ _):=d;replace l:Hid (Ac _ _):=l;go_wp2_with fail
 refine(Gs 243 z).mono ?_;rintro e A ⟨_,rfl,_,f,m⟩;obtain⟨_,⟨_,rfl,-⟩,-⟩:=id f;replace f:Hid (Kv _ _ _):=f;replace m:Hid (Ac _ _):=m;go_wp2_with fail
 show g (.returned (.slice _ _ _)) (World.alloc _ (.cells _ _));rw[<- u.out];have t:=Ac.refl A;have s:=m.out.trans t;have r:=l.out.trans s;have q:=k.out.trans r;have p:=i.out.trans q;refine Mv (h.out.trans p) ?_;intro j B;have o:j=0\/j=1\/j=2\/j=3\/j=4\/j=5:=by omega
 rcases o with rfl|rfl|rfl|rfl|rfl|rfl
 ·exact⟨_,_,_,_,rfl,rfl,rfl,rfl,rfl⟩
 ·exact⟨_,_,_,_,rfl,a.out.below (p.alloc _).below,rfl,rfl,rfl⟩
 ·exact⟨_,_,_,_,rfl,b.out.below (q.alloc _).below,rfl,rfl,rfl⟩
 ·exact⟨_,_,_,_,rfl,c.out.below (r.alloc _).below,rfl,rfl,rfl⟩
 ·exact⟨_,_,_,_,rfl,d.out.below (s.alloc _).below,rfl,rfl,rfl⟩
 ·exact⟨_,_,_,_,rfl,f.out.below (t.alloc _).below,rfl,rfl,rfl⟩
theorem Pq.func {f:FuncId}{w:World}{c:Value}(h:Pq f w c):∃k cs,c=.func (.func k) #[] cs:=⟨_,_,h⟩
theorem I0.func {v f:Value}{w:World}{c:Value}(h:I0 v f w c):∃k cs,c=.func (.func k) #[] cs:=by
 obtain⟨p,q,e,_⟩:=h;exact⟨_,_,e⟩
theorem Lk.func {f:FuncId}{w:World}{c:Value}(h:Lk f w c):∃k cs,c=.func (.func k) #[] cs:=by
 obtain⟨r,h,_⟩:=h;exact h.func
theorem Ku.func {v f:Value}{w:World}{c:Value}(h:Ku v f w c):∃k cs,c=.func (.func k) #[] cs:=by
 obtain⟨p,q,e,_⟩:=h;exact⟨_,_,e⟩
theorem Mt.func {f:Value}{w:World}{c:Value}(h:Mt f w c):∃k cs,c=.func (.func k) #[] cs:=by
 obtain⟨q,e,_⟩:=h;exact⟨_,_,e⟩
theorem L6.func {f:Value}{w:World}{c:Value}(h:L6 f w c):∃k cs,c=.func (.func k) #[] cs:=by
 obtain⟨q,e,_⟩:=h;exact⟨_,_,e⟩
theorem Kv.func {f:FuncId}{w:World}{c:Value}(h:Kv f w c):∃k cs,c=.func (.func k) #[] cs:=by
 obtain⟨r,h,_⟩:=h;exact h.func
theorem iZ:∀x∈Cc,∀(w:World)(c:Value),x.2.2 w c->∃k cs,c=.func (.func k) #[] cs:=by
 unfold Cc
 repeat' first
  | exact List.forall_mem_nil _
  | refine List.forall_mem_cons.2 ⟨?_,?_⟩
 all_goals first
  | exact fun _ _ h=>⟨_,_,h⟩
  | exact fun _ _ h=>I0.func h
  | exact fun _ _ h=>Lk.func h
  | exact fun _ _ h=>Ku.func h
  | exact fun _ _ h=>Mt.func h
  | exact fun _ _ h=>L6.func h
  | exact fun _ _ h=>Kv.func h
theorem Wu:∀x∈Cc,∀(w w':World)(c:Value),(∀p t v,Box w p t v->Box w' p t v)->x.2.2 w c->x.2.2 w' c:=by
 have i:∀(v f:Value)(w w':World)(c:Value),(∀p t v,Box w p t v->Box w' p t v)->I0 v f w c->I0 v f w' c:=by
  rintro v f w w' c a ⟨p,q,e,d,b⟩;exact⟨p,q,e,a _ _ _ d,a _ _ _ b⟩
 have l:∀(v f:Value)(w w':World)(c:Value),(∀p t v,Box w p t v->Box w' p t v)->Ku v f w c->Ku v f w' c:=by
  rintro v f w w' c a ⟨p,q,e,d,b⟩;exact⟨p,q,e,a _ _ _ d,a _ _ _ b⟩
 have j:∀(f:FuncId)(w w':World)(c:Value),(∀p t v,Box w p t v->Box w' p t v)->Lk f w c->Lk f w' c:=by
  rintro f w w' c a ⟨r,d,b⟩;exact⟨r,i _ _ _ _ _ a d,a _ _ _ b⟩
 have m:∀(f:Value)(w w':World)(c:Value),(∀p t v,Box w p t v->Box w' p t v)->Mt f w c->Mt f w' c:=by
  rintro f w w' c a ⟨q,e,b⟩;exact⟨q,e,a _ _ _ b⟩
 have g:∀(f:Value)(w w':World)(c:Value),(∀p t v,Box w p t v->Box w' p t v)->L6 f w c->L6 f w' c:=by
  rintro f w w' c a ⟨q,e,b⟩;exact⟨q,e,a _ _ _ b⟩
 have k:∀(f:FuncId)(w w':World)(c:Value),(∀p t v,Box w p t v->Box w' p t v)->Kv f w c->Kv f w' c:=by
  rintro f w w' c a ⟨r,d,b⟩;exact⟨r,g _ _ _ _ a d,a _ _ _ b⟩
 unfold Cc
 repeat' first
  | exact List.forall_mem_nil _
  | refine List.forall_mem_cons.2 ⟨?_,?_⟩
 all_goals first
  | exact fun _ _ _ _ h=>h
  | exact i _ _
  | exact j _
  | exact l _ _
  | exact m _
  | exact g _
  | exact k _
theorem Tv (x:List UInt8×Int×(World->Value->Prop))(hx:x∈Cc)(w w':World)(c:Value)(hb:Below w.heap.size w w')(h:x.2.2 w c):x.2.2 w' c:=Wu x hx w w' c (fun _ _ _ h=>Box.below hb h) h
theorem oR {w:World}{h:Nat}{v0 v1 v2:Value}{t:TypeId}{f:Nat×Nat}(X:w.heap[h]?=some (.cells #[v0,v1,v2] t f)){w':World}(F:Fr (·≠h) w w')(p:Nat)(u:TypeId)(v:Value)(hB:Box w p u v):Box w' p u v:=by
 have a:p≠h:=by
  rintro rfl;rw[show w.heap[p]?=_ from hB] at X;injection X with X
  injection X with X
  have:=congrArg Array.size X;simp at this
 exact(F.block p (Aa hB) a).trans hB
theorem oS:Cc.length=40:=rfl
def Jy (i:Nat):Nat:=[0,7,11,18,26,29,34].getD i 40
def lT (i:Nat):FuncId:=[138,139,140,141,142,143,144].getD i 0
theorem wF (i:Nat)(hi:i<7)(w:World):Calls prog (lT i) #[] w (Ei w (Jy i) (Jy (i+1)-Jy i)):=by
 have h:i=0\/i=1\/i=2\/i=3\/i=4\/i=5\/i=6:=by omega
 rcases h with rfl|rfl|rfl|rfl|rfl|rfl|rfl
 ·exact iX w
 ·exact iY w
 ·exact bJ w
 ·exact oQ w
 ·exact Xy w
 ·exact Ws w
 ·exact Wt w
def Wv (w:World)(op:ByteArray)(e:Ending)(w':World):Prop :=
 Below w.heap.size w w'/\((∃(i:Nat)(t:Int)(C:World->Value->Prop)(k:FuncId)(cs:Array Value),e=.returned (.tuple #[.agg #[.string op,.int .i64 t,.func (.func k) #[] cs],.bool true])/\Cc[i]?=some (op.data.toList,t,C)/\C w' (.func (.func k) #[] cs)) \/
  (e=.returned (.tuple #[.agg #[.string ⟨#[]⟩,.int .i64 0,.nilFunc],.bool false])/\∀x∈Cc,x.1≠op.data.toList))
theorem sN (i:Nat)(hi:i<7):Jy i<=Jy (i+1):=by
 have h:i=0\/i=1\/i=2\/i=3\/i=4\/i=5\/i=6:=by omega
 rcases h with rfl|rfl|rfl|rfl|rfl|rfl|rfl<;>decide
theorem oT (i:Nat)(hi:i<7):Jy (i+1)<100:=by
 have h:i=0\/i=1\/i=2\/i=3\/i=4\/i=5\/i=6:=by omega
 rcases h with rfl|rfl|rfl|rfl|rfl|rfl|rfl<;>decide
theorem sO (i:Nat)(hi:i<7):(#[Value.func (.func 138) #[] #[],Value.func (.func 139) #[] #[],Value.func (.func 140) #[] #[],Value.func (.func 141) #[] #[],Value.func (.func 142) #[] #[],Value.func (.func 143) #[] #[],Value.func (.func 144) #[] #[]]:Array Value)[i]?=some (.func (.func (lT i)) #[] #[]):=by
 have h:i=0\/i=1\/i=2\/i=3\/i=4\/i=5\/i=6:=by omega
 rcases h with rfl|rfl|rfl|rfl|rfl|rfl|rfl<;>rfl
theorem jA (w:World):Sem.run prog (callFunc 138 #[]) w=.ok (.enter 138 #[]) w:=by kernel_rfl
theorem jB (w:World):Sem.run prog (callFunc 139 #[]) w=.ok (.enter 139 #[]) w:=by kernel_rfl
theorem bK (w:World):Sem.run prog (callFunc 140 #[]) w=.ok (.enter 140 #[]) w:=by kernel_rfl
theorem oV (w:World):Sem.run prog (callFunc 141 #[]) w=.ok (.enter 141 #[]) w:=by kernel_rfl
theorem Xz (w:World):Sem.run prog (callFunc 142 #[]) w=.ok (.enter 142 #[]) w:=by kernel_rfl
theorem Ww (w:World):Sem.run prog (callFunc 143 #[]) w=.ok (.enter 143 #[]) w:=by kernel_rfl
theorem Wx (w:World):Sem.run prog (callFunc 144 #[]) w=.ok (.enter 144 #[]) w:=by kernel_rfl
theorem jC (i:Nat)(hi:i<7)(w:World):Sem.run prog (callFunc (lT i) #[]) w=.ok (.enter (lT i) #[]) w:=by
 have h:i=0\/i=1\/i=2\/i=3\/i=4\/i=5\/i=6:=by omega
 rcases h with rfl|rfl|rfl|rfl|rfl|rfl|rfl
 ·exact jA w
 ·exact jB w
 ·exact bK w
 ·exact oV w
 ·exact Xz w
 ·exact Ww w
 ·exact Wx w
theorem sP (op:ByteArray)(w:World):Calls prog 81 #[.string op] w (Wv w op):=by
 obtain⟨D,hP⟩:∃D,Wv w op=D:=⟨_,rfl⟩;have HP:Hid (Wv w op=D):=hP;rw[hP];clear hP;have Q:Hid (((w.alloc (.cells #[.string ⟨#[]⟩,.int .i64 0,.nilFunc] 137)).alloc (.cells #[.func (.func 138) #[] #[],.func (.func 139) #[] #[],.func (.func 140) #[] #[],.func (.func 141) #[] #[],.func (.func 142) #[] #[],.func (.func 143) #[] #[],.func (.func 144) #[] #[]] 192)).heap[w.heap.size]?=_):=Ac1 ((Ac.refl _).alloc _).below (Af rfl);have S:Hid (((w.alloc (.cells #[.string ⟨#[]⟩,.int .i64 0,.nilFunc] 137)).alloc _).heap[w.heap.size+1]?=some (.cells #[.func (.func 138) #[] #[],.func (.func 139) #[] #[],.func (.func 140) #[] #[],.func (.func 141) #[] #[],.func (.func 142) #[] #[],.func (.func 143) #[] #[],.func (.func 144) #[] #[]] 192 (0,0))):=Af (by simp);have M:Hid (Ac w ((w.alloc (.cells #[.string ⟨#[]⟩,.int .i64 0,.nilFunc] 137)).alloc (.cells #[.func (.func 138) #[] #[],.func (.func 139) #[] #[],.func (.func 140) #[] #[],.func (.func 141) #[] #[],.func (.func 142) #[] #[],.func (.func 143) #[] #[],.func (.func 144) #[] #[]] 192))):=((Ac.refl w).alloc _).alloc _;go_enter func81,ntmps81
 go_wp2_with fail
 generalize ((w.alloc (.cells #[.string ⟨#[]⟩,.int .i64 0,.nilFunc] 137)).alloc _)=W0 at Q S M |-;go_loopw [3,10] (fun u3 i wr=>∃k:Nat,k<=7/\u3=.bool false/\i=.int .i64 k/\Hid (Ac w wr)/\Hid (wr.heap[w.heap.size]?=some (.cells #[.string ⟨#[]⟩,.int .i64 0,.nilFunc] 137 (0,0)))/\Hid (wr.heap[w.heap.size+1]?=some (.cells #[.func (.func 138) #[] #[],.func (.func 139) #[] #[],.func (.func 140) #[] #[],.func (.func 141) #[] #[],.func (.func 142) #[] #[],.func (.func 143) #[] #[],.func (.func 144) #[] #[]] 192 (0,0)))/\Hid (∀i x,i<Jy k->Cc[i]?=some x->x.1≠op.data.toList)) (fun _ i _=>7-(intOf i).toNat)
 case atStart=>exact⟨0,by omega,rfl,rfl,M,Q,S,fun i x h=>absurd h (by show ¬i<0;omega)⟩
 case round =>
  clear M Q S;obtain⟨k,hk,rfl,rfl,N,G,J,HN⟩:=hrel;have z1:=Aa J.out;by_cases l:k<7
  ·have cF:=(Ab J.out k).trans (sO k l);have B:Hid (Calls _ _ #[] wr _):=wF k l wr;have HL:Hid _:=sN k l;have a0:=jC k l wr;go_wp2_with fail
   refine B.out.mono ?_;rintro e u ⟨b,rfl,g,I,K⟩;have H1:Hid (Ac w u):=N.out.trans K;have X1:Hid _:=Ac1 K.below G.out;have Y1:Hid _:=Ac1 K.below J.out;have PA:Hid (sM u b _ _):=I;obtain⟨a,s⟩:∃a,Jy (k+1)-Jy k=a:=⟨_,rfl⟩;rw[s] at PA |-;have r:Hid (Jy k+a=Jy (k+1)/\a<100):=⟨by have:=HL.out;omega,by have:=oT k l;omega⟩;have a3:a<100:=r.out.2;clear K I a0 cF B N G J s;go_wp2_with fail
   go_loopw [3,17] (fun u3 i wr=>∃j:Nat,j<=a/\u3=.bool false/\i=.int .i64 j/\Hid (Ac u wr)/\Hid (∀i x,i<j->Cc[Jy k+i]?=some x->x.1≠op.data.toList)) (fun _ i _=>a-(intOf i).toNat)
   case atStart=>exact⟨0,by omega,rfl,rfl,Ac.refl u,fun i x h=>absurd h (by omega)⟩
   case round =>
    obtain⟨j,hj,rfl,rfl,f,z⟩:=hrel;by_cases a1:j<a
    ·obtain⟨H,t,C,c,ht,Z,W,X,Y⟩:=PA.out j a1;rw[Nat.mul_comm 3 j] at W X Y;have m:=Ae4 ht;obtain⟨q,o,rfl⟩:=iZ _ m u c Z;have y:Hid _:=f.out.below;have a2:b<u.heap.size:=g;have e0:=(y.out.cell (p:=⟨b,j*3,none⟩) g).trans W;have e1:=(y.out.cell (p:=⟨b,j*3+1,none⟩) g).trans X;have e2:=(y.out.cell (p:=⟨b,j*3+2,none⟩) g).trans Y;have HC:Hid (C wr _):=Tv _ m u wr _ y.out Z;have B:Hid _:=ht;have E:Hid _:=Ac1 y.out X1.out;have H2:Hid (Ac w wr):=H1.out.trans f.out;have zb:=Ad8 g y.out.size;clear m ht Z W X Y;have X3:Hid ((wr.alloc (.cells #[.string ⟨H.toArray⟩,.int .i64 t,.func (.func q) #[] o] 137)).heap[_]?=_):=Ac1 ((Ac.refl wr).alloc _).below E.out;have st:=Ae (v:=.func (.func q) #[] o) rfl;obtain⟨r0,r1,r2⟩:=Rp E.out;obtain⟨s0,s1,s2⟩:=cK E.out;have zw:=Aa E.out;by_cases n:H=op.data.toList
     ·have F:H.toArray=op.data:=by rw[n]
      have XS:(((wr.setCell ⟨w.heap.size,0,none⟩ (.string op)).setCell ⟨w.heap.size,1,none⟩ (.int .i64 t)).setCell _ _).heap[w.heap.size]?=some (.cells #[_,_,.func (.func q) #[] o] 137 (0,0)):=Ai (Ai (Ai E.out 0 _) 1 _) 2 _;have R:Hid (((((wr.setCell ⟨w.heap.size,0,none⟩ (.string op)).setCell ⟨w.heap.size,1,none⟩ (.int .i64 t)).setCell ⟨w.heap.size,2,none⟩ (.func (.func q) #[] o)).alloc (.cells #[.string op,.int .i64 t,.func (.func q) #[] o] 137)).heap[w.heap.size]?=_):=Ac1 ((Ac.refl _).alloc _).below XS;have P:Hid (D (.returned (.tuple #[.agg #[.string op,.int .i64 t,.func (.func q) #[] o],.bool true])) ((((wr.setCell ⟨w.heap.size,0,none⟩ (.string op)).setCell ⟨w.heap.size,1,none⟩ (.int .i64 t)).setCell ⟨w.heap.size,2,none⟩ (.func (.func q) #[] o)).alloc (.cells #[.string op,.int .i64 t,.func (.func q) #[] o] 137))):=by
       show D _ _;rw[<- HP.out];refine⟨((((H2.out.setNew (Ad9 _) _).setNew (Ad9 _) _).setNew (Ad9 _) _).alloc _).below,.inl ⟨Jy k+j,t,C,q,o,rfl,?_,?_⟩⟩
       ·rw[B.out,n]
       ·exact Wu _ (Ae4 B.out) wr _ _ (oR E.out (((((Fr.refl _ wr).set (by simp) _).set (by simp) _).set (by simp) _).alloc _)) HC.out
      obtain rfl:op=⟨H.toArray⟩:=by cases op;simp at F;rw[F]
      clear XS n F HC B E H2 z f y;go_wp2_with fail
      obtain⟨T,U,V⟩:=Rp R.out;exact Ae2 (by simp[results,results81,go_sem,T,U,V]) rfl P.out
     ·have O:Hid (Ac u (wr.alloc (.cells #[.string ⟨H.toArray⟩,.int .i64 t,.func (.func q) #[] o] 137))):=f.out.alloc _;have A:Hid (∀i x,i<j+1->Cc[Jy k+i]?=some x->x.1≠op.data.toList):=by
       intro i x L hx;rcases Nat.lt_or_ge i j with h|h
       ·exact z.out i x h hx
       ·obtain rfl:i=j:=by omega
        rw[B.out] at hx;obtain rfl:=Ae5 hx;exact n
      go_wp2_with fail
      ·rename_i hh
       exact absurd (show H=_ by rw[<- ByteArray.toList_eq];simpa using hh) n
      ·exact⟨⟨j+1,by omega,rfl,by simp,O,A⟩,by simp[intOf];omega⟩
    ·obtain rfl:j=a:=by omega
     have A:Hid (∀i x,i<Jy (k+1)->Cc[i]?=some x->x.1≠op.data.toList):=by
      intro i x L hx;rcases Nat.lt_or_ge i (Jy k) with h|h
      ·exact HN.out i x h hx
      ·obtain⟨d,rfl⟩:=Nat.exists_eq_add_of_le h;exact z.out d x (by have:=r.out.1;omega) hx
     have X3:Hid _:=Ac1 f.out.below X1.out;have Y3:Hid _:=Ac1 f.out.below Y1.out;have H3:Hid (Ac w wr):=H1.out.trans f.out;go_wp2_with fail
     exact⟨⟨k+1,by omega,rfl,by simp,H3,X3,Y3,A⟩,by simp[intOf];omega⟩
  ·obtain rfl:k=7:=by omega
   obtain⟨r0,r1,r2⟩:=Rp G.out;obtain⟨s0,s1,s2⟩:=cK G.out;have zw:=Aa G.out;have st:=Ae (v:=.nilFunc) rfl;have R:Hid ((((wr.setCell ⟨w.heap.size,0,none⟩ (.string ⟨#[]⟩)).setCell ⟨w.heap.size,1,none⟩ (.int .i64 0)).setCell _ _).heap[w.heap.size]?=some (.cells #[_,_,.nilFunc] 137 (0,0))):=Ai (Ai (Ai G.out 0 _) 1 _) 2 _;have P:Hid (D (.returned (.tuple #[.agg #[.string ⟨#[]⟩,.int .i64 0,.nilFunc],.bool false])) (((wr.setCell ⟨w.heap.size,0,none⟩ (.string ⟨#[]⟩)).setCell ⟨w.heap.size,1,none⟩ (.int .i64 0)).setCell ⟨w.heap.size,2,none⟩ .nilFunc)):=by
    show D _ _;rw[<- HP.out];refine⟨(((N.out.setNew (Ad9 _) _).setNew (Ad9 _) _).setNew (Ad9 _) _).below,.inr ⟨rfl,fun x hx=>?_⟩⟩;obtain⟨i,L⟩:=List.mem_iff_getElem?.1 hx;exact HN.out i x (by have h9:=(List.getElem?_eq_some_iff.1 L).1;rw[oS] at h9;exact h9) L
   go_wp2_with fail
   obtain⟨T,U,V⟩:=Rp R.out;exact Ae2 (by simp[results,results81,go_sem,T,U,V]) rfl P.out
end Go.Proofs.YtdpeliifdlhhkaaGreatDoor.Sx
