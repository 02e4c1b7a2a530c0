/- FormModules: the contract of the row. -/
import Derived.Test.YtjbfcadeapphbaaGreatDoorF15
import Derived.Test.YtjbfcadeapphbaaGreatDoorF48
namespace Go.Proofs.YtjbfcadeapphbaaGreatDoor
set_option maxRecDepth 100000
open Go.ChangeShapes Go.WideShapes Go.ChangeAt Go.RowKit
open Go.ChangeMaps (open_string shut_string)
theorem Sx.metEM (os:Os):laidMetH Tryz.prog Sx.laidEF ((((World.holding Tryz.prog os ⟨#[],#[],[]⟩).setCell ⟨0,0,none⟩ (.iface 171 (.agg #[.pointer (some ⟨7,23,none⟩)]))).layVars Tryz.prog Sx.laidLF).forCall (fun _ _=>0) ⟨#[],#[.string ⟨#[]⟩],[]⟩).memory:=by
 refine laidMetH_of_parts ?_ (by kernel_rfl);rw[Sx.filtLF];have a:(Sx.laidLF.filter fun x=>(Sx.laidLF.map (·.1)).contains x.1)=Sx.laidLF:=List.filter_eq_self.2 fun x hx=>List.contains_iff_mem.2 (List.mem_map.2 ⟨x,hx,rfl⟩);have b:(Sx.laidLF.filter fun x=>!(Sx.laidLF.map (·.1)).contains x.1)=[]:=List.filter_eq_nil_iff.2 fun x hx=>by rw[List.contains_iff_mem.2 (List.mem_map.2 ⟨x,hx,rfl⟩)];simp
 have h:laidMet Tryz.prog Sx.laidLF (((World.holding Tryz.prog os ⟨#[],#[],[]⟩).setCell ⟨0,0,none⟩ (.iface 171 (.agg #[.pointer (some ⟨7,23,none⟩)]))).layVars Tryz.prog Sx.laidLF):=laidMet_layVars (w0:=(World.holding Tryz.prog os ⟨#[],#[],[]⟩).setCell ⟨0,0,none⟩ (.iface 171 (.agg #[.pointer (some ⟨7,23,none⟩)]))) (Sx.laidLF.map (·.1)) [] (by rw[a]) (by rw[a];kernel_rfl) (by rw[a];kernel_rfl) (by rw[b];exact LaidIn.none);exact h.of_heap (by simp[World.memory,World.forCall,Input.heap])
theorem Sx.mods_lifted (os:Os)(started:os.Started)(H:Type)(enc:TypeId×Value->H) :
  ReturnsInHanded {} Tryz.checked os 4 .any (fun w args=>(Rows.formModulesSpec.pre enc Tryz.prog Tryz.f4 [] false w args/\laidMetH Tryz.prog Sx.laidEF w)/\sizedMet enc Tryz.prog Tryz.f4 (OpenSpec.ofChange Rows.formModulesSpec) false w args)
   (Rows.formModulesSpec.post enc Tryz.prog Tryz.f4 false true false false):=by
 refine returnsInHanded_of_change_and (C:=Tryz.checked) (X:=fun w _=>laidMetH Tryz.prog Sx.laidEF w) (fun _ _ _ hh h=>h.of_heap hh) Sx.ownKn started (by kernel_rfl) Tryz.func4
  (ChangeSpec.witness_shaped (enc:=enc) (C:=Tryz.checked) (os:=os) (X:=fun w _=>laidMetH Tryz.prog Sx.laidEF w) false (((World.holding Tryz.prog os ⟨#[],#[],[]⟩).setCell ⟨0,0,none⟩ (.iface 171 (.agg #[.pointer (some ⟨7,23,none⟩)]))).layVars Tryz.prog Sx.laidLF) #[.string ⟨#[]⟩] 8 (World.layVars_os _ _ _) (World.shaped_of_ZipB (by kernel_rfl) (by kernel_rfl)) (by kernel_rfl) (by kernel_rfl) (by kernel_rfl) (Sx.metEM os)) ?_
 intro W d args x l k c A _ a E _;have f:(DataW.weightsEach Tryz.prog (Tryz.f4.params.toList++Rows.formModulesSpec.plain.varTypes Tryz.prog) (x++l)).all (·<=reachBytes)=true:=a;clear a;have b:∀(j:Nat) t v,Tryz.f4.params[j]?=some t->args[j]?=some v->Value.okWide Tryz.prog W .any d t v:=c;have u:=A;obtain⟨p,q,o,s,rfl,F,G⟩:=A;have y:DataW.TrodAll enc Tryz.prog W 0 (fun _=>true) true Tryz.f4.params.toList args.toList x p:=o;have z:DataW.TrodVars enc Tryz.prog W (fun _=>true) [] l q:=s;rw[Tryz.params4] at y b f;obtain⟨J,M,rfl,rfl,D⟩:=trodAll_one y;obtain⟨i,rfl,rfl,rfl,K⟩:=open_string Tryz.underlying9 (b 0 9 J rfl rfl) D;obtain⟨rfl,rfl⟩:l=[]/\q=[]:=by
  cases l with
  | nil=>exact⟨rfl,z⟩
  | cons g r=>exact absurd z (by intro h;cases h)
 have B:=sized_string f (j:=0) (t:=9) rfl rfl;have N:i.data.toList.length=i.size:=by simp
 have I:reachBytes=140737488351232:=rfl;rw[I] at B;have n:Rows.formModulesSpec.fn H ([.lit (.string i.data.toList)]++[])={ results:=[.lit (.bool true)],args:=[.lit (.string i.data.toList)] }:=by simp[Rows.formModulesSpec]
 refine(Sx.mods_any i W (Sx.basee_of_laidF E) (by omega)).mono ?_;rintro e L ⟨rfl,m⟩;refine⟨_,rfl,_,_,_,[],[],[],u,?_,?_,?_,m.frame _,fun h=>by cases h⟩
 ·rw[n];exact trodAll_mk1 (shut_bool Tryz.underlying4 true)
 ·rw[n];exact trodAll_mk1 (shut_string Tryz.underlying9 K)
 ·rw[n];rfl
end Go.Proofs.YtjbfcadeapphbaaGreatDoor
