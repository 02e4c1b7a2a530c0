/- The row of expressions: what the law starts from. -/
import Derived.Test.YtjbfcadeapphbaaGreatDoorF14
import Derived.Test.YtjbfcadeapphbaaGreatDoorRows
import Derived.ChangeSame
import Derived.ChangeVars
import Derived.JoinedOf
import Derived.RowKit
import Derived.RowKitTokens
import Derived.LaidLaws
import Derived.LaidHandle
import Derived.Lay
import Derived.Lib.LaidTab
import Derived.Stop.Joined
import Derived.Stop.LaidErr
import Derived.ProofKit
import Derived.SizedLaws
import Derived.LaidSub
namespace Go.Proofs.YtjbfcadeapphbaaGreatDoor.Sx
open Go.RowKit Go.Sort Go.ChangeShapes Go.WideShapes Go.ChangeAt
theorem ownKn:ownKnob Tryz.prog.godebug=none:=by kernel_rfl
theorem nB:(Tryz.prog.globals[1]?).map (·.type)=some 193:=by kernel_rfl
theorem gRF : Tryz.prog.globalNamed "strconv.ErrRange" = some 6 := by kernel_rfl
theorem gSF : Tryz.prog.globalNamed "strconv.ErrSyntax" = some 5 := by kernel_rfl
theorem nN:(Tryz.prog.globals[6]?).map (·.type)=some 23:=by kernel_rfl
theorem nO:(Tryz.prog.globals[5]?).map (·.type)=some 23:=by kernel_rfl
theorem kR:Tryz.prog.cellsOf 158=1:=by kernel_rfl
theorem kS:Tryz.prog.cellsOf 193=20:=by kernel_rfl
theorem cR:Tryz.prog.cellsOf 231=1:=by kernel_rfl
theorem cS:Tryz.prog.cellsOf 9=1:=by kernel_rfl
theorem lE : "*" ++ "errors.errorString" = "*errors.errorString" := by decide
theorem lF (u : TypeId) (h : Tryz.prog.typeName? 3 u = some "*errors.errorString") : u = 229 :=
 typeName_ptr_named (nm := "errors.errorString") (by rw [lE]; kernel_rfl) (by kernel_rfl) (by decide) u (by rw [lE]; exact h)
def laidLF : List (String × DataW Unit) := [("math/bits.deBruijn32tab", Rows.laid_math_bits_deBruijn32tab), ("math/bits.deBruijn64tab", Rows.laid_math_bits_deBruijn64tab), ("internal/strconv.uint64pow10", Rows.laid_internal_strconv_uint64pow10), ("strconv.ErrRange", Rows.laid_strconv_ErrRange), ("strconv.ErrSyntax", Rows.laid_strconv_ErrSyntax)]
theorem iU {W:World}{k o:Nat}{v:Value}(h:W.cell? ⟨k,o,none⟩=some v):k<W.heap.size:=by
 rcases Nat.lt_or_ge k W.heap.size with q|q
 ·exact q
 ·simp[World.cell?,Array.getElem?_eq_none q] at h
theorem Lo {W : World} (h : laidMetH Tryz.prog laidLF W) : (6 < W.heap.size /\ (∃ ev, W.cell? ⟨6, 0, none⟩ = some ev /\ (ev = .nilIface \/ ∃ te pe, ev = .iface te pe)) /\ ∃ ev, W.cell? ⟨5, 0, none⟩ = some ev /\ (ev = .nilIface \/ ∃ te pe, ev = .iface te pe)) /\ Lib.TabIs Tryz.prog W "internal/strconv.uint64pow10" .u64 Lib.pow10Tab := by
 have j:laidMet Tryz.prog laidLF W:=h;have b : laidMet Tryz.prog [("internal/strconv.uint64pow10", Lib.tabData .u64 Lib.pow10Tab), ("strconv.ErrRange", Rows.laid_strconv_ErrRange), ("strconv.ErrSyntax", Rows.laid_strconv_ErrSyntax)] W := j.tail.tail;have a:=Lib.tabIs_of_head Qo nB Tryz.underlying193 Tryz.underlying158 kR kS b;obtain⟨f,k,c,_⟩:=laid_sentinel b.tail gRF nN Tryz.underlying23 lF Tryz.underlying229 Tryz.underlying231 rfl rfl Tryz.underlying9 cR cS;obtain⟨g,l,d,_⟩:=laid_sentinel b.tail.tail gSF nO Tryz.underlying23 lF Tryz.underlying229 Tryz.underlying231 rfl rfl Tryz.underlying9 cR cS;have e:W.cell? ⟨6,0,none⟩=some (.iface 229 (.pointer (some f))):=by simpa using World.var?_cell gRF c 0
 have i:W.cell? ⟨5,0,none⟩=some (.iface 229 (.pointer (some g))):=by simpa using World.var?_cell gSF d 0
 exact⟨⟨iU e,⟨_,e,.inr ⟨_,_,rfl⟩⟩,⟨_,i,.inr ⟨_,_,rfl⟩⟩⟩,a⟩
def laidEF : List (String × DataW Unit) := [("math/bits.deBruijn32tab", Rows.laid_math_bits_deBruijn32tab), ("math/bits.deBruijn64tab", Rows.laid_math_bits_deBruijn64tab), ("internal/strconv.uint64pow10", Rows.laid_internal_strconv_uint64pow10), ("errors.errorType", Rows.laid_errors_errorType), ("strconv.ErrRange", Rows.laid_strconv_ErrRange), ("strconv.ErrSyntax", Rows.laid_strconv_ErrSyntax)]
theorem nP : Tryz.prog.globalNamed "errors.errorType" = some 0 := by kernel_rfl
theorem nC : (Tryz.prog.cutTypes.find? (·.1 == "internal/reflectlite.rtype")).map (·.2) = some 171 := by kernel_rfl
theorem kT:((List.range 263).filter fun t=>Tryz.prog.rowNamed t [101,114,114,111,114])=[23]:=by kernel_rfl
theorem kU:Tryz.prog.types.size=263:=by kernel_rfl
theorem filtLF:(laidEF.filter fun x=>x.2.handleName?.isNone)=laidLF:=by kernel_rfl
theorem mB : (laidEF.filter fun x => x.2.handleName?.isSome) = [("errors.errorType", Rows.laid_errors_errorType)] := by kernel_rfl
theorem basee_of_laidF {W:World}(h:laidMetH Tryz.prog laidEF W):Ky W:=by
 have b:laidMet Tryz.prog (laidEF.filter fun x=>x.2.handleName?.isNone) W/\handlesMet Tryz.prog (laidEF.filter fun x=>x.2.handleName?.isSome) W:=h;rw[filtLF,mB] at b;obtain⟨a,u,l,e,f,g,i,c⟩:=b.2 _ (List.mem_singleton.2 rfl);have j:a=[101,114,114,111,114]:=(Option.some.inj e).symm;subst j;obtain rfl:=Option.some.inj (nC.symm.trans f);have d:l∈(List.range 263).filter fun t=>Tryz.prog.rowNamed t [101,114,114,111,114]:=List.mem_filter.2 ⟨List.mem_range.2 (by rw[<- kU];exact g),i⟩;rw[kT] at d;obtain rfl:=List.mem_singleton.1 d;have k:typeHandle Tryz.prog 23=.pointer (some ⟨7,23,none⟩):=by kernel_rfl
 rw[k] at c;refine⟨(Lo b.1).1,(Lo b.1).2,?_⟩;simpa using World.var?_cell nP c 0
end Go.Proofs.YtjbfcadeapphbaaGreatDoor.Sx
