/-
  strings.Clone in this program: the library's contract, laid over this program's numbers.
-/
import Derived.Test.YtdondonmggbmjaaStr
import Derived.Shelf.Strconv.Clone
namespace Go.Proofs.Ytdondonmggbmjaa
open Go.RowKit Go.Shelf

/-- The library's numbers here. -/
def rho : Ren := ⟨fun k => if k = 316 then 38 else k, fun t => if t = 37 then 51 else if t = 127 then 72 else t, fun g => g⟩
theorem cloneLays : LaysM.n316 Try.prog rho := by
  refine LaysM.n316.mk (Lays.n316.mk ?_ ?_ ?_ ?_ ?_ ?_ ?_ ?_ ?_ ?_ ?_ ?_ ?_ ?_ ?_ ?_ ?_ ?_ ?_ ?_ ?_ ?_ ?_ ?_ ?_ ?_) ?_ ?_ ?_ ?_ ?_ ?_ ?_ ?_ ?_ ?_ ?_
  all_goals first
    | kernel_rfl
    | (intro w; kernel_rfl)
    | (intro w; rfl)
/-- What strings.Clone calls: the same bytes, in memory of their own. -/
theorem clone_any (s : ByteArray) (w : World) (hs : s.size ≤ 1000000000) : Calls Try.prog 38 #[.string s] w fun e w' => e = .returned (.string s) ∧ Below w.heap.size w w' :=
  Any.stringslite_Clone cloneLays s w (by omega)
end Go.Proofs.Ytdondonmggbmjaa
