/-
  What the listed variables give the walks: the state of the beginning and the words of the rounds lie where they are read.
-/
import Derived.Test.YtemiphbblaikjaaDoorCards
import Derived.Test.YtemiphbblaikjaaDoorTie
import Derived.Test.YtemiphbblaikjaaDoorLawK
import Derived.WalkKit
import Derived.ProofKit
import Derived.OpenShut
import Derived.ShutString
import Derived.ChangeOld
import Derived.Below
import Derived.SizedLaws
import Derived.Deep.DeepHandedRow
import Derived.Lib.LaidTab
import Derived.Stop.LaidErr
namespace Go.Proofs.YtemiphbblaikjaaDoor
open Go.RowKit

theorem own : ownKnob Tryd.prog.godebug = none := by kernel_rfl
theorem laidOut : laidOutB Tryd.prog = true := by kernel_rfl
theorem gStart : Tryd.prog.globalNamed "exchequer/hash.start" = some 0 := by kernel_rfl
theorem gKs : Tryd.prog.globalNamed "exchequer/hash.constants" = some 1 := by kernel_rfl
theorem tStart : (Tryd.prog.globals[0]?).map (·.type) = some 49 := by kernel_rfl
theorem tKs : (Tryd.prog.globals[1]?).map (·.type) = some 58 := by kernel_rfl
theorem cells41 : Tryd.prog.cellsOf 41 = 1 := by kernel_rfl
theorem cells49 : Tryd.prog.cellsOf 49 = 8 := by kernel_rfl
theorem cells58 : Tryd.prog.cellsOf 58 = 64 := by kernel_rfl
def both : List (String × DataW Unit) := [("exchequer/hash.start", Rows.laid_exchequer_hash_start), ("exchequer/hash.constants", Rows.laid_exchequer_hash_constants)]
def startZ : List Int := [1779033703, 3144134277, 1013904242, 2773480762, 1359893119, 2600822924, 528734635, 1541459225]
def ksZ : List Int := kkN.map Int.ofNat
theorem ks_eq : ∀ i, i < 64 → ksZ.getD i 0 = ((kk i).toNat : Int) := by decide +kernel
theorem start_eq : startZ.map (fun z => Value.int .u32 z) = woC start.toL := by
  rw [woC_eq]
  simp only [St.toL, start, startZ, List.map_cons, List.map_nil, wI_eq]
  rfl

theorem laid_of {W : World} (h : laidMetH Tryd.prog both W) : Laid W := by
  rw [MakeChecks.laidMetH_plain _ _ _ (by kernel_rfl)] at h
  have h1 : Lib.TabIs Tryd.prog W "exchequer/hash.start" .u32 startZ := Lib.tabIs_of_head gStart tStart Tryd.underlying49 Tryd.underlying41 cells41 cells49 (rest := [("exchequer/hash.constants", Rows.laid_exchequer_hash_constants)]) h
  have h2 : Lib.TabIs Tryd.prog W "exchequer/hash.constants" .u32 ksZ := Lib.tabIs_of_head gKs tKs Tryd.underlying58 Tryd.underlying41 cells41 cells58 (rest := []) h.tail
  have hk : KsAt W := fun i hi => by
    rw [wI_eq, ← ks_eq i hi]
    exact h2.cell gKs i (by show i < 64; exact hi)
  refine ⟨hk, ?_, ?_⟩
  · unfold Lib.TabIs World.var? at h1
    rw [gStart] at h1
    simp only [Option.bind_some] at h1
    split at h1
    · rename_i cs t fr hh
      exact ⟨t, fr, by rw [hh, Option.some.inj h1, start_eq]⟩
    · cases h1
  · have h := block_lt_of_cell (hk 0 (by omega))
    exact h

/-- A variable's cells laid anew. -/
def layCells (zs : List Int) : Obj → Obj
  | .cells _ t frozen => .cells (zs.map (Value.int .u32)).toArray t frozen
  | o => o
/-- A world in which the two tables lie as the program's text lays them. -/
noncomputable def laidWorld (os : Os) : World :=
  { World.holding Tryd.prog os ⟨#[], #[], []⟩ with heap := ((World.holding Tryd.prog os ⟨#[], #[], []⟩).heap.modify 0 (layCells startZ)).modify 1 (layCells ksZ) }
theorem wf_u8 {n : Int} (h : (Lit.int .u8 n).wf = true) : 0 ≤ n ∧ n < 256 := by
  simp [Lit.wf, IntKind.min, IntKind.max, IntKind.signed, IntKind.bits] at h; omega
theorem small_string {ts : List TypeId} {H : Type} {ds : List (DataW H)} (h : (DataW.weightsEach Tryd.prog ts ds).all (· ≤ reachBytes) = true) {j : Nat} {t : TypeId} {s : ByteArray} (ht : ts[j]? = some t) (hd : ds[j]? = some (.lit (.string s.data.toList))) : s.size < 140737488355328 := by
  have h1 : s.data.toList.length ≤ reachBytes := sized_string h ht hd
  have h2 := reachBytes_lt
  rw [← Lib.size_eq] at h1
  omega
end Go.Proofs.YtemiphbblaikjaaDoor
