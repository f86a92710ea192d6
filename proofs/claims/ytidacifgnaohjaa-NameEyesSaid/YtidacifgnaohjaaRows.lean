/-
  No cell of these rows narrows 'for every input' (looked for: loops, veiled, ifaces, maps, wideKeys, modest, calm, conditions, laid).
  DERIVED. THE GIVEN ROWS OF THIS SEAT. 6 by the template 'for every input the law returns true; each argument reads behind the call as it read before'; 0 by the template 'total and deterministic' (their statements: YtidacifgnaohjaaTotals.lean).
  GIVEN WITH THE SEED: the statements are not yours to turn. If you find one false, say at which input.
  Laid BY PROGRAM, IN A SANDBOX (cutbox-rows.mjs): the forced cells as the released guide's own fill.sh prints them over the translation 379095ca2237a9e5… (all of the seat's roots in one cut). By AI agents, Wed Nov 11 2026. No macro, syntax, notation, axiom, sorry.
-/
import Derived.Test.YtidacifgnaohjaaChecked
import GoSem.Claim
import GoSem.ClaimJoined
import GoSem.ClaimMapViews
import Derived.JoinedTies
import Derived.KernelRfl
namespace Go.Proofs.Ytidacifgnaohjaa
/- THE CELL 'sum', in the pinned program and in every row, IS THE sha256 OF THE DUMP (.gsa) THAT YtidacifgnaohjaaProg.lean LOADS. Nothing in Lean hashes anything: it is a label: what it is worth is what the hold of that sum in a sandbox is worth. -/
noncomputable def Try.pinned : Pinned := { name := "ytidacifgnaohjaa", sum := "379095ca2237a9e509ff427a92e967a1504eda1318b4b94096b1031d2436f5cb", checked := Try.checked }
namespace Rows
def none {H : Type} : Left H := { results := [], args := [] }

/-- 'exchequerlaw04.NameRights': WHATEVER THE INPUT: true; the input reads as it did. -/
def nameRightsSpec : ChangeSpec := { name := "nameRights", fn := fun _ => fun
  | [d] => { results := [.lit (.bool true)], args := [d] }
  | _ => none }
def nameRightsRow : OpenClaim := { program := "ytidacifgnaohjaa", sum := "379095ca2237a9e509ff427a92e967a1504eda1318b4b94096b1031d2436f5cb", func := "exchequer/exchequerlaw04.NameRights", spec := "nameRights", inPlace := ["internal/abi.NoEscape"], apart := false }
def NameRightsSaid : Prop := nameRightsRow.holds Try.pinned (OpenSpec.ofChange nameRightsSpec)

/-- ITS FALSE NEIGHBOUR: 'it returns false'. Refute it at one input. -/
def nameRightsWrong : ChangeSpec := { name := "nameRights", fn := fun _ => fun
  | [d] => { results := [.lit (.bool false)], args := [d] }
  | _ => none }
def NameRightsWrongFalsely : Prop := nameRightsRow.holds Try.pinned (OpenSpec.ofChange nameRightsWrong)

/-- 'exchequerlaw04.NameCounts': WHATEVER THE INPUT: true; the input reads as it did. -/
def nameCountsSpec : ChangeSpec := { name := "nameCounts", fn := fun _ => fun
  | [d] => { results := [.lit (.bool true)], args := [d] }
  | _ => none }
def nameCountsRow : OpenClaim := { program := "ytidacifgnaohjaa", sum := "379095ca2237a9e509ff427a92e967a1504eda1318b4b94096b1031d2436f5cb", func := "exchequer/exchequerlaw04.NameCounts", spec := "nameCounts", inPlace := ["internal/abi.NoEscape"], apart := false }
def NameCountsSaid : Prop := nameCountsRow.holds Try.pinned (OpenSpec.ofChange nameCountsSpec)

/-- ITS FALSE NEIGHBOUR: 'it returns false'. Refute it at one input. -/
def nameCountsWrong : ChangeSpec := { name := "nameCounts", fn := fun _ => fun
  | [d] => { results := [.lit (.bool false)], args := [d] }
  | _ => none }
def NameCountsWrongFalsely : Prop := nameCountsRow.holds Try.pinned (OpenSpec.ofChange nameCountsWrong)

/-- 'exchequerlaw04.NamePlains': WHATEVER THE INPUT: true; the input reads as it did. -/
def namePlainsSpec : ChangeSpec := { name := "namePlains", fn := fun _ => fun
  | [d] => { results := [.lit (.bool true)], args := [d] }
  | _ => none }
def namePlainsRow : OpenClaim := { program := "ytidacifgnaohjaa", sum := "379095ca2237a9e509ff427a92e967a1504eda1318b4b94096b1031d2436f5cb", func := "exchequer/exchequerlaw04.NamePlains", spec := "namePlains", inPlace := ["internal/abi.NoEscape"], apart := false }
def NamePlainsSaid : Prop := namePlainsRow.holds Try.pinned (OpenSpec.ofChange namePlainsSpec)

/-- ITS FALSE NEIGHBOUR: 'it returns false'. Refute it at one input. -/
def namePlainsWrong : ChangeSpec := { name := "namePlains", fn := fun _ => fun
  | [d] => { results := [.lit (.bool false)], args := [d] }
  | _ => none }
def NamePlainsWrongFalsely : Prop := namePlainsRow.holds Try.pinned (OpenSpec.ofChange namePlainsWrong)

/-- 'exchequerlaw04.NameBacks': WHATEVER THE INPUT: true; the input reads as it did. -/
def nameBacksSpec : ChangeSpec := { name := "nameBacks", fn := fun _ => fun
  | [d] => { results := [.lit (.bool true)], args := [d] }
  | _ => none }
def nameBacksRow : OpenClaim := { program := "ytidacifgnaohjaa", sum := "379095ca2237a9e509ff427a92e967a1504eda1318b4b94096b1031d2436f5cb", func := "exchequer/exchequerlaw04.NameBacks", spec := "nameBacks", inPlace := ["internal/abi.NoEscape", "internal/bytealg.IndexByteString", "internal/bytealg.IndexString"], named := ["internal/bytealg.MaxLen"], apart := false }
def NameBacksSaid : Prop := nameBacksRow.holds Try.pinned (OpenSpec.ofChange nameBacksSpec)

/-- ITS FALSE NEIGHBOUR: 'it returns false'. Refute it at one input. -/
def nameBacksWrong : ChangeSpec := { name := "nameBacks", fn := fun _ => fun
  | [d] => { results := [.lit (.bool false)], args := [d] }
  | _ => none }
def NameBacksWrongFalsely : Prop := nameBacksRow.holds Try.pinned (OpenSpec.ofChange nameBacksWrong)

/-- 'exchequerlaw04.NameEyes': WHATEVER THE INPUT: true; the input reads as it did. -/
def nameEyesSpec : ChangeSpec := { name := "nameEyes", fn := fun _ => fun
  | [d1, d2] => { results := [.lit (.bool true)], args := [d1, d2] }
  | _ => none }
def nameEyesRow : OpenClaim := { program := "ytidacifgnaohjaa", sum := "379095ca2237a9e509ff427a92e967a1504eda1318b4b94096b1031d2436f5cb", func := "exchequer/exchequerlaw04.NameEyes", spec := "nameEyes", inPlace := ["internal/abi.NoEscape"], apart := false }
def NameEyesSaid : Prop := nameEyesRow.holds Try.pinned (OpenSpec.ofChange nameEyesSpec)

/-- ITS FALSE NEIGHBOUR: 'it returns false'. Refute it at one input. -/
def nameEyesWrong : ChangeSpec := { name := "nameEyes", fn := fun _ => fun
  | [d1, d2] => { results := [.lit (.bool false)], args := [d1, d2] }
  | _ => none }
def NameEyesWrongFalsely : Prop := nameEyesRow.holds Try.pinned (OpenSpec.ofChange nameEyesWrong)

/-- 'exchequerlaw04.NameJoins': WHATEVER THE INPUT: true; the input reads as it did. -/
def nameJoinsSpec : ChangeSpec := { name := "nameJoins", fn := fun _ => fun
  | [d1, d2] => { results := [.lit (.bool true)], args := [d1, d2] }
  | _ => none }
def nameJoinsRow : OpenClaim := { program := "ytidacifgnaohjaa", sum := "379095ca2237a9e509ff427a92e967a1504eda1318b4b94096b1031d2436f5cb", func := "exchequer/exchequerlaw04.NameJoins", spec := "nameJoins", inPlace := ["internal/abi.NoEscape"], apart := false }
def NameJoinsSaid : Prop := nameJoinsRow.holds Try.pinned (OpenSpec.ofChange nameJoinsSpec)

/-- ITS FALSE NEIGHBOUR: 'it returns false'. Refute it at one input. -/
def nameJoinsWrong : ChangeSpec := { name := "nameJoins", fn := fun _ => fun
  | [d1, d2] => { results := [.lit (.bool false)], args := [d1, d2] }
  | _ => none }
def NameJoinsWrongFalsely : Prop := nameJoinsRow.holds Try.pinned (OpenSpec.ofChange nameJoinsWrong)

/- THE SECOND FORM. 'bulk': how many values and letters a reading holds, each counted each time it is reached (what is shared counts as often as it is met; a slice's spare places count too). A statement '..UptoSaid' is the law's where the arguments, and the package variables that the reading takes, are together of bulk at most 1048576: NARROWER than '..Said'. Prove '..Said' where nothing that the law and all that it calls make is longer than what came in: it says more and counts as full. Else prove '..UptoSaid'. A law counts once. -/
mutual
def uptoBulk {H : Type} : DataW H → Nat
  | .lit (.string bytes) => bytes.length + 1
  | .lit _ => 1
  | .nil => 1
  | .ptr d => uptoBulk d + 1
  | .slice elems spare => uptoBulkAll elems + uptoBulkAll spare + 1
  | .agg parts => uptoBulkAll parts + 1
  | .iface _ d => uptoBulk d + 1
  | .map entries => uptoBulkEntries entries + 1
  | .held _ => 1
def uptoBulkAll {H : Type} : List (DataW H) → Nat
  | [] => 0
  | d :: r => uptoBulk d + uptoBulkAll r
def uptoBulkEntries {H : Type} : List (Lit × DataW H) → Nat
  | [] => 0
  | x :: r => uptoBulkEntry x + uptoBulkEntries r
def uptoBulkEntry {H : Type} : Lit × DataW H → Nat
  | (.string bytes, d) => bytes.length + uptoBulk d + 1
  | (_, d) => uptoBulk d + 1
 end
def uptoSmall : (H : Type) → List (DataW H) → Bool := fun _ ds => decide (uptoBulkAll ds ≤ 1048576)
def OpenSpec.upto (s : _root_.Go.ChangeSpec) : _root_.Go.OpenSpec := { _root_.Go.OpenSpec.ofChange s with cond := some uptoSmall }

/-- 'exchequerlaw04.NameRights', WHERE WHAT IT READS IS OF BULK AT MOST 1048576: true; the input reads as it did. -/
def nameRightsUptoRow : OpenClaim := { program := "ytidacifgnaohjaa", sum := "379095ca2237a9e509ff427a92e967a1504eda1318b4b94096b1031d2436f5cb", func := "exchequer/exchequerlaw04.NameRights", spec := "nameRights", inPlace := ["internal/abi.NoEscape"], apart := false, narrowed := true }
def NameRightsUptoSaid : Prop := nameRightsUptoRow.holds Try.pinned (OpenSpec.upto nameRightsSpec)

/-- 'exchequerlaw04.NameCounts', WHERE WHAT IT READS IS OF BULK AT MOST 1048576: true; the input reads as it did. -/
def nameCountsUptoRow : OpenClaim := { program := "ytidacifgnaohjaa", sum := "379095ca2237a9e509ff427a92e967a1504eda1318b4b94096b1031d2436f5cb", func := "exchequer/exchequerlaw04.NameCounts", spec := "nameCounts", inPlace := ["internal/abi.NoEscape"], apart := false, narrowed := true }
def NameCountsUptoSaid : Prop := nameCountsUptoRow.holds Try.pinned (OpenSpec.upto nameCountsSpec)

/-- 'exchequerlaw04.NamePlains', WHERE WHAT IT READS IS OF BULK AT MOST 1048576: true; the input reads as it did. -/
def namePlainsUptoRow : OpenClaim := { program := "ytidacifgnaohjaa", sum := "379095ca2237a9e509ff427a92e967a1504eda1318b4b94096b1031d2436f5cb", func := "exchequer/exchequerlaw04.NamePlains", spec := "namePlains", inPlace := ["internal/abi.NoEscape"], apart := false, narrowed := true }
def NamePlainsUptoSaid : Prop := namePlainsUptoRow.holds Try.pinned (OpenSpec.upto namePlainsSpec)

/-- 'exchequerlaw04.NameBacks', WHERE WHAT IT READS IS OF BULK AT MOST 1048576: true; the input reads as it did. -/
def nameBacksUptoRow : OpenClaim := { program := "ytidacifgnaohjaa", sum := "379095ca2237a9e509ff427a92e967a1504eda1318b4b94096b1031d2436f5cb", func := "exchequer/exchequerlaw04.NameBacks", spec := "nameBacks", inPlace := ["internal/abi.NoEscape", "internal/bytealg.IndexByteString", "internal/bytealg.IndexString"], named := ["internal/bytealg.MaxLen"], apart := false, narrowed := true }
def NameBacksUptoSaid : Prop := nameBacksUptoRow.holds Try.pinned (OpenSpec.upto nameBacksSpec)

/-- 'exchequerlaw04.NameEyes', WHERE WHAT IT READS IS OF BULK AT MOST 1048576: true; the input reads as it did. -/
def nameEyesUptoRow : OpenClaim := { program := "ytidacifgnaohjaa", sum := "379095ca2237a9e509ff427a92e967a1504eda1318b4b94096b1031d2436f5cb", func := "exchequer/exchequerlaw04.NameEyes", spec := "nameEyes", inPlace := ["internal/abi.NoEscape"], apart := false, narrowed := true }
def NameEyesUptoSaid : Prop := nameEyesUptoRow.holds Try.pinned (OpenSpec.upto nameEyesSpec)

/-- 'exchequerlaw04.NameJoins', WHERE WHAT IT READS IS OF BULK AT MOST 1048576: true; the input reads as it did. -/
def nameJoinsUptoRow : OpenClaim := { program := "ytidacifgnaohjaa", sum := "379095ca2237a9e509ff427a92e967a1504eda1318b4b94096b1031d2436f5cb", func := "exchequer/exchequerlaw04.NameJoins", spec := "nameJoins", inPlace := ["internal/abi.NoEscape"], apart := false, narrowed := true }
def NameJoinsUptoSaid : Prop := nameJoinsUptoRow.holds Try.pinned (OpenSpec.upto nameJoinsSpec)

end Rows
end Go.Proofs.Ytidacifgnaohjaa
