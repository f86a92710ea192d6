/-
  What the library's functions do in this program: contracts of its shelf, laid over this program's numbers: a builder's writers, HasPrefix, RuneLen, IndexRune at a byte below 128.
-/
import Derived.Test.YtidacifgnaohjaaUD
import Derived.Shelf.Strings.BuilderRune
import Derived.Shelf.Strings.Prefix
import Derived.Shelf.Strings.Runes
import Derived.Shelf.Small.Utf8
namespace Go.Proofs.Ytidacifgnaohjaa
open Go.RowKit Go.Shelf

/-- The library's numbers here. -/
def rho : Ren := ⟨fun k => if k = 240 then 31 else if k = 242 then 32 else if k = 276 then 35 else if k = 278 then 36 else if k = 167 then 30 else if k = 168 then 23 else if k = 169 then 25 else if k = 99 then 27 else if k = 206 then 34 else if k = 118 then 24 else
    if k = 152 then 33 else if k = 119 then 38 else if k = 137 then 37 else if k = 217 then 41 else if k = 224 then 39 else if k = 225 then 40 else if k = 266 then 42 else k,
  fun t => if t = 37 then 32 else if t = 46 then 45 else if t = 70 then 31 else if t = 72 then 34 else if t = 75 then 37 else if t = 80 then 41 else if t = 127 then 47 else if t = 164 then 49 else t, fun g => g⟩
theorem x72 : Builder.X72 Try.prog rho := by
  refine Builder.X72.mk ?_ ?_ <;> kernel_rfl
theorem extra : Builder.Extra Try.prog rho := by
  refine Builder.Extra.mk x72 ?_ ?_ ?_ ?_ ?_ ?_ ?_ ?_
  all_goals first
    | kernel_rfl
    | (intro w; kernel_rfl)
    | (intro w; rfl)
    | decide
theorem wbLays : Lays.n167 Try.prog rho := by
  constructor
  all_goals first
    | kernel_rfl
    | (intro w; kernel_rfl)
    | (intro w; rfl)
theorem wrLays : Lays.n168 Try.prog rho := by
  constructor
  all_goals first
    | kernel_rfl
    | (intro w; kernel_rfl)
    | (intro w; rfl)
theorem stLays : Lays.n169 Try.prog rho := by
  constructor
  all_goals first
    | kernel_rfl
    | (intro w; kernel_rfl)
    | (intro w; rfl)
theorem hpLays : Lays.n99 Try.prog rho := by
  constructor
  all_goals first
    | kernel_rfl
    | (intro w; kernel_rfl)
    | (intro w; rfl)
theorem rlLays : Lays.n118 Try.prog rho := by
  constructor
  all_goals first
    | kernel_rfl
    | (intro w; kernel_rfl)
    | (intro w; rfl)
theorem ibLays : Lays.n137 Try.prog rho := by
  constructor
  all_goals first
    | kernel_rfl
    | (intro w; kernel_rfl)
    | (intro w; rfl)
theorem irLays : Lays.n152 Try.prog rho := by
  constructor
  all_goals first
    | kernel_rfl
    | (intro w; kernel_rfl)
    | (intro w; rfl)
/-- A builder in block b, of memory from B on, that holds these bytes. -/
def Bld (B b : Nat) (l : List UInt8) (w : World) : Prop := Lib.IsBuilderF 34 5 B b (Lib.byteCells l) w
/-- What a builder's writing leaves alone: every block that is neither the builder nor a row of bytes. -/
def Kept (b : Nat) (w w' : World) : Prop := Lib.OthersKept 5 (some b) w w'
theorem Kept.refl (b : Nat) (w : World) : Kept b w w := Lib.OthersKept.refl _ _ w
theorem Kept.trans {b : Nat} {u v w : World} (h : Kept b u v) (k : Kept b v w) : Kept b u w := Lib.OthersKept.trans h k
theorem Kept.iter {b : Nat} {w w' : World} (h : Kept b w w') (k : Nat) (s : ByteArray) (p : Nat) (hk : w.heap[k]? = some (.stringIter s p)) (hb : k ≠ b) : w'.heap[k]? = some (.stringIter s p) :=
  h k _ hk (fun e => hb (Option.some.inj e)) (fun _ _ e => by cases e)
theorem Bld.fresh (w : World) : Bld w.heap.size w.heap.size [] (w.alloc (.cells #[.pointer none, .slice none 0 0] 34)) :=
  Lib.IsBuilderF.of (Lib.fresh_isBuilder 34 5 w)
theorem Bld.lt {B b : Nat} {l : List UInt8} {w : World} (h : Bld B b l w) : b < w.heap.size := by
  rcases h with h | h <;> exact h.lt
theorem Bld.le {B b : Nat} {l : List UInt8} {w : World} (h : Bld B b l w) : B ≤ b := by
  rcases h with h | h <;> exact h.1
/-- WriteByte: the byte behind what is there. -/
theorem wbyte_any (B b : Nat) (l : List UInt8) (c : UInt8) (w : World) (h : Bld B b l w) (hl : l.length + 1 ≤ 140737488355328) (hB : B ≤ w.heap.size) :
    Calls Try.prog 30 #[.pointer (some ⟨b, 0, none⟩), .int .u8 (c.toNat : Int)] w fun e w' => e = .returned .nilIface ∧ Bld B b (l ++ [c]) w' ∧ Below B w w' ∧ Kept b w w' := by
  refine (Any.Builder_WriteByte_k wbLays extra B b (Lib.byteCells l) (c.toNat : Int) w h (by rw [Lib.byteCells_length]; exact hl) hB).mono ?_
  rintro e w' ⟨he, h1, h2, h3⟩
  refine ⟨he, .inr ?_, h2, h3⟩
  rw [Lib.byteCells_append]
  exact h1
/-- WriteRune: the bytes of a rune behind what is there. -/
theorem wrune_any (B b : Nat) (l p : List UInt8) (hp : Whole p) (w : World) (h : Bld B b l w) (hl : l.length + 4 ≤ 140737488355328) (hB : B ≤ w.heap.size) (hc : codeL p ≤ 1114111) :
    Calls Try.prog 23 #[.pointer (some ⟨b, 0, none⟩), .int .i32 (codeL p : Nat)] w fun e w' => e = .returned (.tuple #[.int .i64 (p.length : Nat), .nilIface]) ∧ Bld B b (l ++ p) w' ∧ Below B w w' ∧ Kept b w w' := by
  refine (Any.Builder_WriteRune_k wrLays extra B b (Lib.byteCells l) (codeL p : Nat) (by omega) (by omega) w h (by rw [Lib.byteCells_length]; exact hl) hB).mono ?_
  rintro e w' ⟨he, h1, h2, h3⟩
  rw [← Lib.byteCells_encodeRune, encode_code p hp] at he h1
  rw [Lib.byteCells_length] at he
  refine ⟨he, .inr ?_, h2, h3⟩
  rw [Lib.byteCells_append]
  exact h1
/-- String: what is there. -/
theorem wstring_any (B b : Nat) (l : List UInt8) (w : World) (h : Bld B b l w) (hB : B ≤ w.heap.size) :
    Calls Try.prog 25 #[.pointer (some ⟨b, 0, none⟩)] w fun e w' => e = .returned (.string (bs l)) ∧ Below B w w' := by
  refine (Any.Builder_String_any_k stLays extra B b l w h hB).mono ?_
  rintro e w' ⟨he, _, h2, _⟩
  exact ⟨by rw [he, bs_eq], h2⟩
theorem prefix_any (s p : ByteArray) (w : World) : Calls Try.prog 27 #[.string s, .string p] w fun e w' => e = .returned (.bool (Lib.hasPrefix (bl s) (bl p))) ∧ w' = w := by
  have h := Any.strings_HasPrefix hpLays s p w
  rw [← bl_eq, ← bl_eq] at h
  exact h
theorem runelen_any (r : Int) (w : World) : Calls Try.prog 24 #[.int .i32 r] w fun e w' => e = .returned (.int .i64 (Lib.runeLen r)) ∧ w' = w :=
  Any.utf8_RuneLen rlLays r w
theorem runelen_code (p : List UInt8) (h : Whole p) : Lib.runeLen (codeL p : Nat) = (p.length : Nat) := by
  obtain ⟨h0, hl⟩ := h
  have h4 := sizeL_le4 p
  have : sizeL p = 1 ∨ sizeL p = 2 ∨ sizeL p = 3 ∨ sizeL p = 4 := by omega
  unfold Lib.runeLen
  rcases this with g | g | g | g
  · have := codeL_one g
    rw [if_neg (by omega), if_pos (by omega)]; omega
  · have := codeL_two g
    rw [if_neg (by omega), if_neg (by omega), if_pos (by omega)]; omega
  · have := codeL_three g
    rw [if_neg (by omega), if_neg (by omega), if_neg (by omega), if_neg (by omega), if_pos (by omega)]; omega
  · have := codeL_four g
    rw [if_neg (by omega), if_neg (by omega), if_neg (by omega), if_neg (by omega), if_neg (by omega), if_pos (by omega)]; omega
end Go.Proofs.Ytidacifgnaohjaa
