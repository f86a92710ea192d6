/-
  Runes as the library's own functions tell them: the decoder, validity, counts, a rune's bytes; names and texts for eyes told by runes' codes; no program is walked here.
-/
import Derived.Test.YtbgfkjafablfiaaUC
import Derived.Lib.ValidU
import Derived.Lib.RuneCount
import Derived.Lib.RuneBytes
import Derived.Shelf.Unicode.DecodeSlow
namespace Go.Proofs.Ytbgfkjafablfiaa

theorem codeL_one {l : List UInt8} (h : sizeL l = 1) : codeL l ≤ 127 ∧ codeL l = byteN l 0 := by
  rcases sizeL_spec l with ⟨g, c⟩ | ⟨g, c⟩ | ⟨g, c⟩ | ⟨g, c⟩ | ⟨g, c⟩
  · unfold codeL; rw [if_pos h]; exact ⟨c.2, rfl⟩
  all_goals omega
theorem codeL_two {l : List UInt8} (h : sizeL l = 2) : 128 ≤ codeL l ∧ codeL l ≤ 2047 := by
  rcases sizeL_spec l with ⟨g, c⟩ | ⟨g, c⟩ | ⟨g, c⟩ | ⟨g, c⟩ | ⟨g, c⟩
  · omega
  · unfold codeL Two at *; rw [if_neg (by omega), if_pos h]; omega
  all_goals omega
theorem codeL_three {l : List UInt8} (h : sizeL l = 3) : (2048 ≤ codeL l ∧ codeL l < 55296) ∨ (57343 < codeL l ∧ codeL l ≤ 65535) := by
  rcases sizeL_spec l with ⟨g, c⟩ | ⟨g, c⟩ | ⟨g, c⟩ | ⟨g, c⟩ | ⟨g, c⟩
  · omega
  · omega
  · unfold codeL Three at *; rw [if_neg (by omega), if_neg (by omega), if_pos h]; omega
  all_goals omega
theorem codeL_four {l : List UInt8} (h : sizeL l = 4) : 65536 ≤ codeL l ∧ codeL l ≤ 1114111 := by
  rcases sizeL_spec l with ⟨g, c⟩ | ⟨g, c⟩ | ⟨g, c⟩ | ⟨g, c⟩ | ⟨g, c⟩
  · omega
  · omega
  · omega
  · unfold codeL Four at *; rw [if_neg (by omega), if_neg (by omega), if_neg (by omega)]; omega
  · omega
/-- How far the decoder goes on. -/
def widthL (r : List UInt8) : Nat := max 1 (sizeL r)
theorem widthL_pos (r : List UInt8) : 1 ≤ widthL r := by unfold widthL; omega
theorem widthL_le (r : List UInt8) (h : r ≠ []) : widthL r ≤ r.length := by
  have := sizeL_le r
  have := List.length_pos_iff.2 h
  unfold widthL; omega
/-- The rune that the decoder tells. -/
def toldL (r : List UInt8) : Nat := if sizeL r = 0 then 65533 else codeL r
theorem runeL_told (r : List UInt8) (h : r ≠ []) : runeL r = (toldL r, widthL r) := by
  rw [runeL_eq r h]
  unfold toldL widthL
  by_cases hs : sizeL r = 0
  · rw [if_pos hs, if_pos hs, hs]; rfl
  · rw [if_neg hs, if_neg hs, show max 1 (sizeL r) = sizeL r by omega]
theorem told_bad (r : List UInt8) : (toldL r = 65533 ∧ widthL r = 1) ↔ sizeL r = 0 := by
  unfold toldL widthL
  constructor
  · intro h
    by_cases hs : sizeL r = 0
    · exact hs
    · rw [if_neg hs] at h
      have := (codeL_one (l := r) (by omega)).1
      omega
  · intro h
    rw [if_pos h, h]
    exact ⟨rfl, rfl⟩
theorem told_lt (r : List UInt8) : toldL r ≤ 1114111 := by
  unfold toldL
  split
  · omega
  · rename_i hs
    have h4 := sizeL_le4 r
    have : sizeL r = 1 ∨ sizeL r = 2 ∨ sizeL r = 3 ∨ sizeL r = 4 := by omega
    rcases this with h | h | h | h
    · have := codeL_one h; omega
    · have := codeL_two h; omega
    · have := codeL_three h; omega
    · have := codeL_four h; omega
theorem decode_told (s : ByteArray) (pos : Nat) (h : pos < s.size) : Utf8.decode s pos = (toldL ((bl s).drop pos), widthL ((bl s).drop pos)) := by
  rw [decode_runeL, runeL_told]
  intro e
  have := congrArg List.length e
  rw [List.length_drop, bl_length] at this
  simp at this
  omega
theorem decodeGo_told (s : ByteArray) (h : bl s ≠ []) : Lib.decodeGo s = (toldL (bl s), widthL (bl s)) := by
  have h0 : 0 < s.size := by rw [← bl_length]; exact List.length_pos_iff.2 h
  unfold Lib.decodeGo
  rw [if_neg (by omega), decode_told s 0 h0, List.drop_zero]
theorem decodeL_told (l : List UInt8) (h : l ≠ []) : Lib.decodeL l = (toldL l, widthL l) := by
  have e : (⟨l.toArray⟩ : ByteArray) = bs l := (bs_eq l).symm
  unfold Lib.decodeL
  rw [e, decode_told (bs l) 0 (by rw [bs_size]; exact List.length_pos_iff.2 h), bl_bs, List.drop_zero]
/-- One step of the pieces, by what the decoder tells. -/
theorem pieces_told (r : List UInt8) (h : r ≠ []) : piecesL r = (r.take (widthL r), decide (sizeL r ≠ 0)) :: piecesL (r.drop (widthL r)) := by
  rw [pieces_step r h]
  unfold widthL
  by_cases hs : sizeL r = 0
  · rw [if_pos hs, hs]; rfl
  · rw [if_neg hs, show max 1 (sizeL r) = sizeL r by omega, decide_eq_true hs]
theorem validGoD_pieces : ∀ (n : Nat) (l : List UInt8), l.length ≤ n → Lib.validGoD n l = (piecesL l).all (·.2)
  | 0, l, h => by
    have : l = [] := List.eq_nil_of_length_eq_zero (by omega)
    subst this; rfl
  | n + 1, l, h => by
    unfold Lib.validGoD
    by_cases hl : l = []
    · subst hl; rfl
    · have h1 := widthL_pos l
      have h0 := List.length_pos_iff.2 hl
      rw [if_neg hl, decodeL_told l hl, pieces_told l hl, List.all_cons]
      simp only [told_bad]
      by_cases hs : sizeL l = 0
      · rw [if_pos hs]; simp [hs]
      · rw [if_neg hs, validGoD_pieces n _ (by rw [List.length_drop]; omega)]; simp [hs]
theorem validD_pieces (l : List UInt8) : Lib.validD l = (piecesL l).all (·.2) := validGoD_pieces _ l (Nat.le_refl _)
theorem runeCountFrom_pieces (s : ByteArray) : ∀ fuel pos, s.size ≤ pos + fuel → Lib.runeCountFrom s fuel pos = (piecesL ((bl s).drop pos)).length
  | 0, pos, h => by
    rw [List.drop_eq_nil_of_le (by rw [bl_length]; omega)]; rfl
  | f + 1, pos, h => by
    unfold Lib.runeCountFrom
    by_cases hp : pos < s.size
    · have hne : (bl s).drop pos ≠ [] := fun e => by
        have := congrArg List.length e
        rw [List.length_drop, bl_length] at this
        simp at this
        omega
      have h1 := widthL_pos ((bl s).drop pos)
      rw [if_pos hp, decode_told s pos hp, pieces_told _ hne, List.length_cons, List.drop_drop]
      simp only
      rw [runeCountFrom_pieces s f _ (by omega)]
      omega
    · rw [if_neg hp, List.drop_eq_nil_of_le (by rw [bl_length]; omega)]; rfl
theorem runeCount_pieces (s : ByteArray) : Lib.runeCount s = (piecesL (bl s)).length := by
  unfold Lib.runeCount
  rw [runeCountFrom_pieces s _ _ (by omega), List.drop_zero]
theorem countL_valid (l : List UInt8) (h : Lib.validD l = true) : countL l = (piecesL l).length := by
  unfold countL; rw [if_pos (by rw [← validD_pieces]; exact h)]
theorem countL_invalid (l : List UInt8) (h : Lib.validD l = false) : countL l = -1 := by
  unfold countL; rw [if_neg (by rw [← validD_pieces, h]; simp)]

/-- May a rune stand in a name, told by its code? -/
theorem nameP_code (p : List UInt8) (h : Whole p) : nameP p = decide ((97 ≤ codeL p ∧ codeL p ≤ 122) ∨ (48 ≤ codeL p ∧ codeL p ≤ 57) ∨ codeL p = 95 ∨ codeL p = 45 ∨ 161 ≤ codeL p) := by
  obtain ⟨h0, hl⟩ := h
  unfold nameP
  by_cases h1 : p.length = 1
  · have := codeL_one (l := p) (by omega)
    rw [if_pos h1, this.2]
    exact decide_eq_decide.2 (by omega)
  · have hb : 128 ≤ codeL p := by
      have h4 := sizeL_le4 p
      have : sizeL p = 2 ∨ sizeL p = 3 ∨ sizeL p = 4 := by omega
      rcases this with g | g | g
      · have := codeL_two g; omega
      · have := codeL_three g; omega
      · have := codeL_four g; omega
    rw [if_neg h1, selfL_code p ⟨h0, hl⟩]
    exact decide_eq_decide.2 (by omega)
theorem codeL_take (l : List UInt8) (h : sizeL l ≠ 0) : codeL (l.take (sizeL l)) = codeL l := by
  have hs := sizeL_take l (by omega)
  have hb : ∀ j, j < sizeL l → byteN (l.take (sizeL l)) j = byteN l j := fun j hj => byteN_take l _ j hj
  unfold codeL
  rw [hs]
  by_cases h1 : sizeL l = 1
  · rw [if_pos h1, if_pos h1, hb 0 (by omega)]
  · by_cases h2 : sizeL l = 2
    · rw [if_neg h1, if_neg h1, if_pos h2, if_pos h2, hb 0 (by omega), hb 1 (by omega)]
    · by_cases h3 : sizeL l = 3
      · rw [if_neg h1, if_neg h1, if_neg h2, if_neg h2, if_pos h3, if_pos h3, hb 0 (by omega), hb 1 (by omega), hb 2 (by omega)]
      · have := sizeL_le4 l
        rw [if_neg h1, if_neg h1, if_neg h2, if_neg h2, if_neg h3, if_neg h3, hb 0 (by omega), hb 1 (by omega), hb 2 (by omega), hb 3 (by omega)]
/-- The bytes of a rune's code are its own. -/
theorem encode_code (p : List UInt8) (h : Whole p) : Lib.encodeRune (codeL p : Nat) = p := by
  obtain ⟨h0, hl⟩ := h
  have ext : ∀ (q : List UInt8), q.length = p.length → (∀ j, j < p.length → (q.getD j 0).toNat = byteN p j) → q = p := by
    intro q hq hj
    refine List.ext_getElem hq fun j h1 h2 => ?_
    have := hj j h2
    unfold byteN at this
    rw [List.getD_eq_getElem?_getD, List.getD_eq_getElem?_getD, List.getElem?_eq_getElem h1, List.getElem?_eq_getElem h2] at this
    exact UInt8.toNat_inj.1 this
  have h4 := sizeL_le4 p
  rcases sizeL_spec p with ⟨g, c⟩ | ⟨g, c⟩ | ⟨g, c⟩ | ⟨g, c⟩ | ⟨g, c⟩
  · have hc := codeL_one g
    unfold Lib.encodeRune
    rw [Lib.encodeRuneZ_one (by omega) (by omega)]
    refine ext _ (by simp; omega) fun j hj => ?_
    obtain rfl : j = 0 := by omega
    simp
    omega
  · have hc := codeL_two g
    have e : codeL p = (byteN p 0 - 192) * 64 + (byteN p 1 - 128) := by unfold codeL; rw [if_neg (by omega), if_pos g]
    unfold Two at c
    unfold Lib.encodeRune
    rw [Lib.encodeRuneZ_two (by omega) (by omega)]
    refine ext _ (by simp; omega) fun j hj => ?_
    have : j = 0 ∨ j = 1 := by omega
    rcases this with rfl | rfl
    · simp; omega
    · simp; omega
  · have hc := codeL_three g
    have e : codeL p = (byteN p 0 - 224) * 4096 + (byteN p 1 - 128) * 64 + (byteN p 2 - 128) := by unfold codeL; rw [if_neg (by omega), if_neg (by omega), if_pos g]
    unfold Three at c
    unfold Lib.encodeRune
    rw [Lib.encodeRuneZ_three (by omega)]
    refine ext _ (by simp; omega) fun j hj => ?_
    have : j = 0 ∨ j = 1 ∨ j = 2 := by omega
    rcases this with rfl | rfl | rfl
    · simp; omega
    · simp; omega
    · simp; omega
  · have hc := codeL_four g
    have e : codeL p = (byteN p 0 - 240) * 262144 + (byteN p 1 - 128) * 4096 + (byteN p 2 - 128) * 64 + (byteN p 3 - 128) := by unfold codeL; rw [if_neg (by omega), if_neg (by omega), if_neg (by omega)]
    unfold Four at c
    unfold Lib.encodeRune
    rw [Lib.encodeRuneZ_four (by omega) (by omega)]
    refine ext _ (by simp; omega) fun j hj => ?_
    have : j = 0 ∨ j = 1 ∨ j = 2 ∨ j = 3 := by omega
    rcases this with rfl | rfl | rfl | rfl
    · simp; omega
    · simp; omega
    · simp; omega
    · simp; omega
  · omega
end Go.Proofs.Ytbgfkjafablfiaa
