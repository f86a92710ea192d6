/- Texts of one claim, joined: RA RB RC. -/
import Derived.Test.YtmgbmphheagdmaaGreatDoorUC
import Derived.Lib.ValidU
import Derived.Lib.RuneCount
import Derived.Lib.RuneBytes
import Derived.Shelf.Unicode.DecodeSlow
import Derived.Test.YtmgbmphheagdmaaGreatDoorPD
import Derived.Shelf.Strings.Prefix
import Derived.Lib.OthersKept
/-
  Runes as the library's own functions tell them: the decoder, validity, counts, a rune's bytes; names and texts for eyes told by runes' codes; no program is walked here.
-/
namespace Go.Proofs.YtmgbmphheagdmaaGreatDoor

theorem codeL_one {l : List UInt8} (h : sizeL l = 1) : codeL l ≤ 127 ∧ codeL l = byteN l 0 := by
  rcases sizeL_spec l with ⟨g, c⟩ | ⟨g, c⟩ | ⟨g, c⟩ | ⟨g, c⟩ | ⟨g, c⟩
  · unfold codeL; rw [if_pos h]; exact ⟨c.2, rfl⟩
  all_goals omega
theorem codeL_two {l : List UInt8} (h : sizeL l = 2) : 128 ≤ codeL l ∧ codeL l ≤ 2047 := by
  rcases sizeL_spec l with ⟨g, c⟩ | ⟨g, c⟩ | ⟨g, c⟩ | ⟨g, c⟩ | ⟨g, c⟩
  · omega
  · unfold codeL Two at *; rw [if_neg (by omega), if_pos h]; omega
  all_goals omega
theorem codeL_three {l : List UInt8} (h : sizeL l = 3) : (2048 ≤ codeL l ∧ codeL l < 55296) ∨ (57343 < codeL l ∧ codeL l ≤ 65535) := by
  rcases sizeL_spec l with ⟨g, c⟩ | ⟨g, c⟩ | ⟨g, c⟩ | ⟨g, c⟩ | ⟨g, c⟩
  · omega
  · omega
  · unfold codeL Three at *; rw [if_neg (by omega), if_neg (by omega), if_pos h]; omega
  all_goals omega
theorem codeL_four {l : List UInt8} (h : sizeL l = 4) : 65536 ≤ codeL l ∧ codeL l ≤ 1114111 := by
  rcases sizeL_spec l with ⟨g, c⟩ | ⟨g, c⟩ | ⟨g, c⟩ | ⟨g, c⟩ | ⟨g, c⟩
  · omega
  · omega
  · omega
  · unfold codeL Four at *; rw [if_neg (by omega), if_neg (by omega), if_neg (by omega)]; omega
  · omega
/-- How far the decoder goes on. -/
def widthL (r : List UInt8) : Nat := max 1 (sizeL r)
theorem widthL_pos (r : List UInt8) : 1 ≤ widthL r := by unfold widthL; omega
theorem widthL_le (r : List UInt8) (h : r ≠ []) : widthL r ≤ r.length := by
  have := sizeL_le r
  have := List.length_pos_iff.2 h
  unfold widthL; omega
/-- The rune that the decoder tells. -/
def toldL (r : List UInt8) : Nat := if sizeL r = 0 then 65533 else codeL r
theorem runeL_told (r : List UInt8) (h : r ≠ []) : runeL r = (toldL r, widthL r) := by
  rw [runeL_eq r h]
  unfold toldL widthL
  by_cases hs : sizeL r = 0
  · rw [if_pos hs, if_pos hs, hs]; rfl
  · rw [if_neg hs, if_neg hs, show max 1 (sizeL r) = sizeL r by omega]
theorem told_bad (r : List UInt8) : (toldL r = 65533 ∧ widthL r = 1) ↔ sizeL r = 0 := by
  unfold toldL widthL
  constructor
  · intro h
    by_cases hs : sizeL r = 0
    · exact hs
    · rw [if_neg hs] at h
      have := (codeL_one (l := r) (by omega)).1
      omega
  · intro h
    rw [if_pos h, h]
    exact ⟨rfl, rfl⟩
theorem told_lt (r : List UInt8) : toldL r ≤ 1114111 := by
  unfold toldL
  split
  · omega
  · rename_i hs
    have h4 := sizeL_le4 r
    have : sizeL r = 1 ∨ sizeL r = 2 ∨ sizeL r = 3 ∨ sizeL r = 4 := by omega
    rcases this with h | h | h | h
    · have := codeL_one h; omega
    · have := codeL_two h; omega
    · have := codeL_three h; omega
    · have := codeL_four h; omega
theorem decode_told (s : ByteArray) (pos : Nat) (h : pos < s.size) : Utf8.decode s pos = (toldL ((bl s).drop pos), widthL ((bl s).drop pos)) := by
  rw [decode_runeL, runeL_told]
  intro e
  have := congrArg List.length e
  rw [List.length_drop, bl_length] at this
  simp at this
  omega
theorem decodeGo_told (s : ByteArray) (h : bl s ≠ []) : Lib.decodeGo s = (toldL (bl s), widthL (bl s)) := by
  have h0 : 0 < s.size := by rw [← bl_length]; exact List.length_pos_iff.2 h
  unfold Lib.decodeGo
  rw [if_neg (by omega), decode_told s 0 h0, List.drop_zero]
theorem decodeL_told (l : List UInt8) (h : l ≠ []) : Lib.decodeL l = (toldL l, widthL l) := by
  have e : (⟨l.toArray⟩ : ByteArray) = bs l := (bs_eq l).symm
  unfold Lib.decodeL
  rw [e, decode_told (bs l) 0 (by rw [bs_size]; exact List.length_pos_iff.2 h), bl_bs, List.drop_zero]
/-- One step of the pieces, by what the decoder tells. -/
theorem pieces_told (r : List UInt8) (h : r ≠ []) : piecesL r = (r.take (widthL r), decide (sizeL r ≠ 0)) :: piecesL (r.drop (widthL r)) := by
  rw [pieces_step r h]
  unfold widthL
  by_cases hs : sizeL r = 0
  · rw [if_pos hs, hs]; rfl
  · rw [if_neg hs, show max 1 (sizeL r) = sizeL r by omega, decide_eq_true hs]
theorem validGoD_pieces : ∀ (n : Nat) (l : List UInt8), l.length ≤ n → Lib.validGoD n l = (piecesL l).all (·.2)
  | 0, l, h => by
    have : l = [] := List.eq_nil_of_length_eq_zero (by omega)
    subst this; rfl
  | n + 1, l, h => by
    unfold Lib.validGoD
    by_cases hl : l = []
    · subst hl; rfl
    · have h1 := widthL_pos l
      have h0 := List.length_pos_iff.2 hl
      rw [if_neg hl, decodeL_told l hl, pieces_told l hl, List.all_cons]
      simp only [told_bad]
      by_cases hs : sizeL l = 0
      · rw [if_pos hs]; simp [hs]
      · rw [if_neg hs, validGoD_pieces n _ (by rw [List.length_drop]; omega)]; simp [hs]
theorem validD_pieces (l : List UInt8) : Lib.validD l = (piecesL l).all (·.2) := validGoD_pieces _ l (Nat.le_refl _)
theorem runeCountFrom_pieces (s : ByteArray) : ∀ fuel pos, s.size ≤ pos + fuel → Lib.runeCountFrom s fuel pos = (piecesL ((bl s).drop pos)).length
  | 0, pos, h => by
    rw [List.drop_eq_nil_of_le (by rw [bl_length]; omega)]; rfl
  | f + 1, pos, h => by
    unfold Lib.runeCountFrom
    by_cases hp : pos < s.size
    · have hne : (bl s).drop pos ≠ [] := fun e => by
        have := congrArg List.length e
        rw [List.length_drop, bl_length] at this
        simp at this
        omega
      have h1 := widthL_pos ((bl s).drop pos)
      rw [if_pos hp, decode_told s pos hp, pieces_told _ hne, List.length_cons, List.drop_drop]
      simp only
      rw [runeCountFrom_pieces s f _ (by omega)]
      omega
    · rw [if_neg hp, List.drop_eq_nil_of_le (by rw [bl_length]; omega)]; rfl
theorem runeCount_pieces (s : ByteArray) : Lib.runeCount s = (piecesL (bl s)).length := by
  unfold Lib.runeCount
  rw [runeCountFrom_pieces s _ _ (by omega), List.drop_zero]
theorem countL_valid (l : List UInt8) (h : Lib.validD l = true) : countL l = (piecesL l).length := by
  unfold countL; rw [if_pos (by rw [← validD_pieces]; exact h)]
theorem countL_invalid (l : List UInt8) (h : Lib.validD l = false) : countL l = -1 := by
  unfold countL; rw [if_neg (by rw [← validD_pieces, h]; simp)]

/-- May a rune stand in a name, told by its code? -/
theorem nameP_code (p : List UInt8) (h : Whole p) : nameP p = decide ((97 ≤ codeL p ∧ codeL p ≤ 122) ∨ (48 ≤ codeL p ∧ codeL p ≤ 57) ∨ codeL p = 95 ∨ codeL p = 45 ∨ 161 ≤ codeL p) := by
  obtain ⟨h0, hl⟩ := h
  unfold nameP
  by_cases h1 : p.length = 1
  · have := codeL_one (l := p) (by omega)
    rw [if_pos h1, this.2]
    exact decide_eq_decide.2 (by omega)
  · have hb : 128 ≤ codeL p := by
      have h4 := sizeL_le4 p
      have : sizeL p = 2 ∨ sizeL p = 3 ∨ sizeL p = 4 := by omega
      rcases this with g | g | g
      · have := codeL_two g; omega
      · have := codeL_three g; omega
      · have := codeL_four g; omega
    rw [if_neg h1, selfL_code p ⟨h0, hl⟩]
    exact decide_eq_decide.2 (by omega)
theorem codeL_take (l : List UInt8) (h : sizeL l ≠ 0) : codeL (l.take (sizeL l)) = codeL l := by
  have hs := sizeL_take l (by omega)
  have hb : ∀ j, j < sizeL l → byteN (l.take (sizeL l)) j = byteN l j := fun j hj => byteN_take l _ j hj
  unfold codeL
  rw [hs]
  by_cases h1 : sizeL l = 1
  · rw [if_pos h1, if_pos h1, hb 0 (by omega)]
  · by_cases h2 : sizeL l = 2
    · rw [if_neg h1, if_neg h1, if_pos h2, if_pos h2, hb 0 (by omega), hb 1 (by omega)]
    · by_cases h3 : sizeL l = 3
      · rw [if_neg h1, if_neg h1, if_neg h2, if_neg h2, if_pos h3, if_pos h3, hb 0 (by omega), hb 1 (by omega), hb 2 (by omega)]
      · have := sizeL_le4 l
        rw [if_neg h1, if_neg h1, if_neg h2, if_neg h2, if_neg h3, if_neg h3, hb 0 (by omega), hb 1 (by omega), hb 2 (by omega), hb 3 (by omega)]
/-- The bytes of a rune's code are its own. -/
theorem encode_code (p : List UInt8) (h : Whole p) : Lib.encodeRune (codeL p : Nat) = p := by
  obtain ⟨h0, hl⟩ := h
  have ext : ∀ (q : List UInt8), q.length = p.length → (∀ j, j < p.length → (q.getD j 0).toNat = byteN p j) → q = p := by
    intro q hq hj
    refine List.ext_getElem hq fun j h1 h2 => ?_
    have := hj j h2
    unfold byteN at this
    rw [List.getD_eq_getElem?_getD, List.getD_eq_getElem?_getD, List.getElem?_eq_getElem h1, List.getElem?_eq_getElem h2] at this
    exact UInt8.toNat_inj.1 this
  have h4 := sizeL_le4 p
  rcases sizeL_spec p with ⟨g, c⟩ | ⟨g, c⟩ | ⟨g, c⟩ | ⟨g, c⟩ | ⟨g, c⟩
  · have hc := codeL_one g
    unfold Lib.encodeRune
    rw [Lib.encodeRuneZ_one (by omega) (by omega)]
    refine ext _ (by simp; omega) fun j hj => ?_
    obtain rfl : j = 0 := by omega
    simp
    omega
  · have hc := codeL_two g
    have e : codeL p = (byteN p 0 - 192) * 64 + (byteN p 1 - 128) := by unfold codeL; rw [if_neg (by omega), if_pos g]
    unfold Two at c
    unfold Lib.encodeRune
    rw [Lib.encodeRuneZ_two (by omega) (by omega)]
    refine ext _ (by simp; omega) fun j hj => ?_
    have : j = 0 ∨ j = 1 := by omega
    rcases this with rfl | rfl
    · simp; omega
    · simp; omega
  · have hc := codeL_three g
    have e : codeL p = (byteN p 0 - 224) * 4096 + (byteN p 1 - 128) * 64 + (byteN p 2 - 128) := by unfold codeL; rw [if_neg (by omega), if_neg (by omega), if_pos g]
    unfold Three at c
    unfold Lib.encodeRune
    rw [Lib.encodeRuneZ_three (by omega)]
    refine ext _ (by simp; omega) fun j hj => ?_
    have : j = 0 ∨ j = 1 ∨ j = 2 := by omega
    rcases this with rfl | rfl | rfl
    · simp; omega
    · simp; omega
    · simp; omega
  · have hc := codeL_four g
    have e : codeL p = (byteN p 0 - 240) * 262144 + (byteN p 1 - 128) * 4096 + (byteN p 2 - 128) * 64 + (byteN p 3 - 128) := by unfold codeL; rw [if_neg (by omega), if_neg (by omega), if_neg (by omega)]
    unfold Four at c
    unfold Lib.encodeRune
    rw [Lib.encodeRuneZ_four (by omega) (by omega)]
    refine ext _ (by simp; omega) fun j hj => ?_
    have : j = 0 ∨ j = 1 ∨ j = 2 ∨ j = 3 := by omega
    rcases this with rfl | rfl | rfl | rfl
    · simp; omega
    · simp; omega
    · simp; omega
    · simp; omega
  · omega
end Go.Proofs.YtmgbmphheagdmaaGreatDoor

/-
  The contracts of name's allowed and broken.
-/
namespace Go.Proofs.YtmgbmphheagdmaaGreatDoor
open Go.RowKit Go.Shelf

/-- The library's numbers here. -/
def rhoP : Ren := ⟨fun k => if k = 99 then 83 else if k = 206 then 110 else k, fun t => t, fun g => g⟩
theorem hpLays : Lays.n99 Tryz.prog rhoP := by
  constructor
  all_goals first
    | kernel_rfl
    | (intro w; kernel_rfl)
    | (intro w; rfl)
theorem prefix_any (s p : ByteArray) (w : World) : Calls Tryz.prog 83 #[.string s, .string p] w fun e w' => e = .returned (.bool (Lib.hasPrefix (bl s) (bl p))) ∧ w' = w := by
  have h := Any.strings_HasPrefix hpLays s p w
  rw [← bl_eq, ← bl_eq] at h
  exact h

/-- May a name have this rune? -/
@[irreducible] def nameN (c : Nat) : Bool := decide ((97 ≤ c ∧ c ≤ 122) ∨ (48 ≤ c ∧ c ≤ 57) ∨ c = 95 ∨ c = 45 ∨ 161 ≤ c)

set_option maxRecDepth 100000 in
set_option maxHeartbeats 2000000 in
theorem allowed_any (c : Nat) (w : World) (h : c ≤ 1114111) : Calls Tryz.prog 99 #[.int .i32 (c : Int)] w fun e w' => e = .returned (.bool (nameN c)) ∧ w' = w := by
  have cls : (0 ≤ c ∧ c ≤ 44) ∨ (45 ≤ c ∧ c ≤ 45) ∨ (46 ≤ c ∧ c ≤ 47) ∨ (48 ≤ c ∧ c ≤ 57) ∨ (58 ≤ c ∧ c ≤ 94) ∨ (95 ≤ c ∧ c ≤ 95) ∨ (96 ≤ c ∧ c ≤ 96) ∨ (97 ≤ c ∧ c ≤ 122) ∨ (123 ≤ c ∧ c ≤ 160) ∨ (161 ≤ c ∧ c ≤ 1114111) := by omega
  rcases cls with cl | cl | cl | cl | cl | cl | cl | cl | cl | cl
  · have Hd : Hid (nameN c = false) := Lib.hid (by unfold nameN; exact decide_eq_false (by omega))
    have f0 : ¬ (97 : Int) ≤ (c : Int) := by omega
    have f1 : (c : Int) ≤ 122 := by omega
    have f2 : ¬ (48 : Int) ≤ (c : Int) := by omega
    have f3 : (c : Int) ≤ 57 := by omega
    have f4 : ((c : Int) == 45) = false := by simp; omega
    have f5 : ((c : Int) == 95) = false := by simp; omega
    have f6 : ¬ (161 : Int) ≤ (c : Int) := by omega
    clear cl
    go_enter Tryz.func99, Tryz.ntmps99
    go_wp2
    go_ret
    exact ⟨by rw [Hd.out]; rfl, rfl⟩
  · have Hd : Hid (nameN c = true) := Lib.hid (by unfold nameN; exact decide_eq_true (by omega))
    have f0 : ¬ (97 : Int) ≤ (c : Int) := by omega
    have f1 : (c : Int) ≤ 122 := by omega
    have f2 : ¬ (48 : Int) ≤ (c : Int) := by omega
    have f3 : (c : Int) ≤ 57 := by omega
    have f4 : ((c : Int) == 45) = true := by simp; omega
    have f5 : ((c : Int) == 95) = false := by simp; omega
    have f6 : ¬ (161 : Int) ≤ (c : Int) := by omega
    clear cl
    go_enter Tryz.func99, Tryz.ntmps99
    go_wp2
    go_ret
    exact ⟨by rw [Hd.out]; rfl, rfl⟩
  · have Hd : Hid (nameN c = false) := Lib.hid (by unfold nameN; exact decide_eq_false (by omega))
    have f0 : ¬ (97 : Int) ≤ (c : Int) := by omega
    have f1 : (c : Int) ≤ 122 := by omega
    have f2 : ¬ (48 : Int) ≤ (c : Int) := by omega
    have f3 : (c : Int) ≤ 57 := by omega
    have f4 : ((c : Int) == 45) = false := by simp; omega
    have f5 : ((c : Int) == 95) = false := by simp; omega
    have f6 : ¬ (161 : Int) ≤ (c : Int) := by omega
    clear cl
    go_enter Tryz.func99, Tryz.ntmps99
    go_wp2
    go_ret
    exact ⟨by rw [Hd.out]; rfl, rfl⟩
  · have Hd : Hid (nameN c = true) := Lib.hid (by unfold nameN; exact decide_eq_true (by omega))
    have f0 : ¬ (97 : Int) ≤ (c : Int) := by omega
    have f1 : (c : Int) ≤ 122 := by omega
    have f2 : (48 : Int) ≤ (c : Int) := by omega
    have f3 : (c : Int) ≤ 57 := by omega
    have f4 : ((c : Int) == 45) = false := by simp; omega
    have f5 : ((c : Int) == 95) = false := by simp; omega
    have f6 : ¬ (161 : Int) ≤ (c : Int) := by omega
    clear cl
    go_enter Tryz.func99, Tryz.ntmps99
    go_wp2
    go_ret
    exact ⟨by rw [Hd.out]; rfl, rfl⟩
  · have Hd : Hid (nameN c = false) := Lib.hid (by unfold nameN; exact decide_eq_false (by omega))
    have f0 : ¬ (97 : Int) ≤ (c : Int) := by omega
    have f1 : (c : Int) ≤ 122 := by omega
    have f2 : (48 : Int) ≤ (c : Int) := by omega
    have f3 : ¬ (c : Int) ≤ 57 := by omega
    have f4 : ((c : Int) == 45) = false := by simp; omega
    have f5 : ((c : Int) == 95) = false := by simp; omega
    have f6 : ¬ (161 : Int) ≤ (c : Int) := by omega
    clear cl
    go_enter Tryz.func99, Tryz.ntmps99
    go_wp2
    go_ret
    exact ⟨by rw [Hd.out]; rfl, rfl⟩
  · have Hd : Hid (nameN c = true) := Lib.hid (by unfold nameN; exact decide_eq_true (by omega))
    have f0 : ¬ (97 : Int) ≤ (c : Int) := by omega
    have f1 : (c : Int) ≤ 122 := by omega
    have f2 : (48 : Int) ≤ (c : Int) := by omega
    have f3 : ¬ (c : Int) ≤ 57 := by omega
    have f4 : ((c : Int) == 45) = false := by simp; omega
    have f5 : ((c : Int) == 95) = true := by simp; omega
    have f6 : ¬ (161 : Int) ≤ (c : Int) := by omega
    clear cl
    go_enter Tryz.func99, Tryz.ntmps99
    go_wp2
    go_ret
    exact ⟨by rw [Hd.out]; rfl, rfl⟩
  · have Hd : Hid (nameN c = false) := Lib.hid (by unfold nameN; exact decide_eq_false (by omega))
    have f0 : ¬ (97 : Int) ≤ (c : Int) := by omega
    have f1 : (c : Int) ≤ 122 := by omega
    have f2 : (48 : Int) ≤ (c : Int) := by omega
    have f3 : ¬ (c : Int) ≤ 57 := by omega
    have f4 : ((c : Int) == 45) = false := by simp; omega
    have f5 : ((c : Int) == 95) = false := by simp; omega
    have f6 : ¬ (161 : Int) ≤ (c : Int) := by omega
    clear cl
    go_enter Tryz.func99, Tryz.ntmps99
    go_wp2
    go_ret
    exact ⟨by rw [Hd.out]; rfl, rfl⟩
  · have Hd : Hid (nameN c = true) := Lib.hid (by unfold nameN; exact decide_eq_true (by omega))
    have f0 : (97 : Int) ≤ (c : Int) := by omega
    have f1 : (c : Int) ≤ 122 := by omega
    have f2 : (48 : Int) ≤ (c : Int) := by omega
    have f3 : ¬ (c : Int) ≤ 57 := by omega
    have f4 : ((c : Int) == 45) = false := by simp; omega
    have f5 : ((c : Int) == 95) = false := by simp; omega
    have f6 : ¬ (161 : Int) ≤ (c : Int) := by omega
    clear cl
    go_enter Tryz.func99, Tryz.ntmps99
    go_wp2
    go_ret
    exact ⟨by rw [Hd.out]; rfl, rfl⟩
  · have Hd : Hid (nameN c = false) := Lib.hid (by unfold nameN; exact decide_eq_false (by omega))
    have f0 : (97 : Int) ≤ (c : Int) := by omega
    have f1 : ¬ (c : Int) ≤ 122 := by omega
    have f2 : (48 : Int) ≤ (c : Int) := by omega
    have f3 : ¬ (c : Int) ≤ 57 := by omega
    have f4 : ((c : Int) == 45) = false := by simp; omega
    have f5 : ((c : Int) == 95) = false := by simp; omega
    have f6 : ¬ (161 : Int) ≤ (c : Int) := by omega
    clear cl
    go_enter Tryz.func99, Tryz.ntmps99
    go_wp2
    go_ret
    exact ⟨by rw [Hd.out]; rfl, rfl⟩
  · have Hd : Hid (nameN c = true) := Lib.hid (by unfold nameN; exact decide_eq_true (by omega))
    have f0 : (97 : Int) ≤ (c : Int) := by omega
    have f1 : ¬ (c : Int) ≤ 122 := by omega
    have f2 : (48 : Int) ≤ (c : Int) := by omega
    have f3 : ¬ (c : Int) ≤ 57 := by omega
    have f4 : ((c : Int) == 45) = false := by simp; omega
    have f5 : ((c : Int) == 95) = false := by simp; omega
    have f6 : (161 : Int) ≤ (c : Int) := by omega
    clear cl
    go_enter Tryz.func99, Tryz.ntmps99
    go_wp2
    go_ret
    exact ⟨by rw [Hd.out]; rfl, rfl⟩

/-- The bytes of U+FFFD. -/
def fffd : List UInt8 := [239, 191, 189]
theorem hasPrefix_iff (r : List UInt8) : Lib.hasPrefix r fffd = true ↔ byteN r 0 = 239 ∧ byteN r 1 = 191 ∧ byteN r 2 = 189 := by
  unfold Lib.hasPrefix fffd
  have two : ∀ (x y : UInt8), (x == y) = decide (x.toNat = y.toNat) := fun x y => by
    by_cases e : x = y
    · subst e; simp
    · have : x.toNat ≠ y.toNat := fun h => e (UInt8.toNat_inj.1 h)
      simp [e, this]
  match r with
  | [] => simp [byteN]
  | [x] => simp [byteN]
  | [x, y] => simp [byteN]
  | x :: y :: z :: t =>
    have e0 : byteN (x :: y :: z :: t) 0 = x.toNat := rfl
    have e1 : byteN (x :: y :: z :: t) 1 = y.toNat := rfl
    have e2 : byteN (x :: y :: z :: t) 2 = z.toNat := rfl
    rw [e0, e1, e2]
    simp only [List.isPrefixOf, two, Bool.and_eq_true, decide_eq_true_eq, Bool.and_true]
    have a : (239 : UInt8).toNat = 239 := rfl
    have b : (191 : UInt8).toNat = 191 := rfl
    have c : (189 : UInt8).toNat = 189 := rfl
    rw [a, b, c]
    constructor
    · rintro ⟨h1, h2, h3⟩; exact ⟨h1.symm, h2.symm, h3.symm⟩
    · rintro ⟨h1, h2, h3⟩; exact ⟨h1.symm, h2.symm, h3.symm⟩
/-- U+FFFD where it isn't written is a byte that is no rune. -/
theorem told_broken (r : List UInt8) (h : toldL r = 65533) : Lib.hasPrefix r fffd = decide (sizeL r ≠ 0) := by
  by_cases hs : sizeL r = 0
  · rw [decide_eq_false (by omega)]
    cases hp : Lib.hasPrefix r fffd with
    | false => rfl
    | true =>
      exfalso
      obtain ⟨h0, h1, h2⟩ := (hasPrefix_iff r).1 hp
      have hl : 3 ≤ r.length := by
        rcases Nat.lt_or_ge r.length 3 with hl | hl
        · have := byteN_out r 2 (by omega); omega
        · exact hl
      rcases sizeL_spec r with ⟨g, _⟩ | ⟨g, _⟩ | ⟨g, _⟩ | ⟨g, _⟩ | ⟨_, _, _, c, _⟩
      · omega
      · omega
      · omega
      · omega
      · unfold Three at c; omega
  · rw [decide_eq_true hs]
    rw [hasPrefix_iff]
    unfold toldL at h
    rw [if_neg hs] at h
    have h4 := sizeL_le4 r
    have : sizeL r = 1 ∨ sizeL r = 2 ∨ sizeL r = 3 ∨ sizeL r = 4 := by omega
    rcases this with g | g | g | g
    · have := codeL_one g; omega
    · have := codeL_two g; omega
    · rcases sizeL_spec r with ⟨g', _⟩ | ⟨g', _⟩ | ⟨g', c⟩ | ⟨g', _⟩ | ⟨g', _⟩
      · omega
      · omega
      · unfold codeL at h
        rw [if_neg (by omega), if_neg (by omega), if_pos g] at h
        unfold Three at c
        omega
      · omega
      · omega
    · have := codeL_four g; omega

set_option maxRecDepth 100000 in
set_option maxHeartbeats 1000000 in
theorem broken_any (t : ByteArray) (w : World) : Calls Tryz.prog 100 #[.string t, .int .i32 (toldL (bl t) : Nat)] w fun e w' => e = .returned (.bool (decide (sizeL (bl t) = 0))) ∧ w' = w := by
  have Hb := Lib.hid (told_broken (bl t))
  have Hz : Hid (toldL (bl t) ≠ 65533 → decide (sizeL (bl t) = 0) = false) := Lib.hid (fun h => decide_eq_false (fun g => h ((told_bad _).2 g).1))
  have Hq : Hid (∀ w, Calls Tryz.prog 83 #[.string t, .string { data := #[239, 191, 189] }] w fun e w' => e = .returned (.bool (Lib.hasPrefix (bl t) fffd)) ∧ w' = w) := Lib.hid (fun w => by
    have := prefix_any t { data := #[239, 191, 189] } w
    rw [show bl { data := #[239, 191, 189] } = fffd by rw [bl_eq]; rfl] at this
    exact this)
  generalize toldL (bl t) = c at *
  by_cases hc : c = 65533
  · subst hc
    have hp : Hid (Lib.hasPrefix (bl t) fffd = decide (sizeL (bl t) ≠ 0)) := Lib.hid (Hb.out rfl)
    rw [hp.out] at Hq
    by_cases hs : sizeL (bl t) = 0
    · have Hd : Hid (decide (sizeL (bl t) = 0) = true) := Lib.hid (decide_eq_true hs)
      rw [decide_eq_false (by omega)] at Hq
      clear hs
      go_enter Tryz.func100, Tryz.ntmps100
      go_wp2_with (go_at_call 83; refine (Hq.out _).mono ?_; rintro e w' ⟨rfl, rfl⟩)
      go_ret
      exact ⟨by rw [Hd.out]; rfl, rfl⟩
    · have Hd : Hid (decide (sizeL (bl t) = 0) = false) := Lib.hid (decide_eq_false hs)
      rw [decide_eq_true hs] at Hq
      clear hs
      go_enter Tryz.func100, Tryz.ntmps100
      go_wp2_with (go_at_call 83; refine (Hq.out _).mono ?_; rintro e w' ⟨rfl, rfl⟩)
      go_ret
      exact ⟨by rw [Hd.out]; rfl, rfl⟩
  · have hc' : ((c : Int) == 65533) = false := by simp; omega
    have Hd : Hid (decide (sizeL (bl t) = 0) = false) := Lib.hid (Hz.out hc)
    go_enter Tryz.func100, Tryz.ntmps100
    go_wp2
    go_ret
    exact ⟨by rw [Hd.out]; rfl, rfl⟩
end Go.Proofs.YtmgbmphheagdmaaGreatDoor

/-
  The contract of name's Right.
-/
namespace Go.Proofs.YtmgbmphheagdmaaGreatDoor
open Go.RowKit

theorem restR_full (j : Nat) (r : List UInt8) (h : r ≠ []) (hj : 24 ≤ j) : restR j r = false := by
  unfold restR
  rw [decide_eq_false (by rw [pieces_told r h, List.length_cons]; omega), Bool.and_false]
theorem nameP_take (r : List UInt8) (h : sizeL r ≠ 0) : nameP (r.take (sizeL r)) = nameN (toldL r) := by
  have hw : Whole (r.take (sizeL r)) := ⟨by rw [sizeL_take r (by omega)]; omega, by rw [sizeL_take r (by omega), List.length_take]; have := sizeL_le r; omega⟩
  rw [nameP_code _ hw, codeL_take r h]
  unfold nameN toldL
  rw [if_neg h]
theorem restR_no (j : Nat) (r : List UInt8) (h : r ≠ []) (hn : nameN (toldL r) = false) : restR j r = false := by
  by_cases hs : sizeL r = 0
  · exact restR_zero j r h hs
  · exact restR_bad j r hs (by rw [nameP_take r hs, hn])
theorem told_45 (r : List UInt8) (h : toldL r = 45) : byteN r 0 = 45 := by
  unfold toldL at h
  by_cases hs : sizeL r = 0
  · rw [if_pos hs] at h; omega
  · rw [if_neg hs] at h
    have h4 := sizeL_le4 r
    have : sizeL r = 1 ∨ sizeL r = 2 ∨ sizeL r = 3 ∨ sizeL r = 4 := by omega
    rcases this with g | g | g | g
    · have := codeL_one g; omega
    · have := codeL_two g; omega
    · have := codeL_three g; omega
    · have := codeL_four g; omega
theorem byte_45 (r : List UInt8) (h : byteN r 0 = 45) (h0 : sizeL r ≠ 0) : toldL r = 45 := by
  unfold toldL
  rw [if_neg h0]
  rcases sizeL_spec r with ⟨g, _⟩ | ⟨g, c⟩ | ⟨g, c⟩ | ⟨g, c⟩ | ⟨g, _⟩
  · have := codeL_one g; omega
  · unfold Two at c; omega
  · unfold Three at c; omega
  · unfold Four at c; omega
  · omega
theorem restR_next (j : Nat) (r : List UInt8) (h0 : sizeL r ≠ 0) (hn : nameN (toldL r) = true) (hf : j = 0 → toldL r ≠ 45) : restR j r = restR (j + 1) (r.drop (widthL r)) := by
  rw [restR_step j r h0 (by rw [nameP_take r h0, hn]) (fun e g => hf e (byte_45 r g h0)), widthL, show max 1 (sizeL r) = sizeL r by omega]

set_option maxRecDepth 100000 in
set_option maxHeartbeats 2000000 in
theorem right_any (s : ByteArray) (w : World) (hs : s.size ≤ 9223372036854775807) :
    Calls Tryz.prog 74 #[.string s] w fun e w' => e = .returned (.bool (rightL (bl s))) ∧ Below w.heap.size w w' := by
  have H0 : Hid (rightL (bl s) = restR 0 ((bl s).drop 0)) := Lib.hid (by rw [List.drop_zero, restR_0])
  go_enter Tryz.func74, Tryz.ntmps74
  go_wp2
  go_loopw [3] (fun n wr => ∃ j k : Nat, j ≤ 24 ∧ k ≤ s.size ∧ (j = 0 ↔ k = 0) ∧ n = .int .i64 (j : Int) ∧ wr.heap[w.heap.size]? = some (.stringIter s k) ∧ Below w.heap.size w wr ∧ rightL (bl s) = restR j ((bl s).drop k)) (fun _ wr => s.size - wr.iterPos w.heap.size)
  case atStart => exact ⟨0, 0, by omega, by omega, by omega, rfl, World.iter_heap w s 0, (Below.refl _ _).alloc (Nat.le_refl _) _, H0.out⟩
  case round =>
    obtain ⟨j, k, hj, hk, hjk, rfl, hit, hb, hc⟩ := hrel
    have Hc := Lib.hid hc
    have Hb := Lib.hid hb
    have Hjk := Lib.hid hjk
    have hszw : w.heap.size < wr.heap.size := (Array.getElem?_eq_some_iff.1 hit).1
    clear hc hb hjk
    by_cases hlt : k < s.size
    · have hnx : ∀ ty, (Instr.next (.pointer (some ⟨w.heap.size, 0, none⟩)) true ty).run Tryz.prog wr = _ := fun ty => Lib.run_next_any_at wr w.heap.size s k ty hit hlt
      have Hne : Hid ((bl s).drop k ≠ []) := Lib.hid (fun e => by have := congrArg List.length e; rw [List.length_drop, bl_length] at this; simp at this; omega)
      have hw1 := widthL_pos ((bl s).drop k)
      have hw2 : widthL ((bl s).drop k) ≤ s.size - k := by have := widthL_le _ Hne.out; rw [List.length_drop, bl_length] at this; exact this
      have htl := told_lt ((bl s).drop k)
      have Hal := Lib.hid (fun W => allowed_any (toldL ((bl s).drop k)) W htl)
      have Hbr := Lib.hid (broken_any (s.extract k s.size))
      rw [bl_rest] at Hbr
      have Hfull : Hid (24 ≤ j → rightL (bl s) = false) := Lib.hid (fun h => by rw [Hc.out, restR_full _ _ Hne.out h])
      have Hno : Hid (nameN (toldL ((bl s).drop k)) = false → rightL (bl s) = false) := Lib.hid (fun h => by rw [Hc.out, restR_no _ _ Hne.out h])
      have Hbad : Hid (sizeL ((bl s).drop k) = 0 → rightL (bl s) = false) := Lib.hid (fun h => by rw [Hc.out, restR_zero _ _ Hne.out h])
      have Hfirst : Hid (k = 0 → toldL ((bl s).drop k) = 45 → rightL (bl s) = false) := Lib.hid (fun h g => by
        have hj0 := Hjk.out.2 h
        rw [Hc.out, hj0, restR_first _ (told_45 _ g)])
      have Hnext : Hid (sizeL ((bl s).drop k) ≠ 0 → nameN (toldL ((bl s).drop k)) = true → (k = 0 → toldL ((bl s).drop k) ≠ 45) → rightL (bl s) = restR (j + 1) ((bl s).drop (k + widthL ((bl s).drop k)))) := Lib.hid (fun h g f => by
        rw [Hc.out, restR_next _ _ h g (fun e => f (Hjk.out.1 e)), List.drop_drop])
      simp only [decode_told s k hlt] at hnx
      generalize widthL ((bl s).drop k) = wd at *
      generalize toldL ((bl s).drop k) = c at *
      have Hit2 := Lib.hid (Lib.iterAt_heap wr w.heap.size s k (k + wd) hit)
      have Hb2 := Lib.hid (Lib.below_iterAt Hb.out (k := w.heap.size) (Nat.le_refl _) s (k + wd))
      clear Hc
      by_cases h24 : j = 24
      · have Hv : Hid (rightL (bl s) = false) := Lib.hid (Hfull.out (by omega))
        have g24 : ((j : Int) == 24) = true := by simp; omega
        clear Hfull Hno Hbad Hfirst Hnext h24
        go_wp2
        go_ret
        exact ⟨by rw [Hv.out]; rfl, Hb2.out⟩
      · have g24 : ((j : Int) == 24) = false := by simp; omega
        have hj24 : j < 24 := by omega
        clear Hfull h24
        by_cases hk0 : k = 0
        · have gk : ((k : Int) == 0) = true := by simp; omega
          by_cases hc45 : c = 45
          · have Hv : Hid (rightL (bl s) = false) := Lib.hid (Hfirst.out hk0 hc45)
            have gc : ((c : Int) == 45) = true := by simp; omega
            clear Hno Hbad Hfirst Hnext hc45 hk0
            go_wp2
            go_ret
            exact ⟨by rw [Hv.out]; rfl, Hb2.out⟩
          · have gc : ((c : Int) == 45) = false := by simp; omega
            have Hf : Hid (k = 0 → c ≠ 45) := Lib.hid (fun _ => hc45)
            clear Hfirst hc45 hk0
            cases hn : nameN c with
            | false =>
              have Hv : Hid (rightL (bl s) = false) := Lib.hid (Hno.out hn)
              rw [hn] at Hal
              clear Hno Hbad Hnext hn
              go_wp2_with (go_at_call 99; refine (Hal.out _).mono ?_; rintro e w' ⟨rfl, rfl⟩)
              go_ret
              exact ⟨by rw [Hv.out]; rfl, Hb2.out⟩
            | true =>
              rw [hn] at Hal
              by_cases hz : sizeL ((bl s).drop k) = 0
              · have Hv : Hid (rightL (bl s) = false) := Lib.hid (Hbad.out hz)
                rw [decide_eq_true hz] at Hbr
                clear Hno Hbad Hnext hn hz
                go_wp2_with (first | (go_at_call 99; refine (Hal.out _).mono ?_; rintro e w' ⟨rfl, rfl⟩) | (go_at_call 100; refine (Hbr.out _).mono ?_; rintro e w' ⟨rfl, rfl⟩))
                go_ret
                exact ⟨by rw [Hv.out]; rfl, Hb2.out⟩
              · have Hst : Hid (rightL (bl s) = restR (j + 1) ((bl s).drop (k + wd))) := Lib.hid (Hnext.out hz hn Hf.out)
                rw [decide_eq_false hz] at Hbr
                clear Hno Hbad Hnext hn hz
                go_wp2_with (first | (go_at_call 99; refine (Hal.out _).mono ?_; rintro e w' ⟨rfl, rfl⟩) | (go_at_call 100; refine (Hbr.out _).mono ?_; rintro e w' ⟨rfl, rfl⟩))
                go_roundw
                case rel => exact ⟨j + 1, k + wd, by omega, by omega, by omega, by go_num, Hit2.out, Hb2.out, Hst.out⟩
                case measure =>
                  simp only [World.iterPos, Hit2.out, hit]
                  omega
        · have gk : ((k : Int) == 0) = false := by simp; omega
          have Hf : Hid (k = 0 → c ≠ 45) := Lib.hid (fun h => absurd h hk0)
          clear Hfirst hk0
          cases hn : nameN c with
          | false =>
            have Hv : Hid (rightL (bl s) = false) := Lib.hid (Hno.out hn)
            rw [hn] at Hal
            clear Hno Hbad Hnext hn
            go_wp2_with (go_at_call 99; refine (Hal.out _).mono ?_; rintro e w' ⟨rfl, rfl⟩)
            go_ret
            exact ⟨by rw [Hv.out]; rfl, Hb2.out⟩
          | true =>
            rw [hn] at Hal
            by_cases hz : sizeL ((bl s).drop k) = 0
            · have Hv : Hid (rightL (bl s) = false) := Lib.hid (Hbad.out hz)
              rw [decide_eq_true hz] at Hbr
              clear Hno Hbad Hnext hn hz
              go_wp2_with (first | (go_at_call 99; refine (Hal.out _).mono ?_; rintro e w' ⟨rfl, rfl⟩) | (go_at_call 100; refine (Hbr.out _).mono ?_; rintro e w' ⟨rfl, rfl⟩))
              go_ret
              exact ⟨by rw [Hv.out]; rfl, Hb2.out⟩
            · have Hst : Hid (rightL (bl s) = restR (j + 1) ((bl s).drop (k + wd))) := Lib.hid (Hnext.out hz hn Hf.out)
              rw [decide_eq_false hz] at Hbr
              clear Hno Hbad Hnext hn hz
              go_wp2_with (first | (go_at_call 99; refine (Hal.out _).mono ?_; rintro e w' ⟨rfl, rfl⟩) | (go_at_call 100; refine (Hbr.out _).mono ?_; rintro e w' ⟨rfl, rfl⟩))
              go_roundw
              case rel => exact ⟨j + 1, k + wd, by omega, by omega, by omega, by go_num, Hit2.out, Hb2.out, Hst.out⟩
              case measure =>
                simp only [World.iterPos, Hit2.out, hit]
                omega
    · have hnx : ∀ ty, (Instr.next (.pointer (some ⟨w.heap.size, 0, none⟩)) true ty).run Tryz.prog wr = _ := fun ty => Lib.run_next_end_at wr w.heap.size s k ty hit hlt
      have Hv : Hid (rightL (bl s) = decide (0 < j)) := Lib.hid (by
        rw [Hc.out, List.drop_eq_nil_of_le (by rw [bl_length]; omega), restR_nil]
        exact decide_eq_decide.2 (by omega))
      go_wp2
      go_ret
      exact ⟨by rw [Hv.out]; rfl, Hb.out⟩
end Go.Proofs.YtmgbmphheagdmaaGreatDoor
