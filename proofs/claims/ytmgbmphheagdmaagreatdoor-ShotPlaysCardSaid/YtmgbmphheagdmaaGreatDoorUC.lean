/- Texts of one claim, joined: UA UB UC. -/
import Derived.Test.YtmgbmphheagdmaaGreatDoorGen
import Derived.Laws.RangeAny
/-
  Runes byte by byte: how many bytes the rune has with which a text begins, and what the model's own decoder makes of it; no program is walked here.
-/
namespace Go.Proofs.YtmgbmphheagdmaaGreatDoor

/-- Byte k of a text, nought behind its end. -/
def byteN (l : List UInt8) (k : Nat) : Nat := (l.getD k 0).toNat
/-- Is there a byte at a place, from lo to hi? -/
def inB (l : List UInt8) (k lo hi : Nat) : Prop := k < l.length ∧ lo ≤ byteN l k ∧ byteN l k ≤ hi
instance (l : List UInt8) (k lo hi : Nat) : Decidable (inB l k lo hi) := by unfold inB; exact inferInstance
/-- How many bytes the rune has with which a text begins; 0: none does. -/
def sizeL (l : List UInt8) : Nat :=
  if inB l 0 0 127 then 1
  else if inB l 0 194 223 ∧ inB l 1 128 191 then 2
  else if (inB l 1 128 191 ∧ inB l 2 128 191) ∧ ((inB l 0 224 224 ∧ inB l 1 160 191) ∨ inB l 0 225 236 ∨ (inB l 0 237 237 ∧ inB l 1 128 159) ∨ inB l 0 238 239) then 3
  else if (inB l 1 128 191 ∧ inB l 2 128 191 ∧ inB l 3 128 191) ∧ ((inB l 0 240 240 ∧ inB l 1 144 191) ∨ inB l 0 241 243 ∨ (inB l 0 244 244 ∧ inB l 1 128 143)) then 4
  else 0
theorem byteN_lt (l : List UInt8) (k : Nat) : byteN l k < 256 := (l.getD k 0).toNat_lt
/-- The conditions, in numbers. -/
def Two (n b0 b1 : Nat) : Prop := 1 < n ∧ 194 ≤ b0 ∧ b0 ≤ 223 ∧ 128 ≤ b1 ∧ b1 ≤ 191
def Three (n b0 b1 b2 : Nat) : Prop := 2 < n ∧ (128 ≤ b1 ∧ b1 ≤ 191) ∧ (128 ≤ b2 ∧ b2 ≤ 191) ∧ ((b0 = 224 ∧ 160 ≤ b1) ∨ (225 ≤ b0 ∧ b0 ≤ 236) ∨ (b0 = 237 ∧ b1 ≤ 159) ∨ (238 ≤ b0 ∧ b0 ≤ 239))
def Four (n b0 b1 b2 b3 : Nat) : Prop := 3 < n ∧ (128 ≤ b1 ∧ b1 ≤ 191) ∧ (128 ≤ b2 ∧ b2 ≤ 191) ∧ (128 ≤ b3 ∧ b3 ≤ 191) ∧ ((b0 = 240 ∧ 144 ≤ b1) ∨ (241 ≤ b0 ∧ b0 ≤ 243) ∨ (b0 = 244 ∧ b1 ≤ 143))
theorem sizeL_spec (l : List UInt8) :
    (sizeL l = 1 ∧ 0 < l.length ∧ byteN l 0 ≤ 127) ∨ (sizeL l = 2 ∧ Two l.length (byteN l 0) (byteN l 1)) ∨ (sizeL l = 3 ∧ Three l.length (byteN l 0) (byteN l 1) (byteN l 2)) ∨
    (sizeL l = 4 ∧ Four l.length (byteN l 0) (byteN l 1) (byteN l 2) (byteN l 3)) ∨
    (sizeL l = 0 ∧ ¬ (0 < l.length ∧ byteN l 0 ≤ 127) ∧ ¬ Two l.length (byteN l 0) (byteN l 1) ∧ ¬ Three l.length (byteN l 0) (byteN l 1) (byteN l 2) ∧ ¬ Four l.length (byteN l 0) (byteN l 1) (byteN l 2) (byteN l 3)) := by
  unfold sizeL Two Three Four
  by_cases h1 : inB l 0 0 127
  · rw [if_pos h1]; left; exact ⟨rfl, h1.1, h1.2.2⟩
  · rw [if_neg h1]
    by_cases h2 : inB l 0 194 223 ∧ inB l 1 128 191
    · rw [if_pos h2]; right; left; exact ⟨rfl, h2.2.1, h2.1.2.1, h2.1.2.2, h2.2.2⟩
    · rw [if_neg h2]
      by_cases h3 : (inB l 1 128 191 ∧ inB l 2 128 191) ∧ ((inB l 0 224 224 ∧ inB l 1 160 191) ∨ inB l 0 225 236 ∨ (inB l 0 237 237 ∧ inB l 1 128 159) ∨ inB l 0 238 239)
      · rw [if_pos h3]; right; right; left
        refine ⟨rfl, h3.1.2.1, h3.1.1.2, h3.1.2.2, ?_⟩
        unfold inB at h3; omega
      · rw [if_neg h3]
        by_cases h4 : (inB l 1 128 191 ∧ inB l 2 128 191 ∧ inB l 3 128 191) ∧ ((inB l 0 240 240 ∧ inB l 1 144 191) ∨ inB l 0 241 243 ∨ (inB l 0 244 244 ∧ inB l 1 128 143))
        · rw [if_pos h4]; right; right; right; left
          refine ⟨rfl, h4.1.2.2.1, h4.1.1.2, h4.1.2.1.2, h4.1.2.2.2, ?_⟩
          unfold inB at h4; omega
        · rw [if_neg h4]; right; right; right; right
          unfold inB at h1 h2 h3 h4
          refine ⟨rfl, ?_, ?_, ?_, ?_⟩ <;> omega
theorem sizeL_nil : sizeL [] = 0 := by
  rcases sizeL_spec [] with ⟨_, h, _⟩ | ⟨_, h, _⟩ | ⟨_, h, _⟩ | ⟨_, h, _⟩ | ⟨h, _⟩
  · simp at h
  · simp at h
  · simp at h
  · simp at h
  · exact h
theorem sizeL_le4 (l : List UInt8) : sizeL l ≤ 4 := by
  rcases sizeL_spec l with ⟨h, _⟩ | ⟨h, _⟩ | ⟨h, _⟩ | ⟨h, _⟩ | ⟨h, _⟩ <;> omega
theorem sizeL_le (l : List UInt8) : sizeL l ≤ l.length := by
  rcases sizeL_spec l with ⟨h, k, _⟩ | ⟨h, k, _⟩ | ⟨h, k, _⟩ | ⟨h, k, _⟩ | ⟨h, _⟩ <;> omega
/-- A text that agrees with another one in the bytes of its first rune begins with a rune of as many bytes. -/
theorem sizeL_same (l m : List UInt8) (k : Nat) (hk : sizeL l = k) (h0 : 0 < k) (hl : k ≤ m.length) (hb : ∀ j, j < k → byteN m j = byteN l j) : sizeL m = k := by
  have e0 := hb 0 h0
  rcases sizeL_spec l with ⟨h, d⟩ | ⟨h, d⟩ | ⟨h, d⟩ | ⟨h, d⟩ | ⟨h, _⟩
  · obtain rfl : k = 1 := by omega
    rcases sizeL_spec m with ⟨g, c⟩ | ⟨g, c⟩ | ⟨g, c⟩ | ⟨g, c⟩ | ⟨g, c, _⟩
    · exact g
    all_goals (simp only [Two, Three, Four] at *; omega)
  · obtain rfl : k = 2 := by omega
    have e1 := hb 1 (by omega)
    rcases sizeL_spec m with ⟨g, c⟩ | ⟨g, c⟩ | ⟨g, c⟩ | ⟨g, c⟩ | ⟨g, _, c, _⟩
    · simp only [Two] at *; omega
    · exact g
    all_goals (simp only [Two, Three, Four] at *; omega)
  · obtain rfl : k = 3 := by omega
    have e1 := hb 1 (by omega)
    have e2 := hb 2 (by omega)
    rcases sizeL_spec m with ⟨g, c⟩ | ⟨g, c⟩ | ⟨g, c⟩ | ⟨g, c⟩ | ⟨g, _, _, c, _⟩
    · simp only [Three] at *; omega
    · simp only [Two, Three] at *; omega
    · exact g
    all_goals (simp only [Three, Four] at *; omega)
  · obtain rfl : k = 4 := by omega
    have e1 := hb 1 (by omega)
    have e2 := hb 2 (by omega)
    have e3 := hb 3 (by omega)
    rcases sizeL_spec m with ⟨g, c⟩ | ⟨g, c⟩ | ⟨g, c⟩ | ⟨g, c⟩ | ⟨g, _, _, _, c⟩
    · simp only [Four] at *; omega
    · simp only [Two, Four] at *; omega
    · simp only [Three, Four] at *; omega
    · exact g
    · simp only [Four] at *; omega
  · omega
theorem byteN_take (l : List UInt8) (k j : Nat) (h : j < k) : byteN (l.take k) j = byteN l j := by
  unfold byteN
  rw [List.getD_eq_getElem?_getD, List.getD_eq_getElem?_getD, List.getElem?_take_of_lt h]
theorem byteN_app (l m : List UInt8) (j : Nat) (h : j < l.length) : byteN (l ++ m) j = byteN l j := by
  unfold byteN
  rw [List.getD_eq_getElem?_getD, List.getD_eq_getElem?_getD, List.getElem?_append_left h]
theorem byteN_nil (k : Nat) : byteN [] k = 0 := by unfold byteN; simp
theorem byteN_out (l : List UInt8) (k : Nat) (h : l.length ≤ k) : byteN l k = 0 := by
  unfold byteN
  rw [List.getD_eq_getElem?_getD, List.getElem?_eq_none h]; rfl
theorem sizeL_take (l : List UInt8) (h : 0 < sizeL l) : sizeL (l.take (sizeL l)) = sizeL l :=
  sizeL_same l _ _ rfl h (by rw [List.length_take]; have := sizeL_le l; omega) (fun j hj => byteN_take l _ j hj)
theorem sizeL_app (p r : List UInt8) (h : 0 < sizeL p) : sizeL (p ++ r) = sizeL p :=
  sizeL_same p _ _ rfl h (by rw [List.length_append]; have := sizeL_le p; omega) (fun j hj => byteN_app p r j (by have := sizeL_le p; omega))

/-- What the model's decoder makes of four bytes of which n are there. -/
def runeN (n x0 x1 x2 x3 : Nat) : Nat × Nat :=
  if x0 < 128 then (x0, 1)
  else if (x0 / 32 == 6 && (decide (1 < n) && x1 / 64 == 2)) = true then
    if (x0 % 32) * 64 + x1 % 64 ≥ 128 then ((x0 % 32) * 64 + x1 % 64, 2) else (65533, 1)
  else if (x0 / 16 == 14 && (decide (1 < n) && x1 / 64 == 2) && (decide (2 < n) && x2 / 64 == 2)) = true then
    if (decide ((x0 % 16) * 4096 + (x1 % 64) * 64 + x2 % 64 ≥ 2048) && Utf8.valid (((x0 % 16) * 4096 + (x1 % 64) * 64 + x2 % 64 : Nat) : Int)) = true then ((x0 % 16) * 4096 + (x1 % 64) * 64 + x2 % 64, 3) else (65533, 1)
  else if (x0 / 8 == 30 && (decide (1 < n) && x1 / 64 == 2) && (decide (2 < n) && x2 / 64 == 2) && (decide (3 < n) && x3 / 64 == 2)) = true then
    if (decide ((x0 % 8) * 262144 + (x1 % 64) * 4096 + (x2 % 64) * 64 + x3 % 64 ≥ 65536) && Utf8.valid (((x0 % 8) * 262144 + (x1 % 64) * 4096 + (x2 % 64) * 64 + x3 % 64 : Nat) : Int)) = true then ((x0 % 8) * 262144 + (x1 % 64) * 4096 + (x2 % 64) * 64 + x3 % 64, 4) else (65533, 1)
  else (65533, 1)
def runeL (l : List UInt8) : Nat × Nat := runeN l.length (byteN l 0) (byteN l 1) (byteN l 2) (byteN l 3)
theorem valid_iff (c : Nat) : Utf8.valid (c : Int) = decide (c < 55296 ∨ (57344 ≤ c ∧ c ≤ 1114111)) := by
  unfold Utf8.valid
  by_cases h1 : c < 55296
  · have : (0 : Int) ≤ c ∧ (c : Int) < 55296 := by omega
    simp [h1, this]
  · by_cases h2 : 57344 ≤ c ∧ c ≤ 1114111
    · have : (57344 : Int) ≤ c ∧ (c : Int) ≤ 1114111 := by omega
      simp [h2, this]
    · have g1 : ¬ (c : Int) < 55296 := by omega
      simp [h1, h2, g1]
      omega
theorem runeN_two {n x0 x1 x2 x3 : Nat} (h : Two n x0 x1) : runeN n x0 x1 x2 x3 = ((x0 - 192) * 64 + (x1 - 128), 2) := by
  unfold Two at h
  unfold runeN
  rw [if_neg (by omega), if_pos (by simp only [Bool.and_eq_true, beq_iff_eq, decide_eq_true_eq]; omega), if_pos (by omega)]
  exact Prod.ext (by simp only; omega) rfl
theorem runeN_three {n x0 x1 x2 x3 : Nat} (h : Three n x0 x1 x2) : runeN n x0 x1 x2 x3 = ((x0 - 224) * 4096 + (x1 - 128) * 64 + (x2 - 128), 3) := by
  unfold Three at h
  have e : (x0 % 16) * 4096 + (x1 % 64) * 64 + x2 % 64 = (x0 - 224) * 4096 + (x1 - 128) * 64 + (x2 - 128) := by omega
  unfold runeN
  rw [if_neg (by omega), if_neg (by simp only [Bool.and_eq_true, beq_iff_eq, decide_eq_true_eq]; omega), if_pos (by simp only [Bool.and_eq_true, beq_iff_eq, decide_eq_true_eq]; omega), e,
    if_pos (by simp only [valid_iff, Bool.and_eq_true, decide_eq_true_eq]; omega)]
theorem runeN_four {n x0 x1 x2 x3 : Nat} (h : Four n x0 x1 x2 x3) : runeN n x0 x1 x2 x3 = ((x0 - 240) * 262144 + (x1 - 128) * 4096 + (x2 - 128) * 64 + (x3 - 128), 4) := by
  unfold Four at h
  have e : (x0 % 8) * 262144 + (x1 % 64) * 4096 + (x2 % 64) * 64 + x3 % 64 = (x0 - 240) * 262144 + (x1 - 128) * 4096 + (x2 - 128) * 64 + (x3 - 128) := by omega
  unfold runeN
  rw [if_neg (by omega), if_neg (by simp only [Bool.and_eq_true, beq_iff_eq, decide_eq_true_eq]; omega), if_neg (by simp only [Bool.and_eq_true, beq_iff_eq, decide_eq_true_eq]; omega),
    if_pos (by simp only [Bool.and_eq_true, beq_iff_eq, decide_eq_true_eq]; omega), e, if_pos (by simp only [valid_iff, Bool.and_eq_true, decide_eq_true_eq]; omega)]
theorem runeN_none {n x0 x1 x2 x3 : Nat} (b0 : x0 < 256) (b1 : x1 < 256) (b2 : x2 < 256) (b3 : x3 < 256) (h1 : 128 ≤ x0) (h2 : ¬ Two n x0 x1) (h3 : ¬ Three n x0 x1 x2) (h4 : ¬ Four n x0 x1 x2 x3) : runeN n x0 x1 x2 x3 = (65533, 1) := by
  unfold Two at h2
  unfold Three at h3
  unfold Four at h4
  unfold runeN
  rw [if_neg (by omega)]
  by_cases c2 : (x0 / 32 == 6 && (decide (1 < n) && x1 / 64 == 2)) = true
  · rw [if_pos c2]
    simp only [Bool.and_eq_true, beq_iff_eq, decide_eq_true_eq] at c2
    rw [if_neg (by omega)]
  · rw [if_neg c2]
    by_cases c3 : (x0 / 16 == 14 && (decide (1 < n) && x1 / 64 == 2) && (decide (2 < n) && x2 / 64 == 2)) = true
    · rw [if_pos c3]
      simp only [Bool.and_eq_true, beq_iff_eq, decide_eq_true_eq] at c3
      rw [if_neg (by simp only [valid_iff, Bool.and_eq_true, decide_eq_true_eq]; omega)]
    · rw [if_neg c3]
      by_cases c4 : (x0 / 8 == 30 && (decide (1 < n) && x1 / 64 == 2) && (decide (2 < n) && x2 / 64 == 2) && (decide (3 < n) && x3 / 64 == 2)) = true
      · rw [if_pos c4]
        simp only [Bool.and_eq_true, beq_iff_eq, decide_eq_true_eq] at c4
        rw [if_neg (by simp only [valid_iff, Bool.and_eq_true, decide_eq_true_eq]; omega)]
      · rw [if_neg c4]
theorem get_byteN (s : ByteArray) (pos k : Nat) : (s.get! (pos + k)).toNat = byteN ((bl s).drop pos) k := by
  unfold byteN
  rw [List.getD_eq_getElem?_getD, List.getElem?_drop, bl_eq]
  show (s.data[pos + k]!).toNat = _
  rw [getElem!_def]
  simp only [Array.getElem?_toList]
  cases s.data[pos + k]? <;> rfl
theorem decode_runeL (s : ByteArray) (pos : Nat) : Utf8.decode s pos = runeL ((bl s).drop pos) := by
  have hc : ∀ k, decide (pos + k < s.size) = decide (k < ((bl s).drop pos).length) := fun k => by
    rw [List.length_drop, bl_length]
    by_cases h : pos + k < s.size
    · rw [decide_eq_true h, decide_eq_true (by omega)]
    · rw [decide_eq_false h, decide_eq_false (by omega)]
  unfold Utf8.decode runeL runeN
  simp only [get_byteN, hc, Utf8.runeError]
/-- The rune of a text's beginning, by its bytes. -/
def codeL (l : List UInt8) : Nat :=
  if sizeL l = 1 then byteN l 0
  else if sizeL l = 2 then (byteN l 0 - 192) * 64 + (byteN l 1 - 128)
  else if sizeL l = 3 then (byteN l 0 - 224) * 4096 + (byteN l 1 - 128) * 64 + (byteN l 2 - 128)
  else (byteN l 0 - 240) * 262144 + (byteN l 1 - 128) * 4096 + (byteN l 2 - 128) * 64 + (byteN l 3 - 128)
/-- The model's decoder tells the rune that the bytes make, or 65533 of one byte. -/
theorem runeL_eq (l : List UInt8) (h : l ≠ []) : runeL l = if sizeL l = 0 then (65533, 1) else (codeL l, sizeL l) := by
  have hl : 0 < l.length := List.length_pos_iff.2 h
  unfold runeL
  rcases sizeL_spec l with ⟨g, c⟩ | ⟨g, c⟩ | ⟨g, c⟩ | ⟨g, c⟩ | ⟨g, c0, c2, c3, c4⟩
  · rw [if_neg (by omega)]
    unfold codeL runeN
    rw [if_pos (by omega), if_pos g, g]
  · rw [if_neg (by omega), runeN_two c]
    unfold codeL
    rw [if_neg (by omega), if_pos g, g]
  · rw [if_neg (by omega), runeN_three c]
    unfold codeL
    rw [if_neg (by omega), if_neg (by omega), if_pos g, g]
  · rw [if_neg (by omega), runeN_four c]
    unfold codeL
    rw [if_neg (by omega), if_neg (by omega), if_neg (by omega), g]
  · rw [if_pos g]
    exact runeN_none (byteN_lt l 0) (byteN_lt l 1) (byteN_lt l 2) (byteN_lt l 3) (by omega) c2 c3 c4
end Go.Proofs.YtmgbmphheagdmaaGreatDoor

/-
  A text as its runes and its bytes that belong to none; counts, names and texts for eyes as functions on lists; no program is walked here.
-/
namespace Go.Proofs.YtmgbmphheagdmaaGreatDoor

/-- The runes of a text, and the bytes with which none begins, one by one. -/
def piecesF : Nat → List UInt8 → List (List UInt8 × Bool)
  | 0, _ => []
  | f + 1, l => if l = [] then [] else if sizeL l = 0 then (l.take 1, false) :: piecesF f (l.drop 1) else (l.take (sizeL l), true) :: piecesF f (l.drop (sizeL l))
def piecesL (l : List UInt8) : List (List UInt8 × Bool) := piecesF l.length l
theorem piecesF_more : ∀ (f g : Nat) (l : List UInt8), l.length ≤ f → l.length ≤ g → piecesF f l = piecesF g l
  | 0, g, l, hf, _ => by
    have : l = [] := List.eq_nil_of_length_eq_zero (by omega)
    subst this
    cases g <;> simp [piecesF]
  | f + 1, 0, l, _, hg => by
    have : l = [] := List.eq_nil_of_length_eq_zero (by omega)
    subst this
    simp [piecesF]
  | f + 1, g + 1, l, hf, hg => by
    unfold piecesF
    by_cases h : l = []
    · rw [if_pos h, if_pos h]
    · rw [if_neg h, if_neg h]
      have hl := List.length_pos_iff.2 h
      by_cases hs : sizeL l = 0
      · rw [if_pos hs, if_pos hs, piecesF_more f g (l.drop 1) (by rw [List.length_drop]; omega) (by rw [List.length_drop]; omega)]
      · rw [if_neg hs, if_neg hs, piecesF_more f g (l.drop (sizeL l)) (by rw [List.length_drop]; omega) (by rw [List.length_drop]; omega)]
theorem pieces_nil : piecesL [] = [] := rfl
theorem pieces_step (l : List UInt8) (h : l ≠ []) : piecesL l = if sizeL l = 0 then (l.take 1, false) :: piecesL (l.drop 1) else (l.take (sizeL l), true) :: piecesL (l.drop (sizeL l)) := by
  have hl := List.length_pos_iff.2 h
  obtain ⟨n, hn⟩ : ∃ n, l.length = n + 1 := ⟨l.length - 1, by omega⟩
  unfold piecesL
  rw [hn, piecesF, if_neg h]
  by_cases hs : sizeL l = 0
  · rw [if_pos hs, if_pos hs, piecesF_more n _ (l.drop 1) (by rw [List.length_drop]; omega) (Nat.le_refl _)]
  · rw [if_neg hs, if_neg hs, piecesF_more n _ (l.drop (sizeL l)) (by rw [List.length_drop]; omega) (Nat.le_refl _)]
/-- A rune by itself. -/
def Whole (p : List UInt8) : Prop := 0 < sizeL p ∧ sizeL p = p.length
theorem whole_take (l : List UInt8) (h : sizeL l ≠ 0) : Whole (l.take (sizeL l)) := by
  have := sizeL_take l (by omega)
  have hl := sizeL_le l
  refine ⟨by omega, by rw [this, List.length_take]; omega⟩
theorem pieces_whole (p r : List UInt8) (h : Whole p) : piecesL (p ++ r) = (p, true) :: piecesL r := by
  have hne : p ++ r ≠ [] := fun e => by
    have := List.append_eq_nil_iff.1 e
    have h1 := h.1
    rw [this.1, sizeL_nil] at h1
    omega
  rw [pieces_step _ hne, sizeL_app p r h.1, if_neg (by have := h.1; omega), h.2, List.take_left, List.drop_left]
/-- Induction over the pieces. -/
theorem piece_ind {q : List UInt8 → Prop} (h0 : q []) (h1 : ∀ b r, sizeL (b :: r) = 0 → q r → q (b :: r)) (h2 : ∀ p r, Whole p → q r → q (p ++ r)) (l : List UInt8) : q l := by
  have key : ∀ n (l : List UInt8), l.length ≤ n → q l := by
    intro n
    induction n with
    | zero =>
      intro l hl
      have : l = [] := List.eq_nil_of_length_eq_zero (by omega)
      rw [this]; exact h0
    | succ n ih =>
      intro l hl
      cases l with
      | nil => exact h0
      | cons b r =>
        by_cases hs : sizeL (b :: r) = 0
        · exact h1 b r hs (ih r (by simp at hl; omega))
        · have := h2 ((b :: r).take (sizeL (b :: r))) ((b :: r).drop (sizeL (b :: r))) (whole_take _ hs) (ih _ (by rw [List.length_drop]; omega))
          rwa [List.take_append_drop] at this
  exact key l.length l (Nat.le_refl _)
theorem pieces_bad (b : UInt8) (r : List UInt8) (h : sizeL (b :: r) = 0) : piecesL (b :: r) = ([b], false) :: piecesL r := by
  rw [pieces_step _ (by simp), if_pos h]; rfl
theorem pieces_flat (l : List UInt8) : (piecesL l).flatMap (·.1) = l := by
  induction l using piece_ind with
  | h0 => rfl
  | h1 b r hs ih => rw [pieces_bad b r hs, List.flatMap_cons, ih]; rfl
  | h2 p r hp ih => rw [pieces_whole p r hp, List.flatMap_cons, ih]
theorem pieces_each (l : List UInt8) : ∀ q ∈ piecesL l, (q.2 = true → Whole q.1) ∧ (q.2 = false → ∃ b, q.1 = [b]) := by
  induction l using piece_ind with
  | h0 => simp [pieces_nil]
  | h1 b r hs ih =>
    rw [pieces_bad b r hs]
    intro q hq
    rcases List.mem_cons.1 hq with rfl | hq
    · exact ⟨fun h => (by cases h), fun _ => ⟨b, rfl⟩⟩
    · exact ih q hq
  | h2 p r hp ih =>
    rw [pieces_whole p r hp]
    intro q hq
    rcases List.mem_cons.1 hq with rfl | hq
    · exact ⟨fun _ => hp, fun h => (by cases h)⟩
    · exact ih q hq
/-- Is it UTF-8? -/
def AllV (l : List UInt8) : Prop := ∀ q ∈ piecesL l, q.2 = true
theorem allV_bad (b : UInt8) (r : List UInt8) (h : sizeL (b :: r) = 0) : ¬ AllV (b :: r) := fun hv => by
  have := hv ([b], false) (by rw [pieces_bad b r h]; simp)
  cases this
theorem allV_whole (p r : List UInt8) (hp : Whole p) : AllV (p ++ r) ↔ AllV r := by
  unfold AllV
  rw [pieces_whole p r hp]
  constructor
  · exact fun h q hq => h q (List.mem_cons.2 (.inr hq))
  · intro h q hq
    rcases List.mem_cons.1 hq with rfl | hq
    · rfl
    · exact h q hq
theorem pieces_append (s t : List UInt8) : AllV s → piecesL (s ++ t) = piecesL s ++ piecesL t := by
  induction s using piece_ind with
  | h0 => intro _; simp [pieces_nil]
  | h1 b r hs ih => exact fun h => absurd h (allV_bad b r hs)
  | h2 p r hp ih =>
    intro h
    rw [List.append_assoc, pieces_whole p _ hp, pieces_whole p r hp, ih ((allV_whole p r hp).1 h)]; rfl
theorem pieces_list : ∀ (ps : List (List UInt8)), (∀ p ∈ ps, Whole p) → piecesL ps.flatten = ps.map fun p => (p, true)
  | [], _ => rfl
  | p :: ps, h => by
    rw [List.flatten_cons, pieces_whole p _ (h p (by simp)), pieces_list ps (fun q hq => h q (by simp [hq]))]; rfl

/-- How many runes; -1: it isn't UTF-8. -/
def countL (l : List UInt8) : Int := if (piecesL l).all (·.2) = true then (piecesL l).length else -1
theorem all_iff (l : List UInt8) : (piecesL l).all (·.2) = true ↔ AllV l := by
  unfold AllV; rw [List.all_eq_true]
theorem countL_neg (l : List UInt8) : countL l < 0 ↔ ¬ AllV l := by
  unfold countL
  rw [← all_iff]
  split
  · rename_i h; simp [h]
  · rename_i h; simp [h]
theorem countL_app (s t : List UInt8) (hs : AllV s) (ht : AllV t) : countL (s ++ t) = countL s + countL t := by
  have h := pieces_append s t hs
  unfold countL
  rw [if_pos ((all_iff s).2 hs), if_pos ((all_iff t).2 ht), h, if_pos (by
    rw [List.all_append, (all_iff s).2 hs, (all_iff t).2 ht]; rfl), List.length_append]
  omega

/-- Does a rune, told by its bytes, stand for itself? -/
def selfL (r : List UInt8) : Bool :=
  if r.length = 1 then decide (32 ≤ byteN r 0 ∧ byteN r 0 ≤ 126 ∧ byteN r 0 ≠ 92)
  else if r.length = 2 ∧ byteN r 0 = 194 then decide (161 ≤ byteN r 1)
  else decide (1 < r.length)
/-- The same, told by its code. -/
theorem selfL_code (p : List UInt8) (h : Whole p) : selfL p = decide ((32 ≤ codeL p ∧ codeL p ≤ 126 ∧ codeL p ≠ 92) ∨ 161 ≤ codeL p) := by
  obtain ⟨h0, hl⟩ := h
  unfold selfL codeL
  rcases sizeL_spec p with ⟨g, c⟩ | ⟨g, c⟩ | ⟨g, c⟩ | ⟨g, c⟩ | ⟨g, _⟩
  · rw [if_pos (by omega), if_pos g]
    congr 1
    apply propext
    omega
  · rw [if_neg (by omega), if_neg (show ¬ sizeL p = 1 by omega), if_pos g]
    unfold Two at c
    by_cases hb : byteN p 0 = 194
    · rw [if_pos ⟨by omega, hb⟩]
      congr 1
      apply propext
      omega
    · rw [if_neg (by omega), decide_eq_true (by omega), decide_eq_true (by omega)]
  · unfold Three at c
    rw [if_neg (by omega), if_neg (by omega), if_neg (by omega), if_neg (by omega), if_pos g, decide_eq_true (by omega), decide_eq_true (by omega)]
  · unfold Four at c
    rw [if_neg (by omega), if_neg (by omega), if_neg (by omega), if_neg (by omega), if_neg (by omega), decide_eq_true (by omega), decide_eq_true (by omega)]
  · omega
end Go.Proofs.YtmgbmphheagdmaaGreatDoor

/-
  Texts for eyes and names as functions on lists, and what the chapter promises of them; no program is walked here.
-/
namespace Go.Proofs.YtmgbmphheagdmaaGreatDoor

/-- A hexadecimal digit, and its value. -/
def hexB (n : Nat) : UInt8 := UInt8.ofNat (if n < 10 then 48 + n else 87 + n)
def unhexN (n : Nat) : Nat := if n < 58 then n - 48 else n - 87
theorem hexB_toNat (n : Nat) (h : n < 16) : (hexB n).toNat = if n < 10 then 48 + n else 87 + n := by
  unfold hexB
  rw [UInt8.toNat_ofNat']
  split <;> omega
theorem unhex_hex (n : Nat) (h : n < 16) : unhexN (hexB n).toNat = n := by
  rw [hexB_toNat n h]
  unfold unhexN
  split <;> split <;> omega
/-- A byte as three. -/
def escB (b : UInt8) : List UInt8 := [92, hexB (b.toNat / 16), hexB (b.toNat % 16)]
def escP (b : UInt8) : List (List UInt8) := [[92], [hexB (b.toNat / 16)], [hexB (b.toNat % 16)]]
def plainQ (q : List UInt8 × Bool) : List UInt8 := if (q.2 && selfL q.1) = true then q.1 else q.1.flatMap escB
/-- The text for eyes. -/
def plainL (l : List UInt8) : List UInt8 := (piecesL l).flatMap plainQ
def plainR (q : List UInt8 × Bool) : List (List UInt8) := if (q.2 && selfL q.1) = true then [q.1] else q.1.flatMap escP
/-- Its runes. -/
def plainP (l : List UInt8) : List (List UInt8) := (piecesL l).flatMap plainR
theorem esc_flat (p : List UInt8) : (p.flatMap escP).flatten = p.flatMap escB := by
  induction p with
  | nil => rfl
  | cons b p ih => rw [List.flatMap_cons, List.flatMap_cons, List.flatten_append, ih]; rfl
theorem plainR_flat (q : List UInt8 × Bool) : (plainR q).flatten = plainQ q := by
  unfold plainR plainQ
  split
  · simp
  · exact esc_flat q.1
theorem plainL_flat (l : List UInt8) : plainL l = (plainP l).flatten := by
  unfold plainL plainP
  induction piecesL l with
  | nil => rfl
  | cons q ps ih => rw [List.flatMap_cons, List.flatMap_cons, List.flatten_append, ih, plainR_flat]
theorem whole_one (b : UInt8) (h : b.toNat ≤ 127) : Whole [b] := by
  have hb : byteN [b] 0 = b.toNat := rfl
  rcases sizeL_spec [b] with ⟨g, _⟩ | ⟨g, c⟩ | ⟨g, c⟩ | ⟨g, c⟩ | ⟨g, c, _⟩
  · exact ⟨by omega, by rw [g]; rfl⟩
  · have := c.1; simp at this
  · have := c.1; simp at this
  · have := c.1; simp at this
  · exact absurd ⟨by simp, by omega⟩ c
theorem hexB_le (n : Nat) (h : n < 16) : (hexB n).toNat ≤ 127 := by rw [hexB_toNat n h]; split <;> omega
theorem escP_whole (b : UInt8) : ∀ p ∈ escP b, Whole p := by
  have hb := b.toNat_lt
  intro p hp
  simp only [escP, List.mem_cons, List.not_mem_nil, or_false] at hp
  rcases hp with rfl | rfl | rfl
  · exact whole_one 92 (by decide)
  · exact whole_one _ (hexB_le _ (by omega))
  · exact whole_one _ (hexB_le _ (by omega))
theorem plainP_whole (l : List UInt8) : ∀ p ∈ plainP l, Whole p := by
  intro p hp
  obtain ⟨q, hq, hp⟩ := List.mem_flatMap.1 hp
  unfold plainR at hp
  split at hp
  · rename_i hc
    simp only [Bool.and_eq_true] at hc
    obtain rfl : p = q.1 := by simpa using hp
    exact (pieces_each l q hq).1 hc.1
  · obtain ⟨b, _, hp⟩ := List.mem_flatMap.1 hp
    exact escP_whole b p hp
/-- A text for eyes is UTF-8. -/
theorem pieces_plain (l : List UInt8) : piecesL (plainL l) = (plainP l).map fun p => (p, true) := by
  rw [plainL_flat]; exact pieces_list _ (plainP_whole l)
theorem plain_valid (l : List UInt8) : AllV (plainL l) := by
  unfold AllV
  rw [pieces_plain]
  intro q hq
  obtain ⟨p, _, rfl⟩ := List.mem_map.1 hq
  rfl
theorem plain_count (l : List UInt8) : 0 ≤ countL (plainL l) := by
  have := countL_neg (plainL l)
  have h := plain_valid l
  by_cases hc : countL (plainL l) < 0
  · exact absurd h (this.1 hc)
  · omega

/-- What has such runes for eyes. -/
def unP : List (List UInt8) → List UInt8
  | [] => []
  | [p] => p
  | [p, q] => p ++ q
  | p :: q :: r :: ps => if p = [92] then UInt8.ofNat (16 * unhexN (byteN q 0) + unhexN (byteN r 0)) :: unP ps else p ++ unP (q :: r :: ps)
theorem unP_self (p : List UInt8) (h : p ≠ [92]) : ∀ ps, unP (p :: ps) = p ++ unP ps
  | [] => by simp [unP]
  | [q] => by simp [unP]
  | q :: r :: ps => by rw [unP, if_neg h]
theorem unP_esc (b : UInt8) (ps : List (List UInt8)) : unP (escP b ++ ps) = b :: unP ps := by
  have hb := b.toNat_lt
  show unP ([92] :: [hexB (b.toNat / 16)] :: [hexB (b.toNat % 16)] :: ps) = _
  rw [unP, if_pos rfl]
  have e1 : byteN [hexB (b.toNat / 16)] 0 = (hexB (b.toNat / 16)).toNat := rfl
  have e2 : byteN [hexB (b.toNat % 16)] 0 = (hexB (b.toNat % 16)).toNat := rfl
  rw [e1, e2, unhex_hex _ (by omega), unhex_hex _ (by omega), show 16 * (b.toNat / 16) + b.toNat % 16 = b.toNat by omega, UInt8.ofNat_toNat]
theorem unP_escs (p : List UInt8) (ps : List (List UInt8)) : unP (p.flatMap escP ++ ps) = p ++ unP ps := by
  induction p with
  | nil => rfl
  | cons b p ih => rw [List.flatMap_cons, List.append_assoc, unP_esc, ih]; rfl
theorem selfL_slash : selfL [92] = false := by decide
theorem unP_plain (l : List UInt8) : unP (plainP l) = l := by
  induction l using piece_ind with
  | h0 => rfl
  | h1 b r hs ih =>
    have e : plainP (b :: r) = escP b ++ plainP r := by
      unfold plainP
      rw [pieces_bad b r hs, List.flatMap_cons]
      simp [plainR]
    rw [e, unP_esc, ih]
  | h2 p r hp ih =>
    have e : plainP (p ++ r) = plainR (p, true) ++ plainP r := by
      unfold plainP
      rw [pieces_whole p r hp, List.flatMap_cons]
    rw [e]
    unfold plainR
    by_cases hs : selfL p = true
    · rw [if_pos (by simp [hs])]
      have : p ≠ [92] := fun h => by rw [h, selfL_slash] at hs; cases hs
      rw [List.singleton_append, unP_self p this, ih]
    · rw [if_neg (by simp [hs]), unP_escs, ih]
/-- The text that has this one for eyes, if any has. -/
def backL (l : List UInt8) : List UInt8 := unP ((piecesL l).map (·.1))
theorem back_plain (l : List UInt8) : backL (plainL l) = l := by
  unfold backL
  rw [pieces_plain, List.map_map]
  have : (plainP l).map ((fun q : List UInt8 × Bool => q.1) ∘ fun p => (p, true)) = plainP l := by
    rw [show ((fun q : List UInt8 × Bool => q.1) ∘ fun p : List UInt8 => (p, true)) = id from rfl, List.map_id]
  rw [this, unP_plain]
/-- Unlike texts have unlike ones. -/
theorem plain_inj (s t : List UInt8) (h : plainL s = plainL t) : s = t := by rw [← back_plain s, h, back_plain]
/-- A text is one for eyes just if the text that it tells has it. -/
theorem plain_iff (l : List UInt8) : (∃ u, plainL u = l) ↔ plainL (backL l) = l :=
  ⟨fun ⟨u, h⟩ => by rw [← h, back_plain], fun h => ⟨_, h⟩⟩

/-- A byte that is no control byte. -/
def Shown (b : UInt8) : Prop := 32 ≤ b.toNat ∧ b.toNat ≠ 127
theorem whole_bytes (p : List UInt8) (h : Whole p) (h1 : 1 < p.length) : ∀ b ∈ p, 128 ≤ b.toNat := by
  obtain ⟨h0, hl⟩ := h
  have get : ∀ j, j < p.length → ∀ b, p[j]? = some b → b.toNat = byteN p j := fun j _ b hb => by unfold byteN; rw [List.getD_eq_getElem?_getD, hb]; rfl
  intro b hb
  obtain ⟨j, hj⟩ := List.getElem?_of_mem hb
  have hjl := (List.getElem?_eq_some_iff.1 hj).1
  rw [get j hjl b hj]
  rcases sizeL_spec p with ⟨g, _⟩ | ⟨g, c⟩ | ⟨g, c⟩ | ⟨g, c⟩ | ⟨g, _⟩
  · omega
  · unfold Two at c
    have : j = 0 ∨ j = 1 := by omega
    rcases this with rfl | rfl <;> omega
  · unfold Three at c
    have : j = 0 ∨ j = 1 ∨ j = 2 := by omega
    rcases this with rfl | rfl | rfl <;> omega
  · unfold Four at c
    have : j = 0 ∨ j = 1 ∨ j = 2 ∨ j = 3 := by omega
    rcases this with rfl | rfl | rfl | rfl <;> omega
  · omega
theorem hexB_shown (n : Nat) (h : n < 16) : Shown (hexB n) := by
  unfold Shown
  rw [hexB_toNat n h]
  split <;> omega
theorem plain_shown (l : List UInt8) : ∀ b ∈ plainL l, Shown b := by
  intro b hb
  obtain ⟨q, hq, hb⟩ := List.mem_flatMap.1 hb
  unfold plainQ at hb
  split at hb
  · rename_i hc
    simp only [Bool.and_eq_true] at hc
    have hw := (pieces_each l q hq).1 hc.1
    by_cases h1 : q.1.length = 1
    · have hs := hc.2
      unfold selfL at hs
      rw [if_pos h1] at hs
      simp only [decide_eq_true_eq] at hs
      obtain ⟨c, hc'⟩ := List.length_eq_one_iff.1 h1
      rw [hc'] at hb hs
      obtain rfl : b = c := by simpa using hb
      have : byteN [b] 0 = b.toNat := rfl
      unfold Shown
      omega
    · have := whole_bytes q.1 hw (by have := hw.1; have := hw.2; omega) b hb
      unfold Shown
      omega
  · obtain ⟨c, _, hb⟩ := List.mem_flatMap.1 hb
    have hc := c.toNat_lt
    simp only [escB, List.mem_cons, List.not_mem_nil, or_false] at hb
    rcases hb with rfl | rfl | rfl
    · unfold Shown; decide
    · exact hexB_shown _ (by omega)
    · exact hexB_shown _ (by omega)

/-- May a rune, told by its bytes, stand in a name? -/
def nameP (p : List UInt8) : Bool :=
  if p.length = 1 then decide ((97 ≤ byteN p 0 ∧ byteN p 0 ≤ 122) ∨ (48 ≤ byteN p 0 ∧ byteN p 0 ≤ 57) ∨ byteN p 0 = 95 ∨ byteN p 0 = 45) else selfL p
/-- Is it a name? -/
def rightL (l : List UInt8) : Bool := (piecesL l).all (fun q => q.2 && nameP q.1) && decide (1 ≤ (piecesL l).length ∧ (piecesL l).length ≤ 24 ∧ byteN l 0 ≠ 45)
theorem rightL_iff (l : List UInt8) : rightL l = true ↔ (∀ q ∈ piecesL l, q.2 = true ∧ nameP q.1 = true) ∧ 1 ≤ (piecesL l).length ∧ (piecesL l).length ≤ 24 ∧ byteN l 0 ≠ 45 := by
  unfold rightL
  rw [Bool.and_eq_true, List.all_eq_true, decide_eq_true_eq]
  simp only [Bool.and_eq_true]
theorem nameP_self (p : List UInt8) (h : nameP p = true) : selfL p = true := by
  unfold nameP at h
  by_cases h1 : p.length = 1
  · rw [if_pos h1] at h
    unfold selfL
    rw [if_pos h1]
    simp only [decide_eq_true_eq] at h ⊢
    omega
  · rw [if_neg h1] at h
    exact h
/-- A name is its own text for eyes. -/
theorem plain_name (l : List UInt8) (h : rightL l = true) : plainL l = l := by
  obtain ⟨hq, _⟩ := (rightL_iff l).1 h
  have key : ∀ (ps : List (List UInt8 × Bool)), (∀ q ∈ ps, q.2 = true ∧ nameP q.1 = true) → ps.flatMap plainQ = ps.flatMap (·.1) := by
    intro ps
    induction ps with
    | nil => intro _; rfl
    | cons q ps ih =>
      intro hq
      obtain ⟨h1, h2⟩ := hq q (by simp)
      rw [List.flatMap_cons, List.flatMap_cons, ih (fun x hx => hq x (by simp [hx]))]
      unfold plainQ
      rw [if_pos (by rw [h1, nameP_self _ h2]; rfl)]
  unfold plainL
  rw [key _ hq, pieces_flat]
theorem rightL_valid (l : List UInt8) (h : rightL l = true) : AllV l := fun q hq => ((rightL_iff l).1 h).1 q hq |>.1
/-- A name behind a name is one as long as there is room. -/
theorem right_join (s t : List UInt8) (hs : rightL s = true) (ht : rightL t = true) : rightL (s ++ t) = decide (countL s + countL t ≤ 24) := by
  obtain ⟨s1, s2, s3, s4⟩ := (rightL_iff s).1 hs
  obtain ⟨t1, t2, t3, t4⟩ := (rightL_iff t).1 ht
  have hp := pieces_append s t (rightL_valid s hs)
  have cs : countL s = (piecesL s).length := by unfold countL; rw [if_pos ((all_iff s).2 (rightL_valid s hs))]
  have ct : countL t = (piecesL t).length := by unfold countL; rw [if_pos ((all_iff t).2 (rightL_valid t ht))]
  have hne : 0 < s.length := List.length_pos_iff.2 (fun e => by rw [e, pieces_nil] at s2; simp at s2)
  have h0 : byteN (s ++ t) 0 = byteN s 0 := byteN_app s t 0 hne
  have hall : (∀ q ∈ piecesL (s ++ t), q.2 = true ∧ nameP q.1 = true) := by
    rw [hp]
    intro q hq
    rcases List.mem_append.1 hq with h | h
    · exact s1 q h
    · exact t1 q h
  by_cases hn : countL s + countL t ≤ 24
  · rw [decide_eq_true hn, rightL_iff]
    refine ⟨hall, ?_, ?_, by rw [h0]; exact s4⟩ <;> rw [hp, List.length_append] <;> omega
  · rw [decide_eq_false hn]
    cases hr : rightL (s ++ t) with
    | false => rfl
    | true =>
      have := ((rightL_iff _).1 hr).2.2.1
      rw [hp, List.length_append] at this
      omega
end Go.Proofs.YtmgbmphheagdmaaGreatDoor
