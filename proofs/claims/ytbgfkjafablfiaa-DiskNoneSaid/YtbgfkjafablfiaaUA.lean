/-
  Runes byte by byte: how many bytes the rune has with which a text begins, and what the model's own decoder makes of it; no program is walked here.
-/
import Derived.Test.YtbgfkjafablfiaaStr
import Derived.Laws.RangeAny
namespace Go.Proofs.Ytbgfkjafablfiaa

/-- Byte k of a text, nought behind its end. -/
def byteN (l : List UInt8) (k : Nat) : Nat := (l.getD k 0).toNat
/-- Is there a byte at a place, from lo to hi? -/
def inB (l : List UInt8) (k lo hi : Nat) : Prop := k < l.length ∧ lo ≤ byteN l k ∧ byteN l k ≤ hi
instance (l : List UInt8) (k lo hi : Nat) : Decidable (inB l k lo hi) := by unfold inB; exact inferInstance
/-- How many bytes the rune has with which a text begins; 0: none does. -/
def sizeL (l : List UInt8) : Nat :=
  if inB l 0 0 127 then 1
  else if inB l 0 194 223 ∧ inB l 1 128 191 then 2
  else if (inB l 1 128 191 ∧ inB l 2 128 191) ∧ ((inB l 0 224 224 ∧ inB l 1 160 191) ∨ inB l 0 225 236 ∨ (inB l 0 237 237 ∧ inB l 1 128 159) ∨ inB l 0 238 239) then 3
  else if (inB l 1 128 191 ∧ inB l 2 128 191 ∧ inB l 3 128 191) ∧ ((inB l 0 240 240 ∧ inB l 1 144 191) ∨ inB l 0 241 243 ∨ (inB l 0 244 244 ∧ inB l 1 128 143)) then 4
  else 0
theorem byteN_lt (l : List UInt8) (k : Nat) : byteN l k < 256 := (l.getD k 0).toNat_lt
/-- The conditions, in numbers. -/
def Two (n b0 b1 : Nat) : Prop := 1 < n ∧ 194 ≤ b0 ∧ b0 ≤ 223 ∧ 128 ≤ b1 ∧ b1 ≤ 191
def Three (n b0 b1 b2 : Nat) : Prop := 2 < n ∧ (128 ≤ b1 ∧ b1 ≤ 191) ∧ (128 ≤ b2 ∧ b2 ≤ 191) ∧ ((b0 = 224 ∧ 160 ≤ b1) ∨ (225 ≤ b0 ∧ b0 ≤ 236) ∨ (b0 = 237 ∧ b1 ≤ 159) ∨ (238 ≤ b0 ∧ b0 ≤ 239))
def Four (n b0 b1 b2 b3 : Nat) : Prop := 3 < n ∧ (128 ≤ b1 ∧ b1 ≤ 191) ∧ (128 ≤ b2 ∧ b2 ≤ 191) ∧ (128 ≤ b3 ∧ b3 ≤ 191) ∧ ((b0 = 240 ∧ 144 ≤ b1) ∨ (241 ≤ b0 ∧ b0 ≤ 243) ∨ (b0 = 244 ∧ b1 ≤ 143))
theorem sizeL_spec (l : List UInt8) :
    (sizeL l = 1 ∧ 0 < l.length ∧ byteN l 0 ≤ 127) ∨ (sizeL l = 2 ∧ Two l.length (byteN l 0) (byteN l 1)) ∨ (sizeL l = 3 ∧ Three l.length (byteN l 0) (byteN l 1) (byteN l 2)) ∨
    (sizeL l = 4 ∧ Four l.length (byteN l 0) (byteN l 1) (byteN l 2) (byteN l 3)) ∨
    (sizeL l = 0 ∧ ¬ (0 < l.length ∧ byteN l 0 ≤ 127) ∧ ¬ Two l.length (byteN l 0) (byteN l 1) ∧ ¬ Three l.length (byteN l 0) (byteN l 1) (byteN l 2) ∧ ¬ Four l.length (byteN l 0) (byteN l 1) (byteN l 2) (byteN l 3)) := by
  unfold sizeL Two Three Four
  by_cases h1 : inB l 0 0 127
  · rw [if_pos h1]; left; exact ⟨rfl, h1.1, h1.2.2⟩
  · rw [if_neg h1]
    by_cases h2 : inB l 0 194 223 ∧ inB l 1 128 191
    · rw [if_pos h2]; right; left; exact ⟨rfl, h2.2.1, h2.1.2.1, h2.1.2.2, h2.2.2⟩
    · rw [if_neg h2]
      by_cases h3 : (inB l 1 128 191 ∧ inB l 2 128 191) ∧ ((inB l 0 224 224 ∧ inB l 1 160 191) ∨ inB l 0 225 236 ∨ (inB l 0 237 237 ∧ inB l 1 128 159) ∨ inB l 0 238 239)
      · rw [if_pos h3]; right; right; left
        refine ⟨rfl, h3.1.2.1, h3.1.1.2, h3.1.2.2, ?_⟩
        unfold inB at h3; omega
      · rw [if_neg h3]
        by_cases h4 : (inB l 1 128 191 ∧ inB l 2 128 191 ∧ inB l 3 128 191) ∧ ((inB l 0 240 240 ∧ inB l 1 144 191) ∨ inB l 0 241 243 ∨ (inB l 0 244 244 ∧ inB l 1 128 143))
        · rw [if_pos h4]; right; right; right; left
          refine ⟨rfl, h4.1.2.2.1, h4.1.1.2, h4.1.2.1.2, h4.1.2.2.2, ?_⟩
          unfold inB at h4; omega
        · rw [if_neg h4]; right; right; right; right
          unfold inB at h1 h2 h3 h4
          refine ⟨rfl, ?_, ?_, ?_, ?_⟩ <;> omega
theorem sizeL_nil : sizeL [] = 0 := by
  rcases sizeL_spec [] with ⟨_, h, _⟩ | ⟨_, h, _⟩ | ⟨_, h, _⟩ | ⟨_, h, _⟩ | ⟨h, _⟩
  · simp at h
  · simp at h
  · simp at h
  · simp at h
  · exact h
theorem sizeL_le4 (l : List UInt8) : sizeL l ≤ 4 := by
  rcases sizeL_spec l with ⟨h, _⟩ | ⟨h, _⟩ | ⟨h, _⟩ | ⟨h, _⟩ | ⟨h, _⟩ <;> omega
theorem sizeL_le (l : List UInt8) : sizeL l ≤ l.length := by
  rcases sizeL_spec l with ⟨h, k, _⟩ | ⟨h, k, _⟩ | ⟨h, k, _⟩ | ⟨h, k, _⟩ | ⟨h, _⟩ <;> omega
/-- A text that agrees with another one in the bytes of its first rune begins with a rune of as many bytes. -/
theorem sizeL_same (l m : List UInt8) (k : Nat) (hk : sizeL l = k) (h0 : 0 < k) (hl : k ≤ m.length) (hb : ∀ j, j < k → byteN m j = byteN l j) : sizeL m = k := by
  have e0 := hb 0 h0
  rcases sizeL_spec l with ⟨h, d⟩ | ⟨h, d⟩ | ⟨h, d⟩ | ⟨h, d⟩ | ⟨h, _⟩
  · obtain rfl : k = 1 := by omega
    rcases sizeL_spec m with ⟨g, c⟩ | ⟨g, c⟩ | ⟨g, c⟩ | ⟨g, c⟩ | ⟨g, c, _⟩
    · exact g
    all_goals (simp only [Two, Three, Four] at *; omega)
  · obtain rfl : k = 2 := by omega
    have e1 := hb 1 (by omega)
    rcases sizeL_spec m with ⟨g, c⟩ | ⟨g, c⟩ | ⟨g, c⟩ | ⟨g, c⟩ | ⟨g, _, c, _⟩
    · simp only [Two] at *; omega
    · exact g
    all_goals (simp only [Two, Three, Four] at *; omega)
  · obtain rfl : k = 3 := by omega
    have e1 := hb 1 (by omega)
    have e2 := hb 2 (by omega)
    rcases sizeL_spec m with ⟨g, c⟩ | ⟨g, c⟩ | ⟨g, c⟩ | ⟨g, c⟩ | ⟨g, _, _, c, _⟩
    · simp only [Three] at *; omega
    · simp only [Two, Three] at *; omega
    · exact g
    all_goals (simp only [Three, Four] at *; omega)
  · obtain rfl : k = 4 := by omega
    have e1 := hb 1 (by omega)
    have e2 := hb 2 (by omega)
    have e3 := hb 3 (by omega)
    rcases sizeL_spec m with ⟨g, c⟩ | ⟨g, c⟩ | ⟨g, c⟩ | ⟨g, c⟩ | ⟨g, _, _, _, c⟩
    · simp only [Four] at *; omega
    · simp only [Two, Four] at *; omega
    · simp only [Three, Four] at *; omega
    · exact g
    · simp only [Four] at *; omega
  · omega
theorem byteN_take (l : List UInt8) (k j : Nat) (h : j < k) : byteN (l.take k) j = byteN l j := by
  unfold byteN
  rw [List.getD_eq_getElem?_getD, List.getD_eq_getElem?_getD, List.getElem?_take_of_lt h]
theorem byteN_app (l m : List UInt8) (j : Nat) (h : j < l.length) : byteN (l ++ m) j = byteN l j := by
  unfold byteN
  rw [List.getD_eq_getElem?_getD, List.getD_eq_getElem?_getD, List.getElem?_append_left h]
theorem byteN_nil (k : Nat) : byteN [] k = 0 := by unfold byteN; simp
theorem byteN_out (l : List UInt8) (k : Nat) (h : l.length ≤ k) : byteN l k = 0 := by
  unfold byteN
  rw [List.getD_eq_getElem?_getD, List.getElem?_eq_none h]; rfl
theorem sizeL_take (l : List UInt8) (h : 0 < sizeL l) : sizeL (l.take (sizeL l)) = sizeL l :=
  sizeL_same l _ _ rfl h (by rw [List.length_take]; have := sizeL_le l; omega) (fun j hj => byteN_take l _ j hj)
theorem sizeL_app (p r : List UInt8) (h : 0 < sizeL p) : sizeL (p ++ r) = sizeL p :=
  sizeL_same p _ _ rfl h (by rw [List.length_append]; have := sizeL_le p; omega) (fun j hj => byteN_app p r j (by have := sizeL_le p; omega))

/-- What the model's decoder makes of four bytes of which n are there. -/
def runeN (n x0 x1 x2 x3 : Nat) : Nat × Nat :=
  if x0 < 128 then (x0, 1)
  else if (x0 / 32 == 6 && (decide (1 < n) && x1 / 64 == 2)) = true then
    if (x0 % 32) * 64 + x1 % 64 ≥ 128 then ((x0 % 32) * 64 + x1 % 64, 2) else (65533, 1)
  else if (x0 / 16 == 14 && (decide (1 < n) && x1 / 64 == 2) && (decide (2 < n) && x2 / 64 == 2)) = true then
    if (decide ((x0 % 16) * 4096 + (x1 % 64) * 64 + x2 % 64 ≥ 2048) && Utf8.valid (((x0 % 16) * 4096 + (x1 % 64) * 64 + x2 % 64 : Nat) : Int)) = true then ((x0 % 16) * 4096 + (x1 % 64) * 64 + x2 % 64, 3) else (65533, 1)
  else if (x0 / 8 == 30 && (decide (1 < n) && x1 / 64 == 2) && (decide (2 < n) && x2 / 64 == 2) && (decide (3 < n) && x3 / 64 == 2)) = true then
    if (decide ((x0 % 8) * 262144 + (x1 % 64) * 4096 + (x2 % 64) * 64 + x3 % 64 ≥ 65536) && Utf8.valid (((x0 % 8) * 262144 + (x1 % 64) * 4096 + (x2 % 64) * 64 + x3 % 64 : Nat) : Int)) = true then ((x0 % 8) * 262144 + (x1 % 64) * 4096 + (x2 % 64) * 64 + x3 % 64, 4) else (65533, 1)
  else (65533, 1)
def runeL (l : List UInt8) : Nat × Nat := runeN l.length (byteN l 0) (byteN l 1) (byteN l 2) (byteN l 3)
theorem valid_iff (c : Nat) : Utf8.valid (c : Int) = decide (c < 55296 ∨ (57344 ≤ c ∧ c ≤ 1114111)) := by
  unfold Utf8.valid
  by_cases h1 : c < 55296
  · have : (0 : Int) ≤ c ∧ (c : Int) < 55296 := by omega
    simp [h1, this]
  · by_cases h2 : 57344 ≤ c ∧ c ≤ 1114111
    · have : (57344 : Int) ≤ c ∧ (c : Int) ≤ 1114111 := by omega
      simp [h2, this]
    · have g1 : ¬ (c : Int) < 55296 := by omega
      simp [h1, h2, g1]
      omega
theorem runeN_two {n x0 x1 x2 x3 : Nat} (h : Two n x0 x1) : runeN n x0 x1 x2 x3 = ((x0 - 192) * 64 + (x1 - 128), 2) := by
  unfold Two at h
  unfold runeN
  rw [if_neg (by omega), if_pos (by simp only [Bool.and_eq_true, beq_iff_eq, decide_eq_true_eq]; omega), if_pos (by omega)]
  exact Prod.ext (by simp only; omega) rfl
theorem runeN_three {n x0 x1 x2 x3 : Nat} (h : Three n x0 x1 x2) : runeN n x0 x1 x2 x3 = ((x0 - 224) * 4096 + (x1 - 128) * 64 + (x2 - 128), 3) := by
  unfold Three at h
  have e : (x0 % 16) * 4096 + (x1 % 64) * 64 + x2 % 64 = (x0 - 224) * 4096 + (x1 - 128) * 64 + (x2 - 128) := by omega
  unfold runeN
  rw [if_neg (by omega), if_neg (by simp only [Bool.and_eq_true, beq_iff_eq, decide_eq_true_eq]; omega), if_pos (by simp only [Bool.and_eq_true, beq_iff_eq, decide_eq_true_eq]; omega), e,
    if_pos (by simp only [valid_iff, Bool.and_eq_true, decide_eq_true_eq]; omega)]
theorem runeN_four {n x0 x1 x2 x3 : Nat} (h : Four n x0 x1 x2 x3) : runeN n x0 x1 x2 x3 = ((x0 - 240) * 262144 + (x1 - 128) * 4096 + (x2 - 128) * 64 + (x3 - 128), 4) := by
  unfold Four at h
  have e : (x0 % 8) * 262144 + (x1 % 64) * 4096 + (x2 % 64) * 64 + x3 % 64 = (x0 - 240) * 262144 + (x1 - 128) * 4096 + (x2 - 128) * 64 + (x3 - 128) := by omega
  unfold runeN
  rw [if_neg (by omega), if_neg (by simp only [Bool.and_eq_true, beq_iff_eq, decide_eq_true_eq]; omega), if_neg (by simp only [Bool.and_eq_true, beq_iff_eq, decide_eq_true_eq]; omega),
    if_pos (by simp only [Bool.and_eq_true, beq_iff_eq, decide_eq_true_eq]; omega), e, if_pos (by simp only [valid_iff, Bool.and_eq_true, decide_eq_true_eq]; omega)]
theorem runeN_none {n x0 x1 x2 x3 : Nat} (b0 : x0 < 256) (b1 : x1 < 256) (b2 : x2 < 256) (b3 : x3 < 256) (h1 : 128 ≤ x0) (h2 : ¬ Two n x0 x1) (h3 : ¬ Three n x0 x1 x2) (h4 : ¬ Four n x0 x1 x2 x3) : runeN n x0 x1 x2 x3 = (65533, 1) := by
  unfold Two at h2
  unfold Three at h3
  unfold Four at h4
  unfold runeN
  rw [if_neg (by omega)]
  by_cases c2 : (x0 / 32 == 6 && (decide (1 < n) && x1 / 64 == 2)) = true
  · rw [if_pos c2]
    simp only [Bool.and_eq_true, beq_iff_eq, decide_eq_true_eq] at c2
    rw [if_neg (by omega)]
  · rw [if_neg c2]
    by_cases c3 : (x0 / 16 == 14 && (decide (1 < n) && x1 / 64 == 2) && (decide (2 < n) && x2 / 64 == 2)) = true
    · rw [if_pos c3]
      simp only [Bool.and_eq_true, beq_iff_eq, decide_eq_true_eq] at c3
      rw [if_neg (by simp only [valid_iff, Bool.and_eq_true, decide_eq_true_eq]; omega)]
    · rw [if_neg c3]
      by_cases c4 : (x0 / 8 == 30 && (decide (1 < n) && x1 / 64 == 2) && (decide (2 < n) && x2 / 64 == 2) && (decide (3 < n) && x3 / 64 == 2)) = true
      · rw [if_pos c4]
        simp only [Bool.and_eq_true, beq_iff_eq, decide_eq_true_eq] at c4
        rw [if_neg (by simp only [valid_iff, Bool.and_eq_true, decide_eq_true_eq]; omega)]
      · rw [if_neg c4]
theorem get_byteN (s : ByteArray) (pos k : Nat) : (s.get! (pos + k)).toNat = byteN ((bl s).drop pos) k := by
  unfold byteN
  rw [List.getD_eq_getElem?_getD, List.getElem?_drop, bl_eq]
  show (s.data[pos + k]!).toNat = _
  rw [getElem!_def]
  simp only [Array.getElem?_toList]
  cases s.data[pos + k]? <;> rfl
theorem decode_runeL (s : ByteArray) (pos : Nat) : Utf8.decode s pos = runeL ((bl s).drop pos) := by
  have hc : ∀ k, decide (pos + k < s.size) = decide (k < ((bl s).drop pos).length) := fun k => by
    rw [List.length_drop, bl_length]
    by_cases h : pos + k < s.size
    · rw [decide_eq_true h, decide_eq_true (by omega)]
    · rw [decide_eq_false h, decide_eq_false (by omega)]
  unfold Utf8.decode runeL runeN
  simp only [get_byteN, hc, Utf8.runeError]
/-- The rune of a text's beginning, by its bytes. -/
def codeL (l : List UInt8) : Nat :=
  if sizeL l = 1 then byteN l 0
  else if sizeL l = 2 then (byteN l 0 - 192) * 64 + (byteN l 1 - 128)
  else if sizeL l = 3 then (byteN l 0 - 224) * 4096 + (byteN l 1 - 128) * 64 + (byteN l 2 - 128)
  else (byteN l 0 - 240) * 262144 + (byteN l 1 - 128) * 4096 + (byteN l 2 - 128) * 64 + (byteN l 3 - 128)
/-- The model's decoder tells the rune that the bytes make, or 65533 of one byte. -/
theorem runeL_eq (l : List UInt8) (h : l ≠ []) : runeL l = if sizeL l = 0 then (65533, 1) else (codeL l, sizeL l) := by
  have hl : 0 < l.length := List.length_pos_iff.2 h
  unfold runeL
  rcases sizeL_spec l with ⟨g, c⟩ | ⟨g, c⟩ | ⟨g, c⟩ | ⟨g, c⟩ | ⟨g, c0, c2, c3, c4⟩
  · rw [if_neg (by omega)]
    unfold codeL runeN
    rw [if_pos (by omega), if_pos g, g]
  · rw [if_neg (by omega), runeN_two c]
    unfold codeL
    rw [if_neg (by omega), if_pos g, g]
  · rw [if_neg (by omega), runeN_three c]
    unfold codeL
    rw [if_neg (by omega), if_neg (by omega), if_pos g, g]
  · rw [if_neg (by omega), runeN_four c]
    unfold codeL
    rw [if_neg (by omega), if_neg (by omega), if_neg (by omega), g]
  · rw [if_pos g]
    exact runeN_none (byteN_lt l 0) (byteN_lt l 1) (byteN_lt l 2) (byteN_lt l 3) (by omega) c2 c3 c4
end Go.Proofs.Ytbgfkjafablfiaa
