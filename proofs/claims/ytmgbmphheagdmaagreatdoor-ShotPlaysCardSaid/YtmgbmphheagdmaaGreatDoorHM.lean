/-
  Plain mathematics: the long division over a row of bits leaves what the register leaves.
-/
import Derived.Test.YtmgbmphheagdmaaGreatDoorHD
import Derived.Test.YtmgbmphheagdmaaGreatDoorOF
namespace Go.Proofs.YtmgbmphheagdmaaGreatDoor

/-- Thirty-two bits of a row from a place on, the first as the lowest. -/
def win (L : List Bool) (k : Nat) : BitVec 32 := (BitVec.ofBoolListLE ((List.range 32).map fun j => L.getD (k + j) false)).setWidth 32
theorem win_bit (L : List Bool) (k i : Nat) (hi : i < 32) : (win L k).getLsbD i = L.getD (k + i) false := by
  unfold win
  rw [BitVec.getLsbD_setWidth, BitVec.getLsbD_ofBoolListLE]
  simp [hi]

/-- Which places the first q flips at place i turn. -/
def hit (i x : Nat) : Nat → Bool
  | 0 => false
  | q + 1 => (hit i x q ^^ decide (i + 32 - pw q = x))
theorem getD_set (l : List Bool) (i x : Nat) (v : Bool) (hx : x < l.length) : (l.set i v).getD x false = if i = x then v else l.getD x false := by
  rw [List.getD_eq_getElem?_getD, List.getElem?_set, List.getD_eq_getElem?_getD]
  by_cases h : i = x
  · subst h; simp [hx]
  · simp [h]
theorem flipQ_getD (l : List Bool) (i q x : Nat) (hx : x < l.length) : (flipQ l i q).getD x false = (l.getD x false ^^ hit i x q) := by
  induction q with
  | zero => simp [flipQ, hit]
  | succ q ih =>
    rw [flipQ, getD_set _ _ _ _ (by rw [flipQ_length]; exact hx), hit]
    by_cases h : i + 32 - pw q = x
    · rw [if_pos h, h, ih]; simp
    · rw [if_neg h, ih]; simp [h]
theorem hit_far (i x q : Nat) (hx : i + 33 ≤ x) : hit i x q = false := by
  induction q with
  | zero => rfl
  | succ q ih => rw [hit, ih]; simp; omega
theorem hit_shift (i j q : Nat) : hit i (i + 1 + j) q = hit 0 (1 + j) q := by
  induction q with
  | zero => rfl
  | succ q ih =>
    rw [hit, hit, ih]
    congr 1
    have := pw_le q
    rw [decide_eq_decide]; omega
theorem hit_poly : ∀ j, j < 32 → hit 0 (1 + j) 14 = (0xEDB88320#32).getLsbD j := by
  have hp : ∀ q, pw q = powersL.getD q 0 := by intro q; unfold pw; rfl
  simp only [hit, hp]
  decide +kernel

theorem stepsL_far (L : List Bool) (k x : Nat) (hx : x < L.length) (hk : k + 32 ≤ x) : (stepsL L k).getD x false = L.getD x false := by
  induction k with
  | zero => rfl
  | succ k ih =>
    rw [stepsL]
    split
    · rw [flipQ_getD _ _ _ _ (by rw [stepsL_length]; exact hx), hit_far _ _ _ (by omega), ih (by omega), Bool.xor_false]
    · exact ih (by omega)

def last (b : Bool) : BitVec 32 := if b then BitVec.twoPow 32 31 else 0#32
theorem last_bit (b : Bool) (i : Nat) : (last b).getLsbD i = (b && decide (i = 31)) := by
  unfold last
  cases b
  · simp
  · rw [if_pos rfl, BitVec.getLsbD_twoPow]; simp [eq_comm]
theorem S1_bit (r : BitVec 32) (i : Nat) : (S1 r).getLsbD i = (r.getLsbD (i + 1) ^^ (r.getLsbD 0 && (0xEDB88320#32).getLsbD i)) := by
  rw [S1_if, BitVec.getLsbD_xor, BitVec.getLsbD_ushiftRight, Nat.add_comm]
  congr 1
  cases r.getLsbD 0 <;> simp

theorem win_step (L : List Bool) (k : Nat) (hk : k + 32 < L.length) : win (stepsL L (k + 1)) (k + 1) = S1 (win (stepsL L k) k) ^^^ last (L.getD (k + 32) false) := by
  apply BitVec.eq_of_getLsbD_eq
  intro i hi
  rw [win_bit _ _ _ hi, BitVec.getLsbD_xor, S1_bit, last_bit, win_bit _ _ 0 (by omega), Nat.add_zero]
  have hR : (stepsL L (k + 1)).getD (k + 1 + i) false = ((stepsL L k).getD (k + 1 + i) false ^^ ((stepsL L k).getD k false && (0xEDB88320#32).getLsbD i)) := by
    rw [stepsL]
    cases hb : (stepsL L k).getD k false
    · simp
    · rw [if_pos rfl, flipQ_getD _ _ _ _ (by rw [stepsL_length]; omega), hit_shift, hit_poly _ hi, Bool.true_and]
  rw [hR]
  by_cases h31 : i = 31
  · subst h31
    rw [show k + 1 + 31 = k + 32 by omega, stepsL_far L k (k + 32) hk (Nat.le_refl _)]
    have : (win (stepsL L k) k).getLsbD (31 + 1) = false := BitVec.getLsbD_of_ge _ _ (by omega)
    rw [this]
    simp [Bool.xor_comm]
  · rw [win_bit _ _ (i + 1) (by omega), show k + (i + 1) = k + 1 + i by omega]
    simp [h31]

/-- The register, bit by bit. -/
def one (b : Bool) : BitVec 32 := if b then 1#32 else 0#32
def zb (r : BitVec 32) (b : Bool) : BitVec 32 := S1 (r ^^^ one b)
def zf (r : BitVec 32) (bs : List Bool) : BitVec 32 := bs.foldl zb r
theorem zb_xor (r d : BitVec 32) (b : Bool) : zb (r ^^^ d) b = zb r b ^^^ S1 d := by
  unfold zb
  rw [← S1_xor, BitVec.xor_assoc, BitVec.xor_comm d, ← BitVec.xor_assoc]
theorem zf_xor (bs : List Bool) (r d : BitVec 32) : zf (r ^^^ d) bs = zf r bs ^^^ Sn bs.length d := by
  unfold zf
  induction bs generalizing r d with
  | nil => rfl
  | cons b bs ih =>
    rw [List.foldl_cons, List.foldl_cons, zb_xor, ih, List.length_cons, Sn_add]
    rfl
theorem zf_byte0 : ∀ c, c < 256 → zf 0#32 (byteBits (c : Nat)) = Sn 8 (BitVec.ofNat 32 c) := by decide +kernel
theorem zf_byte (r : BitVec 32) (c : Int) (h0 : 0 ≤ c) (h1 : c < 256) : zf r (byteBits c) = dvB r c := by
  obtain ⟨n, rfl⟩ := Int.eq_ofNat_of_zero_le h0
  have h := zf_xor (byteBits (n : Int)) 0#32 r
  rw [BitVec.zero_xor, zf_byte0 n (by omega), byteBits_length] at h
  rw [h]
  unfold dvB
  rw [Sn_xor, BitVec.xor_comm, BitVec.ofInt_natCast]
theorem zf_bits (l : List Int) (r : BitVec 32) (hby : ∀ c ∈ l, 0 ≤ c ∧ c < 256) : zf r (bitsL l) = foldB r l := by
  induction l generalizing r with
  | nil => rfl
  | cons c l ih =>
    have hc := hby c (by simp)
    have h := ih (dvB r c) (fun x hx => hby x (by simp [hx]))
    unfold bitsL zf at *
    rw [List.flatMap_cons, List.foldl_append]
    have hb := zf_byte r c hc.1 hc.2
    unfold zf at hb
    rw [hb, h]
    rfl

theorem win_next (X : List Bool) (k : Nat) : S1 (win X k) ^^^ last (X.getD (k + 32) false) = S1 (one (X.getD k false)) ^^^ win X (k + 1) := by
  apply BitVec.eq_of_getLsbD_eq
  intro i hi
  rw [BitVec.getLsbD_xor, BitVec.getLsbD_xor, S1_bit, S1_bit, last_bit, win_bit _ _ 0 (by omega), Nat.add_zero, win_bit _ _ i hi]
  have h1 : ∀ b, (one b).getLsbD (i + 1) = false := by intro b; unfold one; cases b <;> simp [BitVec.getLsbD_one]
  have h2 : ∀ b, (one b).getLsbD 0 = b := by intro b; unfold one; cases b <;> simp
  rw [h1, h2]
  by_cases h31 : i = 31
  · subst h31
    rw [BitVec.getLsbD_of_ge _ _ (by omega : 32 ≤ 31 + 1), show k + 1 + 31 = k + 32 by omega]
    simp
  · rw [win_bit _ _ (i + 1) (by omega), show k + (i + 1) = k + 1 + i by omega]
    simp [h31, Bool.xor_comm]

theorem hdL_getD (X : List Bool) (s k x : Nat) (hx : x < X.length) : (hdL X s k).getD x false = (X.getD x false ^^ (decide (x < k) && decide (s / 2 ^ x % 2 = 0))) := by
  induction k with
  | zero => simp [hdL]
  | succ k ih =>
    rw [hdL]
    by_cases h : s / 2 ^ k % 2 = 0
    · rw [if_pos h, getD_set _ _ _ _ (by rw [hdL_length]; exact hx)]
      by_cases hk : k = x
      · subst hk
        rw [if_pos rfl, ih]
        simp [h]
      · rw [if_neg hk, ih]
        have : decide (x < k) = decide (x < k + 1) := by rw [decide_eq_decide]; omega
        rw [this]
    · rw [if_neg h, ih]
      by_cases hk : k = x
      · subst hk; simp [h]
      · have : decide (x < k) = decide (x < k + 1) := by rw [decide_eq_decide]; omega
        rw [this]

theorem win_head (X : List Bool) (s : Nat) (hX : 32 ≤ X.length) : win (hdL X s 32) 0 = ~~~ (BitVec.ofNat 32 s) ^^^ win X 0 := by
  apply BitVec.eq_of_getLsbD_eq
  intro i hi
  rw [BitVec.getLsbD_xor, win_bit _ _ _ hi, win_bit _ _ _ hi, Nat.zero_add, hdL_getD _ _ _ _ (by omega), BitVec.getLsbD_not, BitVec.getLsbD_ofNat, Nat.testBit_eq_decide_div_mod_eq, Bool.xor_comm]
  congr 1
  simp only [hi, decide_true, Bool.true_and]
  rcases Nat.mod_two_eq_zero_or_one (s / 2 ^ i) with h | h <;> rw [h] <;> rfl

theorem run_win (bs : List Bool) (s : Nat) (k : Nat) (hk : k ≤ bs.length) :
    win (stepsL (hdL (bs ++ List.replicate 32 false) s 32) k) k = zf (~~~ (BitVec.ofNat 32 s)) (bs.take k) ^^^ win (bs ++ List.replicate 32 false) k := by
  obtain ⟨X, hX⟩ : ∃ X, bs ++ List.replicate 32 false = X := ⟨_, rfl⟩
  have hl : X.length = bs.length + 32 := by rw [← hX]; simp
  rw [hX]
  induction k with
  | zero => rw [List.take_zero]; exact win_head X s (by omega)
  | succ k ih =>
    have hb : X.getD k false = bs.getD k false := by
      rw [← hX, List.getD_eq_getElem?_getD, List.getElem?_append_left (by omega), ← List.getD_eq_getElem?_getD]
    rw [win_step _ _ (by rw [hdL_length]; omega), ih (by omega), hdL_getD _ _ _ _ (by omega), S1_xor, BitVec.xor_assoc]
    have h32 : (X.getD (k + 32) false ^^ (decide (k + 32 < 32) && decide (s / 2 ^ (k + 32) % 2 = 0))) = X.getD (k + 32) false := by
      have : decide (k + 32 < 32) = false := by simp
      rw [this]; simp
    rw [h32, win_next, ← BitVec.xor_assoc, ← S1_xor, hb]
    have ht : bs.take (k + 1) = bs.take k ++ [bs.getD k false] := by
      rw [List.take_succ_eq_append_getElem (by omega), List.getD_eq_getElem?_getD, List.getElem?_eq_getElem (by omega)]; rfl
    rw [ht]
    congr 1
    unfold zf
    rw [List.foldl_append]
    rfl

theorem win_zeros (bs : List Bool) : win (bs ++ List.replicate 32 false) bs.length = 0#32 := by
  apply BitVec.eq_of_getLsbD_eq
  intro i hi
  rw [win_bit _ _ _ hi, List.getD_eq_getElem?_getD, List.getElem?_append_right (by omega), Nat.add_sub_cancel_left, List.getElem?_replicate]
  simp [hi]

theorem outN_win (L : List Bool) (n : Nat) (hL : L.length = n + 32) (d : Nat) (hd : d ≤ 32) : outN L d = (~~~ win L n).toNat / 2 ^ (32 - d) := by
  induction d with
  | zero => rw [outN, Nat.div_eq_of_lt (by have := (~~~ win L n).isLt; simpa using this)]
  | succ d ih =>
    have hb : (if L.getD (L.length - 32 + (31 - d)) false then 0 else 1) = (~~~ win L n).toNat / 2 ^ (31 - d) % 2 := by
      have h : (~~~ win L n).getLsbD (31 - d) = !L.getD (n + (31 - d)) false := by
        rw [BitVec.getLsbD_not, win_bit _ _ _ (by omega)]
        simp; omega
      rw [← BitVec.testBit_toNat, Nat.testBit_eq_decide_div_mod_eq] at h
      rw [hL, Nat.add_sub_cancel]
      cases hc : L.getD (n + (31 - d)) false
      · rw [hc] at h; have h' := of_decide_eq_true h; rw [h']; rfl
      · rw [hc] at h
        have h' := of_decide_eq_false h
        have : (~~~ win L n).toNat / 2 ^ (31 - d) % 2 = 0 := by omega
        rw [this]; rfl
    rw [outN, ih (by omega), hb, show 32 - (d + 1) = 31 - d by omega, show 32 - d = (31 - d) + 1 by omega, Nat.pow_succ, ← Nat.div_div_eq_div_mul]
    omega

theorem long_is (s : Nat) (l : List Int) (hby : ∀ c ∈ l, 0 ≤ c ∧ c < 256) : ((longI s l : Nat) : Int) = moreI (s : Int) l := by
  unfold longI moreI
  have hn := bitsL_length l
  rw [← hn, outN_win _ (bitsL l).length (by rw [stepsL_length, hdL_length]; simp) 32 (Nat.le_refl _), run_win _ _ _ (Nat.le_refl _), win_zeros, BitVec.xor_zero, List.take_length, zf_bits _ _ hby]
  rw [BitVec.ofInt_natCast]
  simp
end Go.Proofs.YtmgbmphheagdmaaGreatDoor
