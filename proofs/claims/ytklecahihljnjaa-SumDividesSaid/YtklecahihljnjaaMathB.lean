/-
  Plain mathematics of the checksum: the division is linear and loses nothing; what a turned bit adds.
-/
import Derived.Test.YtklecahihljnjaaTurn
namespace Go.Proofs.Ytklecahihljnjaa

theorem S1_if (r : BitVec 32) : S1 r = (r >>> 1) ^^^ (if r.getLsbD 0 then 0xEDB88320#32 else 0#32) := by
  unfold S1
  congr 1
  have h : r &&& 1#32 = if r.getLsbD 0 then 1#32 else 0#32 := by
    apply BitVec.eq_of_getLsbD_eq
    intro i hi
    by_cases h0 : i = 0
    · subst h0
      rw [BitVec.getLsbD_and]
      cases h : r.getLsbD 0 <;> simp
    · have : (1#32).getLsbD i = false := by
        rw [BitVec.getLsbD_one]; simp [h0]
      rw [BitVec.getLsbD_and, this]
      split <;> simp [BitVec.getLsbD_one, h0]
  rw [h]
  split <;> rfl

theorem xor_swap (a b c d : BitVec 32) : (a ^^^ b) ^^^ (c ^^^ d) = (a ^^^ c) ^^^ (b ^^^ d) := by
  rw [BitVec.xor_assoc, BitVec.xor_assoc, ← BitVec.xor_assoc b c d, BitVec.xor_comm b c, BitVec.xor_assoc]
theorem S1_xor (a b : BitVec 32) : S1 (a ^^^ b) = S1 a ^^^ S1 b := by
  rw [S1_if, S1_if, S1_if, BitVec.ushiftRight_xor_distrib, BitVec.getLsbD_xor, xor_swap]
  congr 1
  cases a.getLsbD 0 <;> cases b.getLsbD 0 <;> simp

theorem S1_zero : S1 0#32 = 0#32 := by decide

theorem S1_inj0 (x : BitVec 32) (h : S1 x = 0#32) : x = 0#32 := by
  rw [S1_if] at h
  have h31 : (x >>> 1).getLsbD 31 = false := by simp
  have := congrArg (fun v => v.getLsbD 31) h
  simp only [BitVec.getLsbD_xor, h31] at this
  by_cases h0 : x.getLsbD 0 = true
  · rw [if_pos h0] at this; simp at this
  · rw [if_neg h0] at h
    have h' : x >>> 1 = 0#32 := by simpa using h
    apply BitVec.eq_of_getLsbD_eq
    intro i hi
    rcases Nat.eq_zero_or_pos i with rfl | hp
    · simpa using h0
    · have := congrArg (fun v => v.getLsbD (i - 1)) h'
      simp only [BitVec.getLsbD_ushiftRight] at this
      rw [show 1 + (i - 1) = i by omega] at this
      simpa using this

theorem Sn_xor (n : Nat) (a b : BitVec 32) : Sn n (a ^^^ b) = Sn n a ^^^ Sn n b := by
  induction n with
  | zero => rfl
  | succ n ih => simp only [Sn, ih, S1_xor]
theorem Sn_zero (n : Nat) : Sn n 0#32 = 0#32 := by
  induction n with
  | zero => rfl
  | succ n ih => simp only [Sn, ih, S1_zero]
theorem Sn_inj0 (n : Nat) (x : BitVec 32) (h : Sn n x = 0#32) : x = 0#32 := by
  induction n with
  | zero => exact h
  | succ n ih => exact ih (S1_inj0 _ h)
theorem Sn_add (a b : Nat) (x : BitVec 32) : Sn (a + b) x = Sn a (Sn b x) := by
  induction a with
  | zero => rw [Nat.zero_add]; rfl
  | succ a ih => rw [Nat.succ_add]; simp only [Sn, ih]
theorem Sn_pow : ∀ k, k < 32 → Sn k (BitVec.ofNat 32 (2 ^ k)) = 1#32 := by decide +kernel

theorem dvB_xor (r d : BitVec 32) (c : Int) : dvB (r ^^^ d) c = dvB r c ^^^ Sn 8 d := by
  unfold dvB
  rw [BitVec.xor_assoc, BitVec.xor_comm d, ← BitVec.xor_assoc, Sn_xor]
theorem foldB_xor (l : List Int) (r d : BitVec 32) : foldB (r ^^^ d) l = foldB r l ^^^ Sn (8 * l.length) d := by
  unfold foldB
  induction l generalizing r d with
  | nil => rfl
  | cons c l ih =>
    simp only [List.foldl_cons, List.length_cons]
    rw [dvB_xor, ih, show 8 * (l.length + 1) = 8 * l.length + 8 by omega, Sn_add]

/-- One byte is another one. -/
theorem foldB_set (l : List Int) (i : Nat) (v : Int) (e : BitVec 32) (r : BitVec 32) (hi : i < l.length) (hv : BitVec.ofInt 32 v = BitVec.ofInt 32 (l.getD i 0) ^^^ e) :
    foldB r (l.set i v) = foldB r l ^^^ Sn (8 * (l.length - i)) e := by
  induction l generalizing i r with
  | nil => simp at hi
  | cons c l ih =>
    cases i with
    | zero =>
      have h : foldB r ((c :: l).set 0 v) = foldB (dvB r c ^^^ Sn 8 e) l := by
        have hv' : BitVec.ofInt 32 v = BitVec.ofInt 32 c ^^^ e := by simpa using hv
        show foldB (dvB r v) l = _
        congr 1
        unfold dvB
        rw [hv', ← BitVec.xor_assoc, Sn_xor]
      rw [h, foldB_xor, ← Sn_add]
      rfl
    | succ i =>
      have := ih i (dvB r c) (by simpa using hi) (by simpa using hv)
      simp only [List.length_cons]
      rw [show l.length + 1 - (i + 1) = l.length - i by omega]
      exact this

theorem xor8_b32 (a b : Int) (h0 : 0 ≤ a) (h1 : a < 256) (h2 : 0 ≤ b) (h3 : b < 256) :
    BitVec.ofInt 32 (bits BinOp.xor IntKind.u8 a b) = BitVec.ofInt 32 a ^^^ BitVec.ofInt 32 b ∧ 0 ≤ bits BinOp.xor IntKind.u8 a b ∧ bits BinOp.xor IntKind.u8 a b < 256 := by
  obtain ⟨n, rfl⟩ := Int.eq_ofNat_of_zero_le h0
  obtain ⟨m, rfl⟩ := Int.eq_ofNat_of_zero_le h2
  rw [u8_xor_nat n m (by omega) (by omega)]
  have hx : n ^^^ m < 2 ^ 8 := Nat.xor_lt_two_pow (by omega) (by omega)
  refine ⟨?_, by omega, by omega⟩
  apply BitVec.eq_of_toNat_eq
  rw [BitVec.toNat_xor, ofInt_u32 _ (by omega), ofInt_u32 _ (by omega), ofInt_u32 _ (by omega)]

/-- The bits of the pattern that have been turned so far. -/
def accB (m p : Nat) : Nat → BitVec 32
  | 0 => 0#32
  | k + 1 => if p / 2 ^ k % 2 = 1 ∧ k < m then accB m p k ^^^ BitVec.ofNat 32 (2 ^ k) else accB m p k

theorem accB_low (m p : Nat) (hp : p % 2 = 1) (hm : 0 < m) (k : Nat) (hk : k < 32) : (accB m p (k + 1)).getLsbD 0 = true := by
  induction k with
  | zero =>
    rw [accB, if_pos ⟨by simpa using hp, hm⟩]
    simp [accB]
  | succ k ih =>
    have h := ih (by omega)
    rw [accB]
    split
    · rw [BitVec.getLsbD_xor, h]
      have : (BitVec.ofNat 32 (2 ^ (k + 1))).getLsbD 0 = false := by
        rw [BitVec.getLsbD_ofNat, Nat.testBit_two_pow_of_ne (by omega)]
        simp
      rw [this]; rfl
    · exact h

theorem fold_turn (r : BitVec 32) (l : List Int) (at_ p : Nat) (hby : ∀ c ∈ l, 0 ≤ c ∧ c < 256) (k : Nat) (hk : k ≤ 32) :
    foldB r (turnL l at_ p k) = foldB r l ^^^ Sn (8 * l.length - at_) (accB (8 * l.length - at_) p k) ∧ ∀ c ∈ turnL l at_ p k, 0 ≤ c ∧ c < 256 := by
  induction k with
  | zero => rw [turnL, accB, Sn_zero, BitVec.xor_zero]; exact ⟨rfl, hby⟩
  | succ k ih =>
    obtain ⟨ih1, ih2⟩ := ih (by omega)
    by_cases h : p / 2 ^ k % 2 = 1 ∧ at_ + k < 8 * l.length
    · rw [turnL, if_pos h, accB, if_pos ⟨h.1, by omega⟩]
      have hlen := turnL_length l at_ p k
      have hi : (at_ + k) / 8 < (turnL l at_ p k).length := by rw [hlen]; omega
      have hmem : (turnL l at_ p k).getD ((at_ + k) / 8) 0 ∈ turnL l at_ p k := by
        rw [List.getD_eq_getElem?_getD, List.getElem?_eq_getElem hi]; simp
      obtain ⟨c0, c1⟩ := ih2 _ hmem
      have hj : (at_ + k) % 8 < 8 := Nat.mod_lt _ (by omega)
      have hpow : 2 ^ ((at_ + k) % 8) < 2 ^ 8 := Nat.pow_lt_pow_right (by omega) hj
      have hcast : ((2 : Int) ^ ((at_ + k) % 8) % 256) = ((2 ^ ((at_ + k) % 8) : Nat) : Int) := by
        have : ((2 : Int) ^ ((at_ + k) % 8)) = ((2 ^ ((at_ + k) % 8) : Nat) : Int) := by simp
        rw [this]
        generalize 2 ^ ((at_ + k) % 8) = N at hpow
        omega
      rw [hcast]
      obtain ⟨x1, x2, x3⟩ := xor8_b32 ((turnL l at_ p k).getD ((at_ + k) / 8) 0) ((2 ^ ((at_ + k) % 8) : Nat) : Int) c0 c1 (by omega) (by omega)
      refine ⟨?_, ?_⟩
      · rw [foldB_set _ _ _ (BitVec.ofNat 32 (2 ^ ((at_ + k) % 8))) r hi (by rw [x1, BitVec.ofInt_natCast]), ih1, BitVec.xor_assoc, hlen]
        congr 1
        rw [Sn_xor]
        congr 1
        rw [show 8 * (l.length - (at_ + k) / 8) = (8 * l.length - at_ - k) + (at_ + k) % 8 by omega, Sn_add, Sn_pow _ (by omega), ← Sn_pow k (by omega), ← Sn_add]
        congr 1
        omega
      · intro c hc
        rcases List.mem_or_eq_of_mem_set hc with hc | rfl
        · exact ih2 c hc
        · exact ⟨x2, x3⟩
    · rw [turnL, if_neg h, accB, if_neg (fun h' => h ⟨h'.1, by omega⟩)]
      exact ⟨ih1, ih2⟩

theorem moreI_eq (s : Int) (l m : List Int) (h : moreI s l = moreI s m) : foldB (~~~ (BitVec.ofInt 32 s)) l = foldB (~~~ (BitVec.ofInt 32 s)) m := by
  unfold moreI at h
  have h2 : ~~~ foldB (~~~ (BitVec.ofInt 32 s)) l = ~~~ foldB (~~~ (BitVec.ofInt 32 s)) m := BitVec.eq_of_toNat_eq (by omega)
  rw [← BitVec.not_not (b := foldB (~~~ (BitVec.ofInt 32 s)) l), h2, BitVec.not_not]
theorem xor_left0 {a b : BitVec 32} (h : a = a ^^^ b) : b = 0#32 := by
  have h4 := congrArg (fun v => a ^^^ v) h
  simp only [← BitVec.xor_assoc, BitVec.xor_self, BitVec.zero_xor] at h4
  exact h4.symm
theorem xor_eq0 {a b : BitVec 32} (h : a ^^^ b = 0#32) : a = b := by
  have h4 := congrArg (fun v => v ^^^ b) h
  simp only [BitVec.xor_assoc, BitVec.xor_self, BitVec.zero_xor, BitVec.xor_zero] at h4
  exact h4

/-- P1.2 in plain words: turned bits within 32 that follow one another make another sum. -/
theorem burst (s : Int) (l : List Int) (at_ p : Nat) (hby : ∀ c ∈ l, 0 ≤ c ∧ c < 256) (hat : at_ < 8 * l.length) (hp : p % 2 = 1) : moreI s (turnL l at_ p 32) ≠ moreI s l := by
  intro h
  have h1 := (fold_turn (~~~ (BitVec.ofInt 32 s)) l at_ p hby 32 (by omega)).1
  rw [moreI_eq s _ _ h] at h1
  have h5 := Sn_inj0 _ _ (xor_left0 h1)
  have h6 := accB_low (8 * l.length - at_) p hp (by omega) 31 (by omega)
  rw [h5] at h6
  simp at h6

/-- Two bytes side by side. -/
theorem swap_byte : ∀ e, e < 256 → Sn 8 (BitVec.ofNat 32 e) = BitVec.ofNat 32 e → e = 0 := by decide +kernel
theorem swap_key (r : BitVec 32) (l : List Int) (i : Nat) (e : BitVec 32) (hi : i + 1 < l.length) (h1 : BitVec.ofInt 32 (l.getD (i + 1) 0) = BitVec.ofInt 32 (l.getD i 0) ^^^ e)
    (h2 : BitVec.ofInt 32 (l.getD i 0) = BitVec.ofInt 32 (l.getD (i + 1) 0) ^^^ e) :
    foldB r ((l.set i (l.getD (i + 1) 0)).set (i + 1) (l.getD i 0)) = foldB r l ^^^ Sn (8 * (l.length - (i + 1))) (Sn 8 e ^^^ e) := by
  have h0 : (l.set i (l.getD (i + 1) 0)).getD (i + 1) 0 = l.getD (i + 1) 0 := by
    rw [List.getD_eq_getElem?_getD, List.getElem?_set_ne (by omega), ← List.getD_eq_getElem?_getD]
  rw [foldB_set (l.set i (l.getD (i + 1) 0)) (i + 1) (l.getD i 0) e r (by simpa using hi) (by rw [h0]; exact h2), foldB_set l i (l.getD (i + 1) 0) e r (by omega) h1]
  rw [BitVec.xor_assoc, List.length_set, Sn_xor, ← Sn_add]
  congr 3
  omega
theorem swapped (s : Int) (l : List Int) (i : Nat) (hby : ∀ c ∈ l, 0 ≤ c ∧ c < 256) (hi : i + 1 < l.length) :
    moreI s ((l.set i (l.getD (i + 1) 0)).set (i + 1) (l.getD i 0)) = moreI s l ↔ l.getD i 0 = l.getD (i + 1) 0 := by
  have hm : ∀ j, j < l.length → l.getD j 0 ∈ l := fun j hj => by rw [List.getD_eq_getElem?_getD, List.getElem?_eq_getElem hj]; simp
  obtain ⟨a0, a1⟩ := hby _ (hm i (by omega))
  obtain ⟨b0, b1⟩ := hby _ (hm (i + 1) hi)
  obtain ⟨x, hx⟩ := Int.eq_ofNat_of_zero_le a0
  obtain ⟨y, hy⟩ := Int.eq_ofNat_of_zero_le b0
  have hxy : x ^^^ y < 2 ^ 8 := Nat.xor_lt_two_pow (by omega) (by omega)
  have hX : ∀ z : Nat, z < 256 → BitVec.ofInt 32 (z : Int) = BitVec.ofNat 32 z := fun z _ => by rw [BitVec.ofInt_natCast]
  have hN : ∀ a b, BitVec.ofNat 32 a ^^^ BitVec.ofNat 32 b = BitVec.ofNat 32 (a ^^^ b) := fun a b => by rw [BitVec.ofNat_xor]
  have key := swap_key (~~~ (BitVec.ofInt 32 s)) l i (BitVec.ofNat 32 (x ^^^ y)) hi
    (by rw [hx, hy, hX _ (by omega), hX _ (by omega), hN, ← Nat.xor_assoc, Nat.xor_self, Nat.zero_xor])
    (by rw [hx, hy, hX _ (by omega), hX _ (by omega), hN, Nat.xor_comm x, ← Nat.xor_assoc, Nat.xor_self, Nat.zero_xor])
  constructor
  · intro h
    rw [moreI_eq s _ _ h] at key
    have h7 := swap_byte (x ^^^ y) (by omega) (xor_eq0 (Sn_inj0 _ _ (xor_left0 key)))
    have h8 : x = y := by
      have := congrArg (fun v => v ^^^ y) h7
      simpa [Nat.xor_assoc] using this
    rw [hx, hy, h8]
  · intro h
    rw [hx, hy] at h
    obtain rfl : x = y := by omega
    unfold moreI
    rw [key, Nat.xor_self, Sn_zero, BitVec.xor_zero, Sn_zero, BitVec.xor_zero]
end Go.Proofs.Ytklecahihljnjaa
