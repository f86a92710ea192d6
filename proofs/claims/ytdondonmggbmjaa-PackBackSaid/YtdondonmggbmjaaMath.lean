/-
  Numbers, texts and flags as bytes, and back: the document's answer as functions on lists; no program is walked here.
-/
import Derived.Test.YtdondonmggbmjaaRows
import Derived.Lib.BitFns
namespace Go.Proofs.Ytdondonmggbmjaa

/-- The bytes of a number, the greatest first, with no nought ahead. -/
def beL (n : Nat) : List UInt8 := if n = 0 then [] else beL (n / 256) ++ [UInt8.ofNat (n % 256)]
/-- The number that bytes make. -/
def valL (l : List UInt8) : Nat := l.foldl (fun n b => n * 256 + b.toNat) 0
theorem valL_nil : valL [] = 0 := rfl
theorem valL_snoc (l : List UInt8) (b : UInt8) : valL (l ++ [b]) = valL l * 256 + b.toNat := by simp [valL]
theorem beL_zero : beL 0 = [] := by unfold beL; rfl
theorem beL_step (n : Nat) (h : n ≠ 0) : beL n = beL (n / 256) ++ [UInt8.ofNat (n % 256)] := by rw [beL, if_neg h]
theorem byte_mod (n : Nat) : (UInt8.ofNat (n % 256)).toNat = n % 256 := by
  rw [UInt8.toNat_ofNat']; omega
theorem valL_beL (n : Nat) : valL (beL n) = n := by
  induction n using Nat.strongRecOn with
  | ind n ih =>
    by_cases h : n = 0
    · subst h; rw [beL_zero]; rfl
    · rw [beL_step n h, valL_snoc, ih (n / 256) (by omega), byte_mod]; omega
/-- Induction from the last byte on. -/
theorem snoc_ind {p : List UInt8 → Prop} (h0 : p []) (h1 : ∀ l b, p l → p (l ++ [b])) (l : List UInt8) : p l := by
  rw [← List.reverse_reverse l]
  induction l.reverse with
  | nil => exact h0
  | cons b r ih => rw [List.reverse_cons]; exact h1 _ _ ih
theorem valL_pos (l : List UInt8) : l ≠ [] → l.getD 0 0 ≠ 0 → valL l ≠ 0 := by
  induction l using snoc_ind with
  | h0 => exact fun h => absurd rfl h
  | h1 l b ih =>
  intro _ hb
  rw [valL_snoc]
  by_cases hl : l = []
  · subst hl
    have : b.toNat ≠ 0 := fun e => hb (by
      show b = 0
      exact UInt8.toNat_inj.1 (by rw [e]; rfl))
    rw [valL_nil]; omega
  · have := ih hl (by
      cases l with
      | nil => exact absurd rfl hl
      | cons x r => simpa using hb)
    omega
theorem beL_valL (l : List UInt8) : (l ≠ [] → l.getD 0 0 ≠ 0) → beL (valL l) = l := by
  induction l using snoc_ind with
  | h0 => exact fun _ => by rw [valL_nil, beL_zero]
  | h1 l b ih =>
  intro hb
  have hp := valL_pos (l ++ [b]) (by simp) (hb (by simp))
  rw [beL_step _ hp, valL_snoc]
  have hlt := b.toNat_lt
  have e1 : (valL l * 256 + b.toNat) / 256 = valL l := by omega
  have e2 : (valL l * 256 + b.toNat) % 256 = b.toNat := by omega
  rw [e1, e2, UInt8.ofNat_toNat, ih]
  intro hl
  have := hb (by simp)
  cases l with
  | nil => exact absurd rfl hl
  | cons x r => simpa using this
theorem valL_lt (l : List UInt8) : valL l < 256 ^ l.length := by
  induction l using snoc_ind with
  | h0 => exact Nat.one_pos
  | h1 l b ih =>
  rw [valL_snoc, List.length_append, List.length_singleton, Nat.pow_succ]
  have := b.toNat_lt
  omega
theorem beL_length_le : ∀ (k n : Nat), n < 256 ^ k → (beL n).length ≤ k
  | 0, n, h => by
    have : n = 0 := by simpa using h
    subst this; rw [beL_zero]; exact Nat.le_refl _
  | k + 1, n, h => by
    by_cases h0 : n = 0
    · subst h0; rw [beL_zero]; exact Nat.zero_le _
    · rw [beL_step n h0, List.length_append, List.length_singleton]
      have := beL_length_le k (n / 256) (by rw [Nat.pow_succ] at h; omega)
      omega
theorem beL_ne (n : Nat) (h : n ≠ 0) : beL n ≠ [] := by rw [beL_step n h]; simp
theorem beL_head (n : Nat) (h : n ≠ 0) : (beL n).getD 0 0 ≠ 0 := by
  induction n using Nat.strongRecOn with
  | ind n ih =>
    by_cases h2 : n / 256 = 0
    · rw [beL_step n h, h2, beL_zero]
      show UInt8.ofNat (n % 256) ≠ 0
      intro e
      have := congrArg UInt8.toNat e
      rw [byte_mod] at this
      have h3 : (0 : UInt8).toNat = 0 := rfl
      omega
    · have := ih (n / 256) (by omega) h2
      rw [beL_step n h]
      have hne := beL_ne _ h2
      cases hq : beL (n / 256) with
      | nil => exact absurd hq hne
      | cons x r => rw [hq] at this; simpa using this
/-- How many bytes: as many bits, eight a byte, rounded up. -/
theorem beL_bits (n : Nat) (h : n < 18446744073709551616) : (beL n).length = (Lib.bitLen n + 7) / 8 := by
  induction n using Nat.strongRecOn with
  | ind n ih =>
    by_cases h0 : n = 0
    · subst h0; rw [beL_zero]; rfl
    · rw [beL_step n h0, List.length_append, List.length_singleton, ih (n / 256) (by omega) (by omega)]
      by_cases h1 : 256 ≤ n
      · rw [Lib.bitLen_shift8 n h1 h]; omega
      · have e : n / 256 = 0 := by omega
        have l := Lib.bitLen_le n 8 (by omega) (by omega)
        have p : 1 ≤ Lib.bitLen n := by rw [Lib.bitLen_half n h0 h]; omega
        have z : Lib.bitLen 0 = 0 := rfl
        rw [e, z]; omega
/-- Byte j of the k bytes of a number, from the greatest on. -/
theorem beL_at (n j : Nat) (h : j < (beL n).length) : ((beL n).getD ((beL n).length - 1 - j) 0).toNat = n / 256 ^ j % 256 := by
  induction n using Nat.strongRecOn generalizing j with
  | ind n ih =>
    by_cases h0 : n = 0
    · subst h0; rw [beL_zero] at h; simp at h
    · have hs := beL_step n h0
      have hl : (beL n).length = (beL (n / 256)).length + 1 := by rw [hs]; simp
      cases j with
      | zero =>
        rw [hs, List.getD_eq_getElem?_getD, List.getElem?_append_right (by simp)]
        simp
      | succ j =>
        have hj : j < (beL (n / 256)).length := by omega
        have := ih (n / 256) (by omega) j hj
        rw [Nat.div_div_eq_div_mul, Nat.mul_comm, ← Nat.pow_succ] at this
        rw [← this, hl, show (beL (n / 256)).length + 1 - 1 - (j + 1) = (beL (n / 256)).length - 1 - j by omega]
        rw [hs, List.getD_eq_getElem?_getD, List.getElem?_append_left (by omega), List.getD_eq_getElem?_getD]

/-- The greatest number that has an encoding. -/
abbrev top : Nat := 4611686018427387903
/-- A number's encoding. -/
def encL (n : Nat) : List UInt8 := UInt8.ofNat (beL n).length :: beL n
theorem encL_length (n : Nat) : (encL n).length = (beL n).length + 1 := by simp [encL]
theorem beL_len8 (n : Nat) (h : n < 18446744073709551616) : (beL n).length ≤ 8 := beL_length_le 8 n h
theorem encL_head (n : Nat) (h : n < 18446744073709551616) : ((encL n).getD 0 0).toNat = (beL n).length := by
  have := beL_len8 n h
  show (UInt8.ofNat (beL n).length).toNat = _
  rw [UInt8.toNat_ofNat']; omega

/-- The number with whose encoding a text begins, and the encoding's length. -/
def decL (l : List UInt8) : Option (Nat × Nat) :=
  let k := (l.getD 0 0).toNat
  if l = [] ∨ 8 < k ∨ l.length < 1 + k ∨ (0 < k ∧ l.getD 1 0 = 0) ∨ top < valL ((l.drop 1).take k) then none else some (valL ((l.drop 1).take k), 1 + k)
theorem decL_none {l : List UInt8} (h : l = [] ∨ 8 < (l.getD 0 0).toNat ∨ l.length < 1 + (l.getD 0 0).toNat ∨ (0 < (l.getD 0 0).toNat ∧ l.getD 1 0 = 0) ∨ top < valL ((l.drop 1).take (l.getD 0 0).toNat)) : decL l = none := if_pos h
theorem decL_some {l : List UInt8} (h : ¬ (l = [] ∨ 8 < (l.getD 0 0).toNat ∨ l.length < 1 + (l.getD 0 0).toNat ∨ (0 < (l.getD 0 0).toNat ∧ l.getD 1 0 = 0) ∨ top < valL ((l.drop 1).take (l.getD 0 0).toNat))) : decL l = some (valL ((l.drop 1).take (l.getD 0 0).toNat), 1 + (l.getD 0 0).toNat) := if_neg h
theorem decL_enc (n : Nat) (h : n ≤ top) (r : List UInt8) : decL (encL n ++ r) = some (n, (encL n).length) := by
  have hn : n < 18446744073709551616 := by unfold top at h; omega
  have hh : ((encL n ++ r).getD 0 0).toNat = (beL n).length := by
    rw [← encL_head n hn]; rfl
  have h8 := beL_len8 n hn
  have ht : ((encL n ++ r).drop 1).take (beL n).length = beL n := by
    show ((beL n) ++ r).take (beL n).length = beL n
    exact List.take_left
  have e := decL_some (l := encL n ++ r) (by
    rw [hh, ht, valL_beL]
    rintro (e | e | e | ⟨e1, e2⟩ | e)
    · simp [encL] at e
    · omega
    · rw [List.length_append, encL_length] at e; omega
    · have hne : n ≠ 0 := fun e => by rw [e, beL_zero] at e1; simp at e1
      refine beL_head n hne ?_
      have hb := beL_ne n hne
      cases hq : beL n with
      | nil => exact absurd hq hb
      | cons x q => rw [encL, hq] at e2; simpa using e2
    · omega)
  rw [e, hh, ht, valL_beL, encL_length, Nat.add_comm]
theorem decL_sound {l : List UInt8} {n k : Nat} (h : decL l = some (n, k)) : n ≤ top ∧ k ≤ l.length ∧ l.take k = encL n ∧ 0 < k ∧ k ≤ 9 := by
  by_cases hc : l = [] ∨ 8 < (l.getD 0 0).toNat ∨ l.length < 1 + (l.getD 0 0).toNat ∨ (0 < (l.getD 0 0).toNat ∧ l.getD 1 0 = 0) ∨ top < valL ((l.drop 1).take (l.getD 0 0).toNat)
  · rw [decL_none hc] at h; cases h
  · rw [decL_some hc] at h
    injection h with h
    injection h with h1 h2
    simp only [not_or] at hc
    obtain ⟨c1, c2, c3, c4, c5⟩ := hc
    subst h1 h2
    refine ⟨by omega, by omega, ?_, by omega, by omega⟩
    cases l with
    | nil => exact absurd rfl c1
    | cons b r =>
      simp only [List.getD_cons_zero, List.drop_one, List.tail_cons, List.length_cons] at *
      have hlen : (r.take b.toNat).length = b.toNat := by rw [List.length_take]; omega
      have hb : beL (valL (r.take b.toNat)) = r.take b.toNat := beL_valL _ (fun hne e => c4 ⟨by
        rcases Nat.eq_zero_or_pos b.toNat with h0 | h0
        · rw [h0] at hne; simp at hne
        · exact h0, by
        cases r with
        | nil => simp at hne
        | cons x q =>
          have h0 : 0 < b.toNat := by
            rcases Nat.eq_zero_or_pos b.toNat with h0 | h0
            · rw [h0] at hne; simp at hne
            · exact h0
          obtain ⟨m, hm⟩ : ∃ m, b.toNat = m + 1 := ⟨b.toNat - 1, by omega⟩
          rw [hm, List.take_succ_cons] at e
          simpa using e⟩)
      rw [Nat.add_comm, List.take_succ_cons, encL, hb, hlen, UInt8.ofNat_toNat]
theorem decL_nil : decL [] = none := decL_none (.inl rfl)
end Go.Proofs.Ytdondonmggbmjaa
