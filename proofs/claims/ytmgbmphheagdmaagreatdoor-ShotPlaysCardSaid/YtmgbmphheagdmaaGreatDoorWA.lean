/- Texts of one claim, joined: PM SM WA. -/
import Derived.Test.YtmgbmphheagdmaaGreatDoorRows
import Derived.Lib.BitFns
import Derived.WalkKit
import Derived.Laws.BitsAllLaws
/-
  Numbers, texts and flags as bytes, and back: the document's answer as functions on lists; no program is walked here.
-/
namespace Go.Proofs.YtmgbmphheagdmaaGreatDoor

/-- The bytes of a number, the greatest first, with no nought ahead. -/
def beL (n : Nat) : List UInt8 := if n = 0 then [] else beL (n / 256) ++ [UInt8.ofNat (n % 256)]
/-- The number that bytes make. -/
def valL (l : List UInt8) : Nat := l.foldl (fun n b => n * 256 + b.toNat) 0
theorem valL_nil : valL [] = 0 := rfl
theorem valL_snoc (l : List UInt8) (b : UInt8) : valL (l ++ [b]) = valL l * 256 + b.toNat := by simp [valL]
theorem beL_zero : beL 0 = [] := by unfold beL; rfl
theorem beL_step (n : Nat) (h : n ≠ 0) : beL n = beL (n / 256) ++ [UInt8.ofNat (n % 256)] := by rw [beL, if_neg h]
theorem byte_mod (n : Nat) : (UInt8.ofNat (n % 256)).toNat = n % 256 := by
  rw [UInt8.toNat_ofNat']; omega
theorem valL_beL (n : Nat) : valL (beL n) = n := by
  induction n using Nat.strongRecOn with
  | ind n ih =>
    by_cases h : n = 0
    · subst h; rw [beL_zero]; rfl
    · rw [beL_step n h, valL_snoc, ih (n / 256) (by omega), byte_mod]; omega
/-- Induction from the last byte on. -/
theorem snoc_ind {p : List UInt8 → Prop} (h0 : p []) (h1 : ∀ l b, p l → p (l ++ [b])) (l : List UInt8) : p l := by
  rw [← List.reverse_reverse l]
  induction l.reverse with
  | nil => exact h0
  | cons b r ih => rw [List.reverse_cons]; exact h1 _ _ ih
theorem valL_pos (l : List UInt8) : l ≠ [] → l.getD 0 0 ≠ 0 → valL l ≠ 0 := by
  induction l using snoc_ind with
  | h0 => exact fun h => absurd rfl h
  | h1 l b ih =>
  intro _ hb
  rw [valL_snoc]
  by_cases hl : l = []
  · subst hl
    have : b.toNat ≠ 0 := fun e => hb (by
      show b = 0
      exact UInt8.toNat_inj.1 (by rw [e]; rfl))
    rw [valL_nil]; omega
  · have := ih hl (by
      cases l with
      | nil => exact absurd rfl hl
      | cons x r => simpa using hb)
    omega
theorem beL_valL (l : List UInt8) : (l ≠ [] → l.getD 0 0 ≠ 0) → beL (valL l) = l := by
  induction l using snoc_ind with
  | h0 => exact fun _ => by rw [valL_nil, beL_zero]
  | h1 l b ih =>
  intro hb
  have hp := valL_pos (l ++ [b]) (by simp) (hb (by simp))
  rw [beL_step _ hp, valL_snoc]
  have hlt := b.toNat_lt
  have e1 : (valL l * 256 + b.toNat) / 256 = valL l := by omega
  have e2 : (valL l * 256 + b.toNat) % 256 = b.toNat := by omega
  rw [e1, e2, UInt8.ofNat_toNat, ih]
  intro hl
  have := hb (by simp)
  cases l with
  | nil => exact absurd rfl hl
  | cons x r => simpa using this
theorem valL_lt (l : List UInt8) : valL l < 256 ^ l.length := by
  induction l using snoc_ind with
  | h0 => exact Nat.one_pos
  | h1 l b ih =>
  rw [valL_snoc, List.length_append, List.length_singleton, Nat.pow_succ]
  have := b.toNat_lt
  omega
theorem beL_length_le : ∀ (k n : Nat), n < 256 ^ k → (beL n).length ≤ k
  | 0, n, h => by
    have : n = 0 := by simpa using h
    subst this; rw [beL_zero]; exact Nat.le_refl _
  | k + 1, n, h => by
    by_cases h0 : n = 0
    · subst h0; rw [beL_zero]; exact Nat.zero_le _
    · rw [beL_step n h0, List.length_append, List.length_singleton]
      have := beL_length_le k (n / 256) (by rw [Nat.pow_succ] at h; omega)
      omega
theorem beL_ne (n : Nat) (h : n ≠ 0) : beL n ≠ [] := by rw [beL_step n h]; simp
theorem beL_head (n : Nat) (h : n ≠ 0) : (beL n).getD 0 0 ≠ 0 := by
  induction n using Nat.strongRecOn with
  | ind n ih =>
    by_cases h2 : n / 256 = 0
    · rw [beL_step n h, h2, beL_zero]
      show UInt8.ofNat (n % 256) ≠ 0
      intro e
      have := congrArg UInt8.toNat e
      rw [byte_mod] at this
      have h3 : (0 : UInt8).toNat = 0 := rfl
      omega
    · have := ih (n / 256) (by omega) h2
      rw [beL_step n h]
      have hne := beL_ne _ h2
      cases hq : beL (n / 256) with
      | nil => exact absurd hq hne
      | cons x r => rw [hq] at this; simpa using this
/-- How many bytes: as many bits, eight a byte, rounded up. -/
theorem beL_bits (n : Nat) (h : n < 18446744073709551616) : (beL n).length = (Lib.bitLen n + 7) / 8 := by
  induction n using Nat.strongRecOn with
  | ind n ih =>
    by_cases h0 : n = 0
    · subst h0; rw [beL_zero]; rfl
    · rw [beL_step n h0, List.length_append, List.length_singleton, ih (n / 256) (by omega) (by omega)]
      by_cases h1 : 256 ≤ n
      · rw [Lib.bitLen_shift8 n h1 h]; omega
      · have e : n / 256 = 0 := by omega
        have l := Lib.bitLen_le n 8 (by omega) (by omega)
        have p : 1 ≤ Lib.bitLen n := by rw [Lib.bitLen_half n h0 h]; omega
        have z : Lib.bitLen 0 = 0 := rfl
        rw [e, z]; omega
/-- Byte j of the k bytes of a number, from the greatest on. -/
theorem beL_at (n j : Nat) (h : j < (beL n).length) : ((beL n).getD ((beL n).length - 1 - j) 0).toNat = n / 256 ^ j % 256 := by
  induction n using Nat.strongRecOn generalizing j with
  | ind n ih =>
    by_cases h0 : n = 0
    · subst h0; rw [beL_zero] at h; simp at h
    · have hs := beL_step n h0
      have hl : (beL n).length = (beL (n / 256)).length + 1 := by rw [hs]; simp
      cases j with
      | zero =>
        rw [hs, List.getD_eq_getElem?_getD, List.getElem?_append_right (by simp)]
        simp
      | succ j =>
        have hj : j < (beL (n / 256)).length := by omega
        have := ih (n / 256) (by omega) j hj
        rw [Nat.div_div_eq_div_mul, Nat.mul_comm, ← Nat.pow_succ] at this
        rw [← this, hl, show (beL (n / 256)).length + 1 - 1 - (j + 1) = (beL (n / 256)).length - 1 - j by omega]
        rw [hs, List.getD_eq_getElem?_getD, List.getElem?_append_left (by omega), List.getD_eq_getElem?_getD]

/-- The greatest number that has an encoding. -/
abbrev top : Nat := 4611686018427387903
/-- A number's encoding. -/
def encL (n : Nat) : List UInt8 := UInt8.ofNat (beL n).length :: beL n
theorem encL_length (n : Nat) : (encL n).length = (beL n).length + 1 := by simp [encL]
theorem beL_len8 (n : Nat) (h : n < 18446744073709551616) : (beL n).length ≤ 8 := beL_length_le 8 n h
theorem encL_head (n : Nat) (h : n < 18446744073709551616) : ((encL n).getD 0 0).toNat = (beL n).length := by
  have := beL_len8 n h
  show (UInt8.ofNat (beL n).length).toNat = _
  rw [UInt8.toNat_ofNat']; omega

/-- The number with whose encoding a text begins, and the encoding's length. -/
def decL (l : List UInt8) : Option (Nat × Nat) :=
  let k := (l.getD 0 0).toNat
  if l = [] ∨ 8 < k ∨ l.length < 1 + k ∨ (0 < k ∧ l.getD 1 0 = 0) ∨ top < valL ((l.drop 1).take k) then none else some (valL ((l.drop 1).take k), 1 + k)
theorem decL_none {l : List UInt8} (h : l = [] ∨ 8 < (l.getD 0 0).toNat ∨ l.length < 1 + (l.getD 0 0).toNat ∨ (0 < (l.getD 0 0).toNat ∧ l.getD 1 0 = 0) ∨ top < valL ((l.drop 1).take (l.getD 0 0).toNat)) : decL l = none := if_pos h
theorem decL_some {l : List UInt8} (h : ¬ (l = [] ∨ 8 < (l.getD 0 0).toNat ∨ l.length < 1 + (l.getD 0 0).toNat ∨ (0 < (l.getD 0 0).toNat ∧ l.getD 1 0 = 0) ∨ top < valL ((l.drop 1).take (l.getD 0 0).toNat))) : decL l = some (valL ((l.drop 1).take (l.getD 0 0).toNat), 1 + (l.getD 0 0).toNat) := if_neg h
theorem decL_enc (n : Nat) (h : n ≤ top) (r : List UInt8) : decL (encL n ++ r) = some (n, (encL n).length) := by
  have hn : n < 18446744073709551616 := by unfold top at h; omega
  have hh : ((encL n ++ r).getD 0 0).toNat = (beL n).length := by
    rw [← encL_head n hn]; rfl
  have h8 := beL_len8 n hn
  have ht : ((encL n ++ r).drop 1).take (beL n).length = beL n := by
    show ((beL n) ++ r).take (beL n).length = beL n
    exact List.take_left
  have e := decL_some (l := encL n ++ r) (by
    rw [hh, ht, valL_beL]
    rintro (e | e | e | ⟨e1, e2⟩ | e)
    · simp [encL] at e
    · omega
    · rw [List.length_append, encL_length] at e; omega
    · have hne : n ≠ 0 := fun e => by rw [e, beL_zero] at e1; simp at e1
      refine beL_head n hne ?_
      have hb := beL_ne n hne
      cases hq : beL n with
      | nil => exact absurd hq hb
      | cons x q => rw [encL, hq] at e2; simpa using e2
    · omega)
  rw [e, hh, ht, valL_beL, encL_length, Nat.add_comm]
theorem decL_sound {l : List UInt8} {n k : Nat} (h : decL l = some (n, k)) : n ≤ top ∧ k ≤ l.length ∧ l.take k = encL n ∧ 0 < k ∧ k ≤ 9 := by
  by_cases hc : l = [] ∨ 8 < (l.getD 0 0).toNat ∨ l.length < 1 + (l.getD 0 0).toNat ∨ (0 < (l.getD 0 0).toNat ∧ l.getD 1 0 = 0) ∨ top < valL ((l.drop 1).take (l.getD 0 0).toNat)
  · rw [decL_none hc] at h; cases h
  · rw [decL_some hc] at h
    injection h with h
    injection h with h1 h2
    simp only [not_or] at hc
    obtain ⟨c1, c2, c3, c4, c5⟩ := hc
    subst h1 h2
    refine ⟨by omega, by omega, ?_, by omega, by omega⟩
    cases l with
    | nil => exact absurd rfl c1
    | cons b r =>
      simp only [List.getD_cons_zero, List.drop_one, List.tail_cons, List.length_cons] at *
      have hlen : (r.take b.toNat).length = b.toNat := by rw [List.length_take]; omega
      have hb : beL (valL (r.take b.toNat)) = r.take b.toNat := beL_valL _ (fun hne e => c4 ⟨by
        rcases Nat.eq_zero_or_pos b.toNat with h0 | h0
        · rw [h0] at hne; simp at hne
        · exact h0, by
        cases r with
        | nil => simp at hne
        | cons x q =>
          have h0 : 0 < b.toNat := by
            rcases Nat.eq_zero_or_pos b.toNat with h0 | h0
            · rw [h0] at hne; simp at hne
            · exact h0
          obtain ⟨m, hm⟩ : ∃ m, b.toNat = m + 1 := ⟨b.toNat - 1, by omega⟩
          rw [hm, List.take_succ_cons] at e
          simpa using e⟩)
      rw [Nat.add_comm, List.take_succ_cons, encL, hb, hlen, UInt8.ofNat_toNat]
theorem decL_nil : decL [] = none := decL_none (.inl rfl)
end Go.Proofs.YtmgbmphheagdmaaGreatDoor

/-
  Plain mathematics of the checksum: the register as a bit vector of 32 bits; no program is named here.
-/
namespace Go.Proofs.YtmgbmphheagdmaaGreatDoor

theorem ret_int {k : IntKind} {a b : Int} (h : a = b) : Ending.returned (.int k a) = .returned (.int k b) := by rw [h]
theorem max32 : IntKind.u32.max = 4294967295 := by decide

/-- One coefficient of the division. -/
def S1 (r : BitVec 32) : BitVec 32 := (r >>> 1) ^^^ (0xEDB88320#32 * (r &&& 1#32))
def Sn : Nat → BitVec 32 → BitVec 32
  | 0, r => r
  | n + 1, r => S1 (Sn n r)
def dvB (r : BitVec 32) (c : Int) : BitVec 32 := Sn 8 (r ^^^ BitVec.ofInt 32 c)
def foldB (r : BitVec 32) (l : List Int) : BitVec 32 := l.foldl dvB r

theorem b32_nat (v : BitVec 32) : BitVec.ofInt 32 (v.toNat : Int) = v := by
  rw [BitVec.ofInt_natCast, BitVec.ofNat_toNat]; simp

theorem b32_toNat (x : Int) (h0 : 0 ≤ x) (h1 : x < 4294967296) : ((BitVec.ofInt 32 x).toNat : Int) = x := by
  obtain ⟨n, rfl⟩ := Int.eq_ofNat_of_zero_le h0
  rw [ofInt_u32 n (by omega)]

theorem xor_b32 (x y : Int) (h0 : 0 ≤ x) (h1 : x < 4294967296) (h2 : 0 ≤ y) (h3 : y < 4294967296) :
    bits BinOp.xor IntKind.u32 x y = ((BitVec.ofInt 32 x ^^^ BitVec.ofInt 32 y).toNat : Int) := by
  obtain ⟨n, rfl⟩ := Int.eq_ofNat_of_zero_le h0
  obtain ⟨m, rfl⟩ := Int.eq_ofNat_of_zero_le h2
  rw [u32_xor_nat n m (by omega) (by omega), BitVec.toNat_xor, ofInt_u32 n (by omega), ofInt_u32 m (by omega)]

theorem and1_b32 (x : Int) (h0 : 0 ≤ x) (h1 : x < 4294967296) : bits BinOp.and IntKind.u32 x 1 = x % 2 := by
  obtain ⟨n, rfl⟩ := Int.eq_ofNat_of_zero_le h0
  have := u32_and_nat n 1 (by omega) (by omega)
  rw [nat_mask1] at this
  exact this

theorem S1_toNat (v : BitVec 32) : ((S1 v).toNat : Int) = bits BinOp.xor IntKind.u32 ((v.toNat : Int) / 2) (3988292384 * bits BinOp.and IntKind.u32 (v.toNat : Int) 1 % 4294967296) := by
  have hv := v.isLt
  rw [and1_b32 _ (by omega) (by omega), xor_b32 _ _ (by omega) (by omega) (by omega) (by omega)]
  congr 2
  unfold S1
  congr 1
  · apply BitVec.eq_of_toNat_eq
    rw [show ((v.toNat : Int) / 2) = ((v.toNat / 2 : Nat) : Int) by omega, ofInt_u32 _ (by omega), BitVec.toNat_ushiftRight, Nat.shiftRight_eq_div_pow]
  · apply BitVec.eq_of_toNat_eq
    rw [show (3988292384 * ((v.toNat : Int) % 2) % 4294967296) = ((3988292384 * (v.toNat % 2) % 4294967296 : Nat) : Int) by omega, ofInt_u32 _ (by omega), BitVec.toNat_mul, BitVec.toNat_and]
    simp only [BitVec.toNat_ofNat]
    rw [show (1 : Nat) % 2 ^ 32 = 1 from rfl, nat_mask1]

/-! The same over Int, as a slot holds them. -/
@[irreducible] def snI (k : Nat) (r : Int) : Int := ((Sn k (BitVec.ofInt 32 r)).toNat : Int)
@[irreducible] def dvI (r c : Int) : Int := ((dvB (BitVec.ofInt 32 r) c).toNat : Int)
@[irreducible] def restI (s : Int) (l : List Int) : Int := ((foldB (~~~ (BitVec.ofInt 32 s)) l).toNat : Int)
@[irreducible] def moreI (s : Int) (l : List Int) : Int := ((~~~ (foldB (~~~ (BitVec.ofInt 32 s)) l)).toNat : Int)

theorem snI_bd (k : Nat) (r : Int) : 0 ≤ snI k r ∧ snI k r < 4294967296 := by
  unfold snI; exact ⟨by omega, by have := (Sn k (BitVec.ofInt 32 r)).isLt; omega⟩
theorem dvI_bd (k r : Int) : 0 ≤ dvI k r ∧ dvI k r < 4294967296 := by
  unfold dvI; exact ⟨by omega, by have := (dvB (BitVec.ofInt 32 k) r).isLt; omega⟩
theorem restI_bd (s : Int) (l : List Int) : 0 ≤ restI s l ∧ restI s l < 4294967296 := by
  unfold restI; exact ⟨by omega, by have := (foldB (~~~ (BitVec.ofInt 32 s)) l).isLt; omega⟩
theorem moreI_bd (s : Int) (l : List Int) : 0 ≤ moreI s l ∧ moreI s l < 4294967296 := by
  unfold moreI; exact ⟨by omega, by have := (~~~ (foldB (~~~ (BitVec.ofInt 32 s)) l)).isLt; omega⟩

theorem snI_zero (r : Int) (h0 : 0 ≤ r) (h1 : r < 4294967296) : snI 0 r = r := by
  unfold snI; exact b32_toNat r h0 h1
theorem snI_succ (k : Nat) (r : Int) : snI (k + 1) r = bits BinOp.xor IntKind.u32 (snI k r / 2) (3988292384 * bits BinOp.and IntKind.u32 (snI k r) 1 % 4294967296) := by
  unfold snI
  rw [show Sn (k + 1) (BitVec.ofInt 32 r) = S1 (Sn k (BitVec.ofInt 32 r)) from rfl, S1_toNat]
theorem dvI_of (r c : Int) (h0 : 0 ≤ r) (h1 : r < 4294967296) (h2 : 0 ≤ c) (h3 : c < 4294967296) : snI 8 (bits BinOp.xor IntKind.u32 r c) = dvI r c := by
  unfold snI dvI dvB
  rw [xor_b32 r c h0 h1 h2 h3, b32_nat]
theorem not_b32 (s : Int) (h0 : 0 ≤ s) (h1 : s < 4294967296) : bits BinOp.xor IntKind.u32 IntKind.u32.max s = ((~~~ (BitVec.ofInt 32 s)).toNat : Int) := by
  rw [max32, xor_b32 _ _ (by omega) (by omega) h0 h1]
  rw [show BitVec.ofInt 32 4294967295 = BitVec.allOnes 32 from rfl, BitVec.allOnes_xor]
theorem restI_nil (s : Int) (h0 : 0 ≤ s) (h1 : s < 4294967296) : restI s [] = bits BinOp.xor IntKind.u32 IntKind.u32.max s := by
  rw [not_b32 s h0 h1]; unfold restI foldB; rfl
theorem restI_snoc (s : Int) (l : List Int) (c : Int) : restI s (l ++ [c]) = dvI (restI s l) c := by
  unfold restI dvI foldB
  rw [List.foldl_append, b32_nat]; rfl
theorem moreI_of (s : Int) (l : List Int) : bits BinOp.xor IntKind.u32 IntKind.u32.max (restI s l) = moreI s l := by
  have hb := restI_bd s l
  rw [not_b32 _ hb.1 hb.2]
  unfold restI moreI
  rw [b32_nat]
theorem moreI_append (s : Int) (l m : List Int) : moreI (moreI s l) m = moreI s (l ++ m) := by
  unfold moreI
  rw [b32_nat, BitVec.not_not]
  unfold foldB
  rw [List.foldl_append]
theorem moreI_nil (s : Int) (h0 : 0 ≤ s) (h1 : s < 4294967296) : moreI s [] = s := by
  unfold moreI foldB
  simp only [List.foldl_nil, BitVec.not_not]
  exact b32_toNat s h0 h1
end Go.Proofs.YtmgbmphheagdmaaGreatDoor

/-
  Records, their frames, what a text of frames tells (pure).
-/
namespace Go.Proofs.YtmgbmphheagdmaaGreatDoor

/-- A record. -/
structure Rc where
  kind : Int
  idx : Int
  term : Int
  vote : Int
  data : List UInt8
def rightR (r : Rc) : Prop := 2 ≤ r.kind ∧ r.kind ≤ 4 ∧ 0 ≤ r.idx ∧ r.idx ≤ 1099511627776 ∧ 0 ≤ r.term ∧ r.term ≤ 1099511627776 ∧ 0 ≤ r.vote ∧ r.vote ≤ 1099511627776 ∧ r.data.length ≤ 131072
/-- What has a frame here. -/
def okR (r : Rc) : Prop := 0 ≤ r.kind ∧ r.kind ≤ 4 ∧ 0 ≤ r.idx ∧ r.idx ≤ 4611686018427387903 ∧ 0 ≤ r.term ∧ r.term ≤ 1099511627776 ∧ 0 ≤ r.vote ∧ r.vote ≤ 1099511627776 ∧ r.data.length ≤ 131072
theorem rightR.ok {r : Rc} (h : rightR r) : okR r := by unfold rightR at h; unfold okR; omega
/-- The checksum of a text. -/
def crcN (l : List UInt8) : Nat := (moreI 0 (l.map fun b => (b.toNat : Int))).toNat
def be4 (n : Nat) : List UInt8 := [UInt8.ofNat (n / 16777216 % 256), UInt8.ofNat (n / 65536 % 256), UInt8.ofNat (n / 256 % 256), UInt8.ofNat (n % 256)]
def payL (r : Rc) : List UInt8 := encL r.kind.toNat ++ (encL r.idx.toNat ++ (encL r.term.toNat ++ (encL r.vote.toNat ++ (encL r.data.length ++ r.data))))
def frameL (r : Rc) : List UInt8 := be4 (payL r).length ++ (be4 (crcN (payL r)) ++ payL r)
def headL (n : Nat) : List UInt8 := frameL ⟨1, n, 0, 0, []⟩
def framesL (l : List Rc) : List UInt8 := l.flatMap frameL

theorem be4_len (n : Nat) : (be4 n).length = 4 := rfl
theorem be4_inj {n m : Nat} (hn : n < 4294967296) (hm : m < 4294967296) (h : be4 n = be4 m) : n = m := by
  unfold be4 at h
  simp only [List.cons.injEq, and_true] at h
  obtain ⟨h1, h2, h3, h4⟩ := h
  have g := fun {a b : Nat} (e : UInt8.ofNat (a % 256) = UInt8.ofNat (b % 256)) => (byte_mod a).symm.trans ((congrArg UInt8.toNat e).trans (byte_mod b))
  have := g h1; have := g h2; have := g h3; have := g h4
  omega
theorem encL_le9 {n : Nat} (h : n ≤ top) : (encL n).length ≤ 9 := by
  have := beL_len8 n (by unfold top at h; omega)
  rw [encL_length]; omega
theorem enc_cancel {n m : Nat} {s t : List UInt8} (hn : n ≤ top) (hm : m ≤ top) (h : encL n ++ s = encL m ++ t) : n = m ∧ s = t := by
  have h1 := decL_enc n hn s
  rw [h, decL_enc m hm t] at h1
  injection h1 with h1
  injection h1 with h1 h2
  subst h1
  exact ⟨rfl, List.append_cancel_left h⟩
theorem pay_inj {r q : Rc} (hr : okR r) (hq : okR q) (h : payL r = payL q) : r = q := by
  unfold okR at hr hq
  unfold payL at h
  obtain ⟨e1, h⟩ := enc_cancel (by unfold top; omega) (by unfold top; omega) h
  obtain ⟨e2, h⟩ := enc_cancel (by unfold top; omega) (by unfold top; omega) h
  obtain ⟨e3, h⟩ := enc_cancel (by unfold top; omega) (by unfold top; omega) h
  obtain ⟨e4, h⟩ := enc_cancel (by unfold top; omega) (by unfold top; omega) h
  obtain ⟨_, h⟩ := enc_cancel (by unfold top; omega) (by unfold top; omega) h
  obtain ⟨a, b, c, d, e⟩ := r
  obtain ⟨a', b', c', d', e'⟩ := q
  simp only at *
  rw [show a = a' by omega, show b = b' by omega, show c = c' by omega, show d = d' by omega, h]
theorem pay_le {r : Rc} (h : okR r) : (payL r).length ≤ 131117 := by
  unfold okR at h
  have e1 := encL_le9 (n := r.kind.toNat) (by unfold top; omega)
  have e2 := encL_le9 (n := r.idx.toNat) (by unfold top; omega)
  have e3 := encL_le9 (n := r.term.toNat) (by unfold top; omega)
  have e4 := encL_le9 (n := r.vote.toNat) (by unfold top; omega)
  have e5 := encL_le9 (n := r.data.length) (by unfold top; omega)
  unfold payL
  simp only [List.length_append]
  omega
theorem frame_len (r : Rc) : (frameL r).length = 8 + (payL r).length := by
  unfold frameL
  simp only [List.length_append, be4_len]; omega
/-- A text begins with one frame at most. -/
theorem frame_inj {r q : Rc} {s t : List UInt8} (hr : okR r) (hq : okR q) (h : frameL r ++ s = frameL q ++ t) : r = q ∧ s = t := by
  have h1 := pay_le hr
  have h2 := pay_le hq
  have h4 : be4 (payL r).length = be4 (payL q).length := congrArg (List.take 4) h
  have hl := be4_inj (by omega) (by omega) h4
  obtain ⟨e1, e2⟩ := List.append_inj h (by rw [frame_len, frame_len, hl])
  refine ⟨pay_inj hr hq ?_, e2⟩
  have := congrArg (List.drop 8) e1
  unfold frameL at this
  simpa [be4] using this
theorem frame_prefix {r q : Rc} {s : List UInt8} (hr : okR r) (hq : okR q) (h1 : frameL r <+: s) (h2 : frameL q <+: s) : r = q := by
  obtain ⟨a, ha⟩ := h1
  obtain ⟨b, hb⟩ := h2
  exact (frame_inj hr hq (ha.trans hb.symm)).1
theorem okH {n : Nat} (h : n ≤ top) : okR ⟨1, n, 0, 0, []⟩ := by unfold okR; unfold top at h; simp only [List.length_nil]; omega
theorem framesL_nil : framesL [] = [] := rfl
theorem framesL_cons (r : Rc) (l : List Rc) : framesL (r :: l) = frameL r ++ framesL l := rfl
theorem framesL_append (l m : List Rc) : framesL (l ++ m) = framesL l ++ framesL m := by unfold framesL; rw [List.flatMap_append]
theorem frame_nil {r : Rc} (h : frameL r <+: []) : False := by
  have := h.length_le
  rw [frame_len] at this; simp at this

/-- What a text tells: right records, and what is broken behind them. -/
structure Scan (s : List UInt8) (l : List Rc) (t : List UInt8) : Prop where
  right : ∀ r ∈ l, rightR r
  eq : s = framesL l ++ t
  stop : ∀ r, rightR r → ¬ frameL r <+: t
theorem scan_unique {s t u : List UInt8} {l m : List Rc} (h : Scan s l t) (k : Scan s m u) : l = m ∧ t = u := by
  induction l generalizing s m with
  | nil =>
    have e : s = t := h.eq
    subst e
    cases m with
    | nil => exact ⟨rfl, k.eq⟩
    | cons q m => exact absurd ⟨framesL m ++ u, by rw [← List.append_assoc]; exact k.eq.symm⟩ (h.stop q (k.right q (by simp)))
  | cons r l ih =>
    cases m with
    | nil =>
      have e : s = u := k.eq
      subst e
      exact absurd ⟨framesL l ++ t, by rw [← List.append_assoc]; exact h.eq.symm⟩ (k.stop r (h.right r (by simp)))
    | cons q m =>
      have e := h.eq.symm.trans k.eq
      rw [framesL_cons, framesL_cons, List.append_assoc, List.append_assoc] at e
      obtain ⟨rfl, e2⟩ := frame_inj (h.right r (by simp)).ok (k.right q (by simp)).ok e
      obtain ⟨e3, e4⟩ := ih (s := framesL l ++ t) (m := m) ⟨fun x hx => h.right x (by simp [hx]), rfl, h.stop⟩ ⟨fun x hx => k.right x (by simp [hx]), e2, k.stop⟩
      exact ⟨by rw [e3], e4⟩
theorem scan_exists : ∀ (n : Nat) (s : List UInt8), s.length ≤ n → ∃ l t, Scan s l t := by
  intro n
  induction n with
  | zero =>
    intro s h
    have : s = [] := List.eq_nil_of_length_eq_zero (by omega)
    subst this
    exact ⟨[], [], fun _ h => (by cases h), rfl, fun r _ h => frame_nil h⟩
  | succ n ih =>
    intro s h
    by_cases hr : ∃ r, rightR r ∧ frameL r <+: s
    · obtain ⟨r, h1, t, rfl⟩ := hr
      have := frame_len r
      rw [List.length_append] at h
      obtain ⟨l, u, h2⟩ := ih t (by omega)
      exact ⟨r :: l, u, fun x hx => (List.mem_cons.1 hx).elim (fun e => e ▸ h1) (h2.right x), by rw [framesL_cons, List.append_assoc, ← h2.eq], h2.stop⟩
    · exact ⟨[], s, fun _ h => (by cases h), rfl, fun r h1 h2 => hr ⟨r, h1, h2⟩⟩
theorem scan_frames {l : List Rc} (h : ∀ r ∈ l, rightR r) : Scan (framesL l) l [] := ⟨h, by simp, fun _ _ k => frame_nil k⟩
/-- A beginning of frames tells a beginning of the records, with all whose frames are whole. -/
theorem scan_prefix : ∀ {l : List Rc} {p : List UInt8}, (∀ r ∈ l, rightR r) → p <+: framesL l → ∃ m t, m <+: l ∧ Scan p m t ∧ ∀ k, k ≤ l.length → framesL (l.take k) <+: p → k ≤ m.length
  | [], p, _, hp => by
    have : p = [] := List.prefix_nil.1 hp
    subst this
    exact ⟨[], [], List.nil_prefix, ⟨fun _ h => (by cases h), rfl, fun _ _ k => frame_nil k⟩, fun k hk _ => hk⟩
  | r :: l, p, h, hp => by
    have hr := h r (by simp)
    rw [framesL_cons] at hp
    by_cases hl : (frameL r).length ≤ p.length
    · have h1 : frameL r <+: p := List.prefix_of_prefix_length_le (List.prefix_append _ _) hp hl
      obtain ⟨q, rfl⟩ := h1
      have h2 : q <+: framesL l := (List.prefix_append_right_inj _).1 hp
      obtain ⟨m, t, h3, h4, h5⟩ := scan_prefix (fun x hx => h x (by simp [hx])) h2
      refine ⟨r :: m, t, List.cons_prefix_cons.2 ⟨rfl, h3⟩, ⟨fun x hx => (List.mem_cons.1 hx).elim (fun e => e ▸ hr) (h4.right x), by rw [framesL_cons, List.append_assoc, ← h4.eq], h4.stop⟩, fun k hk hkp => ?_⟩
      cases k with
      | zero => exact Nat.zero_le _
      | succ k =>
        rw [List.take_succ_cons, framesL_cons] at hkp
        have := h5 k (by simpa using hk) ((List.prefix_append_right_inj _).1 hkp)
        simpa using this
    · refine ⟨[], p, List.nil_prefix, ⟨fun _ h => (by cases h), rfl, fun q hq hqp => ?_⟩, fun k hk hkp => ?_⟩
      · have e := frame_prefix hq.ok hr.ok (hqp.trans hp) (List.prefix_append _ _)
        subst e
        exact hl hqp.length_le
      · cases k with
        | zero => exact Nat.zero_le _
        | succ k =>
          exfalso
          rw [List.take_succ_cons, framesL_cons] at hkp
          have := hkp.length_le
          rw [List.length_append] at this; omega
theorem framesL_len_le (l : List Rc) : l.length * 8 ≤ (framesL l).length := by
  induction l with
  | nil => simp [framesL]
  | cons r l ih => rw [framesL_cons, List.length_append, frame_len, List.length_cons]; omega
/-- No head stands in frames of right records. -/
theorem no_head {l : List Rc} {p : List UInt8} {n : Nat} (hn : n ≤ top) (h : ∀ r ∈ l, rightR r) (hp : p <+: framesL l) : ¬ headL n <+: p := fun hh => by
  have h1 := hh.trans hp
  cases l with
  | nil => exact frame_nil h1
  | cons r l =>
    have hr := h r (by simp)
    have e := frame_prefix (okH hn) hr.ok h1 (List.prefix_append _ _)
    unfold rightR at hr
    rw [← e] at hr
    simp only at hr
    omega
end Go.Proofs.YtmgbmphheagdmaaGreatDoor
