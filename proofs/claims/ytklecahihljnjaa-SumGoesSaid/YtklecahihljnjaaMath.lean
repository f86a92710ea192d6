/-
  Plain mathematics of the checksum: the register as a bit vector of 32 bits; no program is named here.
-/
import Derived.WalkKit
import Derived.Laws.BitsAllLaws
namespace Go.Proofs.Ytklecahihljnjaa

theorem ret_int {k : IntKind} {a b : Int} (h : a = b) : Ending.returned (.int k a) = .returned (.int k b) := by rw [h]
theorem max32 : IntKind.u32.max = 4294967295 := by decide

/-- One coefficient of the division. -/
def S1 (r : BitVec 32) : BitVec 32 := (r >>> 1) ^^^ (0xEDB88320#32 * (r &&& 1#32))
def Sn : Nat → BitVec 32 → BitVec 32
  | 0, r => r
  | n + 1, r => S1 (Sn n r)
def dvB (r : BitVec 32) (c : Int) : BitVec 32 := Sn 8 (r ^^^ BitVec.ofInt 32 c)
def foldB (r : BitVec 32) (l : List Int) : BitVec 32 := l.foldl dvB r

theorem b32_nat (v : BitVec 32) : BitVec.ofInt 32 (v.toNat : Int) = v := by
  rw [BitVec.ofInt_natCast, BitVec.ofNat_toNat]; simp

theorem b32_toNat (x : Int) (h0 : 0 ≤ x) (h1 : x < 4294967296) : ((BitVec.ofInt 32 x).toNat : Int) = x := by
  obtain ⟨n, rfl⟩ := Int.eq_ofNat_of_zero_le h0
  rw [ofInt_u32 n (by omega)]

theorem xor_b32 (x y : Int) (h0 : 0 ≤ x) (h1 : x < 4294967296) (h2 : 0 ≤ y) (h3 : y < 4294967296) :
    bits BinOp.xor IntKind.u32 x y = ((BitVec.ofInt 32 x ^^^ BitVec.ofInt 32 y).toNat : Int) := by
  obtain ⟨n, rfl⟩ := Int.eq_ofNat_of_zero_le h0
  obtain ⟨m, rfl⟩ := Int.eq_ofNat_of_zero_le h2
  rw [u32_xor_nat n m (by omega) (by omega), BitVec.toNat_xor, ofInt_u32 n (by omega), ofInt_u32 m (by omega)]

theorem and1_b32 (x : Int) (h0 : 0 ≤ x) (h1 : x < 4294967296) : bits BinOp.and IntKind.u32 x 1 = x % 2 := by
  obtain ⟨n, rfl⟩ := Int.eq_ofNat_of_zero_le h0
  have := u32_and_nat n 1 (by omega) (by omega)
  rw [nat_mask1] at this
  exact this

theorem S1_toNat (v : BitVec 32) : ((S1 v).toNat : Int) = bits BinOp.xor IntKind.u32 ((v.toNat : Int) / 2) (3988292384 * bits BinOp.and IntKind.u32 (v.toNat : Int) 1 % 4294967296) := by
  have hv := v.isLt
  rw [and1_b32 _ (by omega) (by omega), xor_b32 _ _ (by omega) (by omega) (by omega) (by omega)]
  congr 2
  unfold S1
  congr 1
  · apply BitVec.eq_of_toNat_eq
    rw [show ((v.toNat : Int) / 2) = ((v.toNat / 2 : Nat) : Int) by omega, ofInt_u32 _ (by omega), BitVec.toNat_ushiftRight, Nat.shiftRight_eq_div_pow]
  · apply BitVec.eq_of_toNat_eq
    rw [show (3988292384 * ((v.toNat : Int) % 2) % 4294967296) = ((3988292384 * (v.toNat % 2) % 4294967296 : Nat) : Int) by omega, ofInt_u32 _ (by omega), BitVec.toNat_mul, BitVec.toNat_and]
    simp only [BitVec.toNat_ofNat]
    rw [show (1 : Nat) % 2 ^ 32 = 1 from rfl, nat_mask1]

/-! The same over Int, as a slot holds them. -/
@[irreducible] def snI (k : Nat) (r : Int) : Int := ((Sn k (BitVec.ofInt 32 r)).toNat : Int)
@[irreducible] def dvI (r c : Int) : Int := ((dvB (BitVec.ofInt 32 r) c).toNat : Int)
@[irreducible] def restI (s : Int) (l : List Int) : Int := ((foldB (~~~ (BitVec.ofInt 32 s)) l).toNat : Int)
@[irreducible] def moreI (s : Int) (l : List Int) : Int := ((~~~ (foldB (~~~ (BitVec.ofInt 32 s)) l)).toNat : Int)

theorem snI_bd (k : Nat) (r : Int) : 0 ≤ snI k r ∧ snI k r < 4294967296 := by
  unfold snI; exact ⟨by omega, by have := (Sn k (BitVec.ofInt 32 r)).isLt; omega⟩
theorem dvI_bd (k r : Int) : 0 ≤ dvI k r ∧ dvI k r < 4294967296 := by
  unfold dvI; exact ⟨by omega, by have := (dvB (BitVec.ofInt 32 k) r).isLt; omega⟩
theorem restI_bd (s : Int) (l : List Int) : 0 ≤ restI s l ∧ restI s l < 4294967296 := by
  unfold restI; exact ⟨by omega, by have := (foldB (~~~ (BitVec.ofInt 32 s)) l).isLt; omega⟩
theorem moreI_bd (s : Int) (l : List Int) : 0 ≤ moreI s l ∧ moreI s l < 4294967296 := by
  unfold moreI; exact ⟨by omega, by have := (~~~ (foldB (~~~ (BitVec.ofInt 32 s)) l)).isLt; omega⟩

theorem snI_zero (r : Int) (h0 : 0 ≤ r) (h1 : r < 4294967296) : snI 0 r = r := by
  unfold snI; exact b32_toNat r h0 h1
theorem snI_succ (k : Nat) (r : Int) : snI (k + 1) r = bits BinOp.xor IntKind.u32 (snI k r / 2) (3988292384 * bits BinOp.and IntKind.u32 (snI k r) 1 % 4294967296) := by
  unfold snI
  rw [show Sn (k + 1) (BitVec.ofInt 32 r) = S1 (Sn k (BitVec.ofInt 32 r)) from rfl, S1_toNat]
theorem dvI_of (r c : Int) (h0 : 0 ≤ r) (h1 : r < 4294967296) (h2 : 0 ≤ c) (h3 : c < 4294967296) : snI 8 (bits BinOp.xor IntKind.u32 r c) = dvI r c := by
  unfold snI dvI dvB
  rw [xor_b32 r c h0 h1 h2 h3, b32_nat]
theorem not_b32 (s : Int) (h0 : 0 ≤ s) (h1 : s < 4294967296) : bits BinOp.xor IntKind.u32 IntKind.u32.max s = ((~~~ (BitVec.ofInt 32 s)).toNat : Int) := by
  rw [max32, xor_b32 _ _ (by omega) (by omega) h0 h1]
  rw [show BitVec.ofInt 32 4294967295 = BitVec.allOnes 32 from rfl, BitVec.allOnes_xor]
theorem restI_nil (s : Int) (h0 : 0 ≤ s) (h1 : s < 4294967296) : restI s [] = bits BinOp.xor IntKind.u32 IntKind.u32.max s := by
  rw [not_b32 s h0 h1]; unfold restI foldB; rfl
theorem restI_snoc (s : Int) (l : List Int) (c : Int) : restI s (l ++ [c]) = dvI (restI s l) c := by
  unfold restI dvI foldB
  rw [List.foldl_append, b32_nat]; rfl
theorem moreI_of (s : Int) (l : List Int) : bits BinOp.xor IntKind.u32 IntKind.u32.max (restI s l) = moreI s l := by
  have hb := restI_bd s l
  rw [not_b32 _ hb.1 hb.2]
  unfold restI moreI
  rw [b32_nat]
theorem moreI_append (s : Int) (l m : List Int) : moreI (moreI s l) m = moreI s (l ++ m) := by
  unfold moreI
  rw [b32_nat, BitVec.not_not]
  unfold foldB
  rw [List.foldl_append]
theorem moreI_nil (s : Int) (h0 : 0 ≤ s) (h1 : s < 4294967296) : moreI s [] = s := by
  unfold moreI foldB
  simp only [List.foldl_nil, BitVec.not_not]
  exact b32_toNat s h0 h1
end Go.Proofs.Ytklecahihljnjaa
