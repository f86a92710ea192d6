/-
  Plain mathematics of the digest: words of 32 bits as bit vectors, blocks, what is absorbed; no program is named here.
-/
import Derived.WalkKit
import Derived.Laws.BitsAllLaws
namespace Go.Proofs.YtemiphbblaikjaaDoor

/-- A word as a slot holds it. -/
@[irreducible] def wI (x : BitVec 32) : Int := (x.toNat : Int)
theorem wI_eq (x : BitVec 32) : wI x = (x.toNat : Int) := by unfold wI; rfl
theorem wI_lo (x : BitVec 32) : 0 ≤ wI x := by unfold wI; omega
theorem wI_hi (x : BitVec 32) : wI x < 4294967296 := by unfold wI; have := x.isLt; omega
theorem wI_ofNat (n : Nat) (h : n < 4294967296) : wI (BitVec.ofNat 32 n) = n := by
  rw [wI_eq, BitVec.toNat_ofNat, Nat.mod_eq_of_lt h]
theorem wI_of (n : Int) (h0 : 0 ≤ n) (h1 : n < 4294967296) : ∃ x, n = wI x :=
  ⟨BitVec.ofNat 32 n.toNat, by rw [wI_ofNat _ (by omega)]; omega⟩

theorem wI_xor (x y : BitVec 32) : bits BinOp.xor IntKind.u32 (wI x) (wI y) = wI (x ^^^ y) := by
  rw [wI_eq, wI_eq, wI_eq, u32_xor_nat _ _ x.isLt y.isLt, BitVec.toNat_xor]
theorem wI_and (x y : BitVec 32) : bits BinOp.and IntKind.u32 (wI x) (wI y) = wI (x &&& y) := by
  rw [wI_eq, wI_eq, wI_eq, u32_and_nat _ _ x.isLt y.isLt, BitVec.toNat_and]
theorem wI_or (x y : BitVec 32) : bits BinOp.or IntKind.u32 (wI x) (wI y) = wI (x ||| y) := by
  rw [wI_eq, wI_eq, wI_eq, u32_or_nat _ _ x.isLt y.isLt, BitVec.toNat_or]
theorem wI_add (x y : BitVec 32) : (wI x + wI y) % 4294967296 = wI (x + y) := by
  rw [wI_eq, wI_eq, wI_eq, BitVec.toNat_add]; omega
theorem wI_shr (x : BitVec 32) (n : Nat) : wI x / (2 ^ n : Nat) = wI (x >>> n) := by
  rw [wI_eq, wI_eq, BitVec.toNat_ushiftRight, Nat.shiftRight_eq_div_pow]; rfl
theorem wI_shl (x : BitVec 32) (n : Nat) : wI x * (2 ^ n : Nat) % 4294967296 = wI (x <<< n) := by
  rw [wI_eq, wI_eq, BitVec.toNat_shiftLeft, Nat.shiftLeft_eq]
  rw [Int.natCast_emod, Int.natCast_mul]; rfl

theorem wI_shr3 (x : BitVec 32) : wI x / (8 : Int) = wI (x >>> 3) := wI_shr x 3
theorem wI_shr10 (x : BitVec 32) : wI x / (1024 : Int) = wI (x >>> 10) := wI_shr x 10

/-- A word turned to the right. -/
def rr (x : BitVec 32) (n : Nat) : BitVec 32 := (x >>> n) ||| (x <<< (32 - n))

/-- The eight words of a state. -/
structure St where
  a : BitVec 32
  b : BitVec 32
  c : BitVec 32
  d : BitVec 32
  e : BitVec 32
  f : BitVec 32
  g : BitVec 32
  h : BitVec 32
def St.toL (s : St) : List (BitVec 32) := [s.a, s.b, s.c, s.d, s.e, s.f, s.g, s.h]
def big1 (e : BitVec 32) : BitVec 32 := rr e 6 ^^^ rr e 11 ^^^ rr e 25
def big0 (a : BitVec 32) : BitVec 32 := rr a 2 ^^^ rr a 13 ^^^ rr a 22
def choice (e f g : BitVec 32) : BitVec 32 := (e &&& f) ^^^ (~~~ e &&& g)
def major (a b c : BitVec 32) : BitVec 32 := (a &&& b) ^^^ (a &&& c) ^^^ (b &&& c)
def tOne (s : St) (k w : BitVec 32) : BitVec 32 := s.h + big1 s.e + choice s.e s.f s.g + k + w
def rnd (s : St) (k w : BitVec 32) : St :=
  ⟨tOne s k w + big0 s.a + major s.a s.b s.c, s.a, s.b, s.c, s.d + tOne s k w, s.e, s.f, s.g⟩
def small0 (x : BitVec 32) : BitVec 32 := rr x 7 ^^^ rr x 18 ^^^ (x >>> 3)
def small1 (y : BitVec 32) : BitVec 32 := rr y 17 ^^^ rr y 19 ^^^ (y >>> 10)
def mixW (p q r s : BitVec 32) : BitVec 32 := p + small0 q + r + small1 s

/-- A word of a block. -/
def wordAt (B : List UInt8) (i : Nat) : BitVec 32 :=
  BitVec.ofNat 32 ((((B.getD (4 * i) 0).toNat * 256 + (B.getD (4 * i + 1) 0).toNat) * 256 + (B.getD (4 * i + 2) 0).toNat) * 256 + (B.getD (4 * i + 3) 0).toNat)
/-- The words for the rounds: those of the block, then so many mixtures. -/
def sched (B : List UInt8) : Nat → List (BitVec 32)
  | 0 => (List.range 16).map (wordAt B)
  | n + 1 => sched B n ++ [mixW ((sched B n).getD n 0) ((sched B n).getD (n + 1) 0) ((sched B n).getD (n + 9) 0) ((sched B n).getD (n + 14) 0)]
theorem sched_length (B : List UInt8) (n : Nat) : (sched B n).length = n + 16 := by
  induction n with
  | zero => simp [sched]
  | succ n ih => rw [sched, List.length_append, ih]; simp

/-- The words of the rounds. -/
def kkN : List Nat := [1116352408, 1899447441, 3049323471, 3921009573, 961987163, 1508970993, 2453635748, 2870763221, 3624381080, 310598401, 607225278, 1426881987, 1925078388, 2162078206, 2614888103, 3248222580, 3835390401, 4022224774, 264347078, 604807628, 770255983, 1249150122, 1555081692, 1996064986, 2554220882, 2821834349, 2952996808, 3210313671, 3336571891, 3584528711, 113926993, 338241895, 666307205, 773529912, 1294757372, 1396182291, 1695183700, 1986661051, 2177026350, 2456956037, 2730485921, 2820302411, 3259730800, 3345764771, 3516065817, 3600352804, 4094571909, 275423344, 430227734, 506948616, 659060556, 883997877, 958139571, 1322822218, 1537002063, 1747873779, 1955562222, 2024104815, 2227730452, 2361852424, 2428436474, 2756734187, 3204031479, 3329325298]
def kk (i : Nat) : BitVec 32 := BitVec.ofNat 32 (kkN.getD i 0)
def start : St := ⟨1779033703#32, 3144134277#32, 1013904242#32, 2773480762#32, 1359893119#32, 2600822924#32, 528734635#32, 1541459225#32⟩

/-- So many rounds. -/
def rds (w : List (BitVec 32)) (s : St) : Nat → St
  | 0 => s
  | n + 1 => rnd (rds w s n) (kk n) (w.getD n 0)
def addS (s t : St) : St := ⟨s.a + t.a, s.b + t.b, s.c + t.c, s.d + t.d, s.e + t.e, s.f + t.f, s.g + t.g, s.h + t.h⟩
/-- A block compressed. -/
def compr (s : St) (B : List UInt8) : St := addS s (rds (sched B 48) s 64)
/-- The state behind so many blocks of a content. -/
def hst (c : List UInt8) : Nat → St
  | 0 => start
  | n + 1 => compr (hst c n) ((c.drop (64 * n)).take 64)
theorem hst_append (c d : List UInt8) (n : Nat) (h : 64 * n ≤ c.length) : hst (c ++ d) n = hst c n := by
  induction n with
  | zero => rfl
  | succ n ih =>
    rw [hst, hst, ih (by omega), List.drop_append_of_le_length (by omega), List.take_append_of_le_length (by rw [List.length_drop]; omega)]

/-- A number in so many bytes, the highest first. -/
def numL (n size : Nat) : List UInt8 := (List.range size).map fun i => UInt8.ofNat (n / 256 ^ (size - 1 - i))
theorem numL_length (n size : Nat) : (numL n size).length = size := by simp [numL]
/-- The bytes of a state. -/
def dig (s : List (BitVec 32)) : List UInt8 := (List.range 32).map fun i => UInt8.ofNat ((s.getD (i / 4) 0).toNat / 2 ^ (24 - 8 * (i % 4)))
theorem dig_length (s : List (BitVec 32)) : (dig s).length = 32 := by simp [dig]
/-- How many noughts stand ahead of the length. -/
def zerosN (n : Nat) : Nat := (119 - n % 64) % 64
def padded (c : List UInt8) : List UInt8 := c ++ ([128] ++ List.replicate (zerosN c.length) 0 ++ numL (8 * c.length) 8)
theorem padded_length (c : List UInt8) : (padded c).length = c.length + 9 + zerosN c.length := by
  simp [padded, numL_length]; omega
theorem padded_mod (c : List UInt8) : (padded c).length % 64 = 0 := by
  rw [padded_length]; unfold zerosN; omega
/-- The digest. -/
@[irreducible] def sha (c : List UInt8) : List UInt8 := dig (hst (padded c) ((padded c).length / 64)).toL
theorem sha_length (c : List UInt8) : (sha c).length = 32 := by unfold sha; exact dig_length _
/-- Two digits a byte. -/
def digitB (n : Nat) : UInt8 := if n < 10 then UInt8.ofNat (48 + n) else UInt8.ofNat (87 + n)
def hexL (s : List UInt8) : List UInt8 := s.flatMap fun b => [digitB (b.toNat / 16), digitB (b.toNat % 16)]

theorem awake_hex : hexL (sha [97, 98, 99]) = [98, 97, 55, 56, 49, 54, 98, 102, 56, 102, 48, 49, 99, 102, 101, 97, 52, 49, 52, 49, 52, 48, 100, 101, 53, 100, 97, 101, 50, 50, 50, 51, 98, 48, 48, 51, 54, 49, 97, 51, 57, 54, 49, 55, 55, 97, 57, 99, 98, 52, 49, 48, 102, 102, 54, 49, 102, 50, 48, 48, 49, 53, 97, 100] := by
  decide +kernel
end Go.Proofs.YtemiphbblaikjaaDoor
