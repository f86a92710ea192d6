/-
  Segments: their names, in order; what a log's files tell, one answer alone; what opening leaves (pure).
-/
import Derived.Test.YtmgbmphheagdmaaGreatDoorWA
import Derived.Test.YtmgbmphheagdmaaGreatDoorDL
namespace Go.Proofs.YtmgbmphheagdmaaGreatDoor

/-- k digits of a number, the greatest first. -/
def digsL : Nat → Nat → List UInt8
  | 0, _ => []
  | k + 1, n => UInt8.ofNat (48 + n / 10 ^ k % 10) :: digsL k n
def fileL (n : Nat) : List UInt8 := 119 :: digsL 12 n
abbrev mostS : Nat := 999999999999
theorem digsL_len : ∀ k n, (digsL k n).length = k
  | 0, _ => rfl
  | k + 1, n => by rw [digsL, List.length_cons, digsL_len k n]
theorem fileL_len (n : Nat) : (fileL n).length = 13 := by rw [fileL, List.length_cons, digsL_len]
theorem dig_nat (n k : Nat) : (UInt8.ofNat (48 + n / 10 ^ k % 10)).toNat = 48 + n / 10 ^ k % 10 := by
  rw [UInt8.toNat_ofNat']; omega
theorem digs_split (n k : Nat) : n % 10 ^ (k + 1) = n % 10 ^ k + 10 ^ k * (n / 10 ^ k % 10) := by rw [Nat.pow_succ, Nat.mod_mul]
theorem digs_cmp {p a b A B : Nat} (ha : a < p) (hb : b < p) : a + p * A < b + p * B ↔ A < B ∨ (A = B ∧ a < b) := by
  rcases Nat.lt_trichotomy A B with h | h | h
  · have h1 := Nat.mul_le_mul_left p (show A + 1 ≤ B from h)
    rw [Nat.mul_add, Nat.mul_one] at h1
    constructor
    · intro _; exact .inl h
    · intro _; omega
  · subst h
    constructor
    · intro h1; exact .inr ⟨rfl, by omega⟩
    · rintro (h1 | ⟨_, h1⟩) <;> omega
  · have h1 := Nat.mul_le_mul_left p (show B + 1 ≤ A from h)
    rw [Nat.mul_add, Nat.mul_one] at h1
    constructor
    · intro h2; omega
    · rintro (h2 | ⟨h2, _⟩) <;> omega
theorem digs_lt : ∀ k n m, ltL (digsL k n) (digsL k m) = true ↔ n % 10 ^ k < m % 10 ^ k
  | 0, n, m => by simp [digsL, ltL_nil, Nat.mod_one]
  | k + 1, n, m => by
    rw [digsL, digsL, ltL_cons, digs_lt k n m, dig_nat, dig_nat, digs_split, digs_split, digs_cmp (Nat.mod_lt _ (Nat.pow_pos (by decide))) (Nat.mod_lt _ (Nat.pow_pos (by decide)))]
    constructor
    · rintro (h | ⟨h, h2⟩)
      · exact .inl (by omega)
      · refine .inr ⟨?_, h2⟩
        have := congrArg UInt8.toNat h
        rw [dig_nat, dig_nat] at this; omega
    · rintro (h | ⟨h, h2⟩)
      · exact .inl (by omega)
      · exact .inr ⟨by rw [h], h2⟩
theorem file_lt {n m : Nat} (hn : n ≤ mostS) (hm : m ≤ mostS) : ltL (fileL n) (fileL m) = true ↔ n < m := by
  unfold fileL
  rw [ltL_cons, digs_lt]
  have e1 : n % 10 ^ 12 = n := Nat.mod_eq_of_lt (by unfold mostS at hn; omega)
  have e2 : m % 10 ^ 12 = m := Nat.mod_eq_of_lt (by unfold mostS at hm; omega)
  rw [e1, e2]
  constructor
  · rintro (h | ⟨_, h⟩)
    · exact absurd h (Nat.lt_irrefl _)
    · exact h
  · intro h; exact .inr ⟨rfl, h⟩
theorem file_inj {n m : Nat} (hn : n ≤ mostS) (hm : m ≤ mostS) (h : fileL n = fileL m) : n = m := by
  rcases Nat.lt_trichotomy n m with e | e | e
  · have := (file_lt hn hm).2 e; rw [h, ltL_irrefl] at this; cases this
  · exact e
  · have := (file_lt hm hn).2 e; rw [h, ltL_irrefl] at this; cases this

/-- What a file holds. -/
def contF (f : Fl) : List UInt8 := f.2.1 ++ f.2.2
def Seg (l : List Fl) (n : Nat) (b : List UInt8) : Prop := ∃ f ∈ l, f.1 = fileL n ∧ contF f = b
def HasSeg (l : List Fl) (n : Nat) : Prop := n ≤ mostS ∧ ∃ b, Seg l n b
def IsSeg (nm : List UInt8) : Prop := ∃ n, 1 ≤ n ∧ n ≤ mostS ∧ nm = fileL n
/-- A beginning. -/
def Beg (b : List UInt8) : Prop := ∃ m t, (∀ r ∈ m, rightR r) ∧ m.length ≤ top ∧ b = headL m.length ++ (framesL m ++ t)
/-- The body of a segment of the log that begins with segment F, and its head's length. -/
def BodyOf (l : List Fl) (F k : Nat) (b : List UInt8) (off : Nat) : Prop := (k = F ∧ ∃ c, c ≤ top ∧ off = (headL c).length ∧ Seg l k (headL c ++ b)) ∨ (k ≠ F ∧ off = 0 ∧ Seg l k b)
inductive Chain (l : List Fl) (F : Nat) : Nat → List Rc → Nat → Nat → Prop
  | torn {k b off m t} : BodyOf l F k b off → Scan b m t → t ≠ [] → Chain l F k m k (off + (framesL m).length)
  | last {k b off m} : BodyOf l F k b off → Scan b m [] → ¬ HasSeg l (k + 1) → Chain l F k m k (off + (framesL m).length)
  | more {k b off m m2 la sz} : BodyOf l F k b off → Scan b m [] → HasSeg l (k + 1) → Chain l F (k + 1) m2 la sz → Chain l F k (m ++ m2) la sz
theorem seg_unique {l : List Fl} (hr : RiseF l) {n : Nat} {b c : List UInt8} (h1 : Seg l n b) (h2 : Seg l n c) : b = c := by
  obtain ⟨f, hf, hn, rfl⟩ := h1
  obtain ⟨q, hq, hm, rfl⟩ := h2
  rw [rise_mem hr hf hq (hn.trans hm.symm)]
theorem body_unique {l : List Fl} (hr : RiseF l) {F k : Nat} {b c : List UInt8} {o p : Nat} (h1 : BodyOf l F k b o) (h2 : BodyOf l F k c p) : b = c ∧ o = p := by
  rcases h1 with ⟨e, x, hx, rfl, h1⟩ | ⟨e, rfl, h1⟩ <;> rcases h2 with ⟨e', y, hy, rfl, h2⟩ | ⟨e', rfl, h2⟩
  · obtain ⟨e3, e4⟩ := frame_inj (okH hx) (okH hy) (seg_unique hr h1 h2)
    refine ⟨e4, ?_⟩
    injection e3 with _ e3
    have : x = y := by omega
    rw [this]
  · exact absurd e e'
  · exact absurd e' e
  · exact ⟨seg_unique hr h1 h2, rfl⟩
theorem chain_unique {l : List Fl} (hr : RiseF l) {F k : Nat} {m m' : List Rc} {la la' sz sz' : Nat} (h1 : Chain l F k m la sz) (h2 : Chain l F k m' la' sz') : m = m' ∧ la = la' ∧ sz = sz' := by
  induction h1 generalizing m' la' sz' with
  | torn hb hs ht =>
    cases h2 with
    | torn hb2 hs2 ht2 =>
      obtain ⟨rfl, rfl⟩ := body_unique hr hb hb2
      obtain ⟨rfl, _⟩ := scan_unique hs hs2
      exact ⟨rfl, rfl, rfl⟩
    | last hb2 hs2 hn2 =>
      obtain ⟨rfl, rfl⟩ := body_unique hr hb hb2
      exact absurd (scan_unique hs hs2).2 ht
    | more hb2 hs2 hn2 hc2 =>
      obtain ⟨rfl, rfl⟩ := body_unique hr hb hb2
      exact absurd (scan_unique hs hs2).2 ht
  | last hb hs hn =>
    cases h2 with
    | torn hb2 hs2 ht2 =>
      obtain ⟨rfl, rfl⟩ := body_unique hr hb hb2
      exact absurd (scan_unique hs hs2).2.symm ht2
    | last hb2 hs2 hn2 =>
      obtain ⟨rfl, rfl⟩ := body_unique hr hb hb2
      obtain ⟨rfl, _⟩ := scan_unique hs hs2
      exact ⟨rfl, rfl, rfl⟩
    | more hb2 hs2 hn2 hc2 => exact absurd hn2 hn
  | more hb hs hn hc ih =>
    cases h2 with
    | torn hb2 hs2 ht2 =>
      obtain ⟨rfl, rfl⟩ := body_unique hr hb hb2
      exact absurd (scan_unique hs hs2).2.symm ht2
    | last hb2 hs2 hn2 => exact absurd hn hn2
    | more hb2 hs2 hn2 hc2 =>
      obtain ⟨rfl, rfl⟩ := body_unique hr hb hb2
      obtain ⟨rfl, _⟩ := scan_unique hs hs2
      obtain ⟨rfl, rfl, rfl⟩ := ih hc2
      exact ⟨rfl, rfl, rfl⟩
/-- What a log's files tell: its first and last segment, the last one's size, the records. -/
structure LogOf (l : List Fl) (F la sz : Nat) (m : List Rc) : Prop where
  first : 1 ≤ F
  most : F ≤ mostS
  beg : ∃ b, Seg l F b ∧ Beg b
  above : ∀ n b, F < n → n ≤ mostS → Seg l n b → ¬ Beg b
  chain : Chain l F F m la sz
/-- No segment starts with a beginning. -/
def NoLog (l : List Fl) : Prop := ∀ n b, 1 ≤ n → n ≤ mostS → Seg l n b → ¬ Beg b
/-- What opening tells. -/
def Tells (l : List Fl) (F la sz : Nat) (m : List Rc) : Prop := LogOf l F la sz m ∨ (NoLog l ∧ F = 0 ∧ la = 0 ∧ sz = 0 ∧ m = [])
theorem tells_unique {l : List Fl} (hr : RiseF l) {F F' la la' sz sz' : Nat} {m m' : List Rc} (h1 : Tells l F la sz m) (h2 : Tells l F' la' sz' m') : F = F' ∧ la = la' ∧ sz = sz' ∧ m = m' := by
  rcases h1 with h1 | ⟨n1, rfl, rfl, rfl, rfl⟩ <;> rcases h2 with h2 | ⟨n2, rfl, rfl, rfl, rfl⟩
  · have e : F = F' := by
      obtain ⟨b, hb, hg⟩ := h1.beg
      obtain ⟨c, hc, hk⟩ := h2.beg
      rcases Nat.lt_trichotomy F F' with e | e | e
      · exact absurd hk (h1.above F' c e h2.most hc)
      · exact e
      · exact absurd hg (h2.above F b e h1.most hb)
    subst e
    obtain ⟨rfl, rfl, rfl⟩ := chain_unique hr h1.chain h2.chain
    exact ⟨rfl, rfl, rfl, rfl⟩
  · obtain ⟨b, hb, hg⟩ := h1.beg
    exact absurd hg (n2 F b h1.first h1.most hb)
  · obtain ⟨b, hb, hg⟩ := h2.beg
    exact absurd hg (n1 F' b h2.first h2.most hb)
  · exact ⟨rfl, rfl, rfl, rfl⟩
/-- What opening leaves of the files. -/
structure Opened (l : List Fl) (F la sz : Nat) (l' : List Fl) : Prop where
  rise : RiseF l'
  mem : ∀ f', f' ∈ l' ↔ (f' ∈ l ∧ ¬ IsSeg f'.1) ∨ (∃ n, F ≤ n ∧ n < la ∧ 1 ≤ F ∧ f'.1 = fileL n ∧ f' ∈ l) ∨ ∃ f ∈ l, 1 ≤ F ∧ f.1 = fileL la ∧ f' = cutF sz f
end Go.Proofs.YtmgbmphheagdmaaGreatDoor
