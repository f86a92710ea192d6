/- Texts of one claim, joined: OA OB OC OD OE OF. -/
import Derived.Test.YtmgbmphheagdmaaGreatDoorWB
/-
  A snapshot, its bytes and its file's name: one snapshot a text; a text that is cut, or of which one byte is another, is no snapshot's (pure).
-/
namespace Go.Proofs.YtmgbmphheagdmaaGreatDoor

theorem S1_if (r : BitVec 32) : S1 r = (r >>> 1) ^^^ (if r.getLsbD 0 then 0xEDB88320#32 else 0#32) := by
  unfold S1
  congr 1
  have h : r &&& 1#32 = if r.getLsbD 0 then 1#32 else 0#32 := by
    apply BitVec.eq_of_getLsbD_eq
    intro i hi
    by_cases h0 : i = 0
    · subst h0
      rw [BitVec.getLsbD_and]
      cases h : r.getLsbD 0 <;> simp
    · have : (1#32).getLsbD i = false := by
        rw [BitVec.getLsbD_one]; simp [h0]
      rw [BitVec.getLsbD_and, this]
      split <;> simp [BitVec.getLsbD_one, h0]
  rw [h]
  split <;> rfl

theorem xor_swap (a b c d : BitVec 32) : (a ^^^ b) ^^^ (c ^^^ d) = (a ^^^ c) ^^^ (b ^^^ d) := by
  rw [BitVec.xor_assoc, BitVec.xor_assoc, ← BitVec.xor_assoc b c d, BitVec.xor_comm b c, BitVec.xor_assoc]
theorem S1_xor (a b : BitVec 32) : S1 (a ^^^ b) = S1 a ^^^ S1 b := by
  rw [S1_if, S1_if, S1_if, BitVec.ushiftRight_xor_distrib, BitVec.getLsbD_xor, xor_swap]
  congr 1
  cases a.getLsbD 0 <;> cases b.getLsbD 0 <;> simp

theorem S1_zero : S1 0#32 = 0#32 := by decide

theorem S1_inj0 (x : BitVec 32) (h : S1 x = 0#32) : x = 0#32 := by
  rw [S1_if] at h
  have h31 : (x >>> 1).getLsbD 31 = false := by simp
  have := congrArg (fun v => v.getLsbD 31) h
  simp only [BitVec.getLsbD_xor, h31] at this
  by_cases h0 : x.getLsbD 0 = true
  · rw [if_pos h0] at this; simp at this
  · rw [if_neg h0] at h
    have h' : x >>> 1 = 0#32 := by simpa using h
    apply BitVec.eq_of_getLsbD_eq
    intro i hi
    rcases Nat.eq_zero_or_pos i with rfl | hp
    · simpa using h0
    · have := congrArg (fun v => v.getLsbD (i - 1)) h'
      simp only [BitVec.getLsbD_ushiftRight] at this
      rw [show 1 + (i - 1) = i by omega] at this
      simpa using this

theorem Sn_xor (n : Nat) (a b : BitVec 32) : Sn n (a ^^^ b) = Sn n a ^^^ Sn n b := by
  induction n with
  | zero => rfl
  | succ n ih => simp only [Sn, ih, S1_xor]
theorem Sn_zero (n : Nat) : Sn n 0#32 = 0#32 := by
  induction n with
  | zero => rfl
  | succ n ih => simp only [Sn, ih, S1_zero]
theorem Sn_inj0 (n : Nat) (x : BitVec 32) (h : Sn n x = 0#32) : x = 0#32 := by
  induction n with
  | zero => exact h
  | succ n ih => exact ih (S1_inj0 _ h)
theorem Sn_add (a b : Nat) (x : BitVec 32) : Sn (a + b) x = Sn a (Sn b x) := by
  induction a with
  | zero => rw [Nat.zero_add]; rfl
  | succ a ih => rw [Nat.succ_add]; simp only [Sn, ih]
theorem Sn_pow : ∀ k, k < 32 → Sn k (BitVec.ofNat 32 (2 ^ k)) = 1#32 := by decide +kernel

theorem dvB_xor (r d : BitVec 32) (c : Int) : dvB (r ^^^ d) c = dvB r c ^^^ Sn 8 d := by
  unfold dvB
  rw [BitVec.xor_assoc, BitVec.xor_comm d, ← BitVec.xor_assoc, Sn_xor]
theorem foldB_xor (l : List Int) (r d : BitVec 32) : foldB (r ^^^ d) l = foldB r l ^^^ Sn (8 * l.length) d := by
  unfold foldB
  induction l generalizing r d with
  | nil => rfl
  | cons c l ih =>
    simp only [List.foldl_cons, List.length_cons]
    rw [dvB_xor, ih, show 8 * (l.length + 1) = 8 * l.length + 8 by omega, Sn_add]

/-- One byte of two texts differs: the sums differ. -/
theorem crc_turn {l m : List UInt8} {x y : UInt8} (h : crcN (l ++ x :: m) = crcN (l ++ y :: m)) : x = y := by
  have hb := moreI_bd 0 ((l ++ x :: m).map fun b => (b.toNat : Int))
  have hc := moreI_bd 0 ((l ++ y :: m).map fun b => (b.toNat : Int))
  have e : moreI 0 ((l ++ x :: m).map fun b => (b.toNat : Int)) = moreI 0 ((l ++ y :: m).map fun b => (b.toNat : Int)) := by unfold crcN at h; omega
  unfold moreI at e
  have e1 := BitVec.eq_of_toNat_eq (Int.ofNat.inj e)
  have e2 : foldB (~~~ (BitVec.ofInt 32 0)) ((l ++ x :: m).map fun b => (b.toNat : Int)) = foldB (~~~ (BitVec.ofInt 32 0)) ((l ++ y :: m).map fun b => (b.toNat : Int)) := by
    have := congrArg (fun v => ~~~ v) e1
    simpa using this
  rw [List.map_append, List.map_append, List.map_cons, List.map_cons] at e2
  unfold foldB at e2
  rw [List.foldl_append, List.foldl_append, List.foldl_cons, List.foldl_cons] at e2
  generalize List.foldl dvB (~~~ (BitVec.ofInt 32 0)) (l.map fun b => (b.toNat : Int)) = r at e2
  generalize m.map (fun b => (b.toNat : Int)) = k at e2
  have e3 : foldB (dvB r x.toNat ^^^ (dvB r x.toNat ^^^ dvB r y.toNat)) k = foldB (dvB r x.toNat) k := by
    rw [← BitVec.xor_assoc, BitVec.xor_self, BitVec.zero_xor]; exact e2.symm
  rw [foldB_xor] at e3
  have e4 : Sn (8 * k.length) (dvB r x.toNat ^^^ dvB r y.toNat) = 0#32 := by
    have := congrArg (fun v => foldB (dvB r x.toNat) k ^^^ v) e3
    simp only [← BitVec.xor_assoc, BitVec.xor_self, BitVec.zero_xor] at this
    exact this
  have e5 := Sn_inj0 _ _ e4
  unfold dvB at e5
  rw [← Sn_xor] at e5
  have e6 := Sn_inj0 _ _ e5
  have e7 : BitVec.ofInt 32 (x.toNat : Int) = BitVec.ofInt 32 (y.toNat : Int) := by
    have h1 : BitVec.ofInt 32 (x.toNat : Int) ^^^ BitVec.ofInt 32 (y.toNat : Int) = 0#32 := by
      rw [xor_swap] at e6
      rwa [BitVec.xor_self, BitVec.zero_xor] at e6
    exact BitVec.xor_eq_zero_iff.1 h1
  have h1 := x.toNat_lt
  have h2 := y.toNat_lt
  have e8 := congrArg BitVec.toNat e7
  rw [ofInt_u32 _ (by omega), ofInt_u32 _ (by omega)] at e8
  exact UInt8.toNat_inj.1 e8
theorem crc_lt (l : List UInt8) : crcN l < 4294967296 := by
  unfold crcN
  have := moreI_bd 0 (l.map fun b => (b.toNat : Int))
  omega

/-- A snapshot. -/
structure Sh where
  i : Int
  t : Int
  d : List UInt8
def okS (s : Sh) : Prop := 0 ≤ s.i ∧ s.i ≤ 1099511627776 ∧ 0 ≤ s.t ∧ s.t ≤ 1099511627776 ∧ s.d.length ≤ 1048576
instance (s : Sh) : Decidable (okS s) := by unfold okS; infer_instance
def bodyS (s : Sh) : List UInt8 := encL s.i.toNat ++ (encL s.t.toNat ++ (encL s.d.length ++ s.d))
def textS (s : Sh) : List UInt8 := be4 (crcN (bodyS s)) ++ bodyS s
/-- A snapshot's file's name. -/
def shotL (n : Nat) : List UInt8 := 115 :: digsL 13 n
theorem shotL_len (n : Nat) : (shotL n).length = 14 := by rw [shotL, List.length_cons, digsL_len]
theorem shot_lt {n m : Nat} (hn : n < 10000000000000) (hm : m < 10000000000000) : ltL (shotL n) (shotL m) = true ↔ n < m := by
  unfold shotL
  rw [ltL_cons, digs_lt]
  have e1 : n % 10 ^ 13 = n := Nat.mod_eq_of_lt (by omega)
  have e2 : m % 10 ^ 13 = m := Nat.mod_eq_of_lt (by omega)
  rw [e1, e2]
  constructor
  · rintro (h | ⟨_, h⟩)
    · exact absurd h (Nat.lt_irrefl _)
    · exact h
  · intro h; exact .inr ⟨rfl, h⟩
theorem shot_inj {n m : Nat} (hn : n < 10000000000000) (hm : m < 10000000000000) (h : shotL n = shotL m) : n = m := by
  rcases Nat.lt_trichotomy n m with e | e | e
  · have := (shot_lt hn hm).2 e; rw [h, ltL_irrefl] at this; cases this
  · exact e
  · have := (shot_lt hm hn).2 e; rw [h, ltL_irrefl] at this; cases this

theorem body_cancel {a b : Sh} {x y : List UInt8} (ha : okS a) (hb : okS b) (h : bodyS a ++ x = bodyS b ++ y) : a = b ∧ x = y := by
  unfold okS at ha hb
  unfold bodyS at h
  simp only [List.append_assoc] at h
  obtain ⟨e1, h⟩ := enc_cancel (by unfold top; omega) (by unfold top; omega) h
  obtain ⟨e2, h⟩ := enc_cancel (by unfold top; omega) (by unfold top; omega) h
  obtain ⟨e3, h⟩ := enc_cancel (by unfold top; omega) (by unfold top; omega) h
  obtain ⟨e4, e5⟩ := List.append_inj h e3
  obtain ⟨i, t, d⟩ := a
  obtain ⟨i', t', d'⟩ := b
  simp only at *
  exact ⟨by rw [show i = i' by omega, show t = t' by omega, e4], e5⟩
theorem text_cancel {a b : Sh} {x y : List UInt8} (ha : okS a) (hb : okS b) (h : textS a ++ x = textS b ++ y) : a = b ∧ x = y := by
  unfold textS at h
  rw [List.append_assoc, List.append_assoc] at h
  exact body_cancel ha hb (List.append_inj h rfl).2
theorem text_inj {a b : Sh} (ha : okS a) (hb : okS b) (h : textS a = textS b) : a = b := (text_cancel (x := []) (y := []) ha hb (by rw [h])).1
/-- A text that is cut is no snapshot's. -/
theorem text_cut {a b : Sh} (ha : okS a) (hb : okS b) {n : Nat} (hn : n < (textS a).length) : textS b ≠ (textS a).take n := fun e => by
  have h : textS a ++ [] = textS b ++ (textS a).drop n := by rw [e, List.take_append_drop, List.append_nil]
  have := congrArg List.length (text_cancel ha hb h).2
  rw [List.length_drop, List.length_nil] at this
  omega
/-- A text of which one byte is another is no snapshot's. -/
theorem text_turn {a b : Sh} (ha : okS a) (hb : okS b) {l m : List UInt8} {x y : UInt8} (h : textS a = l ++ x :: m) (hxy : x ≠ y) : textS b ≠ l ++ y :: m := fun e => by
  by_cases hl : l.length < 4
  · have h1 := congrArg (List.drop 4) h
    have h2 := congrArg (List.drop 4) e
    have d : ∀ z : UInt8, (l ++ z :: m).drop 4 = m.drop (3 - l.length) := fun z => by
      rw [List.drop_append, List.drop_eq_nil_of_le (by omega), List.nil_append, show 4 - l.length = (3 - l.length) + 1 by omega, List.drop_succ_cons]
    rw [d] at h1 h2
    have h3 : bodyS a ++ [] = bodyS b ++ [] := by
      rw [List.append_nil, List.append_nil]
      exact h1.trans h2.symm
    have h4 := (body_cancel ha hb h3).1
    rw [← h4, h] at e
    exact hxy (List.cons.inj (List.append_cancel_left e)).1
  · have hl4 : l = l.take 4 ++ l.drop 4 := (List.take_append_drop 4 l).symm
    have t4 : (l.take 4).length = 4 := by rw [List.length_take]; omega
    rw [hl4, List.append_assoc] at h e
    unfold textS at h e
    obtain ⟨c1, b1⟩ := List.append_inj h (by rw [t4]; rfl)
    obtain ⟨c2, b2⟩ := List.append_inj e (by rw [t4]; rfl)
    have hc := be4_inj (crc_lt _) (crc_lt _) (c1.trans c2.symm)
    rw [b1, b2] at hc
    exact hxy (crc_turn hc)
theorem body_le {s : Sh} (h : okS s) : (bodyS s).length ≤ 1048603 := by
  unfold okS at h
  have e2 := encL_le9 (n := s.i.toNat) (by unfold top; omega)
  have e3 := encL_le9 (n := s.t.toNat) (by unfold top; omega)
  have e5 := encL_le9 (n := s.d.length) (by unfold top; omega)
  unfold bodyS
  simp only [List.length_append]
  omega
theorem text_len (s : Sh) : (textS s).length = 4 + (bodyS s).length := by unfold textS; rw [List.length_append, be4_len]
end Go.Proofs.YtmgbmphheagdmaaGreatDoor

/-
  Snapshots on a disk: the whole files, the newest one; what Save and Clean do (pure).
-/
namespace Go.Proofs.YtmgbmphheagdmaaGreatDoor

/-- A file is a snapshot's, wholly. -/
def WholeF (f : Fl) (s : Sh) : Prop := okS s ∧ f.1 = shotL s.i.toNat ∧ contF f = textS s
theorem whole_unique {f : Fl} {a b : Sh} (h : WholeF f a) (k : WholeF f b) : a = b := text_inj h.1 k.1 (h.2.2.symm.trans k.2.2)
theorem okS_lt {s : Sh} (h : okS s) : s.i.toNat < 10000000000000 := by unfold okS at h; omega
structure NewF (l : List Fl) (s : Sh) : Prop where
  here : ∃ f ∈ l, WholeF f s
  most : ∀ f ∈ l, ∀ q, WholeF f q → q.i ≤ s.i
/-- What Load tells. -/
def LoadF (l : List Fl) : Option Sh → Prop
  | some s => NewF l s
  | none => ∀ f ∈ l, ∀ q, ¬ WholeF f q
theorem rise_one {l : List Fl} (hr : RiseF l) {f g : Fl} (hf : f ∈ l) (hg : g ∈ l) (h : f.1 = g.1) : f = g := by
  obtain ⟨i, hi⟩ := List.mem_iff_getElem?.1 hf
  obtain ⟨j, hj⟩ := List.mem_iff_getElem?.1 hg
  have h1 := atN_rise hr hi
  have h2 := atN_rise hr hj
  rw [h] at h1
  rw [h1] at h2
  injection h2 with h2
  subst h2
  rw [hi] at hj
  injection hj
theorem new_unique {l : List Fl} (hr : RiseF l) {a b : Sh} (h : NewF l a) (k : NewF l b) : a = b := by
  obtain ⟨f, hf, hfa⟩ := h.here
  obtain ⟨g, hg, hgb⟩ := k.here
  have e : a.i = b.i := Int.le_antisymm (k.most f hf a hfa) (h.most g hg b hgb)
  have := rise_one hr hf hg (by rw [hfa.2.1, hgb.2.1, e])
  subst this
  exact whole_unique hfa hgb
theorem load_unique {l : List Fl} (hr : RiseF l) : ∀ {a b : Option Sh}, LoadF l a → LoadF l b → a = b
  | some a, some b, h, k => by rw [new_unique hr h k]
  | none, none, _, _ => rfl
  | some a, none, h, k => by obtain ⟨f, hf, hfa⟩ := h.here; exact absurd hfa (k f hf a)
  | none, some b, h, k => by obtain ⟨f, hf, hfa⟩ := k.here; exact absurd hfa (h f hf b)
theorem load_nil : LoadF [] none := fun f hf => by cases hf
/-- One file more, behind the others. -/
theorem load_snoc_whole {l : List Fl} {o : Option Sh} {f : Fl} {s : Sh} (h : LoadF l o) (hf : WholeF f s) (hm : ∀ q, o = some q → q.i ≤ s.i) : LoadF (l ++ [f]) (some s) := by
  refine ⟨⟨f, by simp, hf⟩, fun g hg q hq => ?_⟩
  rcases List.mem_append.1 hg with hg | hg
  · cases o with
    | none => exact absurd hq (h g hg q)
    | some p => exact Int.le_trans (h.most g hg q hq) (hm p rfl)
  · rw [List.mem_singleton] at hg
    subst hg
    rw [whole_unique hq hf]
    exact Int.le_refl _
theorem load_snoc_not {l : List Fl} {o : Option Sh} {f : Fl} (h : LoadF l o) (hf : ∀ q, ¬ WholeF f q) : LoadF (l ++ [f]) o := by
  cases o with
  | none =>
    intro g hg q hq
    rcases List.mem_append.1 hg with hg | hg
    · exact h g hg q hq
    · rw [List.mem_singleton] at hg; subst hg; exact hf q hq
  | some s =>
    obtain ⟨⟨g, hg, hgs⟩, hm⟩ := h
    refine ⟨⟨g, by simp [hg], hgs⟩, fun k hk q hq => ?_⟩
    rcases List.mem_append.1 hk with hk | hk
    · exact hm k hk q hq
    · rw [List.mem_singleton] at hk; subst hk; exact absurd hq (hf q)
theorem load_snoc_less {l : List Fl} {p s : Sh} {f : Fl} (h : LoadF l (some p)) (hf : WholeF f s) (hm : s.i ≤ p.i) : LoadF (l ++ [f]) (some p) := by
  obtain ⟨⟨g, hg, hgs⟩, hk⟩ := h
  refine ⟨⟨g, by simp [hg], hgs⟩, fun k hk' q hq => ?_⟩
  rcases List.mem_append.1 hk' with h' | h'
  · exact hk k h' q hq
  · rw [List.mem_singleton] at h'; subst h'; rw [whole_unique hq hf]; exact hm

/-- The file is written by one Append and synced. -/
def putS (s : Sh) (d : St) : Int × St :=
  let r := appendS (shotL s.i.toNat) (textS s) d
  if r.1 ≠ 0 then r else syncS (shotL s.i.toNat) r.2
/-- What Save answers and leaves. -/
def saveS (s : Sh) (d : St) : Int × St :=
  if ¬ okS s then (1, d) else if d.off = true then (7, d) else match atN (shotL s.i.toNat) d.files with
    | none => putS s d
    | some i => match d.files[i]? with
      | none => putS s d
      | some f => if contF f = textS s then (0, d) else
          let r := removeS (shotL s.i.toNat) d
          if r.1 ≠ 0 then r else putS s r.2
/-- A name has the form of a snapshot's. -/
def FormS (nm : List UInt8) : Prop := nm.length = 14 ∧ nm.head? = some 115 ∧ ∀ b ∈ nm.drop 1, 48 ≤ b.toNat ∧ b.toNat ≤ 57
instance (nm : List UInt8) : Decidable (FormS nm) := by unfold FormS; infer_instance
/-- Files are removed, one by one, up to the first error. -/
def remS : List (List UInt8) → St → Int × St
  | [], d => (0, d)
  | nm :: l, d => let r := removeS nm d; if r.1 ≠ 0 then r else remS l r.2
/-- The names that Clean removes, with the newest one's name. -/
def goneS (o : Option Sh) (l : List Fl) : List (List UInt8) :=
  (l.map (·.1)).filter fun nm => decide (FormS nm) && !(match o with | some s => decide (nm = shotL s.i.toNat) | none => false)
/-- What Clean answers and leaves, if o is the newest one. -/
def cleanS (o : Option Sh) (d : St) : Int × St := if d.off = true then (7, d) else remS (goneS o d.files) d
theorem digs_form : ∀ k n, ∀ b ∈ digsL k n, 48 ≤ b.toNat ∧ b.toNat ≤ 57
  | 0, _, b, h => by cases h
  | k + 1, n, b, h => by
    rw [digsL] at h
    rcases List.mem_cons.1 h with h | h
    · subst h; rw [dig_nat]; omega
    · exact digs_form k n b h
theorem form_shot (n : Nat) : FormS (shotL n) := ⟨shotL_len n, rfl, fun b h => digs_form 13 n b h⟩
end Go.Proofs.YtmgbmphheagdmaaGreatDoor

/-
  Wherever the power goes in a Save of a newer snapshot and the Clean behind it: the elder one or the new one (pure).
-/
namespace Go.Proofs.YtmgbmphheagdmaaGreatDoor

theorem ltL_irr (a : List UInt8) : ltL a a = false := ltL_irrefl a
/-- A snapshot's file, synced; one whose first p bytes are there, none of them synced. -/
def doneF (s : Sh) : Fl := (shotL s.i.toNat, textS s, [])
def lateF (s : Sh) : Fl := (shotL s.i.toNat, [], textS s)
theorem whole_done {s : Sh} (h : okS s) : WholeF (doneF s) s := ⟨h, rfl, by unfold contF doneF; simp⟩
/-- A part of a snapshot's text is that snapshot's wholly, or none's. -/
theorem whole_part {s : Sh} (h : okS s) (n : Nat) : WholeF (shotL s.i.toNat, (textS s).take n, []) s ∨ ∀ q, ¬ WholeF (shotL s.i.toNat, (textS s).take n, []) q := by
  by_cases hn : n < (textS s).length
  · refine .inr fun q hq => ?_
    have := hq.2.2
    unfold contF at this
    simp only [List.append_nil] at this
    exact text_cut h hq.1 hn this.symm
  · refine .inl ⟨h, rfl, ?_⟩
    unfold contF
    simp only [List.append_nil]
    exact List.take_of_length_le (by omega)
/-- A disk on which a snapshot stands, synced. -/
def oneS (a : Sh) (fuse : Int) (off : Bool) : St := ⟨[doneF a], 8388608, fuse, off⟩
variable {a b : Sh}
theorem used_done (a : Sh) : usedL [doneF a] = (textS a).length := by simp [usedL, doneF, sizeF]
theorem text_bd {s : Sh} (h : okS s) : (textS s).length ≤ 1048607 := by rw [text_len]; have := body_le h; omega
theorem name_lt (ha : okS a) (hb : okS b) (h : a.i < b.i) : ltL (shotL a.i.toNat) (shotL b.i.toNat) = true := (shot_lt (okS_lt ha) (okS_lt hb)).2 (by have := ha.1; omega)
theorem name_ne (ha : okS a) (hb : okS b) (h : a.i < b.i) : shotL a.i.toNat ≠ shotL b.i.toNat := fun e => by
  have := shot_inj (okS_lt ha) (okS_lt hb) e
  have := ha.1; omega
theorem at_other (ha : okS a) (hb : okS b) (h : a.i < b.i) : atN (shotL b.i.toNat) [doneF a] = none := by
  rw [atN_skip (show (doneF a).1 ≠ _ from name_ne ha hb h)]; rfl
theorem put_other (ha : okS a) (hb : okS b) (h : a.i < b.i) : putF (shotL b.i.toNat) (textS b) [doneF a] = [doneF a, lateF b] := by
  unfold putF
  rw [at_other ha hb h]
  have : placeL (shotL b.i.toNat) [doneF a] = 1 := by
    show (if ltL (doneF a).1 (shotL b.i.toNat) = true then _ else _) = _
    rw [if_pos (show ltL (doneF a).1 _ = true from name_lt ha hb h)]; rfl
  simp only [this]
  rfl
theorem save_other (hr : rightL (shotL b.i.toNat) = true) (ha : okS a) (hb : okS b) (h : a.i < b.i) (fz : Int) (hf : 0 ≤ fz) :
    saveS b (oneS a fz false) = if fz = 0 then (7, oneS a 0 true) else if fz = 1 then (7, ⟨[doneF a, lateF b], 8388608, 0, true⟩) else (0, ⟨[doneF a, doneF b], 8388608, fz - 2, false⟩) := by
  unfold saveS
  rw [if_neg (by simpa using hb), if_neg (by simp [oneS])]
  rw [show (oneS a fz false).files = [doneF a] from rfl, at_other ha hb h]
  simp only
  have ub : ¬ (oneS a fz false).room < ((usedL (oneS a fz false).files + (textS b).length : Nat) : Int) := by
    have h1 := text_bd ha; have h2 := text_bd hb
    show ¬ (8388608 : Int) < ((usedL [doneF a] + (textS b).length : Nat) : Int)
    rw [used_done]; omega
  unfold putS
  by_cases h0 : fz = 0
  · subst h0
    rw [appendS_burnt _ _ _ rfl hr ub rfl, if_pos rfl]
    rfl
  · rw [if_neg h0, appendS_done _ _ _ rfl hr ub (by simp [burnS, oneS, h0])]
    rw [show (oneS a fz false).files = [doneF a] from rfl, put_other ha hb h]
    have hp : 0 < fz := by omega
    have h2 : atN (shotL b.i.toNat) [doneF a, lateF b] = some 1 := by
      rw [atN_skip (show (doneF a).1 ≠ _ from name_ne ha hb h), show atN (shotL b.i.toNat) [lateF b] = some 0 from atN_hit rfl]; rfl
    simp only [ne_eq, not_true_eq_false, if_false]
    unfold syncS onS
    by_cases h1 : fz = 1
    · subst h1
      simp [burnS, oneS, h2]
    · simp [burnS, oneS, h2, h0, h1, hp, show ¬ fz - 1 = 0 by omega, show fz - 1 - 1 = fz - 2 by omega]
      exact ⟨rfl, by omega⟩
theorem load_both (ha : okS a) (hb : okS b) (h : a.i < b.i) : LoadF [doneF a, doneF b] (some b) :=
  load_snoc_whole (l := [doneF a]) (load_snoc_whole (l := []) load_nil (whole_done ha) fun q hq => by cases hq) (whole_done hb) fun q hq => by cases hq; omega
theorem load_one (ha : okS a) : LoadF [doneF a] (some a) := load_snoc_whole (l := []) load_nil (whole_done ha) fun q hq => by cases hq
theorem gone_both (ha : okS a) (hb : okS b) (h : a.i < b.i) : goneS (some b) [doneF a, doneF b] = [shotL a.i.toNat] := by
  unfold goneS
  simp [doneF, form_shot, name_ne ha hb h]
theorem clean_both (ha : okS a) (hb : okS b) (h : a.i < b.i) (fz : Int) (hf : 0 ≤ fz) : cleanS (some b) ⟨[doneF a, doneF b], 8388608, fz, false⟩ =
    if fz = 0 then (7, ⟨[doneF a, doneF b], 8388608, 0, true⟩) else (0, ⟨[doneF b], 8388608, fz - 1, false⟩) := by
  unfold cleanS
  rw [if_neg (by simp)]
  rw [gone_both ha hb h]
  have h2 : atN (shotL a.i.toNat) [doneF a, doneF b] = some 0 := atN_hit rfl
  unfold remS removeS onS
  by_cases h0 : fz = 0
  · subst h0; simp [burnS, h2]
  · have hp : 0 < fz := by omega
    simp [burnS, h2, h0, hp, remS]
theorem crash_done (keep : List Int) (n : Nat) : ∀ l : List Fl, (∀ f ∈ l, f.2.2 = []) → crashL keep n l = l
  | [], _ => rfl
  | f :: l, h => by
    have h1 := h f (by simp)
    obtain ⟨x, y, z⟩ := f
    simp only at h1
    subst h1
    rw [crashL, if_pos rfl, crash_done keep n l fun g hg => h g (by simp [hg])]
theorem crash_late (keep : List Int) (ha : okS a) (hb : okS b) (h : a.i < b.i) : ∃ s, LoadF (crashL keep 0 [doneF a, lateF b]) (some s) ∧ (s = a ∨ s = b) := by
  have e : crashL keep 0 [doneF a, lateF b] = [doneF a] ++ [(shotL b.i.toNat, (textS b).take (keepN keep 0 (textS b).length), [])] := by
    rw [crashL, if_pos (by rfl), crashL, if_neg (by show ¬ textS b = []; intro e; have := congrArg List.length e; rw [text_len] at this; simp at this)]
    rfl
  rw [e]
  rcases whole_part hb (keepN keep 0 (textS b).length) with hw | hw
  · exact ⟨b, load_snoc_whole (load_one ha) hw fun q hq => by cases hq; omega, .inr rfl⟩
  · exact ⟨a, load_snoc_not (load_one ha) hw, .inl rfl⟩
/-- The law. -/
theorem crash_two (hr : rightL (shotL b.i.toNat) = true) (ha : okS a) (hb : okS b) (h : a.i < b.i) (fz : Int) (hf : 0 ≤ fz) (keep : List Int) (o : Option Sh) (ho : LoadF (saveS b (oneS a fz false)).2.files o) :
    ∃ s, LoadF (crashS keep (cleanS o (saveS b (oneS a fz false)).2).2).files (some s) ∧ (s = b ∨ s = a ∧ (saveS b (oneS a fz false)).1 ≠ 0) ∧
      ((cleanS o (saveS b (oneS a fz false)).2).1 = 0 → (saveS b (oneS a fz false)).1 = 0 → (crashS keep (cleanS o (saveS b (oneS a fz false)).2).2).files.length = 1) := by
  rw [save_other hr ha hb h fz hf] at ho ⊢
  by_cases h0 : fz = 0
  · rw [if_pos h0]
    refine ⟨a, ?_, .inr ⟨rfl, show (7 : Int) ≠ 0 by decide⟩, fun _ h => by cases h⟩
    show LoadF (crashL keep 0 (cleanS o (oneS a 0 true)).2.files) _
    rw [show (cleanS o (oneS a 0 true)).2.files = [doneF a] from rfl, crash_done keep 0 _ (fun f hf => by rw [List.mem_singleton] at hf; subst hf; rfl)]
    exact load_one ha
  · rw [if_neg h0] at ho ⊢
    by_cases h1 : fz = 1
    · rw [if_pos h1]
      obtain ⟨s, hs, hc⟩ := crash_late keep ha hb h
      exact ⟨s, hs, by rcases hc with rfl | rfl <;> simp, fun _ h => by cases h⟩
    · rw [if_neg h1] at ho ⊢
      have hrise : RiseF [doneF a, doneF b] := by
        unfold RiseF; rw [List.pairwise_cons]
        exact ⟨fun g hg => by rw [List.mem_singleton] at hg; subst hg; exact name_lt ha hb h, by simp⟩
      have e := load_unique hrise ho (load_both ha hb h)
      subst e
      simp only
      rw [clean_both ha hb h (fz - 2) (by omega)]
      have hd : ∀ f ∈ [doneF a, doneF b], f.2.2 = [] := fun f hf => by
        rcases List.mem_cons.1 hf with rfl | hf
        · rfl
        · rw [List.mem_singleton] at hf; subst hf; rfl
      by_cases h2 : fz - 2 = 0
      · rw [if_pos h2]
        refine ⟨b, ?_, .inl rfl, fun h => by cases h⟩
        show LoadF (crashL keep 0 [doneF a, doneF b]) _
        rw [crash_done keep 0 _ hd]; exact load_both ha hb h
      · rw [if_neg h2]
        refine ⟨b, ?_, .inl rfl, fun _ _ => ?_⟩
        · show LoadF (crashL keep 0 [doneF b]) _
          rw [crash_done keep 0 _ fun f hf => hd f (by simp at hf ⊢; exact .inr hf)]; exact load_one hb
        · show (crashL keep 0 [doneF b]).length = 1
          rw [crashL_length]; rfl
end Go.Proofs.YtmgbmphheagdmaaGreatDoor

/-
  A snapshot's file that is cut, or has one byte changed, counts no more; Save puts it right (pure). Save into an empty disk.
-/
namespace Go.Proofs.YtmgbmphheagdmaaGreatDoor

variable {s : Sh}
theorem save_new (hr : rightL (shotL s.i.toNat) = true) (h : okS s) : saveS s (newS 8388608) = (0, oneS s (-1) false) := by
  unfold saveS
  rw [if_neg (by simpa using h), if_neg (by simp [newS])]
  rw [show (newS 8388608).files = [] from rfl, show atN (shotL s.i.toNat) [] = none from rfl]
  simp only
  unfold putS
  have ub : ¬ (newS 8388608).room < ((usedL (newS 8388608).files + (textS s).length : Nat) : Int) := by
    have h2 := text_bd h
    show ¬ (8388608 : Int) < ((usedL [] + (textS s).length : Nat) : Int)
    simp only [usedL]; omega
  rw [appendS_done _ _ _ rfl hr ub (by simp [burnS, newS])]
  have hp : putF (shotL s.i.toNat) (textS s) [] = [lateF s] := rfl
  have ha : atN (shotL s.i.toNat) [lateF s] = some 0 := atN_hit rfl
  rw [show (newS 8388608).files = [] from rfl, hp]
  simp [syncS, onS, burnS, newS, ha, oneS]
  rfl
def leftF (s : Sh) (n : Nat) (t : List UInt8) : Fl := (shotL s.i.toNat, (textS s).take n, t)
def leftS (s : Sh) (n : Nat) (t : List UInt8) : St := ⟨[leftF s n t], 8388608, -1, false⟩
theorem cut_one (n : Nat) (hn : n ≤ (textS s).length) : cutS (shotL s.i.toNat) n (oneS s (-1) false) = (0, leftS s n []) := by
  have ha : atN (shotL s.i.toNat) [doneF s] = some 0 := atN_hit rfl
  unfold cutS onS
  have hb : cutBad n [doneF s] 0 = none := by
    unfold cutBad
    simp [doneF, sizeF]
    omega
  simp [oneS, ha, hb, burnS, leftS, leftF]
  unfold cutF doneF
  simp [Nat.min_eq_left hn]
theorem append_left (n : Nat) (t : List UInt8) (hr : rightL (shotL s.i.toNat) = true) (hb : n + t.length ≤ 8388608) :
    appendS (shotL s.i.toNat) t (leftS s n []) = (0, leftS s n t) := by
  have ub : ¬ (leftS s n []).room < ((usedL (leftS s n []).files + t.length : Nat) : Int) := by
    show ¬ (8388608 : Int) < ((usedL [leftF s n []] + t.length : Nat) : Int)
    simp only [usedL, leftF, sizeF, List.length_take, List.length_nil]; omega
  rw [appendS_done _ _ _ rfl hr ub (by simp [burnS, leftS])]
  have ha : atN (shotL s.i.toNat) [leftF s n []] = some 0 := atN_hit rfl
  have hp : putF (shotL s.i.toNat) t [leftF s n []] = [leftF s n t] := by
    unfold putF
    rw [ha]
    rfl
  rw [show (leftS s n []).files = [leftF s n []] from rfl, hp]
  rfl
theorem cut_not (h : okS s) {n : Nat} (hn : n < (textS s).length) : LoadF (leftS s n []).files none := by
  intro f hf q hq
  have : f = leftF s n [] := by simpa [leftS] using hf
  subst this
  have h2 := hq.2.2
  unfold contF leftF at h2
  simp only [List.append_nil] at h2
  exact text_cut h hq.1 hn h2.symm
theorem turned_not (h : okS s) {n : Nat} (hn : n < (textS s).length) {y : UInt8} (hy : (textS s)[n] ≠ y) : ∀ q, ¬ WholeF (leftF s n (y :: (textS s).drop (n + 1))) q := fun q hq => by
  have e : textS s = (textS s).take n ++ (textS s)[n] :: (textS s).drop (n + 1) := by
    rw [← List.drop_eq_getElem_cons hn, List.take_append_drop]
  exact text_turn h hq.1 e hy hq.2.2.symm
theorem load_turned (h : okS s) {n : Nat} (hn : n < (textS s).length) {y : UInt8} (hy : (textS s)[n] ≠ y) : LoadF (leftS s n (y :: (textS s).drop (n + 1))).files none := by
  intro f hf
  have : f = leftF s n (y :: (textS s).drop (n + 1)) := by simpa [leftS] using hf
  subst this
  exact turned_not h hn hy
/-- Save over a file of that name which holds something else. -/
theorem save_left (hr : rightL (shotL s.i.toNat) = true) (h : okS s) (n : Nat) (t : List UInt8) (ht : contF (leftF s n t) ≠ textS s) : saveS s (leftS s n t) = (0, oneS s (-1) false) := by
  have ha : atN (shotL s.i.toNat) [leftF s n t] = some 0 := atN_hit rfl
  have hrm : removeS (shotL s.i.toNat) (leftS s n t) = (0, newS 8388608) := by
    unfold removeS onS
    simp [leftS, ha, burnS, newS]
  have hput : putS s (newS 8388608) = (0, oneS s (-1) false) := by
    have := save_new hr h
    unfold saveS at this
    rw [if_neg (by simpa using h), if_neg (by simp [newS]), show (newS 8388608).files = [] from rfl, show atN (shotL s.i.toNat) [] = none from rfl] at this
    exact this
  unfold saveS
  rw [if_neg (by simpa using h), if_neg (by simp [leftS])]
  simp only [show (leftS s n t).files = [leftF s n t] from rfl, ha]
  simp only [List.getElem?_cons_zero]
  rw [if_neg ht, hrm]
  exact hput
end Go.Proofs.YtmgbmphheagdmaaGreatDoor

/-
  A Save on any disk that is up and has room; many of them, and the Clean behind: ShotLast's core (pure).
-/
namespace Go.Proofs.YtmgbmphheagdmaaGreatDoor

theorem rise_filter {l : List Fl} (h : RiseF l) (p : Fl → Bool) : RiseF (l.filter p) := h.sublist List.filter_sublist
theorem usedL_filter (p : Fl → Bool) : ∀ l : List Fl, usedL (l.filter p) ≤ usedL l
  | [] => Nat.le_refl _
  | f :: l => by
    have := usedL_filter p l
    rw [List.filter_cons]
    split
    · simp only [usedL]; omega
    · simp only [usedL]; omega
theorem burn_none {s : St} (ho : s.off = false) (hf : s.fuse = -1) : burnS s = s := by
  obtain ⟨a, b, c, d⟩ := s
  simp only at ho hf
  subst ho hf
  rfl
theorem take_drop_filter {l : List Fl} (hr : RiseF l) {i : Nat} {f : Fl} (h : l[i]? = some f) : l.take i ++ l.drop (i + 1) = l.filter fun x => decide (x.1 ≠ f.1) := by
  induction l generalizing i with
  | nil => simp at h
  | cons g l ih =>
    cases i with
    | zero =>
      obtain rfl : g = f := by simpa using h
      rw [List.filter_cons, if_neg (by simp)]
      simp only [List.take_zero, List.nil_append, List.drop_succ_cons, List.drop_zero]
      exact (List.filter_eq_self.2 (fun x hx => by simpa using (rise_after hr x hx).2)).symm
    | succ i =>
      have hf : l[i]? = some f := by simpa using h
      have hne : g.1 ≠ f.1 := fun e => (rise_after hr f (List.mem_of_getElem? hf)).2 e.symm
      rw [List.filter_cons, if_pos (by simpa using hne), List.take_succ_cons, List.drop_succ_cons, List.cons_append, ih (rise_rest hr) hf]
theorem remove_ok {s : St} (hr : RiseF s.files) (ho : s.off = false) (hf : s.fuse = -1) {f : Fl} (h : f ∈ s.files) : removeS f.1 s = (0, { s with files := s.files.filter fun x => decide (x.1 ≠ f.1) }) := by
  obtain ⟨i, hi⟩ := List.mem_iff_getElem?.1 h
  unfold removeS onS
  rw [if_neg (by rw [ho]; simp), atN_rise hr hi]
  simp only
  rw [burn_none ho hf, if_neg (by rw [ho]; simp), take_drop_filter hr hi]
theorem modify_map {l : List Fl} (hr : RiseF l) {i : Nat} {f : Fl} (h : l[i]? = some f) (g : Fl → Fl) : l.modify i g = l.map fun x => if x.1 = f.1 then g x else x := by
  induction l generalizing i with
  | nil => simp at h
  | cons y l ih =>
    cases i with
    | zero =>
      obtain rfl : y = f := by simpa using h
      rw [List.modify_zero_cons, List.map_cons, if_pos rfl]
      congr 1
      have : l.map (fun x => if x.1 = y.1 then g x else x) = l.map id := List.map_congr_left fun x hx => by rw [if_neg (rise_after hr x hx).2]; rfl
      rw [this, List.map_id]
    | succ i =>
      have hf : l[i]? = some f := by simpa using h
      have hne : y.1 ≠ f.1 := fun e => (rise_after hr f (List.mem_of_getElem? hf)).2 e.symm
      rw [List.modify_succ_cons, List.map_cons, if_neg hne, ih (rise_rest hr) hf]
theorem rise_eq {a b : List Fl} (ha : RiseF a) (hb : RiseF b) (h : ∀ f, f ∈ a ↔ f ∈ b) : a = b := by
  have hnd : ∀ {a : List Fl}, RiseF a → a.Nodup := fun h => h.imp fun {x y} hxy e => by rw [e, ltL_irrefl] at hxy; cases hxy
  exact List.Perm.eq_of_pairwise (fun a b _ _ ha hb => absurd (ltL_asymm ha) (by rw [hb]; simp)) ha hb ((List.perm_ext_iff_of_nodup (hnd ha) (hnd hb)).2 h)

theorem putF_none {nm : List UInt8} (b : List UInt8) {l : List Fl} (h : atN nm l = none) : putF nm b l = l.take (placeL nm l) ++ (nm, [], b) :: l.drop (placeL nm l) := putF_new b h
theorem sync_ok {s : St} (hr : RiseF s.files) (ho : s.off = false) (hf : s.fuse = -1) {f : Fl} (h : f ∈ s.files) : syncS f.1 s = (0, { s with files := s.files.map fun x => if x.1 = f.1 then syncF x else x }) := by
  obtain ⟨i, hi⟩ := List.mem_iff_getElem?.1 h
  unfold syncS onS
  rw [if_neg (by rw [ho]; simp), atN_rise hr hi]
  simp only
  rw [burn_none ho hf, if_neg (by rw [ho]; simp), modify_map hr hi]
theorem usedL_map (g : Fl → Fl) (hg : ∀ f, sizeF (g f) = sizeF f) : ∀ l : List Fl, usedL (l.map g) = usedL l
  | [] => rfl
  | f :: l => by rw [List.map_cons, usedL, usedL, usedL_map g hg l, hg]
theorem atN_not {nm : List UInt8} : ∀ {l : List Fl}, (∀ f ∈ l, f.1 ≠ nm) → atN nm l = none
  | [], _ => rfl
  | f :: l, h => by rw [atN_skip (h f (by simp)), atN_not fun g hg => h g (by simp [hg])]; rfl
/-- What putS leaves, where no file has that name. -/
theorem put_ok {s : Sh} {d : St} (hn : rightL (shotL s.i.toNat) = true) (hr : RiseF d.files) (ho : d.off = false) (hf : d.fuse = -1) (ha : atN (shotL s.i.toNat) d.files = none)
    (hu : ((usedL d.files + (textS s).length : Nat) : Int) ≤ d.room) :
    ∃ fs, putS s d = (0, { d with files := fs }) ∧ RiseF fs ∧ usedL fs ≤ usedL d.files + (textS s).length ∧ ∀ f, f ∈ fs ↔ f = doneF s ∨ f ∈ d.files := by
  have hno := atN_none ha
  have e1 : appendS (shotL s.i.toNat) (textS s) d = (0, { d with files := d.files.take (placeL (shotL s.i.toNat) d.files) ++ lateF s :: d.files.drop (placeL (shotL s.i.toNat) d.files) }) := by
    rw [appendS_done _ _ _ ho hn (by omega) (by rw [burn_none ho hf]; exact ho), burn_none ho hf, putF_none _ ha]
    rfl
  have hus := (put_used (shotL s.i.toNat) (textS s) d.files).1
  rw [putF_none _ ha] at hus
  have hrise : RiseF (d.files.take (placeL (shotL s.i.toNat) d.files) ++ lateF s :: d.files.drop (placeL (shotL s.i.toNat) d.files)) := put_rise (x := lateF s) rfl hr ha
  have hmem : ∀ f, f ∈ d.files.take (placeL (shotL s.i.toNat) d.files) ++ lateF s :: d.files.drop (placeL (shotL s.i.toNat) d.files) ↔ f = lateF s ∨ f ∈ d.files := fun f => by
    constructor
    · exact put_mem
    · rintro (rfl | h)
      · simp
      · rw [← List.take_append_drop (placeL (shotL s.i.toNat) d.files) d.files] at h
        rcases List.mem_append.1 h with h | h
        · simp [h]
        · simp [h]
  change usedL (d.files.take (placeL (shotL s.i.toNat) d.files) ++ lateF s :: d.files.drop (placeL (shotL s.i.toNat) d.files)) ≤ _ at hus
  generalize d.files.take (placeL (shotL s.i.toNat) d.files) ++ lateF s :: d.files.drop (placeL (shotL s.i.toNat) d.files) = L at e1 hus hrise hmem
  have e2 := sync_ok (s := { d with files := L }) (f := lateF s) hrise ho hf ((hmem _).2 (.inl rfl))
  refine ⟨L.map fun x => if x.1 = (lateF s).1 then syncF x else x, ?_, ?_, ?_, ?_⟩
  · unfold putS
    rw [e1]
    simp only [ne_eq, not_true_eq_false, if_false]
    exact e2
  · refine rise_names ?_ hrise
    rw [List.map_map]
    refine List.map_congr_left fun x _ => ?_
    simp only [Function.comp]
    split <;> rfl
  · rw [usedL_map _ fun f => by
      split
      · unfold syncF sizeF; simp
      · rfl]
    exact hus
  · intro f
    rw [List.mem_map]
    constructor
    · rintro ⟨x, hx, rfl⟩
      rcases (hmem x).1 hx with rfl | hx
      · exact .inl (by rw [if_pos rfl]; rfl)
      · rw [if_neg (show ¬ x.1 = (lateF s).1 from hno x hx)]; exact .inr hx
    · rintro (rfl | h)
      · exact ⟨lateF s, (hmem _).2 (.inl rfl), by rw [if_pos rfl]; rfl⟩
      · exact ⟨f, (hmem _).2 (.inr h), by rw [if_neg (show ¬ f.1 = (lateF s).1 from hno f h)]⟩
/-- What Save leaves on a disk that is up, has no fuse and has room. -/
theorem save_ok {s : Sh} {d : St} (hn : rightL (shotL s.i.toNat) = true) (hs : okS s) (hr : RiseF d.files) (ho : d.off = false) (hf : d.fuse = -1) (hu : ((usedL d.files + (textS s).length : Nat) : Int) ≤ d.room) :
    ∃ fs, saveS s d = (0, { d with files := fs }) ∧ RiseF fs ∧ usedL fs ≤ usedL d.files + (textS s).length ∧
      ((∀ f, f ∈ fs ↔ f = doneF s ∨ (f ∈ d.files ∧ f.1 ≠ shotL s.i.toNat)) ∨ (fs = d.files ∧ ∃ f ∈ d.files, f.1 = shotL s.i.toNat ∧ contF f = textS s)) := by
  unfold saveS
  rw [if_neg (by simpa using hs), if_neg (by rw [ho]; simp)]
  cases ha : atN (shotL s.i.toNat) d.files with
  | none =>
    obtain ⟨fs, h1, h2, h3, h4⟩ := put_ok hn hr ho hf ha hu
    refine ⟨fs, h1, h2, h3, .inl fun f => ?_⟩
    rw [h4]
    exact ⟨fun h => h.imp id fun h => ⟨h, atN_none ha f h⟩, fun h => h.imp id fun h => h.1⟩
  | some i =>
    obtain ⟨f, hi, hfn⟩ := atN_some ha
    simp only [hi]
    by_cases hc : contF f = textS s
    · rw [if_pos hc]
      exact ⟨d.files, rfl, hr, by omega, .inr ⟨rfl, f, List.mem_of_getElem? hi, hfn, hc⟩⟩
    · rw [if_neg hc]
      have hrm := remove_ok hr ho hf (List.mem_of_getElem? hi)
      rw [hfn] at hrm
      simp only [hrm, ne_eq, not_true_eq_false, if_false]
      have hu1 := usedL_filter (fun x : Fl => decide (x.1 ≠ shotL s.i.toNat)) d.files
      have hnone : atN (shotL s.i.toNat) (d.files.filter fun x => decide (x.1 ≠ shotL s.i.toNat)) = none := atN_not fun x hx => by simpa using (List.mem_filter.1 hx).2
      obtain ⟨fs, h1, h2, h3, h4⟩ := put_ok (d := { d with files := d.files.filter fun x => decide (x.1 ≠ shotL s.i.toNat) }) hn (rise_filter hr _) ho hf hnone
        (by show ((usedL (d.files.filter fun x => decide (x.1 ≠ shotL s.i.toNat)) + (textS s).length : Nat) : Int) ≤ d.room; omega)
      refine ⟨fs, h1, h2, Nat.le_trans h3 (Nat.add_le_add_right hu1 _), .inl fun g => ?_⟩
      rw [h4, show ({ d with files := d.files.filter fun x => decide (x.1 ≠ shotL s.i.toNat) } : St).files = d.files.filter fun x => decide (x.1 ≠ shotL s.i.toNat) from rfl, List.mem_filter]
      simp
/-- Whole files alone, each synced. -/
structure Kept (d : St) : Prop where
  off : d.off = false
  fuse : d.fuse = -1
  rise : RiseF d.files
  done : ∀ f ∈ d.files, ∃ q, okS q ∧ f = doneF q
def bestS (o : Option Sh) (s : Sh) : Option Sh := match o with
  | none => some s
  | some p => if p.i ≤ s.i then some s else some p
theorem whole_doneF {q s : Sh} (hq : okS q) (h : WholeF (doneF q) s) : s = q := whole_unique h (whole_done hq)
theorem save_kept {s : Sh} {d : St} {o : Option Sh} (h : Kept d) (hl : LoadF d.files o) (hn : rightL (shotL s.i.toNat) = true) (hs : okS s) (hu : ((usedL d.files + (textS s).length : Nat) : Int) ≤ d.room) :
    ∃ fs, saveS s d = (0, { d with files := fs }) ∧ Kept { d with files := fs } ∧ usedL fs ≤ usedL d.files + (textS s).length ∧ LoadF fs (bestS o s) := by
  obtain ⟨fs, h1, h2, h3, h4⟩ := save_ok hn hs h.rise h.off h.fuse hu
  have hm : ∀ f, f ∈ fs ↔ f = doneF s ∨ (f ∈ d.files ∧ f.1 ≠ shotL s.i.toNat) := by
    rcases h4 with h4 | ⟨rfl, f, hf, hfn, hfc⟩
    · exact h4
    · obtain ⟨q, hq, rfl⟩ := h.done f hf
      have : s = q := whole_doneF hq ⟨hs, hfn, hfc⟩
      subst this
      intro g
      constructor
      · intro hg
        by_cases e : g.1 = shotL s.i.toNat
        · exact .inl (rise_one h.rise hg hf e)
        · exact .inr ⟨hg, e⟩
      · rintro (rfl | hg)
        · exact hf
        · exact hg.1
  refine ⟨fs, h1, ⟨h.off, h.fuse, h2, fun f hf => ?_⟩, h3, ?_⟩
  · rcases (hm f).1 hf with rfl | ⟨hf, _⟩
    · exact ⟨s, hs, rfl⟩
    · exact h.done f hf
  · have here : ∃ f ∈ fs, WholeF f s := ⟨doneF s, (hm _).2 (.inl rfl), whole_done hs⟩
    cases o with
    | none =>
      refine ⟨here, fun f hf q hq => ?_⟩
      rcases (hm f).1 hf with rfl | ⟨hf, _⟩
      · rw [whole_doneF hs hq]; exact Int.le_refl _
      · exact absurd hq (hl f hf q)
    | some p =>
      unfold bestS
      by_cases hp : p.i ≤ s.i
      · simp only [if_pos hp]
        refine ⟨here, fun f hf q hq => ?_⟩
        rcases (hm f).1 hf with rfl | ⟨hf, _⟩
        · rw [whole_doneF hs hq]; exact Int.le_refl _
        · exact Int.le_trans (hl.most f hf q hq) hp
      · simp only [if_neg hp]
        obtain ⟨f, hf, hfp⟩ := hl.here
        refine ⟨⟨f, (hm f).2 (.inr ⟨hf, fun e => ?_⟩), hfp⟩, fun g hg q hq => ?_⟩
        · have := shot_inj (okS_lt hfp.1) (okS_lt hs) (hfp.2.1.symm.trans e)
          have h0 := hfp.1.1
          have h1 := hs.1
          omega
        · rcases (hm g).1 hg with rfl | ⟨hg, _⟩
          · rw [whole_doneF hs hq]; omega
          · exact hl.most g hg q hq
theorem remS_ok : ∀ (l : List (List UInt8)) (d : St), d.off = false → d.fuse = -1 → RiseF d.files → l.Nodup → (∀ nm ∈ l, ∃ f ∈ d.files, f.1 = nm) →
    remS l d = (0, { d with files := d.files.filter fun x => decide (x.1 ∉ l) })
  | [], d, _, _, _, _, _ => by
    rw [remS, List.filter_eq_self.2 (fun x _ => by simp)]
  | nm :: l, d, ho, hf, hr, hd, hm => by
    obtain ⟨f, hfm, rfl⟩ := hm nm (by simp)
    obtain ⟨hd1, hd2⟩ := List.nodup_cons.1 hd
    rw [remS]
    simp only [remove_ok hr ho hf hfm, ne_eq, not_true_eq_false, if_false]
    rw [remS_ok l { d with files := d.files.filter fun x => decide (x.1 ≠ f.1) } ho hf (rise_filter hr _) hd2 (fun nm' hn => by
      obtain ⟨g, hg, rfl⟩ := hm nm' (by simp [hn])
      exact ⟨g, List.mem_filter.2 ⟨hg, decide_eq_true fun (e : g.1 = f.1) => hd1 (e ▸ hn)⟩, rfl⟩)]
    simp only [List.filter_filter]
    congr 2
    refine List.filter_congr fun x _ => ?_
    simp only [List.mem_cons, not_or, Bool.decide_and, ne_eq, Bool.and_comm]
theorem clean_kept {d : St} {p : Sh} (h : Kept d) (hl : NewF d.files p) : cleanS (some p) d = (0, { d with files := [doneF p] }) := by
  unfold cleanS
  rw [if_neg (by rw [h.off]; simp)]
  have hnames : (d.files.map (·.1)).Nodup := by
    rw [List.Nodup, List.pairwise_map]
    exact h.rise.imp fun hlt e => by rw [e, ltL_irrefl] at hlt; cases hlt
  rw [remS_ok (goneS (some p) d.files) d h.off h.fuse h.rise (hnames.sublist List.filter_sublist) (fun nm hn => by
    obtain ⟨f, hf, rfl⟩ := List.mem_map.1 (List.mem_filter.1 hn).1
    exact ⟨f, hf, rfl⟩)]
  obtain ⟨f, hf, hfp⟩ := hl.here
  have hfd : f = doneF p := by
    obtain ⟨q, hq, rfl⟩ := h.done f hf
    rw [whole_doneF hq hfp]
  subst hfd
  congr 2
  refine rise_eq (rise_filter h.rise _) (by simp [RiseF]) fun g => ?_
  rw [List.mem_filter, List.mem_singleton]
  constructor
  · rintro ⟨hg, hn⟩
    obtain ⟨q, hq, rfl⟩ := h.done g hg
    refine rise_one h.rise hg hf ?_
    have hn' : (doneF q).1 ∉ goneS (some p) d.files := by simpa using hn
    refine Classical.byContradiction fun e => hn' ?_
    unfold goneS
    refine List.mem_filter.2 ⟨List.mem_map.2 ⟨_, hg, rfl⟩, ?_⟩
    have e' : shotL q.i.toNat ≠ shotL p.i.toNat := e
    simp [doneF, form_shot, e']
  · rintro rfl
    refine ⟨hf, ?_⟩
    simp [goneS, doneF]
end Go.Proofs.YtmgbmphheagdmaaGreatDoor

/-
  A snapshot's file's name is a right name; how much the snapshots' files hold (pure).
-/
namespace Go.Proofs.YtmgbmphheagdmaaGreatDoor

theorem size_pl {b : UInt8} {l : List UInt8} (h : b.toNat ≤ 127) : sizeL (b :: l) = 1 := by
  unfold sizeL
  exact if_pos ⟨by simp, Nat.zero_le _, h⟩
theorem name_pl {b : UInt8} {l : List UInt8} (h : (97 ≤ b.toNat ∧ b.toNat ≤ 122) ∨ (48 ≤ b.toNat ∧ b.toNat ≤ 57)) : nameP ((b :: l).take (sizeL (b :: l))) = true := by
  rw [size_pl (by omega)]
  unfold nameP
  rw [if_pos (by simp)]
  have : byteN (List.take 1 (b :: l)) 0 = b.toNat := rfl
  rw [this]
  exact decide_eq_true (by omega)
theorem pl_restR : ∀ (l : List UInt8) (j : Nat), (∀ b ∈ l, (97 ≤ b.toNat ∧ b.toNat ≤ 122) ∨ (48 ≤ b.toNat ∧ b.toNat ≤ 57)) → 1 ≤ j → restR j l = decide (j + l.length ≤ 24)
  | [], j, _, hj => by rw [restR_nil]; exact decide_eq_decide.2 (by simp; omega)
  | b :: l, j, h, hj => by
    have hb := h b (by simp)
    rw [restR_step j _ (by rw [size_pl (by omega)]; omega) (name_pl hb) (fun e => by omega), size_pl (by omega)]
    show restR (j + 1) l = _
    rw [pl_restR l (j + 1) (fun x hx => h x (by simp [hx])) (by omega)]
    exact decide_eq_decide.2 (by rw [List.length_cons]; omega)
theorem digs_pl : ∀ (k n : Nat), ∀ b ∈ digsL k n, (97 ≤ b.toNat ∧ b.toNat ≤ 122) ∨ (48 ≤ b.toNat ∧ b.toNat ≤ 57)
  | 0, _, b, h => by cases h
  | k + 1, n, b, h => by
    rcases List.mem_cons.1 h with rfl | h
    · rw [dig_nat]; omega
    · exact digs_pl k n b h
theorem right_shot (n : Nat) : rightL (shotL n) = true := by
  rw [← restR_0, shotL, restR_step 0 _ (by rw [size_pl (by decide)]; omega) (name_pl (by decide)) (fun _ => by show (115 : UInt8).toNat ≠ 45; decide), size_pl (by decide)]
  show restR 1 (digsL 13 n) = true
  rw [pl_restR _ 1 (digs_pl 13 n) (by omega), digsL_len]
  exact decide_eq_true (by omega)
/-- A text's length by its bytes. -/
theorem text_le {s : Sh} (h : okS s) : (textS s).length ≤ s.d.length + 31 := by
  unfold okS at h
  have e2 := encL_le9 (n := s.i.toNat) (by unfold top; omega)
  have e3 := encL_le9 (n := s.t.toNat) (by unfold top; omega)
  have e5 := encL_le9 (n := s.d.length) (by unfold top; omega)
  rw [text_len]
  unfold bodyS
  simp only [List.length_append]
  omega
/-- A name of the form is some number's. -/
theorem form_digs : ∀ (l : List UInt8), (∀ b ∈ l, 48 ≤ b.toNat ∧ b.toNat ≤ 57) → ∃ n, n < 10 ^ l.length ∧ l = digsL l.length n
  | [], _ => ⟨0, by decide, rfl⟩
  | b :: l, h => by
    obtain ⟨n, hn, hl⟩ := form_digs l fun x hx => h x (by simp [hx])
    have hb := h b (by simp)
    have hp : 0 < 10 ^ l.length := Nat.pow_pos (by decide)
    refine ⟨(b.toNat - 48) * 10 ^ l.length + n, ?_, ?_⟩
    · rw [List.length_cons, Nat.pow_succ]
      have := Nat.mul_le_mul_right (10 ^ l.length) (show b.toNat - 48 + 1 ≤ 10 by omega)
      rw [Nat.succ_mul] at this
      omega
    · have e1 : ((b.toNat - 48) * 10 ^ l.length + n) / 10 ^ l.length = b.toNat - 48 := by
        rw [Nat.add_comm, Nat.add_mul_div_right _ _ hp, Nat.div_eq_of_lt hn]; omega
      rw [List.length_cons, digsL, e1]
      congr 1
      · apply UInt8.toNat_inj.1
        rw [UInt8.toNat_ofNat']; omega
      · have e2 : ∀ k m, k ≤ l.length → digsL k (m * 10 ^ l.length + n) = digsL k n := by
          intro k m
          induction k with
          | zero => intro _; rfl
          | succ k ih =>
            intro hk
            rw [digsL, digsL, ih (by omega)]
            congr 3
            have : 10 ^ l.length = 10 ^ k * (10 * 10 ^ (l.length - k - 1)) := by
              rw [← Nat.pow_succ', ← Nat.pow_add]; congr 1; omega
            rw [this, show m * (10 ^ k * (10 * 10 ^ (l.length - k - 1))) = 10 ^ k * (10 * (m * 10 ^ (l.length - k - 1))) by
              simp only [Nat.mul_left_comm], Nat.mul_add_div (Nat.pow_pos (by decide))]
            rw [Nat.mul_add_mod]
        rw [e2 _ _ (Nat.le_refl _)]; exact hl
theorem form_shotL {nm : List UInt8} (h : FormS nm) : ∃ n, n < 10000000000000 ∧ nm = shotL n := by
  obtain ⟨h1, h2, h3⟩ := h
  cases nm with
  | nil => cases h2
  | cons b l =>
    have hl : l.length = 13 := by simpa using h1
    obtain ⟨n, hn, e⟩ := form_digs l h3
    rw [hl] at hn e
    injection h2 with h2
    exact ⟨n, hn, by rw [shotL, ← e, h2]⟩
end Go.Proofs.YtmgbmphheagdmaaGreatDoor
