/- Texts of one claim, joined: Mem Str SA Gen. -/
import Derived.Test.YtmgbmphheagdmaaGreatDoorRows
import Derived.WalkKit
import Derived.ProofKit
import Derived.WalkLawsBesides
import Derived.WalkSpells
import Derived.Deep.Draws
import Derived.Lib.Hide
import Derived.Laws.OwnMore
import Derived.Laws.Rows
import Derived.Below
import Derived.Laws.CopyOwn
import Derived.Lib.BufferWrite
import Derived.Laws.IdiomStrings
import Derived.Lib.Strings
import Derived.Lib.Slices
import Derived.Lib.Small
import Derived.Lib.Walk
import Derived.Deep.AppendLies
import Derived.Deep.RegionLaw
import Derived.Deep.RegionHeld3
import Derived.Deep.CutRange
import Derived.BigQuiet
/-
  Rows of bytes and of words in memory: what a cell reads, what a store makes of them (carried over from layer 2).
-/
namespace Go.Proofs.YtmgbmphheagdmaaGreatDoor
open Go.RowKit

/-- The cells of bytes, of words. -/
@[irreducible] def byC (l : List UInt8) : List Value := l.map fun b => .int .u8 (b.toNat : Int)
theorem byC_eq (l : List UInt8) : byC l = l.map fun b => Value.int .u8 (b.toNat : Int) := by unfold byC; rfl
theorem byC_length (l : List UInt8) : (byC l).length = l.length := by simp [byC_eq]
theorem byC_append (l m : List UInt8) : byC (l ++ m) = byC l ++ byC m := by simp [byC_eq]
/-- Block g is just these cells, and none is frozen. -/
def Holds (w : World) (g : Nat) (t : TypeId) (cs : List Value) : Prop := w.heap[g]? = some (.cells cs.toArray t (0, 0))

section
variable {w w' : World} {g : Nat} {t : TypeId} {cs : List Value}
theorem Holds.lt (h : Holds w g t cs) : g < w.heap.size := (Array.getElem?_eq_some_iff.1 h).1
theorem Holds.cell (h : Holds w g t cs) {i : Nat} {v : Value} (hv : cs[i]? = some v) : w.cell? ⟨g, i, none⟩ = some v := by
  rw [cell_of_row w g i _ t _ h]; simpa using hv
theorem Holds.frozen (h : Holds w g t cs) (i : Nat) : w.frozen? ⟨g, i, none⟩ = false := frozen_of_row w g i _ t h
theorem Holds.set (h : Holds w g t cs) (i : Nat) (v : Value) : Holds (w.setCell ⟨g, i, none⟩ v) g t (cs.set i v) := by
  unfold Holds
  rw [heap_setCell_same w g i _ t v h]; simp
theorem Holds.aside (h : Holds w g t cs) {a : Addr} (ha : g ≠ a.block) (v : Value) : Holds (w.setCell a v) g t cs := (heap_setCell_other w a g v ha).trans h
theorem Holds.alloc (h : Holds w g t cs) (o : Obj) : Holds (w.alloc o) g t cs := (Below.heap_alloc w o g h.lt).trans h
theorem Holds.new (w : World) (t : TypeId) (cs : Array Value) : Holds (w.alloc (.cells cs t)) w.heap.size t cs.toList := by
  unfold Holds; rw [heap_alloc_new]
theorem Holds.below {B : Nat} (h : Holds w g t cs) (hb : Below B w w') (hg : g < B) : Holds w' g t cs := (hb.block g hg).trans h
theorem Holds.grown {row : Option Nat} (h : Holds w g t cs) (hb : w.grownBy w' row) (hg : some g ≠ row) : Holds w' g t cs := (hb.block g h.lt hg).trans h
theorem Holds.rowAside (h : Holds w g t cs) {k : Nat} (hk : g ≠ k) (cs' : Array Value) : Holds (w.setRow k cs') g t cs := (setRow_other w k g cs' hk).trans h
theorem Holds.row (h : Holds w g t cs) (cs' : List Value) : Holds (w.setRow g cs'.toArray) g t cs' := setRow_heap w g _ _ t _ h
end
theorem Holds.drewN' {w : World} {g : Nat} {t : TypeId} {cs : List Value} (h : Holds w g t cs) (n : Nat) : Holds (w.drewN n) g t cs := h
theorem below_drewN {B : Nat} {a w : World} (h : Below B a w) (n : Nat) : Below B a (w.drewN n) := ⟨h.os, h.tape, h.output, h.size, h.block⟩
/-- The world under one name, with what is known of it. -/
theorem world_name {P : Program} {ops : Array Oper} {rest : List Oper} {a : Act} {Q : Exit → Act → World → Prop} {w : World} (F : World → Prop) (hf : F w) (h : ∀ w', F w' → wpList P ops Q rest a w') : wpList P ops Q rest a w := h w hf
theorem byC_at {l : List UInt8} {i : Nat} (h : i < l.length) : (byC l)[i]? = some (.int .u8 ((l.getD i 0).toNat : Int)) := by
  rw [byC_eq, List.getElem?_map, List.getElem?_eq_getElem h, List.getD_eq_getElem?_getD, List.getElem?_eq_getElem h]; rfl
theorem set_mid {α : Type} (L R : List α) (x y : α) (k : Nat) (hk : L.length = k) : (L ++ y :: R).set k x = (L ++ [x]) ++ R := by
  subst hk
  rw [List.set_append_right _ _ (Nat.le_refl _), Nat.sub_self]; simp
/-- The next of the noughts behind what stands there. -/
theorem byC_put (L : List UInt8) (x : UInt8) (v : Int) (k m : Nat) (hk : L.length = k) (hm : k < m) (hv : (x.toNat : Int) = v) :
    (byC (L ++ List.replicate (m - k) 0)).set k (.int .u8 v) = byC ((L ++ [x]) ++ List.replicate (m - (k + 1)) 0) := by
  subst hv
  rw [show m - k = (m - (k + 1)) + 1 by omega, List.replicate_succ, byC_append, byC_append, byC_append]
  simp only [byC_eq, List.map_cons]
  rw [set_mid _ _ _ _ _ (by simp [hk])]; rfl
theorem getD_left {α : Type} (L R : List α) (k : Nat) (d : α) (h : k < L.length) : (L ++ R).getD k d = L.getD k d := by
  rw [List.getD_eq_getElem?_getD, List.getD_eq_getElem?_getD, List.getElem?_append_left h]
end Go.Proofs.YtmgbmphheagdmaaGreatDoor

/-
  Strings as lists of bytes; a row of bytes made a string; a text copied into a row.
-/
namespace Go.Proofs.YtmgbmphheagdmaaGreatDoor
open Go.RowKit

@[irreducible] def bs (l : List UInt8) : ByteArray := ⟨l.toArray⟩
@[irreducible] def bl (s : ByteArray) : List UInt8 := s.data.toList
theorem bl_eq (s : ByteArray) : bl s = s.data.toList := by unfold bl; rfl
theorem bs_eq (l : List UInt8) : bs l = ⟨l.toArray⟩ := by unfold bs; rfl
theorem bl_bs (l : List UInt8) : bl (bs l) = l := by rw [bl_eq, bs_eq]
theorem bs_bl (s : ByteArray) : bs (bl s) = s := by rw [bl_eq, bs_eq]
theorem bl_length (s : ByteArray) : (bl s).length = s.size := by rw [bl_eq, ← Lib.size_eq]
theorem bs_size (l : List UInt8) : (bs l).size = l.length := by rw [← bl_length, bl_bs]
theorem bl_toList (s : ByteArray) : s.toList = bl s := by rw [bl_eq, ByteArray.toList_eq]
theorem bs_toList (l : List UInt8) : (bs l).toList = l := by rw [bl_toList, bl_bs]
theorem bl_get (s : ByteArray) (k : Nat) (h : k < s.size) : s[k] = (bl s).getD k 0 := by
  rw [List.getD_eq_getElem?_getD, List.getElem?_eq_getElem (by rw [bl_length]; exact h)]
  simp only [bl_eq, Option.getD_some]; rfl
theorem bl_append (s t : ByteArray) : bl (s ++ t) = bl s ++ bl t := by simp [bl_eq]
theorem bs_append (l m : List UInt8) : bs l ++ bs m = bs (l ++ m) := by
  rw [← bs_bl (bs l ++ bs m), bl_append, bl_bs, bl_bs]
theorem bl_extract (s : ByteArray) (a b : Nat) : bl (s.extract a b) = ((bl s).drop a).take (b - a) := by rw [bl_eq, Lib.extract_data, bl_eq]
theorem bs_lit (s : ByteArray) (l : List UInt8) (h : bl s = l) : s = bs l := by rw [← h, bs_bl]

theorem add_off (g i : Nat) : (⟨g, 0, none⟩ : Addr).add i = ⟨g, i, none⟩ := by unfold Addr.add; split <;> simp_all
theorem conv_row {w : World} {g : Nat} {t : TypeId} {l : List UInt8} {rest : List Value} (h : Holds w g t (byC l ++ rest)) (n cap : Nat) (hn : l.length = n) :
    (convert 66 9 (.slice (some ⟨g, 0, none⟩) n cap)).run Tryz.prog w = .ok (.string (bs l)) w := by
  subst hn
  rw [bs_eq]
  refine run_convert_bytes_back w 66 9 5 ⟨g, 0, none⟩ cap l Tryz.underlying66 Tryz.underlying5 Tryz.underlying9 fun j hj => ?_
  rw [add_off]
  refine Holds.cell h ?_
  rw [List.getElem?_append_left (by rw [byC_length]; exact hj), byC_at hj, List.getD_eq_getElem?_getD, List.getElem?_eq_getElem hj]; rfl

theorem byC_cells (l : List UInt8) : Lib.byteCells l = byC l := by rw [byC_eq]; rfl
theorem byC_take (l : List UInt8) (n : Nat) : (byC l).take n = byC (l.take n) := by rw [byC_eq, byC_eq, List.map_take]
theorem byC_drop (l : List UInt8) (n : Nat) : (byC l).drop n = byC (l.drop n) := by rw [byC_eq, byC_eq, List.map_drop]
theorem byC_one (l : List UInt8) : ∀ v ∈ byC l, v.oneCell' = true := by rw [← byC_cells]; exact Lib.byteCells_one l

/-- copy of a text into a row: as many bytes as there is room for. -/
theorem run_copy_text {P : Program} (w : World) (dT sT ty elem : TypeId) (g o dLen dCap n : Nat) (s : ByteArray) (cur : List Value) (t : TypeId)
    (hu : P.underlying dT = some (.slice elem)) (hs : (P.info? elem).map (·.size) = some 1) (hg : Holds w g t cur) (hn : n = Nat.min s.size dLen) (hfit : o + n ≤ cur.length) :
    (Builtin.copy_ #[dT, sT] ty #[.slice (some ⟨g, o, none⟩) dLen dCap, .string s]).run P w =
      .ok (goInt n) (w.setRow g (splice cur o (byC ((bl s).take n))).toArray) := by
  have hle : n ≤ s.size := by rw [hn]; exact Nat.min_le_left _ _
  have hlen : (byC ((bl s).take n)).length = n := by rw [byC_length, List.length_take, bl_length]; omega
  have hst := run_storeCells_at P g o t (byC ((bl s).take n)) 0 cur.toArray w hg (by rw [hlen]; simpa using hfit) (byC_one _)
  have htk : List.take n (List.map (fun b : UInt8 => Value.int IntKind.u8 (b.toNat : Int)) s.data.toList) = byC ((bl s).take n) := by
    rw [← byC_take, byC_eq, bl_eq]
  rw [hlen] at hst
  simp only [Nat.add_zero] at hst
  cases hq : P.info? elem with
  | none => simp [hq] at hs
  | some i =>
    simp [Builtin.copy_, run_underlying hu, Builtin.lenOf, Builtin.firstCells, sizeOf, typeInfo, hq, ← hn]
    rw [htk, hst]
    simp [Result.andThen, splice, hlen]
end Go.Proofs.YtmgbmphheagdmaaGreatDoor

/-
  The order of texts; lists of spans that rise and stand apart are told by their keys alone; no program is walked here.
-/
namespace Go.Proofs.YtmgbmphheagdmaaGreatDoor

/-- A text before another one. -/
def ltL (a b : List UInt8) : Bool := Op.bytesLess a b
theorem ltL_eq (a b : List UInt8) : Op.bytesLess a b = ltL a b := rfl
theorem ltL_nil (a : List UInt8) : ltL a [] = false := by cases a <;> rfl
theorem nil_ltL {a : List UInt8} (h : a ≠ []) : ltL [] a = true := by cases a with | nil => exact absurd rfl h | cons x a => rfl
theorem ltL_cons (x y : UInt8) (a b : List UInt8) : ltL (x :: a) (y :: b) = true ↔ x.toNat < y.toNat ∨ (x = y ∧ ltL a b = true) := by
  unfold ltL
  rw [Op.bytesLess]
  simp [UInt8.lt_iff_toNat_lt]
theorem ltL_irrefl : ∀ a : List UInt8, ltL a a = false
  | [] => rfl
  | x :: a => by
    cases h : ltL (x :: a) (x :: a) with
    | false => rfl
    | true =>
      rcases (ltL_cons x x a a).1 h with h | ⟨_, h⟩
      · omega
      · rw [ltL_irrefl a] at h; cases h
theorem ltL_trans : ∀ {a b c : List UInt8}, ltL a b = true → ltL b c = true → ltL a c = true
  | a, b, [], _, h => by rw [ltL_nil] at h; cases h
  | a, [], c :: zs, h, _ => by rw [ltL_nil] at h; cases h
  | [], b :: ys, c :: zs, _, _ => rfl
  | a :: xs, b :: ys, c :: zs, h, g => by
    refine (ltL_cons _ _ _ _).2 ?_
    rcases (ltL_cons a b xs ys).1 h with h1 | ⟨h1, h2⟩
    · rcases (ltL_cons b c ys zs).1 g with g1 | ⟨g1, g2⟩
      · exact .inl (by omega)
      · exact .inl (by rw [← g1]; exact h1)
    · rcases (ltL_cons b c ys zs).1 g with g1 | ⟨g1, g2⟩
      · exact .inl (by rw [h1]; exact g1)
      · exact .inr ⟨h1.trans g1, ltL_trans h2 g2⟩
theorem ltL_tri : ∀ a b : List UInt8, ltL a b = true ∨ a = b ∨ ltL b a = true
  | [], [] => .inr (.inl rfl)
  | [], b :: ys => .inl rfl
  | a :: xs, [] => .inr (.inr rfl)
  | a :: xs, b :: ys => by
    rcases Nat.lt_trichotomy a.toNat b.toNat with h | h | h
    · exact .inl ((ltL_cons _ _ _ _).2 (.inl h))
    · obtain rfl := UInt8.toNat_inj.1 h
      rcases ltL_tri xs ys with h | rfl | h
      · exact .inl ((ltL_cons _ _ _ _).2 (.inr ⟨rfl, h⟩))
      · exact .inr (.inl rfl)
      · exact .inr (.inr ((ltL_cons _ _ _ _).2 (.inr ⟨rfl, h⟩)))
    · exact .inr (.inr ((ltL_cons _ _ _ _).2 (.inl h)))
theorem ltL_asymm {a b : List UInt8} (h : ltL a b = true) : ltL b a = false := by
  cases g : ltL b a with
  | false => rfl
  | true => have := ltL_trans h g; rw [ltL_irrefl] at this; cases this
/-- Not before and before. -/
theorem ge_lt {a b c : List UInt8} (h : ltL b a = false) (g : ltL b c = true) : ltL a c = true := by
  rcases ltL_tri a b with h1 | rfl | h1
  · exact ltL_trans h1 g
  · exact g
  · rw [h] at h1; cases h1
theorem lt_ge {a b c : List UInt8} (h : ltL a b = true) (g : ltL c b = false) : ltL a c = true := by
  rcases ltL_tri b c with h1 | rfl | h1
  · exact ltL_trans h h1
  · exact h
  · rw [g] at h1; cases h1
theorem ge_ge {a b c : List UInt8} (h : ltL b a = false) (g : ltL c b = false) : ltL c a = false := by
  cases h1 : ltL c a with
  | false => rfl
  | true => rw [lt_ge h1 h] at g; cases g

/-- A span: from, to. -/
abbrev Sp := List UInt8 × List UInt8
/-- Has a span a key? -/
def hasL (s : Sp) (k : List UInt8) : Bool := !(ltL k s.1) && (s.2.isEmpty || ltL k s.2)
theorem hasL_iff (s : Sp) (k : List UInt8) : hasL s k = true ↔ ltL k s.1 = false ∧ (s.2 = [] ∨ ltL k s.2 = true) := by
  unfold hasL
  cases ltL k s.1 <;> cases s.2 <;> simp [ltL_nil]
/-- Has one of them a key? -/
def inL (l : List Sp) (k : List UInt8) : Bool := l.any fun s => hasL s k
theorem inL_nil (k : List UInt8) : inL [] k = false := rfl
theorem inL_cons (s : Sp) (l : List Sp) (k : List UInt8) : inL (s :: l) k = (hasL s k || inL l k) := rfl
/-- Rising, apart, none empty. -/
def Canon : List Sp → Prop
  | [] => True
  | [s] => s.2 = [] ∨ ltL s.1 s.2 = true
  | s :: t :: l => ltL s.1 s.2 = true ∧ ltL s.2 t.1 = true ∧ Canon (t :: l)
theorem canon_tail {s : Sp} {l : List Sp} (h : Canon (s :: l)) : Canon l := by
  cases l with
  | nil => trivial
  | cons t l => exact h.2.2
theorem canon_first {s : Sp} {l : List Sp} (h : Canon (s :: l)) : s.2 = [] ∨ ltL s.1 s.2 = true := by
  cases l with
  | nil => exact h
  | cons t l => exact .inr h.1
theorem canon_head {s : Sp} {l : List Sp} (h : Canon (s :: l)) : inL (s :: l) s.1 = true := by
  rw [inL_cons, (hasL_iff s s.1).2 ⟨ltL_irrefl _, canon_first h⟩]; rfl
theorem canon_min : ∀ {l : List Sp} {s : Sp} {k : List UInt8}, Canon (s :: l) → inL (s :: l) k = true → ltL k s.1 = false
  | [], s, k, _, hk => by
    rw [inL_cons, inL_nil, Bool.or_false] at hk
    exact ((hasL_iff s k).1 hk).1
  | t :: l, s, k, h, hk => by
    rw [inL_cons, Bool.or_eq_true] at hk
    rcases hk with hk | hk
    · exact ((hasL_iff s k).1 hk).1
    · have h1 := canon_min h.2.2 hk
      have h2 := ltL_trans h.1 h.2.1
      cases g : ltL k s.1 with
      | false => rfl
      | true => rw [ltL_trans g h2] at h1; cases h1
theorem canon_apart {s : Sp} {l : List Sp} {k : List UInt8} (h : Canon (s :: l)) (hk : inL l k = true) : s.2 ≠ [] ∧ ltL s.2 k = true := by
  cases l with
  | nil => cases hk
  | cons t l =>
    have h1 := canon_min h.2.2 hk
    refine ⟨fun e => ?_, lt_ge h.2.1 h1⟩
    have := h.1
    rw [e, ltL_nil] at this; cases this
theorem canon_rest {s : Sp} {l : List Sp} (k : List UInt8) (h : Canon (s :: l)) : inL l k = (inL (s :: l) k && !(hasL s k)) := by
  rw [inL_cons]
  cases hk : inL l k with
  | false => cases hasL s k <;> rfl
  | true =>
    have ⟨h1, h2⟩ := canon_apart h hk
    have : hasL s k = false := by
      cases g : hasL s k with
      | false => rfl
      | true =>
        rcases ((hasL_iff s k).1 g).2 with g | g
        · exact absurd g h1
        · rw [ltL_asymm h2] at g; cases g
    rw [this]; rfl
theorem canon_end {s : Sp} {l : List Sp} (h : Canon (s :: l)) (he : s.2 ≠ []) : inL (s :: l) s.2 = false := by
  cases g : inL (s :: l) s.2 with
  | false => rfl
  | true =>
    rw [inL_cons, Bool.or_eq_true] at g
    rcases g with g | g
    · rcases ((hasL_iff s s.2).1 g).2 with g | g
      · exact absurd g he
      · rw [ltL_irrefl] at g; cases g
    · have := (canon_apart h g).2
      rw [ltL_irrefl] at this; cases this
/-- Two such lists with the same keys are one. -/
theorem canon_unique : ∀ {l m : List Sp}, Canon l → Canon m → (∀ k, inL l k = inL m k) → l = m
  | [], [], _, _, _ => rfl
  | [], t :: m, _, hm, h => by have := h t.1; rw [canon_head hm] at this; cases this
  | s :: l, [], hl, _, h => by have := h s.1; rw [canon_head hl] at this; cases this
  | s :: l, t :: m, hl, hm, h => by
    have h1 : s.1 = t.1 := by
      rcases ltL_tri s.1 t.1 with g | g | g
      · have := canon_min hm ((h s.1).symm.trans (canon_head hl)); rw [g] at this; cases this
      · exact g
      · have := canon_min hl ((h t.1).trans (canon_head hm)); rw [g] at this; cases this
    have side : ∀ (s t : Sp) (l m : List Sp), Canon (s :: l) → Canon (t :: m) → (∀ k, inL (s :: l) k = inL (t :: m) k) → s.1 = t.1 → t.2 ≠ [] → (s.2 = [] ∨ ltL t.2 s.2 = true) → False := by
      intro s t l m _ hm h h1 h2 h3
      have g1 := (canon_first hm).resolve_left h2
      have g2 : hasL s t.2 = true := (hasL_iff s t.2).2 ⟨ltL_asymm (by rw [h1]; exact g1), h3⟩
      have := h t.2
      rw [canon_end hm h2, inL_cons, g2] at this; cases this
    have h2 : s.2 = t.2 := by
      by_cases e1 : s.2 = []
      · by_cases e2 : t.2 = []
        · rw [e1, e2]
        · exact absurd (side s t l m hl hm h h1 e2 (.inl e1)) id
      · by_cases e2 : t.2 = []
        · exact absurd (side t s m l hm hl (fun k => (h k).symm) h1.symm e1 (.inl e2)) id
        · rcases ltL_tri s.2 t.2 with g | g | g
          · exact absurd (side t s m l hm hl (fun k => (h k).symm) h1.symm e1 (.inr g)) id
          · exact g
          · exact absurd (side s t l m hl hm h h1 e2 (.inr g)) id
    obtain rfl : s = t := Prod.ext h1 h2
    rw [canon_unique (canon_tail hl) (canon_tail hm) (fun k => by rw [canon_rest k hl, canon_rest k hm, h k])]
end Go.Proofs.YtmgbmphheagdmaaGreatDoor

/-
  Rows: what lies from an address on; rows of the call's own, put behind, laid together (general; from layer 5).
-/
namespace Go.Proofs.YtmgbmphheagdmaaGreatDoor
open Go.RowKit

theorem ltL_flip (a b : List UInt8) : ltL a b = (!(ltL b a) && !(b == a)) := by
  rcases ltL_tri a b with h | rfl | h
  · rw [h, ltL_asymm h]
    have : b ≠ a := fun e => by rw [e, ltL_irrefl] at h; cases h
    simp [this]
  · rw [ltL_irrefl]; simp
  · rw [h, ltL_asymm h]; rfl

theorem less_bs (a b : List UInt8) : Op.bytesLess (bs a).toList (bs b).toList = ltL a b := by rw [bs_toList, bs_toList, ltL_eq]

/-- These cells lie from an address on. -/
def RowAt (w : World) (A : Option Addr) (cs : List Value) : Prop :=
  ∀ j v, cs[j]? = some v → ∃ b off, A = some (⟨b, off, none⟩ : Addr) ∧ b < w.heap.size ∧ w.cell? ⟨b, off + j, none⟩ = some v

theorem RowAt.below {w w' : World} {A : Option Addr} {cs : List Value} {B : Nat} (h : RowAt w A cs) (hb : Below B w w') (hB : w.heap.size ≤ B) : RowAt w' A cs := fun j v hv => by
  obtain ⟨b, off, hA, hl, h0⟩ := h j v hv
  exact ⟨b, off, hA, Nat.lt_of_lt_of_le hl hb.size, by rw [hb.cell (by show b < B; omega)]; exact h0⟩

/-- One element more behind a row of the call's own: the new element lies in the newest block. -/
theorem wpList_push {P : Program} {ops : Array Oper} {rest : List Oper} {o : Oper} {a : Act} {Q : Exit → Act → World → Prop} {W : World} (hgd : o.guard = none) (s x : Operand) (t : TypeId)
    (ho : o.op = .call { callee := .builtin .append, args := #[s, x], argTypes := #[t, t] })
    (base : Nat) (e : TypeId) (i : TypeInfo) (z : Value) (k bytes : Nat) (ht : P.underlying t = some (.slice e)) (hi : P.info? e = some i) (hz : i.zero = some z)
    (hsize : i.size = k) (hby : i.bytes = bytes) (hzs : z.cells.size = k) (hk : 0 < k)
    (v : Value) (n : Nat) (xs : List Value) (hs : a.eval s = v) (hown : W.ownsRow base e k v n xs) (news : Array Value) (hx : a.eval x = .slice (some ⟨W.heap.size, 0, none⟩) 1 1)
    (hl : news.size = k) (h1 : ∀ u ∈ news.toList, u.oneCell' = true) (hn : n ≤ 1000000) (hbytes : bytes ≤ 1000) (w0 : World) (hb : Below base w0 W) (hbs : base ≤ W.heap.size)
    (h : ∀ g cap w2, w2.ownsRow base e k (.slice (some ⟨g, 0, none⟩) (n + 1) cap) (n + 1) (xs ++ news.toList) → Below base w0 w2 → wpList P ops Q rest (a.put o.dst (.slice (some ⟨g, 0, none⟩) (n + 1) cap)) w2) :
    wpList P ops Q (o :: rest) a (W.alloc (.cells news e)) := by
  have hal : (W.alloc (.cells news e)).ownsRow base e k v n xs := by
    rcases hown.2 with ⟨hv, h0⟩ | ⟨g, cap, cur, hv, hbg, hh, r⟩
    · exact ⟨hown.1, .inl ⟨hv, h0⟩⟩
    · exact ⟨hown.1, .inr ⟨g, cap, cur, hv, hbg, (Below.heap_alloc W _ g (Array.getElem?_eq_some_iff.1 hh).1).trans hh, r⟩⟩
  refine wpList_append_lies _ hgd s x t ho base e i z k bytes ht hi hz hsize hby hzs hk v n xs hs hal ⟨W.heap.size, 0, none⟩ 1 1 news.toList hx (by simp [hl]) ?_ h1 (by omega) (by unfold maxLen; omega) ?_ (by simp; omega) _ rfl ?_
  · intro j u hu
    have hn : (W.alloc (.cells news e)).heap[W.heap.size]? = some (.cells news e (0, 0)) := by
      show (W.heap.push (Obj.cells news e))[W.heap.size]? = _
      simp
    rw [add_off, Lib.cell_of_heap hn]
    simpa using hu
  · have : (n + 1) * bytes ≤ 1000001 * 1000 := Nat.mul_le_mul (by omega) hbytes
    omega
  · intro g cap w2 hown2 hgrow _ _
    refine h g cap w2 hown2 ?_
    exact (hb.alloc hbs _).grown hgrow (by simp; omega) (fun j hj => (World.ownsRow.lt hal j hj).1)

/-- What a row of the call's own shows. -/
theorem own_row {w : World} {base : Nat} {e : TypeId} {k : Nat} {v : Value} {n : Nat} {cs : List Value} (h : w.ownsRow base e k v n cs) : ∃ A cap, v = .slice A n cap ∧ RowAt w A cs := by
  rcases h.2 with ⟨hv, h0⟩ | ⟨g, cap, cur, hv, hb, hh, hc, hm, hs, ht⟩
  · have : cs = [] := List.eq_nil_of_length_eq_zero (by rw [h.1, h0]; omega)
    subst this
    exact ⟨none, 0, by rw [hv, h0], fun j v hj => by simp at hj⟩
  · refine ⟨some ⟨g, 0, none⟩, cap, hv, fun j u hj => ⟨g, 0, rfl, (Array.getElem?_eq_some_iff.1 hh).1, ?_⟩⟩
    rw [Nat.zero_add, Lib.cell_of_heap hh]
    have hjl : j < n * k := by have := (List.getElem?_eq_some_iff.1 hj).1; rw [h.1] at this; exact this
    rw [← ht, List.getElem?_take_of_lt hjl] at hj
    simpa using hj

theorem own_none (w : World) (e : TypeId) (k : Nat) : (w.alloc (.cells #[] e)).ownsRow w.heap.size e k (.slice (some ⟨w.heap.size, 0, none⟩) 0 0) 0 [] :=
  World.ownsRow_lit w #[] 0 (Nat.le_refl _) (by unfold maxLen; omega) (by simp)

/-- Texts as cells. -/
def strC (l : List (List UInt8)) : List Value := l.map fun s => .string (bs s)

theorem strC_length (l : List (List UInt8)) : (strC l).length = l.length := by simp [strC]

theorem strC_append (l m : List (List UInt8)) : strC (l ++ m) = strC l ++ strC m := by simp [strC]

theorem strC_at (l : List (List UInt8)) (i : Nat) (s : List UInt8) (h : l[i]? = some s) : (strC l)[i]? = some (.string (bs s)) := by simp [strC, h]

theorem row_str {w : World} {A : Option Addr} {l : List (List UInt8)} (h : RowAt w A (strC l)) (i : Nat) (s : List UInt8) (hs : l[i]? = some s) :
    ∃ b off, A = some (⟨b, off, none⟩ : Addr) ∧ b < w.heap.size ∧ w.cell? ⟨b, off + i, none⟩ = some (.string (bs s)) := h _ _ (strC_at l i s hs)

theorem own_base {w : World} {B B' : Nat} {e : TypeId} {k : Nat} {v : Value} {n : Nat} {cs : List Value} (h : w.ownsRow B e k v n cs) (hB : B' ≤ B) : w.ownsRow B' e k v n cs := by
  rcases h.2 with h0 | ⟨g, cap, cur, hv, hb, r⟩
  · exact ⟨h.1, .inl h0⟩
  · exact ⟨h.1, .inr ⟨g, cap, cur, hv, by omega, r⟩⟩

/-- A row of the call's own is kept where only new blocks are written. -/
theorem own_below {w w' : World} {B : Nat} {e : TypeId} {k : Nat} {v : Value} {n : Nat} {cs : List Value} (h : w.ownsRow B e k v n cs) (hb : Below w.heap.size w w') : w'.ownsRow B e k v n cs := by
  rcases h.2 with h0 | ⟨g, cap, cur, hv, hbg, hh, r⟩
  · exact ⟨h.1, .inl h0⟩
  · exact ⟨h.1, .inr ⟨g, cap, cur, hv, hbg, (hb.block g (Array.getElem?_eq_some_iff.1 hh).1).trans hh, r⟩⟩

/-- A world of a class. -/
structure InW (C : World → Prop) where
  wd : World
  ok : C wd

/-- A region whose operations and callees keep the world in a class of worlds, and read the same in each of it: walked once, as it is written. -/
theorem wp_region_quiet_in {P : Program} {id : Nat} {Q : Exit → Act → World → Prop} {a : Act} {w : World} {l : List Oper} (C : World → Prop) (hm : P.follows .mixedOrders = true) (hB : Region.lexB .any l.toArray = true)
    (h0 : C w.drew) (h : wpQuiet P l.toArray (fun w' => ∃ x : InW C, w' = x.wd) (fun a' => ∀ w', (∃ x : InW C, w' = x.wd) → Q .normal a' w') l a) : (Code.region id l.toArray true).wp P Q a w :=
  wp_region_quiet (C := fun w' => ∃ x : InW C, w' = x.wd) hm hB ⟨⟨w.drew, h0⟩, rfl⟩ (by simpa using h)

theorem run_append_none {P : Program} (w : World) (t ty e : TypeId) (i : TypeInfo) (ht : P.underlying t = some (.slice e)) (hi : P.info? e = some i) (g : Nat) (A : Option Addr) (c : Nat) :
    (Builtin.append_ #[t, t] ty #[.slice (some ⟨g, 0, none⟩) 0 0, .slice A 0 c]).run P w = .ok (.slice (some ⟨g, 0, none⟩) 0 0) w := by
  cases A <;> simp [Builtin.append_, run_underlying ht, sizeOf, typeInfo, hi, Builtin.lenOf, Builtin.firstCells, storeCells, loadCells, loadCellsFrom]

/-- At a step of a region that draws its order: nothing appended to nothing. -/
theorem step_append_none {P : Program} {w : World} {ops : Array Oper} {o : Oper} {a : Act} {K : Act → World → Prop} {Q : Exit → Act → World → Prop} {E : Prop} (hgd : o.guard = none) (s x : Operand) (t : TypeId)
    (ho : o.op = .call { callee := .builtin .append, args := #[s, x], argTypes := #[t, t] }) (e : TypeId) (i : TypeInfo) (ht : P.underlying t = some (.slice e)) (hi : P.info? e = some i)
    (g : Nat) (A : Option Addr) (c : Nat) (hs : a.eval s = .slice (some ⟨g, 0, none⟩) 0 0) (hx : a.eval x = .slice A 0 c)
    (h : K (a.put o.dst (.slice (some ⟨g, 0, none⟩) 0 0)) w) : if Region.wanted o (yielded ops a.tmps) = true then Oper.wp P o a w K Q else E := by
  have hw : Region.wanted o (yielded ops a.tmps) = true := by simp [Region.wanted, hgd]
  rw [if_pos hw]
  have hr := run_append_none (P := P) w t o.type e i ht hi g A c
  unfold Oper.wp execOp
  simp only [ho, resolve, invoke, builtin, Sem.run_bind, Sem.run_pure, Result.andThen_ok, List.map_toArray, List.map_cons, List.map_nil, hs, hx, hr]
  exact h

theorem own_alloc {w : World} {B : Nat} {e : TypeId} {k : Nat} {v : Value} {n : Nat} {cs : List Value} (h : w.ownsRow B e k v n cs) (o : Obj) : (w.alloc o).ownsRow B e k v n cs :=
  own_below h ((Below.refl _ _).alloc (Nat.le_refl _) o)

theorem own_drew {w : World} {B : Nat} {e : TypeId} {k : Nat} {v : Value} {n : Nat} {cs : List Value} (h : w.ownsRow B e k v n cs) : w.drew.ownsRow B e k v n cs := h

theorem row_add (b off i : Nat) : (⟨b, off, none⟩ : Addr).add i = ⟨b, off + i, none⟩ := by unfold Addr.add; split <;> simp_all

theorem own_row' {w : World} {base : Nat} {e : TypeId} {k : Nat} {A : Option Addr} {n cap : Nat} {cs : List Value} (h : w.ownsRow base e k (.slice A n cap) n cs) : RowAt w A cs := by
  obtain ⟨A', cap', e, hr⟩ := own_row h
  injection e with e1
  rw [e1]; exact hr

theorem row_new (W : World) (cs : Array Value) (e : TypeId) : RowAt (W.alloc (.cells cs e)) (some ⟨W.heap.size, 0, none⟩) cs.toList := fun j v hj => by
  have hn : (W.alloc (.cells cs e)).heap[W.heap.size]? = some (.cells cs e (0, 0)) := by
    show (W.heap.push (Obj.cells cs e))[W.heap.size]? = _
    simp
  refine ⟨_, 0, rfl, (Array.getElem?_eq_some_iff.1 hn).1, ?_⟩
  rw [Nat.zero_add, Lib.cell_of_heap hn]
  simpa using hj

theorem row_kept {W W' : World} {b : Nat} {cs : List Value} (h : RowAt W (some ⟨b, 0, none⟩) cs) (hk : W'.heap[b]? = W.heap[b]?) : RowAt W' (some ⟨b, 0, none⟩) cs := fun j v hj => by
  obtain ⟨b', off, e, hl, hc⟩ := h j v hj
  injection e with e
  injection e with e1 e2
  subst e1
  subst e2
  refine ⟨_, 0, rfl, ?_, ?_⟩
  · have : b < W'.heap.size := by
      obtain ⟨x, hx⟩ : ∃ x, W.heap[b]? = some x := ⟨_, Array.getElem?_eq_getElem hl⟩
      rw [hx] at hk
      exact (Array.getElem?_eq_some_iff.1 hk).1
    exact this
  · rw [← hc]
    unfold World.cell?
    rw [hk]

theorem row_new2 (W : World) (o : Obj) (cs : Array Value) (e : TypeId) : RowAt ((W.alloc o).alloc (.cells cs e)) (some ⟨W.heap.size + 1, 0, none⟩) cs.toList := by
  have := row_new (W.alloc o) cs e
  rw [show (W.alloc o).heap.size = W.heap.size + 1 by simp] at this
  exact this

theorem own_none2 (W : World) (o : Obj) (e : TypeId) (k : Nat) : ((W.alloc o).alloc (.cells #[] e)).ownsRow W.heap.size e k (.slice (some ⟨W.heap.size + 1, 0, none⟩) 0 0) 0 [] := by
  have := own_none (W.alloc o) e k
  rw [show (W.alloc o).heap.size = W.heap.size + 1 by simp] at this
  exact own_base this (by omega)

/-- A step of a region that draws: a row that lies, behind an empty row of the call's own. -/
theorem step_append_row {P : Program} {w : World} {ops : Array Oper} {o : Oper} {a : Act} {K : Act → World → Prop} {Q : Exit → Act → World → Prop} {E : Prop} (hgd : o.guard = none) (s x : Operand) (t : TypeId)
    (ho : o.op = .call { callee := .builtin .append, args := #[s, x], argTypes := #[t, t] })
    (base : Nat) (e : TypeId) (i : TypeInfo) (z : Value) (k bytes : Nat) (ht : P.underlying t = some (.slice e)) (hi : P.info? e = some i) (hz : i.zero = some z)
    (hsize : i.size = k) (hby : i.bytes = bytes) (hzs : z.cells.size = k) (hk : 0 < k)
    (g : Nat) (hs : a.eval s = .slice (some ⟨g, 0, none⟩) 0 0) (hown : w.ownsRow base e k (.slice (some ⟨g, 0, none⟩) 0 0) 0 [])
    (A : Option Addr) (n c : Nat) (cs : List Value) (hx : a.eval x = .slice A n c) (hrow : RowAt w A cs) (hl : cs.length = n * k) (h1 : ∀ u ∈ cs, u.oneCell' = true) (hn : n ≤ 1000000) (hbytes : bytes ≤ 1000)
    (w0 : World) (hb : Below base w0 w) (hbs : base ≤ w.heap.size)
    (h : ∀ g' cap' w', w'.ownsRow base e k (.slice (some ⟨g', 0, none⟩) n cap') n cs → Below base w0 w' → (∀ j, j < w.heap.size → j ≠ g → w'.heap[j]? = w.heap[j]?) → K (a.put o.dst (.slice (some ⟨g', 0, none⟩) n cap')) w') :
    if Region.wanted o (yielded ops a.tmps) = true then Oper.wp P o a w K Q else E := by
  by_cases h0 : n = 0
  · subst h0
    have hcs : cs = [] := List.eq_nil_of_length_eq_zero (by omega)
    subst hcs
    exact step_append_none hgd s x t ho e i ht hi g A c hs hx (h g 0 w hown hb (fun _ _ _ => rfl))
  · obtain ⟨u0, hu0⟩ : ∃ u0, cs[0]? = some u0 := ⟨_, List.getElem?_eq_getElem (by rw [hl]; exact Nat.mul_pos (by omega) hk)⟩
    obtain ⟨b, off, hA, _, _⟩ := hrow 0 u0 hu0
    refine step_append_lies _ hgd s x t ho base e i z k bytes ht hi hz hsize hby hzs hk _ 0 [] hs hown ⟨b, off, none⟩ n c cs (by rw [hx, hA]) hl ?_ h1 (by omega) (by unfold maxLen; omega) ?_ hbs _ rfl ?_
    · intro j u hu
      obtain ⟨b', off', hA', _, hc⟩ := hrow j u hu
      rw [hA] at hA'
      injection hA' with hA'
      injection hA' with e1 e2
      subst e1
      subst e2
      rw [row_add]; exact hc
    · have : (0 + n) * bytes ≤ 1000000 * 1000 := Nat.mul_le_mul (by omega) hbytes
      omega
    · intro g' cap' w' hown' hgrow _ _
      simp only [Nat.zero_add, List.nil_append] at hown'
      refine (by simpa using h g' cap' w' hown' (hb.grown hgrow hbs (fun j hj => (World.ownsRow.lt hown j hj).1)) (fun j hj hne => hgrow.block j hj (by simpa [Value.ownBlock] using hne)))

/-- A step of a region that draws: one element more behind a row of the call's own. -/
theorem step_push {P : Program} {w : World} {ops : Array Oper} {o : Oper} {a : Act} {K : Act → World → Prop} {Q : Exit → Act → World → Prop} {E : Prop} (hgd : o.guard = none) (s x : Operand) (t : TypeId)
    (ho : o.op = .call { callee := .builtin .append, args := #[s, x], argTypes := #[t, t] })
    (base : Nat) (e : TypeId) (i : TypeInfo) (z : Value) (k bytes : Nat) (ht : P.underlying t = some (.slice e)) (hi : P.info? e = some i) (hz : i.zero = some z)
    (hsize : i.size = k) (hby : i.bytes = bytes) (hzs : z.cells.size = k) (hk : 0 < k)
    (v : Value) (n : Nat) (xs : List Value) (hs : a.eval s = v) (hown : w.ownsRow base e k v n xs)
    (b c : Nat) (cs : List Value) (hx : a.eval x = .slice (some ⟨b, 0, none⟩) 1 c) (hrow : RowAt w (some ⟨b, 0, none⟩) cs) (hl : cs.length = k) (h1 : ∀ u ∈ cs, u.oneCell' = true) (hn : n ≤ 1000000) (hbytes : bytes ≤ 1000)
    (w0 : World) (hb : Below base w0 w) (hbs : base ≤ w.heap.size)
    (h : ∀ g cap w', w'.ownsRow base e k (.slice (some ⟨g, 0, none⟩) (n + 1) cap) (n + 1) (xs ++ cs) → Below base w0 w' → K (a.put o.dst (.slice (some ⟨g, 0, none⟩) (n + 1) cap)) w') :
    if Region.wanted o (yielded ops a.tmps) = true then Oper.wp P o a w K Q else E := by
  refine step_append_lies _ hgd s x t ho base e i z k bytes ht hi hz hsize hby hzs hk v n xs hs hown ⟨b, 0, none⟩ 1 c cs hx (by omega) ?_ h1 (by omega) (by unfold maxLen; omega) ?_ hbs _ rfl ?_
  · intro j u hu
    obtain ⟨b', off', hA', _, hc⟩ := hrow j u hu
    injection hA' with hA'
    injection hA' with e1 e2
    subst e1
    subst e2
    rw [row_add]; exact hc
  · have : (n + 1) * bytes ≤ 1000001 * 1000 := Nat.mul_le_mul (by omega) hbytes
    omega
  · intro g cap w' hown' hgrow _ _
    exact h g cap w' hown' (hb.grown hgrow hbs (fun j hj => (World.ownsRow.lt hown j hj).1))

theorem run_append_zero {P : Program} (w : World) (t ty e : TypeId) (i : TypeInfo) (ht : P.underlying t = some (.slice e)) (hi : P.info? e = some i) (g m m' : Nat) (hm : m ≤ m') (A : Option Addr) (c : Nat) :
    (Builtin.append_ #[t, t] ty #[.slice (some ⟨g, 0, none⟩) m m', .slice A 0 c]).run P w = .ok (.slice (some ⟨g, 0, none⟩) m m') w := by
  cases A <;> simp [Builtin.append_, run_underlying ht, sizeOf, typeInfo, hi, Builtin.lenOf, Builtin.firstCells, storeCells, loadCells, loadCellsFrom, hm]

/-- A step of a region that draws: a row that lies, behind a row of the call's own. -/
theorem step_behind {P : Program} {w : World} {ops : Array Oper} {o : Oper} {a : Act} {K : Act → World → Prop} {Q : Exit → Act → World → Prop} {E : Prop} (hgd : o.guard = none) (s x : Operand) (t : TypeId)
    (ho : o.op = .call { callee := .builtin .append, args := #[s, x], argTypes := #[t, t] })
    (base : Nat) (e : TypeId) (i : TypeInfo) (z : Value) (k bytes : Nat) (ht : P.underlying t = some (.slice e)) (hi : P.info? e = some i) (hz : i.zero = some z)
    (hsize : i.size = k) (hby : i.bytes = bytes) (hzs : z.cells.size = k) (hk : 0 < k) (hby1 : 0 < bytes)
    (g m m' : Nat) (hmm : m ≤ m') (xs : List Value) (hs : a.eval s = .slice (some ⟨g, 0, none⟩) m m') (hown : w.ownsRow base e k (.slice (some ⟨g, 0, none⟩) m m') m xs)
    (A : Option Addr) (n c : Nat) (cs : List Value) (hx : a.eval x = .slice A n c) (hrow : RowAt w A cs) (hl : cs.length = n * k) (h1 : ∀ u ∈ cs, u.oneCell' = true) (hn : (m + n) * bytes ≤ 140737488355328)
    (w0 : World) (hb : Below base w0 w) (hbs : base ≤ w.heap.size)
    (h : ∀ g' cap' w', w'.ownsRow base e k (.slice (some ⟨g', 0, none⟩) (m + n) cap') (m + n) (xs ++ cs) → Below base w0 w' → (∀ j, j < w.heap.size → j ≠ g → w'.heap[j]? = w.heap[j]?) → K (a.put o.dst (.slice (some ⟨g', 0, none⟩) (m + n) cap')) w') :
    if Region.wanted o (yielded ops a.tmps) = true then Oper.wp P o a w K Q else E := by
  by_cases h0 : n = 0
  · subst h0
    have hcs : cs = [] := List.eq_nil_of_length_eq_zero (by omega)
    subst hcs
    have hw : Region.wanted o (yielded ops a.tmps) = true := by simp [Region.wanted, hgd]
    rw [if_pos hw]
    have hr := run_append_zero (P := P) w t o.type e i ht hi g m m' hmm A c
    have h' := h g m' w (by simpa using hown) hb (fun _ _ _ => rfl)
    unfold Oper.wp execOp
    simp only [ho, resolve, invoke, builtin, Sem.run_bind, Sem.run_pure, Result.andThen_ok, List.map_toArray, List.map_cons, List.map_nil, hs, hx, hr]
    exact h'
  · obtain ⟨u0, hu0⟩ : ∃ u0, cs[0]? = some u0 := ⟨_, List.getElem?_eq_getElem (by rw [hl]; exact Nat.mul_pos (by omega) hk)⟩
    obtain ⟨b, off, hA, _, _⟩ := hrow 0 u0 hu0
    have hmn : m + n ≤ (m + n) * bytes := Nat.le_mul_of_pos_right _ hby1
    refine step_append_lies _ hgd s x t ho base e i z k bytes ht hi hz hsize hby hzs hk _ m xs hs hown ⟨b, off, none⟩ n c cs (by rw [hx, hA]) hl ?_ h1 (by omega) (by unfold maxLen; omega) hn hbs _ rfl ?_
    · intro j u hu
      obtain ⟨b', off', hA', _, hc⟩ := hrow j u hu
      rw [hA] at hA'
      injection hA' with hA'
      injection hA' with e1 e2
      subst e1
      subst e2
      rw [row_add]; exact hc
    · intro g' cap' w' hown' hgrow _ _
      exact h g' cap' w' hown' (hb.grown hgrow hbs (fun j hj => (World.ownsRow.lt hown j hj).1)) (fun j hj hne => hgrow.block j hj (by simpa [Value.ownBlock] using hne))

/-- The same at an operation that stands in its order. -/
theorem wpList_behind {P : Program} {w : World} {ops : Array Oper} {rest : List Oper} {o : Oper} {a : Act} {Q : Exit → Act → World → Prop} (hgd : o.guard = none) (s x : Operand) (t : TypeId)
    (ho : o.op = .call { callee := .builtin .append, args := #[s, x], argTypes := #[t, t] })
    (base : Nat) (e : TypeId) (i : TypeInfo) (z : Value) (k bytes : Nat) (ht : P.underlying t = some (.slice e)) (hi : P.info? e = some i) (hz : i.zero = some z)
    (hsize : i.size = k) (hby : i.bytes = bytes) (hzs : z.cells.size = k) (hk : 0 < k) (hby1 : 0 < bytes)
    (g m m' : Nat) (hmm : m ≤ m') (xs : List Value) (hs : a.eval s = .slice (some ⟨g, 0, none⟩) m m') (hown : w.ownsRow base e k (.slice (some ⟨g, 0, none⟩) m m') m xs)
    (A : Option Addr) (n c : Nat) (cs : List Value) (hx : a.eval x = .slice A n c) (hrow : RowAt w A cs) (hl : cs.length = n * k) (h1 : ∀ u ∈ cs, u.oneCell' = true) (hn : (m + n) * bytes ≤ 140737488355328)
    (w0 : World) (hb : Below base w0 w) (hbs : base ≤ w.heap.size)
    (h : ∀ g' cap' w', w'.ownsRow base e k (.slice (some ⟨g', 0, none⟩) (m + n) cap') (m + n) (xs ++ cs) → Below base w0 w' → wpList P ops Q rest (a.put o.dst (.slice (some ⟨g', 0, none⟩) (m + n) cap')) w') : wpList P ops Q (o :: rest) a w := by
  refine wpList_plain hgd fun K hK => ?_
  have := step_behind (P := P) (w := w) (ops := ops) (o := o) (a := a) (K := K) (Q := Q) (E := True) hgd s x t ho base e i z k bytes ht hi hz hsize hby hzs hk hby1 g m m' hmm xs hs hown A n c cs hx hrow hl h1 hn w0 hb hbs (fun g' cap' w' h2 h3 _ => hK _ _ (h g' cap' w' h2 h3))
  rwa [if_pos (by simp [Region.wanted, hgd])] at this

/-- A step of a region that draws: one element more behind a row of the call's own; what else lies, lies. -/
theorem step_push_keep {P : Program} {w : World} {ops : Array Oper} {o : Oper} {a : Act} {K : Act → World → Prop} {Q : Exit → Act → World → Prop} {E : Prop} (hgd : o.guard = none) (s x : Operand) (t : TypeId)
    (ho : o.op = .call { callee := .builtin .append, args := #[s, x], argTypes := #[t, t] })
    (base : Nat) (e : TypeId) (i : TypeInfo) (z : Value) (k bytes : Nat) (ht : P.underlying t = some (.slice e)) (hi : P.info? e = some i) (hz : i.zero = some z)
    (hsize : i.size = k) (hby : i.bytes = bytes) (hzs : z.cells.size = k) (hk : 0 < k)
    (v : Value) (n : Nat) (xs : List Value) (hs : a.eval s = v) (hown : w.ownsRow base e k v n xs)
    (b c : Nat) (cs : List Value) (hx : a.eval x = .slice (some ⟨b, 0, none⟩) 1 c) (hrow : RowAt w (some ⟨b, 0, none⟩) cs) (hl : cs.length = k) (h1 : ∀ u ∈ cs, u.oneCell' = true) (hn : n ≤ 1000000) (hbytes : bytes ≤ 1000)
    (w0 : World) (hb : Below base w0 w) (hbs : base ≤ w.heap.size)
    (h : ∀ g cap w', w'.ownsRow base e k (.slice (some ⟨g, 0, none⟩) (n + 1) cap) (n + 1) (xs ++ cs) → Below base w0 w' → (∀ p y, w.cell? p = some y → (∀ j, v.ownBlock = some j → p.block ≠ j) → w'.cell? p = some y) → K (a.put o.dst (.slice (some ⟨g, 0, none⟩) (n + 1) cap)) w') :
    if Region.wanted o (yielded ops a.tmps) = true then Oper.wp P o a w K Q else E := by
  refine step_append_lies _ hgd s x t ho base e i z k bytes ht hi hz hsize hby hzs hk v n xs hs hown ⟨b, 0, none⟩ 1 c cs hx (by omega) ?_ h1 (by omega) (by unfold maxLen; omega) ?_ hbs _ rfl ?_
  · intro j u hu
    obtain ⟨b', off', hA', _, hc⟩ := hrow j u hu
    injection hA' with hA'
    injection hA' with e1 e2
    subst e1
    subst e2
    rw [row_add]; exact hc
  · have : (n + 1) * bytes ≤ 1000001 * 1000 := Nat.mul_le_mul (by omega) hbytes
    omega
  · intro g cap w' hown' hgrow _ _
    exact h g cap w' hown' (hb.grown hgrow hbs (fun j hj => (World.ownsRow.lt hown j hj).1)) (fun p y hp hne => hgrow.cell hp (fun e => hne p.block e.symm rfl))

theorem quiet_more {P : Program} {f : FuncId} {args : Array Value} {w : World} {a n : Nat} {v : Value} (h : Calls P f args (w.drewN (a + n)) fun e w' => e = .returned v ∧ w' = w.drewN (a + n)) :
    Calls P f args (w.drewN (a + n)) fun e w' => e = .returned v ∧ ∃ m, w' = w.drewN (a + m) := h.mono fun _ _ hh => ⟨hh.1, n, hh.2⟩

theorem take_snoc (p : List UInt8) (n : Nat) (h : n < p.length) : p.take (n + 1) = p.take n ++ [p.getD n 0] := by
  rw [List.take_add_one, List.getD_eq_getElem?_getD, List.getElem?_eq_getElem h]; rfl

theorem str_at (l : List UInt8) (k : Nat) (h : k < (bs l).size) : (bs l)[k] = l.getD k 0 := by
  rw [bl_get, bl_bs]
end Go.Proofs.YtmgbmphheagdmaaGreatDoor
