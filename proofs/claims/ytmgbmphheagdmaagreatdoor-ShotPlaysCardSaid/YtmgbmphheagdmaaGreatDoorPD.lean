/-
  A disk as the document has it, and what a program's disk must answer (layer 6), without the laws and the answers of that layer.
-/
import Derived.Test.YtmgbmphheagdmaaGreatDoorGen
import Derived.Test.YtmgbmphheagdmaaGreatDoorUC
import Derived.Lib.OthersKept
import Derived.Maps.OwnSet
import Derived.Maps.RangeWalk
import Derived.Maps.Ext
namespace Go.Proofs.YtmgbmphheagdmaaGreatDoor
open Go.RowKit

theorem bl_byte (s : ByteArray) (k : Nat) (h : k < s.size) : byteN (bl s) k = s[k].toNat := by
  unfold byteN; rw [bl_get s k h]
theorem inB_iff (s : ByteArray) (k lo hi c : Nat) (h : k < s.size) (hc : s[k].toNat = c) : inB (bl s) k lo hi ↔ lo ≤ c ∧ c ≤ hi := by
  unfold inB; rw [bl_byte s k h, hc, bl_length]; exact ⟨fun x => x.2, fun x => ⟨h, x⟩⟩
/-- Are there so many bytes from 80 to bf, from a place on? -/
def tailP (l : List UInt8) (k n : Nat) : Prop := ∀ j, j < n → inB l (k + j) 128 191
theorem tail_all (l : List UInt8) (k n : Nat) : tailP l k n ↔ ((List.range n).all fun j => decide (inB l (k + j) 128 191)) = true := by
  unfold tailP; simp
instance (l : List UInt8) (k n : Nat) : Decidable (tailP l k n) := decidable_of_iff _ (tail_all l k n).symm
theorem tail1 (l : List UInt8) : tailP l 1 1 ↔ inB l 1 128 191 := ⟨fun h => h 0 (by omega), fun h j hj => by
    obtain rfl : j = 0 := by omega
    exact h⟩
theorem tail2 (l : List UInt8) : tailP l 1 2 ↔ inB l 1 128 191 ∧ inB l 2 128 191 :=
  ⟨fun h => ⟨h 0 (by omega), h 1 (by omega)⟩, fun h j hj => by
    have : j = 0 ∨ j = 1 := by omega
    rcases this with rfl | rfl
    · exact h.1
    · exact h.2⟩
theorem tail3 (l : List UInt8) : tailP l 1 3 ↔ inB l 1 128 191 ∧ inB l 2 128 191 ∧ inB l 3 128 191 :=
  ⟨fun h => ⟨h 0 (by omega), h 1 (by omega), h 2 (by omega)⟩, fun h j hj => by
    have : j = 0 ∨ j = 1 ∨ j = 2 := by omega
    rcases this with rfl | rfl | rfl
    · exact h.1
    · exact h.2.1
    · exact h.2.2⟩
def sizeB (a0 b0 t1 t2 e0 e1 f0 g0 g1 h0 t3 i0 i1 j0 k0 k1 : Bool) : Nat :=
  if a0 then 1 else if b0 && t1 then 2 else if t2 && ((e0 && e1) || f0 || (g0 && g1) || h0) then 3 else if t3 && ((i0 && i1) || j0 || (k0 && k1)) then 4 else 0
theorem sizeL_B (l : List UInt8) : sizeL l = sizeB (decide (inB l 0 0 127)) (decide (inB l 0 194 223)) (decide (tailP l 1 1)) (decide (tailP l 1 2)) (decide (inB l 0 224 224)) (decide (inB l 1 160 191)) (decide (inB l 0 225 236))
    (decide (inB l 0 237 237)) (decide (inB l 1 128 159)) (decide (inB l 0 238 239)) (decide (tailP l 1 3)) (decide (inB l 0 240 240)) (decide (inB l 1 144 191)) (decide (inB l 0 241 243)) (decide (inB l 0 244 244)) (decide (inB l 1 128 143)) := by
  unfold sizeL sizeB
  simp only [tail1, tail2, tail3, Bool.and_eq_true, Bool.or_eq_true, decide_eq_true_eq, or_assoc]
theorem class_of (l : List UInt8) : (decide (inB l 0 0 127), decide (inB l 0 194 223), decide (inB l 0 224 224), decide (inB l 0 225 236), decide (inB l 0 237 237), decide (inB l 0 238 239), decide (inB l 0 240 240), decide (inB l 0 241 243), decide (inB l 0 244 244)) ∈
    [(true, false, false, false, false, false, false, false, false), (false, true, false, false, false, false, false, false, false), (false, false, true, false, false, false, false, false, false),
      (false, false, false, true, false, false, false, false, false), (false, false, false, false, true, false, false, false, false), (false, false, false, false, false, true, false, false, false), (false, false, false, false, false, false, true, false, false),
      (false, false, false, false, false, false, false, true, false), (false, false, false, false, false, false, false, false, true), (false, false, false, false, false, false, false, false, false)] := by
  simp only [List.mem_cons, Prod.mk.injEq, List.not_mem_nil, or_false, decide_eq_true_eq, decide_eq_false_iff_not]
  unfold inB
  generalize byteN l 0 = c
  by_cases h0 : 0 < l.length
  · have h : c ≤ 127 ∨ (194 ≤ c ∧ c ≤ 223) ∨ c = 224 ∨ (225 ≤ c ∧ c ≤ 236) ∨ c = 237 ∨ (238 ≤ c ∧ c ≤ 239) ∨ c = 240 ∨ (241 ≤ c ∧ c ≤ 243) ∨ c = 244 ∨ ((128 ≤ c ∧ c ≤ 193) ∨ 245 ≤ c) := by omega
    rcases h with h | h | h | h | h | h | h | h | h | h
    all_goals repeat (first | (refine Or.inl ⟨by omega, by omega, by omega, by omega, by omega, by omega, by omega, by omega, by omega⟩) | (refine ⟨by omega, by omega, by omega, by omega, by omega, by omega, by omega, by omega, by omega⟩) | apply Or.inr)
  · repeat (first | (refine Or.inl ⟨by omega, by omega, by omega, by omega, by omega, by omega, by omega, by omega, by omega⟩) | (refine ⟨by omega, by omega, by omega, by omega, by omega, by omega, by omega, by omega, by omega⟩) | apply Or.inr)
theorem tails_of (l : List UInt8) : (decide (tailP l 1 1), decide (tailP l 1 2), decide (tailP l 1 3)) ∈ [(true, true, true), (true, true, false), (true, false, false), (false, false, false)] := by
  simp only [List.mem_cons, Prod.mk.injEq, List.not_mem_nil, or_false, decide_eq_true_eq, decide_eq_false_iff_not, tail1, tail2, tail3]
  by_cases h1 : inB l 1 128 191
  · by_cases h2 : inB l 2 128 191
    · by_cases h3 : inB l 3 128 191
      · simp [h1, h2, h3]
      · simp [h1, h2, h3]
    · simp [h1, h2]
  · simp [h1]
theorem selfL_1 (r : ByteArray) (h : r.size = 1) (c : Nat) (hc : byteN (bl r) 0 = c) : selfL (bl r) = decide (32 ≤ c ∧ c ≤ 126 ∧ c ≠ 92) := by
  unfold selfL; rw [if_pos (by rw [bl_length]; exact h), hc]
theorem selfL_2 (r : ByteArray) (h : r.size = 2) (hc : byteN (bl r) 0 = 194) (d : Nat) (hd : byteN (bl r) 1 = d) : selfL (bl r) = decide (161 ≤ d) := by
  unfold selfL; rw [if_neg (by rw [bl_length]; omega), if_pos (by rw [bl_length]; exact ⟨h, hc⟩), hd]
theorem selfL_n (r : ByteArray) (h : r.size ≠ 1) (h2 : ¬ (r.size = 2 ∧ byteN (bl r) 0 = 194)) : selfL (bl r) = decide (1 < r.size) := by
  unfold selfL; rw [if_neg (by rw [bl_length]; omega), if_neg (by rw [bl_length]; exact h2), bl_length]
/-- So many runes, and those of the rest. -/
def cplus (j : Nat) (c : Int) : Int := if c < 0 then -1 else (j : Int) + c
theorem countL_nil : countL [] = 0 := by decide
theorem countL_ge (l : List UInt8) : -1 ≤ countL l := by unfold countL; split <;> omega
theorem countL_zero (l : List UInt8) (h : l ≠ []) (hs : sizeL l = 0) : countL l = -1 := by
  unfold countL
  rw [pieces_step l h, if_pos hs]
  simp
theorem countL_step (l : List UInt8) (hs : sizeL l ≠ 0) : countL l = cplus 1 (countL (l.drop (sizeL l))) := by
  have h : l ≠ [] := fun e => hs (by rw [e, sizeL_nil])
  unfold countL cplus
  rw [pieces_step l h, if_neg hs]
  simp only [List.all_cons, Bool.true_and, List.length_cons]
  by_cases hq : (piecesL (l.drop (sizeL l))).all (·.2) = true
  · rw [if_pos hq, if_pos hq, if_neg (by omega)]; omega
  · rw [if_neg hq, if_neg hq, if_pos (by omega)]
theorem cplus_more (j : Nat) (c : Int) : cplus j (cplus 1 c) = cplus (j + 1) c := by
  unfold cplus
  by_cases hc : c < 0
  · rw [if_pos hc, if_pos (by omega), if_pos hc]
  · rw [if_neg hc, if_neg (by omega), if_neg hc]; omega
theorem bl_rest (s : ByteArray) (k : Nat) : bl (s.extract k s.size) = (bl s).drop k := by
  rw [bl_extract, List.take_of_length_le (by rw [List.length_drop, bl_length]; omega)]
/-- Is the rest of a text, behind so many runes of it, the rest of a name? -/
def restR (j : Nat) (r : List UInt8) : Bool := (piecesL r).all (fun q => q.2 && nameP q.1) && decide (1 ≤ j + (piecesL r).length ∧ j + (piecesL r).length ≤ 24 ∧ (j = 0 → byteN r 0 ≠ 45))
theorem restR_0 (l : List UInt8) : restR 0 l = rightL l := by unfold restR rightL; simp
theorem restR_zero (j : Nat) (r : List UInt8) (h : r ≠ []) (hs : sizeL r = 0) : restR j r = false := by
  unfold restR
  rw [pieces_step r h, if_pos hs]; simp
theorem restR_many (j : Nat) (r : List UInt8) (h : 24 < j) : restR j r = false := by
  unfold restR
  rw [decide_eq_false (by omega), Bool.and_false]
theorem restR_nil (j : Nat) : restR j [] = decide (1 ≤ j ∧ j ≤ 24) := by
  unfold restR
  rw [pieces_nil, byteN_nil]; simp
theorem restR_first (r : List UInt8) (h : byteN r 0 = 45) : restR 0 r = false := by
  unfold restR
  rw [decide_eq_false (fun g => g.2.2 rfl h), Bool.and_false]
theorem restR_bad (j : Nat) (r : List UInt8) (hs : sizeL r ≠ 0) (hn : nameP (r.take (sizeL r)) = false) : restR j r = false := by
  have h : r ≠ [] := fun e => hs (by rw [e, sizeL_nil])
  unfold restR
  rw [pieces_step r h, if_neg hs, List.all_cons]
  simp [hn]
theorem restR_step (j : Nat) (r : List UInt8) (hs : sizeL r ≠ 0) (hn : nameP (r.take (sizeL r)) = true) (hf : j = 0 → byteN r 0 ≠ 45) : restR j r = restR (j + 1) (r.drop (sizeL r)) := by
  have h : r ≠ [] := fun e => hs (by rw [e, sizeL_nil])
  unfold restR
  rw [pieces_step r h, if_neg hs, List.all_cons]
  simp only [hn, Bool.and_true, Bool.true_and, List.length_cons]
  congr 1
  apply decide_eq_decide.2
  constructor
  · exact fun g => ⟨by omega, by omega, fun e => by omega⟩
  · exact fun g => ⟨by omega, by omega, hf⟩
theorem nameP_1 (r : List UInt8) (h : 0 < r.length) (c : Nat) (hc : byteN r 0 = c) : nameP (r.take 1) = decide ((97 ≤ c ∧ c ≤ 122) ∨ (48 ≤ c ∧ c ≤ 57) ∨ c = 95 ∨ c = 45) := by
  unfold nameP
  rw [if_pos (by rw [List.length_take]; omega), byteN_take r 1 0 (by omega), hc]
theorem nameP_n (r : List UInt8) (z : Nat) (h : z ≤ r.length) (hz : 1 < z) : nameP (r.take z) = selfL (r.take z) := by
  unfold nameP
  rw [if_neg (by rw [List.length_take]; omega)]
theorem bl_part (s : ByteArray) (k z : Nat) : bl (s.extract k (k + z)) = ((bl s).drop k).take z := by
  rw [bl_extract, Nat.add_sub_cancel_left]

/-- A file: its name, its durable bytes, the others. -/
abbrev Fl := List UInt8 × List UInt8 × List UInt8
/-- A disk. -/
structure St where
  files : List Fl
  room : Int
  fuse : Int
  off : Bool
def sizeF (f : Fl) : Nat := f.2.1.length + f.2.2.length
def usedL : List Fl → Nat
  | [] => 0
  | f :: l => sizeF f + usedL l
theorem usedL_append (l m : List Fl) : usedL (l ++ m) = usedL l + usedL m := by
  induction l with
  | nil => simp [usedL]
  | cons f l ih => simp only [List.cons_append, usedL, ih]; omega
/-- Where a file stands. -/
def atN (nm : List UInt8) : List Fl → Option Nat
  | [] => none
  | f :: l => if f.1 = nm then some 0 else (atN nm l).map (· + 1)
theorem atN_some : ∀ {nm : List UInt8} {l : List Fl} {i : Nat}, atN nm l = some i → ∃ f, l[i]? = some f ∧ f.1 = nm
  | nm, f :: l, i, h => by
    unfold atN at h
    split at h
    · rename_i e
      obtain rfl : i = 0 := by simpa using h.symm
      exact ⟨f, rfl, e⟩
    · cases hl : atN nm l with
      | none => rw [hl] at h; cases h
      | some j =>
        rw [hl] at h
        obtain rfl : i = j + 1 := by simpa using h.symm
        exact atN_some (l := l) hl
theorem atN_none : ∀ {nm : List UInt8} {l : List Fl}, atN nm l = none → ∀ f ∈ l, f.1 ≠ nm
  | nm, [], _, f, hf => by cases hf
  | nm, g :: l, h, f, hf => by
    unfold atN at h
    split at h
    · cases h
    · rename_i e
      rcases List.mem_cons.1 hf with rfl | hf
      · exact e
      · exact atN_none (by simpa using h) f hf
/-- The place as a number, -1 where there is none. -/
def atI (nm : List UInt8) (l : List Fl) : Int := match atN nm l with | some i => (i : Int) | none => -1
/-- The search from the i-th file on. -/
theorem atN_skip {nm : List UInt8} {f : Fl} {l : List Fl} (h : f.1 ≠ nm) : atN nm (f :: l) = (atN nm l).map (· + 1) := by
  rw [atN, if_neg h]
theorem atN_hit {nm : List UInt8} {f : Fl} {l : List Fl} (h : f.1 = nm) : atN nm (f :: l) = some 0 := by rw [atN, if_pos h]
def atFrom (nm : List UInt8) (l : List Fl) (i : Nat) : Option Nat := (atN nm (l.drop i)).map (· + i)
theorem atFrom_zero (nm : List UInt8) (l : List Fl) : atFrom nm l 0 = atN nm l := by unfold atFrom; cases h : atN nm l <;> simp [h]
theorem atFrom_hit {nm : List UInt8} {l : List Fl} {i : Nat} {f : Fl} (hf : l[i]? = some f) (h : f.1 = nm) : atFrom nm l i = some i := by
  obtain ⟨hl, e⟩ := List.getElem?_eq_some_iff.1 hf
  unfold atFrom
  rw [List.drop_eq_getElem_cons hl, e, atN_hit h]; simp
theorem atFrom_skip {nm : List UInt8} {l : List Fl} {i : Nat} {f : Fl} (hf : l[i]? = some f) (h : f.1 ≠ nm) : atFrom nm l i = atFrom nm l (i + 1) := by
  obtain ⟨hl, e⟩ := List.getElem?_eq_some_iff.1 hf
  unfold atFrom
  rw [List.drop_eq_getElem_cons hl, e, atN_skip h]
  cases atN nm (l.drop (i + 1)) <;> simp <;> omega
theorem atFrom_end {nm : List UInt8} {l : List Fl} {i : Nat} (h : l.length ≤ i) : atFrom nm l i = none := by
  unfold atFrom; rw [List.drop_eq_nil_of_le h]; rfl
/-- The fuse burns: is the power off behind it? -/
def burnS (s : St) : St := { s with off := s.off || decide (s.fuse = 0), fuse := if 0 < s.fuse then s.fuse - 1 else s.fuse }
/-- How many files stand ahead of a name. -/
def placeL (nm : List UInt8) : List Fl → Nat
  | [] => 0
  | f :: l => if ltL f.1 nm = true then placeL nm l + 1 else 0
/-- A text behind a file's others; a new file stands in order. -/
def putF (nm b : List UInt8) (l : List Fl) : List Fl := match atN nm l with
  | some i => l.modify i fun f => (f.1, f.2.1, f.2.2 ++ b)
  | none => l.take (placeL nm l) ++ [(nm, [], b)] ++ l.drop (placeL nm l)
def appendS (nm b : List UInt8) (s : St) : Int × St :=
  if s.off = true then (7, s) else if rightL nm = false then (5, s) else if s.room < ((usedL s.files + b.length : Nat) : Int) then (6, s)
  else if (burnS s).off = true then (7, burnS s) else (0, { burnS s with files := putF nm b s.files })
def syncF (f : Fl) : Fl := (f.1, f.2.1 ++ f.2.2, [])
/-- What is done with the i-th file, if nothing hinders. -/
def onS (nm : List UInt8) (bad : Nat → Option Int) (g : Nat → List Fl → List Fl) (s : St) : Int × St :=
  if s.off = true then (7, s) else match atN nm s.files with
    | none => (8, s)
    | some i => match bad i with
      | some e => (e, s)
      | none => if (burnS s).off = true then (7, burnS s) else (0, { burnS s with files := g i s.files })
def syncS (nm : List UInt8) (s : St) : Int × St := onS nm (fun _ => none) (fun i l => l.modify i syncF) s
def cutF (n : Nat) (f : Fl) : Fl := (f.1, (f.2.1 ++ f.2.2).take (min n f.2.1.length), ((f.2.1 ++ f.2.2).take n).drop (min n f.2.1.length))
def cutBad (n : Int) (l : List Fl) (i : Nat) : Option Int := match l[i]? with
  | some f => if n < 0 ∨ ((sizeF f : Nat) : Int) < n then some 1 else none
  | none => none
def cutS (nm : List UInt8) (n : Int) (s : St) : Int × St := onS nm (cutBad n s.files) (fun i l => l.modify i (cutF n.toNat)) s
def removeS (nm : List UInt8) (s : St) : Int × St := onS nm (fun _ => none) (fun i l => l.take i ++ l.drop (i + 1)) s
def readS (nm : List UInt8) (s : St) : List UInt8 × Int :=
  if s.off = true then ([], 7) else match atN nm s.files with
    | none => ([], 8)
    | some i => match s.files[i]? with
      | some f => (f.2.1 ++ f.2.2, 0)
      | none => ([], 8)
/-- How many late bytes a crash keeps. -/
def keepN (keep : List Int) (n m : Nat) : Nat := if keep = [] then 0 else ((keep.getD (n % keep.length) 0) % 18446744073709551616).toNat % (m + 1)
def crashL (keep : List Int) : Nat → List Fl → List Fl
  | _, [] => []
  | n, f :: l => if f.2.2 = [] then (f.1, f.2.1, []) :: crashL keep n l else (f.1, f.2.1 ++ f.2.2.take (keepN keep n f.2.2.length), []) :: crashL keep (n + 1) l
def crashS (keep : List Int) (s : St) : St := { files := crashL keep 0 s.files, room := s.room, fuse := -1, off := false }
def newS (room : Int) : St := { files := [], room := room, fuse := -1, off := false }
/-- The names rise. -/
def RiseF (l : List Fl) : Prop := l.Pairwise fun f g => ltL f.1 g.1 = true
/-- What a call may have changed: blocks of F, and new ones. -/
structure Only (F : Nat → Prop) (w w' : World) : Prop where
  os : w'.os = w.os
  tape : w'.tape = w.tape
  output : w'.output = w.output
  size : w.heap.size ≤ w'.heap.size
  block : ∀ k, k < w.heap.size → ¬ F k → w'.heap[k]? = w.heap[k]?
theorem Only.refl (F : Nat → Prop) (w : World) : Only F w w := ⟨rfl, rfl, rfl, Nat.le_refl _, fun _ _ _ => rfl⟩
theorem Only.trans {F : Nat → Prop} {u v w : World} (h : Only F u v) (k : Only F v w) : Only F u w :=
  ⟨k.os.trans h.os, k.tape.trans h.tape, k.output.trans h.output, Nat.le_trans h.size k.size, fun i hi hF => (k.block i (Nat.lt_of_lt_of_le hi h.size) hF).trans (h.block i hi hF)⟩
/-- Two calls, the second one on what the first one left. -/
theorem Only.then {F F' : Nat → Prop} {u v w : World} (h : Only F u v) (k : Only F' v w) (hF : ∀ i, F' i → F i ∨ u.heap.size ≤ i) : Only F u w :=
  ⟨k.os.trans h.os, k.tape.trans h.tape, k.output.trans h.output, Nat.le_trans h.size k.size, fun i hi hn => (k.block i (Nat.lt_of_lt_of_le hi h.size) (fun h' => (hF i h').elim hn (fun h' => by omega))).trans (h.block i hi hn)⟩
theorem Only.mono {F F' : Nat → Prop} {u v : World} (h : Only F u v) (hF : ∀ i, F i → F' i) : Only F' u v :=
  ⟨h.os, h.tape, h.output, h.size, fun i hi hn => h.block i hi (fun h' => hn (hF i h'))⟩
theorem Only.drew {F : Nat → Prop} {u v : World} (h : Only F u v) : Only F u v.drew := ⟨h.os, h.tape, h.output, h.size, h.block⟩
theorem Only.drewN {F : Nat → Prop} {u v : World} (h : Only F u v) (n : Nat) : Only F u (v.drewN n) := ⟨h.os, h.tape, h.output, h.size, h.block⟩
theorem Only.setCell {F : Nat → Prop} {u v : World} (h : Only F u v) (a : Addr) (x : Value) (ha : F a.block ∨ u.heap.size ≤ a.block) : Only F u (v.setCell a x) :=
  ⟨h.os, h.tape, h.output, by simpa using h.size, fun i hi hn => (heap_setCell_other v a i x (fun e => by subst e; rcases ha with ha | ha; exact hn ha; omega)).trans (h.block i hi hn)⟩
theorem Only.of_below {B : Nat} {F : Nat → Prop} {u v : World} (h : Below B u v) (hF : ∀ i, B ≤ i → F i ∨ u.heap.size ≤ i) : Only F u v :=
  ⟨h.os, h.tape, h.output, h.size, fun i hi hn => h.block i (Nat.lt_of_not_le fun hb => (hF i hb).elim hn (fun h' => by omega))⟩
theorem Only.below {B : Nat} {F : Nat → Prop} {u v : World} (h : Only F u v) (hB : B ≤ u.heap.size) (hF : ∀ i, F i → B ≤ i) : Below B u v :=
  ⟨h.os, h.tape, h.output, h.size, fun i hi => h.block i (Nat.lt_of_lt_of_le hi hB) (fun h' => by have := hF i h'; omega)⟩
/-- Files as cells. -/
def flC (l : List Fl) : List Value := l.flatMap fun f => [.string (bs f.1), .string (bs f.2.1), .string (bs f.2.2)]
theorem flC_length (l : List Fl) : (flC l).length = l.length * 3 := by
  induction l with
  | nil => rfl
  | cons s l ih => simp only [flC, List.flatMap_cons, List.length_append, List.length_cons, List.length_nil] at *; omega
theorem flC_cons (f : Fl) (l : List Fl) : flC (f :: l) = .string (bs f.1) :: .string (bs f.2.1) :: .string (bs f.2.2) :: flC l := rfl
theorem flC_append (l m : List Fl) : flC (l ++ m) = flC l ++ flC m := by unfold flC; rw [List.flatMap_append]
theorem flC_one (l : List Fl) : ∀ u ∈ flC l, u.oneCell' = true := by
  intro u hu
  obtain ⟨s, _, h⟩ := List.mem_flatMap.1 hu
  simp only [List.mem_cons, List.not_mem_nil, or_false] at h
  rcases h with rfl | rfl | rfl <;> rfl
theorem flC_at : ∀ (l : List Fl) (i : Nat) (f : Fl), l[i]? = some f → (flC l)[i * 3]? = some (.string (bs f.1)) ∧ (flC l)[i * 3 + 1]? = some (.string (bs f.2.1)) ∧ (flC l)[i * 3 + 2]? = some (.string (bs f.2.2))
  | [], i, f, h => by simp at h
  | g :: l, 0, f, h => by
    obtain rfl : g = f := by simpa using h
    exact ⟨rfl, rfl, rfl⟩
  | g :: l, i + 1, f, h => by
    have := flC_at l i f (by simpa using h)
    rw [flC_cons, show (i + 1) * 3 = i * 3 + 1 + 1 + 1 by omega]
    simpa using this
theorem flC_set : ∀ (l : List Fl) (i : Nat) (f : Fl), l[i]? = some f → ∀ x y, ((flC l).set (i * 3 + 1) (.string (bs x))).set (i * 3 + 2) (.string (bs y)) = flC (l.modify i fun f => (f.1, x, y))
  | [], i, f, h, x, y => by simp at h
  | g :: l, 0, f, h, x, y => by
    rfl
  | g :: l, i + 1, f, h, x, y => by
    have := flC_set l i f (by simpa using h) x y
    rw [List.modify_succ_cons, flC_cons, flC_cons, ← this, show (i + 1) * 3 + 1 = i * 3 + 1 + 1 + 1 + 1 by omega, show (i + 1) * 3 + 2 = i * 3 + 2 + 1 + 1 + 1 by omega]
    rfl
theorem flC_late : ∀ (l : List Fl) (i : Nat) (y : List UInt8), (flC l).set (i * 3 + 2) (.string (bs y)) = flC (l.modify i fun f => (f.1, f.2.1, y))
  | [], i, y => by simp [flC]
  | g :: l, 0, y => rfl
  | g :: l, i + 1, y => by
    rw [List.modify_succ_cons, flC_cons, flC_cons, ← flC_late l i y, show (i + 1) * 3 + 2 = i * 3 + 2 + 1 + 1 + 1 by omega]
    rfl
/-- Its blocks. -/
def Foot (r : Nat) (v : Value) (k : Nat) : Prop := k = r ∨ v.ownBlock = some k
/-- What may be asked of a disk here. -/
structure Fit (s : St) : Prop where
  room0 : 0 ≤ s.room
  room1 : s.room ≤ 8388608
  fuse0 : -1 ≤ s.fuse
  fuse1 : s.fuse ≤ 9223372036854775807
  used : usedL s.files ≤ 1000000000
  len : s.files.length ≤ 1000000
theorem used_drop (l : List Fl) (i : Nat) (f : Fl) (h : l[i]? = some f) : usedL (l.take (i + 1)) = usedL (l.take i) + sizeF f := by
  rw [List.take_add_one, h, usedL_append]; simp [usedL]
theorem used_le (l : List Fl) (i : Nat) : usedL (l.take i) ≤ usedL l := by
  have := congrArg usedL (List.take_append_drop i l)
  rw [usedL_append] at this; omega
theorem drewN_add (w : World) (a b : Nat) : (w.drewN a).drewN b = w.drewN (a + b) := by simp [World.drewN, Nat.add_assoc]
theorem atI_none {nm : List UInt8} {l : List Fl} (h : atN nm l = none) : atI nm l = -1 := by unfold atI; rw [h]
theorem atI_some {nm : List UInt8} {l : List Fl} {i : Nat} (h : atN nm l = some i) : atI nm l = (i : Int) := by unfold atI; rw [h]
theorem modify_at {l : List Fl} {i : Nat} {f : Fl} (h : l[i]? = some f) (g g' : Fl → Fl) (e : g f = g' f) : l.modify i g = l.modify i g' := by
  apply List.ext_getElem?
  intro j
  rw [List.getElem?_modify, List.getElem?_modify]
  by_cases hj : i = j
  · subst hj; rw [h]; simp [e]
  · simp [hj]
theorem bs_extract (l : List UInt8) (a b : Nat) : (bs l).extract a b = bs ((l.drop a).take (b - a)) := by
  apply bs_lit
  rw [bl_extract, bl_bs]
theorem Only.below_new {F : Nat → Prop} {u v w : World} (h : Only F u v) (hb : Below v.heap.size v w) : Only F u w :=
  h.then (F' := fun k => v.heap.size ≤ k) (Only.of_below hb fun _ hi => .inl hi) fun _ hi => .inr (Nat.le_trans h.size hi)
theorem flC_take : ∀ (l : List Fl) (i : Nat), (flC l).take (i * 3) = flC (l.take i)
  | [], i => by simp [flC]
  | t :: l, 0 => by simp [flC]
  | t :: l, i + 1 => by rw [List.take_succ_cons, flC_cons, flC_cons, show (i + 1) * 3 = i * 3 + 1 + 1 + 1 by omega, List.take_succ_cons, List.take_succ_cons, List.take_succ_cons, flC_take l i]
theorem flC_drop : ∀ (l : List Fl) (i : Nat), (flC l).drop (i * 3) = flC (l.drop i)
  | [], i => by simp [flC]
  | t :: l, 0 => by simp
  | t :: l, i + 1 => by rw [List.drop_succ_cons, flC_cons, show (i + 1) * 3 = i * 3 + 1 + 1 + 1 by omega, List.drop_succ_cons, List.drop_succ_cons, List.drop_succ_cons, flC_drop l i]
theorem own_cap {w : World} {base g cap n : Nat} {e : TypeId} {k : Nat} {cs : List Value} (h : w.ownsRow base e k (.slice (some ⟨g, 0, none⟩) n cap) n cs) : n ≤ cap := by
  rcases h.2 with ⟨hv, _⟩ | ⟨g', cap', cur, hv, _, _, hc, _⟩
  · cases hv
  · injection hv with _ _ e3; omega
theorem place_le (nm : List UInt8) : ∀ l, placeL nm l ≤ l.length
  | [] => Nat.le_refl _
  | f :: l => by
    unfold placeL
    split
    · have := place_le nm l; simp; omega
    · simp
theorem place_more (nm : List UInt8) : ∀ (l : List Fl) (k : Nat) (f : Fl), k ≤ placeL nm l → l[k]? = some f → ltL f.1 nm = true → k + 1 ≤ placeL nm l
  | [], k, f, _, h, _ => by simp at h
  | g :: l, 0, f, _, h, hl => by
    obtain rfl : g = f := by simpa using h
    unfold placeL; rw [if_pos hl]; omega
  | g :: l, k + 1, f, hk, h, hl => by
    unfold placeL at hk ⊢
    split at hk
    · rename_i e
      rw [if_pos e]
      have := place_more nm l k f (by omega) (by simpa using h) hl
      omega
    · omega
theorem place_stop (nm : List UInt8) : ∀ (l : List Fl) (k : Nat) (f : Fl), k ≤ placeL nm l → l[k]? = some f → ltL f.1 nm = false → placeL nm l = k
  | [], k, f, _, h, _ => by simp at h
  | g :: l, 0, f, _, h, hl => by
    obtain rfl : g = f := by simpa using h
    unfold placeL; rw [if_neg (by rw [hl]; simp)]
  | g :: l, k + 1, f, hk, h, hl => by
    unfold placeL at hk ⊢
    split at hk
    · rename_i e
      rw [if_pos e]
      have := place_stop nm l k f (by omega) (by simpa using h) hl
      omega
    · omega
theorem appendS_full (nm b : List UInt8) (s : St) (h1 : s.off = false) (h2 : rightL nm = true) (h3 : s.room < ((usedL s.files + b.length : Nat) : Int)) : appendS nm b s = (6, s) := by
  unfold appendS; rw [if_neg (by rw [h1]; simp), if_neg (by rw [h2]; simp), if_pos h3]
theorem appendS_burnt (nm b : List UInt8) (s : St) (h1 : s.off = false) (h2 : rightL nm = true) (h3 : ¬ s.room < ((usedL s.files + b.length : Nat) : Int)) (h4 : (burnS s).off = true) : appendS nm b s = (7, burnS s) := by
  unfold appendS; rw [if_neg (by rw [h1]; simp), if_neg (by rw [h2]; simp), if_neg h3, if_pos h4]
theorem appendS_done (nm b : List UInt8) (s : St) (h1 : s.off = false) (h2 : rightL nm = true) (h3 : ¬ s.room < ((usedL s.files + b.length : Nat) : Int)) (h4 : (burnS s).off = false) : appendS nm b s = (0, { burnS s with files := putF nm b s.files }) := by
  unfold appendS; rw [if_neg (by rw [h1]; simp), if_neg (by rw [h2]; simp), if_neg h3, if_neg (by rw [h4]; simp)]
theorem fit_burn {s : St} (h : Fit s) : Fit (burnS s) where
  room0 := h.room0
  room1 := h.room1
  fuse0 := by
    show -1 ≤ (if 0 < s.fuse then s.fuse - 1 else s.fuse)
    have := h.fuse0
    split <;> omega
  fuse1 := by
    show (if 0 < s.fuse then s.fuse - 1 else s.fuse) ≤ _
    have := h.fuse1
    split <;> omega
  used := h.used
  len := h.len
/-- Integers as cells. -/
def intC (l : List Int) : List Value := l.map fun x => .int .i64 x
theorem intC_at (l : List Int) (i : Nat) (x : Int) (h : l[i]? = some x) : (intC l)[i]? = some (.int .i64 x) := by simp [intC, h]
theorem row_int {w : World} {A : Option Addr} {l : List Int} (h : RowAt w A (intC l)) (i : Nat) (x : Int) (hx : l[i]? = some x) :
    ∃ b off, A = some (⟨b, off, none⟩ : Addr) ∧ b < w.heap.size ∧ w.cell? ⟨b, off + i, none⟩ = some (.int .i64 x) := h _ _ (intC_at l i x hx)
/-- What a crash makes of a file, the n-th of those with late bytes. -/
def crashF (keep : List Int) (n : Nat) (f : Fl) : Fl := if f.2.2 = [] then (f.1, f.2.1, []) else (f.1, f.2.1 ++ f.2.2.take (keepN keep n f.2.2.length), [])
def lateN : List Fl → Nat
  | [] => 0
  | f :: l => (if f.2.2 = [] then 0 else 1) + lateN l
theorem crashL_snoc (keep : List Int) (f : Fl) : ∀ (l : List Fl) (n : Nat), crashL keep n (l ++ [f]) = crashL keep n l ++ [crashF keep (n + lateN l) f]
  | [], n => by
    unfold crashF
    simp only [List.nil_append, lateN, Nat.add_zero]
    unfold crashL
    split <;> simp [crashL]
  | g :: l, n => by
    rw [List.cons_append, crashL, crashL]
    unfold lateN
    split
    · rw [crashL_snoc keep f l n, Nat.zero_add]; rfl
    · rw [crashL_snoc keep f l (n + 1), Nat.add_assoc n 1]; rfl
theorem lateN_snoc (f : Fl) : ∀ l : List Fl, lateN (l ++ [f]) = lateN l + (if f.2.2 = [] then 0 else 1)
  | [] => by simp [lateN]
  | g :: l => by rw [List.cons_append, lateN, lateN, lateN_snoc f l]; omega
theorem lateN_le : ∀ l : List Fl, lateN l ≤ l.length
  | [] => Nat.le_refl _
  | g :: l => by
    have := lateN_le l
    unfold lateN
    split <;> simp <;> omega
theorem crashL_length (keep : List Int) : ∀ (l : List Fl) (n : Nat), (crashL keep n l).length = l.length
  | [], _ => rfl
  | f :: l, n => by
    unfold crashL
    split
    · simp [crashL_length keep l n]
    · simp [crashL_length keep l (n + 1)]
/-- What a call of the program's disk leaves. -/
def DRet (D : World → Addr → (Nat → Prop) → St → Prop) (x : Value) (a : Addr) (F : Nat → Prop) (s' : St) (w : World) (e : Ending) (w' : World) : Prop :=
  e = .returned x ∧ ∃ F', D w' a F' s' ∧ Only F w w' ∧ ∀ k, F' k → F k ∨ w.heap.size ≤ k
/-- Fuse, Room as the document has them. -/
def fuseS (n : Int) (s : St) : St := { s with fuse := max n (-1) }
def roomS (n : Int) (s : St) : Int × St := if 0 ≤ n ∧ n ≤ 8388608 then (0, { s with room := n }) else (1, s)
def namesL (s : St) : List (List UInt8) := if s.off = true then [] else s.files.map (·.1)
def usedS (s : St) : Nat := if s.off = true then 0 else usedL s.files
def I64 (n : Int) : Prop := -9223372036854775808 ≤ n ∧ n ≤ 9223372036854775807
/-- The program's own disk answers what the document says: D w a F s: behind a, in blocks F, lies a disk s. -/
structure GoodD where
  D : World → Addr → (Nat → Prop) → St → Prop
  foot : ∀ {w a F s}, D w a F s → ∀ k, F k → k < w.heap.size
  stay : ∀ {w w' : World} {a F s}, D w a F s → w.heap.size ≤ w'.heap.size → (∀ k, F k → w'.heap[k]? = w.heap[k]?) → D w' a F s
  rise : ∀ {w a F s}, D w a F s → RiseF s.files
  short : ∀ {w a F s}, D w a F s → ∀ f ∈ s.files, f.1.length ≤ 9223372036854775807
  new : ∀ (room : Int) (w : World), 0 ≤ room → room ≤ 8388608 → Calls Tryz.prog 10 #[.int .i64 room] w fun e w' => ∃ a F, e = .returned (.tuple #[.pointer (some a), .int .i64 0]) ∧ D w' a F (newS room) ∧ (∀ k, F k → w.heap.size ≤ k) ∧ Below w.heap.size w w'
  bad : ∀ (room : Int) (w : World), I64 room → ¬ (0 ≤ room ∧ room ≤ 8388608) → Calls Tryz.prog 10 #[.int .i64 room] w fun e w' => e = .returned (.tuple #[.pointer none, .int .i64 1]) ∧ Below w.heap.size w w'
  append : ∀ (nm b : List UInt8) (a : Addr) (F : Nat → Prop) (s : St) (w : World), D w a F s → Fit s → nm.length ≤ 1000000 → b.length ≤ 2000000 → Calls Tryz.prog 20 #[.pointer (some a), .string (bs nm), .string (bs b)] w (DRet D (.int .i64 (appendS nm b s).1) a F (appendS nm b s).2 w)
  sync : ∀ (nm : List UInt8) (a : Addr) (F : Nat → Prop) (s : St) (w : World), nm.length ≤ 9223372036854775807 → D w a F s → Fit s → Calls Tryz.prog 35 #[.pointer (some a), .string (bs nm)] w (DRet D (.int .i64 (syncS nm s).1) a F (syncS nm s).2 w)
  cut : ∀ (nm : List UInt8) (n : Int) (a : Addr) (F : Nat → Prop) (s : St) (w : World), nm.length ≤ 9223372036854775807 → D w a F s → Fit s → I64 n → Calls Tryz.prog 22 #[.pointer (some a), .string (bs nm), .int .i64 n] w (DRet D (.int .i64 (cutS nm n s).1) a F (cutS nm n s).2 w)
  remove : ∀ (nm : List UInt8) (a : Addr) (F : Nat → Prop) (s : St) (w : World), nm.length ≤ 9223372036854775807 → D w a F s → Fit s → Calls Tryz.prog 34 #[.pointer (some a), .string (bs nm)] w (DRet D (.int .i64 (removeS nm s).1) a F (removeS nm s).2 w)
  read : ∀ (nm : List UInt8) (a : Addr) (F : Nat → Prop) (s : St) (w : World), nm.length ≤ 9223372036854775807 → D w a F s → Fit s → Calls Tryz.prog 30 #[.pointer (some a), .string (bs nm)] w (DRet D (.tuple #[.string (bs (readS nm s).1), .int .i64 (readS nm s).2]) a F s w)
  crash : ∀ (keep : List Int) (A : Option Addr) (kl kc : Nat) (a : Addr) (F : Nat → Prop) (s : St) (w : World), D w a F s → Fit s → keep.length = kl → RowAt w A (intC keep) → (∀ g off, A = some (⟨g, off, none⟩ : Addr) → 0 < kl → ¬ F g) → (∀ x ∈ keep, I64 x) → kl ≤ 9223372036854775807 → Calls Tryz.prog 16 #[.pointer (some a), .slice A kl kc] w (DRet D (.tuple #[]) a F (crashS keep s) w)
  fuse : ∀ (n : Int) (a : Addr) (F : Nat → Prop) (s : St) (w : World), D w a F s → I64 n → Calls Tryz.prog 18 #[.pointer (some a), .int .i64 n] w (DRet D (.tuple #[]) a F (fuseS n s) w)
  room : ∀ (n : Int) (a : Addr) (F : Nat → Prop) (s : St) (w : World), D w a F s → I64 n → Calls Tryz.prog 19 #[.pointer (some a), .int .i64 n] w (DRet D (.int .i64 (roomS n s).1) a F (roomS n s).2 w)
  down : ∀ (a : Addr) (F : Nat → Prop) (s : St) (w : World), D w a F s → Calls Tryz.prog 54 #[.pointer (some a)] w fun e w' => e = .returned (.bool s.off) ∧ Below w.heap.size w w'
  used : ∀ (a : Addr) (F : Nat → Prop) (s : St) (w : World), D w a F s → Fit s → Calls Tryz.prog 27 #[.pointer (some a)] w fun e w' => e = .returned (.int .i64 (usedS s : Nat)) ∧ Below w.heap.size w w'
  names : ∀ (a : Addr) (F : Nat → Prop) (s : St) (w : World), D w a F s → Fit s → Calls Tryz.prog 26 #[.pointer (some a)] w fun e w' => (∃ A n cap, e = .returned (.slice A n cap) ∧ (namesL s).length = n ∧ RowAt w' A (strC (namesL s)) ∧ ∀ g off, A = some (⟨g, off, .none⟩ : Addr) → ¬ F g) ∧ Below w.heap.size w w'
theorem GoodD.below (G : GoodD) {w w' : World} {a : Addr} {F : Nat → Prop} {s : St} (h : G.D w a F s) (hb : Below w.heap.size w w') : G.D w' a F s :=
  G.stay h hb.size fun k hk => hb.block k (G.foot h k hk)
theorem own_only {F : Nat → Prop} {w w' : World} {B : Nat} {e : TypeId} {k : Nat} {v : Value} {n : Nat} {cs : List Value} (h : w.ownsRow B e k v n cs) (ho : Only F w w') (hF : ∀ j, F j → v.ownBlock ≠ some j) : w'.ownsRow B e k v n cs := by
  refine ⟨h.1, ?_⟩
  rcases h.2 with ⟨hv, hn⟩ | ⟨g, cap, cur, hv, hb, hh, r⟩
  · exact .inl ⟨hv, hn⟩
  · refine .inr ⟨g, cap, cur, hv, hb, ?_, r⟩
    rw [ho.block g (Array.getElem?_eq_some_iff.1 hh).1 (fun hg => hF g hg (by rw [hv]; rfl))]
    exact hh
theorem Only.cell {F : Nat → Prop} {w w' : World} (h : Only F w w') {p : Addr} (hp : p.block < w.heap.size) (hF : ¬ F p.block) : w'.cell? p = w.cell? p := World.cell?_of_block (w := w) (h.block p.block hp hF)
/-- What an op leaves. -/
def stepS (k : Int) (nm b : List UInt8) (n : Int) (keep : List Int) (s : St) : St :=
  if k = 0 then (appendS nm b s).2 else if k = 1 then (syncS nm s).2 else if k = 2 then (cutS nm n s).2 else if k = 3 then (removeS nm s).2 else if k = 4 then s else if k = 5 then fuseS n s else if k = 6 then (roomS n s).2 else if k = 7 then crashS keep s else s
theorem atN_rise : ∀ {l : List Fl} {i : Nat} {f : Fl}, RiseF l → l[i]? = some f → atN f.1 l = some i
  | [], i, f, _, h => by simp at h
  | g :: l, 0, f, _, h => by
    obtain rfl : g = f := by simpa using h
    exact atN_hit rfl
  | g :: l, i + 1, f, hr, h => by
    obtain ⟨h1, h2⟩ := List.pairwise_cons.1 hr
    have hf : l[i]? = some f := by simpa using h
    have hlt := h1 f (List.mem_of_getElem? hf)
    rw [atN_skip (fun e => by rw [e, ltL_irrefl] at hlt; cases hlt), atN_rise h2 hf]
    rfl
theorem readS_at {s : St} {i : Nat} {f : Fl} (ho : s.off = false) (hr : RiseF s.files) (hf : s.files[i]? = some f) : readS f.1 s = (f.2.1 ++ f.2.2, 0) := by
  unfold readS
  rw [if_neg (by rw [ho]; simp), atN_rise hr hf]
  simp only
  rw [hf]
theorem usedS_on {s : St} (h : s.off = false) : usedS s = usedL s.files := by unfold usedS; rw [if_neg (by rw [h]; simp)]
theorem usedS_off {s : St} (h : s.off = true) : usedS s = 0 := by unfold usedS; rw [if_pos h]
theorem namesL_on {s : St} (h : s.off = false) : namesL s = s.files.map (·.1) := by unfold namesL; rw [if_neg (by rw [h]; simp)]
theorem namesL_off {s : St} (h : s.off = true) : namesL s = [] := by unfold namesL; rw [if_pos h]
theorem usedL_modify (g : Fl → Fl) (c : Nat) (hg : ∀ f, sizeF (g f) ≤ sizeF f + c) : ∀ (l : List Fl) (i : Nat), usedL (l.modify i g) ≤ usedL l + c
  | [], i => by simp [usedL]
  | f :: l, 0 => by
    have := hg f
    simp only [List.modify_zero_cons, usedL]; omega
  | f :: l, i + 1 => by
    have := usedL_modify g c hg l i
    simp only [List.modify_succ_cons, usedL]; omega
theorem usedL_split (l : List Fl) (k : Nat) : usedL (l.take k) + usedL (l.drop k) = usedL l := by
  rw [← usedL_append, List.take_append_drop]
theorem put_used (nm b : List UInt8) (l : List Fl) : usedL (putF nm b l) ≤ usedL l + b.length ∧ (putF nm b l).length ≤ l.length + 1 := by
  unfold putF
  cases h : atN nm l with
  | some i =>
    refine ⟨usedL_modify _ _ (fun f => ?_) _ _, ?_⟩
    · unfold sizeF; simp only [List.length_append]; omega
    · rw [List.length_modify]; omega
  | none =>
    have h1 := usedL_split l (placeL nm l)
    have h2 := place_le nm l
    refine ⟨?_, ?_⟩
    · rw [usedL_append, usedL_append]
      simp only [usedL, sizeF, List.length_nil]
      omega
    · simp only [List.length_append, List.length_take, List.length_drop, List.length_cons, List.length_nil]; omega
theorem crash_used (keep : List Int) : ∀ (l : List Fl) (n : Nat), usedL (crashL keep n l) ≤ usedL l
  | [], _ => Nat.le_refl _
  | f :: l, n => by
    unfold crashL
    split
    · have := crash_used keep l n
      simp only [usedL, sizeF, List.length_nil]; omega
    · have := crash_used keep l (n + 1)
      simp only [usedL, sizeF, List.length_nil, List.length_append, List.length_take]; omega
/-- What a step may add. -/
structure Grows (s s' : St) (c : Nat) : Prop where
  used : usedL s'.files ≤ usedL s.files + c
  len : s'.files.length ≤ s.files.length + 1
  room0 : 0 ≤ s.room → 0 ≤ s'.room
  room1 : s.room ≤ 8388608 → s'.room ≤ 8388608
  fuse0 : -1 ≤ s.fuse → -1 ≤ s'.fuse
  fuse1 : s.fuse ≤ 9223372036854775807 → s'.fuse ≤ 9223372036854775807
theorem Grows.refl (s : St) (c : Nat) : Grows s s c := ⟨by omega, by omega, id, id, id, id⟩
theorem burn_grows (s : St) (c : Nat) (l : List Fl) (h1 : usedL l ≤ usedL s.files + c) (h2 : l.length ≤ s.files.length + 1) : Grows s { burnS s with files := l } c :=
  ⟨h1, h2, id, id, fun h => by show -1 ≤ (if 0 < s.fuse then s.fuse - 1 else s.fuse); split <;> omega, fun h => by show (if 0 < s.fuse then s.fuse - 1 else s.fuse) ≤ _; split <;> omega⟩
theorem burn_grows0 (s : St) (c : Nat) : Grows s (burnS s) c := burn_grows s c s.files (by omega) (by omega)
theorem append_grows (nm b : List UInt8) (s : St) : Grows s (appendS nm b s).2 b.length := by
  unfold appendS
  split
  · exact Grows.refl _ _
  · split
    · exact Grows.refl _ _
    · split
      · exact Grows.refl _ _
      · split
        · exact burn_grows0 _ _
        · exact burn_grows _ _ _ (put_used nm b s.files).1 (put_used nm b s.files).2
theorem on_grows (nm : List UInt8) (bad : Nat → Option Int) (g : Nat → List Fl → List Fl) (s : St) (c : Nat) (h : ∀ i, usedL (g i s.files) ≤ usedL s.files ∧ (g i s.files).length ≤ s.files.length) : Grows s (onS nm bad g s).2 c := by
  unfold onS
  split
  · exact Grows.refl _ _
  · cases atN nm s.files with
    | none => exact Grows.refl _ _
    | some i =>
      simp only
      cases bad i with
      | some e => exact Grows.refl _ _
      | none =>
        simp only
        split
        · exact burn_grows0 _ _
        · have := h i
          exact burn_grows _ _ _ (by omega) (by omega)
theorem step_grows (k : Int) (nm b : List UInt8) (n : Int) (keep : List Int) (s : St) (hn : I64 n) : Grows s (stepS k nm b n keep s) b.length := by
  unfold stepS
  split
  · exact append_grows nm b s
  · split
    · exact on_grows _ _ _ _ _ fun i => ⟨usedL_modify _ 0 (fun f => by unfold syncF sizeF; simp only [List.length_append, List.length_nil]; omega) _ _, by rw [List.length_modify]; exact Nat.le_refl _⟩
    · split
      · exact on_grows _ _ _ _ _ fun i => ⟨usedL_modify _ 0 (fun f => by unfold cutF sizeF; simp only [List.length_take, List.length_drop, List.length_append]; omega) _ _, by rw [List.length_modify]; exact Nat.le_refl _⟩
      · split
        · exact on_grows _ _ _ _ _ fun i => ⟨by
            have h1 := usedL_split s.files i
            have h2 := usedL_split (s.files.drop i) 1
            rw [List.drop_drop] at h2
            rw [usedL_append]; omega, by simp only [List.length_append, List.length_take, List.length_drop]; omega⟩
        · split
          · exact Grows.refl _ _
          · split
            · exact ⟨by show usedL s.files ≤ _; omega, by show s.files.length ≤ _; omega, id, id, fun _ => by show -1 ≤ max n (-1); omega, fun _ => by have := hn.2; show max n (-1) ≤ _; omega⟩
            · split
              · unfold roomS
                split
                · rename_i h
                  exact ⟨by show usedL s.files ≤ _; omega, by show s.files.length ≤ _; omega, fun _ => h.1, fun _ => h.2, id, id⟩
                · exact Grows.refl _ _
              · split
                · exact ⟨by show usedL (crashL keep 0 s.files) ≤ _; have := crash_used keep s.files 0; omega, by show (crashL keep 0 s.files).length ≤ _; rw [crashL_length]; omega, id, id, fun _ => by show (-1 : Int) ≤ -1; omega, fun _ => by show (-1 : Int) ≤ _; omega⟩
                · exact Grows.refl _ _
/-- A disk into which at most u bytes went, by at most i steps. -/
structure Most (s : St) (u i : Nat) : Prop where
  used : usedL s.files ≤ u
  len : s.files.length ≤ i
  room0 : 0 ≤ s.room
  room1 : s.room ≤ 8388608
  fuse0 : -1 ≤ s.fuse
  fuse1 : s.fuse ≤ 9223372036854775807
theorem Most.fit {s : St} {u i : Nat} (h : Most s u i) (hu : u ≤ 1000000000) (hi : i ≤ 1000000) : Fit s :=
  ⟨h.room0, h.room1, h.fuse0, h.fuse1, Nat.le_trans h.used hu, Nat.le_trans h.len hi⟩
theorem Most.grows {s s' : St} {u i c : Nat} (h : Most s u i) (g : Grows s s' c) : Most s' (u + c) (i + 1) :=
  ⟨by have := g.used; have := h.used; omega, by have := g.len; have := h.len; omega, g.room0 h.room0, g.room1 h.room1, g.fuse0 h.fuse0, g.fuse1 h.fuse1⟩
theorem most_new (room : Int) (h0 : 0 ≤ room) (h1 : room ≤ 8388608) : Most (newS room) 0 0 :=
  ⟨Nat.le_refl _, Nat.le_refl _, h0, h1, by show (-1 : Int) ≤ -1; omega, by show (-1 : Int) ≤ _; omega⟩
/-- The program's disk alone, in memory from B on. -/
structure Lone (G : GoodD) (B : Nat) (w : World) (a : Addr) (F : Nat → Prop) (s : St) : Prop where
  d : G.D w a F s
  base : ∀ k, F k → B ≤ k
theorem Lone.below {G : GoodD} {B : Nat} {w w' : World} {a : Addr} {F : Nat → Prop} {s : St} (h : Lone G B w a F s) (hb : Below w.heap.size w w') : Lone G B w' a F s :=
  ⟨G.below h.d hb, h.base⟩
theorem Lone.step {G : GoodD} {B : Nat} {w w' : World} {a : Addr} {F F' : Nat → Prop} {s s' : St} (h : Lone G B w a F s) (hB : B ≤ w.heap.size) (hd : G.D w' a F' s') (ho : Only F w w') (hg : ∀ k, F' k → F k ∨ w.heap.size ≤ k) :
    Lone G B w' a F' s' ∧ Below B w w' ∧ B ≤ w'.heap.size :=
  ⟨⟨hd, fun k hk => (hg k hk).elim (h.base k) (fun h1 => Nat.le_trans hB h1)⟩, ho.below hB h.base, Nat.le_trans hB ho.size⟩
/-- What a step of the program's disk leaves. -/
def LoneRet (G : GoodD) (B : Nat) (a : Addr) (s' : St) (x : Value) (w : World) (e : Ending) (w' : World) : Prop :=
  e = .returned x ∧ ∃ F', Lone G B w' a F' s' ∧ Below B w w' ∧ B ≤ w'.heap.size
def aw0 : St := newS 100
def aw1 : St := (appendS [97] [120, 121] aw0).2
def aw2 : St := (syncS [97] aw1).2
def aw3 : St := (appendS [97] [122] aw2).2
def aw4 : St := crashS [0] aw3
theorem aw_1 : (appendS [97] [120, 121] aw0).1 = 0 := by decide +kernel
theorem aw_2 : (syncS [97] aw1).1 = 0 := by decide +kernel
theorem aw_3 : (appendS [97] [122] aw2).1 = 0 := by decide +kernel
theorem aw_4 : readS [97] aw4 = ([120, 121], 0) := by decide +kernel
theorem aw_m0 : Most aw0 0 0 := most_new 100 (by omega) (by omega)
theorem aw_m1 : Most aw1 2 1 := aw_m0.grows (append_grows [97] [120, 121] aw0)
theorem aw_m2 : Most aw2 2 2 := aw_m1.grows (c := 0) (step_grows 1 [97] [] 0 [] aw1 (by unfold I64; omega))
theorem aw_m3 : Most aw3 3 3 := aw_m2.grows (append_grows [97] [122] aw2)
theorem aw_m4 : Most aw4 3 4 := aw_m3.grows (c := 0) (step_grows 7 [] [] 0 [0] aw3 (by unfold I64; omega))
attribute [irreducible] aw0 aw1 aw2 aw3 aw4
/-- An op as it lies in memory: its numbers to keep lie elsewhere. -/
structure Oo where
  k : Int
  nm : List UInt8
  b : List UInt8
  n : Int
  A : Option Addr
  kl : Nat
  kc : Nat
def opC (l : List Oo) : List Value := l.flatMap fun o => [.int .i64 o.k, .string (bs o.nm), .string (bs o.b), .int .i64 o.n, .slice o.A o.kl o.kc]
theorem opC_cons (o : Oo) (l : List Oo) : opC (o :: l) = .int .i64 o.k :: .string (bs o.nm) :: .string (bs o.b) :: .int .i64 o.n :: .slice o.A o.kl o.kc :: opC l := rfl
theorem opC_at : ∀ (l : List Oo) (i : Nat) (o : Oo), l[i]? = some o → (opC l)[i * 5]? = some (.int .i64 o.k) ∧ (opC l)[i * 5 + 1]? = some (.string (bs o.nm)) ∧ (opC l)[i * 5 + 2]? = some (.string (bs o.b)) ∧ (opC l)[i * 5 + 3]? = some (.int .i64 o.n) ∧ (opC l)[i * 5 + 4]? = some (.slice o.A o.kl o.kc)
  | [], i, o, h => by simp at h
  | g :: l, 0, o, h => by
    obtain rfl : g = o := by simpa using h
    exact ⟨rfl, rfl, rfl, rfl, rfl⟩
  | g :: l, i + 1, o, h => by
    have := opC_at l i o (by simpa using h)
    rw [opC_cons, show (i + 1) * 5 = i * 5 + 1 + 1 + 1 + 1 + 1 by omega]
    simpa using this
theorem row_op {w : World} {A : Option Addr} {l : List Oo} (h : RowAt w A (opC l)) (i : Nat) (o : Oo) (ho : l[i]? = some o) :
    ∃ b off, A = some (⟨b, off, none⟩ : Addr) ∧ b < w.heap.size ∧ w.cell? ⟨b, off + i * 5, none⟩ = some (.int .i64 o.k) ∧ w.cell? ⟨b, off + i * 5 + 1, none⟩ = some (.string (bs o.nm)) ∧ w.cell? ⟨b, off + i * 5 + 2, none⟩ = some (.string (bs o.b)) ∧ w.cell? ⟨b, off + i * 5 + 3, none⟩ = some (.int .i64 o.n) ∧ w.cell? ⟨b, off + i * 5 + 4, none⟩ = some (.slice o.A o.kl o.kc) := by
  obtain ⟨c0, c1, c2, c3, c4⟩ := opC_at l i o ho
  obtain ⟨b, off, rfl, hl, h0⟩ := h _ _ c0
  have f : ∀ j x, (opC l)[j]? = some x → w.cell? ⟨b, off + j, none⟩ = some x := fun j x hx => by
    obtain ⟨b', off', hA, _, hc⟩ := h _ _ hx
    injection hA with hA
    injection hA with e1 e2
    subst e1 e2
    exact hc
  exact ⟨b, off, rfl, hl, h0, f _ _ c1, f _ _ c2, f _ _ c3, f _ _ c4⟩
def totalB : List Oo → Nat
  | [] => 0
  | o :: l => o.b.length + totalB l
theorem totalB_append (l m : List Oo) : totalB (l ++ m) = totalB l + totalB m := by
  induction l with
  | nil => simp [totalB]
  | cons o l ih => simp only [List.cons_append, totalB, ih]; omega
/-- What is played. -/
def SmallS (l : List Oo) : Prop := l.length ≤ 200 ∧ (∀ o ∈ l, o.b.length ≤ 5000 ∧ o.nm.length ≤ 1000) ∧ totalB l ≤ 20000
def GreatRet (l : List Oo) (w : World) (e : Ending) (w' : World) : Prop := (e = .returned (.bool true) ∨ (e = .returned (.bool false) ∧ SmallS l)) ∧ w' = w
/-- What a law comes to: true, and what was there stands. -/
def Laws (w : World) (e : Ending) (w' : World) : Prop := e = .returned (.bool true) ∧ Below w.heap.size w w'
/-- The numbers to keep of an op, where they lie. -/
def Keeps (w : World) (o : Oo) : Prop := ∃ keep : List Int, keep.length = o.kl ∧ RowAt w o.A (intC keep) ∧ (∀ x ∈ keep, I64 x) ∧ o.kl ≤ 9223372036854775807
def NRet (x : Value) (w : World) (e : Ending) (w' : World) : Prop := e = .returned x ∧ Below w.heap.size w w'
/-- An op as the law holds it, behind X, and what has been since w0. -/
structure OpAt (w0 : World) (X : Nat) (nm b : ByteArray) (n : Int) (A : Option Addr) (kl kc : Nat) (w : World) : Prop where
  size : X < w.heap.size
  a1 : w.cell? ⟨X, 0 + 1, none⟩ = some (.string nm)
  a2 : w.cell? ⟨X, 0 + 2, none⟩ = some (.string b)
  a3 : w.cell? ⟨X, 0 + 3, none⟩ = some (.int .i64 n)
  a4 : w.cell? ⟨X, 0 + 4, none⟩ = some (.slice A kl kc)
  since : Below w0.heap.size w0 w
theorem OpAt.below {w0 : World} {X : Nat} {nm b : ByteArray} {n : Int} {A : Option Addr} {kl kc : Nat} {w w' : World} (h : OpAt w0 X nm b n A kl kc w) (hb : Below w.heap.size w w') : OpAt w0 X nm b n A kl kc w' :=
  ⟨Nat.lt_of_lt_of_le h.size hb.size, (hb.cell h.size).trans h.a1, (hb.cell h.size).trans h.a2, (hb.cell h.size).trans h.a3, (hb.cell h.size).trans h.a4, h.since.trans (hb.mono h.since.size)⟩
/-- The file's bytes, if there is one. -/
abbrev Ox := Option (List UInt8 × List UInt8)
def oneF : Ox → List Fl
  | none => []
  | some x => [([102], x.1, x.2)]
def wholeX : Ox → List UInt8
  | none => []
  | some x => x.1 ++ x.2
def moreX (b : List UInt8) : Ox → Ox
  | none => some ([], b)
  | some x => some (x.1, x.2 ++ b)
def discX (x : Ox) (fuse : Int) (off : Bool) : St := { files := oneF x, room := 8388608, fuse := fuse, off := off }
theorem whole_more (b : List UInt8) (x : Ox) : wholeX (moreX b x) = wholeX x ++ b := by
  cases x <;> simp [wholeX, moreX]
theorem used_one (x : Ox) : usedL (oneF x) = (wholeX x).length := by
  cases x <;> simp [wholeX, oneF, usedL, sizeF]
theorem put_one (b : List UInt8) (x : Ox) : putF [102] b (oneF x) = oneF (moreX b x) := by
  cases x <;> simp [oneF, moreX, putF, atN, placeL]
theorem right_f : rightL [102] = true := by decide +kernel
theorem append_one (b : List UInt8) (x : Ox) (fuse : Int) (h : (wholeX x).length + b.length ≤ 8388608) :
    appendS [102] b (discX x fuse false) = if fuse = 0 then (7, discX x fuse true) else (0, discX (moreX b x) (if 0 < fuse then fuse - 1 else fuse) false) := by
  unfold appendS
  rw [if_neg (by simp [discX]), if_neg (by rw [right_f]; simp), if_neg (by simp only [discX]; rw [used_one]; omega)]
  have hb : burnS (discX x fuse false) = discX x (if 0 < fuse then fuse - 1 else fuse) (decide (fuse = 0)) := rfl
  rw [hb]
  by_cases hf : fuse = 0
  · subst hf
    rfl
  · rw [decide_eq_false hf, if_neg hf, if_neg (by simp [discX])]
    show ((0 : Int), ({ files := putF [102] b (oneF x), room := 8388608, fuse := if 0 < fuse then fuse - 1 else fuse, off := false } : St)) = _
    rw [put_one]; rfl
theorem append_down (b : List UInt8) (x : Ox) (fuse : Int) : appendS [102] b (discX x fuse true) = (7, discX x fuse true) := by
  unfold appendS; rw [if_pos (by simp [discX])]
def syncX : Ox → Ox
  | none => none
  | some x => some (x.1 ++ x.2, [])
theorem sync_one (x : List UInt8 × List UInt8) : syncS [102] (discX (some x) (-1) false) = (0, discX (some (x.1 ++ x.2, [])) (-1) false) := by
  simp [syncS, onS, discX, oneF, atN, burnS, syncF]
theorem read_one (x : List UInt8 × List UInt8) (fuse : Int) : readS [102] (discX (some x) fuse false) = (x.1 ++ x.2, 0) := by
  simp [readS, discX, oneF, atN]
theorem read_no (fuse : Int) : readS [102] (discX none fuse false) = ([], 8) := by
  simp [readS, discX, oneF, atN]
theorem crash_no (keep : List Int) (fuse : Int) (off : Bool) : crashS keep (discX none fuse off) = discX none (-1) false := by
  simp [crashS, discX, oneF, crashL]
theorem crash_one (keep : List Int) (x : List UInt8 × List UInt8) (fuse : Int) (off : Bool) : crashS keep (discX (some x) fuse off) = discX (some (x.1 ++ x.2.take (keepN keep 0 x.2.length), [])) (-1) false := by
  by_cases h : x.2 = []
  · simp [crashS, discX, oneF, crashL, h]
  · simp [crashS, discX, oneF, crashL, h]
theorem keep_all (m : Nat) (h : m ≤ 1000000000) : keepN [(m : Int)] 0 m = m := by
  unfold keepN
  rw [if_neg (by simp)]
  simp only [List.length_cons, List.length_nil, Nat.zero_mod, List.getD_cons_zero, Nat.zero_add]
  rw [Int.emod_eq_of_lt (by omega) (by omega), Int.toNat_natCast, Nat.mod_eq_of_lt (by omega)]
/-- Texts laid together. -/
def catL (l : List (List UInt8)) : List UInt8 := l.flatten
theorem cat_next {l : List (List UInt8)} {i : Nat} {b : List UInt8} (h : l[i]? = some b) : catL (l.take (i + 1)) = catL (l.take i) ++ b := by
  unfold catL; rw [List.take_add_one, h]; simp
theorem fit_one (x : Ox) (fuse : Int) (off : Bool) (h : (wholeX x).length ≤ 1000000000) (h0 : -1 ≤ fuse) (h1 : fuse ≤ 9223372036854775807) : Fit (discX x fuse off) :=
  ⟨by simp [discX], by simp [discX], h0, h1, by show usedL (oneF x) ≤ _; rw [used_one]; exact h, by cases x <;> simp [discX, oneF]⟩
theorem disc_new : newS 8388608 = discX none (-1) false := rfl
theorem fuse_new (n : Nat) : fuseS n (discX none (-1) false) = discX none n false := by
  unfold fuseS discX
  rw [Int.max_eq_left (by omega)]
def boolC (l : List Bool) : List Value := l.map fun b => .bool b
theorem row_bool {w : World} {A : Option Addr} {l : List Bool} (h : RowAt w A (boolC l)) (i : Nat) (s : Bool) (hs : l[i]? = some s) :
    ∃ b off, A = some (⟨b, off, none⟩ : Addr) ∧ b < w.heap.size ∧ w.cell? ⟨b, off + i, none⟩ = some (.bool s) := h _ _ (by simp [boolC, hs])
def sureX : Ox → List UInt8
  | none => []
  | some y => y.1
theorem sure_more {b : List UInt8} {x : Ox} {y : List UInt8 × List UInt8} (h : moreX b x = some y) : sureX x = y.1 := by
  cases x with
  | none => simp only [moreX, Option.some.injEq] at h; rw [← h]; rfl
  | some z => simp only [moreX, Option.some.injEq] at h; rw [← h]; rfl
theorem append_free (b : List UInt8) (x : Ox) (h : (wholeX x).length + b.length ≤ 8388608) : appendS [102] b (discX x (-1) false) = (0, discX (moreX b x) (-1) false) := by
  rw [append_one b x (-1) h, if_neg (by omega), if_neg (by omega)]
theorem more_some (b : List UInt8) (x : Ox) : moreX b x = some ((moreX b x).getD ([], [])) := by cases x <;> rfl
/-- The law's loop: the disk, what was synced, all. -/
structure KeepI (G : GoodD) (w : World) (a : Addr) (l : List (List UInt8)) (i : Nat) (F : Nat → Prop) (x : Ox) (sure : List UInt8) (wr : World) : Prop where
  lone : Lone G w.heap.size wr a F (discX x (-1) false)
  since : Below w.heap.size w wr
  all : wholeX x = catL (l.take i)
  size : (catL (l.take i)).length ≤ 1000 * i
  sure : sure = sureX x
  none : x = none ↔ i = 0
theorem KeepI.grown {G : GoodD} {w : World} {a : Addr} {l : List (List UInt8)} {i : Nat} {F : Nat → Prop} {x : Ox} {sure : List UInt8} {wr : World} (h : KeepI G w a l i F x sure wr) : w.heap.size ≤ wr.heap.size := h.since.size
/-- The law's loop: while the fuse burns, and behind it. -/
structure FuseI (G : GoodD) (w : World) (a : Addr) (l : List (List UInt8)) (n i : Nat) (F : Nat → Prop) (x : Ox) (fuse : Int) (off : Bool) (wr : World) : Prop where
  lone : Lone G w.heap.size wr a F (discX x fuse off)
  since : Below w.heap.size w wr
  all : wholeX x = catL (l.take (min i n))
  size : (catL (l.take (min i n))).length ≤ 1000 * i
  none : x = none → min i n = 0
  burn : i ≤ n → fuse = (n : Int) - i ∧ off = false
  out : n < i → fuse = 0 ∧ off = true
  late : ∀ y, x = some y → y.1 = []
theorem FuseI.grown {G : GoodD} {w : World} {a : Addr} {l : List (List UInt8)} {n i : Nat} {F : Nat → Prop} {x : Ox} {fuse : Int} {off : Bool} {wr : World} (h : FuseI G w a l n i F x fuse off wr) : w.heap.size ≤ wr.heap.size := h.since.size
theorem usedL_at (b : List UInt8) : ∀ (l : List Fl) (i : Nat), i < l.length → usedL (l.modify i fun f => (f.1, f.2.1, f.2.2 ++ b)) = usedL l + b.length
  | [], i, h => by simp at h
  | f :: l, 0, _ => by
    simp only [List.modify_zero_cons, usedL, sizeF, List.length_append]; omega
  | f :: l, i + 1, h => by
    have := usedL_at b l i (by simpa using h)
    simp only [List.modify_succ_cons, usedL]; omega
theorem put_used_eq (nm b : List UInt8) (l : List Fl) : usedL (putF nm b l) = usedL l + b.length := by
  unfold putF
  cases h : atN nm l with
  | some i =>
    obtain ⟨f, hf, _⟩ := atN_some h
    exact usedL_at b l i (List.getElem?_eq_some_iff.1 hf).1
  | none =>
    have h1 := usedL_split l (placeL nm l)
    rw [usedL_append, usedL_append]
    simp only [usedL, sizeF, List.length_nil]
    omega
/-- A disk with no fuse. -/
structure Calm (room : Int) (used : Nat) (s : St) : Prop where
  off : s.off = false
  fuse : s.fuse = -1
  room : s.room = room
  used : usedL s.files = used
theorem calm_append {room : Int} {used : Nat} {s : St} (h : Calm room used s) (nm b : List UInt8) (hr : rightL nm = true) :
    appendS nm b s = if room < ((used + b.length : Nat) : Int) then (6, s) else (0, { s with files := putF nm b s.files }) := by
  obtain ⟨h1, h2, h3, h4⟩ := h
  cases s with
  | mk files rm fu of =>
    simp only at h1 h2 h3 h4
    subst h1 h2 h3 h4
    unfold appendS
    simp only [hr, burnS]
    split
    · simp_all
    · split
      · simp_all
      · split
        · rfl
        · rfl
theorem Calm.more {room : Int} {used : Nat} {s : St} (h : Calm room used s) (nm b : List UInt8) : Calm room (used + b.length) { s with files := putF nm b s.files } :=
  ⟨h.off, h.fuse, h.room, (put_used_eq nm b s.files).trans (by rw [h.used])⟩
/-- The law's names. -/
def nmR (i : Nat) : List UInt8 := [UInt8.ofNat (97 + i % 5)]
theorem nmR_right (i : Nat) : rightL (nmR i) = true := by
  unfold nmR
  have : i % 5 < 5 := Nat.mod_lt _ (by omega)
  generalize i % 5 = k at this
  rcases k with _ | _ | _ | _ | _ | k
  · decide +kernel
  · decide +kernel
  · decide +kernel
  · decide +kernel
  · decide +kernel
  · omega
/-- The law's loop. -/
structure RoomI (G : GoodD) (w : World) (a : Addr) (room : Nat) (used i : Nat) (F : Nat → Prop) (s : St) (wr : World) : Prop where
  lone : Lone G w.heap.size wr a F s
  since : Below w.heap.size w wr
  calm : Calm room used s
  most : Most s used i
theorem RoomI.grown {G : GoodD} {w : World} {a : Addr} {room used i : Nat} {F : Nat → Prop} {s : St} {wr : World} (h : RoomI G w a room used i F s wr) : w.heap.size ≤ wr.heap.size := h.since.size
theorem spot_none {w : World} {a : Addr} {v : Value} (h : w.cell? a = some v) : ∃ b off, a = ⟨b, off, none⟩ ∧ b < w.heap.size := by
  obtain ⟨b, off, spot⟩ := a
  obtain rfl : spot = none := World.cell?_spot h
  exact ⟨b, off, rfl, World.block_lt_of_cell? w _ h⟩
theorem max_le : maxLen ≤ 9223372036854775807 := by unfold maxLen; omega
theorem wf_i64 {n : Int} (h : (Lit.int .i64 n).wf = true) : I64 n := by
  simp [Lit.wf, IntKind.min, IntKind.max, IntKind.signed, IntKind.bits] at h; unfold I64; omega
/-- Cells that lie one behind the other. -/
theorem row_of {w : World} {a : Addr} {cs : List Value} (h : ∀ i, i < cs.length → w.cell? (a.add i) = cs[i]?) : RowAt w (some a) cs := fun j v hj => by
  have hjl := (List.getElem?_eq_some_iff.1 hj).1
  have h0 := h 0 (by omega)
  obtain ⟨v0, hv0⟩ : ∃ v0, cs[0]? = some v0 := ⟨_, List.getElem?_eq_getElem (by omega)⟩
  rw [hv0] at h0
  obtain ⟨b, off, rfl, hb⟩ := spot_none (a := a) (v := v0) (by simpa [Addr.add] using h0)
  have e := h j hjl
  rw [row_add, hj] at e
  exact ⟨b, off, rfl, hb, e⟩
section
variable {H : Type} {enc : TypeId × Value → H} {w : World}
theorem opC_at' : ∀ (l : List Oo) (j : Nat), j < l.length * 5 → ∃ o, l[j / 5]? = some o ∧ (opC l)[j]? = [Value.int .i64 o.k, .string (bs o.nm), .string (bs o.b), .int .i64 o.n, .slice o.A o.kl o.kc][j % 5]?
  | [], j, h => by simp at h
  | o :: l, 0, _ => ⟨o, rfl, rfl⟩
  | o :: l, 1, _ => ⟨o, rfl, rfl⟩
  | o :: l, 2, _ => ⟨o, rfl, rfl⟩
  | o :: l, 3, _ => ⟨o, rfl, rfl⟩
  | o :: l, 4, _ => ⟨o, rfl, rfl⟩
  | o :: l, j + 5, h => by
    obtain ⟨p, h1, h2⟩ := opC_at' l j (by simp only [List.length_cons] at h; omega)
    refine ⟨p, ?_, ?_⟩
    · rw [show (j + 5) / 5 = j / 5 + 1 by omega]; simpa using h1
    · rw [opC_cons, show (j + 5) % 5 = j % 5 by omega]; simpa using h2
theorem opC_length (l : List Oo) : (opC l).length = l.length * 5 := by
  induction l with
  | nil => rfl
  | cons o l ih => rw [opC_cons]; simp only [List.length_cons, ih]; omega
end
theorem before_lt : ∀ a b : List UInt8, bytesBefore a b = ltL a b
  | [], [] => by rw [ltL_nil]; rfl
  | [], y :: b => by rw [nil_ltL (by simp)]; rfl
  | x :: a, [] => by rw [ltL_nil]; rfl
  | x :: a, y :: b => by
    have h1 : bytesBefore (x :: a) (y :: b) = (x < y || (x == y && bytesBefore a b)) := rfl
    rw [h1, before_lt a b]
    apply Bool.eq_iff_iff.2
    rw [ltL_cons]
    simp [UInt8.lt_iff_toNat_lt]
section
variable {H : Type} (el : Fl → DataW H)
def mapF (l : List Fl) : DataW H := .map (l.map fun f => (.string f.1, el f))
theorem mapF_size (l : List Fl) : Maps.size (mapF el l) = l.length := by simp [mapF, Maps.size]
theorem mapF_at {nm : List UInt8} : ∀ {l : List Fl} {i : Nat} {f : Fl} (z : DataW H), atN nm l = some i → l[i]? = some f → (mapF el l).atKey (.string nm) z = el f
  | [], i, f, z, h, _ => by cases h
  | g :: l, i, f, z, h, hf => by
    by_cases hg : g.1 = nm
    · rw [atN_hit hg] at h
      injection h with h
      subst h
      obtain rfl : g = f := by simpa using hf
      simp [mapF, DataW.atKey, Lit.sameKey, hg]
    · rw [atN_skip hg] at h
      obtain ⟨j, hj, rfl⟩ := Option.map_eq_some_iff.1 h
      have ih := mapF_at z hj (by simpa using hf)
      simp only [mapF, DataW.atKey, List.map_cons, List.find?_cons] at ih ⊢
      rw [show (Lit.string g.1).sameKey (.string nm) = false by simp [Lit.sameKey, hg]]
      exact ih
theorem mapF_no {nm : List UInt8} : ∀ {l : List Fl} (z : DataW H), atN nm l = none → (mapF el l).atKey (.string nm) z = z
  | [], z, _ => by simp [mapF, DataW.atKey]
  | g :: l, z, h => by
    have hg := atN_none h g (by simp)
    rw [atN_skip hg] at h
    have ih := mapF_no (l := l) z (by simpa using h)
    simp only [mapF, DataW.atKey, List.map_cons, List.find?_cons] at ih ⊢
    rw [show (Lit.string g.1).sameKey (.string nm) = false by simp [Lit.sameKey, hg]]
    exact ih
theorem mapF_has (nm : List UInt8) : ∀ l : List Fl, Maps.has (mapF el l) (.string nm) = (atN nm l).isSome
  | [] => by simp [mapF, Maps.has, atN]
  | g :: l => by
    have ih := mapF_has nm l
    simp only [mapF, Maps.has, List.map_cons, List.any_cons] at ih ⊢
    rw [ih]
    by_cases hg : g.1 = nm
    · rw [atN_hit hg]; simp [Lit.sameKey, hg]
    · rw [atN_skip hg]; simp [Lit.sameKey, hg]
theorem filter_no {nm : List UInt8} {l : List Fl} (h : ∀ f ∈ l, f.1 ≠ nm) : (l.map fun f => ((Lit.string f.1, el f) : Lit × DataW H)).filter (fun p => !p.1.sameKey (.string nm)) = l.map fun f => (.string f.1, el f) := by
  rw [List.filter_eq_self]
  intro p hp
  obtain ⟨f, hf, rfl⟩ := List.mem_map.1 hp
  simp [Lit.sameKey, h f hf]
theorem rise_after {f : Fl} {l : List Fl} (h : RiseF (f :: l)) : ∀ g ∈ l, ltL f.1 g.1 = true ∧ g.1 ≠ f.1 := fun g hg => by
  have := (List.pairwise_cons.1 h).1 g hg
  exact ⟨this, fun e => by rw [e, ltL_irrefl] at this; cases this⟩
theorem rise_rest {f : Fl} {l : List Fl} (h : RiseF (f :: l)) : RiseF l := (List.pairwise_cons.1 h).2
/-- delete. -/
theorem mapF_del {nm : List UInt8} : ∀ {l : List Fl} {i : Nat}, RiseF l → atN nm l = some i → (mapF el l).del (.string nm) = mapF el (l.take i ++ l.drop (i + 1))
  | [], i, _, h => by cases h
  | g :: l, i, hr, h => by
    by_cases hg : g.1 = nm
    · rw [atN_hit hg] at h
      injection h with h
      subst h
      have := filter_no el (nm := nm) (l := l) (fun f hf => by rw [← hg]; exact (rise_after hr f hf).2)
      simp only [mapF, DataW.del, List.map_cons, List.filter_cons, List.take_zero, List.nil_append, Nat.zero_add, List.drop_succ_cons, List.drop_zero]
      rw [this]
      simp [Lit.sameKey, hg]
    · rw [atN_skip hg] at h
      obtain ⟨j, hj, rfl⟩ := Option.map_eq_some_iff.1 h
      have ih := mapF_del (rise_rest hr) hj
      simp only [mapF, DataW.del, List.map_cons, List.filter_cons, List.take_succ_cons, List.cons_append, List.drop_succ_cons, DataW.map.injEq] at ih ⊢
      rw [ih]
      simp [Lit.sameKey, hg]
/-- A store at a name that is there. -/
theorem mapF_put {nm : List UInt8} (g : Fl → Fl) (hg1 : ∀ f, (g f).1 = f.1) : ∀ {l : List Fl} {i : Nat} {f : Fl}, RiseF l → atN nm l = some i → l[i]? = some f → (mapF el l).put (.string nm) (el (g f)) = mapF el (l.modify i g)
  | [], i, f, _, h, _ => by cases h
  | q :: l, i, f, hr, h, hf => by
    by_cases hq : q.1 = nm
    · rw [atN_hit hq] at h
      injection h with h
      subst h
      obtain rfl : q = f := by simpa using hf
      have := filter_no el (nm := nm) (l := l) (fun f hf => by rw [← hq]; exact (rise_after hr f hf).2)
      simp only [mapF, DataW.put, List.map_cons, List.filter_cons, List.modify_zero_cons, DataW.map.injEq]
      rw [this, show (!(Lit.string q.1).sameKey (.string nm)) = false by simp [Lit.sameKey, hq], hg1, hq]
      cases l with
      | nil => simp [DataW.insert]
      | cons p l =>
        have hp := (rise_after hr p (by simp)).1
        rw [hq] at hp
        simp [DataW.insert, Lit.before, before_lt, hp]
    · rw [atN_skip hq] at h
      obtain ⟨j, hj, rfl⟩ := Option.map_eq_some_iff.1 h
      have hf2 : l[j]? = some f := by simpa using hf
      have ih := mapF_put g hg1 (rise_rest hr) hj hf2
      obtain ⟨f', hf', hn⟩ := atN_some hj
      have hlt : ltL q.1 nm = true := by rw [← hn]; exact (rise_after hr f' (List.mem_of_getElem? hf')).1
      simp only [mapF, DataW.put, List.map_cons, List.filter_cons, List.modify_succ_cons, DataW.map.injEq] at ih ⊢
      rw [show (!(Lit.string q.1).sameKey (.string nm)) = true by simp [Lit.sameKey, hq], if_pos rfl, DataW.insert]
      simp only [Lit.before, before_lt]
      rw [ltL_asymm hlt, ih]
      simp
/-- A store at a new name. -/
theorem mapF_new {nm : List UInt8} (d : DataW H) : ∀ {l : List Fl}, atN nm l = none → (mapF el l).put (.string nm) d = .map (((l.take (placeL nm l)).map fun f => (.string f.1, el f)) ++ [(.string nm, d)] ++ ((l.drop (placeL nm l)).map fun f => (.string f.1, el f)))
  | [], _ => by simp [mapF, DataW.put, DataW.insert, placeL]
  | q :: l, h => by
    have hq := atN_none h q (by simp)
    have h2 := h
    rw [atN_skip hq] at h2
    have ih := mapF_new (l := l) d (by simpa using h2)
    have hf := filter_no el (nm := nm) (l := l) (fun f hf => atN_none h f (by simp [hf]))
    simp only [mapF, DataW.put, List.map_cons, List.filter_cons, DataW.map.injEq] at ih ⊢
    rw [hf] at ih
    rw [hf, show (!(Lit.string q.1).sameKey (.string nm)) = true by simp [Lit.sameKey, hq], if_pos rfl, DataW.insert]
    simp only [Lit.before, before_lt]
    rcases ltL_tri q.1 nm with h1 | h1 | h1
    · rw [ltL_asymm h1, ih, placeL, if_pos h1]; simp
    · exact absurd h1 hq
    · rw [h1, if_pos rfl, placeL, ltL_asymm h1]; simp
/-- What Append leaves. -/
theorem mapF_append (nm b : List UInt8) (l : List Fl) (hr : RiseF l) :
    (∀ i f, atN nm l = some i → l[i]? = some f → (mapF el l).put (.string nm) (el (f.1, f.2.1, f.2.2 ++ b)) = mapF el (putF nm b l)) ∧ (atN nm l = none → (mapF el l).put (.string nm) (el (nm, [], b)) = mapF el (putF nm b l)) := by
  refine ⟨fun i f h hf => ?_, fun h => ?_⟩
  · rw [putF, h]
    exact mapF_put el (fun f => (f.1, f.2.1, f.2.2 ++ b)) (fun _ => rfl) hr h hf
  · rw [putF, h, mapF_new el _ h]
    simp [mapF]
end
/-! What a range has been at; names in order. -/
/-- Those that are no longer to come. -/
def gone (left : Lit → Bool) (l : List Fl) : List Fl := l.filter fun f => !left (.string f.1)
theorem gone_none {left : Lit → Bool} {l : List Fl} (h : ∀ f ∈ l, left (.string f.1) = true) : gone left l = [] := by
  unfold gone
  rw [List.filter_eq_nil_iff]
  intro f hf
  simp [h f hf]
theorem gone_all {left : Lit → Bool} (h : ∀ kl, left kl = false) (l : List Fl) : gone left l = l := by
  unfold gone
  rw [List.filter_eq_self]
  intro f _
  simp [h]
theorem gone_same {left left' : Lit → Bool} {l : List Fl} (h : ∀ f ∈ l, left' (.string f.1) = left (.string f.1)) : gone left' l = gone left l := by
  unfold gone
  exact List.filter_congr fun f hf => by rw [h f hf]
theorem gone_step {left : Lit → Bool} {nm : List UInt8} (hl : left (.string nm) = true) : ∀ {l : List Fl} {i : Nat} {f : Fl}, RiseF l → atN nm l = some i → l[i]? = some f →
    usedL (gone (fun z => left z && !z.sameKey (.string nm)) l) = usedL (gone left l) + sizeF f
  | [], i, f, _, h, _ => by cases h
  | g :: l, i, f, hr, h, hf => by
    by_cases hg : g.1 = nm
    · rw [atN_hit hg] at h
      injection h with h
      subst h
      obtain rfl : g = f := by simpa using hf
      have h1 : gone (fun z => left z && !z.sameKey (.string nm)) l = gone left l := gone_same fun q hq => by
        have := (rise_after hr q hq).2
        rw [hg] at this
        simp [Lit.sameKey, this]
      have h2 : gone (fun z => left z && !z.sameKey (.string nm)) (g :: l) = g :: gone (fun z => left z && !z.sameKey (.string nm)) l := by
        unfold gone
        rw [List.filter_cons_of_pos (by simp [Lit.sameKey, hg])]
      have h3 : gone left (g :: l) = gone left l := by
        unfold gone
        rw [List.filter_cons_of_neg (by simp [hg, hl])]
      rw [h2, h3, h1]
      simp only [usedL]; omega
    · rw [atN_skip hg] at h
      obtain ⟨j, hj, rfl⟩ := Option.map_eq_some_iff.1 h
      have ih : usedL (l.filter fun f => !(left (.string f.1) && !(Lit.string f.1).sameKey (.string nm))) = usedL (l.filter fun f => !left (.string f.1)) + sizeF f := gone_step hl (rise_rest hr) hj (by simpa using hf)
      unfold gone
      rw [List.filter_cons, List.filter_cons]
      have h1 : (left (.string g.1) && !(Lit.string g.1).sameKey (.string nm)) = left (.string g.1) := by simp [Lit.sameKey, hg]
      simp only [h1]
      split
      · simp only [usedL]; omega
      · exact ih
theorem gone_le (left : Lit → Bool) : ∀ l : List Fl, usedL (gone left l) ≤ usedL l
  | [] => Nat.le_refl _
  | f :: l => by
    have := gone_le left l
    unfold gone at this ⊢
    rw [List.filter_cons]
    split <;> simp only [usedL] <;> omega
theorem has_all {H : Type} (el : Fl → DataW H) {l : List Fl} : ∀ f ∈ l, Maps.has (mapF el l) (.string f.1) = true := fun f hf => by
  rw [mapF_has]
  cases h : atN f.1 l with
  | some i => rfl
  | none => exact absurd rfl (atN_none h f hf)
theorem lt_ltL : ∀ a b : List UInt8, a < b ↔ ltL a b = true
  | [], [] => by rw [ltL_nil]; simp
  | [], y :: b => by rw [nil_ltL (by simp)]; simp
  | x :: a, [] => by rw [ltL_nil]; simp
  | x :: a, y :: b => by
    rw [List.cons_lt_cons_iff, ltL_cons, lt_ltL a b, UInt8.lt_iff_toNat_lt]
theorem le_ltL (a b : List UInt8) : a ≤ b ↔ ltL b a = false := by
  rw [← List.not_lt, lt_ltL]; simp
/-- Texts that rise are what sorting gives of them in whatever order. -/
theorem sort_rise {l ss : List (List UInt8)} (h : l.Pairwise fun a b => ltL a b = true) (hp : ss.Perm l) : ss.mergeSort (fun x y => decide (x ≤ y)) = l := by
  have h1 : (ss.mergeSort (fun x y => decide (x ≤ y))).Perm l := (List.mergeSort_perm _ _).trans hp
  have h2 : (ss.mergeSort (fun x y => decide (x ≤ y))).Pairwise (fun x y => decide (x ≤ y) = true) := List.pairwise_mergeSort (by
      intro a b c h1 h2
      simp only [decide_eq_true_eq] at *
      exact List.le_trans h1 h2) (by
      intro a b
      simp only [Bool.or_eq_true, decide_eq_true_eq]
      exact List.le_total a b) ss
  have h3 : l.Pairwise (fun x y => decide (x ≤ y) = true) := h.imp fun {a b} hab => by
    rw [decide_eq_true_eq, le_ltL]; exact ltL_asymm hab
  exact List.Perm.eq_of_pairwise (fun a b _ _ ha hb => by
    simp only [decide_eq_true_eq] at ha hb
    exact List.le_antisymm ha hb) h2 h3 h1
theorem gone_perm {left : Lit → Bool} {nm : List UInt8} (hl : left (.string nm) = true) : ∀ {l : List Fl} {i : Nat} {f : Fl}, RiseF l → atN nm l = some i → l[i]? = some f →
    (gone (fun z => left z && !z.sameKey (.string nm)) l).Perm (gone left l ++ [f])
  | [], i, f, _, h, _ => by cases h
  | g :: l, i, f, hr, h, hf => by
    by_cases hg : g.1 = nm
    · rw [atN_hit hg] at h
      injection h with h
      subst h
      obtain rfl : g = f := by simpa using hf
      have h1 : gone (fun z => left z && !z.sameKey (.string nm)) l = gone left l := gone_same fun q hq => by
        have := (rise_after hr q hq).2
        rw [hg] at this
        simp [Lit.sameKey, this]
      have h2 : gone (fun z => left z && !z.sameKey (.string nm)) (g :: l) = g :: gone (fun z => left z && !z.sameKey (.string nm)) l := by
        unfold gone
        rw [List.filter_cons_of_pos (by simp [Lit.sameKey, hg])]
      have h3 : gone left (g :: l) = gone left l := by
        unfold gone
        rw [List.filter_cons_of_neg (by simp [hg, hl])]
      rw [h2, h3, h1]
      exact (List.perm_append_singleton g _).symm
    · rw [atN_skip hg] at h
      obtain ⟨j, hj, rfl⟩ := Option.map_eq_some_iff.1 h
      have ih : (l.filter fun f => !(left (.string f.1) && !(Lit.string f.1).sameKey (.string nm))).Perm ((l.filter fun f => !left (.string f.1)) ++ [f]) := gone_perm hl (rise_rest hr) hj (by simpa using hf)
      unfold gone
      rw [List.filter_cons, List.filter_cons]
      have h1 : (left (.string g.1) && !(Lit.string g.1).sameKey (.string nm)) = left (.string g.1) := by simp [Lit.sameKey, hg]
      simp only [h1]
      split
      · exact ih.cons g
      · exact ih
end Go.Proofs.YtmgbmphheagdmaaGreatDoor
