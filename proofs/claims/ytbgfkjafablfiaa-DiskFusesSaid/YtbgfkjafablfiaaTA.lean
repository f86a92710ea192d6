/-
  A disk as the document has it: files in order, a room, a fuse, the power; what each call leaves and answers; no program is walked here.
-/
import Derived.Test.YtbgfkjafablfiaaGen
import Derived.Test.YtbgfkjafablfiaaUC
namespace Go.Proofs.Ytbgfkjafablfiaa

/-- A file: its name, its durable bytes, the others. -/
abbrev Fl := List UInt8 × List UInt8 × List UInt8
/-- A disk. -/
structure St where
  files : List Fl
  room : Int
  fuse : Int
  off : Bool
def sizeF (f : Fl) : Nat := f.2.1.length + f.2.2.length
def usedL : List Fl → Nat
  | [] => 0
  | f :: l => sizeF f + usedL l
theorem usedL_append (l m : List Fl) : usedL (l ++ m) = usedL l + usedL m := by
  induction l with
  | nil => simp [usedL]
  | cons f l ih => simp only [List.cons_append, usedL, ih]; omega
/-- Where a file stands. -/
def atN (nm : List UInt8) : List Fl → Option Nat
  | [] => none
  | f :: l => if f.1 = nm then some 0 else (atN nm l).map (· + 1)
theorem atN_some : ∀ {nm : List UInt8} {l : List Fl} {i : Nat}, atN nm l = some i → ∃ f, l[i]? = some f ∧ f.1 = nm
  | nm, f :: l, i, h => by
    unfold atN at h
    split at h
    · rename_i e
      obtain rfl : i = 0 := by simpa using h.symm
      exact ⟨f, rfl, e⟩
    · cases hl : atN nm l with
      | none => rw [hl] at h; cases h
      | some j =>
        rw [hl] at h
        obtain rfl : i = j + 1 := by simpa using h.symm
        exact atN_some (l := l) hl
theorem atN_none : ∀ {nm : List UInt8} {l : List Fl}, atN nm l = none → ∀ f ∈ l, f.1 ≠ nm
  | nm, [], _, f, hf => by cases hf
  | nm, g :: l, h, f, hf => by
    unfold atN at h
    split at h
    · cases h
    · rename_i e
      rcases List.mem_cons.1 hf with rfl | hf
      · exact e
      · exact atN_none (by simpa using h) f hf
/-- The place as a number, -1 where there is none. -/
def atI (nm : List UInt8) (l : List Fl) : Int := match atN nm l with | some i => (i : Int) | none => -1
/-- The search from the i-th file on. -/
theorem atN_skip {nm : List UInt8} {f : Fl} {l : List Fl} (h : f.1 ≠ nm) : atN nm (f :: l) = (atN nm l).map (· + 1) := by
  rw [atN, if_neg h]
theorem atN_hit {nm : List UInt8} {f : Fl} {l : List Fl} (h : f.1 = nm) : atN nm (f :: l) = some 0 := by rw [atN, if_pos h]
def atFrom (nm : List UInt8) (l : List Fl) (i : Nat) : Option Nat := (atN nm (l.drop i)).map (· + i)
theorem atFrom_zero (nm : List UInt8) (l : List Fl) : atFrom nm l 0 = atN nm l := by unfold atFrom; cases h : atN nm l <;> simp [h]
theorem atFrom_hit {nm : List UInt8} {l : List Fl} {i : Nat} {f : Fl} (hf : l[i]? = some f) (h : f.1 = nm) : atFrom nm l i = some i := by
  obtain ⟨hl, e⟩ := List.getElem?_eq_some_iff.1 hf
  unfold atFrom
  rw [List.drop_eq_getElem_cons hl, e, atN_hit h]; simp
theorem atFrom_skip {nm : List UInt8} {l : List Fl} {i : Nat} {f : Fl} (hf : l[i]? = some f) (h : f.1 ≠ nm) : atFrom nm l i = atFrom nm l (i + 1) := by
  obtain ⟨hl, e⟩ := List.getElem?_eq_some_iff.1 hf
  unfold atFrom
  rw [List.drop_eq_getElem_cons hl, e, atN_skip h]
  cases atN nm (l.drop (i + 1)) <;> simp <;> omega
theorem atFrom_end {nm : List UInt8} {l : List Fl} {i : Nat} (h : l.length ≤ i) : atFrom nm l i = none := by
  unfold atFrom; rw [List.drop_eq_nil_of_le h]; rfl

/-- The fuse burns: is the power off behind it? -/
def burnS (s : St) : St := { s with off := s.off || decide (s.fuse = 0), fuse := if 0 < s.fuse then s.fuse - 1 else s.fuse }
/-- How many files stand ahead of a name. -/
def placeL (nm : List UInt8) : List Fl → Nat
  | [] => 0
  | f :: l => if ltL f.1 nm = true then placeL nm l + 1 else 0
/-- A text behind a file's others; a new file stands in order. -/
def putF (nm b : List UInt8) (l : List Fl) : List Fl := match atN nm l with
  | some i => l.modify i fun f => (f.1, f.2.1, f.2.2 ++ b)
  | none => l.take (placeL nm l) ++ [(nm, [], b)] ++ l.drop (placeL nm l)
def appendS (nm b : List UInt8) (s : St) : Int × St :=
  if s.off = true then (7, s) else if rightL nm = false then (5, s) else if s.room < ((usedL s.files + b.length : Nat) : Int) then (6, s)
  else if (burnS s).off = true then (7, burnS s) else (0, { burnS s with files := putF nm b s.files })
def syncF (f : Fl) : Fl := (f.1, f.2.1 ++ f.2.2, [])
/-- What is done with the i-th file, if nothing hinders. -/
def onS (nm : List UInt8) (bad : Nat → Option Int) (g : Nat → List Fl → List Fl) (s : St) : Int × St :=
  if s.off = true then (7, s) else match atN nm s.files with
    | none => (8, s)
    | some i => match bad i with
      | some e => (e, s)
      | none => if (burnS s).off = true then (7, burnS s) else (0, { burnS s with files := g i s.files })
def syncS (nm : List UInt8) (s : St) : Int × St := onS nm (fun _ => none) (fun i l => l.modify i syncF) s
def cutF (n : Nat) (f : Fl) : Fl := (f.1, (f.2.1 ++ f.2.2).take (min n f.2.1.length), ((f.2.1 ++ f.2.2).take n).drop (min n f.2.1.length))
def cutBad (n : Int) (l : List Fl) (i : Nat) : Option Int := match l[i]? with
  | some f => if n < 0 ∨ ((sizeF f : Nat) : Int) < n then some 1 else none
  | none => none
def cutS (nm : List UInt8) (n : Int) (s : St) : Int × St := onS nm (cutBad n s.files) (fun i l => l.modify i (cutF n.toNat)) s
def removeS (nm : List UInt8) (s : St) : Int × St := onS nm (fun _ => none) (fun i l => l.take i ++ l.drop (i + 1)) s
def readS (nm : List UInt8) (s : St) : List UInt8 × Int :=
  if s.off = true then ([], 7) else match atN nm s.files with
    | none => ([], 8)
    | some i => match s.files[i]? with
      | some f => (f.2.1 ++ f.2.2, 0)
      | none => ([], 8)
/-- How many late bytes a crash keeps. -/
def keepN (keep : List Int) (n m : Nat) : Nat := if keep = [] then 0 else ((keep.getD (n % keep.length) 0) % 18446744073709551616).toNat % (m + 1)
def crashL (keep : List Int) : Nat → List Fl → List Fl
  | _, [] => []
  | n, f :: l => if f.2.2 = [] then (f.1, f.2.1, []) :: crashL keep n l else (f.1, f.2.1 ++ f.2.2.take (keepN keep n f.2.2.length), []) :: crashL keep (n + 1) l
def crashS (keep : List Int) (s : St) : St := { files := crashL keep 0 s.files, room := s.room, fuse := -1, off := false }
def newS (room : Int) : St := { files := [], room := room, fuse := -1, off := false }

/-- The names rise. -/
def RiseF (l : List Fl) : Prop := l.Pairwise fun f g => ltL f.1 g.1 = true
end Go.Proofs.Ytbgfkjafablfiaa
