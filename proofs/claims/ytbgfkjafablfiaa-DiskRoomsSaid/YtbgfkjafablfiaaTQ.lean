/-
  One file through appends, syncs and a crash (pure).
-/
import Derived.Test.YtbgfkjafablfiaaTP
namespace Go.Proofs.Ytbgfkjafablfiaa
open Go.RowKit

/-- The file's bytes, if there is one. -/
abbrev Ox := Option (List UInt8 × List UInt8)
def oneF : Ox → List Fl
  | none => []
  | some x => [([102], x.1, x.2)]
def wholeX : Ox → List UInt8
  | none => []
  | some x => x.1 ++ x.2
def moreX (b : List UInt8) : Ox → Ox
  | none => some ([], b)
  | some x => some (x.1, x.2 ++ b)
def discX (x : Ox) (fuse : Int) (off : Bool) : St := { files := oneF x, room := 8388608, fuse := fuse, off := off }
theorem whole_more (b : List UInt8) (x : Ox) : wholeX (moreX b x) = wholeX x ++ b := by
  cases x <;> simp [wholeX, moreX]
theorem used_one (x : Ox) : usedL (oneF x) = (wholeX x).length := by
  cases x <;> simp [wholeX, oneF, usedL, sizeF]
theorem put_one (b : List UInt8) (x : Ox) : putF [102] b (oneF x) = oneF (moreX b x) := by
  cases x <;> simp [oneF, moreX, putF, atN, placeL]
theorem right_f : rightL [102] = true := by decide +kernel
theorem append_one (b : List UInt8) (x : Ox) (fuse : Int) (h : (wholeX x).length + b.length ≤ 8388608) :
    appendS [102] b (discX x fuse false) = if fuse = 0 then (7, discX x fuse true) else (0, discX (moreX b x) (if 0 < fuse then fuse - 1 else fuse) false) := by
  unfold appendS
  rw [if_neg (by simp [discX]), if_neg (by rw [right_f]; simp), if_neg (by simp only [discX]; rw [used_one]; omega)]
  have hb : burnS (discX x fuse false) = discX x (if 0 < fuse then fuse - 1 else fuse) (decide (fuse = 0)) := rfl
  rw [hb]
  by_cases hf : fuse = 0
  · subst hf
    rfl
  · rw [decide_eq_false hf, if_neg hf, if_neg (by simp [discX])]
    show ((0 : Int), ({ files := putF [102] b (oneF x), room := 8388608, fuse := if 0 < fuse then fuse - 1 else fuse, off := false } : St)) = _
    rw [put_one]; rfl
theorem append_down (b : List UInt8) (x : Ox) (fuse : Int) : appendS [102] b (discX x fuse true) = (7, discX x fuse true) := by
  unfold appendS; rw [if_pos (by simp [discX])]
def syncX : Ox → Ox
  | none => none
  | some x => some (x.1 ++ x.2, [])
theorem sync_one (x : List UInt8 × List UInt8) : syncS [102] (discX (some x) (-1) false) = (0, discX (some (x.1 ++ x.2, [])) (-1) false) := by
  simp [syncS, onS, discX, oneF, atN, burnS, syncF]
theorem read_one (x : List UInt8 × List UInt8) (fuse : Int) : readS [102] (discX (some x) fuse false) = (x.1 ++ x.2, 0) := by
  simp [readS, discX, oneF, atN]
theorem read_no (fuse : Int) : readS [102] (discX none fuse false) = ([], 8) := by
  simp [readS, discX, oneF, atN]
theorem crash_no (keep : List Int) (fuse : Int) (off : Bool) : crashS keep (discX none fuse off) = discX none (-1) false := by
  simp [crashS, discX, oneF, crashL]
theorem crash_one (keep : List Int) (x : List UInt8 × List UInt8) (fuse : Int) (off : Bool) : crashS keep (discX (some x) fuse off) = discX (some (x.1 ++ x.2.take (keepN keep 0 x.2.length), [])) (-1) false := by
  by_cases h : x.2 = []
  · simp [crashS, discX, oneF, crashL, h]
  · simp [crashS, discX, oneF, crashL, h]
theorem keep_all (m : Nat) (h : m ≤ 1000000000) : keepN [(m : Int)] 0 m = m := by
  unfold keepN
  rw [if_neg (by simp)]
  simp only [List.length_cons, List.length_nil, Nat.zero_mod, List.getD_cons_zero, Nat.zero_add]
  rw [Int.emod_eq_of_lt (by omega) (by omega), Int.toNat_natCast, Nat.mod_eq_of_lt (by omega)]
/-- Texts laid together. -/
def catL (l : List (List UInt8)) : List UInt8 := l.flatten
theorem cat_next {l : List (List UInt8)} {i : Nat} {b : List UInt8} (h : l[i]? = some b) : catL (l.take (i + 1)) = catL (l.take i) ++ b := by
  unfold catL; rw [List.take_add_one, h]; simp
theorem fit_one (x : Ox) (fuse : Int) (off : Bool) (h : (wholeX x).length ≤ 1000000000) (h0 : -1 ≤ fuse) (h1 : fuse ≤ 9223372036854775807) : Fit (discX x fuse off) :=
  ⟨by simp [discX], by simp [discX], h0, h1, by show usedL (oneF x) ≤ _; rw [used_one]; exact h, by cases x <;> simp [discX, oneF]⟩
theorem disc_new : newS 8388608 = discX none (-1) false := rfl
theorem fuse_new (n : Nat) : fuseS n (discX none (-1) false) = discX none n false := by
  unfold fuseS discX
  rw [Int.max_eq_left (by omega)]
end Go.Proofs.Ytbgfkjafablfiaa
