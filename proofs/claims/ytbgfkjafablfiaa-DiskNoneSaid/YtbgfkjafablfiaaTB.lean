/-
  The reference's disk in memory; the contracts of its burns, at, Used.
-/
import Derived.Test.YtbgfkjafablfiaaTA
namespace Go.Proofs.Ytbgfkjafablfiaa
open Go.RowKit

/-- What a call may have changed: blocks of F, and new ones. -/
structure Only (F : Nat → Prop) (w w' : World) : Prop where
  os : w'.os = w.os
  tape : w'.tape = w.tape
  output : w'.output = w.output
  size : w.heap.size ≤ w'.heap.size
  block : ∀ k, k < w.heap.size → ¬ F k → w'.heap[k]? = w.heap[k]?
theorem Only.refl (F : Nat → Prop) (w : World) : Only F w w := ⟨rfl, rfl, rfl, Nat.le_refl _, fun _ _ _ => rfl⟩
theorem Only.trans {F : Nat → Prop} {u v w : World} (h : Only F u v) (k : Only F v w) : Only F u w :=
  ⟨k.os.trans h.os, k.tape.trans h.tape, k.output.trans h.output, Nat.le_trans h.size k.size, fun i hi hF => (k.block i (Nat.lt_of_lt_of_le hi h.size) hF).trans (h.block i hi hF)⟩
/-- Two calls, the second one on what the first one left. -/
theorem Only.then {F F' : Nat → Prop} {u v w : World} (h : Only F u v) (k : Only F' v w) (hF : ∀ i, F' i → F i ∨ u.heap.size ≤ i) : Only F u w :=
  ⟨k.os.trans h.os, k.tape.trans h.tape, k.output.trans h.output, Nat.le_trans h.size k.size, fun i hi hn => (k.block i (Nat.lt_of_lt_of_le hi h.size) (fun h' => (hF i h').elim hn (fun h' => by omega))).trans (h.block i hi hn)⟩
theorem Only.mono {F F' : Nat → Prop} {u v : World} (h : Only F u v) (hF : ∀ i, F i → F' i) : Only F' u v :=
  ⟨h.os, h.tape, h.output, h.size, fun i hi hn => h.block i hi (fun h' => hn (hF i h'))⟩
theorem Only.drew {F : Nat → Prop} {u v : World} (h : Only F u v) : Only F u v.drew := ⟨h.os, h.tape, h.output, h.size, h.block⟩
theorem Only.drewN {F : Nat → Prop} {u v : World} (h : Only F u v) (n : Nat) : Only F u (v.drewN n) := ⟨h.os, h.tape, h.output, h.size, h.block⟩
theorem Only.setCell {F : Nat → Prop} {u v : World} (h : Only F u v) (a : Addr) (x : Value) (ha : F a.block ∨ u.heap.size ≤ a.block) : Only F u (v.setCell a x) :=
  ⟨h.os, h.tape, h.output, by simpa using h.size, fun i hi hn => (heap_setCell_other v a i x (fun e => by subst e; rcases ha with ha | ha; exact hn ha; omega)).trans (h.block i hi hn)⟩
theorem Only.of_below {B : Nat} {F : Nat → Prop} {u v : World} (h : Below B u v) (hF : ∀ i, B ≤ i → F i ∨ u.heap.size ≤ i) : Only F u v :=
  ⟨h.os, h.tape, h.output, h.size, fun i hi hn => h.block i (Nat.lt_of_not_le fun hb => (hF i hb).elim hn (fun h' => by omega))⟩
theorem Only.below {B : Nat} {F : Nat → Prop} {u v : World} (h : Only F u v) (hB : B ≤ u.heap.size) (hF : ∀ i, F i → B ≤ i) : Below B u v :=
  ⟨h.os, h.tape, h.output, h.size, fun i hi => h.block i (Nat.lt_of_lt_of_le hi hB) (fun h' => by have := hF i h'; omega)⟩

/-- Files as cells. -/
def flC (l : List Fl) : List Value := l.flatMap fun f => [.string (bs f.1), .string (bs f.2.1), .string (bs f.2.2)]
theorem flC_length (l : List Fl) : (flC l).length = l.length * 3 := by
  induction l with
  | nil => rfl
  | cons s l ih => simp only [flC, List.flatMap_cons, List.length_append, List.length_cons, List.length_nil] at *; omega
theorem flC_cons (f : Fl) (l : List Fl) : flC (f :: l) = .string (bs f.1) :: .string (bs f.2.1) :: .string (bs f.2.2) :: flC l := rfl
theorem flC_append (l m : List Fl) : flC (l ++ m) = flC l ++ flC m := by unfold flC; rw [List.flatMap_append]
theorem flC_one (l : List Fl) : ∀ u ∈ flC l, u.oneCell' = true := by
  intro u hu
  obtain ⟨s, _, h⟩ := List.mem_flatMap.1 hu
  simp only [List.mem_cons, List.not_mem_nil, or_false] at h
  rcases h with rfl | rfl | rfl <;> rfl
theorem flC_at : ∀ (l : List Fl) (i : Nat) (f : Fl), l[i]? = some f → (flC l)[i * 3]? = some (.string (bs f.1)) ∧ (flC l)[i * 3 + 1]? = some (.string (bs f.2.1)) ∧ (flC l)[i * 3 + 2]? = some (.string (bs f.2.2))
  | [], i, f, h => by simp at h
  | g :: l, 0, f, h => by
    obtain rfl : g = f := by simpa using h
    exact ⟨rfl, rfl, rfl⟩
  | g :: l, i + 1, f, h => by
    have := flC_at l i f (by simpa using h)
    rw [flC_cons, show (i + 1) * 3 = i * 3 + 1 + 1 + 1 by omega]
    simpa using this
theorem flC_set : ∀ (l : List Fl) (i : Nat) (f : Fl), l[i]? = some f → ∀ x y, ((flC l).set (i * 3 + 1) (.string (bs x))).set (i * 3 + 2) (.string (bs y)) = flC (l.modify i fun f => (f.1, x, y))
  | [], i, f, h, x, y => by simp at h
  | g :: l, 0, f, h, x, y => by
    rfl
  | g :: l, i + 1, f, h, x, y => by
    have := flC_set l i f (by simpa using h) x y
    rw [List.modify_succ_cons, flC_cons, flC_cons, ← this, show (i + 1) * 3 + 1 = i * 3 + 1 + 1 + 1 + 1 by omega, show (i + 1) * 3 + 2 = i * 3 + 2 + 1 + 1 + 1 by omega]
    rfl
theorem flC_late : ∀ (l : List Fl) (i : Nat) (y : List UInt8), (flC l).set (i * 3 + 2) (.string (bs y)) = flC (l.modify i fun f => (f.1, f.2.1, y))
  | [], i, y => by simp [flC]
  | g :: l, 0, y => rfl
  | g :: l, i + 1, y => by
    rw [List.modify_succ_cons, flC_cons, flC_cons, ← flC_late l i y, show (i + 1) * 3 + 2 = i * 3 + 2 + 1 + 1 + 1 by omega]
    rfl

/-- The reference's disk in block r: its list of files is v. -/
structure RefD (w : World) (r : Nat) (v : Value) (s : St) : Prop where
  box : Holds w r 61 [v, .int .i64 s.room, .int .i64 s.fuse, .bool s.off]
  own : w.ownsRow (r + 1) 68 3 v s.files.length (flC s.files)
/-- Its blocks. -/
def Foot (r : Nat) (v : Value) (k : Nat) : Prop := k = r ∨ v.ownBlock = some k
/-- What may be asked of a disk here. -/
structure Fit (s : St) : Prop where
  room0 : 0 ≤ s.room
  room1 : s.room ≤ 8388608
  fuse0 : -1 ≤ s.fuse
  fuse1 : s.fuse ≤ 9223372036854775807
  used : usedL s.files ≤ 1000000000
  len : s.files.length ≤ 1000000
theorem RefD.ne {w : World} {r : Nat} {v : Value} {s : St} (h : RefD w r v s) {k : Nat} (hk : v.ownBlock = some k) : r ≠ k := by
  have := (h.own.lt k hk).1; omega
theorem RefD.size {w : World} {r : Nat} {v : Value} {s : St} (h : RefD w r v s) : r < w.heap.size := h.box.lt
/-- The cells of the i-th file. -/
theorem RefD.file {w : World} {r : Nat} {v : Value} {s : St} (h : RefD w r v s) {i : Nat} {f : Fl} (hf : s.files[i]? = some f) : ∃ g cap, v = .slice (some ⟨g, 0, none⟩) s.files.length cap ∧ r < g ∧ g < w.heap.size ∧
    w.cell? ⟨g, i * 3, none⟩ = some (.string (bs f.1)) ∧ w.cell? ⟨g, i * 3 + 1, none⟩ = some (.string (bs f.2.1)) ∧ w.cell? ⟨g, i * 3 + 2, none⟩ = some (.string (bs f.2.2)) ∧ (∀ j, w.frozen? ⟨g, j, none⟩ = false) := by
  obtain ⟨hl, _⟩ := List.getElem?_eq_some_iff.1 hf
  obtain ⟨g, cap, rfl, hg, hgl⟩ := h.own.form (by omega)
  obtain ⟨c0, c1, c2⟩ := flC_at s.files i f hf
  refine ⟨g, cap, rfl, by omega, hgl, ?_, ?_, ?_, h.own.frozenAt⟩
  · rw [h.own.cellAt _ (by omega)]; exact c0
  · rw [h.own.cellAt _ (by omega)]; exact c1
  · rw [h.own.cellAt _ (by omega)]; exact c2
theorem RefD.slice {w : World} {r : Nat} {v : Value} {s : St} (h : RefD w r v s) : ∃ A cap, v = .slice A s.files.length cap := by
  obtain ⟨A, cap, e, _⟩ := own_row h.own
  exact ⟨A, cap, e⟩
/-- What the disk's block holds. -/
theorem RefD.cells {w : World} {r : Nat} {v : Value} {s : St} (h : RefD w r v s) : w.cell? ⟨r, 0, none⟩ = some v ∧ w.cell? ⟨r, 1, none⟩ = some (.int .i64 s.room) ∧ w.cell? ⟨r, 2, none⟩ = some (.int .i64 s.fuse) ∧ w.cell? ⟨r, 3, none⟩ = some (.bool s.off) ∧ (∀ j, w.frozen? ⟨r, j, none⟩ = false) :=
  ⟨h.box.cell rfl, h.box.cell rfl, h.box.cell rfl, h.box.cell rfl, h.box.frozen⟩

set_option maxRecDepth 100000 in
set_option maxHeartbeats 1000000 in
theorem refat_any (nm : List UInt8) (r : Nat) (v : Value) (s : St) (w : World) (h : RefD w r v s) (hf : Fit s) :
    Calls Try.prog 41 #[.pointer (some ⟨r, 0, none⟩), .string (bs nm)] w fun e w' => e = .returned (.int .i64 (atI nm s.files)) ∧ w' = w := by
  obtain ⟨A, cap, rfl⟩ := h.slice
  obtain ⟨c0, _, _, _, _⟩ := h.cells
  have H := Lib.hid h
  have Hlen := Lib.hid hf.len
  have H0 := Lib.hid (atFrom_zero nm s.files).symm
  generalize hn : s.files.length = n at *
  have Hn := Lib.hid hn
  clear h hf hn
  go_enter Try.func41, Try.ntmps41
  go_wp2
  go_loop [5] (fun iv => ∃ i : Nat, i ≤ n ∧ iv = .int .i64 i ∧ atN nm s.files = atFrom nm s.files i) (fun iv => n - (intOf iv).toNat)
  case atStart => exact ⟨0, by omega, rfl, H0.out⟩
  case round =>
    obtain ⟨i, hi, rfl, hat⟩ := hrel
    have Hat := Lib.hid hat
    clear hat
    by_cases hlt : i < n
    · have hlt' : (i : Int) < (n : Int) := by omega
      obtain ⟨f, hf⟩ : ∃ f, s.files[i]? = some f := ⟨_, List.getElem?_eq_getElem (by rw [Hn.out]; exact hlt)⟩
      obtain ⟨g, cap', hA, _, hgl, d0, _, _, _⟩ := H.out.file hf
      injection hA with hA1 hA2 hA3
      subst hA1
      have Hhit := Lib.hid (fun e => Hat.out.trans (atFrom_hit hf e))
      have Hskip := Lib.hid (fun e => Hat.out.trans (atFrom_skip hf e))
      clear hf hA2
      have hl6 : i < 1000000 := Nat.lt_of_lt_of_le hlt Hlen.out
      by_cases he : f.1 = nm
      · have heq : ((bs f.1).toList == (bs nm).toList) = true := by rw [he]; exact beq_self_eq_true _
        have Hv : Hid (atI nm s.files = (i : Int)) := Lib.hid (by unfold atI; rw [Hhit.out he])
        clear he
        go_wp2
        go_ret
        exact ⟨by rw [Hv.out]; rfl, rfl⟩
      · have heq : ((bs f.1).toList == (bs nm).toList) = false := beq_eq_false_iff_ne.2 (by rw [bs_toList, bs_toList]; exact he)
        have Hv := Lib.hid (Hskip.out he)
        clear he
        go_wp2
        go_round
        case rel => exact ⟨i + 1, by omega, by go_num, Hv.out⟩
        case measure => simp [intOf]; omega
    · have hlt' : ¬ (i : Int) < (n : Int) := by omega
      have Hv : Hid (atI nm s.files = -1) := Lib.hid (by unfold atI; rw [Hat.out, atFrom_end (by rw [Hn.out]; omega)])
      go_wp2
      go_ret
      exact ⟨by rw [Hv.out]; rfl, rfl⟩
end Go.Proofs.Ytbgfkjafablfiaa
