/-
  A reader in memory; the contracts of pack.Read, Upto, Num, Flag, Left and End.
-/
import Derived.Test.YtdondonmggbmjaaDec
namespace Go.Proofs.Ytdondonmggbmjaa
open Go.RowKit

/-- The number that stands next, not above most: what is read, what is left, whether there was a fault. -/
def rdN (most : Int) (l : List UInt8) (bad : Bool) : Nat × List UInt8 × Bool :=
  if bad = true then (0, [], true) else match decL l with
  | some (n, k) => if (n : Int) ≤ most then (n, l.drop k, false) else (0, [], true)
  | none => (0, [], true)
theorem rdN_bad (most : Int) (l : List UInt8) : rdN most l true = (0, [], true) := rfl
theorem rdN_none {most : Int} {l : List UInt8} (h : decL l = none) : rdN most l false = (0, [], true) := by
  unfold rdN; rw [if_neg (by simp), h]
theorem rdN_over {most : Int} {l : List UInt8} {n k : Nat} (h : decL l = some (n, k)) (hm : ¬ (n : Int) ≤ most) : rdN most l false = (0, [], true) := by
  unfold rdN; rw [if_neg (by simp), h]; simp only; rw [if_neg hm]
theorem rdN_some {most : Int} {l : List UInt8} {n k : Nat} (h : decL l = some (n, k)) (hm : (n : Int) ≤ most) : rdN most l false = (n, l.drop k, false) := by
  unfold rdN; rw [if_neg (by simp), h]; simp only; rw [if_pos hm]
theorem rdN_cases (most : Int) (l : List UInt8) : rdN most l false = (0, [], true) ∨ ∃ n k, decL l = some (n, k) ∧ (n : Int) ≤ most ∧ rdN most l false = (n, l.drop k, false) := by
  cases h : decL l with
  | none => exact .inl (rdN_none h)
  | some p =>
    obtain ⟨n, k⟩ := p
    by_cases hm : (n : Int) ≤ most
    · exact .inr ⟨n, k, rfl, hm, rdN_some h hm⟩
    · exact .inl (rdN_over h hm)
theorem rdN_length (most : Int) (l : List UInt8) (bad : Bool) : (rdN most l bad).2.1.length ≤ l.length := by
  cases bad with
  | true => rw [rdN_bad]; exact Nat.zero_le _
  | false =>
    rcases rdN_cases most l with h | ⟨n, k, _, _, h⟩ <;> rw [h]
    · exact Nat.zero_le _
    · simp
theorem rdN_le (most : Int) (l : List UInt8) (bad : Bool) : (rdN most l bad).1 ≤ top := by
  cases bad with
  | true => rw [rdN_bad]; exact Nat.zero_le _
  | false =>
    rcases rdN_cases most l with h | ⟨n, k, hd, _, h⟩ <;> rw [h]
    · exact Nat.zero_le _
    · exact (decL_sound hd).1
theorem rdN_left (most : Int) (l : List UInt8) (bad : Bool) : (rdN most l bad).2.2 = true → (rdN most l bad).2.1 = [] ∧ (rdN most l bad).1 = 0 := by
  cases bad with
  | true => rw [rdN_bad]; exact fun _ => ⟨rfl, rfl⟩
  | false => rcases rdN_cases most l with h | ⟨n, k, _, _, h⟩ <;> rw [h] <;> simp

/-- Block a is a reader of type t: what is left, whether there was a fault. -/
def RdM (t : TypeId) (w : World) (a : Nat) (l : List UInt8) (bad : Bool) : Prop := ∃ s, Holds w a t [.string s, .bool bad] ∧ bl s = l ∧ (bad = true → l = [])
section
variable {t : TypeId} {w w' : World} {a : Nat} {l : List UInt8} {bad : Bool}
theorem RdM.lt (h : RdM t w a l bad) : a < w.heap.size := by obtain ⟨s, h, _⟩ := h; exact Holds.lt h
theorem RdM.grown {row : Option Nat} (h : RdM t w a l bad) (hb : w.grownBy w' row) (hg : some a ≠ row) : RdM t w' a l bad := by
  obtain ⟨s, h, r⟩ := h; exact ⟨s, h.grown hb hg, r⟩
theorem RdM.below {B : Nat} (h : RdM t w a l bad) (hb : Below B w w') (hg : a < B) : RdM t w' a l bad := by
  obtain ⟨s, h, r⟩ := h; exact ⟨s, h.below hb hg, r⟩
theorem RdM.bare (h : RdM t w a l true) : RdM t w a [] true := by
  obtain ⟨s, h1, h2, h3⟩ := h
  have := h3 rfl
  subst this
  exact ⟨s, h1, h2, h3⟩
end
theorem grown_refl (w : World) (row : Option Nat) : w.grownBy w row := ⟨rfl, rfl, rfl, Nat.le_refl _, fun _ _ _ => rfl⟩
theorem grown_set {w w' : World} {a i : Nat} (h : w.grownBy w' (some a)) (v : Value) : w.grownBy (w'.setCell ⟨a, i, none⟩ v) (some a) :=
  ⟨h.os, h.tape, h.output, by simp [World.setCell]; exact h.size, fun j hj hne => by rw [heap_setCell_other w' ⟨a, i, none⟩ j v (fun e => hne (by rw [e]))]; exact h.block j hj hne⟩
theorem grown_trans {w w1 w2 : World} {row : Option Nat} (h : w.grownBy w1 row) (k : w1.grownBy w2 row) : w.grownBy w2 row :=
  ⟨k.os.trans h.os, k.tape.trans h.tape, k.output.trans h.output, Nat.le_trans h.size k.size, fun j hj hne => (k.block j (Nat.lt_of_lt_of_le hj h.size) hne).trans (h.block j hj hne)⟩
theorem grown_below {w w' : World} (row : Option Nat) (h : Below w.heap.size w w') : w.grownBy w' row := ⟨h.os, h.tape, h.output, h.size, fun j hj _ => h.block j hj⟩
theorem below_grown {w w' : World} {a : Nat} (h : w.grownBy w' (some a)) (ha : a ≤ w.heap.size) : Below a w w' :=
  ⟨h.os, h.tape, h.output, h.size, fun j hj => h.block j (by omega) (by simp; omega)⟩

theorem bl_drop (s : ByteArray) (k : Nat) : bl (s.extract k s.size) = (bl s).drop k := by
  rw [bl_extract, List.take_of_length_le (by rw [List.length_drop, bl_length]; omega)]
theorem bl_take (s : ByteArray) (k : Nat) : bl (s.extract 0 k) = (bl s).take k := by rw [bl_extract]; simp
theorem bl_empty : bl { data := #[] } = [] := by rw [bl_eq]

/-- What reading leaves. -/
def RdGot (t : TypeId) (w : World) (a : Nat) (v : Value) (r : List UInt8 × Bool) (e : Ending) (w' : World) : Prop := e = .returned v ∧ RdM t w' a r.1 r.2 ∧ w.grownBy w' (some a)
theorem RdM.cells {t : TypeId} {w : World} {a : Nat} {s : ByteArray} {bad : Bool} (h : Holds w a t [.string s, .bool bad]) : w.cell? ⟨a, 0, none⟩ = some (.string s) ∧ w.cell? ⟨a, 1, none⟩ = some (.bool bad) ∧ w.frozen? ⟨a, 0, none⟩ = false ∧ w.frozen? ⟨a, 1, none⟩ = false :=
  ⟨Holds.cell h rfl, Holds.cell h rfl, Holds.frozen h 0, Holds.frozen h 1⟩

set_option maxRecDepth 100000 in
theorem read_any (s : ByteArray) (w : World) : Calls Try.prog 16 #[.string s] w fun e w' => e = .returned (.pointer (some ⟨w.heap.size, 0, none⟩)) ∧ RdM 61 w' w.heap.size (bl s) false ∧ Below w.heap.size w w' ∧ w'.heap.size = w.heap.size + 1 := by
  go_enter Try.func16, Try.ntmps16
  go_wp2
  go_ret
  exact ⟨rfl, ⟨s, Holds.new w 61 _, rfl, fun h => by cases h⟩, (Below.refl _ _).alloc (Nat.le_refl _) _, by simp⟩

set_option maxRecDepth 100000 in
theorem rstop_any (a : Nat) (w : World) (s : ByteArray) (bad : Bool) (h : Holds w a 61 [.string s, .bool bad]) : Calls Try.prog 34 #[.pointer (some ⟨a, 0, none⟩)] w fun e w' => e = .returned (.tuple #[]) ∧ w' = (w.setCell ⟨a, 0, none⟩ (.string { data := #[] })).setCell ⟨a, 1, none⟩ (.bool true) := by
  obtain ⟨c0, c1, f0, f1⟩ := RdM.cells h
  clear h
  go_enter Try.func34, Try.ntmps34
  go_wp2
  go_end0
  exact ⟨rfl, rfl⟩
theorem rstopped_nil (w : World) : Calls Try.prog 33 #[.pointer none] w fun e w' => e = .returned (.bool true) ∧ w' = w := by
  go_enter Try.func33, Try.ntmps33
  go_wp2
  go_ret
  exact ⟨rfl, rfl⟩
theorem rstopped_any (a : Nat) (w : World) (s : ByteArray) (bad : Bool) (h : Holds w a 61 [.string s, .bool bad]) : Calls Try.prog 33 #[.pointer (some ⟨a, 0, none⟩)] w fun e w' => e = .returned (.bool bad) ∧ w' = w := by
  obtain ⟨c0, c1, f0, f1⟩ := RdM.cells h
  clear h
  go_enter Try.func33, Try.ntmps33
  go_wp2
  go_ret
  exact ⟨rfl, rfl⟩

set_option maxRecDepth 100000 in
set_option maxHeartbeats 1000000 in
theorem upto_any (most : Int) (l : List UInt8) (bad : Bool) (a : Nat) (w : World) (h : RdM 61 w a l bad) (hl : l.length ≤ 1000000000) :
    Calls Try.prog 23 #[.pointer (some ⟨a, 0, none⟩), .int .i64 most] w (RdGot 61 w a (.int .i64 (rdN most l bad).1) (rdN most l bad).2) := by
  cases bad with
  | true =>
    have Hend : Hid (RdGot 61 w a (.int .i64 0) ([], true) (.returned (.int .i64 0)) w) := Lib.hid ⟨rfl, h.bare, grown_refl _ _⟩
    obtain ⟨s, hh, _, _⟩ := h
    obtain ⟨c0, c1, f0, f1⟩ := RdM.cells hh
    rw [rdN_bad]
    clear hh
    go_enter Try.func23, Try.ntmps23
    go_wp2
    go_ret
    exact Hend.out
  | false =>
    obtain ⟨s, hh, hs, _⟩ := h
    obtain ⟨c0, c1, f0, f1⟩ := RdM.cells hh
    have Hh := Lib.hid hh
    have Hs := Lib.hid hs
    have hsz : s.size ≤ 1000000000 := by rw [← bl_length, hs]; exact hl
    clear hh hs hl
    have Hstop : Hid (RdGot 61 w a (.int .i64 0) ([], true) (.returned (.int .i64 0)) ((w.setCell ⟨a, 0, none⟩ (.string { data := #[] })).setCell ⟨a, 1, none⟩ (.bool true))) := Lib.hid
      ⟨rfl, ⟨_, Holds.set (Holds.set Hh.out 0 _) 1 _, bl_empty, fun _ => rfl⟩, grown_set (grown_set (grown_refl _ _) _) _⟩
    cases hd : decL l with
    | none =>
      rw [rdN_none hd]
      have Hv : Hid (decV (bl s) = .tuple #[.int .i64 0, .int .i64 0]) := Lib.hid (by rw [Hs.out]; unfold decV; rw [hd])
      clear hd
      go_enter Try.func23, Try.ntmps23
      go_wp2_with (first | (go_at_call 33; refine (rstopped_any a _ _ _ Hh.out).mono ?_; rintro e w' ⟨rfl, rfl⟩) | (go_at_call 34; refine (rstop_any a _ _ _ Hh.out).mono ?_; rintro e w' ⟨rfl, rfl⟩) | (go_at_call 36; refine (decoded_any s _ (by omega)).mono ?_; rintro e w' ⟨rfl, rfl⟩; rw [Hv.out]))
      go_ret
      exact Hstop.out
    | some p =>
      obtain ⟨n, k⟩ := p
      have Hv : Hid (decV (bl s) = .tuple #[.int .i64 n, .int .i64 k]) := Lib.hid (by rw [Hs.out]; unfold decV; rw [hd])
      obtain ⟨_, hk, _, hk0, _⟩ := decL_sound hd
      have hks : k ≤ s.size := by rw [← bl_length, Hs.out]; exact hk
      have hkz : ((k : Int) == 0) = false := by simp; omega
      by_cases hm : (n : Int) ≤ most
      · rw [rdN_some hd hm]
        clear hd hk
        have hm' : ¬ most < (n : Int) := by omega
        have Hend : Hid (RdGot 61 w a (.int .i64 n) (l.drop k, false) (.returned (.int .i64 n)) (w.setCell ⟨a, 0, none⟩ (.string (s.extract k s.size)))) := Lib.hid
          ⟨rfl, ⟨_, Holds.set Hh.out 0 _, by rw [bl_drop, Hs.out], fun h => by cases h⟩, grown_set (grown_refl _ _) _⟩
        go_enter Try.func23, Try.ntmps23
        go_wp2_with (first | (go_at_call 33; refine (rstopped_any a _ _ _ Hh.out).mono ?_; rintro e w' ⟨rfl, rfl⟩) | (go_at_call 36; refine (decoded_any s _ (by omega)).mono ?_; rintro e w' ⟨rfl, rfl⟩; rw [Hv.out]))
        go_ret
        exact Hend.out
      · rw [rdN_over hd hm]
        clear hd hk
        have hm' : most < (n : Int) := by omega
        go_enter Try.func23, Try.ntmps23
        go_wp2_with (first | (go_at_call 33; refine (rstopped_any a _ _ _ Hh.out).mono ?_; rintro e w' ⟨rfl, rfl⟩) | (go_at_call 34; refine (rstop_any a _ _ _ Hh.out).mono ?_; rintro e w' ⟨rfl, rfl⟩) | (go_at_call 36; refine (decoded_any s _ (by omega)).mono ?_; rintro e w' ⟨rfl, rfl⟩; rw [Hv.out]))
        go_ret
        exact Hstop.out
end Go.Proofs.Ytdondonmggbmjaa
