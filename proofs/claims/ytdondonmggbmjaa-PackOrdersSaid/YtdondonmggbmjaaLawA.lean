/-
  The contracts of the law's awake and put; things in memory.
-/
import Derived.Test.YtdondonmggbmjaaWr
namespace Go.Proofs.Ytdondonmggbmjaa
open Go.RowKit

theorem beL_300 : beL 300 = [1, 44] := by
  rw [beL_step 300 (by omega), beL_step (300 / 256) (by omega), show 300 / 256 / 256 = 0 from rfl, beL_zero]; rfl
theorem beL_2 : beL 2 = [2] := by rw [beL_step 2 (by omega), show 2 / 256 = 0 from rfl, beL_zero]; rfl
def abS : ByteArray := { data := #[97, 98] }
theorem awake_st : wrT (bl abS) (wrN 300 ([], 0)) = ([2, 1, 44, 1, 2, 97, 98], 0) := by
  have hb : bl abS = [97, 98] := by rw [bl_eq]; rfl
  rw [hb]
  simp [wrT, wrN, wrP, encL, beL_300, beL_2]

set_option maxRecDepth 100000 in
set_option maxHeartbeats 1000000 in
theorem awake_any (w : World) : Calls Try.prog 8 #[] w fun e w' => e = .returned (.bool true) ∧ Below w.heap.size w w' := by
  obtain ⟨w0, hw0⟩ : ∃ w0, w0 = w.alloc (.cells #[.slice none 0 0, .int .i64 0] 53) := ⟨_, rfl⟩
  have H0 : Hid (WrM w0 w.heap.size ([], 0)) := Lib.hid (by rw [hw0]; exact WrM.zero w)
  have Hb0 : Hid (Below w.heap.size w w0) := Lib.hid (by rw [hw0]; exact (Below.refl _ _).alloc (Nat.le_refl _) _)
  have Hst := Lib.hid awake_st
  have he : (bs [2, 1, 44, 1, 2, 97, 98]).toList = [2, 1, 44, 1, 2, 97, 98] := bs_toList _
  have Hab : Hid (({ data := #[97, 98] } : ByteArray) = abS) := Lib.hid rfl
  go_enter Try.func8, Try.ntmps8
  go_wp2_with fail
  rw [← hw0]
  refine (wnum_any 300 _ _ _ H0.out (by omega)).mono ?_
  rintro e w1 ⟨rfl, hw1, hb1⟩
  have H1 := Lib.hid hw1
  have Hb1 := Lib.hid (Hb0.out.trans hb1)
  clear hw1 hb1 hw0
  go_wp2_with fail
  rw [Hab.out]
  refine (wtext_any abS _ _ _ H1.out (Nat.le_of_lt (by decide))).mono ?_
  rintro e w2 ⟨rfl, hw2, hb2⟩
  rw [Hst.out] at hw2
  have H2 := Lib.hid hw2
  have Hb2 := Lib.hid (Hb1.out.trans hb2)
  clear hw2 hb2
  go_wp2_with fail
  refine (wbytes_any _ _ _ H2.out).mono ?_
  rintro e w3 ⟨rfl, hw3, hb3⟩
  have Hb3 := Lib.hid (Hb2.out.trans (hb3.mono Hb2.out.size))
  clear hw3 hb3
  go_wp2
  go_ret
  exact ⟨rfl, Hb3.out⟩

/-- A thing. -/
structure It where
  k : Int
  n : Int
  s : ByteArray
  b : Bool
/-- A thing that a program can hold. -/
def It.ok (x : It) : Prop := (-9223372036854775808 ≤ x.k ∧ x.k ≤ 9223372036854775807) ∧ (-9223372036854775808 ≤ x.n ∧ x.n ≤ 9223372036854775807) ∧ x.s.size ≤ 140737488355328
/-- The things that a slice's first cells bear. -/
def IRow (w : World) (A : Option Addr) (xs : List It) : Prop :=
  ∀ i x, xs[i]? = some x → ∃ b off, A = some (⟨b, off, none⟩ : Addr) ∧ b < w.heap.size ∧ w.cell? ⟨b, off + i * 4, none⟩ = some (.int .i64 x.k) ∧ w.cell? ⟨b, off + i * 4 + 1, none⟩ = some (.int .i64 x.n) ∧ w.cell? ⟨b, off + i * 4 + 2, none⟩ = some (.string x.s) ∧ w.cell? ⟨b, off + i * 4 + 3, none⟩ = some (.bool x.b)
theorem IRow.below {w w' : World} {A : Option Addr} {xs : List It} {B : Nat} (h : IRow w A xs) (hb : Below B w w') (hB : w.heap.size ≤ B) : IRow w' A xs := fun i x hx => by
  obtain ⟨b, off, hA, hl, h0, h1, h2, h3⟩ := h i x hx
  exact ⟨b, off, hA, Nat.lt_of_lt_of_le hl hb.size, by rw [hb.cell (by show b < B; omega)]; exact h0, by rw [hb.cell (by show b < B; omega)]; exact h1, by rw [hb.cell (by show b < B; omega)]; exact h2, by rw [hb.cell (by show b < B; omega)]; exact h3⟩
/-- A thing written. -/
def wrI (x : It) (st : WSt) : WSt := if x.k = 1 then wrT (bl x.s) st else if x.k = 2 then wrF x.b st else wrN x.n st
def wrAll (xs : List It) : WSt := xs.foldl (fun st x => wrI x st) ([], 0)
theorem wrAll_take (xs : List It) (i : Nat) (x : It) (h : xs[i]? = some x) : wrAll (xs.take (i + 1)) = wrI x (wrAll (xs.take i)) := by
  have e : xs.take (i + 1) = xs.take i ++ [x] := by
    obtain ⟨hl, rfl⟩ := List.getElem?_eq_some_iff.1 h
    rw [List.take_succ_eq_append_getElem hl]
  rw [e]
  unfold wrAll
  rw [List.foldl_append]; rfl

set_option maxRecDepth 100000 in
set_option maxHeartbeats 2000000 in
theorem put_all (xs : List It) (A : Option Addr) (n cap : Nat) (w : World) (hn : xs.length = n) (hr : IRow w A xs) (hok : ∀ x ∈ xs, x.ok) (hn2 : n ≤ 1000000) :
    Calls Try.prog 10 #[.slice A n cap] w fun e w' => e = .returned (.pointer (some ⟨w.heap.size, 0, none⟩)) ∧ WrM w' w.heap.size (wrAll xs) ∧ Below w.heap.size w w' := by
  obtain ⟨w0, hw0⟩ : ∃ w0, w0 = w.alloc (.cells #[.slice none 0 0, .int .i64 0] 53) := ⟨_, rfl⟩
  have H0 : Hid (WrM w0 w.heap.size ([], 0)) := Lib.hid (by rw [hw0]; exact WrM.zero w)
  have Hb0 : Hid (Below w.heap.size w w0) := Lib.hid (by rw [hw0]; exact (Below.refl _ _).alloc (Nat.le_refl _) _)
  have Hr := Lib.hid hr
  have Hok := Lib.hid hok
  have Hn := Lib.hid hn
  clear hr hok hn
  go_enter Try.func10, Try.ntmps10
  go_wp2
  rw [← hw0]
  clear hw0
  go_loopw [4, 9, 24, 33] (fun _ iv _ _ wr => ∃ i : Nat, i ≤ n ∧ iv = .int .i64 i ∧ WrM wr w.heap.size (wrAll (xs.take i)) ∧ Below w.heap.size w wr) (fun _ iv _ _ _ => n - (intOf iv).toNat)
  case atStart => exact ⟨0, by omega, rfl, H0.out, Hb0.out⟩
  case round =>
    clear H0 Hb0
    obtain ⟨i, hi, rfl, hwr, hb⟩ := hrel
    have Hwr := Lib.hid hwr
    have Hb := Lib.hid hb
    clear hwr hb
    by_cases hlt : i < n
    · obtain ⟨x, hx⟩ : ∃ x, xs[i]? = some x := ⟨_, List.getElem?_eq_getElem (by rw [Hn.out]; exact hlt)⟩
      have Htk := Lib.hid (wrAll_take xs i x hx)
      have Hxok := Lib.hid (Hok.out x (List.mem_of_getElem? hx))
      obtain ⟨b, off, rfl, hbl, c0, c1, c2, c3⟩ := Hr.out i x hx
      have d0 := (Hb.out.cell (p := ⟨b, off + i * 4, none⟩) hbl).trans c0
      have d1 := (Hb.out.cell (p := ⟨b, off + i * 4 + 1, none⟩) hbl).trans c1
      have d2 := (Hb.out.cell (p := ⟨b, off + i * 4 + 2, none⟩) hbl).trans c2
      have d3 := (Hb.out.cell (p := ⟨b, off + i * 4 + 3, none⟩) hbl).trans c3
      clear c0 c1 c2 c3 hx
      generalize wrAll (xs.take i) = st at *
      by_cases hk1 : x.k = 1
      · have Hst : Hid (wrAll (xs.take (i + 1)) = wrT (bl x.s) st) := Lib.hid (by rw [Htk.out]; exact if_pos hk1)
        go_wp2_with (go_at_call 14; refine (wtext_any x.s _ _ _ Hwr.out (by have := Hxok.out.2.2; omega)).mono ?_; rintro e w1 ⟨rfl, hw1, hb1⟩)
        go_roundw
        case rel => exact ⟨i + 1, by omega, by go_num, by rw [Hst.out]; exact hw1, Hb.out.trans hb1⟩
        case measure => simp [intOf]; omega
      · by_cases hk2 : x.k = 2
        · have Hst : Hid (wrAll (xs.take (i + 1)) = wrF x.b st) := Lib.hid (by rw [Htk.out]; unfold wrI; rw [if_neg hk1, if_pos hk2])
          go_wp2_with (go_at_call 15; refine (wflag_any x.b _ _ _ Hwr.out).mono ?_; rintro e w1 ⟨rfl, hw1, hb1⟩)
          go_roundw
          case rel => exact ⟨i + 1, by omega, by go_num, by rw [Hst.out]; exact hw1, Hb.out.trans hb1⟩
          case measure => simp [intOf]; omega
        · have Hst : Hid (wrAll (xs.take (i + 1)) = wrN x.n st) := Lib.hid (by rw [Htk.out]; unfold wrI; rw [if_neg hk1, if_neg hk2])
          go_wp2_with (go_at_call 13; refine (wnum_any x.n _ _ _ Hwr.out Hxok.out.2.1).mono ?_; rintro e w1 ⟨rfl, hw1, hb1⟩)
          go_roundw
          case rel => exact ⟨i + 1, by omega, by go_num, by rw [Hst.out]; exact hw1, Hb.out.trans hb1⟩
          case measure => simp [intOf]; omega
    · have hin : i = n := by omega
      have Hend : Hid (WrM wr w.heap.size (wrAll xs)) := Lib.hid (by
        have := Hwr.out
        rw [List.take_of_length_le (by rw [Hn.out, hin]; exact Nat.le_refl _)] at this
        exact this)
      clear Hwr hin
      go_wp2
      go_ret
      exact ⟨rfl, Hend.out, Hb.out⟩
end Go.Proofs.Ytdondonmggbmjaa
