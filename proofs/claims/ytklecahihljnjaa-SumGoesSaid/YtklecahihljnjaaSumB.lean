/-
  awake, and the law SumPieces.
-/
import Derived.Test.YtklecahihljnjaaSumA
import Derived.Lib.SlBytesConst
import Derived.ProofKit
namespace Go.Proofs.Ytklecahihljnjaa
open Go.RowKit

theorem awake_sum : moreI 0 [49, 50, 51, 52, 53, 54, 55, 56, 57] = 3421780262 := by
  unfold moreI; decide +kernel

theorem awake_row (w : World) (f : Nat × Nat) : Row8 (w.alloc (.cells #[.int .u8 49, .int .u8 50, .int .u8 51, .int .u8 52, .int .u8 53, .int .u8 54, .int .u8 55, .int .u8 56, .int .u8 57] 5 f)) (some ⟨w.heap.size, 0, none⟩) [49, 50, 51, 52, 53, 54, 55, 56, 57] := by
  refine ⟨by decide, by decide, .inr ⟨_, _, rfl, ?_⟩⟩
  intro i hi
  simp only [List.length_cons, List.length_nil] at hi
  have : i = 0 ∨ i = 1 ∨ i = 2 ∨ i = 3 ∨ i = 4 ∨ i = 5 ∨ i = 6 ∨ i = 7 ∨ i = 8 := by omega
  rcases this with rfl | rfl | rfl | rfl | rfl | rfl | rfl | rfl | rfl <;> (rw [World.cell?_alloc_mark]; simp)

set_option maxHeartbeats 400000 in
theorem awake_any (w : World) : Calls Try.prog 8 #[] w fun e w' => e = .returned (.bool true) ∧ Below w.heap.size w w' := by
  have kc := fun (w : World) (C : Array Value) (n c : Nat) => Lib.run_convert_bytes_const (P := Try.prog) w 22 5 C n c Try.underlying22 Try.underlying5
  have hsum := Lib.hid awake_sum
  go_enter Try.func8, Try.ntmps8
  go_wp2_with fail
  refine (of_any _ _ _ [49, 50, 51, 52, 53, 54, 55, 56, 57] _ rfl (awake_row _ _)).mono ?_
  rintro e w' ⟨rfl, rfl⟩
  rw [hsum.out]
  go_wp2
  go_ret
  exact ⟨rfl, (Below.refl _ _).alloc (Nat.le_refl _) _⟩

/-- A cut of a row. -/
theorem Row8.sub {w : World} {b off : Nat} {l : List Int} (h : Row8 w (some ⟨b, off, none⟩) l) (i j : Nat) (hi : i ≤ j) (hj : j ≤ l.length) :
    Row8 w (some ⟨b, off + i, none⟩) ((l.drop i).take (j - i)) := by
  obtain ⟨h1, h2, h3⟩ := h
  refine ⟨fun c hc => h1 c (List.mem_of_mem_drop (List.mem_of_mem_take hc)), by simp; omega, .inr ⟨b, off + i, rfl, ?_⟩⟩
  intro k hk
  rcases h3 with rfl | ⟨b', off', he, hc⟩
  · simp at hk
  · obtain ⟨rfl, rfl⟩ : b = b' ∧ off = off' := by simpa using he
    have hk' : k < j - i := by simp at hk; omega
    rw [show off + i + k = off + (i + k) by omega, hc (i + k) (by omega)]
    rw [List.getD_eq_getElem?_getD, List.getD_eq_getElem?_getD, List.getElem?_take_of_lt hk', List.getElem?_drop]

theorem Row8.later {w w' : World} {a : Option Addr} {l : List Int} (h : Row8 w a l) (hb : Below w.heap.size w w') : Row8 w' a l := by
  obtain ⟨h1, h2, h3⟩ := h
  refine ⟨h1, h2, h3.imp id ?_⟩
  rintro ⟨b, off, e, hc⟩
  exact ⟨b, off, e, fun i hi => cell_later hb (hc i hi)⟩

theorem row8_nil (w : World) (a : Option Addr) : Row8 w a [] := ⟨by simp, by simp, .inl rfl⟩

theorem take_cut (l : List Int) (i j : Nat) (h : i ≤ j) : l.take i ++ (l.drop i).take (j - i) = l.take j := by
  have := List.take_add (l := l) (i := i) (j := j - i)
  rw [show i + (j - i) = j by omega] at this
  exact this.symm

set_option maxHeartbeats 1000000 in
theorem pieces_row (b off len cap : Nat) (l : List Int) (ac : Option Addr) (lc cc : Nat) (w : World) (hl : l.length = len) (hcap : len ≤ cap) (hrow : Row8 w (some ⟨b, off, none⟩) l)
    (hlc : lc ≤ 9223372036854775807) (hcc : ∀ i, i < lc → ∃ b' off', ac = some ⟨b', off', none⟩ ∧ ∃ c : Int, w.cell? ⟨b', off' + i, none⟩ = some (.int .i64 c) ∧ -9223372036854775808 ≤ c ∧ c ≤ 9223372036854775807) (hlen : len ≤ 100000) :
    Calls Try.prog 5 #[.slice (some ⟨b, off, none⟩) len cap, .slice ac lc cc] w fun e w' => e = .returned (.bool true) ∧ Below w.heap.size w w' := by
  have Hl := Lib.hid hl
  have Hrow := Lib.hid hrow
  have Hcc := Lib.hid hcc
  have hz := Lib.hid (moreI_nil 0 (by omega) (by omega))
  clear hl hrow hcc
  have hlen' : decide (100000 < (len : Int)) = false := by simp; omega
  go_enter Try.func5, Try.ntmps5
  go_wp2_with (go_at_call 8; refine (awake_any _).mono ?_; rintro e w' ⟨rfl, hb⟩)
  have HR := Lib.hid (Hrow.out.later hb)
  go_loop [5, 6, 8, 16] (fun t a _ i => ∃ k j : Nat, k ≤ lc ∧ j ≤ len ∧ i = .int .i64 k ∧ a = .int .i64 j ∧ t = .int .u32 (moreI 0 (l.take j))) (fun _ _ _ i => lc - (intOf i).toNat)
  case atStart => exact ⟨0, 0, by omega, by omega, rfl, rfl, by rw [List.take_zero, hz.out]⟩
  case round =>
    obtain ⟨k, j, hk, hj, rfl, rfl, rfl⟩ := hrel
    obtain ⟨b1, b2⟩ := moreI_bd 0 (l.take j)
    by_cases hlt : k < lc
    · obtain ⟨b', off', rfl, c, hcell0, c0, c1⟩ := Hcc.out k hlt
      have hcell := cell_later hb hcell0
      clear hcell0
      by_cases h1 : (j : Int) < c
      · by_cases h2 : c < len
        · obtain ⟨n, rfl⟩ := Int.eq_ofNat_of_zero_le (a := c) (by omega)
          have hn : n ≤ len := by omega
          have Hm := Lib.hid (moreI_append 0 (l.take j) ((l.drop j).take (n - j)))
          have Hs := Lib.hid (HR.out.sub j n (by omega) (by rw [Hl.out]; exact hn))
          go_wp2_with fail
          refine (more_any _ _ _ _ ((l.drop j).take (n - j)) _ b1 b2 ?_ Hs.out).mono ?_
          · have := Hl.out; simp; omega
          rintro e w1 ⟨rfl, rfl⟩
          rw [Hm.out, take_cut _ _ _ (by omega)]
          go_wp2
          go_round
          case rel => exact ⟨k + 1, n, by omega, hn, by go_num, rfl, rfl⟩
          case measure => simp [intOf]; omega
        · go_wp2
          go_round
          case rel => exact ⟨k + 1, j, by omega, hj, by go_num, rfl, rfl⟩
          case measure => simp [intOf]; omega
      · go_wp2
        go_round
        case rel => exact ⟨k + 1, j, by omega, hj, by go_num, rfl, rfl⟩
        case measure => simp [intOf]; omega
    · obtain rfl : k = lc := by omega
      have Hm := Lib.hid (moreI_append 0 (l.take j) (l.drop j))
      have Hs := Lib.hid (HR.out.sub j len hj (by rw [Hl.out]; omega))
      have Hd : Hid ((l.drop j).take (len - j) = l.drop j) := Lib.hid (List.take_of_length_le (by rw [List.length_drop, Hl.out]; omega))
      go_wp2_with fail
      · refine (more_any _ _ _ _ (l.drop j) _ b1 b2 ?_ ?_).mono ?_
        · rw [List.length_drop, Hl.out]
        · rw [show l.drop j = [] from List.drop_of_length_le (by rw [Hl.out]; omega)]; exact row8_nil _ _
        rintro e w1 ⟨rfl, rfl⟩
        rw [Hm.out, List.take_append_drop]
        go_wp2_with fail
        refine (of_any _ _ _ l _ Hl.out HR.out).mono ?_
        rintro e w1 ⟨rfl, rfl⟩
        go_wp2
        go_ret
        exact ⟨rfl, hb⟩
      · refine (more_any _ _ _ _ (l.drop j) _ b1 b2 ?_ ?_).mono ?_
        · rw [List.length_drop, Hl.out]
        · have := Hs.out; rw [Hd.out] at this; exact this
        rintro e w1 ⟨rfl, rfl⟩
        rw [Hm.out, List.take_append_drop]
        go_wp2_with fail
        refine (of_any _ _ _ l _ Hl.out HR.out).mono ?_
        rintro e w1 ⟨rfl, rfl⟩
        go_wp2
        go_ret
        exact ⟨rfl, hb⟩

set_option maxHeartbeats 1000000 in
theorem pieces_nil (a : Option Addr) (cap : Nat) (ac : Option Addr) (lc cc : Nat) (w : World) (hlc : lc ≤ 9223372036854775807) (hcc : ∀ i, i < lc → ∃ b' off', ac = some ⟨b', off', none⟩ ∧ ∃ c : Int, w.cell? ⟨b', off' + i, none⟩ = some (.int .i64 c) ∧ -9223372036854775808 ≤ c ∧ c ≤ 9223372036854775807) :
    Calls Try.prog 5 #[.slice a 0 cap, .slice ac lc cc] w fun e w' => e = .returned (.bool true) ∧ Below w.heap.size w w' := by
  have Hcc := Lib.hid hcc
  have hz := Lib.hid (moreI_nil 0 (by omega) (by omega))
  clear hcc
  go_enter Try.func5, Try.ntmps5
  go_wp2_with (go_at_call 8; refine (awake_any _).mono ?_; rintro e w' ⟨rfl, hb⟩)
  go_loop [5, 6, 8, 16] (fun t a _ i => ∃ k : Nat, k ≤ lc ∧ i = .int .i64 k ∧ a = .int .i64 0 ∧ t = .int .u32 0) (fun _ _ _ i => lc - (intOf i).toNat)
  case atStart => exact ⟨0, by omega, rfl, rfl, rfl⟩
  case round =>
    obtain ⟨k, hk, rfl, rfl, rfl⟩ := hrel
    by_cases hlt : k < lc
    · obtain ⟨b', off', rfl, c, hcell0, c0, c1⟩ := Hcc.out k hlt
      have hcell := cell_later hb hcell0
      clear hcell0
      by_cases h1 : 0 < c
      · have h2 : ¬ c < 0 := by omega
        go_wp2
        go_round
        case rel => exact ⟨k + 1, by omega, by go_num, rfl, rfl⟩
        case measure => simp [intOf]; omega
      · go_wp2
        go_round
        case rel => exact ⟨k + 1, by omega, by go_num, rfl, rfl⟩
        case measure => simp [intOf]; omega
    · obtain rfl : k = lc := by omega
      go_wp2_with fail
      refine (more_any _ _ _ _ [] _ (by omega) (by omega) rfl (row8_nil _ _)).mono ?_
      rintro e w1 ⟨rfl, rfl⟩
      rw [hz.out]
      go_wp2_with fail
      refine (of_any _ _ _ [] _ rfl (row8_nil _ _)).mono ?_
      rintro e w1 ⟨rfl, rfl⟩
      rw [hz.out]
      go_wp2
      go_ret
      exact ⟨rfl, hb⟩

/-- Too long a text: nothing is asked. -/
theorem pieces_long (a : Option Addr) (len cap : Nat) (ac : Option Addr) (lc cc : Nat) (w : World) (hlen : ¬ len ≤ 100000) :
    Calls Try.prog 5 #[.slice a len cap, .slice ac lc cc] w fun e w' => e = .returned (.bool true) ∧ Below w.heap.size w w' := by
  have hl : (100000 : Int) < len := by omega
  go_enter Try.func5, Try.ntmps5
  go_wp2_with (go_at_call 8; refine (awake_any _).mono ?_; rintro e w' ⟨rfl, hb⟩)
  go_ret
  exact ⟨rfl, hb⟩
end Go.Proofs.Ytklecahihljnjaa
