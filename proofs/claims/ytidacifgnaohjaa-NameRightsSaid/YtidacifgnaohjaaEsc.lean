/-
  The contract of name's escape.
-/
import Derived.Test.YtidacifgnaohjaaRgt
import Derived.Test.YtidacifgnaohjaaOwn
namespace Go.Proofs.Ytidacifgnaohjaa
open Go.RowKit

theorem esc_length' (l : List UInt8) : (l.flatMap escB).length = 3 * l.length := by
  induction l with
  | nil => rfl
  | cons b l ih => rw [List.flatMap_cons, List.length_append, ih]; simp [escB]; omega

set_option maxRecDepth 100000 in
set_option maxHeartbeats 2000000 in
theorem escape_any (B b : Nat) (l : List UInt8) (s : ByteArray) (w : World) (hb : Bld B b l w) (hl : l.length ≤ 1000000) (hs : s.size ≤ 100000) (hB : B ≤ w.heap.size) :
    Calls Try.prog 21 #[.pointer (some ⟨b, 0, none⟩), .string s] w fun e w' => e = .returned (.tuple #[]) ∧ Bld B b (l ++ (bl s).flatMap escB) w' ∧ Below B w w' ∧ Kept b w w' := by
  have H0 := Lib.hid hb
  clear hb
  go_enter Try.func21, Try.ntmps21
  go_wp2
  go_loopw [7] (fun i wr => ∃ q : Nat, q ≤ s.size ∧ i = .int .i64 (q : Int) ∧ Bld B b (l ++ ((bl s).take q).flatMap escB) wr ∧ Below B w wr ∧ Kept b w wr) (fun i _ => s.size - (intOf i).toNat)
  case atStart => exact ⟨0, by omega, rfl, by rw [List.take_zero, List.flatMap_nil, List.append_nil]; exact H0.out, Below.refl _ _, Kept.refl _ _⟩
  case round =>
    obtain ⟨q, hq, rfl, h1, h2, h3⟩ := hrel
    obtain ⟨m, hm⟩ : ∃ m, l ++ ((bl s).take q).flatMap escB = m := ⟨_, rfl⟩
    rw [hm] at h1
    have Hm := Lib.hid hm
    have H1 := Lib.hid h1
    have H2 := Lib.hid h2
    have H3 := Lib.hid h3
    clear h1 h2 h3 hm
    by_cases hqz : q < s.size
    · have hqz' : (q : Int) < (s.size : Int) := by omega
      obtain ⟨x, hx⟩ : ∃ x, s[q] = x := ⟨_, rfl⟩
      have hxl := x.toNat_lt
      obtain ⟨p, hp⟩ : ∃ p : Nat, p = x.toNat / 16 := ⟨_, rfl⟩
      obtain ⟨y, hy⟩ : ∃ y : Nat, y = x.toNat % 16 := ⟨_, rfl⟩
      have hp1 : p < 16 := by omega
      have hq1 : y < 16 := by omega
      have hpi : (x.toNat : Int) / 16 = (p : Int) := by omega
      have hqi : (x.toNat : Int) % 16 = (y : Int) := by omega
      have hp2 : (p : Int) < 16 := by omega
      have hq2 : (y : Int) < 16 := by omega
      have hdp := digS_get p hp1
      have hdq := digS_get y hq1
      have Hesc : Hid (escB x = [92, hexB p, hexB y]) := Lib.hid (by unfold escB; rw [← hp, ← hy])
      have Htk : Hid (l ++ ((bl s).take (q + 1)).flatMap escB = m ++ [92] ++ [hexB p] ++ [hexB y]) := Lib.hid (by
        have hdq : (bl s).getD q 0 = x := by rw [← bl_get s q hqz, hx]
        rw [take_snoc _ q (by rw [bl_length]; omega) 0, List.flatMap_append, hdq, ← Hm.out, ← List.append_assoc]
        simp [Hesc.out])
      clear hp hy
      have Hsz : Hid (m.length ≤ 1300000) := Lib.hid (by
        have : (bl s).length = s.size := bl_length s
        rw [← Hm.out, List.length_append, esc_length', List.length_take]; omega)
      go_wp2_with fail
      refine (wbyte_any B b m 92 wr H1.out (by have := Hsz.out; omega) (Nat.le_trans hB H2.out.size)).mono ?_
      rintro e w1 ⟨rfl, h1, h2, h3⟩
      have H4 := Lib.hid h1
      have H5 := Lib.hid (H2.out.trans (h2))
      have H6 := Lib.hid (H3.out.trans h3)
      clear h1 h2 h3 H1 H2 H3
      go_wp2_with fail
      refine (wbyte_any B b _ (hexB p) w1 H4.out (by have := Hsz.out; simp; omega) (Nat.le_trans hB H5.out.size)).mono ?_
      rintro e w2 ⟨rfl, h1, h2, h3⟩
      have H7 := Lib.hid h1
      have H8 := Lib.hid (H5.out.trans h2)
      have H9 := Lib.hid (H6.out.trans h3)
      clear h1 h2 h3 H4 H5 H6
      go_wp2_with fail
      refine (wbyte_any B b _ (hexB y) w2 H7.out (by have := Hsz.out; simp; omega) (Nat.le_trans hB H8.out.size)).mono ?_
      rintro e w3 ⟨rfl, h1, h2, h3⟩
      rw [← Htk.out] at h1
      have H10 := Lib.hid h1
      have H11 := Lib.hid (H8.out.trans h2)
      have H12 := Lib.hid (H9.out.trans h3)
      clear h1 h2 h3 H7 H8 H9
      go_wp2
      go_roundw
      case rel => exact ⟨q + 1, by omega, by go_num, H10.out, H11.out, H12.out⟩
      case measure => simp [intOf]; omega
    · obtain rfl : q = s.size := by omega
      have Hfin : Hid (m = l ++ (bl s).flatMap escB) := Lib.hid (by rw [← Hm.out, List.take_of_length_le (by rw [bl_length]; omega)])
      rw [Hfin.out] at H1
      go_wp2
      go_end0
      exact ⟨rfl, H1.out, H2.out, H3.out⟩
end Go.Proofs.Ytidacifgnaohjaa
