/-
  The contract of pack.encoded: a number's encoding in a row of the call's own.
-/
import Derived.Test.YtdondonmggbmjaaStr
import Derived.Test.YtdondonmggbmjaaMath
import Derived.Test.YtdondonmggbmjaaLen
namespace Go.Proofs.Ytdondonmggbmjaa
open Go.RowKit

/-- The nine bytes of 'encoded' when the last j of the number's k bytes stand there. -/
def encT (n j : Nat) : List UInt8 := UInt8.ofNat (beL n).length :: ((List.replicate ((beL n).length - j) 0 ++ (beL n).drop ((beL n).length - j)) ++ List.replicate (8 - (beL n).length) 0)
theorem encT_length (n j : Nat) (h : (beL n).length ≤ 8) (hj : j ≤ (beL n).length) : (encT n j).length = 9 := by
  simp [encT]; omega
theorem encT_end (n : Nat) : encT n (beL n).length = encL n ++ List.replicate (8 - (beL n).length) 0 := by
  simp [encT, encL]
theorem encT_zero (n : Nat) (h : (beL n).length ≤ 8) : encT n 0 = UInt8.ofNat (beL n).length :: List.replicate 8 0 := by
  unfold encT
  rw [Nat.sub_zero, List.drop_of_length_le (Nat.le_refl _), List.append_nil, List.replicate_append_replicate, Nat.add_sub_cancel' h]
theorem encT_set (n j : Nat) (h : j < (beL n).length) (v : Int) (hv : v = ((n / 256 ^ j % 256 : Nat) : Int)) : (byC (encT n j)).set ((beL n).length - j) (.int .u8 v) = byC (encT n (j + 1)) := by
  have hat := beL_at n j h
  unfold encT
  generalize beL n = l at *
  have hd : l.drop (l.length - (j + 1)) = l.getD (l.length - 1 - j) 0 :: l.drop (l.length - j) := by
    rw [List.drop_eq_getElem_cons (show l.length - (j + 1) < l.length by omega), show l.length - (j + 1) + 1 = l.length - j by omega]
    congr 1
    rw [List.getD_eq_getElem?_getD, List.getElem?_eq_getElem (by omega)]
    simp only [Option.getD_some]
    congr 1
    omega
  rw [hd, show l.length - j = (l.length - (j + 1)) + 1 by omega, List.replicate_succ']
  generalize l.length - (j + 1) = m
  rw [byC_eq, byC_eq, List.map_cons, List.map_cons, List.set_cons_succ, List.map_append, List.map_append, List.map_append, List.map_append, List.map_append]
  rw [List.set_append_left _ _ (by simp), List.set_append_left _ _ (by simp), List.set_append_right _ _ (by simp)]
  rw [List.getD_eq_getElem?_getD] at hat
  simp only [hv, ← hat]
  simp

set_option maxRecDepth 100000 in
set_option maxHeartbeats 1000000 in
theorem encoded_any (n : Nat) (w : World) (hn : n < 9223372036854775808) :
    Calls Try.prog 31 #[.int .i64 n] w fun e w' => e = .returned (.slice (some ⟨w.heap.size, 0, none⟩) (encL n).length (encL n).length) ∧ Holds w' w.heap.size 65 (byC (encL n ++ List.replicate (8 - (beL n).length) 0)) ∧ Below w.heap.size w w' := by
  obtain ⟨k, hk⟩ : ∃ k, k = (beL n).length := ⟨_, rfl⟩
  obtain ⟨B, hB⟩ : ∃ B, B = Lib.bitLen n := ⟨_, rfl⟩
  have h8 : k ≤ 8 := by rw [hk]; exact beL_len8 n (by omega)
  have h64 : B ≤ 64 := by rw [hB]; exact Lib.bitLen_le n 64 (Nat.le_refl _) (by omega)
  have hbits : k = (B + 7) / 8 := by rw [hk, hB]; exact beL_bits n (by omega)
  have hdiv : ((B : Int) + 7).tdiv 8 = (k : Int) := by rw [Int.tdiv_eq_ediv_of_nonneg (by omega)]; omega
  have HB := Lib.hid hB
  have HK := Lib.hid hk
  clear hB hk hbits
  have Hlen : Hid ((encL n).length = 1 + k) := Lib.hid (by rw [encL_length, HK.out]; omega)
  have H0 : Hid (Holds (w.alloc (Obj.cells #[.int .u8 ((k : Int)), .int .u8 0, .int .u8 0, .int .u8 0, .int .u8 0, .int .u8 0, .int .u8 0, .int .u8 0, .int .u8 0] 65)) w.heap.size 65 (byC (encT n 0))) := Lib.hid (by
    have e : byC (encT n 0) = [.int .u8 ((k : Int)), .int .u8 0, .int .u8 0, .int .u8 0, .int .u8 0, .int .u8 0, .int .u8 0, .int .u8 0, .int .u8 0] := by
      rw [encT_zero n (by rw [← HK.out]; exact h8), byC_eq, ← HK.out]
      have : (UInt8.ofNat k).toNat = k := by rw [UInt8.toNat_ofNat']; omega
      simp [this, List.replicate]
    rw [e]
    exact Holds.new w 65 _)
  have Hb0 : Hid (Below w.heap.size w (w.alloc (Obj.cells #[.int .u8 ((k : Int)), .int .u8 0, .int .u8 0, .int .u8 0, .int .u8 0, .int .u8 0, .int .u8 0, .int .u8 0, .int .u8 0] 65))) := Lib.hid ((Below.refl _ _).alloc (Nat.le_refl _) _)
  go_enter Try.func31, Try.ntmps31
  go_wp2_with (go_at_call 37; refine (len_any n _ (by omega)).mono ?_; rintro e w' ⟨rfl, rfl⟩; rw [← HB.out])
  go_loopw [5, 15] (fun _ c wr => ∃ j : Nat, j ≤ k ∧ c = .int .i64 j ∧ Holds wr w.heap.size 65 (byC (encT n j)) ∧ Below w.heap.size w wr) (fun _ c _ => k - (intOf c).toNat)
  case atStart => exact ⟨0, by omega, rfl, H0.out, Hb0.out⟩
  case round =>
    clear H0 Hb0
    obtain ⟨j, hj, rfl, hh, hb⟩ := hrel
    have Hh := Lib.hid hh
    have Hb := Lib.hid hb
    clear hh hb
    by_cases hlt : j < k
    · have hcell := Holds.cell Hh.out (byC_at (l := encT n j) (i := k - j) (by rw [encT_length n j (by rw [← HK.out]; exact h8) (by rw [← HK.out]; exact hj)]; omega))
      have hfr := Holds.frozen Hh.out (k - j)
      have hidx : ((k : Int) - j).toNat = k - j := by omega
      have hge : (0 : Int) ≤ (k : Int) - j := by omega
      have hle : (k : Int) - j < 9 := by omega
      have Hset : Hid ((byC (encT n j)).set (k - j) (.int .u8 ((n : Int) / 2 ^ (8 * j) % 256)) = byC (encT n (j + 1))) := Lib.hid (by
        rw [HK.out]
        refine encT_set n j (by rw [← HK.out]; exact hlt) _ ?_
        rw [show (256 : Nat) = 2 ^ 8 from rfl, ← Nat.pow_mul]
        push_cast
        rfl)
      go_wp2
      go_roundw
      case rel => exact ⟨j + 1, by omega, by go_num, by rw [← Hset.out]; exact Holds.set Hh.out _ _, Hb.out.setCell (Nat.le_refl _) _⟩
      case measure => simp [intOf]; omega
    · have h9 : (1 : Int) + k ≤ 9 := by omega
      have h01 : (0 : Int) ≤ 1 + k := by omega
      have Hend : Hid (Holds wr w.heap.size 65 (byC (encL n ++ List.replicate (8 - (beL n).length) 0))) := Lib.hid (by
        rw [← encT_end, ← HK.out]
        have : k = j := by omega
        rw [this]; exact Hh.out)
      clear Hh
      go_wp2
      go_ret
      exact ⟨by rw [Hlen.out]; rfl, Hend.out, Hb.out⟩
end Go.Proofs.Ytdondonmggbmjaa
