/-
  The contract of exchequerref03.Number: a number's encoding.
-/
import Derived.Test.YtmgbmphheagdmaaGreatDoorGen
import Derived.Test.YtmgbmphheagdmaaGreatDoorWA
namespace Go.Proofs.YtmgbmphheagdmaaGreatDoor
open Go.RowKit

/-- A text of one byte. -/
def oneB (c : Nat) : ByteArray := bs [UInt8.ofNat c]
theorem oneB_size (c : Nat) : (oneB c).size = 1 := by unfold oneB; rw [bs_size]; rfl
theorem oneB_bl (c : Nat) : bl (oneB c) = [UInt8.ofNat c] := by unfold oneB; rw [bl_bs]
theorem conv_one (w : World) (c : Nat) (h : c < 256) : (convert 66 9 (.slice (some ⟨w.heap.size, 0, none⟩) 1 1)).run Tryz.prog (w.alloc (.cells #[.int .u8 (c : Int)] 5)) = .ok (.string (oneB c)) (w.alloc (.cells #[.int .u8 (c : Int)] 5)) := by
  refine conv_row (l := [UInt8.ofNat c]) (rest := []) (t := 5) ?_ 1 1 rfl
  have e : (UInt8.ofNat c).toNat = c := by rw [UInt8.toNat_ofNat']; omega
  have := Holds.new w 5 #[.int .u8 (c : Int)]
  rw [byC_eq]
  simpa [e] using this

set_option maxRecDepth 100000 in
set_option maxHeartbeats 1000000 in
theorem refnum_any (n : Nat) (w : World) (hn : n < 9223372036854775808) :
    Calls Tryz.prog 67 #[.int .i64 n] w fun e w' => e = .returned (.string (bs (encL n))) ∧ Below w.heap.size w w' := by
  have H8 := Lib.hid (beL_len8 n (by omega))
  go_enter Tryz.func67, Tryz.ntmps67
  go_wp2
  go_loopw [0, 3, 4] (fun nv sv jv wr => ∃ (m : Nat) (s : ByteArray), nv = .int .i64 m ∧ sv = .string s ∧ jv = .int .i64 s.size ∧ beL n = beL m ++ bl s ∧ m ≤ n ∧ Below w.heap.size w wr) (fun nv _ _ _ => (intOf nv).toNat)
  case atStart => exact ⟨n, { data := #[] }, rfl, rfl, rfl, by rw [bl_eq]; simp, Nat.le_refl _, Below.refl _ _⟩
  case round =>
    obtain ⟨m, s, rfl, rfl, rfl, hbe, hmn, hb⟩ := hrel
    have Hbe := Lib.hid hbe
    have Hb := Lib.hid hb
    have hs8 : s.size ≤ 8 := by
      have := congrArg List.length hbe
      rw [List.length_append, bl_length] at this
      have := H8.out
      omega
    clear hbe hb
    by_cases hm : 0 < m
    · have hm' : (0 : Int) < (m : Int) := by omega
      obtain ⟨c, hc⟩ : ∃ c, c = m % 256 := ⟨_, rfl⟩
      have hmod : ((m : Int)).tmod 256 = (c : Int) := by rw [Int.tmod_eq_emod_of_nonneg (by omega)]; omega
      have hc256 : c < 256 := by omega
      obtain ⟨q, hq⟩ : ∃ q, q = m / 256 := ⟨_, rfl⟩
      have hdiv : ((m : Int)).tdiv 256 = (q : Int) := by rw [Int.tdiv_eq_ediv_of_nonneg (by omega)]; omega
      have hqm : q < m := by omega
      have Hstep : Hid (beL m = beL q ++ [UInt8.ofNat c]) := Lib.hid (by rw [hq, hc]; exact beL_step m (by omega))
      have hconv := conv_one wr c hc256
      have hone := oneB_size c
      have Hob := Lib.hid (oneB_bl c)
      clear hc hq
      generalize oneB c = o at *
      go_wp2
      go_roundw
      case rel => exact ⟨q, o ++ s, rfl, rfl, by rw [ByteArray.size_append, hone]; go_num, by rw [Hbe.out, Hstep.out, bl_append, Hob.out, List.append_assoc], by omega, Hb.out.alloc (by exact Hb.out.size) _⟩
      case measure => simp [intOf]; omega
    · obtain rfl : m = 0 := by omega
      have hc8 : s.size < 256 := by omega
      have hconv := conv_one wr s.size hc8
      have hone := oneB_size s.size
      have Henc : Hid (bs (encL n) = oneB s.size ++ s) := Lib.hid (by
        have e : beL n = bl s := by rw [Hbe.out, beL_zero, List.nil_append]
        unfold encL oneB
        rw [e, bl_length, ← bs_bl s, bs_append, bs_bl]; rfl)
      have Hend : Hid (Below w.heap.size w (wr.alloc (.cells #[.int .u8 (s.size : Int)] 5))) := Lib.hid (Hb.out.alloc Hb.out.size _)
      clear Hbe hm
      generalize oneB s.size = o at *
      go_wp2
      go_ret
      exact ⟨by rw [Henc.out]; rfl, Hend.out⟩
end Go.Proofs.YtmgbmphheagdmaaGreatDoor
