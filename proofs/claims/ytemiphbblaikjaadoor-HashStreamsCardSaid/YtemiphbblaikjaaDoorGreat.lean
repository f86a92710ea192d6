/-
  The contract of the laws' great: more than a hundred texts, or more than 2000 bytes?
-/
import Derived.Test.YtemiphbblaikjaaDoorJoin
namespace Go.Proofs.YtemiphbblaikjaaDoor
open Go.RowKit
def greatB (ss : List ByteArray) : Bool := decide (100 < ss.length ∨ 2000 < (cat ss).length)
theorem greatB_true {ss : List ByteArray} (h : 100 < ss.length ∨ 2000 < (cat ss).length) : greatB ss = true := decide_eq_true h
theorem greatB_false {ss : List ByteArray} (h : ss.length ≤ 100) (h2 : (cat ss).length ≤ 2000) : greatB ss = false := decide_eq_false (by omega)
theorem greatB_small {ss : List ByteArray} (h : greatB ss = false) : ss.length ≤ 100 ∧ (cat ss).length ≤ 2000 := by
  have := of_decide_eq_false h
  omega
theorem cat_more (ss : List ByteArray) (k : Nat) (h : k < ss.length) : (cat (ss.take k)).length + (ss.getD k ByteArray.empty).size ≤ (cat ss).length := by
  have := cat_le ss (k + 1)
  rw [cat_take ss k h, List.length_append, bl_length] at this
  exact this

set_option maxRecDepth 100000 in
set_option maxHeartbeats 1000000 in
theorem great_any (ss : List ByteArray) (A : Option Addr) (n cap : Nat) (w : World) (hs : SRow w A n ss) (_ : n ≤ maxLen) (hz : ∀ s ∈ ss, s.size ≤ maxLen) :
    Calls Tryd.prog 12 #[.slice A n cap] w fun e w' => e = .returned (.bool (greatB ss)) ∧ w' = w := by
  have Hs := Lib.hid hs
  clear hs
  have hmx : maxLen ≤ 9223372036854775807 := by unfold maxLen; omega
  go_enter Tryd.func12, Tryd.ntmps12
  go_wp2
  go_loop [3, 7] (fun nv iv => ∃ k : Nat, k ≤ n ∧ iv = .int .i64 k ∧ nv = .int .i64 ((cat (ss.take k)).length : Nat) ∧ k ≤ 100 ∧ (cat (ss.take k)).length ≤ 2000) (fun _ iv => n - (intOf iv).toNat)
  case atStart => exact ⟨0, by omega, rfl, by simp [cat], by omega, by simp [cat]⟩
  case round =>
    obtain ⟨k, hk, rfl, rfl, hk100, hc⟩ := hrel
    by_cases hlt : k < n
    · obtain ⟨b, off, rfl, hbl, hcell⟩ := Hs.out.2 k hlt
      have Hcat := Lib.hid (cat_take ss k (by rw [Hs.out.1]; exact hlt))
      have hmore := cat_more ss k (by rw [Hs.out.1]; exact hlt)
      have Hlen : Hid (ss.length = n) := Lib.hid Hs.out.1
      have hts : (ss.getD k ByteArray.empty).size ≤ maxLen := by
        rw [List.getD_eq_getElem?_getD, List.getElem?_eq_getElem (by rw [Hs.out.1]; exact hlt)]
        exact hz _ (List.getElem_mem _)
      have Hmore := Lib.hid hmore
      clear hmore hz
      generalize ss.getD k ByteArray.empty = t at *
      obtain ⟨N, hN⟩ : ∃ N, N = (cat (ss.take k)).length := ⟨_, rfl⟩
      rw [← hN] at Hmore hc ⊢
      have HN := Lib.hid hN
      clear hN
      have hg0 : (100 : Int) ≤ (k : Int) ↔ 100 ≤ k := by omega
      by_cases h1 : 100 ≤ k
      · go_wp2
        go_ret
        exact ⟨by rw [greatB_true (.inl (by rw [Hlen.out]; omega))]; rfl, rfl⟩
      · by_cases h2 : 2000 < t.size
        · go_wp2
          go_ret
          exact ⟨by rw [greatB_true (.inr (by have := Hmore.out; omega))]; rfl, rfl⟩
        · by_cases h3 : 2000 < N + t.size
          · have h3i : (2000 : Int) < (N : Int) + (t.size : Int) := by omega
            go_wp2
            go_ret
            exact ⟨by rw [greatB_true (.inr (by have := Hmore.out; omega))]; rfl, rfl⟩
          · have h3i : ¬ (2000 : Int) < (N : Int) + (t.size : Int) := by omega
            have Hn2 : Hid ((cat (ss.take (k + 1))).length = N + t.size) := Lib.hid (by rw [Hcat.out, List.length_append, bl_length, ← HN.out])
            go_wp2
            go_round
            case rel => exact ⟨k + 1, by omega, by go_num, by rw [Hn2.out]; go_num, by omega, by rw [Hn2.out]; omega⟩
            case measure => simp [intOf]; omega
    · have hkn : k = n := by omega
      have Hf : Hid (greatB ss = false) := Lib.hid (greatB_false (by rw [Hs.out.1]; omega) (by rw [List.take_of_length_le (by rw [Hs.out.1]; omega)] at hc; exact hc))
      go_wp2
      go_ret
      exact ⟨by rw [Hf.out]; rfl, rfl⟩
end Go.Proofs.YtemiphbblaikjaaDoor
