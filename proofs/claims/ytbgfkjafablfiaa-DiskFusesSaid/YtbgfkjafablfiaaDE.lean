/-
  The contract of kept.
-/
import Derived.Test.YtbgfkjafablfiaaDD
namespace Go.Proofs.Ytbgfkjafablfiaa
open Go.RowKit Go.Maps

set_option maxRecDepth 100000 in
set_option maxHeartbeats 2000000 in
theorem kept_m (keep : List Int) (A : Option Addr) (kl kc : Nat) (w : World) (hl : keep.length = kl) (hrow : RowAt w A (intC keep)) (hI : ∀ x ∈ keep, I64 x) (hkl : kl ≤ 9223372036854775807) (i m : Nat) (_ : i ≤ 1000000) (hm : m ≤ 1000000000) :
    Calls Try.prog 38 #[.slice A kl kc, .int .i64 (i : Int), .int .i64 (m : Int)] w fun e w' => e = .returned (.int .i64 (keepN keep i m : Nat)) ∧ w' = w := by
  by_cases h0 : keep = []
  · subst h0
    obtain rfl : kl = 0 := hl.symm
    have hv : keepN [] i m = 0 := by simp [keepN]
    rw [hv]
    clear hv hrow hI hl
    go_enter Try.func38, Try.ntmps38
    go_wp2
    go_ret
    exact ⟨rfl, rfl⟩
  · have hkp : 0 < kl := by rw [← hl]; exact List.length_pos_iff.2 h0
    have hlt : i % kl < kl := Nat.mod_lt _ hkp
    obtain ⟨x, hx⟩ : ∃ x, keep[i % kl]? = some x := ⟨_, List.getElem?_eq_getElem (by omega)⟩
    obtain ⟨b, off, rfl, hbl, hc⟩ := hrow (i % kl) (.int .i64 x) (by simp [intC, hx])
    obtain ⟨hx1, hx2⟩ := hI x (List.mem_of_getElem? hx)
    have hv : keepN keep i m = (x % 18446744073709551616).toNat % (m + 1) := by
      unfold keepN
      rw [if_neg h0, hl, List.getD_eq_getElem?_getD, hx]; rfl
    rw [hv]
    have hne : ((kl : Int) == 0) = false := by simp; omega
    have hrem : (i : Int).tmod (kl : Int) = ((i % kl : Nat) : Int) := rfl
    generalize hj : i % kl = j at *
    clear hv hrow hI hl hx h0 hj
    go_enter Try.func38, Try.ntmps38
    go_wp2
    go_ret
    refine ⟨?_, rfl⟩
    have e1 : IntKind.u64.wrap x = x % 18446744073709551616 := rfl
    have e2 : (x % 18446744073709551616).tmod ((m : Int) + 1) = (((x % 18446744073709551616).toNat % (m + 1) : Nat) : Int) := by
      have h1 : (((x % 18446744073709551616).toNat : Nat) : Int) = x % 18446744073709551616 := Int.toNat_of_nonneg (Int.emod_nonneg _ (by decide))
      rw [← h1]; rfl
    have e3 : (x % 18446744073709551616).toNat % (m + 1) < m + 1 := Nat.mod_lt _ (by omega)
    show Ending.returned (.int .i64 (wrap64 ((IntKind.u64.wrap x).tmod ((m : Int) + 1)))) = _
    rw [e1, e2]
    generalize (x % 18446744073709551616).toNat % (m + 1) = y at *
    rw [show wrap64 (y : Int) = y by unfold wrap64; omega]
end Go.Proofs.Ytbgfkjafablfiaa
