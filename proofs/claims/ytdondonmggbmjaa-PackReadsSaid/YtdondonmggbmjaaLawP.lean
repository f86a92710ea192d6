/-
  The law PackPuts walked.
-/
import Derived.Test.YtdondonmggbmjaaWrt
import Derived.Test.YtdondonmggbmjaaLawN
namespace Go.Proofs.Ytdondonmggbmjaa
open Go.RowKit

theorem tameI_ok {x : It} (h : x.ok) : (tameI x).ok ∧ ((tameI x).k = 0 ∨ (tameI x).k = 1 ∨ (tameI x).k = 2) := by
  unfold tameI
  split
  · exact ⟨⟨by simp only; omega, h.2⟩, .inl rfl⟩
  · rename_i hc
    exact ⟨h, by omega⟩
theorem tameL_ok {xs : List It} (h : ∀ x ∈ xs, x.ok) : ∀ x ∈ tameL xs, x.ok ∧ (x.k = 0 ∨ x.k = 1 ∨ x.k = 2) := fun x hx => by
  obtain ⟨y, hy, rfl⟩ := List.mem_map.1 hx
  exact tameI_ok (h y (List.mem_of_mem_take hy))

set_option maxRecDepth 100000 in
set_option maxHeartbeats 2000000 in
theorem puts_any (xs : List It) (A : Option Addr) (n cap : Nat) (w : World) (hn : xs.length = n) (hr : IRow w A xs) (hok : ∀ x ∈ xs, x.ok) (hn2 : n ≤ 9223372036854775807) (hc : n ≤ cap) :
    Calls Try.prog 3 #[.slice A n cap] w (Laws w) := by
  have Hr := Lib.hid hr
  have Hok := Lib.hid (tameL_ok hok)
  have Hn := Lib.hid hn
  clear hr hok hn
  go_enter Try.func3, Try.ntmps3
  go_wp2_with fail
  refine (awake_any w).mono ?_
  rintro e w1 ⟨rfl, hb1⟩
  have Hr1 := Lib.hid (Hr.out.below hb1 (Nat.le_refl _))
  have Hb1 := Lib.hid hb1
  clear hb1 Hr
  go_wp2_with fail
  refine (tame_any xs A n cap w1 Hn.out Hr1.out hn2 hc).mono ?_
  rintro e w2 ⟨A', k, cap', rfl, hlen, hk, hr2, hb2⟩
  have Hlen := Lib.hid hlen
  have Hr2 := Lib.hid hr2
  have Hb2 := Lib.hid (Hb1.out.trans (hb2.mono Hb1.out.size))
  clear hlen hr2 hb2 Hr1
  generalize tameL xs = ys at *
  go_wp2_with fail
  refine (put_all ys A' k cap' w2 Hlen.out Hr2.out (fun x hx => (Hok.out x hx).1) (by omega)).mono ?_
  rintro e w3 ⟨rfl, hw3, hb3⟩
  have Hw3 := Lib.hid hw3
  have Hb3 := Lib.hid (Hb2.out.trans (hb3.mono Hb2.out.size))
  have Hr3 := Lib.hid (Hr2.out.below hb3 (Nat.le_refl _))
  clear hw3 hb3 Hr2
  go_wp2_with fail
  refine (wbytes_any _ _ _ Hw3.out).mono ?_
  rintro e w4 ⟨rfl, hw4, hb4⟩
  have Hb4 := Lib.hid (Hb3.out.trans (hb4.mono Hb3.out.size))
  have Hr4 := Lib.hid (Hr3.out.below hb4 (Nat.le_refl _))
  clear hw4 hb4 Hr3 Hw3
  go_wp2_with fail
  refine (written_any ys A' k cap' w4 Hlen.out Hr4.out Hok.out (by omega)).mono ?_
  rintro e w5 ⟨rfl, hb5⟩
  have Hb5 := Lib.hid (Hb4.out.trans (hb5.mono Hb4.out.size))
  clear hb5 Hr4
  generalize wrAll ys = st at *
  go_wp2_with (first | (go_at_call 13; refine (wnum_nil _ _).mono ?_; rintro e w6 ⟨rfl, h6⟩; replace h6 := h6.symm; subst h6) | (go_at_call 14; refine (wtext_nil _ _).mono ?_; rintro e w6 ⟨rfl, h6⟩; replace h6 := h6.symm; subst h6) | (go_at_call 15; refine (wflag_nil _).mono ?_; rintro e w6 ⟨rfl, h6⟩; replace h6 := h6.symm; subst h6) | (go_at_call 11; refine (wbytes_nil _).mono ?_; rintro e w6 ⟨rfl, h6⟩; replace h6 := h6.symm; subst h6))
  go_ret
  exact ⟨rfl, Hb5.out⟩
end Go.Proofs.Ytdondonmggbmjaa
