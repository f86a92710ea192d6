/-
  The contracts of the reference reader's Text, Flag and Done.
-/
import Derived.Test.YtmgbmphheagdmaaGreatDoorGB
import Derived.Test.YtmgbmphheagdmaaGreatDoorKF
namespace Go.Proofs.YtmgbmphheagdmaaGreatDoor
open Go.RowKit

theorem refdone_any (l : List UInt8) (bad : Bool) (a : Nat) (w : World) (h : RdM 106 w a l bad) :
    Calls Tryz.prog 66 #[.pointer (some ⟨a, 0, none⟩)] w fun e w' => e = .returned (.bool (endV l bad == 0)) ∧ w' = w := by
  obtain ⟨s, hh, hs, hb⟩ := h
  obtain ⟨c0, c1, f0, f1⟩ := RdM.cells hh
  have Hs : Hid (l.length = s.size) := Lib.hid (by rw [← hs, bl_length])
  clear hh hs hb
  cases bad with
  | true =>
    have Hv : Hid ((endV l true == 0) = false) := Lib.hid (by unfold endV; simp)
    go_enter Tryz.func66, Tryz.ntmps66
    go_wp2
    go_ret
    exact ⟨by rw [Hv.out]; rfl, rfl⟩
  | false =>
    by_cases h0 : s.size = 0
    · have Hv : Hid ((endV l false == 0) = true) := Lib.hid (by
        have : l = [] := List.eq_nil_of_length_eq_zero (by rw [Hs.out]; exact h0)
        unfold endV; simp [this])
      have h0' : ((s.size : Int) == 0) = true := by rw [beq_iff_eq]; omega
      clear h0
      go_enter Tryz.func66, Tryz.ntmps66
      go_wp2
      go_ret
      exact ⟨by rw [Hv.out]; rfl, rfl⟩
    · have Hv : Hid ((endV l false == 0) = false) := Lib.hid (by
        have : l ≠ [] := fun e => h0 (by rw [← Hs.out, e]; rfl)
        unfold endV; simp [this])
      have h0' : ((s.size : Int) == 0) = false := by rw [beq_eq_false_iff_ne]; omega
      go_enter Tryz.func66, Tryz.ntmps66
      go_wp2
      go_ret
      exact ⟨by rw [Hv.out]; rfl, rfl⟩

set_option maxRecDepth 100000 in
set_option maxHeartbeats 1000000 in
theorem reftext_any (most : Int) (l : List UInt8) (bad : Bool) (a : Nat) (w : World) (h : RdM 106 w a l bad) (hl : l.length ≤ 1000000000) :
    Calls Tryz.prog 65 #[.pointer (some ⟨a, 0, none⟩), .int .i64 most] w (RdGot 106 w a (.string (bs (rdT most l bad).1)) (rdT most l bad).2) := by
  have Hu := Lib.hid (refrd_any most l bad a w h hl)
  have Hln := Lib.hid (rdN_length most l bad)
  have Hbad := Lib.hid (rdN_left most l bad)
  have Ht : Hid (rdT most l bad = if (rdN most l bad).2.2 = true ∨ (rdN most l bad).2.1.length < (rdN most l bad).1 then ([], [], true) else ((rdN most l bad).2.1.take (rdN most l bad).1, (rdN most l bad).2.1.drop (rdN most l bad).1, false)) := Lib.hid rfl
  clear h
  generalize rdT most l bad = r at *
  generalize rdN most l bad = q at *
  obtain ⟨n, l1, b1⟩ := q
  simp only at *
  by_cases hb : b1 = true
  · subst hb
    have Hr : Hid (r = ([], [], true)) := Lib.hid (by rw [Ht.out]; simp)
    obtain rfl : l1 = [] := (Hbad.out rfl).1
    obtain rfl : n = 0 := (Hbad.out rfl).2
    rw [Hr.out]
    clear Ht Hr Hbad Hln
    go_enter Tryz.func65, Tryz.ntmps65
    go_wp2_with fail
    refine Hu.out.mono ?_
    rintro e w1 ⟨rfl, ⟨s, hh, hs, hz⟩, hg⟩
    obtain ⟨c0, c1, f0, f1⟩ := RdM.cells hh
    have Hh := Lib.hid hh
    have Hg := Lib.hid hg
    clear hh hs hz hg
    go_wp2
    go_ret
    exact ⟨by rw [bs_nil]; rfl, ⟨_, Holds.set (Holds.set Hh.out 0 _) 1 _, bl_empty, fun _ => rfl⟩, grown_set (grown_set Hg.out _) _⟩
  · obtain rfl : b1 = false := by cases b1 <;> simp_all
    by_cases hn : l1.length < n
    · have Hr : Hid (r = ([], [], true)) := Lib.hid (by rw [Ht.out]; simp [hn])
      rw [Hr.out]
      clear Ht Hr Hbad
      go_enter Tryz.func65, Tryz.ntmps65
      go_wp2_with fail
      refine Hu.out.mono ?_
      rintro e w1 ⟨rfl, ⟨s, hh, hs, hz⟩, hg⟩
      obtain ⟨c0, c1, f0, f1⟩ := RdM.cells hh
      have hsz : l1.length = s.size := by rw [← bl_length, hs]
      have hgt : (s.size : Int) < n := by omega
      have Hh := Lib.hid hh
      have Hg := Lib.hid hg
      clear hh hs hz hg hn hsz
      go_wp2
      go_ret
      exact ⟨by rw [bs_nil]; rfl, ⟨_, Holds.set (Holds.set Hh.out 0 _) 1 _, bl_empty, fun _ => rfl⟩, grown_set (grown_set Hg.out _) _⟩
    · have Hr : Hid (r = (l1.take n, l1.drop n, false)) := Lib.hid (by rw [Ht.out]; simp [hn])
      rw [Hr.out]
      clear Ht Hr Hbad
      have hll := Hln.out
      go_enter Tryz.func65, Tryz.ntmps65
      go_wp2_with fail
      refine Hu.out.mono ?_
      rintro e w1 ⟨rfl, ⟨s, hh, hs, hz⟩, hg⟩
      obtain ⟨c0, c1, f0, f1⟩ := RdM.cells hh
      have hsz : l1.length = s.size := by rw [← bl_length, hs]
      have hgt : (n : Int) ≤ s.size := by omega
      have hgt' : n ≤ s.size := by omega
      have Hh := Lib.hid hh
      have Hs := Lib.hid hs
      have Hg := Lib.hid hg
      clear hh hs hz hg hn
      go_wp2
      go_ret
      exact ⟨by rw [← Hs.out, ← bl_take, bs_bl]; rfl, ⟨_, Holds.set Hh.out 0 _, by rw [bl_drop, Hs.out], fun h => by cases h⟩, grown_set Hg.out _⟩
end Go.Proofs.YtmgbmphheagdmaaGreatDoor
