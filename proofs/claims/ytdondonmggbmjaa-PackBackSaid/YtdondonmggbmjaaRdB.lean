/-
  The contracts of a reader's Num, Flag, Left, End and Text, and of all of them where there is no reader.
-/
import Derived.Test.YtdondonmggbmjaaRdA
import Derived.Test.YtdondonmggbmjaaClo
namespace Go.Proofs.Ytdondonmggbmjaa
open Go.RowKit

set_option maxRecDepth 100000 in
theorem num_any (l : List UInt8) (bad : Bool) (a : Nat) (w : World) (h : RdM 61 w a l bad) (hl : l.length ≤ 1000000000) :
    Calls Try.prog 17 #[.pointer (some ⟨a, 0, none⟩)] w (RdGot 61 w a (.int .i64 (rdN 4611686018427387903 l bad).1) (rdN 4611686018427387903 l bad).2) := by
  have Hu := Lib.hid (upto_any 4611686018427387903 l bad a w h hl)
  clear h
  generalize rdN 4611686018427387903 l bad = r at *
  go_enter Try.func17, Try.ntmps17
  go_wp2_with (go_at_call 23; refine Hu.out.mono ?_; rintro e w' ⟨rfl, hr, hg⟩)
  go_ret
  exact ⟨rfl, hr, hg⟩
set_option maxRecDepth 100000 in
theorem flag_any (l : List UInt8) (bad : Bool) (a : Nat) (w : World) (h : RdM 61 w a l bad) (hl : l.length ≤ 1000000000) :
    Calls Try.prog 21 #[.pointer (some ⟨a, 0, none⟩)] w (RdGot 61 w a (.bool (((rdN 1 l bad).1 : Int) == 1)) (rdN 1 l bad).2) := by
  have Hu := Lib.hid (upto_any 1 l bad a w h hl)
  clear h
  generalize rdN 1 l bad = r at *
  go_enter Try.func21, Try.ntmps21
  go_wp2_with (go_at_call 23; refine Hu.out.mono ?_; rintro e w' ⟨rfl, hr, hg⟩)
  go_ret
  exact ⟨rfl, hr, hg⟩
theorem left_any (l : List UInt8) (bad : Bool) (a : Nat) (w : World) (h : RdM 61 w a l bad) :
    Calls Try.prog 24 #[.pointer (some ⟨a, 0, none⟩)] w fun e w' => e = .returned (.int .i64 l.length) ∧ w' = w := by
  obtain ⟨s, hh, hs, _⟩ := h
  obtain ⟨c0, c1, f0, f1⟩ := RdM.cells hh
  have Hs : Hid ((l.length : Int) = s.size) := Lib.hid (by rw [← hs, bl_length])
  clear hh hs
  go_enter Try.func24, Try.ntmps24
  go_wp2
  go_ret
  exact ⟨by rw [Hs.out]; rfl, rfl⟩
/-- Was all read, without a fault? -/
def endV (l : List UInt8) (bad : Bool) : Int := if bad = true ∨ l ≠ [] then 3 else 0
theorem end_any (l : List UInt8) (bad : Bool) (a : Nat) (w : World) (h : RdM 61 w a l bad) :
    Calls Try.prog 25 #[.pointer (some ⟨a, 0, none⟩)] w fun e w' => e = .returned (.int .i64 (endV l bad)) ∧ w' = w := by
  obtain ⟨s, hh, hs, hb⟩ := h
  obtain ⟨c0, c1, f0, f1⟩ := RdM.cells hh
  clear hh
  cases bad with
  | true =>
    have Hv : Hid (endV l true = 3) := Lib.hid (by unfold endV; simp)
    clear hb
    go_enter Try.func25, Try.ntmps25
    go_wp2
    go_ret
    exact ⟨by rw [Hv.out]; rfl, rfl⟩
  | false =>
    by_cases h0 : l = []
    · have Hv : Hid (endV l false = 0) := Lib.hid (by unfold endV; simp [h0])
      have hs0 : s = { data := #[] } := by rw [← bs_bl s, hs, h0, bs_eq]
      subst hs0
      clear hs h0
      go_enter Try.func25, Try.ntmps25
      go_wp2
      go_ret
      exact ⟨by rw [Hv.out]; rfl, rfl⟩
    · have Hv : Hid (endV l false = 3) := Lib.hid (by unfold endV; simp [h0])
      have e1 : s.toList.isEmpty = false := by
        rw [bl_toList, hs, List.isEmpty_eq_false_iff]
        exact h0
      clear hs h0
      go_enter Try.func25, Try.ntmps25
      go_wp2
      go_ret
      exact ⟨by rw [Hv.out]; rfl, rfl⟩
theorem num_nil (w : World) : Calls Try.prog 17 #[.pointer none] w fun e w' => e = .returned (.int .i64 0) ∧ w' = w := by
  go_enter Try.func17, Try.ntmps17
  go_wp2
  go_ret
  exact ⟨rfl, rfl⟩
theorem upto_nil (m : Int) (w : World) : Calls Try.prog 23 #[.pointer none, .int .i64 m] w fun e w' => e = .returned (.int .i64 0) ∧ w' = w := by
  go_enter Try.func23, Try.ntmps23
  go_wp2
  go_ret
  exact ⟨rfl, rfl⟩
theorem text_nil (m : Int) (w : World) : Calls Try.prog 19 #[.pointer none, .int .i64 m] w fun e w' => e = .returned (.string { data := #[] }) ∧ w' = w := by
  go_enter Try.func19, Try.ntmps19
  go_wp2
  go_ret
  exact ⟨rfl, rfl⟩
theorem flag_nil (w : World) : Calls Try.prog 21 #[.pointer none] w fun e w' => e = .returned (.bool false) ∧ w' = w := by
  go_enter Try.func21, Try.ntmps21
  go_wp2
  go_ret
  exact ⟨rfl, rfl⟩
theorem left_nil (w : World) : Calls Try.prog 24 #[.pointer none] w fun e w' => e = .returned (.int .i64 0) ∧ w' = w := by
  go_enter Try.func24, Try.ntmps24
  go_wp2
  go_ret
  exact ⟨rfl, rfl⟩
theorem end_nil (w : World) : Calls Try.prog 25 #[.pointer none] w fun e w' => e = .returned (.int .i64 3) ∧ w' = w := by
  go_enter Try.func25, Try.ntmps25
  go_wp2
  go_ret
  exact ⟨rfl, rfl⟩

theorem info5 : (Try.prog.info? 5).map (fun i => (i.zero, i.size, i.bytes)) = some (some (.int .u8 0), 1, 1) := by kernel_rfl
theorem sclone_any (s : ByteArray) (w : World) (hs : s.size ≤ 1000000000) : Calls Try.prog 35 #[.string s] w fun e w' => e = .returned (.string s) ∧ Below w.heap.size w w' := by
  go_enter Try.func35, Try.ntmps35
  go_wp2_with (go_at_call 38; refine (clone_any s w hs).mono ?_; rintro e w' ⟨rfl, hb⟩)
  go_ret
  exact ⟨rfl, hb⟩
theorem bs_nil : bs [] = { data := #[] } := by rw [bs_eq]
/-- The text that stands next, of no more than most bytes: what is read, what is left, whether there was a fault. -/
def rdT (most : Int) (l : List UInt8) (bad : Bool) : List UInt8 × List UInt8 × Bool :=
  if (rdN most l bad).2.2 = true ∨ (rdN most l bad).2.1.length < (rdN most l bad).1 then ([], [], true)
  else ((rdN most l bad).2.1.take (rdN most l bad).1, (rdN most l bad).2.1.drop (rdN most l bad).1, false)
theorem bl_eq_of {s : ByteArray} {l : List UInt8} (h : bl s = l) : s = bs l := by rw [← h, bs_bl]

set_option maxRecDepth 100000 in
set_option maxHeartbeats 1000000 in
theorem text_any (most : Int) (l : List UInt8) (bad : Bool) (a : Nat) (w : World) (h : RdM 61 w a l bad) (hl : l.length ≤ 1000000000) :
    Calls Try.prog 19 #[.pointer (some ⟨a, 0, none⟩), .int .i64 most] w (RdGot 61 w a (.string (bs (rdT most l bad).1)) (rdT most l bad).2) := by
  have Hu := Lib.hid (upto_any most l bad a w h hl)
  have Hln := Lib.hid (rdN_length most l bad)
  have Hbad := Lib.hid (rdN_left most l bad)
  have Ht : Hid (rdT most l bad = if (rdN most l bad).2.2 = true ∨ (rdN most l bad).2.1.length < (rdN most l bad).1 then ([], [], true) else ((rdN most l bad).2.1.take (rdN most l bad).1, (rdN most l bad).2.1.drop (rdN most l bad).1, false)) := Lib.hid rfl
  have ha := h.lt
  clear h
  generalize rdT most l bad = r at *
  generalize rdN most l bad = q at *
  obtain ⟨n, l1, b1⟩ := q
  simp only at *
  by_cases hb : b1 = true
  · subst hb
    have Hr : Hid (r = ([], [], true)) := Lib.hid (by rw [Ht.out]; simp)
    obtain rfl : l1 = [] := (Hbad.out rfl).1
    obtain rfl : n = 0 := (Hbad.out rfl).2
    rw [Hr.out]
    clear Ht Hr Hbad Hln
    go_enter Try.func19, Try.ntmps19
    go_wp2_with (first | (go_at_call 23; refine Hu.out.mono ?_; rintro e w1 ⟨rfl, ⟨s, hh, hs, hz⟩, hg⟩; have Hh := Lib.hid hh; have Hs := Lib.hid hs; have Hg := Lib.hid hg; clear hh hs hz hg) | (go_at_call 33; refine (rstopped_any a _ _ _ Hh.out).mono ?_; rintro e w' ⟨rfl, rfl⟩))
    go_ret
    exact ⟨by rw [bs_nil]; rfl, ⟨s, Hh.out, Hs.out, fun _ => rfl⟩, Hg.out⟩
  · obtain rfl : b1 = false := by cases b1 <;> simp_all
    by_cases hn : l1.length < n
    · have Hr : Hid (r = ([], [], true)) := Lib.hid (by rw [Ht.out]; simp [hn])
      rw [Hr.out]
      clear Ht Hr Hbad
      go_enter Try.func19, Try.ntmps19
      go_wp2_with fail
      refine Hu.out.mono ?_
      rintro e w1 ⟨rfl, ⟨s, hh, hs, hz⟩, hg⟩
      obtain ⟨c0, c1, f0, f1⟩ := RdM.cells hh
      have hsz : l1.length = s.size := by rw [← bl_length, hs]
      have hgt : (s.size : Int) < n := by omega
      have Hh := Lib.hid hh
      have Hs := Lib.hid hs
      have Hg := Lib.hid hg
      clear hh hs hz hg hn hsz
      go_wp2_with (first | (go_at_call 33; refine (rstopped_any a _ _ _ Hh.out).mono ?_; rintro e w' ⟨rfl, rfl⟩) | (go_at_call 34; refine (rstop_any a _ _ _ Hh.out).mono ?_; rintro e w' ⟨rfl, rfl⟩))
      go_ret
      exact ⟨by rw [bs_nil]; rfl, ⟨_, Holds.set (Holds.set Hh.out 0 _) 1 _, bl_empty, fun _ => rfl⟩, grown_set (grown_set Hg.out _) _⟩
    · have Hr : Hid (r = (l1.take n, l1.drop n, false)) := Lib.hid (by rw [Ht.out]; simp [hn])
      rw [Hr.out]
      clear Ht Hr Hbad
      have hll := Hln.out
      go_enter Try.func19, Try.ntmps19
      go_wp2_with fail
      refine Hu.out.mono ?_
      rintro e w1 ⟨rfl, ⟨s, hh, hs, hz⟩, hg⟩
      obtain ⟨c0, c1, f0, f1⟩ := RdM.cells hh
      have hsz : l1.length = s.size := by rw [← bl_length, hs]
      have hgt : (n : Int) ≤ s.size := by omega
      have hgt' : n ≤ s.size := by omega
      have Hh := Lib.hid hh
      have Hs := Lib.hid hs
      have Hg := Lib.hid hg
      clear hh hs hz hg hn
      have Hcl : Hid ((s.extract 0 n).size ≤ 1000000000) := Lib.hid (by simp; omega)
      go_wp2_with (first | (go_at_call 33; refine (rstopped_any a _ _ _ Hh.out).mono ?_; rintro e w' ⟨rfl, rfl⟩) | (go_at_call 35; refine (sclone_any _ _ Hcl.out).mono ?_; rintro e w2 ⟨rfl, hb2⟩; have Hh2 := Lib.hid (Holds.below Hh.out hb2 (Holds.lt Hh.out)); have Hg2 := Lib.hid (grown_trans Hg.out (grown_below _ hb2)); obtain ⟨d0, d1, g0, g1⟩ := RdM.cells Hh2.out; clear hb2))
      go_ret
      exact ⟨by rw [← Hs.out, ← bl_take, bs_bl]; rfl, ⟨_, Holds.set Hh2.out 0 _, by rw [bl_drop, Hs.out], fun h => by cases h⟩, grown_set Hg2.out _⟩
end Go.Proofs.Ytdondonmggbmjaa
