/-
  The contract of the program's own Covers.
-/
import Derived.Test.YtfjgikcbngfhmaaGH
import Derived.Test.YtfjgikcbngfhmaaGI
namespace Go.Proofs.Ytfjgikcbngfhmaa
open Go.RowKit Go.Shelf

/-- What the search is handed: has a span all of the captured one? -/
theorem whole_any (s x : Sp) (b : Nat) (W : World) (h0 : W.cell? ⟨b, 0, none⟩ = some (.string (bs s.1))) (h1 : W.cell? ⟨b, 1, none⟩ = some (.string (bs s.2))) (hb : b < W.heap.size) :
    Calls Try.prog 39 #[spV x, .pointer (some ⟨b, 0, none⟩)] W fun e w' => e = .returned (.bool (insL s x)) ∧ Below W.heap.size W w' := by
  have HI := Lib.hid (fun w => inside_any s x w)
  generalize insL s x = r at HI ⊢
  obtain ⟨s1, s2⟩ := s
  obtain ⟨x1, x2⟩ := x
  unfold spV at HI ⊢
  simp only at h0 h1
  have hal : ∀ o, (W.alloc o).cell? ⟨b, 0, none⟩ = some (.string (bs s1)) := fun o => (((Below.refl W.heap.size W).alloc (Nat.le_refl _) o).cell (p := ⟨b, 0, none⟩) hb).trans h0
  have hne : (W.heap.size == b) = false := beq_eq_false_iff_ne.2 (by omega)
  have HA := Lib.hid ((Below.refl W.heap.size W).alloc (Nat.le_refl _) (.cells #[.string (bs x1), .string (bs x2)] 23))
  clear hal
  go_enter Try.func39, Try.ntmps39
  go_wp2_with (go_at_call 18; refine (HI.out _).mono ?_; rintro e w1 ⟨rfl, hb1⟩)
  go_ret
  exact ⟨rfl, HA.out.trans (hb1.mono HA.out.size)⟩
theorem whole_enters : ∀ args w, (callFunc 39 args).run Try.prog w = .ok (.enter 39 args) w := enters_of Try.func39 (by kernel_rfl) rfl
theorem index_zero (A : Option Addr) (cap : Nat) (fv : Value) (w : World) : Calls Try.prog 42 #[.slice A 0 cap, fv] w fun e w' => e = .returned (.int .i64 (-1)) ∧ w' = w := by
  go_enter Try.func42, Try.ntmps42
  go_wp2
  refine wp_loop_rounds 1 ?_
  rw [rounds_succ]
  go_wp2
  go_ret
  exact ⟨rfl, rfl⟩
theorem contains_zero (A : Option Addr) (cap : Nat) (fv : Value) (w : World) : Calls Try.prog 38 #[.slice A 0 cap, fv] w fun e w' => e = .returned (.bool false) ∧ w' = w := by
  go_enter Try.func38, Try.ntmps38
  go_wp2_with (go_at_call 42; refine (index_zero _ _ _ _).mono ?_; rintro e w' ⟨rfl, rfl⟩)
  go_ret
  exact ⟨rfl, rfl⟩
/-- Has one of the spans all of the captured one? -/
theorem contains_any (u : List Sp) (A : Option Addr) (n cap : Nat) (s : Sp) (b : Nat) (w : World) (hn : u.length = n) (hr : RowAt w A (spC u)) (hn2 : n ≤ 1000000) (h0 : w.cell? ⟨b, 0, none⟩ = some (.string (bs s.1))) (h1 : w.cell? ⟨b, 1, none⟩ = some (.string (bs s.2))) (hb : b < w.heap.size) :
    Calls Try.prog 38 #[.slice A n cap, .func (.func 39) #[] #[.pointer (some ⟨b, 0, none⟩)]] w fun e w' => e = .returned (.bool (u.any fun x => insL s x)) ∧ Below w.heap.size w w' := by
  subst hn
  cases u with
  | nil => exact (contains_zero _ _ _ w).mono fun _ _ ⟨he, hw⟩ => ⟨he, by rw [hw]; exact Below.refl _ _⟩
  | cons t u =>
    obtain ⟨b', off, rfl, hbl, _⟩ := hr 0 _ rfl
    have h := AnyQ.slices_ContainsFunc cfLays 2 (by intro w; kernel_rfl) (by intro w; kernel_rfl) encS (fun _ => rfl) (fun x => insL s x) 39 #[.pointer (some ⟨b, 0, none⟩)] whole_enters b' off (t :: u).length cap (t :: u) w
      (fun W x hW => (whole_any s x b W ((hW.cell (p := ⟨b, 0, none⟩) hb).trans h0) ((hW.cell (p := ⟨b, 1, none⟩) hb).trans h1) (Nat.lt_of_lt_of_le hb hW.size)).mono fun _ _ ⟨he, hb'⟩ => ⟨he, hW.trans (hb'.mono hW.size)⟩)
      (Nat.le_refl _) (by omega) hbl (by
        intro j hj i v hv
        obtain ⟨c0, c1⟩ := spC_at (t :: u) j (t :: u)[j]! (by rw [getElem!_pos (t :: u) j hj]; exact List.getElem?_eq_getElem hj)
        have hlt : i < 2 := by obtain ⟨h, _⟩ := List.getElem?_eq_some_iff.1 hv; simpa [encS] using h
        have : i = 0 ∨ i = 1 := by omega
        rcases this with rfl | rfl
        · obtain ⟨b2, off2, hA, _, hc⟩ := hr _ _ c0
          injection hA with hA; injection hA with e1 e2; subst e1 e2
          rw [Nat.add_zero, hc]
          simpa [encS] using hv
        · obtain ⟨b2, off2, hA, _, hc⟩ := hr _ _ c1
          injection hA with hA; injection hA with e1 e2; subst e1 e2
          rw [Nat.add_assoc, hc]
          simpa [encS] using hv)
    rw [List.take_of_length_le (Nat.le_refl _)] at h
    exact h

set_option maxRecDepth 100000 in
set_option maxHeartbeats 1000000 in
theorem covers_any (l : List Sp) (A : Option Addr) (n cap : Nat) (s : Sp) (w : World) (hn : l.length = n) (hr : RowAt w A (spC l)) (hn2 : n ≤ 1000) :
    Calls Try.prog 23 #[.slice A n cap, spV s] w fun e w' => e = .returned (.bool (coversL l s)) ∧ Below w.heap.size w w' := by
  obtain ⟨w0, hw0⟩ : ∃ w0, w0 = w.alloc (.cells #[.string (bs s.1), .string (bs s.2)] 23) := ⟨_, rfl⟩
  have Hb0 : Hid (Below w.heap.size w w0) := Lib.hid (by rw [hw0]; exact (Below.refl _ _).alloc (Nat.le_refl _) _)
  have hs0 : w0.heap.size = w.heap.size + 1 := by rw [hw0]; simp
  have hc0 : w0.cell? ⟨w.heap.size, 0, none⟩ = some (.string (bs s.1)) := by rw [hw0]; simp
  have hc1 : w0.cell? ⟨w.heap.size, 1, none⟩ = some (.string (bs s.2)) := by rw [hw0]; simp
  have HC := Lib.hid (fun (w1 : World) (hb : Below w0.heap.size w0 w1) => (⟨(hb.cell (p := ⟨w.heap.size, 0, none⟩) (by rw [hs0]; exact Nat.lt_succ_self _)).trans hc0, (hb.cell (p := ⟨w.heap.size, 1, none⟩) (by rw [hs0]; exact Nat.lt_succ_self _)).trans hc1, Nat.lt_of_lt_of_le (by rw [hs0]; exact Nat.lt_succ_self _) hb.size⟩ :
    w1.cell? ⟨w.heap.size, 0, none⟩ = some (.string (bs s.1)) ∧ w1.cell? ⟨w.heap.size, 1, none⟩ = some (.string (bs s.2)) ∧ w.heap.size < w1.heap.size))
  have HU := Lib.hid (union_any l A n cap w0 hn (hr.below Hb0.out (Nat.le_refl _)) hn2)
  have Hlen : Hid ((unionL l).length ≤ 1000000) := Lib.hid (Nat.le_trans (union_length l n hn) (by omega))
  have Hcov := Lib.hid (covers_one l s)
  clear hn hr hs0 hc0 hc1
  generalize hu : unionL l = u at HU Hlen Hcov
  clear hu
  obtain ⟨a, b⟩ := s
  unfold spV
  go_enter Try.func23, Try.ntmps23
  go_wp2_with fail
  rw [← hw0]
  refine HU.out.mono ?_
  rintro e w1 ⟨⟨A1, m, cap1, rfl, hm, hr1⟩, hb1⟩
  obtain ⟨c0, c1, c2⟩ := HC.out w1 hb1
  have HK := Lib.hid (contains_any u A1 m cap1 (a, b) w.heap.size w1 hm hr1 (by rw [← hm]; exact Hlen.out) c0 c1 c2)
  rw [Hcov.out] at HK
  have Hb1 := Lib.hid (Hb0.out.trans (hb1.mono Hb0.out.size))
  clear hb1 hr1 hw0 hm c0 c1 c2 HC HU Hlen
  go_wp2_with (go_at_call 38; refine HK.out.mono ?_; rintro e w2 ⟨rfl, hb2⟩)
  go_ret
  exact ⟨rfl, Hb1.out.trans (hb2.mono Hb1.out.size)⟩
end Go.Proofs.Ytfjgikcbngfhmaa
