/-
  SpanInside walked, by what is asked of the program's own functions.
-/
import Derived.Test.YtfjgikcbngfhmaaST
namespace Go.Proofs.Ytfjgikcbngfhmaa
open Go.RowKit
set_option linter.unusedSimpArgs false
set_option linter.unusedVariables false

theorem row_two {W : World} {b : Nat} {x y : Value} (h : RowAt W (some ⟨b, 0, none⟩) [x, y]) : b < W.heap.size ∧ W.cell? ⟨b, 0, none⟩ = some x ∧ W.cell? ⟨b, 0 + 1, none⟩ = some y := by
  obtain ⟨b1, off, e, hl, h0⟩ := h 0 _ rfl
  obtain ⟨b2, off', e', _, h1⟩ := h 1 _ rfl
  injection e with e; injection e with e1 e2; subst e1; subst e2
  injection e' with e'; injection e' with e1 e2; subst e1; subst e2
  exact ⟨hl, h0, h1⟩

set_option maxRecDepth 100000 in
set_option maxHeartbeats 8000000 in
theorem inside_law (G : Good) (s t : Sp) (w : World) : Calls Try.prog 5 #[spV s, spV t] w (Laws w) := by
  have HI := Lib.hid (fun W => G.inside s t W)
  have HV := Lib.hid (fun W => refvalid_any t W)
  have HR := Lib.hid (fun W b (h : RowAt W (some ⟨b, 0, none⟩) (spC [t])) => refcovers_any [t] (some ⟨b, 0, none⟩) 1 1 s W rfl h (by omega))
  have HG := Lib.hid G
  have Hnil : Hid (∀ W, RowAt W none (strC [])) := Lib.hid (fun W j v hj => by simp [strC] at hj)
  unfold spV at *
  obtain ⟨wb, hwb⟩ : ∃ wb, wb = (w.alloc (.cells #[.string (bs s.1), .string (bs s.2)] 23)).alloc (.cells #[.string (bs t.1), .string (bs t.2)] 23) := ⟨_, rfl⟩
  have Hbx : Hid (RowAt wb (some ⟨w.heap.size, 0, none⟩) [.string (bs s.1), .string (bs s.2)] ∧ RowAt wb (some ⟨w.heap.size + 1, 0, none⟩) [.string (bs t.1), .string (bs t.2)] ∧ Below w.heap.size w wb) := Lib.hid (by
    rw [hwb]
    exact ⟨row_kept (row_new _ _ _) (Lib.alloc_old _ _ _ (by simp)), row_new2 _ _ _ _, ((Below.refl _ _).alloc (Nat.le_refl _) _).alloc (by simp) _⟩)
  clear G
  go_enter Try.func5, Try.ntmps5
  go_wp2_with fail
  rw [← hwb]
  refine (awake_any HG.out wb).mono ?_
  rintro e w1 ⟨rfl, hb1⟩
  have Hb1 : Hid (Below w.heap.size w w1) := Lib.hid (Hbx.out.2.2.trans (hb1.mono Hbx.out.2.2.size))
  have hx := row_two (Hbx.out.1.below hb1 (Nat.le_refl _))
  have hy := row_two (Hbx.out.2.1.below hb1 (Nat.le_refl _))
  have Hlt0 := Lib.hid (And.intro hx.1 hy.1)
  have Hc01 := Lib.hid (And.intro hx.2 hy.2)
  have HB1 : Hid (w.heap.size ≤ w1.heap.size) := Lib.hid (Nat.le_of_lt hx.1)
  clear hb1 hwb Hbx hx hy
  generalize hB : w.heap.size = B at *
  by_cases hsm : smallL [s, t] []
  · have Hsm := Lib.hid hsm
    cases hv : validL t with
    | true =>
      rw [hv] at HI HV
      rw [Bool.true_and] at HI
      generalize coversL [t] s = c at HI HR
      clear hsm
      go_wp2_with fail
      go_region_held3 (fun w' => (w'.cell? ⟨B, 0, none⟩ = some (.string (bs s.1)) ∧ w'.cell? ⟨B, 0 + 1, none⟩ = some (.string (bs s.2))) ∧ w'.cell? ⟨B + 1, 0, none⟩ = some (.string (bs t.1)) ∧ w'.cell? ⟨B + 1, 0 + 1, none⟩ = some (.string (bs t.2)))
        (first
          | exact Hc01.out
          | exact ⟨⟨(Hb7.out.cell (p := ⟨B, 0, none⟩) Hlt0.out.1).trans Hc01.out.1.1, (Hb7.out.cell (p := ⟨B, 0 + 1, none⟩) Hlt0.out.1).trans Hc01.out.1.2⟩, (Hb7.out.cell (p := ⟨B + 1, 0, none⟩) Hlt0.out.2).trans Hc01.out.2.1, (Hb7.out.cell (p := ⟨B + 1, 0 + 1, none⟩) Hlt0.out.2).trans Hc01.out.2.2⟩
          | exact ⟨⟨(Hb6.out.cell (p := ⟨B, 0, none⟩) Hlt0.out.1).trans Hc01.out.1.1, (Hb6.out.cell (p := ⟨B, 0 + 1, none⟩) Hlt0.out.1).trans Hc01.out.1.2⟩, (Hb6.out.cell (p := ⟨B + 1, 0, none⟩) Hlt0.out.2).trans Hc01.out.2.1, (Hb6.out.cell (p := ⟨B + 1, 0 + 1, none⟩) Hlt0.out.2).trans Hc01.out.2.2⟩
          | exact ⟨⟨(Hb5.out.cell (p := ⟨B, 0, none⟩) Hlt0.out.1).trans Hc01.out.1.1, (Hb5.out.cell (p := ⟨B, 0 + 1, none⟩) Hlt0.out.1).trans Hc01.out.1.2⟩, (Hb5.out.cell (p := ⟨B + 1, 0, none⟩) Hlt0.out.2).trans Hc01.out.2.1, (Hb5.out.cell (p := ⟨B + 1, 0 + 1, none⟩) Hlt0.out.2).trans Hc01.out.2.2⟩
          | exact ⟨⟨(Hb4.out.cell (p := ⟨B, 0, none⟩) Hlt0.out.1).trans Hc01.out.1.1, (Hb4.out.cell (p := ⟨B, 0 + 1, none⟩) Hlt0.out.1).trans Hc01.out.1.2⟩, (Hb4.out.cell (p := ⟨B + 1, 0, none⟩) Hlt0.out.2).trans Hc01.out.2.1, (Hb4.out.cell (p := ⟨B + 1, 0 + 1, none⟩) Hlt0.out.2).trans Hc01.out.2.2⟩
          | exact ⟨⟨((Hb6.out.alloc Hb6.out.size _).cell (p := ⟨B, 0, none⟩) Hlt0.out.1).trans Hc01.out.1.1, ((Hb6.out.alloc Hb6.out.size _).cell (p := ⟨B, 0 + 1, none⟩) Hlt0.out.1).trans Hc01.out.1.2⟩, ((Hb6.out.alloc Hb6.out.size _).cell (p := ⟨B + 1, 0, none⟩) Hlt0.out.2).trans Hc01.out.2.1, ((Hb6.out.alloc Hb6.out.size _).cell (p := ⟨B + 1, 0 + 1, none⟩) Hlt0.out.2).trans Hc01.out.2.2⟩
          | exact ⟨⟨(((Below.refl w1.heap.size w1).alloc (Nat.le_refl _) _).cell (p := ⟨B, 0, none⟩) Hlt0.out.1).trans Hc01.out.1.1, (((Below.refl w1.heap.size w1).alloc (Nat.le_refl _) _).cell (p := ⟨B, 0 + 1, none⟩) Hlt0.out.1).trans Hc01.out.1.2⟩, (((Below.refl w1.heap.size w1).alloc (Nat.le_refl _) _).cell (p := ⟨B + 1, 0, none⟩) Hlt0.out.2).trans Hc01.out.2.1, (((Below.refl w1.heap.size w1).alloc (Nat.le_refl _) _).cell (p := ⟨B + 1, 0 + 1, none⟩) Hlt0.out.2).trans Hc01.out.2.2⟩
          | go_keep)
        (first
          | (go_at_call 19; refine (HR.out _ _ (by first | exact row_drew (row_new _ _ _) | exact row_new _ _ _)).mono ?_; rintro e w7 ⟨rfl, hb7⟩; have Hb7 := Lib.hid ((Hb6.out.alloc Hb6.out.size _).trans (hb7.mono (Hb6.out.alloc Hb6.out.size _).size)); clear hb7)
          | (go_at_call 13; refine (HV.out w5).mono ?_; rintro e w6 ⟨rfl, hb6⟩; have Hb6 := Lib.hid (Hb5.out.trans (hb6.mono Hb5.out.size)); clear hb6)
          | (go_at_call 18; refine (HI.out w4).mono ?_; rintro e w5 ⟨rfl, hb5⟩; have Hb5 := Lib.hid (Hb4.out.trans (hb5.mono Hb4.out.size)); clear hb5)
          | (go_at_call 11; refine (great_no [s, t] [] _ none 2 0 2 0 _ rfl rfl (by first | exact row_drew (row_new _ _ _) | exact row_new _ _ _) (Hnil.out _) (by omega) Hsm.out).mono ?_; rintro e w4 ⟨rfl, hb4⟩; have Hb4 : Hid (Below w1.heap.size w1 w4) := Lib.hid (((Below.refl w1.heap.size w1).alloc (Nat.le_refl _) _).drew.trans (hb4.mono ((Below.refl w1.heap.size w1).alloc (Nat.le_refl _) _).drew.size)); clear hb4))
      all_goals
        go_wp2
        go_ret
        exact ⟨rfl, by rw [hB]; exact Hb1.out.trans (Hb7.out.mono HB1.out)⟩
    | false =>
      rw [hv] at HI HV
      rw [Bool.false_and] at HI
      clear hsm HR
      go_wp2_with fail
      refine wp_region_noPanic ?_
      refine wp_region_held_drew (S := (fun w' => (w'.cell? ⟨B, 0, none⟩ = some (.string (bs s.1)) ∧ w'.cell? ⟨B, 0 + 1, none⟩ = some (.string (bs s.2))) ∧ w'.cell? ⟨B + 1, 0, none⟩ = some (.string (bs t.1)) ∧ w'.cell? ⟨B + 1, 0 + 1, none⟩ = some (.string (bs t.2)))) (by kernel_rfl) Hc01.out (fun hHeld => ?_)
      refine take_want 0 (.agg #[.string (bs s.1), .string (bs s.2)]) rfl rfl (by kernel_rfl) (by kernel_rfl) (by kernel_rfl) (fun _ _ _ h => h) (by rfl) (by assumption) ?_ ?_
      · intro w hSw; (try dsimp only at hSw); go_simp
      (try simp only [Act.put, List.setIfInBounds_toArray, List.set_cons_zero, List.set_cons_succ])
      refine take_want 1 (.agg #[.string (bs t.1), .string (bs t.2)]) rfl rfl (by kernel_rfl) (by kernel_rfl) (by kernel_rfl) (fun _ _ _ h => h) (by rfl) (by assumption) ?_ ?_
      · intro w hSw; (try dsimp only at hSw); go_simp
      (try simp only [Act.put, List.setIfInBounds_toArray, List.set_cons_zero, List.set_cons_succ])
      refine wpAnyH_ready (rs := [2]) (by kernel_rfl) (by simp) ?_
      refine AllReadyH.cons rfl (fun K hK => ?_) AllReadyH.nil
      go_simp
      refine hK.out _ _ (by first | exact Hc01.out | exact ⟨⟨(Hb7.out.cell (p := ⟨B, 0, none⟩) Hlt0.out.1).trans Hc01.out.1.1, (Hb7.out.cell (p := ⟨B, 0 + 1, none⟩) Hlt0.out.1).trans Hc01.out.1.2⟩, (Hb7.out.cell (p := ⟨B + 1, 0, none⟩) Hlt0.out.2).trans Hc01.out.2.1, (Hb7.out.cell (p := ⟨B + 1, 0 + 1, none⟩) Hlt0.out.2).trans Hc01.out.2.2⟩ | exact ⟨⟨(Hb6.out.cell (p := ⟨B, 0, none⟩) Hlt0.out.1).trans Hc01.out.1.1, (Hb6.out.cell (p := ⟨B, 0 + 1, none⟩) Hlt0.out.1).trans Hc01.out.1.2⟩, (Hb6.out.cell (p := ⟨B + 1, 0, none⟩) Hlt0.out.2).trans Hc01.out.2.1, (Hb6.out.cell (p := ⟨B + 1, 0 + 1, none⟩) Hlt0.out.2).trans Hc01.out.2.2⟩ | exact ⟨⟨(Hb5.out.cell (p := ⟨B, 0, none⟩) Hlt0.out.1).trans Hc01.out.1.1, (Hb5.out.cell (p := ⟨B, 0 + 1, none⟩) Hlt0.out.1).trans Hc01.out.1.2⟩, (Hb5.out.cell (p := ⟨B + 1, 0, none⟩) Hlt0.out.2).trans Hc01.out.2.1, (Hb5.out.cell (p := ⟨B + 1, 0 + 1, none⟩) Hlt0.out.2).trans Hc01.out.2.2⟩ | exact ⟨⟨(Hb4.out.cell (p := ⟨B, 0, none⟩) Hlt0.out.1).trans Hc01.out.1.1, (Hb4.out.cell (p := ⟨B, 0 + 1, none⟩) Hlt0.out.1).trans Hc01.out.1.2⟩, (Hb4.out.cell (p := ⟨B + 1, 0, none⟩) Hlt0.out.2).trans Hc01.out.2.1, (Hb4.out.cell (p := ⟨B + 1, 0 + 1, none⟩) Hlt0.out.2).trans Hc01.out.2.2⟩ | exact ⟨⟨((Hb6.out.alloc Hb6.out.size _).cell (p := ⟨B, 0, none⟩) Hlt0.out.1).trans Hc01.out.1.1, ((Hb6.out.alloc Hb6.out.size _).cell (p := ⟨B, 0 + 1, none⟩) Hlt0.out.1).trans Hc01.out.1.2⟩, ((Hb6.out.alloc Hb6.out.size _).cell (p := ⟨B + 1, 0, none⟩) Hlt0.out.2).trans Hc01.out.2.1, ((Hb6.out.alloc Hb6.out.size _).cell (p := ⟨B + 1, 0 + 1, none⟩) Hlt0.out.2).trans Hc01.out.2.2⟩ | exact ⟨⟨(((Below.refl w1.heap.size w1).alloc (Nat.le_refl _) _).cell (p := ⟨B, 0, none⟩) Hlt0.out.1).trans Hc01.out.1.1, (((Below.refl w1.heap.size w1).alloc (Nat.le_refl _) _).cell (p := ⟨B, 0 + 1, none⟩) Hlt0.out.1).trans Hc01.out.1.2⟩, (((Below.refl w1.heap.size w1).alloc (Nat.le_refl _) _).cell (p := ⟨B + 1, 0, none⟩) Hlt0.out.2).trans Hc01.out.2.1, (((Below.refl w1.heap.size w1).alloc (Nat.le_refl _) _).cell (p := ⟨B + 1, 0 + 1, none⟩) Hlt0.out.2).trans Hc01.out.2.2⟩) (fun hHeld => ?_)
      clear hK K
      (try simp only [Act.put, List.setIfInBounds_toArray, List.set_cons_zero, List.set_cons_succ])
      refine wpAnyH_ready (rs := [3]) (by kernel_rfl) (by simp) ?_
      refine AllReadyH.cons rfl (fun K hK => ?_) AllReadyH.nil
      go_simp
      go_wp2_with (go_at_call 11; refine (great_no [s, t] [] _ none 2 0 2 0 _ rfl rfl (by first | exact row_drew (row_new _ _ _) | exact row_new _ _ _) (Hnil.out _) (by omega) Hsm.out).mono ?_; rintro e w4 ⟨rfl, hb4⟩; have Hb4 : Hid (Below w1.heap.size w1 w4) := Lib.hid (((Below.refl w1.heap.size w1).alloc (Nat.le_refl _) _).drew.trans (hb4.mono ((Below.refl w1.heap.size w1).alloc (Nat.le_refl _) _).drew.size)); clear hb4)
      refine hK.out _ _ (by first | exact Hc01.out | exact ⟨⟨(Hb7.out.cell (p := ⟨B, 0, none⟩) Hlt0.out.1).trans Hc01.out.1.1, (Hb7.out.cell (p := ⟨B, 0 + 1, none⟩) Hlt0.out.1).trans Hc01.out.1.2⟩, (Hb7.out.cell (p := ⟨B + 1, 0, none⟩) Hlt0.out.2).trans Hc01.out.2.1, (Hb7.out.cell (p := ⟨B + 1, 0 + 1, none⟩) Hlt0.out.2).trans Hc01.out.2.2⟩ | exact ⟨⟨(Hb6.out.cell (p := ⟨B, 0, none⟩) Hlt0.out.1).trans Hc01.out.1.1, (Hb6.out.cell (p := ⟨B, 0 + 1, none⟩) Hlt0.out.1).trans Hc01.out.1.2⟩, (Hb6.out.cell (p := ⟨B + 1, 0, none⟩) Hlt0.out.2).trans Hc01.out.2.1, (Hb6.out.cell (p := ⟨B + 1, 0 + 1, none⟩) Hlt0.out.2).trans Hc01.out.2.2⟩ | exact ⟨⟨(Hb5.out.cell (p := ⟨B, 0, none⟩) Hlt0.out.1).trans Hc01.out.1.1, (Hb5.out.cell (p := ⟨B, 0 + 1, none⟩) Hlt0.out.1).trans Hc01.out.1.2⟩, (Hb5.out.cell (p := ⟨B + 1, 0, none⟩) Hlt0.out.2).trans Hc01.out.2.1, (Hb5.out.cell (p := ⟨B + 1, 0 + 1, none⟩) Hlt0.out.2).trans Hc01.out.2.2⟩ | exact ⟨⟨(Hb4.out.cell (p := ⟨B, 0, none⟩) Hlt0.out.1).trans Hc01.out.1.1, (Hb4.out.cell (p := ⟨B, 0 + 1, none⟩) Hlt0.out.1).trans Hc01.out.1.2⟩, (Hb4.out.cell (p := ⟨B + 1, 0, none⟩) Hlt0.out.2).trans Hc01.out.2.1, (Hb4.out.cell (p := ⟨B + 1, 0 + 1, none⟩) Hlt0.out.2).trans Hc01.out.2.2⟩ | exact ⟨⟨((Hb6.out.alloc Hb6.out.size _).cell (p := ⟨B, 0, none⟩) Hlt0.out.1).trans Hc01.out.1.1, ((Hb6.out.alloc Hb6.out.size _).cell (p := ⟨B, 0 + 1, none⟩) Hlt0.out.1).trans Hc01.out.1.2⟩, ((Hb6.out.alloc Hb6.out.size _).cell (p := ⟨B + 1, 0, none⟩) Hlt0.out.2).trans Hc01.out.2.1, ((Hb6.out.alloc Hb6.out.size _).cell (p := ⟨B + 1, 0 + 1, none⟩) Hlt0.out.2).trans Hc01.out.2.2⟩ | exact ⟨⟨(((Below.refl w1.heap.size w1).alloc (Nat.le_refl _) _).cell (p := ⟨B, 0, none⟩) Hlt0.out.1).trans Hc01.out.1.1, (((Below.refl w1.heap.size w1).alloc (Nat.le_refl _) _).cell (p := ⟨B, 0 + 1, none⟩) Hlt0.out.1).trans Hc01.out.1.2⟩, (((Below.refl w1.heap.size w1).alloc (Nat.le_refl _) _).cell (p := ⟨B + 1, 0, none⟩) Hlt0.out.2).trans Hc01.out.2.1, (((Below.refl w1.heap.size w1).alloc (Nat.le_refl _) _).cell (p := ⟨B + 1, 0 + 1, none⟩) Hlt0.out.2).trans Hc01.out.2.2⟩) (fun hHeld => ?_)
      clear hK K
      (try simp only [Act.put, List.setIfInBounds_toArray, List.set_cons_zero, List.set_cons_succ])
      refine take_want 4 (.bool false) rfl rfl (by kernel_rfl) (by kernel_rfl) (by kernel_rfl) (fun _ _ _ h => h) (by rfl) (by assumption) ?_ ?_
      · intro w hSw; (try dsimp only at hSw); go_simp
      (try simp only [Act.put, List.setIfInBounds_toArray, List.set_cons_zero, List.set_cons_succ])
      refine take_want 5 (.agg #[.string (bs s.1), .string (bs s.2)]) rfl rfl (by kernel_rfl) (by kernel_rfl) (by kernel_rfl) (fun _ _ _ h => h) (by rfl) (by assumption) ?_ ?_
      · intro w hSw; (try dsimp only at hSw); go_simp
      (try simp only [Act.put, List.setIfInBounds_toArray, List.set_cons_zero, List.set_cons_succ])
      refine take_want 6 (.agg #[.string (bs t.1), .string (bs t.2)]) rfl rfl (by kernel_rfl) (by kernel_rfl) (by kernel_rfl) (fun _ _ _ h => h) (by rfl) (by assumption) ?_ ?_
      · intro w hSw; (try dsimp only at hSw); go_simp
      (try simp only [Act.put, List.setIfInBounds_toArray, List.set_cons_zero, List.set_cons_succ])
      refine take_want 8 (.agg #[.string (bs t.1), .string (bs t.2)]) rfl rfl (by kernel_rfl) (by kernel_rfl) (by kernel_rfl) (fun _ _ _ h => h) (by rfl) (by assumption) ?_ ?_
      · intro w hSw; (try dsimp only at hSw); go_simp
      (try simp only [Act.put, List.setIfInBounds_toArray, List.set_cons_zero, List.set_cons_succ])
      refine wpAnyH_ready (rs := [7]) (by kernel_rfl) (by simp) ?_
      refine AllReadyH.cons rfl (fun K hK => ?_) AllReadyH.nil
      go_simp
      go_wp2_with (go_at_call 18; refine (HI.out w4).mono ?_; rintro e w5 ⟨rfl, hb5⟩; have Hb5 := Lib.hid (Hb4.out.trans (hb5.mono Hb4.out.size)); clear hb5)
      refine hK.out _ _ (by first | exact Hc01.out | exact ⟨⟨(Hb7.out.cell (p := ⟨B, 0, none⟩) Hlt0.out.1).trans Hc01.out.1.1, (Hb7.out.cell (p := ⟨B, 0 + 1, none⟩) Hlt0.out.1).trans Hc01.out.1.2⟩, (Hb7.out.cell (p := ⟨B + 1, 0, none⟩) Hlt0.out.2).trans Hc01.out.2.1, (Hb7.out.cell (p := ⟨B + 1, 0 + 1, none⟩) Hlt0.out.2).trans Hc01.out.2.2⟩ | exact ⟨⟨(Hb6.out.cell (p := ⟨B, 0, none⟩) Hlt0.out.1).trans Hc01.out.1.1, (Hb6.out.cell (p := ⟨B, 0 + 1, none⟩) Hlt0.out.1).trans Hc01.out.1.2⟩, (Hb6.out.cell (p := ⟨B + 1, 0, none⟩) Hlt0.out.2).trans Hc01.out.2.1, (Hb6.out.cell (p := ⟨B + 1, 0 + 1, none⟩) Hlt0.out.2).trans Hc01.out.2.2⟩ | exact ⟨⟨(Hb5.out.cell (p := ⟨B, 0, none⟩) Hlt0.out.1).trans Hc01.out.1.1, (Hb5.out.cell (p := ⟨B, 0 + 1, none⟩) Hlt0.out.1).trans Hc01.out.1.2⟩, (Hb5.out.cell (p := ⟨B + 1, 0, none⟩) Hlt0.out.2).trans Hc01.out.2.1, (Hb5.out.cell (p := ⟨B + 1, 0 + 1, none⟩) Hlt0.out.2).trans Hc01.out.2.2⟩ | exact ⟨⟨(Hb4.out.cell (p := ⟨B, 0, none⟩) Hlt0.out.1).trans Hc01.out.1.1, (Hb4.out.cell (p := ⟨B, 0 + 1, none⟩) Hlt0.out.1).trans Hc01.out.1.2⟩, (Hb4.out.cell (p := ⟨B + 1, 0, none⟩) Hlt0.out.2).trans Hc01.out.2.1, (Hb4.out.cell (p := ⟨B + 1, 0 + 1, none⟩) Hlt0.out.2).trans Hc01.out.2.2⟩ | exact ⟨⟨((Hb6.out.alloc Hb6.out.size _).cell (p := ⟨B, 0, none⟩) Hlt0.out.1).trans Hc01.out.1.1, ((Hb6.out.alloc Hb6.out.size _).cell (p := ⟨B, 0 + 1, none⟩) Hlt0.out.1).trans Hc01.out.1.2⟩, ((Hb6.out.alloc Hb6.out.size _).cell (p := ⟨B + 1, 0, none⟩) Hlt0.out.2).trans Hc01.out.2.1, ((Hb6.out.alloc Hb6.out.size _).cell (p := ⟨B + 1, 0 + 1, none⟩) Hlt0.out.2).trans Hc01.out.2.2⟩ | exact ⟨⟨(((Below.refl w1.heap.size w1).alloc (Nat.le_refl _) _).cell (p := ⟨B, 0, none⟩) Hlt0.out.1).trans Hc01.out.1.1, (((Below.refl w1.heap.size w1).alloc (Nat.le_refl _) _).cell (p := ⟨B, 0 + 1, none⟩) Hlt0.out.1).trans Hc01.out.1.2⟩, (((Below.refl w1.heap.size w1).alloc (Nat.le_refl _) _).cell (p := ⟨B + 1, 0, none⟩) Hlt0.out.2).trans Hc01.out.2.1, (((Below.refl w1.heap.size w1).alloc (Nat.le_refl _) _).cell (p := ⟨B + 1, 0 + 1, none⟩) Hlt0.out.2).trans Hc01.out.2.2⟩) (fun hHeld => ?_)
      clear hK K
      (try simp only [Act.put, List.setIfInBounds_toArray, List.set_cons_zero, List.set_cons_succ])
      refine wpAnyH_ready (rs := [9]) (by kernel_rfl) (by simp) ?_
      refine AllReadyH.cons rfl (fun K hK => ?_) AllReadyH.nil
      go_simp
      go_wp2_with (go_at_call 13; refine (HV.out w5).mono ?_; rintro e w6 ⟨rfl, hb6⟩; have Hb6 := Lib.hid (Hb5.out.trans (hb6.mono Hb5.out.size)); clear hb6)
      refine hK.out _ _ (by first | exact Hc01.out | exact ⟨⟨(Hb7.out.cell (p := ⟨B, 0, none⟩) Hlt0.out.1).trans Hc01.out.1.1, (Hb7.out.cell (p := ⟨B, 0 + 1, none⟩) Hlt0.out.1).trans Hc01.out.1.2⟩, (Hb7.out.cell (p := ⟨B + 1, 0, none⟩) Hlt0.out.2).trans Hc01.out.2.1, (Hb7.out.cell (p := ⟨B + 1, 0 + 1, none⟩) Hlt0.out.2).trans Hc01.out.2.2⟩ | exact ⟨⟨(Hb6.out.cell (p := ⟨B, 0, none⟩) Hlt0.out.1).trans Hc01.out.1.1, (Hb6.out.cell (p := ⟨B, 0 + 1, none⟩) Hlt0.out.1).trans Hc01.out.1.2⟩, (Hb6.out.cell (p := ⟨B + 1, 0, none⟩) Hlt0.out.2).trans Hc01.out.2.1, (Hb6.out.cell (p := ⟨B + 1, 0 + 1, none⟩) Hlt0.out.2).trans Hc01.out.2.2⟩ | exact ⟨⟨(Hb5.out.cell (p := ⟨B, 0, none⟩) Hlt0.out.1).trans Hc01.out.1.1, (Hb5.out.cell (p := ⟨B, 0 + 1, none⟩) Hlt0.out.1).trans Hc01.out.1.2⟩, (Hb5.out.cell (p := ⟨B + 1, 0, none⟩) Hlt0.out.2).trans Hc01.out.2.1, (Hb5.out.cell (p := ⟨B + 1, 0 + 1, none⟩) Hlt0.out.2).trans Hc01.out.2.2⟩ | exact ⟨⟨(Hb4.out.cell (p := ⟨B, 0, none⟩) Hlt0.out.1).trans Hc01.out.1.1, (Hb4.out.cell (p := ⟨B, 0 + 1, none⟩) Hlt0.out.1).trans Hc01.out.1.2⟩, (Hb4.out.cell (p := ⟨B + 1, 0, none⟩) Hlt0.out.2).trans Hc01.out.2.1, (Hb4.out.cell (p := ⟨B + 1, 0 + 1, none⟩) Hlt0.out.2).trans Hc01.out.2.2⟩ | exact ⟨⟨((Hb6.out.alloc Hb6.out.size _).cell (p := ⟨B, 0, none⟩) Hlt0.out.1).trans Hc01.out.1.1, ((Hb6.out.alloc Hb6.out.size _).cell (p := ⟨B, 0 + 1, none⟩) Hlt0.out.1).trans Hc01.out.1.2⟩, ((Hb6.out.alloc Hb6.out.size _).cell (p := ⟨B + 1, 0, none⟩) Hlt0.out.2).trans Hc01.out.2.1, ((Hb6.out.alloc Hb6.out.size _).cell (p := ⟨B + 1, 0 + 1, none⟩) Hlt0.out.2).trans Hc01.out.2.2⟩ | exact ⟨⟨(((Below.refl w1.heap.size w1).alloc (Nat.le_refl _) _).cell (p := ⟨B, 0, none⟩) Hlt0.out.1).trans Hc01.out.1.1, (((Below.refl w1.heap.size w1).alloc (Nat.le_refl _) _).cell (p := ⟨B, 0 + 1, none⟩) Hlt0.out.1).trans Hc01.out.1.2⟩, (((Below.refl w1.heap.size w1).alloc (Nat.le_refl _) _).cell (p := ⟨B + 1, 0, none⟩) Hlt0.out.2).trans Hc01.out.2.1, (((Below.refl w1.heap.size w1).alloc (Nat.le_refl _) _).cell (p := ⟨B + 1, 0 + 1, none⟩) Hlt0.out.2).trans Hc01.out.2.2⟩) (fun hHeld => ?_)
      clear hK K
      (try simp only [Act.put, List.setIfInBounds_toArray, List.set_cons_zero, List.set_cons_succ])
      refine take_want 10 (.bool false) rfl rfl (by kernel_rfl) (by kernel_rfl) (by kernel_rfl) (fun _ _ _ h => h) (by rfl) (by assumption) ?_ ?_
      · intro w hSw; (try dsimp only at hSw); go_simp
      (try simp only [Act.put, List.setIfInBounds_toArray, List.set_cons_zero, List.set_cons_succ])
      refine take_skip 11 rfl rfl (by kernel_rfl) (by kernel_rfl) (by kernel_rfl) (fun _ _ _ h => h) (by rfl) (by assumption) ?_
      (try simp only [Act.put, List.setIfInBounds_toArray, List.set_cons_zero, List.set_cons_succ])
      refine take_skip 12 rfl rfl (by kernel_rfl) (by kernel_rfl) (by kernel_rfl) (fun _ _ _ h => h) (by rfl) (by assumption) ?_
      (try simp only [Act.put, List.setIfInBounds_toArray, List.set_cons_zero, List.set_cons_succ])
      refine take_skip 13 rfl rfl (by kernel_rfl) (by kernel_rfl) (by kernel_rfl) (fun _ _ _ h => h) (by rfl) (by assumption) ?_
      (try simp only [Act.put, List.setIfInBounds_toArray, List.set_cons_zero, List.set_cons_succ])
      refine take_skip 14 rfl rfl (by kernel_rfl) (by kernel_rfl) (by kernel_rfl) (fun _ _ _ h => h) (by rfl) (by assumption) ?_
      (try simp only [Act.put, List.setIfInBounds_toArray, List.set_cons_zero, List.set_cons_succ])
      refine take_want 15 (.bool false) rfl rfl (by kernel_rfl) (by kernel_rfl) (by kernel_rfl) (fun _ _ _ h => h) (by rfl) (by assumption) ?_ ?_
      · intro w hSw; (try dsimp only at hSw); go_simp
      (try simp only [Act.put, List.setIfInBounds_toArray, List.set_cons_zero, List.set_cons_succ])
      refine take_want 16 (.bool true) rfl rfl (by kernel_rfl) (by kernel_rfl) (by kernel_rfl) (fun _ _ _ h => h) (by rfl) (by assumption) ?_ ?_
      · intro w hSw; (try dsimp only at hSw); go_simp
      (try simp only [Act.put, List.setIfInBounds_toArray, List.set_cons_zero, List.set_cons_succ])
      refine take_want 17 (.bool true) rfl rfl (by kernel_rfl) (by kernel_rfl) (by kernel_rfl) (fun _ _ _ h => h) (by rfl) (by assumption) ?_ ?_
      · intro w hSw; (try dsimp only at hSw); go_simp
      (try simp only [Act.put, List.setIfInBounds_toArray, List.set_cons_zero, List.set_cons_succ])
      refine take_want 18 (.bool true) rfl rfl (by kernel_rfl) (by kernel_rfl) (by kernel_rfl) (fun _ _ _ h => h) (by rfl) (by assumption) ?_ ?_
      · intro w hSw; (try dsimp only at hSw); go_simp
      (try simp only [Act.put, List.setIfInBounds_toArray, List.set_cons_zero, List.set_cons_succ])
      refine wpAnyH_done (by kernel_rfl) ?_ _
      refine NoPanic.normal ?_
      go_wp2
      go_ret
      exact ⟨rfl, by rw [hB]; exact Hb1.out.trans (Hb6.out.mono HB1.out)⟩
  · have Hsm := Lib.hid hsm
    clear hsm
    go_wp2_with fail
    refine wp_region_noPanic ?_
    refine wp_region_held_drew (S := (fun w' => (w'.cell? ⟨B, 0, none⟩ = some (.string (bs s.1)) ∧ w'.cell? ⟨B, 0 + 1, none⟩ = some (.string (bs s.2))) ∧ w'.cell? ⟨B + 1, 0, none⟩ = some (.string (bs t.1)) ∧ w'.cell? ⟨B + 1, 0 + 1, none⟩ = some (.string (bs t.2)))) (by kernel_rfl) Hc01.out (fun hHeld => ?_)
    refine take_want 0 (.agg #[.string (bs s.1), .string (bs s.2)]) rfl rfl (by kernel_rfl) (by kernel_rfl) (by kernel_rfl) (fun _ _ _ h => h) (by rfl) (by assumption) ?_ ?_
    · intro w hSw; (try dsimp only at hSw); go_simp
    (try simp only [Act.put, List.setIfInBounds_toArray, List.set_cons_zero, List.set_cons_succ])
    refine take_want 1 (.agg #[.string (bs t.1), .string (bs t.2)]) rfl rfl (by kernel_rfl) (by kernel_rfl) (by kernel_rfl) (fun _ _ _ h => h) (by rfl) (by assumption) ?_ ?_
    · intro w hSw; (try dsimp only at hSw); go_simp
    (try simp only [Act.put, List.setIfInBounds_toArray, List.set_cons_zero, List.set_cons_succ])
    refine wpAnyH_ready (rs := [2]) (by kernel_rfl) (by simp) ?_
    refine AllReadyH.cons rfl (fun K hK => ?_) AllReadyH.nil
    go_simp
    refine hK.out _ _ (by first | exact Hc01.out | exact ⟨⟨(Hb7.out.cell (p := ⟨B, 0, none⟩) Hlt0.out.1).trans Hc01.out.1.1, (Hb7.out.cell (p := ⟨B, 0 + 1, none⟩) Hlt0.out.1).trans Hc01.out.1.2⟩, (Hb7.out.cell (p := ⟨B + 1, 0, none⟩) Hlt0.out.2).trans Hc01.out.2.1, (Hb7.out.cell (p := ⟨B + 1, 0 + 1, none⟩) Hlt0.out.2).trans Hc01.out.2.2⟩ | exact ⟨⟨(Hb6.out.cell (p := ⟨B, 0, none⟩) Hlt0.out.1).trans Hc01.out.1.1, (Hb6.out.cell (p := ⟨B, 0 + 1, none⟩) Hlt0.out.1).trans Hc01.out.1.2⟩, (Hb6.out.cell (p := ⟨B + 1, 0, none⟩) Hlt0.out.2).trans Hc01.out.2.1, (Hb6.out.cell (p := ⟨B + 1, 0 + 1, none⟩) Hlt0.out.2).trans Hc01.out.2.2⟩ | exact ⟨⟨(Hb5.out.cell (p := ⟨B, 0, none⟩) Hlt0.out.1).trans Hc01.out.1.1, (Hb5.out.cell (p := ⟨B, 0 + 1, none⟩) Hlt0.out.1).trans Hc01.out.1.2⟩, (Hb5.out.cell (p := ⟨B + 1, 0, none⟩) Hlt0.out.2).trans Hc01.out.2.1, (Hb5.out.cell (p := ⟨B + 1, 0 + 1, none⟩) Hlt0.out.2).trans Hc01.out.2.2⟩ | exact ⟨⟨(Hb4.out.cell (p := ⟨B, 0, none⟩) Hlt0.out.1).trans Hc01.out.1.1, (Hb4.out.cell (p := ⟨B, 0 + 1, none⟩) Hlt0.out.1).trans Hc01.out.1.2⟩, (Hb4.out.cell (p := ⟨B + 1, 0, none⟩) Hlt0.out.2).trans Hc01.out.2.1, (Hb4.out.cell (p := ⟨B + 1, 0 + 1, none⟩) Hlt0.out.2).trans Hc01.out.2.2⟩ | exact ⟨⟨((Hb6.out.alloc Hb6.out.size _).cell (p := ⟨B, 0, none⟩) Hlt0.out.1).trans Hc01.out.1.1, ((Hb6.out.alloc Hb6.out.size _).cell (p := ⟨B, 0 + 1, none⟩) Hlt0.out.1).trans Hc01.out.1.2⟩, ((Hb6.out.alloc Hb6.out.size _).cell (p := ⟨B + 1, 0, none⟩) Hlt0.out.2).trans Hc01.out.2.1, ((Hb6.out.alloc Hb6.out.size _).cell (p := ⟨B + 1, 0 + 1, none⟩) Hlt0.out.2).trans Hc01.out.2.2⟩ | exact ⟨⟨(((Below.refl w1.heap.size w1).alloc (Nat.le_refl _) _).cell (p := ⟨B, 0, none⟩) Hlt0.out.1).trans Hc01.out.1.1, (((Below.refl w1.heap.size w1).alloc (Nat.le_refl _) _).cell (p := ⟨B, 0 + 1, none⟩) Hlt0.out.1).trans Hc01.out.1.2⟩, (((Below.refl w1.heap.size w1).alloc (Nat.le_refl _) _).cell (p := ⟨B + 1, 0, none⟩) Hlt0.out.2).trans Hc01.out.2.1, (((Below.refl w1.heap.size w1).alloc (Nat.le_refl _) _).cell (p := ⟨B + 1, 0 + 1, none⟩) Hlt0.out.2).trans Hc01.out.2.2⟩) (fun hHeld => ?_)
    clear hK K
    (try simp only [Act.put, List.setIfInBounds_toArray, List.set_cons_zero, List.set_cons_succ])
    refine wpAnyH_ready (rs := [3]) (by kernel_rfl) (by simp) ?_
    refine AllReadyH.cons rfl (fun K hK => ?_) AllReadyH.nil
    go_simp
    go_wp2_with (go_at_call 11; refine (great_yes [s, t] [] _ none 2 0 2 0 _ rfl rfl (by first | exact row_drew (row_new _ _ _) | exact row_new _ _ _) (Hnil.out _) (by omega) Hsm.out).mono ?_; rintro e w4 ⟨rfl, hb4⟩; have Hb4 : Hid (Below w1.heap.size w1 w4) := Lib.hid (((Below.refl w1.heap.size w1).alloc (Nat.le_refl _) _).drew.trans (hb4.mono ((Below.refl w1.heap.size w1).alloc (Nat.le_refl _) _).drew.size)); clear hb4)
    refine hK.out _ _ (by first | exact Hc01.out | exact ⟨⟨(Hb7.out.cell (p := ⟨B, 0, none⟩) Hlt0.out.1).trans Hc01.out.1.1, (Hb7.out.cell (p := ⟨B, 0 + 1, none⟩) Hlt0.out.1).trans Hc01.out.1.2⟩, (Hb7.out.cell (p := ⟨B + 1, 0, none⟩) Hlt0.out.2).trans Hc01.out.2.1, (Hb7.out.cell (p := ⟨B + 1, 0 + 1, none⟩) Hlt0.out.2).trans Hc01.out.2.2⟩ | exact ⟨⟨(Hb6.out.cell (p := ⟨B, 0, none⟩) Hlt0.out.1).trans Hc01.out.1.1, (Hb6.out.cell (p := ⟨B, 0 + 1, none⟩) Hlt0.out.1).trans Hc01.out.1.2⟩, (Hb6.out.cell (p := ⟨B + 1, 0, none⟩) Hlt0.out.2).trans Hc01.out.2.1, (Hb6.out.cell (p := ⟨B + 1, 0 + 1, none⟩) Hlt0.out.2).trans Hc01.out.2.2⟩ | exact ⟨⟨(Hb5.out.cell (p := ⟨B, 0, none⟩) Hlt0.out.1).trans Hc01.out.1.1, (Hb5.out.cell (p := ⟨B, 0 + 1, none⟩) Hlt0.out.1).trans Hc01.out.1.2⟩, (Hb5.out.cell (p := ⟨B + 1, 0, none⟩) Hlt0.out.2).trans Hc01.out.2.1, (Hb5.out.cell (p := ⟨B + 1, 0 + 1, none⟩) Hlt0.out.2).trans Hc01.out.2.2⟩ | exact ⟨⟨(Hb4.out.cell (p := ⟨B, 0, none⟩) Hlt0.out.1).trans Hc01.out.1.1, (Hb4.out.cell (p := ⟨B, 0 + 1, none⟩) Hlt0.out.1).trans Hc01.out.1.2⟩, (Hb4.out.cell (p := ⟨B + 1, 0, none⟩) Hlt0.out.2).trans Hc01.out.2.1, (Hb4.out.cell (p := ⟨B + 1, 0 + 1, none⟩) Hlt0.out.2).trans Hc01.out.2.2⟩ | exact ⟨⟨((Hb6.out.alloc Hb6.out.size _).cell (p := ⟨B, 0, none⟩) Hlt0.out.1).trans Hc01.out.1.1, ((Hb6.out.alloc Hb6.out.size _).cell (p := ⟨B, 0 + 1, none⟩) Hlt0.out.1).trans Hc01.out.1.2⟩, ((Hb6.out.alloc Hb6.out.size _).cell (p := ⟨B + 1, 0, none⟩) Hlt0.out.2).trans Hc01.out.2.1, ((Hb6.out.alloc Hb6.out.size _).cell (p := ⟨B + 1, 0 + 1, none⟩) Hlt0.out.2).trans Hc01.out.2.2⟩ | exact ⟨⟨(((Below.refl w1.heap.size w1).alloc (Nat.le_refl _) _).cell (p := ⟨B, 0, none⟩) Hlt0.out.1).trans Hc01.out.1.1, (((Below.refl w1.heap.size w1).alloc (Nat.le_refl _) _).cell (p := ⟨B, 0 + 1, none⟩) Hlt0.out.1).trans Hc01.out.1.2⟩, (((Below.refl w1.heap.size w1).alloc (Nat.le_refl _) _).cell (p := ⟨B + 1, 0, none⟩) Hlt0.out.2).trans Hc01.out.2.1, (((Below.refl w1.heap.size w1).alloc (Nat.le_refl _) _).cell (p := ⟨B + 1, 0 + 1, none⟩) Hlt0.out.2).trans Hc01.out.2.2⟩) (fun hHeld => ?_)
    clear hK K
    (try simp only [Act.put, List.setIfInBounds_toArray, List.set_cons_zero, List.set_cons_succ])
    refine take_want 4 (.bool true) rfl rfl (by kernel_rfl) (by kernel_rfl) (by kernel_rfl) (fun _ _ _ h => h) (by rfl) (by assumption) ?_ ?_
    · intro w hSw; (try dsimp only at hSw); go_simp
    (try simp only [Act.put, List.setIfInBounds_toArray, List.set_cons_zero, List.set_cons_succ])
    refine take_skip 5 rfl rfl (by kernel_rfl) (by kernel_rfl) (by kernel_rfl) (fun _ _ _ h => h) (by rfl) (by assumption) ?_
    (try simp only [Act.put, List.setIfInBounds_toArray, List.set_cons_zero, List.set_cons_succ])
    refine take_skip 6 rfl rfl (by kernel_rfl) (by kernel_rfl) (by kernel_rfl) (fun _ _ _ h => h) (by rfl) (by assumption) ?_
    (try simp only [Act.put, List.setIfInBounds_toArray, List.set_cons_zero, List.set_cons_succ])
    refine take_skip 7 rfl rfl (by kernel_rfl) (by kernel_rfl) (by kernel_rfl) (fun _ _ _ h => h) (by rfl) (by assumption) ?_
    (try simp only [Act.put, List.setIfInBounds_toArray, List.set_cons_zero, List.set_cons_succ])
    refine take_skip 8 rfl rfl (by kernel_rfl) (by kernel_rfl) (by kernel_rfl) (fun _ _ _ h => h) (by rfl) (by assumption) ?_
    (try simp only [Act.put, List.setIfInBounds_toArray, List.set_cons_zero, List.set_cons_succ])
    refine take_skip 9 rfl rfl (by kernel_rfl) (by kernel_rfl) (by kernel_rfl) (fun _ _ _ h => h) (by rfl) (by assumption) ?_
    (try simp only [Act.put, List.setIfInBounds_toArray, List.set_cons_zero, List.set_cons_succ])
    refine take_skip 10 rfl rfl (by kernel_rfl) (by kernel_rfl) (by kernel_rfl) (fun _ _ _ h => h) (by rfl) (by assumption) ?_
    (try simp only [Act.put, List.setIfInBounds_toArray, List.set_cons_zero, List.set_cons_succ])
    refine take_skip 11 rfl rfl (by kernel_rfl) (by kernel_rfl) (by kernel_rfl) (fun _ _ _ h => h) (by rfl) (by assumption) ?_
    (try simp only [Act.put, List.setIfInBounds_toArray, List.set_cons_zero, List.set_cons_succ])
    refine take_skip 12 rfl rfl (by kernel_rfl) (by kernel_rfl) (by kernel_rfl) (fun _ _ _ h => h) (by rfl) (by assumption) ?_
    (try simp only [Act.put, List.setIfInBounds_toArray, List.set_cons_zero, List.set_cons_succ])
    refine take_skip 13 rfl rfl (by kernel_rfl) (by kernel_rfl) (by kernel_rfl) (fun _ _ _ h => h) (by rfl) (by assumption) ?_
    (try simp only [Act.put, List.setIfInBounds_toArray, List.set_cons_zero, List.set_cons_succ])
    refine take_skip 14 rfl rfl (by kernel_rfl) (by kernel_rfl) (by kernel_rfl) (fun _ _ _ h => h) (by rfl) (by assumption) ?_
    (try simp only [Act.put, List.setIfInBounds_toArray, List.set_cons_zero, List.set_cons_succ])
    refine take_skip 15 rfl rfl (by kernel_rfl) (by kernel_rfl) (by kernel_rfl) (fun _ _ _ h => h) (by rfl) (by assumption) ?_
    (try simp only [Act.put, List.setIfInBounds_toArray, List.set_cons_zero, List.set_cons_succ])
    refine take_skip 16 rfl rfl (by kernel_rfl) (by kernel_rfl) (by kernel_rfl) (fun _ _ _ h => h) (by rfl) (by assumption) ?_
    (try simp only [Act.put, List.setIfInBounds_toArray, List.set_cons_zero, List.set_cons_succ])
    refine take_want 17 (.bool true) rfl rfl (by kernel_rfl) (by kernel_rfl) (by kernel_rfl) (fun _ _ _ h => h) (by rfl) (by assumption) ?_ ?_
    · intro w hSw; (try dsimp only at hSw); go_simp
    (try simp only [Act.put, List.setIfInBounds_toArray, List.set_cons_zero, List.set_cons_succ])
    refine take_want 18 (.bool true) rfl rfl (by kernel_rfl) (by kernel_rfl) (by kernel_rfl) (fun _ _ _ h => h) (by rfl) (by assumption) ?_ ?_
    · intro w hSw; (try dsimp only at hSw); go_simp
    (try simp only [Act.put, List.setIfInBounds_toArray, List.set_cons_zero, List.set_cons_succ])
    refine wpAnyH_done (by kernel_rfl) ?_ _
    refine NoPanic.normal ?_
    go_wp2
    go_ret
    exact ⟨rfl, by rw [hB]; exact Hb1.out.trans (Hb4.out.mono HB1.out)⟩
end Go.Proofs.Ytfjgikcbngfhmaa
