/-
  SpanCovers walked, by what is asked of the program's own functions.
-/
import Derived.Test.YtfjgikcbngfhmaaSQ
namespace Go.Proofs.Ytfjgikcbngfhmaa
open Go.RowKit
set_option linter.unusedSimpArgs false
set_option linter.unusedVariables false

set_option maxRecDepth 100000 in
set_option maxHeartbeats 4000000 in
theorem covers_law (G : Good) (l : List Sp) (A : Option Addr) (n cap : Nat) (s : Sp) (w : World) (hn : l.length = n) (hr : RowAt w A (spC l)) (hn32 : (1 + n) * 32 ≤ 140737488355328) : Calls Try.prog 7 #[.slice A n cap, spV s] w (Laws w) := by
  obtain ⟨i0, hi0, hz0, hz1, hz2⟩ := info_parts infoS
  unfold spV at *
  have Hn := Lib.hid hn
  have Hn1 : Hid ((s :: l).length = 1 + n) := Lib.hid (by rw [List.length_cons, hn]; omega)
  have Hsl : Hid ((spC l).length = n * 2) := Lib.hid (by rw [spC_length, hn])
  have Hnil : Hid (∀ W, RowAt W none (strC [])) := Lib.hid (fun W j v hj => by simp [strC] at hj)
  have HG := Lib.hid G
  obtain ⟨wb, hwb⟩ : ∃ wb, wb = w.alloc (.cells #[.string (bs s.1), .string (bs s.2)] 23) := ⟨_, rfl⟩
  have Hbx : Hid (RowAt wb (some ⟨w.heap.size, 0, none⟩) [.string (bs s.1), .string (bs s.2)] ∧ Below w.heap.size w wb) := Lib.hid (by rw [hwb]; exact ⟨row_new _ _ _, (Below.refl _ _).alloc (Nat.le_refl _) _⟩)
  have Hr := Lib.hid hr
  clear hn hr G
  go_enter Try.func7, Try.ntmps7
  go_wp2_with fail
  rw [← hwb]
  refine (awake_any HG.out wb).mono ?_
  rintro e w1 ⟨rfl, hb1⟩
  have Hb1 : Hid (Below w.heap.size w w1) := Lib.hid (Hbx.out.2.trans (hb1.mono Hbx.out.2.size))
  have Hr1 := Lib.hid (Hr.out.below Hb1.out (Nat.le_refl _))
  have Hbox : Hid (RowAt w1 (some ⟨w.heap.size, 0, none⟩) [.string (bs s.1), .string (bs s.2)]) := Lib.hid (Hbx.out.1.below hb1 (Nat.le_refl _))
  have cc : w.heap.size < w1.heap.size ∧ w1.cell? ⟨w.heap.size, 0, none⟩ = some (.string (bs s.1)) ∧ w1.cell? ⟨w.heap.size, 0 + 1, none⟩ = some (.string (bs s.2)) := by
    obtain ⟨b, off, e, hl, h0⟩ := Hbox.out 0 _ rfl
    obtain ⟨b', off', e', _, h1⟩ := Hbox.out 1 _ rfl
    injection e with e; injection e with e1 e2; subst e1; subst e2
    injection e' with e'; injection e' with e1 e2; subst e1; subst e2
    exact ⟨hl, h0, h1⟩
  obtain ⟨hlt0, c0, c1⟩ := cc
  have Hc01 := Lib.hid (And.intro c0 c1)
  have Hlt0 := Lib.hid hlt0
  have HB1 : Hid (w.heap.size ≤ w1.heap.size) := Lib.hid (Nat.le_of_lt hlt0)
  clear hb1 hwb Hbx Hr hlt0
  generalize hB : w.heap.size = B at *
  by_cases hsm : smallL (s :: l) []
  · have hn40 : n ≤ 40 := by have := hsm.1; rw [Hn1.out] at this; omega
    have Hsm := Lib.hid hsm
    have HC := Lib.hid (fun W (h : Below w1.heap.size w1 W) => HG.out.covers l A n cap s W Hn.out (Hr1.out.below h (Nat.le_refl _)) (by omega))
    have HR := Lib.hid (fun W (h : Below w1.heap.size w1 W) => refcovers_any l A n cap s W Hn.out (Hr1.out.below h (Nat.le_refl _)) (by omega))
    unfold spV at HC HR
    generalize coversL l s = c at HC HR
    clear hsm
    go_wp2_with fail
    go_region_held3 (fun w' => w'.cell? ⟨B, 0, none⟩ = some (.string (bs s.1)) ∧ w'.cell? ⟨B, 0 + 1, none⟩ = some (.string (bs s.2)))
      (first
        | exact ⟨c0, c1⟩
        | exact ⟨(Hb6.out.cell (p := ⟨B, 0, none⟩) Hlt0.out).trans Hc01.out.1, (Hb6.out.cell (p := ⟨B, 0 + 1, none⟩) Hlt0.out).trans Hc01.out.2⟩
        | exact ⟨(Hb5.out.cell (p := ⟨B, 0, none⟩) Hlt0.out).trans Hc01.out.1, (Hb5.out.cell (p := ⟨B, 0 + 1, none⟩) Hlt0.out).trans Hc01.out.2⟩
        | exact ⟨(Hb4.out.cell (p := ⟨B, 0, none⟩) Hlt0.out).trans Hc01.out.1, (Hb4.out.cell (p := ⟨B, 0 + 1, none⟩) Hlt0.out).trans Hc01.out.2⟩
        | exact ⟨(Hb3.out.cell (p := ⟨B, 0, none⟩) Hlt0.out).trans Hc01.out.1, (Hb3.out.cell (p := ⟨B, 0 + 1, none⟩) Hlt0.out).trans Hc01.out.2⟩
        | exact ⟨(((Below.refl w1.heap.size w1).alloc (Nat.le_refl _) _).drew.cell (p := ⟨B, 0, none⟩) Hlt0.out).trans Hc01.out.1, (((Below.refl w1.heap.size w1).alloc (Nat.le_refl _) _).drew.cell (p := ⟨B, 0 + 1, none⟩) Hlt0.out).trans Hc01.out.2⟩
        | exact ⟨(((Below.refl w1.heap.size w1).drew.alloc (Nat.le_refl _) _).cell (p := ⟨B, 0, none⟩) Hlt0.out).trans Hc01.out.1, (((Below.refl w1.heap.size w1).drew.alloc (Nat.le_refl _) _).cell (p := ⟨B, 0 + 1, none⟩) Hlt0.out).trans Hc01.out.2⟩
        | go_keep)
      (first
        | (go_at_call 19; refine (HR.out w5 Hb5.out).mono ?_; rintro e w6 ⟨rfl, hb6⟩; have Hb6 := Lib.hid (Hb5.out.trans (hb6.mono Hb5.out.size)); clear hb6)
        | (go_at_call 23; refine (HC.out w4 Hb4.out).mono ?_; rintro e w5 ⟨rfl, hb5⟩; have Hb5 := Lib.hid (Hb4.out.trans (hb5.mono Hb4.out.size)); clear hb5)
        | (go_at_call 11; refine (great_no (s :: l) [] (some ⟨g3, 0, none⟩) none (1 + n) 0 cap3 0 w3 Hn1.out rfl Hw3.out (Hnil.out _) (by omega) Hsm.out).mono ?_; rintro e w4 ⟨rfl, hb4⟩; have Hb4 := Lib.hid (Hb3.out.trans (hb4.mono Hb3.out.size)); clear hb4)
        | (refine step_behind (by rfl) _ _ _ (by rfl) w1.heap.size 23 i0 _ 2 32 Try.underlying26 hi0 hz0 hz1 hz2 rfl (by omega) (by omega) _ 1 1 (by omega) [.string (bs s.1), .string (bs s.2)] (by rfl) (by first | exact own_drew (own_one _ _ rfl) | exact own_one _ _ rfl) A n cap (spC l) (by rfl) (Hr1.out.below (B := w1.heap.size) (by first | exact ((Below.refl _ _).alloc (Nat.le_refl _) _).drew | exact (Below.refl _ _).drew.alloc (Nat.le_refl _) _) (Nat.le_refl _)) Hsl.out (spC_one l) (by omega) w1 (by first | exact ((Below.refl _ _).alloc (Nat.le_refl _) _).drew | exact (Below.refl _ _).drew.alloc (Nat.le_refl _) _) (by first | (simp; done) | (simp; omega)) ?_; intro g3 cap3 w3 hown3 hb3 _; have Hb3 := Lib.hid hb3; have Hw3 : Hid (RowAt w3 (some ⟨g3, 0, none⟩) (spC (s :: l))) := Lib.hid (own_row' hown3); clear hown3 hb3))
    all_goals
      go_wp2
      go_ret
      exact ⟨rfl, by rw [hB]; exact Hb1.out.trans (Hb6.out.mono HB1.out)⟩
  · have Hsm := Lib.hid hsm
    clear hsm
    go_wp2_with fail
    refine wp_region_noPanic ?_
    refine wp_region_held_drew (S := (fun w' => w'.cell? ⟨B, 0, none⟩ = some (.string (bs s.1)) ∧ w'.cell? ⟨B, 0 + 1, none⟩ = some (.string (bs s.2)))) (by kernel_rfl) ⟨c0, c1⟩ (fun hHeld => ?_)
    refine take_want 0 (.agg #[.string (bs s.1), .string (bs s.2)]) rfl rfl (by kernel_rfl) (by kernel_rfl) (by kernel_rfl) (fun _ _ _ h => h) (by rfl) (by assumption) ?_ ?_
    · intro w hSw; (try dsimp only at hSw); go_simp
    (try simp only [Act.put, List.setIfInBounds_toArray, List.set_cons_zero, List.set_cons_succ])
    refine take_want 2 (.slice A n cap) rfl rfl (by kernel_rfl) (by kernel_rfl) (by kernel_rfl) (fun _ _ _ h => h) (by rfl) (by assumption) ?_ ?_
    · intro w hSw; (try dsimp only at hSw); go_simp
    (try simp only [Act.put, List.setIfInBounds_toArray, List.set_cons_zero, List.set_cons_succ])
    refine wpAnyH_ready (rs := [1]) (by kernel_rfl) (by simp) ?_
    refine AllReadyH.cons rfl (fun K hK => ?_) AllReadyH.nil
    go_simp
    refine hK.out _ _ (by first | exact ⟨c0, c1⟩ | exact ⟨(Hb6.out.cell (p := ⟨B, 0, none⟩) Hlt0.out).trans Hc01.out.1, (Hb6.out.cell (p := ⟨B, 0 + 1, none⟩) Hlt0.out).trans Hc01.out.2⟩ | exact ⟨(Hb5.out.cell (p := ⟨B, 0, none⟩) Hlt0.out).trans Hc01.out.1, (Hb5.out.cell (p := ⟨B, 0 + 1, none⟩) Hlt0.out).trans Hc01.out.2⟩ | exact ⟨(Hb4.out.cell (p := ⟨B, 0, none⟩) Hlt0.out).trans Hc01.out.1, (Hb4.out.cell (p := ⟨B, 0 + 1, none⟩) Hlt0.out).trans Hc01.out.2⟩ | exact ⟨(Hb3.out.cell (p := ⟨B, 0, none⟩) Hlt0.out).trans Hc01.out.1, (Hb3.out.cell (p := ⟨B, 0 + 1, none⟩) Hlt0.out).trans Hc01.out.2⟩ | exact ⟨(((Below.refl w1.heap.size w1).alloc (Nat.le_refl _) _).drew.cell (p := ⟨B, 0, none⟩) Hlt0.out).trans Hc01.out.1, (((Below.refl w1.heap.size w1).alloc (Nat.le_refl _) _).drew.cell (p := ⟨B, 0 + 1, none⟩) Hlt0.out).trans Hc01.out.2⟩ | exact ⟨(((Below.refl w1.heap.size w1).drew.alloc (Nat.le_refl _) _).cell (p := ⟨B, 0, none⟩) Hlt0.out).trans Hc01.out.1, (((Below.refl w1.heap.size w1).drew.alloc (Nat.le_refl _) _).cell (p := ⟨B, 0 + 1, none⟩) Hlt0.out).trans Hc01.out.2⟩) (fun hHeld => ?_)
    clear hK K
    (try simp only [Act.put, List.setIfInBounds_toArray, List.set_cons_zero, List.set_cons_succ])
    refine wpAnyH_ready (rs := [3]) (by kernel_rfl) (by simp) ?_
    refine AllReadyH.cons rfl (fun K hK => ?_) AllReadyH.nil
    refine step_behind (by rfl) _ _ _ (by rfl) w1.heap.size 23 i0 _ 2 32 Try.underlying26 hi0 hz0 hz1 hz2 rfl (by omega) (by omega) _ 1 1 (by omega) [.string (bs s.1), .string (bs s.2)] (by rfl) (by first | exact own_drew (own_one _ _ rfl) | exact own_one _ _ rfl) A n cap (spC l) (by rfl) (Hr1.out.below (B := w1.heap.size) (by first | exact ((Below.refl _ _).alloc (Nat.le_refl _) _).drew | exact (Below.refl _ _).drew.alloc (Nat.le_refl _) _) (Nat.le_refl _)) Hsl.out (spC_one l) (by omega) w1 (by first | exact ((Below.refl _ _).alloc (Nat.le_refl _) _).drew | exact (Below.refl _ _).drew.alloc (Nat.le_refl _) _) (by first | (simp; done) | (simp; omega)) ?_; intro g3 cap3 w3 hown3 hb3 _
    have Hb3 := Lib.hid hb3; have Hw3 : Hid (RowAt w3 (some ⟨g3, 0, none⟩) (spC (s :: l))) := Lib.hid (own_row' hown3); clear hown3 hb3
    refine hK.out _ _ (by first | exact ⟨c0, c1⟩ | exact ⟨(Hb6.out.cell (p := ⟨B, 0, none⟩) Hlt0.out).trans Hc01.out.1, (Hb6.out.cell (p := ⟨B, 0 + 1, none⟩) Hlt0.out).trans Hc01.out.2⟩ | exact ⟨(Hb5.out.cell (p := ⟨B, 0, none⟩) Hlt0.out).trans Hc01.out.1, (Hb5.out.cell (p := ⟨B, 0 + 1, none⟩) Hlt0.out).trans Hc01.out.2⟩ | exact ⟨(Hb4.out.cell (p := ⟨B, 0, none⟩) Hlt0.out).trans Hc01.out.1, (Hb4.out.cell (p := ⟨B, 0 + 1, none⟩) Hlt0.out).trans Hc01.out.2⟩ | exact ⟨(Hb3.out.cell (p := ⟨B, 0, none⟩) Hlt0.out).trans Hc01.out.1, (Hb3.out.cell (p := ⟨B, 0 + 1, none⟩) Hlt0.out).trans Hc01.out.2⟩ | exact ⟨(((Below.refl w1.heap.size w1).alloc (Nat.le_refl _) _).drew.cell (p := ⟨B, 0, none⟩) Hlt0.out).trans Hc01.out.1, (((Below.refl w1.heap.size w1).alloc (Nat.le_refl _) _).drew.cell (p := ⟨B, 0 + 1, none⟩) Hlt0.out).trans Hc01.out.2⟩ | exact ⟨(((Below.refl w1.heap.size w1).drew.alloc (Nat.le_refl _) _).cell (p := ⟨B, 0, none⟩) Hlt0.out).trans Hc01.out.1, (((Below.refl w1.heap.size w1).drew.alloc (Nat.le_refl _) _).cell (p := ⟨B, 0 + 1, none⟩) Hlt0.out).trans Hc01.out.2⟩) (fun hHeld => ?_)
    clear hK K
    (try simp only [Act.put, List.setIfInBounds_toArray, List.set_cons_zero, List.set_cons_succ])
    refine wpAnyH_ready (rs := [4]) (by kernel_rfl) (by simp) ?_
    refine AllReadyH.cons rfl (fun K hK => ?_) AllReadyH.nil
    go_simp
    go_wp2_with (go_at_call 11; refine (great_yes (s :: l) [] (some ⟨g3, 0, none⟩) none (1 + n) 0 cap3 0 w3 Hn1.out rfl Hw3.out (Hnil.out _) (by omega) Hsm.out).mono ?_; rintro e w4 ⟨rfl, hb4⟩)
    have Hb4 := Lib.hid (Hb3.out.trans (hb4.mono Hb3.out.size))
    clear hb4
    refine hK.out _ _ (by first | exact ⟨c0, c1⟩ | exact ⟨(Hb6.out.cell (p := ⟨B, 0, none⟩) Hlt0.out).trans Hc01.out.1, (Hb6.out.cell (p := ⟨B, 0 + 1, none⟩) Hlt0.out).trans Hc01.out.2⟩ | exact ⟨(Hb5.out.cell (p := ⟨B, 0, none⟩) Hlt0.out).trans Hc01.out.1, (Hb5.out.cell (p := ⟨B, 0 + 1, none⟩) Hlt0.out).trans Hc01.out.2⟩ | exact ⟨(Hb4.out.cell (p := ⟨B, 0, none⟩) Hlt0.out).trans Hc01.out.1, (Hb4.out.cell (p := ⟨B, 0 + 1, none⟩) Hlt0.out).trans Hc01.out.2⟩ | exact ⟨(Hb3.out.cell (p := ⟨B, 0, none⟩) Hlt0.out).trans Hc01.out.1, (Hb3.out.cell (p := ⟨B, 0 + 1, none⟩) Hlt0.out).trans Hc01.out.2⟩ | exact ⟨(((Below.refl w1.heap.size w1).alloc (Nat.le_refl _) _).drew.cell (p := ⟨B, 0, none⟩) Hlt0.out).trans Hc01.out.1, (((Below.refl w1.heap.size w1).alloc (Nat.le_refl _) _).drew.cell (p := ⟨B, 0 + 1, none⟩) Hlt0.out).trans Hc01.out.2⟩ | exact ⟨(((Below.refl w1.heap.size w1).drew.alloc (Nat.le_refl _) _).cell (p := ⟨B, 0, none⟩) Hlt0.out).trans Hc01.out.1, (((Below.refl w1.heap.size w1).drew.alloc (Nat.le_refl _) _).cell (p := ⟨B, 0 + 1, none⟩) Hlt0.out).trans Hc01.out.2⟩) (fun hHeld => ?_)
    clear hK K
    (try simp only [Act.put, List.setIfInBounds_toArray, List.set_cons_zero, List.set_cons_succ])
    refine take_want 5 (.bool true) rfl rfl (by kernel_rfl) (by kernel_rfl) (by kernel_rfl) (fun _ _ _ h => h) (by rfl) (by assumption) ?_ ?_
    · intro w hSw; (try dsimp only at hSw); go_simp
    (try simp only [Act.put, List.setIfInBounds_toArray, List.set_cons_zero, List.set_cons_succ])
    refine take_skip 6 rfl rfl (by kernel_rfl) (by kernel_rfl) (by kernel_rfl) (fun _ _ _ h => h) (by rfl) (by assumption) ?_
    (try simp only [Act.put, List.setIfInBounds_toArray, List.set_cons_zero, List.set_cons_succ])
    refine take_skip 7 rfl rfl (by kernel_rfl) (by kernel_rfl) (by kernel_rfl) (fun _ _ _ h => h) (by rfl) (by assumption) ?_
    (try simp only [Act.put, List.setIfInBounds_toArray, List.set_cons_zero, List.set_cons_succ])
    refine take_skip 8 rfl rfl (by kernel_rfl) (by kernel_rfl) (by kernel_rfl) (fun _ _ _ h => h) (by rfl) (by assumption) ?_
    (try simp only [Act.put, List.setIfInBounds_toArray, List.set_cons_zero, List.set_cons_succ])
    refine take_skip 9 rfl rfl (by kernel_rfl) (by kernel_rfl) (by kernel_rfl) (fun _ _ _ h => h) (by rfl) (by assumption) ?_
    (try simp only [Act.put, List.setIfInBounds_toArray, List.set_cons_zero, List.set_cons_succ])
    refine take_skip 10 rfl rfl (by kernel_rfl) (by kernel_rfl) (by kernel_rfl) (fun _ _ _ h => h) (by rfl) (by assumption) ?_
    (try simp only [Act.put, List.setIfInBounds_toArray, List.set_cons_zero, List.set_cons_succ])
    refine take_skip 11 rfl rfl (by kernel_rfl) (by kernel_rfl) (by kernel_rfl) (fun _ _ _ h => h) (by rfl) (by assumption) ?_
    (try simp only [Act.put, List.setIfInBounds_toArray, List.set_cons_zero, List.set_cons_succ])
    refine take_skip 12 rfl rfl (by kernel_rfl) (by kernel_rfl) (by kernel_rfl) (fun _ _ _ h => h) (by rfl) (by assumption) ?_
    (try simp only [Act.put, List.setIfInBounds_toArray, List.set_cons_zero, List.set_cons_succ])
    refine take_want 13 (.bool true) rfl rfl (by kernel_rfl) (by kernel_rfl) (by kernel_rfl) (fun _ _ _ h => h) (by rfl) (by assumption) ?_ ?_
    · intro w hSw; (try dsimp only at hSw); go_simp
    (try simp only [Act.put, List.setIfInBounds_toArray, List.set_cons_zero, List.set_cons_succ])
    refine take_want 14 (.bool true) rfl rfl (by kernel_rfl) (by kernel_rfl) (by kernel_rfl) (fun _ _ _ h => h) (by rfl) (by assumption) ?_ ?_
    · intro w hSw; (try dsimp only at hSw); go_simp
    (try simp only [Act.put, List.setIfInBounds_toArray, List.set_cons_zero, List.set_cons_succ])
    refine wpAnyH_done (by kernel_rfl) ?_ _
    refine NoPanic.normal ?_
    go_wp2
    go_ret
    exact ⟨rfl, by rw [hB]; exact Hb1.out.trans (Hb4.out.mono HB1.out)⟩
end Go.Proofs.Ytfjgikcbngfhmaa
