/-
  SpanHas walked, by what is asked of the program's own functions.
-/
import Derived.Test.YtfjgikcbngfhmaaSS
namespace Go.Proofs.Ytfjgikcbngfhmaa
open Go.RowKit
set_option linter.unusedSimpArgs false
set_option linter.unusedVariables false

theorem row_drew {w : World} {A : Option Addr} {cs : List Value} (h : RowAt w A cs) : RowAt w.drew A cs := h

set_option maxRecDepth 100000 in
set_option maxHeartbeats 8000000 in
theorem has_law (G : Good) (s : Sp) (k : List UInt8) (w : World) : Calls Try.prog 3 #[spV s, .string (bs k)] w (Laws w) := by
  have HV := Lib.hid (fun W => G.right s W)
  have HH := Lib.hid (fun W => G.has s k W)
  have HV' := Lib.hid (fun W => refvalid_any s W)
  have HH' := Lib.hid (fun W => refhas_any s k W)
  have HG := Lib.hid G
  unfold spV at *
  obtain ⟨wb, hwb⟩ : ∃ wb, wb = w.alloc (.cells #[.string (bs s.1), .string (bs s.2)] 23) := ⟨_, rfl⟩
  have Hbx : Hid (RowAt wb (some ⟨w.heap.size, 0, none⟩) [.string (bs s.1), .string (bs s.2)] ∧ Below w.heap.size w wb) := Lib.hid (by rw [hwb]; exact ⟨row_new _ _ _, (Below.refl _ _).alloc (Nat.le_refl _) _⟩)
  clear G
  go_enter Try.func3, Try.ntmps3
  go_wp2_with fail
  rw [← hwb]
  refine (awake_any HG.out wb).mono ?_
  rintro e w1 ⟨rfl, hb1⟩
  have Hb1 : Hid (Below w.heap.size w w1) := Lib.hid (Hbx.out.2.trans (hb1.mono Hbx.out.2.size))
  have Hbox : Hid (RowAt w1 (some ⟨w.heap.size, 0, none⟩) [.string (bs s.1), .string (bs s.2)]) := Lib.hid (Hbx.out.1.below hb1 (Nat.le_refl _))
  have cc : w.heap.size < w1.heap.size ∧ w1.cell? ⟨w.heap.size, 0, none⟩ = some (.string (bs s.1)) ∧ w1.cell? ⟨w.heap.size, 0 + 1, none⟩ = some (.string (bs s.2)) := by
    obtain ⟨b, off, e, hl, h0⟩ := Hbox.out 0 _ rfl
    obtain ⟨b', off', e', _, h1⟩ := Hbox.out 1 _ rfl
    injection e with e; injection e with e1 e2; subst e1; subst e2
    injection e' with e'; injection e' with e1 e2; subst e1; subst e2
    exact ⟨hl, h0, h1⟩
  obtain ⟨hlt0, c0, c1⟩ := cc
  have Hc01 := Lib.hid (And.intro c0 c1)
  have Hlt0 := Lib.hid hlt0
  have HB1 : Hid (w.heap.size ≤ w1.heap.size) := Lib.hid (Nat.le_of_lt hlt0)
  clear hb1 hwb Hbx hlt0
  generalize hB : w.heap.size = B at *
  by_cases hsm : smallL [s] [k]
  · have Hsm := Lib.hid hsm
    generalize validL s = v at HV HV'
    generalize hasL s k = c at HH HH'
    clear hsm
    go_wp2_with fail
    go_region_held3 (fun w' => w'.cell? ⟨B, 0, none⟩ = some (.string (bs s.1)) ∧ w'.cell? ⟨B, 0 + 1, none⟩ = some (.string (bs s.2)))
      (first
        | exact ⟨c0, c1⟩
        | exact ⟨(Hb8.out.cell (p := ⟨B, 0, none⟩) Hlt0.out).trans Hc01.out.1, (Hb8.out.cell (p := ⟨B, 0 + 1, none⟩) Hlt0.out).trans Hc01.out.2⟩
        | exact ⟨(Hb7.out.cell (p := ⟨B, 0, none⟩) Hlt0.out).trans Hc01.out.1, (Hb7.out.cell (p := ⟨B, 0 + 1, none⟩) Hlt0.out).trans Hc01.out.2⟩
        | exact ⟨(Hb6.out.cell (p := ⟨B, 0, none⟩) Hlt0.out).trans Hc01.out.1, (Hb6.out.cell (p := ⟨B, 0 + 1, none⟩) Hlt0.out).trans Hc01.out.2⟩
        | exact ⟨(Hb5.out.cell (p := ⟨B, 0, none⟩) Hlt0.out).trans Hc01.out.1, (Hb5.out.cell (p := ⟨B, 0 + 1, none⟩) Hlt0.out).trans Hc01.out.2⟩
        | exact ⟨(Hb4.out.cell (p := ⟨B, 0, none⟩) Hlt0.out).trans Hc01.out.1, (Hb4.out.cell (p := ⟨B, 0 + 1, none⟩) Hlt0.out).trans Hc01.out.2⟩
        | exact ⟨(((Below.refl w1.heap.size w1).alloc (Nat.le_refl _) _).cell (p := ⟨B, 0, none⟩) Hlt0.out).trans Hc01.out.1, (((Below.refl w1.heap.size w1).alloc (Nat.le_refl _) _).cell (p := ⟨B, 0 + 1, none⟩) Hlt0.out).trans Hc01.out.2⟩
        | exact ⟨((((Below.refl w1.heap.size w1).alloc (Nat.le_refl _) _).alloc (by first | (simp; done) | (simp; omega)) _).cell (p := ⟨B, 0, none⟩) Hlt0.out).trans Hc01.out.1, ((((Below.refl w1.heap.size w1).alloc (Nat.le_refl _) _).alloc (by first | (simp; done) | (simp; omega)) _).cell (p := ⟨B, 0 + 1, none⟩) Hlt0.out).trans Hc01.out.2⟩
        | go_keep)
      (first
        | (go_at_call 15; refine (HH'.out w7).mono ?_; rintro e w8 ⟨rfl, hb8⟩; have Hb8 := Lib.hid (Hb7.out.trans (hb8.mono Hb7.out.size)); clear hb8)
        | (go_at_call 14; refine (HH.out w6).mono ?_; rintro e w7 ⟨rfl, hb7⟩; have Hb7 := Lib.hid (Hb6.out.trans (hb7.mono Hb6.out.size)); clear hb7)
        | (go_at_call 13; refine (HV'.out w5).mono ?_; rintro e w6 ⟨rfl, hb6⟩; have Hb6 := Lib.hid (Hb5.out.trans (hb6.mono Hb5.out.size)); clear hb6)
        | (go_at_call 12; refine (HV.out w4).mono ?_; rintro e w5 ⟨rfl, hb5⟩; have Hb5 := Lib.hid (Hb4.out.trans (hb5.mono Hb4.out.size)); clear hb5)
        | (go_at_call 11; refine (great_no [s] [k] _ _ 1 1 1 1 _ rfl rfl (by first | exact row_drew (row_new2 _ _ _ _) | exact row_drew (row_kept (row_new _ _ _) (Lib.alloc_old _ _ _ (by first | (simp; done) | (simp; omega))))) (by first | exact row_drew (row_new2 _ _ _ _) | exact row_drew (row_kept (row_new _ _ _) (Lib.alloc_old _ _ _ (by first | (simp; done) | (simp; omega))))) (by omega) Hsm.out).mono ?_; rintro e w4 ⟨rfl, hb4⟩; have Hb4 : Hid (Below w1.heap.size w1 w4) := Lib.hid ((((Below.refl w1.heap.size w1).alloc (Nat.le_refl _) _).alloc (by first | (simp; done) | (simp; omega)) _).drew.trans (hb4.mono (((Below.refl w1.heap.size w1).alloc (Nat.le_refl _) _).alloc (by first | (simp; done) | (simp; omega)) _).drew.size)); clear hb4))
    all_goals
      go_wp2
      go_ret
      exact ⟨rfl, by rw [hB]; exact Hb1.out.trans (Hb8.out.mono HB1.out)⟩
  · have Hsm := Lib.hid hsm
    clear hsm
    go_wp2_with fail
    refine wp_region_noPanic ?_
    refine wp_region_held_drew (S := (fun w' => w'.cell? ⟨B, 0, none⟩ = some (.string (bs s.1)) ∧ w'.cell? ⟨B, 0 + 1, none⟩ = some (.string (bs s.2)))) (by kernel_rfl) ⟨c0, c1⟩ (fun hHeld => ?_)
    refine take_want 0 (.agg #[.string (bs s.1), .string (bs s.2)]) rfl rfl (by kernel_rfl) (by kernel_rfl) (by kernel_rfl) (fun _ _ _ h => h) (by rfl) (by assumption) ?_ ?_
    · intro w hSw; (try dsimp only at hSw); go_simp
    (try simp only [Act.put, List.setIfInBounds_toArray, List.set_cons_zero, List.set_cons_succ])
    refine take_want 2 (.string (bs k)) rfl rfl (by kernel_rfl) (by kernel_rfl) (by kernel_rfl) (fun _ _ _ h => h) (by rfl) (by assumption) ?_ ?_
    · intro w hSw; (try dsimp only at hSw); go_simp
    (try simp only [Act.put, List.setIfInBounds_toArray, List.set_cons_zero, List.set_cons_succ])
    refine wpAnyH_ready (rs := [1, 3]) (by kernel_rfl) (by simp) ?_
    refine AllReadyH.cons rfl (fun K hK => ?_) (AllReadyH.cons rfl (fun K hK => ?_) AllReadyH.nil)
    · go_simp
      refine hK.out _ _ (by first | exact ⟨c0, c1⟩ | exact ⟨(Hb8.out.cell (p := ⟨B, 0, none⟩) Hlt0.out).trans Hc01.out.1, (Hb8.out.cell (p := ⟨B, 0 + 1, none⟩) Hlt0.out).trans Hc01.out.2⟩ | exact ⟨(Hb7.out.cell (p := ⟨B, 0, none⟩) Hlt0.out).trans Hc01.out.1, (Hb7.out.cell (p := ⟨B, 0 + 1, none⟩) Hlt0.out).trans Hc01.out.2⟩ | exact ⟨(Hb6.out.cell (p := ⟨B, 0, none⟩) Hlt0.out).trans Hc01.out.1, (Hb6.out.cell (p := ⟨B, 0 + 1, none⟩) Hlt0.out).trans Hc01.out.2⟩ | exact ⟨(Hb5.out.cell (p := ⟨B, 0, none⟩) Hlt0.out).trans Hc01.out.1, (Hb5.out.cell (p := ⟨B, 0 + 1, none⟩) Hlt0.out).trans Hc01.out.2⟩ | exact ⟨(Hb4.out.cell (p := ⟨B, 0, none⟩) Hlt0.out).trans Hc01.out.1, (Hb4.out.cell (p := ⟨B, 0 + 1, none⟩) Hlt0.out).trans Hc01.out.2⟩ | exact ⟨(((Below.refl w1.heap.size w1).alloc (Nat.le_refl _) _).cell (p := ⟨B, 0, none⟩) Hlt0.out).trans Hc01.out.1, (((Below.refl w1.heap.size w1).alloc (Nat.le_refl _) _).cell (p := ⟨B, 0 + 1, none⟩) Hlt0.out).trans Hc01.out.2⟩ | exact ⟨((((Below.refl w1.heap.size w1).alloc (Nat.le_refl _) _).alloc (by first | (simp; done) | (simp; omega)) _).cell (p := ⟨B, 0, none⟩) Hlt0.out).trans Hc01.out.1, ((((Below.refl w1.heap.size w1).alloc (Nat.le_refl _) _).alloc (by first | (simp; done) | (simp; omega)) _).cell (p := ⟨B, 0 + 1, none⟩) Hlt0.out).trans Hc01.out.2⟩) (fun hHeld => ?_)
      clear hK K
      (try simp only [Act.put, List.setIfInBounds_toArray, List.set_cons_zero, List.set_cons_succ])
      refine wpAnyH_ready (rs := [3]) (by kernel_rfl) (by simp) ?_
      refine AllReadyH.cons rfl (fun K hK => ?_) AllReadyH.nil
      go_simp
      refine hK.out _ _ (by first | exact ⟨c0, c1⟩ | exact ⟨(Hb8.out.cell (p := ⟨B, 0, none⟩) Hlt0.out).trans Hc01.out.1, (Hb8.out.cell (p := ⟨B, 0 + 1, none⟩) Hlt0.out).trans Hc01.out.2⟩ | exact ⟨(Hb7.out.cell (p := ⟨B, 0, none⟩) Hlt0.out).trans Hc01.out.1, (Hb7.out.cell (p := ⟨B, 0 + 1, none⟩) Hlt0.out).trans Hc01.out.2⟩ | exact ⟨(Hb6.out.cell (p := ⟨B, 0, none⟩) Hlt0.out).trans Hc01.out.1, (Hb6.out.cell (p := ⟨B, 0 + 1, none⟩) Hlt0.out).trans Hc01.out.2⟩ | exact ⟨(Hb5.out.cell (p := ⟨B, 0, none⟩) Hlt0.out).trans Hc01.out.1, (Hb5.out.cell (p := ⟨B, 0 + 1, none⟩) Hlt0.out).trans Hc01.out.2⟩ | exact ⟨(Hb4.out.cell (p := ⟨B, 0, none⟩) Hlt0.out).trans Hc01.out.1, (Hb4.out.cell (p := ⟨B, 0 + 1, none⟩) Hlt0.out).trans Hc01.out.2⟩ | exact ⟨(((Below.refl w1.heap.size w1).alloc (Nat.le_refl _) _).cell (p := ⟨B, 0, none⟩) Hlt0.out).trans Hc01.out.1, (((Below.refl w1.heap.size w1).alloc (Nat.le_refl _) _).cell (p := ⟨B, 0 + 1, none⟩) Hlt0.out).trans Hc01.out.2⟩ | exact ⟨((((Below.refl w1.heap.size w1).alloc (Nat.le_refl _) _).alloc (by first | (simp; done) | (simp; omega)) _).cell (p := ⟨B, 0, none⟩) Hlt0.out).trans Hc01.out.1, ((((Below.refl w1.heap.size w1).alloc (Nat.le_refl _) _).alloc (by first | (simp; done) | (simp; omega)) _).cell (p := ⟨B, 0 + 1, none⟩) Hlt0.out).trans Hc01.out.2⟩) (fun hHeld => ?_)
      clear hK K
      (try simp only [Act.put, List.setIfInBounds_toArray, List.set_cons_zero, List.set_cons_succ])
      refine wpAnyH_ready (rs := [4]) (by kernel_rfl) (by simp) ?_
      refine AllReadyH.cons rfl (fun K hK => ?_) AllReadyH.nil
      go_simp
      go_wp2_with (go_at_call 11; refine (great_yes [s] [k] _ _ 1 1 1 1 _ rfl rfl (by first | exact row_drew (row_new2 _ _ _ _) | exact row_drew (row_kept (row_new _ _ _) (Lib.alloc_old _ _ _ (by first | (simp; done) | (simp; omega))))) (by first | exact row_drew (row_new2 _ _ _ _) | exact row_drew (row_kept (row_new _ _ _) (Lib.alloc_old _ _ _ (by first | (simp; done) | (simp; omega))))) (by omega) Hsm.out).mono ?_; rintro e w4 ⟨rfl, hb4⟩; have Hb4 : Hid (Below w1.heap.size w1 w4) := Lib.hid ((((Below.refl w1.heap.size w1).alloc (Nat.le_refl _) _).alloc (by first | (simp; done) | (simp; omega)) _).drew.trans (hb4.mono (((Below.refl w1.heap.size w1).alloc (Nat.le_refl _) _).alloc (by first | (simp; done) | (simp; omega)) _).drew.size)); clear hb4)
      refine hK.out _ _ (by first | exact ⟨c0, c1⟩ | exact ⟨(Hb8.out.cell (p := ⟨B, 0, none⟩) Hlt0.out).trans Hc01.out.1, (Hb8.out.cell (p := ⟨B, 0 + 1, none⟩) Hlt0.out).trans Hc01.out.2⟩ | exact ⟨(Hb7.out.cell (p := ⟨B, 0, none⟩) Hlt0.out).trans Hc01.out.1, (Hb7.out.cell (p := ⟨B, 0 + 1, none⟩) Hlt0.out).trans Hc01.out.2⟩ | exact ⟨(Hb6.out.cell (p := ⟨B, 0, none⟩) Hlt0.out).trans Hc01.out.1, (Hb6.out.cell (p := ⟨B, 0 + 1, none⟩) Hlt0.out).trans Hc01.out.2⟩ | exact ⟨(Hb5.out.cell (p := ⟨B, 0, none⟩) Hlt0.out).trans Hc01.out.1, (Hb5.out.cell (p := ⟨B, 0 + 1, none⟩) Hlt0.out).trans Hc01.out.2⟩ | exact ⟨(Hb4.out.cell (p := ⟨B, 0, none⟩) Hlt0.out).trans Hc01.out.1, (Hb4.out.cell (p := ⟨B, 0 + 1, none⟩) Hlt0.out).trans Hc01.out.2⟩ | exact ⟨(((Below.refl w1.heap.size w1).alloc (Nat.le_refl _) _).cell (p := ⟨B, 0, none⟩) Hlt0.out).trans Hc01.out.1, (((Below.refl w1.heap.size w1).alloc (Nat.le_refl _) _).cell (p := ⟨B, 0 + 1, none⟩) Hlt0.out).trans Hc01.out.2⟩ | exact ⟨((((Below.refl w1.heap.size w1).alloc (Nat.le_refl _) _).alloc (by first | (simp; done) | (simp; omega)) _).cell (p := ⟨B, 0, none⟩) Hlt0.out).trans Hc01.out.1, ((((Below.refl w1.heap.size w1).alloc (Nat.le_refl _) _).alloc (by first | (simp; done) | (simp; omega)) _).cell (p := ⟨B, 0 + 1, none⟩) Hlt0.out).trans Hc01.out.2⟩) (fun hHeld => ?_)
      clear hK K
      (try simp only [Act.put, List.setIfInBounds_toArray, List.set_cons_zero, List.set_cons_succ])
      refine take_want 5 (.bool true) rfl rfl (by kernel_rfl) (by kernel_rfl) (by kernel_rfl) (fun _ _ _ h => h) (by rfl) (by assumption) ?_ ?_
      · intro w hSw; (try dsimp only at hSw); go_simp
      (try simp only [Act.put, List.setIfInBounds_toArray, List.set_cons_zero, List.set_cons_succ])
      refine take_skip 6 rfl rfl (by kernel_rfl) (by kernel_rfl) (by kernel_rfl) (fun _ _ _ h => h) (by rfl) (by assumption) ?_
      (try simp only [Act.put, List.setIfInBounds_toArray, List.set_cons_zero, List.set_cons_succ])
      refine take_skip 7 rfl rfl (by kernel_rfl) (by kernel_rfl) (by kernel_rfl) (fun _ _ _ h => h) (by rfl) (by assumption) ?_
      (try simp only [Act.put, List.setIfInBounds_toArray, List.set_cons_zero, List.set_cons_succ])
      refine take_skip 8 rfl rfl (by kernel_rfl) (by kernel_rfl) (by kernel_rfl) (fun _ _ _ h => h) (by rfl) (by assumption) ?_
      (try simp only [Act.put, List.setIfInBounds_toArray, List.set_cons_zero, List.set_cons_succ])
      refine take_skip 9 rfl rfl (by kernel_rfl) (by kernel_rfl) (by kernel_rfl) (fun _ _ _ h => h) (by rfl) (by assumption) ?_
      (try simp only [Act.put, List.setIfInBounds_toArray, List.set_cons_zero, List.set_cons_succ])
      refine take_skip 10 rfl rfl (by kernel_rfl) (by kernel_rfl) (by kernel_rfl) (fun _ _ _ h => h) (by rfl) (by assumption) ?_
      (try simp only [Act.put, List.setIfInBounds_toArray, List.set_cons_zero, List.set_cons_succ])
      refine take_skip 11 rfl rfl (by kernel_rfl) (by kernel_rfl) (by kernel_rfl) (fun _ _ _ h => h) (by rfl) (by assumption) ?_
      (try simp only [Act.put, List.setIfInBounds_toArray, List.set_cons_zero, List.set_cons_succ])
      refine take_skip 12 rfl rfl (by kernel_rfl) (by kernel_rfl) (by kernel_rfl) (fun _ _ _ h => h) (by rfl) (by assumption) ?_
      (try simp only [Act.put, List.setIfInBounds_toArray, List.set_cons_zero, List.set_cons_succ])
      refine take_skip 13 rfl rfl (by kernel_rfl) (by kernel_rfl) (by kernel_rfl) (fun _ _ _ h => h) (by rfl) (by assumption) ?_
      (try simp only [Act.put, List.setIfInBounds_toArray, List.set_cons_zero, List.set_cons_succ])
      refine take_skip 14 rfl rfl (by kernel_rfl) (by kernel_rfl) (by kernel_rfl) (fun _ _ _ h => h) (by rfl) (by assumption) ?_
      (try simp only [Act.put, List.setIfInBounds_toArray, List.set_cons_zero, List.set_cons_succ])
      refine take_skip 15 rfl rfl (by kernel_rfl) (by kernel_rfl) (by kernel_rfl) (fun _ _ _ h => h) (by rfl) (by assumption) ?_
      (try simp only [Act.put, List.setIfInBounds_toArray, List.set_cons_zero, List.set_cons_succ])
      refine take_skip 16 rfl rfl (by kernel_rfl) (by kernel_rfl) (by kernel_rfl) (fun _ _ _ h => h) (by rfl) (by assumption) ?_
      (try simp only [Act.put, List.setIfInBounds_toArray, List.set_cons_zero, List.set_cons_succ])
      refine take_skip 17 rfl rfl (by kernel_rfl) (by kernel_rfl) (by kernel_rfl) (fun _ _ _ h => h) (by rfl) (by assumption) ?_
      (try simp only [Act.put, List.setIfInBounds_toArray, List.set_cons_zero, List.set_cons_succ])
      refine take_skip 18 rfl rfl (by kernel_rfl) (by kernel_rfl) (by kernel_rfl) (fun _ _ _ h => h) (by rfl) (by assumption) ?_
      (try simp only [Act.put, List.setIfInBounds_toArray, List.set_cons_zero, List.set_cons_succ])
      refine take_skip 19 rfl rfl (by kernel_rfl) (by kernel_rfl) (by kernel_rfl) (fun _ _ _ h => h) (by rfl) (by assumption) ?_
      (try simp only [Act.put, List.setIfInBounds_toArray, List.set_cons_zero, List.set_cons_succ])
      refine take_want 20 (.bool true) rfl rfl (by kernel_rfl) (by kernel_rfl) (by kernel_rfl) (fun _ _ _ h => h) (by rfl) (by assumption) ?_ ?_
      · intro w hSw; (try dsimp only at hSw); go_simp
      (try simp only [Act.put, List.setIfInBounds_toArray, List.set_cons_zero, List.set_cons_succ])
      refine take_want 21 (.bool true) rfl rfl (by kernel_rfl) (by kernel_rfl) (by kernel_rfl) (fun _ _ _ h => h) (by rfl) (by assumption) ?_ ?_
      · intro w hSw; (try dsimp only at hSw); go_simp
      (try simp only [Act.put, List.setIfInBounds_toArray, List.set_cons_zero, List.set_cons_succ])
      refine wpAnyH_done (by kernel_rfl) ?_ _
      refine NoPanic.normal ?_
      go_wp2
      go_ret
      exact ⟨rfl, by rw [hB]; exact Hb1.out.trans (Hb4.out.mono HB1.out)⟩
    · go_simp
      refine hK.out _ _ (by first | exact ⟨c0, c1⟩ | exact ⟨(Hb8.out.cell (p := ⟨B, 0, none⟩) Hlt0.out).trans Hc01.out.1, (Hb8.out.cell (p := ⟨B, 0 + 1, none⟩) Hlt0.out).trans Hc01.out.2⟩ | exact ⟨(Hb7.out.cell (p := ⟨B, 0, none⟩) Hlt0.out).trans Hc01.out.1, (Hb7.out.cell (p := ⟨B, 0 + 1, none⟩) Hlt0.out).trans Hc01.out.2⟩ | exact ⟨(Hb6.out.cell (p := ⟨B, 0, none⟩) Hlt0.out).trans Hc01.out.1, (Hb6.out.cell (p := ⟨B, 0 + 1, none⟩) Hlt0.out).trans Hc01.out.2⟩ | exact ⟨(Hb5.out.cell (p := ⟨B, 0, none⟩) Hlt0.out).trans Hc01.out.1, (Hb5.out.cell (p := ⟨B, 0 + 1, none⟩) Hlt0.out).trans Hc01.out.2⟩ | exact ⟨(Hb4.out.cell (p := ⟨B, 0, none⟩) Hlt0.out).trans Hc01.out.1, (Hb4.out.cell (p := ⟨B, 0 + 1, none⟩) Hlt0.out).trans Hc01.out.2⟩ | exact ⟨(((Below.refl w1.heap.size w1).alloc (Nat.le_refl _) _).cell (p := ⟨B, 0, none⟩) Hlt0.out).trans Hc01.out.1, (((Below.refl w1.heap.size w1).alloc (Nat.le_refl _) _).cell (p := ⟨B, 0 + 1, none⟩) Hlt0.out).trans Hc01.out.2⟩ | exact ⟨((((Below.refl w1.heap.size w1).alloc (Nat.le_refl _) _).alloc (by first | (simp; done) | (simp; omega)) _).cell (p := ⟨B, 0, none⟩) Hlt0.out).trans Hc01.out.1, ((((Below.refl w1.heap.size w1).alloc (Nat.le_refl _) _).alloc (by first | (simp; done) | (simp; omega)) _).cell (p := ⟨B, 0 + 1, none⟩) Hlt0.out).trans Hc01.out.2⟩) (fun hHeld => ?_)
      clear hK K
      (try simp only [Act.put, List.setIfInBounds_toArray, List.set_cons_zero, List.set_cons_succ])
      refine wpAnyH_ready (rs := [1]) (by kernel_rfl) (by simp) ?_
      refine AllReadyH.cons rfl (fun K hK => ?_) AllReadyH.nil
      go_simp
      refine hK.out _ _ (by first | exact ⟨c0, c1⟩ | exact ⟨(Hb8.out.cell (p := ⟨B, 0, none⟩) Hlt0.out).trans Hc01.out.1, (Hb8.out.cell (p := ⟨B, 0 + 1, none⟩) Hlt0.out).trans Hc01.out.2⟩ | exact ⟨(Hb7.out.cell (p := ⟨B, 0, none⟩) Hlt0.out).trans Hc01.out.1, (Hb7.out.cell (p := ⟨B, 0 + 1, none⟩) Hlt0.out).trans Hc01.out.2⟩ | exact ⟨(Hb6.out.cell (p := ⟨B, 0, none⟩) Hlt0.out).trans Hc01.out.1, (Hb6.out.cell (p := ⟨B, 0 + 1, none⟩) Hlt0.out).trans Hc01.out.2⟩ | exact ⟨(Hb5.out.cell (p := ⟨B, 0, none⟩) Hlt0.out).trans Hc01.out.1, (Hb5.out.cell (p := ⟨B, 0 + 1, none⟩) Hlt0.out).trans Hc01.out.2⟩ | exact ⟨(Hb4.out.cell (p := ⟨B, 0, none⟩) Hlt0.out).trans Hc01.out.1, (Hb4.out.cell (p := ⟨B, 0 + 1, none⟩) Hlt0.out).trans Hc01.out.2⟩ | exact ⟨(((Below.refl w1.heap.size w1).alloc (Nat.le_refl _) _).cell (p := ⟨B, 0, none⟩) Hlt0.out).trans Hc01.out.1, (((Below.refl w1.heap.size w1).alloc (Nat.le_refl _) _).cell (p := ⟨B, 0 + 1, none⟩) Hlt0.out).trans Hc01.out.2⟩ | exact ⟨((((Below.refl w1.heap.size w1).alloc (Nat.le_refl _) _).alloc (by first | (simp; done) | (simp; omega)) _).cell (p := ⟨B, 0, none⟩) Hlt0.out).trans Hc01.out.1, ((((Below.refl w1.heap.size w1).alloc (Nat.le_refl _) _).alloc (by first | (simp; done) | (simp; omega)) _).cell (p := ⟨B, 0 + 1, none⟩) Hlt0.out).trans Hc01.out.2⟩) (fun hHeld => ?_)
      clear hK K
      (try simp only [Act.put, List.setIfInBounds_toArray, List.set_cons_zero, List.set_cons_succ])
      refine wpAnyH_ready (rs := [4]) (by kernel_rfl) (by simp) ?_
      refine AllReadyH.cons rfl (fun K hK => ?_) AllReadyH.nil
      go_simp
      go_wp2_with (go_at_call 11; refine (great_yes [s] [k] _ _ 1 1 1 1 _ rfl rfl (by first | exact row_drew (row_new2 _ _ _ _) | exact row_drew (row_kept (row_new _ _ _) (Lib.alloc_old _ _ _ (by first | (simp; done) | (simp; omega))))) (by first | exact row_drew (row_new2 _ _ _ _) | exact row_drew (row_kept (row_new _ _ _) (Lib.alloc_old _ _ _ (by first | (simp; done) | (simp; omega))))) (by omega) Hsm.out).mono ?_; rintro e w4 ⟨rfl, hb4⟩; have Hb4 : Hid (Below w1.heap.size w1 w4) := Lib.hid ((((Below.refl w1.heap.size w1).alloc (Nat.le_refl _) _).alloc (by first | (simp; done) | (simp; omega)) _).drew.trans (hb4.mono (((Below.refl w1.heap.size w1).alloc (Nat.le_refl _) _).alloc (by first | (simp; done) | (simp; omega)) _).drew.size)); clear hb4)
      refine hK.out _ _ (by first | exact ⟨c0, c1⟩ | exact ⟨(Hb8.out.cell (p := ⟨B, 0, none⟩) Hlt0.out).trans Hc01.out.1, (Hb8.out.cell (p := ⟨B, 0 + 1, none⟩) Hlt0.out).trans Hc01.out.2⟩ | exact ⟨(Hb7.out.cell (p := ⟨B, 0, none⟩) Hlt0.out).trans Hc01.out.1, (Hb7.out.cell (p := ⟨B, 0 + 1, none⟩) Hlt0.out).trans Hc01.out.2⟩ | exact ⟨(Hb6.out.cell (p := ⟨B, 0, none⟩) Hlt0.out).trans Hc01.out.1, (Hb6.out.cell (p := ⟨B, 0 + 1, none⟩) Hlt0.out).trans Hc01.out.2⟩ | exact ⟨(Hb5.out.cell (p := ⟨B, 0, none⟩) Hlt0.out).trans Hc01.out.1, (Hb5.out.cell (p := ⟨B, 0 + 1, none⟩) Hlt0.out).trans Hc01.out.2⟩ | exact ⟨(Hb4.out.cell (p := ⟨B, 0, none⟩) Hlt0.out).trans Hc01.out.1, (Hb4.out.cell (p := ⟨B, 0 + 1, none⟩) Hlt0.out).trans Hc01.out.2⟩ | exact ⟨(((Below.refl w1.heap.size w1).alloc (Nat.le_refl _) _).cell (p := ⟨B, 0, none⟩) Hlt0.out).trans Hc01.out.1, (((Below.refl w1.heap.size w1).alloc (Nat.le_refl _) _).cell (p := ⟨B, 0 + 1, none⟩) Hlt0.out).trans Hc01.out.2⟩ | exact ⟨((((Below.refl w1.heap.size w1).alloc (Nat.le_refl _) _).alloc (by first | (simp; done) | (simp; omega)) _).cell (p := ⟨B, 0, none⟩) Hlt0.out).trans Hc01.out.1, ((((Below.refl w1.heap.size w1).alloc (Nat.le_refl _) _).alloc (by first | (simp; done) | (simp; omega)) _).cell (p := ⟨B, 0 + 1, none⟩) Hlt0.out).trans Hc01.out.2⟩) (fun hHeld => ?_)
      clear hK K
      (try simp only [Act.put, List.setIfInBounds_toArray, List.set_cons_zero, List.set_cons_succ])
      refine take_want 5 (.bool true) rfl rfl (by kernel_rfl) (by kernel_rfl) (by kernel_rfl) (fun _ _ _ h => h) (by rfl) (by assumption) ?_ ?_
      · intro w hSw; (try dsimp only at hSw); go_simp
      (try simp only [Act.put, List.setIfInBounds_toArray, List.set_cons_zero, List.set_cons_succ])
      refine take_skip 6 rfl rfl (by kernel_rfl) (by kernel_rfl) (by kernel_rfl) (fun _ _ _ h => h) (by rfl) (by assumption) ?_
      (try simp only [Act.put, List.setIfInBounds_toArray, List.set_cons_zero, List.set_cons_succ])
      refine take_skip 7 rfl rfl (by kernel_rfl) (by kernel_rfl) (by kernel_rfl) (fun _ _ _ h => h) (by rfl) (by assumption) ?_
      (try simp only [Act.put, List.setIfInBounds_toArray, List.set_cons_zero, List.set_cons_succ])
      refine take_skip 8 rfl rfl (by kernel_rfl) (by kernel_rfl) (by kernel_rfl) (fun _ _ _ h => h) (by rfl) (by assumption) ?_
      (try simp only [Act.put, List.setIfInBounds_toArray, List.set_cons_zero, List.set_cons_succ])
      refine take_skip 9 rfl rfl (by kernel_rfl) (by kernel_rfl) (by kernel_rfl) (fun _ _ _ h => h) (by rfl) (by assumption) ?_
      (try simp only [Act.put, List.setIfInBounds_toArray, List.set_cons_zero, List.set_cons_succ])
      refine take_skip 10 rfl rfl (by kernel_rfl) (by kernel_rfl) (by kernel_rfl) (fun _ _ _ h => h) (by rfl) (by assumption) ?_
      (try simp only [Act.put, List.setIfInBounds_toArray, List.set_cons_zero, List.set_cons_succ])
      refine take_skip 11 rfl rfl (by kernel_rfl) (by kernel_rfl) (by kernel_rfl) (fun _ _ _ h => h) (by rfl) (by assumption) ?_
      (try simp only [Act.put, List.setIfInBounds_toArray, List.set_cons_zero, List.set_cons_succ])
      refine take_skip 12 rfl rfl (by kernel_rfl) (by kernel_rfl) (by kernel_rfl) (fun _ _ _ h => h) (by rfl) (by assumption) ?_
      (try simp only [Act.put, List.setIfInBounds_toArray, List.set_cons_zero, List.set_cons_succ])
      refine take_skip 13 rfl rfl (by kernel_rfl) (by kernel_rfl) (by kernel_rfl) (fun _ _ _ h => h) (by rfl) (by assumption) ?_
      (try simp only [Act.put, List.setIfInBounds_toArray, List.set_cons_zero, List.set_cons_succ])
      refine take_skip 14 rfl rfl (by kernel_rfl) (by kernel_rfl) (by kernel_rfl) (fun _ _ _ h => h) (by rfl) (by assumption) ?_
      (try simp only [Act.put, List.setIfInBounds_toArray, List.set_cons_zero, List.set_cons_succ])
      refine take_skip 15 rfl rfl (by kernel_rfl) (by kernel_rfl) (by kernel_rfl) (fun _ _ _ h => h) (by rfl) (by assumption) ?_
      (try simp only [Act.put, List.setIfInBounds_toArray, List.set_cons_zero, List.set_cons_succ])
      refine take_skip 16 rfl rfl (by kernel_rfl) (by kernel_rfl) (by kernel_rfl) (fun _ _ _ h => h) (by rfl) (by assumption) ?_
      (try simp only [Act.put, List.setIfInBounds_toArray, List.set_cons_zero, List.set_cons_succ])
      refine take_skip 17 rfl rfl (by kernel_rfl) (by kernel_rfl) (by kernel_rfl) (fun _ _ _ h => h) (by rfl) (by assumption) ?_
      (try simp only [Act.put, List.setIfInBounds_toArray, List.set_cons_zero, List.set_cons_succ])
      refine take_skip 18 rfl rfl (by kernel_rfl) (by kernel_rfl) (by kernel_rfl) (fun _ _ _ h => h) (by rfl) (by assumption) ?_
      (try simp only [Act.put, List.setIfInBounds_toArray, List.set_cons_zero, List.set_cons_succ])
      refine take_skip 19 rfl rfl (by kernel_rfl) (by kernel_rfl) (by kernel_rfl) (fun _ _ _ h => h) (by rfl) (by assumption) ?_
      (try simp only [Act.put, List.setIfInBounds_toArray, List.set_cons_zero, List.set_cons_succ])
      refine take_want 20 (.bool true) rfl rfl (by kernel_rfl) (by kernel_rfl) (by kernel_rfl) (fun _ _ _ h => h) (by rfl) (by assumption) ?_ ?_
      · intro w hSw; (try dsimp only at hSw); go_simp
      (try simp only [Act.put, List.setIfInBounds_toArray, List.set_cons_zero, List.set_cons_succ])
      refine take_want 21 (.bool true) rfl rfl (by kernel_rfl) (by kernel_rfl) (by kernel_rfl) (fun _ _ _ h => h) (by rfl) (by assumption) ?_ ?_
      · intro w hSw; (try dsimp only at hSw); go_simp
      (try simp only [Act.put, List.setIfInBounds_toArray, List.set_cons_zero, List.set_cons_succ])
      refine wpAnyH_done (by kernel_rfl) ?_ _
      refine NoPanic.normal ?_
      go_wp2
      go_ret
      exact ⟨rfl, by rw [hB]; exact Hb1.out.trans (Hb4.out.mono HB1.out)⟩
end Go.Proofs.Ytfjgikcbngfhmaa
