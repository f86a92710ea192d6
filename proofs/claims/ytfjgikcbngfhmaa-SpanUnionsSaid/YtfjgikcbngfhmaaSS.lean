/-
  SpanMinus walked, by what is asked of the program's own functions.
-/
import Derived.Test.YtfjgikcbngfhmaaSR
namespace Go.Proofs.Ytfjgikcbngfhmaa
open Go.RowKit
set_option linter.unusedSimpArgs false
set_option linter.unusedVariables false

set_option maxRecDepth 100000 in
set_option maxHeartbeats 4000000 in
theorem minus_law (G : Good) (l : List Sp) (A : Option Addr) (n cap : Nat) (s : Sp) (w : World) (hn : l.length = n) (hr : RowAt w A (spC l)) (hn32 : (1 + n) * 32 ≤ 140737488355328) : Calls Try.prog 8 #[.slice A n cap, spV s] w (Laws w) := by
  obtain ⟨i0, hi0, hz0, hz1, hz2⟩ := info_parts infoS
  unfold spV at *
  have Hn := Lib.hid hn
  have Hn1 : Hid ((s :: l).length = 1 + n) := Lib.hid (by rw [List.length_cons, hn]; omega)
  have Hsl : Hid ((spC l).length = n * 2) := Lib.hid (by rw [spC_length, hn])
  have Hnil : Hid (∀ W, RowAt W none (strC [])) := Lib.hid (fun W j v hj => by simp [strC] at hj)
  have HG := Lib.hid G
  obtain ⟨wb, hwb⟩ : ∃ wb, wb = w.alloc (.cells #[.string (bs s.1), .string (bs s.2)] 23) := ⟨_, rfl⟩
  have Hbx : Hid (RowAt wb (some ⟨w.heap.size, 0, none⟩) [.string (bs s.1), .string (bs s.2)] ∧ Below w.heap.size w wb) := Lib.hid (by rw [hwb]; exact ⟨row_new _ _ _, (Below.refl _ _).alloc (Nat.le_refl _) _⟩)
  have Hr := Lib.hid hr
  clear hn hr G
  go_enter Try.func8, Try.ntmps8
  go_wp2_with fail
  rw [← hwb]
  refine (awake_any HG.out wb).mono ?_
  rintro e w1 ⟨rfl, hb1⟩
  have Hb1 : Hid (Below w.heap.size w w1) := Lib.hid (Hbx.out.2.trans (hb1.mono Hbx.out.2.size))
  have Hr1 := Lib.hid (Hr.out.below Hb1.out (Nat.le_refl _))
  have Hbox : Hid (RowAt w1 (some ⟨w.heap.size, 0, none⟩) [.string (bs s.1), .string (bs s.2)]) := Lib.hid (Hbx.out.1.below hb1 (Nat.le_refl _))
  have cc : w.heap.size < w1.heap.size ∧ w1.cell? ⟨w.heap.size, 0, none⟩ = some (.string (bs s.1)) ∧ w1.cell? ⟨w.heap.size, 0 + 1, none⟩ = some (.string (bs s.2)) := by
    obtain ⟨b, off, e, hl, h0⟩ := Hbox.out 0 _ rfl
    obtain ⟨b', off', e', _, h1⟩ := Hbox.out 1 _ rfl
    injection e with e; injection e with e1 e2; subst e1; subst e2
    injection e' with e'; injection e' with e1 e2; subst e1; subst e2
    exact ⟨hl, h0, h1⟩
  obtain ⟨hlt0, c0, c1⟩ := cc
  have Hc01 := Lib.hid (And.intro c0 c1)
  have Hlt0 := Lib.hid hlt0
  have HB1 : Hid (w.heap.size ≤ w1.heap.size) := Lib.hid (Nat.le_of_lt hlt0)
  clear hb1 hwb Hbx Hr hlt0
  generalize hB : w.heap.size = B at *
  go_wp2_with (at_builtin; refine wpList_behind rfl (.tmp 9) (.tmp 10) 26 rfl w1.heap.size 23 i0 _ 2 32 Try.underlying26 hi0 hz0 hz1 hz2 rfl (by omega) (by omega) _ 1 1 (by omega) [.string (bs s.1), .string (bs s.2)] rfl (own_one w1 _ rfl) A n cap (spC l) rfl (Hr1.out.below ((Below.refl _ _).alloc (Nat.le_refl _) _) (Nat.le_refl _)) Hsl.out (spC_one l) (by omega) w1 ((Below.refl _ _).alloc (Nat.le_refl _) _) (by simp) ?_; intro g3 cap3 w3 hown3 hb3)
  have Hw3 : Hid (RowAt w3 (some ⟨g3, 0, none⟩) (spC (s :: l))) := Lib.hid (own_row' hown3)
  have Hb3 := Lib.hid hb3
  clear hown3 hb3
  by_cases hsm : smallL (s :: l) []
  · have hn40 : n ≤ 40 := by have := hsm.1; rw [Hn1.out] at this; omega
    have Hsm := Lib.hid hsm
    have Hml : Hid ((minusL l s).length ≤ 1 + 2 * (n + 1)) := Lib.hid (minus_length l s n Hn.out)
    clear hsm
    go_wp2_with fail
    refine (great_no (s :: l) [] (some ⟨g3, 0, none⟩) none (1 + n) 0 cap3 0 w3 Hn1.out rfl Hw3.out (Hnil.out _) (by omega) Hsm.out).mono ?_
    rintro e w4 ⟨rfl, hb4⟩
    have Hb4 := Lib.hid (Hb3.out.trans (hb4.mono Hb3.out.size))
    have e40 := (Hb4.out.cell (p := ⟨B, 0, none⟩) Hlt0.out).trans Hc01.out.1
    have e41 := (Hb4.out.cell (p := ⟨B, 0 + 1, none⟩) Hlt0.out).trans Hc01.out.2
    have Hr4 := Lib.hid (Hr1.out.below Hb4.out (Nat.le_refl _))
    clear hb4 c0 c1
    go_wp2_with fail
    refine (HG.out.minus l A n cap s w4 Hn.out Hr4.out (by omega)).mono ?_
    rintro e w5 ⟨⟨A5, n5, cap5, rfl, hn5, hr5⟩, hb5⟩
    have Hb5 := Lib.hid (Hb4.out.trans (hb5.mono Hb4.out.size))
    have e50 := (Hb5.out.cell (p := ⟨B, 0, none⟩) Hlt0.out).trans Hc01.out.1
    have e51 := (Hb5.out.cell (p := ⟨B, 0 + 1, none⟩) Hlt0.out).trans Hc01.out.2
    have Hn5 := Lib.hid hn5
    have Hr5 := Lib.hid hr5
    have Hl5 := Lib.hid (Hr1.out.below Hb5.out (Nat.le_refl _))
    have hn5le : n5 ≤ 100 := by have := Hml.out; omega
    clear hb5 hn5 hr5 e40 e41
    go_wp2_with fail
    refine (refminus_any l A n cap s w5 Hn.out Hl5.out (by omega)).mono ?_
    rintro e w6 ⟨v6, rfl, ho6, hl6, hb6⟩
    obtain ⟨A6, cap6, rfl, hr6⟩ := own_row ho6
    have Hb6 := Lib.hid (Hb5.out.trans (hb6.mono Hb5.out.size))
    have e60 := (Hb6.out.cell (p := ⟨B, 0, none⟩) Hlt0.out).trans Hc01.out.1
    have e61 := (Hb6.out.cell (p := ⟨B, 0 + 1, none⟩) Hlt0.out).trans Hc01.out.2
    have Hr6 := Lib.hid hr6
    have Hm6 := Lib.hid (Hr5.out.below hb6 (Nat.le_refl _))
    rw [Hn5.out]
    clear hb6 hr6 ho6 hl6 e50 e51
    go_wp2_with fail
    refine (refsame_any (minusL l s) (minusL l s) A5 A6 n5 n5 cap5 cap6 w6 Hn5.out Hn5.out Hm6.out Hr6.out (by omega)).mono ?_
    rintro e w7 ⟨rfl, hb7⟩
    rw [decide_eq_true rfl]
    have Hb7 := Lib.hid (Hb6.out.trans (hb7.mono Hb6.out.size))
    have Hm7 := Lib.hid (Hm6.out.below hb7 (Nat.le_refl _))
    have e70 := (Hb7.out.cell (p := ⟨B, 0, none⟩) Hlt0.out).trans Hc01.out.1
    have e71 := (Hb7.out.cell (p := ⟨B, 0 + 1, none⟩) Hlt0.out).trans Hc01.out.2
    clear hb7 e60 e61
    go_wp2_with fail
    refine (HG.out.covers (minusL l s) A5 n5 cap5 s w7 Hn5.out Hm7.out (by omega)).mono ?_
    rw [minus_uncovered]
    rintro e w8 ⟨rfl, hb8⟩
    have Hb8 := Lib.hid (Hb7.out.trans (hb8.mono Hb7.out.size))
    have Hm8 := Lib.hid (Hm7.out.below hb8 (Nat.le_refl _))
    have e80 := (Hb8.out.cell (p := ⟨B, 0, none⟩) Hlt0.out).trans Hc01.out.1
    have e81 := (Hb8.out.cell (p := ⟨B, 0 + 1, none⟩) Hlt0.out).trans Hc01.out.2
    clear hb8 e70 e71
    go_wp2_with fail
    refine (HG.out.minus (minusL l s) A5 n5 cap5 s w8 Hn5.out Hm8.out (by omega)).mono ?_
    rw [minus_twice]
    rintro e w9 ⟨⟨A9, n9, cap9, rfl, hn9, hr9⟩, hb9⟩
    have Hb9 := Lib.hid (Hb8.out.trans (hb9.mono Hb8.out.size))
    have Hm9 := Lib.hid (Hm8.out.below hb9 (Nat.le_refl _))
    have Hn9 := Lib.hid hn9
    have Hr9 := Lib.hid hr9
    have hn9le : n9 ≤ 100 := by have := Hml.out; omega
    clear hb9 hn9 hr9 e80 e81
    go_wp2_with fail
    refine (refsame_any (minusL l s) (minusL l s) A9 A5 n9 n5 cap9 cap5 w9 Hn9.out Hn5.out Hr9.out Hm9.out (by omega)).mono ?_
    rintro e wx ⟨rfl, hbx⟩
    rw [decide_eq_true rfl]
    have Hbx := Lib.hid (Hb9.out.trans (hbx.mono Hb9.out.size))
    clear hbx
    go_wp2
    go_ret
    exact ⟨rfl, by rw [hB]; exact Hb1.out.trans (Hbx.out.mono HB1.out)⟩
  · have Hsm := Lib.hid hsm
    clear hsm
    go_wp2_with fail
    refine (great_yes (s :: l) [] (some ⟨g3, 0, none⟩) none (1 + n) 0 cap3 0 w3 Hn1.out rfl Hw3.out (Hnil.out _) (by omega) Hsm.out).mono ?_
    rintro e w4 ⟨rfl, hb4⟩
    have Hb4 := Lib.hid (Hb3.out.trans (hb4.mono Hb3.out.size))
    clear hb4
    go_wp2
    go_ret
    exact ⟨rfl, by rw [hB]; exact Hb1.out.trans (Hb4.out.mono HB1.out)⟩
end Go.Proofs.Ytfjgikcbngfhmaa
