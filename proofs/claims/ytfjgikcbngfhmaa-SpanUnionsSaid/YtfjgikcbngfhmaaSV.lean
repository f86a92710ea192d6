/-
  SpanKeys walked, by what is asked of the program's own functions.
-/
import Derived.Test.YtfjgikcbngfhmaaSU
namespace Go.Proofs.Ytfjgikcbngfhmaa
open Go.RowKit
set_option linter.unusedSimpArgs false
set_option linter.unusedVariables false

theorem keys_begin (p k : List UInt8) (c : Bool) (h : p.length ≤ k.length) (hc : c = hasL (p, upL p) k) : ((((bs k).extract 0 (min (p.length : Int) (k.length : Int)).toNat).toList == (bs p).toList)) = c := by
  rw [hc, show (min (p.length : Int) (k.length : Int)).toNat = p.length by omega, Bool.eq_iff_iff, under_has, beq_iff_eq, List.prefix_iff_eq_take]
  rw [bs_toList, bl_toList, bl_extract, bl_bs, List.drop_zero, Nat.sub_zero]
  exact eq_comm

set_option maxRecDepth 100000 in
set_option maxHeartbeats 4000000 in
theorem keys_law (G : Good) (p k : List UInt8) (w : World) : Calls Try.prog 4 #[.string (bs p), .string (bs k)] w (Laws w) := by
  have HG := Lib.hid G
  have Hnil : Hid (∀ W, RowAt W none (spC [])) := Lib.hid (fun W j v hj => by simp [spC] at hj)
  have sp : (bs p).size = p.length := bs_size _
  have sk : (bs k).size = k.length := bs_size _
  go_enter Try.func4, Try.ntmps4
  go_wp2_with fail
  refine (awake_any HG.out w).mono ?_
  rintro e w1 ⟨rfl, hb1⟩
  have Hb1 := Lib.hid hb1
  clear hb1
  go_wp2_with fail
  have hrow := Lib.hid (row_new w1 #[.string (bs p), .string (bs k)] 9)
  by_cases hsm : smallL [] [p, k]
  · have hp : p.length ≤ 1000 := hsm.2.2 p (by simp)
    have hk : k.length ≤ 1000 := hsm.2.2 k (by simp)
    refine (great_no [] [p, k] none (some ⟨w1.heap.size, 0, none⟩) 0 2 0 2 _ rfl rfl (Hnil.out _) hrow.out (by omega) hsm).mono ?_
    rintro e w2 ⟨rfl, hb2⟩
    have Hb2 := Lib.hid (Hb1.out.trans ((((Below.refl w1.heap.size w1).alloc (Nat.le_refl _) _).trans (hb2.mono (by simp))).mono Hb1.out.size))
    clear hb2 hrow hsm
    obtain ⟨u, hu⟩ : ∃ u, u = upL p := ⟨_, rfl⟩
    obtain ⟨c, hc⟩ : ∃ c, c = hasL (p, upL p) k := ⟨_, rfl⟩
    have HU := Lib.hid (fun W => HG.out.under p W hp)
    have HK := Lib.hid (fun W => HG.out.key p W hp)
    have HH := Lib.hid (fun W => HG.out.has (p, upL p) k W)
    have HH' := Lib.hid (fun W => HG.out.has (p, p ++ [0]) k W)
    rw [← hc] at HH
    rw [← hu] at HU HH
    rw [key_has] at HH'
    have Hup : Hid (upL p = [] ∨ ltL p (upL p) = true) := Lib.hid (up_after p)
    rw [← hu] at Hup
    
    unfold spV at HU HK HH HH'
    rw [← bsEq k p] at HH'
    generalize hq : ((bs k).toList == (bs p).toList) = q at HH'
    have Hul : Hid ((bs u).toList.isEmpty = true ∨ ((bs u).toList.isEmpty = false ∧ Op.bytesLess (bs u).toList (bs p).toList = false ∧ ((bs u).toList == (bs p).toList) = false)) := Lib.hid (by
      by_cases h : u = []
      · exact .inl (by rw [h, bs_toList]; rfl)
      · have h1 := Hup.out.resolve_left h
        refine .inr ⟨by rw [bs_toList]; cases u with | nil => exact absurd rfl h | cons a b => rfl, ?_, ?_⟩
        · rw [less_bs]; exact ltL_asymm h1
        · rw [bsEq, decide_eq_false]; rintro rfl; rw [ltL_irrefl] at h1; cases h1)
    have Hbeg : Hid (if p.length ≤ k.length then ((((bs k).extract 0 (min (p.length : Int) (k.length : Int)).toNat).toList == (bs p).toList)) = c else c = false) := Lib.hid (by
      split
      · exact keys_begin p k c (by assumption) hc
      · rw [hc]
        cases h : hasL (p, upL p) k with
        | false => rfl
        | true => have := ((under_has p k).1 h).length_le; omega)
    clear hc hu Hup
    by_cases hlen : p.length ≤ k.length
    · have hlen' : (p.length : Int) ≤ (k.length : Int) := by omega
      have hbeg := Hbeg.out
      rw [if_pos hlen] at hbeg
      rcases Hul.out with hemp | ⟨hemp, h1, h2⟩
      · go_wp2_with fail
        refine (HU.out _).mono ?_
        rintro e w3 ⟨rfl, hb3⟩
        have Hb3 := Lib.hid (Hb2.out.trans (hb3.mono Hb2.out.size))
        clear hb3
        go_wp2_with fail
        refine (HK.out _).mono ?_
        rintro e w4 ⟨rfl, hb4⟩
        have Hbx := Lib.hid (row_two ((row_new w3 #[.string (bs p), .string (bs u)] 23).below hb4 (Nat.le_refl _)))
        have Hb4 := Lib.hid ((Hb3.out.alloc Hb3.out.size (.cells #[.string (bs p), .string (bs u)] 23)).trans (hb4.mono (by have := Hb3.out.size; simp; omega)))
        clear hb4
        go_wp2_with fail
        refine (HH'.out _).mono ?_
        rintro e w5 ⟨rfl, hb5⟩
        have e0 := (hb5.cell (p := ⟨w3.heap.size, 0, none⟩) Hbx.out.1).trans Hbx.out.2.1
        have e1 := (hb5.cell (p := ⟨w3.heap.size, 0 + 1, none⟩) Hbx.out.1).trans Hbx.out.2.2
        have Hx5 := Lib.hid (Nat.lt_of_lt_of_le Hbx.out.1 hb5.size)
        have He := Lib.hid (And.intro e0 e1)
        have Hb5 := Lib.hid (Hb4.out.trans (hb5.mono Hb4.out.size))
        clear hb5
        go_wp2_with fail
        refine (HH.out _).mono ?_
        rintro e w6 ⟨rfl, hb6⟩
        have d0 := (hb6.cell (p := ⟨w3.heap.size, 0, none⟩) Hx5.out).trans He.out.1
        have d1 := (hb6.cell (p := ⟨w3.heap.size, 0 + 1, none⟩) Hx5.out).trans He.out.2
        have Hb6 := Lib.hid (Hb5.out.trans (hb6.mono Hb5.out.size))
        clear hb6 e0 e1
        go_wp2
        go_ret
        exact ⟨rfl, Hb6.out⟩
      · go_wp2_with fail
        refine (HU.out _).mono ?_
        rintro e w3 ⟨rfl, hb3⟩
        have Hb3 := Lib.hid (Hb2.out.trans (hb3.mono Hb2.out.size))
        clear hb3
        go_wp2_with fail
        refine (HK.out _).mono ?_
        rintro e w4 ⟨rfl, hb4⟩
        have Hbx := Lib.hid (row_two ((row_new w3 #[.string (bs p), .string (bs u)] 23).below hb4 (Nat.le_refl _)))
        have Hb4 := Lib.hid ((Hb3.out.alloc Hb3.out.size (.cells #[.string (bs p), .string (bs u)] 23)).trans (hb4.mono (by have := Hb3.out.size; simp; omega)))
        clear hb4
        go_wp2_with fail
        refine (HH'.out _).mono ?_
        rintro e w5 ⟨rfl, hb5⟩
        have e0 := (hb5.cell (p := ⟨w3.heap.size, 0, none⟩) Hbx.out.1).trans Hbx.out.2.1
        have e1 := (hb5.cell (p := ⟨w3.heap.size, 0 + 1, none⟩) Hbx.out.1).trans Hbx.out.2.2
        have Hx5 := Lib.hid (Nat.lt_of_lt_of_le Hbx.out.1 hb5.size)
        have He := Lib.hid (And.intro e0 e1)
        have Hb5 := Lib.hid (Hb4.out.trans (hb5.mono Hb4.out.size))
        clear hb5
        go_wp2_with fail
        refine (HH.out _).mono ?_
        rintro e w6 ⟨rfl, hb6⟩
        have d0 := (hb6.cell (p := ⟨w3.heap.size, 0, none⟩) Hx5.out).trans He.out.1
        have d1 := (hb6.cell (p := ⟨w3.heap.size, 0 + 1, none⟩) Hx5.out).trans He.out.2
        have Hb6 := Lib.hid (Hb5.out.trans (hb6.mono Hb5.out.size))
        clear hb6 e0 e1
        go_wp2
        go_ret
        exact ⟨rfl, Hb6.out⟩
    · have hlen' : ¬ (p.length : Int) ≤ (k.length : Int) := by omega
      have hbeg := Hbeg.out
      rw [if_neg hlen] at hbeg
      subst hbeg
      rcases Hul.out with hemp | ⟨hemp, h1, h2⟩
      · go_wp2_with fail
        refine (HU.out _).mono ?_
        rintro e w3 ⟨rfl, hb3⟩
        have Hb3 := Lib.hid (Hb2.out.trans (hb3.mono Hb2.out.size))
        clear hb3
        go_wp2_with fail
        refine (HK.out _).mono ?_
        rintro e w4 ⟨rfl, hb4⟩
        have Hbx := Lib.hid (row_two ((row_new w3 #[.string (bs p), .string (bs u)] 23).below hb4 (Nat.le_refl _)))
        have Hb4 := Lib.hid ((Hb3.out.alloc Hb3.out.size (.cells #[.string (bs p), .string (bs u)] 23)).trans (hb4.mono (by have := Hb3.out.size; simp; omega)))
        clear hb4
        go_wp2_with fail
        refine (HH'.out _).mono ?_
        rintro e w5 ⟨rfl, hb5⟩
        have e0 := (hb5.cell (p := ⟨w3.heap.size, 0, none⟩) Hbx.out.1).trans Hbx.out.2.1
        have e1 := (hb5.cell (p := ⟨w3.heap.size, 0 + 1, none⟩) Hbx.out.1).trans Hbx.out.2.2
        have Hx5 := Lib.hid (Nat.lt_of_lt_of_le Hbx.out.1 hb5.size)
        have He := Lib.hid (And.intro e0 e1)
        have Hb5 := Lib.hid (Hb4.out.trans (hb5.mono Hb4.out.size))
        clear hb5
        go_wp2_with fail
        refine (HH.out _).mono ?_
        rintro e w6 ⟨rfl, hb6⟩
        have d0 := (hb6.cell (p := ⟨w3.heap.size, 0, none⟩) Hx5.out).trans He.out.1
        have d1 := (hb6.cell (p := ⟨w3.heap.size, 0 + 1, none⟩) Hx5.out).trans He.out.2
        have Hb6 := Lib.hid (Hb5.out.trans (hb6.mono Hb5.out.size))
        clear hb6 e0 e1
        go_wp2
        go_ret
        exact ⟨rfl, Hb6.out⟩
      · go_wp2_with fail
        refine (HU.out _).mono ?_
        rintro e w3 ⟨rfl, hb3⟩
        have Hb3 := Lib.hid (Hb2.out.trans (hb3.mono Hb2.out.size))
        clear hb3
        go_wp2_with fail
        refine (HK.out _).mono ?_
        rintro e w4 ⟨rfl, hb4⟩
        have Hbx := Lib.hid (row_two ((row_new w3 #[.string (bs p), .string (bs u)] 23).below hb4 (Nat.le_refl _)))
        have Hb4 := Lib.hid ((Hb3.out.alloc Hb3.out.size (.cells #[.string (bs p), .string (bs u)] 23)).trans (hb4.mono (by have := Hb3.out.size; simp; omega)))
        clear hb4
        go_wp2_with fail
        refine (HH'.out _).mono ?_
        rintro e w5 ⟨rfl, hb5⟩
        have e0 := (hb5.cell (p := ⟨w3.heap.size, 0, none⟩) Hbx.out.1).trans Hbx.out.2.1
        have e1 := (hb5.cell (p := ⟨w3.heap.size, 0 + 1, none⟩) Hbx.out.1).trans Hbx.out.2.2
        have Hx5 := Lib.hid (Nat.lt_of_lt_of_le Hbx.out.1 hb5.size)
        have He := Lib.hid (And.intro e0 e1)
        have Hb5 := Lib.hid (Hb4.out.trans (hb5.mono Hb4.out.size))
        clear hb5
        go_wp2_with fail
        refine (HH.out _).mono ?_
        rintro e w6 ⟨rfl, hb6⟩
        have d0 := (hb6.cell (p := ⟨w3.heap.size, 0, none⟩) Hx5.out).trans He.out.1
        have d1 := (hb6.cell (p := ⟨w3.heap.size, 0 + 1, none⟩) Hx5.out).trans He.out.2
        have Hb6 := Lib.hid (Hb5.out.trans (hb6.mono Hb5.out.size))
        clear hb6 e0 e1
        go_wp2
        go_ret
        exact ⟨rfl, Hb6.out⟩
  · refine (great_yes [] [p, k] none (some ⟨w1.heap.size, 0, none⟩) 0 2 0 2 _ rfl rfl (Hnil.out _) hrow.out (by omega) hsm).mono ?_
    rintro e w2 ⟨rfl, hb2⟩
    have Hb2 := Lib.hid (Hb1.out.trans ((((Below.refl w1.heap.size w1).alloc (Nat.le_refl _) _).trans (hb2.mono (by simp))).mono Hb1.out.size))
    clear hb2
    go_wp2
    go_ret
    exact ⟨rfl, Hb2.out⟩
end Go.Proofs.Ytfjgikcbngfhmaa
