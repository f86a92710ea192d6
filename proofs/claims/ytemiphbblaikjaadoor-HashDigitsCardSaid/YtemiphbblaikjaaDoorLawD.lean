/-
  The law HashDigits walked.
-/
import Derived.Test.YtemiphbblaikjaaDoorLawK
namespace Go.Proofs.YtemiphbblaikjaaDoor
open Go.RowKit

/-- What the law's loop has found of the first k bytes. -/
@[irreducible] def rightB (l : List UInt8) (k : Nat) : Bool := decide (l.length % 2 = 0) && (l.take k).all fun c => (valB c).isSome
theorem right_zero (l : List UInt8) : rightB l 0 = decide (l.length % 2 = 0) := by unfold rightB; simp
theorem right_succ (l : List UInt8) (k : Nat) (h : k < l.length) : rightB l (k + 1) = (rightB l k && (valB (l.getD k 0)).isSome) := by
  unfold rightB
  rw [take_snoc l k h 0, List.all_append, Bool.and_assoc]
  simp
theorem right_end (l : List UInt8) (k : Nat) (h : k = l.length) : rightB l k = (unhexL l).isSome := by
  subst h
  unfold rightB
  rw [unhex_some, List.take_length]
theorem val_is (c : UInt8) : (valB c).isSome = decide (48 ≤ c.toNat ∧ c.toNat ≤ 57 ∨ 97 ≤ c.toNat ∧ c.toNat ≤ 102) := by
  unfold valB
  by_cases h1 : 48 ≤ c.toNat ∧ c.toNat ≤ 57
  · rw [if_pos h1]; simp [h1]
  · rw [if_neg h1]
    by_cases h2 : 97 ≤ c.toNat ∧ c.toNat ≤ 102
    · rw [if_pos h2]; simp [h2]
    · rw [if_neg h2]; simp [h1, h2]

set_option maxRecDepth 100000 in
set_option maxHeartbeats 2000000 in
theorem digits_any (s t : ByteArray) (w : World) (hl : Laid w) : Calls Tryd.prog 7 #[.string s, .string t] w (Laws w) := by
  have Hl := Lib.hid hl
  clear hl
  by_cases h1 : 2000 < s.size
  · go_enter Tryd.func7, Tryd.ntmps7
    go_wp2_with fail
    refine (awake_any w Hl.out.1 Hl.out.2.1 Hl.out.2.2).mono ?_
    rintro e w1 ⟨rfl, hb1⟩
    go_wp2
    go_ret
    exact ⟨rfl, hb1⟩
  · by_cases h2 : 2000 < t.size
    · go_enter Tryd.func7, Tryd.ntmps7
      go_wp2_with fail
      refine (awake_any w Hl.out.1 Hl.out.2.1 Hl.out.2.2).mono ?_
      rintro e w1 ⟨rfl, hb1⟩
      go_wp2
      go_ret
      exact ⟨rfl, hb1⟩
    · have hd1 : decide ((2000 : Int) < (s.size : Int)) = false := by simp; omega
      have hd2 : decide ((2000 : Int) < (t.size : Int)) = false := by simp; omega
      have hback : bs ((unhexL (bl (bs (hexL (bl s))))).getD []) = s := by rw [bl_bs, unhex_hex, Option.getD_some, bs_bl]
      have Hback := Lib.hid hback
      have His : Hid ((unhexL (bl (bs (hexL (bl s))))).isSome = true) := Lib.hid (by rw [bl_bs, unhex_hex]; rfl)
      have Hhs : Hid ((bs (hexL (bl s))).size ≤ 100000) := Lib.hid (by rw [bs_size, hexL_length, bl_length]; omega)
      have Htl := Lib.hid (bl_length t)
      have Hr0 : Hid (rightB (bl t) 0 = decide (t.size % 2 = 0)) := Lib.hid (by rw [right_zero, bl_length])
      have Hrn : Hid (rightB (bl t) t.size = (unhexL (bl t)).isSome) := Lib.hid (right_end _ _ (bl_length t).symm)
      have hmod : ((t.size : Int) % 2 == 0) = decide (t.size % 2 = 0) := by
        rw [Bool.eq_iff_iff]; simp; omega
      rw [← Hr0.out] at hmod
      clear hback Hr0
      obtain ⟨R, hR⟩ : ∃ R, R = unhexL (bl t) := ⟨_, rfl⟩
      have HR := Lib.hid hR.symm
      cases R with
      | none =>
        rw [← hR] at Hrn
        clear hR
        go_enter Tryd.func7, Tryd.ntmps7
        go_wp2_with fail
        refine (awake_any w Hl.out.1 Hl.out.2.1 Hl.out.2.2).mono ?_
        rintro e w1 ⟨rfl, hb1⟩
        have Hb1 := Lib.hid hb1
        clear hb1
        go_wp2_with fail
        refine (hex_any s w1 (by omega)).mono ?_
        rintro e w2 ⟨rfl, hb2⟩
        have Hb2 := Lib.hid (Hb1.out.trans (hb2.mono Hb1.out.size))
        clear hb2
        go_wp2_with fail
        refine (unhex_any _ w2 Hhs.out).mono ?_
        rintro e w3 ⟨rfl, hb3⟩
        rw [Hback.out, His.out]
        have Hb3 := Lib.hid (Hb2.out.trans (hb3.mono Hb2.out.size))
        clear hb3
        go_wp2_with fail
        refine (unhex_any t w3 (by omega)).mono ?_
        rintro e w4 ⟨rfl, hb4⟩
        rw [HR.out, Option.getD_none, bs_nil, Option.isSome_none]
        have Hb4 := Lib.hid (Hb3.out.trans (hb4.mono Hb3.out.size))
        clear hb4
        go_wp2
        go_loopw [10, 11] (fun rv i wr => ∃ k : Nat, k ≤ t.size ∧ i = .int .i64 k ∧ rv = .bool (rightB (bl t) k) ∧ Laws w (.returned (.bool true)) wr) (fun _ i _ => t.size - (intOf i).toNat)
        case atStart => exact ⟨0, by omega, rfl, rfl, rfl, Hb4.out⟩
        case round =>
          clear hmod
          obtain ⟨k, hk, rfl, rfl, hbw⟩ := hrel
          have Hbw := Lib.hid hbw
          clear hbw
          by_cases hlt : k < t.size
          · obtain ⟨x, hx⟩ : ∃ x, t[k] = x := ⟨_, rfl⟩
            have Hstep : Hid (rightB (bl t) (k + 1) = (rightB (bl t) k && decide (48 ≤ x.toNat ∧ x.toNat ≤ 57 ∨ 97 ≤ x.toNat ∧ x.toNat ≤ 102))) := Lib.hid (by
              rw [right_succ _ _ (by rw [Htl.out]; exact hlt), ← bl_get t k hlt, hx, val_is])
            have hxl := x.toNat_lt
            generalize rightB (bl t) k = b at *
            cases b with
            | false =>
              go_wp2
              go_roundw
              case rel => exact ⟨k + 1, by omega, by go_num, by rw [Hstep.out]; rfl, Hbw.out⟩
              case measure => simp [intOf]; omega
            | true =>
              rcases (show x.toNat < 48 ∨ (48 ≤ x.toNat ∧ x.toNat ≤ 57) ∨ (57 < x.toNat ∧ x.toNat < 97) ∨ (97 ≤ x.toNat ∧ x.toNat ≤ 102) ∨ 102 < x.toNat by omega) with c1 | ⟨c1, c2⟩ | ⟨c1, c2⟩ | ⟨c1, c2⟩ | c1
              · have g1 : ¬ 48 ≤ x.toNat := by omega
                have g2 : ¬ 97 ≤ x.toNat := by omega
                go_wp2
                go_roundw
                case rel => exact ⟨k + 1, by omega, by go_num, by rw [Hstep.out]; congr 1; rw [Bool.eq_iff_iff]; simp <;> omega, Hbw.out⟩
                case measure => simp [intOf]; omega
              · go_wp2
                go_roundw
                case rel => exact ⟨k + 1, by omega, by go_num, by rw [Hstep.out]; congr 1; rw [Bool.eq_iff_iff]; simp <;> omega, Hbw.out⟩
                case measure => simp [intOf]; omega
              · have g1 : 48 ≤ x.toNat := by omega
                have g2 : ¬ x.toNat ≤ 57 := by omega
                have g3 : ¬ 97 ≤ x.toNat := by omega
                go_wp2
                go_roundw
                case rel => exact ⟨k + 1, by omega, by go_num, by rw [Hstep.out]; congr 1; rw [Bool.eq_iff_iff]; simp <;> omega, Hbw.out⟩
                case measure => simp [intOf]; omega
              · have g1 : 48 ≤ x.toNat := by omega
                have g2 : ¬ x.toNat ≤ 57 := by omega
                go_wp2
                go_roundw
                case rel => exact ⟨k + 1, by omega, by go_num, by rw [Hstep.out]; congr 1; rw [Bool.eq_iff_iff]; simp <;> omega, Hbw.out⟩
                case measure => simp [intOf]; omega
              · have g1 : 48 ≤ x.toNat := by omega
                have g2 : ¬ x.toNat ≤ 57 := by omega
                have g3 : 97 ≤ x.toNat := by omega
                have g4 : ¬ x.toNat ≤ 102 := by omega
                go_wp2
                go_roundw
                case rel => exact ⟨k + 1, by omega, by go_num, by rw [Hstep.out]; congr 1; rw [Bool.eq_iff_iff]; simp <;> omega, Hbw.out⟩
                case measure => simp [intOf]; omega
          · have hkt : k = t.size := by omega
            have hfin : rightB (bl t) k = false := by rw [hkt]; exact Hrn.out
            clear hkt
            go_wp2_with fail
            refine (rhex_any s wr (by omega)).mono ?_
            rintro e w6 ⟨rfl, hb6⟩
            have Hb6 := Lib.hid (Hbw.out.2.trans (hb6.mono Hbw.out.2.size))
            clear hb6
            go_wp2
            go_ret
            exact ⟨rfl, Hb6.out⟩
      | some u =>
        have hu := hex_unhex (bl t) u hR.symm
        have Hu : Hid (bs (hexL (bl (bs u))) = t) := Lib.hid (by rw [bl_bs, hu, bs_bl])
        have hul := hexL_length u
        rw [hu, bl_length] at hul
        have Hus : Hid ((bs u).size ≤ 100000) := Lib.hid (by rw [bs_size]; omega)
        rw [← hR] at Hrn
        clear hR hu hul
        go_enter Tryd.func7, Tryd.ntmps7
        go_wp2_with fail
        refine (awake_any w Hl.out.1 Hl.out.2.1 Hl.out.2.2).mono ?_
        rintro e w1 ⟨rfl, hb1⟩
        have Hb1 := Lib.hid hb1
        clear hb1
        go_wp2_with fail
        refine (hex_any s w1 (by omega)).mono ?_
        rintro e w2 ⟨rfl, hb2⟩
        have Hb2 := Lib.hid (Hb1.out.trans (hb2.mono Hb1.out.size))
        clear hb2
        go_wp2_with fail
        refine (unhex_any _ w2 Hhs.out).mono ?_
        rintro e w3 ⟨rfl, hb3⟩
        rw [Hback.out, His.out]
        have Hb3 := Lib.hid (Hb2.out.trans (hb3.mono Hb2.out.size))
        clear hb3
        go_wp2_with fail
        refine (unhex_any t w3 (by omega)).mono ?_
        rintro e w4 ⟨rfl, hb4⟩
        rw [HR.out, Option.getD_some, Option.isSome_some]
        have Hb4 := Lib.hid (Hb3.out.trans (hb4.mono Hb3.out.size))
        clear hb4
        go_wp2_with fail
        refine (rhex_any (bs u) w4 Hus.out).mono ?_
        rintro e w5 ⟨rfl, hb5⟩
        rw [Hu.out]
        have Hb5 := Lib.hid (Hb4.out.trans (hb5.mono Hb4.out.size))
        clear hb5
        go_wp2
        go_loopw [10, 11] (fun rv i wr => ∃ k : Nat, k ≤ t.size ∧ i = .int .i64 k ∧ rv = .bool (rightB (bl t) k) ∧ Laws w (.returned (.bool true)) wr) (fun _ i _ => t.size - (intOf i).toNat)
        case atStart => exact ⟨0, by omega, rfl, rfl, rfl, Hb5.out⟩
        case round =>
          clear hmod
          obtain ⟨k, hk, rfl, rfl, hbw⟩ := hrel
          have Hbw := Lib.hid hbw
          clear hbw
          by_cases hlt : k < t.size
          · obtain ⟨x, hx⟩ : ∃ x, t[k] = x := ⟨_, rfl⟩
            have Hstep : Hid (rightB (bl t) (k + 1) = (rightB (bl t) k && decide (48 ≤ x.toNat ∧ x.toNat ≤ 57 ∨ 97 ≤ x.toNat ∧ x.toNat ≤ 102))) := Lib.hid (by
              rw [right_succ _ _ (by rw [Htl.out]; exact hlt), ← bl_get t k hlt, hx, val_is])
            have hxl := x.toNat_lt
            generalize rightB (bl t) k = b at *
            cases b with
            | false =>
              go_wp2
              go_roundw
              case rel => exact ⟨k + 1, by omega, by go_num, by rw [Hstep.out]; rfl, Hbw.out⟩
              case measure => simp [intOf]; omega
            | true =>
              rcases (show x.toNat < 48 ∨ (48 ≤ x.toNat ∧ x.toNat ≤ 57) ∨ (57 < x.toNat ∧ x.toNat < 97) ∨ (97 ≤ x.toNat ∧ x.toNat ≤ 102) ∨ 102 < x.toNat by omega) with c1 | ⟨c1, c2⟩ | ⟨c1, c2⟩ | ⟨c1, c2⟩ | c1
              · have g1 : ¬ 48 ≤ x.toNat := by omega
                have g2 : ¬ 97 ≤ x.toNat := by omega
                go_wp2
                go_roundw
                case rel => exact ⟨k + 1, by omega, by go_num, by rw [Hstep.out]; congr 1; rw [Bool.eq_iff_iff]; simp <;> omega, Hbw.out⟩
                case measure => simp [intOf]; omega
              · go_wp2
                go_roundw
                case rel => exact ⟨k + 1, by omega, by go_num, by rw [Hstep.out]; congr 1; rw [Bool.eq_iff_iff]; simp <;> omega, Hbw.out⟩
                case measure => simp [intOf]; omega
              · have g1 : 48 ≤ x.toNat := by omega
                have g2 : ¬ x.toNat ≤ 57 := by omega
                have g3 : ¬ 97 ≤ x.toNat := by omega
                go_wp2
                go_roundw
                case rel => exact ⟨k + 1, by omega, by go_num, by rw [Hstep.out]; congr 1; rw [Bool.eq_iff_iff]; simp <;> omega, Hbw.out⟩
                case measure => simp [intOf]; omega
              · have g1 : 48 ≤ x.toNat := by omega
                have g2 : ¬ x.toNat ≤ 57 := by omega
                go_wp2
                go_roundw
                case rel => exact ⟨k + 1, by omega, by go_num, by rw [Hstep.out]; congr 1; rw [Bool.eq_iff_iff]; simp <;> omega, Hbw.out⟩
                case measure => simp [intOf]; omega
              · have g1 : 48 ≤ x.toNat := by omega
                have g2 : ¬ x.toNat ≤ 57 := by omega
                have g3 : 97 ≤ x.toNat := by omega
                have g4 : ¬ x.toNat ≤ 102 := by omega
                go_wp2
                go_roundw
                case rel => exact ⟨k + 1, by omega, by go_num, by rw [Hstep.out]; congr 1; rw [Bool.eq_iff_iff]; simp <;> omega, Hbw.out⟩
                case measure => simp [intOf]; omega
          · have hkt : k = t.size := by omega
            have hfin : rightB (bl t) k = true := by rw [hkt]; exact Hrn.out
            clear hkt
            go_wp2_with fail
            refine (rhex_any s wr (by omega)).mono ?_
            rintro e w6 ⟨rfl, hb6⟩
            have Hb6 := Lib.hid (Hbw.out.2.trans (hb6.mono Hbw.out.2.size))
            clear hb6
            go_wp2
            go_ret
            exact ⟨rfl, Hb6.out⟩
end Go.Proofs.YtemiphbblaikjaaDoor
