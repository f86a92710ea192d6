/-
  The contract of the reference's Right.
-/
import Derived.Test.YtbgfkjafablfiaaRefC
namespace Go.Proofs.Ytbgfkjafablfiaa
open Go.RowKit

/-- Is the rest of a text, behind so many runes of it, the rest of a name? -/
def restR (j : Nat) (r : List UInt8) : Bool := (piecesL r).all (fun q => q.2 && nameP q.1) && decide (1 ≤ j + (piecesL r).length ∧ j + (piecesL r).length ≤ 24 ∧ (j = 0 → byteN r 0 ≠ 45))
theorem restR_0 (l : List UInt8) : restR 0 l = rightL l := by unfold restR rightL; simp
theorem restR_zero (j : Nat) (r : List UInt8) (h : r ≠ []) (hs : sizeL r = 0) : restR j r = false := by
  unfold restR
  rw [pieces_step r h, if_pos hs]; simp
theorem restR_many (j : Nat) (r : List UInt8) (h : 24 < j) : restR j r = false := by
  unfold restR
  rw [decide_eq_false (by omega), Bool.and_false]
theorem restR_nil (j : Nat) : restR j [] = decide (1 ≤ j ∧ j ≤ 24) := by
  unfold restR
  rw [pieces_nil, byteN_nil]; simp
theorem restR_first (r : List UInt8) (h : byteN r 0 = 45) : restR 0 r = false := by
  unfold restR
  rw [decide_eq_false (fun g => g.2.2 rfl h), Bool.and_false]
theorem restR_bad (j : Nat) (r : List UInt8) (hs : sizeL r ≠ 0) (hn : nameP (r.take (sizeL r)) = false) : restR j r = false := by
  have h : r ≠ [] := fun e => hs (by rw [e, sizeL_nil])
  unfold restR
  rw [pieces_step r h, if_neg hs, List.all_cons]
  simp [hn]
theorem restR_step (j : Nat) (r : List UInt8) (hs : sizeL r ≠ 0) (hn : nameP (r.take (sizeL r)) = true) (hf : j = 0 → byteN r 0 ≠ 45) : restR j r = restR (j + 1) (r.drop (sizeL r)) := by
  have h : r ≠ [] := fun e => hs (by rw [e, sizeL_nil])
  unfold restR
  rw [pieces_step r h, if_neg hs, List.all_cons]
  simp only [hn, Bool.and_true, Bool.true_and, List.length_cons]
  congr 1
  apply decide_eq_decide.2
  constructor
  · exact fun g => ⟨by omega, by omega, fun e => by omega⟩
  · exact fun g => ⟨by omega, by omega, hf⟩
theorem nameP_1 (r : List UInt8) (h : 0 < r.length) (c : Nat) (hc : byteN r 0 = c) : nameP (r.take 1) = decide ((97 ≤ c ∧ c ≤ 122) ∨ (48 ≤ c ∧ c ≤ 57) ∨ c = 95 ∨ c = 45) := by
  unfold nameP
  rw [if_pos (by rw [List.length_take]; omega), byteN_take r 1 0 (by omega), hc]
theorem nameP_n (r : List UInt8) (z : Nat) (h : z ≤ r.length) (hz : 1 < z) : nameP (r.take z) = selfL (r.take z) := by
  unfold nameP
  rw [if_neg (by rw [List.length_take]; omega)]
theorem bl_part (s : ByteArray) (k z : Nat) : bl (s.extract k (k + z)) = ((bl s).drop k).take z := by
  rw [bl_extract, Nat.add_sub_cancel_left]

set_option maxRecDepth 100000 in
set_option maxHeartbeats 4000000 in
theorem refright_any (s : ByteArray) (w : World) (hs : s.size ≤ 9223372036854775807) : Calls Try.prog 39 #[.string s] w fun e w' => e = .returned (.bool (rightL (bl s))) ∧ w' = w := by
  have H0 : Hid (rightL (bl s) = restR 0 ((bl s).drop 0)) := Lib.hid (by rw [List.drop_zero, restR_0])
  go_enter Try.func39, Try.ntmps39
  go_wp2
  go_loop [3, 4] (fun n i => ∃ j k : Nat, j ≤ k ∧ k ≤ s.size ∧ (j = 0 → k = 0) ∧ j ≤ 24 ∧ i = .int .i64 (k : Int) ∧ n = .int .i64 (j : Int) ∧ rightL (bl s) = restR j ((bl s).drop k)) (fun _ i => s.size - (intOf i).toNat)
  case atStart => exact ⟨0, 0, by omega, by omega, by omega, by omega, rfl, rfl, H0.out⟩
  case round =>
    obtain ⟨j, k, hj, hk, hjk, hj24, rfl, rfl, hc⟩ := hrel
    have Hc := Lib.hid hc
    clear hc
    by_cases hlt : k < s.size
    · have hlt' : (k : Int) < (s.size : Int) := by omega
      have Hz := Lib.hid (size_any (s.extract k s.size))
      rw [bl_rest] at Hz
      have Hn : Hid (((bl s).drop k).length = s.size - k) := Lib.hid (by rw [List.length_drop, bl_length])
      obtain ⟨z, hz⟩ : ∃ z, sizeL ((bl s).drop k) = z := ⟨_, rfl⟩
      have hz4 : z ≤ 4 := by rw [← hz]; exact sizeL_le4 _
      have hzl : z ≤ s.size - k := by have := sizeL_le ((bl s).drop k); rw [hz, Hn.out] at this; exact this
      rw [hz] at Hz
      have Hsz := Lib.hid hz
      clear hz
      by_cases h0 : z = 0
      · subst h0
        have Hv : Hid (rightL (bl s) = false) := Lib.hid (by
          rw [Hc.out, restR_zero _ _ (fun e => by have := Hn.out; rw [e] at this; simp at this; omega) Hsz.out])
        go_wp2_with (go_at_call 45; refine (Hz.out _).mono ?_; rintro e w' ⟨rfl, rfl⟩)
        go_ret
        exact ⟨by rw [Hv.out]; rfl, rfl⟩
      · have h0' : ((z : Int) == 0) = false := by simp; omega
        obtain ⟨c, hc⟩ : ∃ c, s[k].toNat = c := ⟨_, rfl⟩
        have Hb : Hid (byteN ((bl s).drop k) 0 = c) := Lib.hid (by
          rw [← get_byteN s k 0, Nat.add_zero]
          show (s.data[k]!).toNat = c
          rw [getElem!_pos s.data k hlt]
          exact hc)
        have hc8 : c < 256 := by rw [← hc]; exact s[k].toNat_lt
        have Hbad : Hid (nameP (((bl s).drop k).take z) = false → rightL (bl s) = false) := Lib.hid (fun h => by
          rw [Hc.out, restR_bad _ _ (by rw [Hsz.out]; exact h0) (by rw [Hsz.out]; exact h)])
        have Hgood : Hid (nameP (((bl s).drop k).take z) = true → (j = 0 → c ≠ 45) → rightL (bl s) = restR (j + 1) ((bl s).drop (k + z))) := Lib.hid (fun h hf => by
          rw [Hc.out, restR_step _ _ (by rw [Hsz.out]; exact h0) (by rw [Hsz.out]; exact h) (by rw [Hb.out]; exact hf), List.drop_drop, Hsz.out])
        have Hfirst : Hid (j = 0 → c = 45 → rightL (bl s) = false) := Lib.hid (fun h hf => by
          subst h
          rw [Hc.out, restR_first _ (by rw [Hb.out]; exact hf)])
        by_cases h1 : z = 1
        · subst h1
          have h1a : ((1 : Int) == 1) = true := rfl
          have Hp := Lib.hid (nameP_1 ((bl s).drop k) (by rw [Hn.out]; omega) c Hb.out)
          rw [Hp.out] at Hbad Hgood
          clear Hp Hc
          have cls : (c < 45) ∨ (c = 45 ∧ k = 0) ∨ (c = 45 ∧ 0 < k) ∨ (46 ≤ c ∧ c ≤ 47) ∨ (48 ≤ c ∧ c ≤ 57) ∨ (58 ≤ c ∧ c ≤ 94) ∨ (c = 95) ∨ (c = 96) ∨ (97 ≤ c ∧ c ≤ 122) ∨ (122 < c) := by omega
          have hj1 : Hid (24 < j + 1 → ∀ r, restR (j + 1) r = false) := Lib.hid (fun h r => restR_many _ r h)
          have cls24 : (j : Int) + 1 ≤ 24 ∨ (24 : Int) < (j : Int) + 1 := by omega
          rcases cls with cl | cl | cl | cl | cl | cl | cl | cl | cl | cl
          · have Hv : Hid (rightL (bl s) = false) := Lib.hid (Hbad.out (decide_eq_false (by omega)))
            have f1 : ¬ (97 : Int) ≤ (c : Int) := by omega
            have f2 : (c : Int) ≤ 122 := by omega
            have f3 : ¬ (48 : Int) ≤ (c : Int) := by omega
            have f4 : (c : Int) ≤ 57 := by omega
            have f5 : ((c : Int) == 95) = false := by simp; omega
            have f6 : ((c : Int) == 45) = false := by simp; omega
            clear cl Hbad Hgood Hfirst
            go_wp2_with (go_at_call 45; refine (Hz.out _).mono ?_; rintro e w' ⟨rfl, rfl⟩)
            go_ret
            exact ⟨by rw [Hv.out]; rfl, rfl⟩
          · have Hv : Hid (rightL (bl s) = false) := Lib.hid (Hfirst.out (by omega) (by omega))
            have f1 : ¬ (97 : Int) ≤ (c : Int) := by omega
            have f2 : (c : Int) ≤ 122 := by omega
            have f3 : ¬ (48 : Int) ≤ (c : Int) := by omega
            have f4 : (c : Int) ≤ 57 := by omega
            have f5 : ((c : Int) == 95) = false := by simp; omega
            have f6 : ((c : Int) == 45) = true := by simp; omega
            have f7 : ¬ (0 : Int) < (k : Int) := by omega
            clear cl Hbad Hgood Hfirst
            go_wp2_with (go_at_call 45; refine (Hz.out _).mono ?_; rintro e w' ⟨rfl, rfl⟩)
            go_ret
            exact ⟨by rw [Hv.out]; rfl, rfl⟩
          · have Hst := Lib.hid (Hgood.out (decide_eq_true (by omega)) (by omega))
            have f1 : ¬ (97 : Int) ≤ (c : Int) := by omega
            have f2 : (c : Int) ≤ 122 := by omega
            have f3 : ¬ (48 : Int) ≤ (c : Int) := by omega
            have f4 : (c : Int) ≤ 57 := by omega
            have f5 : ((c : Int) == 95) = false := by simp; omega
            have f6 : ((c : Int) == 45) = true := by simp; omega
            have f7 : (0 : Int) < (k : Int) := by omega
            clear cl Hbad Hgood Hfirst
            rcases cls24 with h24 | h24
            · go_wp2_with (go_at_call 45; refine (Hz.out _).mono ?_; rintro e w' ⟨rfl, rfl⟩)
              go_round
              case rel => exact ⟨j + 1, k + 1, by omega, by omega, by omega, by omega, by go_num, by go_num, Hst.out⟩
              case measure => simp [intOf]; omega
            · have Hv : Hid (rightL (bl s) = false) := Lib.hid (by rw [Hst.out, hj1.out (by omega)])
              go_wp2_with (go_at_call 45; refine (Hz.out _).mono ?_; rintro e w' ⟨rfl, rfl⟩)
              go_ret
              exact ⟨by rw [Hv.out]; rfl, rfl⟩
          · have Hv : Hid (rightL (bl s) = false) := Lib.hid (Hbad.out (decide_eq_false (by omega)))
            have f1 : ¬ (97 : Int) ≤ (c : Int) := by omega
            have f2 : (c : Int) ≤ 122 := by omega
            have f3 : ¬ (48 : Int) ≤ (c : Int) := by omega
            have f4 : (c : Int) ≤ 57 := by omega
            have f5 : ((c : Int) == 95) = false := by simp; omega
            have f6 : ((c : Int) == 45) = false := by simp; omega
            clear cl Hbad Hgood Hfirst
            go_wp2_with (go_at_call 45; refine (Hz.out _).mono ?_; rintro e w' ⟨rfl, rfl⟩)
            go_ret
            exact ⟨by rw [Hv.out]; rfl, rfl⟩
          · have Hst := Lib.hid (Hgood.out (decide_eq_true (by omega)) (by omega))
            have f1 : ¬ (97 : Int) ≤ (c : Int) := by omega
            have f2 : (c : Int) ≤ 122 := by omega
            have f3 : (48 : Int) ≤ (c : Int) := by omega
            have f4 : (c : Int) ≤ 57 := by omega
            have f5 : ((c : Int) == 95) = false := by simp; omega
            have f6 : ((c : Int) == 45) = false := by simp; omega
            clear cl Hbad Hgood Hfirst
            rcases cls24 with h24 | h24
            · go_wp2_with (go_at_call 45; refine (Hz.out _).mono ?_; rintro e w' ⟨rfl, rfl⟩)
              go_round
              case rel => exact ⟨j + 1, k + 1, by omega, by omega, by omega, by omega, by go_num, by go_num, Hst.out⟩
              case measure => simp [intOf]; omega
            · have Hv : Hid (rightL (bl s) = false) := Lib.hid (by rw [Hst.out, hj1.out (by omega)])
              go_wp2_with (go_at_call 45; refine (Hz.out _).mono ?_; rintro e w' ⟨rfl, rfl⟩)
              go_ret
              exact ⟨by rw [Hv.out]; rfl, rfl⟩
          · have Hv : Hid (rightL (bl s) = false) := Lib.hid (Hbad.out (decide_eq_false (by omega)))
            have f1 : ¬ (97 : Int) ≤ (c : Int) := by omega
            have f2 : (c : Int) ≤ 122 := by omega
            have f3 : (48 : Int) ≤ (c : Int) := by omega
            have f4 : ¬ (c : Int) ≤ 57 := by omega
            have f5 : ((c : Int) == 95) = false := by simp; omega
            have f6 : ((c : Int) == 45) = false := by simp; omega
            clear cl Hbad Hgood Hfirst
            go_wp2_with (go_at_call 45; refine (Hz.out _).mono ?_; rintro e w' ⟨rfl, rfl⟩)
            go_ret
            exact ⟨by rw [Hv.out]; rfl, rfl⟩
          · have Hst := Lib.hid (Hgood.out (decide_eq_true (by omega)) (by omega))
            have f1 : ¬ (97 : Int) ≤ (c : Int) := by omega
            have f2 : (c : Int) ≤ 122 := by omega
            have f3 : (48 : Int) ≤ (c : Int) := by omega
            have f4 : ¬ (c : Int) ≤ 57 := by omega
            have f5 : ((c : Int) == 95) = true := by simp; omega
            have f6 : ((c : Int) == 45) = false := by simp; omega
            clear cl Hbad Hgood Hfirst
            rcases cls24 with h24 | h24
            · go_wp2_with (go_at_call 45; refine (Hz.out _).mono ?_; rintro e w' ⟨rfl, rfl⟩)
              go_round
              case rel => exact ⟨j + 1, k + 1, by omega, by omega, by omega, by omega, by go_num, by go_num, Hst.out⟩
              case measure => simp [intOf]; omega
            · have Hv : Hid (rightL (bl s) = false) := Lib.hid (by rw [Hst.out, hj1.out (by omega)])
              go_wp2_with (go_at_call 45; refine (Hz.out _).mono ?_; rintro e w' ⟨rfl, rfl⟩)
              go_ret
              exact ⟨by rw [Hv.out]; rfl, rfl⟩
          · have Hv : Hid (rightL (bl s) = false) := Lib.hid (Hbad.out (decide_eq_false (by omega)))
            have f1 : ¬ (97 : Int) ≤ (c : Int) := by omega
            have f2 : (c : Int) ≤ 122 := by omega
            have f3 : (48 : Int) ≤ (c : Int) := by omega
            have f4 : ¬ (c : Int) ≤ 57 := by omega
            have f5 : ((c : Int) == 95) = false := by simp; omega
            have f6 : ((c : Int) == 45) = false := by simp; omega
            clear cl Hbad Hgood Hfirst
            go_wp2_with (go_at_call 45; refine (Hz.out _).mono ?_; rintro e w' ⟨rfl, rfl⟩)
            go_ret
            exact ⟨by rw [Hv.out]; rfl, rfl⟩
          · have Hst := Lib.hid (Hgood.out (decide_eq_true (by omega)) (by omega))
            have f1 : (97 : Int) ≤ (c : Int) := by omega
            have f2 : (c : Int) ≤ 122 := by omega
            have f3 : (48 : Int) ≤ (c : Int) := by omega
            have f4 : ¬ (c : Int) ≤ 57 := by omega
            have f5 : ((c : Int) == 95) = false := by simp; omega
            have f6 : ((c : Int) == 45) = false := by simp; omega
            clear cl Hbad Hgood Hfirst
            rcases cls24 with h24 | h24
            · go_wp2_with (go_at_call 45; refine (Hz.out _).mono ?_; rintro e w' ⟨rfl, rfl⟩)
              go_round
              case rel => exact ⟨j + 1, k + 1, by omega, by omega, by omega, by omega, by go_num, by go_num, Hst.out⟩
              case measure => simp [intOf]; omega
            · have Hv : Hid (rightL (bl s) = false) := Lib.hid (by rw [Hst.out, hj1.out (by omega)])
              go_wp2_with (go_at_call 45; refine (Hz.out _).mono ?_; rintro e w' ⟨rfl, rfl⟩)
              go_ret
              exact ⟨by rw [Hv.out]; rfl, rfl⟩
          · have Hv : Hid (rightL (bl s) = false) := Lib.hid (Hbad.out (decide_eq_false (by omega)))
            have f1 : (97 : Int) ≤ (c : Int) := by omega
            have f2 : ¬ (c : Int) ≤ 122 := by omega
            have f3 : (48 : Int) ≤ (c : Int) := by omega
            have f4 : ¬ (c : Int) ≤ 57 := by omega
            have f5 : ((c : Int) == 95) = false := by simp; omega
            have f6 : ((c : Int) == 45) = false := by simp; omega
            clear cl Hbad Hgood Hfirst
            go_wp2_with (go_at_call 45; refine (Hz.out _).mono ?_; rintro e w' ⟨rfl, rfl⟩)
            go_ret
            exact ⟨by rw [Hv.out]; rfl, rfl⟩
        · have h1' : ((z : Int) == 1) = false := by simp; omega
          have h1g : (1 : Int) < (z : Int) := by omega
          have Hp := Lib.hid (nameP_n ((bl s).drop k) z (by rw [Hn.out]; omega) (by omega))
          rw [Hp.out] at Hbad Hgood
          have Hi := Lib.hid (itself_any (s.extract k (k + z)))
          rw [bl_part] at Hi
          have hj1 : Hid (24 < j + 1 → ∀ r, restR (j + 1) r = false) := Lib.hid (fun h r => restR_many _ r h)
          have cls24 : (j : Int) + 1 ≤ 24 ∨ (24 : Int) < (j : Int) + 1 := by omega
          have hkz : k + z ≤ s.size := by omega
          have Hf : Hid (j = 0 → c ≠ 45) := Lib.hid (fun _ e => by
            have h2 := sizeL_spec ((bl s).drop k)
            rw [Hsz.out, Hb.out] at h2
            unfold Two Three Four at h2
            omega)
          clear Hp Hc Hfirst
          obtain ⟨b, hb⟩ : ∃ b, selfL (((bl s).drop k).take z) = b := ⟨_, rfl⟩
          rw [hb] at Hi Hbad Hgood
          clear hb
          cases b with
          | false =>
            have Hv := Lib.hid (Hbad.out rfl)
            clear Hbad Hgood
            go_wp2_with (first | (go_at_call 45; refine (Hz.out _).mono ?_; rintro e w' ⟨rfl, rfl⟩) | (go_at_call 46; refine (Hi.out _).mono ?_; rintro e w' ⟨rfl, rfl⟩))
            go_ret
            exact ⟨by rw [Hv.out]; rfl, rfl⟩
          | true =>
            have Hst := Lib.hid (Hgood.out rfl Hf.out)
            clear Hbad Hgood
            rcases cls24 with h24 | h24
            · go_wp2_with (first | (go_at_call 45; refine (Hz.out _).mono ?_; rintro e w' ⟨rfl, rfl⟩) | (go_at_call 46; refine (Hi.out _).mono ?_; rintro e w' ⟨rfl, rfl⟩))
              go_round
              case rel => exact ⟨j + 1, k + z, by omega, by omega, by omega, by omega, by go_num, by go_num, Hst.out⟩
              case measure => simp [intOf]; omega
            · have Hv : Hid (rightL (bl s) = false) := Lib.hid (by rw [Hst.out, hj1.out (by omega)])
              go_wp2_with (first | (go_at_call 45; refine (Hz.out _).mono ?_; rintro e w' ⟨rfl, rfl⟩) | (go_at_call 46; refine (Hi.out _).mono ?_; rintro e w' ⟨rfl, rfl⟩))
              go_ret
              exact ⟨by rw [Hv.out]; rfl, rfl⟩
    · obtain rfl : k = s.size := by omega
      have Hv : Hid (rightL (bl s) = decide (0 < j)) := Lib.hid (by
        rw [Hc.out, List.drop_eq_nil_of_le (by rw [bl_length]; omega), restR_nil]
        exact decide_eq_decide.2 (by omega))
      go_wp2
      go_ret
      exact ⟨by rw [Hv.out]; rfl, rfl⟩
end Go.Proofs.Ytbgfkjafablfiaa
