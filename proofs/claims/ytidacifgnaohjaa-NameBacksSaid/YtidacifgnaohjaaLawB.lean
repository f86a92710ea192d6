/-
  NameBacks and NameEyes walked.
-/
import Derived.Test.YtidacifgnaohjaaLawA
namespace Go.Proofs.Ytidacifgnaohjaa
open Go.RowKit

set_option maxRecDepth 100000 in
set_option maxHeartbeats 1000000 in
theorem backs_any (s : ByteArray) (w : World) : Calls Try.prog 6 #[.string s] w (Laws w) := by
  by_cases hs : 10000 < s.size
  · have hs' : (10000 : Int) < (s.size : Int) := by omega
    go_enter Try.func6, Try.ntmps6
    go_wp2_with (go_at_call 9; refine (awake_any w).mono ?_; rintro e w1 ⟨rfl, hb1⟩; replace hb1 := Lib.hid hb1)
    go_ret
    exact ⟨rfl, hb1.out⟩
  · have hs' : ¬ (10000 : Int) < (s.size : Int) := by omega
    have Hp := Lib.hid (fun W => plain_any s W (by omega))
    have Hbp : Hid (∀ W, Calls Try.prog 16 #[.string (bs (plainL (bl s)))] W fun e w' => e = .returned (.tuple #[.string s, .bool true]) ∧ Below W.heap.size W w') := Lib.hid (fun W => by
      have hl := plain_length (bl s)
      rw [bl_length] at hl
      refine (back_any (bs (plainL (bl s))) W (by rw [bs_size]; omega)).mono ?_
      rintro e w' ⟨h, hb⟩
      refine ⟨?_, hb⟩
      rw [bl_bs] at h
      rcases h with ⟨t, ht, _, he⟩ | ⟨hn, _⟩
      · rw [backO_plain] at ht
        injection ht with ht
        rw [he, ← ht, bs_bl]
      · rw [backO_plain] at hn; cases hn)
    have Hbs := Lib.hid (fun W => back_any s W (by omega))
    have Hsome : Hid (∀ t, backO (bl s) = some t → t.length ≤ (bl s).length → ∀ W, Calls Try.prog 15 #[.string (bs t)] W fun e w' => e = .returned (.string s) ∧ Below W.heap.size W w') := Lib.hid (fun t ht hl W => by
      rw [bl_length] at hl
      have := refplain_any (bs t) W (by rw [bs_size]; omega)
      rw [bl_bs, backO_some _ _ ht, bs_bl] at this
      exact this)
    generalize plainL (bl s) = p at *
    go_enter Try.func6, Try.ntmps6
    go_wp2_with (first | (go_at_call 9; refine (awake_any w).mono ?_; rintro e w1 ⟨rfl, hb1⟩; replace hb1 := Lib.hid hb1) | (go_at_call 14; refine (Hp.out _).mono ?_; rintro e w2 ⟨rfl, hb2⟩; replace hb2 := Lib.hid (hb1.out.trans (hb2.mono hb1.out.size))))
    refine (Hbp.out _).mono ?_
    rintro e w3 ⟨rfl, hb3⟩
    replace hb3 := Lib.hid (hb2.out.trans (hb3.mono hb2.out.size))
    go_wp2_with fail
    refine (Hbs.out _).mono ?_
    rintro e w4 ⟨h4, hb4⟩
    replace hb4 := Lib.hid (hb3.out.trans (hb4.mono hb3.out.size))
    rcases h4 with ⟨t, ht, hl, rfl⟩ | ⟨_, rfl⟩
    · have Hq := Lib.hid (Hsome.out t ht hl)
      clear ht hl
      go_wp2_with (first | (go_at_call 15; refine (Hq.out _).mono ?_; rintro e w5 ⟨rfl, hb5⟩; replace hb5 := Lib.hid (hb4.out.trans (hb5.mono hb4.out.size))))
      go_ret
      exact ⟨by simp, hb5.out⟩
    · go_wp2
      go_ret
      exact ⟨by simp, hb4.out⟩

theorem shown_at (p : List UInt8) (h : ∀ b ∈ p, Shown b) (j : Nat) (hj : j < (bs p).size) : Shown (bs p)[j] := by
  have hl : j < p.length := by rw [bs_size] at hj; exact hj
  refine h _ ?_
  rw [bl_get (bs p) j hj, bl_bs, List.getD_eq_getElem?_getD, List.getElem?_eq_getElem hl]
  exact List.getElem_mem hl

set_option maxRecDepth 100000 in
set_option maxHeartbeats 2000000 in
theorem eyes_any (s t : ByteArray) (w : World) : Calls Try.prog 7 #[.string s, .string t] w (Laws w) := by
  by_cases hs : 10000 < s.size
  · have hs' : (10000 : Int) < (s.size : Int) := by omega
    go_enter Try.func7, Try.ntmps7
    go_wp2_with (go_at_call 9; refine (awake_any w).mono ?_; rintro e w1 ⟨rfl, hb1⟩; replace hb1 := Lib.hid hb1)
    go_ret
    exact ⟨rfl, hb1.out⟩
  · have hs' : ¬ (10000 : Int) < (s.size : Int) := by omega
    by_cases ht : 10000 < t.size
    · have ht' : (10000 : Int) < (t.size : Int) := by omega
      go_enter Try.func7, Try.ntmps7
      go_wp2_with (go_at_call 9; refine (awake_any w).mono ?_; rintro e w1 ⟨rfl, hb1⟩; replace hb1 := Lib.hid hb1)
      go_ret
      exact ⟨rfl, hb1.out⟩
    · have ht' : ¬ (10000 : Int) < (t.size : Int) := by omega
      have Hp := Lib.hid (fun W => plain_any s W (by omega))
      have Hq := Lib.hid (fun W => plain_any t W (by omega))
      have Hr := Lib.hid (fun W => right_any s W (by omega))
      have hlen := plain_length (bl s)
      rw [bl_length] at hlen
      have Hc := Lib.hid (fun W => count_any (bs (plainL (bl s))) W (by rw [bs_size]; omega))
      rw [bl_bs] at Hc
      have hcn := plain_count (bl s)
      have Hsh := Lib.hid (shown_at _ (plain_shown (bl s)))
      have hpn : (bs (plainL (bl s))).size = (plainL (bl s)).length := bs_size _
      have Hname : Hid (rightL (bl s) = true → ((bs (plainL (bl s))).toList == s.toList) = true) := Lib.hid (fun h => list_eq_b _ s (plain_name _ h))
      have heq : ((bs (plainL (bl s))).toList == (bs (plainL (bl t))).toList) = (s.toList == t.toList) := by
        rw [bs_toList, bs_toList, bl_toList, bl_toList]
        by_cases h : bl s = bl t
        · rw [h]; simp
        · have h2 : plainL (bl s) ≠ plainL (bl t) := fun e => h (plain_inj _ _ e)
          rw [beq_eq_false_iff_ne.2 h, beq_eq_false_iff_ne.2 h2]
      generalize countL (plainL (bl s)) = c at *
      generalize plainL (bl s) = p at *
      generalize plainL (bl t) = q at *
      generalize rightL (bl s) = b at *
      go_enter Try.func7, Try.ntmps7
      go_wp2_with (first | (go_at_call 9; refine (awake_any w).mono ?_; rintro e w1 ⟨rfl, hb1⟩; replace hb1 := Lib.hid hb1) | (go_at_call 14; refine (Hp.out _).mono ?_; rintro e w2 ⟨rfl, hb2⟩; replace hb2 := Lib.hid (hb1.out.trans (hb2.mono hb1.out.size))))
      go_loop [6] (fun i => ∃ j : Nat, j ≤ p.length ∧ i = .int .i64 (j : Int)) (fun i => p.length - (intOf i).toNat)
      case atStart => exact ⟨0, by omega, rfl⟩
      case round =>
        obtain ⟨j, hj, rfl⟩ := hrel
        by_cases hlt : j < p.length
        · have hlt2 : j < (bs p).size := by rw [hpn]; exact hlt
          have hsj := Hsh.out j hlt2
          obtain ⟨x, hx⟩ : ∃ x, (bs p)[j] = x := ⟨_, rfl⟩
          rw [hx] at hsj
          unfold Shown at hsj
          have g1 : ¬ (x.toNat : Int) < 32 := by omega
          have g2 : ((x.toNat : Int) == 127) = false := by simp; omega
          have hlt' : (j : Int) < (p.length : Int) := by omega
          go_wp2
          go_round
          case rel => exact ⟨j + 1, by omega, by go_num⟩
          case measure => simp [intOf]; omega
        · have hlt' : ¬ (j : Int) < (p.length : Int) := by omega
          have Hb := Lib.hid Hname.out
          clear Hname
          cases b
          · generalize hst : (s.toList == t.toList) = B at *
            cases B
            · go_wp2_with (first | (go_at_call 12; refine (Hc.out _).mono ?_; rintro e w3 ⟨rfl, hb3⟩; replace hb3 := Lib.hid (hb2.out.trans (hb3.mono hb2.out.size))) | (go_at_call 14; refine (Hq.out _).mono ?_; rintro e w4 ⟨rfl, hb4⟩; replace hb4 := Lib.hid (hb3.out.trans (hb4.mono hb3.out.size))) | (go_at_call 10; refine (Hr.out _).mono ?_; rintro e w5 ⟨rfl, hb5⟩; replace hb5 := Lib.hid (hb4.out.trans (hb5.mono hb4.out.size))))
              go_ret
              exact ⟨by simp, hb5.out⟩
            · go_wp2_with (first | (go_at_call 12; refine (Hc.out _).mono ?_; rintro e w3 ⟨rfl, hb3⟩; replace hb3 := Lib.hid (hb2.out.trans (hb3.mono hb2.out.size))) | (go_at_call 14; refine (Hq.out _).mono ?_; rintro e w4 ⟨rfl, hb4⟩; replace hb4 := Lib.hid (hb3.out.trans (hb4.mono hb3.out.size))) | (go_at_call 10; refine (Hr.out _).mono ?_; rintro e w5 ⟨rfl, hb5⟩; replace hb5 := Lib.hid (hb4.out.trans (hb5.mono hb4.out.size))))
              go_ret
              exact ⟨by simp, hb5.out⟩
          · have hn := Hb.out rfl
            generalize hst : (s.toList == t.toList) = B at *
            cases B
            · go_wp2_with (first | (go_at_call 12; refine (Hc.out _).mono ?_; rintro e w3 ⟨rfl, hb3⟩; replace hb3 := Lib.hid (hb2.out.trans (hb3.mono hb2.out.size))) | (go_at_call 14; refine (Hq.out _).mono ?_; rintro e w4 ⟨rfl, hb4⟩; replace hb4 := Lib.hid (hb3.out.trans (hb4.mono hb3.out.size))) | (go_at_call 10; refine (Hr.out _).mono ?_; rintro e w5 ⟨rfl, hb5⟩; replace hb5 := Lib.hid (hb4.out.trans (hb5.mono hb4.out.size))))
              go_ret
              exact ⟨by simp, hb5.out⟩
            · go_wp2_with (first | (go_at_call 12; refine (Hc.out _).mono ?_; rintro e w3 ⟨rfl, hb3⟩; replace hb3 := Lib.hid (hb2.out.trans (hb3.mono hb2.out.size))) | (go_at_call 14; refine (Hq.out _).mono ?_; rintro e w4 ⟨rfl, hb4⟩; replace hb4 := Lib.hid (hb3.out.trans (hb4.mono hb3.out.size))) | (go_at_call 10; refine (Hr.out _).mono ?_; rintro e w5 ⟨rfl, hb5⟩; replace hb5 := Lib.hid (hb4.out.trans (hb5.mono hb4.out.size))))
              go_ret
              exact ⟨by simp, hb5.out⟩
end Go.Proofs.Ytidacifgnaohjaa
