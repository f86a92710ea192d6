/-
  NameJoins walked.
-/
import Derived.Test.YtidacifgnaohjaaLawA
namespace Go.Proofs.Ytidacifgnaohjaa
open Go.RowKit

theorem pieces_le (l : List UInt8) : (piecesL l).length ≤ l.length := by
  induction l using piece_ind with
  | h0 => simp [pieces_nil]
  | h1 b r hs ih => rw [pieces_bad b r hs]; simp; omega
  | h2 p r hp ih =>
    rw [pieces_whole p r hp, List.length_cons, List.length_append]
    have := hp.1; have := hp.2; omega
theorem countL_le (l : List UInt8) : countL l ≤ (l.length : Int) := by
  have := pieces_le l
  unfold countL
  split <;> omega
theorem allV_of (l : List UInt8) (h : 0 ≤ countL l) : AllV l := by
  by_cases hv : AllV l
  · exact hv
  · have := (countL_neg l).2 hv; omega

set_option maxRecDepth 100000 in
set_option maxHeartbeats 4000000 in
theorem joins_any (s t : ByteArray) (w : World) : Calls Try.prog 8 #[.string s, .string t] w (Laws w) := by
  by_cases hs : 10000 < s.size
  · have hs' : (10000 : Int) < (s.size : Int) := by omega
    go_enter Try.func8, Try.ntmps8
    go_wp2_with (go_at_call 9; refine (awake_any w).mono ?_; rintro e w1 ⟨rfl, hb1⟩; replace hb1 := Lib.hid hb1)
    go_ret
    exact ⟨rfl, hb1.out⟩
  · have hs' : ¬ (10000 : Int) < (s.size : Int) := by omega
    by_cases ht : 10000 < t.size
    · have ht' : (10000 : Int) < (t.size : Int) := by omega
      go_enter Try.func8, Try.ntmps8
      go_wp2_with (go_at_call 9; refine (awake_any w).mono ?_; rintro e w1 ⟨rfl, hb1⟩; replace hb1 := Lib.hid hb1)
      go_ret
      exact ⟨rfl, hb1.out⟩
    · have ht' : ¬ (10000 : Int) < (t.size : Int) := by omega
      have Hcs := Lib.hid (fun W => count_any s W (by omega))
      have Hct := Lib.hid (fun W => count_any t W (by omega))
      have Hst := Lib.hid (fun W => count_any (s ++ t) W (by rw [ByteArray.size_append]; omega))
      have Hrs := Lib.hid (fun W => right_any s W (by omega))
      have Hrt := Lib.hid (fun W => right_any t W (by omega))
      have Hrst := Lib.hid (fun W => right_any (s ++ t) W (by rw [ByteArray.size_append]; omega))
      rw [bl_append] at Hst Hrst
      have l1 := countL_le (bl s)
      have l2 := countL_le (bl t)
      rw [bl_length] at l1 l2
      have Hsum := Lib.hid (fun h1 h2 => countL_app (bl s) (bl t) (allV_of _ h1) (allV_of _ h2))
      have Hj := Lib.hid (right_join (bl s) (bl t))
      generalize countL (bl s ++ bl t) = cst at *
      generalize rightL (bl s ++ bl t) = bst at *
      generalize countL (bl s) = c at *
      generalize countL (bl t) = d at *
      generalize rightL (bl s) = bb at *
      generalize rightL (bl t) = bt at *
      by_cases hc : c < 0
      · go_enter Try.func8, Try.ntmps8
        go_wp2_with (first | (go_at_call 9; refine (awake_any w).mono ?_; rintro e w1 ⟨rfl, hb1⟩; replace hb1 := Lib.hid hb1) | (go_at_call 12; refine (Hcs.out _).mono ?_; rintro e w2 ⟨rfl, hb2⟩; replace hb2 := Lib.hid (hb1.out.trans (hb2.mono hb1.out.size))))
        go_ret
        exact ⟨rfl, hb2.out⟩
      · go_enter Try.func8, Try.ntmps8
        go_wp2_with (first | (go_at_call 9; refine (awake_any w).mono ?_; rintro e w1 ⟨rfl, hb1⟩; replace hb1 := Lib.hid hb1))
        refine (Hcs.out _).mono ?_
        rintro e w2 ⟨rfl, hb2⟩
        replace hb2 := Lib.hid (hb1.out.trans (hb2.mono hb1.out.size))
        by_cases hd : d < 0
        · go_wp2_with (go_at_call 12; refine (Hct.out _).mono ?_; rintro e w3 ⟨rfl, hb3⟩; replace hb3 := Lib.hid (hb2.out.trans (hb3.mono hb2.out.size)))
          go_ret
          exact ⟨rfl, hb3.out⟩
        · have hsum := Hsum.out (by omega) (by omega)
          subst hsum
          go_wp2_with fail
          refine (Hct.out _).mono ?_
          rintro e w3 ⟨rfl, hb3⟩
          replace hb3 := Lib.hid (hb2.out.trans (hb3.mono hb2.out.size))
          go_wp2_with fail
          refine (Hcs.out _).mono ?_
          rintro e w4 ⟨rfl, hb4⟩
          replace hb4 := Lib.hid (hb3.out.trans (hb4.mono hb3.out.size))
          go_wp2_with fail
          refine (Hct.out _).mono ?_
          rintro e w5 ⟨rfl, hb5⟩
          replace hb5 := Lib.hid (hb4.out.trans (hb5.mono hb4.out.size))
          go_wp2_with fail
          refine (Hst.out _).mono ?_
          rintro e w6 ⟨rfl, hb6⟩
          replace hb6 := Lib.hid (hb5.out.trans (hb6.mono hb5.out.size))
          go_wp2_with fail
          refine (Hrs.out _).mono ?_
          rintro e w7 ⟨rfl, hb7⟩
          replace hb7 := Lib.hid (hb6.out.trans (hb7.mono hb6.out.size))
          cases bb with
          | false =>
            go_wp2
            go_ret
            exact ⟨rfl, hb7.out⟩
          | true =>
            go_wp2_with fail
            refine (Hrt.out _).mono ?_
            rintro e w8 ⟨rfl, hb8⟩
            replace hb8 := Lib.hid (hb7.out.trans (hb8.mono hb7.out.size))
            cases bt with
            | false =>
              go_wp2
              go_ret
              exact ⟨rfl, hb8.out⟩
            | true =>
              have hbst := Hj.out (by first | rfl | trivial) (by first | rfl | trivial)
              clear Hj
              by_cases h24 : c + d ≤ 24
              · rw [decide_eq_true h24] at hbst
                subst hbst
                go_wp2_with fail
                refine (Hrst.out _).mono ?_
                rintro e w9 ⟨rfl, hb9⟩
                replace hb9 := Lib.hid (hb8.out.trans (hb9.mono hb8.out.size))
                go_wp2
                go_ret
                exact ⟨rfl, hb9.out⟩
              · rw [decide_eq_false h24] at hbst
                subst hbst
                go_wp2_with fail
                refine (Hrst.out _).mono ?_
                rintro e w9 ⟨rfl, hb9⟩
                replace hb9 := Lib.hid (hb8.out.trans (hb9.mono hb8.out.size))
                go_wp2
                go_ret
                exact ⟨by simp; omega, hb9.out⟩
end Go.Proofs.Ytidacifgnaohjaa
