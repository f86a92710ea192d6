/-
  DiskPlays, from what it asks of the program's own disk.
-/
import Derived.Test.YtbgfkjafablfiaaTN
namespace Go.Proofs.Ytbgfkjafablfiaa
open Go.RowKit

/-- What a law comes to: true, and what was there stands. -/
def Laws (w : World) (e : Ending) (w' : World) : Prop := e = .returned (.bool true) ∧ Below w.heap.size w w'
/-- The numbers to keep of an op, where they lie. -/
def Keeps (w : World) (o : Oo) : Prop := ∃ keep : List Int, keep.length = o.kl ∧ RowAt w o.A (intC keep) ∧ (∀ x ∈ keep, I64 x) ∧ o.kl ≤ 9223372036854775807

set_option maxRecDepth 100000 in
set_option maxHeartbeats 4000000 in
theorem plays_law (G : GoodD) (room : Int) (l : List Oo) (A : Option Addr) (n cap : Nat) (w : World) (hroom : I64 room) (hn : l.length = n) (hr : RowAt w A (opC l)) (hn2 : n ≤ 9223372036854775807) (hi : ∀ o ∈ l, I64 o.n) (hk : ∀ o ∈ l, Keeps w o) :
    Calls Try.prog 3 #[.int .i64 room, .slice A n cap] w (Laws w) := by
  have HA := Lib.hid (awake_any G w)
  have Hr := Lib.hid hr
  have Hn := Lib.hid hn
  have Hi := Lib.hid hi
  have Hk := Lib.hid hk
  have HR := Lib.hid (fun W => refnew_any room W)
  clear hr hn hi hk
  by_cases hok : 0 ≤ room ∧ room ≤ 8388608
  · have hdec : (decide (0 ≤ room) && decide (room ≤ 8388608)) = true := by simp [hok.1, hok.2]
    rw [hdec] at HR
    have HN := Lib.hid (fun W => G.new room W hok.1 hok.2)
    have Hm0 := Lib.hid (most_new room hok.1 hok.2)
    clear hdec hok
    go_enter Try.func3, Try.ntmps3
    go_wp2_with fail
    refine HA.out.mono ?_
    rintro e w1 ⟨rfl, hb1⟩
    have B1 := Lib.hid hb1
    clear hb1 HA
    go_wp2_with fail
    refine (HN.out w1).mono ?_
    rintro e w2 ⟨a, F, rfl, hd, hF, hb2⟩
    have B2 := Lib.hid (B1.out.trans (hb2.mono B1.out.size))
    have D2 := Lib.hid hd
    have HF2 : Hid (∀ k, F k → w.heap.size ≤ k) := Lib.hid (fun k hk => Nat.le_trans B1.out.size (hF k hk))
    clear hd hF hb2 HN
    go_wp2_with fail
    refine (HR.out w2).mono ?_
    rintro e w3 ⟨rfl, hr3, hb3⟩
    have B3 := Lib.hid (B2.out.trans (hb3.mono B2.out.size))
    have HT3 : Hid (Both G w.heap.size w3 a F w2.heap.size (.slice none 0 0) (newS room)) := Lib.hid
      ⟨G.below D2.out hb3, hr3, fun k hk => ⟨fun e => by have := G.foot D2.out k hk; omega, fun e => by cases e⟩, HF2.out, B2.out.size⟩
    have Hr3 := Lib.hid (Hr.out.below B3.out (Nat.le_refl _))
    have HG := Lib.hid (great6_any l A n cap w3 Hn.out Hr3.out hn2)
    clear hr3 hb3 HR
    obtain ⟨r, hrr⟩ : ∃ r, r = w2.heap.size := ⟨_, rfl⟩
    have Hrr := Lib.hid hrr
    rw [← hrr] at HT3
    clear hrr
    go_wp2_with fail
    rw [← Hrr.out]
    refine HG.out.mono ?_
    rintro e w4 ⟨hg, hw⟩
    replace hw := hw.symm
    subst hw
    rcases hg with rfl | ⟨rfl, hsm⟩
    · go_wp2
      go_ret
      exact ⟨rfl, B3.out⟩
    · have Hsm := Lib.hid hsm
      clear hsm HG
      go_wp2_with fail
      have Hstart : Hid (Most (newS room) (totalB (l.take 0)) 0) := Hm0
      have HB4 : Hid (w.heap.size ≤ w3.heap.size) := Lib.hid B3.out.size
      have hn200 : n ≤ 200 := by have := Hsm.out.1; rw [Hn.out] at this; exact this
      go_loopw [40] (fun iv wr => ∃ i : Nat, ∃ F' v' s, i ≤ n ∧ iv = .int .i64 i ∧ Both G w.heap.size wr a F' r v' s ∧ Below w.heap.size w wr ∧ w.heap.size ≤ wr.heap.size ∧ Most s (totalB (l.take i)) i) (fun iv _ => n - (intOf iv).toNat)
      case atStart => exact ⟨0, F, _, newS room, Nat.zero_le _, rfl, HT3.out, B3.out, HB4.out, Hstart.out⟩
      case round =>
        clear Hstart HT3 HB4 Hr3 Hm0 D2 HF2
        obtain ⟨i, F', v', s, hi, rfl, hT, hbw, hBr, hm⟩ := hrel
        have HTr := Lib.hid hT
        have Hbw := Lib.hid hbw
        have HBr := Lib.hid hBr
        have Hm := Lib.hid hm
        clear hT hbw hBr hm
        by_cases hlt : i < n
        · have hltz : (i : Int) < (n : Int) := by omega
          obtain ⟨o, ho⟩ : ∃ o, l[i]? = some o := ⟨_, List.getElem?_eq_getElem (by rw [Hn.out]; exact hlt)⟩
          have hmem : o ∈ l := List.mem_of_getElem? ho
          have Hrr2 := Lib.hid (Hr.out.below Hbw.out (Nat.le_refl _))
          obtain ⟨b, off, rfl, hbl, d0, d1, d2, d3, d4⟩ := row_op Hrr2.out i o ho
          obtain ⟨keep, kl1, kr, ki, kk⟩ := Hk.out o hmem
          have Htt : Hid (totalB (l.take (i + 1)) = totalB (l.take i) + o.b.length) := Lib.hid (by rw [List.take_add_one, ho, totalB_append]; simp [totalB])
          have hsb := Hsm.out.2.1 o hmem
          have htot : totalB (l.take (i + 1)) ≤ 20000 := by
            have h1 := Hsm.out.2.2
            have h2 := congrArg totalB (List.take_append_drop (i + 1) l)
            rw [totalB_append] at h2
            omega
          have Hfit : Hid (Fit s) := Lib.hid (Hm.out.fit (by rw [Htt.out] at htot; omega) (by omega))
          have Hgr : Hid (Most (stepS o.k o.nm o.b o.n keep s) (totalB (l.take (i + 1))) (i + 1)) := Lib.hid (by rw [Htt.out]; exact Hm.out.grows (step_grows _ _ _ _ _ _ (Hi.out o hmem)))
          have Hfit2 : Hid (Fit (stepS o.k o.nm o.b o.n keep s)) := Lib.hid (Hgr.out.fit (by omega) (by omega))
          have HD := Lib.hid (does_any G o.k o.nm o.b o.n keep o.A o.kl o.kc w.heap.size wr a F' r v' s HTr.out HBr.out Hfit.out (by omega) (by omega) (Hi.out o hmem) kl1 (kr.below Hbw.out (Nat.le_refl _)) (fun g off hA hp => by
            obtain ⟨x, hx⟩ : ∃ x, (intC keep)[0]? = some x := ⟨_, List.getElem?_eq_getElem (by simp [intC]; omega)⟩
            obtain ⟨g', off', hA', hl', _⟩ := kr 0 x hx
            rw [hA] at hA'
            injection hA' with hA'
            injection hA' with e1
            omega) ki kk)
          clear ho hmem kl1 kr ki kk hsb htot
          go_wp2_with fail
          refine HD.out.mono ?_
          rintro e w5 ⟨rfl, F5, v5, T5, b5⟩
          have HT5 := Lib.hid T5
          have B5 : Hid (Below w.heap.size w w5) := Lib.hid (Hbw.out.trans b5)
          have Z5 : Hid (w.heap.size ≤ w5.heap.size) := Lib.hid B5.out.size
          have HS := Lib.hid (same_any G w.heap.size w5 a F5 r v5 _ HT5.out Z5.out Hfit2.out)
          clear T5 b5 HD
          go_wp2_with fail
          refine HS.out.mono ?_
          rintro e w6 ⟨rfl, F6, v6, T6, b6⟩
          have HT6 := Lib.hid T6
          have B6 : Hid (Below w.heap.size w w6) := Lib.hid (B5.out.trans b6)
          have Z6 : Hid (w.heap.size ≤ w6.heap.size) := Lib.hid B6.out.size
          clear T6 b6 HS
          go_wp2
          go_roundw
          case rel => exact ⟨i + 1, F6, v6, _, by omega, by go_num, HT6.out, B6.out, Z6.out, Hgr.out⟩
          case measure => simp [intOf]; omega
        · have hltz : ¬ (i : Int) < (n : Int) := by omega
          go_wp2
          go_ret
          exact ⟨rfl, Hbw.out⟩
  · have HN := Lib.hid (fun W => G.bad room W hroom hok)
    have hdec : (decide (0 ≤ room) && decide (room ≤ 8388608)) = false := by
      cases h : (decide (0 ≤ room) && decide (room ≤ 8388608)) with
      | false => rfl
      | true =>
        rw [Bool.and_eq_true, decide_eq_true_eq, decide_eq_true_eq] at h
        exact absurd h hok
    rw [hdec] at HR
    clear hdec hok
    go_enter Try.func3, Try.ntmps3
    go_wp2_with fail
    refine HA.out.mono ?_
    rintro e w1 ⟨rfl, hb1⟩
    have B1 := Lib.hid hb1
    clear hb1 HA
    go_wp2_with fail
    refine (HN.out w1).mono ?_
    rintro e w2 ⟨rfl, hb2⟩
    have B2 := Lib.hid (B1.out.trans (hb2.mono B1.out.size))
    clear hb2 HN
    go_wp2_with fail
    refine (HR.out w2).mono ?_
    rintro e w3 ⟨rfl, hr3, hb3⟩
    have B3 := Lib.hid (B2.out.trans (hb3.mono B2.out.size))
    clear hr3 hb3 HR
    go_wp2
    go_ret
    exact ⟨rfl, B3.out⟩
end Go.Proofs.Ytbgfkjafablfiaa
