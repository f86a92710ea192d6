/-
  The contract of the reference reader's Num.
-/
import Derived.Test.YtmgbmphheagdmaaGreatDoorKF
import Derived.Test.YtmgbmphheagdmaaGreatDoorGA
import Derived.BigQuiet
import Derived.Test.YtmgbmphheagdmaaGreatDoorGen
namespace Go.Proofs.YtmgbmphheagdmaaGreatDoor
open Go.RowKit

def accN (l : List UInt8) (j : Nat) : Nat := valL ((l.drop 1).take j)
theorem accN_zero (l : List UInt8) : accN l 0 = 0 := by unfold accN; rw [List.take_zero]; rfl
theorem accN_step (l : List UInt8) (j : Nat) (h : j + 1 < l.length) : accN l (j + 1) = accN l j * 256 + (l.getD (j + 1) 0).toNat := by
  have hl : j < (l.drop 1).length := by rw [List.length_drop]; omega
  unfold accN
  rw [List.take_succ_eq_append_getElem hl, valL_snoc, List.getElem_drop, List.getD_eq_getElem?_getD, List.getElem?_eq_getElem h]
  simp [Nat.add_comm]
theorem accN_mono (l : List UInt8) (j i : Nat) (h : j ≤ i) (hl : i + 1 ≤ l.length) : accN l j ≤ accN l i := by
  induction i with
  | zero => have : j = 0 := by omega
            subst this; exact Nat.le_refl _
  | succ i ih =>
    rcases Nat.lt_or_ge i j with h1 | h1
    · have : j = i + 1 := by omega
      subst this; exact Nat.le_refl _
    · have := ih h1 (by omega)
      rw [accN_step l i (by omega)]; omega
theorem accN_over (l : List UInt8) (j k : Nat) (h : j < k) (hl : k + 1 ≤ l.length) (hv : 18014398509481983 < accN l j) : top < accN l k := by
  have h1 := accN_mono l (j + 1) k (by omega) hl
  rw [accN_step l j (by omega)] at h1
  unfold top; omega
theorem dec_eq (l : List UInt8) (k : Nat) (hk : (l.getD 0 0).toNat = k) (hne : l ≠ []) (h8 : k ≤ 8) (hl : 1 + k ≤ l.length) (ht : accN l k ≤ top) :
    decL l = if l.take (1 + k) = encL (accN l k) then some (accN l k, 1 + k) else none := by
  by_cases hz : 0 < k ∧ l.getD 1 0 = 0
  · have hn := decL_none (l := l) (.inr (.inr (.inr (.inl (by rw [hk]; exact hz)))))
    rw [hn, if_neg]
    intro e
    have := decL_enc (accN l k) ht (l.drop (1 + k))
    rw [← e, List.take_append_drop, hn] at this
    cases this
  · have hs : decL l = some (accN l k, 1 + k) := by
      have := decL_some (l := l) (by rw [hk]; simp only [not_or]; exact ⟨hne, by omega, by omega, hz, by unfold accN at ht; omega⟩)
      rw [hk] at this
      exact this
    rw [hs, if_pos (decL_sound hs).2.2.1]

set_option maxRecDepth 100000 in
set_option maxHeartbeats 4000000 in
theorem refrd_any (most : Int) (l : List UInt8) (bad : Bool) (a : Nat) (w : World) (h : RdM 106 w a l bad) (hl : l.length ≤ 1000000000) :
    Calls Tryz.prog 64 #[.pointer (some ⟨a, 0, none⟩), .int .i64 most] w (RdGot 106 w a (.int .i64 (rdN most l bad).1) (rdN most l bad).2) := by
  cases bad with
  | true =>
    have Hend : Hid (RdGot 106 w a (.int .i64 0) ([], true) (.returned (.int .i64 0)) ((w.setCell ⟨a, 0, none⟩ (.string { data := #[] })).setCell ⟨a, 1, none⟩ (.bool true))) := Lib.hid (by
      obtain ⟨s, hh, _, _⟩ := h
      exact ⟨rfl, ⟨_, Holds.set (Holds.set hh 0 _) 1 _, bl_empty, fun _ => rfl⟩, grown_set (grown_set (grown_refl _ _) _) _⟩)
    obtain ⟨s, hh, _, _⟩ := h
    obtain ⟨c0, c1, f0, f1⟩ := RdM.cells hh
    rw [rdN_bad]
    clear hh
    go_enter Tryz.func64, Tryz.ntmps64
    go_wp2
    go_ret
    exact Hend.out
  | false =>
    obtain ⟨s, hh, hs, _⟩ := h
    obtain ⟨c0, c1, f0, f1⟩ := RdM.cells hh
    have Hh := Lib.hid hh
    have Hs := Lib.hid hs
    have hsz : s.size ≤ 1000000000 := by rw [← bl_length, hs]; exact hl
    clear hh hl
    have Hstop : Hid (∀ W, Holds W a 106 [.string s, .bool false] → w.grownBy W (some a) → RdGot 106 w a (.int .i64 0) ([], true) (.returned (.int .i64 0)) ((W.setCell ⟨a, 0, none⟩ (.string { data := #[] })).setCell ⟨a, 1, none⟩ (.bool true))) := Lib.hid
      fun W hW hg => ⟨rfl, ⟨_, Holds.set (Holds.set hW 0 _) 1 _, bl_empty, fun _ => rfl⟩, grown_set (grown_set hg _) _⟩
    by_cases h0 : s.size = 0
    · have hn : l = [] := List.eq_nil_of_length_eq_zero (by rw [← hs, bl_length]; exact h0)
      rw [rdN_none (by rw [hn]; exact decL_nil)]
      clear hs hn
      go_enter Tryz.func64, Tryz.ntmps64
      go_wp2
      go_ret
      exact Hstop.out _ Hh.out (grown_refl _ _)
    · have hpos : 0 < s.size := by omega
      have hs0 : ((s.size : Int) == 0) = false := by rw [beq_eq_false_iff_ne]; omega
      obtain ⟨k, hk⟩ : ∃ k, s[0].toNat = k := ⟨_, rfl⟩
      have hk256 : k < 256 := by rw [← hk]; exact s[0].toNat_lt
      have Hl := Lib.hid (show l.length = s.size by rw [← hs, bl_length])
      have Hk : Hid ((l.getD 0 0).toNat = k) := Lib.hid (by rw [← hk, bl_get, hs])
      have Hne : Hid (l ≠ []) := Lib.hid (fun e => h0 (by rw [← Hl.out, e]; rfl))
      clear hs
      by_cases h8 : 8 < k
      · rw [rdN_none (decL_none (.inr (.inl (by rw [Hk.out]; exact h8))))]
        have h8' : (8 : Int) < k := by omega
        go_enter Tryz.func64, Tryz.ntmps64
        go_wp2
        go_ret
        exact Hstop.out _ Hh.out (grown_refl _ _)
      · have h8' : ¬ (8 : Int) < k := by omega
        by_cases hlen : s.size < 1 + k
        · rw [rdN_none (decL_none (.inr (.inr (.inl (by rw [Hk.out, Hl.out]; exact hlen)))))]
          have hlen' : (s.size : Int) < 1 + (k : Int) := by omega
          go_enter Tryz.func64, Tryz.ntmps64
          go_wp2
          go_ret
          exact Hstop.out _ Hh.out (grown_refl _ _)
        · have hlen' : ¬ (s.size : Int) < 1 + (k : Int) := by omega
          go_enter Tryz.func64, Tryz.ntmps64
          go_wp2
          go_loop [6, 7] (fun nv iv => ∃ j : Nat, j ≤ k ∧ iv = .int .i64 ((1 + j : Nat) : Int) ∧ nv = .int .i64 (accN l j) ∧ accN l j ≤ top) (fun _ iv => 10 - (intOf iv).toNat)
          case atStart => exact ⟨0, by omega, rfl, by rw [accN_zero]; rfl, by rw [accN_zero]; exact Nat.zero_le _⟩
          case round =>
            obtain ⟨j, hj, rfl, rfl, hv⟩ := hrel
            obtain ⟨v, hv'⟩ : ∃ v, v = accN l j := ⟨_, rfl⟩
            rw [← hv'] at hv ⊢
            have HV := Lib.hid hv'
            clear hv'
            have hv2 : v ≤ 4611686018427387903 := hv
            clear hv
            by_cases hlt : j < k
            · have hlt' : (1 : Int) + j ≤ k := by omega
              by_cases hbig : 18014398509481983 < v
              · rw [rdN_none (decL_none (.inr (.inr (.inr (.inr (by rw [Hk.out]; exact accN_over l j k hlt (by rw [Hl.out]; omega) (by rw [← HV.out]; exact hbig)))))))]
                have hbig' : (18014398509481983 : Int) < v := by omega
                go_wp2
                go_ret
                exact Hstop.out _ Hh.out (grown_refl _ _)
              · have hbig' : ¬ (18014398509481983 : Int) < v := by omega
                have hjs : 1 + j < s.size := by omega
                obtain ⟨c, hc⟩ : ∃ c, s[1 + j].toNat = c := ⟨_, rfl⟩
                have hc256 : c < 256 := by rw [← hc]; exact s[1 + j].toNat_lt
                have Hst : Hid (accN l (j + 1) = v * 256 + c) := Lib.hid (by
                  have e : ((bl s).getD (1 + j) 0).toNat = c := by rw [← bl_get s (1 + j) hjs, hc]
                  rw [accN_step l j (by rw [Hl.out]; omega), ← HV.out, ← e, Nat.add_comm 1 j, Hs.out])
                go_wp2
                go_round
                case rel => exact ⟨j + 1, by omega, by go_num, by rw [Hst.out]; go_num, by rw [Hst.out]; unfold top; omega⟩
                case measure => simp [intOf]; omega
            · obtain rfl : j = k := by omega
              have hlt' : ¬ (1 : Int) + j ≤ j := by omega
              have Hdec := Lib.hid (dec_eq l j Hk.out Hne.out (by omega) (by rw [Hl.out]; omega) (by rw [← HV.out]; exact hv2))
              rw [← HV.out] at Hdec
              have haw : Hid (a < w.heap.size) := Lib.hid (Holds.lt Hh.out)
              have hb0 : (0 : Int) ≤ 1 + (j : Int) := by omega
              have hb1 : (1 : Int) + j ≤ s.size := by omega
              have hbn : ((1 : Int) + j).toNat = 1 + j := by omega
              have hbw : IntKind.i64.wrap ((1 : Int) + j) = 1 + j := by simp [IntKind.wrap, IntKind.bits, IntKind.signed]; omega
              have Hnum : Hid (∀ x : {w' : World // Below w.heap.size w w'}, Calls Tryz.prog 67 #[.int .i64 v] x.1 fun e w'' => e = .returned (.string (bs (encL v))) ∧ ∃ m : {w' : World // Below w.heap.size w w'}, w'' = m.1) := Lib.hid (fun x => (refnum_any v x.1 (by omega)).mono (by rintro e w'' ⟨rfl, hb⟩; exact ⟨rfl, ⟨⟨w'', x.2.trans (hb.mono x.2.size)⟩, rfl⟩⟩))
              have hcl : ∀ x : {w' : World // Below w.heap.size w w'}, x.1.cell? ⟨a, 0, none⟩ = some (.string s) := fun x => (x.2.cell (p := ⟨a, 0, none⟩) haw.out).trans c0
              have Hnum : Hid (∀ x : {w' : World // Below w.heap.size w w'}, Calls Tryz.prog 67 #[.int .i64 v] x.1 fun e w'' => e = .returned (.string (bs (encL v))) ∧ ∃ m : {w' : World // Below w.heap.size w w'}, w'' = m.1) := Lib.hid (fun x => (refnum_any v x.1 (by omega)).mono (by rintro e w'' ⟨rfl, hb⟩; exact ⟨rfl, ⟨⟨w'', x.2.trans (hb.mono x.2.size)⟩, rfl⟩⟩))
              have hcl : ∀ x : {w' : World // Below w.heap.size w w'}, x.1.cell? ⟨a, 0, none⟩ = some (.string s) := fun x => (x.2.cell (p := ⟨a, 0, none⟩) haw.out).trans c0
              have Hnum : Hid (∀ x : InW (Below w.heap.size w), Calls Tryz.prog 67 #[.int .i64 v] x.wd fun e w'' => e = .returned (.string (bs (encL v))) ∧ ∃ m : InW (Below w.heap.size w), w'' = m.wd) := Lib.hid (fun x => (refnum_any v x.wd (by omega)).mono (by rintro e w'' ⟨rfl, hb⟩; exact ⟨rfl, ⟨⟨w'', x.ok.trans (hb.mono x.ok.size)⟩, rfl⟩⟩))
              have hcl : ∀ x : InW (Below w.heap.size w), x.wd.cell? ⟨a, 0, none⟩ = some (.string s) := fun x => (x.ok.cell (p := ⟨a, 0, none⟩) haw.out).trans c0
              have hinh : Nonempty (InW (Below w.heap.size w)) := ⟨⟨w, Below.refl _ w⟩⟩
              have Hnum : Hid (∀ x : InW (Below w.heap.size w), Calls Tryz.prog 67 #[.int .i64 v] x.wd fun e w'' => e = .returned (.string (bs (encL v))) ∧ ∃ m : InW (Below w.heap.size w), w'' = m.wd) := Lib.hid (fun x => (refnum_any v x.wd (by omega)).mono (by rintro e w'' ⟨rfl, hb⟩; exact ⟨rfl, ⟨⟨w'', x.ok.trans (hb.mono x.ok.size)⟩, rfl⟩⟩))
              have hcl : ∀ x : InW (Below w.heap.size w), x.wd.cell? ⟨a, 0, none⟩ = some (.string s) := fun x => (x.ok.cell (p := ⟨a, 0, none⟩) haw.out).trans c0
              have hinh : Nonempty (InW (Below w.heap.size w)) := ⟨⟨w, Below.refl _ w⟩⟩
              have Hnum : Hid (∀ x : InW (Below w.heap.size w), Calls Tryz.prog 67 #[.int .i64 v] x.wd fun e w'' => e = .returned (.string (bs (encL v))) ∧ ∃ m : InW (Below w.heap.size w), w'' = m.wd) := Lib.hid (fun x => (refnum_any v x.wd (by omega)).mono (by rintro e w'' ⟨rfl, hb⟩; exact ⟨rfl, ⟨⟨w'', x.ok.trans (hb.mono x.ok.size)⟩, rfl⟩⟩))
              have hcl : ∀ x : InW (Below w.heap.size w), x.wd.cell? ⟨a, 0, none⟩ = some (.string s) := fun x => (x.ok.cell (p := ⟨a, 0, none⟩) haw.out).trans c0
              by_cases hq : s.extract 0 (1 + j) = bs (encL v)
              · have hq' : ((bs (encL v)).toList == (s.extract 0 (1 + j)).toList) = true := by rw [hq]; simp
                have Hd2 : Hid (decL l = some (v, 1 + j)) := Lib.hid (by
                  rw [Hdec.out, if_pos]
                  rw [← Hs.out, ← bl_take, hq, bl_bs])
                have hd0 : decide ((v : Int) < 0) = false := decide_eq_false (by omega)
                clear hq Hdec
                by_cases hm : (v : Int) ≤ most
                · have hd : decide (most < (v : Int)) = false := decide_eq_false (by omega)
                  have Hres : Hid (rdN most l false = (v, l.drop (1 + j), false)) := Lib.hid (rdN_some Hd2.out hm)
                  go_wp2_with fail
                  refine wp_region_quiet_in (Below w.heap.size w) (by kernel_rfl) (by kernel_rfl) ((Below.refl _ w).drew) ?_
                  repeat (go_big_quiet_step ((go_at_call 67; exact Hnum.out _)))
                  refine wpQuiet_nil ?_
                  intro w3 hx3
                  obtain ⟨x3, hx3⟩ := hx3
                  have hb3 : Below w.heap.size w w3 := by rw [hx3]; exact x3.ok
                  clear hx3 x3
                  have Hh3 : Hid (Holds w3 a 106 [.string s, .bool false]) := Lib.hid (Holds.below Hh.out hb3 haw.out)
                  have Hg3 : Hid (w.grownBy w3 (some a)) := Lib.hid (grown_below _ hb3)
                  obtain ⟨d0, d1, g0, g1⟩ := RdM.cells Hh3.out
                  clear hb3 hcl Hnum hinh
                  go_wp2
                  go_ret
                  rw [Hres.out]
                  exact ⟨rfl, ⟨_, Holds.set Hh3.out 0 _, by rw [bl_drop, Hs.out], fun h => by cases h⟩, grown_set Hg3.out _⟩
                · have hd : decide (most < (v : Int)) = true := decide_eq_true (by omega)
                  have Hres : Hid (rdN most l false = (0, [], true)) := Lib.hid (rdN_over Hd2.out hm)
                  go_wp2_with fail
                  refine wp_region_quiet_in (Below w.heap.size w) (by kernel_rfl) (by kernel_rfl) ((Below.refl _ w).drew) ?_
                  repeat (go_big_quiet_step ((go_at_call 67; exact Hnum.out _)))
                  refine wpQuiet_nil ?_
                  intro w3 hx3
                  obtain ⟨x3, hx3⟩ := hx3
                  have hb3 : Below w.heap.size w w3 := by rw [hx3]; exact x3.ok
                  clear hx3 x3
                  have Hh3 : Hid (Holds w3 a 106 [.string s, .bool false]) := Lib.hid (Holds.below Hh.out hb3 haw.out)
                  have Hg3 : Hid (w.grownBy w3 (some a)) := Lib.hid (grown_below _ hb3)
                  obtain ⟨d0, d1, g0, g1⟩ := RdM.cells Hh3.out
                  clear hb3 hcl Hnum hinh
                  go_wp2
                  go_ret
                  rw [Hres.out]
                  exact Hstop.out _ Hh3.out Hg3.out
              · have hq' : ((bs (encL v)).toList == (s.extract 0 (1 + j)).toList) = false := by
                  rw [beq_eq_false_iff_ne, bl_toList, bl_toList]
                  exact fun e => hq (by rw [← bs_bl (s.extract 0 (1 + j)), ← e, bl_bs])
                have hd0 : decide ((v : Int) < 0) = false := decide_eq_false (by omega)
                have Hres : Hid (rdN most l false = (0, [], true)) := Lib.hid (rdN_none (by
                  rw [Hdec.out, if_neg]
                  intro e
                  refine hq ?_
                  rw [← e, ← Hs.out, ← bl_take, bs_bl]))
                clear hq Hdec
                go_wp2_with fail
                refine wp_region_quiet_in (Below w.heap.size w) (by kernel_rfl) (by kernel_rfl) ((Below.refl _ w).drew) ?_
                repeat (go_big_quiet_step ((go_at_call 67; exact Hnum.out _)))
                refine wpQuiet_nil ?_
                intro w3 hx3
                obtain ⟨x3, hx3⟩ := hx3
                have hb3 : Below w.heap.size w w3 := by rw [hx3]; exact x3.ok
                clear hx3 x3
                have Hh3 : Hid (Holds w3 a 106 [.string s, .bool false]) := Lib.hid (Holds.below Hh.out hb3 haw.out)
                have Hg3 : Hid (w.grownBy w3 (some a)) := Lib.hid (grown_below _ hb3)
                obtain ⟨d0, d1, g0, g1⟩ := RdM.cells Hh3.out
                clear hb3 hcl Hnum hinh
                go_wp2
                go_ret
                rw [Hres.out]
                exact Hstop.out _ Hh3.out Hg3.out
end Go.Proofs.YtmgbmphheagdmaaGreatDoor
