/- Texts of one claim, joined: RK RL RM RN. -/
import Derived.Test.YtmgbmphheagdmaaGreatDoorDL
import Derived.Lib.Strings
import Derived.Lib.Slices
import Derived.Lib.Small
import Derived.Lib.Walk
/-
  The contracts of the reference's within and tail.
-/
namespace Go.Proofs.YtmgbmphheagdmaaGreatDoor
open Go.RowKit
set_option maxRecDepth 100000 in
set_option maxHeartbeats 1000000 in
theorem within_any (s : ByteArray) (k lo hi : Nat) (w : World) :
    Calls Tryz.prog 101 #[.string s, .int .i64 (k : Int), .int .u8 (lo : Int), .int .u8 (hi : Int)] w fun e w' => e = .returned (.bool (decide (inB (bl s) k lo hi))) ∧ w' = w := by
  by_cases hks : k < s.size
  · obtain ⟨c, hc⟩ : ∃ c, s[k].toNat = c := ⟨_, rfl⟩
    have Hi := Lib.hid (inB_iff s k lo hi c hks hc)
    have hc8 : c < 256 := by rw [← hc]; exact s[k].toNat_lt
    by_cases g1 : lo ≤ c
    · by_cases g2 : c ≤ hi
      · have Hv : Hid (decide (inB (bl s) k lo hi) = true) := Lib.hid (decide_eq_true (Hi.out.2 ⟨g1, g2⟩))
        have g1' : (lo : Int) ≤ (c : Int) := by omega
        have g2' : (c : Int) ≤ (hi : Int) := by omega
        go_enter Tryz.func101, Tryz.ntmps101
        go_wp2
        go_ret
        exact ⟨by rw [Hv.out]; rfl, rfl⟩
      · have Hv : Hid (decide (inB (bl s) k lo hi) = false) := Lib.hid (decide_eq_false (fun h => g2 (Hi.out.1 h).2))
        have g1' : (lo : Int) ≤ (c : Int) := by omega
        have g2' : ¬ (c : Int) ≤ (hi : Int) := by omega
        go_enter Tryz.func101, Tryz.ntmps101
        go_wp2
        go_ret
        exact ⟨by rw [Hv.out]; rfl, rfl⟩
    · have Hv : Hid (decide (inB (bl s) k lo hi) = false) := Lib.hid (decide_eq_false (fun h => g1 (Hi.out.1 h).1))
      have g1' : ¬ (lo : Int) ≤ (c : Int) := by omega
      go_enter Tryz.func101, Tryz.ntmps101
      go_wp2
      go_ret
      exact ⟨by rw [Hv.out]; rfl, rfl⟩
  · have Hv : Hid (decide (inB (bl s) k lo hi) = false) := Lib.hid (decide_eq_false (fun h => hks (by have := h.1; rw [bl_length] at this; exact this)))
    have hks' : ¬ (k : Int) < (s.size : Int) := by omega
    go_enter Tryz.func101, Tryz.ntmps101
    go_wp2
    go_ret
    exact ⟨by rw [Hv.out]; rfl, rfl⟩
set_option maxRecDepth 100000 in
set_option maxHeartbeats 1000000 in
theorem tail_any (s : ByteArray) (k n : Nat) (w : World) (hk : k ≤ 100) (hn : n ≤ 100) :
    Calls Tryz.prog 102 #[.string s, .int .i64 (k : Int), .int .i64 (n : Int)] w fun e w' => e = .returned (.bool (decide (tailP (bl s) k n))) ∧ w' = w := by
  go_enter Tryz.func102, Tryz.ntmps102
  go_wp2
  go_loop [7] (fun i => ∃ j : Nat, j ≤ n ∧ i = .int .i64 (j : Int) ∧ ∀ q, q < j → inB (bl s) (k + q) 128 191) (fun i => n + 1 - (intOf i).toNat)
  case atStart => exact ⟨0, by omega, rfl, fun q hq => by omega⟩
  case round =>
    obtain ⟨j, hj, rfl, hq⟩ := hrel
    have Hq := Lib.hid hq
    clear hq
    by_cases hlt : j < n
    · have Hc := Lib.hid (within_any s (k + j) 128 191 w)
      rw [show ((k + j : Nat) : Int) = (k : Int) + (j : Int) by omega] at Hc
      have hlt' : (j : Int) < (n : Int) := by omega
      by_cases hb : inB (bl s) (k + j) 128 191
      · have Hd : Hid (decide (inB (bl s) (k + j) 128 191) = true) := Lib.hid (decide_eq_true hb)
        have Hn : Hid (∀ q, q < j + 1 → inB (bl s) (k + q) 128 191) := Lib.hid (fun q hq => by
          by_cases h : q < j
          · exact Hq.out q h
          · obtain rfl : q = j := by omega
            exact hb)
        clear hb
        go_wp2_with (go_at_call 101; refine Hc.out.mono ?_; rintro e w' ⟨rfl, rfl⟩; rw [Hd.out])
        go_round
        case rel => exact ⟨j + 1, by omega, by go_num, Hn.out⟩
        case measure => simp [intOf]; omega
      · have Hd : Hid (decide (inB (bl s) (k + j) 128 191) = false) := Lib.hid (decide_eq_false hb)
        have Hv : Hid (decide (tailP (bl s) k n) = false) := Lib.hid (decide_eq_false (fun h => hb (h j hlt)))
        clear hb
        go_wp2_with (go_at_call 101; refine Hc.out.mono ?_; rintro e w' ⟨rfl, rfl⟩; rw [Hd.out])
        go_ret
        exact ⟨by rw [Hv.out]; rfl, rfl⟩
    · obtain rfl : j = n := by omega
      have Hv : Hid (decide (tailP (bl s) k j) = true) := Lib.hid (decide_eq_true Hq.out)
      go_wp2
      go_ret
      exact ⟨by rw [Hv.out]; rfl, rfl⟩
end Go.Proofs.YtmgbmphheagdmaaGreatDoor

/-
  The contract of the reference's Size.
-/
namespace Go.Proofs.YtmgbmphheagdmaaGreatDoor
open Go.RowKit
/-- A callee that tells whether and changes nothing. -/
@[reducible] def TellsR (f : Nat) (args : Array Value) (b : Bool) : Prop := ∀ w, Calls Tryz.prog f args w fun e w' => e = .returned (.bool b) ∧ w' = w
set_option maxRecDepth 100000 in
set_option maxHeartbeats 8000000 in
theorem size_bools (s : ByteArray) (a0 b0 t1 t2 e0 e1 f0 g0 g1 h0 t3 i0 i1 j0 k0 k1 : Bool) (w : World)
    (A0 : TellsR 101 #[.string s, .int .i64 0, .int .u8 0, .int .u8 127] a0) (B0 : TellsR 101 #[.string s, .int .i64 0, .int .u8 194, .int .u8 223] b0)
    (T1 : TellsR 102 #[.string s, .int .i64 1, .int .i64 1] t1) (T2 : TellsR 102 #[.string s, .int .i64 1, .int .i64 2] t2)
    (E0 : TellsR 101 #[.string s, .int .i64 0, .int .u8 224, .int .u8 224] e0) (E1 : TellsR 101 #[.string s, .int .i64 1, .int .u8 160, .int .u8 191] e1)
    (F0 : TellsR 101 #[.string s, .int .i64 0, .int .u8 225, .int .u8 236] f0) (G0 : TellsR 101 #[.string s, .int .i64 0, .int .u8 237, .int .u8 237] g0)
    (G1 : TellsR 101 #[.string s, .int .i64 1, .int .u8 128, .int .u8 159] g1) (H0 : TellsR 101 #[.string s, .int .i64 0, .int .u8 238, .int .u8 239] h0)
    (T3 : TellsR 102 #[.string s, .int .i64 1, .int .i64 3] t3) (I0 : TellsR 101 #[.string s, .int .i64 0, .int .u8 240, .int .u8 240] i0)
    (I1 : TellsR 101 #[.string s, .int .i64 1, .int .u8 144, .int .u8 191] i1) (J0 : TellsR 101 #[.string s, .int .i64 0, .int .u8 241, .int .u8 243] j0)
    (K0 : TellsR 101 #[.string s, .int .i64 0, .int .u8 244, .int .u8 244] k0) (K1 : TellsR 101 #[.string s, .int .i64 1, .int .u8 128, .int .u8 143] k1)
    (hc : (a0, b0, e0, f0, g0, h0, i0, j0, k0) ∈ [(true, false, false, false, false, false, false, false, false), (false, true, false, false, false, false, false, false, false), (false, false, true, false, false, false, false, false, false),
      (false, false, false, true, false, false, false, false, false), (false, false, false, false, true, false, false, false, false), (false, false, false, false, false, true, false, false, false), (false, false, false, false, false, false, true, false, false),
      (false, false, false, false, false, false, false, true, false), (false, false, false, false, false, false, false, false, true), (false, false, false, false, false, false, false, false, false)])
    (ht : (t1, t2, t3) ∈ [(true, true, true), (true, true, false), (true, false, false), (false, false, false)]) :
    Calls Tryz.prog 75 #[.string s] w fun e w' => e = .returned (.int .i64 (sizeB a0 b0 t1 t2 e0 e1 f0 g0 g1 h0 t3 i0 i1 j0 k0 k1 : Nat)) ∧ w' = w := by
  simp only [List.mem_cons, Prod.mk.injEq, List.not_mem_nil, or_false] at hc ht
  rcases hc with ⟨rfl, rfl, rfl, rfl, rfl, rfl, rfl, rfl, rfl⟩ | ⟨rfl, rfl, rfl, rfl, rfl, rfl, rfl, rfl, rfl⟩ | ⟨rfl, rfl, rfl, rfl, rfl, rfl, rfl, rfl, rfl⟩ | ⟨rfl, rfl, rfl, rfl, rfl, rfl, rfl, rfl, rfl⟩ | ⟨rfl, rfl, rfl, rfl, rfl, rfl, rfl, rfl, rfl⟩ | ⟨rfl, rfl, rfl, rfl, rfl, rfl, rfl, rfl, rfl⟩ | ⟨rfl, rfl, rfl, rfl, rfl, rfl, rfl, rfl, rfl⟩ | ⟨rfl, rfl, rfl, rfl, rfl, rfl, rfl, rfl, rfl⟩ | ⟨rfl, rfl, rfl, rfl, rfl, rfl, rfl, rfl, rfl⟩ | ⟨rfl, rfl, rfl, rfl, rfl, rfl, rfl, rfl, rfl⟩
  all_goals rcases ht with ⟨rfl, rfl, rfl⟩ | ⟨rfl, rfl, rfl⟩ | ⟨rfl, rfl, rfl⟩ | ⟨rfl, rfl, rfl⟩
  all_goals go_enter Tryz.func75, Tryz.ntmps75
  all_goals go_wp2_with (first
    | (go_at_call 101; (first | with_reducible refine (A0 _).mono ?_ | with_reducible refine (B0 _).mono ?_ | with_reducible refine (E0 _).mono ?_ | with_reducible refine (E1 _).mono ?_ | with_reducible refine (F0 _).mono ?_ | with_reducible refine (G0 _).mono ?_ | with_reducible refine (G1 _).mono ?_ | with_reducible refine (H0 _).mono ?_ | with_reducible refine (I0 _).mono ?_ | with_reducible refine (I1 _).mono ?_ | with_reducible refine (J0 _).mono ?_ | with_reducible refine (K0 _).mono ?_ | with_reducible refine (K1 _).mono ?_); rintro e w' ⟨rfl, rfl⟩)
    | (go_at_call 102; (first | with_reducible refine (T1 _).mono ?_ | with_reducible refine (T2 _).mono ?_ | with_reducible refine (T3 _).mono ?_); rintro e w' ⟨rfl, rfl⟩))
  all_goals (go_ret; refine ⟨congrArg Ending.returned (congrArg (Value.int IntKind.i64) ?_), rfl⟩; simp_all [sizeB])
theorem size_any (s : ByteArray) (w : World) : Calls Tryz.prog 75 #[.string s] w fun e w' => e = .returned (.int .i64 (sizeL (bl s) : Nat)) ∧ w' = w := by
  rw [sizeL_B]
  exact size_bools s _ _ _ _ _ _ _ _ _ _ _ _ _ _ _ _ w (fun w => within_any s 0 0 127 w) (fun w => within_any s 0 194 223 w) (fun w => tail_any s 1 1 w (by omega) (by omega)) (fun w => tail_any s 1 2 w (by omega) (by omega))
    (fun w => within_any s 0 224 224 w) (fun w => within_any s 1 160 191 w) (fun w => within_any s 0 225 236 w) (fun w => within_any s 0 237 237 w) (fun w => within_any s 1 128 159 w) (fun w => within_any s 0 238 239 w)
    (fun w => tail_any s 1 3 w (by omega) (by omega)) (fun w => within_any s 0 240 240 w) (fun w => within_any s 1 144 191 w) (fun w => within_any s 0 241 243 w) (fun w => within_any s 0 244 244 w) (fun w => within_any s 1 128 143 w)
    (class_of _) (tails_of _)
end Go.Proofs.YtmgbmphheagdmaaGreatDoor

/-
  The contract of the reference's itself, and of its Count.
-/
namespace Go.Proofs.YtmgbmphheagdmaaGreatDoor
open Go.RowKit
set_option maxRecDepth 100000 in
set_option maxHeartbeats 1000000 in
theorem itself_any (r : ByteArray) (w : World) : Calls Tryz.prog 76 #[.string r] w fun e w' => e = .returned (.bool (selfL (bl r))) ∧ w' = w := by
  by_cases h1 : r.size = 1
  · have h0 : 0 < r.size := by omega
    obtain ⟨c, hc⟩ : ∃ c, r[0].toNat = c := ⟨_, rfl⟩
    have Hv := Lib.hid (selfL_1 r h1 c (by rw [bl_byte r 0 h0, hc]))
    have hc8 : c < 256 := by rw [← hc]; exact r[0].toNat_lt
    have h1' : ((r.size : Int) == 1) = true := by simp; omega
    by_cases g1 : (32 : Int) ≤ (c : Int)
    · by_cases g2 : (c : Int) ≤ 126
      · by_cases g3 : c = 92
        · have g3' : ((c : Int) != 92) = false := by simp; omega
          have Hd : Hid (decide (32 ≤ c ∧ c ≤ 126 ∧ c ≠ 92) = false) := Lib.hid (decide_eq_false (by omega))
          clear g3
          go_enter Tryz.func76, Tryz.ntmps76
          go_wp2
          go_ret
          exact ⟨by rw [Hv.out, Hd.out]; rfl, rfl⟩
        · have g3' : ((c : Int) != 92) = true := by simp; omega
          have Hd : Hid (decide (32 ≤ c ∧ c ≤ 126 ∧ c ≠ 92) = true) := Lib.hid (decide_eq_true (by omega))
          clear g3
          go_enter Tryz.func76, Tryz.ntmps76
          go_wp2
          go_ret
          exact ⟨by rw [Hv.out, Hd.out]; rfl, rfl⟩
      · have Hd : Hid (decide (32 ≤ c ∧ c ≤ 126 ∧ c ≠ 92) = false) := Lib.hid (decide_eq_false (by omega))
        go_enter Tryz.func76, Tryz.ntmps76
        go_wp2
        go_ret
        exact ⟨by rw [Hv.out, Hd.out]; rfl, rfl⟩
    · have Hd : Hid (decide (32 ≤ c ∧ c ≤ 126 ∧ c ≠ 92) = false) := Lib.hid (decide_eq_false (by omega))
      go_enter Tryz.func76, Tryz.ntmps76
      go_wp2
      go_ret
      exact ⟨by rw [Hv.out, Hd.out]; rfl, rfl⟩
  · have h1' : ((r.size : Int) == 1) = false := by simp; omega
    by_cases h2 : r.size = 2
    · have h2' : ((r.size : Int) == 2) = true := by simp; omega
      have h0 : 0 < r.size := by omega
      have h01 : 1 < r.size := by omega
      obtain ⟨c, hc⟩ : ∃ c, r[0].toNat = c := ⟨_, rfl⟩
      obtain ⟨d, hd⟩ : ∃ d, r[1].toNat = d := ⟨_, rfl⟩
      have hd8 : d < 256 := by rw [← hd]; exact r[1].toNat_lt
      by_cases g1 : c = 194
      · have g1' : ((c : Int) == 194) = true := by simp; omega
        have Hv := Lib.hid (selfL_2 r h2 (by rw [bl_byte r 0 h0, hc, g1]) d (by rw [bl_byte r 1 h01, hd]))
        clear g1
        by_cases g2 : (161 : Int) ≤ (d : Int)
        · have Hd : Hid (decide (161 ≤ d) = true) := Lib.hid (decide_eq_true (by omega))
          go_enter Tryz.func76, Tryz.ntmps76
          go_wp2
          go_ret
          exact ⟨by rw [Hv.out, Hd.out]; rfl, rfl⟩
        · have Hd : Hid (decide (161 ≤ d) = false) := Lib.hid (decide_eq_false (by omega))
          go_enter Tryz.func76, Tryz.ntmps76
          go_wp2
          go_ret
          exact ⟨by rw [Hv.out, Hd.out]; rfl, rfl⟩
      · have g1' : ((c : Int) == 194) = false := by simp; omega
        have Hv := Lib.hid (selfL_n r h1 (by rw [bl_byte r 0 h0, hc]; omega))
        have Hd : Hid (decide (1 < r.size) = true) := Lib.hid (decide_eq_true (by omega))
        have hgt : (1 : Int) < (r.size : Int) := by omega
        clear g1
        go_enter Tryz.func76, Tryz.ntmps76
        go_wp2
        go_ret
        exact ⟨by rw [Hv.out, Hd.out]; rfl, rfl⟩
    · have h2' : ((r.size : Int) == 2) = false := by simp; omega
      have Hv := Lib.hid (selfL_n r h1 (by omega))
      by_cases g : 1 < r.size
      · have Hd : Hid (decide (1 < r.size) = true) := Lib.hid (decide_eq_true g)
        have hgt : (1 : Int) < (r.size : Int) := by omega
        go_enter Tryz.func76, Tryz.ntmps76
        go_wp2
        go_ret
        exact ⟨by rw [Hv.out, Hd.out]; rfl, rfl⟩
      · have Hd : Hid (decide (1 < r.size) = false) := Lib.hid (decide_eq_false g)
        have hgt : ¬ (1 : Int) < (r.size : Int) := by omega
        go_enter Tryz.func76, Tryz.ntmps76
        go_wp2
        go_ret
        exact ⟨by rw [Hv.out, Hd.out]; rfl, rfl⟩
end Go.Proofs.YtmgbmphheagdmaaGreatDoor

/-
  The contract of the reference's Right.
-/
namespace Go.Proofs.YtmgbmphheagdmaaGreatDoor
open Go.RowKit
set_option maxRecDepth 100000 in
set_option maxHeartbeats 4000000 in
theorem refright_any (s : ByteArray) (w : World) (hs : s.size ≤ 9223372036854775807) : Calls Tryz.prog 50 #[.string s] w fun e w' => e = .returned (.bool (rightL (bl s))) ∧ w' = w := by
  have H0 : Hid (rightL (bl s) = restR 0 ((bl s).drop 0)) := Lib.hid (by rw [List.drop_zero, restR_0])
  go_enter Tryz.func50, Tryz.ntmps50
  go_wp2
  go_loop [3, 4] (fun n i => ∃ j k : Nat, j ≤ k ∧ k ≤ s.size ∧ (j = 0 → k = 0) ∧ j ≤ 24 ∧ i = .int .i64 (k : Int) ∧ n = .int .i64 (j : Int) ∧ rightL (bl s) = restR j ((bl s).drop k)) (fun _ i => s.size - (intOf i).toNat)
  case atStart => exact ⟨0, 0, by omega, by omega, by omega, by omega, rfl, rfl, H0.out⟩
  case round =>
    obtain ⟨j, k, hj, hk, hjk, hj24, rfl, rfl, hc⟩ := hrel
    have Hc := Lib.hid hc
    clear hc
    by_cases hlt : k < s.size
    · have hlt' : (k : Int) < (s.size : Int) := by omega
      have Hz := Lib.hid (size_any (s.extract k s.size))
      rw [bl_rest] at Hz
      have Hn : Hid (((bl s).drop k).length = s.size - k) := Lib.hid (by rw [List.length_drop, bl_length])
      obtain ⟨z, hz⟩ : ∃ z, sizeL ((bl s).drop k) = z := ⟨_, rfl⟩
      have hz4 : z ≤ 4 := by rw [← hz]; exact sizeL_le4 _
      have hzl : z ≤ s.size - k := by have := sizeL_le ((bl s).drop k); rw [hz, Hn.out] at this; exact this
      rw [hz] at Hz
      have Hsz := Lib.hid hz
      clear hz
      by_cases h0 : z = 0
      · subst h0
        have Hv : Hid (rightL (bl s) = false) := Lib.hid (by
          rw [Hc.out, restR_zero _ _ (fun e => by have := Hn.out; rw [e] at this; simp at this; omega) Hsz.out])
        go_wp2_with (go_at_call 75; refine (Hz.out _).mono ?_; rintro e w' ⟨rfl, rfl⟩)
        go_ret
        exact ⟨by rw [Hv.out]; rfl, rfl⟩
      · have h0' : ((z : Int) == 0) = false := by simp; omega
        obtain ⟨c, hc⟩ : ∃ c, s[k].toNat = c := ⟨_, rfl⟩
        have Hb : Hid (byteN ((bl s).drop k) 0 = c) := Lib.hid (by
          rw [← get_byteN s k 0, Nat.add_zero]
          show (s.data[k]!).toNat = c
          rw [getElem!_pos s.data k hlt]
          exact hc)
        have hc8 : c < 256 := by rw [← hc]; exact s[k].toNat_lt
        have Hbad : Hid (nameP (((bl s).drop k).take z) = false → rightL (bl s) = false) := Lib.hid (fun h => by
          rw [Hc.out, restR_bad _ _ (by rw [Hsz.out]; exact h0) (by rw [Hsz.out]; exact h)])
        have Hgood : Hid (nameP (((bl s).drop k).take z) = true → (j = 0 → c ≠ 45) → rightL (bl s) = restR (j + 1) ((bl s).drop (k + z))) := Lib.hid (fun h hf => by
          rw [Hc.out, restR_step _ _ (by rw [Hsz.out]; exact h0) (by rw [Hsz.out]; exact h) (by rw [Hb.out]; exact hf), List.drop_drop, Hsz.out])
        have Hfirst : Hid (j = 0 → c = 45 → rightL (bl s) = false) := Lib.hid (fun h hf => by
          subst h
          rw [Hc.out, restR_first _ (by rw [Hb.out]; exact hf)])
        by_cases h1 : z = 1
        · subst h1
          have h1a : ((1 : Int) == 1) = true := rfl
          have Hp := Lib.hid (nameP_1 ((bl s).drop k) (by rw [Hn.out]; omega) c Hb.out)
          rw [Hp.out] at Hbad Hgood
          clear Hp Hc
          have cls : (c < 45) ∨ (c = 45 ∧ k = 0) ∨ (c = 45 ∧ 0 < k) ∨ (46 ≤ c ∧ c ≤ 47) ∨ (48 ≤ c ∧ c ≤ 57) ∨ (58 ≤ c ∧ c ≤ 94) ∨ (c = 95) ∨ (c = 96) ∨ (97 ≤ c ∧ c ≤ 122) ∨ (122 < c) := by omega
          have hj1 : Hid (24 < j + 1 → ∀ r, restR (j + 1) r = false) := Lib.hid (fun h r => restR_many _ r h)
          have cls24 : (j : Int) + 1 ≤ 24 ∨ (24 : Int) < (j : Int) + 1 := by omega
          rcases cls with cl | cl | cl | cl | cl | cl | cl | cl | cl | cl
          · have Hv : Hid (rightL (bl s) = false) := Lib.hid (Hbad.out (decide_eq_false (by omega)))
            have f1 : ¬ (97 : Int) ≤ (c : Int) := by omega
            have f2 : (c : Int) ≤ 122 := by omega
            have f3 : ¬ (48 : Int) ≤ (c : Int) := by omega
            have f4 : (c : Int) ≤ 57 := by omega
            have f5 : ((c : Int) == 95) = false := by simp; omega
            have f6 : ((c : Int) == 45) = false := by simp; omega
            clear cl Hbad Hgood Hfirst
            go_wp2_with (go_at_call 75; refine (Hz.out _).mono ?_; rintro e w' ⟨rfl, rfl⟩)
            go_ret
            exact ⟨by rw [Hv.out]; rfl, rfl⟩
          · have Hv : Hid (rightL (bl s) = false) := Lib.hid (Hfirst.out (by omega) (by omega))
            have f1 : ¬ (97 : Int) ≤ (c : Int) := by omega
            have f2 : (c : Int) ≤ 122 := by omega
            have f3 : ¬ (48 : Int) ≤ (c : Int) := by omega
            have f4 : (c : Int) ≤ 57 := by omega
            have f5 : ((c : Int) == 95) = false := by simp; omega
            have f6 : ((c : Int) == 45) = true := by simp; omega
            have f7 : ¬ (0 : Int) < (k : Int) := by omega
            clear cl Hbad Hgood Hfirst
            go_wp2_with (go_at_call 75; refine (Hz.out _).mono ?_; rintro e w' ⟨rfl, rfl⟩)
            go_ret
            exact ⟨by rw [Hv.out]; rfl, rfl⟩
          · have Hst := Lib.hid (Hgood.out (decide_eq_true (by omega)) (by omega))
            have f1 : ¬ (97 : Int) ≤ (c : Int) := by omega
            have f2 : (c : Int) ≤ 122 := by omega
            have f3 : ¬ (48 : Int) ≤ (c : Int) := by omega
            have f4 : (c : Int) ≤ 57 := by omega
            have f5 : ((c : Int) == 95) = false := by simp; omega
            have f6 : ((c : Int) == 45) = true := by simp; omega
            have f7 : (0 : Int) < (k : Int) := by omega
            clear cl Hbad Hgood Hfirst
            rcases cls24 with h24 | h24
            · go_wp2_with (go_at_call 75; refine (Hz.out _).mono ?_; rintro e w' ⟨rfl, rfl⟩)
              go_round
              case rel => exact ⟨j + 1, k + 1, by omega, by omega, by omega, by omega, by go_num, by go_num, Hst.out⟩
              case measure => simp [intOf]; omega
            · have Hv : Hid (rightL (bl s) = false) := Lib.hid (by rw [Hst.out, hj1.out (by omega)])
              go_wp2_with (go_at_call 75; refine (Hz.out _).mono ?_; rintro e w' ⟨rfl, rfl⟩)
              go_ret
              exact ⟨by rw [Hv.out]; rfl, rfl⟩
          · have Hv : Hid (rightL (bl s) = false) := Lib.hid (Hbad.out (decide_eq_false (by omega)))
            have f1 : ¬ (97 : Int) ≤ (c : Int) := by omega
            have f2 : (c : Int) ≤ 122 := by omega
            have f3 : ¬ (48 : Int) ≤ (c : Int) := by omega
            have f4 : (c : Int) ≤ 57 := by omega
            have f5 : ((c : Int) == 95) = false := by simp; omega
            have f6 : ((c : Int) == 45) = false := by simp; omega
            clear cl Hbad Hgood Hfirst
            go_wp2_with (go_at_call 75; refine (Hz.out _).mono ?_; rintro e w' ⟨rfl, rfl⟩)
            go_ret
            exact ⟨by rw [Hv.out]; rfl, rfl⟩
          · have Hst := Lib.hid (Hgood.out (decide_eq_true (by omega)) (by omega))
            have f1 : ¬ (97 : Int) ≤ (c : Int) := by omega
            have f2 : (c : Int) ≤ 122 := by omega
            have f3 : (48 : Int) ≤ (c : Int) := by omega
            have f4 : (c : Int) ≤ 57 := by omega
            have f5 : ((c : Int) == 95) = false := by simp; omega
            have f6 : ((c : Int) == 45) = false := by simp; omega
            clear cl Hbad Hgood Hfirst
            rcases cls24 with h24 | h24
            · go_wp2_with (go_at_call 75; refine (Hz.out _).mono ?_; rintro e w' ⟨rfl, rfl⟩)
              go_round
              case rel => exact ⟨j + 1, k + 1, by omega, by omega, by omega, by omega, by go_num, by go_num, Hst.out⟩
              case measure => simp [intOf]; omega
            · have Hv : Hid (rightL (bl s) = false) := Lib.hid (by rw [Hst.out, hj1.out (by omega)])
              go_wp2_with (go_at_call 75; refine (Hz.out _).mono ?_; rintro e w' ⟨rfl, rfl⟩)
              go_ret
              exact ⟨by rw [Hv.out]; rfl, rfl⟩
          · have Hv : Hid (rightL (bl s) = false) := Lib.hid (Hbad.out (decide_eq_false (by omega)))
            have f1 : ¬ (97 : Int) ≤ (c : Int) := by omega
            have f2 : (c : Int) ≤ 122 := by omega
            have f3 : (48 : Int) ≤ (c : Int) := by omega
            have f4 : ¬ (c : Int) ≤ 57 := by omega
            have f5 : ((c : Int) == 95) = false := by simp; omega
            have f6 : ((c : Int) == 45) = false := by simp; omega
            clear cl Hbad Hgood Hfirst
            go_wp2_with (go_at_call 75; refine (Hz.out _).mono ?_; rintro e w' ⟨rfl, rfl⟩)
            go_ret
            exact ⟨by rw [Hv.out]; rfl, rfl⟩
          · have Hst := Lib.hid (Hgood.out (decide_eq_true (by omega)) (by omega))
            have f1 : ¬ (97 : Int) ≤ (c : Int) := by omega
            have f2 : (c : Int) ≤ 122 := by omega
            have f3 : (48 : Int) ≤ (c : Int) := by omega
            have f4 : ¬ (c : Int) ≤ 57 := by omega
            have f5 : ((c : Int) == 95) = true := by simp; omega
            have f6 : ((c : Int) == 45) = false := by simp; omega
            clear cl Hbad Hgood Hfirst
            rcases cls24 with h24 | h24
            · go_wp2_with (go_at_call 75; refine (Hz.out _).mono ?_; rintro e w' ⟨rfl, rfl⟩)
              go_round
              case rel => exact ⟨j + 1, k + 1, by omega, by omega, by omega, by omega, by go_num, by go_num, Hst.out⟩
              case measure => simp [intOf]; omega
            · have Hv : Hid (rightL (bl s) = false) := Lib.hid (by rw [Hst.out, hj1.out (by omega)])
              go_wp2_with (go_at_call 75; refine (Hz.out _).mono ?_; rintro e w' ⟨rfl, rfl⟩)
              go_ret
              exact ⟨by rw [Hv.out]; rfl, rfl⟩
          · have Hv : Hid (rightL (bl s) = false) := Lib.hid (Hbad.out (decide_eq_false (by omega)))
            have f1 : ¬ (97 : Int) ≤ (c : Int) := by omega
            have f2 : (c : Int) ≤ 122 := by omega
            have f3 : (48 : Int) ≤ (c : Int) := by omega
            have f4 : ¬ (c : Int) ≤ 57 := by omega
            have f5 : ((c : Int) == 95) = false := by simp; omega
            have f6 : ((c : Int) == 45) = false := by simp; omega
            clear cl Hbad Hgood Hfirst
            go_wp2_with (go_at_call 75; refine (Hz.out _).mono ?_; rintro e w' ⟨rfl, rfl⟩)
            go_ret
            exact ⟨by rw [Hv.out]; rfl, rfl⟩
          · have Hst := Lib.hid (Hgood.out (decide_eq_true (by omega)) (by omega))
            have f1 : (97 : Int) ≤ (c : Int) := by omega
            have f2 : (c : Int) ≤ 122 := by omega
            have f3 : (48 : Int) ≤ (c : Int) := by omega
            have f4 : ¬ (c : Int) ≤ 57 := by omega
            have f5 : ((c : Int) == 95) = false := by simp; omega
            have f6 : ((c : Int) == 45) = false := by simp; omega
            clear cl Hbad Hgood Hfirst
            rcases cls24 with h24 | h24
            · go_wp2_with (go_at_call 75; refine (Hz.out _).mono ?_; rintro e w' ⟨rfl, rfl⟩)
              go_round
              case rel => exact ⟨j + 1, k + 1, by omega, by omega, by omega, by omega, by go_num, by go_num, Hst.out⟩
              case measure => simp [intOf]; omega
            · have Hv : Hid (rightL (bl s) = false) := Lib.hid (by rw [Hst.out, hj1.out (by omega)])
              go_wp2_with (go_at_call 75; refine (Hz.out _).mono ?_; rintro e w' ⟨rfl, rfl⟩)
              go_ret
              exact ⟨by rw [Hv.out]; rfl, rfl⟩
          · have Hv : Hid (rightL (bl s) = false) := Lib.hid (Hbad.out (decide_eq_false (by omega)))
            have f1 : (97 : Int) ≤ (c : Int) := by omega
            have f2 : ¬ (c : Int) ≤ 122 := by omega
            have f3 : (48 : Int) ≤ (c : Int) := by omega
            have f4 : ¬ (c : Int) ≤ 57 := by omega
            have f5 : ((c : Int) == 95) = false := by simp; omega
            have f6 : ((c : Int) == 45) = false := by simp; omega
            clear cl Hbad Hgood Hfirst
            go_wp2_with (go_at_call 75; refine (Hz.out _).mono ?_; rintro e w' ⟨rfl, rfl⟩)
            go_ret
            exact ⟨by rw [Hv.out]; rfl, rfl⟩
        · have h1' : ((z : Int) == 1) = false := by simp; omega
          have h1g : (1 : Int) < (z : Int) := by omega
          have Hp := Lib.hid (nameP_n ((bl s).drop k) z (by rw [Hn.out]; omega) (by omega))
          rw [Hp.out] at Hbad Hgood
          have Hi := Lib.hid (itself_any (s.extract k (k + z)))
          rw [bl_part] at Hi
          have hj1 : Hid (24 < j + 1 → ∀ r, restR (j + 1) r = false) := Lib.hid (fun h r => restR_many _ r h)
          have cls24 : (j : Int) + 1 ≤ 24 ∨ (24 : Int) < (j : Int) + 1 := by omega
          have hkz : k + z ≤ s.size := by omega
          have Hf : Hid (j = 0 → c ≠ 45) := Lib.hid (fun _ e => by
            have h2 := sizeL_spec ((bl s).drop k)
            rw [Hsz.out, Hb.out] at h2
            unfold Two Three Four at h2
            omega)
          clear Hp Hc Hfirst
          obtain ⟨b, hb⟩ : ∃ b, selfL (((bl s).drop k).take z) = b := ⟨_, rfl⟩
          rw [hb] at Hi Hbad Hgood
          clear hb
          cases b with
          | false =>
            have Hv := Lib.hid (Hbad.out rfl)
            clear Hbad Hgood
            go_wp2_with (first | (go_at_call 75; refine (Hz.out _).mono ?_; rintro e w' ⟨rfl, rfl⟩) | (go_at_call 76; refine (Hi.out _).mono ?_; rintro e w' ⟨rfl, rfl⟩))
            go_ret
            exact ⟨by rw [Hv.out]; rfl, rfl⟩
          | true =>
            have Hst := Lib.hid (Hgood.out rfl Hf.out)
            clear Hbad Hgood
            rcases cls24 with h24 | h24
            · go_wp2_with (first | (go_at_call 75; refine (Hz.out _).mono ?_; rintro e w' ⟨rfl, rfl⟩) | (go_at_call 76; refine (Hi.out _).mono ?_; rintro e w' ⟨rfl, rfl⟩))
              go_round
              case rel => exact ⟨j + 1, k + z, by omega, by omega, by omega, by omega, by go_num, by go_num, Hst.out⟩
              case measure => simp [intOf]; omega
            · have Hv : Hid (rightL (bl s) = false) := Lib.hid (by rw [Hst.out, hj1.out (by omega)])
              go_wp2_with (first | (go_at_call 75; refine (Hz.out _).mono ?_; rintro e w' ⟨rfl, rfl⟩) | (go_at_call 76; refine (Hi.out _).mono ?_; rintro e w' ⟨rfl, rfl⟩))
              go_ret
              exact ⟨by rw [Hv.out]; rfl, rfl⟩
    · obtain rfl : k = s.size := by omega
      have Hv : Hid (rightL (bl s) = decide (0 < j)) := Lib.hid (by
        rw [Hc.out, List.drop_eq_nil_of_le (by rw [bl_length]; omega), restR_nil]
        exact decide_eq_decide.2 (by omega))
      go_wp2
      go_ret
      exact ⟨by rw [Hv.out]; rfl, rfl⟩
end Go.Proofs.YtmgbmphheagdmaaGreatDoor
