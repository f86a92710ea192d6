/-
  The contract of pack.decoded.
-/
import Derived.Test.YtdondonmggbmjaaStr
import Derived.Test.YtdondonmggbmjaaMath
namespace Go.Proofs.Ytdondonmggbmjaa
open Go.RowKit

/-- What decoded answers. -/
def decV (l : List UInt8) : Value := match decL l with
  | some (n, k) => .tuple #[.int .i64 n, .int .i64 k]
  | none => .tuple #[.int .i64 0, .int .i64 0]

theorem or_low (z b : Int) (h0 : 0 ≤ b) (h1 : b < 256) : bits BinOp.or .i64 (wrap64 (z * 256)) b = wrap64 (z * 256 + b) := by
  obtain ⟨c, rfl⟩ : ∃ c : Nat, b = c := ⟨b.toNat, by omega⟩
  have e1 : (BitVec.ofInt 64 (wrap64 (z * 256))).toNat = 2 ^ 8 * ((z * 256) % 18446744073709551616 / 256).toNat := by
    rw [BitVec.toNat_ofInt]
    unfold wrap64
    omega
  have e2 : (BitVec.ofInt 64 (c : Int)).toNat = c := by
    rw [BitVec.ofInt_natCast, BitVec.toNat_ofNat]; exact Nat.mod_eq_of_lt (by omega)
  show IntKind.i64.wrap ((BitVec.ofInt 64 (wrap64 (z * 256)) ||| BitVec.ofInt 64 (c : Int)).toNat : Int) = _
  rw [BitVec.toNat_or, e1, e2, ← Nat.two_pow_add_eq_or_of_lt (by omega)]
  simp only [IntKind.wrap, IntKind.bits, IntKind.signed, wrap64]
  simp
  omega

/-- The value of the first j of the bytes behind the first one. -/
def accZ (l : List UInt8) (j : Nat) : Int := wrap64 (valL ((l.drop 1).take j))
theorem accZ_step (l : List UInt8) (j : Nat) (h : j + 1 < l.length) : wrap64 (accZ l j * 256 + ((l.getD (j + 1) 0).toNat : Int)) = accZ l (j + 1) := by
  have e : (l.drop 1).take (j + 1) = (l.drop 1).take j ++ [l.getD (j + 1) 0] := by
    have hl : j < (l.drop 1).length := by rw [List.length_drop]; omega
    rw [List.take_succ_eq_append_getElem hl, List.getElem_drop, List.getD_eq_getElem?_getD, List.getElem?_eq_getElem h]
    simp [Nat.add_comm]
  unfold accZ
  rw [e, valL_snoc]
  unfold wrap64
  omega

set_option maxRecDepth 100000 in
set_option maxHeartbeats 1000000 in
theorem decoded_any (s : ByteArray) (w : World) (hs : s.size ≤ 9223372036854775807) :
    Calls Try.prog 36 #[.string s] w fun e w' => e = .returned (decV (bl s)) ∧ w' = w := by
  by_cases h0 : s.size = 0
  · have hbt : bl s = [] := List.eq_nil_of_length_eq_zero (by rw [bl_length]; exact h0)
    have e1 : s.toList.isEmpty = true := by rw [bl_toList, hbt]; rfl
    have e2 : s.toList = [] := by rw [bl_toList, hbt]
    have Hv : Hid (decV (bl s) = .tuple #[.int .i64 0, .int .i64 0]) := Lib.hid (by rw [hbt]; unfold decV; rw [decL_nil])
    go_enter Try.func36, Try.ntmps36
    go_wp2
    rw [Hv.out]
    exact bodyPost_ret (v := .tuple #[.int .i64 0, .int .i64 0]) (by simp [results, go_sem]) rfl ⟨rfl, rfl⟩
  · have e1 : s.toList.isEmpty = false := by
      rw [bl_toList, List.isEmpty_eq_false_iff]
      intro h
      have := bl_length s
      rw [h] at this
      exact h0 (by simpa using this.symm)
    have hne : bl s ≠ [] := fun h => h0 (by rw [← bl_length, h]; rfl)
    have hpos : 0 < s.size := by omega
    obtain ⟨k, hk⟩ : ∃ k, k = s[0].toNat := ⟨_, rfl⟩
    have Hk : Hid (((bl s).getD 0 0).toNat = k) := Lib.hid (by rw [hk, bl_get])
    have Hl := Lib.hid (bl_length s)
    have hk' := hk.symm
    have Hnone : Hid ((8 < k ∨ s.size < 1 + k ∨ (0 < k ∧ (bl s).getD 1 0 = 0) ∨ top < valL (((bl s).drop 1).take k)) → decV (bl s) = .tuple #[.int .i64 0, .int .i64 0]) := Lib.hid (fun h => by
      unfold decV
      rw [decL_none (.inr (by rw [Hk.out, Hl.out]; exact h))])
    by_cases h8 : 8 < k
    · have Hv := Lib.hid (Hnone.out (.inl h8))
      have h8' : (8 : Int) < (k : Int) := by omega
      clear hne Hnone hk
      go_enter Try.func36, Try.ntmps36
      go_wp2
      rw [Hv.out]
      exact bodyPost_ret (v := .tuple #[.int .i64 0, .int .i64 0]) (by simp [results, go_sem]) rfl ⟨rfl, rfl⟩
    · by_cases hlen : s.size < 1 + k
      · have Hv := Lib.hid (Hnone.out (.inr (.inl hlen)))
        have h8' : ¬ (8 : Int) < (k : Int) := by omega
        have hlen' : (s.size : Int) < 1 + (k : Int) := by omega
        clear hne Hnone hk
        go_enter Try.func36, Try.ntmps36
        go_wp2
        rw [Hv.out]
        exact bodyPost_ret (v := .tuple #[.int .i64 0, .int .i64 0]) (by simp [results, go_sem]) rfl ⟨rfl, rfl⟩
      · have h8' : ¬ (8 : Int) < (k : Int) := by omega
        have hlen' : ¬ (s.size : Int) < 1 + (k : Int) := by omega
        by_cases hz : 0 < k ∧ (bl s).getD 1 0 = 0
        · have Hv := Lib.hid (Hnone.out (.inr (.inr (.inl hz))))
          have hs1 : 1 < s.size := by omega
          have hc : s[1].toNat = 0 := by rw [bl_get, hz.2]; rfl
          have hk1 : (1 : Int) < 1 + (k : Int) := by omega
          clear hne Hnone hk hz
          go_enter Try.func36, Try.ntmps36
          go_wp2
          rw [Hv.out]
          exact bodyPost_ret (v := .tuple #[.int .i64 0, .int .i64 0]) (by simp [results, go_sem]) rfl ⟨rfl, rfl⟩
        · have Hsome : Hid (valL (((bl s).drop 1).take k) ≤ top → decV (bl s) = .tuple #[.int .i64 (valL (((bl s).drop 1).take k)), .int .i64 ((1 + k : Nat) : Int)]) := Lib.hid (fun h => by
            unfold decV
            rw [decL_some (by rw [Hk.out, Hl.out]; simp only [not_or]; exact ⟨hne, h8, hlen, hz, by omega⟩), Hk.out])
          have hk8 : k ≤ 8 := by omega
          have Hv64 : Hid (valL (((bl s).drop 1).take k) < 18446744073709551616) := Lib.hid (by
            have h1 := valL_lt (((bl s).drop 1).take k)
            have h2 : (((bl s).drop 1).take k).length ≤ 8 := by rw [List.length_take]; omega
            have h3 : 256 ^ (((bl s).drop 1).take k).length ≤ 256 ^ 8 := Nat.pow_le_pow_right (by omega) h2
            exact Nat.lt_of_lt_of_le h1 h3)
          have h00 : Hid (accZ (bl s) 0 = 0) := Lib.hid (by unfold accZ; rw [List.take_zero, valL_nil]; unfold wrap64; omega)
          have hks : 1 + k ≤ s.size := by omega
          clear hne hk hlen
          by_cases hk0 : k = 0
          case' pos =>
            have hk1 : ¬ (1 : Int) < 1 + (k : Int) := by omega
            clear hk0
            go_enter Try.func36, Try.ntmps36
            go_wp2
          case' neg =>
            have hk1 : (1 : Int) < 1 + (k : Int) := by omega
            have hs1 : 1 < s.size := by omega
            obtain ⟨c, hc⟩ : ∃ c, s[1].toNat = c := ⟨_, rfl⟩
            have hc0 : ((c : Int) == 0) = false := by
              have : c ≠ 0 := fun e => hz ⟨by omega, by rw [← bl_get s 1 hs1]; exact UInt8.toNat_inj.1 (by rw [hc, e]; rfl)⟩
              simp; omega
            go_enter Try.func36, Try.ntmps36
            go_wp2
          all_goals
            go_loop [2, 4] (fun z i => ∃ j : Nat, j ≤ k ∧ i = .int .i64 ((1 + j : Nat) : Int) ∧ z = .int .i64 (accZ (bl s) j)) (fun _ i => 9 - (intOf i).toNat)
            case atStart => exact ⟨0, by omega, rfl, by rw [h00.out]⟩
            case round =>
              obtain ⟨j, hj, rfl, rfl⟩ := hrel
              by_cases hlt : j < k
              · have hjs : 1 + j < s.size := by omega
                obtain ⟨c, hc⟩ : ∃ c, s[1 + j].toNat = c := ⟨_, rfl⟩
                have Hst : Hid (wrap64 (accZ (bl s) j * 256 + (c : Int)) = accZ (bl s) (j + 1)) := Lib.hid (by
                  have e : ((bl s).getD (1 + j) 0).toNat = c := by rw [← bl_get s (1 + j) hjs, hc]
                  rw [← e, Nat.add_comm 1 j]
                  exact accZ_step _ _ (by rw [Hl.out]; omega))
                have hc256 : c < 256 := by rw [← hc]; exact s[1 + j].toNat_lt
                have Hor := Lib.hid (or_low (accZ (bl s) j) (c : Int) (by omega) (by omega))
                first
                  | (exfalso; omega)
                  | (go_wp2
                     rw [Hor.out, Hst.out]
                     go_round
                     case rel => exact ⟨j + 1, by omega, by go_num, rfl⟩
                     case measure => simp [intOf]; omega)
              · have hjk : j = k := by omega
                subst hjk
                generalize hz : accZ (bl s) j = z at *
                have Hz := Lib.hid hz
                clear hz hlt
                have hzb : -9223372036854775808 ≤ z ∧ z < 9223372036854775808 := by rw [← Hz.out]; unfold accZ wrap64; omega
                have Hzv : Hid (z = wrap64 (valL (((bl s).drop 1).take j))) := Lib.hid Hz.out.symm
                by_cases hz0 : z < 0
                · have Hv := Lib.hid (Hnone.out (.inr (.inr (.inr (by have := Hzv.out; have := Hv64.out; unfold wrap64 at *; unfold top; omega)))))
                  go_wp2
                  rw [Hv.out]
                  exact bodyPost_ret (v := .tuple #[.int .i64 0, .int .i64 0]) (by simp [results, go_sem]) rfl ⟨rfl, rfl⟩
                · by_cases hz1 : 4611686018427387903 < z
                  · have Hv := Lib.hid (Hnone.out (.inr (.inr (.inr (by have := Hzv.out; have := Hv64.out; unfold wrap64 at *; unfold top; omega)))))
                    go_wp2
                    rw [Hv.out]
                    exact bodyPost_ret (v := .tuple #[.int .i64 0, .int .i64 0]) (by simp [results, go_sem]) rfl ⟨rfl, rfl⟩
                  · have hzn : (valL (((bl s).drop 1).take j) : Int) = z := by have := Hzv.out; have := Hv64.out; unfold wrap64 at *; omega
                    have Hv := Lib.hid (Hsome.out (by unfold top; omega))
                    rw [hzn] at Hv
                    clear hzn
                    go_wp2
                    rw [Hv.out]
                    exact bodyPost_ret (v := .tuple #[.int .i64 z, .int .i64 ((1 + j : Nat) : Int)]) (by simp [results, go_sem]) rfl ⟨rfl, rfl⟩
end Go.Proofs.Ytdondonmggbmjaa
