/- Texts of one claim, joined: KL KD KC KE KF. -/
import Derived.Test.YtmgbmphheagdmaaGreatDoorGen
import Derived.Shelf.Strconv.Clone
import Derived.Shelf.Strings.Repeat
import Derived.Shelf.Small.Wraps
import Derived.Shelf.Strconv.Itoa3
import Derived.Lib.AppendIntMem
import Derived.Test.YtmgbmphheagdmaaGreatDoorWA
/-
  What the library's functions do in this program: contracts of its shelf, laid over this program's numbers: strings.Clone, Repeat, strconv.Itoa.
-/
namespace Go.Proofs.YtmgbmphheagdmaaGreatDoor
open Go.RowKit Go.Shelf

/-- The library's numbers here. -/
def rhoL : Ren := ⟨fun k => if k = 99 then 83 else if k = 105 then 59 else if k = 125 then 113 else if k = 128 then 125 else if k = 129 then 126 else if k = 165 then 84 else if k = 166 then 85 else if k = 169 then 87 else if k = 170 then 86 else if k = 171 then 58 else if k = 206 then 110 else if k = 212 then 82 else if k = 240 then 111 else if k = 241 then 112 else if k = 243 then 81 else if k = 246 then 107 else if k = 263 then 108 else if k = 264 then 109 else if k = 276 then 123 else if k = 277 then 124 else if k = 283 then 119 else if k = 284 then 120 else if k = 285 then 121 else if k = 286 then 122 else if k = 316 then 118 else if k = 317 then 136 else if k = 318 then 137 else if k = 319 then 138 else if k = 320 then 139 else if k = 337 then 146 else if k = 338 then 147 else if k = 359 then 161 else if k = 362 then 165 else if k = 366 then 167 else k,
  fun t => if t = 22 then 118 else if t = 26 then 97 else if t = 27 then 48 else if t = 28 then 34 else if t = 31 then 55 else if t = 35 then 41 else if t = 37 then 66 else if t = 40 then 138 else if t = 46 then 104 else if t = 47 then 152 else if t = 51 then 102 else if t = 52 then 165 else if t = 53 then 87 else if t = 54 then 159 else if t = 63 then 139 else if t = 69 then 144 else if t = 70 then 119 else if t = 71 then 120 else if t = 72 then 121 else if t = 73 then 42 else if t = 74 then 122 else if t = 75 then 123 else if t = 76 then 124 else if t = 77 then 125 else if t = 80 then 126 else if t = 81 then 57 else if t = 83 then 73 else if t = 84 then 145 else if t = 100 then 137 else if t = 103 then 77 else if t = 104 then 81 else if t = 109 then 116 else if t = 110 then 117 else if t = 111 then 96 else if t = 114 then 107 else if t = 127 then 150 else if t = 131 then 172 else if t = 135 then 155 else if t = 164 then 163 else if t = 165 then 164 else if t = 166 then 130 else if t = 171 then 158 else if t = 172 then 160 else if t = 173 then 161 else if t = 174 then 162 else if t = 182 then 167 else if t = 183 then 168 else if t = 188 then 166 else if t = 189 then 169 else if t = 190 then 170 else if t = 191 then 171 else if t = 192 then 173 else if t = 211 then 174 else if t = 212 then 175 else if t = 213 then 176 else if t = 218 then 177 else if t = 219 then 178 else if t = 220 then 179 else if t = 222 then 181 else if t = 224 then 180 else if t = 225 then 182 else if t = 228 then 183 else if t = 229 then 156 else if t = 231 then 184 else if t = 232 then 185 else if t = 233 then 186 else if t = 238 then 187 else if t = 239 then 188 else if t = 240 then 189 else if t = 241 then 190 else if t = 242 then 191 else if t = 243 then 192 else if t = 244 then 193 else if t = 245 then 194 else if t = 246 then 195 else if t = 247 then 196 else if t = 248 then 197 else if t = 249 then 198 else t,
  fun g => if g = 17 then 0 else if g = 18 then 2 else if g = 19 then 3 else g⟩

theorem x72L : Builder.X72 Tryz.prog rhoL := by
  refine Builder.X72.mk ?_ ?_ <;> kernel_rfl
theorem extraL : Builder.Extra Tryz.prog rhoL := by
  refine Builder.Extra.mk x72L ?_ ?_ ?_ ?_ ?_ ?_ ?_ ?_
  all_goals first
    | kernel_rfl
    | (intro w; kernel_rfl)
    | (intro w; rfl)
    | decide
theorem cloneLays0 : Lays.n316 Tryz.prog rhoL := by
  constructor
  all_goals first
    | kernel_rfl
    | (intro w; kernel_rfl)
    | (intro w; rfl)
    | decide

theorem cloneLays : LaysM.n316 Tryz.prog rhoL := by
  refine LaysM.n316.mk cloneLays0 ?_ ?_ ?_ ?_ ?_ ?_ ?_ ?_ ?_ ?_ ?_
  all_goals first
    | kernel_rfl
    | (intro w; kernel_rfl)
    | (intro w; rfl)
    | decide
theorem repeatLays : Lays.n105 Tryz.prog rhoL := by
  constructor
  all_goals first
    | kernel_rfl
    | (intro w; kernel_rfl)
    | (intro w; rfl)
    | decide

theorem itoaLays0 : Lays.n171 Tryz.prog rhoL := by
  constructor
  all_goals first
    | kernel_rfl
    | (intro w; kernel_rfl)
    | (intro w; rfl)
    | decide

theorem itoaLays : LaysM.n171 Tryz.prog rhoL := by
  refine LaysM.n171.mk itoaLays0 ?_ ?_ ?_ ?_ ?_ ?_ ?_ ?_ ?_ ?_ ?_ ?_ ?_ ?_ ?_ ?_ ?_ ?_ ?_
  all_goals first
    | kernel_rfl
    | (intro w; kernel_rfl)
    | (intro w; rfl)
    | decide
end Go.Proofs.YtmgbmphheagdmaaGreatDoor

/-
  strings.Clone in this program: the library's contract, laid over this program's numbers.
-/
namespace Go.Proofs.YtmgbmphheagdmaaGreatDoor
open Go.RowKit Go.Shelf

/-- What strings.Clone calls: the same bytes, in memory of their own. -/
theorem clone_any (s : ByteArray) (w : World) (hs : s.size ≤ 1000000000) : Calls Tryz.prog 118 #[.string s] w fun e w' => e = .returned (.string s) ∧ Below w.heap.size w w' :=
  Any.stringslite_Clone cloneLays s w (by omega)
end Go.Proofs.YtmgbmphheagdmaaGreatDoor

/-
  The contract of pack.decoded.
-/
namespace Go.Proofs.YtmgbmphheagdmaaGreatDoor
open Go.RowKit

/-- What decoded answers. -/
def decV (l : List UInt8) : Value := match decL l with
  | some (n, k) => .tuple #[.int .i64 n, .int .i64 k]
  | none => .tuple #[.int .i64 0, .int .i64 0]

theorem or_low (z b : Int) (h0 : 0 ≤ b) (h1 : b < 256) : bits BinOp.or .i64 (wrap64 (z * 256)) b = wrap64 (z * 256 + b) := by
  obtain ⟨c, rfl⟩ : ∃ c : Nat, b = c := ⟨b.toNat, by omega⟩
  have e1 : (BitVec.ofInt 64 (wrap64 (z * 256))).toNat = 2 ^ 8 * ((z * 256) % 18446744073709551616 / 256).toNat := by
    rw [BitVec.toNat_ofInt]
    unfold wrap64
    omega
  have e2 : (BitVec.ofInt 64 (c : Int)).toNat = c := by
    rw [BitVec.ofInt_natCast, BitVec.toNat_ofNat]; exact Nat.mod_eq_of_lt (by omega)
  show IntKind.i64.wrap ((BitVec.ofInt 64 (wrap64 (z * 256)) ||| BitVec.ofInt 64 (c : Int)).toNat : Int) = _
  rw [BitVec.toNat_or, e1, e2, ← Nat.two_pow_add_eq_or_of_lt (by omega)]
  simp only [IntKind.wrap, IntKind.bits, IntKind.signed, wrap64]
  simp
  omega

/-- The value of the first j of the bytes behind the first one. -/
def accZ (l : List UInt8) (j : Nat) : Int := wrap64 (valL ((l.drop 1).take j))
theorem accZ_step (l : List UInt8) (j : Nat) (h : j + 1 < l.length) : wrap64 (accZ l j * 256 + ((l.getD (j + 1) 0).toNat : Int)) = accZ l (j + 1) := by
  have e : (l.drop 1).take (j + 1) = (l.drop 1).take j ++ [l.getD (j + 1) 0] := by
    have hl : j < (l.drop 1).length := by rw [List.length_drop]; omega
    rw [List.take_succ_eq_append_getElem hl, List.getElem_drop, List.getD_eq_getElem?_getD, List.getElem?_eq_getElem h]
    simp [Nat.add_comm]
  unfold accZ
  rw [e, valL_snoc]
  unfold wrap64
  omega

set_option maxRecDepth 100000 in
set_option maxHeartbeats 1000000 in
theorem decoded_any (s : ByteArray) (w : World) (hs : s.size ≤ 9223372036854775807) :
    Calls Tryz.prog 117 #[.string s] w fun e w' => e = .returned (decV (bl s)) ∧ w' = w := by
  by_cases h0 : s.size = 0
  · have hbt : bl s = [] := List.eq_nil_of_length_eq_zero (by rw [bl_length]; exact h0)
    have e1 : s.toList.isEmpty = true := by rw [bl_toList, hbt]; rfl
    have e2 : s.toList = [] := by rw [bl_toList, hbt]
    have Hv : Hid (decV (bl s) = .tuple #[.int .i64 0, .int .i64 0]) := Lib.hid (by rw [hbt]; unfold decV; rw [decL_nil])
    go_enter Tryz.func117, Tryz.ntmps117
    go_wp2
    rw [Hv.out]
    exact bodyPost_ret (v := .tuple #[.int .i64 0, .int .i64 0]) (by simp [results, go_sem]) rfl ⟨rfl, rfl⟩
  · have e1 : s.toList.isEmpty = false := by
      rw [bl_toList, List.isEmpty_eq_false_iff]
      intro h
      have := bl_length s
      rw [h] at this
      exact h0 (by simpa using this.symm)
    have hne : bl s ≠ [] := fun h => h0 (by rw [← bl_length, h]; rfl)
    have hpos : 0 < s.size := by omega
    obtain ⟨k, hk⟩ : ∃ k, k = s[0].toNat := ⟨_, rfl⟩
    have Hk : Hid (((bl s).getD 0 0).toNat = k) := Lib.hid (by rw [hk, bl_get])
    have Hl := Lib.hid (bl_length s)
    have hk' := hk.symm
    have Hnone : Hid ((8 < k ∨ s.size < 1 + k ∨ (0 < k ∧ (bl s).getD 1 0 = 0) ∨ top < valL (((bl s).drop 1).take k)) → decV (bl s) = .tuple #[.int .i64 0, .int .i64 0]) := Lib.hid (fun h => by
      unfold decV
      rw [decL_none (.inr (by rw [Hk.out, Hl.out]; exact h))])
    by_cases h8 : 8 < k
    · have Hv := Lib.hid (Hnone.out (.inl h8))
      have h8' : (8 : Int) < (k : Int) := by omega
      clear hne Hnone hk
      go_enter Tryz.func117, Tryz.ntmps117
      go_wp2
      rw [Hv.out]
      exact bodyPost_ret (v := .tuple #[.int .i64 0, .int .i64 0]) (by simp [results, go_sem]) rfl ⟨rfl, rfl⟩
    · by_cases hlen : s.size < 1 + k
      · have Hv := Lib.hid (Hnone.out (.inr (.inl hlen)))
        have h8' : ¬ (8 : Int) < (k : Int) := by omega
        have hlen' : (s.size : Int) < 1 + (k : Int) := by omega
        clear hne Hnone hk
        go_enter Tryz.func117, Tryz.ntmps117
        go_wp2
        rw [Hv.out]
        exact bodyPost_ret (v := .tuple #[.int .i64 0, .int .i64 0]) (by simp [results, go_sem]) rfl ⟨rfl, rfl⟩
      · have h8' : ¬ (8 : Int) < (k : Int) := by omega
        have hlen' : ¬ (s.size : Int) < 1 + (k : Int) := by omega
        by_cases hz : 0 < k ∧ (bl s).getD 1 0 = 0
        · have Hv := Lib.hid (Hnone.out (.inr (.inr (.inl hz))))
          have hs1 : 1 < s.size := by omega
          have hc : s[1].toNat = 0 := by rw [bl_get, hz.2]; rfl
          have hk1 : (1 : Int) < 1 + (k : Int) := by omega
          clear hne Hnone hk hz
          go_enter Tryz.func117, Tryz.ntmps117
          go_wp2
          rw [Hv.out]
          exact bodyPost_ret (v := .tuple #[.int .i64 0, .int .i64 0]) (by simp [results, go_sem]) rfl ⟨rfl, rfl⟩
        · have Hsome : Hid (valL (((bl s).drop 1).take k) ≤ top → decV (bl s) = .tuple #[.int .i64 (valL (((bl s).drop 1).take k)), .int .i64 ((1 + k : Nat) : Int)]) := Lib.hid (fun h => by
            unfold decV
            rw [decL_some (by rw [Hk.out, Hl.out]; simp only [not_or]; exact ⟨hne, h8, hlen, hz, by omega⟩), Hk.out])
          have hk8 : k ≤ 8 := by omega
          have Hv64 : Hid (valL (((bl s).drop 1).take k) < 18446744073709551616) := Lib.hid (by
            have h1 := valL_lt (((bl s).drop 1).take k)
            have h2 : (((bl s).drop 1).take k).length ≤ 8 := by rw [List.length_take]; omega
            have h3 : 256 ^ (((bl s).drop 1).take k).length ≤ 256 ^ 8 := Nat.pow_le_pow_right (by omega) h2
            exact Nat.lt_of_lt_of_le h1 h3)
          have h00 : Hid (accZ (bl s) 0 = 0) := Lib.hid (by unfold accZ; rw [List.take_zero, valL_nil]; unfold wrap64; omega)
          have hks : 1 + k ≤ s.size := by omega
          clear hne hk hlen
          by_cases hk0 : k = 0
          case' pos =>
            have hk1 : ¬ (1 : Int) < 1 + (k : Int) := by omega
            clear hk0
            go_enter Tryz.func117, Tryz.ntmps117
            go_wp2
          case' neg =>
            have hk1 : (1 : Int) < 1 + (k : Int) := by omega
            have hs1 : 1 < s.size := by omega
            obtain ⟨c, hc⟩ : ∃ c, s[1].toNat = c := ⟨_, rfl⟩
            have hc0 : ((c : Int) == 0) = false := by
              have : c ≠ 0 := fun e => hz ⟨by omega, by rw [← bl_get s 1 hs1]; exact UInt8.toNat_inj.1 (by rw [hc, e]; rfl)⟩
              simp; omega
            go_enter Tryz.func117, Tryz.ntmps117
            go_wp2
          all_goals
            go_loop [2, 4] (fun z i => ∃ j : Nat, j ≤ k ∧ i = .int .i64 ((1 + j : Nat) : Int) ∧ z = .int .i64 (accZ (bl s) j)) (fun _ i => 9 - (intOf i).toNat)
            case atStart => exact ⟨0, by omega, rfl, by rw [h00.out]⟩
            case round =>
              obtain ⟨j, hj, rfl, rfl⟩ := hrel
              by_cases hlt : j < k
              · have hjs : 1 + j < s.size := by omega
                obtain ⟨c, hc⟩ : ∃ c, s[1 + j].toNat = c := ⟨_, rfl⟩
                have Hst : Hid (wrap64 (accZ (bl s) j * 256 + (c : Int)) = accZ (bl s) (j + 1)) := Lib.hid (by
                  have e : ((bl s).getD (1 + j) 0).toNat = c := by rw [← bl_get s (1 + j) hjs, hc]
                  rw [← e, Nat.add_comm 1 j]
                  exact accZ_step _ _ (by rw [Hl.out]; omega))
                have hc256 : c < 256 := by rw [← hc]; exact s[1 + j].toNat_lt
                have Hor := Lib.hid (or_low (accZ (bl s) j) (c : Int) (by omega) (by omega))
                first
                  | (exfalso; omega)
                  | (go_wp2
                     rw [Hor.out, Hst.out]
                     go_round
                     case rel => exact ⟨j + 1, by omega, by go_num, rfl⟩
                     case measure => simp [intOf]; omega)
              · have hjk : j = k := by omega
                subst hjk
                generalize hz : accZ (bl s) j = z at *
                have Hz := Lib.hid hz
                clear hz hlt
                have hzb : -9223372036854775808 ≤ z ∧ z < 9223372036854775808 := by rw [← Hz.out]; unfold accZ wrap64; omega
                have Hzv : Hid (z = wrap64 (valL (((bl s).drop 1).take j))) := Lib.hid Hz.out.symm
                by_cases hz0 : z < 0
                · have Hv := Lib.hid (Hnone.out (.inr (.inr (.inr (by have := Hzv.out; have := Hv64.out; unfold wrap64 at *; unfold top; omega)))))
                  go_wp2
                  rw [Hv.out]
                  exact bodyPost_ret (v := .tuple #[.int .i64 0, .int .i64 0]) (by simp [results, go_sem]) rfl ⟨rfl, rfl⟩
                · by_cases hz1 : 4611686018427387903 < z
                  · have Hv := Lib.hid (Hnone.out (.inr (.inr (.inr (by have := Hzv.out; have := Hv64.out; unfold wrap64 at *; unfold top; omega)))))
                    go_wp2
                    rw [Hv.out]
                    exact bodyPost_ret (v := .tuple #[.int .i64 0, .int .i64 0]) (by simp [results, go_sem]) rfl ⟨rfl, rfl⟩
                  · have hzn : (valL (((bl s).drop 1).take j) : Int) = z := by have := Hzv.out; have := Hv64.out; unfold wrap64 at *; omega
                    have Hv := Lib.hid (Hsome.out (by unfold top; omega))
                    rw [hzn] at Hv
                    clear hzn
                    go_wp2
                    rw [Hv.out]
                    exact bodyPost_ret (v := .tuple #[.int .i64 z, .int .i64 ((1 + j : Nat) : Int)]) (by simp [results, go_sem]) rfl ⟨rfl, rfl⟩
end Go.Proofs.YtmgbmphheagdmaaGreatDoor

/-
  A reader in memory; the contracts of pack.Read, Upto, Num, Flag, Left and End.
-/
namespace Go.Proofs.YtmgbmphheagdmaaGreatDoor
open Go.RowKit

/-- The number that stands next, not above most: what is read, what is left, whether there was a fault. -/
def rdN (most : Int) (l : List UInt8) (bad : Bool) : Nat × List UInt8 × Bool :=
  if bad = true then (0, [], true) else match decL l with
  | some (n, k) => if (n : Int) ≤ most then (n, l.drop k, false) else (0, [], true)
  | none => (0, [], true)
theorem rdN_bad (most : Int) (l : List UInt8) : rdN most l true = (0, [], true) := rfl
theorem rdN_none {most : Int} {l : List UInt8} (h : decL l = none) : rdN most l false = (0, [], true) := by
  unfold rdN; rw [if_neg (by simp), h]
theorem rdN_over {most : Int} {l : List UInt8} {n k : Nat} (h : decL l = some (n, k)) (hm : ¬ (n : Int) ≤ most) : rdN most l false = (0, [], true) := by
  unfold rdN; rw [if_neg (by simp), h]; simp only; rw [if_neg hm]
theorem rdN_some {most : Int} {l : List UInt8} {n k : Nat} (h : decL l = some (n, k)) (hm : (n : Int) ≤ most) : rdN most l false = (n, l.drop k, false) := by
  unfold rdN; rw [if_neg (by simp), h]; simp only; rw [if_pos hm]
theorem rdN_cases (most : Int) (l : List UInt8) : rdN most l false = (0, [], true) ∨ ∃ n k, decL l = some (n, k) ∧ (n : Int) ≤ most ∧ rdN most l false = (n, l.drop k, false) := by
  cases h : decL l with
  | none => exact .inl (rdN_none h)
  | some p =>
    obtain ⟨n, k⟩ := p
    by_cases hm : (n : Int) ≤ most
    · exact .inr ⟨n, k, rfl, hm, rdN_some h hm⟩
    · exact .inl (rdN_over h hm)
theorem rdN_length (most : Int) (l : List UInt8) (bad : Bool) : (rdN most l bad).2.1.length ≤ l.length := by
  cases bad with
  | true => rw [rdN_bad]; exact Nat.zero_le _
  | false =>
    rcases rdN_cases most l with h | ⟨n, k, _, _, h⟩ <;> rw [h]
    · exact Nat.zero_le _
    · simp
theorem rdN_le (most : Int) (l : List UInt8) (bad : Bool) : (rdN most l bad).1 ≤ top := by
  cases bad with
  | true => rw [rdN_bad]; exact Nat.zero_le _
  | false =>
    rcases rdN_cases most l with h | ⟨n, k, hd, _, h⟩ <;> rw [h]
    · exact Nat.zero_le _
    · exact (decL_sound hd).1
theorem rdN_left (most : Int) (l : List UInt8) (bad : Bool) : (rdN most l bad).2.2 = true → (rdN most l bad).2.1 = [] ∧ (rdN most l bad).1 = 0 := by
  cases bad with
  | true => rw [rdN_bad]; exact fun _ => ⟨rfl, rfl⟩
  | false => rcases rdN_cases most l with h | ⟨n, k, _, _, h⟩ <;> rw [h] <;> simp

/-- Block a is a reader of type t: what is left, whether there was a fault. -/
def RdM (t : TypeId) (w : World) (a : Nat) (l : List UInt8) (bad : Bool) : Prop := ∃ s, Holds w a t [.string s, .bool bad] ∧ bl s = l ∧ (bad = true → l = [])
section
variable {t : TypeId} {w w' : World} {a : Nat} {l : List UInt8} {bad : Bool}
theorem RdM.lt (h : RdM t w a l bad) : a < w.heap.size := by obtain ⟨s, h, _⟩ := h; exact Holds.lt h
theorem RdM.grown {row : Option Nat} (h : RdM t w a l bad) (hb : w.grownBy w' row) (hg : some a ≠ row) : RdM t w' a l bad := by
  obtain ⟨s, h, r⟩ := h; exact ⟨s, h.grown hb hg, r⟩
theorem RdM.below {B : Nat} (h : RdM t w a l bad) (hb : Below B w w') (hg : a < B) : RdM t w' a l bad := by
  obtain ⟨s, h, r⟩ := h; exact ⟨s, h.below hb hg, r⟩
theorem RdM.bare (h : RdM t w a l true) : RdM t w a [] true := by
  obtain ⟨s, h1, h2, h3⟩ := h
  have := h3 rfl
  subst this
  exact ⟨s, h1, h2, h3⟩
end
theorem grown_refl (w : World) (row : Option Nat) : w.grownBy w row := ⟨rfl, rfl, rfl, Nat.le_refl _, fun _ _ _ => rfl⟩
theorem grown_set {w w' : World} {a i : Nat} (h : w.grownBy w' (some a)) (v : Value) : w.grownBy (w'.setCell ⟨a, i, none⟩ v) (some a) :=
  ⟨h.os, h.tape, h.output, by simp [World.setCell]; exact h.size, fun j hj hne => by rw [heap_setCell_other w' ⟨a, i, none⟩ j v (fun e => hne (by rw [e]))]; exact h.block j hj hne⟩
theorem grown_trans {w w1 w2 : World} {row : Option Nat} (h : w.grownBy w1 row) (k : w1.grownBy w2 row) : w.grownBy w2 row :=
  ⟨k.os.trans h.os, k.tape.trans h.tape, k.output.trans h.output, Nat.le_trans h.size k.size, fun j hj hne => (k.block j (Nat.lt_of_lt_of_le hj h.size) hne).trans (h.block j hj hne)⟩
theorem grown_below {w w' : World} (row : Option Nat) (h : Below w.heap.size w w') : w.grownBy w' row := ⟨h.os, h.tape, h.output, h.size, fun j hj _ => h.block j hj⟩
theorem below_grown {w w' : World} {a : Nat} (h : w.grownBy w' (some a)) (ha : a ≤ w.heap.size) : Below a w w' :=
  ⟨h.os, h.tape, h.output, h.size, fun j hj => h.block j (by omega) (by simp; omega)⟩

theorem bl_drop (s : ByteArray) (k : Nat) : bl (s.extract k s.size) = (bl s).drop k := by
  rw [bl_extract, List.take_of_length_le (by rw [List.length_drop, bl_length]; omega)]
theorem bl_take (s : ByteArray) (k : Nat) : bl (s.extract 0 k) = (bl s).take k := by rw [bl_extract]; simp
theorem bl_empty : bl { data := #[] } = [] := by rw [bl_eq]

/-- What reading leaves. -/
def RdGot (t : TypeId) (w : World) (a : Nat) (v : Value) (r : List UInt8 × Bool) (e : Ending) (w' : World) : Prop := e = .returned v ∧ RdM t w' a r.1 r.2 ∧ w.grownBy w' (some a)
theorem RdM.cells {t : TypeId} {w : World} {a : Nat} {s : ByteArray} {bad : Bool} (h : Holds w a t [.string s, .bool bad]) : w.cell? ⟨a, 0, none⟩ = some (.string s) ∧ w.cell? ⟨a, 1, none⟩ = some (.bool bad) ∧ w.frozen? ⟨a, 0, none⟩ = false ∧ w.frozen? ⟨a, 1, none⟩ = false :=
  ⟨Holds.cell h rfl, Holds.cell h rfl, Holds.frozen h 0, Holds.frozen h 1⟩

set_option maxRecDepth 100000 in
theorem read_any (s : ByteArray) (w : World) : Calls Tryz.prog 78 #[.string s] w fun e w' => e = .returned (.pointer (some ⟨w.heap.size, 0, none⟩)) ∧ RdM 143 w' w.heap.size (bl s) false ∧ Below w.heap.size w w' ∧ w'.heap.size = w.heap.size + 1 := by
  go_enter Tryz.func78, Tryz.ntmps78
  go_wp2
  go_ret
  exact ⟨rfl, ⟨s, Holds.new w 143 _, rfl, fun h => by cases h⟩, (Below.refl _ _).alloc (Nat.le_refl _) _, by simp⟩

set_option maxRecDepth 100000 in
theorem rstop_any (a : Nat) (w : World) (s : ByteArray) (bad : Bool) (h : Holds w a 143 [.string s, .bool bad]) : Calls Tryz.prog 105 #[.pointer (some ⟨a, 0, none⟩)] w fun e w' => e = .returned (.tuple #[]) ∧ w' = (w.setCell ⟨a, 0, none⟩ (.string { data := #[] })).setCell ⟨a, 1, none⟩ (.bool true) := by
  obtain ⟨c0, c1, f0, f1⟩ := RdM.cells h
  clear h
  go_enter Tryz.func105, Tryz.ntmps105
  go_wp2
  go_end0
  exact ⟨rfl, rfl⟩
theorem rstopped_nil (w : World) : Calls Tryz.prog 104 #[.pointer none] w fun e w' => e = .returned (.bool true) ∧ w' = w := by
  go_enter Tryz.func104, Tryz.ntmps104
  go_wp2
  go_ret
  exact ⟨rfl, rfl⟩
theorem rstopped_any (a : Nat) (w : World) (s : ByteArray) (bad : Bool) (h : Holds w a 143 [.string s, .bool bad]) : Calls Tryz.prog 104 #[.pointer (some ⟨a, 0, none⟩)] w fun e w' => e = .returned (.bool bad) ∧ w' = w := by
  obtain ⟨c0, c1, f0, f1⟩ := RdM.cells h
  clear h
  go_enter Tryz.func104, Tryz.ntmps104
  go_wp2
  go_ret
  exact ⟨rfl, rfl⟩

set_option maxRecDepth 100000 in
set_option maxHeartbeats 1000000 in
theorem upto_any (most : Int) (l : List UInt8) (bad : Bool) (a : Nat) (w : World) (h : RdM 143 w a l bad) (hl : l.length ≤ 1000000000) :
    Calls Tryz.prog 103 #[.pointer (some ⟨a, 0, none⟩), .int .i64 most] w (RdGot 143 w a (.int .i64 (rdN most l bad).1) (rdN most l bad).2) := by
  cases bad with
  | true =>
    have Hend : Hid (RdGot 143 w a (.int .i64 0) ([], true) (.returned (.int .i64 0)) w) := Lib.hid ⟨rfl, h.bare, grown_refl _ _⟩
    obtain ⟨s, hh, _, _⟩ := h
    obtain ⟨c0, c1, f0, f1⟩ := RdM.cells hh
    rw [rdN_bad]
    clear hh
    go_enter Tryz.func103, Tryz.ntmps103
    go_wp2
    go_ret
    exact Hend.out
  | false =>
    obtain ⟨s, hh, hs, _⟩ := h
    obtain ⟨c0, c1, f0, f1⟩ := RdM.cells hh
    have Hh := Lib.hid hh
    have Hs := Lib.hid hs
    have hsz : s.size ≤ 1000000000 := by rw [← bl_length, hs]; exact hl
    clear hh hs hl
    have Hstop : Hid (RdGot 143 w a (.int .i64 0) ([], true) (.returned (.int .i64 0)) ((w.setCell ⟨a, 0, none⟩ (.string { data := #[] })).setCell ⟨a, 1, none⟩ (.bool true))) := Lib.hid
      ⟨rfl, ⟨_, Holds.set (Holds.set Hh.out 0 _) 1 _, bl_empty, fun _ => rfl⟩, grown_set (grown_set (grown_refl _ _) _) _⟩
    cases hd : decL l with
    | none =>
      rw [rdN_none hd]
      have Hv : Hid (decV (bl s) = .tuple #[.int .i64 0, .int .i64 0]) := Lib.hid (by rw [Hs.out]; unfold decV; rw [hd])
      clear hd
      go_enter Tryz.func103, Tryz.ntmps103
      go_wp2_with (first | (go_at_call 104; refine (rstopped_any a _ _ _ Hh.out).mono ?_; rintro e w' ⟨rfl, rfl⟩) | (go_at_call 105; refine (rstop_any a _ _ _ Hh.out).mono ?_; rintro e w' ⟨rfl, rfl⟩) | (go_at_call 117; refine (decoded_any s _ (by omega)).mono ?_; rintro e w' ⟨rfl, rfl⟩; rw [Hv.out]))
      go_ret
      exact Hstop.out
    | some p =>
      obtain ⟨n, k⟩ := p
      have Hv : Hid (decV (bl s) = .tuple #[.int .i64 n, .int .i64 k]) := Lib.hid (by rw [Hs.out]; unfold decV; rw [hd])
      obtain ⟨_, hk, _, hk0, _⟩ := decL_sound hd
      have hks : k ≤ s.size := by rw [← bl_length, Hs.out]; exact hk
      have hkz : ((k : Int) == 0) = false := by simp; omega
      by_cases hm : (n : Int) ≤ most
      · rw [rdN_some hd hm]
        clear hd hk
        have hm' : ¬ most < (n : Int) := by omega
        have Hend : Hid (RdGot 143 w a (.int .i64 n) (l.drop k, false) (.returned (.int .i64 n)) (w.setCell ⟨a, 0, none⟩ (.string (s.extract k s.size)))) := Lib.hid
          ⟨rfl, ⟨_, Holds.set Hh.out 0 _, by rw [bl_drop, Hs.out], fun h => by cases h⟩, grown_set (grown_refl _ _) _⟩
        go_enter Tryz.func103, Tryz.ntmps103
        go_wp2_with (first | (go_at_call 104; refine (rstopped_any a _ _ _ Hh.out).mono ?_; rintro e w' ⟨rfl, rfl⟩) | (go_at_call 117; refine (decoded_any s _ (by omega)).mono ?_; rintro e w' ⟨rfl, rfl⟩; rw [Hv.out]))
        go_ret
        exact Hend.out
      · rw [rdN_over hd hm]
        clear hd hk
        have hm' : most < (n : Int) := by omega
        go_enter Tryz.func103, Tryz.ntmps103
        go_wp2_with (first | (go_at_call 104; refine (rstopped_any a _ _ _ Hh.out).mono ?_; rintro e w' ⟨rfl, rfl⟩) | (go_at_call 105; refine (rstop_any a _ _ _ Hh.out).mono ?_; rintro e w' ⟨rfl, rfl⟩) | (go_at_call 117; refine (decoded_any s _ (by omega)).mono ?_; rintro e w' ⟨rfl, rfl⟩; rw [Hv.out]))
        go_ret
        exact Hstop.out
end Go.Proofs.YtmgbmphheagdmaaGreatDoor

/-
  The contracts of a reader's Num, Flag, Left, End and Text, and of all of them where there is no reader.
-/
namespace Go.Proofs.YtmgbmphheagdmaaGreatDoor
open Go.RowKit

set_option maxRecDepth 100000 in
theorem num_any (l : List UInt8) (bad : Bool) (a : Nat) (w : World) (h : RdM 143 w a l bad) (hl : l.length ≤ 1000000000) :
    Calls Tryz.prog 79 #[.pointer (some ⟨a, 0, none⟩)] w (RdGot 143 w a (.int .i64 (rdN 4611686018427387903 l bad).1) (rdN 4611686018427387903 l bad).2) := by
  have Hu := Lib.hid (upto_any 4611686018427387903 l bad a w h hl)
  clear h
  generalize rdN 4611686018427387903 l bad = r at *
  go_enter Tryz.func79, Tryz.ntmps79
  go_wp2_with (go_at_call 103; refine Hu.out.mono ?_; rintro e w' ⟨rfl, hr, hg⟩)
  go_ret
  exact ⟨rfl, hr, hg⟩
/-- Was all read, without a fault? -/
def endV (l : List UInt8) (bad : Bool) : Int := if bad = true ∨ l ≠ [] then 3 else 0
theorem num_nil (w : World) : Calls Tryz.prog 79 #[.pointer none] w fun e w' => e = .returned (.int .i64 0) ∧ w' = w := by
  go_enter Tryz.func79, Tryz.ntmps79
  go_wp2
  go_ret
  exact ⟨rfl, rfl⟩
theorem upto_nil (m : Int) (w : World) : Calls Tryz.prog 103 #[.pointer none, .int .i64 m] w fun e w' => e = .returned (.int .i64 0) ∧ w' = w := by
  go_enter Tryz.func103, Tryz.ntmps103
  go_wp2
  go_ret
  exact ⟨rfl, rfl⟩
theorem text_nil (m : Int) (w : World) : Calls Tryz.prog 80 #[.pointer none, .int .i64 m] w fun e w' => e = .returned (.string { data := #[] }) ∧ w' = w := by
  go_enter Tryz.func80, Tryz.ntmps80
  go_wp2
  go_ret
  exact ⟨rfl, rfl⟩
theorem info5 : (Tryz.prog.info? 5).map (fun i => (i.zero, i.size, i.bytes)) = some (some (.int .u8 0), 1, 1) := by kernel_rfl
theorem sclone_any (s : ByteArray) (w : World) (hs : s.size ≤ 1000000000) : Calls Tryz.prog 106 #[.string s] w fun e w' => e = .returned (.string s) ∧ Below w.heap.size w w' := by
  go_enter Tryz.func106, Tryz.ntmps106
  go_wp2_with (go_at_call 118; refine (clone_any s w hs).mono ?_; rintro e w' ⟨rfl, hb⟩)
  go_ret
  exact ⟨rfl, hb⟩
theorem bs_nil : bs [] = { data := #[] } := by rw [bs_eq]
/-- The text that stands next, of no more than most bytes: what is read, what is left, whether there was a fault. -/
def rdT (most : Int) (l : List UInt8) (bad : Bool) : List UInt8 × List UInt8 × Bool :=
  if (rdN most l bad).2.2 = true ∨ (rdN most l bad).2.1.length < (rdN most l bad).1 then ([], [], true)
  else ((rdN most l bad).2.1.take (rdN most l bad).1, (rdN most l bad).2.1.drop (rdN most l bad).1, false)
theorem bl_eq_of {s : ByteArray} {l : List UInt8} (h : bl s = l) : s = bs l := by rw [← h, bs_bl]

set_option maxRecDepth 100000 in
set_option maxHeartbeats 1000000 in
theorem text_any (most : Int) (l : List UInt8) (bad : Bool) (a : Nat) (w : World) (h : RdM 143 w a l bad) (hl : l.length ≤ 1000000000) :
    Calls Tryz.prog 80 #[.pointer (some ⟨a, 0, none⟩), .int .i64 most] w (RdGot 143 w a (.string (bs (rdT most l bad).1)) (rdT most l bad).2) := by
  have Hu := Lib.hid (upto_any most l bad a w h hl)
  have Hln := Lib.hid (rdN_length most l bad)
  have Hbad := Lib.hid (rdN_left most l bad)
  have Ht : Hid (rdT most l bad = if (rdN most l bad).2.2 = true ∨ (rdN most l bad).2.1.length < (rdN most l bad).1 then ([], [], true) else ((rdN most l bad).2.1.take (rdN most l bad).1, (rdN most l bad).2.1.drop (rdN most l bad).1, false)) := Lib.hid rfl
  have ha := h.lt
  clear h
  generalize rdT most l bad = r at *
  generalize rdN most l bad = q at *
  obtain ⟨n, l1, b1⟩ := q
  simp only at *
  by_cases hb : b1 = true
  · subst hb
    have Hr : Hid (r = ([], [], true)) := Lib.hid (by rw [Ht.out]; simp)
    obtain rfl : l1 = [] := (Hbad.out rfl).1
    obtain rfl : n = 0 := (Hbad.out rfl).2
    rw [Hr.out]
    clear Ht Hr Hbad Hln
    go_enter Tryz.func80, Tryz.ntmps80
    go_wp2_with (first | (go_at_call 103; refine Hu.out.mono ?_; rintro e w1 ⟨rfl, ⟨s, hh, hs, hz⟩, hg⟩; have Hh := Lib.hid hh; have Hs := Lib.hid hs; have Hg := Lib.hid hg; clear hh hs hz hg) | (go_at_call 104; refine (rstopped_any a _ _ _ Hh.out).mono ?_; rintro e w' ⟨rfl, rfl⟩))
    go_ret
    exact ⟨by rw [bs_nil]; rfl, ⟨s, Hh.out, Hs.out, fun _ => rfl⟩, Hg.out⟩
  · obtain rfl : b1 = false := by cases b1 <;> simp_all
    by_cases hn : l1.length < n
    · have Hr : Hid (r = ([], [], true)) := Lib.hid (by rw [Ht.out]; simp [hn])
      rw [Hr.out]
      clear Ht Hr Hbad
      go_enter Tryz.func80, Tryz.ntmps80
      go_wp2_with fail
      refine Hu.out.mono ?_
      rintro e w1 ⟨rfl, ⟨s, hh, hs, hz⟩, hg⟩
      obtain ⟨c0, c1, f0, f1⟩ := RdM.cells hh
      have hsz : l1.length = s.size := by rw [← bl_length, hs]
      have hgt : (s.size : Int) < n := by omega
      have Hh := Lib.hid hh
      have Hs := Lib.hid hs
      have Hg := Lib.hid hg
      clear hh hs hz hg hn hsz
      go_wp2_with (first | (go_at_call 104; refine (rstopped_any a _ _ _ Hh.out).mono ?_; rintro e w' ⟨rfl, rfl⟩) | (go_at_call 105; refine (rstop_any a _ _ _ Hh.out).mono ?_; rintro e w' ⟨rfl, rfl⟩))
      go_ret
      exact ⟨by rw [bs_nil]; rfl, ⟨_, Holds.set (Holds.set Hh.out 0 _) 1 _, bl_empty, fun _ => rfl⟩, grown_set (grown_set Hg.out _) _⟩
    · have Hr : Hid (r = (l1.take n, l1.drop n, false)) := Lib.hid (by rw [Ht.out]; simp [hn])
      rw [Hr.out]
      clear Ht Hr Hbad
      have hll := Hln.out
      go_enter Tryz.func80, Tryz.ntmps80
      go_wp2_with fail
      refine Hu.out.mono ?_
      rintro e w1 ⟨rfl, ⟨s, hh, hs, hz⟩, hg⟩
      obtain ⟨c0, c1, f0, f1⟩ := RdM.cells hh
      have hsz : l1.length = s.size := by rw [← bl_length, hs]
      have hgt : (n : Int) ≤ s.size := by omega
      have hgt' : n ≤ s.size := by omega
      have Hh := Lib.hid hh
      have Hs := Lib.hid hs
      have Hg := Lib.hid hg
      clear hh hs hz hg hn
      have Hcl : Hid ((s.extract 0 n).size ≤ 1000000000) := Lib.hid (by simp; omega)
      go_wp2_with (first | (go_at_call 104; refine (rstopped_any a _ _ _ Hh.out).mono ?_; rintro e w' ⟨rfl, rfl⟩) | (go_at_call 106; refine (sclone_any _ _ Hcl.out).mono ?_; rintro e w2 ⟨rfl, hb2⟩; have Hh2 := Lib.hid (Holds.below Hh.out hb2 (Holds.lt Hh.out)); have Hg2 := Lib.hid (grown_trans Hg.out (grown_below _ hb2)); obtain ⟨d0, d1, g0, g1⟩ := RdM.cells Hh2.out; clear hb2))
      go_ret
      exact ⟨by rw [← Hs.out, ← bl_take, bs_bl]; rfl, ⟨_, Holds.set Hh2.out 0 _, by rw [bl_drop, Hs.out], fun h => by cases h⟩, grown_set Hg2.out _⟩
end Go.Proofs.YtmgbmphheagdmaaGreatDoor
