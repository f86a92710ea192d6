/-
  The contracts of exchequerref02.Hex, hash.valueOf and hash.Unhex.
-/
import Derived.Test.YtemiphbblaikjaaDoorHex
namespace Go.Proofs.YtemiphbblaikjaaDoor
open Go.RowKit

theorem own_empty (w : World) : OwnB (w.alloc (.cells #[] 5)) w.heap.size (.slice (some ⟨w.heap.size, 0, none⟩) 0 0) [] := by
  unfold OwnB
  rw [byC_eq]
  exact World.ownsRow_lit w #[] 0 (Nat.le_refl _) (by unfold maxLen; omega) rfl

set_option maxRecDepth 100000 in
set_option maxHeartbeats 1000000 in
theorem rhex_any (s : ByteArray) (w : World) (hs : s.size ≤ 100000) :
    Calls Tryd.prog 22 #[.string s] w fun e w' => e = .returned (.string (bs (hexL (bl s)))) ∧ Below w.heap.size w w' := by
  obtain ⟨i0, hi0, hz0, hz1, hz2⟩ := info_parts info5
  have Hl := Lib.hid (bl_length s)
  go_enter Tryd.func22, Tryd.ntmps22
  go_wp2
  go_loopw [3, 4] (fun v i wr => ∃ k : Nat, k ≤ s.size ∧ i = .int .i64 k ∧ OwnB wr w.heap.size v (hexL ((bl s).take k)) ∧ Below w.heap.size w wr) (fun _ i _ => s.size - (intOf i).toNat)
  case atStart => exact ⟨0, by omega, rfl, own_empty w, (Below.refl _ _).alloc (Nat.le_refl _) _⟩
  case round =>
    obtain ⟨k, hk, rfl, hown, hb⟩ := hrel
    have Hk := Lib.hid hown
    have Hb := Lib.hid hb
    clear hown hb
    by_cases hlt : k < s.size
    · obtain ⟨x, hx⟩ : ∃ x, s[k] = x := ⟨_, rfl⟩
      have Htk : Hid (hexL ((bl s).take (k + 1)) = hexL ((bl s).take k) ++ [digitB (x.toNat / 16), digitB (x.toNat % 16)]) := Lib.hid (by
        rw [hexL_take _ _ (by rw [Hl.out]; exact hlt), ← bl_get s k hlt, hx])
      have hxl := x.toNat_lt
      obtain ⟨p, hp⟩ : ∃ p : Nat, p = x.toNat / 16 := ⟨_, rfl⟩
      obtain ⟨q, hq⟩ : ∃ q : Nat, q = x.toNat % 16 := ⟨_, rfl⟩
      have hp1 : p < 16 := by omega
      have hq1 : q < 16 := by omega
      have hpi : (x.toNat : Int) / 16 = (p : Int) := by omega
      have hqi : (x.toNat : Int) % 16 = (q : Int) := by omega
      have hpt : (x.toNat : Int).tdiv 16 = (p : Int) := by rw [Int.tdiv_eq_ediv_of_nonneg (by omega)]; exact hpi
      have hqt : (x.toNat : Int).tmod 16 = (q : Int) := by rw [Int.tmod_eq_emod_of_nonneg (by omega)]; exact hqi
      have hpw : IntKind.u8.wrap (p : Int) = (p : Int) := by simp [IntKind.wrap, IntKind.bits, IntKind.signed]; omega
      have hp2 : (p : Int) < 16 := by omega
      have hq2 : (q : Int) < 16 := by omega
      have hdp := digS_get p hp1
      have hdq := digS_get q hq1
      rw [← hp, ← hq] at Htk
      have hcell2 : ∀ W : World, Hid (∀ j u, (byC [digitB p, digitB q])[j]? = some u → (W.alloc (.cells #[.int .u8 ((digitB p).toNat : Int), .int .u8 ((digitB q).toNat : Int)] 5)).drew.cell? ((⟨W.heap.size, 0, none⟩ : Addr).add j) = some u) := fun W => Lib.hid (bytes_new _ _ _ _ 5 (Holds.new W 5 _))
      have Hcell2 := Lib.hid hcell2
      have Hone : Hid (∀ u ∈ byC [digitB p, digitB q], u.oneCell' = true) := Lib.hid (byC_one _)
      have Hhl : Hid ((hexL ((bl s).take k)).length = 2 * k) := Lib.hid (by rw [hexL_length, List.length_take, Hl.out]; omega)
      have Hm1 : Hid ((hexL ((bl s).take k)).length + 2 ≤ maxLen) := Lib.hid (by rw [Hhl.out]; unfold maxLen; omega)
      have Hm2 : Hid (((hexL ((bl s).take k)).length + 2) * 1 ≤ 140737488355328) := Lib.hid (by rw [Hhl.out]; omega)
      have Hn2 : Hid ((byC [digitB p, digitB q]).length = 2 * 1) := Lib.hid (by rw [byC_length]; rfl)
      have Hsz : Hid (w.heap.size ≤ wr.heap.size) := Lib.hid Hb.out.size
      clear hp hq hcell2
      go_wp2_with fail
      go_region_law ((refine step_append_lies _ rfl (.tmp 12) (.tmp 23) 37 rfl w.heap.size 5 i0 _ 1 1 Tryd.underlying37 hi0 hz0 hz1 hz2 rfl (by omega) u3 _ _ rfl (Hk.out.alloc _) ⟨wr.heap.size, 0, none⟩ 2 _ (byC [digitB p, digitB q]) rfl Hn2.out (Hcell2.out _).out Hone.out (by omega) Hm1.out Hm2.out (Nat.le_trans Hsz.out (by simp)) _ rfl ?_); intro g cap w2 hown2 hgrow hor hg2)
      all_goals
        have Hb2 : Hid (Below w.heap.size w w2) := Lib.hid (((Hb.out.alloc Hsz.out _).drew).grown hgrow (Nat.le_trans Hsz.out (by simp)) (fun j hj => (Hk.out.lt j hj).1))
        have Hown2 : Hid (OwnB w2 w.heap.size (.slice (some ⟨g, 0, none⟩) ((hexL ((bl s).take k)).length + 2) cap) (hexL ((bl s).take (k + 1)))) := Lib.hid (by
          unfold OwnB
          rw [Htk.out, byC_append, List.length_append]
          exact hown2)
        clear hown2 hgrow hor hg2
        go_wp2
        go_roundw
        case rel => exact ⟨k + 1, by omega, by go_num, Hown2.out, Hb2.out⟩
        case measure => simp [intOf]; omega
    · have hcv := conv_own Hk.out
      rw [List.take_of_length_le (by rw [Hl.out]; omega)] at hcv
      go_wp2
      go_ret
      exact ⟨rfl, Hb.out⟩

/-- The value of a digit. -/
def valB (c : UInt8) : Option UInt8 := if 48 ≤ c.toNat ∧ c.toNat ≤ 57 then some (UInt8.ofNat (c.toNat - 48)) else if 97 ≤ c.toNat ∧ c.toNat ≤ 102 then some (UInt8.ofNat (c.toNat - 87)) else none
theorem ret_val {a b : Int} (h : a = b) : Ending.returned (.tuple #[.int .u8 a, .bool true]) = .returned (.tuple #[.int .u8 b, .bool true]) := by rw [h]
theorem value_some (c v : UInt8) (w : World) (h : valB c = some v) : Calls Tryd.prog 32 #[.int .u8 (c.toNat : Int)] w fun e w' => e = .returned (.tuple #[.int .u8 (v.toNat : Int), .bool true]) ∧ w = w' := by
  have hc := c.toNat_lt
  unfold valB at h
  by_cases h1 : 48 ≤ c.toNat ∧ c.toNat ≤ 57
  · rw [if_pos h1] at h
    obtain rfl := Option.some.inj h
    have Hv : Hid ((c.toNat : Int) - 48 = ((UInt8.ofNat (c.toNat - 48)).toNat : Int)) := Lib.hid (by rw [UInt8.toNat_ofNat']; omega)
    obtain ⟨h2, h3⟩ := h1
    clear h
    go_enter Tryd.func32, Tryd.ntmps32
    go_wp2
    go_ret2
    exact ⟨ret_val Hv.out, rfl⟩
  · rw [if_neg h1] at h
    by_cases h2 : 97 ≤ c.toNat ∧ c.toNat ≤ 102
    · rw [if_pos h2] at h
      obtain rfl := Option.some.inj h
      have Hv : Hid ((c.toNat : Int) - 97 + 10 = ((UInt8.ofNat (c.toNat - 87)).toNat : Int)) := Lib.hid (by rw [UInt8.toNat_ofNat']; omega)
      obtain ⟨h3, h4⟩ := h2
      have h5 : ¬ c.toNat ≤ 57 := by omega
      have h6 : 48 ≤ c.toNat := by omega
      clear h h1
      go_enter Tryd.func32, Tryd.ntmps32
      go_wp2
      go_ret2
      exact ⟨ret_val Hv.out, rfl⟩
    · rw [if_neg h2] at h
      cases h
theorem value_none (c : UInt8) (w : World) (h : valB c = none) : Calls Tryd.prog 32 #[.int .u8 (c.toNat : Int)] w fun e w' => e = .returned (.tuple #[.int .u8 0, .bool false]) ∧ w = w' := by
  have hc := c.toNat_lt
  have h1 : ¬ (48 ≤ c.toNat ∧ c.toNat ≤ 57) := fun h1 => by unfold valB at h; rw [if_pos h1] at h; cases h
  have h2 : ¬ (97 ≤ c.toNat ∧ c.toNat ≤ 102) := fun h2 => by unfold valB at h; rw [if_neg h1, if_pos h2] at h; cases h
  clear h
  rcases (show c.toNat < 48 ∨ 57 < c.toNat ∧ c.toNat < 97 ∨ 102 < c.toNat by omega) with h3 | ⟨h3, h4⟩ | h3
  · have h5 : ¬ 48 ≤ c.toNat := by omega
    have h6 : ¬ 97 ≤ c.toNat := by omega
    clear h1 h2
    go_enter Tryd.func32, Tryd.ntmps32
    go_wp2
    go_ret2
    exact ⟨rfl, rfl⟩
  · have h5 : 48 ≤ c.toNat := by omega
    have h6 : ¬ c.toNat ≤ 57 := by omega
    have h7 : ¬ 97 ≤ c.toNat := by omega
    clear h1 h2
    go_enter Tryd.func32, Tryd.ntmps32
    go_wp2
    go_ret2
    exact ⟨rfl, rfl⟩
  · have h5 : 48 ≤ c.toNat := by omega
    have h6 : ¬ c.toNat ≤ 57 := by omega
    have h7 : 97 ≤ c.toNat := by omega
    have h8 : ¬ c.toNat ≤ 102 := by omega
    clear h1 h2
    go_enter Tryd.func32, Tryd.ntmps32
    go_wp2
    go_ret2
    exact ⟨rfl, rfl⟩
/-- One contract for both. -/
theorem value_any (c : UInt8) (w : World) : Calls Tryd.prog 32 #[.int .u8 (c.toNat : Int)] w fun e w' => e = .returned (.tuple #[.int .u8 (((valB c).getD 0).toNat : Int), .bool (valB c).isSome]) ∧ w = w' := by
  cases h : valB c with
  | some v => exact value_some c v w h
  | none => exact value_none c w h

/-- What digits say. -/
def unhexL : List UInt8 → Option (List UInt8)
  | [] => some []
  | [_] => none
  | x :: y :: l => match valB x, valB y, unhexL l with
    | some a, some b, some r => some (UInt8.ofNat (a.toNat * 16 + b.toNat) :: r)
    | _, _, _ => none
theorem unhexL_cons (x y : UInt8) (l : List UInt8) : unhexL (x :: y :: l) = match valB x, valB y, unhexL l with
    | some a, some b, some r => some (UInt8.ofNat (a.toNat * 16 + b.toNat) :: r)
    | _, _, _ => none := rfl
theorem unhex_odd : ∀ (l : List UInt8), l.length % 2 = 1 → unhexL l = none
  | [], h => by simp at h
  | [_], _ => rfl
  | x :: y :: l, h => by
    have := unhex_odd l (by simp at h; omega)
    unfold unhexL
    rw [this]
    cases valB x <;> cases valB y <;> rfl
theorem unhex_append : ∀ (a b : List UInt8), a.length % 2 = 0 → unhexL (a ++ b) = (unhexL a).bind fun x => (unhexL b).map (x ++ ·)
  | [], b, _ => by simp [unhexL]
  | [_], b, h => by simp at h
  | x :: y :: l, b, h => by
    have := unhex_append l b (by simp at h; omega)
    rw [List.cons_append, List.cons_append, unhexL_cons, unhexL_cons, this]
    cases valB x <;> cases valB y <;> cases unhexL l <;> cases unhexL b <;> rfl
theorem val_lt : ∀ n, n < 256 → ∀ v, valB (UInt8.ofNat n) = some v → v.toNat < 16 ∧ digitB v.toNat = UInt8.ofNat n := by
  have h : ∀ n, n < 256 → ((valB (UInt8.ofNat n)).all fun v => decide (v.toNat < 16) && (digitB v.toNat == UInt8.ofNat n)) = true := by decide +kernel
  intro n hn v hv
  have := h n hn
  rw [hv] at this
  simpa using this
theorem val_dig (c v : UInt8) (h : valB c = some v) : v.toNat < 16 ∧ digitB v.toNat = c := by
  have := val_lt c.toNat c.toNat_lt v (by rw [UInt8.ofNat_toNat]; exact h)
  rwa [UInt8.ofNat_toNat] at this
theorem dig_val : ∀ n, n < 16 → valB (digitB n) = some (UInt8.ofNat n) := by decide +kernel
theorem unhex_hex (l : List UInt8) : unhexL (hexL l) = some l := by
  induction l with
  | nil => rfl
  | cons b l ih =>
    have e : hexL (b :: l) = digitB (b.toNat / 16) :: digitB (b.toNat % 16) :: hexL l := by simp [hexL]
    have hb := b.toNat_lt
    rw [e]
    unfold unhexL
    rw [dig_val _ (by omega), dig_val _ (by omega), ih]
    simp only [UInt8.toNat_ofNat']
    rw [show b.toNat / 16 % 2 ^ 8 * 16 + b.toNat % 16 % 2 ^ 8 = b.toNat by omega, UInt8.ofNat_toNat]
theorem hex_unhex : ∀ (l u : List UInt8), unhexL l = some u → hexL u = l
  | [], u, h => by
    cases h; rfl
  | [_], u, h => by cases h
  | x :: y :: l, u, h => by
    unfold unhexL at h
    cases hx : valB x with
    | none => rw [hx] at h; cases h
    | some a =>
      cases hy : valB y with
      | none => rw [hx, hy] at h; cases h
      | some b =>
        cases hl : unhexL l with
        | none => rw [hx, hy, hl] at h; cases h
        | some r =>
          rw [hx, hy, hl] at h
          obtain rfl := Option.some.inj h
          have ih := hex_unhex l r hl
          have e : ∀ (b : UInt8) (l : List UInt8), hexL (b :: l) = digitB (b.toNat / 16) :: digitB (b.toNat % 16) :: hexL l := fun b l => by simp [hexL]
          obtain ⟨a1, a2⟩ := val_dig x a hx
          obtain ⟨b1, b2⟩ := val_dig y b hy
          rw [e, ih, UInt8.toNat_ofNat', show (a.toNat * 16 + b.toNat) % 2 ^ 8 / 16 = a.toNat by omega, show (a.toNat * 16 + b.toNat) % 2 ^ 8 % 16 = b.toNat by omega, a2, b2]
theorem unhex_some : ∀ (l : List UInt8), (unhexL l).isSome = (decide (l.length % 2 = 0) && l.all fun c => (valB c).isSome)
  | [] => rfl
  | [_] => by simp [unhexL]
  | x :: y :: l => by
    have ih := unhex_some l
    have e : decide ((x :: y :: l).length % 2 = 0) = decide (l.length % 2 = 0) := by simp only [List.length_cons, decide_eq_decide]; omega
    rw [e, List.all_cons, List.all_cons]
    unfold unhexL
    cases hx : valB x <;> cases hy : valB y <;> cases hl : unhexL l <;> rw [hl] at ih <;> simp_all

/-- Two digits more. -/
theorem unhex_two (l : List UInt8) (j : Nat) (hj : 2 * j + 1 < l.length) : unhexL (l.take (2 * (j + 1))) = (unhexL (l.take (2 * j))).bind fun r => match valB (l.getD (2 * j) 0), valB (l.getD (2 * j + 1) 0) with
    | some a, some b => some (r ++ [UInt8.ofNat (a.toNat * 16 + b.toNat)])
    | _, _ => none := by
  rw [show 2 * (j + 1) = 2 * j + 1 + 1 by omega, take_snoc l (2 * j + 1) hj 0, take_snoc l (2 * j) (by omega) 0, List.append_assoc, unhex_append _ _ (by rw [List.length_take]; omega)]
  rw [List.singleton_append, unhexL_cons]
  cases valB (l.getD (2 * j) 0) <;> cases valB (l.getD (2 * j + 1) 0) <;> cases unhexL (l.take (2 * j)) <;> rfl
theorem unhex_stop (l : List UInt8) (j : Nat) (hj : 2 * j ≤ l.length) (h : unhexL (l.take (2 * j)) = none) : unhexL l = none := by
  have := unhex_append (l.take (2 * j)) (l.drop (2 * j)) (by rw [List.length_take]; omega)
  rw [List.take_append_drop, h] at this
  exact this
/-- Two digits a byte, as the text writes it. -/
theorem two_digits (a b : UInt8) (ha : a.toNat < 16) (hb : b.toNat < 16) : bits BinOp.or IntKind.u8 ((a.toNat : Int) * 16) (b.toNat : Int) = ((UInt8.ofNat (a.toNat * 16 + b.toNat)).toNat : Int) := by
  rw [show (a.toNat : Int) * 16 = ((2 ^ 4 * a.toNat : Nat) : Int) by omega, u8_or_nat _ _ (by omega) (by omega), ← Nat.two_pow_add_eq_or_of_lt (by omega), UInt8.toNat_ofNat']
  omega
/-- What Unhex returns. -/
def Unhexed (w : World) (r : Option (List UInt8)) (e : Ending) (w' : World) : Prop := e = .returned (.tuple #[.string (bs (r.getD [])), .bool r.isSome]) ∧ Below w.heap.size w w'
theorem bs_nil : bs [] = { data := #[] } := by rw [bs_eq]

set_option maxRecDepth 100000 in
set_option maxHeartbeats 1000000 in
theorem unhex_any (s : ByteArray) (w : World) (hs : s.size ≤ 100000) :
    Calls Tryd.prog 21 #[.string s] w (Unhexed w (unhexL (bl s))) := by
  obtain ⟨i0, hi0, hz0, hz1, hz2⟩ := info_parts info5
  have Hl := Lib.hid (bl_length s)
  by_cases hodd : s.size % 2 = 1
  · have hne : ((s.size : Int) % 2 != 0) = true := by simp; omega
    have Hend : Hid (Unhexed w (unhexL (bl s)) (.returned (.tuple #[.string { data := #[] }, .bool false])) w) := Lib.hid ⟨by rw [unhex_odd _ (by rw [Hl.out]; exact hodd), ← bs_nil]; rfl, Below.refl _ _⟩
    go_enter Tryd.func21, Tryd.ntmps21
    go_wp2
    go_ret2
    exact Hend.out
  · have hne : ((s.size : Int) % 2 != 0) = false := by simp; omega
    have hm2 : Hid (i0.bytes * (s.size / 2) ≤ 281474976710656) := Lib.hid (by rw [hz2]; omega)
    have hm3 : Hid (s.size / 2 ≤ maxLen) := Lib.hid (by unfold maxLen; omega)
    go_enter Tryd.func21, Tryd.ntmps21
    go_wp2_with (at_make; go_loud (refine wpList_make_own _ rfl _ _ 37 rfl w.heap.size 5 i0 _ 1 Tryd.underlying37 hi0 hz0 hz1 .i64 .i64 ((s.size : Int) / 2) (s.size / 2) rfl rfl (by omega) hm2.out hm3.out (Nat.le_refl _) ?_); intro w1 hown hgrow)
    have Hown : Hid (OwnB w1 w.heap.size (.slice (some ⟨w.heap.size, 0, none⟩) 0 (s.size / 2)) []) := Lib.hid (by unfold OwnB; rw [byC_eq]; exact hown)
    have Hb1 : Hid (Below w.heap.size w w1) := Lib.hid ((Below.refl _ _).grown hgrow (Nat.le_refl _) (by intro k hk; cases hk))
    clear hown hgrow
    go_wp2
    go_loopw [4, 5, 6, 7, 8, 9] (fun v i _ _ _ _ wr => ∃ k : Nat, ∃ o, 2 * k ≤ s.size ∧ i = .int .i64 (2 * k : Nat) ∧ unhexL ((bl s).take (2 * k)) = some o ∧ OwnB wr w.heap.size v o ∧ o.length = k ∧ Below w.heap.size w wr) (fun _ i _ _ _ _ _ => s.size - (intOf i).toNat)
    case atStart => exact ⟨0, [], by omega, rfl, rfl, Hown.out, rfl, Hb1.out⟩
    case round =>
      clear Hown Hb1
      obtain ⟨k, o, hk, rfl, hun, hown, hol, hb⟩ := hrel
      have Hun := Lib.hid hun
      have Hk := Lib.hid hown
      have Hol := Lib.hid hol
      have Hb := Lib.hid hb
      clear hun hown hol hb
      by_cases hlt : 2 * k < s.size
      · have hlt1 : 2 * k + 1 < s.size := by omega
        have Htwo := Lib.hid (unhex_two (bl s) k (by rw [Hl.out]; exact hlt1))
        rw [Hun.out, ← bl_get s (2 * k) hlt, ← bl_get s (2 * k + 1) hlt1] at Htwo
        obtain ⟨x, hx⟩ : ∃ x, s[2 * k] = x := ⟨_, rfl⟩
        obtain ⟨y, hy⟩ : ∃ y, s[2 * k + 1] = y := ⟨_, rfl⟩
        rw [hx, hy] at Htwo
        cases hvx : valB x with
        | none =>
          have Hend : Hid (unhexL (bl s) = none) := Lib.hid (unhex_stop (bl s) (k + 1) (by rw [Hl.out]; omega) (by rw [Htwo.out, hvx]; rfl))
          have Hvx := Lib.hid hvx
          clear hvx Htwo
          go_wp2_with fail
          refine (value_none x _ Hvx.out).mono ?_
          rintro e w2 ⟨rfl, rfl⟩
          go_wp2_with fail
          refine (value_any y _).mono ?_
          rintro e w2 ⟨rfl, rfl⟩
          go_wp2
          go_ret2
          exact ⟨by rw [Hend.out, ← bs_nil]; rfl, Hb.out⟩
        | some a =>
          have Hvx := Lib.hid hvx
          cases hvy : valB y with
          | none =>
            have Hend : Hid (unhexL (bl s) = none) := Lib.hid (unhex_stop (bl s) (k + 1) (by rw [Hl.out]; omega) (by rw [Htwo.out, hvx, hvy]; rfl))
            have Hvy := Lib.hid hvy
            clear hvx hvy Htwo
            go_wp2_with fail
            refine (value_some x a _ Hvx.out).mono ?_
            rintro e w2 ⟨rfl, rfl⟩
            go_wp2_with fail
            refine (value_none y _ Hvy.out).mono ?_
            rintro e w2 ⟨rfl, rfl⟩
            go_wp2
            go_ret2
            exact ⟨by rw [Hend.out, ← bs_nil]; rfl, Hb.out⟩
          | some b =>
            have Hvy := Lib.hid hvy
            have ha := (val_dig x a hvx).1
            have hb := (val_dig y b hvy).1
            have hor := two_digits a b ha hb
            have Hnext : Hid (unhexL ((bl s).take (2 * (k + 1))) = some (o ++ [UInt8.ofNat (a.toNat * 16 + b.toNat)])) := Lib.hid (by rw [Htwo.out, hvx, hvy]; rfl)
            clear hvx hvy Htwo
            generalize UInt8.ofNat (a.toNat * 16 + b.toNat) = c at *
            have hcell2 : ∀ W : World, Hid (∀ j u, (byC [c])[j]? = some u → (W.alloc (.cells #[.int .u8 (c.toNat : Int)] 5)).cell? ((⟨W.heap.size, 0, none⟩ : Addr).add j) = some u) := fun W => Lib.hid (fun j u hu => by
              rw [add_off]
              rw [byC_eq] at hu
              exact Holds.cell (Holds.new W 5 _) hu)
            have Hcell2 := Lib.hid hcell2
            have Hone : Hid (∀ u ∈ byC [c], u.oneCell' = true) := Lib.hid (byC_one _)
            have Hm1 : Hid (o.length + 1 ≤ maxLen) := Lib.hid (by rw [Hol.out]; unfold maxLen; omega)
            have Hm2 : Hid ((o.length + 1) * 1 ≤ 140737488355328) := Lib.hid (by rw [Hol.out]; omega)
            have Hn2 : Hid ((byC [c]).length = 1 * 1) := Lib.hid (by rw [byC_length]; rfl)
            have Hsz : Hid (w.heap.size ≤ wr.heap.size) := Lib.hid Hb.out.size
            clear hcell2
            go_wp2_with fail
            refine (value_some x a _ Hvx.out).mono ?_
            rintro e w2 ⟨rfl, rfl⟩
            go_wp2_with fail
            refine (value_some y b _ Hvy.out).mono ?_
            rintro e w2 ⟨rfl, rfl⟩
            go_wp2_with (at_builtin; go_loud (refine wpList_append_lies _ rfl (.tmp 45) (.tmp 50) 37 rfl w.heap.size 5 i0 _ 1 1 Tryd.underlying37 hi0 hz0 hz1 hz2 rfl (by omega) u4 _ _ rfl (Hk.out.alloc _) ⟨wr.heap.size, 0, none⟩ 1 _ (byC [c]) rfl Hn2.out (Hcell2.out _).out Hone.out (by omega) Hm1.out Hm2.out (Nat.le_trans Hsz.out (by simp)) _ rfl ?_); intro g cap w2 hown2 hgrow hor2 hg2)
            have Hb2 : Hid (Below w.heap.size w w2) := Lib.hid ((Hb.out.alloc Hsz.out _).grown hgrow (Nat.le_trans Hsz.out (by simp)) (fun j hj => (Hk.out.lt j hj).1))
            have Hown2 : Hid (OwnB w2 w.heap.size (.slice (some ⟨g, 0, none⟩) (o.length + 1) cap) (o ++ [c])) := Lib.hid (by
              unfold OwnB
              rw [byC_append, List.length_append]
              exact hown2)
            clear hown2 hgrow hor2 hg2
            go_wp2
            go_roundw
            case rel => exact ⟨k + 1, o ++ [c], by omega, by go_num, Hnext.out, Hown2.out, by rw [List.length_append, Hol.out]; rfl, Hb2.out⟩
            case measure => simp [intOf]; omega
      · have hall : unhexL (bl s) = some o := by
          have := Hun.out
          rwa [List.take_of_length_le (by rw [Hl.out]; omega)] at this
        have Hend : Hid (Unhexed w (unhexL (bl s)) (.returned (.tuple #[.string (bs o), .bool true])) wr) := Lib.hid ⟨by rw [hall]; rfl, Hb.out⟩
        have hcv := conv_own Hk.out
        clear hall
        go_wp2
        go_ret2
        exact Hend.out
end Go.Proofs.YtemiphbblaikjaaDoor
