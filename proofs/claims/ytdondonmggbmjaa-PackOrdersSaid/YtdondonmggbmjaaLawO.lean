/-
  The law PackOrders walked.
-/
import Derived.Test.YtdondonmggbmjaaLawN
import Derived.Test.YtdondonmggbmjaaTame
namespace Go.Proofs.Ytdondonmggbmjaa
open Go.RowKit

theorem valL_app (l m : List UInt8) : valL (l ++ m) = valL l * 256 ^ m.length + valL m := by
  induction m using snoc_ind with
  | h0 => simp [valL_nil]
  | h1 m b ih =>
    rw [← List.append_assoc, valL_snoc, ih, valL_snoc, List.length_append, List.length_singleton, Nat.pow_succ, Nat.add_mul, Nat.mul_assoc]; omega
theorem valL_cons (x : UInt8) (l : List UInt8) : valL (x :: l) = x.toNat * 256 ^ l.length + valL l := by
  have := valL_app [x] l
  have e : valL [x] = x.toNat := by simp [valL]
  rw [e] at this
  exact this
theorem bytesLess_same : ∀ (l m : List UInt8), l.length = m.length → Op.bytesLess l m = decide (valL l < valL m)
  | [], [], _ => by simp [Op.bytesLess]
  | x :: l, y :: m, h => by
    have hl : l.length = m.length := by simpa using h
    have ih := bytesLess_same l m hl
    have h1 := valL_lt l
    have h2 := valL_lt m
    rw [valL_cons, valL_cons, hl]
    rw [hl] at h1
    unfold Op.bytesLess
    rw [ih]
    generalize 256 ^ m.length = P at *
    have hxy : (x == y) = decide (x.toNat = y.toNat) := by
      by_cases e : x = y
      · subst e; simp
      · have : x.toNat ≠ y.toNat := fun h => e (UInt8.toNat_inj.1 h)
        simp [e, this]
    have hlt : (decide (x < y)) = decide (x.toNat < y.toNat) := by
      simp [UInt8.lt_iff_toNat_lt]
    rw [hxy, hlt]
    rcases Nat.lt_trichotomy x.toNat y.toNat with hc | hc | hc
    · have : x.toNat * P + valL l < y.toNat * P + valL m := by
        have : (x.toNat + 1) * P ≤ y.toNat * P := Nat.mul_le_mul_right P hc
        rw [Nat.add_mul] at this
        omega
      simp [hc, this]
    · rw [hc]; simp
    · have : ¬ x.toNat * P + valL l < y.toNat * P + valL m := by
        have : (y.toNat + 1) * P ≤ x.toNat * P := Nat.mul_le_mul_right P hc
        rw [Nat.add_mul] at this
        omega
      simp [this]
      omega
theorem beL_mono (a b : Nat) (h : a ≤ b) : (beL a).length ≤ (beL b).length := by
  refine beL_length_le _ _ (Nat.lt_of_le_of_lt h ?_)
  have := valL_lt (beL b)
  rw [valL_beL] at this
  exact this
theorem encL_less (a b : Nat) (ha : a < 18446744073709551616) (hb : b < 18446744073709551616) : Op.bytesLess (encL a) (encL b) = decide (a < b) := by
  have la := beL_len8 a ha
  have lb := beL_len8 b hb
  unfold encL Op.bytesLess
  have na : (UInt8.ofNat (beL a).length).toNat = (beL a).length := by rw [UInt8.toNat_ofNat']; omega
  have nb : (UInt8.ofNat (beL b).length).toNat = (beL b).length := by rw [UInt8.toNat_ofNat']; omega
  have hxy : (UInt8.ofNat (beL a).length == UInt8.ofNat (beL b).length) = decide ((beL a).length = (beL b).length) := by
    by_cases e : (beL a).length = (beL b).length
    · rw [e]; simp
    · have : UInt8.ofNat (beL a).length ≠ UInt8.ofNat (beL b).length := fun h => e (by rw [← na, ← nb, h])
      simp [e, this]
  have hlt : (decide (UInt8.ofNat (beL a).length < UInt8.ofNat (beL b).length)) = decide ((beL a).length < (beL b).length) := by
    simp only [UInt8.lt_iff_toNat_lt, na, nb]
  rw [hxy, hlt]
  rcases Nat.lt_trichotomy (beL a).length (beL b).length with hc | hc | hc
  · have : a < b := by
      rcases Nat.lt_or_ge a b with h | h
      · exact h
      · have := beL_mono b a h; omega
    simp [hc, this]
  · rw [bytesLess_same _ _ hc, valL_beL, valL_beL, hc]; simp
  · have : ¬ a < b := fun h => by have := beL_mono a b (by omega); omega
    simp [this]
    omega
theorem encL_inj (a b : Nat) (h : encL a = encL b) : a = b := by
  unfold encL at h
  injection h with _ h
  rw [← valL_beL a, h, valL_beL]

/-- A number alone, put. -/
theorem put_one (a : Nat) (ha : a ≤ top) (W : World) (g : Nat) (h : Holds W g 49 [.int .i64 0, .int .i64 (a : Int), .string { data := #[] }, .bool false]) :
    Calls Try.prog 10 #[.slice (some ⟨g, 0, none⟩) 1 1] W fun e w' => e = .returned (.pointer (some ⟨W.heap.size, 0, none⟩)) ∧ WrM w' W.heap.size (encL a, 0) ∧ Below W.heap.size W w' := by
  have hr : IRow W (some ⟨g, 0, none⟩) [⟨0, a, { data := #[] }, false⟩] := irow_holds (rest := []) (by rw [itsC_cons, itsC_nil]; exact h)
  have := put_all [⟨0, a, { data := #[] }, false⟩] (some ⟨g, 0, none⟩) 1 1 W rfl hr (by
    intro x hx
    obtain rfl : x = ⟨0, a, { data := #[] }, false⟩ := by simpa using hx
    unfold top at ha
    exact ⟨by simp only; omega, by simp only; omega, Nat.zero_le _⟩) (by omega)
  have e : wrAll [⟨0, a, { data := #[] }, false⟩] = (encL a, 0) := by
    unfold top at ha
    have hb : (encL a).length ≤ 9 := by rw [encL_length]; have := beL_len8 a (by omega); omega
    simp only [wrAll, List.foldl_cons, List.foldl_nil, wrI]
    rw [if_neg (by omega), if_neg (by omega)]
    unfold wrN wrP
    rw [if_neg (by simp), if_neg (by omega), show ((a : Int)).toNat = a from rfl]
    rw [if_neg (by simp only [List.length_nil]; omega)]
    simp
  rw [e] at this
  exact this

set_option maxRecDepth 100000 in
set_option maxHeartbeats 2000000 in
theorem orders_any (a b : Int) (w : World) :
    Calls Try.prog 7 #[.int .i64 a, .int .i64 b] w (Laws w) := by
  by_cases hok : 0 ≤ a ∧ 0 ≤ b ∧ a ≤ 4611686018427387903 ∧ b ≤ 4611686018427387903
  · obtain ⟨h1, h2, h3, h4⟩ := hok
    obtain ⟨m, rfl⟩ : ∃ m : Nat, a = m := ⟨a.toNat, by omega⟩
    obtain ⟨n, rfl⟩ : ∃ n : Nat, b = n := ⟨b.toNat, by omega⟩
    have g1 : ¬ (m : Int) < 0 := by omega
    have g2 : ¬ (n : Int) < 0 := by omega
    have g3 : ¬ 4611686018427387903 < (m : Int) := by omega
    have g4 : ¬ 4611686018427387903 < (n : Int) := by omega
    have Hm : Hid (m ≤ top) := Lib.hid (by unfold top; omega)
    have Hn : Hid (n ≤ top) := Lib.hid (by unfold top; omega)
    go_enter Try.func7, Try.ntmps7
    go_wp2_with fail
    refine (awake_any w).mono ?_
    rintro e w1 ⟨rfl, hb1⟩
    have Hb1 := Lib.hid hb1
    clear hb1
    have hl : Op.bytesLess (bs (encL m)).toList (bs (encL n)).toList = decide ((m : Int) < (n : Int)) := by
      rw [bs_toList, bs_toList, encL_less m n (by omega) (by omega)]
      by_cases h : m < n
      · have h' : (m : Int) < n := by omega
        simp [h, h']
      · have h' : ¬ (m : Int) < n := by omega
        simp [h, h']
    have he : ((bs (encL m)).toList == (bs (encL n)).toList) = ((m : Int) == (n : Int)) := by
      rw [bs_toList, bs_toList]
      by_cases h : m = n
      · subst h; simp
      · have h1 : encL m ≠ encL n := fun e => h (encL_inj m n e)
        have h2 : (m : Int) ≠ n := by omega
        rw [beq_eq_false_iff_ne.2 h1, beq_eq_false_iff_ne.2 h2]
    go_wp2_with fail
    obtain ⟨w2, hw2⟩ : ∃ w2, w2 = w1.alloc (.cells #[.int .i64 0, .int .i64 (m : Int), .string { data := #[] }, .bool false] 49) := ⟨_, rfl⟩
    rw [← hw2]
    have H2 : Hid (Holds w2 w1.heap.size 49 [.int .i64 0, .int .i64 (m : Int), .string { data := #[] }, .bool false]) := Lib.hid (by rw [hw2]; exact Holds.new w1 49 _)
    have Hb2 : Hid (Below w.heap.size w w2) := Lib.hid (by rw [hw2]; exact Hb1.out.alloc Hb1.out.size _)
    clear hw2
    refine (put_one m Hm.out w2 _ H2.out).mono ?_
    rintro e w3 ⟨rfl, hw3, hb3⟩
    have Hw3 := Lib.hid hw3
    have Hb3 := Lib.hid (Hb2.out.trans (hb3.mono Hb2.out.size))
    clear hw3 hb3 H2
    go_wp2_with fail
    refine (wbytes_any _ _ _ Hw3.out).mono ?_
    rintro e w4 ⟨rfl, hw4, hb4⟩
    have Hb4 := Lib.hid (Hb3.out.trans (hb4.mono Hb3.out.size))
    clear hw4 hb4 Hw3
    go_wp2_with fail
    obtain ⟨w5, hw5⟩ : ∃ w5, w5 = w4.alloc (.cells #[.int .i64 0, .int .i64 (n : Int), .string { data := #[] }, .bool false] 49) := ⟨_, rfl⟩
    rw [← hw5]
    have H5 : Hid (Holds w5 w4.heap.size 49 [.int .i64 0, .int .i64 (n : Int), .string { data := #[] }, .bool false]) := Lib.hid (by rw [hw5]; exact Holds.new w4 49 _)
    have Hb5 : Hid (Below w.heap.size w w5) := Lib.hid (by rw [hw5]; exact Hb4.out.alloc Hb4.out.size _)
    clear hw5
    refine (put_one n Hn.out w5 _ H5.out).mono ?_
    rintro e w6 ⟨rfl, hw6, hb6⟩
    have Hw6 := Lib.hid hw6
    have Hb6 := Lib.hid (Hb5.out.trans (hb6.mono Hb5.out.size))
    clear hw6 hb6 H5
    go_wp2_with fail
    refine (wbytes_any _ _ _ Hw6.out).mono ?_
    rintro e w7 ⟨rfl, hw7, hb7⟩
    have Hb7 := Lib.hid (Hb6.out.trans (hb7.mono Hb6.out.size))
    clear hw7 hb7 Hw6
    simp only at *
    go_wp2
    go_ret
    exact ⟨rfl, Hb7.out⟩
  · by_cases h1 : a < 0
    · go_enter Try.func7, Try.ntmps7
      go_wp2_with (go_at_call 8; refine (awake_any w).mono ?_; rintro e w1 ⟨rfl, hb1⟩)
      go_ret
      exact ⟨rfl, hb1⟩
    · by_cases h2 : b < 0
      · go_enter Try.func7, Try.ntmps7
        go_wp2_with (go_at_call 8; refine (awake_any w).mono ?_; rintro e w1 ⟨rfl, hb1⟩)
        go_ret
        exact ⟨rfl, hb1⟩
      · by_cases h3 : 4611686018427387903 < a
        · go_enter Try.func7, Try.ntmps7
          go_wp2_with (go_at_call 8; refine (awake_any w).mono ?_; rintro e w1 ⟨rfl, hb1⟩)
          go_ret
          exact ⟨rfl, hb1⟩
        · have h4 : 4611686018427387903 < b := by omega
          go_enter Try.func7, Try.ntmps7
          go_wp2_with (go_at_call 8; refine (awake_any w).mono ?_; rintro e w1 ⟨rfl, hb1⟩)
          go_ret
          exact ⟨rfl, hb1⟩
end Go.Proofs.Ytdondonmggbmjaa
