/-
  The program's own Inside and Key.
-/
import Derived.Test.YtfjgikcbngfhmaaGA
namespace Go.Proofs.Ytfjgikcbngfhmaa
open Go.RowKit

theorem le_raw (a k : List UInt8) : (Op.bytesLess (bs a).toList (bs k).toList || (bs a).toList == (bs k).toList) = !ltL k a := by
  rw [less_bs, bs_toList, bs_toList, ltL_flip k a]
  cases h : ltL a k with
  | true => simp
  | false =>
    by_cases e : a = k
    · subst e; simp
    · simp

/-- Inside, in the program's own words. -/
def insL (a b : Sp) : Bool := (validL a && validL b) && (!(ltL a.1 b.1) && !(soonL b.2 a.2))
theorem insL_eq (a b : Sp) : insL a b = (validL b && coversL [b] a) := by
  unfold insL
  cases hb : validL b with
  | false => simp
  | true =>
    rw [Bool.eq_iff_iff, Bool.true_and, inside_iff a b hb]
    unfold soonL
    cases ha : validL a with
    | false => simp
    | true =>
      simp only [Bool.and_true, Bool.true_and, Bool.and_eq_true, Bool.not_eq_true', true_and]
      cases h1 : ltL a.1 b.1 with
      | true => simp
      | false =>
        by_cases e1 : b.2 = []
        · simp [e1]
        · by_cases e2 : a.2 = []
          · simp [e1, e2]
          · cases h2 : ltL b.2 a.2 <;> simp [e1, e2]
attribute [irreducible] insL

theorem insL_of (a b : Sp) (x y z u : Bool) (ha : validL a = x) (hb : validL b = y) (hz : (Op.bytesLess (bs b.1).toList (bs a.1).toList || (bs b.1).toList == (bs a.1).toList) = z) (hu : soonL b.2 a.2 = u) : insL a b = (x && y && z && !u) := by
  unfold insL
  rw [ha, hb, hu, ← hz, le_raw, Bool.and_assoc]
  simp [Bool.and_assoc]

/-- Two blocks more. -/
theorem below_two (w : World) (o o2 : Obj) : Below w.heap.size w ((w.alloc o).alloc o2) :=
  ((Below.refl _ w).alloc (Nat.le_refl _) o).alloc (by simp) o2

set_option maxRecDepth 100000 in
set_option maxHeartbeats 2000000 in
theorem inside_any (a b : Sp) (w : World) : Calls Try.prog 18 #[spV a, spV b] w fun e w' => e = .returned (.bool (insL a b)) ∧ Below w.heap.size w w' := by
  have HA := Lib.hid (fun W => right_any a W)
  have HB := Lib.hid (fun W => right_any b W)
  have HO := Lib.hid (fun W => sooner_any b.2 a.2 W)
  have HV := Lib.hid (insL_of a b)
  generalize insL a b = r at HV ⊢
  obtain ⟨a1, a2⟩ := a
  obtain ⟨b1, b2⟩ := b
  unfold spV at HA HB ⊢
  have HW := Lib.hid (below_two w (.cells #[.string (bs a1), .string (bs a2)] 23) (.cells #[.string (bs b1), .string (bs b2)] 23))
  have hc0 : ∀ w1 : World, Below (w.heap.size + 2) ((w.alloc (.cells #[.string (bs a1), .string (bs a2)] 23)).alloc (.cells #[.string (bs b1), .string (bs b2)] 23)) w1 →
      w1.cell? ⟨w.heap.size, 0, none⟩ = some (.string (bs a1)) ∧ w1.cell? ⟨w.heap.size, 1, none⟩ = some (.string (bs a2)) ∧ w1.cell? ⟨w.heap.size + 1, 0, none⟩ = some (.string (bs b1)) ∧ w1.cell? ⟨w.heap.size + 1, 1, none⟩ = some (.string (bs b2)) := by
    intro w1 h
    refine ⟨?_, ?_, ?_, ?_⟩
    · rw [h.cell (by simp)]; simp
    · rw [h.cell (by simp)]; simp
    · rw [h.cell (by simp)]; simp
    · rw [h.cell (by simp)]; simp
  have HC := Lib.hid hc0
  clear hc0
  cases hva : validL (a1, a2) with
  | false =>
    have Hr : Hid (r = false) := Lib.hid (by rw [HV.out _ _ _ _ hva rfl rfl rfl]; simp)
    rw [hva] at HA
    go_enter Try.func18, Try.ntmps18
    go_wp2_with (go_at_call 12; refine (HA.out _).mono ?_; rintro e w1 ⟨rfl, hb1⟩)
    go_ret
    exact ⟨by rw [Hr.out]; rfl, HW.out.trans (hb1.mono HW.out.size)⟩
  | true =>
    rw [hva] at HA
    cases hvb : validL (b1, b2) with
    | false =>
      have Hr : Hid (r = false) := Lib.hid (by rw [HV.out _ _ _ _ hva hvb rfl rfl]; simp)
      rw [hvb] at HB
      go_enter Try.func18, Try.ntmps18
      go_wp2_with fail
      refine (HA.out _).mono ?_
      rintro e w1 ⟨rfl, hb1⟩
      obtain ⟨c1, c2, c3, c4⟩ := HC.out w1 (by simpa using hb1)
      have Hb1 := Lib.hid (HW.out.trans (hb1.mono HW.out.size))
      clear hb1
      go_wp2_with (go_at_call 12; refine (HB.out _).mono ?_; rintro e w2 ⟨rfl, hb2⟩)
      go_ret
      exact ⟨by rw [Hr.out]; rfl, Hb1.out.trans (hb2.mono Hb1.out.size)⟩
    | true =>
      rw [hvb] at HB
      have HR := Lib.hid (fun z u hz hu => HV.out true true z u hva hvb hz hu)
      cases hz : (Op.bytesLess (bs b1).toList (bs a1).toList || (bs b1).toList == (bs a1).toList) with
      | false =>
        have Hr : Hid (r = false) := Lib.hid (by rw [HR.out _ _ hz rfl]; simp)
        have hz1 : Op.bytesLess (bs b1).toList (bs a1).toList = false := (Bool.or_eq_false_iff.1 hz).1
        have hz2 : ((bs b1).toList == (bs a1).toList) = false := (Bool.or_eq_false_iff.1 hz).2
        clear hz
        go_enter Try.func18, Try.ntmps18
        go_wp2_with fail
        refine (HA.out _).mono ?_
        rintro e w1 ⟨rfl, hb1⟩
        obtain ⟨c1, c2, c3, c4⟩ := HC.out w1 (by simpa using hb1)
        have Hb1 := Lib.hid (HW.out.trans (hb1.mono HW.out.size))
        have Hk1 := Lib.hid hb1
        clear hb1
        go_wp2_with fail
        refine (HB.out _).mono ?_
        rintro e w2 ⟨rfl, hb2⟩
        obtain ⟨d1, d2, d3, d4⟩ := HC.out w2 ((by simpa using Hk1.out : Below (w.heap.size + 2) _ w1).trans (hb2.mono (by have := Hk1.out.size; simpa using this)))
        have Hb2 := Lib.hid (Hb1.out.trans (hb2.mono Hb1.out.size))
        clear hb2 c1 c2 c3 c4
        go_wp2
        go_ret
        exact ⟨by rw [Hr.out]; rfl, Hb2.out⟩
      | true =>
        have Hr := Lib.hid (HR.out true (soonL b2 a2) hz rfl)
        have hz' : Hid (Op.bytesLess (bs b1).toList (bs a1).toList = true ∨ (Op.bytesLess (bs b1).toList (bs a1).toList = false ∧ ((bs b1).toList == (bs a1).toList) = true)) := Lib.hid (by
          cases h : Op.bytesLess (bs b1).toList (bs a1).toList with
          | true => exact .inl rfl
          | false => rw [h, Bool.false_or] at hz; exact .inr ⟨rfl, hz⟩)
        clear hz
        have HO' : Hid (∀ W, Calls Try.prog 28 #[.string (bs b2), .string (bs a2)] W fun e w' => e = .returned (.bool (soonL b2 a2)) ∧ w' = W) := HO
        generalize soonL b2 a2 = v at Hr HO'
        clear HO
        go_enter Try.func18, Try.ntmps18
        go_wp2_with fail
        refine (HA.out _).mono ?_
        rintro e w1 ⟨rfl, hb1⟩
        obtain ⟨c1, c2, c3, c4⟩ := HC.out w1 (by simpa using hb1)
        have Hb1 := Lib.hid (HW.out.trans (hb1.mono HW.out.size))
        have Hk1 := Lib.hid hb1
        clear hb1
        go_wp2_with fail
        refine (HB.out _).mono ?_
        rintro e w2 ⟨rfl, hb2⟩
        obtain ⟨d1, d2, d3, d4⟩ := HC.out w2 ((by simpa using Hk1.out : Below (w.heap.size + 2) _ w1).trans (hb2.mono (by have := Hk1.out.size; simpa using this)))
        have Hb2 := Lib.hid (Hb1.out.trans (hb2.mono Hb1.out.size))
        clear hb2 c1 c2 c3 c4
        rcases hz'.out with h | ⟨h, h'⟩
        · go_wp2_with (go_at_call 28; refine (HO'.out _).mono ?_; rintro e w3 ⟨rfl, rfl⟩)
          go_ret
          exact ⟨by rw [Hr.out]; simp, Hb2.out⟩
        · go_wp2_with (go_at_call 28; refine (HO'.out _).mono ?_; rintro e w3 ⟨rfl, rfl⟩)
          go_ret
          exact ⟨by rw [Hr.out]; simp, Hb2.out⟩

set_option maxRecDepth 100000 in
set_option maxHeartbeats 1000000 in
theorem key_any (k : List UInt8) (w : World) (hk : k.length ≤ 1000) : Calls Try.prog 17 #[.string (bs k)] w fun e w' => e = .returned (spV (k, k ++ [0])) ∧ Below w.heap.size w w' := by
  have hs : (bs k).size = k.length := bs_size k
  have h0 : bs [0] = ({ data := #[0] } : ByteArray) := by rw [bs_eq]
  have Hj := Lib.hid (show bs (k ++ [0]) = bs k ++ ({ data := #[0] } : ByteArray) by rw [← bs_append, h0])
  have h1 : ({ data := #[0] } : ByteArray).size = 1 := rfl
  unfold spV
  generalize bs (k ++ [0]) = r at Hj ⊢
  go_enter Try.func17, Try.ntmps17
  go_wp2
  refine bodyPost_ret (v := .agg #[.string (bs k), .string (bs k ++ ({ data := #[0] } : ByteArray))]) (by simp [results, Try.results17, go_sem]) rfl ⟨by rw [Hj.out], ?_⟩
  exact (Below.refl _ _).alloc (Nat.le_refl _) _
end Go.Proofs.Ytfjgikcbngfhmaa
