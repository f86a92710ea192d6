/-
  The library's table; a snapshot as a value; the contracts of shot.inRange, valid, fileOf, and of the reference's Right.
-/
import Derived.Test.YtmgbmphheagdmaaGreatDoorOF
import Derived.Test.YtmgbmphheagdmaaGreatDoorKF
namespace Go.Proofs.YtmgbmphheagdmaaGreatDoor
open Go.RowKit Go.Shelf

/-- The library's table of powers of ten, as its text lays it. -/
def Tab (w : World) : Prop := Lib.TabIs Tryz.prog w "internal/strconv.uint64pow10" .u64 Lib.pow10Tab
/-- .. whatever is done from block B on. -/
def TabB (B : Nat) (w : World) : Prop := Lib.TabBelow Tryz.prog B w "internal/strconv.uint64pow10" .u64 Lib.pow10Tab
theorem TabB.here {B : Nat} {w : World} (h : TabB B w) : Tab w := Lib.TabBelow.here h
theorem TabB.on {B : Nat} {w w' : World} (h : TabB B w) (hb : Below B w w') : TabB B w' := Lib.TabBelow.on h hb
theorem TabB.of {w : World} (h : Tab w) : TabB w.heap.size w := Lib.tabBelow_of_tabIs h
theorem TabB.at {w w' : World} (h : Tab w) (hb : Below w.heap.size w w') : Tab w' := ((TabB.of h).on hb).here
/-- .. whatever is done with the blocks F, and with new ones. -/
def TabF (F : Nat → Prop) (w : World) : Prop := ∃ B, B ≤ w.heap.size ∧ TabB B w ∧ ∀ k, F k → B ≤ k
theorem below_mono' {B C : Nat} {w w' : World} (h : Below C w w') (hB : B ≤ C) : Below B w w' := ⟨h.os, h.tape, h.output, h.size, fun k hk => h.block k (by omega)⟩
theorem TabF.here {F : Nat → Prop} {w : World} (h : TabF F w) : Tab w := by obtain ⟨B, _, h2, _⟩ := h; exact h2.here
theorem TabF.only {F F' : Nat → Prop} {w w' : World} (h : TabF F w) (ho : Only F w w') (hg : ∀ k, F' k → F k ∨ w.heap.size ≤ k) : TabF F' w' := by
  obtain ⟨B, h1, h2, h3⟩ := h
  exact ⟨B, Nat.le_trans h1 ho.size, h2.on (ho.below h1 h3), fun k hk => (hg k hk).elim (h3 k) (fun h => Nat.le_trans h1 h)⟩
theorem TabF.below {F : Nat → Prop} {w w' : World} (h : TabF F w) (hb : Below w.heap.size w w') : TabF F w' := by
  obtain ⟨B, h1, h2, h3⟩ := h
  exact ⟨B, Nat.le_trans h1 hb.size, h2.on (below_mono' hb h1), h3⟩
theorem TabF.less {F F' : Nat → Prop} {w : World} (h : TabF F w) (hg : ∀ k, F' k → F k) : TabF F' w := by
  obtain ⟨B, h1, h2, h3⟩ := h
  exact ⟨B, h1, h2, fun k hk => h3 k (hg k hk)⟩

theorem digs_snoc : ∀ k n, digsL (k + 1) n = digsL k (n / 10) ++ [UInt8.ofNat (48 + n % 10)]
  | 0, n => by simp [digsL]
  | k + 1, n => by
    rw [digsL, digs_snoc k n, digsL]
    have e : n / 10 / 10 ^ k = n / 10 ^ (k + 1) := by rw [Nat.div_div_eq_div_mul, Nat.pow_succ, Nat.mul_comm]
    rw [e]
    rfl
theorem digs_zero : ∀ k, digsL k 0 = List.replicate k 48
  | 0 => rfl
  | k + 1 => by rw [digsL, digs_zero k, List.replicate_succ]; simp
theorem digs_dec : ∀ k n, 1 ≤ k → n < 10 ^ k → (Lib.decDigits n).length ≤ k ∧ digsL k n = List.replicate (k - (Lib.decDigits n).length) 48 ++ Lib.decDigits n
  | 0, _, h, _ => by omega
  | k + 1, n, _, h => by
    by_cases h10 : n < 10
    · rw [Lib.decDigits, dif_pos h10, digs_snoc, show n / 10 = 0 by omega, digs_zero, show n % 10 = n by omega]
      exact ⟨by simp, by simp⟩
    · have h1 : 1 ≤ k := by
        rcases Nat.eq_zero_or_pos k with rfl | h1
        · simp at h; omega
        · exact h1
      obtain ⟨a, b⟩ := digs_dec k (n / 10) h1 (by rw [Nat.pow_succ] at h; omega)
      rw [Lib.decDigits, dif_neg h10, digs_snoc, b, List.length_append, List.append_assoc]
      refine ⟨by simp; omega, ?_⟩
      simp
theorem shotL_eq {n : Nat} (h : n < 10000000000000) : (Lib.decDigits n).length ≤ 13 ∧ shotL n = [115] ++ (List.replicate (13 - (Lib.decDigits n).length) 48 ++ Lib.decDigits n) := by
  obtain ⟨a, b⟩ := digs_dec 13 n (by decide) (by omega)
  exact ⟨a, by rw [shotL, b]; rfl⟩

theorem itoa_any (n : Nat) (w : World) (hn : n ≤ 9223372036854775807) (ht : Tab w) :
    Calls Tryz.prog 58 #[.int .i64 (n : Int)] w fun e w' => e = .returned (.string (bs (Lib.decDigits n))) ∧ Below w.heap.size w w' :=
  (Any.strconv_Itoa itoaLays (n : Int) (by omega) (by omega) w ht).mono fun e w' ⟨he, k, os, hw⟩ => ⟨by
    rw [he, bs_eq, Lib.itoa, if_neg (by omega)]; rfl, by rw [hw]; exact Lib.below_grow _ _ (Nat.le_refl _) _ _⟩
theorem repeat_any (c : Nat) (w : World) (hc : c ≤ 13) : Calls Tryz.prog 59 #[.string { data := #[48] }, .int .i64 (c : Int)] w fun e w' => e = .returned (.string (bs (List.replicate c 48))) ∧ Below w.heap.size w w' :=
  (Any.strings_Repeat repeatLays extraL { data := #[48] } c w (by omega) (by show 1 * c ≤ _; omega)).mono fun e w' ⟨he, hb⟩ => ⟨by
    rw [he, bs_eq]
    congr 3
    have := Lib.repeatL_replicate 48 1 c
    rw [Nat.mul_one] at this
    rw [← this]
    rfl, hb⟩

/-- A snapshot as a value. -/
def snapV (s : Sh) : Value := .agg #[.int .i64 s.i, .int .i64 s.t, .string (bs s.d)]
def snapC (s : Sh) : List Value := [.int .i64 s.i, .int .i64 s.t, .string (bs s.d)]
/-- A snapshot without anything. -/
def noS : Sh := ⟨0, 0, []⟩

set_option maxRecDepth 100000 in
set_option maxHeartbeats 2000000 in
/-- The name of a snapshot's file. -/
theorem fileOf_any (s : Sh) (w : World) (hs : okS s) (ht : Tab w) :
    Calls Tryz.prog 32 #[snapV s] w fun e w' => e = .returned (.string (bs (shotL s.i.toNat))) ∧ Below w.heap.size w w' := by
  obtain ⟨hl, hf⟩ := shotL_eq (okS_lt hs)
  obtain ⟨f, hff⟩ : ∃ f, f = bs (shotL s.i.toNat) := ⟨_, rfl⟩
  rw [← hff]
  rw [hf] at hff
  obtain ⟨n, hn⟩ : ∃ n : Nat, s.i = n := ⟨s.i.toNat, by have := hs.1; omega⟩
  have hnt : s.i.toNat = n := by rw [hn]; rfl
  rw [hnt] at hl hff
  have hn13 : n ≤ 9223372036854775807 := by have := hs.2.1; omega
  have HI := Lib.hid (fun (W : World) (hb : Below w.heap.size w W) => itoa_any n W hn13 (TabB.at ht hb))
  have hss : (bs (Lib.decDigits n)).size = (Lib.decDigits n).length := bs_size _
  have HR := Lib.hid (fun (W : World) => repeat_any (13 - (Lib.decDigits n).length) W (by omega))
  have hs2 : (bs (List.replicate (13 - (Lib.decDigits n).length) (48 : UInt8))).size = 13 - (Lib.decDigits n).length := by rw [bs_size]; simp
  have He : Hid (f = ({ data := #[115] } : ByteArray) ++ bs (List.replicate (13 - (Lib.decDigits n).length) 48) ++ bs (Lib.decDigits n)) := Lib.hid (by
    rw [hff, ← List.append_assoc, ← bs_append, ← bs_append]
    congr 2
    rw [bs_eq])
  clear hf hff ht hnt hs hn13
  unfold snapV
  rw [hn]
  generalize (Lib.decDigits n).length = k at *
  generalize bs (Lib.decDigits n) = d at *
  obtain ⟨q, hq⟩ : ∃ q, q = 13 - k := ⟨_, rfl⟩
  have hqk : (13 : Int) - (k : Int) = (q : Int) := by omega
  rw [← hq] at HR hs2 He
  clear hq hn
  generalize bs (List.replicate q 48) = r at *
  go_enter Tryz.func32, Tryz.ntmps32
  go_wp2_with (go_at_call 58; refine (HI.out _ ((Below.refl _ _).alloc (Nat.le_refl _) _)).mono ?_; rintro e w1 ⟨rfl, hb1⟩; have B1 : Hid (Below w.heap.size w w1) := Lib.hid (((Below.refl w.heap.size w).alloc (Nat.le_refl _) _).trans (below_mono' hb1 (by simp))); clear hb1)
  go_wp2_with (go_at_call 59; refine (HR.out _).mono ?_; rintro e w2 ⟨rfl, hb2⟩; have B2 := Lib.hid (B1.out.trans (below_mono' hb2 B1.out.size)); clear hb2)
  go_ret
  exact ⟨by rw [He.out]; rfl, B2.out⟩

def inB40 (n : Int) : Bool := decide (0 ≤ n) && decide (n ≤ 1099511627776)
set_option maxRecDepth 100000 in
theorem inRange_any (n : Int) (w : World) : Calls Tryz.prog 57 #[.int .i64 n] w fun e w' => e = .returned (.bool (inB40 n)) ∧ w' = w := by
  by_cases h0 : 0 ≤ n
  · by_cases h1 : n ≤ 1099511627776
    · have H : Hid (inB40 n = true) := Lib.hid (by unfold inB40; simp [h0, h1])
      go_enter Tryz.func57, Tryz.ntmps57
      go_wp2
      go_ret
      exact ⟨by rw [H.out]; rfl, rfl⟩
    · have H : Hid (inB40 n = false) := Lib.hid (by unfold inB40; simp [h0, h1])
      go_enter Tryz.func57, Tryz.ntmps57
      go_wp2
      go_ret
      exact ⟨by rw [H.out]; rfl, rfl⟩
  · have H : Hid (inB40 n = false) := Lib.hid (by unfold inB40; simp [h0])
    go_enter Tryz.func57, Tryz.ntmps57
    go_wp2
    go_ret
    exact ⟨by rw [H.out]; rfl, rfl⟩
theorem inB40_iff (n : Int) : inB40 n = true ↔ 0 ≤ n ∧ n ≤ 1099511627776 := by unfold inB40; simp
theorem okS_dec (s : Sh) : decide (okS s) = (inB40 s.i && (inB40 s.t && decide ((s.d.length : Int) ≤ 1048576))) := by
  rw [Bool.eq_iff_iff]
  simp only [decide_eq_true_eq, Bool.and_eq_true, inB40_iff]
  unfold okS
  omega

set_option maxRecDepth 100000 in
set_option maxHeartbeats 4000000 in
theorem valid_any (s : Sh) (w : World) (hl : s.d.length ≤ 9223372036854775807) : Calls Tryz.prog 31 #[snapV s] w fun e w' => e = .returned (.bool (decide (okS s))) ∧ Below w.heap.size w w' := by
  have hbs : (bs s.d).size = s.d.length := bs_size _
  unfold snapV
  have HA := Lib.hid (fun (W : World) => inRange_any s.i W)
  have HB := Lib.hid (fun (W : World) => inRange_any s.t W)
  have hdec := okS_dec s
  obtain ⟨b1, hb1⟩ : ∃ b, b = inB40 s.i := ⟨_, rfl⟩
  obtain ⟨b2, hb2⟩ : ∃ b, b = inB40 s.t := ⟨_, rfl⟩
  rw [← hb1] at HA hdec
  rw [← hb2] at HB hdec
  have Hdec := Lib.hid hdec
  clear hdec hb1 hb2
  generalize decide (okS s) = q at *
  by_cases hlen : (s.d.length : Int) ≤ 1048576
  all_goals first | rw [decide_eq_true hlen] at Hdec | rw [decide_eq_false hlen] at Hdec
  all_goals
    obtain ⟨a, b, t⟩ := s
    simp only at *
    generalize bs t = u at *
    cases b1 <;> cases b2
    all_goals
      have Hq : Hid (q = _) := Lib.hid Hdec.out
      clear Hdec
      go_enter Tryz.func31, Tryz.ntmps31
      go_wp2_with (go_at_call 57; first | (with_reducible refine (HA.out _).mono ?_; rintro e w' ⟨rfl, rfl⟩) | (with_reducible refine (HB.out _).mono ?_; rintro e w' ⟨rfl, rfl⟩))
      go_ret
      exact ⟨by rw [Hq.out]; first | rfl | exact congrArg (fun b => Ending.returned (.bool b)) (decide_eq_false (by omega)) | exact congrArg (fun b => Ending.returned (.bool b)) (decide_eq_true (by omega)), (Below.refl _ _).alloc (Nat.le_refl _) _⟩

set_option maxRecDepth 100000 in
set_option maxHeartbeats 4000000 in
/-- The reference's Right. -/
theorem refRight_any (s : Sh) (w : World) (hl : s.d.length ≤ 9223372036854775807) : Calls Tryz.prog 29 #[snapV s] w fun e w' => e = .returned (.bool (decide (okS s))) ∧ Below w.heap.size w w' := by
  have hbs : (bs s.d).size = s.d.length := bs_size _
  unfold snapV
  have Hdec := Lib.hid (okS_dec s)
  generalize decide (okS s) = q at *
  obtain ⟨a, b, t⟩ := s
  simp only at *
  by_cases h1 : 0 ≤ a
  · by_cases h2 : a ≤ 1099511627776
    · by_cases h3 : 0 ≤ b
      · by_cases h4 : b ≤ 1099511627776
        · by_cases h5 : (t.length : Int) ≤ 1048576
          · have Hq : Hid (q = true) := Lib.hid (by rw [Hdec.out]; unfold inB40; simp [h1, h2, h3, h4]; omega)
            clear Hdec
            generalize bs t = u at *
            go_enter Tryz.func29, Tryz.ntmps29
            go_wp2
            go_ret
            exact ⟨by rw [Hq.out]; first | rfl | exact congrArg (fun b => Ending.returned (.bool b)) (decide_eq_true (by omega)), (Below.refl _ _).alloc (Nat.le_refl _) _⟩
          · have Hq : Hid (q = false) := Lib.hid (by rw [Hdec.out]; unfold inB40; simp [h1, h2, h3, h4]; omega)
            clear Hdec
            generalize bs t = u at *
            go_enter Tryz.func29, Tryz.ntmps29
            go_wp2
            go_ret
            exact ⟨by rw [Hq.out]; first | rfl | exact congrArg (fun b => Ending.returned (.bool b)) (decide_eq_false (by omega)), (Below.refl _ _).alloc (Nat.le_refl _) _⟩
        · have Hq : Hid (q = false) := Lib.hid (by rw [Hdec.out]; unfold inB40; simp [h4])
          clear Hdec
          generalize bs t = u at *
          go_enter Tryz.func29, Tryz.ntmps29
          go_wp2
          go_ret
          exact ⟨by rw [Hq.out]; rfl, (Below.refl _ _).alloc (Nat.le_refl _) _⟩
      · have Hq : Hid (q = false) := Lib.hid (by rw [Hdec.out]; unfold inB40; simp [h3])
        clear Hdec
        generalize bs t = u at *
        go_enter Tryz.func29, Tryz.ntmps29
        go_wp2
        go_ret
        exact ⟨by rw [Hq.out]; rfl, (Below.refl _ _).alloc (Nat.le_refl _) _⟩
    · have Hq : Hid (q = false) := Lib.hid (by rw [Hdec.out]; unfold inB40; simp [h2])
      clear Hdec
      generalize bs t = u at *
      go_enter Tryz.func29, Tryz.ntmps29
      go_wp2
      go_ret
      exact ⟨by rw [Hq.out]; rfl, (Below.refl _ _).alloc (Nat.le_refl _) _⟩
  · have Hq : Hid (q = false) := Lib.hid (by rw [Hdec.out]; unfold inB40; simp [h1])
    clear Hdec
    generalize bs t = u at *
    go_enter Tryz.func29, Tryz.ntmps29
    go_wp2
    go_ret
    exact ⟨by rw [Hq.out]; rfl, (Below.refl _ _).alloc (Nat.le_refl _) _⟩
end Go.Proofs.YtmgbmphheagdmaaGreatDoor
