/-
  The names of snapshots' files: the contracts of shot.named, of its closure in files, and of the reference's File and Named.
-/
import Derived.Test.YtmgbmphheagdmaaGreatDoorMA
import Derived.Test.YtmgbmphheagdmaaGreatDoorRC
import Derived.Test.YtmgbmphheagdmaaGreatDoorGA
namespace Go.Proofs.YtmgbmphheagdmaaGreatDoor
open Go.RowKit Go.Shelf

/-- May a byte stand at a place of such a name? -/
def okB (j c : Nat) : Prop := (j = 0 → c = 115) ∧ (j ≠ 0 → 48 ≤ c ∧ c ≤ 57)
instance (j c : Nat) : Decidable (okB j c) := by unfold okB; infer_instance
def FormP (l : List UInt8) (k : Nat) : Prop := ∀ j, j < k → okB j (byteN l j)
theorem form_iff (l : List UInt8) : FormS l ↔ l.length = 14 ∧ FormP l l.length := by
  unfold FormS
  constructor
  · rintro ⟨h1, h2, h3⟩
    refine ⟨h1, fun j hj => ?_⟩
    cases l with
    | nil => simp at h1
    | cons b l =>
      cases j with
      | zero =>
        injection h2 with h2
        subst h2
        exact ⟨fun _ => rfl, fun h => absurd rfl h⟩
      | succ j =>
        have hj' : j < l.length := by simpa using hj
        have := h3 (l[j]) (by simp)
        have e : byteN (b :: l) (j + 1) = (l[j]).toNat := by unfold byteN; rw [List.getD_cons_succ, List.getD_eq_getElem?_getD, List.getElem?_eq_getElem hj']; rfl
        rw [e]
        exact ⟨fun h => absurd h (Nat.succ_ne_zero _), fun _ => this⟩
  · rintro ⟨h1, h2⟩
    refine ⟨h1, ?_, ?_⟩
    · cases l with
      | nil => simp at h1
      | cons b l =>
        have := (h2 0 (by simp)).1 rfl
        have e : b.toNat = 115 := this
        have : b = 115 := UInt8.toNat_inj.1 e
        rw [this]; rfl
    · intro b hb
      cases l with
      | nil => simp at h1
      | cons a l =>
        obtain ⟨j, hj, rfl⟩ := List.mem_iff_getElem.1 (show b ∈ l by simpa using hb)
        have := (h2 (j + 1) (by simpa using hj)).2 (Nat.succ_ne_zero _)
        have e : byteN (a :: l) (j + 1) = (l[j]).toNat := by unfold byteN; rw [List.getD_cons_succ, List.getD_eq_getElem?_getD, List.getElem?_eq_getElem hj]; rfl
        rw [e] at this
        exact this
theorem formP_step {l : List UInt8} {k : Nat} (h : FormP l k) (hk : okB k (byteN l k)) : FormP l (k + 1) := fun j hj => by
  rcases Nat.lt_or_ge j k with h1 | h1
  · exact h j h1
  · obtain rfl : j = k := by omega
    exact hk
theorem form_stop {l : List UInt8} {k : Nat} (hk : k < l.length) (h : ¬ okB k (byteN l k)) : ¬ FormS l := fun hf => h (((form_iff l).1 hf).2 k hk)
theorem okB_le {j c : Nat} (h : okB j c) : c ≤ 127 := by
  rcases Nat.eq_zero_or_pos j with e | e
  · have := h.1 e; omega
  · have := h.2 (by omega); omega
/-- A rune that is told as one byte is that byte. -/
theorem told_ascii {r : List UInt8} (h : toldL r ≤ 127) : byteN r 0 = toldL r ∧ widthL r = 1 := by
  unfold toldL widthL at *
  by_cases hs : sizeL r = 0
  · rw [if_pos hs] at h; omega
  · rw [if_neg hs] at h ⊢
    have h4 := sizeL_le4 r
    have : sizeL r = 1 ∨ sizeL r = 2 ∨ sizeL r = 3 ∨ sizeL r = 4 := by omega
    rcases this with g | g | g | g
    · have := codeL_one g; omega
    · have := codeL_two g; omega
    · have := codeL_three g; omega
    · have := codeL_four g; omega
theorem told_byte {r : List UInt8} (hr : r ≠ []) (h : byteN r 0 ≤ 127) : toldL r = byteN r 0 := by
  have h1 : sizeL r = 1 := by
    cases r with
    | nil => exact absurd rfl hr
    | cons b l => exact size_pl h
  have := codeL_one h1
  unfold toldL
  rw [if_neg (by omega)]
  exact this.2
theorem byteN_drop (l : List UInt8) (k : Nat) : byteN (l.drop k) 0 = byteN l k := by
  unfold byteN
  rw [List.getD_eq_getElem?_getD, List.getD_eq_getElem?_getD, List.getElem?_drop, Nat.add_zero]

set_option maxRecDepth 100000 in
set_option maxHeartbeats 2000000 in
/-- Has a name the form of a snapshot's file's? -/
theorem named_any (s : ByteArray) (w : World) (hs : s.size ≤ 9223372036854775807) :
    Calls Tryz.prog 71 #[.string s] w fun e w' => e = .returned (.bool (decide (FormS (bl s)))) ∧ Below w.heap.size w w' := by
  go_enter Tryz.func71, Tryz.ntmps71
  go_wp2
  go_loopw [] (fun wr => ∃ k : Nat, k ≤ s.size ∧ wr.heap[w.heap.size]? = some (.stringIter s k) ∧ Below w.heap.size w wr ∧ FormP (bl s) k) (fun wr => s.size - wr.iterPos w.heap.size)
  case atStart => exact ⟨0, by omega, World.iter_heap w s 0, (Below.refl _ _).alloc (Nat.le_refl _) _, fun j hj => absurd hj (Nat.not_lt_zero _)⟩
  case round =>
    obtain ⟨k, hk, hit, hb, hf⟩ := hrel
    have Hf := Lib.hid hf
    have Hb := Lib.hid hb
    have hszw : w.heap.size < wr.heap.size := (Array.getElem?_eq_some_iff.1 hit).1
    clear hf hb
    by_cases hlt : k < s.size
    · have hnx : ∀ ty, (Instr.next (.pointer (some ⟨w.heap.size, 0, none⟩)) true ty).run Tryz.prog wr = _ := fun ty => Lib.run_next_any_at wr w.heap.size s k ty hit hlt
      have Hne : Hid ((bl s).drop k ≠ []) := Lib.hid (fun e => by have := congrArg List.length e; rw [List.length_drop, bl_length] at this; simp at this; omega)
      have htl := told_lt ((bl s).drop k)
      have Hno : Hid (¬ okB k (toldL ((bl s).drop k)) → decide (FormS (bl s)) = false) := Lib.hid (fun h => decide_eq_false (form_stop (k := k) (by rw [bl_length]; exact hlt) (fun g => h (by
        have h1 := okB_le g
        rw [← byteN_drop] at g h1
        rw [told_byte Hne.out h1]; exact g))))
      have Hyes : Hid (okB k (toldL ((bl s).drop k)) → widthL ((bl s).drop k) = 1 ∧ FormP (bl s) (k + 1)) := Lib.hid (fun h => by
        obtain ⟨h1, h2⟩ := told_ascii (okB_le h)
        refine ⟨h2, formP_step Hf.out ?_⟩
        rw [byteN_drop] at h1
        rw [h1]; exact h)
      simp only [decode_told s k hlt] at hnx
      generalize widthL ((bl s).drop k) = wd at *
      generalize toldL ((bl s).drop k) = c at *
      have Hit2 := Lib.hid (Lib.iterAt_heap wr w.heap.size s k (k + wd) hit)
      have Hb2 := Lib.hid (Lib.below_iterAt Hb.out (k := w.heap.size) (Nat.le_refl _) s (k + wd))
      by_cases hk0 : k = 0
      · have gk : ((k : Int) == 0) = true := by simp; omega
        have gk2 : ¬ (0 : Int) < (k : Int) := by omega
        by_cases hc : c = 115
        · have gc : ((c : Int) != 115) = false := by simp; omega
          obtain ⟨rfl, y2⟩ := Hyes.out ⟨fun _ => hc, fun h => absurd hk0 h⟩
          have Y2 := Lib.hid y2
          clear Hno Hyes y2 hk0 hc
          go_wp2
          go_roundw
          case rel => exact ⟨k + 1, by omega, Hit2.out, Hb2.out, Y2.out⟩
          case measure =>
            simp only [World.iterPos, Hit2.out, hit]
            omega
        · have gc : ((c : Int) != 115) = true := by simp; omega
          have Hv : Hid (decide (FormS (bl s)) = false) := Lib.hid (Hno.out (fun h => hc (h.1 hk0)))
          clear Hno Hyes hk0 hc
          go_wp2
          go_ret
          exact ⟨by rw [Hv.out]; rfl, Hb2.out⟩
      · have gk : ((k : Int) == 0) = false := by simp; omega
        have gk2 : (0 : Int) < (k : Int) := by omega
        by_cases hc1 : c < 48
        · have gc : (c : Int) < 48 := by omega
          have Hv : Hid (decide (FormS (bl s)) = false) := Lib.hid (Hno.out (fun h => by have := h.2 hk0; omega))
          clear Hno Hyes hk0
          go_wp2
          go_ret
          exact ⟨by rw [Hv.out]; rfl, Hb2.out⟩
        · by_cases hc2 : 57 < c
          · have gc : ¬ (c : Int) < 48 := by omega
            have gc2 : (57 : Int) < (c : Int) := by omega
            have Hv : Hid (decide (FormS (bl s)) = false) := Lib.hid (Hno.out (fun h => by have := h.2 hk0; omega))
            clear Hno Hyes hk0
            go_wp2
            go_ret
            exact ⟨by rw [Hv.out]; rfl, Hb2.out⟩
          · have gc : ¬ (c : Int) < 48 := by omega
            have gc2 : ¬ (57 : Int) < (c : Int) := by omega
            obtain ⟨rfl, y2⟩ := Hyes.out ⟨fun h => absurd h hk0, fun _ => ⟨by omega, by omega⟩⟩
            have Y2 := Lib.hid y2
            clear Hno Hyes y2 hk0
            go_wp2
            go_roundw
            case rel => exact ⟨k + 1, by omega, Hit2.out, Hb2.out, Y2.out⟩
            case measure =>
              simp only [World.iterPos, Hit2.out, hit]
              omega
    · have hnx : ∀ ty, (Instr.next (.pointer (some ⟨w.heap.size, 0, none⟩)) true ty).run Tryz.prog wr = _ := fun ty => Lib.run_next_end_at wr w.heap.size s k ty hit hlt
      have hks : k = s.size := by omega
      by_cases h14 : s.size = 14
      · have g : ((s.size : Int) == 14) = true := by simp; omega
        have Hv : Hid (decide (FormS (bl s)) = true) := Lib.hid (decide_eq_true ((form_iff _).2 ⟨by rw [bl_length]; exact h14, by rw [bl_length, ← hks]; exact Hf.out⟩))
        clear h14 hks
        go_wp2
        go_ret
        exact ⟨by rw [Hv.out]; rfl, Hb.out⟩
      · have g : ((s.size : Int) == 14) = false := by simp; omega
        have Hv : Hid (decide (FormS (bl s)) = false) := Lib.hid (decide_eq_false (fun h => h14 (by rw [← bl_length]; exact ((form_iff _).1 h).1)))
        clear h14 hks
        go_wp2
        go_ret
        exact ⟨by rw [Hv.out]; rfl, Hb.out⟩

set_option maxRecDepth 100000 in
/-- What DeleteFunc asks: is a name none of a snapshot's file? -/
theorem other_any (s : ByteArray) (w : World) (hs : s.size ≤ 9223372036854775807) :
    Calls Tryz.prog 70 #[.string s] w fun e w' => e = .returned (.bool (!decide (FormS (bl s)))) ∧ Below w.heap.size w w' := by
  have HN := Lib.hid (named_any s w hs)
  generalize decide (FormS (bl s)) = b at *
  cases b
  all_goals
    go_enter Tryz.func70, Tryz.ntmps70
    go_wp2_with (go_at_call 71; refine HN.out.mono ?_; rintro e w1 ⟨rfl, hb1⟩)
    go_ret
    exact ⟨rfl, hb1⟩

set_option maxRecDepth 100000 in
set_option maxHeartbeats 2000000 in
/-- The reference's Named. -/
theorem refNamed_any (s : ByteArray) (w : World) :
    Calls Tryz.prog 43 #[.string s] w fun e w' => e = .returned (.bool (decide (FormS (bl s)))) ∧ w' = w := by
  by_cases h14 : s.size = 14
  · have g : ((s.size : Int) == 14) = true := by simp; omega
    have h0 : 0 < s.size := by omega
    obtain ⟨c, hc⟩ : ∃ c, s[0].toNat = c := ⟨_, rfl⟩
    have hc0 : byteN (bl s) 0 = c := by rw [bl_byte s 0 h0, hc]
    by_cases h115 : c = 115
    · have gc : ((c : Int) == 115) = true := by simp; omega
      have H1 : Hid (FormP (bl s) 1) := Lib.hid (fun j hj => by
        obtain rfl : j = 0 := by omega
        rw [hc0]; exact ⟨fun _ => h115, fun h => absurd rfl h⟩)
      clear h115 hc0
      go_enter Tryz.func43, Tryz.ntmps43
      go_wp2
      go_loopw [3] (fun iv wr => ∃ k : Nat, 1 ≤ k ∧ k ≤ 14 ∧ iv = .int .i64 k ∧ FormP (bl s) k ∧ wr = w) (fun iv _ => 14 - (intOf iv).toNat)
      case atStart => exact ⟨1, by omega, by omega, rfl, H1.out, rfl⟩
      case round =>
        obtain ⟨k, hk1, hk, rfl, hf, rfl⟩ := hrel
        have Hf := Lib.hid hf
        clear hf
        by_cases hlt : k < 14
        · have hlt2 : k < s.size := by omega
          obtain ⟨d, hd⟩ : ∃ d, s[k].toNat = d := ⟨_, rfl⟩
          have Hd : Hid (byteN (bl s) k = d) := Lib.hid (by rw [bl_byte s k hlt2, hd])
          by_cases h48 : d < 48
          · have gd : (d : Int) < 48 := by omega
            have Hv : Hid (decide (FormS (bl s)) = false) := Lib.hid (decide_eq_false (form_stop (k := k) (by rw [bl_length]; exact hlt2) (fun h => by rw [Hd.out] at h; have := h.2 (by omega); omega)))
            clear h48
            go_wp2
            go_ret
            exact ⟨by rw [Hv.out]; rfl, rfl⟩
          · by_cases h57 : 57 < d
            · have gd : ¬ (d : Int) < 48 := by omega
              have gd2 : (57 : Int) < (d : Int) := by omega
              have Hv : Hid (decide (FormS (bl s)) = false) := Lib.hid (decide_eq_false (form_stop (k := k) (by rw [bl_length]; exact hlt2) (fun h => by rw [Hd.out] at h; have := h.2 (by omega); omega)))
              clear h48 h57
              go_wp2
              go_ret
              exact ⟨by rw [Hv.out]; rfl, rfl⟩
            · have gd : ¬ (d : Int) < 48 := by omega
              have gd2 : ¬ (57 : Int) < (d : Int) := by omega
              have Hn : Hid (FormP (bl s) (k + 1)) := Lib.hid (formP_step Hf.out (by rw [Hd.out]; exact ⟨fun h => by omega, fun _ => by omega⟩))
              clear h48 h57
              go_wp2
              go_roundw
              case rel => exact ⟨k + 1, by omega, by omega, by go_num, Hn.out, by first | trivial | rfl⟩
              case measure => simp [intOf]; omega
        · obtain rfl : k = 14 := by omega
          have Hv : Hid (decide (FormS (bl s)) = true) := Lib.hid (decide_eq_true ((form_iff _).2 ⟨by rw [bl_length]; exact h14, by rw [bl_length, h14]; exact Hf.out⟩))
          go_wp2
          go_ret
          exact ⟨by rw [Hv.out]; rfl, rfl⟩
    · have gc : ((c : Int) == 115) = false := by simp; omega
      have Hv : Hid (decide (FormS (bl s)) = false) := Lib.hid (decide_eq_false (form_stop (k := 0) (by rw [bl_length]; exact h0) (fun h => by rw [hc0] at h; exact h115 (h.1 rfl))))
      clear h115 hc0
      go_enter Tryz.func43, Tryz.ntmps43
      go_wp2
      go_ret
      exact ⟨by rw [Hv.out]; rfl, rfl⟩
  · have g : ((s.size : Int) == 14) = false := by simp; omega
    have Hv : Hid (decide (FormS (bl s)) = false) := Lib.hid (decide_eq_false (fun h => h14 (by rw [← bl_length]; exact ((form_iff _).1 h).1)))
    clear h14
    go_enter Tryz.func43, Tryz.ntmps43
    go_wp2
    go_ret
    exact ⟨by rw [Hv.out]; rfl, rfl⟩

theorem digs_drop : ∀ k n, digsL k n = digsL k (n % 10 ^ k)
  | 0, n => rfl
  | k + 1, n => by
    rw [digs_snoc, digs_snoc, digs_drop k (n / 10), digs_drop k (n % 10 ^ (k + 1) / 10)]
    have e1 : n % 10 ^ (k + 1) / 10 % 10 ^ k = n / 10 % 10 ^ k := by
      rw [Nat.pow_succ, Nat.mul_comm, Nat.mod_mul_right_div_self]; rw [Nat.mod_mod]
    have e2 : n % 10 ^ (k + 1) % 10 = n % 10 := Nat.mod_mod_of_dvd n (by rw [Nat.pow_succ]; exact Nat.dvd_mul_left _ _)
    rw [e1, e2]
set_option maxRecDepth 100000 in
set_option maxHeartbeats 2000000 in
/-- The reference's File. -/
theorem refFile_any (n : Nat) (w : World) (hn : n < 10000000000000) :
    Calls Tryz.prog 36 #[.int .i64 (n : Int)] w fun e w' => e = .returned (.string (bs (shotL n))) ∧ Below w.heap.size w w' := by
  have H0 : Hid (digsL 13 n = digsL 13 n ++ bl { data := #[] }) := Lib.hid (by rw [bl_eq]; simp)
  have Hsh : Hid (bs (shotL n) = ({ data := #[115] } : ByteArray) ++ bs (digsL 13 n)) := Lib.hid (by
    rw [shotL, show (115 :: digsL 13 n) = [115] ++ digsL 13 n from rfl, ← bs_append]
    congr 1
    rw [bs_eq])
  generalize bs (shotL n) = out at *
  go_enter Tryz.func36, Tryz.ntmps36
  go_wp2
  go_loopw [0, 3, 4] (fun nv sv iv wr => ∃ (m i : Nat) (s : ByteArray), nv = .int .i64 m ∧ sv = .string s ∧ iv = .int .i64 i ∧ i ≤ 13 ∧ s.size = i ∧ m < 10000000000000 ∧ digsL 13 n = digsL (13 - i) m ++ bl s ∧ Below w.heap.size w wr) (fun _ _ iv _ => 13 - (intOf iv).toNat)
  case atStart => exact ⟨n, 0, { data := #[] }, rfl, rfl, rfl, by omega, rfl, hn, H0.out, Below.refl _ _⟩
  case round =>
    obtain ⟨m, i, s, rfl, rfl, rfl, hi, hsz, hm, hd, hb⟩ := hrel
    have Hd := Lib.hid hd
    have Hb := Lib.hid hb
    clear hd hb
    by_cases hlt : i < 13
    · have hlt' : (i : Int) < 13 := by omega
      obtain ⟨c, hc⟩ : ∃ c, c = m % 10 := ⟨_, rfl⟩
      have hmod : ((m : Int)).tmod 10 = (c : Int) := by rw [Int.tmod_eq_emod_of_nonneg (by omega)]; omega
      have hc10 : c < 10 := by omega
      obtain ⟨q, hq⟩ : ∃ q, q = m / 10 := ⟨_, rfl⟩
      have hdiv : ((m : Int)).tdiv 10 = (q : Int) := by rw [Int.tdiv_eq_ediv_of_nonneg (by omega)]; omega
      have hq13 : q < 10000000000000 := by omega
      have hconv := conv_one wr (48 + c) (by omega)
      have hone := oneB_size (48 + c)
      have Hob := Lib.hid (oneB_bl (48 + c))
      have Hst : Hid (digsL (13 - i) m = digsL (13 - (i + 1)) q ++ [UInt8.ofNat (48 + c)]) := Lib.hid (by
        rw [show 13 - i = (13 - (i + 1)) + 1 by omega, digs_snoc, hq, hc])
      have hcc : ((48 + c : Nat) : Int) = 48 + (c : Int) := by omega
      rw [hcc] at hconv
      have hc256 : (48 + (c : Int)) % 256 = 48 + (c : Int) := by omega
      clear hc hq hcc
      generalize oneB (48 + c) = o at *
      go_wp2
      go_roundw
      case rel => exact ⟨q, i + 1, o ++ s, rfl, rfl, by go_num, by omega, by rw [ByteArray.size_append, hone]; omega, hq13, by rw [Hd.out, Hst.out, bl_append, Hob.out, List.append_assoc], Hb.out.alloc Hb.out.size _⟩
      case measure => simp [intOf]; omega
    · obtain rfl : i = 13 := by omega
      have hlt' : ¬ ((13 : Nat) : Int) < 13 := by omega
      have Hs : Hid (bs (digsL 13 n) = s) := Lib.hid (by
        rw [Hd.out, show digsL (13 - 13) m = [] from rfl, List.nil_append, bs_bl])
      rw [Hs.out] at Hsh
      go_wp2
      go_ret
      exact ⟨by rw [Hsh.out]; rfl, Hb.out⟩
end Go.Proofs.YtmgbmphheagdmaaGreatDoor
