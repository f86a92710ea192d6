/-
  The law PackReads walked.
-/
import Derived.Test.YtdondonmggbmjaaLawN
import Derived.Test.YtdondonmggbmjaaRRdB
import Derived.Deep.RegionHeld3
namespace Go.Proofs.Ytdondonmggbmjaa
open Go.RowKit

/-- The pairs that a slice's first elements bear. -/
def ARow (w : World) (A : Option Addr) (n : Nat) : Prop := ∀ i, i < n → ∃ b off, A = some (⟨b, off, none⟩ : Addr) ∧ b < w.heap.size ∧ ∃ x y : Int, w.cell? ⟨b, off + i * 2, none⟩ = some (.int .i64 x) ∧ w.cell? ⟨b, off + i * 2 + 1, none⟩ = some (.int .i64 y)
theorem ARow.below {w w' : World} {A : Option Addr} {n B : Nat} (h : ARow w A n) (hb : Below B w w') (hB : w.heap.size ≤ B) : ARow w' A n := fun i hi => by
  obtain ⟨b, off, hA, hl, x, y, h0, h1⟩ := h i hi
  exact ⟨b, off, hA, Nat.lt_of_lt_of_le hl hb.size, x, y, by rw [hb.cell (by show b < B; omega)]; exact h0, by rw [hb.cell (by show b < B; omega)]; exact h1⟩

/-- What the loop of PackReads holds. -/
structure ReadAt (w1 : World) (ar aw : Nat) (l : List UInt8) (bad : Bool) (w : World) : Prop where
  rd : RdM 61 w ar l bad
  rr : RdM 41 w aw l bad
  len : l.length ≤ 100000
  below : Below ar w1 w
theorem ReadAt.drew {w1 : World} {ar aw : Nat} {l : List UInt8} {bad : Bool} {w : World} (h : ReadAt w1 ar aw l bad w) (n : Nat) : ReadAt w1 ar aw l bad (w.drewN n) := ⟨h.rd, h.rr, h.len, below_drewN h.below n⟩
theorem endV_cases (l : List UInt8) (bad : Bool) : endV l bad = 0 ∨ endV l bad = 3 := by
  unfold endV; split
  · exact .inr rfl
  · exact .inl rfl

set_option maxRecDepth 100000 in
set_option maxHeartbeats 8000000 in
theorem reads_any (s : ByteArray) (A : Option Addr) (n cap : Nat) (w : World) (hr : ARow w A n) (hn : n ≤ 9223372036854775807) :
    Calls Try.prog 4 #[.string s, .slice A n cap] w (Laws w) := by
  have Hr := Lib.hid hr
  clear hr
  by_cases hlong : 100000 < s.size
  · have hlong' : (100000 : Int) < s.size := by omega
    go_enter Try.func4, Try.ntmps4
    go_wp2_with (go_at_call 8; refine (awake_any w).mono ?_; rintro e w1 ⟨rfl, hb1⟩)
    go_ret
    exact ⟨rfl, hb1⟩
  · have hlong' : ¬ (100000 : Int) < s.size := by omega
    have Hsl : Hid ((bl s).length ≤ 100000) := Lib.hid (by rw [bl_length]; omega)
    go_enter Try.func4, Try.ntmps4
    go_wp2_with fail
    refine (awake_any w).mono ?_
    rintro e w1 ⟨rfl, hb1⟩
    have Hr1 := Lib.hid (Hr.out.below hb1 (Nat.le_refl _))
    have Hb1 := Lib.hid hb1
    clear hb1 Hr
    go_wp2_with fail
    refine (read_any s w1).mono ?_
    rintro e w2 ⟨rfl, hrd2, hb2, hsz2⟩
    have Hrd2 := Lib.hid hrd2
    have Hb2 := Lib.hid hb2
    have Hsz2 := Lib.hid hsz2
    clear hrd2 hb2 hsz2
    obtain ⟨w3, hw3⟩ : ∃ w3, w3 = w2.alloc (.cells #[.string s, .bool false] 41) := ⟨_, rfl⟩
    have H3 : Hid (ReadAt w1 w1.heap.size w2.heap.size (bl s) false w3) := Lib.hid (by
      rw [hw3]
      exact ⟨Hrd2.out.below ((Below.refl w2.heap.size w2).alloc (Nat.le_refl _) _) (by rw [Hsz2.out]; omega), ⟨s, Holds.new w2 41 _, rfl, fun h => by cases h⟩, Hsl.out, Hb2.out.alloc (by rw [Hsz2.out]; omega) _⟩)
    have Har : Hid (w.heap.size ≤ w1.heap.size) := Lib.hid Hb1.out.size
    have Hlt : Hid (w1.heap.size < w2.heap.size) := Lib.hid (by rw [Hsz2.out]; omega)
    go_wp2
    rw [← hw3]
    clear hw3 Hrd2 Hb2 Hsz2
    generalize w2.heap.size = aw at *
    generalize har : w1.heap.size = ar at *
    have Hra := Lib.hid har
    clear har
    go_loopw [8, 9] (fun iv _ wr => ∃ (i : Nat) (l : List UInt8) (bad : Bool), i ≤ n ∧ iv = .int .i64 i ∧ ReadAt w1 ar aw l bad wr) (fun iv _ _ => n - (intOf iv).toNat)
    case atStart => exact ⟨0, _, _, by omega, rfl, H3.out⟩
    case round =>
      clear H3
      obtain ⟨i, l, bad, hi, rfl, ho⟩ := hrel
      have Ho := Lib.hid ho
      clear ho
      have hll := Ho.out.len
      by_cases hlt : i < n ∧ i < 200
      · obtain ⟨hlt, h200⟩ := hlt
        have hlt' : (i : Int) < n := by omega
        have h200' : (i : Int) < 200 := by omega
        obtain ⟨b, off, rfl, hbl, x, y, hcx, hcy⟩ := Hr1.out i hlt
        rw [Hra.out] at hbl
        have hx := (Ho.out.below.cell (p := ⟨b, off + i * 2, none⟩) hbl).trans hcx
        have hy := (Ho.out.below.cell (p := ⟨b, off + i * 2 + 1, none⟩) hbl).trans hcy
        clear hcx hcy
        by_cases hx0 : x = 0
        · subst hx0
          have Hr0 := Lib.hid (num_any l bad ar wr Ho.out.rd (by omega))
          have Hrr := Lib.hid (fun w4 (h : RdM 41 w4 aw l bad) => refrd_any 4611686018427387903 l bad aw w4 h (by omega))
          have Hlen := Lib.hid (rdN_length 4611686018427387903 l bad)
          generalize rdN 4611686018427387903 l bad = r at *
          obtain ⟨v, l2, b2⟩ := r
          go_wp2_with fail
          refine Hr0.out.mono ?_
          rintro e w4 ⟨rfl, hrd4, hg4⟩
          have Hrd4 := Lib.hid hrd4
          have Hg4 := Lib.hid hg4
          clear hrd4 hg4
          go_wp2_with fail
          refine (Hrr.out w4 (Ho.out.rr.grown Hg4.out (by simp; have := Hlt.out; omega))).mono ?_
          rintro e w5 ⟨rfl, hrd5, hg5⟩
          have Hrr5 := Lib.hid hrd5
          have Hrd5 := Lib.hid (RdM.grown Hrd4.out hg5 (by simp; have := Hlt.out; omega))
          have Hb5 : Hid (Below ar w1 w5) := Lib.hid (((Ho.out.below.trans (below_grown Hg4.out (Nat.le_of_lt Ho.out.rd.lt)))).trans ((below_grown hg5 (by have := Ho.out.rr.lt; have := Hg4.out.size; omega)).mono (Nat.le_of_lt Hlt.out)))
          clear hrd5 hg5 Hrd4 Hg4 Hr0 Hrr
          go_wp2_with (first | (go_at_call 17; refine (num_nil _).mono ?_; rintro e w6 ⟨rfl, h6⟩; replace h6 := h6.symm; subst h6))
          have Ho2 : Hid (ReadAt w1 ar aw l2 b2 w5) := Lib.hid ⟨Hrd5.out, Hrr5.out, Nat.le_trans Hlen.out Ho.out.len, Hb5.out⟩
          clear Hrd5 Hrr5 Hb5 Hlen Ho hx hy Hr1 hll
          obtain ⟨s5, hh5, hs5, _⟩ := Ho2.out.rr
          obtain ⟨c0, c1, f0, f1⟩ := RdM.cells hh5
          have hls : (l2.length : Int) = s5.size := by rw [← hs5, bl_length]
          clear hh5 hs5
          have Hleft : Hid (∀ w, RdM 61 w ar l2 b2 → Calls Try.prog 24 #[.pointer (some ⟨ar, 0, none⟩)] w fun e w' => e = .returned (.int .i64 l2.length) ∧ w' = w) := Lib.hid fun w h => left_any l2 b2 ar w h
          rcases endV_cases l2 b2 with hE | hE
          · have Hend : Hid (∀ w, RdM 61 w ar l2 b2 → Calls Try.prog 25 #[.pointer (some ⟨ar, 0, none⟩)] w fun e w' => e = .returned (.int .i64 0) ∧ w' = w) := Lib.hid fun w h => by
              have := end_any l2 b2 ar w h
              rw [hE] at this
              exact this
            have Hdone : Hid (∀ w, RdM 41 w aw l2 b2 → Calls Try.prog 26 #[.pointer (some ⟨aw, 0, none⟩)] w fun e w' => e = .returned (.bool true) ∧ w' = w) := Lib.hid fun w h => by
              have := refdone_any l2 b2 aw w h
              rw [hE] at this
              exact this
            clear hE
            go_wp2_with fail
            go_quiet ((first | (go_at_call 24; exact Calls.quiet_of_same (Hleft.out _ Ho2.out.rd)) | (go_at_call 25; exact Calls.quiet_of_same (Hend.out _ Ho2.out.rd)) | (go_at_call 26; exact Calls.quiet_of_same (Hdone.out _ Ho2.out.rr))))
            go_wp2
            go_roundw
            case rel => exact ⟨i + 1, l2, b2, by omega, by go_num, Ho2.out.drew _⟩
            case measure => simp [intOf]; omega
          · have Hend : Hid (∀ w, RdM 61 w ar l2 b2 → Calls Try.prog 25 #[.pointer (some ⟨ar, 0, none⟩)] w fun e w' => e = .returned (.int .i64 3) ∧ w' = w) := Lib.hid fun w h => by
              have := end_any l2 b2 ar w h
              rw [hE] at this
              exact this
            have Hdone : Hid (∀ w, RdM 41 w aw l2 b2 → Calls Try.prog 26 #[.pointer (some ⟨aw, 0, none⟩)] w fun e w' => e = .returned (.bool false) ∧ w' = w) := Lib.hid fun w h => by
              have := refdone_any l2 b2 aw w h
              rw [hE] at this
              exact this
            clear hE
            go_wp2_with fail
            go_quiet ((first | (go_at_call 24; exact Calls.quiet_of_same (Hleft.out _ Ho2.out.rd)) | (go_at_call 25; exact Calls.quiet_of_same (Hend.out _ Ho2.out.rd)) | (go_at_call 26; exact Calls.quiet_of_same (Hdone.out _ Ho2.out.rr))))
            go_wp2
            go_roundw
            case rel => exact ⟨i + 1, l2, b2, by omega, by go_num, Ho2.out.drew _⟩
            case measure => simp [intOf]; omega
        · by_cases hx1 : x = 1
          · subst hx1
            have Hr0 := Lib.hid (fun w (h : RdM 61 w ar l bad) => text_any y l bad ar w h (by omega))
            have Hrr := Lib.hid (fun w4 (h : RdM 41 w4 aw l bad) => reftext_any y l bad aw w4 h (by omega))
            have Hlen := Lib.hid ((rdT_length y l bad).1)
            generalize rdT y l bad = r at *
            obtain ⟨v, l2, b2⟩ := r
            have hi0 : (0 : Int) ≤ (i : Int) := by omega
            go_wp2_with fail
            go_region_held3 (fun w' => w'.cell? ⟨b, off + i * 2 + 1, none⟩ = some (.int .i64 y))
              (first | (show wr.cell? ⟨b, off + i * 2 + 1, none⟩ = _; assumption) | assumption | (rw [hg5.cell_far (a := ⟨b, off + i * 2 + 1, none⟩) (Nat.lt_of_lt_of_le hbl (Nat.le_trans (Nat.le_of_lt Ho.out.rd.lt) hg4.size)) (by simp; have := Hlt.out; omega)]; assumption) | (rw [hg4.cell_far (a := ⟨b, off + i * 2 + 1, none⟩) (Nat.lt_of_lt_of_le hbl (Nat.le_of_lt Ho.out.rd.lt)) (by simp; omega)]; assumption))
              (first
                | (go_at_call 19; refine (text_nil 9 w5).mono ?_; rintro e w6 ⟨rfl, h6⟩; replace h6 := h6.symm; subst h6)
                | (go_at_call 19; refine (Hr0.out wr.drew Ho.out.rd).mono ?_; rintro e w4 ⟨rfl, hrd4, hg4⟩)
                | (go_at_call 20; refine (Hrr.out w4 (RdM.grown (w := wr.drew) Ho.out.rr hg4 (by simp; have := Hlt.out; omega))).mono ?_; rintro e w5 ⟨rfl, hrr5, hg5⟩))
            have Hrr5 := Lib.hid hrr5
            have Hrd5 := Lib.hid (RdM.grown hrd4 hg5 (by simp; have := Hlt.out; omega))
            have Hb5 : Hid (Below ar w1 w5) := Lib.hid (((Ho.out.below.drew.trans (below_grown hg4 (Nat.le_of_lt Ho.out.rd.lt)))).trans ((below_grown hg5 (by have := Ho.out.rr.lt; have : wr.heap.size ≤ w4.heap.size := hg4.size; omega)).mono (Nat.le_of_lt Hlt.out)))
            clear hrr5 hg5 hrd4 hg4 Hr0 Hrr
            have Ho2 : Hid (ReadAt w1 ar aw l2 b2 w5) := Lib.hid ⟨Hrd5.out, Hrr5.out, Nat.le_trans Hlen.out Ho.out.len, Hb5.out⟩
            clear Hrd5 Hrr5 Hb5 Hlen Ho hx hy Hr1 hll
            obtain ⟨s5, hh5, hs5, _⟩ := Ho2.out.rr
            obtain ⟨c0, c1, f0, f1⟩ := RdM.cells hh5
            have hls : (l2.length : Int) = s5.size := by rw [← hs5, bl_length]
            clear hh5 hs5
            have Hleft : Hid (∀ w, RdM 61 w ar l2 b2 → Calls Try.prog 24 #[.pointer (some ⟨ar, 0, none⟩)] w fun e w' => e = .returned (.int .i64 l2.length) ∧ w' = w) := Lib.hid fun w h => left_any l2 b2 ar w h
            rcases endV_cases l2 b2 with hE | hE
            · have Hend : Hid (∀ w, RdM 61 w ar l2 b2 → Calls Try.prog 25 #[.pointer (some ⟨ar, 0, none⟩)] w fun e w' => e = .returned (.int .i64 0) ∧ w' = w) := Lib.hid fun w h => by
                have := end_any l2 b2 ar w h
                rw [hE] at this
                exact this
              have Hdone : Hid (∀ w, RdM 41 w aw l2 b2 → Calls Try.prog 26 #[.pointer (some ⟨aw, 0, none⟩)] w fun e w' => e = .returned (.bool true) ∧ w' = w) := Lib.hid fun w h => by
                have := refdone_any l2 b2 aw w h
                rw [hE] at this
                exact this
              clear hE
              go_wp2_with fail
              go_quiet ((first | (go_at_call 24; exact Calls.quiet_of_same (Hleft.out _ Ho2.out.rd)) | (go_at_call 25; exact Calls.quiet_of_same (Hend.out _ Ho2.out.rd)) | (go_at_call 26; exact Calls.quiet_of_same (Hdone.out _ Ho2.out.rr))))
              go_wp2
              go_roundw
              case rel => exact ⟨i + 1, l2, b2, by omega, by go_num, Ho2.out.drew _⟩
              case measure => simp [intOf]; omega
            · have Hend : Hid (∀ w, RdM 61 w ar l2 b2 → Calls Try.prog 25 #[.pointer (some ⟨ar, 0, none⟩)] w fun e w' => e = .returned (.int .i64 3) ∧ w' = w) := Lib.hid fun w h => by
                have := end_any l2 b2 ar w h
                rw [hE] at this
                exact this
              have Hdone : Hid (∀ w, RdM 41 w aw l2 b2 → Calls Try.prog 26 #[.pointer (some ⟨aw, 0, none⟩)] w fun e w' => e = .returned (.bool false) ∧ w' = w) := Lib.hid fun w h => by
                have := refdone_any l2 b2 aw w h
                rw [hE] at this
                exact this
              clear hE
              go_wp2_with fail
              go_quiet ((first | (go_at_call 24; exact Calls.quiet_of_same (Hleft.out _ Ho2.out.rd)) | (go_at_call 25; exact Calls.quiet_of_same (Hend.out _ Ho2.out.rd)) | (go_at_call 26; exact Calls.quiet_of_same (Hdone.out _ Ho2.out.rr))))
              go_wp2
              go_roundw
              case rel => exact ⟨i + 1, l2, b2, by omega, by go_num, Ho2.out.drew _⟩
              case measure => simp [intOf]; omega
          · by_cases hx2 : x = 2
            · subst hx2
              have Hr0 := Lib.hid (flag_any l bad ar wr Ho.out.rd (by omega))
              have Hrr := Lib.hid (fun w4 (h : RdM 41 w4 aw l bad) => refflag_any l bad aw w4 h (by omega))
              have Hlen := Lib.hid (rdN_length 1 l bad)
              generalize rdN 1 l bad = r at *
              obtain ⟨v, l2, b2⟩ := r
              go_wp2_with fail
              refine Hr0.out.mono ?_
              rintro e w4 ⟨rfl, hrd4, hg4⟩
              have Hrd4 := Lib.hid hrd4
              have Hg4 := Lib.hid hg4
              clear hrd4 hg4
              go_wp2_with fail
              refine (Hrr.out w4 (Ho.out.rr.grown Hg4.out (by simp; have := Hlt.out; omega))).mono ?_
              rintro e w5 ⟨rfl, hrd5, hg5⟩
              have Hrr5 := Lib.hid hrd5
              have Hrd5 := Lib.hid (RdM.grown Hrd4.out hg5 (by simp; have := Hlt.out; omega))
              have Hb5 : Hid (Below ar w1 w5) := Lib.hid (((Ho.out.below.trans (below_grown Hg4.out (Nat.le_of_lt Ho.out.rd.lt)))).trans ((below_grown hg5 (by have := Ho.out.rr.lt; have := Hg4.out.size; omega)).mono (Nat.le_of_lt Hlt.out)))
              clear hrd5 hg5 Hrd4 Hg4 Hr0 Hrr
              go_wp2_with (first | (go_at_call 21; refine (flag_nil _).mono ?_; rintro e w6 ⟨rfl, h6⟩; replace h6 := h6.symm; subst h6))
              have Ho2 : Hid (ReadAt w1 ar aw l2 b2 w5) := Lib.hid ⟨Hrd5.out, Hrr5.out, Nat.le_trans Hlen.out Ho.out.len, Hb5.out⟩
              clear Hrd5 Hrr5 Hb5 Hlen Ho hx hy Hr1 hll
              obtain ⟨s5, hh5, hs5, _⟩ := Ho2.out.rr
              obtain ⟨c0, c1, f0, f1⟩ := RdM.cells hh5
              have hls : (l2.length : Int) = s5.size := by rw [← hs5, bl_length]
              clear hh5 hs5
              have Hleft : Hid (∀ w, RdM 61 w ar l2 b2 → Calls Try.prog 24 #[.pointer (some ⟨ar, 0, none⟩)] w fun e w' => e = .returned (.int .i64 l2.length) ∧ w' = w) := Lib.hid fun w h => left_any l2 b2 ar w h
              rcases endV_cases l2 b2 with hE | hE
              · have Hend : Hid (∀ w, RdM 61 w ar l2 b2 → Calls Try.prog 25 #[.pointer (some ⟨ar, 0, none⟩)] w fun e w' => e = .returned (.int .i64 0) ∧ w' = w) := Lib.hid fun w h => by
                  have := end_any l2 b2 ar w h
                  rw [hE] at this
                  exact this
                have Hdone : Hid (∀ w, RdM 41 w aw l2 b2 → Calls Try.prog 26 #[.pointer (some ⟨aw, 0, none⟩)] w fun e w' => e = .returned (.bool true) ∧ w' = w) := Lib.hid fun w h => by
                  have := refdone_any l2 b2 aw w h
                  rw [hE] at this
                  exact this
                clear hE
                go_wp2_with fail
                go_quiet ((first | (go_at_call 24; exact Calls.quiet_of_same (Hleft.out _ Ho2.out.rd)) | (go_at_call 25; exact Calls.quiet_of_same (Hend.out _ Ho2.out.rd)) | (go_at_call 26; exact Calls.quiet_of_same (Hdone.out _ Ho2.out.rr))))
                go_wp2
                go_roundw
                case rel => exact ⟨i + 1, l2, b2, by omega, by go_num, Ho2.out.drew _⟩
                case measure => simp [intOf]; omega
              · have Hend : Hid (∀ w, RdM 61 w ar l2 b2 → Calls Try.prog 25 #[.pointer (some ⟨ar, 0, none⟩)] w fun e w' => e = .returned (.int .i64 3) ∧ w' = w) := Lib.hid fun w h => by
                  have := end_any l2 b2 ar w h
                  rw [hE] at this
                  exact this
                have Hdone : Hid (∀ w, RdM 41 w aw l2 b2 → Calls Try.prog 26 #[.pointer (some ⟨aw, 0, none⟩)] w fun e w' => e = .returned (.bool false) ∧ w' = w) := Lib.hid fun w h => by
                  have := refdone_any l2 b2 aw w h
                  rw [hE] at this
                  exact this
                clear hE
                go_wp2_with fail
                go_quiet ((first | (go_at_call 24; exact Calls.quiet_of_same (Hleft.out _ Ho2.out.rd)) | (go_at_call 25; exact Calls.quiet_of_same (Hend.out _ Ho2.out.rd)) | (go_at_call 26; exact Calls.quiet_of_same (Hdone.out _ Ho2.out.rr))))
                go_wp2
                go_roundw
                case rel => exact ⟨i + 1, l2, b2, by omega, by go_num, Ho2.out.drew _⟩
                case measure => simp [intOf]; omega
            · have hb0 : (x == 0) = false := by rw [beq_eq_false_iff_ne]; exact hx0
              have hb1 : (x == 1) = false := by rw [beq_eq_false_iff_ne]; exact hx1
              have hb2 : (x == 2) = false := by rw [beq_eq_false_iff_ne]; exact hx2
              have Hr0 := Lib.hid (fun w (h : RdM 61 w ar l bad) => upto_any y l bad ar w h (by omega))
              have Hrr := Lib.hid (fun w4 (h : RdM 41 w4 aw l bad) => refrd_any y l bad aw w4 h (by omega))
              have Hlen := Lib.hid (rdN_length y l bad)
              generalize rdN y l bad = r at *
              obtain ⟨v, l2, b2⟩ := r
              have hi0 : (0 : Int) ≤ (i : Int) := by omega
              go_wp2_with fail
              go_region_held3 (fun w' => w'.cell? ⟨b, off + i * 2 + 1, none⟩ = some (.int .i64 y))
                (first | (show wr.cell? ⟨b, off + i * 2 + 1, none⟩ = _; assumption) | assumption | (rw [hg5.cell_far (a := ⟨b, off + i * 2 + 1, none⟩) (Nat.lt_of_lt_of_le hbl (Nat.le_trans (Nat.le_of_lt Ho.out.rd.lt) hg4.size)) (by simp; have := Hlt.out; omega)]; assumption) | (rw [hg4.cell_far (a := ⟨b, off + i * 2 + 1, none⟩) (Nat.lt_of_lt_of_le hbl (Nat.le_of_lt Ho.out.rd.lt)) (by simp; omega)]; assumption))
                (first
                  | (go_at_call 23; refine (upto_nil 9 w5).mono ?_; rintro e w6 ⟨rfl, h6⟩; replace h6 := h6.symm; subst h6)
                  | (go_at_call 23; refine (Hr0.out wr.drew Ho.out.rd).mono ?_; rintro e w4 ⟨rfl, hrd4, hg4⟩)
                  | (go_at_call 18; refine (Hrr.out w4 (RdM.grown (w := wr.drew) Ho.out.rr hg4 (by simp; have := Hlt.out; omega))).mono ?_; rintro e w5 ⟨rfl, hrr5, hg5⟩))
              have Hrr5 := Lib.hid hrr5
              have Hrd5 := Lib.hid (RdM.grown hrd4 hg5 (by simp; have := Hlt.out; omega))
              have Hb5 : Hid (Below ar w1 w5) := Lib.hid (((Ho.out.below.drew.trans (below_grown hg4 (Nat.le_of_lt Ho.out.rd.lt)))).trans ((below_grown hg5 (by have := Ho.out.rr.lt; have : wr.heap.size ≤ w4.heap.size := hg4.size; omega)).mono (Nat.le_of_lt Hlt.out)))
              clear hrr5 hg5 hrd4 hg4 Hr0 Hrr
              have Ho2 : Hid (ReadAt w1 ar aw l2 b2 w5) := Lib.hid ⟨Hrd5.out, Hrr5.out, Nat.le_trans Hlen.out Ho.out.len, Hb5.out⟩
              clear Hrd5 Hrr5 Hb5 Hlen Ho hx hy Hr1 hll
              obtain ⟨s5, hh5, hs5, _⟩ := Ho2.out.rr
              obtain ⟨c0, c1, f0, f1⟩ := RdM.cells hh5
              have hls : (l2.length : Int) = s5.size := by rw [← hs5, bl_length]
              clear hh5 hs5
              have Hleft : Hid (∀ w, RdM 61 w ar l2 b2 → Calls Try.prog 24 #[.pointer (some ⟨ar, 0, none⟩)] w fun e w' => e = .returned (.int .i64 l2.length) ∧ w' = w) := Lib.hid fun w h => left_any l2 b2 ar w h
              rcases endV_cases l2 b2 with hE | hE
              · have Hend : Hid (∀ w, RdM 61 w ar l2 b2 → Calls Try.prog 25 #[.pointer (some ⟨ar, 0, none⟩)] w fun e w' => e = .returned (.int .i64 0) ∧ w' = w) := Lib.hid fun w h => by
                  have := end_any l2 b2 ar w h
                  rw [hE] at this
                  exact this
                have Hdone : Hid (∀ w, RdM 41 w aw l2 b2 → Calls Try.prog 26 #[.pointer (some ⟨aw, 0, none⟩)] w fun e w' => e = .returned (.bool true) ∧ w' = w) := Lib.hid fun w h => by
                  have := refdone_any l2 b2 aw w h
                  rw [hE] at this
                  exact this
                clear hE
                go_wp2_with fail
                go_quiet ((first | (go_at_call 24; exact Calls.quiet_of_same (Hleft.out _ Ho2.out.rd)) | (go_at_call 25; exact Calls.quiet_of_same (Hend.out _ Ho2.out.rd)) | (go_at_call 26; exact Calls.quiet_of_same (Hdone.out _ Ho2.out.rr))))
                go_wp2
                go_roundw
                case rel => exact ⟨i + 1, l2, b2, by omega, by go_num, Ho2.out.drew _⟩
                case measure => simp [intOf]; omega
              · have Hend : Hid (∀ w, RdM 61 w ar l2 b2 → Calls Try.prog 25 #[.pointer (some ⟨ar, 0, none⟩)] w fun e w' => e = .returned (.int .i64 3) ∧ w' = w) := Lib.hid fun w h => by
                  have := end_any l2 b2 ar w h
                  rw [hE] at this
                  exact this
                have Hdone : Hid (∀ w, RdM 41 w aw l2 b2 → Calls Try.prog 26 #[.pointer (some ⟨aw, 0, none⟩)] w fun e w' => e = .returned (.bool false) ∧ w' = w) := Lib.hid fun w h => by
                  have := refdone_any l2 b2 aw w h
                  rw [hE] at this
                  exact this
                clear hE
                go_wp2_with fail
                go_quiet ((first | (go_at_call 24; exact Calls.quiet_of_same (Hleft.out _ Ho2.out.rd)) | (go_at_call 25; exact Calls.quiet_of_same (Hend.out _ Ho2.out.rd)) | (go_at_call 26; exact Calls.quiet_of_same (Hdone.out _ Ho2.out.rr))))
                go_wp2
                go_roundw
                case rel => exact ⟨i + 1, l2, b2, by omega, by go_num, Ho2.out.drew _⟩
                case measure => simp [intOf]; omega
      · by_cases hin : i < n
        · have h1 : (i : Int) < n := by omega
          have h2 : ¬ (i : Int) < 200 := by omega
          have Hend : Hid (Below w.heap.size w wr) := Lib.hid (Hb1.out.trans (Ho.out.below.mono Har.out))
          go_wp2_with (first | (go_at_call 24; refine (left_nil _).mono ?_; rintro e w' ⟨rfl, rfl⟩) | (go_at_call 25; refine (end_nil _).mono ?_; rintro e w6 ⟨rfl, h6⟩; replace h6 := h6.symm; subst h6))
          go_ret
          exact ⟨rfl, Hend.out⟩
        · have h1 : ¬ (i : Int) < n := by omega
          have Hend : Hid (Below w.heap.size w wr) := Lib.hid (Hb1.out.trans (Ho.out.below.mono Har.out))
          go_wp2_with (first | (go_at_call 24; refine (left_nil _).mono ?_; rintro e w' ⟨rfl, rfl⟩) | (go_at_call 25; refine (end_nil _).mono ?_; rintro e w6 ⟨rfl, h6⟩; replace h6 := h6.symm; subst h6))
          go_ret
          exact ⟨rfl, Hend.out⟩
end Go.Proofs.Ytdondonmggbmjaa
