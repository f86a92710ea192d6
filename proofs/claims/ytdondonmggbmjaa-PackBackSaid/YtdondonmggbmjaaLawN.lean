/-
  The law PackOne walked.
-/
import Derived.Test.YtdondonmggbmjaaLawA
namespace Go.Proofs.Ytdondonmggbmjaa
open Go.RowKit

/-- What a law that is true leaves. -/
def Laws (w : World) (e : Ending) (w' : World) : Prop := e = .returned (.bool true) ∧ Below w.heap.size w w'
/-- The flags that a slice's first cells bear. -/
def BRow (w : World) (A : Option Addr) (n : Nat) : Prop := ∀ i, i < n → ∃ b off, A = some (⟨b, off, none⟩ : Addr) ∧ b < w.heap.size ∧ ∃ v : Bool, w.cell? ⟨b, off + i, none⟩ = some (.bool v)
theorem BRow.below {w w' : World} {A : Option Addr} {n B : Nat} (h : BRow w A n) (hb : Below B w w') (hB : w.heap.size ≤ B) : BRow w' A n := fun i hi => by
  obtain ⟨b, off, hA, hl, v, h0⟩ := h i hi
  exact ⟨b, off, hA, Nat.lt_of_lt_of_le hl hb.size, v, by rw [hb.cell (by show b < B; omega)]; exact h0⟩

/-- As long as there was no fault, what is written is what was read. -/
def One (s l : List UInt8) (bad : Bool) (st : WSt) : Prop := bad = false → st.2 = 0 ∧ st.1 ++ l = s
theorem One.num {s l : List UInt8} {st : WSt} (h : One s l false st) (hs : s.length ≤ 100000) (r : Nat × List UInt8 × Bool) (hr : rdN 4611686018427387903 l false = r) : One s r.2.1 r.2.2 (wrN (r.1 : Int) st) := by
  subst hr
  obtain ⟨h0, h1⟩ := h rfl
  rcases rdN_cases 4611686018427387903 l with hr | ⟨n, k, hd, hm, hr⟩
  · rw [hr]; exact fun h => by cases h
  · rw [hr]
    obtain ⟨ht, hk, he, _, _⟩ := decL_sound hd
    intro _
    obtain ⟨o, f⟩ := st
    simp only at h0 h1 ⊢
    subst h0
    have hl : o.length + (encL n).length ≤ 100000 := by
      rw [← h1, List.length_append] at hs
      rw [← he, List.length_take]; omega
    have e : wrN (n : Int) (o, 0) = (o ++ encL n, 0) := by
      unfold wrN
      rw [if_neg (by simp), if_neg (by omega), show ((n : Int)).toNat = n from rfl]
      unfold wrP
      rw [if_neg (by simp only [List.length_nil]; omega), List.append_nil]
    rw [e]
    exact ⟨rfl, by rw [← he, List.append_assoc, List.take_append_drop, h1]⟩
theorem One.text {s l : List UInt8} {st : WSt} (h : One s l false st) (hs : s.length ≤ 100000) (m : Int) (r : List UInt8 × List UInt8 × Bool) (hr : rdT m l false = r) : One s r.2.1 r.2.2 (wrT r.1 st) := by
  subst hr
  obtain ⟨h0, h1⟩ := h rfl
  unfold rdT
  rcases rdN_cases m l with hr | ⟨n, k, hd, hm, hr⟩
  · rw [hr, if_pos (by simp)]; exact fun h => by cases h
  · rw [hr]
    obtain ⟨ht, hk, he, _, _⟩ := decL_sound hd
    by_cases hn : (l.drop k).length < n
    · rw [if_pos (by right; exact hn)]; exact fun h => by cases h
    · rw [if_neg (by simp only [not_or]; exact ⟨by simp, hn⟩)]
      intro _
      obtain ⟨o, f⟩ := st
      simp only at h0 h1 ⊢
      subst h0
      have hx : ((l.drop k).take n).length = n := by rw [List.length_take]; omega
      have hl : o.length + (encL n).length + n ≤ 100000 := by
        rw [← h1, List.length_append] at hs
        rw [List.length_drop] at hn
        rw [← he, List.length_take]; omega
      have e : wrT ((l.drop k).take n) (o, 0) = (o ++ encL n ++ (l.drop k).take n, 0) := by
        unfold wrT
        rw [if_neg (by simp), hx]
        unfold wrP
        rw [if_neg (by simp only [hx]; omega)]
      rw [e]
      exact ⟨rfl, by simp only; rw [← he, List.append_assoc, List.append_assoc, List.take_append_drop, List.take_append_drop, h1]⟩

theorem rdT_length (m : Int) (l : List UInt8) (bad : Bool) : (rdT m l bad).2.1.length ≤ l.length ∧ (rdT m l bad).1.length ≤ l.length := by
  have h := rdN_length m l bad
  unfold rdT
  split
  · exact ⟨Nat.zero_le _, Nat.zero_le _⟩
  · simp only [List.length_take, List.length_drop]; omega
theorem RdM.fine {t : TypeId} {w : World} {a : Nat} {l : List UInt8} {bad : Bool} (h : RdM t w a l bad) (hl : l.length ≠ 0) : bad = false := by
  obtain ⟨s, _, _, hz⟩ := h
  cases bad with
  | false => rfl
  | true => rw [hz rfl] at hl; exact absurd rfl hl
theorem endV_ok {l : List UInt8} {bad : Bool} (h : endV l bad = 0) : bad = false ∧ l = [] := by
  unfold endV at h
  split at h
  · cases h
  · rename_i hc
    simp only [not_or] at hc
    exact ⟨by cases bad <;> simp_all, by simpa using hc.2⟩

/-- What the loop of PackOne holds. -/
structure OneAt (w1 : World) (ar aw : Nat) (s : List UInt8) (l : List UInt8) (bad : Bool) (st : WSt) (w : World) : Prop where
  rd : RdM 61 w ar l bad
  wr : WrM w aw st
  one : One s l bad st
  len : l.length ≤ 100000
  below : Below ar w1 w

set_option maxRecDepth 100000 in
set_option maxHeartbeats 2000000 in
theorem one_any (s : ByteArray) (A : Option Addr) (n cap : Nat) (w : World) (hr : BRow w A n) (hn : n ≤ 9223372036854775807) :
    Calls Try.prog 6 #[.string s, .slice A n cap] w (Laws w) := by
  have Hr := Lib.hid hr
  clear hr
  by_cases hlong : 100000 < s.size
  · have hlong' : (100000 : Int) < s.size := by omega
    go_enter Try.func6, Try.ntmps6
    go_wp2_with (go_at_call 8; refine (awake_any w).mono ?_; rintro e w1 ⟨rfl, hb1⟩)
    go_ret
    exact ⟨rfl, hb1⟩
  · have hlong' : ¬ (100000 : Int) < s.size := by omega
    have Hsl : Hid ((bl s).length ≤ 100000) := Lib.hid (by rw [bl_length]; omega)
    go_enter Try.func6, Try.ntmps6
    go_wp2_with fail
    refine (awake_any w).mono ?_
    rintro e w1 ⟨rfl, hb1⟩
    have Hr1 := Lib.hid (Hr.out.below hb1 (Nat.le_refl _))
    have Hb1 := Lib.hid hb1
    clear hb1 Hr
    go_wp2_with fail
    refine (read_any s w1).mono ?_
    rintro e w2 ⟨rfl, hrd2, hb2, hsz2⟩
    have Hrd2 := Lib.hid hrd2
    have Hb2 := Lib.hid hb2
    have Hsz2 := Lib.hid hsz2
    clear hrd2 hb2 hsz2
    obtain ⟨w3, hw3⟩ : ∃ w3, w3 = w2.alloc (.cells #[.slice none 0 0, .int .i64 0] 53) := ⟨_, rfl⟩
    have H3 : Hid (OneAt w1 w1.heap.size w2.heap.size (bl s) (bl s) false ([], 0) w3) := Lib.hid (by
      rw [hw3]
      exact ⟨Hrd2.out.below ((Below.refl w2.heap.size w2).alloc (Nat.le_refl _) _) (by rw [Hsz2.out]; omega), WrM.zero w2, fun _ => ⟨rfl, rfl⟩, Hsl.out, Hb2.out.alloc (by rw [Hsz2.out]; omega) _⟩)
    have Har : Hid (w.heap.size ≤ w1.heap.size) := Lib.hid Hb1.out.size
    have Hlt : Hid (w1.heap.size < w2.heap.size) := Lib.hid (by rw [Hsz2.out]; omega)
    go_wp2
    rw [← hw3]
    clear hw3 Hrd2 Hb2 Hsz2
    generalize w2.heap.size = aw at *
    generalize har : w1.heap.size = ar at *
    have Hra := Lib.hid har
    clear har
    go_loopw [7] (fun iv wr => ∃ (i : Nat) (l : List UInt8) (bad : Bool) (st : WSt), i ≤ n ∧ iv = .int .i64 i ∧ OneAt w1 ar aw (bl s) l bad st wr) (fun iv _ => n - (intOf iv).toNat)
    case atStart => exact ⟨0, _, _, _, by omega, rfl, H3.out⟩
    case round =>
      clear H3
      obtain ⟨i, l, bad, st, hi, rfl, ho⟩ := hrel
      have Ho := Lib.hid ho
      clear ho
      by_cases hlt : i < n
      · by_cases h0 : l.length = 0
        · have hl0 : ¬ (0 : Int) < l.length := by omega
          by_cases he : endV l bad = 0
          · obtain ⟨hbad, hl⟩ := endV_ok he
            have Hone : Hid (st.2 = 0 ∧ st.1 = bl s) := Lib.hid (by
              have := Ho.out.one hbad
              rw [hl, List.append_nil] at this
              exact this)
            have he' : (endV l bad == 0) = true := by rw [he]; rfl
            have hne : (endV l bad != 0) = false := by rw [he]; rfl
            go_wp2_with (first | (go_at_call 24; refine (left_any l bad _ _ Ho.out.rd).mono ?_; rintro e w' ⟨rfl, rfl⟩) | (go_at_call 25; refine (end_any l bad _ _ Ho.out.rd).mono ?_; rintro e w' ⟨rfl, rfl⟩) | (go_at_call 11; refine (wbytes_any _ _ _ Ho.out.wr).mono ?_; rintro e w4 ⟨rfl, hw4, hb4⟩; rw [Hone.out.1, Hone.out.2, bs_bl]))
            go_ret
            exact ⟨by simp, Hb1.out.trans ((Ho.out.below.trans (hb4.mono (Nat.le_of_lt Ho.out.rd.lt))).mono Har.out)⟩
          · have hne : (endV l bad != 0) = true := by rw [bne_iff_ne]; exact he
            go_wp2_with (first | (go_at_call 24; refine (left_any l bad _ _ Ho.out.rd).mono ?_; rintro e w' ⟨rfl, rfl⟩) | (go_at_call 25; refine (end_any l bad _ _ Ho.out.rd).mono ?_; rintro e w' ⟨rfl, rfl⟩))
            go_ret
            exact ⟨rfl, Hb1.out.trans (Ho.out.below.mono Har.out)⟩
        · have hbad := Ho.out.rd.fine h0
          subst hbad
          have hl0 : (0 : Int) < l.length := by omega
          have hll := Ho.out.len
          obtain ⟨b, off, rfl, hbl, v, hc⟩ := Hr1.out i hlt
          have hcell := (Ho.out.below.cell (p := ⟨b, off + i, none⟩) (by rw [← Hra.out]; exact hbl)).trans hc
          clear hc
          cases v with
          | true =>
            have Hres := Lib.hid (fun r (hr : rdT 2097152 l false = r) => One.text Ho.out.one Hsl.out 2097152 r hr)
            have Hlen := Lib.hid (rdT_length 2097152 l false)
            have Ht := Lib.hid (text_any 2097152 l false ar wr Ho.out.rd (by omega))
            obtain ⟨r, hr⟩ : ∃ r, rdT 2097152 l false = r := ⟨_, rfl⟩
            have Hone := Lib.hid (Hres.out r hr)
            rw [hr] at Ht Hlen
            clear hr Hres
            obtain ⟨x, l2, b2⟩ := r
            go_wp2_with (first | (go_at_call 24; refine (left_any l false _ _ Ho.out.rd).mono ?_; rintro e w' ⟨rfl, rfl⟩) | (go_at_call 19; refine Ht.out.mono ?_; rintro e w4 ⟨rfl, hrd4, hg4⟩; have Hrd4 := Lib.hid hrd4; have Hg4 := Lib.hid hg4; have Hw4 := Lib.hid (Ho.out.wr.grown hg4 Hlt.out); clear hrd4 hg4) | (go_at_call 14; refine (wtext_any (bs x) _ _ _ Hw4.out (by have := Hlen.out.2; rw [bs_size]; omega)).mono ?_; rintro e w5 ⟨rfl, hw5, hb5⟩; rw [bl_bs] at hw5))
            go_roundw
            case rel => exact ⟨i + 1, l2, b2, _, by omega, by go_num, ⟨Hrd4.out.below hb5 Hlt.out, hw5, Hone.out, by have := Hlen.out.1; omega, (Ho.out.below.trans (below_grown Hg4.out (Nat.le_of_lt Ho.out.rd.lt))).trans (hb5.mono (Nat.le_of_lt Hlt.out))⟩⟩
            case measure => simp [intOf]; omega
          | false =>
            have Hres := Lib.hid (fun r (hr : rdN 4611686018427387903 l false = r) => One.num Ho.out.one Hsl.out r hr)
            have Hlen := Lib.hid (rdN_length 4611686018427387903 l false)
            have Hle := Lib.hid (rdN_le 4611686018427387903 l false)
            have Ht := Lib.hid (num_any l false ar wr Ho.out.rd (by omega))
            obtain ⟨r, hr⟩ : ∃ r, rdN 4611686018427387903 l false = r := ⟨_, rfl⟩
            have Hone := Lib.hid (Hres.out r hr)
            rw [hr] at Ht Hlen Hle
            clear hr Hres
            obtain ⟨x, l2, b2⟩ := r
            go_wp2_with (first | (go_at_call 24; refine (left_any l false _ _ Ho.out.rd).mono ?_; rintro e w' ⟨rfl, rfl⟩) | (go_at_call 17; refine Ht.out.mono ?_; rintro e w4 ⟨rfl, hrd4, hg4⟩; have Hrd4 := Lib.hid hrd4; have Hg4 := Lib.hid hg4; have Hw4 := Lib.hid (Ho.out.wr.grown hg4 Hlt.out); clear hrd4 hg4) | (go_at_call 13; refine (wnum_any (x : Int) _ _ _ Hw4.out (by have := Hle.out; unfold top at this; omega)).mono ?_; rintro e w5 ⟨rfl, hw5, hb5⟩))
            go_roundw
            case rel => exact ⟨i + 1, l2, b2, _, by omega, by go_num, ⟨Hrd4.out.below hb5 Hlt.out, hw5, Hone.out, by have := Hlen.out; omega, (Ho.out.below.trans (below_grown Hg4.out (Nat.le_of_lt Ho.out.rd.lt))).trans (hb5.mono (Nat.le_of_lt Hlt.out))⟩⟩
            case measure => simp [intOf]; omega
      · have hlt' : ¬ (i : Int) < n := by omega
        by_cases he : endV l bad = 0
        · obtain ⟨hbad, hl⟩ := endV_ok he
          have Hone : Hid (st.2 = 0 ∧ st.1 = bl s) := Lib.hid (by
            have := Ho.out.one hbad
            rw [hl, List.append_nil] at this
            exact this)
          have he' : (endV l bad == 0) = true := by rw [he]; rfl
          have hne : (endV l bad != 0) = false := by rw [he]; rfl
          go_wp2_with (first | (go_at_call 25; refine (end_any l bad _ _ Ho.out.rd).mono ?_; rintro e w' ⟨rfl, rfl⟩) | (go_at_call 11; refine (wbytes_any _ _ _ Ho.out.wr).mono ?_; rintro e w4 ⟨rfl, hw4, hb4⟩; rw [Hone.out.1, Hone.out.2, bs_bl]))
          go_ret
          exact ⟨by simp, Hb1.out.trans ((Ho.out.below.trans (hb4.mono (Nat.le_of_lt Ho.out.rd.lt))).mono Har.out)⟩
        · have hne : (endV l bad != 0) = true := by rw [bne_iff_ne]; exact he
          go_wp2_with (first | (go_at_call 25; refine (end_any l bad _ _ Ho.out.rd).mono ?_; rintro e w' ⟨rfl, rfl⟩))
          go_ret
          exact ⟨rfl, Hb1.out.trans (Ho.out.below.mono Har.out)⟩
end Go.Proofs.Ytdondonmggbmjaa
