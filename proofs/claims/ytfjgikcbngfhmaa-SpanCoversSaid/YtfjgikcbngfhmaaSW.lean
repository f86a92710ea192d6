/-
  The closure of SpanPoints: how many right spans have the key.
-/
import Derived.Test.YtfjgikcbngfhmaaSV
namespace Go.Proofs.Ytfjgikcbngfhmaa
open Go.RowKit
set_option linter.unusedSimpArgs false
set_option linter.unusedVariables false

/-- How many right spans have the key. -/
@[irreducible] def cntL (l : List Sp) (k : List UInt8) : Nat := l.countP fun s => validL s && hasL s k
theorem cnt_nil (k : List UInt8) : cntL [] k = 0 := by unfold cntL; rfl
theorem cnt_one (l : List Sp) (s : Sp) (k : List UInt8) : cntL (l ++ [s]) k = cntL l k + (if validL s && hasL s k then 1 else 0) := by
  unfold cntL
  rw [List.countP_append, List.countP_singleton]
theorem cnt_le (l : List Sp) (k : List UInt8) : cntL l k ≤ l.length := by unfold cntL; exact List.countP_le_length
theorem cnt_pos (l : List Sp) (k : List UInt8) : decide (0 < cntL l k) = anyL l k := by
  unfold cntL anyL
  rw [Bool.eq_iff_iff, decide_eq_true_eq, List.any_eq_true]
  constructor
  · intro h
    obtain ⟨s, hs, hp⟩ := List.countP_pos_iff.1 h
    exact ⟨s, hs, hp⟩
  · rintro ⟨s, hs, hp⟩
    exact List.countP_pos_iff (p := fun s => validL s && hasL s k) |>.2 ⟨s, hs, hp⟩

set_option maxRecDepth 100000 in
set_option maxHeartbeats 4000000 in
theorem in_any (G : Good) (l : List Sp) (A : Option Addr) (n cap : Nat) (k : List UInt8) (B : Nat) (w : World) (hn : l.length = n) (hr : RowAt w A (spC l)) (hn2 : n ≤ 1000) (hB : B < w.heap.size) (hc : w.cell? ⟨B, 0, none⟩ = some (.string (bs k))) :
    Calls Try.prog 26 #[.slice A n cap, .pointer (some ⟨B, 0, none⟩)] w fun e w' => e = .returned (.bool (anyL l k)) ∧ Below w.heap.size w w' := by
  have Hr := Lib.hid hr
  have Hn := Lib.hid hn
  have HB := Lib.hid hB
  have Hc := Lib.hid hc
  have HG := Lib.hid G
  clear hr hn hB hc G
  go_enter Try.func26, Try.ntmps26
  go_wp2
  go_loopw [4, 8] (fun cv iv wr => ∃ i : Nat, i ≤ n ∧ iv = .int .i64 i ∧ cv = .int .i64 (cntL (l.take i) k) ∧ Below w.heap.size w wr) (fun _ iv _ => n - (intOf iv).toNat)
  case atStart => exact ⟨0, by omega, rfl, by rw [List.take_zero, cnt_nil]; rfl, Below.refl _ _⟩
  case round =>
    obtain ⟨i, hi, rfl, rfl, hb⟩ := hrel
    have Hb := Lib.hid hb
    clear hb
    obtain ⟨c, hcc⟩ : ∃ c, c = cntL (l.take i) k := ⟨_, rfl⟩
    have hci : c ≤ i := by
      have := cnt_le (l.take i) k
      rw [List.length_take] at this
      omega
    have Hcc := Lib.hid hcc
    rw [← hcc]
    clear hcc
    by_cases hlt : i < n
    · have hlt' : (i : Int) < (n : Int) := by omega
      have hi0 : (0 : Int) ≤ (i : Int) := by omega
      obtain ⟨s, hs⟩ : ∃ s, l[i]? = some s := ⟨_, List.getElem?_eq_getElem (by rw [Hn.out]; exact hlt)⟩
      obtain ⟨b, off, rfl, hbl, e0, e1⟩ := row_span Hr.out i s hs
      have hnx := cnt_one (l.take i) s k
      rw [← take_more l i s hs, ← Hcc.out] at hnx
      have Hnx := Lib.hid hnx
      have hcl0 : ∀ z : InW (Below wr.heap.size wr), z.wd.cell? ⟨b, off + i * 2, none⟩ = some (.string (bs s.1)) := fun z => (z.ok.cell (p := ⟨b, off + i * 2, none⟩) (Nat.lt_of_lt_of_le hbl Hb.out.size)).trans ((Hb.out.cell (p := ⟨b, off + i * 2, none⟩) hbl).trans e0)
      have hcl1 : ∀ z : InW (Below wr.heap.size wr), z.wd.cell? ⟨b, off + i * 2 + 1, none⟩ = some (.string (bs s.2)) := fun z => (z.ok.cell (p := ⟨b, off + i * 2 + 1, none⟩) (Nat.lt_of_lt_of_le hbl Hb.out.size)).trans ((Hb.out.cell (p := ⟨b, off + i * 2 + 1, none⟩) hbl).trans e1)
      have hcl2 : ∀ z : InW (Below wr.heap.size wr), z.wd.cell? ⟨B, 0, none⟩ = some (.string (bs k)) := fun z => (z.ok.cell (p := ⟨B, 0, none⟩) (Nat.lt_of_lt_of_le HB.out Hb.out.size)).trans ((Hb.out.cell (p := ⟨B, 0, none⟩) HB.out).trans Hc.out)
      have hinh : Nonempty (InW (Below wr.heap.size wr)) := ⟨⟨wr, Below.refl _ wr⟩⟩
      have Hval : Hid (∀ z : InW (Below wr.heap.size wr), Calls Try.prog 12 #[.agg #[.string (bs s.1), .string (bs s.2)]] z.wd fun e w'' => e = .returned (.bool (validL s)) ∧ ∃ m : InW (Below wr.heap.size wr), w'' = m.wd) := Lib.hid (fun z => (HG.out.right s z.wd).mono (by rintro e w'' ⟨rfl, hb⟩; exact ⟨rfl, ⟨⟨w'', z.ok.trans (hb.mono z.ok.size)⟩, rfl⟩⟩))
      have Hhas : Hid (∀ z : InW (Below wr.heap.size wr), Calls Try.prog 14 #[.agg #[.string (bs s.1), .string (bs s.2)], .string (bs k)] z.wd fun e w'' => e = .returned (.bool (hasL s k)) ∧ ∃ m : InW (Below wr.heap.size wr), w'' = m.wd) := Lib.hid (fun z => (HG.out.has s k z.wd).mono (by rintro e w'' ⟨rfl, hb⟩; exact ⟨rfl, ⟨⟨w'', z.ok.trans (hb.mono z.ok.size)⟩, rfl⟩⟩))
      clear hnx hs e0 e1
      cases h1 : validL s with
      | false =>
        rw [h1] at Hval Hnx
        rw [Bool.false_and, if_neg (by simp)] at Hnx
        clear h1 Hcc
        go_wp2_with fail
        refine wp_region_quiet_in (Below wr.heap.size wr) (by kernel_rfl) (by kernel_rfl) ((Below.refl _ wr).drew) ?_
        repeat (go_big_quiet_step ((first | (go_at_call 14; exact Hhas.out _) | (go_at_call 12; exact Hval.out _))))
        refine wpQuiet_nil ?_
        intro w3 hx3
        obtain ⟨x3, hx3⟩ := hx3
        have Hb3 : Hid (Below w.heap.size w w3) := Lib.hid (Hb.out.trans ((show Below wr.heap.size wr w3 by rw [hx3]; exact x3.ok).mono Hb.out.size))
        clear hx3 x3 hcl0 hcl1 hcl2 hinh Hhas Hval
        go_wp2
        go_roundw
        case rel => exact ⟨i + 1, by omega, by go_num, by rw [Hnx.out]; go_num, Hb3.out⟩
        case measure => simp [intOf]; omega
      | true =>
        rw [h1] at Hval Hnx
        rw [Bool.true_and] at Hnx
        cases h2 : hasL s k with
        | false =>
          rw [h2] at Hhas Hnx
          rw [if_neg (by simp)] at Hnx
          clear h1 h2 Hcc
          go_wp2_with fail
          refine wp_region_quiet_in (Below wr.heap.size wr) (by kernel_rfl) (by kernel_rfl) ((Below.refl _ wr).drew) ?_
          repeat (go_big_quiet_step ((first | (go_at_call 14; exact Hhas.out _) | (go_at_call 12; exact Hval.out _))))
          refine wpQuiet_nil ?_
          intro w3 hx3
          obtain ⟨x3, hx3⟩ := hx3
          have Hb3 : Hid (Below w.heap.size w w3) := Lib.hid (Hb.out.trans ((show Below wr.heap.size wr w3 by rw [hx3]; exact x3.ok).mono Hb.out.size))
          clear hx3 x3 hcl0 hcl1 hcl2 hinh Hhas Hval
          go_wp2
          go_roundw
          case rel => exact ⟨i + 1, by omega, by go_num, by rw [Hnx.out]; go_num, Hb3.out⟩
          case measure => simp [intOf]; omega
        | true =>
          rw [h2] at Hhas Hnx
          rw [if_pos rfl] at Hnx
          clear h1 h2 Hcc
          go_wp2_with fail
          refine wp_region_quiet_in (Below wr.heap.size wr) (by kernel_rfl) (by kernel_rfl) ((Below.refl _ wr).drew) ?_
          repeat (go_big_quiet_step ((first | (go_at_call 14; exact Hhas.out _) | (go_at_call 12; exact Hval.out _))))
          refine wpQuiet_nil ?_
          intro w3 hx3
          obtain ⟨x3, hx3⟩ := hx3
          have Hb3 : Hid (Below w.heap.size w w3) := Lib.hid (Hb.out.trans ((show Below wr.heap.size wr w3 by rw [hx3]; exact x3.ok).mono Hb.out.size))
          clear hx3 x3 hcl0 hcl1 hcl2 hinh Hhas Hval
          go_wp2
          go_roundw
          case rel => exact ⟨i + 1, by omega, by go_num, by rw [Hnx.out]; go_num, Hb3.out⟩
          case measure => simp [intOf]; omega
    · have hlt' : ¬ (i : Int) < (n : Int) := by omega
      have Hall : Hid (decide (0 < c) = anyL l k) := Lib.hid (by
        rw [Hcc.out, List.take_of_length_le (by rw [Hn.out]; omega)]
        exact cnt_pos l k)
      go_wp2
      go_ret
      exact ⟨by rw [← Hall.out]; rfl, Hb.out⟩
end Go.Proofs.Ytfjgikcbngfhmaa
