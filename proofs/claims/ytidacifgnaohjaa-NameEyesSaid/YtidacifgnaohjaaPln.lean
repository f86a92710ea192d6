/-
  The contract of name's Plain.
-/
import Derived.Test.YtidacifgnaohjaaEsc
namespace Go.Proofs.Ytidacifgnaohjaa
open Go.RowKit

theorem showN_take (r : List UInt8) (h : sizeL r ≠ 0) : selfL (r.take (sizeL r)) = showN (toldL r) := by
  have hw : Whole (r.take (sizeL r)) := ⟨by rw [sizeL_take r (by omega)]; omega, by rw [sizeL_take r (by omega), List.length_take]; have := sizeL_le r; omega⟩
  rw [selfL_code _ hw, codeL_take r h]
  unfold showN toldL
  rw [if_neg h]
theorem whole_told (r : List UInt8) (h : sizeL r ≠ 0) : Whole (r.take (sizeL r)) :=
  ⟨by rw [sizeL_take r (by omega)]; omega, by rw [sizeL_take r (by omega), List.length_take]; have := sizeL_le r; omega⟩
theorem Bld.alloc {B b : Nat} {l : List UInt8} {w : World} (h : Bld B b l w) (o : Obj) : Bld B b l (w.alloc o) := by
  have one : ∀ p, Lib.BuilderAtF 34 5 B b p (Lib.byteCells l) w → Lib.BuilderAtF 34 5 B b p (Lib.byteCells l) (w.alloc o) := fun p h => by
    have hlt := h.lt
    obtain ⟨hB, v, hb, hown, hne⟩ := h
    exact ⟨hB, v, (Lib.alloc_old w o b hlt).trans hb, hown.alloc o, hne⟩
  exact h.elim (fun x => .inl (one _ x)) (fun x => .inr (one _ x))
theorem Bld.iterAt {B b : Nat} {l : List UInt8} {w : World} (h : Bld B b l w) {k : Nat} {s : ByteArray} {p : Nat} (hk : w.heap[k]? = some (.stringIter s p)) (q : Nat) : Bld B b l (w.iterAt k s q) :=
  Lib.IsBuilderF.iterAt h hk q
theorem code_take (r : List UInt8) (h : sizeL r ≠ 0) : codeL (r.take (sizeL r)) = toldL r := by
  rw [codeL_take r h]; unfold toldL; rw [if_neg h]
/-- What is shown of the next piece, by what the decoder tells. -/
theorem shown_bad (r : List UInt8) (h : sizeL r = 0) : shownL r = (r.take (widthL r)).flatMap escB := by
  unfold shownL widthL; rw [if_pos h, h]; rfl
theorem shown_self (r : List UInt8) (h : sizeL r ≠ 0) (hn : showN (toldL r) = true) : shownL r = r.take (sizeL r) := by
  unfold shownL; rw [if_neg h, if_pos (by rw [showN_take r h, hn])]
theorem shown_esc (r : List UInt8) (h : sizeL r ≠ 0) (hn : showN (toldL r) = false) : shownL r = (r.take (sizeL r)).flatMap escB := by
  unfold shownL; rw [if_neg h, if_neg (by rw [showN_take r h, hn]; simp)]
theorem plain_told (r : List UInt8) (h : r ≠ []) : plainL r = shownL r ++ plainL (r.drop (widthL r)) := plain_step r h

set_option maxRecDepth 100000 in
set_option maxHeartbeats 2000000 in
theorem plain_any (s : ByteArray) (w : World) (hs : s.size ≤ 100000) : Calls Try.prog 14 #[.string s] w fun e w' => e = .returned (.string (bs (plainL (bl s)))) ∧ Below w.heap.size w w' := by
  have H0 : Hid (plainL (bl s) = [] ++ plainL ((bl s).drop 0)) := Lib.hid (by simp)
  have Hf := Lib.hid (Bld.fresh w)
  go_enter Try.func14, Try.ntmps14
  go_wp2
  go_loopw [] (fun wr => ∃ k : Nat, ∃ o : List UInt8, k ≤ s.size ∧ o.length ≤ 3 * k ∧ wr.heap[w.heap.size + 1]? = some (.stringIter s k) ∧ Bld w.heap.size w.heap.size o wr ∧ Below w.heap.size w wr ∧ plainL (bl s) = o ++ plainL ((bl s).drop k)) (fun wr => s.size - wr.iterPos (w.heap.size + 1))
  case atStart =>
    exact ⟨0, [], by omega, by simp, by rw [show w.heap.size + 1 = (w.alloc (.cells #[.pointer none, .slice none 0 0] 34)).heap.size by simp]; exact World.iter_heap _ s 0, Hf.out.alloc _, ((Below.refl _ _).alloc (Nat.le_refl _) _).alloc (by simp) _, H0.out⟩
  case round =>
    obtain ⟨k, o, hk, hol, hit, hbl, hb, hpl⟩ := hrel
    have Hpl := Lib.hid hpl
    have Hb := Lib.hid hb
    have Hbl := Lib.hid hbl
    have hszw : w.heap.size + 1 < wr.heap.size := (Array.getElem?_eq_some_iff.1 hit).1
    clear hpl hb hbl
    by_cases hlt : k < s.size
    · have hnx : ∀ ty, (Instr.next (.pointer (some ⟨w.heap.size + 1, 0, none⟩)) true ty).run Try.prog wr = _ := fun ty => Lib.run_next_any_at wr (w.heap.size + 1) s k ty hit hlt
      have Hn : Hid (((bl s).drop k).length = s.size - k) := Lib.hid (by rw [List.length_drop, bl_length])
      have Hne : Hid ((bl s).drop k ≠ []) := Lib.hid (fun e => by have := Hn.out; rw [e] at this; simp at this; omega)
      have hw1 := widthL_pos ((bl s).drop k)
      have hw2 : widthL ((bl s).drop k) ≤ s.size - k := by have := widthL_le _ Hne.out; rw [Hn.out] at this; exact this
      have htl := told_lt ((bl s).drop k)
      have Hshn := Lib.hid (fun W => shown_any (toldL ((bl s).drop k)) W htl)
      have Hbr := Lib.hid (broken_any (s.extract k s.size))
      rw [bl_rest] at Hbr
      have Hstep : Hid (plainL (bl s) = (o ++ shownL ((bl s).drop k)) ++ plainL ((bl s).drop (k + widthL ((bl s).drop k)))) := Lib.hid (by rw [Hpl.out, plain_told _ Hne.out, List.drop_drop, List.append_assoc])
      have Hbad := Lib.hid (shown_bad ((bl s).drop k))
      have Hself := Lib.hid (shown_self ((bl s).drop k))
      have Hesc := Lib.hid (shown_esc ((bl s).drop k))
      have Hwh := Lib.hid (whole_told ((bl s).drop k))
      have Hct := Lib.hid (code_take ((bl s).drop k))
      have Hwz : Hid (widthL ((bl s).drop k) = max 1 (sizeL ((bl s).drop k))) := Lib.hid rfl
      have hz4 := sizeL_le4 ((bl s).drop k)
      simp only [decode_told s k hlt] at hnx
      clear Hpl
      generalize widthL ((bl s).drop k) = wd at *
      generalize toldL ((bl s).drop k) = c at *
      have Hit2 := Lib.hid (Lib.iterAt_heap wr (w.heap.size + 1) s k (k + wd) hit)
      have Hb2 := Lib.hid (Lib.below_iterAt Hb.out (k := w.heap.size + 1) (by omega) s (k + wd))
      have Hbl2 := Lib.hid (Hbl.out.iterAt hit (k + wd))
      have Hsz2 : Hid (w.heap.size ≤ (wr.iterAt (w.heap.size + 1) s (k + wd)).heap.size) := Lib.hid (by rw [Lib.iterAt_size]; omega)
      have hol2 : o.length ≤ 300000 := by omega
      have hkb : Hid (w.heap.size + 1 ≠ w.heap.size) := Lib.hid (by omega)
      clear Hb Hbl
      by_cases hz : sizeL ((bl s).drop k) = 0
      · have Hs : Hid (shownL ((bl s).drop k) = (((bl s).drop k).take wd).flatMap escB) := Lib.hid (Hbad.out hz)
        have hwd : wd = 1 := by have := Hwz.out; omega
        subst hwd
        have hex : Hid ((s.extract k (k + 1)).size ≤ 100000) := Lib.hid (by rw [ByteArray.size_extract]; omega)
        have He := Lib.hid (fun W (hW : Bld w.heap.size w.heap.size o W) hB => escape_any w.heap.size w.heap.size o (s.extract k (k + 1)) W hW (by omega) hex.out hB)
        rw [bl_part, ← Hs.out] at He
        have Hlen : Hid ((o ++ shownL ((bl s).drop k)).length ≤ 3 * (k + 1)) := Lib.hid (by rw [List.length_append, Hs.out, esc_length, List.length_take]; omega)
        rw [decide_eq_true hz] at Hbr
        clear hz Hbad Hself Hesc Hwh Hct Hwz
        go_wp2_with (first | (go_at_call 18; refine (Hbr.out _).mono ?_; rintro e w' ⟨rfl, rfl⟩) | (go_at_call 21; refine (He.out _ Hbl2.out Hsz2.out).mono ?_; rintro e w3 ⟨rfl, h1, h2, h3⟩; replace h1 := Lib.hid h1; replace h2 := Lib.hid h2; replace h3 := Lib.hid (h3.iter _ s _ Hit2.out hkb.out)))
        go_roundw
        case rel => exact ⟨k + 1, _, by omega, Hlen.out, h3.out, h1.out, Hb2.out.trans h2.out, Hstep.out⟩
        case measure =>
          simp only [World.iterPos, h3.out, hit]
          omega
      · have hwz : wd = sizeL ((bl s).drop k) := by have := Hwz.out; omega
        rw [← hwz] at Hself Hesc Hwh Hct
        have hw0 : wd ≠ 0 := by omega
        rw [decide_eq_false hz] at Hbr
        cases hn : showN c with
        | true =>
          have Hs : Hid (shownL ((bl s).drop k) = ((bl s).drop k).take wd) := Lib.hid (Hself.out hw0 hn)
          have Hw := Lib.hid (fun W (hW : Bld w.heap.size w.heap.size o W) hB => wrune_any w.heap.size w.heap.size o (((bl s).drop k).take wd) (Hwh.out hw0) W hW (by omega) hB (by rw [Hct.out hw0]; exact htl))
          rw [Hct.out hw0, ← Hs.out] at Hw
          rw [hn] at Hshn
          have Hlen : Hid ((o ++ shownL ((bl s).drop k)).length ≤ 3 * (k + wd)) := Lib.hid (by rw [List.length_append, Hs.out, List.length_take]; omega)
          clear hz hw0 Hbad Hself Hesc Hwh Hct Hwz hwz hn
          go_wp2_with (first | (go_at_call 18; refine (Hbr.out _).mono ?_; rintro e w' ⟨rfl, rfl⟩) | (go_at_call 22; refine (Hshn.out _).mono ?_; rintro e w' ⟨rfl, rfl⟩) | (go_at_call 23; refine (Hw.out _ Hbl2.out Hsz2.out).mono ?_; rintro e w3 ⟨rfl, h1, h2, h3⟩; replace h1 := Lib.hid h1; replace h2 := Lib.hid h2; replace h3 := Lib.hid (h3.iter _ s _ Hit2.out hkb.out)))
          go_roundw
          case rel => exact ⟨k + wd, _, by omega, Hlen.out, h3.out, h1.out, Hb2.out.trans h2.out, Hstep.out⟩
          case measure =>
            simp only [World.iterPos, h3.out, hit]
            omega
        | false =>
          have Hs : Hid (shownL ((bl s).drop k) = (((bl s).drop k).take wd).flatMap escB) := Lib.hid (Hesc.out hw0 hn)
          have hwl : Hid ((((bl s).drop k).take wd).length = wd) := Lib.hid (by rw [List.length_take, Hn.out]; omega)
          have Hrl : Hid (Lib.runeLen (c : Int) = (wd : Int)) := Lib.hid (by
            have := runelen_code _ (Hwh.out hw0)
            rw [Hct.out hw0, hwl.out] at this
            exact this)
          have Hr := Lib.hid (fun W => runelen_any (c : Int) W)
          rw [Hrl.out] at Hr
          have hex : Hid ((s.extract k (k + wd)).size ≤ 100000) := Lib.hid (by rw [ByteArray.size_extract]; omega)
          have He := Lib.hid (fun W (hW : Bld w.heap.size w.heap.size o W) hB => escape_any w.heap.size w.heap.size o (s.extract k (k + wd)) W hW (by omega) hex.out hB)
          rw [bl_part, ← Hs.out] at He
          rw [hn] at Hshn
          have Hlen : Hid ((o ++ shownL ((bl s).drop k)).length ≤ 3 * (k + wd)) := Lib.hid (by rw [List.length_append, Hs.out, esc_length, hwl.out]; omega)
          have hkw : k + wd ≤ s.size := by omega
          clear hz hw0 Hbad Hself Hesc Hwh Hct Hwz hwz hn
          go_wp2_with (first | (go_at_call 18; refine (Hbr.out _).mono ?_; rintro e w' ⟨rfl, rfl⟩) | (go_at_call 22; refine (Hshn.out _).mono ?_; rintro e w' ⟨rfl, rfl⟩) | (go_at_call 24; refine (Hr.out _).mono ?_; rintro e w' ⟨rfl, rfl⟩) | (go_at_call 21; refine (He.out _ Hbl2.out Hsz2.out).mono ?_; rintro e w3 ⟨rfl, h1, h2, h3⟩; replace h1 := Lib.hid h1; replace h2 := Lib.hid h2; replace h3 := Lib.hid (h3.iter _ s _ Hit2.out hkb.out)))
          go_roundw
          case rel => exact ⟨k + wd, _, by omega, Hlen.out, h3.out, h1.out, Hb2.out.trans h2.out, Hstep.out⟩
          case measure =>
            simp only [World.iterPos, h3.out, hit]
            omega
    · have hnx : ∀ ty, (Instr.next (.pointer (some ⟨w.heap.size + 1, 0, none⟩)) true ty).run Try.prog wr = _ := fun ty => Lib.run_next_end_at wr (w.heap.size + 1) s k ty hit hlt
      have Hv : Hid (plainL (bl s) = o) := Lib.hid (by
        rw [Hpl.out, List.drop_eq_nil_of_le (by rw [bl_length]; omega), plain_nil, List.append_nil])
      go_wp2_with (go_at_call 25; refine (wstring_any _ _ _ _ Hbl.out (by omega)).mono ?_; rintro e w3 ⟨rfl, h2⟩)
      go_ret
      exact ⟨by rw [Hv.out]; rfl, Hb.out.trans h2⟩
end Go.Proofs.Ytidacifgnaohjaa
