/-
  The contracts of truncate, kept, Used, Fuse, Room, New, Read.
-/
import Derived.Test.YtbgfkjafablfiaaDB
namespace Go.Proofs.Ytbgfkjafablfiaa
open Go.RowKit Go.Maps

section
variable {w w' : World} {r : Nat} {mb : Option Nat} {gm : List UInt8 → Nat} {vm : List UInt8 → Value} {s : St}
theorem own_conv {v : Value} {n : Nat} {l : List UInt8} (h : w.ownsRow 0 5 1 v n (byC l)) : (convert 49 9 v).run Try.prog w = .ok (.string (bs l)) w := by
  have hl : l.length = n := by have := h.1; rw [byC_length] at this; omega
  rcases h.2 with ⟨rfl, rfl⟩ | ⟨g, cap, cur, rfl, _, hh, _, _, _, ht⟩
  · have : l = [] := List.eq_nil_of_length_eq_zero hl
    subst this
    rw [run_convert_bytes_string w 49 9 5 none 0 0 Try.underlying49 Try.underlying5 Try.underlying9, bs_eq]
    rfl
  · refine conv_row (t := 5) (rest := cur.toList.drop n) ?_ n cap hl
    unfold Holds
    rw [hh]
    have : byC l ++ cur.toList.drop n = cur.toList := by
      rw [← ht, Nat.mul_one, List.take_append_drop]
    rw [this]

set_option maxRecDepth 100000 in
set_option maxHeartbeats 2000000 in
theorem used_m (h : DskM w r mb gm vm s) : Calls Try.prog 20 #[.pointer (some ⟨r, 0, none⟩)] w fun e w' => e = .returned (.int .i64 (usedS s : Nat)) ∧ w' = w := by
  obtain ⟨_, c1, _, _, _, _⟩ := h.cells
  have HD := Lib.hid (down_m h)
  clear h
  unfold usedS
  by_cases ho : s.off = true
  · rw [if_pos ho]
    rw [ho] at HD
    clear ho
    go_enter Try.func20, Try.ntmps20
    go_wp2_with (go_at_call 19; refine HD.out.mono ?_; rintro e w' ⟨rfl, rfl⟩)
    go_ret
    exact ⟨rfl, rfl⟩
  · rw [if_neg ho]
    rw [off_false ho] at HD
    clear ho
    go_enter Try.func20, Try.ntmps20
    go_wp2_with (go_at_call 19; refine HD.out.mono ?_; rintro e w' ⟨rfl, rfl⟩)
    go_ret
    exact ⟨rfl, rfl⟩

set_option maxRecDepth 100000 in
set_option maxHeartbeats 2000000 in
theorem fuse_m (h : DskM w r mb gm vm s) (n : Int) (hn : I64 n) : Calls Try.prog 18 #[.pointer (some ⟨r, 0, none⟩), .int .i64 n] w fun e w' => e = .returned (.tuple #[]) ∧ DskM w' r mb gm vm (fuseS n s) ∧ Only (fun k => k = r) w w' := by
  obtain ⟨_, _, _, _, c4, c5⟩ := h.cells
  have f4 := h.box.frozen 4
  have f5 := h.box.frozen 5
  obtain ⟨hn1, hn2⟩ := hn
  have Hn : Hid (∀ b x, b = decide (0 ≤ n) → x = max n 0 → DskM ((w.setCell ⟨r, 4, none⟩ (.bool b)).setCell ⟨r, 5, none⟩ (.int .i64 x)) r mb gm vm (fuseS n s) ∧ Only (fun k => k = r) w ((w.setCell ⟨r, 4, none⟩ (.bool b)).setCell ⟨r, 5, none⟩ (.int .i64 x))) := Lib.hid (fun b x hb hx => by
    have ho := (only_set w r 4 (.bool b)).trans (only_set _ r 5 (.int .i64 x))
    refine ⟨h.boxed rfl ho ?_, ho⟩
    have := (h.box.set 4 (.bool b)).set 5 (.int .i64 x)
    rw [hb, hx] at this ⊢
    refine cast (congrArg (Holds _ r 58) ?_) this
    have e1 : decide (0 ≤ (fuseS n s).fuse) = decide (0 ≤ n) := decide_eq_decide.2 (by show 0 ≤ max n (-1) ↔ _; omega)
    have e2 : max (fuseS n s).fuse 0 = max n 0 := by show max (max n (-1)) 0 = _; omega
    unfold boxC
    rw [e1, e2]
    rfl)
  clear h
  by_cases h0 : 0 ≤ n
  · have Hn2 := Lib.hid (Hn.out true n (decide_eq_true h0).symm (by omega))
    have h1 : ¬ n < 0 := by omega
    have hm : max n 0 = n := by omega
    clear Hn
    go_enter Try.func18, Try.ntmps18
    go_wp2
    go_end0
    exact ⟨rfl, Hn2.out⟩
  · have Hn2 := Lib.hid (Hn.out false 0 (decide_eq_false h0).symm (by omega))
    have h1 : n < 0 := by omega
    have hm : max n 0 = 0 := by omega
    clear Hn
    go_enter Try.func18, Try.ntmps18
    go_wp2
    go_end0
    exact ⟨rfl, Hn2.out⟩

set_option maxRecDepth 100000 in
set_option maxHeartbeats 2000000 in
theorem room_m (h : DskM w r mb gm vm s) (n : Int) (hn : I64 n) : Calls Try.prog 24 #[.pointer (some ⟨r, 0, none⟩), .int .i64 n] w fun e w' => e = .returned (.int .i64 (roomS n s).1) ∧ DskM w' r mb gm vm (roomS n s).2 ∧ Only (fun k => k = r) w w' := by
  obtain ⟨_, _, c2, _, _, _⟩ := h.cells
  have f2 := h.box.frozen 2
  obtain ⟨hn1, hn2⟩ := hn
  by_cases hr : 0 ≤ n ∧ n ≤ 8388608
  · have hv : roomS n s = (0, { s with room := n }) := if_pos hr
    rw [hv]
    have Hn := Lib.hid (h.setBox (s' := { s with room := n }) 2 (.int .i64 n) rfl rfl)
    have h1 : ¬ n < 0 := by omega
    have h2 : ¬ 8388608 < n := by omega
    clear h hr hv
    go_enter Try.func24, Try.ntmps24
    go_wp2
    go_ret
    exact ⟨rfl, Hn.out, only_set _ _ _ _⟩
  · have hv : roomS n s = (1, s) := if_neg hr
    rw [hv]
    have H := Lib.hid h
    clear h hv
    by_cases h1 : n < 0
    · clear hr
      go_enter Try.func24, Try.ntmps24
      go_wp2
      go_ret
      exact ⟨rfl, H.out, Only.refl _ _⟩
    · have h2 : 8388608 < n := by omega
      clear hr
      go_enter Try.func24, Try.ntmps24
      go_wp2
      go_ret
      exact ⟨rfl, H.out, Only.refl _ _⟩

set_option maxRecDepth 100000 in
set_option maxHeartbeats 2000000 in
theorem read_m (h : DskM w r mb gm vm s) {nm : List UInt8} (hnm : nm.length ≤ 9223372036854775807) : Calls Try.prog 17 #[.pointer (some ⟨r, 0, none⟩), .string (bs nm)] w fun e w' => e = .returned (.tuple #[.string (bs (readS nm s).1), .int .i64 (readS nm s).2]) ∧ w' = w := by
  have HF := Lib.hid (find_m h hnm)
  have H := Lib.hid h
  clear h
  unfold readS
  by_cases ho : s.off = true
  · rw [if_pos ho]
    rw [findV_off ho] at HF
    clear ho
    go_enter Try.func17, Try.ntmps17
    go_wp2_with (go_at_call 35; refine HF.out.mono ?_; rintro e w' ⟨rfl, rfl⟩)
    go_ret2
    exact ⟨by rw [show bs [] = ({ data := #[] } : ByteArray) by rw [bs_eq]]; rfl, rfl⟩
  · rw [if_neg ho]
    have ho' := off_false ho
    cases hat : atN nm s.files with
    | none =>
      rw [findV_none ho' hat] at HF
      clear ho ho' hat
      go_enter Try.func17, Try.ntmps17
      go_wp2_with (go_at_call 35; refine HF.out.mono ?_; rintro e w' ⟨rfl, rfl⟩)
      go_ret2
      exact ⟨by rw [show bs [] = ({ data := #[] } : ByteArray) by rw [bs_eq]]; rfl, rfl⟩
    | some i =>
      obtain ⟨f, hf, hn⟩ := atN_some hat
      simp only [hf]
      rw [findV_some ho' hat] at HF
      have hfil := H.out.fil f (List.mem_of_getElem? hf)
      rw [hn] at hfil
      have c0 := hfil.box.cell (i := 0) rfl
      have hcv := own_conv hfil.own
      clear ho ho' hat hf hn hfil H
      generalize vm nm = v at *
      generalize gm nm = g at *
      go_enter Try.func17, Try.ntmps17
      go_wp2_with (go_at_call 35; refine HF.out.mono ?_; rintro e w' ⟨rfl, rfl⟩)
      go_ret2
      exact ⟨rfl, rfl⟩
end
end Go.Proofs.Ytbgfkjafablfiaa
