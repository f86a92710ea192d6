/-
  The contracts of hash.joined, hash.Sum, hash.Parts and hash.Mac.
-/
import Derived.Test.YtemiphbblaikjaaDoorSum
namespace Go.Proofs.YtemiphbblaikjaaDoor
open Go.RowKit

/-- A row of texts. -/
def SRow (w : World) (A : Option Addr) (n : Nat) (ss : List ByteArray) : Prop :=
  ss.length = n ∧ ∀ i, i < n → ∃ b off, A = some ⟨b, off, none⟩ ∧ b < w.heap.size ∧ w.cell? ⟨b, off + i, none⟩ = some (.string (ss.getD i ByteArray.empty))
theorem SRow.below {w w' : World} {A : Option Addr} {n : Nat} {ss : List ByteArray} (h : SRow w A n ss) {B : Nat} (hb : Below B w w') (hB : w.heap.size ≤ B) : SRow w' A n ss :=
  ⟨h.1, fun i hi => by
    obtain ⟨b, off, e, hlt, hc⟩ := h.2 i hi
    exact ⟨b, off, e, by have := hb.size; omega, (hb.cell (p := ⟨b, off + i, none⟩) (by show b < B; omega)).trans hc⟩⟩
def cat (ss : List ByteArray) : List UInt8 := ss.flatMap bl
theorem cat_take (ss : List ByteArray) (k : Nat) (h : k < ss.length) : cat (ss.take (k + 1)) = cat (ss.take k) ++ bl (ss.getD k ByteArray.empty) := by
  unfold cat
  rw [take_snoc ss k h ByteArray.empty, List.flatMap_append]; simp
theorem cat_le (ss : List ByteArray) (k : Nat) : (cat (ss.take k)).length ≤ (cat ss).length := by
  have : cat ss = cat (ss.take k) ++ cat (ss.drop k) := by unfold cat; rw [← List.flatMap_append, List.take_append_drop]
  rw [this, List.length_append]; omega
/-- What the loops over texts hold. -/
def LoopAt (w0 : World) (a : Nat) (c : List UInt8) (w : World) : Prop := Strm w a c ∧ Below a w0 w

set_option maxRecDepth 100000 in
set_option maxHeartbeats 1000000 in
theorem joined_any (ss : List ByteArray) (A : Option Addr) (n cap : Nat) (w : World) (hs : SRow w A n ss) (hk : KsAt w) (h0 : StartAt w) (ha : 2 ≤ w.heap.size) (hlen : (cat ss).length < 1073741824) (hn : n ≤ 1000000) :
    Calls Tryd.prog 23 #[.slice A n cap] w fun e w' => e = .returned (.string (bs (sha (cat ss)))) ∧ Below w.heap.size w w' := by
  have Hs := Lib.hid hs
  have Hk := Lib.hid hk
  have H0 := Lib.hid h0
  have Hlen := Lib.hid hlen
  clear hs hk h0 hlen
  go_enter Tryd.func23, Tryd.ntmps23
  go_wp2_with fail
  refine (new_any w).mono ?_
  rintro e w1 ⟨rfl, hst1, hsz1, hb1⟩
  have Hst1 := Lib.hid hst1
  have Hb1 := Lib.hid hb1
  clear hst1 hb1 hsz1
  go_wp2
  go_loopw [5, 9] (fun _ i wr => ∃ k : Nat, k ≤ n ∧ i = .int .i64 k ∧ LoopAt w w.heap.size (cat (ss.take k)) wr) (fun _ i _ => n - (intOf i).toNat)
  case atStart => exact ⟨0, by omega, rfl, Hst1.out, Hb1.out⟩
  case round =>
    clear Hst1 Hb1
    obtain ⟨k, hk, rfl, hst, hb⟩ := hrel
    have Hst := Lib.hid hst
    have Hb := Lib.hid hb
    clear hst hb
    by_cases hlt : k < n
    · obtain ⟨b, off, rfl, hbl, hc⟩ := Hs.out.2 k hlt
      have hcell := (Hb.out.cell (p := ⟨b, off + k, none⟩) hbl).trans hc
      have Hcat := Lib.hid (cat_take ss k (by rw [Hs.out.1]; exact hlt))
      have Hle := Lib.hid (cat_le ss (k + 1))
      have Hk1 := Lib.hid (Hk.out.below Hb.out ha)
      have H01 := Lib.hid (H0.out.below Hb.out ha)
      clear hc
      generalize ss.getD k ByteArray.empty = t at *
      go_wp2_with fail
      refine (write_any _ t w.heap.size wr Hst.out Hk1.out H01.out ha ?_).mono ?_
      · have h1 := Hle.out
        rw [Hcat.out, List.length_append, bl_length] at h1
        have := Hlen.out
        omega
      rintro e w2 ⟨rfl, hst2, hb2⟩
      rw [← Hcat.out] at hst2
      have Hst2 := Lib.hid hst2
      have Hb2 := Lib.hid (Hb.out.trans hb2)
      clear hst2 hb2
      go_wp2
      go_roundw
      case rel => exact ⟨k + 1, by omega, by go_num, Hst2.out, Hb2.out⟩
      case measure => simp [intOf]; omega
    · have Hend : Hid (Strm wr w.heap.size (cat ss)) := Lib.hid (by
        have := Hst.out
        rwa [List.take_of_length_le (by rw [Hs.out.1]; omega)] at this)
      have Hk1 := Lib.hid (Hk.out.below Hb.out ha)
      have H01 := Lib.hid (H0.out.below Hb.out ha)
      go_wp2_with fail
      refine (ssum_any _ w.heap.size wr Hend.out Hk1.out H01.out ha Hlen.out).mono ?_
      rintro e w2 ⟨rfl, hb2⟩
      have Hb2 := Lib.hid (Hb.out.trans (hb2.mono Hb.out.size))
      clear hb2
      go_wp2
      go_ret
      exact ⟨rfl, Hb2.out⟩

theorem srow_lit (w : World) (ss : List ByteArray) (n : Nat) (hn : ss.length = n) (C : Array Value) (hC : C.toList = ss.map Value.string) : SRow (w.alloc (.cells C 9)) (some ⟨w.heap.size, 0, none⟩) n ss := by
  refine ⟨hn, fun i hi => ⟨_, _, rfl, by simp, ?_⟩⟩
  rw [Nat.zero_add]
  refine Holds.cell (Holds.new w 9 C) ?_
  rw [hC, List.getElem?_map, List.getElem?_eq_getElem (by omega), List.getD_eq_getElem?_getD, List.getElem?_eq_getElem (by omega)]; rfl

set_option maxHeartbeats 1000000 in
theorem hsum_any (s : ByteArray) (w : World) (hk : KsAt w) (h0 : StartAt w) (ha : 2 ≤ w.heap.size) (hlen : s.size < 1073741824) :
    Calls Tryd.prog 10 #[.string s] w fun e w' => e = .returned (.string (bs (sha (bl s)))) ∧ Below w.heap.size w w' := by
  have hb : Below w.heap.size w (w.alloc (.cells #[.string s] 9)) := (Below.refl _ _).alloc (Nat.le_refl _) _
  have Hb := Lib.hid hb
  have Hk := Lib.hid (hk.below hb ha)
  have H0 := Lib.hid (h0.below hb ha)
  have Hs := Lib.hid (srow_lit w [s] 1 rfl #[.string s] rfl)
  have Hcat : Hid (cat [s] = bl s) := Lib.hid (by simp [cat])
  clear hb hk h0
  go_enter Tryd.func10, Tryd.ntmps10
  go_wp2_with fail
  refine (joined_any [s] _ 1 _ _ Hs.out Hk.out H0.out (by simp; omega) (by rw [Hcat.out, bl_length]; exact hlen) (by omega)).mono ?_
  rintro e w2 ⟨rfl, hb2⟩
  rw [Hcat.out]
  have Hb2 := Lib.hid (Hb.out.trans (hb2.mono (by simp)))
  clear hb2
  go_wp2
  go_ret
  exact ⟨rfl, Hb2.out⟩
end Go.Proofs.YtemiphbblaikjaaDoor
