/-
  The contracts of hash.Parts and hash.Mac.
-/
import Derived.Test.YtemiphbblaikjaaDoorJoin
namespace Go.Proofs.YtemiphbblaikjaaDoor
open Go.RowKit

/-- The parts, each with its length ahead. -/
def partsL (ss : List ByteArray) : List UInt8 := ss.flatMap fun p => numL p.size 8 ++ bl p
theorem partsL_take (ss : List ByteArray) (k : Nat) (h : k < ss.length) : partsL (ss.take (k + 1)) = partsL (ss.take k) ++ numL (ss.getD k ByteArray.empty).size 8 ++ bl (ss.getD k ByteArray.empty) := by
  unfold partsL
  rw [take_snoc ss k h ByteArray.empty, List.flatMap_append]; simp
theorem partsL_le (ss : List ByteArray) (k : Nat) : (partsL (ss.take k)).length ≤ (partsL ss).length := by
  have : partsL ss = partsL (ss.take k) ++ partsL (ss.drop k) := by unfold partsL; rw [← List.flatMap_append, List.take_append_drop]
  rw [this, List.length_append]; omega

set_option maxRecDepth 100000 in
set_option maxHeartbeats 1000000 in
theorem parts_any (ss : List ByteArray) (A : Option Addr) (n cap : Nat) (w : World) (hs : SRow w A n ss) (hk : KsAt w) (h0 : StartAt w) (ha : 2 ≤ w.heap.size) (hlen : (partsL ss).length < 1073741824) (hn : n ≤ 1000000) :
    Calls Tryd.prog 13 #[.slice A n cap] w fun e w' => e = .returned (.string (bs (sha (partsL ss)))) ∧ Below w.heap.size w w' := by
  have Hs := Lib.hid hs
  have Hk := Lib.hid hk
  have H0 := Lib.hid h0
  have Hlen := Lib.hid hlen
  clear hs hk h0 hlen
  go_enter Tryd.func13, Tryd.ntmps13
  go_wp2_with fail
  refine (new_any w).mono ?_
  rintro e w1 ⟨rfl, hst1, hsz1, hb1⟩
  have Hst1 := Lib.hid hst1
  have Hb1 := Lib.hid hb1
  clear hst1 hb1 hsz1
  go_wp2
  go_loopw [5, 9] (fun _ i wr => ∃ k : Nat, k ≤ n ∧ i = .int .i64 k ∧ LoopAt w w.heap.size (partsL (ss.take k)) wr) (fun _ i _ => n - (intOf i).toNat)
  case atStart => exact ⟨0, by omega, rfl, Hst1.out, Hb1.out⟩
  case round =>
    clear Hst1 Hb1
    obtain ⟨k, hk, rfl, hst, hb⟩ := hrel
    have Hst := Lib.hid hst
    have Hb := Lib.hid hb
    clear hst hb
    by_cases hlt : k < n
    · obtain ⟨b, off, rfl, hbl, hc⟩ := Hs.out.2 k hlt
      have hcell := (Hb.out.cell (p := ⟨b, off + k, none⟩) hbl).trans hc
      have Hcat := Lib.hid (partsL_take ss k (by rw [Hs.out.1]; exact hlt))
      have Hle := Lib.hid (partsL_le ss (k + 1))
      have Hk1 := Lib.hid (Hk.out.below Hb.out ha)
      have H01 := Lib.hid (H0.out.below Hb.out ha)
      clear hc
      generalize ss.getD k ByteArray.empty = t at *
      have hsize : (partsL (ss.take k)).length + 8 + t.size < 1073741824 := by
        have h1 := Hle.out
        rw [Hcat.out, List.length_append, List.length_append, bl_length, numL_length] at h1
        have := Hlen.out
        omega
      go_wp2_with fail
      refine (eight_at _ t.size _ rfl).mono ?_
      rintro e w2 ⟨rfl, hb2⟩
      have hlt2 := Hst.out.lt
      have Hst2 := Lib.hid (Hst.out.below hb2 hlt2)
      have hb2' : Below w.heap.size wr w2 := hb2.mono (by omega)
      have Hk2 := Lib.hid (Hk1.out.below hb2' ha)
      have H02 := Lib.hid (H01.out.below hb2' ha)
      have Hb2 := Lib.hid (Hb.out.trans hb2')
      clear hb2 hb2'
      go_wp2_with fail
      refine (write_any _ (bs (numL t.size 8)) w.heap.size w2 Hst2.out Hk2.out H02.out ha (by rw [bs_size, numL_length]; omega)).mono ?_
      rintro e w3 ⟨rfl, hst3, hb3⟩
      rw [bl_bs] at hst3
      have Hst3 := Lib.hid hst3
      have Hk3 := Lib.hid (Hk2.out.below hb3 ha)
      have H03 := Lib.hid (H02.out.below hb3 ha)
      have Hb3 := Lib.hid (Hb2.out.trans hb3)
      clear hst3 hb3
      go_wp2_with fail
      refine (write_any _ t w.heap.size w3 Hst3.out Hk3.out H03.out ha (by rw [List.length_append, numL_length]; omega)).mono ?_
      rintro e w4 ⟨rfl, hst4, hb4⟩
      rw [← Hcat.out] at hst4
      have Hst4 := Lib.hid hst4
      have Hb4 := Lib.hid (Hb3.out.trans hb4)
      clear hst4 hb4
      go_wp2
      go_roundw
      case rel => exact ⟨k + 1, by omega, by go_num, Hst4.out, Hb4.out⟩
      case measure => simp [intOf]; omega
    · have Hend : Hid (Strm wr w.heap.size (partsL ss)) := Lib.hid (by
        have := Hst.out
        rwa [List.take_of_length_le (by rw [Hs.out.1]; omega)] at this)
      have Hk1 := Lib.hid (Hk.out.below Hb.out ha)
      have H01 := Lib.hid (H0.out.below Hb.out ha)
      go_wp2_with fail
      refine (ssum_any _ w.heap.size wr Hend.out Hk1.out H01.out ha Hlen.out).mono ?_
      rintro e w2 ⟨rfl, hb2⟩
      have Hb2 := Lib.hid (Hb.out.trans (hb2.mono Hb.out.size))
      clear hb2
      go_wp2
      go_ret
      exact ⟨rfl, Hb2.out⟩

theorem cat2 (a b : ByteArray) : cat [a, b] = bl a ++ bl b := by simp [cat]
/-- The key as it is used. -/
def keyL (key : List UInt8) : List UInt8 := if 64 < key.length then sha key else key
@[irreducible] def macL (key s : List UInt8) : List UInt8 := sha (maskL (keyL key) 92 ++ sha (maskL (keyL key) 54 ++ s))

set_option maxRecDepth 100000 in
set_option maxHeartbeats 1000000 in
theorem mac_any (key s : ByteArray) (w : World) (hk : KsAt w) (h0 : StartAt w) (ha : 2 ≤ w.heap.size) (hkey : key.size < 1000000000) (hlen : s.size < 1000000000) :
    Calls Tryd.prog 15 #[.string key, .string s] w fun e w' => e = .returned (.string (bs (macL (bl key) (bl s)))) ∧ Below w.heap.size w w' := by
  have Hk := Lib.hid hk
  have H0 := Lib.hid h0
  clear hk h0
  obtain ⟨k2, hk2⟩ : ∃ k2, k2 = bs (keyL (bl key)) := ⟨_, rfl⟩
  have hk2s : k2.size ≤ 64 := by
    rw [hk2, bs_size]; unfold keyL
    split
    · rw [sha_length]; omega
    · omega
  have Hmac : Hid (sha (maskL (bl k2) 92 ++ sha (maskL (bl k2) 54 ++ bl s)) = macL (bl key) (bl s)) := Lib.hid (by rw [hk2, bl_bs]; unfold macL; rfl)
  have hfin : ∀ W : World, Below w.heap.size w W → Hid (KsAt W ∧ StartAt W) := fun W hb => Lib.hid ⟨Hk.out.below hb ha, H0.out.below hb ha⟩
  by_cases hlong : 64 < key.size
  case' pos =>
    have Hk2 : Hid (bs (sha (bl key)) = k2) := Lib.hid (by rw [hk2]; unfold keyL; rw [if_pos (by rw [bl_length]; exact hlong)])
    clear hk2
    have Hfin := Lib.hid hfin
    clear hfin
    go_enter Tryd.func15, Tryd.ntmps15
    go_wp2_with fail
    refine (hsum_any key w Hk.out H0.out ha (by omega)).mono ?_
    rintro e w1 ⟨rfl, hb1⟩
    rw [Hk2.out]
    have Hb1 := Lib.hid hb1
    clear hb1 Hk2
    go_wp2_with fail
  case' neg =>
    have Hk2 : Hid (key = k2) := Lib.hid (by rw [hk2]; unfold keyL; rw [if_neg (by rw [bl_length]; exact hlong), bs_bl])
    clear hk2
    obtain rfl : k2 = key := Hk2.out.symm
    have Hfin := Lib.hid hfin
    clear hfin
    have Hb1 := Lib.hid (Below.refl w.heap.size w)
    go_enter Tryd.func15, Tryd.ntmps15
    go_wp2_with fail
  all_goals
    refine (masked_any k2 92 _ hk2s).mono ?_
    rintro e w2 ⟨rfl, hb2⟩
    have Hb2 := Lib.hid (Hb1.out.trans (hb2.mono Hb1.out.size))
    clear hb2
    go_wp2_with fail
    refine (masked_any k2 54 _ hk2s).mono ?_
    rintro e w3 ⟨rfl, hb3⟩
    have Hb3 := Lib.hid (Hb2.out.trans (hb3.mono Hb2.out.size))
    clear hb3 Hb2
    have hs1 : SRow (w3.alloc (.cells #[.string (bs (maskL (bl k2) 54)), .string s] 9)) (some ⟨w3.heap.size, 0, none⟩) 2 [bs (maskL (bl k2) 54), s] := srow_lit _ _ _ rfl _ rfl
    have Hs1 := Lib.hid hs1
    have hbx := Hb3.out.alloc Hb3.out.size (.cells #[.string (bs (maskL (bl k2) 54)), .string s] 9)
    have Hbx := Lib.hid hbx
    have hc1 : cat [bs (maskL (bl k2) 54), s] = maskL (bl k2) 54 ++ bl s := by rw [cat2, bl_bs]
    have Hc1 := Lib.hid hc1
    clear hs1 hbx hc1
    go_wp2_with fail
    refine (joined_any _ _ 2 _ _ Hs1.out (Hfin.out _ Hbx.out).out.1 (Hfin.out _ Hbx.out).out.2 (by have := Hbx.out.size; omega) (by rw [Hc1.out, List.length_append, maskL_length, bl_length]; omega) (by omega)).mono ?_
    rintro e w4 ⟨rfl, hb4⟩
    rw [Hc1.out]
    have Hb4 := Lib.hid (Hbx.out.trans (hb4.mono Hbx.out.size))
    clear hb4 Hb3 Hs1 Hbx Hc1
    generalize hd : bs (sha (maskL (bl k2) 54 ++ bl s)) = d
    have Hd := Lib.hid hd
    clear hd
    have hs1 : SRow (w4.alloc (.cells #[.string (bs (maskL (bl k2) 92)), .string d] 9)) (some ⟨w4.heap.size, 0, none⟩) 2 [bs (maskL (bl k2) 92), d] := srow_lit _ _ _ rfl _ rfl
    have Hs1 := Lib.hid hs1
    have hbx := Hb4.out.alloc Hb4.out.size (.cells #[.string (bs (maskL (bl k2) 92)), .string d] 9)
    have Hbx := Lib.hid hbx
    have hc1 : cat [bs (maskL (bl k2) 92), d] = maskL (bl k2) 92 ++ sha (maskL (bl k2) 54 ++ bl s) := by rw [cat2, bl_bs, ← Hd.out, bl_bs]
    have Hc1 := Lib.hid hc1
    clear hs1 hbx hc1
    go_wp2_with fail
    refine (joined_any _ _ 2 _ _ Hs1.out (Hfin.out _ Hbx.out).out.1 (Hfin.out _ Hbx.out).out.2 (by have := Hbx.out.size; omega) (by rw [Hc1.out, List.length_append, maskL_length, sha_length]; omega) (by omega)).mono ?_
    rintro e w5 ⟨rfl, hb5⟩
    rw [Hc1.out]
    rw [Hmac.out]
    have Hb5 := Lib.hid (Hbx.out.trans (hb5.mono Hbx.out.size))
    clear hb5 Hs1 Hbx Hc1 Hmac Hfin
    go_wp2
    go_ret
    exact ⟨rfl, Hb5.out⟩
end Go.Proofs.YtemiphbblaikjaaDoor
