/-
  The document's example (awake), and the law HashKeys walked.
-/
import Derived.Test.YtemiphbblaikjaaDoorMac
import Derived.Test.YtemiphbblaikjaaDoorHexR
namespace Go.Proofs.YtemiphbblaikjaaDoor
open Go.RowKit

theorem awake_bs : bs (hexL (bl (bs (sha (bl { data := #[97, 98, 99] }))))) = { data := #[98, 97, 55, 56, 49, 54, 98, 102, 56, 102, 48, 49, 99, 102, 101, 97, 52, 49, 52, 49, 52, 48, 100, 101, 53, 100, 97, 101, 50, 50, 50, 51, 98, 48, 48, 51, 54, 49, 97, 51, 57, 54, 49, 55, 55, 97, 57, 99, 98, 52, 49, 48, 102, 102, 54, 49, 102, 50, 48, 48, 49, 53, 97, 100] } := by
  rw [bl_bs, show bl { data := #[97, 98, 99] } = [97, 98, 99] from by rw [bl_eq], awake_hex, bs_eq]
theorem awake_any (w : World) (hk : KsAt w) (h0 : StartAt w) (ha : 2 ≤ w.heap.size) : Calls Tryd.prog 9 #[] w fun e w' => e = .returned (.bool true) ∧ Below w.heap.size w w' := by
  have Hk := Lib.hid hk
  have H0 := Lib.hid h0
  have Ha := Lib.hid awake_bs
  clear hk h0
  go_enter Tryd.func9, Tryd.ntmps9
  go_wp2_with fail
  refine (hsum_any _ w Hk.out H0.out ha (by decide)).mono ?_
  rintro e w1 ⟨rfl, hb1⟩
  have Hb1 := Lib.hid hb1
  clear hb1
  go_wp2_with fail
  refine (hex_any _ w1 (by rw [bs_size, sha_length]; omega)).mono ?_
  rintro e w2 ⟨rfl, hb2⟩
  rw [Ha.out]
  have Hb2 := Lib.hid (Hb1.out.trans (hb2.mono Hb1.out.size))
  clear hb2
  go_wp2
  go_ret
  exact ⟨rfl, Hb2.out⟩

/-- What a law leaves. -/
def Laws (w : World) (e : Ending) (w' : World) : Prop := e = .returned (.bool true) ∧ Below w.heap.size w w'
def Laid (w : World) : Prop := KsAt w ∧ StartAt w ∧ 2 ≤ w.heap.size
theorem Laid.below {w w' : World} (h : Laid w) (hb : Below w.heap.size w w') : Laid w' := ⟨h.1.below hb h.2.2, h.2.1.below hb h.2.2, by have := hb.size; have := h.2.2; omega⟩

theorem mask_zeros (k : List UInt8) (n : Nat) (m : UInt8) : maskL (k ++ List.replicate n 0) m = maskL k m := by
  unfold maskL
  apply List.map_congr_left
  intro i _
  congr 1
  rw [List.getD_eq_getElem?_getD, List.getD_eq_getElem?_getD]
  by_cases h : i < k.length
  · rw [List.getElem?_append_left h]
  · rw [List.getElem?_append_right (by omega), List.getElem?_replicate, List.getElem?_eq_none (by omega)]
    split <;> rfl
theorem mac_zeros (k s : List UInt8) (n : Nat) (h : k.length + n ≤ 64) : macL (k ++ List.replicate n 0) s = macL k s := by
  unfold macL keyL
  rw [if_neg (by rw [List.length_append, List.length_replicate]; omega), if_neg (by omega), mask_zeros, mask_zeros]

theorem made_zeros (n : Nat) : (madeCells (Value.int .u8 0).cells (n * 1)).toList = byC (List.replicate n 0) := by
  rw [byC_eq, List.map_replicate, Nat.mul_one]
  apply List.ext_getElem?
  intro i
  by_cases h : i < n
  · simp [madeCells, Value.cells, h, Nat.mod_one]
  · simp [madeCells, Value.cells, h]
set_option maxRecDepth 100000 in
set_option maxHeartbeats 1000000 in
theorem keys_any (key s : ByteArray) (m : Nat) (w : World) (hl : Laid w) (hkey : key.size < 140737488355328) (hs : s.size < 140737488355328) (hm : m < 256) :
    Calls Tryd.prog 8 #[.string key, .string s, .int .u8 m] w (Laws w) := by
  obtain ⟨i0, hi0, hz0, hz1, hz2⟩ := info_parts info5
  have Hl := Lib.hid hl
  clear hl
  by_cases h1 : 2000 < s.size
  · go_enter Tryd.func8, Tryd.ntmps8
    go_wp2_with fail
    refine (awake_any w Hl.out.1 Hl.out.2.1 Hl.out.2.2).mono ?_
    rintro e w1 ⟨rfl, hb1⟩
    go_wp2
    go_ret
    exact ⟨rfl, hb1⟩
  · by_cases h2 : 64 < key.size + m % 65
    · go_enter Tryd.func8, Tryd.ntmps8
      go_wp2_with fail
      refine (awake_any w Hl.out.1 Hl.out.2.1 Hl.out.2.2).mono ?_
      rintro e w1 ⟨rfl, hb1⟩
      go_wp2
      go_ret
      exact ⟨rfl, hb1⟩
    · obtain ⟨n, hn⟩ : ∃ n, n = m % 65 := ⟨_, rfl⟩
      have Hmac := Lib.hid (mac_zeros (bl key) (bl s) n (by rw [bl_length]; omega))
      have Hz : Hid (bl (key ++ bs (List.replicate n 0)) = bl key ++ List.replicate n 0) := Lib.hid (by rw [bl_append, bl_bs])
      go_enter Tryd.func8, Tryd.ntmps8
      go_wp2_with fail
      refine (awake_any w Hl.out.1 Hl.out.2.1 Hl.out.2.2).mono ?_
      rintro e w1 ⟨rfl, hb1⟩
      have Hl1 := Lib.hid (Hl.out.below hb1)
      have Hb1 := Lib.hid hb1
      clear hb1
      have hmn : ((m : Int) % 65) = (n : Int) := by omega
      have hn1 : n < 65 := by omega
      have hm2 : Hid (i0.bytes * n ≤ 281474976710656) := Lib.hid (by rw [hz2]; omega)
      have hm3 : Hid (n ≤ maxLen) := Lib.hid (by unfold maxLen; omega)
      have hk2 : (key.size : Int) + n ≤ 64 := by omega
      have Hsum : Hid (key.size + n ≤ 64) := Lib.hid (by omega)
      clear hn h2
      go_wp2_with (at_make; go_loud (refine wpList_make_full _ rfl _ _ 37 rfl w1.heap.size 5 i0 (.int .u8 0) 1 Tryd.underlying37 hi0 hz0 hz1 .i64 .i64 (n : Int) (n : Int) n rfl rfl rfl rfl hm2.out hm3.out (Nat.le_refl _) ?_); intro w2 hown hgrow)
      have Hown : Hid (OwnB w2 w1.heap.size (.slice (some ⟨w1.heap.size, 0, none⟩) n n) (List.replicate n 0)) := Lib.hid (by
        unfold OwnB
        rw [List.length_replicate, ← made_zeros]
        exact hown)
      have hcv := conv_own Hown.out
      have Hl2 := Lib.hid (Hl1.out.below ((Below.refl _ _).grown hgrow (Nat.le_refl _) (by intro k hk; cases hk)))
      have Hb2 : Hid (Below w.heap.size w w2) := Lib.hid (Hb1.out.grown hgrow Hb1.out.size (by intro k hk; cases hk))
      clear hown hgrow
      rw [hcv]
      clear hcv
      have hsz2 : (bs (List.replicate n 0)).size = n := by rw [bs_size, List.length_replicate]
      have Hsz2 := Lib.hid hsz2
      have hk3 := Hsum.out
      go_wp2_with fail
      clear hsz2
      refine (mac_any (key ++ bs (List.replicate n 0)) s w2 Hl2.out.1 Hl2.out.2.1 Hl2.out.2.2 (by rw [← bl_length, bl_append, List.length_append, bl_length, bl_length, Hsz2.out]; have := Hsum.out; omega) (by omega)).mono ?_
      rintro e w3 ⟨rfl, hb3⟩
      rw [Hz.out, Hmac.out]
      have Hl3 := Lib.hid (Hl2.out.below hb3)
      have Hb3 := Lib.hid (Hb2.out.trans (hb3.mono Hb2.out.size))
      clear hb3
      go_wp2_with fail
      refine (mac_any key s w3 Hl3.out.1 Hl3.out.2.1 Hl3.out.2.2 (by have := Hsum.out; omega) (by omega)).mono ?_
      rintro e w4 ⟨rfl, hb4⟩
      have Hb4 := Lib.hid (Hb3.out.trans (hb4.mono Hb3.out.size))
      clear hb4
      go_wp2
      go_ret
      exact ⟨rfl, Hb4.out⟩
end Go.Proofs.YtemiphbblaikjaaDoor
