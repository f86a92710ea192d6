/-
  The contract of exchequerref02.Mac.
-/
import Derived.Test.YtemiphbblaikjaaDoorRefS
import Derived.Test.YtemiphbblaikjaaDoorMac
import Derived.Laws.OwnMore
import Derived.Deep.RegionWith
namespace Go.Proofs.YtemiphbblaikjaaDoor
open Go.RowKit

def zero64 : Array Value := (List.replicate 64 (Value.int .u8 0)).toArray
set_option maxRecDepth 100000 in
theorem make64 (w : World) : (Instr.makeSlice 37 (.int .i64 64) (.int .i64 64)).run Tryd.prog w = .ok (.slice (some ⟨w.heap.size, 0, none⟩) 64 64) (w.alloc (.cells zero64 5)) := by kernel_rfl
/-- The two masks while they are laid. -/
def TwoAt (w0 : World) (gi go : Nat) (K : List UInt8) (k : Nat) (w : World) : Prop :=
  gi ≠ go ∧ w0.heap.size ≤ gi ∧ w0.heap.size ≤ go ∧ Arr8 w gi 5 (maskL K 54) k 64 ∧ Arr8 w go 5 (maskL K 92) k 64 ∧ Below w0.heap.size w0 w
theorem zero64_holds (w : World) (l : List UInt8) : Arr8 (w.alloc (.cells zero64 5)) w.heap.size 5 l 0 64 := by
  unfold Arr8
  rw [List.take_zero, List.nil_append, byC_eq, List.map_replicate]
  exact Holds.new w 5 zero64
theorem two_startA {w0 w : World} (hb : Below w0.heap.size w0 w) (K : List UInt8) : TwoAt w0 w.heap.size (w.heap.size + 1) K 0 ((w.alloc (.cells zero64 5)).alloc (.cells zero64 5)).drew := by
  have h2 := zero64_holds (w.alloc (.cells zero64 5)) (maskL K 92)
  rw [World.size_alloc] at h2
  exact ⟨by omega, hb.size, by have := hb.size; omega, Holds.alloc (zero64_holds w (maskL K 54)) _, h2, ((hb.alloc hb.size _).alloc (by rw [World.size_alloc]; have := hb.size; omega) _).drew⟩
theorem two_startB {w0 w : World} (hb : Below w0.heap.size w0 w) (K : List UInt8) : TwoAt w0 (w.heap.size + 1) w.heap.size K 0 ((w.alloc (.cells zero64 5)).alloc (.cells zero64 5)).drew := by
  have h2 := zero64_holds (w.alloc (.cells zero64 5)) (maskL K 54)
  rw [World.size_alloc] at h2
  exact ⟨by omega, by have := hb.size; omega, hb.size, h2, Holds.alloc (zero64_holds w (maskL K 92)) _, ((hb.alloc hb.size _).alloc (by rw [World.size_alloc]; have := hb.size; omega) _).drew⟩
theorem TwoAt.next {w0 w : World} {gi go : Nat} {K : List UInt8} {k : Nat} {a b : Int} (h : TwoAt w0 gi go K k w) (hk : k < 64) (ha : ((K.getD k 0 ^^^ 54).toNat : Int) = a) (hb : ((K.getD k 0 ^^^ 92).toNat : Int) = b) :
    TwoAt w0 gi go K (k + 1) ((w.setCell ⟨gi, k, none⟩ (.int .u8 a)).setCell ⟨go, k, none⟩ (.int .u8 b)) := by
  obtain ⟨h1, h2, h3, h4, h5, h6⟩ := h
  subst ha hb
  have e1 : Arr8 (w.setCell ⟨gi, k, none⟩ (.int .u8 ((K.getD k 0 ^^^ 54).toNat : Int))) gi 5 (maskL K 54) (k + 1) 64 := Arr8.next h4 (maskL_length _ _) hk (by rw [maskL_at _ _ _ hk])
  have e2 : Arr8 (w.setCell ⟨gi, k, none⟩ (.int .u8 ((K.getD k 0 ^^^ 54).toNat : Int))) go 5 (maskL K 92) k 64 := Holds.aside h5 (fun h => h1 h.symm) _
  have e3 := Holds.aside e1 (a := ⟨go, k, none⟩) h1 (.int .u8 ((K.getD k 0 ^^^ 92).toNat : Int))
  exact ⟨h1, h2, h3, e3, Arr8.next e2 (maskL_length _ _) hk (by rw [maskL_at _ _ _ hk]), (h6.setCell h2 _).setCell h3 _⟩
theorem refsum_text (l : List UInt8) (t : ByteArray) (w : World) (h : l.length + t.size ≤ 1000000) :
    Calls Tryd.prog 11 #[.string (bs l ++ t)] w fun e w' => e = .returned (.string (bs (sha (l ++ bl t)))) ∧ Below w.heap.size w w' := by
  have := refsum_any (bs l ++ t) w (by rw [← bl_length, bl_append, List.length_append, bl_bs, bl_length]; exact h)
  rw [bl_append, bl_bs] at this
  exact this
theorem refsum_lists (l m : List UInt8) (w : World) (h : l.length + m.length ≤ 1000000) :
    Calls Tryd.prog 11 #[.string (bs l ++ bs m)] w fun e w' => e = .returned (.string (bs (sha (l ++ m)))) ∧ Below w.heap.size w w' := by
  have := refsum_text l (bs m) w (by rw [bs_size]; exact h)
  rw [bl_bs] at this
  exact this
theorem conv_later {w w' : World} {g : Nat} {t : TypeId} {l : List UInt8} {rest : List Value} (h : Holds w g t (byC l ++ rest)) (hb : Below w.heap.size w w') (n cap : Nat) (hn : l.length = n) :
    (convert 37 9 (.slice (some ⟨g, 0, none⟩) n cap)).run Tryd.prog w' = .ok (.string (bs l)) w' := conv_row (Holds.below h hb (Holds.lt h)) n cap hn

set_option maxRecDepth 100000 in
set_option maxHeartbeats 2000000 in
theorem rmac_any (key s : ByteArray) (w : World) (hkey : key.size ≤ 100000) (hlen : s.size ≤ 100000) :
    Calls Tryd.prog 16 #[.string key, .string s] w fun e w' => e = .returned (.string (bs (macL (bl key) (bl s)))) ∧ Below w.heap.size w w' := by
  obtain ⟨k2, hk2⟩ : ∃ k2, k2 = bs (keyL (bl key)) := ⟨_, rfl⟩
  have hk2s : k2.size ≤ 64 := by
    rw [hk2, bs_size]; unfold keyL
    split
    · rw [sha_length]; omega
    · omega
  have Hmac : Hid (sha (maskL (bl k2) 92 ++ sha (maskL (bl k2) 54 ++ bl s)) = macL (bl key) (bl s)) := Lib.hid (by rw [hk2, bl_bs]; unfold macL; rfl)
  have hmk := make64
  by_cases hlong : 64 < key.size
  · have Hk2 : Hid (bs (sha (bl key)) = k2) := Lib.hid (by rw [hk2]; unfold keyL; rw [if_pos (by rw [bl_length]; exact hlong)])
    have hd0 : decide ((64 : Int) < (key.size : Int)) = true := by simp; omega
    clear hk2
    go_enter Tryd.func16, Tryd.ntmps16
    go_wp2_with fail
    refine (refsum_any key w (by omega)).mono ?_
    rintro e w1 ⟨rfl, hb1⟩
    rw [Hk2.out]
    have Hb1 := Lib.hid hb1
    clear hb1 Hk2
    go_wp2_with fail
    go_region
    · go_wp2
      have Hst : Hid (TwoAt w (w1.heap.size) (w1.heap.size + 1) (bl k2) 0 ((w1.alloc (.cells zero64 5)).alloc (.cells zero64 5)).drew) := Lib.hid (two_startA Hb1.out (bl k2))
      go_loopw [7, 8] (fun iv _ wr => ∃ k : Nat, k ≤ 64 ∧ iv = .int .i64 k ∧ TwoAt w (w1.heap.size) (w1.heap.size + 1) (bl k2) k wr) (fun iv _ _ => 64 - (intOf iv).toNat)
      case atStart => exact ⟨0, by omega, rfl, Hst.out⟩
      case round =>
        clear Hst
        obtain ⟨k, hk, rfl, hat⟩ := hrel
        have Hat := Lib.hid hat
        clear hat
        by_cases hlt : k < 64
        · obtain ⟨old1, hc1⟩ := Hat.out.2.2.2.1.cell (maskL_length _ _) hlt
          obtain ⟨old2, hc2⟩ := Hat.out.2.2.2.2.1.cell (maskL_length _ _) hlt
          have hf1 : wr.frozen? ⟨w1.heap.size, k, none⟩ = false := Holds.frozen Hat.out.2.2.2.1 k
          have hf2 : wr.frozen? ⟨w1.heap.size + 1, k, none⟩ = false := Holds.frozen Hat.out.2.2.2.2.1 k
          have Hx1 := Lib.hid (u8_xor ((bl k2).getD k 0) 54)
          have Hx2 := Lib.hid (u8_xor ((bl k2).getD k 0) 92)
          by_cases hlk : k < k2.size
          · have hget := bl_get k2 k hlk
            have hv := ((bl k2).getD k 0).toNat_lt
            generalize hx : (bl k2).getD k 0 = x at *
            have HX := Lib.hid hx
            clear hx
            go_wp2
            go_roundw
            case rel => exact ⟨k + 1, by omega, by go_num, Hat.out.next hlt (by rw [HX.out]; exact Hx1.out.symm) (by rw [HX.out]; exact Hx2.out.symm)⟩
            case measure => simp [intOf]; omega
          · have Hz : Hid ((bl k2).getD k 0 = 0) := Lib.hid (by rw [List.getD_eq_getElem?_getD, List.getElem?_eq_none (by rw [bl_length]; omega)]; rfl)
            rw [Hz.out] at Hx1 Hx2
            go_wp2
            go_roundw
            case rel => exact ⟨k + 1, by omega, by go_num, Hat.out.next hlt (by rw [Hz.out]; rfl) (by rw [Hz.out]; rfl)⟩
            case measure => simp [intOf]; omega
        · have hk64 : k = 64 := by omega
          have Hi : Hid (Holds wr (w1.heap.size) 5 (byC (maskL (bl k2) 54) ++ [])) := Lib.hid (Hat.out.2.2.2.1.end_ (maskL_length _ _) hk64)
          have Ho : Hid (Holds wr (w1.heap.size + 1) 5 (byC (maskL (bl k2) 92) ++ [])) := Lib.hid (Hat.out.2.2.2.2.1.end_ (maskL_length _ _) hk64)
          have Hb := Lib.hid Hat.out.2.2.2.2.2
          have ci := conv_row (w := wr.drew) Hi.out 64 64 (maskL_length _ _)
          have co := conv_row (w := wr.drew) Ho.out 64 64 (maskL_length _ _)
          have hsz1 : (maskL (bl k2) 54).length + s.size ≤ 1000000 := by rw [maskL_length]; omega
          have hsz2 : (maskL (bl k2) 92).length + (sha (maskL (bl k2) 54 ++ bl s)).length ≤ 1000000 := by rw [maskL_length, sha_length]; omega
          have Hs1 := Lib.hid hsz1
          have Hs2 := Lib.hid hsz2
          have hz1 : (bs (maskL (bl k2) 54)).size = 64 := by rw [bs_size, maskL_length]
          have hz2 : (bs (maskL (bl k2) 92)).size = 64 := by rw [bs_size, maskL_length]
          have hz3 : (bs (sha (maskL (bl k2) 54 ++ bl s))).size = 32 := by rw [bs_size, sha_length]
          clear hk64 Hat hmk hsz1 hsz2
          go_wp2_with fail
          go_region_with (first
            | (go_at_call_of 11 (maskL (bl k2) 92); refine (refsum_lists _ _ _ Hs2.out).mono ?_; rintro e w6 ⟨rfl, hb6⟩)
            | (go_at_call 11; refine (refsum_text _ _ _ Hs1.out).mono ?_; rintro e w5 ⟨rfl, hb5⟩; have co5 := conv_later (w := wr.drew) Ho.out hb5 64 64 (maskL_length _ _)))
          all_goals
            rw [Hmac.out]
            have Hbz : Hid (Below w.heap.size w w6) := Lib.hid ((Hb.out.drew.trans (hb5.mono Hb.out.size)).trans (hb6.mono (Nat.le_trans Hb.out.size hb5.size)))
            clear hb5 hb6 co5 ci co Hi Ho Hb
            go_wp2
            go_ret
            exact ⟨rfl, Hbz.out⟩
    · go_wp2
      have Hst : Hid (TwoAt w (w1.heap.size + 1) (w1.heap.size) (bl k2) 0 ((w1.alloc (.cells zero64 5)).alloc (.cells zero64 5)).drew) := Lib.hid (two_startB Hb1.out (bl k2))
      go_loopw [7, 8] (fun iv _ wr => ∃ k : Nat, k ≤ 64 ∧ iv = .int .i64 k ∧ TwoAt w (w1.heap.size + 1) (w1.heap.size) (bl k2) k wr) (fun iv _ _ => 64 - (intOf iv).toNat)
      case atStart => exact ⟨0, by omega, rfl, Hst.out⟩
      case round =>
        clear Hst
        obtain ⟨k, hk, rfl, hat⟩ := hrel
        have Hat := Lib.hid hat
        clear hat
        by_cases hlt : k < 64
        · obtain ⟨old1, hc1⟩ := Hat.out.2.2.2.1.cell (maskL_length _ _) hlt
          obtain ⟨old2, hc2⟩ := Hat.out.2.2.2.2.1.cell (maskL_length _ _) hlt
          have hf1 : wr.frozen? ⟨w1.heap.size + 1, k, none⟩ = false := Holds.frozen Hat.out.2.2.2.1 k
          have hf2 : wr.frozen? ⟨w1.heap.size, k, none⟩ = false := Holds.frozen Hat.out.2.2.2.2.1 k
          have Hx1 := Lib.hid (u8_xor ((bl k2).getD k 0) 54)
          have Hx2 := Lib.hid (u8_xor ((bl k2).getD k 0) 92)
          by_cases hlk : k < k2.size
          · have hget := bl_get k2 k hlk
            have hv := ((bl k2).getD k 0).toNat_lt
            generalize hx : (bl k2).getD k 0 = x at *
            have HX := Lib.hid hx
            clear hx
            go_wp2
            go_roundw
            case rel => exact ⟨k + 1, by omega, by go_num, Hat.out.next hlt (by rw [HX.out]; exact Hx1.out.symm) (by rw [HX.out]; exact Hx2.out.symm)⟩
            case measure => simp [intOf]; omega
          · have Hz : Hid ((bl k2).getD k 0 = 0) := Lib.hid (by rw [List.getD_eq_getElem?_getD, List.getElem?_eq_none (by rw [bl_length]; omega)]; rfl)
            rw [Hz.out] at Hx1 Hx2
            go_wp2
            go_roundw
            case rel => exact ⟨k + 1, by omega, by go_num, Hat.out.next hlt (by rw [Hz.out]; rfl) (by rw [Hz.out]; rfl)⟩
            case measure => simp [intOf]; omega
        · have hk64 : k = 64 := by omega
          have Hi : Hid (Holds wr (w1.heap.size + 1) 5 (byC (maskL (bl k2) 54) ++ [])) := Lib.hid (Hat.out.2.2.2.1.end_ (maskL_length _ _) hk64)
          have Ho : Hid (Holds wr (w1.heap.size) 5 (byC (maskL (bl k2) 92) ++ [])) := Lib.hid (Hat.out.2.2.2.2.1.end_ (maskL_length _ _) hk64)
          have Hb := Lib.hid Hat.out.2.2.2.2.2
          have ci := conv_row (w := wr.drew) Hi.out 64 64 (maskL_length _ _)
          have co := conv_row (w := wr.drew) Ho.out 64 64 (maskL_length _ _)
          have hsz1 : (maskL (bl k2) 54).length + s.size ≤ 1000000 := by rw [maskL_length]; omega
          have hsz2 : (maskL (bl k2) 92).length + (sha (maskL (bl k2) 54 ++ bl s)).length ≤ 1000000 := by rw [maskL_length, sha_length]; omega
          have Hs1 := Lib.hid hsz1
          have Hs2 := Lib.hid hsz2
          have hz1 : (bs (maskL (bl k2) 54)).size = 64 := by rw [bs_size, maskL_length]
          have hz2 : (bs (maskL (bl k2) 92)).size = 64 := by rw [bs_size, maskL_length]
          have hz3 : (bs (sha (maskL (bl k2) 54 ++ bl s))).size = 32 := by rw [bs_size, sha_length]
          clear hk64 Hat hmk hsz1 hsz2
          go_wp2_with fail
          go_region_with (first
            | (go_at_call_of 11 (maskL (bl k2) 92); refine (refsum_lists _ _ _ Hs2.out).mono ?_; rintro e w6 ⟨rfl, hb6⟩)
            | (go_at_call 11; refine (refsum_text _ _ _ Hs1.out).mono ?_; rintro e w5 ⟨rfl, hb5⟩; have co5 := conv_later (w := wr.drew) Ho.out hb5 64 64 (maskL_length _ _)))
          all_goals
            rw [Hmac.out]
            have Hbz : Hid (Below w.heap.size w w6) := Lib.hid ((Hb.out.drew.trans (hb5.mono Hb.out.size)).trans (hb6.mono (Nat.le_trans Hb.out.size hb5.size)))
            clear hb5 hb6 co5 ci co Hi Ho Hb
            go_wp2
            go_ret
            exact ⟨rfl, Hbz.out⟩
  · have Hk2 : Hid (key = k2) := Lib.hid (by rw [hk2]; unfold keyL; rw [if_neg (by rw [bl_length]; exact hlong), bs_bl])
    clear hk2
    obtain rfl : k2 = key := Hk2.out.symm
    have hd0 : decide ((64 : Int) < (k2.size : Int)) = false := by simp; omega
    have Hb1 := Lib.hid (Below.refl w.heap.size w)
    go_enter Tryd.func16, Tryd.ntmps16
    go_wp2_with fail
    go_region
    · go_wp2
      have Hst : Hid (TwoAt w (w.heap.size) (w.heap.size + 1) (bl k2) 0 ((w.alloc (.cells zero64 5)).alloc (.cells zero64 5)).drew) := Lib.hid (two_startA Hb1.out (bl k2))
      go_loopw [7, 8] (fun iv _ wr => ∃ k : Nat, k ≤ 64 ∧ iv = .int .i64 k ∧ TwoAt w (w.heap.size) (w.heap.size + 1) (bl k2) k wr) (fun iv _ _ => 64 - (intOf iv).toNat)
      case atStart => exact ⟨0, by omega, rfl, Hst.out⟩
      case round =>
        clear Hst
        obtain ⟨k, hk, rfl, hat⟩ := hrel
        have Hat := Lib.hid hat
        clear hat
        by_cases hlt : k < 64
        · obtain ⟨old1, hc1⟩ := Hat.out.2.2.2.1.cell (maskL_length _ _) hlt
          obtain ⟨old2, hc2⟩ := Hat.out.2.2.2.2.1.cell (maskL_length _ _) hlt
          have hf1 : wr.frozen? ⟨w.heap.size, k, none⟩ = false := Holds.frozen Hat.out.2.2.2.1 k
          have hf2 : wr.frozen? ⟨w.heap.size + 1, k, none⟩ = false := Holds.frozen Hat.out.2.2.2.2.1 k
          have Hx1 := Lib.hid (u8_xor ((bl k2).getD k 0) 54)
          have Hx2 := Lib.hid (u8_xor ((bl k2).getD k 0) 92)
          by_cases hlk : k < k2.size
          · have hget := bl_get k2 k hlk
            have hv := ((bl k2).getD k 0).toNat_lt
            generalize hx : (bl k2).getD k 0 = x at *
            have HX := Lib.hid hx
            clear hx
            go_wp2
            go_roundw
            case rel => exact ⟨k + 1, by omega, by go_num, Hat.out.next hlt (by rw [HX.out]; exact Hx1.out.symm) (by rw [HX.out]; exact Hx2.out.symm)⟩
            case measure => simp [intOf]; omega
          · have Hz : Hid ((bl k2).getD k 0 = 0) := Lib.hid (by rw [List.getD_eq_getElem?_getD, List.getElem?_eq_none (by rw [bl_length]; omega)]; rfl)
            rw [Hz.out] at Hx1 Hx2
            go_wp2
            go_roundw
            case rel => exact ⟨k + 1, by omega, by go_num, Hat.out.next hlt (by rw [Hz.out]; rfl) (by rw [Hz.out]; rfl)⟩
            case measure => simp [intOf]; omega
        · have hk64 : k = 64 := by omega
          have Hi : Hid (Holds wr (w.heap.size) 5 (byC (maskL (bl k2) 54) ++ [])) := Lib.hid (Hat.out.2.2.2.1.end_ (maskL_length _ _) hk64)
          have Ho : Hid (Holds wr (w.heap.size + 1) 5 (byC (maskL (bl k2) 92) ++ [])) := Lib.hid (Hat.out.2.2.2.2.1.end_ (maskL_length _ _) hk64)
          have Hb := Lib.hid Hat.out.2.2.2.2.2
          have ci := conv_row (w := wr.drew) Hi.out 64 64 (maskL_length _ _)
          have co := conv_row (w := wr.drew) Ho.out 64 64 (maskL_length _ _)
          have hsz1 : (maskL (bl k2) 54).length + s.size ≤ 1000000 := by rw [maskL_length]; omega
          have hsz2 : (maskL (bl k2) 92).length + (sha (maskL (bl k2) 54 ++ bl s)).length ≤ 1000000 := by rw [maskL_length, sha_length]; omega
          have Hs1 := Lib.hid hsz1
          have Hs2 := Lib.hid hsz2
          have hz1 : (bs (maskL (bl k2) 54)).size = 64 := by rw [bs_size, maskL_length]
          have hz2 : (bs (maskL (bl k2) 92)).size = 64 := by rw [bs_size, maskL_length]
          have hz3 : (bs (sha (maskL (bl k2) 54 ++ bl s))).size = 32 := by rw [bs_size, sha_length]
          clear hk64 Hat hmk hsz1 hsz2
          go_wp2_with fail
          go_region_with (first
            | (go_at_call_of 11 (maskL (bl k2) 92); refine (refsum_lists _ _ _ Hs2.out).mono ?_; rintro e w6 ⟨rfl, hb6⟩)
            | (go_at_call 11; refine (refsum_text _ _ _ Hs1.out).mono ?_; rintro e w5 ⟨rfl, hb5⟩; have co5 := conv_later (w := wr.drew) Ho.out hb5 64 64 (maskL_length _ _)))
          all_goals
            rw [Hmac.out]
            have Hbz : Hid (Below w.heap.size w w6) := Lib.hid ((Hb.out.drew.trans (hb5.mono Hb.out.size)).trans (hb6.mono (Nat.le_trans Hb.out.size hb5.size)))
            clear hb5 hb6 co5 ci co Hi Ho Hb
            go_wp2
            go_ret
            exact ⟨rfl, Hbz.out⟩
    · go_wp2
      have Hst : Hid (TwoAt w (w.heap.size + 1) (w.heap.size) (bl k2) 0 ((w.alloc (.cells zero64 5)).alloc (.cells zero64 5)).drew) := Lib.hid (two_startB Hb1.out (bl k2))
      go_loopw [7, 8] (fun iv _ wr => ∃ k : Nat, k ≤ 64 ∧ iv = .int .i64 k ∧ TwoAt w (w.heap.size + 1) (w.heap.size) (bl k2) k wr) (fun iv _ _ => 64 - (intOf iv).toNat)
      case atStart => exact ⟨0, by omega, rfl, Hst.out⟩
      case round =>
        clear Hst
        obtain ⟨k, hk, rfl, hat⟩ := hrel
        have Hat := Lib.hid hat
        clear hat
        by_cases hlt : k < 64
        · obtain ⟨old1, hc1⟩ := Hat.out.2.2.2.1.cell (maskL_length _ _) hlt
          obtain ⟨old2, hc2⟩ := Hat.out.2.2.2.2.1.cell (maskL_length _ _) hlt
          have hf1 : wr.frozen? ⟨w.heap.size + 1, k, none⟩ = false := Holds.frozen Hat.out.2.2.2.1 k
          have hf2 : wr.frozen? ⟨w.heap.size, k, none⟩ = false := Holds.frozen Hat.out.2.2.2.2.1 k
          have Hx1 := Lib.hid (u8_xor ((bl k2).getD k 0) 54)
          have Hx2 := Lib.hid (u8_xor ((bl k2).getD k 0) 92)
          by_cases hlk : k < k2.size
          · have hget := bl_get k2 k hlk
            have hv := ((bl k2).getD k 0).toNat_lt
            generalize hx : (bl k2).getD k 0 = x at *
            have HX := Lib.hid hx
            clear hx
            go_wp2
            go_roundw
            case rel => exact ⟨k + 1, by omega, by go_num, Hat.out.next hlt (by rw [HX.out]; exact Hx1.out.symm) (by rw [HX.out]; exact Hx2.out.symm)⟩
            case measure => simp [intOf]; omega
          · have Hz : Hid ((bl k2).getD k 0 = 0) := Lib.hid (by rw [List.getD_eq_getElem?_getD, List.getElem?_eq_none (by rw [bl_length]; omega)]; rfl)
            rw [Hz.out] at Hx1 Hx2
            go_wp2
            go_roundw
            case rel => exact ⟨k + 1, by omega, by go_num, Hat.out.next hlt (by rw [Hz.out]; rfl) (by rw [Hz.out]; rfl)⟩
            case measure => simp [intOf]; omega
        · have hk64 : k = 64 := by omega
          have Hi : Hid (Holds wr (w.heap.size + 1) 5 (byC (maskL (bl k2) 54) ++ [])) := Lib.hid (Hat.out.2.2.2.1.end_ (maskL_length _ _) hk64)
          have Ho : Hid (Holds wr (w.heap.size) 5 (byC (maskL (bl k2) 92) ++ [])) := Lib.hid (Hat.out.2.2.2.2.1.end_ (maskL_length _ _) hk64)
          have Hb := Lib.hid Hat.out.2.2.2.2.2
          have ci := conv_row (w := wr.drew) Hi.out 64 64 (maskL_length _ _)
          have co := conv_row (w := wr.drew) Ho.out 64 64 (maskL_length _ _)
          have hsz1 : (maskL (bl k2) 54).length + s.size ≤ 1000000 := by rw [maskL_length]; omega
          have hsz2 : (maskL (bl k2) 92).length + (sha (maskL (bl k2) 54 ++ bl s)).length ≤ 1000000 := by rw [maskL_length, sha_length]; omega
          have Hs1 := Lib.hid hsz1
          have Hs2 := Lib.hid hsz2
          have hz1 : (bs (maskL (bl k2) 54)).size = 64 := by rw [bs_size, maskL_length]
          have hz2 : (bs (maskL (bl k2) 92)).size = 64 := by rw [bs_size, maskL_length]
          have hz3 : (bs (sha (maskL (bl k2) 54 ++ bl s))).size = 32 := by rw [bs_size, sha_length]
          clear hk64 Hat hmk hsz1 hsz2
          go_wp2_with fail
          go_region_with (first
            | (go_at_call_of 11 (maskL (bl k2) 92); refine (refsum_lists _ _ _ Hs2.out).mono ?_; rintro e w6 ⟨rfl, hb6⟩)
            | (go_at_call 11; refine (refsum_text _ _ _ Hs1.out).mono ?_; rintro e w5 ⟨rfl, hb5⟩; have co5 := conv_later (w := wr.drew) Ho.out hb5 64 64 (maskL_length _ _)))
          all_goals
            rw [Hmac.out]
            have Hbz : Hid (Below w.heap.size w w6) := Lib.hid ((Hb.out.drew.trans (hb5.mono Hb.out.size)).trans (hb6.mono (Nat.le_trans Hb.out.size hb5.size)))
            clear hb5 hb6 co5 ci co Hi Ho Hb
            go_wp2
            go_ret
            exact ⟨rfl, Hbz.out⟩
end Go.Proofs.YtemiphbblaikjaaDoor
