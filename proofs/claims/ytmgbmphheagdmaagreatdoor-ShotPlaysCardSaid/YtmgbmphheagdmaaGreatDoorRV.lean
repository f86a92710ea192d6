/-
  The contract of the reference's Crash and New.
-/
import Derived.Test.YtmgbmphheagdmaaGreatDoorRU
namespace Go.Proofs.YtmgbmphheagdmaaGreatDoor
open Go.RowKit
set_option maxRecDepth 100000 in
set_option maxHeartbeats 8000000 in
theorem refcrash_any (keep : List Int) (A : Option Addr) (kl kc : Nat) (r : Nat) (v : Value) (s : St) (w : World) (h : RefD w r v s) (hf : Fit s) (hk : keep.length = kl) (hrow : RowAt w A (intC keep)) (hkl : kl ≤ 9223372036854775807) :
    Calls Tryz.prog 17 #[.pointer (some ⟨r, 0, none⟩), .slice A kl kc] w (RefRet (.tuple #[]) r v (crashS keep s) w) := by
  obtain ⟨i0, hi0, hz0, hz1, hz2⟩ := info_parts infoF
  have hrl : r < w.heap.size := h.size
  obtain ⟨N, hN⟩ : ∃ N, N = s.files.length := ⟨_, rfl⟩
  have HN : Hid (s.files.length = N) := Lib.hid hN.symm
  obtain ⟨A2, cap, hv⟩ := h.slice
  rw [← hN] at hv
  subst hv
  have c0 := h.cells.1
  have c2 := h.cells.2.2.1
  have c3 := h.cells.2.2.2.1
  have cz := h.cells.2.2.2.2
  have H := Lib.hid h
  have HK := Lib.hid hk
  have Hkr := Lib.hid hrow
  have hlen := hf.len
  have hu := hf.used
  have b0 : bs [] = ({ data := #[] } : ByteArray) := by rw [bs_eq]
  have Hb0 := Lib.hid b0
  have Hown0 := Lib.hid (own_none w 80 3)
  have Ha := Lib.hid ((Below.refl w.heap.size w).alloc (Nat.le_refl _) (.cells #[] 80))
  have hlN : N ≤ 1000000 := by have := HN.out; omega
  clear h hf hN hk hrow b0
  go_enter Tryz.func17, Tryz.ntmps17
  go_wp2
  go_loopw [4, 5, 6] (fun nv lv iv wr => ∃ i : Nat, i ≤ N ∧ iv = .int .i64 i ∧ nv = .int .i64 (lateN (s.files.take i) : Nat) ∧ wr.ownsRow w.heap.size 80 3 lv i (flC (crashL keep 0 (s.files.take i))) ∧ Below w.heap.size w wr) (fun _ _ iv _ => N - (intOf iv).toNat)
  case atStart => exact ⟨0, Nat.zero_le _, rfl, by simp [lateN], Hown0.out, Ha.out⟩
  case round =>
    obtain ⟨i, hi, rfl, rfl, hown, hbel⟩ := hrel
    have Hown := Lib.hid hown
    have Hb := Lib.hid hbel
    have m0 := (hbel.cell (p := ⟨r, 0, none⟩) hrl).trans c0
    have hrw : r < wr.heap.size := Nat.lt_of_lt_of_le hrl hbel.size
    clear hown hbel
    by_cases hlt : i < N
    · have hltz : (i : Int) < (N : Int) := by omega
      obtain ⟨f, hf⟩ : ∃ f, s.files[i]? = some f := ⟨_, List.getElem?_eq_getElem (by rw [HN.out]; exact hlt)⟩
      obtain ⟨g, cap', hA, _, hgw, f0, f1, f2, _⟩ := H.out.file (i := i) (f := f) hf
      injection hA with hA1 hA2 hA3
      subst hA1
      have q0 := (Hb.out.cell (p := ⟨g, i * 3, none⟩) hgw).trans f0
      have q1 := (Hb.out.cell (p := ⟨g, i * 3 + 1, none⟩) hgw).trans f1
      have q2 := (Hb.out.cell (p := ⟨g, i * 3 + 2, none⟩) hgw).trans f2
      have hgw' : g < wr.heap.size := Nat.lt_of_lt_of_le hgw Hb.out.size
      have Htk : Hid (s.files.take (i + 1) = s.files.take i ++ [f]) := Lib.hid (by rw [List.take_add_one, hf]; rfl)
      have Hal := Lib.hid (Hb.out.alloc Hb.out.size (.cells #[.string (bs f.1), .string (bs f.2.1), .string (bs f.2.2)] 80))
      have Hoal := Lib.hid (own_alloc Hown.out (.cells #[.string (bs f.1), .string (bs f.2.1), .string (bs f.2.2)] 80))
      have hus : sizeF f ≤ 1000000000 := Nat.le_trans (by have := used_drop s.files i f hf; have := used_le s.files (i + 1); omega) hu
      have Hsz : Hid (∀ o, (wr.alloc o).heap.size = wr.heap.size + 1) := Lib.hid (fun o => by simp)
      have e1 : (bs f.2.1).size = f.2.1.length := bs_size _
      have e2 : (bs f.2.2).size = f.2.2.length := bs_size _
      unfold sizeF at hus
      have hn9 : lateN (s.files.take i) ≤ 1000000 := Nat.le_trans (lateN_le _) (by rw [List.length_take]; omega)
      clear hA2 hA3 f0 f1 f2 hf
      by_cases hlate : f.2.2 = []
      · have e3 : f.2.2.length = 0 := by rw [hlate]; rfl
        rw [e3] at e2
        have Hcr : Hid (crashL keep 0 (s.files.take (i + 1)) = crashL keep 0 (s.files.take i) ++ [(f.1, f.2.1, [])]) := Lib.hid (by rw [Htk.out, crashL_snoc]; unfold crashF; rw [if_pos hlate])
        have Hln : Hid (lateN (s.files.take (i + 1)) = lateN (s.files.take i)) := Lib.hid (by rw [Htk.out, lateN_snoc, if_pos hlate]; rfl)
        clear hlate e3
        generalize lateN (s.files.take i) = ln at *
        go_wp2_with (at_builtin; go_loud (refine wpList_push rfl (.tmp 59) (.tmp 61) 43 rfl w.heap.size 80 i0 _ 3 48 Tryz.underlying43 hi0 hz0 hz1 hz2 rfl (by omega) u5 i (flC (crashL keep 0 (s.files.take i))) rfl (own_alloc Hown.out _) #[.string (bs f.1), .string (bs f.2.1), .string { data := #[] }] (by rw [Hsz.out]; rfl) rfl (by simp [Value.oneCell']) (by omega) (by omega) w (Hb.out.alloc Hb.out.size _) (Nat.le_trans Hb.out.size (by simp)) ?_); intro g4 cap4 w4 hown4 hb4)
        have Hown4 : Hid (w4.ownsRow w.heap.size 80 3 (.slice (some ⟨g4, 0, none⟩) (i + 1) cap4) (i + 1) (flC (crashL keep 0 (s.files.take (i + 1))))) := Lib.hid (by
          rw [Hcr.out, flC_append, flC_cons, Hb0.out]; exact hown4)
        have Hb4 := Lib.hid hb4
        clear hown4 hb4
        go_wp2
        go_roundw
        case rel => exact ⟨i + 1, by omega, by go_num, by rw [Hln.out], Hown4.out, Hb4.out⟩
        case measure => simp [intOf]; omega
      · have hpos : 0 < f.2.2.length := List.length_pos_iff.2 hlate
        have hpos' : (0 : Int) < (f.2.2.length : Int) := by omega
        have Hln : Hid (lateN (s.files.take (i + 1)) = lateN (s.files.take i) + 1) := Lib.hid (by rw [Htk.out, lateN_snoc, if_neg hlate])
        have Hcr : Hid (crashL keep 0 (s.files.take (i + 1)) = crashL keep 0 (s.files.take i) ++ [(f.1, f.2.1 ++ f.2.2.take (keepN keep (lateN (s.files.take i)) f.2.2.length), [])]) := Lib.hid (by rw [Htk.out, crashL_snoc]; unfold crashF; rw [if_neg hlate, Nat.zero_add])
        obtain ⟨k, hkk⟩ : ∃ k, k = keepN keep (lateN (s.files.take i)) f.2.2.length := ⟨_, rfl⟩
        rw [← hkk] at Hcr
        have Hk := Lib.hid hkk
        clear hlate hkk
        generalize lateN (s.files.take i) = ln at *
        have hkl2 : k ≤ f.2.2.length := by
          rw [Hk.out]; unfold keepN
          split
          · omega
          · have := Nat.mod_lt ((keep.getD (ln % keep.length) 0) % 18446744073709551616).toNat (show 0 < f.2.2.length + 1 by omega); omega
        have Hext : Hid (bs f.2.1 ++ (bs f.2.2).extract 0 k = bs (f.2.1 ++ f.2.2.take k)) := Lib.hid (by rw [bs_extract, bs_append]; rfl)
        obtain ⟨X, hX⟩ : ∃ X, X = wr.heap.size := ⟨_, rfl⟩
        have HX := Lib.hid hX
        obtain ⟨wa, hwa⟩ : ∃ wa, wa = wr.alloc (.cells #[.string (bs f.1), .string (bs f.2.1), .string (bs f.2.2)] 80) := ⟨_, rfl⟩
        have a0 : wa.cell? ⟨X, 0, none⟩ = some (.string (bs f.1)) := by rw [hwa, hX]; simp
        have a1 : wa.cell? ⟨X, 1, none⟩ = some (.string (bs f.2.1)) := by rw [hwa, hX]; simp
        have a2 : wa.cell? ⟨X, 2, none⟩ = some (.string (bs f.2.2)) := by rw [hwa, hX]; simp
        have za1 : wa.frozen? ⟨X, 1, none⟩ = false := by rw [hwa, hX]; simp
        have za2 : wa.frozen? ⟨X, 2, none⟩ = false := by rw [hwa, hX]; simp
        have Hba : Hid (Below wr.heap.size wr wa) := Lib.hid (by rw [hwa]; exact (Below.refl _ _).alloc (Nat.le_refl _) _)
        have hsa : wa.heap.size = wr.heap.size + 1 := by rw [hwa]; simp
        have Hwa := Lib.hid hwa
        clear hX hwa
        rcases Nat.eq_zero_or_pos kl with hz | hz
        · have hk0 : k = 0 := by
            have hnil : keep = [] := List.eq_nil_of_length_eq_zero (by rw [HK.out]; exact hz)
            rw [Hk.out, hnil]; rfl
          subst hk0
          have hz' : ¬ (0 : Int) < (kl : Int) := by omega
          clear hz
          go_wp2
          rw [← Hwa.out, ← HX.out]
          obtain ⟨wq, hwq⟩ : ∃ wq, wq = wa := ⟨_, rfl⟩
          have HBQ := Hba.out
          rw [← hwq]
          have x0 : wq.cell? ⟨X, 0, none⟩ = some (.string (bs f.1)) := by rw [hwq]; exact a0
          have x1 : wq.cell? ⟨X, 1, none⟩ = some (.string (bs f.2.1)) := by rw [hwq]; exact a1
          have x2 : wq.cell? ⟨X, 2, none⟩ = some (.string (bs f.2.2)) := by rw [hwq]; exact a2
          have z1 : wq.frozen? ⟨X, 1, none⟩ = false := by rw [hwq]; exact za1
          have z2 : wq.frozen? ⟨X, 2, none⟩ = false := by rw [hwq]; exact za2
          have Hbq : Hid (Below wr.heap.size wr wq) := Lib.hid (by rw [hwq]; exact HBQ)
          clear hwq
          go_region
          obtain ⟨wx, hwx⟩ : ∃ wx, wx = (wq.setCell ⟨X, 1, none⟩ (.string (bs f.2.1))).drew := ⟨_, rfl⟩
          rw [← hwx]
          have p0 : wx.cell? ⟨X, 0, none⟩ = some (.string (bs f.1)) := by rw [hwx]; exact (World.cell?_setCell_other _ _ _ _ (by intro h; cases h)).trans x0
          have p1 : wx.cell? ⟨X, 1, none⟩ = some (.string (bs f.2.1)) := by rw [hwx]; exact World.cell?_setCell_same' _ _ _ (by rw [x1]; rfl)
          have p2 : wx.cell? ⟨X, 2, none⟩ = some (.string (bs f.2.2)) := by rw [hwx]; exact (World.cell?_setCell_other _ _ _ _ (by intro h; cases h)).trans x2
          have y2 : wx.frozen? ⟨X, 2, none⟩ = false := by rw [hwx]; simpa using z2
          have Hbw : Hid (∀ u, Below wr.heap.size wr (wx.setCell ⟨X, 2, none⟩ u)) := Lib.hid (fun u => by rw [hwx]; exact ((Hbq.out.setCell (p := ⟨X, 1, none⟩) (Nat.le_of_eq HX.out.symm) _).drew).setCell (p := ⟨X, 2, none⟩) (Nat.le_of_eq HX.out.symm) u)
          clear hwx x0 x1 x2 z1 z2
          go_wp2_with (at_builtin; go_loud (refine wpList_push rfl (.tmp 59) (.tmp 61) 43 rfl w.heap.size 80 i0 _ 3 48 Tryz.underlying43 hi0 hz0 hz1 hz2 rfl (by omega) u5 i (flC (crashL keep 0 (s.files.take i))) rfl (own_below Hown.out (Hbw.out _)) #[.string (bs f.1), .string (bs f.2.1), .string { data := #[] }] (by rw [show (wx.setCell ⟨X, 2, none⟩ (.string { data := #[] })).heap.size = wx.heap.size by simp]; rfl) rfl (by simp [Value.oneCell']) (by omega) (by omega) w (Hb.out.trans ((Hbw.out _).mono Hb.out.size)) (Nat.le_trans Hb.out.size (Hbw.out (.string { data := #[] })).size) ?_); intro g4 cap4 w4 hown4 hb4)
          have Hown4 : Hid (w4.ownsRow w.heap.size 80 3 (.slice (some ⟨g4, 0, none⟩) (i + 1) cap4) (i + 1) (flC (crashL keep 0 (s.files.take (i + 1))))) := Lib.hid (by
            rw [Hcr.out, flC_append, flC_cons, Hb0.out, ← Hext.out]; rw [show (bs f.2.2).extract 0 0 = ({ data := #[] } : ByteArray) by rw [bs_extract, bs_eq]; simp, show bs f.2.1 ++ ({ data := #[] } : ByteArray) = bs f.2.1 by rw [← Hb0.out, bs_append, List.append_nil]]; exact hown4)
          have Hb4 := Lib.hid hb4
          clear hown4 hb4
          go_wp2
          go_roundw
          case rel => exact ⟨i + 1, by omega, by go_num, by rw [Hln.out]; go_num, Hown4.out, Hb4.out⟩
          case measure => simp [intOf]; omega
        · have hz' : (0 : Int) < (kl : Int) := by omega
          obtain ⟨J, hJ⟩ : ∃ J, J = ln % kl := ⟨_, rfl⟩
          have hJl : J < kl := by rw [hJ]; exact Nat.mod_lt _ hz
          have hmod : ((ln : Int)).tmod (kl : Int) = (J : Int) := by rw [hJ, ← Int.ofNat_tmod]
          obtain ⟨x, hx⟩ : ∃ x, keep[J]? = some x := ⟨_, List.getElem?_eq_getElem (by rw [HK.out]; exact hJl)⟩
          have Hk2 : Hid (k = (x % 18446744073709551616).toNat % (f.2.2.length + 1)) := Lib.hid (by
            rw [Hk.out]
            unfold keepN
            rw [if_neg (by intro e; rw [e] at hx; simp at hx), HK.out, ← hJ, List.getD_eq_getElem?_getD, hx]
            rfl)
          obtain ⟨kb, ko, rfl, hkb, hkc⟩ := row_int Hkr.out J x hx
          have hkbw : kb < wr.heap.size := Nat.lt_of_lt_of_le hkb Hb.out.size
          have d0 : wa.cell? ⟨kb, ko + J, none⟩ = some (.int .i64 x) := (Hba.out.cell (p := ⟨kb, ko + J, none⟩) hkbw).trans ((Hb.out.cell (p := ⟨kb, ko + J, none⟩) hkb).trans hkc)
          have hJz : (J : Int) < (kl : Int) := by omega
          have hJ0 : (0 : Int) ≤ (J : Int) := by omega
          have hkne : (kl : Int) ≠ 0 := by omega
          have hkne' : ((kl : Int) == 0) = false := beq_eq_false_iff_ne.2 hkne
          clear hJ hz hx
          go_wp2
          rw [← Hwa.out, ← HX.out]
          go_quiet (fail)
          have hwr : wrap64 ((IntKind.u64.wrap x).tmod ((f.2.2.length : Int) + 1)) = (k : Int) := by
            have h1 : IntKind.u64.wrap x = x % 18446744073709551616 := by simp [IntKind.wrap, IntKind.bits, IntKind.signed]
            have h2 : (0 : Int) ≤ x % 18446744073709551616 := Int.emod_nonneg _ (by omega)
            rw [h1, Int.tmod_eq_emod_of_nonneg h2]
            have h3 : (x % 18446744073709551616) % ((f.2.2.length : Int) + 1) = (k : Int) := by
              rw [Hk2.out]
              have h4 : ((x % 18446744073709551616).toNat : Int) = x % 18446744073709551616 := Int.toNat_of_nonneg h2
              rw [Int.natCast_emod, h4]
              push_cast
              rfl
            rw [h3]
            exact IntWalk.wrap64_in _ (by omega)
          rw [hwr]
          go_wp2
          obtain ⟨wq, hwq⟩ : ∃ wq, wq = wa.drewN nq := ⟨_, rfl⟩
          have HBQ := below_drewN Hba.out nq
          rw [← hwq]
          clear d0 hkc hwr
          have x0 : wq.cell? ⟨X, 0, none⟩ = some (.string (bs f.1)) := by rw [hwq]; exact a0
          have x1 : wq.cell? ⟨X, 1, none⟩ = some (.string (bs f.2.1)) := by rw [hwq]; exact a1
          have x2 : wq.cell? ⟨X, 2, none⟩ = some (.string (bs f.2.2)) := by rw [hwq]; exact a2
          have z1 : wq.frozen? ⟨X, 1, none⟩ = false := by rw [hwq]; exact za1
          have z2 : wq.frozen? ⟨X, 2, none⟩ = false := by rw [hwq]; exact za2
          have Hbq : Hid (Below wr.heap.size wr wq) := Lib.hid (by rw [hwq]; exact HBQ)
          clear hwq
          go_region
          obtain ⟨wx, hwx⟩ : ∃ wx, wx = (wq.setCell ⟨X, 1, none⟩ (.string (bs f.2.1 ++ (bs f.2.2).extract 0 k))).drew := ⟨_, rfl⟩
          rw [← hwx]
          have p0 : wx.cell? ⟨X, 0, none⟩ = some (.string (bs f.1)) := by rw [hwx]; exact (World.cell?_setCell_other _ _ _ _ (by intro h; cases h)).trans x0
          have p1 : wx.cell? ⟨X, 1, none⟩ = some (.string (bs f.2.1 ++ (bs f.2.2).extract 0 k)) := by rw [hwx]; exact World.cell?_setCell_same' _ _ _ (by rw [x1]; rfl)
          have p2 : wx.cell? ⟨X, 2, none⟩ = some (.string (bs f.2.2)) := by rw [hwx]; exact (World.cell?_setCell_other _ _ _ _ (by intro h; cases h)).trans x2
          have y2 : wx.frozen? ⟨X, 2, none⟩ = false := by rw [hwx]; simpa using z2
          have Hbw : Hid (∀ u, Below wr.heap.size wr (wx.setCell ⟨X, 2, none⟩ u)) := Lib.hid (fun u => by rw [hwx]; exact ((Hbq.out.setCell (p := ⟨X, 1, none⟩) (Nat.le_of_eq HX.out.symm) _).drew).setCell (p := ⟨X, 2, none⟩) (Nat.le_of_eq HX.out.symm) u)
          clear hwx x0 x1 x2 z1 z2
          go_wp2_with (at_builtin; go_loud (refine wpList_push rfl (.tmp 59) (.tmp 61) 43 rfl w.heap.size 80 i0 _ 3 48 Tryz.underlying43 hi0 hz0 hz1 hz2 rfl (by omega) u5 i (flC (crashL keep 0 (s.files.take i))) rfl (own_below Hown.out (Hbw.out _)) #[.string (bs f.1), .string (bs f.2.1 ++ (bs f.2.2).extract 0 k), .string { data := #[] }] (by rw [show (wx.setCell ⟨X, 2, none⟩ (.string { data := #[] })).heap.size = wx.heap.size by simp]; rfl) rfl (by simp [Value.oneCell']) (by omega) (by omega) w (Hb.out.trans ((Hbw.out _).mono Hb.out.size)) (Nat.le_trans Hb.out.size (Hbw.out (.string { data := #[] })).size) ?_); intro g4 cap4 w4 hown4 hb4)
          have Hown4 : Hid (w4.ownsRow w.heap.size 80 3 (.slice (some ⟨g4, 0, none⟩) (i + 1) cap4) (i + 1) (flC (crashL keep 0 (s.files.take (i + 1))))) := Lib.hid (by
            rw [Hcr.out, flC_append, flC_cons, Hb0.out, ← Hext.out]; exact hown4)
          have Hb4 := Lib.hid hb4
          clear hown4 hb4
          go_wp2
          go_roundw
          case rel => exact ⟨i + 1, by omega, by go_num, by rw [Hln.out]; go_num, Hown4.out, Hb4.out⟩
          case measure => simp [intOf]; omega
    · have hltz : ¬ (i : Int) < (N : Int) := by omega
      obtain rfl : i = N := by omega
      obtain ⟨A5, cap5, rfl, _⟩ := own_row Hown.out
      have Htk : Hid (s.files.take i = s.files) := Lib.hid (List.take_of_length_le (by rw [HN.out]; exact Nat.le_refl _))
      have m2 := (Hb.out.cell (p := ⟨r, 2, none⟩) hrl).trans c2
      have m3 := (Hb.out.cell (p := ⟨r, 3, none⟩) hrl).trans c3
      have n0 := (Hb.out.frozen (p := ⟨r, 0, none⟩) hrl).trans (cz 0)
      have n2 := (Hb.out.frozen (p := ⟨r, 2, none⟩) hrl).trans (cz 2)
      have n3 := (Hb.out.frozen (p := ⟨r, 3, none⟩) hrl).trans (cz 3)
      have Hbox : Hid (Holds (((wr.setCell ⟨r, 0, none⟩ (.slice A5 i cap5)).setCell ⟨r, 3, none⟩ (.bool false)).setCell ⟨r, 2, none⟩ (.int .i64 (-1))) r 45 [.slice A5 i cap5, .int .i64 s.room, .int .i64 (-1), .bool false]) := Lib.hid
        ((((H.out.below Hb.out).box.set 0 (.slice A5 i cap5)).set 3 (.bool false)).set 2 (.int .i64 (-1)))
      have Hrow9 : Hid ((((wr.setCell ⟨r, 0, none⟩ (.slice A5 i cap5)).setCell ⟨r, 3, none⟩ (.bool false)).setCell ⟨r, 2, none⟩ (.int .i64 (-1))).ownsRow (r + 1) 80 3 (.slice A5 i cap5) i (flC (crashL keep 0 (s.files.take i)))) := Lib.hid
        (ownsRow_setCell_below (ownsRow_setCell_below (ownsRow_setCell_below (own_base Hown.out hrl) (a := ⟨r, 0, none⟩) (Nat.lt_succ_self r) _) (a := ⟨r, 3, none⟩) (Nat.lt_succ_self r) _) (a := ⟨r, 2, none⟩) (Nat.lt_succ_self r) _)
      have Hon : Hid (Only (Foot r (.slice A2 i cap)) w (((wr.setCell ⟨r, 0, none⟩ (.slice A5 i cap5)).setCell ⟨r, 3, none⟩ (.bool false)).setCell ⟨r, 2, none⟩ (.int .i64 (-1)))) := Lib.hid
        (((((Only.refl _ _).below_new Hb.out).setCell ⟨r, 0, none⟩ _ (.inl (.inl rfl))).setCell ⟨r, 3, none⟩ _ (.inl (.inl rfl))).setCell ⟨r, 2, none⟩ _ (.inl (.inl rfl)))
      have Hlt : Hid (∀ k, (Value.slice A5 i cap5).ownBlock = some k → w.heap.size ≤ k) := Lib.hid (fun k hk => (Hown.out.lt k hk).1)
      go_wp2
      go_end0
      rw [Htk.out] at Hrow9
      refine ⟨rfl, .slice A5 i cap5, ⟨Hbox.out, ?_⟩, Hon.out, fun k hk => .inr (Hlt.out k hk)⟩
      show World.ownsRow _ _ _ _ _ (crashL keep 0 s.files).length _
      rw [crashL_length, HN.out]
      exact Hrow9.out
/-- A new disk. -/
theorem refnew_any (room : Int) (w : World) : Calls Tryz.prog 11 #[.int .i64 room] w fun e w' => e = .returned (.tuple #[.pointer (some ⟨w.heap.size, 0, none⟩), .bool (decide (0 ≤ room) && decide (room ≤ 8388608))]) ∧ RefD w' w.heap.size (.slice none 0 0) (newS room) ∧ Below w.heap.size w w' := by
  have Hn : Hid (RefD (w.alloc (.cells #[.slice none 0 0, .int .i64 room, .int .i64 (-1), .bool false] 45)) w.heap.size (.slice none 0 0) (newS room)) := Lib.hid
    ⟨Holds.new w 45 _, World.ownsRow_nil _ _ _ _⟩
  by_cases h : 0 ≤ room
  · have hd : decide (0 ≤ room) = true := decide_eq_true h
    go_enter Tryz.func11, Tryz.ntmps11
    go_wp2
    go_ret2
    exact ⟨by rw [hd, Bool.true_and]; rfl, Hn.out, (Below.refl _ _).alloc (Nat.le_refl _) _⟩
  · have hd : decide (0 ≤ room) = false := decide_eq_false h
    go_enter Tryz.func11, Tryz.ntmps11
    go_wp2
    go_ret2
    exact ⟨rfl, Hn.out, (Below.refl _ _).alloc (Nat.le_refl _) _⟩
end Go.Proofs.YtmgbmphheagdmaaGreatDoor
