/-
  The contract of the reference's Plain.
-/
import Derived.Test.YtidacifgnaohjaaOwn
namespace Go.Proofs.Ytidacifgnaohjaa
open Go.RowKit

set_option maxRecDepth 100000 in
set_option maxHeartbeats 4000000 in
theorem refplain_any (s : ByteArray) (w : World) (hs : s.size ≤ 100000) : Calls Try.prog 15 #[.string s] w fun e w' => e = .returned (.string (bs (plainL (bl s)))) ∧ Below w.heap.size w w' := by
  obtain ⟨i0, hi0, hz0, hz1, hz2⟩ := info_parts info5
  have H0 : Hid (plainL (bl s) = [] ++ plainL ((bl s).drop 0)) := Lib.hid (by simp)
  go_enter Try.func15, Try.ntmps15
  go_wp2
  go_loopw [3, 4, 5, 6, 7] (fun v i _ _ _ wr => ∃ k : Nat, ∃ l : List UInt8, k ≤ s.size ∧ i = .int .i64 (k : Int) ∧ plainL (bl s) = l ++ plainL ((bl s).drop k) ∧ l.length ≤ 3 * k ∧ OwnB wr w.heap.size v l ∧ Below w.heap.size w wr) (fun _ i _ _ _ _ => s.size - (intOf i).toNat)
  case atStart => exact ⟨0, [], by omega, rfl, H0.out, by simp, own_empty w, (Below.refl _ _).alloc (Nat.le_refl _) _⟩
  case round =>
    clear H0
    obtain ⟨k, l, hk, rfl, hpl, hll, hown, hb⟩ := hrel
    have Hpl := Lib.hid hpl
    have Hown := Lib.hid hown
    have Hb := Lib.hid hb
    clear hpl hown hb
    by_cases hlt : k < s.size
    · have hlt' : (k : Int) < (s.size : Int) := by omega
      have Hz := Lib.hid (size_any (s.extract k s.size))
      rw [bl_rest] at Hz
      have Hn : Hid (((bl s).drop k).length = s.size - k) := Lib.hid (by rw [List.length_drop, bl_length])
      have Hne : Hid ((bl s).drop k ≠ []) := Lib.hid (fun e => by have := Hn.out; rw [e] at this; simp at this; omega)
      obtain ⟨z, hz⟩ : ∃ z, sizeL ((bl s).drop k) = z := ⟨_, rfl⟩
      have hz4 : z ≤ 4 := by rw [← hz]; exact sizeL_le4 _
      have hzl : z ≤ s.size - k := by have := sizeL_le ((bl s).drop k); rw [hz, Hn.out] at this; exact this
      rw [hz] at Hz
      have Hstep := Lib.hid (plain_step _ Hne.out)
      rw [hz, List.drop_drop] at Hstep
      have Hshown : Hid (shownL ((bl s).drop k) = if z = 0 then (((bl s).drop k).take 1).flatMap escB else if selfL (((bl s).drop k).take z) = true then ((bl s).drop k).take z else (((bl s).drop k).take z).flatMap escB) := Lib.hid (by unfold shownL; rw [hz])
      clear hz
      have Hi := Lib.hid (itself_any (s.extract k (k + z)))
      rw [bl_part] at Hi
      obtain ⟨b, hb⟩ : ∃ b, selfL (((bl s).drop k).take z) = b := ⟨_, rfl⟩
      rw [hb] at Hi Hshown
      clear hb
      by_cases h0 : z = 0
      · subst h0
        have Hst : Hid (plainL (bl s) = (l ++ shownL ((bl s).drop k)) ++ plainL ((bl s).drop (k + 1))) := Lib.hid (by rw [Hpl.out, Hstep.out, List.append_assoc]; rfl)
        have Hsh : Hid (shownL ((bl s).drop k) = (((bl s).drop k).take 1).flatMap escB) := Lib.hid (by rw [Hshown.out, if_pos rfl])
        clear Hpl Hstep Hshown
        go_wp2_with (first | (go_at_call 19; refine (Hz.out _).mono ?_; rintro e w' ⟨rfl, rfl⟩) | (go_at_call 20; refine (Hi.out _).mono ?_; rintro e w' ⟨rfl, rfl⟩))
        go_loopw [3, 6, 7] (fun v i _ wr => ∃ q : Nat, q ≤ 1 ∧ i = .int .i64 (q : Int) ∧ OwnB wr w.heap.size v (l ++ (((bl s).drop k).take q).flatMap escB) ∧ Below w.heap.size w wr) (fun _ i _ _ => 1 - (intOf i).toNat)
        case atStart => exact ⟨0, by omega, rfl, by rw [List.take_zero, List.flatMap_nil, List.append_nil]; exact Hown.out, Hb.out⟩
        case round =>
          obtain ⟨q, hq, rfl, hown2, hb2⟩ := hrel
          have Hk := Lib.hid hown2
          have Hbq := Lib.hid hb2
          clear hown2 hb2 Hown Hb
          obtain ⟨m, hm⟩ : ∃ m, l ++ (((bl s).drop k).take q).flatMap escB = m := ⟨_, rfl⟩
          rw [hm] at Hk
          have Hm := Lib.hid hm
          clear hm
          by_cases hqz : q < 1
          · have hkq : k + q < s.size := by omega
            obtain ⟨x, hx⟩ : ∃ x, s[k + q] = x := ⟨_, rfl⟩
            have Htk : Hid (l ++ (((bl s).drop k).take (q + 1)).flatMap escB = m ++ escB x) := Lib.hid (by
              have hdq : ((bl s).drop k).getD q 0 = x := by
                rw [List.getD_eq_getElem?_getD, List.getElem?_drop, ← List.getD_eq_getElem?_getD, ← bl_get s (k + q) hkq, hx]
              rw [take_snoc _ q (by rw [Hn.out]; omega) 0, List.flatMap_append, hdq, ← Hm.out, List.append_assoc]; simp)
            have hxl := x.toNat_lt
            obtain ⟨p, hp⟩ : ∃ p : Nat, p = x.toNat / 16 := ⟨_, rfl⟩
            obtain ⟨y, hy⟩ : ∃ y : Nat, y = x.toNat % 16 := ⟨_, rfl⟩
            have hp1 : p < 16 := by omega
            have hq1 : y < 16 := by omega
            have hpi : (x.toNat : Int) / 16 = (p : Int) := by omega
            have hqi : (x.toNat : Int) % 16 = (y : Int) := by omega
            have hpt : (x.toNat : Int).tdiv 16 = (p : Int) := by rw [Int.tdiv_eq_ediv_of_nonneg (by omega)]; exact hpi
            have hqt : (x.toNat : Int).tmod 16 = (y : Int) := by rw [Int.tmod_eq_emod_of_nonneg (by omega)]; exact hqi
            have hpw : IntKind.u8.wrap (p : Int) = (p : Int) := by simp [IntKind.wrap, IntKind.bits, IntKind.signed]; omega
            have hp2 : (p : Int) < 16 := by omega
            have hq2 : (y : Int) < 16 := by omega
            have hdp := digS_get p hp1
            have hdq := digS_get y hq1
            have Hesc : Hid (escB x = [92, hexB p, hexB y]) := Lib.hid (by unfold escB; rw [← hp, ← hy])
            rw [Hesc.out] at Htk
            have hcell2 : ∀ W : World, Hid (∀ j u, (byC [92, hexB p, hexB y])[j]? = some u → (W.alloc (.cells #[.int .u8 92, .int .u8 ((hexB p).toNat : Int), .int .u8 ((hexB y).toNat : Int)] 5)).drew.cell? ((⟨W.heap.size, 0, none⟩ : Addr).add j) = some u) := fun W => Lib.hid (bytes_new3 _ _ _ _ _ 5 (Holds.new W 5 _))
            have Hcell2 := Lib.hid hcell2
            have Hone : Hid (∀ u ∈ byC [92, hexB p, hexB y], u.oneCell' = true) := Lib.hid (byC_one _)
            have Hhl : Hid (m.length ≤ 300000) := Lib.hid (by rw [← Hm.out, List.length_append, esc_length, List.length_take]; omega)
            have Hm1 : Hid (m.length + 3 ≤ maxLen) := Lib.hid (by have := Hhl.out; unfold maxLen; omega)
            have Hm2 : Hid ((m.length + 3) * 1 ≤ 140737488355328) := Lib.hid (by have := Hhl.out; omega)
            have Hn3 : Hid ((byC [92, hexB p, hexB y]).length = 3 * 1) := Lib.hid (by rw [byC_length]; rfl)
            have Hsz : Hid (w.heap.size ≤ wr.heap.size) := Lib.hid Hbq.out.size
            clear hp hy hcell2
            go_wp2_with fail
            go_region_law ((refine step_append_lies _ rfl (.tmp 51) (.tmp 58) 32 rfl w.heap.size 5 i0 _ 1 1 Try.underlying32 hi0 hz0 hz1 hz2 rfl (by omega) u3 _ _ rfl (Hk.out.alloc _) ⟨wr.heap.size, 0, none⟩ 3 _ (byC [92, hexB p, hexB y]) rfl Hn3.out (Hcell2.out _).out Hone.out (by omega) Hm1.out Hm2.out (Nat.le_trans Hsz.out (by simp)) _ rfl ?_); intro g cap w2 hown2 hgrow hor hg2)
            all_goals
              have Hb2 : Hid (Below w.heap.size w w2) := Lib.hid (((Hbq.out.alloc Hsz.out _).drew).grown hgrow (Nat.le_trans Hsz.out (by simp)) (fun j hj => (Hk.out.lt j hj).1))
              have Hown2 : Hid (OwnB w2 w.heap.size (.slice (some ⟨g, 0, none⟩) (m.length + 3) cap) (l ++ (((bl s).drop k).take (q + 1)).flatMap escB)) := Lib.hid (by
                unfold OwnB
                rw [Htk.out, byC_append, List.length_append]
                exact hown2)
              clear hown2 hgrow hor hg2
              go_wp2
              go_roundw
              case rel => exact ⟨q + 1, by omega, by go_num, Hown2.out, Hb2.out⟩
              case measure => simp [intOf]; omega
          · obtain rfl : q = 1 := by omega
            have Hfin : Hid (plainL (bl s) = m ++ plainL ((bl s).drop (k + 1))) := Lib.hid (by rw [Hst.out, Hsh.out, Hm.out])
            have Hlen2 : Hid (m.length ≤ 3 * (k + 1)) := Lib.hid (by rw [← Hm.out, List.length_append, esc_length, List.length_take]; omega)
            go_wp2
            go_roundw
            case rel => exact ⟨k + 1, _, by omega, by go_num, Hfin.out, Hlen2.out, Hk.out, Hbq.out⟩
            case measure => simp [intOf]; omega
      · have h0' : ((z : Int) == 0) = false := by simp; omega
        have h0g : (0 : Int) < (z : Int) := by omega
        have hkz : k + z ≤ s.size := by omega
        have Hst : Hid (plainL (bl s) = (l ++ shownL ((bl s).drop k)) ++ plainL ((bl s).drop (k + z))) := Lib.hid (by rw [Hpl.out, Hstep.out, List.append_assoc, show max 1 z = z by omega])
        clear Hpl Hstep
        cases b with
        | true =>
          have Hsh : Hid (shownL ((bl s).drop k) = ((bl s).drop k).take z) := Lib.hid (by rw [Hshown.out, if_neg h0, if_pos rfl])
          have hez : (s.extract k (k + z)).size = z := by rw [ByteArray.size_extract]; omega
          have Hm1 : Hid (l.length + (s.extract k (k + z)).size ≤ maxLen) := Lib.hid (by rw [hez]; unfold maxLen; omega)
          have Hm2 : Hid (l.length + (s.extract k (k + z)).size ≤ 140737488355328) := Lib.hid (by rw [hez]; omega)
          clear Hshown
          go_wp2_with (first | (first | (go_at_call 19; refine (Hz.out _).mono ?_; rintro e w' ⟨rfl, rfl⟩) | (go_at_call 20; refine (Hi.out _).mono ?_; rintro e w' ⟨rfl, rfl⟩)) | (at_builtin; go_loud (refine Lib.wpList_append_own_string _ rfl (.tmp 28) (.tmp 34) 32 9 rfl w.heap.size 5 i0 Try.underlying32 Try.underlying9 hi0 hz0 hz1 hz2 u3 l.length (byC l) rfl Hown.out (s.extract k (k + z)) rfl Hm1.out Hm2.out Hb.out.size ?_); intro v2 w2 hown2 hgrow2 hiff2))
          have Hown2 : Hid (OwnB w2 w.heap.size v2 (l ++ shownL ((bl s).drop k))) := Lib.hid (by
            unfold OwnB
            rw [strCells_eq, ← byC_append, bl_part, ← Hsh.out] at hown2
            have hl : l.length + (s.extract k (k + z)).size = (l ++ shownL ((bl s).drop k)).length := by rw [List.length_append, Hsh.out, List.length_take, Hn.out, hez]; omega
            rw [hl] at hown2
            exact hown2)
          have Hb2 : Hid (Below w.heap.size w w2) := Lib.hid (Hb.out.grown hgrow2 Hb.out.size (fun j hj => (Hown.out.lt j hj).1))
          have Hlen2 : Hid ((l ++ shownL ((bl s).drop k)).length ≤ 3 * (k + z)) := Lib.hid (by rw [List.length_append, Hsh.out, List.length_take]; omega)
          clear hown2 hgrow2 hiff2
          go_wp2
          go_roundw
          case rel => exact ⟨k + z, _, by omega, by go_num, Hst.out, Hlen2.out, Hown2.out, Hb2.out⟩
          case measure => simp [intOf]; omega
        | false =>
          have Hsh : Hid (shownL ((bl s).drop k) = (((bl s).drop k).take z).flatMap escB) := Lib.hid (by rw [Hshown.out, if_neg h0]; rfl)
          clear Hshown
          go_wp2_with (first | (go_at_call 19; refine (Hz.out _).mono ?_; rintro e w' ⟨rfl, rfl⟩) | (go_at_call 20; refine (Hi.out _).mono ?_; rintro e w' ⟨rfl, rfl⟩))
          go_loopw [3, 6, 7] (fun v i _ wr => ∃ q : Nat, q ≤ z ∧ i = .int .i64 (q : Int) ∧ OwnB wr w.heap.size v (l ++ (((bl s).drop k).take q).flatMap escB) ∧ Below w.heap.size w wr) (fun _ i _ _ => z - (intOf i).toNat)
          case atStart => exact ⟨0, by omega, rfl, by rw [List.take_zero, List.flatMap_nil, List.append_nil]; exact Hown.out, Hb.out⟩
          case round =>
            obtain ⟨q, hq, rfl, hown2, hb2⟩ := hrel
            have Hk := Lib.hid hown2
            have Hbq := Lib.hid hb2
            clear hown2 hb2 Hown Hb
            obtain ⟨m, hm⟩ : ∃ m, l ++ (((bl s).drop k).take q).flatMap escB = m := ⟨_, rfl⟩
            rw [hm] at Hk
            have Hm := Lib.hid hm
            clear hm
            by_cases hqz : q < z
            · have hkq : k + q < s.size := by omega
              obtain ⟨x, hx⟩ : ∃ x, s[k + q] = x := ⟨_, rfl⟩
              have Htk : Hid (l ++ (((bl s).drop k).take (q + 1)).flatMap escB = m ++ escB x) := Lib.hid (by
                have hdq : ((bl s).drop k).getD q 0 = x := by
                  rw [List.getD_eq_getElem?_getD, List.getElem?_drop, ← List.getD_eq_getElem?_getD, ← bl_get s (k + q) hkq, hx]
                rw [take_snoc _ q (by rw [Hn.out]; omega) 0, List.flatMap_append, hdq, ← Hm.out, List.append_assoc]; simp)
              have hxl := x.toNat_lt
              obtain ⟨p, hp⟩ : ∃ p : Nat, p = x.toNat / 16 := ⟨_, rfl⟩
              obtain ⟨y, hy⟩ : ∃ y : Nat, y = x.toNat % 16 := ⟨_, rfl⟩
              have hp1 : p < 16 := by omega
              have hq1 : y < 16 := by omega
              have hpi : (x.toNat : Int) / 16 = (p : Int) := by omega
              have hqi : (x.toNat : Int) % 16 = (y : Int) := by omega
              have hpt : (x.toNat : Int).tdiv 16 = (p : Int) := by rw [Int.tdiv_eq_ediv_of_nonneg (by omega)]; exact hpi
              have hqt : (x.toNat : Int).tmod 16 = (y : Int) := by rw [Int.tmod_eq_emod_of_nonneg (by omega)]; exact hqi
              have hpw : IntKind.u8.wrap (p : Int) = (p : Int) := by simp [IntKind.wrap, IntKind.bits, IntKind.signed]; omega
              have hp2 : (p : Int) < 16 := by omega
              have hq2 : (y : Int) < 16 := by omega
              have hdp := digS_get p hp1
              have hdq := digS_get y hq1
              have Hesc : Hid (escB x = [92, hexB p, hexB y]) := Lib.hid (by unfold escB; rw [← hp, ← hy])
              rw [Hesc.out] at Htk
              have hcell2 : ∀ W : World, Hid (∀ j u, (byC [92, hexB p, hexB y])[j]? = some u → (W.alloc (.cells #[.int .u8 92, .int .u8 ((hexB p).toNat : Int), .int .u8 ((hexB y).toNat : Int)] 5)).drew.cell? ((⟨W.heap.size, 0, none⟩ : Addr).add j) = some u) := fun W => Lib.hid (bytes_new3 _ _ _ _ _ 5 (Holds.new W 5 _))
              have Hcell2 := Lib.hid hcell2
              have Hone : Hid (∀ u ∈ byC [92, hexB p, hexB y], u.oneCell' = true) := Lib.hid (byC_one _)
              have Hhl : Hid (m.length ≤ 300000) := Lib.hid (by rw [← Hm.out, List.length_append, esc_length, List.length_take]; omega)
              have Hm1 : Hid (m.length + 3 ≤ maxLen) := Lib.hid (by have := Hhl.out; unfold maxLen; omega)
              have Hm2 : Hid ((m.length + 3) * 1 ≤ 140737488355328) := Lib.hid (by have := Hhl.out; omega)
              have Hn3 : Hid ((byC [92, hexB p, hexB y]).length = 3 * 1) := Lib.hid (by rw [byC_length]; rfl)
              have Hsz : Hid (w.heap.size ≤ wr.heap.size) := Lib.hid Hbq.out.size
              clear hp hy hcell2
              go_wp2_with fail
              go_region_law ((refine step_append_lies _ rfl (.tmp 51) (.tmp 58) 32 rfl w.heap.size 5 i0 _ 1 1 Try.underlying32 hi0 hz0 hz1 hz2 rfl (by omega) u3 _ _ rfl (Hk.out.alloc _) ⟨wr.heap.size, 0, none⟩ 3 _ (byC [92, hexB p, hexB y]) rfl Hn3.out (Hcell2.out _).out Hone.out (by omega) Hm1.out Hm2.out (Nat.le_trans Hsz.out (by simp)) _ rfl ?_); intro g cap w2 hown2 hgrow hor hg2)
              all_goals
                have Hb2 : Hid (Below w.heap.size w w2) := Lib.hid (((Hbq.out.alloc Hsz.out _).drew).grown hgrow (Nat.le_trans Hsz.out (by simp)) (fun j hj => (Hk.out.lt j hj).1))
                have Hown2 : Hid (OwnB w2 w.heap.size (.slice (some ⟨g, 0, none⟩) (m.length + 3) cap) (l ++ (((bl s).drop k).take (q + 1)).flatMap escB)) := Lib.hid (by
                  unfold OwnB
                  rw [Htk.out, byC_append, List.length_append]
                  exact hown2)
                clear hown2 hgrow hor hg2
                go_wp2
                go_roundw
                case rel => exact ⟨q + 1, by omega, by go_num, Hown2.out, Hb2.out⟩
                case measure => simp [intOf]; omega
            · obtain rfl : q = z := by omega
              have Hfin : Hid (plainL (bl s) = m ++ plainL ((bl s).drop (k + q))) := Lib.hid (by rw [Hst.out, Hsh.out, Hm.out])
              have Hlen2 : Hid (m.length ≤ 3 * (k + q)) := Lib.hid (by rw [← Hm.out, List.length_append, esc_length, List.length_take]; omega)
              go_wp2
              go_roundw
              case rel => exact ⟨k + q, _, by omega, by go_num, Hfin.out, Hlen2.out, Hk.out, Hbq.out⟩
              case measure => simp [intOf]; omega
    · obtain rfl : k = s.size := by omega
      have hcv := conv_own Hown.out
      have e : plainL (bl s) = l := by rw [Hpl.out, List.drop_eq_nil_of_le (by rw [bl_length]; omega), plain_nil, List.append_nil]
      rw [← e] at hcv
      clear e
      go_wp2
      go_ret
      exact ⟨rfl, Hb.out⟩
end Go.Proofs.Ytidacifgnaohjaa
