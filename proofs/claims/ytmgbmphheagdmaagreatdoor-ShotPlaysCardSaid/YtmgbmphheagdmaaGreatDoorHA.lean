/-
  The contract of exchequerref01.bits: the bits of bytes, each one's lowest first.
-/
import Derived.Test.YtmgbmphheagdmaaGreatDoorKS
import Derived.RegionTactic
import Derived.ChangeAlike
import Derived.Deep.QuietTactic
import Derived.BigQuiet
import Derived.Laws.OwnMore
import Derived.Deep.AppendLies
import Derived.OwnWalk
import Derived.LoopTactic
import Derived.Outline
namespace Go.Proofs.YtmgbmphheagdmaaGreatDoor
open Go.RowKit

theorem Row8.later {w w' : World} {a : Option Addr} {l : List Int} (h : Row8 w a l) (hb : Below w.heap.size w w') : Row8 w' a l := by
  obtain ⟨h1, h2, h3⟩ := h
  refine ⟨h1, h2, h3.imp id ?_⟩
  rintro ⟨b, off, e, hc⟩
  exact ⟨b, off, e, fun i hi => cell_later hb (hc i hi)⟩
theorem Row8.cell {w : World} {b off : Nat} {l : List Int} (h : Row8 w (some ⟨b, off, none⟩) l) (i : Nat) (hi : i < l.length) : w.cell? ⟨b, off + i, none⟩ = some (.int .u8 (l.getD i 0)) := by
  rcases h.2.2 with rfl | ⟨b', off', he, hc⟩
  · simp at hi
  · obtain ⟨rfl, rfl⟩ : b = b' ∧ off = off' := by simpa using he
    exact hc i hi
def byteBits (x : Int) : List Bool := (List.range 8).map fun q => (x.toNat / 2 ^ q) % 2 == 1
def bitsL (l : List Int) : List Bool := l.flatMap byteBits

theorem byteBits_length (x : Int) : (byteBits x).length = 8 := by simp [byteBits]
theorem bitsL_length (l : List Int) : (bitsL l).length = 8 * l.length := by
  unfold bitsL
  induction l with
  | nil => rfl
  | cons c l ih => rw [List.flatMap_cons, List.length_append, ih, byteBits_length, List.length_cons]; omega
theorem byteBits_take (x : Int) (q : Nat) (hq : q < 8) : (byteBits x).take (q + 1) = (byteBits x).take q ++ [(x.toNat / 2 ^ q) % 2 == 1] := by
  have h : q < (byteBits x).length := by rw [byteBits_length]; exact hq
  rw [List.take_succ_eq_append_getElem h]
  congr 2
  simp [byteBits]
theorem bitsL_take (l : List Int) (j : Nat) (hj : j < l.length) : bitsL (l.take (j + 1)) = bitsL (l.take j) ++ byteBits (l.getD j 0) := by
  unfold bitsL
  rw [List.take_succ_eq_append_getElem hj, List.flatMap_append, List.getD_eq_getElem?_getD, List.getElem?_eq_getElem hj]
  simp

theorem bool_cast (y : Nat) : ((y : Int) % 2 == 1) = (y % 2 == 1) := by
  rw [Bool.eq_iff_iff]; simp; omega

theorem info4 : (Tryz.prog.info? 4).map (fun i => (i.zero, i.size, i.bytes)) = some (some (.bool false), 1, 1) := by kernel_rfl

set_option maxRecDepth 100000 in
set_option maxHeartbeats 4000000 in
theorem bits_any (a : Option Addr) (len cap : Nat) (l : List Int) (w : World) (hl : l.length = len) (hlen : len ≤ 2000000) (hrow : Row8 w a l) :
    Calls Tryz.prog 93 #[.slice a len cap] w fun e w' =>
      ∃ v, e = .returned v ∧ w'.ownsRow w.heap.size 4 1 v (8 * len) ((bitsL l).map .bool) ∧ v ≠ .slice none 0 0 ∧ Below w.heap.size w w' := by
  obtain ⟨i0, hi0, hz0, hz1, hz2⟩ := info_parts info4
  have Hl := Lib.hid hl
  have Hrow := Lib.hid hrow
  have hc1 : Hid ((w.alloc (.cells #[] 4)).ownsRow w.heap.size 4 1 (.slice (some ⟨w.heap.size, 0, none⟩) 0 0) 0 []) := Lib.hid (World.ownsRow_lit w #[] 0 (Nat.le_refl _) (by unfold maxLen; omega) rfl)
  have hn0 : Hid (Value.slice (some ⟨w.heap.size, 0, none⟩) 0 0 ≠ .slice none 0 0) := Lib.hid (by simp)
  have hb0 : Hid (Below w.heap.size w (w.alloc (.cells #[] 4))) := Lib.hid ((Below.refl _ _).alloc (Nat.le_refl _) _)
  have hnew : Hid (∀ (W : World) (x : Bool), ∀ j u, [Value.bool x][j]? = some u → (W.alloc (.cells #[.bool x] 4)).cell? ((⟨W.heap.size, 0, none⟩ : Addr).add j) = some u) := Lib.hid (fun W x => cell_one_new _ _ _)
  clear hl hrow
  go_enter Tryz.func93, Tryz.ntmps93
  go_wp2
  go_loopw [3, 5, 6, 10] (fun v _ _ i wr => ∃ j : Nat, j ≤ len ∧ i = .int .i64 j ∧ wr.ownsRow w.heap.size 4 1 v (8 * j) ((bitsL (l.take j)).map .bool) ∧ v ≠ .slice none 0 0 ∧ Below w.heap.size w wr) (fun _ _ _ i _ => len - (intOf i).toNat)
  case atStart => exact ⟨0, by omega, rfl, by simpa [bitsL] using hc1.out, hn0.out, hb0.out⟩
  case round =>
    obtain ⟨j, hj, rfl, hown, hne, hb⟩ := hrel
    have Hown := Lib.hid hown
    have Hne := Lib.hid hne
    have Hb := Lib.hid hb
    clear hown hne hb
    by_cases hlt : j < len
    · have hcell0 := Hrow.out.later Hb.out
      obtain ⟨b, off, rfl⟩ : ∃ b off, a = some ⟨b, off, none⟩ := by
        rcases Hrow.out.2.2 with h | ⟨b, off, h, _⟩
        · rw [h] at Hl; have := Hl.out; simp at this; omega
        · exact ⟨b, off, h⟩
      have hcell := hcell0.cell j (by rw [Hl.out]; exact hlt)
      have hmem : l.getD j 0 ∈ l := by
        have h : j < l.length := by rw [Hl.out]; exact hlt
        rw [List.getD_eq_getElem?_getD, List.getElem?_eq_getElem h]; simp
      obtain ⟨c0, c1⟩ := Hrow.out.1 _ hmem
      have Hnext := Lib.hid (bitsL_take l j (by rw [Hl.out]; exact hlt))
      clear hcell0 hmem
      generalize l.getD j 0 = x0 at *
      obtain ⟨x, rfl⟩ := Int.eq_ofNat_of_zero_le c0
      have hx : x < 256 := by omega
      clear c0 c1
      obtain ⟨wo, rfl⟩ : ∃ wo : World, wo = wr := ⟨_, rfl⟩
      go_wp2
      go_loopw [3, 5, 6] (fun v c k wr => ∃ q : Nat, q ≤ 8 ∧ k = .int .i64 q ∧ c = .int .u8 ((x / 2 ^ q : Nat) : Int) ∧ wr.ownsRow w.heap.size 4 1 v (8 * j + q) ((bitsL (l.take j) ++ (byteBits x).take q).map .bool) ∧ v ≠ .slice none 0 0 ∧ Below w.heap.size w wr) (fun _ _ k _ => 8 - (intOf k).toNat)
      case atStart => exact ⟨0, by omega, rfl, by simp, by simpa using Hown.out, Hne.out, Hb.out⟩
      case round =>
        obtain ⟨q, hq, rfl, rfl, hown, hne, hb⟩ := hrel
        have Hown2 := Lib.hid hown
        have Hne2 := Lib.hid hne
        have Hb2 := Lib.hid hb
        clear hown hne hb
        by_cases hlt2 : q < 8
        · have hy : x / 2 ^ q < 256 := Nat.lt_of_le_of_lt (Nat.div_le_self _ _) hx
          have Hbits := Lib.hid (byteBits_take (x : Int) q hlt2)
          have Hq : Hid (Value.int IntKind.u8 (((x / 2 ^ q : Nat) : Int) / 2) = Value.int IntKind.u8 ((x / 2 ^ (q + 1) : Nat) : Int)) := Lib.hid (by rw [Nat.pow_succ, ← Nat.div_div_eq_div_mul]; rfl)
          rw [Int.toNat_natCast] at Hbits
          generalize x / 2 ^ q = y at *
          have h4 : Hid (∀ u ∈ [Value.bool ((y : Int) % 2 == 1)], u.oneCell' = true) := Lib.hid (by intro u hu; simp only [List.mem_singleton] at hu; subst hu; rfl)
          have h5 : Hid (8 * j + q + 1 ≤ maxLen) := Lib.hid (by unfold maxLen; omega)
          have h6 : Hid ((8 * j + q + 1) * 1 ≤ 140737488355328) := Lib.hid (by omega)
          have h7 : Hid (w.heap.size ≤ (wr.alloc (.cells #[.bool ((y : Int) % 2 == 1)] 4)).heap.size) := Lib.hid (by have := Hb2.out.size; simp; omega)
          go_wp2_with (at_builtin; go_loud (refine wpList_append_own _ rfl (.tmp 18) (.tmp 22) 133 rfl w.heap.size 4 i0 (.bool false) 1 1 Tryz.underlying133 hi0 hz0 hz1 hz2 rfl (by decide) _ (8 * j + q) _ rfl (Hown2.out.alloc _) ⟨wr.heap.size, 0, none⟩ 1 1 [.bool ((y : Int) % 2 == 1)] rfl rfl (hnew.out _ _) h4.out h5.out h6.out h7.out ?_); intro v' w2 hown3 hgrow hiff)
          go_roundw
          case rel =>
            refine ⟨q + 1, by omega, by go_num, Hq.out, ?_, ?_, ?_⟩
            · rw [Hbits.out, ← List.append_assoc, List.map_append (l₂ := [y % 2 == 1]), ← bool_cast]
              exact hown3
            · intro h; have := (hiff.1 h).2; omega
            · exact (Hb2.out.alloc Hb2.out.size _).grown hgrow h7.out (fun k hk => (Hown2.out.lt k hk).1)
          case measure => simp [intOf]; omega
        · obtain rfl : q = 8 := by omega
          go_wp2
          go_roundw
          case rel => exact ⟨j + 1, by omega, by go_num, by rw [Hnext.out]; exact Hown2.out, Hne2.out, Hb2.out⟩
          case measure => simp [intOf]; omega
    · obtain rfl : j = len := by omega
      go_wp2
      go_ret
      exact ⟨_, rfl, by rw [← Hl.out, List.take_length] at Hown; rw [← Hl.out]; exact Hown.out, Hne.out, Hb.out⟩
end Go.Proofs.YtmgbmphheagdmaaGreatDoor
