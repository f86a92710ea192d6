/-
  The contracts of hash.Hex and exchequerref02.Hex.
-/
import Derived.Test.YtemiphbblaikjaaDoorSmall
import Derived.Deep.AppendLies
import Derived.Deep.RegionLaw
namespace Go.Proofs.YtemiphbblaikjaaDoor
open Go.RowKit

theorem info5 : (Tryd.prog.info? 5).map (fun i => (i.zero, i.size, i.bytes)) = some (some (.int .u8 0), 1, 1) := by kernel_rfl
/-- A value that owns these bytes. -/
def OwnB (w : World) (base : Nat) (v : Value) (l : List UInt8) : Prop := w.ownsRow base 5 1 v l.length (byC l)
theorem conv_own {w : World} {base : Nat} {v : Value} {l : List UInt8} (h : OwnB w base v l) : (convert 37 9 v).run Tryd.prog w = .ok (.string (bs l)) w := by
  rcases h.2 with ⟨rfl, h0⟩ | ⟨g, cap, cur, rfl, hb, hh, hc, hm, hs, ht⟩
  · have : l = [] := List.eq_nil_of_length_eq_zero h0
    subst this
    rw [run_convert_bytes_nil w 37 5 Tryd.underlying37 Tryd.underlying5 0 0 9 Tryd.underlying9, bs_eq]
    rfl
  · rw [Nat.mul_one] at ht
    refine conv_row (w := w) (g := g) (t := 5) (l := l) (rest := cur.toList.drop l.length) ?_ l.length cap rfl
    unfold Holds
    rw [← ht, List.take_append_drop, hh]
theorem bytes_new (W : World) (x y : UInt8) (g : Nat) (t : TypeId) (h : Holds W g t [.int .u8 (x.toNat : Int), .int .u8 (y.toNat : Int)]) : ∀ j u, (byC [x, y])[j]? = some u → W.cell? ((⟨g, 0, none⟩ : Addr).add j) = some u := fun j u hu => by
  rw [add_off]
  rw [byC_eq] at hu
  exact Holds.cell h hu

theorem hexL_append (l m : List UInt8) : hexL (l ++ m) = hexL l ++ hexL m := by simp [hexL]
theorem hexL_length (l : List UInt8) : (hexL l).length = 2 * l.length := by
  induction l with
  | nil => rfl
  | cons b l ih => simp [hexL] at ih ⊢; omega
theorem hexL_take (l : List UInt8) (k : Nat) (h : k < l.length) : hexL (l.take (k + 1)) = hexL (l.take k) ++ [digitB ((l.getD k 0).toNat / 16), digitB ((l.getD k 0).toNat % 16)] := by
  rw [take_snoc l k h 0, hexL_append]; rfl

theorem OwnB.lt {w : World} {base : Nat} {v : Value} {l : List UInt8} (h : OwnB w base v l) : ∀ k, v.ownBlock = some k → base ≤ k ∧ k < w.heap.size := World.ownsRow.lt h
theorem OwnB.alloc {w : World} {base : Nat} {v : Value} {l : List UInt8} (h : OwnB w base v l) (o : Obj) : (w.alloc o).ownsRow base 5 1 v l.length (byC l) := by
  rcases h.2 with ⟨hv, h0⟩ | ⟨g, cap, cur, hv, hb, hh, r⟩
  · exact ⟨h.1, .inl ⟨hv, h0⟩⟩
  · exact ⟨h.1, .inr ⟨g, cap, cur, hv, hb, (Below.heap_alloc w o g (Array.getElem?_eq_some_iff.1 hh).1).trans hh, r⟩⟩
theorem OwnB.below {w w' : World} {base : Nat} {v : Value} {l : List UInt8} (h : OwnB w base v l) {B : Nat} (hb : Below B w w') (hB : w.heap.size ≤ B) : OwnB w' base v l := by
  rcases h.2 with ⟨hv, h0⟩ | ⟨g, cap, cur, hv, hb', hh, r⟩
  · exact ⟨h.1, .inl ⟨hv, h0⟩⟩
  · exact ⟨h.1, .inr ⟨g, cap, cur, hv, hb', (hb.block g (by have := (Array.getElem?_eq_some_iff.1 hh).1; omega)).trans hh, r⟩⟩
theorem digS_get (n : Nat) (h : n < 16) (h' : n < ({ data := #[48, 49, 50, 51, 52, 53, 54, 55, 56, 57, 97, 98, 99, 100, 101, 102] } : ByteArray).size) : ({ data := #[48, 49, 50, 51, 52, 53, 54, 55, 56, 57, 97, 98, 99, 100, 101, 102] } : ByteArray)[n]'h' = digitB n := by
  have : n = 0 ∨ n = 1 ∨ n = 2 ∨ n = 3 ∨ n = 4 ∨ n = 5 ∨ n = 6 ∨ n = 7 ∨ n = 8 ∨ n = 9 ∨ n = 10 ∨ n = 11 ∨ n = 12 ∨ n = 13 ∨ n = 14 ∨ n = 15 := by omega
  rcases this with rfl | rfl | rfl | rfl | rfl | rfl | rfl | rfl | rfl | rfl | rfl | rfl | rfl | rfl | rfl | rfl <;> rfl

set_option maxRecDepth 100000 in
set_option maxHeartbeats 1000000 in
theorem hex_any (s : ByteArray) (w : World) (hs : s.size ≤ 100000) :
    Calls Tryd.prog 20 #[.string s] w fun e w' => e = .returned (.string (bs (hexL (bl s)))) ∧ Below w.heap.size w w' := by
  obtain ⟨i0, hi0, hz0, hz1, hz2⟩ := info_parts info5
  have Hl := Lib.hid (bl_length s)
  have hm2 : Hid (i0.bytes * (2 * s.size) ≤ 281474976710656) := Lib.hid (by rw [hz2]; omega)
  have hm3 : Hid (2 * s.size ≤ maxLen) := Lib.hid (by unfold maxLen; omega)
  go_enter Tryd.func20, Tryd.ntmps20
  go_wp2_with (at_make; go_loud (refine wpList_make_own _ rfl _ _ 37 rfl w.heap.size 5 i0 _ 1 Tryd.underlying37 hi0 hz0 hz1 .i64 .i64 (2 * (s.size : Int)) (2 * s.size) rfl rfl (by omega) hm2.out hm3.out (Nat.le_refl _) ?_); intro w1 hown hgrow)
  have hb1 : Below w.heap.size w w1 := (Below.refl _ _).grown hgrow (Nat.le_refl _) (by intro k hk; cases hk)
  have Hown : Hid (OwnB w1 w.heap.size (.slice (some ⟨w.heap.size, 0, none⟩) 0 (2 * s.size)) []) := Lib.hid (by unfold OwnB; rw [byC_eq]; exact hown)
  have Hb1 := Lib.hid hb1
  clear hown hgrow hb1
  go_wp2
  go_loopw [3, 4, 11] (fun v _ i wr => ∃ k : Nat, k ≤ s.size ∧ i = .int .i64 k ∧ OwnB wr w.heap.size v (hexL ((bl s).take k)) ∧ Below w.heap.size w wr) (fun _ _ i _ => s.size - (intOf i).toNat)
  case atStart => exact ⟨0, by omega, rfl, Hown.out, Hb1.out⟩
  case round =>
    obtain ⟨k, hk, rfl, hown, hb⟩ := hrel
    have Hk := Lib.hid hown
    have Hb := Lib.hid hb
    clear hown hb Hown Hb1
    by_cases hlt : k < s.size
    · obtain ⟨x, hx⟩ : ∃ x, s[k] = x := ⟨_, rfl⟩
      have Htk : Hid (hexL ((bl s).take (k + 1)) = hexL ((bl s).take k) ++ [digitB (x.toNat / 16), digitB (x.toNat % 16)]) := Lib.hid (by
        rw [hexL_take _ _ (by rw [Hl.out]; exact hlt), ← bl_get s k hlt, hx])
      have hxl := x.toNat_lt
      obtain ⟨p, hp⟩ : ∃ p : Nat, p = x.toNat / 16 := ⟨_, rfl⟩
      obtain ⟨q, hq⟩ : ∃ q : Nat, q = x.toNat % 16 := ⟨_, rfl⟩
      have hp1 : p < 16 := by omega
      have hq1 : q < 16 := by omega
      have hpi : (x.toNat : Int) / 16 = (p : Int) := by omega
      have hqi : bits BinOp.and IntKind.u8 (x.toNat : Int) 15 = (q : Int) := by
        have := u8_and_nat x.toNat 15 (by omega) (by omega)
        rw [show ((15 : Nat) : Int) = 15 from rfl] at this
        rw [this, show (15 : Nat) = 2 ^ 4 - 1 from rfl, Nat.and_two_pow_sub_one_eq_mod, hq]
      have hp2 : (p : Int) < 16 := by omega
      have hq2 : (q : Int) < 16 := by omega
      have hdp := digS_get p hp1
      have hdq := digS_get q hq1
      rw [← hp, ← hq] at Htk
      have hcell2 : ∀ W : World, Hid (∀ j u, (byC [digitB p, digitB q])[j]? = some u → (W.alloc (.cells #[.int .u8 ((digitB p).toNat : Int), .int .u8 ((digitB q).toNat : Int)] 5)).drew.cell? ((⟨W.heap.size, 0, none⟩ : Addr).add j) = some u) := fun W => Lib.hid (bytes_new _ _ _ _ 5 (Holds.new W 5 _))
      have Hcell2 := Lib.hid hcell2
      have Hone : Hid (∀ u ∈ byC [digitB p, digitB q], u.oneCell' = true) := Lib.hid (byC_one _)
      have Hhl : Hid ((hexL ((bl s).take k)).length = 2 * k) := Lib.hid (by rw [hexL_length, List.length_take, Hl.out]; omega)
      have Hm1 : Hid ((hexL ((bl s).take k)).length + 2 ≤ maxLen) := Lib.hid (by rw [Hhl.out]; unfold maxLen; omega)
      have Hm2 : Hid (((hexL ((bl s).take k)).length + 2) * 1 ≤ 140737488355328) := Lib.hid (by rw [Hhl.out]; omega)
      have Hn2 : Hid ((byC [digitB p, digitB q]).length = 2 * 1) := Lib.hid (by rw [byC_length]; rfl)
      have Hsz : Hid (w.heap.size ≤ wr.heap.size) := Lib.hid Hb.out.size
      clear hp hq hcell2
      go_wp2_with fail
      go_region_law (go_loud (refine step_append_lies _ rfl (.tmp 14) (.tmp 25) 37 rfl w.heap.size 5 i0 _ 1 1 Tryd.underlying37 hi0 hz0 hz1 hz2 rfl (by omega) u3 _ _ rfl (Hk.out.alloc _) ⟨wr.heap.size, 0, none⟩ 2 _ (byC [digitB p, digitB q]) rfl Hn2.out (Hcell2.out _).out Hone.out (by omega) Hm1.out Hm2.out (Nat.le_trans Hsz.out (by simp)) _ rfl ?_); intro g cap w2 hown2 hgrow hor hg2)
      all_goals
        have Hb2 : Hid (Below w.heap.size w w2) := Lib.hid (((Hb.out.alloc Hsz.out _).drew).grown hgrow (Nat.le_trans Hsz.out (by simp)) (fun j hj => (Hk.out.lt j hj).1))
        have Hown2 : Hid (OwnB w2 w.heap.size (.slice (some ⟨g, 0, none⟩) ((hexL ((bl s).take k)).length + 2) cap) (hexL ((bl s).take (k + 1)))) := Lib.hid (by
          unfold OwnB
          rw [Htk.out, byC_append, List.length_append]
          exact hown2)
        clear hown2 hgrow hor hg2
        go_wp2
        go_roundw
        case rel => exact ⟨k + 1, by omega, by go_num, Hown2.out, Hb2.out⟩
        case measure => simp [intOf]; omega
    · have hcv := conv_own Hk.out
      rw [List.take_of_length_le (by rw [Hl.out]; omega)] at hcv
      go_wp2
      go_ret
      exact ⟨rfl, Hb.out⟩
end Go.Proofs.YtemiphbblaikjaaDoor
