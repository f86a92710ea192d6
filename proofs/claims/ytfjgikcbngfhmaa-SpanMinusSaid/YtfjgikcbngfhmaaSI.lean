/-
  The contract of the reference's Union.
-/
import Derived.Test.YtfjgikcbngfhmaaSH
namespace Go.Proofs.Ytfjgikcbngfhmaa
open Go.RowKit

def OwnF (w : World) (base : Nat) (v : Value) (l : List Bool) : Prop := w.ownsRow base 4 1 v l.length (boolC l)
theorem infoF : (Try.prog.info? 4).map (fun i => (i.zero, i.size, i.bytes)) = some (some (.bool false), 1, 1) := by kernel_rfl
theorem boolC_append (l m : List Bool) : boolC (l ++ m) = boolC l ++ boolC m := by simp [boolC]
theorem take_more {α : Type} (l : List α) (i : Nat) (x : α) (h : l[i]? = some x) : l.take (i + 1) = l.take i ++ [x] := by
  obtain ⟨hl, rfl⟩ := List.getElem?_eq_some_iff.1 h
  rw [List.take_succ_eq_append_getElem hl]

set_option maxRecDepth 100000 in
set_option maxHeartbeats 4000000 in
theorem refunion_any (l : List Sp) (A : Option Addr) (n cap : Nat) (w : World) (hn : l.length = n) (hr : RowAt w A (spC l)) (hn2 : n ≤ 100000) :
    Calls Try.prog 22 #[.slice A n cap] w fun e w' => ∃ v, e = .returned v ∧ OwnS w' w.heap.size v (unionL l) ∧ (unionL l).length ≤ 1 + 2 * n ∧ Below w.heap.size w w' := by
  obtain ⟨i0, hi0, hz0, hz1, hz2⟩ := info_parts infoF
  have Hr := Lib.hid hr
  have Hn := Lib.hid hn
  have Hends := Lib.hid (refends_any l A n cap w hn hr hn2)
  have Hun : Hid (unionL l = madeL none ((endsL l).map fun e => (e, anyL l e))) := Lib.hid rfl
  clear hr hn
  generalize endsL l = E at *
  go_enter Try.func22, Try.ntmps22
  go_wp2_with fail
  refine Hends.out.mono ?_
  rintro e w1 ⟨v1, rfl, ho1, hl1, hb1⟩
  obtain ⟨A1, cap1, rfl, hr1⟩ := own_row ho1
  have Hr1 := Lib.hid hr1
  have Hb1 := Lib.hid hb1
  have HrA : Hid (RowAt w1 A (spC l)) := Lib.hid (Hr.out.below Hb1.out (Nat.le_refl _))
  obtain ⟨m, hm⟩ : ∃ m, m = E.length := ⟨_, rfl⟩
  rw [← hm] at hl1
  have Hm := Lib.hid hm
  have Ho0 : Hid (OwnF (w1.alloc (.cells #[] 4)) w1.heap.size (.slice (some ⟨w1.heap.size, 0, none⟩) 0 0) []) := Lib.hid (own_none w1 4 1)
  rw [← hm]
  clear ho1 hr1 hb1 hm Hends Hr
  go_wp2
  go_loopw [4, 5] (fun hv iv wr => ∃ i : Nat, i ≤ m ∧ iv = .int .i64 i ∧ OwnF wr w1.heap.size hv ((E.take i).map fun e => anyL l e) ∧ Below w1.heap.size w1 wr) (fun _ iv _ => m - (intOf iv).toNat)
  case atStart => exact ⟨0, by omega, rfl, by rw [List.take_zero, List.map_nil]; exact Ho0.out, (Below.refl _ _).alloc (Nat.le_refl _) _⟩
  case round =>
    obtain ⟨i, hi, rfl, hown, hb⟩ := hrel
    have Hown := Lib.hid hown
    have Hb := Lib.hid hb
    clear hown hb Ho0
    by_cases hlt : i < m
    · have hlt' : (i : Int) < (m : Int) := by omega
      obtain ⟨x, hx⟩ : ∃ x, E[i]? = some x := ⟨_, List.getElem?_eq_getElem (by rw [← Hm.out]; exact hlt)⟩
      obtain ⟨b, off, rfl, hbl, c0⟩ := row_str Hr1.out i x hx
      have d0 := (Hb.out.cell (p := ⟨b, off + i, none⟩) hbl).trans c0
      have Htk : Hid ((E.take (i + 1)).map (fun e => anyL l e) = (E.take i).map (fun e => anyL l e) ++ [anyL l x]) := Lib.hid (by rw [take_more E i x hx, List.map_append]; rfl)
      have Hl : Hid (((E.take i).map fun e => anyL l e).length = i) := Lib.hid (by rw [List.length_map, List.length_take, ← Hm.out]; omega)
      have Hany := Lib.hid (refany_any l A n cap x wr Hn.out (HrA.out.below Hb.out (Nat.le_refl _)) (by omega))
      generalize anyL l x = bx at *
      obtain ⟨hs, hhs⟩ : ∃ hs, hs = (E.take i).map (fun e => anyL l e) := ⟨_, rfl⟩
      rw [← hhs] at Htk Hl Hown
      clear c0 hx hhs
      have Hown1 : Hid (wr.ownsRow w1.heap.size 4 1 u4 i (boolC hs)) := Lib.hid (by have := Hown.out; unfold OwnF at this; rw [Hl.out] at this; exact this)
      go_wp2_with (first
        | (go_at_call 30; refine Hany.out.mono ?_; rintro e w2 ⟨rfl, hb2⟩; have Hown2 := Lib.hid (own_below Hown1.out hb2); replace hb2 := Lib.hid (Hb.out.trans (hb2.mono Hb.out.size)))
        | (at_builtin; refine wpList_push rfl (.tmp 15) (.tmp 22) 46 rfl w1.heap.size 4 i0 _ 1 1 Try.underlying46 hi0 hz0 hz1 hz2 rfl (by omega) u4 i (boolC hs) rfl Hown2.out #[.bool bx] rfl rfl (by simp [Value.oneCell']) (by omega) (by omega) w1 hb2.out hb2.out.size ?_; intro g cap2 w3 hown3 hb3))
      have Hown3 : Hid (OwnF w3 w1.heap.size (.slice (some ⟨g, 0, none⟩) (i + 1) cap2) ((E.take (i + 1)).map fun e => anyL l e)) := Lib.hid (by
        rw [Htk.out]
        unfold OwnF
        rw [boolC_append, List.length_append, Hl.out]
        exact hown3)
      replace hb3 := Lib.hid hb3
      clear hown3
      go_wp2
      go_roundw
      case rel => exact ⟨i + 1, by omega, by go_num, Hown3.out, hb3.out⟩
      case measure => simp [intOf]; omega
    · have hlt' : ¬ (i : Int) < (m : Int) := by omega
      have him : i = m := by omega
      have Hown1 : Hid (OwnF wr w1.heap.size u4 (E.map fun e => anyL l e)) := Lib.hid (by
        have := Hown.out
        rw [List.take_of_length_le (by rw [← Hm.out]; omega)] at this
        exact this)
      obtain ⟨A2, cap2, rfl, hr2⟩ := own_row Hown1.out
      have Hr2 := Lib.hid hr2
      have hlm : (E.map fun e => anyL l e).length = m := by rw [List.length_map, ← Hm.out]
      have hmade := refmade_any (E.map fun e => (e, anyL l e)) A1 A2 m cap1 cap2 wr (by rw [List.length_map, ← Hm.out]) (by
          rw [List.map_map]
          rw [show ((fun x : List UInt8 × Bool => x.1) ∘ fun e => (e, anyL l e)) = id from rfl, List.map_id]
          exact Hr1.out.below Hb.out (Nat.le_refl _)) (by
          rw [List.map_map]
          exact Hr2.out) (by omega)
      rw [← Hun.out] at hmade
      have Hmade := Lib.hid hmade
      clear hr2 hmade him Hown Hown1
      go_wp2_with (go_at_call 37; (try rw [hlm]); refine Hmade.out.mono ?_; rintro e w3 ⟨v3, rfl, ho3, hl3, hb3⟩; replace ho3 := Lib.hid ho3; replace hl3 := Lib.hid hl3; replace hb3 := Lib.hid hb3)
      go_ret
      have hbw : Below w.heap.size w wr := Hb1.out.trans (Hb.out.mono Hb1.out.size)
      exact ⟨_, rfl, own_base ho3.out hbw.size, by have := hl3.out; omega, hbw.trans (hb3.out.mono hbw.size)⟩
end Go.Proofs.Ytfjgikcbngfhmaa
