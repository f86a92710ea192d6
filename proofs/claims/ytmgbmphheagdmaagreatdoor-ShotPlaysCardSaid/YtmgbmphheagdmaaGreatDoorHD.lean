/-
  The contracts of exchequerref01.More and exchequerref01.Of: what the long division tells.
-/
import Derived.Test.YtmgbmphheagdmaaGreatDoorHC
namespace Go.Proofs.YtmgbmphheagdmaaGreatDoor
open Go.RowKit
set_option maxRecDepth 100000

/-- The first k of the 32 heads met by what was left. -/
def hdL (X : List Bool) (s : Nat) : Nat → List Bool
  | 0 => X
  | k + 1 => if s / 2 ^ k % 2 = 0 then (hdL X s k).set k (!(hdL X s k).getD k false) else hdL X s k
theorem hdL_length (X : List Bool) (s k : Nat) : (hdL X s k).length = X.length := by
  induction k with
  | zero => rfl
  | succ k ih => rw [hdL]; split <;> simp [ih]
def longI (s : Nat) (l : List Int) : Nat := outN (stepsL (hdL (bitsL l ++ List.replicate 32 false) s 32) (8 * l.length)) 32

theorem map_tail (X : List Bool) : X.map Value.bool ++ List.replicate 32 (Value.bool false) = (X ++ List.replicate 32 false).map Value.bool := by
  rw [List.map_append, List.map_replicate]

set_option maxRecDepth 100000 in
set_option maxHeartbeats 4000000 in
theorem refof_any (a : Option Addr) (len cap : Nat) (l : List Int) (w : World) (hl : l.length = len) (hlen : len ≤ 2000000) (hrow : Row8 w a l) :
    Calls Tryz.prog 68 #[.slice a len cap] w fun e w' => e = .returned (.int .u32 (longI 0 l : Nat)) ∧ Below w.heap.size w w' := by
  have Hl := Lib.hid hl
  have Hrow := Lib.hid hrow
  have hsz : Hid (8 * len + 32 ≤ 100000000) := Lib.hid (by omega)
  have hform : Hid (∀ (W : World) (v : Value), W.ownsRow w.heap.size 4 1 v (8 * len) ((bitsL l).map .bool) → v ≠ .slice none 0 0 → ∃ g1 c1, v = .slice (some ⟨g1, 0, none⟩) (8 * len) c1) := Lib.hid (by
    intro W v hown hne
    rcases hown.2 with ⟨h', h2⟩ | ⟨g', cap', cur, h', _⟩
    · exact absurd h' hne
    · exact ⟨g', cap', h'⟩)
  clear hl hrow
  go_enter Tryz.func68, Tryz.ntmps68
  go_wp2_with (first | (go_at_call 93; refine (bits_any _ _ _ _ _ Hl.out hlen Hrow.out).mono ?_; rintro e w1 ⟨v, rfl, hown, hne, hb⟩; obtain ⟨g1, c1, rfl⟩ := hform.out _ _ hown hne) | (at_builtin; go_loud (refine wpList_append_false _ rfl (.tmp 6) rfl w.heap.size g1 (8 * len) c1 _ rfl hown (by omega) hb.size ?_); intro v' w2 hown2 hgrow hne2))
  have hbs := hb.size
  have hb2 : Below w.heap.size w w2 := hb.grown hgrow hbs (fun k hk => (hown.lt k hk).1)
  rw [map_tail] at hown2
  obtain ⟨g, c, rfl, hg1, hg2⟩ := hown2.form (by omega)
  have Hown2 := Lib.hid hown2
  have Hb2 := Lib.hid hb2
  clear hown hown2 hgrow hb2 hb hne hne2
  go_wp2
  generalize hX : bitsL l ++ List.replicate 32 false = X at *
  have HX := Lib.hid hX
  have HXl : Hid (X.length = 8 * len + 32) := Lib.hid (by rw [← hX, List.length_append, bitsL_length, Hl.out, List.length_replicate])
  clear hX
  go_loopw [4] (fun i wr => ∃ k : Nat, k ≤ 32 ∧ i = .int .i64 k ∧ wr.ownsRow w.heap.size 4 1 (.slice (some ⟨g, 0, none⟩) (8 * len + 32) c) (8 * len + 32) ((hdL X 0 k).map .bool) ∧ Below w.heap.size w wr) (fun i _ => 32 - (intOf i).toNat)
  case atStart => exact ⟨0, by omega, rfl, Hown2.out, Hb2.out⟩
  case round =>
    obtain ⟨k, hk, rfl, hown, hb⟩ := hrel
    have Hk := Lib.hid hown
    have Hb := Lib.hid hb
    clear hown hb
    by_cases hlt : k < 32
    · have Hhead : Hid (hdL X 0 (k + 1) = (hdL X 0 k).set k (!(hdL X 0 k).getD k false)) := Lib.hid (by rw [hdL, if_pos (by simp)])
      have hcell := own_bool Hk.out (i := k) (by omega)
      have hfr : wr.frozen? ⟨g, k, none⟩ = false := Hk.out.frozenAt _
      generalize (hdL X 0 k).getD k false = cv at *
      go_wp2
      go_roundw
      case rel => exact ⟨k + 1, by omega, by go_num, by rw [Hhead.out, List.map_set]; exact (Hk.out.stored _ _).1, Hb.out.setCell hg1 _⟩
      case measure => simp [intOf]; omega
    · obtain rfl : k = 32 := by omega
      have hlong : Hid (longI 0 l = outN (stepsL (hdL X 0 32) (8 * len + 32 - 32)) 32) := Lib.hid (by unfold longI; rw [HX.out, Hl.out, Nat.add_sub_cancel])
      have hbs2 := Hb.out.size
      have hlt2 := (Hk.out.lt g (by simp [Value.ownBlock])).2
      go_wp2_with fail
      refine (divref_any w.heap.size g _ c _ _ (by omega) hsz.out hbs2 hg1 hlt2 Hk.out).mono ?_
      rintro e w3 ⟨rfl, hb3⟩
      rw [← hlong.out]
      go_wp2
      go_ret
      exact ⟨rfl, Hb.out.trans hb3⟩
end Go.Proofs.YtmgbmphheagdmaaGreatDoor
