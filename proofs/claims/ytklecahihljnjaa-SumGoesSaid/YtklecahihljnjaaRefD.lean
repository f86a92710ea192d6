/-
  The contracts of exchequerref01.More and exchequerref01.Of: what the long division tells.
-/
import Derived.Test.YtklecahihljnjaaRefC
namespace Go.Proofs.Ytklecahihljnjaa
open Go.RowKit

/-- The first k of the 32 heads met by what was left. -/
def headL (X : List Bool) (s : Nat) : Nat → List Bool
  | 0 => X
  | k + 1 => if s / 2 ^ k % 2 = 0 then (headL X s k).set k (!(headL X s k).getD k false) else headL X s k
theorem headL_length (X : List Bool) (s k : Nat) : (headL X s k).length = X.length := by
  induction k with
  | zero => rfl
  | succ k ih => rw [headL]; split <;> simp [ih]
def longI (s : Nat) (l : List Int) : Nat := outN (stepsL (headL (bitsL l ++ List.replicate 32 false) s 32) (8 * l.length)) 32

theorem map_tail (X : List Bool) : X.map Value.bool ++ List.replicate 32 (Value.bool false) = (X ++ List.replicate 32 false).map Value.bool := by
  rw [List.map_append, List.map_replicate]

set_option maxHeartbeats 1000000 in
theorem refmore_any (s : Nat) (a : Option Addr) (len cap : Nat) (l : List Int) (w : World) (hs : s < 4294967296) (hl : l.length = len) (hlen : len ≤ 2000) (hrow : Row8 w a l) :
    Calls Try.prog 12 #[.int .u32 s, .slice a len cap] w fun e w' => e = .returned (.int .u32 (longI s l : Nat)) ∧ Below w.heap.size w w' := by
  have Hl := Lib.hid hl
  have Hrow := Lib.hid hrow
  have hsz : Hid (8 * len + 32 ≤ 100000) := Lib.hid (by omega)
  clear hl hrow
  go_enter Try.func12, Try.ntmps12
  have hform : Hid (∀ (W : World) (v : Value), W.ownsRow w.heap.size 4 1 v (8 * len) ((bitsL l).map .bool) → v ≠ .slice none 0 0 → ∃ g1 c1, v = .slice (some ⟨g1, 0, none⟩) (8 * len) c1) := Lib.hid (by
    intro W v hown hne
    rcases hown.2 with ⟨h', h2⟩ | ⟨g', cap', cur, h', _⟩
    · exact absurd h' hne
    · exact ⟨g', cap', h'⟩)
  go_wp2_with (first | (go_at_call 14; refine (bits_any _ _ _ _ _ Hl.out hlen Hrow.out).mono ?_; rintro e w1 ⟨v, rfl, hown, hne, hb⟩; obtain ⟨g1, c1, rfl⟩ := hform.out _ _ hown hne) | (at_builtin; go_loud (refine wpList_append_false _ rfl (.tmp 8) rfl w.heap.size g1 (8 * len) c1 _ rfl hown (by omega) hb.size ?_); intro v' w2 hown2 hgrow hne2))
  have hbs := hb.size
  have hb2 : Below w.heap.size w w2 := hb.grown hgrow hbs (fun k hk => (hown.lt k hk).1)
  rw [map_tail] at hown2
  obtain ⟨g, c, rfl, hg1, hg2⟩ := hown2.form (by omega)
  have Hown2 := Lib.hid hown2
  have Hb2 := Lib.hid hb2
  clear hown hown2 hgrow hb2 hb hne hne2
  go_wp2
  generalize hX : bitsL l ++ List.replicate 32 false = X at *
  have HX := Lib.hid hX
  have HXl : Hid (X.length = 8 * len + 32) := Lib.hid (by rw [← hX, List.length_append, bitsL_length, Hl.out, List.length_replicate])
  clear hX
  go_loopw [0, 6] (fun sv i wr => ∃ k : Nat, k ≤ 32 ∧ i = .int .i64 k ∧ sv = .int .u32 ((s / 2 ^ k : Nat) : Int) ∧ wr.ownsRow w.heap.size 4 1 (.slice (some ⟨g, 0, none⟩) (8 * len + 32) c) (8 * len + 32) ((headL X s k).map .bool) ∧ Below w.heap.size w wr) (fun _ i _ => 32 - (intOf i).toNat)
  case atStart => exact ⟨0, by omega, rfl, by simp, Hown2.out, Hb2.out⟩
  case round =>
    obtain ⟨k, hk, rfl, rfl, hown, hb⟩ := hrel
    have Hk := Lib.hid hown
    have Hb := Lib.hid hb
    clear hown hb
    by_cases hlt : k < 32
    · have hq : s / 2 ^ k < 4294967296 := Nat.lt_of_le_of_lt (Nat.div_le_self _ _) hs
      have Hhead : Hid (headL X s (k + 1) = if s / 2 ^ k % 2 = 0 then (headL X s k).set k (!(headL X s k).getD k false) else headL X s k) := Lib.hid rfl
      generalize hqq : s / 2 ^ k = q at *
      have Hq := Lib.hid hqq
      clear hqq
      by_cases h1 : q % 2 = 0
      · have h1' : (((q : Nat) : Int) % 2 == 0) = true := by simp; omega
        have hcell := own_bool Hk.out (i := k) (by omega)
        have hfr : wr.frozen? ⟨g, k, none⟩ = false := Hk.out.frozenAt _
        rw [if_pos h1] at Hhead
        generalize (headL X s k).getD k false = cv at *
        go_wp2
        go_roundw
        case rel => exact ⟨k + 1, by omega, by go_num, half Hq.out, by rw [Hhead.out, List.map_set]; exact (Hk.out.stored _ _).1, Hb.out.setCell hg1 _⟩
        case measure => simp [intOf]; omega
      · have h1' : (((q : Nat) : Int) % 2 == 0) = false := by simp; omega
        rw [if_neg h1] at Hhead
        go_wp2
        go_roundw
        case rel => exact ⟨k + 1, by omega, by go_num, half Hq.out, by rw [Hhead.out]; exact Hk.out, Hb.out⟩
        case measure => simp [intOf]; omega
    · obtain rfl : k = 32 := by omega
      have hlong : Hid (longI s l = outN (stepsL (headL X s 32) (8 * len + 32 - 32)) 32) := Lib.hid (by unfold longI; rw [HX.out, Hl.out, Nat.add_sub_cancel])
      have hbs2 := Hb.out.size
      have hlt2 := (Hk.out.lt g (by simp [Value.ownBlock])).2
      go_wp2_with fail
      refine (divref_any w.heap.size g _ c _ _ (by omega) hsz.out hbs2 hg1 hlt2 Hk.out).mono ?_
      rintro e w3 ⟨rfl, hb3⟩
      rw [← hlong.out]
      go_wp2
      go_ret
      exact ⟨rfl, Hb.out.trans hb3⟩

set_option maxHeartbeats 1000000 in
theorem refof_any (a : Option Addr) (len cap : Nat) (l : List Int) (w : World) (hl : l.length = len) (hlen : len ≤ 2000) (hrow : Row8 w a l) :
    Calls Try.prog 10 #[.slice a len cap] w fun e w' => e = .returned (.int .u32 (longI 0 l : Nat)) ∧ Below w.heap.size w w' := by
  have Hl := Lib.hid hl
  have Hrow := Lib.hid hrow
  have hsz : Hid (8 * len + 32 ≤ 100000) := Lib.hid (by omega)
  have hform : Hid (∀ (W : World) (v : Value), W.ownsRow w.heap.size 4 1 v (8 * len) ((bitsL l).map .bool) → v ≠ .slice none 0 0 → ∃ g1 c1, v = .slice (some ⟨g1, 0, none⟩) (8 * len) c1) := Lib.hid (by
    intro W v hown hne
    rcases hown.2 with ⟨h', h2⟩ | ⟨g', cap', cur, h', _⟩
    · exact absurd h' hne
    · exact ⟨g', cap', h'⟩)
  clear hl hrow
  go_enter Try.func10, Try.ntmps10
  go_wp2_with (first | (go_at_call 14; refine (bits_any _ _ _ _ _ Hl.out hlen Hrow.out).mono ?_; rintro e w1 ⟨v, rfl, hown, hne, hb⟩; obtain ⟨g1, c1, rfl⟩ := hform.out _ _ hown hne) | (at_builtin; go_loud (refine wpList_append_false _ rfl (.tmp 6) rfl w.heap.size g1 (8 * len) c1 _ rfl hown (by omega) hb.size ?_); intro v' w2 hown2 hgrow hne2))
  have hbs := hb.size
  have hb2 : Below w.heap.size w w2 := hb.grown hgrow hbs (fun k hk => (hown.lt k hk).1)
  rw [map_tail] at hown2
  obtain ⟨g, c, rfl, hg1, hg2⟩ := hown2.form (by omega)
  have Hown2 := Lib.hid hown2
  have Hb2 := Lib.hid hb2
  clear hown hown2 hgrow hb2 hb hne hne2
  go_wp2
  generalize hX : bitsL l ++ List.replicate 32 false = X at *
  have HX := Lib.hid hX
  have HXl : Hid (X.length = 8 * len + 32) := Lib.hid (by rw [← hX, List.length_append, bitsL_length, Hl.out, List.length_replicate])
  clear hX
  go_loopw [4] (fun i wr => ∃ k : Nat, k ≤ 32 ∧ i = .int .i64 k ∧ wr.ownsRow w.heap.size 4 1 (.slice (some ⟨g, 0, none⟩) (8 * len + 32) c) (8 * len + 32) ((headL X 0 k).map .bool) ∧ Below w.heap.size w wr) (fun i _ => 32 - (intOf i).toNat)
  case atStart => exact ⟨0, by omega, rfl, Hown2.out, Hb2.out⟩
  case round =>
    obtain ⟨k, hk, rfl, hown, hb⟩ := hrel
    have Hk := Lib.hid hown
    have Hb := Lib.hid hb
    clear hown hb
    by_cases hlt : k < 32
    · have Hhead : Hid (headL X 0 (k + 1) = (headL X 0 k).set k (!(headL X 0 k).getD k false)) := Lib.hid (by rw [headL, if_pos (by simp)])
      have hcell := own_bool Hk.out (i := k) (by omega)
      have hfr : wr.frozen? ⟨g, k, none⟩ = false := Hk.out.frozenAt _
      generalize (headL X 0 k).getD k false = cv at *
      go_wp2
      go_roundw
      case rel => exact ⟨k + 1, by omega, by go_num, by rw [Hhead.out, List.map_set]; exact (Hk.out.stored _ _).1, Hb.out.setCell hg1 _⟩
      case measure => simp [intOf]; omega
    · obtain rfl : k = 32 := by omega
      have hlong : Hid (longI 0 l = outN (stepsL (headL X 0 32) (8 * len + 32 - 32)) 32) := Lib.hid (by unfold longI; rw [HX.out, Hl.out, Nat.add_sub_cancel])
      have hbs2 := Hb.out.size
      have hlt2 := (Hk.out.lt g (by simp [Value.ownBlock])).2
      go_wp2_with fail
      refine (divref_any w.heap.size g _ c _ _ (by omega) hsz.out hbs2 hg1 hlt2 Hk.out).mono ?_
      rintro e w3 ⟨rfl, hb3⟩
      rw [← hlong.out]
      go_wp2
      go_ret
      exact ⟨rfl, Hb.out.trans hb3⟩
end Go.Proofs.Ytklecahihljnjaa
