/-
  The law SumSwaps: two bytes side by side that differ, exchanged, make another sum.
-/
import Derived.Test.YtklecahihljnjaaSumC
import Derived.RegionTactic
import Derived.ChangeAlike
import Derived.Deep.QuietTactic
import Derived.BigQuiet
namespace Go.Proofs.Ytklecahihljnjaa
open Go.RowKit

theorem swaps_long (a : Option Addr) (len cap : Nat) (x : Int) (w : World) (hlen : ¬ len ≤ 100000) :
    Calls Try.prog 7 #[.slice a len cap, .int .i64 x] w fun e w' => e = .returned (.bool true) ∧ Below w.heap.size w w' := by
  have h1 : decide (100000 < (len : Int)) = true := by simp; omega
  go_enter Try.func7, Try.ntmps7
  go_wp2_with (go_at_call 8; refine (awake_any _).mono ?_; rintro e w' ⟨rfl, hb⟩)
  go_ret
  exact ⟨rfl, hb⟩
theorem swaps_less (a : Option Addr) (len cap : Nat) (x : Int) (w : World) (hlen : len ≤ 100000) (hx : x < 0) :
    Calls Try.prog 7 #[.slice a len cap, .int .i64 x] w fun e w' => e = .returned (.bool true) ∧ Below w.heap.size w w' := by
  have h1 : decide (100000 < (len : Int)) = false := by simp; omega
  have h2 : decide (x < 0) = true := by simp; omega
  go_enter Try.func7, Try.ntmps7
  go_wp2_with (go_at_call 8; refine (awake_any _).mono ?_; rintro e w' ⟨rfl, hb⟩)
  go_ret
  exact ⟨rfl, hb⟩
theorem swaps_past (a : Option Addr) (len cap : Nat) (x : Int) (w : World) (hlen : len ≤ 100000) (hx : 0 ≤ x) (hx' : (len : Int) - 1 ≤ x) :
    Calls Try.prog 7 #[.slice a len cap, .int .i64 x] w fun e w' => e = .returned (.bool true) ∧ Below w.heap.size w w' := by
  have h1 : decide (100000 < (len : Int)) = false := by simp; omega
  have h2 : decide (x < 0) = false := by simp; omega
  have h3 : decide ((len : Int) - 1 ≤ x) = true := by simp; omega
  go_enter Try.func7, Try.ntmps7
  go_wp2_with (go_at_call 8; refine (awake_any _).mono ?_; rintro e w' ⟨rfl, hb⟩)
  go_ret
  exact ⟨rfl, hb⟩

theorem Row8.cell {w : World} {b off : Nat} {l : List Int} (h : Row8 w (some ⟨b, off, none⟩) l) (i : Nat) (hi : i < l.length) : w.cell? ⟨b, off + i, none⟩ = some (.int .u8 (l.getD i 0)) := by
  rcases h.2.2 with rfl | ⟨b', off', he, hc⟩
  · simp at hi
  · obtain ⟨rfl, rfl⟩ : b = b' ∧ off = off' := by simpa using he
    exact hc i hi
theorem of_quiet (a : Option Addr) (len cap : Nat) (l : List Int) (w : World) (n : Nat) (hl : l.length = len) (hrow : Row8 w a l) :
    Calls Try.prog 9 #[.slice a len cap] (w.drewN n) fun e w' => e = .returned (.int .u32 (moreI 0 l)) ∧ ∃ m, w' = w.drewN m :=
  (of_any a len cap l (w.drewN n) hl (show Row8 (w.drewN n) a l from hrow)).mono fun _ _ ⟨he, hm⟩ => ⟨he, n, hm.symm⟩

set_option maxHeartbeats 1000000 in
theorem swaps_row (b off len cap : Nat) (l : List Int) (i : Nat) (w : World) (hl : l.length = len) (hrow : Row8 w (some ⟨b, off, none⟩) l) (hlen : len ≤ 100000)
    (hi : i + 1 < len) :
    Calls Try.prog 7 #[.slice (some ⟨b, off, none⟩) len cap, .int .i64 i] w fun e w' => e = .returned (.bool true) ∧ Below w.heap.size w w' := by
  obtain ⟨i0, hi0, hz0, hz1, hz2⟩ := info_parts info5
  have h1 : decide (100000 < (len : Int)) = false := by simp; omega
  have h2 : decide ((i : Int) < 0) = false := by simp
  have h3 : decide ((len : Int) - 1 ≤ (i : Int)) = false := by simp; omega
  have Hl := Lib.hid hl
  have Hrow := Lib.hid hrow
  have hrow0 := Lib.hid hrow.1
  have hc3 : Hid ((l.map (Value.int .u8)).length = len * 1) := Lib.hid (by simp; exact Hl.out)
  have hc4 : Hid (∀ u ∈ l.map (Value.int .u8), u.oneCell' = true) := Lib.hid (by intro u hu; simp at hu; obtain ⟨x, _, rfl⟩ := hu; rfl)
  have hc5 : Hid (0 + len ≤ maxLen) := Lib.hid (by unfold maxLen; omega)
  have hc6 : Hid ((0 + len) * 1 ≤ 140737488355328) := Lib.hid (by omega)
  have hc2 : Hid (∀ W, Below w.heap.size w W → ∀ j u, (l.map (Value.int .u8))[j]? = some u → (W.alloc (.cells #[] 5)).cell? ((⟨b, off, none⟩ : Addr).add j) = some u) :=
    Lib.hid (fun W hb => Row8.news (hrow.later hb) ((Below.refl _ _).alloc (Nat.le_refl _) _))
  have hc1 : Hid (∀ W : World, (W.alloc (.cells #[] 5)).ownsRow W.heap.size 5 1 (.slice (some ⟨W.heap.size, 0, none⟩) 0 0) 0 []) := Lib.hid (fun W => World.ownsRow_lit W #[] 0 (Nat.le_refl _) (by unfold maxLen; omega) rfl)
  have hc7 : Hid (∀ W : World, W.heap.size ≤ (W.alloc (.cells #[] 5)).heap.size) := Lib.hid (fun W => by simp)
  clear hl hrow
  go_enter Try.func7, Try.ntmps7
  go_wp2_with (first | (go_at_call 8; refine (awake_any _).mono ?_; rintro e w1 ⟨rfl, hb⟩) | (at_builtin; go_loud (refine wpList_append_own _ rfl (.tmp 22) (.tmp 23) 22 rfl w1.heap.size 5 i0 (.int .u8 0) 1 1 Try.underlying22 hi0 hz0 hz1 hz2 rfl (by decide) _ 0 [] rfl (hc1.out _) ⟨b, off, none⟩ len cap (l.map (.int .u8)) rfl hc3.out (hc2.out _ hb) hc4.out hc5.out hc6.out (hc7.out _) ?_); intro v' w2 hown hgrow hiff; clear hiff))
  rw [Nat.zero_add, List.nil_append] at hown
  have hg0 : Below w1.heap.size w1 w2 := ((Below.refl _ _).alloc (Nat.le_refl _) _).grown (row := some w1.heap.size) hgrow (by simp) (by intro k hk; cases hk; exact Nat.le_refl _)
  have hb2 : Below w.heap.size w w2 := hb.trans (hg0.mono hb.size)
  clear hgrow
  obtain ⟨g, c, rfl, hg1, hg2⟩ := hown.form (by omega)
  have hg3 : w.heap.size ≤ g := Nat.le_trans hb.size hg1
  have hc0 : w2.cell? ⟨g, i, none⟩ = some (.int .u8 (l.getD i 0)) := own_cell hown (by omega)
  have hc1 : w2.cell? ⟨g, i + 1, none⟩ = some (.int .u8 (l.getD (i + 1) 0)) := own_cell hown (by omega)
  have hf0 : w2.frozen? ⟨g, i, none⟩ = false := hown.frozenAt _
  have hf1 : w2.frozen? ⟨g, i + 1, none⟩ = false := hown.frozenAt _
  have Hown := Lib.hid hown
  have Hb2 := Lib.hid hb2
  have Hg3 := Lib.hid hg3
  clear hown hb2 hg3 hg0 hb hg1 hg2
  generalize hX : l.getD i 0 = x at *
  generalize hY : l.getD (i + 1) 0 = y at *
  have HX := Lib.hid hX
  have HY := Lib.hid hY
  clear hX hY
  go_region
  go_wp2
  obtain ⟨W3, hW3, own3, bel3⟩ : ∃ W3 : World, ((w2.setCell ⟨g, i, none⟩ (.int .u8 y)).setCell ⟨g, i + 1, none⟩ (.int .u8 x)).drew = W3 ∧
      W3.ownsRow w1.heap.size 5 1 (.slice (some ⟨g, 0, none⟩) len c) len (((l.set i y).set (i + 1) x).map (.int .u8)) ∧ Below w.heap.size w W3 :=
    ⟨_, rfl, by rw [List.map_set, List.map_set]; exact ((Hown.out.stored i (.int .u8 y)).1.stored (i + 1) (.int .u8 x)).1, ((Hb2.out.setCell Hg3.out _).setCell Hg3.out _).drew⟩
  rw [hW3]
  have hby : ∀ c ∈ (l.set i y).set (i + 1) x, 0 ≤ c ∧ c < 256 := by
    have hm : ∀ j, j < l.length → l.getD j 0 ∈ l := fun j hj => by rw [List.getD_eq_getElem?_getD, List.getElem?_eq_getElem hj]; simp
    have hl := Hl.out
    intro c hc
    rcases List.mem_or_eq_of_mem_set hc with hc | rfl
    · rcases List.mem_or_eq_of_mem_set hc with hc | rfl
      · exact hrow0.out c hc
      · rw [← HY.out]; exact hrow0.out _ (hm _ (by omega))
    · rw [← HX.out]; exact hrow0.out _ (hm _ (by omega))
  obtain ⟨r1, r2⟩ := row8_own own3 hby (by omega)
  have r3 := Hrow.out.later bel3
  have q1 := Lib.hid (fun n => of_quiet (some ⟨g, 0, none⟩) len c _ W3 n r1 r2)
  have q2 := Lib.hid (fun n => of_quiet (some ⟨b, off, none⟩) len cap l W3 n Hl.out r3)
  obtain ⟨e0, e1⟩ : W3.cell? ⟨b, off + i, none⟩ = some (.int .u8 x) ∧ W3.cell? ⟨b, off + (i + 1), none⟩ = some (.int .u8 y) := by
    have hl := Hl.out
    exact ⟨by rw [r3.cell i (by omega), HX.out], by rw [r3.cell (i + 1) (by omega), HY.out]⟩
  have Hbel := Lib.hid bel3
  have hsw := Lib.hid (swapped 0 l i hrow0.out (by rw [Hl.out]; exact hi))
  clear own3 bel3 hby r1 r2 r3 hW3 hc0 hc1 hf0 hf1 Hown Hb2 Hg3
  by_cases hxy : x = y
  · have t1 : (x == y) = true := by simpa using hxy
    have t2 : (moreI 0 ((l.set i y).set (i + 1) x) == moreI 0 l) = true := by
      have := hsw.out; rw [HX.out, HY.out] at this; simpa using this.2 hxy
    clear hxy
    go_quiet (first | (go_at_call 9; with_reducible exact q1.out _) | (go_at_call 9; with_reducible exact q2.out _))
    go_wp2
    go_ret
    exact ⟨rfl, Hbel.out.trans ⟨rfl, rfl, rfl, Nat.le_refl _, fun _ _ => rfl⟩⟩
  · have t1 : (x == y) = false := by simpa using hxy
    have t2 : (moreI 0 ((l.set i y).set (i + 1) x) == moreI 0 l) = false := by
      have := hsw.out; rw [HX.out, HY.out] at this; simpa using fun h => hxy (this.1 h)
    clear hxy
    go_quiet (first | (go_at_call 9; with_reducible exact q1.out _) | (go_at_call 9; with_reducible exact q2.out _))
    go_wp2
    go_ret
    exact ⟨rfl, Hbel.out.trans ⟨rfl, rfl, rfl, Nat.le_refl _, fun _ _ => rfl⟩⟩
end Go.Proofs.Ytklecahihljnjaa
