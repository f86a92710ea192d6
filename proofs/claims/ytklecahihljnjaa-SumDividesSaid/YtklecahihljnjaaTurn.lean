/-
  The contract of exchequerref01.Turn: a copy of the bytes in which the pattern's bits are turned.
-/
import Derived.Test.YtklecahihljnjaaSumB
import Derived.Laws.OwnMore
import Derived.Deep.AppendLies
import Derived.OwnWalk
import Derived.LoopTactic
import Derived.Outline
namespace Go.Proofs.Ytklecahihljnjaa
open Go.RowKit

def turnL (l : List Int) (at_ p : Nat) : Nat → List Int
  | 0 => l
  | k + 1 => if p / 2 ^ k % 2 = 1 ∧ at_ + k < 8 * l.length then (turnL l at_ p k).set ((at_ + k) / 8) (bits BinOp.xor IntKind.u8 ((turnL l at_ p k).getD ((at_ + k) / 8) 0) (2 ^ ((at_ + k) % 8) % 256)) else turnL l at_ p k

theorem turnL_length (l : List Int) (at_ p k : Nat) : (turnL l at_ p k).length = l.length := by
  induction k with
  | zero => rfl
  | succ k ih => unfold turnL; split <;> simp [ih]

theorem turnL_yes {l : List Int} {at_ p k q len : Nat} {cv : Int} (hq : p / 2 ^ k = q) (hl : l.length = len) (h1 : q % 2 = 1) (h2 : at_ + k < 8 * len) (hc : (turnL l at_ p k).getD ((at_ + k) / 8) 0 = cv) :
    turnL l at_ p (k + 1) = (turnL l at_ p k).set ((at_ + k) / 8) (bits BinOp.xor IntKind.u8 cv (2 ^ ((at_ + k) % 8) % 256)) := by
  subst hq hl hc
  rw [turnL, if_pos ⟨h1, h2⟩]
theorem turnL_no {l : List Int} {at_ p k q len : Nat} (hq : p / 2 ^ k = q) (hl : l.length = len) (h : ¬ (q % 2 = 1 ∧ at_ + k < 8 * len)) : turnL l at_ p (k + 1) = turnL l at_ p k := by
  subst hq hl
  rw [turnL, if_neg h]
theorem half {p k q : Nat} (h : p / 2 ^ k = q) : Value.int IntKind.u32 ((q : Int) / 2) = Value.int IntKind.u32 ((p / 2 ^ (k + 1) : Nat) : Int) := by
  subst h
  rw [Nat.pow_succ, ← Nat.div_div_eq_div_mul]; rfl
theorem own_cell {w : World} {base g len c : Nat} {l : List Int} (h : w.ownsRow base 5 1 (.slice (some ⟨g, 0, none⟩) len c) len (l.map (.int .u8))) {i : Nat} (hi : i < len) :
    w.cell? ⟨g, i, none⟩ = some (.int .u8 (l.getD i 0)) := by
  rw [h.cellAt i (by omega)]
  have hl : i < l.length := by have := h.1; simp at this; omega
  rw [List.getElem?_map, List.getD_eq_getElem?_getD, List.getElem?_eq_getElem hl]; rfl

theorem Row8.news {w w' : World} {b off : Nat} {l : List Int} (h : Row8 w (some ⟨b, off, none⟩) l) (hb : Below w.heap.size w w') :
    ∀ j u, (l.map (Value.int .u8))[j]? = some u → w'.cell? ((⟨b, off, none⟩ : Addr).add j) = some u := by
  obtain ⟨_, _, h3⟩ := h
  intro j u hu
  rcases h3 with rfl | ⟨b', off', he, hc⟩
  · simp at hu
  · obtain ⟨rfl, rfl⟩ : b = b' ∧ off = off' := by simpa using he
    have hj : j < l.length := by
      rcases Nat.lt_or_ge j l.length with h | h
      · exact h
      · rw [List.getElem?_eq_none (by simpa using h)] at hu; cases hu
    have := cell_later hb (hc j hj)
    rw [List.getElem?_map, List.getElem?_eq_getElem hj] at hu
    rw [List.getD_eq_getElem?_getD, List.getElem?_eq_getElem hj] at this
    simp only [Option.map_some, Option.some.injEq] at hu
    subst hu
    by_cases h0 : j = 0
    · subst h0; simpa [Addr.add] using this
    · simpa [Addr.add, h0] using this

theorem info5 : (Try.prog.info? 5).map (fun i => (i.zero, i.size, i.bytes)) = some (some (.int .u8 0), 1, 1) := by kernel_rfl

set_option maxHeartbeats 1000000 in
theorem turn_any (b off len cap : Nat) (l : List Int) (at_ p : Nat) (w : World) (hl : l.length = len) (hlen : len ≤ 100000) (hrow : Row8 w (some ⟨b, off, none⟩) l)
    (hat : at_ < 8 * len) (hp : p < 4294967296) :
    Calls Try.prog 13 #[.slice (some ⟨b, off, none⟩) len cap, .int .i64 at_, .int .u32 p] w fun e w' =>
      ∃ g c, e = .returned (.slice (some ⟨g, 0, none⟩) len c) ∧ w'.ownsRow w.heap.size 5 1 (.slice (some ⟨g, 0, none⟩) len c) len ((turnL l at_ p 32).map (Value.int .u8)) ∧ Below w.heap.size w w' := by
  obtain ⟨i0, hi0, hz0, hz1, hz2⟩ := info_parts info5
  have Hl := Lib.hid hl
  have Hrow := Lib.hid hrow
  clear hl hrow
  have hc2 : Hid (∀ j u, (l.map (Value.int .u8))[j]? = some u → (w.alloc (.cells #[] 5)).cell? ((⟨b, off, none⟩ : Addr).add j) = some u) := Lib.hid (Row8.news Hrow.out (Below.refl _ _ |>.alloc (Nat.le_refl _) _))
  have hc1 : Hid ((w.alloc (.cells #[] 5)).ownsRow w.heap.size 5 1 (.slice (some ⟨w.heap.size, 0, none⟩) 0 0) 0 []) := Lib.hid (World.ownsRow_lit w #[] 0 (Nat.le_refl _) (by unfold maxLen; omega) rfl)
  have hc3 : Hid ((l.map (Value.int .u8)).length = len * 1) := Lib.hid (by simp; exact Hl.out)
  have hc4 : Hid (∀ u ∈ l.map (Value.int .u8), u.oneCell' = true) := Lib.hid (by intro u hu; simp at hu; obtain ⟨x, _, rfl⟩ := hu; rfl)
  have hc5 : Hid (0 + len ≤ maxLen) := Lib.hid (by unfold maxLen; omega)
  have hc6 : Hid ((0 + len) * 1 ≤ 140737488355328) := Lib.hid (by omega)
  have hc7 : Hid (w.heap.size ≤ (w.alloc (.cells #[] 5)).heap.size) := Lib.hid (by simp)
  go_enter Try.func13, Try.ntmps13
  go_wp2_with (at_builtin; go_loud (refine wpList_append_own _ rfl (.tmp 9) (.tmp 10) 22 rfl w.heap.size 5 i0 (.int .u8 0) 1 1 Try.underlying22 hi0 hz0 hz1 hz2 rfl (by decide) _ 0 [] rfl hc1.out ⟨b, off, none⟩ len cap (l.map (.int .u8)) rfl hc3.out hc2.out hc4.out hc5.out hc6.out hc7.out ?_); intro v' w1 hown hgrow hiff; clear hiff)

  clear hc1 hc2 hc3 hc4 hc5 hc6 hc7
  rw [Nat.zero_add, List.nil_append] at hown
  have hb1 : Below w.heap.size w w1 := ((Below.refl _ _).alloc (Nat.le_refl _) _).grown (row := some w.heap.size) hgrow (by simp) (by intro k hk; cases hk; exact Nat.le_refl _)
  clear hgrow
  obtain ⟨g, c, rfl, hg1, hg2⟩ := hown.form (by omega)
  have Hown := Lib.hid hown
  clear hown
  go_loopw [2, 8] (fun pv i wr => ∃ k : Nat, k ≤ 32 ∧ i = .int .i64 k ∧ pv = .int .u32 ((p / 2 ^ k : Nat) : Int) ∧ wr.ownsRow w.heap.size 5 1 (.slice (some ⟨g, 0, none⟩) len c) len ((turnL l at_ p k).map (.int .u8)) ∧ Below w.heap.size w wr) (fun _ i _ => 32 - (intOf i).toNat)
  case atStart => exact ⟨0, by omega, rfl, by simp, Hown.out, hb1⟩
  case round =>
    obtain ⟨k, hk, rfl, rfl, hown, hb⟩ := hrel
    have Hk := Lib.hid hown
    clear hown
    by_cases hlt : k < 32
    · have hq : p / 2 ^ k < 4294967296 := Nat.lt_of_le_of_lt (Nat.div_le_self _ _) hp
      generalize hqq : p / 2 ^ k = q at *
      have Hq := Lib.hid hqq
      clear hqq
      by_cases h1 : q % 2 = 1
      · by_cases h2 : at_ + k < 8 * len
        · have h1' : (((q : Nat) : Int) % 2 == 1) = true := by simp; omega
          have hcell : wr.cell? ⟨g, (at_ + k) / 8, none⟩ = some (.int .u8 ((turnL l at_ p k).getD ((at_ + k) / 8) 0)) := own_cell Hk.out (by omega)
          have hfr : wr.frozen? ⟨g, (at_ + k) / 8, none⟩ = false := Hk.out.frozenAt _
          generalize hcc : (turnL l at_ p k).getD ((at_ + k) / 8) 0 = cv at *
          have Hcc := Lib.hid hcc
          clear hcc
          go_wp2
          go_roundw
          case rel => exact ⟨k + 1, by omega, by go_num, half Hq.out, by rw [turnL_yes Hq.out Hl.out h1 h2 Hcc.out, List.map_set]; exact (Hk.out.stored _ _).1, hb.setCell hg1 _⟩
          case measure => simp [intOf]; omega
        · have h1' : (((q : Nat) : Int) % 2 == 1) = true := by simp; omega
          go_wp2
          go_roundw
          case rel => exact ⟨k + 1, by omega, by go_num, half Hq.out, by rw [turnL_no Hq.out Hl.out (fun h => h2 h.2)]; exact Hk.out, hb⟩
          case measure => simp [intOf]; omega
      · have h1' : (((q : Nat) : Int) % 2 == 1) = false := by simp; omega
        go_wp2
        go_roundw
        case rel => exact ⟨k + 1, by omega, by go_num, half Hq.out, by rw [turnL_no Hq.out Hl.out (fun h => h1 h.1)]; exact Hk.out, hb⟩
        case measure => simp [intOf]; omega
    · obtain rfl : k = 32 := by omega
      go_wp2
      go_ret
      exact ⟨g, c, rfl, Hk.out, hb⟩
end Go.Proofs.Ytklecahihljnjaa
