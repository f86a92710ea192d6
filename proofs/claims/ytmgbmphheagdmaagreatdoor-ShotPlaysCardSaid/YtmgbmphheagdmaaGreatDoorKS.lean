/-
  The contracts of the program's own functions: sum.divide, sum.More, sum.Of.
-/
import Derived.Test.YtmgbmphheagdmaaGreatDoorGen
import Derived.Test.YtmgbmphheagdmaaGreatDoorWA
import Derived.WalkKit
import Derived.WalkLawsBesides
import Derived.WalkSpells
import Derived.Lib.Hide
namespace Go.Proofs.YtmgbmphheagdmaaGreatDoor
open Go.RowKit

set_option maxHeartbeats 400000 in
theorem divide_any (r c : Int) (w : World) (hr0 : 0 ≤ r) (hr : r < 4294967296) (hc0 : 0 ≤ c) (hc : c < 256) :
    Calls Tryz.prog 114 #[.int .u32 r, .int .u8 c] w fun e w' => e = .returned (.int .u32 (dvI r c)) ∧ w = w' := by
  have hd := Lib.hid (dvI_of r c hr0 hr hc0 (by omega))
  have hx0 : 0 ≤ bits BinOp.xor IntKind.u32 r c ∧ bits BinOp.xor IntKind.u32 r c < 4294967296 := by
    rw [xor_b32 r c hr0 hr hc0 (by omega)]; exact ⟨by omega, by have := (BitVec.ofInt 32 r ^^^ BitVec.ofInt 32 c).isLt; omega⟩
  go_enter Tryz.func114, Tryz.ntmps114
  go_wp2
  generalize hg : bits BinOp.xor IntKind.u32 r c = g at *
  have Hg := Lib.hid hg; clear hg
  go_loop [0, 9] (fun t i => ∃ k : Nat, k ≤ 8 ∧ i = .int .i64 k ∧ t = .int .u32 (snI k g)) (fun _ i => 8 - (intOf i).toNat)
  case atStart => exact ⟨0, by omega, rfl, by rw [snI_zero _ hx0.1 hx0.2]⟩
  case round =>
    obtain ⟨k, hk, rfl, rfl⟩ := hrel
    obtain ⟨b1, b2⟩ := snI_bd k g
    have hs := Lib.hid (snI_succ k g)
    by_cases hlt : k < 8
    · go_wp2
      go_round
      case rel => exact ⟨k + 1, by omega, by go_num, by rw [hs.out]⟩
      case measure => simp [intOf]; omega
    · obtain rfl : k = 8 := by omega
      go_wp2
      go_ret
      exact ⟨ret_int hd.out, rfl⟩

/-- A row of bytes as a slice reads it: the slice is empty, or its cells lie one behind the other. -/
def Row8 (w : World) (a : Option Addr) (l : List Int) : Prop :=
  (∀ c ∈ l, 0 ≤ c ∧ c < 256) ∧ l.length ≤ 140737488351232 ∧ (l = [] ∨ ∃ b off, a = some ⟨b, off, none⟩ ∧ ∀ i, i < l.length → w.cell? ⟨b, off + i, none⟩ = some (.int .u8 (l.getD i 0)))

set_option maxHeartbeats 400000 in
theorem more_any (s : Int) (a : Option Addr) (len cap : Nat) (l : List Int) (w : World) (hs0 : 0 ≤ s) (hs : s < 4294967296) (hl : l.length = len) (hrow : Row8 w a l) :
    Calls Tryz.prog 92 #[.int .u32 s, .slice a len cap] w fun e w' => e = .returned (.int .u32 (moreI s l)) ∧ w = w' := by
  obtain ⟨hby, hlen, hrow⟩ := hrow
  have hnil := Lib.hid (restI_nil s hs0 hs)
  have hend := Lib.hid (moreI_of s l)
  have hL : len ≤ 140737488351232 := by omega
  have hby' := Lib.hid hby
  clear hby hlen
  rcases hrow with rfl | ⟨b, off, rfl, hcell⟩
  · obtain rfl : len = 0 := by simpa using hl.symm
    clear hby' hl
    go_enter Tryz.func92, Tryz.ntmps92
    go_wp2
    go_loop [5, 12] (fun t i => i = .int .i64 0 ∧ t = .int .u32 (restI s [])) (fun _ _ => 0)
    case atStart => exact ⟨rfl, by rw [hnil.out]⟩
    case round =>
      obtain ⟨rfl, rfl⟩ := hrel
      go_wp2
      go_ret
      exact ⟨ret_int hend.out, rfl⟩
  · have hcell' := Lib.hid hcell
    have hl' := Lib.hid hl
    clear hcell hl
    go_enter Tryz.func92, Tryz.ntmps92
    go_wp2
    go_loop [5, 12] (fun t i => ∃ k : Nat, k ≤ len ∧ i = .int .i64 k ∧ t = .int .u32 (restI s (l.take k))) (fun _ i => len - (intOf i).toNat)
    case atStart => exact ⟨0, Nat.zero_le _, rfl, by rw [List.take_zero, hnil.out]⟩
    case round =>
      obtain ⟨k, hk, rfl, rfl⟩ := hrel
      by_cases hlt : k < len
      · have hc := hcell'.out k (by rw [hl'.out]; exact hlt)
        have hmem : l.getD k 0 ∈ l := by
          have h : k < l.length := by rw [hl'.out]; exact hlt
          rw [List.getD_eq_getElem?_getD, List.getElem?_eq_getElem h]; simp
        obtain ⟨c0, c1⟩ := hby'.out _ hmem
        have hst : restI s (l.take (k + 1)) = dvI (restI s (l.take k)) (l.getD k 0) := by
          have h : k < l.length := by rw [hl'.out]; exact hlt
          rw [List.take_succ_eq_append_getElem h, restI_snoc, List.getD_eq_getElem?_getD, List.getElem?_eq_getElem h]; rfl
        have Hst := Lib.hid hst
        obtain ⟨b1, b2⟩ := restI_bd s (l.take k)
        clear hst hmem
        generalize l.getD k 0 = c at *
        generalize hr : restI s (l.take k) = r at *
        have Hr := Lib.hid hr
        clear hr
        go_wp2_with (go_at_call 114; refine (divide_any _ _ _ (by omega) (by omega) (by omega) (by omega)).mono ?_; rintro e w' ⟨rfl, rfl⟩)
        go_round
        case rel => exact ⟨k + 1, by omega, by go_num, by rw [Hst.out]⟩
        case measure => simp [intOf]; omega
      · obtain rfl : k = len := by omega
        go_wp2
        go_ret
        exact ⟨ret_int (by rw [← hl'.out, List.take_length]; exact hend.out), rfl⟩

set_option maxHeartbeats 400000 in
theorem of_any (a : Option Addr) (len cap : Nat) (l : List Int) (w : World) (hl : l.length = len) (hrow : Row8 w a l) :
    Calls Tryz.prog 63 #[.slice a len cap] w fun e w' => e = .returned (.int .u32 (moreI 0 l)) ∧ w = w' := by
  have hl' := Lib.hid hl
  have hrow' := Lib.hid hrow
  clear hl hrow
  go_enter Tryz.func63, Tryz.ntmps63
  go_wp2_with (go_at_call 92; refine (more_any _ _ _ _ _ _ (by omega) (by omega) hl'.out hrow'.out).mono ?_; rintro e w' ⟨rfl, rfl⟩)
  go_ret
  exact ⟨rfl, rfl⟩
end Go.Proofs.YtmgbmphheagdmaaGreatDoor
