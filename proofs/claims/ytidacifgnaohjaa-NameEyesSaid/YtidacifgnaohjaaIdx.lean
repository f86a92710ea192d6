/-
  What strings.IndexRune tells of a rune among the digits.
-/
import Derived.Test.YtidacifgnaohjaaFew
import Derived.Lib.OthersKept
import Derived.Lib.Bytealg
import Derived.WalkMore
namespace Go.Proofs.Ytidacifgnaohjaa
open Go.RowKit Go.Shelf

def digS : ByteArray := { data := #[48, 49, 50, 51, 52, 53, 54, 55, 56, 57, 97, 98, 99, 100, 101, 102] }
/-- Which digit a rune is; -1: none. -/
@[irreducible] def hexI (r : Nat) : Int := if 48 ≤ r ∧ r ≤ 57 then (r : Int) - 48 else if 97 ≤ r ∧ r ≤ 102 then (r : Int) - 87 else -1
theorem digS_list : bl digS = [48, 49, 50, 51, 52, 53, 54, 55, 56, 57, 97, 98, 99, 100, 101, 102] := by rw [bl_eq]; rfl
theorem hexI_ascii : ∀ r : Nat, r < 128 → Lib.indexByte [48, 49, 50, 51, 52, 53, 54, 55, 56, 57, 97, 98, 99, 100, 101, 102] r.toUInt8 = hexI r := by
  unfold hexI
  decide +kernel
theorem index_low (r : Nat) (w : World) (h : r < 128) : Calls Try.prog 33 #[.string digS, .int .i32 (r : Int)] w fun e w' => e = .returned (.int .i64 (hexI r)) ∧ w' = w := by
  have := Any.strings_IndexRune_ascii irLays digS (r : Int) w (by omega) (by omega)
  rw [← bl_eq, digS_list, show ((r : Int)).toNat = r from rfl, hexI_ascii r h] at this
  exact this
theorem told_digs : ∀ k : Nat, k < 16 → toldL ((bl digS).drop k) ≠ 65533 ∧ widthL ((bl digS).drop k) = 1 := by
  rw [digS_list]
  decide +kernel

set_option maxRecDepth 100000 in
set_option maxHeartbeats 2000000 in
theorem index_fffd (w : World) : Calls Try.prog 33 #[.string digS, .int .i32 65533] w fun e w' => e = .returned (.int .i64 (-1)) ∧ Below w.heap.size w w' := by
  have hsz : digS.size = 16 := rfl
  have Htd := Lib.hid told_digs
  have hd : ({ data := #[48, 49, 50, 51, 52, 53, 54, 55, 56, 57, 97, 98, 99, 100, 101, 102] } : ByteArray) = digS := rfl
  generalize digS = D at *
  clear hd
  go_enter Try.func33, Try.ntmps33
  go_wp2
  go_loopw [] (fun wr => ∃ k : Nat, k ≤ 16 ∧ wr.heap[w.heap.size]? = some (.stringIter D k) ∧ Below w.heap.size w wr) (fun wr => 16 - wr.iterPos w.heap.size)
  case atStart => exact ⟨0, by omega, World.iter_heap w D 0, (Below.refl _ _).alloc (Nat.le_refl _) _⟩
  case round =>
    obtain ⟨k, hk, hit, hb⟩ := hrel
    have Hb := Lib.hid hb
    clear hb
    by_cases hlt : k < 16
    · have hlt2 : k < D.size := by omega
      have hnx : ∀ ty, (Instr.next (.pointer (some ⟨w.heap.size, 0, none⟩)) true ty).run Try.prog wr = _ := fun ty => Lib.run_next_any_at wr w.heap.size D k ty hit hlt2
      obtain ⟨h1, h2⟩ := Htd.out k hlt
      simp only [decode_told D k hlt2] at hnx
      rw [h2] at hnx
      generalize toldL ((bl D).drop k) = c at *
      have hc : ((c : Int) == 65533) = false := by simp; omega
      have Hit2 := Lib.hid (Lib.iterAt_heap wr w.heap.size D k (k + 1) hit)
      have Hb2 := Lib.hid (Lib.below_iterAt Hb.out (k := w.heap.size) (Nat.le_refl _) D (k + 1))
      clear h1 h2 Htd
      go_wp2
      go_roundw
      case rel => exact ⟨k + 1, by omega, Hit2.out, Hb2.out⟩
      case measure =>
        simp only [World.iterPos, Hit2.out, hit]
        omega
    · have hlt2 : ¬ k < D.size := by omega
      have hnx : ∀ ty, (Instr.next (.pointer (some ⟨w.heap.size, 0, none⟩)) true ty).run Try.prog wr = _ := fun ty => Lib.run_next_end_at wr w.heap.size D k ty hit hlt2
      go_wp2
      go_ret
      exact ⟨rfl, Hb.out⟩

theorem digs_none (c : UInt8) (h : 128 ≤ c.toNat) (k : Nat) : Lib.indexByte ((bl digS).drop k) c = -1 := by
  have key : ∀ l : List UInt8, (∀ b ∈ l, b.toNat < 128) → Lib.indexByte l c = -1 := by
    intro l
    induction l with
    | nil => intro _; rfl
    | cons b l ih =>
      intro hl
      unfold Lib.indexByte
      have hb := hl b (by simp)
      have hbc : (b == c) = false := by
        cases e : b == c with
        | false => rfl
        | true => have := eq_of_beq e; subst this; omega
      rw [hbc, ih (fun x hx => hl x (by simp [hx]))]; rfl
  refine key _ fun b hb => ?_
  have : ∀ b ∈ bl digS, b.toNat < 128 := by rw [digS_list]; decide
  exact this b (List.mem_of_mem_drop hb)

set_option maxRecDepth 100000 in
set_option maxHeartbeats 2000000 in
theorem valid_any (r : Nat) (w : World) (h : r < 55296 ∨ (57343 < r ∧ r ≤ 1114111)) : Calls Try.prog 38 #[.int .i32 (r : Int)] w fun e w' => e = .returned (.bool true) ∧ w' = w := by
  rcases h with h | ⟨h1, h2⟩
  · have f1 : (r : Int) < 55296 := by omega
    go_enter Try.func38, Try.ntmps38
    go_wp2
    go_ret
    exact ⟨rfl, rfl⟩
  · have f1 : ¬ (r : Int) < 55296 := by omega
    have f2 : (57343 : Int) < (r : Int) := by omega
    have f3 : (r : Int) ≤ 1114111 := by omega
    go_enter Try.func38, Try.ntmps38
    go_wp2
    go_ret
    exact ⟨rfl, rfl⟩

theorem digs_low : ∀ k : Nat, k < 16 → ((bl digS).getD k 0).toNat < 128 := by
  rw [digS_list]
  decide +kernel

set_option maxRecDepth 1000000 in
set_option maxHeartbeats 4000000 in
theorem index_high (r : Nat) (w : World) (h : 128 ≤ r) (hv : r < 55296 ∨ (57343 < r ∧ r ≤ 1114111)) (h3 : r ≠ 65533) : Calls Try.prog 33 #[.string digS, .int .i32 (r : Int)] w fun e w' => e = .returned (.int .i64 (-1)) ∧ Below w.heap.size w w' := by
  have hsz : digS.size = 16 := rfl
  have Hnone := Lib.hid digs_none
  have Hlow := Lib.hid digs_low
  have g1 : ¬ (r : Int) < 128 := by omega
  have g2 : ((r : Int) == 65533) = false := by simp; omega
  have Hval := Lib.hid (fun W => valid_any r W hv)
  obtain ⟨e1, e2, e3⟩ := encode_facts (r : Int) (by rw [valid_iff]; exact decide_eq_true (by omega)) (by omega)
  have hcv : ∀ W, (convert 21 9 (.int .i32 (r : Int))).run Try.prog W = .ok (.string (Utf8.encode (r : Int))) W := fun W => run_convert_int_string W 21 9 .i32 (r : Int) (by rw [Try.underlying21]; rfl) Try.underlying9
  generalize digS = D at *
  generalize Utf8.encode (r : Int) = E at *
  obtain ⟨n, hn⟩ : ∃ n, n + 1 = E.size := ⟨E.size - 1, by omega⟩
  have hn1 : n ≤ 3 := by omega
  have hN : (E.size : Int) - 1 = (n : Int) := by omega
  have hnE : n < E.size := by omega
  have hnD : n < D.size := by omega
  have hnI : (n : Int) < 16 := by omega
  have hnI1 : (n : Int) + 1 ≤ 16 := by omega
  have hnI0 : (0 : Int) ≤ (n : Int) + 1 := by omega
  have hnw : IntKind.i64.wrap ((n : Int) + 1) = (n : Int) + 1 := by simp [IntKind.wrap, IntKind.bits, IntKind.signed]; omega
  have htn : ((n : Int) + 1).toNat = n + 1 := by omega
  obtain ⟨x, hx⟩ : ∃ x, E[n] = x := ⟨_, rfl⟩
  have hx8 : 128 ≤ x.toNat := by
    have := e3 (by omega)
    have e : E.size - 1 = n := by omega
    simp only [e] at this
    rw [← hx]; exact this
  clear e3
  obtain ⟨y, hy⟩ : ∃ y, D[n] = y := ⟨_, rfl⟩
  have hy8 : y.toNat < 128 := by
    have := Hlow.out n (by omega)
    rw [← bl_get D n hnD, hy] at this
    exact this
  have hxy : ((y.toNat : Int) != (x.toNat : Int)) = true := by simp; omega
  clear Hlow
  have Hib : Hid (∀ W, Calls Try.prog 37 #[.string (D.extract (n + 1) 16), .int .u8 (x.toNat : Int)] W fun e w' => e = .returned (.int .i64 (-1)) ∧ w' = W) := Lib.hid (fun W => by
    have := Any.strings_IndexByte ibLays (D.extract (n + 1) D.size) (x.toNat : Int) W
    rw [← bl_eq, bl_rest, hsz] at this
    simp only [Int.toNat_natCast] at this
    rw [show x.toNat.toUInt8 = x by simp, Hnone.out x hx8 (n + 1)] at this
    exact this)
  clear hn
  go_enter Try.func33, Try.ntmps33
  go_wp2_with (first | (go_at_call 38; refine (Hval.out _).mono ?_; rintro e w' ⟨rfl, rfl⟩))
  go_step3
  go_wp2_with fail
  go_loop [9] (fun i => i = .int .i64 (n : Int)) (fun _ => 0)
  case atStart => rfl
  case round =>
    subst hrel
    go_wp2_with fail
    go_step3
    go_wp2_with fail
    go_region
    all_goals go_wp2_with fail
    go_region_with (go_at_call 37; refine (Hib.out _).mono ?_; rintro e w2 ⟨rfl, rfl⟩)
    all_goals go_wp2_with fail
    all_goals
      rw [Exit.noGoto_ret]
      go_wp2
      rw [Exit.noGoto_ret]
      go_ret
      exact ⟨rfl, (Below.refl _ _).drew.drew⟩

theorem hexI_high (r : Nat) (h : 128 ≤ r) : hexI r = -1 := by
  unfold hexI
  rw [if_neg (by omega), if_neg (by omega)]
/-- Which digit a rune is. -/
theorem index_any (r : Nat) (w : World) (hv : r < 55296 ∨ (57343 < r ∧ r ≤ 1114111)) : Calls Try.prog 33 #[.string digS, .int .i32 (r : Int)] w fun e w' => e = .returned (.int .i64 (hexI r)) ∧ Below w.heap.size w w' := by
  by_cases h : r < 128
  · refine (index_low r w h).mono ?_
    rintro e w' ⟨rfl, rfl⟩
    exact ⟨rfl, Below.refl _ _⟩
  · rw [hexI_high r (by omega)]
    by_cases h3 : r = 65533
    · subst h3
      exact index_fffd w
    · exact index_high r w (by omega) hv h3
end Go.Proofs.Ytidacifgnaohjaa
