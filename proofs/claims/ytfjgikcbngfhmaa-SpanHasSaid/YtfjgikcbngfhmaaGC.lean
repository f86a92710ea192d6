/-
  The program's own behind and Under.
-/
import Derived.Test.YtfjgikcbngfhmaaGB
import Derived.Lib.ConvBytes
namespace Go.Proofs.Ytfjgikcbngfhmaa
open Go.RowKit Go.Lib

theorem up_snoc_ff : ∀ (q : List UInt8) (x : UInt8), x.toNat = 255 → upL (q ++ [x]) = upL q
  | [], x, h => by rw [List.nil_append, upL_cons]; simp [upL, h]
  | y :: q, x, h => by rw [List.cons_append, upL_cons, upL_cons, up_snoc_ff q x h]
theorem up_snoc : ∀ (q : List UInt8) (x : UInt8), x.toNat ≠ 255 → upL (q ++ [x]) = q ++ [UInt8.ofNat (x.toNat + 1)]
  | [], x, h => by rw [List.nil_append, upL_cons]; simp [upL, h]
  | y :: q, x, h => by rw [List.cons_append, upL_cons, up_snoc q x h]; simp
theorem take_snoc (p : List UInt8) (n : Nat) (h : n < p.length) : p.take (n + 1) = p.take n ++ [p.getD n 0] := by
  rw [List.take_add_one, List.getD_eq_getElem?_getD, List.getElem?_eq_getElem h]; rfl

theorem str_at (l : List UInt8) (k : Nat) (h : k < (bs l).size) : (bs l)[k] = l.getD k 0 := by
  rw [bl_get, bl_bs]

/-- A text as bytes of the call's own, its last byte one more, and back. -/
theorem there_and_back (q : List UInt8) (x y : UInt8) (w : World) (s : ByteArray) (hs : bl s = q ++ [x]) : ∃ cap W,
    (convert 9 50 (.string s)).run Try.prog w = .ok (.slice (some ⟨w.heap.size, 0, none⟩) (q.length + 1) cap) W ∧ q.length + 1 ≤ cap ∧
    W.cell? ⟨w.heap.size, q.length, none⟩ = some (.int .u8 (x.toNat : Int)) ∧ W.frozen? ⟨w.heap.size, q.length, none⟩ = false ∧ Below w.heap.size w W ∧
    (convert 50 9 (.slice (some ⟨w.heap.size, 0, none⟩) (q.length + 1) cap)).run Try.prog (W.setCell ⟨w.heap.size, q.length, none⟩ (.int .u8 (y.toNat : Int))) = .ok (.string (bs (q ++ [y]))) (W.setCell ⟨w.heap.size, q.length, none⟩ (.int .u8 (y.toNat : Int))) := by
  have hsize : s.size = q.length + 1 := by rw [← bl_length, hs]; simp
  have hdata : s.data.toList = q ++ [x] := by rw [← hs, bl_eq]
  have hcell : ∀ j, j < q.length + 1 → (bytesWorld w 5 s).cell? ⟨w.heap.size, j, none⟩ = some (.int .u8 (((q ++ [x]).getD j 0).toNat : Int)) := fun j hj => by
    rw [bytesWorld_cell w 5 s j (by omega), hdata]
  have hq : (q ++ [x]).getD q.length 0 = x := by simp [List.getD]
  have hcl := hcell q.length (by omega)
  rw [hq] at hcl
  refine ⟨grownCap w s.size 0 5, bytesWorld w 5 s, ?_, ?_, hcl, ?_, ?_, ?_⟩
  · rw [← hsize]; exact Lib.run_convert_string_bytes w 9 50 5 s Try.underlying9 Try.underlying50 Try.underlying5
  · rw [← hsize]; exact grownCap_ge w _ _ _
  · have : q.length < (bytesCells w 5 s).size := by
      simp only [bytesCells, Array.size_append, Array.size_map, Array.size_replicate]
      have : s.data.size = s.size := rfl
      omega
    simp only [World.frozen?, bytesWorld_at_new]
    simp
    omega
  · refine ⟨rfl, rfl, rfl, by rw [bytesWorld_size]; omega, fun k hk => bytesWorld_at_old w 5 s k hk⟩
  · rw [bs_eq, show q.length + 1 = (q ++ [y]).length by simp]
    refine run_convert_bytes_back _ 50 9 5 ⟨w.heap.size, 0, none⟩ _ (q ++ [y]) Try.underlying50 Try.underlying5 Try.underlying9 fun j hj => ?_
    rw [add_off]
    simp only [List.length_append, List.length_cons, List.length_nil] at hj
    by_cases e : j = q.length
    · subst e
      rw [World.cell?_setCell_same' _ _ _ (by rw [hcl]; rfl)]
      simp
    · rw [World.cell?_setCell_other _ _ _ _ (by intro h; cases h; exact e rfl), hcell j (by omega)]
      rw [List.getD_eq_getElem?_getD, List.getElem?_append_left (by omega), List.getElem?_eq_getElem (by omega)]
      simp [List.getElem_append_left (show j < q.length by omega)]

set_option maxRecDepth 100000 in
set_option maxHeartbeats 1000000 in
theorem behind_any (p : List UInt8) (w : World) (hp : p.length ≤ 1000) : Calls Try.prog 27 #[.string (bs p)] w fun e w' => e = .returned (.string (bs (upL p))) ∧ Below w.heap.size w w' := by
  have hsz := bs_size p
  obtain ⟨N, hN⟩ : ∃ N, N = p.length := ⟨_, rfl⟩
  rw [← hN] at hsz hp
  have HN := Lib.hid hN
  clear hN
  go_enter Try.func27, Try.ntmps27
  go_wp2
  go_loop [3] (fun n => ∃ k : Nat, k ≤ N ∧ n = .int .i64 k ∧ upL p = upL (p.take k)) (fun n => (RowKit.intOf n).toNat)
  case atStart => exact ⟨N, Nat.le_refl _, by go_num, by rw [HN.out, List.take_of_length_le (Nat.le_refl _)]⟩
  case round =>
    obtain ⟨k, hk, rfl, hu⟩ := hrel
    have Hu := Lib.hid hu
    clear hu
    by_cases h0 : k = 0
    · subst h0
      have Hv : Hid (bs (upL p) = ({ data := #[] } : ByteArray)) := Lib.hid (by rw [Hu.out, bs_eq]; rfl)
      have hz : ¬ (0 : Int) < ((0 : Nat) : Int) := by omega
      go_wp2
      go_ret
      exact ⟨by rw [Hv.out]; rfl, Below.refl _ _⟩
    · obtain ⟨m, rfl⟩ : ∃ m, k = m + 1 := ⟨k - 1, by omega⟩
      have hz : (0 : Int) < ((m + 1 : Nat) : Int) := by omega
      have hi : ((m + 1 : Nat) : Int) - 1 = (m : Int) := by omega
      have Hlt := Lib.hid (show m < p.length by rw [← HN.out]; omega)
      have hat : ∀ h, ((((bs p)[m]'h).toNat : Nat) : Int) = (((p.getD m 0).toNat : Nat) : Int) := fun h => by rw [str_at p m h]
      have Htk := Lib.hid (take_snoc p m Hlt.out)
      have Hml : Hid ((p.take m).length = m) := Lib.hid (by rw [List.length_take]; have := Hlt.out; omega)
      by_cases hff : (p.getD m 0).toNat = 255
      · have Hu' : Hid (upL p = upL (p.take m)) := Lib.hid (by rw [Hu.out, Htk.out, up_snoc_ff _ _ hff])
        rw [hff] at hat
        clear hff Hu Htk
        go_wp2
        go_round
        case rel => exact ⟨m, by omega, by go_num, Hu'.out⟩
        case measure => simp [RowKit.intOf]
      · have Hu' : Hid (upL p = p.take m ++ [UInt8.ofNat ((p.getD m 0).toNat + 1)]) := Lib.hid (by rw [Hu.out, Htk.out, up_snoc _ _ hff])
        obtain ⟨cap, W, hcv, hcap, hcell, hfr, hbel, hcb⟩ := there_and_back (p.take m) (p.getD m 0) (UInt8.ofNat ((p.getD m 0).toNat + 1)) w ((bs p).extract 0 (m + 1)) (by rw [bl_extract, bl_bs, ← Htk.out]; simp)
        rw [Hml.out] at hcv hcap hcell hfr hcb
        rw [← Hu'.out] at hcb
        have hlt : (p.getD m 0).toNat < 255 := by have := (p.getD m 0).toNat_lt; omega
        have hofn : (UInt8.ofNat ((p.getD m 0).toNat + 1)).toNat = (p.getD m 0).toNat + 1 := by rw [UInt8.toNat_ofNat']; omega
        rw [hofn] at hcb
        push_cast at hcb
        generalize (p.getD m 0).toNat = c at *
        have hne : ((c : Int) == 255) = false := beq_eq_false_iff_ne.2 (by omega)
        have Hb := Lib.hid hbel
        clear hff hofn hbel Hu' Hu Htk
        go_wp2
        go_ret
        exact ⟨rfl, Hb.out.setCell (Nat.le_refl _) _⟩

set_option maxRecDepth 100000 in
set_option maxHeartbeats 1000000 in
theorem under_any (p : List UInt8) (w : World) (hp : p.length ≤ 1000) : Calls Try.prog 16 #[.string (bs p)] w fun e w' => e = .returned (spV (p, upL p)) ∧ Below w.heap.size w w' := by
  have HB := Lib.hid (fun W => behind_any p W hp)
  unfold spV
  have hc : ∀ w1, Below (w.heap.size + 1) (w.alloc (.cells #[.string { data := #[] }, .string { data := #[] }] 23)) w1 → w1.cell? ⟨w.heap.size, 0, none⟩ = some (.string { data := #[] }) ∧ w1.cell? ⟨w.heap.size, 1, none⟩ = some (.string { data := #[] }) ∧ w1.frozen? ⟨w.heap.size, 0, none⟩ = false ∧ w1.frozen? ⟨w.heap.size, 1, none⟩ = false := by
    intro w1 h
    refine ⟨?_, ?_, ?_, ?_⟩
    · rw [h.cell (by simp)]; simp
    · rw [h.cell (by simp)]; simp
    · rw [h.frozen (by simp)]; simp
    · rw [h.frozen (by simp)]; simp
  have HC := Lib.hid hc
  clear hc
  have HW := Lib.hid ((Below.refl _ w).alloc (Nat.le_refl _) (.cells #[.string { data := #[] }, .string { data := #[] }] 23))
  go_enter Try.func16, Try.ntmps16
  go_wp2_with fail
  refine (HB.out _).mono ?_
  rintro e w1 ⟨rfl, hb1⟩
  obtain ⟨c1, c2, f1, f2⟩ := HC.out w1 (by simpa using hb1)
  have Hb1 := Lib.hid (HW.out.trans (hb1.mono HW.out.size))
  clear hb1
  go_wp2
  refine bodyPost_ret (v := .agg #[.string (bs p), .string (bs (upL p))]) (by simp [results, Try.results16, go_sem, c1, c2]) rfl ⟨rfl, ?_⟩
  exact (Hb1.out.setCell (p := ⟨w.heap.size, 0, none⟩) (Nat.le_refl _) _).setCell (p := ⟨w.heap.size, 1, none⟩) (Nat.le_refl _) _
end Go.Proofs.Ytfjgikcbngfhmaa
