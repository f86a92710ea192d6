/- Texts of one claim, joined: KB KG. -/
import Derived.Test.YtmgbmphheagdmaaGreatDoorGen
import Derived.Test.YtmgbmphheagdmaaGreatDoorWA
import Derived.Test.YtmgbmphheagdmaaGreatDoorKA
import Derived.Test.YtmgbmphheagdmaaGreatDoorKF
import Derived.Deep.AppendLies
import Derived.Lib.AppendStr
import Derived.BigQuiet
/-
  The contract of pack.encoded: a number's encoding in a row of the call's own.
-/
namespace Go.Proofs.YtmgbmphheagdmaaGreatDoor
open Go.RowKit

/-- The nine bytes of 'encoded' when the last j of the number's k bytes stand there. -/
def encT (n j : Nat) : List UInt8 := UInt8.ofNat (beL n).length :: ((List.replicate ((beL n).length - j) 0 ++ (beL n).drop ((beL n).length - j)) ++ List.replicate (8 - (beL n).length) 0)
theorem encT_length (n j : Nat) (h : (beL n).length ≤ 8) (hj : j ≤ (beL n).length) : (encT n j).length = 9 := by
  simp [encT]; omega
theorem encT_end (n : Nat) : encT n (beL n).length = encL n ++ List.replicate (8 - (beL n).length) 0 := by
  simp [encT, encL]
theorem encT_zero (n : Nat) (h : (beL n).length ≤ 8) : encT n 0 = UInt8.ofNat (beL n).length :: List.replicate 8 0 := by
  unfold encT
  rw [Nat.sub_zero, List.drop_of_length_le (Nat.le_refl _), List.append_nil, List.replicate_append_replicate, Nat.add_sub_cancel' h]
theorem encT_set (n j : Nat) (h : j < (beL n).length) (v : Int) (hv : v = ((n / 256 ^ j % 256 : Nat) : Int)) : (byC (encT n j)).set ((beL n).length - j) (.int .u8 v) = byC (encT n (j + 1)) := by
  have hat := beL_at n j h
  unfold encT
  generalize beL n = l at *
  have hd : l.drop (l.length - (j + 1)) = l.getD (l.length - 1 - j) 0 :: l.drop (l.length - j) := by
    rw [List.drop_eq_getElem_cons (show l.length - (j + 1) < l.length by omega), show l.length - (j + 1) + 1 = l.length - j by omega]
    congr 1
    rw [List.getD_eq_getElem?_getD, List.getElem?_eq_getElem (by omega)]
    simp only [Option.getD_some]
    congr 1
    omega
  rw [hd, show l.length - j = (l.length - (j + 1)) + 1 by omega, List.replicate_succ']
  generalize l.length - (j + 1) = m
  rw [byC_eq, byC_eq, List.map_cons, List.map_cons, List.set_cons_succ, List.map_append, List.map_append, List.map_append, List.map_append, List.map_append]
  rw [List.set_append_left _ _ (by simp), List.set_append_left _ _ (by simp), List.set_append_right _ _ (by simp)]
  rw [List.getD_eq_getElem?_getD] at hat
  simp only [hv, ← hat]
  simp

set_option maxRecDepth 100000 in
set_option maxHeartbeats 1000000 in
theorem encoded_any (n : Nat) (w : World) (hn : n < 9223372036854775808) :
    Calls Tryz.prog 91 #[.int .i64 n] w fun e w' => e = .returned (.slice (some ⟨w.heap.size, 0, none⟩) (encL n).length (encL n).length) ∧ Holds w' w.heap.size 151 (byC (encL n ++ List.replicate (8 - (beL n).length) 0)) ∧ Below w.heap.size w w' := by
  obtain ⟨k, hk⟩ : ∃ k, k = (beL n).length := ⟨_, rfl⟩
  obtain ⟨B, hB⟩ : ∃ B, B = Lib.bitLen n := ⟨_, rfl⟩
  have h8 : k ≤ 8 := by rw [hk]; exact beL_len8 n (by omega)
  have h64 : B ≤ 64 := by rw [hB]; exact Lib.bitLen_le n 64 (Nat.le_refl _) (by omega)
  have hbits : k = (B + 7) / 8 := by rw [hk, hB]; exact beL_bits n (by omega)
  have hdiv : ((B : Int) + 7).tdiv 8 = (k : Int) := by rw [Int.tdiv_eq_ediv_of_nonneg (by omega)]; omega
  have HB := Lib.hid hB
  have HK := Lib.hid hk
  clear hB hk hbits
  have Hlen : Hid ((encL n).length = 1 + k) := Lib.hid (by rw [encL_length, HK.out]; omega)
  have H0 : Hid (Holds (w.alloc (Obj.cells #[.int .u8 ((k : Int)), .int .u8 0, .int .u8 0, .int .u8 0, .int .u8 0, .int .u8 0, .int .u8 0, .int .u8 0, .int .u8 0] 151)) w.heap.size 151 (byC (encT n 0))) := Lib.hid (by
    have e : byC (encT n 0) = [.int .u8 ((k : Int)), .int .u8 0, .int .u8 0, .int .u8 0, .int .u8 0, .int .u8 0, .int .u8 0, .int .u8 0, .int .u8 0] := by
      rw [encT_zero n (by rw [← HK.out]; exact h8), byC_eq, ← HK.out]
      have : (UInt8.ofNat k).toNat = k := by rw [UInt8.toNat_ofNat']; omega
      simp [this, List.replicate]
    rw [e]
    exact Holds.new w 151 _)
  have Hb0 : Hid (Below w.heap.size w (w.alloc (Obj.cells #[.int .u8 ((k : Int)), .int .u8 0, .int .u8 0, .int .u8 0, .int .u8 0, .int .u8 0, .int .u8 0, .int .u8 0, .int .u8 0] 151))) := Lib.hid ((Below.refl _ _).alloc (Nat.le_refl _) _)
  go_enter Tryz.func91, Tryz.ntmps91
  go_wp2_with (go_at_call 113; refine (len_any n _ (by omega)).mono ?_; rintro e w' ⟨rfl, rfl⟩; rw [← HB.out])
  go_loopw [5, 15] (fun _ c wr => ∃ j : Nat, j ≤ k ∧ c = .int .i64 j ∧ Holds wr w.heap.size 151 (byC (encT n j)) ∧ Below w.heap.size w wr) (fun _ c _ => k - (intOf c).toNat)
  case atStart => exact ⟨0, by omega, rfl, H0.out, Hb0.out⟩
  case round =>
    clear H0 Hb0
    obtain ⟨j, hj, rfl, hh, hb⟩ := hrel
    have Hh := Lib.hid hh
    have Hb := Lib.hid hb
    clear hh hb
    by_cases hlt : j < k
    · have hcell := Holds.cell Hh.out (byC_at (l := encT n j) (i := k - j) (by rw [encT_length n j (by rw [← HK.out]; exact h8) (by rw [← HK.out]; exact hj)]; omega))
      have hfr := Holds.frozen Hh.out (k - j)
      have hidx : ((k : Int) - j).toNat = k - j := by omega
      have hge : (0 : Int) ≤ (k : Int) - j := by omega
      have hle : (k : Int) - j < 9 := by omega
      have Hset : Hid ((byC (encT n j)).set (k - j) (.int .u8 ((n : Int) / 2 ^ (8 * j) % 256)) = byC (encT n (j + 1))) := Lib.hid (by
        rw [HK.out]
        refine encT_set n j (by rw [← HK.out]; exact hlt) _ ?_
        rw [show (256 : Nat) = 2 ^ 8 from rfl, ← Nat.pow_mul]
        push_cast
        rfl)
      go_wp2
      go_roundw
      case rel => exact ⟨j + 1, by omega, by go_num, by rw [← Hset.out]; exact Holds.set Hh.out _ _, Hb.out.setCell (Nat.le_refl _) _⟩
      case measure => simp [intOf]; omega
    · have h9 : (1 : Int) + k ≤ 9 := by omega
      have h01 : (0 : Int) ≤ 1 + k := by omega
      have Hend : Hid (Holds wr w.heap.size 151 (byC (encL n ++ List.replicate (8 - (beL n).length) 0))) := Lib.hid (by
        rw [← encT_end, ← HK.out]
        have : k = j := by omega
        rw [this]; exact Hh.out)
      clear Hh
      go_wp2
      go_ret
      exact ⟨by rw [Hlen.out]; rfl, Hend.out, Hb.out⟩
end Go.Proofs.YtmgbmphheagdmaaGreatDoor

/-
  A writer in memory; the contracts of Num, Text, Flag and Bytes.
-/
namespace Go.Proofs.YtmgbmphheagdmaaGreatDoor
open Go.RowKit

theorem strCells_eq (s : ByteArray) : Lib.strCells s = byC (bl s) := by rw [byC_eq, bl_eq]; rfl
/-- The bytes, and the error's number: 0 none, 1 an argument, 2 too long. -/
abbrev WSt := List UInt8 × Nat
/-- Two parts put, or none of them. -/
def wrP (head tail : List UInt8) (st : WSt) : WSt := if 2097152 < st.1.length + head.length + tail.length then ([], 2) else (st.1 ++ head ++ tail, 0)
def wrN (n : Int) (st : WSt) : WSt := if st.2 ≠ 0 then st else if n < 0 ∨ 4611686018427387903 < n then ([], 1) else wrP (encL n.toNat) [] st
def wrT (s : List UInt8) (st : WSt) : WSt := if st.2 ≠ 0 then st else wrP (encL s.length) s st
def wrF (b : Bool) (st : WSt) : WSt := wrN (if b = true then 1 else 0) st

/-- Block a is a writer of these bytes and this error. -/
def WrM (w : World) (a : Nat) (st : WSt) : Prop :=
  ∃ p cap, Holds w a 99 [.slice p st.1.length cap, .int .i64 (st.2 : Int)] ∧ w.ownsRow (a + 1) 5 1 (.slice p st.1.length cap) st.1.length (byC st.1) ∧ (st.2 ≠ 0 → st.1 = []) ∧ st.1.length ≤ 2097152
section
variable {w w' : World} {a : Nat} {st : WSt}
theorem WrM.lt (h : WrM w a st) : a < w.heap.size := by obtain ⟨p, cap, h, _⟩ := h; exact Holds.lt h
theorem WrM.zero (w : World) : WrM (w.alloc (.cells #[.slice none 0 0, .int .i64 0] 99)) w.heap.size ([], 0) :=
  ⟨none, 0, Holds.new w 99 _, by rw [byC_eq]; exact World.ownsRow_nil _ _ _ _, fun _ => rfl, Nat.zero_le _⟩
theorem WrM.keep (h : WrM w a st) (hh : ∀ k, a ≤ k → k < w.heap.size → w'.heap[k]? = w.heap[k]?) : WrM w' a st := by
  obtain ⟨p, cap, h1, h2, h3⟩ := h
  refine ⟨p, cap, (hh a (Nat.le_refl _) (Holds.lt h1)).trans h1, ?_, h3⟩
  rcases h2.2 with ⟨hv, h0⟩ | ⟨g, c, cur, hv, hb, hg, r⟩
  · exact ⟨h2.1, .inl ⟨hv, h0⟩⟩
  · exact ⟨h2.1, .inr ⟨g, c, cur, hv, hb, (hh g (by omega) (Array.getElem?_eq_some_iff.1 hg).1).trans hg, r⟩⟩
/-- What changes one elder block and lays new ones leaves the writer as it is. -/
theorem WrM.grown {b : Nat} (h : WrM w a st) (hg : w.grownBy w' (some b)) (hb : b < a) : WrM w' a st :=
  h.keep (fun k hk hl => hg.block k hl (by simp; omega))
theorem WrM.below {B : Nat} (h : WrM w a st) (hb : Below B w w') (hB : w.heap.size ≤ B) : WrM w' a st :=
  h.keep (fun k _ hl => hb.block k (by omega))
theorem WrM.cells {p : Option Addr} {n cap : Nat} {f : Int} (h : Holds w a 99 [.slice p n cap, .int .i64 f]) : w.cell? ⟨a, 0, none⟩ = some (.slice p n cap) ∧ w.cell? ⟨a, 1, none⟩ = some (.int .i64 f) ∧ w.frozen? ⟨a, 0, none⟩ = false ∧ w.frozen? ⟨a, 1, none⟩ = false :=
  ⟨Holds.cell h rfl, Holds.cell h rfl, Holds.frozen h 0, Holds.frozen h 1⟩
end

/-- What writing leaves. -/
def WrGot (w : World) (a : Nat) (st : WSt) (e : Ending) (w' : World) : Prop := e = .returned (.tuple #[]) ∧ WrM w' a st ∧ Below a w w'

theorem wstopped_nil (w : World) : Calls Tryz.prog 88 #[.pointer none] w fun e w' => e = .returned (.bool true) ∧ w' = w := by
  go_enter Tryz.func88, Tryz.ntmps88
  go_wp2
  go_ret
  exact ⟨rfl, rfl⟩
theorem wstopped_any (a : Nat) (w : World) (st : WSt) (h : WrM w a st) : Calls Tryz.prog 88 #[.pointer (some ⟨a, 0, none⟩)] w fun e w' => e = .returned (.bool (decide (st.2 ≠ 0))) ∧ w' = w := by
  obtain ⟨p, cap, h, _⟩ := h
  obtain ⟨c0, c1, f0, f1⟩ := WrM.cells h
  clear h
  obtain ⟨l, f⟩ := st
  simp only at *
  by_cases hf : f = 0
  · subst hf
    go_enter Tryz.func88, Tryz.ntmps88
    go_wp2
    go_ret
    exact ⟨rfl, rfl⟩
  · have hf' : ((f : Int) != 0) = true := by rw [bne_iff_ne]; omega
    have Hd : Hid (decide (f ≠ 0) = true) := Lib.hid (by simp [hf])
    go_enter Tryz.func88, Tryz.ntmps88
    go_wp2
    go_ret
    exact ⟨by rw [Hd.out, ← hf']; rfl, rfl⟩
set_option maxRecDepth 100000 in
theorem wstop_any (a : Nat) (w : World) (st : WSt) (f : Nat) (h : WrM w a st) : Calls Tryz.prog 89 #[.pointer (some ⟨a, 0, none⟩), .int .i64 (f : Int)] w (WrGot w a ([], f)) := by
  obtain ⟨p, cap, h, _⟩ := h
  obtain ⟨c0, c1, f0, f1⟩ := WrM.cells h
  have Hend : Hid (WrGot w a ([], f) (.returned (.tuple #[])) ((w.setCell ⟨a, 0, none⟩ (.slice none 0 0)).setCell ⟨a, 1, none⟩ (.int .i64 (f : Int)))) := Lib.hid
    ⟨rfl, ⟨none, 0, Holds.set (Holds.set h 0 _) 1 _, by rw [byC_eq]; exact World.ownsRow_nil _ _ _ _, fun _ => rfl, Nat.zero_le _⟩, ((Below.refl a w).setCell (Nat.le_refl _) _).setCell (Nat.le_refl _) _⟩
  clear h
  go_enter Tryz.func89, Tryz.ntmps89
  go_wp2
  go_end0
  exact Hend.out

set_option maxRecDepth 100000 in
set_option maxHeartbeats 2000000 in
theorem put_any (a g m : Nat) (w : World) (head tail : List UInt8) (rest : List Value) (l : List UInt8) (h : WrM w a (l, 0)) (hh : Holds w g 151 (byC head ++ rest)) (hm : head.length = m) (hm0 : 0 < m) (hm9 : m ≤ 9) (t : ByteArray) (ht : bl t = tail) (htz : t.size ≤ 281474976710656) :
    Calls Tryz.prog 90 #[.pointer (some ⟨a, 0, none⟩), .slice (some ⟨g, 0, none⟩) m m, .string t] w (WrGot w a (wrP head tail (l, 0))) := by
  obtain ⟨i0, hi0, hz0, hz1, hz2⟩ := info_parts info5
  have HM := Lib.hid h
  have Hstop := Lib.hid (wstop_any a w (l, 0) 2 h)
  obtain ⟨p, cap, h, hown, _, hl⟩ := h
  obtain ⟨c0, c1, f0, f1⟩ := WrM.cells h
  have Hh := Lib.hid h
  have Hown := Lib.hid hown
  have Hhd := Lib.hid hh
  have Ht := Lib.hid (show tail.length = t.size by rw [← ht, bl_length])
  have Hm := Lib.hid hm
  simp only at *
  clear h hown hh hm
  obtain ⟨n, hn⟩ : ∃ n, n = l.length := ⟨_, rfl⟩
  rw [← hn] at c0 Hown hl Hh
  have Hn := Lib.hid hn
  clear hn
  by_cases hlong : 2097152 < n + m + t.size
  · have Hr : Hid (wrP head tail (l, 0) = ([], 2)) := Lib.hid (if_pos (by simp only [← Hn.out, Hm.out, Ht.out]; exact hlong))
    have hlong' : (2097152 : Int) - n < (m : Int) + t.size := by omega
    go_enter Tryz.func90, Tryz.ntmps90
    go_wp2_with (go_at_call 89; refine Hstop.out.mono ?_; rintro e w' ⟨rfl, hw, hb⟩)
    go_end0
    rw [Hr.out]
    exact ⟨rfl, hw, hb⟩
  · have Hr : Hid (wrP head tail (l, 0) = (l ++ head ++ tail, 0)) := Lib.hid (if_neg (by simp only [← Hn.out, Hm.out, Ht.out]; exact hlong))
    have hlong' : ¬ (2097152 : Int) - n < (m : Int) + t.size := by omega
    have Hm1 : Hid (n + m ≤ maxLen) := Lib.hid (by unfold maxLen; omega)
    have Hm2 : Hid ((n + m) * 1 ≤ 140737488355328) := Lib.hid (by omega)
    have Hm3 : Hid (n + m + t.size ≤ maxLen) := Lib.hid (by unfold maxLen; omega)
    have Hm4 : Hid (n + m + t.size ≤ 140737488355328) := Lib.hid (by omega)
    have Hhl : Hid ((byC head).length = m * 1) := Lib.hid (by rw [byC_length, Hm.out, Nat.mul_one])
    have Hone : Hid (∀ u ∈ byC head, u.oneCell' = true) := Lib.hid (byC_one _)
    have Hnew : Hid (∀ j u, (byC head)[j]? = some u → w.cell? ((⟨g, 0, none⟩ : Addr).add j) = some u) := Lib.hid (fun j u hu => by
      rw [add_off]
      refine Holds.cell Hhd.out ?_
      rw [List.getElem?_append_left (List.getElem?_eq_some_iff.1 hu).1]; exact hu)
    have Hsz : Hid (a + 1 ≤ w.heap.size) := Lib.hid HM.out.lt
    go_enter Tryz.func90, Tryz.ntmps90
    have Hlen : Hid ((l ++ head ++ tail).length = n + m + t.size) := Lib.hid (by rw [List.length_append, List.length_append, ← Hn.out, Hm.out, Ht.out])
    have Hbt := Lib.hid ht
    clear ht c1 f0 f1
    go_wp2_with (first
      | (at_builtin; refine wpList_append_lies _ rfl (.tmp 24) (.tmp 25) 66 rfl (a + 1) 5 i0 _ 1 1 Tryz.underlying66 hi0 hz0 hz1 hz2 rfl (by omega) (.slice p n cap) n (byC l) rfl Hown.out ⟨g, 0, none⟩ m m (byC head) rfl Hhl.out Hnew.out Hone.out hm0 Hm1.out Hm2.out Hsz.out _ rfl ?_; intro g1 cap1 w1 hown1 hgrow1 hor1 hg1; have Hh1 := Lib.hid (Holds.grown Hh.out hgrow1 (fun e => by have := (World.ownsRow.lt Hown.out a e.symm).1; omega)); obtain ⟨d0, d1, e0, e1⟩ := WrM.cells Hh1.out; have Hown1 := Lib.hid hown1; have Hg1 := Lib.hid hgrow1; clear hown1 hgrow1 hor1 hg1)
      | (at_builtin; go_loud (refine Lib.wpList_append_own_string _ rfl (.tmp 33) (.tmp 34) 66 9 rfl (a + 1) 5 i0 Tryz.underlying66 Tryz.underlying9 hi0 hz0 hz1 hz2 (.slice (some ⟨g1, 0, none⟩) (n + m) cap1) (n + m) (byC l ++ byC head) rfl (ownsRow_setCell_below Hown1.out (by simp) _) t rfl Hm3.out Hm4.out (by simp [World.setCell]; exact Nat.le_trans Hsz.out Hg1.out.size) ?_); intro v2 w2 hown2 hgrow2 hiff2; obtain ⟨g2, cap2, rfl, hg2a, hg2b⟩ := hown2.form (by omega); have Hh2 := Lib.hid (Holds.grown (Holds.set Hh1.out 0 (.slice (some ⟨g1, 0, none⟩) (n + m) cap1)) hgrow2 (fun e => by have := (World.ownsRow.lt Hown1.out a e.symm).1; omega)); obtain ⟨d2, d3, e2, e3⟩ := WrM.cells Hh2.out; have Hown2 := Lib.hid hown2; have Hg2 := Lib.hid hgrow2; clear hown2 hgrow2 hiff2 hg2a hg2b))
    go_end0
    rw [Hr.out]
    have Hb1 : Below a w w1 := (Below.refl a w).grown Hg1.out (Nat.le_of_lt HM.out.lt) (fun k hk => by have := (World.ownsRow.lt Hown.out k hk).1; omega)
    have Hb2 : Below a w w2 := (Hb1.setCell (p := ⟨a, 0, none⟩) (Nat.le_refl _) _).grown Hg2.out (by have := Hb1.size; have := HM.out.lt; simp [World.setCell]; omega) (fun k hk => by have := (World.ownsRow.lt Hown1.out k hk).1; omega)
    refine ⟨rfl, ⟨some ⟨g2, 0, none⟩, cap2, ?_, ?_, fun h => absurd rfl h, by show (l ++ head ++ tail).length ≤ _; rw [Hlen.out]; omega⟩, Hb2.setCell (Nat.le_refl _) _⟩
    · show Holds _ a 99 [.slice _ (l ++ head ++ tail).length _, _]
      rw [Hlen.out]
      exact Holds.set Hh2.out 0 _
    · show World.ownsRow _ (a + 1) 5 1 (.slice _ (l ++ head ++ tail).length _) (l ++ head ++ tail).length (byC (l ++ head ++ tail))
      rw [Hlen.out, byC_append, byC_append, ← Hbt.out, ← strCells_eq]
      exact ownsRow_setCell_below Hown2.out (by simp) _

theorem wrN_bad (n : Int) (st : WSt) (h : st.2 ≠ 0) : wrN n st = st := if_pos h
theorem wrT_bad (s : List UInt8) (st : WSt) (h : st.2 ≠ 0) : wrT s st = st := if_pos h
set_option maxRecDepth 100000 in
set_option maxHeartbeats 1000000 in
theorem wnum_any (n : Int) (a : Nat) (w : World) (st : WSt) (h : WrM w a st) (hn : -9223372036854775808 ≤ n ∧ n ≤ 9223372036854775807) :
    Calls Tryz.prog 60 #[.pointer (some ⟨a, 0, none⟩), .int .i64 n] w (WrGot w a (wrN n st)) := by
  have Hs := Lib.hid (wstopped_any a w st h)
  have H := Lib.hid h
  clear h
  obtain ⟨l, f⟩ := st
  by_cases hf : f = 0
  · subst hf
    by_cases hbad : n < 0 ∨ 4611686018427387903 < n
    · have Hr : Hid (wrN n (l, 0) = ([], 1)) := Lib.hid (by unfold wrN; rw [if_neg (by simp), if_pos hbad])
      have Hst := Lib.hid (wstop_any a w (l, 0) 1 H.out)
      rw [Hr.out]
      rcases hbad with hb | hb
      · go_enter Tryz.func60, Tryz.ntmps60
        go_wp2_with (first | (go_at_call 88; refine Hs.out.mono ?_; rintro e w' ⟨rfl, rfl⟩) | (go_at_call 89; refine Hst.out.mono ?_; rintro e w' ⟨rfl, hw, hb⟩))
        go_end0
        exact ⟨rfl, hw, hb⟩
      · have hb0 : ¬ n < 0 := by omega
        go_enter Tryz.func60, Tryz.ntmps60
        go_wp2_with (first | (go_at_call 88; refine Hs.out.mono ?_; rintro e w' ⟨rfl, rfl⟩) | (go_at_call 89; refine Hst.out.mono ?_; rintro e w' ⟨rfl, hw, hb⟩))
        go_end0
        exact ⟨rfl, hw, hb⟩
    · have Hr : Hid (wrN n (l, 0) = wrP (encL n.toNat) [] (l, 0)) := Lib.hid (by unfold wrN; rw [if_neg (by simp), if_neg hbad])
      rw [Hr.out]
      obtain ⟨m, rfl⟩ : ∃ m : Nat, n = m := ⟨n.toNat, by omega⟩
      have hb0 : ¬ (m : Int) < 0 := by omega
      have hb1 : ¬ 4611686018427387903 < (m : Int) := by omega
      clear hbad
      have He := Lib.hid (encoded_any m w (by omega))
      have Hel : Hid ((encL m).length ≤ 9 ∧ 0 < (encL m).length) := Lib.hid (by rw [encL_length]; have := beL_len8 m (by omega); omega)
      have hmt : ((m : Int)).toNat = m := by omega
      rw [hmt]
      have Hput : Hid (∀ w1, Below w.heap.size w w1 → Holds w1 w.heap.size 151 (byC (encL m ++ List.replicate (8 - (beL m).length) 0)) → Calls Tryz.prog 90 #[.pointer (some ⟨a, 0, none⟩), .slice (some ⟨w.heap.size, 0, none⟩) (encL m).length (encL m).length, .string { data := #[] }] w1 (WrGot w1 a (wrP (encL m) [] (l, 0)))) := Lib.hid (fun w1 hb hh => by
        rw [byC_append] at hh
        exact put_any a w.heap.size _ w1 (encL m) [] _ l (H.out.below hb (Nat.le_refl _)) hh rfl Hel.out.2 Hel.out.1 _ bl_empty (Nat.zero_le _))
      have ha : a < w.heap.size := H.out.lt
      generalize (encL m).length = el at *
      generalize wrP (encL m) [] (l, 0) = r at *
      go_enter Tryz.func60, Tryz.ntmps60
      go_wp2_with (first | (go_at_call 88; refine Hs.out.mono ?_; rintro e w' ⟨rfl, rfl⟩) | (go_at_call 91; refine He.out.mono ?_; rintro e w1 ⟨rfl, hh1, hb1'⟩; have Hb1 := Lib.hid hb1'; have Hp1 := Lib.hid (Hput.out _ hb1' hh1); clear hh1 hb1') | (go_at_call 90; refine Hp1.out.mono ?_; rintro e w2 ⟨rfl, hw2, hb2⟩))
      go_end0
      exact ⟨rfl, hw2, (Hb1.out.mono (Nat.le_of_lt ha)).trans hb2⟩
  · have hd : decide ((l, f).2 ≠ 0) = true := by simp [hf]
    rw [wrN_bad n (l, f) hf]
    rw [hd] at Hs
    go_enter Tryz.func60, Tryz.ntmps60
    go_wp2_with (first | (go_at_call 88; refine Hs.out.mono ?_; rintro e w' ⟨rfl, rfl⟩))
    go_end0
    exact ⟨rfl, H.out, Below.refl _ _⟩

set_option maxRecDepth 100000 in
set_option maxHeartbeats 1000000 in
theorem wtext_any (t : ByteArray) (a : Nat) (w : World) (st : WSt) (h : WrM w a st) (ht : t.size ≤ 281474976710656) :
    Calls Tryz.prog 61 #[.pointer (some ⟨a, 0, none⟩), .string t] w (WrGot w a (wrT (bl t) st)) := by
  have Hs := Lib.hid (wstopped_any a w st h)
  have H := Lib.hid h
  clear h
  obtain ⟨l, f⟩ := st
  by_cases hf : f = 0
  · subst hf
    have Hr : Hid (wrT (bl t) (l, 0) = wrP (encL t.size) (bl t) (l, 0)) := Lib.hid (by unfold wrT; rw [if_neg (by simp), bl_length])
    rw [Hr.out]
    have He := Lib.hid (encoded_any t.size w (by omega))
    have Hel : Hid ((encL t.size).length ≤ 9 ∧ 0 < (encL t.size).length) := Lib.hid (by rw [encL_length]; have := beL_len8 t.size (by omega); omega)
    have Hput : Hid (∀ w1, Below w.heap.size w w1 → Holds w1 w.heap.size 151 (byC (encL t.size ++ List.replicate (8 - (beL t.size).length) 0)) → Calls Tryz.prog 90 #[.pointer (some ⟨a, 0, none⟩), .slice (some ⟨w.heap.size, 0, none⟩) (encL t.size).length (encL t.size).length, .string t] w1 (WrGot w1 a (wrP (encL t.size) (bl t) (l, 0)))) := Lib.hid (fun w1 hb hh => by
      rw [byC_append] at hh
      exact put_any a w.heap.size _ w1 (encL t.size) (bl t) _ l (H.out.below hb (Nat.le_refl _)) hh rfl Hel.out.2 Hel.out.1 t rfl ht)
    have ha : a < w.heap.size := H.out.lt
    generalize (encL t.size).length = el at *
    generalize wrP (encL t.size) (bl t) (l, 0) = r at *
    go_enter Tryz.func61, Tryz.ntmps61
    go_wp2_with (first | (go_at_call 88; refine Hs.out.mono ?_; rintro e w' ⟨rfl, rfl⟩) | (go_at_call 91; refine He.out.mono ?_; rintro e w1 ⟨rfl, hh1, hb1'⟩; have Hb1 := Lib.hid hb1'; have Hp1 := Lib.hid (Hput.out _ hb1' hh1); clear hh1 hb1') | (go_at_call 90; refine Hp1.out.mono ?_; rintro e w2 ⟨rfl, hw2, hb2⟩))
    go_end0
    exact ⟨rfl, hw2, (Hb1.out.mono (Nat.le_of_lt ha)).trans hb2⟩
  · have hd : decide ((l, f).2 ≠ 0) = true := by simp [hf]
    rw [wrT_bad _ (l, f) hf]
    rw [hd] at Hs
    go_enter Tryz.func61, Tryz.ntmps61
    go_wp2_with (first | (go_at_call 88; refine Hs.out.mono ?_; rintro e w' ⟨rfl, rfl⟩))
    go_end0
    exact ⟨rfl, H.out, Below.refl _ _⟩
theorem wnum_nil (n : Int) (w : World) : Calls Tryz.prog 60 #[.pointer none, .int .i64 n] w fun e w' => e = .returned (.tuple #[]) ∧ w' = w := by
  go_enter Tryz.func60, Tryz.ntmps60
  go_wp2_with (go_at_call 88; refine (wstopped_nil w).mono ?_; rintro e w' ⟨rfl, rfl⟩)
  exact bodyPost_ret (v := .tuple #[]) (by simp [results, go_sem]) rfl ⟨rfl, rfl⟩
theorem wtext_nil (t : ByteArray) (w : World) : Calls Tryz.prog 61 #[.pointer none, .string t] w fun e w' => e = .returned (.tuple #[]) ∧ w' = w := by
  go_enter Tryz.func61, Tryz.ntmps61
  go_wp2_with (go_at_call 88; refine (wstopped_nil w).mono ?_; rintro e w' ⟨rfl, rfl⟩)
  exact bodyPost_ret (v := .tuple #[]) (by simp [results, go_sem]) rfl ⟨rfl, rfl⟩
theorem wbytes_nil (w : World) : Calls Tryz.prog 62 #[.pointer none] w fun e w' => e = .returned (.tuple #[.string { data := #[] }, .int .i64 1]) ∧ w' = w := by
  go_enter Tryz.func62, Tryz.ntmps62
  go_wp2
  exact bodyPost_ret (v := .tuple #[.string { data := #[] }, .int .i64 1]) (by simp [results, go_sem]) rfl ⟨rfl, rfl⟩
theorem conv_owned {w : World} {base : Nat} {v : Value} {l : List UInt8} (h : w.ownsRow base 5 1 v l.length (byC l)) : (convert 66 9 v).run Tryz.prog w = .ok (.string (bs l)) w := by
  rcases h.2 with ⟨rfl, h0⟩ | ⟨g, cap, cur, rfl, hb, hh, hc, hm, hs, ht⟩
  · have : l = [] := List.eq_nil_of_length_eq_zero h0
    subst this
    rw [run_convert_bytes_nil w 66 5 Tryz.underlying66 Tryz.underlying5 0 0 9 Tryz.underlying9, bs_eq]
    rfl
  · rw [Nat.mul_one] at ht
    refine conv_row (w := w) (g := g) (t := 5) (l := l) (rest := cur.toList.drop l.length) ?_ l.length cap rfl
    unfold Holds
    rw [← ht, List.take_append_drop, hh]
set_option maxRecDepth 100000 in
set_option maxHeartbeats 1000000 in
theorem wbytes_any (a : Nat) (w : World) (st : WSt) (h : WrM w a st) : Calls Tryz.prog 62 #[.pointer (some ⟨a, 0, none⟩)] w fun e w' => e = .returned (.tuple #[.string (bs st.1), .int .i64 (st.2 : Int)]) ∧ WrM w' a st ∧ Below w.heap.size w w' := by
  have Hend : Hid (∀ n, WrM (w.drewN n) a st ∧ Below w.heap.size w (w.drewN n)) := Lib.hid fun n => ⟨h, below_drewN (Below.refl _ w) n⟩
  obtain ⟨p, cap, h, hown, _⟩ := h
  obtain ⟨c0, c1, f0, f1⟩ := WrM.cells h
  have hcv : ∀ n, (convert 66 9 (.slice p st.1.length cap)).run Tryz.prog (w.drewN n) = .ok (.string (bs st.1)) (w.drewN n) := fun n => conv_owned (w := w.drewN n) (v := .slice p st.1.length cap) (l := st.1) hown
  clear h hown
  obtain ⟨l, f⟩ := st
  simp only at *
  go_enter Tryz.func62, Tryz.ntmps62
  go_wp2
  go_quiet (fail)
  go_wp2
  exact bodyPost_ret (v := .tuple #[.string (bs l), .int .i64 (f : Int)]) (by simp [results, go_sem]) rfl ⟨rfl, Hend.out _⟩
end Go.Proofs.YtmgbmphheagdmaaGreatDoor
