/-
  The contract of exchequerref02.Joined: each text with its length ahead.
-/
import Derived.Test.YtemiphbblaikjaaDoorLpD
import Derived.Test.YtemiphbblaikjaaDoorMac
import Derived.Deep.RegionHeld3
import Derived.Lib.AppendStr
namespace Go.Proofs.YtemiphbblaikjaaDoor
open Go.RowKit
theorem strCells_eq (s : ByteArray) : Lib.strCells s = byC (bl s) := by rw [byC_eq, bl_eq]; rfl
/-- append of a string to a row of the call's own, as one step of a region that draws. -/
theorem step_append_text {P : Program} {w : World} {ops : Array Oper} {o : Oper} {a : Act} {K : Act → World → Prop} {Q : Exit → Act → World → Prop} {E : Prop} (hgd : o.guard = none) (sl x : Operand) (t u : TypeId)
    (ho : o.op = .call { callee := .builtin .append, args := #[sl, x], argTypes := #[t, u] })
    (base : Nat) (e : TypeId) (i : TypeInfo) (ht : P.underlying t = some (.slice e)) (hu : P.underlying u = some .string) (hi : P.info? e = some i) (hz : i.zero = some (.int .u8 0))
    (hsize : i.size = 1) (hby : i.bytes = 1)
    (v : Value) (n : Nat) (l : List UInt8) (hs : a.eval sl = v) (hown : w.ownsRow base e 1 v n (byC l)) (s : ByteArray) (hx : a.eval x = .string s)
    (h63 : n + s.size ≤ maxLen) (hbytes : n + s.size ≤ 140737488355328) (hbase : base ≤ w.heap.size)
    (h : ∀ v' w', w'.ownsRow base e 1 v' (n + s.size) (byC (l ++ bl s)) → w.grownBy w' v.ownBlock → K (a.put o.dst v') w') :
    if Region.wanted o (yielded ops a.tmps) = true then Oper.wp P o a w K Q else E := by
  have hw : Region.wanted o (yielded ops a.tmps) = true := by simp [Region.wanted, hgd]
  rw [if_pos hw]
  obtain ⟨v', w', hr, h2, h3, _⟩ := Lib.run_append_own_string (P := P) w base t u o.type e i ht hu hi hz hsize hby v n (byC l) hown s h63 hbytes hbase
  rw [strCells_eq, ← byC_append] at h2
  unfold Oper.wp execOp
  simp only [ho, resolve, invoke, builtin, Sem.run_bind, Sem.run_pure, Result.andThen_ok, List.map_toArray, List.map_cons, List.map_nil, hs, hx, hr]
  exact h v' w' h2 h3

set_option maxRecDepth 100000 in
set_option maxHeartbeats 3200000 in
theorem rjoined_any (ss : List ByteArray) (A : Option Addr) (n cap : Nat) (w : World) (hs : SRow w A n ss) (hlen : (partsL ss).length < 1073741824) (hn : n ≤ 1000000) :
    Calls Tryd.prog 14 #[.slice A n cap] w fun e w' => e = .returned (.string (bs (partsL ss))) ∧ Below w.heap.size w w' := by
  obtain ⟨i0, hi0, hz0, hz1, hz2⟩ := info_parts info5
  have Hs := Lib.hid hs
  have Hlen := Lib.hid hlen
  clear hs hlen
  have Hw0 : Hid ((w.alloc (.cells #[] 5)).ownsRow w.heap.size 5 1 (.slice (some ⟨w.heap.size, 0, none⟩) 0 0) 0 (byC [])) := Lib.hid (by rw [byC_eq]; exact World.ownsRow_lit w #[] 0 (Nat.le_refl _) (by unfold maxLen; omega) rfl)
  have Hbw : Hid (Below w.heap.size w (w.alloc (.cells #[] 5))) := Lib.hid ((Below.refl _ _).alloc (Nat.le_refl _) _)
  go_enter Tryd.func14, Tryd.ntmps14
  go_wp2
  go_loopw [3, 4] (fun ov iv wr => ∃ k : Nat, k ≤ n ∧ iv = .int .i64 k ∧ OwnB wr w.heap.size ov (partsL (ss.take k)) ∧ Below w.heap.size w wr) (fun _ iv _ => n - (intOf iv).toNat)
  case atStart => exact ⟨0, by omega, rfl, Hw0.out, Hbw.out⟩
  case round =>
    clear Hw0 Hbw
    obtain ⟨k, hk, rfl, hown, hb⟩ := hrel
    have Hk := Lib.hid hown
    have Hb := Lib.hid hb
    clear hown hb
    by_cases hlt : k < n
    · obtain ⟨b, off, rfl, hbl, hc⟩ := Hs.out.2 k hlt
      have hcell := (Hb.out.cell (p := ⟨b, off + k, none⟩) hbl).trans hc
      have Htk := Lib.hid (partsL_take ss k (by rw [Hs.out.1]; exact hlt))
      have Hle := Lib.hid (partsL_le ss (k + 1))
      clear hc
      generalize ss.getD k ByteArray.empty = t at *
      generalize partsL (ss.take k) = l at *
      have hle := Hle.out
      rw [Htk.out, List.length_append, List.length_append, numL_length, bl_length] at hle
      have hle2 : l.length + 8 + t.size < 1073741824 := Nat.lt_of_le_of_lt hle Hlen.out
      clear hle
      have hk0 : (0 : Int) ≤ (k : Int) := by omega
      have hk1 : (k : Int) < (n : Int) := by omega
      obtain ⟨N, hN⟩ : ∃ N, N = l.length := ⟨_, rfl⟩
      have Hk' : Hid (wr.drew.ownsRow w.heap.size 5 1 u3 N (byC l)) := Lib.hid (by rw [hN]; exact Hk.out)
      rw [← hN] at hle2
      have HN := Lib.hid hN
      clear hN
      have Hsz : Hid (w.heap.size ≤ wr.drew.heap.size) := Lib.hid Hb.out.size
      have Hm1 : Hid (N + 8 ≤ maxLen) := Lib.hid (by unfold maxLen; omega)
      have Hm2 : Hid ((N + 8) * 1 ≤ 140737488355328) := Lib.hid (by omega)
      have Hm3 : Hid (N + 8 + t.size ≤ maxLen) := Lib.hid (by unfold maxLen; omega)
      have Hm4 : Hid (N + 8 + t.size ≤ 140737488355328) := Lib.hid (by omega)
      have Hn8 : Hid ((byC (numL t.size 8)).length = 8 * 1) := Lib.hid (by rw [byC_length, numL_length])
      have Ho8 : Hid (∀ u ∈ byC (numL t.size 8), u.oneCell' = true) := Lib.hid (byC_one _)
      have hne : ∀ v : Value, (∀ j, v.ownBlock = some j → w.heap.size ≤ j) → some b ≠ v.ownBlock := fun v h e => by have := h b e.symm; omega
      have Hne := Lib.hid hne
      have hbr : b < wr.heap.size := Nat.lt_of_lt_of_le hbl Hb.out.size
      have Hwr : Hid (IntKind.u64.wrap (t.size : Int) = (t.size : Int)) := Lib.hid (by simp [IntKind.wrap, IntKind.bits, IntKind.signed]; omega)
      clear hne
      go_wp2_with fail
      go_region_held3 (fun w' => w'.cell? ⟨b, off + k, none⟩ = some (.string t))
        (first
          | go_keep
          | (rw [hb3.cell (p := ⟨b, off + k, none⟩) hbr]; assumption)
          | (rw [hgrow5.cell_far (a := ⟨b, off + k, none⟩) (Nat.lt_of_lt_of_le hbl (Nat.le_trans Hsz.out (Nat.le_trans hb3.size hgrow4.size))) (Hne.out _ (fun j hj => (hown4.lt j hj).1))]; assumption)
          | (rw [hgrow4.cell_far (a := ⟨b, off + k, none⟩) (Nat.lt_of_lt_of_le hbl (Nat.le_trans Hsz.out hb3.size)) (Hne.out _ (fun j hj => (Hk'.out.lt j hj).1))]; assumption))
        (first
          | (refine step_append_lies _ (by rfl) _ _ _ (by rfl) w.heap.size 5 i0 _ 1 1 Tryd.underlying37 hi0 hz0 hz1 hz2 rfl (by omega) u3 N (byC l) (by rfl) (own_below Hk'.out hb3 (Nat.le_refl _)) ⟨wr.heap.size, 0, none⟩ 8 8 (byC (numL t.size 8)) (by rfl) Hn8.out (own_cells hown3) Ho8.out (by omega) Hm1.out Hm2.out (Nat.le_trans Hsz.out hb3.size) _ rfl ?_; intro g4 cap4 w4 hown4 hgrow4 hor4 hg4; rw [← byC_append] at hown4)
          | (refine step_append_text (by rfl) _ _ _ _ (by rfl) w.heap.size 5 i0 Tryd.underlying37 Tryd.underlying9 hi0 hz0 hz1 hz2 (.slice (some ⟨g4, 0, none⟩) (N + 8) cap4) (N + 8) (l ++ numL t.size 8) (by rfl) hown4 t (by rfl) Hm3.out Hm4.out (Nat.le_trans Hsz.out (Nat.le_trans hb3.size hgrow4.size)) ?_; intro v5 w5 hown5 hgrow5)
          | (go_at_call 24; refine (number_at _ _ t.size 8 _ (by first | exact Hwr.out | omega) rfl (by omega) (by omega) (by omega)).mono ?_; rintro e w3 ⟨rfl, hown3, hb3⟩))
      have Hv5 : Hid (OwnB w5 w.heap.size v5 (partsL (ss.take (k + 1)))) := Lib.hid (by
        unfold OwnB
        rw [Htk.out, List.length_append, List.length_append, numL_length, bl_length, ← HN.out]
        exact hown5)
      have Hb5 : Hid (Below w.heap.size w w5) := Lib.hid ((((Hb.out.drew).trans (hb3.mono Hsz.out)).grown hgrow4 (Nat.le_trans Hsz.out hb3.size) (fun q hq => (Hk'.out.lt q hq).1)).grown hgrow5 (Nat.le_trans Hsz.out (Nat.le_trans hb3.size hgrow4.size)) (fun q hq => (hown4.lt q hq).1))
      clear hown5 hgrow5 hown4 hgrow4 hor4 hg4 hown3 hb3
      go_wp2
      go_roundw
      case rel => exact ⟨k + 1, by omega, by go_num, Hv5.out, Hb5.out⟩
      case measure => simp [intOf]; omega
    · have hcv := conv_own Hk.out
      rw [List.take_of_length_le (by rw [Hs.out.1]; omega)] at hcv
      go_wp2
      go_ret
      exact ⟨rfl, Hb.out⟩
end Go.Proofs.YtemiphbblaikjaaDoor
