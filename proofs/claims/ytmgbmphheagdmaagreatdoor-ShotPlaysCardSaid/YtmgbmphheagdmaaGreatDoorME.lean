/-
  The contract of shot.files.
-/
import Derived.Test.YtmgbmphheagdmaaGreatDoorMD
namespace Go.Proofs.YtmgbmphheagdmaaGreatDoor
open Go.RowKit Go.Shelf

set_option maxRecDepth 100000 in
theorem delete_nil (w : World) : Calls Tryz.prog 69 #[.slice none 0 0, .func (.func 70) #[] #[]] w fun e w' => e = .returned (.slice none 0 0) ∧ Below w.heap.size w w' := by
  have HX : Hid (∀ W : World, Calls Tryz.prog 95 #[.slice none 0 0, .func (.func 70) #[] #[]] W fun e w' => e = .returned (.int .i64 (-1)) ∧ w' = W) := Lib.hid (fun W => by
    go_enter Tryz.func95, Tryz.ntmps95
    go_wp2
    go_loopw [5, 8] (fun _ iv wr => iv = .int .i64 0 ∧ wr = W) (fun _ _ _ => 0)
    case atStart => exact ⟨rfl, rfl⟩
    case round =>
      obtain ⟨rfl, rfl⟩ := hrel
      go_wp2
      go_ret
      exact ⟨rfl, rfl⟩)
  go_enter Tryz.func69, Tryz.ntmps69
  go_wp2_with fail
  refine (HX.out _).mono ?_
  rintro e w1 ⟨rfl, rfl⟩
  go_wp2
  go_ret
  exact ⟨rfl, Below.refl _ _⟩

section
variable {w : World} {r : Nat} {mb : Option Nat} {gm : List UInt8 → Nat} {vm : List UInt8 → Value} {s : St}
set_option maxRecDepth 100000 in
set_option maxHeartbeats 2000000 in
/-- The names lie in a row of the call's own. -/
theorem names_own (h : DskM w r mb gm vm s) (hfit : Fit s) : Calls Tryz.prog 26 #[.pointer (some ⟨r, 0, none⟩)] w fun e w' => ∃ A n cap, e = .returned (.slice A n cap) ∧ (namesL s).length = n ∧ w'.ownsRow w.heap.size 9 1 (.slice A n cap) n (strC (namesL s)) ∧ Below w.heap.size w w' := by
  have HD := Lib.hid (down_m h)
  have HS := Lib.hid (sorted_m h hfit)
  clear h hfit
  unfold namesL
  by_cases ho : s.off = true
  · rw [if_pos ho]
    rw [ho] at HD
    clear ho
    go_enter Tryz.func26, Tryz.ntmps26
    go_wp2_with (go_at_call 54; refine HD.out.mono ?_; rintro e w' ⟨rfl, rfl⟩)
    go_ret
    exact ⟨none, 0, 0, rfl, rfl, World.ownsRow_nil _ _ _ _, Below.refl _ _⟩
  · rw [if_neg ho]
    rw [off_false ho] at HD
    clear ho
    go_enter Tryz.func26, Tryz.ntmps26
    go_wp2_with (first | (go_at_call 54; refine HD.out.mono ?_; rintro e w' ⟨rfl, rfl⟩) | (go_at_call 44; refine HS.out.mono ?_; rintro e w1 ⟨A, cap, rfl, hrow, hb⟩; have Hrow := Lib.hid hrow; have Hb := Lib.hid hb; clear hrow hb))
    go_ret
    exact ⟨A, _, cap, rfl, List.length_map .., Hrow.out, Hb.out⟩
end

/-- The names of snapshots' files on a disk, in order. -/
def filesL (s : St) : List (List UInt8) := (namesL s).filter keepS
def FilesRet (l : List (List UInt8)) (w : World) (e : Ending) (w' : World) : Prop :=
  ∃ A n cap, e = .returned (.slice A n cap) ∧ l.length = n ∧ n ≤ cap ∧ RowAt w' A (strC l) ∧ (∀ g off, A = some (⟨g, off, none⟩ : Addr) → w.heap.size ≤ g ∧ g < w'.heap.size) ∧ Below w.heap.size w w' ∧ ((A = none ∧ n = 0 ∧ cap = 0) ∨ ∃ g, A = some ⟨g, 0, none⟩)

theorem holds_row {w : World} {g : Nat} {l : List (List UInt8)} {rest : List Value} (h : Holds w g 9 (strC l ++ rest)) : RowAt w (some ⟨g, 0, none⟩) (strC l) := fun j v hj => by
  refine ⟨g, 0, rfl, h.lt, ?_⟩
  rw [Nat.zero_add]
  exact Holds.cell h (by rw [List.getElem?_append_left (List.getElem?_eq_some_iff.1 hj).1]; exact hj)

set_option maxRecDepth 100000 in
set_option maxHeartbeats 2000000 in
/-- The names of snapshots' files. -/
theorem files_any (a : Addr) (F : Nat → Prop) (s : St) (w : World) (hd : good.D w a F s) (hfit : Fit s) : Calls Tryz.prog 42 #[.pointer (some a)] w (FilesRet (filesL s) w) := by
  have hshort : ∀ x ∈ namesL s, x.length ≤ 9223372036854775807 := fun x hx => by
    unfold namesL at hx
    split at hx
    · cases hx
    · obtain ⟨f, hf, rfl⟩ := List.mem_map.1 hx
      exact good.short hd f hf
  have hnl : (namesL s).length ≤ 1000000000 := by
    unfold namesL
    split
    · simp
    · rw [List.length_map]; have := hfit.len; omega
  obtain ⟨r, mb, gm, vm, rfl, hm, _, _⟩ := hd
  have HN := Lib.hid (names_own hm hfit)
  have Hs := Lib.hid hshort
  clear hm hfit hshort
  unfold filesL
  generalize namesL s = l at *
  go_enter Tryz.func42, Tryz.ntmps42
  go_wp2_with fail
  refine HN.out.mono ?_
  rintro e w1 ⟨A, n, cap, rfl, hn, hown, hb1⟩
  have B1 := Lib.hid hb1
  clear hb1 HN
  rcases hown.2 with ⟨hv, h0⟩ | ⟨g, cap', cur, hv, hbg, hh, hcn, hcm, hcs, htake⟩
  · obtain ⟨rfl, rfl, rfl⟩ : A = none ∧ n = 0 ∧ cap = 0 := by
      injection hv with e1 e2 e3
      exact ⟨e1, e2, e3⟩
    have hl : l = [] := List.eq_nil_of_length_eq_zero hn
    have HD := Lib.hid (delete_nil w1)
    clear hown hv
    go_wp2_with fail
    refine HD.out.mono ?_
    rintro e w2 ⟨rfl, hb2⟩
    have B2 := Lib.hid (B1.out.trans (hb2.mono B1.out.size))
    clear hb2
    go_wp2
    go_ret
    subst hl
    exact ⟨none, 0, 0, rfl, rfl, Nat.le_refl _, fun j v hj => (by simp [strC] at hj), fun g off e => (by cases e), B2.out, .inl ⟨rfl, rfl, rfl⟩⟩
  · obtain ⟨rfl, rfl⟩ : A = some ⟨g, 0, none⟩ ∧ cap = cap' := by
      injection hv with e1 e2 e3
      exact ⟨e1, e3⟩
    have hl9 : (strC l).length = n := by rw [strC_length, hn]
    have hcur : cur.toList = strC l ++ cur.toList.drop n := by
      conv => lhs; rw [← List.take_append_drop n cur.toList]
      rw [Nat.mul_one] at htake
      rw [htake]
    have hold : Holds w1 g 9 (strC l ++ cur.toList.drop n) := by
      unfold Holds
      rw [← hcur]
      simpa using hh
    have HD := Lib.hid (delete_any l _ g n cap w.heap.size w1 hn hold Hs.out hbg (by omega) hcn)
    have Hc := Lib.hid (show (l.filter keepS).length ≤ cap from Nat.le_trans (List.length_filter_le _ _) (by rw [hn]; exact hcn))
    have Hbg := Lib.hid hbg
    clear hown hv hh hcs htake hcur hold hcm
    go_wp2_with fail
    refine HD.out.mono ?_
    rintro e w2 ⟨rfl, hrow2, hb2⟩
    have Hr2 := Lib.hid hrow2
    have B2 := Lib.hid (B1.out.trans hb2)
    clear hrow2 hb2
    go_wp2
    go_ret
    obtain ⟨rest', hr2⟩ := Hr2.out
    exact ⟨_, _, cap, rfl, rfl, Hc.out, holds_row hr2, fun g' off e => by
      injection e with e
      injection e with e1 _
      subst e1
      exact ⟨Hbg.out, hr2.lt⟩, B2.out, .inr ⟨g, rfl⟩⟩
end Go.Proofs.YtmgbmphheagdmaaGreatDoor
