/-
  The contracts of Down, find, perform, refused, Used, Fuse, Room, New, Read.
-/
import Derived.Test.YtbgfkjafablfiaaDA
namespace Go.Proofs.Ytbgfkjafablfiaa
open Go.RowKit Go.Maps

section
variable {w w' : World} {r : Nat} {mb : Option Nat} {gm : List UInt8 → Nat} {vm : List UInt8 → Value} {s : St}
theorem DskM.cells (h : DskM w r mb gm vm s) : w.cell? ⟨r, 0, none⟩ = some (.map mb) ∧ w.cell? ⟨r, 0 + 1, none⟩ = some (.int .i64 (usedL s.files : Nat)) ∧ w.cell? ⟨r, 0 + 2, none⟩ = some (.int .i64 s.room) ∧ w.cell? ⟨r, 0 + 3, none⟩ = some (.bool s.off) ∧
    w.cell? ⟨r, 0 + 4, none⟩ = some (.bool (decide (0 ≤ s.fuse))) ∧ w.cell? ⟨r, 0 + 5, none⟩ = some (.int .i64 (max s.fuse 0)) :=
  ⟨Holds.cell h.box rfl, Holds.cell h.box rfl, Holds.cell h.box rfl, Holds.cell h.box rfl, Holds.cell h.box rfl, Holds.cell h.box rfl⟩

set_option maxRecDepth 100000 in
set_option maxHeartbeats 2000000 in
theorem down_m (h : DskM w r mb gm vm s) : Calls Try.prog 19 #[.pointer (some ⟨r, 0, none⟩)] w fun e w' => e = .returned (.bool s.off) ∧ w' = w := by
  obtain ⟨_, _, _, c3, _, _⟩ := h.cells
  have Hd := Lib.hid h
  clear h
  go_enter Try.func19, Try.ntmps19
  go_wp2
  go_ret
  exact ⟨rfl, rfl⟩

/-- What find answers. -/
def findV (gm : List UInt8 → Nat) (nm : List UInt8) (s : St) : Value := if s.off = true then .tuple #[.pointer none, .int .i64 7] else match atN nm s.files with
  | none => .tuple #[.pointer none, .int .i64 8]
  | some _ => .tuple #[.pointer (some ⟨gm nm, 0, none⟩), .int .i64 0]
theorem findV_off {nm : List UInt8} (ho : s.off = true) : findV gm nm s = .tuple #[.pointer none, .int .i64 7] := if_pos ho
theorem findV_none {nm : List UInt8} (ho : s.off = false) (hat : atN nm s.files = none) : findV gm nm s = .tuple #[.pointer none, .int .i64 8] := by unfold findV; rw [ho, hat]; rfl
theorem findV_some {nm : List UInt8} {i : Nat} (ho : s.off = false) (hat : atN nm s.files = some i) : findV gm nm s = .tuple #[.pointer (some ⟨gm nm, 0, none⟩), .int .i64 0] := by unfold findV; rw [ho, hat]; rfl
theorem off_false (h : ¬ s.off = true) : s.off = false := by cases h : s.off <;> simp_all
theorem elP_at {nm : List UInt8} {l : List Fl} {i : Nat} (hat : atN nm l = some i) (z : DataW Unit) : (mapF (elP gm) l).atKey (.string nm) z = .lit (.int .i64 (gm nm)) := by
  obtain ⟨f, hf, hn⟩ := atN_some hat
  rw [mapF_at (elP gm) z hat hf]; unfold elP; rw [hn]

/-- 'f, ok := d.files[name]': no other world, and what stands there. -/
theorem look_m (h : DskM w r mb gm vm s) {nm : List UInt8} (hnm : nm.length ≤ 9223372036854775807) :
    (Instr.lookup 56 (.map mb) (.string (bs nm)) true).run Try.prog w = .ok (.tuple #[match atN nm s.files with | none => .pointer none | some _ => .pointer (some ⟨gm nm, 0, none⟩), .bool (atN nm s.files).isSome]) w := by
  have hm := h.map
  cases mb with
  | none =>
    have : s.files = [] := hm
    rw [this]
    exact Maps.look_nil true law9 Try.underlying56 (zero70 w) (key_bs hnm)
  | some b =>
    obtain ⟨v, ps, h1, h2⟩ := World.ownsMap.look_ok hm law9 Try.underlying56 (zero70 w) (zd := .nil) (zp := []) rfl (key_bs hnm)
    rw [h1, mapF_has]
    cases hat : atN nm s.files with
    | none =>
      rw [mapF_no _ _ hat] at h2
      rw [ptr_nil h2]
    | some i =>
      rw [elP_at hat] at h2
      rw [ptr_inv h2]
theorem wpList_lookup_run {P : Program} {ops : Array Oper} {rest : List Oper} {o : Oper} {a : Act} {Q : Exit → Act → World → Prop} {w : World} (hg : o.guard = none) (m x : Operand) (t : TypeId) (c : Bool) (hop : o.op = Op.lookup t m x c)
    (mv key v : Value) (hm : a.eval m = mv) (hx : a.eval x = key) (hrun : (Instr.lookup t mv key c).run P w = .ok v w) (hK : wpList P ops Q rest (a.put o.dst v) w) : wpList P ops Q (o :: rest) a w := by
  refine wpList_plain hg fun K' hK' => ?_
  unfold Oper.wp
  simp [execOp, hop, hm, hx, hrun, Result.andThen]
  exact hK' _ _ hK

set_option maxRecDepth 100000 in
set_option maxHeartbeats 2000000 in
theorem find_m (h : DskM w r mb gm vm s) {nm : List UInt8} (hnm : nm.length ≤ 9223372036854775807) : Calls Try.prog 35 #[.pointer (some ⟨r, 0, none⟩), .string (bs nm)] w fun e w' => e = .returned (findV gm nm s) ∧ w' = w := by
  obtain ⟨c0, _, _, _, _, _⟩ := h.cells
  have HD := Lib.hid (down_m h)
  have HL := Lib.hid (look_m h hnm)
  clear h
  by_cases ho : s.off = true
  · rw [findV_off ho]
    rw [ho] at HD
    clear ho HL
    go_enter Try.func35, Try.ntmps35
    go_wp2_with (go_at_call 19; refine HD.out.mono ?_; rintro e w' ⟨rfl, rfl⟩)
    go_ret2
    exact ⟨rfl, rfl⟩
  · have ho' := off_false ho
    rw [ho'] at HD
    cases hat : atN nm s.files with
    | none =>
      rw [findV_none ho' hat]
      rw [hat] at HL
      clear ho ho' hat
      go_enter Try.func35, Try.ntmps35
      go_wp2_with (first | (go_at_call 19; refine HD.out.mono ?_; rintro e w' ⟨rfl, rfl⟩) | (at_lookup; refine wpList_lookup_run rfl _ _ 56 true rfl _ _ _ rfl rfl HL.out ?_))
      go_ret2
      exact ⟨rfl, rfl⟩
    | some i =>
      rw [findV_some ho' hat]
      rw [hat] at HL
      clear ho ho' hat
      go_enter Try.func35, Try.ntmps35
      go_wp2_with (first | (go_at_call 19; refine HD.out.mono ?_; rintro e w' ⟨rfl, rfl⟩) | (at_lookup; refine wpList_lookup_run rfl _ _ 56 true rfl _ _ _ rfl rfl HL.out ?_))
      go_ret2
      exact ⟨rfl, rfl⟩

set_option maxRecDepth 100000 in
set_option maxHeartbeats 2000000 in
theorem perform_err (x : Int) (hx : x ≠ 0) (a : Option Addr) (w : World) : Calls Try.prog 32 #[.pointer a, .int .i64 x] w fun e w' => e = .returned (.int .i64 x) ∧ w' = w := by
  have hx' : (x != 0) = true := by simp [hx]
  go_enter Try.func32, Try.ntmps32
  go_wp2
  go_ret
  exact ⟨rfl, rfl⟩
theorem only_set (w : World) (r i : Nat) (x : Value) : Only (fun k => k = r) w (w.setCell ⟨r, i, none⟩ x) := (Only.refl (fun k => k = r) w).setCell ⟨r, i, none⟩ x (.inl rfl)
theorem DskM.setBox (h : DskM w r mb gm vm s) {s' : St} (i : Nat) (x : Value) (hs : s'.files = s.files) (hx : (boxC mb s).set i x = boxC mb s') : DskM (w.setCell ⟨r, i, none⟩ x) r mb gm vm s' :=
  h.boxed hs (only_set w r i x) (by rw [← hx]; exact h.box.set i x)

set_option maxRecDepth 100000 in
set_option maxHeartbeats 2000000 in
theorem perform_m (h : DskM w r mb gm vm s) (hf : Fit s) (ho : s.off = false) : Calls Try.prog 32 #[.pointer (some ⟨r, 0, none⟩), .int .i64 0] w fun e w' => e = .returned (.int .i64 (if (burnS s).off = true then 7 else 0)) ∧ DskM w' r mb gm vm (burnS s) ∧ Only (fun k => k = r) w w' := by
  obtain ⟨_, _, _, _, c4, c5⟩ := h.cells
  have f3 := h.box.frozen 3
  have f5 := h.box.frozen 5
  have H := Lib.hid h
  have hf0 := hf.fuse0
  have hf1 := hf.fuse1
  clear h hf
  obtain ⟨files, room, fuse, off⟩ := s
  simp only at *
  subst ho
  by_cases h0 : fuse = 0
  · subst h0
    have hb : burnS ⟨files, room, 0, false⟩ = ⟨files, room, 0, true⟩ := by simp [burnS]
    have Hn : Hid (DskM (w.setCell ⟨r, 3, none⟩ (.bool true)) r mb gm vm ⟨files, room, 0, true⟩) := Lib.hid (H.out.setBox 3 _ rfl rfl)
    rw [hb, if_pos rfl]
    rw [show decide ((0 : Int) ≤ 0) = true from rfl] at c4
    rw [show max (0 : Int) 0 = 0 from rfl] at c5
    clear hb
    go_enter Try.func32, Try.ntmps32
    go_wp2
    go_ret
    exact ⟨rfl, Hn.out, only_set _ _ _ _⟩
  · by_cases h1 : 0 < fuse
    · have hb : burnS ⟨files, room, fuse, false⟩ = ⟨files, room, fuse - 1, false⟩ := by simp [burnS, h0, h1]
      have e5 : max fuse 0 = fuse := by omega
      have Hn : Hid (DskM (w.setCell ⟨r, 5, none⟩ (.int .i64 (fuse - 1))) r mb gm vm ⟨files, room, fuse - 1, false⟩) := Lib.hid (H.out.setBox 5 _ rfl (by
        simp only [boxC, List.set_cons_succ, List.set_cons_zero]
        rw [show max (fuse - 1) 0 = fuse - 1 by omega, decide_eq_true (show (0 : Int) ≤ fuse by omega), decide_eq_true (show (0 : Int) ≤ fuse - 1 by omega)]))
      rw [hb, if_neg (by simp)]
      rw [e5] at c5
      rw [decide_eq_true (show (0 : Int) ≤ fuse by omega)] at c4
      have hne : (fuse == 0) = false := beq_eq_false_iff_ne.2 h0
      clear hb e5
      go_enter Try.func32, Try.ntmps32
      go_wp2
      go_ret
      exact ⟨rfl, Hn.out, only_set _ _ _ _⟩
    · have hb : burnS ⟨files, room, fuse, false⟩ = ⟨files, room, fuse, false⟩ := by simp [burnS, h0, h1]
      rw [hb, if_neg (by simp)]
      rw [decide_eq_false (show ¬ (0 : Int) ≤ fuse by omega)] at c4
      clear hb
      go_enter Try.func32, Try.ntmps32
      go_wp2
      go_ret
      exact ⟨rfl, H.out, Only.refl _ _⟩

/-- Why a text can't be appended. -/
def refuS (nm : List UInt8) (n : Nat) (s : St) : Int := if s.off = true then 7 else if rightL nm = false then 5 else if s.room < ((usedL s.files + n : Nat) : Int) then 6 else 0
set_option maxRecDepth 100000 in
set_option maxHeartbeats 2000000 in
theorem refused_m (h : DskM w r mb gm vm s) (hf : Fit s) {nm : List UInt8} (hnm : nm.length ≤ 1000000) (n : Nat) (hn : n ≤ 1000000) : Calls Try.prog 33 #[.pointer (some ⟨r, 0, none⟩), .string (bs nm), .int .i64 (n : Int)] w fun e w' => e = .returned (.int .i64 (refuS nm n s)) ∧ Below w.heap.size w w' := by
  have HD := Lib.hid (down_m h)
  have HR := Lib.hid (right_any (bs nm) w (by rw [bs_size]; omega))
  rw [bl_bs] at HR
  have H := Lib.hid h
  have hu := hf.used
  have hr0 := hf.room0
  have hr1 := hf.room1
  clear h hf
  unfold refuS
  by_cases ho : s.off = true
  · rw [if_pos ho]
    rw [ho] at HD
    clear ho HR
    go_enter Try.func33, Try.ntmps33
    go_wp2_with (go_at_call 19; refine HD.out.mono ?_; rintro e w' ⟨rfl, rfl⟩)
    go_ret
    exact ⟨rfl, Below.refl _ _⟩
  · rw [if_neg ho]
    rw [off_false ho] at HD
    clear ho
    cases hrt : rightL nm with
    | false =>
      rw [if_pos rfl]
      rw [hrt] at HR
      clear hrt
      go_enter Try.func33, Try.ntmps33
      go_wp2_with (first | (go_at_call 19; refine HD.out.mono ?_; rintro e w' ⟨rfl, rfl⟩) | (go_at_call 42; refine HR.out.mono ?_; rintro e w1 ⟨rfl, hb1⟩; have Hb1 := Lib.hid hb1; clear hb1))
      go_ret
      exact ⟨rfl, by first | exact Hb1.out | exact below_drewN Hb1.out _⟩
    | true =>
      rw [if_neg (by simp)]
      rw [hrt] at HR
      clear hrt
      by_cases hfull : s.room < ((usedL s.files + n : Nat) : Int)
      · rw [if_pos hfull]
        go_enter Try.func33, Try.ntmps33
        go_wp2_with (first | (go_at_call 19; refine HD.out.mono ?_; rintro e w' ⟨rfl, rfl⟩) | (go_at_call 42; refine HR.out.mono ?_; rintro e w1 ⟨rfl, hb1⟩; have Hb1 := Lib.hid hb1; obtain ⟨_, c1, c2, _, _, _⟩ := (H.out.below hb1).cells; clear hb1))
        go_quiet (fail)
        go_wp2
        go_ret
        exact ⟨rfl, by first | exact Hb1.out | exact below_drewN Hb1.out _⟩
      · rw [if_neg hfull]
        go_enter Try.func33, Try.ntmps33
        go_wp2_with (first | (go_at_call 19; refine HD.out.mono ?_; rintro e w' ⟨rfl, rfl⟩) | (go_at_call 42; refine HR.out.mono ?_; rintro e w1 ⟨rfl, hb1⟩; have Hb1 := Lib.hid hb1; obtain ⟨_, c1, c2, _, _, _⟩ := (H.out.below hb1).cells; clear hb1))
        go_quiet (fail)
        go_wp2
        go_ret
        exact ⟨rfl, by first | exact Hb1.out | exact below_drewN Hb1.out _⟩
end
end Go.Proofs.Ytbgfkjafablfiaa
