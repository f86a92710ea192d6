/-
  The contracts of the reference's Used, burns, Read.
-/
import Derived.Test.YtbgfkjafablfiaaTB
namespace Go.Proofs.Ytbgfkjafablfiaa
open Go.RowKit

theorem used_drop (l : List Fl) (i : Nat) (f : Fl) (h : l[i]? = some f) : usedL (l.take (i + 1)) = usedL (l.take i) + sizeF f := by
  rw [List.take_add_one, h, usedL_append]; simp [usedL]
theorem used_le (l : List Fl) (i : Nat) : usedL (l.take i) ≤ usedL l := by
  have := congrArg usedL (List.take_append_drop i l)
  rw [usedL_append] at this; omega
theorem drewN_add (w : World) (a b : Nat) : (w.drewN a).drewN b = w.drewN (a + b) := by simp [World.drewN, Nat.add_assoc]

set_option maxRecDepth 100000 in
set_option maxHeartbeats 1000000 in
theorem refused_any (r : Nat) (v : Value) (s : St) (w : World) (h : RefD w r v s) (hf : Fit s) :
    Calls Try.prog 31 #[.pointer (some ⟨r, 0, none⟩)] w fun e w' => e = .returned (.int .i64 (usedL s.files : Nat)) ∧ ∃ q, w' = w.drewN q := by
  obtain ⟨A, cap, rfl⟩ := h.slice
  obtain ⟨c0, _, _, _, _⟩ := h.cells
  have H := Lib.hid h
  have Hlen := Lib.hid hf.len
  have Hu := Lib.hid hf.used
  generalize hn : s.files.length = n at *
  have Hn := Lib.hid hn
  clear h hf hn
  go_enter Try.func31, Try.ntmps31
  go_wp2
  go_loopw [3, 4] (fun nv iv wr => ∃ i : Nat, ∃ q : Nat, i ≤ n ∧ iv = .int .i64 i ∧ nv = .int .i64 (usedL (s.files.take i) : Nat) ∧ wr = w.drewN q) (fun _ iv _ => n - (intOf iv).toNat)
  case atStart => exact ⟨0, 0, by omega, rfl, by simp [usedL], rfl⟩
  case round =>
    obtain ⟨i, q, hi, rfl, rfl, rfl⟩ := hrel
    by_cases hlt : i < n
    · have hlt' : (i : Int) < (n : Int) := by omega
      obtain ⟨f, hf⟩ : ∃ f, s.files[i]? = some f := ⟨_, List.getElem?_eq_getElem (by rw [Hn.out]; exact hlt)⟩
      obtain ⟨g, cap', hA, _, hgl, _, d1, d2, _⟩ := H.out.file hf
      injection hA with hA1 hA2 hA3
      subst hA1
      have hl6 : i < 1000000 := Nat.lt_of_lt_of_le hlt Hlen.out
      have Hstep := Lib.hid (used_drop s.files i f hf)
      have hle : usedL (s.files.take i) + sizeF f ≤ 1000000000 := by rw [← Hstep.out]; exact Nat.le_trans (used_le _ _) Hu.out
      have e1 : (bs f.2.1).size = f.2.1.length := bs_size _
      have e2 : (bs f.2.2).size = f.2.2.length := bs_size _
      unfold sizeF at hle Hstep
      generalize usedL (s.files.take i) = m at *
      generalize f.2.1.length = x at *
      generalize f.2.2.length = y at *
      have hb1 : (m : Int) + x ≤ 1000000000 := by omega
      have hb2 : (m : Int) + x + y ≤ 1000000000 := by omega
      clear hf hA2
      go_wp2_with fail
      go_quiet (fail)
      go_wp2
      go_roundw
      case rel => exact ⟨i + 1, q + nq, by omega, by go_num, by rw [Hstep.out]; go_num, rfl⟩
      case measure => simp [intOf]; omega
    · have hlt' : ¬ (i : Int) < (n : Int) := by omega
      have Hv : Hid (usedL (s.files.take i) = usedL s.files) := Lib.hid (by rw [List.take_of_length_le (by rw [Hn.out]; omega)])
      go_wp2
      go_ret
      exact ⟨by rw [← Hv.out]; rfl, q, rfl⟩

/-- The disk's block, one cell set. -/
theorem RefD.setBox {w : World} {r : Nat} {v : Value} {s s' : St} (h : RefD w r v s) (i : Nat) (x : Value) (hx : [v, .int .i64 s.room, .int .i64 s.fuse, .bool s.off].set i x = [v, .int .i64 s'.room, .int .i64 s'.fuse, .bool s'.off]) (hf : s'.files = s.files) : RefD (w.setCell ⟨r, i, none⟩ x) r v s' := by
  refine ⟨by rw [← hx]; exact h.box.set i x, ?_⟩
  rw [hf]
  exact ownsRow_setCell_below h.own (a := ⟨r, i, none⟩) (Nat.lt_succ_self r) x

set_option maxRecDepth 100000 in
set_option maxHeartbeats 1000000 in
theorem refburns_any (r : Nat) (v : Value) (s : St) (w : World) (h : RefD w r v s) (hf : Fit s) :
    Calls Try.prog 40 #[.pointer (some ⟨r, 0, none⟩)] w fun e w' => e = .returned (.bool (burnS s).off) ∧ RefD w' r v (burnS s) ∧ Only (fun k => k = r) w w' := by
  obtain ⟨_, _, c2, c3, hz⟩ := h.cells
  have f2 := hz 2
  have f3 := hz 3
  have H := Lib.hid h
  have hf0 := hf.fuse0
  have hf1 := hf.fuse1
  obtain ⟨files, room, fuse, off⟩ := s
  simp only at *
  clear h hz hf
  by_cases h0 : fuse = 0
  · subst h0
    have Hb : Hid (burnS ⟨files, room, 0, off⟩ = ⟨files, room, 0, true⟩) := Lib.hid (by simp [burnS])
    have Hn : Hid (RefD (w.setCell ⟨r, 3, none⟩ (.bool true)) r v ⟨files, room, 0, true⟩) := Lib.hid (H.out.setBox 3 _ rfl rfl)
    rw [Hb.out]
    have Ho := Lib.hid ((Only.refl (fun k => k = r) w).setCell ⟨r, 3, none⟩ (.bool true) (.inl rfl))
    go_enter Try.func40, Try.ntmps40
    go_wp2
    go_ret
    exact ⟨rfl, Hn.out, Ho.out⟩
  · have hne : (fuse == 0) = false := beq_eq_false_iff_ne.2 h0
    by_cases h1 : 0 < fuse
    · have Hb : Hid (burnS ⟨files, room, fuse, off⟩ = ⟨files, room, fuse - 1, off⟩) := Lib.hid (by simp [burnS, h0, h1])
      have Hn : Hid (RefD (w.setCell ⟨r, 2, none⟩ (.int .i64 (fuse - 1))) r v ⟨files, room, fuse - 1, off⟩) := Lib.hid (H.out.setBox 2 _ rfl rfl)
      rw [Hb.out]
      have Ho := Lib.hid ((Only.refl (fun k => k = r) w).setCell ⟨r, 2, none⟩ (.int .i64 (fuse - 1)) (.inl rfl))
      go_enter Try.func40, Try.ntmps40
      go_wp2
      go_ret
      exact ⟨rfl, Hn.out, Ho.out⟩
    · have Hb : Hid (burnS ⟨files, room, fuse, off⟩ = ⟨files, room, fuse, off⟩) := Lib.hid (by simp [burnS, h0, h1])
      rw [Hb.out]
      go_enter Try.func40, Try.ntmps40
      go_wp2
      go_ret
      exact ⟨rfl, H.out, Only.refl _ _⟩
end Go.Proofs.Ytbgfkjafablfiaa
