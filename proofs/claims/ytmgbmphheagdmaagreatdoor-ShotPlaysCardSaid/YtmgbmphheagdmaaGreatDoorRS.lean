/- Texts of one claim, joined: RP RQ RR RS. -/
import Derived.Test.YtmgbmphheagdmaaGreatDoorRN
import Derived.BigRegion
/-
  The reference's disk in memory; the contracts of its burns, at, Used.
-/
namespace Go.Proofs.YtmgbmphheagdmaaGreatDoor
open Go.RowKit
/-- The reference's disk in block r: its list of files is v. -/
structure RefD (w : World) (r : Nat) (v : Value) (s : St) : Prop where
  box : Holds w r 45 [v, .int .i64 s.room, .int .i64 s.fuse, .bool s.off]
  own : w.ownsRow (r + 1) 80 3 v s.files.length (flC s.files)
theorem RefD.ne {w : World} {r : Nat} {v : Value} {s : St} (h : RefD w r v s) {k : Nat} (hk : v.ownBlock = some k) : r ≠ k := by
  have := (h.own.lt k hk).1; omega
theorem RefD.size {w : World} {r : Nat} {v : Value} {s : St} (h : RefD w r v s) : r < w.heap.size := h.box.lt
/-- The cells of the i-th file. -/
theorem RefD.file {w : World} {r : Nat} {v : Value} {s : St} (h : RefD w r v s) {i : Nat} {f : Fl} (hf : s.files[i]? = some f) : ∃ g cap, v = .slice (some ⟨g, 0, none⟩) s.files.length cap ∧ r < g ∧ g < w.heap.size ∧
    w.cell? ⟨g, i * 3, none⟩ = some (.string (bs f.1)) ∧ w.cell? ⟨g, i * 3 + 1, none⟩ = some (.string (bs f.2.1)) ∧ w.cell? ⟨g, i * 3 + 2, none⟩ = some (.string (bs f.2.2)) ∧ (∀ j, w.frozen? ⟨g, j, none⟩ = false) := by
  obtain ⟨hl, _⟩ := List.getElem?_eq_some_iff.1 hf
  obtain ⟨g, cap, rfl, hg, hgl⟩ := h.own.form (by omega)
  obtain ⟨c0, c1, c2⟩ := flC_at s.files i f hf
  refine ⟨g, cap, rfl, by omega, hgl, ?_, ?_, ?_, h.own.frozenAt⟩
  · rw [h.own.cellAt _ (by omega)]; exact c0
  · rw [h.own.cellAt _ (by omega)]; exact c1
  · rw [h.own.cellAt _ (by omega)]; exact c2
theorem RefD.slice {w : World} {r : Nat} {v : Value} {s : St} (h : RefD w r v s) : ∃ A cap, v = .slice A s.files.length cap := by
  obtain ⟨A, cap, e, _⟩ := own_row h.own
  exact ⟨A, cap, e⟩
/-- What the disk's block holds. -/
theorem RefD.cells {w : World} {r : Nat} {v : Value} {s : St} (h : RefD w r v s) : w.cell? ⟨r, 0, none⟩ = some v ∧ w.cell? ⟨r, 1, none⟩ = some (.int .i64 s.room) ∧ w.cell? ⟨r, 2, none⟩ = some (.int .i64 s.fuse) ∧ w.cell? ⟨r, 3, none⟩ = some (.bool s.off) ∧ (∀ j, w.frozen? ⟨r, j, none⟩ = false) :=
  ⟨h.box.cell rfl, h.box.cell rfl, h.box.cell rfl, h.box.cell rfl, h.box.frozen⟩
set_option maxRecDepth 100000 in
set_option maxHeartbeats 1000000 in
theorem refat_any (nm : List UInt8) (r : Nat) (v : Value) (s : St) (w : World) (h : RefD w r v s) (hf : Fit s) :
    Calls Tryz.prog 52 #[.pointer (some ⟨r, 0, none⟩), .string (bs nm)] w fun e w' => e = .returned (.int .i64 (atI nm s.files)) ∧ w' = w := by
  obtain ⟨A, cap, rfl⟩ := h.slice
  obtain ⟨c0, _, _, _, _⟩ := h.cells
  have H := Lib.hid h
  have Hlen := Lib.hid hf.len
  have H0 := Lib.hid (atFrom_zero nm s.files).symm
  generalize hn : s.files.length = n at *
  have Hn := Lib.hid hn
  clear h hf hn
  go_enter Tryz.func52, Tryz.ntmps52
  go_wp2
  go_loop [5] (fun iv => ∃ i : Nat, i ≤ n ∧ iv = .int .i64 i ∧ atN nm s.files = atFrom nm s.files i) (fun iv => n - (intOf iv).toNat)
  case atStart => exact ⟨0, by omega, rfl, H0.out⟩
  case round =>
    obtain ⟨i, hi, rfl, hat⟩ := hrel
    have Hat := Lib.hid hat
    clear hat
    by_cases hlt : i < n
    · have hlt' : (i : Int) < (n : Int) := by omega
      obtain ⟨f, hf⟩ : ∃ f, s.files[i]? = some f := ⟨_, List.getElem?_eq_getElem (by rw [Hn.out]; exact hlt)⟩
      obtain ⟨g, cap', hA, _, hgl, d0, _, _, _⟩ := H.out.file hf
      injection hA with hA1 hA2 hA3
      subst hA1
      have Hhit := Lib.hid (fun e => Hat.out.trans (atFrom_hit hf e))
      have Hskip := Lib.hid (fun e => Hat.out.trans (atFrom_skip hf e))
      clear hf hA2
      have hl6 : i < 1000000 := Nat.lt_of_lt_of_le hlt Hlen.out
      by_cases he : f.1 = nm
      · have heq : ((bs f.1).toList == (bs nm).toList) = true := by rw [he]; exact beq_self_eq_true _
        have Hv : Hid (atI nm s.files = (i : Int)) := Lib.hid (by unfold atI; rw [Hhit.out he])
        clear he
        go_wp2
        go_ret
        exact ⟨by rw [Hv.out]; rfl, rfl⟩
      · have heq : ((bs f.1).toList == (bs nm).toList) = false := beq_eq_false_iff_ne.2 (by rw [bs_toList, bs_toList]; exact he)
        have Hv := Lib.hid (Hskip.out he)
        clear he
        go_wp2
        go_round
        case rel => exact ⟨i + 1, by omega, by go_num, Hv.out⟩
        case measure => simp [intOf]; omega
    · have hlt' : ¬ (i : Int) < (n : Int) := by omega
      have Hv : Hid (atI nm s.files = -1) := Lib.hid (by unfold atI; rw [Hat.out, atFrom_end (by rw [Hn.out]; omega)])
      go_wp2
      go_ret
      exact ⟨by rw [Hv.out]; rfl, rfl⟩
end Go.Proofs.YtmgbmphheagdmaaGreatDoor

/-
  The contracts of the reference's Used, burns, Read.
-/
namespace Go.Proofs.YtmgbmphheagdmaaGreatDoor
open Go.RowKit
set_option maxRecDepth 100000 in
set_option maxHeartbeats 1000000 in
theorem refused_any (r : Nat) (v : Value) (s : St) (w : World) (h : RefD w r v s) (hf : Fit s) :
    Calls Tryz.prog 28 #[.pointer (some ⟨r, 0, none⟩)] w fun e w' => e = .returned (.int .i64 (usedL s.files : Nat)) ∧ ∃ q, w' = w.drewN q := by
  obtain ⟨A, cap, rfl⟩ := h.slice
  obtain ⟨c0, _, _, _, _⟩ := h.cells
  have H := Lib.hid h
  have Hlen := Lib.hid hf.len
  have Hu := Lib.hid hf.used
  generalize hn : s.files.length = n at *
  have Hn := Lib.hid hn
  clear h hf hn
  go_enter Tryz.func28, Tryz.ntmps28
  go_wp2
  go_loopw [3, 4] (fun nv iv wr => ∃ i : Nat, ∃ q : Nat, i ≤ n ∧ iv = .int .i64 i ∧ nv = .int .i64 (usedL (s.files.take i) : Nat) ∧ wr = w.drewN q) (fun _ iv _ => n - (intOf iv).toNat)
  case atStart => exact ⟨0, 0, by omega, rfl, by simp [usedL], rfl⟩
  case round =>
    obtain ⟨i, q, hi, rfl, rfl, rfl⟩ := hrel
    by_cases hlt : i < n
    · have hlt' : (i : Int) < (n : Int) := by omega
      obtain ⟨f, hf⟩ : ∃ f, s.files[i]? = some f := ⟨_, List.getElem?_eq_getElem (by rw [Hn.out]; exact hlt)⟩
      obtain ⟨g, cap', hA, _, hgl, _, d1, d2, _⟩ := H.out.file hf
      injection hA with hA1 hA2 hA3
      subst hA1
      have hl6 : i < 1000000 := Nat.lt_of_lt_of_le hlt Hlen.out
      have Hstep := Lib.hid (used_drop s.files i f hf)
      have hle : usedL (s.files.take i) + sizeF f ≤ 1000000000 := by rw [← Hstep.out]; exact Nat.le_trans (used_le _ _) Hu.out
      have e1 : (bs f.2.1).size = f.2.1.length := bs_size _
      have e2 : (bs f.2.2).size = f.2.2.length := bs_size _
      unfold sizeF at hle Hstep
      generalize usedL (s.files.take i) = m at *
      generalize f.2.1.length = x at *
      generalize f.2.2.length = y at *
      have hb1 : (m : Int) + x ≤ 1000000000 := by omega
      have hb2 : (m : Int) + x + y ≤ 1000000000 := by omega
      clear hf hA2
      go_wp2_with fail
      go_quiet (fail)
      go_wp2
      go_roundw
      case rel => exact ⟨i + 1, q + nq, by omega, by go_num, by rw [Hstep.out]; go_num, rfl⟩
      case measure => simp [intOf]; omega
    · have hlt' : ¬ (i : Int) < (n : Int) := by omega
      have Hv : Hid (usedL (s.files.take i) = usedL s.files) := Lib.hid (by rw [List.take_of_length_le (by rw [Hn.out]; omega)])
      go_wp2
      go_ret
      exact ⟨by rw [← Hv.out]; rfl, q, rfl⟩
/-- The disk's block, one cell set. -/
theorem RefD.setBox {w : World} {r : Nat} {v : Value} {s s' : St} (h : RefD w r v s) (i : Nat) (x : Value) (hx : [v, .int .i64 s.room, .int .i64 s.fuse, .bool s.off].set i x = [v, .int .i64 s'.room, .int .i64 s'.fuse, .bool s'.off]) (hf : s'.files = s.files) : RefD (w.setCell ⟨r, i, none⟩ x) r v s' := by
  refine ⟨by rw [← hx]; exact h.box.set i x, ?_⟩
  rw [hf]
  exact ownsRow_setCell_below h.own (a := ⟨r, i, none⟩) (Nat.lt_succ_self r) x
set_option maxRecDepth 100000 in
set_option maxHeartbeats 1000000 in
theorem refburns_any (r : Nat) (v : Value) (s : St) (w : World) (h : RefD w r v s) (hf : Fit s) :
    Calls Tryz.prog 51 #[.pointer (some ⟨r, 0, none⟩)] w fun e w' => e = .returned (.bool (burnS s).off) ∧ RefD w' r v (burnS s) ∧ Only (fun k => k = r) w w' := by
  obtain ⟨_, _, c2, c3, hz⟩ := h.cells
  have f2 := hz 2
  have f3 := hz 3
  have H := Lib.hid h
  have hf0 := hf.fuse0
  have hf1 := hf.fuse1
  obtain ⟨files, room, fuse, off⟩ := s
  simp only at *
  clear h hz hf
  by_cases h0 : fuse = 0
  · subst h0
    have Hb : Hid (burnS ⟨files, room, 0, off⟩ = ⟨files, room, 0, true⟩) := Lib.hid (by simp [burnS])
    have Hn : Hid (RefD (w.setCell ⟨r, 3, none⟩ (.bool true)) r v ⟨files, room, 0, true⟩) := Lib.hid (H.out.setBox 3 _ rfl rfl)
    rw [Hb.out]
    have Ho := Lib.hid ((Only.refl (fun k => k = r) w).setCell ⟨r, 3, none⟩ (.bool true) (.inl rfl))
    go_enter Tryz.func51, Tryz.ntmps51
    go_wp2
    go_ret
    exact ⟨rfl, Hn.out, Ho.out⟩
  · have hne : (fuse == 0) = false := beq_eq_false_iff_ne.2 h0
    by_cases h1 : 0 < fuse
    · have Hb : Hid (burnS ⟨files, room, fuse, off⟩ = ⟨files, room, fuse - 1, off⟩) := Lib.hid (by simp [burnS, h0, h1])
      have Hn : Hid (RefD (w.setCell ⟨r, 2, none⟩ (.int .i64 (fuse - 1))) r v ⟨files, room, fuse - 1, off⟩) := Lib.hid (H.out.setBox 2 _ rfl rfl)
      rw [Hb.out]
      have Ho := Lib.hid ((Only.refl (fun k => k = r) w).setCell ⟨r, 2, none⟩ (.int .i64 (fuse - 1)) (.inl rfl))
      go_enter Tryz.func51, Tryz.ntmps51
      go_wp2
      go_ret
      exact ⟨rfl, Hn.out, Ho.out⟩
    · have Hb : Hid (burnS ⟨files, room, fuse, off⟩ = ⟨files, room, fuse, off⟩) := Lib.hid (by simp [burnS, h0, h1])
      rw [Hb.out]
      go_enter Tryz.func51, Tryz.ntmps51
      go_wp2
      go_ret
      exact ⟨rfl, H.out, Only.refl _ _⟩
end Go.Proofs.YtmgbmphheagdmaaGreatDoor

/-
  The contracts of the reference's Read, Sync, Cut, Remove.
-/
namespace Go.Proofs.YtmgbmphheagdmaaGreatDoor
open Go.RowKit
set_option maxRecDepth 100000 in
set_option maxHeartbeats 2000000 in
theorem refread_any (nm : List UInt8) (r : Nat) (v : Value) (s : St) (w : World) (h : RefD w r v s) (hf : Fit s) :
    Calls Tryz.prog 37 #[.pointer (some ⟨r, 0, none⟩), .string (bs nm)] w fun e w' => e = .returned (.tuple #[.string (bs (readS nm s).1), .int .i64 (readS nm s).2]) ∧ ∃ q, w' = w.drewN q := by
  have HA := Lib.hid (refat_any nm r v s w h hf)
  obtain ⟨c0, _, _, c3, _⟩ := h.cells
  have b0 : bs [] = ({ data := #[] } : ByteArray) := by rw [bs_eq]
  have H := Lib.hid h
  have Hlen := Lib.hid hf.len
  have Hu := Lib.hid hf.used
  clear h hf
  cases ho : s.off with
  | true =>
    have Hr : Hid (readS nm s = ([], 7)) := Lib.hid (by unfold readS; rw [ho]; rfl)
    rw [ho] at c3
    rw [Hr.out, b0]
    clear b0 ho
    generalize atI nm s.files = z at HA
    go_enter Tryz.func37, Tryz.ntmps37
    go_wp2_with (go_at_call 52; refine HA.out.mono ?_; rintro e w1 ⟨rfl, h1⟩; replace h1 := h1.symm; subst h1)
    go_ret2
    exact ⟨rfl, 0, rfl⟩
  | false =>
    rw [ho] at c3
    cases hat : atN nm s.files with
    | none =>
      have Hr : Hid (readS nm s = ([], 8)) := Lib.hid (by unfold readS; rw [ho, hat]; rfl)
      rw [Hr.out, b0]
      rw [atI_none hat] at HA
      clear b0 ho hat
      go_enter Tryz.func37, Tryz.ntmps37
      go_wp2_with (go_at_call 52; refine HA.out.mono ?_; rintro e w1 ⟨rfl, h1⟩; replace h1 := h1.symm; subst h1)
      go_ret2
      exact ⟨rfl, 0, rfl⟩
    | some i =>
      obtain ⟨f, hf, _⟩ := atN_some hat
      have Hr : Hid (readS nm s = (f.2.1 ++ f.2.2, 0)) := Lib.hid (by unfold readS; rw [ho, hat, if_neg (by simp)]; simp only; rw [hf])
      rw [Hr.out, ← bs_append]
      rw [atI_some hat] at HA
      obtain ⟨g, cap, rfl, hrg, hgl, _, d1, d2, _⟩ := H.out.file hf
      have hlt : i < s.files.length := (List.getElem?_eq_some_iff.1 hf).1
      have hl6 : s.files.length ≤ 1000000 := Hlen.out
      have hus : sizeF f ≤ 1000000000 := Nat.le_trans (by have := used_drop s.files i f hf; have := used_le s.files (i + 1); omega) Hu.out
      have e1 : (bs f.2.1).size = f.2.1.length := bs_size _
      have e2 : (bs f.2.2).size = f.2.2.length := bs_size _
      unfold sizeF at hus
      have hlt' : (i : Int) < (s.files.length : Int) := by omega
      have h0 : (0 : Int) ≤ (i : Int) := by omega
      generalize s.files.length = n at *
      generalize f.2.1.length = x at *
      generalize f.2.2.length = y at *
      clear b0 ho hat hf
      go_enter Tryz.func37, Tryz.ntmps37
      go_wp2_with (go_at_call 52; refine HA.out.mono ?_; rintro e w1 ⟨rfl, h1⟩; replace h1 := h1.symm; subst h1)
      go_quiet (fail)
      go_wp2
      go_ret2
      exact ⟨rfl, _, rfl⟩
theorem RefD.drew {w : World} {r : Nat} {v : Value} {s : St} (h : RefD w r v s) : RefD w.drew r v s := ⟨h.box, h.own⟩
theorem RefD.drewN {w : World} {r : Nat} {v : Value} {s : St} (h : RefD w r v s) (n : Nat) : RefD (w.drewN n) r v s := ⟨h.box, h.own⟩
/-- One file's texts set in its row. -/
theorem RefD.setFile {w : World} {r g n cap : Nat} {s s' : St} (h : RefD w r (.slice (some ⟨g, 0, none⟩) n cap) s) (hn : s.files.length = n) (i : Nat) (f : Fl) (hf : s.files[i]? = some f) (x y : List UInt8) (hs : s' = { s with files := s.files.modify i fun f => (f.1, x, y) }) :
    RefD ((w.setCell ⟨g, i * 3 + 1, none⟩ (.string (bs x))).setCell ⟨g, i * 3 + 2, none⟩ (.string (bs y))) r (.slice (some ⟨g, 0, none⟩) n cap) s' := by
  subst hn
  have hg := (h.own.lt g rfl).1
  have h1 := (h.own.stored (i * 3 + 1) (.string (bs x))).1
  have h2 := (h1.stored (i * 3 + 2) (.string (bs y))).1
  rw [flC_set _ i f hf] at h2
  subst hs
  refine ⟨(h.box.aside (by show r ≠ g; omega) _).aside (by show r ≠ g; omega) _, ?_⟩
  simp only
  rw [List.length_modify]
  exact h2
set_option maxRecDepth 100000 in
set_option maxHeartbeats 4000000 in
theorem refsync_any (nm : List UInt8) (r : Nat) (v : Value) (s : St) (w : World) (h : RefD w r v s) (hf : Fit s) :
    Calls Tryz.prog 41 #[.pointer (some ⟨r, 0, none⟩), .string (bs nm)] w fun e w' => e = .returned (.int .i64 (syncS nm s).1) ∧ RefD w' r v (syncS nm s).2 ∧ Only (Foot r v) w w' := by
  have HA := Lib.hid (refat_any nm r v s w h hf)
  have HB := Lib.hid (refburns_any r v s w h hf)
  obtain ⟨c0, _, _, c3, _⟩ := h.cells
  have H := Lib.hid h
  have Hlen := Lib.hid hf.len
  have Hu := Lib.hid hf.used
  clear h hf
  cases ho : s.off with
  | true =>
    have Hr : Hid (syncS nm s = (7, s)) := Lib.hid (by unfold syncS onS; rw [ho]; rfl)
    rw [ho] at c3
    rw [Hr.out]
    clear ho
    generalize atI nm s.files = z at HA
    go_enter Tryz.func41, Tryz.ntmps41
    go_wp2_with (go_at_call 52; refine HA.out.mono ?_; rintro e w1 ⟨rfl, h1⟩; replace h1 := h1.symm; subst h1)
    go_ret
    exact ⟨rfl, H.out, Only.refl _ _⟩
  | false =>
    rw [ho] at c3
    cases hat : atN nm s.files with
    | none =>
      have Hr : Hid (syncS nm s = (8, s)) := Lib.hid (by unfold syncS onS; rw [ho, hat]; rfl)
      rw [Hr.out]
      rw [atI_none hat] at HA
      clear ho hat
      go_enter Tryz.func41, Tryz.ntmps41
      go_wp2_with (go_at_call 52; refine HA.out.mono ?_; rintro e w1 ⟨rfl, h1⟩; replace h1 := h1.symm; subst h1)
      go_ret
      exact ⟨rfl, H.out, Only.refl _ _⟩
    | some i =>
      rw [atI_some hat] at HA
      obtain ⟨f, hf, _⟩ := atN_some hat
      obtain ⟨g, cap, rfl, hrg, hgl, _, d1, d2, hz⟩ := H.out.file hf
      cases hb : (burnS s).off with
      | true =>
        have Hr : Hid (syncS nm s = (7, burnS s)) := Lib.hid (by unfold syncS onS; rw [ho, hat, if_neg (by simp)]; simp only; rw [if_pos hb])
        rw [hb] at HB
        rw [Hr.out]
        clear ho hat hf hb hz
        go_enter Tryz.func41, Tryz.ntmps41
        go_wp2_with (first | (go_at_call 52; refine HA.out.mono ?_; rintro e w1 ⟨rfl, h1⟩; replace h1 := h1.symm; subst h1) | (go_at_call 51; refine HB.out.mono ?_; rintro e w2 ⟨rfl, hr2, ho2⟩))
        go_ret
        exact ⟨rfl, hr2, ho2.mono fun k hk => .inl hk⟩
      | false =>
        have Hr : Hid (syncS nm s = (0, { burnS s with files := s.files.modify i syncF })) := Lib.hid (by unfold syncS onS; rw [ho, hat, if_neg (by simp)]; simp only; rw [if_neg (by rw [hb]; simp)])
        rw [hb] at HB
        rw [Hr.out]
        have hlt : i < s.files.length := (List.getElem?_eq_some_iff.1 hf).1
        have hl6 : s.files.length ≤ 1000000 := Hlen.out
        have hus : sizeF f ≤ 1000000000 := Nat.le_trans (by have := used_drop s.files i f hf; have := used_le s.files (i + 1); omega) Hu.out
        have e1 : (bs f.2.1).size = f.2.1.length := bs_size _
        have e2 : (bs f.2.2).size = f.2.2.length := bs_size _
        unfold sizeF at hus
        have hlt' : (i : Int) < (s.files.length : Int) := by omega
        have h0 : (0 : Int) ≤ (i : Int) := by omega
        go_enter Tryz.func41, Tryz.ntmps41
        go_wp2_with (first | (go_at_call 52; refine HA.out.mono ?_; rintro e w1 ⟨rfl, h1⟩; replace h1 := h1.symm; subst h1) | (go_at_call 51; refine HB.out.mono ?_; rintro e w2 ⟨rfl, hr2, ho2⟩))
        obtain ⟨k0, _, _, _, _⟩ := hr2.cells
        obtain ⟨g', cap', hA, _, _, _, k1, k2, kz⟩ := hr2.file (i := i) (f := f) hf
        injection hA with hA1 hA2 hA3
        injection hA1 with hA1
        injection hA1 with hA1
        subst hA1
        have z1 := kz (i * 3 + 1)
        have z2 := kz (i * 3 + 2)
        have Hn : Hid (RefD (((w2.setCell ⟨g, i * 3 + 1, none⟩ (.string (bs (f.2.1 ++ f.2.2)))).setCell ⟨g, i * 3 + 2, none⟩ (.string (bs []))).drew) r (.slice (some ⟨g, 0, none⟩) s.files.length cap) { burnS s with files := s.files.modify i syncF }) := Lib.hid
          (hr2.setFile rfl i f hf (f.2.1 ++ f.2.2) [] (by rw [modify_at hf syncF (fun f' => (f'.1, f.2.1 ++ f.2.2, [])) rfl]; rfl)).drew
        have Ho : Hid (Only (Foot r (.slice (some ⟨g, 0, none⟩) s.files.length cap)) w (((w2.setCell ⟨g, i * 3 + 1, none⟩ (.string (bs (f.2.1 ++ f.2.2)))).setCell ⟨g, i * 3 + 2, none⟩ (.string (bs []))).drew)) := Lib.hid
          (((ho2.mono fun k hk => .inl hk).setCell ⟨g, i * 3 + 1, none⟩ _ (.inl (.inr rfl))).setCell ⟨g, i * 3 + 2, none⟩ _ (.inl (.inr rfl))).drew
        have b0 : bs [] = ({ data := #[] } : ByteArray) := by rw [bs_eq]
        rw [b0, ← bs_append] at Hn Ho
        subst hA3
        clear hz kz hr2 ho2 HA HB H ho hat hf hb d1 d2 c0 c3 Hr hA2
        generalize f.2.1.length = x at *
        generalize f.2.2.length = y at *
        generalize bs f.2.1 = F1 at *
        generalize bs f.2.2 = F2 at *
        go_region
        go_wp2
        go_ret
        exact ⟨rfl, Hn.out, Ho.out⟩
end Go.Proofs.YtmgbmphheagdmaaGreatDoor

/-
  The contract of the reference's Cut.
-/
namespace Go.Proofs.YtmgbmphheagdmaaGreatDoor
open Go.RowKit
set_option maxRecDepth 100000 in
set_option maxHeartbeats 4000000 in
theorem refcut_any (nm : List UInt8) (n : Int) (r : Nat) (v : Value) (s : St) (w : World) (h : RefD w r v s) (hf : Fit s) (hn1 : n ≤ 9223372036854775807) :
    Calls Tryz.prog 23 #[.pointer (some ⟨r, 0, none⟩), .string (bs nm), .int .i64 n] w fun e w' => e = .returned (.int .i64 (cutS nm n s).1) ∧ RefD w' r v (cutS nm n s).2 ∧ Only (Foot r v) w w' := by
  have HA := Lib.hid (refat_any nm r v s w h hf)
  have HB := Lib.hid (fun q => refburns_any r v s (w.drewN q) (h.drewN q) hf)
  obtain ⟨c0, _, _, c3, _⟩ := h.cells
  have H := Lib.hid h
  have Hlen := Lib.hid hf.len
  have Hu := Lib.hid hf.used
  clear h hf
  cases ho : s.off with
  | true =>
    have Hr : Hid (cutS nm n s = (7, s)) := Lib.hid (by unfold cutS onS; rw [ho]; rfl)
    rw [ho] at c3
    rw [Hr.out]
    clear ho
    generalize atI nm s.files = z at HA
    go_enter Tryz.func23, Tryz.ntmps23
    go_wp2_with (go_at_call 52; refine HA.out.mono ?_; rintro e w1 ⟨rfl, h1⟩; replace h1 := h1.symm; subst h1)
    go_ret
    exact ⟨rfl, H.out, Only.refl _ _⟩
  | false =>
    rw [ho] at c3
    cases hat : atN nm s.files with
    | none =>
      have Hr : Hid (cutS nm n s = (8, s)) := Lib.hid (by unfold cutS onS; rw [ho, hat]; rfl)
      rw [Hr.out]
      rw [atI_none hat] at HA
      clear ho hat
      go_enter Tryz.func23, Tryz.ntmps23
      go_wp2_with (go_at_call 52; refine HA.out.mono ?_; rintro e w1 ⟨rfl, h1⟩; replace h1 := h1.symm; subst h1)
      go_ret
      exact ⟨rfl, H.out, Only.refl _ _⟩
    | some i =>
      rw [atI_some hat] at HA
      obtain ⟨f, hf, _⟩ := atN_some hat
      obtain ⟨g, cap, rfl, hrg, hgl, _, d1, d2, hz⟩ := H.out.file hf
      have hlt : i < s.files.length := (List.getElem?_eq_some_iff.1 hf).1
      have hl6 : s.files.length ≤ 1000000 := Hlen.out
      have hus : sizeF f ≤ 1000000000 := Nat.le_trans (by have := used_drop s.files i f hf; have := used_le s.files (i + 1); omega) Hu.out
      have e1 : (bs f.2.1).size = f.2.1.length := bs_size _
      have e2 : (bs f.2.2).size = f.2.2.length := bs_size _
      have e3 : (bs f.2.1 ++ bs f.2.2).size = f.2.1.length + f.2.2.length := by rw [bs_append, bs_size, List.length_append]
      have hlt' : (i : Int) < (s.files.length : Int) := by omega
      have h0 : (0 : Int) ≤ (i : Int) := by omega
      have Hr : Hid (cutS nm n s = match (if n < 0 ∨ ((sizeF f : Nat) : Int) < n then some 1 else none : Option Int) with
          | some e => (e, s)
          | none => if (burnS s).off = true then (7, burnS s) else (0, { burnS s with files := s.files.modify i (cutF n.toNat) })) := Lib.hid (by
        unfold cutS onS cutBad; rw [ho, hat, if_neg (by simp)]; simp only; rw [hf]; rfl)
      by_cases hbad : n < 0 ∨ ((sizeF f : Nat) : Int) < n
      · rw [if_pos hbad] at Hr
        rw [Hr.out]
        have Hq := Lib.hid (fun q => H.out.drewN q)
        unfold sizeF at hus hbad
        rcases hbad with hb | hb
        · clear hat hf ho
          go_enter Tryz.func23, Tryz.ntmps23
          go_wp2_with (go_at_call 52; refine HA.out.mono ?_; rintro e w1 ⟨rfl, h1⟩; replace h1 := h1.symm; subst h1)
          go_quiet (fail)
          go_wp2
          go_ret
          exact ⟨rfl, Hq.out _, (Only.refl _ _).drewN _⟩
        · have hb' : (f.2.1.length : Int) + f.2.2.length < n := by omega
          have hb0 : ¬ n < 0 := by omega
          clear hat hf ho
          go_enter Tryz.func23, Tryz.ntmps23
          go_wp2_with (go_at_call 52; refine HA.out.mono ?_; rintro e w1 ⟨rfl, h1⟩; replace h1 := h1.symm; subst h1)
          go_quiet (fail)
          go_wp2
          go_ret
          exact ⟨rfl, Hq.out _, (Only.refl _ _).drewN _⟩
      · rw [if_neg hbad] at Hr
        unfold sizeF at hus hbad
        have hb0 : ¬ n < 0 := fun h => hbad (.inl h)
        have hb1 : ¬ (f.2.1.length : Int) + f.2.2.length < n := fun h => hbad (.inr (by omega))
        cases hb : (burnS s).off with
        | true =>
          rw [if_pos hb] at Hr
          rw [hb] at HB
          rw [Hr.out]
          clear ho hat hf hb hz
          go_enter Tryz.func23, Tryz.ntmps23
          go_wp2_with (first | (go_at_call 52; refine HA.out.mono ?_; rintro e w1 ⟨rfl, h1⟩; replace h1 := h1.symm; subst h1))
          go_quiet (fail)
          go_wp2_with (go_at_call 51; refine (HB.out _).mono ?_; rintro e w2 ⟨rfl, hr2, ho2⟩)
          go_ret
          exact ⟨rfl, hr2, ((Only.refl _ _).drewN _).trans (ho2.mono fun k hk => .inl hk)⟩
        | false =>
          rw [if_neg (by rw [hb]; simp)] at Hr
          rw [hb] at HB
          rw [Hr.out]
          obtain ⟨m, rfl⟩ : ∃ m : Nat, n = (m : Int) := ⟨n.toNat, by omega⟩
          have hmx : m ≤ f.2.1.length + f.2.2.length := by omega
          rw [Int.toNat_natCast]
          go_enter Tryz.func23, Tryz.ntmps23
          go_wp2_with (first | (go_at_call 52; refine HA.out.mono ?_; rintro e w1 ⟨rfl, h1⟩; replace h1 := h1.symm; subst h1))
          go_quiet (fail)
          go_wp2_with fail
          refine (HB.out _).mono ?_
          rintro e w2 ⟨rfl, hr2, ho2⟩
          obtain ⟨k0, _, _, _, _⟩ := hr2.cells
          obtain ⟨g', cap', hA, _, _, _, k1, k2, kz⟩ := hr2.file (i := i) (f := f) hf
          injection hA with hA1 hA2 hA3
          injection hA1 with hA1
          injection hA1 with hA1
          subst hA1 hA3
          have z1 := kz (i * 3 + 1)
          have z2 := kz (i * 3 + 2)
          obtain ⟨k, hk⟩ : ∃ k, k = min m f.2.1.length := ⟨_, rfl⟩
          have hk1 : k ≤ m := by omega
          have X1 : Hid ((bs f.2.1 ++ bs f.2.2).extract 0 k = bs (cutF m f).2.1) := Lib.hid (by rw [bs_append, bs_extract, hk]; rfl)
          have X2 : Hid ((bs f.2.1 ++ bs f.2.2).extract k m = bs (cutF m f).2.2) := Lib.hid (by rw [bs_append, bs_extract, hk]; unfold cutF; simp only; rw [List.drop_take])
          have hmod : s.files.modify i (cutF m) = (burnS s).files.modify i fun f' => (f'.1, (cutF m f).2.1, (cutF m f).2.2) := modify_at hf _ _ rfl
          have Hn : Hid (RefD (((w2.setCell ⟨g, i * 3 + 1, none⟩ (.string (bs (cutF m f).2.1))).setCell ⟨g, i * 3 + 2, none⟩ (.string (bs (cutF m f).2.2))).drew) r (.slice (some ⟨g, 0, none⟩) s.files.length cap) { burnS s with files := s.files.modify i (cutF m) }) := Lib.hid
            (hr2.setFile rfl i f hf (cutF m f).2.1 (cutF m f).2.2 (by rw [hmod])).drew
          have Ho : Hid (Only (Foot r (.slice (some ⟨g, 0, none⟩) s.files.length cap)) w (((w2.setCell ⟨g, i * 3 + 1, none⟩ (.string (bs (cutF m f).2.1))).setCell ⟨g, i * 3 + 2, none⟩ (.string (bs (cutF m f).2.2))).drew)) := Lib.hid
            (((((Only.refl _ _).drewN _).trans (ho2.mono fun k hk => .inl hk)).setCell ⟨g, i * 3 + 1, none⟩ _ (.inl (.inr rfl))).setCell ⟨g, i * 3 + 2, none⟩ _ (.inl (.inr rfl))).drew
          rw [← X1.out, ← X2.out] at Hn Ho
          have hmin : ∀ W, (Builtin.min_ #[3, 3] 3 #[.int .i64 (m : Int), .int .i64 (f.2.1.length : Int)]).run Tryz.prog W = .ok (.int .i64 (k : Int)) W := fun W => by
            rw [hk]
            by_cases hle : f.2.1.length < m
            · rw [Nat.min_eq_right (by omega)]; simp [Builtin.min_, Builtin.min2, hle]
            · rw [Nat.min_eq_left (by omega)]; simp [Builtin.min_, Builtin.min2, hle]
          have hkx : k ≤ f.2.1.length + f.2.2.length := by omega
          clear hz kz hr2 ho2 HA HB H ho hat hf hb d1 d2 c0 c3 Hr hA2 hmod hk X1 X2
          generalize f.2.1.length = x at *
          generalize f.2.2.length = y at *
          generalize bs f.2.1 = F1 at *
          generalize bs f.2.2 = F2 at *
          go_wp2
          go_region
          go_wp2
          go_ret
          exact ⟨rfl, Hn.out, Ho.out⟩
end Go.Proofs.YtmgbmphheagdmaaGreatDoor
