/-
  The contracts of the reference's Read, Sync, Cut, Remove.
-/
import Derived.Test.YtbgfkjafablfiaaTC
import Derived.BigRegion
namespace Go.Proofs.Ytbgfkjafablfiaa
open Go.RowKit

theorem atI_none {nm : List UInt8} {l : List Fl} (h : atN nm l = none) : atI nm l = -1 := by unfold atI; rw [h]
theorem atI_some {nm : List UInt8} {l : List Fl} {i : Nat} (h : atN nm l = some i) : atI nm l = (i : Int) := by unfold atI; rw [h]

set_option maxRecDepth 100000 in
set_option maxHeartbeats 2000000 in
theorem refread_any (nm : List UInt8) (r : Nat) (v : Value) (s : St) (w : World) (h : RefD w r v s) (hf : Fit s) :
    Calls Try.prog 29 #[.pointer (some ⟨r, 0, none⟩), .string (bs nm)] w fun e w' => e = .returned (.tuple #[.string (bs (readS nm s).1), .int .i64 (readS nm s).2]) ∧ ∃ q, w' = w.drewN q := by
  have HA := Lib.hid (refat_any nm r v s w h hf)
  obtain ⟨c0, _, _, c3, _⟩ := h.cells
  have b0 : bs [] = ({ data := #[] } : ByteArray) := by rw [bs_eq]
  have H := Lib.hid h
  have Hlen := Lib.hid hf.len
  have Hu := Lib.hid hf.used
  clear h hf
  cases ho : s.off with
  | true =>
    have Hr : Hid (readS nm s = ([], 7)) := Lib.hid (by unfold readS; rw [ho]; rfl)
    rw [ho] at c3
    rw [Hr.out, b0]
    clear b0 ho
    generalize atI nm s.files = z at HA
    go_enter Try.func29, Try.ntmps29
    go_wp2_with (go_at_call 41; refine HA.out.mono ?_; rintro e w1 ⟨rfl, h1⟩; replace h1 := h1.symm; subst h1)
    go_ret2
    exact ⟨rfl, 0, rfl⟩
  | false =>
    rw [ho] at c3
    cases hat : atN nm s.files with
    | none =>
      have Hr : Hid (readS nm s = ([], 8)) := Lib.hid (by unfold readS; rw [ho, hat]; rfl)
      rw [Hr.out, b0]
      rw [atI_none hat] at HA
      clear b0 ho hat
      go_enter Try.func29, Try.ntmps29
      go_wp2_with (go_at_call 41; refine HA.out.mono ?_; rintro e w1 ⟨rfl, h1⟩; replace h1 := h1.symm; subst h1)
      go_ret2
      exact ⟨rfl, 0, rfl⟩
    | some i =>
      obtain ⟨f, hf, _⟩ := atN_some hat
      have Hr : Hid (readS nm s = (f.2.1 ++ f.2.2, 0)) := Lib.hid (by unfold readS; rw [ho, hat, if_neg (by simp)]; simp only; rw [hf])
      rw [Hr.out, ← bs_append]
      rw [atI_some hat] at HA
      obtain ⟨g, cap, rfl, hrg, hgl, _, d1, d2, _⟩ := H.out.file hf
      have hlt : i < s.files.length := (List.getElem?_eq_some_iff.1 hf).1
      have hl6 : s.files.length ≤ 1000000 := Hlen.out
      have hus : sizeF f ≤ 1000000000 := Nat.le_trans (by have := used_drop s.files i f hf; have := used_le s.files (i + 1); omega) Hu.out
      have e1 : (bs f.2.1).size = f.2.1.length := bs_size _
      have e2 : (bs f.2.2).size = f.2.2.length := bs_size _
      unfold sizeF at hus
      have hlt' : (i : Int) < (s.files.length : Int) := by omega
      have h0 : (0 : Int) ≤ (i : Int) := by omega
      generalize s.files.length = n at *
      generalize f.2.1.length = x at *
      generalize f.2.2.length = y at *
      clear b0 ho hat hf
      go_enter Try.func29, Try.ntmps29
      go_wp2_with (go_at_call 41; refine HA.out.mono ?_; rintro e w1 ⟨rfl, h1⟩; replace h1 := h1.symm; subst h1)
      go_quiet (fail)
      go_wp2
      go_ret2
      exact ⟨rfl, _, rfl⟩

theorem modify_at {l : List Fl} {i : Nat} {f : Fl} (h : l[i]? = some f) (g g' : Fl → Fl) (e : g f = g' f) : l.modify i g = l.modify i g' := by
  apply List.ext_getElem?
  intro j
  rw [List.getElem?_modify, List.getElem?_modify]
  by_cases hj : i = j
  · subst hj; rw [h]; simp [e]
  · simp [hj]
theorem RefD.drew {w : World} {r : Nat} {v : Value} {s : St} (h : RefD w r v s) : RefD w.drew r v s := ⟨h.box, h.own⟩
theorem RefD.drewN {w : World} {r : Nat} {v : Value} {s : St} (h : RefD w r v s) (n : Nat) : RefD (w.drewN n) r v s := ⟨h.box, h.own⟩
/-- One file's texts set in its row. -/
theorem RefD.setFile {w : World} {r g n cap : Nat} {s s' : St} (h : RefD w r (.slice (some ⟨g, 0, none⟩) n cap) s) (hn : s.files.length = n) (i : Nat) (f : Fl) (hf : s.files[i]? = some f) (x y : List UInt8) (hs : s' = { s with files := s.files.modify i fun f => (f.1, x, y) }) :
    RefD ((w.setCell ⟨g, i * 3 + 1, none⟩ (.string (bs x))).setCell ⟨g, i * 3 + 2, none⟩ (.string (bs y))) r (.slice (some ⟨g, 0, none⟩) n cap) s' := by
  subst hn
  have hg := (h.own.lt g rfl).1
  have h1 := (h.own.stored (i * 3 + 1) (.string (bs x))).1
  have h2 := (h1.stored (i * 3 + 2) (.string (bs y))).1
  rw [flC_set _ i f hf] at h2
  subst hs
  refine ⟨(h.box.aside (by show r ≠ g; omega) _).aside (by show r ≠ g; omega) _, ?_⟩
  simp only
  rw [List.length_modify]
  exact h2

set_option maxRecDepth 100000 in
set_option maxHeartbeats 4000000 in
theorem refsync_any (nm : List UInt8) (r : Nat) (v : Value) (s : St) (w : World) (h : RefD w r v s) (hf : Fit s) :
    Calls Try.prog 26 #[.pointer (some ⟨r, 0, none⟩), .string (bs nm)] w fun e w' => e = .returned (.int .i64 (syncS nm s).1) ∧ RefD w' r v (syncS nm s).2 ∧ Only (Foot r v) w w' := by
  have HA := Lib.hid (refat_any nm r v s w h hf)
  have HB := Lib.hid (refburns_any r v s w h hf)
  obtain ⟨c0, _, _, c3, _⟩ := h.cells
  have H := Lib.hid h
  have Hlen := Lib.hid hf.len
  have Hu := Lib.hid hf.used
  clear h hf
  cases ho : s.off with
  | true =>
    have Hr : Hid (syncS nm s = (7, s)) := Lib.hid (by unfold syncS onS; rw [ho]; rfl)
    rw [ho] at c3
    rw [Hr.out]
    clear ho
    generalize atI nm s.files = z at HA
    go_enter Try.func26, Try.ntmps26
    go_wp2_with (go_at_call 41; refine HA.out.mono ?_; rintro e w1 ⟨rfl, h1⟩; replace h1 := h1.symm; subst h1)
    go_ret
    exact ⟨rfl, H.out, Only.refl _ _⟩
  | false =>
    rw [ho] at c3
    cases hat : atN nm s.files with
    | none =>
      have Hr : Hid (syncS nm s = (8, s)) := Lib.hid (by unfold syncS onS; rw [ho, hat]; rfl)
      rw [Hr.out]
      rw [atI_none hat] at HA
      clear ho hat
      go_enter Try.func26, Try.ntmps26
      go_wp2_with (go_at_call 41; refine HA.out.mono ?_; rintro e w1 ⟨rfl, h1⟩; replace h1 := h1.symm; subst h1)
      go_ret
      exact ⟨rfl, H.out, Only.refl _ _⟩
    | some i =>
      rw [atI_some hat] at HA
      obtain ⟨f, hf, _⟩ := atN_some hat
      obtain ⟨g, cap, rfl, hrg, hgl, _, d1, d2, hz⟩ := H.out.file hf
      cases hb : (burnS s).off with
      | true =>
        have Hr : Hid (syncS nm s = (7, burnS s)) := Lib.hid (by unfold syncS onS; rw [ho, hat, if_neg (by simp)]; simp only; rw [if_pos hb])
        rw [hb] at HB
        rw [Hr.out]
        clear ho hat hf hb hz
        go_enter Try.func26, Try.ntmps26
        go_wp2_with (first | (go_at_call 41; refine HA.out.mono ?_; rintro e w1 ⟨rfl, h1⟩; replace h1 := h1.symm; subst h1) | (go_at_call 40; refine HB.out.mono ?_; rintro e w2 ⟨rfl, hr2, ho2⟩))
        go_ret
        exact ⟨rfl, hr2, ho2.mono fun k hk => .inl hk⟩
      | false =>
        have Hr : Hid (syncS nm s = (0, { burnS s with files := s.files.modify i syncF })) := Lib.hid (by unfold syncS onS; rw [ho, hat, if_neg (by simp)]; simp only; rw [if_neg (by rw [hb]; simp)])
        rw [hb] at HB
        rw [Hr.out]
        have hlt : i < s.files.length := (List.getElem?_eq_some_iff.1 hf).1
        have hl6 : s.files.length ≤ 1000000 := Hlen.out
        have hus : sizeF f ≤ 1000000000 := Nat.le_trans (by have := used_drop s.files i f hf; have := used_le s.files (i + 1); omega) Hu.out
        have e1 : (bs f.2.1).size = f.2.1.length := bs_size _
        have e2 : (bs f.2.2).size = f.2.2.length := bs_size _
        unfold sizeF at hus
        have hlt' : (i : Int) < (s.files.length : Int) := by omega
        have h0 : (0 : Int) ≤ (i : Int) := by omega
        go_enter Try.func26, Try.ntmps26
        go_wp2_with (first | (go_at_call 41; refine HA.out.mono ?_; rintro e w1 ⟨rfl, h1⟩; replace h1 := h1.symm; subst h1) | (go_at_call 40; refine HB.out.mono ?_; rintro e w2 ⟨rfl, hr2, ho2⟩))
        obtain ⟨k0, _, _, _, _⟩ := hr2.cells
        obtain ⟨g', cap', hA, _, _, _, k1, k2, kz⟩ := hr2.file (i := i) (f := f) hf
        injection hA with hA1 hA2 hA3
        injection hA1 with hA1
        injection hA1 with hA1
        subst hA1
        have z1 := kz (i * 3 + 1)
        have z2 := kz (i * 3 + 2)
        have Hn : Hid (RefD (((w2.setCell ⟨g, i * 3 + 1, none⟩ (.string (bs (f.2.1 ++ f.2.2)))).setCell ⟨g, i * 3 + 2, none⟩ (.string (bs []))).drew) r (.slice (some ⟨g, 0, none⟩) s.files.length cap) { burnS s with files := s.files.modify i syncF }) := Lib.hid
          (hr2.setFile rfl i f hf (f.2.1 ++ f.2.2) [] (by rw [modify_at hf syncF (fun f' => (f'.1, f.2.1 ++ f.2.2, [])) rfl]; rfl)).drew
        have Ho : Hid (Only (Foot r (.slice (some ⟨g, 0, none⟩) s.files.length cap)) w (((w2.setCell ⟨g, i * 3 + 1, none⟩ (.string (bs (f.2.1 ++ f.2.2)))).setCell ⟨g, i * 3 + 2, none⟩ (.string (bs []))).drew)) := Lib.hid
          (((ho2.mono fun k hk => .inl hk).setCell ⟨g, i * 3 + 1, none⟩ _ (.inl (.inr rfl))).setCell ⟨g, i * 3 + 2, none⟩ _ (.inl (.inr rfl))).drew
        have b0 : bs [] = ({ data := #[] } : ByteArray) := by rw [bs_eq]
        rw [b0, ← bs_append] at Hn Ho
        subst hA3
        clear hz kz hr2 ho2 HA HB H ho hat hf hb d1 d2 c0 c3 Hr hA2
        generalize f.2.1.length = x at *
        generalize f.2.2.length = y at *
        generalize bs f.2.1 = F1 at *
        generalize bs f.2.2 = F2 at *
        go_region
        go_wp2
        go_ret
        exact ⟨rfl, Hn.out, Ho.out⟩
end Go.Proofs.Ytbgfkjafablfiaa
