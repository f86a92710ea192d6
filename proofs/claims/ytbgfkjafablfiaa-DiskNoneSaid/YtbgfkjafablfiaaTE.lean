/-
  The contract of the reference's Cut.
-/
import Derived.Test.YtbgfkjafablfiaaTD
namespace Go.Proofs.Ytbgfkjafablfiaa
open Go.RowKit

theorem bs_extract (l : List UInt8) (a b : Nat) : (bs l).extract a b = bs ((l.drop a).take (b - a)) := by
  apply bs_lit
  rw [bl_extract, bl_bs]

set_option maxRecDepth 100000 in
set_option maxHeartbeats 4000000 in
theorem refcut_any (nm : List UInt8) (n : Int) (r : Nat) (v : Value) (s : St) (w : World) (h : RefD w r v s) (hf : Fit s) (hn1 : n ≤ 9223372036854775807) :
    Calls Try.prog 27 #[.pointer (some ⟨r, 0, none⟩), .string (bs nm), .int .i64 n] w fun e w' => e = .returned (.int .i64 (cutS nm n s).1) ∧ RefD w' r v (cutS nm n s).2 ∧ Only (Foot r v) w w' := by
  have HA := Lib.hid (refat_any nm r v s w h hf)
  have HB := Lib.hid (fun q => refburns_any r v s (w.drewN q) (h.drewN q) hf)
  obtain ⟨c0, _, _, c3, _⟩ := h.cells
  have H := Lib.hid h
  have Hlen := Lib.hid hf.len
  have Hu := Lib.hid hf.used
  clear h hf
  cases ho : s.off with
  | true =>
    have Hr : Hid (cutS nm n s = (7, s)) := Lib.hid (by unfold cutS onS; rw [ho]; rfl)
    rw [ho] at c3
    rw [Hr.out]
    clear ho
    generalize atI nm s.files = z at HA
    go_enter Try.func27, Try.ntmps27
    go_wp2_with (go_at_call 41; refine HA.out.mono ?_; rintro e w1 ⟨rfl, h1⟩; replace h1 := h1.symm; subst h1)
    go_ret
    exact ⟨rfl, H.out, Only.refl _ _⟩
  | false =>
    rw [ho] at c3
    cases hat : atN nm s.files with
    | none =>
      have Hr : Hid (cutS nm n s = (8, s)) := Lib.hid (by unfold cutS onS; rw [ho, hat]; rfl)
      rw [Hr.out]
      rw [atI_none hat] at HA
      clear ho hat
      go_enter Try.func27, Try.ntmps27
      go_wp2_with (go_at_call 41; refine HA.out.mono ?_; rintro e w1 ⟨rfl, h1⟩; replace h1 := h1.symm; subst h1)
      go_ret
      exact ⟨rfl, H.out, Only.refl _ _⟩
    | some i =>
      rw [atI_some hat] at HA
      obtain ⟨f, hf, _⟩ := atN_some hat
      obtain ⟨g, cap, rfl, hrg, hgl, _, d1, d2, hz⟩ := H.out.file hf
      have hlt : i < s.files.length := (List.getElem?_eq_some_iff.1 hf).1
      have hl6 : s.files.length ≤ 1000000 := Hlen.out
      have hus : sizeF f ≤ 1000000000 := Nat.le_trans (by have := used_drop s.files i f hf; have := used_le s.files (i + 1); omega) Hu.out
      have e1 : (bs f.2.1).size = f.2.1.length := bs_size _
      have e2 : (bs f.2.2).size = f.2.2.length := bs_size _
      have e3 : (bs f.2.1 ++ bs f.2.2).size = f.2.1.length + f.2.2.length := by rw [bs_append, bs_size, List.length_append]
      have hlt' : (i : Int) < (s.files.length : Int) := by omega
      have h0 : (0 : Int) ≤ (i : Int) := by omega
      have Hr : Hid (cutS nm n s = match (if n < 0 ∨ ((sizeF f : Nat) : Int) < n then some 1 else none : Option Int) with
          | some e => (e, s)
          | none => if (burnS s).off = true then (7, burnS s) else (0, { burnS s with files := s.files.modify i (cutF n.toNat) })) := Lib.hid (by
        unfold cutS onS cutBad; rw [ho, hat, if_neg (by simp)]; simp only; rw [hf]; rfl)
      by_cases hbad : n < 0 ∨ ((sizeF f : Nat) : Int) < n
      · rw [if_pos hbad] at Hr
        rw [Hr.out]
        have Hq := Lib.hid (fun q => H.out.drewN q)
        unfold sizeF at hus hbad
        rcases hbad with hb | hb
        · clear hat hf ho
          go_enter Try.func27, Try.ntmps27
          go_wp2_with (go_at_call 41; refine HA.out.mono ?_; rintro e w1 ⟨rfl, h1⟩; replace h1 := h1.symm; subst h1)
          go_quiet (fail)
          go_wp2
          go_ret
          exact ⟨rfl, Hq.out _, (Only.refl _ _).drewN _⟩
        · have hb' : (f.2.1.length : Int) + f.2.2.length < n := by omega
          have hb0 : ¬ n < 0 := by omega
          clear hat hf ho
          go_enter Try.func27, Try.ntmps27
          go_wp2_with (go_at_call 41; refine HA.out.mono ?_; rintro e w1 ⟨rfl, h1⟩; replace h1 := h1.symm; subst h1)
          go_quiet (fail)
          go_wp2
          go_ret
          exact ⟨rfl, Hq.out _, (Only.refl _ _).drewN _⟩
      · rw [if_neg hbad] at Hr
        unfold sizeF at hus hbad
        have hb0 : ¬ n < 0 := fun h => hbad (.inl h)
        have hb1 : ¬ (f.2.1.length : Int) + f.2.2.length < n := fun h => hbad (.inr (by omega))
        cases hb : (burnS s).off with
        | true =>
          rw [if_pos hb] at Hr
          rw [hb] at HB
          rw [Hr.out]
          clear ho hat hf hb hz
          go_enter Try.func27, Try.ntmps27
          go_wp2_with (first | (go_at_call 41; refine HA.out.mono ?_; rintro e w1 ⟨rfl, h1⟩; replace h1 := h1.symm; subst h1))
          go_quiet (fail)
          go_wp2_with (go_at_call 40; refine (HB.out _).mono ?_; rintro e w2 ⟨rfl, hr2, ho2⟩)
          go_ret
          exact ⟨rfl, hr2, ((Only.refl _ _).drewN _).trans (ho2.mono fun k hk => .inl hk)⟩
        | false =>
          rw [if_neg (by rw [hb]; simp)] at Hr
          rw [hb] at HB
          rw [Hr.out]
          obtain ⟨m, rfl⟩ : ∃ m : Nat, n = (m : Int) := ⟨n.toNat, by omega⟩
          have hmx : m ≤ f.2.1.length + f.2.2.length := by omega
          rw [Int.toNat_natCast]
          go_enter Try.func27, Try.ntmps27
          go_wp2_with (first | (go_at_call 41; refine HA.out.mono ?_; rintro e w1 ⟨rfl, h1⟩; replace h1 := h1.symm; subst h1))
          go_quiet (fail)
          go_wp2_with fail
          refine (HB.out _).mono ?_
          rintro e w2 ⟨rfl, hr2, ho2⟩
          obtain ⟨k0, _, _, _, _⟩ := hr2.cells
          obtain ⟨g', cap', hA, _, _, _, k1, k2, kz⟩ := hr2.file (i := i) (f := f) hf
          injection hA with hA1 hA2 hA3
          injection hA1 with hA1
          injection hA1 with hA1
          subst hA1 hA3
          have z1 := kz (i * 3 + 1)
          have z2 := kz (i * 3 + 2)
          obtain ⟨k, hk⟩ : ∃ k, k = min m f.2.1.length := ⟨_, rfl⟩
          have hk1 : k ≤ m := by omega
          have X1 : Hid ((bs f.2.1 ++ bs f.2.2).extract 0 k = bs (cutF m f).2.1) := Lib.hid (by rw [bs_append, bs_extract, hk]; rfl)
          have X2 : Hid ((bs f.2.1 ++ bs f.2.2).extract k m = bs (cutF m f).2.2) := Lib.hid (by rw [bs_append, bs_extract, hk]; unfold cutF; simp only; rw [List.drop_take])
          have hmod : s.files.modify i (cutF m) = (burnS s).files.modify i fun f' => (f'.1, (cutF m f).2.1, (cutF m f).2.2) := modify_at hf _ _ rfl
          have Hn : Hid (RefD (((w2.setCell ⟨g, i * 3 + 1, none⟩ (.string (bs (cutF m f).2.1))).setCell ⟨g, i * 3 + 2, none⟩ (.string (bs (cutF m f).2.2))).drew) r (.slice (some ⟨g, 0, none⟩) s.files.length cap) { burnS s with files := s.files.modify i (cutF m) }) := Lib.hid
            (hr2.setFile rfl i f hf (cutF m f).2.1 (cutF m f).2.2 (by rw [hmod])).drew
          have Ho : Hid (Only (Foot r (.slice (some ⟨g, 0, none⟩) s.files.length cap)) w (((w2.setCell ⟨g, i * 3 + 1, none⟩ (.string (bs (cutF m f).2.1))).setCell ⟨g, i * 3 + 2, none⟩ (.string (bs (cutF m f).2.2))).drew)) := Lib.hid
            (((((Only.refl _ _).drewN _).trans (ho2.mono fun k hk => .inl hk)).setCell ⟨g, i * 3 + 1, none⟩ _ (.inl (.inr rfl))).setCell ⟨g, i * 3 + 2, none⟩ _ (.inl (.inr rfl))).drew
          rw [← X1.out, ← X2.out] at Hn Ho
          have hmin : ∀ W, (Builtin.min_ #[3, 3] 3 #[.int .i64 (m : Int), .int .i64 (f.2.1.length : Int)]).run Try.prog W = .ok (.int .i64 (k : Int)) W := fun W => by
            rw [hk]
            by_cases hle : f.2.1.length < m
            · rw [Nat.min_eq_right (by omega)]; simp [Builtin.min_, Builtin.min2, hle]
            · rw [Nat.min_eq_left (by omega)]; simp [Builtin.min_, Builtin.min2, hle]
          have hkx : k ≤ f.2.1.length + f.2.2.length := by omega
          clear hz kz hr2 ho2 HA HB H ho hat hf hb d1 d2 c0 c3 Hr hA2 hmod hk X1 X2
          generalize f.2.1.length = x at *
          generalize f.2.2.length = y at *
          generalize bs f.2.1 = F1 at *
          generalize bs f.2.2 = F2 at *
          go_wp2
          go_region
          go_wp2
          go_ret
          exact ⟨rfl, Hn.out, Ho.out⟩
end Go.Proofs.Ytbgfkjafablfiaa
