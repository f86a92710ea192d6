/-
  The contract of the reference's Remove.
-/
import Derived.Test.YtmgbmphheagdmaaGreatDoorRS
namespace Go.Proofs.YtmgbmphheagdmaaGreatDoor
open Go.RowKit
/-- What a call of the reference's disk leaves. -/
def RefRet (x : Value) (r : Nat) (v : Value) (s' : St) (w : World) (e : Ending) (w' : World) : Prop :=
  e = .returned x ∧ ∃ v', RefD w' r v' s' ∧ Only (Foot r v) w w' ∧ ∀ k, v'.ownBlock = some k → v.ownBlock = some k ∨ w.heap.size ≤ k
theorem infoF : (Tryz.prog.info? 80).map (fun i => (i.zero, i.size, i.bytes)) = some (some (.agg #[.string { data := #[] }, .string { data := #[] }, .string { data := #[] }]), 3, 48) := by kernel_rfl
theorem RefD.below {w w' : World} {r : Nat} {v : Value} {s : St} (h : RefD w r v s) (hb : Below w.heap.size w w') : RefD w' r v s :=
  ⟨h.box.below hb h.size, own_below h.own hb⟩
/-- The beginning, and what stands from a place on, of the disk's row. -/
theorem RefD.first {w : World} {r : Nat} {A : Option Addr} {n cap : Nat} {s : St} (h : RefD w r (.slice A n cap) s) (i : Nat) : RowAt w A (flC (s.files.take i)) := by
  obtain ⟨A', cap', e, hr⟩ := own_row h.own
  injection e with e1 e2 e3
  subst e1
  intro j x hx
  rw [← flC_take, List.getElem?_take] at hx
  split at hx
  · exact hr j x hx
  · cases hx
theorem RefD.last {w : World} {r g n cap : Nat} {s : St} (h : RefD w r (.slice (some ⟨g, 0, none⟩) n cap) s) (i : Nat) : RowAt w (some ⟨g, i * 3, none⟩) (flC (s.files.drop i)) := by
  obtain ⟨A', cap', e, hr⟩ := own_row h.own
  injection e with e1 e2 e3
  subst e1
  intro j x hx
  rw [← flC_drop, List.getElem?_drop] at hx
  obtain ⟨b, off, hA, hl, hc⟩ := hr _ x hx
  injection hA with hA
  injection hA with h1 h2
  subst h1 h2
  exact ⟨g, i * 3, rfl, hl, by rw [Nat.zero_add] at hc; exact hc⟩
/-- The disk with another row of files. -/
theorem RefD.setRow {w : World} {r B : Nat} {v v' : Value} {s s' : St} (h : RefD w r v s) (hB : r < B) {n : Nat} (hl : s'.files.length = n) (hown : w.ownsRow B 80 3 v' n (flC s'.files)) (e1 : s'.room = s.room) (e2 : s'.fuse = s.fuse) (e3 : s'.off = s.off) : RefD (w.setCell ⟨r, 0, none⟩ v') r v' s' := by
  subst hl
  refine ⟨?_, ?_⟩
  · have := h.box.set 0 v'
    rw [e1, e2, e3]; exact this
  · exact ownsRow_setCell_below (own_base hown hB) (a := ⟨r, 0, none⟩) (Nat.lt_succ_self r) v'
/-- As the model has the address of what stands from a place on. -/
theorem RefD.rest {w : World} {r g n cap : Nat} {s : St} (h : RefD w r (.slice (some ⟨g, 0, none⟩) n cap) s) (i : Nat) (hc : s.files.length ≤ cap) : RowAt w (if cap = i then some ⟨g, 0, none⟩ else some ⟨g, i * 3, none⟩) (flC (s.files.drop i)) := by
  by_cases e : cap = i
  · rw [if_pos e, List.drop_of_length_le (by omega)]
    intro j x hx
    simp [flC] at hx
  · rw [if_neg e]; exact h.last i
set_option maxRecDepth 100000 in
set_option maxHeartbeats 4000000 in
theorem refremove_any (nm : List UInt8) (r : Nat) (v : Value) (s : St) (w : World) (h : RefD w r v s) (hf : Fit s) :
    Calls Tryz.prog 39 #[.pointer (some ⟨r, 0, none⟩), .string (bs nm)] w (RefRet (.int .i64 (removeS nm s).1) r v (removeS nm s).2 w) := by
  obtain ⟨i0, hi0, hz0, hz1, hz2⟩ := info_parts infoF
  have HA := Lib.hid (refat_any nm r v s w h hf)
  have HB := Lib.hid (refburns_any r v s w h hf)
  obtain ⟨c0, _, _, c3, _⟩ := h.cells
  have H := Lib.hid h
  have Hlen := Lib.hid hf.len
  clear h hf
  cases ho : s.off with
  | true =>
    have Hr : Hid (removeS nm s = (7, s)) := Lib.hid (by unfold removeS onS; rw [ho]; rfl)
    rw [ho] at c3
    rw [Hr.out]
    clear ho
    generalize atI nm s.files = z at HA
    go_enter Tryz.func39, Tryz.ntmps39
    go_wp2_with (go_at_call 52; refine HA.out.mono ?_; rintro e w1 ⟨rfl, h1⟩; replace h1 := h1.symm; subst h1)
    go_ret
    exact ⟨rfl, v, H.out, Only.refl _ _, fun k hk => .inl hk⟩
  | false =>
    rw [ho] at c3
    cases hat : atN nm s.files with
    | none =>
      have Hr : Hid (removeS nm s = (8, s)) := Lib.hid (by unfold removeS onS; rw [ho, hat]; rfl)
      rw [Hr.out]
      rw [atI_none hat] at HA
      clear ho hat
      go_enter Tryz.func39, Tryz.ntmps39
      go_wp2_with (go_at_call 52; refine HA.out.mono ?_; rintro e w1 ⟨rfl, h1⟩; replace h1 := h1.symm; subst h1)
      go_ret
      exact ⟨rfl, v, H.out, Only.refl _ _, fun k hk => .inl hk⟩
    | some i =>
      rw [atI_some hat] at HA
      obtain ⟨f, hf, _⟩ := atN_some hat
      obtain ⟨g, cap, rfl, hrg, hgl, _, _, _, _⟩ := H.out.file hf
      cases hb : (burnS s).off with
      | true =>
        have Hr : Hid (removeS nm s = (7, burnS s)) := Lib.hid (by unfold removeS onS; rw [ho, hat, if_neg (by simp)]; simp only; rw [if_pos hb])
        rw [hb] at HB
        rw [Hr.out]
        clear ho hat hf hb
        go_enter Tryz.func39, Tryz.ntmps39
        go_wp2_with (first | (go_at_call 52; refine HA.out.mono ?_; rintro e w1 ⟨rfl, h1⟩; replace h1 := h1.symm; subst h1) | (go_at_call 51; refine HB.out.mono ?_; rintro e w2 ⟨rfl, hr2, ho2⟩))
        go_ret
        exact ⟨rfl, _, hr2, ho2.mono fun k hk => .inl hk, fun k hk => .inl hk⟩
      | false =>
        have Hr : Hid (removeS nm s = (0, { burnS s with files := s.files.take i ++ s.files.drop (i + 1) })) := Lib.hid (by unfold removeS onS; rw [ho, hat, if_neg (by simp)]; simp only; rw [if_neg (by rw [hb]; simp)])
        rw [hb] at HB
        rw [Hr.out]
        have hlt : i < s.files.length := (List.getElem?_eq_some_iff.1 hf).1
        have hl6 : s.files.length ≤ 1000000 := Hlen.out
        have hcap : s.files.length ≤ cap := by
          rcases H.out.own.2 with ⟨hv, _⟩ | ⟨g', cap', cur, hv, _, _, hc, _⟩
          · cases hv
          · injection hv with _ _ e3; omega
        have hlt' : (i : Int) < (s.files.length : Int) := by omega
        have h0 : (0 : Int) ≤ (i : Int) := by omega
        go_enter Tryz.func39, Tryz.ntmps39
        go_wp2_with fail
        refine HA.out.mono ?_
        rintro e w1 ⟨rfl, h1⟩
        replace h1 := h1.symm
        subst h1
        go_wp2_with fail
        refine HB.out.mono ?_
        rintro e w2 ⟨rfl, hr2, ho2⟩
        obtain ⟨k0, _, _, _, hkz⟩ := hr2.cells
        have kz := hkz 0
        clear hkz
        have Hr2 := Lib.hid hr2
        have Ho2 := Lib.hid ho2
        have Hsz := Lib.hid hr2.size
        have Ha := Lib.hid ((Below.refl w2.heap.size w2).alloc (Nat.le_refl _) (.cells #[] 80))
        have Hrow1 := Lib.hid ((hr2.first i).below Ha.out (Nat.le_refl _))
        have Hown0 := Lib.hid (own_none w2 80 3)
        have Ht1 : Hid ((flC ((burnS s).files.take i)).length = i * 3) := Lib.hid (by rw [flC_length, List.length_take]; show min i s.files.length * 3 = _; rw [Nat.min_eq_left (by omega)])
        have hrl : r < w2.heap.size := hr2.size
        have hne : (w2.heap.size == r) = false := beq_eq_false_iff_ne.2 (by have := hr2.size; omega)
        clear hr2 ho2 HA HB
        have Hl2 : Hid ((flC ((burnS s).files.drop (i + 1))).length = (s.files.length - (i + 1)) * 3) := Lib.hid (by rw [flC_length, List.length_drop]; rfl)
        go_wp2_with (first
          | (at_builtin; go_loud (refine wpList_behind rfl (.tmp 27) (.tmp 34) 43 rfl w2.heap.size 80 i0 _ 3 48 Tryz.underlying43 hi0 hz0 hz1 hz2 rfl (by omega) (by omega) g3 i cap3 (own_cap hown3) (flC ((burnS s).files.take i)) rfl hown3 (if cap = i + 1 then some ⟨g, 0, none⟩ else some ⟨g, (i + 1) * 3, none⟩) (s.files.length - (i + 1)) (cap - (i + 1)) (flC ((burnS s).files.drop (i + 1))) rfl Hrow2.out Hl2.out (flC_one _) (by omega) w2 hb3 hb3.size ?_); intro g4 cap4 w4 hown4 hb4; have m1 := (hb4.cell (p := ⟨r, 0, none⟩) hrl).trans k0; have m2 := (hb4.frozen (p := ⟨r, 0, none⟩) hrl).trans kz)
          | (at_builtin; go_loud (refine wpList_behind rfl (.tmp 18) (.tmp 24) 43 rfl w2.heap.size 80 i0 _ 3 48 Tryz.underlying43 hi0 hz0 hz1 hz2 rfl (by omega) (by omega) w2.heap.size 0 0 (Nat.le_refl _) [] rfl Hown0.out (some ⟨g, 0, none⟩) i cap (flC ((burnS s).files.take i)) rfl Hrow1.out Ht1.out (flC_one _) (by omega) w2 Ha.out Ha.out.size ?_); intro g3 cap3 w3 hown3 hb3; rw [Nat.zero_add, List.nil_append] at hown3; have m0 := (hb3.cell (p := ⟨r, 0, none⟩) hrl).trans k0; have Hrow2 := Lib.hid ((Hr2.out.rest (i + 1) hcap).below hb3 (Nat.le_refl _))))
        all_goals
          go_ret
          have hsum : i + (s.files.length - (i + 1)) = (s.files.take i ++ s.files.drop (i + 1)).length := by rw [List.length_append, List.length_take, List.length_drop]; omega
          rw [← flC_append] at hown4
          refine ⟨rfl, _, (Hr2.out.below hb4).setRow (s' := { files := s.files.take i ++ s.files.drop (i + 1), room := (burnS s).room, fuse := (burnS s).fuse, off := false }) hrl hsum.symm hown4 rfl rfl hb.symm, ?_, ?_⟩
          · exact ((Ho2.out.mono fun k hk => .inl hk).below_new hb4).setCell ⟨r, 0, none⟩ _ (.inl (.inl rfl))
          · intro k hk
            have := (hown4.lt k hk).1
            exact .inr (Nat.le_trans Ho2.out.size this)
end Go.Proofs.YtmgbmphheagdmaaGreatDoor
