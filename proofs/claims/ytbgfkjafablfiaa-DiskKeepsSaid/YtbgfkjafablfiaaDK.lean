/-
  The contract of Crash.
-/
import Derived.Test.YtbgfkjafablfiaaDJ
import Derived.StillTailTactics
namespace Go.Proofs.Ytbgfkjafablfiaa
open Go.RowKit Go.Maps

/-! The files when j of them have crashed, pure. -/
def mid (keep : List Int) (l : List Fl) (j : Nat) : List Fl := crashL keep 0 (l.take j) ++ l.drop j
theorem mid_zero (keep : List Int) (l : List Fl) : mid keep l 0 = l := by simp [mid, crashL]
theorem mid_end (keep : List Int) (l : List Fl) : mid keep l l.length = crashL keep 0 l := by simp [mid]
theorem mid_len (keep : List Int) (l : List Fl) (j : Nat) : (mid keep l j).length = l.length := by
  unfold mid
  rw [List.length_append, crashL_length, ← List.length_append, List.take_append_drop]
theorem mid_at {keep : List Int} {l : List Fl} {j : Nat} {f : Fl} (h : l[j]? = some f) : (mid keep l j)[j]? = some f := by
  obtain ⟨hl, _⟩ := List.getElem?_eq_some_iff.1 h
  have e : (crashL keep 0 (l.take j)).length = j := by rw [crashL_length, List.length_take]; omega
  unfold mid
  rw [List.getElem?_append_right (by omega), e, Nat.sub_self, List.getElem?_drop]
  simpa using h
theorem modify_mid (c d : List Fl) (x y : Fl) : (c ++ y :: d).modify c.length (fun _ => x) = c ++ x :: d := by
  induction c with
  | nil => rfl
  | cons a c ih => simp only [List.cons_append, List.length_cons, List.modify_succ_cons, ih]
theorem mid_step {keep : List Int} {l : List Fl} {j : Nat} {f : Fl} (h : l[j]? = some f) : mid keep l (j + 1) = (mid keep l j).modify j fun _ => crashF keep (lateN (l.take j)) f := by
  obtain ⟨hl, he⟩ := List.getElem?_eq_some_iff.1 h
  have htk : l.take (j + 1) = l.take j ++ [f] := by rw [List.take_add_one, h]; rfl
  have e : (crashL keep 0 (l.take j)).length = j := by rw [crashL_length, List.length_take]; omega
  unfold mid
  rw [htk, crashL_snoc, Nat.zero_add, List.drop_eq_getElem_cons hl]
  generalize crashL keep 0 (l.take j) = c at *
  generalize l.drop (j + 1) = d
  generalize crashF keep (lateN (l.take j)) f = x
  generalize l[j] = y
  subst e
  rw [modify_mid, List.append_assoc]; rfl
theorem mid_used (keep : List Int) (l : List Fl) (j : Nat) : usedL (mid keep l j) ≤ usedL l := by
  have := crash_used keep (l.take j) 0
  have h2 : usedL l = usedL (l.take j) + usedL (l.drop j) := by rw [← usedL_append, List.take_append_drop]
  unfold mid
  rw [usedL_append]; omega
theorem modify_same {l : List Fl} {j : Nat} {f : Fl} (h : l[j]? = some f) : (l.modify j fun _ => f) = l := by
  apply List.ext_getElem?
  intro k
  rw [List.getElem?_modify]
  by_cases hk : j = k
  · subst hk; simp [h]
  · simp [hk]
theorem modify_two (l : List Fl) (j : Nat) (a b : Fl) : ((l.modify j fun _ => a).modify j fun _ => b) = l.modify j fun _ => b := by
  apply List.ext_getElem?
  intro k
  rw [List.getElem?_modify, List.getElem?_modify, List.getElem?_modify]
  by_cases hk : j = k
  · subst hk; cases l[j]? <;> simp
  · simp [hk]
theorem crashF_none {keep : List Int} {n : Nat} {f : Fl} (h : f.2.2 = []) : crashF keep n f = f := by
  obtain ⟨a, b, c⟩ := f
  simp only at h
  subst h
  simp [crashF]
/-- Cut behind so many late bytes, then synced. -/
theorem crashF_some {keep : List Int} {n : Nat} {f : Fl} (h : f.2.2 ≠ []) (m : Nat) (hm : m = keepN keep n f.2.2.length) : syncF (cutF (f.2.1.length + m) f) = crashF keep n f := by
  unfold crashF syncF
  rw [if_neg h, cutF_all, hm]
  show (f.1, _, _) = _
  rw [List.take_append, List.take_of_length_le (by omega), Nat.add_sub_cancel_left]
theorem keepN_le {keep : List Int} {n m : Nat} : keepN keep n m ≤ m := by
  unfold keepN
  split
  · exact Nat.zero_le _
  · exact Nat.le_of_lt_succ (Nat.mod_lt _ (Nat.succ_pos _))

section
variable {w w' : World} {r : Nat} {mb : Option Nat} {gm : List UInt8 → Nat} {vm : List UInt8 → Value} {s s' : St}
/-- 'd.files[name]' at a name that is there. -/
theorem look1_m (h : DskM w r mb gm vm s) {nm : List UInt8} {i : Nat} (hat : atN nm s.files = some i) (hnm : nm.length ≤ 9223372036854775807) :
    (Instr.lookup 56 (.map mb) (.string (bs nm)) false).run Try.prog w = .ok (.pointer (some ⟨gm nm, 0, none⟩)) w := by
  have hm := h.map
  obtain ⟨f, hf, _⟩ := atN_some hat
  obtain ⟨b, rfl⟩ := h.some_map (List.mem_of_getElem? hf)
  obtain ⟨v, ps, h1, h2⟩ := World.ownsMap.lookup (w := w) hm law9 Try.underlying56 (zero70 w) (zd := .nil) (zp := []) rfl (key_bs hnm)
  rw [elP_at hat] at h2
  rw [h1, ptr_inv h2]
/-- What the rounds of Crash keep. -/
structure CrM (w1 : World) (F : Nat → Prop) (r : Nat) (mb : Option Nat) (gm : List UInt8 → Nat) (s : St) (l : List Fl) (wr : World) : Prop where
  ex : ∃ vm, DskM wr r mb gm vm { s with files := l } ∧ ∀ k, FootM r mb gm vm l k → F k ∨ w1.heap.size ≤ k
  only : Only F w1 wr

theorem row_only {F : Nat → Prop} {A : Option Addr} {cs : List Value} (h : RowAt w A cs) (ho : Only F w w') (hA : ∀ g off, A = some (⟨g, off, none⟩ : Addr) → 0 < cs.length → ¬ F g) : RowAt w' A cs := fun j v hv => by
  obtain ⟨b, off, e, hl, hc⟩ := h j v hv
  have hlen := (List.getElem?_eq_some_iff.1 hv).1
  exact ⟨b, off, e, Nat.lt_of_lt_of_le hl ho.size, (ho.cell (p := ⟨b, off + j, none⟩) hl (hA b off e (by omega))).trans hc⟩
theorem wp_region_tail {P : Program} {id : Nat} {Q : Exit → Act → World → Prop} {a : Act} {W : World} {l : List Oper} (n : Nat) (hm : P.follows .mixedOrders = true) (hB : Region.lexTailB .any l.toArray n = true)
    (h : wpStill P l.toArray W.drew (fun a' => wpList P l.toArray Q (l.drop n) a' W.drew) (l.take n) a) : (Code.region id l.toArray true).wp P Q a W := wp_region_still_tail n hm hB h
theorem DskM.drewN (h : DskM w r mb gm vm s) (n : Nat) : DskM (w.drewN n) r mb gm vm s := h.only (F := fun _ => False) ((Only.refl _ w).drewN n) fun _ _ => id
theorem CrM.drewN {w1 : World} {F : Nat → Prop} {l : List Fl} (h : CrM w1 F r mb gm s l w) (n : Nat) : CrM w1 F r mb gm s l (w.drewN n) := by
  obtain ⟨⟨vm, h1, h2⟩, h3⟩ := h
  exact ⟨⟨vm, h1.drewN n, h2⟩, h3.drewN n⟩
set_option maxRecDepth 100000 in
set_option maxHeartbeats 8000000 in
theorem crash_m (h : DskM w r mb gm vm s) (hfit : Fit s) (keep : List Int) (A : Option Addr) (kl kc : Nat) (hl : keep.length = kl) (hrow : RowAt w A (intC keep)) (hA : ∀ g off, A = some (⟨g, off, none⟩ : Addr) → 0 < kl → ¬ FootM r mb gm vm s.files g) (hI : ∀ x ∈ keep, I64 x) (hkl : kl ≤ 9223372036854775807) :
    Calls Try.prog 16 #[.pointer (some ⟨r, 0, none⟩), .slice A kl kc] w (OpRet (.tuple #[]) r mb gm vm s (crashS keep s) w) := by
  have H := Lib.hid h
  have Hfit := Lib.hid hfit
  have HS := Lib.hid (sorted_m h hfit)
  have HI := Lib.hid hI
  have Hl := Lib.hid hl
  have Hrow := Lib.hid hrow
  have HA := Lib.hid hA
  obtain ⟨N, hN⟩ : ∃ N, N = s.files.length := ⟨_, rfl⟩
  have HN := Lib.hid hN
  rw [← hN] at HS
  have hN6 : N ≤ 1000000 := by rw [hN]; exact hfit.len
  clear h hfit hI hl hrow hA hN
  go_enter Try.func16, Try.ntmps16
  go_wp2_with (go_at_call 36; refine HS.out.mono ?_; rintro e w1 ⟨B, cap, rfl, hnr, hb⟩; have Hnr := Lib.hid hnr; have Hb := Lib.hid hb; clear hnr hb)
  have HF : Hid (∀ k, FootM r mb gm vm s.files k → k < w.heap.size) := Lib.hid (fun k hk => H.out.lt hk)
  have Hd1 := Lib.hid (H.out.below Hb.out)
  go_loopw [4, 14] (fun iv jv wr => ∃ j : Nat, j ≤ N ∧ jv = .int .i64 j ∧ iv = .int .i64 (lateN (s.files.take j) : Nat) ∧ CrM w1 (FootM r mb gm vm s.files) r mb gm s (mid keep s.files j) wr) (fun _ jv _ => N - (intOf jv).toNat)
  case atStart => exact ⟨0, Nat.zero_le _, rfl, by simp [lateN], ⟨vm, by rw [mid_zero]; exact Hd1.out, fun k hk => .inl (by rw [mid_zero] at hk; exact hk)⟩, Only.refl _ _⟩
  case round =>
    obtain ⟨j, hj, rfl, rfl, hcr⟩ := hrel
    by_cases hlt : j < N
    · have hltz : (j : Int) < (N : Int) := by omega
      have hj0 : (0 : Int) ≤ (j : Int) := by omega
      obtain ⟨f, hf⟩ : ∃ f, s.files[j]? = some f := ⟨_, List.getElem?_eq_getElem (by rw [← HN.out]; exact hlt)⟩
      obtain ⟨⟨vj, hdj, hkj⟩, hoj⟩ := hcr
      have hmj : (mid keep s.files j)[j]? = some f := mid_at hf
      have hmem := List.mem_of_getElem? hmj
      have HL := Lib.hid (look1_m hdj (atN_of hdj.rise hmj) (hdj.short f hmem))
      have hfil := hdj.fil f hmem
      obtain ⟨A2, cap2, hv2, _⟩ := own_row hfil.own
      have d0 : wr.cell? ⟨gm f.1, 0, none⟩ = some (.slice A2 (sizeF f) cap2) := by rw [← hv2]; exact hfil.box.cell rfl
      have d1 : wr.cell? ⟨gm f.1, 0 + 1, none⟩ = some (.int .i64 (f.2.1.length : Int)) := hfil.box.cell rfl
      obtain ⟨c0, _, _, _, _, _⟩ := hdj.cells
      obtain ⟨b, off, rfl, hbl, hbc⟩ := row_str (own_row' Hnr.out) j f.1 (by unfold namesF; rw [List.getElem?_map, hf]; rfl)
      have e0 : wr.cell? ⟨b, off + j, none⟩ = some (.string (bs f.1)) := (hoj.cell (p := ⟨b, off + j, none⟩) hbl (fun hF => by
        have h1 := (Hnr.out.lt b rfl).1
        have h2 := HF.out b hF
        omega)).trans hbc
      have hus : sizeF f ≤ 1000000000 := Nat.le_trans (size_used hmj) (Nat.le_trans (mid_used keep s.files j) Hfit.out.used)
      have Hmj := Lib.hid hmj
      have Dj := Lib.hid hdj
      have Kj := Lib.hid hkj
      have Oj := Lib.hid hoj
      have Hf := Lib.hid hf
      have hsub : ((sizeF f : Nat) : Int) - (f.2.1.length : Int) = (f.2.2.length : Int) := by unfold sizeF; omega
      have hus2 : f.2.1.length ≤ 1000000000 := by unfold sizeF at hus; omega
      have hln : lateN (s.files.take j) ≤ 1000000 := Nat.le_trans (lateN_le _) (by rw [List.length_take]; omega)
      have Htk : Hid (s.files.take (j + 1) = s.files.take j ++ [f]) := Lib.hid (by rw [List.take_add_one, hf]; rfl)
      have Hst := Lib.hid (mid_step (keep := keep) hf)
      clear hfil hdj hkj hoj hf hmj hmem hbc hbl hv2
      by_cases hlate : f.2.2 = []
      · have e3 : f.2.2.length = 0 := by rw [hlate]; rfl
        rw [e3] at hsub
        have Hln : Hid (lateN (s.files.take (j + 1)) = lateN (s.files.take j)) := Lib.hid (by rw [Htk.out, lateN_snoc, if_pos hlate]; rfl)
        have Hsm : Hid (mid keep s.files (j + 1) = mid keep s.files j) := Lib.hid (by rw [Hst.out, crashF_none hlate, modify_same Hmj.out])
        clear hlate e3
        generalize lateN (s.files.take j) = ln at *
        generalize sizeF f = sz at *
        generalize f.2.1.length = dn at *
        generalize gm f.1 = g at *
        go_wp2_with (at_lookup; refine wpList_lookup_run rfl _ _ 56 false rfl _ _ _ rfl rfl HL.out ?_)
        go_quiet (fail)
        go_wp2
        go_roundw
        case rel =>
          refine ⟨j + 1, by omega, by go_num, by rw [Hln.out], ?_⟩
          rw [Hsm.out]
          exact CrM.drewN ⟨⟨vj, Dj.out, Kj.out⟩, Oj.out⟩ _
        case measure => simp [intOf]; omega
      · have hlz : (((f.2.2.length : Nat) : Int) == 0) = false := by
          have : f.2.2.length ≠ 0 := fun e => hlate (List.eq_nil_of_length_eq_zero e)
          exact beq_eq_false_iff_ne.2 (by omega)
        obtain ⟨m, hm⟩ : ∃ m, m = keepN keep (lateN (s.files.take j)) f.2.2.length := ⟨_, rfl⟩
        have hml : m ≤ f.2.2.length := by rw [hm]; exact keepN_le
        have Hln : Hid (lateN (s.files.take (j + 1)) = lateN (s.files.take j) + 1) := Lib.hid (by rw [Htk.out, lateN_snoc, if_neg hlate])
        have Hcf := Lib.hid (crashF_some hlate m hm)
        have hle : f.2.1.length + m ≤ sizeF f := by unfold sizeF; omega
        have Hw : Hid (Only (FootM r mb gm vm s.files) w wr) := Lib.hid ((Only.of_below Hb.out (fun i hi => .inr hi)).trans Oj.out)
        have Hrw : Hid (RowAt wr A (intC keep)) := Lib.hid (row_only Hrow.out Hw.out (fun g off e h0 => HA.out g off e (by rw [← Hl.out]; simpa [intC] using h0)))
        have HK : Hid (∀ q, Calls Try.prog 38 #[.slice A kl kc, .int .i64 (lateN (s.files.take j) : Nat), .int .i64 (f.2.2.length : Nat)] (wr.drewN q) fun e w' => e = .returned (.int .i64 (m : Nat)) ∧ w' = wr.drewN q) := Lib.hid (fun q => by
          rw [hm]; exact kept_m keep A kl kc (wr.drewN q) Hl.out Hrw.out HI.out hkl _ _ hln (by unfold sizeF at hus; omega))
        have HT : Hid (∀ q, Calls Try.prog 37 #[.pointer (some ⟨r, 0, none⟩), .pointer (some ⟨gm f.1, 0, none⟩), .int .i64 ((f.2.1.length : Int) + (m : Int))] (wr.drewN q) fun e w' => e = .returned (.tuple #[]) ∧
            ∃ v', DskM w' r mb gm (upd vj f.1 v') { s with files := (mid keep s.files j).modify j fun _ => cutF (f.2.1.length + m) f } ∧ Only (fun k => k = r ∨ k = gm f.1) (wr.drewN q) w' ∧ (∀ k, FootM r mb gm (upd vj f.1 v') ((mid keep s.files j).modify j fun _ => cutF (f.2.1.length + m) f) k → FootM r mb gm vj (mid keep s.files j) k ∨ (wr.drewN q).heap.size ≤ k)) := Lib.hid (fun q => by
          rw [← Int.natCast_add]
          exact trunc_m (s := { s with files := mid keep s.files j }) (Dj.out.drewN q) ⟨Hfit.out.room0, Hfit.out.room1, Hfit.out.fuse0, Hfit.out.fuse1, Nat.le_trans (mid_used keep s.files j) Hfit.out.used, by show (mid keep s.files j).length ≤ _; rw [mid_len]; exact Hfit.out.len⟩ Hmj.out _ hle)
        have hml9 : m ≤ 1000000000 := by unfold sizeF at hus; omega
        have hwr : IntKind.i64.wrap ((f.2.1.length : Int) + (m : Int)) = (f.2.1.length : Int) + (m : Int) := by rw [IntKind.wrap_i64]; omega
        clear hm hlate hml
        generalize lateN (s.files.take j) = ln at *
        go_wp2_with (at_lookup; refine wpList_lookup_run rfl _ _ 56 false rfl _ _ _ rfl rfl HL.out ?_)
        go_quiet (fail)
        go_wp2
        refine wp_region_tail 11 kyLays.mixed (by kernel_rfl) ?_
        simp only [List.take_succ_cons, List.take_zero, List.drop_succ_cons, List.drop_zero]
        repeat still_step
        still_call (HK.out _)
        repeat still_step
        refine wpStill_nil ?_
        try rw [hwr]
        go_wp2_with (first | (go_at_call 37; refine (HT.out _).mono ?_; rintro e w3 ⟨rfl, v3, hd3, ho3, hk3⟩; have hm3 : ((mid keep s.files j).modify j fun _ => cutF (f.2.1.length + m) f)[j]? = some (cutF (f.2.1.length + m) f) := (by rw [List.getElem?_modify, Hmj.out]; simp); have hfil3 := hd3.fil _ (List.mem_of_getElem? hm3); rw [show (cutF (f.2.1.length + m) f).1 = f.1 from rfl, upd_same] at hfil3; obtain ⟨A3, cap3, hv3, _⟩ := own_row hfil3.own; have d0 : w3.cell? ⟨gm f.1, 0, none⟩ = some (.slice A3 (f.2.1.length + m) cap3) := (by rw [← cutF_size hle, ← hv3]; exact hfil3.box.cell rfl); have d1 : w3.cell? ⟨gm f.1, 0 + 1, none⟩ = some (.int .i64 ((cutF (f.2.1.length + m) f).2.1.length : Int)) := hfil3.box.cell rfl; have g1 := hfil3.box.frozen 1; have D3 := Lib.hid hd3; have O3 := Lib.hid ho3; have K3 := Lib.hid hk3; have M3 := Lib.hid hm3; clear hd3 ho3 hk3 hm3 hfil3 hv3))
        go_roundw
        case rel =>
          obtain ⟨h1, h2, h3⟩ := sync_end D3.out M3.out ((f.2.1.length : Int) + (m : Int)) (by rw [cutF_size hle, Int.natCast_add])
          have hfe : ((mid keep s.files j).modify j fun _ => cutF (f.2.1.length + m) f).modify j (fun _ => syncF (cutF (f.2.1.length + m) f)) = mid keep s.files (j + 1) := by rw [modify_two, Hcf.out, Hst.out]
          simp only at h1 h3
          rw [hfe] at h1 h3
          have hfm := List.mem_of_getElem? Hf.out
          refine ⟨j + 1, by omega, by go_num, by rw [Hln.out]; go_num, ⟨_, h1, fun k hk => ?_⟩, ?_⟩
          · rcases h3 k hk with e | e
            · rcases K3.out k e with e | e
              · exact Kj.out k e
              · exact .inr (Nat.le_trans Oj.out.size e)
            · exact .inr (Nat.le_trans Oj.out.size (Nat.le_trans O3.out.size e))
          · refine ((Oj.out.drewN _).trans (O3.out.mono fun k e => ?_)).trans (h2.mono fun k e => ?_)
            · rcases e with e | e
              · exact .inl e
              · exact .inr (.inr ⟨f, hfm, .inl e⟩)
            · exact .inr (.inr ⟨f, hfm, .inl e⟩)
        case measure => simp [intOf]; omega
    · have hltz : ¬ (j : Int) < (N : Int) := by omega
      obtain ⟨⟨vj, hdj, hkj⟩, hoj⟩ := hcr
      obtain rfl : j = N := by omega
      have Dj := Lib.hid hdj
      have Kj := Lib.hid hkj
      have Oj := Lib.hid hoj
      obtain ⟨_, _, _, c3, c4, c5⟩ := hdj.cells
      have f3 := hdj.box.frozen 3
      have f4 := hdj.box.frozen 4
      have f5 := hdj.box.frozen 5
      clear hdj hkj hoj
      go_wp2
      go_end0
      have ho : Only (fun k => k = r) wr (((wr.setCell ⟨r, 3, none⟩ (.bool false)).setCell ⟨r, 4, none⟩ (.bool false)).setCell ⟨r, 5, none⟩ (.int .i64 0)) := ((only_set wr r 3 _).trans (only_set _ r 4 _)).trans (only_set _ r 5 _)
      have hfe : mid keep s.files j = crashL keep 0 s.files := by rw [HN.out, mid_end]
      have hd := Dj.out.boxed (s' := crashS keep s) hfe.symm ho (by
        refine cast (congrArg (Holds _ r 58) ?_) (((Dj.out.box.set 3 (.bool false)).set 4 (.bool false)).set 5 (.int .i64 0))
        unfold boxC
        simp only [crashS, hfe]
        rfl)
      refine ⟨rfl, mb, gm, vj, hd, ((Only.of_below Hb.out (fun i hi => .inr hi)).trans Oj.out).trans (ho.mono fun k e => .inl e), fun k hk => ?_⟩
      rcases Kj.out k (by rw [hfe]; exact hk) with e | e
      · exact .inl e
      · exact .inr (Nat.le_trans Hb.out.size e)
end
end Go.Proofs.Ytbgfkjafablfiaa
