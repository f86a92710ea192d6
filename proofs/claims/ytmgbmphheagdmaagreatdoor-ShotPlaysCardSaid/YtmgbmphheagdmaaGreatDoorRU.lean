/-
  The contract of the reference's Append.
-/
import Derived.Test.YtmgbmphheagdmaaGreatDoorRT
namespace Go.Proofs.YtmgbmphheagdmaaGreatDoor
open Go.RowKit
/-- Used, many draws on. -/
theorem refused_on (r : Nat) (v : Value) (s : St) (w : World) (h : RefD w r v s) (hf : Fit s) (a n : Nat) :
    Calls Tryz.prog 28 #[.pointer (some ⟨r, 0, none⟩)] (w.drewN (a + n)) fun e w' => e = .returned (.int .i64 (usedL s.files : Nat)) ∧ ∃ m, w' = w.drewN (a + m) :=
  (refused_any r v s _ (h.drewN _) hf).mono fun _ _ ⟨he, q, hq⟩ => ⟨he, n + q, by rw [hq, drewN_add, Nat.add_assoc]⟩
theorem refused_at (r : Nat) (v : Value) (s : St) (w : World) (h : RefD w r v s) (hf : Fit s) (n : Nat) :
    Calls Tryz.prog 28 #[.pointer (some ⟨r, 0, none⟩)] (w.drewN n) fun e w' => e = .returned (.int .i64 (usedL s.files : Nat)) ∧ ∃ m, w' = w.drewN m :=
  (refused_any r v s _ (h.drewN _) hf).mono fun _ _ ⟨he, q, hq⟩ => ⟨he, n + q, by rw [hq, drewN_add]⟩
/-- A file's late bytes set in its row. -/
theorem RefD.setLate {w : World} {r g n cap : Nat} {s s' : St} (h : RefD w r (.slice (some ⟨g, 0, none⟩) n cap) s) (hn : s.files.length = n) (i : Nat) (y : List UInt8) (hs : s' = { s with files := s.files.modify i fun f => (f.1, f.2.1, y) }) :
    RefD (w.setCell ⟨g, i * 3 + 2, none⟩ (.string (bs y))) r (.slice (some ⟨g, 0, none⟩) n cap) s' := by
  subst hn
  have hg := (h.own.lt g rfl).1
  have h1 := (h.own.stored (i * 3 + 2) (.string (bs y))).1
  rw [flC_late] at h1
  subst hs
  refine ⟨h.box.aside (by show r ≠ g; omega) _, ?_⟩
  simp only
  rw [List.length_modify]
  exact h1
set_option maxRecDepth 100000 in
set_option maxHeartbeats 8000000 in
theorem refappend_any (nm b : List UInt8) (r : Nat) (v : Value) (s : St) (w : World) (h : RefD w r v s) (hf : Fit s) (hb : b.length ≤ 1000000) (hn : nm.length ≤ 1000000) :
    Calls Tryz.prog 21 #[.pointer (some ⟨r, 0, none⟩), .string (bs nm), .string (bs b)] w (RefRet (.int .i64 (appendS nm b s).1) r v (appendS nm b s).2 w) := by
  obtain ⟨i0, hi0, hz0, hz1, hz2⟩ := info_parts infoF
  have HR := Lib.hid (fun W => refright_any (bs nm) W (by rw [bs_size]; omega))
  rw [bl_bs] at HR
  have HU := Lib.hid (refused_at r v s w h hf)
  have HU2 := Lib.hid (refused_on r v s w h hf)
  have HB := Lib.hid (fun q => refburns_any r v s (w.drewN q) (h.drewN q) hf)
  obtain ⟨c0, c1, _, c3, _⟩ := h.cells
  have H := Lib.hid h
  have hlen := hf.len
  have hu := hf.used
  have hr0 := hf.room0
  have hr1 := hf.room1
  have eb : (bs b).size = b.length := bs_size b
  have HF := Lib.hid (fit_burn hf)
  clear h hf
  cases ho : s.off with
  | true =>
    have Hr : Hid (appendS nm b s = (7, s)) := Lib.hid (by unfold appendS; rw [ho]; rfl)
    rw [ho] at c3
    rw [Hr.out]
    clear ho
    go_enter Tryz.func21, Tryz.ntmps21
    go_wp2
    go_ret
    exact ⟨rfl, v, H.out, Only.refl _ _, fun k hk => .inl hk⟩
  | false =>
    rw [ho] at c3
    cases hrt : rightL nm with
    | false =>
      have Hr : Hid (appendS nm b s = (5, s)) := Lib.hid (by unfold appendS; rw [ho, hrt]; rfl)
      rw [hrt] at HR
      rw [Hr.out]
      clear ho hrt
      go_enter Tryz.func21, Tryz.ntmps21
      go_wp2_with (go_at_call 50; refine (HR.out _).mono ?_; rintro e w1 ⟨rfl, h1⟩; replace h1 := h1.symm; subst h1)
      go_ret
      exact ⟨rfl, v, H.out, Only.refl _ _, fun k hk => .inl hk⟩
    | true =>
      rw [hrt] at HR
      obtain ⟨u, hu0⟩ : ∃ u, u = usedL s.files := ⟨_, rfl⟩
      rw [← hu0] at HU HU2 hu
      obtain ⟨m, hm⟩ : ∃ m, m = b.length := ⟨_, rfl⟩
      rw [← hm] at eb hb
      by_cases hfull : s.room < ((usedL s.files + b.length : Nat) : Int)
      · have Hr := Lib.hid (appendS_full nm b s ho hrt hfull)
        rw [← hu0, ← hm] at hfull
        rw [Hr.out]
        clear ho hrt hu0 hm
        by_cases h1 : s.room < (u : Int)
        · by_cases h2 : (0 : Int) < (m : Int)
          · have hd1 : decide (s.room < (u : Int)) = true := decide_eq_true h1
            have hd2 : decide (0 < m) = true := decide_eq_true (by omega)
            go_enter Tryz.func21, Tryz.ntmps21
            go_wp2_with (go_at_call 50; refine (HR.out _).mono ?_; rintro e w1 ⟨rfl, h1⟩; replace h1 := h1.symm; subst h1)
            go_quiet ((go_at_call 28; exact HU.out _))
            go_wp2_with fail
            go_quiet ((go_at_call 28; exact HU2.out _ _))
            go_wp2
            go_ret
            exact ⟨rfl, v, (H.out.drewN _).drewN _, ((Only.refl _ _).drewN _).drewN _, fun k hk => .inl hk⟩
          · have hd1 : decide (s.room < (u : Int)) = true := decide_eq_true h1
            have hd2 : decide (0 < m) = false := decide_eq_false (by omega)
            go_enter Tryz.func21, Tryz.ntmps21
            go_wp2_with (go_at_call 50; refine (HR.out _).mono ?_; rintro e w1 ⟨rfl, h1⟩; replace h1 := h1.symm; subst h1)
            go_quiet ((go_at_call 28; exact HU.out _))
            go_wp2_with fail
            go_quiet ((go_at_call 28; exact HU2.out _ _))
            go_wp2
            go_ret
            exact ⟨rfl, v, (H.out.drewN _).drewN _, ((Only.refl _ _).drewN _).drewN _, fun k hk => .inl hk⟩
        · have hd1 : decide (s.room < (u : Int)) = false := decide_eq_false h1
          have hd3 : decide (s.room - (u : Int) < (m : Int)) = true := decide_eq_true (by omega)
          have hd2 : decide (0 < m) = true := decide_eq_true (by omega)
          have h3 : s.room - (u : Int) < (m : Int) := by omega
          have h2 : (0 : Int) < (m : Int) := by omega
          go_enter Tryz.func21, Tryz.ntmps21
          go_wp2_with (go_at_call 50; refine (HR.out _).mono ?_; rintro e w1 ⟨rfl, h1⟩; replace h1 := h1.symm; subst h1)
          go_quiet ((go_at_call 28; exact HU.out _))
          go_wp2_with fail
          go_quiet ((go_at_call 28; exact HU2.out _ _))
          go_wp2
          go_ret
          exact ⟨rfl, v, (H.out.drewN _).drewN _, ((Only.refl _ _).drewN _).drewN _, fun k hk => .inl hk⟩
      · cases hbo : (burnS s).off with
        | true =>
          have Hr := Lib.hid (appendS_burnt nm b s ho hrt hfull hbo)
          rw [← hu0, ← hm] at hfull
          rw [Hr.out]
          rw [hbo] at HB
          have hd1 : decide (s.room < (u : Int)) = false := decide_eq_false (by omega)
          have hd3 : decide (s.room - (u : Int) < (m : Int)) = false := decide_eq_false (by omega)
          have h1 : ¬ s.room < (u : Int) := by omega
          have h3 : ¬ s.room - (u : Int) < (m : Int) := by omega
          clear ho hrt hu0 hm hfull hbo
          go_enter Tryz.func21, Tryz.ntmps21
          go_wp2_with (go_at_call 50; refine (HR.out _).mono ?_; rintro e w1 ⟨rfl, h1⟩; replace h1 := h1.symm; subst h1)
          go_quiet ((go_at_call 28; exact HU.out _))
          go_wp2_with (go_at_call 51; refine (HB.out _).mono ?_; rintro e w2 ⟨rfl, hr2, ho2⟩)
          go_ret
          exact ⟨rfl, v, hr2, ((Only.refl _ _).drewN _).trans (ho2.mono fun k hk => .inl hk), fun k hk => .inl hk⟩
        | false =>
          have Hr := Lib.hid (appendS_done nm b s ho hrt hfull hbo)
          rw [← hu0, ← hm] at hfull
          rw [Hr.out]
          have Hbo := Lib.hid hbo
          rw [hbo] at HB
          have hd1 : decide (s.room < (u : Int)) = false := decide_eq_false (by omega)
          have hd3 : decide (s.room - (u : Int) < (m : Int)) = false := decide_eq_false (by omega)
          have h1 : ¬ s.room < (u : Int) := by omega
          have h3 : ¬ s.room - (u : Int) < (m : Int) := by omega
          have Hu0 := Lib.hid hu0
          have Hm0 := Lib.hid hm
          clear ho hrt hfull hbo hu0 hm
          cases hat : atN nm s.files with
          | some i =>
            have Hput : Hid (putF nm b s.files = s.files.modify i fun f => (f.1, f.2.1, f.2.2 ++ b)) := Lib.hid (by unfold putF; rw [hat])
            rw [Hput.out]
            have Hati : Hid (atI nm (burnS s).files = (i : Int)) := Lib.hid (atI_some hat)
            obtain ⟨f, hf, _⟩ := atN_some hat
            have hlt : i < s.files.length := (List.getElem?_eq_some_iff.1 hf).1
            have hlt' : (i : Int) < (s.files.length : Int) := by omega
            have h0 : (0 : Int) ≤ (i : Int) := by omega
            go_enter Tryz.func21, Tryz.ntmps21
            go_wp2_with (go_at_call 50; refine (HR.out _).mono ?_; rintro e w1 ⟨rfl, h1⟩; replace h1 := h1.symm; subst h1)
            go_quiet ((go_at_call 28; exact HU.out _))
            go_wp2_with fail
            refine (HB.out _).mono ?_
            rintro e w2 ⟨rfl, hr2, ho2⟩
            have HA := Lib.hid (refat_any nm r v (burnS s) w2 hr2 HF.out)
            rw [Hati.out] at HA
            go_wp2_with fail
            refine HA.out.mono ?_
            rintro e w3 ⟨rfl, h4⟩
            replace h4 := h4.symm
            subst h4
            obtain ⟨k0, _, _, _, _⟩ := hr2.cells
            obtain ⟨g, cap, rfl, _, _, _, _, k2, kz⟩ := hr2.file (i := i) (f := f) hf
            have z2 := kz (i * 3 + 2)
            have e1 : (bs f.2.2).size = f.2.2.length := bs_size _
            have hus : f.2.2.length ≤ 1000000000 := by
              have h5 := used_drop s.files i f hf
              have h6 := used_le s.files (i + 1)
              have h7 := Hu0.out
              unfold sizeF at h5
              omega
            have Hn := Lib.hid (hr2.setLate rfl i (f.2.2 ++ b) (s' := { burnS s with files := s.files.modify i fun f => (f.1, f.2.1, f.2.2 ++ b) }) (by rw [modify_at hf (fun f => (f.1, f.2.1, f.2.2 ++ b)) (fun f' => (f'.1, f'.2.1, f.2.2 ++ b)) rfl]; rfl)).drew
            have Ho := Lib.hid (((((Only.refl _ _).drewN _).trans (ho2.mono (F' := Foot r (.slice (some ⟨g, 0, none⟩) (burnS s).files.length cap)) fun k hk => .inl hk)).setCell ⟨g, i * 3 + 2, none⟩ (.string (bs (f.2.2 ++ b))) (.inl (.inr rfl))).drew)
            rw [← bs_append] at Hn Ho
            have hl6 : (burnS s).files.length ≤ 1000000 := hlen
            have hlt2 : i < (burnS s).files.length := hlt
            have hlt2' : (i : Int) < ((burnS s).files.length : Int) := hlt'
            clear hlt hlt'
            clear kz hr2 ho2 HA HB HR HU HU2 H c0 c1 c3 Hr HF Hput Hati hat hf
            go_wp2
            go_region
            go_wp2
            go_ret
            exact ⟨rfl, _, Hn.out, Ho.out, fun k hk => .inl hk⟩
          | none =>
            have Hati : Hid (atI nm (burnS s).files = -1) := Lib.hid (atI_none hat)
            have b0 : bs [] = ({ data := #[] } : ByteArray) := by rw [bs_eq]
            go_enter Tryz.func21, Tryz.ntmps21
            go_wp2_with (go_at_call 50; refine (HR.out _).mono ?_; rintro e w1 ⟨rfl, h1⟩; replace h1 := h1.symm; subst h1)
            go_quiet ((go_at_call 28; exact HU.out _))
            go_wp2_with fail
            refine (HB.out _).mono ?_
            rintro e w2 ⟨rfl, hr2, ho2⟩
            have HA := Lib.hid (refat_any nm r v (burnS s) w2 hr2 HF.out)
            rw [Hati.out] at HA
            go_wp2_with fail
            refine HA.out.mono ?_
            rintro e w3 ⟨rfl, h4⟩
            replace h4 := h4.symm
            subst h4
            have Hr2 := Lib.hid hr2
            have Ho2 := Lib.hid ho2
            obtain ⟨n, hn5⟩ : ∃ n, n = s.files.length := ⟨_, rfl⟩
            have HN : Hid (s.files.length = n) := Lib.hid hn5.symm
            have hrl : r < w2.heap.size := hr2.size
            have Hown0 : Hid ((w2.alloc (.cells #[] 80)).ownsRow w2.heap.size 80 3 (.slice (some ⟨w2.heap.size, 0, none⟩) 0 0) 0 (flC (s.files.take 0))) := Lib.hid (own_none w2 80 3)
            have Ha : Hid (Below w2.heap.size w2 (w2.alloc (.cells #[] 80))) := Lib.hid ((Below.refl _ _).alloc (Nat.le_refl _) _)
            have howns := hr2.own.2
            clear ho2 HA HB HR HU HU2 H c0 c1 c3 Hr hn5
            cases howns with
            | inl hx =>
              obtain ⟨rfl, hx0⟩ := hx
              have hnil : s.files = [] := List.eq_nil_of_length_eq_zero hx0
              have k0 := hr2.cells.1
              have kz0 := hr2.cells.2.2.2.2 0
              have Hnew : Hid ((flC (s.files.take 0) ++ #[.string (bs nm), .string { data := #[] }, .string (bs b)].toList) = flC [(nm, [], b)]) := Lib.hid (by rw [flC_cons, b0]; rfl)
              have Hput : Hid (putF nm b s.files = [(nm, [], b)]) := Lib.hid (by unfold putF; rw [hat, hnil]; rfl)
              have Hsz2 : Hid ((w2.alloc (.cells #[] 80)).heap.size = w2.heap.size + 1) := Lib.hid (by simp)
              clear hx0 hnil hr2
              go_wp2_with fail
              refine wp_loop_rounds 1 ?_
              rw [rounds_succ]
              go_wp2_with (first
                | (at_builtin; go_loud (refine wpList_behind rfl (.tmp 111) (.tmp 117) 43 rfl w2.heap.size 80 i0 _ 3 48 Tryz.underlying43 hi0 hz0 hz1 hz2 rfl (by omega) (by omega) g5 1 cap5 (own_cap hown5) _ rfl hown5 none 0 0 [] rfl (fun j x hx => by simp at hx) rfl (by simp) (by omega) w2 hb5 hb5.size ?_); intro g6 cap6 w6 hown6 hb6; have y0 := (hb6.cell (p := ⟨r, 0, none⟩) hrl).trans k0; have y1 := (hb6.frozen (p := ⟨r, 0, none⟩) hrl).trans kz0)
                | (at_builtin; go_loud (refine wpList_push rfl (.tmp 104) (.tmp 108) 43 rfl w2.heap.size 80 i0 _ 3 48 Tryz.underlying43 hi0 hz0 hz1 hz2 rfl (by omega) (.slice (some ⟨w2.heap.size, 0, none⟩) 0 0) 0 (flC (s.files.take 0)) rfl Hown0.out #[.string (bs nm), .string { data := #[] }, .string (bs b)] (by rw [Hsz2.out]; rfl) rfl (by simp [Value.oneCell']) (by omega) (by omega) w2 Ha.out Ha.out.size ?_); intro g5 cap5 w5 hown5 hb5; rw [Hnew.out] at hown5; have x0 := (hb5.cell (p := ⟨r, 0, none⟩) hrl).trans k0))
              all_goals
                go_ret
                rw [List.append_nil] at hown6
                refine ⟨rfl, _, (Hr2.out.below hb6).setRow (s' := { files := putF nm b s.files, room := (burnS s).room, fuse := (burnS s).fuse, off := (burnS s).off }) hrl (by rw [Hput.out]) (by rw [Hput.out]; exact hown6) rfl rfl rfl, ?_, ?_⟩
                · exact ((((Only.refl _ _).drewN _).trans (Ho2.out.mono fun k hk => .inl hk)).below_new hb6).setCell ⟨r, 0, none⟩ _ (.inl (.inl rfl))
                · intro k hk
                  have := (hown6.lt k hk).1
                  exact .inr (Nat.le_trans Ho2.out.size this)
            | inr hx =>
              obtain ⟨g, cap, cur, hv, hbg, hh, hcapN, _, _, _⟩ := hx
              obtain rfl : v = .slice (some ⟨g, 0, none⟩) n cap := hv.trans (by rw [show (burnS s).files.length = n from HN.out])
              have hgw : g < w2.heap.size := (Array.getElem?_eq_some_iff.1 hh).1
              have k0 := hr2.cells.1
              have kz0 := hr2.cells.2.2.2.2 0
              have hcapN' : s.files.length ≤ cap := hcapN
              clear hh hr2 hv hcapN
              go_wp2_with fail
              go_loopw [8, 9] (fun lv kv wr => ∃ k : Nat, k ≤ placeL nm s.files ∧ kv = .int .i64 k ∧ wr.ownsRow w2.heap.size 80 3 lv k (flC (s.files.take k)) ∧ Below w2.heap.size w2 wr) (fun _ kv _ => n - (intOf kv).toNat)
              case atStart => exact ⟨0, Nat.zero_le _, rfl, Hown0.out, Ha.out⟩
              case round =>
                obtain ⟨k, hk, rfl, hown, hbel⟩ := hrel
                have Hown := Lib.hid hown
                have Hb := Lib.hid hbel
                have hkN : k ≤ n := by have := place_le nm s.files; have := HN.out; omega
                have m0 := (hbel.cell (p := ⟨r, 0, none⟩) hrl).trans k0
                have hrw : r < wr.heap.size := Nat.lt_of_lt_of_le hrl hbel.size
                have hgw' : g < wr.heap.size := Nat.lt_of_lt_of_le hgw hbel.size
                clear hown hbel
                by_cases hlt : k < n
                · have hltz : (k : Int) < (n : Int) := by omega
                  obtain ⟨f, hf⟩ : ∃ f, s.files[k]? = some f := ⟨_, List.getElem?_eq_getElem (by rw [HN.out]; exact hlt)⟩
                  obtain ⟨g', cap', hA, _, _, f0, f1, f2, _⟩ := Hr2.out.file (i := k) (f := f) hf
                  injection hA with hA1 hA2 hA3
                  injection hA1 with hA1
                  injection hA1 with hA1
                  subst hA1
                  have q0 := (Hb.out.cell (p := ⟨g, k * 3, none⟩) hgw).trans f0
                  have q1 := (Hb.out.cell (p := ⟨g, k * 3 + 1, none⟩) hgw).trans f1
                  have q2 := (Hb.out.cell (p := ⟨g, k * 3 + 2, none⟩) hgw).trans f2
                  have hk6 : k ≤ 1000000 := by have := hlen; have := HN.out; omega
                  clear hA2 hA3 f0 f1 f2
                  cases hl : ltL f.1 nm with
                  | true =>
                    have hless : Op.bytesLess (bs f.1).toList (bs nm).toList = true := by rw [less_bs]; exact hl
                    have Hmore := Lib.hid (place_more nm s.files k f hk hf hl)
                    have Htk : Hid (s.files.take (k + 1) = s.files.take k ++ [f]) := Lib.hid (by rw [List.take_add_one, hf]; rfl)
                    clear hl hf
                    go_wp2_with (at_builtin; go_loud (refine wpList_push rfl (.tmp 92) (.tmp 100) 43 rfl w2.heap.size 80 i0 _ 3 48 Tryz.underlying43 hi0 hz0 hz1 hz2 rfl (by omega) u8 k (flC (s.files.take k)) rfl Hown.out #[.string (bs f.1), .string (bs f.2.1), .string (bs f.2.2)] rfl rfl (by simp [Value.oneCell']) hk6 (by omega) w2 Hb.out Hb.out.size ?_); intro g4 cap4 w4 hown4 hb4)
                    have Hown4 : Hid (w4.ownsRow w2.heap.size 80 3 (.slice (some ⟨g4, 0, none⟩) (k + 1) cap4) (k + 1) (flC (s.files.take (k + 1)))) := Lib.hid (by rw [Htk.out, flC_append]; exact hown4)
                    have Hb4 := Lib.hid hb4
                    clear hown4 hb4
                    go_wp2
                    go_roundw
                    case rel => exact ⟨k + 1, Hmore.out, by go_num, Hown4.out, Hb4.out⟩
                    case measure => simp [intOf]; omega
                  | false =>
                    have hless : Op.bytesLess (bs f.1).toList (bs nm).toList = false := by rw [less_bs]; exact hl
                    have hplace := place_stop nm s.files k f hk hf hl
                    clear hl hf
                    have Hk5 : Hid (placeL nm s.files = k) := Lib.hid hplace
                    have Hnew : Hid ((flC (s.files.take k) ++ #[.string (bs nm), .string { data := #[] }, .string (bs b)].toList) = flC (s.files.take k ++ [(nm, [], b)])) := Lib.hid (by rw [flC_append, flC_cons, b0]; rfl)
                    have Hrl : Hid ((flC (s.files.drop k)).length = (n - k) * 3) := Lib.hid (by rw [flC_length, List.length_drop, HN.out])
                    have Hkn : Hid (k ≤ 1000000) := Lib.hid (by have := hlen; have := HN.out; omega)
                    clear hplace
                    go_wp2_with (first
                      | (at_builtin; go_loud (refine wpList_behind rfl (.tmp 111) (.tmp 117) 43 rfl w2.heap.size 80 i0 _ 3 48 Tryz.underlying43 hi0 hz0 hz1 hz2 rfl (by omega) (by omega) g5 (k + 1) cap5 (own_cap hown5) _ rfl hown5 (if cap = k then some ⟨g, 0, none⟩ else some ⟨g, k * 3, none⟩) (n - k) (cap - k) (flC (s.files.drop k)) rfl Hrow5.out Hrl.out (flC_one _) (by have := Hkn.out; have := hlen; have := HN.out; omega) w2 hb5 hb5.size ?_); intro g6 cap6 w6 hown6 hb6; have y0 := (hb6.cell (p := ⟨r, 0, none⟩) hrl).trans k0; have y1 := (hb6.frozen (p := ⟨r, 0, none⟩) hrl).trans kz0)
                      | (at_builtin; go_loud (refine wpList_push rfl (.tmp 104) (.tmp 108) 43 rfl w2.heap.size 80 i0 _ 3 48 Tryz.underlying43 hi0 hz0 hz1 hz2 rfl (by omega) u8 k (flC (s.files.take k)) rfl Hown.out #[.string (bs nm), .string { data := #[] }, .string (bs b)] rfl rfl (by simp [Value.oneCell']) Hkn.out (by omega) w2 Hb.out Hb.out.size ?_); intro g5 cap5 w5 hown5 hb5; rw [Hnew.out] at hown5; have x0 := (hb5.cell (p := ⟨r, 0, none⟩) hrl).trans k0; have Hrow5 := Lib.hid ((Hr2.out.rest k hcapN').below hb5 (Nat.le_refl _))))
                    all_goals
                      go_ret
                      rw [← flC_append] at hown6
                      have hput : putF nm b s.files = s.files.take k ++ [(nm, [], b)] ++ s.files.drop k := by unfold putF; rw [hat]; simp only; rw [Hk5.out]
                      refine ⟨rfl, _, (Hr2.out.below hb6).setRow (s' := { files := putF nm b s.files, room := (burnS s).room, fuse := (burnS s).fuse, off := (burnS s).off }) hrl ?_ (by rw [hput]; exact hown6) rfl rfl rfl, ?_, ?_⟩
                      · rw [hput, List.length_append, List.length_append, List.length_take, List.length_drop, HN.out]
                        simp only [List.length_cons, List.length_nil]
                        omega
                      · exact ((((Only.refl _ _).drewN _).trans (Ho2.out.mono fun k hk => .inl hk)).below_new hb6).setCell ⟨r, 0, none⟩ _ (.inl (.inl rfl))
                      · intro k hk
                        have := (hown6.lt k hk).1
                        exact .inr (Nat.le_trans Ho2.out.size this)
                · have hltz : ¬ (k : Int) < (n : Int) := by omega
                  have hplace : placeL nm s.files = k := by have := place_le nm s.files; have := HN.out; omega
                  have Hk5 : Hid (placeL nm s.files = k) := Lib.hid hplace
                  have Hnew : Hid ((flC (s.files.take k) ++ #[.string (bs nm), .string { data := #[] }, .string (bs b)].toList) = flC (s.files.take k ++ [(nm, [], b)])) := Lib.hid (by rw [flC_append, flC_cons, b0]; rfl)
                  have Hrl : Hid ((flC (s.files.drop k)).length = (n - k) * 3) := Lib.hid (by rw [flC_length, List.length_drop, HN.out])
                  have Hkn : Hid (k ≤ 1000000) := Lib.hid (by have := hlen; have := HN.out; omega)
                  clear hplace
                  go_wp2_with (first
                    | (at_builtin; go_loud (refine wpList_behind rfl (.tmp 111) (.tmp 117) 43 rfl w2.heap.size 80 i0 _ 3 48 Tryz.underlying43 hi0 hz0 hz1 hz2 rfl (by omega) (by omega) g5 (k + 1) cap5 (own_cap hown5) _ rfl hown5 (if cap = k then some ⟨g, 0, none⟩ else some ⟨g, k * 3, none⟩) (n - k) (cap - k) (flC (s.files.drop k)) rfl Hrow5.out Hrl.out (flC_one _) (by have := Hkn.out; have := hlen; have := HN.out; omega) w2 hb5 hb5.size ?_); intro g6 cap6 w6 hown6 hb6; have y0 := (hb6.cell (p := ⟨r, 0, none⟩) hrl).trans k0; have y1 := (hb6.frozen (p := ⟨r, 0, none⟩) hrl).trans kz0)
                    | (at_builtin; go_loud (refine wpList_push rfl (.tmp 104) (.tmp 108) 43 rfl w2.heap.size 80 i0 _ 3 48 Tryz.underlying43 hi0 hz0 hz1 hz2 rfl (by omega) u8 k (flC (s.files.take k)) rfl Hown.out #[.string (bs nm), .string { data := #[] }, .string (bs b)] rfl rfl (by simp [Value.oneCell']) Hkn.out (by omega) w2 Hb.out Hb.out.size ?_); intro g5 cap5 w5 hown5 hb5; rw [Hnew.out] at hown5; have x0 := (hb5.cell (p := ⟨r, 0, none⟩) hrl).trans k0; have Hrow5 := Lib.hid ((Hr2.out.rest k hcapN').below hb5 (Nat.le_refl _))))
                  all_goals
                    go_ret
                    rw [← flC_append] at hown6
                    have hput : putF nm b s.files = s.files.take k ++ [(nm, [], b)] ++ s.files.drop k := by unfold putF; rw [hat]; simp only; rw [Hk5.out]
                    refine ⟨rfl, _, (Hr2.out.below hb6).setRow (s' := { files := putF nm b s.files, room := (burnS s).room, fuse := (burnS s).fuse, off := (burnS s).off }) hrl ?_ (by rw [hput]; exact hown6) rfl rfl rfl, ?_, ?_⟩
                    · rw [hput, List.length_append, List.length_append, List.length_take, List.length_drop, HN.out]
                      simp only [List.length_cons, List.length_nil]
                      omega
                    · exact ((((Only.refl _ _).drewN _).trans (Ho2.out.mono fun k hk => .inl hk)).below_new hb6).setCell ⟨r, 0, none⟩ _ (.inl (.inl rfl))
                    · intro k hk
                      have := (hown6.lt k hk).1
                      exact .inr (Nat.le_trans Ho2.out.size this)
end Go.Proofs.YtmgbmphheagdmaaGreatDoor
