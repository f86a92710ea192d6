/-
  The contract of the reference's Load.
-/
import Derived.Test.YtmgbmphheagdmaaGreatDoorVA
import Derived.Test.YtmgbmphheagdmaaGreatDoorMI
import Derived.Test.YtmgbmphheagdmaaGreatDoorRV
import Derived.Deep.RegionHeld3
namespace Go.Proofs.YtmgbmphheagdmaaGreatDoor
open Go.RowKit

/-- The best so far, as it lies in memory. -/
def bestC : Option Sh → List Value
  | some s => snapC s
  | none => [.int .i64 (-1), .int .i64 0, .string { data := #[] }]
def bestI : Option Sh → Int
  | some s => s.i
  | none => -1
theorem bestC_first (o : Option Sh) : ∃ b c, bestC o = [.int .i64 (bestI o), b, c] := by
  cases o with
  | none => exact ⟨_, _, rfl⟩
  | some s => exact ⟨_, _, rfl⟩
theorem load_snoc {l : List Fl} {o : Option Sh} {f : Fl} (h : LoadF l o) : (∀ s, snapO f.1 (contF f) = some s → bestI o < s.i → LoadF (l ++ [f]) (some s)) ∧ (∀ s, snapO f.1 (contF f) = some s → ¬ bestI o < s.i → LoadF (l ++ [f]) o) ∧ (snapO f.1 (contF f) = none → LoadF (l ++ [f]) o) := by
  refine ⟨fun s hs hi => ?_, fun s hs hi => ?_, fun hs => ?_⟩
  · exact load_snoc_whole h (snapO_some hs) (fun q hq => by subst hq; exact Int.le_of_lt hi)
  · have hw : WholeF f s := snapO_some hs
    cases o with
    | none =>
      have h1 := hw.1.1
      have e : bestI none = -1 := rfl
      rw [e] at hi
      omega
    | some p =>
      have e : bestI (some p) = p.i := rfl
      rw [e] at hi
      exact load_snoc_less h hw (by omega)
  · exact load_snoc_not h (snapO_none hs)

set_option maxRecDepth 100000 in
set_option maxHeartbeats 8000000 in
theorem refLoad_any (r : Nat) (v : Value) (s : St) (w : World) (h : RefD w r v s) (hf : Fit s) :
    Calls Tryz.prog 25 #[.pointer (some ⟨r, 0, none⟩)] w fun e w' => (∃ o, LoadF s.files o ∧ e = .returned (optV o)) ∧ Below w.heap.size w w' := by
  obtain ⟨A, cap, rfl⟩ := h.slice
  have H := Lib.hid h
  have Hf := Lib.hid hf
  obtain ⟨n, hn⟩ : ∃ n, n = s.files.length := ⟨_, rfl⟩
  have Hn := Lib.hid hn
  have hn6 : n ≤ 1000000 := by rw [hn]; exact hf.len
  obtain ⟨wb, hwb⟩ : ∃ wb, wb = (w.alloc (.cells #[.int .i64 0, .int .i64 0, .string { data := #[] }] 33)).alloc (.cells #[.int .i64 (-1), .int .i64 0, .string { data := #[] }] 33) := ⟨_, rfl⟩
  have Bb : Hid (Below w.heap.size w wb) := Lib.hid (by rw [hwb]; exact ((Below.refl _ _).alloc (Nat.le_refl _) _).alloc (by simp) _)
  have Hg0 : Hid (Holds wb w.heap.size 33 zero3) := Lib.hid (by rw [hwb]; exact (Holds.new w 33 _).alloc _)
  have Hb0 : Hid (Holds wb (w.heap.size + 1) 33 (bestC none)) := Lib.hid (by
    have h1 := Holds.new (w.alloc (.cells #[.int .i64 0, .int .i64 0, .string { data := #[] }] 33)) 33 #[.int .i64 (-1), .int .i64 0, .string { data := #[] }]
    simp only [World.size_alloc] at h1
    rw [hwb]; exact h1)
  have Hwb := Lib.hid hwb
  rw [← hn] at H
  clear hwb h hf hn
  go_enter Tryz.func25, Tryz.ntmps25
  go_wp2_with fail
  rw [← Hwb.out]
  go_loopw [5, 6, 7] (fun iv _ _ wr => ∃ (i : Nat) (o : Option Sh), i ≤ n ∧ iv = .int .i64 i ∧ LoadF (s.files.take i) o ∧ Holds wr w.heap.size 33 zero3 ∧ Holds wr (w.heap.size + 1) 33 (bestC o) ∧ Below w.heap.size w wr) (fun iv _ _ _ => n - (intOf iv).toNat)
  case atStart => exact ⟨0, none, Nat.zero_le _, rfl, by rw [List.take_zero]; exact load_nil, Hg0.out, Hb0.out, Bb.out⟩
  case round =>
    clear Hg0 Hb0 Bb
    obtain ⟨i, o, hi, rfl, hlo, hg, hbst, hb⟩ := hrel
    have Hl := Lib.hid hlo
    have Hg := Lib.hid hg
    have Hbs := Lib.hid hbst
    have B := Lib.hid hb
    have Hr := Lib.hid (H.out.below hb)
    clear hlo hg hbst hb
    obtain ⟨c0, _, _, _, _⟩ := Hr.out.cells
    by_cases hlt : i < n
    · have hltz : (i : Int) < (n : Int) := by omega
      obtain ⟨f, hfi⟩ : ∃ f, s.files[i]? = some f := ⟨_, List.getElem?_eq_getElem (by rw [← Hn.out]; exact hlt)⟩
      obtain ⟨g, cap', hv, hgr, hgl, d0, d1, d2, _⟩ := Hr.out.file hfi
      injection hv with e1 e2 e3
      subst e1 e3
      have Htk : Hid (s.files.take (i + 1) = s.files.take i ++ [f]) := Lib.hid (by rw [List.take_add_one, hfi]; rfl)
      have hsz1 : (bs f.2.1).size = f.2.1.length := bs_size _
      have hsz2 : (bs f.2.2).size = f.2.2.length := bs_size _
      have husd := used_mem (List.mem_of_getElem? hfi)
      have hfu := Hf.out.used
      unfold sizeF at husd
      have hcc : Hid (bs f.2.1 ++ bs f.2.2 = bs (contF f)) := Lib.hid (by unfold contF; rw [← bs_append])
      have HW := Lib.hid (fun (W : World) => refWhole_any f.1 (contF f) W (by unfold contF; rw [List.length_append]; omega))
      have hsum : f.2.1.length + f.2.2.length ≤ 1000000000 := by omega
      have Hsn := Lib.hid (load_snoc (f := f) Hl.out)
      unfold SnapRet at HW
      rw [← hcc.out] at HW
      have hrl := Hr.out.size
      have Hcs := Lib.hid (And.intro c0 (And.intro d0 (And.intro d1 d2)))
      have Hlt := Lib.hid (And.intro hrl hgl)
      clear hfi husd hfu e2 hgr
      generalize f.2.1.length = m1 at *
      generalize f.2.2.length = m2 at *
      generalize bs f.2.1 = t1 at *
      generalize bs f.2.2 = t2 at *
      generalize bs f.1 = t0 at *
      cases hs : snapO f.1 (contF f) with
      | none =>
        rw [hs] at HW
        unfold optV at HW
        have Hlo := Lib.hid (Hsn.out.2.2 hs)
        clear hs Hsn
        have HS : Hid (∀ W, Below wr.heap.size wr W → W.cell? ⟨r, 0, none⟩ = some (.slice (some ⟨g, 0, none⟩) n cap) ∧ W.cell? ⟨g, i * 3, none⟩ = some (.string t0) ∧ W.cell? ⟨g, i * 3 + 1, none⟩ = some (.string t1) ∧ W.cell? ⟨g, i * 3 + 2, none⟩ = some (.string t2)) := Lib.hid (fun W hb => ⟨(hb.cell (p := ⟨r, 0, none⟩) Hlt.out.1).trans Hcs.out.1, (hb.cell (p := ⟨g, i * 3, none⟩) Hlt.out.2).trans Hcs.out.2.1, (hb.cell (p := ⟨g, i * 3 + 1, none⟩) Hlt.out.2).trans Hcs.out.2.2.1, (hb.cell (p := ⟨g, i * 3 + 2, none⟩) Hlt.out.2).trans Hcs.out.2.2.2⟩)
        have hcat : m1 + m2 ≤ 9223372036854775807 := by omega
        have hcatN : ¬ 9223372036854775807 < m1 + m2 := by omega
        have hcatD : decide (9223372036854775807 < m1 + m2) = false := decide_eq_false hcatN
        go_wp2_with fail
        go_region_held3 (fun W => W.cell? ⟨r, 0, none⟩ = some (.slice (some ⟨g, 0, none⟩) n cap) ∧ W.cell? ⟨g, i * 3, none⟩ = some (.string t0) ∧ W.cell? ⟨g, i * 3 + 1, none⟩ = some (.string t1) ∧ W.cell? ⟨g, i * 3 + 2, none⟩ = some (.string t2))
          (first
            | exact Hcs.out
            | exact HS.out _ Hb3.out
            | exact HS.out _ (((Hb3.out.setCell (p := ⟨wr.heap.size, 0, none⟩) (Nat.le_refl _) _).setCell (p := ⟨wr.heap.size, 1, none⟩) (Nat.le_refl _) _).setCell (p := ⟨wr.heap.size, 2, none⟩) (Nat.le_refl _) _)
            | exact HS.out _ (Hb3.out.alloc Hb3.out.size _)
            | go_keep)
          (first
            | (go_at_call 38; refine (HW.out wr.drew).mono ?_; rintro e w3 ⟨rfl, hb3⟩; have Hb3 : Hid (Below wr.heap.size wr w3) := Lib.hid ((Below.refl _ wr).drew.trans hb3); clear hb3)
            | (go_at_call 38; refine (HW.out _).mono ?_; rintro e w3 ⟨rfl, hb3⟩; have HX0 : Holds (wr.alloc (.cells #[.int .i64 0, .int .i64 0, .string { data := #[] }] 33)).drew wr.heap.size 33 [.int .i64 0, .int .i64 0, .string { data := #[] }] := Holds.new wr 33 #[.int .i64 0, .int .i64 0, .string { data := #[] }]; have Hb3 : Hid (Below wr.heap.size wr w3) := Lib.hid (((Below.refl _ wr).alloc (Nat.le_refl _) _).drew.trans (below_mono' hb3 (Nat.le_of_lt HX0.lt))); have HX3 := HX0.below hb3 HX0.lt; obtain ⟨z0, z1, z2⟩ := holds3 HX3; obtain ⟨zf0, zf1, zf2⟩ := frozen3 HX3; clear hb3 HX0)
            | fail "no arm")
        all_goals
          first
            | (obtain ⟨wz, hwz⟩ : ∃ wz, wz = set3 w3 wr.heap.size (.int .i64 0) (.int .i64 0) (.string { data := #[] }) := ⟨_, rfl⟩
               have XZ : Hid (Holds wz wr.heap.size 33 [.int .i64 0, .int .i64 0, .string { data := #[] }]) := Lib.hid (by rw [hwz]; exact set3_holds HX3 _ _ _)
               have BZ : Hid (Below wr.heap.size wr wz) := Lib.hid (by rw [hwz]; exact set3_below Hb3.out (Nat.le_refl _) _ _ _)
               unfold set3 at hwz
               rw [← hwz]
               clear hwz HX3 z0 z1 z2 zf0 zf1 zf2
               obtain ⟨bx, hbx⟩ : ∃ bx, bx = wr.heap.size := ⟨_, rfl⟩
               rw [← hbx] at XZ
               rw [← hbx]
               clear hbx)
            | (obtain ⟨wz, hwz⟩ : ∃ wz, wz = w3.alloc (.cells #[.int .i64 0, .int .i64 0, .string { data := #[] }] 33) := ⟨_, rfl⟩
               obtain ⟨bx, hbx⟩ : ∃ bx, bx = w3.heap.size := ⟨_, rfl⟩
               have XZ : Hid (Holds wz bx 33 [.int .i64 0, .int .i64 0, .string { data := #[] }]) := Lib.hid (by rw [hwz, hbx]; exact Holds.new w3 33 _)
               have BZ : Hid (Below wr.heap.size wr wz) := Lib.hid (by rw [hwz]; exact Hb3.out.alloc Hb3.out.size _)
               rw [← hwz, ← hbx]
               clear hwz hbx)
        all_goals
          go_wp2
          go_roundw
          case rel => exact ⟨i + 1, o, by omega, by go_num, by rw [Htk.out]; exact Hlo.out, Hg.out.below BZ.out Hg.out.lt, Hbs.out.below BZ.out Hbs.out.lt, B.out.trans (below_mono' BZ.out B.out.size)⟩
          case measure => simp [intOf]; omega
      | some q =>
        rw [hs] at HW
        unfold optV snapV at HW
        have Hnew : Hid (bestI o < q.i → LoadF (s.files.take i ++ [f]) (some q)) := Lib.hid (Hsn.out.1 q hs)
        have Hold : Hid (q.i ≤ bestI o → LoadF (s.files.take i ++ [f]) o) := Lib.hid (fun h => Hsn.out.2.1 q hs (Int.not_lt.2 h))
        clear hs Hsn
        have HS : Hid (∀ W, Below wr.heap.size wr W → W.cell? ⟨r, 0, none⟩ = some (.slice (some ⟨g, 0, none⟩) n cap) ∧ W.cell? ⟨g, i * 3, none⟩ = some (.string t0) ∧ W.cell? ⟨g, i * 3 + 1, none⟩ = some (.string t1) ∧ W.cell? ⟨g, i * 3 + 2, none⟩ = some (.string t2)) := Lib.hid (fun W hb => ⟨(hb.cell (p := ⟨r, 0, none⟩) Hlt.out.1).trans Hcs.out.1, (hb.cell (p := ⟨g, i * 3, none⟩) Hlt.out.2).trans Hcs.out.2.1, (hb.cell (p := ⟨g, i * 3 + 1, none⟩) Hlt.out.2).trans Hcs.out.2.2.1, (hb.cell (p := ⟨g, i * 3 + 2, none⟩) Hlt.out.2).trans Hcs.out.2.2.2⟩)
        have hcat : m1 + m2 ≤ 9223372036854775807 := by omega
        have hcatN : ¬ 9223372036854775807 < m1 + m2 := by omega
        have hcatD : decide (9223372036854775807 < m1 + m2) = false := decide_eq_false hcatN
        go_wp2_with fail
        go_region_held3 (fun W => W.cell? ⟨r, 0, none⟩ = some (.slice (some ⟨g, 0, none⟩) n cap) ∧ W.cell? ⟨g, i * 3, none⟩ = some (.string t0) ∧ W.cell? ⟨g, i * 3 + 1, none⟩ = some (.string t1) ∧ W.cell? ⟨g, i * 3 + 2, none⟩ = some (.string t2))
          (first
            | exact Hcs.out
            | exact HS.out _ Hb3.out
            | exact HS.out _ (((Hb3.out.setCell (p := ⟨wr.heap.size, 0, none⟩) (Nat.le_refl _) _).setCell (p := ⟨wr.heap.size, 1, none⟩) (Nat.le_refl _) _).setCell (p := ⟨wr.heap.size, 2, none⟩) (Nat.le_refl _) _)
            | exact HS.out _ (Hb3.out.alloc Hb3.out.size _)
            | go_keep)
          (first
            | (go_at_call 38; refine (HW.out wr.drew).mono ?_; rintro e w3 ⟨rfl, hb3⟩; have Hb3 : Hid (Below wr.heap.size wr w3) := Lib.hid ((Below.refl _ wr).drew.trans hb3); clear hb3)
            | (go_at_call 38; refine (HW.out _).mono ?_; rintro e w3 ⟨rfl, hb3⟩; have HX0 : Holds (wr.alloc (.cells #[.int .i64 0, .int .i64 0, .string { data := #[] }] 33)).drew wr.heap.size 33 [.int .i64 0, .int .i64 0, .string { data := #[] }] := Holds.new wr 33 #[.int .i64 0, .int .i64 0, .string { data := #[] }]; have Hb3 : Hid (Below wr.heap.size wr w3) := Lib.hid (((Below.refl _ wr).alloc (Nat.le_refl _) _).drew.trans (below_mono' hb3 (Nat.le_of_lt HX0.lt))); have HX3 := HX0.below hb3 HX0.lt; obtain ⟨z0, z1, z2⟩ := holds3 HX3; obtain ⟨zf0, zf1, zf2⟩ := frozen3 HX3; clear hb3 HX0)
            | fail "no arm")
        all_goals
          first
            | (obtain ⟨wz, hwz⟩ : ∃ wz, wz = set3 w3 wr.heap.size (.int .i64 q.i) (.int .i64 q.t) (.string (bs q.d)) := ⟨_, rfl⟩
               have XZ : Hid (Holds wz wr.heap.size 33 [.int .i64 q.i, .int .i64 q.t, .string (bs q.d)]) := Lib.hid (by rw [hwz]; exact set3_holds HX3 _ _ _)
               have BZ : Hid (Below wr.heap.size wr wz) := Lib.hid (by rw [hwz]; exact set3_below Hb3.out (Nat.le_refl _) _ _ _)
               unfold set3 at hwz
               rw [← hwz]
               clear hwz HX3 z0 z1 z2 zf0 zf1 zf2
               obtain ⟨bx, hbx⟩ : ∃ bx, bx = wr.heap.size := ⟨_, rfl⟩
               rw [← hbx] at XZ
               rw [← hbx]
               clear hbx)
            | (obtain ⟨wz, hwz⟩ : ∃ wz, wz = w3.alloc (.cells #[.int .i64 q.i, .int .i64 q.t, .string (bs q.d)] 33) := ⟨_, rfl⟩
               obtain ⟨bx, hbx⟩ : ∃ bx, bx = w3.heap.size := ⟨_, rfl⟩
               have XZ : Hid (Holds wz bx 33 [.int .i64 q.i, .int .i64 q.t, .string (bs q.d)]) := Lib.hid (by rw [hwz, hbx]; exact Holds.new w3 33 _)
               have BZ : Hid (Below wr.heap.size wr wz) := Lib.hid (by rw [hwz]; exact Hb3.out.alloc Hb3.out.size _)
               rw [← hwz, ← hbx]
               clear hwz hbx)
        all_goals
          obtain ⟨y0, y1, y2⟩ := holds3 XZ.out
          obtain ⟨ob, oc, hob⟩ := bestC_first o
          have HO := Hbs.out.below BZ.out Hbs.out.lt
          rw [hob] at HO
          obtain ⟨v0, v1, v2⟩ := holds3 HO
          obtain ⟨f0, f1, f2⟩ := frozen3 HO
          by_cases hgt : bestI o < q.i
          · have Hl2 := Lib.hid (Hnew.out hgt)
            have HN := Lib.hid (set3_holds HO (.int .i64 q.i) (.int .i64 q.t) (.string (bs q.d)))
            have HG2 : Hid (Holds (set3 wz (w.heap.size + 1) (.int .i64 q.i) (.int .i64 q.t) (.string (bs q.d))) w.heap.size 33 zero3) := Lib.hid ((((Hg.out.below BZ.out Hg.out.lt).aside (a := ⟨w.heap.size + 1, 0, none⟩) (by simp) _).aside (a := ⟨w.heap.size + 1, 1, none⟩) (by simp) _).aside (a := ⟨w.heap.size + 1, 2, none⟩) (by simp) _)
            have HB2 : Hid (Below w.heap.size w (set3 wz (w.heap.size + 1) (.int .i64 q.i) (.int .i64 q.t) (.string (bs q.d)))) := Lib.hid (set3_below (B.out.trans (below_mono' BZ.out B.out.size)) (Nat.le_succ _) _ _ _)
            clear HO
            go_wp2
            go_roundw
            case rel => exact ⟨i + 1, some q, by omega, by go_num, by rw [Htk.out]; exact Hl2.out, HG2.out, HN.out, HB2.out⟩
            case measure => simp [intOf]; omega
          · have Hl2 := Lib.hid (Hold.out (Int.not_lt.1 hgt))
            have HG2 := Lib.hid (Hg.out.below BZ.out Hg.out.lt)
            have HB2 := Lib.hid (B.out.trans (below_mono' BZ.out B.out.size))
            have HO2 := Lib.hid (Hbs.out.below BZ.out Hbs.out.lt)
            clear HO
            go_wp2
            go_roundw
            case rel => exact ⟨i + 1, o, by omega, by go_num, by rw [Htk.out]; exact Hl2.out, HG2.out, HO2.out, HB2.out⟩
            case measure => simp [intOf]; omega
    · obtain rfl : i = n := by omega
      have hltz : ¬ (i : Int) < (i : Int) := by omega
      have Hall : Hid (LoadF s.files o) := Lib.hid (by have := Hl.out; rw [List.take_of_length_le (by rw [← Hn.out]; exact Nat.le_refl _)] at this; exact this)
      cases o with
      | none =>
        obtain ⟨v0, v1, v2⟩ := holds3 Hbs.out
        obtain ⟨c0', c1', c2'⟩ := holds3 Hg.out
        obtain ⟨f0, f1, f2⟩ := frozen3 Hg.out
        have hneg : (-1 : Int) < 0 := by omega
        go_wp2
        change bodyPost Tryz.prog Tryz.f25 _ Exit.ret _ (set3 wr w.heap.size (.int .i64 0) (.int .i64 0) (.string { data := #[] }))
        have HX := set3_holds Hg.out (.int .i64 0) (.int .i64 0) (.string { data := #[] })
        have BX := Lib.hid (set3_below B.out (Nat.le_refl _) (.int .i64 0) (.int .i64 0) (.string { data := #[] }))
        generalize set3 wr w.heap.size (.int .i64 0) (.int .i64 0) (.string { data := #[] }) = wx at *
        obtain ⟨x0, x1, x2⟩ := holds3 HX
        exact bodyPost_ret (v := optV none) (by simp [results, Tryz.results25, go_sem, x0, x1, x2, optV]) rfl ⟨⟨none, Hall.out, rfl⟩, BX.out⟩
      | some q =>
        have hq0 : ¬ q.i < 0 := by
          obtain ⟨_, _, hw⟩ := Hall.out.here
          have := hw.1.1; omega
        obtain ⟨v0, v1, v2⟩ := holds3 (show Holds wr (w.heap.size + 1) 33 [.int .i64 q.i, .int .i64 q.t, .string (bs q.d)] from Hbs.out)
        obtain ⟨c0', c1', c2'⟩ := holds3 Hg.out
        obtain ⟨f0, f1, f2⟩ := frozen3 Hg.out
        go_wp2
        change bodyPost Tryz.prog Tryz.f25 _ Exit.ret _ (set3 wr w.heap.size (.int .i64 q.i) (.int .i64 q.t) (.string (bs q.d)))
        have HX := set3_holds Hg.out (.int .i64 q.i) (.int .i64 q.t) (.string (bs q.d))
        have BX := Lib.hid (set3_below B.out (Nat.le_refl _) (.int .i64 q.i) (.int .i64 q.t) (.string (bs q.d)))
        generalize set3 wr w.heap.size (.int .i64 q.i) (.int .i64 q.t) (.string (bs q.d)) = wx at *
        obtain ⟨x0, x1, x2⟩ := holds3 HX
        exact bodyPost_ret (v := optV (some q)) (by simp [results, Tryz.results25, go_sem, x0, x1, x2, optV, snapV]) rfl ⟨⟨some q, Hall.out, rfl⟩, BX.out⟩
end Go.Proofs.YtmgbmphheagdmaaGreatDoor
