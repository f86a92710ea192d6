/-
  The contract of the reference's Clean.
-/
import Derived.Test.YtmgbmphheagdmaaGreatDoorVC
import Derived.Test.YtmgbmphheagdmaaGreatDoorMJ
namespace Go.Proofs.YtmgbmphheagdmaaGreatDoor
open Go.RowKit

/-- Does Clean remove a file of this name? -/
def dropsO (o : Option Sh) (nm : List UInt8) : Bool := decide (FormS nm) && goes o nm
theorem goneS_drop {o : Option Sh} {l : List Fl} : goneS o l = (l.map (·.1)).filter (dropsO o) := by
  unfold goneS
  congr 1
set_option maxRecDepth 100000 in
set_option maxHeartbeats 8000000 in
theorem refClean_none (r : Nat) (v : Value) (d : St) (w : World) (h : RefD w r v d) (hfit : Fit d) (ho' : d.off = false) (hl : LoadF d.files none) (hr : RiseF d.files) :
    Calls Tryz.prog 15 #[.pointer (some ⟨r, 0, none⟩)] w (RefRet (.int .i64 (cleanS none d).1) r v (cleanS none d).2 w) := by
  have HL := Lib.hid (refLoad_any r v d w h hfit)
  obtain ⟨i0, hi0, hz0, hz1, hz2⟩ := info_parts infoF
  obtain ⟨A, cap, rfl⟩ := h.slice
  have Hd := Lib.hid h
  have Hl := Lib.hid hl
  have Hr := Lib.hid hr
  have Hfit := Lib.hid hfit
  obtain ⟨n, hn⟩ : ∃ n, n = d.files.length := ⟨_, rfl⟩
  have Hn := Lib.hid hn
  have hn6 : n ≤ 1000000 := by rw [hn]; exact hfit.len
  have Hcl : Hid (cleanS none d = remS ((d.files.map (·.1)).filter (dropsO none)) d) := Lib.hid (by unfold cleanS; rw [if_neg (by rw [ho']; simp), goneS_drop])
  obtain ⟨_, _, _, c3, _⟩ := h.cells
  rw [ho'] at c3
  rw [← hn] at Hd
  rw [← hn]
  clear h hl hr hn hfit ho'
  go_enter Tryz.func15, Tryz.ntmps15
  go_wp2_with fail
  refine HL.out.mono ?_
  rintro e w1 ⟨⟨o, hlo, rfl⟩, hb1⟩
  obtain rfl : o = none := load_unique Hr.out hlo Hl.out
  have B1 := Lib.hid hb1
  clear hlo HL hb1 c3
  unfold optV
  obtain ⟨bxc, hbxc⟩ : ∃ b : Array Value, b = #[.int .i64 0, .int .i64 0, .string { data := #[] }] := ⟨_, rfl⟩
  have Hbx0 : Hid (Holds (w1.alloc (.cells #[.int .i64 0, .int .i64 0, .string { data := #[] }] 33)) w1.heap.size 33 [.int .i64 0, .int .i64 0, .string { data := #[] }]) := Lib.hid (Holds.new w1 33 _)
  have D1 := Lib.hid (Hd.out.below B1.out)
  obtain ⟨c0, _, _, _, _⟩ := D1.out.cells
  have cc0 : ((w1.alloc (.cells #[.int .i64 0, .int .i64 0, .string { data := #[] }] 33)).alloc (.cells #[] 80)).cell? ⟨r, 0, none⟩ = some (.slice A n cap) := ((((Below.refl _ w1).alloc (Nat.le_refl _) (.cells #[.int .i64 0, .int .i64 0, .string { data := #[] }] 33)).alloc (by simp) (.cells #[] 80)).cell (p := ⟨r, 0, none⟩) D1.out.size).trans c0
  have ne0 : (w1.heap.size == r) = false := beq_eq_false_iff_ne.2 (by have := D1.out.size; omega)
  have ne1 : (w1.heap.size + 1 == r) = false := beq_eq_false_iff_ne.2 (by have := D1.out.size; omega)
  have Ha0 : Hid (Below (w1.heap.size + 1) (w1.alloc (.cells #[.int .i64 0, .int .i64 0, .string { data := #[] }] 33)) ((w1.alloc (.cells #[.int .i64 0, .int .i64 0, .string { data := #[] }] 33)).alloc (.cells #[] 80))) := Lib.hid ((Below.refl _ _).alloc (by simp) _)
  have Hown0 : Hid (((w1.alloc (.cells #[.int .i64 0, .int .i64 0, .string { data := #[] }] 33)).alloc (.cells #[] 80)).ownsRow (w1.heap.size + 1) 80 3 (.slice (some ⟨w1.heap.size + 1, 0, none⟩) 0 0) 0 []) := Lib.hid (by
    have := own_none (w1.alloc (.cells #[.int .i64 0, .int .i64 0, .string { data := #[] }] 33)) 80 3
    simpa only [World.size_alloc] using this)
  have Hrow1 : Hid (RowAt ((w1.alloc (.cells #[.int .i64 0, .int .i64 0, .string { data := #[] }] 33)).alloc (.cells #[] 80)) A (flC d.files)) := Lib.hid (by
    have h1 := D1.out.first n
    rw [List.take_of_length_le (by rw [Hn.out]; exact Nat.le_refl _)] at h1
    exact h1.below (((Below.refl _ w1).alloc (Nat.le_refl _) (.cells #[.int .i64 0, .int .i64 0, .string { data := #[] }] 33)).alloc (by simp) (.cells #[] 80)) (Nat.le_refl _))
  have Ht1 : Hid ((flC d.files).length = n * 3) := Lib.hid (by rw [flC_length, Hn.out])
  clear hbxc bxc
  go_wp2_with (first
    | (at_builtin; go_loud (refine wpList_behind rfl (.tmp 18) (.tmp 22) 43 rfl (w1.heap.size + 1) 80 i0 _ 3 48 Tryz.underlying43 hi0 hz0 hz1 hz2 rfl (by omega) (by omega) (w1.heap.size + 1) 0 0 (Nat.le_refl _) [] rfl Hown0.out A n cap (flC d.files) rfl Hrow1.out Ht1.out (flC_one _) (by omega) (w1.alloc (.cells #[.int .i64 0, .int .i64 0, .string { data := #[] }] 33)) Ha0.out (by simp) ?_); intro g3 cap3 w3 hown3 hb3; rw [Nat.zero_add, List.nil_append] at hown3
       have W3 : Hid (Below w.heap.size w w3) := Lib.hid (B1.out.trans (below_mono' (((Below.refl _ w1).alloc (Nat.le_refl _) (.cells #[.int .i64 0, .int .i64 0, .string { data := #[] }] 33)).trans (below_mono' hb3 (Nat.le_succ _))) B1.out.size))
       have D3 := Lib.hid (Hd.out.below W3.out)
       have Hbx : Hid (Holds w3 w1.heap.size 33 [.int .i64 0, .int .i64 0, .string { data := #[] }]) := Lib.hid (Hbx0.out.below hb3 (Nat.lt_succ_self _))
       have Hown := Lib.hid hown3
       have Hg3 : Hid (w1.heap.size + 1 ≤ g3 ∧ g3 < w3.heap.size) := Lib.hid (hown3.lt g3 rfl)
       have Hbl : Hid (w1.heap.size < w3.heap.size) := Lib.hid (Nat.lt_of_lt_of_le (by simp) hb3.size)
       clear hown3 hb3 Hown0 Hrow1 Ha0 Hbx0 c0))
  have Hfoot : Hid (∀ k, Foot r (.slice A n cap) k → k < w.heap.size) := Lib.hid (fun k hf => hf.elim (fun e => by have := Hd.out.size; omega) (fun e => by have := (Hd.out.own.lt _ e).2; omega))
  have Hbf : Hid (¬ Foot r (.slice A n cap) w1.heap.size) := Lib.hid (fun h => by have := Hfoot.out _ h; have := B1.out.size; omega)
  have Hgf : Hid (¬ Foot r (.slice A n cap) g3) := Lib.hid (fun h => by have := Hfoot.out _ h; have := B1.out.size; have := Hg3.out.1; omega)
  obtain ⟨v, hv⟩ : ∃ v, v = Value.slice A n cap := ⟨_, rfl⟩
  rw [← hv] at Hd D3 D1 Hfoot Hbf Hgf
  rw [← hv]
  have Hv := Lib.hid hv
  clear hv
  have HU : Hid (∀ e w' v', e = Ending.returned (Value.int .i64 (cleanS none d).1) → RefD w' r v' (cleanS none d).2 → Only (Foot r v) w3 w' → (∀ k, v'.ownBlock = some k → v.ownBlock = some k ∨ w3.heap.size ≤ k) → RefRet (.int .i64 (cleanS none d).1) r v (cleanS none d).2 w e w') := Lib.hid (fun e w' v' h1 h2 h3 h4 => ⟨h1, v', h2, (((Only.refl (Foot r v) w).below_new W3.out).then h3 (fun k hk => .inl hk)), fun k hk => (h4 k hk).imp id (fun h => Nat.le_trans W3.out.size h)⟩)
  go_loopw [6, 7, 8] (fun iv _ _ wr => ∃ (i : Nat) (v' : Value) (dq : St), i ≤ n ∧ iv = .int .i64 i ∧ remS (((d.files.take i).map (·.1)).filter (dropsO none)) d = (0, dq) ∧ Fit dq ∧ RefD wr r v' dq ∧ Only (Foot r v) w3 wr ∧ ∀ k, v'.ownBlock = some k → v.ownBlock = some k ∨ w3.heap.size ≤ k) (fun iv _ _ _ => n - (intOf iv).toNat)
  case atStart => exact ⟨0, v, d, Nat.zero_le _, rfl, rfl, Hfit.out, D3.out, Only.refl _ _, fun k hk => .inl hk⟩
  case round =>
    obtain ⟨i, v', dq, hi, rfl, hrem, hfq, hdq, honly, hnew⟩ := hrel
    have Hrem := Lib.hid hrem
    have Hfq := Lib.hid hfq
    have Hdq := Lib.hid hdq
    have Ho := Lib.hid honly
    have Hg := Lib.hid hnew
    clear hrem hfq hdq honly hnew
    by_cases hlt : i < n
    · have hltz : (i : Int) < (n : Int) := by omega
      obtain ⟨f, hfi⟩ : ∃ f, d.files[i]? = some f := ⟨_, List.getElem?_eq_getElem (by rw [← Hn.out]; exact hlt)⟩
      obtain ⟨x, hx⟩ : ∃ x, x = f.1 := ⟨_, rfl⟩
      have e0 : w3.cell? ⟨g3, i * 3, none⟩ = some (.string (bs x)) := by
        obtain ⟨c0, _, _⟩ := flC_at d.files i f hfi
        rw [hx, Hown.out.cellAt _ (by omega)]
        exact c0
      have e1 : wr.cell? ⟨g3, i * 3, none⟩ = some (.string (bs x)) := (Ho.out.cell (p := ⟨g3, i * 3, none⟩) Hg3.out.2 Hgf.out).trans e0
      have Htk : Hid ((d.files.take (i + 1)).map (·.1) = (d.files.take i).map (·.1) ++ [x]) := Lib.hid (by rw [List.take_add_one, hfi, hx]; simp)
      have HN := Lib.hid (fun (W : World) => refNamed_any (bs x) W)
      rw [bl_bs] at HN
      clear e0 hfi hx
      by_cases hfo : FormS x
      · rw [decide_eq_true hfo] at HN
        have hgo : dropsO none x = true := by unfold dropsO goes; simp [hfo]
        obtain ⟨r0, hr0⟩ : ∃ r, r = removeS x dq := ⟨_, rfl⟩
        have Hfr : Hid (Fit r0.2) := Lib.hid (by rw [hr0]; exact fit_rem Hfq.out)
        have Hst : Hid (remS (((d.files.take (i + 1)).map (·.1)).filter (dropsO none)) d = r0) := Lib.hid (by
          have hfx : [x].filter (dropsO none) = [x] := by simp [hgo]
          rw [Htk.out, List.filter_append, remS_append, Hrem.out, if_neg (by simp), hfx, remS_one, ← hr0])
        have HM := Lib.hid (fun (W : World) (hb : Below wr.heap.size wr W) => refremove_any x r v' dq W (Hdq.out.below hb) Hfq.out)
        rw [← hr0] at HM
        clear hr0 hgo

        generalize hxv : bs x = xv at *
        clear hxv
        go_wp2_with fail
        refine (HN.out wr).mono ?_
        rintro e w4 ⟨rfl, hw4⟩
        replace hw4 := hw4.symm
        subst hw4
        clear HN
        go_wp2_with fail
        refine (HM.out _ (Below.refl wr.heap.size wr)).mono ?_
        rintro e w5 ⟨rfl, v5, hd5, ho5, hg5⟩
        have D5 := Lib.hid hd5
        have O5 : Hid (Only (Foot r v) w3 w5) := Lib.hid ((Ho.out.below_new (Below.refl wr.heap.size wr)).then ho5 (fun k hk => hk.elim (fun e => .inl (.inl e)) (fun h => (Hg.out k h).imp .inr id)))
        have G5 : Hid (∀ k, v5.ownBlock = some k → v.ownBlock = some k ∨ w3.heap.size ≤ k) := Lib.hid (fun k hk => (hg5 k hk).elim (Hg.out k) (fun h => .inr (Nat.le_trans (Nat.le_trans Ho.out.size (Below.refl wr.heap.size wr).size) h)))
        clear hd5 ho5 hg5 HM
        by_cases h0 : r0.1 = 0
        · rw [h0]
          have Hst2 : Hid (remS (((d.files.take (i + 1)).map (·.1)).filter (dropsO none)) d = (0, r0.2)) := Lib.hid (by rw [Hst.out, ← h0])
          clear h0
          go_wp2
          go_roundw
          case rel => exact ⟨i + 1, v5, r0.2, by omega, by go_num, Hst2.out, Hfr.out, D5.out, O5.out, G5.out⟩
          case measure => simp [intOf]; omega
        · have h0n : (r0.1 != 0) = true := by simpa using h0
          have Hres : Hid (cleanS none d = r0) := Lib.hid (by
            rw [Hcl.out, ← List.take_append_drop (i + 1) d.files, List.map_append, List.filter_append, remS_append, Hst.out, if_pos h0])
          clear h0
          go_wp2
          go_ret
          exact HU.out _ _ _ (by rw [Hres.out]; rfl) (by rw [Hres.out]; exact D5.out) O5.out G5.out
      · rw [decide_eq_false hfo] at HN
        have hgo : dropsO none x = false := by unfold dropsO; simp [hfo]
        have Hst : Hid (remS (((d.files.take (i + 1)).map (·.1)).filter (dropsO none)) d = (0, dq)) := Lib.hid (by
          rw [Htk.out, List.filter_append]
          simp only [List.filter_cons, hgo, List.filter_nil]
          simpa using Hrem.out)
        clear hgo

        generalize hxv : bs x = xv at *
        clear hxv hfo
        go_wp2_with fail
        refine (HN.out wr).mono ?_
        rintro e w4 ⟨rfl, hw4⟩
        replace hw4 := hw4.symm
        subst hw4
        clear HN
        go_wp2
        go_roundw
        case rel => exact ⟨i + 1, v', dq, by omega, by go_num, Hst.out, Hfq.out, Hdq.out, Ho.out, Hg.out⟩
        case measure => simp [intOf]; omega
    · obtain rfl : i = n := by omega
      have hltz : ¬ (i : Int) < (i : Int) := by omega
      have Hres : Hid (cleanS none d = (0, dq)) := Lib.hid (by
        rw [Hcl.out, ← Hrem.out, List.take_of_length_le (by rw [← Hn.out]; exact Nat.le_refl _)])
      go_wp2
      go_ret
      rw [← Hv.out]
      exact HU.out _ _ v' (by rw [Hres.out]; rfl) (by rw [Hres.out]; exact Hdq.out) Ho.out Hg.out
set_option maxRecDepth 100000 in
set_option maxHeartbeats 8000000 in
theorem refClean_some (q : Sh) (r : Nat) (v : Value) (d : St) (w : World) (h : RefD w r v d) (hfit : Fit d) (ho' : d.off = false) (hl : LoadF d.files (some q)) (hr : RiseF d.files) :
    Calls Tryz.prog 15 #[.pointer (some ⟨r, 0, none⟩)] w (RefRet (.int .i64 (cleanS (some q) d).1) r v (cleanS (some q) d).2 w) := by
  have HL := Lib.hid (refLoad_any r v d w h hfit)
  obtain ⟨i0, hi0, hz0, hz1, hz2⟩ := info_parts infoF
  obtain ⟨A, cap, rfl⟩ := h.slice
  have Hd := Lib.hid h
  have Hl := Lib.hid hl
  have Hr := Lib.hid hr
  have Hfit := Lib.hid hfit
  obtain ⟨n, hn⟩ : ∃ n, n = d.files.length := ⟨_, rfl⟩
  have Hn := Lib.hid hn
  have hn6 : n ≤ 1000000 := by rw [hn]; exact hfit.len
  have Hcl : Hid (cleanS (some q) d = remS ((d.files.map (·.1)).filter (dropsO (some q))) d) := Lib.hid (by unfold cleanS; rw [if_neg (by rw [ho']; simp), goneS_drop])
  obtain ⟨_, _, _, c3, _⟩ := h.cells
  rw [ho'] at c3
  rw [← hn] at Hd
  rw [← hn]
  clear h hl hr hn hfit ho'
  go_enter Tryz.func15, Tryz.ntmps15
  go_wp2_with fail
  refine HL.out.mono ?_
  rintro e w1 ⟨⟨o, hlo, rfl⟩, hb1⟩
  obtain rfl : o = (some q) := load_unique Hr.out hlo Hl.out
  have B1 := Lib.hid hb1
  clear hlo HL hb1 c3
  have Hok : Hid (okS q) := Lib.hid (by obtain ⟨f, _, hw⟩ := Hl.out.here; exact hw.1)
  unfold optV snapV
  obtain ⟨bxc, hbxc⟩ : ∃ b : Array Value, b = #[.int .i64 q.i, .int .i64 q.t, .string (bs q.d)] := ⟨_, rfl⟩
  have Hbx0 : Hid (Holds (w1.alloc (.cells #[.int .i64 q.i, .int .i64 q.t, .string (bs q.d)] 33)) w1.heap.size 33 [.int .i64 q.i, .int .i64 q.t, .string (bs q.d)]) := Lib.hid (Holds.new w1 33 _)
  have D1 := Lib.hid (Hd.out.below B1.out)
  obtain ⟨c0, _, _, _, _⟩ := D1.out.cells
  have cc0 : ((w1.alloc (.cells #[.int .i64 q.i, .int .i64 q.t, .string (bs q.d)] 33)).alloc (.cells #[] 80)).cell? ⟨r, 0, none⟩ = some (.slice A n cap) := ((((Below.refl _ w1).alloc (Nat.le_refl _) (.cells #[.int .i64 q.i, .int .i64 q.t, .string (bs q.d)] 33)).alloc (by simp) (.cells #[] 80)).cell (p := ⟨r, 0, none⟩) D1.out.size).trans c0
  have ne0 : (w1.heap.size == r) = false := beq_eq_false_iff_ne.2 (by have := D1.out.size; omega)
  have ne1 : (w1.heap.size + 1 == r) = false := beq_eq_false_iff_ne.2 (by have := D1.out.size; omega)
  have Ha0 : Hid (Below (w1.heap.size + 1) (w1.alloc (.cells #[.int .i64 q.i, .int .i64 q.t, .string (bs q.d)] 33)) ((w1.alloc (.cells #[.int .i64 q.i, .int .i64 q.t, .string (bs q.d)] 33)).alloc (.cells #[] 80))) := Lib.hid ((Below.refl _ _).alloc (by simp) _)
  have Hown0 : Hid (((w1.alloc (.cells #[.int .i64 q.i, .int .i64 q.t, .string (bs q.d)] 33)).alloc (.cells #[] 80)).ownsRow (w1.heap.size + 1) 80 3 (.slice (some ⟨w1.heap.size + 1, 0, none⟩) 0 0) 0 []) := Lib.hid (by
    have := own_none (w1.alloc (.cells #[.int .i64 q.i, .int .i64 q.t, .string (bs q.d)] 33)) 80 3
    simpa only [World.size_alloc] using this)
  have Hrow1 : Hid (RowAt ((w1.alloc (.cells #[.int .i64 q.i, .int .i64 q.t, .string (bs q.d)] 33)).alloc (.cells #[] 80)) A (flC d.files)) := Lib.hid (by
    have h1 := D1.out.first n
    rw [List.take_of_length_le (by rw [Hn.out]; exact Nat.le_refl _)] at h1
    exact h1.below (((Below.refl _ w1).alloc (Nat.le_refl _) (.cells #[.int .i64 q.i, .int .i64 q.t, .string (bs q.d)] 33)).alloc (by simp) (.cells #[] 80)) (Nat.le_refl _))
  have Ht1 : Hid ((flC d.files).length = n * 3) := Lib.hid (by rw [flC_length, Hn.out])
  clear hbxc bxc
  go_wp2_with (first
    | (at_builtin; go_loud (refine wpList_behind rfl (.tmp 18) (.tmp 22) 43 rfl (w1.heap.size + 1) 80 i0 _ 3 48 Tryz.underlying43 hi0 hz0 hz1 hz2 rfl (by omega) (by omega) (w1.heap.size + 1) 0 0 (Nat.le_refl _) [] rfl Hown0.out A n cap (flC d.files) rfl Hrow1.out Ht1.out (flC_one _) (by omega) (w1.alloc (.cells #[.int .i64 q.i, .int .i64 q.t, .string (bs q.d)] 33)) Ha0.out (by simp) ?_); intro g3 cap3 w3 hown3 hb3; rw [Nat.zero_add, List.nil_append] at hown3
       have W3 : Hid (Below w.heap.size w w3) := Lib.hid (B1.out.trans (below_mono' (((Below.refl _ w1).alloc (Nat.le_refl _) (.cells #[.int .i64 q.i, .int .i64 q.t, .string (bs q.d)] 33)).trans (below_mono' hb3 (Nat.le_succ _))) B1.out.size))
       have D3 := Lib.hid (Hd.out.below W3.out)
       have Hbx : Hid (Holds w3 w1.heap.size 33 [.int .i64 q.i, .int .i64 q.t, .string (bs q.d)]) := Lib.hid (Hbx0.out.below hb3 (Nat.lt_succ_self _))
       have Hown := Lib.hid hown3
       have Hg3 : Hid (w1.heap.size + 1 ≤ g3 ∧ g3 < w3.heap.size) := Lib.hid (hown3.lt g3 rfl)
       have Hbl : Hid (w1.heap.size < w3.heap.size) := Lib.hid (Nat.lt_of_lt_of_le (by simp) hb3.size)
       clear hown3 hb3 Hown0 Hrow1 Ha0 Hbx0 c0))
  have Hfoot : Hid (∀ k, Foot r (.slice A n cap) k → k < w.heap.size) := Lib.hid (fun k hf => hf.elim (fun e => by have := Hd.out.size; omega) (fun e => by have := (Hd.out.own.lt _ e).2; omega))
  have Hbf : Hid (¬ Foot r (.slice A n cap) w1.heap.size) := Lib.hid (fun h => by have := Hfoot.out _ h; have := B1.out.size; omega)
  have Hgf : Hid (¬ Foot r (.slice A n cap) g3) := Lib.hid (fun h => by have := Hfoot.out _ h; have := B1.out.size; have := Hg3.out.1; omega)
  obtain ⟨v, hv⟩ : ∃ v, v = Value.slice A n cap := ⟨_, rfl⟩
  rw [← hv] at Hd D3 D1 Hfoot Hbf Hgf
  rw [← hv]
  have Hv := Lib.hid hv
  clear hv
  have HU : Hid (∀ e w' v', e = Ending.returned (Value.int .i64 (cleanS (some q) d).1) → RefD w' r v' (cleanS (some q) d).2 → Only (Foot r v) w3 w' → (∀ k, v'.ownBlock = some k → v.ownBlock = some k ∨ w3.heap.size ≤ k) → RefRet (.int .i64 (cleanS (some q) d).1) r v (cleanS (some q) d).2 w e w') := Lib.hid (fun e w' v' h1 h2 h3 h4 => ⟨h1, v', h2, (((Only.refl (Foot r v) w).below_new W3.out).then h3 (fun k hk => .inl hk)), fun k hk => (h4 k hk).imp id (fun h => Nat.le_trans W3.out.size h)⟩)
  go_loopw [6, 7, 8] (fun iv _ _ wr => ∃ (i : Nat) (v' : Value) (dq : St), i ≤ n ∧ iv = .int .i64 i ∧ remS (((d.files.take i).map (·.1)).filter (dropsO (some q))) d = (0, dq) ∧ Fit dq ∧ RefD wr r v' dq ∧ Only (Foot r v) w3 wr ∧ ∀ k, v'.ownBlock = some k → v.ownBlock = some k ∨ w3.heap.size ≤ k) (fun iv _ _ _ => n - (intOf iv).toNat)
  case atStart => exact ⟨0, v, d, Nat.zero_le _, rfl, rfl, Hfit.out, D3.out, Only.refl _ _, fun k hk => .inl hk⟩
  case round =>
    obtain ⟨i, v', dq, hi, rfl, hrem, hfq, hdq, honly, hnew⟩ := hrel
    have Hrem := Lib.hid hrem
    have Hfq := Lib.hid hfq
    have Hdq := Lib.hid hdq
    have Ho := Lib.hid honly
    have Hg := Lib.hid hnew
    clear hrem hfq hdq honly hnew
    by_cases hlt : i < n
    · have hltz : (i : Int) < (n : Int) := by omega
      obtain ⟨f, hfi⟩ : ∃ f, d.files[i]? = some f := ⟨_, List.getElem?_eq_getElem (by rw [← Hn.out]; exact hlt)⟩
      obtain ⟨x, hx⟩ : ∃ x, x = f.1 := ⟨_, rfl⟩
      have e0 : w3.cell? ⟨g3, i * 3, none⟩ = some (.string (bs x)) := by
        obtain ⟨c0, _, _⟩ := flC_at d.files i f hfi
        rw [hx, Hown.out.cellAt _ (by omega)]
        exact c0
      have e1 : wr.cell? ⟨g3, i * 3, none⟩ = some (.string (bs x)) := (Ho.out.cell (p := ⟨g3, i * 3, none⟩) Hg3.out.2 Hgf.out).trans e0
      have Htk : Hid ((d.files.take (i + 1)).map (·.1) = (d.files.take i).map (·.1) ++ [x]) := Lib.hid (by rw [List.take_add_one, hfi, hx]; simp)
      have HN := Lib.hid (fun (W : World) => refNamed_any (bs x) W)
      rw [bl_bs] at HN
      clear e0 hfi hx
      by_cases hfo : FormS x
      · rw [decide_eq_true hfo] at HN
        have HF := Lib.hid (fun (W : World) => refFile_any q.i.toNat W (okS_lt Hok.out))
        have hii : ((q.i.toNat : Nat) : Int) = q.i := by have := Hok.out.1; omega
        rw [hii] at HF
        have d0 : wr.cell? ⟨w1.heap.size, 0, none⟩ = some (.int .i64 q.i) := (Ho.out.cell (p := ⟨w1.heap.size, 0, none⟩) Hbl.out Hbf.out).trans (Hbx.out.cell rfl)
        by_cases hnw : x = shotL q.i.toNat
        · have heq : ((bs x).toList == (bs (shotL q.i.toNat)).toList) = true := by rw [hnw]; simp
          have hgo : dropsO (some q) x = false := by unfold dropsO goes; simp [hnw]
          have Hst : Hid (remS (((d.files.take (i + 1)).map (·.1)).filter (dropsO (some q))) d = (0, dq)) := Lib.hid (by
            rw [Htk.out, List.filter_append]
            simp only [List.filter_cons, hgo, List.filter_nil]
            simpa using Hrem.out)
          clear hgo

          clear hnw hii
          generalize hxv : bs x = xv at *
          clear hxv
          generalize hnv : bs (shotL q.i.toNat) = nv at *
          clear hnv
          go_wp2_with fail
          refine (HN.out wr).mono ?_
          rintro e w4 ⟨rfl, hw4⟩
          replace hw4 := hw4.symm
          subst hw4
          go_wp2_with fail
          refine (HF.out wr).mono ?_
          rintro e wq ⟨rfl, hbq⟩
          have Dq := Lib.hid (Hdq.out.below hbq)
          have Oq := Lib.hid (Ho.out.below_new hbq)
          clear hbq HF HN
          go_wp2
          go_roundw
          case rel => exact ⟨i + 1, v', dq, by omega, by go_num, Hst.out, Hfq.out, Dq.out, Oq.out, Hg.out⟩
          case measure => simp [intOf]; omega
        · have heq : ((bs x).toList == (bs (shotL q.i.toNat)).toList) = false := by
            rw [beq_eq_false_iff_ne, bl_toList, bl_toList, bl_bs, bl_bs]; exact hnw
          have hgo : dropsO (some q) x = true := by unfold dropsO goes; simp [hnw, hfo]
          obtain ⟨r0, hr0⟩ : ∃ r, r = removeS x dq := ⟨_, rfl⟩
          have Hfr : Hid (Fit r0.2) := Lib.hid (by rw [hr0]; exact fit_rem Hfq.out)
          have Hst : Hid (remS (((d.files.take (i + 1)).map (·.1)).filter (dropsO (some q))) d = r0) := Lib.hid (by
            have hfx : [x].filter (dropsO (some q)) = [x] := by simp [hgo]
            rw [Htk.out, List.filter_append, remS_append, Hrem.out, if_neg (by simp), hfx, remS_one, ← hr0])
          have HM := Lib.hid (fun (W : World) (hb : Below wr.heap.size wr W) => refremove_any x r v' dq W (Hdq.out.below hb) Hfq.out)
          rw [← hr0] at HM
          clear hr0 hgo

          clear hnw hii
          generalize hxv : bs x = xv at *
          clear hxv
          generalize hnv : bs (shotL q.i.toNat) = nv at *
          clear hnv
          go_wp2_with fail
          refine (HN.out wr).mono ?_
          rintro e w4 ⟨rfl, hw4⟩
          replace hw4 := hw4.symm
          subst hw4
          go_wp2_with fail
          refine (HF.out wr).mono ?_
          rintro e wq ⟨rfl, hbq⟩
          have Bq := Lib.hid hbq
          clear hbq HF HN
          go_wp2_with fail
          refine (HM.out _ Bq.out).mono ?_
          rintro e w5 ⟨rfl, v5, hd5, ho5, hg5⟩
          have D5 := Lib.hid hd5
          have O5 : Hid (Only (Foot r v) w3 w5) := Lib.hid ((Ho.out.below_new (Bq.out)).then ho5 (fun k hk => hk.elim (fun e => .inl (.inl e)) (fun h => (Hg.out k h).imp .inr id)))
          have G5 : Hid (∀ k, v5.ownBlock = some k → v.ownBlock = some k ∨ w3.heap.size ≤ k) := Lib.hid (fun k hk => (hg5 k hk).elim (Hg.out k) (fun h => .inr (Nat.le_trans (Nat.le_trans Ho.out.size (Bq.out).size) h)))
          clear hd5 ho5 hg5 HM
          by_cases h0 : r0.1 = 0
          · rw [h0]
            have Hst2 : Hid (remS (((d.files.take (i + 1)).map (·.1)).filter (dropsO (some q))) d = (0, r0.2)) := Lib.hid (by rw [Hst.out, ← h0])
            clear h0
            go_wp2
            go_roundw
            case rel => exact ⟨i + 1, v5, r0.2, by omega, by go_num, Hst2.out, Hfr.out, D5.out, O5.out, G5.out⟩
            case measure => simp [intOf]; omega
          · have h0n : (r0.1 != 0) = true := by simpa using h0
            have Hres : Hid (cleanS (some q) d = r0) := Lib.hid (by
              rw [Hcl.out, ← List.take_append_drop (i + 1) d.files, List.map_append, List.filter_append, remS_append, Hst.out, if_pos h0])
            clear h0
            go_wp2
            go_ret
            exact HU.out _ _ _ (by rw [Hres.out]; rfl) (by rw [Hres.out]; exact D5.out) O5.out G5.out
      · rw [decide_eq_false hfo] at HN
        have hgo : dropsO (some q) x = false := by unfold dropsO; simp [hfo]
        have Hst : Hid (remS (((d.files.take (i + 1)).map (·.1)).filter (dropsO (some q))) d = (0, dq)) := Lib.hid (by
          rw [Htk.out, List.filter_append]
          simp only [List.filter_cons, hgo, List.filter_nil]
          simpa using Hrem.out)
        clear hgo

        generalize hxv : bs x = xv at *
        clear hxv hfo
        go_wp2_with fail
        refine (HN.out wr).mono ?_
        rintro e w4 ⟨rfl, hw4⟩
        replace hw4 := hw4.symm
        subst hw4
        clear HN
        go_wp2
        go_roundw
        case rel => exact ⟨i + 1, v', dq, by omega, by go_num, Hst.out, Hfq.out, Hdq.out, Ho.out, Hg.out⟩
        case measure => simp [intOf]; omega
    · obtain rfl : i = n := by omega
      have hltz : ¬ (i : Int) < (i : Int) := by omega
      have Hres : Hid (cleanS (some q) d = (0, dq)) := Lib.hid (by
        rw [Hcl.out, ← Hrem.out, List.take_of_length_le (by rw [← Hn.out]; exact Nat.le_refl _)])
      go_wp2
      go_ret
      rw [← Hv.out]
      exact HU.out _ _ v' (by rw [Hres.out]; rfl) (by rw [Hres.out]; exact Hdq.out) Ho.out Hg.out

set_option maxRecDepth 100000 in
theorem refClean_any (o : Option Sh) (r : Nat) (v : Value) (d : St) (w : World) (h : RefD w r v d) (hfit : Fit d) (hl : d.off = false → LoadF d.files o) (hr : RiseF d.files) :
    Calls Tryz.prog 15 #[.pointer (some ⟨r, 0, none⟩)] w (RefRet (.int .i64 (cleanS o d).1) r v (cleanS o d).2 w) := by
  cases ho : d.off with
  | false =>
    cases o with
    | none => exact refClean_none r v d w h hfit ho (hl ho) hr
    | some q => exact refClean_some q r v d w h hfit ho (hl ho) hr
  | true =>
    have e : cleanS o d = (7, d) := by unfold cleanS; rw [if_pos ho]
    rw [e]
    obtain ⟨_, _, _, c3, _⟩ := h.cells
    rw [ho] at c3
    have H := Lib.hid h
    clear h hl hr ho e hfit
    go_enter Tryz.func15, Tryz.ntmps15
    go_wp2
    go_ret
    exact ⟨rfl, v, H.out, Only.refl _ _, fun k hk => .inl hk⟩
end Go.Proofs.YtmgbmphheagdmaaGreatDoor
