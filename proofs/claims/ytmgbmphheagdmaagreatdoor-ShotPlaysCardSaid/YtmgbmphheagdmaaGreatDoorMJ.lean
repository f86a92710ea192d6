/-
  The contract of shot.Clean.
-/
import Derived.Test.YtmgbmphheagdmaaGreatDoorMI
namespace Go.Proofs.YtmgbmphheagdmaaGreatDoor
open Go.RowKit

/-- Does Clean remove a name that has the form? -/
def goes (o : Option Sh) (nm : List UInt8) : Bool := !(match o with | some s => decide (nm = shotL s.i.toNat) | none => false)
theorem gone_files {o : Option Sh} {d : St} (ho : d.off = false) : goneS o d.files = (filesL d).filter (goes o) := by
  unfold goneS filesL
  rw [namesL_on ho, List.filter_filter]
  congr 1
  funext nm
  unfold goes keepS
  rw [Bool.and_comm]
  cases o <;> rfl
theorem remS_append : ∀ (p r : List (List UInt8)) (d : St), remS (p ++ r) d = if (remS p d).1 ≠ 0 then remS p d else remS r (remS p d).2
  | [], r, d => by simp [remS]
  | nm :: p, r, d => by
    by_cases h : (removeS nm d).1 ≠ 0
    · have e : ∀ l, remS (nm :: l) d = removeS nm d := fun l => by
        show (if (removeS nm d).1 ≠ 0 then removeS nm d else remS l (removeS nm d).2) = _
        rw [if_pos h]
      rw [List.cons_append, e, e, if_pos h]
    · have e : ∀ l, remS (nm :: l) d = remS l (removeS nm d).2 := fun l => by
        show (if (removeS nm d).1 ≠ 0 then removeS nm d else remS l (removeS nm d).2) = _
        rw [if_neg h]
      rw [List.cons_append, e, e]
      exact remS_append p r _
theorem load_off {a : Addr} {d : St} {w : World} (h : Calls Tryz.prog 24 #[.pointer (some a)] w (LoadRet d w)) (ho : d.off = true) : Calls Tryz.prog 24 #[.pointer (some a)] w fun e w' => e = .returned (loadV 7 none) ∧ Below w.heap.size w w' :=
  h.mono fun e w' ⟨h, hb⟩ => ⟨by rwa [if_pos ho] at h, hb⟩
theorem load_on {a : Addr} {d : St} {w : World} (h : Calls Tryz.prog 24 #[.pointer (some a)] w (LoadRet d w)) (ho : ¬ d.off = true) : Calls Tryz.prog 24 #[.pointer (some a)] w fun e w' => (∃ o, LoadF d.files o ∧ e = .returned (loadV 0 o)) ∧ Below w.heap.size w w' :=
  h.mono fun e w' ⟨h, hb⟩ => ⟨by rwa [if_neg ho] at h, hb⟩
theorem remS_one (x : List UInt8) (d : St) : remS [x] d = removeS x d := by
  show (if (removeS x d).1 ≠ 0 then removeS x d else (0, (removeS x d).2)) = _
  by_cases h : (removeS x d).1 = 0
  · rw [if_neg (by simpa using h), ← h]
  · rw [if_pos h]
theorem fit_rem {s : St} (h : Fit s) {nm : List UInt8} : Fit (removeS nm s).2 := by
  have hg := remove_grows nm s
  refine ⟨hg.room0 h.room0, hg.room1 h.room1, hg.fuse0 h.fuse0, hg.fuse1 h.fuse1, Nat.le_trans hg.used h.used, Nat.le_trans ?_ h.len⟩
  unfold removeS onS
  split
  · exact Nat.le_refl _
  · cases atN nm s.files with
    | none => exact Nat.le_refl _
    | some i =>
      simp only
      split
      · exact Nat.le_refl _
      · simp only [List.length_append, List.length_take, List.length_drop]
        omega

set_option maxRecDepth 100000 in
set_option maxHeartbeats 8000000 in
theorem clean_any (o : Option Sh) (a : Addr) (F : Nat → Prop) (d : St) (w : World) (hd : good.D w a F d) (hfit : Fit d) (hl : d.off = false → LoadF d.files o) (ht : TabF F w) :
    Calls Tryz.prog 14 #[.pointer (some a)] w (DRet good.D (.int .i64 (cleanS o d).1) a F (cleanS o d).2 w) := by
  have HL := Lib.hid (load_any a F d w hd hfit ht.here)
  have Hd := Lib.hid hd
  have Hfit := Lib.hid hfit
  have Ht := Lib.hid ht
  have Hfoot := Lib.hid (good.foot hd)
  have Hrise := Lib.hid (good.rise hd)
  clear hd hfit ht
  by_cases ho : d.off = true
  · have HU : Hid (∀ v w', v = Ending.returned (Value.int .i64 7) → Below w.heap.size w w' → DRet good.D (.int .i64 (cleanS o d).1) a F (cleanS o d).2 w v w') := Lib.hid (fun v w' h1 h2 => by
      have e : cleanS o d = (7, d) := by unfold cleanS; rw [if_pos ho]
      rw [e]
      exact ⟨h1, F, good.below Hd.out h2, Only.of_below h2 (fun k hk => .inr hk), fun k hk => .inl hk⟩)
    replace HL := Lib.hid (load_off HL.out ho)
    unfold loadV at HL
    clear ho hl
    go_enter Tryz.func14, Tryz.ntmps14
    go_wp2_with fail
    refine HL.out.mono ?_
    rintro e w1 ⟨rfl, hb1⟩
    have B1 := Lib.hid hb1
    clear hb1 HL
    go_wp2
    go_ret
    exact HU.out _ _ rfl (B1.out.alloc B1.out.size _)
  · have ho' : d.off = false := by cases h : d.off <;> simp_all
    replace HL := Lib.hid (load_on HL.out ho)
    have Hl := Lib.hid (hl ho')
    clear hl
    go_enter Tryz.func14, Tryz.ntmps14
    go_wp2_with fail
    refine HL.out.mono ?_
    rintro e w1 ⟨⟨o2, hl2, rfl⟩, hb1⟩
    obtain rfl : o2 = o := load_unique Hrise.out hl2 Hl.out
    clear HL
    cases o2 with
    | none =>
      unfold loadV
      obtain ⟨w2, hw2⟩ : ∃ w2, w2 = w1.alloc (.cells #[.int .i64 0, .int .i64 0, .string { data := #[] }] 33) := ⟨_, rfl⟩
      have B1 : Hid (Below w.heap.size w w2) := Lib.hid (by rw [hw2]; exact hb1.alloc hb1.size _)
      have Hw2 := Lib.hid hw2
      clear hw2 hb1 hl2
      have HFl := Lib.hid (files_any a F d w2 (good.below Hd.out B1.out) Hfit.out)
      go_wp2_with fail
      rw [← Hw2.out]
      refine HFl.out.mono ?_
      rintro e W2 ⟨A, n, cap, rfl, hn, hcap, hrow, hfar, hb2, hA⟩
      clear HFl
      obtain ⟨l, hl⟩ : ∃ l, l = filesL d := ⟨_, rfl⟩
      rw [← hl] at hn hrow
      have Hn := Lib.hid hn
      have hnn : n ≤ 1000000000 := by
        rw [← hn, hl, filesL_on ho', List.length_map]
        exact Nat.le_trans (List.length_filter_le _ _) (Nat.le_trans Hfit.out.len (by decide))
      have Hrow := Lib.hid hrow
      have Hfar : Hid (∀ g off, A = some (⟨g, off, none⟩ : Addr) → w.heap.size ≤ g ∧ g < W2.heap.size) := Lib.hid (fun g off e => ⟨Nat.le_trans B1.out.size (hfar g off e).1, (hfar g off e).2⟩)
      have HA := Lib.hid hA
      have B2 : Hid (Below w.heap.size w W2) := Lib.hid (B1.out.trans (below_mono' hb2 B1.out.size))
      have D2 := Lib.hid (good.below Hd.out B2.out)
      have T2 := Lib.hid (Ht.out.below B2.out)
      have Hshort : Hid (∀ x ∈ l, x.length ≤ 9223372036854775807) := Lib.hid (fun x hx => by
        rw [hl, filesL_on ho'] at hx
        obtain ⟨f, hf, rfl⟩ := List.mem_map.1 hx
        exact good.short Hd.out f (List.mem_filter.1 hf).1)
      
      clear hn hcap hrow hfar hb2 hA
      have Hcl : Hid (cleanS none d = remS (l.filter (goes none)) d) := Lib.hid (by unfold cleanS; rw [if_neg ho, gone_files ho', ← hl])
      have HU : Hid (∀ v w' F', v = Ending.returned (Value.int .i64 (cleanS none d).1) → good.D w' a F' (cleanS none d).2 → Only F W2 w' → (∀ k, F' k → F k ∨ W2.heap.size ≤ k) → DRet good.D (.int .i64 (cleanS none d).1) a F (cleanS none d).2 w v w') := Lib.hid (fun v w' F' h1 h2 h3 h4 => ⟨h1, F', h2, (((Only.refl F w).below_new B2.out).then h3 (fun k hk => .inl hk)), fun k hk => (h4 k hk).imp id (fun h => Nat.le_trans B2.out.size h)⟩)
      clear ho ho' hl
      go_wp2
      go_loopw [7, 8, 21] (fun _ _ iv wr => ∃ (i : Nat) (F' : Nat → Prop) (dq : St), i ≤ n ∧ iv = .int .i64 i ∧ remS ((l.take i).filter (goes none)) d = (0, dq) ∧ Fit dq ∧ good.D wr a F' dq ∧ Only F W2 wr ∧ ∀ k, F' k → F k ∨ W2.heap.size ≤ k) (fun _ _ iv _ => n - (intOf iv).toNat)
      case atStart => exact ⟨0, F, d, Nat.zero_le _, rfl, rfl, Hfit.out, D2.out, Only.refl _ _, fun k hk => .inl hk⟩
      case round =>
        obtain ⟨i, F', dq, hi, rfl, hrem, hfq, hdq, honly, hnew⟩ := hrel
        have Hrem := Lib.hid hrem
        have Hfq := Lib.hid hfq
        have Hdq := Lib.hid hdq
        have Ho := Lib.hid honly
        have Hg := Lib.hid hnew
        clear hrem hfq hdq honly hnew
        by_cases hlt : i < n
        · have hltz : (i : Int) < (n : Int) := by omega
          obtain ⟨x, hx⟩ : ∃ x, l[i]? = some x := ⟨_, List.getElem?_eq_getElem (by rw [Hn.out]; exact hlt)⟩
          obtain ⟨g, off, e1, hgl, hc0⟩ := Hrow.out i _ (strC_at l i x hx)
          have hgF : ¬ F g := fun h => by have h1 := (Hfar.out g off e1).1; have h2 := Hfoot.out g h; omega
          obtain rfl : off = 0 := by
            rcases HA.out with ⟨h, _⟩ | ⟨g', h⟩
            · rw [h] at e1; cases e1
            · rw [h] at e1; injection e1 with e1; injection e1 with _ e1; exact e1.symm
          subst e1
          rw [Nat.zero_add] at hc0
          have c0 : wr.cell? ⟨g, i, none⟩ = some (.string (bs x)) := (Ho.out.cell (p := ⟨g, i, none⟩) hgl hgF).trans hc0
          have Hxl : Hid (x.length ≤ 9223372036854775807) := Lib.hid (Hshort.out x (List.mem_of_getElem? hx))
          have Htk : Hid (l.take (i + 1) = l.take i ++ [x]) := Lib.hid (by rw [List.take_add_one, hx]; rfl)
          clear hx hgl hc0 hgF
          have HM := Lib.hid (fun (W : World) (hb : Below wr.heap.size wr W) => good.remove x a F' dq W (Hxl.out) (good.below Hdq.out hb) Hfq.out)
          obtain ⟨r0, hr0⟩ : ∃ r, r = removeS x dq := ⟨_, rfl⟩
          rw [← hr0] at HM
          have Hfr : Hid (Fit r0.2) := Lib.hid (by rw [hr0]; exact fit_rem Hfq.out)
          have Hst : Hid (remS ((l.take (i + 1)).filter (goes none)) d = r0) := Lib.hid (by
            have hfx : [x].filter (goes none) = [x] := by simp [goes]
            rw [Htk.out, List.filter_append, remS_append, Hrem.out, if_neg (by simp), hfx, remS_one, ← hr0])
          clear hr0
          generalize hxv : bs x = xv at *
          clear hxv
          go_wp2_with fail
          refine (HM.out _ (Below.refl wr.heap.size wr)).mono ?_
          rintro e w5 ⟨rfl, F5, hd5, ho5, hg5⟩
          have D5 := Lib.hid hd5
          have O5 : Hid (Only F W2 w5) := Lib.hid ((Ho.out.below_new (Below.refl wr.heap.size wr)).then ho5 (fun k hk => Hg.out k hk))
          have G5 : Hid (∀ k, F5 k → F k ∨ W2.heap.size ≤ k) := Lib.hid (fun k hk => (hg5 k hk).elim (Hg.out k) (fun h => .inr (Nat.le_trans (Nat.le_trans Ho.out.size ((Below.refl wr.heap.size wr)).size) h)))
          clear hd5 ho5 hg5 HM
          by_cases h0 : r0.1 = 0
          · rw [h0]
            have Hst2 : Hid (remS ((l.take (i + 1)).filter (goes none)) d = (0, r0.2)) := Lib.hid (by rw [Hst.out, ← h0])
            clear h0
            go_wp2
            go_roundw
            case rel => exact ⟨i + 1, F5, r0.2, by omega, by go_num, Hst2.out, Hfr.out, D5.out, O5.out, G5.out⟩
            case measure => simp [intOf]; omega
          · have h0n : (r0.1 != 0) = true := by simpa using h0
            have Hres : Hid (cleanS none d = r0) := Lib.hid (by
              rw [Hcl.out, ← List.take_append_drop (i + 1) l, List.filter_append, remS_append, Hst.out, if_pos h0])
            clear h0
            go_wp2
            go_ret
            exact HU.out _ _ _ (by rw [Hres.out]; rfl) (by rw [Hres.out]; exact D5.out) O5.out G5.out
        · obtain rfl : i = n := by omega
          have hltz : ¬ (i : Int) < (i : Int) := by omega
          have Hres : Hid (cleanS none d = (0, dq)) := Lib.hid (by
            rw [Hcl.out, ← Hrem.out, List.take_of_length_le (by rw [Hn.out]; exact Nat.le_refl _)])
          go_wp2
          go_ret
          exact HU.out _ _ F' (by rw [Hres.out]; rfl) (by rw [Hres.out]; exact Hdq.out) Ho.out Hg.out
    | some q =>
      have Hok : Hid (okS q) := Lib.hid (by obtain ⟨f, _, hw⟩ := hl2.here; exact hw.1)
      unfold loadV snapV
      obtain ⟨w2, hw2⟩ : ∃ w2, w2 = w1.alloc (.cells #[.int .i64 q.i, .int .i64 q.t, .string (bs q.d)] 33) := ⟨_, rfl⟩
      obtain ⟨bx, hbx⟩ : ∃ bx, bx = w1.heap.size := ⟨_, rfl⟩
      have B1 : Hid (Below w.heap.size w w2) := Lib.hid (by rw [hw2]; exact hb1.alloc hb1.size _)
      have Hbl : Hid (w.heap.size ≤ bx ∧ bx < w2.heap.size) := Lib.hid (by rw [hbx, hw2]; exact ⟨hb1.size, by simp⟩)
      have Hbh : Hid (Holds w2 bx 33 [.int .i64 q.i, .int .i64 q.t, .string (bs q.d)]) := Lib.hid (by rw [hw2, hbx]; exact Holds.new w1 33 _)
      have Hw2 := Lib.hid hw2
      have Hb0 := Lib.hid hbx
      clear hw2 hb1 hl2 hbx
      have HFl := Lib.hid (files_any a F d w2 (good.below Hd.out B1.out) Hfit.out)
      go_wp2_with fail
      rw [← Hw2.out, ← Hb0.out]
      refine HFl.out.mono ?_
      rintro e W2 ⟨A, n, cap, rfl, hn, hcap, hrow, hfar, hb2, hA⟩
      clear HFl
      obtain ⟨l, hl⟩ : ∃ l, l = filesL d := ⟨_, rfl⟩
      rw [← hl] at hn hrow
      have Hn := Lib.hid hn
      have hnn : n ≤ 1000000000 := by
        rw [← hn, hl, filesL_on ho', List.length_map]
        exact Nat.le_trans (List.length_filter_le _ _) (Nat.le_trans Hfit.out.len (by decide))
      have Hrow := Lib.hid hrow
      have Hfar : Hid (∀ g off, A = some (⟨g, off, none⟩ : Addr) → w.heap.size ≤ g ∧ g < W2.heap.size) := Lib.hid (fun g off e => ⟨Nat.le_trans B1.out.size (hfar g off e).1, (hfar g off e).2⟩)
      have HA := Lib.hid hA
      have B2 : Hid (Below w.heap.size w W2) := Lib.hid (B1.out.trans (below_mono' hb2 B1.out.size))
      have D2 := Lib.hid (good.below Hd.out B2.out)
      have T2 := Lib.hid (Ht.out.below B2.out)
      have Hshort : Hid (∀ x ∈ l, x.length ≤ 9223372036854775807) := Lib.hid (fun x hx => by
        rw [hl, filesL_on ho'] at hx
        obtain ⟨f, hf, rfl⟩ := List.mem_map.1 hx
        exact good.short Hd.out f (List.mem_filter.1 hf).1)
      
      have Hbx : Hid (w.heap.size ≤ bx ∧ bx < W2.heap.size) := Lib.hid ⟨Hbl.out.1, Nat.lt_of_lt_of_le Hbl.out.2 hb2.size⟩
      have Hbc := Lib.hid (holds3 (Hbh.out.below hb2 Hbl.out.2))
      clear hn hcap hrow hfar hb2 hA Hbh Hbl
      have Hcl : Hid (cleanS (some q) d = remS (l.filter (goes (some q))) d) := Lib.hid (by unfold cleanS; rw [if_neg ho, gone_files ho', ← hl])
      have HU : Hid (∀ v w' F', v = Ending.returned (Value.int .i64 (cleanS (some q) d).1) → good.D w' a F' (cleanS (some q) d).2 → Only F W2 w' → (∀ k, F' k → F k ∨ W2.heap.size ≤ k) → DRet good.D (.int .i64 (cleanS (some q) d).1) a F (cleanS (some q) d).2 w v w') := Lib.hid (fun v w' F' h1 h2 h3 h4 => ⟨h1, F', h2, (((Only.refl F w).below_new B2.out).then h3 (fun k hk => .inl hk)), fun k hk => (h4 k hk).imp id (fun h => Nat.le_trans B2.out.size h)⟩)
      clear ho ho' hl
      go_wp2
      go_loopw [7, 8, 21] (fun _ _ iv wr => ∃ (i : Nat) (F' : Nat → Prop) (dq : St), i ≤ n ∧ iv = .int .i64 i ∧ remS ((l.take i).filter (goes (some q))) d = (0, dq) ∧ Fit dq ∧ good.D wr a F' dq ∧ Only F W2 wr ∧ ∀ k, F' k → F k ∨ W2.heap.size ≤ k) (fun _ _ iv _ => n - (intOf iv).toNat)
      case atStart => exact ⟨0, F, d, Nat.zero_le _, rfl, rfl, Hfit.out, D2.out, Only.refl _ _, fun k hk => .inl hk⟩
      case round =>
        obtain ⟨i, F', dq, hi, rfl, hrem, hfq, hdq, honly, hnew⟩ := hrel
        have Hrem := Lib.hid hrem
        have Hfq := Lib.hid hfq
        have Hdq := Lib.hid hdq
        have Ho := Lib.hid honly
        have Hg := Lib.hid hnew
        clear hrem hfq hdq honly hnew
        by_cases hlt : i < n
        · have hltz : (i : Int) < (n : Int) := by omega
          obtain ⟨x, hx⟩ : ∃ x, l[i]? = some x := ⟨_, List.getElem?_eq_getElem (by rw [Hn.out]; exact hlt)⟩
          obtain ⟨g, off, e1, hgl, hc0⟩ := Hrow.out i _ (strC_at l i x hx)
          have hgF : ¬ F g := fun h => by have h1 := (Hfar.out g off e1).1; have h2 := Hfoot.out g h; omega
          obtain rfl : off = 0 := by
            rcases HA.out with ⟨h, _⟩ | ⟨g', h⟩
            · rw [h] at e1; cases e1
            · rw [h] at e1; injection e1 with e1; injection e1 with _ e1; exact e1.symm
          subst e1
          rw [Nat.zero_add] at hc0
          have c0 : wr.cell? ⟨g, i, none⟩ = some (.string (bs x)) := (Ho.out.cell (p := ⟨g, i, none⟩) hgl hgF).trans hc0
          have Hxl : Hid (x.length ≤ 9223372036854775807) := Lib.hid (Hshort.out x (List.mem_of_getElem? hx))
          have Htk : Hid (l.take (i + 1) = l.take i ++ [x]) := Lib.hid (by rw [List.take_add_one, hx]; rfl)
          clear hx hgl hc0 hgF
          have hbF : ¬ F bx := fun h => by have h2 := Hfoot.out bx h; have := Hbx.out.1; omega
          have d0 : wr.cell? ⟨bx, 0, none⟩ = some (.int .i64 q.i) := (Ho.out.cell (p := ⟨bx, 0, none⟩) Hbx.out.2 hbF).trans Hbc.out.1
          have d1 : wr.cell? ⟨bx, 1, none⟩ = some (.int .i64 q.t) := (Ho.out.cell (p := ⟨bx, 1, none⟩) Hbx.out.2 hbF).trans Hbc.out.2.1
          have d2 : wr.cell? ⟨bx, 2, none⟩ = some (.string (bs q.d)) := (Ho.out.cell (p := ⟨bx, 2, none⟩) Hbx.out.2 hbF).trans Hbc.out.2.2
          have HF := Lib.hid (fileOf_any q wr Hok.out (T2.out.only Ho.out Hg.out).here)
          unfold snapV at HF
          by_cases hnw : x = shotL q.i.toNat
          · have heq : ((bs x).toList == (bs (shotL q.i.toNat)).toList) = true := by rw [hnw]; simp
            have Hst : Hid (remS ((l.take (i + 1)).filter (goes (some q))) d = (0, dq)) := Lib.hid (by
              have hgo : goes (some q) x = false := by unfold goes; simp [hnw]
              rw [Htk.out, List.filter_append]
              simp only [List.filter_cons, hgo, List.filter_nil]
              simpa using Hrem.out)
            clear hnw
            generalize hxv : bs x = xv at *
            clear hxv
            generalize hnv : bs (shotL q.i.toNat) = nv at *
            clear hnv
            go_wp2_with fail
            refine HF.out.mono ?_
            rintro e wq ⟨rfl, hbq⟩
            have Bq := Lib.hid hbq
            clear hbq HF
            have Dq := Lib.hid (good.below Hdq.out Bq.out)
            have Oq := Lib.hid (Ho.out.below_new Bq.out)
            go_wp2
            go_roundw
            case rel => exact ⟨i + 1, F', dq, by omega, by go_num, Hst.out, Hfq.out, Dq.out, Oq.out, Hg.out⟩
            case measure => simp [intOf]; omega
          · have heq : ((bs x).toList == (bs (shotL q.i.toNat)).toList) = false := by
              rw [beq_eq_false_iff_ne, bl_toList, bl_toList, bl_bs, bl_bs]; exact hnw
            have hgo : goes (some q) x = true := by unfold goes; simp [hnw]
          
            have HM := Lib.hid (fun (W : World) (hb : Below wr.heap.size wr W) => good.remove x a F' dq W (Hxl.out) (good.below Hdq.out hb) Hfq.out)
            obtain ⟨r0, hr0⟩ : ∃ r, r = removeS x dq := ⟨_, rfl⟩
            rw [← hr0] at HM
            have Hfr : Hid (Fit r0.2) := Lib.hid (by rw [hr0]; exact fit_rem Hfq.out)
            have Hst : Hid (remS ((l.take (i + 1)).filter (goes (some q))) d = r0) := Lib.hid (by
              have hfx : [x].filter (goes (some q)) = [x] := by simp [hgo]
              rw [Htk.out, List.filter_append, remS_append, Hrem.out, if_neg (by simp), hfx, remS_one, ← hr0])
            clear hr0
            clear hgo hnw
            generalize hxv : bs x = xv at *
            clear hxv
            generalize hnv : bs (shotL q.i.toNat) = nv at *
            clear hnv
            go_wp2_with fail
            refine HF.out.mono ?_
            rintro e wq ⟨rfl, hbq⟩
            have Bq := Lib.hid hbq
            clear hbq HF
            go_wp2_with fail
            refine (HM.out _ Bq.out).mono ?_
            rintro e w5 ⟨rfl, F5, hd5, ho5, hg5⟩
            have D5 := Lib.hid hd5
            have O5 : Hid (Only F W2 w5) := Lib.hid ((Ho.out.below_new Bq.out).then ho5 (fun k hk => Hg.out k hk))
            have G5 : Hid (∀ k, F5 k → F k ∨ W2.heap.size ≤ k) := Lib.hid (fun k hk => (hg5 k hk).elim (Hg.out k) (fun h => .inr (Nat.le_trans (Nat.le_trans Ho.out.size (Bq.out).size) h)))
            clear hd5 ho5 hg5 HM
            by_cases h0 : r0.1 = 0
            · rw [h0]
              have Hst2 : Hid (remS ((l.take (i + 1)).filter (goes (some q))) d = (0, r0.2)) := Lib.hid (by rw [Hst.out, ← h0])
              clear h0
              go_wp2
              go_roundw
              case rel => exact ⟨i + 1, F5, r0.2, by omega, by go_num, Hst2.out, Hfr.out, D5.out, O5.out, G5.out⟩
              case measure => simp [intOf]; omega
            · have h0n : (r0.1 != 0) = true := by simpa using h0
              have Hres : Hid (cleanS (some q) d = r0) := Lib.hid (by
                rw [Hcl.out, ← List.take_append_drop (i + 1) l, List.filter_append, remS_append, Hst.out, if_pos h0])
              clear h0
              go_wp2
              go_ret
              exact HU.out _ _ _ (by rw [Hres.out]; rfl) (by rw [Hres.out]; exact D5.out) O5.out G5.out
        · obtain rfl : i = n := by omega
          have hltz : ¬ (i : Int) < (i : Int) := by omega
          have Hres : Hid (cleanS (some q) d = (0, dq)) := Lib.hid (by
            rw [Hcl.out, ← Hrem.out, List.take_of_length_le (by rw [Hn.out]; exact Nat.le_refl _)])
          go_wp2
          go_ret
          exact HU.out _ _ F' (by rw [Hres.out]; rfl) (by rw [Hres.out]; exact Hdq.out) Ho.out Hg.out
end Go.Proofs.YtmgbmphheagdmaaGreatDoor
