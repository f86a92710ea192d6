/-
  The contract of shot.Save.
-/
import Derived.Test.YtmgbmphheagdmaaGreatDoorMB
import Derived.Test.YtmgbmphheagdmaaGreatDoorDL
namespace Go.Proofs.YtmgbmphheagdmaaGreatDoor
open Go.RowKit

/-- Read turns nothing. -/
theorem read_good (nm : List UInt8) (a : Addr) (F : Nat → Prop) (s : St) (w : World) (hnm : nm.length ≤ 9223372036854775807) (h : good.D w a F s) : Calls Tryz.prog 30 #[.pointer (some a), .string (bs nm)] w fun e w' => e = .returned (.tuple #[.string (bs (readS nm s).1), .int .i64 (readS nm s).2]) ∧ w' = w := by
  obtain ⟨r, mb, gm, vm, rfl, hd, _, _⟩ := h
  exact read_m hd hnm
theorem readS_off {nm : List UInt8} {s : St} (h : s.off = true) : readS nm s = ([], 7) := by unfold readS; rw [if_pos h]
theorem readS_none {nm : List UInt8} {s : St} (h : s.off = false) (ha : atN nm s.files = none) : readS nm s = ([], 8) := by unfold readS; rw [if_neg (by rw [h]; simp), ha]
theorem readS_some {nm : List UInt8} {s : St} {i : Nat} {f : Fl} (h : s.off = false) (ha : atN nm s.files = some i) (hf : s.files[i]? = some f) : readS nm s = (contF f, 0) := by
  unfold readS; rw [if_neg (by rw [h]; simp), ha]; simp only; rw [hf]; rfl
theorem save_off {s : Sh} {d : St} (hok : okS s) (ho : d.off = true) : saveS s d = (7, d) := by
  unfold saveS; rw [if_neg (by simpa using hok), if_pos ho]
theorem save_none {s : Sh} {d : St} (hok : okS s) (ho : d.off = false) (ha : atN (shotL s.i.toNat) d.files = none) : saveS s d = putS s d := by
  unfold saveS; rw [if_neg (by simpa using hok), if_neg (by rw [ho]; simp), ha]
theorem save_same {s : Sh} {d : St} {i : Nat} {f : Fl} (hok : okS s) (ho : d.off = false) (ha : atN (shotL s.i.toNat) d.files = some i) (hf : d.files[i]? = some f) (hc : contF f = textS s) : saveS s d = (0, d) := by
  unfold saveS; rw [if_neg (by simpa using hok), if_neg (by rw [ho]; simp), ha]; simp only; rw [hf]; simp only; rw [if_pos hc]
theorem save_turn {s : Sh} {d : St} {i : Nat} {f : Fl} (hok : okS s) (ho : d.off = false) (ha : atN (shotL s.i.toNat) d.files = some i) (hf : d.files[i]? = some f) (hc : contF f ≠ textS s) :
    saveS s d = if (removeS (shotL s.i.toNat) d).1 ≠ 0 then removeS (shotL s.i.toNat) d else putS s (removeS (shotL s.i.toNat) d).2 := by
  unfold saveS; rw [if_neg (by simpa using hok), if_neg (by rw [ho]; simp), ha]; simp only; rw [hf]; simp only; rw [if_neg hc]
theorem remove_grows (nm : List UInt8) (s : St) : Grows s (removeS nm s).2 0 := step_grows 3 nm [] 0 [] s (by unfold I64; omega)

set_option maxRecDepth 100000 in
set_option maxHeartbeats 8000000 in
theorem save_any (s : Sh) (a : Addr) (F : Nat → Prop) (d : St) (w : World) (u i : Nat) (hd : good.D w a F d) (hm : Most d u i) (hu : u ≤ 900000000) (hi : i ≤ 900000) (hs : s.d.length ≤ 9223372036854775807) (ht : TabF F w) :
    Calls Tryz.prog 12 #[.pointer (some a), snapV s] w (DRet good.D (.int .i64 (saveS s d).1) a F (saveS s d).2 w) := by
  have HV := Lib.hid (fun (W : World) => valid_any s W hs)
  obtain ⟨wa, hwa⟩ : ∃ wa, wa = w.alloc (.cells #[.int .i64 s.i, .int .i64 s.t, .string (bs s.d)] 33) := ⟨_, rfl⟩
  have Ba : Hid (Below w.heap.size w wa) := Lib.hid (by rw [hwa]; exact (Below.refl _ _).alloc (Nat.le_refl _) _)
  have La : Hid (w.heap.size < wa.heap.size) := Lib.hid (by rw [hwa]; simp)
  have ca0 : wa.cell? ⟨w.heap.size, 0, none⟩ = some (.int .i64 s.i) := by rw [hwa]; simp
  have ca1 : wa.cell? ⟨w.heap.size, 1, none⟩ = some (.int .i64 s.t) := by rw [hwa]; simp
  have ca2 : wa.cell? ⟨w.heap.size, 2, none⟩ = some (.string (bs s.d)) := by rw [hwa]; simp
  have Hca := Lib.hid (And.intro ca0 (And.intro ca1 ca2))
  have Hwa := Lib.hid hwa
  have Hd := Lib.hid hd
  have Ht := Lib.hid ht
  have Hm := Lib.hid hm
  clear hwa hd ht hm ca0 ca1 ca2 hs
  by_cases hok : okS s
  · have HF := Lib.hid (fun (W : World) (hb : Below w.heap.size w W) => fileOf_any s W hok (TabB.at Ht.out.here hb))
    have HC := Lib.hid (fun (W : World) => contentOf_any s W hok)
    rw [decide_eq_true hok] at HV
    have Htl : Hid ((textS s).length ≤ 2000000) := Lib.hid (by have := text_bd hok; omega)
    have Hok := Lib.hid hok
    clear hok
    unfold snapV at HV HF HC ⊢
    obtain ⟨nmv, hnm⟩ : ∃ v, v = bs (shotL s.i.toNat) := ⟨_, rfl⟩
    obtain ⟨txv, htx⟩ : ∃ v, v = bs (textS s) := ⟨_, rfl⟩
    rw [← hnm] at HF
    rw [← htx] at HC
    have Hnm := Lib.hid hnm
    have Htx := Lib.hid htx
    clear hnm htx
    have Htxl : Hid (txv.toList = (bs (textS s)).toList) := Lib.hid (by rw [Htx.out])
    go_enter Tryz.func12, Tryz.ntmps12
    go_wp2_with fail
    rw [← Hwa.out]
    refine (HV.out _).mono ?_
    rintro e w1 ⟨rfl, hb1⟩
    have B1 : Hid (Below w.heap.size w w1) := Lib.hid (Ba.out.trans (below_mono' hb1 Ba.out.size))
    have L1 : Hid (w.heap.size < w1.heap.size) := Lib.hid (Nat.lt_of_lt_of_le La.out hb1.size)
    have C1 : Hid (w1.cell? ⟨w.heap.size, 0, none⟩ = some (.int .i64 s.i) ∧ w1.cell? ⟨w.heap.size, 1, none⟩ = some (.int .i64 s.t) ∧ w1.cell? ⟨w.heap.size, 2, none⟩ = some (.string (bs s.d))) := Lib.hid
      ⟨(hb1.cell (p := ⟨w.heap.size, 0, none⟩) La.out).trans Hca.out.1, (hb1.cell (p := ⟨w.heap.size, 1, none⟩) La.out).trans Hca.out.2.1, (hb1.cell (p := ⟨w.heap.size, 2, none⟩) La.out).trans Hca.out.2.2⟩
    clear hb1 HV
    have N1 : Hid (∀ x : InW (Below w1.heap.size w1), Calls Tryz.prog 32 #[.agg #[.int .i64 s.i, .int .i64 s.t, .string (bs s.d)]] x.wd fun e w'' => e = .returned (.string nmv) ∧ ∃ m : InW (Below w1.heap.size w1), w'' = m.wd) := Lib.hid (fun x =>
      (HF.out x.wd (B1.out.trans (below_mono' x.ok B1.out.size))).mono fun e w'' ⟨he, hb⟩ => ⟨he, ⟨w'', x.ok.trans (below_mono' hb x.ok.size)⟩, rfl⟩)
    have N2 : Hid (∀ x : InW (Below w1.heap.size w1), Calls Tryz.prog 33 #[.agg #[.int .i64 s.i, .int .i64 s.t, .string (bs s.d)]] x.wd fun e w'' => e = .returned (.string txv) ∧ ∃ m : InW (Below w1.heap.size w1), w'' = m.wd) := Lib.hid (fun x =>
      (HC.out x.wd).mono fun e w'' ⟨he, hb⟩ => ⟨he, ⟨w'', x.ok.trans (below_mono' hb x.ok.size)⟩, rfl⟩)
    have K0 : ∀ x : InW (Below w1.heap.size w1), x.wd.cell? ⟨w.heap.size, 0, none⟩ = some (.int .i64 s.i) := fun x => (x.ok.cell (p := ⟨w.heap.size, 0, none⟩) L1.out).trans C1.out.1
    have K1 : ∀ x : InW (Below w1.heap.size w1), x.wd.cell? ⟨w.heap.size, 1, none⟩ = some (.int .i64 s.t) := fun x => (x.ok.cell (p := ⟨w.heap.size, 1, none⟩) L1.out).trans C1.out.2.1
    have K2 : ∀ x : InW (Below w1.heap.size w1), x.wd.cell? ⟨w.heap.size, 2, none⟩ = some (.string (bs s.d)) := fun x => (x.ok.cell (p := ⟨w.heap.size, 2, none⟩) L1.out).trans C1.out.2.2
    have hinh : Nonempty (InW (Below w1.heap.size w1)) := ⟨⟨w1, Below.refl _ w1⟩⟩
    go_wp2_with fail
    refine wp_region_quiet_in (Below w1.heap.size w1) (by kernel_rfl) (by kernel_rfl) ((Below.refl _ _).drew) ?_
    repeat (go_big_quiet_step (first | (go_at_call 32; exact N1.out _) | (go_at_call 33; exact N2.out _)))
    refine wpQuiet_nil ?_
    intro w3 hx3
    obtain ⟨x3, hx3⟩ := hx3
    have B3 : Hid (Below w.heap.size w w3) := Lib.hid (B1.out.trans (below_mono' (by rw [hx3]; exact x3.ok) B1.out.size))
    clear hx3 x3 K0 K1 K2 hinh N1 N2 C1 HF HC
    have D3 := Lib.hid (good.below Hd.out B3.out)
    have O3 : Hid (Only F w w3) := Lib.hid (Only.of_below B3.out (fun k hk => .inr hk))
    have G3 : Hid (∀ k, F k → F k ∨ w.heap.size ≤ k) := Lib.hid (fun k hk => .inl hk)
    have HR := Lib.hid (read_good (shotL s.i.toNat) a F d w3 (by rw [shotL_len]; decide) D3.out)
    rw [← Hnm.out] at HR
    by_cases ho : d.off = true
    · have Hres : Hid (saveS s d = (7, d)) := Lib.hid (save_off Hok.out ho)
      rw [readS_off ho] at HR
      clear ho
      go_wp2_with fail
      refine HR.out.mono ?_
      rintro e w4 ⟨rfl, rfl⟩
      go_wp2
      go_ret
      exact ⟨by rw [Hres.out]; rfl, F, by rw [Hres.out]; exact D3.out, O3.out, G3.out⟩
    · have ho' : d.off = false := by cases h : d.off <;> simp_all
      cases ha : atN (shotL s.i.toNat) d.files with
      | none =>
        have Hres0 : Hid (saveS s d = putS s d) := Lib.hid (save_none Hok.out ho' ha)
        rw [readS_none ho' ha] at HR
        clear ho ho' ha
        go_wp2_with fail
        refine HR.out.mono ?_
        rintro e w4 ⟨rfl, rfl⟩
        clear HR
        obtain ⟨r1, hr1⟩ : ∃ r, r = appendS (shotL s.i.toNat) (textS s) d := ⟨_, rfl⟩
        have HA := Lib.hid (good.append (shotL s.i.toNat) (textS s) a F d w4 D3.out (Hm.out.fit (by omega) (by omega)) (by rw [shotL_len]; omega) Htl.out)
        have Hm1 := Lib.hid (Hm.out.grows (append_grows (shotL s.i.toNat) (textS s) d))
        rw [← hr1] at HA Hm1
        have Hr1 := Lib.hid hr1
        clear hr1
        go_wp2_with fail
        rw [Hnm.out, Htx.out]
        refine HA.out.mono ?_
        rintro e w8 ⟨rfl, F8, hd8, ho8, hg8⟩
        have D8 := Lib.hid hd8
        have O8 : Hid (Only F w w8) := Lib.hid (O3.out.then ho8 G3.out)
        have G8 : Hid (∀ k, F8 k → F k ∨ w.heap.size ≤ k) := Lib.hid (fun k hk => (hg8 k hk).elim (G3.out k) (fun h => .inr (Nat.le_trans O3.out.size h)))
        clear hd8 ho8 hg8 HA
        by_cases h1 : r1.1 = 0
        · have HS := Lib.hid (good.sync (shotL s.i.toNat) a F8 r1.2 w8 (by rw [shotL_len]; decide) D8.out (Hm1.out.fit (by have := Htl.out; omega) (by omega)))
          have Hres : Hid (saveS s d = syncS (shotL s.i.toNat) r1.2) := Lib.hid (by rw [Hres0.out]; unfold putS; rw [← Hr1.out]; simp [h1])
          rw [h1, ← Hnm.out]
          clear h1
          go_wp2_with fail
          rw [Hnm.out]
          refine HS.out.mono ?_
          rintro e w9 ⟨rfl, F9, hd9, ho9, hg9⟩
          have D9 := Lib.hid hd9
          have O9 : Hid (Only F w w9) := Lib.hid (O8.out.then ho9 G8.out)
          have G9 : Hid (∀ k, F9 k → F k ∨ w.heap.size ≤ k) := Lib.hid (fun k hk => (hg9 k hk).elim (G8.out k) (fun h => .inr (Nat.le_trans O8.out.size h)))
          clear hd9 ho9 hg9 HS
          go_wp2
          go_ret
          exact ⟨by rw [Hres.out]; rfl, F9, by rw [Hres.out]; exact D9.out, O9.out, G9.out⟩
        · have h1n : (r1.1 != 0) = true := by simpa using h1
          have Hres : Hid (saveS s d = r1) := Lib.hid (by rw [Hres0.out]; unfold putS; rw [← Hr1.out]; simp [h1])
          rw [← Hnm.out, ← Htx.out]
          clear h1
          go_wp2
          go_ret
          exact ⟨by rw [Hres.out]; rfl, F8, by rw [Hres.out]; exact D8.out, O8.out, G8.out⟩
      | some j =>
        obtain ⟨f, hf, hfn⟩ := atN_some ha
        rw [readS_some ho' ha hf] at HR
        by_cases hc : contF f = textS s
        · have Hres : Hid (saveS s d = (0, d)) := Lib.hid (save_same Hok.out ho' ha hf hc)
          rw [hc, ← Htx.out] at HR
          have htt : (txv.toList == txv.toList) = true := by simp
          clear ho ho' ha hf hfn hc
          go_wp2_with fail
          refine HR.out.mono ?_
          rintro e w4 ⟨rfl, rfl⟩
          go_wp2
          go_ret
          exact ⟨by rw [Hres.out]; rfl, F, by rw [Hres.out]; exact D3.out, O3.out, G3.out⟩
        · have hne : ((bs (contF f)).toList == txv.toList) = false := by
            rw [Htx.out, beq_eq_false_iff_ne, bl_toList, bl_toList, bl_bs, bl_bs]; exact hc
          obtain ⟨r0, hr0⟩ : ∃ r, r = removeS (shotL s.i.toNat) d := ⟨_, rfl⟩
          have Hres0 : Hid (saveS s d = if r0.1 ≠ 0 then r0 else putS s r0.2) := Lib.hid (by rw [save_turn Hok.out ho' ha hf hc, ← hr0])
          have HM := Lib.hid (good.remove (shotL s.i.toNat) a F d w3 (by rw [shotL_len]; decide) D3.out (Hm.out.fit (by omega) (by omega)))
          have Hm0 := Lib.hid (Hm.out.grows (remove_grows (shotL s.i.toNat) d))
          rw [← hr0] at HM Hm0
          rw [← Hnm.out] at HM
          clear ho ho' ha hf hfn hc hr0
          generalize bs (contF f) = old at *
          go_wp2_with fail
          refine HR.out.mono ?_
          rintro e w4 ⟨rfl, rfl⟩
          clear HR
          go_wp2_with fail
          refine HM.out.mono ?_
          rintro e w5 ⟨rfl, F5, hd5, ho5, hg5⟩
          have D5 := Lib.hid hd5
          have O5 : Hid (Only F w w5) := Lib.hid (O3.out.then ho5 G3.out)
          have G5 : Hid (∀ k, F5 k → F k ∨ w.heap.size ≤ k) := Lib.hid (fun k hk => (hg5 k hk).elim (G3.out k) (fun h => .inr (Nat.le_trans O3.out.size h)))
          clear hd5 ho5 hg5 HM
          by_cases h0 : r0.1 = 0
          · have Hres1 : Hid (saveS s d = putS s r0.2) := Lib.hid (by rw [Hres0.out, if_neg (by simp [h0])])
            rw [h0]
            clear h0 Hres0
            obtain ⟨r1, hr1⟩ : ∃ r, r = appendS (shotL s.i.toNat) (textS s) r0.2 := ⟨_, rfl⟩
            have HA := Lib.hid (good.append (shotL s.i.toNat) (textS s) a F5 r0.2 w5 D5.out (Hm0.out.fit (by omega) (by omega)) (by rw [shotL_len]; omega) Htl.out)
            have Hm1 := Lib.hid (Hm0.out.grows (append_grows (shotL s.i.toNat) (textS s) r0.2))
            rw [← hr1] at HA Hm1
            have Hr1 := Lib.hid hr1
            clear hr1
            go_wp2_with fail
            rw [Hnm.out, Htx.out]
            refine HA.out.mono ?_
            rintro e w8 ⟨rfl, F8, hd8, ho8, hg8⟩
            have D8 := Lib.hid hd8
            have O8 : Hid (Only F w w8) := Lib.hid (O5.out.then ho8 G5.out)
            have G8 : Hid (∀ k, F8 k → F k ∨ w.heap.size ≤ k) := Lib.hid (fun k hk => (hg8 k hk).elim (G5.out k) (fun h => .inr (Nat.le_trans O5.out.size h)))
            clear hd8 ho8 hg8 HA
            by_cases h1 : r1.1 = 0
            · have HS := Lib.hid (good.sync (shotL s.i.toNat) a F8 r1.2 w8 (by rw [shotL_len]; decide) D8.out (Hm1.out.fit (by have := Htl.out; omega) (by omega)))
              have Hres : Hid (saveS s d = syncS (shotL s.i.toNat) r1.2) := Lib.hid (by rw [Hres1.out]; unfold putS; rw [← Hr1.out]; simp [h1])
              rw [h1, ← Hnm.out]
              clear h1
              go_wp2_with fail
              rw [Hnm.out]
              refine HS.out.mono ?_
              rintro e w9 ⟨rfl, F9, hd9, ho9, hg9⟩
              have D9 := Lib.hid hd9
              have O9 : Hid (Only F w w9) := Lib.hid (O8.out.then ho9 G8.out)
              have G9 : Hid (∀ k, F9 k → F k ∨ w.heap.size ≤ k) := Lib.hid (fun k hk => (hg9 k hk).elim (G8.out k) (fun h => .inr (Nat.le_trans O8.out.size h)))
              clear hd9 ho9 hg9 HS
              go_wp2
              go_ret
              exact ⟨by rw [Hres.out]; rfl, F9, by rw [Hres.out]; exact D9.out, O9.out, G9.out⟩
            · have h1n : (r1.1 != 0) = true := by simpa using h1
              have Hres : Hid (saveS s d = r1) := Lib.hid (by rw [Hres1.out]; unfold putS; rw [← Hr1.out]; simp [h1])
              rw [← Hnm.out, ← Htx.out]
              clear h1
              go_wp2
              go_ret
              exact ⟨by rw [Hres.out]; rfl, F8, by rw [Hres.out]; exact D8.out, O8.out, G8.out⟩
          · have h0n : (r0.1 != 0) = true := by simpa using h0
            have Hres : Hid (saveS s d = r0) := Lib.hid (by rw [Hres0.out, if_pos h0])
            clear h0 Hres0
            go_wp2
            go_ret
            exact ⟨by rw [Hres.out]; rfl, F5, by rw [Hres.out]; exact D5.out, O5.out, G5.out⟩
  · have Hres : Hid (saveS s d = (1, d)) := Lib.hid (by unfold saveS; rw [if_pos hok])
    rw [decide_eq_false hok] at HV
    clear hok
    unfold snapV at HV ⊢
    go_enter Tryz.func12, Tryz.ntmps12
    go_wp2_with fail
    rw [← Hwa.out]
    refine (HV.out _).mono ?_
    rintro e w1 ⟨rfl, hb1⟩
    have B1 : Hid (Below w.heap.size w w1) := Lib.hid (Ba.out.trans (below_mono' hb1 Ba.out.size))
    clear hb1 HV
    go_wp2
    go_ret
    exact ⟨by rw [Hres.out]; rfl, F, by rw [Hres.out]; exact good.below Hd.out B1.out, Only.of_below B1.out (fun k hk => .inr hk), fun k hk => .inl hk⟩
end Go.Proofs.YtmgbmphheagdmaaGreatDoor
