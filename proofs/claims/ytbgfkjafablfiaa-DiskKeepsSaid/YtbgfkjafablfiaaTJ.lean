/-
  The contract of the laws' does: both disks do the same.
-/
import Derived.Test.YtbgfkjafablfiaaTI
namespace Go.Proofs.Ytbgfkjafablfiaa
open Go.RowKit

theorem Only.cell {F : Nat → Prop} {w w' : World} (h : Only F w w') {p : Addr} (hp : p.block < w.heap.size) (hF : ¬ F p.block) : w'.cell? p = w.cell? p := World.cell?_of_block (w := w) (h.block p.block hp hF)
/-- What an op leaves. -/
def stepS (k : Int) (nm b : List UInt8) (n : Int) (keep : List Int) (s : St) : St :=
  if k = 0 then (appendS nm b s).2 else if k = 1 then (syncS nm s).2 else if k = 2 then (cutS nm n s).2 else if k = 3 then (removeS nm s).2 else if k = 4 then s else if k = 5 then fuseS n s else if k = 6 then (roomS n s).2 else if k = 7 then crashS keep s else s
theorem Both.drew {G : GoodD} {B : Nat} {w : World} {a : Addr} {F : Nat → Prop} {r : Nat} {v : Value} {s : St} (h : Both G B w a F r v s) : Both G B w.drew a F r v s := h.below (Below.refl _ _).drew

/-- First the reference's disk, then the program's. -/
theorem Both.step' {G : GoodD} {B : Nat} {w w1 w2 : World} {a : Addr} {F F1 : Nat → Prop} {r : Nat} {v : Value} {s s' : St} (h : Both G B w a F r v s) (hB : B ≤ w.heap.size)
    (hr : RefD w1 r v s') (ho2 : Only (Foot r v) w w1) (hd : G.D w2 a F1 s') (ho : Only F w1 w2) (hg : ∀ k, F1 k → F k ∨ w1.heap.size ≤ k) :
    Both G B w2 a F1 r v s' ∧ Below B w w2 := by
  have hrl := h.ref.size
  have hap : ∀ k, F1 k → ¬ Foot r v k := fun k hk hf => by
    rcases hg k hk with h1 | h1
    · rcases hf with rfl | hf
      · exact (h.apart k h1).1 rfl
      · exact (h.apart k h1).2 hf
    · rcases hf with rfl | hf
      · have := hr.size; omega
      · have := (hr.own.lt k hf).2; omega
  refine ⟨⟨hd, hr.only ho h.apart, fun k hk => ⟨fun e => hap k hk (.inl e), fun e => hap k hk (.inr e)⟩, fun k hk => ?_, h.base2⟩, ?_⟩
  · rcases hg k hk with h1 | h1
    · exact h.base k h1
    · have := ho2.size; omega
  · refine (ho2.below hB fun k hk => ?_).trans (ho.below (Nat.le_trans hB ho2.size) h.base)
    rcases hk with rfl | hk
    · exact h.base2
    · have := (h.ref.own.lt k hk).1; have := h.base2; omega
theorem run_max_none (n : Int) (W : World) : (Builtin.max_ #[3, 3] 3 #[.int .i64 n, .int .i64 (-1)]).run Try.prog W = .ok (.int .i64 (max n (-1))) W := by
  by_cases h : n < -1
  · rw [Int.max_eq_right (by omega)]; simp [Builtin.max_, Builtin.max2, h]
  · rw [Int.max_eq_left (by omega)]; simp [Builtin.max_, Builtin.max2, h]

set_option maxRecDepth 100000 in
set_option maxHeartbeats 8000000 in
theorem does_any (G : GoodD) (k : Int) (nm b : List UInt8) (n : Int) (keep : List Int) (A : Option Addr) (kl kc : Nat) (B : Nat) (w : World) (a : Addr) (F : Nat → Prop) (r : Nat) (v : Value) (s : St)
    (h : Both G B w a F r v s) (hB : B ≤ w.heap.size) (hf : Fit s) (hnm : nm.length ≤ 1000000) (hbl : b.length ≤ 1000000) (hn : I64 n) (hkl : keep.length = kl) (hrow : RowAt w A (intC keep)) (hrb : ∀ g off, A = some (⟨g, off, none⟩ : Addr) → 0 < kl → g < B) (hki : ∀ x ∈ keep, I64 x) (hkl2 : kl ≤ 9223372036854775807) :
    Calls Try.prog 12 #[.pointer (some a), .pointer (some ⟨r, 0, none⟩), .agg #[.int .i64 k, .string (bs nm), .string (bs b), .int .i64 n, .slice A kl kc]] w (BothRet G B a r (stepS k nm b n keep s) (.bool true) w) := by
  obtain ⟨X, hX⟩ : ∃ X, X = w.heap.size := ⟨_, rfl⟩
  obtain ⟨wa, hwa⟩ : ∃ wa, wa = w.alloc (.cells #[.int .i64 k, .string (bs nm), .string (bs b), .int .i64 n, .slice A kl kc] 35) := ⟨_, rfl⟩
  have Hba : Hid (Below w.heap.size w wa) := Lib.hid (by rw [hwa]; exact (Below.refl _ _).alloc (Nat.le_refl _) _)
  have a1 : wa.cell? ⟨X, 0 + 1, none⟩ = some (.string (bs nm)) := by rw [hwa, hX]; simp
  have a2 : wa.cell? ⟨X, 0 + 2, none⟩ = some (.string (bs b)) := by rw [hwa, hX]; simp
  have a3 : wa.cell? ⟨X, 0 + 3, none⟩ = some (.int .i64 n) := by rw [hwa, hX]; simp
  have a4 : wa.cell? ⟨X, 0 + 4, none⟩ = some (.slice A kl kc) := by rw [hwa, hX]; simp
  have hsz : wa.heap.size = X + 1 := by rw [hwa, hX]; simp
  have Hsz : Hid (X < wa.heap.size) := Lib.hid (by rw [hsz]; exact Nat.lt_succ_self _)
  have HFX : Hid (¬ F X) := Lib.hid (fun hx => by have := G.foot h.d X hx; omega)
  have HRX : Hid (¬ Foot r v X) := Lib.hid (fun hx => by
    rcases hx with rfl | hx
    · have := h.ref.size; omega
    · have := (h.ref.own.lt X hx).2; omega)
  have HT : Hid (Both G B wa a F r v s) := Lib.hid (h.below Hba.out)
  have HBa : Hid (B ≤ wa.heap.size) := Lib.hid (Nat.le_trans hB Hba.out.size)
  have Hrow : Hid (RowAt wa A (intC keep)) := Lib.hid (hrow.below Hba.out (Nat.le_refl _))
  have Hw1 : Hid (r < w.heap.size ∧ w.cell? ⟨r, 1, none⟩ = some (.int .i64 s.room) ∧ w.frozen? ⟨r, 1, none⟩ = false) := Lib.hid ⟨h.ref.size, h.ref.cells.2.1, h.ref.cells.2.2.2.2 1⟩
  have Hkeep : Hid (∀ w1, Only F wa w1 → RowAt w1 A (intC keep)) := Lib.hid (fun w1 ho j x hx => by
    obtain ⟨g, off, hA, hl, hc⟩ := (hrow.below Hba.out (Nat.le_refl _)) j x hx
    have hgB := hrb g off hA (by rw [← hkl]; obtain ⟨hl', _⟩ := List.getElem?_eq_some_iff.1 hx; simp [intC] at hl'; omega)
    exact ⟨g, off, hA, Nat.lt_of_lt_of_le hl ho.size, (ho.cell (p := ⟨g, off + j, none⟩) hl (fun hF => by have := h.base g hF; omega)).trans hc⟩)
  have HF := Lib.hid hf
  have HX := Lib.hid hX
  have Hwa := Lib.hid hwa
  have HB := Lib.hid hB
  have Hkl := Lib.hid hkl
  have Hrb := Lib.hid hrb
  clear h hB hf hrow hX hwa hsz hkl hrb
  by_cases h0 : k = 0
  · subst h0
    have hs : stepS 0 nm b n keep s = (appendS nm b s).2 := rfl
    rw [hs]
    go_enter Try.func12, Try.ntmps12
    go_wp2
    rw [← Hwa.out, ← HX.out]
    go_region_held3 (fun w' => w'.cell? ⟨X, 0 + 1, none⟩ = some (.string (bs nm)) ∧ w'.cell? ⟨X, 0 + 2, none⟩ = some (.string (bs b)))
      (first
        | exact ⟨(ho2.cell (p := ⟨X, 0 + 1, none⟩) (Nat.lt_of_lt_of_le Hsz.out ho1.size) HRX.out).trans ((ho1.cell (p := ⟨X, 0 + 1, none⟩) Hsz.out HFX.out).trans a1), (ho2.cell (p := ⟨X, 0 + 2, none⟩) (Nat.lt_of_lt_of_le Hsz.out ho1.size) HRX.out).trans ((ho1.cell (p := ⟨X, 0 + 2, none⟩) Hsz.out HFX.out).trans a2)⟩
        | exact ⟨a1, a2⟩
        | exact ⟨(ho1.cell (p := ⟨X, 0 + 1, none⟩) Hsz.out HFX.out).trans a1, (ho1.cell (p := ⟨X, 0 + 2, none⟩) Hsz.out HFX.out).trans a2⟩
        | go_keep)
      (first
        | (go_at_call 14; refine (G.append nm b a F s wa.drew HT.out.drew.d HF.out hnm hbl).mono ?_; rintro e w1 ⟨rfl, F1, hd1, ho1, hg1⟩)
        | (go_at_call 25; refine (refappend_any nm b r v s w1 (HT.out.drew.ref.only ho1 HT.out.apart) HF.out hbl hnm).mono ?_; rintro e w2 ⟨rfl, v2, hr2, ho2, hg2⟩))
    all_goals
      go_wp2
      go_ret
      obtain ⟨t1, t2⟩ := HT.out.drew.step HBa.out hd1 ho1 hg1 hr2 ho2 hg2
      refine ⟨by simp, F1, v2, t1, ?_⟩
      exact (Hba.out.mono HB.out).trans ((Below.refl _ _).drew.trans t2)
  · have hk0 : (k == 0) = false := beq_eq_false_iff_ne.2 h0
    by_cases h1 : k = 1
    · subst h1
      clear hk0 h0
      have hs : stepS 1 nm b n keep s = (syncS nm s).2 := rfl
      rw [hs]
      go_enter Try.func12, Try.ntmps12
      go_wp2
      rw [← Hwa.out, ← HX.out]
      go_region_held3 (fun w' => w'.cell? ⟨X, 0 + 1, none⟩ = some (.string (bs nm)))
        (first
          | exact (ho2.cell (p := ⟨X, 0 + 1, none⟩) (Nat.lt_of_lt_of_le Hsz.out ho1.size) HRX.out).trans ((ho1.cell (p := ⟨X, 0 + 1, none⟩) Hsz.out HFX.out).trans a1)
          | exact a1
          | exact (ho1.cell (p := ⟨X, 0 + 1, none⟩) Hsz.out HFX.out).trans a1
          | go_keep)
        (first
          | (go_at_call 15; refine (G.sync nm a F s wa.drew (by omega) HT.out.drew.d HF.out).mono ?_; rintro e w1 ⟨rfl, F1, hd1, ho1, hg1⟩)
          | (go_at_call 26; refine (ref_kept (refsync_any nm r v s w1 (HT.out.drew.ref.only ho1 HT.out.apart) HF.out)).mono ?_; rintro e w2 ⟨rfl, v2, hr2, ho2, hg2⟩))
      all_goals
        go_wp2
        go_ret
        obtain ⟨t1, t2⟩ := HT.out.drew.step HBa.out hd1 ho1 hg1 hr2 ho2 hg2
        refine ⟨by simp, F1, v2, t1, ?_⟩
        exact (Hba.out.mono HB.out).trans ((Below.refl _ _).drew.trans t2)
    · have hk1 : (k == 1) = false := beq_eq_false_iff_ne.2 h1
      by_cases h2 : k = 2
      · subst h2
        clear hk0 h0 hk1 h1
        have hs : stepS 2 nm b n keep s = (cutS nm n s).2 := rfl
        rw [hs]
        go_enter Try.func12, Try.ntmps12
        go_wp2
        rw [← Hwa.out, ← HX.out]
        go_region_held3 (fun w' => w'.cell? ⟨X, 0 + 1, none⟩ = some (.string (bs nm)) ∧ w'.cell? ⟨X, 0 + 3, none⟩ = some (.int .i64 n))
          (first
            | exact ⟨(ho2.cell (p := ⟨X, 0 + 1, none⟩) (Nat.lt_of_lt_of_le Hsz.out ho1.size) HRX.out).trans ((ho1.cell (p := ⟨X, 0 + 1, none⟩) Hsz.out HFX.out).trans a1), (ho2.cell (p := ⟨X, 0 + 3, none⟩) (Nat.lt_of_lt_of_le Hsz.out ho1.size) HRX.out).trans ((ho1.cell (p := ⟨X, 0 + 3, none⟩) Hsz.out HFX.out).trans a3)⟩
            | exact ⟨a1, a3⟩
            | exact ⟨(ho1.cell (p := ⟨X, 0 + 1, none⟩) Hsz.out HFX.out).trans a1, (ho1.cell (p := ⟨X, 0 + 3, none⟩) Hsz.out HFX.out).trans a3⟩
            | go_keep)
          (first
            | (go_at_call 21; refine (G.cut nm n a F s wa.drew (by omega) HT.out.drew.d HF.out hn).mono ?_; rintro e w1 ⟨rfl, F1, hd1, ho1, hg1⟩)
            | (go_at_call 27; refine (ref_kept (refcut_any nm n r v s w1 (HT.out.drew.ref.only ho1 HT.out.apart) HF.out hn.2)).mono ?_; rintro e w2 ⟨rfl, v2, hr2, ho2, hg2⟩))
        all_goals
          go_wp2
          go_ret
          obtain ⟨t1, t2⟩ := HT.out.drew.step HBa.out hd1 ho1 hg1 hr2 ho2 hg2
          refine ⟨by simp, F1, v2, t1, ?_⟩
          exact (Hba.out.mono HB.out).trans ((Below.refl _ _).drew.trans t2)
      · have hk2 : (k == 2) = false := beq_eq_false_iff_ne.2 h2
        by_cases h3 : k = 3
        · subst h3
          clear hk0 h0 hk1 h1 hk2 h2
          have hs : stepS 3 nm b n keep s = (removeS nm s).2 := rfl
          rw [hs]
          go_enter Try.func12, Try.ntmps12
          go_wp2
          rw [← Hwa.out, ← HX.out]
          go_region_held3 (fun w' => w'.cell? ⟨X, 0 + 1, none⟩ = some (.string (bs nm)))
            (first
              | exact (ho2.cell (p := ⟨X, 0 + 1, none⟩) (Nat.lt_of_lt_of_le Hsz.out ho1.size) HRX.out).trans ((ho1.cell (p := ⟨X, 0 + 1, none⟩) Hsz.out HFX.out).trans a1)
              | exact a1
              | exact (ho1.cell (p := ⟨X, 0 + 1, none⟩) Hsz.out HFX.out).trans a1
              | go_keep)
            (first
              | (go_at_call 22; refine (G.remove nm a F s wa.drew (by omega) HT.out.drew.d HF.out).mono ?_; rintro e w1 ⟨rfl, F1, hd1, ho1, hg1⟩)
              | (go_at_call 28; refine (refremove_any nm r v s w1 (HT.out.drew.ref.only ho1 HT.out.apart) HF.out).mono ?_; rintro e w2 ⟨rfl, v2, hr2, ho2, hg2⟩))
          all_goals
            go_wp2
            go_ret
            obtain ⟨t1, t2⟩ := HT.out.drew.step HBa.out hd1 ho1 hg1 hr2 ho2 hg2
            refine ⟨by simp, F1, v2, t1, ?_⟩
            exact (Hba.out.mono HB.out).trans ((Below.refl _ _).drew.trans t2)
        · have hk3 : (k == 3) = false := beq_eq_false_iff_ne.2 h3
          by_cases h4 : k = 4
          · subst h4
            clear hk0 h0 hk1 h1 hk2 h2 hk3 h3
            have hs : stepS 4 nm b n keep s = s := rfl
            rw [hs]
            go_enter Try.func12, Try.ntmps12
            go_wp2_with fail
            rw [← Hwa.out, ← HX.out]
            refine (G.read nm a F s wa (by omega) HT.out.d HF.out).mono ?_
            rintro e w1 ⟨rfl, F1, hd1, ho1, hg1⟩
            have b1 := (ho1.cell (p := ⟨X, 0 + 1, none⟩) Hsz.out HFX.out).trans a1
            obtain ⟨T1, T2⟩ := HT.out.looked HBa.out hd1 ho1 hg1
            have HR := Lib.hid (refread_any nm r v s w1 T1.ref HF.out)
            have HT1 := Lib.hid T1
            have HT2 := Lib.hid ((Hba.out.mono HB.out).trans T2)
            generalize (readS nm s).1 = R1 at *
            generalize (readS nm s).2 = R2 at *
            clear T1 T2 hd1 ho1 hg1
            go_wp2_with fail
            refine HR.out.mono ?_
            rintro e w2 ⟨rfl, q, rfl⟩
            go_wp2
            go_ret
            refine ⟨by simp, F1, v, HT1.out.below (below_drewN (Below.refl _ _) q), below_drewN HT2.out q⟩
          · have hk4 : (k == 4) = false := beq_eq_false_iff_ne.2 h4
            by_cases h5 : k = 5
            · subst h5
              clear hk0 h0 hk1 h1 hk2 h2 hk3 h3 hk4 h4
              have hs : stepS 5 nm b n keep s = fuseS n s := rfl
              rw [hs]
              go_enter Try.func12, Try.ntmps12
              go_wp2_with fail
              rw [← Hwa.out, ← HX.out]
              refine (G.fuse n a F s wa HT.out.d hn).mono ?_
              rintro e w1 ⟨rfl, F1, hd1, ho1, hg1⟩
              have b3 := (ho1.cell (p := ⟨X, 0 + 3, none⟩) Hsz.out HFX.out).trans a3
              have hr1 := HT.out.ref.only ho1 HT.out.apart
              obtain ⟨_, _, m2, _, mz⟩ := hr1.cells
              have n2 := mz 2
              have hmax := fun W => run_max_none n W
              have T := HT.out.step HBa.out (w2 := w1.setCell ⟨r, 2, none⟩ (.int .i64 (max n (-1)))) hd1 ho1 hg1 (hr1.setBox (s' := fuseS n s) 2 (.int .i64 (max n (-1))) rfl rfl) ((Only.refl _ _).setCell ⟨r, 2, none⟩ _ (.inl (.inl rfl))) (fun k hk => .inl hk)
              have HT1 := Lib.hid T.1
              have HT2 := Lib.hid ((Hba.out.mono HB.out).trans T.2)
              clear T hd1 ho1 hg1 hr1 mz
              go_wp2
              go_ret
              exact ⟨rfl, F1, v, HT1.out, HT2.out⟩
            · have hk5 : (k == 5) = false := beq_eq_false_iff_ne.2 h5
              by_cases h6 : k = 6
              · subst h6
                clear hk0 h0 hk1 h1 hk2 h2 hk3 h3 hk4 h4 hk5 h5
                have hs : stepS 6 nm b n keep s = (roomS n s).2 := rfl
                rw [hs]
                by_cases hok : 0 ≤ n ∧ n ≤ 8388608
                · obtain ⟨g0, g1⟩ := hok
                  have hro : roomS n s = (0, { s with room := n }) := by unfold roomS; rw [if_pos ⟨g0, g1⟩]
                  rw [hro]
                  obtain ⟨_, m1, _, _, mz⟩ := HT.out.ref.cells
                  have n1 := mz 1
                  have hr1 := HT.out.ref.setBox (s' := { s with room := n }) 1 (.int .i64 n) rfl rfl
                  have HO := Lib.hid ((Only.refl (Foot r v) wa).setCell ⟨r, 1, none⟩ (.int .i64 n) (.inl (.inl rfl)))
                  have b3 := (HO.out.cell (p := ⟨X, 0 + 3, none⟩) Hsz.out HRX.out).trans a3
                  have hd1 : G.D (wa.setCell ⟨r, 1, none⟩ (.int .i64 n)) a F s := G.stay HT.out.d HO.out.size fun k hk => HO.out.block k (G.foot HT.out.d k hk) (fun hf => by
                    rcases hf with rfl | hf
                    · exact (HT.out.apart k hk).1 rfl
                    · exact (HT.out.apart k hk).2 hf)
                  have HP := Lib.hid (G.room n a F s _ hd1 hn)
                  rw [hro] at HP
                  have HR1 := Lib.hid hr1
                  clear hr1 hd1 mz hro m1 n1
                  obtain ⟨q0, q1, q2⟩ := Hw1.out
                  have hcomm : (w.setCell ⟨r, 1, none⟩ (.int .i64 n)).alloc (.cells #[.int .i64 6, .string (bs nm), .string (bs b), .int .i64 n, .slice A kl kc] 35) = wa.setCell ⟨r, 1, none⟩ (.int .i64 n) := by rw [Hwa.out]; exact (World.setCell_alloc_past _ r 1 _ q0).symm
                  have Hcm := Lib.hid hcomm
                  clear hcomm
                  go_enter Try.func12, Try.ntmps12
                  go_wp2_with fail
                  rw [Hcm.out, ← HX.out]
                  refine HP.out.mono ?_
                  rintro e w2 ⟨rfl, F1, hd2, ho2, hg2⟩
                  have T := HT.out.step' HBa.out HR1.out HO.out hd2 ho2 hg2
                  have HT1 := Lib.hid T.1
                  have HT2 := Lib.hid ((Hba.out.mono HB.out).trans T.2)
                  clear T hd2 ho2 hg2 q1 q2
                  go_wp2
                  go_ret
                  exact ⟨rfl, F1, v, HT1.out, HT2.out⟩
                · have hro : roomS n s = (1, s) := by unfold roomS; rw [if_neg hok]
                  rw [hro]
                  have HP := Lib.hid (G.room n a F s wa HT.out.d hn)
                  rw [hro] at HP
                  clear hro
                  by_cases g0 : 0 ≤ n
                  · have g1 : ¬ n ≤ 8388608 := fun h => hok ⟨g0, h⟩
                    clear hok
                    go_enter Try.func12, Try.ntmps12
                    go_wp2_with fail
                    rw [← Hwa.out, ← HX.out]
                    refine HP.out.mono ?_
                    rintro e w2 ⟨rfl, F1, hd2, ho2, hg2⟩
                    obtain ⟨T1, T2⟩ := HT.out.looked HBa.out hd2 ho2 hg2
                    have HT1 := Lib.hid T1
                    have HT2 := Lib.hid ((Hba.out.mono HB.out).trans T2)
                    clear T1 T2 hd2 ho2 hg2
                    go_wp2
                    go_ret
                    exact ⟨rfl, F1, v, HT1.out, HT2.out⟩
                  · clear hok
                    go_enter Try.func12, Try.ntmps12
                    go_wp2_with fail
                    rw [← Hwa.out, ← HX.out]
                    refine HP.out.mono ?_
                    rintro e w2 ⟨rfl, F1, hd2, ho2, hg2⟩
                    obtain ⟨T1, T2⟩ := HT.out.looked HBa.out hd2 ho2 hg2
                    have HT1 := Lib.hid T1
                    have HT2 := Lib.hid ((Hba.out.mono HB.out).trans T2)
                    clear T1 T2 hd2 ho2 hg2
                    go_wp2
                    go_ret
                    exact ⟨rfl, F1, v, HT1.out, HT2.out⟩
              · have hk6 : (k == 6) = false := beq_eq_false_iff_ne.2 h6
                by_cases h7 : k = 7
                · subst h7
                  clear hk0 h0 hk1 h1 hk2 h2 hk3 h3 hk4 h4 hk5 h5 hk6 h6
                  have hs : stepS 7 nm b n keep s = crashS keep s := rfl
                  rw [hs]
                  go_enter Try.func12, Try.ntmps12
                  go_wp2_with fail
                  rw [← Hwa.out, ← HX.out]
                  refine (G.crash keep A kl kc a F s wa HT.out.d HF.out Hkl.out Hrow.out (fun g off e h0 hF => by have h1 := Hrb.out g off e h0; have h2 := HT.out.base g hF; omega) hki hkl2).mono ?_
                  rintro e w1 ⟨rfl, F1, hd1, ho1, hg1⟩
                  have b4 := (ho1.cell (p := ⟨X, 0 + 4, none⟩) Hsz.out HFX.out).trans a4
                  have hr1 := HT.out.ref.only ho1 HT.out.apart
                  have hrow1 : RowAt w1 A (intC keep) := Hkeep.out w1 ho1
                  have HC := Lib.hid (refcrash_any keep A kl kc r v s w1 hr1 HF.out Hkl.out hrow1 hkl2)
                  have HS := Lib.hid (fun (w2 : World) (v2 : Value) (hr2 : RefD w2 r v2 (crashS keep s)) (ho2 : Only (Foot r v) w1 w2) (hg2 : ∀ k, v2.ownBlock = some k → v.ownBlock = some k ∨ w1.heap.size ≤ k) => HT.out.step HBa.out hd1 ho1 hg1 hr2 ho2 hg2)
                  clear hd1 ho1 hg1 hr1 hrow1
                  go_wp2_with fail
                  refine HC.out.mono ?_
                  rintro e w2 ⟨rfl, v2, hr2, ho2, hg2⟩
                  have HT1 := Lib.hid (HS.out w2 v2 hr2 ho2 hg2)
                  clear hr2 ho2 hg2
                  go_wp2
                  go_ret
                  exact ⟨rfl, F1, v2, HT1.out.1, (Hba.out.mono HB.out).trans HT1.out.2⟩
                · have hk7 : (k == 7) = false := beq_eq_false_iff_ne.2 h7
                  have hs : stepS k nm b n keep s = s := by unfold stepS; rw [if_neg h0, if_neg h1, if_neg h2, if_neg h3, if_neg h4, if_neg h5, if_neg h6, if_neg h7]
                  rw [hs]
                  clear h0 h1 h2 h3 h4 h5 h6 h7 hs
                  go_enter Try.func12, Try.ntmps12
                  go_wp2
                  go_ret
                  rw [← Hwa.out]
                  exact ⟨rfl, F, v, HT.out, Hba.out.mono HB.out⟩
end Go.Proofs.Ytbgfkjafablfiaa
