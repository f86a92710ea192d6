/-
  The contract of wal.unframed.
-/
import Derived.Test.YtdneobnnmmlebaaGreatDoorLF
namespace Go.Proofs.YtdneobnnmmlebaaGreatDoor
open Go.RowKit

def zeroC : List Value := [.int .i64 0, .int .i64 0, .int .i64 0, .int .i64 0, .string { data := #[] }]
/-- What unframed answers. -/
def UnfRet (s : List UInt8) (w : World) (e : Ending) (w' : World) : Prop := ∃ o, FrOf s o ∧ e = .returned (.tuple #[recV (unfR o), .int .i64 (unfN o : Nat)]) ∧ Below w.heap.size w w'
theorem recV_zero : recV zeroR = .agg #[.int .i64 0, .int .i64 0, .int .i64 0, .int .i64 0, .string { data := #[] }] := by unfold recV zeroR; simp only; rw [bs_nil]
theorem UnfRet.none {s : List UInt8} {w w' : World} {e : Ending} (h : ∀ r, wideR r → ¬ frameL r <+: s) (he : e = .returned (.tuple #[.agg #[.int .i64 0, .int .i64 0, .int .i64 0, .int .i64 0, .string { data := #[] }], .int .i64 0])) (hb : Below w.heap.size w w') : UnfRet s w e w' :=
  ⟨Option.none, h, by rw [he]; show _ = Ending.returned (.tuple #[recV zeroR, .int .i64 ((0 : Nat) : Int)]); rw [recV_zero]; rfl, hb⟩
theorem zero_cells {w : World} {g : Nat} (h : Holds w g 28 zeroC) : w.cell? ⟨g, 0, none⟩ = some (.int .i64 0) ∧ w.cell? ⟨g, 1, none⟩ = some (.int .i64 0) ∧ w.cell? ⟨g, 2, none⟩ = some (.int .i64 0) ∧ w.cell? ⟨g, 3, none⟩ = some (.int .i64 0) ∧ w.cell? ⟨g, 4, none⟩ = some (.string { data := #[] }) :=
  ⟨h.cell rfl, h.cell rfl, h.cell rfl, h.cell rfl, h.cell rfl⟩
theorem zero_frozen {w : World} {g : Nat} (h : Holds w g 28 zeroC) : w.frozen? ⟨g, 0, none⟩ = false ∧ w.frozen? ⟨g, 1, none⟩ = false ∧ w.frozen? ⟨g, 2, none⟩ = false ∧ w.frozen? ⟨g, 3, none⟩ = false ∧ w.frozen? ⟨g, 4, none⟩ = false :=
  ⟨h.frozen 0, h.frozen 1, h.frozen 2, h.frozen 3, h.frozen 4⟩

def set5 (w : World) (g : Nat) (v0 v1 v2 v3 v4 : Value) : World := ((((w.setCell ⟨g, 0, none⟩ v0).setCell ⟨g, 1, none⟩ v1).setCell ⟨g, 2, none⟩ v2).setCell ⟨g, 3, none⟩ v3).setCell ⟨g, 4, none⟩ v4
theorem set5_holds {w : World} {g : Nat} {t : TypeId} {a b c d e : Value} (h : Holds w g t [a, b, c, d, e]) (v0 v1 v2 v3 v4 : Value) : Holds (set5 w g v0 v1 v2 v3 v4) g t [v0, v1, v2, v3, v4] :=
  ((((h.set 0 v0).set 1 v1).set 2 v2).set 3 v3).set 4 v4
theorem set5_below {B : Nat} {u w : World} {g : Nat} (h : Below B u w) (hg : B ≤ g) (v0 v1 v2 v3 v4 : Value) : Below B u (set5 w g v0 v1 v2 v3 v4) :=
  ((((h.setCell hg v0).setCell hg v1).setCell hg v2).setCell hg v3).setCell hg v4
theorem holds5 {w : World} {g : Nat} {t : TypeId} {a b c d e : Value} (h : Holds w g t [a, b, c, d, e]) : w.cell? ⟨g, 0, none⟩ = some a ∧ w.cell? ⟨g, 1, none⟩ = some b ∧ w.cell? ⟨g, 2, none⟩ = some c ∧ w.cell? ⟨g, 3, none⟩ = some d ∧ w.cell? ⟨g, 4, none⟩ = some e :=
  ⟨h.cell rfl, h.cell rfl, h.cell rfl, h.cell rfl, h.cell rfl⟩
set_option maxRecDepth 100000 in
set_option maxHeartbeats 4000000 in
theorem unframed_any (l : List UInt8) (w : World) (hl : l.length ≤ 1000000000) : Calls Tryz.prog 61 #[.string (bs l)] w (UnfRet l w) := by
  have hsz : (bs l).size = l.length := bs_size _
  by_cases h8 : l.length < 8
  · have HU : Hid (∀ e w', e = .returned (.tuple #[.agg #[.int .i64 0, .int .i64 0, .int .i64 0, .int .i64 0, .string { data := #[] }], .int .i64 0]) → Below w.heap.size w w' → UnfRet l w e w') := Lib.hid (fun e w' he hb => UnfRet.none (fun r hr h => by have := (frame_parts hr h).1; omega) he hb)
    rw [← hsz] at h8 hl
    clear hsz
    generalize bs l = S at *
    have h8z : (S.size : Int) < 8 := by omega
    go_enter Tryz.func61, Tryz.ntmps61
    go_wp2
    refine bodyPost_ret (v := .tuple #[.agg #[.int .i64 0, .int .i64 0, .int .i64 0, .int .i64 0, .string { data := #[] }], .int .i64 0]) (by simp [results, Tryz.results61, go_sem]) rfl (HU.out _ _ rfl ?_)
    exact (Below.refl _ _).alloc (Nat.le_refl _) _
  · obtain ⟨wb, hwb⟩ : ∃ wb, wb = w.alloc (.cells #[.int .i64 0, .int .i64 0, .int .i64 0, .int .i64 0, .string { data := #[] }] 28) := ⟨_, rfl⟩
    have HB : Hid (Holds wb w.heap.size 28 zeroC) := Lib.hid (by rw [hwb]; exact Holds.new w 28 _)
    have Bb : Hid (Below w.heap.size w wb) := Lib.hid (by rw [hwb]; exact (Below.refl _ _).alloc (Nat.le_refl _) _)
    have hgb : w.heap.size < wb.heap.size := by rw [hwb]; simp
    have Hwb := Lib.hid hwb
    have S1 := Lib.hid (fun (W : World) => numberOf_any (bs l) W (by omega))
    rw [bl_bs] at S1
    have HU : Hid (∀ e w', (∀ r, wideR r → ¬ frameL r <+: l) → e = .returned (.tuple #[.agg #[.int .i64 0, .int .i64 0, .int .i64 0, .int .i64 0, .string { data := #[] }], .int .i64 0]) → Below w.heap.size w w' → UnfRet l w e w') := Lib.hid (fun e w' h he hb => UnfRet.none h he hb)
    have Hnb := Lib.hid (be_numBe (s := l) (by omega)).2
    obtain ⟨nb, hnb⟩ : ∃ nb, nb = numBe l := ⟨_, rfl⟩
    rw [← hnb] at S1 Hnb
    have hnb32 := Hnb.out
    have hg1 : ∃ g, g = w.heap.size := ⟨_, rfl⟩
    obtain ⟨g, hg⟩ := hg1
    have Hg := Lib.hid hg
    rw [← hg] at HB hgb
    by_cases hbig : l.length - 8 < nb
    · have Hno : Hid (∀ r, wideR r → ¬ frameL r <+: l) := Lib.hid (fun r hr h => by have := frame_parts hr h; omega)
      have hbz : (l.length : Int) - 8 < (nb : Int) := by omega
      have h8z : ¬ (l.length : Int) < 8 := by omega
      have h8y : (0 : Int) ≤ (l.length : Int) - 8 := by omega
      clear hwb hg hnb
      generalize bs l = S at *
      go_enter Tryz.func61, Tryz.ntmps61
      go_wp2_with fail
      rw [← Hwb.out]
      refine (S1.out _).mono ?_
      rintro e w1 ⟨rfl, hb1⟩
      have H1 := HB.out.below hb1 hgb
      obtain ⟨c0, c1, c2, c3, c4⟩ := zero_cells H1
      obtain ⟨f0, f1, f2, f3, f4⟩ := zero_frozen H1
      have B1 := Lib.hid (Bb.out.trans (below_mono' hb1 Bb.out.size))
      rw [← Hg.out]
      have HH := Lib.hid H1
      clear hb1 H1
      go_wp2
      change bodyPost Tryz.prog Tryz.f61 (UnfRet l w) Exit.ret _ (set5 w1 g (.int .i64 0) (.int .i64 0) (.int .i64 0) (.int .i64 0) (.string { data := #[] }))
      have HX := set5_holds HH.out (.int .i64 0) (.int .i64 0) (.int .i64 0) (.int .i64 0) (.string { data := #[] })
      have BX := Lib.hid (set5_below B1.out (Nat.le_of_eq Hg.out.symm) (.int .i64 0) (.int .i64 0) (.int .i64 0) (.int .i64 0) (.string { data := #[] }))
      generalize set5 w1 g (.int .i64 0) (.int .i64 0) (.int .i64 0) (.int .i64 0) (.string { data := #[] }) = wx at *
      obtain ⟨x0, x1, x2, x3, x4⟩ := holds5 HX
      exact bodyPost_ret (v := .tuple #[.agg #[.int .i64 0, .int .i64 0, .int .i64 0, .int .i64 0, .string { data := #[] }], .int .i64 0]) (by simp [results, Tryz.results61, go_sem, x0, x1, x2, x3, x4]) rfl (HU.out _ _ Hno.out rfl BX.out)
    · have hbz : ¬ (l.length : Int) - 8 < (nb : Int) := by omega
      have h8z : ¬ (l.length : Int) < 8 := by omega
      have h8y : (0 : Int) ≤ (l.length : Int) - 8 := by omega
      obtain ⟨P, hP⟩ : ∃ P, P = (l.drop 8).take nb := ⟨_, rfl⟩
      have hPl : P.length = nb := by rw [hP, List.length_take, List.length_drop]; omega
      have hPs : (bs P).size = nb := by rw [bs_size, hPl]
      have hex : (bs l).extract 8 (8 + nb) = bs P := by
        rw [← bs_bl ((bs l).extract 8 (8 + nb)), bl_extract, bl_bs, hP, Nat.add_sub_cancel_left]
      have hex4 : (bs l).extract 4 l.length = bs (l.drop 4) := by
        rw [← bs_bl ((bs l).extract 4 l.length), bl_extract, bl_bs, List.take_of_length_le (by rw [List.length_drop]; omega)]
      have hsz4 : (bs (l.drop 4)).size = l.length - 4 := by rw [bs_size, List.length_drop]
      have hn1 : ((8 : Int) + (nb : Int)).toNat = 8 + nb := by omega
      have hle1 : (8 : Int) + (nb : Int) ≤ (l.length : Int) := by omega
      have hle2 : (8 : Int) ≤ 8 + (nb : Int) := by omega
      have hle3 : (4 : Int) ≤ (l.length : Int) := by omega
      have S2 := Lib.hid (fun (W : World) => numberOf_any (bs (l.drop 4)) W (by rw [hsz4]; omega))
      rw [bl_bs] at S2
      have Hcb := Lib.hid (be_numBe (s := l.drop 4) (by rw [List.length_drop]; omega)).2
      obtain ⟨cb, hcb⟩ : ∃ cb, cb = numBe (l.drop 4) := ⟨_, rfl⟩
      rw [← hcb] at S2 Hcb
      have HP := Lib.hid hP
      have Hcd := Lib.hid hcb
      have Hnd := Lib.hid hnb
      have HPs := Lib.hid (bl_bs P)
      clear hwb hg hnb hcb hP
      generalize hS : bs l = S at *
      generalize hS4 : bs (l.drop 4) = S4 at *
      generalize hQ : bs P = Q at *
      clear hS hS4 hQ
      go_enter Tryz.func61, Tryz.ntmps61
      go_wp2_with fail
      rw [← Hwb.out]
      refine (S1.out _).mono ?_
      rintro e w1 ⟨rfl, hb1⟩
      have H1 := Lib.hid (HB.out.below hb1 hgb)
      have hg1 : g < w1.heap.size := H1.out.lt
      have B1 := Lib.hid (Bb.out.trans (below_mono' hb1 Bb.out.size))
      rw [← Hg.out]
      clear hb1 HB Bb hgb
      go_wp2_with fail
      refine (S1.out _).mono ?_
      rintro e w2 ⟨rfl, hb2⟩
      have H2 := Lib.hid (H1.out.below hb2 hg1)
      have B2 := Lib.hid (B1.out.trans (below_mono' hb2 B1.out.size))
      clear hb2 H1 B1 S1 hg1
      go_wp2_with fail
      refine (S2.out _).mono ?_
      rintro e w3 ⟨rfl, hb3⟩
      have H3 := Lib.hid (H2.out.below hb3 H2.out.lt)
      have B3 := Lib.hid (B2.out.trans (below_mono' hb3 B2.out.size))
      clear hb3 H2 B2 S2
      obtain ⟨w4, hw4⟩ : ∃ w4, w4 = Lib.bytesWorld w3 5 Q := ⟨_, rfl⟩
      obtain ⟨cp, hcp⟩ : ∃ cp, cp = grownCap w3 Q.size 0 5 := ⟨_, rfl⟩
      have hconv := Lib.run_convert_string_bytes (P := Tryz.prog) w3 9 50 5 Q Tryz.underlying9 Tryz.underlying50 Tryz.underlying5
      have S4 := of_bytes Q w3 cp (by omega)
      have hb4 : Below w3.heap.size w3 w4 := by rw [hw4]; exact ⟨rfl, rfl, rfl, by rw [Lib.bytesWorld_size]; omega, fun j hj => Lib.bytesWorld_at_old _ _ _ j hj⟩
      rw [← hw4, ← hcp, hPs] at hconv
      rw [← hw4, hPs, HPs.out] at S4
      have Hc4 := Lib.hid (crc_lt P)
      have hcb4 := Hcb.out
      obtain ⟨cr, hcr⟩ : ∃ cr, cr = crcN P := ⟨_, rfl⟩
      rw [← hcr] at S4 Hc4
      have HS4 := Lib.hid S4
      have H4 := Lib.hid (H3.out.below hb4 H3.out.lt)
      have B4 := Lib.hid (B3.out.trans (below_mono' hb4 B3.out.size))
      have Hcr := Lib.hid hcr
      clear hb4 H3 B3 hw4 hcp S4 hcr
      by_cases hcc : cb = cr
      · have hcz : ((cb : Int) == (cr : Int)) = true := by rw [hcc]; simp
        go_wp2_with fail
        refine HS4.out.mono ?_
        rintro e w5 ⟨rfl, rfl⟩
        clear HS4 hconv
        have SR := Lib.hid (read_any Q w5)
        rw [HPs.out] at SR
        have hga : g < w5.heap.size := H4.out.lt
        obtain ⟨a, ha⟩ : ∃ a, a = w5.heap.size := ⟨_, rfl⟩
        rw [← ha] at SR
        have Ha := Lib.hid ha
        have Hga : Hid (g < a ∧ some g ≠ some a) := Lib.hid (by rw [ha]; exact ⟨hga, fun e => by injection e with e; omega⟩)
        have Hka : Hid (∀ k, some a = some k → w.heap.size ≤ k) := Lib.hid (fun k hk => by injection hk with hk; rw [← hk, ha]; exact B4.out.size)
        obtain ⟨q1, e1⟩ : ∃ q, q = rdN 4611686018427387903 P false := ⟨_, rfl⟩
        obtain ⟨q2, e2⟩ : ∃ q, q = rdN 4611686018427387903 q1.2.1 q1.2.2 := ⟨_, rfl⟩
        obtain ⟨q3, e3⟩ : ∃ q, q = rdN 4611686018427387903 q2.2.1 q2.2.2 := ⟨_, rfl⟩
        obtain ⟨q4, e4⟩ : ∃ q, q = rdN 4611686018427387903 q3.2.1 q3.2.2 := ⟨_, rfl⟩
        obtain ⟨q5, e5⟩ : ∃ q, q = rdT 131072 q4.2.1 q4.2.2 := ⟨_, rfl⟩
        have Hrd : Hid (rd5 P = ⟨q1, q2, q3, q4, q5⟩) := Lib.hid (by unfold rd5 mostN; simp only [← e1, ← e2, ← e3, ← e4, ← e5])
        have L0 : P.length ≤ 1000000000 := by omega
        have L1 : q1.2.1.length ≤ 1000000000 := by rw [e1]; exact Nat.le_trans (rdN_length _ _ _) L0
        have L2 : q2.2.1.length ≤ 1000000000 := by rw [e2]; exact Nat.le_trans (rdN_length _ _ _) L1
        have L3 : q3.2.1.length ≤ 1000000000 := by rw [e3]; exact Nat.le_trans (rdN_length _ _ _) L2
        have L4 : q4.2.1.length ≤ 1000000000 := by rw [e4]; exact Nat.le_trans (rdN_length _ _ _) L3
        have HL := Lib.hid (And.intro L0 (And.intro L1 (And.intro L2 (And.intro L3 L4))))
        have HE := Lib.hid (And.intro e1 (And.intro e2 (And.intro e3 (And.intro e4 e5))))
        have hwr : IntKind.i64.wrap (8 + (nb : Int)) = 8 + (nb : Int) := by rw [IntKind.wrap_i64]; omega
        clear L0 L1 L2 L3 L4 e1 e2 e3 e4 e5 ha hga
        go_wp2_with fail
        refine SR.out.mono ?_
        rintro e w6 ⟨rfl, hr6, hb6, hs6⟩
        have R6 := Lib.hid hr6
        have H6 := Lib.hid (H4.out.below hb6 Hga.out.1)
        have B6 := Lib.hid (B4.out.trans (below_mono' hb6 (by rw [Ha.out]; exact B4.out.size)))
        clear hr6 hb6 hs6 SR H4 B4
        have S7 := Lib.hid (num_any P false a w6 R6.out HL.out.1)
        rw [← HE.out.1] at S7
        go_wp2_with fail
        refine S7.out.mono ?_
        rintro e w7 ⟨rfl, hr7, hg7⟩
        have R7 := Lib.hid hr7
        have H7 := Lib.hid (H6.out.grown hg7 Hga.out.2)
        have B7 := Lib.hid (B6.out.grown hg7 B6.out.size Hka.out)
        clear hr7 hg7 S7 R6 H6 B6
        have S8 := Lib.hid (num_any q1.2.1 q1.2.2 a w7 R7.out HL.out.2.1)
        rw [← HE.out.2.1] at S8
        go_wp2_with fail
        refine S8.out.mono ?_
        rintro e w8 ⟨rfl, hr8, hg8⟩
        have R8 := Lib.hid hr8
        have H8 := Lib.hid (H7.out.grown hg8 Hga.out.2)
        have B8 := Lib.hid (B7.out.grown hg8 B7.out.size Hka.out)
        clear hr8 hg8 S8 R7 H7 B7
        have S9 := Lib.hid (num_any q2.2.1 q2.2.2 a w8 R8.out HL.out.2.2.1)
        rw [← HE.out.2.2.1] at S9
        go_wp2_with fail
        refine S9.out.mono ?_
        rintro e w9 ⟨rfl, hr9, hg9⟩
        have R9 := Lib.hid hr9
        have H9 := Lib.hid (H8.out.grown hg9 Hga.out.2)
        have B9 := Lib.hid (B8.out.grown hg9 B8.out.size Hka.out)
        clear hr9 hg9 S9 R8 H8 B8
        have S10 := Lib.hid (num_any q3.2.1 q3.2.2 a w9 R9.out HL.out.2.2.2.1)
        rw [← HE.out.2.2.2.1] at S10
        go_wp2_with fail
        refine S10.out.mono ?_
        rintro e w10 ⟨rfl, hr10, hg10⟩
        have R10 := Lib.hid hr10
        have H10 := Lib.hid (H9.out.grown hg10 Hga.out.2)
        have B10 := Lib.hid (B9.out.grown hg10 B9.out.size Hka.out)
        clear hr10 hg10 S10 R9 H9 B9
        have S11 := Lib.hid (text_any 131072 q4.2.1 q4.2.2 a w10 R10.out HL.out.2.2.2.2)
        rw [← HE.out.2.2.2.2] at S11
        go_wp2_with fail
        refine S11.out.mono ?_
        rintro e w11 ⟨rfl, hr11, hg11⟩
        have R11 := Lib.hid hr11
        have H11 := Lib.hid (H10.out.grown hg11 Hga.out.2)
        have B11 := Lib.hid (B10.out.grown hg11 B10.out.size Hka.out)
        clear hr11 hg11 S11 R10 H10 B10
        obtain ⟨wx1, hwx1⟩ : ∃ wx1, wx1 = w11.alloc (.cells #[.int .i64 q1.1, .int .i64 q2.1, .int .i64 q3.1, .int .i64 q4.1, .string (bs q5.1)] 28) := ⟨_, rfl⟩
        have hbx : Below w11.heap.size w11 wx1 := by rw [hwx1]; exact (Below.refl _ _).alloc (Nat.le_refl _) _
        have RX := Lib.hid (R11.out.below hbx R11.out.lt)
        have HX1 := Lib.hid (H11.out.below hbx H11.out.lt)
        have BX1 := Lib.hid (B11.out.trans (below_mono' hbx B11.out.size))
        have y0 : wx1.cell? ⟨w11.heap.size, 0, none⟩ = some (.int .i64 q1.1) ∧ wx1.cell? ⟨w11.heap.size, 1, none⟩ = some (.int .i64 q2.1) ∧ wx1.cell? ⟨w11.heap.size, 2, none⟩ = some (.int .i64 q3.1) ∧ wx1.cell? ⟨w11.heap.size, 3, none⟩ = some (.int .i64 q4.1) ∧ wx1.cell? ⟨w11.heap.size, 4, none⟩ = some (.string (bs q5.1)) := by rw [hwx1]; exact ⟨by simp, by simp, by simp, by simp, by simp⟩
        have Y := Lib.hid y0
        have Hwx1 := Lib.hid hwx1
        have SE := Lib.hid (end_any q5.2.1 q5.2.2 a wx1 RX.out)
        clear hwx1 hbx y0 R11 H11 B11
        go_wp2_with fail
        rw [← Hwx1.out]
        refine SE.out.mono ?_
        rintro e w12 ⟨rfl, rfl⟩
        obtain ⟨y0, y1, y2, y3, y4⟩ := Y.out
        obtain ⟨c0, c1, c2, c3, c4⟩ := zero_cells HX1.out
        obtain ⟨f0, f1, f2, f3, f4⟩ := zero_frozen HX1.out
        by_cases hq5 : q5.2 = ([], false)
        · have hev : endV q5.2.1 q5.2.2 = 0 := by rw [hq5]; unfold endV; simp
          have HU2 : Hid (∀ e w', e = .returned (.tuple #[.agg #[.int .i64 q1.1, .int .i64 q2.1, .int .i64 q3.1, .int .i64 q4.1, .string (bs q5.1)], .int .i64 (8 + (nb : Int))]) → Below w.heap.size w w' → UnfRet l w e w') := Lib.hid (fun e w' he hb => by
            obtain ⟨hwd, hpy⟩ := pay_rd5 (p := P) (by rw [Hrd.out]; exact hq5)
            rw [Hrd.out] at hwd hpy
            refine ⟨some (rdR ⟨q1, q2, q3, q4, q5⟩), ⟨hwd, parts_frame (by omega) (by rw [← Hnd.out]; omega) (by rw [← Hnd.out, ← HP.out, ← Hcd.out, ← Hcr.out, hcc]) (by rw [← Hnd.out, ← HP.out, hpy])⟩, ?_, hb⟩
            rw [he]
            have e9 : ((8 + (payL (rdR ⟨q1, q2, q3, q4, q5⟩)).length : Nat) : Int) = 8 + (nb : Int) := by rw [hpy, hPl]; omega
            unfold unfN unfR recV rdR
            simp only [Option.getD_some, frame_len]
            unfold rdR at e9
            rw [e9])
          rw [hev]
          clear hq5 hev
          go_wp2
          change bodyPost Tryz.prog Tryz.f61 (UnfRet l w) Exit.ret _ (set5 w12 g (.int .i64 q1.1) (.int .i64 q2.1) (.int .i64 q3.1) (.int .i64 q4.1) (.string (bs q5.1)))
          have HX := set5_holds HX1.out (.int .i64 q1.1) (.int .i64 q2.1) (.int .i64 q3.1) (.int .i64 q4.1) (.string (bs q5.1))
          have BX := Lib.hid (set5_below BX1.out (Nat.le_of_eq Hg.out.symm) (.int .i64 q1.1) (.int .i64 q2.1) (.int .i64 q3.1) (.int .i64 q4.1) (.string (bs q5.1)))
          generalize set5 w12 g (.int .i64 q1.1) (.int .i64 q2.1) (.int .i64 q3.1) (.int .i64 q4.1) (.string (bs q5.1)) = wx at *
          obtain ⟨x0, x1, x2, x3, x4⟩ := holds5 HX
          exact bodyPost_ret (v := .tuple #[.agg #[.int .i64 q1.1, .int .i64 q2.1, .int .i64 q3.1, .int .i64 q4.1, .string (bs q5.1)], .int .i64 (8 + (nb : Int))]) (by simp [results, Tryz.results61, go_sem, x0, x1, x2, x3, x4]) rfl (HU2.out _ _ rfl BX.out)
        · have hev : endV q5.2.1 q5.2.2 = 3 := by
            unfold endV
            rw [if_pos]
            cases hb : q5.2.2 with
            | true => exact .inl rfl
            | false => exact .inr (fun h => hq5 (by rw [← h, ← hb]))
          have Hno : Hid (∀ r, wideR r → ¬ frameL r <+: l) := Lib.hid (fun r hr h => by
            obtain ⟨_, _, _, h4, _⟩ := frame_parts hr h
            rw [← Hnd.out, ← HP.out] at h4
            have := (rd5_pay hr).1
            rw [← h4, Hrd.out] at this
            exact hq5 this)
          rw [hev]
          clear hq5 hev
          go_wp2
          change bodyPost Tryz.prog Tryz.f61 (UnfRet l w) Exit.ret _ (set5 w12 g (.int .i64 0) (.int .i64 0) (.int .i64 0) (.int .i64 0) (.string { data := #[] }))
          have HX := set5_holds HX1.out (.int .i64 0) (.int .i64 0) (.int .i64 0) (.int .i64 0) (.string { data := #[] })
          have BX := Lib.hid (set5_below BX1.out (Nat.le_of_eq Hg.out.symm) (.int .i64 0) (.int .i64 0) (.int .i64 0) (.int .i64 0) (.string { data := #[] }))
          generalize set5 w12 g (.int .i64 0) (.int .i64 0) (.int .i64 0) (.int .i64 0) (.string { data := #[] }) = wx at *
          obtain ⟨x0, x1, x2, x3, x4⟩ := holds5 HX
          exact bodyPost_ret (v := .tuple #[.agg #[.int .i64 0, .int .i64 0, .int .i64 0, .int .i64 0, .string { data := #[] }], .int .i64 0]) (by simp [results, Tryz.results61, go_sem, x0, x1, x2, x3, x4]) rfl (HU.out _ _ Hno.out rfl BX.out)
      · have hcz : ((cb : Int) == (cr : Int)) = false := by rw [beq_eq_false_iff_ne]; omega
        have Hno : Hid (∀ r, wideR r → ¬ frameL r <+: l) := Lib.hid (fun r hr h => by
          obtain ⟨_, _, _, h4, h5⟩ := frame_parts hr h
          rw [← Hnd.out, ← HP.out] at h4
          rw [← Hcd.out, ← h4, ← Hcr.out] at h5
          exact hcc h5)
        obtain ⟨c0, c1, c2, c3, c4⟩ := zero_cells H4.out
        obtain ⟨f0, f1, f2, f3, f4⟩ := zero_frozen H4.out
        go_wp2_with fail
        refine HS4.out.mono ?_
        rintro e w5 ⟨rfl, rfl⟩
        clear HS4 hconv
        go_wp2
        change bodyPost Tryz.prog Tryz.f61 (UnfRet l w) Exit.ret _ (set5 w5 g (.int .i64 0) (.int .i64 0) (.int .i64 0) (.int .i64 0) (.string { data := #[] }))
        have HX := set5_holds H4.out (.int .i64 0) (.int .i64 0) (.int .i64 0) (.int .i64 0) (.string { data := #[] })
        have BX := Lib.hid (set5_below B4.out (Nat.le_of_eq Hg.out.symm) (.int .i64 0) (.int .i64 0) (.int .i64 0) (.int .i64 0) (.string { data := #[] }))
        generalize set5 w5 g (.int .i64 0) (.int .i64 0) (.int .i64 0) (.int .i64 0) (.string { data := #[] }) = wx at *
        obtain ⟨x0, x1, x2, x3, x4⟩ := holds5 HX
        exact bodyPost_ret (v := .tuple #[.agg #[.int .i64 0, .int .i64 0, .int .i64 0, .int .i64 0, .string { data := #[] }], .int .i64 0]) (by simp [results, Tryz.results61, go_sem, x0, x1, x2, x3, x4]) rfl (HU.out _ _ Hno.out rfl BX.out)
end Go.Proofs.YtdneobnnmmlebaaGreatDoor
