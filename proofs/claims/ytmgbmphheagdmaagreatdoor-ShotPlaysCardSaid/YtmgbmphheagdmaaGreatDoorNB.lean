/-
  Over no disk; ShotNone.
-/
import Derived.Test.YtmgbmphheagdmaaGreatDoorNA
namespace Go.Proofs.YtmgbmphheagdmaaGreatDoor
open Go.RowKit
set_option linter.unusedVariables false
set_option linter.unusedSimpArgs false

theorem down_none (w : World) : Calls Tryz.prog 54 #[.pointer none] w fun e w' => e = .returned (.bool true) ∧ w' = w := by
  go_enter Tryz.func54, Tryz.ntmps54
  go_wp2
  go_ret
  exact ⟨rfl, rfl⟩
theorem find_none (x : ByteArray) (w : World) : Calls Tryz.prog 53 #[.pointer none, .string x] w fun e w' => e = .returned (.tuple #[.pointer none, .int .i64 7]) ∧ w' = w := by
  go_enter Tryz.func53, Tryz.ntmps53
  go_wp2_with (go_at_call 54; refine (down_none _).mono ?_; rintro e w' ⟨rfl, rfl⟩)
  go_ret2
  exact ⟨rfl, rfl⟩

theorem read_none (x : ByteArray) (w : World) : Calls Tryz.prog 30 #[.pointer none, .string x] w fun e w' => e = .returned (.tuple #[.string { data := #[] }, .int .i64 7]) ∧ w' = w := by
  go_enter Tryz.func30, Tryz.ntmps30
  go_wp2_with (go_at_call 53; refine (find_none _ _).mono ?_; rintro e w' ⟨rfl, rfl⟩)
  go_ret2
  exact ⟨rfl, rfl⟩
/-- The cells of Load: its argument, its results. -/
structure LdN (w : World) (b : Nat) : Prop where
  h1 : Holds w b 25 [.pointer none]
  h2 : Holds w (b + 1) 33 [.int .i64 0, .int .i64 0, .string { data := #[] }]
  h3 : Holds w (b + 1 + 1) 4 [.bool false]
  h4 : Holds w (b + 1 + 1 + 1) 26 [.int .i64 0]
section
variable {w w' : World} {b : Nat} 
theorem LdN.lt (h : LdN w b) : b + 1 + 1 + 1 < w.heap.size := h.h4.lt
theorem LdN.on {B : Nat} (h : LdN w b) (hb : Below B w w') (hB : b + 1 + 1 + 1 < B) : LdN w' b :=
  ⟨h.h1.below hb (by omega), h.h2.below hb (by omega), h.h3.below hb (by omega), h.h4.below hb hB⟩
theorem LdN.below (h : LdN w b) (hb : Below w.heap.size w w') : LdN w' b := h.on hb h.lt
theorem LdN.c1 (h : LdN w b) : w.cell? ⟨b, 0, none⟩ = some (.pointer none) := h.h1.cell rfl
theorem LdN.c2 (h : LdN w b) : w.cell? ⟨b + 1, 0, none⟩ = some (.int .i64 0) := h.h2.cell rfl
theorem LdN.c3 (h : LdN w b) : w.cell? ⟨b + 1, 1, none⟩ = some (.int .i64 0) := h.h2.cell rfl
theorem LdN.c4 (h : LdN w b) : w.cell? ⟨b + 1, 2, none⟩ = some (.string { data := #[] }) := h.h2.cell rfl
theorem LdN.c5 (h : LdN w b) : w.cell? ⟨b + 1 + 1, 0, none⟩ = some (.bool false) := h.h3.cell rfl
theorem LdN.c6 (h : LdN w b) : w.cell? ⟨b + 1 + 1 + 1, 0, none⟩ = some (.int .i64 0) := h.h4.cell rfl
theorem LdN.f2 (h : LdN w b) : w.frozen? ⟨b + 1, 0, none⟩ = false := h.h2.frozen 0
theorem LdN.f3 (h : LdN w b) : w.frozen? ⟨b + 1, 1, none⟩ = false := h.h2.frozen 1
theorem LdN.f4 (h : LdN w b) : w.frozen? ⟨b + 1, 2, none⟩ = false := h.h2.frozen 2
theorem LdN.f5 (h : LdN w b) : w.frozen? ⟨b + 1 + 1, 0, none⟩ = false := h.h3.frozen 0
theorem LdN.f6 (h : LdN w b) : w.frozen? ⟨b + 1 + 1 + 1, 0, none⟩ = false := h.h4.frozen 0
end
theorem ldN_new (w : World) : LdN ((((w.alloc (.cells #[.pointer none] 25)).alloc (.cells #[.int .i64 0, .int .i64 0, .string { data := #[] }] 33)).alloc (.cells #[.bool false] 4)).alloc (.cells #[.int .i64 0] 26)) w.heap.size := by
  have h1 := (((Holds.new w 25 #[.pointer none]).alloc (.cells #[.int .i64 0, .int .i64 0, .string { data := #[] }] 33)).alloc (.cells #[.bool false] 4)).alloc (.cells #[.int .i64 0] 26)
  have h2 := ((Holds.new (w.alloc (.cells #[.pointer none] 25)) 33 #[.int .i64 0, .int .i64 0, .string { data := #[] }]).alloc (.cells #[.bool false] 4)).alloc (.cells #[.int .i64 0] 26)
  have h3 := (Holds.new ((w.alloc (.cells #[.pointer none] 25)).alloc (.cells #[.int .i64 0, .int .i64 0, .string { data := #[] }] 33)) 4 #[.bool false]).alloc (.cells #[.int .i64 0] 26)
  have h4 := Holds.new (((w.alloc (.cells #[.pointer none] 25)).alloc (.cells #[.int .i64 0, .int .i64 0, .string { data := #[] }] 33)).alloc (.cells #[.bool false] 4)) 26 #[.int .i64 0]
  simp only [World.size_alloc] at h2 h3 h4
  exact ⟨h1, h2, h3, h4⟩

theorem resN_cells {w : World} {b : Nat} (h : LdN w b) (v0 v1 v2 v3 v4 : Value) :
    (resL w b v0 v1 v2 v3 v4).cell? ⟨b + 1, 0, none⟩ = some v0 ∧ (resL w b v0 v1 v2 v3 v4).cell? ⟨b + 1, 1, none⟩ = some v1 ∧ (resL w b v0 v1 v2 v3 v4).cell? ⟨b + 1, 2, none⟩ = some v2 ∧ (resL w b v0 v1 v2 v3 v4).cell? ⟨b + 1 + 1, 0, none⟩ = some v3 ∧ (resL w b v0 v1 v2 v3 v4).cell? ⟨b + 1 + 1 + 1, 0, none⟩ = some v4 := by
  have k2 := ((((h.h2.set 0 v0).set 1 v1).set 2 v2).aside (a := ⟨b + 1 + 1, 0, none⟩) (by simp) v3).aside (a := ⟨b + 1 + 1 + 1, 0, none⟩) (by simp <;> omega) v4
  have k3 := ((((h.h3.aside (a := ⟨b + 1, 0, none⟩) (by simp) v0).aside (a := ⟨b + 1, 1, none⟩) (by simp) v1).aside (a := ⟨b + 1, 2, none⟩) (by simp) v2).set 0 v3).aside (a := ⟨b + 1 + 1 + 1, 0, none⟩) (by simp) v4
  have k4 := ((((h.h4.aside (a := ⟨b + 1, 0, none⟩) (by simp <;> omega) v0).aside (a := ⟨b + 1, 1, none⟩) (by simp <;> omega) v1).aside (a := ⟨b + 1, 2, none⟩) (by simp <;> omega) v2).aside (a := ⟨b + 1 + 1, 0, none⟩) (by simp) v3).set 0 v4
  exact ⟨k2.cell rfl, k2.cell rfl, k2.cell rfl, k3.cell rfl, k4.cell rfl⟩

def NoneL (w : World) (e : Ending) (w' : World) : Prop := e = .returned (loadV 7 none) ∧ Below w.heap.size w w'
set_option maxRecDepth 100000 in
set_option maxHeartbeats 8000000 in
theorem load_nil_any (w : World) : Calls Tryz.prog 24 #[.pointer none] w (NoneL w) := by
  have HD := Lib.hid (fun (W : World) (_ : Below w.heap.size w W) => (down_none W).mono fun e W' ⟨he, hw⟩ => (⟨he, by rw [hw]; exact Below.refl _ _⟩ : e = Ending.returned (.bool true) ∧ Below W.heap.size W W'))
  obtain ⟨w0, hw0⟩ : ∃ w0, w0 = (((w.alloc (.cells #[.pointer none] 25)).alloc (.cells #[.int .i64 0, .int .i64 0, .string { data := #[] }] 33)).alloc (.cells #[.bool false] 4)).alloc (.cells #[.int .i64 0] 26) := ⟨_, rfl⟩
  have B0 : Hid (Below w.heap.size w w0) := Lib.hid (by rw [hw0]; exact ((((Below.refl _ _).alloc (Nat.le_refl _) _).alloc (by simp) _).alloc (by simp; omega) _).alloc (by simp; omega) _)
  have C0 : Hid (LdN w0 w.heap.size) := Lib.hid (by rw [hw0]; exact ldN_new w)
  have Hw0 := Lib.hid hw0
  clear hw0
  refine (callsIn_wide (n := 6)).1 ?_
  refine callsIn_of_wp_marks Tryz.func24 rfl trivial ?_ rfl
  simp only [Tryz.ntmps24, List.size_toArray, List.length_cons, List.length_nil, Nat.reduceAdd, Nat.reduceSub, Array.replicate_succ, Array.replicate_zero, List.push_toArray, List.append_toArray, List.nil_append, List.cons_append]
  gi_wp2_with (refine ⟨trivial, ?_⟩; gi_at_call 54; rw [← Hw0.out]; refine (callsIn_wide.2 (HD.out _ B0.out)).mono ?_; rintro e w1 ⟨rfl, hb1⟩; have H1 := C0.out.below hb1; have B1 := Lib.hid (B0.out.trans (below_mono' hb1 B0.out.size)); clear hb1; have hc1 := H1.c1; have hc2 := H1.c2; have hc3 := H1.c3; have hc4 := H1.c4; have hc5 := H1.c5; have hc6 := H1.c6; have hf2 := H1.f2; have hf3 := H1.f3; have hf4 := H1.f4; have hf5 := H1.f5; have hf6 := H1.f6)
  obtain ⟨wx, hwx⟩ : ∃ wx, wx = resL w1 w.heap.size (.int .i64 0) (.int .i64 0) (.string { data := #[] }) (.bool false) (.int .i64 7) := ⟨_, rfl⟩
  have HX := resN_cells H1 (.int .i64 0) (.int .i64 0) (.string { data := #[] }) (.bool false) (.int .i64 7)
  have BX := Lib.hid (resL_below B1.out (Nat.le_refl _) (.int .i64 0) (.int .i64 0) (.string { data := #[] }) (.bool false) (.int .i64 7))
  rw [← hwx] at HX BX
  change bodyPostM Fence.wide 6 Tryz.prog Tryz.f24 (NoneL w) Exit.ret _ (resL w1 w.heap.size (.int .i64 0) (.int .i64 0) (.string { data := #[] }) (.bool false) (.int .i64 7))
  rw [← hwx]
  clear hwx
  obtain ⟨x2, x3, x4, x5, x6⟩ := HX
  refine ⟨loadV 7 none, by simp [results, Tryz.results24, go_sem, x2, x3, x4, x5, x6, loadV], rfl, BX.out⟩

set_option maxRecDepth 100000 in
set_option maxHeartbeats 8000000 in
theorem save_nil_any (s : Sh) (w : World) (hs : s.d.length ≤ 9223372036854775807) (ht : Tab w) :
    Calls Tryz.prog 12 #[.pointer none, snapV s] w fun e w' => e = .returned (.int .i64 (if okS s then 7 else 1)) ∧ Below w.heap.size w w' := by
  obtain ⟨x, hx⟩ : ∃ x, x = (if okS s then (7 : Int) else 1) := ⟨_, rfl⟩
  have Hx : Hid ((okS s → x = 7) ∧ (¬ okS s → x = 1)) := Lib.hid ⟨fun h => by rw [hx, if_pos h], fun h => by rw [hx, if_neg h]⟩
  rw [← hx]
  clear hx
  have HV := Lib.hid (fun (W : World) => valid_any s W hs)
  obtain ⟨wa, hwa⟩ : ∃ wa, wa = w.alloc (.cells #[.int .i64 s.i, .int .i64 s.t, .string (bs s.d)] 33) := ⟨_, rfl⟩
  have Ba : Hid (Below w.heap.size w wa) := Lib.hid (by rw [hwa]; exact (Below.refl _ _).alloc (Nat.le_refl _) _)
  have La : Hid (w.heap.size < wa.heap.size) := Lib.hid (by rw [hwa]; simp)
  have ca0 : wa.cell? ⟨w.heap.size, 0, none⟩ = some (.int .i64 s.i) := by rw [hwa]; simp
  have ca1 : wa.cell? ⟨w.heap.size, 1, none⟩ = some (.int .i64 s.t) := by rw [hwa]; simp
  have ca2 : wa.cell? ⟨w.heap.size, 2, none⟩ = some (.string (bs s.d)) := by rw [hwa]; simp
  have Hca := Lib.hid (And.intro ca0 (And.intro ca1 ca2))
  have Hwa := Lib.hid hwa
  have Ht := Lib.hid ht
  clear hwa ht ca0 ca1 ca2 hs
  by_cases hok : okS s
  · have HF := Lib.hid (fun (W : World) (hb : Below w.heap.size w W) => fileOf_any s W hok (TabB.at Ht.out hb))
    have HC := Lib.hid (fun (W : World) => contentOf_any s W hok)
    rw [decide_eq_true hok] at HV
    have Htl : Hid ((textS s).length ≤ 2000000) := Lib.hid (by have := text_bd hok; omega)
    have Hok := Lib.hid hok
    clear hok
    unfold snapV at HV HF HC ⊢
    obtain ⟨nmv, hnm⟩ : ∃ v, v = bs (shotL s.i.toNat) := ⟨_, rfl⟩
    obtain ⟨txv, htx⟩ : ∃ v, v = bs (textS s) := ⟨_, rfl⟩
    rw [← hnm] at HF
    rw [← htx] at HC
    have Hnm := Lib.hid hnm
    have Htx := Lib.hid htx
    clear hnm htx
    have Htxl : Hid (txv.toList = (bs (textS s)).toList) := Lib.hid (by rw [Htx.out])
    go_enter Tryz.func12, Tryz.ntmps12
    go_wp2_with fail
    rw [← Hwa.out]
    refine (HV.out _).mono ?_
    rintro e w1 ⟨rfl, hb1⟩
    have B1 : Hid (Below w.heap.size w w1) := Lib.hid (Ba.out.trans (below_mono' hb1 Ba.out.size))
    have L1 : Hid (w.heap.size < w1.heap.size) := Lib.hid (Nat.lt_of_lt_of_le La.out hb1.size)
    have C1 : Hid (w1.cell? ⟨w.heap.size, 0, none⟩ = some (.int .i64 s.i) ∧ w1.cell? ⟨w.heap.size, 1, none⟩ = some (.int .i64 s.t) ∧ w1.cell? ⟨w.heap.size, 2, none⟩ = some (.string (bs s.d))) := Lib.hid
      ⟨(hb1.cell (p := ⟨w.heap.size, 0, none⟩) La.out).trans Hca.out.1, (hb1.cell (p := ⟨w.heap.size, 1, none⟩) La.out).trans Hca.out.2.1, (hb1.cell (p := ⟨w.heap.size, 2, none⟩) La.out).trans Hca.out.2.2⟩
    clear hb1 HV
    have N1 : Hid (∀ x : InW (Below w1.heap.size w1), Calls Tryz.prog 32 #[.agg #[.int .i64 s.i, .int .i64 s.t, .string (bs s.d)]] x.wd fun e w'' => e = .returned (.string nmv) ∧ ∃ m : InW (Below w1.heap.size w1), w'' = m.wd) := Lib.hid (fun x =>
      (HF.out x.wd (B1.out.trans (below_mono' x.ok B1.out.size))).mono fun e w'' ⟨he, hb⟩ => ⟨he, ⟨w'', x.ok.trans (below_mono' hb x.ok.size)⟩, rfl⟩)
    have N2 : Hid (∀ x : InW (Below w1.heap.size w1), Calls Tryz.prog 33 #[.agg #[.int .i64 s.i, .int .i64 s.t, .string (bs s.d)]] x.wd fun e w'' => e = .returned (.string txv) ∧ ∃ m : InW (Below w1.heap.size w1), w'' = m.wd) := Lib.hid (fun x =>
      (HC.out x.wd).mono fun e w'' ⟨he, hb⟩ => ⟨he, ⟨w'', x.ok.trans (below_mono' hb x.ok.size)⟩, rfl⟩)
    have K0 : ∀ x : InW (Below w1.heap.size w1), x.wd.cell? ⟨w.heap.size, 0, none⟩ = some (.int .i64 s.i) := fun x => (x.ok.cell (p := ⟨w.heap.size, 0, none⟩) L1.out).trans C1.out.1
    have K1 : ∀ x : InW (Below w1.heap.size w1), x.wd.cell? ⟨w.heap.size, 1, none⟩ = some (.int .i64 s.t) := fun x => (x.ok.cell (p := ⟨w.heap.size, 1, none⟩) L1.out).trans C1.out.2.1
    have K2 : ∀ x : InW (Below w1.heap.size w1), x.wd.cell? ⟨w.heap.size, 2, none⟩ = some (.string (bs s.d)) := fun x => (x.ok.cell (p := ⟨w.heap.size, 2, none⟩) L1.out).trans C1.out.2.2
    have hinh : Nonempty (InW (Below w1.heap.size w1)) := ⟨⟨w1, Below.refl _ w1⟩⟩
    go_wp2_with fail
    refine wp_region_quiet_in (Below w1.heap.size w1) (by kernel_rfl) (by kernel_rfl) ((Below.refl _ _).drew) ?_
    repeat (go_big_quiet_step (first | (go_at_call 32; exact N1.out _) | (go_at_call 33; exact N2.out _)))
    refine wpQuiet_nil ?_
    intro w3 hx3
    obtain ⟨x3, hx3⟩ := hx3
    have B3 : Hid (Below w.heap.size w w3) := Lib.hid (B1.out.trans (below_mono' (by rw [hx3]; exact x3.ok) B1.out.size))
    clear hx3 x3 K0 K1 K2 hinh N1 N2 C1 HF HC
    have HR := Lib.hid (read_none nmv w3)
    go_wp2_with fail
    refine HR.out.mono ?_
    rintro e w4 ⟨rfl, rfl⟩
    go_wp2
    go_ret
    exact ⟨by rw [Hx.out.1 Hok.out]; rfl, B3.out⟩
  · rw [decide_eq_false hok] at HV
    have Hx1 := Lib.hid (Hx.out.2 hok)
    unfold snapV at HV ⊢
    clear hok
    go_enter Tryz.func12, Tryz.ntmps12
    go_wp2_with fail
    rw [← Hwa.out]
    refine (HV.out _).mono ?_
    rintro e w1 ⟨rfl, hb1⟩
    go_wp2
    go_ret
    exact ⟨by rw [Hx1.out]; rfl, Ba.out.trans (below_mono' hb1 Ba.out.size)⟩
set_option maxRecDepth 100000 in
set_option maxHeartbeats 8000000 in
theorem clean_nil_any (w : World) : Calls Tryz.prog 14 #[.pointer none] w fun e w' => e = .returned (.int .i64 7) ∧ Below w.heap.size w w' := by
  have HL := Lib.hid (load_nil_any w)
  unfold NoneL loadV at HL
  go_enter Tryz.func14, Tryz.ntmps14
  go_wp2_with fail
  refine HL.out.mono ?_
  rintro e w1 ⟨rfl, hb1⟩
  go_wp2
  go_ret
  exact ⟨rfl, hb1.alloc hb1.size _⟩
def zS : Sh := ⟨0, 0, []⟩
theorem zS_data : bs [] = ({ data := #[] } : ByteArray) := by rw [bs_eq]
set_option maxRecDepth 100000 in
set_option maxHeartbeats 8000000 in
theorem none_law (s : Sh) (w : World) (hs : s.d.length ≤ 9223372036854775807) (ht : Tab w) : Calls Tryz.prog 7 #[snapV s] w fun e w' => e = .returned (.bool true) ∧ Below w.heap.size w w' := by
  have HT := Lib.hid (TabB.of ht)
  have HA := Lib.hid (fun (W : World) (hb : Below w.heap.size w W) => awake_any W (HT.out.on hb).here)
  have HL := Lib.hid (fun (W : World) => load_nil_any W)
  have HC := Lib.hid (fun (W : World) => clean_nil_any W)
  have HS := Lib.hid (fun (W : World) (hb : Below w.heap.size w W) => save_nil_any s W hs (HT.out.on hb).here)
  have HR := Lib.hid (fun (W : World) => refRight_any s W (by omega))
  have Heq := Lib.hid (fun W => eql_snap zS zS W)
  rw [show sameS zS zS = true from sameS_iff.2 rfl] at Heq
  unfold snapV zS at Heq
  simp only [zS_data] at Heq
  unfold NoneL loadV at HL
  unfold snapV at HS HR ⊢
  clear ht hs
  obtain ⟨wa, hwa⟩ : ∃ wa, wa = w.alloc (.cells #[.int .i64 s.i, .int .i64 s.t, .string (bs s.d)] 33) := ⟨_, rfl⟩
  have Ba : Hid (Below w.heap.size w wa) := Lib.hid (by rw [hwa]; exact (Below.refl _ _).alloc (Nat.le_refl _) _)
  have Ha : Hid (Holds wa w.heap.size 33 [.int .i64 s.i, .int .i64 s.t, .string (bs s.d)]) := Lib.hid (by rw [hwa]; exact Holds.new w 33 _)
  have Hwa := Lib.hid hwa
  clear hwa
  go_enter Tryz.func7, Tryz.ntmps7
  go_wp2_with fail
  rw [← Hwa.out]
  refine (HA.out _ Ba.out).mono ?_
  rintro e w1 ⟨rfl, hb1⟩
  have B1 := Lib.hid (Ba.out.trans (below_mono' hb1 Ba.out.size))
  have H1 := Lib.hid (Ha.out.below hb1 Ha.out.lt)
  clear hb1
  go_wp2_with fail
  refine (HL.out _).mono ?_
  rintro e w2 ⟨rfl, hb2⟩
  have B2 := Lib.hid (B1.out.trans (below_mono' hb2 B1.out.size))
  have H2 := Lib.hid (H1.out.below hb2 H1.out.lt)
  clear hb2
  obtain ⟨wb, hwb⟩ : ∃ wb, wb = w2.alloc (.cells #[.int .i64 0, .int .i64 0, .string { data := #[] }] 33) := ⟨_, rfl⟩
  have Bb : Hid (Below w2.heap.size w2 wb) := Lib.hid (by rw [hwb]; exact (Below.refl _ _).alloc (Nat.le_refl _) _)
  have Z2 : Hid (Holds wb w2.heap.size 33 [.int .i64 0, .int .i64 0, .string { data := #[] }]) := Lib.hid (by rw [hwb]; exact Holds.new w2 33 _)
  have Hwb := Lib.hid hwb
  obtain ⟨z, hz⟩ : ∃ z, z = w2.heap.size := ⟨_, rfl⟩
  have Hz := Lib.hid hz
  rw [← hz] at Z2
  clear hwb hz
  have B2b := Lib.hid (B2.out.trans (below_mono' Bb.out B2.out.size))
  have H2b := Lib.hid (H2.out.below Bb.out H2.out.lt)
  have k0 := fun o => (holds3 (H2.out.alloc o)).1
  have k1 := fun o => (holds3 (H2.out.alloc o)).2.1
  have k2 := fun o => (holds3 (H2.out.alloc o)).2.2
  go_wp2_with fail
  rw [← Hwb.out, ← Hz.out]
  refine (HS.out _ B2b.out).mono ?_
  rintro e w3 ⟨rfl, hb3⟩
  have B3 := Lib.hid (B2b.out.trans (below_mono' hb3 B2b.out.size))
  have Z3 := Lib.hid (Z2.out.below hb3 Z2.out.lt)
  have H3 := Lib.hid (H2b.out.below hb3 H2b.out.lt)
  clear hb3 k0 k1 k2
  obtain ⟨z0, z1, z2⟩ := holds3 Z3.out
  have heq := fun W => Heq.out W
  by_cases hok : okS s
  · rw [if_pos hok]
    clear HR
    go_wp2_with fail
    refine (HC.out _).mono ?_
    rintro e w4 ⟨rfl, hb4⟩
    go_wp2
    go_ret
    exact ⟨rfl, B3.out.trans (below_mono' hb4 B3.out.size)⟩
  · rw [if_neg hok]
    rw [decide_eq_false hok] at HR
    go_wp2_with fail
    refine (HC.out _).mono ?_
    rintro e w4 ⟨rfl, hb4⟩
    have B4 := Lib.hid (B3.out.trans (below_mono' hb4 B3.out.size))
    have H4 := Lib.hid (H3.out.below hb4 H3.out.lt)
    clear hb4 z0 z1 z2
    obtain ⟨y0, y1, y2⟩ := holds3 H4.out
    go_wp2_with fail
    refine (HR.out _).mono ?_
    rintro e w5 ⟨rfl, hb5⟩
    go_wp2
    go_ret
    exact ⟨rfl, B4.out.trans (below_mono' hb5 B4.out.size)⟩
end Go.Proofs.YtmgbmphheagdmaaGreatDoor
